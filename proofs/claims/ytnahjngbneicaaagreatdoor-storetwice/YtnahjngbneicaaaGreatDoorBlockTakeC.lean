import Derived.Test.YtnahjngbneicaaaGreatDoorPack13
namespace Go.Proofs.YtnahjngbneicaaaGreatDoor
open _root_.Go.Proofs.Tryz
set_option maxRecDepth 100000
open Go.RowKit
variable {W w:World} {cs:Array Value} {v:Value} {m:List UInt8}
structure TIn (w W:World) (cs:Array Value) (v:Value) (m:List UInt8):Prop where
 box:Br W w.heap.size cs
 rd:Rd W v m
 below:Below w.heap.size w W
theorem TIn.next {W':World} {v':Value} {m':List UInt8} (h:TIn w W cs v m) (a:Below W.heap.size W W') (b:Rd W' v' m'):TIn w W' cs v' m':=
 ⟨h.box.below a zL,b,h.below.trans (a.mono h.below.size)⟩
theorem TIn.set (h:TIn w W cs v m) (j:Nat) {n:Int} (a:cs[j]?=some (.int .i64 n)) (x:Value):TIn w (W.setCell ⟨w.heap.size,j,none⟩ x) (cs.setIfInBounds j x) v m:=
 ⟨h.box.set j x,h.rd.setInt ((h.box.cell j).1.trans a),h.below.setCell zL _⟩
set_option maxHeartbeats 2000000 in
theorem ZmE (v:Value) (m:List UInt8) (w:World) (H:Rd w v m) (ac:m.length<=1000000):
 Calls prog 169 #[v] w fun e w'=>∃ v',e=.returned (.tuple #[ZuH (Zdl m).1,.int .i64 (Zdl m).2.1,v',.bool (Zdl m).2.2.2])∧Rd w' v' (Zdl m).2.2.1∧Below w.heap.size w w':=by
 obtain⟨f,g,d,l,B,t,M⟩:=Zic m;have P:=ZZ M;have R:=ZbT (Zab m).2 m;have N:=ZbT (Zah f).2 f;have I:=ZbT (ZaC g).2 g;rw[<-l] at R;rw[<-B] at N;rw[<-t] at I
 have D:Hid (∀ W v,Rd W v m->Calls prog 167 #[v,.func (.func 168) #[] #[]] W fun e w'=>∃ v',e=.returned (.tuple #[.int .i64 ((Zab m).1:Nat),v',.bool (decide ((Zab m).2≠0))])∧Rd w' v' f∧Below W.heap.size W w'):=ZZ (fun W v h=>by
  have:=Zhh ((Zab m).1:Nat) (Zab m).2 v m W h (Zcj m) (ZfY v m W h);rw[<-l] at this
  exact this)
 have F:Hid (∀ W v,Rd W v f->Calls prog 167 #[v,.func (.func 201) #[] #[]] W fun e w'=>∃ v',e=.returned (.tuple #[.int .i64 (zag (Zah f).1),v',.bool (decide ((Zah f).2≠0))])∧Rd w' v' g∧Below W.heap.size W w'):=ZZ (fun W v h=>by
  have:=ZgK (zag (Zah f).1) (Zah f).2 v f W h (ZcM f) (ZcV v f W h);rw[<-B] at this
  exact this)
 have k:Hid (∀ W v,Rd W v g->Calls prog 208 #[v,.func (.func 209) #[] #[]] W fun e w'=>∃ v',e=.returned (.tuple #[opV (ZaC g).1,v',.bool (decide ((ZaC g).2≠0))])∧Rd w' v' d∧Below W.heap.size W w'):=ZZ (fun W v h=>by
  have:=ZvB v g W h (by omega)
  rw[<-t] at this
  exact this)
 have aa:Hid (∀ W v,Rd W v d->Calls prog 167 #[v,.func (.func 201) #[] #[]] W fun e w'=>∃ v',e=.returned (.tuple #[.int .i64 (zag (Zah d).1),v',.bool (decide ((Zah d).2≠0))])∧Rd w' v' (behind (Zah d).2 d)∧Below W.heap.size W w'):=ZZ (fun W v h=>ZgK (zag (Zah d).1) (Zah d).2 v d W h (ZcM d) (ZcV v d W h))
 have HR:=ZZ H;obtain⟨ao,cap,rfl,-⟩:=H;rw[P.o];clear M P l B t R N I;generalize decide ((Zah d).2≠0)=T at *;generalize behind (Zah d).2 d=u at *;generalize zag (Zah d).1=y at *;generalize zag (Zah f).1=x at *;generalize decide ((Zah f).2≠0)=T1 at *;generalize decide ((ZaC g).2≠0)=T2 at *;generalize decide ((Zab m).2≠0)=T0 at *;obtain⟨p,K⟩:∃ p:Int,p=((Zab m).1:Nat):=⟨_,rfl⟩;rw[<-K] at D ⊢;clear K;generalize (ZaC g).1=o at *;unfold opV at k;obtain⟨c,a,b⟩:=o
 dsimp only at k
 unfold ZuH
 dsimp only
 have A:Hid (TIn w (w.alloc (.cells #[.int .i64 0,.int .i64 0,.int .i64 0,.int .i64 0,.int .i64 0,.int .i64 0,.int .i64 0] 62)) #[.int .i64 0,.int .i64 0,.int .i64 0,.int .i64 0,.int .i64 0,.int .i64 0,.int .i64 0] (.slice ao m.length cap) m):=
  ⟨heap_alloc_new w _,HR.o.below ((Below.refl _ _).alloc zL _) zL,(Below.refl _ _).alloc zL _⟩
 go_enter func169,ntmps169
 go_wp2_with fail
 refine(D.o _ _ A.o.rd).mono ?_;rintro e W1 ⟨v1,rfl,Y,V⟩;have z:=ZZ (A.o.next V Y);obtain⟨p1,f1⟩:=z.o.box.cell 1;obtain⟨a1,c1,rfl,-⟩:=Y;have n:=ZZ (z.o.set 1 rfl (.int .i64 p));clear V A D
 go_wp2_with fail
 refine(F.o _ _ n.o.rd).mono ?_;rintro e W2 ⟨v2,rfl,X,Z⟩;have C:=ZZ (n.o.next Z X);obtain⟨a2,c2,rfl,-⟩:=X;clear Z z n F p1 f1
 go_wp2_with fail
 refine(k.o _ _ C.o.rd).mono ?_;rintro e W3 ⟨v3,rfl,Q,G⟩;have j:=ZZ (C.o.next G Q);obtain⟨p3,f3⟩:=j.o.box.cell 3;obtain⟨p4,f4⟩:=j.o.box.cell 4;obtain⟨p5,f5⟩:=j.o.box.cell 5;obtain⟨a3,c3,rfl,-⟩:=Q;have q:=ZZ (((j.o.set 3 rfl (.int .i64 c)).set 4 rfl (.int .i64 a)).set 5 rfl (.int .i64 b));clear G C k
 go_wp2_with fail
 refine(aa.o _ _ q.o.rd).mono ?_;rintro e E ⟨v4,rfl,U,S⟩;have J:=ZZ (q.o.next S U);obtain⟨O,L,rfl,-⟩:=U;have i:Br E w.heap.size #[.int .i64 0,.int .i64 p,.int .i64 0,.int .i64 c,.int .i64 a,.int .i64 b,.int .i64 0]:=J.o.box;have ab:Hid (TIn w (E.setCell ⟨w.heap.size,6,none⟩ (.int .i64 y)) #[.int .i64 0,.int .i64 p,.int .i64 0,.int .i64 c,.int .i64 a,.int .i64 b,.int .i64 y] (.slice O u.length L) u):=J.o.set 6 rfl (.int .i64 y);obtain⟨q0,g0⟩:=i.cell 0;obtain⟨q1,g1⟩:=i.cell 1;obtain⟨q2,g2⟩:=i.cell 2;obtain⟨q3,g3⟩:=i.cell 3;obtain⟨q4,g4⟩:=i.cell 4;obtain⟨q5,g5⟩:=i.cell 5;obtain⟨q6,g6⟩:=i.cell 6;clear S j q aa p3 p4 p5 f3 f4 f5;go_wp2;refine bodyPost_ret (v:=.tuple #[.agg #[.int .i64 0,.int .i64 p,.int .i64 0,.int .i64 c,.int .i64 a,.int .i64 b,.int .i64 y],.int .i64 x,.slice O u.length L,.bool T]) (by simp[results,Tryz.results169,go_sem,q0,q1,q2,q3,q4,q5,q6]) rfl ?_
 have h:=(((((((ab.o.set 0 rfl (.int .i64 0)).set 1 rfl (.int .i64 p)).set 2 rfl (.int .i64 0)).set 3 rfl (.int .i64 c)).set 4 rfl (.int .i64 a)).set 5 rfl (.int .i64 b)).set 6 rfl (.int .i64 y));exact⟨_,rfl,h.rd,h.below⟩
end Go.Proofs.YtnahjngbneicaaaGreatDoor
