import Derived.Test.YtnahjngbneicaaaGreatDoorPack13
namespace Go.Proofs.YtnahjngbneicaaaGreatDoor
open _root_.Go.Proofs.Tryz
set_option maxRecDepth 100000
open Go.RowKit
variable {W w:World} {cs:Array Value} {v:Value} {m:List UInt8}
structure TIn (w W:World) (cs:Array Value) (v:Value) (m:List UInt8):Prop where
 box:Br W w.heap.size cs
 rd:Rd W v m
 below:Below w.heap.size w W
theorem TIn.next {W':World} {v':Value} {m':List UInt8} (h:TIn w W cs v m) (a:Below W.heap.size W W') (b:Rd W' v' m'):TIn w W' cs v' m':=
 ⟨h.box.below a zL,b,h.below.trans (a.mono h.below.size)⟩
theorem TIn.set (h:TIn w W cs v m) (j:Nat) {n:Int} (a:cs[j]?=some (.int .i64 n)) (x:Value):TIn w (W.setCell ⟨w.heap.size,j,none⟩ x) (cs.setIfInBounds j x) v m:=
 ⟨h.box.set j x,h.rd.setInt ((h.box.cell j).1.trans a),h.below.setCell zL _⟩
set_option maxHeartbeats 2000000 in
theorem Zjo (v:Value) (m:List UInt8) (w:World) (X:Rd w v m) (ac:m.length<=1000000):
 Calls prog 169 #[v] w fun e w'=>∃ v',e=.returned (.tuple #[Zrr (Z5 m).1,.int .i64 (Z5 m).2.1,v',.bool (Z5 m).2.2.2])∧Rd w' v' (Z5 m).2.2.1∧Below w.heap.size w w':=by
 obtain⟨f,g,d,t,q,D,S⟩:=ZeM m;have V:=ZZ S;have M:=Zn (Qb m).2 m;have P:=Zn (Qd f).2 f;have Z:=Zn (Q0 g).2 g;rw[<-t] at M;rw[<-q] at P;rw[<-D] at Z
 have l:Hid (∀ W v,Rd W v m->Calls prog 167 #[v,.func (.func 168) #[] #[]] W fun e w'=>∃ v',e=.returned (.tuple #[.int .i64 ((Qb m).1:Nat),v',.bool (decide ((Qb m).2≠0))])∧Rd w' v' f∧Below W.heap.size W w'):=ZZ (fun W v h=>by
  have:=ZdR ((Qb m).1:Nat) (Qb m).2 v m W h (Z3 m) (ZcI v m W h);rw[<-t] at this
  exact this)
 have U:Hid (∀ W v,Rd W v f->Calls prog 167 #[v,.func (.func 201) #[] #[]] W fun e w'=>∃ v',e=.returned (.tuple #[.int .i64 (zag (Qd f).1),v',.bool (decide ((Qd f).2≠0))])∧Rd w' v' g∧Below W.heap.size W w'):=ZZ (fun W v h=>by
  have:=Zdu (zag (Qd f).1) (Qd f).2 v f W h (Jz f) (Zaj v f W h);rw[<-q] at this
  exact this)
 have k:Hid (∀ W v,Rd W v g->Calls prog 208 #[v,.func (.func 209) #[] #[]] W fun e w'=>∃ v',e=.returned (.tuple #[opV (Q0 g).1,v',.bool (decide ((Q0 g).2≠0))])∧Rd w' v' d∧Below W.heap.size W w'):=ZZ (fun W v h=>by
  have:=Zsl v g W h (by omega)
  rw[<-D] at this
  exact this)
 have J:Hid (∀ W v,Rd W v d->Calls prog 167 #[v,.func (.func 201) #[] #[]] W fun e w'=>∃ v',e=.returned (.tuple #[.int .i64 (zag (Qd d).1),v',.bool (decide ((Qd d).2≠0))])∧Rd w' v' (behind (Qd d).2 d)∧Below W.heap.size W w'):=ZZ (fun W v h=>Zdu (zag (Qd d).1) (Qd d).2 v d W h (Jz d) (Zaj v d W h))
 have HR:=ZZ X;obtain⟨ao,cap,rfl,-⟩:=X;rw[V.o];clear S V t q D M P Z;generalize decide ((Qd d).2≠0)=T at *;generalize behind (Qd d).2 d=u at *;generalize zag (Qd d).1=y at *;generalize zag (Qd f).1=x at *;generalize decide ((Qd f).2≠0)=T1 at *;generalize decide ((Q0 g).2≠0)=T2 at *;generalize decide ((Qb m).2≠0)=T0 at *;obtain⟨p,K⟩:∃ p:Int,p=((Qb m).1:Nat):=⟨_,rfl⟩;rw[<-K] at l ⊢;clear K;generalize (Q0 g).1=o at *;unfold opV at k;obtain⟨c,a,b⟩:=o
 dsimp only at k
 unfold Zrr
 dsimp only
 have A:Hid (TIn w (w.alloc (.cells #[.int .i64 0,.int .i64 0,.int .i64 0,.int .i64 0,.int .i64 0,.int .i64 0,.int .i64 0] 62)) #[.int .i64 0,.int .i64 0,.int .i64 0,.int .i64 0,.int .i64 0,.int .i64 0,.int .i64 0] (.slice ao m.length cap) m):=
  ⟨heap_alloc_new w _,HR.o.below ((Below.refl _ _).alloc zL _) zL,(Below.refl _ _).alloc zL _⟩
 go_enter func169,ntmps169
 go_wp2_with fail
 refine(l.o _ _ A.o.rd).mono ?_;rintro e W1 ⟨v1,rfl,L,Q⟩;have z:=ZZ (A.o.next Q L);obtain⟨p1,f1⟩:=z.o.box.cell 1;obtain⟨a1,c1,rfl,-⟩:=L;have C:=ZZ (z.o.set 1 rfl (.int .i64 p));clear Q A l
 go_wp2_with fail
 refine(U.o _ _ C.o.rd).mono ?_;rintro e W2 ⟨v2,rfl,R,N⟩;have n:=ZZ (C.o.next N R);obtain⟨a2,c2,rfl,-⟩:=R;clear N z C U p1 f1
 go_wp2_with fail
 refine(k.o _ _ n.o.rd).mono ?_;rintro e W3 ⟨v3,rfl,aa,I⟩;have j:=ZZ (n.o.next I aa);obtain⟨p3,f3⟩:=j.o.box.cell 3;obtain⟨p4,f4⟩:=j.o.box.cell 4;obtain⟨p5,f5⟩:=j.o.box.cell 5;obtain⟨a3,c3,rfl,-⟩:=aa;have B:=ZZ (((j.o.set 3 rfl (.int .i64 c)).set 4 rfl (.int .i64 a)).set 5 rfl (.int .i64 b));clear I n k
 go_wp2_with fail
 refine(J.o _ _ B.o.rd).mono ?_;rintro e H ⟨v4,rfl,F,E⟩;have G:=ZZ (B.o.next E F);obtain⟨O,Y,rfl,-⟩:=F;have i:Br H w.heap.size #[.int .i64 0,.int .i64 p,.int .i64 0,.int .i64 c,.int .i64 a,.int .i64 b,.int .i64 0]:=G.o.box;have ab:Hid (TIn w (H.setCell ⟨w.heap.size,6,none⟩ (.int .i64 y)) #[.int .i64 0,.int .i64 p,.int .i64 0,.int .i64 c,.int .i64 a,.int .i64 b,.int .i64 y] (.slice O u.length Y) u):=G.o.set 6 rfl (.int .i64 y);obtain⟨q0,g0⟩:=i.cell 0;obtain⟨q1,g1⟩:=i.cell 1;obtain⟨q2,g2⟩:=i.cell 2;obtain⟨q3,g3⟩:=i.cell 3;obtain⟨q4,g4⟩:=i.cell 4;obtain⟨q5,g5⟩:=i.cell 5;obtain⟨q6,g6⟩:=i.cell 6;clear E j B J p3 p4 p5 f3 f4 f5;go_wp2;refine bodyPost_ret (v:=.tuple #[.agg #[.int .i64 0,.int .i64 p,.int .i64 0,.int .i64 c,.int .i64 a,.int .i64 b,.int .i64 y],.int .i64 x,.slice O u.length Y,.bool T]) (by simp[results,Tryz.results169,go_sem,q0,q1,q2,q3,q4,q5,q6]) rfl ?_
 have h:=(((((((ab.o.set 0 rfl (.int .i64 0)).set 1 rfl (.int .i64 p)).set 2 rfl (.int .i64 0)).set 3 rfl (.int .i64 c)).set 4 rfl (.int .i64 a)).set 5 rfl (.int .i64 b)).set 6 rfl (.int .i64 y));exact⟨_,rfl,h.rd,h.below⟩
end Go.Proofs.YtnahjngbneicaaaGreatDoor
