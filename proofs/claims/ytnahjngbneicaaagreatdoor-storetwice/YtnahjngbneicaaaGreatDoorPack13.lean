import Derived.Test.YtnahjngbneicaaaGreatDoorPack12
namespace Go.Proofs.YtnahjngbneicaaaGreatDoor
open _root_.Go.Proofs.Tryz
open List (append_assoc drop_drop length_append length_cons length_drop mem_cons mem_of_mem_take take_length)
set_option maxHeartbeats 4000000
set_option maxRecDepth 100000
open Go.RowKit
variable {w w':World} {B C b first g k:Nat} {cs:Array Value} {l m:List UInt8} {L:List Rec} {t:Bool}
def Zsf (w:World) (b:List UInt8) (e:Ending) (w':World):Prop:=
 ∃ (vl vt:Value) (S:St) (t:List Ent) (ok:Bool),e=.returned (.tuple #[.agg #[.int .i64 S.kind,vl,.bool S.shut,.int .i64 S.eng],vt,.bool ok])∧RdI w' vl S.L∧I64 S.kind∧I64 S.eng∧RdE w' vt t∧(∀ k,vl.ownBlock=some k->w.heap.size<=k)∧(∀ k,vt.ownBlock=some k->w.heap.size<=k)∧
  (ok=false->(Yf b).2=3)∧(ok=true->∃ er,Yf b=(⟨0,S,t⟩,er)∧(er=0∨(er=1∧S=ZcA)))∧Below w.heap.size w w'
theorem Zsf.none {b:List UInt8} (h:(Yf b).2=3) (c:Below w.heap.size w w'):Zsf w b (.returned (.tuple #[.agg #[.int .i64 0,.slice none 0 0,.bool false,.int .i64 0],.slice none 0 0,.bool false])) w':=
 ⟨_,_,ZcA,[],false,rfl,RdI.nil _,(Qk (by decide) (by decide):I64 0),(Qk (by decide) (by decide):I64 0),RdE.nil _,(fun k a=>by simp[Value.ownBlock] at a),(fun k a=>by simp[Value.ownBlock] at a),(fun _=>h),(fun h=>by cases h),c⟩
theorem Zwv (ao:Option Addr) (l:List UInt8) (cap:Nat) (g:l.length<=cap) (j:Nat) (f:j<=l.length):
 ∃ a c b,(∀ W,(Instr.sliceAt 53 (.slice ao l.length cap) none (some (.int .i64 (j:Int))) (some (.int .i64 (j:Int)))).run prog W=.ok (.slice a c b) W)∧∀ W,Rd W (.slice ao l.length cap) l->Rd W (.slice a c b) (l.take j):=by
 have d:∃ a c b,sliced ao 0 j j 1=.slice a c b:=by
  unfold sliced;exact⟨_,_,_,rfl⟩
 obtain⟨a,c,b,d⟩:=d;refine⟨a,c,b,fun W=>?_,fun W h=>?_⟩
 ·rw[run_sliceAt_slice W 53 _ _ _ _ Xf,run_slice_hm W 53 ao l.length cap Xf .i64 .i64 (j:Int) (j:Int) (by omega) (by omega) (by omega),Zw,Zcd]
  simp only [Int.toNat_natCast];rw[<-d];rfl
 ·rw[<-d]
  have e:=h.mid 0 j j (Nat.zero_le _) f zL (by omega)
  rw[List.drop_zero,Nat.sub_zero] at e;exact e
def four (w:World) (R:Nat) (x0 x1 x2 x3:Value):World:=(((w.setCell ⟨R,0,none⟩ x0).setCell ⟨R,1,none⟩ x1).setCell ⟨R,2,none⟩ x2).setCell ⟨R,3,none⟩ x3
theorem Zdi {b:World} (h:Below C b w) (R:Nat) (a:C<=R) (d e c f:Value):Below C b ((((w.setCell ⟨R,0,none⟩ d).setCell ⟨R,1,none⟩ e).setCell ⟨R,2,none⟩ c).setCell ⟨R,3,none⟩ f):=
 (((h.setCell a _).setCell a _).setCell a _).setCell a _
theorem Zww (w:World) (R:Nat) (b c a d:Value):But R R w ((((w.setCell ⟨R,0,none⟩ b).setCell ⟨R,1,none⟩ c).setCell ⟨R,2,none⟩ a).setCell ⟨R,3,none⟩ d):=
 ((((But.refl R R w).set _ _ (.inl rfl) _).set _ _ (.inl rfl) _).set _ _ (.inl rfl) _).set _ _ (.inl rfl) _
theorem Zlr (v:Value) (b:List UInt8) (w:World) (hr:Rd w v b) (bc:b.length<=100000):
 Calls prog 117 #[v] w fun e w'=>Zsf w b e w':=by
 obtain⟨d,X⟩:∃ d,d=((w.alloc (.cells #[.int .i64 0,.slice none 0 0,.bool false,.int .i64 0] 38)).alloc (.cells #[.int .i64 0] 3)).alloc (.cells #[.pointer (some ⟨w.heap.size+1,0,none⟩)] 208):=⟨_,rfl⟩;have g:=Zip w (.cells #[.int .i64 0,.slice none 0 0,.bool false,.int .i64 0] 38) (.cells #[.int .i64 0] 3) (.cells #[.pointer (some ⟨w.heap.size+1,0,none⟩)] 208);rw[<-X] at g;obtain⟨hA,hB,hC⟩:=g;have aj:Hid (Below w.heap.size w d):=ZZ (by rw[X];exact(((Below.refl _ _).alloc zL _).alloc (by simp) _).alloc (by simp;omega) _)
 have aw:Bx d w.heap.size #[.int .i64 0,.slice none 0 0,.bool false,.int .i64 0]:=hA
 have ap:=ZZ (Zat (w.heap.size+1+1) [(w.heap.size+1,0)] v b d (hr.below aj.o zL) (fun p I=>by
  rw[List.mem_singleton.1 I]
  exact⟨⟨⟨0,cell_of_row d (w.heap.size+1) 0 _ _ _ hB⟩,frozen_of_row d (w.heap.size+1) 0 _ _ hB⟩,by simp⟩) (by simp) hC 1 rfl)
 have aL:Hid (∀ n:Nat,(d.setCell ⟨w.heap.size+1,0,none⟩ (.int .i64 (n:Int))).cell? ⟨w.heap.size+1,0,none⟩=some (.int .i64 (n:Int))):=ZZ (fun n=>World.cell?_setCell_same _ _ _ (cell_of_row d (w.heap.size+1) 0 _ _ _ hB))
 have aH:Hid (∀ ns,Below w.heap.size w (Yl d ([(w.heap.size+1,0)].take (List.length ns)) ns)):=ZZ (fun ns=>Zbb d _ ns _ w (fun p I=>by
  have:=mem_of_mem_take I;rw[List.mem_singleton.1 this]
  simp) aj.o)
 have aB:Hid (∀ ns,Bx (Yl d ([(w.heap.size+1,0)].take (List.length ns)) ns) w.heap.size #[.int .i64 0,.slice none 0 0,.bool false,.int .i64 0]):=ZZ (fun ns=>(Zba d _ ns _ (fun p I=>by
  have:=mem_of_mem_take I;rw[List.mem_singleton.1 this]
  simp)).trans aw)
 have ai:=ZZ (fun ns l h=>Ziq (b:=b) (ns:=ns) (l:=l) h)
 have ae:=ZZ (fun h=>Zir (b:=b) h)
 have A:Hid (Yf b=if(Qb b).2=0∨b.length<(Qb b).2+(Qb b).1 then(Xr,3) else if(ZeV ((b.drop (Qb b).2).take (Qb b).1)).2=3 then(Xr,3) else match ZbK (b.drop ((Qb b).2+(Qb b).1)) with
  | none=>(Xr,3)
  | some t=>(⟨0,(ZeV ((b.drop (Qb b).2).take (Qb b).1)).1,t⟩,(ZeV ((b.drop (Qb b).2).take (Qb b).1)).2)):=ZZ rfl
 have hd:=Z3 b
 have a9:(Qb b).1<4611686018427387904:=by
  rcases Q4 b with h | h
  ·rw[h];decide
  ·exact h.1
 have aQ:=ZZ (fun N l W h h2=>Zit N l W h h2)
 have aA:=ZZ (fun N l W h h2=>Zlp N l W h h2)
 have ax:Hid ([(w.heap.size+1,0)].length=1):=ZZ rfl;rw[ax.o] at ap;generalize Y0 1 b=GL at *;have aK:=ZZ hr;obtain⟨va,vc,hv⟩:∃ a c,v=.slice a b.length c:=by obtain⟨a,c,h,-⟩:=hr;exact⟨a,c,h⟩
 subst hv;clear hr hA hB hC aw ax
 go_enter func117,ntmps117
 go_wp2_with fail
 rw[<-X];refine ap.o.mono ?_;rintro e z ⟨N,l,ns,rfl,az,aC,ao,aJ,aI,O⟩;have C:Hid (Below w.heap.size w z):=ZZ ((aH.o ns).trans (O.below _));have x:Hid (Bx z w.heap.size #[.int .i64 0,.slice none 0 0,.bool false,.int .i64 0]):=ZZ ((aB.o ns).below (O.below (Yl d ([(w.heap.size+1,0)].take ns.length) ns).heap.size) zL);have a0:=ZZ az;have P:=ZZ (az z (aK.o.below C.o zL));obtain⟨a1,c1,a5⟩:∃ a c,N=.slice a l.length c:=by obtain⟨a,c,h,-⟩:=P.o;exact⟨a,c,h⟩
 subst a5;obtain⟨j,y0⟩:=x.o.cell 0;obtain⟨y,y1⟩:=x.o.cell 1;obtain⟨q,y2⟩:=x.o.cell 2;obtain⟨B,y3⟩:=x.o.cell 3;clear ap aH aj X aB
 cases GL with
 | none=>
  have G:Hid ((Yf b).2=3):=ZZ (by rw[A.o,if_pos (.inl (ae.o rfl))])
  clear aC ao aJ aI O A ae ai;go_wp2;refine bodyPost_ret (v:=.tuple #[.agg #[.int .i64 0,.slice none 0 0,.bool false,.int .i64 0],.slice none 0 0,.bool false]) (by simp[results,Tryz.results117,go_sem,j,y,q,B]) rfl ?_
  exact Zsf.none G.o (Zdi C.o _ zL _ _ _ _)
 | some gp=>
  have:=ao gp rfl;subst this;obtain⟨g1,g2,g3⟩:=ai.o _ _ rfl;subst g2;have aR:l.length=b.length-(Qb b).2:=by rw[g3,length_drop]
  have af:z.cell? ⟨w.heap.size+1,0,none⟩=some (.int .i64 ((Qb b).1:Int)):=by
   rw[O.cell];exact aL.o _
  rw[<-drop_drop,<-g3] at A;generalize (Qb b).1=n at *;generalize (Qb b).2=k at *;clear aC ao aJ aI O ae ai g3 aL;by_cases a3:l.length<n
  ·have G:Hid ((Yf b).2=3):=ZZ (by rw[A.o,if_pos (.inr (by omega))])
   have aU:(l.length:Int)<(n:Int):=by omega
   clear aR A;go_wp2;refine bodyPost_ret (v:=.tuple #[.agg #[.int .i64 0,.slice none 0 0,.bool false,.int .i64 0],.slice none 0 0,.bool false]) (by simp[results,Tryz.results117,go_sem,j,y,q,B]) rfl ?_
   exact Zsf.none G.o (Zdi C.o _ zL _ _ _ _)
  have aU:¬ (l.length:Int)<(n:Int):=by omega
  have am:l.length<=c1:=by
   obtain⟨a',c',h,h2,-⟩:=P.o;simp only [Value.slice.injEq] at h;omega
  obtain⟨xa,xn,xc,be,aD⟩:=Zwv a1 l c1 am n (by omega)
  obtain⟨ua,uc,bd,aM⟩:=ZgI a1 l c1 am n (by omega)
  have U:=ZZ (aQ.o _ (l.take n) z (aD z P.o) (by rw[List.length_take];omega))
  have a6:=ZZ (fun W h=>aM W (a0.o W h))
  have aZ:=ZZ (fun v2 W h=>aA.o v2 (l.drop n) W h (by rw[length_drop];omega))
  have Z:Hid (Yf b=if(ZeV (l.take n)).2=3 then(Xr,3) else match ZbK (l.drop n) with
   | none=>(Xr,3)
   | some t=>(⟨0,(ZeV (l.take n)).1,t⟩,(ZeV (l.take n)).2)):=ZZ (by rw[A.o,if_neg (by omega)])
  have aP:=ZZ (ZqH (l.take n));clear aD aM A aQ aA aR a3 am hd g1;generalize ZeV (l.take n)=DS at *;generalize ZbK (l.drop n)=TL at *;generalize l.drop n=l2 at *;obtain⟨⟨M,m,L,K⟩,er⟩:=DS;unfold Zau at U
  dsimp only at U Z aP
  go_wp2_with fail
  refine U.o.mono ?_;rintro e i ⟨vl,rfl,an,ar,aN,aO,R⟩;obtain⟨H,lc,aX⟩:∃ a c,vl=.slice a m.length c:=by obtain⟨a,c,h,-⟩:=an;exact⟨a,c,h⟩
  subst aX;have ba:=C.o.size;have ag:=ZZ (C.o.trans (R.mono C.o.size));have al:=ZZ (x.o.below R zL);have ac:i.cell? ⟨w.heap.size+1,0,none⟩=some (.int .i64 (n:Int)):=(R.cell (p:=⟨w.heap.size+1,0,none⟩) (World.block_lt_of_cell? z ⟨w.heap.size+1,0,none⟩ af)).trans af;have aF:=ZZ an;have aG:=ZZ (And.intro ar aN)
  have aq:Hid (∀ k,(Value.slice H m.length lc).ownBlock=some k->w.heap.size<k):=ZZ (fun k f=>by
   have J:=aO k f;have h2:=x.o.lt
   omega)
  clear af an ar aN aO R U j y q B y0 y1 y2 y3 x P;obtain⟨D,V⟩:∃ D,D=i.alloc (.cells #[.int .i64 M,.slice H m.length lc,.bool L,.int .i64 K] 38):=⟨_,rfl⟩;have F:Hid (Below i.heap.size i D):=ZZ (by rw[V];exact(Below.refl _ _).alloc zL _)
  have ad:Hid (Bx D i.heap.size #[.int .i64 M,.slice H m.length lc,.bool L,.int .i64 K]):=ZZ (by rw[V];exact heap_alloc_new i _)
  have Q:=ZZ (ag.o.trans (F.o.mono ag.o.size));have u:=ZZ (al.o.below F.o zL);have a4:D.cell? ⟨w.heap.size+1,0,none⟩=some (.int .i64 (n:Int)):=(F.o.cell (p:=⟨w.heap.size+1,0,none⟩) (World.block_lt_of_cell? i ⟨w.heap.size+1,0,none⟩ ac)).trans ac;have aE:=ZZ (aF.o.below F.o zL)
  go_upto_region 6 with fail
  rw[<-V];obtain⟨QB,aS⟩:∃ QB,QB=i.heap.size:=⟨_,rfl⟩;have bb:w.heap.size<QB:=by have:=al.o.lt;omega
  rw[<-aS] at ad ⊢;clear V ac aS aF al ag F;by_cases g:er=3
  ·have a2:(er == 3)=true:=beq_iff_eq.2 g
   have G:Hid ((Yf b).2=3):=ZZ (by rw[Z.o,if_pos g])
   obtain⟨j,y0⟩:=u.o.cell 0;obtain⟨y,y1⟩:=u.o.cell 1;obtain⟨q,y2⟩:=u.o.cell 2;obtain⟨B,y3⟩:=u.o.cell 3;clear g;go_wp2;refine bodyPost_ret (v:=.tuple #[.agg #[.int .i64 0,.slice none 0 0,.bool false,.int .i64 0],.slice none 0 0,.bool false]) (by simp[results,Tryz.results117,go_sem,j,y,q,B]) rfl ?_
   exact Zsf.none G.o (Zdi Q.o _ zL _ _ _ _)
  have a2:(er == 3)=false:=beq_eq_false_iff_ne.2 g;have ak:=ZZ g;clear g
  go_wp2_with fail
  refine(aZ.o _ _ (a6.o D (aK.o.below Q.o zL))).mono ?_;rintro e W4 ⟨vt,t,rfl,T,au,av,E⟩;obtain⟨ta,tc,a7⟩:=T.shape;subst a7;have aY:=ZZ (Q.o.trans (E.mono Q.o.size));have Y:=ZZ (u.o.below E zL);have aa:=ZZ (ad.o.below E zL);have a8:=ZZ (aE.o.below E zL);have aW:=ZZ (T.rd au)
  have ay:Hid (∀ k,(Value.slice ta t.length tc).ownBlock=some k->w.heap.size<k):=ZZ (fun k f=>by
   have J:=(World.ownsRow.lt T k f).1;have h2:=u.o.lt
   omega)
  have aV:=ZZ av;clear T au av E a4 u ad aE;obtain⟨j,y0⟩:=Y.o.cell 0;obtain⟨y,y1⟩:=Y.o.cell 1;obtain⟨q,y2⟩:=Y.o.cell 2;obtain⟨B,y3⟩:=Y.o.cell 3;obtain⟨s0,-⟩:=aa.o.cell 0;obtain⟨s1,-⟩:=aa.o.cell 1;obtain⟨s2,-⟩:=aa.o.cell 2;obtain⟨s3,-⟩:=aa.o.cell 3;obtain⟨ok,ab⟩:∃ ok,ok=TL.isSome:=⟨_,rfl⟩;rw[<-ab];have S:=ZZ ab;clear ab;go_wp2;refine bodyPost_ret (v:=.tuple #[.agg #[.int .i64 M,.slice H m.length lc,.bool L,.int .i64 K],.slice ta t.length tc,.bool ok]) (by simp[results,Tryz.results117,go_sem,j,y,q,B]) rfl ?_
  have aT:=Zww W4 w.heap.size (.int .i64 M) (.slice H m.length lc) (.bool L) (.int .i64 K);refine⟨_,_,⟨M,m,L,K⟩,t,ok,rfl,a8.o.but aT (.inr fun k f=>by have:=aq.o k f;omega),aG.o.1,aG.o.2,aW.o.but aT (.inr fun k f=>by have:=ay.o k f;omega),(fun k f=>Nat.le_of_lt (aq.o k f)),(fun k f=>Nat.le_of_lt (ay.o k f)),(fun h=>?_),(fun h=>?_),Zdi aY.o _ zL _ _ _ _⟩
  ·rw[Z.o,if_neg ak.o]
   cases TL with
   | none=>rfl
   | some t'=>rw[h] at S;cases S.o
  ·cases TL with
   | none=>rw[h] at S;cases S.o
   | some t'=>
    refine⟨er,by rw[Z.o,if_neg ak.o,aV.o t' rfl],?_⟩
    rcases aP.o with J | ⟨J,h2 | h2⟩
    ·exact .inl J
    ·exact absurd h2 ak.o
    ·exact .inr ⟨h2,J⟩
def Bq (w:World) (b:Nat) (cs:Array Value):Prop:=w.heap[b]?=some (.cells cs 147 (0,0))
theorem Bq.lt (h:Bq w b cs):b<w.heap.size:=(Array.getElem?_eq_some_iff.1 h).1
theorem Bq.below (h:Bq w b cs) (a:Below B w w') (c:w.heap.size<=B):Bq w' b cs:=(a.block b (by have:=h.lt;omega)).trans h
theorem Bq.cell (h:Bq w b cs) (j:Nat):w.cell? ⟨b,j,none⟩=cs[j]?∧w.frozen? ⟨b,j,none⟩=false:=⟨cell_of_row w b j _ _ _ h,frozen_of_row w b j _ _ h⟩
theorem Bq.set (h:Bq w b cs) (j:Nat) (x:Value):Bq (w.setCell ⟨b,j,none⟩ x) b (cs.setIfInBounds j x):=by
 have:=heap_setCell_same w b j _ _ x h;unfold Bq;simpa using this
theorem Bq.other {c:Nat} (h:Bq w b cs) (j:Nat) (x:Value) (a:b≠c):Bq (w.setCell ⟨c,j,none⟩ x) b cs:=(Below.heap_setCell _ _ _ _ a).trans h
theorem Zwx (w:World) (x y z u:Obj):((((w.alloc x).alloc y).alloc z).alloc u).heap[w.heap.size]?=some x∧((((w.alloc x).alloc y).alloc z).alloc u).heap[w.heap.size+1]?=some y∧((((w.alloc x).alloc y).alloc z).alloc u).heap[w.heap.size+2]?=some z∧((((w.alloc x).alloc y).alloc z).alloc u).heap[w.heap.size+3]?=some u:=by
 obtain⟨a,b,c⟩:=Zip w x y z;refine⟨(Below.heap_alloc _ _ _ (by simp;omega)).trans a,(Below.heap_alloc _ _ _ (by simp)).trans b,(Below.heap_alloc _ _ _ (by simp)).trans c,?_⟩
 have:=heap_alloc_new (((w.alloc x).alloc y).alloc z) u;simpa using this
theorem Zsg {d:List UInt8} (h:¬ (d.length<1∨(d.getD 0 0).toNat≠115)):Yg d=match Y0 3 (d.drop 1) with
 | none=>(0,0,0,3)
 | some (ns,l)=>if ns.getD 0 0≠3 then(0,0,0,6) else if l.length≠4 then(0,0,0,3) else(ns.getD 1 0,ns.getD 2 0,Lib.leNat l,0):=by
 unfold Yg;rw[if_neg h,Y0];by_cases a:(Qb (d.drop 1)).2=0
 ·rw[if_pos (.inl a),if_pos a]
 rw[if_neg a,Y0];simp only [drop_drop];by_cases b:(Qb (d.drop (1+(Qb (d.drop 1)).2))).2=0
 ·rw[if_pos (.inr (.inl b)),if_pos b]
  rfl
 rw[if_neg b,ZeJ];simp only [drop_drop];by_cases c:(Qb (d.drop (1+(Qb (d.drop 1)).2+(Qb (d.drop (1+(Qb (d.drop 1)).2))).2))).2=0
 ·rw[if_pos (.inr (.inr c)),if_pos c]
  rfl
 ·rw[if_neg (by omega),if_neg c]
  simp only [Option.map_some,List.getD_cons_zero,List.getD_cons_succ]
theorem Znh:∀ (n:Nat) (b:List UInt8) (ns:List Nat) (l:List UInt8),Y0 n b=some (ns,l)->ns.length=n
 | 0,b,ns,l,h=>by
  injection h with h
  injection h with h _
  rw[<-h];rfl
 | n+1,b,ns,l,h=>by
  rw[Y0] at h;split at h
  ·cases h
  ·cases hg:Y0 n (b.drop (Qb b).2) with
   | none=>rw[hg] at h;cases h
   | some r=>
    rw[hg] at h
    injection h with h
    injection h with h _
    obtain⟨a,m⟩:=r;rw[<-h,length_cons,Znh n _ a m hg]
theorem ZuB {W:World} {R Q:Nat} (e:R≠Q) (h:Bq W R #[.int .i64 0,.int .i64 0,.int .u32 0]) (f:W.heap[Q]?=some (.cells #[.int .i64 0] 3 (0,0))) (ns:List Nat) (g:ns.length<=3):
 ∃ u x y:Int,Bq (Yl W ([(Q,0),(R,0),(R,1)].take ns.length) ns) R #[.int .i64 x,.int .i64 y,.int .u32 0]∧(Yl W ([(Q,0),(R,0),(R,1)].take ns.length) ns).cell? ⟨Q,0,none⟩=some (.int .i64 u)∧(ns.length=3->u=((ns.getD 0 0:Nat):Int)∧x=((ns.getD 1 0:Nat):Int)∧y=((ns.getD 2 0:Nat):Int)):=by
 have d:W.cell? ⟨Q,0,none⟩=some (.int .i64 0):=cell_of_row W Q 0 _ _ _ f
 match ns,g with
 | [],_=>exact⟨0,0,0,h,d,fun h=>absurd h (by simp)⟩
 | [a],_=>exact⟨a,0,0,h.other 0 _ e,World.cell?_setCell_same _ _ _ d,fun h=>absurd h (by simp)⟩
 | [a,b],_=>
  refine⟨a,b,0,(h.other 0 _ e).set 0 _,?_,fun h=>absurd h (by simp)⟩
  show((W.setCell ⟨Q,0,none⟩ _).setCell ⟨R,0,none⟩ _).cell? ⟨Q,0,none⟩=_;rw[World.cell?_setCell_other _ _ _ _ (by simp)]
  exact World.cell?_setCell_same _ _ _ d
 | [a,b,c],_=>
  refine⟨a,b,c,((h.other 0 _ e).set 0 _).set 1 _,?_,fun _=>⟨rfl,rfl,rfl⟩⟩
  show(((W.setCell ⟨Q,0,none⟩ _).setCell ⟨R,0,none⟩ _).setCell ⟨R,1,none⟩ _).cell? ⟨Q,0,none⟩=_;rw[World.cell?_setCell_other _ _ _ _ (by simp),World.cell?_setCell_other _ _ _ _ (by simp)]
  exact World.cell?_setCell_same _ _ _ d
def ZyD (w:World) (r:Nat × Nat × Nat × Int) (e:Ending) (w':World):Prop:=
 e=.returned (.tuple #[.agg #[.int .i64 (r.1:Int),.int .i64 (r.2.1:Int),.int .u32 (r.2.2.1:Int)],.int .i64 r.2.2.2])∧Below w.heap.size w w'
theorem ZeK {b:World} (h:Below C b w) (R:Nat) (a:C<=R) (d e c:Value):Below C b (((w.setCell ⟨R,0,none⟩ d).setCell ⟨R,1,none⟩ e).setCell ⟨R,2,none⟩ c):=
 ((h.setCell a _).setCell a _).setCell a _
theorem Zgt (v:Value) (d:List UInt8) (w:World) (hr:Rd w v d):
 Calls prog 115 #[v] w fun e w'=>ZyD w (Yg d) e w':=by
 have HR:=ZZ hr;obtain⟨ao,cap,rfl,aJ,ap,-,ak⟩:=hr;have aP:(d.length:Int)<=9223372036854775807:=by unfold maxLen at ap;omega
 have G:Hid (∀ X,Below w.heap.size w (w.alloc X)):=fun X=>(Below.refl _ _).alloc zL X
 by_cases q:d.length=0
 ·have g:Hid (Yg d=(0,0,0,3)):=ZZ (by unfold Yg;rw[if_pos (.inl (by omega))])
  have aE:((d.length:Int) == 0)=true:=by rw[beq_iff_eq];omega
  rw[g.o];clear q ak
  go_enter func115,ntmps115
  go_wp2;refine bodyPost_ret (v:=.tuple #[.agg #[.int .i64 0,.int .i64 0,.int .u32 0],.int .i64 3]) (by simp[results,Tryz.results115,go_sem]) rfl ?_
  exact⟨rfl,G.o _⟩
 have aE:((d.length:Int) == 0)=false:=beq_eq_false_iff_ne.2 (by omega)
 have aS:(0:Int)<(d.length:Int):=by omega
 have U:d≠[]:=fun e=>by rw[e] at q;simp at q
 rcases ak with he | ⟨b,y,rfl,hc⟩
 ·exact absurd he U
 have O:=hc 0 (by omega)
 have aB:b<w.heap.size:=World.block_lt_of_cell? w ⟨b,y+0,none⟩ O;have aM:∀ X,(w.alloc X).cell? ⟨b,y,none⟩=some (.int .u8 ((d.getD 0 0).toNat:Nat)):=fun X=>((G.o X).cell (p:=⟨b,y,none⟩) aB).trans O
 clear hc O ap;by_cases H:(d.getD 0 0).toNat=115
 case neg=>
  have g:Hid (Yg d=(0,0,0,3)):=ZZ (by unfold Yg;rw[if_pos (.inr H)])
  have aD:((((d.getD 0 0).toNat:Nat):Int) != 115)=true:=by
   rw[bne_iff_ne];omega
  rw[g.o];clear H U q;generalize (((d.getD 0 0).toNat:Nat):Int)=c0 at *
  go_enter func115,ntmps115
  go_wp2;refine bodyPost_ret (v:=.tuple #[.agg #[.int .i64 0,.int .i64 0,.int .u32 0],.int .i64 3]) (by simp[results,Tryz.results115,go_sem]) rfl ?_
  exact⟨rfl,G.o _⟩
 have aD:((((d.getD 0 0).toNat:Nat):Int) != 115)=false:=by
  rw[H];rfl
 have x:=ZZ (Zsg (d:=d) (by omega))
 generalize (((d.getD 0 0).toNat:Nat):Int)=c0 at *;obtain⟨xa,xc,hcut,V⟩:=ZgI (some ⟨b,y,none⟩) d cap aJ 1 (by omega)
 have aK:∀ W,(Instr.sliceAt 53 (.slice (some ⟨b,y,none⟩) d.length cap) (some (.int .i64 1)) none none).run prog W=.ok (.slice xa (d.drop 1).length xc) W:=hcut;have au:=ZZ (fun W h=>V W h)
 obtain⟨f,F⟩:∃ f,f=(((w.alloc (.cells #[.int .i64 0,.int .i64 0,.int .u32 0] 147)).alloc (.cells #[.int .i64 0,.int .i64 0,.int .u32 0] 147)).alloc (.cells #[.int .i64 0] 3)).alloc (.cells #[.pointer (some ⟨w.heap.size+1+1,0,none⟩),.pointer (some ⟨w.heap.size+1,0,none⟩),.pointer (some ⟨w.heap.size+1,1,none⟩)] 208):=⟨_,rfl⟩;have h4:=Zwx w (.cells #[.int .i64 0,.int .i64 0,.int .u32 0] 147) (.cells #[.int .i64 0,.int .i64 0,.int .u32 0] 147) (.cells #[.int .i64 0] 3) (.cells #[.pointer (some ⟨w.heap.size+1+1,0,none⟩),.pointer (some ⟨w.heap.size+1,0,none⟩),.pointer (some ⟨w.heap.size+1,1,none⟩)] 208);rw[<-F] at h4;obtain⟨hA,hB,I,hC⟩:=h4;have K:Hid (Below w.heap.size w f):=ZZ (by rw[F];exact((((Below.refl _ _).alloc zL _).alloc (by simp) _).alloc (by simp;omega) _).alloc (by simp;omega) _)
 have ae:Bq f w.heap.size #[.int .i64 0,.int .i64 0,.int .u32 0]:=hA;have n:Bq f (w.heap.size+1) #[.int .i64 0,.int .i64 0,.int .u32 0]:=hB
 have ab:=ZZ (Zat (w.heap.size+1+1+1) [(w.heap.size+1+1,0),(w.heap.size+1,0),(w.heap.size+1,1)] (.slice xa (d.drop 1).length xc) (d.drop 1) f (au.o f (HR.o.below K.o zL)) (fun p k=>by
  simp only [mem_cons,List.not_mem_nil,or_false] at k;rcases k with rfl | rfl | rfl
  ·exact⟨⟨⟨0,cell_of_row f (w.heap.size+2) 0 _ _ _ I⟩,frozen_of_row f (w.heap.size+2) 0 _ _ I⟩,by simp⟩
  ·exact⟨⟨⟨0,(n.cell 0).1⟩,(n.cell 0).2⟩,by simp⟩
  ·exact⟨⟨⟨0,(n.cell 1).1⟩,(n.cell 1).2⟩,by simp⟩) (by simp) hC 3 rfl)
 have ac:=ZZ (fun ns h=>ZuB (Q:=w.heap.size+1+1) (by omega) n I ns h)
 have al:Hid (∀ ns,Below w.heap.size w (Yl f ([(w.heap.size+1+1,0),(w.heap.size+1,0),(w.heap.size+1,1)].take (List.length ns)) ns)):=ZZ (fun ns=>Zbb f _ ns _ w (fun p k=>by
  have:=mem_of_mem_take k;simp only [mem_cons,List.not_mem_nil,or_false] at this
  rcases this with rfl | rfl | rfl <;> (simp only;omega)) K.o)
 have ai:Hid (∀ ns,Bq (Yl f ([(w.heap.size+1+1,0),(w.heap.size+1,0),(w.heap.size+1,1)].take (List.length ns)) ns) w.heap.size #[.int .i64 0,.int .i64 0,.int .u32 0]):=ZZ (fun ns=>(Zba f _ ns _ (fun p k=>by
  have:=mem_of_mem_take k;simp only [mem_cons,List.not_mem_nil,or_false] at this
  rcases this with rfl | rfl | rfl <;> (simp only;omega))).trans ae)
 have aO:=ZZ (fun v1 l W h=>Zmo v1 l W h)
 have T:=ZZ (fun ns l h=>Znh 3 (d.drop 1) ns l h)
 have af:Hid ([(w.heap.size+1+1,0),(w.heap.size+1,0),(w.heap.size+1,1)].length=3):=ZZ rfl;rw[af.o] at ab;generalize Y0 3 (d.drop 1)=GL at *;obtain⟨i,av⟩:∃ i,i=Yg d:=⟨_,rfl⟩;rw[<-av] at x ⊢;clear av hcut V hA hB I hC ae n H U q af;generalize d.drop 1=D1 at *
 go_enter func115,ntmps115
 go_wp2_with fail
 rw[<-F];refine ab.o.mono ?_;rintro e j ⟨v1,l,ns,rfl,ag,aj,aa,aF,am,A⟩;obtain⟨uu,xx,yy,aq,an,N⟩:=ac.o ns am;have P:Hid (Bq j (w.heap.size+1) #[.int .i64 xx,.int .i64 yy,.int .u32 0]):=ZZ (aq.below (A.below (Yl f ([(w.heap.size+1+1,0),(w.heap.size+1,0),(w.heap.size+1,1)].take ns.length) ns).heap.size) zL);have R:Hid (Bq j w.heap.size #[.int .i64 0,.int .i64 0,.int .u32 0]):=ZZ ((ai.o ns).below (A.below (Yl f ([(w.heap.size+1+1,0),(w.heap.size+1,0),(w.heap.size+1,1)].take ns.length) ns).heap.size) zL);have V:j.cell? ⟨w.heap.size+1+1,0,none⟩=some (.int .i64 uu):=by rw[A.cell];exact an
 have u:Hid (Below w.heap.size w j):=ZZ ((al.o ns).trans (A.below _));have ad:=ZZ (ag j (au.o j (HR.o.below u.o zL)));obtain⟨a1,c1,aH⟩:∃ a c,v1=.slice a l.length c:=by obtain⟨a,c,h,-⟩:=ad.o;exact⟨a,c,h⟩
 subst aH;obtain⟨B,y0⟩:=R.o.cell 0;obtain⟨E,y1⟩:=R.o.cell 1;obtain⟨D,y2⟩:=R.o.cell 2;clear ab ac al ai F aq an A ag aF am K aM aK G
 cases GL with
 | none=>
  have g:Hid (i=(0,0,0,3)):=ZZ x.o;clear aj aa N x T;go_wp2;refine bodyPost_ret (v:=.tuple #[.agg #[.int .i64 0,.int .i64 0,.int .u32 0],.int .i64 3]) (by simp[results,Tryz.results115,go_sem,B,E,D]) rfl ?_
  rw[g.o];exact⟨rfl,ZeK u.o _ zL _ _ _⟩
 | some gp=>
  have:=aa gp rfl;subst this;obtain⟨g1,g2,g3⟩:=N (T.o _ _ rfl);have m:Hid (i=if ns.getD 0 0≠3 then(0,0,0,6) else if l.length≠4 then(0,0,0,3) else(ns.getD 1 0,ns.getD 2 0,Lib.leNat l,0)):=ZZ x.o
  clear aj aa N x T;generalize ns.getD 0 0=J at *;generalize ns.getD 1 0=n1 at *;generalize ns.getD 2 0=n2 at *;subst g1 g2 g3;by_cases C:J=3
  case neg=>
   have g:Hid (i=(0,0,0,6)):=ZZ (by rw[m.o,if_pos C])
   have aw:((J:Int) != 3)=true:=by rw[bne_iff_ne];omega
   clear C m;go_wp2;refine bodyPost_ret (v:=.tuple #[.agg #[.int .i64 0,.int .i64 0,.int .u32 0],.int .i64 6]) (by simp[results,Tryz.results115,go_sem,B,E,D]) rfl ?_
   rw[g.o];exact⟨rfl,ZeK u.o _ zL _ _ _⟩
  have aw:((J:Int) != 3)=false:=by rw[bne_eq_false_iff_eq];omega
  by_cases t:l.length=4
  case neg=>
   have g:Hid (i=(0,0,0,3)):=ZZ (by rw[m.o,if_neg (by omega),if_pos t])
   have aI:((l.length:Int) != 4)=true:=by rw[bne_iff_ne];omega
   clear C m t;go_wp2;refine bodyPost_ret (v:=.tuple #[.agg #[.int .i64 0,.int .i64 0,.int .u32 0],.int .i64 3]) (by simp[results,Tryz.results115,go_sem,B,E,D]) rfl ?_
   rw[g.o];exact⟨rfl,ZeK u.o _ zL _ _ _⟩
  have aI:((l.length:Int) != 4)=false:=by rw[bne_eq_false_iff_eq];omega
  have g:Hid (i=(n1,n2,Lib.leNat l,0)):=ZZ (by rw[m.o,if_neg (by omega),if_neg (by omega)])
  have M:=ZZ (aO.o _ l j ad.o);rw[List.take_of_length_le (by omega)] at M
  have aA:Lib.leNat l<4294967296:=by
   have:=ZkL l;rw[t] at this;exact this
  have aN:Hid (l.length=4):=ZZ t;generalize Lib.leNat l=z at *;clear C m t;obtain⟨e0,f0⟩:=P.o.cell 0;obtain⟨e1,f1⟩:=P.o.cell 1;obtain⟨e2,f2⟩:=P.o.cell 2;have aQ:¬ (w.heap.size=w.heap.size+1):=by omega
  have aR:¬ (w.heap.size+1=w.heap.size):=by omega
  have ax:IntKind.u32.wrap (z:Int)=(z:Int):=by
   rw[IntKind.wrap_u32];omega
  have aG:(0:Int)<=(z:Int):=by omega
  have aC:(z:Int)<4294967296:=by omega
  obtain⟨Y,L⟩:∃ Y:Int,Y=(z:Int):=⟨_,rfl⟩;obtain⟨N1,Z⟩:∃ N1:Int,N1=(n1:Int):=⟨_,rfl⟩;obtain⟨N2,S⟩:∃ N2:Int,N2=(n2:Int):=⟨_,rfl⟩;rw[<-L] at M ax aG aC;rw[<-Z] at e0;rw[<-S] at e1;have ay:=ZZ L;have az:=ZZ Z;have aL:=ZZ S;clear L Z S aA;clear aN
  go_wp2_with fail
  refine M.o.mono ?_;rintro e W2 ⟨rfl,ar⟩;rw[ar];clear ar W2;go_wp2;refine bodyPost_ret (v:=.tuple #[.agg #[.int .i64 N1,.int .i64 N2,.int .u32 Y],.int .i64 0]) (by simp[results,Tryz.results115,go_sem,B,E,D]) rfl ?_
  rw[g.o];exact⟨by rw[ay.o,az.o,aL.o],ZeK (u.o.setCell (Nat.le_succ _) _) _ zL _ _ _⟩
theorem Ziu (f g:Value) (a b:List UInt8) (w:World) (c:Rd w f a) (d:Rd w g b):
 Calls prog 163 #[f,g] w fun e w'=>e=.returned (.bool (decide (a=b)))∧w'=w:=by
 have k:=c.str;have i:=d.str
 have j:((bs a).toList == (bs b).toList)=decide (a=b):=by
  rw[ZyZ];by_cases h:a=b
  ·rw[h,decide_eq_true rfl];exact beq_self_eq_true b
  ·rw[decide_eq_false h,beq_eq_false_iff_ne];exact h
 generalize decide (a=b)=D at *;clear c d
 go_enter func163,ntmps163
 go_wp2;go_ret;exact⟨rfl,rfl⟩
theorem Zni {A B:List (List UInt8)} (b:k<A.length) (c:k<B.length) (h:A.take k=B.take k) (a:A.getD k []=B.getD k []):A.take (k+1)=B.take (k+1):=by
 rw[List.take_add_one,List.take_add_one,h]
 congr 1
 simp only [List.getD,List.getElem?_eq_getElem b,List.getElem?_eq_getElem c,Option.getD_some] at a ⊢;rw[a]
theorem Zjn (H K:Value) (A B:List (List UInt8)) (w:World) (ha:RdL w H A) (hb:RdL w K B):
 Calls prog 162 #[H,K,.func (.func 163) #[] #[]] w fun e w'=>e=.returned (.bool (decide (A=B)))∧w'=w:=by
 obtain⟨aa,ac,rfl,U,P,-,N⟩:=ha;obtain⟨ba,bc,rfl,-,-,-,T⟩:=hb;have I:=ZZ N;have S:=ZZ T;have R:=ZZ (fun x y a b h1 W=>Ziu x y a b w h1 W)
 obtain⟨D,m⟩:∃ D,D=decide (A=B):=⟨_,rfl⟩;rw[<-m];have Q:Hid (A=B->D=true):=fun h=>by rw[m];exact decide_eq_true h
 have t:Hid (¬ A=B->D=false):=fun h=>by rw[m];exact decide_eq_false h
 have af:(A.length:Int)<=9223372036854775807:=by unfold maxLen at P;omega
 clear m N T P U;by_cases j:A.length=B.length
 case neg=>
  have ae:((A.length:Int) != (B.length:Int))=true:=by rw[bne_iff_ne];omega
  have HE:=ZZ (t.o (fun h=>j (by rw[h])))
  clear j
  go_enter func162,ntmps162
  go_wp2;go_ret;rw[HE.o];exact⟨rfl,rfl⟩
 have ae:((A.length:Int) != (B.length:Int))=false:=by rw[bne_eq_false_iff_eq];omega
 have G:=ZZ j
 have J:Hid (A.take A.length=B.take A.length->D=true):=ZZ (fun h=>Q.o (by
  rw[take_length,G.o,take_length] at h
  exact h))
 have O:Hid (∀ k,k<A.length->A.getD k []≠B.getD k []->D=false):=ZZ (fun k hk h=>t.o (fun hs=>h (by rw[hs])))
 clear j Q t
 go_enter func162,ntmps162
 go_wp2
 go_loopw[17] (fun u wr=>∃ k:Nat,u=.int .i64 (k:Int)∧k<=A.length∧Hid (A.take k=B.take k)∧wr=w) (fun u _=>A.length-(intOf u).toNat)
 case atStart=>exact⟨0,rfl,Nat.zero_le _,rfl,rfl⟩
 case round=>
  obtain⟨k,rfl,hk,F,rfl⟩:=hrel;by_cases f:k<A.length
  case neg=>
   obtain rfl:k=A.length:=by omega
   have HT:=ZZ (J.o F.out);go_wp2;go_ret;rw[HT.o];exact⟨rfl,rfl⟩
  have i:k<B.length:=by have:=G.o;omega
  rcases I.o with q | ⟨c,ak,rfl,M⟩
  ·rw[q] at f;simp at f
  rcases S.o with q | ⟨c',ag,rfl,L⟩
  ·rw[q] at i;simp at i
  obtain⟨x,hx,p⟩:=M k f;obtain⟨y,hy,v⟩:=L k i;have ai:(k:Int)<(A.length:Int):=by omega
  have aj:(k:Int)<(B.length:Int):=by omega
  have C:=ZZ (O.o k f);have E:Hid (A.getD k []=B.getD k []->A.take (k+1)=B.take (k+1)):=ZZ (fun h=>Zni f i F.out h)
  have l:=ZZ (R.o x y _ _ p v);obtain⟨xa,xc,ab⟩:∃ a c,x=.slice a (A.getD k []).length c:=by obtain⟨a,c,h,-⟩:=p;exact⟨a,c,h⟩
  obtain⟨ya,yc,Z⟩:∃ a c,y=.slice a (B.getD k []).length c:=by obtain⟨a,c,h,-⟩:=v;exact⟨a,c,h⟩
  subst ab Z;clear M L p v J O I S R;generalize A.getD k []=X at *;generalize B.getD k []=Y at *;by_cases d:X=Y
  ·have V:=ZZ (E.o d)
   have n:Hid (decide (X=Y)=true):=decide_eq_true d;rw[n.o] at l;clear C E d
   go_wp2_with fail
   refine l.o.mono ?_;rintro e z ⟨rfl,g⟩;rw[g];clear g z;go_wp2;go_roundw
   case rel=>exact⟨k+1,by go_num,by omega,V,trivial⟩
   case measure=>simp[intOf];omega
  ·have ad:=ZZ (C.o d)
   have n:Hid (decide (X=Y)=false):=decide_eq_false d;rw[n.o] at l;clear C E d
   go_wp2_with fail
   refine l.o.mono ?_;rintro e z ⟨rfl,g⟩;rw[g];clear g z;go_wp2;go_ret;rw[ad.o];exact⟨rfl,rfl⟩
theorem Zpc (v:Value) (L:List (List UInt8)) (w:World) (R:RdL w v L) (N:L.flatten.length<=1000000) (hn:L.length<=100000):
 Calls prog 131 #[v] w fun e w'=>∃ v',e=.returned v'∧Own w' w.heap.size v' L.flatten∧Below w.heap.size w w':=by
 have T:=ZZ (fun n W h=>Zqe n W h)
 have ai:=ZZ R;have u:Hid (∀ k,Zlc L k<=1000000):=fun k=>Nat.le_trans (Zue L k) N
 have I:=ZZ (ZmN L);have af:=ZZ (ZmM L);have M:=ZZ (Zqg L);have ac:=ZZ (Zqf L);obtain⟨F,p⟩:∃ F,F=L.flatten:=⟨_,rfl⟩;rw[<-p];rw[<-p] at M;obtain⟨ao,cap,rfl,-,-,-,H⟩:=R;have J:=ZZ H;clear H p N
 go_enter func131,ntmps131
 go_wp2
 go_loopw[3,11] (fun vs a wr=>∃ (k:Nat),vs=.int .i64 (Zlc L k:Int)∧a=.int .i64 (k:Int)∧k<=L.length∧wr=w) (fun _ a _=>L.length-(intOf a).toNat)
 case atStart=>exact⟨0,rfl,rfl,Nat.zero_le _,rfl⟩
 case round=>
  obtain⟨k,rfl,rfl,hk,z⟩:=hrel;have ab:=z.symm;subst ab;clear z;by_cases d:k<L.length
  ·rcases J.o with m | ⟨c,ad,rfl,g⟩
   ·rw[m] at d;simp at d
   obtain⟨x,hx,i⟩:=g k d;have G:=u.o (k+1);have l:=I.o k d;obtain⟨ax,U,rfl,-⟩:=i;have h3:¬ ((Zlc L k:Int)+((L.getD k []).length:Int)<0):=by omega
   have h4:(Zlc L k:Int)+((L.getD k []).length:Int)<=1000000:=by omega
   have Y:=ZZ l;clear g G l;generalize Zlc L k=A at *;generalize (L.getD k []).length=D at *;go_wp2;go_roundw
   case rel=>exact⟨k+1,by rw[Y.o],by go_num,by omega,trivial⟩
   case measure=>simp[intOf];omega
  ·have aa:=ZZ (T.o (Zlc L k) w (u.o k))
   generalize Zlc L k=A at *
   go_wp2_with fail
   refine aa.o.mono ?_;rintro e W1 ⟨v1,rfl,Q,O⟩;have C:=ZZ Q;have K:=ZZ O;clear Q O hk d;go_wp2
   go_loopw[6,27] (fun Z a E=>∃ (j:Nat),a=.int .i64 (j:Int)∧j<=L.length∧Hid (Own E w.heap.size Z (Zud L j))∧Hid (Below w.heap.size w E)) (fun _ a _=>L.length-(intOf a).toNat)
   case atStart=>exact⟨0,rfl,Nat.zero_le _,C,K⟩
   case round=>
    clear C K;obtain⟨j,rfl,hj,y,f⟩:=hrel;by_cases b:j<L.length
    ·rcases J.o with m | ⟨c,ad,rfl,g⟩
     ·rw[m] at b;simp at b
     obtain⟨x,q,i⟩:=g j b;have hx:=(f.o.cell (World.block_lt_of_cell? _ _ q)).trans q;have S:=ZZ (i.below f.o zL);obtain⟨ax,U,rfl,-⟩:=i
     have V:Hid ((Zud L j).length+(L.getD j []).length<=70368744177664):=ZZ (by
      have G:=u.o (j+1);have l:=I.o j b;rw[ac.o]
      omega)
     have ag:=ZZ f.o.size;have HN:=ZZ (af.o j b);clear g q;generalize L.getD j []=D at *;generalize Zud L j=P at *
     go_wp2_with(at_builtin;refine Xi _ rfl _ _ rfl w.heap.size _ P rfl y.o _ D rfl S.o V.o ag.o ?_)
     intro v3 W3 t B;rw[<-HN.o] at t;have ae:=ZZ t;have X:=ZZ (f.o.trans B);clear t B;go_wp2;go_roundw
     case rel=>exact⟨j+1,by go_num,by omega,ae,X⟩
     case measure=>simp[intOf];omega
    ·have HE:=ZZ (M.o j (by omega))
     rw[HE.o] at y;go_wp2;go_ret;exact⟨_,rfl,y.o,f.o⟩
def Zls (P:List (List UInt8)) (n c:Nat):Int:=if P.flatten.length≠n then 16 else if ¬ Zfg P then 3 else if Q2 0 P.flatten≠c then 4 else 0
def Joined (w:World) (F:List UInt8) (er:Int) (e:Ending) (w':World):Prop:=
 ∃ v',e=.returned (.tuple #[v',.int .i64 er])∧Rd w' v' (if er=0 then F else[])∧Below w.heap.size w w'
theorem Zgq.rdl {v v':Value} {xs:List Value} {L:List (List UInt8)} (h:Zgq v l xs L) (b:w'.ownsRow B 53 1 v' L.length xs) (i:Rd w' v l):RdL w' v' L:=by
 rcases b.2 with ⟨a,k⟩ | ⟨g,cap,cur,a,p,u,f,n,t,q⟩
 ·have e:L=[]:=List.eq_nil_of_length_eq_zero k
  subst e;rw[a];exact RdL.nil _
 ·refine⟨some ⟨g,0,none⟩,cap,a,f,n,(fun e=>by cases e),.inr ⟨g,0,rfl,fun j c=>?_⟩⟩
  obtain⟨x,d,-,m⟩:=h.2 j c;refine⟨x,?_,m w' i⟩;have:=World.ownsRow.cells b (g:=g) (by rw[a];rfl) j x d
  rw[Addr.add_lit] at this;exact this
theorem Zwy (i:Int) (n c:Nat) (u:Value) (P:List (List UInt8)) (w:World) (C:RdL w u P) (am:P.flatten.length<=100000) (ax:P.length<=100000):
 Calls prog 116 #[.agg #[.int .i64 i,.int .i64 (n:Int),.int .u32 (c:Int)],u] w fun e w'=>Joined w P.flatten (Zls P n c) e w':=by
 have z:Hid (Below w.heap.size w (w.alloc (.cells #[.int .i64 i,.int .i64 (n:Int),.int .u32 (c:Int)] 147))):=ZZ ((Below.refl _ _).alloc zL _);have ac:Hid (Bq (w.alloc (.cells #[.int .i64 i,.int .i64 (n:Int),.int .u32 (c:Int)] 147)) w.heap.size #[.int .i64 i,.int .i64 (n:Int),.int .u32 (c:Int)]):=ZZ (heap_alloc_new w _);have M:=ZZ (fun W (h:Below w.heap.size w W)=>Zpc u P W (C.below h zL) (by omega) ax)
 have U:=ZZ (fun B W h=>ZjU B P.flatten W h am)
 have y:=ZZ (fun vb W O b=>Zjn u vb P (Xu P.flatten) W O b)
 have T:=ZZ (fun B W h=>Zle B P.flatten W h)
 have HP:=ZZ C;have ae:decide (P=Xu P.flatten)=decide (Zfg P):=decide_eq_decide.2 (ZtB P).symm;rw[ae] at y;have l:Hid (Zls P n c=if P.flatten.length≠n then 16 else if ¬ Zfg P then 3 else if Q2 0 P.flatten≠c then 4 else 0):=ZZ rfl
 obtain⟨pa,pc,aA⟩:∃ a c,u=.slice a P.length c:=by obtain⟨a,c,h,-⟩:=C;exact⟨a,c,h⟩
 subst aA;obtain⟨p,au⟩:∃ p,p=Zls P n c:=⟨_,rfl⟩;rw[<-au] at l ⊢;obtain⟨R,J⟩:∃ R,R=decide (Zfg P):=⟨_,rfl⟩;rw[<-J] at y;have aq:=ZZ J;clear au C ae J;obtain⟨d,af⟩:∃ d,d=P.flatten:=⟨_,rfl⟩;rw[<-af] at M U y T l am ⊢;have aB:Hid (Xu d=Xu d):=ZZ rfl;clear af;generalize Xu d=PF at *;generalize Q2 0 d=Z at *;obtain⟨D,aa⟩:∃ D:Int,D=(n:Int):=⟨_,rfl⟩;obtain⟨f,X⟩:∃ f:Int,f=(c:Int):=⟨_,rfl⟩;obtain⟨j,V⟩:∃ j:Int,j=(Z:Int):=⟨_,rfl⟩;rw[<-aa,<-X] at z ac ⊢;rw[<-V] at T;have ai:=ZZ aa;have al:=ZZ X;have an:=ZZ V;clear aa X V
 go_enter func116,ntmps116
 go_wp2_with fail
 refine(M.o _ z.o).mono ?_;rintro e W1 ⟨B,rfl,ab,Y⟩;have G:=ZZ (z.o.trans (Y.mono z.o.size));have K:=ZZ (ac.o.below Y zL);have I:=ZZ ab.rd;obtain⟨a1,c1,ay⟩:∃ a c,B=.slice a d.length c:=by obtain⟨a,c,h,-⟩:=ab.rd;exact⟨a,c,h⟩
 subst ay;obtain⟨p1,-⟩:=K.o.cell 1;clear ab Y M z ac;by_cases H:d.length=n
 case neg=>
  have m:Hid (p=16):=ZZ (by rw[l.o,if_pos H])
  have az:((d.length:Int) != D)=true:=by rw[bne_iff_ne,ai.o];omega
  clear H l;go_wp2;go_ret2;rw[m.o];exact⟨_,rfl,Rd.nil _,G.o⟩
 have az:((d.length:Int) != D)=false:=by rw[bne_eq_false_iff_eq,ai.o];omega
 have HL:=ZZ H;clear H
 go_wp2_with fail
 refine(U.o _ _ I.o).mono ?_;rintro e v ⟨v2,xs,rfl,ar,ak,F⟩;have q:=ZZ (G.o.trans (F.mono G.o.size));have ad:=ZZ (K.o.below F zL);have E:=ZZ (I.o.below F zL);have aj:=ZZ (ak.rdl ar E.o);obtain⟨a2,c2,av⟩:∃ a c,v2=.slice a PF.length c:=by obtain⟨a,c,h,-⟩:=aj.o;exact⟨a,c,h⟩
 subst av;clear ar F ak p1 U K I G
 go_wp2_with fail
 refine(y.o _ _ (HP.o.below q.o zL) aj.o).mono ?_;rintro e A ⟨rfl,ao⟩;rw[ao];clear ao A y
 cases R with
 | false=>
  have m:Hid (p=3):=ZZ (by rw[l.o,if_neg (fun h=>h HL.o),if_pos (of_decide_eq_false aq.o.symm)])
  clear l;go_wp2;go_ret2;rw[m.o];exact⟨_,rfl,Rd.nil _,q.o⟩
 | true=>
  have m:Hid (p=if Z≠c then 4 else 0):=ZZ (by rw[l.o,if_neg (fun h=>h HL.o),if_neg (fun h=>h (of_decide_eq_true aq.o.symm))])
  have ap:=ZZ (T.o _ v.drew (E.o.below ((Below.refl _ _).drew) zL));obtain⟨q2,-⟩:=ad.o.cell 2
  go_upto_region 6 with fail
  go_cut[21] (fun x wc=>x=.bool (decide (j≠f))∧Hid (Rd wc (.slice a1 d.length c1) d)∧Hid (Below w.heap.size w wc))
  case first=>
   by_cases g:j=f
   ·have O:(j != f)=false:=by rw[bne_eq_false_iff_eq];exact g
    have b:decide (j≠f)=false:=decide_eq_false (fun h=>h g)
    have S:=ZZ b;clear g b
    go_region_held(fun w'=>w'.cell? ⟨w.heap.size,2,none⟩=some (.int .u32 f)) (go_keep)
     (first
      | (go_at_call 136;refine ap.o.mono ?_;rintro e A ⟨rfl,t⟩;have k:Below v.heap.size v A:=((Below.refl _ _).drew).trans t;have N:=ZZ (q.o.trans (k.mono q.o.size));have Q:=ZZ (E.o.below k zL);obtain⟨r2,-⟩:=(ad.o.below k zL).cell 2;clear t k))
    all_goals
     go_wp2_with fail
     go_meet
     exact⟨by rw[S.o],Q,N⟩
   ·have O:(j != f)=true:=by rw[bne_iff_ne];exact g
    have b:decide (j≠f)=true:=decide_eq_true g;have S:=ZZ b;clear g b
    go_region_held(fun w'=>w'.cell? ⟨w.heap.size,2,none⟩=some (.int .u32 f)) (go_keep)
     (first
      | (go_at_call 136;refine ap.o.mono ?_;rintro e A ⟨rfl,t⟩;have k:Below v.heap.size v A:=((Below.refl _ _).drew).trans t;have N:=ZZ (q.o.trans (k.mono q.o.size));have Q:=ZZ (E.o.below k zL);obtain⟨r2,-⟩:=(ad.o.below k zL).cell 2;clear t k))
    all_goals
     go_wp2_with fail
     go_meet
     exact⟨by rw[S.o],Q,N⟩
  case rest=>
   obtain⟨WC,rfl⟩:∃ W,W=wc:=⟨_,rfl⟩;obtain⟨rfl,aw,ag⟩:=hcut;by_cases g:Z=c
   ·have L:Hid (p=0):=ZZ (by rw[m.o,if_neg (by omega)])
    have b:decide (j≠f)=false:=decide_eq_false (by have:=al.o;have:=an.o;omega)
    rw[b];clear b g l m;go_wp2;go_ret2;rw[L.o];exact⟨_,rfl,aw.o,ag.o⟩
   ·have L:Hid (p=4):=ZZ (by rw[m.o,if_pos g])
    have b:decide (j≠f)=true:=decide_eq_true (by have:=al.o;have:=an.o;omega)
    rw[b];clear b g l m;go_wp2;go_ret2;rw[L.o];exact⟨_,rfl,Rd.nil _,ag.o⟩
theorem Zwz (b a:Nat) (L:List (List UInt8)) (cap:Nat) (C:L.length<=cap) (k:1<=L.length):
 ∃ l m,(∀ W,(Instr.sliceAt 144 (.slice (some ⟨b,a,none⟩) L.length cap) (some (.int .i64 1)) none none).run prog W=.ok (.slice l (L.length-1) m) W)∧∀ W,RdL W (.slice (some ⟨b,a,none⟩) L.length cap) L->RdL W (.slice l (L.length-1) m) (L.drop 1):=by
 by_cases i:cap=1
 ·refine⟨some ⟨b,a,none⟩,cap-1,fun W=>?_,fun W h=>?_⟩
  ·have g:L.length=1:=by omega
   simp[go_sem,g,i]
  ·have g:L.drop 1=[]:=List.drop_eq_nil_of_le (by omega)
   obtain⟨w,y,c,v,q,t,f⟩:=h;simp only [Value.slice.injEq] at c;obtain⟨rfl,-,rfl⟩:=c;exact⟨_,_,by rw[length_drop],by rw[length_drop];omega,by omega,(fun e=>by cases e),.inl g⟩
 ·refine⟨some ⟨b,a+1,none⟩,cap-1,fun W=>?_,fun W h=>?_⟩
  ·have n:(1:Int)<=(L.length:Int):=by omega
   simp[go_sem,i,n]
  ·obtain⟨w,y,c,v,q,t,f⟩:=h
   simp only [Value.slice.injEq] at c;obtain⟨rfl,-,rfl⟩:=c;refine⟨_,_,by rw[length_drop],by rw[length_drop];omega,by omega,(fun e=>by cases e),?_⟩
   rcases f with f | ⟨b',B,d,u⟩
   ·rw[f] at k
    simp at k
   ·injection d with d
    injection d with d k7 _
    subst d k7;refine .inr ⟨b,a+1,rfl,fun j p=>?_⟩
    rw[length_drop] at p;obtain⟨x,z,A⟩:=u (j+1) (by omega)
    refine⟨x,by rw[show a+1+j=a+(j+1) by omega];exact z,?_⟩
    have e:(L.drop 1).getD j []=L.getD (j+1) []:=by simp[List.getD]
    rw[e];exact A
theorem Zsh:ZjA []=(Xr,16):=rfl
theorem Zpd (d:List UInt8) (P:List (List UInt8)):ZjA (d::P)=if(Yg d).2.2.2≠0 then(Xr,(Yg d).2.2.2) else if Zls P (Yg d).2.1 (Yg d).2.2.1≠0 then(Xr,Zls P (Yg d).2.1 (Yg d).2.2.1)
 else if(Yf P.flatten).2≠0 then(Xr,(Yf P.flatten).2) else if Zdk ⟨((Yg d).1:Nat),(Yf P.flatten).1.st,(Yf P.flatten).1.tab⟩ then(⟨((Yg d).1:Nat),(Yf P.flatten).1.st,(Yf P.flatten).1.tab⟩,0) else(Xr,1):=by
 unfold Zls;rw[ZjA];by_cases e:(Yg d).2.2.2≠0
 ·rw[if_pos e,if_pos e]
 rw[if_neg e,if_neg e];by_cases a:P.flatten.length≠(Yg d).2.1
 ·rw[if_pos a,if_pos a,if_pos (by decide)]
 rw[if_neg a,if_neg a];by_cases b:¬ Zfg P
 ·rw[if_pos b,if_pos b,if_pos (by decide)]
 rw[if_neg b,if_neg b];by_cases c:Q2 0 P.flatten≠(Yg d).2.2.1
 ·rw[if_pos c,if_pos c,if_pos (by decide)]
 rw[if_neg c,if_neg c,if_neg (show ¬ ((0:Int)≠0) by decide)]
theorem ZeL:∀ L:List (List UInt8),L.flatten.length+L.length<=(Qf L).length
 | []=>by simp[Qf]
 | x::t=>by
  have a:=ZeL t;have:=Qz x;rw[X4,length_append,List.flatten_cons,length_append,length_cons];omega
theorem Zpe (v:Value) (b:List UInt8) (w:World) (hr:Rd w v b) (bQ:b.length<=100000):
 Calls prog 76 #[v] w fun e w'=>Zcg w (ZnQ b) e w':=by
 obtain⟨W0,ae⟩:∃ W0,W0=w.alloc (.cells #[.int .i64 0,.int .i64 0,.slice none 0 0,.bool false,.int .i64 0,.slice none 0 0] 41):=⟨_,rfl⟩;have O:Hid (Below w.heap.size w W0):=ZZ (by rw[ae];exact(Below.refl _ _).alloc zL _)
 have aE:Hid (Bn W0 w.heap.size #[.int .i64 0,.int .i64 0,.slice none 0 0,.bool false,.int .i64 0,.slice none 0 0]):=ZZ (by rw[ae];exact heap_alloc_new w _)
 have G:=ZZ (ZxH v b W0 (hr.below O.o zL) (by omega))
 obtain⟨va,vc,hv⟩:∃ a c,v=.slice a b.length c:=by obtain⟨a,c,h,-⟩:=hr;exact⟨a,c,h⟩
 subst hv;obtain⟨l,al⟩:∃ l,l=ZnQ b:=⟨_,rfl⟩;rw[<-al];by_cases T:(Qm b).2.2=0
 case neg=>
  have D:Hid (l=(Xr,(((Qm b).2.2:Nat):Int))):=ZZ (by rw[al];unfold ZnQ;rw[if_pos T])
  have ha:ZwY b=([],(Qm b).2.2):=by unfold ZwY;rw[if_neg T]
  rw[ha] at G
  dsimp only at G
  generalize (Qm b).2.2=er at *;have aC:((er:Int) != 0)=true:=by rw[bne_iff_ne];omega
  obtain⟨E,hE⟩:∃ E:Int,E=(er:Int):=⟨_,rfl⟩;rw[<-hE] at G D aC;clear ha al T hE hr
  go_enter func76,ntmps76
  go_wp2_with fail
  rw[<-ae];refine G.o.mono ?_;rintro e W1 ⟨V,rfl,U,C⟩;have g:=ZZ (aE.o.below C zL);have N:=ZZ (O.o.trans (C.mono O.o.size));obtain⟨p,y0⟩:=g.o.cell 0;obtain⟨x,y1⟩:=g.o.cell 1;obtain⟨u,y2⟩:=g.o.cell 2;obtain⟨z,y3⟩:=g.o.cell 3;obtain⟨y,y4⟩:=g.o.cell 4;obtain⟨A,y5⟩:=g.o.cell 5;clear C U;go_wp2;refine bodyPost_ret (v:=.tuple #[.agg #[.int .i64 0,.int .i64 0,.slice none 0 0,.bool false,.int .i64 0,.slice none 0 0],.int .i64 E]) (by simp[results,Tryz.results76,go_sem,p,x,u,z,y,A]) rfl ?_
  rw[D.o];exact Zcg.zero _ (ZaY N.o _ zL _ _ _ _ _ _)
 have D:Hid (l=ZjA (Qm b).1):=ZZ (by rw[al];unfold ZnQ;rw[if_neg (fun h=>h T)])
 have ha:ZwY b=((Qm b).1,0):=by unfold ZwY;rw[if_pos T]
 have ar:=ZeL (Qm b).1;rw[(Zfd b.length b zL T).1] at ar;rw[ha] at G
 dsimp only at G
 generalize (Qm b).1=LS at *;clear ha al T hr
 cases LS with
 | nil=>
  rw[Zsh] at D
  go_enter func76,ntmps76
  go_wp2_with fail
  rw[<-ae];refine G.o.mono ?_;rintro e W1 ⟨V,rfl,U,C⟩;obtain⟨a1,c1,aT⟩:∃ a c,V=.slice a 0 c:=by obtain⟨a,c,h,-⟩:=U;exact⟨a,c,h⟩
  subst aT;have g:=ZZ (aE.o.below C zL);have N:=ZZ (O.o.trans (C.mono O.o.size));obtain⟨p,y0⟩:=g.o.cell 0;obtain⟨x,y1⟩:=g.o.cell 1;obtain⟨u,y2⟩:=g.o.cell 2;obtain⟨z,y3⟩:=g.o.cell 3;obtain⟨y,y4⟩:=g.o.cell 4;obtain⟨A,y5⟩:=g.o.cell 5;clear C U;go_wp2;refine bodyPost_ret (v:=.tuple #[.agg #[.int .i64 0,.int .i64 0,.slice none 0 0,.bool false,.int .i64 0,.slice none 0 0],.int .i64 16]) (by simp[results,Tryz.results76,go_sem,p,x,u,z,y,A]) rfl ?_
  rw[D.o];exact Zcg.zero _ (ZaY N.o _ zL _ _ _ _ _ _)
 | cons d P=>
  rw[Zpd] at D;have br:P.flatten.length<=100000:=by rw[List.flatten_cons,length_append,length_cons] at ar;omega
  have bN:P.length<=100000:=by rw[List.flatten_cons,length_append,length_cons] at ar;omega
  have aR:Hid ((d::P).length=P.length+1):=ZZ rfl;have az:=ZZ (fun V W h=>Zgt V d W h)
  have a8:=ZZ (fun i n c vp W h=>Zwy i n c vp P W h br bN)
  have bl:=ZZ (fun V W h=>Zlr V P.flatten W h br)
  have aO:Hid (I64 ((Yg d).1:Nat)):=ZZ (by
   have:(Yg d).1<4611686018427387904:=by
    unfold Yg;split
    ·decide
    dsimp only
    split
    ·decide
    split
    ·decide
    split
    ·decide
    rcases Q4 (d.drop (1+(Qb (d.drop 1)).2)) with h | h
    ·rw[h];exact(by decide:(0:Nat)<4611686018427387904)
    ·exact h.1
   exact⟨by omega,by omega⟩)
  unfold ZyD at az
  have aF:Hid (∀ (W:World) (n:Int),Below w.heap.size w W->l=(Xr,n)->Zcg w l (.returned (.tuple #[.agg #[.int .i64 0,.int .i64 0,.slice none 0 0,.bool false,.int .i64 0,.slice none 0 0],.int .i64 n])) ((((((W.setCell ⟨w.heap.size,0,none⟩ (.int .i64 0)).setCell ⟨w.heap.size,1,none⟩ (.int .i64 0)).setCell ⟨w.heap.size,2,none⟩ (.slice none 0 0)).setCell ⟨w.heap.size,3,none⟩ (.bool false)).setCell ⟨w.heap.size,4,none⟩ (.int .i64 0)).setCell ⟨w.heap.size,5,none⟩ (.slice none 0 0))):=ZZ (fun W n h e=>by
   rw[e]
   exact Zcg.zero _ (ZaY h _ zL _ _ _ _ _ _))
  clear ar;generalize Yg d=RM at *;obtain⟨f,M,J,me⟩:=RM
  dsimp only at D az aO
  have bq:=ZZ (fun rb ro c h=>Zwz rb ro (d::P) c h (by simp))
  have bO:(P.length:Int)<=100000:=by omega
  go_enter func76,ntmps76
  go_wp2_with fail
  rw[<-ae];refine G.o.mono ?_;rintro e W1 ⟨V,rfl,U,C⟩;have g:=ZZ (aE.o.below C zL);have N:=ZZ (O.o.trans (C.mono O.o.size));have aK:=ZZ U;obtain⟨a1,c1,aT,bx,-,-,bH⟩:=U;subst aT;rcases bH with h0 | ⟨rb,ro,rfl,hc⟩
  ·cases h0
  obtain⟨x0,bi,a7⟩:=hc 0 (by simp)
  have bE:W1.cell? ⟨rb,ro,none⟩=some x0:=bi;have aP:Rd W1 x0 d:=a7;have bo:=ZZ aP;obtain⟨xa,xc,bI⟩:∃ a c,x0=.slice a d.length c:=by obtain⟨a,c,h,-⟩:=aP;exact⟨a,c,h⟩
  subst bI;obtain⟨ra,rc,a5,bm⟩:=bq.o rb ro c1 bx;rw[aR.o,Nat.add_sub_cancel] at a5;have aX:=ZZ (fun W h=>bm W h)
  rw[aR.o,Nat.add_sub_cancel,List.drop_one,List.tail_cons] at aX;rw[aR.o] at aK ⊢;have bP:((P.length:Int)+1 == 0)=false:=beq_eq_false_iff_ne.2 (by omega)
  have bR:(0:Int)<(P.length:Int)+1:=by omega
  clear C hc bi a7 bm G bx bq aP ae aE O
  go_wp2_with fail
  refine(az.o _ _ bo.o).mono ?_;rintro e W2 ⟨rfl,ai⟩;obtain⟨j,aw⟩:∃ j,j=W2.alloc (.cells #[.int .i64 (f:Int),.int .i64 (M:Int),.int .u32 (J:Int)] 147):=⟨_,rfl⟩;have an:Hid (Below W2.heap.size W2 j):=ZZ (by rw[aw];exact(Below.refl _ _).alloc zL _)
  have aB:Hid (Bq j W2.heap.size #[.int .i64 (f:Int),.int .i64 (M:Int),.int .u32 (J:Int)]):=ZZ (by rw[aw];exact heap_alloc_new W2 _)
  have K:=ZZ ((g.o.below ai zL).below an.o zL);have ap:=ZZ ((N.o.trans (ai.mono N.o.size)).trans (an.o.mono (Nat.le_trans N.o.size ai.size)));have a9:=ZZ ((aK.o.below ai zL).below an.o zL)
  go_upto_region 7 with fail
  rw[<-aw];obtain⟨Q,bw⟩:∃ Q,Q=W2.heap.size:=⟨_,rfl⟩;rw[<-bw] at aB ⊢;clear aw bw ai bE g N aK az bo an;by_cases ad:me=0
  case neg=>
   have bF:(me != 0)=true:=by rw[bne_iff_ne];exact ad
   have I:Hid (l=(Xr,me)):=ZZ (by rw[D.o,if_pos ad])
   obtain⟨p,y0⟩:=K.o.cell 0;obtain⟨x,y1⟩:=K.o.cell 1;obtain⟨u,y2⟩:=K.o.cell 2;obtain⟨z,y3⟩:=K.o.cell 3;obtain⟨y,y4⟩:=K.o.cell 4;obtain⟨A,y5⟩:=K.o.cell 5;clear ad;go_wp2;refine bodyPost_ret (v:=.tuple #[.agg #[.int .i64 0,.int .i64 0,.slice none 0 0,.bool false,.int .i64 0,.slice none 0 0],.int .i64 me]) (by simp[results,Tryz.results76,go_sem,p,x,u,z,y,A]) rfl ?_
   exact aF.o _ _ ap.o I.o
  have bF:(me != 0)=false:=by rw[bne_eq_false_iff_eq];exact ad
  have ao:Hid (l=if Zls P M J≠0 then(Xr,Zls P M J) else if(Yf P.flatten).2≠0 then(Xr,(Yf P.flatten).2) else if Zdk ⟨(f:Nat),(Yf P.flatten).1.st,(Yf P.flatten).1.tab⟩ then(⟨(f:Nat),(Yf P.flatten).1.st,(Yf P.flatten).1.tab⟩,0) else(Xr,1)):=ZZ (by rw[D.o,if_neg (fun h=>h ad)])
  have ak:=ZZ (fun W h=>a8.o (f:Int) M J (.slice ra P.length rc) W h)
  obtain⟨H,ba⟩:∃ H,H=Zls P M J:=⟨_,rfl⟩;rw[<-ba] at ao ak;unfold Joined at ak;clear ad ba D a8;generalize P.flatten=FL at *;obtain⟨m,aQ⟩:∃ m,m=if H=0 then FL else[]:=⟨_,rfl⟩
  rw[<-aQ] at ak;have bK:=ZZ aQ;clear aQ
  have aW:Hid (∀ W,Below j.heap.size j W->W.cell? ⟨Q,0,none⟩=some (.int .i64 (f:Int))∧W.cell? ⟨Q,1,none⟩=some (.int .i64 (M:Int))∧W.cell? ⟨Q,2,none⟩=some (.int .u32 (J:Int))):=ZZ (fun W h=>by
   have hx:=aB.o.below h zL
   exact⟨(hx.cell 0).1,(hx.cell 1).1,(hx.cell 2).1⟩)
  have aG:Hid (Below j.heap.size j j.drew):=ZZ ((Below.refl _ _).drew)
  go_upto_region 9 with fail
  go_cut[5,7] (fun x5 x7 wc=>∃ a c,x5=.int .i64 H∧x7=.slice a m.length c∧Hid (Rd wc (.slice a m.length c) m)∧Hid (Below j.heap.size j wc))
  case first=>
   go_region_held(fun w'=>w'.cell? ⟨Q,0,none⟩=some (.int .i64 (f:Int))∧w'.cell? ⟨Q,1,none⟩=some (.int .i64 (M:Int))∧w'.cell? ⟨Q,2,none⟩=some (.int .u32 (J:Int))) (first | (with_reducible exact aW.o _ aG.o) | (with_reducible exact aW.o _ a2))
    (first
     | (go_at_call 116;refine(ak.o j.drew (aX.o _ (a9.o.below aG.o zL))).mono ?_;rintro e W4 ⟨v4,rfl,aI,aY⟩;have a2:Below j.heap.size j W4:=aG.o.trans aY;have aH:=ZZ aI;obtain⟨a4,c4,bL⟩:∃ a c,v4=.slice a m.length c:=(by obtain⟨a,c,h,-⟩:=aI;exact⟨a,c,h⟩);subst bL;clear aI aY))
   all_goals
    go_wp2_with fail
    go_meet
    exact⟨a4,c4,rfl,rfl,aH,ZZ a2⟩
  case rest=>
   obtain⟨WC,rfl⟩:∃ W,W=wc:=⟨_,rfl⟩;obtain⟨a4,c4,rfl,rfl,aH,aq⟩:=hcut;have F:=ZZ (K.o.below aq.o zL);have a3:=ZZ (aB.o.below aq.o zL);have ay:=ZZ (ap.o.trans (aq.o.mono ap.o.size));clear K aB ap a9 aq aW aG ak aX a5;by_cases Y:H=0
   case neg=>
    have bB:(H != 0)=true:=by rw[bne_iff_ne];exact Y
    have I:Hid (l=(Xr,H)):=ZZ (by rw[ao.o,if_pos Y])
    obtain⟨p,y0⟩:=F.o.cell 0;obtain⟨x,y1⟩:=F.o.cell 1;obtain⟨u,y2⟩:=F.o.cell 2;obtain⟨z,y3⟩:=F.o.cell 3;obtain⟨y,y4⟩:=F.o.cell 4;obtain⟨A,y5⟩:=F.o.cell 5;clear Y;go_wp2;refine bodyPost_ret (v:=.tuple #[.agg #[.int .i64 0,.int .i64 0,.slice none 0 0,.bool false,.int .i64 0,.slice none 0 0],.int .i64 H]) (by simp[results,Tryz.results76,go_sem,p,x,u,z,y,A]) rfl ?_
    exact aF.o _ _ ay.o I.o
   have bB:(H != 0)=false:=by rw[bne_eq_false_iff_eq];exact Y
   have bG:m=FL:=by rw[bK.o,if_pos Y]
   subst bG;have aa:Hid (l=if(Yf m).2≠0 then(Xr,(Yf m).2) else if Zdk ⟨(f:Nat),(Yf m).1.st,(Yf m).1.tab⟩ then(⟨(f:Nat),(Yf m).1.st,(Yf m).1.tab⟩,0) else(Xr,1)):=ZZ (by rw[ao.o,if_neg (fun h=>h Y)])
   have bb:=ZZ (bl.o _ _ aH.o);clear Y ao bl
   go_wp2_with fail
   refine bb.o.mono ?_;rintro e W5 ⟨vl,vt,S,t,ok,rfl,aU,bf,bz,aV,bg,bj,bu,aZ,ax⟩;obtain⟨Z,lc,bD⟩:∃ a c,vl=.slice a S.L.length c:=by obtain⟨a,c,h,-⟩:=aU;exact⟨a,c,h⟩
   obtain⟨ta,tc,bC⟩:=aV.shape;subst bD bC;obtain⟨q,av⟩:∃ q,q=W5.alloc (.cells #[.int .i64 S.kind,.slice Z S.L.length lc,.bool S.shut,.int .i64 S.eng] 38):=⟨_,rfl⟩;have ab:Hid (Below W5.heap.size W5 q):=ZZ (by rw[av];exact(Below.refl _ _).alloc zL _)
   have aj:Hid (Bx q W5.heap.size #[.int .i64 S.kind,.slice Z S.L.length lc,.bool S.shut,.int .i64 S.eng]):=ZZ (by rw[av];exact heap_alloc_new W5 _)
   have R:=ZZ ((F.o.below ax zL).below ab.o zL);have bJ:=ZZ ((a3.o.below ax zL).below ab.o zL);have aL:=ZZ (ay.o.trans (ax.mono ay.o.size));have aN:=ZZ (aL.o.trans (ab.o.mono aL.o.size));have bv:=ZZ (aU.below ab.o zL);have bt:=ZZ (aV.below ab.o zL);have au:=ZZ (And.intro bf bz);have aD:Hid ((∀ k,(Value.slice Z S.L.length lc).ownBlock=some k->w.heap.size<k)∧(∀ k,(Value.slice ta t.length tc).ownBlock=some k->w.heap.size<k)):=ZZ ⟨fun k B=>by have h1:=bg k B;have h2:=F.o.lt;omega,fun k B=>by have h1:=bj k B;have h2:=F.o.lt;omega⟩
   have bn:=ZZ bu;have a6:=ZZ aZ
   go_upto_region 13 with fail
   rw[<-av];obtain⟨QS,bd⟩:∃ QS,QS=W5.heap.size:=⟨_,rfl⟩;rw[<-bd] at aj ⊢;clear av bd aU bf bz aV bg bj bu aZ ax F a3 ay bb aH ab aL
   cases ok with
   | false=>
    have h3:=bn.o rfl;have I:Hid (l=(Xr,3)):=ZZ (by rw[aa.o,if_pos (by rw[h3];decide),h3])
    obtain⟨p,y0⟩:=R.o.cell 0;obtain⟨x,y1⟩:=R.o.cell 1;obtain⟨u,y2⟩:=R.o.cell 2;obtain⟨z,y3⟩:=R.o.cell 3;obtain⟨y,y4⟩:=R.o.cell 4;obtain⟨A,y5⟩:=R.o.cell 5;clear h3;go_wp2;refine bodyPost_ret (v:=.tuple #[.agg #[.int .i64 0,.int .i64 0,.slice none 0 0,.bool false,.int .i64 0,.slice none 0 0],.int .i64 3]) (by simp[results,Tryz.results76,go_sem,p,x,u,z,y,A]) rfl ?_
    exact aF.o _ _ aN.o I.o
   | true=>
    obtain⟨er,be,aC⟩:=a6.o rfl;rw[be] at aa
    dsimp only at aa
    have I:Hid (l=if Zdk ⟨(f:Nat),S,t⟩ then(⟨(f:Nat),S,t⟩,0) else(Xr,1)):=ZZ (by
     rcases aC with h | ⟨h,h2⟩
     ·rw[aa.o,if_neg (fun h'=>h' h)]
     ·rw[aa.o,if_pos (by rw[h];decide),h,h2,if_neg (ZtD _ _)])
    have aS:=ZZ (fun W (h:Below q.heap.size q W)=>Zqh (.agg #[.int .i64 ((f:Nat):Int),.int .i64 S.kind,.slice Z S.L.length lc,.bool S.shut,.int .i64 S.eng,.slice ta t.length tc]) ⟨(f:Nat),S,t⟩ W ⟨_,_,rfl,bv.o.below h zL,au.o.1,au.o.2,bt.o.below h zL,aO.o⟩)
    obtain⟨m0,-⟩:=bJ.o.cell 0;obtain⟨s0,-⟩:=aj.o.cell 0;obtain⟨s1,-⟩:=aj.o.cell 1;obtain⟨s2,-⟩:=aj.o.cell 2;obtain⟨s3,-⟩:=aj.o.cell 3;have ag:Hid (∀ X,Below q.heap.size q (q.alloc X)):=ZZ (fun X=>(Below.refl _ _).alloc zL X)
    have bp:Hid (∀ cs,Bn (q.alloc (.cells cs 41)) q.heap.size cs):=ZZ (fun cs=>heap_alloc_new q _)
    obtain⟨my,aM⟩:∃ my,my=decide (Zdk ⟨((f:Nat):Int),S,t⟩):=⟨_,rfl⟩;rw[<-aM] at aS;have a0:=ZZ aM;clear be aC a6 bn aa aM
    go_wp2_with fail
    refine(aS.o _ (ag.o _)).mono ?_;rintro e W8 ⟨rfl,aA⟩;have af:=ZZ ((R.o.below (ag.o _) zL).below aA zL);have ac:=ZZ ((bp.o _).below aA zL);have am:=ZZ ((ag.o _).trans (aA.mono (ag.o _).size));have bk:=ZZ (aN.o.trans (am.o.mono aN.o.size));have bM:=ZZ (bv.o.below am.o zL);have bA:=ZZ (bt.o.below am.o zL);obtain⟨p,y0⟩:=af.o.cell 0;obtain⟨x,y1⟩:=af.o.cell 1;obtain⟨u,y2⟩:=af.o.cell 2;obtain⟨z,y3⟩:=af.o.cell 3;obtain⟨y,y4⟩:=af.o.cell 4;obtain⟨A,y5⟩:=af.o.cell 5;clear aA aS m0 s0 s1 s2 s3 R ag bp am
    cases my with
    | false=>
     have aJ:Hid (l=(Xr,1)):=ZZ (by rw[I.o,if_neg (of_decide_eq_false a0.o.symm)])
     go_wp2;refine bodyPost_ret (v:=.tuple #[.agg #[.int .i64 0,.int .i64 0,.slice none 0 0,.bool false,.int .i64 0,.slice none 0 0],.int .i64 1]) (by simp[results,Tryz.results76,go_sem,p,x,u,z,y,A]) rfl ?_
     exact aF.o _ _ bk.o aJ.o
    | true=>
     have aJ:Hid (l=(⟨((f:Nat):Int),S,t⟩,0)):=ZZ (by rw[I.o,if_pos (of_decide_eq_true a0.o.symm)])
     obtain⟨q0,-⟩:=ac.o.cell 0;obtain⟨q1,-⟩:=ac.o.cell 1;obtain⟨q2,-⟩:=ac.o.cell 2;obtain⟨q3,-⟩:=ac.o.cell 3;obtain⟨q4,-⟩:=ac.o.cell 4;obtain⟨q5,-⟩:=ac.o.cell 5;go_wp2;refine bodyPost_ret (v:=.tuple #[.agg #[.int .i64 (f:Int),.int .i64 S.kind,.slice Z S.L.length lc,.bool S.shut,.int .i64 S.eng,.slice ta t.length tc],.int .i64 0]) (by simp[results,Tryz.results76,go_sem,p,x,u,z,y,A]) rfl ?_
     rw[aJ.o];have bc:=ZpZ W8 w.heap.size (.int .i64 (f:Int)) (.int .i64 S.kind) (.slice Z S.L.length lc) (.bool S.shut) (.int .i64 S.eng) (.slice ta t.length tc);exact⟨_,_,rfl,bM.o.but bc (.inr fun k B=>by have:=aD.o.1 k B;omega),au.o.1,au.o.2,bA.o.but bc (.inr fun k B=>by have:=aD.o.2 k B;omega),aO.o,(fun k B=>Nat.le_of_lt (aD.o.1 k B)),(fun k B=>Nat.le_of_lt (aD.o.2 k B)),Zew bk.o _ zL _ _ _ _ _ _⟩
def Z5 (m:List UInt8):Rec × Int × List UInt8 × Bool:=
 let m1:=behind (Qb m).2 m
 let m2:=behind (Qd m1).2 m1
 let m3:=behind (Q0 m2).2 m2
 (⟨0,(Qb m).1,0,(Q0 m2).1,zag (Qd m3).1⟩,zag (Qd m1).1,behind (Qd m3).2 m3,decide ((Qd m3).2≠0))
theorem ZeM (m:List UInt8):∃ b c a,b=behind (Qb m).2 m∧c=behind (Qd b).2 b∧a=behind (Q0 c).2 c∧Z5 m=(⟨0,(Qb m).1,0,(Q0 c).1,zag (Qd a).1⟩,zag (Qd b).1,behind (Qd a).2 a,decide ((Qd a).2≠0)):=
 ⟨_,_,_,rfl,rfl,rfl,rfl⟩
theorem Znj:(Q0 []).2=0:=by
 have:=ZpK [];simpa using this
theorem Zcn {d:Nat} (h:behind d l≠[]):d≠0:=fun e=>h (by rw[e];rfl)
theorem Zke (h:(Qd l).2≠0):l≠[]:=fun e=>h (by rw[e,Zbc])
theorem Zsi (h:(Qb l).2≠0):l≠[]:=fun e=>h (by rw[e,ZcR])
theorem Zsj (h:(Q0 l).2≠0):l≠[]:=fun e=>h (by rw[e];exact Znj)
theorem Ziv (h:(Qb l).2≠0):l=Lib.uvarint (Qb l).1++behind (Qb l).2 l:=by
 rw[Ye h,Zc h,List.take_append_drop]
theorem Znk (h:(Qd l).2≠0):l=Lib.uvarint (Qd l).1++behind (Qd l).2 l:=by
 rw[Ye h,Zjx h,List.take_append_drop]
theorem ZuC (h:(Q0 l).2≠0):l=Xo (Q0 l).1++behind (Q0 l).2 l:=by
 rw[Ye h,(Zha h).2,List.take_append_drop]
theorem ZuD {m:List UInt8} (h:(Z5 m).2.2.2=false):(Z5 m).2.2.1=[]:=by
 unfold Z5 at h ⊢;simp only [decide_eq_false_iff_not,Decidable.not_not] at h ⊢;rw[h];rfl
theorem take_nil:(Z5 []).2.2.2=false:=by
 obtain⟨c,e,g,d,f,j,k⟩:=ZeM [];have b:c=[]:=by rw[d,ZcR];rfl
 have a:e=[]:=by rw[f,b,Zbc];rfl
 have i:g=[]:=by rw[j,a,Znj];rfl
 rw[k,i];show decide ((Qd []).2≠0)=false;rw[Zbc];rfl
theorem Zsk {m:List UInt8} (h:(Z5 m).2.2.2=true):
 m=Lib.uvarint (Z5 m).1.proc.toNat++(Lib.uvarint (Lib.zigzag (Z5 m).2.1)++(Xo (Z5 m).1.op++(Lib.uvarint (Lib.zigzag (Z5 m).1.resp)++(Z5 m).2.2.1))):=by
 obtain⟨a,b,c,f,i,k,t⟩:=ZeM m;rw[t] at h ⊢;simp only [decide_eq_true_eq] at h;have g:(Q0 b).2≠0:=Zcn (l:=b) (by rw[<-k];exact Zke h)
 have n:(Qd a).2≠0:=Zcn (l:=a) (by rw[<-i];exact Zsj g)
 have q:(Qb m).2≠0:=Zcn (l:=m) (by rw[<-f];exact Zke n)
 have p:=Znk h;have j:=ZuC g;have d:=Znk n;have e:=Ziv q;rw[<-f] at e;rw[<-i] at d;rw[<-k] at j;show m=Lib.uvarint ((Qb m).1:Int).toNat++(Lib.uvarint (Lib.zigzag (zag (Qd a).1))++(Xo (Q0 b).1++(Lib.uvarint (Lib.zigzag (zag (Qd c).1))++behind (Qd c).2 c)));rw[Int.toNat_natCast,ZbF,ZbF];exact e.trans (congrArg (Lib.uvarint (Qb m).1++·) (d.trans (congrArg (Lib.uvarint (Qd a).1++·) (j.trans (congrArg (Xo (Q0 b).1++·) p)))))
theorem ZuE (m:List UInt8):I64 (Z5 m).1.proc∧I64 (Z5 m).2.1∧Zxh (Z5 m).1.op∧I64 (Z5 m).1.resp∧(Z5 m).1.idx=0∧(Z5 m).1.seq=0∧0<=(Z5 m).1.proc:=by
 have d:∀ l:List UInt8,I64 (zag (Qd l).1):=fun l=>ZnN (Zks l)
 have x:(Qb m).1<4611686018427387904:=by
  rcases Q4 m with e | e
  ·rw[e];decide
  ·exact e.1
 have k:∀ l:List UInt8,Zxh (Q0 l).1:=fun l=>by
  by_cases h:(Q0 l).2=0
  ·rw[ZqG h]
   exact⟨⟨by decide,by decide⟩,⟨by decide,by decide⟩,⟨by decide,by decide⟩⟩
  ·have b:=(Zha h).1
   have a:=ZaG b;obtain⟨w,t,_⟩:=b;refine⟨?_,a.1,a.2⟩;generalize (Q0 l).1.code=c at *;exact⟨by omega,by omega⟩
 obtain⟨j,f,g,u,q,v,p⟩:=ZeM m;have n:I64 ((Qb m).1:Int):=⟨by omega,by omega⟩
 have i:(0:Int)<=((Qb m).1:Int):=by omega
 rw[p];exact⟨n,d j,k f,d g,rfl,rfl,i⟩
theorem ZxN (m:List UInt8):(Z5 m).2.2.1.length<=m.length:=by
 obtain⟨a,b,d,g,i,j,k⟩:=ZeM m;rw[k];have c:=Zn (Qb m).2 m;have e:=Zn (Qd a).2 a;have f:=Zn (Q0 b).2 b;have l:=Zn (Qd d).2 d;rw[<-g] at c;rw[<-i] at e;rw[<-j] at f;exact Nat.le_trans l (Nat.le_trans f (Nat.le_trans e c))
theorem ZwA {a:List Rec} (g:∀ r ∈ a,Qw r) {r:Rec} (b:Qw r) (t:List UInt8):
 Z5 (Ys a r++t)=(⟨0,r.proc,0,r.op,r.resp⟩,r.seq-Qy a r.proc,t,true):=by
 have d:=Zem g b;have c:=ZaQ b;obtain⟨l,_,_,q,p,n,u,_⟩:=id b
 have E:Ys a r++t=Lib.uvarint r.proc.toNat++(Lib.uvarint (Lib.zigzag (r.seq-Qy a r.proc))++(Xo r.op++(Lib.uvarint (Lib.zigzag r.resp)++t))):=by
  unfold Ys;simp only [append_assoc]
 rw[E]
 have f:(Xo r.op).length≠0:=by
  unfold Xo;have:=Zej r.op.code.toNat;rw[length_append];omega
 have k:=X3 r.proc.toNat (Lib.uvarint (Lib.zigzag (r.seq-Qy a r.proc))++(Xo r.op++(Lib.uvarint (Lib.zigzag r.resp)++t))) (by omega)
 have m:=Zu (Lib.zigzag (r.seq-Qy a r.proc)) (Xo r.op++(Lib.uvarint (Lib.zigzag r.resp)++t)) (ZbH d);have e:=ZlK r.op l (Lib.uvarint (Lib.zigzag r.resp)++t);have i:=Zu (Lib.zigzag r.resp) t (ZbH c);unfold Z5;simp only [k,Ye (Zej _),List.drop_left,m,e,Ye f,i,ZaM _ d.1 d.2,ZaM _ c.1 c.2];have j:((r.proc.toNat:Nat):Int)=r.proc:=by omega
 rw[j,decide_eq_true (Zej _)]
theorem Zco {ao:Option Addr} {cap:Nat} (g:Rd w (.slice ao l.length cap) l) (d:Nat) (j:d<=l.length):
 ∃ c b,(∀ W,(Instr.sliceAt 53 (.slice ao l.length cap) (some (.int .i64 (d:Int))) none none).run prog W=.ok (.slice c (l.drop d).length b) W)∧Rd w (.slice c (l.drop d).length b) (l.drop d):=by
 obtain⟨k,m,f,i,r⟩:=id g;simp only [Value.slice.injEq] at f;obtain⟨rfl,_,rfl⟩:=f;have a:=g.mid d l.length cap j zL i zL;rw[List.take_of_length_le (by simp)] at a
 obtain⟨c,b,e,-⟩:=id a;rw[e] at a;refine⟨c,b,fun W=>?_,a⟩
 rw[run_sliceAt_slice W 53 _ _ _ _ Xf,run_slice_l W 53 ao l.length cap Xf .i64 (d:Int) (by omega) (by omega),Zw,Zcd]
 show Result.ok (sliced ao ((d:Int)).toNat l.length cap 1) W=_;rw[Int.toNat_natCast,e]
def ZiT (w:World) (g:Nat) (L:List Rec):Prop:=w.heap[g]?=some (.cells (Qq L).toArray 62 (0,0))
theorem ZiT.lt (h:ZiT w g L):g<w.heap.size:=(Array.getElem?_eq_some_iff.1 h).1
theorem ZiT.below (h:ZiT w g L) (a:Below B w w') (b:w.heap.size<=B):ZiT w' g L:=(a.block g (by have:=h.lt;omega)).trans h
theorem ZiT.cell (h:ZiT w g L) (i:Nat):w.cell? ⟨g,i,none⟩=(Qq L)[i]?∧w.frozen? ⟨g,i,none⟩=false:=
 ⟨(cell_of_row w g i _ _ _ h).trans (by simp),frozen_of_row w g i _ _ h⟩
theorem ZiT.at (h:ZiT w g L) {k:Nat} (c:k<L.length):Zja w g (k*7) (L.getD k Qi):=by
 have a:∀ j u,j<7->(Zi (L.getD k Qi))[j]?=some u->w.cell? ⟨g,k*7+j,none⟩=some u:=fun j u d b=>(h.cell _).1.trans ((Zbp L k j c d).trans b)
 exact⟨a 0 _ (by decide) rfl,a 1 _ (by decide) rfl,a 2 _ (by decide) rfl,a 3 _ (by decide) rfl,a 4 _ (by decide) rfl,a 5 _ (by decide) rfl,a 6 _ (by decide) rfl⟩
theorem Zgd:∀ (L:List Rec) (k j:Nat) (v:Value) (r:Rec),k<L.length->j<7->(Zi r).toList=(Zi (L.getD k Qi)).toList.set j v->(Qq L).set (k*7+j) v=Qq (L.set k r)
 | s::t,0,j,v,r,_,hj,h=>by
  have e:((s::t).getD 0 Qi)=s:=rfl;rw[e] at h;rw[Qq,Nat.zero_mul,Nat.zero_add,List.set_append_left _ _ (by simp[Zi];omega),<-h]
  rfl
 | s::t,k+1,j,v,r,hk,hj,h=>by
  have e:(k+1)*7+j=(Zi s).toList.length+(k*7+j):=by simp[Zi];omega
  have a:((s::t).getD (k+1) Qi)=t.getD k Qi:=by simp[List.getD]
  rw[a] at h;rw[Qq,e,List.set_append_right _ _ (by omega),Nat.add_sub_cancel_left,Zgd t k j v r (by simpa using hk) hj h]
  rfl
theorem ZiT.set (h:ZiT w g L) {k:Nat} (b:k<L.length) (j:Nat) (c:j<7) (v:Value) (r:Rec) (a:(Zi r).toList=(Zi (L.getD k Qi)).toList.set j v):
 ZiT (w.setCell ⟨g,k*7+j,none⟩ v) g (L.set k r):=by
 have:=heap_setCell_same w g (k*7+j) _ _ v h;unfold ZiT;rw[<-Zgd L k j v r b c a];simpa using this
theorem Zav (a:k<L.length) (r:Rec):(L.set k r).getD k Qi=r:=by simp[List.getD,a]
theorem ZiT.seven (h:ZiT w g L) {k:Nat} (d:k<L.length) (i p s c a b y:Int):
 ZiT (((((((w.setCell ⟨g,k*7,none⟩ (.int .i64 i)).setCell ⟨g,k*7+1,none⟩ (.int .i64 p)).setCell ⟨g,k*7+2,none⟩ (.int .i64 s)).setCell ⟨g,k*7+3,none⟩ (.int .i64 c)).setCell ⟨g,k*7+4,none⟩ (.int .i64 a)).setCell ⟨g,k*7+5,none⟩ (.int .i64 b)).setCell ⟨g,k*7+6,none⟩ (.int .i64 y)) g (L.set k ⟨i,p,s,⟨c,a,b⟩,y⟩):=by
 have e:∀ r,k<(L.set k r).length:=fun r=>by simpa using d
 generalize C:L.getD k Qi=R;obtain⟨D,B,x,⟨m,l,j⟩,f⟩:=R;have A:=h.set d 0 (by decide) (.int .i64 i) ⟨i,B,x,⟨m,l,j⟩,f⟩ (by rw[C];rfl)
 have t:=A.set (e _) 1 (by decide) (.int .i64 p) ⟨i,p,x,⟨m,l,j⟩,f⟩ (by rw[Zav d];rfl)
 rw[List.set_set] at t;have n:=t.set (e _) 2 (by decide) (.int .i64 s) ⟨i,p,s,⟨m,l,j⟩,f⟩ (by rw[Zav d];rfl)
 rw[List.set_set] at n;have u:=n.set (e _) 3 (by decide) (.int .i64 c) ⟨i,p,s,⟨c,l,j⟩,f⟩ (by rw[Zav d];rfl)
 rw[List.set_set] at u;have v:=u.set (e _) 4 (by decide) (.int .i64 a) ⟨i,p,s,⟨c,a,j⟩,f⟩ (by rw[Zav d];rfl)
 rw[List.set_set] at v;have q:=v.set (e _) 5 (by decide) (.int .i64 b) ⟨i,p,s,⟨c,a,b⟩,f⟩ (by rw[Zav d];rfl)
 rw[List.set_set] at q;have z:=q.set (e _) 6 (by decide) (.int .i64 y) ⟨i,p,s,⟨c,a,b⟩,y⟩ (by rw[Zav d];rfl)
 rw[List.set_set] at z;exact z
theorem ZiT.rd (h:ZiT w g L) (c:∀ r ∈ L,ZcK r) (b:L.length<=maxLen):RdR w (.slice (some ⟨g,0,none⟩) L.length L.length) L:=
 ⟨_,_,rfl,Nat.le_refl _,b,(fun e=>by cases e),c,.inr ⟨g,0,rfl,fun j a=>by rw[Nat.zero_add];exact h.at a⟩⟩
theorem ZeN:∀ n:Nat,Qq (List.replicate n Qi)=List.replicate (n*7) (Value.int .i64 0)
 | 0=>rfl
 | n+1=>by
  have e:(n+1)*7=7+n*7:=by omega
  rw[List.replicate_succ,Qq,ZeN n,e,<-List.replicate_append_replicate];rfl
theorem Zlt (w:World) (n:Nat) (l:n<=1000000):(Instr.makeSlice 29 (.int .i64 (n:Int)) (.int .i64 (n:Int))).run prog w=.ok (.slice (some ⟨w.heap.size,0,none⟩) n n) (w.alloc (.cells (Qq (List.replicate n Qi)).toArray 62)):=by
 obtain⟨k,a,c,b,g⟩:=info_parts Zdc;have h:=run_make (P:=prog) w 29 62 k _ underlying29 a c .i64 .i64 (n:Int) (n:Int) (by omega) (Int.le_refl _) (by rw[g];omega) (by omega)
 rw[Int.toNat_natCast,b] at h;rw[h]
 congr 3
 apply Array.ext';rw[ZeN];apply List.ext_getElem?;intro i;show(madeCells #[Value.int .i64 0,.int .i64 0,.int .i64 0,.int .i64 0,.int .i64 0,.int .i64 0,.int .i64 0] (n*7)).toList[i]?=_;by_cases a:i<n*7
 ·have f:i % 7<7:=Nat.mod_lt _ (by decide)
  have e:∀ j,j<7->(#[Value.int .i64 0,.int .i64 0,.int .i64 0,.int .i64 0,.int .i64 0,.int .i64 0,.int .i64 0]:Array Value)[j]! = .int .i64 0:=by
   intro j d
   match j,d with
   | 0,_ | 1,_ | 2,_ | 3,_ | 4,_ | 5,_ | 6,_=>rfl
  simp only [madeCells,Array.toList_map,Array.toList_range,List.getElem?_map,List.getElem?_range a,Option.map_some,List.getElem?_replicate,if_pos a];exact congrArg some (e (i % 7) f)
 ·simp[madeCells,a]
structure Zpf (b:List UInt8) (first count:Nat) (L:List Rec) (m:List UInt8) (t:Bool):Prop where
 chain:Xq first L
 ok:∀ r ∈ L,ZcK r
 sound:t=true->(∀ r ∈ L,Qw r)->b=Lib.uvarint first++(Lib.uvarint count++(Xw [] L++m))
 none:t=false->m=[]
 whole:∀ l',Yc l'->Y2 l'=b->l'.length=count∧L=l'.take L.length∧m=Xw (l'.take L.length) (l'.drop L.length)∧t=true∧(l'.headD Qi).idx=first
def ZcT (first:Nat) (L:List Rec) (r:Rec) (d:Int):Rec:=⟨(first:Int)+L.length,r.proc,IntKind.i64.wrap (Qy L r.proc+d),r.op,r.resp⟩
theorem Ziw (n:Int):I64 (IntKind.i64.wrap n):=by
 unfold I64;rw[IntKind.wrap_i64];omega
theorem ZuF {a d:Int} (g:0<=a) (j:a<4611686018427387904) (b:I64 d) (i:0<=IntKind.i64.wrap (a+d)) (c:IntKind.i64.wrap (a+d)<4611686018427387904):IntKind.i64.wrap (a+d)-a=d:=by
 obtain⟨e,f⟩:=b;rw[IntKind.wrap_i64] at *;omega
theorem Zpf.step {b:List UInt8} (h:Zpf b first g L m t) (hf:first<4611686018427387904) (ab:L.length<g) (hc:g<=256)
 {R:Rec} {d:Int} {m':List UInt8} {n:Bool} (p:Z5 m=(R,d,m',n)):
 Zpf b first g (L++[ZcT first L R d]) m' n:=by
 have q:=ZuE m;have w:=@ZuD m;have u:=@Zsk m
 have D:m=[]->n=false:=fun e=>by
  have:=take_nil;rw[<-e,p] at this;exact this
 rw[p] at q w u;obtain⟨hp,hd,W,T,-,-,ac⟩:=q;refine⟨?_,?_,?_,w,?_⟩
 ·exact(ZfA L first (ZcT first L R d)).2 ⟨h.chain,rfl⟩
 ·intro r hr
  rcases List.mem_append.1 hr with hr | hr
  ·exact h.ok r hr
  ·simp only [List.mem_singleton] at hr
   rw[hr];have j:I64 ((first:Int)+L.length):=⟨by omega,by omega⟩
   exact⟨j,hp,Ziw _,W,T⟩
 ·intro c x
  have k:m≠[]:=fun e=>by
   rw[D e] at c
   cases c
  have G:t=true:=by
   cases t with
   | true=>rfl
   | false=>exact absurd (h.none rfl) k
  have v:∀ r ∈ L,Qw r:=fun r hr=>x r (by simp[hr])
  have M:Qw (ZcT first L R d):=x _ (by simp)
  have A:=h.sound G v;have Q:=u c;obtain⟨Y,U⟩:=ZjB R.proc v;obtain⟨_,_,_,F,B,_⟩:=M;have O:(ZcT first L R d).seq-Qy L (ZcT first L R d).proc=d:=ZuF Y U hd F B
  have he:Xw [] (L++[ZcT first L R d])=Xw [] L++Ys L (ZcT first L R d):=by
   rw[Zhn];simp[Xw]
  have H:Ys L (ZcT first L R d)++m'=m:=by
   unfold Ys;rw[O];refine Eq.trans ?_ Q.symm;simp only [append_assoc];rfl
  rw[he,append_assoc,H];exact A
 ·intro a i I
  obtain⟨V,l,Z,w4,z⟩:=h.whole a i I;have f:L.length<a.length:=by omega
  have y:Qw (a.getD L.length Qi):=i.2.2.1 _ (by simp[List.getD,f])
  have J:∀ r ∈ L,Qw r:=fun r hr=>by
   rw[l] at hr;exact i.2.2.1 r (mem_of_mem_take hr)
  have N:a.drop L.length=a.getD L.length Qi::a.drop (L.length+1):=by
   rw[List.drop_eq_getElem_cons f];simp[List.getD,f]
  have k:m=Ys L (a.getD L.length Qi)++Xw (L++[a.getD L.length Qi]) (a.drop (L.length+1)):=by
   rw[Z,N,Xw,<-l]
  have c:=ZwA J y (Xw (L++[a.getD L.length Qi]) (a.drop (L.length+1)));rw[<-k,p] at c;have j:=ZmU a _ _ i.2.2.2 f;rw[z] at j;have C:(L++[ZcT first L R d]).length=L.length+1:=by simp
  rw[C,Zfz f];rw[<-l];generalize a.getD L.length Qi=r at *;simp only [Prod.mk.injEq] at c;obtain⟨aa,X,P,K⟩:=c
  have S:ZcT first L R d=r:=by
   obtain⟨_,_,_,q0,q1,_⟩:=y;unfold ZcT;rw[aa,X];have E:Qy L r.proc+(r.seq-Qy L r.proc)=r.seq:=by omega
   show(⟨_,r.proc,IntKind.i64.wrap (Qy L r.proc+(r.seq-Qy L r.proc)),r.op,r.resp⟩:Rec)=_;rw[E,ZnS ⟨by omega,by omega⟩,<-j]
  rw[S];exact⟨V,rfl,P,K,z⟩
theorem Zpf.done {b:List UInt8} (h:Zpf b first L.length L m t):
 (t=true∧m=[]∧Yc L->Y2 L=b)∧(¬ (t=true∧m=[]∧Yc L)->∀ a,Yc a->Y2 a≠b):=by
 constructor
 ·rintro⟨ht,hm,hf⟩
  have d:=h.sound ht hf.2.2.1;rw[hm,List.append_nil] at d;rw[d];unfold Y2;have c:=h.chain;have j:=hf.1
  match L,j,c with
  | r::u,_,c=>
   have e:r.idx=(first:Int):=c.1;show Lib.uvarint r.idx.toNat++_=_;rw[e,Int.toNat_natCast]
 ·intro l a g k
  obtain⟨i,f,p,n,q⟩:=h.whole a g k;rw[<-i,take_length] at f;refine l ⟨n,?_,by rw[f];exact g⟩
  rw[p,<-i,List.drop_length];rfl
theorem ZdR (x:Int) (d:Nat) (v:Value) (m:List UInt8) (w:World) (g:Rd w v m) (q:d<=m.length)
 (b:Calls prog 168 #[v] w fun e w'=>e=.returned (.tuple #[.int .i64 x,.int .i64 (d:Nat)])∧w'=w):
 Calls prog 167 #[v,.func (.func 168) #[] #[]] w fun e w'=>∃ v',e=.returned (.tuple #[.int .i64 x,v',.bool (decide (d≠0))])∧Rd w' v' (behind d m)∧Below w.heap.size w w':=by
 have f:=ZZ b;have j:=ZZ g;obtain⟨ao,cap,rfl,-⟩:=g;by_cases a:d=0
 ·subst a
  clear b
  go_enter func167,ntmps167
  go_wp2_with fail
  refine f.o.mono ?_;rintro e w' ⟨rfl,rfl⟩;go_wp2;refine bodyPost_ret (v:=.tuple #[.int .i64 x,.slice none 0 0,.bool false]) (by simp[results,Tryz.results167,go_sem]) rfl ?_
  exact⟨_,rfl,Rd.nil _,Below.refl _ _⟩
 ·have t:((d:Int) == 0)=false:=beq_eq_false_iff_ne.2 (by omega)
  have p:Hid (behind d m=m.drop d):=if_neg a;have i:Hid (decide (d≠0)=true):=decide_eq_true a;obtain⟨l,k,hcut,c⟩:=Zco j.o d q;have n:=ZZ c;clear b a c;generalize m.drop d=M at *
  go_enter func167,ntmps167
  go_wp2_with fail
  refine f.o.mono ?_;rintro e w' ⟨rfl,rfl⟩;go_wp2;refine wp_region_quiet_lit (by kernel_rfl) (by kernel_rfl) ?_
  repeat (go_big_quiet_step (fail))
  refine wpQuiet_nil ?_;rintro _ ⟨nq,rfl⟩;go_wp2;refine bodyPost_ret (v:=.tuple #[.int .i64 x,.slice l M.length k,.bool true]) (by simp[results,Tryz.results167,go_sem]) rfl ?_
  refine⟨_,by rw[i.o],?_,Xn (Below.refl _ _) _⟩
  rw[p.o];exact n.o.below (Xn (Below.refl _ _) _) zL
theorem Zdu (x:Int) (d:Nat) (v:Value) (m:List UInt8) (w:World) (g:Rd w v m) (q:d<=m.length)
 (b:Calls prog 201 #[v] w fun e w'=>e=.returned (.tuple #[.int .i64 x,.int .i64 (d:Nat)])∧w'=w):
 Calls prog 167 #[v,.func (.func 201) #[] #[]] w fun e w'=>∃ v',e=.returned (.tuple #[.int .i64 x,v',.bool (decide (d≠0))])∧Rd w' v' (behind d m)∧Below w.heap.size w w':=by
 have f:=ZZ b;have j:=ZZ g;obtain⟨ao,cap,rfl,-⟩:=g;by_cases a:d=0
 ·subst a
  clear b
  go_enter func167,ntmps167
  go_wp2_with fail
  refine f.o.mono ?_;rintro e w' ⟨rfl,rfl⟩;go_wp2;refine bodyPost_ret (v:=.tuple #[.int .i64 x,.slice none 0 0,.bool false]) (by simp[results,Tryz.results167,go_sem]) rfl ?_
  exact⟨_,rfl,Rd.nil _,Below.refl _ _⟩
 ·have t:((d:Int) == 0)=false:=beq_eq_false_iff_ne.2 (by omega)
  have p:Hid (behind d m=m.drop d):=if_neg a;have i:Hid (decide (d≠0)=true):=decide_eq_true a;obtain⟨l,k,hcut,c⟩:=Zco j.o d q;have n:=ZZ c;clear b a c;generalize m.drop d=M at *
  go_enter func167,ntmps167
  go_wp2_with fail
  refine f.o.mono ?_;rintro e w' ⟨rfl,rfl⟩;go_wp2;refine wp_region_quiet_lit (by kernel_rfl) (by kernel_rfl) ?_
  repeat (go_big_quiet_step (fail))
  refine wpQuiet_nil ?_;rintro _ ⟨nq,rfl⟩;go_wp2;refine bodyPost_ret (v:=.tuple #[.int .i64 x,.slice l M.length k,.bool true]) (by simp[results,Tryz.results167,go_sem]) rfl ?_
  refine⟨_,by rw[i.o],?_,Xn (Below.refl _ _) _⟩
  rw[p.o];exact n.o.below (Xn (Below.refl _ _) _) zL
theorem Bo.set (h:Bo w b cs) (j:Nat) (x:Value):Bo (w.setCell ⟨b,j,none⟩ x) b (cs.setIfInBounds j x):=by
 have:=heap_setCell_same w b j _ _ x h;unfold Bo;simpa using this
theorem Bo.three {d e a:Value} (h:Bo w b #[d,e,a]) (x y z:Value):Bo (((w.setCell ⟨b,0,none⟩ x).setCell ⟨b,1,none⟩ y).setCell ⟨b,2,none⟩ z) b #[x,y,z]:=by
 have c:=((h.set 0 x).set 1 y).set 2 z;exact c
theorem Zsl (v:Value) (m:List UInt8) (w:World) (D:Rd w v m) (P:m.length<=1000000):
 Calls prog 208 #[v,.func (.func 209) #[] #[]] w fun e w'=>∃ v',e=.returned (.tuple #[opV (Q0 m).1,v',.bool (decide ((Q0 m).2≠0))])∧Rd w' v' (behind (Q0 m).2 m)∧Below w.heap.size w w':=by
 have y:=ZZ (fun W h=>ZuA v m W h P)
 unfold ZtI at y;have t:=ZZ D;have L:=ZpK m;obtain⟨ao,cap,rfl,-⟩:=D;have l:Hid (∀ X,Below w.heap.size w (w.alloc X)):=fun X=>(Below.refl _ _).alloc zL X
 generalize (Q0 m).2=d at *;generalize (Q0 m).1=o at *;have B:Hid (∀ cs,Bo (w.alloc (.cells cs 52)) w.heap.size cs):=fun cs=>heap_alloc_new w _
 unfold opV at *;obtain⟨f,a,b⟩:=o
 dsimp only at *
 by_cases n:d=0
 ·subst n
  go_enter func208,ntmps208
  go_wp2_with fail
  refine(y.o _ (t.o.below (l.o _) zL)).mono ?_;rintro e i ⟨rfl,j⟩;have c:Bo i w.heap.size _:=(B.out _).below j zL;obtain⟨S,G⟩:=c.cell 0;obtain⟨Q,T⟩:=c.cell 1;obtain⟨U,K⟩:=c.cell 2;have u:=ZZ ((l.o _).trans (j.mono (l.o _).size));have F:=c.lt;have N:i.heap.size≠w.heap.size:=by omega
  have R:w.heap.size≠i.heap.size:=by omega
  have x:=ZZ c;clear j c;go_wp2;have g:Bo ((((i.setCell ⟨w.heap.size,0,none⟩ (.int .i64 f)).setCell ⟨w.heap.size,1,none⟩ (.int .i64 a)).setCell ⟨w.heap.size,2,none⟩ (.int .i64 b)).alloc (.cells #[.int .i64 f,.int .i64 a,.int .i64 b] 52)) w.heap.size #[.int .i64 f,.int .i64 a,.int .i64 b]:=(x.o.three _ _ _).below ((Below.refl _ _).alloc zL _) zL;have z:=(g.cell 0).1;have A:=(g.cell 1).1;have q:=(g.cell 2).1;have k:=ZZ (((u.o.setCell (p:=⟨w.heap.size,0,none⟩) zL (.int .i64 f)).setCell (p:=⟨w.heap.size,1,none⟩) zL (.int .i64 a)).setCell (p:=⟨w.heap.size,2,none⟩) zL (.int .i64 b));clear g;refine bodyPost_ret (v:=.tuple #[.agg #[.int .i64 f,.int .i64 a,.int .i64 b],.slice none 0 0,.bool false]) (by simp[results,Tryz.results208,go_sem,z,A,q]) rfl ?_
  exact⟨_,rfl,Rd.nil _,k.o.alloc k.o.size _⟩
 ·have V:((d:Int) == 0)=false:=beq_eq_false_iff_ne.2 (by omega)
  have O:Hid (behind d m=m.drop d):=if_neg n;have E:Hid (decide (d≠0)=true):=decide_eq_true n;obtain⟨I,H,hcut,C⟩:=Zco t.o d L;have J:=ZZ C;clear n C;generalize m.drop d=M at *
  go_enter func208,ntmps208
  go_wp2_with fail
  refine(y.o _ (t.o.below (l.o _) zL)).mono ?_;rintro e i ⟨rfl,j⟩;have c:Bo i w.heap.size _:=(B.out _).below j zL;obtain⟨S,G⟩:=c.cell 0;obtain⟨Q,T⟩:=c.cell 1;obtain⟨U,K⟩:=c.cell 2;have u:=ZZ ((l.o _).trans (j.mono (l.o _).size));have F:=c.lt;have N:i.heap.size≠w.heap.size:=by omega
  have R:w.heap.size≠i.heap.size:=by omega
  have x:=ZZ c;clear j c;go_wp2
  go_region
  all_goals
   go_wp2;have g:Bo ((((i.setCell ⟨w.heap.size,0,none⟩ (.int .i64 f)).setCell ⟨w.heap.size,1,none⟩ (.int .i64 a)).setCell ⟨w.heap.size,2,none⟩ (.int .i64 b)).alloc (.cells #[.int .i64 f,.int .i64 a,.int .i64 b] 52)).drew w.heap.size #[.int .i64 f,.int .i64 a,.int .i64 b]:=(x.o.three _ _ _).below (((Below.refl _ _).alloc zL _).drew) zL;have z:=(g.cell 0).1;have A:=(g.cell 1).1;have q:=(g.cell 2).1;have k:=ZZ (((u.o.setCell (p:=⟨w.heap.size,0,none⟩) zL (.int .i64 f)).setCell (p:=⟨w.heap.size,1,none⟩) zL (.int .i64 a)).setCell (p:=⟨w.heap.size,2,none⟩) zL (.int .i64 b));clear g;refine bodyPost_ret (v:=.tuple #[.agg #[.int .i64 f,.int .i64 a,.int .i64 b],.slice I M.length H,.bool true]) (by simp[results,Tryz.results208,go_sem,z,A,q]) rfl ?_
   refine⟨_,by rw[E.o],?_,(k.o.alloc k.o.size _).drew⟩
   rw[O.o];exact J.o.below (k.o.alloc k.o.size _).drew zL
end Go.Proofs.YtnahjngbneicaaaGreatDoor
