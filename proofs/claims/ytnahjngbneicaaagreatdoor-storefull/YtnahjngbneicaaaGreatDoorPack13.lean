import Derived.Test.YtnahjngbneicaaaGreatDoorPack12
namespace Go.Proofs.YtnahjngbneicaaaGreatDoor
set_option linter.unusedSimpArgs false
open _root_.Go.Proofs.Tryz
open List (append_assoc drop_drop flatten_cons length_append length_cons length_drop mem_cons mem_of_mem_take take_length)
set_option maxHeartbeats 4000000
set_option maxRecDepth 100000
open Go.RowKit
variable {W w w':World} {B C b first g k:Nat} {cs:Array Value} {v v':Value} {l m:List UInt8} {L:List Rec} {t:Bool}
abbrev zer:=@List.set_set
abbrev zf9:=@Nat.le_of_lt
abbrev zg6:=@List.drop_left
def Ztx (w:World) (b:List UInt8) (e:Ending) (w':World):Prop:=
 ∃ (vl vt:Value) (S:St) (t:List Ent) (ok:Bool),e=.returned (.tuple #[.agg #[.int .i64 S.kind,vl,.bool S.shut,.int .i64 S.eng],vt,.bool ok])∧RdI w' vl S.L∧I64 S.kind∧I64 S.eng∧RdE w' vt t∧(∀ k,vl.ownBlock=some k->w.heap.size<=k)∧(∀ k,vt.ownBlock=some k->w.heap.size<=k)∧
  (ok=false->(Yw b).2=3)∧(ok=true->∃ er,Yw b=(⟨0,S,t⟩,er)∧(er=0∨(er=1∧S=ZcA)))∧Below w.heap.size w w'
theorem Ztx.none {w w':World} {b:List UInt8} (h:(Yw b).2=3) (c:Below w.heap.size w w'):Ztx w b (.returned (.tuple #[.agg #[.int .i64 0,.slice none 0 0,.bool false,.int .i64 0],.slice none 0 0,.bool false])) w':=
 ⟨_,_,ZcA,[],false,rfl,RdI.nil _,(Qo (by decide) (by decide):I64 0),(Qo (by decide) (by decide):I64 0),RdE.nil _,(fun k a=>by simp[Value.ownBlock] at a),(fun k a=>by simp[Value.ownBlock] at a),(fun _=>h),(fun h=>by cases h),c⟩
theorem ZxZ (ao:Option Addr) (l:List UInt8) (cap:Nat) (g:l.length<=cap) (j:Nat) (f:j<=l.length):
 ∃ b a c,(∀ W,(Instr.sliceAt 53 (.slice ao l.length cap) none (some (.int .i64 (j:Int))) (some (.int .i64 (j:Int)))).run prog W=.ok (.slice b a c) W)∧∀ W,Rd W (.slice ao l.length cap) l->Rd W (.slice b a c) (l.take j):=by
 have d:∃ b a c,sliced ao 0 j j 1=.slice b a c:=by
  unfold sliced;exact⟨_,_,_,rfl⟩
 obtain⟨b,a,c,d⟩:=d;refine⟨b,a,c,fun W=>?_,fun W h=>?_⟩
 ·rw[zcn W 53 _ _ _ _ Xu,run_slice_hm W 53 ao l.length cap Xu .i64 .i64 (j:Int) (j:Int) (by omega) (by omega) (by omega),Jt,Zcd]
  simp only [zbj];rw[<-d];rfl
 ·rw[<-d]
  have e:=h.mid 0 j j (zap _) f zL (by omega)
  rw[List.drop_zero,ze6] at e;exact e
def four (w:World) (R:Nat) (x0 x1 x2 x3:Value):World:=(((w.setCell ⟨R,0,none⟩ x0).setCell ⟨R,1,none⟩ x1).setCell ⟨R,2,none⟩ x2).setCell ⟨R,3,none⟩ x3
theorem Zdr {b:World} (h:Below C b w) (R:Nat) (a:C<=R) (d e f c:Value):Below C b ((((w.setCell ⟨R,0,none⟩ d).setCell ⟨R,1,none⟩ e).setCell ⟨R,2,none⟩ f).setCell ⟨R,3,none⟩ c):=
 (((h.setCell a _).setCell a _).setCell a _).setCell a _
theorem Zya (w:World) (R:Nat) (b c d a:Value):But R R w ((((w.setCell ⟨R,0,none⟩ b).setCell ⟨R,1,none⟩ c).setCell ⟨R,2,none⟩ d).setCell ⟨R,3,none⟩ a):=
 ((((But.refl R R w).set _ _ (.inl rfl) _).set _ _ (.inl rfl) _).set _ _ (.inl rfl) _).set _ _ (.inl rfl) _
theorem Zmv (v:Value) (b:List UInt8) (w:World) (S:Rd w v b) (bg:b.length<=100000):
 Calls prog 117 #[v] w fun e w'=>Ztx w b e w':=by
 obtain⟨d,X⟩:=zg7 (((w.alloc (.cells #[.int .i64 0,.slice none 0 0,.bool false,.int .i64 0] 38)).alloc (.cells #[.int .i64 0] 3)).alloc (.cells #[.pointer (some ⟨w.heap.size+1,0,none⟩)] 208));have g:=Zjb w (.cells #[.int .i64 0,.slice none 0 0,.bool false,.int .i64 0] 38) (.cells #[.int .i64 0] 3) (.cells #[.pointer (some ⟨w.heap.size+1,0,none⟩)] 208);rw[<-X] at g;obtain⟨hA,T,hC⟩:=g;have af:Hid (Below w.heap.size w d):=ZZ (by rw[X];exact(((zac _ _).alloc zL _).alloc (by simp) _).alloc (by simp;omega) _)
 have aO:Bx d w.heap.size #[.int .i64 0,.slice none 0 0,.bool false,.int .i64 0]:=hA
 have ao:=ZZ (Zau (w.heap.size+1+1) [(w.heap.size+1,0)] v b d (S.below af.o zL) (fun p J=>by
  rw[zaw.1 J]
  exact⟨⟨⟨0,zas d (w.heap.size+1) 0 _ _ _ T⟩,zbc d (w.heap.size+1) 0 _ _ T⟩,by simp⟩) (by simp) hC 1 rfl)
 have av:Hid (∀ n:Nat,(d.setCell ⟨w.heap.size+1,0,none⟩ (.int .i64 (n:Int))).cell? ⟨w.heap.size+1,0,none⟩=some (.int .i64 (n:Int))):=ZZ (fun n=>zdm _ _ _ (zas d (w.heap.size+1) 0 _ _ _ T))
 have aK:Hid (∀ ns,Below w.heap.size w (Za d ([(w.heap.size+1,0)].take (List.length ns)) ns)):=ZZ (fun ns=>Zbi d _ ns _ w (fun p J=>by
  have:=mem_of_mem_take J;rw[zaw.1 this]
  simp) af.o)
 have aN:Hid (∀ ns,Bx (Za d ([(w.heap.size+1,0)].take (List.length ns)) ns) w.heap.size #[.int .i64 0,.slice none 0 0,.bool false,.int .i64 0]):=ZZ (fun ns=>(Zbh d _ ns _ (fun p J=>by
  have:=mem_of_mem_take J;rw[zaw.1 this]
  simp)).trans aO)
 have ae:=ZZ (fun ns l h=>Zjc (b:=b) (ns:=ns) (l:=l) h)
 have al:=ZZ (fun h=>Zjd (b:=b) h)
 have B:Hid (Yw b=if(Qb b).2=0∨b.length<(Qb b).2+(Qb b).1 then(Yf,3) else if(ZdP ((b.drop (Qb b).2).take (Qb b).1)).2=3 then(Yf,3) else match Zbe (b.drop ((Qb b).2+(Qb b).1)) with
  | none=>(Yf,3)
  | some t=>(⟨0,(ZdP ((b.drop (Qb b).2).take (Qb b).1)).1,t⟩,(ZdP ((b.drop (Qb b).2).take (Qb b).1)).2)):=ZZ rfl
 have hd:=Jy b
 have be:(Qb b).1<4611686018427387904:=by
  rcases Xh b with h | h
  ·rw[h];decide
  ·exact h.1
 have aC:=ZZ (fun G l W h h2=>Zjf G l W h h2)
 have aR:=ZZ (fun G l W h h2=>Zmt G l W h h2)
 have aJ:Hid ([(w.heap.size+1,0)].length=1):=ZZ rfl;rw[aJ.o] at ao;generalize Zw 1 b=GL at *;have aP:=ZZ S;obtain⟨va,vc,hv⟩:∃ a c,v=.slice a b.length c:=by obtain⟨a,c,h,-⟩:=S;exact⟨a,c,h⟩
 subst hv;clear S hA T hC aO aJ
 go_enter func117,ntmps117
 go_wp2_with fail
 rw[<-X];refine ao.o.mono ?_;rintro e A ⟨G,l,ns,rfl,aA,aI,aq,az,ax,M⟩;have C:Hid (Below w.heap.size w A):=ZZ ((aK.o ns).trans (M.below _));have j:Hid (Bx A w.heap.size #[.int .i64 0,.slice none 0 0,.bool false,.int .i64 0]):=ZZ ((aN.o ns).below (M.below (Za d ([(w.heap.size+1,0)].take ns.length) ns).heap.size) zL);have a2:=ZZ aA;have P:=ZZ (aA A (aP.o.below C.o zL));obtain⟨a1,c1,aY⟩:∃ a c,G=.slice a l.length c:=by obtain⟨a,c,h,-⟩:=P.o;exact⟨a,c,h⟩
 subst aY;obtain⟨z,y0⟩:=j.o.cell 0;obtain⟨u,y1⟩:=j.o.cell 1;obtain⟨x,y2⟩:=j.o.cell 2;obtain⟨m,y3⟩:=j.o.cell 3;clear ao aK af X aN
 cases GL with
 | none=>
  have O:Hid ((Yw b).2=3):=ZZ (by rw[B.o,zab (.inl (al.o rfl))])
  clear aI aq az ax M B al ae;go_wp2;refine zax (v:=.tuple #[.agg #[.int .i64 0,.slice none 0 0,.bool false,.int .i64 0],.slice none 0 0,.bool false]) (by simp[results,Tryz.results117,go_sem,z,u,x,m]) rfl ?_
  exact Ztx.none O.o (Zdr C.o _ zL _ _ _ _)
 | some gp=>
  have:=aq gp rfl;subst this;obtain⟨g1,g2,g3⟩:=ae.o _ _ rfl;subst g2;have aU:l.length=b.length-(Qb b).2:=by rw[g3,length_drop]
  have ag:A.cell? ⟨w.heap.size+1,0,none⟩=some (.int .i64 ((Qb b).1:Int)):=by
   rw[M.cell];exact av.o _
  rw[<-drop_drop,<-g3] at B;generalize (Qb b).1=n at *;generalize (Qb b).2=k at *;clear aI aq az ax M al ae g3 av;by_cases a7:l.length<n
  ·have O:Hid ((Yw b).2=3):=ZZ (by rw[B.o,zab (.inr (by omega))])
   have a8:(l.length:Int)<(n:Int):=by omega
   clear aU B;go_wp2;refine zax (v:=.tuple #[.agg #[.int .i64 0,.slice none 0 0,.bool false,.int .i64 0],.slice none 0 0,.bool false]) (by simp[results,Tryz.results117,go_sem,z,u,x,m]) rfl ?_
   exact Ztx.none O.o (Zdr C.o _ zL _ _ _ _)
  have a8:¬ (l.length:Int)<(n:Int):=by omega
  have ai:l.length<=c1:=by
   obtain⟨a',c',h,h2,-⟩:=P.o;simp only [zbb] at h;omega
  obtain⟨xa,xn,xc,bf,aE⟩:=ZxZ a1 l c1 ai n (by omega)
  obtain⟨ua,uc,bd,aM⟩:=Zhq a1 l c1 ai n (by omega)
  have R:=ZZ (aC.o _ (l.take n) A (aE A P.o) (by rw[zb5];omega))
  have a0:=ZZ (fun W h=>aM W (a2.o W h))
  have a9:=ZZ (fun v2 W h=>aR.o v2 (l.drop n) W h (by rw[length_drop];omega))
  have V:Hid (Yw b=if(ZdP (l.take n)).2=3 then(Yf,3) else match Zbe (l.drop n) with
   | none=>(Yf,3)
   | some t=>(⟨0,(ZdP (l.take n)).1,t⟩,(ZdP (l.take n)).2)):=ZZ (by rw[B.o,zaa (by omega)])
  have aG:=ZZ (ZrV (l.take n));clear aE aM B aC aR aU a7 ai hd g1;generalize ZdP (l.take n)=DS at *;generalize Zbe (l.drop n)=TL at *;generalize l.drop n=l2 at *;obtain⟨⟨K,q,I,H⟩,Z⟩:=DS;unfold Zav at R
  dsimp only at R V aG
  go_wp2_with fail
  refine R.o.mono ?_;rintro e i ⟨vl,rfl,am,aF,aB,aV,ac⟩;obtain⟨F,lc,a5⟩:∃ a c,vl=.slice a q.length c:=by obtain⟨a,c,h,-⟩:=am;exact⟨a,c,h⟩
  subst a5;have bi:=C.o.size;have au:=ZZ (C.o.trans (ac.mono C.o.size));have ar:=ZZ (j.o.below ac zL);have ak:i.cell? ⟨w.heap.size+1,0,none⟩=some (.int .i64 (n:Int)):=(ac.cell (p:=⟨w.heap.size+1,0,none⟩) (za1 A ⟨w.heap.size+1,0,none⟩ ag)).trans ag;have aD:=ZZ am;have aS:=ZZ (And.intro aF aB)
  have ay:Hid (∀ k,(Value.slice F q.length lc).ownBlock=some k->w.heap.size<k):=ZZ (fun k f=>by
   have N:=aV k f;have h2:=j.o.lt
   omega)
  clear ag am aF aB aV ac R z u x m y0 y1 y2 y3 j P;obtain⟨D,Q⟩:=zg7 (i.alloc (.cells #[.int .i64 K,.slice F q.length lc,.bool I,.int .i64 H] 38));have E:Hid (Below i.heap.size i D):=ZZ (by rw[Q];exact(zac _ _).alloc zL _)
  have ap:Hid (Bx D i.heap.size #[.int .i64 K,.slice F q.length lc,.bool I,.int .i64 H]):=ZZ (by rw[Q];exact zak i _)
  have Y:=ZZ (au.o.trans (E.o.mono au.o.size));have y:=ZZ (ar.o.below E.o zL);have a3:D.cell? ⟨w.heap.size+1,0,none⟩=some (.int .i64 (n:Int)):=(E.o.cell (p:=⟨w.heap.size+1,0,none⟩) (za1 i ⟨w.heap.size+1,0,none⟩ ak)).trans ak;have aH:=ZZ (aD.o.below E.o zL)
  go_upto_region 6 with fail
  rw[<-Q];obtain⟨QB,aW⟩:=zg7 i.heap.size;have bc:w.heap.size<QB:=by have:=ar.o.lt;omega
  rw[<-aW] at ap ⊢;clear Q ak aW aD ar au E;by_cases g:Z=3
  ·have aX:(Z == 3)=true:=zbi.2 g
   have O:Hid ((Yw b).2=3):=ZZ (by rw[V.o,zab g])
   obtain⟨z,y0⟩:=y.o.cell 0;obtain⟨u,y1⟩:=y.o.cell 1;obtain⟨x,y2⟩:=y.o.cell 2;obtain⟨m,y3⟩:=y.o.cell 3;clear g;go_wp2;refine zax (v:=.tuple #[.agg #[.int .i64 0,.slice none 0 0,.bool false,.int .i64 0],.slice none 0 0,.bool false]) (by simp[results,Tryz.results117,go_sem,z,u,x,m]) rfl ?_
   exact Ztx.none O.o (Zdr Y.o _ zL _ _ _ _)
  have aX:(Z == 3)=false:=zah.2 g;have an:=ZZ g;clear g
  go_wp2_with fail
  refine(a9.o _ _ (a0.o D (aP.o.below Y.o zL))).mono ?_;rintro e W4 ⟨vt,t,rfl,U,aw,aQ,L⟩;obtain⟨ta,tc,a6⟩:=U.shape;subst a6;have bb:=ZZ (Y.o.trans (L.mono Y.o.size));have ad:=ZZ (y.o.below L zL);have ab:=ZZ (ap.o.below L zL);have a4:=ZZ (aH.o.below L zL);have ba:=ZZ (U.rd aw)
  have aT:Hid (∀ k,(Value.slice ta t.length tc).ownBlock=some k->w.heap.size<k):=ZZ (fun k f=>by
   have N:=(zaz U k f).1;have h2:=y.o.lt
   omega)
  have aZ:=ZZ aQ;clear U aw aQ L a3 y ap aH;obtain⟨z,y0⟩:=ad.o.cell 0;obtain⟨u,y1⟩:=ad.o.cell 1;obtain⟨x,y2⟩:=ad.o.cell 2;obtain⟨m,y3⟩:=ad.o.cell 3;obtain⟨s0,-⟩:=ab.o.cell 0;obtain⟨s1,-⟩:=ab.o.cell 1;obtain⟨s2,-⟩:=ab.o.cell 2;obtain⟨s3,-⟩:=ab.o.cell 3;obtain⟨ok,aj⟩:=zg7 TL.isSome;rw[<-aj];have aa:=ZZ aj;clear aj;go_wp2;refine zax (v:=.tuple #[.agg #[.int .i64 K,.slice F q.length lc,.bool I,.int .i64 H],.slice ta t.length tc,.bool ok]) (by simp[results,Tryz.results117,go_sem,z,u,x,m]) rfl ?_
  have aL:=Zya W4 w.heap.size (.int .i64 K) (.slice F q.length lc) (.bool I) (.int .i64 H);refine⟨_,_,⟨K,q,I,H⟩,t,ok,rfl,a4.o.but aL (.inr fun k f=>by have:=ay.o k f;omega),aS.o.1,aS.o.2,ba.o.but aL (.inr fun k f=>by have:=aT.o k f;omega),(fun k f=>zf9 (ay.o k f)),(fun k f=>zf9 (aT.o k f)),(fun h=>?_),(fun h=>?_),Zdr bb.o _ zL _ _ _ _⟩
  ·rw[V.o,zaa an.o]
   cases TL with
   | none=>rfl
   | some t'=>rw[h] at aa;cases aa.o
  ·cases TL with
   | none=>rw[h] at aa;cases aa.o
   | some t'=>
    refine⟨Z,by rw[V.o,zaa an.o,aZ.o t' rfl],?_⟩
    rcases aG.o with N | ⟨N,h2 | h2⟩
    ·exact .inl N
    ·exact absurd h2 an.o
    ·exact .inr ⟨h2,N⟩
def Bq (w:World) (b:Nat) (cs:Array Value):Prop:=w.heap[b]?=some (.cells cs 147 (0,0))
theorem Bq.lt (h:Bq w b cs):b<w.heap.size:=(zar.1 h).1
theorem Bq.below (h:Bq w b cs) (a:Below B w w') (c:w.heap.size<=B):Bq w' b cs:=(a.block b (by have:=h.lt;omega)).trans h
theorem Bq.cell (h:Bq w b cs) (j:Nat):w.cell? ⟨b,j,none⟩=cs[j]?∧w.frozen? ⟨b,j,none⟩=false:=⟨zas w b j _ _ _ h,zbc w b j _ _ h⟩
theorem Bq.set (h:Bq w b cs) (j:Nat) (x:Value):Bq (w.setCell ⟨b,j,none⟩ x) b (cs.setIfInBounds j x):=by
 have:=zbk w b j _ _ x h;unfold Bq;simpa using this
theorem Bq.other {c:Nat} (h:Bq w b cs) (j:Nat) (x:Value) (a:b≠c):Bq (w.setCell ⟨c,j,none⟩ x) b cs:=(zat _ _ _ _ a).trans h
theorem Zyb (w:World) (x y z u:Obj):((((w.alloc x).alloc y).alloc z).alloc u).heap[w.heap.size]?=some x∧((((w.alloc x).alloc y).alloc z).alloc u).heap[w.heap.size+1]?=some y∧((((w.alloc x).alloc y).alloc z).alloc u).heap[w.heap.size+2]?=some z∧((((w.alloc x).alloc y).alloc z).alloc u).heap[w.heap.size+3]?=some u:=by
 obtain⟨c,b,a⟩:=Zjb w x y z;refine⟨(zav _ _ _ (by simp;omega)).trans c,(zav _ _ _ (by simp)).trans b,(zav _ _ _ (by simp)).trans a,?_⟩
 have:=zak (((w.alloc x).alloc y).alloc z) u;simpa using this
theorem Zty {d:List UInt8} (h:¬ (d.length<1∨(d.getD 0 0).toNat≠115)):Y1 d=match Zw 3 (d.drop 1) with
 | none=>(0,0,0,3)
 | some (ns,l)=>if ns.getD 0 0≠3 then(0,0,0,6) else if l.length≠4 then(0,0,0,3) else(ns.getD 1 0,ns.getD 2 0,Lib.leNat l,0):=by
 unfold Y1;rw[zaa h,Zw];by_cases c:(Qb (d.drop 1)).2=0
 ·rw[zab (.inl c),zab c]
 rw[zaa c,Zw];simp only [drop_drop];by_cases b:(Qb (d.drop (1+(Qb (d.drop 1)).2))).2=0
 ·rw[zab (.inr (.inl b)),zab b]
  rfl
 rw[zaa b,Zfb];simp only [drop_drop];by_cases a:(Qb (d.drop (1+(Qb (d.drop 1)).2+(Qb (d.drop (1+(Qb (d.drop 1)).2))).2))).2=0
 ·rw[zab (.inr (.inr a)),zab a]
  rfl
 ·rw[zaa (by omega),zaa a]
  simp only [zc9,List.getD_cons_zero,List.getD_cons_succ]
theorem Zoo:∀ (n:Nat) (b:List UInt8) (ns:List Nat) (l:List UInt8),Zw n b=some (ns,l)->ns.length=n
 | 0,b,ns,l,h=>by
  injection h with h
  injection h with h _
  rw[<-h];rfl
 | n+1,b,ns,l,h=>by
  rw[Zw] at h;split at h
  ·cases h
  ·cases hg:Zw n (b.drop (Qb b).2) with
   | none=>rw[hg] at h;cases h
   | some r=>
    rw[hg] at h
    injection h with h
    injection h with h _
    obtain⟨a,m⟩:=r;rw[<-h,length_cons,Zoo n _ a m hg]
theorem ZvY {R Q:Nat} (e:R≠Q) (h:Bq W R #[.int .i64 0,.int .i64 0,.int .u32 0]) (f:W.heap[Q]?=some (.cells #[.int .i64 0] 3 (0,0))) (ns:List Nat) (g:ns.length<=3):
 ∃ u x y:Int,Bq (Za W ([(Q,0),(R,0),(R,1)].take ns.length) ns) R #[.int .i64 x,.int .i64 y,.int .u32 0]∧(Za W ([(Q,0),(R,0),(R,1)].take ns.length) ns).cell? ⟨Q,0,none⟩=some (.int .i64 u)∧(ns.length=3->u=((ns.getD 0 0:Nat):Int)∧x=((ns.getD 1 0:Nat):Int)∧y=((ns.getD 2 0:Nat):Int)):=by
 have d:W.cell? ⟨Q,0,none⟩=some (.int .i64 0):=zas W Q 0 _ _ _ f
 match ns,g with
 | [],_=>exact⟨0,0,0,h,d,fun h=>absurd h (by simp)⟩
 | [a],_=>exact⟨a,0,0,h.other 0 _ e,zdm _ _ _ d,fun h=>absurd h (by simp)⟩
 | [a,b],_=>
  refine⟨a,b,0,(h.other 0 _ e).set 0 _,?_,fun h=>absurd h (by simp)⟩
  show((W.setCell ⟨Q,0,none⟩ _).setCell ⟨R,0,none⟩ _).cell? ⟨Q,0,none⟩=_;rw[zbu _ _ _ _ (by simp)]
  exact zdm _ _ _ d
 | [a,b,c],_=>
  refine⟨a,b,c,((h.other 0 _ e).set 0 _).set 1 _,?_,fun _=>⟨rfl,rfl,rfl⟩⟩
  show(((W.setCell ⟨Q,0,none⟩ _).setCell ⟨R,0,none⟩ _).setCell ⟨R,1,none⟩ _).cell? ⟨Q,0,none⟩=_;rw[zbu _ _ _ _ (by simp),zbu _ _ _ _ (by simp)]
  exact zdm _ _ _ d
def ZAx (w:World) (r:Nat × Nat × Nat × Int) (e:Ending) (w':World):Prop:=
 e=.returned (.tuple #[.agg #[.int .i64 (r.1:Int),.int .i64 (r.2.1:Int),.int .u32 (r.2.2.1:Int)],.int .i64 r.2.2.2])∧Below w.heap.size w w'
theorem Zfc {b:World} (h:Below C b w) (R:Nat) (a:C<=R) (c d e:Value):Below C b (((w.setCell ⟨R,0,none⟩ c).setCell ⟨R,1,none⟩ d).setCell ⟨R,2,none⟩ e):=
 ((h.setCell a _).setCell a _).setCell a _
theorem ZgZ (v:Value) (d:List UInt8) (w:World) (hr:Rd w v d):
 Calls prog 115 #[v] w fun e w'=>ZAx w (Y1 d) e w':=by
 have HR:=ZZ hr;obtain⟨ao,cap,rfl,ay,ar,-,ag⟩:=hr;have aR:(d.length:Int)<=9223372036854775807:=by unfold maxLen at ar;omega
 have B:Hid (∀ X,Below w.heap.size w (w.alloc X)):=fun X=>(zac _ _).alloc zL X
 by_cases A:d.length=0
 ·have g:Hid (Y1 d=(0,0,0,3)):=ZZ (by unfold Y1;rw[zab (.inl (by omega))])
  have az:((d.length:Int) == 0)=true:=by rw[zbi];omega
  rw[g.o];clear A ag
  go_enter func115,ntmps115
  go_wp2;refine zax (v:=.tuple #[.agg #[.int .i64 0,.int .i64 0,.int .u32 0],.int .i64 3]) (by simp[results,Tryz.results115,go_sem]) rfl ?_
  exact⟨rfl,B.o _⟩
 have az:((d.length:Int) == 0)=false:=zah.2 (by omega)
 have aQ:(0:Int)<(d.length:Int):=by omega
 have K:d≠[]:=fun e=>by rw[e] at A;simp at A
 rcases ag with he | ⟨b,x,rfl,hc⟩
 ·exact absurd he K
 have P:=hc 0 (by omega)
 have aN:b<w.heap.size:=za1 w ⟨b,x+0,none⟩ P;have aG:∀ X,(w.alloc X).cell? ⟨b,x,none⟩=some (.int .u8 ((d.getD 0 0).toNat:Nat)):=fun X=>((B.o X).cell (p:=⟨b,x,none⟩) aN).trans P
 clear hc P ar;by_cases G:(d.getD 0 0).toNat=115
 case neg=>
  have g:Hid (Y1 d=(0,0,0,3)):=ZZ (by unfold Y1;rw[zab (.inr G)])
  have aP:((((d.getD 0 0).toNat:Nat):Int) != 115)=true:=by
   rw[zbq];omega
  rw[g.o];clear G K A;generalize (((d.getD 0 0).toNat:Nat):Int)=c0 at *
  go_enter func115,ntmps115
  go_wp2;refine zax (v:=.tuple #[.agg #[.int .i64 0,.int .i64 0,.int .u32 0],.int .i64 3]) (by simp[results,Tryz.results115,go_sem]) rfl ?_
  exact⟨rfl,B.o _⟩
 have aP:((((d.getD 0 0).toNat:Nat):Int) != 115)=false:=by
  rw[G];rfl
 have t:=ZZ (Zty (d:=d) (by omega))
 generalize (((d.getD 0 0).toNat:Nat):Int)=c0 at *;obtain⟨xa,xc,hcut,aa⟩:=Zhq (some ⟨b,x,none⟩) d cap ay 1 (by omega)
 have aE:∀ W,(Instr.sliceAt 53 (.slice (some ⟨b,x,none⟩) d.length cap) (some (.int .i64 1)) none none).run prog W=.ok (.slice xa (d.drop 1).length xc) W:=hcut;have ai:=ZZ (fun W h=>aa W h)
 obtain⟨f,F⟩:=zg7 ((((w.alloc (.cells #[.int .i64 0,.int .i64 0,.int .u32 0] 147)).alloc (.cells #[.int .i64 0,.int .i64 0,.int .u32 0] 147)).alloc (.cells #[.int .i64 0] 3)).alloc (.cells #[.pointer (some ⟨w.heap.size+1+1,0,none⟩),.pointer (some ⟨w.heap.size+1,0,none⟩),.pointer (some ⟨w.heap.size+1,1,none⟩)] 208));have h4:=Zyb w (.cells #[.int .i64 0,.int .i64 0,.int .u32 0] 147) (.cells #[.int .i64 0,.int .i64 0,.int .u32 0] 147) (.cells #[.int .i64 0] 3) (.cells #[.pointer (some ⟨w.heap.size+1+1,0,none⟩),.pointer (some ⟨w.heap.size+1,0,none⟩),.pointer (some ⟨w.heap.size+1,1,none⟩)] 208);rw[<-F] at h4;obtain⟨hA,hB,I,hC⟩:=h4;have L:Hid (Below w.heap.size w f):=ZZ (by rw[F];exact((((zac _ _).alloc zL _).alloc (by simp) _).alloc (by simp;omega) _).alloc (by simp;omega) _)
 have au:Bq f w.heap.size #[.int .i64 0,.int .i64 0,.int .u32 0]:=hA;have k:Bq f (w.heap.size+1) #[.int .i64 0,.int .i64 0,.int .u32 0]:=hB
 have Y:=ZZ (Zau (w.heap.size+1+1+1) [(w.heap.size+1+1,0),(w.heap.size+1,0),(w.heap.size+1,1)] (.slice xa (d.drop 1).length xc) (d.drop 1) f (ai.o f (HR.o.below L.o zL)) (fun p m=>by
  simp only [mem_cons,zc3,zfk] at m;rcases m with rfl | rfl | rfl
  ·exact⟨⟨⟨0,zas f (w.heap.size+2) 0 _ _ _ I⟩,zbc f (w.heap.size+2) 0 _ _ I⟩,by simp⟩
  ·exact⟨⟨⟨0,(k.cell 0).1⟩,(k.cell 0).2⟩,by simp⟩
  ·exact⟨⟨⟨0,(k.cell 1).1⟩,(k.cell 1).2⟩,by simp⟩) (by simp) hC 3 rfl)
 have ae:=ZZ (fun ns h=>ZvY (Q:=w.heap.size+1+1) (by omega) k I ns h)
 have ap:Hid (∀ ns,Below w.heap.size w (Za f ([(w.heap.size+1+1,0),(w.heap.size+1,0),(w.heap.size+1,1)].take (List.length ns)) ns)):=ZZ (fun ns=>Zbi f _ ns _ w (fun p m=>by
  have:=mem_of_mem_take m;simp only [mem_cons,zc3,zfk] at this
  rcases this with rfl | rfl | rfl <;> (simp only;omega)) L.o)
 have aq:Hid (∀ ns,Bq (Za f ([(w.heap.size+1+1,0),(w.heap.size+1,0),(w.heap.size+1,1)].take (List.length ns)) ns) w.heap.size #[.int .i64 0,.int .i64 0,.int .u32 0]):=ZZ (fun ns=>(Zbh f _ ns _ (fun p m=>by
  have:=mem_of_mem_take m;simp only [mem_cons,zc3,zfk] at this
  rcases this with rfl | rfl | rfl <;> (simp only;omega))).trans au)
 have aB:=ZZ (fun R l W h=>Znv R l W h)
 have M:=ZZ (fun ns l h=>Zoo 3 (d.drop 1) ns l h)
 have an:Hid ([(w.heap.size+1+1,0),(w.heap.size+1,0),(w.heap.size+1,1)].length=3):=ZZ rfl;rw[an.o] at Y;generalize Zw 3 (d.drop 1)=GL at *;obtain⟨i,al⟩:=zg7 (Y1 d);rw[<-al] at t ⊢;clear al hcut aa hA hB I hC au k G K A an;generalize d.drop 1=D1 at *
 go_enter func115,ntmps115
 go_wp2_with fail
 rw[<-F];refine Y.o.mono ?_;rintro e j ⟨R,l,ns,rfl,ak,am,ac,aA,aj,z⟩;obtain⟨uu,xx,yy,af,aw,U⟩:=ae.o ns aj;have N:Hid (Bq j (w.heap.size+1) #[.int .i64 xx,.int .i64 yy,.int .u32 0]):=ZZ (af.below (z.below (Za f ([(w.heap.size+1+1,0),(w.heap.size+1,0),(w.heap.size+1,1)].take ns.length) ns).heap.size) zL);have J:Hid (Bq j w.heap.size #[.int .i64 0,.int .i64 0,.int .u32 0]):=ZZ ((aq.o ns).below (z.below (Za f ([(w.heap.size+1+1,0),(w.heap.size+1,0),(w.heap.size+1,1)].take ns.length) ns).heap.size) zL);have aa:j.cell? ⟨w.heap.size+1+1,0,none⟩=some (.int .i64 uu):=by rw[z.cell];exact aw
 have y:Hid (Below w.heap.size w j):=ZZ ((ap.o ns).trans (z.below _));have ad:=ZZ (ak j (ai.o j (HR.o.below y.o zL)));obtain⟨a1,c1,ax⟩:∃ a c,R=.slice a l.length c:=by obtain⟨a,c,h,-⟩:=ad.o;exact⟨a,c,h⟩
 subst ax;obtain⟨E,y0⟩:=J.o.cell 0;obtain⟨C,y1⟩:=J.o.cell 1;obtain⟨D,y2⟩:=J.o.cell 2;clear Y ae ap aq F af aw z ak aA aj L aG aE B
 cases GL with
 | none=>
  have g:Hid (i=(0,0,0,3)):=ZZ t.o;clear am ac U t M;go_wp2;refine zax (v:=.tuple #[.agg #[.int .i64 0,.int .i64 0,.int .u32 0],.int .i64 3]) (by simp[results,Tryz.results115,go_sem,E,C,D]) rfl ?_
  rw[g.o];exact⟨rfl,Zfc y.o _ zL _ _ _⟩
 | some gp=>
  have:=ac gp rfl;subst this;obtain⟨g1,g2,g3⟩:=U (M.o _ _ rfl);have n:Hid (i=if ns.getD 0 0≠3 then(0,0,0,6) else if l.length≠4 then(0,0,0,3) else(ns.getD 1 0,ns.getD 2 0,Lib.leNat l,0)):=ZZ t.o
  clear am ac U t M;generalize ns.getD 0 0=S at *;generalize ns.getD 1 0=n1 at *;generalize ns.getD 2 0=n2 at *;subst g1 g2 g3;by_cases H:S=3
  case neg=>
   have g:Hid (i=(0,0,0,6)):=ZZ (by rw[n.o,zab H])
   have aH:((S:Int) != 3)=true:=by rw[zbq];omega
   clear H n;go_wp2;refine zax (v:=.tuple #[.agg #[.int .i64 0,.int .i64 0,.int .u32 0],.int .i64 6]) (by simp[results,Tryz.results115,go_sem,E,C,D]) rfl ?_
   rw[g.o];exact⟨rfl,Zfc y.o _ zL _ _ _⟩
  have aH:((S:Int) != 3)=false:=by rw[zby];omega
  by_cases q:l.length=4
  case neg=>
   have g:Hid (i=(0,0,0,3)):=ZZ (by rw[n.o,zaa (by omega),zab q])
   have aO:((l.length:Int) != 4)=true:=by rw[zbq];omega
   clear H n q;go_wp2;refine zax (v:=.tuple #[.agg #[.int .i64 0,.int .i64 0,.int .u32 0],.int .i64 3]) (by simp[results,Tryz.results115,go_sem,E,C,D]) rfl ?_
   rw[g.o];exact⟨rfl,Zfc y.o _ zL _ _ _⟩
  have aO:((l.length:Int) != 4)=false:=by rw[zby];omega
  have g:Hid (i=(n1,n2,Lib.leNat l,0)):=ZZ (by rw[n.o,zaa (by omega),zaa (by omega)])
  have Z:=ZZ (aB.o _ l j ad.o);rw[zbl (by omega)] at Z
  have aC:Lib.leNat l<4294967296:=by
   have:=ZlM l;rw[q] at this;exact this
  have aI:Hid (l.length=4):=ZZ q;generalize Lib.leNat l=u at *;clear H n q;obtain⟨e0,f0⟩:=N.o.cell 0;obtain⟨e1,f1⟩:=N.o.cell 1;obtain⟨e2,f2⟩:=N.o.cell 2;have aS:¬ (w.heap.size=w.heap.size+1):=by omega
  have aT:¬ (w.heap.size+1=w.heap.size):=by omega
  have aD:IntKind.u32.wrap (u:Int)=(u:Int):=by
   rw[IntKind.wrap_u32];omega
  have aF:(0:Int)<=(u:Int):=by omega
  have aK:(u:Int)<4294967296:=by omega
  obtain⟨CC,O⟩:∃ CC:Int,CC=(u:Int):=⟨_,rfl⟩;obtain⟨N1,ab⟩:∃ N1:Int,N1=(n1:Int):=⟨_,rfl⟩;obtain⟨V,T⟩:∃ V:Int,V=(n2:Int):=⟨_,rfl⟩;rw[<-O] at Z aD aF aK;rw[<-ab] at e0;rw[<-T] at e1;have aJ:=ZZ O;have aM:=ZZ ab;have aL:=ZZ T;clear O ab T aC;clear aI
  go_wp2_with fail
  refine Z.o.mono ?_;rintro e W2 ⟨rfl,av⟩;rw[av];clear av W2;go_wp2;refine zax (v:=.tuple #[.agg #[.int .i64 N1,.int .i64 V,.int .u32 CC],.int .i64 0]) (by simp[results,Tryz.results115,go_sem,E,C,D]) rfl ?_
  rw[g.o];exact⟨by rw[aJ.o,aM.o,aL.o],Zfc (y.o.setCell (zdt _) _) _ zL _ _ _⟩
theorem Zjg (g c:Value) (a b:List UInt8) (w:World) (d:Rd w g a) (f:Rd w c b):
 Calls prog 163 #[g,c] w fun e w'=>e=.returned (.bool (decide (a=b)))∧w'=w:=by
 have i:=d.str;have k:=f.str
 have j:((bs a).toList == (bs b).toList)=decide (a=b):=by
  rw[ZAT];by_cases h:a=b
  ·rw[h,zan rfl];exact beq_self_eq_true b
  ·rw[zai h,zah];exact h
 generalize decide (a=b)=D at *;clear d f
 go_enter func163,ntmps163
 go_wp2;go_ret;exact⟨rfl,rfl⟩
theorem Zop {A B:List (List UInt8)} (c:k<A.length) (b:k<B.length) (h:A.take k=B.take k) (a:A.getD k []=B.getD k []):A.take (k+1)=B.take (k+1):=by
 rw[zcl,zcl,h]
 congr 1
 simp only [List.getD,za4 c,za4 b,zgy] at a ⊢;rw[a]
theorem Zki (K I:Value) (A B:List (List UInt8)) (w:World) (W:RdL w K A) (hb:RdL w I B):
 Calls prog 162 #[K,I,.func (.func 163) #[] #[]] w fun e w'=>e=.returned (.bool (decide (A=B)))∧w'=w:=by
 obtain⟨aa,ac,rfl,V,O,-,N⟩:=W;obtain⟨ba,bc,rfl,-,-,-,S⟩:=hb;have M:=ZZ N;have L:=ZZ S;have T:=ZZ (fun x y a b h1 h2=>Zjg x y a b w h1 h2)
 obtain⟨D,m⟩:=zg7 (decide (A=B));rw[<-m];have R:Hid (A=B->D=true):=fun h=>by rw[m];exact zan h
 have n:Hid (¬ A=B->D=false):=fun h=>by rw[m];exact zai h
 have ag:(A.length:Int)<=9223372036854775807:=by unfold maxLen at O;omega
 clear m N S O V;by_cases j:A.length=B.length
 case neg=>
  have U:((A.length:Int) != (B.length:Int))=true:=by rw[zbq];omega
  have Z:=ZZ (n.o (fun h=>j (by rw[h])))
  clear j
  go_enter func162,ntmps162
  go_wp2;go_ret;rw[Z.o];exact⟨rfl,rfl⟩
 have U:((A.length:Int) != (B.length:Int))=false:=by rw[zby];omega
 have J:=ZZ j
 have H:Hid (A.take A.length=B.take A.length->D=true):=ZZ (fun h=>R.o (by
  rw[take_length,J.o,take_length] at h
  exact h))
 have G:Hid (∀ k,k<A.length->A.getD k []≠B.getD k []->D=false):=ZZ (fun k hk h=>n.o (fun hs=>h (by rw[hs])))
 clear j R n
 go_enter func162,ntmps162
 go_wp2
 go_loopw[17] (fun z wr=>∃ k:Nat,z=.int .i64 (k:Int)∧k<=A.length∧Hid (A.take k=B.take k)∧wr=w) (fun z _=>A.length-(intOf z).toNat)
 case atStart=>exact⟨0,rfl,zap _,rfl,rfl⟩
 case round=>
  obtain⟨k,rfl,hk,P,rfl⟩:=hrel;by_cases f:k<A.length
  case neg=>
   obtain rfl:k=A.length:=by omega
   have HT:=ZZ (H.o P.out);go_wp2;go_ret;rw[HT.o];exact⟨rfl,rfl⟩
  have i:k<B.length:=by have:=J.o;omega
  rcases M.o with E | ⟨c,aj,rfl,Q⟩
  ·rw[E] at f;simp at f
  rcases L.o with E | ⟨c',ai,rfl,F⟩
  ·rw[E] at i;simp at i
  obtain⟨x,hx,t⟩:=Q k f;obtain⟨y,hy,v⟩:=F k i;have al:(k:Int)<(A.length:Int):=by omega
  have ak:(k:Int)<(B.length:Int):=by omega
  have u:=ZZ (G.o k f);have q:Hid (A.getD k []=B.getD k []->A.take (k+1)=B.take (k+1)):=ZZ (fun h=>Zop f i P.out h)
  have l:=ZZ (T.o x y _ _ t v);obtain⟨xa,xc,ae⟩:∃ a c,x=.slice a (A.getD k []).length c:=by obtain⟨a,c,h,-⟩:=t;exact⟨a,c,h⟩
  obtain⟨ya,yc,ad⟩:∃ a c,y=.slice a (B.getD k []).length c:=by obtain⟨a,c,h,-⟩:=v;exact⟨a,c,h⟩
  subst ae ad;clear Q F t v H G M L T;generalize A.getD k []=X at *;generalize B.getD k []=Y at *;by_cases d:X=Y
  ·have af:=ZZ (q.o d)
   have p:Hid (decide (X=Y)=true):=zan d;rw[p.o] at l;clear u q d
   go_wp2_with fail
   refine l.o.mono ?_;rintro e C ⟨rfl,g⟩;rw[g];clear g C;go_wp2;go_roundw
   case rel=>exact⟨k+1,by go_num,by omega,af,trivial⟩
   case measure=>simp[intOf];omega
  ·have ab:=ZZ (u.o d)
   have p:Hid (decide (X=Y)=false):=zai d;rw[p.o] at l;clear u q d
   go_wp2_with fail
   refine l.o.mono ?_;rintro e C ⟨rfl,g⟩;rw[g];clear g C;go_wp2;go_ret;rw[ab.o];exact⟨rfl,rfl⟩
theorem Zqo (v:Value) (L:List (List UInt8)) (w:World) (H:RdL w v L) (O:L.flatten.length<=1000000) (hn:L.length<=100000):
 Calls prog 131 #[v] w fun e w'=>∃ v',e=.returned v'∧Own w' w.heap.size v' L.flatten∧Below w.heap.size w w':=by
 have HG:=ZZ (fun n W h=>Zrm n W h)
 have ag:=ZZ H;have m:Hid (∀ k,Zmg L k<=1000000):=fun k=>zau (ZvC L k) O
 have G:=ZZ (ZnV L);have af:=ZZ (ZnU L);have z:=ZZ (Zro L);have T:=ZZ (Zrn L);obtain⟨F,p⟩:=zg7 L.flatten;rw[<-p];rw[<-p] at z;obtain⟨ao,cap,rfl,-,-,-,C⟩:=H;have I:=ZZ C;clear C p O
 go_enter func131,ntmps131
 go_wp2
 go_loopw[3,11] (fun vs a wr=>∃ (k:Nat),vs=.int .i64 (Zmg L k:Int)∧a=.int .i64 (k:Int)∧k<=L.length∧wr=w) (fun _ a _=>L.length-(intOf a).toNat)
 case atStart=>exact⟨0,rfl,rfl,zap _,rfl⟩
 case round=>
  obtain⟨k,rfl,rfl,X,E⟩:=hrel;have S:=E.symm;subst S;clear E;by_cases b:k<L.length
  ·rcases I.o with y | ⟨c,aa,rfl,f⟩
   ·rw[y] at b;simp at b
   obtain⟨x,V,i⟩:=f k b;have R:=m.o (k+1);have t:=G.o k b;obtain⟨ax,cx,rfl,-⟩:=i;have h3:¬ ((Zmg L k:Int)+((L.getD k []).length:Int)<0):=by omega
   have h4:(Zmg L k:Int)+((L.getD k []).length:Int)<=1000000:=by omega
   have H2:=ZZ t;clear f R t;generalize Zmg L k=A at *;generalize (L.getD k []).length=D at *;go_wp2;go_roundw
   case rel=>exact⟨k+1,by rw[H2.o],by go_num,by omega,trivial⟩
   case measure=>simp[intOf];omega
  ·have ab:=ZZ (HG.o (Zmg L k) w (m.o k))
   generalize Zmg L k=A at *
   go_wp2_with fail
   refine ab.o.mono ?_;rintro e W1 ⟨v1,rfl,K,J⟩;have B:=ZZ K;have N:=ZZ J;clear K J X b;go_wp2
   go_loopw[6,27] (fun vo a Q=>∃ (j:Nat),a=.int .i64 (j:Int)∧j<=L.length∧Hid (Own Q w.heap.size vo (ZvB L j))∧Hid (Below w.heap.size w Q)) (fun _ a _=>L.length-(intOf a).toNat)
   case atStart=>exact⟨0,rfl,zap _,B,N⟩
   case round=>
    clear B N;obtain⟨j,rfl,hj,q,g⟩:=hrel;by_cases d:j<L.length
    ·rcases I.o with y | ⟨c,aa,rfl,f⟩
     ·rw[y] at d;simp at d
     obtain⟨x,u,i⟩:=f j d;have V:=(g.o.cell (za1 _ _ u)).trans u;have ad:=ZZ (i.below g.o zL);obtain⟨ax,cx,rfl,-⟩:=i
     have ae:Hid ((ZvB L j).length+(L.getD j []).length<=70368744177664):=ZZ (by
      have R:=m.o (j+1);have t:=G.o j d;rw[T.o]
      omega)
     have Y:=ZZ g.o.size;have HN:=ZZ (af.o j d);clear f u;generalize L.getD j []=D at *;generalize ZvB L j=P at *
     go_wp2_with(at_builtin;refine Xx _ rfl _ _ rfl w.heap.size _ P rfl q.o _ D rfl ad.o ae.o Y.o ?_)
     intro v3 W3 l M;rw[<-HN.o] at l;have ac:=ZZ l;have Z:=ZZ (g.o.trans M);clear l M;go_wp2;go_roundw
     case rel=>exact⟨j+1,by go_num,by omega,ac,Z⟩
     case measure=>simp[intOf];omega
    ·have U:=ZZ (z.o j (by omega))
     rw[U.o] at q;go_wp2;go_ret;exact⟨_,rfl,q.o,g.o⟩
def Zmw (P:List (List UInt8)) (n c:Nat):Int:=if P.flatten.length≠n then 16 else if ¬ ZfG P then 3 else if Q3 0 P.flatten≠c then 4 else 0
def Joined (w:World) (F:List UInt8) (er:Int) (e:Ending) (w':World):Prop:=
 ∃ v',e=.returned (.tuple #[v',.int .i64 er])∧Rd w' v' (if er=0 then F else[])∧Below w.heap.size w w'
theorem ZgW.rdl {xs:List Value} {L:List (List UInt8)} (h:ZgW v l xs L) (b:w'.ownsRow B 53 1 v' L.length xs) (k:Rd w' v l):RdL w' v' L:=by
 rcases b.2 with ⟨a,f⟩ | ⟨g,cap,cur,a,u,p,d,i,t,q⟩
 ·have e:L=[]:=zao f
  subst e;rw[a];exact RdL.nil _
 ·refine⟨some ⟨g,0,none⟩,cap,a,d,i,(fun e=>by cases e),.inr ⟨g,0,rfl,fun j c=>?_⟩⟩
  obtain⟨x,m,-,n⟩:=h.2 j c;refine⟨x,?_,n w' k⟩;have:=zc4 b (g:=g) (by rw[a];rfl) j x m
  rw[zbn] at this;exact this
theorem Zyc (i:Int) (n c:Nat) (u:Value) (P:List (List UInt8)) (w:World) (D:RdL w u P) (aq:P.flatten.length<=100000) (ax:P.length<=100000):
 Calls prog 116 #[.agg #[.int .i64 i,.int .i64 (n:Int),.int .u32 (c:Int)],u] w fun e w'=>Joined w P.flatten (Zmw P n c) e w':=by
 have t:Hid (Below w.heap.size w (w.alloc (.cells #[.int .i64 i,.int .i64 (n:Int),.int .u32 (c:Int)] 147))):=ZZ ((zac _ _).alloc zL _);have J:Hid (Bq (w.alloc (.cells #[.int .i64 i,.int .i64 (n:Int),.int .u32 (c:Int)] 147)) w.heap.size #[.int .i64 i,.int .i64 (n:Int),.int .u32 (c:Int)]):=ZZ (zak w _);have Z:=ZZ (fun W (h:Below w.heap.size w W)=>Zqo u P W (D.below h zL) (by omega) ax)
 have U:=ZZ (fun y W h=>ZkO y P.flatten W h aq)
 have v:=ZZ (fun vb W h1 b=>Zki u vb P (Yd P.flatten) W h1 b)
 have S:=ZZ (fun y W h=>Zmi y P.flatten W h)
 have HP:=ZZ D;have ad:decide (P=Yd P.flatten)=decide (ZfG P):=zco.2 (ZuZ P).symm;rw[ad] at v;have k:Hid (Zmw P n c=if P.flatten.length≠n then 16 else if ¬ ZfG P then 3 else if Q3 0 P.flatten≠c then 4 else 0):=ZZ rfl
 obtain⟨pa,pc,aw⟩:∃ a c,u=.slice a P.length c:=by obtain⟨a,c,h,-⟩:=D;exact⟨a,c,h⟩
 subst aw;obtain⟨p,ak⟩:=zg7 (Zmw P n c);rw[<-ak] at k ⊢;obtain⟨V,X⟩:=zg7 (decide (ZfG P));rw[<-X] at v;have al:=ZZ X;clear ak D ad X;obtain⟨f,af⟩:=zg7 P.flatten;rw[<-af] at Z U v S k aq ⊢;have az:Hid (Yd f=Yd f):=ZZ rfl;clear af;generalize Yd f=PF at *;generalize Q3 0 f=R at *;obtain⟨G,ab⟩:∃ G:Int,G=(n:Int):=⟨_,rfl⟩;obtain⟨d,Q⟩:∃ d:Int,d=(c:Int):=⟨_,rfl⟩;obtain⟨g,aa⟩:∃ g:Int,g=(R:Int):=⟨_,rfl⟩;rw[<-ab,<-Q] at t J ⊢;rw[<-aa] at S;have aj:=ZZ ab;have an:=ZZ Q;have ag:=ZZ aa;clear ab Q aa
 go_enter func116,ntmps116
 go_wp2_with fail
 refine(Z.o _ t.o).mono ?_;rintro e W1 ⟨y,rfl,O,M⟩;have E:=ZZ (t.o.trans (M.mono t.o.size));have L:=ZZ (J.o.below M zL);have I:=ZZ O.rd;obtain⟨a1,c1,ar⟩:∃ a c,y=.slice a f.length c:=by obtain⟨a,c,h,-⟩:=O.rd;exact⟨a,c,h⟩
 subst ar;obtain⟨p1,-⟩:=L.o.cell 1;clear O M Z t J;by_cases H:f.length=n
 case neg=>
  have m:Hid (p=16):=ZZ (by rw[k.o,zab H])
  have ay:((f.length:Int) != G)=true:=by rw[zbq,aj.o];omega
  clear H k;go_wp2;go_ret2;rw[m.o];exact⟨_,rfl,Rd.nil _,E.o⟩
 have ay:((f.length:Int) != G)=false:=by rw[zby,aj.o];omega
 have HL:=ZZ H;clear H
 go_wp2_with fail
 refine(U.o _ _ I.o).mono ?_;rintro e B ⟨v2,xs,rfl,am,ao,F⟩;have q:=ZZ (E.o.trans (F.mono E.o.size));have N:=ZZ (L.o.below F zL);have C:=ZZ (I.o.below F zL);have ai:=ZZ (ao.rdl am C.o);obtain⟨a2,c2,au⟩:∃ a c,v2=.slice a PF.length c:=by obtain⟨a,c,h,-⟩:=ai.o;exact⟨a,c,h⟩
 subst au;clear am F ao p1 U L I E
 go_wp2_with fail
 refine(v.o _ _ (HP.o.below q.o zL) ai.o).mono ?_;rintro e A ⟨rfl,ap⟩;rw[ap];clear ap A v
 cases V with
 | false=>
  have m:Hid (p=3):=ZZ (by rw[k.o,zaa (fun h=>h HL.o),zab (zdy al.o.symm)])
  clear k;go_wp2;go_ret2;rw[m.o];exact⟨_,rfl,Rd.nil _,q.o⟩
 | true=>
  have m:Hid (p=if R≠c then 4 else 0):=ZZ (by rw[k.o,zaa (fun h=>h HL.o),zaa (fun h=>h (zcm al.o.symm))])
  have ae:=ZZ (S.o _ B.drew (C.o.below ((zac _ _).drew) zL));obtain⟨q2,-⟩:=N.o.cell 2
  go_upto_region 6 with fail
  go_cut[21] (fun x wc=>x=.bool (decide (g≠d))∧Hid (Rd wc (.slice a1 f.length c1) f)∧Hid (Below w.heap.size w wc))
  case first=>
   by_cases j:g=d
   ·have h1:(g != d)=false:=by rw[zby];exact j
    have b:decide (g≠d)=false:=zai (fun h=>h j)
    have Y:=ZZ b;clear j b
    go_region_held(fun w'=>w'.cell? ⟨w.heap.size,2,none⟩=some (.int .u32 d)) (go_keep)
     (first
      | (go_at_call 136;refine ae.o.mono ?_;rintro e A ⟨rfl,z⟩;have l:Below B.heap.size B A:=((zac _ _).drew).trans z;have T:=ZZ (q.o.trans (l.mono q.o.size));have K:=ZZ (C.o.below l zL);obtain⟨r2,-⟩:=(N.o.below l zL).cell 2;clear z l))
    all_goals
     go_wp2_with fail
     go_meet
     exact⟨by rw[Y.o],K,T⟩
   ·have h1:(g != d)=true:=by rw[zbq];exact j
    have b:decide (g≠d)=true:=zan j;have Y:=ZZ b;clear j b
    go_region_held(fun w'=>w'.cell? ⟨w.heap.size,2,none⟩=some (.int .u32 d)) (go_keep)
     (first
      | (go_at_call 136;refine ae.o.mono ?_;rintro e A ⟨rfl,z⟩;have l:Below B.heap.size B A:=((zac _ _).drew).trans z;have T:=ZZ (q.o.trans (l.mono q.o.size));have K:=ZZ (C.o.below l zL);obtain⟨r2,-⟩:=(N.o.below l zL).cell 2;clear z l))
    all_goals
     go_wp2_with fail
     go_meet
     exact⟨by rw[Y.o],K,T⟩
  case rest=>
   obtain⟨WC,rfl⟩:=zg7 wc;obtain⟨rfl,av,ac⟩:=hcut;by_cases j:R=c
   ·have HF:Hid (p=0):=ZZ (by rw[m.o,zaa (by omega)])
    have b:decide (g≠d)=false:=zai (by have:=an.o;have:=ag.o;omega)
    rw[b];clear b j k m;go_wp2;go_ret2;rw[HF.o];exact⟨_,rfl,av.o,ac.o⟩
   ·have HF:Hid (p=4):=ZZ (by rw[m.o,zab j])
    have b:decide (g≠d)=true:=zan (by have:=an.o;have:=ag.o;omega)
    rw[b];clear b j k m;go_wp2;go_ret2;rw[HF.o];exact⟨_,rfl,Rd.nil _,ac.o⟩
theorem Zyd (b a:Nat) (L:List (List UInt8)) (cap:Nat) (B:L.length<=cap) (m:1<=L.length):
 ∃ k l,(∀ W,(Instr.sliceAt 144 (.slice (some ⟨b,a,none⟩) L.length cap) (some (.int .i64 1)) none none).run prog W=.ok (.slice k (L.length-1) l) W)∧∀ W,RdL W (.slice (some ⟨b,a,none⟩) L.length cap) L->RdL W (.slice k (L.length-1) l) (L.drop 1):=by
 by_cases i:cap=1
 ·refine⟨some ⟨b,a,none⟩,cap-1,fun W=>?_,fun W h=>?_⟩
  ·have g:L.length=1:=by omega
   simp[go_sem,g,i]
  ·have g:L.drop 1=[]:=zea (by omega)
   obtain⟨n,t,d,u,w,v,f⟩:=h;simp only [zbb] at d;obtain⟨rfl,-,rfl⟩:=d;exact⟨_,_,by rw[length_drop],by rw[length_drop];omega,by omega,(fun e=>by cases e),.inl g⟩
 ·refine⟨some ⟨b,a+1,none⟩,cap-1,fun W=>?_,fun W h=>?_⟩
  ·have A:(1:Int)<=(L.length:Int):=by omega
   simp[go_sem,i,A]
  ·obtain⟨n,t,d,u,w,v,f⟩:=h
   simp only [zbb] at d;obtain⟨rfl,-,rfl⟩:=d;refine⟨_,_,by rw[length_drop],by rw[length_drop];omega,by omega,(fun e=>by cases e),?_⟩
   rcases f with f | ⟨b',C,c,y⟩
   ·rw[f] at m
    simp at m
   ·injection c with c
    injection c with c k7 _
    subst c k7;refine .inr ⟨b,a+1,rfl,fun j p=>?_⟩
    rw[length_drop] at p;obtain⟨x,z,q⟩:=y (j+1) (by omega)
    refine⟨x,by rw[show a+1+j=a+(j+1) by omega];exact z,?_⟩
    have e:(L.drop 1).getD j []=L.getD (j+1) []:=by simp[List.getD]
    rw[e];exact q
theorem Ztz:Zgp []=(Yf,16):=rfl
theorem Zqp (d:List UInt8) (P:List (List UInt8)):Zgp (d::P)=if(Y1 d).2.2.2≠0 then(Yf,(Y1 d).2.2.2) else if Zmw P (Y1 d).2.1 (Y1 d).2.2.1≠0 then(Yf,Zmw P (Y1 d).2.1 (Y1 d).2.2.1)
 else if(Yw P.flatten).2≠0 then(Yf,(Yw P.flatten).2) else if Zs ⟨((Y1 d).1:Nat),(Yw P.flatten).1.st,(Yw P.flatten).1.tab⟩ then(⟨((Y1 d).1:Nat),(Yw P.flatten).1.st,(Yw P.flatten).1.tab⟩,0) else(Yf,1):=by
 unfold Zmw;rw[Zgp];by_cases b:(Y1 d).2.2.2≠0
 ·rw[zab b,zab b]
 rw[zaa b,zaa b];by_cases e:P.flatten.length≠(Y1 d).2.1
 ·rw[zab e,zab e,zab (by decide)]
 rw[zaa e,zaa e];by_cases c:¬ ZfG P
 ·rw[zab c,zab c,zab (by decide)]
 rw[zaa c,zaa c];by_cases a:Q3 0 P.flatten≠(Y1 d).2.2.1
 ·rw[zab a,zab a,zab (by decide)]
 rw[zaa a,zaa a,zaa (show ¬ ((0:Int)≠0) by decide)]
theorem Zfd:∀ L:List (List UInt8),L.flatten.length+L.length<=(Qf L).length
 | []=>by simp[Qf]
 | x::t=>by
  have a:=Zfd t;have:=Xa x;rw[Q9,length_append,flatten_cons,length_append,length_cons];omega
theorem Zqq (v:Value) (b:List UInt8) (w:World) (hr:Rd w v b) (bN:b.length<=100000):
 Calls prog 76 #[v] w fun e w'=>Zcg w (ZmW b) e w':=by
 obtain⟨W0,ad⟩:=zg7 (w.alloc (.cells #[.int .i64 0,.int .i64 0,.slice none 0 0,.bool false,.int .i64 0,.slice none 0 0] 41));have I:Hid (Below w.heap.size w W0):=ZZ (by rw[ad];exact(zac _ _).alloc zL _)
 have ao:Hid (Bn W0 w.heap.size #[.int .i64 0,.int .i64 0,.slice none 0 0,.bool false,.int .i64 0,.slice none 0 0]):=ZZ (by rw[ad];exact zak w _)
 have G:=ZZ (ZzD v b W0 (hr.below I.o zL) (by omega))
 obtain⟨va,vc,hv⟩:∃ a c,v=.slice a b.length c:=by obtain⟨a,c,h,-⟩:=hr;exact⟨a,c,h⟩
 subst hv;obtain⟨j,af⟩:=zg7 (ZmW b);rw[<-af];by_cases V:(Qq b).2.2=0
 case neg=>
  have D:Hid (j=(Yf,(((Qq b).2.2:Nat):Int))):=ZZ (by rw[af];unfold ZmW;rw[zab V])
  have ha:ZyS b=([],(Qq b).2.2):=by unfold ZyS;rw[zaa V]
  rw[ha] at G
  dsimp only at G
  generalize (Qq b).2.2=er at *;have aq:((er:Int) != 0)=true:=by rw[zbq];omega
  obtain⟨E,hE⟩:∃ E:Int,E=(er:Int):=⟨_,rfl⟩;rw[<-hE] at G D aq;clear ha af V hE hr
  go_enter func76,ntmps76
  go_wp2_with fail
  rw[<-ad];refine G.o.mono ?_;rintro e W1 ⟨U,rfl,T,C⟩;have g:=ZZ (ao.o.below C zL);have O:=ZZ (I.o.trans (C.mono I.o.size));obtain⟨A,y0⟩:=g.o.cell 0;obtain⟨x,y1⟩:=g.o.cell 1;obtain⟨z,y2⟩:=g.o.cell 2;obtain⟨u,y3⟩:=g.o.cell 3;obtain⟨q,y4⟩:=g.o.cell 4;obtain⟨p,y5⟩:=g.o.cell 5;clear C T;go_wp2;refine zax (v:=.tuple #[.agg #[.int .i64 0,.int .i64 0,.slice none 0 0,.bool false,.int .i64 0,.slice none 0 0],.int .i64 E]) (by simp[results,Tryz.results76,go_sem,A,x,z,u,q,p]) rfl ?_
  rw[D.o];exact Zcg.zero _ (Zbf O.o _ zL _ _ _ _ _ _)
 have D:Hid (j=Zgp (Qq b).1):=ZZ (by rw[af];unfold ZmW;rw[zaa (fun h=>h V)])
 have ha:ZyS b=((Qq b).1,0):=by unfold ZyS;rw[zab V]
 have ar:=Zfd (Qq b).1;rw[(ZfE b.length b zL V).1] at ar;rw[ha] at G
 dsimp only at G
 generalize (Qq b).1=LS at *;clear ha af V hr
 cases LS with
 | nil=>
  rw[Ztz] at D
  go_enter func76,ntmps76
  go_wp2_with fail
  rw[<-ad];refine G.o.mono ?_;rintro e W1 ⟨U,rfl,T,C⟩;obtain⟨a1,c1,aI⟩:∃ a c,U=.slice a 0 c:=by obtain⟨a,c,h,-⟩:=T;exact⟨a,c,h⟩
  subst aI;have g:=ZZ (ao.o.below C zL);have O:=ZZ (I.o.trans (C.mono I.o.size));obtain⟨A,y0⟩:=g.o.cell 0;obtain⟨x,y1⟩:=g.o.cell 1;obtain⟨z,y2⟩:=g.o.cell 2;obtain⟨u,y3⟩:=g.o.cell 3;obtain⟨q,y4⟩:=g.o.cell 4;obtain⟨p,y5⟩:=g.o.cell 5;clear C T;go_wp2;refine zax (v:=.tuple #[.agg #[.int .i64 0,.int .i64 0,.slice none 0 0,.bool false,.int .i64 0,.slice none 0 0],.int .i64 16]) (by simp[results,Tryz.results76,go_sem,A,x,z,u,q,p]) rfl ?_
  rw[D.o];exact Zcg.zero _ (Zbf O.o _ zL _ _ _ _ _ _)
 | cons d P=>
  rw[Zqp] at D;have a7:P.flatten.length<=100000:=by rw[flatten_cons,length_append,length_cons] at ar;omega
  have bK:P.length<=100000:=by rw[flatten_cons,length_append,length_cons] at ar;omega
  have aP:Hid ((d::P).length=P.length+1):=ZZ rfl;have aw:=ZZ (fun U W h=>ZgZ U d W h)
  have bx:=ZZ (fun i n c vp W h=>Zyc i n c vp P W h a7 bK)
  have bi:=ZZ (fun U W h=>Zmv U P.flatten W h a7)
  have aK:Hid (I64 ((Y1 d).1:Nat)):=ZZ (by
   have:(Y1 d).1<4611686018427387904:=by
    unfold Y1;split
    ·decide
    dsimp only
    split
    ·decide
    split
    ·decide
    split
    ·decide
    rcases Xh (d.drop (1+(Qb (d.drop 1)).2)) with h | h
    ·rw[h];exact(by decide:(0:Nat)<4611686018427387904)
    ·exact h.1
   exact⟨by omega,by omega⟩)
  unfold ZAx at aw
  have am:Hid (∀ (W:World) (n:Int),Below w.heap.size w W->j=(Yf,n)->Zcg w j (.returned (.tuple #[.agg #[.int .i64 0,.int .i64 0,.slice none 0 0,.bool false,.int .i64 0,.slice none 0 0],.int .i64 n])) ((((((W.setCell ⟨w.heap.size,0,none⟩ (.int .i64 0)).setCell ⟨w.heap.size,1,none⟩ (.int .i64 0)).setCell ⟨w.heap.size,2,none⟩ (.slice none 0 0)).setCell ⟨w.heap.size,3,none⟩ (.bool false)).setCell ⟨w.heap.size,4,none⟩ (.int .i64 0)).setCell ⟨w.heap.size,5,none⟩ (.slice none 0 0))):=ZZ (fun W n h e=>by
   rw[e]
   exact Zcg.zero _ (Zbf h _ zL _ _ _ _ _ _))
  clear ar;generalize Y1 d=RM at *;obtain⟨f,M,J,me⟩:=RM
  dsimp only at D aw aK
  have a0:=ZZ (fun rb ro c h=>Zyd rb ro (d::P) c h (by simp))
  have bO:(P.length:Int)<=100000:=by omega
  go_enter func76,ntmps76
  go_wp2_with fail
  rw[<-ad];refine G.o.mono ?_;rintro e W1 ⟨U,rfl,T,C⟩;have g:=ZZ (ao.o.below C zL);have O:=ZZ (I.o.trans (C.mono I.o.size));have aH:=ZZ T;obtain⟨a1,c1,aI,bd,-,-,bM⟩:=T;subst aI;rcases bM with h0 | ⟨rb,ro,rfl,hc⟩
  ·cases h0
  obtain⟨x0,br,aX⟩:=hc 0 (by simp)
  have bJ:W1.cell? ⟨rb,ro,none⟩=some x0:=br;have aU:Rd W1 x0 d:=aX;have a2:=ZZ aU;obtain⟨xa,xc,bI⟩:∃ a c,x0=.slice a d.length c:=by obtain⟨a,c,h,-⟩:=aU;exact⟨a,c,h⟩
  subst bI;obtain⟨ra,rc,bo,bu⟩:=a0.o rb ro c1 bd;rw[aP.o,zdk] at bo;have aL:=ZZ (fun W h=>bu W h)
  rw[aP.o,zdk,List.drop_one,List.tail_cons] at aL;rw[aP.o] at aH ⊢;have bP:((P.length:Int)+1 == 0)=false:=zah.2 (by omega)
  have bQ:(0:Int)<(P.length:Int)+1:=by omega
  clear C hc br aX bu G bd a0 aU ad ao I
  go_wp2_with fail
  refine(aw.o _ _ a2.o).mono ?_;rintro e W2 ⟨rfl,aj⟩;obtain⟨l,al⟩:=zg7 (W2.alloc (.cells #[.int .i64 (f:Int),.int .i64 (M:Int),.int .u32 (J:Int)] 147));have an:Hid (Below W2.heap.size W2 l):=ZZ (by rw[al];exact(zac _ _).alloc zL _)
  have aE:Hid (Bq l W2.heap.size #[.int .i64 (f:Int),.int .i64 (M:Int),.int .u32 (J:Int)]):=ZZ (by rw[al];exact zak W2 _)
  have N:=ZZ ((g.o.below aj zL).below an.o zL);have ax:=ZZ ((O.o.trans (aj.mono O.o.size)).trans (an.o.mono (zau O.o.size aj.size)));have a5:=ZZ ((aH.o.below aj zL).below an.o zL)
  go_upto_region 7 with fail
  rw[<-al];obtain⟨K,a6⟩:=zg7 W2.heap.size;rw[<-a6] at aE ⊢;clear al a6 aj bJ g O aH aw a2 an;by_cases Z:me=0
  case neg=>
   have bC:(me != 0)=true:=by rw[zbq];exact Z
   have Q:Hid (j=(Yf,me)):=ZZ (by rw[D.o,zab Z])
   obtain⟨A,y0⟩:=N.o.cell 0;obtain⟨x,y1⟩:=N.o.cell 1;obtain⟨z,y2⟩:=N.o.cell 2;obtain⟨u,y3⟩:=N.o.cell 3;obtain⟨q,y4⟩:=N.o.cell 4;obtain⟨p,y5⟩:=N.o.cell 5;clear Z;go_wp2;refine zax (v:=.tuple #[.agg #[.int .i64 0,.int .i64 0,.slice none 0 0,.bool false,.int .i64 0,.slice none 0 0],.int .i64 me]) (by simp[results,Tryz.results76,go_sem,A,x,z,u,q,p]) rfl ?_
   exact am.o _ _ ax.o Q.o
  have bC:(me != 0)=false:=by rw[zby];exact Z
  have az:Hid (j=if Zmw P M J≠0 then(Yf,Zmw P M J) else if(Yw P.flatten).2≠0 then(Yf,(Yw P.flatten).2) else if Zs ⟨(f:Nat),(Yw P.flatten).1.st,(Yw P.flatten).1.tab⟩ then(⟨(f:Nat),(Yw P.flatten).1.st,(Yw P.flatten).1.tab⟩,0) else(Yf,1)):=ZZ (by rw[D.o,zaa (fun h=>h Z)])
  have ak:=ZZ (fun W h=>bx.o (f:Int) M J (.slice ra P.length rc) W h)
  obtain⟨H,aY⟩:=zg7 (Zmw P M J);rw[<-aY] at az ak;unfold Joined at ak;clear Z aY D bx;generalize P.flatten=FL at *;obtain⟨m,aQ⟩:=zg7 (if H=0 then FL else[])
  rw[<-aQ] at ak;have bB:=ZZ aQ;clear aQ
  have aS:Hid (∀ W,Below l.heap.size l W->W.cell? ⟨K,0,none⟩=some (.int .i64 (f:Int))∧W.cell? ⟨K,1,none⟩=some (.int .i64 (M:Int))∧W.cell? ⟨K,2,none⟩=some (.int .u32 (J:Int))):=ZZ (fun W h=>by
   have hx:=aE.o.below h zL
   exact⟨(hx.cell 0).1,(hx.cell 1).1,(hx.cell 2).1⟩)
  have aD:Hid (Below l.heap.size l l.drew):=ZZ ((zac _ _).drew)
  go_upto_region 9 with fail
  go_cut[5,7] (fun x5 x7 wc=>∃ a c,x5=.int .i64 H∧x7=.slice a m.length c∧Hid (Rd wc (.slice a m.length c) m)∧Hid (Below l.heap.size l wc))
  case first=>
   go_region_held(fun w'=>w'.cell? ⟨K,0,none⟩=some (.int .i64 (f:Int))∧w'.cell? ⟨K,1,none⟩=some (.int .i64 (M:Int))∧w'.cell? ⟨K,2,none⟩=some (.int .u32 (J:Int))) (first | (with_reducible exact aS.o _ aD.o) | (with_reducible exact aS.o _ bk))
    (first
     | (go_at_call 116;refine(ak.o l.drew (aL.o _ (a5.o.below aD.o zL))).mono ?_;rintro e W4 ⟨v4,rfl,aO,bn⟩;have bk:Below l.heap.size l W4:=aD.o.trans bn;have av:=ZZ aO;obtain⟨a4,c4,bL⟩:∃ a c,v4=.slice a m.length c:=(by obtain⟨a,c,h,-⟩:=aO;exact⟨a,c,h⟩);subst bL;clear aO bn))
   all_goals
    go_wp2_with fail
    go_meet
    exact⟨a4,c4,rfl,rfl,av,ZZ bk⟩
  case rest=>
   obtain⟨WC,rfl⟩:=zg7 wc;obtain⟨a4,c4,rfl,rfl,av,aG⟩:=hcut;have F:=ZZ (N.o.below aG.o zL);have a8:=ZZ (aE.o.below aG.o zL);have aC:=ZZ (ax.o.trans (aG.o.mono ax.o.size));clear N aE ax a5 aG aS aD ak aL bo;by_cases Y:H=0
   case neg=>
    have bH:(H != 0)=true:=by rw[zbq];exact Y
    have Q:Hid (j=(Yf,H)):=ZZ (by rw[az.o,zab Y])
    obtain⟨A,y0⟩:=F.o.cell 0;obtain⟨x,y1⟩:=F.o.cell 1;obtain⟨z,y2⟩:=F.o.cell 2;obtain⟨u,y3⟩:=F.o.cell 3;obtain⟨q,y4⟩:=F.o.cell 4;obtain⟨p,y5⟩:=F.o.cell 5;clear Y;go_wp2;refine zax (v:=.tuple #[.agg #[.int .i64 0,.int .i64 0,.slice none 0 0,.bool false,.int .i64 0,.slice none 0 0],.int .i64 H]) (by simp[results,Tryz.results76,go_sem,A,x,z,u,q,p]) rfl ?_
    exact am.o _ _ aC.o Q.o
   have bH:(H != 0)=false:=by rw[zby];exact Y
   have bz:m=FL:=by rw[bB.o,zab Y]
   subst bz;have ae:Hid (j=if(Yw m).2≠0 then(Yf,(Yw m).2) else if Zs ⟨(f:Nat),(Yw m).1.st,(Yw m).1.tab⟩ then(⟨(f:Nat),(Yw m).1.st,(Yw m).1.tab⟩,0) else(Yf,1)):=ZZ (by rw[az.o,zaa (fun h=>h Y)])
   have bv:=ZZ (bi.o _ _ av.o);clear Y az bi
   go_wp2_with fail
   refine bv.o.mono ?_;rintro e W5 ⟨vl,vt,S,t,ok,rfl,aV,bc,bf,aN,aZ,bg,bw,a3,ay⟩;obtain⟨la,lc,bA⟩:∃ a c,vl=.slice a S.L.length c:=by obtain⟨a,c,h,-⟩:=aV;exact⟨a,c,h⟩
   obtain⟨ta,tc,bF⟩:=aN.shape;subst bA bF;obtain⟨y,au⟩:=zg7 (W5.alloc (.cells #[.int .i64 S.kind,.slice la S.L.length lc,.bool S.shut,.int .i64 S.eng] 38));have ab:Hid (Below W5.heap.size W5 y):=ZZ (by rw[au];exact(zac _ _).alloc zL _)
   have ai:Hid (Bx y W5.heap.size #[.int .i64 S.kind,.slice la S.L.length lc,.bool S.shut,.int .i64 S.eng]):=ZZ (by rw[au];exact zak W5 _)
   have R:=ZZ ((F.o.below ay zL).below ab.o zL);have bD:=ZZ ((a8.o.below ay zL).below ab.o zL);have aW:=ZZ (aC.o.trans (ay.mono aC.o.size));have aJ:=ZZ (aW.o.trans (ab.o.mono aW.o.size));have bj:=ZZ (aV.below ab.o zL);have bp:=ZZ (aN.below ab.o zL);have aB:=ZZ (And.intro bc bf);have ap:Hid ((∀ k,(Value.slice la S.L.length lc).ownBlock=some k->w.heap.size<k)∧(∀ k,(Value.slice ta t.length tc).ownBlock=some k->w.heap.size<k)):=ZZ ⟨fun k B=>by have h1:=aZ k B;have h2:=F.o.lt;omega,fun k B=>by have h1:=bg k B;have h2:=F.o.lt;omega⟩
   have bl:=ZZ bw;have a9:=ZZ a3
   go_upto_region 13 with fail
   rw[<-au];obtain⟨QS,bm⟩:=zg7 W5.heap.size;rw[<-bm] at ai ⊢;clear au bm aV bc bf aN aZ bg bw a3 ay F a8 aC bv av ab aW
   cases ok with
   | false=>
    have h3:=bl.o rfl;have Q:Hid (j=(Yf,3)):=ZZ (by rw[ae.o,zab (by rw[h3];decide),h3])
    obtain⟨A,y0⟩:=R.o.cell 0;obtain⟨x,y1⟩:=R.o.cell 1;obtain⟨z,y2⟩:=R.o.cell 2;obtain⟨u,y3⟩:=R.o.cell 3;obtain⟨q,y4⟩:=R.o.cell 4;obtain⟨p,y5⟩:=R.o.cell 5;clear h3;go_wp2;refine zax (v:=.tuple #[.agg #[.int .i64 0,.int .i64 0,.slice none 0 0,.bool false,.int .i64 0,.slice none 0 0],.int .i64 3]) (by simp[results,Tryz.results76,go_sem,A,x,z,u,q,p]) rfl ?_
    exact am.o _ _ aJ.o Q.o
   | true=>
    obtain⟨er,be,aq⟩:=a9.o rfl;rw[be] at ae
    dsimp only at ae
    have Q:Hid (j=if Zs ⟨(f:Nat),S,t⟩ then(⟨(f:Nat),S,t⟩,0) else(Yf,1)):=ZZ (by
     rcases aq with h | ⟨h,h2⟩
     ·rw[ae.o,zaa (fun h'=>h' h)]
     ·rw[ae.o,zab (by rw[h];decide),h,h2,zaa (Zvb _ _)])
    have aT:=ZZ (fun W (h:Below y.heap.size y W)=>Zrp (.agg #[.int .i64 ((f:Nat):Int),.int .i64 S.kind,.slice la S.L.length lc,.bool S.shut,.int .i64 S.eng,.slice ta t.length tc]) ⟨(f:Nat),S,t⟩ W ⟨_,_,rfl,bj.o.below h zL,aB.o.1,aB.o.2,bp.o.below h zL,aK.o⟩)
    obtain⟨m0,-⟩:=bD.o.cell 0;obtain⟨s0,-⟩:=ai.o.cell 0;obtain⟨s1,-⟩:=ai.o.cell 1;obtain⟨s2,-⟩:=ai.o.cell 2;obtain⟨s3,-⟩:=ai.o.cell 3;have ag:Hid (∀ X,Below y.heap.size y (y.alloc X)):=ZZ (fun X=>(zac _ _).alloc zL X)
    have bt:Hid (∀ cs,Bn (y.alloc (.cells cs 41)) y.heap.size cs):=ZZ (fun cs=>zak y _)
    obtain⟨my,aR⟩:=zg7 (decide (Zs ⟨((f:Nat):Int),S,t⟩));rw[<-aR] at aT;have bb:=ZZ aR;clear be aq a9 bl ae aR
    go_wp2_with fail
    refine(aT.o _ (ag.o _)).mono ?_;rintro e W8 ⟨rfl,aF⟩;have ac:=ZZ ((R.o.below (ag.o _) zL).below aF zL);have aa:=ZZ ((bt.o _).below aF zL);have aA:=ZZ ((ag.o _).trans (aF.mono (ag.o _).size));have bq:=ZZ (aJ.o.trans (aA.o.mono aJ.o.size));have bE:=ZZ (bj.o.below aA.o zL);have bG:=ZZ (bp.o.below aA.o zL);obtain⟨A,y0⟩:=ac.o.cell 0;obtain⟨x,y1⟩:=ac.o.cell 1;obtain⟨z,y2⟩:=ac.o.cell 2;obtain⟨u,y3⟩:=ac.o.cell 3;obtain⟨q,y4⟩:=ac.o.cell 4;obtain⟨p,y5⟩:=ac.o.cell 5;clear aF aT m0 s0 s1 s2 s3 R ag bt aA
    cases my with
    | false=>
     have aM:Hid (j=(Yf,1)):=ZZ (by rw[Q.o,zaa (zdy bb.o.symm)])
     go_wp2;refine zax (v:=.tuple #[.agg #[.int .i64 0,.int .i64 0,.slice none 0 0,.bool false,.int .i64 0,.slice none 0 0],.int .i64 1]) (by simp[results,Tryz.results76,go_sem,A,x,z,u,q,p]) rfl ?_
     exact am.o _ _ bq.o aM.o
    | true=>
     have aM:Hid (j=(⟨((f:Nat):Int),S,t⟩,0)):=ZZ (by rw[Q.o,zab (zcm bb.o.symm)])
     obtain⟨q0,-⟩:=aa.o.cell 0;obtain⟨q1,-⟩:=aa.o.cell 1;obtain⟨q2,-⟩:=aa.o.cell 2;obtain⟨q3,-⟩:=aa.o.cell 3;obtain⟨q4,-⟩:=aa.o.cell 4;obtain⟨q5,-⟩:=aa.o.cell 5;go_wp2;refine zax (v:=.tuple #[.agg #[.int .i64 (f:Int),.int .i64 S.kind,.slice la S.L.length lc,.bool S.shut,.int .i64 S.eng,.slice ta t.length tc],.int .i64 0]) (by simp[results,Tryz.results76,go_sem,A,x,z,u,q,p]) rfl ?_
     rw[aM.o];have ba:=ZnG W8 w.heap.size (.int .i64 (f:Int)) (.int .i64 S.kind) (.slice la S.L.length lc) (.bool S.shut) (.int .i64 S.eng) (.slice ta t.length tc);exact⟨_,_,rfl,bE.o.but ba (.inr fun k B=>by have:=ap.o.1 k B;omega),aB.o.1,aB.o.2,bG.o.but ba (.inr fun k B=>by have:=ap.o.2 k B;omega),aK.o,(fun k B=>zf9 (ap.o.1 k B)),(fun k B=>zf9 (ap.o.2 k B)),Zdk bq.o _ zL _ _ _ _ _ _⟩
def J2 (m:List UInt8):Rec × Int × List UInt8 × Bool:=
 let m1:=behind (Qb m).2 m
 let m2:=behind (Qe m1).2 m1
 let m3:=behind (Xe m2).2 m2
 (⟨0,(Qb m).1,0,(Xe m2).1,zag (Qe m3).1⟩,zag (Qe m1).1,behind (Qe m3).2 m3,decide ((Qe m3).2≠0))
theorem Zfe (m:List UInt8):∃ b c a,b=behind (Qb m).2 m∧c=behind (Qe b).2 b∧a=behind (Xe c).2 c∧J2 m=(⟨0,(Qb m).1,0,(Xe c).1,zag (Qe a).1⟩,zag (Qe b).1,behind (Qe a).2 a,decide ((Qe a).2≠0)):=
 ⟨_,_,_,rfl,rfl,rfl,rfl⟩
theorem Zoq:(Xe []).2=0:=by
 have:=ZqY [];simpa using this
theorem Zcm {d:Nat} (h:behind d l≠[]):d≠0:=fun e=>h (by rw[e];rfl)
theorem ZkX (h:(Qe l).2≠0):l≠[]:=fun e=>h (by rw[e,Zbj])
theorem ZtA (h:(Qb l).2≠0):l≠[]:=fun e=>h (by rw[e,ZcR])
theorem ZtB (h:(Xe l).2≠0):l≠[]:=fun e=>h (by rw[e];exact Zoq)
theorem Zjh (h:(Qb l).2≠0):l=Lib.uvarint (Qb l).1++behind (Qb l).2 l:=by
 rw[Yx h,Ja h,zb9]
theorem Zor (h:(Qe l).2≠0):l=Lib.uvarint (Qe l).1++behind (Qe l).2 l:=by
 rw[Yx h,Zkt h,zb9]
theorem ZvZ (h:(Xe l).2≠0):l=X7 (Xe l).1++behind (Xe l).2 l:=by
 rw[Yx h,(ZhL h).2,zb9]
theorem Zwa {m:List UInt8} (h:(J2 m).2.2.2=false):(J2 m).2.2.1=[]:=by
 unfold J2 at h ⊢;simp only [zdc,zb7] at h ⊢;rw[h];rfl
theorem take_nil:(J2 []).2.2.2=false:=by
 obtain⟨e,b,c,j,i,f,k⟩:=Zfe [];have d:e=[]:=by rw[j,ZcR];rfl
 have a:b=[]:=by rw[i,d,Zbj];rfl
 have g:c=[]:=by rw[f,a,Zoq];rfl
 rw[k,g];show decide ((Qe []).2≠0)=false;rw[Zbj];rfl
theorem ZtC {m:List UInt8} (h:(J2 m).2.2.2=true):
 m=Lib.uvarint (J2 m).1.proc.toNat++(Lib.uvarint (Lib.zigzag (J2 m).2.1)++(X7 (J2 m).1.op++(Lib.uvarint (Lib.zigzag (J2 m).1.resp)++(J2 m).2.2.1))):=by
 obtain⟨b,a,c,e,n,j,t⟩:=Zfe m;rw[t] at h ⊢;simp only [zdp] at h;have f:(Xe a).2≠0:=Zcm (l:=a) (by rw[<-j];exact ZkX h)
 have g:(Qe b).2≠0:=Zcm (l:=b) (by rw[<-n];exact ZtB f)
 have p:(Qb m).2≠0:=Zcm (l:=m) (by rw[<-e];exact ZkX g)
 have q:=Zor h;have k:=ZvZ f;have d:=Zor g;have i:=Zjh p;rw[<-e] at i;rw[<-n] at d;rw[<-j] at k;show m=Lib.uvarint ((Qb m).1:Int).toNat++(Lib.uvarint (Lib.zigzag (zag (Qe b).1))++(X7 (Xe a).1++(Lib.uvarint (Lib.zigzag (zag (Qe c).1))++behind (Qe c).2 c)));rw[zbj,ZbJ,ZbJ];exact i.trans (congrArg (Lib.uvarint (Qb m).1++·) (d.trans (congrArg (Lib.uvarint (Qe b).1++·) (k.trans (congrArg (X7 (Xe a).1++·) q)))))
theorem Zwb (m:List UInt8):I64 (J2 m).1.proc∧I64 (J2 m).2.1∧ZyL (J2 m).1.op∧I64 (J2 m).1.resp∧(J2 m).1.idx=0∧(J2 m).1.seq=0∧0<=(J2 m).1.proc:=by
 have a:∀ l:List UInt8,I64 (zag (Qe l).1):=fun l=>Zpc (Zlv l)
 have q:(Qb m).1<4611686018427387904:=by
  rcases Xh m with e | e
  ·rw[e];decide
  ·exact e.1
 have g:∀ l:List UInt8,ZyL (Xe l).1:=fun l=>by
  by_cases h:(Xe l).2=0
  ·rw[ZrT h]
   exact⟨⟨by decide,by decide⟩,⟨by decide,by decide⟩,⟨by decide,by decide⟩⟩
  ·have d:=(ZhL h).1
   have b:=ZaN d;obtain⟨w,t,_⟩:=d;refine⟨?_,b.1,b.2⟩;generalize (Xe l).1.code=c at *;exact⟨by omega,by omega⟩
 obtain⟨n,j,k,u,x,v,i⟩:=Zfe m;have p:I64 ((Qb m).1:Int):=⟨by omega,by omega⟩
 have f:(0:Int)<=((Qb m).1:Int):=by omega
 rw[i];exact⟨p,a n,g j,a k,rfl,rfl,f⟩
theorem ZzJ (m:List UInt8):(J2 m).2.2.1.length<=m.length:=by
 obtain⟨e,a,c,k,j,i,l⟩:=Zfe m;rw[l];have d:=Jj (Qb m).2 m;have f:=Jj (Qe e).2 e;have b:=Jj (Xe a).2 a;have g:=Jj (Qe c).2 c;rw[<-k] at d;rw[<-j] at f;rw[<-i] at b;exact zau g (zau b (zau f d))
theorem Zye {a:List Rec} (l:∀ r ∈ a,Q1 r) {r:Rec} (d:Q1 r) (t:List UInt8):
 J2 (Zi a r++t)=(⟨0,r.proc,0,r.op,r.resp⟩,r.seq-Q8 a r.proc,t,true):=by
 have b:=ZeE l d;have c:=ZaX d;obtain⟨f,_,_,n,u,p,q,_⟩:=id d
 have E:Zi a r++t=Lib.uvarint r.proc.toNat++(Lib.uvarint (Lib.zigzag (r.seq-Q8 a r.proc))++(X7 r.op++(Lib.uvarint (Lib.zigzag r.resp)++t))):=by
  unfold Zi;simp only [append_assoc]
 rw[E]
 have j:(X7 r.op).length≠0:=by
  unfold X7;have:=J6 r.op.code.toNat;rw[length_append];omega
 have i:=Q6 r.proc.toNat (Lib.uvarint (Lib.zigzag (r.seq-Q8 a r.proc))++(X7 r.op++(Lib.uvarint (Lib.zigzag r.resp)++t))) (by omega)
 have g:=Zb (Lib.zigzag (r.seq-Q8 a r.proc)) (X7 r.op++(Lib.uvarint (Lib.zigzag r.resp)++t)) (Zbd b);have m:=ZmQ r.op f (Lib.uvarint (Lib.zigzag r.resp)++t);have e:=Zb (Lib.zigzag r.resp) t (Zbd c);unfold J2;simp only [i,Yx (J6 _),zg6,g,m,Yx j,e,G6 _ b.1 b.2,G6 _ c.1 c.2];have k:((r.proc.toNat:Nat):Int)=r.proc:=by omega
 rw[k,zan (J6 _)]
theorem Zcn {ao:Option Addr} {cap:Nat} (e:Rd w (.slice ao l.length cap) l) (d:Nat) (i:d<=l.length):
 ∃ b a,(∀ W,(Instr.sliceAt 53 (.slice ao l.length cap) (some (.int .i64 (d:Int))) none none).run prog W=.ok (.slice b (l.drop d).length a) W)∧Rd w (.slice b (l.drop d).length a) (l.drop d):=by
 obtain⟨k,m,g,j,r⟩:=id e;simp only [zbb] at g;obtain⟨rfl,_,rfl⟩:=g;have c:=e.mid d l.length cap i zL j zL;rw[zbl (by simp)] at c
 obtain⟨b,a,f,-⟩:=id c;rw[f] at c;refine⟨b,a,fun W=>?_,c⟩
 rw[zcn W 53 _ _ _ _ Xu,zfs W 53 ao l.length cap Xu .i64 (d:Int) (by omega) (by omega),Jt,Zcd]
 show Result.ok (sliced ao ((d:Int)).toNat l.length cap 1) W=_;rw[zbj,f]
def ZjO (w:World) (g:Nat) (L:List Rec):Prop:=w.heap[g]?=some (.cells (Qx L).toArray 62 (0,0))
theorem ZjO.lt (h:ZjO w g L):g<w.heap.size:=(zar.1 h).1
theorem ZjO.below (h:ZjO w g L) (a:Below B w w') (b:w.heap.size<=B):ZjO w' g L:=(a.block g (by have:=h.lt;omega)).trans h
theorem ZjO.cell (h:ZjO w g L) (i:Nat):w.cell? ⟨g,i,none⟩=(Qx L)[i]?∧w.frozen? ⟨g,i,none⟩=false:=
 ⟨(zas w g i _ _ _ h).trans (by simp),zbc w g i _ _ h⟩
theorem ZjO.at (h:ZjO w g L) {k:Nat} (d:k<L.length):ZjV w g (k*7) (L.getD k Qj):=by
 have a:∀ j u,j<7->(Jg (L.getD k Qj))[j]?=some u->w.cell? ⟨g,k*7+j,none⟩=some u:=fun j u b c=>(h.cell _).1.trans ((Zbs L k j d b).trans c)
 exact⟨a 0 _ (by decide) rfl,a 1 _ (by decide) rfl,a 2 _ (by decide) rfl,a 3 _ (by decide) rfl,a 4 _ (by decide) rfl,a 5 _ (by decide) rfl,a 6 _ (by decide) rfl⟩
theorem ZgE:∀ (L:List Rec) (k j:Nat) (v:Value) (r:Rec),k<L.length->j<7->(Jg r).toList=(Jg (L.getD k Qj)).toList.set j v->(Qx L).set (k*7+j) v=Qx (L.set k r)
 | s::t,0,j,v,r,_,hj,h=>by
  have e:((s::t).getD 0 Qj)=s:=rfl;rw[e] at h;rw[Qx,zc7,za9,List.set_append_left _ _ (by simp[Jg];omega),<-h]
  rfl
 | s::t,k+1,j,v,r,hk,hj,h=>by
  have e:(k+1)*7+j=(Jg s).toList.length+(k*7+j):=by simp[Jg];omega
  have a:((s::t).getD (k+1) Qj)=t.getD k Qj:=by simp[List.getD]
  rw[a] at h;rw[Qx,e,ze4 _ _ (by omega),zcf,ZgE t k j v r (by simpa using hk) hj h]
  rfl
theorem ZjO.set (h:ZjO w g L) {k:Nat} (b:k<L.length) (j:Nat) (c:j<7) (v:Value) (r:Rec) (a:(Jg r).toList=(Jg (L.getD k Qj)).toList.set j v):
 ZjO (w.setCell ⟨g,k*7+j,none⟩ v) g (L.set k r):=by
 have:=zbk w g (k*7+j) _ _ v h;unfold ZjO;rw[<-ZgE L k j v r b c a];simpa using this
theorem Zaw (a:k<L.length) (r:Rec):(L.set k r).getD k Qj=r:=by simp[List.getD,a]
theorem ZjO.seven (h:ZjO w g L) {k:Nat} (d:k<L.length) (i p s c a b y:Int):
 ZjO (((((((w.setCell ⟨g,k*7,none⟩ (.int .i64 i)).setCell ⟨g,k*7+1,none⟩ (.int .i64 p)).setCell ⟨g,k*7+2,none⟩ (.int .i64 s)).setCell ⟨g,k*7+3,none⟩ (.int .i64 c)).setCell ⟨g,k*7+4,none⟩ (.int .i64 a)).setCell ⟨g,k*7+5,none⟩ (.int .i64 b)).setCell ⟨g,k*7+6,none⟩ (.int .i64 y)) g (L.set k ⟨i,p,s,⟨c,a,b⟩,y⟩):=by
 have f:∀ r,k<(L.set k r).length:=fun r=>by simpa using d
 generalize B:L.getD k Qj=R;obtain⟨D,A,n,⟨m,l,j⟩,e⟩:=R;have C:=h.set d 0 (by decide) (.int .i64 i) ⟨i,A,n,⟨m,l,j⟩,e⟩ (by rw[B];rfl)
 have t:=C.set (f _) 1 (by decide) (.int .i64 p) ⟨i,p,n,⟨m,l,j⟩,e⟩ (by rw[Zaw d];rfl)
 rw[zer] at t;have x:=t.set (f _) 2 (by decide) (.int .i64 s) ⟨i,p,s,⟨m,l,j⟩,e⟩ (by rw[Zaw d];rfl)
 rw[zer] at x;have v:=x.set (f _) 3 (by decide) (.int .i64 c) ⟨i,p,s,⟨c,l,j⟩,e⟩ (by rw[Zaw d];rfl)
 rw[zer] at v;have q:=v.set (f _) 4 (by decide) (.int .i64 a) ⟨i,p,s,⟨c,a,j⟩,e⟩ (by rw[Zaw d];rfl)
 rw[zer] at q;have z:=q.set (f _) 5 (by decide) (.int .i64 b) ⟨i,p,s,⟨c,a,b⟩,e⟩ (by rw[Zaw d];rfl)
 rw[zer] at z;have u:=z.set (f _) 6 (by decide) (.int .i64 y) ⟨i,p,s,⟨c,a,b⟩,y⟩ (by rw[Zaw d];rfl)
 rw[zer] at u;exact u
theorem ZjO.rd (h:ZjO w g L) (c:∀ r ∈ L,ZcJ r) (a:L.length<=maxLen):RdR w (.slice (some ⟨g,0,none⟩) L.length L.length) L:=
 ⟨_,_,rfl,za0 _,a,(fun e=>by cases e),c,.inr ⟨g,0,rfl,fun j b=>by rw[za9];exact h.at b⟩⟩
theorem Zff:∀ n:Nat,Qx (List.replicate n Qj)=List.replicate (n*7) (Value.int .i64 0)
 | 0=>rfl
 | n+1=>by
  have e:(n+1)*7=7+n*7:=by omega
  rw[zge,Qx,Zff n,e,<-List.replicate_append_replicate];rfl
theorem Zmx (w:World) (n:Nat) (l:n<=1000000):(Instr.makeSlice 29 (.int .i64 (n:Int)) (.int .i64 (n:Int))).run prog w=.ok (.slice (some ⟨w.heap.size,0,none⟩) n n) (w.alloc (.cells (Qx (List.replicate n Qj)).toArray 62)):=by
 obtain⟨c,a,d,b,g⟩:=zbx Zdl;have h:=run_make (P:=prog) w 29 62 c _ underlying29 a d .i64 .i64 (n:Int) (n:Int) (by omega) (zen _) (by rw[g];omega) (by omega)
 rw[zbj,b] at h;rw[h]
 congr 3
 apply Array.ext';rw[Zff];apply zek;intro i;show(madeCells #[Value.int .i64 0,.int .i64 0,.int .i64 0,.int .i64 0,.int .i64 0,.int .i64 0,.int .i64 0] (n*7)).toList[i]?=_;by_cases a:i<n*7
 ·have f:i % 7<7:=zfm _ (by decide)
  have e:∀ j,j<7->(#[Value.int .i64 0,.int .i64 0,.int .i64 0,.int .i64 0,.int .i64 0,.int .i64 0,.int .i64 0]:Array Value)[j]! = .int .i64 0:=by
   intro j k
   match j,k with
   | 0,_ | 1,_ | 2,_ | 3,_ | 4,_ | 5,_ | 6,_=>rfl
  simp only [madeCells,Array.toList_map,Array.toList_range,zfr,List.getElem?_range a,zc9,List.getElem?_replicate,zab a];exact congrArg some (e (i % 7) f)
 ·simp[madeCells,a]
structure Zqr (b:List UInt8) (first count:Nat) (L:List Rec) (m:List UInt8) (t:Bool):Prop where
 chain:Xn first L
 ok:∀ r ∈ L,ZcJ r
 sound:t=true->(∀ r ∈ L,Q1 r)->b=Lib.uvarint first++(Lib.uvarint count++(Yl [] L++m))
 none:t=false->m=[]
 whole:∀ l',Yg l'->Yc l'=b->l'.length=count∧L=l'.take L.length∧m=Yl (l'.take L.length) (l'.drop L.length)∧t=true∧(l'.headD Qj).idx=first
def ZcT (first:Nat) (L:List Rec) (r:Rec) (d:Int):Rec:=⟨(first:Int)+L.length,r.proc,IntKind.i64.wrap (Q8 L r.proc+d),r.op,r.resp⟩
theorem Zji (n:Int):I64 (IntKind.i64.wrap n):=by
 unfold I64;rw[zbo];omega
theorem Zwc {a d:Int} (g:0<=a) (c:a<4611686018427387904) (b:I64 d) (i:0<=IntKind.i64.wrap (a+d)) (j:IntKind.i64.wrap (a+d)<4611686018427387904):IntKind.i64.wrap (a+d)-a=d:=by
 obtain⟨e,f⟩:=b;rw[zbo] at *;omega
theorem Zqr.step {b:List UInt8} {i:Nat} (h:Zqr b first i L m t) (hf:first<4611686018427387904) (ac:L.length<i) (hc:i<=256)
 {R:Rec} {d:Int} {m':List UInt8} {n:Bool} (k:J2 m=(R,d,m',n)):
 Zqr b first i (L++[ZcT first L R d]) m' n:=by
 have z:=Zwb m;have u:=@Zwa m;have v:=@ZtC m
 have Q:m=[]->n=false:=fun e=>by
  have:=take_nil;rw[<-e,k] at this;exact this
 rw[k] at z u v;obtain⟨hp,C,K,D,-,-,ab⟩:=z;refine⟨?_,?_,?_,u,?_⟩
 ·exact(Zga L first (ZcT first L R d)).2 ⟨h.chain,rfl⟩
 ·intro r hr
  rcases za2.1 hr with hr | hr
  ·exact h.ok r hr
  ·simp only [zaw] at hr
   rw[hr];have j:I64 ((first:Int)+L.length):=⟨by omega,by omega⟩
   exact⟨j,hp,Zji _,K,D⟩
 ·intro c w
  have p:m≠[]:=fun e=>by
   rw[Q e] at c
   cases c
  have G:t=true:=by
   cases t with
   | true=>rfl
   | false=>exact absurd (h.none rfl) p
  have y:∀ r ∈ L,Q1 r:=fun r hr=>w r (by simp[hr])
  have F:Q1 (ZcT first L R d):=w _ (by simp)
  have Y:=h.sound G y;have W:=v c;obtain⟨H,I⟩:=Zkv R.proc y;obtain⟨_,_,_,n0,n1,_⟩:=F;have Z:(ZcT first L R d).seq-Q8 L (ZcT first L R d).proc=d:=Zwc H I C n0 n1
  have N:Yl [] (L++[ZcT first L R d])=Yl [] L++Zi L (ZcT first L R d):=by
   rw[ZhV];simp[Yl]
  have M:Zi L (ZcT first L R d)++m'=m:=by
   unfold Zi;rw[Z];refine Eq.trans ?_ W.symm;simp only [append_assoc];rfl
  rw[N,append_assoc,M];exact Y
 ·intro a g X
  obtain⟨S,l,A,w4,x⟩:=h.whole a g X;have f:L.length<a.length:=by omega
  have q:Q1 (a.getD L.length Qj):=g.2.2.1 _ (by simp[List.getD,f])
  have O:∀ r ∈ L,Q1 r:=fun r hr=>by
   rw[l] at hr;exact g.2.2.1 r (mem_of_mem_take hr)
  have J:a.drop L.length=a.getD L.length Qj::a.drop (L.length+1):=by
   rw[zd0 f];simp[List.getD,f]
  have p:m=Zi L (a.getD L.length Qj)++Yl (L++[a.getD L.length Qj]) (a.drop (L.length+1)):=by
   rw[A,J,Yl,<-l]
  have c:=Zye O q (Yl (L++[a.getD L.length Qj]) (a.drop (L.length+1)));rw[<-p,k] at c;have j:=Zoc a _ _ g.2.2.2 f;rw[x] at j;have T:(L++[ZcT first L R d]).length=L.length+1:=by simp
  rw[T,ZfZ f];rw[<-l];generalize a.getD L.length Qj=r at *;simp only [zcj] at c;obtain⟨B,aa,E,V⟩:=c
  have P:ZcT first L R d=r:=by
   obtain⟨_,_,_,q0,q1,_⟩:=q;unfold ZcT;rw[B,aa];have U:Q8 L r.proc+(r.seq-Q8 L r.proc)=r.seq:=by omega
   show(⟨_,r.proc,IntKind.i64.wrap (Q8 L r.proc+(r.seq-Q8 L r.proc)),r.op,r.resp⟩:Rec)=_;rw[U,Zpg ⟨by omega,by omega⟩,<-j]
  rw[P];exact⟨S,rfl,E,V,x⟩
theorem Zqr.done {b:List UInt8} (h:Zqr b first L.length L m t):
 (t=true∧m=[]∧Yg L->Yc L=b)∧(¬ (t=true∧m=[]∧Yg L)->∀ a,Yg a->Yc a≠b):=by
 constructor
 ·rintro⟨ht,hm,hf⟩
  have i:=h.sound ht hf.2.2.1;rw[hm,zc8] at i;rw[i];unfold Yc;have c:=h.chain;have n:=hf.1
  match L,n,c with
  | r::u,_,c=>
   have e:r.idx=(first:Int):=c.1;show Lib.uvarint r.idx.toNat++_=_;rw[e,zbj]
 ·intro l a f p
  obtain⟨g,d,j,k,q⟩:=h.whole a f p;rw[<-g,take_length] at d;refine l ⟨k,?_,by rw[d];exact f⟩
  rw[j,<-g,ze9];rfl
theorem Zeg (x:Int) (d:Nat) (v:Value) (m:List UInt8) (w:World) (c:Rd w v m) (j:d<=m.length)
 (b:Calls prog 168 #[v] w fun e w'=>e=.returned (.tuple #[.int .i64 x,.int .i64 (d:Nat)])∧w'=w):
 Calls prog 167 #[v,.func (.func 168) #[] #[]] w fun e w'=>∃ v',e=.returned (.tuple #[.int .i64 x,v',.bool (decide (d≠0))])∧Rd w' v' (behind d m)∧Below w.heap.size w w':=by
 have f:=ZZ b;have p:=ZZ c;obtain⟨ao,cap,rfl,-⟩:=c;by_cases a:d=0
 ·subst a
  clear b
  go_enter func167,ntmps167
  go_wp2_with fail
  refine f.o.mono ?_;rintro e w' ⟨rfl,rfl⟩;go_wp2;refine zax (v:=.tuple #[.int .i64 x,.slice none 0 0,.bool false]) (by simp[results,Tryz.results167,go_sem]) rfl ?_
  exact⟨_,rfl,Rd.nil _,zac _ _⟩
 ·have t:((d:Int) == 0)=false:=zah.2 (by omega)
  have q:Hid (behind d m=m.drop d):=zaa a;have k:Hid (decide (d≠0)=true):=zan a;obtain⟨n,l,hcut,g⟩:=Zcn p.o d j;have i:=ZZ g;clear b a g;generalize m.drop d=M at *
  go_enter func167,ntmps167
  go_wp2_with fail
  refine f.o.mono ?_;rintro e w' ⟨rfl,rfl⟩;go_wp2;refine zfc (by kernel_rfl) (by kernel_rfl) ?_
  repeat (go_big_quiet_step (fail))
  refine zd3 ?_;rintro _ ⟨nq,rfl⟩;go_wp2;refine zax (v:=.tuple #[.int .i64 x,.slice n M.length l,.bool true]) (by simp[results,Tryz.results167,go_sem]) rfl ?_
  refine⟨_,by rw[k.o],?_,X6 (zac _ _) _⟩
  rw[q.o];exact i.o.below (X6 (zac _ _) _) zL
theorem ZdG (x:Int) (d:Nat) (v:Value) (m:List UInt8) (w:World) (c:Rd w v m) (j:d<=m.length)
 (b:Calls prog 201 #[v] w fun e w'=>e=.returned (.tuple #[.int .i64 x,.int .i64 (d:Nat)])∧w'=w):
 Calls prog 167 #[v,.func (.func 201) #[] #[]] w fun e w'=>∃ v',e=.returned (.tuple #[.int .i64 x,v',.bool (decide (d≠0))])∧Rd w' v' (behind d m)∧Below w.heap.size w w':=by
 have f:=ZZ b;have p:=ZZ c;obtain⟨ao,cap,rfl,-⟩:=c;by_cases a:d=0
 ·subst a
  clear b
  go_enter func167,ntmps167
  go_wp2_with fail
  refine f.o.mono ?_;rintro e w' ⟨rfl,rfl⟩;go_wp2;refine zax (v:=.tuple #[.int .i64 x,.slice none 0 0,.bool false]) (by simp[results,Tryz.results167,go_sem]) rfl ?_
  exact⟨_,rfl,Rd.nil _,zac _ _⟩
 ·have t:((d:Int) == 0)=false:=zah.2 (by omega)
  have q:Hid (behind d m=m.drop d):=zaa a;have k:Hid (decide (d≠0)=true):=zan a;obtain⟨n,l,hcut,g⟩:=Zcn p.o d j;have i:=ZZ g;clear b a g;generalize m.drop d=M at *
  go_enter func167,ntmps167
  go_wp2_with fail
  refine f.o.mono ?_;rintro e w' ⟨rfl,rfl⟩;go_wp2;refine zfc (by kernel_rfl) (by kernel_rfl) ?_
  repeat (go_big_quiet_step (fail))
  refine zd3 ?_;rintro _ ⟨nq,rfl⟩;go_wp2;refine zax (v:=.tuple #[.int .i64 x,.slice n M.length l,.bool true]) (by simp[results,Tryz.results167,go_sem]) rfl ?_
  refine⟨_,by rw[k.o],?_,X6 (zac _ _) _⟩
  rw[q.o];exact i.o.below (X6 (zac _ _) _) zL
theorem Bo.set (h:Bo w b cs) (j:Nat) (x:Value):Bo (w.setCell ⟨b,j,none⟩ x) b (cs.setIfInBounds j x):=by
 have:=zbk w b j _ _ x h;unfold Bo;simpa using this
theorem Bo.three {a c e:Value} (h:Bo w b #[a,c,e]) (x y z:Value):Bo (((w.setCell ⟨b,0,none⟩ x).setCell ⟨b,1,none⟩ y).setCell ⟨b,2,none⟩ z) b #[x,y,z]:=by
 have d:=((h.set 0 x).set 1 y).set 2 z;exact d
theorem ZtD (v:Value) (m:List UInt8) (w:World) (C:Rd w v m) (E:m.length<=1000000):
 Calls prog 208 #[v,.func (.func 209) #[] #[]] w fun e w'=>∃ v',e=.returned (.tuple #[opV (Xe m).1,v',.bool (decide ((Xe m).2≠0))])∧Rd w' v' (behind (Xe m).2 m)∧Below w.heap.size w w':=by
 have x:=ZZ (fun W h=>ZvX v m W h E)
 unfold Zvg at x;have A:=ZZ C;have J:=ZqY m;obtain⟨ao,cap,rfl,-⟩:=C;have l:Hid (∀ X,Below w.heap.size w (w.alloc X)):=fun X=>(zac _ _).alloc zL X
 generalize (Xe m).2=d at *;generalize (Xe m).1=o at *;have B:Hid (∀ cs,Bo (w.alloc (.cells cs 52)) w.heap.size cs):=fun cs=>zak w _
 unfold opV at *;obtain⟨f,a,b⟩:=o
 dsimp only at *
 by_cases n:d=0
 ·subst n
  go_enter func208,ntmps208
  go_wp2_with fail
  refine(x.o _ (A.o.below (l.o _) zL)).mono ?_;rintro e g ⟨rfl,j⟩;have c:Bo g w.heap.size _:=(B.out _).below j zL;obtain⟨L,P⟩:=c.cell 0;obtain⟨G,I⟩:=c.cell 1;obtain⟨R,T⟩:=c.cell 2;have z:=ZZ ((l.o _).trans (j.mono (l.o _).size));have S:=c.lt;have K:g.heap.size≠w.heap.size:=by omega
  have Q:w.heap.size≠g.heap.size:=by omega
  have t:=ZZ c;clear j c;go_wp2;have i:Bo ((((g.setCell ⟨w.heap.size,0,none⟩ (.int .i64 f)).setCell ⟨w.heap.size,1,none⟩ (.int .i64 a)).setCell ⟨w.heap.size,2,none⟩ (.int .i64 b)).alloc (.cells #[.int .i64 f,.int .i64 a,.int .i64 b] 52)) w.heap.size #[.int .i64 f,.int .i64 a,.int .i64 b]:=(t.o.three _ _ _).below ((zac _ _).alloc zL _) zL;have q:=(i.cell 0).1;have u:=(i.cell 1).1;have y:=(i.cell 2).1;have k:=ZZ (((z.o.setCell (p:=⟨w.heap.size,0,none⟩) zL (.int .i64 f)).setCell (p:=⟨w.heap.size,1,none⟩) zL (.int .i64 a)).setCell (p:=⟨w.heap.size,2,none⟩) zL (.int .i64 b));clear i;refine zax (v:=.tuple #[.agg #[.int .i64 f,.int .i64 a,.int .i64 b],.slice none 0 0,.bool false]) (by simp[results,Tryz.results208,go_sem,q,u,y]) rfl ?_
  exact⟨_,rfl,Rd.nil _,k.o.alloc k.o.size _⟩
 ·have V:((d:Int) == 0)=false:=zah.2 (by omega)
  have U:Hid (behind d m=m.drop d):=zaa n;have H:Hid (decide (d≠0)=true):=zan n;obtain⟨O,N,hcut,D⟩:=Zcn A.o d J;have F:=ZZ D;clear n D;generalize m.drop d=M at *
  go_enter func208,ntmps208
  go_wp2_with fail
  refine(x.o _ (A.o.below (l.o _) zL)).mono ?_;rintro e g ⟨rfl,j⟩;have c:Bo g w.heap.size _:=(B.out _).below j zL;obtain⟨L,P⟩:=c.cell 0;obtain⟨G,I⟩:=c.cell 1;obtain⟨R,T⟩:=c.cell 2;have z:=ZZ ((l.o _).trans (j.mono (l.o _).size));have S:=c.lt;have K:g.heap.size≠w.heap.size:=by omega
  have Q:w.heap.size≠g.heap.size:=by omega
  have t:=ZZ c;clear j c;go_wp2
  go_region
  all_goals
   go_wp2;have i:Bo ((((g.setCell ⟨w.heap.size,0,none⟩ (.int .i64 f)).setCell ⟨w.heap.size,1,none⟩ (.int .i64 a)).setCell ⟨w.heap.size,2,none⟩ (.int .i64 b)).alloc (.cells #[.int .i64 f,.int .i64 a,.int .i64 b] 52)).drew w.heap.size #[.int .i64 f,.int .i64 a,.int .i64 b]:=(t.o.three _ _ _).below (((zac _ _).alloc zL _).drew) zL;have q:=(i.cell 0).1;have u:=(i.cell 1).1;have y:=(i.cell 2).1;have k:=ZZ (((z.o.setCell (p:=⟨w.heap.size,0,none⟩) zL (.int .i64 f)).setCell (p:=⟨w.heap.size,1,none⟩) zL (.int .i64 a)).setCell (p:=⟨w.heap.size,2,none⟩) zL (.int .i64 b));clear i;refine zax (v:=.tuple #[.agg #[.int .i64 f,.int .i64 a,.int .i64 b],.slice O M.length N,.bool true]) (by simp[results,Tryz.results208,go_sem,q,u,y]) rfl ?_
   refine⟨_,by rw[H.o],?_,(k.o.alloc k.o.size _).drew⟩
   rw[U.o];exact F.o.below (k.o.alloc k.o.size _).drew zL
structure TIn (w W:World) (cs:Array Value) (v:Value) (m:List UInt8):Prop where
 box:Br W w.heap.size cs
 rd:Rd W v m
 below:Below w.heap.size w W
theorem TIn.next {W':World} {m':List UInt8} (h:TIn w W cs v m) (a:Below W.heap.size W W') (b:Rd W' v' m'):TIn w W' cs v' m':=
 ⟨h.box.below a zL,b,h.below.trans (a.mono h.below.size)⟩
theorem TIn.set (h:TIn w W cs v m) (j:Nat) {n:Int} (a:cs[j]?=some (.int .i64 n)) (x:Value):TIn w (W.setCell ⟨w.heap.size,j,none⟩ x) (cs.setIfInBounds j x) v m:=
 ⟨h.box.set j x,h.rd.setInt ((h.box.cell j).1.trans a),h.below.setCell zL _⟩
theorem Zkj (v:Value) (m:List UInt8) (w:World) (J:Rd w v m) (ac:m.length<=1000000):
 Calls prog 169 #[v] w fun e w'=>∃ v',e=.returned (.tuple #[ZsI (J2 m).1,.int .i64 (J2 m).2.1,v',.bool (J2 m).2.2.2])∧Rd w' v' (J2 m).2.2.1∧Below w.heap.size w w':=by
 obtain⟨f,g,d,C,u,n,K⟩:=Zfe m;have I:=ZZ K;have E:=Jj (Qb m).2 m;have P:=Jj (Qe f).2 f;have Z:=Jj (Xe g).2 g;rw[<-C] at E;rw[<-u] at P;rw[<-n] at Z
 have B:Hid (∀ W v,Rd W v m->Calls prog 167 #[v,.func (.func 168) #[] #[]] W fun e w'=>∃ v',e=.returned (.tuple #[.int .i64 ((Qb m).1:Nat),v',.bool (decide ((Qb m).2≠0))])∧Rd w' v' f∧Below W.heap.size W w'):=ZZ (fun W v h=>by
  have:=Zeg ((Qb m).1:Nat) (Qb m).2 v m W h (Jy m) (ZcH v m W h);rw[<-C] at this
  exact this)
 have R:Hid (∀ W v,Rd W v f->Calls prog 167 #[v,.func (.func 201) #[] #[]] W fun e w'=>∃ v',e=.returned (.tuple #[.int .i64 (zag (Qe f).1),v',.bool (decide ((Qe f).2≠0))])∧Rd w' v' g∧Below W.heap.size W w'):=ZZ (fun W v h=>by
  have:=ZdG (zag (Qe f).1) (Qe f).2 v f W h (Da f) (Zak v f W h);rw[<-u] at this
  exact this)
 have k:Hid (∀ W v,Rd W v g->Calls prog 208 #[v,.func (.func 209) #[] #[]] W fun e w'=>∃ v',e=.returned (.tuple #[opV (Xe g).1,v',.bool (decide ((Xe g).2≠0))])∧Rd w' v' d∧Below W.heap.size W w'):=ZZ (fun W v h=>by
  have:=ZtD v g W h (by omega)
  rw[<-n] at this
  exact this)
 have X:Hid (∀ W v,Rd W v d->Calls prog 167 #[v,.func (.func 201) #[] #[]] W fun e w'=>∃ v',e=.returned (.tuple #[.int .i64 (zag (Qe d).1),v',.bool (decide ((Qe d).2≠0))])∧Rd w' v' (behind (Qe d).2 d)∧Below W.heap.size W w'):=ZZ (fun W v h=>ZdG (zag (Qe d).1) (Qe d).2 v d W h (Da d) (Zak v d W h))
 have HR:=ZZ J;obtain⟨ao,cap,rfl,-⟩:=J;rw[I.o];clear K I C u n E P Z;generalize decide ((Qe d).2≠0)=T at *;generalize behind (Qe d).2 d=D at *;generalize zag (Qe d).1=y at *;generalize zag (Qe f).1=x at *;generalize decide ((Qe f).2≠0)=T1 at *;generalize decide ((Xe g).2≠0)=T2 at *;generalize decide ((Qb m).2≠0)=T0 at *;obtain⟨p,N⟩:∃ p:Int,p=((Qb m).1:Nat):=⟨_,rfl⟩;rw[<-N] at B ⊢;clear N;generalize (Xe g).1=o at *;unfold opV at k;obtain⟨c,a,b⟩:=o
 dsimp only at k
 unfold ZsI
 dsimp only
 have t:Hid (TIn w (w.alloc (.cells #[.int .i64 0,.int .i64 0,.int .i64 0,.int .i64 0,.int .i64 0,.int .i64 0,.int .i64 0] 62)) #[.int .i64 0,.int .i64 0,.int .i64 0,.int .i64 0,.int .i64 0,.int .i64 0,.int .i64 0] (.slice ao m.length cap) m):=
  ⟨zak w _,HR.o.below ((zac _ _).alloc zL _) zL,(zac _ _).alloc zL _⟩
 go_enter func169,ntmps169
 go_wp2_with fail
 refine(B.o _ _ t.o.rd).mono ?_;rintro e W1 ⟨v1,rfl,G,M⟩;have z:=ZZ (t.o.next M G);obtain⟨p1,f1⟩:=z.o.box.cell 1;obtain⟨a1,c1,rfl,-⟩:=G;have q:=ZZ (z.o.set 1 rfl (.int .i64 p));clear M t B
 go_wp2_with fail
 refine(R.o _ _ q.o.rd).mono ?_;rintro e W2 ⟨v2,rfl,aa,U⟩;have l:=ZZ (q.o.next U aa);obtain⟨a2,c2,rfl,-⟩:=aa;clear U z q R p1 f1
 go_wp2_with fail
 refine(k.o _ _ l.o.rd).mono ?_;rintro e W3 ⟨v3,rfl,V,Q⟩;have j:=ZZ (l.o.next Q V);obtain⟨p3,f3⟩:=j.o.box.cell 3;obtain⟨p4,f4⟩:=j.o.box.cell 4;obtain⟨p5,f5⟩:=j.o.box.cell 5;obtain⟨a3,c3,rfl,-⟩:=V;have A:=ZZ (((j.o.set 3 rfl (.int .i64 c)).set 4 rfl (.int .i64 a)).set 5 rfl (.int .i64 b));clear Q l k
 go_wp2_with fail
 refine(X.o _ _ A.o.rd).mono ?_;rintro e H ⟨v4,rfl,O,S⟩;have L:=ZZ (A.o.next S O);obtain⟨Y,F,rfl,-⟩:=O;have i:Br H w.heap.size #[.int .i64 0,.int .i64 p,.int .i64 0,.int .i64 c,.int .i64 a,.int .i64 b,.int .i64 0]:=L.o.box;have ab:Hid (TIn w (H.setCell ⟨w.heap.size,6,none⟩ (.int .i64 y)) #[.int .i64 0,.int .i64 p,.int .i64 0,.int .i64 c,.int .i64 a,.int .i64 b,.int .i64 y] (.slice Y D.length F) D):=L.o.set 6 rfl (.int .i64 y);obtain⟨q0,g0⟩:=i.cell 0;obtain⟨q1,g1⟩:=i.cell 1;obtain⟨q2,g2⟩:=i.cell 2;obtain⟨q3,g3⟩:=i.cell 3;obtain⟨q4,g4⟩:=i.cell 4;obtain⟨q5,g5⟩:=i.cell 5;obtain⟨q6,g6⟩:=i.cell 6;clear S j A X p3 p4 p5 f3 f4 f5;go_wp2;refine zax (v:=.tuple #[.agg #[.int .i64 0,.int .i64 p,.int .i64 0,.int .i64 c,.int .i64 a,.int .i64 b,.int .i64 y],.int .i64 x,.slice Y D.length F,.bool T]) (by simp[results,Tryz.results169,go_sem,q0,q1,q2,q3,q4,q5,q6]) rfl ?_
 have h:=(((((((ab.o.set 0 rfl (.int .i64 0)).set 1 rfl (.int .i64 p)).set 2 rfl (.int .i64 0)).set 3 rfl (.int .i64 c)).set 4 rfl (.int .i64 a)).set 5 rfl (.int .i64 b)).set 6 rfl (.int .i64 y));exact⟨_,rfl,h.rd,h.below⟩
end Go.Proofs.YtnahjngbneicaaaGreatDoor
