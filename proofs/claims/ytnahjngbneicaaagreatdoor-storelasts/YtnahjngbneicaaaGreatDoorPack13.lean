import Derived.Test.YtnahjngbneicaaaGreatDoorPack12
namespace Go.Proofs.YtnahjngbneicaaaGreatDoor
open _root_.Go.Proofs.Tryz
open List (append_assoc drop_drop flatten_cons length_append length_cons length_drop mem_cons mem_of_mem_take take_length)
set_option maxHeartbeats 4000000
set_option maxRecDepth 100000
open Go.RowKit
variable {W w w':World} {B C b first g k:Nat} {cs:Array Value} {v v':Value} {l m:List UInt8} {L:List Rec} {t:Bool}
def Ztc (w:World) (b:List UInt8) (e:Ending) (w':World):Prop:=
 ∃ (vl vt:Value) (S:St) (t:List Ent) (ok:Bool),e=.returned (.tuple #[.agg #[.int .i64 S.kind,vl,.bool S.shut,.int .i64 S.eng],vt,.bool ok])∧RdI w' vl S.L∧I64 S.kind∧I64 S.eng∧RdE w' vt t∧(∀ k,vl.ownBlock=some k->w.heap.size<=k)∧(∀ k,vt.ownBlock=some k->w.heap.size<=k)∧
  (ok=false->(Yu b).2=3)∧(ok=true->∃ er,Yu b=(⟨0,S,t⟩,er)∧(er=0∨(er=1∧S=ZcB)))∧Below w.heap.size w w'
theorem Ztc.none {w w':World} {b:List UInt8} (h:(Yu b).2=3) (c:Below w.heap.size w w'):Ztc w b (.returned (.tuple #[.agg #[.int .i64 0,.slice none 0 0,.bool false,.int .i64 0],.slice none 0 0,.bool false])) w':=
 ⟨_,_,ZcB,[],false,rfl,RdI.nil _,(Qo (by decide) (by decide):I64 0),(Qo (by decide) (by decide):I64 0),RdE.nil _,(fun k a=>by simp[Value.ownBlock] at a),(fun k a=>by simp[Value.ownBlock] at a),(fun _=>h),(fun h=>by cases h),c⟩
theorem ZxB (ao:Option Addr) (l:List UInt8) (cap:Nat) (g:l.length<=cap) (j:Nat) (f:j<=l.length):
 ∃ a b c,(∀ W,(Instr.sliceAt 53 (.slice ao l.length cap) none (some (.int .i64 (j:Int))) (some (.int .i64 (j:Int)))).run prog W=.ok (.slice a b c) W)∧∀ W,Rd W (.slice ao l.length cap) l->Rd W (.slice a b c) (l.take j):=by
 have d:∃ a b c,sliced ao 0 j j 1=.slice a b c:=by
  unfold sliced;exact⟨_,_,_,rfl⟩
 obtain⟨a,b,c,d⟩:=d;refine⟨a,b,c,fun W=>?_,fun W h=>?_⟩
 ·rw[run_sliceAt_slice W 53 _ _ _ _ Xu,run_slice_hm W 53 ao l.length cap Xu .i64 .i64 (j:Int) (j:Int) (by omega) (by omega) (by omega),Jo,Zce]
  simp only [Int.toNat_natCast];rw[<-d];rfl
 ·rw[<-d]
  have e:=h.mid 0 j j (Nat.zero_le _) f zL (by omega)
  rw[List.drop_zero,Nat.sub_zero] at e;exact e
def four (w:World) (R:Nat) (x0 x1 x2 x3:Value):World:=(((w.setCell ⟨R,0,none⟩ x0).setCell ⟨R,1,none⟩ x1).setCell ⟨R,2,none⟩ x2).setCell ⟨R,3,none⟩ x3
theorem Zdl {b:World} (h:Below C b w) (R:Nat) (a:C<=R) (c f d e:Value):Below C b ((((w.setCell ⟨R,0,none⟩ c).setCell ⟨R,1,none⟩ f).setCell ⟨R,2,none⟩ d).setCell ⟨R,3,none⟩ e):=
 (((h.setCell a _).setCell a _).setCell a _).setCell a _
theorem ZxC (w:World) (R:Nat) (a d b c:Value):But R R w ((((w.setCell ⟨R,0,none⟩ a).setCell ⟨R,1,none⟩ d).setCell ⟨R,2,none⟩ b).setCell ⟨R,3,none⟩ c):=
 ((((But.refl R R w).set _ _ (.inl rfl) _).set _ _ (.inl rfl) _).set _ _ (.inl rfl) _).set _ _ (.inl rfl) _
theorem Zmd (v:Value) (b:List UInt8) (w:World) (T:Rd w v b) (bd:b.length<=100000):
 Calls prog 117 #[v] w fun e w'=>Ztc w b e w':=by
 obtain⟨d,P⟩:∃ d,d=((w.alloc (.cells #[.int .i64 0,.slice none 0 0,.bool false,.int .i64 0] 38)).alloc (.cells #[.int .i64 0] 3)).alloc (.cells #[.pointer (some ⟨w.heap.size+1,0,none⟩)] 208):=⟨_,rfl⟩;have g:=ZiP w (.cells #[.int .i64 0,.slice none 0 0,.bool false,.int .i64 0] 38) (.cells #[.int .i64 0] 3) (.cells #[.pointer (some ⟨w.heap.size+1,0,none⟩)] 208);rw[<-P] at g;obtain⟨hA,hB,hC⟩:=g;have ao:Hid (Below w.heap.size w d):=ZZ (by rw[P];exact(((Below.refl _ _).alloc zL _).alloc (by simp) _).alloc (by simp;omega) _)
 have au:Bx d w.heap.size #[.int .i64 0,.slice none 0 0,.bool false,.int .i64 0]:=hA
 have ak:=ZZ (Zat (w.heap.size+1+1) [(w.heap.size+1,0)] v b d (T.below ao.o zL) (fun p O=>by
  rw[List.mem_singleton.1 O]
  exact⟨⟨⟨0,cell_of_row d (w.heap.size+1) 0 _ _ _ hB⟩,frozen_of_row d (w.heap.size+1) 0 _ _ hB⟩,by simp⟩) (by simp) hC 1 rfl)
 have ax:Hid (∀ n:Nat,(d.setCell ⟨w.heap.size+1,0,none⟩ (.int .i64 (n:Int))).cell? ⟨w.heap.size+1,0,none⟩=some (.int .i64 (n:Int))):=ZZ (fun n=>World.cell?_setCell_same _ _ _ (cell_of_row d (w.heap.size+1) 0 _ _ _ hB))
 have aG:Hid (∀ ns,Below w.heap.size w (Y7 d ([(w.heap.size+1,0)].take (List.length ns)) ns)):=ZZ (fun ns=>Zbi d _ ns _ w (fun p O=>by
  have:=mem_of_mem_take O;rw[List.mem_singleton.1 this]
  simp) ao.o)
 have aB:Hid (∀ ns,Bx (Y7 d ([(w.heap.size+1,0)].take (List.length ns)) ns) w.heap.size #[.int .i64 0,.slice none 0 0,.bool false,.int .i64 0]):=ZZ (fun ns=>(Zbh d _ ns _ (fun p O=>by
  have:=mem_of_mem_take O;rw[List.mem_singleton.1 this]
  simp)).trans au)
 have an:=ZZ (fun ns l h=>ZiQ (b:=b) (ns:=ns) (l:=l) h)
 have ad:=ZZ (fun h=>ZiR (b:=b) h)
 have z:Hid (Yu b=if(Qb b).2=0∨b.length<(Qb b).2+(Qb b).1 then(Yb,3) else if(ZdG ((b.drop (Qb b).2).take (Qb b).1)).2=3 then(Yb,3) else match Zbe (b.drop ((Qb b).2+(Qb b).1)) with
  | none=>(Yb,3)
  | some t=>(⟨0,(ZdG ((b.drop (Qb b).2).take (Qb b).1)).1,t⟩,(ZdG ((b.drop (Qb b).2).take (Qb b).1)).2)):=ZZ rfl
 have hd:=Ju b
 have bf:(Qb b).1<4611686018427387904:=by
  rcases Xf b with h | h
  ·rw[h];decide
  ·exact h.1
 have aT:=ZZ (fun K l W h h2=>ZiT K l W h h2)
 have aN:=ZZ (fun K l W h h2=>Zmb K l W h h2)
 have aO:Hid ([(w.heap.size+1,0)].length=1):=ZZ rfl;rw[aO.o] at ak;generalize Zs 1 b=GL at *;have aK:=ZZ T;obtain⟨va,vc,hv⟩:∃ a c,v=.slice a b.length c:=by obtain⟨a,c,h,-⟩:=T;exact⟨a,c,h⟩
 subst hv;clear T hA hB hC au aO
 go_enter func117,ntmps117
 go_wp2_with fail
 rw[<-P];refine ak.o.mono ?_;rintro e m ⟨K,l,ns,rfl,aE,aC,ae,aF,aI,L⟩;have C:Hid (Below w.heap.size w m):=ZZ ((aG.o ns).trans (L.below _));have B:Hid (Bx m w.heap.size #[.int .i64 0,.slice none 0 0,.bool false,.int .i64 0]):=ZZ ((aB.o ns).below (L.below (Y7 d ([(w.heap.size+1,0)].take ns.length) ns).heap.size) zL);have a8:=ZZ aE;have Y:=ZZ (aE m (aK.o.below C.o zL));obtain⟨a1,c1,a4⟩:∃ a c,K=.slice a l.length c:=by obtain⟨a,c,h,-⟩:=Y.o;exact⟨a,c,h⟩
 subst a4;obtain⟨x,y0⟩:=B.o.cell 0;obtain⟨q,y1⟩:=B.o.cell 1;obtain⟨A,y2⟩:=B.o.cell 2;obtain⟨y,y3⟩:=B.o.cell 3;clear ak aG ao P aB
 cases GL with
 | none=>
  have N:Hid ((Yu b).2=3):=ZZ (by rw[z.o,if_pos (.inl (ad.o rfl))])
  clear aC ae aF aI L z ad an;go_wp2;refine bodyPost_ret (v:=.tuple #[.agg #[.int .i64 0,.slice none 0 0,.bool false,.int .i64 0],.slice none 0 0,.bool false]) (by simp[results,Tryz.results117,go_sem,x,q,A,y]) rfl ?_
  exact Ztc.none N.o (Zdl C.o _ zL _ _ _ _)
 | some gp=>
  have:=ae gp rfl;subst this;obtain⟨g1,g2,g3⟩:=an.o _ _ rfl;subst g2;have aA:l.length=b.length-(Qb b).2:=by rw[g3,length_drop]
  have al:m.cell? ⟨w.heap.size+1,0,none⟩=some (.int .i64 ((Qb b).1:Int)):=by
   rw[L.cell];exact ax.o _
  rw[<-drop_drop,<-g3] at z;generalize (Qb b).1=n at *;generalize (Qb b).2=k at *;clear aC ae aF aI L ad an g3 ax;by_cases aZ:l.length<n
  ·have N:Hid ((Yu b).2=3):=ZZ (by rw[z.o,if_pos (.inr (by omega))])
   have aX:(l.length:Int)<(n:Int):=by omega
   clear aA z;go_wp2;refine bodyPost_ret (v:=.tuple #[.agg #[.int .i64 0,.slice none 0 0,.bool false,.int .i64 0],.slice none 0 0,.bool false]) (by simp[results,Tryz.results117,go_sem,x,q,A,y]) rfl ?_
   exact Ztc.none N.o (Zdl C.o _ zL _ _ _ _)
  have aX:¬ (l.length:Int)<(n:Int):=by omega
  have ac:l.length<=c1:=by
   obtain⟨a',c',h,h2,-⟩:=Y.o;simp only [Value.slice.injEq] at h;omega
  obtain⟨xa,xn,xc,be,aQ⟩:=ZxB a1 l c1 ac n (by omega)
  obtain⟨ua,uc,bc,aw⟩:=Zha a1 l c1 ac n (by omega)
  have X:=ZZ (aT.o _ (l.take n) m (aQ m Y.o) (by rw[List.length_take];omega))
  have a5:=ZZ (fun W h=>aw W (a8.o W h))
  have a6:=ZZ (fun v2 W h=>aN.o v2 (l.drop n) W h (by rw[length_drop];omega))
  have Q:Hid (Yu b=if(ZdG (l.take n)).2=3 then(Yb,3) else match Zbe (l.drop n) with
   | none=>(Yb,3)
   | some t=>(⟨0,(ZdG (l.take n)).1,t⟩,(ZdG (l.take n)).2)):=ZZ (by rw[z.o,if_neg (by omega)])
  have ar:=ZZ (ZrB (l.take n));clear aQ aw z aT aN aA aZ ac hd g1;generalize ZdG (l.take n)=DS at *;generalize Zbe (l.drop n)=TL at *;generalize l.drop n=l2 at *;obtain⟨⟨M,j,E,G⟩,er⟩:=DS;unfold Zau at X
  dsimp only at X Q ar
  go_wp2_with fail
  refine X.o.mono ?_;rintro e i ⟨vl,rfl,ai,aM,av,aP,aa⟩;obtain⟨F,lc,aV⟩:∃ a c,vl=.slice a j.length c:=by obtain⟨a,c,h,-⟩:=ai;exact⟨a,c,h⟩
  subst aV;have bb:=C.o.size;have aj:=ZZ (C.o.trans (aa.mono C.o.size));have af:=ZZ (B.o.below aa zL);have aq:i.cell? ⟨w.heap.size+1,0,none⟩=some (.int .i64 (n:Int)):=(aa.cell (p:=⟨w.heap.size+1,0,none⟩) (World.block_lt_of_cell? m ⟨w.heap.size+1,0,none⟩ al)).trans al;have aL:=ZZ ai;have aS:=ZZ (And.intro aM av)
  have aJ:Hid (∀ k,(Value.slice F j.length lc).ownBlock=some k->w.heap.size<k):=ZZ (fun k f=>by
   have J:=aP k f;have h2:=B.o.lt
   omega)
  clear al ai aM av aP aa X x q A y y0 y1 y2 y3 B Y;obtain⟨D,U⟩:∃ D,D=i.alloc (.cells #[.int .i64 M,.slice F j.length lc,.bool E,.int .i64 G] 38):=⟨_,rfl⟩;have H:Hid (Below i.heap.size i D):=ZZ (by rw[U];exact(Below.refl _ _).alloc zL _)
  have ap:Hid (Bx D i.heap.size #[.int .i64 M,.slice F j.length lc,.bool E,.int .i64 G]):=ZZ (by rw[U];exact heap_alloc_new i _)
  have S:=ZZ (aj.o.trans (H.o.mono aj.o.size));have u:=ZZ (af.o.below H.o zL);have a0:D.cell? ⟨w.heap.size+1,0,none⟩=some (.int .i64 (n:Int)):=(H.o.cell (p:=⟨w.heap.size+1,0,none⟩) (World.block_lt_of_cell? i ⟨w.heap.size+1,0,none⟩ aq)).trans aq;have aH:=ZZ (aL.o.below H.o zL)
  go_upto_region 6 with fail
  rw[<-U];obtain⟨QB,aU⟩:∃ QB,QB=i.heap.size:=⟨_,rfl⟩;have ba:w.heap.size<QB:=by have:=af.o.lt;omega
  rw[<-aU] at ap ⊢;clear U aq aU aL af aj H;by_cases g:er=3
  ·have a9:(er == 3)=true:=beq_iff_eq.2 g
   have N:Hid ((Yu b).2=3):=ZZ (by rw[Q.o,if_pos g])
   obtain⟨x,y0⟩:=u.o.cell 0;obtain⟨q,y1⟩:=u.o.cell 1;obtain⟨A,y2⟩:=u.o.cell 2;obtain⟨y,y3⟩:=u.o.cell 3;clear g;go_wp2;refine bodyPost_ret (v:=.tuple #[.agg #[.int .i64 0,.slice none 0 0,.bool false,.int .i64 0],.slice none 0 0,.bool false]) (by simp[results,Tryz.results117,go_sem,x,q,A,y]) rfl ?_
   exact Ztc.none N.o (Zdl S.o _ zL _ _ _ _)
  have a9:(er == 3)=false:=beq_eq_false_iff_ne.2 g;have ag:=ZZ g;clear g
  go_wp2_with fail
  refine(a6.o _ _ (a5.o D (aK.o.below S.o zL))).mono ?_;rintro e W4 ⟨vt,t,rfl,V,aR,ay,I⟩;obtain⟨ta,tc,aW⟩:=V.shape;subst aW;have a2:=ZZ (S.o.trans (I.mono S.o.size));have ab:=ZZ (u.o.below I zL);have R:=ZZ (ap.o.below I zL);have aY:=ZZ (aH.o.below I zL);have a3:=ZZ (V.rd aR)
  have az:Hid (∀ k,(Value.slice ta t.length tc).ownBlock=some k->w.heap.size<k):=ZZ (fun k f=>by
   have J:=(World.ownsRow.lt V k f).1;have h2:=u.o.lt
   omega)
  have a7:=ZZ ay;clear V aR ay I a0 u ap aH;obtain⟨x,y0⟩:=ab.o.cell 0;obtain⟨q,y1⟩:=ab.o.cell 1;obtain⟨A,y2⟩:=ab.o.cell 2;obtain⟨y,y3⟩:=ab.o.cell 3;obtain⟨s0,-⟩:=R.o.cell 0;obtain⟨s1,-⟩:=R.o.cell 1;obtain⟨s2,-⟩:=R.o.cell 2;obtain⟨s3,-⟩:=R.o.cell 3;obtain⟨ok,am⟩:∃ ok,ok=TL.isSome:=⟨_,rfl⟩;rw[<-am];have Z:=ZZ am;clear am;go_wp2;refine bodyPost_ret (v:=.tuple #[.agg #[.int .i64 M,.slice F j.length lc,.bool E,.int .i64 G],.slice ta t.length tc,.bool ok]) (by simp[results,Tryz.results117,go_sem,x,q,A,y]) rfl ?_
  have aD:=ZxC W4 w.heap.size (.int .i64 M) (.slice F j.length lc) (.bool E) (.int .i64 G);refine⟨_,_,⟨M,j,E,G⟩,t,ok,rfl,aY.o.but aD (.inr fun k f=>by have:=aJ.o k f;omega),aS.o.1,aS.o.2,a3.o.but aD (.inr fun k f=>by have:=az.o k f;omega),(fun k f=>Nat.le_of_lt (aJ.o k f)),(fun k f=>Nat.le_of_lt (az.o k f)),(fun h=>?_),(fun h=>?_),Zdl a2.o _ zL _ _ _ _⟩
  ·rw[Q.o,if_neg ag.o]
   cases TL with
   | none=>rfl
   | some t'=>rw[h] at Z;cases Z.o
  ·cases TL with
   | none=>rw[h] at Z;cases Z.o
   | some t'=>
    refine⟨er,by rw[Q.o,if_neg ag.o,a7.o t' rfl],?_⟩
    rcases ar.o with J | ⟨J,h2 | h2⟩
    ·exact .inl J
    ·exact absurd h2 ag.o
    ·exact .inr ⟨h2,J⟩
def Bq (w:World) (b:Nat) (cs:Array Value):Prop:=w.heap[b]?=some (.cells cs 147 (0,0))
theorem Bq.lt (h:Bq w b cs):b<w.heap.size:=(Array.getElem?_eq_some_iff.1 h).1
theorem Bq.below (h:Bq w b cs) (a:Below B w w') (c:w.heap.size<=B):Bq w' b cs:=(a.block b (by have:=h.lt;omega)).trans h
theorem Bq.cell (h:Bq w b cs) (j:Nat):w.cell? ⟨b,j,none⟩=cs[j]?∧w.frozen? ⟨b,j,none⟩=false:=⟨cell_of_row w b j _ _ _ h,frozen_of_row w b j _ _ h⟩
theorem Bq.set (h:Bq w b cs) (j:Nat) (x:Value):Bq (w.setCell ⟨b,j,none⟩ x) b (cs.setIfInBounds j x):=by
 have:=heap_setCell_same w b j _ _ x h;unfold Bq;simpa using this
theorem Bq.other {c:Nat} (h:Bq w b cs) (j:Nat) (x:Value) (a:b≠c):Bq (w.setCell ⟨c,j,none⟩ x) b cs:=(Below.heap_setCell _ _ _ _ a).trans h
theorem ZxD (w:World) (x y z u:Obj):((((w.alloc x).alloc y).alloc z).alloc u).heap[w.heap.size]?=some x∧((((w.alloc x).alloc y).alloc z).alloc u).heap[w.heap.size+1]?=some y∧((((w.alloc x).alloc y).alloc z).alloc u).heap[w.heap.size+2]?=some z∧((((w.alloc x).alloc y).alloc z).alloc u).heap[w.heap.size+3]?=some u:=by
 obtain⟨a,b,c⟩:=ZiP w x y z;refine⟨(Below.heap_alloc _ _ _ (by simp;omega)).trans a,(Below.heap_alloc _ _ _ (by simp)).trans b,(Below.heap_alloc _ _ _ (by simp)).trans c,?_⟩
 have:=heap_alloc_new (((w.alloc x).alloc y).alloc z) u;simpa using this
theorem Ztd {d:List UInt8} (h:¬ (d.length<1∨(d.getD 0 0).toNat≠115)):Yx d=match Zs 3 (d.drop 1) with
 | none=>(0,0,0,3)
 | some (ns,l)=>if ns.getD 0 0≠3 then(0,0,0,6) else if l.length≠4 then(0,0,0,3) else(ns.getD 1 0,ns.getD 2 0,Lib.leNat l,0):=by
 unfold Yx;rw[if_neg h,Zs];by_cases a:(Qb (d.drop 1)).2=0
 ·rw[if_pos (.inl a),if_pos a]
 rw[if_neg a,Zs];simp only [drop_drop];by_cases c:(Qb (d.drop (1+(Qb (d.drop 1)).2))).2=0
 ·rw[if_pos (.inr (.inl c)),if_pos c]
  rfl
 rw[if_neg c,ZeS];simp only [drop_drop];by_cases b:(Qb (d.drop (1+(Qb (d.drop 1)).2+(Qb (d.drop (1+(Qb (d.drop 1)).2))).2))).2=0
 ·rw[if_pos (.inr (.inr b)),if_pos b]
  rfl
 ·rw[if_neg (by omega),if_neg b]
  simp only [Option.map_some,List.getD_cons_zero,List.getD_cons_succ]
theorem ZnU:∀ (n:Nat) (b:List UInt8) (ns:List Nat) (l:List UInt8),Zs n b=some (ns,l)->ns.length=n
 | 0,b,ns,l,h=>by
  injection h with h
  injection h with h _
  rw[<-h];rfl
 | n+1,b,ns,l,h=>by
  rw[Zs] at h;split at h
  ·cases h
  ·cases hg:Zs n (b.drop (Qb b).2) with
   | none=>rw[hg] at h;cases h
   | some r=>
    rw[hg] at h
    injection h with h
    injection h with h _
    obtain⟨a,m⟩:=r;rw[<-h,length_cons,ZnU n _ a m hg]
theorem ZvF {R Q:Nat} (e:R≠Q) (h:Bq W R #[.int .i64 0,.int .i64 0,.int .u32 0]) (f:W.heap[Q]?=some (.cells #[.int .i64 0] 3 (0,0))) (ns:List Nat) (g:ns.length<=3):
 ∃ u x y:Int,Bq (Y7 W ([(Q,0),(R,0),(R,1)].take ns.length) ns) R #[.int .i64 x,.int .i64 y,.int .u32 0]∧(Y7 W ([(Q,0),(R,0),(R,1)].take ns.length) ns).cell? ⟨Q,0,none⟩=some (.int .i64 u)∧(ns.length=3->u=((ns.getD 0 0:Nat):Int)∧x=((ns.getD 1 0:Nat):Int)∧y=((ns.getD 2 0:Nat):Int)):=by
 have d:W.cell? ⟨Q,0,none⟩=some (.int .i64 0):=cell_of_row W Q 0 _ _ _ f
 match ns,g with
 | [],_=>exact⟨0,0,0,h,d,fun h=>absurd h (by simp)⟩
 | [a],_=>exact⟨a,0,0,h.other 0 _ e,World.cell?_setCell_same _ _ _ d,fun h=>absurd h (by simp)⟩
 | [a,b],_=>
  refine⟨a,b,0,(h.other 0 _ e).set 0 _,?_,fun h=>absurd h (by simp)⟩
  show((W.setCell ⟨Q,0,none⟩ _).setCell ⟨R,0,none⟩ _).cell? ⟨Q,0,none⟩=_;rw[World.cell?_setCell_other _ _ _ _ (by simp)]
  exact World.cell?_setCell_same _ _ _ d
 | [a,b,c],_=>
  refine⟨a,b,c,((h.other 0 _ e).set 0 _).set 1 _,?_,fun _=>⟨rfl,rfl,rfl⟩⟩
  show(((W.setCell ⟨Q,0,none⟩ _).setCell ⟨R,0,none⟩ _).setCell ⟨R,1,none⟩ _).cell? ⟨Q,0,none⟩=_;rw[World.cell?_setCell_other _ _ _ _ (by simp),World.cell?_setCell_other _ _ _ _ (by simp)]
  exact World.cell?_setCell_same _ _ _ d
def ZzR (w:World) (r:Nat × Nat × Nat × Int) (e:Ending) (w':World):Prop:=
 e=.returned (.tuple #[.agg #[.int .i64 (r.1:Int),.int .i64 (r.2.1:Int),.int .u32 (r.2.2.1:Int)],.int .i64 r.2.2.2])∧Below w.heap.size w w'
theorem ZeT {b:World} (h:Below C b w) (R:Nat) (a:C<=R) (c e d:Value):Below C b (((w.setCell ⟨R,0,none⟩ c).setCell ⟨R,1,none⟩ e).setCell ⟨R,2,none⟩ d):=
 ((h.setCell a _).setCell a _).setCell a _
theorem ZgK (v:Value) (d:List UInt8) (w:World) (hr:Rd w v d):
 Calls prog 115 #[v] w fun e w'=>ZzR w (Yx d) e w':=by
 have HR:=ZZ hr;obtain⟨ao,cap,rfl,aF,ax,-,aq⟩:=hr;have aS:(d.length:Int)<=9223372036854775807:=by unfold maxLen at ax;omega
 have I:Hid (∀ X,Below w.heap.size w (w.alloc X)):=fun X=>(Below.refl _ _).alloc zL X
 by_cases u:d.length=0
 ·have g:Hid (Yx d=(0,0,0,3)):=ZZ (by unfold Yx;rw[if_pos (.inl (by omega))])
  have ay:((d.length:Int) == 0)=true:=by rw[beq_iff_eq];omega
  rw[g.o];clear u aq
  go_enter func115,ntmps115
  go_wp2;refine bodyPost_ret (v:=.tuple #[.agg #[.int .i64 0,.int .i64 0,.int .u32 0],.int .i64 3]) (by simp[results,Tryz.results115,go_sem]) rfl ?_
  exact⟨rfl,I.o _⟩
 have ay:((d.length:Int) == 0)=false:=beq_eq_false_iff_ne.2 (by omega)
 have aU:(0:Int)<(d.length:Int):=by omega
 have K:d≠[]:=fun e=>by rw[e] at u;simp at u
 rcases aq with he | ⟨b,A,rfl,hc⟩
 ·exact absurd he K
 have N:=hc 0 (by omega)
 have aO:b<w.heap.size:=World.block_lt_of_cell? w ⟨b,A+0,none⟩ N;have aP:∀ X,(w.alloc X).cell? ⟨b,A,none⟩=some (.int .u8 ((d.getD 0 0).toNat:Nat)):=fun X=>((I.o X).cell (p:=⟨b,A,none⟩) aO).trans N
 clear hc N ax;by_cases G:(d.getD 0 0).toNat=115
 case neg=>
  have g:Hid (Yx d=(0,0,0,3)):=ZZ (by unfold Yx;rw[if_pos (.inr G)])
  have aN:((((d.getD 0 0).toNat:Nat):Int) != 115)=true:=by
   rw[bne_iff_ne];omega
  rw[g.o];clear G K u;generalize (((d.getD 0 0).toNat:Nat):Int)=c0 at *
  go_enter func115,ntmps115
  go_wp2;refine bodyPost_ret (v:=.tuple #[.agg #[.int .i64 0,.int .i64 0,.int .u32 0],.int .i64 3]) (by simp[results,Tryz.results115,go_sem]) rfl ?_
  exact⟨rfl,I.o _⟩
 have aN:((((d.getD 0 0).toNat:Nat):Int) != 115)=false:=by
  rw[G];rfl
 have x:=ZZ (Ztd (d:=d) (by omega))
 generalize (((d.getD 0 0).toNat:Nat):Int)=c0 at *;obtain⟨xa,xc,hcut,V⟩:=Zha (some ⟨b,A,none⟩) d cap aF 1 (by omega)
 have aD:∀ W,(Instr.sliceAt 53 (.slice (some ⟨b,A,none⟩) d.length cap) (some (.int .i64 1)) none none).run prog W=.ok (.slice xa (d.drop 1).length xc) W:=hcut;have aj:=ZZ (fun W h=>V W h)
 obtain⟨f,B⟩:∃ f,f=(((w.alloc (.cells #[.int .i64 0,.int .i64 0,.int .u32 0] 147)).alloc (.cells #[.int .i64 0,.int .i64 0,.int .u32 0] 147)).alloc (.cells #[.int .i64 0] 3)).alloc (.cells #[.pointer (some ⟨w.heap.size+1+1,0,none⟩),.pointer (some ⟨w.heap.size+1,0,none⟩),.pointer (some ⟨w.heap.size+1,1,none⟩)] 208):=⟨_,rfl⟩;have h4:=ZxD w (.cells #[.int .i64 0,.int .i64 0,.int .u32 0] 147) (.cells #[.int .i64 0,.int .i64 0,.int .u32 0] 147) (.cells #[.int .i64 0] 3) (.cells #[.pointer (some ⟨w.heap.size+1+1,0,none⟩),.pointer (some ⟨w.heap.size+1,0,none⟩),.pointer (some ⟨w.heap.size+1,1,none⟩)] 208);rw[<-B] at h4;obtain⟨hA,hB,C,hC⟩:=h4;have U:Hid (Below w.heap.size w f):=ZZ (by rw[B];exact((((Below.refl _ _).alloc zL _).alloc (by simp) _).alloc (by simp;omega) _).alloc (by simp;omega) _)
 have ae:Bq f w.heap.size #[.int .i64 0,.int .i64 0,.int .u32 0]:=hA;have m:Bq f (w.heap.size+1) #[.int .i64 0,.int .i64 0,.int .u32 0]:=hB
 have T:=ZZ (Zat (w.heap.size+1+1+1) [(w.heap.size+1+1,0),(w.heap.size+1,0),(w.heap.size+1,1)] (.slice xa (d.drop 1).length xc) (d.drop 1) f (aj.o f (HR.o.below U.o zL)) (fun p n=>by
  simp only [mem_cons,List.not_mem_nil,or_false] at n;rcases n with rfl | rfl | rfl
  ·exact⟨⟨⟨0,cell_of_row f (w.heap.size+2) 0 _ _ _ C⟩,frozen_of_row f (w.heap.size+2) 0 _ _ C⟩,by simp⟩
  ·exact⟨⟨⟨0,(m.cell 0).1⟩,(m.cell 0).2⟩,by simp⟩
  ·exact⟨⟨⟨0,(m.cell 1).1⟩,(m.cell 1).2⟩,by simp⟩) (by simp) hC 3 rfl)
 have ai:=ZZ (fun ns h=>ZvF (Q:=w.heap.size+1+1) (by omega) m C ns h)
 have ap:Hid (∀ ns,Below w.heap.size w (Y7 f ([(w.heap.size+1+1,0),(w.heap.size+1,0),(w.heap.size+1,1)].take (List.length ns)) ns)):=ZZ (fun ns=>Zbi f _ ns _ w (fun p n=>by
  have:=mem_of_mem_take n;simp only [mem_cons,List.not_mem_nil,or_false] at this
  rcases this with rfl | rfl | rfl <;> (simp only;omega)) U.o)
 have ak:Hid (∀ ns,Bq (Y7 f ([(w.heap.size+1+1,0),(w.heap.size+1,0),(w.heap.size+1,1)].take (List.length ns)) ns) w.heap.size #[.int .i64 0,.int .i64 0,.int .u32 0]):=ZZ (fun ns=>(Zbh f _ ns _ (fun p n=>by
  have:=mem_of_mem_take n;simp only [mem_cons,List.not_mem_nil,or_false] at this
  rcases this with rfl | rfl | rfl <;> (simp only;omega))).trans ae)
 have aQ:=ZZ (fun S l W h=>Zne S l W h)
 have ad:=ZZ (fun ns l h=>ZnU 3 (d.drop 1) ns l h)
 have aw:Hid ([(w.heap.size+1+1,0),(w.heap.size+1,0),(w.heap.size+1,1)].length=3):=ZZ rfl;rw[aw.o] at T;generalize Zs 3 (d.drop 1)=GL at *;obtain⟨i,an⟩:∃ i,i=Yx d:=⟨_,rfl⟩;rw[<-an] at x ⊢;clear an hcut V hA hB C hC ae m G K u aw;generalize d.drop 1=D1 at *
 go_enter func115,ntmps115
 go_wp2_with fail
 rw[<-B];refine T.o.mono ?_;rintro e j ⟨S,l,ns,rfl,am,al,L,aC,ar,z⟩;obtain⟨uu,xx,yy,ag,af,Y⟩:=ai.o ns ar;have R:Hid (Bq j (w.heap.size+1) #[.int .i64 xx,.int .i64 yy,.int .u32 0]):=ZZ (ag.below (z.below (Y7 f ([(w.heap.size+1+1,0),(w.heap.size+1,0),(w.heap.size+1,1)].take ns.length) ns).heap.size) zL);have aa:Hid (Bq j w.heap.size #[.int .i64 0,.int .i64 0,.int .u32 0]):=ZZ ((ak.o ns).below (z.below (Y7 f ([(w.heap.size+1+1,0),(w.heap.size+1,0),(w.heap.size+1,1)].take ns.length) ns).heap.size) zL);have V:j.cell? ⟨w.heap.size+1+1,0,none⟩=some (.int .i64 uu):=by rw[z.cell];exact af
 have q:Hid (Below w.heap.size w j):=ZZ ((ap.o ns).trans (z.below _));have au:=ZZ (am j (aj.o j (HR.o.below q.o zL)));obtain⟨a1,c1,aK⟩:∃ a c,S=.slice a l.length c:=by obtain⟨a,c,h,-⟩:=au.o;exact⟨a,c,h⟩
 subst aK;obtain⟨F,y0⟩:=aa.o.cell 0;obtain⟨D,y1⟩:=aa.o.cell 1;obtain⟨H,y2⟩:=aa.o.cell 2;clear T ai ap ak B ag af z am aC ar U aP aD I
 cases GL with
 | none=>
  have g:Hid (i=(0,0,0,3)):=ZZ x.o;clear al L Y x ad;go_wp2;refine bodyPost_ret (v:=.tuple #[.agg #[.int .i64 0,.int .i64 0,.int .u32 0],.int .i64 3]) (by simp[results,Tryz.results115,go_sem,F,D,H]) rfl ?_
  rw[g.o];exact⟨rfl,ZeT q.o _ zL _ _ _⟩
 | some gp=>
  have:=L gp rfl;subst this;obtain⟨g1,g2,g3⟩:=Y (ad.o _ _ rfl);have k:Hid (i=if ns.getD 0 0≠3 then(0,0,0,6) else if l.length≠4 then(0,0,0,3) else(ns.getD 1 0,ns.getD 2 0,Lib.leNat l,0)):=ZZ x.o
  clear al L Y x ad;generalize ns.getD 0 0=Z at *;generalize ns.getD 1 0=n1 at *;generalize ns.getD 2 0=n2 at *;subst g1 g2 g3;by_cases E:Z=3
  case neg=>
   have g:Hid (i=(0,0,0,6)):=ZZ (by rw[k.o,if_pos E])
   have aI:((Z:Int) != 3)=true:=by rw[bne_iff_ne];omega
   clear E k;go_wp2;refine bodyPost_ret (v:=.tuple #[.agg #[.int .i64 0,.int .i64 0,.int .u32 0],.int .i64 6]) (by simp[results,Tryz.results115,go_sem,F,D,H]) rfl ?_
   rw[g.o];exact⟨rfl,ZeT q.o _ zL _ _ _⟩
  have aI:((Z:Int) != 3)=false:=by rw[bne_eq_false_iff_eq];omega
  by_cases y:l.length=4
  case neg=>
   have g:Hid (i=(0,0,0,3)):=ZZ (by rw[k.o,if_neg (by omega),if_pos y])
   have aA:((l.length:Int) != 4)=true:=by rw[bne_iff_ne];omega
   clear E k y;go_wp2;refine bodyPost_ret (v:=.tuple #[.agg #[.int .i64 0,.int .i64 0,.int .u32 0],.int .i64 3]) (by simp[results,Tryz.results115,go_sem,F,D,H]) rfl ?_
   rw[g.o];exact⟨rfl,ZeT q.o _ zL _ _ _⟩
  have aA:((l.length:Int) != 4)=false:=by rw[bne_eq_false_iff_eq];omega
  have g:Hid (i=(n1,n2,Lib.leNat l,0)):=ZZ (by rw[k.o,if_neg (by omega),if_neg (by omega)])
  have ac:=ZZ (aQ.o _ l j au.o);rw[List.take_of_length_le (by omega)] at ac
  have aL:Lib.leNat l<4294967296:=by
   have:=Zlv l;rw[y] at this;exact this
  have aH:Hid (l.length=4):=ZZ y;generalize Lib.leNat l=t at *;clear E k y;obtain⟨e0,f0⟩:=R.o.cell 0;obtain⟨e1,f1⟩:=R.o.cell 1;obtain⟨e2,f2⟩:=R.o.cell 2;have aR:¬ (w.heap.size=w.heap.size+1):=by omega
  have aT:¬ (w.heap.size+1=w.heap.size):=by omega
  have aE:IntKind.u32.wrap (t:Int)=(t:Int):=by
   rw[IntKind.wrap_u32];omega
  have az:(0:Int)<=(t:Int):=by omega
  have aG:(t:Int)<4294967296:=by omega
  obtain⟨O,M⟩:∃ O:Int,O=(t:Int):=⟨_,rfl⟩;obtain⟨P,J⟩:∃ P:Int,P=(n1:Int):=⟨_,rfl⟩;obtain⟨N2,ab⟩:∃ N2:Int,N2=(n2:Int):=⟨_,rfl⟩;rw[<-M] at ac aE az aG;rw[<-J] at e0;rw[<-ab] at e1;have aM:=ZZ M;have aJ:=ZZ J;have aB:=ZZ ab;clear M J ab aL;clear aH
  go_wp2_with fail
  refine ac.o.mono ?_;rintro e W2 ⟨rfl,av⟩;rw[av];clear av W2;go_wp2;refine bodyPost_ret (v:=.tuple #[.agg #[.int .i64 P,.int .i64 N2,.int .u32 O],.int .i64 0]) (by simp[results,Tryz.results115,go_sem,F,D,H]) rfl ?_
  rw[g.o];exact⟨by rw[aM.o,aJ.o,aB.o],ZeT (q.o.setCell (Nat.le_succ _) _) _ zL _ _ _⟩
theorem ZiU (g f:Value) (a b:List UInt8) (w:World) (c:Rd w g a) (d:Rd w f b):
 Calls prog 163 #[g,f] w fun e w'=>e=.returned (.bool (decide (a=b)))∧w'=w:=by
 have j:=c.str;have k:=d.str
 have i:((bs a).toList == (bs b).toList)=decide (a=b):=by
  rw[ZAn];by_cases h:a=b
  ·rw[h,decide_eq_true rfl];exact beq_self_eq_true b
  ·rw[decide_eq_false h,beq_eq_false_iff_ne];exact h
 generalize decide (a=b)=D at *;clear c d
 go_enter func163,ntmps163
 go_wp2;go_ret;exact⟨rfl,rfl⟩
theorem ZnV {A B:List (List UInt8)} (c:k<A.length) (b:k<B.length) (h:A.take k=B.take k) (a:A.getD k []=B.getD k []):A.take (k+1)=B.take (k+1):=by
 rw[List.take_add_one,List.take_add_one,h]
 congr 1
 simp only [List.getD,List.getElem?_eq_getElem c,List.getElem?_eq_getElem b,Option.getD_some] at a ⊢;rw[a]
theorem ZjV (O J:Value) (A B:List (List UInt8)) (w:World) (W:RdL w O A) (hb:RdL w J B):
 Calls prog 162 #[O,J,.func (.func 163) #[] #[]] w fun e w'=>e=.returned (.bool (decide (A=B)))∧w'=w:=by
 obtain⟨aa,ac,rfl,ae,R,-,M⟩:=W;obtain⟨ba,bc,rfl,-,-,-,L⟩:=hb;have G:=ZZ M;have K:=ZZ L;have T:=ZZ (fun x y a b h1 h2=>ZiU x y a b w h1 h2)
 obtain⟨D,m⟩:∃ D,D=decide (A=B):=⟨_,rfl⟩;rw[<-m];have I:Hid (A=B->D=true):=fun h=>by rw[m];exact decide_eq_true h
 have v:Hid (¬ A=B->D=false):=fun h=>by rw[m];exact decide_eq_false h
 have af:(A.length:Int)<=9223372036854775807:=by unfold maxLen at R;omega
 clear m M L R ae;by_cases j:A.length=B.length
 case neg=>
  have U:((A.length:Int) != (B.length:Int))=true:=by rw[bne_iff_ne];omega
  have HE:=ZZ (v.o (fun h=>j (by rw[h])))
  clear j
  go_enter func162,ntmps162
  go_wp2;go_ret;rw[HE.o];exact⟨rfl,rfl⟩
 have U:((A.length:Int) != (B.length:Int))=false:=by rw[bne_eq_false_iff_eq];omega
 have P:=ZZ j
 have F:Hid (A.take A.length=B.take A.length->D=true):=ZZ (fun h=>I.o (by
  rw[take_length,P.o,take_length] at h
  exact h))
 have S:Hid (∀ k,k<A.length->A.getD k []≠B.getD k []->D=false):=ZZ (fun k hk h=>v.o (fun hs=>h (by rw[hs])))
 clear j I v
 go_enter func162,ntmps162
 go_wp2
 go_loopw[17] (fun E wr=>∃ k:Nat,E=.int .i64 (k:Int)∧k<=A.length∧Hid (A.take k=B.take k)∧wr=w) (fun E _=>A.length-(intOf E).toNat)
 case atStart=>exact⟨0,rfl,Nat.zero_le _,rfl,rfl⟩
 case round=>
  obtain⟨k,rfl,hk,N,rfl⟩:=hrel;by_cases g:k<A.length
  case neg=>
   obtain rfl:k=A.length:=by omega
   have HT:=ZZ (F.o N.out);go_wp2;go_ret;rw[HT.o];exact⟨rfl,rfl⟩
  have l:k<B.length:=by have:=P.o;omega
  rcases G.o with n | ⟨c,ak,rfl,H⟩
  ·rw[n] at g;simp at g
  rcases K.o with n | ⟨c',ag,rfl,Q⟩
  ·rw[n] at l;simp at l
  obtain⟨x,hx,p⟩:=H k g;obtain⟨y,hy,C⟩:=Q k l;have ai:(k:Int)<(A.length:Int):=by omega
  have aj:(k:Int)<(B.length:Int):=by omega
  have t:=ZZ (S.o k g);have u:Hid (A.getD k []=B.getD k []->A.take (k+1)=B.take (k+1)):=ZZ (fun h=>ZnV g l N.out h)
  have i:=ZZ (T.o x y _ _ p C);obtain⟨xa,xc,ab⟩:∃ a c,x=.slice a (A.getD k []).length c:=by obtain⟨a,c,h,-⟩:=p;exact⟨a,c,h⟩
  obtain⟨ya,yc,V⟩:∃ a c,y=.slice a (B.getD k []).length c:=by obtain⟨a,c,h,-⟩:=C;exact⟨a,c,h⟩
  subst ab V;clear H Q p C F S G K T;generalize A.getD k []=X at *;generalize B.getD k []=Y at *;by_cases d:X=Y
  ·have Z:=ZZ (u.o d)
   have z:Hid (decide (X=Y)=true):=decide_eq_true d;rw[z.o] at i;clear t u d
   go_wp2_with fail
   refine i.o.mono ?_;rintro e q ⟨rfl,f⟩;rw[f];clear f q;go_wp2;go_roundw
   case rel=>exact⟨k+1,by go_num,by omega,Z,trivial⟩
   case measure=>simp[intOf];omega
  ·have ad:=ZZ (t.o d)
   have z:Hid (decide (X=Y)=false):=decide_eq_false d;rw[z.o] at i;clear t u d
   go_wp2_with fail
   refine i.o.mono ?_;rintro e q ⟨rfl,f⟩;rw[f];clear f q;go_wp2;go_ret;rw[ad.o];exact⟨rfl,rfl⟩
theorem ZpX (v:Value) (L:List (List UInt8)) (w:World) (E:RdL w v L) (Q:L.flatten.length<=1000000) (hn:L.length<=100000):
 Calls prog 131 #[v] w fun e w'=>∃ v',e=.returned v'∧Own w' w.heap.size v' L.flatten∧Below w.heap.size w w':=by
 have HG:=ZZ (fun n W h=>ZqV n W h)
 have ag:=ZZ E;have y:Hid (∀ k,ZlO L k<=1000000):=fun k=>Nat.le_trans (Zvi L k) Q
 have B:=ZZ (ZnB L);have aa:=ZZ (ZnA L);have C:=ZZ (ZqX L);have V:=ZZ (ZqW L);obtain⟨F,u⟩:∃ F,F=L.flatten:=⟨_,rfl⟩;rw[<-u];rw[<-u] at C;obtain⟨ao,cap,rfl,-,-,-,G⟩:=E;have R:=ZZ G;clear G u Q
 go_enter func131,ntmps131
 go_wp2
 go_loopw[3,11] (fun vs a wr=>∃ (k:Nat),vs=.int .i64 (ZlO L k:Int)∧a=.int .i64 (k:Int)∧k<=L.length∧wr=w) (fun _ a _=>L.length-(intOf a).toNat)
 case atStart=>exact⟨0,rfl,rfl,Nat.zero_le _,rfl⟩
 case round=>
  obtain⟨k,rfl,rfl,hk,O⟩:=hrel;have Y:=O.symm;subst Y;clear O;by_cases g:k<L.length
  ·rcases R.o with l | ⟨c,ad,rfl,b⟩
   ·rw[l] at g;simp at g
   obtain⟨x,hx,i⟩:=b k g;have H:=y.o (k+1);have q:=B.o k g;obtain⟨ax,cx,rfl,-⟩:=i;have h3:¬ ((ZlO L k:Int)+((L.getD k []).length:Int)<0):=by omega
   have h4:(ZlO L k:Int)+((L.getD k []).length:Int)<=1000000:=by omega
   have S:=ZZ q;clear b H q;generalize ZlO L k=A at *;generalize (L.getD k []).length=D at *;go_wp2;go_roundw
   case rel=>exact⟨k+1,by rw[S.o],by go_num,by omega,trivial⟩
   case measure=>simp[intOf];omega
  ·have ab:=ZZ (HG.o (ZlO L k) w (y.o k))
   generalize ZlO L k=A at *
   go_wp2_with fail
   refine ab.o.mono ?_;rintro e W1 ⟨v1,rfl,K,N⟩;have J:=ZZ K;have z:=ZZ N;clear K N hk g;go_wp2
   go_loopw[6,27] (fun X a I=>∃ (j:Nat),a=.int .i64 (j:Int)∧j<=L.length∧Hid (Own I w.heap.size X (Zvh L j))∧Hid (Below w.heap.size w I)) (fun _ a _=>L.length-(intOf a).toNat)
   case atStart=>exact⟨0,rfl,Nat.zero_le _,J,z⟩
   case round=>
    clear J z;obtain⟨j,rfl,hj,t,d⟩:=hrel;by_cases f:j<L.length
    ·rcases R.o with l | ⟨c,ad,rfl,b⟩
     ·rw[l] at f;simp at f
     obtain⟨x,m,i⟩:=b j f;have hx:=(d.o.cell (World.block_lt_of_cell? _ _ m)).trans m;have af:=ZZ (i.below d.o zL);obtain⟨ax,cx,rfl,-⟩:=i
     have ae:Hid ((Zvh L j).length+(L.getD j []).length<=70368744177664):=ZZ (by
      have H:=y.o (j+1);have q:=B.o j f;rw[V.o]
      omega)
     have T:=ZZ d.o.size;have U:=ZZ (aa.o j f);clear b m;generalize L.getD j []=D at *;generalize Zvh L j=P at *
     go_wp2_with(at_builtin;refine Xw _ rfl _ _ rfl w.heap.size _ P rfl t.o _ D rfl af.o ae.o T.o ?_)
     intro v3 W3 p M;rw[<-U.o] at p;have ac:=ZZ p;have Z:=ZZ (d.o.trans M);clear p M;go_wp2;go_roundw
     case rel=>exact⟨j+1,by go_num,by omega,ac,Z⟩
     case measure=>simp[intOf];omega
    ·have HE:=ZZ (C.o j (by omega))
     rw[HE.o] at t;go_wp2;go_ret;exact⟨_,rfl,t.o,d.o⟩
def Zme (P:List (List UInt8)) (n c:Nat):Int:=if P.flatten.length≠n then 16 else if ¬ Zfx P then 3 else if Q2 0 P.flatten≠c then 4 else 0
def Joined (w:World) (F:List UInt8) (er:Int) (e:Ending) (w':World):Prop:=
 ∃ v',e=.returned (.tuple #[v',.int .i64 er])∧Rd w' v' (if er=0 then F else[])∧Below w.heap.size w w'
theorem ZgH.rdl {xs:List Value} {L:List (List UInt8)} (h:ZgH v l xs L) (b:w'.ownsRow B 53 1 v' L.length xs) (c:Rd w' v l):RdL w' v' L:=by
 rcases b.2 with ⟨a,n⟩ | ⟨g,cap,cur,a,q,u,i,k,p,t⟩
 ·have e:L=[]:=List.eq_nil_of_length_eq_zero n
  subst e;rw[a];exact RdL.nil _
 ·refine⟨some ⟨g,0,none⟩,cap,a,i,k,(fun e=>by cases e),.inr ⟨g,0,rfl,fun j d=>?_⟩⟩
  obtain⟨x,m,-,f⟩:=h.2 j d;refine⟨x,?_,f w' c⟩;have:=World.ownsRow.cells b (g:=g) (by rw[a];rfl) j x m
  rw[Addr.add_lit] at this;exact this
theorem ZxE (i:Int) (n c:Nat) (u:Value) (P:List (List UInt8)) (w:World) (H:RdL w u P) (ap:P.flatten.length<=100000) (au:P.length<=100000):
 Calls prog 116 #[.agg #[.int .i64 i,.int .i64 (n:Int),.int .u32 (c:Int)],u] w fun e w'=>Joined w P.flatten (Zme P n c) e w':=by
 have z:Hid (Below w.heap.size w (w.alloc (.cells #[.int .i64 i,.int .i64 (n:Int),.int .u32 (c:Int)] 147))):=ZZ ((Below.refl _ _).alloc zL _);have M:Hid (Bq (w.alloc (.cells #[.int .i64 i,.int .i64 (n:Int),.int .u32 (c:Int)] 147)) w.heap.size #[.int .i64 i,.int .i64 (n:Int),.int .u32 (c:Int)]):=ZZ (heap_alloc_new w _);have T:=ZZ (fun W (h:Below w.heap.size w W)=>ZpX u P W (H.below h zL) (by omega) au)
 have L:=ZZ (fun y W h=>ZkB y P.flatten W h ap)
 have B:=ZZ (fun vb W O b=>ZjV u vb P (Ya P.flatten) W O b)
 have S:=ZZ (fun y W h=>ZlQ y P.flatten W h)
 have HP:=ZZ H;have af:decide (P=Ya P.flatten)=decide (Zfx P):=decide_eq_decide.2 (ZuF P).symm;rw[af] at B;have l:Hid (Zme P n c=if P.flatten.length≠n then 16 else if ¬ Zfx P then 3 else if Q2 0 P.flatten≠c then 4 else 0):=ZZ rfl
 obtain⟨pa,pc,aw⟩:∃ a c,u=.slice a P.length c:=by obtain⟨a,c,h,-⟩:=H;exact⟨a,c,h⟩
 subst aw;obtain⟨p,aq⟩:∃ p,p=Zme P n c:=⟨_,rfl⟩;rw[<-aq] at l ⊢;obtain⟨co,J⟩:∃ co,co=decide (Zfx P):=⟨_,rfl⟩;rw[<-J] at B;have ac:=ZZ J;clear aq H af J;obtain⟨d,ao⟩:∃ d,d=P.flatten:=⟨_,rfl⟩;rw[<-ao] at T L B S l ap ⊢;have az:Hid (Ya d=Ya d):=ZZ rfl;clear ao;generalize Ya d=PF at *;generalize Q2 0 d=Y at *;obtain⟨D,aa⟩:∃ D:Int,D=(n:Int):=⟨_,rfl⟩;obtain⟨f,K⟩:∃ f:Int,f=(c:Int):=⟨_,rfl⟩;obtain⟨g,Q⟩:∃ g:Int,g=(Y:Int):=⟨_,rfl⟩;rw[<-aa,<-K] at z M ⊢;rw[<-Q] at S;have aj:=ZZ aa;have am:=ZZ K;have ai:=ZZ Q;clear aa K Q
 go_enter func116,ntmps116
 go_wp2_with fail
 refine(T.o _ z.o).mono ?_;rintro e W1 ⟨y,rfl,V,Z⟩;have C:=ZZ (z.o.trans (Z.mono z.o.size));have ab:=ZZ (M.o.below Z zL);have R:=ZZ V.rd;obtain⟨a1,c1,av⟩:∃ a c,y=.slice a d.length c:=by obtain⟨a,c,h,-⟩:=V.rd;exact⟨a,c,h⟩
 subst av;obtain⟨p1,-⟩:=ab.o.cell 1;clear V Z T z M;by_cases E:d.length=n
 case neg=>
  have m:Hid (p=16):=ZZ (by rw[l.o,if_pos E])
  have ay:((d.length:Int) != D)=true:=by rw[bne_iff_ne,aj.o];omega
  clear E l;go_wp2;go_ret2;rw[m.o];exact⟨_,rfl,Rd.nil _,C.o⟩
 have ay:((d.length:Int) != D)=false:=by rw[bne_eq_false_iff_eq,aj.o];omega
 have HL:=ZZ E;clear E
 go_wp2_with fail
 refine(L.o _ _ R.o).mono ?_;rintro e t ⟨v2,xs,rfl,ae,ad,F⟩;have q:=ZZ (C.o.trans (F.mono C.o.size));have X:=ZZ (ab.o.below F zL);have G:=ZZ (R.o.below F zL);have ak:=ZZ (ad.rdl ae G.o);obtain⟨a2,c2,ax⟩:∃ a c,v2=.slice a PF.length c:=by obtain⟨a,c,h,-⟩:=ak.o;exact⟨a,c,h⟩
 subst ax;clear ae F ad p1 L ab R C
 go_wp2_with fail
 refine(B.o _ _ (HP.o.below q.o zL) ak.o).mono ?_;rintro e v ⟨rfl,al⟩;rw[al];clear al v B
 cases co with
 | false=>
  have m:Hid (p=3):=ZZ (by rw[l.o,if_neg (fun h=>h HL.o),if_pos (of_decide_eq_false ac.o.symm)])
  clear l;go_wp2;go_ret2;rw[m.o];exact⟨_,rfl,Rd.nil _,q.o⟩
 | true=>
  have m:Hid (p=if Y≠c then 4 else 0):=ZZ (by rw[l.o,if_neg (fun h=>h HL.o),if_neg (fun h=>h (of_decide_eq_true ac.o.symm))])
  have ag:=ZZ (S.o _ t.drew (G.o.below ((Below.refl _ _).drew) zL));obtain⟨q2,-⟩:=X.o.cell 2
  go_upto_region 6 with fail
  go_cut[21] (fun x wc=>x=.bool (decide (g≠f))∧Hid (Rd wc (.slice a1 d.length c1) d)∧Hid (Below w.heap.size w wc))
  case first=>
   by_cases j:g=f
   ·have O:(g != f)=false:=by rw[bne_eq_false_iff_eq];exact j
    have b:decide (g≠f)=false:=decide_eq_false (fun h=>h j)
    have I:=ZZ b;clear j b
    go_region_held(fun w'=>w'.cell? ⟨w.heap.size,2,none⟩=some (.int .u32 f)) (go_keep)
     (first
      | (go_at_call 136;refine ag.o.mono ?_;rintro e v ⟨rfl,A⟩;have k:Below t.heap.size t v:=((Below.refl _ _).drew).trans A;have N:=ZZ (q.o.trans (k.mono q.o.size));have U:=ZZ (G.o.below k zL);obtain⟨r2,-⟩:=(X.o.below k zL).cell 2;clear A k))
    all_goals
     go_wp2_with fail
     go_meet
     exact⟨by rw[I.o],U,N⟩
   ·have O:(g != f)=true:=by rw[bne_iff_ne];exact j
    have b:decide (g≠f)=true:=decide_eq_true j;have I:=ZZ b;clear j b
    go_region_held(fun w'=>w'.cell? ⟨w.heap.size,2,none⟩=some (.int .u32 f)) (go_keep)
     (first
      | (go_at_call 136;refine ag.o.mono ?_;rintro e v ⟨rfl,A⟩;have k:Below t.heap.size t v:=((Below.refl _ _).drew).trans A;have N:=ZZ (q.o.trans (k.mono q.o.size));have U:=ZZ (G.o.below k zL);obtain⟨r2,-⟩:=(X.o.below k zL).cell 2;clear A k))
    all_goals
     go_wp2_with fail
     go_meet
     exact⟨by rw[I.o],U,N⟩
  case rest=>
   obtain⟨WC,rfl⟩:∃ W,W=wc:=⟨_,rfl⟩;obtain⟨rfl,ar,an⟩:=hcut;by_cases j:Y=c
   ·have HF:Hid (p=0):=ZZ (by rw[m.o,if_neg (by omega)])
    have b:decide (g≠f)=false:=decide_eq_false (by have:=am.o;have:=ai.o;omega)
    rw[b];clear b j l m;go_wp2;go_ret2;rw[HF.o];exact⟨_,rfl,ar.o,an.o⟩
   ·have HF:Hid (p=4):=ZZ (by rw[m.o,if_pos j])
    have b:decide (g≠f)=true:=decide_eq_true (by have:=am.o;have:=ai.o;omega)
    rw[b];clear b j l m;go_wp2;go_ret2;rw[HF.o];exact⟨_,rfl,Rd.nil _,an.o⟩
theorem ZxF (b a:Nat) (L:List (List UInt8)) (cap:Nat) (C:L.length<=cap) (l:1<=L.length):
 ∃ i m,(∀ W,(Instr.sliceAt 144 (.slice (some ⟨b,a,none⟩) L.length cap) (some (.int .i64 1)) none none).run prog W=.ok (.slice i (L.length-1) m) W)∧∀ W,RdL W (.slice (some ⟨b,a,none⟩) L.length cap) L->RdL W (.slice i (L.length-1) m) (L.drop 1):=by
 by_cases k:cap=1
 ·refine⟨some ⟨b,a,none⟩,cap-1,fun W=>?_,fun W h=>?_⟩
  ·have g:L.length=1:=by omega
   simp[go_sem,g,k]
  ·have g:L.drop 1=[]:=List.drop_eq_nil_of_le (by omega)
   obtain⟨v,t,c,w,u,p,f⟩:=h;simp only [Value.slice.injEq] at c;obtain⟨rfl,-,rfl⟩:=c;exact⟨_,_,by rw[length_drop],by rw[length_drop];omega,by omega,(fun e=>by cases e),.inl g⟩
 ·refine⟨some ⟨b,a+1,none⟩,cap-1,fun W=>?_,fun W h=>?_⟩
  ·have q:(1:Int)<=(L.length:Int):=by omega
   simp[go_sem,k,q]
  ·obtain⟨v,t,c,w,u,p,f⟩:=h
   simp only [Value.slice.injEq] at c;obtain⟨rfl,-,rfl⟩:=c;refine⟨_,_,by rw[length_drop],by rw[length_drop];omega,by omega,(fun e=>by cases e),?_⟩
   rcases f with f | ⟨b',B,d,z⟩
   ·rw[f] at l
    simp at l
   ·injection d with d
    injection d with d k7 _
    subst d k7;refine .inr ⟨b,a+1,rfl,fun j n=>?_⟩
    rw[length_drop] at n;obtain⟨x,A,y⟩:=z (j+1) (by omega)
    refine⟨x,by rw[show a+1+j=a+(j+1) by omega];exact A,?_⟩
    have e:(L.drop 1).getD j []=L.getD (j+1) []:=by simp[List.getD]
    rw[e];exact y
theorem Zte:Zge []=(Yb,16):=rfl
theorem ZpY (d:List UInt8) (P:List (List UInt8)):Zge (d::P)=if(Yx d).2.2.2≠0 then(Yb,(Yx d).2.2.2) else if Zme P (Yx d).2.1 (Yx d).2.2.1≠0 then(Yb,Zme P (Yx d).2.1 (Yx d).2.2.1)
 else if(Yu P.flatten).2≠0 then(Yb,(Yu P.flatten).2) else if Z6 ⟨((Yx d).1:Nat),(Yu P.flatten).1.st,(Yu P.flatten).1.tab⟩ then(⟨((Yx d).1:Nat),(Yu P.flatten).1.st,(Yu P.flatten).1.tab⟩,0) else(Yb,1):=by
 unfold Zme;rw[Zge];by_cases e:(Yx d).2.2.2≠0
 ·rw[if_pos e,if_pos e]
 rw[if_neg e,if_neg e];by_cases a:P.flatten.length≠(Yx d).2.1
 ·rw[if_pos a,if_pos a,if_pos (by decide)]
 rw[if_neg a,if_neg a];by_cases c:¬ Zfx P
 ·rw[if_pos c,if_pos c,if_pos (by decide)]
 rw[if_neg c,if_neg c];by_cases b:Q2 0 P.flatten≠(Yx d).2.2.1
 ·rw[if_pos b,if_pos b,if_pos (by decide)]
 rw[if_neg b,if_neg b,if_neg (show ¬ ((0:Int)≠0) by decide)]
theorem ZeU:∀ L:List (List UInt8),L.flatten.length+L.length<=(Qf L).length
 | []=>by simp[Qf]
 | x::t=>by
  have a:=ZeU t;have:=Q9 x;rw[Q8,length_append,flatten_cons,length_append,length_cons];omega
theorem ZpZ (v:Value) (b:List UInt8) (w:World) (hr:Rd w v b) (bQ:b.length<=100000):
 Calls prog 76 #[v] w fun e w'=>Zch w (ZmE b) e w':=by
 obtain⟨W0,Z⟩:∃ W0,W0=w.alloc (.cells #[.int .i64 0,.int .i64 0,.slice none 0 0,.bool false,.int .i64 0,.slice none 0 0] 41):=⟨_,rfl⟩;have M:Hid (Below w.heap.size w W0):=ZZ (by rw[Z];exact(Below.refl _ _).alloc zL _)
 have ap:Hid (Bn W0 w.heap.size #[.int .i64 0,.int .i64 0,.slice none 0 0,.bool false,.int .i64 0,.slice none 0 0]):=ZZ (by rw[Z];exact heap_alloc_new w _)
 have G:=ZZ (ZyX v b W0 (hr.below M.o zL) (by omega))
 obtain⟨va,vc,hv⟩:∃ a c,v=.slice a b.length c:=by obtain⟨a,c,h,-⟩:=hr;exact⟨a,c,h⟩
 subst hv;obtain⟨l,ag⟩:∃ l,l=ZmE b:=⟨_,rfl⟩;rw[<-ag];by_cases Y:(Qp b).2.2=0
 case neg=>
  have F:Hid (l=(Yb,(((Qp b).2.2:Nat):Int))):=ZZ (by rw[ag];unfold ZmE;rw[if_pos Y])
  have ha:Zyl b=([],(Qp b).2.2):=by unfold Zyl;rw[if_neg Y]
  rw[ha] at G
  dsimp only at G
  generalize (Qp b).2.2=er at *;have aE:((er:Int) != 0)=true:=by rw[bne_iff_ne];omega
  obtain⟨E,hE⟩:∃ E:Int,E=(er:Int):=⟨_,rfl⟩;rw[<-hE] at G F aE;clear ha ag Y hE hr
  go_enter func76,ntmps76
  go_wp2_with fail
  rw[<-Z];refine G.o.mono ?_;rintro e W1 ⟨V,rfl,U,B⟩;have g:=ZZ (ap.o.below B zL);have I:=ZZ (M.o.trans (B.mono M.o.size));obtain⟨x,y0⟩:=g.o.cell 0;obtain⟨u,y1⟩:=g.o.cell 1;obtain⟨z,y2⟩:=g.o.cell 2;obtain⟨y,y3⟩:=g.o.cell 3;obtain⟨q,y4⟩:=g.o.cell 4;obtain⟨p,y5⟩:=g.o.cell 5;clear B U;go_wp2;refine bodyPost_ret (v:=.tuple #[.agg #[.int .i64 0,.int .i64 0,.slice none 0 0,.bool false,.int .i64 0,.slice none 0 0],.int .i64 E]) (by simp[results,Tryz.results76,go_sem,x,u,z,y,q,p]) rfl ?_
  rw[F.o];exact Zch.zero _ (Zbf I.o _ zL _ _ _ _ _ _)
 have F:Hid (l=Zge (Qp b).1):=ZZ (by rw[ag];unfold ZmE;rw[if_neg (fun h=>h Y)])
 have ha:Zyl b=((Qp b).1,0):=by unfold Zyl;rw[if_pos Y]
 have au:=ZeU (Qp b).1;rw[(Zfv b.length b zL Y).1] at au;rw[ha] at G
 dsimp only at G
 generalize (Qp b).1=LS at *;clear ha ag Y hr
 cases LS with
 | nil=>
  rw[Zte] at F
  go_enter func76,ntmps76
  go_wp2_with fail
  rw[<-Z];refine G.o.mono ?_;rintro e W1 ⟨V,rfl,U,B⟩;obtain⟨a1,c1,aV⟩:∃ a c,V=.slice a 0 c:=by obtain⟨a,c,h,-⟩:=U;exact⟨a,c,h⟩
  subst aV;have g:=ZZ (ap.o.below B zL);have I:=ZZ (M.o.trans (B.mono M.o.size));obtain⟨x,y0⟩:=g.o.cell 0;obtain⟨u,y1⟩:=g.o.cell 1;obtain⟨z,y2⟩:=g.o.cell 2;obtain⟨y,y3⟩:=g.o.cell 3;obtain⟨q,y4⟩:=g.o.cell 4;obtain⟨p,y5⟩:=g.o.cell 5;clear B U;go_wp2;refine bodyPost_ret (v:=.tuple #[.agg #[.int .i64 0,.int .i64 0,.slice none 0 0,.bool false,.int .i64 0,.slice none 0 0],.int .i64 16]) (by simp[results,Tryz.results76,go_sem,x,u,z,y,q,p]) rfl ?_
  rw[F.o];exact Zch.zero _ (Zbf I.o _ zL _ _ _ _ _ _)
 | cons d P=>
  rw[ZpY] at F;have aX:P.flatten.length<=100000:=by rw[flatten_cons,length_append,length_cons] at au;omega
  have bL:P.length<=100000:=by rw[flatten_cons,length_append,length_cons] at au;omega
  have aR:Hid ((d::P).length=P.length+1):=ZZ rfl;have al:=ZZ (fun V W h=>ZgK V d W h)
  have a0:=ZZ (fun i n c vp W h=>ZxE i n c vp P W h aX bL)
  have bj:=ZZ (fun V W h=>Zmd V P.flatten W h aX)
  have aO:Hid (I64 ((Yx d).1:Nat)):=ZZ (by
   have:(Yx d).1<4611686018427387904:=by
    unfold Yx;split
    ·decide
    dsimp only
    split
    ·decide
    split
    ·decide
    split
    ·decide
    rcases Xf (d.drop (1+(Qb (d.drop 1)).2)) with h | h
    ·rw[h];exact(by decide:(0:Nat)<4611686018427387904)
    ·exact h.1
   exact⟨by omega,by omega⟩)
  unfold ZzR at al
  have aG:Hid (∀ (W:World) (n:Int),Below w.heap.size w W->l=(Yb,n)->Zch w l (.returned (.tuple #[.agg #[.int .i64 0,.int .i64 0,.slice none 0 0,.bool false,.int .i64 0,.slice none 0 0],.int .i64 n])) ((((((W.setCell ⟨w.heap.size,0,none⟩ (.int .i64 0)).setCell ⟨w.heap.size,1,none⟩ (.int .i64 0)).setCell ⟨w.heap.size,2,none⟩ (.slice none 0 0)).setCell ⟨w.heap.size,3,none⟩ (.bool false)).setCell ⟨w.heap.size,4,none⟩ (.int .i64 0)).setCell ⟨w.heap.size,5,none⟩ (.slice none 0 0))):=ZZ (fun W n h e=>by
   rw[e]
   exact Zch.zero _ (Zbf h _ zL _ _ _ _ _ _))
  clear au;generalize Yx d=RM at *;obtain⟨f,O,K,me⟩:=RM
  dsimp only at F al aO
  have bg:=ZZ (fun rb ro c h=>ZxF rb ro (d::P) c h (by simp))
  have bO:(P.length:Int)<=100000:=by omega
  go_enter func76,ntmps76
  go_wp2_with fail
  rw[<-Z];refine G.o.mono ?_;rintro e W1 ⟨V,rfl,U,B⟩;have g:=ZZ (ap.o.below B zL);have I:=ZZ (M.o.trans (B.mono M.o.size));have aU:=ZZ U;obtain⟨a1,c1,aV,a8,-,-,bJ⟩:=U;subst aV;rcases bJ with h0 | ⟨rb,ro,rfl,hc⟩
  ·cases h0
  obtain⟨x0,aZ,a7⟩:=hc 0 (by simp)
  have bG:W1.cell? ⟨rb,ro,none⟩=some x0:=aZ;have aI:Rd W1 x0 d:=a7;have bt:=ZZ aI;obtain⟨xa,xc,bF⟩:∃ a c,x0=.slice a d.length c:=by obtain⟨a,c,h,-⟩:=aI;exact⟨a,c,h⟩
  subst bF;obtain⟨ra,rc,br,bk⟩:=bg.o rb ro c1 a8;rw[aR.o,Nat.add_sub_cancel] at br;have aM:=ZZ (fun W h=>bk W h)
  rw[aR.o,Nat.add_sub_cancel,List.drop_one,List.tail_cons] at aM;rw[aR.o] at aU ⊢;have bP:((P.length:Int)+1 == 0)=false:=beq_eq_false_iff_ne.2 (by omega)
  have bN:(0:Int)<(P.length:Int)+1:=by omega
  clear B hc aZ a7 bk G a8 bg aI Z ap M
  go_wp2_with fail
  refine(al.o _ _ bt.o).mono ?_;rintro e W2 ⟨rfl,ai⟩;obtain⟨j,aw⟩:∃ j,j=W2.alloc (.cells #[.int .i64 (f:Int),.int .i64 (O:Int),.int .u32 (K:Int)] 147):=⟨_,rfl⟩;have az:Hid (Below W2.heap.size W2 j):=ZZ (by rw[aw];exact(Below.refl _ _).alloc zL _)
  have aB:Hid (Bq j W2.heap.size #[.int .i64 (f:Int),.int .i64 (O:Int),.int .u32 (K:Int)]):=ZZ (by rw[aw];exact heap_alloc_new W2 _)
  have R:=ZZ ((g.o.below ai zL).below az.o zL);have aq:=ZZ ((I.o.trans (ai.mono I.o.size)).trans (az.o.mono (Nat.le_trans I.o.size ai.size)));have bq:=ZZ ((aU.o.below ai zL).below az.o zL)
  go_upto_region 7 with fail
  rw[<-aw];obtain⟨J,bl⟩:∃ J,J=W2.heap.size:=⟨_,rfl⟩;rw[<-bl] at aB ⊢;clear aw bl ai bG g I aU al bt az;by_cases ab:me=0
  case neg=>
   have bB:(me != 0)=true:=by rw[bne_iff_ne];exact ab
   have Q:Hid (l=(Yb,me)):=ZZ (by rw[F.o,if_pos ab])
   obtain⟨x,y0⟩:=R.o.cell 0;obtain⟨u,y1⟩:=R.o.cell 1;obtain⟨z,y2⟩:=R.o.cell 2;obtain⟨y,y3⟩:=R.o.cell 3;obtain⟨q,y4⟩:=R.o.cell 4;obtain⟨p,y5⟩:=R.o.cell 5;clear ab;go_wp2;refine bodyPost_ret (v:=.tuple #[.agg #[.int .i64 0,.int .i64 0,.slice none 0 0,.bool false,.int .i64 0,.slice none 0 0],.int .i64 me]) (by simp[results,Tryz.results76,go_sem,x,u,z,y,q,p]) rfl ?_
   exact aG.o _ _ aq.o Q.o
  have bB:(me != 0)=false:=by rw[bne_eq_false_iff_eq];exact ab
  have ar:Hid (l=if Zme P O K≠0 then(Yb,Zme P O K) else if(Yu P.flatten).2≠0 then(Yb,(Yu P.flatten).2) else if Z6 ⟨(f:Nat),(Yu P.flatten).1.st,(Yu P.flatten).1.tab⟩ then(⟨(f:Nat),(Yu P.flatten).1.st,(Yu P.flatten).1.tab⟩,0) else(Yb,1)):=ZZ (by rw[F.o,if_neg (fun h=>h ab)])
  have af:=ZZ (fun W h=>a0.o (f:Int) O K (.slice ra P.length rc) W h)
  obtain⟨H,a2⟩:∃ H,H=Zme P O K:=⟨_,rfl⟩;rw[<-a2] at ar af;unfold Joined at af;clear ab a2 F a0;generalize P.flatten=FL at *;obtain⟨m,aQ⟩:∃ m,m=if H=0 then FL else[]:=⟨_,rfl⟩
  rw[<-aQ] at af;have bM:=ZZ aQ;clear aQ
  have aH:Hid (∀ W,Below j.heap.size j W->W.cell? ⟨J,0,none⟩=some (.int .i64 (f:Int))∧W.cell? ⟨J,1,none⟩=some (.int .i64 (O:Int))∧W.cell? ⟨J,2,none⟩=some (.int .u32 (K:Int))):=ZZ (fun W h=>by
   have hx:=aB.o.below h zL
   exact⟨(hx.cell 0).1,(hx.cell 1).1,(hx.cell 2).1⟩)
  have ay:Hid (Below j.heap.size j j.drew):=ZZ ((Below.refl _ _).drew)
  go_upto_region 9 with fail
  go_cut[5,7] (fun x5 x7 wc=>∃ a c,x5=.int .i64 H∧x7=.slice a m.length c∧Hid (Rd wc (.slice a m.length c) m)∧Hid (Below j.heap.size j wc))
  case first=>
   go_region_held(fun w'=>w'.cell? ⟨J,0,none⟩=some (.int .i64 (f:Int))∧w'.cell? ⟨J,1,none⟩=some (.int .i64 (O:Int))∧w'.cell? ⟨J,2,none⟩=some (.int .u32 (K:Int))) (first | (with_reducible exact aH.o _ ay.o) | (with_reducible exact aH.o _ aY))
    (first
     | (go_at_call 116;refine(af.o j.drew (aM.o _ (bq.o.below ay.o zL))).mono ?_;rintro e W4 ⟨v4,rfl,aT,be⟩;have aY:Below j.heap.size j W4:=ay.o.trans be;have am:=ZZ aT;obtain⟨a4,c4,bE⟩:∃ a c,v4=.slice a m.length c:=(by obtain⟨a,c,h,-⟩:=aT;exact⟨a,c,h⟩);subst bE;clear aT be))
   all_goals
    go_wp2_with fail
    go_meet
    exact⟨a4,c4,rfl,rfl,am,ZZ aY⟩
  case rest=>
   obtain⟨WC,rfl⟩:∃ W,W=wc:=⟨_,rfl⟩;obtain⟨a4,c4,rfl,rfl,am,aC⟩:=hcut;have D:=ZZ (R.o.below aC.o zL);have a6:=ZZ (aB.o.below aC.o zL);have aD:=ZZ (aq.o.trans (aC.o.mono aq.o.size));clear R aB aq bq aC aH ay af aM br;by_cases T:H=0
   case neg=>
    have bK:(H != 0)=true:=by rw[bne_iff_ne];exact T
    have Q:Hid (l=(Yb,H)):=ZZ (by rw[ar.o,if_pos T])
    obtain⟨x,y0⟩:=D.o.cell 0;obtain⟨u,y1⟩:=D.o.cell 1;obtain⟨z,y2⟩:=D.o.cell 2;obtain⟨y,y3⟩:=D.o.cell 3;obtain⟨q,y4⟩:=D.o.cell 4;obtain⟨p,y5⟩:=D.o.cell 5;clear T;go_wp2;refine bodyPost_ret (v:=.tuple #[.agg #[.int .i64 0,.int .i64 0,.slice none 0 0,.bool false,.int .i64 0,.slice none 0 0],.int .i64 H]) (by simp[results,Tryz.results76,go_sem,x,u,z,y,q,p]) rfl ?_
    exact aG.o _ _ aD.o Q.o
   have bK:(H != 0)=false:=by rw[bne_eq_false_iff_eq];exact T
   have bI:m=FL:=by rw[bM.o,if_pos T]
   subst bI;have ad:Hid (l=if(Yu m).2≠0 then(Yb,(Yu m).2) else if Z6 ⟨(f:Nat),(Yu m).1.st,(Yu m).1.tab⟩ then(⟨(f:Nat),(Yu m).1.st,(Yu m).1.tab⟩,0) else(Yb,1)):=ZZ (by rw[ar.o,if_neg (fun h=>h T)])
   have bv:=ZZ (bj.o _ _ am.o);clear T ar bj
   go_wp2_with fail
   refine bv.o.mono ?_;rintro e W5 ⟨vl,vt,S,t,ok,rfl,aK,bw,bm,aJ,bx,bb,bp,bf,an⟩;obtain⟨la,lc,bH⟩:∃ a c,vl=.slice a S.L.length c:=by obtain⟨a,c,h,-⟩:=aK;exact⟨a,c,h⟩
   obtain⟨ta,tc,bA⟩:=aJ.shape;subst bH bA;obtain⟨A,ao⟩:∃ A,A=W5.alloc (.cells #[.int .i64 S.kind,.slice la S.L.length lc,.bool S.shut,.int .i64 S.eng] 38):=⟨_,rfl⟩;have aa:Hid (Below W5.heap.size W5 A):=ZZ (by rw[ao];exact(Below.refl _ _).alloc zL _)
   have ak:Hid (Bx A W5.heap.size #[.int .i64 S.kind,.slice la S.L.length lc,.bool S.shut,.int .i64 S.eng]):=ZZ (by rw[ao];exact heap_alloc_new W5 _)
   have N:=ZZ ((D.o.below an zL).below aa.o zL);have bz:=ZZ ((a6.o.below an zL).below aa.o zL);have aP:=ZZ (aD.o.trans (an.mono aD.o.size));have aN:=ZZ (aP.o.trans (aa.o.mono aP.o.size));have bo:=ZZ (aK.below aa.o zL);have a9:=ZZ (aJ.below aa.o zL);have aF:=ZZ (And.intro bw bm);have ax:Hid ((∀ k,(Value.slice la S.L.length lc).ownBlock=some k->w.heap.size<k)∧(∀ k,(Value.slice ta t.length tc).ownBlock=some k->w.heap.size<k)):=ZZ ⟨fun k C=>by have h1:=bx k C;have h2:=D.o.lt;omega,fun k C=>by have h1:=bb k C;have h2:=D.o.lt;omega⟩
   have bu:=ZZ bp;have a5:=ZZ bf
   go_upto_region 13 with fail
   rw[<-ao];obtain⟨QS,ba⟩:∃ QS,QS=W5.heap.size:=⟨_,rfl⟩;rw[<-ba] at ak ⊢;clear ao ba aK bw bm aJ bx bb bp bf an D a6 aD bv am aa aP
   cases ok with
   | false=>
    have h3:=bu.o rfl;have Q:Hid (l=(Yb,3)):=ZZ (by rw[ad.o,if_pos (by rw[h3];decide),h3])
    obtain⟨x,y0⟩:=N.o.cell 0;obtain⟨u,y1⟩:=N.o.cell 1;obtain⟨z,y2⟩:=N.o.cell 2;obtain⟨y,y3⟩:=N.o.cell 3;obtain⟨q,y4⟩:=N.o.cell 4;obtain⟨p,y5⟩:=N.o.cell 5;clear h3;go_wp2;refine bodyPost_ret (v:=.tuple #[.agg #[.int .i64 0,.int .i64 0,.slice none 0 0,.bool false,.int .i64 0,.slice none 0 0],.int .i64 3]) (by simp[results,Tryz.results76,go_sem,x,u,z,y,q,p]) rfl ?_
    exact aG.o _ _ aN.o Q.o
   | true=>
    obtain⟨er,a3,aE⟩:=a5.o rfl;rw[a3] at ad
    dsimp only at ad
    have Q:Hid (l=if Z6 ⟨(f:Nat),S,t⟩ then(⟨(f:Nat),S,t⟩,0) else(Yb,1)):=ZZ (by
     rcases aE with h | ⟨h,h2⟩
     ·rw[ad.o,if_neg (fun h'=>h' h)]
     ·rw[ad.o,if_pos (by rw[h];decide),h,h2,if_neg (ZuH _ _)])
    have aL:=ZZ (fun W (h:Below A.heap.size A W)=>ZqY (.agg #[.int .i64 ((f:Nat):Int),.int .i64 S.kind,.slice la S.L.length lc,.bool S.shut,.int .i64 S.eng,.slice ta t.length tc]) ⟨(f:Nat),S,t⟩ W ⟨_,_,rfl,bo.o.below h zL,aF.o.1,aF.o.2,a9.o.below h zL,aO.o⟩)
    obtain⟨m0,-⟩:=bz.o.cell 0;obtain⟨s0,-⟩:=ak.o.cell 0;obtain⟨s1,-⟩:=ak.o.cell 1;obtain⟨s2,-⟩:=ak.o.cell 2;obtain⟨s3,-⟩:=ak.o.cell 3;have aj:Hid (∀ X,Below A.heap.size A (A.alloc X)):=ZZ (fun X=>(Below.refl _ _).alloc zL X)
    have bd:Hid (∀ cs,Bn (A.alloc (.cells cs 41)) A.heap.size cs):=ZZ (fun cs=>heap_alloc_new A _)
    obtain⟨my,aW⟩:∃ my,my=decide (Z6 ⟨((f:Nat):Int),S,t⟩):=⟨_,rfl⟩;rw[<-aW] at aL;have bn:=ZZ aW;clear a3 aE a5 bu ad aW
    go_wp2_with fail
    refine(aL.o _ (aj.o _)).mono ?_;rintro e W8 ⟨rfl,av⟩;have ac:=ZZ ((N.o.below (aj.o _) zL).below av zL);have ae:=ZZ ((bd.o _).below av zL);have aA:=ZZ ((aj.o _).trans (av.mono (aj.o _).size));have bi:=ZZ (aN.o.trans (aA.o.mono aN.o.size));have bD:=ZZ (bo.o.below aA.o zL);have bC:=ZZ (a9.o.below aA.o zL);obtain⟨x,y0⟩:=ac.o.cell 0;obtain⟨u,y1⟩:=ac.o.cell 1;obtain⟨z,y2⟩:=ac.o.cell 2;obtain⟨y,y3⟩:=ac.o.cell 3;obtain⟨q,y4⟩:=ac.o.cell 4;obtain⟨p,y5⟩:=ac.o.cell 5;clear av aL m0 s0 s1 s2 s3 N aj bd aA
    cases my with
    | false=>
     have aS:Hid (l=(Yb,1)):=ZZ (by rw[Q.o,if_neg (of_decide_eq_false bn.o.symm)])
     go_wp2;refine bodyPost_ret (v:=.tuple #[.agg #[.int .i64 0,.int .i64 0,.slice none 0 0,.bool false,.int .i64 0,.slice none 0 0],.int .i64 1]) (by simp[results,Tryz.results76,go_sem,x,u,z,y,q,p]) rfl ?_
     exact aG.o _ _ bi.o aS.o
    | true=>
     have aS:Hid (l=(⟨((f:Nat):Int),S,t⟩,0)):=ZZ (by rw[Q.o,if_pos (of_decide_eq_true bn.o.symm)])
     obtain⟨q0,-⟩:=ae.o.cell 0;obtain⟨q1,-⟩:=ae.o.cell 1;obtain⟨q2,-⟩:=ae.o.cell 2;obtain⟨q3,-⟩:=ae.o.cell 3;obtain⟨q4,-⟩:=ae.o.cell 4;obtain⟨q5,-⟩:=ae.o.cell 5;go_wp2;refine bodyPost_ret (v:=.tuple #[.agg #[.int .i64 (f:Int),.int .i64 S.kind,.slice la S.L.length lc,.bool S.shut,.int .i64 S.eng,.slice ta t.length tc],.int .i64 0]) (by simp[results,Tryz.results76,go_sem,x,u,z,y,q,p]) rfl ?_
     rw[aS.o];have bc:=ZqQ W8 w.heap.size (.int .i64 (f:Int)) (.int .i64 S.kind) (.slice la S.L.length lc) (.bool S.shut) (.int .i64 S.eng) (.slice ta t.length tc);exact⟨_,_,rfl,bD.o.but bc (.inr fun k C=>by have:=ax.o.1 k C;omega),aF.o.1,aF.o.2,bC.o.but bc (.inr fun k C=>by have:=ax.o.2 k C;omega),aO.o,(fun k C=>Nat.le_of_lt (ax.o.1 k C)),(fun k C=>Nat.le_of_lt (ax.o.2 k C)),ZeF bi.o _ zL _ _ _ _ _ _⟩
def Jy (m:List UInt8):Rec × Int × List UInt8 × Bool:=
 let m1:=behind (Qb m).2 m
 let m2:=behind (Qe m1).2 m1
 let m3:=behind (Xc m2).2 m2
 (⟨0,(Qb m).1,0,(Xc m2).1,zag (Qe m3).1⟩,zag (Qe m1).1,behind (Qe m3).2 m3,decide ((Qe m3).2≠0))
theorem ZeV (m:List UInt8):∃ b c a,b=behind (Qb m).2 m∧c=behind (Qe b).2 b∧a=behind (Xc c).2 c∧Jy m=(⟨0,(Qb m).1,0,(Xc c).1,zag (Qe a).1⟩,zag (Qe b).1,behind (Qe a).2 a,decide ((Qe a).2≠0)):=
 ⟨_,_,_,rfl,rfl,rfl,rfl⟩
theorem ZnW:(Xc []).2=0:=by
 have:=ZqE [];simpa using this
theorem Zcn {d:Nat} (h:behind d l≠[]):d≠0:=fun e=>h (by rw[e];rfl)
theorem ZkK (h:(Qe l).2≠0):l≠[]:=fun e=>h (by rw[e,Zbj])
theorem Ztf (h:(Qb l).2≠0):l≠[]:=fun e=>h (by rw[e,ZcS])
theorem Ztg (h:(Xc l).2≠0):l≠[]:=fun e=>h (by rw[e];exact ZnW)
theorem ZiV (h:(Qb l).2≠0):l=Lib.uvarint (Qb l).1++behind (Qb l).2 l:=by
 rw[Yv h,Z2 h,List.take_append_drop]
theorem ZnX (h:(Qe l).2≠0):l=Lib.uvarint (Qe l).1++behind (Qe l).2 l:=by
 rw[Yv h,Zkf h,List.take_append_drop]
theorem ZvG (h:(Xc l).2≠0):l=X6 (Xc l).1++behind (Xc l).2 l:=by
 rw[Yv h,(Zhv h).2,List.take_append_drop]
theorem ZvH {m:List UInt8} (h:(Jy m).2.2.2=false):(Jy m).2.2.1=[]:=by
 unfold Jy at h ⊢;simp only [decide_eq_false_iff_not,Decidable.not_not] at h ⊢;rw[h];rfl
theorem take_nil:(Jy []).2.2.2=false:=by
 obtain⟨a,d,k,e,g,i,b⟩:=ZeV [];have j:a=[]:=by rw[e,ZcS];rfl
 have f:d=[]:=by rw[g,j,Zbj];rfl
 have c:k=[]:=by rw[i,f,ZnW];rfl
 rw[b,c];show decide ((Qe []).2≠0)=false;rw[Zbj];rfl
theorem Zth {m:List UInt8} (h:(Jy m).2.2.2=true):
 m=Lib.uvarint (Jy m).1.proc.toNat++(Lib.uvarint (Lib.zigzag (Jy m).2.1)++(X6 (Jy m).1.op++(Lib.uvarint (Lib.zigzag (Jy m).1.resp)++(Jy m).2.2.1))):=by
 obtain⟨a,b,c,g,j,k,p⟩:=ZeV m;rw[p] at h ⊢;simp only [decide_eq_true_eq] at h;have e:(Xc b).2≠0:=Zcn (l:=b) (by rw[<-k];exact ZkK h)
 have d:(Qe a).2≠0:=Zcn (l:=a) (by rw[<-j];exact Ztg e)
 have t:(Qb m).2≠0:=Zcn (l:=m) (by rw[<-g];exact ZkK d)
 have q:=ZnX h;have f:=ZvG e;have i:=ZnX d;have n:=ZiV t;rw[<-g] at n;rw[<-j] at i;rw[<-k] at f;show m=Lib.uvarint ((Qb m).1:Int).toNat++(Lib.uvarint (Lib.zigzag (zag (Qe a).1))++(X6 (Xc b).1++(Lib.uvarint (Lib.zigzag (zag (Qe c).1))++behind (Qe c).2 c)));rw[Int.toNat_natCast,ZbI,ZbI];exact n.trans (congrArg (Lib.uvarint (Qb m).1++·) (i.trans (congrArg (Lib.uvarint (Qe a).1++·) (f.trans (congrArg (X6 (Xc b).1++·) q)))))
theorem ZvI (m:List UInt8):I64 (Jy m).1.proc∧I64 (Jy m).2.1∧Zyw (Jy m).1.op∧I64 (Jy m).1.resp∧(Jy m).1.idx=0∧(Jy m).1.seq=0∧0<=(Jy m).1.proc:=by
 have d:∀ l:List UInt8,I64 (zag (Qe l).1):=fun l=>ZoL (Zle l)
 have w:(Qb m).1<4611686018427387904:=by
  rcases Xf m with e | e
  ·rw[e];decide
  ·exact e.1
 have j:∀ l:List UInt8,Zyw (Xc l).1:=fun l=>by
  by_cases h:(Xc l).2=0
  ·rw[Zrz h]
   exact⟨⟨by decide,by decide⟩,⟨by decide,by decide⟩,⟨by decide,by decide⟩⟩
  ·have b:=(Zhv h).1
   have a:=ZaM b;obtain⟨v,u,_⟩:=b;refine⟨?_,a.1,a.2⟩;generalize (Xc l).1.code=c at *;exact⟨by omega,by omega⟩
 obtain⟨n,g,f,x,q,t,k⟩:=ZeV m;have p:I64 ((Qb m).1:Int):=⟨by omega,by omega⟩
 have i:(0:Int)<=((Qb m).1:Int):=by omega
 rw[k];exact⟨p,d n,j g,d f,rfl,rfl,i⟩
theorem Zzd (m:List UInt8):(Jy m).2.2.1.length<=m.length:=by
 obtain⟨a,d,f,i,j,k,g⟩:=ZeV m;rw[g];have b:=Je (Qb m).2 m;have e:=Je (Qe a).2 a;have c:=Je (Xc d).2 d;have l:=Je (Qe f).2 f;rw[<-i] at b;rw[<-j] at e;rw[<-k] at c;exact Nat.le_trans l (Nat.le_trans c (Nat.le_trans e b))
theorem ZxG {a:List Rec} (g:∀ r ∈ a,Qz r) {r:Rec} (b:Qz r) (t:List UInt8):
 Jy (Zf a r++t)=(⟨0,r.proc,0,r.op,r.resp⟩,r.seq-Q7 a r.proc,t,true):=by
 have c:=Zeu g b;have d:=ZaX b;obtain⟨i,_,_,n,q,p,u,_⟩:=id b
 have E:Zf a r++t=Lib.uvarint r.proc.toNat++(Lib.uvarint (Lib.zigzag (r.seq-Q7 a r.proc))++(X6 r.op++(Lib.uvarint (Lib.zigzag r.resp)++t))):=by
  unfold Zf;simp only [append_assoc]
 rw[E]
 have f:(X6 r.op).length≠0:=by
  unfold X6;have:=J2 r.op.code.toNat;rw[length_append];omega
 have k:=Q4 r.proc.toNat (Lib.uvarint (Lib.zigzag (r.seq-Q7 a r.proc))++(X6 r.op++(Lib.uvarint (Lib.zigzag r.resp)++t))) (by omega)
 have e:=Y8 (Lib.zigzag (r.seq-Q7 a r.proc)) (X6 r.op++(Lib.uvarint (Lib.zigzag r.resp)++t)) (Zbd c);have j:=Zmy r.op i (Lib.uvarint (Lib.zigzag r.resp)++t);have l:=Y8 (Lib.zigzag r.resp) t (Zbd d);unfold Jy;simp only [k,Yv (J2 _),List.drop_left,e,j,Yv f,l,Gw _ c.1 c.2,Gw _ d.1 d.2];have m:((r.proc.toNat:Nat):Int)=r.proc:=by omega
 rw[m,decide_eq_true (J2 _)]
theorem Zco {ao:Option Addr} {cap:Nat} (e:Rd w (.slice ao l.length cap) l) (d:Nat) (i:d<=l.length):
 ∃ b c,(∀ W,(Instr.sliceAt 53 (.slice ao l.length cap) (some (.int .i64 (d:Int))) none none).run prog W=.ok (.slice b (l.drop d).length c) W)∧Rd w (.slice b (l.drop d).length c) (l.drop d):=by
 obtain⟨m,k,f,j,r⟩:=id e;simp only [Value.slice.injEq] at f;obtain⟨rfl,_,rfl⟩:=f;have a:=e.mid d l.length cap i zL j zL;rw[List.take_of_length_le (by simp)] at a
 obtain⟨b,c,g,-⟩:=id a;rw[g] at a;refine⟨b,c,fun W=>?_,a⟩
 rw[run_sliceAt_slice W 53 _ _ _ _ Xu,run_slice_l W 53 ao l.length cap Xu .i64 (d:Int) (by omega) (by omega),Jo,Zce]
 show Result.ok (sliced ao ((d:Int)).toNat l.length cap 1) W=_;rw[Int.toNat_natCast,g]
def ZjB (w:World) (g:Nat) (L:List Rec):Prop:=w.heap[g]?=some (.cells (Qt L).toArray 62 (0,0))
theorem ZjB.lt (h:ZjB w g L):g<w.heap.size:=(Array.getElem?_eq_some_iff.1 h).1
theorem ZjB.below (h:ZjB w g L) (a:Below B w w') (b:w.heap.size<=B):ZjB w' g L:=(a.block g (by have:=h.lt;omega)).trans h
theorem ZjB.cell (h:ZjB w g L) (i:Nat):w.cell? ⟨g,i,none⟩=(Qt L)[i]?∧w.frozen? ⟨g,i,none⟩=false:=
 ⟨(cell_of_row w g i _ _ _ h).trans (by simp),frozen_of_row w g i _ _ h⟩
theorem ZjB.at (h:ZjB w g L) {k:Nat} (c:k<L.length):ZjI w g (k*7) (L.getD k Qi):=by
 have a:∀ j u,j<7->(Ja (L.getD k Qi))[j]?=some u->w.cell? ⟨g,k*7+j,none⟩=some u:=fun j u b d=>(h.cell _).1.trans ((Zbv L k j c b).trans d)
 exact⟨a 0 _ (by decide) rfl,a 1 _ (by decide) rfl,a 2 _ (by decide) rfl,a 3 _ (by decide) rfl,a 4 _ (by decide) rfl,a 5 _ (by decide) rfl,a 6 _ (by decide) rfl⟩
theorem Zgu:∀ (L:List Rec) (k j:Nat) (v:Value) (r:Rec),k<L.length->j<7->(Ja r).toList=(Ja (L.getD k Qi)).toList.set j v->(Qt L).set (k*7+j) v=Qt (L.set k r)
 | s::t,0,j,v,r,_,hj,h=>by
  have e:((s::t).getD 0 Qi)=s:=rfl;rw[e] at h;rw[Qt,Nat.zero_mul,Nat.zero_add,List.set_append_left _ _ (by simp[Ja];omega),<-h]
  rfl
 | s::t,k+1,j,v,r,hk,hj,h=>by
  have e:(k+1)*7+j=(Ja s).toList.length+(k*7+j):=by simp[Ja];omega
  have a:((s::t).getD (k+1) Qi)=t.getD k Qi:=by simp[List.getD]
  rw[a] at h;rw[Qt,e,List.set_append_right _ _ (by omega),Nat.add_sub_cancel_left,Zgu t k j v r (by simpa using hk) hj h]
  rfl
theorem ZjB.set (h:ZjB w g L) {k:Nat} (c:k<L.length) (j:Nat) (b:j<7) (v:Value) (r:Rec) (a:(Ja r).toList=(Ja (L.getD k Qi)).toList.set j v):
 ZjB (w.setCell ⟨g,k*7+j,none⟩ v) g (L.set k r):=by
 have:=heap_setCell_same w g (k*7+j) _ _ v h;unfold ZjB;rw[<-Zgu L k j v r c b a];simpa using this
theorem Zav (a:k<L.length) (r:Rec):(L.set k r).getD k Qi=r:=by simp[List.getD,a]
theorem ZjB.seven (h:ZjB w g L) {k:Nat} (d:k<L.length) (i p s c a b y:Int):
 ZjB (((((((w.setCell ⟨g,k*7,none⟩ (.int .i64 i)).setCell ⟨g,k*7+1,none⟩ (.int .i64 p)).setCell ⟨g,k*7+2,none⟩ (.int .i64 s)).setCell ⟨g,k*7+3,none⟩ (.int .i64 c)).setCell ⟨g,k*7+4,none⟩ (.int .i64 a)).setCell ⟨g,k*7+5,none⟩ (.int .i64 b)).setCell ⟨g,k*7+6,none⟩ (.int .i64 y)) g (L.set k ⟨i,p,s,⟨c,a,b⟩,y⟩):=by
 have f:∀ r,k<(L.set k r).length:=fun r=>by simpa using d
 generalize C:L.getD k Qi=R;obtain⟨D,B,q,⟨m,l,j⟩,e⟩:=R;have A:=h.set d 0 (by decide) (.int .i64 i) ⟨i,B,q,⟨m,l,j⟩,e⟩ (by rw[C];rfl)
 have x:=A.set (f _) 1 (by decide) (.int .i64 p) ⟨i,p,q,⟨m,l,j⟩,e⟩ (by rw[Zav d];rfl)
 rw[List.set_set] at x;have u:=x.set (f _) 2 (by decide) (.int .i64 s) ⟨i,p,s,⟨m,l,j⟩,e⟩ (by rw[Zav d];rfl)
 rw[List.set_set] at u;have t:=u.set (f _) 3 (by decide) (.int .i64 c) ⟨i,p,s,⟨c,l,j⟩,e⟩ (by rw[Zav d];rfl)
 rw[List.set_set] at t;have n:=t.set (f _) 4 (by decide) (.int .i64 a) ⟨i,p,s,⟨c,a,j⟩,e⟩ (by rw[Zav d];rfl)
 rw[List.set_set] at n;have z:=n.set (f _) 5 (by decide) (.int .i64 b) ⟨i,p,s,⟨c,a,b⟩,e⟩ (by rw[Zav d];rfl)
 rw[List.set_set] at z;have v:=z.set (f _) 6 (by decide) (.int .i64 y) ⟨i,p,s,⟨c,a,b⟩,y⟩ (by rw[Zav d];rfl)
 rw[List.set_set] at v;exact v
theorem ZjB.rd (h:ZjB w g L) (b:∀ r ∈ L,Zcx r) (c:L.length<=maxLen):RdR w (.slice (some ⟨g,0,none⟩) L.length L.length) L:=
 ⟨_,_,rfl,Nat.le_refl _,c,(fun e=>by cases e),b,.inr ⟨g,0,rfl,fun j a=>by rw[Nat.zero_add];exact h.at a⟩⟩
theorem ZeW:∀ n:Nat,Qt (List.replicate n Qi)=List.replicate (n*7) (Value.int .i64 0)
 | 0=>rfl
 | n+1=>by
  have e:(n+1)*7=7+n*7:=by omega
  rw[List.replicate_succ,Qt,ZeW n,e,<-List.replicate_append_replicate];rfl
theorem Zmf (w:World) (n:Nat) (l:n<=1000000):(Instr.makeSlice 29 (.int .i64 (n:Int)) (.int .i64 (n:Int))).run prog w=.ok (.slice (some ⟨w.heap.size,0,none⟩) n n) (w.alloc (.cells (Qt (List.replicate n Qi)).toArray 62)):=by
 obtain⟨k,a,f,g,c⟩:=info_parts Zdg;have h:=run_make (P:=prog) w 29 62 k _ underlying29 a f .i64 .i64 (n:Int) (n:Int) (by omega) (Int.le_refl _) (by rw[c];omega) (by omega)
 rw[Int.toNat_natCast,g] at h;rw[h]
 congr 3
 apply Array.ext';rw[ZeW];apply List.ext_getElem?;intro i;show(madeCells #[Value.int .i64 0,.int .i64 0,.int .i64 0,.int .i64 0,.int .i64 0,.int .i64 0,.int .i64 0] (n*7)).toList[i]?=_;by_cases a:i<n*7
 ·have d:i % 7<7:=Nat.mod_lt _ (by decide)
  have e:∀ j,j<7->(#[Value.int .i64 0,.int .i64 0,.int .i64 0,.int .i64 0,.int .i64 0,.int .i64 0,.int .i64 0]:Array Value)[j]! = .int .i64 0:=by
   intro j b
   match j,b with
   | 0,_ | 1,_ | 2,_ | 3,_ | 4,_ | 5,_ | 6,_=>rfl
  simp only [madeCells,Array.toList_map,Array.toList_range,List.getElem?_map,List.getElem?_range a,Option.map_some,List.getElem?_replicate,if_pos a];exact congrArg some (e (i % 7) d)
 ·simp[madeCells,a]
structure Zqa (b:List UInt8) (first count:Nat) (L:List Rec) (m:List UInt8) (t:Bool):Prop where
 chain:Xl first L
 ok:∀ r ∈ L,Zcx r
 sound:t=true->(∀ r ∈ L,Qz r)->b=Lib.uvarint first++(Lib.uvarint count++(Yg [] L++m))
 none:t=false->m=[]
 whole:∀ l',Yc l'->X9 l'=b->l'.length=count∧L=l'.take L.length∧m=Yg (l'.take L.length) (l'.drop L.length)∧t=true∧(l'.headD Qi).idx=first
def ZcU (first:Nat) (L:List Rec) (r:Rec) (d:Int):Rec:=⟨(first:Int)+L.length,r.proc,IntKind.i64.wrap (Q7 L r.proc+d),r.op,r.resp⟩
theorem ZiW (n:Int):I64 (IntKind.i64.wrap n):=by
 unfold I64;rw[IntKind.wrap_i64];omega
theorem ZvJ {a d:Int} (f:0<=a) (e:a<4611686018427387904) (b:I64 d) (j:0<=IntKind.i64.wrap (a+d)) (g:IntKind.i64.wrap (a+d)<4611686018427387904):IntKind.i64.wrap (a+d)-a=d:=by
 obtain⟨c,i⟩:=b;rw[IntKind.wrap_i64] at *;omega
theorem Zqa.step {b:List UInt8} {i:Nat} (h:Zqa b first i L m t) (hf:first<4611686018427387904) (ac:L.length<i) (hc:i<=256)
 {R:Rec} {d:Int} {m':List UInt8} {p:Bool} (n:Jy m=(R,d,m',p)):
 Zqa b first i (L++[ZcU first L R d]) m' p:=by
 have q:=ZvI m;have y:=@ZvH m;have u:=@Zth m
 have E:m=[]->p=false:=fun e=>by
  have:=take_nil;rw[<-e,n] at this;exact this
 rw[n] at q y u;obtain⟨hp,T,J,X,-,-,ab⟩:=q;refine⟨?_,?_,?_,y,?_⟩
 ·exact(ZfR L first (ZcU first L R d)).2 ⟨h.chain,rfl⟩
 ·intro r hr
  rcases List.mem_append.1 hr with hr | hr
  ·exact h.ok r hr
  ·simp only [List.mem_singleton] at hr
   rw[hr];have j:I64 ((first:Int)+L.length):=⟨by omega,by omega⟩
   exact⟨j,hp,ZiW _,J,X⟩
 ·intro c x
  have l:m≠[]:=fun e=>by
   rw[E e] at c
   cases c
  have W:t=true:=by
   cases t with
   | true=>rfl
   | false=>exact absurd (h.none rfl) l
  have z:∀ r ∈ L,Qz r:=fun r hr=>x r (by simp[hr])
  have hn:Qz (ZcU first L R d):=x _ (by simp)
  have F:=h.sound W z;have C:=u c;obtain⟨A,O⟩:=Zkh R.proc z;obtain⟨_,_,_,S,M,_⟩:=hn;have Q:(ZcU first L R d).seq-Q7 L (ZcU first L R d).proc=d:=ZvJ A O T S M
  have N:Yg [] (L++[ZcU first L R d])=Yg [] L++Zf L (ZcU first L R d):=by
   rw[ZhI];simp[Yg]
  have V:Zf L (ZcU first L R d)++m'=m:=by
   unfold Zf;rw[Q];refine Eq.trans ?_ C.symm;simp only [append_assoc];rfl
  rw[N,append_assoc,V];exact F
 ·intro a g D
  obtain⟨B,k,w3,w4,v⟩:=h.whole a g D;have f:L.length<a.length:=by omega
  have w:Qz (a.getD L.length Qi):=g.2.2.1 _ (by simp[List.getD,f])
  have I:∀ r ∈ L,Qz r:=fun r hr=>by
   rw[k] at hr;exact g.2.2.1 r (mem_of_mem_take hr)
  have G:a.drop L.length=a.getD L.length Qi::a.drop (L.length+1):=by
   rw[List.drop_eq_getElem_cons f];simp[List.getD,f]
  have l:m=Zf L (a.getD L.length Qi)++Yg (L++[a.getD L.length Qi]) (a.drop (L.length+1)):=by
   rw[w3,G,Yg,<-k]
  have c:=ZxG I w (Yg (L++[a.getD L.length Qi]) (a.drop (L.length+1)));rw[<-l,n] at c;have j:=ZnI a _ _ g.2.2.2 f;rw[v] at j;have Z:(L++[ZcU first L R d]).length=L.length+1:=by simp
  rw[Z,ZfQ f];rw[<-k];generalize a.getD L.length Qi=r at *;simp only [Prod.mk.injEq] at c;obtain⟨Y,aa,K,U⟩:=c
  have H:ZcU first L R d=r:=by
   obtain⟨_,_,_,q0,q1,_⟩:=w;unfold ZcU;rw[Y,aa];have P:Q7 L r.proc+(r.seq-Q7 L r.proc)=r.seq:=by omega
   show(⟨_,r.proc,IntKind.i64.wrap (Q7 L r.proc+(r.seq-Q7 L r.proc)),r.op,r.resp⟩:Rec)=_;rw[P,ZoP ⟨by omega,by omega⟩,<-j]
  rw[H];exact⟨B,rfl,K,U,v⟩
theorem Zqa.done {b:List UInt8} (h:Zqa b first L.length L m t):
 (t=true∧m=[]∧Yc L->X9 L=b)∧(¬ (t=true∧m=[]∧Yc L)->∀ a,Yc a->X9 a≠b):=by
 constructor
 ·rintro⟨ht,hm,hf⟩
  have g:=h.sound ht hf.2.2.1;rw[hm,List.append_nil] at g;rw[g];unfold X9;have c:=h.chain;have l:=hf.1
  match L,l,c with
  | r::u,_,c=>
   have e:r.idx=(first:Int):=c.1;show Lib.uvarint r.idx.toNat++_=_;rw[e,Int.toNat_natCast]
 ·intro p a f j
  obtain⟨d,i,n,k,q⟩:=h.whole a f j;rw[<-d,take_length] at i;refine p ⟨k,?_,by rw[i];exact f⟩
  rw[n,<-d,List.drop_length];rfl
theorem ZdW (x:Int) (d:Nat) (v:Value) (m:List UInt8) (w:World) (c:Rd w v m) (p:d<=m.length)
 (b:Calls prog 168 #[v] w fun e w'=>e=.returned (.tuple #[.int .i64 x,.int .i64 (d:Nat)])∧w'=w):
 Calls prog 167 #[v,.func (.func 168) #[] #[]] w fun e w'=>∃ v',e=.returned (.tuple #[.int .i64 x,v',.bool (decide (d≠0))])∧Rd w' v' (behind d m)∧Below w.heap.size w w':=by
 have g:=ZZ b;have n:=ZZ c;obtain⟨ao,cap,rfl,-⟩:=c;by_cases a:d=0
 ·subst a
  clear b
  go_enter func167,ntmps167
  go_wp2_with fail
  refine g.o.mono ?_;rintro e w' ⟨rfl,rfl⟩;go_wp2;refine bodyPost_ret (v:=.tuple #[.int .i64 x,.slice none 0 0,.bool false]) (by simp[results,Tryz.results167,go_sem]) rfl ?_
  exact⟨_,rfl,Rd.nil _,Below.refl _ _⟩
 ·have t:((d:Int) == 0)=false:=beq_eq_false_iff_ne.2 (by omega)
  have i:Hid (behind d m=m.drop d):=if_neg a;have l:Hid (decide (d≠0)=true):=decide_eq_true a;obtain⟨j,q,hcut,f⟩:=Zco n.o d p;have k:=ZZ f;clear b a f;generalize m.drop d=M at *
  go_enter func167,ntmps167
  go_wp2_with fail
  refine g.o.mono ?_;rintro e w' ⟨rfl,rfl⟩;go_wp2;refine wp_region_quiet_lit (by kernel_rfl) (by kernel_rfl) ?_
  repeat (go_big_quiet_step (fail))
  refine wpQuiet_nil ?_;rintro _ ⟨nq,rfl⟩;go_wp2;refine bodyPost_ret (v:=.tuple #[.int .i64 x,.slice j M.length q,.bool true]) (by simp[results,Tryz.results167,go_sem]) rfl ?_
  refine⟨_,by rw[l.o],?_,Xo (Below.refl _ _) _⟩
  rw[i.o];exact k.o.below (Xo (Below.refl _ _) _) zL
theorem Zdy (x:Int) (d:Nat) (v:Value) (m:List UInt8) (w:World) (c:Rd w v m) (p:d<=m.length)
 (b:Calls prog 201 #[v] w fun e w'=>e=.returned (.tuple #[.int .i64 x,.int .i64 (d:Nat)])∧w'=w):
 Calls prog 167 #[v,.func (.func 201) #[] #[]] w fun e w'=>∃ v',e=.returned (.tuple #[.int .i64 x,v',.bool (decide (d≠0))])∧Rd w' v' (behind d m)∧Below w.heap.size w w':=by
 have g:=ZZ b;have n:=ZZ c;obtain⟨ao,cap,rfl,-⟩:=c;by_cases a:d=0
 ·subst a
  clear b
  go_enter func167,ntmps167
  go_wp2_with fail
  refine g.o.mono ?_;rintro e w' ⟨rfl,rfl⟩;go_wp2;refine bodyPost_ret (v:=.tuple #[.int .i64 x,.slice none 0 0,.bool false]) (by simp[results,Tryz.results167,go_sem]) rfl ?_
  exact⟨_,rfl,Rd.nil _,Below.refl _ _⟩
 ·have t:((d:Int) == 0)=false:=beq_eq_false_iff_ne.2 (by omega)
  have i:Hid (behind d m=m.drop d):=if_neg a;have l:Hid (decide (d≠0)=true):=decide_eq_true a;obtain⟨j,q,hcut,f⟩:=Zco n.o d p;have k:=ZZ f;clear b a f;generalize m.drop d=M at *
  go_enter func167,ntmps167
  go_wp2_with fail
  refine g.o.mono ?_;rintro e w' ⟨rfl,rfl⟩;go_wp2;refine wp_region_quiet_lit (by kernel_rfl) (by kernel_rfl) ?_
  repeat (go_big_quiet_step (fail))
  refine wpQuiet_nil ?_;rintro _ ⟨nq,rfl⟩;go_wp2;refine bodyPost_ret (v:=.tuple #[.int .i64 x,.slice j M.length q,.bool true]) (by simp[results,Tryz.results167,go_sem]) rfl ?_
  refine⟨_,by rw[l.o],?_,Xo (Below.refl _ _) _⟩
  rw[i.o];exact k.o.below (Xo (Below.refl _ _) _) zL
theorem Bo.set (h:Bo w b cs) (j:Nat) (x:Value):Bo (w.setCell ⟨b,j,none⟩ x) b (cs.setIfInBounds j x):=by
 have:=heap_setCell_same w b j _ _ x h;unfold Bo;simpa using this
theorem Bo.three {a d e:Value} (h:Bo w b #[a,d,e]) (x y z:Value):Bo (((w.setCell ⟨b,0,none⟩ x).setCell ⟨b,1,none⟩ y).setCell ⟨b,2,none⟩ z) b #[x,y,z]:=by
 have c:=((h.set 0 x).set 1 y).set 2 z;exact c
theorem Zti (v:Value) (m:List UInt8) (w:World) (B:Rd w v m) (K:m.length<=1000000):
 Calls prog 208 #[v,.func (.func 209) #[] #[]] w fun e w'=>∃ v',e=.returned (.tuple #[opV (Xc m).1,v',.bool (decide ((Xc m).2≠0))])∧Rd w' v' (behind (Xc m).2 m)∧Below w.heap.size w w':=by
 have A:=ZZ (fun W h=>ZvE v m W h K)
 unfold ZuM at A;have x:=ZZ B;have F:=ZqE m;obtain⟨ao,cap,rfl,-⟩:=B;have l:Hid (∀ X,Below w.heap.size w (w.alloc X)):=fun X=>(Below.refl _ _).alloc zL X
 generalize (Xc m).2=d at *;generalize (Xc m).1=o at *;have C:Hid (∀ cs,Bo (w.alloc (.cells cs 52)) w.heap.size cs):=fun cs=>heap_alloc_new w _
 unfold opV at *;obtain⟨f,a,b⟩:=o
 dsimp only at *
 by_cases n:d=0
 ·subst n
  go_enter func208,ntmps208
  go_wp2_with fail
  refine(A.o _ (x.o.below (l.o _) zL)).mono ?_;rintro e i ⟨rfl,j⟩;have c:Bo i w.heap.size _:=(C.out _).below j zL;obtain⟨L,R⟩:=c.cell 0;obtain⟨I,U⟩:=c.cell 1;obtain⟨T,O⟩:=c.cell 2;have t:=ZZ ((l.o _).trans (j.mono (l.o _).size));have P:=c.lt;have H:i.heap.size≠w.heap.size:=by omega
  have Q:w.heap.size≠i.heap.size:=by omega
  have y:=ZZ c;clear j c;go_wp2;have g:Bo ((((i.setCell ⟨w.heap.size,0,none⟩ (.int .i64 f)).setCell ⟨w.heap.size,1,none⟩ (.int .i64 a)).setCell ⟨w.heap.size,2,none⟩ (.int .i64 b)).alloc (.cells #[.int .i64 f,.int .i64 a,.int .i64 b] 52)) w.heap.size #[.int .i64 f,.int .i64 a,.int .i64 b]:=(y.o.three _ _ _).below ((Below.refl _ _).alloc zL _) zL;have q:=(g.cell 0).1;have z:=(g.cell 1).1;have u:=(g.cell 2).1;have k:=ZZ (((t.o.setCell (p:=⟨w.heap.size,0,none⟩) zL (.int .i64 f)).setCell (p:=⟨w.heap.size,1,none⟩) zL (.int .i64 a)).setCell (p:=⟨w.heap.size,2,none⟩) zL (.int .i64 b));clear g;refine bodyPost_ret (v:=.tuple #[.agg #[.int .i64 f,.int .i64 a,.int .i64 b],.slice none 0 0,.bool false]) (by simp[results,Tryz.results208,go_sem,q,z,u]) rfl ?_
  exact⟨_,rfl,Rd.nil _,k.o.alloc k.o.size _⟩
 ·have V:((d:Int) == 0)=false:=beq_eq_false_iff_ne.2 (by omega)
  have E:Hid (behind d m=m.drop d):=if_neg n;have N:Hid (decide (d≠0)=true):=decide_eq_true n;obtain⟨G,S,hcut,D⟩:=Zco x.o d F;have J:=ZZ D;clear n D;generalize m.drop d=M at *
  go_enter func208,ntmps208
  go_wp2_with fail
  refine(A.o _ (x.o.below (l.o _) zL)).mono ?_;rintro e i ⟨rfl,j⟩;have c:Bo i w.heap.size _:=(C.out _).below j zL;obtain⟨L,R⟩:=c.cell 0;obtain⟨I,U⟩:=c.cell 1;obtain⟨T,O⟩:=c.cell 2;have t:=ZZ ((l.o _).trans (j.mono (l.o _).size));have P:=c.lt;have H:i.heap.size≠w.heap.size:=by omega
  have Q:w.heap.size≠i.heap.size:=by omega
  have y:=ZZ c;clear j c;go_wp2
  go_region
  all_goals
   go_wp2;have g:Bo ((((i.setCell ⟨w.heap.size,0,none⟩ (.int .i64 f)).setCell ⟨w.heap.size,1,none⟩ (.int .i64 a)).setCell ⟨w.heap.size,2,none⟩ (.int .i64 b)).alloc (.cells #[.int .i64 f,.int .i64 a,.int .i64 b] 52)).drew w.heap.size #[.int .i64 f,.int .i64 a,.int .i64 b]:=(y.o.three _ _ _).below (((Below.refl _ _).alloc zL _).drew) zL;have q:=(g.cell 0).1;have z:=(g.cell 1).1;have u:=(g.cell 2).1;have k:=ZZ (((t.o.setCell (p:=⟨w.heap.size,0,none⟩) zL (.int .i64 f)).setCell (p:=⟨w.heap.size,1,none⟩) zL (.int .i64 a)).setCell (p:=⟨w.heap.size,2,none⟩) zL (.int .i64 b));clear g;refine bodyPost_ret (v:=.tuple #[.agg #[.int .i64 f,.int .i64 a,.int .i64 b],.slice G M.length S,.bool true]) (by simp[results,Tryz.results208,go_sem,q,z,u]) rfl ?_
   refine⟨_,by rw[N.o],?_,(k.o.alloc k.o.size _).drew⟩
   rw[E.o];exact J.o.below (k.o.alloc k.o.size _).drew zL
structure TIn (w W:World) (cs:Array Value) (v:Value) (m:List UInt8):Prop where
 box:Br W w.heap.size cs
 rd:Rd W v m
 below:Below w.heap.size w W
theorem TIn.next {W':World} {m':List UInt8} (h:TIn w W cs v m) (a:Below W.heap.size W W') (b:Rd W' v' m'):TIn w W' cs v' m':=
 ⟨h.box.below a zL,b,h.below.trans (a.mono h.below.size)⟩
theorem TIn.set (h:TIn w W cs v m) (j:Nat) {n:Int} (a:cs[j]?=some (.int .i64 n)) (x:Value):TIn w (W.setCell ⟨w.heap.size,j,none⟩ x) (cs.setIfInBounds j x) v m:=
 ⟨h.box.set j x,h.rd.setInt ((h.box.cell j).1.trans a),h.below.setCell zL _⟩
theorem ZjW (v:Value) (m:List UInt8) (w:World) (F:Rd w v m) (ab:m.length<=1000000):
 Calls prog 169 #[v] w fun e w'=>∃ v',e=.returned (.tuple #[Zso (Jy m).1,.int .i64 (Jy m).2.1,v',.bool (Jy m).2.2.2])∧Rd w' v' (Jy m).2.2.1∧Below w.heap.size w w':=by
 obtain⟨f,g,d,u,z,B,P⟩:=ZeV m;have S:=ZZ P;have Y:=Je (Qb m).2 m;have X:=Je (Qe f).2 f;have H:=Je (Xc g).2 g;rw[<-u] at Y;rw[<-z] at X;rw[<-B] at H
 have D:Hid (∀ W v,Rd W v m->Calls prog 167 #[v,.func (.func 168) #[] #[]] W fun e w'=>∃ v',e=.returned (.tuple #[.int .i64 ((Qb m).1:Nat),v',.bool (decide ((Qb m).2≠0))])∧Rd w' v' f∧Below W.heap.size W w'):=ZZ (fun W v h=>by
  have:=ZdW ((Qb m).1:Nat) (Qb m).2 v m W h (Ju m) (ZcJ v m W h);rw[<-u] at this
  exact this)
 have J:Hid (∀ W v,Rd W v f->Calls prog 167 #[v,.func (.func 201) #[] #[]] W fun e w'=>∃ v',e=.returned (.tuple #[.int .i64 (zag (Qe f).1),v',.bool (decide ((Qe f).2≠0))])∧Rd w' v' g∧Below W.heap.size W w'):=ZZ (fun W v h=>by
  have:=Zdy (zag (Qe f).1) (Qe f).2 v f W h (G0 f) (Zak v f W h);rw[<-z] at this
  exact this)
 have k:Hid (∀ W v,Rd W v g->Calls prog 208 #[v,.func (.func 209) #[] #[]] W fun e w'=>∃ v',e=.returned (.tuple #[opV (Xc g).1,v',.bool (decide ((Xc g).2≠0))])∧Rd w' v' d∧Below W.heap.size W w'):=ZZ (fun W v h=>by
  have:=Zti v g W h (by omega)
  rw[<-B] at this
  exact this)
 have V:Hid (∀ W v,Rd W v d->Calls prog 167 #[v,.func (.func 201) #[] #[]] W fun e w'=>∃ v',e=.returned (.tuple #[.int .i64 (zag (Qe d).1),v',.bool (decide ((Qe d).2≠0))])∧Rd w' v' (behind (Qe d).2 d)∧Below W.heap.size W w'):=ZZ (fun W v h=>Zdy (zag (Qe d).1) (Qe d).2 v d W h (G0 d) (Zak v d W h))
 have HR:=ZZ F;obtain⟨ao,cap,rfl,-⟩:=F;rw[S.o];clear P S u z B Y X H;generalize decide ((Qe d).2≠0)=T at *;generalize behind (Qe d).2 d=t at *;generalize zag (Qe d).1=y at *;generalize zag (Qe f).1=x at *;generalize decide ((Qe f).2≠0)=T1 at *;generalize decide ((Xc g).2≠0)=T2 at *;generalize decide ((Qb m).2≠0)=T0 at *;obtain⟨p,hp⟩:∃ p:Int,p=((Qb m).1:Nat):=⟨_,rfl⟩;rw[<-hp] at D ⊢;clear hp;generalize (Xc g).1=o at *;unfold opV at k;obtain⟨c,a,b⟩:=o
 dsimp only at k
 unfold Zso
 dsimp only
 have C:Hid (TIn w (w.alloc (.cells #[.int .i64 0,.int .i64 0,.int .i64 0,.int .i64 0,.int .i64 0,.int .i64 0,.int .i64 0] 62)) #[.int .i64 0,.int .i64 0,.int .i64 0,.int .i64 0,.int .i64 0,.int .i64 0,.int .i64 0] (.slice ao m.length cap) m):=
  ⟨heap_alloc_new w _,HR.o.below ((Below.refl _ _).alloc zL _) zL,(Below.refl _ _).alloc zL _⟩
 go_enter func169,ntmps169
 go_wp2_with fail
 refine(D.o _ _ C.o.rd).mono ?_;rintro e W1 ⟨v1,rfl,I,U⟩;have n:=ZZ (C.o.next U I);obtain⟨p1,f1⟩:=n.o.box.cell 1;obtain⟨a1,c1,rfl,-⟩:=I;have q:=ZZ (n.o.set 1 rfl (.int .i64 p));clear U C D
 go_wp2_with fail
 refine(J.o _ _ q.o.rd).mono ?_;rintro e W2 ⟨v2,rfl,L,Q⟩;have l:=ZZ (q.o.next Q L);obtain⟨a2,c2,rfl,-⟩:=L;clear Q n q J p1 f1
 go_wp2_with fail
 refine(k.o _ _ l.o.rd).mono ?_;rintro e W3 ⟨v3,rfl,N,R⟩;have j:=ZZ (l.o.next R N);obtain⟨p3,f3⟩:=j.o.box.cell 3;obtain⟨p4,f4⟩:=j.o.box.cell 4;obtain⟨p5,f5⟩:=j.o.box.cell 5;obtain⟨a3,c3,rfl,-⟩:=N;have A:=ZZ (((j.o.set 3 rfl (.int .i64 c)).set 4 rfl (.int .i64 a)).set 5 rfl (.int .i64 b));clear R l k
 go_wp2_with fail
 refine(V.o _ _ A.o.rd).mono ?_;rintro e G ⟨v4,rfl,M,K⟩;have Z:=ZZ (A.o.next K M);obtain⟨O,E,rfl,-⟩:=M;have i:Br G w.heap.size #[.int .i64 0,.int .i64 p,.int .i64 0,.int .i64 c,.int .i64 a,.int .i64 b,.int .i64 0]:=Z.o.box;have aa:Hid (TIn w (G.setCell ⟨w.heap.size,6,none⟩ (.int .i64 y)) #[.int .i64 0,.int .i64 p,.int .i64 0,.int .i64 c,.int .i64 a,.int .i64 b,.int .i64 y] (.slice O t.length E) t):=Z.o.set 6 rfl (.int .i64 y);obtain⟨q0,g0⟩:=i.cell 0;obtain⟨q1,g1⟩:=i.cell 1;obtain⟨q2,g2⟩:=i.cell 2;obtain⟨q3,g3⟩:=i.cell 3;obtain⟨q4,g4⟩:=i.cell 4;obtain⟨q5,g5⟩:=i.cell 5;obtain⟨q6,g6⟩:=i.cell 6;clear K j A V p3 p4 p5 f3 f4 f5;go_wp2;refine bodyPost_ret (v:=.tuple #[.agg #[.int .i64 0,.int .i64 p,.int .i64 0,.int .i64 c,.int .i64 a,.int .i64 b,.int .i64 y],.int .i64 x,.slice O t.length E,.bool T]) (by simp[results,Tryz.results169,go_sem,q0,q1,q2,q3,q4,q5,q6]) rfl ?_
 have h:=(((((((aa.o.set 0 rfl (.int .i64 0)).set 1 rfl (.int .i64 p)).set 2 rfl (.int .i64 0)).set 3 rfl (.int .i64 c)).set 4 rfl (.int .i64 a)).set 5 rfl (.int .i64 b)).set 6 rfl (.int .i64 y));exact⟨_,rfl,h.rd,h.below⟩
end Go.Proofs.YtnahjngbneicaaaGreatDoor
