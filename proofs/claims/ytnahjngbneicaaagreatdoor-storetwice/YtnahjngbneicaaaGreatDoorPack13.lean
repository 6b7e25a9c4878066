import Derived.Test.YtnahjngbneicaaaGreatDoorPack12
namespace Go.Proofs.YtnahjngbneicaaaGreatDoor
open _root_.Go.Proofs.Tryz
open List (append_assoc drop_drop length_append length_cons length_drop mem_cons mem_of_mem_take take_length)
set_option maxHeartbeats 4000000
set_option maxRecDepth 100000
open Go.RowKit
variable {w w':World} {B C b first g k:Nat} {cs:Array Value} {l m:List UInt8} {L:List Rec} {t:Bool}
def Zsf (w:World) (b:List UInt8) (e:Ending) (w':World):Prop:=
 ∃ (vl vt:Value) (S:St) (t:List Ent) (ok:Bool),e=.returned (.tuple #[.agg #[.int .i64 S.kind,vl,.bool S.shut,.int .i64 S.eng],vt,.bool ok])∧RdI w' vl S.L∧I64 S.kind∧I64 S.eng∧RdE w' vt t∧(∀ k,vl.ownBlock=some k->w.heap.size<=k)∧(∀ k,vt.ownBlock=some k->w.heap.size<=k)∧
  (ok=false->(Yf b).2=3)∧(ok=true->∃ er,Yf b=(⟨0,S,t⟩,er)∧(er=0∨(er=1∧S=ZcA)))∧Below w.heap.size w w'
theorem Zsf.none {b:List UInt8} (h:(Yf b).2=3) (c:Below w.heap.size w w'):Zsf w b (.returned (.tuple #[.agg #[.int .i64 0,.slice none 0 0,.bool false,.int .i64 0],.slice none 0 0,.bool false])) w':=
 ⟨_,_,ZcA,[],false,rfl,RdI.nil _,(Qk (by decide) (by decide):I64 0),(Qk (by decide) (by decide):I64 0),RdE.nil _,(fun k a=>by simp[Value.ownBlock] at a),(fun k a=>by simp[Value.ownBlock] at a),(fun _=>h),(fun h=>by cases h),c⟩
theorem Zwv (ao:Option Addr) (l:List UInt8) (cap:Nat) (g:l.length<=cap) (j:Nat) (f:j<=l.length):
 ∃ a c b,(∀ W,(Instr.sliceAt 53 (.slice ao l.length cap) none (some (.int .i64 (j:Int))) (some (.int .i64 (j:Int)))).run prog W=.ok (.slice a c b) W)∧∀ W,Rd W (.slice ao l.length cap) l->Rd W (.slice a c b) (l.take j):=by
 have d:∃ a c b,sliced ao 0 j j 1=.slice a c b:=by
  unfold sliced;exact⟨_,_,_,rfl⟩
 obtain⟨a,c,b,d⟩:=d;refine⟨a,c,b,fun W=>?_,fun W h=>?_⟩
 ·rw[run_sliceAt_slice W 53 _ _ _ _ Xf,run_slice_hm W 53 ao l.length cap Xf .i64 .i64 (j:Int) (j:Int) (by omega) (by omega) (by omega),Zw,Zcd]
  simp only [Int.toNat_natCast];rw[<-d];rfl
 ·rw[<-d]
  have e:=h.mid 0 j j (Nat.zero_le _) f zL (by omega)
  rw[List.drop_zero,Nat.sub_zero] at e;exact e
def four (w:World) (R:Nat) (x0 x1 x2 x3:Value):World:=(((w.setCell ⟨R,0,none⟩ x0).setCell ⟨R,1,none⟩ x1).setCell ⟨R,2,none⟩ x2).setCell ⟨R,3,none⟩ x3
theorem Zdi {b:World} (h:Below C b w) (R:Nat) (a:C<=R) (d e c f:Value):Below C b ((((w.setCell ⟨R,0,none⟩ d).setCell ⟨R,1,none⟩ e).setCell ⟨R,2,none⟩ c).setCell ⟨R,3,none⟩ f):=
 (((h.setCell a _).setCell a _).setCell a _).setCell a _
theorem Zww (w:World) (R:Nat) (b c a d:Value):But R R w ((((w.setCell ⟨R,0,none⟩ b).setCell ⟨R,1,none⟩ c).setCell ⟨R,2,none⟩ a).setCell ⟨R,3,none⟩ d):=
 ((((But.refl R R w).set _ _ (.inl rfl) _).set _ _ (.inl rfl) _).set _ _ (.inl rfl) _).set _ _ (.inl rfl) _
theorem Zlr (v:Value) (b:List UInt8) (w:World) (V:Rd w v b) (bi:b.length<=100000):
 Calls prog 117 #[v] w fun e w'=>Zsf w b e w':=by
 obtain⟨d,ad⟩:∃ d,d=((w.alloc (.cells #[.int .i64 0,.slice none 0 0,.bool false,.int .i64 0] 38)).alloc (.cells #[.int .i64 0] 3)).alloc (.cells #[.pointer (some ⟨w.heap.size+1,0,none⟩)] 208):=⟨_,rfl⟩;have g:=Zip w (.cells #[.int .i64 0,.slice none 0 0,.bool false,.int .i64 0] 38) (.cells #[.int .i64 0] 3) (.cells #[.pointer (some ⟨w.heap.size+1,0,none⟩)] 208);rw[<-ad] at g;obtain⟨hA,P,hC⟩:=g;have ak:Hid (Below w.heap.size w d):=ZZ (by rw[ad];exact(((Below.refl _ _).alloc zL _).alloc (by simp) _).alloc (by simp;omega) _)
 have az:Bx d w.heap.size #[.int .i64 0,.slice none 0 0,.bool false,.int .i64 0]:=hA
 have ai:=ZZ (Zat (w.heap.size+1+1) [(w.heap.size+1,0)] v b d (V.below ak.o zL) (fun p E=>by
  rw[List.mem_singleton.1 E]
  exact⟨⟨⟨0,cell_of_row d (w.heap.size+1) 0 _ _ _ P⟩,frozen_of_row d (w.heap.size+1) 0 _ _ P⟩,by simp⟩) (by simp) hC 1 rfl)
 have aT:Hid (∀ n:Nat,(d.setCell ⟨w.heap.size+1,0,none⟩ (.int .i64 (n:Int))).cell? ⟨w.heap.size+1,0,none⟩=some (.int .i64 (n:Int))):=ZZ (fun n=>World.cell?_setCell_same _ _ _ (cell_of_row d (w.heap.size+1) 0 _ _ _ P))
 have ax:Hid (∀ ns,Below w.heap.size w (Yl d ([(w.heap.size+1,0)].take (List.length ns)) ns)):=ZZ (fun ns=>Zbb d _ ns _ w (fun p E=>by
  have:=mem_of_mem_take E;rw[List.mem_singleton.1 this]
  simp) ak.o)
 have av:Hid (∀ ns,Bx (Yl d ([(w.heap.size+1,0)].take (List.length ns)) ns) w.heap.size #[.int .i64 0,.slice none 0 0,.bool false,.int .i64 0]):=ZZ (fun ns=>(Zba d _ ns _ (fun p E=>by
  have:=mem_of_mem_take E;rw[List.mem_singleton.1 this]
  simp)).trans az)
 have aq:=ZZ (fun ns l h=>Ziq (b:=b) (ns:=ns) (l:=l) h)
 have al:=ZZ (fun h=>Zir (b:=b) h)
 have z:Hid (Yf b=if(Qb b).2=0∨b.length<(Qb b).2+(Qb b).1 then(Xr,3) else if(ZeV ((b.drop (Qb b).2).take (Qb b).1)).2=3 then(Xr,3) else match ZbK (b.drop ((Qb b).2+(Qb b).1)) with
  | none=>(Xr,3)
  | some t=>(⟨0,(ZeV ((b.drop (Qb b).2).take (Qb b).1)).1,t⟩,(ZeV ((b.drop (Qb b).2).take (Qb b).1)).2)):=ZZ rfl
 have hd:=Z3 b
 have bd:(Qb b).1<4611686018427387904:=by
  rcases Q4 b with h | h
  ·rw[h];decide
  ·exact h.1
 have aG:=ZZ (fun O l W h h2=>Zit O l W h h2)
 have aR:=ZZ (fun O l W h h2=>Zlp O l W h h2)
 have aM:Hid ([(w.heap.size+1,0)].length=1):=ZZ rfl;rw[aM.o] at ai;generalize Y0 1 b=GL at *;have aO:=ZZ V;obtain⟨va,vc,hv⟩:∃ a c,v=.slice a b.length c:=by obtain⟨a,c,h,-⟩:=V;exact⟨a,c,h⟩
 subst hv;clear V hA P hC az aM
 go_enter func117,ntmps117
 go_wp2_with fail
 rw[<-ad];refine ai.o.mono ?_;rintro e B ⟨O,l,ns,rfl,aJ,aF,ap,aH,aQ,F⟩;have C:Hid (Below w.heap.size w B):=ZZ ((ax.o ns).trans (F.below _));have u:Hid (Bx B w.heap.size #[.int .i64 0,.slice none 0 0,.bool false,.int .i64 0]):=ZZ ((av.o ns).below (F.below (Yl d ([(w.heap.size+1,0)].take ns.length) ns).heap.size) zL);have a6:=ZZ aJ;have ac:=ZZ (aJ B (aO.o.below C.o zL));obtain⟨a1,c1,a7⟩:∃ a c,O=.slice a l.length c:=by obtain⟨a,c,h,-⟩:=ac.o;exact⟨a,c,h⟩
 subst a7;obtain⟨A,y0⟩:=u.o.cell 0;obtain⟨j,y1⟩:=u.o.cell 1;obtain⟨x,y2⟩:=u.o.cell 2;obtain⟨y,y3⟩:=u.o.cell 3;clear ai ax ak ad av
 cases GL with
 | none=>
  have I:Hid ((Yf b).2=3):=ZZ (by rw[z.o,if_pos (.inl (al.o rfl))])
  clear aF ap aH aQ F z al aq;go_wp2;refine bodyPost_ret (v:=.tuple #[.agg #[.int .i64 0,.slice none 0 0,.bool false,.int .i64 0],.slice none 0 0,.bool false]) (by simp[results,Tryz.results117,go_sem,A,j,x,y]) rfl ?_
  exact Zsf.none I.o (Zdi C.o _ zL _ _ _ _)
 | some gp=>
  have:=ap gp rfl;subst this;obtain⟨g1,g2,g3⟩:=aq.o _ _ rfl;subst g2;have aU:l.length=b.length-(Qb b).2:=by rw[g3,length_drop]
  have aj:B.cell? ⟨w.heap.size+1,0,none⟩=some (.int .i64 ((Qb b).1:Int)):=by
   rw[F.cell];exact aT.o _
  rw[<-drop_drop,<-g3] at z;generalize (Qb b).1=n at *;generalize (Qb b).2=k at *;clear aF ap aH aQ F al aq g3 aT;by_cases ba:l.length<n
  ·have I:Hid ((Yf b).2=3):=ZZ (by rw[z.o,if_pos (.inr (by omega))])
   have aZ:(l.length:Int)<(n:Int):=by omega
   clear aU z;go_wp2;refine bodyPost_ret (v:=.tuple #[.agg #[.int .i64 0,.slice none 0 0,.bool false,.int .i64 0],.slice none 0 0,.bool false]) (by simp[results,Tryz.results117,go_sem,A,j,x,y]) rfl ?_
   exact Zsf.none I.o (Zdi C.o _ zL _ _ _ _)
  have aZ:¬ (l.length:Int)<(n:Int):=by omega
  have ae:l.length<=c1:=by
   obtain⟨a',c',h,h2,-⟩:=ac.o;simp only [Value.slice.injEq] at h;omega
  obtain⟨xa,xn,xc,bf,aI⟩:=Zwv a1 l c1 ae n (by omega)
  obtain⟨ua,uc,bg,aL⟩:=ZgI a1 l c1 ae n (by omega)
  have R:=ZZ (aG.o _ (l.take n) B (aI B ac.o) (by rw[List.length_take];omega))
  have a8:=ZZ (fun W h=>aL W (a6.o W h))
  have aY:=ZZ (fun v2 W h=>aR.o v2 (l.drop n) W h (by rw[length_drop];omega))
  have X:Hid (Yf b=if(ZeV (l.take n)).2=3 then(Xr,3) else match ZbK (l.drop n) with
   | none=>(Xr,3)
   | some t=>(⟨0,(ZeV (l.take n)).1,t⟩,(ZeV (l.take n)).2)):=ZZ (by rw[z.o,if_neg (by omega)])
  have aE:=ZZ (ZqH (l.take n));clear aI aL z aG aR aU ba ae hd g1;generalize ZeV (l.take n)=DS at *;generalize ZbK (l.drop n)=TL at *;generalize l.drop n=l2 at *;obtain⟨⟨G,m,N,J⟩,U⟩:=DS;unfold Zau at R
  dsimp only at R X aE
  go_wp2_with fail
  refine R.o.mono ?_;rintro e i ⟨vl,rfl,au,aC,aV,ay,Q⟩;obtain⟨H,lc,a0⟩:∃ a c,vl=.slice a m.length c:=by obtain⟨a,c,h,-⟩:=au;exact⟨a,c,h⟩
  subst a0;have be:=C.o.size;have ag:=ZZ (C.o.trans (Q.mono C.o.size));have ao:=ZZ (u.o.below Q zL);have an:i.cell? ⟨w.heap.size+1,0,none⟩=some (.int .i64 (n:Int)):=(Q.cell (p:=⟨w.heap.size+1,0,none⟩) (World.block_lt_of_cell? B ⟨w.heap.size+1,0,none⟩ aj)).trans aj;have aA:=ZZ au;have aw:=ZZ (And.intro aC aV)
  have aD:Hid (∀ k,(Value.slice H m.length lc).ownBlock=some k->w.heap.size<k):=ZZ (fun k f=>by
   have L:=ay k f;have h2:=u.o.lt
   omega)
  clear aj au aC aV ay Q R A j x y y0 y1 y2 y3 u ac;obtain⟨D,ab⟩:∃ D,D=i.alloc (.cells #[.int .i64 G,.slice H m.length lc,.bool N,.int .i64 J] 38):=⟨_,rfl⟩;have M:Hid (Below i.heap.size i D):=ZZ (by rw[ab];exact(Below.refl _ _).alloc zL _)
  have ar:Hid (Bx D i.heap.size #[.int .i64 G,.slice H m.length lc,.bool N,.int .i64 J]):=ZZ (by rw[ab];exact heap_alloc_new i _)
  have Z:=ZZ (ag.o.trans (M.o.mono ag.o.size));have q:=ZZ (ao.o.below M.o zL);have a5:D.cell? ⟨w.heap.size+1,0,none⟩=some (.int .i64 (n:Int)):=(M.o.cell (p:=⟨w.heap.size+1,0,none⟩) (World.block_lt_of_cell? i ⟨w.heap.size+1,0,none⟩ an)).trans an;have aK:=ZZ (aA.o.below M.o zL)
  go_upto_region 6 with fail
  rw[<-ab];obtain⟨QB,aW⟩:∃ QB,QB=i.heap.size:=⟨_,rfl⟩;have bc:w.heap.size<QB:=by have:=ao.o.lt;omega
  rw[<-aW] at ar ⊢;clear ab an aW aA ao ag M;by_cases g:U=3
  ·have a9:(U == 3)=true:=beq_iff_eq.2 g
   have I:Hid ((Yf b).2=3):=ZZ (by rw[X.o,if_pos g])
   obtain⟨A,y0⟩:=q.o.cell 0;obtain⟨j,y1⟩:=q.o.cell 1;obtain⟨x,y2⟩:=q.o.cell 2;obtain⟨y,y3⟩:=q.o.cell 3;clear g;go_wp2;refine bodyPost_ret (v:=.tuple #[.agg #[.int .i64 0,.slice none 0 0,.bool false,.int .i64 0],.slice none 0 0,.bool false]) (by simp[results,Tryz.results117,go_sem,A,j,x,y]) rfl ?_
   exact Zsf.none I.o (Zdi Z.o _ zL _ _ _ _)
  have a9:(U == 3)=false:=beq_eq_false_iff_ne.2 g;have af:=ZZ g;clear g
  go_wp2_with fail
  refine(aY.o _ _ (a8.o D (aO.o.below Z.o zL))).mono ?_;rintro e W4 ⟨vt,t,rfl,T,aN,aS,K⟩;obtain⟨ta,tc,aX⟩:=T.shape;subst aX;have a4:=ZZ (Z.o.trans (K.mono Z.o.size));have aa:=ZZ (q.o.below K zL);have S:=ZZ (ar.o.below K zL);have a3:=ZZ (aK.o.below K zL);have bb:=ZZ (T.rd aN)
  have aP:Hid (∀ k,(Value.slice ta t.length tc).ownBlock=some k->w.heap.size<k):=ZZ (fun k f=>by
   have L:=(World.ownsRow.lt T k f).1;have h2:=q.o.lt
   omega)
  have a2:=ZZ aS;clear T aN aS K a5 q ar aK;obtain⟨A,y0⟩:=aa.o.cell 0;obtain⟨j,y1⟩:=aa.o.cell 1;obtain⟨x,y2⟩:=aa.o.cell 2;obtain⟨y,y3⟩:=aa.o.cell 3;obtain⟨s0,-⟩:=S.o.cell 0;obtain⟨s1,-⟩:=S.o.cell 1;obtain⟨s2,-⟩:=S.o.cell 2;obtain⟨s3,-⟩:=S.o.cell 3;obtain⟨ok,am⟩:∃ ok,ok=TL.isSome:=⟨_,rfl⟩;rw[<-am];have Y:=ZZ am;clear am;go_wp2;refine bodyPost_ret (v:=.tuple #[.agg #[.int .i64 G,.slice H m.length lc,.bool N,.int .i64 J],.slice ta t.length tc,.bool ok]) (by simp[results,Tryz.results117,go_sem,A,j,x,y]) rfl ?_
  have aB:=Zww W4 w.heap.size (.int .i64 G) (.slice H m.length lc) (.bool N) (.int .i64 J);refine⟨_,_,⟨G,m,N,J⟩,t,ok,rfl,a3.o.but aB (.inr fun k f=>by have:=aD.o k f;omega),aw.o.1,aw.o.2,bb.o.but aB (.inr fun k f=>by have:=aP.o k f;omega),(fun k f=>Nat.le_of_lt (aD.o k f)),(fun k f=>Nat.le_of_lt (aP.o k f)),(fun h=>?_),(fun h=>?_),Zdi a4.o _ zL _ _ _ _⟩
  ·rw[X.o,if_neg af.o]
   cases TL with
   | none=>rfl
   | some t'=>rw[h] at Y;cases Y.o
  ·cases TL with
   | none=>rw[h] at Y;cases Y.o
   | some t'=>
    refine⟨U,by rw[X.o,if_neg af.o,a2.o t' rfl],?_⟩
    rcases aE.o with L | ⟨L,h2 | h2⟩
    ·exact .inl L
    ·exact absurd h2 af.o
    ·exact .inr ⟨h2,L⟩
def Bq (w:World) (b:Nat) (cs:Array Value):Prop:=w.heap[b]?=some (.cells cs 147 (0,0))
theorem Bq.lt (h:Bq w b cs):b<w.heap.size:=(Array.getElem?_eq_some_iff.1 h).1
theorem Bq.below (h:Bq w b cs) (a:Below B w w') (c:w.heap.size<=B):Bq w' b cs:=(a.block b (by have:=h.lt;omega)).trans h
theorem Bq.cell (h:Bq w b cs) (j:Nat):w.cell? ⟨b,j,none⟩=cs[j]?∧w.frozen? ⟨b,j,none⟩=false:=⟨cell_of_row w b j _ _ _ h,frozen_of_row w b j _ _ h⟩
theorem Bq.set (h:Bq w b cs) (j:Nat) (x:Value):Bq (w.setCell ⟨b,j,none⟩ x) b (cs.setIfInBounds j x):=by
 have:=heap_setCell_same w b j _ _ x h;unfold Bq;simpa using this
theorem Bq.other {c:Nat} (h:Bq w b cs) (j:Nat) (x:Value) (a:b≠c):Bq (w.setCell ⟨c,j,none⟩ x) b cs:=(Below.heap_setCell _ _ _ _ a).trans h
theorem Zwx (w:World) (x y z u:Obj):((((w.alloc x).alloc y).alloc z).alloc u).heap[w.heap.size]?=some x∧((((w.alloc x).alloc y).alloc z).alloc u).heap[w.heap.size+1]?=some y∧((((w.alloc x).alloc y).alloc z).alloc u).heap[w.heap.size+2]?=some z∧((((w.alloc x).alloc y).alloc z).alloc u).heap[w.heap.size+3]?=some u:=by
 obtain⟨a,b,c⟩:=Zip w x y z;refine⟨(Below.heap_alloc _ _ _ (by simp;omega)).trans a,(Below.heap_alloc _ _ _ (by simp)).trans b,(Below.heap_alloc _ _ _ (by simp)).trans c,?_⟩
 have:=heap_alloc_new (((w.alloc x).alloc y).alloc z) u;simpa using this
theorem Zsg {d:List UInt8} (h:¬ (d.length<1∨(d.getD 0 0).toNat≠115)):Yg d=match Y0 3 (d.drop 1) with
 | none=>(0,0,0,3)
 | some (ns,l)=>if ns.getD 0 0≠3 then(0,0,0,6) else if l.length≠4 then(0,0,0,3) else(ns.getD 1 0,ns.getD 2 0,Lib.leNat l,0):=by
 unfold Yg;rw[if_neg h,Y0];by_cases a:(Qb (d.drop 1)).2=0
 ·rw[if_pos (.inl a),if_pos a]
 rw[if_neg a,Y0];simp only [drop_drop];by_cases b:(Qb (d.drop (1+(Qb (d.drop 1)).2))).2=0
 ·rw[if_pos (.inr (.inl b)),if_pos b]
  rfl
 rw[if_neg b,ZeJ];simp only [drop_drop];by_cases c:(Qb (d.drop (1+(Qb (d.drop 1)).2+(Qb (d.drop (1+(Qb (d.drop 1)).2))).2))).2=0
 ·rw[if_pos (.inr (.inr c)),if_pos c]
  rfl
 ·rw[if_neg (by omega),if_neg c]
  simp only [Option.map_some,List.getD_cons_zero,List.getD_cons_succ]
theorem Znh:∀ (n:Nat) (b:List UInt8) (ns:List Nat) (l:List UInt8),Y0 n b=some (ns,l)->ns.length=n
 | 0,b,ns,l,h=>by
  injection h with h
  injection h with h _
  rw[<-h];rfl
 | n+1,b,ns,l,h=>by
  rw[Y0] at h;split at h
  ·cases h
  ·cases hg:Y0 n (b.drop (Qb b).2) with
   | none=>rw[hg] at h;cases h
   | some r=>
    rw[hg] at h
    injection h with h
    injection h with h _
    obtain⟨a,m⟩:=r;rw[<-h,length_cons,Znh n _ a m hg]
theorem ZuB {W:World} {R Q:Nat} (e:R≠Q) (h:Bq W R #[.int .i64 0,.int .i64 0,.int .u32 0]) (f:W.heap[Q]?=some (.cells #[.int .i64 0] 3 (0,0))) (ns:List Nat) (g:ns.length<=3):
 ∃ u x y:Int,Bq (Yl W ([(Q,0),(R,0),(R,1)].take ns.length) ns) R #[.int .i64 x,.int .i64 y,.int .u32 0]∧(Yl W ([(Q,0),(R,0),(R,1)].take ns.length) ns).cell? ⟨Q,0,none⟩=some (.int .i64 u)∧(ns.length=3->u=((ns.getD 0 0:Nat):Int)∧x=((ns.getD 1 0:Nat):Int)∧y=((ns.getD 2 0:Nat):Int)):=by
 have d:W.cell? ⟨Q,0,none⟩=some (.int .i64 0):=cell_of_row W Q 0 _ _ _ f
 match ns,g with
 | [],_=>exact⟨0,0,0,h,d,fun h=>absurd h (by simp)⟩
 | [a],_=>exact⟨a,0,0,h.other 0 _ e,World.cell?_setCell_same _ _ _ d,fun h=>absurd h (by simp)⟩
 | [a,b],_=>
  refine⟨a,b,0,(h.other 0 _ e).set 0 _,?_,fun h=>absurd h (by simp)⟩
  show((W.setCell ⟨Q,0,none⟩ _).setCell ⟨R,0,none⟩ _).cell? ⟨Q,0,none⟩=_;rw[World.cell?_setCell_other _ _ _ _ (by simp)]
  exact World.cell?_setCell_same _ _ _ d
 | [a,b,c],_=>
  refine⟨a,b,c,((h.other 0 _ e).set 0 _).set 1 _,?_,fun _=>⟨rfl,rfl,rfl⟩⟩
  show(((W.setCell ⟨Q,0,none⟩ _).setCell ⟨R,0,none⟩ _).setCell ⟨R,1,none⟩ _).cell? ⟨Q,0,none⟩=_;rw[World.cell?_setCell_other _ _ _ _ (by simp),World.cell?_setCell_other _ _ _ _ (by simp)]
  exact World.cell?_setCell_same _ _ _ d
def ZyD (w:World) (r:Nat × Nat × Nat × Int) (e:Ending) (w':World):Prop:=
 e=.returned (.tuple #[.agg #[.int .i64 (r.1:Int),.int .i64 (r.2.1:Int),.int .u32 (r.2.2.1:Int)],.int .i64 r.2.2.2])∧Below w.heap.size w w'
theorem ZeK {b:World} (h:Below C b w) (R:Nat) (a:C<=R) (d e c:Value):Below C b (((w.setCell ⟨R,0,none⟩ d).setCell ⟨R,1,none⟩ e).setCell ⟨R,2,none⟩ c):=
 ((h.setCell a _).setCell a _).setCell a _
theorem Zgt (v:Value) (d:List UInt8) (w:World) (hr:Rd w v d):
 Calls prog 115 #[v] w fun e w'=>ZyD w (Yg d) e w':=by
 have HR:=ZZ hr;obtain⟨ao,cap,rfl,az,am,-,av⟩:=hr;have aQ:(d.length:Int)<=9223372036854775807:=by unfold maxLen at am;omega
 have D:Hid (∀ X,Below w.heap.size w (w.alloc X)):=fun X=>(Below.refl _ _).alloc zL X
 by_cases z:d.length=0
 ·have g:Hid (Yg d=(0,0,0,3)):=ZZ (by unfold Yg;rw[if_pos (.inl (by omega))])
  have aJ:((d.length:Int) == 0)=true:=by rw[beq_iff_eq];omega
  rw[g.o];clear z av
  go_enter func115,ntmps115
  go_wp2;refine bodyPost_ret (v:=.tuple #[.agg #[.int .i64 0,.int .i64 0,.int .u32 0],.int .i64 3]) (by simp[results,Tryz.results115,go_sem]) rfl ?_
  exact⟨rfl,D.o _⟩
 have aJ:((d.length:Int) == 0)=false:=beq_eq_false_iff_ne.2 (by omega)
 have aR:(0:Int)<(d.length:Int):=by omega
 have N:d≠[]:=fun e=>by rw[e] at z;simp at z
 rcases av with he | ⟨b,y,rfl,hc⟩
 ·exact absurd he N
 have R:=hc 0 (by omega)
 have aN:b<w.heap.size:=World.block_lt_of_cell? w ⟨b,y+0,none⟩ R;have aL:∀ X,(w.alloc X).cell? ⟨b,y,none⟩=some (.int .u8 ((d.getD 0 0).toNat:Nat)):=fun X=>((D.o X).cell (p:=⟨b,y,none⟩) aN).trans R
 clear hc R am;by_cases G:(d.getD 0 0).toNat=115
 case neg=>
  have g:Hid (Yg d=(0,0,0,3)):=ZZ (by unfold Yg;rw[if_pos (.inr G)])
  have ay:((((d.getD 0 0).toNat:Nat):Int) != 115)=true:=by
   rw[bne_iff_ne];omega
  rw[g.o];clear G N z;generalize (((d.getD 0 0).toNat:Nat):Int)=c0 at *
  go_enter func115,ntmps115
  go_wp2;refine bodyPost_ret (v:=.tuple #[.agg #[.int .i64 0,.int .i64 0,.int .u32 0],.int .i64 3]) (by simp[results,Tryz.results115,go_sem]) rfl ?_
  exact⟨rfl,D.o _⟩
 have ay:((((d.getD 0 0).toNat:Nat):Int) != 115)=false:=by
  rw[G];rfl
 have A:=ZZ (Zsg (d:=d) (by omega))
 generalize (((d.getD 0 0).toNat:Nat):Int)=c0 at *;obtain⟨xa,xc,hcut,ab⟩:=ZgI (some ⟨b,y,none⟩) d cap az 1 (by omega)
 have aD:∀ W,(Instr.sliceAt 53 (.slice (some ⟨b,y,none⟩) d.length cap) (some (.int .i64 1)) none none).run prog W=.ok (.slice xa (d.drop 1).length xc) W:=hcut;have ag:=ZZ (fun W h=>ab W h)
 obtain⟨f,I⟩:∃ f,f=(((w.alloc (.cells #[.int .i64 0,.int .i64 0,.int .u32 0] 147)).alloc (.cells #[.int .i64 0,.int .i64 0,.int .u32 0] 147)).alloc (.cells #[.int .i64 0] 3)).alloc (.cells #[.pointer (some ⟨w.heap.size+1+1,0,none⟩),.pointer (some ⟨w.heap.size+1,0,none⟩),.pointer (some ⟨w.heap.size+1,1,none⟩)] 208):=⟨_,rfl⟩;have h4:=Zwx w (.cells #[.int .i64 0,.int .i64 0,.int .u32 0] 147) (.cells #[.int .i64 0,.int .i64 0,.int .u32 0] 147) (.cells #[.int .i64 0] 3) (.cells #[.pointer (some ⟨w.heap.size+1+1,0,none⟩),.pointer (some ⟨w.heap.size+1,0,none⟩),.pointer (some ⟨w.heap.size+1,1,none⟩)] 208);rw[<-I] at h4;obtain⟨hA,hB,F,hC⟩:=h4;have T:Hid (Below w.heap.size w f):=ZZ (by rw[I];exact((((Below.refl _ _).alloc zL _).alloc (by simp) _).alloc (by simp;omega) _).alloc (by simp;omega) _)
 have aj:Bq f w.heap.size #[.int .i64 0,.int .i64 0,.int .u32 0]:=hA;have n:Bq f (w.heap.size+1) #[.int .i64 0,.int .i64 0,.int .u32 0]:=hB
 have M:=ZZ (Zat (w.heap.size+1+1+1) [(w.heap.size+1+1,0),(w.heap.size+1,0),(w.heap.size+1,1)] (.slice xa (d.drop 1).length xc) (d.drop 1) f (ag.o f (HR.o.below T.o zL)) (fun p k=>by
  simp only [mem_cons,List.not_mem_nil,or_false] at k;rcases k with rfl | rfl | rfl
  ·exact⟨⟨⟨0,cell_of_row f (w.heap.size+2) 0 _ _ _ F⟩,frozen_of_row f (w.heap.size+2) 0 _ _ F⟩,by simp⟩
  ·exact⟨⟨⟨0,(n.cell 0).1⟩,(n.cell 0).2⟩,by simp⟩
  ·exact⟨⟨⟨0,(n.cell 1).1⟩,(n.cell 1).2⟩,by simp⟩) (by simp) hC 3 rfl)
 have ap:=ZZ (fun ns h=>ZuB (Q:=w.heap.size+1+1) (by omega) n F ns h)
 have ai:Hid (∀ ns,Below w.heap.size w (Yl f ([(w.heap.size+1+1,0),(w.heap.size+1,0),(w.heap.size+1,1)].take (List.length ns)) ns)):=ZZ (fun ns=>Zbb f _ ns _ w (fun p k=>by
  have:=mem_of_mem_take k;simp only [mem_cons,List.not_mem_nil,or_false] at this
  rcases this with rfl | rfl | rfl <;> (simp only;omega)) T.o)
 have ac:Hid (∀ ns,Bq (Yl f ([(w.heap.size+1+1,0),(w.heap.size+1,0),(w.heap.size+1,1)].take (List.length ns)) ns) w.heap.size #[.int .i64 0,.int .i64 0,.int .u32 0]):=ZZ (fun ns=>(Zba f _ ns _ (fun p k=>by
  have:=mem_of_mem_take k;simp only [mem_cons,List.not_mem_nil,or_false] at this
  rcases this with rfl | rfl | rfl <;> (simp only;omega))).trans aj)
 have aF:=ZZ (fun v1 l W h=>Zmo v1 l W h)
 have U:=ZZ (fun ns l h=>Znh 3 (d.drop 1) ns l h)
 have aq:Hid ([(w.heap.size+1+1,0),(w.heap.size+1,0),(w.heap.size+1,1)].length=3):=ZZ rfl;rw[aq.o] at M;generalize Y0 3 (d.drop 1)=GL at *;obtain⟨i,ad⟩:∃ i,i=Yg d:=⟨_,rfl⟩;rw[<-ad] at A ⊢;clear ad hcut ab hA hB F hC aj n G N z aq;generalize d.drop 1=D1 at *
 go_enter func115,ntmps115
 go_wp2_with fail
 rw[<-I];refine M.o.mono ?_;rintro e j ⟨v1,l,ns,rfl,an,al,Z,aE,ar,q⟩;obtain⟨uu,xx,yy,ak,ae,O⟩:=ap.o ns ar;have aa:Hid (Bq j (w.heap.size+1) #[.int .i64 xx,.int .i64 yy,.int .u32 0]):=ZZ (ak.below (q.below (Yl f ([(w.heap.size+1+1,0),(w.heap.size+1,0),(w.heap.size+1,1)].take ns.length) ns).heap.size) zL);have S:Hid (Bq j w.heap.size #[.int .i64 0,.int .i64 0,.int .u32 0]):=ZZ ((ac.o ns).below (q.below (Yl f ([(w.heap.size+1+1,0),(w.heap.size+1,0),(w.heap.size+1,1)].take ns.length) ns).heap.size) zL);have ab:j.cell? ⟨w.heap.size+1+1,0,none⟩=some (.int .i64 uu):=by rw[q.cell];exact ae
 have x:Hid (Below w.heap.size w j):=ZZ ((ai.o ns).trans (q.below _));have au:=ZZ (an j (ag.o j (HR.o.below x.o zL)));obtain⟨a1,c1,aM⟩:∃ a c,v1=.slice a l.length c:=by obtain⟨a,c,h,-⟩:=au.o;exact⟨a,c,h⟩
 subst aM;obtain⟨H,y0⟩:=S.o.cell 0;obtain⟨B,y1⟩:=S.o.cell 1;obtain⟨E,y2⟩:=S.o.cell 2;clear M ap ai ac I ak ae q an aE ar T aL aD D
 cases GL with
 | none=>
  have g:Hid (i=(0,0,0,3)):=ZZ A.o;clear al Z O A U;go_wp2;refine bodyPost_ret (v:=.tuple #[.agg #[.int .i64 0,.int .i64 0,.int .u32 0],.int .i64 3]) (by simp[results,Tryz.results115,go_sem,H,B,E]) rfl ?_
  rw[g.o];exact⟨rfl,ZeK x.o _ zL _ _ _⟩
 | some gp=>
  have:=Z gp rfl;subst this;obtain⟨g1,g2,g3⟩:=O (U.o _ _ rfl);have m:Hid (i=if ns.getD 0 0≠3 then(0,0,0,6) else if l.length≠4 then(0,0,0,3) else(ns.getD 1 0,ns.getD 2 0,Lib.leNat l,0)):=ZZ A.o
  clear al Z O A U;generalize ns.getD 0 0=V at *;generalize ns.getD 1 0=n1 at *;generalize ns.getD 2 0=n2 at *;subst g1 g2 g3;by_cases C:V=3
  case neg=>
   have g:Hid (i=(0,0,0,6)):=ZZ (by rw[m.o,if_pos C])
   have aw:((V:Int) != 3)=true:=by rw[bne_iff_ne];omega
   clear C m;go_wp2;refine bodyPost_ret (v:=.tuple #[.agg #[.int .i64 0,.int .i64 0,.int .u32 0],.int .i64 6]) (by simp[results,Tryz.results115,go_sem,H,B,E]) rfl ?_
   rw[g.o];exact⟨rfl,ZeK x.o _ zL _ _ _⟩
  have aw:((V:Int) != 3)=false:=by rw[bne_eq_false_iff_eq];omega
  by_cases u:l.length=4
  case neg=>
   have g:Hid (i=(0,0,0,3)):=ZZ (by rw[m.o,if_neg (by omega),if_pos u])
   have aI:((l.length:Int) != 4)=true:=by rw[bne_iff_ne];omega
   clear C m u;go_wp2;refine bodyPost_ret (v:=.tuple #[.agg #[.int .i64 0,.int .i64 0,.int .u32 0],.int .i64 3]) (by simp[results,Tryz.results115,go_sem,H,B,E]) rfl ?_
   rw[g.o];exact⟨rfl,ZeK x.o _ zL _ _ _⟩
  have aI:((l.length:Int) != 4)=false:=by rw[bne_eq_false_iff_eq];omega
  have g:Hid (i=(n1,n2,Lib.leNat l,0)):=ZZ (by rw[m.o,if_neg (by omega),if_neg (by omega)])
  have K:=ZZ (aF.o _ l j au.o);rw[List.take_of_length_le (by omega)] at K
  have ax:Lib.leNat l<4294967296:=by
   have:=ZkL l;rw[u] at this;exact this
  have aC:Hid (l.length=4):=ZZ u;generalize Lib.leNat l=t at *;clear C m u;obtain⟨e0,f0⟩:=aa.o.cell 0;obtain⟨e1,f1⟩:=aa.o.cell 1;obtain⟨e2,f2⟩:=aa.o.cell 2;have aS:¬ (w.heap.size=w.heap.size+1):=by omega
  have aP:¬ (w.heap.size+1=w.heap.size):=by omega
  have aO:IntKind.u32.wrap (t:Int)=(t:Int):=by
   rw[IntKind.wrap_u32];omega
  have aA:(0:Int)<=(t:Int):=by omega
  have aH:(t:Int)<4294967296:=by omega
  obtain⟨CC,P⟩:∃ CC:Int,CC=(t:Int):=⟨_,rfl⟩;obtain⟨N1,L⟩:∃ N1:Int,N1=(n1:Int):=⟨_,rfl⟩;obtain⟨J,Y⟩:∃ J:Int,J=(n2:Int):=⟨_,rfl⟩;rw[<-P] at K aO aA aH;rw[<-L] at e0;rw[<-Y] at e1;have aG:=ZZ P;have aB:=ZZ L;have aK:=ZZ Y;clear P L Y ax;clear aC
  go_wp2_with fail
  refine K.o.mono ?_;rintro e W2 ⟨rfl,af⟩;rw[af];clear af W2;go_wp2;refine bodyPost_ret (v:=.tuple #[.agg #[.int .i64 N1,.int .i64 J,.int .u32 CC],.int .i64 0]) (by simp[results,Tryz.results115,go_sem,H,B,E]) rfl ?_
  rw[g.o];exact⟨by rw[aG.o,aB.o,aK.o],ZeK (x.o.setCell (Nat.le_succ _) _) _ zL _ _ _⟩
theorem Ziu (g c:Value) (a b:List UInt8) (w:World) (d:Rd w g a) (f:Rd w c b):
 Calls prog 163 #[g,c] w fun e w'=>e=.returned (.bool (decide (a=b)))∧w'=w:=by
 have j:=d.str;have k:=f.str
 have i:((bs a).toList == (bs b).toList)=decide (a=b):=by
  rw[ZyZ];by_cases h:a=b
  ·rw[h,decide_eq_true rfl];exact beq_self_eq_true b
  ·rw[decide_eq_false h,beq_eq_false_iff_ne];exact h
 generalize decide (a=b)=D at *;clear d f
 go_enter func163,ntmps163
 go_wp2;go_ret;exact⟨rfl,rfl⟩
theorem Zni {A B:List (List UInt8)} (b:k<A.length) (c:k<B.length) (h:A.take k=B.take k) (a:A.getD k []=B.getD k []):A.take (k+1)=B.take (k+1):=by
 rw[List.take_add_one,List.take_add_one,h]
 congr 1
 simp only [List.getD,List.getElem?_eq_getElem b,List.getElem?_eq_getElem c,Option.getD_some] at a ⊢;rw[a]
theorem Zjn (I S:Value) (A B:List (List UInt8)) (w:World) (ha:RdL w I A) (hb:RdL w S B):
 Calls prog 162 #[I,S,.func (.func 163) #[] #[]] w fun e w'=>e=.returned (.bool (decide (A=B)))∧w'=w:=by
 obtain⟨aa,ac,rfl,af,J,-,L⟩:=ha;obtain⟨ba,bc,rfl,-,-,-,M⟩:=hb;have F:=ZZ L;have O:=ZZ M;have G:=ZZ (fun x y a b h1 h2=>Ziu x y a b w h1 h2)
 obtain⟨D,i⟩:∃ D,D=decide (A=B):=⟨_,rfl⟩;rw[<-i];have R:Hid (A=B->D=true):=fun h=>by rw[i];exact decide_eq_true h
 have z:Hid (¬ A=B->D=false):=fun h=>by rw[i];exact decide_eq_false h
 have ag:(A.length:Int)<=9223372036854775807:=by unfold maxLen at J;omega
 clear i L M J af;by_cases j:A.length=B.length
 case neg=>
  have Z:((A.length:Int) != (B.length:Int))=true:=by rw[bne_iff_ne];omega
  have U:=ZZ (z.o (fun h=>j (by rw[h])))
  clear j
  go_enter func162,ntmps162
  go_wp2;go_ret;rw[U.o];exact⟨rfl,rfl⟩
 have Z:((A.length:Int) != (B.length:Int))=false:=by rw[bne_eq_false_iff_eq];omega
 have N:=ZZ j
 have K:Hid (A.take A.length=B.take A.length->D=true):=ZZ (fun h=>R.o (by
  rw[take_length,N.o,take_length] at h
  exact h))
 have P:Hid (∀ k,k<A.length->A.getD k []≠B.getD k []->D=false):=ZZ (fun k W h=>z.o (fun hs=>h (by rw[hs])))
 clear j R z
 go_enter func162,ntmps162
 go_wp2
 go_loopw[17] (fun n wr=>∃ k:Nat,n=.int .i64 (k:Int)∧k<=A.length∧Hid (A.take k=B.take k)∧wr=w) (fun n _=>A.length-(intOf n).toNat)
 case atStart=>exact⟨0,rfl,Nat.zero_le _,rfl,rfl⟩
 case round=>
  obtain⟨k,rfl,W,H,rfl⟩:=hrel;by_cases f:k<A.length
  case neg=>
   obtain rfl:k=A.length:=by omega
   have HT:=ZZ (K.o H.out);go_wp2;go_ret;rw[HT.o];exact⟨rfl,rfl⟩
  have m:k<B.length:=by have:=N.o;omega
  rcases F.o with p | ⟨c,aj,rfl,Q⟩
  ·rw[p] at f;simp at f
  rcases O.o with p | ⟨c',ai,rfl,T⟩
  ·rw[p] at m;simp at m
  obtain⟨x,hx,v⟩:=Q k f;obtain⟨y,hy,u⟩:=T k m;have ak:(k:Int)<(A.length:Int):=by omega
  have al:(k:Int)<(B.length:Int):=by omega
  have E:=ZZ (P.o k f);have q:Hid (A.getD k []=B.getD k []->A.take (k+1)=B.take (k+1)):=ZZ (fun h=>Zni f m H.out h)
  have l:=ZZ (G.o x y _ _ v u);obtain⟨xa,xc,V⟩:∃ a c,x=.slice a (A.getD k []).length c:=by obtain⟨a,c,h,-⟩:=v;exact⟨a,c,h⟩
  obtain⟨ya,yc,ae⟩:∃ a c,y=.slice a (B.getD k []).length c:=by obtain⟨a,c,h,-⟩:=u;exact⟨a,c,h⟩
  subst V ae;clear Q T v u K P F O G;generalize A.getD k []=X at *;generalize B.getD k []=Y at *;by_cases d:X=Y
  ·have ab:=ZZ (q.o d)
   have t:Hid (decide (X=Y)=true):=decide_eq_true d;rw[t.o] at l;clear E q d
   go_wp2_with fail
   refine l.o.mono ?_;rintro e C ⟨rfl,g⟩;rw[g];clear g C;go_wp2;go_roundw
   case rel=>exact⟨k+1,by go_num,by omega,ab,trivial⟩
   case measure=>simp[intOf];omega
  ·have ad:=ZZ (E.o d)
   have t:Hid (decide (X=Y)=false):=decide_eq_false d;rw[t.o] at l;clear E q d
   go_wp2_with fail
   refine l.o.mono ?_;rintro e C ⟨rfl,g⟩;rw[g];clear g C;go_wp2;go_ret;rw[ad.o];exact⟨rfl,rfl⟩
theorem Zpc (v:Value) (L:List (List UInt8)) (w:World) (H:RdL w v L) (z:L.flatten.length<=1000000) (hn:L.length<=100000):
 Calls prog 131 #[v] w fun e w'=>∃ v',e=.returned v'∧Own w' w.heap.size v' L.flatten∧Below w.heap.size w w':=by
 have X:=ZZ (fun n W h=>Zqe n W h)
 have al:=ZZ H;have l:Hid (∀ k,Zlc L k<=1000000):=fun k=>Nat.le_trans (Zue L k) z
 have C:=ZZ (ZmN L);have ae:=ZZ (ZmM L);have O:=ZZ (Zqg L);have ai:=ZZ (Zqf L);obtain⟨F,p⟩:∃ F,F=L.flatten:=⟨_,rfl⟩;rw[<-p];rw[<-p] at O;obtain⟨ao,cap,rfl,-,-,-,R⟩:=H;have G:=ZZ R;clear R p z
 go_enter func131,ntmps131
 go_wp2
 go_loopw[3,11] (fun vs a wr=>∃ (k:Nat),vs=.int .i64 (Zlc L k:Int)∧a=.int .i64 (k:Int)∧k<=L.length∧wr=w) (fun _ a _=>L.length-(intOf a).toNat)
 case atStart=>exact⟨0,rfl,rfl,Nat.zero_le _,rfl⟩
 case round=>
  obtain⟨k,rfl,rfl,V,B⟩:=hrel;have ac:=B.symm;subst ac;clear B;by_cases b:k<L.length
  ·rcases G.o with u | ⟨c,aa,rfl,g⟩
   ·rw[u] at b;simp at b
   obtain⟨x,S,i⟩:=g k b;have J:=l.o (k+1);have q:=C.o k b;obtain⟨Y,cx,rfl,-⟩:=i;have h3:¬ ((Zlc L k:Int)+((L.getD k []).length:Int)<0):=by omega
   have h4:(Zlc L k:Int)+((L.getD k []).length:Int)<=1000000:=by omega
   have Z:=ZZ q;clear g J q;generalize Zlc L k=A at *;generalize (L.getD k []).length=D at *;go_wp2;go_roundw
   case rel=>exact⟨k+1,by rw[Z.o],by go_num,by omega,trivial⟩
   case measure=>simp[intOf];omega
  ·have ak:=ZZ (X.o (Zlc L k) w (l.o k))
   generalize Zlc L k=A at *
   go_wp2_with fail
   refine ak.o.mono ?_;rintro e W1 ⟨v1,rfl,M,Q⟩;have N:=ZZ M;have E:=ZZ Q;clear M Q V b;go_wp2
   go_loopw[6,27] (fun T a I=>∃ (j:Nat),a=.int .i64 (j:Int)∧j<=L.length∧Hid (Own I w.heap.size T (Zud L j))∧Hid (Below w.heap.size w I)) (fun _ a _=>L.length-(intOf a).toNat)
   case atStart=>exact⟨0,rfl,Nat.zero_le _,N,E⟩
   case round=>
    clear N E;obtain⟨j,rfl,hj,m,d⟩:=hrel;by_cases f:j<L.length
    ·rcases G.o with u | ⟨c,aa,rfl,g⟩
     ·rw[u] at f;simp at f
     obtain⟨x,y,i⟩:=g j f;have S:=(d.o.cell (World.block_lt_of_cell? _ _ y)).trans y;have ad:=ZZ (i.below d.o zL);obtain⟨Y,cx,rfl,-⟩:=i
     have ag:Hid ((Zud L j).length+(L.getD j []).length<=70368744177664):=ZZ (by
      have J:=l.o (j+1);have q:=C.o j f;rw[ai.o]
      omega)
     have ab:=ZZ d.o.size;have HN:=ZZ (ae.o j f);clear g y;generalize L.getD j []=D at *;generalize Zud L j=P at *
     go_wp2_with(at_builtin;refine Xi _ rfl _ _ rfl w.heap.size _ P rfl m.o _ D rfl ad.o ag.o ab.o ?_)
     intro v3 W3 t K;rw[<-HN.o] at t;have aj:=ZZ t;have af:=ZZ (d.o.trans K);clear t K;go_wp2;go_roundw
     case rel=>exact⟨j+1,by go_num,by omega,aj,af⟩
     case measure=>simp[intOf];omega
    ·have U:=ZZ (O.o j (by omega))
     rw[U.o] at m;go_wp2;go_ret;exact⟨_,rfl,m.o,d.o⟩
def Zls (P:List (List UInt8)) (n c:Nat):Int:=if P.flatten.length≠n then 16 else if ¬ Zfg P then 3 else if Q2 0 P.flatten≠c then 4 else 0
def Joined (w:World) (F:List UInt8) (er:Int) (e:Ending) (w':World):Prop:=
 ∃ v',e=.returned (.tuple #[v',.int .i64 er])∧Rd w' v' (if er=0 then F else[])∧Below w.heap.size w w'
theorem Zgq.rdl {v v':Value} {xs:List Value} {L:List (List UInt8)} (h:Zgq v l xs L) (b:w'.ownsRow B 53 1 v' L.length xs) (d:Rd w' v l):RdL w' v' L:=by
 rcases b.2 with ⟨a,n⟩ | ⟨g,cap,cur,a,p,t,f,k,u,q⟩
 ·have e:L=[]:=List.eq_nil_of_length_eq_zero n
  subst e;rw[a];exact RdL.nil _
 ·refine⟨some ⟨g,0,none⟩,cap,a,f,k,(fun e=>by cases e),.inr ⟨g,0,rfl,fun j i=>?_⟩⟩
  obtain⟨x,m,-,c⟩:=h.2 j i;refine⟨x,?_,c w' d⟩;have:=World.ownsRow.cells b (g:=g) (by rw[a];rfl) j x m
  rw[Addr.add_lit] at this;exact this
theorem Zwy (i:Int) (n c:Nat) (A:Value) (P:List (List UInt8)) (w:World) (C:RdL w A P) (au:P.flatten.length<=100000) (ax:P.length<=100000):
 Calls prog 116 #[.agg #[.int .i64 i,.int .i64 (n:Int),.int .u32 (c:Int)],A] w fun e w'=>Joined w P.flatten (Zls P n c) e w':=by
 have t:Hid (Below w.heap.size w (w.alloc (.cells #[.int .i64 i,.int .i64 (n:Int),.int .u32 (c:Int)] 147))):=ZZ ((Below.refl _ _).alloc zL _);have I:Hid (Bq (w.alloc (.cells #[.int .i64 i,.int .i64 (n:Int),.int .u32 (c:Int)] 147)) w.heap.size #[.int .i64 i,.int .i64 (n:Int),.int .u32 (c:Int)]):=ZZ (heap_alloc_new w _);have U:=ZZ (fun W (h:Below w.heap.size w W)=>Zpc A P W (C.below h zL) (by omega) ax)
 have K:=ZZ (fun z W h=>ZjU z P.flatten W h au)
 have v:=ZZ (fun vb W T b=>Zjn A vb P (Xu P.flatten) W T b)
 have Q:=ZZ (fun z W h=>Zle z P.flatten W h)
 have HP:=ZZ C;have ap:decide (P=Xu P.flatten)=decide (Zfg P):=decide_eq_decide.2 (ZtB P).symm;rw[ap] at v;have l:Hid (Zls P n c=if P.flatten.length≠n then 16 else if ¬ Zfg P then 3 else if Q2 0 P.flatten≠c then 4 else 0):=ZZ rfl
 obtain⟨pa,pc,aA⟩:∃ a c,A=.slice a P.length c:=by obtain⟨a,c,h,-⟩:=C;exact⟨a,c,h⟩
 subst aA;obtain⟨p,af⟩:∃ p,p=Zls P n c:=⟨_,rfl⟩;rw[<-af] at l ⊢;obtain⟨V,Y⟩:∃ V,V=decide (Zfg P):=⟨_,rfl⟩;rw[<-Y] at v;have aj:=ZZ Y;clear af C ap Y;obtain⟨d,ao⟩:∃ d,d=P.flatten:=⟨_,rfl⟩;rw[<-ao] at U K v Q l au ⊢;have aB:Hid (Xu d=Xu d):=ZZ rfl;clear ao;generalize Xu d=PF at *;generalize Q2 0 d=S at *;obtain⟨H,R⟩:∃ H:Int,H=(n:Int):=⟨_,rfl⟩;obtain⟨f,O⟩:∃ f:Int,f=(c:Int):=⟨_,rfl⟩;obtain⟨j,X⟩:∃ j:Int,j=(S:Int):=⟨_,rfl⟩;rw[<-R,<-O] at t I ⊢;rw[<-X] at Q;have al:=ZZ R;have ak:=ZZ O;have ae:=ZZ X;clear R O X
 go_enter func116,ntmps116
 go_wp2_with fail
 refine(U.o _ t.o).mono ?_;rintro e W1 ⟨z,rfl,ab,ad⟩;have F:=ZZ (t.o.trans (ad.mono t.o.size));have aa:=ZZ (I.o.below ad zL);have ac:=ZZ ab.rd;obtain⟨a1,c1,az⟩:∃ a c,z=.slice a d.length c:=by obtain⟨a,c,h,-⟩:=ab.rd;exact⟨a,c,h⟩
 subst az;obtain⟨p1,-⟩:=aa.o.cell 1;clear ab ad U t I;by_cases E:d.length=n
 case neg=>
  have m:Hid (p=16):=ZZ (by rw[l.o,if_pos E])
  have aw:((d.length:Int) != H)=true:=by rw[bne_iff_ne,al.o];omega
  clear E l;go_wp2;go_ret2;rw[m.o];exact⟨_,rfl,Rd.nil _,F.o⟩
 have aw:((d.length:Int) != H)=false:=by rw[bne_eq_false_iff_eq,al.o];omega
 have HL:=ZZ E;clear E
 go_wp2_with fail
 refine(K.o _ _ ac.o).mono ?_;rintro e B ⟨v2,xs,rfl,ai,ar,D⟩;have q:=ZZ (F.o.trans (D.mono F.o.size));have J:=ZZ (aa.o.below D zL);have G:=ZZ (ac.o.below D zL);have ag:=ZZ (ar.rdl ai G.o);obtain⟨a2,c2,ay⟩:∃ a c,v2=.slice a PF.length c:=by obtain⟨a,c,h,-⟩:=ag.o;exact⟨a,c,h⟩
 subst ay;clear ai D ar p1 K aa ac F
 go_wp2_with fail
 refine(v.o _ _ (HP.o.below q.o zL) ag.o).mono ?_;rintro e y ⟨rfl,aq⟩;rw[aq];clear aq y v
 cases V with
 | false=>
  have m:Hid (p=3):=ZZ (by rw[l.o,if_neg (fun h=>h HL.o),if_pos (of_decide_eq_false aj.o.symm)])
  clear l;go_wp2;go_ret2;rw[m.o];exact⟨_,rfl,Rd.nil _,q.o⟩
 | true=>
  have m:Hid (p=if S≠c then 4 else 0):=ZZ (by rw[l.o,if_neg (fun h=>h HL.o),if_neg (fun h=>h (of_decide_eq_true aj.o.symm))])
  have am:=ZZ (Q.o _ B.drew (G.o.below ((Below.refl _ _).drew) zL));obtain⟨q2,-⟩:=J.o.cell 2
  go_upto_region 6 with fail
  go_cut[21] (fun x wc=>x=.bool (decide (j≠f))∧Hid (Rd wc (.slice a1 d.length c1) d)∧Hid (Below w.heap.size w wc))
  case first=>
   by_cases g:j=f
   ·have T:(j != f)=false:=by rw[bne_eq_false_iff_eq];exact g
    have b:decide (j≠f)=false:=decide_eq_false (fun h=>h g)
    have M:=ZZ b;clear g b
    go_region_held(fun w'=>w'.cell? ⟨w.heap.size,2,none⟩=some (.int .u32 f)) (go_keep)
     (first
      | (go_at_call 136;refine am.o.mono ?_;rintro e y ⟨rfl,u⟩;have k:Below B.heap.size B y:=((Below.refl _ _).drew).trans u;have Z:=ZZ (q.o.trans (k.mono q.o.size));have N:=ZZ (G.o.below k zL);obtain⟨r2,-⟩:=(J.o.below k zL).cell 2;clear u k))
    all_goals
     go_wp2_with fail
     go_meet
     exact⟨by rw[M.o],N,Z⟩
   ·have T:(j != f)=true:=by rw[bne_iff_ne];exact g
    have b:decide (j≠f)=true:=decide_eq_true g;have M:=ZZ b;clear g b
    go_region_held(fun w'=>w'.cell? ⟨w.heap.size,2,none⟩=some (.int .u32 f)) (go_keep)
     (first
      | (go_at_call 136;refine am.o.mono ?_;rintro e y ⟨rfl,u⟩;have k:Below B.heap.size B y:=((Below.refl _ _).drew).trans u;have Z:=ZZ (q.o.trans (k.mono q.o.size));have N:=ZZ (G.o.below k zL);obtain⟨r2,-⟩:=(J.o.below k zL).cell 2;clear u k))
    all_goals
     go_wp2_with fail
     go_meet
     exact⟨by rw[M.o],N,Z⟩
  case rest=>
   obtain⟨WC,rfl⟩:∃ W,W=wc:=⟨_,rfl⟩;obtain⟨rfl,av,an⟩:=hcut;by_cases g:S=c
   ·have L:Hid (p=0):=ZZ (by rw[m.o,if_neg (by omega)])
    have b:decide (j≠f)=false:=decide_eq_false (by have:=ak.o;have:=ae.o;omega)
    rw[b];clear b g l m;go_wp2;go_ret2;rw[L.o];exact⟨_,rfl,av.o,an.o⟩
   ·have L:Hid (p=4):=ZZ (by rw[m.o,if_pos g])
    have b:decide (j≠f)=true:=decide_eq_true (by have:=ak.o;have:=ae.o;omega)
    rw[b];clear b g l m;go_wp2;go_ret2;rw[L.o];exact⟨_,rfl,Rd.nil _,an.o⟩
theorem Zwz (b a:Nat) (L:List (List UInt8)) (cap:Nat) (C:L.length<=cap) (l:1<=L.length):
 ∃ i m,(∀ W,(Instr.sliceAt 144 (.slice (some ⟨b,a,none⟩) L.length cap) (some (.int .i64 1)) none none).run prog W=.ok (.slice i (L.length-1) m) W)∧∀ W,RdL W (.slice (some ⟨b,a,none⟩) L.length cap) L->RdL W (.slice i (L.length-1) m) (L.drop 1):=by
 by_cases k:cap=1
 ·refine⟨some ⟨b,a,none⟩,cap-1,fun W=>?_,fun W h=>?_⟩
  ·have g:L.length=1:=by omega
   simp[go_sem,g,k]
  ·have g:L.drop 1=[]:=List.drop_eq_nil_of_le (by omega)
   obtain⟨v,w,c,y,p,q,f⟩:=h;simp only [Value.slice.injEq] at c;obtain⟨rfl,-,rfl⟩:=c;exact⟨_,_,by rw[length_drop],by rw[length_drop];omega,by omega,(fun e=>by cases e),.inl g⟩
 ·refine⟨some ⟨b,a+1,none⟩,cap-1,fun W=>?_,fun W h=>?_⟩
  ·have z:(1:Int)<=(L.length:Int):=by omega
   simp[go_sem,k,z]
  ·obtain⟨v,w,c,y,p,q,f⟩:=h
   simp only [Value.slice.injEq] at c;obtain⟨rfl,-,rfl⟩:=c;refine⟨_,_,by rw[length_drop],by rw[length_drop];omega,by omega,(fun e=>by cases e),?_⟩
   rcases f with f | ⟨b',B,d,u⟩
   ·rw[f] at l
    simp at l
   ·injection d with d
    injection d with d k7 _
    subst d k7;refine .inr ⟨b,a+1,rfl,fun j A=>?_⟩
    rw[length_drop] at A;obtain⟨x,t,n⟩:=u (j+1) (by omega)
    refine⟨x,by rw[show a+1+j=a+(j+1) by omega];exact t,?_⟩
    have e:(L.drop 1).getD j []=L.getD (j+1) []:=by simp[List.getD]
    rw[e];exact n
theorem Zsh:ZjA []=(Xr,16):=rfl
theorem Zpd (d:List UInt8) (P:List (List UInt8)):ZjA (d::P)=if(Yg d).2.2.2≠0 then(Xr,(Yg d).2.2.2) else if Zls P (Yg d).2.1 (Yg d).2.2.1≠0 then(Xr,Zls P (Yg d).2.1 (Yg d).2.2.1)
 else if(Yf P.flatten).2≠0 then(Xr,(Yf P.flatten).2) else if Zdk ⟨((Yg d).1:Nat),(Yf P.flatten).1.st,(Yf P.flatten).1.tab⟩ then(⟨((Yg d).1:Nat),(Yf P.flatten).1.st,(Yf P.flatten).1.tab⟩,0) else(Xr,1):=by
 unfold Zls;rw[ZjA];by_cases e:(Yg d).2.2.2≠0
 ·rw[if_pos e,if_pos e]
 rw[if_neg e,if_neg e];by_cases a:P.flatten.length≠(Yg d).2.1
 ·rw[if_pos a,if_pos a,if_pos (by decide)]
 rw[if_neg a,if_neg a];by_cases b:¬ Zfg P
 ·rw[if_pos b,if_pos b,if_pos (by decide)]
 rw[if_neg b,if_neg b];by_cases c:Q2 0 P.flatten≠(Yg d).2.2.1
 ·rw[if_pos c,if_pos c,if_pos (by decide)]
 rw[if_neg c,if_neg c,if_neg (show ¬ ((0:Int)≠0) by decide)]
theorem ZeL:∀ L:List (List UInt8),L.flatten.length+L.length<=(Qf L).length
 | []=>by simp[Qf]
 | x::t=>by
  have a:=ZeL t;have:=Qz x;rw[X4,length_append,List.flatten_cons,length_append,length_cons];omega
theorem Zpe (v:Value) (b:List UInt8) (w:World) (hr:Rd w v b) (bR:b.length<=100000):
 Calls prog 76 #[v] w fun e w'=>Zcg w (ZnQ b) e w':=by
 obtain⟨W0,af⟩:∃ W0,W0=w.alloc (.cells #[.int .i64 0,.int .i64 0,.slice none 0 0,.bool false,.int .i64 0,.slice none 0 0] 41):=⟨_,rfl⟩;have M:Hid (Below w.heap.size w W0):=ZZ (by rw[af];exact(Below.refl _ _).alloc zL _)
 have am:Hid (Bn W0 w.heap.size #[.int .i64 0,.int .i64 0,.slice none 0 0,.bool false,.int .i64 0,.slice none 0 0]):=ZZ (by rw[af];exact heap_alloc_new w _)
 have H:=ZZ (ZxH v b W0 (hr.below M.o zL) (by omega))
 obtain⟨va,vc,hv⟩:∃ a c,v=.slice a b.length c:=by obtain⟨a,c,h,-⟩:=hr;exact⟨a,c,h⟩
 subst hv;obtain⟨j,ai⟩:∃ j,j=ZnQ b:=⟨_,rfl⟩;rw[<-ai];by_cases V:(Qm b).2.2=0
 case neg=>
  have F:Hid (j=(Xr,(((Qm b).2.2:Nat):Int))):=ZZ (by rw[ai];unfold ZnQ;rw[if_pos V])
  have ha:ZwY b=([],(Qm b).2.2):=by unfold ZwY;rw[if_neg V]
  rw[ha] at H
  dsimp only at H
  generalize (Qm b).2.2=er at *;have aq:((er:Int) != 0)=true:=by rw[bne_iff_ne];omega
  obtain⟨E,hE⟩:∃ E:Int,E=(er:Int):=⟨_,rfl⟩;rw[<-hE] at H F aq;clear ha ai V hE hr
  go_enter func76,ntmps76
  go_wp2_with fail
  rw[<-af];refine H.o.mono ?_;rintro e W1 ⟨Y,rfl,U,C⟩;have g:=ZZ (am.o.below C zL);have K:=ZZ (M.o.trans (C.mono M.o.size));obtain⟨z,y0⟩:=g.o.cell 0;obtain⟨p,y1⟩:=g.o.cell 1;obtain⟨x,y2⟩:=g.o.cell 2;obtain⟨y,y3⟩:=g.o.cell 3;obtain⟨q,y4⟩:=g.o.cell 4;obtain⟨u,y5⟩:=g.o.cell 5;clear C U;go_wp2;refine bodyPost_ret (v:=.tuple #[.agg #[.int .i64 0,.int .i64 0,.slice none 0 0,.bool false,.int .i64 0,.slice none 0 0],.int .i64 E]) (by simp[results,Tryz.results76,go_sem,z,p,x,y,q,u]) rfl ?_
  rw[F.o];exact Zcg.zero _ (ZaY K.o _ zL _ _ _ _ _ _)
 have F:Hid (j=ZjA (Qm b).1):=ZZ (by rw[ai];unfold ZnQ;rw[if_neg (fun h=>h V)])
 have ha:ZwY b=((Qm b).1,0):=by unfold ZwY;rw[if_pos V]
 have ar:=ZeL (Qm b).1;rw[(Zfd b.length b zL V).1] at ar;rw[ha] at H
 dsimp only at H
 generalize (Qm b).1=LS at *;clear ha ai V hr
 cases LS with
 | nil=>
  rw[Zsh] at F
  go_enter func76,ntmps76
  go_wp2_with fail
  rw[<-af];refine H.o.mono ?_;rintro e W1 ⟨Y,rfl,U,C⟩;obtain⟨a1,c1,aS⟩:∃ a c,Y=.slice a 0 c:=by obtain⟨a,c,h,-⟩:=U;exact⟨a,c,h⟩
  subst aS;have g:=ZZ (am.o.below C zL);have K:=ZZ (M.o.trans (C.mono M.o.size));obtain⟨z,y0⟩:=g.o.cell 0;obtain⟨p,y1⟩:=g.o.cell 1;obtain⟨x,y2⟩:=g.o.cell 2;obtain⟨y,y3⟩:=g.o.cell 3;obtain⟨q,y4⟩:=g.o.cell 4;obtain⟨u,y5⟩:=g.o.cell 5;clear C U;go_wp2;refine bodyPost_ret (v:=.tuple #[.agg #[.int .i64 0,.int .i64 0,.slice none 0 0,.bool false,.int .i64 0,.slice none 0 0],.int .i64 16]) (by simp[results,Tryz.results76,go_sem,z,p,x,y,q,u]) rfl ?_
  rw[F.o];exact Zcg.zero _ (ZaY K.o _ zL _ _ _ _ _ _)
 | cons d P=>
  rw[Zpd] at F;have bw:P.flatten.length<=100000:=by rw[List.flatten_cons,length_append,length_cons] at ar;omega
  have bI:P.length<=100000:=by rw[List.flatten_cons,length_append,length_cons] at ar;omega
  have aU:Hid ((d::P).length=P.length+1):=ZZ rfl;have aw:=ZZ (fun Y W h=>Zgt Y d W h)
  have bt:=ZZ (fun i n c vp W h=>Zwy i n c vp P W h bw bI)
  have bq:=ZZ (fun Y W h=>Zlr Y P.flatten W h bw)
  have aQ:Hid (I64 ((Yg d).1:Nat)):=ZZ (by
   have:(Yg d).1<4611686018427387904:=by
    unfold Yg;split
    ·decide
    dsimp only
    split
    ·decide
    split
    ·decide
    split
    ·decide
    rcases Q4 (d.drop (1+(Qb (d.drop 1)).2)) with h | h
    ·rw[h];exact(by decide:(0:Nat)<4611686018427387904)
    ·exact h.1
   exact⟨by omega,by omega⟩)
  unfold ZyD at aw
  have aE:Hid (∀ (W:World) (n:Int),Below w.heap.size w W->j=(Xr,n)->Zcg w j (.returned (.tuple #[.agg #[.int .i64 0,.int .i64 0,.slice none 0 0,.bool false,.int .i64 0,.slice none 0 0],.int .i64 n])) ((((((W.setCell ⟨w.heap.size,0,none⟩ (.int .i64 0)).setCell ⟨w.heap.size,1,none⟩ (.int .i64 0)).setCell ⟨w.heap.size,2,none⟩ (.slice none 0 0)).setCell ⟨w.heap.size,3,none⟩ (.bool false)).setCell ⟨w.heap.size,4,none⟩ (.int .i64 0)).setCell ⟨w.heap.size,5,none⟩ (.slice none 0 0))):=ZZ (fun W n h e=>by
   rw[e]
   exact Zcg.zero _ (ZaY h _ zL _ _ _ _ _ _))
  clear ar;generalize Yg d=RM at *;obtain⟨f,I,O,me⟩:=RM
  dsimp only at F aw aQ
  have a0:=ZZ (fun rb ro c h=>Zwz rb ro (d::P) c h (by simp))
  have bO:(P.length:Int)<=100000:=by omega
  go_enter func76,ntmps76
  go_wp2_with fail
  rw[<-af];refine H.o.mono ?_;rintro e W1 ⟨Y,rfl,U,C⟩;have g:=ZZ (am.o.below C zL);have K:=ZZ (M.o.trans (C.mono M.o.size));have aT:=ZZ U;obtain⟨a1,c1,aS,a8,-,-,bK⟩:=U;subst aS;rcases bK with h0 | ⟨rb,ro,rfl,hc⟩
  ·cases h0
  obtain⟨x0,bv,bo⟩:=hc 0 (by simp)
  have bN:W1.cell? ⟨rb,ro,none⟩=some x0:=bv;have aV:Rd W1 x0 d:=bo;have bu:=ZZ aV;obtain⟨xa,xc,bD⟩:∃ a c,x0=.slice a d.length c:=by obtain⟨a,c,h,-⟩:=aV;exact⟨a,c,h⟩
  subst bD;obtain⟨ra,rc,br,bp⟩:=a0.o rb ro c1 a8;rw[aU.o,Nat.add_sub_cancel] at br;have aI:=ZZ (fun W h=>bp W h)
  rw[aU.o,Nat.add_sub_cancel,List.drop_one,List.tail_cons] at aI;rw[aU.o] at aT ⊢;have bQ:((P.length:Int)+1 == 0)=false:=beq_eq_false_iff_ne.2 (by omega)
  have bP:(0:Int)<(P.length:Int)+1:=by omega
  clear C hc bv bo bp H a8 a0 aV af am M
  go_wp2_with fail
  refine(aw.o _ _ bu.o).mono ?_;rintro e W2 ⟨rfl,ag⟩;obtain⟨l,aF⟩:∃ l,l=W2.alloc (.cells #[.int .i64 (f:Int),.int .i64 (I:Int),.int .u32 (O:Int)] 147):=⟨_,rfl⟩;have aC:Hid (Below W2.heap.size W2 l):=ZZ (by rw[aF];exact(Below.refl _ _).alloc zL _)
  have an:Hid (Bq l W2.heap.size #[.int .i64 (f:Int),.int .i64 (I:Int),.int .u32 (O:Int)]):=ZZ (by rw[aF];exact heap_alloc_new W2 _)
  have Q:=ZZ ((g.o.below ag zL).below aC.o zL);have aD:=ZZ ((K.o.trans (ag.mono K.o.size)).trans (aC.o.mono (Nat.le_trans K.o.size ag.size)));have bb:=ZZ ((aT.o.below ag zL).below aC.o zL)
  go_upto_region 7 with fail
  rw[<-aF];obtain⟨N,bi⟩:∃ N,N=W2.heap.size:=⟨_,rfl⟩;rw[<-bi] at an ⊢;clear aF bi ag bN g K aT aw bu aC;by_cases ac:me=0
  case neg=>
   have bL:(me != 0)=true:=by rw[bne_iff_ne];exact ac
   have J:Hid (j=(Xr,me)):=ZZ (by rw[F.o,if_pos ac])
   obtain⟨z,y0⟩:=Q.o.cell 0;obtain⟨p,y1⟩:=Q.o.cell 1;obtain⟨x,y2⟩:=Q.o.cell 2;obtain⟨y,y3⟩:=Q.o.cell 3;obtain⟨q,y4⟩:=Q.o.cell 4;obtain⟨u,y5⟩:=Q.o.cell 5;clear ac;go_wp2;refine bodyPost_ret (v:=.tuple #[.agg #[.int .i64 0,.int .i64 0,.slice none 0 0,.bool false,.int .i64 0,.slice none 0 0],.int .i64 me]) (by simp[results,Tryz.results76,go_sem,z,p,x,y,q,u]) rfl ?_
   exact aE.o _ _ aD.o J.o
  have bL:(me != 0)=false:=by rw[bne_eq_false_iff_eq];exact ac
  have aG:Hid (j=if Zls P I O≠0 then(Xr,Zls P I O) else if(Yf P.flatten).2≠0 then(Xr,(Yf P.flatten).2) else if Zdk ⟨(f:Nat),(Yf P.flatten).1.st,(Yf P.flatten).1.tab⟩ then(⟨(f:Nat),(Yf P.flatten).1.st,(Yf P.flatten).1.tab⟩,0) else(Xr,1)):=ZZ (by rw[F.o,if_neg (fun h=>h ac)])
  have ak:=ZZ (fun W h=>bt.o (f:Int) I O (.slice ra P.length rc) W h)
  obtain⟨G,a3⟩:∃ G,G=Zls P I O:=⟨_,rfl⟩;rw[<-a3] at aG ak;unfold Joined at ak;clear ac a3 F bt;generalize P.flatten=FL at *;obtain⟨m,aW⟩:∃ m,m=if G=0 then FL else[]:=⟨_,rfl⟩
  rw[<-aW] at ak;have bF:=ZZ aW;clear aW
  have aP:Hid (∀ W,Below l.heap.size l W->W.cell? ⟨N,0,none⟩=some (.int .i64 (f:Int))∧W.cell? ⟨N,1,none⟩=some (.int .i64 (I:Int))∧W.cell? ⟨N,2,none⟩=some (.int .u32 (O:Int))):=ZZ (fun W h=>by
   have hx:=an.o.below h zL
   exact⟨(hx.cell 0).1,(hx.cell 1).1,(hx.cell 2).1⟩)
  have au:Hid (Below l.heap.size l l.drew):=ZZ ((Below.refl _ _).drew)
  go_upto_region 9 with fail
  go_cut[5,7] (fun x5 x7 wc=>∃ a c,x5=.int .i64 G∧x7=.slice a m.length c∧Hid (Rd wc (.slice a m.length c) m)∧Hid (Below l.heap.size l wc))
  case first=>
   go_region_held(fun w'=>w'.cell? ⟨N,0,none⟩=some (.int .i64 (f:Int))∧w'.cell? ⟨N,1,none⟩=some (.int .i64 (I:Int))∧w'.cell? ⟨N,2,none⟩=some (.int .u32 (O:Int))) (first | (with_reducible exact aP.o _ au.o) | (with_reducible exact aP.o _ a2))
    (first
     | (go_at_call 116;refine(ak.o l.drew (aI.o _ (bb.o.below au.o zL))).mono ?_;rintro e W4 ⟨v4,rfl,aK,bf⟩;have a2:Below l.heap.size l W4:=au.o.trans bf;have aH:=ZZ aK;obtain⟨a4,c4,bC⟩:∃ a c,v4=.slice a m.length c:=(by obtain⟨a,c,h,-⟩:=aK;exact⟨a,c,h⟩);subst bC;clear aK bf))
   all_goals
    go_wp2_with fail
    go_meet
    exact⟨a4,c4,rfl,rfl,aH,ZZ a2⟩
  case rest=>
   obtain⟨WC,rfl⟩:∃ W,W=wc:=⟨_,rfl⟩;obtain⟨a4,c4,rfl,rfl,aH,ax⟩:=hcut;have D:=ZZ (Q.o.below ax.o zL);have a6:=ZZ (an.o.below ax.o zL);have aB:=ZZ (aD.o.trans (ax.o.mono aD.o.size));clear Q an aD bb ax aP au ak aI br;by_cases T:G=0
   case neg=>
    have bB:(G != 0)=true:=by rw[bne_iff_ne];exact T
    have J:Hid (j=(Xr,G)):=ZZ (by rw[aG.o,if_pos T])
    obtain⟨z,y0⟩:=D.o.cell 0;obtain⟨p,y1⟩:=D.o.cell 1;obtain⟨x,y2⟩:=D.o.cell 2;obtain⟨y,y3⟩:=D.o.cell 3;obtain⟨q,y4⟩:=D.o.cell 4;obtain⟨u,y5⟩:=D.o.cell 5;clear T;go_wp2;refine bodyPost_ret (v:=.tuple #[.agg #[.int .i64 0,.int .i64 0,.slice none 0 0,.bool false,.int .i64 0,.slice none 0 0],.int .i64 G]) (by simp[results,Tryz.results76,go_sem,z,p,x,y,q,u]) rfl ?_
    exact aE.o _ _ aB.o J.o
   have bB:(G != 0)=false:=by rw[bne_eq_false_iff_eq];exact T
   have bM:m=FL:=by rw[bF.o,if_pos T]
   subst bM;have ae:Hid (j=if(Yf m).2≠0 then(Xr,(Yf m).2) else if Zdk ⟨(f:Nat),(Yf m).1.st,(Yf m).1.tab⟩ then(⟨(f:Nat),(Yf m).1.st,(Yf m).1.tab⟩,0) else(Xr,1)):=ZZ (by rw[aG.o,if_neg (fun h=>h T)])
   have a9:=ZZ (bq.o _ _ aH.o);clear T aG bq
   go_wp2_with fail
   refine a9.o.mono ?_;rintro e W5 ⟨vl,vt,S,t,ok,rfl,aN,bn,bk,aX,bl,be,bc,a5,ao⟩;obtain⟨Z,lc,bJ⟩:∃ a c,vl=.slice a S.L.length c:=by obtain⟨a,c,h,-⟩:=aN;exact⟨a,c,h⟩
   obtain⟨ta,tc,bE⟩:=aX.shape;subst bJ bE;obtain⟨A,av⟩:∃ A,A=W5.alloc (.cells #[.int .i64 S.kind,.slice Z S.L.length lc,.bool S.shut,.int .i64 S.eng] 38):=⟨_,rfl⟩;have ad:Hid (Below W5.heap.size W5 A):=ZZ (by rw[av];exact(Below.refl _ _).alloc zL _)
   have aj:Hid (Bx A W5.heap.size #[.int .i64 S.kind,.slice Z S.L.length lc,.bool S.shut,.int .i64 S.eng]):=ZZ (by rw[av];exact heap_alloc_new W5 _)
   have R:=ZZ ((D.o.below ao zL).below ad.o zL);have bG:=ZZ ((a6.o.below ao zL).below ad.o zL);have aR:=ZZ (aB.o.trans (ao.mono aB.o.size));have aO:=ZZ (aR.o.trans (ad.o.mono aR.o.size));have ba:=ZZ (aN.below ad.o zL);have bx:=ZZ (aX.below ad.o zL);have ap:=ZZ (And.intro bn bk);have ay:Hid ((∀ k,(Value.slice Z S.L.length lc).ownBlock=some k->w.heap.size<k)∧(∀ k,(Value.slice ta t.length tc).ownBlock=some k->w.heap.size<k)):=ZZ ⟨fun k B=>by have h1:=bl k B;have h2:=D.o.lt;omega,fun k B=>by have h1:=be k B;have h2:=D.o.lt;omega⟩
   have bm:=ZZ bc;have bg:=ZZ a5
   go_upto_region 13 with fail
   rw[<-av];obtain⟨QS,aY⟩:∃ QS,QS=W5.heap.size:=⟨_,rfl⟩;rw[<-aY] at aj ⊢;clear av aY aN bn bk aX bl be bc a5 ao D a6 aB a9 aH ad aR
   cases ok with
   | false=>
    have h3:=bm.o rfl;have J:Hid (j=(Xr,3)):=ZZ (by rw[ae.o,if_pos (by rw[h3];decide),h3])
    obtain⟨z,y0⟩:=R.o.cell 0;obtain⟨p,y1⟩:=R.o.cell 1;obtain⟨x,y2⟩:=R.o.cell 2;obtain⟨y,y3⟩:=R.o.cell 3;obtain⟨q,y4⟩:=R.o.cell 4;obtain⟨u,y5⟩:=R.o.cell 5;clear h3;go_wp2;refine bodyPost_ret (v:=.tuple #[.agg #[.int .i64 0,.int .i64 0,.slice none 0 0,.bool false,.int .i64 0,.slice none 0 0],.int .i64 3]) (by simp[results,Tryz.results76,go_sem,z,p,x,y,q,u]) rfl ?_
    exact aE.o _ _ aO.o J.o
   | true=>
    obtain⟨er,aZ,aq⟩:=bg.o rfl;rw[aZ] at ae
    dsimp only at ae
    have J:Hid (j=if Zdk ⟨(f:Nat),S,t⟩ then(⟨(f:Nat),S,t⟩,0) else(Xr,1)):=ZZ (by
     rcases aq with h | ⟨h,h2⟩
     ·rw[ae.o,if_neg (fun h'=>h' h)]
     ·rw[ae.o,if_pos (by rw[h];decide),h,h2,if_neg (ZtD _ _)])
    have aL:=ZZ (fun W (h:Below A.heap.size A W)=>Zqh (.agg #[.int .i64 ((f:Nat):Int),.int .i64 S.kind,.slice Z S.L.length lc,.bool S.shut,.int .i64 S.eng,.slice ta t.length tc]) ⟨(f:Nat),S,t⟩ W ⟨_,_,rfl,ba.o.below h zL,ap.o.1,ap.o.2,bx.o.below h zL,aQ.o⟩)
    obtain⟨m0,-⟩:=bG.o.cell 0;obtain⟨s0,-⟩:=aj.o.cell 0;obtain⟨s1,-⟩:=aj.o.cell 1;obtain⟨s2,-⟩:=aj.o.cell 2;obtain⟨s3,-⟩:=aj.o.cell 3;have al:Hid (∀ X,Below A.heap.size A (A.alloc X)):=ZZ (fun X=>(Below.refl _ _).alloc zL X)
    have bj:Hid (∀ cs,Bn (A.alloc (.cells cs 41)) A.heap.size cs):=ZZ (fun cs=>heap_alloc_new A _)
    obtain⟨my,aJ⟩:∃ my,my=decide (Zdk ⟨((f:Nat):Int),S,t⟩):=⟨_,rfl⟩;rw[<-aJ] at aL;have a7:=ZZ aJ;clear aZ aq bg bm ae aJ
    go_wp2_with fail
    refine(aL.o _ (al.o _)).mono ?_;rintro e W8 ⟨rfl,az⟩;have ab:=ZZ ((R.o.below (al.o _) zL).below az zL);have aa:=ZZ ((bj.o _).below az zL);have aA:=ZZ ((al.o _).trans (az.mono (al.o _).size));have bz:=ZZ (aO.o.trans (aA.o.mono aO.o.size));have bA:=ZZ (ba.o.below aA.o zL);have bH:=ZZ (bx.o.below aA.o zL);obtain⟨z,y0⟩:=ab.o.cell 0;obtain⟨p,y1⟩:=ab.o.cell 1;obtain⟨x,y2⟩:=ab.o.cell 2;obtain⟨y,y3⟩:=ab.o.cell 3;obtain⟨q,y4⟩:=ab.o.cell 4;obtain⟨u,y5⟩:=ab.o.cell 5;clear az aL m0 s0 s1 s2 s3 R al bj aA
    cases my with
    | false=>
     have aM:Hid (j=(Xr,1)):=ZZ (by rw[J.o,if_neg (of_decide_eq_false a7.o.symm)])
     go_wp2;refine bodyPost_ret (v:=.tuple #[.agg #[.int .i64 0,.int .i64 0,.slice none 0 0,.bool false,.int .i64 0,.slice none 0 0],.int .i64 1]) (by simp[results,Tryz.results76,go_sem,z,p,x,y,q,u]) rfl ?_
     exact aE.o _ _ bz.o aM.o
    | true=>
     have aM:Hid (j=(⟨((f:Nat):Int),S,t⟩,0)):=ZZ (by rw[J.o,if_pos (of_decide_eq_true a7.o.symm)])
     obtain⟨q0,-⟩:=aa.o.cell 0;obtain⟨q1,-⟩:=aa.o.cell 1;obtain⟨q2,-⟩:=aa.o.cell 2;obtain⟨q3,-⟩:=aa.o.cell 3;obtain⟨q4,-⟩:=aa.o.cell 4;obtain⟨q5,-⟩:=aa.o.cell 5;go_wp2;refine bodyPost_ret (v:=.tuple #[.agg #[.int .i64 (f:Int),.int .i64 S.kind,.slice Z S.L.length lc,.bool S.shut,.int .i64 S.eng,.slice ta t.length tc],.int .i64 0]) (by simp[results,Tryz.results76,go_sem,z,p,x,y,q,u]) rfl ?_
     rw[aM.o];have bd:=ZpZ W8 w.heap.size (.int .i64 (f:Int)) (.int .i64 S.kind) (.slice Z S.L.length lc) (.bool S.shut) (.int .i64 S.eng) (.slice ta t.length tc);exact⟨_,_,rfl,bA.o.but bd (.inr fun k B=>by have:=ay.o.1 k B;omega),ap.o.1,ap.o.2,bH.o.but bd (.inr fun k B=>by have:=ay.o.2 k B;omega),aQ.o,(fun k B=>Nat.le_of_lt (ay.o.1 k B)),(fun k B=>Nat.le_of_lt (ay.o.2 k B)),Zew bz.o _ zL _ _ _ _ _ _⟩
def Z5 (m:List UInt8):Rec × Int × List UInt8 × Bool:=
 let m1:=behind (Qb m).2 m
 let m2:=behind (Qd m1).2 m1
 let m3:=behind (Q0 m2).2 m2
 (⟨0,(Qb m).1,0,(Q0 m2).1,zag (Qd m3).1⟩,zag (Qd m1).1,behind (Qd m3).2 m3,decide ((Qd m3).2≠0))
theorem ZeM (m:List UInt8):∃ b c a,b=behind (Qb m).2 m∧c=behind (Qd b).2 b∧a=behind (Q0 c).2 c∧Z5 m=(⟨0,(Qb m).1,0,(Q0 c).1,zag (Qd a).1⟩,zag (Qd b).1,behind (Qd a).2 a,decide ((Qd a).2≠0)):=
 ⟨_,_,_,rfl,rfl,rfl,rfl⟩
theorem Znj:(Q0 []).2=0:=by
 have:=ZpK [];simpa using this
theorem Zcn {d:Nat} (h:behind d l≠[]):d≠0:=fun e=>h (by rw[e];rfl)
theorem Zke (h:(Qd l).2≠0):l≠[]:=fun e=>h (by rw[e,Zbc])
theorem Zsi (h:(Qb l).2≠0):l≠[]:=fun e=>h (by rw[e,ZcR])
theorem Zsj (h:(Q0 l).2≠0):l≠[]:=fun e=>h (by rw[e];exact Znj)
theorem Ziv (h:(Qb l).2≠0):l=Lib.uvarint (Qb l).1++behind (Qb l).2 l:=by
 rw[Ye h,Zc h,List.take_append_drop]
theorem Znk (h:(Qd l).2≠0):l=Lib.uvarint (Qd l).1++behind (Qd l).2 l:=by
 rw[Ye h,Zjx h,List.take_append_drop]
theorem ZuC (h:(Q0 l).2≠0):l=Xo (Q0 l).1++behind (Q0 l).2 l:=by
 rw[Ye h,(Zha h).2,List.take_append_drop]
theorem ZuD {m:List UInt8} (h:(Z5 m).2.2.2=false):(Z5 m).2.2.1=[]:=by
 unfold Z5 at h ⊢;simp only [decide_eq_false_iff_not,Decidable.not_not] at h ⊢;rw[h];rfl
theorem take_nil:(Z5 []).2.2.2=false:=by
 obtain⟨i,b,k,a,f,j,c⟩:=ZeM [];have e:i=[]:=by rw[a,ZcR];rfl
 have d:b=[]:=by rw[f,e,Zbc];rfl
 have g:k=[]:=by rw[j,d,Znj];rfl
 rw[c,g];show decide ((Qd []).2≠0)=false;rw[Zbc];rfl
theorem Zsk {m:List UInt8} (h:(Z5 m).2.2.2=true):
 m=Lib.uvarint (Z5 m).1.proc.toNat++(Lib.uvarint (Lib.zigzag (Z5 m).2.1)++(Xo (Z5 m).1.op++(Lib.uvarint (Lib.zigzag (Z5 m).1.resp)++(Z5 m).2.2.1))):=by
 obtain⟨b,a,c,d,g,k,p⟩:=ZeM m;rw[p] at h ⊢;simp only [decide_eq_true_eq] at h;have j:(Q0 a).2≠0:=Zcn (l:=a) (by rw[<-k];exact Zke h)
 have n:(Qd b).2≠0:=Zcn (l:=b) (by rw[<-g];exact Zsj j)
 have t:(Qb m).2≠0:=Zcn (l:=m) (by rw[<-d];exact Zke n)
 have q:=Znk h;have i:=ZuC j;have e:=Znk n;have f:=Ziv t;rw[<-d] at f;rw[<-g] at e;rw[<-k] at i;show m=Lib.uvarint ((Qb m).1:Int).toNat++(Lib.uvarint (Lib.zigzag (zag (Qd b).1))++(Xo (Q0 a).1++(Lib.uvarint (Lib.zigzag (zag (Qd c).1))++behind (Qd c).2 c)));rw[Int.toNat_natCast,ZbF,ZbF];exact f.trans (congrArg (Lib.uvarint (Qb m).1++·) (e.trans (congrArg (Lib.uvarint (Qd b).1++·) (i.trans (congrArg (Xo (Q0 a).1++·) q)))))
theorem ZuE (m:List UInt8):I64 (Z5 m).1.proc∧I64 (Z5 m).2.1∧Zxh (Z5 m).1.op∧I64 (Z5 m).1.resp∧(Z5 m).1.idx=0∧(Z5 m).1.seq=0∧0<=(Z5 m).1.proc:=by
 have a:∀ l:List UInt8,I64 (zag (Qd l).1):=fun l=>ZnN (Zks l)
 have t:(Qb m).1<4611686018427387904:=by
  rcases Q4 m with e | e
  ·rw[e];decide
  ·exact e.1
 have p:∀ l:List UInt8,Zxh (Q0 l).1:=fun l=>by
  by_cases h:(Q0 l).2=0
  ·rw[ZqG h]
   exact⟨⟨by decide,by decide⟩,⟨by decide,by decide⟩,⟨by decide,by decide⟩⟩
  ·have d:=(Zha h).1
   have b:=ZaG d;obtain⟨u,w,_⟩:=d;refine⟨?_,b.1,b.2⟩;generalize (Q0 l).1.code=c at *;exact⟨by omega,by omega⟩
 obtain⟨i,g,k,x,v,q,n⟩:=ZeM m;have f:I64 ((Qb m).1:Int):=⟨by omega,by omega⟩
 have j:(0:Int)<=((Qb m).1:Int):=by omega
 rw[n];exact⟨f,a i,p g,a k,rfl,rfl,j⟩
theorem ZxN (m:List UInt8):(Z5 m).2.2.1.length<=m.length:=by
 obtain⟨d,a,f,g,k,l,j⟩:=ZeM m;rw[j];have e:=Zn (Qb m).2 m;have c:=Zn (Qd d).2 d;have b:=Zn (Q0 a).2 a;have i:=Zn (Qd f).2 f;rw[<-g] at e;rw[<-k] at c;rw[<-l] at b;exact Nat.le_trans i (Nat.le_trans b (Nat.le_trans c e))
theorem ZwA {a:List Rec} (j:∀ r ∈ a,Qw r) {r:Rec} (d:Qw r) (t:List UInt8):
 Z5 (Ys a r++t)=(⟨0,r.proc,0,r.op,r.resp⟩,r.seq-Qy a r.proc,t,true):=by
 have b:=Zem j d;have c:=ZaQ d;obtain⟨l,_,_,u,q,p,n,_⟩:=id d
 have E:Ys a r++t=Lib.uvarint r.proc.toNat++(Lib.uvarint (Lib.zigzag (r.seq-Qy a r.proc))++(Xo r.op++(Lib.uvarint (Lib.zigzag r.resp)++t))):=by
  unfold Ys;simp only [append_assoc]
 rw[E]
 have m:(Xo r.op).length≠0:=by
  unfold Xo;have:=Zej r.op.code.toNat;rw[length_append];omega
 have k:=X3 r.proc.toNat (Lib.uvarint (Lib.zigzag (r.seq-Qy a r.proc))++(Xo r.op++(Lib.uvarint (Lib.zigzag r.resp)++t))) (by omega)
 have i:=Zu (Lib.zigzag (r.seq-Qy a r.proc)) (Xo r.op++(Lib.uvarint (Lib.zigzag r.resp)++t)) (ZbH b);have e:=ZlK r.op l (Lib.uvarint (Lib.zigzag r.resp)++t);have g:=Zu (Lib.zigzag r.resp) t (ZbH c);unfold Z5;simp only [k,Ye (Zej _),List.drop_left,i,e,Ye m,g,ZaM _ b.1 b.2,ZaM _ c.1 c.2];have f:((r.proc.toNat:Nat):Int)=r.proc:=by omega
 rw[f,decide_eq_true (Zej _)]
theorem Zco {ao:Option Addr} {cap:Nat} (g:Rd w (.slice ao l.length cap) l) (d:Nat) (i:d<=l.length):
 ∃ b c,(∀ W,(Instr.sliceAt 53 (.slice ao l.length cap) (some (.int .i64 (d:Int))) none none).run prog W=.ok (.slice b (l.drop d).length c) W)∧Rd w (.slice b (l.drop d).length c) (l.drop d):=by
 obtain⟨k,m,e,j,r⟩:=id g;simp only [Value.slice.injEq] at e;obtain⟨rfl,_,rfl⟩:=e;have a:=g.mid d l.length cap i zL j zL;rw[List.take_of_length_le (by simp)] at a
 obtain⟨b,c,f,-⟩:=id a;rw[f] at a;refine⟨b,c,fun W=>?_,a⟩
 rw[run_sliceAt_slice W 53 _ _ _ _ Xf,run_slice_l W 53 ao l.length cap Xf .i64 (d:Int) (by omega) (by omega),Zw,Zcd]
 show Result.ok (sliced ao ((d:Int)).toNat l.length cap 1) W=_;rw[Int.toNat_natCast,f]
def ZiT (w:World) (g:Nat) (L:List Rec):Prop:=w.heap[g]?=some (.cells (Qq L).toArray 62 (0,0))
theorem ZiT.lt (h:ZiT w g L):g<w.heap.size:=(Array.getElem?_eq_some_iff.1 h).1
theorem ZiT.below (h:ZiT w g L) (a:Below B w w') (b:w.heap.size<=B):ZiT w' g L:=(a.block g (by have:=h.lt;omega)).trans h
theorem ZiT.cell (h:ZiT w g L) (i:Nat):w.cell? ⟨g,i,none⟩=(Qq L)[i]?∧w.frozen? ⟨g,i,none⟩=false:=
 ⟨(cell_of_row w g i _ _ _ h).trans (by simp),frozen_of_row w g i _ _ h⟩
theorem ZiT.at (h:ZiT w g L) {k:Nat} (b:k<L.length):Zja w g (k*7) (L.getD k Qi):=by
 have a:∀ j u,j<7->(Zi (L.getD k Qi))[j]?=some u->w.cell? ⟨g,k*7+j,none⟩=some u:=fun j u d c=>(h.cell _).1.trans ((Zbp L k j b d).trans c)
 exact⟨a 0 _ (by decide) rfl,a 1 _ (by decide) rfl,a 2 _ (by decide) rfl,a 3 _ (by decide) rfl,a 4 _ (by decide) rfl,a 5 _ (by decide) rfl,a 6 _ (by decide) rfl⟩
theorem Zgd:∀ (L:List Rec) (k j:Nat) (v:Value) (r:Rec),k<L.length->j<7->(Zi r).toList=(Zi (L.getD k Qi)).toList.set j v->(Qq L).set (k*7+j) v=Qq (L.set k r)
 | s::t,0,j,v,r,_,hj,h=>by
  have e:((s::t).getD 0 Qi)=s:=rfl;rw[e] at h;rw[Qq,Nat.zero_mul,Nat.zero_add,List.set_append_left _ _ (by simp[Zi];omega),<-h]
  rfl
 | s::t,k+1,j,v,r,hk,hj,h=>by
  have e:(k+1)*7+j=(Zi s).toList.length+(k*7+j):=by simp[Zi];omega
  have a:((s::t).getD (k+1) Qi)=t.getD k Qi:=by simp[List.getD]
  rw[a] at h;rw[Qq,e,List.set_append_right _ _ (by omega),Nat.add_sub_cancel_left,Zgd t k j v r (by simpa using hk) hj h]
  rfl
theorem ZiT.set (h:ZiT w g L) {k:Nat} (a:k<L.length) (j:Nat) (b:j<7) (v:Value) (r:Rec) (c:(Zi r).toList=(Zi (L.getD k Qi)).toList.set j v):
 ZiT (w.setCell ⟨g,k*7+j,none⟩ v) g (L.set k r):=by
 have:=heap_setCell_same w g (k*7+j) _ _ v h;unfold ZiT;rw[<-Zgd L k j v r a b c];simpa using this
theorem Zav (a:k<L.length) (r:Rec):(L.set k r).getD k Qi=r:=by simp[List.getD,a]
theorem ZiT.seven (h:ZiT w g L) {k:Nat} (d:k<L.length) (i p s c a b y:Int):
 ZiT (((((((w.setCell ⟨g,k*7,none⟩ (.int .i64 i)).setCell ⟨g,k*7+1,none⟩ (.int .i64 p)).setCell ⟨g,k*7+2,none⟩ (.int .i64 s)).setCell ⟨g,k*7+3,none⟩ (.int .i64 c)).setCell ⟨g,k*7+4,none⟩ (.int .i64 a)).setCell ⟨g,k*7+5,none⟩ (.int .i64 b)).setCell ⟨g,k*7+6,none⟩ (.int .i64 y)) g (L.set k ⟨i,p,s,⟨c,a,b⟩,y⟩):=by
 have e:∀ r,k<(L.set k r).length:=fun r=>by simpa using d
 generalize C:L.getD k Qi=R;obtain⟨D,A,t,⟨m,l,j⟩,f⟩:=R;have B:=h.set d 0 (by decide) (.int .i64 i) ⟨i,A,t,⟨m,l,j⟩,f⟩ (by rw[C];rfl)
 have x:=B.set (e _) 1 (by decide) (.int .i64 p) ⟨i,p,t,⟨m,l,j⟩,f⟩ (by rw[Zav d];rfl)
 rw[List.set_set] at x;have u:=x.set (e _) 2 (by decide) (.int .i64 s) ⟨i,p,s,⟨m,l,j⟩,f⟩ (by rw[Zav d];rfl)
 rw[List.set_set] at u;have n:=u.set (e _) 3 (by decide) (.int .i64 c) ⟨i,p,s,⟨c,l,j⟩,f⟩ (by rw[Zav d];rfl)
 rw[List.set_set] at n;have q:=n.set (e _) 4 (by decide) (.int .i64 a) ⟨i,p,s,⟨c,a,j⟩,f⟩ (by rw[Zav d];rfl)
 rw[List.set_set] at q;have z:=q.set (e _) 5 (by decide) (.int .i64 b) ⟨i,p,s,⟨c,a,b⟩,f⟩ (by rw[Zav d];rfl)
 rw[List.set_set] at z;have v:=z.set (e _) 6 (by decide) (.int .i64 y) ⟨i,p,s,⟨c,a,b⟩,y⟩ (by rw[Zav d];rfl)
 rw[List.set_set] at v;exact v
theorem ZiT.rd (h:ZiT w g L) (b:∀ r ∈ L,ZcK r) (a:L.length<=maxLen):RdR w (.slice (some ⟨g,0,none⟩) L.length L.length) L:=
 ⟨_,_,rfl,Nat.le_refl _,a,(fun e=>by cases e),b,.inr ⟨g,0,rfl,fun j c=>by rw[Nat.zero_add];exact h.at c⟩⟩
theorem ZeN:∀ n:Nat,Qq (List.replicate n Qi)=List.replicate (n*7) (Value.int .i64 0)
 | 0=>rfl
 | n+1=>by
  have e:(n+1)*7=7+n*7:=by omega
  rw[List.replicate_succ,Qq,ZeN n,e,<-List.replicate_append_replicate];rfl
theorem Zlt (w:World) (n:Nat) (l:n<=1000000):(Instr.makeSlice 29 (.int .i64 (n:Int)) (.int .i64 (n:Int))).run prog w=.ok (.slice (some ⟨w.heap.size,0,none⟩) n n) (w.alloc (.cells (Qq (List.replicate n Qi)).toArray 62)):=by
 obtain⟨b,a,c,d,f⟩:=info_parts Zdc;have h:=run_make (P:=prog) w 29 62 b _ underlying29 a c .i64 .i64 (n:Int) (n:Int) (by omega) (Int.le_refl _) (by rw[f];omega) (by omega)
 rw[Int.toNat_natCast,d] at h;rw[h]
 congr 3
 apply Array.ext';rw[ZeN];apply List.ext_getElem?;intro i;show(madeCells #[Value.int .i64 0,.int .i64 0,.int .i64 0,.int .i64 0,.int .i64 0,.int .i64 0,.int .i64 0] (n*7)).toList[i]?=_;by_cases a:i<n*7
 ·have g:i % 7<7:=Nat.mod_lt _ (by decide)
  have e:∀ j,j<7->(#[Value.int .i64 0,.int .i64 0,.int .i64 0,.int .i64 0,.int .i64 0,.int .i64 0,.int .i64 0]:Array Value)[j]! = .int .i64 0:=by
   intro j k
   match j,k with
   | 0,_ | 1,_ | 2,_ | 3,_ | 4,_ | 5,_ | 6,_=>rfl
  simp only [madeCells,Array.toList_map,Array.toList_range,List.getElem?_map,List.getElem?_range a,Option.map_some,List.getElem?_replicate,if_pos a];exact congrArg some (e (i % 7) g)
 ·simp[madeCells,a]
structure Zpf (b:List UInt8) (first count:Nat) (L:List Rec) (m:List UInt8) (t:Bool):Prop where
 chain:Xq first L
 ok:∀ r ∈ L,ZcK r
 sound:t=true->(∀ r ∈ L,Qw r)->b=Lib.uvarint first++(Lib.uvarint count++(Xw [] L++m))
 none:t=false->m=[]
 whole:∀ l',Yc l'->Y2 l'=b->l'.length=count∧L=l'.take L.length∧m=Xw (l'.take L.length) (l'.drop L.length)∧t=true∧(l'.headD Qi).idx=first
def ZcT (first:Nat) (L:List Rec) (r:Rec) (d:Int):Rec:=⟨(first:Int)+L.length,r.proc,IntKind.i64.wrap (Qy L r.proc+d),r.op,r.resp⟩
theorem Ziw (n:Int):I64 (IntKind.i64.wrap n):=by
 unfold I64;rw[IntKind.wrap_i64];omega
theorem ZuF {a d:Int} (f:0<=a) (g:a<4611686018427387904) (b:I64 d) (j:0<=IntKind.i64.wrap (a+d)) (c:IntKind.i64.wrap (a+d)<4611686018427387904):IntKind.i64.wrap (a+d)-a=d:=by
 obtain⟨i,e⟩:=b;rw[IntKind.wrap_i64] at *;omega
theorem Zpf.step {b:List UInt8} {i:Nat} (h:Zpf b first i L m t) (hf:first<4611686018427387904) (ac:L.length<i) (hc:i<=256)
 {R:Rec} {d:Int} {m':List UInt8} {p:Bool} (l:Z5 m=(R,d,m',p)):
 Zpf b first i (L++[ZcT first L R d]) m' p:=by
 have z:=ZuE m;have u:=@ZuD m;have x:=@Zsk m
 have M:m=[]->p=false:=fun e=>by
  have:=take_nil;rw[<-e,l] at this;exact this
 rw[l] at z u x;obtain⟨A,G,ho,K,-,-,ab⟩:=z;refine⟨?_,?_,?_,u,?_⟩
 ·exact(ZfA L first (ZcT first L R d)).2 ⟨h.chain,rfl⟩
 ·intro r hr
  rcases List.mem_append.1 hr with hr | hr
  ·exact h.ok r hr
  ·simp only [List.mem_singleton] at hr
   rw[hr];have j:I64 ((first:Int)+L.length):=⟨by omega,by omega⟩
   exact⟨j,A,Ziw _,ho,K⟩
 ·intro c q
  have k:m≠[]:=fun e=>by
   rw[M e] at c
   cases c
  have E:t=true:=by
   cases t with
   | true=>rfl
   | false=>exact absurd (h.none rfl) k
  have y:∀ r ∈ L,Qw r:=fun r hr=>q r (by simp[hr])
  have hn:Qw (ZcT first L R d):=q _ (by simp)
  have C:=h.sound E y;have H:=x c;obtain⟨N,W⟩:=ZjB R.proc y;obtain⟨_,_,_,B,O,_⟩:=hn;have D:(ZcT first L R d).seq-Qy L (ZcT first L R d).proc=d:=ZuF N W G B O
  have Y:Xw [] (L++[ZcT first L R d])=Xw [] L++Ys L (ZcT first L R d):=by
   rw[Zhn];simp[Xw]
  have h1:Ys L (ZcT first L R d)++m'=m:=by
   unfold Ys;rw[D];refine Eq.trans ?_ H.symm;simp only [append_assoc];rfl
  rw[Y,append_assoc,h1];exact C
 ·intro a g S
  obtain⟨I,n,P,w4,v⟩:=h.whole a g S;have f:L.length<a.length:=by omega
  have w:Qw (a.getD L.length Qi):=g.2.2.1 _ (by simp[List.getD,f])
  have aa:∀ r ∈ L,Qw r:=fun r hr=>by
   rw[n] at hr;exact g.2.2.1 r (mem_of_mem_take hr)
  have F:a.drop L.length=a.getD L.length Qi::a.drop (L.length+1):=by
   rw[List.drop_eq_getElem_cons f];simp[List.getD,f]
  have k:m=Ys L (a.getD L.length Qi)++Xw (L++[a.getD L.length Qi]) (a.drop (L.length+1)):=by
   rw[P,F,Xw,<-n]
  have c:=ZwA aa w (Xw (L++[a.getD L.length Qi]) (a.drop (L.length+1)));rw[<-k,l] at c;have j:=ZmU a _ _ g.2.2.2 f;rw[v] at j;have U:(L++[ZcT first L R d]).length=L.length+1:=by simp
  rw[U,Zfz f];rw[<-n];generalize a.getD L.length Qi=r at *;simp only [Prod.mk.injEq] at c;obtain⟨X,Q,Z,T⟩:=c
  have V:ZcT first L R d=r:=by
   obtain⟨_,_,_,q0,q1,_⟩:=w;unfold ZcT;rw[X,Q];have J:Qy L r.proc+(r.seq-Qy L r.proc)=r.seq:=by omega
   show(⟨_,r.proc,IntKind.i64.wrap (Qy L r.proc+(r.seq-Qy L r.proc)),r.op,r.resp⟩:Rec)=_;rw[J,ZnS ⟨by omega,by omega⟩,<-j]
  rw[V];exact⟨I,rfl,Z,T,v⟩
theorem Zpf.done {b:List UInt8} (h:Zpf b first L.length L m t):
 (t=true∧m=[]∧Yc L->Y2 L=b)∧(¬ (t=true∧m=[]∧Yc L)->∀ a,Yc a->Y2 a≠b):=by
 constructor
 ·rintro⟨ht,hm,hf⟩
  have f:=h.sound ht hf.2.2.1;rw[hm,List.append_nil] at f;rw[f];unfold Y2;have c:=h.chain;have l:=hf.1
  match L,l,c with
  | r::u,_,c=>
   have e:r.idx=(first:Int):=c.1;show Lib.uvarint r.idx.toNat++_=_;rw[e,Int.toNat_natCast]
 ·intro p a d k
  obtain⟨g,i,j,n,q⟩:=h.whole a d k;rw[<-g,take_length] at i;refine p ⟨n,?_,by rw[i];exact d⟩
  rw[j,<-g,List.drop_length];rfl
theorem ZdR (x:Int) (d:Nat) (v:Value) (m:List UInt8) (w:World) (c:Rd w v m) (i:d<=m.length)
 (b:Calls prog 168 #[v] w fun e w'=>e=.returned (.tuple #[.int .i64 x,.int .i64 (d:Nat)])∧w'=w):
 Calls prog 167 #[v,.func (.func 168) #[] #[]] w fun e w'=>∃ v',e=.returned (.tuple #[.int .i64 x,v',.bool (decide (d≠0))])∧Rd w' v' (behind d m)∧Below w.heap.size w w':=by
 have g:=ZZ b;have l:=ZZ c;obtain⟨ao,cap,rfl,-⟩:=c;by_cases a:d=0
 ·subst a
  clear b
  go_enter func167,ntmps167
  go_wp2_with fail
  refine g.o.mono ?_;rintro e w' ⟨rfl,rfl⟩;go_wp2;refine bodyPost_ret (v:=.tuple #[.int .i64 x,.slice none 0 0,.bool false]) (by simp[results,Tryz.results167,go_sem]) rfl ?_
  exact⟨_,rfl,Rd.nil _,Below.refl _ _⟩
 ·have t:((d:Int) == 0)=false:=beq_eq_false_iff_ne.2 (by omega)
  have k:Hid (behind d m=m.drop d):=if_neg a;have p:Hid (decide (d≠0)=true):=decide_eq_true a;obtain⟨n,q,hcut,f⟩:=Zco l.o d i;have j:=ZZ f;clear b a f;generalize m.drop d=M at *
  go_enter func167,ntmps167
  go_wp2_with fail
  refine g.o.mono ?_;rintro e w' ⟨rfl,rfl⟩;go_wp2;refine wp_region_quiet_lit (by kernel_rfl) (by kernel_rfl) ?_
  repeat (go_big_quiet_step (fail))
  refine wpQuiet_nil ?_;rintro _ ⟨nq,rfl⟩;go_wp2;refine bodyPost_ret (v:=.tuple #[.int .i64 x,.slice n M.length q,.bool true]) (by simp[results,Tryz.results167,go_sem]) rfl ?_
  refine⟨_,by rw[p.o],?_,Xn (Below.refl _ _) _⟩
  rw[k.o];exact j.o.below (Xn (Below.refl _ _) _) zL
theorem Zdu (x:Int) (d:Nat) (v:Value) (m:List UInt8) (w:World) (c:Rd w v m) (i:d<=m.length)
 (b:Calls prog 201 #[v] w fun e w'=>e=.returned (.tuple #[.int .i64 x,.int .i64 (d:Nat)])∧w'=w):
 Calls prog 167 #[v,.func (.func 201) #[] #[]] w fun e w'=>∃ v',e=.returned (.tuple #[.int .i64 x,v',.bool (decide (d≠0))])∧Rd w' v' (behind d m)∧Below w.heap.size w w':=by
 have g:=ZZ b;have l:=ZZ c;obtain⟨ao,cap,rfl,-⟩:=c;by_cases a:d=0
 ·subst a
  clear b
  go_enter func167,ntmps167
  go_wp2_with fail
  refine g.o.mono ?_;rintro e w' ⟨rfl,rfl⟩;go_wp2;refine bodyPost_ret (v:=.tuple #[.int .i64 x,.slice none 0 0,.bool false]) (by simp[results,Tryz.results167,go_sem]) rfl ?_
  exact⟨_,rfl,Rd.nil _,Below.refl _ _⟩
 ·have t:((d:Int) == 0)=false:=beq_eq_false_iff_ne.2 (by omega)
  have k:Hid (behind d m=m.drop d):=if_neg a;have p:Hid (decide (d≠0)=true):=decide_eq_true a;obtain⟨n,q,hcut,f⟩:=Zco l.o d i;have j:=ZZ f;clear b a f;generalize m.drop d=M at *
  go_enter func167,ntmps167
  go_wp2_with fail
  refine g.o.mono ?_;rintro e w' ⟨rfl,rfl⟩;go_wp2;refine wp_region_quiet_lit (by kernel_rfl) (by kernel_rfl) ?_
  repeat (go_big_quiet_step (fail))
  refine wpQuiet_nil ?_;rintro _ ⟨nq,rfl⟩;go_wp2;refine bodyPost_ret (v:=.tuple #[.int .i64 x,.slice n M.length q,.bool true]) (by simp[results,Tryz.results167,go_sem]) rfl ?_
  refine⟨_,by rw[p.o],?_,Xn (Below.refl _ _) _⟩
  rw[k.o];exact j.o.below (Xn (Below.refl _ _) _) zL
theorem Bo.set (h:Bo w b cs) (j:Nat) (x:Value):Bo (w.setCell ⟨b,j,none⟩ x) b (cs.setIfInBounds j x):=by
 have:=heap_setCell_same w b j _ _ x h;unfold Bo;simpa using this
theorem Bo.three {c a d:Value} (h:Bo w b #[c,a,d]) (x y z:Value):Bo (((w.setCell ⟨b,0,none⟩ x).setCell ⟨b,1,none⟩ y).setCell ⟨b,2,none⟩ z) b #[x,y,z]:=by
 have e:=((h.set 0 x).set 1 y).set 2 z;exact e
theorem Zsl (v:Value) (m:List UInt8) (w:World) (C:Rd w v m) (T:m.length<=1000000):
 Calls prog 208 #[v,.func (.func 209) #[] #[]] w fun e w'=>∃ v',e=.returned (.tuple #[opV (Q0 m).1,v',.bool (decide ((Q0 m).2≠0))])∧Rd w' v' (behind (Q0 m).2 m)∧Below w.heap.size w w':=by
 have A:=ZZ (fun W h=>ZuA v m W h T)
 unfold ZtI at A;have x:=ZZ C;have K:=ZpK m;obtain⟨ao,cap,rfl,-⟩:=C;have l:Hid (∀ X,Below w.heap.size w (w.alloc X)):=fun X=>(Below.refl _ _).alloc zL X
 generalize (Q0 m).2=d at *;generalize (Q0 m).1=o at *;have B:Hid (∀ cs,Bo (w.alloc (.cells cs 52)) w.heap.size cs):=fun cs=>heap_alloc_new w _
 unfold opV at *;obtain⟨f,a,b⟩:=o
 dsimp only at *
 by_cases n:d=0
 ·subst n
  go_enter func208,ntmps208
  go_wp2_with fail
  refine(A.o _ (x.o.below (l.o _) zL)).mono ?_;rintro e i ⟨rfl,k⟩;have c:Bo i w.heap.size _:=(B.out _).below k zL;obtain⟨H,J⟩:=c.cell 0;obtain⟨S,Q⟩:=c.cell 1;obtain⟨U,E⟩:=c.cell 2;have t:=ZZ ((l.o _).trans (k.mono (l.o _).size));have L:=c.lt;have P:i.heap.size≠w.heap.size:=by omega
  have F:w.heap.size≠i.heap.size:=by omega
  have y:=ZZ c;clear k c;go_wp2;have g:Bo ((((i.setCell ⟨w.heap.size,0,none⟩ (.int .i64 f)).setCell ⟨w.heap.size,1,none⟩ (.int .i64 a)).setCell ⟨w.heap.size,2,none⟩ (.int .i64 b)).alloc (.cells #[.int .i64 f,.int .i64 a,.int .i64 b] 52)) w.heap.size #[.int .i64 f,.int .i64 a,.int .i64 b]:=(y.o.three _ _ _).below ((Below.refl _ _).alloc zL _) zL;have z:=(g.cell 0).1;have q:=(g.cell 1).1;have u:=(g.cell 2).1;have j:=ZZ (((t.o.setCell (p:=⟨w.heap.size,0,none⟩) zL (.int .i64 f)).setCell (p:=⟨w.heap.size,1,none⟩) zL (.int .i64 a)).setCell (p:=⟨w.heap.size,2,none⟩) zL (.int .i64 b));clear g;refine bodyPost_ret (v:=.tuple #[.agg #[.int .i64 f,.int .i64 a,.int .i64 b],.slice none 0 0,.bool false]) (by simp[results,Tryz.results208,go_sem,z,q,u]) rfl ?_
  exact⟨_,rfl,Rd.nil _,j.o.alloc j.o.size _⟩
 ·have V:((d:Int) == 0)=false:=beq_eq_false_iff_ne.2 (by omega)
  have I:Hid (behind d m=m.drop d):=if_neg n;have O:Hid (decide (d≠0)=true):=decide_eq_true n;obtain⟨N,R,hcut,D⟩:=Zco x.o d K;have G:=ZZ D;clear n D;generalize m.drop d=M at *
  go_enter func208,ntmps208
  go_wp2_with fail
  refine(A.o _ (x.o.below (l.o _) zL)).mono ?_;rintro e i ⟨rfl,k⟩;have c:Bo i w.heap.size _:=(B.out _).below k zL;obtain⟨H,J⟩:=c.cell 0;obtain⟨S,Q⟩:=c.cell 1;obtain⟨U,E⟩:=c.cell 2;have t:=ZZ ((l.o _).trans (k.mono (l.o _).size));have L:=c.lt;have P:i.heap.size≠w.heap.size:=by omega
  have F:w.heap.size≠i.heap.size:=by omega
  have y:=ZZ c;clear k c;go_wp2
  go_region
  all_goals
   go_wp2;have g:Bo ((((i.setCell ⟨w.heap.size,0,none⟩ (.int .i64 f)).setCell ⟨w.heap.size,1,none⟩ (.int .i64 a)).setCell ⟨w.heap.size,2,none⟩ (.int .i64 b)).alloc (.cells #[.int .i64 f,.int .i64 a,.int .i64 b] 52)).drew w.heap.size #[.int .i64 f,.int .i64 a,.int .i64 b]:=(y.o.three _ _ _).below (((Below.refl _ _).alloc zL _).drew) zL;have z:=(g.cell 0).1;have q:=(g.cell 1).1;have u:=(g.cell 2).1;have j:=ZZ (((t.o.setCell (p:=⟨w.heap.size,0,none⟩) zL (.int .i64 f)).setCell (p:=⟨w.heap.size,1,none⟩) zL (.int .i64 a)).setCell (p:=⟨w.heap.size,2,none⟩) zL (.int .i64 b));clear g;refine bodyPost_ret (v:=.tuple #[.agg #[.int .i64 f,.int .i64 a,.int .i64 b],.slice N M.length R,.bool true]) (by simp[results,Tryz.results208,go_sem,z,q,u]) rfl ?_
   refine⟨_,by rw[O.o],?_,(j.o.alloc j.o.size _).drew⟩
   rw[I.o];exact G.o.below (j.o.alloc j.o.size _).drew zL
end Go.Proofs.YtnahjngbneicaaaGreatDoor
