import Derived.Test.YtnahjngbneicaaaGreatDoorPack12
namespace Go.Proofs.YtnahjngbneicaaaGreatDoor
open _root_.Go.Proofs.Tryz
open List (append_assoc drop_drop flatten_cons length_append length_cons length_drop mem_cons mem_of_mem_take take_length)
set_option maxHeartbeats 4000000
set_option maxRecDepth 100000
open Go.RowKit
variable {W w w':World} {B C b first g k:Nat} {cs:Array Value} {v v':Value} {l m:List UInt8} {L:List Rec} {t:Bool}
def Ztc (w:World) (b:List UInt8) (e:Ending) (w':World):Prop:=
 ∃ (vl vt:Value) (S:St) (t:List Ent) (ok:Bool),e=.returned (.tuple #[.agg #[.int .i64 S.kind,vl,.bool S.shut,.int .i64 S.eng],vt,.bool ok])∧RdI w' vl S.L∧I64 S.kind∧I64 S.eng∧RdE w' vt t∧(∀ k,vl.ownBlock=some k->w.heap.size<=k)∧(∀ k,vt.ownBlock=some k->w.heap.size<=k)∧
  (ok=false->(Yu b).2=3)∧(ok=true->∃ er,Yu b=(⟨0,S,t⟩,er)∧(er=0∨(er=1∧S=ZcB)))∧Below w.heap.size w w'
theorem Ztc.none {b:List UInt8} (h:(Yu b).2=3) (c:Below w.heap.size w w'):Ztc w b (.returned (.tuple #[.agg #[.int .i64 0,.slice none 0 0,.bool false,.int .i64 0],.slice none 0 0,.bool false])) w':=
 ⟨_,_,ZcB,[],false,rfl,RdI.nil _,(Qo (by decide) (by decide):I64 0),(Qo (by decide) (by decide):I64 0),RdE.nil _,(fun k a=>by simp[Value.ownBlock] at a),(fun k a=>by simp[Value.ownBlock] at a),(fun _=>h),(fun h=>by cases h),c⟩
theorem ZxB (ao:Option Addr) (l:List UInt8) (cap:Nat) (g:l.length<=cap) (j:Nat) (f:j<=l.length):
 ∃ a b c,(∀ W,(Instr.sliceAt 53 (.slice ao l.length cap) none (some (.int .i64 (j:Int))) (some (.int .i64 (j:Int)))).run prog W=.ok (.slice a b c) W)∧∀ W,Rd W (.slice ao l.length cap) l->Rd W (.slice a b c) (l.take j):=by
 have d:∃ a b c,sliced ao 0 j j 1=.slice a b c:=by
  unfold sliced;exact⟨_,_,_,rfl⟩
 obtain⟨a,b,c,d⟩:=d;refine⟨a,b,c,fun W=>?_,fun W h=>?_⟩
 ·rw[run_sliceAt_slice W 53 _ _ _ _ Xu,run_slice_hm W 53 ao l.length cap Xu .i64 .i64 (j:Int) (j:Int) (by omega) (by omega) (by omega),Jo,Zce]
  simp only [Int.toNat_natCast];rw[<-d];rfl
 ·rw[<-d]
  have e:=h.mid 0 j j (Nat.zero_le _) f zL (by omega)
  rw[List.drop_zero,Nat.sub_zero] at e;exact e
def four (w:World) (R:Nat) (x0 x1 x2 x3:Value):World:=(((w.setCell ⟨R,0,none⟩ x0).setCell ⟨R,1,none⟩ x1).setCell ⟨R,2,none⟩ x2).setCell ⟨R,3,none⟩ x3
theorem Zdl {b:World} (h:Below C b w) (R:Nat) (a:C<=R) (f d c e:Value):Below C b ((((w.setCell ⟨R,0,none⟩ f).setCell ⟨R,1,none⟩ d).setCell ⟨R,2,none⟩ c).setCell ⟨R,3,none⟩ e):=
 (((h.setCell a _).setCell a _).setCell a _).setCell a _
theorem ZxC (w:World) (R:Nat) (d b a c:Value):But R R w ((((w.setCell ⟨R,0,none⟩ d).setCell ⟨R,1,none⟩ b).setCell ⟨R,2,none⟩ a).setCell ⟨R,3,none⟩ c):=
 ((((But.refl R R w).set _ _ (.inl rfl) _).set _ _ (.inl rfl) _).set _ _ (.inl rfl) _).set _ _ (.inl rfl) _
theorem Zmd (v:Value) (b:List UInt8) (w:World) (Z:Rd w v b) (bf:b.length<=100000):
 Calls prog 117 #[v] w fun e w'=>Ztc w b e w':=by
 obtain⟨d,aa⟩:∃ d,d=((w.alloc (.cells #[.int .i64 0,.slice none 0 0,.bool false,.int .i64 0] 38)).alloc (.cells #[.int .i64 0] 3)).alloc (.cells #[.pointer (some ⟨w.heap.size+1,0,none⟩)] 208):=⟨_,rfl⟩;have g:=ZiP w (.cells #[.int .i64 0,.slice none 0 0,.bool false,.int .i64 0] 38) (.cells #[.int .i64 0] 3) (.cells #[.pointer (some ⟨w.heap.size+1,0,none⟩)] 208);rw[<-aa] at g;obtain⟨hA,T,hC⟩:=g;have ag:Hid (Below w.heap.size w d):=ZZ (by rw[aa];exact(((Below.refl _ _).alloc zL _).alloc (by simp) _).alloc (by simp;omega) _)
 have aw:Bx d w.heap.size #[.int .i64 0,.slice none 0 0,.bool false,.int .i64 0]:=hA
 have ar:=ZZ (Zat (w.heap.size+1+1) [(w.heap.size+1,0)] v b d (Z.below ag.o zL) (fun p G=>by
  rw[List.mem_singleton.1 G]
  exact⟨⟨⟨0,cell_of_row d (w.heap.size+1) 0 _ _ _ T⟩,frozen_of_row d (w.heap.size+1) 0 _ _ T⟩,by simp⟩) (by simp) hC 1 rfl)
 have ay:Hid (∀ n:Nat,(d.setCell ⟨w.heap.size+1,0,none⟩ (.int .i64 (n:Int))).cell? ⟨w.heap.size+1,0,none⟩=some (.int .i64 (n:Int))):=ZZ (fun n=>World.cell?_setCell_same _ _ _ (cell_of_row d (w.heap.size+1) 0 _ _ _ T))
 have aM:Hid (∀ ns,Below w.heap.size w (Y7 d ([(w.heap.size+1,0)].take (List.length ns)) ns)):=ZZ (fun ns=>Zbi d _ ns _ w (fun p G=>by
  have:=mem_of_mem_take G;rw[List.mem_singleton.1 this]
  simp) ag.o)
 have aD:Hid (∀ ns,Bx (Y7 d ([(w.heap.size+1,0)].take (List.length ns)) ns) w.heap.size #[.int .i64 0,.slice none 0 0,.bool false,.int .i64 0]):=ZZ (fun ns=>(Zbh d _ ns _ (fun p G=>by
  have:=mem_of_mem_take G;rw[List.mem_singleton.1 this]
  simp)).trans aw)
 have an:=ZZ (fun ns l h=>ZiQ (b:=b) (ns:=ns) (l:=l) h)
 have ao:=ZZ (fun h=>ZiR (b:=b) h)
 have x:Hid (Yu b=if(Qb b).2=0∨b.length<(Qb b).2+(Qb b).1 then(Yb,3) else if(ZdG ((b.drop (Qb b).2).take (Qb b).1)).2=3 then(Yb,3) else match Zbe (b.drop ((Qb b).2+(Qb b).1)) with
  | none=>(Yb,3)
  | some t=>(⟨0,(ZdG ((b.drop (Qb b).2).take (Qb b).1)).1,t⟩,(ZdG ((b.drop (Qb b).2).take (Qb b).1)).2)):=ZZ rfl
 have hd:=Ju b
 have bc:(Qb b).1<4611686018427387904:=by
  rcases Xf b with h | h
  ·rw[h];decide
  ·exact h.1
 have au:=ZZ (fun F l W h h2=>ZiT F l W h h2)
 have av:=ZZ (fun F l W h h2=>Zmb F l W h h2)
 have aN:Hid ([(w.heap.size+1,0)].length=1):=ZZ rfl;rw[aN.o] at ar;generalize Zs 1 b=GL at *;have aV:=ZZ Z;obtain⟨va,vc,hv⟩:∃ a c,v=.slice a b.length c:=by obtain⟨a,c,h,-⟩:=Z;exact⟨a,c,h⟩
 subst hv;clear Z hA T hC aw aN
 go_enter func117,ntmps117
 go_wp2_with fail
 rw[<-aa];refine ar.o.mono ?_;rintro e m ⟨F,l,ns,rfl,aK,az,ai,aS,aH,M⟩;have D:Hid (Below w.heap.size w m):=ZZ ((aM.o ns).trans (M.below _));have u:Hid (Bx m w.heap.size #[.int .i64 0,.slice none 0 0,.bool false,.int .i64 0]):=ZZ ((aD.o ns).below (M.below (Y7 d ([(w.heap.size+1,0)].take ns.length) ns).heap.size) zL);have aX:=ZZ aK;have U:=ZZ (aK m (aV.o.below D.o zL));obtain⟨a1,c1,a7⟩:∃ a c,F=.slice a l.length c:=by obtain⟨a,c,h,-⟩:=U.o;exact⟨a,c,h⟩
 subst a7;obtain⟨B,y0⟩:=u.o.cell 0;obtain⟨y,y1⟩:=u.o.cell 1;obtain⟨j,y2⟩:=u.o.cell 2;obtain⟨q,y3⟩:=u.o.cell 3;clear ar aM ag aa aD
 cases GL with
 | none=>
  have J:Hid ((Yu b).2=3):=ZZ (by rw[x.o,if_pos (.inl (ao.o rfl))])
  clear az ai aS aH M x ao an;go_wp2;refine bodyPost_ret (v:=.tuple #[.agg #[.int .i64 0,.slice none 0 0,.bool false,.int .i64 0],.slice none 0 0,.bool false]) (by simp[results,Tryz.results117,go_sem,B,y,j,q]) rfl ?_
  exact Ztc.none J.o (Zdl D.o _ zL _ _ _ _)
 | some gp=>
  have:=ai gp rfl;subst this;obtain⟨g1,g2,g3⟩:=an.o _ _ rfl;subst g2;have aQ:l.length=b.length-(Qb b).2:=by rw[g3,length_drop]
  have af:m.cell? ⟨w.heap.size+1,0,none⟩=some (.int .i64 ((Qb b).1:Int)):=by
   rw[M.cell];exact ay.o _
  rw[<-drop_drop,<-g3] at x;generalize (Qb b).1=n at *;generalize (Qb b).2=k at *;clear az ai aS aH M ao an g3 ay;by_cases a0:l.length<n
  ·have J:Hid ((Yu b).2=3):=ZZ (by rw[x.o,if_pos (.inr (by omega))])
   have a2:(l.length:Int)<(n:Int):=by omega
   clear aQ x;go_wp2;refine bodyPost_ret (v:=.tuple #[.agg #[.int .i64 0,.slice none 0 0,.bool false,.int .i64 0],.slice none 0 0,.bool false]) (by simp[results,Tryz.results117,go_sem,B,y,j,q]) rfl ?_
   exact Ztc.none J.o (Zdl D.o _ zL _ _ _ _)
  have a2:¬ (l.length:Int)<(n:Int):=by omega
  have ap:l.length<=c1:=by
   obtain⟨a',c',h,h2,-⟩:=U.o;simp only [Value.slice.injEq] at h;omega
  obtain⟨xa,xn,xc,bd,aA⟩:=ZxB a1 l c1 ap n (by omega)
  obtain⟨ua,uc,be,aI⟩:=Zha a1 l c1 ap n (by omega)
  have Q:=ZZ (au.o _ (l.take n) m (aA m U.o) (by rw[List.length_take];omega))
  have ba:=ZZ (fun W h=>aI W (aX.o W h))
  have aZ:=ZZ (fun v2 W h=>av.o v2 (l.drop n) W h (by rw[length_drop];omega))
  have ab:Hid (Yu b=if(ZdG (l.take n)).2=3 then(Yb,3) else match Zbe (l.drop n) with
   | none=>(Yb,3)
   | some t=>(⟨0,(ZdG (l.take n)).1,t⟩,(ZdG (l.take n)).2)):=ZZ (by rw[x.o,if_neg (by omega)])
  have aO:=ZZ (ZrB (l.take n));clear aA aI x au av aQ a0 ap hd g1;generalize ZdG (l.take n)=DS at *;generalize Zbe (l.drop n)=TL at *;generalize l.drop n=l2 at *;obtain⟨⟨I,A,E,L⟩,R⟩:=DS;unfold Zau at Q
  dsimp only at Q ab aO
  go_wp2_with fail
  refine Q.o.mono ?_;rintro e i ⟨vl,rfl,am,aP,aR,ax,P⟩;obtain⟨N,lc,a5⟩:∃ a c,vl=.slice a A.length c:=by obtain⟨a,c,h,-⟩:=am;exact⟨a,c,h⟩
  subst a5;have bg:=D.o.size;have ah:=ZZ (D.o.trans (P.mono D.o.size));have ae:=ZZ (u.o.below P zL);have aq:i.cell? ⟨w.heap.size+1,0,none⟩=some (.int .i64 (n:Int)):=(P.cell (p:=⟨w.heap.size+1,0,none⟩) (World.block_lt_of_cell? m ⟨w.heap.size+1,0,none⟩ af)).trans af;have aB:=ZZ am;have aJ:=ZZ (And.intro aP aR)
  have aG:Hid (∀ k,(Value.slice N A.length lc).ownBlock=some k->w.heap.size<k):=ZZ (fun k f=>by
   have H:=ax k f;have h2:=u.o.lt
   omega)
  clear af am aP aR ax P Q B y j q y0 y1 y2 y3 u U;obtain⟨C,ac⟩:∃ C,C=i.alloc (.cells #[.int .i64 I,.slice N A.length lc,.bool E,.int .i64 L] 38):=⟨_,rfl⟩;have K:Hid (Below i.heap.size i C):=ZZ (by rw[ac];exact(Below.refl _ _).alloc zL _)
  have ak:Hid (Bx C i.heap.size #[.int .i64 I,.slice N A.length lc,.bool E,.int .i64 L]):=ZZ (by rw[ac];exact heap_alloc_new i _)
  have S:=ZZ (ah.o.trans (K.o.mono ah.o.size));have z:=ZZ (ae.o.below K.o zL);have a4:C.cell? ⟨w.heap.size+1,0,none⟩=some (.int .i64 (n:Int)):=(K.o.cell (p:=⟨w.heap.size+1,0,none⟩) (World.block_lt_of_cell? i ⟨w.heap.size+1,0,none⟩ aq)).trans aq;have aT:=ZZ (aB.o.below K.o zL)
  go_upto_region 6 with fail
  rw[<-ac];obtain⟨QB,aE⟩:∃ QB,QB=i.heap.size:=⟨_,rfl⟩;have bb:w.heap.size<QB:=by have:=ae.o.lt;omega
  rw[<-aE] at ak ⊢;clear ac aq aE aB ae ah K;by_cases g:R=3
  ·have aW:(R == 3)=true:=beq_iff_eq.2 g
   have J:Hid ((Yu b).2=3):=ZZ (by rw[ab.o,if_pos g])
   obtain⟨B,y0⟩:=z.o.cell 0;obtain⟨y,y1⟩:=z.o.cell 1;obtain⟨j,y2⟩:=z.o.cell 2;obtain⟨q,y3⟩:=z.o.cell 3;clear g;go_wp2;refine bodyPost_ret (v:=.tuple #[.agg #[.int .i64 0,.slice none 0 0,.bool false,.int .i64 0],.slice none 0 0,.bool false]) (by simp[results,Tryz.results117,go_sem,B,y,j,q]) rfl ?_
   exact Ztc.none J.o (Zdl S.o _ zL _ _ _ _)
  have aW:(R == 3)=false:=beq_eq_false_iff_ne.2 g;have aj:=ZZ g;clear g
  go_wp2_with fail
  refine(aZ.o _ _ (ba.o C (aV.o.below S.o zL))).mono ?_;rintro e W4 ⟨vt,t,rfl,Y,aL,aC,O⟩;obtain⟨ta,tc,a3⟩:=Y.shape;subst a3;have a9:=ZZ (S.o.trans (O.mono S.o.size));have X:=ZZ (z.o.below O zL);have ad:=ZZ (ak.o.below O zL);have a8:=ZZ (aT.o.below O zL);have aY:=ZZ (Y.rd aL)
  have aU:Hid (∀ k,(Value.slice ta t.length tc).ownBlock=some k->w.heap.size<k):=ZZ (fun k f=>by
   have H:=(World.ownsRow.lt Y k f).1;have h2:=z.o.lt
   omega)
  have a6:=ZZ aC;clear Y aL aC O a4 z ak aT;obtain⟨B,y0⟩:=X.o.cell 0;obtain⟨y,y1⟩:=X.o.cell 1;obtain⟨j,y2⟩:=X.o.cell 2;obtain⟨q,y3⟩:=X.o.cell 3;obtain⟨s0,-⟩:=ad.o.cell 0;obtain⟨s1,-⟩:=ad.o.cell 1;obtain⟨s2,-⟩:=ad.o.cell 2;obtain⟨s3,-⟩:=ad.o.cell 3;obtain⟨ok,al⟩:∃ ok,ok=TL.isSome:=⟨_,rfl⟩;rw[<-al];have V:=ZZ al;clear al;go_wp2;refine bodyPost_ret (v:=.tuple #[.agg #[.int .i64 I,.slice N A.length lc,.bool E,.int .i64 L],.slice ta t.length tc,.bool ok]) (by simp[results,Tryz.results117,go_sem,B,y,j,q]) rfl ?_
  have aF:=ZxC W4 w.heap.size (.int .i64 I) (.slice N A.length lc) (.bool E) (.int .i64 L);refine⟨_,_,⟨I,A,E,L⟩,t,ok,rfl,a8.o.but aF (.inr fun k f=>by have:=aG.o k f;omega),aJ.o.1,aJ.o.2,aY.o.but aF (.inr fun k f=>by have:=aU.o k f;omega),(fun k f=>Nat.le_of_lt (aG.o k f)),(fun k f=>Nat.le_of_lt (aU.o k f)),(fun h=>?_),(fun h=>?_),Zdl a9.o _ zL _ _ _ _⟩
  ·rw[ab.o,if_neg aj.o]
   cases TL with
   | none=>rfl
   | some t'=>rw[h] at V;cases V.o
  ·cases TL with
   | none=>rw[h] at V;cases V.o
   | some t'=>
    refine⟨R,by rw[ab.o,if_neg aj.o,a6.o t' rfl],?_⟩
    rcases aO.o with H | ⟨H,h2 | h2⟩
    ·exact .inl H
    ·exact absurd h2 aj.o
    ·exact .inr ⟨h2,H⟩
def Bq (w:World) (b:Nat) (cs:Array Value):Prop:=w.heap[b]?=some (.cells cs 147 (0,0))
theorem Bq.lt (h:Bq w b cs):b<w.heap.size:=(Array.getElem?_eq_some_iff.1 h).1
theorem Bq.below (h:Bq w b cs) (a:Below B w w') (c:w.heap.size<=B):Bq w' b cs:=(a.block b (by have:=h.lt;omega)).trans h
theorem Bq.cell (h:Bq w b cs) (j:Nat):w.cell? ⟨b,j,none⟩=cs[j]?∧w.frozen? ⟨b,j,none⟩=false:=⟨cell_of_row w b j _ _ _ h,frozen_of_row w b j _ _ h⟩
theorem Bq.set (h:Bq w b cs) (j:Nat) (x:Value):Bq (w.setCell ⟨b,j,none⟩ x) b (cs.setIfInBounds j x):=by
 have:=heap_setCell_same w b j _ _ x h;unfold Bq;simpa using this
theorem Bq.other {c:Nat} (h:Bq w b cs) (j:Nat) (x:Value) (a:b≠c):Bq (w.setCell ⟨c,j,none⟩ x) b cs:=(Below.heap_setCell _ _ _ _ a).trans h
theorem ZxD (w:World) (x y z u:Obj):((((w.alloc x).alloc y).alloc z).alloc u).heap[w.heap.size]?=some x∧((((w.alloc x).alloc y).alloc z).alloc u).heap[w.heap.size+1]?=some y∧((((w.alloc x).alloc y).alloc z).alloc u).heap[w.heap.size+2]?=some z∧((((w.alloc x).alloc y).alloc z).alloc u).heap[w.heap.size+3]?=some u:=by
 obtain⟨c,a,b⟩:=ZiP w x y z;refine⟨(Below.heap_alloc _ _ _ (by simp;omega)).trans c,(Below.heap_alloc _ _ _ (by simp)).trans a,(Below.heap_alloc _ _ _ (by simp)).trans b,?_⟩
 have:=heap_alloc_new (((w.alloc x).alloc y).alloc z) u;simpa using this
theorem Ztd {d:List UInt8} (h:¬ (d.length<1∨(d.getD 0 0).toNat≠115)):Yx d=match Zs 3 (d.drop 1) with
 | none=>(0,0,0,3)
 | some (ns,l)=>if ns.getD 0 0≠3 then(0,0,0,6) else if l.length≠4 then(0,0,0,3) else(ns.getD 1 0,ns.getD 2 0,Lib.leNat l,0):=by
 unfold Yx;rw[if_neg h,Zs];by_cases c:(Qb (d.drop 1)).2=0
 ·rw[if_pos (.inl c),if_pos c]
 rw[if_neg c,Zs];simp only [drop_drop];by_cases a:(Qb (d.drop (1+(Qb (d.drop 1)).2))).2=0
 ·rw[if_pos (.inr (.inl a)),if_pos a]
  rfl
 rw[if_neg a,ZeS];simp only [drop_drop];by_cases b:(Qb (d.drop (1+(Qb (d.drop 1)).2+(Qb (d.drop (1+(Qb (d.drop 1)).2))).2))).2=0
 ·rw[if_pos (.inr (.inr b)),if_pos b]
  rfl
 ·rw[if_neg (by omega),if_neg b]
  simp only [Option.map_some,List.getD_cons_zero,List.getD_cons_succ]
theorem ZnU:∀ (n:Nat) (b:List UInt8) (ns:List Nat) (l:List UInt8),Zs n b=some (ns,l)->ns.length=n
 | 0,b,ns,l,h=>by
  injection h with h
  injection h with h _
  rw[<-h];rfl
 | n+1,b,ns,l,h=>by
  rw[Zs] at h;split at h
  ·cases h
  ·cases hg:Zs n (b.drop (Qb b).2) with
   | none=>rw[hg] at h;cases h
   | some r=>
    rw[hg] at h
    injection h with h
    injection h with h _
    obtain⟨a,m⟩:=r;rw[<-h,length_cons,ZnU n _ a m hg]
theorem ZvF {R Q:Nat} (e:R≠Q) (h:Bq W R #[.int .i64 0,.int .i64 0,.int .u32 0]) (g:W.heap[Q]?=some (.cells #[.int .i64 0] 3 (0,0))) (ns:List Nat) (f:ns.length<=3):
 ∃ u x y:Int,Bq (Y7 W ([(Q,0),(R,0),(R,1)].take ns.length) ns) R #[.int .i64 x,.int .i64 y,.int .u32 0]∧(Y7 W ([(Q,0),(R,0),(R,1)].take ns.length) ns).cell? ⟨Q,0,none⟩=some (.int .i64 u)∧(ns.length=3->u=((ns.getD 0 0:Nat):Int)∧x=((ns.getD 1 0:Nat):Int)∧y=((ns.getD 2 0:Nat):Int)):=by
 have d:W.cell? ⟨Q,0,none⟩=some (.int .i64 0):=cell_of_row W Q 0 _ _ _ g
 match ns,f with
 | [],_=>exact⟨0,0,0,h,d,fun h=>absurd h (by simp)⟩
 | [a],_=>exact⟨a,0,0,h.other 0 _ e,World.cell?_setCell_same _ _ _ d,fun h=>absurd h (by simp)⟩
 | [a,b],_=>
  refine⟨a,b,0,(h.other 0 _ e).set 0 _,?_,fun h=>absurd h (by simp)⟩
  show((W.setCell ⟨Q,0,none⟩ _).setCell ⟨R,0,none⟩ _).cell? ⟨Q,0,none⟩=_;rw[World.cell?_setCell_other _ _ _ _ (by simp)]
  exact World.cell?_setCell_same _ _ _ d
 | [a,b,c],_=>
  refine⟨a,b,c,((h.other 0 _ e).set 0 _).set 1 _,?_,fun _=>⟨rfl,rfl,rfl⟩⟩
  show(((W.setCell ⟨Q,0,none⟩ _).setCell ⟨R,0,none⟩ _).setCell ⟨R,1,none⟩ _).cell? ⟨Q,0,none⟩=_;rw[World.cell?_setCell_other _ _ _ _ (by simp),World.cell?_setCell_other _ _ _ _ (by simp)]
  exact World.cell?_setCell_same _ _ _ d
def ZzR (w:World) (r:Nat × Nat × Nat × Int) (e:Ending) (w':World):Prop:=
 e=.returned (.tuple #[.agg #[.int .i64 (r.1:Int),.int .i64 (r.2.1:Int),.int .u32 (r.2.2.1:Int)],.int .i64 r.2.2.2])∧Below w.heap.size w w'
theorem ZeT {b:World} (h:Below C b w) (R:Nat) (a:C<=R) (e d c:Value):Below C b (((w.setCell ⟨R,0,none⟩ e).setCell ⟨R,1,none⟩ d).setCell ⟨R,2,none⟩ c):=
 ((h.setCell a _).setCell a _).setCell a _
theorem ZgK (v:Value) (d:List UInt8) (w:World) (hr:Rd w v d):
 Calls prog 115 #[v] w fun e w'=>ZzR w (Yx d) e w':=by
 have HR:=ZZ hr;obtain⟨ao,cap,rfl,aK,an,-,aj⟩:=hr;have aS:(d.length:Int)<=9223372036854775807:=by unfold maxLen at an;omega
 have B:Hid (∀ X,Below w.heap.size w (w.alloc X)):=fun X=>(Below.refl _ _).alloc zL X
 by_cases u:d.length=0
 ·have g:Hid (Yx d=(0,0,0,3)):=ZZ (by unfold Yx;rw[if_pos (.inl (by omega))])
  have aD:((d.length:Int) == 0)=true:=by rw[beq_iff_eq];omega
  rw[g.o];clear u aj
  go_enter func115,ntmps115
  go_wp2;refine bodyPost_ret (v:=.tuple #[.agg #[.int .i64 0,.int .i64 0,.int .u32 0],.int .i64 3]) (by simp[results,Tryz.results115,go_sem]) rfl ?_
  exact⟨rfl,B.o _⟩
 have aD:((d.length:Int) == 0)=false:=beq_eq_false_iff_ne.2 (by omega)
 have aQ:(0:Int)<(d.length:Int):=by omega
 have ab:d≠[]:=fun e=>by rw[e] at u;simp at u
 rcases aj with he | ⟨b,A,rfl,hc⟩
 ·exact absurd he ab
 have R:=hc 0 (by omega)
 have aJ:b<w.heap.size:=World.block_lt_of_cell? w ⟨b,A+0,none⟩ R;have aM:∀ X,(w.alloc X).cell? ⟨b,A,none⟩=some (.int .u8 ((d.getD 0 0).toNat:Nat)):=fun X=>((B.o X).cell (p:=⟨b,A,none⟩) aJ).trans R
 clear hc R an;by_cases H:(d.getD 0 0).toNat=115
 case neg=>
  have g:Hid (Yx d=(0,0,0,3)):=ZZ (by unfold Yx;rw[if_pos (.inr H)])
  have aO:((((d.getD 0 0).toNat:Nat):Int) != 115)=true:=by
   rw[bne_iff_ne];omega
  rw[g.o];clear H ab u;generalize (((d.getD 0 0).toNat:Nat):Int)=c0 at *
  go_enter func115,ntmps115
  go_wp2;refine bodyPost_ret (v:=.tuple #[.agg #[.int .i64 0,.int .i64 0,.int .u32 0],.int .i64 3]) (by simp[results,Tryz.results115,go_sem]) rfl ?_
  exact⟨rfl,B.o _⟩
 have aO:((((d.getD 0 0).toNat:Nat):Int) != 115)=false:=by
  rw[H];rfl
 have t:=ZZ (Ztd (d:=d) (by omega))
 generalize (((d.getD 0 0).toNat:Nat):Int)=c0 at *;obtain⟨xa,xc,hcut,Z⟩:=Zha (some ⟨b,A,none⟩) d cap aK 1 (by omega)
 have ax:∀ W,(Instr.sliceAt 53 (.slice (some ⟨b,A,none⟩) d.length cap) (some (.int .i64 1)) none none).run prog W=.ok (.slice xa (d.drop 1).length xc) W:=hcut;have ai:=ZZ (fun W h=>Z W h)
 obtain⟨f,G⟩:∃ f,f=(((w.alloc (.cells #[.int .i64 0,.int .i64 0,.int .u32 0] 147)).alloc (.cells #[.int .i64 0,.int .i64 0,.int .u32 0] 147)).alloc (.cells #[.int .i64 0] 3)).alloc (.cells #[.pointer (some ⟨w.heap.size+1+1,0,none⟩),.pointer (some ⟨w.heap.size+1,0,none⟩),.pointer (some ⟨w.heap.size+1,1,none⟩)] 208):=⟨_,rfl⟩;have h4:=ZxD w (.cells #[.int .i64 0,.int .i64 0,.int .u32 0] 147) (.cells #[.int .i64 0,.int .i64 0,.int .u32 0] 147) (.cells #[.int .i64 0] 3) (.cells #[.pointer (some ⟨w.heap.size+1+1,0,none⟩),.pointer (some ⟨w.heap.size+1,0,none⟩),.pointer (some ⟨w.heap.size+1,1,none⟩)] 208);rw[<-G] at h4;obtain⟨hA,hB,D,hC⟩:=h4;have L:Hid (Below w.heap.size w f):=ZZ (by rw[G];exact((((Below.refl _ _).alloc zL _).alloc (by simp) _).alloc (by simp;omega) _).alloc (by simp;omega) _)
 have ad:Bq f w.heap.size #[.int .i64 0,.int .i64 0,.int .u32 0]:=hA;have n:Bq f (w.heap.size+1) #[.int .i64 0,.int .i64 0,.int .u32 0]:=hB
 have ac:=ZZ (Zat (w.heap.size+1+1+1) [(w.heap.size+1+1,0),(w.heap.size+1,0),(w.heap.size+1,1)] (.slice xa (d.drop 1).length xc) (d.drop 1) f (ai.o f (HR.o.below L.o zL)) (fun p k=>by
  simp only [mem_cons,List.not_mem_nil,or_false] at k;rcases k with rfl | rfl | rfl
  ·exact⟨⟨⟨0,cell_of_row f (w.heap.size+2) 0 _ _ _ D⟩,frozen_of_row f (w.heap.size+2) 0 _ _ D⟩,by simp⟩
  ·exact⟨⟨⟨0,(n.cell 0).1⟩,(n.cell 0).2⟩,by simp⟩
  ·exact⟨⟨⟨0,(n.cell 1).1⟩,(n.cell 1).2⟩,by simp⟩) (by simp) hC 3 rfl)
 have aq:=ZZ (fun ns h=>ZvF (Q:=w.heap.size+1+1) (by omega) n D ns h)
 have ar:Hid (∀ ns,Below w.heap.size w (Y7 f ([(w.heap.size+1+1,0),(w.heap.size+1,0),(w.heap.size+1,1)].take (List.length ns)) ns)):=ZZ (fun ns=>Zbi f _ ns _ w (fun p k=>by
  have:=mem_of_mem_take k;simp only [mem_cons,List.not_mem_nil,or_false] at this
  rcases this with rfl | rfl | rfl <;> (simp only;omega)) L.o)
 have af:Hid (∀ ns,Bq (Y7 f ([(w.heap.size+1+1,0),(w.heap.size+1,0),(w.heap.size+1,1)].take (List.length ns)) ns) w.heap.size #[.int .i64 0,.int .i64 0,.int .u32 0]):=ZZ (fun ns=>(Zbh f _ ns _ (fun p k=>by
  have:=mem_of_mem_take k;simp only [mem_cons,List.not_mem_nil,or_false] at this
  rcases this with rfl | rfl | rfl <;> (simp only;omega))).trans ad)
 have aF:=ZZ (fun K l W h=>Zne K l W h)
 have aa:=ZZ (fun ns l h=>ZnU 3 (d.drop 1) ns l h)
 have au:Hid ([(w.heap.size+1+1,0),(w.heap.size+1,0),(w.heap.size+1,1)].length=3):=ZZ rfl;rw[au.o] at ac;generalize Zs 3 (d.drop 1)=GL at *;obtain⟨j,ah⟩:∃ j,j=Yx d:=⟨_,rfl⟩;rw[<-ah] at t ⊢;clear ah hcut Z hA hB D hC ad n H ab u au;generalize d.drop 1=D1 at *
 go_enter func115,ntmps115
 go_wp2_with fail
 rw[<-G];refine ac.o.mono ?_;rintro e i ⟨K,l,ns,rfl,am,ae,N,aL,ak,x⟩;obtain⟨uu,xx,yy,ag,av,T⟩:=aq.o ns ak;have U:Hid (Bq i (w.heap.size+1) #[.int .i64 xx,.int .i64 yy,.int .u32 0]):=ZZ (ag.below (x.below (Y7 f ([(w.heap.size+1+1,0),(w.heap.size+1,0),(w.heap.size+1,1)].take ns.length) ns).heap.size) zL);have P:Hid (Bq i w.heap.size #[.int .i64 0,.int .i64 0,.int .u32 0]):=ZZ ((af.o ns).below (x.below (Y7 f ([(w.heap.size+1+1,0),(w.heap.size+1,0),(w.heap.size+1,1)].take ns.length) ns).heap.size) zL);have Z:i.cell? ⟨w.heap.size+1+1,0,none⟩=some (.int .i64 uu):=by rw[x.cell];exact av
 have z:Hid (Below w.heap.size w i):=ZZ ((ar.o ns).trans (x.below _));have al:=ZZ (am i (ai.o i (HR.o.below z.o zL)));obtain⟨a1,c1,aI⟩:∃ a c,K=.slice a l.length c:=by obtain⟨a,c,h,-⟩:=al.o;exact⟨a,c,h⟩
 subst aI;obtain⟨I,y0⟩:=P.o.cell 0;obtain⟨F,y1⟩:=P.o.cell 1;obtain⟨C,y2⟩:=P.o.cell 2;clear ac aq ar af G ag av x am aL ak L aM ax B
 cases GL with
 | none=>
  have g:Hid (j=(0,0,0,3)):=ZZ t.o;clear ae N T t aa;go_wp2;refine bodyPost_ret (v:=.tuple #[.agg #[.int .i64 0,.int .i64 0,.int .u32 0],.int .i64 3]) (by simp[results,Tryz.results115,go_sem,I,F,C]) rfl ?_
  rw[g.o];exact⟨rfl,ZeT z.o _ zL _ _ _⟩
 | some gp=>
  have:=N gp rfl;subst this;obtain⟨g1,g2,g3⟩:=T (aa.o _ _ rfl);have m:Hid (j=if ns.getD 0 0≠3 then(0,0,0,6) else if l.length≠4 then(0,0,0,3) else(ns.getD 1 0,ns.getD 2 0,Lib.leNat l,0)):=ZZ t.o
  clear ae N T t aa;generalize ns.getD 0 0=n0 at *;generalize ns.getD 1 0=n1 at *;generalize ns.getD 2 0=n2 at *;subst g1 g2 g3;by_cases E:n0=3
  case neg=>
   have g:Hid (j=(0,0,0,6)):=ZZ (by rw[m.o,if_pos E])
   have aw:((n0:Int) != 3)=true:=by rw[bne_iff_ne];omega
   clear E m;go_wp2;refine bodyPost_ret (v:=.tuple #[.agg #[.int .i64 0,.int .i64 0,.int .u32 0],.int .i64 6]) (by simp[results,Tryz.results115,go_sem,I,F,C]) rfl ?_
   rw[g.o];exact⟨rfl,ZeT z.o _ zL _ _ _⟩
  have aw:((n0:Int) != 3)=false:=by rw[bne_eq_false_iff_eq];omega
  by_cases y:l.length=4
  case neg=>
   have g:Hid (j=(0,0,0,3)):=ZZ (by rw[m.o,if_neg (by omega),if_pos y])
   have aG:((l.length:Int) != 4)=true:=by rw[bne_iff_ne];omega
   clear E m y;go_wp2;refine bodyPost_ret (v:=.tuple #[.agg #[.int .i64 0,.int .i64 0,.int .u32 0],.int .i64 3]) (by simp[results,Tryz.results115,go_sem,I,F,C]) rfl ?_
   rw[g.o];exact⟨rfl,ZeT z.o _ zL _ _ _⟩
  have aG:((l.length:Int) != 4)=false:=by rw[bne_eq_false_iff_eq];omega
  have g:Hid (j=(n1,n2,Lib.leNat l,0)):=ZZ (by rw[m.o,if_neg (by omega),if_neg (by omega)])
  have V:=ZZ (aF.o _ l i al.o);rw[List.take_of_length_le (by omega)] at V
  have aA:Lib.leNat l<4294967296:=by
   have:=Zlv l;rw[y] at this;exact this
  have aN:Hid (l.length=4):=ZZ y;generalize Lib.leNat l=q at *;clear E m y;obtain⟨e0,f0⟩:=U.o.cell 0;obtain⟨e1,f1⟩:=U.o.cell 1;obtain⟨e2,f2⟩:=U.o.cell 2;have aR:¬ (w.heap.size=w.heap.size+1):=by omega
  have aP:¬ (w.heap.size+1=w.heap.size):=by omega
  have aH:IntKind.u32.wrap (q:Int)=(q:Int):=by
   rw[IntKind.wrap_u32];omega
  have aE:(0:Int)<=(q:Int):=by omega
  have ay:(q:Int)<4294967296:=by omega
  obtain⟨J,O⟩:∃ J:Int,J=(q:Int):=⟨_,rfl⟩;obtain⟨S,Y⟩:∃ S:Int,S=(n1:Int):=⟨_,rfl⟩;obtain⟨N2,M⟩:∃ N2:Int,N2=(n2:Int):=⟨_,rfl⟩;rw[<-O] at V aH aE ay;rw[<-Y] at e0;rw[<-M] at e1;have aC:=ZZ O;have az:=ZZ Y;have aB:=ZZ M;clear O Y M aA;clear aN
  go_wp2_with fail
  refine V.o.mono ?_;rintro e W2 ⟨rfl,ap⟩;rw[ap];clear ap W2;go_wp2;refine bodyPost_ret (v:=.tuple #[.agg #[.int .i64 S,.int .i64 N2,.int .u32 J],.int .i64 0]) (by simp[results,Tryz.results115,go_sem,I,F,C]) rfl ?_
  rw[g.o];exact⟨by rw[aC.o,az.o,aB.o],ZeT (z.o.setCell (Nat.le_succ _) _) _ zL _ _ _⟩
theorem ZiU (c d:Value) (a b:List UInt8) (w:World) (g:Rd w c a) (f:Rd w d b):
 Calls prog 163 #[c,d] w fun e w'=>e=.returned (.bool (decide (a=b)))∧w'=w:=by
 have k:=g.str;have j:=f.str
 have i:((bs a).toList == (bs b).toList)=decide (a=b):=by
  rw[ZAn];by_cases h:a=b
  ·rw[h,decide_eq_true rfl];exact beq_self_eq_true b
  ·rw[decide_eq_false h,beq_eq_false_iff_ne];exact h
 generalize decide (a=b)=D at *;clear g f
 go_enter func163,ntmps163
 go_wp2;go_ret;exact⟨rfl,rfl⟩
theorem ZnV {A B:List (List UInt8)} (b:k<A.length) (c:k<B.length) (h:A.take k=B.take k) (a:A.getD k []=B.getD k []):A.take (k+1)=B.take (k+1):=by
 rw[List.take_add_one,List.take_add_one,h]
 congr 1
 simp only [List.getD,List.getElem?_eq_getElem b,List.getElem?_eq_getElem c,Option.getD_some] at a ⊢;rw[a]
theorem ZjV (I L:Value) (A B:List (List UInt8)) (w:World) (ha:RdL w I A) (hb:RdL w L B):
 Calls prog 162 #[I,L,.func (.func 163) #[] #[]] w fun e w'=>e=.returned (.bool (decide (A=B)))∧w'=w:=by
 obtain⟨aa,ac,rfl,ab,O,-,G⟩:=ha;obtain⟨ba,bc,rfl,-,-,-,M⟩:=hb;have S:=ZZ G;have N:=ZZ M;have K:=ZZ (fun x y a b W h2=>ZiU x y a b w W h2)
 obtain⟨D,m⟩:∃ D,D=decide (A=B):=⟨_,rfl⟩;rw[<-m];have F:Hid (A=B->D=true):=fun h=>by rw[m];exact decide_eq_true h
 have z:Hid (¬ A=B->D=false):=fun h=>by rw[m];exact decide_eq_false h
 have ah:(A.length:Int)<=9223372036854775807:=by unfold maxLen at O;omega
 clear m G M O ab;by_cases l:A.length=B.length
 case neg=>
  have af:((A.length:Int) != (B.length:Int))=true:=by rw[bne_iff_ne];omega
  have HE:=ZZ (z.o (fun h=>l (by rw[h])))
  clear l
  go_enter func162,ntmps162
  go_wp2;go_ret;rw[HE.o];exact⟨rfl,rfl⟩
 have af:((A.length:Int) != (B.length:Int))=false:=by rw[bne_eq_false_iff_eq];omega
 have P:=ZZ l
 have T:Hid (A.take A.length=B.take A.length->D=true):=ZZ (fun h=>F.o (by
  rw[take_length,P.o,take_length] at h
  exact h))
 have J:Hid (∀ k,k<A.length->A.getD k []≠B.getD k []->D=false):=ZZ (fun k hk h=>z.o (fun U=>h (by rw[U])))
 clear l F z
 go_enter func162,ntmps162
 go_wp2
 go_loopw[17] (fun v wr=>∃ k:Nat,v=.int .i64 (k:Int)∧k<=A.length∧Hid (A.take k=B.take k)∧wr=w) (fun v _=>A.length-(intOf v).toNat)
 case atStart=>exact⟨0,rfl,Nat.zero_le _,rfl,rfl⟩
 case round=>
  obtain⟨k,rfl,hk,H,rfl⟩:=hrel;by_cases g:k<A.length
  case neg=>
   obtain rfl:k=A.length:=by omega
   have HT:=ZZ (T.o H.out);go_wp2;go_ret;rw[HT.o];exact⟨rfl,rfl⟩
  have i:k<B.length:=by have:=P.o;omega
  rcases S.o with u | ⟨c,ak,rfl,Q⟩
  ·rw[u] at g;simp at g
  rcases N.o with u | ⟨c',aj,rfl,R⟩
  ·rw[u] at i;simp at i
  obtain⟨x,hx,p⟩:=Q k g;obtain⟨y,hy,q⟩:=R k i;have ai:(k:Int)<(A.length:Int):=by omega
  have ag:(k:Int)<(B.length:Int):=by omega
  have E:=ZZ (J.o k g);have C:Hid (A.getD k []=B.getD k []->A.take (k+1)=B.take (k+1)):=ZZ (fun h=>ZnV g i H.out h)
  have j:=ZZ (K.o x y _ _ p q);obtain⟨xa,xc,ae⟩:∃ a c,x=.slice a (A.getD k []).length c:=by obtain⟨a,c,h,-⟩:=p;exact⟨a,c,h⟩
  obtain⟨ya,yc,Z⟩:∃ a c,y=.slice a (B.getD k []).length c:=by obtain⟨a,c,h,-⟩:=q;exact⟨a,c,h⟩
  subst ae Z;clear Q R p q T J S N K;generalize A.getD k []=X at *;generalize B.getD k []=Y at *;by_cases d:X=Y
  ·have ad:=ZZ (C.o d)
   have n:Hid (decide (X=Y)=true):=decide_eq_true d;rw[n.o] at j;clear E C d
   go_wp2_with fail
   refine j.o.mono ?_;rintro e t ⟨rfl,f⟩;rw[f];clear f t;go_wp2;go_roundw
   case rel=>exact⟨k+1,by go_num,by omega,ad,trivial⟩
   case measure=>simp[intOf];omega
  ·have V:=ZZ (E.o d)
   have n:Hid (decide (X=Y)=false):=decide_eq_false d;rw[n.o] at j;clear E C d
   go_wp2_with fail
   refine j.o.mono ?_;rintro e t ⟨rfl,f⟩;rw[f];clear f t;go_wp2;go_ret;rw[V.o];exact⟨rfl,rfl⟩
theorem ZpX (v:Value) (L:List (List UInt8)) (w:World) (O:RdL w v L) (I:L.flatten.length<=1000000) (hn:L.length<=100000):
 Calls prog 131 #[v] w fun e w'=>∃ v',e=.returned v'∧Own w' w.heap.size v' L.flatten∧Below w.heap.size w w':=by
 have X:=ZZ (fun n W h=>ZqV n W h)
 have ai:=ZZ O;have l:Hid (∀ k,ZlO L k<=1000000):=fun k=>Nat.le_trans (Zvi L k) I
 have Q:=ZZ (ZnB L);have ad:=ZZ (ZnA L);have N:=ZZ (ZqX L);have ae:=ZZ (ZqW L);obtain⟨F,p⟩:∃ F,F=L.flatten:=⟨_,rfl⟩;rw[<-p];rw[<-p] at N;obtain⟨ao,cap,rfl,-,-,-,E⟩:=O;have M:=ZZ E;clear E p I
 go_enter func131,ntmps131
 go_wp2
 go_loopw[3,11] (fun vs a wr=>∃ (k:Nat),vs=.int .i64 (ZlO L k:Int)∧a=.int .i64 (k:Int)∧k<=L.length∧wr=w) (fun _ a _=>L.length-(intOf a).toNat)
 case atStart=>exact⟨0,rfl,rfl,Nat.zero_le _,rfl⟩
 case round=>
  obtain⟨k,rfl,rfl,hk,R⟩:=hrel;have ag:=R.symm;subst ag;clear R;by_cases d:k<L.length
  ·rcases M.o with q | ⟨c,af,rfl,f⟩
   ·rw[q] at d;simp at d
   obtain⟨x,T,i⟩:=f k d;have C:=l.o (k+1);have t:=Q.o k d;obtain⟨ax,cx,rfl,-⟩:=i;have h3:¬ ((ZlO L k:Int)+((L.getD k []).length:Int)<0):=by omega
   have h4:(ZlO L k:Int)+((L.getD k []).length:Int)<=1000000:=by omega
   have S:=ZZ t;clear f C t;generalize ZlO L k=A at *;generalize (L.getD k []).length=D at *;go_wp2;go_roundw
   case rel=>exact⟨k+1,by rw[S.o],by go_num,by omega,trivial⟩
   case measure=>simp[intOf];omega
  ·have U:=ZZ (X.o (ZlO L k) w (l.o k))
   generalize ZlO L k=A at *
   go_wp2_with fail
   refine U.o.mono ?_;rintro e W1 ⟨v1,rfl,J,B⟩;have z:=ZZ J;have H:=ZZ B;clear J B hk d;go_wp2
   go_loopw[6,27] (fun Z a K=>∃ (j:Nat),a=.int .i64 (j:Int)∧j<=L.length∧Hid (Own K w.heap.size Z (Zvh L j))∧Hid (Below w.heap.size w K)) (fun _ a _=>L.length-(intOf a).toNat)
   case atStart=>exact⟨0,rfl,Nat.zero_le _,z,H⟩
   case round=>
    clear z H;obtain⟨j,rfl,hj,u,b⟩:=hrel;by_cases g:j<L.length
    ·rcases M.o with q | ⟨c,af,rfl,f⟩
     ·rw[q] at g;simp at g
     obtain⟨x,y,i⟩:=f j g;have T:=(b.o.cell (World.block_lt_of_cell? _ _ y)).trans y;have V:=ZZ (i.below b.o zL);obtain⟨ax,cx,rfl,-⟩:=i
     have ah:Hid ((Zvh L j).length+(L.getD j []).length<=70368744177664):=ZZ (by
      have C:=l.o (j+1);have t:=Q.o j g;rw[ae.o]
      omega)
     have ab:=ZZ b.o.size;have Y:=ZZ (ad.o j g);clear f y;generalize L.getD j []=D at *;generalize Zvh L j=P at *
     go_wp2_with(at_builtin;refine Xw _ rfl _ _ rfl w.heap.size _ P rfl u.o _ D rfl V.o ah.o ab.o ?_)
     intro v3 W3 m G;rw[<-Y.o] at m;have ac:=ZZ m;have aa:=ZZ (b.o.trans G);clear m G;go_wp2;go_roundw
     case rel=>exact⟨j+1,by go_num,by omega,ac,aa⟩
     case measure=>simp[intOf];omega
    ·have HE:=ZZ (N.o j (by omega))
     rw[HE.o] at u;go_wp2;go_ret;exact⟨_,rfl,u.o,b.o⟩
def Zme (P:List (List UInt8)) (n c:Nat):Int:=if P.flatten.length≠n then 16 else if ¬ Zfx P then 3 else if Q2 0 P.flatten≠c then 4 else 0
def Joined (w:World) (F:List UInt8) (er:Int) (e:Ending) (w':World):Prop:=
 ∃ v',e=.returned (.tuple #[v',.int .i64 er])∧Rd w' v' (if er=0 then F else[])∧Below w.heap.size w w'
theorem ZgH.rdl {xs:List Value} {L:List (List UInt8)} (h:ZgH v l xs L) (b:w'.ownsRow B 53 1 v' L.length xs) (c:Rd w' v l):RdL w' v' L:=by
 rcases b.2 with ⟨a,k⟩ | ⟨g,cap,cur,a,q,p,f,d,t,u⟩
 ·have e:L=[]:=List.eq_nil_of_length_eq_zero k
  subst e;rw[a];exact RdL.nil _
 ·refine⟨some ⟨g,0,none⟩,cap,a,f,d,(fun e=>by cases e),.inr ⟨g,0,rfl,fun j m=>?_⟩⟩
  obtain⟨x,n,-,i⟩:=h.2 j m;refine⟨x,?_,i w' c⟩;have:=World.ownsRow.cells b (g:=g) (by rw[a];rfl) j x n
  rw[Addr.add_lit] at this;exact this
theorem ZxE (i:Int) (n c:Nat) (B:Value) (P:List (List UInt8)) (w:World) (D:RdL w B P) (aj:P.flatten.length<=100000) (ar:P.length<=100000):
 Calls prog 116 #[.agg #[.int .i64 i,.int .i64 (n:Int),.int .u32 (c:Int)],B] w fun e w'=>Joined w P.flatten (Zme P n c) e w':=by
 have v:Hid (Below w.heap.size w (w.alloc (.cells #[.int .i64 i,.int .i64 (n:Int),.int .u32 (c:Int)] 147))):=ZZ ((Below.refl _ _).alloc zL _);have Y:Hid (Bq (w.alloc (.cells #[.int .i64 i,.int .i64 (n:Int),.int .u32 (c:Int)] 147)) w.heap.size #[.int .i64 i,.int .i64 (n:Int),.int .u32 (c:Int)]):=ZZ (heap_alloc_new w _);have U:=ZZ (fun W (h:Below w.heap.size w W)=>ZpX B P W (D.below h zL) (by omega) ar)
 have J:=ZZ (fun u W h=>ZkB u P.flatten W h aj)
 have z:=ZZ (fun vb W Q b=>ZjV B vb P (Ya P.flatten) W Q b)
 have aa:=ZZ (fun u W h=>ZlQ u P.flatten W h)
 have HP:=ZZ D;have ad:decide (P=Ya P.flatten)=decide (Zfx P):=decide_eq_decide.2 (ZuF P).symm;rw[ad] at z;have k:Hid (Zme P n c=if P.flatten.length≠n then 16 else if ¬ Zfx P then 3 else if Q2 0 P.flatten≠c then 4 else 0):=ZZ rfl
 obtain⟨pa,pc,ax⟩:∃ a c,B=.slice a P.length c:=by obtain⟨a,c,h,-⟩:=D;exact⟨a,c,h⟩
 subst ax;obtain⟨p,ak⟩:∃ p,p=Zme P n c:=⟨_,rfl⟩;rw[<-ak] at k ⊢;obtain⟨co,K⟩:∃ co,co=decide (Zfx P):=⟨_,rfl⟩;rw[<-K] at z;have al:=ZZ K;clear ak D ad K;obtain⟨d,ah⟩:∃ d,d=P.flatten:=⟨_,rfl⟩;rw[<-ah] at U J z aa k aj ⊢;have az:Hid (Ya d=Ya d):=ZZ rfl;clear ah;generalize Ya d=PF at *;generalize Q2 0 d=M at *;obtain⟨H,N⟩:∃ H:Int,H=(n:Int):=⟨_,rfl⟩;obtain⟨f,V⟩:∃ f:Int,f=(c:Int):=⟨_,rfl⟩;obtain⟨g,O⟩:∃ g:Int,g=(M:Int):=⟨_,rfl⟩;rw[<-N,<-V] at v Y ⊢;rw[<-O] at aa;have am:=ZZ N;have ae:=ZZ V;have ag:=ZZ O;clear N V O
 go_enter func116,ntmps116
 go_wp2_with fail
 refine(U.o _ v.o).mono ?_;rintro e W1 ⟨u,rfl,X,L⟩;have F:=ZZ (v.o.trans (L.mono v.o.size));have ac:=ZZ (Y.o.below L zL);have T:=ZZ X.rd;obtain⟨a1,c1,aw⟩:∃ a c,u=.slice a d.length c:=by obtain⟨a,c,h,-⟩:=X.rd;exact⟨a,c,h⟩
 subst aw;obtain⟨p1,-⟩:=ac.o.cell 1;clear X L U v Y;by_cases G:d.length=n
 case neg=>
  have m:Hid (p=16):=ZZ (by rw[k.o,if_pos G])
  have ay:((d.length:Int) != H)=true:=by rw[bne_iff_ne,am.o];omega
  clear G k;go_wp2;go_ret2;rw[m.o];exact⟨_,rfl,Rd.nil _,F.o⟩
 have ay:((d.length:Int) != H)=false:=by rw[bne_eq_false_iff_eq,am.o];omega
 have HL:=ZZ G;clear G
 go_wp2_with fail
 refine(J.o _ _ T.o).mono ?_;rintro e t ⟨v2,xs,rfl,ap,an,C⟩;have q:=ZZ (F.o.trans (C.mono F.o.size));have ab:=ZZ (ac.o.below C zL);have E:=ZZ (T.o.below C zL);have af:=ZZ (an.rdl ap E.o);obtain⟨a2,c2,av⟩:∃ a c,v2=.slice a PF.length c:=by obtain⟨a,c,h,-⟩:=af.o;exact⟨a,c,h⟩
 subst av;clear ap C an p1 J ac T F
 go_wp2_with fail
 refine(z.o _ _ (HP.o.below q.o zL) af.o).mono ?_;rintro e y ⟨rfl,ai⟩;rw[ai];clear ai y z
 cases co with
 | false=>
  have m:Hid (p=3):=ZZ (by rw[k.o,if_neg (fun h=>h HL.o),if_pos (of_decide_eq_false al.o.symm)])
  clear k;go_wp2;go_ret2;rw[m.o];exact⟨_,rfl,Rd.nil _,q.o⟩
 | true=>
  have m:Hid (p=if M≠c then 4 else 0):=ZZ (by rw[k.o,if_neg (fun h=>h HL.o),if_neg (fun h=>h (of_decide_eq_true al.o.symm))])
  have aq:=ZZ (aa.o _ t.drew (E.o.below ((Below.refl _ _).drew) zL));obtain⟨q2,-⟩:=ab.o.cell 2
  go_upto_region 6 with fail
  go_cut[21] (fun x wc=>x=.bool (decide (g≠f))∧Hid (Rd wc (.slice a1 d.length c1) d)∧Hid (Below w.heap.size w wc))
  case first=>
   by_cases j:g=f
   ·have Q:(g != f)=false:=by rw[bne_eq_false_iff_eq];exact j
    have b:decide (g≠f)=false:=decide_eq_false (fun h=>h j)
    have I:=ZZ b;clear j b
    go_region_held(fun w'=>w'.cell? ⟨w.heap.size,2,none⟩=some (.int .u32 f)) (go_keep)
     (first
      | (go_at_call 136;refine aq.o.mono ?_;rintro e y ⟨rfl,A⟩;have l:Below t.heap.size t y:=((Below.refl _ _).drew).trans A;have R:=ZZ (q.o.trans (l.mono q.o.size));have Z:=ZZ (E.o.below l zL);obtain⟨r2,-⟩:=(ab.o.below l zL).cell 2;clear A l))
    all_goals
     go_wp2_with fail
     go_meet
     exact⟨by rw[I.o],Z,R⟩
   ·have Q:(g != f)=true:=by rw[bne_iff_ne];exact j
    have b:decide (g≠f)=true:=decide_eq_true j;have I:=ZZ b;clear j b
    go_region_held(fun w'=>w'.cell? ⟨w.heap.size,2,none⟩=some (.int .u32 f)) (go_keep)
     (first
      | (go_at_call 136;refine aq.o.mono ?_;rintro e y ⟨rfl,A⟩;have l:Below t.heap.size t y:=((Below.refl _ _).drew).trans A;have R:=ZZ (q.o.trans (l.mono q.o.size));have Z:=ZZ (E.o.below l zL);obtain⟨r2,-⟩:=(ab.o.below l zL).cell 2;clear A l))
    all_goals
     go_wp2_with fail
     go_meet
     exact⟨by rw[I.o],Z,R⟩
  case rest=>
   obtain⟨WC,rfl⟩:∃ W,W=wc:=⟨_,rfl⟩;obtain⟨rfl,au,ao⟩:=hcut;by_cases j:M=c
   ·have S:Hid (p=0):=ZZ (by rw[m.o,if_neg (by omega)])
    have b:decide (g≠f)=false:=decide_eq_false (by have:=ae.o;have:=ag.o;omega)
    rw[b];clear b j k m;go_wp2;go_ret2;rw[S.o];exact⟨_,rfl,au.o,ao.o⟩
   ·have S:Hid (p=4):=ZZ (by rw[m.o,if_pos j])
    have b:decide (g≠f)=true:=decide_eq_true (by have:=ae.o;have:=ag.o;omega)
    rw[b];clear b j k m;go_wp2;go_ret2;rw[S.o];exact⟨_,rfl,Rd.nil _,ao.o⟩
theorem ZxF (b a:Nat) (L:List (List UInt8)) (cap:Nat) (B:L.length<=cap) (l:1<=L.length):
 ∃ i k,(∀ W,(Instr.sliceAt 144 (.slice (some ⟨b,a,none⟩) L.length cap) (some (.int .i64 1)) none none).run prog W=.ok (.slice i (L.length-1) k) W)∧∀ W,RdL W (.slice (some ⟨b,a,none⟩) L.length cap) L->RdL W (.slice i (L.length-1) k) (L.drop 1):=by
 by_cases m:cap=1
 ·refine⟨some ⟨b,a,none⟩,cap-1,fun W=>?_,fun W h=>?_⟩
  ·have g:L.length=1:=by omega
   simp[go_sem,g,m]
  ·have g:L.drop 1=[]:=List.drop_eq_nil_of_le (by omega)
   obtain⟨v,p,c,u,q,y,f⟩:=h;simp only [Value.slice.injEq] at c;obtain⟨rfl,-,rfl⟩:=c;exact⟨_,_,by rw[length_drop],by rw[length_drop];omega,by omega,(fun e=>by cases e),.inl g⟩
 ·refine⟨some ⟨b,a+1,none⟩,cap-1,fun W=>?_,fun W h=>?_⟩
  ·have t:(1:Int)<=(L.length:Int):=by omega
   simp[go_sem,m,t]
  ·obtain⟨v,p,c,u,q,y,f⟩:=h
   simp only [Value.slice.injEq] at c;obtain⟨rfl,-,rfl⟩:=c;refine⟨_,_,by rw[length_drop],by rw[length_drop];omega,by omega,(fun e=>by cases e),?_⟩
   rcases f with f | ⟨b',C,d,w⟩
   ·rw[f] at l
    simp at l
   ·injection d with d
    injection d with d k7 _
    subst d k7;refine .inr ⟨b,a+1,rfl,fun j z=>?_⟩
    rw[length_drop] at z;obtain⟨x,n,A⟩:=w (j+1) (by omega)
    refine⟨x,by rw[show a+1+j=a+(j+1) by omega];exact n,?_⟩
    have e:(L.drop 1).getD j []=L.getD (j+1) []:=by simp[List.getD]
    rw[e];exact A
theorem Zte:Zge []=(Yb,16):=rfl
theorem ZpY (d:List UInt8) (P:List (List UInt8)):Zge (d::P)=if(Yx d).2.2.2≠0 then(Yb,(Yx d).2.2.2) else if Zme P (Yx d).2.1 (Yx d).2.2.1≠0 then(Yb,Zme P (Yx d).2.1 (Yx d).2.2.1)
 else if(Yu P.flatten).2≠0 then(Yb,(Yu P.flatten).2) else if Z6 ⟨((Yx d).1:Nat),(Yu P.flatten).1.st,(Yu P.flatten).1.tab⟩ then(⟨((Yx d).1:Nat),(Yu P.flatten).1.st,(Yu P.flatten).1.tab⟩,0) else(Yb,1):=by
 unfold Zme;rw[Zge];by_cases e:(Yx d).2.2.2≠0
 ·rw[if_pos e,if_pos e]
 rw[if_neg e,if_neg e];by_cases c:P.flatten.length≠(Yx d).2.1
 ·rw[if_pos c,if_pos c,if_pos (by decide)]
 rw[if_neg c,if_neg c];by_cases a:¬ Zfx P
 ·rw[if_pos a,if_pos a,if_pos (by decide)]
 rw[if_neg a,if_neg a];by_cases b:Q2 0 P.flatten≠(Yx d).2.2.1
 ·rw[if_pos b,if_pos b,if_pos (by decide)]
 rw[if_neg b,if_neg b,if_neg (show ¬ ((0:Int)≠0) by decide)]
theorem ZeU:∀ L:List (List UInt8),L.flatten.length+L.length<=(Qf L).length
 | []=>by simp[Qf]
 | x::t=>by
  have a:=ZeU t;have:=Q9 x;rw[Q8,length_append,flatten_cons,length_append,length_cons];omega
theorem ZpZ (v:Value) (b:List UInt8) (w:World) (hr:Rd w v b) (bL:b.length<=100000):
 Calls prog 76 #[v] w fun e w'=>Zch w (ZmE b) e w':=by
 obtain⟨W0,ae⟩:∃ W0,W0=w.alloc (.cells #[.int .i64 0,.int .i64 0,.slice none 0 0,.bool false,.int .i64 0,.slice none 0 0] 41):=⟨_,rfl⟩;have I:Hid (Below w.heap.size w W0):=ZZ (by rw[ae];exact(Below.refl _ _).alloc zL _)
 have ax:Hid (Bn W0 w.heap.size #[.int .i64 0,.int .i64 0,.slice none 0 0,.bool false,.int .i64 0,.slice none 0 0]):=ZZ (by rw[ae];exact heap_alloc_new w _)
 have H:=ZZ (ZyX v b W0 (hr.below I.o zL) (by omega))
 obtain⟨va,vc,hv⟩:∃ a c,v=.slice a b.length c:=by obtain⟨a,c,h,-⟩:=hr;exact⟨a,c,h⟩
 subst hv;obtain⟨l,ag⟩:∃ l,l=ZmE b:=⟨_,rfl⟩;rw[<-ag];by_cases U:(Qp b).2.2=0
 case neg=>
  have F:Hid (l=(Yb,(((Qp b).2.2:Nat):Int))):=ZZ (by rw[ag];unfold ZmE;rw[if_pos U])
  have ha:Zyl b=([],(Qp b).2.2):=by unfold Zyl;rw[if_neg U]
  rw[ha] at H
  dsimp only at H
  generalize (Qp b).2.2=er at *;have av:((er:Int) != 0)=true:=by rw[bne_iff_ne];omega
  obtain⟨E,hE⟩:∃ E:Int,E=(er:Int):=⟨_,rfl⟩;rw[<-hE] at H F av;clear ha ag U hE hr
  go_enter func76,ntmps76
  go_wp2_with fail
  rw[<-ae];refine H.o.mono ?_;rintro e W1 ⟨T,rfl,V,B⟩;have g:=ZZ (ax.o.below B zL);have O:=ZZ (I.o.trans (B.mono I.o.size));obtain⟨A,y0⟩:=g.o.cell 0;obtain⟨x,y1⟩:=g.o.cell 1;obtain⟨p,y2⟩:=g.o.cell 2;obtain⟨u,y3⟩:=g.o.cell 3;obtain⟨z,y4⟩:=g.o.cell 4;obtain⟨y,y5⟩:=g.o.cell 5;clear B V;go_wp2;refine bodyPost_ret (v:=.tuple #[.agg #[.int .i64 0,.int .i64 0,.slice none 0 0,.bool false,.int .i64 0,.slice none 0 0],.int .i64 E]) (by simp[results,Tryz.results76,go_sem,A,x,p,u,z,y]) rfl ?_
  rw[F.o];exact Zch.zero _ (Zbf O.o _ zL _ _ _ _ _ _)
 have F:Hid (l=Zge (Qp b).1):=ZZ (by rw[ag];unfold ZmE;rw[if_neg (fun h=>h U)])
 have ha:Zyl b=((Qp b).1,0):=by unfold Zyl;rw[if_pos U]
 have aq:=ZeU (Qp b).1;rw[(Zfv b.length b zL U).1] at aq;rw[ha] at H
 dsimp only at H
 generalize (Qp b).1=LS at *;clear ha ag U hr
 cases LS with
 | nil=>
  rw[Zte] at F
  go_enter func76,ntmps76
  go_wp2_with fail
  rw[<-ae];refine H.o.mono ?_;rintro e W1 ⟨T,rfl,V,B⟩;obtain⟨a1,c1,aS⟩:∃ a c,T=.slice a 0 c:=by obtain⟨a,c,h,-⟩:=V;exact⟨a,c,h⟩
  subst aS;have g:=ZZ (ax.o.below B zL);have O:=ZZ (I.o.trans (B.mono I.o.size));obtain⟨A,y0⟩:=g.o.cell 0;obtain⟨x,y1⟩:=g.o.cell 1;obtain⟨p,y2⟩:=g.o.cell 2;obtain⟨u,y3⟩:=g.o.cell 3;obtain⟨z,y4⟩:=g.o.cell 4;obtain⟨y,y5⟩:=g.o.cell 5;clear B V;go_wp2;refine bodyPost_ret (v:=.tuple #[.agg #[.int .i64 0,.int .i64 0,.slice none 0 0,.bool false,.int .i64 0,.slice none 0 0],.int .i64 16]) (by simp[results,Tryz.results76,go_sem,A,x,p,u,z,y]) rfl ?_
  rw[F.o];exact Zch.zero _ (Zbf O.o _ zL _ _ _ _ _ _)
 | cons d P=>
  rw[ZpY] at F;have bn:P.flatten.length<=100000:=by rw[flatten_cons,length_append,length_cons] at aq;omega
  have bF:P.length<=100000:=by rw[flatten_cons,length_append,length_cons] at aq;omega
  have aT:Hid ((d::P).length=P.length+1):=ZZ rfl;have az:=ZZ (fun T W h=>ZgK T d W h)
  have a3:=ZZ (fun i n c vp W h=>ZxE i n c vp P W h bn bF)
  have bv:=ZZ (fun T W h=>Zmd T P.flatten W h bn)
  have aV:Hid (I64 ((Yx d).1:Nat)):=ZZ (by
   have:(Yx d).1<4611686018427387904:=by
    unfold Yx;split
    ·decide
    dsimp only
    split
    ·decide
    split
    ·decide
    split
    ·decide
    rcases Xf (d.drop (1+(Qb (d.drop 1)).2)) with h | h
    ·rw[h];exact(by decide:(0:Nat)<4611686018427387904)
    ·exact h.1
   exact⟨by omega,by omega⟩)
  unfold ZzR at az
  have ay:Hid (∀ (W:World) (n:Int),Below w.heap.size w W->l=(Yb,n)->Zch w l (.returned (.tuple #[.agg #[.int .i64 0,.int .i64 0,.slice none 0 0,.bool false,.int .i64 0,.slice none 0 0],.int .i64 n])) ((((((W.setCell ⟨w.heap.size,0,none⟩ (.int .i64 0)).setCell ⟨w.heap.size,1,none⟩ (.int .i64 0)).setCell ⟨w.heap.size,2,none⟩ (.slice none 0 0)).setCell ⟨w.heap.size,3,none⟩ (.bool false)).setCell ⟨w.heap.size,4,none⟩ (.int .i64 0)).setCell ⟨w.heap.size,5,none⟩ (.slice none 0 0))):=ZZ (fun W n h e=>by
   rw[e]
   exact Zch.zero _ (Zbf h _ zL _ _ _ _ _ _))
  clear aq;generalize Yx d=RM at *;obtain⟨f,N,K,me⟩:=RM
  dsimp only at F az aV
  have a7:=ZZ (fun rb ro c h=>ZxF rb ro (d::P) c h (by simp))
  have bN:(P.length:Int)<=100000:=by omega
  go_enter func76,ntmps76
  go_wp2_with fail
  rw[<-ae];refine H.o.mono ?_;rintro e W1 ⟨T,rfl,V,B⟩;have g:=ZZ (ax.o.below B zL);have O:=ZZ (I.o.trans (B.mono I.o.size));have aN:=ZZ V;obtain⟨a1,c1,aS,aY,-,-,bK⟩:=V;subst aS;rcases bK with h0 | ⟨rb,ro,rfl,hc⟩
  ·cases h0
  obtain⟨x0,bu,a8⟩:=hc 0 (by simp)
  have bH:W1.cell? ⟨rb,ro,none⟩=some x0:=bu;have aQ:Rd W1 x0 d:=a8;have bc:=ZZ aQ;obtain⟨xa,xc,bJ⟩:∃ a c,x0=.slice a d.length c:=by obtain⟨a,c,h,-⟩:=aQ;exact⟨a,c,h⟩
  subst bJ;obtain⟨ra,rc,bl,bm⟩:=a7.o rb ro c1 aY;rw[aT.o,Nat.add_sub_cancel] at bl;have aL:=ZZ (fun W h=>bm W h)
  rw[aT.o,Nat.add_sub_cancel,List.drop_one,List.tail_cons] at aL;rw[aT.o] at aN ⊢;have bM:((P.length:Int)+1 == 0)=false:=beq_eq_false_iff_ne.2 (by omega)
  have bO:(0:Int)<(P.length:Int)+1:=by omega
  clear B hc bu a8 bm H aY a7 aQ ae ax I
  go_wp2_with fail
  refine(az.o _ _ bc.o).mono ?_;rintro e W2 ⟨rfl,af⟩;obtain⟨j,aA⟩:∃ j,j=W2.alloc (.cells #[.int .i64 (f:Int),.int .i64 (N:Int),.int .u32 (K:Int)] 147):=⟨_,rfl⟩;have ar:Hid (Below W2.heap.size W2 j):=ZZ (by rw[aA];exact(Below.refl _ _).alloc zL _)
  have aE:Hid (Bq j W2.heap.size #[.int .i64 (f:Int),.int .i64 (N:Int),.int .u32 (K:Int)]):=ZZ (by rw[aA];exact heap_alloc_new W2 _)
  have Q:=ZZ ((g.o.below af zL).below ar.o zL);have ao:=ZZ ((O.o.trans (af.mono O.o.size)).trans (ar.o.mono (Nat.le_trans O.o.size af.size)));have bo:=ZZ ((aN.o.below af zL).below ar.o zL)
  go_upto_region 7 with fail
  rw[<-aA];obtain⟨R,bj⟩:∃ R,R=W2.heap.size:=⟨_,rfl⟩;rw[<-bj] at aE ⊢;clear aA bj af bH g O aN az bc ar;by_cases ac:me=0
  case neg=>
   have bI:(me != 0)=true:=by rw[bne_iff_ne];exact ac
   have M:Hid (l=(Yb,me)):=ZZ (by rw[F.o,if_pos ac])
   obtain⟨A,y0⟩:=Q.o.cell 0;obtain⟨x,y1⟩:=Q.o.cell 1;obtain⟨p,y2⟩:=Q.o.cell 2;obtain⟨u,y3⟩:=Q.o.cell 3;obtain⟨z,y4⟩:=Q.o.cell 4;obtain⟨y,y5⟩:=Q.o.cell 5;clear ac;go_wp2;refine bodyPost_ret (v:=.tuple #[.agg #[.int .i64 0,.int .i64 0,.slice none 0 0,.bool false,.int .i64 0,.slice none 0 0],.int .i64 me]) (by simp[results,Tryz.results76,go_sem,A,x,p,u,z,y]) rfl ?_
   exact ay.o _ _ ao.o M.o
  have bI:(me != 0)=false:=by rw[bne_eq_false_iff_eq];exact ac
  have aw:Hid (l=if Zme P N K≠0 then(Yb,Zme P N K) else if(Yu P.flatten).2≠0 then(Yb,(Yu P.flatten).2) else if Z6 ⟨(f:Nat),(Yu P.flatten).1.st,(Yu P.flatten).1.tab⟩ then(⟨(f:Nat),(Yu P.flatten).1.st,(Yu P.flatten).1.tab⟩,0) else(Yb,1)):=ZZ (by rw[F.o,if_neg (fun h=>h ac)])
  have aj:=ZZ (fun W h=>a3.o (f:Int) N K (.slice ra P.length rc) W h)
  obtain⟨G,bh⟩:∃ G,G=Zme P N K:=⟨_,rfl⟩;rw[<-bh] at aw aj;unfold Joined at aj;clear ac bh F a3;generalize P.flatten=FL at *;obtain⟨m,aK⟩:∃ m,m=if G=0 then FL else[]:=⟨_,rfl⟩
  rw[<-aK] at aj;have bB:=ZZ aK;clear aK
  have aG:Hid (∀ W,Below j.heap.size j W->W.cell? ⟨R,0,none⟩=some (.int .i64 (f:Int))∧W.cell? ⟨R,1,none⟩=some (.int .i64 (N:Int))∧W.cell? ⟨R,2,none⟩=some (.int .u32 (K:Int))):=ZZ (fun W h=>by
   have hx:=aE.o.below h zL
   exact⟨(hx.cell 0).1,(hx.cell 1).1,(hx.cell 2).1⟩)
  have aB:Hid (Below j.heap.size j j.drew):=ZZ ((Below.refl _ _).drew)
  go_upto_region 9 with fail
  go_cut[5,7] (fun x5 x7 wc=>∃ a c,x5=.int .i64 G∧x7=.slice a m.length c∧Hid (Rd wc (.slice a m.length c) m)∧Hid (Below j.heap.size j wc))
  case first=>
   go_region_held(fun w'=>w'.cell? ⟨R,0,none⟩=some (.int .i64 (f:Int))∧w'.cell? ⟨R,1,none⟩=some (.int .i64 (N:Int))∧w'.cell? ⟨R,2,none⟩=some (.int .u32 (K:Int))) (first | (with_reducible exact aG.o _ aB.o) | (with_reducible exact aG.o _ a5))
    (first
     | (go_at_call 116;refine(aj.o j.drew (aL.o _ (bo.o.below aB.o zL))).mono ?_;rintro e W4 ⟨v4,rfl,aP,bq⟩;have a5:Below j.heap.size j W4:=aB.o.trans bq;have an:=ZZ aP;obtain⟨a4,c4,bE⟩:∃ a c,v4=.slice a m.length c:=(by obtain⟨a,c,h,-⟩:=aP;exact⟨a,c,h⟩);subst bE;clear aP bq))
   all_goals
    go_wp2_with fail
    go_meet
    exact⟨a4,c4,rfl,rfl,an,ZZ a5⟩
  case rest=>
   obtain⟨WC,rfl⟩:∃ W,W=wc:=⟨_,rfl⟩;obtain⟨a4,c4,rfl,rfl,an,aF⟩:=hcut;have D:=ZZ (Q.o.below aF.o zL);have bi:=ZZ (aE.o.below aF.o zL);have aC:=ZZ (ao.o.trans (aF.o.mono ao.o.size));clear Q aE ao bo aF aG aB aj aL bl;by_cases Y:G=0
   case neg=>
    have bG:(G != 0)=true:=by rw[bne_iff_ne];exact Y
    have M:Hid (l=(Yb,G)):=ZZ (by rw[aw.o,if_pos Y])
    obtain⟨A,y0⟩:=D.o.cell 0;obtain⟨x,y1⟩:=D.o.cell 1;obtain⟨p,y2⟩:=D.o.cell 2;obtain⟨u,y3⟩:=D.o.cell 3;obtain⟨z,y4⟩:=D.o.cell 4;obtain⟨y,y5⟩:=D.o.cell 5;clear Y;go_wp2;refine bodyPost_ret (v:=.tuple #[.agg #[.int .i64 0,.int .i64 0,.slice none 0 0,.bool false,.int .i64 0,.slice none 0 0],.int .i64 G]) (by simp[results,Tryz.results76,go_sem,A,x,p,u,z,y]) rfl ?_
    exact ay.o _ _ aC.o M.o
   have bG:(G != 0)=false:=by rw[bne_eq_false_iff_eq];exact Y
   have bC:m=FL:=by rw[bB.o,if_pos Y]
   subst bC;have ad:Hid (l=if(Yu m).2≠0 then(Yb,(Yu m).2) else if Z6 ⟨(f:Nat),(Yu m).1.st,(Yu m).1.tab⟩ then(⟨(f:Nat),(Yu m).1.st,(Yu m).1.tab⟩,0) else(Yb,1)):=ZZ (by rw[aw.o,if_neg (fun h=>h Y)])
   have bd:=ZZ (bv.o _ _ an.o);clear Y aw bv
   go_wp2_with fail
   refine bd.o.mono ?_;rintro e W5 ⟨vl,vt,S,t,ok,rfl,aR,bf,aZ,aI,be,bb,bg,a2,al⟩;obtain⟨la,lc,bx⟩:∃ a c,vl=.slice a S.L.length c:=by obtain⟨a,c,h,-⟩:=aR;exact⟨a,c,h⟩
   obtain⟨ta,tc,bA⟩:=aI.shape;subst bx bA;obtain⟨q,am⟩:∃ q,q=W5.alloc (.cells #[.int .i64 S.kind,.slice la S.L.length lc,.bool S.shut,.int .i64 S.eng] 38):=⟨_,rfl⟩;have Z:Hid (Below W5.heap.size W5 q):=ZZ (by rw[am];exact(Below.refl _ _).alloc zL _)
   have ah:Hid (Bx q W5.heap.size #[.int .i64 S.kind,.slice la S.L.length lc,.bool S.shut,.int .i64 S.eng]):=ZZ (by rw[am];exact heap_alloc_new W5 _)
   have J:=ZZ ((D.o.below al zL).below Z.o zL);have bz:=ZZ ((bi.o.below al zL).below Z.o zL);have aH:=ZZ (aC.o.trans (al.mono aC.o.size));have aO:=ZZ (aH.o.trans (Z.o.mono aH.o.size));have a9:=ZZ (aR.below Z.o zL);have br:=ZZ (aI.below Z.o zL);have au:=ZZ (And.intro bf aZ);have aD:Hid ((∀ k,(Value.slice la S.L.length lc).ownBlock=some k->w.heap.size<k)∧(∀ k,(Value.slice ta t.length tc).ownBlock=some k->w.heap.size<k)):=ZZ ⟨fun k C=>by have h1:=be k C;have h2:=D.o.lt;omega,fun k C=>by have h1:=bb k C;have h2:=D.o.lt;omega⟩
   have aX:=ZZ bg;have a0:=ZZ a2
   go_upto_region 13 with fail
   rw[<-am];obtain⟨QS,bt⟩:∃ QS,QS=W5.heap.size:=⟨_,rfl⟩;rw[<-bt] at ah ⊢;clear am bt aR bf aZ aI be bb bg a2 al D bi aC bd an Z aH
   cases ok with
   | false=>
    have h3:=aX.o rfl;have M:Hid (l=(Yb,3)):=ZZ (by rw[ad.o,if_pos (by rw[h3];decide),h3])
    obtain⟨A,y0⟩:=J.o.cell 0;obtain⟨x,y1⟩:=J.o.cell 1;obtain⟨p,y2⟩:=J.o.cell 2;obtain⟨u,y3⟩:=J.o.cell 3;obtain⟨z,y4⟩:=J.o.cell 4;obtain⟨y,y5⟩:=J.o.cell 5;clear h3;go_wp2;refine bodyPost_ret (v:=.tuple #[.agg #[.int .i64 0,.int .i64 0,.slice none 0 0,.bool false,.int .i64 0,.slice none 0 0],.int .i64 3]) (by simp[results,Tryz.results76,go_sem,A,x,p,u,z,y]) rfl ?_
    exact ay.o _ _ aO.o M.o
   | true=>
    obtain⟨er,a6,av⟩:=a0.o rfl;rw[a6] at ad
    dsimp only at ad
    have M:Hid (l=if Z6 ⟨(f:Nat),S,t⟩ then(⟨(f:Nat),S,t⟩,0) else(Yb,1)):=ZZ (by
     rcases av with h | ⟨h,h2⟩
     ·rw[ad.o,if_neg (fun h'=>h' h)]
     ·rw[ad.o,if_pos (by rw[h];decide),h,h2,if_neg (ZuH _ _)])
    have aU:=ZZ (fun W (h:Below q.heap.size q W)=>ZqY (.agg #[.int .i64 ((f:Nat):Int),.int .i64 S.kind,.slice la S.L.length lc,.bool S.shut,.int .i64 S.eng,.slice ta t.length tc]) ⟨(f:Nat),S,t⟩ W ⟨_,_,rfl,a9.o.below h zL,au.o.1,au.o.2,br.o.below h zL,aV.o⟩)
    obtain⟨m0,-⟩:=bz.o.cell 0;obtain⟨s0,-⟩:=ah.o.cell 0;obtain⟨s1,-⟩:=ah.o.cell 1;obtain⟨s2,-⟩:=ah.o.cell 2;obtain⟨s3,-⟩:=ah.o.cell 3;have ai:Hid (∀ X,Below q.heap.size q (q.alloc X)):=ZZ (fun X=>(Below.refl _ _).alloc zL X)
    have bk:Hid (∀ cs,Bn (q.alloc (.cells cs 41)) q.heap.size cs):=ZZ (fun cs=>heap_alloc_new q _)
    obtain⟨my,aJ⟩:∃ my,my=decide (Z6 ⟨((f:Nat):Int),S,t⟩):=⟨_,rfl⟩;rw[<-aJ] at aU;have aW:=ZZ aJ;clear a6 av a0 aX ad aJ
    go_wp2_with fail
    refine(aU.o _ (ai.o _)).mono ?_;rintro e W8 ⟨rfl,ak⟩;have aa:=ZZ ((J.o.below (ai.o _) zL).below ak zL);have ab:=ZZ ((bk.o _).below ak zL);have ap:=ZZ ((ai.o _).trans (ak.mono (ai.o _).size));have bp:=ZZ (aO.o.trans (ap.o.mono aO.o.size));have bD:=ZZ (a9.o.below ap.o zL);have bw:=ZZ (br.o.below ap.o zL);obtain⟨A,y0⟩:=aa.o.cell 0;obtain⟨x,y1⟩:=aa.o.cell 1;obtain⟨p,y2⟩:=aa.o.cell 2;obtain⟨u,y3⟩:=aa.o.cell 3;obtain⟨z,y4⟩:=aa.o.cell 4;obtain⟨y,y5⟩:=aa.o.cell 5;clear ak aU m0 s0 s1 s2 s3 J ai bk ap
    cases my with
    | false=>
     have aM:Hid (l=(Yb,1)):=ZZ (by rw[M.o,if_neg (of_decide_eq_false aW.o.symm)])
     go_wp2;refine bodyPost_ret (v:=.tuple #[.agg #[.int .i64 0,.int .i64 0,.slice none 0 0,.bool false,.int .i64 0,.slice none 0 0],.int .i64 1]) (by simp[results,Tryz.results76,go_sem,A,x,p,u,z,y]) rfl ?_
     exact ay.o _ _ bp.o aM.o
    | true=>
     have aM:Hid (l=(⟨((f:Nat):Int),S,t⟩,0)):=ZZ (by rw[M.o,if_pos (of_decide_eq_true aW.o.symm)])
     obtain⟨q0,-⟩:=ab.o.cell 0;obtain⟨q1,-⟩:=ab.o.cell 1;obtain⟨q2,-⟩:=ab.o.cell 2;obtain⟨q3,-⟩:=ab.o.cell 3;obtain⟨q4,-⟩:=ab.o.cell 4;obtain⟨q5,-⟩:=ab.o.cell 5;go_wp2;refine bodyPost_ret (v:=.tuple #[.agg #[.int .i64 (f:Int),.int .i64 S.kind,.slice la S.L.length lc,.bool S.shut,.int .i64 S.eng,.slice ta t.length tc],.int .i64 0]) (by simp[results,Tryz.results76,go_sem,A,x,p,u,z,y]) rfl ?_
     rw[aM.o];have ba:=ZqQ W8 w.heap.size (.int .i64 (f:Int)) (.int .i64 S.kind) (.slice la S.L.length lc) (.bool S.shut) (.int .i64 S.eng) (.slice ta t.length tc);exact⟨_,_,rfl,bD.o.but ba (.inr fun k C=>by have:=aD.o.1 k C;omega),au.o.1,au.o.2,bw.o.but ba (.inr fun k C=>by have:=aD.o.2 k C;omega),aV.o,(fun k C=>Nat.le_of_lt (aD.o.1 k C)),(fun k C=>Nat.le_of_lt (aD.o.2 k C)),ZeF bp.o _ zL _ _ _ _ _ _⟩
def Jy (m:List UInt8):Rec × Int × List UInt8 × Bool:=
 let m1:=behind (Qb m).2 m
 let m2:=behind (Qe m1).2 m1
 let m3:=behind (Xc m2).2 m2
 (⟨0,(Qb m).1,0,(Xc m2).1,zag (Qe m3).1⟩,zag (Qe m1).1,behind (Qe m3).2 m3,decide ((Qe m3).2≠0))
theorem ZeV (m:List UInt8):∃ b c a,b=behind (Qb m).2 m∧c=behind (Qe b).2 b∧a=behind (Xc c).2 c∧Jy m=(⟨0,(Qb m).1,0,(Xc c).1,zag (Qe a).1⟩,zag (Qe b).1,behind (Qe a).2 a,decide ((Qe a).2≠0)):=
 ⟨_,_,_,rfl,rfl,rfl,rfl⟩
theorem ZnW:(Xc []).2=0:=by
 have:=ZqE [];simpa using this
theorem Zcn {d:Nat} (h:behind d l≠[]):d≠0:=fun e=>h (by rw[e];rfl)
theorem ZkK (h:(Qe l).2≠0):l≠[]:=fun e=>h (by rw[e,Zbj])
theorem Ztf (h:(Qb l).2≠0):l≠[]:=fun e=>h (by rw[e,ZcS])
theorem Ztg (h:(Xc l).2≠0):l≠[]:=fun e=>h (by rw[e];exact ZnW)
theorem ZiV (h:(Qb l).2≠0):l=Lib.uvarint (Qb l).1++behind (Qb l).2 l:=by
 rw[Yv h,Z2 h,List.take_append_drop]
theorem ZnX (h:(Qe l).2≠0):l=Lib.uvarint (Qe l).1++behind (Qe l).2 l:=by
 rw[Yv h,Zkf h,List.take_append_drop]
theorem ZvG (h:(Xc l).2≠0):l=X6 (Xc l).1++behind (Xc l).2 l:=by
 rw[Yv h,(Zhv h).2,List.take_append_drop]
theorem ZvH {m:List UInt8} (h:(Jy m).2.2.2=false):(Jy m).2.2.1=[]:=by
 unfold Jy at h ⊢;simp only [decide_eq_false_iff_not,Decidable.not_not] at h ⊢;rw[h];rfl
theorem take_nil:(Jy []).2.2.2=false:=by
 obtain⟨h,d,e,f,b,c,i⟩:=ZeV [];have j:h=[]:=by rw[f,ZcS];rfl
 have g:d=[]:=by rw[b,j,Zbj];rfl
 have a:e=[]:=by rw[c,g,ZnW];rfl
 rw[i,a];show decide ((Qe []).2≠0)=false;rw[Zbj];rfl
theorem Zth {m:List UInt8} (h:(Jy m).2.2.2=true):
 m=Lib.uvarint (Jy m).1.proc.toNat++(Lib.uvarint (Lib.zigzag (Jy m).2.1)++(X6 (Jy m).1.op++(Lib.uvarint (Lib.zigzag (Jy m).1.resp)++(Jy m).2.2.1))):=by
 obtain⟨b,a,c,i,e,f,t⟩:=ZeV m;rw[t] at h ⊢;simp only [decide_eq_true_eq] at h;have j:(Xc a).2≠0:=Zcn (l:=a) (by rw[<-f];exact ZkK h)
 have k:(Qe b).2≠0:=Zcn (l:=b) (by rw[<-e];exact Ztg j)
 have p:(Qb m).2≠0:=Zcn (l:=m) (by rw[<-i];exact ZkK k)
 have q:=ZnX h;have d:=ZvG j;have g:=ZnX k;have n:=ZiV p;rw[<-i] at n;rw[<-e] at g;rw[<-f] at d;show m=Lib.uvarint ((Qb m).1:Int).toNat++(Lib.uvarint (Lib.zigzag (zag (Qe b).1))++(X6 (Xc a).1++(Lib.uvarint (Lib.zigzag (zag (Qe c).1))++behind (Qe c).2 c)));rw[Int.toNat_natCast,ZbI,ZbI];exact n.trans (congrArg (Lib.uvarint (Qb m).1++·) (g.trans (congrArg (Lib.uvarint (Qe b).1++·) (d.trans (congrArg (X6 (Xc a).1++·) q)))))
theorem ZvI (m:List UInt8):I64 (Jy m).1.proc∧I64 (Jy m).2.1∧Zyw (Jy m).1.op∧I64 (Jy m).1.resp∧(Jy m).1.idx=0∧(Jy m).1.seq=0∧0<=(Jy m).1.proc:=by
 have d:∀ l:List UInt8,I64 (zag (Qe l).1):=fun l=>ZoL (Zle l)
 have w:(Qb m).1<4611686018427387904:=by
  rcases Xf m with e | e
  ·rw[e];decide
  ·exact e.1
 have n:∀ l:List UInt8,Zyw (Xc l).1:=fun l=>by
  by_cases h:(Xc l).2=0
  ·rw[Zrz h]
   exact⟨⟨by decide,by decide⟩,⟨by decide,by decide⟩,⟨by decide,by decide⟩⟩
  ·have a:=(Zhv h).1
   have b:=ZaM a;obtain⟨t,q,_⟩:=a;refine⟨?_,b.1,b.2⟩;generalize (Xc l).1.code=c at *;exact⟨by omega,by omega⟩
 obtain⟨g,f,i,x,u,v,p⟩:=ZeV m;have k:I64 ((Qb m).1:Int):=⟨by omega,by omega⟩
 have j:(0:Int)<=((Qb m).1:Int):=by omega
 rw[p];exact⟨k,d g,n f,d i,rfl,rfl,j⟩
theorem Zzd (m:List UInt8):(Jy m).2.2.1.length<=m.length:=by
 obtain⟨c,d,e,i,g,h,k⟩:=ZeV m;rw[k];have a:=Je (Qb m).2 m;have f:=Je (Qe c).2 c;have b:=Je (Xc d).2 d;have j:=Je (Qe e).2 e;rw[<-i] at a;rw[<-g] at f;rw[<-h] at b;exact Nat.le_trans j (Nat.le_trans b (Nat.le_trans f a))
theorem ZxG {a:List Rec} (e:∀ r ∈ a,Qz r) {r:Rec} (b:Qz r) (t:List UInt8):
 Jy (Zf a r++t)=(⟨0,r.proc,0,r.op,r.resp⟩,r.seq-Q7 a r.proc,t,true):=by
 have d:=Zeu e b;have c:=ZaX b;obtain⟨k,_,_,n,m,q,p,_⟩:=id b
 have E:Zf a r++t=Lib.uvarint r.proc.toNat++(Lib.uvarint (Lib.zigzag (r.seq-Q7 a r.proc))++(X6 r.op++(Lib.uvarint (Lib.zigzag r.resp)++t))):=by
  unfold Zf;simp only [append_assoc]
 rw[E]
 have f:(X6 r.op).length≠0:=by
  unfold X6;have:=J2 r.op.code.toNat;rw[length_append];omega
 have j:=Q4 r.proc.toNat (Lib.uvarint (Lib.zigzag (r.seq-Q7 a r.proc))++(X6 r.op++(Lib.uvarint (Lib.zigzag r.resp)++t))) (by omega)
 have i:=Y8 (Lib.zigzag (r.seq-Q7 a r.proc)) (X6 r.op++(Lib.uvarint (Lib.zigzag r.resp)++t)) (Zbd d);have h:=Zmy r.op k (Lib.uvarint (Lib.zigzag r.resp)++t);have g:=Y8 (Lib.zigzag r.resp) t (Zbd c);unfold Jy;simp only [j,Yv (J2 _),List.drop_left,i,h,Yv f,g,Gw _ d.1 d.2,Gw _ c.1 c.2];have l:((r.proc.toNat:Nat):Int)=r.proc:=by omega
 rw[l,decide_eq_true (J2 _)]
theorem Zco {ao:Option Addr} {cap:Nat} (e:Rd w (.slice ao l.length cap) l) (d:Nat) (i:d<=l.length):
 ∃ b a,(∀ W,(Instr.sliceAt 53 (.slice ao l.length cap) (some (.int .i64 (d:Int))) none none).run prog W=.ok (.slice b (l.drop d).length a) W)∧Rd w (.slice b (l.drop d).length a) (l.drop d):=by
 obtain⟨k,j,f,h,r⟩:=id e;simp only [Value.slice.injEq] at f;obtain⟨rfl,_,rfl⟩:=f;have c:=e.mid d l.length cap i zL h zL;rw[List.take_of_length_le (by simp)] at c
 obtain⟨b,a,g,-⟩:=id c;rw[g] at c;refine⟨b,a,fun W=>?_,c⟩
 rw[run_sliceAt_slice W 53 _ _ _ _ Xu,run_slice_l W 53 ao l.length cap Xu .i64 (d:Int) (by omega) (by omega),Jo,Zce]
 show Result.ok (sliced ao ((d:Int)).toNat l.length cap 1) W=_;rw[Int.toNat_natCast,g]
def ZjB (w:World) (g:Nat) (L:List Rec):Prop:=w.heap[g]?=some (.cells (Qt L).toArray 62 (0,0))
theorem ZjB.lt (h:ZjB w g L):g<w.heap.size:=(Array.getElem?_eq_some_iff.1 h).1
theorem ZjB.below (h:ZjB w g L) (a:Below B w w') (b:w.heap.size<=B):ZjB w' g L:=(a.block g (by have:=h.lt;omega)).trans h
theorem ZjB.cell (h:ZjB w g L) (i:Nat):w.cell? ⟨g,i,none⟩=(Qt L)[i]?∧w.frozen? ⟨g,i,none⟩=false:=
 ⟨(cell_of_row w g i _ _ _ h).trans (by simp),frozen_of_row w g i _ _ h⟩
theorem ZjB.at (h:ZjB w g L) {k:Nat} (c:k<L.length):ZjI w g (k*7) (L.getD k Qi):=by
 have a:∀ j u,j<7->(Ja (L.getD k Qi))[j]?=some u->w.cell? ⟨g,k*7+j,none⟩=some u:=fun j u d b=>(h.cell _).1.trans ((Zbv L k j c d).trans b)
 exact⟨a 0 _ (by decide) rfl,a 1 _ (by decide) rfl,a 2 _ (by decide) rfl,a 3 _ (by decide) rfl,a 4 _ (by decide) rfl,a 5 _ (by decide) rfl,a 6 _ (by decide) rfl⟩
theorem Zgu:∀ (L:List Rec) (k j:Nat) (v:Value) (r:Rec),k<L.length->j<7->(Ja r).toList=(Ja (L.getD k Qi)).toList.set j v->(Qt L).set (k*7+j) v=Qt (L.set k r)
 | s::t,0,j,v,r,_,hj,h=>by
  have e:((s::t).getD 0 Qi)=s:=rfl;rw[e] at h;rw[Qt,Nat.zero_mul,Nat.zero_add,List.set_append_left _ _ (by simp[Ja];omega),<-h]
  rfl
 | s::t,k+1,j,v,r,hk,hj,h=>by
  have e:(k+1)*7+j=(Ja s).toList.length+(k*7+j):=by simp[Ja];omega
  have a:((s::t).getD (k+1) Qi)=t.getD k Qi:=by simp[List.getD]
  rw[a] at h;rw[Qt,e,List.set_append_right _ _ (by omega),Nat.add_sub_cancel_left,Zgu t k j v r (by simpa using hk) hj h]
  rfl
theorem ZjB.set (h:ZjB w g L) {k:Nat} (a:k<L.length) (j:Nat) (c:j<7) (v:Value) (r:Rec) (b:(Ja r).toList=(Ja (L.getD k Qi)).toList.set j v):
 ZjB (w.setCell ⟨g,k*7+j,none⟩ v) g (L.set k r):=by
 have:=heap_setCell_same w g (k*7+j) _ _ v h;unfold ZjB;rw[<-Zgu L k j v r a c b];simpa using this
theorem Zav (a:k<L.length) (r:Rec):(L.set k r).getD k Qi=r:=by simp[List.getD,a]
theorem ZjB.seven (h:ZjB w g L) {k:Nat} (d:k<L.length) (i p s c a b y:Int):
 ZjB (((((((w.setCell ⟨g,k*7,none⟩ (.int .i64 i)).setCell ⟨g,k*7+1,none⟩ (.int .i64 p)).setCell ⟨g,k*7+2,none⟩ (.int .i64 s)).setCell ⟨g,k*7+3,none⟩ (.int .i64 c)).setCell ⟨g,k*7+4,none⟩ (.int .i64 a)).setCell ⟨g,k*7+5,none⟩ (.int .i64 b)).setCell ⟨g,k*7+6,none⟩ (.int .i64 y)) g (L.set k ⟨i,p,s,⟨c,a,b⟩,y⟩):=by
 have e:∀ r,k<(L.set k r).length:=fun r=>by simpa using d
 generalize B:L.getD k Qi=R;obtain⟨D,A,v,⟨m,l,j⟩,f⟩:=R;have C:=h.set d 0 (by decide) (.int .i64 i) ⟨i,A,v,⟨m,l,j⟩,f⟩ (by rw[B];rfl)
 have x:=C.set (e _) 1 (by decide) (.int .i64 p) ⟨i,p,v,⟨m,l,j⟩,f⟩ (by rw[Zav d];rfl)
 rw[List.set_set] at x;have n:=x.set (e _) 2 (by decide) (.int .i64 s) ⟨i,p,s,⟨m,l,j⟩,f⟩ (by rw[Zav d];rfl)
 rw[List.set_set] at n;have q:=n.set (e _) 3 (by decide) (.int .i64 c) ⟨i,p,s,⟨c,l,j⟩,f⟩ (by rw[Zav d];rfl)
 rw[List.set_set] at q;have u:=q.set (e _) 4 (by decide) (.int .i64 a) ⟨i,p,s,⟨c,a,j⟩,f⟩ (by rw[Zav d];rfl)
 rw[List.set_set] at u;have z:=u.set (e _) 5 (by decide) (.int .i64 b) ⟨i,p,s,⟨c,a,b⟩,f⟩ (by rw[Zav d];rfl)
 rw[List.set_set] at z;have t:=z.set (e _) 6 (by decide) (.int .i64 y) ⟨i,p,s,⟨c,a,b⟩,y⟩ (by rw[Zav d];rfl)
 rw[List.set_set] at t;exact t
theorem ZjB.rd (h:ZjB w g L) (a:∀ r ∈ L,Zcx r) (c:L.length<=maxLen):RdR w (.slice (some ⟨g,0,none⟩) L.length L.length) L:=
 ⟨_,_,rfl,Nat.le_refl _,c,(fun e=>by cases e),a,.inr ⟨g,0,rfl,fun j b=>by rw[Nat.zero_add];exact h.at b⟩⟩
theorem ZeW:∀ n:Nat,Qt (List.replicate n Qi)=List.replicate (n*7) (Value.int .i64 0)
 | 0=>rfl
 | n+1=>by
  have e:(n+1)*7=7+n*7:=by omega
  rw[List.replicate_succ,Qt,ZeW n,e,<-List.replicate_append_replicate];rfl
theorem Zmf (w:World) (n:Nat) (l:n<=1000000):(Instr.makeSlice 29 (.int .i64 (n:Int)) (.int .i64 (n:Int))).run prog w=.ok (.slice (some ⟨w.heap.size,0,none⟩) n n) (w.alloc (.cells (Qt (List.replicate n Qi)).toArray 62)):=by
 obtain⟨c,a,b,g,k⟩:=info_parts Zdg;have h:=run_make (P:=prog) w 29 62 c _ underlying29 a b .i64 .i64 (n:Int) (n:Int) (by omega) (Int.le_refl _) (by rw[k];omega) (by omega)
 rw[Int.toNat_natCast,g] at h;rw[h]
 congr 3
 apply Array.ext';rw[ZeW];apply List.ext_getElem?;intro i;show(madeCells #[Value.int .i64 0,.int .i64 0,.int .i64 0,.int .i64 0,.int .i64 0,.int .i64 0,.int .i64 0] (n*7)).toList[i]?=_;by_cases a:i<n*7
 ·have d:i % 7<7:=Nat.mod_lt _ (by decide)
  have e:∀ j,j<7->(#[Value.int .i64 0,.int .i64 0,.int .i64 0,.int .i64 0,.int .i64 0,.int .i64 0,.int .i64 0]:Array Value)[j]! = .int .i64 0:=by
   intro j f
   match j,f with
   | 0,_ | 1,_ | 2,_ | 3,_ | 4,_ | 5,_ | 6,_=>rfl
  simp only [madeCells,Array.toList_map,Array.toList_range,List.getElem?_map,List.getElem?_range a,Option.map_some,List.getElem?_replicate,if_pos a];exact congrArg some (e (i % 7) d)
 ·simp[madeCells,a]
structure Zqa (b:List UInt8) (first count:Nat) (L:List Rec) (m:List UInt8) (t:Bool):Prop where
 chain:Xl first L
 ok:∀ r ∈ L,Zcx r
 sound:t=true->(∀ r ∈ L,Qz r)->b=Lib.uvarint first++(Lib.uvarint count++(Yg [] L++m))
 none:t=false->m=[]
 whole:∀ l',Yc l'->X9 l'=b->l'.length=count∧L=l'.take L.length∧m=Yg (l'.take L.length) (l'.drop L.length)∧t=true∧(l'.headD Qi).idx=first
def ZcU (first:Nat) (L:List Rec) (r:Rec) (d:Int):Rec:=⟨(first:Int)+L.length,r.proc,IntKind.i64.wrap (Q7 L r.proc+d),r.op,r.resp⟩
theorem ZiW (n:Int):I64 (IntKind.i64.wrap n):=by
 unfold I64;rw[IntKind.wrap_i64];omega
theorem ZvJ {a d:Int} (e:0<=a) (h:a<4611686018427387904) (b:I64 d) (i:0<=IntKind.i64.wrap (a+d)) (g:IntKind.i64.wrap (a+d)<4611686018427387904):IntKind.i64.wrap (a+d)-a=d:=by
 obtain⟨f,c⟩:=b;rw[IntKind.wrap_i64] at *;omega
theorem Zqa.step {b:List UInt8} (h:Zqa b first g L m t) (hf:first<4611686018427387904) (ac:L.length<g) (hc:g<=256)
 {R:Rec} {d:Int} {m':List UInt8} {l:Bool} (p:Jy m=(R,d,m',l)):
 Zqa b first g (L++[ZcU first L R d]) m' l:=by
 have z:=ZvI m;have w:=@ZvH m;have u:=@Zth m
 have W:m=[]->l=false:=fun e=>by
  have:=take_nil;rw[<-e,p] at this;exact this
 rw[p] at z w u;obtain⟨X,N,Z,I,-,-,ad⟩:=z;refine⟨?_,?_,?_,w,?_⟩
 ·exact(ZfR L first (ZcU first L R d)).2 ⟨h.chain,rfl⟩
 ·intro r hr
  rcases List.mem_append.1 hr with hr | hr
  ·exact h.ok r hr
  ·simp only [List.mem_singleton] at hr
   rw[hr];have j:I64 ((first:Int)+L.length):=⟨by omega,by omega⟩
   exact⟨j,X,ZiW _,Z,I⟩
 ·intro c y
  have k:m≠[]:=fun e=>by
   rw[W e] at c
   cases c
  have G:t=true:=by
   cases t with
   | true=>rfl
   | false=>exact absurd (h.none rfl) k
  have q:∀ r ∈ L,Qz r:=fun r hr=>y r (by simp[hr])
  have V:Qz (ZcU first L R d):=y _ (by simp)
  have P:=h.sound G q;have aa:=u c;obtain⟨H,D⟩:=Zkh R.proc q;obtain⟨_,_,_,U,E,_⟩:=V;have B:(ZcU first L R d).seq-Q7 L (ZcU first L R d).proc=d:=ZvJ H D N U E
  have he:Yg [] (L++[ZcU first L R d])=Yg [] L++Zf L (ZcU first L R d):=by
   rw[ZhI];simp[Yg]
  have Y:Zf L (ZcU first L R d)++m'=m:=by
   unfold Zf;rw[B];refine Eq.trans ?_ aa.symm;simp only [append_assoc];rfl
  rw[he,append_assoc,Y];exact P
 ·intro a i ab
  obtain⟨O,n,J,w4,v⟩:=h.whole a i ab;have f:L.length<a.length:=by omega
  have x:Qz (a.getD L.length Qi):=i.2.2.1 _ (by simp[List.getD,f])
  have K:∀ r ∈ L,Qz r:=fun r hr=>by
   rw[n] at hr;exact i.2.2.1 r (mem_of_mem_take hr)
  have A:a.drop L.length=a.getD L.length Qi::a.drop (L.length+1):=by
   rw[List.drop_eq_getElem_cons f];simp[List.getD,f]
  have k:m=Zf L (a.getD L.length Qi)++Yg (L++[a.getD L.length Qi]) (a.drop (L.length+1)):=by
   rw[J,A,Yg,<-n]
  have c:=ZxG K x (Yg (L++[a.getD L.length Qi]) (a.drop (L.length+1)));rw[<-k,p] at c;have j:=ZnI a _ _ i.2.2.2 f;rw[v] at j;have C:(L++[ZcU first L R d]).length=L.length+1:=by simp
  rw[C,ZfQ f];rw[<-n];generalize a.getD L.length Qi=r at *;simp only [Prod.mk.injEq] at c;obtain⟨Q,M,T,S⟩:=c
  have F:ZcU first L R d=r:=by
   obtain⟨_,_,_,q0,q1,_⟩:=x;unfold ZcU;rw[Q,M];have e1:Q7 L r.proc+(r.seq-Q7 L r.proc)=r.seq:=by omega
   show(⟨_,r.proc,IntKind.i64.wrap (Q7 L r.proc+(r.seq-Q7 L r.proc)),r.op,r.resp⟩:Rec)=_;rw[e1,ZoP ⟨by omega,by omega⟩,<-j]
  rw[F];exact⟨O,rfl,T,S,v⟩
theorem Zqa.done {b:List UInt8} (h:Zqa b first L.length L m t):
 (t=true∧m=[]∧Yc L->X9 L=b)∧(¬ (t=true∧m=[]∧Yc L)->∀ a,Yc a->X9 a≠b):=by
 constructor
 ·rintro⟨ht,hm,hf⟩
  have i:=h.sound ht hf.2.2.1;rw[hm,List.append_nil] at i;rw[i];unfold X9;have c:=h.chain;have n:=hf.1
  match L,n,c with
  | r::u,_,c=>
   have e:r.idx=(first:Int):=c.1;show Lib.uvarint r.idx.toNat++_=_;rw[e,Int.toNat_natCast]
 ·intro k a d l
  obtain⟨g,f,j,p,q⟩:=h.whole a d l;rw[<-g,take_length] at f;refine k ⟨p,?_,by rw[f];exact d⟩
  rw[j,<-g,List.drop_length];rfl
theorem ZdW (x:Int) (d:Nat) (v:Value) (m:List UInt8) (w:World) (c:Rd w v m) (l:d<=m.length)
 (b:Calls prog 168 #[v] w fun e w'=>e=.returned (.tuple #[.int .i64 x,.int .i64 (d:Nat)])∧w'=w):
 Calls prog 167 #[v,.func (.func 168) #[] #[]] w fun e w'=>∃ v',e=.returned (.tuple #[.int .i64 x,v',.bool (decide (d≠0))])∧Rd w' v' (behind d m)∧Below w.heap.size w w':=by
 have g:=ZZ b;have j:=ZZ c;obtain⟨ao,cap,rfl,-⟩:=c;by_cases a:d=0
 ·subst a
  clear b
  go_enter func167,ntmps167
  go_wp2_with fail
  refine g.o.mono ?_;rintro e w' ⟨rfl,rfl⟩;go_wp2;refine bodyPost_ret (v:=.tuple #[.int .i64 x,.slice none 0 0,.bool false]) (by simp[results,Tryz.results167,go_sem]) rfl ?_
  exact⟨_,rfl,Rd.nil _,Below.refl _ _⟩
 ·have q:((d:Int) == 0)=false:=beq_eq_false_iff_ne.2 (by omega)
  have p:Hid (behind d m=m.drop d):=if_neg a;have k:Hid (decide (d≠0)=true):=decide_eq_true a;obtain⟨i,h,hcut,f⟩:=Zco j.o d l;have n:=ZZ f;clear b a f;generalize m.drop d=M at *
  go_enter func167,ntmps167
  go_wp2_with fail
  refine g.o.mono ?_;rintro e w' ⟨rfl,rfl⟩;go_wp2;refine wp_region_quiet_lit (by kernel_rfl) (by kernel_rfl) ?_
  repeat (go_big_quiet_step (fail))
  refine wpQuiet_nil ?_;rintro _ ⟨nq,rfl⟩;go_wp2;refine bodyPost_ret (v:=.tuple #[.int .i64 x,.slice i M.length h,.bool true]) (by simp[results,Tryz.results167,go_sem]) rfl ?_
  refine⟨_,by rw[k.o],?_,Xo (Below.refl _ _) _⟩
  rw[p.o];exact n.o.below (Xo (Below.refl _ _) _) zL
theorem Zdy (x:Int) (d:Nat) (v:Value) (m:List UInt8) (w:World) (c:Rd w v m) (l:d<=m.length)
 (b:Calls prog 201 #[v] w fun e w'=>e=.returned (.tuple #[.int .i64 x,.int .i64 (d:Nat)])∧w'=w):
 Calls prog 167 #[v,.func (.func 201) #[] #[]] w fun e w'=>∃ v',e=.returned (.tuple #[.int .i64 x,v',.bool (decide (d≠0))])∧Rd w' v' (behind d m)∧Below w.heap.size w w':=by
 have g:=ZZ b;have j:=ZZ c;obtain⟨ao,cap,rfl,-⟩:=c;by_cases a:d=0
 ·subst a
  clear b
  go_enter func167,ntmps167
  go_wp2_with fail
  refine g.o.mono ?_;rintro e w' ⟨rfl,rfl⟩;go_wp2;refine bodyPost_ret (v:=.tuple #[.int .i64 x,.slice none 0 0,.bool false]) (by simp[results,Tryz.results167,go_sem]) rfl ?_
  exact⟨_,rfl,Rd.nil _,Below.refl _ _⟩
 ·have q:((d:Int) == 0)=false:=beq_eq_false_iff_ne.2 (by omega)
  have p:Hid (behind d m=m.drop d):=if_neg a;have k:Hid (decide (d≠0)=true):=decide_eq_true a;obtain⟨i,h,hcut,f⟩:=Zco j.o d l;have n:=ZZ f;clear b a f;generalize m.drop d=M at *
  go_enter func167,ntmps167
  go_wp2_with fail
  refine g.o.mono ?_;rintro e w' ⟨rfl,rfl⟩;go_wp2;refine wp_region_quiet_lit (by kernel_rfl) (by kernel_rfl) ?_
  repeat (go_big_quiet_step (fail))
  refine wpQuiet_nil ?_;rintro _ ⟨nq,rfl⟩;go_wp2;refine bodyPost_ret (v:=.tuple #[.int .i64 x,.slice i M.length h,.bool true]) (by simp[results,Tryz.results167,go_sem]) rfl ?_
  refine⟨_,by rw[k.o],?_,Xo (Below.refl _ _) _⟩
  rw[p.o];exact n.o.below (Xo (Below.refl _ _) _) zL
theorem Bo.set (h:Bo w b cs) (j:Nat) (x:Value):Bo (w.setCell ⟨b,j,none⟩ x) b (cs.setIfInBounds j x):=by
 have:=heap_setCell_same w b j _ _ x h;unfold Bo;simpa using this
theorem Bo.three {d c e:Value} (h:Bo w b #[d,c,e]) (x y z:Value):Bo (((w.setCell ⟨b,0,none⟩ x).setCell ⟨b,1,none⟩ y).setCell ⟨b,2,none⟩ z) b #[x,y,z]:=by
 have a:=((h.set 0 x).set 1 y).set 2 z;exact a
theorem Zti (v:Value) (m:List UInt8) (w:World) (B:Rd w v m) (K:m.length<=1000000):
 Calls prog 208 #[v,.func (.func 209) #[] #[]] w fun e w'=>∃ v',e=.returned (.tuple #[opV (Xc m).1,v',.bool (decide ((Xc m).2≠0))])∧Rd w' v' (behind (Xc m).2 m)∧Below w.heap.size w w':=by
 have y:=ZZ (fun W h=>ZvE v m W h K)
 unfold ZuM at y;have x:=ZZ B;have I:=ZqE m;obtain⟨ao,cap,rfl,-⟩:=B;have l:Hid (∀ X,Below w.heap.size w (w.alloc X)):=fun X=>(Below.refl _ _).alloc zL X
 generalize (Xc m).2=d at *;generalize (Xc m).1=o at *;have D:Hid (∀ cs,Bo (w.alloc (.cells cs 52)) w.heap.size cs):=fun cs=>heap_alloc_new w _
 unfold opV at *;obtain⟨f,a,b⟩:=o
 dsimp only at *
 by_cases n:d=0
 ·subst n
  go_enter func208,ntmps208
  go_wp2_with fail
  refine(y.o _ (x.o.below (l.o _) zL)).mono ?_;rintro e g ⟨rfl,j⟩;have c:Bo g w.heap.size _:=(D.out _).below j zL;obtain⟨L,U⟩:=c.cell 0;obtain⟨O,R⟩:=c.cell 1;obtain⟨F,E⟩:=c.cell 2;have t:=ZZ ((l.o _).trans (j.mono (l.o _).size));have Q:=c.lt;have J:g.heap.size≠w.heap.size:=by omega
  have N:w.heap.size≠g.heap.size:=by omega
  have A:=ZZ c;clear j c;go_wp2;have i:Bo ((((g.setCell ⟨w.heap.size,0,none⟩ (.int .i64 f)).setCell ⟨w.heap.size,1,none⟩ (.int .i64 a)).setCell ⟨w.heap.size,2,none⟩ (.int .i64 b)).alloc (.cells #[.int .i64 f,.int .i64 a,.int .i64 b] 52)) w.heap.size #[.int .i64 f,.int .i64 a,.int .i64 b]:=(A.o.three _ _ _).below ((Below.refl _ _).alloc zL _) zL;have z:=(i.cell 0).1;have q:=(i.cell 1).1;have u:=(i.cell 2).1;have k:=ZZ (((t.o.setCell (p:=⟨w.heap.size,0,none⟩) zL (.int .i64 f)).setCell (p:=⟨w.heap.size,1,none⟩) zL (.int .i64 a)).setCell (p:=⟨w.heap.size,2,none⟩) zL (.int .i64 b));clear i;refine bodyPost_ret (v:=.tuple #[.agg #[.int .i64 f,.int .i64 a,.int .i64 b],.slice none 0 0,.bool false]) (by simp[results,Tryz.results208,go_sem,z,q,u]) rfl ?_
  exact⟨_,rfl,Rd.nil _,k.o.alloc k.o.size _⟩
 ·have V:((d:Int) == 0)=false:=beq_eq_false_iff_ne.2 (by omega)
  have T:Hid (behind d m=m.drop d):=if_neg n;have P:Hid (decide (d≠0)=true):=decide_eq_true n;obtain⟨H,G,hcut,C⟩:=Zco x.o d I;have S:=ZZ C;clear n C;generalize m.drop d=M at *
  go_enter func208,ntmps208
  go_wp2_with fail
  refine(y.o _ (x.o.below (l.o _) zL)).mono ?_;rintro e g ⟨rfl,j⟩;have c:Bo g w.heap.size _:=(D.out _).below j zL;obtain⟨L,U⟩:=c.cell 0;obtain⟨O,R⟩:=c.cell 1;obtain⟨F,E⟩:=c.cell 2;have t:=ZZ ((l.o _).trans (j.mono (l.o _).size));have Q:=c.lt;have J:g.heap.size≠w.heap.size:=by omega
  have N:w.heap.size≠g.heap.size:=by omega
  have A:=ZZ c;clear j c;go_wp2
  go_region
  all_goals
   go_wp2;have i:Bo ((((g.setCell ⟨w.heap.size,0,none⟩ (.int .i64 f)).setCell ⟨w.heap.size,1,none⟩ (.int .i64 a)).setCell ⟨w.heap.size,2,none⟩ (.int .i64 b)).alloc (.cells #[.int .i64 f,.int .i64 a,.int .i64 b] 52)).drew w.heap.size #[.int .i64 f,.int .i64 a,.int .i64 b]:=(A.o.three _ _ _).below (((Below.refl _ _).alloc zL _).drew) zL;have z:=(i.cell 0).1;have q:=(i.cell 1).1;have u:=(i.cell 2).1;have k:=ZZ (((t.o.setCell (p:=⟨w.heap.size,0,none⟩) zL (.int .i64 f)).setCell (p:=⟨w.heap.size,1,none⟩) zL (.int .i64 a)).setCell (p:=⟨w.heap.size,2,none⟩) zL (.int .i64 b));clear i;refine bodyPost_ret (v:=.tuple #[.agg #[.int .i64 f,.int .i64 a,.int .i64 b],.slice H M.length G,.bool true]) (by simp[results,Tryz.results208,go_sem,z,q,u]) rfl ?_
   refine⟨_,by rw[P.o],?_,(k.o.alloc k.o.size _).drew⟩
   rw[T.o];exact S.o.below (k.o.alloc k.o.size _).drew zL
structure TIn (w W:World) (cs:Array Value) (v:Value) (m:List UInt8):Prop where
 box:Br W w.heap.size cs
 rd:Rd W v m
 below:Below w.heap.size w W
theorem TIn.next {W':World} {m':List UInt8} (h:TIn w W cs v m) (a:Below W.heap.size W W') (b:Rd W' v' m'):TIn w W' cs v' m':=
 ⟨h.box.below a zL,b,h.below.trans (a.mono h.below.size)⟩
theorem TIn.set (h:TIn w W cs v m) (j:Nat) {n:Int} (a:cs[j]?=some (.int .i64 n)) (x:Value):TIn w (W.setCell ⟨w.heap.size,j,none⟩ x) (cs.setIfInBounds j x) v m:=
 ⟨h.box.set j x,h.rd.setInt ((h.box.cell j).1.trans a),h.below.setCell zL _⟩
theorem ZjW (v:Value) (m:List UInt8) (w:World) (Y:Rd w v m) (ab:m.length<=1000000):
 Calls prog 169 #[v] w fun e w'=>∃ v',e=.returned (.tuple #[Zso (Jy m).1,.int .i64 (Jy m).2.1,v',.bool (Jy m).2.2.2])∧Rd w' v' (Jy m).2.2.1∧Below w.heap.size w w':=by
 obtain⟨f,g,d,q,z,l,L⟩:=ZeV m;have M:=ZZ L;have N:=Je (Qb m).2 m;have F:=Je (Qe f).2 f;have K:=Je (Xc g).2 g;rw[<-q] at N;rw[<-z] at F;rw[<-l] at K
 have n:Hid (∀ W v,Rd W v m->Calls prog 167 #[v,.func (.func 168) #[] #[]] W fun e w'=>∃ v',e=.returned (.tuple #[.int .i64 ((Qb m).1:Nat),v',.bool (decide ((Qb m).2≠0))])∧Rd w' v' f∧Below W.heap.size W w'):=ZZ (fun W v h=>by
  have:=ZdW ((Qb m).1:Nat) (Qb m).2 v m W h (Ju m) (ZcJ v m W h);rw[<-q] at this
  exact this)
 have X:Hid (∀ W v,Rd W v f->Calls prog 167 #[v,.func (.func 201) #[] #[]] W fun e w'=>∃ v',e=.returned (.tuple #[.int .i64 (zag (Qe f).1),v',.bool (decide ((Qe f).2≠0))])∧Rd w' v' g∧Below W.heap.size W w'):=ZZ (fun W v h=>by
  have:=Zdy (zag (Qe f).1) (Qe f).2 v f W h (G0 f) (Zak v f W h);rw[<-z] at this
  exact this)
 have k:Hid (∀ W v,Rd W v g->Calls prog 208 #[v,.func (.func 209) #[] #[]] W fun e w'=>∃ v',e=.returned (.tuple #[opV (Xc g).1,v',.bool (decide ((Xc g).2≠0))])∧Rd w' v' d∧Below W.heap.size W w'):=ZZ (fun W v h=>by
  have:=Zti v g W h (by omega)
  rw[<-l] at this
  exact this)
 have I:Hid (∀ W v,Rd W v d->Calls prog 167 #[v,.func (.func 201) #[] #[]] W fun e w'=>∃ v',e=.returned (.tuple #[.int .i64 (zag (Qe d).1),v',.bool (decide ((Qe d).2≠0))])∧Rd w' v' (behind (Qe d).2 d)∧Below W.heap.size W w'):=ZZ (fun W v h=>Zdy (zag (Qe d).1) (Qe d).2 v d W h (G0 d) (Zak v d W h))
 have HR:=ZZ Y;obtain⟨ao,cap,rfl,-⟩:=Y;rw[M.o];clear L M q z l N F K;generalize decide ((Qe d).2≠0)=T at *;generalize behind (Qe d).2 d=C at *;generalize zag (Qe d).1=y at *;generalize zag (Qe f).1=x at *;generalize decide ((Qe f).2≠0)=T1 at *;generalize decide ((Xc g).2≠0)=T2 at *;generalize decide ((Qb m).2≠0)=T0 at *;obtain⟨p,H⟩:∃ p:Int,p=((Qb m).1:Nat):=⟨_,rfl⟩;rw[<-H] at n ⊢;clear H;generalize (Xc g).1=o at *;unfold opV at k;obtain⟨c,a,b⟩:=o
 dsimp only at k
 unfold Zso
 dsimp only
 have B:Hid (TIn w (w.alloc (.cells #[.int .i64 0,.int .i64 0,.int .i64 0,.int .i64 0,.int .i64 0,.int .i64 0,.int .i64 0] 62)) #[.int .i64 0,.int .i64 0,.int .i64 0,.int .i64 0,.int .i64 0,.int .i64 0,.int .i64 0] (.slice ao m.length cap) m):=
  ⟨heap_alloc_new w _,HR.o.below ((Below.refl _ _).alloc zL _) zL,(Below.refl _ _).alloc zL _⟩
 go_enter func169,ntmps169
 go_wp2_with fail
 refine(n.o _ _ B.o.rd).mono ?_;rintro e W1 ⟨v1,rfl,P,G⟩;have A:=ZZ (B.o.next G P);obtain⟨p1,f1⟩:=A.o.box.cell 1;obtain⟨a1,c1,rfl,-⟩:=P;have t:=ZZ (A.o.set 1 rfl (.int .i64 p));clear G B n
 go_wp2_with fail
 refine(X.o _ _ t.o.rd).mono ?_;rintro e W2 ⟨v2,rfl,U,E⟩;have D:=ZZ (t.o.next E U);obtain⟨a2,c2,rfl,-⟩:=U;clear E A t X p1 f1
 go_wp2_with fail
 refine(k.o _ _ D.o.rd).mono ?_;rintro e W3 ⟨v3,rfl,J,O⟩;have j:=ZZ (D.o.next O J);obtain⟨p3,f3⟩:=j.o.box.cell 3;obtain⟨p4,f4⟩:=j.o.box.cell 4;obtain⟨p5,f5⟩:=j.o.box.cell 5;obtain⟨a3,c3,rfl,-⟩:=J;have u:=ZZ (((j.o.set 3 rfl (.int .i64 c)).set 4 rfl (.int .i64 a)).set 5 rfl (.int .i64 b));clear O D k
 go_wp2_with fail
 refine(I.o _ _ u.o.rd).mono ?_;rintro e W4 ⟨v4,rfl,Q,V⟩;have R:=ZZ (u.o.next V Q);obtain⟨Z,S,rfl,-⟩:=Q;have i:Br W4 w.heap.size #[.int .i64 0,.int .i64 p,.int .i64 0,.int .i64 c,.int .i64 a,.int .i64 b,.int .i64 0]:=R.o.box;have aa:Hid (TIn w (W4.setCell ⟨w.heap.size,6,none⟩ (.int .i64 y)) #[.int .i64 0,.int .i64 p,.int .i64 0,.int .i64 c,.int .i64 a,.int .i64 b,.int .i64 y] (.slice Z C.length S) C):=R.o.set 6 rfl (.int .i64 y);obtain⟨q0,g0⟩:=i.cell 0;obtain⟨q1,g1⟩:=i.cell 1;obtain⟨q2,g2⟩:=i.cell 2;obtain⟨q3,g3⟩:=i.cell 3;obtain⟨q4,g4⟩:=i.cell 4;obtain⟨q5,g5⟩:=i.cell 5;obtain⟨q6,g6⟩:=i.cell 6;clear V j u I p3 p4 p5 f3 f4 f5;go_wp2;refine bodyPost_ret (v:=.tuple #[.agg #[.int .i64 0,.int .i64 p,.int .i64 0,.int .i64 c,.int .i64 a,.int .i64 b,.int .i64 y],.int .i64 x,.slice Z C.length S,.bool T]) (by simp[results,Tryz.results169,go_sem,q0,q1,q2,q3,q4,q5,q6]) rfl ?_
 have h:=(((((((aa.o.set 0 rfl (.int .i64 0)).set 1 rfl (.int .i64 p)).set 2 rfl (.int .i64 0)).set 3 rfl (.int .i64 c)).set 4 rfl (.int .i64 a)).set 5 rfl (.int .i64 b)).set 6 rfl (.int .i64 y));exact⟨_,rfl,h.rd,h.below⟩
end Go.Proofs.YtnahjngbneicaaaGreatDoor
