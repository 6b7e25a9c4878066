import Derived.Test.YtnahjngbneicaaaGreatDoorPack12
import Derived.Test.YtnahjngbneicaaaGreatDoorPack4
import Derived.Test.YtnahjngbneicaaaGreatDoorPack9
import Derived.Deep.RegionHeld
import Derived.Test.YtnahjngbneicaaaGreatDoorPack10
import Derived.Test.YtnahjngbneicaaaGreatDoorPack6
import Derived.Deep.QuietTactic
import Derived.BigQuiet
import Derived.Laws.OwnMore
import Derived.BigRegion
namespace Go.Proofs.YtnahjngbneicaaaGreatDoor
open _root_.Go.Proofs.Tryz
open List (append_assoc drop_drop length_append length_cons length_drop mem_cons mem_of_mem_take take_length)
set_option maxHeartbeats 4000000
set_option maxRecDepth 100000
open Go.RowKit
def Zvv (w:World) (b:List UInt8) (e:Ending) (w':World):Prop:=
 ∃ (vl vt:Value) (S:St) (t:List Ent) (ok:Bool),e=.returned (.tuple #[.agg #[.int .i64 S.kind,vl,.bool S.shut,.int .i64 S.eng],vt,.bool ok])∧RdI w' vl S.L∧I64 S.kind∧I64 S.eng∧RdE w' vt t∧(∀ k,vl.ownBlock=some k->w.heap.size<=k)∧(∀ k,vt.ownBlock=some k->w.heap.size<=k)∧
  (ok=false->(ZbS b).2=3)∧(ok=true->∃ er,ZbS b=(⟨0,S,t⟩,er)∧(er=0∨(er=1∧S=ZfQ)))∧Below w.heap.size w w'
theorem Zvv.none {w w':World} {b:List UInt8} (h:(ZbS b).2=3) (c:Below w.heap.size w w'):Zvv w b (.returned (.tuple #[.agg #[.int .i64 0,.slice none 0 0,.bool false,.int .i64 0],.slice none 0 0,.bool false])) w':=
 ⟨_,_,ZfQ,[],false,rfl,RdI.nil _,(Zai (by decide) (by decide):I64 0),(Zai (by decide) (by decide):I64 0),RdE.nil _,(fun k a=>by simp[Value.ownBlock] at a),(fun k a=>by simp[Value.ownBlock] at a),(fun _=>h),(fun h=>by cases h),c⟩
theorem ZzL (ao:Option Addr) (l:List UInt8) (cap:Nat) (g:l.length<=cap) (j:Nat) (f:j<=l.length):
 ∃ b c a,(∀ W,(Instr.sliceAt 53 (.slice ao l.length cap) none (some (.int .i64 (j:Int))) (some (.int .i64 (j:Int)))).run prog W=.ok (.slice b c a) W)∧∀ W,Rd W (.slice ao l.length cap) l->Rd W (.slice b c a) (l.take j):=by
 have d:∃ b c a,sliced ao 0 j j 1=.slice b c a:=by
  unfold sliced;exact⟨_,_,_,rfl⟩
 obtain⟨b,c,a,d⟩:=d;refine⟨b,c,a,fun W=>?_,fun W h=>?_⟩
 ·rw[run_sliceAt_slice W 53 _ _ _ _ ZaF,run_slice_hm W 53 ao l.length cap ZaF .i64 .i64 (j:Int) (j:Int) (by omega) (by omega) (by omega),ZbU,Zfs]
  simp only [Int.toNat_natCast];rw[<-d];rfl
 ·rw[<-d]
  have e:=h.mid 0 j j (Nat.zero_le _) f zL (by omega)
  rw[List.drop_zero,Nat.sub_zero] at e;exact e
def four (w:World) (R:Nat) (x0 x1 x2 x3:Value):World:=(((w.setCell ⟨R,0,none⟩ x0).setCell ⟨R,1,none⟩ x1).setCell ⟨R,2,none⟩ x2).setCell ⟨R,3,none⟩ x3
theorem Zgy {C:Nat} {b w:World} (h:Below C b w) (R:Nat) (a:C<=R) (c e f d:Value):Below C b ((((w.setCell ⟨R,0,none⟩ c).setCell ⟨R,1,none⟩ e).setCell ⟨R,2,none⟩ f).setCell ⟨R,3,none⟩ d):=
 (((h.setCell a _).setCell a _).setCell a _).setCell a _
theorem ZzM (w:World) (R:Nat) (a c d b:Value):But R R w ((((w.setCell ⟨R,0,none⟩ a).setCell ⟨R,1,none⟩ c).setCell ⟨R,2,none⟩ d).setCell ⟨R,3,none⟩ b):=
 ((((But.refl R R w).set _ _ (.inl rfl) _).set _ _ (.inl rfl) _).set _ _ (.inl rfl) _).set _ _ (.inl rfl) _
theorem ZoH (v:Value) (b:List UInt8) (w:World) (hr:Rd w v b) (be:b.length<=100000):
 Calls prog 117 #[v] w fun e w'=>Zvv w b e w':=by
 obtain⟨d,U⟩:∃ d,d=((w.alloc (.cells #[.int .i64 0,.slice none 0 0,.bool false,.int .i64 0] 38)).alloc (.cells #[.int .i64 0] 3)).alloc (.cells #[.pointer (some ⟨w.heap.size+1,0,none⟩)] 208):=⟨_,rfl⟩;have g:=ZlF w (.cells #[.int .i64 0,.slice none 0 0,.bool false,.int .i64 0] 38) (.cells #[.int .i64 0] 3) (.cells #[.pointer (some ⟨w.heap.size+1,0,none⟩)] 208);rw[<-U] at g;obtain⟨hA,hB,hC⟩:=g;have aj:Hid (Below w.heap.size w d):=ZZ (by rw[U];exact(((Below.refl _ _).alloc zL _).alloc (by simp) _).alloc (by simp;omega) _)
 have aL:Bx d w.heap.size #[.int .i64 0,.slice none 0 0,.bool false,.int .i64 0]:=hA
 have ap:=ZZ (Zdo (w.heap.size+1+1) [(w.heap.size+1,0)] v b d (hr.below aj.o zL) (fun p L=>by
  rw[List.mem_singleton.1 L]
  exact⟨⟨⟨0,cell_of_row d (w.heap.size+1) 0 _ _ _ hB⟩,frozen_of_row d (w.heap.size+1) 0 _ _ hB⟩,by simp⟩) (by simp) hC 1 rfl)
 have ar:Hid (∀ n:Nat,(d.setCell ⟨w.heap.size+1,0,none⟩ (.int .i64 (n:Int))).cell? ⟨w.heap.size+1,0,none⟩=some (.int .i64 (n:Int))):=ZZ (fun n=>World.cell?_setCell_same _ _ _ (cell_of_row d (w.heap.size+1) 0 _ _ _ hB))
 have aK:Hid (∀ ns,Below w.heap.size w (Zca d ([(w.heap.size+1,0)].take (List.length ns)) ns)):=ZZ (fun ns=>Zel d _ ns _ w (fun p L=>by
  have:=mem_of_mem_take L;rw[List.mem_singleton.1 this]
  simp) aj.o)
 have aD:Hid (∀ ns,Bx (Zca d ([(w.heap.size+1,0)].take (List.length ns)) ns) w.heap.size #[.int .i64 0,.slice none 0 0,.bool false,.int .i64 0]):=ZZ (fun ns=>(Zek d _ ns _ (fun p L=>by
  have:=mem_of_mem_take L;rw[List.mem_singleton.1 this]
  simp)).trans aL)
 have an:=ZZ (fun ns l h=>ZlG (b:=b) (ns:=ns) (l:=l) h)
 have ah:=ZZ (fun h=>ZlH (b:=b) h)
 have A:Hid (ZbS b=if(Zab b).2=0∨b.length<(Zab b).2+(Zab b).1 then(Zbl,3) else if(Zil ((b.drop (Zab b).2).take (Zab b).1)).2=3 then(Zbl,3) else match ZeY (b.drop ((Zab b).2+(Zab b).1)) with
  | none=>(Zbl,3)
  | some t=>(⟨0,(Zil ((b.drop (Zab b).2).take (Zab b).1)).1,t⟩,(Zil ((b.drop (Zab b).2).take (Zab b).1)).2)):=ZZ rfl
 have hd:=Zcj b
 have a9:(Zab b).1<4611686018427387904:=by
  rcases Zay b with h | h
  ·rw[h];decide
  ·exact h.1
 have aA:=ZZ (fun G l W h h2=>ZlJ G l W h h2)
 have aT:=ZZ (fun G l W h h2=>ZoF G l W h h2)
 have aQ:Hid ([(w.heap.size+1,0)].length=1):=ZZ rfl;rw[aQ.o] at ap;generalize Zcu 1 b=GL at *;have aI:=ZZ hr;obtain⟨va,vc,hv⟩:∃ a c,v=.slice a b.length c:=by obtain⟨a,c,h,-⟩:=hr;exact⟨a,c,h⟩
 subst hv;clear hr hA hB hC aL aQ
 go_enter func117,ntmps117
 go_wp2_with fail
 rw[<-U];refine ap.o.mono ?_;rintro e j ⟨G,l,ns,rfl,aJ,az,ad,aC,av,K⟩;have D:Hid (Below w.heap.size w j):=ZZ ((aK.o ns).trans (K.below _));have y:Hid (Bx j w.heap.size #[.int .i64 0,.slice none 0 0,.bool false,.int .i64 0]):=ZZ ((aD.o ns).below (K.below (Zca d ([(w.heap.size+1,0)].take ns.length) ns).heap.size) zL);have a2:=ZZ aJ;have S:=ZZ (aJ j (aI.o.below D.o zL));obtain⟨a1,c1,a6⟩:∃ a c,G=.slice a l.length c:=by obtain⟨a,c,h,-⟩:=S.o;exact⟨a,c,h⟩
 subst a6;obtain⟨u,y0⟩:=y.o.cell 0;obtain⟨m,y1⟩:=y.o.cell 1;obtain⟨z,y2⟩:=y.o.cell 2;obtain⟨q,y3⟩:=y.o.cell 3;clear ap aK aj U aD
 cases GL with
 | none=>
  have N:Hid ((ZbS b).2=3):=ZZ (by rw[A.o,if_pos (.inl (ah.o rfl))])
  clear az ad aC av K A ah an;go_wp2;refine bodyPost_ret (v:=.tuple #[.agg #[.int .i64 0,.slice none 0 0,.bool false,.int .i64 0],.slice none 0 0,.bool false]) (by simp[results,Tryz.results117,go_sem,u,m,z,q]) rfl ?_
  exact Zvv.none N.o (Zgy D.o _ zL _ _ _ _)
 | some gp=>
  have:=ad gp rfl;subst this;obtain⟨g1,g2,g3⟩:=an.o _ _ rfl;subst g2;have aO:l.length=b.length-(Zab b).2:=by rw[g3,length_drop]
  have ac:j.cell? ⟨w.heap.size+1,0,none⟩=some (.int .i64 ((Zab b).1:Int)):=by
   rw[K.cell];exact ar.o _
  rw[<-drop_drop,<-g3] at A;generalize (Zab b).1=n at *;generalize (Zab b).2=k at *;clear az ad aC av K ah an g3 ar;by_cases a7:l.length<n
  ·have N:Hid ((ZbS b).2=3):=ZZ (by rw[A.o,if_pos (.inr (by omega))])
   have aY:(l.length:Int)<(n:Int):=by omega
   clear aO A;go_wp2;refine bodyPost_ret (v:=.tuple #[.agg #[.int .i64 0,.slice none 0 0,.bool false,.int .i64 0],.slice none 0 0,.bool false]) (by simp[results,Tryz.results117,go_sem,u,m,z,q]) rfl ?_
   exact Zvv.none N.o (Zgy D.o _ zL _ _ _ _)
  have aY:¬ (l.length:Int)<(n:Int):=by omega
  have ao:l.length<=c1:=by
   obtain⟨a',c',h,h2,-⟩:=S.o;simp only [Value.slice.injEq] at h;omega
  obtain⟨xa,xn,xc,ba,ax⟩:=ZzL a1 l c1 ao n (by omega)
  obtain⟨ua,uc,bd,au⟩:=ZjY a1 l c1 ao n (by omega)
  have Y:=ZZ (aA.o _ (l.take n) j (ax j S.o) (by rw[List.length_take];omega))
  have a4:=ZZ (fun W h=>au W (a2.o W h))
  have aX:=ZZ (fun v2 W h=>aT.o v2 (l.drop n) W h (by rw[length_drop];omega))
  have T:Hid (ZbS b=if(Zil (l.take n)).2=3 then(Zbl,3) else match ZeY (l.drop n) with
   | none=>(Zbl,3)
   | some t=>(⟨0,(Zil (l.take n)).1,t⟩,(Zil (l.take n)).2)):=ZZ (by rw[A.o,if_neg (by omega)])
  have aq:=ZZ (ZtX (l.take n));clear ax au A aA aT aO a7 ao hd g1;generalize Zil (l.take n)=DS at *;generalize ZeY (l.drop n)=TL at *;generalize l.drop n=l2 at *;obtain⟨⟨H,x,E,O⟩,R⟩:=DS;unfold Zdp at Y
  dsimp only at Y T aq
  go_wp2_with fail
  refine Y.o.mono ?_;rintro e i ⟨vl,rfl,ae,aS,aw,aH,P⟩;obtain⟨M,lc,aW⟩:∃ a c,vl=.slice a x.length c:=by obtain⟨a,c,h,-⟩:=ae;exact⟨a,c,h⟩
  subst aW;have bc:=D.o.size;have ag:=ZZ (D.o.trans (P.mono D.o.size));have ai:=ZZ (y.o.below P zL);have af:i.cell? ⟨w.heap.size+1,0,none⟩=some (.int .i64 (n:Int)):=(P.cell (p:=⟨w.heap.size+1,0,none⟩) (World.block_lt_of_cell? j ⟨w.heap.size+1,0,none⟩ ac)).trans ac;have aF:=ZZ ae;have aE:=ZZ (And.intro aS aw)
  have aR:Hid (∀ k,(Value.slice M x.length lc).ownBlock=some k->w.heap.size<k):=ZZ (fun k f=>by
   have I:=aH k f;have h2:=y.o.lt
   omega)
  clear ac ae aS aw aH P Y u m z q y0 y1 y2 y3 y S;obtain⟨C,Q⟩:∃ C,C=i.alloc (.cells #[.int .i64 H,.slice M x.length lc,.bool E,.int .i64 O] 38):=⟨_,rfl⟩;have F:Hid (Below i.heap.size i C):=ZZ (by rw[Q];exact(Below.refl _ _).alloc zL _)
  have ak:Hid (Bx C i.heap.size #[.int .i64 H,.slice M x.length lc,.bool E,.int .i64 O]):=ZZ (by rw[Q];exact heap_alloc_new i _)
  have aa:=ZZ (ag.o.trans (F.o.mono ag.o.size));have B:=ZZ (ai.o.below F.o zL);have a3:C.cell? ⟨w.heap.size+1,0,none⟩=some (.int .i64 (n:Int)):=(F.o.cell (p:=⟨w.heap.size+1,0,none⟩) (World.block_lt_of_cell? i ⟨w.heap.size+1,0,none⟩ af)).trans af;have ay:=ZZ (aF.o.below F.o zL)
  go_upto_region 6 with fail
  rw[<-Q];obtain⟨QB,aG⟩:∃ QB,QB=i.heap.size:=⟨_,rfl⟩;have bb:w.heap.size<QB:=by have:=ai.o.lt;omega
  rw[<-aG] at ak ⊢;clear Q af aG aF ai ag F;by_cases g:R=3
  ·have a5:(R == 3)=true:=beq_iff_eq.2 g
   have N:Hid ((ZbS b).2=3):=ZZ (by rw[T.o,if_pos g])
   obtain⟨u,y0⟩:=B.o.cell 0;obtain⟨m,y1⟩:=B.o.cell 1;obtain⟨z,y2⟩:=B.o.cell 2;obtain⟨q,y3⟩:=B.o.cell 3;clear g;go_wp2;refine bodyPost_ret (v:=.tuple #[.agg #[.int .i64 0,.slice none 0 0,.bool false,.int .i64 0],.slice none 0 0,.bool false]) (by simp[results,Tryz.results117,go_sem,u,m,z,q]) rfl ?_
   exact Zvv.none N.o (Zgy aa.o _ zL _ _ _ _)
  have a5:(R == 3)=false:=beq_eq_false_iff_ne.2 g;have al:=ZZ g;clear g
  go_wp2_with fail
  refine(aX.o _ _ (a4.o C (aI.o.below aa.o zL))).mono ?_;rintro e W4 ⟨vt,t,rfl,Z,aN,aM,J⟩;obtain⟨ta,tc,aU⟩:=Z.shape;subst aU;have aZ:=ZZ (aa.o.trans (J.mono aa.o.size));have ab:=ZZ (B.o.below J zL);have V:=ZZ (ak.o.below J zL);have a8:=ZZ (ay.o.below J zL);have a0:=ZZ (Z.rd aN)
  have aP:Hid (∀ k,(Value.slice ta t.length tc).ownBlock=some k->w.heap.size<k):=ZZ (fun k f=>by
   have I:=(World.ownsRow.lt Z k f).1;have h2:=B.o.lt
   omega)
  have aV:=ZZ aM;clear Z aN aM J a3 B ak ay;obtain⟨u,y0⟩:=ab.o.cell 0;obtain⟨m,y1⟩:=ab.o.cell 1;obtain⟨z,y2⟩:=ab.o.cell 2;obtain⟨q,y3⟩:=ab.o.cell 3;obtain⟨s0,-⟩:=V.o.cell 0;obtain⟨s1,-⟩:=V.o.cell 1;obtain⟨s2,-⟩:=V.o.cell 2;obtain⟨s3,-⟩:=V.o.cell 3;obtain⟨ok,am⟩:∃ ok,ok=TL.isSome:=⟨_,rfl⟩;rw[<-am];have X:=ZZ am;clear am;go_wp2;refine bodyPost_ret (v:=.tuple #[.agg #[.int .i64 H,.slice M x.length lc,.bool E,.int .i64 O],.slice ta t.length tc,.bool ok]) (by simp[results,Tryz.results117,go_sem,u,m,z,q]) rfl ?_
  have aB:=ZzM W4 w.heap.size (.int .i64 H) (.slice M x.length lc) (.bool E) (.int .i64 O);refine⟨_,_,⟨H,x,E,O⟩,t,ok,rfl,a8.o.but aB (.inr fun k f=>by have:=aR.o k f;omega),aE.o.1,aE.o.2,a0.o.but aB (.inr fun k f=>by have:=aP.o k f;omega),(fun k f=>Nat.le_of_lt (aR.o k f)),(fun k f=>Nat.le_of_lt (aP.o k f)),(fun h=>?_),(fun h=>?_),Zgy aZ.o _ zL _ _ _ _⟩
  ·rw[T.o,if_neg al.o]
   cases TL with
   | none=>rfl
   | some t'=>rw[h] at X;cases X.o
  ·cases TL with
   | none=>rw[h] at X;cases X.o
   | some t'=>
    refine⟨R,by rw[T.o,if_neg al.o,aV.o t' rfl],?_⟩
    rcases aq.o with I | ⟨I,h2 | h2⟩
    ·exact .inl I
    ·exact absurd h2 al.o
    ·exact .inr ⟨h2,I⟩
def Bq (w:World) (b:Nat) (cs:Array Value):Prop:=w.heap[b]?=some (.cells cs 147 (0,0))
theorem Bq.lt {w:World} {b:Nat} {cs:Array Value} (h:Bq w b cs):b<w.heap.size:=(Array.getElem?_eq_some_iff.1 h).1
theorem Bq.below {w w':World} {b B:Nat} {cs:Array Value} (h:Bq w b cs) (a:Below B w w') (c:w.heap.size<=B):Bq w' b cs:=(a.block b (by have:=h.lt;omega)).trans h
theorem Bq.cell {w:World} {b:Nat} {cs:Array Value} (h:Bq w b cs) (j:Nat):w.cell? ⟨b,j,none⟩=cs[j]?∧w.frozen? ⟨b,j,none⟩=false:=⟨cell_of_row w b j _ _ _ h,frozen_of_row w b j _ _ h⟩
theorem Bq.set {w:World} {b:Nat} {cs:Array Value} (h:Bq w b cs) (j:Nat) (x:Value):Bq (w.setCell ⟨b,j,none⟩ x) b (cs.setIfInBounds j x):=by
 have:=heap_setCell_same w b j _ _ x h;unfold Bq;simpa using this
theorem Bq.other {w:World} {b c:Nat} {cs:Array Value} (h:Bq w b cs) (j:Nat) (x:Value) (a:b≠c):Bq (w.setCell ⟨c,j,none⟩ x) b cs:=(Below.heap_setCell _ _ _ _ a).trans h
theorem ZzN (w:World) (x y z u:Obj):((((w.alloc x).alloc y).alloc z).alloc u).heap[w.heap.size]?=some x∧((((w.alloc x).alloc y).alloc z).alloc u).heap[w.heap.size+1]?=some y∧((((w.alloc x).alloc y).alloc z).alloc u).heap[w.heap.size+2]?=some z∧((((w.alloc x).alloc y).alloc z).alloc u).heap[w.heap.size+3]?=some u:=by
 obtain⟨c,a,b⟩:=ZlF w x y z;refine⟨(Below.heap_alloc _ _ _ (by simp;omega)).trans c,(Below.heap_alloc _ _ _ (by simp)).trans a,(Below.heap_alloc _ _ _ (by simp)).trans b,?_⟩
 have:=heap_alloc_new (((w.alloc x).alloc y).alloc z) u;simpa using this
theorem Zvw {d:List UInt8} (h:¬ (d.length<1∨(d.getD 0 0).toNat≠115)):ZbV d=match Zcu 3 (d.drop 1) with
 | none=>(0,0,0,3)
 | some (ns,l)=>if ns.getD 0 0≠3 then(0,0,0,6) else if l.length≠4 then(0,0,0,3) else(ns.getD 1 0,ns.getD 2 0,Lib.leNat l,0):=by
 unfold ZbV;rw[if_neg h,Zcu];by_cases c:(Zab (d.drop 1)).2=0
 ·rw[if_pos (.inl c),if_pos c]
 rw[if_neg c,Zcu];simp only [drop_drop];by_cases a:(Zab (d.drop (1+(Zab (d.drop 1)).2))).2=0
 ·rw[if_pos (.inr (.inl a)),if_pos a]
  rfl
 rw[if_neg a,ZhZ];simp only [drop_drop];by_cases b:(Zab (d.drop (1+(Zab (d.drop 1)).2+(Zab (d.drop (1+(Zab (d.drop 1)).2))).2))).2=0
 ·rw[if_pos (.inr (.inr b)),if_pos b]
  rfl
 ·rw[if_neg (by omega),if_neg b]
  simp only [Option.map_some,List.getD_cons_zero,List.getD_cons_succ]
theorem Zqx:∀ (n:Nat) (b:List UInt8) (ns:List Nat) (l:List UInt8),Zcu n b=some (ns,l)->ns.length=n
 | 0,b,ns,l,h=>by
  injection h with h
  injection h with h _
  rw[<-h];rfl
 | n+1,b,ns,l,h=>by
  rw[Zcu] at h;split at h
  ·cases h
  ·cases hg:Zcu n (b.drop (Zab b).2) with
   | none=>rw[hg] at h;cases h
   | some r=>
    rw[hg] at h
    injection h with h
    injection h with h _
    obtain⟨a,m⟩:=r;rw[<-h,length_cons,Zqx n _ a m hg]
theorem ZxR {W:World} {R Q:Nat} (e:R≠Q) (h:Bq W R #[.int .i64 0,.int .i64 0,.int .u32 0]) (g:W.heap[Q]?=some (.cells #[.int .i64 0] 3 (0,0))) (ns:List Nat) (f:ns.length<=3):
 ∃ u x y:Int,Bq (Zca W ([(Q,0),(R,0),(R,1)].take ns.length) ns) R #[.int .i64 x,.int .i64 y,.int .u32 0]∧(Zca W ([(Q,0),(R,0),(R,1)].take ns.length) ns).cell? ⟨Q,0,none⟩=some (.int .i64 u)∧(ns.length=3->u=((ns.getD 0 0:Nat):Int)∧x=((ns.getD 1 0:Nat):Int)∧y=((ns.getD 2 0:Nat):Int)):=by
 have d:W.cell? ⟨Q,0,none⟩=some (.int .i64 0):=cell_of_row W Q 0 _ _ _ g
 match ns,f with
 | [],_=>exact⟨0,0,0,h,d,fun h=>absurd h (by simp)⟩
 | [a],_=>exact⟨a,0,0,h.other 0 _ e,World.cell?_setCell_same _ _ _ d,fun h=>absurd h (by simp)⟩
 | [a,b],_=>
  refine⟨a,b,0,(h.other 0 _ e).set 0 _,?_,fun h=>absurd h (by simp)⟩
  show((W.setCell ⟨Q,0,none⟩ _).setCell ⟨R,0,none⟩ _).cell? ⟨Q,0,none⟩=_;rw[World.cell?_setCell_other _ _ _ _ (by simp)]
  exact World.cell?_setCell_same _ _ _ d
 | [a,b,c],_=>
  refine⟨a,b,c,((h.other 0 _ e).set 0 _).set 1 _,?_,fun _=>⟨rfl,rfl,rfl⟩⟩
  show(((W.setCell ⟨Q,0,none⟩ _).setCell ⟨R,0,none⟩ _).setCell ⟨R,1,none⟩ _).cell? ⟨Q,0,none⟩=_;rw[World.cell?_setCell_other _ _ _ _ (by simp),World.cell?_setCell_other _ _ _ _ (by simp)]
  exact World.cell?_setCell_same _ _ _ d
def ZBT (w:World) (r:Nat × Nat × Nat × Int) (e:Ending) (w':World):Prop:=
 e=.returned (.tuple #[.agg #[.int .i64 (r.1:Int),.int .i64 (r.2.1:Int),.int .u32 (r.2.2.1:Int)],.int .i64 r.2.2.2])∧Below w.heap.size w w'
theorem Zia {C:Nat} {b w:World} (h:Below C b w) (R:Nat) (a:C<=R) (c d e:Value):Below C b (((w.setCell ⟨R,0,none⟩ c).setCell ⟨R,1,none⟩ d).setCell ⟨R,2,none⟩ e):=
 ((h.setCell a _).setCell a _).setCell a _
theorem ZjJ (v:Value) (d:List UInt8) (w:World) (hr:Rd w v d):
 Calls prog 115 #[v] w fun e w'=>ZBT w (ZbV d) e w':=by
 have HR:=ZZ hr;obtain⟨ao,cap,rfl,aP,aw,-,ap⟩:=hr;have aS:(d.length:Int)<=9223372036854775807:=by unfold maxLen at aw;omega
 have H:Hid (∀ X,Below w.heap.size w (w.alloc X)):=fun X=>(Below.refl _ _).alloc zL X
 by_cases q:d.length=0
 ·have g:Hid (ZbV d=(0,0,0,3)):=ZZ (by unfold ZbV;rw[if_pos (.inl (by omega))])
  have aI:((d.length:Int) == 0)=true:=by rw[beq_iff_eq];omega
  rw[g.o];clear q ap
  go_enter func115,ntmps115
  go_wp2;refine bodyPost_ret (v:=.tuple #[.agg #[.int .i64 0,.int .i64 0,.int .u32 0],.int .i64 3]) (by simp[results,Tryz.results115,go_sem]) rfl ?_
  exact⟨rfl,H.o _⟩
 have aI:((d.length:Int) == 0)=false:=beq_eq_false_iff_ne.2 (by omega)
 have aT:(0:Int)<(d.length:Int):=by omega
 have P:d≠[]:=fun e=>by rw[e] at q;simp at q
 rcases ap with he | ⟨b,off,rfl,hc⟩
 ·exact absurd he P
 have Y:=hc 0 (by omega)
 have az:b<w.heap.size:=World.block_lt_of_cell? w ⟨b,off+0,none⟩ Y;have aF:∀ X,(w.alloc X).cell? ⟨b,off,none⟩=some (.int .u8 ((d.getD 0 0).toNat:Nat)):=fun X=>((H.o X).cell (p:=⟨b,off,none⟩) az).trans Y
 clear hc Y aw;by_cases B:(d.getD 0 0).toNat=115
 case neg=>
  have g:Hid (ZbV d=(0,0,0,3)):=ZZ (by unfold ZbV;rw[if_pos (.inr B)])
  have ay:((((d.getD 0 0).toNat:Nat):Int) != 115)=true:=by
   rw[bne_iff_ne];omega
  rw[g.o];clear B P q;generalize (((d.getD 0 0).toNat:Nat):Int)=c0 at *
  go_enter func115,ntmps115
  go_wp2;refine bodyPost_ret (v:=.tuple #[.agg #[.int .i64 0,.int .i64 0,.int .u32 0],.int .i64 3]) (by simp[results,Tryz.results115,go_sem]) rfl ?_
  exact⟨rfl,H.o _⟩
 have ay:((((d.getD 0 0).toNat:Nat):Int) != 115)=false:=by
  rw[B];rfl
 have x:=ZZ (Zvw (d:=d) (by omega))
 generalize (((d.getD 0 0).toNat:Nat):Int)=c0 at *;obtain⟨xa,xc,hcut,J⟩:=ZjY (some ⟨b,off,none⟩) d cap aP 1 (by omega)
 have aE:∀ W,(Instr.sliceAt 53 (.slice (some ⟨b,off,none⟩) d.length cap) (some (.int .i64 1)) none none).run prog W=.ok (.slice xa (d.drop 1).length xc) W:=hcut;have ar:=ZZ (fun W h=>J W h)
 obtain⟨f,E⟩:∃ f,f=(((w.alloc (.cells #[.int .i64 0,.int .i64 0,.int .u32 0] 147)).alloc (.cells #[.int .i64 0,.int .i64 0,.int .u32 0] 147)).alloc (.cells #[.int .i64 0] 3)).alloc (.cells #[.pointer (some ⟨w.heap.size+1+1,0,none⟩),.pointer (some ⟨w.heap.size+1,0,none⟩),.pointer (some ⟨w.heap.size+1,1,none⟩)] 208):=⟨_,rfl⟩;have h4:=ZzN w (.cells #[.int .i64 0,.int .i64 0,.int .u32 0] 147) (.cells #[.int .i64 0,.int .i64 0,.int .u32 0] 147) (.cells #[.int .i64 0] 3) (.cells #[.pointer (some ⟨w.heap.size+1+1,0,none⟩),.pointer (some ⟨w.heap.size+1,0,none⟩),.pointer (some ⟨w.heap.size+1,1,none⟩)] 208);rw[<-E] at h4;obtain⟨hA,hB,G,hC⟩:=h4;have N:Hid (Below w.heap.size w f):=ZZ (by rw[E];exact((((Below.refl _ _).alloc zL _).alloc (by simp) _).alloc (by simp;omega) _).alloc (by simp;omega) _)
 have al:Bq f w.heap.size #[.int .i64 0,.int .i64 0,.int .u32 0]:=hA;have m:Bq f (w.heap.size+1) #[.int .i64 0,.int .i64 0,.int .u32 0]:=hB
 have ad:=ZZ (Zdo (w.heap.size+1+1+1) [(w.heap.size+1+1,0),(w.heap.size+1,0),(w.heap.size+1,1)] (.slice xa (d.drop 1).length xc) (d.drop 1) f (ar.o f (HR.o.below N.o zL)) (fun p n=>by
  simp only [mem_cons,List.not_mem_nil,or_false] at n;rcases n with rfl | rfl | rfl
  ·exact⟨⟨⟨0,cell_of_row f (w.heap.size+2) 0 _ _ _ G⟩,frozen_of_row f (w.heap.size+2) 0 _ _ G⟩,by simp⟩
  ·exact⟨⟨⟨0,(m.cell 0).1⟩,(m.cell 0).2⟩,by simp⟩
  ·exact⟨⟨⟨0,(m.cell 1).1⟩,(m.cell 1).2⟩,by simp⟩) (by simp) hC 3 rfl)
 have ah:=ZZ (fun ns h=>ZxR (Q:=w.heap.size+1+1) (by omega) m G ns h)
 have ak:Hid (∀ ns,Below w.heap.size w (Zca f ([(w.heap.size+1+1,0),(w.heap.size+1,0),(w.heap.size+1,1)].take (List.length ns)) ns)):=ZZ (fun ns=>Zel f _ ns _ w (fun p n=>by
  have:=mem_of_mem_take n;simp only [mem_cons,List.not_mem_nil,or_false] at this
  rcases this with rfl | rfl | rfl <;> (simp only;omega)) N.o)
 have ai:Hid (∀ ns,Bq (Zca f ([(w.heap.size+1+1,0),(w.heap.size+1,0),(w.heap.size+1,1)].take (List.length ns)) ns) w.heap.size #[.int .i64 0,.int .i64 0,.int .u32 0]):=ZZ (fun ns=>(Zek f _ ns _ (fun p n=>by
  have:=mem_of_mem_take n;simp only [mem_cons,List.not_mem_nil,or_false] at this
  rcases this with rfl | rfl | rfl <;> (simp only;omega))).trans al)
 have aD:=ZZ (fun K l W h=>ZpE K l W h)
 have Z:=ZZ (fun ns l h=>Zqx 3 (d.drop 1) ns l h)
 have av:Hid ([(w.heap.size+1+1,0),(w.heap.size+1,0),(w.heap.size+1,1)].length=3):=ZZ rfl;rw[av.o] at ad;generalize Zcu 3 (d.drop 1)=GL at *;obtain⟨j,au⟩:∃ j,j=ZbV d:=⟨_,rfl⟩;rw[<-au] at x ⊢;clear au hcut J hA hB G hC al m B P q av;generalize d.drop 1=D1 at *
 go_enter func115,ntmps115
 go_wp2_with fail
 rw[<-E];refine ad.o.mono ?_;rintro e i ⟨K,l,ns,rfl,aj,af,L,aB,ae,y⟩;obtain⟨uu,xx,yy,an,am,ac⟩:=ah.o ns ae;have ab:Hid (Bq i (w.heap.size+1) #[.int .i64 xx,.int .i64 yy,.int .u32 0]):=ZZ (an.below (y.below (Zca f ([(w.heap.size+1+1,0),(w.heap.size+1,0),(w.heap.size+1,1)].take ns.length) ns).heap.size) zL);have S:Hid (Bq i w.heap.size #[.int .i64 0,.int .i64 0,.int .u32 0]):=ZZ ((ai.o ns).below (y.below (Zca f ([(w.heap.size+1+1,0),(w.heap.size+1,0),(w.heap.size+1,1)].take ns.length) ns).heap.size) zL);have J:i.cell? ⟨w.heap.size+1+1,0,none⟩=some (.int .i64 uu):=by rw[y.cell];exact am
 have z:Hid (Below w.heap.size w i):=ZZ ((ak.o ns).trans (y.below _));have ag:=ZZ (aj i (ar.o i (HR.o.below z.o zL)));obtain⟨a1,c1,aG⟩:∃ a c,K=.slice a l.length c:=by obtain⟨a,c,h,-⟩:=ag.o;exact⟨a,c,h⟩
 subst aG;obtain⟨D,y0⟩:=S.o.cell 0;obtain⟨C,y1⟩:=S.o.cell 1;obtain⟨F,y2⟩:=S.o.cell 2;clear ad ah ak ai E an am y aj aB ae N aF aE H
 cases GL with
 | none=>
  have g:Hid (j=(0,0,0,3)):=ZZ x.o;clear af L ac x Z;go_wp2;refine bodyPost_ret (v:=.tuple #[.agg #[.int .i64 0,.int .i64 0,.int .u32 0],.int .i64 3]) (by simp[results,Tryz.results115,go_sem,D,C,F]) rfl ?_
  rw[g.o];exact⟨rfl,Zia z.o _ zL _ _ _⟩
 | some gp=>
  have:=L gp rfl;subst this;obtain⟨g1,g2,g3⟩:=ac (Z.o _ _ rfl);have k:Hid (j=if ns.getD 0 0≠3 then(0,0,0,6) else if l.length≠4 then(0,0,0,3) else(ns.getD 1 0,ns.getD 2 0,U.leNat l,0)):=ZZ x.o
  clear af L ac x Z;generalize ns.getD 0 0=n0 at *;generalize ns.getD 1 0=n1 at *;generalize ns.getD 2 0=n2 at *;subst g1 g2 g3;by_cases A:n0=3
  case neg=>
   have g:Hid (j=(0,0,0,6)):=ZZ (by rw[k.o,if_pos A])
   have aA:((n0:Int) != 3)=true:=by rw[bne_iff_ne];omega
   clear A k;go_wp2;refine bodyPost_ret (v:=.tuple #[.agg #[.int .i64 0,.int .i64 0,.int .u32 0],.int .i64 6]) (by simp[results,Tryz.results115,go_sem,D,C,F]) rfl ?_
   rw[g.o];exact⟨rfl,Zia z.o _ zL _ _ _⟩
  have aA:((n0:Int) != 3)=false:=by rw[bne_eq_false_iff_eq];omega
  by_cases t:l.length=4
  case neg=>
   have g:Hid (j=(0,0,0,3)):=ZZ (by rw[k.o,if_neg (by omega),if_pos t])
   have aK:((l.length:Int) != 4)=true:=by rw[bne_iff_ne];omega
   clear A k t;go_wp2;refine bodyPost_ret (v:=.tuple #[.agg #[.int .i64 0,.int .i64 0,.int .u32 0],.int .i64 3]) (by simp[results,Tryz.results115,go_sem,D,C,F]) rfl ?_
   rw[g.o];exact⟨rfl,Zia z.o _ zL _ _ _⟩
  have aK:((l.length:Int) != 4)=false:=by rw[bne_eq_false_iff_eq];omega
  have g:Hid (j=(n1,n2,U.leNat l,0)):=ZZ (by rw[k.o,if_neg (by omega),if_neg (by omega)])
  have aa:=ZZ (aD.o _ l i ag.o);rw[List.take_of_length_le (by omega)] at aa
  have aJ:U.leNat l<4294967296:=by
   have:=Zob l;rw[t] at this;exact this
  have aN:Hid (l.length=4):=ZZ t;generalize U.leNat l=u at *;clear A k t;obtain⟨e0,f0⟩:=ab.o.cell 0;obtain⟨e1,f1⟩:=ab.o.cell 1;obtain⟨e2,f2⟩:=ab.o.cell 2;have aQ:¬ (w.heap.size=w.heap.size+1):=by omega
  have aR:¬ (w.heap.size+1=w.heap.size):=by omega
  have aH:IntKind.u32.wrap (u:Int)=(u:Int):=by
   rw[IntKind.wrap_u32];omega
  have ax:(0:Int)<=(u:Int):=by omega
  have aM:(u:Int)<4294967296:=by omega
  obtain⟨R,T⟩:∃ R:Int,R=(u:Int):=⟨_,rfl⟩;obtain⟨V,O⟩:∃ V:Int,V=(n1:Int):=⟨_,rfl⟩;obtain⟨I,M⟩:∃ I:Int,I=(n2:Int):=⟨_,rfl⟩;rw[<-T] at aa aH ax aM;rw[<-O] at e0;rw[<-M] at e1;have aL:=ZZ T;have aO:=ZZ O;have aC:=ZZ M;clear T O M aJ;clear aN
  go_wp2_with fail
  refine aa.o.mono ?_;rintro e W2 ⟨rfl,aq⟩;rw[aq];clear aq W2;go_wp2;refine bodyPost_ret (v:=.tuple #[.agg #[.int .i64 V,.int .i64 I,.int .u32 R],.int .i64 0]) (by simp[results,Tryz.results115,go_sem,D,C,F]) rfl ?_
  rw[g.o];exact⟨by rw[aL.o,aO.o,aC.o],Zia (z.o.setCell (Nat.le_succ _) _) _ zL _ _ _⟩
theorem ZlK (g c:Value) (a b:List UInt8) (w:World) (f:Rd w g a) (d:Rd w c b):
 Calls prog 163 #[g,c] w fun e w'=>e=.returned (.bool (decide (a=b)))∧w'=w:=by
 have k:=f.str;have j:=d.str
 have i:((bs a).toList == (bs b).toList)=decide (a=b):=by
  rw[ZCp];by_cases h:a=b
  ·rw[h,decide_eq_true rfl];exact beq_self_eq_true b
  ·rw[decide_eq_false h,beq_eq_false_iff_ne];exact h
 generalize decide (a=b)=D at *;clear f d
 go_enter func163,ntmps163
 go_wp2;go_ret;exact⟨rfl,rfl⟩
theorem Zqy {A B:List (List UInt8)} {k:Nat} (c:k<A.length) (b:k<B.length) (h:A.take k=B.take k) (a:A.getD k []=B.getD k []):A.take (k+1)=B.take (k+1):=by
 rw[List.take_add_one,List.take_add_one,h]
 congr 1
 simp only [List.getD,List.getElem?_eq_getElem c,List.getElem?_eq_getElem b,Option.getD_some] at a ⊢;rw[a]
theorem ZmD (Q O:Value) (A B:List (List UInt8)) (w:World) (W:RdL w Q A) (hb:RdL w O B):
 Calls prog 162 #[Q,O,.func (.func 163) #[] #[]] w fun e w'=>e=.returned (.bool (decide (A=B)))∧w'=w:=by
 obtain⟨aa,ac,rfl,ae,L,-,P⟩:=W;obtain⟨ba,bc,rfl,-,-,-,H⟩:=hb;have E:=ZZ P;have N:=ZZ H;have I:=ZZ (fun x y a b S h2=>ZlK x y a b w S h2)
 obtain⟨D,j⟩:∃ D,D=decide (A=B):=⟨_,rfl⟩;rw[<-j];have M:Hid (A=B->D=true):=fun h=>by rw[j];exact decide_eq_true h
 have C:Hid (¬ A=B->D=false):=fun h=>by rw[j];exact decide_eq_false h
 have ag:(A.length:Int)<=9223372036854775807:=by unfold maxLen at L;omega
 clear j P H L ae;by_cases i:A.length=B.length
 case neg=>
  have V:((A.length:Int) != (B.length:Int))=true:=by rw[bne_iff_ne];omega
  have HE:=ZZ (C.o (fun h=>i (by rw[h])))
  clear i
  go_enter func162,ntmps162
  go_wp2;go_ret;rw[HE.o];exact⟨rfl,rfl⟩
 have V:((A.length:Int) != (B.length:Int))=false:=by rw[bne_eq_false_iff_eq];omega
 have J:=ZZ i
 have F:Hid (A.take A.length=B.take A.length->D=true):=ZZ (fun h=>M.o (by
  rw[take_length,J.o,take_length] at h
  exact h))
 have G:Hid (∀ k,k<A.length->A.getD k []≠B.getD k []->D=false):=ZZ (fun k hk h=>C.o (fun U=>h (by rw[U])))
 clear i M C
 go_enter func162,ntmps162
 go_wp2
 go_loopw[17] (fun t T=>∃ k:Nat,t=.int .i64 (k:Int)∧k<=A.length∧Hid (A.take k=B.take k)∧T=w) (fun t _=>A.length-(intOf t).toNat)
 case atStart=>exact⟨0,rfl,Nat.zero_le _,rfl,rfl⟩
 case round=>
  obtain⟨k,rfl,hk,K,rfl⟩:=hrel;by_cases f:k<A.length
  case neg=>
   obtain rfl:k=A.length:=by omega
   have HT:=ZZ (F.o K.o);go_wp2;go_ret;rw[HT.o];exact⟨rfl,rfl⟩
  have m:k<B.length:=by have:=J.o;omega
  rcases E.o with h0 | ⟨c,off,rfl,hc⟩
  ·rw[h0] at f;simp at f
  rcases N.o with h0 | ⟨c',off',rfl,hc'⟩
  ·rw[h0] at m;simp at m
  obtain⟨x,hx,v⟩:=hc k f;obtain⟨y,hy,z⟩:=hc' k m;have af:(k:Int)<(A.length:Int):=by omega
  have ah:(k:Int)<(B.length:Int):=by omega
  have u:=ZZ (G.o k f);have n:Hid (A.getD k []=B.getD k []->A.take (k+1)=B.take (k+1)):=ZZ (fun h=>Zqy f m K.o h)
  have l:=ZZ (I.o x y _ _ v z);obtain⟨xa,xc,ab⟩:∃ a c,x=.slice a (A.getD k []).length c:=by obtain⟨a,c,h,-⟩:=v;exact⟨a,c,h⟩
  obtain⟨ya,yc,ad⟩:∃ a c,y=.slice a (B.getD k []).length c:=by obtain⟨a,c,h,-⟩:=z;exact⟨a,c,h⟩
  subst ab ad;clear hc hc' v z F G E N I;generalize A.getD k []=X at *;generalize B.getD k []=Y at *;by_cases d:X=Y
  ·have R:=ZZ (n.o d)
   have p:Hid (decide (X=Y)=true):=decide_eq_true d;rw[p.o] at l;clear u n d
   go_wp2_with fail
   refine l.o.mono ?_;rintro e q ⟨rfl,g⟩;rw[g];clear g q;go_wp2;go_roundw
   case rel=>exact⟨k+1,by go_num,by omega,R,trivial⟩
   case measure=>simp[intOf];omega
  ·have Z:=ZZ (u.o d)
   have p:Hid (decide (X=Y)=false):=decide_eq_false d;rw[p.o] at l;clear u n d
   go_wp2_with fail
   refine l.o.mono ?_;rintro e q ⟨rfl,g⟩;rw[g];clear g q;go_wp2;go_ret;rw[Z.o];exact⟨rfl,rfl⟩
theorem Zss (v:Value) (L:List (List UInt8)) (w:World) (M:RdL w v L) (K:L.flatten.length<=1000000) (hn:L.length<=100000):
 Calls prog 131 #[v] w fun e w'=>∃ v',e=.returned v'∧Own w' w.heap.size v' L.flatten∧Below w.heap.size w w':=by
 have HG:=ZZ (fun n W h=>Ztu n W h)
 have af:=ZZ M;have l:Hid (∀ k,Zos L k<=1000000):=fun k=>Nat.le_trans (Zxu L k) K
 have J:=ZZ (Zqd L);have X:=ZZ (Zqc L);have y:=ZZ (Ztw L);have Q:=ZZ (Ztv L);obtain⟨F,m⟩:∃ F,F=L.flatten:=⟨_,rfl⟩;rw[<-m];rw[<-m] at y;obtain⟨ao,cap,rfl,-,-,-,z⟩:=M;have G:=ZZ z;clear z m K
 go_enter func131,ntmps131
 go_wp2
 go_loopw[3,11] (fun vs a Y=>∃ (k:Nat),vs=.int .i64 (Zos L k:Int)∧a=.int .i64 (k:Int)∧k<=L.length∧Y=w) (fun _ a _=>L.length-(intOf a).toNat)
 case atStart=>exact⟨0,rfl,rfl,Nat.zero_le _,rfl⟩
 case round=>
  obtain⟨k,rfl,rfl,hk,I⟩:=hrel;have ae:=I.symm;subst ae;clear I;by_cases b:k<L.length
  ·rcases G.o with h0 | ⟨c,off,rfl,hc⟩
   ·rw[h0] at b;simp at b
   obtain⟨x,T,g⟩:=hc k b;have u:=l.o (k+1);have q:=J.o k b;obtain⟨ax,U,rfl,-⟩:=g;have h3:¬ ((Zos L k:Int)+((L.getD k []).length:Int)<0):=by omega
   have h4:(Zos L k:Int)+((L.getD k []).length:Int)<=1000000:=by omega
   have H2:=ZZ q;clear hc u q;generalize Zos L k=A at *;generalize (L.getD k []).length=D at *;go_wp2;go_roundw
   case rel=>exact⟨k+1,by rw[H2.o],by go_num,by omega,trivial⟩
   case measure=>simp[intOf];omega
  ·have ab:=ZZ (HG.o (Zos L k) w (l.o k))
   generalize Zos L k=A at *
   go_wp2_with fail
   refine ab.o.mono ?_;rintro e W1 ⟨v1,rfl,E,B⟩;have O:=ZZ E;have H:=ZZ B;clear E B hk b;go_wp2
   go_loopw[6,27] (fun V a N=>∃ (j:Nat),a=.int .i64 (j:Int)∧j<=L.length∧Hid (Own N w.heap.size V (Zxt L j))∧Hid (Below w.heap.size w N)) (fun _ a _=>L.length-(intOf a).toNat)
   case atStart=>exact⟨0,rfl,Nat.zero_le _,O,H⟩
   case round=>
    clear O H;obtain⟨j,rfl,hj,i,d⟩:=hrel;by_cases f:j<L.length
    ·rcases G.o with h0 | ⟨c,off,rfl,hc⟩
     ·rw[h0] at f;simp at f
     obtain⟨x,t,g⟩:=hc j f;have T:=(d.o.cell (World.block_lt_of_cell? _ _ t)).trans t;have ac:=ZZ (g.below d.o zL);obtain⟨ax,U,rfl,-⟩:=g
     have R:Hid ((Zxt L j).length+(L.getD j []).length<=70368744177664):=ZZ (by
      have u:=l.o (j+1);have q:=J.o j f;rw[Q.o]
      omega)
     have ad:=ZZ d.o.size;have S:=ZZ (X.o j f);clear hc t;generalize L.getD j []=D at *;generalize Zxt L j=P at *
     go_wp2_with(at_builtin;refine ZaE _ rfl _ _ rfl w.heap.size _ P rfl i.o _ D rfl ac.o R.o ad.o ?_)
     intro v3 W3 p C;rw[<-S.o] at p;have aa:=ZZ p;have Z:=ZZ (d.o.trans C);clear p C;go_wp2;go_roundw
     case rel=>exact⟨j+1,by go_num,by omega,aa,Z⟩
     case measure=>simp[intOf];omega
    ·have HE:=ZZ (y.o j (by omega))
     rw[HE.o] at i;go_wp2;go_ret;exact⟨_,rfl,i.o,d.o⟩
def ZoI (P:List (List UInt8)) (n c:Nat):Int:=if P.flatten.length≠n then 16 else if ¬ Ziw P then 3 else if Zaz 0 P.flatten≠c then 4 else 0
def Joined (w:World) (F:List UInt8) (er:Int) (e:Ending) (w':World):Prop:=
 ∃ v',e=.returned (.tuple #[v',.int .i64 er])∧Rd w' v' (if er=0 then F else[])∧Below w.heap.size w w'
theorem ZjG.rdl {w':World} {v v':Value} {l:List UInt8} {xs:List Value} {L:List (List UInt8)} {B:Nat} (h:ZjG v l xs L) (b:w'.ownsRow B 53 1 v' L.length xs) (n:Rd w' v l):RdL w' v' L:=by
 rcases b.2 with ⟨a,i⟩ | ⟨g,cap,cur,a,q,u,m,k,t,p⟩
 ·have e:L=[]:=List.eq_nil_of_length_eq_zero i
  subst e;rw[a];exact RdL.nil _
 ·refine⟨some ⟨g,0,none⟩,cap,a,m,k,(fun e=>by cases e),.inr ⟨g,0,rfl,fun j f=>?_⟩⟩
  obtain⟨x,c,-,d⟩:=h.2 j f;refine⟨x,?_,d w' n⟩;have:=World.ownsRow.cells b (g:=g) (by rw[a];rfl) j x c
  rw[Addr.add_lit] at this;exact this
theorem ZzO (i:Int) (n c:Nat) (B:Value) (P:List (List UInt8)) (w:World) (D:RdL w B P) (aq:P.flatten.length<=100000) (ay:P.length<=100000):
 Calls prog 116 #[.agg #[.int .i64 i,.int .i64 (n:Int),.int .u32 (c:Int)],B] w fun e w'=>Joined w P.flatten (ZoI P n c) e w':=by
 have z:Hid (Below w.heap.size w (w.alloc (.cells #[.int .i64 i,.int .i64 (n:Int),.int .u32 (c:Int)] 147))):=ZZ ((Below.refl _ _).alloc zL _);have U:Hid (Bq (w.alloc (.cells #[.int .i64 i,.int .i64 (n:Int),.int .u32 (c:Int)] 147)) w.heap.size #[.int .i64 i,.int .i64 (n:Int),.int .u32 (c:Int)]):=ZZ (heap_alloc_new w _);have ac:=ZZ (fun W (h:Below w.heap.size w W)=>Zss B P W (D.below h zL) (by omega) ay)
 have aa:=ZZ (fun t W h=>Znk t P.flatten W h aq)
 have u:=ZZ (fun vb W Q b=>ZmD B vb P (Zbd P.flatten) W Q b)
 have L:=ZZ (fun t W h=>Zou t P.flatten W h)
 have HP:=ZZ D;have af:decide (P=Zbd P.flatten)=decide (Ziw P):=decide_eq_decide.2 (ZwR P).symm;rw[af] at u;have k:Hid (ZoI P n c=if P.flatten.length≠n then 16 else if ¬ Ziw P then 3 else if Zaz 0 P.flatten≠c then 4 else 0):=ZZ rfl
 obtain⟨pa,pc,aw⟩:∃ a c,B=.slice a P.length c:=by obtain⟨a,c,h,-⟩:=D;exact⟨a,c,h⟩
 subst aw;obtain⟨p,ap⟩:∃ p,p=ZoI P n c:=⟨_,rfl⟩;rw[<-ap] at k ⊢;obtain⟨X,V⟩:∃ X,X=decide (Ziw P):=⟨_,rfl⟩;rw[<-V] at u;have ae:=ZZ V;clear ap D af V;obtain⟨f,am⟩:∃ f,f=P.flatten:=⟨_,rfl⟩;rw[<-am] at ac aa u L k aq ⊢;have aA:Hid (Zbd f=Zbd f):=ZZ rfl;clear am;generalize Zbd f=PF at *;generalize Zaz 0 f=S at *;obtain⟨E,T⟩:∃ E:Int,E=(n:Int):=⟨_,rfl⟩;obtain⟨d,J⟩:∃ d:Int,d=(c:Int):=⟨_,rfl⟩;obtain⟨j,Y⟩:∃ j:Int,j=(S:Int):=⟨_,rfl⟩;rw[<-T,<-J] at z U ⊢;rw[<-Y] at L;have ag:=ZZ T;have an:=ZZ J;have ak:=ZZ Y;clear T J Y
 go_enter func116,ntmps116
 go_wp2_with fail
 refine(ac.o _ z.o).mono ?_;rintro e W1 ⟨t,rfl,K,I⟩;have G:=ZZ (z.o.trans (I.mono z.o.size));have O:=ZZ (U.o.below I zL);have N:=ZZ K.rd;obtain⟨a1,c1,ax⟩:∃ a c,t=.slice a f.length c:=by obtain⟨a,c,h,-⟩:=K.rd;exact⟨a,c,h⟩
 subst ax;obtain⟨p1,-⟩:=O.o.cell 1;clear K I ac z U;by_cases H:f.length=n
 case neg=>
  have m:Hid (p=16):=ZZ (by rw[k.o,if_pos H])
  have au:((f.length:Int) != E)=true:=by rw[bne_iff_ne,ag.o];omega
  clear H k;go_wp2;go_ret2;rw[m.o];exact⟨_,rfl,Rd.nil _,G.o⟩
 have au:((f.length:Int) != E)=false:=by rw[bne_eq_false_iff_eq,ag.o];omega
 have HL:=ZZ H;clear H
 go_wp2_with fail
 refine(aa.o _ _ N.o).mono ?_;rintro e v ⟨v2,xs,rfl,ah,ar,C⟩;have q:=ZZ (G.o.trans (C.mono G.o.size));have ad:=ZZ (O.o.below C zL);have F:=ZZ (N.o.below C zL);have aj:=ZZ (ar.rdl ah F.o);obtain⟨a2,c2,az⟩:∃ a c,v2=.slice a PF.length c:=by obtain⟨a,c,h,-⟩:=aj.o;exact⟨a,c,h⟩
 subst az;clear ah C ar p1 aa O N G
 go_wp2_with fail
 refine(u.o _ _ (HP.o.below q.o zL) aj.o).mono ?_;rintro e A ⟨rfl,ao⟩;rw[ao];clear ao A u
 cases X with
 | false=>
  have m:Hid (p=3):=ZZ (by rw[k.o,if_neg (fun h=>h HL.o),if_pos (of_decide_eq_false ae.o.symm)])
  clear k;go_wp2;go_ret2;rw[m.o];exact⟨_,rfl,Rd.nil _,q.o⟩
 | true=>
  have m:Hid (p=if S≠c then 4 else 0):=ZZ (by rw[k.o,if_neg (fun h=>h HL.o),if_neg (fun h=>h (of_decide_eq_true ae.o.symm))])
  have al:=ZZ (L.o _ v.drew (F.o.below ((Below.refl _ _).drew) zL));obtain⟨q2,-⟩:=ad.o.cell 2
  go_upto_region 6 with fail
  go_cut[21] (fun x M=>x=.bool (decide (j≠d))∧Hid (Rd M (.slice a1 f.length c1) f)∧Hid (Below w.heap.size w M))
  case first=>
   by_cases g:j=d
   ·have Q:(j != d)=false:=by rw[bne_eq_false_iff_eq];exact g
    have b:decide (j≠d)=false:=decide_eq_false (fun h=>h g)
    have Z:=ZZ b;clear g b
    go_region_held(fun w'=>w'.cell? ⟨w.heap.size,2,none⟩=some (.int .u32 d)) (go_keep)
     (first
      | (go_at_call 136;refine al.o.mono ?_;rintro e A ⟨rfl,y⟩;have l:Below v.heap.size v A:=((Below.refl _ _).drew).trans y;have ab:=ZZ (q.o.trans (l.mono q.o.size));have R:=ZZ (F.o.below l zL);obtain⟨r2,-⟩:=(ad.o.below l zL).cell 2;clear y l))
    all_goals
     go_wp2_with fail
     go_meet
     exact⟨by rw[Z.o],R,ab⟩
   ·have Q:(j != d)=true:=by rw[bne_iff_ne];exact g
    have b:decide (j≠d)=true:=decide_eq_true g;have Z:=ZZ b;clear g b
    go_region_held(fun w'=>w'.cell? ⟨w.heap.size,2,none⟩=some (.int .u32 d)) (go_keep)
     (first
      | (go_at_call 136;refine al.o.mono ?_;rintro e A ⟨rfl,y⟩;have l:Below v.heap.size v A:=((Below.refl _ _).drew).trans y;have ab:=ZZ (q.o.trans (l.mono q.o.size));have R:=ZZ (F.o.below l zL);obtain⟨r2,-⟩:=(ad.o.below l zL).cell 2;clear y l))
    all_goals
     go_wp2_with fail
     go_meet
     exact⟨by rw[Z.o],R,ab⟩
  case rest=>
   obtain⟨WC,rfl⟩:∃ W,W=M:=⟨_,rfl⟩;obtain⟨rfl,av,ai⟩:=hcut;by_cases g:S=c
   ·have HF:Hid (p=0):=ZZ (by rw[m.o,if_neg (by omega)])
    have b:decide (j≠d)=false:=decide_eq_false (by have:=an.o;have:=ak.o;omega)
    rw[b];clear b g k m;go_wp2;go_ret2;rw[HF.o];exact⟨_,rfl,av.o,ai.o⟩
   ·have HF:Hid (p=4):=ZZ (by rw[m.o,if_pos g])
    have b:decide (j≠d)=true:=decide_eq_true (by have:=an.o;have:=ak.o;omega)
    rw[b];clear b g k m;go_wp2;go_ret2;rw[HF.o];exact⟨_,rfl,Rd.nil _,ai.o⟩
theorem ZzP (b a:Nat) (L:List (List UInt8)) (cap:Nat) (z:L.length<=cap) (g:1<=L.length):
 ∃ l k,(∀ W,(Instr.sliceAt 144 (.slice (some ⟨b,a,none⟩) L.length cap) (some (.int .i64 1)) none none).run prog W=.ok (.slice l (L.length-1) k) W)∧∀ W,RdL W (.slice (some ⟨b,a,none⟩) L.length cap) L->RdL W (.slice l (L.length-1) k) (L.drop 1):=by
 by_cases i:cap=1
 ·refine⟨some ⟨b,a,none⟩,cap-1,fun W=>?_,fun W h=>?_⟩
  ·have f:L.length=1:=by omega
   simp[go_sem,f,i]
  ·have f:L.drop 1=[]:=List.drop_eq_nil_of_le (by omega)
   obtain⟨p,w,c,q,n,y,d⟩:=h;simp only [Value.slice.injEq] at c;obtain⟨rfl,-,rfl⟩:=c;exact⟨_,_,by rw[length_drop],by rw[length_drop];omega,by omega,(fun e=>by cases e),.inl f⟩
 ·refine⟨some ⟨b,a+1,none⟩,cap-1,fun W=>?_,fun W h=>?_⟩
  ·have v:(1:Int)<=(L.length:Int):=by omega
   simp[go_sem,i,v]
  ·obtain⟨p,w,c,q,n,y,d⟩:=h
   simp only [Value.slice.injEq] at c;obtain⟨rfl,-,rfl⟩:=c;refine⟨_,_,by rw[length_drop],by rw[length_drop];omega,by omega,(fun e=>by cases e),?_⟩
   rcases d with d | ⟨b',off',k5,k6⟩
   ·rw[d] at g
    simp at g
   ·injection k5 with k5
    injection k5 with k5 k7 _
    subst k5 k7;refine .inr ⟨b,a+1,rfl,fun j t=>?_⟩
    rw[length_drop] at t;obtain⟨x,m,u⟩:=k6 (j+1) (by omega)
    refine⟨x,by rw[show a+1+j=a+(j+1) by omega];exact m,?_⟩
    have e:(L.drop 1).getD j []=L.getD (j+1) []:=by simp[List.getD]
    rw[e];exact u
theorem Zvx:ZmQ []=(Zbl,16):=rfl
theorem Zst (d:List UInt8) (P:List (List UInt8)):ZmQ (d::P)=if(ZbV d).2.2.2≠0 then(Zbl,(ZbV d).2.2.2) else if ZoI P (ZbV d).2.1 (ZbV d).2.2.1≠0 then(Zbl,ZoI P (ZbV d).2.1 (ZbV d).2.2.1)
 else if(ZbS P.flatten).2≠0 then(Zbl,(ZbS P.flatten).2) else if ZgA ⟨((ZbV d).1:Nat),(ZbS P.flatten).1.st,(ZbS P.flatten).1.tab⟩ then(⟨((ZbV d).1:Nat),(ZbS P.flatten).1.st,(ZbS P.flatten).1.tab⟩,0) else(Zbl,1):=by
 unfold ZoI;rw[ZmQ];by_cases a:(ZbV d).2.2.2≠0
 ·rw[if_pos a,if_pos a]
 rw[if_neg a,if_neg a];by_cases e:P.flatten.length≠(ZbV d).2.1
 ·rw[if_pos e,if_pos e,if_pos (by decide)]
 rw[if_neg e,if_neg e];by_cases b:¬ Ziw P
 ·rw[if_pos b,if_pos b,if_pos (by decide)]
 rw[if_neg b,if_neg b];by_cases c:Zaz 0 P.flatten≠(ZbV d).2.2.1
 ·rw[if_pos c,if_pos c,if_pos (by decide)]
 rw[if_neg c,if_neg c,if_neg (show ¬ ((0:Int)≠0) by decide)]
theorem Zib:∀ L:List (List UInt8),L.flatten.length+L.length<=(Zaf L).length
 | []=>by simp[Zaf]
 | x::t=>by
  have a:=Zib t;have:=Zas x;rw[ZaV,length_append,List.flatten_cons,length_append,length_cons];omega
theorem Zsu (v:Value) (b:List UInt8) (w:World) (hr:Rd w v b) (bO:b.length<=100000):
 Calls prog 76 #[v] w fun e w'=>Zfv w (Zrg b) e w':=by
 obtain⟨W0,aa⟩:∃ W0,W0=w.alloc (.cells #[.int .i64 0,.int .i64 0,.slice none 0 0,.bool false,.int .i64 0,.slice none 0 0] 41):=⟨_,rfl⟩;have N:Hid (Below w.heap.size w W0):=ZZ (by rw[aa];exact(Below.refl _ _).alloc zL _)
 have ax:Hid (Bn W0 w.heap.size #[.int .i64 0,.int .i64 0,.slice none 0 0,.bool false,.int .i64 0,.slice none 0 0]):=ZZ (by rw[aa];exact heap_alloc_new w _)
 have G:=ZZ (ZAX v b W0 (hr.below N.o zL) (by omega))
 obtain⟨va,vc,hv⟩:∃ a c,v=.slice a b.length c:=by obtain⟨a,c,h,-⟩:=hr;exact⟨a,c,h⟩
 subst hv;obtain⟨j,ai⟩:∃ j,j=Zrg b:=⟨_,rfl⟩;rw[<-ai];by_cases Y:(Zao b).2.2=0
 case neg=>
  have D:Hid (j=(Zbl,(((Zao b).2.2:Nat):Int))):=ZZ (by rw[ai];unfold Zrg;rw[if_pos Y])
  have ha:ZAo b=([],(Zao b).2.2):=by unfold ZAo;rw[if_neg Y]
  rw[ha] at G
  dsimp only at G
  generalize (Zao b).2.2=er at *;have aE:((er:Int) != 0)=true:=by rw[bne_iff_ne];omega
  obtain⟨E,hE⟩:∃ E:Int,E=(er:Int):=⟨_,rfl⟩;rw[<-hE] at G D aE;clear ha ai Y hE hr
  go_enter func76,ntmps76
  go_wp2_with fail
  rw[<-aa];refine G.o.mono ?_;rintro e W1 ⟨U,rfl,V,B⟩;have g:=ZZ (ax.o.below B zL);have R:=ZZ (N.o.trans (B.mono N.o.size));obtain⟨x,y0⟩:=g.o.cell 0;obtain⟨p,y1⟩:=g.o.cell 1;obtain⟨z,y2⟩:=g.o.cell 2;obtain⟨u,y3⟩:=g.o.cell 3;obtain⟨y,y4⟩:=g.o.cell 4;obtain⟨A,y5⟩:=g.o.cell 5;clear B V;go_wp2;refine bodyPost_ret (v:=.tuple #[.agg #[.int .i64 0,.int .i64 0,.slice none 0 0,.bool false,.int .i64 0,.slice none 0 0],.int .i64 E]) (by simp[results,Tryz.results76,go_sem,x,p,z,u,y,A]) rfl ?_
  rw[D.o];exact Zfv.zero _ (Zei R.o _ zL _ _ _ _ _ _)
 have D:Hid (j=ZmQ (Zao b).1):=ZZ (by rw[ai];unfold Zrg;rw[if_neg (fun h=>h Y)])
 have ha:ZAo b=((Zao b).1,0):=by unfold ZAo;rw[if_pos Y]
 have aq:=Zib (Zao b).1;rw[(Zit b.length b zL Y).1] at aq;rw[ha] at G
 dsimp only at G
 generalize (Zao b).1=LS at *;clear ha ai Y hr
 cases LS with
 | nil=>
  rw[Zvx] at D
  go_enter func76,ntmps76
  go_wp2_with fail
  rw[<-aa];refine G.o.mono ?_;rintro e W1 ⟨U,rfl,V,B⟩;obtain⟨a1,c1,aO⟩:∃ a c,U=.slice a 0 c:=by obtain⟨a,c,h,-⟩:=V;exact⟨a,c,h⟩
  subst aO;have g:=ZZ (ax.o.below B zL);have R:=ZZ (N.o.trans (B.mono N.o.size));obtain⟨x,y0⟩:=g.o.cell 0;obtain⟨p,y1⟩:=g.o.cell 1;obtain⟨z,y2⟩:=g.o.cell 2;obtain⟨u,y3⟩:=g.o.cell 3;obtain⟨y,y4⟩:=g.o.cell 4;obtain⟨A,y5⟩:=g.o.cell 5;clear B V;go_wp2;refine bodyPost_ret (v:=.tuple #[.agg #[.int .i64 0,.int .i64 0,.slice none 0 0,.bool false,.int .i64 0,.slice none 0 0],.int .i64 16]) (by simp[results,Tryz.results76,go_sem,x,p,z,u,y,A]) rfl ?_
  rw[D.o];exact Zfv.zero _ (Zei R.o _ zL _ _ _ _ _ _)
 | cons d P=>
  rw[Zst] at D;have bb:P.flatten.length<=100000:=by rw[List.flatten_cons,length_append,length_cons] at aq;omega
  have bz:P.length<=100000:=by rw[List.flatten_cons,length_append,length_cons] at aq;omega
  have aV:Hid ((d::P).length=P.length+1):=ZZ rfl;have av:=ZZ (fun U W h=>ZjJ U d W h)
  have bp:=ZZ (fun i n c vp W h=>ZzO i n c vp P W h bb bz)
  have bh:=ZZ (fun U W h=>ZoH U P.flatten W h bb)
  have aH:Hid (I64 ((ZbV d).1:Nat)):=ZZ (by
   have:(ZbV d).1<4611686018427387904:=by
    unfold ZbV;split
    ·decide
    dsimp only
    split
    ·decide
    split
    ·decide
    split
    ·decide
    rcases Zay (d.drop (1+(Zab (d.drop 1)).2)) with h | h
    ·rw[h];exact(by decide:(0:Nat)<4611686018427387904)
    ·exact h.1
   exact⟨by omega,by omega⟩)
  unfold ZBT at av
  have ao:Hid (∀ (W:World) (n:Int),Below w.heap.size w W->j=(Zbl,n)->Zfv w j (.returned (.tuple #[.agg #[.int .i64 0,.int .i64 0,.slice none 0 0,.bool false,.int .i64 0,.slice none 0 0],.int .i64 n])) ((((((W.setCell ⟨w.heap.size,0,none⟩ (.int .i64 0)).setCell ⟨w.heap.size,1,none⟩ (.int .i64 0)).setCell ⟨w.heap.size,2,none⟩ (.slice none 0 0)).setCell ⟨w.heap.size,3,none⟩ (.bool false)).setCell ⟨w.heap.size,4,none⟩ (.int .i64 0)).setCell ⟨w.heap.size,5,none⟩ (.slice none 0 0))):=ZZ (fun W n h e=>by
   rw[e]
   exact Zfv.zero _ (Zei h _ zL _ _ _ _ _ _))
  clear aq;generalize ZbV d=RM at *;obtain⟨f,Q,M,me⟩:=RM
  dsimp only at D av aH
  have be:=ZZ (fun rb ro c h=>ZzP rb ro (d::P) c h (by simp))
  have bM:(P.length:Int)<=100000:=by omega
  go_enter func76,ntmps76
  go_wp2_with fail
  rw[<-aa];refine G.o.mono ?_;rintro e W1 ⟨U,rfl,V,B⟩;have g:=ZZ (ax.o.below B zL);have R:=ZZ (N.o.trans (B.mono N.o.size));have aI:=ZZ V;obtain⟨a1,c1,aO,aX,-,-,bE⟩:=V;subst aO;rcases bE with h0 | ⟨rb,ro,rfl,hc⟩
  ·cases h0
  obtain⟨x0,a2,bc⟩:=hc 0 (by simp)
  have bw:W1.cell? ⟨rb,ro,none⟩=some x0:=a2;have aM:Rd W1 x0 d:=bc;have aY:=ZZ aM;obtain⟨xa,xc,bD⟩:∃ a c,x0=.slice a d.length c:=by obtain⟨a,c,h,-⟩:=aM;exact⟨a,c,h⟩
  subst bD;obtain⟨ra,rc,bj,aW⟩:=be.o rb ro c1 aX;rw[aV.o,Nat.add_sub_cancel] at bj;have aS:=ZZ (fun W h=>aW W h)
  rw[aV.o,Nat.add_sub_cancel,List.drop_one,List.tail_cons] at aS;rw[aV.o] at aI ⊢;have bL:((P.length:Int)+1 == 0)=false:=beq_eq_false_iff_ne.2 (by omega)
  have bN:(0:Int)<(P.length:Int)+1:=by omega
  clear B hc a2 bc aW G aX be aM aa ax N
  go_wp2_with fail
  refine(av.o _ _ aY.o).mono ?_;rintro e W2 ⟨rfl,af⟩;obtain⟨l,al⟩:∃ l,l=W2.alloc (.cells #[.int .i64 (f:Int),.int .i64 (Q:Int),.int .u32 (M:Int)] 147):=⟨_,rfl⟩;have ak:Hid (Below W2.heap.size W2 l):=ZZ (by rw[al];exact(Below.refl _ _).alloc zL _)
  have an:Hid (Bq l W2.heap.size #[.int .i64 (f:Int),.int .i64 (Q:Int),.int .u32 (M:Int)]):=ZZ (by rw[al];exact heap_alloc_new W2 _)
  have I:=ZZ ((g.o.below af zL).below ak.o zL);have aD:=ZZ ((R.o.trans (af.mono R.o.size)).trans (ak.o.mono (Nat.le_trans R.o.size af.size)));have a6:=ZZ ((aI.o.below af zL).below ak.o zL)
  go_upto_region 7 with fail
  rw[<-al];obtain⟨K,a9⟩:∃ K,K=W2.heap.size:=⟨_,rfl⟩;rw[<-a9] at an ⊢;clear al a9 af bw g R aI av aY ak;by_cases ad:me=0
  case neg=>
   have bK:(me != 0)=true:=by rw[bne_iff_ne];exact ad
   have O:Hid (j=(Zbl,me)):=ZZ (by rw[D.o,if_pos ad])
   obtain⟨x,y0⟩:=I.o.cell 0;obtain⟨p,y1⟩:=I.o.cell 1;obtain⟨z,y2⟩:=I.o.cell 2;obtain⟨u,y3⟩:=I.o.cell 3;obtain⟨y,y4⟩:=I.o.cell 4;obtain⟨A,y5⟩:=I.o.cell 5;clear ad;go_wp2;refine bodyPost_ret (v:=.tuple #[.agg #[.int .i64 0,.int .i64 0,.slice none 0 0,.bool false,.int .i64 0,.slice none 0 0],.int .i64 me]) (by simp[results,Tryz.results76,go_sem,x,p,z,u,y,A]) rfl ?_
   exact ao.o _ _ aD.o O.o
  have bK:(me != 0)=false:=by rw[bne_eq_false_iff_eq];exact ad
  have ap:Hid (j=if ZoI P Q M≠0 then(Zbl,ZoI P Q M) else if(ZbS P.flatten).2≠0 then(Zbl,(ZbS P.flatten).2) else if ZgA ⟨(f:Nat),(ZbS P.flatten).1.st,(ZbS P.flatten).1.tab⟩ then(⟨(f:Nat),(ZbS P.flatten).1.st,(ZbS P.flatten).1.tab⟩,0) else(Zbl,1)):=ZZ (by rw[D.o,if_neg (fun h=>h ad)])
  have ag:=ZZ (fun W h=>bp.o (f:Int) Q M (.slice ra P.length rc) W h)
  obtain⟨H,a0⟩:∃ H,H=ZoI P Q M:=⟨_,rfl⟩;rw[<-a0] at ap ag;unfold Joined at ag;clear ad a0 D bp;generalize P.flatten=FL at *;obtain⟨m,aR⟩:∃ m,m=if H=0 then FL else[]:=⟨_,rfl⟩
  rw[<-aR] at ag;have bH:=ZZ aR;clear aR
  have aL:Hid (∀ W,Below l.heap.size l W->W.cell? ⟨K,0,none⟩=some (.int .i64 (f:Int))∧W.cell? ⟨K,1,none⟩=some (.int .i64 (Q:Int))∧W.cell? ⟨K,2,none⟩=some (.int .u32 (M:Int))):=ZZ (fun W h=>by
   have hx:=an.o.below h zL
   exact⟨(hx.cell 0).1,(hx.cell 1).1,(hx.cell 2).1⟩)
  have aC:Hid (Below l.heap.size l l.drew):=ZZ ((Below.refl _ _).drew)
  go_upto_region 9 with fail
  go_cut[5,7] (fun x5 x7 wc=>∃ a c,x5=.int .i64 H∧x7=.slice a m.length c∧Hid (Rd wc (.slice a m.length c) m)∧Hid (Below l.heap.size l wc))
  case first=>
   go_region_held(fun w'=>w'.cell? ⟨K,0,none⟩=some (.int .i64 (f:Int))∧w'.cell? ⟨K,1,none⟩=some (.int .i64 (Q:Int))∧w'.cell? ⟨K,2,none⟩=some (.int .u32 (M:Int))) (first | (with_reducible exact aL.o _ aC.o) | (with_reducible exact aL.o _ bn))
    (first
     | (go_at_call 116;refine(ag.o l.drew (aS.o _ (a6.o.below aC.o zL))).mono ?_;rintro e W4 ⟨v4,rfl,aQ,bd⟩;have bn:Below l.heap.size l W4:=aC.o.trans bd;have ar:=ZZ aQ;obtain⟨a4,c4,bx⟩:∃ a c,v4=.slice a m.length c:=(by obtain⟨a,c,h,-⟩:=aQ;exact⟨a,c,h⟩);subst bx;clear aQ bd))
   all_goals
    go_wp2_with fail
    go_meet
    exact⟨a4,c4,rfl,rfl,ar,ZZ bn⟩
  case rest=>
   obtain⟨WC,rfl⟩:∃ W,W=wc:=⟨_,rfl⟩;obtain⟨a4,c4,rfl,rfl,ar,au⟩:=hcut;have F:=ZZ (I.o.below au.o zL);have aZ:=ZZ (an.o.below au.o zL);have aF:=ZZ (aD.o.trans (au.o.mono aD.o.size));clear I an aD a6 au aL aC ag aS bj;by_cases T:H=0
   case neg=>
    have bA:(H != 0)=true:=by rw[bne_iff_ne];exact T
    have O:Hid (j=(Zbl,H)):=ZZ (by rw[ap.o,if_pos T])
    obtain⟨x,y0⟩:=F.o.cell 0;obtain⟨p,y1⟩:=F.o.cell 1;obtain⟨z,y2⟩:=F.o.cell 2;obtain⟨u,y3⟩:=F.o.cell 3;obtain⟨y,y4⟩:=F.o.cell 4;obtain⟨A,y5⟩:=F.o.cell 5;clear T;go_wp2;refine bodyPost_ret (v:=.tuple #[.agg #[.int .i64 0,.int .i64 0,.slice none 0 0,.bool false,.int .i64 0,.slice none 0 0],.int .i64 H]) (by simp[results,Tryz.results76,go_sem,x,p,z,u,y,A]) rfl ?_
    exact ao.o _ _ aF.o O.o
   have bA:(H != 0)=false:=by rw[bne_eq_false_iff_eq];exact T
   have bC:m=FL:=by rw[bH.o,if_pos T]
   subst bC;have ac:Hid (j=if(ZbS m).2≠0 then(Zbl,(ZbS m).2) else if ZgA ⟨(f:Nat),(ZbS m).1.st,(ZbS m).1.tab⟩ then(⟨(f:Nat),(ZbS m).1.st,(ZbS m).1.tab⟩,0) else(Zbl,1)):=ZZ (by rw[ap.o,if_neg (fun h=>h T)])
   have a5:=ZZ (bh.o _ _ ar.o);clear T ap bh
   go_wp2_with fail
   refine a5.o.mono ?_;rintro e W5 ⟨vl,vt,S,t,ok,rfl,aU,bk,bu,aG,bi,a7,bg,a8,aA⟩;obtain⟨la,lc,bG⟩:∃ a c,vl=.slice a S.L.length c:=by obtain⟨a,c,h,-⟩:=aU;exact⟨a,c,h⟩
   obtain⟨ta,tc,bB⟩:=aG.shape;subst bG bB;obtain⟨q,az⟩:∃ q,q=W5.alloc (.cells #[.int .i64 S.kind,.slice la S.L.length lc,.bool S.shut,.int .i64 S.eng] 38):=⟨_,rfl⟩;have ae:Hid (Below W5.heap.size W5 q):=ZZ (by rw[az];exact(Below.refl _ _).alloc zL _)
   have aj:Hid (Bx q W5.heap.size #[.int .i64 S.kind,.slice la S.L.length lc,.bool S.shut,.int .i64 S.eng]):=ZZ (by rw[az];exact heap_alloc_new W5 _)
   have J:=ZZ ((F.o.below aA zL).below ae.o zL);have bF:=ZZ ((aZ.o.below aA zL).below ae.o zL);have aN:=ZZ (aF.o.trans (aA.mono aF.o.size));have aK:=ZZ (aN.o.trans (ae.o.mono aN.o.size));have bt:=ZZ (aU.below ae.o zL);have bf:=ZZ (aG.below ae.o zL);have aw:=ZZ (And.intro bk bu);have aB:Hid ((∀ k,(Value.slice la S.L.length lc).ownBlock=some k->w.heap.size<k)∧(∀ k,(Value.slice ta t.length tc).ownBlock=some k->w.heap.size<k)):=ZZ ⟨fun k C=>by have h1:=bi k C;have h2:=F.o.lt;omega,fun k C=>by have h1:=a7 k C;have h2:=F.o.lt;omega⟩
   have bv:=ZZ bg;have br:=ZZ a8
   go_upto_region 13 with fail
   rw[<-az];obtain⟨QS,bo⟩:∃ QS,QS=W5.heap.size:=⟨_,rfl⟩;rw[<-bo] at aj ⊢;clear az bo aU bk bu aG bi a7 bg a8 aA F aZ aF a5 ar ae aN
   cases ok with
   | false=>
    have h3:=bv.o rfl;have O:Hid (j=(Zbl,3)):=ZZ (by rw[ac.o,if_pos (by rw[h3];decide),h3])
    obtain⟨x,y0⟩:=J.o.cell 0;obtain⟨p,y1⟩:=J.o.cell 1;obtain⟨z,y2⟩:=J.o.cell 2;obtain⟨u,y3⟩:=J.o.cell 3;obtain⟨y,y4⟩:=J.o.cell 4;obtain⟨A,y5⟩:=J.o.cell 5;clear h3;go_wp2;refine bodyPost_ret (v:=.tuple #[.agg #[.int .i64 0,.int .i64 0,.slice none 0 0,.bool false,.int .i64 0,.slice none 0 0],.int .i64 3]) (by simp[results,Tryz.results76,go_sem,x,p,z,u,y,A]) rfl ?_
    exact ao.o _ _ aK.o O.o
   | true=>
    obtain⟨er,bm,aE⟩:=br.o rfl;rw[bm] at ac
    dsimp only at ac
    have O:Hid (j=if ZgA ⟨(f:Nat),S,t⟩ then(⟨(f:Nat),S,t⟩,0) else(Zbl,1)):=ZZ (by
     rcases aE with h | ⟨h,h2⟩
     ·rw[ac.o,if_neg (fun h'=>h' h)]
     ·rw[ac.o,if_pos (by rw[h];decide),h,h2,if_neg (ZwT _ _)])
    have aJ:=ZZ (fun W (h:Below q.heap.size q W)=>Ztx (.agg #[.int .i64 ((f:Nat):Int),.int .i64 S.kind,.slice la S.L.length lc,.bool S.shut,.int .i64 S.eng,.slice ta t.length tc]) ⟨(f:Nat),S,t⟩ W ⟨_,_,rfl,bt.o.below h zL,aw.o.1,aw.o.2,bf.o.below h zL,aH.o⟩)
    obtain⟨m0,-⟩:=bF.o.cell 0;obtain⟨s0,-⟩:=aj.o.cell 0;obtain⟨s1,-⟩:=aj.o.cell 1;obtain⟨s2,-⟩:=aj.o.cell 2;obtain⟨s3,-⟩:=aj.o.cell 3;have ah:Hid (∀ X,Below q.heap.size q (q.alloc X)):=ZZ (fun X=>(Below.refl _ _).alloc zL X)
    have bq:Hid (∀ cs,Bn (q.alloc (.cells cs 41)) q.heap.size cs):=ZZ (fun cs=>heap_alloc_new q _)
    obtain⟨my,aP⟩:∃ my,my=decide (ZgA ⟨((f:Nat):Int),S,t⟩):=⟨_,rfl⟩;rw[<-aP] at aJ;have bl:=ZZ aP;clear bm aE br bv ac aP
    go_wp2_with fail
    refine(aJ.o _ (ah.o _)).mono ?_;rintro e W8 ⟨rfl,am⟩;have ab:=ZZ ((J.o.below (ah.o _) zL).below am zL);have Z:=ZZ ((bq.o _).below am zL);have ay:=ZZ ((ah.o _).trans (am.mono (ah.o _).size));have a3:=ZZ (aK.o.trans (ay.o.mono aK.o.size));have bI:=ZZ (bt.o.below ay.o zL);have bJ:=ZZ (bf.o.below ay.o zL);obtain⟨x,y0⟩:=ab.o.cell 0;obtain⟨p,y1⟩:=ab.o.cell 1;obtain⟨z,y2⟩:=ab.o.cell 2;obtain⟨u,y3⟩:=ab.o.cell 3;obtain⟨y,y4⟩:=ab.o.cell 4;obtain⟨A,y5⟩:=ab.o.cell 5;clear am aJ m0 s0 s1 s2 s3 J ah bq ay
    cases my with
    | false=>
     have aT:Hid (j=(Zbl,1)):=ZZ (by rw[O.o,if_neg (of_decide_eq_false bl.o.symm)])
     go_wp2;refine bodyPost_ret (v:=.tuple #[.agg #[.int .i64 0,.int .i64 0,.slice none 0 0,.bool false,.int .i64 0,.slice none 0 0],.int .i64 1]) (by simp[results,Tryz.results76,go_sem,x,p,z,u,y,A]) rfl ?_
     exact ao.o _ _ a3.o aT.o
    | true=>
     have aT:Hid (j=(⟨((f:Nat):Int),S,t⟩,0)):=ZZ (by rw[O.o,if_pos (of_decide_eq_true bl.o.symm)])
     obtain⟨q0,-⟩:=Z.o.cell 0;obtain⟨q1,-⟩:=Z.o.cell 1;obtain⟨q2,-⟩:=Z.o.cell 2;obtain⟨q3,-⟩:=Z.o.cell 3;obtain⟨q4,-⟩:=Z.o.cell 4;obtain⟨q5,-⟩:=Z.o.cell 5;go_wp2;refine bodyPost_ret (v:=.tuple #[.agg #[.int .i64 (f:Int),.int .i64 S.kind,.slice la S.L.length lc,.bool S.shut,.int .i64 S.eng,.slice ta t.length tc],.int .i64 0]) (by simp[results,Tryz.results76,go_sem,x,p,z,u,y,A]) rfl ?_
     rw[aT.o];have ba:=Ztp W8 w.heap.size (.int .i64 (f:Int)) (.int .i64 S.kind) (.slice la S.L.length lc) (.bool S.shut) (.int .i64 S.eng) (.slice ta t.length tc);exact⟨_,_,rfl,bI.o.but ba (.inr fun k C=>by have:=aB.o.1 k C;omega),aw.o.1,aw.o.2,bJ.o.but ba (.inr fun k C=>by have:=aB.o.2 k C;omega),aH.o,(fun k C=>Nat.le_of_lt (aB.o.1 k C)),(fun k C=>Nat.le_of_lt (aB.o.2 k C)),ZhM a3.o _ zL _ _ _ _ _ _⟩
def Zdl (m:List UInt8):Rec × Int × List UInt8 × Bool:=
 let m1:=behind (Zab m).2 m
 let m2:=behind (Zah m1).2 m1
 let m3:=behind (ZaC m2).2 m2
 (⟨0,(Zab m).1,0,(ZaC m2).1,zag (Zah m3).1⟩,zag (Zah m1).1,behind (Zah m3).2 m3,decide ((Zah m3).2≠0))
theorem Zic (m:List UInt8):∃ c b a,c=behind (Zab m).2 m∧b=behind (Zah c).2 c∧a=behind (ZaC b).2 b∧Zdl m=(⟨0,(Zab m).1,0,(ZaC b).1,zag (Zah a).1⟩,zag (Zah c).1,behind (Zah a).2 a,decide ((Zah a).2≠0)):=
 ⟨_,_,_,rfl,rfl,rfl,rfl⟩
theorem Zqz:(ZaC []).2=0:=by
 have:=Zta [];simpa using this
theorem ZfC {d:Nat} {l:List UInt8} (h:behind d l≠[]):d≠0:=fun e=>h (by rw[e];rfl)
theorem Znu {l:List UInt8} (h:(Zah l).2≠0):l≠[]:=fun e=>h (by rw[e,Zem])
theorem Zvy {l:List UInt8} (h:(Zab l).2≠0):l≠[]:=fun e=>h (by rw[e,Zgh])
theorem Zvz {l:List UInt8} (h:(ZaC l).2≠0):l≠[]:=fun e=>h (by rw[e];exact Zqz)
theorem ZlL {l:List UInt8} (h:(Zab l).2≠0):l=Lib.uvarint (Zab l).1++behind (Zab l).2 l:=by
 rw[Zbh h,ZbD h,List.take_append_drop]
theorem ZqA {l:List UInt8} (h:(Zah l).2≠0):l=Lib.uvarint (Zah l).1++behind (Zah l).2 l:=by
 rw[Zbh h,ZmN h,List.take_append_drop]
theorem ZxS {l:List UInt8} (h:(ZaC l).2≠0):l=ZaX (ZaC l).1++behind (ZaC l).2 l:=by
 rw[Zbh h,(Zkq h).2,List.take_append_drop]
theorem ZxT {m:List UInt8} (h:(Zdl m).2.2.2=false):(Zdl m).2.2.1=[]:=by
 unfold Zdl at h ⊢;simp only [decide_eq_false_iff_not,Decidable.not_not] at h ⊢;rw[h];rfl
theorem take_nil:(Zdl []).2.2.2=false:=by
 obtain⟨h,a,i,g,b,d,e⟩:=Zic [];have c:h=[]:=by rw[g,Zgh];rfl
 have j:a=[]:=by rw[b,c,Zem];rfl
 have f:i=[]:=by rw[d,j,Zqz];rfl
 rw[e,f];show decide ((Zah []).2≠0)=false;rw[Zem];rfl
theorem ZvA {m:List UInt8} (h:(Zdl m).2.2.2=true):
 m=Lib.uvarint (Zdl m).1.proc.toNat++(Lib.uvarint (Lib.zigzag (Zdl m).2.1)++(ZaX (Zdl m).1.op++(Lib.uvarint (Lib.zigzag (Zdl m).1.resp)++(Zdl m).2.2.1))):=by
 obtain⟨b,a,c,j,d,f,q⟩:=Zic m;rw[q] at h ⊢;simp only [decide_eq_true_eq] at h;have g:(ZaC a).2≠0:=ZfC (l:=a) (by rw[<-f];exact Znu h)
 have n:(Zah b).2≠0:=ZfC (l:=b) (by rw[<-d];exact Zvz g)
 have p:(Zab m).2≠0:=ZfC (l:=m) (by rw[<-j];exact Znu n)
 have t:=ZqA h;have i:=ZxS g;have k:=ZqA n;have e:=ZlL p;rw[<-j] at e;rw[<-d] at k;rw[<-f] at i;show m=Lib.uvarint ((Zab m).1:Int).toNat++(Lib.uvarint (Lib.zigzag (zag (Zah b).1))++(ZaX (ZaC a).1++(Lib.uvarint (Lib.zigzag (zag (Zah c).1))++behind (Zah c).2 c)));rw[Int.toNat_natCast,ZeT,ZeT];exact e.trans (congrArg (Lib.uvarint (Zab m).1++·) (k.trans (congrArg (Lib.uvarint (Zah b).1++·) (i.trans (congrArg (ZaX (ZaC a).1++·) t)))))
theorem ZxU (m:List UInt8):I64 (Zdl m).1.proc∧I64 (Zdl m).2.1∧ZAx (Zdl m).1.op∧I64 (Zdl m).1.resp∧(Zdl m).1.idx=0∧(Zdl m).1.seq=0∧0<=(Zdl m).1.proc:=by
 have d:∀ l:List UInt8,I64 (zag (Zah l).1):=fun l=>Zrd (ZnI l)
 have v:(Zab m).1<4611686018427387904:=by
  rcases Zay m with e | e
  ·rw[e];decide
  ·exact e.1
 have g:∀ l:List UInt8,ZAx (ZaC l).1:=fun l=>by
  by_cases h:(ZaC l).2=0
  ·rw[ZtW h]
   exact⟨⟨by decide,by decide⟩,⟨by decide,by decide⟩,⟨by decide,by decide⟩⟩
  ·have a:=(Zkq h).1
   have b:=ZdK a;obtain⟨x,t,_⟩:=a;refine⟨?_,b.1,b.2⟩;generalize (ZaC l).1.code=c at *;exact⟨by omega,by omega⟩
 obtain⟨j,k,i,q,w,u,p⟩:=Zic m;have n:I64 ((Zab m).1:Int):=⟨by omega,by omega⟩
 have f:(0:Int)<=((Zab m).1:Int):=by omega
 rw[p];exact⟨n,d j,g k,d i,rfl,rfl,f⟩
theorem ZBd (m:List UInt8):(Zdl m).2.2.1.length<=m.length:=by
 obtain⟨e,a,f,k,g,i,j⟩:=Zic m;rw[j];have c:=ZbT (Zab m).2 m;have b:=ZbT (Zah e).2 e;have d:=ZbT (ZaC a).2 a;have h:=ZbT (Zah f).2 f;rw[<-k] at c;rw[<-g] at b;rw[<-i] at d;exact Nat.le_trans h (Nat.le_trans d (Nat.le_trans b c))
theorem ZzQ {a:List Rec} (j:∀ r ∈ a,ZaA r) {r:Rec} (d:ZaA r) (t:List UInt8):
 Zdl (ZbJ a r++t)=(⟨0,r.proc,0,r.op,r.resp⟩,r.seq-Zav a r.proc,t,true):=by
 have c:=ZhC j d;have b:=ZdY d;obtain⟨f,_,_,p,q,m,n,_⟩:=id d
 have E:ZbJ a r++t=Lib.uvarint r.proc.toNat++(Lib.uvarint (Lib.zigzag (r.seq-Zav a r.proc))++(ZaX r.op++(Lib.uvarint (Lib.zigzag r.resp)++t))):=by
  unfold ZbJ;simp only [append_assoc]
 rw[E]
 have k:(ZaX r.op).length≠0:=by
  unfold ZaX;have:=Zhz r.op.code.toNat;rw[length_append];omega
 have h:=ZaT r.proc.toNat (Lib.uvarint (Lib.zigzag (r.seq-Zav a r.proc))++(ZaX r.op++(Lib.uvarint (Lib.zigzag r.resp)++t))) (by omega)
 have e:=ZbN (Lib.zigzag (r.seq-Zav a r.proc)) (ZaX r.op++(Lib.uvarint (Lib.zigzag r.resp)++t)) (ZeV c);have g:=Zpa r.op f (Lib.uvarint (Lib.zigzag r.resp)++t);have i:=ZbN (Lib.zigzag r.resp) t (ZeV b);unfold Zdl;simp only [h,Zbh (Zhz _),List.drop_left,e,g,Zbh k,i,ZdU _ c.1 c.2,ZdU _ b.1 b.2];have l:((r.proc.toNat:Nat):Int)=r.proc:=by omega
 rw[l,decide_eq_true (Zhz _)]
theorem ZfD {w:World} {ao:Option Addr} {cap:Nat} {l:List UInt8} (g:Rd w (.slice ao l.length cap) l) (d:Nat) (h:d<=l.length):
 ∃ a b,(∀ W,(Instr.sliceAt 53 (.slice ao l.length cap) (some (.int .i64 (d:Int))) none none).run prog W=.ok (.slice a (l.drop d).length b) W)∧Rd w (.slice a (l.drop d).length b) (l.drop d):=by
 obtain⟨j,k,e,i,r⟩:=id g;simp only [Value.slice.injEq] at e;obtain⟨rfl,_,rfl⟩:=e;have c:=g.mid d l.length cap h zL i zL;rw[List.take_of_length_le (by simp)] at c
 obtain⟨a,b,f,-⟩:=id c;rw[f] at c;refine⟨a,b,fun W=>?_,c⟩
 rw[run_sliceAt_slice W 53 _ _ _ _ ZaF,run_slice_l W 53 ao l.length cap ZaF .i64 (d:Int) (by omega) (by omega),ZbU,Zfs]
 show Result.ok (sliced ao ((d:Int)).toNat l.length cap 1) W=_;rw[Int.toNat_natCast,f]
def Zmj (w:World) (g:Nat) (L:List Rec):Prop:=w.heap[g]?=some (.cells (Zan L).toArray 62 (0,0))
theorem Zmj.lt {w:World} {g:Nat} {L:List Rec} (h:Zmj w g L):g<w.heap.size:=(Array.getElem?_eq_some_iff.1 h).1
theorem Zmj.below {w w':World} {g B:Nat} {L:List Rec} (h:Zmj w g L) (a:Below B w w') (b:w.heap.size<=B):Zmj w' g L:=(a.block g (by have:=h.lt;omega)).trans h
theorem Zmj.cell {w:World} {g:Nat} {L:List Rec} (h:Zmj w g L) (i:Nat):w.cell? ⟨g,i,none⟩=(Zan L)[i]?∧w.frozen? ⟨g,i,none⟩=false:=
 ⟨(cell_of_row w g i _ _ _ h).trans (by simp),frozen_of_row w g i _ _ h⟩
theorem Zmj.at {w:World} {g:Nat} {L:List Rec} (h:Zmj w g L) {k:Nat} (c:k<L.length):Zmq w g (k*7) (L.getD k Zaj):=by
 have a:∀ j u,j<7->(Zeo (L.getD k Zaj))[j]?=some u->w.cell? ⟨g,k*7+j,none⟩=some u:=fun j u d b=>(h.cell _).1.trans ((ZeA L k j c d).trans b)
 exact⟨a 0 _ (by decide) rfl,a 1 _ (by decide) rfl,a 2 _ (by decide) rfl,a 3 _ (by decide) rfl,a 4 _ (by decide) rfl,a 5 _ (by decide) rfl,a 6 _ (by decide) rfl⟩
theorem Zjt:∀ (L:List Rec) (k j:Nat) (v:Value) (r:Rec),k<L.length->j<7->(Zeo r).toList=(Zeo (L.getD k Zaj)).toList.set j v->(Zan L).set (k*7+j) v=Zan (L.set k r)
 | s::t,0,j,v,r,_,hj,h=>by
  have e:((s::t).getD 0 Zaj)=s:=rfl;rw[e] at h;rw[Zan,Nat.zero_mul,Nat.zero_add,List.set_append_left _ _ (by simp[Zeo];omega),<-h]
  rfl
 | s::t,k+1,j,v,r,hk,hj,h=>by
  have e:(k+1)*7+j=(Zeo s).toList.length+(k*7+j):=by simp[Zeo];omega
  have a:((s::t).getD (k+1) Zaj)=t.getD k Zaj:=by simp[List.getD]
  rw[a] at h;rw[Zan,e,List.set_append_right _ _ (by omega),Nat.add_sub_cancel_left,Zjt t k j v r (by simpa using hk) hj h]
  rfl
theorem Zmj.set {w:World} {g:Nat} {L:List Rec} (h:Zmj w g L) {k:Nat} (a:k<L.length) (j:Nat) (c:j<7) (v:Value) (r:Rec) (b:(Zeo r).toList=(Zeo (L.getD k Zaj)).toList.set j v):
 Zmj (w.setCell ⟨g,k*7+j,none⟩ v) g (L.set k r):=by
 have:=heap_setCell_same w g (k*7+j) _ _ v h;unfold Zmj;rw[<-Zjt L k j v r a c b];simpa using this
theorem Zdq {L:List Rec} {k:Nat} (a:k<L.length) (r:Rec):(L.set k r).getD k Zaj=r:=by simp[List.getD,a]
theorem Zmj.seven {w:World} {g:Nat} {L:List Rec} (h:Zmj w g L) {k:Nat} (d:k<L.length) (i p s c a b y:Int):
 Zmj (((((((w.setCell ⟨g,k*7,none⟩ (.int .i64 i)).setCell ⟨g,k*7+1,none⟩ (.int .i64 p)).setCell ⟨g,k*7+2,none⟩ (.int .i64 s)).setCell ⟨g,k*7+3,none⟩ (.int .i64 c)).setCell ⟨g,k*7+4,none⟩ (.int .i64 a)).setCell ⟨g,k*7+5,none⟩ (.int .i64 b)).setCell ⟨g,k*7+6,none⟩ (.int .i64 y)) g (L.set k ⟨i,p,s,⟨c,a,b⟩,y⟩):=by
 have f:∀ r,k<(L.set k r).length:=fun r=>by simpa using d
 generalize C:L.getD k Zaj=R;obtain⟨D,A,u,⟨m,l,j⟩,e⟩:=R;have B:=h.set d 0 (by decide) (.int .i64 i) ⟨i,A,u,⟨m,l,j⟩,e⟩ (by rw[C];rfl)
 have n:=B.set (f _) 1 (by decide) (.int .i64 p) ⟨i,p,u,⟨m,l,j⟩,e⟩ (by rw[Zdq d];rfl)
 rw[List.set_set] at n;have x:=n.set (f _) 2 (by decide) (.int .i64 s) ⟨i,p,s,⟨m,l,j⟩,e⟩ (by rw[Zdq d];rfl)
 rw[List.set_set] at x;have q:=x.set (f _) 3 (by decide) (.int .i64 c) ⟨i,p,s,⟨c,l,j⟩,e⟩ (by rw[Zdq d];rfl)
 rw[List.set_set] at q;have z:=q.set (f _) 4 (by decide) (.int .i64 a) ⟨i,p,s,⟨c,a,j⟩,e⟩ (by rw[Zdq d];rfl)
 rw[List.set_set] at z;have v:=z.set (f _) 5 (by decide) (.int .i64 b) ⟨i,p,s,⟨c,a,b⟩,e⟩ (by rw[Zdq d];rfl)
 rw[List.set_set] at v;have t:=v.set (f _) 6 (by decide) (.int .i64 y) ⟨i,p,s,⟨c,a,b⟩,y⟩ (by rw[Zdq d];rfl)
 rw[List.set_set] at t;exact t
theorem Zmj.rd {w:World} {g:Nat} {L:List Rec} (h:Zmj w g L) (a:∀ r ∈ L,Zga r) (c:L.length<=maxLen):RdR w (.slice (some ⟨g,0,none⟩) L.length L.length) L:=
 ⟨_,_,rfl,Nat.le_refl _,c,(fun e=>by cases e),a,.inr ⟨g,0,rfl,fun j b=>by rw[Nat.zero_add];exact h.at b⟩⟩
theorem Zid:∀ n:Nat,Zan (List.replicate n Zaj)=List.replicate (n*7) (Value.int .i64 0)
 | 0=>rfl
 | n+1=>by
  have e:(n+1)*7=7+n*7:=by omega
  rw[List.replicate_succ,Zan,Zid n,e,<-List.replicate_append_replicate];rfl
theorem ZoJ (w:World) (n:Nat) (l:n<=1000000):(Instr.makeSlice 29 (.int .i64 (n:Int)) (.int .i64 (n:Int))).run prog w=.ok (.slice (some ⟨w.heap.size,0,none⟩) n n) (w.alloc (.cells (Zan (List.replicate n Zaj)).toArray 62)):=by
 obtain⟨d,a,c,b,f⟩:=info_parts Zgs;have h:=run_make (P:=prog) w 29 62 d _ underlying29 a c .i64 .i64 (n:Int) (n:Int) (by omega) (Int.le_refl _) (by rw[f];omega) (by omega)
 rw[Int.toNat_natCast,b] at h;rw[h]
 congr 3
 apply Array.ext';rw[Zid];apply List.ext_getElem?;intro i;show(madeCells #[Value.int .i64 0,.int .i64 0,.int .i64 0,.int .i64 0,.int .i64 0,.int .i64 0,.int .i64 0] (n*7)).toList[i]?=_;by_cases a:i<n*7
 ·have k:i % 7<7:=Nat.mod_lt _ (by decide)
  have e:∀ j,j<7->(#[Value.int .i64 0,.int .i64 0,.int .i64 0,.int .i64 0,.int .i64 0,.int .i64 0,.int .i64 0]:Array Value)[j]! = .int .i64 0:=by
   intro j g
   match j,g with
   | 0,_ | 1,_ | 2,_ | 3,_ | 4,_ | 5,_ | 6,_=>rfl
  simp only [madeCells,Array.toList_map,Array.toList_range,List.getElem?_map,List.getElem?_range a,Option.map_some,List.getElem?_replicate,if_pos a];exact congrArg some (e (i % 7) k)
 ·simp[madeCells,a]
structure Zsv (b:List UInt8) (first count:Nat) (L:List Rec) (m:List UInt8) (t:Bool):Prop where
 chain:Zbb first L
 ok:∀ r ∈ L,Zga r
 sound:t=true->(∀ r ∈ L,ZaA r)->b=Lib.uvarint first++(Lib.uvarint count++(Zbs [] L++m))
 none:t=false->m=[]
 whole:∀ l',ZbE l'->ZdF l'=b->l'.length=count∧L=l'.take L.length∧m=Zbs (l'.take L.length) (l'.drop L.length)∧t=true∧(l'.headD Zaj).idx=first
def Zgj (first:Nat) (L:List Rec) (r:Rec) (d:Int):Rec:=⟨(first:Int)+L.length,r.proc,IntKind.i64.wrap (Zav L r.proc+d),r.op,r.resp⟩
theorem ZlM (n:Int):I64 (IntKind.i64.wrap n):=by
 unfold I64;rw[IntKind.wrap_i64];omega
theorem ZxV {a d:Int} (h:0<=a) (i:a<4611686018427387904) (b:I64 d) (c:0<=IntKind.i64.wrap (a+d)) (g:IntKind.i64.wrap (a+d)<4611686018427387904):IntKind.i64.wrap (a+d)-a=d:=by
 obtain⟨f,e⟩:=b;rw[IntKind.wrap_i64] at *;omega
theorem Zsv.step {b:List UInt8} {first g:Nat} {L:List Rec} {m:List UInt8} {t:Bool} (h:Zsv b first g L m t) (hf:first<4611686018427387904) (ad:L.length<g) (hc:g<=256)
 {R:Rec} {d:Int} {m':List UInt8} {k:Bool} (l:Zdl m=(R,d,m',k)):
 Zsv b first g (L++[Zgj first L R d]) m' k:=by
 have w:=ZxU m;have q:=@ZxT m;have v:=@ZvA m
 have T:m=[]->k=false:=fun e=>by
  have:=take_nil;rw[<-e,l] at this;exact this
 rw[l] at w q v;obtain⟨Z,W,G,K,-,-,ac⟩:=w;refine⟨?_,?_,?_,q,?_⟩
 ·exact(ZiQ L first (Zgj first L R d)).2 ⟨h.chain,rfl⟩
 ·intro r hr
  rcases List.mem_append.1 hr with hr | hr
  ·exact h.ok r hr
  ·simp only [List.mem_singleton] at hr
   rw[hr];have i:I64 ((first:Int)+L.length):=⟨by omega,by omega⟩
   exact⟨i,Z,ZlM _,G,K⟩
 ·intro c u
  have n:m≠[]:=fun e=>by
   rw[T e] at c
   cases c
  have H:t=true:=by
   cases t with
   | true=>rfl
   | false=>exact absurd (h.none rfl) n
  have y:∀ r ∈ L,ZaA r:=fun r hr=>u r (by simp[hr])
  have U:ZaA (Zgj first L R d):=u _ (by simp)
  have S:=h.sound H y;have V:=v c;obtain⟨J,N⟩:=ZmR R.proc y;obtain⟨_,_,_,X,C,_⟩:=U;have I:(Zgj first L R d).seq-Zav L (Zgj first L R d).proc=d:=ZxV J N W X C
  have he:Zbs [] (L++[Zgj first L R d])=Zbs [] L++ZbJ L (Zgj first L R d):=by
   rw[ZkD];simp[Zbs]
  have E:ZbJ L (Zgj first L R d)++m'=m:=by
   unfold ZbJ;rw[I];refine Eq.trans ?_ V.symm;simp only [append_assoc];rfl
  rw[he,append_assoc,E];exact S
 ·intro a j aa
  obtain⟨w1,p,D,w4,x⟩:=h.whole a j aa;have f:L.length<a.length:=by omega
  have z:ZaA (a.getD L.length Zaj):=j.2.2.1 _ (by simp[List.getD,f])
  have B:∀ r ∈ L,ZaA r:=fun r hr=>by
   rw[p] at hr;exact j.2.2.1 r (mem_of_mem_take hr)
  have M:a.drop L.length=a.getD L.length Zaj::a.drop (L.length+1):=by
   rw[List.drop_eq_getElem_cons f];simp[List.getD,f]
  have n:m=ZbJ L (a.getD L.length Zaj)++Zbs (L++[a.getD L.length Zaj]) (a.drop (L.length+1)):=by
   rw[D,M,Zbs,<-p]
  have c:=ZzQ B z (Zbs (L++[a.getD L.length Zaj]) (a.drop (L.length+1)));rw[<-n,l] at c;have i:=Zqk a _ _ j.2.2.2 f;rw[x] at i;have F:(L++[Zgj first L R d]).length=L.length+1:=by simp
  rw[F,ZiP f];rw[<-p];generalize a.getD L.length Zaj=r at *;simp only [Prod.mk.injEq] at c;obtain⟨O,P,ab,Q⟩:=c
  have A:Zgj first L R d=r:=by
   obtain⟨_,_,_,q0,q1,_⟩:=z;unfold Zgj;rw[O,P];have Y:Zav L r.proc+(r.seq-Zav L r.proc)=r.seq:=by omega
   show(⟨_,r.proc,IntKind.i64.wrap (Zav L r.proc+(r.seq-Zav L r.proc)),r.op,r.resp⟩:Rec)=_;rw[Y,Zri ⟨by omega,by omega⟩,<-i]
  rw[A];exact⟨w1,rfl,ab,Q,x⟩
theorem Zsv.done {b:List UInt8} {first:Nat} {L:List Rec} {m:List UInt8} {t:Bool} (h:Zsv b first L.length L m t):
 (t=true∧m=[]∧ZbE L->ZdF L=b)∧(¬ (t=true∧m=[]∧ZbE L)->∀ a,ZbE a->ZdF a≠b):=by
 constructor
 ·rintro⟨w,p,d⟩
  have f:=h.sound w d.2.2.1;rw[p,List.append_nil] at f;rw[f];unfold ZdF;have c:=h.chain;have l:=d.1
  match L,l,c with
  | r::u,_,c=>
   have e:r.idx=(first:Int):=c.1;show Lib.uvarint r.idx.toNat++_=_;rw[e,Int.toNat_natCast]
 ·intro q a i v
  obtain⟨j,g,k,n,x⟩:=h.whole a i v;rw[<-j,take_length] at g;refine q ⟨n,?_,by rw[g];exact i⟩
  rw[k,<-j,List.drop_length];rfl
theorem Zhh (x:Int) (d:Nat) (v:Value) (m:List UInt8) (w:World) (f:Rd w v m) (l:d<=m.length)
 (b:Calls prog 168 #[v] w fun e w'=>e=.returned (.tuple #[.int .i64 x,.int .i64 (d:Nat)])∧w'=w):
 Calls prog 167 #[v,.func (.func 168) #[] #[]] w fun e w'=>∃ v',e=.returned (.tuple #[.int .i64 x,v',.bool (decide (d≠0))])∧Rd w' v' (behind d m)∧Below w.heap.size w w':=by
 have g:=ZZ b;have j:=ZZ f;obtain⟨ao,cap,rfl,-⟩:=f;by_cases a:d=0
 ·subst a
  clear b
  go_enter func167,ntmps167
  go_wp2_with fail
  refine g.o.mono ?_;rintro e w' ⟨rfl,rfl⟩;go_wp2;refine bodyPost_ret (v:=.tuple #[.int .i64 x,.slice none 0 0,.bool false]) (by simp[results,Tryz.results167,go_sem]) rfl ?_
  exact⟨_,rfl,Rd.nil _,Below.refl _ _⟩
 ·have t:((d:Int) == 0)=false:=beq_eq_false_iff_ne.2 (by omega)
  have n:Hid (behind d m=m.drop d):=if_neg a;have h:Hid (decide (d≠0)=true):=decide_eq_true a;obtain⟨i,k,hcut,c⟩:=ZfD j.o d l;have p:=ZZ c;clear b a c;generalize m.drop d=M at *
  go_enter func167,ntmps167
  go_wp2_with fail
  refine g.o.mono ?_;rintro e w' ⟨rfl,rfl⟩;go_wp2;refine wp_region_quiet_lit (by kernel_rfl) (by kernel_rfl) ?_
  repeat (go_big_quiet_step (fail))
  refine wpQuiet_nil ?_;rintro _ ⟨q,rfl⟩;go_wp2;refine bodyPost_ret (v:=.tuple #[.int .i64 x,.slice i M.length k,.bool true]) (by simp[results,Tryz.results167,go_sem]) rfl ?_
  refine⟨_,by rw[h.o],?_,ZaI (Below.refl _ _) _⟩
  rw[n.o];exact p.o.below (ZaI (Below.refl _ _) _) zL
theorem ZgK (x:Int) (d:Nat) (v:Value) (m:List UInt8) (w:World) (f:Rd w v m) (l:d<=m.length)
 (b:Calls prog 201 #[v] w fun e w'=>e=.returned (.tuple #[.int .i64 x,.int .i64 (d:Nat)])∧w'=w):
 Calls prog 167 #[v,.func (.func 201) #[] #[]] w fun e w'=>∃ v',e=.returned (.tuple #[.int .i64 x,v',.bool (decide (d≠0))])∧Rd w' v' (behind d m)∧Below w.heap.size w w':=by
 have g:=ZZ b;have j:=ZZ f;obtain⟨ao,cap,rfl,-⟩:=f;by_cases a:d=0
 ·subst a
  clear b
  go_enter func167,ntmps167
  go_wp2_with fail
  refine g.o.mono ?_;rintro e w' ⟨rfl,rfl⟩;go_wp2;refine bodyPost_ret (v:=.tuple #[.int .i64 x,.slice none 0 0,.bool false]) (by simp[results,Tryz.results167,go_sem]) rfl ?_
  exact⟨_,rfl,Rd.nil _,Below.refl _ _⟩
 ·have t:((d:Int) == 0)=false:=beq_eq_false_iff_ne.2 (by omega)
  have n:Hid (behind d m=m.drop d):=if_neg a;have h:Hid (decide (d≠0)=true):=decide_eq_true a;obtain⟨i,k,hcut,c⟩:=ZfD j.o d l;have p:=ZZ c;clear b a c;generalize m.drop d=M at *
  go_enter func167,ntmps167
  go_wp2_with fail
  refine g.o.mono ?_;rintro e w' ⟨rfl,rfl⟩;go_wp2;refine wp_region_quiet_lit (by kernel_rfl) (by kernel_rfl) ?_
  repeat (go_big_quiet_step (fail))
  refine wpQuiet_nil ?_;rintro _ ⟨q,rfl⟩;go_wp2;refine bodyPost_ret (v:=.tuple #[.int .i64 x,.slice i M.length k,.bool true]) (by simp[results,Tryz.results167,go_sem]) rfl ?_
  refine⟨_,by rw[h.o],?_,ZaI (Below.refl _ _) _⟩
  rw[n.o];exact p.o.below (ZaI (Below.refl _ _) _) zL
theorem Bo.set {w:World} {b:Nat} {cs:Array Value} (h:Bo w b cs) (j:Nat) (x:Value):Bo (w.setCell ⟨b,j,none⟩ x) b (cs.setIfInBounds j x):=by
 have:=heap_setCell_same w b j _ _ x h;unfold Bo;simpa using this
theorem Bo.three {w:World} {b:Nat} {d e a:Value} (h:Bo w b #[d,e,a]) (x y z:Value):Bo (((w.setCell ⟨b,0,none⟩ x).setCell ⟨b,1,none⟩ y).setCell ⟨b,2,none⟩ z) b #[x,y,z]:=by
 have c:=((h.set 0 x).set 1 y).set 2 z;exact c
theorem ZvB (v:Value) (m:List UInt8) (w:World) (D:Rd w v m) (T:m.length<=1000000):
 Calls prog 208 #[v,.func (.func 209) #[] #[]] w fun e w'=>∃ v',e=.returned (.tuple #[opV (ZaC m).1,v',.bool (decide ((ZaC m).2≠0))])∧Rd w' v' (behind (ZaC m).2 m)∧Below w.heap.size w w':=by
 have A:=ZZ (fun W h=>ZxQ v m W h T)
 unfold ZwY at A;have x:=ZZ D;have R:=Zta m;obtain⟨ao,cap,rfl,-⟩:=D;have l:Hid (∀ X,Below w.heap.size w (w.alloc X)):=fun X=>(Below.refl _ _).alloc zL X
 generalize (ZaC m).2=d at *;generalize (ZaC m).1=o at *;have B:Hid (∀ cs,Bo (w.alloc (.cells cs 52)) w.heap.size cs):=fun cs=>heap_alloc_new w _
 unfold opV at *;obtain⟨f,a,b⟩:=o
 dsimp only at *
 by_cases n:d=0
 ·subst n
  go_enter func208,ntmps208
  go_wp2_with fail
  refine(A.o _ (x.o.below (l.o _) zL)).mono ?_;rintro e g ⟨rfl,j⟩;have c:Bo g w.heap.size _:=(B.o _).below j zL;obtain⟨G,H⟩:=c.cell 0;obtain⟨N,J⟩:=c.cell 1;obtain⟨O,Q⟩:=c.cell 2;have y:=ZZ ((l.o _).trans (j.mono (l.o _).size));have I:=c.lt;have E:g.heap.size≠w.heap.size:=by omega
  have L:w.heap.size≠g.heap.size:=by omega
  have q:=ZZ c;clear j c;go_wp2;have i:Bo ((((g.setCell ⟨w.heap.size,0,none⟩ (.int .i64 f)).setCell ⟨w.heap.size,1,none⟩ (.int .i64 a)).setCell ⟨w.heap.size,2,none⟩ (.int .i64 b)).alloc (.cells #[.int .i64 f,.int .i64 a,.int .i64 b] 52)) w.heap.size #[.int .i64 f,.int .i64 a,.int .i64 b]:=(q.o.three _ _ _).below ((Below.refl _ _).alloc zL _) zL;have u:=(i.cell 0).1;have t:=(i.cell 1).1;have z:=(i.cell 2).1;have k:=ZZ (((y.o.setCell (p:=⟨w.heap.size,0,none⟩) zL (.int .i64 f)).setCell (p:=⟨w.heap.size,1,none⟩) zL (.int .i64 a)).setCell (p:=⟨w.heap.size,2,none⟩) zL (.int .i64 b));clear i;refine bodyPost_ret (v:=.tuple #[.agg #[.int .i64 f,.int .i64 a,.int .i64 b],.slice none 0 0,.bool false]) (by simp[results,Tryz.results208,go_sem,u,t,z]) rfl ?_
  exact⟨_,rfl,Rd.nil _,k.o.alloc k.o.size _⟩
 ·have V:((d:Int) == 0)=false:=beq_eq_false_iff_ne.2 (by omega)
  have S:Hid (behind d m=m.drop d):=if_neg n;have F:Hid (decide (d≠0)=true):=decide_eq_true n;obtain⟨K,P,hcut,C⟩:=ZfD x.o d R;have U:=ZZ C;clear n C;generalize m.drop d=M at *
  go_enter func208,ntmps208
  go_wp2_with fail
  refine(A.o _ (x.o.below (l.o _) zL)).mono ?_;rintro e g ⟨rfl,j⟩;have c:Bo g w.heap.size _:=(B.o _).below j zL;obtain⟨G,H⟩:=c.cell 0;obtain⟨N,J⟩:=c.cell 1;obtain⟨O,Q⟩:=c.cell 2;have y:=ZZ ((l.o _).trans (j.mono (l.o _).size));have I:=c.lt;have E:g.heap.size≠w.heap.size:=by omega
  have L:w.heap.size≠g.heap.size:=by omega
  have q:=ZZ c;clear j c;go_wp2
  go_region
  all_goals
   go_wp2;have i:Bo ((((g.setCell ⟨w.heap.size,0,none⟩ (.int .i64 f)).setCell ⟨w.heap.size,1,none⟩ (.int .i64 a)).setCell ⟨w.heap.size,2,none⟩ (.int .i64 b)).alloc (.cells #[.int .i64 f,.int .i64 a,.int .i64 b] 52)).drew w.heap.size #[.int .i64 f,.int .i64 a,.int .i64 b]:=(q.o.three _ _ _).below (((Below.refl _ _).alloc zL _).drew) zL;have u:=(i.cell 0).1;have t:=(i.cell 1).1;have z:=(i.cell 2).1;have k:=ZZ (((y.o.setCell (p:=⟨w.heap.size,0,none⟩) zL (.int .i64 f)).setCell (p:=⟨w.heap.size,1,none⟩) zL (.int .i64 a)).setCell (p:=⟨w.heap.size,2,none⟩) zL (.int .i64 b));clear i;refine bodyPost_ret (v:=.tuple #[.agg #[.int .i64 f,.int .i64 a,.int .i64 b],.slice K M.length P,.bool true]) (by simp[results,Tryz.results208,go_sem,u,t,z]) rfl ?_
   refine⟨_,by rw[F.o],?_,(k.o.alloc k.o.size _).drew⟩
   rw[S.o];exact U.o.below (k.o.alloc k.o.size _).drew zL
end Go.Proofs.YtnahjngbneicaaaGreatDoor
