import Derived.Test.YtnahjngbneicaaaGreatDoorPack12
namespace Go.Proofs.YtnahjngbneicaaaGreatDoor
open _root_.Go.Proofs.Tryz
open List (append_assoc drop_drop length_append length_cons length_drop mem_cons mem_of_mem_take take_length)
set_option maxHeartbeats 4000000
set_option maxRecDepth 100000
open Go.RowKit
variable {w w':World} {B C b first g k:Nat} {cs:Array Value} {l m:List UInt8} {L:List Rec} {t:Bool}
def Zvv (w:World) (b:List UInt8) (e:Ending) (w':World):Prop:=
 ∃ (vl vt:Value) (S:St) (t:List Ent) (ok:Bool),e=.returned (.tuple #[.agg #[.int .i64 S.kind,vl,.bool S.shut,.int .i64 S.eng],vt,.bool ok])∧RdI w' vl S.L∧I64 S.kind∧I64 S.eng∧RdE w' vt t∧(∀ k,vl.ownBlock=some k->w.heap.size<=k)∧(∀ k,vt.ownBlock=some k->w.heap.size<=k)∧
  (ok=false->(ZbS b).2=3)∧(ok=true->∃ er,ZbS b=(⟨0,S,t⟩,er)∧(er=0∨(er=1∧S=ZfQ)))∧Below w.heap.size w w'
theorem Zvv.none {b:List UInt8} (h:(ZbS b).2=3) (c:Below w.heap.size w w'):Zvv w b (.returned (.tuple #[.agg #[.int .i64 0,.slice none 0 0,.bool false,.int .i64 0],.slice none 0 0,.bool false])) w':=
 ⟨_,_,ZfQ,[],false,rfl,RdI.nil _,(Zai (by decide) (by decide):I64 0),(Zai (by decide) (by decide):I64 0),RdE.nil _,(fun k a=>by simp[Value.ownBlock] at a),(fun k a=>by simp[Value.ownBlock] at a),(fun _=>h),(fun h=>by cases h),c⟩
theorem ZzL (ao:Option Addr) (l:List UInt8) (cap:Nat) (g:l.length<=cap) (j:Nat) (f:j<=l.length):
 ∃ a b c,(∀ W,(Instr.sliceAt 53 (.slice ao l.length cap) none (some (.int .i64 (j:Int))) (some (.int .i64 (j:Int)))).run prog W=.ok (.slice a b c) W)∧∀ W,Rd W (.slice ao l.length cap) l->Rd W (.slice a b c) (l.take j):=by
 have d:∃ a b c,sliced ao 0 j j 1=.slice a b c:=by
  unfold sliced;exact⟨_,_,_,rfl⟩
 obtain⟨a,b,c,d⟩:=d;refine⟨a,b,c,fun W=>?_,fun W h=>?_⟩
 ·rw[run_sliceAt_slice W 53 _ _ _ _ ZaF,run_slice_hm W 53 ao l.length cap ZaF .i64 .i64 (j:Int) (j:Int) (by omega) (by omega) (by omega),ZbU,Zfs]
  simp only [Int.toNat_natCast];rw[<-d];rfl
 ·rw[<-d]
  have e:=h.mid 0 j j (Nat.zero_le _) f zL (by omega)
  rw[List.drop_zero,Nat.sub_zero] at e;exact e
def four (w:World) (R:Nat) (x0 x1 x2 x3:Value):World:=(((w.setCell ⟨R,0,none⟩ x0).setCell ⟨R,1,none⟩ x1).setCell ⟨R,2,none⟩ x2).setCell ⟨R,3,none⟩ x3
theorem Zgy {b:World} (h:Below C b w) (R:Nat) (a:C<=R) (d f e c:Value):Below C b ((((w.setCell ⟨R,0,none⟩ d).setCell ⟨R,1,none⟩ f).setCell ⟨R,2,none⟩ e).setCell ⟨R,3,none⟩ c):=
 (((h.setCell a _).setCell a _).setCell a _).setCell a _
theorem ZzM (w:World) (R:Nat) (b d c a:Value):But R R w ((((w.setCell ⟨R,0,none⟩ b).setCell ⟨R,1,none⟩ d).setCell ⟨R,2,none⟩ c).setCell ⟨R,3,none⟩ a):=
 ((((But.refl R R w).set _ _ (.inl rfl) _).set _ _ (.inl rfl) _).set _ _ (.inl rfl) _).set _ _ (.inl rfl) _
theorem ZoH (v:Value) (b:List UInt8) (w:World) (P:Rd w v b) (bb:b.length<=100000):
 Calls prog 117 #[v] w fun e w'=>Zvv w b e w':=by
 obtain⟨d,V⟩:∃ d,d=((w.alloc (.cells #[.int .i64 0,.slice none 0 0,.bool false,.int .i64 0] 38)).alloc (.cells #[.int .i64 0] 3)).alloc (.cells #[.pointer (some ⟨w.heap.size+1,0,none⟩)] 208):=⟨_,rfl⟩;have g:=ZlF w (.cells #[.int .i64 0,.slice none 0 0,.bool false,.int .i64 0] 38) (.cells #[.int .i64 0] 3) (.cells #[.pointer (some ⟨w.heap.size+1,0,none⟩)] 208);rw[<-V] at g;obtain⟨hA,hB,hC⟩:=g;have ah:Hid (Below w.heap.size w d):=ZZ (by rw[V];exact(((Below.refl _ _).alloc zL _).alloc (by simp) _).alloc (by simp;omega) _)
 have aw:Bx d w.heap.size #[.int .i64 0,.slice none 0 0,.bool false,.int .i64 0]:=hA
 have ak:=ZZ (Zdo (w.heap.size+1+1) [(w.heap.size+1,0)] v b d (P.below ah.o zL) (fun p I=>by
  rw[List.mem_singleton.1 I]
  exact⟨⟨⟨0,cell_of_row d (w.heap.size+1) 0 _ _ _ hB⟩,frozen_of_row d (w.heap.size+1) 0 _ _ hB⟩,by simp⟩) (by simp) hC 1 rfl)
 have aT:Hid (∀ n:Nat,(d.setCell ⟨w.heap.size+1,0,none⟩ (.int .i64 (n:Int))).cell? ⟨w.heap.size+1,0,none⟩=some (.int .i64 (n:Int))):=ZZ (fun n=>World.cell?_setCell_same _ _ _ (cell_of_row d (w.heap.size+1) 0 _ _ _ hB))
 have ar:Hid (∀ ns,Below w.heap.size w (Zca d ([(w.heap.size+1,0)].take (List.length ns)) ns)):=ZZ (fun ns=>Zel d _ ns _ w (fun p I=>by
  have:=mem_of_mem_take I;rw[List.mem_singleton.1 this]
  simp) ah.o)
 have aC:Hid (∀ ns,Bx (Zca d ([(w.heap.size+1,0)].take (List.length ns)) ns) w.heap.size #[.int .i64 0,.slice none 0 0,.bool false,.int .i64 0]):=ZZ (fun ns=>(Zek d _ ns _ (fun p I=>by
  have:=mem_of_mem_take I;rw[List.mem_singleton.1 this]
  simp)).trans aw)
 have af:=ZZ (fun ns l h=>ZlG (b:=b) (ns:=ns) (l:=l) h)
 have al:=ZZ (fun h=>ZlH (b:=b) h)
 have z:Hid (ZbS b=if(Zab b).2=0∨b.length<(Zab b).2+(Zab b).1 then(Zbl,3) else if(Zil ((b.drop (Zab b).2).take (Zab b).1)).2=3 then(Zbl,3) else match ZeY (b.drop ((Zab b).2+(Zab b).1)) with
  | none=>(Zbl,3)
  | some t=>(⟨0,(Zil ((b.drop (Zab b).2).take (Zab b).1)).1,t⟩,(Zil ((b.drop (Zab b).2).take (Zab b).1)).2)):=ZZ rfl
 have hd:=Zcj b
 have ba:(Zab b).1<4611686018427387904:=by
  rcases Zay b with h | h
  ·rw[h];decide
  ·exact h.1
 have aL:=ZZ (fun L l W h h2=>ZlJ L l W h h2)
 have aU:=ZZ (fun L l W h h2=>ZoF L l W h h2)
 have av:Hid ([(w.heap.size+1,0)].length=1):=ZZ rfl;rw[av.o] at ak;generalize Zcu 1 b=GL at *;have ax:=ZZ P;obtain⟨va,vc,hv⟩:∃ a c,v=.slice a b.length c:=by obtain⟨a,c,h,-⟩:=P;exact⟨a,c,h⟩
 subst hv;clear P hA hB hC aw av
 go_enter func117,ntmps117
 go_wp2_with fail
 rw[<-V];refine ak.o.mono ?_;rintro e B ⟨L,l,ns,rfl,aP,aK,am,aO,ay,G⟩;have D:Hid (Below w.heap.size w B):=ZZ ((ar.o ns).trans (G.below _));have y:Hid (Bx B w.heap.size #[.int .i64 0,.slice none 0 0,.bool false,.int .i64 0]):=ZZ ((aC.o ns).below (G.below (Zca d ([(w.heap.size+1,0)].take ns.length) ns).heap.size) zL);have a7:=ZZ aP;have R:=ZZ (aP B (ax.o.below D.o zL));obtain⟨a1,c1,aW⟩:∃ a c,L=.slice a l.length c:=by obtain⟨a,c,h,-⟩:=R.o;exact⟨a,c,h⟩
 subst aW;obtain⟨x,y0⟩:=y.o.cell 0;obtain⟨q,y1⟩:=y.o.cell 1;obtain⟨m,y2⟩:=y.o.cell 2;obtain⟨u,y3⟩:=y.o.cell 3;clear ak ar ah V aC
 cases GL with
 | none=>
  have J:Hid ((ZbS b).2=3):=ZZ (by rw[z.o,if_pos (.inl (al.o rfl))])
  clear aK am aO ay G z al af;go_wp2;refine bodyPost_ret (v:=.tuple #[.agg #[.int .i64 0,.slice none 0 0,.bool false,.int .i64 0],.slice none 0 0,.bool false]) (by simp[results,Tryz.results117,go_sem,x,q,m,u]) rfl ?_
  exact Zvv.none J.o (Zgy D.o _ zL _ _ _ _)
 | some gp=>
  have:=am gp rfl;subst this;obtain⟨g1,g2,g3⟩:=af.o _ _ rfl;subst g2;have aH:l.length=b.length-(Zab b).2:=by rw[g3,length_drop]
  have ae:B.cell? ⟨w.heap.size+1,0,none⟩=some (.int .i64 ((Zab b).1:Int)):=by
   rw[G.cell];exact aT.o _
  rw[<-drop_drop,<-g3] at z;generalize (Zab b).1=n at *;generalize (Zab b).2=k at *;clear aK am aO ay G al af g3 aT;by_cases a2:l.length<n
  ·have J:Hid ((ZbS b).2=3):=ZZ (by rw[z.o,if_pos (.inr (by omega))])
   have a6:(l.length:Int)<(n:Int):=by omega
   clear aH z;go_wp2;refine bodyPost_ret (v:=.tuple #[.agg #[.int .i64 0,.slice none 0 0,.bool false,.int .i64 0],.slice none 0 0,.bool false]) (by simp[results,Tryz.results117,go_sem,x,q,m,u]) rfl ?_
   exact Zvv.none J.o (Zgy D.o _ zL _ _ _ _)
  have a6:¬ (l.length:Int)<(n:Int):=by omega
  have ai:l.length<=c1:=by
   obtain⟨a',c',h,h2,-⟩:=R.o;simp only [Value.slice.injEq] at h;omega
  obtain⟨xa,xn,xc,be,aG⟩:=ZzL a1 l c1 ai n (by omega)
  obtain⟨ua,uc,bc,aQ⟩:=ZjY a1 l c1 ai n (by omega)
  have U:=ZZ (aL.o _ (l.take n) B (aG B R.o) (by rw[List.length_take];omega))
  have a8:=ZZ (fun W h=>aQ W (a7.o W h))
  have aZ:=ZZ (fun v2 W h=>aU.o v2 (l.drop n) W h (by rw[length_drop];omega))
  have aa:Hid (ZbS b=if(Zil (l.take n)).2=3 then(Zbl,3) else match ZeY (l.drop n) with
   | none=>(Zbl,3)
   | some t=>(⟨0,(Zil (l.take n)).1,t⟩,(Zil (l.take n)).2)):=ZZ (by rw[z.o,if_neg (by omega)])
  have aB:=ZZ (ZtX (l.take n));clear aG aQ z aL aU aH a2 ai hd g1;generalize Zil (l.take n)=DS at *;generalize ZeY (l.drop n)=TL at *;generalize l.drop n=l2 at *;obtain⟨⟨N,A,O,H⟩,Y⟩:=DS;unfold Zdp at U
  dsimp only at U aa aB
  go_wp2_with fail
  refine U.o.mono ?_;rintro e i ⟨vl,rfl,ao,au,aS,aE,ab⟩;obtain⟨F,lc,aX⟩:∃ a c,vl=.slice a A.length c:=by obtain⟨a,c,h,-⟩:=ao;exact⟨a,c,h⟩
  subst aX;have bf:=D.o.size;have an:=ZZ (D.o.trans (ab.mono D.o.size));have ag:=ZZ (y.o.below ab zL);have ad:i.cell? ⟨w.heap.size+1,0,none⟩=some (.int .i64 (n:Int)):=(ab.cell (p:=⟨w.heap.size+1,0,none⟩) (World.block_lt_of_cell? B ⟨w.heap.size+1,0,none⟩ ae)).trans ae;have aF:=ZZ ao;have az:=ZZ (And.intro au aS)
  have aI:Hid (∀ k,(Value.slice F A.length lc).ownBlock=some k->w.heap.size<k):=ZZ (fun k f=>by
   have E:=aE k f;have h2:=y.o.lt
   omega)
  clear ae ao au aS aE ab U x q m u y0 y1 y2 y3 y R;obtain⟨C,S⟩:∃ C,C=i.alloc (.cells #[.int .i64 N,.slice F A.length lc,.bool O,.int .i64 H] 38):=⟨_,rfl⟩;have K:Hid (Below i.heap.size i C):=ZZ (by rw[S];exact(Below.refl _ _).alloc zL _)
  have aq:Hid (Bx C i.heap.size #[.int .i64 N,.slice F A.length lc,.bool O,.int .i64 H]):=ZZ (by rw[S];exact heap_alloc_new i _)
  have Z:=ZZ (an.o.trans (K.o.mono an.o.size));have j:=ZZ (ag.o.below K.o zL);have a9:C.cell? ⟨w.heap.size+1,0,none⟩=some (.int .i64 (n:Int)):=(K.o.cell (p:=⟨w.heap.size+1,0,none⟩) (World.block_lt_of_cell? i ⟨w.heap.size+1,0,none⟩ ad)).trans ad;have aM:=ZZ (aF.o.below K.o zL)
  go_upto_region 6 with fail
  rw[<-S];obtain⟨QB,aR⟩:∃ QB,QB=i.heap.size:=⟨_,rfl⟩;have bd:w.heap.size<QB:=by have:=ag.o.lt;omega
  rw[<-aR] at aq ⊢;clear S ad aR aF ag an K;by_cases g:Y=3
  ·have a5:(Y == 3)=true:=beq_iff_eq.2 g
   have J:Hid ((ZbS b).2=3):=ZZ (by rw[aa.o,if_pos g])
   obtain⟨x,y0⟩:=j.o.cell 0;obtain⟨q,y1⟩:=j.o.cell 1;obtain⟨m,y2⟩:=j.o.cell 2;obtain⟨u,y3⟩:=j.o.cell 3;clear g;go_wp2;refine bodyPost_ret (v:=.tuple #[.agg #[.int .i64 0,.slice none 0 0,.bool false,.int .i64 0],.slice none 0 0,.bool false]) (by simp[results,Tryz.results117,go_sem,x,q,m,u]) rfl ?_
   exact Zvv.none J.o (Zgy Z.o _ zL _ _ _ _)
  have a5:(Y == 3)=false:=beq_eq_false_iff_ne.2 g;have aj:=ZZ g;clear g
  go_wp2_with fail
  refine(aZ.o _ _ (a8.o C (ax.o.below Z.o zL))).mono ?_;rintro e W4 ⟨vt,t,rfl,T,aA,aD,M⟩;obtain⟨ta,tc,aY⟩:=T.shape;subst aY;have a0:=ZZ (Z.o.trans (M.mono Z.o.size));have ac:=ZZ (j.o.below M zL);have X:=ZZ (aq.o.below M zL);have aV:=ZZ (aM.o.below M zL);have a4:=ZZ (T.rd aA)
  have aN:Hid (∀ k,(Value.slice ta t.length tc).ownBlock=some k->w.heap.size<k):=ZZ (fun k f=>by
   have E:=(World.ownsRow.lt T k f).1;have h2:=j.o.lt
   omega)
  have a3:=ZZ aD;clear T aA aD M a9 j aq aM;obtain⟨x,y0⟩:=ac.o.cell 0;obtain⟨q,y1⟩:=ac.o.cell 1;obtain⟨m,y2⟩:=ac.o.cell 2;obtain⟨u,y3⟩:=ac.o.cell 3;obtain⟨s0,-⟩:=X.o.cell 0;obtain⟨s1,-⟩:=X.o.cell 1;obtain⟨s2,-⟩:=X.o.cell 2;obtain⟨s3,-⟩:=X.o.cell 3;obtain⟨ok,ap⟩:∃ ok,ok=TL.isSome:=⟨_,rfl⟩;rw[<-ap];have Q:=ZZ ap;clear ap;go_wp2;refine bodyPost_ret (v:=.tuple #[.agg #[.int .i64 N,.slice F A.length lc,.bool O,.int .i64 H],.slice ta t.length tc,.bool ok]) (by simp[results,Tryz.results117,go_sem,x,q,m,u]) rfl ?_
  have aJ:=ZzM W4 w.heap.size (.int .i64 N) (.slice F A.length lc) (.bool O) (.int .i64 H);refine⟨_,_,⟨N,A,O,H⟩,t,ok,rfl,aV.o.but aJ (.inr fun k f=>by have:=aI.o k f;omega),az.o.1,az.o.2,a4.o.but aJ (.inr fun k f=>by have:=aN.o k f;omega),(fun k f=>Nat.le_of_lt (aI.o k f)),(fun k f=>Nat.le_of_lt (aN.o k f)),(fun h=>?_),(fun h=>?_),Zgy a0.o _ zL _ _ _ _⟩
  ·rw[aa.o,if_neg aj.o]
   cases TL with
   | none=>rfl
   | some t'=>rw[h] at Q;cases Q.o
  ·cases TL with
   | none=>rw[h] at Q;cases Q.o
   | some t'=>
    refine⟨Y,by rw[aa.o,if_neg aj.o,a3.o t' rfl],?_⟩
    rcases aB.o with E | ⟨E,h2 | h2⟩
    ·exact .inl E
    ·exact absurd h2 aj.o
    ·exact .inr ⟨h2,E⟩
def Bq (w:World) (b:Nat) (cs:Array Value):Prop:=w.heap[b]?=some (.cells cs 147 (0,0))
theorem Bq.lt (h:Bq w b cs):b<w.heap.size:=(Array.getElem?_eq_some_iff.1 h).1
theorem Bq.below (h:Bq w b cs) (a:Below B w w') (c:w.heap.size<=B):Bq w' b cs:=(a.block b (by have:=h.lt;omega)).trans h
theorem Bq.cell (h:Bq w b cs) (j:Nat):w.cell? ⟨b,j,none⟩=cs[j]?∧w.frozen? ⟨b,j,none⟩=false:=⟨cell_of_row w b j _ _ _ h,frozen_of_row w b j _ _ h⟩
theorem Bq.set (h:Bq w b cs) (j:Nat) (x:Value):Bq (w.setCell ⟨b,j,none⟩ x) b (cs.setIfInBounds j x):=by
 have:=heap_setCell_same w b j _ _ x h;unfold Bq;simpa using this
theorem Bq.other {c:Nat} (h:Bq w b cs) (j:Nat) (x:Value) (a:b≠c):Bq (w.setCell ⟨c,j,none⟩ x) b cs:=(Below.heap_setCell _ _ _ _ a).trans h
theorem ZzN (w:World) (x y z u:Obj):((((w.alloc x).alloc y).alloc z).alloc u).heap[w.heap.size]?=some x∧((((w.alloc x).alloc y).alloc z).alloc u).heap[w.heap.size+1]?=some y∧((((w.alloc x).alloc y).alloc z).alloc u).heap[w.heap.size+2]?=some z∧((((w.alloc x).alloc y).alloc z).alloc u).heap[w.heap.size+3]?=some u:=by
 obtain⟨c,b,a⟩:=ZlF w x y z;refine⟨(Below.heap_alloc _ _ _ (by simp;omega)).trans c,(Below.heap_alloc _ _ _ (by simp)).trans b,(Below.heap_alloc _ _ _ (by simp)).trans a,?_⟩
 have:=heap_alloc_new (((w.alloc x).alloc y).alloc z) u;simpa using this
theorem Zvw {d:List UInt8} (h:¬ (d.length<1∨(d.getD 0 0).toNat≠115)):ZbV d=match Zcu 3 (d.drop 1) with
 | none=>(0,0,0,3)
 | some (ns,l)=>if ns.getD 0 0≠3 then(0,0,0,6) else if l.length≠4 then(0,0,0,3) else(ns.getD 1 0,ns.getD 2 0,Lib.leNat l,0):=by
 unfold ZbV;rw[if_neg h,Zcu];by_cases c:(Zab (d.drop 1)).2=0
 ·rw[if_pos (.inl c),if_pos c]
 rw[if_neg c,Zcu];simp only [drop_drop];by_cases b:(Zab (d.drop (1+(Zab (d.drop 1)).2))).2=0
 ·rw[if_pos (.inr (.inl b)),if_pos b]
  rfl
 rw[if_neg b,ZhZ];simp only [drop_drop];by_cases a:(Zab (d.drop (1+(Zab (d.drop 1)).2+(Zab (d.drop (1+(Zab (d.drop 1)).2))).2))).2=0
 ·rw[if_pos (.inr (.inr a)),if_pos a]
  rfl
 ·rw[if_neg (by omega),if_neg a]
  simp only [Option.map_some,List.getD_cons_zero,List.getD_cons_succ]
theorem Zqx:∀ (n:Nat) (b:List UInt8) (ns:List Nat) (l:List UInt8),Zcu n b=some (ns,l)->ns.length=n
 | 0,b,ns,l,h=>by
  injection h with h
  injection h with h _
  rw[<-h];rfl
 | n+1,b,ns,l,h=>by
  rw[Zcu] at h;split at h
  ·cases h
  ·cases hg:Zcu n (b.drop (Zab b).2) with
   | none=>rw[hg] at h;cases h
   | some r=>
    rw[hg] at h
    injection h with h
    injection h with h _
    obtain⟨a,m⟩:=r;rw[<-h,length_cons,Zqx n _ a m hg]
theorem ZxR {W:World} {R Q:Nat} (e:R≠Q) (h:Bq W R #[.int .i64 0,.int .i64 0,.int .u32 0]) (g:W.heap[Q]?=some (.cells #[.int .i64 0] 3 (0,0))) (ns:List Nat) (f:ns.length<=3):
 ∃ u x y:Int,Bq (Zca W ([(Q,0),(R,0),(R,1)].take ns.length) ns) R #[.int .i64 x,.int .i64 y,.int .u32 0]∧(Zca W ([(Q,0),(R,0),(R,1)].take ns.length) ns).cell? ⟨Q,0,none⟩=some (.int .i64 u)∧(ns.length=3->u=((ns.getD 0 0:Nat):Int)∧x=((ns.getD 1 0:Nat):Int)∧y=((ns.getD 2 0:Nat):Int)):=by
 have d:W.cell? ⟨Q,0,none⟩=some (.int .i64 0):=cell_of_row W Q 0 _ _ _ g
 match ns,f with
 | [],_=>exact⟨0,0,0,h,d,fun h=>absurd h (by simp)⟩
 | [a],_=>exact⟨a,0,0,h.other 0 _ e,World.cell?_setCell_same _ _ _ d,fun h=>absurd h (by simp)⟩
 | [a,b],_=>
  refine⟨a,b,0,(h.other 0 _ e).set 0 _,?_,fun h=>absurd h (by simp)⟩
  show((W.setCell ⟨Q,0,none⟩ _).setCell ⟨R,0,none⟩ _).cell? ⟨Q,0,none⟩=_;rw[World.cell?_setCell_other _ _ _ _ (by simp)]
  exact World.cell?_setCell_same _ _ _ d
 | [a,b,c],_=>
  refine⟨a,b,c,((h.other 0 _ e).set 0 _).set 1 _,?_,fun _=>⟨rfl,rfl,rfl⟩⟩
  show(((W.setCell ⟨Q,0,none⟩ _).setCell ⟨R,0,none⟩ _).setCell ⟨R,1,none⟩ _).cell? ⟨Q,0,none⟩=_;rw[World.cell?_setCell_other _ _ _ _ (by simp),World.cell?_setCell_other _ _ _ _ (by simp)]
  exact World.cell?_setCell_same _ _ _ d
def ZBT (w:World) (r:Nat × Nat × Nat × Int) (e:Ending) (w':World):Prop:=
 e=.returned (.tuple #[.agg #[.int .i64 (r.1:Int),.int .i64 (r.2.1:Int),.int .u32 (r.2.2.1:Int)],.int .i64 r.2.2.2])∧Below w.heap.size w w'
theorem Zia {b:World} (h:Below C b w) (R:Nat) (a:C<=R) (c e d:Value):Below C b (((w.setCell ⟨R,0,none⟩ c).setCell ⟨R,1,none⟩ e).setCell ⟨R,2,none⟩ d):=
 ((h.setCell a _).setCell a _).setCell a _
theorem ZjJ (v:Value) (d:List UInt8) (w:World) (hr:Rd w v d):
 Calls prog 115 #[v] w fun e w'=>ZBT w (ZbV d) e w':=by
 have HR:=ZZ hr;obtain⟨ao,cap,rfl,aE,am,-,ai⟩:=hr;have aS:(d.length:Int)<=9223372036854775807:=by unfold maxLen at am;omega
 have G:Hid (∀ X,Below w.heap.size w (w.alloc X)):=fun X=>(Below.refl _ _).alloc zL X
 by_cases u:d.length=0
 ·have g:Hid (ZbV d=(0,0,0,3)):=ZZ (by unfold ZbV;rw[if_pos (.inl (by omega))])
  have aw:((d.length:Int) == 0)=true:=by rw[beq_iff_eq];omega
  rw[g.o];clear u ai
  go_enter func115,ntmps115
  go_wp2;refine bodyPost_ret (v:=.tuple #[.agg #[.int .i64 0,.int .i64 0,.int .u32 0],.int .i64 3]) (by simp[results,Tryz.results115,go_sem]) rfl ?_
  exact⟨rfl,G.o _⟩
 have aw:((d.length:Int) == 0)=false:=beq_eq_false_iff_ne.2 (by omega)
 have aR:(0:Int)<(d.length:Int):=by omega
 have S:d≠[]:=fun e=>by rw[e] at u;simp at u
 rcases ai with he | ⟨b,A,rfl,hc⟩
 ·exact absurd he S
 have V:=hc 0 (by omega)
 have aK:b<w.heap.size:=World.block_lt_of_cell? w ⟨b,A+0,none⟩ V;have aC:∀ X,(w.alloc X).cell? ⟨b,A,none⟩=some (.int .u8 ((d.getD 0 0).toNat:Nat)):=fun X=>((G.o X).cell (p:=⟨b,A,none⟩) aK).trans V
 clear hc V am;by_cases F:(d.getD 0 0).toNat=115
 case neg=>
  have g:Hid (ZbV d=(0,0,0,3)):=ZZ (by unfold ZbV;rw[if_pos (.inr F)])
  have az:((((d.getD 0 0).toNat:Nat):Int) != 115)=true:=by
   rw[bne_iff_ne];omega
  rw[g.o];clear F S u;generalize (((d.getD 0 0).toNat:Nat):Int)=c0 at *
  go_enter func115,ntmps115
  go_wp2;refine bodyPost_ret (v:=.tuple #[.agg #[.int .i64 0,.int .i64 0,.int .u32 0],.int .i64 3]) (by simp[results,Tryz.results115,go_sem]) rfl ?_
  exact⟨rfl,G.o _⟩
 have az:((((d.getD 0 0).toNat:Nat):Int) != 115)=false:=by
  rw[F];rfl
 have t:=ZZ (Zvw (d:=d) (by omega))
 generalize (((d.getD 0 0).toNat:Nat):Int)=c0 at *;obtain⟨xa,xc,hcut,P⟩:=ZjY (some ⟨b,A,none⟩) d cap aE 1 (by omega)
 have aB:∀ W,(Instr.sliceAt 53 (.slice (some ⟨b,A,none⟩) d.length cap) (some (.int .i64 1)) none none).run prog W=.ok (.slice xa (d.drop 1).length xc) W:=hcut;have aq:=ZZ (fun W h=>P W h)
 obtain⟨f,I⟩:∃ f,f=(((w.alloc (.cells #[.int .i64 0,.int .i64 0,.int .u32 0] 147)).alloc (.cells #[.int .i64 0,.int .i64 0,.int .u32 0] 147)).alloc (.cells #[.int .i64 0] 3)).alloc (.cells #[.pointer (some ⟨w.heap.size+1+1,0,none⟩),.pointer (some ⟨w.heap.size+1,0,none⟩),.pointer (some ⟨w.heap.size+1,1,none⟩)] 208):=⟨_,rfl⟩;have h4:=ZzN w (.cells #[.int .i64 0,.int .i64 0,.int .u32 0] 147) (.cells #[.int .i64 0,.int .i64 0,.int .u32 0] 147) (.cells #[.int .i64 0] 3) (.cells #[.pointer (some ⟨w.heap.size+1+1,0,none⟩),.pointer (some ⟨w.heap.size+1,0,none⟩),.pointer (some ⟨w.heap.size+1,1,none⟩)] 208);rw[<-I] at h4;obtain⟨hA,hB,B,hC⟩:=h4;have ab:Hid (Below w.heap.size w f):=ZZ (by rw[I];exact((((Below.refl _ _).alloc zL _).alloc (by simp) _).alloc (by simp;omega) _).alloc (by simp;omega) _)
 have af:Bq f w.heap.size #[.int .i64 0,.int .i64 0,.int .u32 0]:=hA;have k:Bq f (w.heap.size+1) #[.int .i64 0,.int .i64 0,.int .u32 0]:=hB
 have T:=ZZ (Zdo (w.heap.size+1+1+1) [(w.heap.size+1+1,0),(w.heap.size+1,0),(w.heap.size+1,1)] (.slice xa (d.drop 1).length xc) (d.drop 1) f (aq.o f (HR.o.below ab.o zL)) (fun p m=>by
  simp only [mem_cons,List.not_mem_nil,or_false] at m;rcases m with rfl | rfl | rfl
  ·exact⟨⟨⟨0,cell_of_row f (w.heap.size+2) 0 _ _ _ B⟩,frozen_of_row f (w.heap.size+2) 0 _ _ B⟩,by simp⟩
  ·exact⟨⟨⟨0,(k.cell 0).1⟩,(k.cell 0).2⟩,by simp⟩
  ·exact⟨⟨⟨0,(k.cell 1).1⟩,(k.cell 1).2⟩,by simp⟩) (by simp) hC 3 rfl)
 have av:=ZZ (fun ns h=>ZxR (Q:=w.heap.size+1+1) (by omega) k B ns h)
 have ad:Hid (∀ ns,Below w.heap.size w (Zca f ([(w.heap.size+1+1,0),(w.heap.size+1,0),(w.heap.size+1,1)].take (List.length ns)) ns)):=ZZ (fun ns=>Zel f _ ns _ w (fun p m=>by
  have:=mem_of_mem_take m;simp only [mem_cons,List.not_mem_nil,or_false] at this
  rcases this with rfl | rfl | rfl <;> (simp only;omega)) ab.o)
 have ak:Hid (∀ ns,Bq (Zca f ([(w.heap.size+1+1,0),(w.heap.size+1,0),(w.heap.size+1,1)].take (List.length ns)) ns) w.heap.size #[.int .i64 0,.int .i64 0,.int .u32 0]):=ZZ (fun ns=>(Zek f _ ns _ (fun p m=>by
  have:=mem_of_mem_take m;simp only [mem_cons,List.not_mem_nil,or_false] at this
  rcases this with rfl | rfl | rfl <;> (simp only;omega))).trans af)
 have aN:=ZZ (fun Z l W h=>ZpE Z l W h)
 have M:=ZZ (fun ns l h=>Zqx 3 (d.drop 1) ns l h)
 have ae:Hid ([(w.heap.size+1+1,0),(w.heap.size+1,0),(w.heap.size+1,1)].length=3):=ZZ rfl;rw[ae.o] at T;generalize Zcu 3 (d.drop 1)=GL at *;obtain⟨i,al⟩:∃ i,i=ZbV d:=⟨_,rfl⟩;rw[<-al] at t ⊢;clear al hcut P hA hB B hC af k F S u ae;generalize d.drop 1=D1 at *
 go_enter func115,ntmps115
 go_wp2_with fail
 rw[<-I];refine T.o.mono ?_;rintro e j ⟨Z,l,ns,rfl,au,an,aa,aJ,ah,q⟩;obtain⟨uu,xx,yy,ap,ag,U⟩:=av.o ns ah;have J:Hid (Bq j (w.heap.size+1) #[.int .i64 xx,.int .i64 yy,.int .u32 0]):=ZZ (ap.below (q.below (Zca f ([(w.heap.size+1+1,0),(w.heap.size+1,0),(w.heap.size+1,1)].take ns.length) ns).heap.size) zL);have N:Hid (Bq j w.heap.size #[.int .i64 0,.int .i64 0,.int .u32 0]):=ZZ ((ak.o ns).below (q.below (Zca f ([(w.heap.size+1+1,0),(w.heap.size+1,0),(w.heap.size+1,1)].take ns.length) ns).heap.size) zL);have P:j.cell? ⟨w.heap.size+1+1,0,none⟩=some (.int .i64 uu):=by rw[q.cell];exact ag
 have y:Hid (Below w.heap.size w j):=ZZ ((ad.o ns).trans (q.below _));have aj:=ZZ (au j (aq.o j (HR.o.below y.o zL)));obtain⟨a1,c1,ay⟩:∃ a c,Z=.slice a l.length c:=by obtain⟨a,c,h,-⟩:=aj.o;exact⟨a,c,h⟩
 subst ay;obtain⟨E,y0⟩:=N.o.cell 0;obtain⟨D,y1⟩:=N.o.cell 1;obtain⟨C,y2⟩:=N.o.cell 2;clear T av ad ak I ap ag q au aJ ah ab aC aB G
 cases GL with
 | none=>
  have g:Hid (i=(0,0,0,3)):=ZZ t.o;clear an aa U t M;go_wp2;refine bodyPost_ret (v:=.tuple #[.agg #[.int .i64 0,.int .i64 0,.int .u32 0],.int .i64 3]) (by simp[results,Tryz.results115,go_sem,E,D,C]) rfl ?_
  rw[g.o];exact⟨rfl,Zia y.o _ zL _ _ _⟩
 | some gp=>
  have:=aa gp rfl;subst this;obtain⟨g1,g2,g3⟩:=U (M.o _ _ rfl);have n:Hid (i=if ns.getD 0 0≠3 then(0,0,0,6) else if l.length≠4 then(0,0,0,3) else(ns.getD 1 0,ns.getD 2 0,Lib.leNat l,0)):=ZZ t.o
  clear an aa U t M;generalize ns.getD 0 0=Y at *;generalize ns.getD 1 0=n1 at *;generalize ns.getD 2 0=n2 at *;subst g1 g2 g3;by_cases H:Y=3
  case neg=>
   have g:Hid (i=(0,0,0,6)):=ZZ (by rw[n.o,if_pos H])
   have aI:((Y:Int) != 3)=true:=by rw[bne_iff_ne];omega
   clear H n;go_wp2;refine bodyPost_ret (v:=.tuple #[.agg #[.int .i64 0,.int .i64 0,.int .u32 0],.int .i64 6]) (by simp[results,Tryz.results115,go_sem,E,D,C]) rfl ?_
   rw[g.o];exact⟨rfl,Zia y.o _ zL _ _ _⟩
  have aI:((Y:Int) != 3)=false:=by rw[bne_eq_false_iff_eq];omega
  by_cases z:l.length=4
  case neg=>
   have g:Hid (i=(0,0,0,3)):=ZZ (by rw[n.o,if_neg (by omega),if_pos z])
   have aD:((l.length:Int) != 4)=true:=by rw[bne_iff_ne];omega
   clear H n z;go_wp2;refine bodyPost_ret (v:=.tuple #[.agg #[.int .i64 0,.int .i64 0,.int .u32 0],.int .i64 3]) (by simp[results,Tryz.results115,go_sem,E,D,C]) rfl ?_
   rw[g.o];exact⟨rfl,Zia y.o _ zL _ _ _⟩
  have aD:((l.length:Int) != 4)=false:=by rw[bne_eq_false_iff_eq];omega
  have g:Hid (i=(n1,n2,Lib.leNat l,0)):=ZZ (by rw[n.o,if_neg (by omega),if_neg (by omega)])
  have L:=ZZ (aN.o _ l j aj.o);rw[List.take_of_length_le (by omega)] at L
  have aF:Lib.leNat l<4294967296:=by
   have:=Zob l;rw[z] at this;exact this
  have ax:Hid (l.length=4):=ZZ z;generalize Lib.leNat l=x at *;clear H n z;obtain⟨e0,f0⟩:=J.o.cell 0;obtain⟨e1,f1⟩:=J.o.cell 1;obtain⟨e2,f2⟩:=J.o.cell 2;have aP:¬ (w.heap.size=w.heap.size+1):=by omega
  have aQ:¬ (w.heap.size+1=w.heap.size):=by omega
  have aL:IntKind.u32.wrap (x:Int)=(x:Int):=by
   rw[IntKind.wrap_u32];omega
  have aO:(0:Int)<=(x:Int):=by omega
  have aM:(x:Int)<4294967296:=by omega
  obtain⟨CC,ac⟩:∃ CC:Int,CC=(x:Int):=⟨_,rfl⟩;obtain⟨N1,R⟩:∃ N1:Int,N1=(n1:Int):=⟨_,rfl⟩;obtain⟨O,K⟩:∃ O:Int,O=(n2:Int):=⟨_,rfl⟩;rw[<-ac] at L aL aO aM;rw[<-R] at e0;rw[<-K] at e1;have aA:=ZZ ac;have aH:=ZZ R;have aG:=ZZ K;clear ac R K aF;clear ax
  go_wp2_with fail
  refine L.o.mono ?_;rintro e W2 ⟨rfl,ar⟩;rw[ar];clear ar W2;go_wp2;refine bodyPost_ret (v:=.tuple #[.agg #[.int .i64 N1,.int .i64 O,.int .u32 CC],.int .i64 0]) (by simp[results,Tryz.results115,go_sem,E,D,C]) rfl ?_
  rw[g.o];exact⟨by rw[aA.o,aH.o,aG.o],Zia (y.o.setCell (Nat.le_succ _) _) _ zL _ _ _⟩
theorem ZlK (c d:Value) (a b:List UInt8) (w:World) (f:Rd w c a) (g:Rd w d b):
 Calls prog 163 #[c,d] w fun e w'=>e=.returned (.bool (decide (a=b)))∧w'=w:=by
 have i:=f.str;have k:=g.str
 have j:((bs a).toList == (bs b).toList)=decide (a=b):=by
  rw[ZCp];by_cases h:a=b
  ·rw[h,decide_eq_true rfl];exact beq_self_eq_true b
  ·rw[decide_eq_false h,beq_eq_false_iff_ne];exact h
 generalize decide (a=b)=D at *;clear f g
 go_enter func163,ntmps163
 go_wp2;go_ret;exact⟨rfl,rfl⟩
theorem Zqy {A B:List (List UInt8)} (b:k<A.length) (c:k<B.length) (h:A.take k=B.take k) (a:A.getD k []=B.getD k []):A.take (k+1)=B.take (k+1):=by
 rw[List.take_add_one,List.take_add_one,h]
 congr 1
 simp only [List.getD,List.getElem?_eq_getElem b,List.getElem?_eq_getElem c,Option.getD_some] at a ⊢;rw[a]
theorem ZmD (R O:Value) (A B:List (List UInt8)) (w:World) (ha:RdL w R A) (Z:RdL w O B):
 Calls prog 162 #[R,O,.func (.func 163) #[] #[]] w fun e w'=>e=.returned (.bool (decide (A=B)))∧w'=w:=by
 obtain⟨aa,ac,rfl,af,M,-,Q⟩:=ha;obtain⟨ba,bc,rfl,-,-,-,S⟩:=Z;have I:=ZZ Q;have K:=ZZ S;have P:=ZZ (fun x y a b V h2=>ZlK x y a b w V h2)
 obtain⟨D,l⟩:∃ D,D=decide (A=B):=⟨_,rfl⟩;rw[<-l];have J:Hid (A=B->D=true):=fun h=>by rw[l];exact decide_eq_true h
 have u:Hid (¬ A=B->D=false):=fun h=>by rw[l];exact decide_eq_false h
 have aj:(A.length:Int)<=9223372036854775807:=by unfold maxLen at M;omega
 clear l Q S M af;by_cases i:A.length=B.length
 case neg=>
  have ad:((A.length:Int) != (B.length:Int))=true:=by rw[bne_iff_ne];omega
  have HE:=ZZ (u.o (fun h=>i (by rw[h])))
  clear i
  go_enter func162,ntmps162
  go_wp2;go_ret;rw[HE.o];exact⟨rfl,rfl⟩
 have ad:((A.length:Int) != (B.length:Int))=false:=by rw[bne_eq_false_iff_eq];omega
 have G:=ZZ i
 have L:Hid (A.take A.length=B.take A.length->D=true):=ZZ (fun h=>J.o (by
  rw[take_length,G.o,take_length] at h
  exact h))
 have F:Hid (∀ k,k<A.length->A.getD k []≠B.getD k []->D=false):=ZZ (fun k hk h=>u.o (fun hs=>h (by rw[hs])))
 clear i J u
 go_enter func162,ntmps162
 go_wp2
 go_loopw[17] (fun v wr=>∃ k:Nat,v=.int .i64 (k:Int)∧k<=A.length∧Hid (A.take k=B.take k)∧wr=w) (fun v _=>A.length-(intOf v).toNat)
 case atStart=>exact⟨0,rfl,Nat.zero_le _,rfl,rfl⟩
 case round=>
  obtain⟨k,rfl,hk,T,rfl⟩:=hrel;by_cases g:k<A.length
  case neg=>
   obtain rfl:k=A.length:=by omega
   have HT:=ZZ (L.o T.out);go_wp2;go_ret;rw[HT.o];exact⟨rfl,rfl⟩
  have j:k<B.length:=by have:=G.o;omega
  rcases I.o with z | ⟨c,ak,rfl,N⟩
  ·rw[z] at g;simp at g
  rcases K.o with z | ⟨c',ah,rfl,H⟩
  ·rw[z] at j;simp at j
  obtain⟨x,hx,p⟩:=N k g;obtain⟨y,hy,t⟩:=H k j;have ag:(k:Int)<(A.length:Int):=by omega
  have ai:(k:Int)<(B.length:Int):=by omega
  have E:=ZZ (F.o k g);have n:Hid (A.getD k []=B.getD k []->A.take (k+1)=B.take (k+1)):=ZZ (fun h=>Zqy g j T.out h)
  have m:=ZZ (P.o x y _ _ p t);obtain⟨xa,xc,U⟩:∃ a c,x=.slice a (A.getD k []).length c:=by obtain⟨a,c,h,-⟩:=p;exact⟨a,c,h⟩
  obtain⟨ya,yc,ae⟩:∃ a c,y=.slice a (B.getD k []).length c:=by obtain⟨a,c,h,-⟩:=t;exact⟨a,c,h⟩
  subst U ae;clear N H p t L F I K P;generalize A.getD k []=X at *;generalize B.getD k []=Y at *;by_cases d:X=Y
  ·have W:=ZZ (n.o d)
   have q:Hid (decide (X=Y)=true):=decide_eq_true d;rw[q.o] at m;clear E n d
   go_wp2_with fail
   refine m.o.mono ?_;rintro e C ⟨rfl,f⟩;rw[f];clear f C;go_wp2;go_roundw
   case rel=>exact⟨k+1,by go_num,by omega,W,trivial⟩
   case measure=>simp[intOf];omega
  ·have ab:=ZZ (E.o d)
   have q:Hid (decide (X=Y)=false):=decide_eq_false d;rw[q.o] at m;clear E n d
   go_wp2_with fail
   refine m.o.mono ?_;rintro e C ⟨rfl,f⟩;rw[f];clear f C;go_wp2;go_ret;rw[ab.o];exact⟨rfl,rfl⟩
theorem Zss (v:Value) (L:List (List UInt8)) (w:World) (B:RdL w v L) (J:L.flatten.length<=1000000) (hn:L.length<=100000):
 Calls prog 131 #[v] w fun e w'=>∃ v',e=.returned v'∧Own w' w.heap.size v' L.flatten∧Below w.heap.size w w':=by
 have HG:=ZZ (fun n W h=>Ztu n W h)
 have af:=ZZ B;have t:Hid (∀ k,Zos L k<=1000000):=fun k=>Nat.le_trans (Zxu L k) J
 have H:=ZZ (Zqd L);have ac:=ZZ (Zqc L);have O:=ZZ (Ztw L);have Y:=ZZ (Ztv L);obtain⟨F,y⟩:∃ F,F=L.flatten:=⟨_,rfl⟩;rw[<-y];rw[<-y] at O;obtain⟨ao,cap,rfl,-,-,-,G⟩:=B;have N:=ZZ G;clear G y J
 go_enter func131,ntmps131
 go_wp2
 go_loopw[3,11] (fun vs a wr=>∃ (k:Nat),vs=.int .i64 (Zos L k:Int)∧a=.int .i64 (k:Int)∧k<=L.length∧wr=w) (fun _ a _=>L.length-(intOf a).toNat)
 case atStart=>exact⟨0,rfl,rfl,Nat.zero_le _,rfl⟩
 case round=>
  obtain⟨k,rfl,rfl,hk,C⟩:=hrel;have X:=C.symm;subst X;clear C;by_cases d:k<L.length
  ·rcases N.o with q | ⟨c,ad,rfl,b⟩
   ·rw[q] at d;simp at d
   obtain⟨x,S,i⟩:=b k d;have E:=t.o (k+1);have u:=H.o k d;obtain⟨ax,cx,rfl,-⟩:=i;have h3:¬ ((Zos L k:Int)+((L.getD k []).length:Int)<0):=by omega
   have h4:(Zos L k:Int)+((L.getD k []).length:Int)<=1000000:=by omega
   have H2:=ZZ u;clear b E u;generalize Zos L k=A at *;generalize (L.getD k []).length=D at *;go_wp2;go_roundw
   case rel=>exact⟨k+1,by rw[H2.o],by go_num,by omega,trivial⟩
   case measure=>simp[intOf];omega
  ·have T:=ZZ (HG.o (Zos L k) w (t.o k))
   generalize Zos L k=A at *
   go_wp2_with fail
   refine T.o.mono ?_;rintro e W1 ⟨v1,rfl,Q,K⟩;have R:=ZZ Q;have M:=ZZ K;clear Q K hk d;go_wp2
   go_loopw[6,27] (fun Z a I=>∃ (j:Nat),a=.int .i64 (j:Int)∧j<=L.length∧Hid (Own I w.heap.size Z (Zxt L j))∧Hid (Below w.heap.size w I)) (fun _ a _=>L.length-(intOf a).toNat)
   case atStart=>exact⟨0,rfl,Nat.zero_le _,R,M⟩
   case round=>
    clear R M;obtain⟨j,rfl,hj,l,f⟩:=hrel;by_cases g:j<L.length
    ·rcases N.o with q | ⟨c,ad,rfl,b⟩
     ·rw[q] at g;simp at g
     obtain⟨x,m,i⟩:=b j g;have S:=(f.o.cell (World.block_lt_of_cell? _ _ m)).trans m;have ae:=ZZ (i.below f.o zL);obtain⟨ax,cx,rfl,-⟩:=i
     have V:Hid ((Zxt L j).length+(L.getD j []).length<=70368744177664):=ZZ (by
      have E:=t.o (j+1);have u:=H.o j g;rw[Y.o]
      omega)
     have ab:=ZZ f.o.size;have HN:=ZZ (ac.o j g);clear b m;generalize L.getD j []=D at *;generalize Zxt L j=P at *
     go_wp2_with(at_builtin;refine ZaE _ rfl _ _ rfl w.heap.size _ P rfl l.o _ D rfl ae.o V.o ab.o ?_)
     intro v3 W3 p z;rw[<-HN.o] at p;have U:=ZZ p;have aa:=ZZ (f.o.trans z);clear p z;go_wp2;go_roundw
     case rel=>exact⟨j+1,by go_num,by omega,U,aa⟩
     case measure=>simp[intOf];omega
    ·have HE:=ZZ (O.o j (by omega))
     rw[HE.o] at l;go_wp2;go_ret;exact⟨_,rfl,l.o,f.o⟩
def ZoI (P:List (List UInt8)) (n c:Nat):Int:=if P.flatten.length≠n then 16 else if ¬ Ziw P then 3 else if Zaz 0 P.flatten≠c then 4 else 0
def Joined (w:World) (F:List UInt8) (er:Int) (e:Ending) (w':World):Prop:=
 ∃ v',e=.returned (.tuple #[v',.int .i64 er])∧Rd w' v' (if er=0 then F else[])∧Below w.heap.size w w'
theorem ZjG.rdl {v v':Value} {xs:List Value} {L:List (List UInt8)} (h:ZjG v l xs L) (b:w'.ownsRow B 53 1 v' L.length xs) (k:Rd w' v l):RdL w' v' L:=by
 rcases b.2 with ⟨a,i⟩ | ⟨g,cap,cur,a,u,q,f,m,t,p⟩
 ·have e:L=[]:=List.eq_nil_of_length_eq_zero i
  subst e;rw[a];exact RdL.nil _
 ·refine⟨some ⟨g,0,none⟩,cap,a,f,m,(fun e=>by cases e),.inr ⟨g,0,rfl,fun j c=>?_⟩⟩
  obtain⟨x,n,-,d⟩:=h.2 j c;refine⟨x,?_,d w' k⟩;have:=World.ownsRow.cells b (g:=g) (by rw[a];rfl) j x n
  rw[Addr.add_lit] at this;exact this
theorem ZzO (i:Int) (n c:Nat) (B:Value) (P:List (List UInt8)) (w:World) (E:RdL w B P) (am:P.flatten.length<=100000) (ay:P.length<=100000):
 Calls prog 116 #[.agg #[.int .i64 i,.int .i64 (n:Int),.int .u32 (c:Int)],B] w fun e w'=>Joined w P.flatten (ZoI P n c) e w':=by
 have v:Hid (Below w.heap.size w (w.alloc (.cells #[.int .i64 i,.int .i64 (n:Int),.int .u32 (c:Int)] 147))):=ZZ ((Below.refl _ _).alloc zL _);have Q:Hid (Bq (w.alloc (.cells #[.int .i64 i,.int .i64 (n:Int),.int .u32 (c:Int)] 147)) w.heap.size #[.int .i64 i,.int .i64 (n:Int),.int .u32 (c:Int)]):=ZZ (heap_alloc_new w _);have K:=ZZ (fun W (h:Below w.heap.size w W)=>Zss B P W (E.below h zL) (by omega) ay)
 have S:=ZZ (fun A W h=>Znk A P.flatten W h am)
 have z:=ZZ (fun vb W L b=>ZmD B vb P (Zbd P.flatten) W L b)
 have ad:=ZZ (fun A W h=>Zou A P.flatten W h)
 have HP:=ZZ E;have af:decide (P=Zbd P.flatten)=decide (Ziw P):=decide_eq_decide.2 (ZwR P).symm;rw[af] at z;have l:Hid (ZoI P n c=if P.flatten.length≠n then 16 else if ¬ Ziw P then 3 else if Zaz 0 P.flatten≠c then 4 else 0):=ZZ rfl
 obtain⟨pa,pc,az⟩:∃ a c,B=.slice a P.length c:=by obtain⟨a,c,h,-⟩:=E;exact⟨a,c,h⟩
 subst az;obtain⟨p,ah⟩:∃ p,p=ZoI P n c:=⟨_,rfl⟩;rw[<-ah] at l ⊢;obtain⟨T,V⟩:∃ T,T=decide (Ziw P):=⟨_,rfl⟩;rw[<-V] at z;have aj:=ZZ V;clear ah E af V;obtain⟨f,ap⟩:∃ f,f=P.flatten:=⟨_,rfl⟩;rw[<-ap] at K S z ad l am ⊢;have aA:Hid (Zbd f=Zbd f):=ZZ rfl;clear ap;generalize Zbd f=PF at *;generalize Zaz 0 f=J at *;obtain⟨C,aa⟩:∃ C:Int,C=(n:Int):=⟨_,rfl⟩;obtain⟨d,ac⟩:∃ d:Int,d=(c:Int):=⟨_,rfl⟩;obtain⟨g,M⟩:∃ g:Int,g=(J:Int):=⟨_,rfl⟩;rw[<-aa,<-ac] at v Q ⊢;rw[<-M] at ad;have an:=ZZ aa;have ai:=ZZ ac;have aq:=ZZ M;clear aa ac M
 go_enter func116,ntmps116
 go_wp2_with fail
 refine(K.o _ v.o).mono ?_;rintro e W1 ⟨A,rfl,ab,X⟩;have F:=ZZ (v.o.trans (X.mono v.o.size));have Y:=ZZ (Q.o.below X zL);have N:=ZZ ab.rd;obtain⟨a1,c1,av⟩:∃ a c,A=.slice a f.length c:=by obtain⟨a,c,h,-⟩:=ab.rd;exact⟨a,c,h⟩
 subst av;obtain⟨p1,-⟩:=Y.o.cell 1;clear ab X K v Q;by_cases D:f.length=n
 case neg=>
  have m:Hid (p=16):=ZZ (by rw[l.o,if_pos D])
  have aw:((f.length:Int) != C)=true:=by rw[bne_iff_ne,an.o];omega
  clear D l;go_wp2;go_ret2;rw[m.o];exact⟨_,rfl,Rd.nil _,F.o⟩
 have aw:((f.length:Int) != C)=false:=by rw[bne_eq_false_iff_eq,an.o];omega
 have HL:=ZZ D;clear D
 go_wp2_with fail
 refine(S.o _ _ N.o).mono ?_;rintro e u ⟨v2,xs,rfl,ak,ar,G⟩;have q:=ZZ (F.o.trans (G.mono F.o.size));have I:=ZZ (Y.o.below G zL);have H:=ZZ (N.o.below G zL);have al:=ZZ (ar.rdl ak H.o);obtain⟨a2,c2,au⟩:∃ a c,v2=.slice a PF.length c:=by obtain⟨a,c,h,-⟩:=al.o;exact⟨a,c,h⟩
 subst au;clear ak G ar p1 S Y N F
 go_wp2_with fail
 refine(z.o _ _ (HP.o.below q.o zL) al.o).mono ?_;rintro e y ⟨rfl,ae⟩;rw[ae];clear ae y z
 cases T with
 | false=>
  have m:Hid (p=3):=ZZ (by rw[l.o,if_neg (fun h=>h HL.o),if_pos (of_decide_eq_false aj.o.symm)])
  clear l;go_wp2;go_ret2;rw[m.o];exact⟨_,rfl,Rd.nil _,q.o⟩
 | true=>
  have m:Hid (p=if J≠c then 4 else 0):=ZZ (by rw[l.o,if_neg (fun h=>h HL.o),if_neg (fun h=>h (of_decide_eq_true aj.o.symm))])
  have ag:=ZZ (ad.o _ u.drew (H.o.below ((Below.refl _ _).drew) zL));obtain⟨q2,-⟩:=I.o.cell 2
  go_upto_region 6 with fail
  go_cut[21] (fun x wc=>x=.bool (decide (g≠d))∧Hid (Rd wc (.slice a1 f.length c1) f)∧Hid (Below w.heap.size w wc))
  case first=>
   by_cases j:g=d
   ·have L:(g != d)=false:=by rw[bne_eq_false_iff_eq];exact j
    have b:decide (g≠d)=false:=decide_eq_false (fun h=>h j)
    have Z:=ZZ b;clear j b
    go_region_held(fun w'=>w'.cell? ⟨w.heap.size,2,none⟩=some (.int .u32 d)) (go_keep)
     (first
      | (go_at_call 136;refine ag.o.mono ?_;rintro e y ⟨rfl,t⟩;have k:Below u.heap.size u y:=((Below.refl _ _).drew).trans t;have U:=ZZ (q.o.trans (k.mono q.o.size));have O:=ZZ (H.o.below k zL);obtain⟨r2,-⟩:=(I.o.below k zL).cell 2;clear t k))
    all_goals
     go_wp2_with fail
     go_meet
     exact⟨by rw[Z.o],O,U⟩
   ·have L:(g != d)=true:=by rw[bne_iff_ne];exact j
    have b:decide (g≠d)=true:=decide_eq_true j;have Z:=ZZ b;clear j b
    go_region_held(fun w'=>w'.cell? ⟨w.heap.size,2,none⟩=some (.int .u32 d)) (go_keep)
     (first
      | (go_at_call 136;refine ag.o.mono ?_;rintro e y ⟨rfl,t⟩;have k:Below u.heap.size u y:=((Below.refl _ _).drew).trans t;have U:=ZZ (q.o.trans (k.mono q.o.size));have O:=ZZ (H.o.below k zL);obtain⟨r2,-⟩:=(I.o.below k zL).cell 2;clear t k))
    all_goals
     go_wp2_with fail
     go_meet
     exact⟨by rw[Z.o],O,U⟩
  case rest=>
   obtain⟨WC,rfl⟩:∃ W,W=wc:=⟨_,rfl⟩;obtain⟨rfl,ax,ao⟩:=hcut;by_cases j:J=c
   ·have R:Hid (p=0):=ZZ (by rw[m.o,if_neg (by omega)])
    have b:decide (g≠d)=false:=decide_eq_false (by have:=ai.o;have:=aq.o;omega)
    rw[b];clear b j l m;go_wp2;go_ret2;rw[R.o];exact⟨_,rfl,ax.o,ao.o⟩
   ·have R:Hid (p=4):=ZZ (by rw[m.o,if_pos j])
    have b:decide (g≠d)=true:=decide_eq_true (by have:=ai.o;have:=aq.o;omega)
    rw[b];clear b j l m;go_wp2;go_ret2;rw[R.o];exact⟨_,rfl,Rd.nil _,ao.o⟩
theorem ZzP (b a:Nat) (L:List (List UInt8)) (cap:Nat) (C:L.length<=cap) (m:1<=L.length):
 ∃ i l,(∀ W,(Instr.sliceAt 144 (.slice (some ⟨b,a,none⟩) L.length cap) (some (.int .i64 1)) none none).run prog W=.ok (.slice i (L.length-1) l) W)∧∀ W,RdL W (.slice (some ⟨b,a,none⟩) L.length cap) L->RdL W (.slice i (L.length-1) l) (L.drop 1):=by
 by_cases k:cap=1
 ·refine⟨some ⟨b,a,none⟩,cap-1,fun W=>?_,fun W h=>?_⟩
  ·have g:L.length=1:=by omega
   simp[go_sem,g,k]
  ·have g:L.drop 1=[]:=List.drop_eq_nil_of_le (by omega)
   obtain⟨A,q,c,z,u,w,f⟩:=h;simp only [Value.slice.injEq] at c;obtain⟨rfl,-,rfl⟩:=c;exact⟨_,_,by rw[length_drop],by rw[length_drop];omega,by omega,(fun e=>by cases e),.inl g⟩
 ·refine⟨some ⟨b,a+1,none⟩,cap-1,fun W=>?_,fun W h=>?_⟩
  ·have y:(1:Int)<=(L.length:Int):=by omega
   simp[go_sem,k,y]
  ·obtain⟨A,q,c,z,u,w,f⟩:=h
   simp only [Value.slice.injEq] at c;obtain⟨rfl,-,rfl⟩:=c;refine⟨_,_,by rw[length_drop],by rw[length_drop];omega,by omega,(fun e=>by cases e),?_⟩
   rcases f with f | ⟨b',B,d,v⟩
   ·rw[f] at m
    simp at m
   ·injection d with d
    injection d with d k7 _
    subst d k7;refine .inr ⟨b,a+1,rfl,fun j n=>?_⟩
    rw[length_drop] at n;obtain⟨x,t,p⟩:=v (j+1) (by omega)
    refine⟨x,by rw[show a+1+j=a+(j+1) by omega];exact t,?_⟩
    have e:(L.drop 1).getD j []=L.getD (j+1) []:=by simp[List.getD]
    rw[e];exact p
theorem Zvx:ZmQ []=(Zbl,16):=rfl
theorem Zst (d:List UInt8) (P:List (List UInt8)):ZmQ (d::P)=if(ZbV d).2.2.2≠0 then(Zbl,(ZbV d).2.2.2) else if ZoI P (ZbV d).2.1 (ZbV d).2.2.1≠0 then(Zbl,ZoI P (ZbV d).2.1 (ZbV d).2.2.1)
 else if(ZbS P.flatten).2≠0 then(Zbl,(ZbS P.flatten).2) else if ZgA ⟨((ZbV d).1:Nat),(ZbS P.flatten).1.st,(ZbS P.flatten).1.tab⟩ then(⟨((ZbV d).1:Nat),(ZbS P.flatten).1.st,(ZbS P.flatten).1.tab⟩,0) else(Zbl,1):=by
 unfold ZoI;rw[ZmQ];by_cases c:(ZbV d).2.2.2≠0
 ·rw[if_pos c,if_pos c]
 rw[if_neg c,if_neg c];by_cases e:P.flatten.length≠(ZbV d).2.1
 ·rw[if_pos e,if_pos e,if_pos (by decide)]
 rw[if_neg e,if_neg e];by_cases b:¬ Ziw P
 ·rw[if_pos b,if_pos b,if_pos (by decide)]
 rw[if_neg b,if_neg b];by_cases a:Zaz 0 P.flatten≠(ZbV d).2.2.1
 ·rw[if_pos a,if_pos a,if_pos (by decide)]
 rw[if_neg a,if_neg a,if_neg (show ¬ ((0:Int)≠0) by decide)]
theorem Zib:∀ L:List (List UInt8),L.flatten.length+L.length<=(Zaf L).length
 | []=>by simp[Zaf]
 | x::t=>by
  have a:=Zib t;have:=Zas x;rw[ZaV,length_append,List.flatten_cons,length_append,length_cons];omega
theorem Zsu (v:Value) (b:List UInt8) (w:World) (hr:Rd w v b) (bN:b.length<=100000):
 Calls prog 76 #[v] w fun e w'=>Zfv w (Zrg b) e w':=by
 obtain⟨W0,ab⟩:∃ W0,W0=w.alloc (.cells #[.int .i64 0,.int .i64 0,.slice none 0 0,.bool false,.int .i64 0,.slice none 0 0] 41):=⟨_,rfl⟩;have M:Hid (Below w.heap.size w W0):=ZZ (by rw[ab];exact(Below.refl _ _).alloc zL _)
 have ax:Hid (Bn W0 w.heap.size #[.int .i64 0,.int .i64 0,.slice none 0 0,.bool false,.int .i64 0,.slice none 0 0]):=ZZ (by rw[ab];exact heap_alloc_new w _)
 have G:=ZZ (ZAX v b W0 (hr.below M.o zL) (by omega))
 obtain⟨va,vc,hv⟩:∃ a c,v=.slice a b.length c:=by obtain⟨a,c,h,-⟩:=hr;exact⟨a,c,h⟩
 subst hv;obtain⟨l,ai⟩:∃ l,l=Zrg b:=⟨_,rfl⟩;rw[<-ai];by_cases T:(Zao b).2.2=0
 case neg=>
  have D:Hid (l=(Zbl,(((Zao b).2.2:Nat):Int))):=ZZ (by rw[ai];unfold Zrg;rw[if_pos T])
  have ha:ZAo b=([],(Zao b).2.2):=by unfold ZAo;rw[if_neg T]
  rw[ha] at G
  dsimp only at G
  generalize (Zao b).2.2=er at *;have al:((er:Int) != 0)=true:=by rw[bne_iff_ne];omega
  obtain⟨E,hE⟩:∃ E:Int,E=(er:Int):=⟨_,rfl⟩;rw[<-hE] at G D al;clear ha ai T hE hr
  go_enter func76,ntmps76
  go_wp2_with fail
  rw[<-ab];refine G.o.mono ?_;rintro e W1 ⟨U,rfl,Y,B⟩;have g:=ZZ (ax.o.below B zL);have Q:=ZZ (M.o.trans (B.mono M.o.size));obtain⟨y,y0⟩:=g.o.cell 0;obtain⟨q,y1⟩:=g.o.cell 1;obtain⟨p,y2⟩:=g.o.cell 2;obtain⟨x,y3⟩:=g.o.cell 3;obtain⟨z,y4⟩:=g.o.cell 4;obtain⟨A,y5⟩:=g.o.cell 5;clear B Y;go_wp2;refine bodyPost_ret (v:=.tuple #[.agg #[.int .i64 0,.int .i64 0,.slice none 0 0,.bool false,.int .i64 0,.slice none 0 0],.int .i64 E]) (by simp[results,Tryz.results76,go_sem,y,q,p,x,z,A]) rfl ?_
  rw[D.o];exact Zfv.zero _ (Zei Q.o _ zL _ _ _ _ _ _)
 have D:Hid (l=ZmQ (Zao b).1):=ZZ (by rw[ai];unfold Zrg;rw[if_neg (fun h=>h T)])
 have ha:ZAo b=((Zao b).1,0):=by unfold ZAo;rw[if_pos T]
 have au:=Zib (Zao b).1;rw[(Zit b.length b zL T).1] at au;rw[ha] at G
 dsimp only at G
 generalize (Zao b).1=LS at *;clear ha ai T hr
 cases LS with
 | nil=>
  rw[Zvx] at D
  go_enter func76,ntmps76
  go_wp2_with fail
  rw[<-ab];refine G.o.mono ?_;rintro e W1 ⟨U,rfl,Y,B⟩;obtain⟨a1,c1,aI⟩:∃ a c,U=.slice a 0 c:=by obtain⟨a,c,h,-⟩:=Y;exact⟨a,c,h⟩
  subst aI;have g:=ZZ (ax.o.below B zL);have Q:=ZZ (M.o.trans (B.mono M.o.size));obtain⟨y,y0⟩:=g.o.cell 0;obtain⟨q,y1⟩:=g.o.cell 1;obtain⟨p,y2⟩:=g.o.cell 2;obtain⟨x,y3⟩:=g.o.cell 3;obtain⟨z,y4⟩:=g.o.cell 4;obtain⟨A,y5⟩:=g.o.cell 5;clear B Y;go_wp2;refine bodyPost_ret (v:=.tuple #[.agg #[.int .i64 0,.int .i64 0,.slice none 0 0,.bool false,.int .i64 0,.slice none 0 0],.int .i64 16]) (by simp[results,Tryz.results76,go_sem,y,q,p,x,z,A]) rfl ?_
  rw[D.o];exact Zfv.zero _ (Zei Q.o _ zL _ _ _ _ _ _)
 | cons d P=>
  rw[Zst] at D;have bp:P.flatten.length<=100000:=by rw[List.flatten_cons,length_append,length_cons] at au;omega
  have bB:P.length<=100000:=by rw[List.flatten_cons,length_append,length_cons] at au;omega
  have aQ:Hid ((d::P).length=P.length+1):=ZZ rfl;have aD:=ZZ (fun U W h=>ZjJ U d W h)
  have bu:=ZZ (fun i n c vp W h=>ZzO i n c vp P W h bp bB)
  have a9:=ZZ (fun U W h=>ZoH U P.flatten W h bp)
  have aV:Hid (I64 ((ZbV d).1:Nat)):=ZZ (by
   have:(ZbV d).1<4611686018427387904:=by
    unfold ZbV;split
    ·decide
    dsimp only
    split
    ·decide
    split
    ·decide
    split
    ·decide
    rcases Zay (d.drop (1+(Zab (d.drop 1)).2)) with h | h
    ·rw[h];exact(by decide:(0:Nat)<4611686018427387904)
    ·exact h.1
   exact⟨by omega,by omega⟩)
  unfold ZBT at aD
  have ao:Hid (∀ (W:World) (n:Int),Below w.heap.size w W->l=(Zbl,n)->Zfv w l (.returned (.tuple #[.agg #[.int .i64 0,.int .i64 0,.slice none 0 0,.bool false,.int .i64 0,.slice none 0 0],.int .i64 n])) ((((((W.setCell ⟨w.heap.size,0,none⟩ (.int .i64 0)).setCell ⟨w.heap.size,1,none⟩ (.int .i64 0)).setCell ⟨w.heap.size,2,none⟩ (.slice none 0 0)).setCell ⟨w.heap.size,3,none⟩ (.bool false)).setCell ⟨w.heap.size,4,none⟩ (.int .i64 0)).setCell ⟨w.heap.size,5,none⟩ (.slice none 0 0))):=ZZ (fun W n h e=>by
   rw[e]
   exact Zfv.zero _ (Zei h _ zL _ _ _ _ _ _))
  clear au;generalize ZbV d=RM at *;obtain⟨f,J,I,me⟩:=RM
  dsimp only at D aD aV
  have bq:=ZZ (fun rb ro c h=>ZzP rb ro (d::P) c h (by simp))
  have bO:(P.length:Int)<=100000:=by omega
  go_enter func76,ntmps76
  go_wp2_with fail
  rw[<-ab];refine G.o.mono ?_;rintro e W1 ⟨U,rfl,Y,B⟩;have g:=ZZ (ax.o.below B zL);have Q:=ZZ (M.o.trans (B.mono M.o.size));have aN:=ZZ Y;obtain⟨a1,c1,aI,bd,-,-,bG⟩:=Y;subst aI;rcases bG with h0 | ⟨rb,ro,rfl,hc⟩
  ·cases h0
  obtain⟨x0,ba,aW⟩:=hc 0 (by simp)
  have bD:W1.cell? ⟨rb,ro,none⟩=some x0:=ba;have aJ:Rd W1 x0 d:=aW;have br:=ZZ aJ;obtain⟨xa,xc,bA⟩:∃ a c,x0=.slice a d.length c:=by obtain⟨a,c,h,-⟩:=aJ;exact⟨a,c,h⟩
  subst bA;obtain⟨ra,rc,a6,be⟩:=bq.o rb ro c1 bd;rw[aQ.o,Nat.add_sub_cancel] at a6;have aT:=ZZ (fun W h=>be W h)
  rw[aQ.o,Nat.add_sub_cancel,List.drop_one,List.tail_cons] at aT;rw[aQ.o] at aN ⊢;have bM:((P.length:Int)+1 == 0)=false:=beq_eq_false_iff_ne.2 (by omega)
  have bL:(0:Int)<(P.length:Int)+1:=by omega
  clear B hc ba aW be G bd bq aJ ab ax M
  go_wp2_with fail
  refine(aD.o _ _ br.o).mono ?_;rintro e W2 ⟨rfl,aj⟩;obtain⟨j,aq⟩:∃ j,j=W2.alloc (.cells #[.int .i64 (f:Int),.int .i64 (J:Int),.int .u32 (I:Int)] 147):=⟨_,rfl⟩;have az:Hid (Below W2.heap.size W2 j):=ZZ (by rw[aq];exact(Below.refl _ _).alloc zL _)
  have av:Hid (Bq j W2.heap.size #[.int .i64 (f:Int),.int .i64 (J:Int),.int .u32 (I:Int)]):=ZZ (by rw[aq];exact heap_alloc_new W2 _)
  have R:=ZZ ((g.o.below aj zL).below az.o zL);have aB:=ZZ ((Q.o.trans (aj.mono Q.o.size)).trans (az.o.mono (Nat.le_trans Q.o.size aj.size)));have bc:=ZZ ((aN.o.below aj zL).below az.o zL)
  go_upto_region 7 with fail
  rw[<-aq];obtain⟨O,bv⟩:∃ O,O=W2.heap.size:=⟨_,rfl⟩;rw[<-bv] at av ⊢;clear aq bv aj bD g Q aN aD br az;by_cases ae:me=0
  case neg=>
   have bI:(me != 0)=true:=by rw[bne_iff_ne];exact ae
   have N:Hid (l=(Zbl,me)):=ZZ (by rw[D.o,if_pos ae])
   obtain⟨y,y0⟩:=R.o.cell 0;obtain⟨q,y1⟩:=R.o.cell 1;obtain⟨p,y2⟩:=R.o.cell 2;obtain⟨x,y3⟩:=R.o.cell 3;obtain⟨z,y4⟩:=R.o.cell 4;obtain⟨A,y5⟩:=R.o.cell 5;clear ae;go_wp2;refine bodyPost_ret (v:=.tuple #[.agg #[.int .i64 0,.int .i64 0,.slice none 0 0,.bool false,.int .i64 0,.slice none 0 0],.int .i64 me]) (by simp[results,Tryz.results76,go_sem,y,q,p,x,z,A]) rfl ?_
   exact ao.o _ _ aB.o N.o
  have bI:(me != 0)=false:=by rw[bne_eq_false_iff_eq];exact ae
  have aC:Hid (l=if ZoI P J I≠0 then(Zbl,ZoI P J I) else if(ZbS P.flatten).2≠0 then(Zbl,(ZbS P.flatten).2) else if ZgA ⟨(f:Nat),(ZbS P.flatten).1.st,(ZbS P.flatten).1.tab⟩ then(⟨(f:Nat),(ZbS P.flatten).1.st,(ZbS P.flatten).1.tab⟩,0) else(Zbl,1)):=ZZ (by rw[D.o,if_neg (fun h=>h ae)])
  have af:=ZZ (fun W h=>bu.o (f:Int) J I (.slice ra P.length rc) W h)
  obtain⟨H,bm⟩:∃ H,H=ZoI P J I:=⟨_,rfl⟩;rw[<-bm] at aC af;unfold Joined at af;clear ae bm D bu;generalize P.flatten=FL at *;obtain⟨m,aM⟩:∃ m,m=if H=0 then FL else[]:=⟨_,rfl⟩
  rw[<-aM] at af;have bx:=ZZ aM;clear aM
  have aH:Hid (∀ W,Below j.heap.size j W->W.cell? ⟨O,0,none⟩=some (.int .i64 (f:Int))∧W.cell? ⟨O,1,none⟩=some (.int .i64 (J:Int))∧W.cell? ⟨O,2,none⟩=some (.int .u32 (I:Int))):=ZZ (fun W h=>by
   have hx:=av.o.below h zL
   exact⟨(hx.cell 0).1,(hx.cell 1).1,(hx.cell 2).1⟩)
  have ak:Hid (Below j.heap.size j j.drew):=ZZ ((Below.refl _ _).drew)
  go_upto_region 9 with fail
  go_cut[5,7] (fun x5 x7 wc=>∃ a c,x5=.int .i64 H∧x7=.slice a m.length c∧Hid (Rd wc (.slice a m.length c) m)∧Hid (Below j.heap.size j wc))
  case first=>
   go_region_held(fun w'=>w'.cell? ⟨O,0,none⟩=some (.int .i64 (f:Int))∧w'.cell? ⟨O,1,none⟩=some (.int .i64 (J:Int))∧w'.cell? ⟨O,2,none⟩=some (.int .u32 (I:Int))) (first | (with_reducible exact aH.o _ ak.o) | (with_reducible exact aH.o _ a3))
    (first
     | (go_at_call 116;refine(af.o j.drew (aT.o _ (bc.o.below ak.o zL))).mono ?_;rintro e W4 ⟨v4,rfl,aS,bk⟩;have a3:Below j.heap.size j W4:=ak.o.trans bk;have aF:=ZZ aS;obtain⟨a4,c4,bF⟩:∃ a c,v4=.slice a m.length c:=(by obtain⟨a,c,h,-⟩:=aS;exact⟨a,c,h⟩);subst bF;clear aS bk))
   all_goals
    go_wp2_with fail
    go_meet
    exact⟨a4,c4,rfl,rfl,aF,ZZ a3⟩
  case rest=>
   obtain⟨WC,rfl⟩:∃ W,W=wc:=⟨_,rfl⟩;obtain⟨a4,c4,rfl,rfl,aF,ap⟩:=hcut;have F:=ZZ (R.o.below ap.o zL);have bo:=ZZ (av.o.below ap.o zL);have aw:=ZZ (aB.o.trans (ap.o.mono aB.o.size));clear R av aB bc ap aH ak af aT a6;by_cases V:H=0
   case neg=>
    have bK:(H != 0)=true:=by rw[bne_iff_ne];exact V
    have N:Hid (l=(Zbl,H)):=ZZ (by rw[aC.o,if_pos V])
    obtain⟨y,y0⟩:=F.o.cell 0;obtain⟨q,y1⟩:=F.o.cell 1;obtain⟨p,y2⟩:=F.o.cell 2;obtain⟨x,y3⟩:=F.o.cell 3;obtain⟨z,y4⟩:=F.o.cell 4;obtain⟨A,y5⟩:=F.o.cell 5;clear V;go_wp2;refine bodyPost_ret (v:=.tuple #[.agg #[.int .i64 0,.int .i64 0,.slice none 0 0,.bool false,.int .i64 0,.slice none 0 0],.int .i64 H]) (by simp[results,Tryz.results76,go_sem,y,q,p,x,z,A]) rfl ?_
    exact ao.o _ _ aw.o N.o
   have bK:(H != 0)=false:=by rw[bne_eq_false_iff_eq];exact V
   have bz:m=FL:=by rw[bx.o,if_pos V]
   subst bz;have Z:Hid (l=if(ZbS m).2≠0 then(Zbl,(ZbS m).2) else if ZgA ⟨(f:Nat),(ZbS m).1.st,(ZbS m).1.tab⟩ then(⟨(f:Nat),(ZbS m).1.st,(ZbS m).1.tab⟩,0) else(Zbl,1)):=ZZ (by rw[aC.o,if_neg (fun h=>h V)])
   have a7:=ZZ (a9.o _ _ aF.o);clear V aC a9
   go_wp2_with fail
   refine a7.o.mono ?_;rintro e W5 ⟨vl,vt,S,t,ok,rfl,aU,a0,bi,aO,bf,aZ,bt,a2,am⟩;obtain⟨la,lc,bw⟩:∃ a c,vl=.slice a S.L.length c:=by obtain⟨a,c,h,-⟩:=aU;exact⟨a,c,h⟩
   obtain⟨ta,tc,bC⟩:=aO.shape;subst bw bC;obtain⟨u,ay⟩:∃ u,u=W5.alloc (.cells #[.int .i64 S.kind,.slice la S.L.length lc,.bool S.shut,.int .i64 S.eng] 38):=⟨_,rfl⟩;have ac:Hid (Below W5.heap.size W5 u):=ZZ (by rw[ay];exact(Below.refl _ _).alloc zL _)
   have ah:Hid (Bx u W5.heap.size #[.int .i64 S.kind,.slice la S.L.length lc,.bool S.shut,.int .i64 S.eng]):=ZZ (by rw[ay];exact heap_alloc_new W5 _)
   have K:=ZZ ((F.o.below am zL).below ac.o zL);have bH:=ZZ ((bo.o.below am zL).below ac.o zL);have aG:=ZZ (aw.o.trans (am.mono aw.o.size));have aK:=ZZ (aG.o.trans (ac.o.mono aG.o.size));have bh:=ZZ (aU.below ac.o zL);have aX:=ZZ (aO.below ac.o zL);have an:=ZZ (And.intro a0 bi);have aE:Hid ((∀ k,(Value.slice la S.L.length lc).ownBlock=some k->w.heap.size<k)∧(∀ k,(Value.slice ta t.length tc).ownBlock=some k->w.heap.size<k)):=ZZ ⟨fun k C=>by have h1:=bf k C;have h2:=F.o.lt;omega,fun k C=>by have h1:=aZ k C;have h2:=F.o.lt;omega⟩
   have bl:=ZZ bt;have bn:=ZZ a2
   go_upto_region 13 with fail
   rw[<-ay];obtain⟨QS,bj⟩:∃ QS,QS=W5.heap.size:=⟨_,rfl⟩;rw[<-bj] at ah ⊢;clear ay bj aU a0 bi aO bf aZ bt a2 am F bo aw a7 aF ac aG
   cases ok with
   | false=>
    have h3:=bl.o rfl;have N:Hid (l=(Zbl,3)):=ZZ (by rw[Z.o,if_pos (by rw[h3];decide),h3])
    obtain⟨y,y0⟩:=K.o.cell 0;obtain⟨q,y1⟩:=K.o.cell 1;obtain⟨p,y2⟩:=K.o.cell 2;obtain⟨x,y3⟩:=K.o.cell 3;obtain⟨z,y4⟩:=K.o.cell 4;obtain⟨A,y5⟩:=K.o.cell 5;clear h3;go_wp2;refine bodyPost_ret (v:=.tuple #[.agg #[.int .i64 0,.int .i64 0,.slice none 0 0,.bool false,.int .i64 0,.slice none 0 0],.int .i64 3]) (by simp[results,Tryz.results76,go_sem,y,q,p,x,z,A]) rfl ?_
    exact ao.o _ _ aK.o N.o
   | true=>
    obtain⟨er,bb,al⟩:=bn.o rfl;rw[bb] at Z
    dsimp only at Z
    have N:Hid (l=if ZgA ⟨(f:Nat),S,t⟩ then(⟨(f:Nat),S,t⟩,0) else(Zbl,1)):=ZZ (by
     rcases al with h | ⟨h,h2⟩
     ·rw[Z.o,if_neg (fun h'=>h' h)]
     ·rw[Z.o,if_pos (by rw[h];decide),h,h2,if_neg (ZwT _ _)])
    have aR:=ZZ (fun W (h:Below u.heap.size u W)=>Ztx (.agg #[.int .i64 ((f:Nat):Int),.int .i64 S.kind,.slice la S.L.length lc,.bool S.shut,.int .i64 S.eng,.slice ta t.length tc]) ⟨(f:Nat),S,t⟩ W ⟨_,_,rfl,bh.o.below h zL,an.o.1,an.o.2,aX.o.below h zL,aV.o⟩)
    obtain⟨m0,-⟩:=bH.o.cell 0;obtain⟨s0,-⟩:=ah.o.cell 0;obtain⟨s1,-⟩:=ah.o.cell 1;obtain⟨s2,-⟩:=ah.o.cell 2;obtain⟨s3,-⟩:=ah.o.cell 3;have ag:Hid (∀ X,Below u.heap.size u (u.alloc X)):=ZZ (fun X=>(Below.refl _ _).alloc zL X)
    have aY:Hid (∀ cs,Bn (u.alloc (.cells cs 41)) u.heap.size cs):=ZZ (fun cs=>heap_alloc_new u _)
    obtain⟨my,aL⟩:∃ my,my=decide (ZgA ⟨((f:Nat):Int),S,t⟩):=⟨_,rfl⟩;rw[<-aL] at aR;have a5:=ZZ aL;clear bb al bn bl Z aL
    go_wp2_with fail
    refine(aR.o _ (ag.o _)).mono ?_;rintro e W8 ⟨rfl,ar⟩;have aa:=ZZ ((K.o.below (ag.o _) zL).below ar zL);have ad:=ZZ ((aY.o _).below ar zL);have aA:=ZZ ((ag.o _).trans (ar.mono (ag.o _).size));have a8:=ZZ (aK.o.trans (aA.o.mono aK.o.size));have bE:=ZZ (bh.o.below aA.o zL);have bJ:=ZZ (aX.o.below aA.o zL);obtain⟨y,y0⟩:=aa.o.cell 0;obtain⟨q,y1⟩:=aa.o.cell 1;obtain⟨p,y2⟩:=aa.o.cell 2;obtain⟨x,y3⟩:=aa.o.cell 3;obtain⟨z,y4⟩:=aa.o.cell 4;obtain⟨A,y5⟩:=aa.o.cell 5;clear ar aR m0 s0 s1 s2 s3 K ag aY aA
    cases my with
    | false=>
     have aP:Hid (l=(Zbl,1)):=ZZ (by rw[N.o,if_neg (of_decide_eq_false a5.o.symm)])
     go_wp2;refine bodyPost_ret (v:=.tuple #[.agg #[.int .i64 0,.int .i64 0,.slice none 0 0,.bool false,.int .i64 0,.slice none 0 0],.int .i64 1]) (by simp[results,Tryz.results76,go_sem,y,q,p,x,z,A]) rfl ?_
     exact ao.o _ _ a8.o aP.o
    | true=>
     have aP:Hid (l=(⟨((f:Nat):Int),S,t⟩,0)):=ZZ (by rw[N.o,if_pos (of_decide_eq_true a5.o.symm)])
     obtain⟨q0,-⟩:=ad.o.cell 0;obtain⟨q1,-⟩:=ad.o.cell 1;obtain⟨q2,-⟩:=ad.o.cell 2;obtain⟨q3,-⟩:=ad.o.cell 3;obtain⟨q4,-⟩:=ad.o.cell 4;obtain⟨q5,-⟩:=ad.o.cell 5;go_wp2;refine bodyPost_ret (v:=.tuple #[.agg #[.int .i64 (f:Int),.int .i64 S.kind,.slice la S.L.length lc,.bool S.shut,.int .i64 S.eng,.slice ta t.length tc],.int .i64 0]) (by simp[results,Tryz.results76,go_sem,y,q,p,x,z,A]) rfl ?_
     rw[aP.o];have bg:=Ztp W8 w.heap.size (.int .i64 (f:Int)) (.int .i64 S.kind) (.slice la S.L.length lc) (.bool S.shut) (.int .i64 S.eng) (.slice ta t.length tc);exact⟨_,_,rfl,bE.o.but bg (.inr fun k C=>by have:=aE.o.1 k C;omega),an.o.1,an.o.2,bJ.o.but bg (.inr fun k C=>by have:=aE.o.2 k C;omega),aV.o,(fun k C=>Nat.le_of_lt (aE.o.1 k C)),(fun k C=>Nat.le_of_lt (aE.o.2 k C)),ZhM a8.o _ zL _ _ _ _ _ _⟩
def Zdl (m:List UInt8):Rec × Int × List UInt8 × Bool:=
 let m1:=behind (Zab m).2 m
 let m2:=behind (Zah m1).2 m1
 let m3:=behind (ZaC m2).2 m2
 (⟨0,(Zab m).1,0,(ZaC m2).1,zag (Zah m3).1⟩,zag (Zah m1).1,behind (Zah m3).2 m3,decide ((Zah m3).2≠0))
theorem Zic (m:List UInt8):∃ b c a,b=behind (Zab m).2 m∧c=behind (Zah b).2 b∧a=behind (ZaC c).2 c∧Zdl m=(⟨0,(Zab m).1,0,(ZaC c).1,zag (Zah a).1⟩,zag (Zah b).1,behind (Zah a).2 a,decide ((Zah a).2≠0)):=
 ⟨_,_,_,rfl,rfl,rfl,rfl⟩
theorem Zqz:(ZaC []).2=0:=by
 have:=Zta [];simpa using this
theorem ZfC {d:Nat} (h:behind d l≠[]):d≠0:=fun e=>h (by rw[e];rfl)
theorem Znu (h:(Zah l).2≠0):l≠[]:=fun e=>h (by rw[e,Zem])
theorem Zvy (h:(Zab l).2≠0):l≠[]:=fun e=>h (by rw[e,Zgh])
theorem Zvz (h:(ZaC l).2≠0):l≠[]:=fun e=>h (by rw[e];exact Zqz)
theorem ZlL (h:(Zab l).2≠0):l=Lib.uvarint (Zab l).1++behind (Zab l).2 l:=by
 rw[Zbh h,ZbD h,List.take_append_drop]
theorem ZqA (h:(Zah l).2≠0):l=Lib.uvarint (Zah l).1++behind (Zah l).2 l:=by
 rw[Zbh h,ZmN h,List.take_append_drop]
theorem ZxS (h:(ZaC l).2≠0):l=ZaX (ZaC l).1++behind (ZaC l).2 l:=by
 rw[Zbh h,(Zkq h).2,List.take_append_drop]
theorem ZxT {m:List UInt8} (h:(Zdl m).2.2.2=false):(Zdl m).2.2.1=[]:=by
 unfold Zdl at h ⊢;simp only [decide_eq_false_iff_not,Decidable.not_not] at h ⊢;rw[h];rfl
theorem take_nil:(Zdl []).2.2.2=false:=by
 obtain⟨i,h,j,f,d,a,g⟩:=Zic [];have e:i=[]:=by rw[f,Zgh];rfl
 have c:h=[]:=by rw[d,e,Zem];rfl
 have b:j=[]:=by rw[a,c,Zqz];rfl
 rw[g,b];show decide ((Zah []).2≠0)=false;rw[Zem];rfl
theorem ZvA {m:List UInt8} (h:(Zdl m).2.2.2=true):
 m=Lib.uvarint (Zdl m).1.proc.toNat++(Lib.uvarint (Lib.zigzag (Zdl m).2.1)++(ZaX (Zdl m).1.op++(Lib.uvarint (Lib.zigzag (Zdl m).1.resp)++(Zdl m).2.2.1))):=by
 obtain⟨a,b,c,k,g,d,q⟩:=Zic m;rw[q] at h ⊢;simp only [decide_eq_true_eq] at h;have n:(ZaC b).2≠0:=ZfC (l:=b) (by rw[<-d];exact Znu h)
 have j:(Zah a).2≠0:=ZfC (l:=a) (by rw[<-g];exact Zvz n)
 have p:(Zab m).2≠0:=ZfC (l:=m) (by rw[<-k];exact Znu j)
 have t:=ZqA h;have e:=ZxS n;have f:=ZqA j;have i:=ZlL p;rw[<-k] at i;rw[<-g] at f;rw[<-d] at e;show m=Lib.uvarint ((Zab m).1:Int).toNat++(Lib.uvarint (Lib.zigzag (zag (Zah a).1))++(ZaX (ZaC b).1++(Lib.uvarint (Lib.zigzag (zag (Zah c).1))++behind (Zah c).2 c)));rw[Int.toNat_natCast,ZeT,ZeT];exact i.trans (congrArg (Lib.uvarint (Zab m).1++·) (f.trans (congrArg (Lib.uvarint (Zah a).1++·) (e.trans (congrArg (ZaX (ZaC b).1++·) t)))))
theorem ZxU (m:List UInt8):I64 (Zdl m).1.proc∧I64 (Zdl m).2.1∧ZAx (Zdl m).1.op∧I64 (Zdl m).1.resp∧(Zdl m).1.idx=0∧(Zdl m).1.seq=0∧0<=(Zdl m).1.proc:=by
 have a:∀ l:List UInt8,I64 (zag (Zah l).1):=fun l=>Zrd (ZnI l)
 have v:(Zab m).1<4611686018427387904:=by
  rcases Zay m with e | e
  ·rw[e];decide
  ·exact e.1
 have p:∀ l:List UInt8,ZAx (ZaC l).1:=fun l=>by
  by_cases h:(ZaC l).2=0
  ·rw[ZtW h]
   exact⟨⟨by decide,by decide⟩,⟨by decide,by decide⟩,⟨by decide,by decide⟩⟩
  ·have b:=(Zkq h).1
   have d:=ZdK b;obtain⟨u,t,_⟩:=b;refine⟨?_,d.1,d.2⟩;generalize (ZaC l).1.code=c at *;exact⟨by omega,by omega⟩
 obtain⟨k,i,g,x,w,q,f⟩:=Zic m;have n:I64 ((Zab m).1:Int):=⟨by omega,by omega⟩
 have j:(0:Int)<=((Zab m).1:Int):=by omega
 rw[f];exact⟨n,a k,p i,a g,rfl,rfl,j⟩
theorem ZBd (m:List UInt8):(Zdl m).2.2.1.length<=m.length:=by
 obtain⟨d,c,f,i,h,g,j⟩:=Zic m;rw[j];have b:=ZbT (Zab m).2 m;have a:=ZbT (Zah d).2 d;have e:=ZbT (ZaC c).2 c;have k:=ZbT (Zah f).2 f;rw[<-i] at b;rw[<-h] at a;rw[<-g] at e;exact Nat.le_trans k (Nat.le_trans e (Nat.le_trans a b))
theorem ZzQ {a:List Rec} (k:∀ r ∈ a,ZaA r) {r:Rec} (c:ZaA r) (t:List UInt8):
 Zdl (ZbJ a r++t)=(⟨0,r.proc,0,r.op,r.resp⟩,r.seq-Zav a r.proc,t,true):=by
 have b:=ZhC k c;have d:=ZdY c;obtain⟨l,_,_,m,p,n,q,_⟩:=id c
 have E:ZbJ a r++t=Lib.uvarint r.proc.toNat++(Lib.uvarint (Lib.zigzag (r.seq-Zav a r.proc))++(ZaX r.op++(Lib.uvarint (Lib.zigzag r.resp)++t))):=by
  unfold ZbJ;simp only [append_assoc]
 rw[E]
 have e:(ZaX r.op).length≠0:=by
  unfold ZaX;have:=Zhz r.op.code.toNat;rw[length_append];omega
 have g:=ZaT r.proc.toNat (Lib.uvarint (Lib.zigzag (r.seq-Zav a r.proc))++(ZaX r.op++(Lib.uvarint (Lib.zigzag r.resp)++t))) (by omega)
 have h:=ZbN (Lib.zigzag (r.seq-Zav a r.proc)) (ZaX r.op++(Lib.uvarint (Lib.zigzag r.resp)++t)) (ZeV b);have f:=Zpa r.op l (Lib.uvarint (Lib.zigzag r.resp)++t);have i:=ZbN (Lib.zigzag r.resp) t (ZeV d);unfold Zdl;simp only [g,Zbh (Zhz _),List.drop_left,h,f,Zbh e,i,ZdU _ b.1 b.2,ZdU _ d.1 d.2];have j:((r.proc.toNat:Nat):Int)=r.proc:=by omega
 rw[j,decide_eq_true (Zhz _)]
theorem ZfD {ao:Option Addr} {cap:Nat} (g:Rd w (.slice ao l.length cap) l) (d:Nat) (h:d<=l.length):
 ∃ b a,(∀ W,(Instr.sliceAt 53 (.slice ao l.length cap) (some (.int .i64 (d:Int))) none none).run prog W=.ok (.slice b (l.drop d).length a) W)∧Rd w (.slice b (l.drop d).length a) (l.drop d):=by
 obtain⟨k,j,e,i,r⟩:=id g;simp only [Value.slice.injEq] at e;obtain⟨rfl,_,rfl⟩:=e;have c:=g.mid d l.length cap h zL i zL;rw[List.take_of_length_le (by simp)] at c
 obtain⟨b,a,f,-⟩:=id c;rw[f] at c;refine⟨b,a,fun W=>?_,c⟩
 rw[run_sliceAt_slice W 53 _ _ _ _ ZaF,run_slice_l W 53 ao l.length cap ZaF .i64 (d:Int) (by omega) (by omega),ZbU,Zfs]
 show Result.ok (sliced ao ((d:Int)).toNat l.length cap 1) W=_;rw[Int.toNat_natCast,f]
def Zmj (w:World) (g:Nat) (L:List Rec):Prop:=w.heap[g]?=some (.cells (Zan L).toArray 62 (0,0))
theorem Zmj.lt (h:Zmj w g L):g<w.heap.size:=(Array.getElem?_eq_some_iff.1 h).1
theorem Zmj.below (h:Zmj w g L) (a:Below B w w') (b:w.heap.size<=B):Zmj w' g L:=(a.block g (by have:=h.lt;omega)).trans h
theorem Zmj.cell (h:Zmj w g L) (i:Nat):w.cell? ⟨g,i,none⟩=(Zan L)[i]?∧w.frozen? ⟨g,i,none⟩=false:=
 ⟨(cell_of_row w g i _ _ _ h).trans (by simp),frozen_of_row w g i _ _ h⟩
theorem Zmj.at (h:Zmj w g L) {k:Nat} (d:k<L.length):Zmq w g (k*7) (L.getD k Zaj):=by
 have a:∀ j u,j<7->(Zeo (L.getD k Zaj))[j]?=some u->w.cell? ⟨g,k*7+j,none⟩=some u:=fun j u b c=>(h.cell _).1.trans ((ZeA L k j d b).trans c)
 exact⟨a 0 _ (by decide) rfl,a 1 _ (by decide) rfl,a 2 _ (by decide) rfl,a 3 _ (by decide) rfl,a 4 _ (by decide) rfl,a 5 _ (by decide) rfl,a 6 _ (by decide) rfl⟩
theorem Zjt:∀ (L:List Rec) (k j:Nat) (v:Value) (r:Rec),k<L.length->j<7->(Zeo r).toList=(Zeo (L.getD k Zaj)).toList.set j v->(Zan L).set (k*7+j) v=Zan (L.set k r)
 | s::t,0,j,v,r,_,hj,h=>by
  have e:((s::t).getD 0 Zaj)=s:=rfl;rw[e] at h;rw[Zan,Nat.zero_mul,Nat.zero_add,List.set_append_left _ _ (by simp[Zeo];omega),<-h]
  rfl
 | s::t,k+1,j,v,r,hk,hj,h=>by
  have e:(k+1)*7+j=(Zeo s).toList.length+(k*7+j):=by simp[Zeo];omega
  have a:((s::t).getD (k+1) Zaj)=t.getD k Zaj:=by simp[List.getD]
  rw[a] at h;rw[Zan,e,List.set_append_right _ _ (by omega),Nat.add_sub_cancel_left,Zjt t k j v r (by simpa using hk) hj h]
  rfl
theorem Zmj.set (h:Zmj w g L) {k:Nat} (c:k<L.length) (j:Nat) (a:j<7) (v:Value) (r:Rec) (b:(Zeo r).toList=(Zeo (L.getD k Zaj)).toList.set j v):
 Zmj (w.setCell ⟨g,k*7+j,none⟩ v) g (L.set k r):=by
 have:=heap_setCell_same w g (k*7+j) _ _ v h;unfold Zmj;rw[<-Zjt L k j v r c a b];simpa using this
theorem Zdq (a:k<L.length) (r:Rec):(L.set k r).getD k Zaj=r:=by simp[List.getD,a]
theorem Zmj.seven (h:Zmj w g L) {k:Nat} (d:k<L.length) (i p s c a b y:Int):
 Zmj (((((((w.setCell ⟨g,k*7,none⟩ (.int .i64 i)).setCell ⟨g,k*7+1,none⟩ (.int .i64 p)).setCell ⟨g,k*7+2,none⟩ (.int .i64 s)).setCell ⟨g,k*7+3,none⟩ (.int .i64 c)).setCell ⟨g,k*7+4,none⟩ (.int .i64 a)).setCell ⟨g,k*7+5,none⟩ (.int .i64 b)).setCell ⟨g,k*7+6,none⟩ (.int .i64 y)) g (L.set k ⟨i,p,s,⟨c,a,b⟩,y⟩):=by
 have f:∀ r,k<(L.set k r).length:=fun r=>by simpa using d
 generalize A:L.getD k Zaj=R;obtain⟨D,C,u,⟨m,l,j⟩,e⟩:=R;have B:=h.set d 0 (by decide) (.int .i64 i) ⟨i,C,u,⟨m,l,j⟩,e⟩ (by rw[A];rfl)
 have z:=B.set (f _) 1 (by decide) (.int .i64 p) ⟨i,p,u,⟨m,l,j⟩,e⟩ (by rw[Zdq d];rfl)
 rw[List.set_set] at z;have v:=z.set (f _) 2 (by decide) (.int .i64 s) ⟨i,p,s,⟨m,l,j⟩,e⟩ (by rw[Zdq d];rfl)
 rw[List.set_set] at v;have q:=v.set (f _) 3 (by decide) (.int .i64 c) ⟨i,p,s,⟨c,l,j⟩,e⟩ (by rw[Zdq d];rfl)
 rw[List.set_set] at q;have n:=q.set (f _) 4 (by decide) (.int .i64 a) ⟨i,p,s,⟨c,a,j⟩,e⟩ (by rw[Zdq d];rfl)
 rw[List.set_set] at n;have x:=n.set (f _) 5 (by decide) (.int .i64 b) ⟨i,p,s,⟨c,a,b⟩,e⟩ (by rw[Zdq d];rfl)
 rw[List.set_set] at x;have t:=x.set (f _) 6 (by decide) (.int .i64 y) ⟨i,p,s,⟨c,a,b⟩,y⟩ (by rw[Zdq d];rfl)
 rw[List.set_set] at t;exact t
theorem Zmj.rd (h:Zmj w g L) (b:∀ r ∈ L,Zga r) (c:L.length<=maxLen):RdR w (.slice (some ⟨g,0,none⟩) L.length L.length) L:=
 ⟨_,_,rfl,Nat.le_refl _,c,(fun e=>by cases e),b,.inr ⟨g,0,rfl,fun j a=>by rw[Nat.zero_add];exact h.at a⟩⟩
theorem Zid:∀ n:Nat,Zan (List.replicate n Zaj)=List.replicate (n*7) (Value.int .i64 0)
 | 0=>rfl
 | n+1=>by
  have e:(n+1)*7=7+n*7:=by omega
  rw[List.replicate_succ,Zan,Zid n,e,<-List.replicate_append_replicate];rfl
theorem ZoJ (w:World) (n:Nat) (l:n<=1000000):(Instr.makeSlice 29 (.int .i64 (n:Int)) (.int .i64 (n:Int))).run prog w=.ok (.slice (some ⟨w.heap.size,0,none⟩) n n) (w.alloc (.cells (Zan (List.replicate n Zaj)).toArray 62)):=by
 obtain⟨g,a,f,c,d⟩:=info_parts Zgs;have h:=run_make (P:=prog) w 29 62 g _ underlying29 a f .i64 .i64 (n:Int) (n:Int) (by omega) (Int.le_refl _) (by rw[d];omega) (by omega)
 rw[Int.toNat_natCast,c] at h;rw[h]
 congr 3
 apply Array.ext';rw[Zid];apply List.ext_getElem?;intro i;show(madeCells #[Value.int .i64 0,.int .i64 0,.int .i64 0,.int .i64 0,.int .i64 0,.int .i64 0,.int .i64 0] (n*7)).toList[i]?=_;by_cases a:i<n*7
 ·have k:i % 7<7:=Nat.mod_lt _ (by decide)
  have e:∀ j,j<7->(#[Value.int .i64 0,.int .i64 0,.int .i64 0,.int .i64 0,.int .i64 0,.int .i64 0,.int .i64 0]:Array Value)[j]! = .int .i64 0:=by
   intro j b
   match j,b with
   | 0,_ | 1,_ | 2,_ | 3,_ | 4,_ | 5,_ | 6,_=>rfl
  simp only [madeCells,Array.toList_map,Array.toList_range,List.getElem?_map,List.getElem?_range a,Option.map_some,List.getElem?_replicate,if_pos a];exact congrArg some (e (i % 7) k)
 ·simp[madeCells,a]
structure Zsv (b:List UInt8) (first count:Nat) (L:List Rec) (m:List UInt8) (t:Bool):Prop where
 chain:Zbb first L
 ok:∀ r ∈ L,Zga r
 sound:t=true->(∀ r ∈ L,ZaA r)->b=Lib.uvarint first++(Lib.uvarint count++(Zbs [] L++m))
 none:t=false->m=[]
 whole:∀ l',ZbE l'->ZdF l'=b->l'.length=count∧L=l'.take L.length∧m=Zbs (l'.take L.length) (l'.drop L.length)∧t=true∧(l'.headD Zaj).idx=first
def Zgj (first:Nat) (L:List Rec) (r:Rec) (d:Int):Rec:=⟨(first:Int)+L.length,r.proc,IntKind.i64.wrap (Zav L r.proc+d),r.op,r.resp⟩
theorem ZlM (n:Int):I64 (IntKind.i64.wrap n):=by
 unfold I64;rw[IntKind.wrap_i64];omega
theorem ZxV {a d:Int} (h:0<=a) (e:a<4611686018427387904) (b:I64 d) (i:0<=IntKind.i64.wrap (a+d)) (f:IntKind.i64.wrap (a+d)<4611686018427387904):IntKind.i64.wrap (a+d)-a=d:=by
 obtain⟨g,c⟩:=b;rw[IntKind.wrap_i64] at *;omega
theorem Zsv.step {b:List UInt8} {j:Nat} (h:Zsv b first j L m t) (hf:first<4611686018427387904) (ab:L.length<j) (hc:j<=256)
 {R:Rec} {d:Int} {m':List UInt8} {l:Bool} (k:Zdl m=(R,d,m',l)):
 Zsv b first j (L++[Zgj first L R d]) m' l:=by
 have x:=ZxU m;have z:=@ZxT m;have w:=@ZvA m
 have F:m=[]->l=false:=fun e=>by
  have:=take_nil;rw[<-e,k] at this;exact this
 rw[k] at x z w;obtain⟨X,H,Y,V,-,-,ac⟩:=x;refine⟨?_,?_,?_,z,?_⟩
 ·exact(ZiQ L first (Zgj first L R d)).2 ⟨h.chain,rfl⟩
 ·intro r hr
  rcases List.mem_append.1 hr with hr | hr
  ·exact h.ok r hr
  ·simp only [List.mem_singleton] at hr
   rw[hr];have g:I64 ((first:Int)+L.length):=⟨by omega,by omega⟩
   exact⟨g,X,ZlM _,Y,V⟩
 ·intro c y
  have n:m≠[]:=fun e=>by
   rw[F e] at c
   cases c
  have D:t=true:=by
   cases t with
   | true=>rfl
   | false=>exact absurd (h.none rfl) n
  have q:∀ r ∈ L,ZaA r:=fun r hr=>y r (by simp[hr])
  have P:ZaA (Zgj first L R d):=y _ (by simp)
  have G:=h.sound D q;have S:=w c;obtain⟨I,s1⟩:=ZmR R.proc q;obtain⟨_,_,_,K,O,_⟩:=P;have J:(Zgj first L R d).seq-Zav L (Zgj first L R d).proc=d:=ZxV I s1 H K O
  have E:Zbs [] (L++[Zgj first L R d])=Zbs [] L++ZbJ L (Zgj first L R d):=by
   rw[ZkD];simp[Zbs]
  have h1:ZbJ L (Zgj first L R d)++m'=m:=by
   unfold ZbJ;rw[J];refine Eq.trans ?_ S.symm;simp only [append_assoc];rfl
  rw[E,append_assoc,h1];exact G
 ·intro a i A
  obtain⟨W,p,C,w4,v⟩:=h.whole a i A;have f:L.length<a.length:=by omega
  have u:ZaA (a.getD L.length Zaj):=i.2.2.1 _ (by simp[List.getD,f])
  have aa:∀ r ∈ L,ZaA r:=fun r hr=>by
   rw[p] at hr;exact i.2.2.1 r (mem_of_mem_take hr)
  have ed:a.drop L.length=a.getD L.length Zaj::a.drop (L.length+1):=by
   rw[List.drop_eq_getElem_cons f];simp[List.getD,f]
  have n:m=ZbJ L (a.getD L.length Zaj)++Zbs (L++[a.getD L.length Zaj]) (a.drop (L.length+1)):=by
   rw[C,ed,Zbs,<-p]
  have c:=ZzQ aa u (Zbs (L++[a.getD L.length Zaj]) (a.drop (L.length+1)));rw[<-n,k] at c;have g:=Zqk a _ _ i.2.2.2 f;rw[v] at g;have M:(L++[Zgj first L R d]).length=L.length+1:=by simp
  rw[M,ZiP f];rw[<-p];generalize a.getD L.length Zaj=r at *;simp only [Prod.mk.injEq] at c;obtain⟨B,U,Z,Q⟩:=c
  have T:Zgj first L R d=r:=by
   obtain⟨_,_,_,q0,q1,_⟩:=u;unfold Zgj;rw[B,U];have N:Zav L r.proc+(r.seq-Zav L r.proc)=r.seq:=by omega
   show(⟨_,r.proc,IntKind.i64.wrap (Zav L r.proc+(r.seq-Zav L r.proc)),r.op,r.resp⟩:Rec)=_;rw[N,Zri ⟨by omega,by omega⟩,<-g]
  rw[T];exact⟨W,rfl,Z,Q,v⟩
theorem Zsv.done {b:List UInt8} (h:Zsv b first L.length L m t):
 (t=true∧m=[]∧ZbE L->ZdF L=b)∧(¬ (t=true∧m=[]∧ZbE L)->∀ a,ZbE a->ZdF a≠b):=by
 constructor
 ·rintro⟨ht,hm,hf⟩
  have d:=h.sound ht hf.2.2.1;rw[hm,List.append_nil] at d;rw[d];unfold ZdF;have c:=h.chain;have p:=hf.1
  match L,p,c with
  | r::u,_,c=>
   have e:r.idx=(first:Int):=c.1;show Lib.uvarint r.idx.toNat++_=_;rw[e,Int.toNat_natCast]
 ·intro l a f j
  obtain⟨i,g,k,n,q⟩:=h.whole a f j;rw[<-i,take_length] at g;refine l ⟨n,?_,by rw[g];exact f⟩
  rw[k,<-i,List.drop_length];rfl
theorem Zhh (x:Int) (d:Nat) (v:Value) (m:List UInt8) (w:World) (g:Rd w v m) (n:d<=m.length)
 (b:Calls prog 168 #[v] w fun e w'=>e=.returned (.tuple #[.int .i64 x,.int .i64 (d:Nat)])∧w'=w):
 Calls prog 167 #[v,.func (.func 168) #[] #[]] w fun e w'=>∃ v',e=.returned (.tuple #[.int .i64 x,v',.bool (decide (d≠0))])∧Rd w' v' (behind d m)∧Below w.heap.size w w':=by
 have f:=ZZ b;have h:=ZZ g;obtain⟨ao,cap,rfl,-⟩:=g;by_cases a:d=0
 ·subst a
  clear b
  go_enter func167,ntmps167
  go_wp2_with fail
  refine f.o.mono ?_;rintro e w' ⟨rfl,rfl⟩;go_wp2;refine bodyPost_ret (v:=.tuple #[.int .i64 x,.slice none 0 0,.bool false]) (by simp[results,Tryz.results167,go_sem]) rfl ?_
  exact⟨_,rfl,Rd.nil _,Below.refl _ _⟩
 ·have q:((d:Int) == 0)=false:=beq_eq_false_iff_ne.2 (by omega)
  have l:Hid (behind d m=m.drop d):=if_neg a;have j:Hid (decide (d≠0)=true):=decide_eq_true a;obtain⟨p,i,hcut,c⟩:=ZfD h.o d n;have k:=ZZ c;clear b a c;generalize m.drop d=M at *
  go_enter func167,ntmps167
  go_wp2_with fail
  refine f.o.mono ?_;rintro e w' ⟨rfl,rfl⟩;go_wp2;refine wp_region_quiet_lit (by kernel_rfl) (by kernel_rfl) ?_
  repeat (go_big_quiet_step (fail))
  refine wpQuiet_nil ?_;rintro _ ⟨nq,rfl⟩;go_wp2;refine bodyPost_ret (v:=.tuple #[.int .i64 x,.slice p M.length i,.bool true]) (by simp[results,Tryz.results167,go_sem]) rfl ?_
  refine⟨_,by rw[j.o],?_,ZaI (Below.refl _ _) _⟩
  rw[l.o];exact k.o.below (ZaI (Below.refl _ _) _) zL
theorem ZgK (x:Int) (d:Nat) (v:Value) (m:List UInt8) (w:World) (g:Rd w v m) (n:d<=m.length)
 (b:Calls prog 201 #[v] w fun e w'=>e=.returned (.tuple #[.int .i64 x,.int .i64 (d:Nat)])∧w'=w):
 Calls prog 167 #[v,.func (.func 201) #[] #[]] w fun e w'=>∃ v',e=.returned (.tuple #[.int .i64 x,v',.bool (decide (d≠0))])∧Rd w' v' (behind d m)∧Below w.heap.size w w':=by
 have f:=ZZ b;have h:=ZZ g;obtain⟨ao,cap,rfl,-⟩:=g;by_cases a:d=0
 ·subst a
  clear b
  go_enter func167,ntmps167
  go_wp2_with fail
  refine f.o.mono ?_;rintro e w' ⟨rfl,rfl⟩;go_wp2;refine bodyPost_ret (v:=.tuple #[.int .i64 x,.slice none 0 0,.bool false]) (by simp[results,Tryz.results167,go_sem]) rfl ?_
  exact⟨_,rfl,Rd.nil _,Below.refl _ _⟩
 ·have q:((d:Int) == 0)=false:=beq_eq_false_iff_ne.2 (by omega)
  have l:Hid (behind d m=m.drop d):=if_neg a;have j:Hid (decide (d≠0)=true):=decide_eq_true a;obtain⟨p,i,hcut,c⟩:=ZfD h.o d n;have k:=ZZ c;clear b a c;generalize m.drop d=M at *
  go_enter func167,ntmps167
  go_wp2_with fail
  refine f.o.mono ?_;rintro e w' ⟨rfl,rfl⟩;go_wp2;refine wp_region_quiet_lit (by kernel_rfl) (by kernel_rfl) ?_
  repeat (go_big_quiet_step (fail))
  refine wpQuiet_nil ?_;rintro _ ⟨nq,rfl⟩;go_wp2;refine bodyPost_ret (v:=.tuple #[.int .i64 x,.slice p M.length i,.bool true]) (by simp[results,Tryz.results167,go_sem]) rfl ?_
  refine⟨_,by rw[j.o],?_,ZaI (Below.refl _ _) _⟩
  rw[l.o];exact k.o.below (ZaI (Below.refl _ _) _) zL
theorem Bo.set (h:Bo w b cs) (j:Nat) (x:Value):Bo (w.setCell ⟨b,j,none⟩ x) b (cs.setIfInBounds j x):=by
 have:=heap_setCell_same w b j _ _ x h;unfold Bo;simpa using this
theorem Bo.three {d e c:Value} (h:Bo w b #[d,e,c]) (x y z:Value):Bo (((w.setCell ⟨b,0,none⟩ x).setCell ⟨b,1,none⟩ y).setCell ⟨b,2,none⟩ z) b #[x,y,z]:=by
 have a:=((h.set 0 x).set 1 y).set 2 z;exact a
theorem ZvB (v:Value) (m:List UInt8) (w:World) (D:Rd w v m) (F:m.length<=1000000):
 Calls prog 208 #[v,.func (.func 209) #[] #[]] w fun e w'=>∃ v',e=.returned (.tuple #[opV (ZaC m).1,v',.bool (decide ((ZaC m).2≠0))])∧Rd w' v' (behind (ZaC m).2 m)∧Below w.heap.size w w':=by
 have u:=ZZ (fun W h=>ZxQ v m W h F)
 unfold ZwY at u;have t:=ZZ D;have Q:=Zta m;obtain⟨ao,cap,rfl,-⟩:=D;have l:Hid (∀ X,Below w.heap.size w (w.alloc X)):=fun X=>(Below.refl _ _).alloc zL X
 generalize (ZaC m).2=d at *;generalize (ZaC m).1=o at *;have C:Hid (∀ cs,Bo (w.alloc (.cells cs 52)) w.heap.size cs):=fun cs=>heap_alloc_new w _
 unfold opV at *;obtain⟨f,a,b⟩:=o
 dsimp only at *
 by_cases n:d=0
 ·subst n
  go_enter func208,ntmps208
  go_wp2_with fail
  refine(u.o _ (t.o.below (l.o _) zL)).mono ?_;rintro e g ⟨rfl,j⟩;have c:Bo g w.heap.size _:=(C.out _).below j zL;obtain⟨T,G⟩:=c.cell 0;obtain⟨P,U⟩:=c.cell 1;obtain⟨R,J⟩:=c.cell 2;have x:=ZZ ((l.o _).trans (j.mono (l.o _).size));have I:=c.lt;have S:g.heap.size≠w.heap.size:=by omega
  have E:w.heap.size≠g.heap.size:=by omega
  have y:=ZZ c;clear j c;go_wp2;have i:Bo ((((g.setCell ⟨w.heap.size,0,none⟩ (.int .i64 f)).setCell ⟨w.heap.size,1,none⟩ (.int .i64 a)).setCell ⟨w.heap.size,2,none⟩ (.int .i64 b)).alloc (.cells #[.int .i64 f,.int .i64 a,.int .i64 b] 52)) w.heap.size #[.int .i64 f,.int .i64 a,.int .i64 b]:=(y.o.three _ _ _).below ((Below.refl _ _).alloc zL _) zL;have z:=(i.cell 0).1;have A:=(i.cell 1).1;have q:=(i.cell 2).1;have k:=ZZ (((x.o.setCell (p:=⟨w.heap.size,0,none⟩) zL (.int .i64 f)).setCell (p:=⟨w.heap.size,1,none⟩) zL (.int .i64 a)).setCell (p:=⟨w.heap.size,2,none⟩) zL (.int .i64 b));clear i;refine bodyPost_ret (v:=.tuple #[.agg #[.int .i64 f,.int .i64 a,.int .i64 b],.slice none 0 0,.bool false]) (by simp[results,Tryz.results208,go_sem,z,A,q]) rfl ?_
  exact⟨_,rfl,Rd.nil _,k.o.alloc k.o.size _⟩
 ·have V:((d:Int) == 0)=false:=beq_eq_false_iff_ne.2 (by omega)
  have N:Hid (behind d m=m.drop d):=if_neg n;have K:Hid (decide (d≠0)=true):=decide_eq_true n;obtain⟨O,H,hcut,B⟩:=ZfD t.o d Q;have L:=ZZ B;clear n B;generalize m.drop d=M at *
  go_enter func208,ntmps208
  go_wp2_with fail
  refine(u.o _ (t.o.below (l.o _) zL)).mono ?_;rintro e g ⟨rfl,j⟩;have c:Bo g w.heap.size _:=(C.out _).below j zL;obtain⟨T,G⟩:=c.cell 0;obtain⟨P,U⟩:=c.cell 1;obtain⟨R,J⟩:=c.cell 2;have x:=ZZ ((l.o _).trans (j.mono (l.o _).size));have I:=c.lt;have S:g.heap.size≠w.heap.size:=by omega
  have E:w.heap.size≠g.heap.size:=by omega
  have y:=ZZ c;clear j c;go_wp2
  go_region
  all_goals
   go_wp2;have i:Bo ((((g.setCell ⟨w.heap.size,0,none⟩ (.int .i64 f)).setCell ⟨w.heap.size,1,none⟩ (.int .i64 a)).setCell ⟨w.heap.size,2,none⟩ (.int .i64 b)).alloc (.cells #[.int .i64 f,.int .i64 a,.int .i64 b] 52)).drew w.heap.size #[.int .i64 f,.int .i64 a,.int .i64 b]:=(y.o.three _ _ _).below (((Below.refl _ _).alloc zL _).drew) zL;have z:=(i.cell 0).1;have A:=(i.cell 1).1;have q:=(i.cell 2).1;have k:=ZZ (((x.o.setCell (p:=⟨w.heap.size,0,none⟩) zL (.int .i64 f)).setCell (p:=⟨w.heap.size,1,none⟩) zL (.int .i64 a)).setCell (p:=⟨w.heap.size,2,none⟩) zL (.int .i64 b));clear i;refine bodyPost_ret (v:=.tuple #[.agg #[.int .i64 f,.int .i64 a,.int .i64 b],.slice O M.length H,.bool true]) (by simp[results,Tryz.results208,go_sem,z,A,q]) rfl ?_
   refine⟨_,by rw[K.o],?_,(k.o.alloc k.o.size _).drew⟩
   rw[N.o];exact L.o.below (k.o.alloc k.o.size _).drew zL
end Go.Proofs.YtnahjngbneicaaaGreatDoor
