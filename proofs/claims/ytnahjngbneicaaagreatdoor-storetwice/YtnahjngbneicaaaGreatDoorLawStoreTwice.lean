/- Proved: for every room and kind, all calls and every loss of power the law StoreTwice answers true (and the call leaves all older memory as it was), where the listed variable has its listed value. -/
import Derived.Test.YtnahjngbneicaaaGreatDoorStoreRunR
import Derived.Test.YtnahjngbneicaaaGreatDoorStoreFall
import Derived.Test.YtnahjngbneicaaaGreatDoorSchemaTab
namespace Go.Proofs.YtnahjngbneicaaaGreatDoor.storeTwice
set_option maxRecDepth 100000
open Go.ChangeShapes Go.WideShapes Go.ChangeAt Go.RowKit
set_option maxHeartbeats 8000000 in
theorem walk (room kind:Int) (v:Value) (l:List SOp) (names:Int) (vk:Value) (keep:List Int) (w:World) (aJ:(Lit.int .i64 room).wf=true) (_hkd:(Lit.int .i64 kind).wf=true) (R:RdS w v l) (_hnm:(Lit.int .i64 names).wf=true) (ah:RdI w vk keep) (_ht:TabF w):
 Calls Tryz.prog 4 #[.int .i64 room,.int .i64 kind,v,.int .i64 names,vk] w fun e w'=>e=.returned (.bool true)∧Below w.heap.size w w':=by
 have T:=ZZ (ZvS w);have av:=ZZ R;have Q:=ZZ ah;have bk:=ZZ (ZbF aJ);obtain⟨la,lc,hv,-⟩:=id R;obtain⟨ka,kc,bj,-⟩:=id ah;subst hv bj;clear _hkd _ht _hnm R ah aJ;obtain⟨B,hB⟩:∃ B,B=w.heap.size:=⟨_,rfl⟩;have g:=ZZ hB;rw[<-hB] at T ⊢;clear hB;have c:∀ {W:World},Below B w W->B<=W.heap.size:=fun h=>Nat.le_trans (by rw[g.o];exact Nat.le_refl _) h.size
 have bC:=hpeD;have bA:=hpnD;have bG:=ZCA;generalize aN:keep.length=C;have aj:=ZZ aN
 go_enter Tryz.func4,Tryz.ntmps4
 go_wp2_with fail
 refine T.o.mono ?_;rintro e W1 ⟨rfl,ak⟩;have am:=ZZ ak;have aT:=ZZ (ZzX _ l W1 (av.o.below ak (by rw[g.o];exact Nat.le_refl _)))
 clear ak T
 go_wp2_with fail
 refine aT.o.mono ?_;rintro e bz ⟨FB,rfl,aC,rfl⟩;have aA:=ZZ aC;have HN:=ZZ (Zto B room bk.o bz (c am.o));clear aC aT
 go_wp2_with fail
 refine HN.o.mono ?_;rintro e W2 ⟨pd,rfl,a0,a7⟩;have br:=ZZ a0;have i:=ZZ (am.o.trans a7);clear a0 a7 HN
 cases FB with
 | false=>
  go_wp2;go_ret;exact⟨by first | rfl | simp,i.o⟩
 | true=>
 have I:=ZZ (aA.o rfl);clear aA am;by_cases m:kind<0
 case pos=>
  have aW:decide (kind<0)=true:=decide_eq_true m;go_wp2;go_ret;exact⟨by first | rfl | simp,i.o⟩
 by_cases aO:6<=kind
 case pos=>
  have aW:decide (kind<0)=false:=decide_eq_false m;have bq:decide (kind ≥ 6)=true:=decide_eq_true aO;go_wp2;go_ret;exact⟨by first | rfl | simp,i.o⟩
 have aW:decide (kind<0)=false:=decide_eq_false m;have bq:decide (kind ≥ 6)=false:=decide_eq_false (by omega)
 by_cases az:100<C
 case pos=>
  have bh:decide ((C:Int)>100)=true:=decide_eq_true (by omega)
  go_wp2;go_ret;exact⟨by first | rfl | simp,i.o⟩
 have bh:decide ((C:Int)>100)=false:=decide_eq_false (by omega)
 have ba:=ZZ (ZBq (room:=room) kind _ l w W2 g.o av.o i.o br.o (by omega) (by omega) I.o.1)
 have S:=ZZ (ZAf (room:=room) (kind:=kind) (by omega) (by omega) l)
 have y:Hid (0<=kind∧kind<6):=ZZ (by omega)
 have P:=ZZ I.o.1;have aE:=ZZ az;generalize ZBw kind room l=X at *;clear m aO az I
 go_wp2_with fail
 refine ba.o.mono ?_;rintro e z ⟨p,va,rfl,d⟩;have bw:=ZZ d;obtain⟨aa,ac,bo⟩:=d.own.shape;obtain⟨K,hK⟩:∃ K:Nat->Prop,K=fun k=>k<B∨va.ownBlock=some k:=⟨_,rfl⟩
 have a9:Hid (SD K z pd p X.1.1 X.1.2 18000 36000000):=ZZ (by
  rw[hK];have:=P.o
  exact d.sd.mono (by omega) (by omega))
 have an:Hid ((∀ k,K k->k<z.heap.size)∧∀ k,k<B->K k):=ZZ (by
  rw[hK]
  exact⟨d.size (Nat.le_of_eq g.o),fun k a=>.inl a⟩)
 have ad:=ZZ d.old
 have a5:Hid (∀ W W',Below B w W->Zap (fun k=>¬ K k) W W'->Below B w W'):=ZZ (fun W W' n ho=>n.trans (ho.below (c n) (fun k hn=>by
  apply Classical.byContradiction;intro bl
  exact hn (an.o.2 k (by omega)))))
 subst bo
 have a3:Hid (Calls Tryz.prog 12 #[ptr pd,.int .i64 names,.slice ka C kc] z fun e w'=>e=.returned (.tuple #[])∧SD K w' pd p X.1.1 (Zco X.1.2 names keep) 18000 36000000∧Zap (fun k=>¬ K k) z w'):=ZZ (by
  have bd:=Q.o.below ad.o (Nat.le_of_eq g.o.symm);rw[<-aj.o];refine a9.o.crashC names _ keep bd ?_ (by decide) (by decide) (by have:=aj.o;have:=aE.o;omega)
  rcases Q.o.block with h0 | ⟨_,b,n,bl⟩
  ·exact .inl h0
  ·refine .inr fun k a=>an.o.2 k ?_
   rw[n] at a;have:=Option.some.inj a;rw[g.o]
   omega)
 have aZ:Hid (SzD (Zco X.1.2 names keep) 62 90000):=ZZ ((S.o.szOpen (by have:=P.o;omega)).crash names keep)
 have f:Hid (OkS (ZjD (Zco X.1.2 names keep) kind)):=ZZ (Zij y.o.1 y.o.2);have aF:Hid (ZiA (Zco X.1.2 names keep) kind=0):=ZZ (ZsT y.o.1 y.o.2 _ _ _);have bv:Hid (Zco (Zco X.1.2 names keep) 0 []=Zco X.1.2 names keep):=ZZ (ZsS S.o.okd names keep);have aI:Hid ((ZjD (Zco X.1.2 names keep) kind).synced=(ZjD (Zco X.1.2 names keep) kind).next):=ZZ rfl;generalize Zco X.1.2 names keep=D1 at *;generalize X.1.1=sx at *;generalize X.1.2=dx at *;generalize X.2=bp at *;generalize bp.length=al at *;obtain⟨t,E⟩:∃ t,t=ZjD D1 kind:=⟨_,rfl⟩;have HT:=ZZ E;rw[<-E] at f aI;clear E;clear S bw d ba hK a9 Q aj aN P aE
 go_wp2_with fail
 refine a3.o.mono ?_;rintro e W4 ⟨rfl,aH,N⟩;have L:=ZZ (a5.o _ _ ad.o N);have aK:Hid (∀ k,K k->k<W4.heap.size):=ZZ (fun k a=>Nat.lt_of_lt_of_le (an.o.1 k a) N.size)
 have ap:=aH.openC kind aK.o (by decide) (by decide) aZ.o aF.o
 rw[<-HT.o] at ap;have aY:=ZZ ap;clear aH N a3 ad ap
 go_wp2_with fail
 refine aY.o.mono ?_;rintro e W5 ⟨q,rfl,bc,-,H⟩;have a1:=ZZ (L.o.trans (H.mono (c L.o)));have bu:Hid (∀ k,K k->k<W5.heap.size):=ZZ (fun k a=>Nat.lt_of_lt_of_le (aK.o k a) H.size)
 have F:=bc.crashC 0 (.slice none 0 0) [] (RdI.nil W5) (.inl rfl) (by decide) (by decide) (by decide)
 rw[bv.o] at F;have aB:=ZZ F;clear bc H F aY L
 go_wp2_with fail
 refine aB.o.mono ?_;rintro e W6 ⟨rfl,aX,ag⟩;have U:=ZZ (a5.o _ _ a1.o ag);have bx:Hid (∀ k,K k->k<W6.heap.size):=ZZ (fun k a=>Nat.lt_of_lt_of_le (bu.o k a) ag.size)
 have M:=aX.openC kind bx.o (by decide) (by decide) aZ.o aF.o
 rw[<-HT.o] at M;have aD:=ZZ M;clear aX ag aB a1 M
 go_wp2_with fail
 refine aD.o.mono ?_;rintro e W7 ⟨u,rfl,au,aq,ax⟩;have HU:=ZZ au;have HQ:=ZZ aq;have ao:=ZZ (U.o.trans (ax.mono (c U.o)));have aV:=ZZ (aq.nowC f.o.now);clear au aq ax aD U
 go_wp2_with fail
 refine aV.o.mono ?_;rintro e W8 ⟨bf,bi,rfl,aS,-,-,x⟩;have bn:=ZZ aS.snV;have Z:=ZZ (ao.o.trans (x.mono (c ao.o)));have V:=ZZ (HU.o.below x);have a4:=ZZ (HQ.o.below x);have aP:=ZZ (V.o.nowC f.o.now);generalize snV (t.now,bf,bi)=v8 at *;clear aS x aV ao HU HQ
 go_wp2_with fail
 refine aP.o.mono ?_;rintro e W9 ⟨bm,bt,rfl,aM,-,-,j⟩;have J:=ZZ (Z.o.trans (j.mono (c Z.o)));have aG:=ZZ (V.o.below j);have aL:=ZZ (a4.o.below j);have ae:=ZxG v8 t.now _ t.now W9 (bn.o.below j zL) aM.snV;rw[ZvX] at ae;generalize snV (t.now,bm,bt)=v9 at *;have bb:=ZZ ae;clear aM j ae aP Z V a4
 go_wp2_with fail
 refine bb.o.mono ?_;rintro e bD ⟨rfl,A⟩;have ai:=ZZ (J.o.trans (A.mono (c J.o)));have ab:=ZZ (aG.o.below A);have af:=ZZ (aL.o.below A);have aU:=ZZ af.o.firstC;have aQ:=ZZ ab.o.firstC;have a6:=ZZ (af.o.next f.o.num);clear A bb J aG aL
 go_wp2_with fail
 refine aU.o.mono ?_;rintro e be ⟨rfl,rfl⟩
 go_wp2_with fail
 refine aQ.o.mono ?_;rintro e be ⟨rfl,rfl⟩
 go_wp2_with fail
 refine a6.o.mono ?_;rintro e bE ⟨rfl,G⟩;have ar:=ZZ (ai.o.trans (G.mono (c ai.o)));have O:=ZZ (ab.o.below G);have ay:=ZZ (O.o.next f.o.num);clear G a6 aU aQ ai ab af
 go_wp2_with fail
 refine ay.o.mono ?_;rintro e bH ⟨rfl,Y⟩;have aR:=ZZ (ar.o.trans (Y.mono (c ar.o)));have a2:=ZZ (O.o.below Y);have D:=ZZ a2.o.syncedC;have a8:=ZZ (a2.o.next f.o.num);rw[aI.o] at D;clear Y ay ar O
 go_wp2_with fail
 refine D.o.mono ?_;rintro e bB ⟨rfl,rfl⟩
 go_wp2_with fail
 refine a8.o.mono ?_;rintro e bF ⟨rfl,aw⟩;have bg:=ZZ (aR.o.trans (aw.mono (c aR.o)));clear aw D a8;go_wp2;go_ret;exact⟨by first | rfl | simp,bg.o⟩
theorem own:ownKnob Tryz.prog.godebug=none:=by kernel_rfl
theorem laidOut:laidOutB Tryz.prog=true:=by kernel_rfl
set_option linter.unusedVariables false in
theorem lifted (os:Os) (ac:os.Started) (H:Type) (enc:TypeId × Value->H):
 ReturnsInHanded {} Tryz.checked os 4 .any (fun w args=>(Rows.storeTwiceSpec.pre enc Tryz.prog Tryz.f4 Rows.storeTwiceRow.domain false w args∧laidMetH Tryz.prog Rows.storeTwiceRow.laid w)∧sizedMet enc Tryz.prog Tryz.f4 (OpenSpec.ofChange Rows.storeTwiceSpec) false w args) (Rows.storeTwiceSpec.post enc Tryz.prog Tryz.f4 false true false false):=by
 refine returnsInHanded_of_change_and (C:=Tryz.checked) (X:=fun w _=>laidMetH Tryz.prog Rows.storeTwiceRow.laid w) (fun _ _ _ hh h=>h.of_heap hh) own ac (by kernel_rfl) Tryz.func4
  (ChangeSpec.witness_shaped (enc:=enc) (C:=Tryz.checked) (os:=os) (X:=fun w _=>laidMetH Tryz.prog Rows.storeTwiceRow.laid w) false (World.doorLaid Tryz.prog 400 os) #[.int .i64 0,.int .i64 0,.slice none 0 0,.int .i64 0,.slice none 0 0] 8 rfl (World.shaped_of_RefB (by kernel_rfl) (by kernel_rfl)) (by kernel_rfl) (by kernel_rfl) (by kernel_rfl) (ZAh os _)) ?_
 intro W base args ds gs ah G n au _ hL _;have a:∀ (j:Nat) t v,Tryz.f4.params[j]?=some t->args[j]?=some v->Value.okWide Tryz.prog W .any base t v:=G;have M:=n;obtain⟨p,q,F,S,rfl,aq,ag⟩:=n;have i:DataW.TrodAll enc Tryz.prog W 0 (fun _=>true) true Tryz.f4.params.toList args.toList ds p:=F
 rw[Tryz.params4] at i a;obtain⟨B,aj,d0,av,p0,q0,ak,rfl,rfl,h0,r0⟩:=trodAll_cons i;obtain⟨I,ar,d1,ao,p1,q1,rfl,rfl,rfl,Q,r1⟩:=trodAll_cons r0;obtain⟨u,af,d2,am,V,q2,rfl,rfl,rfl,K,L⟩:=trodAll_cons r1;obtain⟨g,ai,d3,an,p3,q3,rfl,rfl,rfl,h3,Z⟩:=trodAll_cons L;obtain⟨D,al,d4,ap,T,q4,rfl,rfl,rfl,y,r4⟩:=trodAll_cons Z;obtain⟨rfl,rfl,rfl⟩:=trodAll_nil r4;obtain rfl:args=#[B,I,u,g,D]:=by cases args;simp_all
 obtain⟨rfl,rfl⟩:=trodVars_none S;obtain⟨N,rfl,rfl,rfl,A⟩:=open_int Tryz.underlying3 (a 0 3 B rfl rfl) h0;obtain⟨a1,rfl,rfl,rfl,J⟩:=open_int Tryz.underlying3 (a 1 3 I rfl rfl) Q;obtain⟨P,ad,ae,rfl⟩:=okWide_slice Tryz.underlying22 (a 2 22 u rfl rfl);have k:=K;have ab:∀ x ∈ V,x.block<W.heap.size:=by obtain⟨m,d⟩:=k;exact DataW.trod_lt m _ _ _ d
 obtain⟨l2,R⟩:∃ l,RdS W (.slice P ad ae) l:=by
  obtain⟨fuel,f⟩:=K;obtain⟨v,l,b,c⟩:=Zyk f;simp[Value.cells] at b;subst b;exact⟨l,c⟩
 obtain⟨a3,rfl,rfl,rfl,E⟩:=open_int Tryz.underlying3 (a 3 3 g rfl rfl) h3;obtain⟨a4,Y,aa,rfl⟩:=okWide_slice Tryz.underlying23 (a 4 23 D rfl rfl);have z:=y;have U:∀ x ∈ T,x.block<W.heap.size:=by obtain⟨m,d⟩:=z;exact DataW.trod_lt m _ _ _ d
 obtain⟨O,w4⟩:∃ l,RdI W (.slice a4 Y aa) l:=by
  obtain⟨fuel,f⟩:=y;obtain⟨v,l,b,c⟩:=Ztn f;simp[Value.cells] at b;subst b;exact⟨l,c⟩
 clear F G;refine(walk N a1 _ l2 a3 _ O W A J R E w4 (tabs hL)).mono fun e W' ⟨he,bel⟩=>?_
 subst he;exact⟨_,rfl,_,_,_,[],_,[],M,trodAll_mk1 (shut_bool Tryz.underlying4 _),(trodAll_cons_mk (shut_int Tryz.underlying3 A) (trodAll_cons_mk (shut_int Tryz.underlying3 J) (trodAll_cons_mk (Below.trod laidOut (by kernel_rfl) (of_decide_eq_true (by kernel_rfl)) k bel ab) (trodAll_cons_mk (shut_int Tryz.underlying3 E) (trodAll_cons_mk (Below.trod laidOut (by kernel_rfl) (of_decide_eq_true (by kernel_rfl)) z bel U) trodAll_mk0))))),rfl,bel.frame _,fun h=>by cases h⟩
theorem over:Rows.storeTwiceRow.holds Tryz.pinned (OpenSpec.ofChange Rows.storeTwiceSpec):=
 OpenClaim.holds_of_wide 4 Tryz.f4 rfl rfl rfl rfl rfl rfl rfl ⟨rfl,rfl,rfl,rfl,rfl⟩ rfl rfl rfl rfl rfl (by kernel_rfl) Tryz.func4 (by kernel_rfl)
  (of_decide_eq_true (by kernel_rfl)) (by unfold Func.isWrapper;first | (rw[if_pos (by decide +kernel)];kernel_rfl) | (rw[if_neg (by decide +kernel)];exact⟨rfl,rfl⟩))
  (fun os a H enc _=>lifted os a H enc)
end Go.Proofs.YtnahjngbneicaaaGreatDoor.storeTwice
namespace Go.Proofs.YtnahjngbneicaaaGreatDoor
theorem storeTwice_holds:Rows.StoreTwiceCardSaid:=
 Claim7.holds_tied_plain_at .later [] _ _ _ _ storeTwice.over (fun _ h=>by cases h) (by kernel_rfl) (fun _ h=>by cases h) storeTwice_row_tie rfl ⟨rfl,rfl⟩ (by kernel_rfl) rfl
  (fun f fn e d=>by
   obtain rfl : f = 4 := Option.some.inj ((show Tryz.prog.funcNamed "ferryman/ferrymanlaw12.StoreTwice" = some 4 by kernel_rfl).symm.trans e) |>.symm
   obtain rfl:fn=Tryz.f4:=(Option.some.inj (Tryz.func4.symm.trans d)).symm
   exact⟨by kernel_rfl,fun j t a=>by
    rw[Tryz.params4] at a;have b:t ∈ [3,3,22,3,23]:=by simpa using Array.mem_of_getElem? a
    have c:([3,3,22,3,23].all fun u=>!Tryz.prog.wantsStandIn u)=true:=by kernel_rfl
    exact(show Tryz.prog.wantsStandIn t=false by simpa using List.all_eq_true.1 c t b)⟩)
  (by kernel_rfl)
end Go.Proofs.YtnahjngbneicaaaGreatDoor
