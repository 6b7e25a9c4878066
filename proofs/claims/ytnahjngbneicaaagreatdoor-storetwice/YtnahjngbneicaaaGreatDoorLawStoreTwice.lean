/- Proved: for every room and kind, all calls and every loss of power the law StoreTwice answers true (and the call leaves all older memory as it was), where the listed variable has its listed value. -/
import Derived.Test.YtnahjngbneicaaaGreatDoorStoreRunR
import Derived.Test.YtnahjngbneicaaaGreatDoorStoreFall
import Derived.Test.YtnahjngbneicaaaGreatDoorSchemaTab
namespace Go.Proofs.YtnahjngbneicaaaGreatDoor.storeTwice
set_option maxRecDepth 100000
open Go.ChangeShapes Go.WideShapes Go.ChangeAt Go.RowKit
set_option maxHeartbeats 8000000 in
theorem walk (room kind:Int) (v:Value) (l:List SOp) (names:Int) (vk:Value) (keep:List Int) (w:World) (bb:(Lit.int .i64 room).wf=true) (_hkd:(Lit.int .i64 kind).wf=true) (H:RdS w v l) (_hnm:(Lit.int .i64 names).wf=true) (N:RdI w vk keep) (_ht:TabF w):
 Calls Tryz.prog 4 #[.int .i64 room,.int .i64 kind,v,.int .i64 names,vk] w fun e w'=>e=.returned (.bool true)∧Below w.heap.size w w':=by
 have Y:=ZZ (ZsC w);have aL:=ZZ H;have ap:=ZZ N;have br:=ZZ (Zb bb);obtain⟨la,lc,hv,-⟩:=id H;obtain⟨ka,kc,bk,-⟩:=id N;subst hv bk;clear _hkd _ht _hnm H N bb;obtain⟨B,D⟩:∃ B,B=w.heap.size:=⟨_,rfl⟩;have f:=ZZ D;rw[<-D] at Y ⊢;clear D;have c:∀ {W:World},Below B w W->B<=W.heap.size:=fun h=>Nat.le_trans (by rw[f.o];exact Nat.le_refl _) h.size
 have bK:=hpeD;have bD:=hpnD;have bJ:=Zzk;generalize aB:keep.length=x;have R:=ZZ aB
 go_enter Tryz.func4,Tryz.ntmps4
 go_wp2_with fail
 refine Y.o.mono ?_;rintro e W1 ⟨rfl,ao⟩;have P:=ZZ ao;have aQ:=ZZ (ZwH _ l W1 (aL.o.below ao (by rw[f.o];exact Nat.le_refl _)))
 clear ao Y
 go_wp2_with fail
 refine aQ.o.mono ?_;rintro e bm ⟨FB,rfl,aM,rfl⟩;have a8:=ZZ aM;have HN:=ZZ (ZpY B room br.o bm (c P.o));clear aM aQ
 go_wp2_with fail
 refine HN.o.mono ?_;rintro e W2 ⟨pd,rfl,aW,az⟩;have bz:=ZZ aW;have i:=ZZ (P.o.trans az);clear aW az HN
 cases FB with
 | false=>
  go_wp2;go_ret;exact⟨by first | rfl | simp,i.o⟩
 | true=>
 have Z:=ZZ (a8.o rfl);clear a8 P;by_cases y:kind<0
 case pos=>
  have aT:decide (kind<0)=true:=decide_eq_true y;go_wp2;go_ret;exact⟨by first | rfl | simp,i.o⟩
 by_cases a7:6<=kind
 case pos=>
  have aT:decide (kind<0)=false:=decide_eq_false y;have bC:decide (kind ≥ 6)=true:=decide_eq_true a7;go_wp2;go_ret;exact⟨by first | rfl | simp,i.o⟩
 have aT:decide (kind<0)=false:=decide_eq_false y;have bC:decide (kind ≥ 6)=false:=decide_eq_false (by omega)
 by_cases aG:100<x
 case pos=>
  have bf:decide ((x:Int)>100)=true:=decide_eq_true (by omega)
  go_wp2;go_ret;exact⟨by first | rfl | simp,i.o⟩
 have bf:decide ((x:Int)>100)=false:=decide_eq_false (by omega)
 have aD:=ZZ (Zya (room:=room) kind _ l w W2 f.o aL.o i.o bz.o (by omega) (by omega) Z.o.1)
 have ak:=ZZ (ZwP (room:=room) (kind:=kind) (by omega) (by omega) l)
 have A:Hid (0<=kind∧kind<6):=ZZ (by omega)
 have af:=ZZ Z.o.1;have aE:=ZZ aG;generalize Zyg kind room l=X at *;clear y a7 aG Z
 go_wp2_with fail
 refine aD.o.mono ?_;rintro e z ⟨p,va,rfl,g⟩;have bl:=ZZ g;obtain⟨aa,ac,bt⟩:=g.own.shape;obtain⟨K,hK⟩:∃ K:Nat->Prop,K=fun k=>k<B∨va.ownBlock=some k:=⟨_,rfl⟩
 have a9:Hid (SD K z pd p X.1.1 X.1.2 18000 36000000):=ZZ (by
  rw[hK];have:=af.o
  exact g.sd.mono (by omega) (by omega))
 have F:Hid ((∀ k,K k->k<z.heap.size)∧∀ k,k<B->K k):=ZZ (by
  rw[hK]
  exact⟨g.size (Nat.le_of_eq f.o),fun k a=>.inl a⟩)
 have ae:=ZZ g.old
 have bd:Hid (∀ W W',Below B w W->Qj (fun k=>¬ K k) W W'->Below B w W'):=ZZ (fun W W' C ho=>C.trans (ho.below (c C) (fun k hn=>by
  apply Classical.byContradiction;intro bj
  exact hn (F.o.2 k (by omega)))))
 subst bt
 have ay:Hid (Calls Tryz.prog 12 #[ptr pd,.int .i64 names,.slice ka x kc] z fun e w'=>e=.returned (.tuple #[])∧SD K w' pd p X.1.1 (Zl X.1.2 names keep) 18000 36000000∧Qj (fun k=>¬ K k) z w'):=ZZ (by
  have bq:=ap.o.below ae.o (Nat.le_of_eq f.o.symm);rw[<-R.o];refine a9.o.crashC names _ keep bq ?_ (by decide) (by decide) (by have:=R.o;have:=aE.o;omega)
  rcases ap.o.block with h0 | ⟨_,b,C,bj⟩
  ·exact .inl h0
  ·refine .inr fun k a=>F.o.2 k ?_
   rw[C] at a;have:=Option.some.inj a;rw[f.o]
   omega)
 have aN:Hid (SzD (Zl X.1.2 names keep) 62 90000):=ZZ ((ak.o.szOpen (by have:=af.o;omega)).crash names keep)
 have d:Hid (OkS (Zgn (Zl X.1.2 names keep) kind)):=ZZ (ZeT A.o.1 A.o.2);have aP:Hid (Zfk (Zl X.1.2 names keep) kind=0):=ZZ (ZpD A.o.1 A.o.2 _ _ _);have bB:Hid (Zl (Zl X.1.2 names keep) 0 []=Zl X.1.2 names keep):=ZZ (ZpC ak.o.okd names keep);have aw:Hid ((Zgn (Zl X.1.2 names keep) kind).synced=(Zgn (Zl X.1.2 names keep) kind).next):=ZZ rfl;generalize Zl X.1.2 names keep=D1 at *;generalize X.1.1=sx at *;generalize X.1.2=dx at *;generalize X.2=bi at *;generalize bi.length=al at *;obtain⟨t,T⟩:∃ t,t=Zgn D1 kind:=⟨_,rfl⟩;have HT:=ZZ T;rw[<-T] at d aw;clear T;clear ak bl g aD hK a9 ap R aB af aE
 go_wp2_with fail
 refine ay.o.mono ?_;rintro e W4 ⟨rfl,aR,J⟩;have U:=ZZ (bd.o _ _ ae.o J);have aS:Hid (∀ k,K k->k<W4.heap.size):=ZZ (fun k a=>Nat.lt_of_lt_of_le (F.o.1 k a) J.size)
 have ai:=aR.openC kind aS.o (by decide) (by decide) aN.o aP.o
 rw[<-HT.o] at ai;have a6:=ZZ ai;clear aR J ay ae ai
 go_wp2_with fail
 refine a6.o.mono ?_;rintro e W5 ⟨q,rfl,aV,-,G⟩;have aX:=ZZ (U.o.trans (G.mono (c U.o)));have bo:Hid (∀ k,K k->k<W5.heap.size):=ZZ (fun k a=>Nat.lt_of_lt_of_le (aS.o k a) G.size)
 have am:=aV.crashC 0 (.slice none 0 0) [] (RdI.nil W5) (.inl rfl) (by decide) (by decide) (by decide)
 rw[bB.o] at am;have be:=ZZ am;clear aV G am a6 U
 go_wp2_with fail
 refine be.o.mono ?_;rintro e W6 ⟨rfl,a1,av⟩;have au:=ZZ (bd.o _ _ aX.o av);have bn:Hid (∀ k,K k->k<W6.heap.size):=ZZ (fun k a=>Nat.lt_of_lt_of_le (bo.o k a) av.size)
 have Q:=a1.openC kind bn.o (by decide) (by decide) aN.o aP.o
 rw[<-HT.o] at Q;have aF:=ZZ Q;clear a1 av be aX Q
 go_wp2_with fail
 refine aF.o.mono ?_;rintro e W7 ⟨u,rfl,ax,ag,aO⟩;have HU:=ZZ ax;have HQ:=ZZ ag;have ar:=ZZ (au.o.trans (aO.mono (c au.o)));have aJ:=ZZ (ag.nowC d.o.now);clear ax ag aO aF au
 go_wp2_with fail
 refine aJ.o.mono ?_;rintro e W8 ⟨bv,bx,rfl,a4,-,-,n⟩;have bg:=ZZ a4.snV;have O:=ZZ (ar.o.trans (n.mono (c ar.o)));have ab:=ZZ (HU.o.below n);have aC:=ZZ (HQ.o.below n);have aZ:=ZZ (ab.o.nowC d.o.now);generalize snV (t.now,bv,bx)=v8 at *;clear a4 n aJ ar HU HQ
 go_wp2_with fail
 refine aZ.o.mono ?_;rintro e W9 ⟨bw,bu,rfl,a3,-,-,j⟩;have an:=ZZ (O.o.trans (j.mono (c O.o)));have aI:=ZZ (ab.o.below j);have a5:=ZZ (aC.o.below j);have S:=Zuq v8 t.now _ t.now W9 (bg.o.below j zL) a3.snV;rw[ZsH] at S;generalize snV (t.now,bw,bu)=v9 at *;have aH:=ZZ S;clear a3 j S aZ O ab aC
 go_wp2_with fail
 refine aH.o.mono ?_;rintro e bH ⟨rfl,m⟩;have I:=ZZ (an.o.trans (m.mono (c an.o)));have aq:=ZZ (aI.o.below m);have V:=ZZ (a5.o.below m);have aY:=ZZ V.o.firstC;have aK:=ZZ aq.o.firstC;have a2:=ZZ (V.o.next d.o.num);clear m aH an aI a5
 go_wp2_with fail
 refine aY.o.mono ?_;rintro e bp ⟨rfl,rfl⟩
 go_wp2_with fail
 refine aK.o.mono ?_;rintro e bp ⟨rfl,rfl⟩
 go_wp2_with fail
 refine a2.o.mono ?_;rintro e bE ⟨rfl,M⟩;have ad:=ZZ (I.o.trans (M.mono (c I.o)));have E:=ZZ (aq.o.below M);have aA:=ZZ (E.o.next d.o.num);clear M a2 aY aK I aq V
 go_wp2_with fail
 refine aA.o.mono ?_;rintro e bG ⟨rfl,aj⟩;have aU:=ZZ (ad.o.trans (aj.mono (c ad.o)));have a0:=ZZ (E.o.below aj);have L:=ZZ a0.o.syncedC;have ba:=ZZ (a0.o.next d.o.num);rw[aw.o] at L;clear aj aA ad E
 go_wp2_with fail
 refine L.o.mono ?_;rintro e bF ⟨rfl,rfl⟩
 go_wp2_with fail
 refine ba.o.mono ?_;rintro e bI ⟨rfl,bc⟩;have bA:=ZZ (aU.o.trans (bc.mono (c aU.o)));clear bc L ba;go_wp2;go_ret;exact⟨by first | rfl | simp,bA.o⟩
theorem own:ownKnob Tryz.prog.godebug=none:=by kernel_rfl
theorem laidOut:laidOutB Tryz.prog=true:=by kernel_rfl
set_option linter.unusedVariables false in
theorem lifted (os:Os) (R:os.Started) (H:Type) (enc:TypeId × Value->H):
 ReturnsInHanded {} Tryz.checked os 4 .any (fun w args=>(Rows.storeTwiceSpec.pre enc Tryz.prog Tryz.f4 Rows.storeTwiceRow.domain false w args∧laidMetH Tryz.prog Rows.storeTwiceRow.laid w)∧sizedMet enc Tryz.prog Tryz.f4 (OpenSpec.ofChange Rows.storeTwiceSpec) false w args) (Rows.storeTwiceSpec.post enc Tryz.prog Tryz.f4 false true false false):=by
 refine returnsInHanded_of_change_and (C:=Tryz.checked) (X:=fun w _=>laidMetH Tryz.prog Rows.storeTwiceRow.laid w) (fun _ _ _ U h=>h.of_heap U) own R (by kernel_rfl) Tryz.func4
  (ChangeSpec.witness_shaped (enc:=enc) (C:=Tryz.checked) (os:=os) (X:=fun w _=>laidMetH Tryz.prog Rows.storeTwiceRow.laid w) false (World.doorLaid Tryz.prog 400 os) #[.int .i64 0,.int .i64 0,.slice none 0 0,.int .i64 0,.slice none 0 0] 8 rfl (World.shaped_of_RefB (by kernel_rfl) (by kernel_rfl)) (by kernel_rfl) (by kernel_rfl) (by kernel_rfl) (ZwR os _)) ?_
 intro W base args ds gs ae i u av _ hL _;have a:∀ (j:Nat) t v,Tryz.f4.params[j]?=some t->args[j]?=some v->Value.okWide Tryz.prog W .any base t v:=i;have ac:=u;obtain⟨p,q,D,hV,rfl,am,af⟩:=u;have K:DataW.TrodAll enc Tryz.prog W 0 (fun _=>true) true Tryz.f4.params.toList args.toList ds p:=D
 rw[Tryz.params4] at K a;obtain⟨F,an,d0,au,p0,q0,ak,rfl,rfl,V,r0⟩:=trodAll_cons K;obtain⟨G,ag,d1,al,p1,q1,rfl,rfl,rfl,Y,r1⟩:=trodAll_cons r0;obtain⟨n,aq,d2,ai,p2,q2,rfl,rfl,rfl,B,r2⟩:=trodAll_cons r1;obtain⟨z,ar,d3,aj,p3,q3,rfl,rfl,rfl,h3,Z⟩:=trodAll_cons r2;obtain⟨E,ap,d4,ao,M,q4,rfl,rfl,rfl,A,r4⟩:=trodAll_cons Z;obtain⟨rfl,rfl,rfl⟩:=trodAll_nil r4;obtain rfl:args=#[F,G,n,z,E]:=by cases args;simp_all
 obtain⟨rfl,rfl⟩:=trodVars_none hV;obtain⟨a0,rfl,rfl,rfl,J⟩:=open_int Tryz.underlying3 (a 0 3 F rfl rfl) V;obtain⟨N,rfl,rfl,rfl,k⟩:=open_int Tryz.underlying3 (a 1 3 G rfl rfl) Y;obtain⟨a2,aa,L,rfl⟩:=okWide_slice Tryz.underlying22 (a 2 22 n rfl rfl);have g:=B;have ab:∀ x ∈ p2,x.block<W.heap.size:=by obtain⟨m,f⟩:=g;exact DataW.trod_lt m _ _ _ f
 obtain⟨l2,S⟩:∃ l,RdS W (.slice a2 aa L) l:=by
  obtain⟨fuel,d⟩:=B;obtain⟨v,l,b,c⟩:=ZuU d;simp[Value.cells] at b;subst b;exact⟨l,c⟩
 obtain⟨a3,rfl,rfl,rfl,I⟩:=open_int Tryz.underlying3 (a 3 3 z rfl rfl) h3;obtain⟨Q,P,T,rfl⟩:=okWide_slice Tryz.underlying23 (a 4 23 E rfl rfl);have y:=A;have ad:∀ x ∈ M,x.block<W.heap.size:=by obtain⟨m,f⟩:=y;exact DataW.trod_lt m _ _ _ f
 obtain⟨O,w4⟩:∃ l,RdI W (.slice Q P T) l:=by
  obtain⟨fuel,d⟩:=A;obtain⟨v,l,b,c⟩:=ZpX d;simp[Value.cells] at b;subst b;exact⟨l,c⟩
 clear D i;refine(walk a0 N _ l2 a3 _ O W J k S I w4 (tabs hL)).mono fun e W' ⟨he,bel⟩=>?_
 subst he;exact⟨_,rfl,_,_,_,[],_,[],ac,trodAll_mk1 (shut_bool Tryz.underlying4 _),(trodAll_cons_mk (shut_int Tryz.underlying3 J) (trodAll_cons_mk (shut_int Tryz.underlying3 k) (trodAll_cons_mk (Below.trod laidOut (by kernel_rfl) (of_decide_eq_true (by kernel_rfl)) g bel ab) (trodAll_cons_mk (shut_int Tryz.underlying3 I) (trodAll_cons_mk (Below.trod laidOut (by kernel_rfl) (of_decide_eq_true (by kernel_rfl)) y bel ad) trodAll_mk0))))),rfl,bel.frame _,fun h=>by cases h⟩
theorem over:Rows.storeTwiceRow.holds Tryz.pinned (OpenSpec.ofChange Rows.storeTwiceSpec):=
 OpenClaim.holds_of_wide 4 Tryz.f4 rfl rfl rfl rfl rfl rfl rfl ⟨rfl,rfl,rfl,rfl,rfl⟩ rfl rfl rfl rfl rfl (by kernel_rfl) Tryz.func4 (by kernel_rfl)
  (of_decide_eq_true (by kernel_rfl)) (by unfold Func.isWrapper;first | (rw[if_pos (by decide +kernel)];kernel_rfl) | (rw[if_neg (by decide +kernel)];exact⟨rfl,rfl⟩))
  (fun os a H enc _=>lifted os a H enc)
end Go.Proofs.YtnahjngbneicaaaGreatDoor.storeTwice
namespace Go.Proofs.YtnahjngbneicaaaGreatDoor
theorem storeTwice_holds:Rows.StoreTwiceCardSaid:=
 Claim7.holds_tied_plain_at .later [] _ _ _ _ storeTwice.over (fun _ h=>by cases h) (by kernel_rfl) (fun _ h=>by cases h) storeTwice_row_tie rfl ⟨rfl,rfl⟩ (by kernel_rfl) rfl
  (fun f fn d c=>by
   obtain rfl : f = 4 := Option.some.inj ((show Tryz.prog.funcNamed "ferryman/ferrymanlaw12.StoreTwice" = some 4 by kernel_rfl).symm.trans d) |>.symm
   obtain rfl:fn=Tryz.f4:=(Option.some.inj (Tryz.func4.symm.trans c)).symm
   exact⟨by kernel_rfl,fun j t a=>by
    rw[Tryz.params4] at a;have b:t ∈ [3,3,22,3,23]:=by simpa using Array.mem_of_getElem? a
    have e:([3,3,22,3,23].all fun u=>!Tryz.prog.wantsStandIn u)=true:=by kernel_rfl
    exact(show Tryz.prog.wantsStandIn t=false by simpa using List.all_eq_true.1 e t b)⟩)
  (by kernel_rfl)
end Go.Proofs.YtnahjngbneicaaaGreatDoor
