/- Proved: for every room and kind, all calls and every loss of power the law StoreTwice answers true (and the call leaves all older memory as it was), where the listed variable has its listed value. -/
import Derived.Test.YtnahjngbneicaaaGreatDoorStoreRunR
import Derived.Test.YtnahjngbneicaaaGreatDoorStoreFall
import Derived.Test.YtnahjngbneicaaaGreatDoorSchemaTab
namespace Go.Proofs.YtnahjngbneicaaaGreatDoor.storeTwice
set_option maxRecDepth 100000
open Go.ChangeShapes Go.WideShapes Go.ChangeAt Go.RowKit
set_option maxHeartbeats 8000000 in
theorem walk (room kind:Int) (v:Value) (l:List SOp) (names:Int) (vk:Value) (keep:List Int) (w:World) (aS:(Lit.int .i64 room).wf=true) (_hkd:(Lit.int .i64 kind).wf=true) (hl:RdS w v l) (_hnm:(Lit.int .i64 names).wf=true) (P:RdI w vk keep) (_ht:TabF w):
 Calls Tryz.prog 4 #[.int .i64 room,.int .i64 kind,v,.int .i64 names,vk] w fun e w'=>e=.returned (.bool true)∧Below w.heap.size w w':=by
 have ao:=ZZ (ZsC w);have aU:=ZZ hl;have J:=ZZ P;have bi:=ZZ (Zb aS);obtain⟨la,lc,hv,-⟩:=id hl;obtain⟨ka,kc,bm,-⟩:=id P;subst hv bm;clear _hkd _ht _hnm hl P aS;obtain⟨B,hB⟩:∃ B,B=w.heap.size:=⟨_,rfl⟩;have f:=ZZ hB;rw[<-hB] at ao ⊢;clear hB;have c:∀ {W:World},Below B w W->B<=W.heap.size:=fun h=>Nat.le_trans (by rw[f.o];exact Nat.le_refl _) h.size
 have bE:=hpeD;have bB:=hpnD;have bA:=Zzk;generalize aT:keep.length=m;have E:=ZZ aT
 go_enter Tryz.func4,Tryz.ntmps4
 go_wp2_with fail
 refine ao.o.mono ?_;rintro e W1 ⟨rfl,ab⟩;have V:=ZZ ab;have a8:=ZZ (ZwH _ l W1 (aU.o.below ab (by rw[f.o];exact Nat.le_refl _)))
 clear ab ao
 go_wp2_with fail
 refine a8.o.mono ?_;rintro e bx ⟨FB,rfl,aM,rfl⟩;have ba:=ZZ aM;have HN:=ZZ (ZpY B room bi.o bx (c V.o));clear aM a8
 go_wp2_with fail
 refine HN.o.mono ?_;rintro e W2 ⟨pd,rfl,aO,aL⟩;have be:=ZZ aO;have j:=ZZ (V.o.trans aL);clear aO aL HN
 cases FB with
 | false=>
  go_wp2;go_ret;exact⟨by first | rfl | simp,j.o⟩
 | true=>
 have Z:=ZZ (ba.o rfl);clear ba V;by_cases y:kind<0
 case pos=>
  have a1:decide (kind<0)=true:=decide_eq_true y;go_wp2;go_ret;exact⟨by first | rfl | simp,j.o⟩
 by_cases a5:6<=kind
 case pos=>
  have a1:decide (kind<0)=false:=decide_eq_false y;have bo:decide (kind ≥ 6)=true:=decide_eq_true a5;go_wp2;go_ret;exact⟨by first | rfl | simp,j.o⟩
 have a1:decide (kind<0)=false:=decide_eq_false y;have bo:decide (kind ≥ 6)=false:=decide_eq_false (by omega)
 by_cases aw:100<m
 case pos=>
  have br:decide ((m:Int)>100)=true:=decide_eq_true (by omega)
  go_wp2;go_ret;exact⟨by first | rfl | simp,j.o⟩
 have br:decide ((m:Int)>100)=false:=decide_eq_false (by omega)
 have aH:=ZZ (Zya (room:=room) kind _ l w W2 f.o aU.o j.o be.o (by omega) (by omega) Z.o.1)
 have U:=ZZ (ZwP (room:=room) (kind:=kind) (by omega) (by omega) l)
 have z:Hid (0<=kind∧kind<6):=ZZ (by omega)
 have F:=ZZ Z.o.1;have a6:=ZZ aw;generalize Zyg kind room l=X at *;clear y a5 aw Z
 go_wp2_with fail
 refine aH.o.mono ?_;rintro e C ⟨p,va,rfl,g⟩;have bw:=ZZ g;obtain⟨aa,ac,bv⟩:=g.own.shape;obtain⟨K,hK⟩:∃ K:Nat->Prop,K=fun k=>k<B∨va.ownBlock=some k:=⟨_,rfl⟩
 have ay:Hid (SD K C pd p X.1.1 X.1.2 18000 36000000):=ZZ (by
  rw[hK];have:=F.o
  exact g.sd.mono (by omega) (by omega))
 have D:Hid ((∀ k,K k->k<C.heap.size)∧∀ k,k<B->K k):=ZZ (by
  rw[hK]
  exact⟨g.size (Nat.le_of_eq f.o),fun k a=>.inl a⟩)
 have H:=ZZ g.old
 have a4:Hid (∀ W W',Below B w W->Qj (fun k=>¬ K k) W W'->Below B w W'):=ZZ (fun W W' x ho=>x.trans (ho.below (c x) (fun k hn=>by
  apply Classical.byContradiction;intro bk
  exact hn (D.o.2 k (by omega)))))
 subst bv
 have aE:Hid (Calls Tryz.prog 12 #[ptr pd,.int .i64 names,.slice ka m kc] C fun e w'=>e=.returned (.tuple #[])∧SD K w' pd p X.1.1 (Zl X.1.2 names keep) 18000 36000000∧Qj (fun k=>¬ K k) C w'):=ZZ (by
  have bu:=J.o.below H.o (Nat.le_of_eq f.o.symm);rw[<-E.o];refine ay.o.crashC names _ keep bu ?_ (by decide) (by decide) (by have:=E.o;have:=a6.o;omega)
  rcases J.o.block with h0 | ⟨_,b,x,bk⟩
  ·exact .inl h0
  ·refine .inr fun k a=>D.o.2 k ?_
   rw[x] at a;have:=Option.some.inj a;rw[f.o]
   omega)
 have a7:Hid (SzD (Zl X.1.2 names keep) 62 90000):=ZZ ((U.o.szOpen (by have:=F.o;omega)).crash names keep)
 have d:Hid (OkS (Zgn (Zl X.1.2 names keep) kind)):=ZZ (ZeT z.o.1 z.o.2);have az:Hid (Zfk (Zl X.1.2 names keep) kind=0):=ZZ (ZpD z.o.1 z.o.2 _ _ _);have bg:Hid (Zl (Zl X.1.2 names keep) 0 []=Zl X.1.2 names keep):=ZZ (ZpC U.o.okd names keep);have ar:Hid ((Zgn (Zl X.1.2 names keep) kind).synced=(Zgn (Zl X.1.2 names keep) kind).next):=ZZ rfl;generalize Zl X.1.2 names keep=D1 at *;generalize X.1.1=sx at *;generalize X.1.2=dx at *;generalize X.2=bd at *;generalize bd.length=al at *;obtain⟨t,ht⟩:∃ t,t=Zgn D1 kind:=⟨_,rfl⟩;have HT:=ZZ ht;rw[<-ht] at d ar;clear ht;clear U bw g aH hK ay J E aT F a6
 go_wp2_with fail
 refine aE.o.mono ?_;rintro e W4 ⟨rfl,aC,O⟩;have I:=ZZ (a4.o _ _ H.o O);have aB:Hid (∀ k,K k->k<W4.heap.size):=ZZ (fun k a=>Nat.lt_of_lt_of_le (D.o.1 k a) O.size)
 have ak:=aC.openC kind aB.o (by decide) (by decide) a7.o az.o
 rw[<-HT.o] at ak;have aG:=ZZ ak;clear aC O aE H ak
 go_wp2_with fail
 refine aG.o.mono ?_;rintro e W5 ⟨q,rfl,aX,-,S⟩;have a2:=ZZ (I.o.trans (S.mono (c I.o)));have bt:Hid (∀ k,K k->k<W5.heap.size):=ZZ (fun k a=>Nat.lt_of_lt_of_le (aB.o k a) S.size)
 have L:=aX.crashC 0 (.slice none 0 0) [] (RdI.nil W5) (.inl rfl) (by decide) (by decide) (by decide)
 rw[bg.o] at L;have bb:=ZZ L;clear aX S L aG I
 go_wp2_with fail
 refine bb.o.mono ?_;rintro e W6 ⟨rfl,aF,af⟩;have ad:=ZZ (a4.o _ _ a2.o af);have bp:Hid (∀ k,K k->k<W6.heap.size):=ZZ (fun k a=>Nat.lt_of_lt_of_le (bt.o k a) af.size)
 have ai:=aF.openC kind bp.o (by decide) (by decide) a7.o az.o
 rw[<-HT.o] at ai;have aV:=ZZ ai;clear aF af bb a2 ai
 go_wp2_with fail
 refine aV.o.mono ?_;rintro e W7 ⟨u,rfl,aD,N,aQ⟩;have HU:=ZZ aD;have HQ:=ZZ N;have T:=ZZ (ad.o.trans (aQ.mono (c ad.o)));have aI:=ZZ (N.nowC d.o.now);clear aD N aQ aV ad
 go_wp2_with fail
 refine aI.o.mono ?_;rintro e W8 ⟨bz,bl,rfl,aR,-,-,A⟩;have bq:=ZZ aR.snV;have M:=ZZ (T.o.trans (A.mono (c T.o)));have ae:=ZZ (HU.o.below A);have aJ:=ZZ (HQ.o.below A);have a3:=ZZ (ae.o.nowC d.o.now);generalize snV (t.now,bz,bl)=v8 at *;clear aR A aI T HU HQ
 go_wp2_with fail
 refine a3.o.mono ?_;rintro e W9 ⟨bc,bj,rfl,ax,-,-,i⟩;have G:=ZZ (M.o.trans (i.mono (c M.o)));have au:=ZZ (ae.o.below i);have aY:=ZZ (aJ.o.below i);have ap:=Zuq v8 t.now _ t.now W9 (bq.o.below i zL) ax.snV;rw[ZsH] at ap;generalize snV (t.now,bc,bj)=v9 at *;have aN:=ZZ ap;clear ax i ap a3 M ae aJ
 go_wp2_with fail
 refine aN.o.mono ?_;rintro e bD ⟨rfl,n⟩;have am:=ZZ (G.o.trans (n.mono (c G.o)));have an:=ZZ (au.o.below n);have R:=ZZ (aY.o.below n);have aZ:=ZZ R.o.firstC;have av:=ZZ an.o.firstC;have aA:=ZZ (R.o.next d.o.num);clear n aN G au aY
 go_wp2_with fail
 refine aZ.o.mono ?_;rintro e bn ⟨rfl,rfl⟩
 go_wp2_with fail
 refine av.o.mono ?_;rintro e bn ⟨rfl,rfl⟩
 go_wp2_with fail
 refine aA.o.mono ?_;rintro e bG ⟨rfl,Q⟩;have aq:=ZZ (am.o.trans (Q.mono (c am.o)));have aj:=ZZ (an.o.below Q);have a9:=ZZ (aj.o.next d.o.num);clear Q aA aZ av am an R
 go_wp2_with fail
 refine a9.o.mono ?_;rintro e bF ⟨rfl,ag⟩;have aK:=ZZ (aq.o.trans (ag.mono (c aq.o)));have a0:=ZZ (aj.o.below ag);have Y:=ZZ a0.o.syncedC;have aP:=ZZ (a0.o.next d.o.num);rw[ar.o] at Y;clear ag a9 aq aj
 go_wp2_with fail
 refine Y.o.mono ?_;rintro e bH ⟨rfl,rfl⟩
 go_wp2_with fail
 refine aP.o.mono ?_;rintro e bC ⟨rfl,aW⟩;have bf:=ZZ (aK.o.trans (aW.mono (c aK.o)));clear aW Y aP;go_wp2;go_ret;exact⟨by first | rfl | simp,bf.o⟩
theorem own:ownKnob Tryz.prog.godebug=none:=by kernel_rfl
theorem laidOut:laidOutB Tryz.prog=true:=by kernel_rfl
set_option linter.unusedVariables false in
theorem lifted (os:Os) (ad:os.Started) (H:Type) (enc:TypeId × Value->H):
 ReturnsInHanded {} Tryz.checked os 4 .any (fun w args=>(Rows.storeTwiceSpec.pre enc Tryz.prog Tryz.f4 Rows.storeTwiceRow.domain false w args∧laidMetH Tryz.prog Rows.storeTwiceRow.laid w)∧sizedMet enc Tryz.prog Tryz.f4 (OpenSpec.ofChange Rows.storeTwiceSpec) false w args) (Rows.storeTwiceSpec.post enc Tryz.prog Tryz.f4 false true false false):=by
 refine returnsInHanded_of_change_and (C:=Tryz.checked) (X:=fun w _=>laidMetH Tryz.prog Rows.storeTwiceRow.laid w) (fun _ _ _ hh h=>h.of_heap hh) own ad (by kernel_rfl) Tryz.func4
  (ChangeSpec.witness_shaped (enc:=enc) (C:=Tryz.checked) (os:=os) (X:=fun w _=>laidMetH Tryz.prog Rows.storeTwiceRow.laid w) false (World.doorLaid Tryz.prog 400 os) #[.int .i64 0,.int .i64 0,.slice none 0 0,.int .i64 0,.slice none 0 0] 8 rfl (World.shaped_of_RefB (by kernel_rfl) (by kernel_rfl)) (by kernel_rfl) (by kernel_rfl) (by kernel_rfl) (ZwR os _)) ?_
 intro W base args ds gs av B g aj _ U _;have a:∀ (j:Nat) t v,Tryz.f4.params[j]?=some t->args[j]?=some v->Value.okWide Tryz.prog W .any base t v:=B;have aa:=g;obtain⟨p,q,n,hV,rfl,al,ax⟩:=g;have F:DataW.TrodAll enc Tryz.prog W 0 (fun _=>true) true Tryz.f4.params.toList args.toList ds p:=n
 rw[Tryz.params4] at F a;obtain⟨z,an,d0,aq,p0,q0,au,rfl,rfl,Y,r0⟩:=trodAll_cons F;obtain⟨G,ap,d1,ar,p1,q1,rfl,rfl,rfl,V,r1⟩:=trodAll_cons r0;obtain⟨i,ao,d2,am,Q,q2,rfl,rfl,rfl,u,R⟩:=trodAll_cons r1;obtain⟨E,ag,d3,ai,p3,q3,rfl,rfl,rfl,h3,N⟩:=trodAll_cons R;obtain⟨J,aw,d4,ak,Z,q4,rfl,rfl,rfl,k,r4⟩:=trodAll_cons N;obtain⟨rfl,rfl,rfl⟩:=trodAll_nil r4;obtain rfl:args=#[z,G,i,E,J]:=by cases args;simp_all
 obtain⟨rfl,rfl⟩:=trodVars_none hV;obtain⟨a0,rfl,rfl,rfl,I⟩:=open_int Tryz.underlying3 (a 0 3 z rfl rfl) Y;obtain⟨L,rfl,rfl,rfl,A⟩:=open_int Tryz.underlying3 (a 1 3 G rfl rfl) V;obtain⟨O,af,P,rfl⟩:=okWide_slice Tryz.underlying22 (a 2 22 i rfl rfl);have D:=u;have ab:∀ x ∈ Q,x.block<W.heap.size:=by obtain⟨m,d⟩:=D;exact DataW.trod_lt m _ _ _ d
 obtain⟨l2,S⟩:∃ l,RdS W (.slice O af P) l:=by
  obtain⟨fuel,c⟩:=u;obtain⟨v,l,b,f⟩:=ZuU c;simp[Value.cells] at b;subst b;exact⟨l,f⟩
 obtain⟨M,rfl,rfl,rfl,K⟩:=open_int Tryz.underlying3 (a 3 3 E rfl rfl) h3;obtain⟨a4,ac,T,rfl⟩:=okWide_slice Tryz.underlying23 (a 4 23 J rfl rfl);have y:=k;have ae:∀ x ∈ Z,x.block<W.heap.size:=by obtain⟨m,d⟩:=y;exact DataW.trod_lt m _ _ _ d
 obtain⟨l4,w4⟩:∃ l,RdI W (.slice a4 ac T) l:=by
  obtain⟨fuel,c⟩:=k;obtain⟨v,l,b,f⟩:=ZpX c;simp[Value.cells] at b;subst b;exact⟨l,f⟩
 clear n B;refine(walk a0 L _ l2 M _ l4 W I A S K w4 (tabs U)).mono fun e W' ⟨he,bel⟩=>?_
 subst he;exact⟨_,rfl,_,_,_,[],_,[],aa,trodAll_mk1 (shut_bool Tryz.underlying4 _),(trodAll_cons_mk (shut_int Tryz.underlying3 I) (trodAll_cons_mk (shut_int Tryz.underlying3 A) (trodAll_cons_mk (Below.trod laidOut (by kernel_rfl) (of_decide_eq_true (by kernel_rfl)) D bel ab) (trodAll_cons_mk (shut_int Tryz.underlying3 K) (trodAll_cons_mk (Below.trod laidOut (by kernel_rfl) (of_decide_eq_true (by kernel_rfl)) y bel ae) trodAll_mk0))))),rfl,bel.frame _,fun h=>by cases h⟩
theorem over:Rows.storeTwiceRow.holds Tryz.pinned (OpenSpec.ofChange Rows.storeTwiceSpec):=
 OpenClaim.holds_of_wide 4 Tryz.f4 rfl rfl rfl rfl rfl rfl rfl ⟨rfl,rfl,rfl,rfl,rfl⟩ rfl rfl rfl rfl rfl (by kernel_rfl) Tryz.func4 (by kernel_rfl)
  (of_decide_eq_true (by kernel_rfl)) (by unfold Func.isWrapper;first | (rw[if_pos (by decide +kernel)];kernel_rfl) | (rw[if_neg (by decide +kernel)];exact⟨rfl,rfl⟩))
  (fun os a H enc _=>lifted os a H enc)
end Go.Proofs.YtnahjngbneicaaaGreatDoor.storeTwice
namespace Go.Proofs.YtnahjngbneicaaaGreatDoor
theorem storeTwice_holds:Rows.StoreTwiceCardSaid:=
 Claim7.holds_tied_plain_at .later [] _ _ _ _ storeTwice.over (fun _ h=>by cases h) (by kernel_rfl) (fun _ h=>by cases h) storeTwice_row_tie rfl ⟨rfl,rfl⟩ (by kernel_rfl) rfl
  (fun f fn b c=>by
   obtain rfl : f = 4 := Option.some.inj ((show Tryz.prog.funcNamed "ferryman/ferrymanlaw12.StoreTwice" = some 4 by kernel_rfl).symm.trans b) |>.symm
   obtain rfl:fn=Tryz.f4:=(Option.some.inj (Tryz.func4.symm.trans c)).symm
   exact⟨by kernel_rfl,fun j t a=>by
    rw[Tryz.params4] at a;have d:t ∈ [3,3,22,3,23]:=by simpa using Array.mem_of_getElem? a
    have e:([3,3,22,3,23].all fun u=>!Tryz.prog.wantsStandIn u)=true:=by kernel_rfl
    exact(show Tryz.prog.wantsStandIn t=false by simpa using List.all_eq_true.1 e t d)⟩)
  (by kernel_rfl)
end Go.Proofs.YtnahjngbneicaaaGreatDoor
