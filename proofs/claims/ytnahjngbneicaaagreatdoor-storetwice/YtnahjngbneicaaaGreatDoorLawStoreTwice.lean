/- Proved: for every room and kind, all calls and every loss of power the law StoreTwice answers true (and the call leaves all older memory as it was), where the listed variable has its listed value. -/
import Derived.Test.YtnahjngbneicaaaGreatDoorStoreRunR
import Derived.Test.YtnahjngbneicaaaGreatDoorStoreFall
import Derived.Test.YtnahjngbneicaaaGreatDoorSchemaTab
import Derived.OpenShut
import Derived.ChangeOld
namespace Go.Proofs.YtnahjngbneicaaaGreatDoor.storeTwice
set_option maxRecDepth 100000
open Go.ChangeShapes Go.WideShapes Go.ChangeAt Go.RowKit
set_option maxHeartbeats 8000000 in
theorem walk (room kind:Int) (v:Value) (l:List SOp) (names:Int) (vk:Value) (keep:List Int) (w:World) (aQ:(Lit.int .i64 room).wf=true) (_hkd:(Lit.int .i64 kind).wf=true) (hl:RdS w v l) (_hnm:(Lit.int .i64 names).wf=true) (T:RdI w vk keep) (_ht:TabF w):
 Calls Tryz.prog 4 #[.int .i64 room,.int .i64 kind,v,.int .i64 names,vk] w fun e w'=>e=.returned (.bool true)∧Below w.heap.size w w':=by
 have an:=ZZ (ZvS w);have a0:=ZZ hl;have ai:=ZZ T;have bu:=ZZ (ZbF aQ);obtain⟨la,lc,hv,-⟩:=id hl;obtain⟨ka,kc,bz,-⟩:=id T;subst hv bz;clear _hkd _ht _hnm hl T aQ;obtain⟨B,hB⟩:∃ B,B=w.heap.size:=⟨_,rfl⟩;have f:=ZZ hB;rw[<-hB] at an ⊢;clear hB;have a:∀ {W:World},Below B w W->B<=W.heap.size:=fun h=>Nat.le_trans (by rw[f.o];exact Nat.le_refl _) h.size
 have bD:=hpeD;have bG:=hpnD;have bF:=ZCA;generalize av:keep.length=A;have D:=ZZ av
 go_enter Tryz.func4,Tryz.ntmps4
 go_wp2_with fail
 refine an.o.mono ?_;rintro e W1 ⟨rfl,E⟩;have am:=ZZ E;have aR:=ZZ (ZzX _ l W1 (a0.o.below E (by rw[f.o];exact Nat.le_refl _)))
 clear E an
 go_wp2_with fail
 refine aR.o.mono ?_;rintro e bn ⟨FB,rfl,aE,rfl⟩;have aU:=ZZ aE;have HN:=ZZ (Zto B room bu.o bn (a am.o));clear aE aR
 go_wp2_with fail
 refine HN.o.mono ?_;rintro e W2 ⟨pd,rfl,aY,aw⟩;have bj:=ZZ aY;have j:=ZZ (am.o.trans aw);clear aY aw HN
 cases FB with
 | false=>
  go_wp2;go_ret;exact⟨by first | rfl | simp,j.o⟩
 | true=>
 have P:=ZZ (aU.o rfl);clear aU am;by_cases y:kind<0
 case pos=>
  have bb:decide (kind<0)=true:=decide_eq_true y;go_wp2;go_ret;exact⟨by first | rfl | simp,j.o⟩
 by_cases aN:6<=kind
 case pos=>
  have bb:decide (kind<0)=false:=decide_eq_false y;have bp:decide (kind ≥ 6)=true:=decide_eq_true aN;go_wp2;go_ret;exact⟨by first | rfl | simp,j.o⟩
 have bb:decide (kind<0)=false:=decide_eq_false y;have bp:decide (kind ≥ 6)=false:=decide_eq_false (by omega)
 by_cases a6:100<A
 case pos=>
  have bo:decide ((A:Int)>100)=true:=decide_eq_true (by omega)
  go_wp2;go_ret;exact⟨by first | rfl | simp,j.o⟩
 have bo:decide ((A:Int)>100)=false:=decide_eq_false (by omega)
 have aB:=ZZ (ZBq (room:=room) kind _ l w W2 f.o a0.o j.o bj.o (by omega) (by omega) P.o.1)
 have L:=ZZ (ZAf (room:=room) (kind:=kind) (by omega) (by omega) l)
 have z:Hid (0<=kind∧kind<6):=ZZ (by omega)
 have ag:=ZZ P.o.1;have aZ:=ZZ a6;generalize ZBw kind room l=X at *;clear y aN a6 P
 go_wp2_with fail
 refine aB.o.mono ?_;rintro e C ⟨p,va,rfl,g⟩;have bw:=ZZ g;obtain⟨aa,ac,bh⟩:=g.own.shape;obtain⟨K,N⟩:∃ K:Nat->Prop,K=fun k=>k<B∨va.ownBlock=some k:=⟨_,rfl⟩
 have a1:Hid (SD K C pd p X.1.1 X.1.2 18000 36000000):=ZZ (by
  rw[N];have:=ag.o
  exact g.sd.mono (by omega) (by omega))
 have aq:Hid ((∀ k,K k->k<C.heap.size)∧∀ k,k<B->K k):=ZZ (by
  rw[N]
  exact⟨g.size (Nat.le_of_eq f.o),fun k c=>.inl c⟩)
 have aj:=ZZ g.old
 have az:Hid (∀ W W',Below B w W->Zap (fun k=>¬ K k) W W'->Below B w W'):=ZZ (fun W W' x ho=>x.trans (ho.below (a x) (fun k hn=>by
  apply Classical.byContradiction;intro bt
  exact hn (aq.o.2 k (by omega)))))
 subst bh
 have aW:Hid (Calls Tryz.prog 12 #[ptr pd,.int .i64 names,.slice ka A kc] C fun e w'=>e=.returned (.tuple #[])∧SD K w' pd p X.1.1 (Zco X.1.2 names keep) 18000 36000000∧Zap (fun k=>¬ K k) C w'):=ZZ (by
  have bm:=ai.o.below aj.o (Nat.le_of_eq f.o.symm);rw[<-D.o];refine a1.o.crashC names _ keep bm ?_ (by decide) (by decide) (by have:=D.o;have:=aZ.o;omega)
  rcases ai.o.block with h0 | ⟨_,b,x,bt⟩
  ·exact .inl h0
  ·refine .inr fun k c=>aq.o.2 k ?_
   rw[x] at c;have:=Option.some.inj c;rw[f.o]
   omega)
 have a7:Hid (SzD (Zco X.1.2 names keep) 62 90000):=ZZ ((L.o.szOpen (by have:=ag.o;omega)).crash names keep)
 have d:Hid (OkS (ZjD (Zco X.1.2 names keep) kind)):=ZZ (Zij z.o.1 z.o.2);have aL:Hid (ZiA (Zco X.1.2 names keep) kind=0):=ZZ (ZsT z.o.1 z.o.2 _ _ _);have bv:Hid (Zco (Zco X.1.2 names keep) 0 []=Zco X.1.2 names keep):=ZZ (ZsS L.o.okd names keep);have aX:Hid ((ZjD (Zco X.1.2 names keep) kind).synced=(ZjD (Zco X.1.2 names keep) kind).next):=ZZ rfl;generalize Zco X.1.2 names keep=D1 at *;generalize X.1.1=sx at *;generalize X.1.2=dx at *;generalize X.2=bi at *;generalize bi.length=al at *;obtain⟨t,I⟩:∃ t,t=ZjD D1 kind:=⟨_,rfl⟩;have HT:=ZZ I;rw[<-I] at d aX;clear I;clear L bw g aB N a1 ai D av ag aZ
 go_wp2_with fail
 refine aW.o.mono ?_;rintro e W4 ⟨rfl,ay,af⟩;have O:=ZZ (az.o _ _ aj.o af);have aI:Hid (∀ k,K k->k<W4.heap.size):=ZZ (fun k c=>Nat.lt_of_lt_of_le (aq.o.1 k c) af.size)
 have F:=ay.openC kind aI.o (by decide) (by decide) a7.o aL.o
 rw[<-HT.o] at F;have bc:=ZZ F;clear ay af aW aj F
 go_wp2_with fail
 refine bc.o.mono ?_;rintro e W5 ⟨q,rfl,a2,-,S⟩;have a3:=ZZ (O.o.trans (S.mono (a O.o)));have bf:Hid (∀ k,K k->k<W5.heap.size):=ZZ (fun k c=>Nat.lt_of_lt_of_le (aI.o k c) S.size)
 have ak:=a2.crashC 0 (.slice none 0 0) [] (RdI.nil W5) (.inl rfl) (by decide) (by decide) (by decide)
 rw[bv.o] at ak;have aF:=ZZ ak;clear a2 S ak bc O
 go_wp2_with fail
 refine aF.o.mono ?_;rintro e W6 ⟨rfl,aO,Y⟩;have ar:=ZZ (az.o _ _ a3.o Y);have bx:Hid (∀ k,K k->k<W6.heap.size):=ZZ (fun k c=>Nat.lt_of_lt_of_le (bf.o k c) Y.size)
 have J:=aO.openC kind bx.o (by decide) (by decide) a7.o aL.o
 rw[<-HT.o] at J;have au:=ZZ J;clear aO Y aF a3 J
 go_wp2_with fail
 refine au.o.mono ?_;rintro e W7 ⟨u,rfl,aD,ao,aA⟩;have HU:=ZZ aD;have HQ:=ZZ ao;have ap:=ZZ (ar.o.trans (aA.mono (a ar.o)));have ba:=ZZ (ao.nowC d.o.now);clear aD ao aA au ar
 go_wp2_with fail
 refine ba.o.mono ?_;rintro e W8 ⟨bg,bl,rfl,aM,-,-,n⟩;have br:=ZZ aM.snV;have M:=ZZ (ap.o.trans (n.mono (a ap.o)));have ah:=ZZ (HU.o.below n);have ax:=ZZ (HQ.o.below n);have aS:=ZZ (ah.o.nowC d.o.now);generalize snV (t.now,bg,bl)=v8 at *;clear aM n ba ap HU HQ
 go_wp2_with fail
 refine aS.o.mono ?_;rintro e W9 ⟨bk,be,rfl,a8,-,-,i⟩;have G:=ZZ (M.o.trans (i.mono (a M.o)));have aH:=ZZ (ah.o.below i);have aJ:=ZZ (ax.o.below i);have ae:=ZxG v8 t.now _ t.now W9 (br.o.below i zL) a8.snV;rw[ZvX] at ae;generalize snV (t.now,bk,be)=v9 at *;have aC:=ZZ ae;clear a8 i ae aS M ah ax
 go_wp2_with fail
 refine aC.o.mono ?_;rintro e bA ⟨rfl,m⟩;have U:=ZZ (G.o.trans (m.mono (a G.o)));have Q:=ZZ (aH.o.below m);have R:=ZZ (aJ.o.below m);have aP:=ZZ R.o.firstC;have a5:=ZZ Q.o.firstC;have aG:=ZZ (R.o.next d.o.num);clear m aC G aH aJ
 go_wp2_with fail
 refine aP.o.mono ?_;rintro e bq ⟨rfl,rfl⟩
 go_wp2_with fail
 refine a5.o.mono ?_;rintro e bq ⟨rfl,rfl⟩
 go_wp2_with fail
 refine aG.o.mono ?_;rintro e bC ⟨rfl,V⟩;have Z:=ZZ (U.o.trans (V.mono (a U.o)));have ab:=ZZ (Q.o.below V);have a4:=ZZ (ab.o.next d.o.num);clear V aG aP a5 U Q R
 go_wp2_with fail
 refine a4.o.mono ?_;rintro e bB ⟨rfl,H⟩;have aT:=ZZ (Z.o.trans (H.mono (a Z.o)));have a9:=ZZ (ab.o.below H);have ad:=ZZ a9.o.syncedC;have aK:=ZZ (a9.o.next d.o.num);rw[aX.o] at ad;clear H a4 Z ab
 go_wp2_with fail
 refine ad.o.mono ?_;rintro e bH ⟨rfl,rfl⟩
 go_wp2_with fail
 refine aK.o.mono ?_;rintro e bE ⟨rfl,aV⟩;have bd:=ZZ (aT.o.trans (aV.mono (a aT.o)));clear aV ad aK;go_wp2;go_ret;exact⟨by first | rfl | simp,bd.o⟩
theorem own:ownKnob Tryz.prog.godebug=none:=by kernel_rfl
theorem laidOut:laidOutB Tryz.prog=true:=by kernel_rfl
set_option linter.unusedVariables false in
theorem lifted (os:Os) (ac:os.Started) (H:Type) (enc:TypeId × Value->H):
 ReturnsInHanded {} Tryz.checked os 4 .any (fun w args=>(Rows.storeTwiceSpec.pre enc Tryz.prog Tryz.f4 Rows.storeTwiceRow.domain false w args∧laidMetH Tryz.prog Rows.storeTwiceRow.laid w)∧sizedMet enc Tryz.prog Tryz.f4 (OpenSpec.ofChange Rows.storeTwiceSpec) false w args) (Rows.storeTwiceSpec.post enc Tryz.prog Tryz.f4 false true false false):=by
 refine returnsInHanded_of_change_and (C:=Tryz.checked) (X:=fun w _=>laidMetH Tryz.prog Rows.storeTwiceRow.laid w) (fun _ _ _ hh h=>h.of_heap hh) own ac (by kernel_rfl) Tryz.func4
  (ChangeSpec.witness_shaped (enc:=enc) (C:=Tryz.checked) (os:=os) (X:=fun w _=>laidMetH Tryz.prog Rows.storeTwiceRow.laid w) false (World.doorLaid Tryz.prog 400 os) #[.int .i64 0,.int .i64 0,.slice none 0 0,.int .i64 0,.slice none 0 0] 8 rfl (World.shaped_of_RefB (by kernel_rfl) (by kernel_rfl)) (by kernel_rfl) (by kernel_rfl) (by kernel_rfl) (ZAh os _)) ?_
 intro W base args ds gs ao D y am _ hL _;have a:∀ (j:Nat) t v,Tryz.f4.params[j]?=some t->args[j]?=some v->Value.okWide Tryz.prog W .any base t v:=D;have L:=y;obtain⟨p,q,u,N,rfl,aj,ag⟩:=y;have B:DataW.TrodAll enc Tryz.prog W 0 (fun _=>true) true Tryz.f4.params.toList args.toList ds p:=u
 rw[Tryz.params4] at B a;obtain⟨J,au,d0,ap,p0,q0,aq,rfl,rfl,P,Q⟩:=trodAll_cons B;obtain⟨i,ak,d1,an,p1,q1,rfl,rfl,rfl,U,V⟩:=trodAll_cons Q;obtain⟨I,ai,d2,ar,p2,q2,rfl,rfl,rfl,K,S⟩:=trodAll_cons V;obtain⟨F,af,d3,ah,p3,q3,rfl,rfl,rfl,Y,r3⟩:=trodAll_cons S;obtain⟨G,av,d4,al,p4,q4,rfl,rfl,rfl,k,r4⟩:=trodAll_cons r3;obtain⟨rfl,rfl,rfl⟩:=trodAll_nil r4;obtain rfl:args=#[J,i,I,F,G]:=by cases args;simp_all
 obtain⟨rfl,rfl⟩:=trodVars_none N;obtain⟨a0,rfl,rfl,rfl,g⟩:=open_int Tryz.underlying3 (a 0 3 J rfl rfl) P;obtain⟨Z,rfl,rfl,rfl,n⟩:=open_int Tryz.underlying3 (a 1 3 i rfl rfl) U;obtain⟨T,R,M,rfl⟩:=okWide_slice Tryz.underlying22 (a 2 22 I rfl rfl);have A:=K;have ab:∀ x ∈ p2,x.block<W.heap.size:=by obtain⟨m,c⟩:=A;exact DataW.trod_lt m _ _ _ c
 obtain⟨l2,w2⟩:∃ l,RdS W (.slice T R M) l:=by
  obtain⟨fuel,d⟩:=K;obtain⟨v,l,b,f⟩:=Zyk d;simp[Value.cells] at b;subst b;exact⟨l,f⟩
 obtain⟨a3,rfl,rfl,rfl,E⟩:=open_int Tryz.underlying3 (a 3 3 F rfl rfl) Y;obtain⟨a4,ae,aa,rfl⟩:=okWide_slice Tryz.underlying23 (a 4 23 G rfl rfl);have z:=k;have ad:∀ x ∈ p4,x.block<W.heap.size:=by obtain⟨m,c⟩:=z;exact DataW.trod_lt m _ _ _ c
 obtain⟨l4,O⟩:∃ l,RdI W (.slice a4 ae aa) l:=by
  obtain⟨fuel,d⟩:=k;obtain⟨v,l,b,f⟩:=Ztn d;simp[Value.cells] at b;subst b;exact⟨l,f⟩
 clear u D;refine(walk a0 Z _ l2 a3 _ l4 W g n w2 E O (tabs hL)).mono fun e W' ⟨he,bel⟩=>?_
 subst he;exact⟨_,rfl,_,_,_,[],_,[],L,trodAll_mk1 (shut_bool Tryz.underlying4 _),(trodAll_cons_mk (shut_int Tryz.underlying3 g) (trodAll_cons_mk (shut_int Tryz.underlying3 n) (trodAll_cons_mk (Below.trod laidOut (by kernel_rfl) (of_decide_eq_true (by kernel_rfl)) A bel ab) (trodAll_cons_mk (shut_int Tryz.underlying3 E) (trodAll_cons_mk (Below.trod laidOut (by kernel_rfl) (of_decide_eq_true (by kernel_rfl)) z bel ad) trodAll_mk0))))),rfl,bel.frame _,fun h=>by cases h⟩
theorem over:Rows.storeTwiceRow.holds Tryz.pinned (OpenSpec.ofChange Rows.storeTwiceSpec):=
 OpenClaim.holds_of_wide 4 Tryz.f4 rfl rfl rfl rfl rfl rfl rfl ⟨rfl,rfl,rfl,rfl,rfl⟩ rfl rfl rfl rfl rfl (by kernel_rfl) Tryz.func4 (by kernel_rfl)
  (of_decide_eq_true (by kernel_rfl)) (by unfold Func.isWrapper;first | (rw[if_pos (by decide +kernel)];kernel_rfl) | (rw[if_neg (by decide +kernel)];exact⟨rfl,rfl⟩))
  (fun os a H enc _=>lifted os a H enc)
end Go.Proofs.YtnahjngbneicaaaGreatDoor.storeTwice
namespace Go.Proofs.YtnahjngbneicaaaGreatDoor
theorem storeTwice_holds:Rows.StoreTwiceCardSaid:=
 Claim7.holds_tied_plain_at .later [] _ _ _ _ storeTwice.over (fun _ h=>by cases h) (by kernel_rfl) (fun _ h=>by cases h) storeTwice_row_tie rfl ⟨rfl,rfl⟩ (by kernel_rfl) rfl
  (fun f fn e c=>by
   obtain rfl : f = 4 := Option.some.inj ((show Tryz.prog.funcNamed "ferryman/ferrymanlaw12.StoreTwice" = some 4 by kernel_rfl).symm.trans e) |>.symm
   obtain rfl:fn=Tryz.f4:=(Option.some.inj (Tryz.func4.symm.trans c)).symm
   exact⟨by kernel_rfl,fun j t a=>by
    rw[Tryz.params4] at a;have d:t ∈ [3,3,22,3,23]:=by simpa using Array.mem_of_getElem? a
    have b:([3,3,22,3,23].all fun u=>!Tryz.prog.wantsStandIn u)=true:=by kernel_rfl
    exact(show Tryz.prog.wantsStandIn t=false by simpa using List.all_eq_true.1 b t d)⟩)
  (by kernel_rfl)
end Go.Proofs.YtnahjngbneicaaaGreatDoor
