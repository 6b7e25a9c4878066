/- Proved: for every room and kind, all calls and every loss of power the law StoreLasts answers true (and the call leaves all older memory as it was), where the listed variable has its listed value. -/
import Derived.Test.YtnahjngbneicaaaGreatDoorStoreFall
import Derived.Test.YtnahjngbneicaaaGreatDoorStoreFell
import Derived.Test.YtnahjngbneicaaaGreatDoorRef07S
import Derived.Test.YtnahjngbneicaaaGreatDoorSchemaTab
namespace Go.Proofs.YtnahjngbneicaaaGreatDoor.storeLasts
set_option maxRecDepth 100000
open Go.ChangeShapes Go.WideShapes Go.ChangeAt Go.RowKit
set_option maxHeartbeats 8000000 in
theorem walk (room kind:Int) (v:Value) (l:List SOp) (names:Int) (vk:Value) (keep:List Int) (w:World) (b4:(Lit.int .i64 room).wf=true) (_hkd:(Lit.int .i64 kind).wf=true) (hl:RdS w v l) (_hnm:(Lit.int .i64 names).wf=true) (aY:RdI w vk keep) (_ht:TabF w):
 Calls Tryz.prog 3 #[.int .i64 room,.int .i64 kind,v,.int .i64 names,vk] w fun e w'=>e=.returned (.bool true)∧Below w.heap.size w w':=by
 have a0:=ZZ (Ztx w);have bB:=ZZ hl;have aC:=ZZ aY;have co:=ZZ (Z1 b4);obtain⟨la,lc,hv,-⟩:=id hl;obtain⟨ka,kc,cu,-⟩:=id aY;subst hv cu;clear _hkd _ht _hnm hl aY b4;obtain⟨B,hB⟩:∃ B,B=w.heap.size:=⟨_,rfl⟩;have Q:=ZZ hB;rw[<-hB] at a0 ⊢;clear hB;have hS:∀ {W:World},Below B w W->B<=W.heap.size:=fun h=>Nat.le_trans (by rw[Q.o];exact Nat.le_refl _) h.size
 have cM:=hpeD;have cF:=hpnD;have cL:=ZAy;generalize bF:keep.length=kl;have aW:=ZZ bF
 go_enter Tryz.func3,Tryz.ntmps3
 go_wp2_with fail
 refine a0.o.mono ?_;rintro e W1 ⟨rfl,aB⟩;have aM:=ZZ aB;have bL:=ZZ (ZxN _ l W1 (bB.o.below aB (by rw[Q.o];exact Nat.le_refl _)))
 clear aB a0
 go_wp2_with fail
 refine bL.o.mono ?_;rintro e ct ⟨FB,rfl,bQ,rfl⟩;have bo:=ZZ bQ;have HN:=ZZ (ZqP B room co.o ct (hS aM.o));clear bQ bL
 go_wp2_with fail
 refine HN.o.mono ?_;rintro e W2 ⟨pd,rfl,aV,a6⟩;have cl:=ZZ aV;have T:=ZZ (aM.o.trans a6);clear aV a6 HN
 cases FB with
 | false=>
  go_wp2;go_ret;exact⟨by first | rfl | simp,T.o⟩
 | true=>
 have ag:=ZZ (bo.o rfl);clear bo aM;by_cases am:kind<0
 case pos=>
  have bq:decide (kind<0)=true:=decide_eq_true am;go_wp2;go_ret;exact⟨by first | rfl | simp,T.o⟩
 by_cases bd:6<=kind
 case pos=>
  have bq:decide (kind<0)=false:=decide_eq_false am;have cb:decide (kind ≥ 6)=true:=decide_eq_true bd;go_wp2;go_ret;exact⟨by first | rfl | simp,T.o⟩
 have bq:decide (kind<0)=false:=decide_eq_false am;have cb:decide (kind ≥ 6)=false:=decide_eq_false (by omega)
 by_cases bT:100<kl
 case pos=>
  have ca:decide ((kl:Int)>100)=true:=decide_eq_true (by omega)
  go_wp2;go_ret;exact⟨by first | rfl | simp,T.o⟩
 have ca:decide ((kl:Int)>100)=false:=decide_eq_false (by omega)
 have bJ:=ZZ (Zzo (room:=room) kind _ l w W2 Q.o bB.o T.o cl.o (by omega) (by omega) ag.o.1)
 have bW:=ZZ (ZAc (room:=room) (kind:=kind) (by omega) (by omega) l ag.o.1)
 have an:=ZZ (ZxV (room:=room) (kind:=kind) (by omega) (by omega) l)
 have G:Hid (0<=kind∧kind<6):=ZZ (by omega)
 have ax:=ZZ ag.o.1;have bY:=ZZ bT;generalize Zyo kind room l=X at *;clear am bd bT ag
 go_wp2_with fail
 refine bJ.o.mono ?_;rintro e M ⟨p,va,rfl,N⟩;have b8:=ZZ N;obtain⟨aa,ac,ch⟩:=N.own.shape;obtain⟨K,hK⟩:∃ K:Nat->Prop,K=fun k=>k<B∨va.ownBlock=some k:=⟨_,rfl⟩
 have aG:Hid (SD K M pd p X.1.1 X.1.2 18000 36000000):=ZZ (by
  rw[hK];have:=ax.o
  exact N.sd.mono (by omega) (by omega))
 have az:Hid ((∀ k,K k->k<M.heap.size)∧∀ k,k<B->K k):=ZZ (by
  rw[hK]
  exact⟨N.size (Nat.le_of_eq Q.o),fun k L=>.inl L⟩)
 have aF:=ZZ N.old
 have cf:Hid (∀ W W',Below B w W->Ql (fun k=>¬ K k) W W'->Below B w W'):=ZZ (fun W W' m ho=>m.trans (ho.below (hS m) (fun k hn=>by
  apply Classical.byContradiction;intro ci
  exact hn (az.o.2 k (by omega)))))
 subst ch;have b6:=an.o.rcn;obtain⟨lo,d,bO,aK,x⟩:=JI.found (kind:=kind) G.o.1 G.o.2 bW.o an.o names keep
 have bU:Hid (Calls Tryz.prog 11 #[ptr p] M fun e w'=>e=.returned (.int .i64 (lo:Int))∧w'=M):=ZZ (by
  have g:=aG.o.syncedC;rw[bO] at g
  exact g)
 have bK:Hid (Calls Tryz.prog 12 #[ptr pd,.int .i64 names,.slice ka kl kc] M fun e w'=>e=.returned (.tuple #[])∧SD K w' pd p X.1.1 (G7 X.1.2 names keep) 18000 36000000∧Ql (fun k=>¬ K k) M w'):=ZZ (by
  have b9:=aC.o.below aF.o (Nat.le_of_eq Q.o.symm);rw[<-aW.o];refine aG.o.crashC names _ keep b9 ?_ (by decide) (by decide) (by have:=aW.o;have:=bY.o;omega)
  rcases aC.o.block with h0 | ⟨_,b,m,ci⟩
  ·exact .inl h0
  ·refine .inr fun k L=>az.o.2 k ?_
   rw[m] at L;have:=Option.some.inj L;rw[Q.o]
   omega)
 have cj:Hid (SzD (G7 X.1.2 names keep) 62 90000):=ZZ ((an.o.szOpen (by have:=ax.o;omega)).crash names keep)
 have ap:Hid (OkS (Zew (G7 X.1.2 names keep) kind)):=ZZ (Zfe G.o.1 G.o.2);have cm:Hid (ZfB (G7 X.1.2 names keep) kind=0):=ZZ (Zqv G.o.1 G.o.2 _ _ _);have bu:Hid (∀ r ∈ X.2,Zcx r):=ZZ (fun r Z=>ZaQ (aK.2 r Z))
 have a2:Hid (RdR M (.slice aa X.2.length ac) X.2∧(X.2=[]∨∀ k,(Value.slice aa X.2.length ac).ownBlock=some k->K k)):=ZZ ⟨N.own.rd bu.o,.inr fun k L=>by
  rw[hK]
  exact .inr L⟩
 generalize G7 X.1.2 names keep=D1 at *;generalize X.1.1=sx at *;generalize X.1.2=dx at *;generalize X.2=all at *;obtain⟨t,ht⟩:∃ t,t=Zew D1 kind:=⟨_,rfl⟩;have HT:=ZZ ht;rw[<-ht] at ap x;obtain⟨j,aU⟩:∃ j,j=t.log.first:=⟨_,rfl⟩
 have z:Hid (lo<=d∧d<=all.length∧t.next=(d:Int)∧t.now=(Q3 (Zn kind) (all.take d)).1∧(Q3 (Zn kind) (all.take d)).2=0∧0<=j∧j<=(d:Int)∧Zbs t j d=((all.take d).drop j.toNat,0)∧t.log.recs.length<=1200∧all.length<=1200):=ZZ (by
  have cz:=ax.o
  have bz:t.log.recs.length<=all.length:=by
   rw[x.recs,List.length_drop,List.length_take];omega
  rw[aU];refine⟨x.lo,x.hi,x.next,x.now,aK.taken kind d,x.f0,x.fe,?_,by omega,by omega⟩
  have h1:=x.f0;have h2:=x.fe;have h3:=x.next;have h4:=x.hi
  have ah:t.log.recs.length=d-t.log.first.toNat:=by
   rw[x.recs,List.length_drop,List.length_take];omega
  unfold Zbs
  rw[if_neg (by omega),if_neg (by omega),show(t.log.first-t.log.first).toNat=0 by omega,List.drop_zero,List.take_of_length_le (by omega),x.recs])
 have cg:Hid (∀ W,SD K W pd p sx D1 18000 36000000->True):=ZZ (fun _ _=>trivial)
 clear ht x aK bO b6 bW cg;generalize a8:all.length=al at *;have O:=ZZ a8;have cB:(al:Int)<=1200:=by have:=z.o.2.2.2.2.2.2.2.2.2;omega
 have cx:(d:Int)<=al:=by have:=z.o.2.1;omega
 have cG:(lo:Int)<=d:=by have:=z.o.1;omega
 clear an b8 N bJ hK aG aC aW bF ax bY a8
 go_wp2_with fail
 refine bU.o.mono ?_;rintro e cI ⟨rfl,rfl⟩
 go_wp2_with fail
 refine bK.o.mono ?_;rintro e W4 ⟨rfl,bZ,aq⟩;have a4:=ZZ (cf.o _ _ aF.o aq);have cr:Hid (∀ k,K k->k<W4.heap.size):=ZZ (fun k L=>Nat.lt_of_lt_of_le (az.o.1 k L) aq.size)
 have aN:=bZ.openC kind cr.o (by decide) (by decide) cj.o cm.o
 rw[<-HT.o] at aN;have bc:=ZZ aN;have a7:=ZZ (RdR.keepK a2.o.1 a2.o.2 aq);clear bZ aq bK aF aN bU a2
 go_wp2_with fail
 refine bc.o.mono ?_;rintro e W5 ⟨q,rfl,bp,-,aA⟩;have HQ:=ZZ bp;have bC:=ZZ (a4.o.trans (aA.mono (hS a4.o)));have bV:=ZZ (a7.o.below aA zL)
 have R:Hid (∀ W,Below W5.heap.size W5 W->Calls Tryz.prog 14 #[ptr q] W fun e w'=>e=.returned (.int .i64 (d:Int))∧Below W.heap.size W w'):=ZZ (fun W u=>by
  have g:=(HQ.o.below u).next ap.o.num;rw[z.o.2.2.1] at g
  exact g)
 have bw:Hid (∀ W,Below W5.heap.size W5 W->Calls Tryz.prog 18 #[ptr q] W fun e w'=>e=.returned (.int .i64 j)∧w'=W):=ZZ (fun W u=>by
  have g:=(HQ.o.below u).firstC;rw[<-aU] at g
  exact g)
 clear bp aA bc a4 a7 aU;have b7:=hS bC.o
 go_wp2_with fail
 refine(R.o W5 (Below.refl _ _)).mono ?_;rintro e W6 ⟨rfl,b2⟩;have a1:=ZZ b2;clear b2;have cA:decide ((d:Int)<(lo:Int))=false:=decide_eq_false (by omega)
 have aV:decide ((d:Int)>(al:Int))=false:=decide_eq_false (by omega)
 go_wp2_with fail
 refine(R.o W6 a1.o).mono ?_;rintro e W7 ⟨rfl,bj⟩;have bM:=ZZ (a1.o.trans (bj.mono a1.o.size));clear bj;have bl:=ZZ (ZkN kind W7)
 go_wp2_with fail
 refine bl.o.mono ?_;rintro e W8 ⟨vl,rfl,ah,bf,bn,bz,ba⟩;have aP:=ZZ (bM.o.trans (ba.mono bM.o.size));have ao:=ZZ (And.intro ah (And.intro bf bn))
 obtain⟨za,zn,zc,hz⟩:∃ a n c,vl=Value.slice a n c:=by
  obtain⟨a,c,hh,-⟩:=ah;exact⟨a,_,c,hh⟩
 subst hz;obtain⟨E,ak⟩:∃ E,E=J9 kind:=⟨_,rfl⟩;have aj:=ZZ ak;rw[<-ak] at ao;rw[<-ak];clear ah bf bn bz ba bl ak
 go_wp2_with fail
 refine(R.o W8 aP.o).mono ?_;rintro e V ⟨rfl,aR⟩;have aZ:=ZZ (aP.o.trans (aR.mono aP.o.size));have ai:=ZZ (And.intro (ao.o.1.below aR zL) ao.o.2);have aX:=bV.o.below aZ.o zL;rw[<-O.o] at aX;obtain⟨a',c',hcut,U⟩:=Zzr V aa all ac aX d (by have:=z.o.2.1;have:=O.o;omega)
 have ad:=U (d:Int) rfl;rw[O.o] at ad;have b1:=Zij (P:=SnS) (fun S r aI hf=>aI.next hf) (fun S aI=>by have:=aI.2.few;omega) 0 E.kind (.slice za zn zc) E.shut E.eng (.slice none 0 0) (Zn kind) (.slice a' d c') (all.take d) V ⟨_,_,by rw[aj.o];rfl,by have g:=ai.o.1;rw[aj.o] at g;exact g,by have g:=ai.o.2.1;rw[aj.o] at g;exact g,by have g:=ai.o.2.2;rw[aj.o] at g;exact g,RdE.nil _,(Qo (by decide) (by decide):I64 0)⟩ hcut (by have:=ZlJ (ZfX G.o.1 G.o.2).2.1;omega) (by show([]:List Ent).length<=1000;decide) (by rw[List.length_take];have:=z.o.2.2.2.2.2.2.2.2.2;omega) (ZfX G.o.1 G.o.2).snS
 obtain⟨f,au⟩:∃ f,f=(Q3 (Zn kind) (all.take d)).1:=⟨_,rfl⟩
 have bR:Hid (Calls Tryz.prog 15 #[.agg #[.int .i64 0,.int .i64 E.kind,.slice za zn zc,.bool E.shut,.int .i64 E.eng,.slice none 0 0],.slice a' d c'] V fun e w'=>∃ C I A D H F,e=.returned (.tuple #[.agg #[.int .i64 f.idx,.int .i64 f.st.kind,.slice C I A,.bool f.st.shut,.int .i64 f.st.eng,.slice D H F],.int .i64 0])∧SnV w' (.agg #[.int .i64 f.idx,.int .i64 f.st.kind,.slice C I A,.bool f.st.shut,.int .i64 f.st.eng,.slice D H F]) f∧Below V.heap.size V w'):=ZZ (by
  refine b1.mono ?_;rintro e w' ⟨vx,vu,rfl,r1,r2,r3,r4,r5,-,-,m⟩;obtain⟨C,A,hx,-⟩:=id r1;obtain⟨D,F,hu⟩:=r4.shape;rw[z.o.2.2.2.2.1,<-au];rw[<-au] at r1 r2 r3 r4 r5 hx hu;subst hx hu
  exact⟨C,_,A,D,_,F,rfl,⟨_,_,rfl,r1,r2,r3,r4,r5⟩,m⟩)
 have ck:Hid (t.now=f):=ZZ (by rw[au];exact z.o.2.2.2.1)
 clear b1 hcut U aX aR au ao ai;generalize E.kind=cD at *;generalize E.shut=cC at *;generalize E.eng=cN at *
 go_wp2_with fail
 refine bR.o.mono ?_;rintro e i ⟨C,I,A,D,H,F,rfl,bb,b0⟩;have bN:=ZZ bb;have aw:=ZZ (aZ.o.trans (b0.mono aZ.o.size));obtain⟨J,ar⟩:∃ J,J=i.alloc (.cells #[.int .i64 f.idx,.int .i64 f.st.kind,.slice C I A,.bool f.st.shut,.int .i64 f.st.eng,.slice D H F] 41):=⟨_,rfl⟩;have bD:=ZZ ar;have aO:Hid (Below i.heap.size i J):=ZZ (by rw[ar];exact Jw _ _)
 have cd:Hid (Bn J i.heap.size #[.int .i64 f.idx,.int .i64 f.st.kind,.slice C I A,.bool f.st.shut,.int .i64 f.st.eng,.slice D H F]):=ZZ (by rw[ar];exact heap_alloc_new i _)
 have bE:=ZZ (bw.o J (aw.o.trans (aO.o.mono aw.o.size)));have aQ:=ZZ (aw.o.trans (aO.o.mono aw.o.size));have cc:=ZZ (bN.o.below aO.o zL);clear bb b0 bR ad ar bN;generalize f.idx=ti at *;generalize f.st.kind=tk at *;generalize f.st.shut=ts at *;generalize f.st.eng=te at *
 go_upto_region 15 with fail
 rw[<-bD.o];clear bD
 have ce:Hid (∀ W,Below J.heap.size J W->W.cell? ⟨i.heap.size,0,none⟩=some (.int .i64 ti)∧W.cell? ⟨i.heap.size,1,none⟩=some (.int .i64 tk)∧W.cell? ⟨i.heap.size,2,none⟩=some (.slice C I A)∧W.cell? ⟨i.heap.size,3,none⟩=some (.bool ts)∧W.cell? ⟨i.heap.size,4,none⟩=some (.int .i64 te)∧W.cell? ⟨i.heap.size,5,none⟩=some (.slice D H F)):=ZZ (fun W u=>by
  have m:=cd.o.below u zL
  exact⟨(m.cell 0).1,(m.cell 1).1,(m.cell 2).1,(m.cell 3).1,(m.cell 4).1,(m.cell 5).1⟩)
 go_wp2_with fail
 refine bE.o.mono ?_;rintro e cE ⟨rfl,bG⟩;rw[bG];clear bG bE
 go_wp2_with fail
 refine(R.o J aQ.o).mono ?_;rintro e cy ⟨rfl,aT⟩;have aD:=ZZ aT;have ae:=ZZ (aQ.o.trans (aT.mono aQ.o.size));have aJ:=(HQ.o.below ae.o).recsC j (d:Int) ap.o (by have:=z.o.2.2.2.2.2.2.2.2.1;omega)
 rw[z.o.2.2.2.2.2.2.2.1] at aJ;have bx:=ZZ aJ;clear aT aJ
 go_wp2_with fail
 refine bx.o.mono ?_;rintro e bg ⟨bm,rfl,bi,aS⟩;have bA:=ZZ (bi.rd (fun r Z=>bu.o r (List.mem_of_mem_take (List.mem_of_mem_drop Z))))
 have aH:=ZZ (aD.o.trans (aS.mono aD.o.size));have ab:=ZZ (ae.o.trans (aS.mono ae.o.size));clear bi aS bx aD ae
 go_wp2_with fail
 refine(bw.o bg ab.o).mono ?_;rintro e cw ⟨rfl,be⟩;rw[be];clear be
 go_wp2_with fail
 refine(R.o bg ab.o).mono ?_;rintro e Y ⟨rfl,av⟩;have bk:=ZZ (aH.o.trans (av.mono aH.o.size));have a3:=ZZ (ab.o.trans (av.mono ab.o.size));have bP:=ZZ (bA.o.below av zL);have aL:=bV.o.below a3.o zL;rw[<-O.o] at aL;have bt:0<=j∧j<=(d:Int):=⟨z.o.2.2.2.2.2.1,z.o.2.2.2.2.2.2.1⟩;obtain⟨bt,cJ⟩:=bt;obtain⟨a9,c9,hcut,U⟩:=ZqU Y aa all ac aL j.toNat d (by omega) (by have:=z.o.2.1;have:=O.o;omega)
 have ad:=U j (d:Int) (by omega) rfl
 rw[O.o] at ad
 have bS:Hid (Calls Tryz.prog 19 #[bm,.slice a9 (d-j.toNat) c9] Y fun e w'=>e=.returned (.bool true)∧Below Y.heap.size Y w'):=ZZ (by
  have g:=ZoF bm _ _ _ Y bP.o hcut;rw[show(all.drop j.toNat).take (d-j.toNat)=(all.take d).drop j.toNat by rw[List.drop_take]] at g
  rw[show decide ((all.take d).drop j.toNat=(all.take d).drop j.toNat)=true from decide_eq_true rfl] at g
  exact g)
 generalize d-j.toNat=cn at *;clear av bA aL hcut U aH ab bP
 go_wp2_with fail
 refine bS.o.mono ?_;rintro e y ⟨rfl,ay⟩;have af:=ZZ (bk.o.trans (ay.mono bk.o.size));have a5:=ZZ (a3.o.trans (ay.mono a3.o.size));have b3:Hid (Below y.heap.size y y.drew):=ZZ (Below.refl _ _).drew;have aE:Hid (∀ W,Below y.heap.size y W->W.cell? ⟨i.heap.size,0,none⟩=some (.int .i64 ti)∧W.cell? ⟨i.heap.size,1,none⟩=some (.int .i64 tk)∧W.cell? ⟨i.heap.size,2,none⟩=some (.slice C I A)∧W.cell? ⟨i.heap.size,3,none⟩=some (.bool ts)∧W.cell? ⟨i.heap.size,4,none⟩=some (.int .i64 te)∧W.cell? ⟨i.heap.size,5,none⟩=some (.slice D H F)):=ZZ (fun W u=>ce.o W (af.o.trans (u.mono af.o.size)))
 have b5:Hid (∀ W,Below y.heap.size y W->Calls Tryz.prog 21 #[ptr q] W fun e w'=>∃ v,e=.returned v∧SnV w' v f∧Below y.heap.size y w'):=ZZ (fun W u=>by
  have g:=(HQ.o.below (a5.o.trans (u.mono a5.o.size))).nowC ap.o.now;rw[ck.o] at g;refine g.mono ?_;rintro e w' ⟨vl,vt,rfl,Z,-,-,m⟩
  exact⟨_,rfl,Z.snV,u.trans (m.mono u.size)⟩)
 have cp:Hid (∀ W v,SnV W v f->Below y.heap.size y W->Calls Tryz.prog 20 #[.agg #[.int .i64 ti,.int .i64 tk,.slice C I A,.bool ts,.int .i64 te,.slice D H F],v] W fun e w'=>e=.returned (.bool true)∧Below y.heap.size y w'):=ZZ (fun W v hv u=>by
  have g:=Zvu _ f v f W (cc.o.below (af.o.trans (u.mono af.o.size)) zL) hv;rw[ZtD] at g;refine g.mono ?_;rintro e w' ⟨rfl,m⟩
  exact⟨rfl,u.trans (m.mono u.size)⟩)
 have bH:=ZZ (bC.o.trans (a5.o.mono b7));clear ay bS ad
 go_upto_region 17 with fail
 go_region_held(fun W=>W.cell? ⟨i.heap.size,0,none⟩=some (.int .i64 ti)∧W.cell? ⟨i.heap.size,1,none⟩=some (.int .i64 tk)∧W.cell? ⟨i.heap.size,2,none⟩=some (.slice C I A)∧W.cell? ⟨i.heap.size,3,none⟩=some (.bool ts)∧W.cell? ⟨i.heap.size,4,none⟩=some (.int .i64 te)∧W.cell? ⟨i.heap.size,5,none⟩=some (.slice D H F))
  (first | (with_reducible exact aE.o _ b3.o) | (with_reducible exact aE.o _ bv.o) | (with_reducible exact aE.o _ br.o))
  (first
   | (go_at_call 21;refine(b5.o _ b3.o).mono ?_;rintro e cK ⟨cv,rfl,bI,bh⟩;have cq:=ZZ bI;have bv:=ZZ bh;clear bI bh)
   | (go_at_call 20;refine(cp.o _ _ cq.o bv.o).mono ?_;rintro e cH ⟨rfl,bX⟩;have br:=ZZ bX;clear bX))
 all_goals
  go_wp2;go_ret;exact⟨by first | rfl | simp,bH.o.trans (br.o.mono (hS bH.o))⟩
theorem own:ownKnob Tryz.prog.godebug=none:=by kernel_rfl
theorem laidOut:laidOutB Tryz.prog=true:=by kernel_rfl
set_option linter.unusedVariables false in
theorem lifted (os:Os) (O:os.Started) (H:Type) (enc:TypeId × Value->H):
 ReturnsInHanded {} Tryz.checked os 3 .any (fun w args=>(Rows.storeLastsSpec.pre enc Tryz.prog Tryz.f3 Rows.storeLastsRow.domain false w args∧laidMetH Tryz.prog Rows.storeLastsRow.laid w)∧sizedMet enc Tryz.prog Tryz.f3 (OpenSpec.ofChange Rows.storeLastsSpec) false w args) (Rows.storeLastsSpec.post enc Tryz.prog Tryz.f3 false true false false):=by
 refine returnsInHanded_of_change_and (C:=Tryz.checked) (X:=fun w _=>laidMetH Tryz.prog Rows.storeLastsRow.laid w) (fun _ _ _ hh h=>h.of_heap hh) own O (by kernel_rfl) Tryz.func3
  (ChangeSpec.witness_shaped (enc:=enc) (C:=Tryz.checked) (os:=os) (X:=fun w _=>laidMetH Tryz.prog Rows.storeLastsRow.laid w) false (World.doorLaid Tryz.prog 400 os) #[.int .i64 0,.int .i64 0,.slice none 0 0,.int .i64 0,.slice none 0 0] 8 rfl (World.shaped_of_RefB (by kernel_rfl) (by kernel_rfl)) (by kernel_rfl) (by kernel_rfl) (by kernel_rfl) (Zyd os _)) ?_
 intro W base args P gs ak K y an _ U _;have a:∀ (j:Nat) t v,Tryz.f3.params[j]?=some t->args[j]?=some v->Value.okWide Tryz.prog W .any base t v:=K;have ab:=y;obtain⟨p,q,I,hV,rfl,ah,am⟩:=y;have G:DataW.TrodAll enc Tryz.prog W 0 (fun _=>true) true Tryz.f3.params.toList args.toList P p:=I
 rw[Tryz.params3] at G a;obtain⟨A,ar,d0,al,p0,q0,ai,rfl,rfl,h0,Q⟩:=trodAll_cons G;obtain⟨n,ag,d1,ap,p1,q1,rfl,rfl,rfl,S,r1⟩:=trodAll_cons Q;obtain⟨D,av,d2,aq,V,q2,rfl,rfl,rfl,B,r2⟩:=trodAll_cons r1;obtain⟨g,aj,d3,ao,p3,q3,rfl,rfl,rfl,N,r3⟩:=trodAll_cons r2;obtain⟨i,au,d4,aw,R,q4,rfl,rfl,rfl,F,r4⟩:=trodAll_cons r3;obtain⟨rfl,rfl,rfl⟩:=trodAll_nil r4;obtain rfl:args=#[A,n,D,g,i]:=by cases args;simp_all
 obtain⟨rfl,rfl⟩:=trodVars_none hV;obtain⟨a0,rfl,rfl,rfl,J⟩:=open_int Tryz.underlying3 (a 0 3 A rfl rfl) h0;obtain⟨L,rfl,rfl,rfl,k⟩:=open_int Tryz.underlying3 (a 1 3 n rfl rfl) S;obtain⟨a2,Z,af,rfl⟩:=okWide_slice Tryz.underlying22 (a 2 22 D rfl rfl);have u:=B;have ac:∀ x ∈ V,x.block<W.heap.size:=by obtain⟨m,f⟩:=u;exact DataW.trod_lt m _ _ _ f
 obtain⟨M,w2⟩:∃ l,RdS W (.slice a2 Z af) l:=by
  obtain⟨fuel,c⟩:=B;obtain⟨v,l,b,d⟩:=ZvX c;simp[Value.cells] at b;subst b;exact⟨l,d⟩
 obtain⟨Y,rfl,rfl,rfl,z⟩:=open_int Tryz.underlying3 (a 3 3 g rfl rfl) N;obtain⟨a4,aa,ae,rfl⟩:=okWide_slice Tryz.underlying23 (a 4 23 i rfl rfl);have E:=F;have ad:∀ x ∈ R,x.block<W.heap.size:=by obtain⟨m,f⟩:=E;exact DataW.trod_lt m _ _ _ f
 obtain⟨T,w4⟩:∃ l,RdI W (.slice a4 aa ae) l:=by
  obtain⟨fuel,c⟩:=F;obtain⟨v,l,b,d⟩:=ZqO c;simp[Value.cells] at b;subst b;exact⟨l,d⟩
 clear I K;refine(walk a0 L _ M Y _ T W J k w2 z w4 (tabs U)).mono fun e W' ⟨he,bel⟩=>?_
 subst he;exact⟨_,rfl,_,_,_,[],_,[],ab,trodAll_mk1 (shut_bool Tryz.underlying4 _),(trodAll_cons_mk (shut_int Tryz.underlying3 J) (trodAll_cons_mk (shut_int Tryz.underlying3 k) (trodAll_cons_mk (Below.trod laidOut (by kernel_rfl) (of_decide_eq_true (by kernel_rfl)) u bel ac) (trodAll_cons_mk (shut_int Tryz.underlying3 z) (trodAll_cons_mk (Below.trod laidOut (by kernel_rfl) (of_decide_eq_true (by kernel_rfl)) E bel ad) trodAll_mk0))))),rfl,bel.frame _,fun h=>by cases h⟩
theorem over:Rows.storeLastsRow.holds Tryz.pinned (OpenSpec.ofChange Rows.storeLastsSpec):=
 OpenClaim.holds_of_wide 3 Tryz.f3 rfl rfl rfl rfl rfl rfl rfl ⟨rfl,rfl,rfl,rfl,rfl⟩ rfl rfl rfl rfl rfl (by kernel_rfl) Tryz.func3 (by kernel_rfl)
  (of_decide_eq_true (by kernel_rfl)) (by unfold Func.isWrapper;first | (rw[if_pos (by decide +kernel)];kernel_rfl) | (rw[if_neg (by decide +kernel)];exact⟨rfl,rfl⟩))
  (fun os a H enc _=>lifted os a H enc)
end Go.Proofs.YtnahjngbneicaaaGreatDoor.storeLasts
namespace Go.Proofs.YtnahjngbneicaaaGreatDoor
theorem storeLasts_holds:Rows.StoreLastsCardSaid:=
 Claim7.holds_tied_plain_at .later [] _ _ _ _ storeLasts.over (fun _ h=>by cases h) (by kernel_rfl) (fun _ h=>by cases h) storeLasts_row_tie rfl ⟨rfl,rfl⟩ (by kernel_rfl) rfl
  (fun f fn b c=>by
   obtain rfl : f = 3 := Option.some.inj ((show Tryz.prog.funcNamed "ferryman/ferrymanlaw12.StoreLasts" = some 3 by kernel_rfl).symm.trans b) |>.symm
   obtain rfl:fn=Tryz.f3:=(Option.some.inj (Tryz.func3.symm.trans c)).symm
   exact⟨by kernel_rfl,fun j t a=>by
    rw[Tryz.params3] at a;have e:t ∈ [3,3,22,3,23]:=by simpa using Array.mem_of_getElem? a
    have d:([3,3,22,3,23].all fun u=>!Tryz.prog.wantsStandIn u)=true:=by kernel_rfl
    exact(show Tryz.prog.wantsStandIn t=false by simpa using List.all_eq_true.1 d t e)⟩)
  (by kernel_rfl)
end Go.Proofs.YtnahjngbneicaaaGreatDoor
