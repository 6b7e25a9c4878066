/- Proved: for every room and kind, all calls and every loss of power the law StoreLasts answers true (and the call leaves all older memory as it was), where the listed variable has its listed value. -/
import Derived.Test.YtnahjngbneicaaaGreatDoorStoreFall
import Derived.Test.YtnahjngbneicaaaGreatDoorStoreFell
import Derived.Test.YtnahjngbneicaaaGreatDoorRef07S
import Derived.Test.YtnahjngbneicaaaGreatDoorSchemaTab
namespace Go.Proofs.YtnahjngbneicaaaGreatDoor.storeLasts
set_option maxRecDepth 100000
open Go.ChangeShapes Go.WideShapes Go.ChangeAt Go.RowKit
set_option maxHeartbeats 8000000 in
theorem walk (room kind:Int) (v:Value) (l:List SOp) (names:Int) (vk:Value) (keep:List Int) (w:World) (bj:(Lit.int .i64 room).wf=true) (_hkd:(Lit.int .i64 kind).wf=true) (hl:RdS w v l) (_hnm:(Lit.int .i64 names).wf=true) (aM:RdI w vk keep) (_ht:TabF w):
 Calls Tryz.prog 3 #[.int .i64 room,.int .i64 kind,v,.int .i64 names,vk] w fun e w'=>e=.returned (.bool true)∧Below w.heap.size w w':=by
 have a5:=ZZ (Ztx w);have b6:=ZZ hl;have aY:=ZZ aM;have ct:=ZZ (Z1 bj);obtain⟨la,lc,hv,-⟩:=id hl;obtain⟨ka,kc,cj,-⟩:=id aM;subst hv cj;clear _hkd _ht _hnm hl aM bj;obtain⟨B,hB⟩:∃ B,B=w.heap.size:=⟨_,rfl⟩;have Q:=ZZ hB;rw[<-hB] at a5 ⊢;clear hB;have U:∀ {W:World},Below B w W->B<=W.heap.size:=fun h=>Nat.le_trans (by rw[Q.o];exact Nat.le_refl _) h.size
 have cA:=hpeD;have cE:=hpnD;have cD:=ZAy;generalize bf:keep.length=kl;have aZ:=ZZ bf
 go_enter Tryz.func3,Tryz.ntmps3
 go_wp2_with fail
 refine a5.o.mono ?_;rintro e W1 ⟨rfl,a0⟩;have az:=ZZ a0;have bd:=ZZ (ZxN _ l W1 (b6.o.below a0 (by rw[Q.o];exact Nat.le_refl _)))
 clear a0 a5
 go_wp2_with fail
 refine bd.o.mono ?_;rintro e cp ⟨FB,rfl,b3,rfl⟩;have bD:=ZZ b3;have HN:=ZZ (ZqP B room ct.o cp (U az.o));clear b3 bd
 go_wp2_with fail
 refine HN.o.mono ?_;rintro e W2 ⟨pd,rfl,aR,bR⟩;have b9:=ZZ aR;have Y:=ZZ (az.o.trans bR);clear aR bR HN
 cases FB with
 | false=>
  go_wp2;go_ret;exact⟨by first | rfl | simp,Y.o⟩
 | true=>
 have aw:=ZZ (bD.o rfl);clear bD az;by_cases ak:kind<0
 case pos=>
  have bb:decide (kind<0)=true:=decide_eq_true ak;go_wp2;go_ret;exact⟨by first | rfl | simp,Y.o⟩
 by_cases bV:6<=kind
 case pos=>
  have bb:decide (kind<0)=false:=decide_eq_false ak;have co:decide (kind ≥ 6)=true:=decide_eq_true bV;go_wp2;go_ret;exact⟨by first | rfl | simp,Y.o⟩
 have bb:decide (kind<0)=false:=decide_eq_false ak;have co:decide (kind ≥ 6)=false:=decide_eq_false (by omega)
 by_cases bM:100<kl
 case pos=>
  have ci:decide ((kl:Int)>100)=true:=decide_eq_true (by omega)
  go_wp2;go_ret;exact⟨by first | rfl | simp,Y.o⟩
 have ci:decide ((kl:Int)>100)=false:=decide_eq_false (by omega)
 have bq:=ZZ (Zzo (room:=room) kind _ l w W2 Q.o b6.o Y.o b9.o (by omega) (by omega) aw.o.1)
 have bp:=ZZ (ZAc (room:=room) (kind:=kind) (by omega) (by omega) l aw.o.1)
 have ax:=ZZ (ZxV (room:=room) (kind:=kind) (by omega) (by omega) l)
 have G:Hid (0<=kind∧kind<6):=ZZ (by omega)
 have aq:=ZZ aw.o.1;have bJ:=ZZ bM;generalize Zyo kind room l=X at *;clear ak bV bM aw
 go_wp2_with fail
 refine bq.o.mono ?_;rintro e M ⟨p,va,rfl,N⟩;have cg:=ZZ N;obtain⟨aa,ac,ck⟩:=N.own.shape;obtain⟨K,hK⟩:∃ K:Nat->Prop,K=fun k=>k<B∨va.ownBlock=some k:=⟨_,rfl⟩
 have a2:Hid (SD K M pd p X.1.1 X.1.2 18000 36000000):=ZZ (by
  rw[hK];have:=aq.o
  exact N.sd.mono (by omega) (by omega))
 have aU:Hid ((∀ k,K k->k<M.heap.size)∧∀ k,k<B->K k):=ZZ (by
  rw[hK]
  exact⟨N.size (Nat.le_of_eq Q.o),fun k L=>.inl L⟩)
 have aG:=ZZ N.old
 have cd:Hid (∀ W W',Below B w W->Ql (fun k=>¬ K k) W W'->Below B w W'):=ZZ (fun W W' m ho=>m.trans (ho.below (U m) (fun k hn=>by
  apply Classical.byContradiction;intro cm
  exact hn (aU.o.2 k (by omega)))))
 subst ck;have cu:=ax.o.rcn;obtain⟨lo,d,bI,aT,x⟩:=JI.found (kind:=kind) G.o.1 G.o.2 bp.o ax.o names keep
 have bZ:Hid (Calls Tryz.prog 11 #[ptr p] M fun e w'=>e=.returned (.int .i64 (lo:Int))∧w'=M):=ZZ (by
  have g:=a2.o.syncedC;rw[bI] at g
  exact g)
 have bY:Hid (Calls Tryz.prog 12 #[ptr pd,.int .i64 names,.slice ka kl kc] M fun e w'=>e=.returned (.tuple #[])∧SD K w' pd p X.1.1 (G7 X.1.2 names keep) 18000 36000000∧Ql (fun k=>¬ K k) M w'):=ZZ (by
  have cr:=aY.o.below aG.o (Nat.le_of_eq Q.o.symm);rw[<-aZ.o];refine a2.o.crashC names _ keep cr ?_ (by decide) (by decide) (by have:=aZ.o;have:=bJ.o;omega)
  rcases aY.o.block with h0 | ⟨_,b,m,cm⟩
  ·exact .inl h0
  ·refine .inr fun k L=>aU.o.2 k ?_
   rw[m] at L;have:=Option.some.inj L;rw[Q.o]
   omega)
 have b7:Hid (SzD (G7 X.1.2 names keep) 62 90000):=ZZ ((ax.o.szOpen (by have:=aq.o;omega)).crash names keep)
 have an:Hid (OkS (Zew (G7 X.1.2 names keep) kind)):=ZZ (Zfe G.o.1 G.o.2);have cw:Hid (ZfB (G7 X.1.2 names keep) kind=0):=ZZ (Zqv G.o.1 G.o.2 _ _ _);have ba:Hid (∀ r ∈ X.2,Zcx r):=ZZ (fun r T=>ZaQ (aT.2 r T))
 have aO:Hid (RdR M (.slice aa X.2.length ac) X.2∧(X.2=[]∨∀ k,(Value.slice aa X.2.length ac).ownBlock=some k->K k)):=ZZ ⟨N.own.rd ba.o,.inr fun k L=>by
  rw[hK]
  exact .inr L⟩
 generalize G7 X.1.2 names keep=D1 at *;generalize X.1.1=sx at *;generalize X.1.2=dx at *;generalize X.2=all at *;obtain⟨t,ht⟩:∃ t,t=Zew D1 kind:=⟨_,rfl⟩;have HT:=ZZ ht;rw[<-ht] at an x;obtain⟨j,aN⟩:∃ j,j=t.log.first:=⟨_,rfl⟩
 have y:Hid (lo<=d∧d<=all.length∧t.next=(d:Int)∧t.now=(Q3 (Zn kind) (all.take d)).1∧(Q3 (Zn kind) (all.take d)).2=0∧0<=j∧j<=(d:Int)∧Zbs t j d=((all.take d).drop j.toNat,0)∧t.log.recs.length<=1200∧all.length<=1200):=ZZ (by
  have cQ:=aq.o
  have bu:t.log.recs.length<=all.length:=by
   rw[x.recs,List.length_drop,List.length_take];omega
  rw[aN];refine⟨x.lo,x.hi,x.next,x.now,aT.taken kind d,x.f0,x.fe,?_,by omega,by omega⟩
  have h1:=x.f0;have h2:=x.fe;have h3:=x.next;have h4:=x.hi
  have ao:t.log.recs.length=d-t.log.first.toNat:=by
   rw[x.recs,List.length_drop,List.length_take];omega
  unfold Zbs
  rw[if_neg (by omega),if_neg (by omega),show(t.log.first-t.log.first).toNat=0 by omega,List.drop_zero,List.take_of_length_le (by omega),x.recs])
 have cb:Hid (∀ W,SD K W pd p sx D1 18000 36000000->True):=ZZ (fun _ _=>trivial)
 clear ht x aT bI cu bp cb;generalize bW:all.length=al at *;have O:=ZZ bW;have cB:(al:Int)<=1200:=by have:=y.o.2.2.2.2.2.2.2.2.2;omega
 have cC:(d:Int)<=al:=by have:=y.o.2.1;omega
 have cP:(lo:Int)<=d:=by have:=y.o.1;omega
 clear ax cg N bq hK a2 aY aZ bf aq bJ bW
 go_wp2_with fail
 refine bZ.o.mono ?_;rintro e cH ⟨rfl,rfl⟩
 go_wp2_with fail
 refine bY.o.mono ?_;rintro e W4 ⟨rfl,bA,aj⟩;have aV:=ZZ (cd.o _ _ aG.o aj);have cv:Hid (∀ k,K k->k<W4.heap.size):=ZZ (fun k L=>Nat.lt_of_lt_of_le (aU.o.1 k L) aj.size)
 have aX:=bA.openC kind cv.o (by decide) (by decide) b7.o cw.o
 rw[<-HT.o] at aX;have bQ:=ZZ aX;have bC:=ZZ (RdR.keepK aO.o.1 aO.o.2 aj);clear bA aj bY aG aX bZ aO
 go_wp2_with fail
 refine bQ.o.mono ?_;rintro e W5 ⟨q,rfl,bm,-,aD⟩;have HQ:=ZZ bm;have bG:=ZZ (aV.o.trans (aD.mono (U aV.o)));have b1:=ZZ (bC.o.below aD zL)
 have V:Hid (∀ W,Below W5.heap.size W5 W->Calls Tryz.prog 14 #[ptr q] W fun e w'=>e=.returned (.int .i64 (d:Int))∧Below W.heap.size W w'):=ZZ (fun W u=>by
  have g:=(HQ.o.below u).next an.o.num;rw[y.o.2.2.1] at g
  exact g)
 have bH:Hid (∀ W,Below W5.heap.size W5 W->Calls Tryz.prog 18 #[ptr q] W fun e w'=>e=.returned (.int .i64 j)∧w'=W):=ZZ (fun W u=>by
  have g:=(HQ.o.below u).firstC;rw[<-aN] at g
  exact g)
 clear bm aD bQ aV bC aN;have ce:=U bG.o
 go_wp2_with fail
 refine(V.o W5 (Below.refl _ _)).mono ?_;rintro e W6 ⟨rfl,br⟩;have a6:=ZZ br;clear br;have cN:decide ((d:Int)<(lo:Int))=false:=decide_eq_false (by omega)
 have aR:decide ((d:Int)>(al:Int))=false:=decide_eq_false (by omega)
 go_wp2_with fail
 refine(V.o W6 a6.o).mono ?_;rintro e W7 ⟨rfl,bx⟩;have b2:=ZZ (a6.o.trans (bx.mono a6.o.size));clear bx;have b0:=ZZ (ZkN kind W7)
 go_wp2_with fail
 refine b0.o.mono ?_;rintro e W8 ⟨vl,rfl,ao,bi,bK,bu,bw⟩;have aC:=ZZ (b2.o.trans (bw.mono b2.o.size));have ag:=ZZ (And.intro ao (And.intro bi bK))
 obtain⟨za,zn,zc,hz⟩:∃ a n c,vl=Value.slice a n c:=by
  obtain⟨a,c,hh,-⟩:=ao;exact⟨a,_,c,hh⟩
 subst hz;obtain⟨E,au⟩:∃ E,E=J9 kind:=⟨_,rfl⟩;have ay:=ZZ au;rw[<-au] at ag;rw[<-au];clear ao bi bK bu bw b0 au
 go_wp2_with fail
 refine(V.o W8 aC.o).mono ?_;rintro e W9 ⟨rfl,aH⟩;have aK:=ZZ (aC.o.trans (aH.mono aC.o.size));have am:=ZZ (And.intro (ag.o.1.below aH zL) ag.o.2);have aL:=b1.o.below aK.o zL;rw[<-O.o] at aL;obtain⟨a',c',hcut,ad⟩:=Zzr W9 aa all ac aL d (by have:=y.o.2.1;have:=O.o;omega)
 have R:=ad (d:Int) rfl;rw[O.o] at R;have bn:=Zij (P:=SnS) (fun S r aP hf=>aP.next hf) (fun S aP=>by have:=aP.2.few;omega) 0 E.kind (.slice za zn zc) E.shut E.eng (.slice none 0 0) (Zn kind) (.slice a' d c') (all.take d) W9 ⟨_,_,by rw[ay.o];rfl,by have g:=am.o.1;rw[ay.o] at g;exact g,by have g:=am.o.2.1;rw[ay.o] at g;exact g,by have g:=am.o.2.2;rw[ay.o] at g;exact g,RdE.nil _,(Qo (by decide) (by decide):I64 0)⟩ hcut (by have:=ZlJ (ZfX G.o.1 G.o.2).2.1;omega) (by show([]:List Ent).length<=1000;decide) (by rw[List.length_take];have:=y.o.2.2.2.2.2.2.2.2.2;omega) (ZfX G.o.1 G.o.2).snS
 obtain⟨f,av⟩:∃ f,f=(Q3 (Zn kind) (all.take d)).1:=⟨_,rfl⟩
 have bv:Hid (Calls Tryz.prog 15 #[.agg #[.int .i64 0,.int .i64 E.kind,.slice za zn zc,.bool E.shut,.int .i64 E.eng,.slice none 0 0],.slice a' d c'] W9 fun e w'=>∃ C H A D I F,e=.returned (.tuple #[.agg #[.int .i64 f.idx,.int .i64 f.st.kind,.slice C H A,.bool f.st.shut,.int .i64 f.st.eng,.slice D I F],.int .i64 0])∧SnV w' (.agg #[.int .i64 f.idx,.int .i64 f.st.kind,.slice C H A,.bool f.st.shut,.int .i64 f.st.eng,.slice D I F]) f∧Below W9.heap.size W9 w'):=ZZ (by
  refine bn.mono ?_;rintro e w' ⟨vx,vu,rfl,r1,r2,r3,r4,r5,-,-,m⟩;obtain⟨C,A,hx,-⟩:=id r1;obtain⟨D,F,hu⟩:=r4.shape;rw[y.o.2.2.2.2.1,<-av];rw[<-av] at r1 r2 r3 r4 r5 hx hu;subst hx hu
  exact⟨C,_,A,D,_,F,rfl,⟨_,_,rfl,r1,r2,r3,r4,r5⟩,m⟩)
 have cq:Hid (t.now=f):=ZZ (by rw[av];exact y.o.2.2.2.1)
 clear bn hcut ad aL aH av ag am;generalize E.kind=cM at *;generalize E.shut=cI at *;generalize E.eng=cK at *
 go_wp2_with fail
 refine bv.o.mono ?_;rintro e i ⟨C,H,A,D,I,F,rfl,bl,b5⟩;have bE:=ZZ bl;have ae:=ZZ (aK.o.trans (b5.mono aK.o.size));obtain⟨J,af⟩:∃ J,J=i.alloc (.cells #[.int .i64 f.idx,.int .i64 f.st.kind,.slice C H A,.bool f.st.shut,.int .i64 f.st.eng,.slice D I F] 41):=⟨_,rfl⟩;have bg:=ZZ af;have aF:Hid (Below i.heap.size i J):=ZZ (by rw[af];exact Jw _ _)
 have cf:Hid (Bn J i.heap.size #[.int .i64 f.idx,.int .i64 f.st.kind,.slice C H A,.bool f.st.shut,.int .i64 f.st.eng,.slice D I F]):=ZZ (by rw[af];exact heap_alloc_new i _)
 have b4:=ZZ (bH.o J (ae.o.trans (aF.o.mono ae.o.size)));have aQ:=ZZ (ae.o.trans (aF.o.mono ae.o.size));have cl:=ZZ (bE.o.below aF.o zL);clear bl b5 bv R af bE;generalize f.idx=ti at *;generalize f.st.kind=tk at *;generalize f.st.shut=ts at *;generalize f.st.eng=te at *
 go_upto_region 15 with fail
 rw[<-bg.o];clear bg
 have ca:Hid (∀ W,Below J.heap.size J W->W.cell? ⟨i.heap.size,0,none⟩=some (.int .i64 ti)∧W.cell? ⟨i.heap.size,1,none⟩=some (.int .i64 tk)∧W.cell? ⟨i.heap.size,2,none⟩=some (.slice C H A)∧W.cell? ⟨i.heap.size,3,none⟩=some (.bool ts)∧W.cell? ⟨i.heap.size,4,none⟩=some (.int .i64 te)∧W.cell? ⟨i.heap.size,5,none⟩=some (.slice D I F)):=ZZ (fun W u=>by
  have m:=cf.o.below u zL
  exact⟨(m.cell 0).1,(m.cell 1).1,(m.cell 2).1,(m.cell 3).1,(m.cell 4).1,(m.cell 5).1⟩)
 go_wp2_with fail
 refine b4.o.mono ?_;rintro e cL ⟨rfl,bk⟩;rw[bk];clear bk b4
 go_wp2_with fail
 refine(V.o J aQ.o).mono ?_;rintro e cF ⟨rfl,aJ⟩;have aA:=ZZ aJ;have ar:=ZZ (aQ.o.trans (aJ.mono aQ.o.size));have a3:=(HQ.o.below ar.o).recsC j (d:Int) an.o (by have:=y.o.2.2.2.2.2.2.2.2.1;omega)
 rw[y.o.2.2.2.2.2.2.2.1] at a3;have be:=ZZ a3;clear aJ a3
 go_wp2_with fail
 refine be.o.mono ?_;rintro e bN ⟨bo,rfl,a8,a4⟩;have bF:=ZZ (a8.rd (fun r T=>ba.o r (List.mem_of_mem_take (List.mem_of_mem_drop T))))
 have aB:=ZZ (aA.o.trans (a4.mono aA.o.size));have ab:=ZZ (ar.o.trans (a4.mono ar.o.size));clear a8 a4 be aA ar
 go_wp2_with fail
 refine(bH.o bN ab.o).mono ?_;rintro e cy ⟨rfl,bz⟩;rw[bz];clear bz
 go_wp2_with fail
 refine(V.o bN ab.o).mono ?_;rintro e Z ⟨rfl,ap⟩;have bU:=ZZ (aB.o.trans (ap.mono aB.o.size));have aE:=ZZ (ab.o.trans (ap.mono ab.o.size));have bT:=ZZ (bF.o.below ap zL);have aW:=b1.o.below aE.o zL;rw[<-O.o] at aW;have bS:0<=j∧j<=(d:Int):=⟨y.o.2.2.2.2.2.1,y.o.2.2.2.2.2.2.1⟩;obtain⟨bS,cz⟩:=bS;obtain⟨a9,c9,hcut,ad⟩:=ZqU Z aa all ac aW j.toNat d (by omega) (by have:=y.o.2.1;have:=O.o;omega)
 have R:=ad j (d:Int) (by omega) rfl
 rw[O.o] at R
 have bL:Hid (Calls Tryz.prog 19 #[bo,.slice a9 (d-j.toNat) c9] Z fun e w'=>e=.returned (.bool true)∧Below Z.heap.size Z w'):=ZZ (by
  have g:=ZoF bo _ _ _ Z bT.o hcut;rw[show(all.drop j.toNat).take (d-j.toNat)=(all.take d).drop j.toNat by rw[List.drop_take]] at g
  rw[show decide ((all.take d).drop j.toNat=(all.take d).drop j.toNat)=true from decide_eq_true rfl] at g
  exact g)
 generalize d-j.toNat=cn at *;clear ap bF aW hcut ad aB ab bT
 go_wp2_with fail
 refine bL.o.mono ?_;rintro e z ⟨rfl,aI⟩;have ai:=ZZ (bU.o.trans (aI.mono bU.o.size));have aS:=ZZ (aE.o.trans (aI.mono aE.o.size));have bX:Hid (Below z.heap.size z z.drew):=ZZ (Below.refl _ _).drew;have a1:Hid (∀ W,Below z.heap.size z W->W.cell? ⟨i.heap.size,0,none⟩=some (.int .i64 ti)∧W.cell? ⟨i.heap.size,1,none⟩=some (.int .i64 tk)∧W.cell? ⟨i.heap.size,2,none⟩=some (.slice C H A)∧W.cell? ⟨i.heap.size,3,none⟩=some (.bool ts)∧W.cell? ⟨i.heap.size,4,none⟩=some (.int .i64 te)∧W.cell? ⟨i.heap.size,5,none⟩=some (.slice D I F)):=ZZ (fun W u=>ca.o W (ai.o.trans (u.mono ai.o.size)))
 have b8:Hid (∀ W,Below z.heap.size z W->Calls Tryz.prog 21 #[ptr q] W fun e w'=>∃ v,e=.returned v∧SnV w' v f∧Below z.heap.size z w'):=ZZ (fun W u=>by
  have g:=(HQ.o.below (aS.o.trans (u.mono aS.o.size))).nowC an.o.now;rw[cq.o] at g;refine g.mono ?_;rintro e w' ⟨vl,vt,rfl,T,-,-,m⟩
  exact⟨_,rfl,T.snV,u.trans (m.mono u.size)⟩)
 have cx:Hid (∀ W v,SnV W v f->Below z.heap.size z W->Calls Tryz.prog 20 #[.agg #[.int .i64 ti,.int .i64 tk,.slice C H A,.bool ts,.int .i64 te,.slice D I F],v] W fun e w'=>e=.returned (.bool true)∧Below z.heap.size z w'):=ZZ (fun W v hv u=>by
  have g:=Zvu _ f v f W (cl.o.below (ai.o.trans (u.mono ai.o.size)) zL) hv;rw[ZtD] at g;refine g.mono ?_;rintro e w' ⟨rfl,m⟩
  exact⟨rfl,u.trans (m.mono u.size)⟩)
 have bB:=ZZ (bG.o.trans (aS.o.mono ce));clear aI bL R
 go_upto_region 17 with fail
 go_region_held(fun W=>W.cell? ⟨i.heap.size,0,none⟩=some (.int .i64 ti)∧W.cell? ⟨i.heap.size,1,none⟩=some (.int .i64 tk)∧W.cell? ⟨i.heap.size,2,none⟩=some (.slice C H A)∧W.cell? ⟨i.heap.size,3,none⟩=some (.bool ts)∧W.cell? ⟨i.heap.size,4,none⟩=some (.int .i64 te)∧W.cell? ⟨i.heap.size,5,none⟩=some (.slice D I F))
  (first | (with_reducible exact a1.o _ bX.o) | (with_reducible exact a1.o _ a7.o) | (with_reducible exact a1.o _ bP.o))
  (first
   | (go_at_call 21;refine(b8.o _ bX.o).mono ?_;rintro e cG ⟨cJ,rfl,bt,bc⟩;have cc:=ZZ bt;have a7:=ZZ bc;clear bt bc)
   | (go_at_call 20;refine(cx.o _ _ cc.o a7.o).mono ?_;rintro e cO ⟨rfl,bO⟩;have bP:=ZZ bO;clear bO))
 all_goals
  go_wp2;go_ret;exact⟨by first | rfl | simp,bB.o.trans (bP.o.mono (U bB.o))⟩
theorem own:ownKnob Tryz.prog.godebug=none:=by kernel_rfl
theorem laidOut:laidOutB Tryz.prog=true:=by kernel_rfl
set_option linter.unusedVariables false in
theorem lifted (os:Os) (aa:os.Started) (H:Type) (enc:TypeId × Value->H):
 ReturnsInHanded {} Tryz.checked os 3 .any (fun w args=>(Rows.storeLastsSpec.pre enc Tryz.prog Tryz.f3 Rows.storeLastsRow.domain false w args∧laidMetH Tryz.prog Rows.storeLastsRow.laid w)∧sizedMet enc Tryz.prog Tryz.f3 (OpenSpec.ofChange Rows.storeLastsSpec) false w args) (Rows.storeLastsSpec.post enc Tryz.prog Tryz.f3 false true false false):=by
 refine returnsInHanded_of_change_and (C:=Tryz.checked) (X:=fun w _=>laidMetH Tryz.prog Rows.storeLastsRow.laid w) (fun _ _ _ hh h=>h.of_heap hh) own aa (by kernel_rfl) Tryz.func3
  (ChangeSpec.witness_shaped (enc:=enc) (C:=Tryz.checked) (os:=os) (X:=fun w _=>laidMetH Tryz.prog Rows.storeLastsRow.laid w) false (World.doorLaid Tryz.prog 400 os) #[.int .i64 0,.int .i64 0,.slice none 0 0,.int .i64 0,.slice none 0 0] 8 rfl (World.shaped_of_RefB (by kernel_rfl) (by kernel_rfl)) (by kernel_rfl) (by kernel_rfl) (by kernel_rfl) (Zyd os _)) ?_
 intro W base args ds gs aq u g ad _ hL _;have a:∀ (j:Nat) t v,Tryz.f3.params[j]?=some t->args[j]?=some v->Value.okWide Tryz.prog W .any base t v:=u;have L:=g;obtain⟨p,q,I,hV,rfl,ap,ag⟩:=g;have n:DataW.TrodAll enc Tryz.prog W 0 (fun _=>true) true Tryz.f3.params.toList args.toList ds p:=I
 rw[Tryz.params3] at n a;obtain⟨A,am,d0,aj,p0,q0,ao,rfl,rfl,O,r0⟩:=trodAll_cons n;obtain⟨y,ar,d1,af,p1,q1,rfl,rfl,rfl,Z,r1⟩:=trodAll_cons r0;obtain⟨D,an,d2,ai,S,q2,rfl,rfl,rfl,E,r2⟩:=trodAll_cons r1;obtain⟨J,ak,d3,al,p3,q3,rfl,rfl,rfl,h3,N⟩:=trodAll_cons r2;obtain⟨K,au,d4,ae,p4,q4,rfl,rfl,rfl,B,r4⟩:=trodAll_cons N;obtain⟨rfl,rfl,rfl⟩:=trodAll_nil r4;obtain rfl:args=#[A,y,D,J,K]:=by cases args;simp_all
 obtain⟨rfl,rfl⟩:=trodVars_none hV;obtain⟨V,rfl,rfl,rfl,G⟩:=open_int Tryz.underlying3 (a 0 3 A rfl rfl) O;obtain⟨M,rfl,rfl,rfl,i⟩:=open_int Tryz.underlying3 (a 1 3 y rfl rfl) Z;obtain⟨Q,T,R,rfl⟩:=okWide_slice Tryz.underlying22 (a 2 22 D rfl rfl);have k:=E;have P:∀ x ∈ S,x.block<W.heap.size:=by obtain⟨m,f⟩:=k;exact DataW.trod_lt m _ _ _ f
 obtain⟨l2,w2⟩:∃ l,RdS W (.slice Q T R) l:=by
  obtain⟨fuel,d⟩:=E;obtain⟨v,l,b,c⟩:=ZvX d;simp[Value.cells] at b;subst b;exact⟨l,c⟩
 obtain⟨a3,rfl,rfl,rfl,z⟩:=open_int Tryz.underlying3 (a 3 3 J rfl rfl) h3;obtain⟨a4,ac,U,rfl⟩:=okWide_slice Tryz.underlying23 (a 4 23 K rfl rfl);have F:=B;have ab:∀ x ∈ p4,x.block<W.heap.size:=by obtain⟨m,f⟩:=F;exact DataW.trod_lt m _ _ _ f
 obtain⟨Y,w4⟩:∃ l,RdI W (.slice a4 ac U) l:=by
  obtain⟨fuel,d⟩:=B;obtain⟨v,l,b,c⟩:=ZqO d;simp[Value.cells] at b;subst b;exact⟨l,c⟩
 clear I u;refine(walk V M _ l2 a3 _ Y W G i w2 z w4 (tabs hL)).mono fun e W' ⟨he,bel⟩=>?_
 subst he;exact⟨_,rfl,_,_,_,[],_,[],L,trodAll_mk1 (shut_bool Tryz.underlying4 _),(trodAll_cons_mk (shut_int Tryz.underlying3 G) (trodAll_cons_mk (shut_int Tryz.underlying3 i) (trodAll_cons_mk (Below.trod laidOut (by kernel_rfl) (of_decide_eq_true (by kernel_rfl)) k bel P) (trodAll_cons_mk (shut_int Tryz.underlying3 z) (trodAll_cons_mk (Below.trod laidOut (by kernel_rfl) (of_decide_eq_true (by kernel_rfl)) F bel ab) trodAll_mk0))))),rfl,bel.frame _,fun h=>by cases h⟩
theorem over:Rows.storeLastsRow.holds Tryz.pinned (OpenSpec.ofChange Rows.storeLastsSpec):=
 OpenClaim.holds_of_wide 3 Tryz.f3 rfl rfl rfl rfl rfl rfl rfl ⟨rfl,rfl,rfl,rfl,rfl⟩ rfl rfl rfl rfl rfl (by kernel_rfl) Tryz.func3 (by kernel_rfl)
  (of_decide_eq_true (by kernel_rfl)) (by unfold Func.isWrapper;first | (rw[if_pos (by decide +kernel)];kernel_rfl) | (rw[if_neg (by decide +kernel)];exact⟨rfl,rfl⟩))
  (fun os a H enc _=>lifted os a H enc)
end Go.Proofs.YtnahjngbneicaaaGreatDoor.storeLasts
namespace Go.Proofs.YtnahjngbneicaaaGreatDoor
theorem storeLasts_holds:Rows.StoreLastsCardSaid:=
 Claim7.holds_tied_plain_at .later [] _ _ _ _ storeLasts.over (fun _ h=>by cases h) (by kernel_rfl) (fun _ h=>by cases h) storeLasts_row_tie rfl ⟨rfl,rfl⟩ (by kernel_rfl) rfl
  (fun f fn e c=>by
   obtain rfl : f = 3 := Option.some.inj ((show Tryz.prog.funcNamed "ferryman/ferrymanlaw12.StoreLasts" = some 3 by kernel_rfl).symm.trans e) |>.symm
   obtain rfl:fn=Tryz.f3:=(Option.some.inj (Tryz.func3.symm.trans c)).symm
   exact⟨by kernel_rfl,fun j t a=>by
    rw[Tryz.params3] at a;have d:t ∈ [3,3,22,3,23]:=by simpa using Array.mem_of_getElem? a
    have b:([3,3,22,3,23].all fun u=>!Tryz.prog.wantsStandIn u)=true:=by kernel_rfl
    exact(show Tryz.prog.wantsStandIn t=false by simpa using List.all_eq_true.1 b t d)⟩)
  (by kernel_rfl)
end Go.Proofs.YtnahjngbneicaaaGreatDoor
