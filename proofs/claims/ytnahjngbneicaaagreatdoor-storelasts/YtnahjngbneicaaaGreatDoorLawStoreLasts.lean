/- Proved: for every room and kind, all calls and every loss of power the law StoreLasts answers true (and the call leaves all older memory as it was), where the listed variable has its listed value. -/
import Derived.Test.YtnahjngbneicaaaGreatDoorStoreFall
import Derived.Test.YtnahjngbneicaaaGreatDoorStoreFell
import Derived.Test.YtnahjngbneicaaaGreatDoorRef07S
import Derived.Test.YtnahjngbneicaaaGreatDoorSchemaTab
namespace Go.Proofs.YtnahjngbneicaaaGreatDoor.storeLasts
set_option maxRecDepth 100000
open Go.ChangeShapes Go.WideShapes Go.ChangeAt Go.RowKit
set_option maxHeartbeats 8000000 in
theorem walk (room kind:Int) (v:Value) (l:List SOp) (names:Int) (vk:Value) (keep:List Int) (w:World) (bR:(Lit.int .i64 room).wf=true) (_hkd:(Lit.int .i64 kind).wf=true) (hl:RdS w v l) (_hnm:(Lit.int .i64 names).wf=true) (aA:RdI w vk keep) (_ht:TabF w):
 Calls Tryz.prog 3 #[.int .i64 room,.int .i64 kind,v,.int .i64 names,vk] w fun e w'=>e=.returned (.bool true)∧Below w.heap.size w w':=by
 have aH:=ZZ (Ztx w);have bX:=ZZ hl;have aB:=ZZ aA;have b7:=ZZ (Z1 bR);obtain⟨la,lc,hv,-⟩:=id hl;obtain⟨ka,kc,cw,-⟩:=id aA;subst hv cw;clear _hkd _ht _hnm hl aA bR;obtain⟨B,hB⟩:∃ B,B=w.heap.size:=⟨_,rfl⟩;have Q:=ZZ hB;rw[<-hB] at aH ⊢;clear hB;have hS:∀ {W:World},Below B w W->B<=W.heap.size:=fun h=>Nat.le_trans (by rw[Q.o];exact Nat.le_refl _) h.size
 have cO:=hpeD;have cJ:=hpnD;have cB:=ZAy;generalize bD:keep.length=kl;have az:=ZZ bD
 go_enter Tryz.func3,Tryz.ntmps3
 go_wp2_with fail
 refine aH.o.mono ?_;rintro e W1 ⟨rfl,a5⟩;have a4:=ZZ a5;have bn:=ZZ (ZxN _ l W1 (bX.o.below a5 (by rw[Q.o];exact Nat.le_refl _)))
 clear a5 aH
 go_wp2_with fail
 refine bn.o.mono ?_;rintro e co ⟨FB,rfl,bk,rfl⟩;have ba:=ZZ bk;have HN:=ZZ (ZqP B room b7.o co (hS a4.o));clear bk bn
 go_wp2_with fail
 refine HN.o.mono ?_;rintro e W2 ⟨pd,rfl,aL,b0⟩;have cq:=ZZ aL;have T:=ZZ (a4.o.trans b0);clear aL b0 HN
 cases FB with
 | false=>
  go_wp2;go_ret;exact⟨by first | rfl | simp,T.o⟩
 | true=>
 have ae:=ZZ (ba.o rfl);clear ba a4;by_cases af:kind<0
 case pos=>
  have bx:decide (kind<0)=true:=decide_eq_true af;go_wp2;go_ret;exact⟨by first | rfl | simp,T.o⟩
 by_cases bW:6<=kind
 case pos=>
  have bx:decide (kind<0)=false:=decide_eq_false af;have ct:decide (kind ≥ 6)=true:=decide_eq_true bW;go_wp2;go_ret;exact⟨by first | rfl | simp,T.o⟩
 have bx:decide (kind<0)=false:=decide_eq_false af;have ct:decide (kind ≥ 6)=false:=decide_eq_false (by omega)
 by_cases bg:100<kl
 case pos=>
  have cl:decide ((kl:Int)>100)=true:=decide_eq_true (by omega)
  go_wp2;go_ret;exact⟨by first | rfl | simp,T.o⟩
 have cl:decide ((kl:Int)>100)=false:=decide_eq_false (by omega)
 have bV:=ZZ (Zzo (room:=room) kind _ l w W2 Q.o bX.o T.o cq.o (by omega) (by omega) ae.o.1)
 have bA:=ZZ (ZAc (room:=room) (kind:=kind) (by omega) (by omega) l ae.o.1)
 have aj:=ZZ (ZxV (room:=room) (kind:=kind) (by omega) (by omega) l)
 have G:Hid (0<=kind∧kind<6):=ZZ (by omega)
 have am:=ZZ ae.o.1;have bG:=ZZ bg;generalize Zyo kind room l=X at *;clear af bW bg ae
 go_wp2_with fail
 refine bV.o.mono ?_;rintro e M ⟨p,va,rfl,N⟩;have ca:=ZZ N;obtain⟨aa,ac,cr⟩:=N.own.shape;obtain⟨K,hK⟩:∃ K:Nat->Prop,K=fun k=>k<B∨va.ownBlock=some k:=⟨_,rfl⟩
 have aO:Hid (SD K M pd p X.1.1 X.1.2 18000 36000000):=ZZ (by
  rw[hK];have:=am.o
  exact N.sd.mono (by omega) (by omega))
 have a6:Hid ((∀ k,K k->k<M.heap.size)∧∀ k,k<B->K k):=ZZ (by
  rw[hK]
  exact⟨N.size (Nat.le_of_eq Q.o),fun k J=>.inl J⟩)
 have aX:=ZZ N.old
 have cu:Hid (∀ W W',Below B w W->Ql (fun k=>¬ K k) W W'->Below B w W'):=ZZ (fun W W' m ho=>m.trans (ho.below (hS m) (fun k hn=>by
  apply Classical.byContradiction;intro b9
  exact hn (a6.o.2 k (by omega)))))
 subst cr;have ce:=aj.o.rcn;obtain⟨lo,d,bH,aI,u⟩:=JI.found (kind:=kind) G.o.1 G.o.2 bA.o aj.o names keep
 have bv:Hid (Calls Tryz.prog 11 #[ptr p] M fun e w'=>e=.returned (.int .i64 (lo:Int))∧w'=M):=ZZ (by
  have g:=aO.o.syncedC;rw[bH] at g
  exact g)
 have bM:Hid (Calls Tryz.prog 12 #[ptr pd,.int .i64 names,.slice ka kl kc] M fun e w'=>e=.returned (.tuple #[])∧SD K w' pd p X.1.1 (G7 X.1.2 names keep) 18000 36000000∧Ql (fun k=>¬ K k) M w'):=ZZ (by
  have cx:=aB.o.below aX.o (Nat.le_of_eq Q.o.symm);rw[<-az.o];refine aO.o.crashC names _ keep cx ?_ (by decide) (by decide) (by have:=az.o;have:=bG.o;omega)
  rcases aB.o.block with h0 | ⟨_,b,m,b9⟩
  ·exact .inl h0
  ·refine .inr fun k J=>a6.o.2 k ?_
   rw[m] at J;have:=Option.some.inj J;rw[Q.o]
   omega)
 have cb:Hid (SzD (G7 X.1.2 names keep) 62 90000):=ZZ ((aj.o.szOpen (by have:=am.o;omega)).crash names keep)
 have aw:Hid (OkS (Zew (G7 X.1.2 names keep) kind)):=ZZ (Zfe G.o.1 G.o.2);have cf:Hid (ZfB (G7 X.1.2 names keep) kind=0):=ZZ (Zqv G.o.1 G.o.2 _ _ _);have bJ:Hid (∀ r ∈ X.2,Zcx r):=ZZ (fun r U=>ZaQ (aI.2 r U))
 have aK:Hid (RdR M (.slice aa X.2.length ac) X.2∧(X.2=[]∨∀ k,(Value.slice aa X.2.length ac).ownBlock=some k->K k)):=ZZ ⟨N.own.rd bJ.o,.inr fun k J=>by
  rw[hK]
  exact .inr J⟩
 generalize G7 X.1.2 names keep=D1 at *;generalize X.1.1=sx at *;generalize X.1.2=dx at *;generalize X.2=all at *;obtain⟨t,ht⟩:∃ t,t=Zew D1 kind:=⟨_,rfl⟩;have HT:=ZZ ht;rw[<-ht] at aw u;obtain⟨j,aM⟩:∃ j,j=t.log.first:=⟨_,rfl⟩
 have z:Hid (lo<=d∧d<=all.length∧t.next=(d:Int)∧t.now=(Q3 (Zn kind) (all.take d)).1∧(Q3 (Zn kind) (all.take d)).2=0∧0<=j∧j<=(d:Int)∧Zbs t j d=((all.take d).drop j.toNat,0)∧t.log.recs.length<=1200∧all.length<=1200):=ZZ (by
  have cQ:=am.o
  have bQ:t.log.recs.length<=all.length:=by
   rw[u.recs,List.length_drop,List.length_take];omega
  rw[aM];refine⟨u.lo,u.hi,u.next,u.now,aI.taken kind d,u.f0,u.fe,?_,by omega,by omega⟩
  have h1:=u.f0;have h2:=u.fe;have h3:=u.next;have h4:=u.hi
  have ay:t.log.recs.length=d-t.log.first.toNat:=by
   rw[u.recs,List.length_drop,List.length_take];omega
  unfold Zbs
  rw[if_neg (by omega),if_neg (by omega),show(t.log.first-t.log.first).toNat=0 by omega,List.drop_zero,List.take_of_length_le (by omega),u.recs])
 have ci:Hid (∀ W,SD K W pd p sx D1 18000 36000000->True):=ZZ (fun _ _=>trivial)
 clear ht u aI bH ce bA ci;generalize bu:all.length=al at *;have O:=ZZ bu;have cA:(al:Int)<=1200:=by have:=z.o.2.2.2.2.2.2.2.2.2;omega
 have cP:(d:Int)<=al:=by have:=z.o.2.1;omega
 have cz:(lo:Int)<=d:=by have:=z.o.1;omega
 clear aj ca N bV hK aO aB az bD am bG bu
 go_wp2_with fail
 refine bv.o.mono ?_;rintro e cN ⟨rfl,rfl⟩
 go_wp2_with fail
 refine bM.o.mono ?_;rintro e W4 ⟨rfl,bo,aq⟩;have aZ:=ZZ (cu.o _ _ aX.o aq);have cj:Hid (∀ k,K k->k<W4.heap.size):=ZZ (fun k J=>Nat.lt_of_lt_of_le (a6.o.1 k J) aq.size)
 have aQ:=bo.openC kind cj.o (by decide) (by decide) cb.o cf.o
 rw[<-HT.o] at aQ;have bj:=ZZ aQ;have bT:=ZZ (RdR.keepK aK.o.1 aK.o.2 aq);clear bo aq bM aX aQ bv aK
 go_wp2_with fail
 refine bj.o.mono ?_;rintro e R ⟨q,rfl,a8,-,aW⟩;have HQ:=ZZ a8;have bz:=ZZ (aZ.o.trans (aW.mono (hS aZ.o)));have b2:=ZZ (bT.o.below aW zL)
 have Z:Hid (∀ W,Below R.heap.size R W->Calls Tryz.prog 14 #[ptr q] W fun e w'=>e=.returned (.int .i64 (d:Int))∧Below W.heap.size W w'):=ZZ (fun W x=>by
  have g:=(HQ.o.below x).next aw.o.num;rw[z.o.2.2.1] at g
  exact g)
 have bp:Hid (∀ W,Below R.heap.size R W->Calls Tryz.prog 18 #[ptr q] W fun e w'=>e=.returned (.int .i64 j)∧w'=W):=ZZ (fun W x=>by
  have g:=(HQ.o.below x).firstC;rw[<-aM] at g
  exact g)
 clear a8 aW bj aZ bT aM;have cm:=hS bz.o
 go_wp2_with fail
 refine(Z.o R (Below.refl _ _)).mono ?_;rintro e W6 ⟨rfl,br⟩;have aS:=ZZ br;clear br;have cI:decide ((d:Int)<(lo:Int))=false:=decide_eq_false (by omega)
 have aL:decide ((d:Int)>(al:Int))=false:=decide_eq_false (by omega)
 go_wp2_with fail
 refine(Z.o W6 aS.o).mono ?_;rintro e W7 ⟨rfl,bN⟩;have bF:=ZZ (aS.o.trans (bN.mono aS.o.size));clear bN;have bi:=ZZ (ZkN kind W7)
 go_wp2_with fail
 refine bi.o.mono ?_;rintro e W8 ⟨vl,rfl,ay,a7,bB,bQ,bE⟩;have aU:=ZZ (bF.o.trans (bE.mono bF.o.size));have ao:=ZZ (And.intro ay (And.intro a7 bB))
 obtain⟨za,zn,zc,hz⟩:∃ a n c,vl=Value.slice a n c:=by
  obtain⟨a,c,hh,-⟩:=ay;exact⟨a,_,c,hh⟩
 subst hz;obtain⟨D,ai⟩:∃ D,D=J9 kind:=⟨_,rfl⟩;have ar:=ZZ ai;rw[<-ai] at ao;rw[<-ai];clear ay a7 bB bQ bE bi ai
 go_wp2_with fail
 refine(Z.o W8 aU.o).mono ?_;rintro e W9 ⟨rfl,a3⟩;have aE:=ZZ (aU.o.trans (a3.mono aU.o.size));have au:=ZZ (And.intro (ao.o.1.below a3 zL) ao.o.2);have a1:=b2.o.below aE.o zL;rw[<-O.o] at a1;obtain⟨a',c',hcut,V⟩:=Zzr W9 aa all ac a1 d (by have:=z.o.2.1;have:=O.o;omega)
 have Y:=V (d:Int) rfl;rw[O.o] at Y;have bq:=Zij (P:=SnS) (fun S r aR hf=>aR.next hf) (fun S aR=>by have:=aR.2.few;omega) 0 D.kind (.slice za zn zc) D.shut D.eng (.slice none 0 0) (Zn kind) (.slice a' d c') (all.take d) W9 ⟨_,_,by rw[ar.o];rfl,by have g:=au.o.1;rw[ar.o] at g;exact g,by have g:=au.o.2.1;rw[ar.o] at g;exact g,by have g:=au.o.2.2;rw[ar.o] at g;exact g,RdE.nil _,(Qo (by decide) (by decide):I64 0)⟩ hcut (by have:=ZlJ (ZfX G.o.1 G.o.2).2.1;omega) (by show([]:List Ent).length<=1000;decide) (by rw[List.length_take];have:=z.o.2.2.2.2.2.2.2.2.2;omega) (ZfX G.o.1 G.o.2).snS
 obtain⟨f,an⟩:∃ f,f=(Q3 (Zn kind) (all.take d)).1:=⟨_,rfl⟩
 have bb:Hid (Calls Tryz.prog 15 #[.agg #[.int .i64 0,.int .i64 D.kind,.slice za zn zc,.bool D.shut,.int .i64 D.eng,.slice none 0 0],.slice a' d c'] W9 fun e w'=>∃ C H A F I E,e=.returned (.tuple #[.agg #[.int .i64 f.idx,.int .i64 f.st.kind,.slice C H A,.bool f.st.shut,.int .i64 f.st.eng,.slice F I E],.int .i64 0])∧SnV w' (.agg #[.int .i64 f.idx,.int .i64 f.st.kind,.slice C H A,.bool f.st.shut,.int .i64 f.st.eng,.slice F I E]) f∧Below W9.heap.size W9 w'):=ZZ (by
  refine bq.mono ?_;rintro e w' ⟨vx,vu,rfl,r1,r2,r3,r4,r5,-,-,m⟩;obtain⟨C,A,hx,-⟩:=id r1;obtain⟨F,E,hu⟩:=r4.shape;rw[z.o.2.2.2.2.1,<-an];rw[<-an] at r1 r2 r3 r4 r5 hx hu;subst hx hu
  exact⟨C,_,A,F,_,E,rfl,⟨_,_,rfl,r1,r2,r3,r4,r5⟩,m⟩)
 have cd:Hid (t.now=f):=ZZ (by rw[an];exact z.o.2.2.2.1)
 clear bq hcut V a1 a3 an ao au;generalize D.kind=cM at *;generalize D.shut=cH at *;generalize D.eng=cD at *
 go_wp2_with fail
 refine bb.o.mono ?_;rintro e i ⟨C,H,A,F,I,E,rfl,bt,bd⟩;have bw:=ZZ bt;have ap:=ZZ (aE.o.trans (bd.mono aE.o.size));obtain⟨L,av⟩:∃ L,L=i.alloc (.cells #[.int .i64 f.idx,.int .i64 f.st.kind,.slice C H A,.bool f.st.shut,.int .i64 f.st.eng,.slice F I E] 41):=⟨_,rfl⟩;have b1:=ZZ av;have aD:Hid (Below i.heap.size i L):=ZZ (by rw[av];exact Jw _ _)
 have cc:Hid (Bn L i.heap.size #[.int .i64 f.idx,.int .i64 f.st.kind,.slice C H A,.bool f.st.shut,.int .i64 f.st.eng,.slice F I E]):=ZZ (by rw[av];exact heap_alloc_new i _)
 have bU:=ZZ (bp.o L (ap.o.trans (aD.o.mono ap.o.size)));have aJ:=ZZ (ap.o.trans (aD.o.mono ap.o.size));have cv:=ZZ (bw.o.below aD.o zL);clear bt bd bb Y av bw;generalize f.idx=ti at *;generalize f.st.kind=tk at *;generalize f.st.shut=ts at *;generalize f.st.eng=te at *
 go_upto_region 15 with fail
 rw[<-b1.o];clear b1
 have b8:Hid (∀ W,Below L.heap.size L W->W.cell? ⟨i.heap.size,0,none⟩=some (.int .i64 ti)∧W.cell? ⟨i.heap.size,1,none⟩=some (.int .i64 tk)∧W.cell? ⟨i.heap.size,2,none⟩=some (.slice C H A)∧W.cell? ⟨i.heap.size,3,none⟩=some (.bool ts)∧W.cell? ⟨i.heap.size,4,none⟩=some (.int .i64 te)∧W.cell? ⟨i.heap.size,5,none⟩=some (.slice F I E)):=ZZ (fun W x=>by
  have m:=cc.o.below x zL
  exact⟨(m.cell 0).1,(m.cell 1).1,(m.cell 2).1,(m.cell 3).1,(m.cell 4).1,(m.cell 5).1⟩)
 go_wp2_with fail
 refine bU.o.mono ?_;rintro e cy ⟨rfl,bS⟩;rw[bS];clear bS bU
 go_wp2_with fail
 refine(Z.o L aJ.o).mono ?_;rintro e cG ⟨rfl,aV⟩;have a0:=ZZ aV;have ax:=ZZ (aJ.o.trans (aV.mono aJ.o.size));have aG:=(HQ.o.below ax.o).recsC j (d:Int) aw.o (by have:=z.o.2.2.2.2.2.2.2.2.1;omega)
 rw[z.o.2.2.2.2.2.2.2.1] at aG;have bC:=ZZ aG;clear aV aG
 go_wp2_with fail
 refine bC.o.mono ?_;rintro e bm ⟨bL,rfl,b5,aP⟩;have bl:=ZZ (b5.rd (fun r U=>bJ.o r (List.mem_of_mem_take (List.mem_of_mem_drop U))))
 have aT:=ZZ (a0.o.trans (aP.mono a0.o.size));have ab:=ZZ (ax.o.trans (aP.mono ax.o.size));clear b5 aP bC a0 ax
 go_wp2_with fail
 refine(bp.o bm ab.o).mono ?_;rintro e cK ⟨rfl,b4⟩;rw[b4];clear b4
 go_wp2_with fail
 refine(Z.o bm ab.o).mono ?_;rintro e ad ⟨rfl,ak⟩;have bO:=ZZ (aT.o.trans (ak.mono aT.o.size));have aN:=ZZ (ab.o.trans (ak.mono ab.o.size));have bK:=ZZ (bl.o.below ak zL);have aF:=b2.o.below aN.o zL;rw[<-O.o] at aF;have b6:0<=j∧j<=(d:Int):=⟨z.o.2.2.2.2.2.1,z.o.2.2.2.2.2.2.1⟩;obtain⟨b6,cC⟩:=b6;obtain⟨a9,c9,hcut,V⟩:=ZqU ad aa all ac aF j.toNat d (by omega) (by have:=z.o.2.1;have:=O.o;omega)
 have Y:=V j (d:Int) (by omega) rfl
 rw[O.o] at Y
 have bf:Hid (Calls Tryz.prog 19 #[bL,.slice a9 (d-j.toNat) c9] ad fun e w'=>e=.returned (.bool true)∧Below ad.heap.size ad w'):=ZZ (by
  have g:=ZoF bL _ _ _ ad bK.o hcut;rw[show(all.drop j.toNat).take (d-j.toNat)=(all.take d).drop j.toNat by rw[List.drop_take]] at g
  rw[show decide ((all.take d).drop j.toNat=(all.take d).drop j.toNat)=true from decide_eq_true rfl] at g
  exact g)
 generalize d-j.toNat=cn at *;clear ak bl aF hcut V aT ab bK
 go_wp2_with fail
 refine bf.o.mono ?_;rintro e y ⟨rfl,aC⟩;have ag:=ZZ (bO.o.trans (aC.mono bO.o.size));have a2:=ZZ (aN.o.trans (aC.mono aN.o.size));have b3:Hid (Below y.heap.size y y.drew):=ZZ (Below.refl _ _).drew;have aY:Hid (∀ W,Below y.heap.size y W->W.cell? ⟨i.heap.size,0,none⟩=some (.int .i64 ti)∧W.cell? ⟨i.heap.size,1,none⟩=some (.int .i64 tk)∧W.cell? ⟨i.heap.size,2,none⟩=some (.slice C H A)∧W.cell? ⟨i.heap.size,3,none⟩=some (.bool ts)∧W.cell? ⟨i.heap.size,4,none⟩=some (.int .i64 te)∧W.cell? ⟨i.heap.size,5,none⟩=some (.slice F I E)):=ZZ (fun W x=>b8.o W (ag.o.trans (x.mono ag.o.size)))
 have cp:Hid (∀ W,Below y.heap.size y W->Calls Tryz.prog 21 #[ptr q] W fun e w'=>∃ v,e=.returned v∧SnV w' v f∧Below y.heap.size y w'):=ZZ (fun W x=>by
  have g:=(HQ.o.below (a2.o.trans (x.mono a2.o.size))).nowC aw.o.now;rw[cd.o] at g;refine g.mono ?_;rintro e w' ⟨vl,vt,rfl,U,-,-,m⟩
  exact⟨_,rfl,U.snV,x.trans (m.mono x.size)⟩)
 have ck:Hid (∀ W v,SnV W v f->Below y.heap.size y W->Calls Tryz.prog 20 #[.agg #[.int .i64 ti,.int .i64 tk,.slice C H A,.bool ts,.int .i64 te,.slice F I E],v] W fun e w'=>e=.returned (.bool true)∧Below y.heap.size y w'):=ZZ (fun W v hv x=>by
  have g:=Zvu _ f v f W (cv.o.below (ag.o.trans (x.mono ag.o.size)) zL) hv;rw[ZtD] at g;refine g.mono ?_;rintro e w' ⟨rfl,m⟩
  exact⟨rfl,x.trans (m.mono x.size)⟩)
 have bc:=ZZ (bz.o.trans (a2.o.mono cm));clear aC bf Y
 go_upto_region 17 with fail
 go_region_held(fun W=>W.cell? ⟨i.heap.size,0,none⟩=some (.int .i64 ti)∧W.cell? ⟨i.heap.size,1,none⟩=some (.int .i64 tk)∧W.cell? ⟨i.heap.size,2,none⟩=some (.slice C H A)∧W.cell? ⟨i.heap.size,3,none⟩=some (.bool ts)∧W.cell? ⟨i.heap.size,4,none⟩=some (.int .i64 te)∧W.cell? ⟨i.heap.size,5,none⟩=some (.slice F I E))
  (first | (with_reducible exact aY.o _ b3.o) | (with_reducible exact aY.o _ bP.o) | (with_reducible exact aY.o _ bI.o))
  (first
   | (go_at_call 21;refine(cp.o _ b3.o).mono ?_;rintro e cF ⟨cL,rfl,bZ,bY⟩;have cg:=ZZ bZ;have bP:=ZZ bY;clear bZ bY)
   | (go_at_call 20;refine(ck.o _ _ cg.o bP.o).mono ?_;rintro e cE ⟨rfl,be⟩;have bI:=ZZ be;clear be))
 all_goals
  go_wp2;go_ret;exact⟨by first | rfl | simp,bc.o.trans (bI.o.mono (hS bc.o))⟩
theorem own:ownKnob Tryz.prog.godebug=none:=by kernel_rfl
theorem laidOut:laidOutB Tryz.prog=true:=by kernel_rfl
set_option linter.unusedVariables false in
theorem lifted (os:Os) (ag:os.Started) (H:Type) (enc:TypeId × Value->H):
 ReturnsInHanded {} Tryz.checked os 3 .any (fun w args=>(Rows.storeLastsSpec.pre enc Tryz.prog Tryz.f3 Rows.storeLastsRow.domain false w args∧laidMetH Tryz.prog Rows.storeLastsRow.laid w)∧sizedMet enc Tryz.prog Tryz.f3 (OpenSpec.ofChange Rows.storeLastsSpec) false w args) (Rows.storeLastsSpec.post enc Tryz.prog Tryz.f3 false true false false):=by
 refine returnsInHanded_of_change_and (C:=Tryz.checked) (X:=fun w _=>laidMetH Tryz.prog Rows.storeLastsRow.laid w) (fun _ _ _ hh h=>h.of_heap hh) own ag (by kernel_rfl) Tryz.func3
  (ChangeSpec.witness_shaped (enc:=enc) (C:=Tryz.checked) (os:=os) (X:=fun w _=>laidMetH Tryz.prog Rows.storeLastsRow.laid w) false (World.doorLaid Tryz.prog 400 os) #[.int .i64 0,.int .i64 0,.slice none 0 0,.int .i64 0,.slice none 0 0] 8 rfl (World.shaped_of_RefB (by kernel_rfl) (by kernel_rfl)) (by kernel_rfl) (by kernel_rfl) (by kernel_rfl) (Zyd os _)) ?_
 intro W base args ds gs aw g J ar _ Z _;have a:∀ (j:Nat) t v,Tryz.f3.params[j]?=some t->args[j]?=some v->Value.okWide Tryz.prog W .any base t v:=g;have af:=J;obtain⟨p,q,A,hV,rfl,ak,av⟩:=J;have i:DataW.TrodAll enc Tryz.prog W 0 (fun _=>true) true Tryz.f3.params.toList args.toList ds p:=A
 rw[Tryz.params3] at i a;obtain⟨I,ax,d0,ao,p0,q0,ap,rfl,rfl,O,S⟩:=trodAll_cons i;obtain⟨K,al,d1,an,p1,q1,rfl,rfl,rfl,h1,r1⟩:=trodAll_cons S;obtain⟨G,ay,d2,aj,N,q2,rfl,rfl,rfl,B,U⟩:=trodAll_cons r1;obtain⟨E,ai,d3,am,p3,q3,rfl,rfl,rfl,h3,r3⟩:=trodAll_cons U;obtain⟨k,au,d4,aq,p4,q4,rfl,rfl,rfl,u,R⟩:=trodAll_cons r3;obtain⟨rfl,rfl,rfl⟩:=trodAll_nil R;obtain rfl:args=#[I,K,G,E,k]:=by cases args;simp_all
 obtain⟨rfl,rfl⟩:=trodVars_none hV;obtain⟨L,rfl,rfl,rfl,D⟩:=open_int Tryz.underlying3 (a 0 3 I rfl rfl) O;obtain⟨Q,rfl,rfl,rfl,F⟩:=open_int Tryz.underlying3 (a 1 3 K rfl rfl) h1;obtain⟨a2,ac,aa,rfl⟩:=okWide_slice Tryz.underlying22 (a 2 22 G rfl rfl);have z:=B;have ae:∀ x ∈ N,x.block<W.heap.size:=by obtain⟨m,d⟩:=z;exact DataW.trod_lt m _ _ _ d
 obtain⟨V,T⟩:∃ l,RdS W (.slice a2 ac aa) l:=by
  obtain⟨fuel,f⟩:=B;obtain⟨v,l,b,c⟩:=ZvX f;simp[Value.cells] at b;subst b;exact⟨l,c⟩
 obtain⟨a3,rfl,rfl,rfl,y⟩:=open_int Tryz.underlying3 (a 3 3 E rfl rfl) h3;obtain⟨a4,ad,Y,rfl⟩:=okWide_slice Tryz.underlying23 (a 4 23 k rfl rfl);have n:=u;have ab:∀ x ∈ p4,x.block<W.heap.size:=by obtain⟨m,d⟩:=n;exact DataW.trod_lt m _ _ _ d
 obtain⟨P,M⟩:∃ l,RdI W (.slice a4 ad Y) l:=by
  obtain⟨fuel,f⟩:=u;obtain⟨v,l,b,c⟩:=ZqO f;simp[Value.cells] at b;subst b;exact⟨l,c⟩
 clear A g;refine(walk L Q _ V a3 _ P W D F T y M (tabs Z)).mono fun e W' ⟨he,bel⟩=>?_
 subst he;exact⟨_,rfl,_,_,_,[],_,[],af,trodAll_mk1 (shut_bool Tryz.underlying4 _),(trodAll_cons_mk (shut_int Tryz.underlying3 D) (trodAll_cons_mk (shut_int Tryz.underlying3 F) (trodAll_cons_mk (Below.trod laidOut (by kernel_rfl) (of_decide_eq_true (by kernel_rfl)) z bel ae) (trodAll_cons_mk (shut_int Tryz.underlying3 y) (trodAll_cons_mk (Below.trod laidOut (by kernel_rfl) (of_decide_eq_true (by kernel_rfl)) n bel ab) trodAll_mk0))))),rfl,bel.frame _,fun h=>by cases h⟩
theorem over:Rows.storeLastsRow.holds Tryz.pinned (OpenSpec.ofChange Rows.storeLastsSpec):=
 OpenClaim.holds_of_wide 3 Tryz.f3 rfl rfl rfl rfl rfl rfl rfl ⟨rfl,rfl,rfl,rfl,rfl⟩ rfl rfl rfl rfl rfl (by kernel_rfl) Tryz.func3 (by kernel_rfl)
  (of_decide_eq_true (by kernel_rfl)) (by unfold Func.isWrapper;first | (rw[if_pos (by decide +kernel)];kernel_rfl) | (rw[if_neg (by decide +kernel)];exact⟨rfl,rfl⟩))
  (fun os a H enc _=>lifted os a H enc)
end Go.Proofs.YtnahjngbneicaaaGreatDoor.storeLasts
namespace Go.Proofs.YtnahjngbneicaaaGreatDoor
theorem storeLasts_holds:Rows.StoreLastsCardSaid:=
 Claim7.holds_tied_plain_at .later [] _ _ _ _ storeLasts.over (fun _ h=>by cases h) (by kernel_rfl) (fun _ h=>by cases h) storeLasts_row_tie rfl ⟨rfl,rfl⟩ (by kernel_rfl) rfl
  (fun f fn e b=>by
   obtain rfl : f = 3 := Option.some.inj ((show Tryz.prog.funcNamed "ferryman/ferrymanlaw12.StoreLasts" = some 3 by kernel_rfl).symm.trans e) |>.symm
   obtain rfl:fn=Tryz.f3:=(Option.some.inj (Tryz.func3.symm.trans b)).symm
   exact⟨by kernel_rfl,fun j t a=>by
    rw[Tryz.params3] at a;have c:t ∈ [3,3,22,3,23]:=by simpa using Array.mem_of_getElem? a
    have d:([3,3,22,3,23].all fun u=>!Tryz.prog.wantsStandIn u)=true:=by kernel_rfl
    exact(show Tryz.prog.wantsStandIn t=false by simpa using List.all_eq_true.1 d t c)⟩)
  (by kernel_rfl)
end Go.Proofs.YtnahjngbneicaaaGreatDoor
