/- Proved: for every room and kind, all calls and one more the law StoreFull answers true (and the call leaves all older memory as it was), where the listed variable has its listed value. -/
import Derived.Test.YtnahjngbneicaaaGreatDoorStoreFullW
import Derived.Test.YtnahjngbneicaaaGreatDoorStoreOps
import Derived.Test.YtnahjngbneicaaaGreatDoorSchemaTab
namespace Go.Proofs.YtnahjngbneicaaaGreatDoor.storeFull
set_option linter.unusedSimpArgs false
set_option maxRecDepth 100000
open Go.ChangeShapes Go.WideShapes Go.ChangeAt Go.RowKit
abbrev zaf:=@List.getElem_cons_succ
abbrev zaj:=@List.getElem_toArray
abbrev zgb:=@Go.trodAll_cons_mk
abbrev zg1:=@Go.ChangeShapes.trodAll_cons
set_option linter.unusedSimpArgs false in
set_option maxHeartbeats 8000000 in
theorem walk (room kind:Int) (v:Value) (l:List SOp) (vo:Value) (o:SOp) (w:World) (ds:(Lit.int .i64 room).wf=true) (_hkd:(Lit.int .i64 kind).wf=true) (bM:RdS w v l∧l.length<=1172812402926) (ho:SopV w vo o) (_ht:TabF w):
 Calls Tryz.prog 5 #[.int .i64 room,.int .i64 kind,v,vo] w fun e w'=>e=.returned (.bool true)∧Below w.heap.size w w':=by
 obtain⟨ok,a0,ob,rfl,aR⟩:=ho;obtain⟨hl,bM⟩:=bM;have bD:=ZZ bM;clear bM;have de:=ZZ (Z9 ds);have cm:=ZZ hl;obtain⟨la,lc,hv,ej,eF,dB,-⟩:=id hl;subst hv;obtain⟨L,d2,eu,dJ,et⟩:=hl.rows;obtain⟨ka,kc,dV,-⟩:=id aR.rk;obtain⟨ra,rc,dj,-⟩:=id aR.rr;obtain⟨ba,bc,d4,-⟩:=id aR.rb
 dsimp only at dV dj d4
 obtain⟨B,hB⟩:=zg7 w.heap.size;have cS:=ZZ hB;obtain⟨H,aQ⟩:=zg7 (w.alloc (.cells (ZwO (o,ok,a0,ob)) 55));have bd:Hid (Below B w H):=ZZ (by rw[aQ,hB];exact Z3 _ _)
 have ag:Hid (Bk 55 H B (ZwO (o,ok,a0,ob))):=ZZ (by rw[aQ,hB];exact zak w _)
 have bz:Hid (∀ W,Below B w W->ZoX W (o,ok,a0,ob)):=ZZ (fun W C=>aR.below C (zep hB.symm))
 have aH:Hid (∀ W,Below B w W->(∀ x ∈ L,ZoX W x)∧∀ a,la=some a->∀ j u,(Yk L)[j]?=some u->W.cell? (a.add j)=some u):=ZZ (fun W C=>⟨fun x hx=>(eu x hx).below C (zep hB.symm),fun a ha j u hu=>Z7 (et a ha j u hu) C (zep hB.symm)⟩)
 have cN:=ZZ d2;have bg:=ZZ dJ;have bo:Hid ((la=none->lc=0)∧l.length<=lc):=ZZ ⟨dB,ej⟩;have hS:∀ {W:World},Below B w W->B<=W.heap.size:=fun h=>zau (by rw[cS.o];exact za0 _) h.size
 have eg:=ZZ (ZtR H);have eN:=hpeD;have eQ:=hpnD;have eT:=ZBd;have eo:=ZZ aR.io;have bE:Hid (ZwO (o,ok,a0,ob)=#[.int .i64 o.kind,.int .i64 o.many,.int .i64 o.n,.int .i64 o.op.code,.int .i64 o.op.a,.int .i64 o.op.b,ok,a0,ob]):=ZZ rfl
 have aC:Hid (∀ W,Below H.heap.size H W->W.cell? ⟨B,0,none⟩=some (.int .i64 o.kind)∧W.cell? ⟨B,1,none⟩=some (.int .i64 o.many)∧W.cell? ⟨B,2,none⟩=some (.int .i64 o.n)∧W.cell? ⟨B,3,none⟩=some (.int .i64 o.op.code)∧W.cell? ⟨B,4,none⟩=some (.int .i64 o.op.a)∧W.cell? ⟨B,5,none⟩=some (.int .i64 o.op.b)∧W.cell? ⟨B,6,none⟩=some ok∧W.cell? ⟨B,7,none⟩=some a0∧W.cell? ⟨B,8,none⟩=some ob):=ZZ (fun W C=>by
  have i:=ag.o.keep (C.block _ ag.o.lt)
  exact⟨(i.cell 0 rfl).1,(i.cell 1 rfl).1,(i.cell 2 rfl).1,(i.cell 3 rfl).1,(i.cell 4 rfl).1,(i.cell 5 rfl).1,(i.cell 6 rfl).1,(i.cell 7 rfl).1,(i.cell 8 rfl).1⟩)
 rw[bE.o] at aQ;generalize ep:o.keep.length=aV at *;generalize ed:o.recs.length=aU at *;generalize dD:o.b.length=aS at *;subst dV dj d4;have cp:Hid (o.keep.length=aV∧o.recs.length=aU∧o.b.length=aS):=ZZ ⟨ep,ed,dD⟩;rw[<-hB];clear _hkd _ht hl ds d2 eu dJ et aR ej eF dB ep ed dD;obtain⟨d5,cz⟩:=zg7 o.kind;obtain⟨dZ,cH⟩:=zg7 o.many;obtain⟨ef,cv⟩:=zg7 o.n;obtain⟨dH,cX⟩:=zg7 o.op.code;obtain⟨dW,cr⟩:=zg7 o.op.a;obtain⟨ea,c5⟩:=zg7 o.op.b;rw[<-cz,<-cH,<-cv,<-cX,<-cr,<-c5] at aC bE aQ ⊢;have aG:=ZZ (And.intro cz (And.intro cH (And.intro cv (And.intro cX (And.intro cr c5)))));clear cz cH cv cX cr c5
 go_enter Tryz.func5,Tryz.ntmps5
 go_upto_region 1 with fail
 rw[<-aQ,<-hB];clear aQ hB
 go_wp2_with fail
 refine eg.o.mono ?_;rintro e W1 ⟨rfl,bP⟩;have aX:=ZZ bP;have bR:=ZZ (bd.o.trans (bP.mono (hS bd.o)));obtain⟨b0,b1,b2,b3,b4,b5,b6,b7,b8⟩:=aC.o W1 bP;have bl:Hid (Below B w W1.drew):=ZZ bR.o.drew;have bX:Hid (B<=W1.heap.size):=ZZ (hS bR.o);clear bP eg;have eD:Hid (∀ W,Below B w W->RdS W (.slice la l.length lc) l):=ZZ (fun W C=>cm.o.below C (zep cS.o.symm))
 have cM:=ZZ (aX.o.drew);obtain⟨WE,bq⟩:=zg7 ((W1.alloc (.cells #[.int .i64 d5,.int .i64 dZ,.int .i64 ef,.int .i64 dH,.int .i64 dW,.int .i64 ea,.slice ka aV kc,.slice ra aU rc,.slice ba aS bc] 55)).drew);have dC:=ZZ bq;have bk:Hid (Below B w WE):=ZZ (by rw[bq];exact(bR.o.alloc bX.o _).drew)
 have cR:Hid (Below H.heap.size H WE):=ZZ (by rw[bq];exact(aX.o.alloc aX.o.size _).drew)
 have cj:Hid (Bk 55 WE W1.heap.size #[.int .i64 d5,.int .i64 dZ,.int .i64 ef,.int .i64 dH,.int .i64 dW,.int .i64 ea,.slice ka aV kc,.slice ra aU rc,.slice ba aS bc]∧W1.heap.size<WE.heap.size):=ZZ (by rw[bq];exact⟨zak W1 _,by show W1.heap.size<(W1.heap.push _).size;rw[Array.size_push];exact zeq _⟩)
 clear bq
 go_upto_region 2 with fail
 go_cut[10] (fun x wc=>∃ (FB:Bool),x=.bool FB∧Hid (FB=true->FewS (l++[o]))∧Hid (Below H.heap.size H wc))
 case first=>
  go_region_law(first
   | (refine Zcw (by rfl) _ _ (by rfl) la l.length lc L (by rfl) (by rfl) bg.o (aH.o _ bl.o).1 (aH.o _ bl.o).2 bo.o.1 bo.o.2 bD.o ?_;intro v6 W6 ay ak bp;have cJ:=ZZ ay;have aF:=ZZ (cM.o.trans (ak.mono cM.o.size));have ad:=ZZ (bl.o.trans (ak.mono (hS bl.o)));obtain⟨b0,b1,b2,b3,b4,b5,b6,b7,b8⟩:=aC.o W6 aF.o;have bt:Hid (∀ k,v6.ownBlock=some k->W1.heap.size<=k):=ZZ bp;clear ay ak bp)
   | (rw[<-dC.o];refine Zcw (by rfl) _ _ (by rfl) la l.length lc L (by rfl) (by rfl) bg.o (aH.o _ bk.o).1 (aH.o _ bk.o).2 bo.o.1 bo.o.2 bD.o ?_;intro v6 W6 ay ak bp;have cJ:=ZZ ay;have aF:=ZZ (cR.o.trans (ak.mono cR.o.size));have ad:=ZZ (bk.o.trans (ak.mono (hS bk.o)));obtain⟨b0,b1,b2,b3,b4,b5,b6,b7,b8⟩:=aC.o W6 aF.o;have bt:Hid (∀ k,v6.ownBlock=some k->W1.heap.size<=k):=ZZ (fun k hk=>zau (zf9 cj.o.2) (bp k hk));have ew:=ZZ (cj.o.1.keep (ak.block _ cj.o.2));clear ay ak bp)
   | (refine Zde (by rfl) _ _ (by rfl) v6 L (by rfl) (zb3 cJ.o _) (o,.slice ka aV kc,.slice ra aU rc,.slice ba aS bc) (bz.o _ (ad.o.trans ((Z3 W6 _).mono (hS ad.o)))) W6.heap.size (by rw[bE.o];exact zak W6 _) (by rfl) (by rw[bg.o];exact bD.o) ?_;intro v7 F aj aL;have ap:=ZZ (Zls ad.o (hS ad.o) aL (fun k hk=>zau bX.o (bt.o k hk)));have az:=ZZ (Zls aF.o aF.o.size aL (fun k hk=>zau aX.o.size (bt.o k hk)));have ab:=ZZ (ZrM aj cN.o (aH.o _ ap.o).1 (bz.o _ ap.o));obtain⟨b0,b1,b2,b3,b4,b5,b6,b7,b8⟩:=aC.o F az.o;obtain⟨a7,c7,bB,-⟩:=id ab.o;rw[show(l++[o]).length=l.length+1 by simp] at bB;subst bB;clear aj aL)
   | (refine Zde (by rfl) _ _ (by rfl) v6 L (by rfl) cJ.o (o,.slice ka aV kc,.slice ra aU rc,.slice ba aS bc) (bz.o _ ad.o) W1.heap.size (by rw[bE.o];exact ew.o) (by rfl) (by rw[bg.o];exact bD.o) ?_;intro v7 F aj aL;have ap:=ZZ (ad.o.grown aL (hS ad.o) (fun k hk=>zau bX.o (bt.o k hk)));have az:=ZZ (aF.o.grown aL aF.o.size (fun k hk=>zau aX.o.size (bt.o k hk)));have ab:=ZZ (ZrM aj cN.o (aH.o _ ap.o).1 (bz.o _ ap.o));obtain⟨b0,b1,b2,b3,b4,b5,b6,b7,b8⟩:=aC.o F az.o;obtain⟨a7,c7,bB,-⟩:=id ab.o;rw[show(l++[o]).length=l.length+1 by simp] at bB;subst bB;clear aj aL)
   | (go_simp;go_wp2_with(first | (go_at_call 8;refine(Zyl _ _ F ab.o).mono ?_;rintro e W8 ⟨FB,rfl,db,rfl⟩;have cc:=ZZ db;clear db))))
  all_goals
   go_wp2_with fail
   go_meet
   exact⟨FB,rfl,cc,az⟩
 case rest=>
 obtain⟨FB,rfl,cc,az⟩:=hcut;have a3:Hid (∀ W,Below H.heap.size H W->Below B w W):=ZZ (fun W h=>bd.o.trans (h.mono (hS bd.o)))
 have HN:=ZZ (Zri H.heap.size room de.o wc az.o.size)
 go_wp2_with fail
 refine HN.o.mono ?_;rintro e W2 ⟨pd,rfl,dd,d9⟩;have dG:=ZZ dd;have aZ:=ZZ (az.o.trans d9);have cw:Hid (RdS H (.slice la l.length lc) l):=ZZ (cm.o.below bd.o (zep cS.o.symm));have dA:Hid (RdS W2 (.slice la l.length lc) l):=ZZ (cw.o.below aZ.o zL);clear dd d9 HN b0 b1 b2 b3 b4 b5 b6 b7 b8 ag bl bX eD cM bk cR cj dC az bR aX cm
 cases FB with
 | false=>
  go_wp2;go_ret;exact⟨by first | rfl | simp,a3.o _ aZ.o⟩
 | true=>
 have cW:=ZZ (cc.o rfl);clear cc;by_cases bK:kind<0
 case pos=>
  have bu:decide (kind<0)=true:=zan bK;go_wp2;go_ret;exact⟨by first | rfl | simp,a3.o _ aZ.o⟩
 by_cases em:6<=kind
 case pos=>
  have bu:decide (kind<0)=false:=zai bK;have bS:decide (kind ≥ 6)=true:=zan em;go_wp2;go_ret;exact⟨by first | rfl | simp,a3.o _ aZ.o⟩
 have bu:decide (kind<0)=false:=zai bK;have bS:decide (kind ≥ 6)=false:=zai (by omega)
 have ai:Hid (l.length<=60∧o.recs.length<=20):=ZZ (by
  have h1:=cW.o.1;rw[zdb] at h1;have h2:=cW.o.2 l.length o (by rw[zbs zL,zf8];rfl)
  exact⟨by simp at h1;omega,h2.1⟩)
 have T:Hid (0<=kind∧kind<6):=ZZ (by omega)
 have dL:=ZZ (ZzX (room:=room) kind _ l H W2 rfl cw.o aZ.o dG.o (by omega) (by omega) ai.o.1)
 have c3:=ai.o.1;clear bK em cW dG cw aH cN bg bz bE de bo bD;go_wp2
 go_loopw[12] (fun vi wr=>∃ k:Nat,vi=.int .i64 (k:Int)∧k<=l.length∧wr=W2∧Hid (∀ (j:Nat) x,j<k->l[j]?=some x->x.kind≠5)) (fun vi _=>l.length-(intOf vi).toNat)
 case atStart=>exact⟨0,rfl,zap _,rfl,ZZ (fun j x hj=>absurd hj (zcg _))⟩
 obtain⟨k,rfl,eH,rfl,HP⟩:=hrel;by_cases ar:k<l.length
 case pos=>
  obtain⟨x,b,eJ,eP,eI,eO,eS,eK,eR,hx,ex,er⟩:=dA.o.at ar;have HX:=ZZ hx;have c0:=er.c0;subst ex;obtain⟨xk,cx⟩:=zg7 x.kind;rw[<-cx] at c0;have eG:=ZZ cx;clear hx er cx;by_cases h5:xk=5
  case pos=>
   have eC:decide (xk=5)=true:=zan h5;go_wp2;go_ret;exact⟨by first | rfl | simp,a3.o _ aZ.o⟩
  have eC:decide (xk=5)=false:=zai h5;go_wp2;go_roundw
  case rel=>
   refine⟨k+1,by go_num,by omega,by first | trivial | rfl,ZZ (fun j y hj hy=>?_)⟩
   by_cases e:j=k
   ·rw[e,HX.o] at hy
    obtain rfl:=zaq hy;rw[<-eG.o];exact h5
   ·exact HP.o j y (by omega) hy
  case measure=>simp[intOf];omega
 have dk:Hid (∀ x ∈ l,x.kind≠5):=ZZ (fun x hx=>by
  obtain⟨j,hj⟩:=List.getElem?_of_mem hx
  exact HP.o j x (by have:=(zbr.1 hj).1;omega) hj)
 have cu:=ZZ (ZAI (room:=room) (kind:=kind) T.o.1 T.o.2 l ai.o.1);have ao:=ZZ (ZyE (room:=room) (kind:=kind) T.o.1 T.o.2 l);have cG:Hid ((ZyD kind room l).1.2.power=-1):=ZZ (ZwI l rfl dk.o);clear HP dk dA eH;generalize ZyD kind room l=X at *
 go_wp2_with fail
 refine dL.o.mono ?_;rintro e W3 ⟨p,va,rfl,a9⟩;obtain⟨aa,ac,ey⟩:=a9.own.shape;obtain⟨K,A⟩:∃ K:Nat->Prop,K=fun k=>k<H.heap.size∨va.ownBlock=some k:=⟨_,rfl⟩
 have cf:Hid (SD K W3 pd p X.1.1 X.1.2 18000 36000000):=ZZ (by
  rw[A];have:=ai.o.1
  exact a9.sd.mono (by omega) (by omega))
 have bm:Hid ((∀ k,K k->k<W3.heap.size)∧∀ k,k<H.heap.size->K k):=ZZ (by
  rw[A]
  exact⟨a9.size zL,fun k hk=>.inl hk⟩)
 have aY:=ZZ a9.old
 have eE:Hid (∀ W W',Below H.heap.size H W->Ql (fun k=>¬ K k) W W'->Below H.heap.size H W'):=ZZ (fun W W' i ho=>i.trans (ho.below i.size (fun k hn=>by
  apply zca;intro ar
  exact hn (bm.o.2 k (by omega)))))
 subst ey;have an:=ZZ (cf.o.nowC ao.o.ok.now);clear dL a9 A
 go_wp2_with fail
 refine an.o.mono ?_;rintro e J ⟨vl,vt,rfl,aw,bv,a5,a8⟩;obtain⟨xa,xc,hx,-⟩:=id aw.l;obtain⟨ua,uc,hu,-⟩:=id aw.t
 dsimp only at hx hu
 subst hx hu;unfold snV snC
 dsimp only
 have bA:=ZZ aw;have bN:=ZZ bv;have bW:=ZZ a5;have bL:=ZZ a8;obtain⟨NW,cl⟩:=zg7 X.1.1.now;have dP:=ZZ cl;rw[<-cl] at bA bN bW ⊢;obtain⟨xn,dz⟩:=zg7 NW.st.L.length;obtain⟨un,d3⟩:=zg7 NW.tab.length;rw[<-dz] at bA bN ⊢;rw[<-d3] at bA bW ⊢;clear aw bv a5 a8 cl dz d3 an;obtain⟨ni,cE⟩:=zg7 NW.idx;obtain⟨nk,cO⟩:=zg7 NW.st.kind;obtain⟨ns,cT⟩:=zg7 NW.st.shut;obtain⟨ne,ck⟩:=zg7 NW.st.eng;rw[<-cE,<-cO,<-cT,<-ck];have bn:=ZZ (And.intro cE (And.intro cO (And.intro cT ck)));obtain⟨WX,bG⟩:=zg7 (J.alloc (.cells #[.int .i64 ni,.int .i64 nk,.slice xa xn xc,.bool ns,.int .i64 ne,.slice ua un uc] 41));have dX:=ZZ bG;have ag:Hid (Below J.heap.size J WX):=ZZ (by rw[bG];exact Z3 _ _)
 have aO:Hid (Bn WX J.heap.size #[.int .i64 ni,.int .i64 nk,.slice xa xn xc,.bool ns,.int .i64 ne,.slice ua un uc]):=ZZ (by rw[bG];exact zak J _)
 clear cE cO cT ck bG;have bU:=ZZ (bL.o.trans (ag.o.mono bL.o.size));have a2:=ZZ (cf.o.below bU.o);obtain⟨nx,bO⟩:=zg7 X.1.1.next;have dl:=ZZ bO;have ax:=ZZ (a2.o.next ao.o.ok.num);rw[<-bO] at ax
 have bf:Hid (0<=nx∧nx<=4611686018427387904):=ZZ (by
  have h1:=ao.o.len;have h2:=ao.o.ok.num.f1;rw[bO]
  exact⟨by rw[h1];exact Int.natCast_nonneg _,h2⟩)
 clear bO
 go_upto_region 15 with fail
 rw[<-dX.o];clear dX
 go_wp2_with fail
 refine ax.o.mono ?_;rintro e W5 ⟨rfl,cC⟩;have a4:=ZZ (bU.o.trans (cC.mono bU.o.size));obtain⟨b0,b1,b2,b3,b4,b5,b6,b7,b8⟩:=aC.o W5 (aY.o.trans (a4.o.mono aY.o.size));have cB:=ZgO nx o ka aV kc ra aU rc ba aS bc W5 bf.o.1 bf.o.2;rw[<-aG.o.1,<-aG.o.2.1,<-aG.o.2.2.1,<-aG.o.2.2.2.1,<-aG.o.2.2.2.2.1,<-aG.o.2.2.2.2.2] at cB;have df:=ZZ cB;have cn:=ZZ cC;clear cB cC
 go_wp2_with fail
 refine df.o.mono ?_;rintro e W6 ⟨v6,rfl,ay,ak⟩;have ad:=ZZ (a4.o.trans (ak.mono a4.o.size));have cy:=ZZ (cn.o.trans (ak.mono cn.o.size));have dp:=ZZ (cf.o.fresh ad.o);have cY:=ZZ (fun b i=>ay.freshR b i)
 have dN:=ZZ (ay.rd (ZoV bf.o.1 bf.o.2 eo.o))
 have dS:=ZZ (Zef v6 (Yz nx o) W6 dp.o (fun k hk=>by
  rcases hk with hk | hk
  ·exact zay (bm.o.1 k hk) ad.o.size
  ·exact hk.2) ao.o.ok dN.o (.inr fun b i=>.inr ⟨zau a4.o.size (cY.o b i).1,(cY.o b i).2⟩) (by have:=ao.o.pcn;have:=ai.o.1;omega) (by have h1:=ao.o.recs;have h2:=ao.o.rcn;have:=ai.o.1;rw[h1,zci];omega) (by decide) (by decide))
 obtain⟨eM,dg,dM,c9,dF⟩:=ZyF (s:=X.1.1) (d:=X.1.2) T.o.1 T.o.2 cu.o ao.o cG.o ai.o.1 (Yz nx o) (Zgh nx o);have bT:=ZZ dg;have ab:=ZZ dM;have bZ:=ZZ c9;have cD:=ZZ dF;have d8:Hid (SnR W6 (NW,.slice xa xn xc,.slice ua un uc)):=ZZ (bA.o.below (ag.o.trans (cy.o.mono ag.o.size)) zL);clear dg dM c9 dF ay ak df a2 dp cY;generalize Xc (Yz nx o) (X.1.1,X.1.2)=Y at *;generalize X.1.1=sx at *;generalize X.1.2=dx at *;generalize X.2=all at *
 go_wp2_with fail
 refine dS.o.mono ?_;rintro e F ⟨rfl,dK,aj⟩;have aT:=ZZ dK
 have ap:Hid (Below H.heap.size H F):=ZZ ((aY.o.trans (ad.o.mono aY.o.size)).trans (aj.below (zau aY.o.size ad.o.size) (fun k hn=>by
  apply zca;intro ar
  exact hn (.inl (bm.o.2 k (by omega))))))
 have ct:Hid (SnR F (NW,.slice xa xn xc,.slice ua un uc)):=ZZ (d8.o.keepN bN.o bW.o aj)
 have dq:Hid (Bn F J.heap.size #[.int .i64 ni,.int .i64 nk,.slice xa xn xc,.bool ns,.int .i64 ne,.slice ua un uc]):=ZZ (by
  have h1:=aO.o.below cy.o zL;have ar:=(zar.1 h1).1
  exact(aj.block _ ar (fun hn=>hn (.inr ⟨bL.o.size,ar⟩))).trans h1)
 have co:Hid (∀ k,K k->k<F.heap.size):=ZZ (fun k hk=>zay (bm.o.1 k hk) (zau ad.o.size aj.size))
 obtain⟨c,hc⟩:=zg7 Y.2;have HC:=ZZ hc;rw[<-hc];have dQ:Hid (W6.heap.size<=F.heap.size):=ZZ aj.size
 clear dK aj hc dS d8 aO ag bU cn cy bN bW bA dN ax bf b0 b1 b2 b3 b4 b5 b6 b7 b8 aC eo aG a4 cf bL ad
 --17
 have aW:Hid (∀ W,Below F.heap.size F W->W.cell? ⟨J.heap.size,0,none⟩=some (.int .i64 ni)∧W.cell? ⟨J.heap.size,1,none⟩=some (.int .i64 nk)∧W.cell? ⟨J.heap.size,2,none⟩=some (.slice xa xn xc)∧W.cell? ⟨J.heap.size,3,none⟩=some (.bool ns)∧W.cell? ⟨J.heap.size,4,none⟩=some (.int .i64 ne)∧W.cell? ⟨J.heap.size,5,none⟩=some (.slice ua un uc)):=ZZ (fun W C=>by
  have i:Bn W J.heap.size _:=dq.o.below C zL
  exact⟨(i.cell 0).1.trans rfl,(i.cell 1).1.trans rfl,(i.cell 2).1.trans rfl,(i.cell 3).1.trans rfl,(i.cell 4).1.trans rfl,(i.cell 5).1.trans rfl⟩)
 have bb:Hid (Below F.heap.size F F.drew):=ZZ (zac _ _).drew;have c2:Hid (c≠0->Y.1=(sx,dx)):=ZZ (fun h=>cD.o (by rw[<-HC.o];exact h))
 have bY:Hid (c≠0->∀ W,Below F.heap.size F W->Calls Tryz.prog 14 #[ptr p] W fun e w'=>e=.returned (.int .i64 nx)∧Below F.heap.size F w'):=ZZ (fun h W C=>by
  have G:=(aT.o.below C).next ab.o.ok.num;have e9:=c2.o h;rw[e9,show(sx,dx).1.next=nx from dl.o.symm] at G
  exact G.mono fun e w' ⟨he,i⟩=>⟨he,C.trans (i.mono C.size)⟩)
 have bJ:Hid (c≠0->∀ W,Below F.heap.size F W->Calls Tryz.prog 21 #[ptr p] W fun e w'=>∃ v,e=.returned v∧SnV w' v NW∧Below F.heap.size F w'):=ZZ (fun h W C=>by
  have G:=(aT.o.below C).nowC ab.o.ok.now;have e9:=c2.o h;rw[e9,show(sx,dx).1.now=NW from dP.o.symm] at G;refine G.mono ?_;rintro e w' ⟨vl,vt,rfl,M,-,-,i⟩
  exact⟨_,rfl,M.snV,C.trans (i.mono C.size)⟩)
 have am:Hid (∀ W v,SnV W v NW->Below F.heap.size F W->Calls Tryz.prog 20 #[v,.agg #[.int .i64 ni,.int .i64 nk,.slice xa xn xc,.bool ns,.int .i64 ne,.slice ua un uc]] W fun e w'=>e=.returned (.bool true)∧Below F.heap.size F w'):=ZZ (fun W v hv C=>by
  have h8:=(ct.o.below C zL).snV;unfold snV snC at h8
  dsimp only at h8
  rw[<-bn.o.1,<-bn.o.2.1,<-bn.o.2.2.1,<-bn.o.2.2.2] at h8;have G:=ZiS v NW _ NW W hv h8;rw[Zgj] at G
  exact G.mono fun e w' ⟨he,i⟩=>⟨he,C.trans (i.mono C.size)⟩)
 go_upto_region 17 with fail
 go_cut[98] (fun x wc=>x=.bool false∧Hid (Below F.heap.size F wc))
 case first=>
  clear co ao ct ap bT ab bZ cD aT cG cu aY eE T ai c3 bu bS cp;by_cases cd:c=10
  case neg=>
   have eL:decide (c=10)=false:=zai cd;have eU:(c == 10)=false:=by rw[zah];exact cd
   clear cd bY bJ am;refine zdg (S:=fun W=>W.cell? ⟨J.heap.size,0,none⟩=some (.int .i64 ni)∧W.cell? ⟨J.heap.size,1,none⟩=some (.int .i64 nk)∧W.cell? ⟨J.heap.size,2,none⟩=some (.slice xa xn xc)∧W.cell? ⟨J.heap.size,3,none⟩=some (.bool ns)∧W.cell? ⟨J.heap.size,4,none⟩=some (.int .i64 ne)∧W.cell? ⟨J.heap.size,5,none⟩=some (.slice ua un uc)) (by kernel_rfl) (aW.o _ bb.o) (fun m=>?_)
   refine tkY (v:=?_) 0 m rfl ?_ ?_
   rotate_left
   ·intro w z
    go_simp
    try with_reducible rfl
   simp only [Act.put,zaj,zae,zaf,zad,zal,zam];refine tkY (v:=?_) 1 m rfl ?_ ?_
   rotate_left
   ·intro w z
    go_simp
    try with_reducible rfl
   simp only [Act.put,zaj,zae,zaf,zad,zal,zam];refine tkY (v:=?_) 2 m rfl ?_ ?_
   rotate_left
   ·intro w z
    go_simp
    try with_reducible rfl
   simp only [Act.put,zaj,zae,zaf,zad,zal,zam];refine skY 3 m rfl ?_;simp only [Act.put,zaj,zae,zaf,zad,zal,zam];refine skY 4 m rfl ?_;simp only [Act.put,zaj,zae,zaf,zad,zal,zam];refine skY 5 m rfl ?_;simp only [Act.put,zaj,zae,zaf,zad,zal,zam];refine skY 6 m rfl ?_;simp only [Act.put,zaj,zae,zaf,zad,zal,zam];refine skY 7 m rfl ?_;simp only [Act.put,zaj,zae,zaf,zad,zal,zam];refine skY 8 m rfl ?_;simp only [Act.put,zaj,zae,zaf,zad,zal,zam];refine skY 9 m rfl ?_;simp only [Act.put,zaj,zae,zaf,zad,zal,zam];refine skY 10 m rfl ?_;simp only [Act.put,zaj,zae,zaf,zad,zal,zam];refine skY 11 m rfl ?_;simp only [Act.put,zaj,zae,zaf,zad,zal,zam];refine skY 12 m rfl ?_;simp only [Act.put,zaj,zae,zaf,zad,zal,zam];refine skY 13 m rfl ?_;simp only [Act.put,zaj,zae,zaf,zad,zal,zam];refine tkY (v:=?_) 14 m rfl ?_ ?_
   rotate_left
   ·intro w z
    go_simp
    try with_reducible rfl
   simp only [Act.put,zaj,zae,zaf,zad,zal,zam];refine zdu (by kernel_rfl) ?_ _
   go_wp2_with fail
   go_meet
   exact⟨rfl,bb⟩
  case pos=>
   subst cd;have ax:=ZZ (bY.o (by decide))
   have an:=ZZ (bJ.o (by decide))
   clear bY bJ;refine zdg (S:=fun W=>W.cell? ⟨J.heap.size,0,none⟩=some (.int .i64 ni)∧W.cell? ⟨J.heap.size,1,none⟩=some (.int .i64 nk)∧W.cell? ⟨J.heap.size,2,none⟩=some (.slice xa xn xc)∧W.cell? ⟨J.heap.size,3,none⟩=some (.bool ns)∧W.cell? ⟨J.heap.size,4,none⟩=some (.int .i64 ne)∧W.cell? ⟨J.heap.size,5,none⟩=some (.slice ua un uc)) (by kernel_rfl) (aW.o _ bb.o) (fun m=>?_)
   refine tkY (v:=?_) 0 m rfl ?_ ?_
   rotate_left
   ·intro w z
    go_simp
    try with_reducible rfl
   simp only [Act.put,zaj,zae,zaf,zad,zal,zam];refine tkY (v:=?_) 1 m rfl ?_ ?_
   rotate_left
   ·intro w z
    go_simp
    try with_reducible rfl
   simp only [Act.put,zaj,zae,zaf,zad,zal,zam];refine tkY (v:=?_) 2 m rfl ?_ ?_
   rotate_left
   ·intro w z
    go_simp
    try with_reducible rfl
   simp only [Act.put,zaj,zae,zaf,zad,zal,zam];refine tkY (v:=?_) 3 m rfl ?_ ?_
   rotate_left
   ·intro w z
    go_simp
    try with_reducible rfl
   simp only [Act.put,zaj,zae,zaf,zad,zal,zam];refine tkY (v:=?_) 5 m rfl ?_ ?_
   rotate_left
   ·intro w z
    go_simp
    try with_reducible rfl
   simp only [Act.put,zaj,zae,zaf,zad,zal,zam];refine zbh (rs:=[4]) (by kernel_rfl) (by simp) ?_
   refine za5 rfl (fun E A=>?_) zbf
   go_simp
   go_wp2_with(go_at_call 14;refine(ax.o _ bb.o).mono ?_;rintro e Wa ⟨rfl,i⟩;have ei:=ZZ i;clear i)
   refine A.out _ _ (aW.o _ ei.o) (fun m=>?_)
   clear A E;refine tkY (v:=?_) 6 m rfl ?_ ?_
   rotate_left
   ·intro w z
    go_simp
    try with_reducible rfl
   simp only [Act.put,zaj,zae,zaf,zad,zal,zam];refine tkY (v:=?_) 7 m rfl ?_ ?_
   rotate_left
   ·intro w z
    go_simp
    try with_reducible rfl
   simp only [Act.put,zaj,zae,zaf,zad,zal,zam];refine tkY (v:=?_) 8 m rfl ?_ ?_
   rotate_left
   ·intro w z
    go_simp
    try with_reducible rfl
   simp only [Act.put,zaj,zae,zaf,zad,zal,zam];refine tkY (v:=?_) 10 m rfl ?_ ?_
   rotate_left
   ·intro w z
    go_simp
    try with_reducible rfl
   simp only [Act.put,zaj,zae,zaf,zad,zal,zam];refine zbh (rs:=[9]) (by kernel_rfl) (by simp) ?_
   refine za5 rfl (fun E A=>?_) zbf
   go_simp
   go_wp2_with(go_at_call 21;refine(an.o _ ei.o).mono ?_;rintro e Wb ⟨vb,rfl,M,i⟩;have av:=ZZ M;have af:=ZZ i;clear M i)
   refine A.out _ _ (aW.o _ af.o) (fun m=>?_)
   clear A E;refine zbh (rs:=[11]) (by kernel_rfl) (by simp) ?_
   refine za5 rfl (fun E A=>?_) zbf
   go_simp
   go_wp2_with(go_at_call 20;refine(am.o _ _ av.o af.o).mono ?_;rintro e Wc ⟨rfl,i⟩;have ae:=ZZ i;clear i)
   refine A.out _ _ (aW.o _ ae.o) (fun m=>?_)
   clear A E;refine tkY (v:=?_) 12 m rfl ?_ ?_
   rotate_left
   ·intro w z
    go_simp
    try with_reducible rfl
   simp only [Act.put,zaj,zae,zaf,zad,zal,zam];refine tkY (v:=?_) 13 m rfl ?_ ?_
   rotate_left
   ·intro w z
    go_simp
    try with_reducible rfl
   simp only [Act.put,zaj,zae,zaf,zad,zal,zam];refine tkY (v:=?_) 14 m rfl ?_ ?_
   rotate_left
   ·intro w z
    go_simp
    try with_reducible rfl
   simp only [Act.put,zaj,zae,zaf,zad,zal,zam];refine zdu (by kernel_rfl) ?_ _
   go_wp2_with fail
   go_meet
   exact⟨by first | rfl | simp,ae⟩
 case rest=>
 obtain⟨rfl,aI⟩:=hcut;have cq:=ZZ (aT.o.below aI.o);have cK:=ZZ (cq.o.nowC ab.o.ok.now);have au:=ZZ (ZwJ T.o.1 T.o.2 bT.o ab.o bZ.o (by have:=ai.o.1;omega))
 have aK:=ZZ ab.o.checkpoint;obtain⟨W8,dO⟩:=zg7 wc;rw[<-dO] at aI cq cK ⊢;clear dO aW bb c2 bY bJ am ct dq cD dl dP HC bn ao cG cu
 go_wp2_with fail
 refine cK.o.mono ?_;rintro e D ⟨vl,vt,rfl,aw,bv,a5,a8⟩;obtain⟨U,R,hx,-⟩:=id aw.l;obtain⟨Q,zc,hu,-⟩:=id aw.t
 dsimp only at hx hu
 subst hx hu;unfold snV snC
 dsimp only
 have aJ:=ZZ aw;have bQ:=ZZ bv;have cb:=ZZ a5;have dt:=ZZ a8;obtain⟨N,cU⟩:=zg7 Y.1.1.now;have bC:=ZZ cU;rw[<-cU] at aJ bQ cb ⊢;obtain⟨P,d0⟩:=zg7 N.st.L.length;obtain⟨O,dr⟩:=zg7 N.tab.length;rw[<-d0] at aJ bQ ⊢;rw[<-dr] at aJ cb ⊢;clear aw bv a5 a8 cU d0 dr cK;obtain⟨mi,c1⟩:=zg7 N.idx;obtain⟨mk,cP⟩:=zg7 N.st.kind;obtain⟨ms,cQ⟩:=zg7 N.st.shut;obtain⟨me,cV⟩:=zg7 N.st.eng;rw[<-c1,<-cP,<-cQ,<-cV];have aP:=ZZ (And.intro c1 (And.intro cP (And.intro cQ cV)));obtain⟨WY,bH⟩:=zg7 (D.alloc (.cells #[.int .i64 mi,.int .i64 mk,.slice U P R,.bool ms,.int .i64 me,.slice Q O zc] 41));have d1:=ZZ bH;have bw:Hid (Below D.heap.size D WY):=ZZ (by rw[bH];exact Z3 _ _)
 have aO:Hid (Bn WY D.heap.size #[.int .i64 mi,.int .i64 mk,.slice U P R,.bool ms,.int .i64 me,.slice Q O zc]):=ZZ (by rw[bH];exact zak D _)
 clear c1 cP cQ cV bH;have be:=ZZ (aI.o.trans (dt.o.mono aI.o.size));have bF:=ZZ (be.o.trans (bw.o.mono be.o.size));obtain⟨K8,a6⟩:∃ K8:Nat->Prop,K8=fun k=>(K k∨(W3.heap.size<=k∧k<W6.heap.size))∨(F.heap.size<=k∧k<WY.heap.size):=⟨_,rfl⟩
 have dy:Hid (SD K8 WY pd p Y.1.1 Y.1.2 _ _):=ZZ (by rw[a6];exact aT.o.fresh bF.o)
 have ce:Hid (∀ k,F.heap.size<=k->k<WY.heap.size->K8 k):=ZZ (fun k h1 h2=>by rw[a6];exact .inr ⟨h1,h2⟩)
 have dI:Hid (∀ k,K k->K8 k):=ZZ (fun k h1=>by rw[a6];exact .inl (.inl h1))
 have bx:Hid (∀ k,K8 k->k<WY.heap.size):=ZZ (fun k hk=>by
  rw[a6] at hk;have h1:=bF.o.size;rcases hk with hk | hk
  ·rcases hk with hk | hk
   ·have:=co.o k hk;omega
   ·have:=dQ.o;omega
  ·exact hk.2)
 have cZ:=ZZ (Zdc WY dy.o bx.o ab.o.ok.num (by have:=ab.o.bsn;have:=ai.o.1;omega) (by decide) (by decide))
 have el:Hid (Zma K8 (N,.slice U P R,.slice Q O zc)):=ZZ ⟨(aJ.o.l.block).imp id (fun h g hg=>by
  obtain⟨-,b,i,ar⟩:=h;obtain rfl:b=g:=zaq (i.symm.trans hg)
  exact ce.o _ (zau aI.o.size (bQ.o _ hg)) (zay ar bw.o.size)),(RdE.block aJ.o.t).imp id (fun h g hg=>ce.o _ (zau aI.o.size (cb.o _ hg)) (zay (h g hg) bw.o.size))⟩
 have aB:Hid (∀ W W',WY.heap.size<=W.heap.size->Ql (fun k=>¬ K8 k) W W'->(SnR W (N,.slice U P R,.slice Q O zc)->SnR W' (N,.slice U P R,.slice Q O zc))∧(Bn W D.heap.size #[.int .i64 mi,.int .i64 mk,.slice U P R,.bool ms,.int .i64 me,.slice Q O zc]->Bn W' D.heap.size #[.int .i64 mi,.int .i64 mk,.slice U P R,.bool ms,.int .i64 me,.slice Q O zc])∧(Below H.heap.size H W->Below H.heap.size H W')):=ZZ (fun W W' eB ho=>⟨fun h=>h.keep el.o (fun g hg=>ho.block g (zay (bx.o g hg) eB) (fun hn=>hn hg)),fun h=>(ho.block _ (zar.1 h).1 (fun hn=>hn (ce.o _ be.o.size (zar.1 aO.o).1))).trans h,fun h=>h.trans (ho.below h.size (fun k hn=>by
  apply zca;intro ar
  exact hn (dI.o k (bm.o.2 k (by omega)))))⟩)
 go_upto_region 20 with fail
 rw[<-d1.o];clear d1;obtain⟨Z,hZ⟩:=zg7 (Qs Y.1);have ee:Qs (Y.1.1,Y.1.2)=Z:=hZ.symm;rw[ee] at cZ au;rw[<-hZ] at aK;clear hZ ee
 go_wp2_with fail
 refine cZ.o.mono ?_;rintro e I ⟨rfl,d7,br⟩;have a1:=ZZ d7;have ci:=ZZ ((aB.o WY I zL br).1 (aJ.o.below bw.o zL));have b9:=ZZ ((aB.o WY I zL br).2.1 aO.o);have cI:=ZZ ((aB.o WY I zL br).2.2 (ap.o.trans (bF.o.mono ap.o.size)));have eq:Hid (WY.heap.size<=I.heap.size):=ZZ br.size;have ez:Hid (D.heap.size<WY.heap.size∧F.heap.size<=D.heap.size):=ZZ ⟨(zar.1 aO.o).1,be.o.size⟩
 clear d7 br cZ dy aJ aO bF be bw bQ cb dt cq aI ap aT co el ce dI a6 dQ ez
 --21
 obtain⟨f,hf⟩:=zg7 Z.2;have dw:=ZZ hf;obtain⟨zx,di⟩:=zg7 Z.1.1.next;have bI:=ZZ di;rw[<-hf] at au ⊢;clear hf di
 have al:Hid (∀ W,Below I.heap.size I W->W.cell? ⟨D.heap.size,0,none⟩=some (.int .i64 mi)∧W.cell? ⟨D.heap.size,1,none⟩=some (.int .i64 mk)∧W.cell? ⟨D.heap.size,2,none⟩=some (.slice U P R)∧W.cell? ⟨D.heap.size,3,none⟩=some (.bool ms)∧W.cell? ⟨D.heap.size,4,none⟩=some (.int .i64 me)∧W.cell? ⟨D.heap.size,5,none⟩=some (.slice Q O zc)):=ZZ (fun W C=>by
  have i:Bn W D.heap.size _:=b9.o.below C zL
  exact⟨(i.cell 0).1.trans rfl,(i.cell 1).1.trans rfl,(i.cell 2).1.trans rfl,(i.cell 3).1.trans rfl,(i.cell 4).1.trans rfl,(i.cell 5).1.trans rfl⟩)
 have aq:=ZZ (zac I.heap.size I).drew
 have ax:Hid (∀ W,Below I.heap.size I W->Calls Tryz.prog 14 #[ptr p] W fun e w'=>e=.returned (.int .i64 zx)∧Below I.heap.size I w'):=ZZ (fun W C=>by
  have G:=(a1.o.below C).next aK.o.ok.num;rw[<-bI.o] at G
  exact G.mono fun e w' ⟨he,i⟩=>⟨he,C.trans (i.mono C.size)⟩)
 have a2:Hid (∀ W,Below I.heap.size I W->Calls Tryz.prog 11 #[ptr p] W fun e w'=>e=.returned (.int .i64 zx)∧Below I.heap.size I w'):=ZZ (fun W C=>by
  have G:=(a1.o.below C).syncedC;rw[au.o.2.2.1,<-bI.o] at G
  exact G.mono fun e w' ⟨he,i⟩=>⟨he,by rw[i];exact C⟩)
 have an:Hid (∀ W,Below I.heap.size I W->Calls Tryz.prog 21 #[ptr p] W fun e w'=>∃ v,e=.returned v∧SnV w' v N∧Below I.heap.size I w'):=ZZ (fun W C=>by
  have G:=(a1.o.below C).nowC aK.o.ok.now;rw[au.o.2.1,<-bC.o] at G;refine G.mono ?_;rintro e w' ⟨vl,vt,rfl,M,-,-,i⟩
  exact⟨_,rfl,M.snV,C.trans (i.mono C.size)⟩)
 have ca:Hid (∀ W,SnR W (N,.slice U P R,.slice Q O zc)->SnV W (.agg #[.int .i64 mi,.int .i64 mk,.slice U P R,.bool ms,.int .i64 me,.slice Q O zc]) N):=ZZ (fun W h=>by
  have h8:=h.snV;unfold snV snC at h8
  dsimp only at h8
  rw[<-aP.o.1,<-aP.o.2.1,<-aP.o.2.2.1,<-aP.o.2.2.2] at h8
  exact h8)
 have am:Hid (∀ W v,SnV W v N->Below I.heap.size I W->Calls Tryz.prog 20 #[v,.agg #[.int .i64 mi,.int .i64 mk,.slice U P R,.bool ms,.int .i64 me,.slice Q O zc]] W fun e w'=>e=.returned (.bool true)∧Below I.heap.size I w'):=ZZ (fun W v hv C=>by
  have G:=ZiS v N _ N W hv (ca.o _ (ci.o.below C zL));rw[Zgj] at G
  exact G.mono fun e w' ⟨he,i⟩=>⟨he,C.trans (i.mono C.size)⟩)
 have dE:=au.o.1
 go_upto_region 21 with fail
 go_cut[122] (fun x wc=>x=.bool false∧Hid (Below I.heap.size I wc))
 case first=>
  clear a1 ci b9 aK bT ab bZ T ai c3 bu bS cp au bC aP ca dw bI aB bx;rcases dE with rfl | rfl
  ·refine zdg (S:=fun W=>W.cell? ⟨D.heap.size,0,none⟩=some (.int .i64 mi)∧W.cell? ⟨D.heap.size,1,none⟩=some (.int .i64 mk)∧W.cell? ⟨D.heap.size,2,none⟩=some (.slice U P R)∧W.cell? ⟨D.heap.size,3,none⟩=some (.bool ms)∧W.cell? ⟨D.heap.size,4,none⟩=some (.int .i64 me)∧W.cell? ⟨D.heap.size,5,none⟩=some (.slice Q O zc)) (by kernel_rfl) (al.o _ aq.o) (fun m=>?_)
   refine tkY (v:=?_) 0 m rfl ?_ ?_
   rotate_left
   ·intro w z
    go_simp
    try with_reducible rfl
   simp only [Act.put,zaj,zae,zaf,zad,zal,zam];refine tkY (v:=?_) 1 m rfl ?_ ?_
   rotate_left
   ·intro w z
    go_simp
    try with_reducible rfl
   simp only [Act.put,zaj,zae,zaf,zad,zal,zam];refine tkY (v:=?_) 2 m rfl ?_ ?_
   rotate_left
   ·intro w z
    go_simp
    try with_reducible rfl
   simp only [Act.put,zaj,zae,zaf,zad,zal,zam];refine skY 3 m rfl ?_;simp only [Act.put,zaj,zae,zaf,zad,zal,zam];refine skY 4 m rfl ?_;simp only [Act.put,zaj,zae,zaf,zad,zal,zam];refine tkY (v:=?_) 5 m rfl ?_ ?_
   rotate_left
   ·intro w z
    go_simp
    try with_reducible rfl
   simp only [Act.put,zaj,zae,zaf,zad,zal,zam];refine tkY (v:=?_) 6 m rfl ?_ ?_
   rotate_left
   ·intro w z
    go_simp
    try with_reducible rfl
   simp only [Act.put,zaj,zae,zaf,zad,zal,zam];refine tkY (v:=?_) 7 m rfl ?_ ?_
   rotate_left
   ·intro w z
    go_simp
    try with_reducible rfl
   simp only [Act.put,zaj,zae,zaf,zad,zal,zam];refine tkY (v:=?_) 9 m rfl ?_ ?_
   rotate_left
   ·intro w z
    go_simp
    try with_reducible rfl
   simp only [Act.put,zaj,zae,zaf,zad,zal,zam];refine zbh (rs:=[8]) (by kernel_rfl) (by simp) ?_
   refine za5 rfl (fun E A=>?_) zbf
   go_simp
   go_wp2_with(go_at_call 21;refine(an.o _ aq.o).mono ?_;rintro e Wb ⟨vb,rfl,M,i⟩;have av:=ZZ M;have af:=ZZ i;clear M i)
   refine A.out _ _ (al.o _ af.o) (fun m=>?_)
   clear A E;refine zbh (rs:=[10]) (by kernel_rfl) (by simp) ?_
   refine za5 rfl (fun E A=>?_) zbf
   go_simp
   go_wp2_with(go_at_call 20;refine(am.o _ _ av.o af.o).mono ?_;rintro e Wc ⟨rfl,i⟩;have ae:=ZZ i;clear i)
   refine A.out _ _ (al.o _ ae.o) (fun m=>?_)
   clear A E;refine tkY (v:=?_) 11 m rfl ?_ ?_
   rotate_left
   ·intro w z
    go_simp
    try with_reducible rfl
   simp only [Act.put,zaj,zae,zaf,zad,zal,zam];refine tkY (v:=?_) 12 m rfl ?_ ?_
   rotate_left
   ·intro w z
    go_simp
    try with_reducible rfl
   simp only [Act.put,zaj,zae,zaf,zad,zal,zam];refine tkY (v:=?_) 13 m rfl ?_ ?_
   rotate_left
   ·intro w z
    go_simp
    try with_reducible rfl
   simp only [Act.put,zaj,zae,zaf,zad,zal,zam];refine tkY (v:=?_) 14 m rfl ?_ ?_
   rotate_left
   ·intro w z
    go_simp
    try with_reducible rfl
   simp only [Act.put,zaj,zae,zaf,zad,zal,zam];refine tkY (v:=?_) 16 m rfl ?_ ?_
   rotate_left
   ·intro w z
    go_simp
    try with_reducible rfl
   simp only [Act.put,zaj,zae,zaf,zad,zal,zam];refine zbh (rs:=[15]) (by kernel_rfl) (by simp) ?_
   refine za5 rfl (fun E A=>?_) zbf
   go_simp
   go_wp2_with(go_at_call 11;refine(a2.o _ ae.o).mono ?_;rintro e Wd ⟨rfl,i⟩;have aA:=ZZ i;clear i)
   refine A.out _ _ (al.o _ aA.o) (fun m=>?_)
   clear A E;refine zbh (rs:=[17]) (by kernel_rfl) (by simp) ?_
   refine za5 rfl (fun E A=>?_) zbf
   go_simp
   go_wp2_with(go_at_call 14;refine(ax.o _ aA.o).mono ?_;rintro e We ⟨rfl,i⟩;have aE:=ZZ i;clear i)
   refine A.out _ _ (al.o _ aE.o) (fun m=>?_)
   clear A E;refine tkY (v:=?_) 18 m rfl ?_ ?_
   rotate_left
   ·intro w z
    go_simp
    try with_reducible rfl
   simp only [Act.put,zaj,zae,zaf,zad,zal,zam];refine tkY (v:=?_) 19 m rfl ?_ ?_
   rotate_left
   ·intro w z
    go_simp
    try with_reducible rfl
   simp only [Act.put,zaj,zae,zaf,zad,zal,zam];refine zdu (by kernel_rfl) ?_ _
   go_wp2_with fail
   go_meet
   exact⟨by first | rfl | simp,aE⟩
  ·refine zdg (S:=fun W=>W.cell? ⟨D.heap.size,0,none⟩=some (.int .i64 mi)∧W.cell? ⟨D.heap.size,1,none⟩=some (.int .i64 mk)∧W.cell? ⟨D.heap.size,2,none⟩=some (.slice U P R)∧W.cell? ⟨D.heap.size,3,none⟩=some (.bool ms)∧W.cell? ⟨D.heap.size,4,none⟩=some (.int .i64 me)∧W.cell? ⟨D.heap.size,5,none⟩=some (.slice Q O zc)) (by kernel_rfl) (al.o _ aq.o) (fun m=>?_)
   refine tkY (v:=?_) 0 m rfl ?_ ?_
   rotate_left
   ·intro w z
    go_simp
    try with_reducible rfl
   simp only [Act.put,zaj,zae,zaf,zad,zal,zam];refine tkY (v:=?_) 1 m rfl ?_ ?_
   rotate_left
   ·intro w z
    go_simp
    try with_reducible rfl
   simp only [Act.put,zaj,zae,zaf,zad,zal,zam];refine tkY (v:=?_) 2 m rfl ?_ ?_
   rotate_left
   ·intro w z
    go_simp
    try with_reducible rfl
   simp only [Act.put,zaj,zae,zaf,zad,zal,zam];refine tkY (v:=?_) 3 m rfl ?_ ?_
   rotate_left
   ·intro w z
    go_simp
    try with_reducible rfl
   simp only [Act.put,zaj,zae,zaf,zad,zal,zam];refine tkY (v:=?_) 4 m rfl ?_ ?_
   rotate_left
   ·intro w z
    go_simp
    try with_reducible rfl
   simp only [Act.put,zaj,zae,zaf,zad,zal,zam];refine tkY (v:=?_) 5 m rfl ?_ ?_
   rotate_left
   ·intro w z
    go_simp
    try with_reducible rfl
   simp only [Act.put,zaj,zae,zaf,zad,zal,zam];refine tkY (v:=?_) 6 m rfl ?_ ?_
   rotate_left
   ·intro w z
    go_simp
    try with_reducible rfl
   simp only [Act.put,zaj,zae,zaf,zad,zal,zam];refine tkY (v:=?_) 7 m rfl ?_ ?_
   rotate_left
   ·intro w z
    go_simp
    try with_reducible rfl
   simp only [Act.put,zaj,zae,zaf,zad,zal,zam];refine tkY (v:=?_) 9 m rfl ?_ ?_
   rotate_left
   ·intro w z
    go_simp
    try with_reducible rfl
   simp only [Act.put,zaj,zae,zaf,zad,zal,zam];refine zbh (rs:=[8]) (by kernel_rfl) (by simp) ?_
   refine za5 rfl (fun E A=>?_) zbf
   go_simp
   go_wp2_with(go_at_call 21;refine(an.o _ aq.o).mono ?_;rintro e Wb ⟨vb,rfl,M,i⟩;have av:=ZZ M;have af:=ZZ i;clear M i)
   refine A.out _ _ (al.o _ af.o) (fun m=>?_)
   clear A E;refine zbh (rs:=[10]) (by kernel_rfl) (by simp) ?_
   refine za5 rfl (fun E A=>?_) zbf
   go_simp
   go_wp2_with(go_at_call 20;refine(am.o _ _ av.o af.o).mono ?_;rintro e Wc ⟨rfl,i⟩;have ae:=ZZ i;clear i)
   refine A.out _ _ (al.o _ ae.o) (fun m=>?_)
   clear A E;refine tkY (v:=?_) 11 m rfl ?_ ?_
   rotate_left
   ·intro w z
    go_simp
    try with_reducible rfl
   simp only [Act.put,zaj,zae,zaf,zad,zal,zam];refine tkY (v:=?_) 12 m rfl ?_ ?_
   rotate_left
   ·intro w z
    go_simp
    try with_reducible rfl
   simp only [Act.put,zaj,zae,zaf,zad,zal,zam];refine tkY (v:=?_) 13 m rfl ?_ ?_
   rotate_left
   ·intro w z
    go_simp
    try with_reducible rfl
   simp only [Act.put,zaj,zae,zaf,zad,zal,zam];refine tkY (v:=?_) 14 m rfl ?_ ?_
   rotate_left
   ·intro w z
    go_simp
    try with_reducible rfl
   simp only [Act.put,zaj,zae,zaf,zad,zal,zam];refine tkY (v:=?_) 16 m rfl ?_ ?_
   rotate_left
   ·intro w z
    go_simp
    try with_reducible rfl
   simp only [Act.put,zaj,zae,zaf,zad,zal,zam];refine zbh (rs:=[15]) (by kernel_rfl) (by simp) ?_
   refine za5 rfl (fun E A=>?_) zbf
   go_simp
   go_wp2_with(go_at_call 11;refine(a2.o _ ae.o).mono ?_;rintro e Wd ⟨rfl,i⟩;have aA:=ZZ i;clear i)
   refine A.out _ _ (al.o _ aA.o) (fun m=>?_)
   clear A E;refine zbh (rs:=[17]) (by kernel_rfl) (by simp) ?_
   refine za5 rfl (fun E A=>?_) zbf
   go_simp
   go_wp2_with(go_at_call 14;refine(ax.o _ aA.o).mono ?_;rintro e We ⟨rfl,i⟩;have aE:=ZZ i;clear i)
   refine A.out _ _ (al.o _ aE.o) (fun m=>?_)
   clear A E;refine tkY (v:=?_) 18 m rfl ?_ ?_
   rotate_left
   ·intro w z
    go_simp
    try with_reducible rfl
   simp only [Act.put,zaj,zae,zaf,zad,zal,zam];refine tkY (v:=?_) 19 m rfl ?_ ?_
   rotate_left
   ·intro w z
    go_simp
    try with_reducible rfl
   simp only [Act.put,zaj,zae,zaf,zad,zal,zam];refine zdu (by kernel_rfl) ?_ _
   go_wp2_with fail
   go_meet
   exact⟨by first | rfl | simp,aE⟩
 case rest=>
 obtain⟨rfl,aN⟩:=hcut;obtain⟨aM,es⟩:=zg7 wc;rw[<-es] at aN ⊢;have dm:=ZZ (a1.o.below aN.o);have dU:=ZZ (ci.o.below aN.o zL);have dY:Hid (Bn aM D.heap.size _):=ZZ (b9.o.below aN.o zL);have d6:=ZZ (cI.o.trans (aN.o.mono cI.o.size));have bj:Hid (WY.heap.size<=aM.heap.size):=ZZ (zau eq.o aN.o.size);have dn:=ZZ (dm.o.crashC 0 (.slice none 0 0) [] (RdI.nil _) (.inl rfl) (by decide) (by decide) (by decide))
 clear es a1 ci b9 al aq ax a2 an am aN cI eq
 go_wp2_with fail
 refine dn.o.mono ?_;rintro e bV ⟨rfl,ec,bi⟩;have da:=ZZ ec;have dv:=ZZ ((aB.o aM bV bj.o bi).1 dU.o);have en:=ZZ ((aB.o aM bV bj.o bi).2.1 dY.o);have c4:=ZZ ((aB.o aM bV bj.o bi).2.2 d6.o);have dT:Hid (∀ k,K8 k->k<bV.heap.size):=ZZ (fun k hk=>zay (bx.o k hk) (zau bj.o bi.size))
 clear ec bi dn dm dU dY d6 bj;have cL:Hid (SzD (Jc Z.1.2 0 []) 62 90000):=ZZ ((aK.o.szOpen (by have:=ai.o.1;omega)).crash 0 [])
 have dR:Hid (OkD (Jc Z.1.2 0 [])):=ZZ (aK.o.okd.crash 0 []);have c6:Hid (OkS (ZbA (Jc Z.1.2 0 []) kind)):=ZZ (Zfl T.o.1 T.o.2);have eb:=ZZ (da.o.openC kind dT.o (by decide) (by decide) cL.o (ZqN T.o.1 T.o.2 _ _ _))
 go_wp2_with fail
 refine eb.o.mono ?_;rintro e V ⟨q,rfl,du,-,cg⟩;have cA:=ZZ du;have c8:=ZZ (dv.o.below cg zL);have ek:Hid (Bn V D.heap.size _):=ZZ (en.o.below cg zL);have dc:=ZZ (c4.o.trans (cg.mono c4.o.size));clear du cg eb da dv en c4 dT
 have aD:Hid (∀ W,Below V.heap.size V W->W.cell? ⟨D.heap.size,0,none⟩=some (.int .i64 mi)∧W.cell? ⟨D.heap.size,1,none⟩=some (.int .i64 mk)∧W.cell? ⟨D.heap.size,2,none⟩=some (.slice U P R)∧W.cell? ⟨D.heap.size,3,none⟩=some (.bool ms)∧W.cell? ⟨D.heap.size,4,none⟩=some (.int .i64 me)∧W.cell? ⟨D.heap.size,5,none⟩=some (.slice Q O zc)):=ZZ (fun W C=>by
  have i:Bn W D.heap.size _:=ek.o.below C zL
  exact⟨(i.cell 0).1.trans rfl,(i.cell 1).1.trans rfl,(i.cell 2).1.trans rfl,(i.cell 3).1.trans rfl,(i.cell 4).1.trans rfl,(i.cell 5).1.trans rfl⟩)
 have aq:=ZZ (zac V.heap.size V).drew
 have an:Hid (∀ W,Below V.heap.size V W->Calls Tryz.prog 21 #[ptr q] W fun e w'=>∃ v,e=.returned v∧SnV w' v N∧Below V.heap.size V w'):=ZZ (fun W C=>by
  have G:=(cA.o.below C).nowC c6.o.now;rw[au.o.2.2.2.1,<-bC.o] at G;refine G.mono ?_;rintro e w' ⟨vl,vt,rfl,M,-,-,i⟩
  exact⟨_,rfl,M.snV,C.trans (i.mono C.size)⟩)
 have cF:Hid (f=0->∀ W,Below V.heap.size V W->Calls Tryz.prog 25 #[ptr q] W fun e w'=>∃ v,e=.returned v∧SnV w' v N∧Below V.heap.size V w'):=ZZ (fun hf W C=>by
  have G:=(cA.o.below C).baseC T.o.1 T.o.2 cL.o dR.o;rw[au.o.2.2.2.2 hf,<-bC.o] at G;refine G.mono ?_;rintro e w' ⟨vl,vt,rfl,M,-,-,i⟩
  exact⟨_,rfl,M.snV,C.trans (i.mono C.size)⟩)
 have am:Hid (∀ W v,SnV W v N->Below V.heap.size V W->Calls Tryz.prog 20 #[v,.agg #[.int .i64 mi,.int .i64 mk,.slice U P R,.bool ms,.int .i64 me,.slice Q O zc]] W fun e w'=>e=.returned (.bool true)∧Below V.heap.size V w'):=ZZ (fun W v hv C=>by
  have G:=ZiS v N _ N W hv (ca.o _ (c8.o.below C zL));rw[Zgj] at G
  exact G.mono fun e w' ⟨he,i⟩=>⟨he,C.trans (i.mono C.size)⟩)
 have ag:=ZZ (a3.o _ dc.o);clear cA c8 ek dc c6 cL dR aK bT ab bZ T ai c3 bu bS cp au bC aP ca dw bI aB bx
 go_upto_region 27 with fail
 rcases dE with rfl | rfl
 ·have ev:=ZZ (cF.o rfl)
  clear cF;refine zdg (S:=fun W=>W.cell? ⟨D.heap.size,0,none⟩=some (.int .i64 mi)∧W.cell? ⟨D.heap.size,1,none⟩=some (.int .i64 mk)∧W.cell? ⟨D.heap.size,2,none⟩=some (.slice U P R)∧W.cell? ⟨D.heap.size,3,none⟩=some (.bool ms)∧W.cell? ⟨D.heap.size,4,none⟩=some (.int .i64 me)∧W.cell? ⟨D.heap.size,5,none⟩=some (.slice Q O zc)) (by kernel_rfl) (aD.o _ aq.o) (fun m=>?_)
  refine tkY (v:=?_) 0 m rfl ?_ ?_
  rotate_left
  ·intro w z
   go_simp
   try with_reducible rfl
  simp only [Act.put,zaj,zae,zaf,zad,zal,zam];refine tkY (v:=?_) 2 m rfl ?_ ?_
  rotate_left
  ·intro w z
   go_simp
   try with_reducible rfl
  simp only [Act.put,zaj,zae,zaf,zad,zal,zam];refine zbh (rs:=[1]) (by kernel_rfl) (by simp) ?_
  refine za5 rfl (fun E A=>?_) zbf
  go_simp
  go_wp2_with(go_at_call 21;refine(an.o _ aq.o).mono ?_;rintro e Wb ⟨vb,rfl,M,i⟩;have av:=ZZ M;have af:=ZZ i;clear M i)
  refine A.out _ _ (aD.o _ af.o) (fun m=>?_)
  clear A E;refine zbh (rs:=[3]) (by kernel_rfl) (by simp) ?_
  refine za5 rfl (fun E A=>?_) zbf
  go_simp
  go_wp2_with(go_at_call 20;refine(am.o _ _ av.o af.o).mono ?_;rintro e Wc ⟨rfl,i⟩;have ae:=ZZ i;clear i)
  refine A.out _ _ (aD.o _ ae.o) (fun m=>?_)
  clear A E;refine tkY (v:=?_) 4 m rfl ?_ ?_
  rotate_left
  ·intro w z
   go_simp
   try with_reducible rfl
  simp only [Act.put,zaj,zae,zaf,zad,zal,zam];refine tkY (v:=?_) 5 m rfl ?_ ?_
  rotate_left
  ·intro w z
   go_simp
   try with_reducible rfl
  simp only [Act.put,zaj,zae,zaf,zad,zal,zam];refine tkY (v:=?_) 6 m rfl ?_ ?_
  rotate_left
  ·intro w z
   go_simp
   try with_reducible rfl
  simp only [Act.put,zaj,zae,zaf,zad,zal,zam];refine tkY (v:=?_) 7 m rfl ?_ ?_
  rotate_left
  ·intro w z
   go_simp
   try with_reducible rfl
  simp only [Act.put,zaj,zae,zaf,zad,zal,zam];refine tkY (v:=?_) 8 m rfl ?_ ?_
  rotate_left
  ·intro w z
   go_simp
   try with_reducible rfl
  simp only [Act.put,zaj,zae,zaf,zad,zal,zam];refine tkY (v:=?_) 10 m rfl ?_ ?_
  rotate_left
  ·intro w z
   go_simp
   try with_reducible rfl
  simp only [Act.put,zaj,zae,zaf,zad,zal,zam];refine zbh (rs:=[9]) (by kernel_rfl) (by simp) ?_
  refine za5 rfl (fun E A=>?_) zbf
  go_simp
  go_wp2_with(go_at_call 25;refine(ev.o _ ae.o).mono ?_;rintro e Wd ⟨vd,rfl,M,i⟩;have eA:=ZZ M;have aA:=ZZ i;clear M i)
  refine A.out _ _ (aD.o _ aA.o) (fun m=>?_)
  clear A E;refine zbh (rs:=[11]) (by kernel_rfl) (by simp) ?_
  refine za5 rfl (fun E A=>?_) zbf
  go_simp
  go_wp2_with(go_at_call 20;refine(am.o _ _ eA.o aA.o).mono ?_;rintro e We ⟨rfl,i⟩;have aE:=ZZ i;clear i)
  refine A.out _ _ (aD.o _ aE.o) (fun m=>?_)
  clear A E;refine tkY (v:=?_) 12 m rfl ?_ ?_
  rotate_left
  ·intro w z
   go_simp
   try with_reducible rfl
  simp only [Act.put,zaj,zae,zaf,zad,zal,zam];refine tkY (v:=?_) 13 m rfl ?_ ?_
  rotate_left
  ·intro w z
   go_simp
   try with_reducible rfl
  simp only [Act.put,zaj,zae,zaf,zad,zal,zam];refine tkY (v:=?_) 14 m rfl ?_ ?_
  rotate_left
  ·intro w z
   go_simp
   try with_reducible rfl
  simp only [Act.put,zaj,zae,zaf,zad,zal,zam];refine zdu (by kernel_rfl) ?_ _
  go_wp2;go_ret;exact⟨by first | rfl | simp,ag.o.trans (aE.o.mono (hS ag.o))⟩
 ·clear cF
  refine zdg (S:=fun W=>W.cell? ⟨D.heap.size,0,none⟩=some (.int .i64 mi)∧W.cell? ⟨D.heap.size,1,none⟩=some (.int .i64 mk)∧W.cell? ⟨D.heap.size,2,none⟩=some (.slice U P R)∧W.cell? ⟨D.heap.size,3,none⟩=some (.bool ms)∧W.cell? ⟨D.heap.size,4,none⟩=some (.int .i64 me)∧W.cell? ⟨D.heap.size,5,none⟩=some (.slice Q O zc)) (by kernel_rfl) (aD.o _ aq.o) (fun m=>?_)
  refine tkY (v:=?_) 0 m rfl ?_ ?_
  rotate_left
  ·intro w z
   go_simp
   try with_reducible rfl
  simp only [Act.put,zaj,zae,zaf,zad,zal,zam];refine tkY (v:=?_) 2 m rfl ?_ ?_
  rotate_left
  ·intro w z
   go_simp
   try with_reducible rfl
  simp only [Act.put,zaj,zae,zaf,zad,zal,zam];refine zbh (rs:=[1]) (by kernel_rfl) (by simp) ?_
  refine za5 rfl (fun E A=>?_) zbf
  go_simp
  go_wp2_with(go_at_call 21;refine(an.o _ aq.o).mono ?_;rintro e Wb ⟨vb,rfl,M,i⟩;have av:=ZZ M;have af:=ZZ i;clear M i)
  refine A.out _ _ (aD.o _ af.o) (fun m=>?_)
  clear A E;refine zbh (rs:=[3]) (by kernel_rfl) (by simp) ?_
  refine za5 rfl (fun E A=>?_) zbf
  go_simp
  go_wp2_with(go_at_call 20;refine(am.o _ _ av.o af.o).mono ?_;rintro e Wc ⟨rfl,i⟩;have ae:=ZZ i;clear i)
  refine A.out _ _ (aD.o _ ae.o) (fun m=>?_)
  clear A E;refine tkY (v:=?_) 4 m rfl ?_ ?_
  rotate_left
  ·intro w z
   go_simp
   try with_reducible rfl
  simp only [Act.put,zaj,zae,zaf,zad,zal,zam];refine tkY (v:=?_) 5 m rfl ?_ ?_
  rotate_left
  ·intro w z
   go_simp
   try with_reducible rfl
  simp only [Act.put,zaj,zae,zaf,zad,zal,zam];refine tkY (v:=?_) 6 m rfl ?_ ?_
  rotate_left
  ·intro w z
   go_simp
   try with_reducible rfl
  simp only [Act.put,zaj,zae,zaf,zad,zal,zam];refine tkY (v:=?_) 7 m rfl ?_ ?_
  rotate_left
  ·intro w z
   go_simp
   try with_reducible rfl
  simp only [Act.put,zaj,zae,zaf,zad,zal,zam];refine skY 8 m rfl ?_;simp only [Act.put,zaj,zae,zaf,zad,zal,zam];refine skY 9 m rfl ?_;simp only [Act.put,zaj,zae,zaf,zad,zal,zam];refine skY 10 m rfl ?_;simp only [Act.put,zaj,zae,zaf,zad,zal,zam];refine skY 11 m rfl ?_;simp only [Act.put,zaj,zae,zaf,zad,zal,zam];refine tkY (v:=?_) 12 m rfl ?_ ?_
  rotate_left
  ·intro w z
   go_simp
   try with_reducible rfl
  simp only [Act.put,zaj,zae,zaf,zad,zal,zam];refine tkY (v:=?_) 13 m rfl ?_ ?_
  rotate_left
  ·intro w z
   go_simp
   try with_reducible rfl
  simp only [Act.put,zaj,zae,zaf,zad,zal,zam];refine tkY (v:=?_) 14 m rfl ?_ ?_
  rotate_left
  ·intro w z
   go_simp
   try with_reducible rfl
  simp only [Act.put,zaj,zae,zaf,zad,zal,zam];refine zdu (by kernel_rfl) ?_ _
  go_wp2;go_ret;exact⟨by first | rfl | simp,ag.o.trans (ae.o.mono (hS ag.o))⟩
theorem own:ownKnob Tryz.prog.godebug=none:=by kernel_rfl
theorem laidOut:laidOutB Tryz.prog=true:=by kernel_rfl
set_option linter.unusedVariables false in
theorem lifted (os:Os) (ae:os.Started) (H:Type) (enc:TypeId × Value->H):
 ReturnsInHanded {} Tryz.checked os 5 .any (fun w args=>(Rows.storeFullSpec.pre enc Tryz.prog Tryz.f5 Rows.storeFullRow.domain false w args∧laidMetH Tryz.prog Rows.storeFullRow.laid w)∧sizedMet enc Tryz.prog Tryz.f5 (OpenSpec.ofChange Rows.storeFullSpec) false w args) (Rows.storeFullSpec.post enc Tryz.prog Tryz.f5 false true false false):=by
 refine returnsInHanded_of_change_and (C:=Tryz.checked) (X:=fun w _=>laidMetH Tryz.prog Rows.storeFullRow.laid w) (fun _ _ _ Z h=>h.of_heap Z) own ae (by kernel_rfl) Tryz.func5
  (ChangeSpec.witness_shaped (enc:=enc) (C:=Tryz.checked) (os:=os) (X:=fun w _=>laidMetH Tryz.prog Rows.storeFullRow.laid w) false (World.doorLaid Tryz.prog 400 os) #[.int .i64 0,.int .i64 0,.slice none 0 0,.agg #[.int .i64 0,.int .i64 0,.int .i64 0,.int .i64 0,.int .i64 0,.int .i64 0,.slice none 0 0,.slice none 0 0,.slice none 0 0]] 8 rfl (World.shaped_of_RefB (by kernel_rfl) (by kernel_rfl)) (by kernel_rfl) (by kernel_rfl) (by kernel_rfl) (ZyJ os _)) ?_
 intro W base args T gs ar F n al G hL _;have P:=ZZ G;clear G;have a:∀ (j:Nat) t v,Tryz.f5.params[j]?=some t->args[j]?=some v->Value.okWide Tryz.prog W .any base t v:=F;have U:=n;obtain⟨p,q,D,hV,rfl,aq,ai⟩:=n;have B:DataW.TrodAll enc Tryz.prog W 0 (fun _=>true) true Tryz.f5.params.toList args.toList T p:=D
 rw[Tryz.params5] at B a;obtain⟨y,am,d0,ak,p0,q0,av,rfl,rfl,h0,r0⟩:=zg1 B;obtain⟨i,ap,d1,af,p1,q1,rfl,rfl,rfl,h1,S⟩:=zg1 r0;obtain⟨A,au,d2,aj,p2,q2,rfl,rfl,rfl,u,V⟩:=zg1 S;obtain⟨I,ag,d3,an,R,q3,rfl,rfl,rfl,d,O⟩:=zg1 V;obtain⟨rfl,rfl,rfl⟩:=trodAll_nil O;obtain rfl:args=#[y,i,A,I]:=by cases args;simp_all
 obtain⟨rfl,rfl⟩:=trodVars_none hV;obtain⟨K,rfl,rfl,rfl,c⟩:=open_int Tryz.underlying3 (a 0 3 y rfl rfl) h0;obtain⟨a1,rfl,rfl,rfl,k⟩:=open_int Tryz.underlying3 (a 1 3 i rfl rfl) h1;obtain⟨M,ac,ad,rfl⟩:=okWide_slice Tryz.underlying22 (a 2 22 A rfl rfl);have J:=u;have aa:∀ x ∈ p2,x.block<W.heap.size:=by obtain⟨m,b⟩:=J;exact DataW.trod_lt m _ _ _ b
 obtain⟨Y,w2⟩:∃ l,RdS W (.slice M ac ad) l∧l.length<=1172812402926:=by
  obtain⟨fuel,f⟩:=u;have ao:=ZyH (j:=2) (by simpa[Value.cells] using f) P.o rfl rfl
  obtain⟨v,l,z,g⟩:=Zwp f;simp[Value.cells] at z;subst z;obtain⟨_,_,L,-⟩:=id g;simp at L;exact⟨l,g,by omega⟩
 have E:=d;have ab:∀ x ∈ R,x.block<W.heap.size:=by obtain⟨m,b⟩:=E;exact DataW.trod_lt m _ _ _ b
 obtain⟨Q,N⟩:=ZyG (a 3 55 I rfl rfl) d;clear D F;refine(walk K a1 _ Y _ Q W c k w2 N (tabs hL)).mono fun e W' ⟨he,bel⟩=>?_
 subst he;exact⟨_,rfl,_,_,_,[],_,[],U,trodAll_mk1 (shut_bool Tryz.underlying4 _),(zgb (shut_int Tryz.underlying3 c) (zgb (shut_int Tryz.underlying3 k) (zgb (Below.trod laidOut (by kernel_rfl) (zcm (by kernel_rfl)) J bel aa) (zgb (Below.trod laidOut (by kernel_rfl) (zcm (by kernel_rfl)) E bel ab) trodAll_mk0)))),rfl,bel.frame _,fun h=>by cases h⟩
theorem over:Rows.storeFullRow.holds Tryz.pinned (OpenSpec.ofChange Rows.storeFullSpec):=
 OpenClaim.holds_of_wide 5 Tryz.f5 rfl rfl rfl rfl rfl rfl rfl ⟨rfl,rfl,rfl,rfl,rfl⟩ rfl rfl rfl rfl rfl (by kernel_rfl) Tryz.func5 (by kernel_rfl)
  (zcm (by kernel_rfl)) (by unfold Func.isWrapper;first | (rw[zab (by decide +kernel)];kernel_rfl) | (rw[zaa (by decide +kernel)];exact⟨rfl,rfl⟩))
  (fun os a H enc _=>lifted os a H enc)
end Go.Proofs.YtnahjngbneicaaaGreatDoor.storeFull
namespace Go.Proofs.YtnahjngbneicaaaGreatDoor
theorem storeFull_holds:Rows.StoreFullCardSaid:=
 Claim7.holds_tied_plain_at .later [] _ _ _ _ storeFull.over (fun _ h=>by cases h) (by kernel_rfl) (fun _ h=>by cases h) storeFull_row_tie rfl ⟨rfl,rfl⟩ (by kernel_rfl) rfl
  (fun f fn d e=>by
   obtain rfl : f = 5 := Option.some.inj ((show Tryz.prog.funcNamed "ferryman/ferrymanlaw12.StoreFull" = some 5 by kernel_rfl).symm.trans d) |>.symm
   obtain rfl:fn=Tryz.f5:=(zaq (Tryz.func5.symm.trans e)).symm
   exact⟨by kernel_rfl,fun j t a=>by
    rw[Tryz.params5] at a;have c:t ∈ [3,3,22,55]:=by simpa using Array.mem_of_getElem? a
    have b:([3,3,22,55].all fun u=>!Tryz.prog.wantsStandIn u)=true:=by kernel_rfl
    exact(show Tryz.prog.wantsStandIn t=false by simpa using List.all_eq_true.1 b t c)⟩)
  (by kernel_rfl)
end Go.Proofs.YtnahjngbneicaaaGreatDoor
