import Derived.Test.YtnahjngbneicaaaGreatDoorPack11
namespace Go.Proofs.YtnahjngbneicaaaGreatDoor
open _root_.Go.Proofs.Tryz
open List (drop_drop length_append length_drop mem_cons mem_of_mem_take)
set_option maxHeartbeats 8000000
set_option maxRecDepth 100000
open Go.RowKit
variable {d e v v' x:Value} {G T b k n u:Nat} {W W' X w w':World} {R l m m':List UInt8} {cs:Array Value} {a c g kd:Int} {xs:List Int}
theorem ZlB {K:Nat->Prop} {pd p:Nat} {s:Sto} {d:Dk} {N:Nat} (vl:Value) (l:List Rec) (w:World) (h:SD K w pd p s d N T) (hK:∀ k,K k->k<w.heap.size) (C:OkS s) (hr:RdR w vl l) (aD:l=[]∨∀ k,vl.ownBlock=some k->K k)
 (a2:s.log.pcs.length<=500000) (bd:s.log.recs.length<=5000000) (hN:N<=900000) (hT:T<=900000000):
 Calls prog 22 #[ptr p,vl] w fun e w'=>Zff K w pd p (Zbz l (s,d)) (N+2) (T+30000) e w':=by
 have ax:=ZZ (ZeP vl l w hr);have HS:=ZZ h;have HK:=ZZ hK
 have aO:Hid (∀ W,Below w.heap.size w W->Calls prog 14 #[ptr p] W fun e w'=>e=.returned (.int .i64 s.next)∧Below w.heap.size w w'):=ZZ (fun W f=>((HS.o.below f).next C.num).mono (by
  rintro e w' ⟨rfl,x⟩
  exact⟨rfl,f.trans (x.mono f.size)⟩))
 obtain⟨U,ap⟩:∃ U,U=Zbz l (s,d):=⟨_,rfl⟩;rw[<-ap];have aP:=ZZ ap;have aV:Hid (∀ W c,Below w.heap.size w W->Zff K w pd p ((s,d),c) (N+2) (T+30000) (.returned (.int .i64 c)) W):=ZZ (fun W c f=>⟨rfl,(HS.o.below f).mono (by omega) (by omega),Zap.ofBelow f⟩)
 by_cases m:ZbE l
 case neg=>
  rw[decide_eq_false m] at ax;have HR:Hid (U=((s,d),1)):=ZZ (by rw[aP.o];unfold Zbz;rw[if_pos m])
  obtain⟨ra,rc,rfl,-⟩:=hr;clear h hK C aD ap m
  go_enter func22,ntmps22
  go_wp2_with fail
  refine ax.o.mono ?_;rintro e W1 ⟨rfl,z⟩;have aY:=ZZ z;clear z;go_wp2;go_ret;rw[HR.o];exact aV.o W1 1 aY.o
 rw[decide_eq_true m] at ax;have bm:=ZZ hr;have bG:=ZZ aD;have aJ:1<=l.length:=m.1;have bh:l.length<=256:=m.2.1;obtain⟨ra,rc,rfl,bv,bu,-,bb,bM⟩:=hr;rcases bM with h0 | ⟨b,au,rfl,aC⟩
 ·rw[h0] at aJ;simp at aJ
 have aF:l.getD 0 Zaj=l.headD Zaj:=by cases l <;> rfl
 have ab:Hid (∀ W,Below w.heap.size w W->W.cell? ⟨b,au,none⟩=some (.int .i64 (l.headD Zaj).idx)):=ZZ (fun W f=>by
  have i:=(aC 0 (by omega)).keep (f.block b (aC 0 (by omega)).lt)
  have h1:=i.1;rw[aF,Nat.zero_mul,Nat.add_zero] at h1
  exact h1)
 have aM:Hid (∀ W,Below w.heap.size w W->Below w.heap.size w W.drew):=ZZ (fun W f=>f.drew)
 by_cases Q:(l.headD Zaj).idx=s.next
 case neg=>
  have HR:Hid (U=((s,d),15)):=ZZ (by rw[aP.o];unfold Zbz;rw[if_neg (fun t=>t m),if_pos Q])
  have aa:((l.headD Zaj).idx != s.next)=true:=by rw[bne_iff_ne];exact Q
  have bL:(0:Int)<(l.length:Int):=by omega
  generalize s.next=nx at *;generalize (l.headD Zaj).idx=Y at *;clear h hK C aD ap m aC aF bb Q
  go_enter func22,ntmps22
  go_wp2_with fail
  refine ax.o.mono ?_;rintro e W1 ⟨rfl,z⟩;have aY:=ZZ z;have ag:=ZZ (aM.o W1 z);clear z
  go_upto_region 3 with fail
  go_cut[12] (fun v wc=>v=.bool true∧Hid (Below w.heap.size w wc))
  case first=>
   go_region_held(fun W=>W.cell? ⟨b,au,none⟩=some (.int .i64 Y))
    (first | (with_reducible exact ab.o _ ag.o) | (with_reducible exact ab.o _ B.o))
    (first | (go_at_call 14;refine(aO.o _ ag.o).mono ?_;rintro e W2 ⟨rfl,af⟩;have B:=ZZ af;clear af))
   all_goals
    go_wp2_with fail
    go_meet
    exact⟨by first | rfl | (rw[aa]),B⟩
  case rest=>
   obtain⟨rfl,HB⟩:=hcut;go_wp2;go_ret;rw[HR.o];exact aV.o _ 15 HB.o
 have aa:((l.headD Zaj).idx != s.next)=false:=by rw[Q];simp
 have aS:ZaA (l.headD Zaj):=by
  rw[<-aF];rw[show l.getD 0 Zaj=l[0]'(by omega) by simp[List.getD,show 0<l.length by omega]]
  exact m.2.2.1 _ (List.getElem_mem _)
 have ba:0<=s.next:=by rw[<-Q];exact aS.2.1
 have aX:s.next<4611686018427387904:=by rw[<-Q];exact aS.2.2.1
 have aR:0<=s.now.st.kind∧s.now.st.kind<6:=⟨C.now.1.2.2.2.1,C.now.1.2.2.2.2.1⟩;have bk:=Zvn m aR aX;obtain⟨g,aq⟩:∃ g,g=ZfL s d:=⟨_,rfl⟩;obtain⟨BA,ad⟩:∃ BA,BA=Zew s l:=⟨_,rfl⟩;obtain⟨⟨D,c⟩,hD⟩:∃ r,r=ZaK d g BA:=⟨_,rfl⟩
 have a6:I64 g:=by
  rw[aq];unfold ZfL;split
  ·obtain⟨F,M,I,L,⟨L1,g1,g2,-⟩,-⟩:=h
   exact Zgf g2 2 (by decide) (by decide)
  ·exact C.cu
 have aw:Hid (U=if c=0 then((Zcf s g l,D),0) else((s,D),c)):=ZZ (by
  rw[aP.o];unfold Zbz;rw[if_neg (fun t=>t m),if_neg (fun t=>t Q)]
  dsimp only
  rw[<-aq,<-ad,<-hD])
 have a8:Hid (∀ W,Below w.heap.size w W->Calls prog 49 #[.slice (some ⟨b,au,none⟩) l.length rc] W fun e w'=>∃ v',e=.returned v'∧Own w' w.heap.size v' (Zad (ZdF l))∧Below w.heap.size w w'):=ZZ (fun W f=>(ZmA _ l W (bm.o.below f zL) m (by have:=Zqs m;omega)).mono (by
  rintro e w' ⟨v',rfl,j,x⟩
  exact⟨v',rfl,j.mono f.size,f.trans (x.mono f.size)⟩))
 have J:Hid (∀ W,Below w.heap.size w W->W.cell? ⟨p,0,none⟩=some (ptr pd)∧W.cell? ⟨p,12,none⟩=some (.int .i64 s.cur)):=ZZ (fun W f=>by
  obtain⟨⟨c0,-,bE,-⟩,-⟩:=(HS.o.below f).cells
  exact⟨c0,bE⟩)
 have be:Hid (∀ vB W,Own W w.heap.size vB BA->Below w.heap.size w W->Calls prog 52 #[ptr pd,.int .i64 g,vB] W fun e w'=>e=.returned (.int .i64 c)∧SD K w' pd p s D (N+2) (T+30000)∧Zap (fun k=>¬ K k) w w'):=ZZ (fun vB W j f=>by
  refine((HS.o.fresh f).disk (c:=c) (d':=D) (N':=N+2) (T':=T+30000) (fun k hk=>?_) (fun F hF bR=>?_)).mono ?_
  ·rcases hk with hk | hk
   ·exact Nat.lt_of_lt_of_le (HK.o k hk) f.size
   ·exact hk.2
  ·have:=ZmS g a6 vB BA W hF j.rd (.inr fun k hk m=>bR k m (.inr ⟨(World.ownsRow.lt j k hk).1,(World.ownsRow.lt j k hk).2⟩)) (by omega) (by omega) (by rw[ad];omega)
   rw[<-hD] at this;refine this.mono ?_;rintro e w' ⟨g0,F',g1,g2⟩;exact⟨g0,F',g1.mono zL (by rw[ad];omega),g2⟩
  ·rintro e w' ⟨he,Z,bS⟩
   exact⟨he,Z.less (fun k hk=>.inl hk),(Zap.ofBelow f).trans (bS.mono (fun k hk hn=>hk (.inl hn))) (fun _ _ t=>t)⟩)
 have E:Hid (∀ W,Zap (fun k=>¬ K k) w W->RdR W (.slice (some ⟨b,au,none⟩) l.length rc) l∧∀ k,K k->k<W.heap.size):=ZZ (fun W j=>⟨bm.o.keepK bG.o j,fun k hk=>Nat.lt_of_lt_of_le (HK.o k hk) j.size⟩)
 have G:=ZZ C;have aI:=ZZ (And.intro a2 bd);have aU:=ZZ (And.intro aJ bh);have bL:(0:Int)<(l.length:Int):=by omega
 have b9:(l.length:Int)<=256:=by omega
 by_cases y:s.cur=0
 ·have aT:(s.cur == 0)=true:=by rw[y];rfl
  have av:Hid (g=Zbf d 2):=ZZ (by rw[aq];unfold ZfL;rw[if_pos y])
  have aZ:Hid (BA=Zad (ZbC 3 s.now.st.kind.toNat s.next.toNat)++Zad (ZdF l)):=ZZ (by rw[ad];unfold Zew;rw[if_pos y])
  have bY:Hid ((Zad (ZbC 3 s.now.st.kind.toNat s.next.toNat)).length+(Zad (ZdF l)).length<=70368744177664):=ZZ (by
   rw[<-length_append,<-aZ.o,ad]
   omega)
  have b0:Hid (∀ W,Below w.heap.size w W->Calls prog 50 #[ptr p,.int .i64 2] W fun e w'=>e=.returned (.int .i64 g)∧Below w.heap.size w w'∧Below W.heap.size W w'):=ZZ (fun W f=>by
   obtain⟨F,M,I,L,h1,h2,-⟩:=HS.o.below f;rw[av.o];refine(Zjn 2 W h2 h1 (by omega) (by decide) (by decide)).mono ?_
   rintro e w' ⟨rfl,x⟩
   exact⟨rfl,f.trans (x.mono f.size),x⟩)
  have bT:Hid (∀ W,Below w.heap.size w W->Calls prog 51 #[ptr p] W fun e w'=>∃ v',e=.returned v'∧Own w' w.heap.size v' (Zad (ZbC 3 s.now.st.kind.toNat s.next.toNat))∧Below w.heap.size w w'∧Below W.heap.size W w'):=ZZ (fun W f=>by
   obtain⟨F,M,I,L,h1,h2,-⟩:=HS.o.below f;refine(ZoD W h2 C.num aR aX ba).mono ?_;rintro e w' ⟨v',rfl,j,x⟩
   exact⟨v',rfl,j.mono f.size,f.trans (x.mono f.size),x⟩)
  have bg:Hid (∀ W,SD K W pd p { s with log:=(s.log.start g s.next).add l,now:=(ZaQ s.now l).1,cur:=g,nw:=true } D (N+2) (T+30000)->Zap (fun k=>¬ K k) w W->c=0->Zff K w pd p U (N+2) (T+30000) (.returned (.int .i64 0)) W):=ZZ (fun W Z j i=>by
   rw[aw.o,if_pos i];refine⟨rfl,?_,j⟩;have e1:Zcf s g l={ s with log:=(s.log.start g s.next).add l,now:=(ZaQ s.now l).1,cur:=g,nw:=true }:=by unfold Zcf;rw[if_pos y,if_pos y]
   rw[e1]
   exact Z)
  have bj:Hid (∀ W,SD K W pd p s D (N+2) (T+30000)->Zap (fun k=>¬ K k) w W->c≠0->Zff K w pd p U (N+2) (T+30000) (.returned (.int .i64 c)) W):=ZZ (fun W Z j i=>by
   rw[aw.o,if_neg i]
   exact⟨rfl,Z,j⟩)
  have bC:Hid (s.cur≠0->s.log.pcs.length≠0):=ZZ C.cur;have bA:=ZZ y;obtain⟨nx,ao⟩:∃ nx,nx=s.next:=⟨_,rfl⟩;obtain⟨Y,ay⟩:∃ Y,Y=(l.headD Zaj).idx:=⟨_,rfl⟩;rw[<-ao] at aO aa;rw[<-ay] at ab aa;have a0:=ZZ ao;obtain⟨A,ai⟩:∃ A,A=s.cur:=⟨_,rfl⟩;rw[<-ai] at J aT;have bl:=ZZ ai;clear ai;clear h hK C aD ap m aC aF bb Q ao ay hD ad aq y aP aw aS bk a6 aR ba aX a2 bd bv bu aJ bh aV
  go_enter func22,ntmps22
  go_wp2_with fail
  refine ax.o.mono ?_;rintro e W1 ⟨rfl,z⟩;have aY:=ZZ z;have ag:=ZZ (aM.o W1 z);clear z
  go_upto_region 3 with fail
  go_cut[12] (fun v wc=>v=.bool false∧Hid (Below w.heap.size w wc))
  case first=>
   go_region_held(fun W=>W.cell? ⟨b,au,none⟩=some (.int .i64 Y))
    (first | (with_reducible exact ab.o _ ag.o) | (with_reducible exact ab.o _ B.o))
    (first | (go_at_call 14;refine(aO.o _ ag.o).mono ?_;rintro e W2 ⟨rfl,af⟩;have B:=ZZ af;clear af))
   all_goals
    go_wp2_with fail
    go_meet
    exact⟨by first | rfl | (rw[aa]),B⟩
  case rest=>
  obtain⟨W2,rfl⟩:∃ W,W=wc:=⟨_,rfl⟩;obtain⟨rfl,B⟩:=hcut;have aA:=ZZ (aM.o W2 B.o)
  go_upto_region 5 with fail
  go_cut[5,6] (fun v5 v6 wc=>v5=.int .i64 A∧(∃ a n c,v6=.slice a n c)∧Hid (Own wc w.heap.size v6 (Zad (ZdF l)))∧Hid (Below w.heap.size w wc))
  case first=>
   go_region_held(fun W=>W.cell? ⟨p,12,none⟩=some (.int .i64 A))
    (first | (with_reducible exact(J.o _ aA.o).2) | (with_reducible exact(J.o _ H.o).2))
    (first | (go_at_call 49;refine(a8.o _ aA.o).mono ?_;rintro e X ⟨v3,rfl,ak,aB⟩;have aj:=ZZ ak;have H:=ZZ aB;obtain⟨z1,z2,z3,hz⟩:∃ a n c,v3=Value.slice a n c:=(by obtain⟨a,c,t⟩:=ak.shape;exact⟨a,_,c,t⟩);subst hz;clear ak aB))
   all_goals
    go_wp2_with fail
    go_meet
    exact⟨rfl,⟨_,_,_,rfl⟩,aj,H⟩
  case rest=>
  obtain⟨X,rfl⟩:∃ W,W=wc:=⟨_,rfl⟩;obtain⟨rfl,⟨z1,z2,z3,rfl⟩,aj,H⟩:=hcut;obtain⟨q0,aH⟩:=J.o X H.o
  go_wp2_with fail
  refine(b0.o X H.o).mono ?_;rintro e W4 ⟨rfl,bz,bq⟩;have bQ:=ZZ bz;have b1:=ZZ bq;clear bq;have b8:Hid (Own W4 w.heap.size (.slice z1 z2 z3) (Zad (ZdF l))):=ZZ (aj.o.below (show Below X.heap.size X W4 from b1.o) zL);clear bz q0 aH
  go_wp2_with fail
  refine(bT.o W4 bQ.o).mono ?_;rintro e W5 ⟨v5,rfl,a5,a4,bx⟩;have b2:=ZZ a4;have bV:=ZZ bx;clear bx;have bK:=ZZ a5;have bO:Hid (Rd W5 (.slice z1 z2 z3) (Zad (ZdF l))):=ZZ (b8.o.rd.below (show Below W4.heap.size W4 W5 from bV.o) zL);have bX:Hid (w.heap.size<=W5.heap.size):=ZZ a4.size
  obtain⟨y1,y2,y3,hy⟩:∃ a n c,v5=Value.slice a n c:=by
   obtain⟨a,c,t⟩:=a5.shape;exact⟨a,_,c,t⟩
  subst hy;clear a5 a4
  go_wp2_with(at_builtin;refine ZaE _ rfl _ _ rfl w.heap.size _ _ rfl bK.o _ (Zad (ZdF l)) rfl bO.o bY.o bX.o ?_)
  intro v6 W6 aW bB;rw[<-aZ.o] at aW;have bN:=ZZ aW;have bw:Hid (Below w.heap.size w W6):=ZZ (b2.o.trans bB)
  obtain⟨x1,x2,x3,b3⟩:∃ a n c,v6=Value.slice a n c:=by
   obtain⟨a,c,t⟩:=aW.shape;exact⟨a,_,c,t⟩
  subst b3;obtain⟨q0,aH⟩:=J.o W6 bw.o;clear aW bB
  go_wp2_with fail
  refine(be.o _ W6 bN.o bw.o).mono ?_;rintro e u ⟨rfl,an,aG⟩;have ah:=ZZ an;have ar:=ZZ aG;obtain⟨⟨-,-,P,ae⟩,S⟩:=an.cells;clear an aG q0 aH;by_cases i:c=0
  case neg=>
   have bP:(c != 0)=true:=by rw[bne_iff_ne];exact i
   have HE:=ZZ (bj.o u ah.o ar.o i);clear i S P ae;go_wp2;go_ret;exact HE.o
  have bJ:=ZZ i;subst i;rw[<-bl.o] at P;have bI:=ZZ (ah.o.next G.o.num);rw[<-a0.o] at bI
  have bW:Hid (∀ W,Below u.heap.size u W->Calls prog 53 #[.pointer (some ⟨p,1,none⟩),.int .i64 g,.int .i64 nx] W fun e w'=>e=.returned (.tuple #[])∧SD K w' pd p { s with log:=s.log.start g s.next } D (N+2) (T+30000)∧Zap (fun k=>¬ K k) w w'):=ZZ (fun W f=>by
   have x:=(ah.o.below f).begin (fun k hk=>Nat.lt_of_lt_of_le ((E.o u ar.o).2 k hk) f.size) g nx (by have:=aI.o.1;omega)
   rw[a0.o] at x ⊢;refine x.mono ?_;rintro e w' ⟨he,h2,h3⟩
   exact⟨he,h2,(ar.o.trans (Zap.ofBelow (F:=fun _=>False) f) (fun _ _ h=>h.elim)).trans h3 (fun _ _ h=>h)⟩)
  have b5:Hid (Below u.heap.size u u.drew):=ZZ (Below.refl _ _).drew
  have bU:Hid (∀ W,Below u.heap.size u W->Calls prog 14 #[ptr p] W fun e w'=>e=.returned (.int .i64 nx)∧Below u.heap.size u w'):=ZZ (fun W f=>by
   rw[a0.o];refine((ah.o.below f).next G.o.num).mono ?_;rintro e w' ⟨rfl,x⟩
   exact⟨rfl,f.trans (x.mono f.size)⟩)
  go_upto_region 12 with fail
  go_cut[] (fun wc=>Hid (SD K wc pd p { s with log:=s.log.start g s.next } D (N+2) (T+30000)∧Zap (fun k=>¬ K k) w wc))
  case first=>
   go_region_with
    (first
     | (go_at_call 14;refine(bU.o _ (by first | exact b5.o | exact Below.refl _ _)).mono ?_;rintro e W8 ⟨rfl,bp⟩;have bZ:=ZZ bp;clear bp)
     | (go_at_call 53;refine(bW.o W8 bZ.o).mono ?_;rintro e W9 ⟨rfl,bn,bt⟩;have ac:=ZZ (And.intro bn bt);clear bn bt))
   all_goals
    go_wp2_with fail
    go_meet
    exact ac
  case rest=>
  obtain⟨W9,rfl⟩:∃ W,W=wc:=⟨_,rfl⟩;have ac:=hcut;clear hcut S P ae;obtain⟨⟨-,-,P,ae⟩,S⟩:=ac.o.1.cells;have bH:=S 12;have bF:=S 13;have bi:=ZZ (((ac.o.1.setHead (s':={ s with log:=s.log.start g s.next,cur:=g }) (E.o W9 ac.o.2).2 12 (.int .i64 g) rfl rfl rfl (fun _=>rfl))))
  have a7:=ZZ (bi.o.1.setHead (s':={ s with log:=s.log.start g s.next,cur:=g,nw:=true }) (fun k hk=>by have:=(E.o W9 ac.o.2).2 k hk;simpa using this) 13 (.bool true) rfl rfl rfl (fun _=>rfl))
  obtain⟨V,bf⟩:∃ V,V=(W9.setCell ⟨p,12,none⟩ (.int .i64 g)).setCell ⟨p,13,none⟩ (.bool true):=⟨_,rfl⟩;have R:Hid (SD K V pd p { s with log:=s.log.start g s.next,cur:=g,nw:=true } D (N+2) (T+30000)∧Zap (fun k=>¬ K k) w V):=ZZ (by rw[bf];exact⟨a7.o.1,(ac.o.2.trans bi.o.2 (fun _ _ h=>h)).trans a7.o.2 (fun _ _ h=>h)⟩)
  have bo:({ s with log:=s.log.start g s.next }:Sto).cur=A:=bl.o.symm
  rw[bo] at P;have bD:({ s with log:=s.log.start g s.next }:Sto).nw=s.nw:=rfl
  rw[bD] at ae;clear bo bD S
  go_upto_region 14 with fail
  rw[<-bf];clear bf P ae bH bF ac bi a7
  have aL:=ZZ (R.o.1.add (E.o V R.o.2).2 _ l (E.o V R.o.2).1 (by simp[Lgb.start]) (by have:=aI.o.1;simp[Lgb.start];omega) (by have:=aI.o.2;have:=aU.o.2;show s.log.recs.length+l.length<=_;omega) (fun q hq=>by
   have bc:=G.o.log.start g s.next (by have:=G.o.log.f0;have:=ZfV G.o.log.ch;show 0<=s.log.next;omega) G.o.log.top (.inr rfl)
   have:=Zfb bc.ch q hq;have:=bc.f0;have:=bc.top
   omega))
  go_wp2_with fail
  refine aL.o.mono ?_;rintro e O ⟨rfl,aQ,aE⟩;have a1:Hid (SD K O pd p { s with log:=(s.log.start g s.next).add l,cur:=g,nw:=true } D (N+2) (T+30000)):=ZZ aQ
  have am:Hid (Zap (fun k=>¬ K k) w O):=ZZ (R.o.2.trans aE (fun _ _ h=>h))
  clear aQ aE aL;obtain⟨la,ln,lc,ta,tn,tc,⟨c5,c6,c7,c8,c9,a3⟩,aN⟩:=a1.o.takes (E.o O am.o).2 G.o.now _ l (E.o O am.o).1 (by have:=aU.o.2;omega)
  have al:=ZZ aN;clear aN
  dsimp only at c5 c6 c8 c9 al
  go_wp2_with fail
  refine al.o.mono ?_;rintro e WC ⟨xa,xn,xc,ua,un,uc,rfl,⟨e5,e6,e7,e8,e9,b7⟩,fz,az,aK⟩;have a9:=ZZ (bg.o _ az (am.o.trans aK (fun _ _ h=>h)) (by first | rfl | trivial))
  have f5:=fz 5;have f6:=fz 6;have f7:=fz 7;have f8:=fz 8;have f9:=fz 9;have b6:=fz 10;clear az aK fz c5 c6 c7 c8 c9 a3 al;generalize ZaQ s.now l=tk at *;go_wp2;go_ret;exact a9.o
 ·have aT:(s.cur == 0)=false:=beq_eq_false_iff_ne.2 y
  have av:Hid (g=s.cur):=ZZ (by rw[aq];unfold ZfL;rw[if_neg y])
  have aZ:Hid (BA=Zad (ZdF l)):=ZZ (by rw[ad];unfold Zew;rw[if_neg y])
  rw[<-aZ.o] at a8;rw[<-av.o] at J
  have bg:Hid (∀ W,SD K W pd p { s with log:=s.log.add l,now:=(ZaQ s.now l).1 } D (N+2) (T+30000)->Zap (fun k=>¬ K k) w W->c=0->Zff K w pd p U (N+2) (T+30000) (.returned (.int .i64 0)) W):=ZZ (fun W Z j i=>by
   rw[aw.o,if_pos i];refine⟨rfl,?_,j⟩;have e1:Zcf s g l={ s with log:=s.log.add l,now:=(ZaQ s.now l).1 }:=by unfold Zcf;rw[if_neg y,if_neg y,av.o]
   rw[e1]
   exact Z)
  rw[<-av.o] at aT
  have bj:Hid (∀ W,SD K W pd p s D (N+2) (T+30000)->Zap (fun k=>¬ K k) w W->c≠0->Zff K w pd p U (N+2) (T+30000) (.returned (.int .i64 c)) W):=ZZ (fun W Z j i=>by
   rw[aw.o,if_neg i]
   exact⟨rfl,Z,j⟩)
  have bC:Hid (s.cur≠0->s.log.pcs.length≠0):=ZZ C.cur;have bA:=ZZ y;obtain⟨nx,ao⟩:∃ nx,nx=s.next:=⟨_,rfl⟩;obtain⟨Y,ay⟩:∃ Y,Y=(l.headD Zaj).idx:=⟨_,rfl⟩;rw[<-ao] at aO aa;rw[<-ay] at ab aa;have a0:=ZZ ao;obtain⟨A,ai⟩:∃ A,A=g:=⟨_,rfl⟩;have b4:Hid (s.cur=A):=ZZ (by rw[ai,av.o])
  rw[<-ai] at J aT be;clear ai;clear h hK C aD ap m aC aF bb Q ao ay hD ad aq y aP aw aS bk a6 aR ba aX a2 bd bv bu aJ bh aV
  go_enter func22,ntmps22
  go_wp2_with fail
  refine ax.o.mono ?_;rintro e W1 ⟨rfl,z⟩;have aY:=ZZ z;have ag:=ZZ (aM.o W1 z);clear z
  go_upto_region 3 with fail
  go_cut[12] (fun v wc=>v=.bool false∧Hid (Below w.heap.size w wc))
  case first=>
   go_region_held(fun W=>W.cell? ⟨b,au,none⟩=some (.int .i64 Y))
    (first | (with_reducible exact ab.o _ ag.o) | (with_reducible exact ab.o _ B.o))
    (first | (go_at_call 14;refine(aO.o _ ag.o).mono ?_;rintro e W2 ⟨rfl,af⟩;have B:=ZZ af;clear af))
   all_goals
    go_wp2_with fail
    go_meet
    exact⟨by first | rfl | (rw[aa]),B⟩
  case rest=>
  obtain⟨W2,rfl⟩:∃ W,W=wc:=⟨_,rfl⟩;obtain⟨rfl,B⟩:=hcut;have aA:=ZZ (aM.o W2 B.o)
  go_upto_region 5 with fail
  go_cut[5,6] (fun v5 v6 wc=>v5=.int .i64 A∧(∃ a n c,v6=.slice a n c)∧Hid (Own wc w.heap.size v6 BA)∧Hid (Below w.heap.size w wc))
  case first=>
   go_region_held(fun W=>W.cell? ⟨p,12,none⟩=some (.int .i64 A))
    (first | (with_reducible exact(J.o _ aA.o).2) | (with_reducible exact(J.o _ H.o).2))
    (first | (go_at_call 49;refine(a8.o _ aA.o).mono ?_;rintro e X ⟨v3,rfl,ak,aB⟩;have aj:=ZZ ak;have H:=ZZ aB;obtain⟨z1,z2,z3,hz⟩:∃ a n c,v3=Value.slice a n c:=(by obtain⟨a,c,t⟩:=ak.shape;exact⟨a,_,c,t⟩);subst hz;clear ak aB))
   all_goals
    go_wp2_with fail
    go_meet
    exact⟨rfl,⟨_,_,_,rfl⟩,aj,H⟩
  case rest=>
  obtain⟨X,rfl⟩:∃ W,W=wc:=⟨_,rfl⟩;obtain⟨rfl,⟨z1,z2,z3,rfl⟩,aj,H⟩:=hcut;obtain⟨q0,aH⟩:=J.o X H.o
  go_wp2_with fail
  refine(be.o _ X aj.o H.o).mono ?_;rintro e u ⟨rfl,an,aG⟩;have ah:=ZZ an;have ar:=ZZ aG;obtain⟨⟨-,-,P,ae⟩,S⟩:=an.cells;clear an aG q0 aH;by_cases i:c=0
  case neg=>
   have bP:(c != 0)=true:=by rw[bne_iff_ne];exact i
   have HE:=ZZ (bj.o u ah.o ar.o i);clear i S P ae;go_wp2;go_ret;exact HE.o
  have bJ:=ZZ i;subst i;obtain⟨V,rfl⟩:∃ W,W=u:=⟨_,rfl⟩;have R:=ZZ (And.intro ah.o ar.o)
  have aL:=ZZ (R.o.1.add (E.o V R.o.2).2 _ l (E.o V R.o.2).1 (bC.o bA.o) (by have:=aI.o.1;omega) (by have:=aI.o.2;have:=aU.o.2;omega) (fun q hq=>by
   have:=Zfb G.o.log.ch q hq;have:=G.o.log.f0;have:=G.o.log.top
   omega))
  clear S ae;have br:s.cur=A:=b4.o;rw[br] at P;clear br
  go_wp2_with fail
  refine aL.o.mono ?_;rintro e O ⟨rfl,aQ,aE⟩;have a1:Hid (SD K O pd p { s with log:=s.log.add l } D (N+2) (T+30000)):=ZZ aQ
  have am:Hid (Zap (fun k=>¬ K k) w O):=ZZ (R.o.2.trans aE (fun _ _ h=>h))
  clear aQ aE aL;obtain⟨la,ln,lc,ta,tn,tc,⟨c5,c6,c7,c8,c9,a3⟩,aN⟩:=a1.o.takes (E.o O am.o).2 G.o.now _ l (E.o O am.o).1 (by have:=aU.o.2;omega)
  have al:=ZZ aN;clear aN
  dsimp only at c5 c6 c8 c9 al
  go_wp2_with fail
  refine al.o.mono ?_;rintro e WC ⟨xa,xn,xc,ua,un,uc,rfl,⟨e5,e6,e7,e8,e9,b7⟩,fz,az,aK⟩;have a9:=ZZ (bg.o _ az (am.o.trans aK (fun _ _ h=>h)) (by first | rfl | trivial))
  have f5:=fz 5;have f6:=fz 6;have f7:=fz 7;have f8:=fz 8;have f9:=fz 9;have b6:=fz 10;clear az aK fz c5 c6 c7 c8 c9 a3 al;generalize ZaQ s.now l=tk at *;go_wp2;go_ret;exact a9.o
def Bb (w:World) (b:Nat) (v:Value):Prop:=w.heap[b]?=some (.cells #[v] 53 (0,0))
theorem Bb.lt (h:Bb w b v):b<w.heap.size:=(Array.getElem?_eq_some_iff.1 h).1
theorem Bb.cell (h:Bb w b v):w.cell? ⟨b,0,none⟩=some v∧w.frozen? ⟨b,0,none⟩=false:=
 ⟨(cell_of_row w b 0 _ _ _ h).trans rfl,frozen_of_row w b 0 _ _ h⟩
theorem Bb.set (h:Bb w b v) (x:Value):Bb (w.setCell ⟨b,0,none⟩ x) b x:=by
 have:=heap_setCell_same w b 0 _ _ x h;unfold Bb;simpa using this
theorem Rd.setBox (h:Rd w v m) {b:Nat} {ao:Option Addr} {n cap:Nat} (f:w.cell? ⟨b,0,none⟩=some (.slice ao n cap)):Rd (w.setCell ⟨b,0,none⟩ x) v m:=by
 obtain⟨t,y,z,p,k,q,a⟩:=h;refine⟨t,y,z,p,k,q,?_⟩;rcases a with a | ⟨c,d,u,l⟩
 ·exact .inl a
 ·refine .inr ⟨c,d,u,fun j i=>?_⟩
  have g:=l j i
  rw[World.cell?_setCell_other w ⟨b,0,none⟩ ⟨c,d+j,none⟩ x (fun e=>by
   rw[e,g] at f
   cases f)]
  exact g
def behind (d:Nat) (m:List UInt8):List UInt8:=if d=0 then[] else m.drop d
theorem ZlC (ao:Option Addr) (n cap:Nat) (w:World):
 Calls prog 200 #[.slice ao n cap] w fun e w'=>e=.returned (.tuple #[.func (.func 218) #[] #[.pointer (some ⟨w.heap.size,0,none⟩)],.func (.func 219) #[] #[.pointer (some ⟨w.heap.size,0,none⟩)]])∧w'=w.alloc (.cells #[.slice ao n cap] 53):=by
 have a:∀ (fn:Fn) (first cap:Array Value) (w:World),(Instr.makeFunc fn first cap).run prog w=.ok (.func fn first cap) w:=fun _ _ _ _=>rfl
 go_enter func200,ntmps200
 go_wp2;go_ret2;exact⟨rfl,rfl⟩
theorem ZtC (b:Nat) (ao:Option Addr) (n cap:Nat) (w:World) (a:w.cell? ⟨b,0,none⟩=some (.slice ao n cap)):
 Calls prog 219 #[.pointer (some ⟨b,0,none⟩)] w fun e w'=>e=.returned (.int .i64 (n:Int))∧w'=w:=by
 go_enter func219,ntmps219
 go_wp2;go_ret;exact⟨rfl,rfl⟩
theorem ZtD (x:Int) (d:Nat) (b:Nat) (v:Value) (m:List UInt8) (w:World) (a:Bb w b v) (k:Rd w v m) (z:d<=m.length) (f:d=0->x=0)
 (g:Calls prog 168 #[v] w fun e w'=>e=.returned (.tuple #[.int .i64 x,.int .i64 (d:Nat)])∧w'=w):
 Calls prog 218 #[.func (.func 168) #[] #[],.pointer (some ⟨b,0,none⟩)] w fun e w'=>∃ v',e=.returned (.tuple #[.int .i64 x,.bool (decide (d≠0))])∧Bb w' b v'∧Rd w' v' (behind d m)∧But b b w w':=by
 have i:=ZZ g;have l:=ZZ a;have n:=ZZ k;obtain⟨ao,cap,rfl,-⟩:=k;obtain⟨u,y⟩:=a.cell;by_cases c:d=0
 ·subst c
  obtain rfl:=f rfl;clear g a f
  go_enter func218,ntmps218
  go_wp2_with fail
  refine i.o.mono ?_;rintro e w' ⟨rfl,rfl⟩;go_wp2;go_ret2;exact⟨_,rfl,l.o.set _,Rd.nil _,(But.refl _ _ _).set _ _ (.inl rfl) _⟩
 ·have E:((d:Int) == 0)=false:=beq_eq_false_iff_ne.2 (by omega)
  have j:=ZZ (ZkP w _ m n.o .i64 (d:Int) (by omega) (by omega))
  have t:Hid (behind d m=m.drop d):=if_neg c;have p:Hid (decide (d≠0)=true):=decide_eq_true c;rw[Int.toNat_natCast] at j;clear g a f c
  go_enter func218,ntmps218
  go_wp2_with fail
  refine i.o.mono ?_;rintro e w' ⟨rfl,rfl⟩
  go_wp2_with(refine ZiE _ rfl _ _ _ _ rfl _ j.o ?_)
  intro C h;have q:=ZZ h;obtain⟨A,B,rfl,-⟩:=h;generalize D:m.drop d=M at *;go_wp2;go_ret2;refine⟨_,by rw[p.o];rfl,l.o.set _,?_,(But.refl _ _ _).set _ _ (.inl rfl) _⟩
  rw[t.o];exact q.o.setBox u
theorem ZlD (x:Int) (d:Nat) (b:Nat) (v:Value) (m:List UInt8) (w:World) (a:Bb w b v) (k:Rd w v m) (z:d<=m.length) (f:d=0->x=0)
 (g:Calls prog 201 #[v] w fun e w'=>e=.returned (.tuple #[.int .i64 x,.int .i64 (d:Nat)])∧w'=w):
 Calls prog 218 #[.func (.func 201) #[] #[],.pointer (some ⟨b,0,none⟩)] w fun e w'=>∃ v',e=.returned (.tuple #[.int .i64 x,.bool (decide (d≠0))])∧Bb w' b v'∧Rd w' v' (behind d m)∧But b b w w':=by
 have i:=ZZ g;have l:=ZZ a;have n:=ZZ k;obtain⟨ao,cap,rfl,-⟩:=k;obtain⟨u,y⟩:=a.cell;by_cases c:d=0
 ·subst c
  obtain rfl:=f rfl;clear g a f
  go_enter func218,ntmps218
  go_wp2_with fail
  refine i.o.mono ?_;rintro e w' ⟨rfl,rfl⟩;go_wp2;go_ret2;exact⟨_,rfl,l.o.set _,Rd.nil _,(But.refl _ _ _).set _ _ (.inl rfl) _⟩
 ·have E:((d:Int) == 0)=false:=beq_eq_false_iff_ne.2 (by omega)
  have j:=ZZ (ZkP w _ m n.o .i64 (d:Int) (by omega) (by omega))
  have t:Hid (behind d m=m.drop d):=if_neg c;have p:Hid (decide (d≠0)=true):=decide_eq_true c;rw[Int.toNat_natCast] at j;clear g a f c
  go_enter func218,ntmps218
  go_wp2_with fail
  refine i.o.mono ?_;rintro e w' ⟨rfl,rfl⟩
  go_wp2_with(refine ZiE _ rfl _ _ _ _ rfl _ j.o ?_)
  intro C h;have q:=ZZ h;obtain⟨A,B,rfl,-⟩:=h;generalize D:m.drop d=M at *;go_wp2;go_ret2;refine⟨_,by rw[p.o];rfl,l.o.set _,?_,(But.refl _ _ _).set _ _ (.inl rfl) _⟩
  rw[t.o];exact q.o.setBox u
def Zgg (X W:World):Prop:=W.heap=X.heap∧W.os=X.os∧W.tape=X.tape∧W.output=X.output
theorem Zgg.refl (X:World):Zgg X X:=⟨rfl,rfl,rfl,rfl⟩
theorem Zgg.drew (h:Zgg X W):Zgg X W.drew:=h
theorem Zgg.set (h:Zgg X W) (a:Addr) (v:Value):Zgg (X.setCell a v) (W.setCell a v):=by
 obtain⟨e,c,b,d⟩:=h;refine⟨?_,c,b,d⟩;simp only [World.setCell,e]
theorem Zgg.below (h:Zgg X W) (B:Nat):Below B X W:=⟨h.2.1,h.2.2.1,h.2.2.2,by rw[h.1];exact Nat.le_refl _,fun k _=>by rw[h.1]⟩
theorem Zgg.cell (h:Zgg X W) (a:Addr):W.cell? a=X.cell? a:=by simp only [World.cell?,h.1]
theorem Zgg.froz (h:Zgg X W) (a:Addr):W.frozen? a=X.frozen? a:=by simp only [World.frozen?,h.1]
def ZmB (w:World) (p:Nat × Nat):Prop:=(∃ x:Int,w.cell? ⟨p.1,p.2,none⟩=some (.int .i64 x))∧w.frozen? ⟨p.1,p.2,none⟩=false
theorem ZmB.set {p:Nat × Nat} (h:ZmB w p) (a:Nat × Nat) (n:Int):ZmB (w.setCell ⟨a.1,a.2,none⟩ (.int .i64 n)) p:=by
 obtain⟨⟨x,b⟩,c⟩:=h;refine⟨?_,by rw[World.frozen?_setCell];exact c⟩
 by_cases e:(⟨a.1,a.2,none⟩:Addr)=⟨p.1,p.2,none⟩
 ·rw[e]
  exact⟨n,World.cell?_setCell_same _ _ _ b⟩
 ·exact⟨x,by rw[World.cell?_setCell_other _ _ _ _ (fun h=>e h)];exact b⟩
theorem Rd.setNum (h:Rd w v m) {p:Nat × Nat} (t:ZmB w p) (x:Value):Rd (w.setCell ⟨p.1,p.2,none⟩ x) v m:=by
 obtain⟨q,z,A,l,i,n,a⟩:=h;refine⟨q,z,A,l,i,n,?_⟩;rcases a with a | ⟨c,b,u,k⟩
 ·exact .inl a
 ·refine .inr ⟨c,b,u,fun j g=>?_⟩
  have f:=k j g
  rw[World.cell?_setCell_other w ⟨p.1,p.2,none⟩ ⟨c,b+j,none⟩ x (fun e=>by
   obtain⟨⟨y,d⟩,-⟩:=t;rw[e,f] at d
   cases d)]
  exact f
def Zca (w:World):List (Nat × Nat)->List Nat->World
 | p::ps,n::ns=>Zca (w.setCell ⟨p.1,p.2,none⟩ (.int .i64 (n:Int))) ps ns
 | _,_=>w
theorem Znr:∀ (w:World) (ps:List (Nat × Nat)) (ns:List Nat) (p:Nat × Nat) (n:Nat),ps.length=ns.length->Zca w (ps++[p]) (ns++[n])=(Zca w ps ns).setCell ⟨p.1,p.2,none⟩ (.int .i64 (n:Int))
 | w,[],[],p,n,_=>rfl
 | w,q::ps,m::ns,p,n,h=>by
  rw[List.cons_append,List.cons_append,Zca,Znr _ ps ns p n (by simpa using h),Zca]
theorem Zqt:∀ (w:World) (ps:List (Nat × Nat)) (ns:List Nat) {p:Nat × Nat},ZmB w p->ZmB (Zca w ps ns) p
 | w,[],_,p,h=>by cases ‹List Nat› <;> exact h
 | w,q::ps,[],p,h=>h
 | w,q::ps,m::ns,p,h=>by
  rw[Zca];exact Zqt _ ps ns (h.set q m)
theorem Zek:∀ (w:World) (ps:List (Nat × Nat)) (ns:List Nat) (k:Nat),(∀ p ∈ ps,p.1≠k)->(Zca w ps ns).heap[k]?=w.heap[k]?
 | w,[],ns,k,_=>by cases ns <;> rfl
 | w,q::ps,[],k,_=>rfl
 | w,q::ps,m::ns,k,h=>by
  rw[Zca,Zek _ ps ns k (fun p a=>h p (by simp[a]))]
  exact Below.heap_setCell _ _ _ _ (fun e=>h q (by simp) e.symm)
theorem Zel:∀ (w:World) (ps:List (Nat × Nat)) (ns:List Nat) (B:Nat) (a:World),(∀ p ∈ ps,B<=p.1)->Below B a w->Below B a (Zca w ps ns)
 | w,[],ns,B,a,_,h=>by cases ns <;> exact h
 | w,q::ps,[],B,a,_,h=>h
 | w,q::ps,m::ns,B,a,hp,h=>by
  rw[Zca];exact Zel _ ps ns B a (fun p h=>hp p (by simp[h])) (h.setCell (hp q (by simp)) _)
def ZCv (w:World) (v:Value) (b:List UInt8) (ps:List (Nat × Nat)) (r:Option (List Nat × List UInt8)) (e:Ending) (w':World):Prop:=
 ∃ (v':Value) (l:List UInt8) (ns:List Nat),e=.returned (.tuple #[v',.bool r.isSome])∧(∀ W,Rd W v b->Rd W v' l)∧(r=none->l=[])∧(∀ x,r=some x->x=(ns,l))∧(∀ n ∈ ns,n<4611686018427387904)∧ns.length<=ps.length∧Zgg (Zca w (ps.take ns.length) ns) w'
theorem ZtE:∀ (w:World) (ps:List (Nat × Nat)) (ns:List Nat) {v:Value} {m:List UInt8},(∀ p ∈ ps,ZmB w p)->Rd w v m->Rd (Zca w ps ns) v m
 | w,[],ns,v,m,_,h=>by cases ns <;> exact h
 | w,q::ps,[],v,m,_,h=>h
 | w,q::ps,k::ns,v,m,hp,h=>by
  rw[Zca];exact ZtE _ ps ns (fun p a=>(hp p (by simp[a])).set q k) (h.setNum (hp q (by simp)) _)
theorem ZjY (ao:Option Addr) (l:List UInt8) (cap:Nat) (f:l.length<=cap) (d:Nat) (g:d<=l.length):
 ∃ a b,(∀ W,(Instr.sliceAt 53 (.slice ao l.length cap) (some (.int .i64 (d:Int))) none none).run prog W=.ok (.slice a (l.drop d).length b) W)∧∀ W,Rd W (.slice ao l.length cap) l->Rd W (.slice a (l.drop d).length b) (l.drop d):=by
 have c:∃ a b,sliced ao d l.length cap 1=.slice a (l.length-d) b:=by
  unfold sliced;exact⟨_,_,rfl⟩
 obtain⟨a,b,c⟩:=c;refine⟨a,b,fun W=>?_,fun W h=>?_⟩
 ·rw[run_sliceAt_slice W 53 _ _ _ _ ZaF,run_slice_l W 53 ao l.length cap ZaF .i64 (d:Int) (by omega) (by omega),ZbU,Zfs,length_drop,<-c]
  rfl
 ·rw[length_drop,<-c]
  have e:=h.mid d l.length cap g zL f zL;rw[List.take_of_length_le (by simp)] at e
  exact e
theorem Zvo {b:List UInt8} (h:(Zab b).2≠0):Zcu (n+1) b=(Zcu n (b.drop (Zab b).2)).map (fun r=>((Zab b).1::r.1,r.2)):=by rw[Zcu,if_neg h]
theorem Zvp {b:List UInt8} (h:(Zab b).2=0):Zcu (n+1) b=none:=by rw[Zcu,if_pos h]
theorem Zdo (N:Nat) (ps:List (Nat × Nat)) (v:Value) (b:List UInt8) (w:World) (C:Rd w v b) (A:∀ p ∈ ps,ZmB w p∧p.1≠N) (ak:ps.length<=100)
 (O:w.heap[N]?=some (.cells (ps.map (fun p=>Value.pointer (some ⟨p.1,p.2,none⟩))).toArray 208 (0,0))) (k:Nat) (hk:k=ps.length):
 Calls prog 160 #[v,.slice (some ⟨N,0,none⟩) k k] w fun e w'=>ZCv w v b ps (Zcu ps.length b) e w':=by
 subst hk;have Z:=ZZ A
 have U:Hid (∀ q,q<ps.length->w.cell? ⟨N,q,none⟩=some (.pointer (some ⟨(ps.getD q (0,0)).1,(ps.getD q (0,0)).2,none⟩))):=ZZ (fun q P=>by
  rw[cell_of_row w N q _ _ _ O]
  simp[List.getD,P])
 have Y:Hid (∀ ns,(Zca w (ps.take (List.length ns)) ns).heap[N]?=w.heap[N]?):=ZZ (fun ns=>Zek w _ ns N (fun p F=>(A p (mem_of_mem_take F)).2))
 have HG:=ZZ (fun v1 l W h=>ZfY v1 l W h)
 have HR:Hid (∀ ns,Rd (Zca w (ps.take (List.length ns)) ns) v b):=ZZ (fun ns=>ZtE w _ ns (fun p F=>(A p (mem_of_mem_take F)).1) C)
 obtain⟨X,vc,hv⟩:∃ a c,v=.slice a b.length c:=by obtain⟨a,c,h,-⟩:=C;exact⟨a,c,h⟩
 subst hv;obtain⟨i,f⟩:∃ i,i=Zcu ps.length b:=⟨_,rfl⟩;rw[<-f]
 have M:Hid (i=(Zcu (ps.length-0) b).map (fun r=>([]++r.1,r.2))):=ZZ (by
  rw[f,Nat.sub_zero]
  cases Zcu ps.length b <;> rfl)
 clear f A C O;have al:(ps.length:Int)<=100:=by omega
 go_enter func160,ntmps160
 go_wp2
 go_loopw[0,12] (fun vb H wr=>∃ (q:Nat) (ns:List Nat) (b':List UInt8) (a:Option Addr) (c:Nat),H=.int .i64 (q:Int)∧vb=.slice a b'.length c∧q<=ps.length∧ns.length=q∧Hid (∀ W,Rd W (.slice X b.length vc) b->Rd W (.slice a b'.length c) b')∧Hid (Zgg (Zca w (ps.take ns.length) ns) wr)∧Hid (∀ n ∈ ns,n<4611686018427387904)∧Hid (i=(Zcu (ps.length-q) b').map (fun r=>(ns++r.1,r.2)))) (fun _ H _=>ps.length-(intOf H).toNat)
 case atStart=>exact⟨0,[],b,X,vc,rfl,rfl,Nat.zero_le _,rfl,ZZ (fun W h=>h),ZZ (by rw[List.length_nil,List.take_zero];exact Zgg.refl w),ZZ (fun n h=>by simp at h),M⟩
 case round=>
  clear M;obtain⟨q,ns,b',a,c,rfl,rfl,P,K,E,g,G,f⟩:=hrel;have R:Hid (Rd wr (.slice a b'.length c) b'):=ZZ (E.out wr ((HR.o ns).below (g.out.below (Zca w (ps.take ns.length) ns).heap.size) zL));have j:=ZZ K;by_cases u:q<ps.length
  case neg=>
   obtain rfl:q=ps.length:=by omega
   have y:Hid (i=some (ns,b')):=ZZ (by
    rw[f.out,Nat.sub_self]
    simp[Zcu])
   clear K;go_wp2;go_ret2;rw[y.o];exact⟨_,b',ns,rfl,E.out,(fun h=>by cases h),(fun x h=>by injection h with h;exact h.symm),G.out,by rw[j.o];exact Nat.le_refl _,g.out⟩
  have ai:(q:Int)<(ps.length:Int):=by omega
  have ae:ps.length-q=(ps.length-(q+1))+1:=by omega
  have ag:wr.cell? ⟨N,q,none⟩=some (.pointer (some ⟨(ps.getD q (0,0)).1,(ps.getD q (0,0)).2,none⟩)):=by
   rw[g.out.cell];exact(World.cell?_of_block (a:=⟨N,q,none⟩) (Y.o ns)).trans (U.o q u)
  have V:ps.getD q (0,0) ∈ ps:=by
   rw[show ps.getD q (0,0)=ps[q] by simp[List.getD,u]]
   exact List.getElem_mem u
  have I:ZmB (Zca w (ps.take ns.length) ns) (ps.getD q (0,0)):=Zqt w _ ns (Z.o _ V).1
  have L:ZmB wr (ps.getD q (0,0)):=⟨by
   obtain⟨x,hx⟩:=I.1
   exact⟨x,by rw[g.out.cell];exact hx⟩,by rw[g.out.froz];exact I.2⟩
  have S:Hid (∀ n:Nat,Zca w (ps.take (ns++[n]).length) (ns++[n])=(Zca w (ps.take ns.length) ns).setCell ⟨(ps.getD q (0,0)).1,(ps.getD q (0,0)).2,none⟩ (.int .i64 (n:Int))):=ZZ (fun n=>by
   have e1:ps.take (ns++[n]).length=ps.take ns.length++[ps.getD q (0,0)]:=by
    rw[length_append,List.length_singleton,j.o,List.take_add_one,List.getElem?_eq_getElem u];simp[List.getD,u]
   rw[e1,Znr w _ ns _ n (by rw[List.length_take,j.o];omega)])
  have am:=ZZ L;obtain⟨⟨x0,ad⟩,ah⟩:=L;clear V I U Y Z K;generalize ps.getD q (0,0)=p at *;obtain⟨pb,po⟩:=p
  dsimp only at ag ad ah S
  have aa:=ZZ (HG.o _ b' wr R.out);have ac:=Zcj b'
  have ab:(Zab b').1<4611686018427387904:=by
   rcases Zay b' with h | h
   ·rw[h];decide
   ·exact h.1
  have B:=ZZ (Zvo (n:=ps.length-(q+1)) (b:=b'));have D:=ZZ (Zvp (n:=ps.length-(q+1)) (b:=b'));rw[<-ae] at B D;have T:=ZZ (fun d z=>ZjY a b' c (by obtain⟨a',c',h,h2,-⟩:=R.out;simp only [Value.slice.injEq] at h;omega) d z)
  generalize (Zab b').2=d at *;generalize (Zab b').1=n at *;clear HG;by_cases z:d=0
  ·subst z
   have y:Hid (i=none):=ZZ (by rw[f.out,D.o rfl];rfl)
   go_wp2_with fail
   refine aa.o.mono ?_;rintro e J ⟨rfl,t⟩;rw[t];clear t J;go_wp2;go_ret2;rw[y.o];exact⟨_,[],ns,rfl,(fun W _=>Rd.nil W),(fun _=>rfl),(fun x h=>by cases h),G.out,by rw[j.o];omega,g.out⟩
  ·have aj:((d:Int) == 0)=false:=beq_eq_false_iff_ne.2 (by omega)
   obtain⟨xa,xc,hcut,Q⟩:=T.o d ac;have af:=ZZ Q
   have y:Hid (i=(Zcu (ps.length-(q+1)) (b'.drop d)).map (fun r=>((ns++[n])++r.1,r.2))):=ZZ (by
    rw[f.out,B.o z]
    cases Zcu (ps.length-(q+1)) (b'.drop d) with
    | none=>rfl
    | some r=>simp)
   clear Q B D f z T;generalize b'.drop d=b2 at *
   go_wp2_with fail
   refine aa.o.mono ?_;rintro e J ⟨rfl,t⟩;rw[t];clear t J;go_wp2
   go_region
   all_goals
    go_wp2;go_roundw
    case rel=>exact⟨q+1,ns++[n],b2,xa,xc,by go_num,rfl,by omega,by rw[length_append,List.length_singleton,j.o],ZZ (fun W h=>af.o W (E.out W h)),ZZ (by rw[S.o];exact g.out.drew.set _ _),ZZ (fun m hm=>by
     rcases List.mem_append.1 hm with h | h
     ·exact G.out m h
     ·rw[List.mem_singleton.1 h];exact ab),y⟩
    case measure=>simp[intOf];omega
def ZmC (b:List UInt8):Option (Ent × List UInt8):=
 match Zcu 2 b with
 | none=>none
 | some (ns,l)=>if(Zah l).2=0 then none else some (⟨((ns.getD 0 0:Nat):Int),((ns.getD 1 0:Nat):Int),zag (Zah l).1⟩,l.drop (Zah l).2)
theorem ZhZ (b:List UInt8):Zcu 1 b=if(Zab b).2=0 then none else some ([(Zab b).1],b.drop (Zab b).2):=rfl
theorem ZlE (b:List UInt8):Zcu 2 b=if(Zab b).2=0 then none else if(Zab (b.drop (Zab b).2)).2=0 then none else some ([(Zab b).1,(Zab (b.drop (Zab b).2)).1],(b.drop (Zab b).2).drop (Zab (b.drop (Zab b).2)).2):=by
 rw[Zcu];split
 ·rfl
 ·rw[ZhZ]
  split <;> rfl
theorem Zsq (n:Nat) (b:List UInt8):Zeq (n+1) b=(ZmC b).bind (fun y=>(Zeq n y.2).map (fun r=>(y.1::r.1,r.2))):=by
 have h:Zeq (n+1) b=if(Zab b).2=0∨(Zab (b.drop (Zab b).2)).2=0∨(Zah (b.drop ((Zab b).2+(Zab (b.drop (Zab b).2)).2))).2=0 then none
  else(Zeq n (b.drop ((Zab b).2+(Zab (b.drop (Zab b).2)).2+(Zah (b.drop ((Zab b).2+(Zab (b.drop (Zab b).2)).2))).2))).map (fun r=>(⟨(Zab b).1,(Zab (b.drop (Zab b).2)).1,zag (Zah (b.drop ((Zab b).2+(Zab (b.drop (Zab b).2)).2))).1⟩::r.1,r.2)):=rfl
 rw[h];unfold ZmC;rw[ZlE];by_cases d:(Zab b).2=0
 ·rw[if_pos (.inl d),if_pos d]
  rfl
 rw[if_neg d];by_cases c:(Zab (b.drop (Zab b).2)).2=0
 ·rw[if_pos (.inr (.inl c)),if_pos c]
  rfl
 rw[if_neg c];simp only [drop_drop];by_cases a:(Zah (b.drop ((Zab b).2+(Zab (b.drop (Zab b).2)).2))).2=0
 ·rw[if_pos (.inr (.inr a)),if_pos a]
  rfl
 ·rw[if_neg (by omega),if_neg a]
  rfl
def ZCw (w:World) (v:Value) (b:List UInt8) (e:Ending) (w':World):Prop:=
 ∃ (x:Ent) (v':Value) (l:List UInt8),e=.returned (.tuple #[ZuC x,v',.bool (ZmC b).isSome])∧Zod x∧(∀ W,Rd W v b->Rd W v' l)∧(∀ y,ZmC b=some y->y=(x,l))∧Below w.heap.size w w'
theorem Zvq:Zah []=(0,0):=by decide
theorem ZBb {R:Nat} (h:Be W R #[.int .i64 0,.int .i64 0,.int .i64 0]) (ns:List Nat) (e:ns.length<=2) (a:∀ n ∈ ns,n<4611686018427387904):
 ∃ x y:Int,Be (Zca W ([(R,0),(R,1)].take ns.length) ns) R #[.int .i64 x,.int .i64 y,.int .i64 0]∧I64 x∧I64 y∧(ns.length=2->x=((ns.getD 0 0:Nat):Int)∧y=((ns.getD 1 0:Nat):Int)):=by
 have b:I64 0:=Zai (by decide) (by decide)
 match ns,e,a with
 | [],_,_=>exact⟨0,0,h,b,b,fun h=>absurd h (by simp)⟩
 | [n],_,a=>
  have:=a n (by simp)
  refine⟨(n:Int),0,?_,⟨by omega,by omega⟩,b,fun h=>absurd h (by simp)⟩
  have c:=heap_setCell_same W R 0 _ _ (.int .i64 (n:Int)) h;exact c
 | [n,m],_,a=>
  have f:=a n (by simp)
  have c:=a m (by simp)
  refine⟨(n:Int),(m:Int),?_,⟨by omega,by omega⟩,⟨by omega,by omega⟩,fun _=>⟨rfl,rfl⟩⟩
  have d:=heap_setCell_same W R 0 _ _ (.int .i64 (n:Int)) h;exact heap_setCell_same _ R 1 _ _ (.int .i64 (m:Int)) d
theorem ZlF (w:World) (x y z:Obj):((((w.alloc x).alloc y).alloc z).heap[w.heap.size]?=some x∧(((w.alloc x).alloc y).alloc z).heap[w.heap.size+1]?=some y∧(((w.alloc x).alloc y).alloc z).heap[w.heap.size+2]?=some z):=by
 refine⟨?_,?_,?_⟩
 ·exact((Below.heap_alloc _ _ _ (by simp;omega)).trans (Below.heap_alloc _ _ _ (by simp))).trans (heap_alloc_new w x)
 ·refine(Below.heap_alloc _ _ _ (by simp)).trans ?_
  have:=heap_alloc_new (w.alloc x) y;simpa using this
 ·have:=heap_alloc_new ((w.alloc x).alloc y) z
  simpa using this
theorem Be.set (h:Be w b cs) (j:Nat) (x:Value):Be (w.setCell ⟨b,j,none⟩ x) b (cs.setIfInBounds j x):=by
 have:=heap_setCell_same w b j _ _ x h;unfold Be;simpa using this
theorem Be.other {c:Nat} (h:Be w b cs) (j:Nat) (x:Value) (a:b≠c):Be (w.setCell ⟨c,j,none⟩ x) b cs:=(Below.heap_setCell _ _ _ _ a).trans h
theorem ZzI {C:Nat} {b:World} (h:Below C b w) (R:Nat) (a:C<=R) (c e d:Value):Below C b (((w.setCell ⟨R,0,none⟩ c).setCell ⟨R,1,none⟩ e).setCell ⟨R,2,none⟩ d):=
 ((h.setCell a _).setCell a _).setCell a _
theorem Zqu (v:Value) (b:List UInt8) (w:World) (A:Rd w v b):
 Calls prog 202 #[v] w fun e w'=>ZCw w v b e w':=by
 obtain⟨f,D⟩:∃ f,f=((w.alloc (.cells #[.int .i64 0,.int .i64 0,.int .i64 0] 85)).alloc (.cells #[.int .i64 0,.int .i64 0,.int .i64 0] 85)).alloc (.cells #[.pointer (some ⟨w.heap.size+1,0,none⟩),.pointer (some ⟨w.heap.size+1,1,none⟩)] 208):=⟨_,rfl⟩;have h3:=ZlF w (.cells #[.int .i64 0,.int .i64 0,.int .i64 0] 85) (.cells #[.int .i64 0,.int .i64 0,.int .i64 0] 85) (.cells #[.pointer (some ⟨w.heap.size+1,0,none⟩),.pointer (some ⟨w.heap.size+1,1,none⟩)] 208);rw[<-D] at h3;obtain⟨Q,hB,hC⟩:=h3;have H:Hid (Below w.heap.size w f):=ZZ (by rw[D];exact(((Below.refl _ _).alloc zL _).alloc (by simp) _).alloc (by simp;omega) _)
 have F:Be f w.heap.size #[.int .i64 0,.int .i64 0,.int .i64 0]:=Q;have m:Be f (w.heap.size+1) #[.int .i64 0,.int .i64 0,.int .i64 0]:=hB;have ar:=ZZ F
 have ad:=ZZ (Zdo (w.heap.size+1+1) [(w.heap.size+1,0),(w.heap.size+1,1)] v b f (A.below H.o zL) (fun p n=>by
  simp only [mem_cons,List.not_mem_nil,or_false] at n;rcases n with rfl | rfl
  ·exact⟨⟨⟨0,(m.cell 0).1⟩,(m.cell 0).2⟩,by simp⟩
  ·exact⟨⟨⟨0,(m.cell 1).1⟩,(m.cell 1).2⟩,by simp⟩) (by simp) hC 2 rfl)
 have ak:=ZZ (fun ns=>ZBb m ns)
 have P:Hid (∀ ns,Below w.heap.size w (Zca f ([(w.heap.size+1,0),(w.heap.size+1,1)].take (List.length ns)) ns)):=ZZ (fun ns=>Zel f _ ns _ w (fun p n=>by
  have:=mem_of_mem_take n;simp only [mem_cons,List.not_mem_nil,or_false] at this
  rcases this with rfl | rfl <;> simp) H.o)
 have aa:Hid (∀ ns,Be (Zca f ([(w.heap.size+1,0),(w.heap.size+1,1)].take (List.length ns)) ns) w.heap.size #[.int .i64 0,.int .i64 0,.int .i64 0]):=ZZ (fun ns=>(Zek f _ ns _ (fun p n=>by
  have:=mem_of_mem_take n;simp only [mem_cons,List.not_mem_nil,or_false] at this
  rcases this with rfl | rfl <;> simp)).trans F)
 have HG:=ZZ (fun J l W h=>ZcV J l W h)
 have u:Hid (ZmC b=match Zcu [(w.heap.size+1,0),(w.heap.size+1,1)].length b with | none=>none | some (ns,l)=>if(Zah l).2=0 then none else some (⟨((ns.getD 0 0:Nat):Int),((ns.getD 1 0:Nat):Int),zag (Zah l).1⟩,l.drop (Zah l).2)):=ZZ rfl
 have X:Hid (∀ ns l,Zcu [(w.heap.size+1,0),(w.heap.size+1,1)].length b=some (ns,l)->ns.length=2):=ZZ (fun ns l h=>by
  have d:Zcu 2 b=some (ns,l):=h;rw[ZlE] at d;split at d
  ·cases d
  split at d
  ·cases d
  injection d with d
  injection d with d _
  rw[<-d]
  rfl)
 unfold ZCw;obtain⟨j,am⟩:∃ j,j=ZmC b:=⟨_,rfl⟩;rw[<-am] at u ⊢;obtain⟨ok,O⟩:∃ ok,ok=j.isSome:=⟨_,rfl⟩;rw[<-O];have I:=ZZ O;clear O;generalize Zcu [(w.heap.size+1,0),(w.heap.size+1,1)].length b=GL at *;have aq:=ZZ A;obtain⟨va,vc,hv⟩:∃ a c,v=.slice a b.length c:=by obtain⟨a,c,h,-⟩:=A;exact⟨a,c,h⟩
 subst hv;clear A Q hB hC F m am
 go_enter func202,ntmps202
 go_wp2_with fail
 rw[<-D];refine ad.o.mono ?_;rintro e g ⟨J,l,ns,rfl,M,af,K,ah,U,C⟩;obtain⟨x,y,ag,R,an,ae⟩:=ak.o ns U ah;have E:Hid (Be g (w.heap.size+1) #[.int .i64 x,.int .i64 y,.int .i64 0]):=ZZ (ag.below (C.below (Zca f ([(w.heap.size+1,0),(w.heap.size+1,1)].take ns.length) ns).heap.size) zL);have Y:Hid (Be g w.heap.size #[.int .i64 0,.int .i64 0,.int .i64 0]):=ZZ ((aa.o ns).below (C.below (Zca f ([(w.heap.size+1,0),(w.heap.size+1,1)].take ns.length) ns).heap.size) zL);have N:Hid (Below w.heap.size w g):=ZZ ((P.o ns).trans (C.below _));have B:=ZZ (M g (aq.o.below N.o zL));have aw:=ZZ M;obtain⟨a1,T,ao⟩:∃ a c,J=.slice a l.length c:=by obtain⟨a,c,h,-⟩:=B.o;exact⟨a,c,h⟩
 subst ao
 have ab:l.length<=T:=by
  obtain⟨a',c',h,d,-⟩:=B.o;simp only [Value.slice.injEq] at h;omega
 have al:=ZZ (HG.o _ l g B.o);have av:=ZcM l;have ai:I64 (zag (Zah l).1):=Zrd (ZnI l);obtain⟨xa,xc,hcut,S⟩:=ZjY a1 l T ab (Zah l).2 av;have ax:=ZZ (fun W h=>S W (aw.o W h))
 have G:Hid (j.isSome=decide (0<(Zah l).2)):=ZZ (by
  rw[u.o]
  cases GL with
  | none=>rw[af rfl,Zvq];rfl
  | some p=>
   have:=K p rfl;subst this
   dsimp only
   by_cases h:(Zah l).2=0
   ·rw[if_pos h,h];rfl
   ·rw[if_neg h,decide_eq_true (by omega)];rfl)
 have au:Hid (∀ z,j=some z->z=(⟨x,y,zag (Zah l).1⟩,l.drop (Zah l).2)):=ZZ (fun z i=>by
  rw[u.o] at i
  cases GL with
  | none=>cases i
  | some p=>
   have:=K p rfl;subst this;obtain⟨h1,d⟩:=ae (X.o ns l rfl)
   dsimp only at i
   split at i
   ·cases i
   ·injection i with i
    rw[<-i,h1,d])
 have ap:Hid (Zod ⟨x,y,zag (Zah l).1⟩):=ZZ ⟨R,an,ai⟩;clear M af K ah U C ag ae u X P aa ak ad HG S ab H ar D R an ai;generalize zag (Zah l).1=z at *;generalize (Zah l).2=k at *;generalize l.drop k=l2 at *;have ac:j.isSome=decide ((0:Int)<(k:Int)):=by rw[G.o];exact decide_eq_decide.2 (by omega)
 rw[<-I.o] at ac;have az:Hid (decide (0<k)=ok):=ZZ (by rw[I.o,G.o])
 clear I ac G
 go_wp2_with fail
 refine al.o.mono ?_;rintro e W2 ⟨rfl,aj⟩;rw[aj];clear aj W2 al;have q:Hid (Be (g.setCell ⟨w.heap.size+1,2,none⟩ (.int .i64 z)) (w.heap.size+1) #[.int .i64 x,.int .i64 y,.int .i64 z]):=ZZ (E.o.set 2 _);have t:Hid (Be (g.setCell ⟨w.heap.size+1,2,none⟩ (.int .i64 z)) w.heap.size #[.int .i64 0,.int .i64 0,.int .i64 0]):=ZZ (Y.o.other 2 _ (by omega))
 obtain⟨e2,f2⟩:=E.o.cell 2;have L:Hid (Below w.heap.size w (g.setCell ⟨w.heap.size+1,2,none⟩ (.int .i64 z))):=ZZ (N.o.setCell (Nat.le_succ _) _)
 go_upto_region 5 with fail
 obtain⟨W3,Z⟩:∃ W3,W3=g.setCell ⟨w.heap.size+1,2,none⟩ (.int .i64 z):=⟨_,rfl⟩;rw[<-Z] at q t L ⊢;clear Z e2 f2 E Y N B;obtain⟨x0,g0⟩:=q.o.cell 0;obtain⟨x1,g1⟩:=q.o.cell 1;obtain⟨x2,g2⟩:=q.o.cell 2;obtain⟨y0,m0⟩:=t.o.cell 0;obtain⟨y1,m1⟩:=t.o.cell 1;obtain⟨y2,m2⟩:=t.o.cell 2;have aA:¬ (w.heap.size=w.heap.size+1):=by omega
 have aB:¬ (w.heap.size+1=w.heap.size):=by omega
 have V:=ZzI L.o.drew w.heap.size zL (.int .i64 x) (.int .i64 y) (.int .i64 z);have ay:=ZZ V;clear V L t q
 go_region
 all_goals
  go_wp2;refine bodyPost_ret (v:=.tuple #[.agg #[.int .i64 x,.int .i64 y,.int .i64 z],.slice xa l2.length xc,.bool ok]) (by simp[results,Tryz.results202,go_sem,y0,y1,y2,az.o]) rfl ?_
  exact⟨⟨x,y,z⟩,_,l2,rfl,ap.o,ax.o,au.o,ay.o⟩
def ZBc (w:World) (TL:Option (List Ent)) (e:Ending) (w':World):Prop:=
 ∃ vt t,e=.returned (.tuple #[vt,.bool TL.isSome])∧Zbt w' w.heap.size vt t∧(∀ e ∈ t,Zod e)∧(∀ t',TL=some t'->t=t')∧Below w.heap.size w w'
def ZBS (v6 v7:Value):Nat:=
 match v7 with
 | .bool true=>(match v6 with
  | .slice _ n _=>n+1
  | _=>0)
 | _=>0
theorem Zvr {b:List UInt8} {y:Ent × List UInt8} (h:ZmC b=some y):y.2.length+1<=b.length:=by
 unfold ZmC at h;rw[ZlE] at h;split at h
 ·cases h
 ·rename_i ns l a
  split at a
  ·cases a
  ·rename_i f
   split at a
   ·cases a
   ·injection a with a
    injection a with _ hl
    split at h
    ·cases h
    ·rename_i c
     injection h with h
     rw[<-h];have d:=ZcM l;show(l.drop _).length+1<=_;rw[length_drop]
     have e:l.length<=b.length:=by
      rw[<-hl,length_drop,length_drop];omega
     omega
theorem ZzJ (w:World) (x y:Obj):((w.alloc x).alloc y).heap[w.heap.size]?=some x∧((w.alloc x).alloc y).heap[w.heap.size+1]?=some y:=by
 refine⟨(Below.heap_alloc _ _ _ (by simp)).trans (heap_alloc_new w x),?_⟩
 have:=heap_alloc_new (w.alloc x) y;simpa using this
theorem ZlG {b:List UInt8} {ns:List Nat} (h:Zcu 1 b=some (ns,l)):(Zab b).2≠0∧ns=[(Zab b).1]∧l=b.drop (Zab b).2:=by
 rw[ZhZ] at h;split at h
 ·cases h
 ·rename_i a
  injection h with h
  injection h with h2 h3
  exact⟨a,h2.symm,h3.symm⟩
theorem ZlH {b:List UInt8} (h:Zcu 1 b=none):(Zab b).2=0:=by
 rw[ZhZ] at h;split at h
 ·assumption
 ·cases h
theorem Zbt.butD {B R:Nat} {l:List Ent} (h:Zbt w B v l) (e:But R T w w') (m:∀ b,v.ownBlock=some b->b≠R∧b≠T):Zbt w' B v l:=by
 rcases h.row with ⟨rfl,rfl⟩ | ⟨g,cap,cur,rfl,i,c,a,j,f,d,k⟩
 ·exact Zbt.nil _ _
 ·have:=m g rfl
  exact Zbt.ofRow rfl i ((e.block g c this.1 this.2).trans a) j f d k
theorem ZoF (v:Value) (b:List UInt8) (w:World) (P:Rd w v b) (bd:b.length<=100000):
 Calls prog 165 #[v] w fun e w'=>ZBc w (ZeY b) e w':=by
 obtain⟨q,T⟩:∃ q,q=(w.alloc (.cells #[.int .i64 0] 3)).alloc (.cells #[.pointer (some ⟨w.heap.size,0,none⟩)] 208):=⟨_,rfl⟩;have h2:=ZzJ w (.cells #[.int .i64 0] 3) (.cells #[.pointer (some ⟨w.heap.size,0,none⟩)] 208);rw[<-T] at h2;obtain⟨N,hC⟩:=h2;have ad:Hid (Below w.heap.size w q):=ZZ (by rw[T];exact((Below.refl _ _).alloc zL _).alloc (by simp) _)
 have af:=ZZ (Zdo (w.heap.size+1) [(w.heap.size,0)] v b q (P.below ad.o zL) (fun p hp=>by
  rw[List.mem_singleton.1 hp]
  exact⟨⟨⟨0,cell_of_row q w.heap.size 0 _ _ _ N⟩,frozen_of_row q w.heap.size 0 _ _ N⟩,by simp⟩) (by simp) hC 1 rfl)
 have aE:Hid (∀ n:Nat,(q.setCell ⟨w.heap.size,0,none⟩ (.int .i64 (n:Int))).cell? ⟨w.heap.size,0,none⟩=some (.int .i64 (n:Int))):=ZZ (fun n=>World.cell?_setCell_same _ _ _ (cell_of_row q w.heap.size 0 _ _ _ N))
 have ar:Hid (∀ ns,Below w.heap.size w (Zca q ([(w.heap.size,0)].take (List.length ns)) ns)):=ZZ (fun ns=>Zel q _ ns _ w (fun p hp=>by
  have:=mem_of_mem_take hp;rw[List.mem_singleton.1 this]
  exact Nat.le_refl _) ad.o)
 have aT:=ZZ (fun v1 l W h=>Zqu v1 l W h)
 have S:=ZZ (ZpJ (b:=b));have L:Hid ((Zab b).2=0->ZeY b=none):=ZZ (fun h=>by unfold ZeY;rw[if_pos (.inl h)])
 have ab:=ZZ (fun ns l h=>ZlG (b:=b) (ns:=ns) (l:=l) h)
 have ah:=ZZ (fun h=>ZlH (b:=b) h)
 have hd:=Zcj b
 have a9:(Zab b).1<4611686018427387904:=by
  rcases Zay b with h | h
  ·rw[h];decide
  ·exact h.1
 have aw:Hid ([(w.heap.size,0)].length=1):=ZZ rfl;rw[aw.o] at af;generalize Zcu 1 b=GL at *;obtain⟨F,aG⟩:∃ F,F=ZeY b:=⟨_,rfl⟩;rw[<-aG] at S L ⊢;clear aG;have ac:=ZZ P;obtain⟨va,vc,hv⟩:∃ a c,v=.slice a b.length c:=by obtain⟨a,c,h,-⟩:=P;exact⟨a,c,h⟩
 subst hv;clear P N hC aw
 go_enter func165,ntmps165
 go_wp2_with fail
 rw[<-T];refine af.o.mono ?_;rintro e g ⟨v1,l,ns,rfl,aN,ai,al,aL,aC,R⟩;have i:Hid (Below w.heap.size w g):=ZZ ((ar.o ns).trans (R.below _));have aI:=ZZ aN;obtain⟨a1,c1,aV⟩:∃ a c,v1=.slice a l.length c:=by obtain⟨a,c,h,-⟩:=aN g (ac.o.below i.o zL);exact⟨a,c,h⟩
 subst aV;clear af ar ad T
 cases GL with
 | none=>
  have j:=ZZ (L.o (ah.o rfl));have aZ:=ai rfl;subst aZ;clear ai al aL aC R S L ah ab;show _;go_wp2
  go_loopw[4,6,7] (fun v4 K D wr=>v4=.slice none 0 0∧D=.bool false∧Hid (Below w.heap.size w wr)) (fun _ K D _=>ZBS K D)
  case atStart=>exact⟨rfl,rfl,i⟩
  case round=>
   obtain⟨rfl,rfl,m⟩:=hrel;go_wp2;go_ret2;rw[j.o];exact⟨_,[],rfl,Zbt.nil _ _,(fun r h=>by simp at h),(fun t h=>by cases h),m.out⟩
 | some gp=>
  have:=al gp rfl;subst this;obtain⟨g1,g2,g3⟩:=ab.o _ _ rfl;subst g2;have Z:=ZZ (S.o g1);rw[<-g3] at Z;have bc:l.length<=b.length:=by rw[g3,length_drop];omega
  have aa:g.cell? ⟨w.heap.size,0,none⟩=some (.int .i64 ((Zab b).1:Int)):=by
   rw[R.cell];exact aE.o _
  have a6:=ZZ aa;have aS:w.heap.size<g.heap.size:=World.block_lt_of_cell? g ⟨w.heap.size,0,none⟩ aa;generalize (Zab b).1=f at *;clear ai al aL aC R S L ah ab g1 g3 hd aE aa;obtain⟨u,aq⟩:∃ u,u=Zeq f l:=⟨_,rfl⟩;rw[<-aq] at Z
  have ay:Hid (u=(Zeq (f-0) l).map (fun r=>([]++r.1,r.2))):=ZZ (by
   rw[aq,Nat.sub_zero]
   cases Zeq f l <;> rfl)
  clear aq;go_wp2
  go_loopw[4,6,7] (fun v4 K D wr=>∃ (t:List Ent) (d:List UInt8) (O:Option Addr) (M:Nat) (H:Bool),K=.slice O d.length M∧D=.bool H∧t.length<=b.length+1∧Hid (H=true->t.length+d.length<=b.length∧t.length<=f)∧Hid (Zbt wr g.heap.size v4 t)∧Hid (∀ e ∈ t,Zod e)∧Hid (∀ W,Rd W (.slice va b.length vc) b->Rd W (.slice O d.length M) d)∧Hid (H=true->u=(Zeq (f-t.length) d).map (fun r=>(t++r.1,r.2)))∧Hid (H=false->u=none)∧Hid (Below g.heap.size g wr)) (fun _ K D _=>ZBS K D)
  case atStart=>exact⟨[],l,a1,c1,true,rfl,rfl,by simp,ZZ (fun _=>⟨by simp;omega,Nat.zero_le _⟩),ZZ (Zbt.nil _ _),ZZ (fun e h=>by simp at h),aI,ZZ (fun _=>ay.o),ZZ (fun h=>by cases h),Below.refl _ _⟩
  case round=>
   clear ay aI;obtain⟨t,d,O,M,H,rfl,rfl,ba,hL,E,V,hV,hT,hN,m⟩:=hrel;have hR:Hid (Rd wr (.slice O d.length M) d):=ZZ (hV.out wr ((ac.o.below i.o zL).below m.out zL));obtain⟨oa,oc,aX⟩:=E.out.shape;subst aX;have bb:wr.cell? ⟨w.heap.size,0,none⟩=some (.int .i64 (f:Int)):=(m.out.cell (p:=⟨w.heap.size,0,none⟩) aS).trans a6.o
   cases H with
   | false=>
    have j:Hid (F=none):=ZZ (by rw[Z.o,hN.out rfl];rfl)
    go_wp2;go_ret2;rw[j.o];exact⟨_,t,rfl,E.out.mono i.o.size,V.out,(fun t h=>by cases h),i.o.trans (m.out.mono i.o.size)⟩
   | true=>
    obtain⟨bg,bf⟩:=hL.out rfl;by_cases be:t.length<f
    case neg=>
     have bh:¬ (t.length:Int)<(f:Int):=by omega
     have a8:Hid (u=some (t,d)):=ZZ (by
      rw[hT.out rfl,show f-t.length=0 by omega]
      simp[Zeq])
     have aP:Hid (F=if d=[] then some t else none):=ZZ (by rw[Z.o,a8.o];rfl)
     by_cases U:d.length=0
     ·have j:Hid (F=some t):=ZZ (by rw[aP.o,if_pos (List.eq_nil_of_length_eq_zero U)])
      have a4:((d.length:Int) == 0)=true:=by rw[beq_iff_eq];omega
      clear U;go_wp2;go_ret2;rw[j.o];exact⟨_,t,rfl,E.out.mono i.o.size,V.out,(fun t' h=>by injection h),i.o.trans (m.out.mono i.o.size)⟩
     ·have j:Hid (F=none):=ZZ (by
       rw[aP.o,if_neg (fun e=>U (by rw[e];rfl))])
      have a4:((d.length:Int) == 0)=false:=beq_eq_false_iff_ne.2 (by omega)
      clear U;go_wp2;go_ret2;rw[j.o];exact⟨_,t,rfl,E.out.mono i.o.size,V.out,(fun t' h=>by cases h),i.o.trans (m.out.mono i.o.size)⟩
    have bi:(t.length:Int)<(f:Int):=by omega
    have aF:f-t.length=(f-(t.length+1))+1:=by omega
    have aj:Hid (u=((ZmC d).bind (fun y=>(Zeq (f-(t.length+1)) y.2).map (fun r=>(y.1::r.1,r.2)))).map (fun r=>(t++r.1,r.2))):=ZZ (by
     rw[hT.out rfl,aF,Zsq])
    have av:=ZZ (fun y h=>Zvr (b:=d) (y:=y) h)
    have Y:=ZZ (aT.o _ d (wr.alloc (.cells #[.int .i64 0,.int .i64 0,.int .i64 0] 85)) (hR.out.below ((Below.refl _ _).alloc zL _) zL));have ap:Hid (Below g.heap.size g (wr.alloc (.cells #[.int .i64 0,.int .i64 0,.int .i64 0] 85))):=ZZ (m.out.alloc m.out.size _);have aD:Hid (Be (wr.alloc (.cells #[.int .i64 0,.int .i64 0,.int .i64 0] 85)) wr.heap.size #[.int .i64 0,.int .i64 0,.int .i64 0]):=ZZ (heap_alloc_new wr _);have aR:Hid (Zbt (wr.alloc (.cells #[.int .i64 0,.int .i64 0,.int .i64 0] 85)) g.heap.size (.slice oa t.length oc) t):=ZZ (E.out.below ((Below.refl _ _).alloc zL _) zL);have ag:Hid (∀ k,(Value.slice oa t.length oc).ownBlock=some k->k<wr.heap.size):=ZZ (fun k hk=>(World.ownsRow.lt E.out k hk).2)
    obtain⟨SS,aK⟩:∃ SS,SS=ZmC d:=⟨_,rfl⟩;unfold ZCw at Y;rw[<-aK] at aj av Y;have ak:=m.out.size;clear aK hT hN hL hR E m aF
    go_wp2_with fail
    refine Y.o.mono ?_;rintro e W2 ⟨x,v2,I,rfl,au,aM,a0,X⟩;have G:=ZZ (aD.o.below X zL);have am:=ZZ (ap.o.trans (X.mono ap.o.size));have aB:=ZZ (aR.o.below X zL);have aW:=ZZ au;have ao:=ZZ (fun W h=>aM W (hV.out W h))
    obtain⟨a3,c3,a7⟩:∃ a c,v2=.slice a I.length c:=by obtain⟨a,c,h,-⟩:=ao.o g (ac.o.below i.o zL);exact⟨a,c,h⟩
    subst a7;obtain⟨A,z,B⟩:=x;obtain⟨e0,f0⟩:=G.o.cell 0;obtain⟨e1,f1⟩:=G.o.cell 1;obtain⟨e2,f2⟩:=G.o.cell 2;obtain⟨C,aQ⟩:∃ C,C=wr.heap.size:=⟨_,rfl⟩;rw[<-aQ] at G ag e0 e1 e2 f0 f1 f2 ak ⊢;clear aQ;obtain⟨J,Q⟩:∃ J,J=((W2.setCell ⟨C,0,none⟩ (.int .i64 A)).setCell ⟨C,1,none⟩ (.int .i64 z)).setCell ⟨C,2,none⟩ (.int .i64 B):=⟨_,rfl⟩;have an:Hid (Be J C #[.int .i64 A,.int .i64 z,.int .i64 B]):=ZZ (by rw[Q];exact((G.o.set 0 _).set 1 _).set 2 _)
    have ae:Hid (But C C W2 J):=ZZ (by rw[Q];exact(((But.refl _ _ _).set _ _ (.inl rfl) _).set _ _ (.inl rfl) _).set _ _ (.inl rfl) _)
    have aY:Hid (Zbt J g.heap.size (.slice oa t.length oc) t):=ZZ (aB.o.butD ae.o (fun k hk=>by have:=ag.o k hk;omega))
    have aH:=ZZ (ZcQ am.o ae.o am.o.size ak ak);have a5:g.heap.size<=J.heap.size:=aH.o.size;unfold ZuC
    dsimp only
    go_upto_region 7 with fail
    rw[<-Q];obtain⟨x0,-⟩:=an.o.cell 0;obtain⟨x1,-⟩:=an.o.cell 1;obtain⟨x2,-⟩:=an.o.cell 2;clear Q e0 e1 e2 f0 f1 f2 au aM X G am aB Y ap aD aR ag ae
    go_wp2_with(at_builtin;refine ZiF _ rfl _ _ rfl g.heap.size _ t rfl aY.o ⟨A,z,B⟩ rfl (by omega) a5 ?_)
    intro v5 W5 az ax;have aA:=ZZ az;have aJ:=ZZ (aH.o.trans ax)
    have aO:Hid (∀ e ∈ t++[(⟨A,z,B⟩:Ent)],Zod e):=ZZ (fun e he=>by
     rcases List.mem_append.1 he with h | h
     ·exact V.out e h
     ·rw[List.mem_singleton.1 h];exact aW.o)
    clear az ax
    cases SS with
    | none=>
     have j:Hid (u=none):=ZZ (by rw[aj.o];rfl)
     go_wp2;go_roundw
     case rel=>exact⟨t++[⟨A,z,B⟩],I,a3,c3,false,rfl,rfl,by simp;omega,ZZ (fun h=>by cases h),aA,aO,ao,ZZ (fun h=>by cases h),ZZ (fun _=>j.o),aJ⟩
     case measure=>show 0<d.length+1;omega
    | some y=>
     have hy:=a0 y rfl;subst hy;have aU:=av.o _ rfl
     dsimp only at aU
     have j:Hid (u=(Zeq (f-(t++[(⟨A,z,B⟩:Ent)]).length) I).map (fun r=>((t++[⟨A,z,B⟩])++r.1,r.2))):=ZZ (by
      rw[aj.o,length_append,List.length_singleton,Option.bind_some]
      cases Zeq (f-(t.length+1)) I with
      | none=>rfl
      | some r=>simp)
     go_wp2;go_roundw
     case rel=>exact⟨t++[⟨A,z,B⟩],I,a3,c3,true,rfl,rfl,by simp;omega,ZZ (fun _=>⟨by simp;omega,by simp;omega⟩),aA,aO,ao,ZZ (fun _=>j.o),ZZ (fun h=>by cases h),aJ⟩
     case measure=>show I.length+1<d.length+1;omega
theorem Zem:Zah []=(0,0):=by
 rcases ZbO [] with h | h
 ·exact h
 ·have b:=h.2.1
  have a:=h.2.2.1;simp at a;omega
theorem Zgh:Zab []=(0,0):=by
 rcases Zay [] with h | h
 ·exact h
 ·have b:=h.2.1
  have a:=h.2.2.1;simp at a;omega
theorem Zns (h:(Zab l).2=0):(Zab l).1=0:=by
 rcases Zay l with e | e
 ·rw[e]
 ·omega
theorem Znt (h:(Zah l).2=0):zag (Zah l).1=0:=by
 rcases ZbO l with e | e
 ·rw[e];rfl
 ·omega
theorem ZlI (l:List UInt8):behind 0 l=[]:=rfl
theorem Zbh {d:Nat} (h:d≠0) (l:List UInt8):behind d l=l.drop d:=if_neg h
theorem ZbT (d:Nat) (l:List UInt8):(behind d l).length<=l.length:=by
 unfold behind;split
 ·simp
 ·simp
theorem Zqv (l:List UInt8):
 ((Zah (behind (Zah (behind (Zab l).2 l)).2 (behind (Zab l).2 l))).2=0->ZaC l=(⟨0,0,0⟩,0))∧
 ((Zah (behind (Zah (behind (Zab l).2 l)).2 (behind (Zab l).2 l))).2≠0->ZaC l=if Zdy ⟨((Zab l).1:Int),zag (Zah (behind (Zab l).2 l)).1,zag (Zah (behind (Zah (behind (Zab l).2 l)).2 (behind (Zab l).2 l))).1⟩ then(⟨((Zab l).1:Int),zag (Zah (behind (Zab l).2 l)).1,zag (Zah (behind (Zah (behind (Zab l).2 l)).2 (behind (Zab l).2 l))).1⟩,l.length-(behind (Zah (behind (Zah (behind (Zab l).2 l)).2 (behind (Zab l).2 l))).2 (behind (Zah (behind (Zab l).2 l)).2 (behind (Zab l).2 l))).length) else(⟨0,0,0⟩,0)):=by
 by_cases b:(Zab l).2=0
 ·have e:behind (Zab l).2 l=[]:=by rw[b];rfl
  rw[e,Zem];simp only [ZlI,Zem,ne_eq,not_true_eq_false,false_imp_iff,and_true,true_imp_iff];unfold ZaC;rw[if_pos (.inl b)]
 ·have e:behind (Zab l).2 l=l.drop (Zab l).2:=Zbh b l
  rw[e];by_cases a:(Zah (l.drop (Zab l).2)).2=0
  ·have g:behind (Zah (l.drop (Zab l).2)).2 (l.drop (Zab l).2)=[]:=by rw[a];rfl
   rw[g,Zem];simp only [ne_eq,not_true_eq_false,false_imp_iff,and_true,true_imp_iff];unfold ZaC;rw[if_pos (.inr (.inl a))]
  ·have g:behind (Zah (l.drop (Zab l).2)).2 (l.drop (Zab l).2)=l.drop ((Zab l).2+(Zah (l.drop (Zab l).2)).2):=by rw[Zbh a,drop_drop]
   rw[g];refine⟨fun d=>?_,fun d=>?_⟩
   ·unfold ZaC
    rw[if_pos (.inr (.inr (.inl d)))]
   ·have p:=Zcj l
    have n:=ZcM (l.drop (Zab l).2);have m:=ZcM (l.drop ((Zab l).2+(Zah (l.drop (Zab l).2)).2));simp only [length_drop] at n m;rw[Zbh d,drop_drop,length_drop];unfold ZaC;generalize (Zah (l.drop ((Zab l).2+(Zah (l.drop (Zab l).2)).2))).2=k at *;generalize zag (Zah (l.drop ((Zab l).2+(Zah (l.drop (Zab l).2)).2))).1=y at *;generalize (Zah (l.drop (Zab l).2)).2=j at *;generalize zag (Zah (l.drop (Zab l).2)).1=x at *;generalize (Zab l).2=i at *;generalize (Zab l).1=c at *;by_cases f:Zdy ⟨(c:Int),x,y⟩
    ·rw[if_neg (by rintro(h | h | h | h);exact b h;exact a h;exact d h;exact h f),if_pos f]
     congr 1
     omega
    ·rw[if_pos (.inr (.inr (.inr f))),if_neg f]
structure GIn (w W:World) (c a b:Int) (vb:Value) (m:List UInt8):Prop where
 res:Bo W w.heap.size #[.int .i64 0,.int .i64 0,.int .i64 0]
 box:Bo W (w.heap.size+1) #[.int .i64 c,.int .i64 a,.int .i64 b]
 cap:Bb W (w.heap.size+1+1) vb
 rd:Rd W vb m
 below:Below w.heap.size w W
theorem GIn.next {b:Int} (h:GIn w W c a b e m) (d:But (w.heap.size+1+1) (w.heap.size+1+1) W W') (g:Bb W' (w.heap.size+1+1) v') (f:Rd W' v' m'):GIn w W' c a b v' m':=by
 have i:=h.cap.lt;exact⟨(d.block _ (by omega) (by omega) (by omega)).trans h.res,(d.block _ (by omega) (by omega) (by omega)).trans h.box,g,f,ZcQ h.below d (by omega) (by omega) (by omega)⟩
theorem Rd.setInt (h:Rd w v m) {b j:Nat} {n:Int} (f:w.cell? ⟨b,j,none⟩=some (.int .i64 n)):Rd (w.setCell ⟨b,j,none⟩ x) v m:=by
 obtain⟨u,z,A,q,l,t,a⟩:=h;refine⟨u,z,A,q,l,t,?_⟩;rcases a with a | ⟨c,d,y,p⟩
 ·exact .inl a
 ·refine .inr ⟨c,d,y,fun k i=>?_⟩
  have g:=p k i
  rw[World.cell?_setCell_other w ⟨b,j,none⟩ ⟨c,d+k,none⟩ x (fun e=>by
   rw[e,g] at f
   simp at f)]
  exact g
theorem GIn.store {b c' a' b':Int} (h:GIn w W c a b d m) (j:Nat) (x:Int) {n:Int} (f:(#[Value.int .i64 c,.int .i64 a,.int .i64 b]:Array Value)[j]?=some (.int .i64 n)) (e:(#[Value.int .i64 c,.int .i64 a,.int .i64 b]:Array Value).setIfInBounds j (.int .i64 x)=#[.int .i64 c',.int .i64 a',.int .i64 b']):
 GIn w (W.setCell ⟨w.heap.size+1,j,none⟩ (.int .i64 x)) c' a' b' d m:=by
 have g:=h.cap.lt;refine⟨(Below.heap_setCell _ _ _ _ (by show w.heap.size≠w.heap.size+1;omega)).trans h.res,?_,(Below.heap_setCell _ _ _ _ (by show w.heap.size+1+1≠w.heap.size+1;omega)).trans h.cap,h.rd.setInt (((h.box.cell j).1).trans f),h.below.setCell (by show w.heap.size<=w.heap.size+1;omega) _⟩
 have:=heap_setCell_same W (w.heap.size+1) j _ _ (.int .i64 x) h.box;unfold Bo;rw[<-e];simpa using this
theorem GIn.more {b:Int} (h:GIn w W c a b e m) (d:Below W.heap.size W W'):GIn w W' c a b e m:=by
 have f:=h.cap.lt;exact⟨(d.block _ (by omega)).trans h.res,(d.block _ (by omega)).trans h.box,(d.block _ (by omega)).trans h.cap,h.rd.below d zL,h.below.trans (d.mono h.below.size)⟩
theorem Zgx (W:World) (b:Nat) (a e d:Value) (c i:Nat) (h:b≠c):(((W.setCell ⟨b,0,none⟩ a).setCell ⟨b,1,none⟩ e).setCell ⟨b,2,none⟩ d).drew.cell? ⟨c,i,none⟩=W.cell? ⟨c,i,none⟩:=by
 show(((W.setCell ⟨b,0,none⟩ a).setCell ⟨b,1,none⟩ e).setCell ⟨b,2,none⟩ d).cell? ⟨c,i,none⟩=_;rw[World.cell?_setCell_far _ _ _ _ h,World.cell?_setCell_far _ _ _ _ h,World.cell?_setCell_far _ _ _ _ h]
theorem ZxQ (v:Value) (l:List UInt8) (w:World) (S:Rd w v l) (aA:l.length<=1000000):
 Calls prog 209 #[v] w fun e w'=>ZwY w l e w':=by
 obtain⟨n,q,rfl⟩:∃ n q,v=.slice n l.length q:=by
  obtain⟨n,q,rfl,_⟩:=S;exact⟨n,q,rfl⟩
 have HR:=ZZ S;clear S;have J:Hid (∀ W f,Bb W (w.heap.size+1+1) f->Rd W f l->Calls prog 218 #[.func (.func 168) #[] #[],.pointer (some ⟨w.heap.size+1+1,0,none⟩)] W fun e w'=>∃ v',e=.returned (.tuple #[.int .i64 ((Zab l).1:Nat),.bool (decide ((Zab l).2≠0))])∧Bb w' (w.heap.size+1+1) v'∧Rd w' v' (behind (Zab l).2 l)∧But (w.heap.size+1+1) (w.heap.size+1+1) W w'):=fun W f T D=>ZtD _ _ _ _ _ W T D (Zcj l) (fun h=>by rw[Zns h];rfl) (ZfY f l W D)
 have ad:Hid (∀ m W f,Bb W (w.heap.size+1+1) f->Rd W f m->Calls prog 218 #[.func (.func 201) #[] #[],.pointer (some ⟨w.heap.size+1+1,0,none⟩)] W fun e w'=>∃ v',e=.returned (.tuple #[.int .i64 (zag (Zah m).1),.bool (decide ((Zah m).2≠0))])∧Bb w' (w.heap.size+1+1) v'∧Rd w' v' (behind (Zah m).2 m)∧But (w.heap.size+1+1) (w.heap.size+1+1) W w'):=fun m W f T D=>ZlD _ _ _ _ _ W T D (ZcM m) Znt (ZcV f m W D)
 have u:=ZZ (Zqv l);have U:=ZZ (ZbT (Zab l).2 l);obtain⟨g,aj⟩:∃ g,g=behind (Zab l).2 l:=⟨_,rfl⟩;rw[<-aj] at u J U;have Q:=ZZ (ad.o g);have ab:=ZZ (ZbT (Zah g).2 g);obtain⟨p,al⟩:∃ p,p=behind (Zah g).2 g:=⟨_,rfl⟩;rw[<-al] at u Q ab;have ac:=ZZ (ad.o p);have aa:=ZZ (ZbT (Zah p).2 p);obtain⟨b,aw⟩:∃ b,b=behind (Zah p).2 p:=⟨_,rfl⟩;rw[<-aw] at u ac aa;have aB:b.length<=l.length:=Nat.le_trans aa.o (Nat.le_trans ab.o U.o);clear aj al aw ad U ab aa;unfold ZwY;generalize ZaC l=R at *;generalize (Zab l).1=c at *;generalize (Zab l).2=i at *;generalize zag (Zah g).1=x at *;generalize (Zah g).2=j at *;generalize zag (Zah p).1=y at *;generalize (Zah p).2=k at *;obtain⟨C,hC⟩:∃ C:Int,C=(c:Int):=⟨_,rfl⟩;rw[<-hC] at J u;have HF:Hid (∀ W,Calls prog 80 #[.agg #[.int .i64 C,.int .i64 x,.int .i64 y]] W fun e w'=>e=.returned (.bool (decide (Zdy ⟨C,x,y⟩)))∧Below W.heap.size W w'):=fun W=>Zom ⟨C,x,y⟩ W
 have am:=ZZ (fun W=>ZlC n l.length q W)
 have ae:Hid (∀ W X Y,X=.cells #[.int .i64 0,.int .i64 0,.int .i64 0] 52->Y=.cells #[.int .i64 0,.int .i64 0,.int .i64 0] 52->W=((w.alloc X).alloc Y).alloc (.cells #[.slice n l.length q] 53)->GIn w W 0 0 0 (.slice n l.length q) l):=fun W X Y hX hY hW=>by
  subst hX hY hW;have b1:Below w.heap.size w (((w.alloc (.cells #[.int .i64 0,.int .i64 0,.int .i64 0] 52)).alloc (.cells #[.int .i64 0,.int .i64 0,.int .i64 0] 52)).alloc (.cells #[.slice n l.length q] 53)):=(((Below.refl _ _).alloc zL _).alloc (by simp) _).alloc (by simp;omega) _
  refine⟨?_,?_,?_,HR.o.below b1 zL,b1⟩
  ·exact(Below.heap_alloc _ _ _ (by simp;omega)).trans ((Below.heap_alloc _ _ _ (by simp)).trans (heap_alloc_new w _))
  ·exact(Below.heap_alloc _ _ _ (by simp)).trans (ZrF w _ _)
  ·have h:=heap_alloc_new ((w.alloc (.cells #[.int .i64 0,.int .i64 0,.int .i64 0] 52)).alloc (.cells #[.int .i64 0,.int .i64 0,.int .i64 0] 52)) (.cells #[.slice n l.length q] 53)
   have e:((w.alloc (.cells #[.int .i64 0,.int .i64 0,.int .i64 0] 52)).alloc (.cells #[.int .i64 0,.int .i64 0,.int .i64 0] 52)).heap.size=w.heap.size+1+1:=by simp
   rw[e] at h;exact h
 clear hC
 go_enter func209,ntmps209
 go_wp2_with fail
 refine(am.o _).mono ?_;rintro e W1 ⟨rfl,an⟩;have F:=ZZ (ae.o W1 _ _ rfl rfl an);clear an ae am
 go_wp2_with fail
 refine(J.o _ _ F.out.cap F.out.rd).mono ?_;rintro e W2 ⟨v2,rfl,ax,av,af⟩;have G2:=ZZ (F.out.next af ax av);obtain⟨p0,f0⟩:=G2.out.box.cell 0;clear ax av af F J;have N:=ZZ (G2.out.store (c':=C) (a':=0) (b':=0) 0 C rfl rfl)
 go_wp2_with fail
 refine(Q.o _ _ N.o.cap N.o.rd).mono ?_;rintro e W3 ⟨v3,rfl,ag,aq,ap⟩;have G3:=ZZ (N.o.next ap ag aq);obtain⟨p1,f1⟩:=G3.out.box.cell 1;clear ag aq ap G2 N Q p0 f0;have H:=ZZ (G3.out.store (c':=C) (a':=x) (b':=0) 1 x rfl rfl)
 go_wp2_with fail
 refine(ac.o _ _ H.o.cap H.o.rd).mono ?_;rintro e W4 ⟨v4,rfl,ar,au,ak⟩;have M:=ZZ (H.o.next ak ar au);obtain⟨p2,f2⟩:=M.out.box.cell 2;clear ar au ak G3 H ac p1 f1;have d:=ZZ (M.out.store (c':=C) (a':=x) (b':=y) 2 y rfl rfl);by_cases B:k=0
 ·have z:Hid (R=(⟨0,0,0⟩,0)):=u.o.1 B
  rw[decide_eq_false (fun h=>h B)]
  obtain⟨K,g0⟩:=d.o.res.cell 0;obtain⟨L,g1⟩:=d.o.res.cell 1;obtain⟨E,g2⟩:=d.o.res.cell 2;have P:=ZZ d.o.below;clear B M;go_wp2;refine bodyPost_ret (v:=.tuple #[.agg #[.int .i64 0,.int .i64 0,.int .i64 0],.int .i64 0]) (by simp[results,Tryz.results209,go_sem,K,L,E]) rfl ?_
  rw[z.o];exact⟨rfl,((P.o.setCell zL _).setCell zL _).setCell zL _⟩
 ·have z:=ZZ (u.o.2 B)
  rw[decide_eq_true B];obtain⟨O,-⟩:=d.o.box.cell 0;obtain⟨G,-⟩:=d.o.box.cell 1;obtain⟨I,-⟩:=d.o.box.cell 2;clear B u
  go_wp2_with fail
  refine(HF.o _).mono ?_;rintro e t ⟨rfl,ah⟩;have a:=ZZ (d.o.more ah);clear ah d M O G I p2 f2;obtain⟨K,g0⟩:=a.out.res.cell 0;obtain⟨L,g1⟩:=a.out.res.cell 1;obtain⟨E,g2⟩:=a.out.res.cell 2;have P:=ZZ a.out.below;by_cases A:Zdy ⟨C,x,y⟩
  ·rw[decide_eq_true A]
   rw[if_pos A] at z;obtain⟨O,-⟩:=a.out.box.cell 0;obtain⟨G,-⟩:=a.out.box.cell 1;obtain⟨I,-⟩:=a.out.box.cell 2;have hc:=a.out.cap.cell.1;obtain⟨Z,V,rfl,-⟩:=a.out.rd;have HL:=ZZ (fun W h=>ZtC (w.heap.size+1+1) Z b.length V W h)
   have ao:IntKind.i64.wrap ((l.length:Int)-(b.length:Int))=((l.length-b.length:Nat):Int):=by rw[IntKind.wrap_i64];omega
   have az:=ZZ ao;have ay:=ZZ (⟨O,G,I,hc⟩:t.drew.cell? ⟨w.heap.size+1,0,none⟩=some (.int .i64 C)∧t.drew.cell? ⟨w.heap.size+1,1,none⟩=some (.int .i64 x)∧t.drew.cell? ⟨w.heap.size+1,2,none⟩=some (.int .i64 y)∧t.drew.cell? ⟨w.heap.size+1+1,0,none⟩=some (.slice Z b.length V));have ai:=ZZ (⟨(Zgx t w.heap.size (.int .i64 C) (.int .i64 x) (.int .i64 y) _ _ (by omega)).trans O,(Zgx t w.heap.size (.int .i64 C) (.int .i64 x) (.int .i64 y) _ _ (by omega)).trans G,(Zgx t w.heap.size (.int .i64 C) (.int .i64 x) (.int .i64 y) _ _ (by omega)).trans I,(Zgx t w.heap.size (.int .i64 C) (.int .i64 x) (.int .i64 y) (w.heap.size+1+1) 0 (by omega)).trans hc⟩:_∧_∧_∧_)
   clear A a ao HF;go_wp2
   go_region_held(fun w'=>w'.cell? ⟨w.heap.size+1,0,none⟩=some (.int .i64 C)∧w'.cell? ⟨w.heap.size+1,1,none⟩=some (.int .i64 x)∧w'.cell? ⟨w.heap.size+1,2,none⟩=some (.int .i64 y)∧w'.cell? ⟨w.heap.size+1+1,0,none⟩=some (.slice Z b.length V)) (first | exact ay.o | exact ai.o)
    (first
     | (go_at_call 219;refine(HL.o _ (by first | exact ay.o.2.2.2 | exact ai.o.2.2.2)).mono ?_;rintro e w' ⟨rfl,rfl⟩))
   all_goals
    go_wp2;refine bodyPost_ret (v:=.tuple #[.agg #[.int .i64 C,.int .i64 x,.int .i64 y],.int .i64 (IntKind.i64.wrap ((l.length:Int)-(b.length:Int)))]) (by simp[results,Tryz.results209,go_sem,K,L,E]) rfl ?_
    rw[z.o,az.o];exact⟨rfl,((((P.o.setCell zL _).setCell zL _).setCell zL _)).drew⟩
  ·rw[decide_eq_false A]
   rw[if_neg A] at z;clear A a;go_wp2;refine bodyPost_ret (v:=.tuple #[.agg #[.int .i64 0,.int .i64 0,.int .i64 0],.int .i64 0]) (by simp[results,Tryz.results209,go_sem,K,L,E]) rfl ?_
   rw[z.o];exact⟨rfl,((P.o.setCell zL _).setCell zL _).setCell zL _⟩
def Zdp (w:World) (r:St × Int) (e:Ending) (w':World):Prop:=
 ∃ vl,e=.returned (.tuple #[.agg #[.int .i64 r.1.kind,vl,.bool r.1.shut,.int .i64 r.1.eng],.int .i64 r.2])∧RdI w' vl r.1.L∧I64 r.1.kind∧I64 r.1.eng∧(∀ b,vl.ownBlock=some b->w.heap.size<=b)∧Below w.heap.size w w'
theorem Zdp.zero (n:Int) (a:Below w.heap.size w w'):Zdp w (ZfQ,n) (.returned (.tuple #[.agg #[.int .i64 0,.slice none 0 0,.bool false,.int .i64 0],.int .i64 n])) w':=
 ⟨_,rfl,RdI.nil _,(Zai (by decide) (by decide):I64 0),(Zai (by decide) (by decide):I64 0),fun b a=>by simp[Value.ownBlock] at a,a⟩
theorem Zgi:∀ (a b:Nat) (l:List UInt8),ZdL (a+b) l=(ZdL a l).bind fun x=>(ZdL b (l.drop x.2)).map fun y=>(x.1++y.1,x.2+y.2)
 | 0,b,l=>by
  rw[Nat.zero_add,ZdL];simp
 | a+1,b,l=>by
  rw[Nat.add_right_comm,ZdL,ZdL,Zgi a b];by_cases h:(Zah l).2=0
  ·rw[if_pos h,if_pos h]
   rfl
  ·rw[if_neg h,if_neg h]
   cases ZdL a (l.drop (Zah l).2) with
   | none=>rfl
   | some x=>
    obtain⟨xs,u⟩:=x;simp only [Option.bind_some,Option.map_some,drop_drop]
    cases ZdL b (l.drop ((Zah l).2+u)) with
    | none=>rfl
    | some y=>simp[Nat.add_assoc]
theorem Zqw (l:List UInt8):ZdL 1 l=if(Zah l).2=0 then none else some ([zag (Zah l).1],(Zah l).2):=by
 rw[ZdL];split
 ·rfl
 ·rfl
theorem Zvs (h:ZdL k l=some (xs,u)) (a:(Zah (l.drop u)).2≠0):ZdL (k+1) l=some (xs++[zag (Zah (l.drop u)).1],u+(Zah (l.drop u)).2):=by
 rw[Zgi,h];simp only [Option.bind_some];rw[Zqw,if_neg a];rfl
theorem Zvt {m:Nat} (h:ZdL k l=some (xs,u)) (a:(Zah (l.drop u)).2=0) (b:k<m):ZdL m l=none:=by
 obtain⟨d,rfl⟩:∃ d,m=k+1+d:=⟨m-(k+1),by omega⟩
 rw[Zgi,Zgi k 1,h];simp only [Option.bind_some];rw[Zqw,if_pos a];rfl
theorem Zsr (l:List UInt8):
 ((Zab (behind (Zab (behind (Zab l).2 l)).2 (behind (Zab l).2 l))).2=0∨3<(Zab (behind (Zab l).2 l)).1∨128<(Zab (behind (Zab (behind (Zab l).2 l)).2 (behind (Zab l).2 l))).1->Zil l=(ZfQ,3))∧
 (¬ ((Zab (behind (Zab (behind (Zab l).2 l)).2 (behind (Zab l).2 l))).2=0∨3<(Zab (behind (Zab l).2 l)).1∨128<(Zab (behind (Zab (behind (Zab l).2 l)).2 (behind (Zab l).2 l))).1)->
  Zil l=Zpb (Zab l).1 (Zab (behind (Zab l).2 l)).1 (Zab (behind (Zab (behind (Zab l).2 l)).2 (behind (Zab l).2 l))).1 (behind (Zab (behind (Zab (behind (Zab l).2 l)).2 (behind (Zab l).2 l))).2 (behind (Zab (behind (Zab l).2 l)).2 (behind (Zab l).2 l)))):=by
 by_cases b:(Zab l).2=0
 ·have e:behind (Zab l).2 l=[]:=by rw[b];rfl
  rw[e,Zgh];simp only [ZlI,Zgh];refine⟨fun _=>?_,fun h=>absurd (Or.inl trivial) h⟩
  unfold Zil;rw[if_pos (.inl b)]
 ·have e:behind (Zab l).2 l=l.drop (Zab l).2:=Zbh b l
  rw[e];by_cases a:(Zab (l.drop (Zab l).2)).2=0
  ·have d:behind (Zab (l.drop (Zab l).2)).2 (l.drop (Zab l).2)=[]:=by rw[a];rfl
   rw[d,Zgh];refine⟨fun _=>?_,fun h=>absurd (Or.inl rfl) h⟩
   unfold Zil;rw[if_pos (.inr (.inl a))]
  ·have d:behind (Zab (l.drop (Zab l).2)).2 (l.drop (Zab l).2)=l.drop ((Zab l).2+(Zab (l.drop (Zab l).2)).2):=by rw[Zbh a,drop_drop]
   rw[d];refine⟨fun c=>?_,fun c=>?_⟩
   ·unfold Zil
    rw[if_pos (.inr (.inr c))]
   ·have f:(Zab (l.drop ((Zab l).2+(Zab (l.drop (Zab l).2)).2))).2≠0:=fun h=>c (.inl h)
    unfold Zil;rw[if_neg (by rintro(h | h | h);exact b h;exact a h;exact c h),Zbh f,drop_drop]
structure SIn (w W:World) (kd:Int) (vl:Value) (sh:Bool) (g:Int) (vb:Value) (m:List UInt8):Prop where
 res:Bx W w.heap.size #[.int .i64 0,.slice none 0 0,.bool false,.int .i64 0]
 box:Bx W (w.heap.size+1) #[.int .i64 kd,vl,.bool sh,.int .i64 g]
 cap:Bb W (w.heap.size+1+1) vb
 rd:Rd W vb m
 below:Below w.heap.size w W
theorem SIn.next {c:Bool} {b:Value} (h:SIn w W kd b c g d m) (a:But (w.heap.size+1+1) (w.heap.size+1+1) W W') (f:Bb W' (w.heap.size+1+1) v') (e:Rd W' v' m'):SIn w W' kd b c g v' m':=by
 have i:=h.cap.lt;exact⟨(a.block _ (by omega) (by omega) (by omega)).trans h.res,(a.block _ (by omega) (by omega) (by omega)).trans h.box,f,e,ZcQ h.below a (by omega) (by omega) (by omega)⟩
theorem SIn.more {d:Bool} {c b:Value} (h:SIn w W kd c d g b m) (a:Below W.heap.size W W'):SIn w W' kd c d g b m:=by
 have e:=h.cap.lt;exact⟨(a.block _ (by omega)).trans h.res,(a.block _ (by omega)).trans h.box,(a.block _ (by omega)).trans h.cap,h.rd.below a zL,h.below.trans (a.mono h.below.size)⟩
theorem Rd.setElse {y:Value} (h:Rd w v m) {b j:Nat} (f:w.cell? ⟨b,j,none⟩=some y) (u:∀ n,y≠.int .u8 n):Rd (w.setCell ⟨b,j,none⟩ x) v m:=by
 obtain⟨z,B,C,q,l,t,a⟩:=h;refine⟨z,B,C,q,l,t,?_⟩;rcases a with a | ⟨c,d,A,p⟩
 ·exact .inl a
 ·refine .inr ⟨c,d,A,fun k i=>?_⟩
  have g:=p k i
  rw[World.cell?_setCell_other w ⟨b,j,none⟩ ⟨c,d+k,none⟩ x (fun e=>by
   rw[e,g] at f
   exact u _ (Option.some.inj f).symm)]
  exact g
theorem SIn.store {kd' g':Int} {b sh':Bool} {a vl' c:Value} (h:SIn w W kd a b g c m) (j:Nat) (x y:Value) (e:(#[Value.int .i64 kd,a,.bool b,.int .i64 g]:Array Value)[j]?=some y) (f:∀ n,y≠.int .u8 n) (d:(#[Value.int .i64 kd,a,.bool b,.int .i64 g]:Array Value).setIfInBounds j x=#[.int .i64 kd',vl',.bool sh',.int .i64 g']):
 SIn w (W.setCell ⟨w.heap.size+1,j,none⟩ x) kd' vl' sh' g' c m:=by
 have i:=h.cap.lt;refine⟨(Below.heap_setCell _ _ _ _ (by show w.heap.size≠w.heap.size+1;omega)).trans h.res,?_,(Below.heap_setCell _ _ _ _ (by show w.heap.size+1+1≠w.heap.size+1;omega)).trans h.cap,h.rd.setElse (((h.box.cell j).1).trans e) f,h.below.setCell (by show w.heap.size<=w.heap.size+1;omega) _⟩
 have:=heap_setCell_same W (w.heap.size+1) j _ _ x h.box;unfold Bx;rw[<-d];simpa using this
structure DIn (w W:World) (kd g:Int) (sh:Bool) (R:List UInt8) (cnt G k:Nat) (vb:Value) (m:List UInt8) (ys:List Int) (th:Bool):Prop where
 sin:SIn w W kd (.slice (some ⟨G,0,none⟩) cnt cnt) sh g vb m
 row:W.heap[G]?=some (.cells (Zal ys).toArray 3 (0,0))
 len:ys.length=cnt
 far:w.heap.size+1+1<G
 st:(th=true∧∃ u,ZdL k R=some (ys.take k,u)∧m=R.drop u)∨(th=false∧ZdL k R=none∧m=[])
theorem Zvu (h:ZdL k R=none):ZdL (k+1) R=none:=by
 rw[Zgi,h];rfl
theorem ZzK (a:List Int) (k:Nat) (x:Int) (b:k<a.length):(a.set k x).take (k+1)=a.take k++[x]:=by
 rw[List.take_add_one,List.take_set_of_le zL];simp[b]
theorem DIn.step {l:Bool} {f:Nat} {p:Value} {b:List Int} {q:Bool} (h:DIn w W kd g l R f G k p m b q) (A:k<f) (j:But (w.heap.size+1+1) (w.heap.size+1+1) W W') (z:Bb W' (w.heap.size+1+1) v') (y:Rd W' v' (behind (Zah m).2 m)):
 DIn w (W'.setCell ⟨G,k,none⟩ (.int .i64 (zag (Zah m).1))) kd g l R f G (k+1) v' (behind (Zah m).2 m) (b.set k (zag (Zah m).1)) (decide ((Zah m).2≠0)):=by
 have v:=h.far;have x:G<W.heap.size:=(Array.getElem?_eq_some_iff.1 h.row).1;have i:W'.heap[G]?=some (.cells (Zal b).toArray 3 (0,0)):=(j.block G x (by omega) (by omega)).trans h.row
 have c:=h.sin.next j z y
 have t:W'.cell? ⟨G,k,none⟩=some (.int .i64 (b.getD k 0)):=by
  rw[cell_of_row W' G k _ _ _ i];have:=Zbu b k (by have:=h.len;omega)
  simpa using this
 refine⟨⟨?_,?_,?_,c.rd.setElse t (fun n e=>by simp at e),c.below.setCell (by show w.heap.size<=G;omega) _⟩,?_,by rw[List.length_set];exact h.len,v,?_⟩
 ·exact(Below.heap_setCell _ _ _ _ (by show w.heap.size≠G;omega)).trans c.res
 ·exact(Below.heap_setCell _ _ _ _ (by show w.heap.size+1≠G;omega)).trans c.box
 ·exact(Below.heap_setCell _ _ _ _ (by show w.heap.size+1+1≠G;omega)).trans c.cap
 ·rw[heap_setCell_same W' G k _ _ _ i]
  congr 2
  unfold Zal;apply Array.ext';simp[List.map_set]
 ·have B:=h.len
  rcases h.st with ⟨rfl,u,d,rfl⟩ | ⟨rfl,d,rfl⟩
  ·by_cases a:(Zah (R.drop u)).2=0
   ·right
    refine⟨decide_eq_false (fun h=>h a),Zvt d a (by omega),?_⟩
    rw[a];rfl
   ·left
    refine⟨decide_eq_true a,u+(Zah (R.drop u)).2,?_,?_⟩
    ·rw[Zvs d a,ZzK b k _ (by omega)]
    ·rw[Zbh a,drop_drop]
  ·right
   rw[Zem];exact⟨rfl,Zvu d,rfl⟩
theorem DIn.own {i:Bool} {a:Nat} {b:List Int} {e:Bool} (h:DIn w W kd g i R a G k d m b e) (f:a<=maxLen):ZaB W (w.heap.size+1+1+1) (.slice (some ⟨G,0,none⟩) a a) b:=by
 have c:=h.len;have j:=h.far;refine⟨by rw[Zbm,Nat.mul_one],.inr ⟨G,a,(Zal b).toArray,by rw[c],by omega,h.row,by omega,f,?_,?_⟩⟩
 ·simp[Zbm,c]
 ·rw[List.take_of_length_le]
  simp[Zbm]
theorem ZoG (w:World) (n:Nat) (f:n<=1000000):(Instr.makeSlice 23 (.int .i64 (n:Int)) (.int .i64 (n:Int))).run prog w=.ok (.slice (some ⟨w.heap.size,0,none⟩) n n) (w.alloc (.cells (Zal (List.replicate n 0)).toArray 3)):=by
 obtain⟨e,b,d,a,c⟩:=info_parts ZnK;have h:=run_make (P:=prog) w 23 3 e (.int .i64 0) underlying23 b d .i64 .i64 (n:Int) (n:Int) (by omega) (Int.le_refl _) (by rw[c];omega) (by omega)
 rw[Int.toNat_natCast,a,Nat.mul_one] at h;rw[h]
 congr 3
 apply Array.ext';show(madeCells #[Value.int .i64 0] n).toList=_;rw[toList_madeCells_one];simp[Zal]
theorem But.ofDrew {R:Nat} (h:But R T w.drew w'):But R T w w':=⟨h.os,h.tape,h.output,h.size,h.block⟩
theorem DIn.start {c:Bool} {b:Value} (h:SIn w W kd (.slice none 0 0) c g b R) (a:Nat):
 DIn w ((W.alloc (.cells (Zal (List.replicate a 0)).toArray 3)).setCell ⟨w.heap.size+1,1,none⟩ (.slice (some ⟨W.heap.size,0,none⟩) a a)) kd g c R a W.heap.size 0 b R (List.replicate a 0) true:=by
 have d:=h.cap.lt;have f:=h.more ((Below.refl _ _).alloc zL (.cells (Zal (List.replicate a 0)).toArray 3));refine⟨f.store 1 _ _ rfl (fun n e=>by simp at e) rfl,?_,by simp,d,.inl ⟨rfl,0,rfl,by simp⟩⟩
 exact(Below.heap_setCell _ _ _ _ (by show W.heap.size≠w.heap.size+1;omega)).trans (heap_alloc_new W _)
theorem DIn.spot {j:Bool} {c:Nat} {a:List Int} {e:Bool} (h:DIn w W kd g j R c G k d m a e) (l:k<c) (f:But (w.heap.size+1+1) (w.heap.size+1+1) W W'):
 W'.cell? ⟨G,k,none⟩=some (.int .i64 (a.getD k 0))∧W'.frozen? ⟨G,k,none⟩=false:=by
 have n:=h.far;have i:G<W.heap.size:=(Array.getElem?_eq_some_iff.1 h.row).1;have b:W'.heap[G]?=some (.cells (Zal a).toArray 3 (0,0)):=(f.block G i (by omega) (by omega)).trans h.row
 refine⟨?_,frozen_of_row W' G k _ _ b⟩;rw[cell_of_row W' G k _ _ _ b];have:=Zbu a k (by have:=h.len;omega)
 simpa using this
theorem ZlJ (v:Value) (l:List UInt8) (w:World) (Q:Rd w v l) (_hlim:l.length<=1000000):
 Calls prog 164 #[v] w fun e w'=>Zdp w (Zil l) e w':=by
 obtain⟨J,L,rfl⟩:∃ J L,v=.slice J l.length L:=by
  obtain⟨J,L,rfl,_⟩:=Q;exact⟨J,L,rfl⟩
 have HR:=ZZ Q;clear Q;have ac:Hid (∀ m W f,Bb W (w.heap.size+1+1) f->Rd W f m->Calls prog 218 #[.func (.func 168) #[] #[],.pointer (some ⟨w.heap.size+1+1,0,none⟩)] W fun e w'=>∃ v',e=.returned (.tuple #[.int .i64 ((Zab m).1:Nat),.bool (decide ((Zab m).2≠0))])∧Bb w' (w.heap.size+1+1) v'∧Rd w' v' (behind (Zab m).2 m)∧But (w.heap.size+1+1) (w.heap.size+1+1) W w'):=fun m W f h1 h2=>ZtD _ _ _ _ _ W h1 h2 (Zcj m) (fun h=>by rw[Zns h];rfl) (ZfY f m W h2)
 have a8:Hid (∀ m W f,Bb W (w.heap.size+1+1) f->Rd W f m->Calls prog 218 #[.func (.func 201) #[] #[],.pointer (some ⟨w.heap.size+1+1,0,none⟩)] W fun e w'=>∃ v',e=.returned (.tuple #[.int .i64 (zag (Zah m).1),.bool (decide ((Zah m).2≠0))])∧Bb w' (w.heap.size+1+1) v'∧Rd w' v' (behind (Zah m).2 m)∧But (w.heap.size+1+1) (w.heap.size+1+1) W w'):=fun m W f h1 h2=>ZlD _ _ _ _ _ W h1 h2 (ZcM m) Znt (ZcV f m W h2)
 have HG:=ZZ (Zsr l);have al:=ZZ (ac.o l)
 have c1:(Zab l).1<4611686018427387904:=by
  rcases Zay l with h | h
  ·rw[h];decide
  ·exact h.1
 obtain⟨U,aB⟩:∃ U,U=behind (Zab l).2 l:=⟨_,rfl⟩;rw[<-aB] at HG al;have ak:=ZZ (ac.o U);obtain⟨V,aF⟩:∃ V,V=behind (Zab U).2 U:=⟨_,rfl⟩;rw[<-aF] at HG ak;have an:=ZZ (ac.o V);obtain⟨R,aW⟩:∃ m3,m3=behind (Zab V).2 V:=⟨_,rfl⟩;rw[<-aW] at HG an;clear aB aF aW ac;generalize Zil l=D at *;generalize (Zab l).1=kd at *;generalize (Zab l).2=i at *;generalize (Zab U).1=y at *;generalize (Zab U).2=j at *;generalize (Zab V).1=a at *;generalize (Zab V).2=k at *;have aG:=ZZ (fun W=>ZlC J l.length L W)
 have ap:Hid (∀ W X Y,X=.cells #[.int .i64 0,.slice none 0 0,.bool false,.int .i64 0] 38->Y=.cells #[.int .i64 0,.slice none 0 0,.bool false,.int .i64 0] 38->W=((w.alloc X).alloc Y).alloc (.cells #[.slice J l.length L] 53)->SIn w W 0 (.slice none 0 0) false 0 (.slice J l.length L) l):=fun W X Y hX hY hW=>by
  subst hX hY hW;have b1:Below w.heap.size w (((w.alloc (.cells #[.int .i64 0,.slice none 0 0,.bool false,.int .i64 0] 38)).alloc (.cells #[.int .i64 0,.slice none 0 0,.bool false,.int .i64 0] 38)).alloc (.cells #[.slice J l.length L] 53)):=(((Below.refl _ _).alloc zL _).alloc (by simp) _).alloc (by simp;omega) _
  refine⟨?_,?_,?_,HR.o.below b1 zL,b1⟩
  ·exact(Below.heap_alloc _ _ _ (by simp;omega)).trans ((Below.heap_alloc _ _ _ (by simp)).trans (heap_alloc_new w _))
  ·exact(Below.heap_alloc _ _ _ (by simp)).trans (ZrF w _ _)
  ·have h:=heap_alloc_new ((w.alloc (.cells #[.int .i64 0,.slice none 0 0,.bool false,.int .i64 0] 38)).alloc (.cells #[.int .i64 0,.slice none 0 0,.bool false,.int .i64 0] 38)) (.cells #[.slice J l.length L] 53)
   have e:((w.alloc (.cells #[.int .i64 0,.slice none 0 0,.bool false,.int .i64 0] 38)).alloc (.cells #[.int .i64 0,.slice none 0 0,.bool false,.int .i64 0] 38)).heap.size=w.heap.size+1+1:=by simp
   rw[e] at h;exact h
 go_enter func164,ntmps164
 go_wp2_with fail
 refine(aG.o _).mono ?_;rintro e W1 ⟨rfl,aH⟩;have G1:=ZZ (ap.o W1 _ _ rfl rfl aH);clear aH ap aG
 go_wp2_with fail
 refine(al.o _ _ G1.out.cap G1.out.rd).mono ?_;rintro e W2 ⟨v2,rfl,aX,aT,au⟩;have G2:=ZZ (G1.out.next au aX aT);obtain⟨p0,f0⟩:=G2.out.box.cell 0;clear aX aT au G1 al;have af:=ZZ (G2.out.store (kd':=(kd:Int)) (vl':=.slice none 0 0) (sh':=false) (g':=0) 0 (.int .i64 (kd:Int)) _ rfl (fun n e=>by simp at e) rfl)
 go_wp2_with fail
 refine(ak.o _ _ af.o.cap af.o.rd).mono ?_;rintro e W3 ⟨v3,rfl,av,aP,aM⟩;have G3:=ZZ (af.o.next aM av aP);clear av aP aM G2 af ak p0 f0
 go_wp2_with fail
 refine(an.o _ _ G3.out.cap G3.out.rd).mono ?_;rintro e W4 ⟨v4,rfl,aR,aS,aE⟩;have d:=ZZ (G3.out.next aE aR aS);clear aR aS aE G3 an;by_cases H:k=0∨3<y∨128<a
 ·have I:Hid (D=(ZfQ,3)):=HG.o.1 H
  obtain⟨E,g0⟩:=d.out.res.cell 0;obtain⟨F,g1⟩:=d.out.res.cell 1;obtain⟨z,g2⟩:=d.out.res.cell 2;obtain⟨C,g3⟩:=d.out.res.cell 3;have aa:=ZZ d.out.below;by_cases K:k=0
  ·rw[decide_eq_false (fun h=>h K)]
   clear K H d;go_wp2;refine bodyPost_ret (v:=.tuple #[.agg #[.int .i64 0,.slice none 0 0,.bool false,.int .i64 0],.int .i64 3]) (by simp[results,Tryz.results164,go_sem,E,F,z,C]) rfl ?_
   rw[I.o];exact Zdp.zero 3 (ZcP aa.o w.heap.size zL _ _ _ _)
  ·rw[decide_eq_true K]
   by_cases h3:3<y
   ·have a6:(3:Int)<(y:Int):=by omega
    clear K H d h3;go_wp2;refine bodyPost_ret (v:=.tuple #[.agg #[.int .i64 0,.slice none 0 0,.bool false,.int .i64 0],.int .i64 3]) (by simp[results,Tryz.results164,go_sem,E,F,z,C]) rfl ?_
    rw[I.o];exact Zdp.zero 3 (ZcP aa.o w.heap.size zL _ _ _ _)
   ·have a6:¬ (3:Int)<(y:Int):=by omega
    have h4:(128:Int)<(a:Int):=by
     rcases H with h | h | h
     ·exact absurd h K
     ·exact absurd h h3
     ·omega
    clear K H d h3;go_wp2;refine bodyPost_ret (v:=.tuple #[.agg #[.int .i64 0,.slice none 0 0,.bool false,.int .i64 0],.int .i64 3]) (by simp[results,Tryz.results164,go_sem,E,F,z,C]) rfl ?_
    rw[I.o];exact Zdp.zero 3 (ZcP aa.o w.heap.size zL _ _ _ _)
 ·have I:Hid (D=Zpb kd y a R):=HG.o.2 H
  have K:k≠0:=fun h=>H (.inl h)
  have h3:¬ (3:Int)<(y:Int):=fun h=>H (.inr (.inl (by omega)))
  have h4:¬ (128:Int)<(a:Int):=fun h=>H (.inr (.inr (by omega)))
  rw[decide_eq_true K];obtain⟨p1,f1⟩:=d.out.box.cell 1;obtain⟨p2,f2⟩:=d.out.box.cell 2;obtain⟨p3,f3⟩:=d.out.box.cell 3;clear H K HG;have aA:y=0∨y=1∨y=2∨y=3:=by omega
  go_upto_region 8 with fail
  go_cut[] (fun wc=>∃ (p:Bool) (g:Int),Hid (∀ xs,mkS kd y xs=⟨kd,xs,p,g⟩)∧Hid (I64 g)∧Hid (SIn w wc kd (.slice none 0 0) p g v4 R))
  case first=>
   rcases aA with rfl | rfl | rfl | rfl
   ·go_wp2
    go_meet
    exact⟨false,0,ZZ (fun xs=>by simp[mkS]),ZZ (Zai (by omega) (by omega)),ZZ ((d.out.store 2 (.bool false) _ rfl (fun n e=>by simp at e) rfl).store 3 (.int .i64 0) _ rfl (fun n e=>by simp at e) rfl)⟩
   ·go_wp2
    go_meet
    exact⟨true,0,ZZ (fun xs=>by simp[mkS]),ZZ (Zai (by omega) (by omega)),ZZ ((d.out.store 2 (.bool true) _ rfl (fun n e=>by simp at e) rfl).store 3 (.int .i64 0) _ rfl (fun n e=>by simp at e) rfl)⟩
   ·go_wp2
    go_meet
    exact⟨true,1,ZZ (fun xs=>by simp[mkS]),ZZ (Zai (by omega) (by omega)),ZZ ((d.out.store 2 (.bool true) _ rfl (fun n e=>by simp at e) rfl).store 3 (.int .i64 1) _ rfl (fun n e=>by simp at e) rfl)⟩
   ·go_wp2
    go_meet
    exact⟨true,2,ZZ (fun xs=>by simp[mkS]),ZZ (Zai (by omega) (by omega)),ZZ ((d.out.store 2 (.bool true) _ rfl (fun n e=>by simp at e) rfl).store 3 (.int .i64 2) _ rfl (fun n e=>by simp at e) rfl)⟩
  case rest=>
   obtain⟨p,g,ax,aq,GS⟩:=hcut;clear aA p1 f1 p2 f2 p3 f3 d;have am:=ZZ (DIn.start GS.out a);obtain⟨a1,e1⟩:=(GS.out.more ((Below.refl _ _).alloc zL (.cells (Zal (List.replicate a 0)).toArray 3))).box.cell 1;have a0:=fun W=>ZoG W a (by omega)
   have ay:Hid (I64 (kd:Int)):=⟨by omega,by omega⟩
   have ba:a<=128:=by omega
   have a2:Hid (a<=maxLen):=ZZ (by unfold maxLen;omega)
   generalize (Zal (List.replicate a 0)).toArray=Z at *
   go_upto_region 10 with fail
   generalize ((wc.alloc (.cells Z 3)).setCell ⟨w.heap.size+1,1,none⟩ (.slice (some ⟨wc.heap.size,0,none⟩) a a))=W6 at *;clear a0 a1 e1 GS;generalize wc.heap.size=G at *;obtain⟨b1,-⟩:=am.o.sin.box.cell 1;go_wp2
   go_loopw[10,57] (fun th ix wr=>∃ (q:Nat) (f:Value) (m:List UInt8) (B:List Int) (t:Bool),th=.bool t∧ix=.int .i64 (q:Int)∧q<=a∧Hid (DIn w wr kd g p R a G q f m B t)) (fun _ ix _=>a-(intOf ix).toNat)
   case atStart=>exact⟨0,_,_,_,true,rfl,rfl,Nat.zero_le _,am⟩
   case round=>
    clear am b1;obtain⟨q,f,m,B,t,rfl,rfl,hq,c⟩:=hrel;by_cases aK:q<a
    ·have a3:(q:Int)<(a:Int):=by omega
     obtain⟨b1,-⟩:=c.out.sin.box.cell 1;have a7:=c.out.far;have aU:Hid (wr.drew.cell? ⟨w.heap.size+1,1,none⟩=some (.slice (some ⟨G,0,none⟩) a a)):=b1;have aV:=ZZ (a8.o m wr.drew f c.out.sin.cap c.out.sin.rd);have aN:=ZZ (fun W' v' S M Q=>c.out.step (W':=W') (v':=v') aK S M Q)
     have aI:=ZZ (fun W' S=>c.out.spot (W':=W') aK S)
     have aJ:=ZZ (fun W' v' S M Q=>(((c.out.sin.next (W':=W') (v':=v') (m':=behind (Zah m).2 m) S M Q).box).cell 1).1)
     generalize zag (Zah m).1=x at *;generalize behind (Zah m).2 m=m' at *;generalize decide ((Zah m).2≠0)=t' at *;go_wp2
     go_region_held(fun w'=>w'.cell? ⟨w.heap.size+1,1,none⟩=some (.slice (some ⟨G,0,none⟩) a a)) (first | exact aU.o | exact ao.o | exact az.o)
      (first
       | (go_at_call 218;refine aV.o.mono ?_;rintro e P ⟨v7,rfl,O,ag,aC⟩;have ab:=aC.ofDrew;have ao:Hid (P.cell? ⟨w.heap.size+1,1,none⟩=some (.slice (some ⟨G,0,none⟩) a a)):=aJ.o P v7 ab O ag;obtain⟨k0,k1⟩:=aI.o P ab;have az:Hid ((P.setCell ⟨G,q,none⟩ (.int .i64 x)).cell? ⟨w.heap.size+1,1,none⟩=some (.slice (some ⟨G,0,none⟩) a a)):=ZZ ((World.cell?_setCell_far P _ _ _ (by show G≠w.heap.size+1;omega)).trans ao.o);have a5:=ZZ (aN.o P v7 ab O ag);clear O ag aC ab))
     clear aU ao az aV aN aI aJ k0 k1 b1 a7 c;go_wp2;go_roundw
     case rel=>exact⟨q+1,_,_,_,_,rfl,by go_num,by omega,a5⟩
     case measure=>simp[intOf];omega
    ·have aD:q=a:=by omega
     have a3:¬ (q:Int)<(a:Int):=by omega
     have aw:=c.out.len;have aQ:=ZZ (c.out.own a2.o);obtain⟨E,f0⟩:=c.out.sin.res.cell 0;obtain⟨F,f1⟩:=c.out.sin.res.cell 1;obtain⟨z,f2⟩:=c.out.sin.res.cell 2;obtain⟨C,f3⟩:=c.out.sin.res.cell 3;have aa:=ZZ c.out.sin.below;rcases c.out.st with ⟨rfl,u,N,ad⟩ | ⟨rfl,N,ad⟩
     ·have hu:=(Zfk _ _ _ _ N).2.1
      have aO:m.length=R.length-u:=by rw[ad,length_drop]
      have aL:B.take q=B:=List.take_of_length_le (by omega)
      rw[aL,aD] at N;have ah:=ZZ N;have M:=c.out.sin.cap.cell.1;obtain⟨a4,c4,rfl,-⟩:=c.out.sin.rd;have HL:=ZZ (fun W h=>ZtC (w.heap.size+1+1) a4 m.length c4 W h)
      clear N aL ad;by_cases ai:u=R.length
      ·have aj:m.length=0:=by omega
       rw[aj] at M HL
       have ae:Hid (D=if ZcD ⟨kd,B,p,g⟩ then((⟨kd,B,p,g⟩:St),0) else(ZfQ,1)):=by
        refine ZZ ?_;rw[I.o];unfold Zpb;rw[ah.o];simp only;rw[if_neg (by omega),ax.o]
       have ar:=ZZ (Zfk _ _ _ _ ah.o).2.2.2;have a9:=ZZ (aQ.o.rd ar.o);have q0:=(c.out.sin.box.cell 0).1;have q1:=(c.out.sin.box.cell 1).1;have q2:=(c.out.sin.box.cell 2).1;have q3:=(c.out.sin.box.cell 3).1;have aY:Hid (Calls prog 82 #[.agg #[.int .i64 kd,.slice (some ⟨G,0,none⟩) a a,.bool p,.int .i64 g]] wr fun e w'=>e=.returned (.bool (decide (ZcD ⟨kd,B,p,g⟩)))∧Below wr.heap.size wr w'):=Zol _ ⟨kd,B,p,g⟩ _ ⟨_,rfl,a9.o,ay.o,aq.o⟩
       clear ai aO aj aw I ax
       go_wp2_with fail
       refine(HL.o _ M).mono ?_;rintro e W8 ⟨rfl,rfl⟩
       go_wp2_with fail
       refine aY.o.mono ?_;rintro e P ⟨rfl,O⟩;have A:=ZZ (c.out.sin.more O);have aZ:=ZZ (aQ.o.below O zL);clear O E F z C f0 f1 f2 f3 q0 q1 q2 q3 M aY HL;obtain⟨E,f0⟩:=A.o.res.cell 0;obtain⟨F,f1⟩:=A.o.res.cell 1;obtain⟨z,f2⟩:=A.o.res.cell 2;obtain⟨C,f3⟩:=A.o.res.cell 3;have q0:=(A.o.box.cell 0).1;have q1:=(A.o.box.cell 1).1;have q2:=(A.o.box.cell 2).1;have q3:=(A.o.box.cell 3).1;by_cases hm:ZcD ⟨kd,B,p,g⟩
       ·rw[decide_eq_true hm]
        have T:Hid (D=((⟨kd,B,p,g⟩:St),0)):=ae.o.trans (if_pos hm);clear hm ae;go_wp2;refine bodyPost_ret (v:=.tuple #[.agg #[.int .i64 kd,.slice (some ⟨G,0,none⟩) a a,.bool p,.int .i64 g],.int .i64 0]) (by simp[results,Tryz.results164,go_sem,E,F,z,C]) rfl ?_
        rw[T.o];refine⟨_,rfl,(aZ.o.four w.heap.size (by omega) _ _ _ _).rd ar.o,ay.o,aq.o,fun b S=>?_,ZcP A.o.below w.heap.size zL _ _ _ _⟩
        have:=aZ.o.fresh b S;omega
       ·rw[decide_eq_false hm]
        have T:Hid (D=(ZfQ,1)):=ae.o.trans (if_neg hm);clear hm ae;go_wp2;refine bodyPost_ret (v:=.tuple #[.agg #[.int .i64 0,.slice none 0 0,.bool false,.int .i64 0],.int .i64 1]) (by simp[results,Tryz.results164,go_sem,E,F,z,C]) rfl ?_
        rw[T.o];exact Zdp.zero 1 (ZcP A.o.below w.heap.size zL _ _ _ _)
      ·have aj:(0:Int)<(m.length:Int):=by omega
       have T:Hid (D=(ZfQ,3)):=by
        refine ZZ ?_;rw[I.o];unfold Zpb;rw[ah.o];simp only;rw[if_pos ai]
       clear ai aO aw I
       go_wp2_with fail
       refine(HL.o _ M).mono ?_;rintro e W8 ⟨rfl,rfl⟩;go_wp2;refine bodyPost_ret (v:=.tuple #[.agg #[.int .i64 0,.slice none 0 0,.bool false,.int .i64 0],.int .i64 3]) (by simp[results,Tryz.results164,go_sem,E,F,z,C]) rfl ?_
       rw[T.o];exact Zdp.zero 3 (ZcP aa.o w.heap.size zL _ _ _ _)
     ·rw[aD] at N
      have T:Hid (D=(ZfQ,3)):=by
       refine ZZ ?_;rw[I.o];unfold Zpb;rw[N]
      clear N ad c;go_wp2;refine bodyPost_ret (v:=.tuple #[.agg #[.int .i64 0,.slice none 0 0,.bool false,.int .i64 0],.int .i64 3]) (by simp[results,Tryz.results164,go_sem,E,F,z,C]) rfl ?_
      rw[T.o];exact Zdp.zero 3 (ZcP aa.o w.heap.size zL _ _ _ _)
end Go.Proofs.YtnahjngbneicaaaGreatDoor
