import Derived.Test.YtnahjngbneicaaaGreatDoorPack11
namespace Go.Proofs.YtnahjngbneicaaaGreatDoor
open _root_.Go.Proofs.Tryz
open List (drop_drop length_append length_drop mem_cons mem_of_mem_take)
set_option maxHeartbeats 8000000
set_option maxRecDepth 100000
open Go.RowKit
variable {c d e v v' x:Value} {G T b k n u:Nat} {W W' X w w':World} {R l m m':List UInt8} {cs:Array Value} {a g kd:Int} {xs:List Int} {j:Bool}
theorem Zil {K:Nat->Prop} {pd p:Nat} {s:Sto} {d:Dk} {N:Nat} (vl:Value) (l:List Rec) (w:World) (h:SD K w pd p s d N T) (hK:∀ k,K k->k<w.heap.size) (A:OkS s) (hr:RdR w vl l) (aD:l=[]∨∀ k,vl.ownBlock=some k->K k)
 (a4:s.log.pcs.length<=500000) (be:s.log.recs.length<=5000000) (hN:N<=900000) (hT:T<=900000000):
 Calls prog 22 #[ptr p,vl] w fun e w'=>Z6 K w pd p (Yn l (s,d)) (N+2) (T+30000) e w':=by
 have av:=ZZ (ZbB vl l w hr);have HS:=ZZ h;have HK:=ZZ hK
 have aE:Hid (∀ W,Below w.heap.size w W->Calls prog 14 #[ptr p] W fun e w'=>e=.returned (.int .i64 s.next)∧Below w.heap.size w w'):=ZZ (fun W f=>((HS.o.below f).next A.num).mono (by
  rintro e w' ⟨rfl,y⟩
  exact⟨rfl,f.trans (y.mono f.size)⟩))
 obtain⟨O,aq⟩:∃ O,O=Yn l (s,d):=⟨_,rfl⟩;rw[<-aq];have az:=ZZ aq;have aU:Hid (∀ W c,Below w.heap.size w W->Z6 K w pd p ((s,d),c) (N+2) (T+30000) (.returned (.int .i64 c)) W):=ZZ (fun W c f=>⟨rfl,(HS.o.below f).mono (by omega) (by omega),Qj.ofBelow f⟩)
 by_cases m:Yc l
 case neg=>
  rw[decide_eq_false m] at av;have HR:Hid (O=((s,d),1)):=ZZ (by rw[az.o];unfold Yn;rw[if_pos m])
  obtain⟨ra,rc,rfl,-⟩:=hr;clear h hK A aD aq m
  go_enter func22,ntmps22
  go_wp2_with fail
  refine av.o.mono ?_;rintro e W1 ⟨rfl,z⟩;have aV:=ZZ z;clear z;go_wp2;go_ret;rw[HR.o];exact aU.o W1 1 aV.o
 rw[decide_eq_true m] at av;have bq:=ZZ hr;have bN:=ZZ aD;have aC:1<=l.length:=m.1;have bl:l.length<=256:=m.2.1;obtain⟨ra,rc,rfl,bw,bv,-,a2,b5⟩:=hr;rcases b5 with h0 | ⟨b,ax,rfl,aK⟩
 ·rw[h0] at aC;simp at aC
 have aO:l.getD 0 Qi=l.headD Qi:=by cases l <;> rfl
 have ab:Hid (∀ W,Below w.heap.size w W->W.cell? ⟨b,ax,none⟩=some (.int .i64 (l.headD Qi).idx)):=ZZ (fun W f=>by
  have i:=(aK 0 (by omega)).keep (f.block b (aK 0 (by omega)).lt)
  have h1:=i.1;rw[aO,Nat.zero_mul,Nat.add_zero] at h1
  exact h1)
 have aR:Hid (∀ W,Below w.heap.size w W->Below w.heap.size w W.drew):=ZZ (fun W f=>f.drew)
 by_cases Z:(l.headD Qi).idx=s.next
 case neg=>
  have HR:Hid (O=((s,d),15)):=ZZ (by rw[az.o];unfold Yn;rw[if_neg (fun t=>t m),if_pos Z])
  have af:((l.headD Qi).idx != s.next)=true:=by rw[bne_iff_ne];exact Z
  have bT:(0:Int)<(l.length:Int):=by omega
  generalize s.next=nx at *;generalize (l.headD Qi).idx=V at *;clear h hK A aD aq m aK aO a2 Z
  go_enter func22,ntmps22
  go_wp2_with fail
  refine av.o.mono ?_;rintro e W1 ⟨rfl,z⟩;have aV:=ZZ z;have ad:=ZZ (aR.o W1 z);clear z
  go_upto_region 3 with fail
  go_cut[12] (fun v wc=>v=.bool true∧Hid (Below w.heap.size w wc))
  case first=>
   go_region_held(fun W=>W.cell? ⟨b,ax,none⟩=some (.int .i64 V))
    (first | (with_reducible exact ab.o _ ad.o) | (with_reducible exact ab.o _ C.o))
    (first | (go_at_call 14;refine(aE.o _ ad.o).mono ?_;rintro e W2 ⟨rfl,ae⟩;have C:=ZZ ae;clear ae))
   all_goals
    go_wp2_with fail
    go_meet
    exact⟨by first | rfl | (rw[af]),C⟩
  case rest=>
   obtain⟨rfl,HB⟩:=hcut;go_wp2;go_ret;rw[HR.o];exact aU.o _ 15 HB.o
 have af:((l.headD Qi).idx != s.next)=false:=by rw[Z];simp
 have a0:Qw (l.headD Qi):=by
  rw[<-aO];rw[show l.getD 0 Qi=l[0]'(by omega) by simp[List.getD,show 0<l.length by omega]]
  exact m.2.2.1 _ (List.getElem_mem _)
 have a3:0<=s.next:=by rw[<-Z];exact a0.2.1
 have aW:s.next<4611686018427387904:=by rw[<-Z];exact a0.2.2.1
 have a1:0<=s.now.st.kind∧s.now.st.kind<6:=⟨A.now.1.2.2.2.1,A.now.1.2.2.2.2.1⟩;have bt:=ZrX m a1 aW;obtain⟨g,au⟩:∃ g,g=Zcw s d:=⟨_,rfl⟩;obtain⟨BA,aa⟩:∃ BA,BA=Zbl s l:=⟨_,rfl⟩;obtain⟨⟨D,c⟩,hD⟩:∃ r,r=Xe d g BA:=⟨_,rfl⟩
 have bd:I64 g:=by
  rw[au];unfold Zcw;split
  ·obtain⟨F,M,I,L,⟨L1,g1,g2,-⟩,-⟩:=h
   exact ZcP g2 2 (by decide) (by decide)
  ·exact A.cu
 have ar:Hid (O=if c=0 then((Z2 s g l,D),0) else((s,D),c)):=ZZ (by
  rw[az.o];unfold Yn;rw[if_neg (fun t=>t m),if_neg (fun t=>t Z)]
  dsimp only
  rw[<-au,<-aa,<-hD])
 have bg:Hid (∀ W,Below w.heap.size w W->Calls prog 49 #[.slice (some ⟨b,ax,none⟩) l.length rc] W fun e w'=>∃ v',e=.returned v'∧Own w' w.heap.size v' (Qe (Y2 l))∧Below w.heap.size w w'):=ZZ (fun W f=>(Zjk _ l W (bq.o.below f zL) m (by have:=Znc m;omega)).mono (by
  rintro e w' ⟨v',rfl,j,y⟩
  exact⟨v',rfl,j.mono f.size,f.trans (y.mono f.size)⟩))
 have J:Hid (∀ W,Below w.heap.size w W->W.cell? ⟨p,0,none⟩=some (ptr pd)∧W.cell? ⟨p,12,none⟩=some (.int .i64 s.cur)):=ZZ (fun W f=>by
  obtain⟨⟨c0,-,bM,-⟩,-⟩:=(HS.o.below f).cells
  exact⟨c0,bM⟩)
 have a5:Hid (∀ vB W,Own W w.heap.size vB BA->Below w.heap.size w W->Calls prog 52 #[ptr pd,.int .i64 g,vB] W fun e w'=>e=.returned (.int .i64 c)∧SD K w' pd p s D (N+2) (T+30000)∧Qj (fun k=>¬ K k) w w'):=ZZ (fun vB W j f=>by
  refine((HS.o.fresh f).disk (c:=c) (d':=D) (N':=N+2) (T':=T+30000) (fun k hk=>?_) (fun F hF b3=>?_)).mono ?_
  ·rcases hk with hk | hk
   ·exact Nat.lt_of_lt_of_le (HK.o k hk) f.size
   ·exact hk.2
  ·have:=ZjC g bd vB BA W hF j.rd (.inr fun k hk m=>b3 k m (.inr ⟨(World.ownsRow.lt j k hk).1,(World.ownsRow.lt j k hk).2⟩)) (by omega) (by omega) (by rw[aa];omega)
   rw[<-hD] at this;refine this.mono ?_;rintro e w' ⟨g0,F',g1,g2⟩;exact⟨g0,F',g1.mono zL (by rw[aa];omega),g2⟩
  ·rintro e w' ⟨he,U,b7⟩
   exact⟨he,U.less (fun k hk=>.inl hk),(Qj.ofBelow f).trans (b7.mono (fun k hk hn=>hk (.inl hn))) (fun _ _ t=>t)⟩)
 have H:Hid (∀ W,Qj (fun k=>¬ K k) w W->RdR W (.slice (some ⟨b,ax,none⟩) l.length rc) l∧∀ k,K k->k<W.heap.size):=ZZ (fun W j=>⟨bq.o.keepK bN.o j,fun k hk=>Nat.lt_of_lt_of_le (HK.o k hk) j.size⟩)
 have G:=ZZ A;have aJ:=ZZ (And.intro a4 be);have aT:=ZZ (And.intro aC bl);have bT:(0:Int)<(l.length:Int):=by omega
 have cb:(l.length:Int)<=256:=by omega
 by_cases u:s.cur=0
 ·have aS:(s.cur == 0)=true:=by rw[u];rfl
  have ay:Hid (g=Ya d 2):=ZZ (by rw[au];unfold Zcw;rw[if_pos u])
  have aX:Hid (BA=Qe (X6 3 s.now.st.kind.toNat s.next.toNat)++Qe (Y2 l)):=ZZ (by rw[aa];unfold Zbl;rw[if_pos u])
  have bI:Hid ((Qe (X6 3 s.now.st.kind.toNat s.next.toNat)).length+(Qe (Y2 l)).length<=70368744177664):=ZZ (by
   rw[<-length_append,<-aX.o,aa]
   omega)
  have b9:Hid (∀ W,Below w.heap.size w W->Calls prog 50 #[ptr p,.int .i64 2] W fun e w'=>e=.returned (.int .i64 g)∧Below w.heap.size w w'∧Below W.heap.size W w'):=ZZ (fun W f=>by
   obtain⟨F,M,I,L,h1,h2,-⟩:=HS.o.below f;rw[ay.o];refine(ZfX 2 W h2 h1 (by omega) (by decide) (by decide)).mono ?_
   rintro e w' ⟨rfl,y⟩
   exact⟨rfl,f.trans (y.mono f.size),y⟩)
  have bJ:Hid (∀ W,Below w.heap.size w W->Calls prog 51 #[ptr p] W fun e w'=>∃ v',e=.returned v'∧Own w' w.heap.size v' (Qe (X6 3 s.now.st.kind.toNat s.next.toNat))∧Below w.heap.size w w'∧Below W.heap.size W w'):=ZZ (fun W f=>by
   obtain⟨F,M,I,L,h1,h2,-⟩:=HS.o.below f;refine(Zln W h2 A.num a1 aW a3).mono ?_;rintro e w' ⟨v',rfl,j,y⟩
   exact⟨v',rfl,j.mono f.size,f.trans (y.mono f.size),y⟩)
  have bi:Hid (∀ W,SD K W pd p { s with log:=(s.log.start g s.next).add l,now:=(Xa s.now l).1,cur:=g,nw:=true } D (N+2) (T+30000)->Qj (fun k=>¬ K k) w W->c=0->Z6 K w pd p O (N+2) (T+30000) (.returned (.int .i64 0)) W):=ZZ (fun W U j i=>by
   rw[ar.o,if_pos i];refine⟨rfl,?_,j⟩;have e1:Z2 s g l={ s with log:=(s.log.start g s.next).add l,now:=(Xa s.now l).1,cur:=g,nw:=true }:=by unfold Z2;rw[if_pos u,if_pos u]
   rw[e1]
   exact U)
  have a9:Hid (∀ W,SD K W pd p s D (N+2) (T+30000)->Qj (fun k=>¬ K k) w W->c≠0->Z6 K w pd p O (N+2) (T+30000) (.returned (.int .i64 c)) W):=ZZ (fun W U j i=>by
   rw[ar.o,if_neg i]
   exact⟨rfl,U,j⟩)
  have br:Hid (s.cur≠0->s.log.pcs.length≠0):=ZZ A.cur;have bo:=ZZ u;obtain⟨nx,an⟩:∃ nx,nx=s.next:=⟨_,rfl⟩;obtain⟨V,aF⟩:∃ V,V=(l.headD Qi).idx:=⟨_,rfl⟩;rw[<-an] at aE af;rw[<-aF] at ab af;have aZ:=ZZ an;obtain⟨B,am⟩:∃ B,B=s.cur:=⟨_,rfl⟩;rw[<-am] at J aS;have bp:=ZZ am;clear am;clear h hK A aD aq m aK aO a2 Z an aF hD aa au u az ar a0 bt bd a1 a3 aW a4 be bw bv aC bl aU
  go_enter func22,ntmps22
  go_wp2_with fail
  refine av.o.mono ?_;rintro e W1 ⟨rfl,z⟩;have aV:=ZZ z;have ad:=ZZ (aR.o W1 z);clear z
  go_upto_region 3 with fail
  go_cut[12] (fun v wc=>v=.bool false∧Hid (Below w.heap.size w wc))
  case first=>
   go_region_held(fun W=>W.cell? ⟨b,ax,none⟩=some (.int .i64 V))
    (first | (with_reducible exact ab.o _ ad.o) | (with_reducible exact ab.o _ C.o))
    (first | (go_at_call 14;refine(aE.o _ ad.o).mono ?_;rintro e W2 ⟨rfl,ae⟩;have C:=ZZ ae;clear ae))
   all_goals
    go_wp2_with fail
    go_meet
    exact⟨by first | rfl | (rw[af]),C⟩
  case rest=>
  obtain⟨W2,rfl⟩:∃ W,W=wc:=⟨_,rfl⟩;obtain⟨rfl,C⟩:=hcut;have aP:=ZZ (aR.o W2 C.o)
  go_upto_region 5 with fail
  go_cut[5,6] (fun v5 v6 wc=>v5=.int .i64 B∧(∃ a n c,v6=.slice a n c)∧Hid (Own wc w.heap.size v6 (Qe (Y2 l)))∧Hid (Below w.heap.size w wc))
  case first=>
   go_region_held(fun W=>W.cell? ⟨p,12,none⟩=some (.int .i64 B))
    (first | (with_reducible exact(J.o _ aP.o).2) | (with_reducible exact(J.o _ E.o).2))
    (first | (go_at_call 49;refine(bg.o _ aP.o).mono ?_;rintro e Y ⟨v3,rfl,aj,aA⟩;have ao:=ZZ aj;have E:=ZZ aA;obtain⟨z1,z2,z3,hz⟩:∃ a n c,v3=Value.slice a n c:=(by obtain⟨a,c,t⟩:=aj.shape;exact⟨a,_,c,t⟩);subst hz;clear aj aA))
   all_goals
    go_wp2_with fail
    go_meet
    exact⟨rfl,⟨_,_,_,rfl⟩,ao,E⟩
  case rest=>
  obtain⟨Y,rfl⟩:∃ W,W=wc:=⟨_,rfl⟩;obtain⟨rfl,⟨z1,z2,z3,rfl⟩,ao,E⟩:=hcut;obtain⟨q0,aQ⟩:=J.o Y E.o
  go_wp2_with fail
  refine(b9.o Y E.o).mono ?_;rintro e W4 ⟨rfl,bm,bA⟩;have bO:=ZZ bm;have b6:=ZZ bA;clear bA;have bR:Hid (Own W4 w.heap.size (.slice z1 z2 z3) (Qe (Y2 l))):=ZZ (ao.o.below (show Below Y.heap.size Y W4 from b6.o) zL);clear bm q0 aQ
  go_wp2_with fail
  refine(bJ.o W4 bO.o).mono ?_;rintro e W5 ⟨v5,rfl,bf,ba,bD⟩;have b0:=ZZ ba;have b1:=ZZ bD;clear bD;have bP:=ZZ bf;have bW:Hid (Rd W5 (.slice z1 z2 z3) (Qe (Y2 l))):=ZZ (bR.o.rd.below (show Below W4.heap.size W4 W5 from b1.o) zL);have bK:Hid (w.heap.size<=W5.heap.size):=ZZ ba.size
  obtain⟨y1,y2,y3,hy⟩:∃ a n c,v5=Value.slice a n c:=by
   obtain⟨a,c,t⟩:=bf.shape;exact⟨a,_,c,t⟩
  subst hy;clear bf ba
  go_wp2_with(at_builtin;refine Xi _ rfl _ _ rfl w.heap.size _ _ rfl bP.o _ (Qe (Y2 l)) rfl bW.o bI.o bK.o ?_)
  intro v6 W6 aY bB;rw[<-aX.o] at aY;have b2:=ZZ aY;have bu:Hid (Below w.heap.size w W6):=ZZ (b0.o.trans bB)
  obtain⟨x1,x2,x3,bZ⟩:∃ a n c,v6=Value.slice a n c:=by
   obtain⟨a,c,t⟩:=aY.shape;exact⟨a,_,c,t⟩
  subst bZ;obtain⟨q0,aQ⟩:=J.o W6 bu.o;clear aY bB
  go_wp2_with fail
  refine(a5.o _ W6 b2.o bu.o).mono ?_;rintro e x ⟨rfl,ap,aM⟩;have al:=ZZ ap;have aw:=ZZ aM;obtain⟨⟨-,-,S,ag⟩,X⟩:=ap.cells;clear ap aM q0 aQ;by_cases i:c=0
  case neg=>
   have bX:(c != 0)=true:=by rw[bne_iff_ne];exact i
   have HE:=ZZ (a9.o x al.o aw.o i);clear i X S ag;go_wp2;go_ret;exact HE.o
  have b8:=ZZ i;subst i;rw[<-bp.o] at S;have bV:=ZZ (al.o.next G.o.num);rw[<-aZ.o] at bV
  have bH:Hid (∀ W,Below x.heap.size x W->Calls prog 53 #[.pointer (some ⟨p,1,none⟩),.int .i64 g,.int .i64 nx] W fun e w'=>e=.returned (.tuple #[])∧SD K w' pd p { s with log:=s.log.start g s.next } D (N+2) (T+30000)∧Qj (fun k=>¬ K k) w w'):=ZZ (fun W f=>by
   have y:=(al.o.below f).begin (fun k hk=>Nat.lt_of_lt_of_le ((H.o x aw.o).2 k hk) f.size) g nx (by have:=aJ.o.1;omega)
   rw[aZ.o] at y ⊢;refine y.mono ?_;rintro e w' ⟨he,h2,h3⟩
   exact⟨he,h2,(aw.o.trans (Qj.ofBelow (F:=fun _=>False) f) (fun _ _ h=>h.elim)).trans h3 (fun _ _ h=>h)⟩)
  have bU:Hid (Below x.heap.size x x.drew):=ZZ (Below.refl _ _).drew
  have b4:Hid (∀ W,Below x.heap.size x W->Calls prog 14 #[ptr p] W fun e w'=>e=.returned (.int .i64 nx)∧Below x.heap.size x w'):=ZZ (fun W f=>by
   rw[aZ.o];refine((al.o.below f).next G.o.num).mono ?_;rintro e w' ⟨rfl,y⟩
   exact⟨rfl,f.trans (y.mono f.size)⟩)
  go_upto_region 12 with fail
  go_cut[] (fun wc=>Hid (SD K wc pd p { s with log:=s.log.start g s.next } D (N+2) (T+30000)∧Qj (fun k=>¬ K k) w wc))
  case first=>
   go_region_with
    (first
     | (go_at_call 14;refine(b4.o _ (by first | exact bU.o | exact Below.refl _ _)).mono ?_;rintro e W8 ⟨rfl,bx⟩;have bQ:=ZZ bx;clear bx)
     | (go_at_call 53;refine(bH.o W8 bQ.o).mono ?_;rintro e W9 ⟨rfl,bF,bz⟩;have ac:=ZZ (And.intro bF bz);clear bF bz))
   all_goals
    go_wp2_with fail
    go_meet
    exact ac
  case rest=>
  obtain⟨W9,rfl⟩:∃ W,W=wc:=⟨_,rfl⟩;have ac:=hcut;clear hcut X S ag;obtain⟨⟨-,-,S,ag⟩,X⟩:=ac.o.1.cells;have bY:=X 12;have bS:=X 13;have bc:=ZZ (((ac.o.1.setHead (s':={ s with log:=s.log.start g s.next,cur:=g }) (H.o W9 ac.o.2).2 12 (.int .i64 g) rfl rfl rfl (fun _=>rfl))))
  have bb:=ZZ (bc.o.1.setHead (s':={ s with log:=s.log.start g s.next,cur:=g,nw:=true }) (fun k hk=>by have:=(H.o W9 ac.o.2).2 k hk;simpa using this) 13 (.bool true) rfl rfl rfl (fun _=>rfl))
  obtain⟨P,a6⟩:∃ P,P=(W9.setCell ⟨p,12,none⟩ (.int .i64 g)).setCell ⟨p,13,none⟩ (.bool true):=⟨_,rfl⟩;have R:Hid (SD K P pd p { s with log:=s.log.start g s.next,cur:=g,nw:=true } D (N+2) (T+30000)∧Qj (fun k=>¬ K k) w P):=ZZ (by rw[a6];exact⟨bb.o.1,(ac.o.2.trans bc.o.2 (fun _ _ h=>h)).trans bb.o.2 (fun _ _ h=>h)⟩)
  have bn:({ s with log:=s.log.start g s.next }:Sto).cur=B:=bp.o.symm
  rw[bn] at S;have bE:({ s with log:=s.log.start g s.next }:Sto).nw=s.nw:=rfl
  rw[bE] at ag;clear bn bE X
  go_upto_region 14 with fail
  rw[<-a6];clear a6 S ag bY bS ac bc bb
  have aN:=ZZ (R.o.1.add (H.o P R.o.2).2 _ l (H.o P R.o.2).1 (by simp[Lgb.start]) (by have:=aJ.o.1;simp[Lgb.start];omega) (by have:=aJ.o.2;have:=aT.o.2;show s.log.recs.length+l.length<=_;omega) (fun q hq=>by
   have bj:=G.o.log.start g s.next (by have:=G.o.log.f0;have:=ZcF G.o.log.ch;show 0<=s.log.next;omega) G.o.log.top (.inr rfl)
   have:=ZbN bj.ch q hq;have:=bj.f0;have:=bj.top
   omega))
  go_wp2_with fail
  refine aN.o.mono ?_;rintro e Q ⟨rfl,aG,aL⟩;have a8:Hid (SD K Q pd p { s with log:=(s.log.start g s.next).add l,cur:=g,nw:=true } D (N+2) (T+30000)):=ZZ aG
  have ak:Hid (Qj (fun k=>¬ K k) w Q):=ZZ (R.o.2.trans aL (fun _ _ h=>h))
  clear aG aL aN;obtain⟨la,ln,lc,ta,tn,tc,⟨c5,c6,c7,c8,c9,bk⟩,aB⟩:=a8.o.takes (H.o Q ak.o).2 G.o.now _ l (H.o Q ak.o).1 (by have:=aT.o.2;omega)
  have ai:=ZZ aB;clear aB
  dsimp only at c5 c6 c8 c9 ai
  go_wp2_with fail
  refine ai.o.mono ?_;rintro e WC ⟨xa,xn,xc,ua,un,uc,rfl,⟨e5,e6,e7,e8,e9,bG⟩,fz,aI,aH⟩;have a7:=ZZ (bi.o _ aI (ak.o.trans aH (fun _ _ h=>h)) (by first | rfl | trivial))
  have f5:=fz 5;have f6:=fz 6;have f7:=fz 7;have f8:=fz 8;have f9:=fz 9;have bL:=fz 10;clear aI aH fz c5 c6 c7 c8 c9 bk ai;generalize Xa s.now l=tk at *;go_wp2;go_ret;exact a7.o
 ·have aS:(s.cur == 0)=false:=beq_eq_false_iff_ne.2 u
  have ay:Hid (g=s.cur):=ZZ (by rw[au];unfold Zcw;rw[if_neg u])
  have aX:Hid (BA=Qe (Y2 l)):=ZZ (by rw[aa];unfold Zbl;rw[if_neg u])
  rw[<-aX.o] at bg;rw[<-ay.o] at J
  have bi:Hid (∀ W,SD K W pd p { s with log:=s.log.add l,now:=(Xa s.now l).1 } D (N+2) (T+30000)->Qj (fun k=>¬ K k) w W->c=0->Z6 K w pd p O (N+2) (T+30000) (.returned (.int .i64 0)) W):=ZZ (fun W U j i=>by
   rw[ar.o,if_pos i];refine⟨rfl,?_,j⟩;have e1:Z2 s g l={ s with log:=s.log.add l,now:=(Xa s.now l).1 }:=by unfold Z2;rw[if_neg u,if_neg u,ay.o]
   rw[e1]
   exact U)
  rw[<-ay.o] at aS
  have a9:Hid (∀ W,SD K W pd p s D (N+2) (T+30000)->Qj (fun k=>¬ K k) w W->c≠0->Z6 K w pd p O (N+2) (T+30000) (.returned (.int .i64 c)) W):=ZZ (fun W U j i=>by
   rw[ar.o,if_neg i]
   exact⟨rfl,U,j⟩)
  have br:Hid (s.cur≠0->s.log.pcs.length≠0):=ZZ A.cur;have bo:=ZZ u;obtain⟨nx,an⟩:∃ nx,nx=s.next:=⟨_,rfl⟩;obtain⟨V,aF⟩:∃ V,V=(l.headD Qi).idx:=⟨_,rfl⟩;rw[<-an] at aE af;rw[<-aF] at ab af;have aZ:=ZZ an;obtain⟨B,am⟩:∃ B,B=g:=⟨_,rfl⟩;have ca:Hid (s.cur=B):=ZZ (by rw[am,ay.o])
  rw[<-am] at J aS a5;clear am;clear h hK A aD aq m aK aO a2 Z an aF hD aa au u az ar a0 bt bd a1 a3 aW a4 be bw bv aC bl aU
  go_enter func22,ntmps22
  go_wp2_with fail
  refine av.o.mono ?_;rintro e W1 ⟨rfl,z⟩;have aV:=ZZ z;have ad:=ZZ (aR.o W1 z);clear z
  go_upto_region 3 with fail
  go_cut[12] (fun v wc=>v=.bool false∧Hid (Below w.heap.size w wc))
  case first=>
   go_region_held(fun W=>W.cell? ⟨b,ax,none⟩=some (.int .i64 V))
    (first | (with_reducible exact ab.o _ ad.o) | (with_reducible exact ab.o _ C.o))
    (first | (go_at_call 14;refine(aE.o _ ad.o).mono ?_;rintro e W2 ⟨rfl,ae⟩;have C:=ZZ ae;clear ae))
   all_goals
    go_wp2_with fail
    go_meet
    exact⟨by first | rfl | (rw[af]),C⟩
  case rest=>
  obtain⟨W2,rfl⟩:∃ W,W=wc:=⟨_,rfl⟩;obtain⟨rfl,C⟩:=hcut;have aP:=ZZ (aR.o W2 C.o)
  go_upto_region 5 with fail
  go_cut[5,6] (fun v5 v6 wc=>v5=.int .i64 B∧(∃ a n c,v6=.slice a n c)∧Hid (Own wc w.heap.size v6 BA)∧Hid (Below w.heap.size w wc))
  case first=>
   go_region_held(fun W=>W.cell? ⟨p,12,none⟩=some (.int .i64 B))
    (first | (with_reducible exact(J.o _ aP.o).2) | (with_reducible exact(J.o _ E.o).2))
    (first | (go_at_call 49;refine(bg.o _ aP.o).mono ?_;rintro e Y ⟨v3,rfl,aj,aA⟩;have ao:=ZZ aj;have E:=ZZ aA;obtain⟨z1,z2,z3,hz⟩:∃ a n c,v3=Value.slice a n c:=(by obtain⟨a,c,t⟩:=aj.shape;exact⟨a,_,c,t⟩);subst hz;clear aj aA))
   all_goals
    go_wp2_with fail
    go_meet
    exact⟨rfl,⟨_,_,_,rfl⟩,ao,E⟩
  case rest=>
  obtain⟨Y,rfl⟩:∃ W,W=wc:=⟨_,rfl⟩;obtain⟨rfl,⟨z1,z2,z3,rfl⟩,ao,E⟩:=hcut;obtain⟨q0,aQ⟩:=J.o Y E.o
  go_wp2_with fail
  refine(a5.o _ Y ao.o E.o).mono ?_;rintro e x ⟨rfl,ap,aM⟩;have al:=ZZ ap;have aw:=ZZ aM;obtain⟨⟨-,-,S,ag⟩,X⟩:=ap.cells;clear ap aM q0 aQ;by_cases i:c=0
  case neg=>
   have bX:(c != 0)=true:=by rw[bne_iff_ne];exact i
   have HE:=ZZ (a9.o x al.o aw.o i);clear i X S ag;go_wp2;go_ret;exact HE.o
  have b8:=ZZ i;subst i;obtain⟨P,rfl⟩:∃ W,W=x:=⟨_,rfl⟩;have R:=ZZ (And.intro al.o aw.o)
  have aN:=ZZ (R.o.1.add (H.o P R.o.2).2 _ l (H.o P R.o.2).1 (br.o bo.o) (by have:=aJ.o.1;omega) (by have:=aJ.o.2;have:=aT.o.2;omega) (fun q hq=>by
   have:=ZbN G.o.log.ch q hq;have:=G.o.log.f0;have:=G.o.log.top
   omega))
  clear X ag;have bC:s.cur=B:=ca.o;rw[bC] at S;clear bC
  go_wp2_with fail
  refine aN.o.mono ?_;rintro e Q ⟨rfl,aG,aL⟩;have a8:Hid (SD K Q pd p { s with log:=s.log.add l } D (N+2) (T+30000)):=ZZ aG
  have ak:Hid (Qj (fun k=>¬ K k) w Q):=ZZ (R.o.2.trans aL (fun _ _ h=>h))
  clear aG aL aN;obtain⟨la,ln,lc,ta,tn,tc,⟨c5,c6,c7,c8,c9,bk⟩,aB⟩:=a8.o.takes (H.o Q ak.o).2 G.o.now _ l (H.o Q ak.o).1 (by have:=aT.o.2;omega)
  have ai:=ZZ aB;clear aB
  dsimp only at c5 c6 c8 c9 ai
  go_wp2_with fail
  refine ai.o.mono ?_;rintro e WC ⟨xa,xn,xc,ua,un,uc,rfl,⟨e5,e6,e7,e8,e9,bG⟩,fz,aI,aH⟩;have a7:=ZZ (bi.o _ aI (ak.o.trans aH (fun _ _ h=>h)) (by first | rfl | trivial))
  have f5:=fz 5;have f6:=fz 6;have f7:=fz 7;have f8:=fz 8;have f9:=fz 9;have bL:=fz 10;clear aI aH fz c5 c6 c7 c8 c9 bk ai;generalize Xa s.now l=tk at *;go_wp2;go_ret;exact a7.o
def Bb (w:World) (b:Nat) (v:Value):Prop:=w.heap[b]?=some (.cells #[v] 53 (0,0))
theorem Bb.lt (h:Bb w b v):b<w.heap.size:=(Array.getElem?_eq_some_iff.1 h).1
theorem Bb.cell (h:Bb w b v):w.cell? ⟨b,0,none⟩=some v∧w.frozen? ⟨b,0,none⟩=false:=
 ⟨(cell_of_row w b 0 _ _ _ h).trans rfl,frozen_of_row w b 0 _ _ h⟩
theorem Bb.set (h:Bb w b v) (x:Value):Bb (w.setCell ⟨b,0,none⟩ x) b x:=by
 have:=heap_setCell_same w b 0 _ _ x h;unfold Bb;simpa using this
theorem Rd.setBox (h:Rd w v m) {b:Nat} {ao:Option Addr} {n cap:Nat} (d:w.cell? ⟨b,0,none⟩=some (.slice ao n cap)):Rd (w.setCell ⟨b,0,none⟩ x) v m:=by
 obtain⟨y,p,q,i,u,t,a⟩:=h;refine⟨y,p,q,i,u,t,?_⟩;rcases a with a | ⟨c,g,l,z⟩
 ·exact .inl a
 ·refine .inr ⟨c,g,l,fun j k=>?_⟩
  have f:=z j k
  rw[World.cell?_setCell_other w ⟨b,0,none⟩ ⟨c,g+j,none⟩ x (fun e=>by
   rw[e,f] at d
   cases d)]
  exact f
def behind (d:Nat) (m:List UInt8):List UInt8:=if d=0 then[] else m.drop d
theorem Zim (ao:Option Addr) (n cap:Nat) (w:World):
 Calls prog 200 #[.slice ao n cap] w fun e w'=>e=.returned (.tuple #[.func (.func 218) #[] #[.pointer (some ⟨w.heap.size,0,none⟩)],.func (.func 219) #[] #[.pointer (some ⟨w.heap.size,0,none⟩)]])∧w'=w.alloc (.cells #[.slice ao n cap] 53):=by
 have a:∀ (fn:Fn) (first cap:Array Value) (w:World),(Instr.makeFunc fn first cap).run prog w=.ok (.func fn first cap) w:=fun _ _ _ _=>rfl
 go_enter func200,ntmps200
 go_wp2;go_ret2;exact⟨rfl,rfl⟩
theorem Zqm (b:Nat) (ao:Option Addr) (n cap:Nat) (w:World) (a:w.cell? ⟨b,0,none⟩=some (.slice ao n cap)):
 Calls prog 219 #[.pointer (some ⟨b,0,none⟩)] w fun e w'=>e=.returned (.int .i64 (n:Int))∧w'=w:=by
 go_enter func219,ntmps219
 go_wp2;go_ret;exact⟨rfl,rfl⟩
theorem Zqn (x:Int) (d:Nat) (b:Nat) (v:Value) (m:List UInt8) (w:World) (a:Bb w b v) (n:Rd w v m) (F:d<=m.length) (g:d=0->x=0)
 (f:Calls prog 168 #[v] w fun e w'=>e=.returned (.tuple #[.int .i64 x,.int .i64 (d:Nat)])∧w'=w):
 Calls prog 218 #[.func (.func 168) #[] #[],.pointer (some ⟨b,0,none⟩)] w fun e w'=>∃ v',e=.returned (.tuple #[.int .i64 x,.bool (decide (d≠0))])∧Bb w' b v'∧Rd w' v' (behind d m)∧But b b w w':=by
 have k:=ZZ f;have l:=ZZ a;have q:=ZZ n;obtain⟨ao,cap,rfl,-⟩:=n;obtain⟨y,A⟩:=a.cell;by_cases c:d=0
 ·subst c
  obtain rfl:=g rfl;clear f a g
  go_enter func218,ntmps218
  go_wp2_with fail
  refine k.o.mono ?_;rintro e w' ⟨rfl,rfl⟩;go_wp2;go_ret2;exact⟨_,rfl,l.o.set _,Rd.nil _,(But.refl _ _ _).set _ _ (.inl rfl) _⟩
 ·have C:((d:Int) == 0)=false:=beq_eq_false_iff_ne.2 (by omega)
  have i:=ZZ (Zhz w _ m q.o .i64 (d:Int) (by omega) (by omega))
  have u:Hid (behind d m=m.drop d):=if_neg c;have p:Hid (decide (d≠0)=true):=decide_eq_true c;rw[Int.toNat_natCast] at i;clear f a g c
  go_enter func218,ntmps218
  go_wp2_with fail
  refine k.o.mono ?_;rintro e w' ⟨rfl,rfl⟩
  go_wp2_with(refine Zfo _ rfl _ _ _ _ rfl _ i.o ?_)
  intro D j;have t:=ZZ j;obtain⟨B,z,rfl,-⟩:=j;generalize E:m.drop d=M at *;go_wp2;go_ret2;refine⟨_,by rw[p.o];rfl,l.o.set _,?_,(But.refl _ _ _).set _ _ (.inl rfl) _⟩
  rw[u.o];exact t.o.setBox y
theorem Zin (x:Int) (d:Nat) (b:Nat) (v:Value) (m:List UInt8) (w:World) (a:Bb w b v) (n:Rd w v m) (F:d<=m.length) (g:d=0->x=0)
 (f:Calls prog 201 #[v] w fun e w'=>e=.returned (.tuple #[.int .i64 x,.int .i64 (d:Nat)])∧w'=w):
 Calls prog 218 #[.func (.func 201) #[] #[],.pointer (some ⟨b,0,none⟩)] w fun e w'=>∃ v',e=.returned (.tuple #[.int .i64 x,.bool (decide (d≠0))])∧Bb w' b v'∧Rd w' v' (behind d m)∧But b b w w':=by
 have k:=ZZ f;have l:=ZZ a;have q:=ZZ n;obtain⟨ao,cap,rfl,-⟩:=n;obtain⟨y,A⟩:=a.cell;by_cases c:d=0
 ·subst c
  obtain rfl:=g rfl;clear f a g
  go_enter func218,ntmps218
  go_wp2_with fail
  refine k.o.mono ?_;rintro e w' ⟨rfl,rfl⟩;go_wp2;go_ret2;exact⟨_,rfl,l.o.set _,Rd.nil _,(But.refl _ _ _).set _ _ (.inl rfl) _⟩
 ·have C:((d:Int) == 0)=false:=beq_eq_false_iff_ne.2 (by omega)
  have i:=ZZ (Zhz w _ m q.o .i64 (d:Int) (by omega) (by omega))
  have u:Hid (behind d m=m.drop d):=if_neg c;have p:Hid (decide (d≠0)=true):=decide_eq_true c;rw[Int.toNat_natCast] at i;clear f a g c
  go_enter func218,ntmps218
  go_wp2_with fail
  refine k.o.mono ?_;rintro e w' ⟨rfl,rfl⟩
  go_wp2_with(refine Zfo _ rfl _ _ _ _ rfl _ i.o ?_)
  intro D j;have t:=ZZ j;obtain⟨B,z,rfl,-⟩:=j;generalize E:m.drop d=M at *;go_wp2;go_ret2;refine⟨_,by rw[p.o];rfl,l.o.set _,?_,(But.refl _ _ _).set _ _ (.inl rfl) _⟩
  rw[u.o];exact t.o.setBox y
def ZcQ (X W:World):Prop:=W.heap=X.heap∧W.os=X.os∧W.tape=X.tape∧W.output=X.output
theorem ZcQ.refl (X:World):ZcQ X X:=⟨rfl,rfl,rfl,rfl⟩
theorem ZcQ.drew (h:ZcQ X W):ZcQ X W.drew:=h
theorem ZcQ.set (h:ZcQ X W) (a:Addr) (v:Value):ZcQ (X.setCell a v) (W.setCell a v):=by
 obtain⟨c,d,e,b⟩:=h;refine⟨?_,d,e,b⟩;simp only [World.setCell,c]
theorem ZcQ.below (h:ZcQ X W) (B:Nat):Below B X W:=⟨h.2.1,h.2.2.1,h.2.2.2,by rw[h.1];exact Nat.le_refl _,fun k _=>by rw[h.1]⟩
theorem ZcQ.cell (h:ZcQ X W) (a:Addr):W.cell? a=X.cell? a:=by simp only [World.cell?,h.1]
theorem ZcQ.froz (h:ZcQ X W) (a:Addr):W.frozen? a=X.frozen? a:=by simp only [World.frozen?,h.1]
def Zjl (w:World) (p:Nat × Nat):Prop:=(∃ x:Int,w.cell? ⟨p.1,p.2,none⟩=some (.int .i64 x))∧w.frozen? ⟨p.1,p.2,none⟩=false
theorem Zjl.set {p:Nat × Nat} (h:Zjl w p) (a:Nat × Nat) (n:Int):Zjl (w.setCell ⟨a.1,a.2,none⟩ (.int .i64 n)) p:=by
 obtain⟨⟨x,b⟩,c⟩:=h;refine⟨?_,by rw[World.frozen?_setCell];exact c⟩
 by_cases e:(⟨a.1,a.2,none⟩:Addr)=⟨p.1,p.2,none⟩
 ·rw[e]
  exact⟨n,World.cell?_setCell_same _ _ _ b⟩
 ·exact⟨x,by rw[World.cell?_setCell_other _ _ _ _ (fun h=>e h)];exact b⟩
theorem Rd.setNum (h:Rd w v m) {p:Nat × Nat} (A:Zjl w p) (x:Value):Rd (w.setCell ⟨p.1,p.2,none⟩ x) v m:=by
 obtain⟨u,l,n,g,t,q,a⟩:=h;refine⟨u,l,n,g,t,q,?_⟩;rcases a with a | ⟨c,f,k,z⟩
 ·exact .inl a
 ·refine .inr ⟨c,f,k,fun j i=>?_⟩
  have d:=z j i
  rw[World.cell?_setCell_other w ⟨p.1,p.2,none⟩ ⟨c,f+j,none⟩ x (fun e=>by
   obtain⟨⟨y,b⟩,-⟩:=A;rw[e,d] at b
   cases b)]
  exact d
def Yl (w:World):List (Nat × Nat)->List Nat->World
 | p::ps,n::ns=>Yl (w.setCell ⟨p.1,p.2,none⟩ (.int .i64 (n:Int))) ps ns
 | _,_=>w
theorem Zkb:∀ (w:World) (ps:List (Nat × Nat)) (ns:List Nat) (p:Nat × Nat) (n:Nat),ps.length=ns.length->Yl w (ps++[p]) (ns++[n])=(Yl w ps ns).setCell ⟨p.1,p.2,none⟩ (.int .i64 (n:Int))
 | w,[],[],p,n,_=>rfl
 | w,q::ps,m::ns,p,n,h=>by
  rw[List.cons_append,List.cons_append,Yl,Zkb _ ps ns p n (by simpa using h),Yl]
theorem Znd:∀ (w:World) (ps:List (Nat × Nat)) (ns:List Nat) {p:Nat × Nat},Zjl w p->Zjl (Yl w ps ns) p
 | w,[],_,p,h=>by cases ‹List Nat› <;> exact h
 | w,q::ps,[],p,h=>h
 | w,q::ps,m::ns,p,h=>by
  rw[Yl];exact Znd _ ps ns (h.set q m)
theorem Zba:∀ (w:World) (ps:List (Nat × Nat)) (ns:List Nat) (k:Nat),(∀ p ∈ ps,p.1≠k)->(Yl w ps ns).heap[k]?=w.heap[k]?
 | w,[],ns,k,_=>by cases ns <;> rfl
 | w,q::ps,[],k,_=>rfl
 | w,q::ps,m::ns,k,h=>by
  rw[Yl,Zba _ ps ns k (fun p a=>h p (by simp[a]))]
  exact Below.heap_setCell _ _ _ _ (fun e=>h q (by simp) e.symm)
theorem Zbb:∀ (w:World) (ps:List (Nat × Nat)) (ns:List Nat) (B:Nat) (a:World),(∀ p ∈ ps,B<=p.1)->Below B a w->Below B a (Yl w ps ns)
 | w,[],ns,B,a,_,h=>by cases ns <;> exact h
 | w,q::ps,[],B,a,_,h=>h
 | w,q::ps,m::ns,B,a,hp,h=>by
  rw[Yl];exact Zbb _ ps ns B a (fun p h=>hp p (by simp[h])) (h.setCell (hp q (by simp)) _)
def Zzf (w:World) (v:Value) (b:List UInt8) (ps:List (Nat × Nat)) (r:Option (List Nat × List UInt8)) (e:Ending) (w':World):Prop:=
 ∃ (v':Value) (l:List UInt8) (ns:List Nat),e=.returned (.tuple #[v',.bool r.isSome])∧(∀ W,Rd W v b->Rd W v' l)∧(r=none->l=[])∧(∀ x,r=some x->x=(ns,l))∧(∀ n ∈ ns,n<4611686018427387904)∧ns.length<=ps.length∧ZcQ (Yl w (ps.take ns.length) ns) w'
theorem Zqo:∀ (w:World) (ps:List (Nat × Nat)) (ns:List Nat) {v:Value} {m:List UInt8},(∀ p ∈ ps,Zjl w p)->Rd w v m->Rd (Yl w ps ns) v m
 | w,[],ns,v,m,_,h=>by cases ns <;> exact h
 | w,q::ps,[],v,m,_,h=>h
 | w,q::ps,k::ns,v,m,hp,h=>by
  rw[Yl];exact Zqo _ ps ns (fun p a=>(hp p (by simp[a])).set q k) (h.setNum (hp q (by simp)) _)
theorem ZgI (ao:Option Addr) (l:List UInt8) (cap:Nat) (f:l.length<=cap) (d:Nat) (g:d<=l.length):
 ∃ a b,(∀ W,(Instr.sliceAt 53 (.slice ao l.length cap) (some (.int .i64 (d:Int))) none none).run prog W=.ok (.slice a (l.drop d).length b) W)∧∀ W,Rd W (.slice ao l.length cap) l->Rd W (.slice a (l.drop d).length b) (l.drop d):=by
 have c:∃ a b,sliced ao d l.length cap 1=.slice a (l.length-d) b:=by
  unfold sliced;exact⟨_,_,rfl⟩
 obtain⟨a,b,c⟩:=c;refine⟨a,b,fun W=>?_,fun W h=>?_⟩
 ·rw[run_sliceAt_slice W 53 _ _ _ _ Xf,run_slice_l W 53 ao l.length cap Xf .i64 (d:Int) (by omega) (by omega),Zw,Zcd,length_drop,<-c]
  rfl
 ·rw[length_drop,<-c]
  have e:=h.mid d l.length cap g zL f zL;rw[List.take_of_length_le (by simp)] at e
  exact e
theorem ZrY {b:List UInt8} (h:(Qb b).2≠0):Y0 (n+1) b=(Y0 n (b.drop (Qb b).2)).map (fun r=>((Qb b).1::r.1,r.2)):=by rw[Y0,if_neg h]
theorem ZrZ {b:List UInt8} (h:(Qb b).2=0):Y0 (n+1) b=none:=by rw[Y0,if_pos h]
theorem Zat (N:Nat) (ps:List (Nat × Nat)) (v:Value) (b:List UInt8) (w:World) (K:Rd w v b) (A:∀ p ∈ ps,Zjl w p∧p.1≠N) (am:ps.length<=100)
 (hN:w.heap[N]?=some (.cells (ps.map (fun p=>Value.pointer (some ⟨p.1,p.2,none⟩))).toArray 208 (0,0))) (k:Nat) (hk:k=ps.length):
 Calls prog 160 #[v,.slice (some ⟨N,0,none⟩) k k] w fun e w'=>Zzf w v b ps (Y0 ps.length b) e w':=by
 subst hk;have X:=ZZ A
 have U:Hid (∀ q,q<ps.length->w.cell? ⟨N,q,none⟩=some (.pointer (some ⟨(ps.getD q (0,0)).1,(ps.getD q (0,0)).2,none⟩))):=ZZ (fun q Y=>by
  rw[cell_of_row w N q _ _ _ hN]
  simp[List.getD,Y])
 have P:Hid (∀ ns,(Yl w (ps.take (List.length ns)) ns).heap[N]?=w.heap[N]?):=ZZ (fun ns=>Zba w _ ns N (fun p C=>(A p (mem_of_mem_take C)).2))
 have M:=ZZ (fun v1 l W h=>ZcI v1 l W h)
 have HR:Hid (∀ ns,Rd (Yl w (ps.take (List.length ns)) ns) v b):=ZZ (fun ns=>Zqo w _ ns (fun p C=>(A p (mem_of_mem_take C)).1) K)
 obtain⟨R,V,hv⟩:∃ a c,v=.slice a b.length c:=by obtain⟨a,c,h,-⟩:=K;exact⟨a,c,h⟩
 subst hv;obtain⟨g,f⟩:∃ g,g=Y0 ps.length b:=⟨_,rfl⟩;rw[<-f]
 have Q:Hid (g=(Y0 (ps.length-0) b).map (fun r=>([]++r.1,r.2))):=ZZ (by
  rw[f,Nat.sub_zero]
  cases Y0 ps.length b <;> rfl)
 clear f A K hN;have al:(ps.length:Int)<=100:=by omega
 go_enter func160,ntmps160
 go_wp2
 go_loopw[0,12] (fun vb E wr=>∃ (q:Nat) (ns:List Nat) (b':List UInt8) (a:Option Addr) (c:Nat),E=.int .i64 (q:Int)∧vb=.slice a b'.length c∧q<=ps.length∧ns.length=q∧Hid (∀ W,Rd W (.slice R b.length V) b->Rd W (.slice a b'.length c) b')∧Hid (ZcQ (Yl w (ps.take ns.length) ns) wr)∧Hid (∀ n ∈ ns,n<4611686018427387904)∧Hid (g=(Y0 (ps.length-q) b').map (fun r=>(ns++r.1,r.2)))) (fun _ E _=>ps.length-(intOf E).toNat)
 case atStart=>exact⟨0,[],b,R,V,rfl,rfl,Nat.zero_le _,rfl,ZZ (fun W h=>h),ZZ (by rw[List.length_nil,List.take_zero];exact ZcQ.refl w),ZZ (fun n h=>by simp at h),Q⟩
 case round=>
  clear Q;obtain⟨q,ns,b',a,c,rfl,rfl,Y,H,D,i,J,f⟩:=hrel;have hR:Hid (Rd wr (.slice a b'.length c) b'):=ZZ (D.out wr ((HR.o ns).below (i.out.below (Yl w (ps.take ns.length) ns).heap.size) zL));have y:=ZZ H;by_cases u:q<ps.length
  case neg=>
   obtain rfl:q=ps.length:=by omega
   have j:Hid (g=some (ns,b')):=ZZ (by
    rw[f.out,Nat.sub_self]
    simp[Y0])
   clear H;go_wp2;go_ret2;rw[j.o];exact⟨_,b',ns,rfl,D.out,(fun h=>by cases h),(fun x h=>by injection h with h;exact h.symm),J.out,by rw[y.o];exact Nat.le_refl _,i.out⟩
  have ak:(q:Int)<(ps.length:Int):=by omega
  have ae:ps.length-q=(ps.length-(q+1))+1:=by omega
  have ad:wr.cell? ⟨N,q,none⟩=some (.pointer (some ⟨(ps.getD q (0,0)).1,(ps.getD q (0,0)).2,none⟩)):=by
   rw[i.out.cell];exact(World.cell?_of_block (a:=⟨N,q,none⟩) (P.o ns)).trans (U.o q u)
  have O:ps.getD q (0,0) ∈ ps:=by
   rw[show ps.getD q (0,0)=ps[q] by simp[List.getD,u]]
   exact List.getElem_mem u
  have B:Zjl (Yl w (ps.take ns.length) ns) (ps.getD q (0,0)):=Znd w _ ns (X.o _ O).1
  have T:Zjl wr (ps.getD q (0,0)):=⟨by
   obtain⟨x,hx⟩:=B.1
   exact⟨x,by rw[i.out.cell];exact hx⟩,by rw[i.out.froz];exact B.2⟩
  have L:Hid (∀ n:Nat,Yl w (ps.take (ns++[n]).length) (ns++[n])=(Yl w (ps.take ns.length) ns).setCell ⟨(ps.getD q (0,0)).1,(ps.getD q (0,0)).2,none⟩ (.int .i64 (n:Int))):=ZZ (fun n=>by
   have e1:ps.take (ns++[n]).length=ps.take ns.length++[ps.getD q (0,0)]:=by
    rw[length_append,List.length_singleton,y.o,List.take_add_one,List.getElem?_eq_getElem u];simp[List.getD,u]
   rw[e1,Zkb w _ ns _ n (by rw[List.length_take,y.o];omega)])
  have an:=ZZ T;obtain⟨⟨x0,af⟩,ab⟩:=T;clear O B U P X H;generalize ps.getD q (0,0)=p at *;obtain⟨pb,po⟩:=p
  dsimp only at ad af ab L
  have aa:=ZZ (M.o _ b' wr hR.out);have ac:=Z3 b'
  have ag:(Qb b').1<4611686018427387904:=by
   rcases Q4 b' with h | h
   ·rw[h];decide
   ·exact h.1
  have F:=ZZ (ZrY (n:=ps.length-(q+1)) (b:=b'));have G:=ZZ (ZrZ (n:=ps.length-(q+1)) (b:=b'));rw[<-ae] at F G;have Z:=ZZ (fun d t=>ZgI a b' c (by obtain⟨a',c',h,h2,-⟩:=hR.out;simp only [Value.slice.injEq] at h;omega) d t)
  generalize (Qb b').2=d at *;generalize (Qb b').1=n at *;clear M;by_cases t:d=0
  ·subst t
   have j:Hid (g=none):=ZZ (by rw[f.out,G.o rfl];rfl)
   go_wp2_with fail
   refine aa.o.mono ?_;rintro e I ⟨rfl,z⟩;rw[z];clear z I;go_wp2;go_ret2;rw[j.o];exact⟨_,[],ns,rfl,(fun W _=>Rd.nil W),(fun _=>rfl),(fun x h=>by cases h),J.out,by rw[y.o];omega,i.out⟩
  ·have aj:((d:Int) == 0)=false:=beq_eq_false_iff_ne.2 (by omega)
   obtain⟨xa,xc,hcut,S⟩:=Z.o d ac;have ai:=ZZ S
   have j:Hid (g=(Y0 (ps.length-(q+1)) (b'.drop d)).map (fun r=>((ns++[n])++r.1,r.2))):=ZZ (by
    rw[f.out,F.o t]
    cases Y0 (ps.length-(q+1)) (b'.drop d) with
    | none=>rfl
    | some r=>simp)
   clear S F G f t Z;generalize b'.drop d=b2 at *
   go_wp2_with fail
   refine aa.o.mono ?_;rintro e I ⟨rfl,z⟩;rw[z];clear z I;go_wp2
   go_region
   all_goals
    go_wp2;go_roundw
    case rel=>exact⟨q+1,ns++[n],b2,xa,xc,by go_num,rfl,by omega,by rw[length_append,List.length_singleton,y.o],ZZ (fun W h=>ai.o W (D.out W h)),ZZ (by rw[L.o];exact i.out.drew.set _ _),ZZ (fun m hm=>by
     rcases List.mem_append.1 hm with h | h
     ·exact J.out m h
     ·rw[List.mem_singleton.1 h];exact ag),j⟩
    case measure=>simp[intOf];omega
def Zjm (b:List UInt8):Option (Ent × List UInt8):=
 match Y0 2 b with
 | none=>none
 | some (ns,l)=>if(Qd l).2=0 then none else some (⟨((ns.getD 0 0:Nat):Int),((ns.getD 1 0:Nat):Int),zag (Qd l).1⟩,l.drop (Qd l).2)
theorem ZeJ (b:List UInt8):Y0 1 b=if(Qb b).2=0 then none else some ([(Qb b).1],b.drop (Qb b).2):=rfl
theorem Zio (b:List UInt8):Y0 2 b=if(Qb b).2=0 then none else if(Qb (b.drop (Qb b).2)).2=0 then none else some ([(Qb b).1,(Qb (b.drop (Qb b).2)).1],(b.drop (Qb b).2).drop (Qb (b.drop (Qb b).2)).2):=by
 rw[Y0];split
 ·rfl
 ·rw[ZeJ]
  split <;> rfl
theorem Zpa (n:Nat) (b:List UInt8):Zbf (n+1) b=(Zjm b).bind (fun y=>(Zbf n y.2).map (fun r=>(y.1::r.1,r.2))):=by
 have h:Zbf (n+1) b=if(Qb b).2=0∨(Qb (b.drop (Qb b).2)).2=0∨(Qd (b.drop ((Qb b).2+(Qb (b.drop (Qb b).2)).2))).2=0 then none
  else(Zbf n (b.drop ((Qb b).2+(Qb (b.drop (Qb b).2)).2+(Qd (b.drop ((Qb b).2+(Qb (b.drop (Qb b).2)).2))).2))).map (fun r=>(⟨(Qb b).1,(Qb (b.drop (Qb b).2)).1,zag (Qd (b.drop ((Qb b).2+(Qb (b.drop (Qb b).2)).2))).1⟩::r.1,r.2)):=rfl
 rw[h];unfold Zjm;rw[Zio];by_cases a:(Qb b).2=0
 ·rw[if_pos (.inl a),if_pos a]
  rfl
 rw[if_neg a];by_cases c:(Qb (b.drop (Qb b).2)).2=0
 ·rw[if_pos (.inr (.inl c)),if_pos c]
  rfl
 rw[if_neg c];simp only [drop_drop];by_cases d:(Qd (b.drop ((Qb b).2+(Qb (b.drop (Qb b).2)).2))).2=0
 ·rw[if_pos (.inr (.inr d)),if_pos d]
  rfl
 ·rw[if_neg (by omega),if_neg d]
  rfl
def Zzg (w:World) (v:Value) (b:List UInt8) (e:Ending) (w':World):Prop:=
 ∃ (x:Ent) (v':Value) (l:List UInt8),e=.returned (.tuple #[Zrm x,v',.bool (Zjm b).isSome])∧ZkN x∧(∀ W,Rd W v b->Rd W v' l)∧(∀ y,Zjm b=some y->y=(x,l))∧Below w.heap.size w w'
theorem Zsa:Qd []=(0,0):=by decide
theorem ZxL {R:Nat} (h:Be W R #[.int .i64 0,.int .i64 0,.int .i64 0]) (ns:List Nat) (d:ns.length<=2) (a:∀ n ∈ ns,n<4611686018427387904):
 ∃ x y:Int,Be (Yl W ([(R,0),(R,1)].take ns.length) ns) R #[.int .i64 x,.int .i64 y,.int .i64 0]∧I64 x∧I64 y∧(ns.length=2->x=((ns.getD 0 0:Nat):Int)∧y=((ns.getD 1 0:Nat):Int)):=by
 have b:I64 0:=Qk (by decide) (by decide)
 match ns,d,a with
 | [],_,_=>exact⟨0,0,h,b,b,fun h=>absurd h (by simp)⟩
 | [n],_,a=>
  have:=a n (by simp)
  refine⟨(n:Int),0,?_,⟨by omega,by omega⟩,b,fun h=>absurd h (by simp)⟩
  have c:=heap_setCell_same W R 0 _ _ (.int .i64 (n:Int)) h;exact c
 | [n,m],_,a=>
  have f:=a n (by simp)
  have c:=a m (by simp)
  refine⟨(n:Int),(m:Int),?_,⟨by omega,by omega⟩,⟨by omega,by omega⟩,fun _=>⟨rfl,rfl⟩⟩
  have e:=heap_setCell_same W R 0 _ _ (.int .i64 (n:Int)) h;exact heap_setCell_same _ R 1 _ _ (.int .i64 (m:Int)) e
theorem Zip (w:World) (x y z:Obj):((((w.alloc x).alloc y).alloc z).heap[w.heap.size]?=some x∧(((w.alloc x).alloc y).alloc z).heap[w.heap.size+1]?=some y∧(((w.alloc x).alloc y).alloc z).heap[w.heap.size+2]?=some z):=by
 refine⟨?_,?_,?_⟩
 ·exact((Below.heap_alloc _ _ _ (by simp;omega)).trans (Below.heap_alloc _ _ _ (by simp))).trans (heap_alloc_new w x)
 ·refine(Below.heap_alloc _ _ _ (by simp)).trans ?_
  have:=heap_alloc_new (w.alloc x) y;simpa using this
 ·have:=heap_alloc_new ((w.alloc x).alloc y) z
  simpa using this
theorem Be.set (h:Be w b cs) (j:Nat) (x:Value):Be (w.setCell ⟨b,j,none⟩ x) b (cs.setIfInBounds j x):=by
 have:=heap_setCell_same w b j _ _ x h;unfold Be;simpa using this
theorem Be.other {c:Nat} (h:Be w b cs) (j:Nat) (x:Value) (a:b≠c):Be (w.setCell ⟨c,j,none⟩ x) b cs:=(Below.heap_setCell _ _ _ _ a).trans h
theorem Zws {C:Nat} {b:World} (h:Below C b w) (R:Nat) (a:C<=R) (d e c:Value):Below C b (((w.setCell ⟨R,0,none⟩ d).setCell ⟨R,1,none⟩ e).setCell ⟨R,2,none⟩ c):=
 ((h.setCell a _).setCell a _).setCell a _
theorem Zne (v:Value) (b:List UInt8) (w:World) (C:Rd w v b):
 Calls prog 202 #[v] w fun e w'=>Zzg w v b e w':=by
 obtain⟨f,A⟩:∃ f,f=((w.alloc (.cells #[.int .i64 0,.int .i64 0,.int .i64 0] 85)).alloc (.cells #[.int .i64 0,.int .i64 0,.int .i64 0] 85)).alloc (.cells #[.pointer (some ⟨w.heap.size+1,0,none⟩),.pointer (some ⟨w.heap.size+1,1,none⟩)] 208):=⟨_,rfl⟩;have h3:=Zip w (.cells #[.int .i64 0,.int .i64 0,.int .i64 0] 85) (.cells #[.int .i64 0,.int .i64 0,.int .i64 0] 85) (.cells #[.pointer (some ⟨w.heap.size+1,0,none⟩),.pointer (some ⟨w.heap.size+1,1,none⟩)] 208);rw[<-A] at h3;obtain⟨hA,hB,hC⟩:=h3;have L:Hid (Below w.heap.size w f):=ZZ (by rw[A];exact(((Below.refl _ _).alloc zL _).alloc (by simp) _).alloc (by simp;omega) _)
 have F:Be f w.heap.size #[.int .i64 0,.int .i64 0,.int .i64 0]:=hA;have m:Be f (w.heap.size+1) #[.int .i64 0,.int .i64 0,.int .i64 0]:=hB;have ar:=ZZ F
 have ap:=ZZ (Zat (w.heap.size+1+1) [(w.heap.size+1,0),(w.heap.size+1,1)] v b f (C.below L.o zL) (fun p j=>by
  simp only [mem_cons,List.not_mem_nil,or_false] at j;rcases j with rfl | rfl
  ·exact⟨⟨⟨0,(m.cell 0).1⟩,(m.cell 0).2⟩,by simp⟩
  ·exact⟨⟨⟨0,(m.cell 1).1⟩,(m.cell 1).2⟩,by simp⟩) (by simp) hC 2 rfl)
 have P:=ZZ (fun ns=>ZxL m ns)
 have aa:Hid (∀ ns,Below w.heap.size w (Yl f ([(w.heap.size+1,0),(w.heap.size+1,1)].take (List.length ns)) ns)):=ZZ (fun ns=>Zbb f _ ns _ w (fun p j=>by
  have:=mem_of_mem_take j;simp only [mem_cons,List.not_mem_nil,or_false] at this
  rcases this with rfl | rfl <;> simp) L.o)
 have V:Hid (∀ ns,Be (Yl f ([(w.heap.size+1,0),(w.heap.size+1,1)].take (List.length ns)) ns) w.heap.size #[.int .i64 0,.int .i64 0,.int .i64 0]):=ZZ (fun ns=>(Zba f _ ns _ (fun p j=>by
  have:=mem_of_mem_take j;simp only [mem_cons,List.not_mem_nil,or_false] at this
  rcases this with rfl | rfl <;> simp)).trans F)
 have R:=ZZ (fun N l W h=>Zaj N l W h)
 have B:Hid (Zjm b=match Y0 [(w.heap.size+1,0),(w.heap.size+1,1)].length b with | none=>none | some (ns,l)=>if(Qd l).2=0 then none else some (⟨((ns.getD 0 0:Nat):Int),((ns.getD 1 0:Nat):Int),zag (Qd l).1⟩,l.drop (Qd l).2)):=ZZ rfl
 have ae:Hid (∀ ns l,Y0 [(w.heap.size+1,0),(w.heap.size+1,1)].length b=some (ns,l)->ns.length=2):=ZZ (fun ns l h=>by
  have d:Y0 2 b=some (ns,l):=h;rw[Zio] at d;split at d
  ·cases d
  split at d
  ·cases d
  injection d with d
  injection d with d _
  rw[<-d]
  rfl)
 unfold Zzg;obtain⟨n,am⟩:∃ n,n=Zjm b:=⟨_,rfl⟩;rw[<-am] at B ⊢;obtain⟨ok,E⟩:∃ ok,ok=n.isSome:=⟨_,rfl⟩;rw[<-E];have M:=ZZ E;clear E;generalize Y0 [(w.heap.size+1,0),(w.heap.size+1,1)].length b=Q at *;have aw:=ZZ C;obtain⟨va,vc,hv⟩:∃ a c,v=.slice a b.length c:=by obtain⟨a,c,h,-⟩:=C;exact⟨a,c,h⟩
 subst hv;clear C hA hB hC F m am
 go_enter func202,ntmps202
 go_wp2_with fail
 rw[<-A];refine ap.o.mono ?_;rintro e g ⟨N,l,ns,rfl,H,Y,O,ad,ab,D⟩;obtain⟨x,y,aj,af,ag,T⟩:=P.o ns ab ad;have G:Hid (Be g (w.heap.size+1) #[.int .i64 x,.int .i64 y,.int .i64 0]):=ZZ (aj.below (D.below (Yl f ([(w.heap.size+1,0),(w.heap.size+1,1)].take ns.length) ns).heap.size) zL);have U:Hid (Be g w.heap.size #[.int .i64 0,.int .i64 0,.int .i64 0]):=ZZ ((V.o ns).below (D.below (Yl f ([(w.heap.size+1,0),(w.heap.size+1,1)].take ns.length) ns).heap.size) zL);have K:Hid (Below w.heap.size w g):=ZZ ((aa.o ns).trans (D.below _));have u:=ZZ (H g (aw.o.below K.o zL));have au:=ZZ H;obtain⟨a1,c1,ay⟩:∃ a c,N=.slice a l.length c:=by obtain⟨a,c,h,-⟩:=u.o;exact⟨a,c,h⟩
 subst ay
 have an:l.length<=c1:=by
  obtain⟨a',c',h,d,-⟩:=u.o;simp only [Value.slice.injEq] at h;omega
 have ai:=ZZ (R.o _ l g u.o);have av:=Jz l;have X:I64 (zag (Qd l).1):=ZnN (Zks l);obtain⟨xa,xc,hcut,S⟩:=ZgI a1 l c1 an (Qd l).2 av;have aA:=ZZ (fun W h=>S W (au.o W h))
 have I:Hid (n.isSome=decide (0<(Qd l).2)):=ZZ (by
  rw[B.o]
  cases Q with
  | none=>rw[Y rfl,Zsa];rfl
  | some p=>
   have:=O p rfl;subst this
   dsimp only
   by_cases h:(Qd l).2=0
   ·rw[if_pos h,h];rfl
   ·rw[if_neg h,decide_eq_true (by omega)];rfl)
 have ax:Hid (∀ z,n=some z->z=(⟨x,y,zag (Qd l).1⟩,l.drop (Qd l).2)):=ZZ (fun z i=>by
  rw[B.o] at i
  cases Q with
  | none=>cases i
  | some p=>
   have:=O p rfl;subst this;obtain⟨h1,d⟩:=T (ae.o ns l rfl)
   dsimp only at i
   split at i
   ·cases i
   ·injection i with i
    rw[<-i,h1,d])
 have aq:Hid (ZkN ⟨x,y,zag (Qd l).1⟩):=ZZ ⟨af,ag,X⟩;clear H Y O ad ab D aj T B ae aa V P ap R S an L ar A af ag X;generalize zag (Qd l).1=z at *;generalize (Qd l).2=k at *;generalize l.drop k=Z at *;have ak:n.isSome=decide ((0:Int)<(k:Int)):=by rw[I.o];exact decide_eq_decide.2 (by omega)
 rw[<-M.o] at ak;have az:Hid (decide (0<k)=ok):=ZZ (by rw[M.o,I.o])
 clear M ak I
 go_wp2_with fail
 refine ai.o.mono ?_;rintro e W2 ⟨rfl,ao⟩;rw[ao];clear ao W2 ai;have q:Hid (Be (g.setCell ⟨w.heap.size+1,2,none⟩ (.int .i64 z)) (w.heap.size+1) #[.int .i64 x,.int .i64 y,.int .i64 z]):=ZZ (G.o.set 2 _);have t:Hid (Be (g.setCell ⟨w.heap.size+1,2,none⟩ (.int .i64 z)) w.heap.size #[.int .i64 0,.int .i64 0,.int .i64 0]):=ZZ (U.o.other 2 _ (by omega))
 obtain⟨e2,f2⟩:=G.o.cell 2;have J:Hid (Below w.heap.size w (g.setCell ⟨w.heap.size+1,2,none⟩ (.int .i64 z))):=ZZ (K.o.setCell (Nat.le_succ _) _)
 go_upto_region 5 with fail
 obtain⟨W3,ac⟩:∃ W3,W3=g.setCell ⟨w.heap.size+1,2,none⟩ (.int .i64 z):=⟨_,rfl⟩;rw[<-ac] at q t J ⊢;clear ac e2 f2 G U K u;obtain⟨x0,g0⟩:=q.o.cell 0;obtain⟨x1,g1⟩:=q.o.cell 1;obtain⟨x2,g2⟩:=q.o.cell 2;obtain⟨y0,m0⟩:=t.o.cell 0;obtain⟨y1,m1⟩:=t.o.cell 1;obtain⟨y2,m2⟩:=t.o.cell 2;have aC:¬ (w.heap.size=w.heap.size+1):=by omega
 have aD:¬ (w.heap.size+1=w.heap.size):=by omega
 have al:=Zws J.o.drew w.heap.size zL (.int .i64 x) (.int .i64 y) (.int .i64 z);have aB:=ZZ al;clear al J t q
 go_region
 all_goals
  go_wp2;refine bodyPost_ret (v:=.tuple #[.agg #[.int .i64 x,.int .i64 y,.int .i64 z],.slice xa Z.length xc,.bool ok]) (by simp[results,Tryz.results202,go_sem,y0,y1,y2,az.o]) rfl ?_
  exact⟨⟨x,y,z⟩,_,Z,rfl,aq.o,aA.o,ax.o,aB.o⟩
def ZxM (w:World) (TL:Option (List Ent)) (e:Ending) (w':World):Prop:=
 ∃ vt t,e=.returned (.tuple #[vt,.bool TL.isSome])∧Xc w' w.heap.size vt t∧(∀ e ∈ t,ZkN e)∧(∀ t',TL=some t'->t=t')∧Below w.heap.size w w'
def ZyC (v6 v7:Value):Nat:=
 match v7 with
 | .bool true=>(match v6 with
  | .slice _ n _=>n+1
  | _=>0)
 | _=>0
theorem Zsb {b:List UInt8} {y:Ent × List UInt8} (h:Zjm b=some y):y.2.length+1<=b.length:=by
 unfold Zjm at h;rw[Zio] at h;split at h
 ·cases h
 ·rename_i ns l a
  split at a
  ·cases a
  ·rename_i e
   split at a
   ·cases a
   ·injection a with a
    injection a with _ hl
    split at h
    ·cases h
    ·rename_i f
     injection h with h
     rw[<-h];have c:=Jz l;show(l.drop _).length+1<=_;rw[length_drop]
     have d:l.length<=b.length:=by
      rw[<-hl,length_drop,length_drop];omega
     omega
theorem Zwt (w:World) (x y:Obj):((w.alloc x).alloc y).heap[w.heap.size]?=some x∧((w.alloc x).alloc y).heap[w.heap.size+1]?=some y:=by
 refine⟨(Below.heap_alloc _ _ _ (by simp)).trans (heap_alloc_new w x),?_⟩
 have:=heap_alloc_new (w.alloc x) y;simpa using this
theorem Ziq {b:List UInt8} {ns:List Nat} (h:Y0 1 b=some (ns,l)):(Qb b).2≠0∧ns=[(Qb b).1]∧l=b.drop (Qb b).2:=by
 rw[ZeJ] at h;split at h
 ·cases h
 ·rename_i a
  injection h with h
  injection h with h2 h3
  exact⟨a,h2.symm,h3.symm⟩
theorem Zir {b:List UInt8} (h:Y0 1 b=none):(Qb b).2=0:=by
 rw[ZeJ] at h;split at h
 ·assumption
 ·cases h
theorem Xc.butD {B R:Nat} {l:List Ent} (h:Xc w B v l) (a:But R T w w') (k:∀ b,v.ownBlock=some b->b≠R∧b≠T):Xc w' B v l:=by
 rcases h.row with ⟨rfl,rfl⟩ | ⟨g,cap,cur,rfl,d,c,m,i,e,j,f⟩
 ·exact Xc.nil _ _
 ·have:=k g rfl
  exact Xc.ofRow rfl d ((a.block g c this.1 this.2).trans m) i e j f
theorem Zlp (v:Value) (b:List UInt8) (w:World) (X:Rd w v b) (be:b.length<=100000):
 Calls prog 165 #[v] w fun e w'=>ZxM w (ZbK b) e w':=by
 obtain⟨q,S⟩:∃ q,q=(w.alloc (.cells #[.int .i64 0] 3)).alloc (.cells #[.pointer (some ⟨w.heap.size,0,none⟩)] 208):=⟨_,rfl⟩;have h2:=Zwt w (.cells #[.int .i64 0] 3) (.cells #[.pointer (some ⟨w.heap.size,0,none⟩)] 208);rw[<-S] at h2;obtain⟨V,hC⟩:=h2;have am:Hid (Below w.heap.size w q):=ZZ (by rw[S];exact((Below.refl _ _).alloc zL _).alloc (by simp) _)
 have ar:=ZZ (Zat (w.heap.size+1) [(w.heap.size,0)] v b q (X.below am.o zL) (fun p hp=>by
  rw[List.mem_singleton.1 hp]
  exact⟨⟨⟨0,cell_of_row q w.heap.size 0 _ _ _ V⟩,frozen_of_row q w.heap.size 0 _ _ V⟩,by simp⟩) (by simp) hC 1 rfl)
 have aB:Hid (∀ n:Nat,(q.setCell ⟨w.heap.size,0,none⟩ (.int .i64 (n:Int))).cell? ⟨w.heap.size,0,none⟩=some (.int .i64 (n:Int))):=ZZ (fun n=>World.cell?_setCell_same _ _ _ (cell_of_row q w.heap.size 0 _ _ _ V))
 have aE:Hid (∀ ns,Below w.heap.size w (Yl q ([(w.heap.size,0)].take (List.length ns)) ns)):=ZZ (fun ns=>Zbb q _ ns _ w (fun p hp=>by
  have:=mem_of_mem_take hp;rw[List.mem_singleton.1 this]
  exact Nat.le_refl _) am.o)
 have aY:=ZZ (fun v1 l W h=>Zne v1 l W h)
 have O:=ZZ (Zmt (b:=b));have T:Hid ((Qb b).2=0->ZbK b=none):=ZZ (fun h=>by unfold ZbK;rw[if_pos (.inl h)])
 have ai:=ZZ (fun ns l h=>Ziq (b:=b) (ns:=ns) (l:=l) h)
 have ab:=ZZ (fun h=>Zir (b:=b) h)
 have hd:=Z3 b
 have bd:(Qb b).1<4611686018427387904:=by
  rcases Q4 b with h | h
  ·rw[h];decide
  ·exact h.1
 have ax:Hid ([(w.heap.size,0)].length=1):=ZZ rfl;rw[ax.o] at ar;generalize Y0 1 b=GL at *;obtain⟨I,aQ⟩:∃ I,I=ZbK b:=⟨_,rfl⟩;rw[<-aQ] at O T ⊢;clear aQ;have al:=ZZ X;obtain⟨va,vc,hv⟩:∃ a c,v=.slice a b.length c:=by obtain⟨a,c,h,-⟩:=X;exact⟨a,c,h⟩
 subst hv;clear X V hC ax
 go_enter func165,ntmps165
 go_wp2_with fail
 rw[<-S];refine ar.o.mono ?_;rintro e g ⟨v1,l,ns,rfl,aA,ac,aq,aI,aF,Z⟩;have i:Hid (Below w.heap.size w g):=ZZ ((aE.o ns).trans (Z.below _));have aD:=ZZ aA;obtain⟨a1,c1,a5⟩:∃ a c,v1=.slice a l.length c:=by obtain⟨a,c,h,-⟩:=aA g (al.o.below i.o zL);exact⟨a,c,h⟩
 subst a5;clear ar aE am S
 cases GL with
 | none=>
  have j:=ZZ (T.o (ab.o rfl));have a8:=ac rfl;subst a8;clear ac aq aI aF Z O T ab ai;show _;go_wp2
  go_loopw[4,6,7] (fun v4 H E wr=>v4=.slice none 0 0∧E=.bool false∧Hid (Below w.heap.size w wr)) (fun _ H E _=>ZyC H E)
  case atStart=>exact⟨rfl,rfl,i⟩
  case round=>
   obtain⟨rfl,rfl,m⟩:=hrel;go_wp2;go_ret2;rw[j.o];exact⟨_,[],rfl,Xc.nil _ _,(fun r h=>by simp at h),(fun t h=>by cases h),m.out⟩
 | some gp=>
  have:=aq gp rfl;subst this;obtain⟨g1,g2,g3⟩:=ai.o _ _ rfl;subst g2;have L:=ZZ (O.o g1);rw[<-g3] at L;have bj:l.length<=b.length:=by rw[g3,length_drop];omega
  have ae:g.cell? ⟨w.heap.size,0,none⟩=some (.int .i64 ((Qb b).1:Int)):=by
   rw[Z.cell];exact aB.o _
  have aU:=ZZ ae;have aZ:w.heap.size<g.heap.size:=World.block_lt_of_cell? g ⟨w.heap.size,0,none⟩ ae;generalize (Qb b).1=f at *;clear ac aq aI aF Z O T ab ai g1 g3 hd aB ae;obtain⟨u,ad⟩:∃ u,u=Zbf f l:=⟨_,rfl⟩;rw[<-ad] at L
  have aw:Hid (u=(Zbf (f-0) l).map (fun r=>([]++r.1,r.2))):=ZZ (by
   rw[ad,Nat.sub_zero]
   cases Zbf f l <;> rfl)
  clear ad;go_wp2
  go_loopw[4,6,7] (fun v4 H E wr=>∃ (t:List Ent) (d:List UInt8) (M:Option Addr) (Q:Nat) (K:Bool),H=.slice M d.length Q∧E=.bool K∧t.length<=b.length+1∧Hid (K=true->t.length+d.length<=b.length∧t.length<=f)∧Hid (Xc wr g.heap.size v4 t)∧Hid (∀ e ∈ t,ZkN e)∧Hid (∀ W,Rd W (.slice va b.length vc) b->Rd W (.slice M d.length Q) d)∧Hid (K=true->u=(Zbf (f-t.length) d).map (fun r=>(t++r.1,r.2)))∧Hid (K=false->u=none)∧Hid (Below g.heap.size g wr)) (fun _ H E _=>ZyC H E)
  case atStart=>exact⟨[],l,a1,c1,true,rfl,rfl,by simp,ZZ (fun _=>⟨by simp;omega,Nat.zero_le _⟩),ZZ (Xc.nil _ _),ZZ (fun e h=>by simp at h),aD,ZZ (fun _=>aw.o),ZZ (fun h=>by cases h),Below.refl _ _⟩
  case round=>
   clear aw aD;obtain⟨t,d,M,Q,K,rfl,rfl,bc,hL,D,N,hV,hT,hN,m⟩:=hrel;have hR:Hid (Rd wr (.slice M d.length Q) d):=ZZ (hV.out wr ((al.o.below i.o zL).below m.out zL));obtain⟨oa,oc,aW⟩:=D.out.shape;subst aW;have bk:wr.cell? ⟨w.heap.size,0,none⟩=some (.int .i64 (f:Int)):=(m.out.cell (p:=⟨w.heap.size,0,none⟩) aZ).trans aU.o
   cases K with
   | false=>
    have j:Hid (I=none):=ZZ (by rw[L.o,hN.out rfl];rfl)
    go_wp2;go_ret2;rw[j.o];exact⟨_,t,rfl,D.out.mono i.o.size,N.out,(fun t h=>by cases h),i.o.trans (m.out.mono i.o.size)⟩
   | true=>
    obtain⟨bg,bi⟩:=hL.out rfl;by_cases ba:t.length<f
    case neg=>
     have bf:¬ (t.length:Int)<(f:Int):=by omega
     have aX:Hid (u=some (t,d)):=ZZ (by
      rw[hT.out rfl,show f-t.length=0 by omega]
      simp[Zbf])
     have ay:Hid (I=if d=[] then some t else none):=ZZ (by rw[L.o,aX.o];rfl)
     by_cases Y:d.length=0
     ·have j:Hid (I=some t):=ZZ (by rw[ay.o,if_pos (List.eq_nil_of_length_eq_zero Y)])
      have aV:((d.length:Int) == 0)=true:=by rw[beq_iff_eq];omega
      clear Y;go_wp2;go_ret2;rw[j.o];exact⟨_,t,rfl,D.out.mono i.o.size,N.out,(fun t' h=>by injection h),i.o.trans (m.out.mono i.o.size)⟩
     ·have j:Hid (I=none):=ZZ (by
       rw[ay.o,if_neg (fun e=>Y (by rw[e];rfl))])
      have aV:((d.length:Int) == 0)=false:=beq_eq_false_iff_ne.2 (by omega)
      clear Y;go_wp2;go_ret2;rw[j.o];exact⟨_,t,rfl,D.out.mono i.o.size,N.out,(fun t' h=>by cases h),i.o.trans (m.out.mono i.o.size)⟩
    have bb:(t.length:Int)<(f:Int):=by omega
    have aG:f-t.length=(f-(t.length+1))+1:=by omega
    have af:Hid (u=((Zjm d).bind (fun y=>(Zbf (f-(t.length+1)) y.2).map (fun r=>(y.1::r.1,r.2)))).map (fun r=>(t++r.1,r.2))):=ZZ (by
     rw[hT.out rfl,aG,Zpa])
    have aK:=ZZ (fun y h=>Zsb (b:=d) (y:=y) h)
    have U:=ZZ (aY.o _ d (wr.alloc (.cells #[.int .i64 0,.int .i64 0,.int .i64 0] 85)) (hR.out.below ((Below.refl _ _).alloc zL _) zL));have ao:Hid (Below g.heap.size g (wr.alloc (.cells #[.int .i64 0,.int .i64 0,.int .i64 0] 85))):=ZZ (m.out.alloc m.out.size _);have av:Hid (Be (wr.alloc (.cells #[.int .i64 0,.int .i64 0,.int .i64 0] 85)) wr.heap.size #[.int .i64 0,.int .i64 0,.int .i64 0]):=ZZ (heap_alloc_new wr _);have aP:Hid (Xc (wr.alloc (.cells #[.int .i64 0,.int .i64 0,.int .i64 0] 85)) g.heap.size (.slice oa t.length oc) t):=ZZ (D.out.below ((Below.refl _ _).alloc zL _) zL);have ak:Hid (∀ k,(Value.slice oa t.length oc).ownBlock=some k->k<wr.heap.size):=ZZ (fun k hk=>(World.ownsRow.lt D.out k hk).2)
    obtain⟨SS,aR⟩:∃ SS,SS=Zjm d:=⟨_,rfl⟩;unfold Zzg at U;rw[<-aR] at af aK U;have an:=m.out.size;clear aR hT hN hL hR D m aG
    go_wp2_with fail
    refine U.o.mono ?_;rintro e W2 ⟨x,v2,J,rfl,aJ,aM,a6,P⟩;have F:=ZZ (av.o.below P zL);have ag:=ZZ (ao.o.trans (P.mono ao.o.size));have aL:=ZZ (aP.o.below P zL);have aT:=ZZ aJ;have ap:=ZZ (fun W h=>aM W (hV.out W h))
    obtain⟨a3,c3,a0⟩:∃ a c,v2=.slice a J.length c:=by obtain⟨a,c,h,-⟩:=ap.o g (al.o.below i.o zL);exact⟨a,c,h⟩
    subst a0;obtain⟨A,C,B⟩:=x;obtain⟨e0,f0⟩:=F.o.cell 0;obtain⟨e1,f1⟩:=F.o.cell 1;obtain⟨e2,f2⟩:=F.o.cell 2;obtain⟨z,aS⟩:∃ z,z=wr.heap.size:=⟨_,rfl⟩;rw[<-aS] at F ak e0 e1 e2 f0 f1 f2 an ⊢;clear aS;obtain⟨G,R⟩:∃ G,G=((W2.setCell ⟨z,0,none⟩ (.int .i64 A)).setCell ⟨z,1,none⟩ (.int .i64 C)).setCell ⟨z,2,none⟩ (.int .i64 B):=⟨_,rfl⟩;have aj:Hid (Be G z #[.int .i64 A,.int .i64 C,.int .i64 B]):=ZZ (by rw[R];exact((F.o.set 0 _).set 1 _).set 2 _)
    have aa:Hid (But z z W2 G):=ZZ (by rw[R];exact(((But.refl _ _ _).set _ _ (.inl rfl) _).set _ _ (.inl rfl) _).set _ _ (.inl rfl) _)
    have a7:Hid (Xc G g.heap.size (.slice oa t.length oc) t):=ZZ (aL.o.butD aa.o (fun k hk=>by have:=ak.o k hk;omega))
    have az:=ZZ (Zaf ag.o aa.o ag.o.size an an);have a9:g.heap.size<=G.heap.size:=az.o.size;unfold Zrm
    dsimp only
    go_upto_region 7 with fail
    rw[<-R];obtain⟨x0,-⟩:=aj.o.cell 0;obtain⟨x1,-⟩:=aj.o.cell 1;obtain⟨x2,-⟩:=aj.o.cell 2;clear R e0 e1 e2 f0 f1 f2 aJ aM P F ag aL U ao av aP ak aa
    go_wp2_with(at_builtin;refine Zfp _ rfl _ _ rfl g.heap.size _ t rfl a7.o ⟨A,C,B⟩ rfl (by omega) a9 ?_)
    intro v5 W5 aN aH;have aC:=ZZ aN;have aO:=ZZ (az.o.trans aH)
    have au:Hid (∀ e ∈ t++[(⟨A,C,B⟩:Ent)],ZkN e):=ZZ (fun e he=>by
     rcases List.mem_append.1 he with h | h
     ·exact N.out e h
     ·rw[List.mem_singleton.1 h];exact aT.o)
    clear aN aH
    cases SS with
    | none=>
     have j:Hid (u=none):=ZZ (by rw[af.o];rfl)
     go_wp2;go_roundw
     case rel=>exact⟨t++[⟨A,C,B⟩],J,a3,c3,false,rfl,rfl,by simp;omega,ZZ (fun h=>by cases h),aC,au,ap,ZZ (fun h=>by cases h),ZZ (fun _=>j.o),aO⟩
     case measure=>show 0<d.length+1;omega
    | some y=>
     have hy:=a6 y rfl;subst hy;have a4:=aK.o _ rfl
     dsimp only at a4
     have j:Hid (u=(Zbf (f-(t++[(⟨A,C,B⟩:Ent)]).length) J).map (fun r=>((t++[⟨A,C,B⟩])++r.1,r.2))):=ZZ (by
      rw[af.o,length_append,List.length_singleton,Option.bind_some]
      cases Zbf (f-(t.length+1)) J with
      | none=>rfl
      | some r=>simp)
     go_wp2;go_roundw
     case rel=>exact⟨t++[⟨A,C,B⟩],J,a3,c3,true,rfl,rfl,by simp;omega,ZZ (fun _=>⟨by simp;omega,by simp;omega⟩),aC,au,ap,ZZ (fun _=>j.o),ZZ (fun h=>by cases h),aO⟩
     case measure=>show J.length+1<d.length+1;omega
theorem Zbc:Qd []=(0,0):=by
 rcases Zo [] with h | h
 ·exact h
 ·have b:=h.2.1
  have a:=h.2.2.1;simp at a;omega
theorem ZcR:Qb []=(0,0):=by
 rcases Q4 [] with h | h
 ·exact h
 ·have b:=h.2.1
  have a:=h.2.2.1;simp at a;omega
theorem Zkc (h:(Qb l).2=0):(Qb l).1=0:=by
 rcases Q4 l with e | e
 ·rw[e]
 ·omega
theorem Zkd (h:(Qd l).2=0):zag (Qd l).1=0:=by
 rcases Zo l with e | e
 ·rw[e];rfl
 ·omega
theorem Zis (l:List UInt8):behind 0 l=[]:=rfl
theorem Ye {d:Nat} (h:d≠0) (l:List UInt8):behind d l=l.drop d:=if_neg h
theorem Zn (d:Nat) (l:List UInt8):(behind d l).length<=l.length:=by
 unfold behind;split
 ·simp
 ·simp
theorem Znf (l:List UInt8):
 ((Qd (behind (Qd (behind (Qb l).2 l)).2 (behind (Qb l).2 l))).2=0->Q0 l=(⟨0,0,0⟩,0))∧
 ((Qd (behind (Qd (behind (Qb l).2 l)).2 (behind (Qb l).2 l))).2≠0->Q0 l=if Jg ⟨((Qb l).1:Int),zag (Qd (behind (Qb l).2 l)).1,zag (Qd (behind (Qd (behind (Qb l).2 l)).2 (behind (Qb l).2 l))).1⟩ then(⟨((Qb l).1:Int),zag (Qd (behind (Qb l).2 l)).1,zag (Qd (behind (Qd (behind (Qb l).2 l)).2 (behind (Qb l).2 l))).1⟩,l.length-(behind (Qd (behind (Qd (behind (Qb l).2 l)).2 (behind (Qb l).2 l))).2 (behind (Qd (behind (Qb l).2 l)).2 (behind (Qb l).2 l))).length) else(⟨0,0,0⟩,0)):=by
 by_cases f:(Qb l).2=0
 ·have e:behind (Qb l).2 l=[]:=by rw[f];rfl
  rw[e,Zbc];simp only [Zis,Zbc,ne_eq,not_true_eq_false,false_imp_iff,and_true,true_imp_iff];unfold Q0;rw[if_pos (.inl f)]
 ·have e:behind (Qb l).2 l=l.drop (Qb l).2:=Ye f l
  rw[e];by_cases d:(Qd (l.drop (Qb l).2)).2=0
  ·have g:behind (Qd (l.drop (Qb l).2)).2 (l.drop (Qb l).2)=[]:=by rw[d];rfl
   rw[g,Zbc];simp only [ne_eq,not_true_eq_false,false_imp_iff,and_true,true_imp_iff];unfold Q0;rw[if_pos (.inr (.inl d))]
  ·have g:behind (Qd (l.drop (Qb l).2)).2 (l.drop (Qb l).2)=l.drop ((Qb l).2+(Qd (l.drop (Qb l).2)).2):=by rw[Ye d,drop_drop]
   rw[g];refine⟨fun b=>?_,fun b=>?_⟩
   ·unfold Q0
    rw[if_pos (.inr (.inr (.inl b)))]
   ·have p:=Z3 l
    have m:=Jz (l.drop (Qb l).2);have n:=Jz (l.drop ((Qb l).2+(Qd (l.drop (Qb l).2)).2));simp only [length_drop] at m n;rw[Ye b,drop_drop,length_drop];unfold Q0;generalize (Qd (l.drop ((Qb l).2+(Qd (l.drop (Qb l).2)).2))).2=k at *;generalize zag (Qd (l.drop ((Qb l).2+(Qd (l.drop (Qb l).2)).2))).1=y at *;generalize (Qd (l.drop (Qb l).2)).2=j at *;generalize zag (Qd (l.drop (Qb l).2)).1=x at *;generalize (Qb l).2=i at *;generalize (Qb l).1=c at *;by_cases a:Jg ⟨(c:Int),x,y⟩
    ·rw[if_neg (by rintro(h | h | h | h);exact f h;exact d h;exact b h;exact h a),if_pos a]
     congr 1
     omega
    ·rw[if_pos (.inr (.inr (.inr a))),if_neg a]
structure GIn (w W:World) (c a b:Int) (vb:Value) (m:List UInt8):Prop where
 res:Bo W w.heap.size #[.int .i64 0,.int .i64 0,.int .i64 0]
 box:Bo W (w.heap.size+1) #[.int .i64 c,.int .i64 a,.int .i64 b]
 cap:Bb W (w.heap.size+1+1) vb
 rd:Rd W vb m
 below:Below w.heap.size w W
theorem GIn.next {c b:Int} {f:Value} (h:GIn w W c a b f m) (d:But (w.heap.size+1+1) (w.heap.size+1+1) W W') (g:Bb W' (w.heap.size+1+1) v') (e:Rd W' v' m'):GIn w W' c a b v' m':=by
 have i:=h.cap.lt;exact⟨(d.block _ (by omega) (by omega) (by omega)).trans h.res,(d.block _ (by omega) (by omega) (by omega)).trans h.box,g,e,Zaf h.below d (by omega) (by omega) (by omega)⟩
theorem Rd.setInt (h:Rd w v m) {b j:Nat} {n:Int} (d:w.cell? ⟨b,j,none⟩=some (.int .i64 n)):Rd (w.setCell ⟨b,j,none⟩ x) v m:=by
 obtain⟨z,q,t,i,y,u,a⟩:=h;refine⟨z,q,t,i,y,u,?_⟩;rcases a with a | ⟨c,g,p,A⟩
 ·exact .inl a
 ·refine .inr ⟨c,g,p,fun k l=>?_⟩
  have f:=A k l
  rw[World.cell?_setCell_other w ⟨b,j,none⟩ ⟨c,g+k,none⟩ x (fun e=>by
   rw[e,f] at d
   simp at d)]
  exact f
theorem GIn.store {c b c' a' b':Int} (h:GIn w W c a b d m) (j:Nat) (x:Int) {n:Int} (e:(#[Value.int .i64 c,.int .i64 a,.int .i64 b]:Array Value)[j]?=some (.int .i64 n)) (f:(#[Value.int .i64 c,.int .i64 a,.int .i64 b]:Array Value).setIfInBounds j (.int .i64 x)=#[.int .i64 c',.int .i64 a',.int .i64 b']):
 GIn w (W.setCell ⟨w.heap.size+1,j,none⟩ (.int .i64 x)) c' a' b' d m:=by
 have g:=h.cap.lt;refine⟨(Below.heap_setCell _ _ _ _ (by show w.heap.size≠w.heap.size+1;omega)).trans h.res,?_,(Below.heap_setCell _ _ _ _ (by show w.heap.size+1+1≠w.heap.size+1;omega)).trans h.cap,h.rd.setInt (((h.box.cell j).1).trans e),h.below.setCell (by show w.heap.size<=w.heap.size+1;omega) _⟩
 have:=heap_setCell_same W (w.heap.size+1) j _ _ (.int .i64 x) h.box;unfold Bo;rw[<-f];simpa using this
theorem GIn.more {c b:Int} (h:GIn w W c a b e m) (d:Below W.heap.size W W'):GIn w W' c a b e m:=by
 have f:=h.cap.lt;exact⟨(d.block _ (by omega)).trans h.res,(d.block _ (by omega)).trans h.box,(d.block _ (by omega)).trans h.cap,h.rd.below d zL,h.below.trans (d.mono h.below.size)⟩
theorem Zdh (W:World) (b:Nat) (d e a:Value) (c i:Nat) (h:b≠c):(((W.setCell ⟨b,0,none⟩ d).setCell ⟨b,1,none⟩ e).setCell ⟨b,2,none⟩ a).drew.cell? ⟨c,i,none⟩=W.cell? ⟨c,i,none⟩:=by
 show(((W.setCell ⟨b,0,none⟩ d).setCell ⟨b,1,none⟩ e).setCell ⟨b,2,none⟩ a).cell? ⟨c,i,none⟩=_;rw[World.cell?_setCell_far _ _ _ _ h,World.cell?_setCell_far _ _ _ _ h,World.cell?_setCell_far _ _ _ _ h]
theorem ZuA (v:Value) (l:List UInt8) (w:World) (hr:Rd w v l) (aB:l.length<=1000000):
 Calls prog 209 #[v] w fun e w'=>ZtI w l e w':=by
 obtain⟨f,n,rfl⟩:∃ f n,v=.slice f l.length n:=by
  obtain⟨f,n,rfl,_⟩:=hr;exact⟨f,n,rfl⟩
 have HR:=ZZ hr;clear hr;have G:Hid (∀ W g,Bb W (w.heap.size+1+1) g->Rd W g l->Calls prog 218 #[.func (.func 168) #[] #[],.pointer (some ⟨w.heap.size+1+1,0,none⟩)] W fun e w'=>∃ v',e=.returned (.tuple #[.int .i64 ((Qb l).1:Nat),.bool (decide ((Qb l).2≠0))])∧Bb w' (w.heap.size+1+1) v'∧Rd w' v' (behind (Qb l).2 l)∧But (w.heap.size+1+1) (w.heap.size+1+1) W w'):=fun W g V D=>Zqn _ _ _ _ _ W V D (Z3 l) (fun h=>by rw[Zkc h];rfl) (ZcI g l W D)
 have Q:Hid (∀ m W g,Bb W (w.heap.size+1+1) g->Rd W g m->Calls prog 218 #[.func (.func 201) #[] #[],.pointer (some ⟨w.heap.size+1+1,0,none⟩)] W fun e w'=>∃ v',e=.returned (.tuple #[.int .i64 (zag (Qd m).1),.bool (decide ((Qd m).2≠0))])∧Bb w' (w.heap.size+1+1) v'∧Rd w' v' (behind (Qd m).2 m)∧But (w.heap.size+1+1) (w.heap.size+1+1) W w'):=fun m W g V D=>Zin _ _ _ _ _ W V D (Jz m) Zkd (Zaj g m W D)
 have u:=ZZ (Znf l);have ad:=ZZ (Zn (Qb l).2 l);obtain⟨q,av⟩:∃ q,q=behind (Qb l).2 l:=⟨_,rfl⟩;rw[<-av] at u G ad;have ac:=ZZ (Q.o q);have T:=ZZ (Zn (Qd q).2 q);obtain⟨b,aw⟩:∃ b,b=behind (Qd q).2 q:=⟨_,rfl⟩;rw[<-aw] at u ac T;have aa:=ZZ (Q.o b);have ab:=ZZ (Zn (Qd b).2 b);obtain⟨p,ak⟩:∃ p,p=behind (Qd b).2 b:=⟨_,rfl⟩;rw[<-ak] at u aa ab;have aC:p.length<=l.length:=Nat.le_trans ab.o (Nat.le_trans T.o ad.o);clear av aw ak Q ad T ab;unfold ZtI;generalize Q0 l=R at *;generalize (Qb l).1=c at *;generalize (Qb l).2=i at *;generalize zag (Qd q).1=x at *;generalize (Qd q).2=j at *;generalize zag (Qd b).1=y at *;generalize (Qd b).2=k at *;obtain⟨C,hC⟩:∃ C:Int,C=(c:Int):=⟨_,rfl⟩;rw[<-hC] at G u;have HF:Hid (∀ W,Calls prog 80 #[.agg #[.int .i64 C,.int .i64 x,.int .i64 y]] W fun e w'=>e=.returned (.bool (decide (Jg ⟨C,x,y⟩)))∧Below W.heap.size W w'):=fun W=>ZkW ⟨C,x,y⟩ W
 have am:=ZZ (fun W=>Zim f l.length n W)
 have aq:Hid (∀ W X Y,X=.cells #[.int .i64 0,.int .i64 0,.int .i64 0] 52->Y=.cells #[.int .i64 0,.int .i64 0,.int .i64 0] 52->W=((w.alloc X).alloc Y).alloc (.cells #[.slice f l.length n] 53)->GIn w W 0 0 0 (.slice f l.length n) l):=fun W X Y hX hY hW=>by
  subst hX hY hW;have b1:Below w.heap.size w (((w.alloc (.cells #[.int .i64 0,.int .i64 0,.int .i64 0] 52)).alloc (.cells #[.int .i64 0,.int .i64 0,.int .i64 0] 52)).alloc (.cells #[.slice f l.length n] 53)):=(((Below.refl _ _).alloc zL _).alloc (by simp) _).alloc (by simp;omega) _
  refine⟨?_,?_,?_,HR.o.below b1 zL,b1⟩
  ·exact(Below.heap_alloc _ _ _ (by simp;omega)).trans ((Below.heap_alloc _ _ _ (by simp)).trans (heap_alloc_new w _))
  ·exact(Below.heap_alloc _ _ _ (by simp)).trans (Zop w _ _)
  ·have h:=heap_alloc_new ((w.alloc (.cells #[.int .i64 0,.int .i64 0,.int .i64 0] 52)).alloc (.cells #[.int .i64 0,.int .i64 0,.int .i64 0] 52)) (.cells #[.slice f l.length n] 53)
   have e:((w.alloc (.cells #[.int .i64 0,.int .i64 0,.int .i64 0] 52)).alloc (.cells #[.int .i64 0,.int .i64 0,.int .i64 0] 52)).heap.size=w.heap.size+1+1:=by simp
   rw[e] at h;exact h
 clear hC
 go_enter func209,ntmps209
 go_wp2_with fail
 refine(am.o _).mono ?_;rintro e W1 ⟨rfl,ay⟩;have P:=ZZ (aq.o W1 _ _ rfl rfl ay);clear ay aq am
 go_wp2_with fail
 refine(G.o _ _ P.out.cap P.out.rd).mono ?_;rintro e W2 ⟨v2,rfl,al,ar,ai⟩;have S:=ZZ (P.out.next ai al ar);obtain⟨p0,f0⟩:=S.out.box.cell 0;clear al ar ai P G;have F:=ZZ (S.out.store (c':=C) (a':=0) (b':=0) 0 C rfl rfl)
 go_wp2_with fail
 refine(ac.o _ _ F.o.cap F.o.rd).mono ?_;rintro e W3 ⟨v3,rfl,aj,az,ag⟩;have U:=ZZ (F.o.next ag aj az);obtain⟨p1,f1⟩:=U.out.box.cell 1;clear aj az ag S F ac p0 f0;have E:=ZZ (U.out.store (c':=C) (a':=x) (b':=0) 1 x rfl rfl)
 go_wp2_with fail
 refine(aa.o _ _ E.o.cap E.o.rd).mono ?_;rintro e W4 ⟨v4,rfl,ae,af,an⟩;have J:=ZZ (E.o.next an ae af);obtain⟨p2,f2⟩:=J.out.box.cell 2;clear ae af an U E aa p1 f1;have d:=ZZ (J.out.store (c':=C) (a':=x) (b':=y) 2 y rfl rfl);by_cases B:k=0
 ·have z:Hid (R=(⟨0,0,0⟩,0)):=u.o.1 B
  rw[decide_eq_false (fun h=>h B)]
  obtain⟨N,g0⟩:=d.o.res.cell 0;obtain⟨O,g1⟩:=d.o.res.cell 1;obtain⟨H,g2⟩:=d.o.res.cell 2;have L:=ZZ d.o.below;clear B J;go_wp2;refine bodyPost_ret (v:=.tuple #[.agg #[.int .i64 0,.int .i64 0,.int .i64 0],.int .i64 0]) (by simp[results,Tryz.results209,go_sem,N,O,H]) rfl ?_
  rw[z.o];exact⟨rfl,((L.o.setCell zL _).setCell zL _).setCell zL _⟩
 ·have z:=ZZ (u.o.2 B)
  rw[decide_eq_true B];obtain⟨K,-⟩:=d.o.box.cell 0;obtain⟨I,-⟩:=d.o.box.cell 1;obtain⟨M,-⟩:=d.o.box.cell 2;clear B u
  go_wp2_with fail
  refine(HF.o _).mono ?_;rintro e t ⟨rfl,ap⟩;have a:=ZZ (d.o.more ap);clear ap d J K I M p2 f2;obtain⟨N,g0⟩:=a.out.res.cell 0;obtain⟨O,g1⟩:=a.out.res.cell 1;obtain⟨H,g2⟩:=a.out.res.cell 2;have L:=ZZ a.out.below;by_cases A:Jg ⟨C,x,y⟩
  ·rw[decide_eq_true A]
   rw[if_pos A] at z;obtain⟨K,-⟩:=a.out.box.cell 0;obtain⟨I,-⟩:=a.out.box.cell 1;obtain⟨M,-⟩:=a.out.box.cell 2;have hc:=a.out.cap.cell.1;obtain⟨Z,c4,rfl,-⟩:=a.out.rd;have HL:=ZZ (fun W h=>Zqm (w.heap.size+1+1) Z p.length c4 W h)
   have ao:IntKind.i64.wrap ((l.length:Int)-(p.length:Int))=((l.length-p.length:Nat):Int):=by rw[IntKind.wrap_i64];omega
   have aA:=ZZ ao;have au:=ZZ (⟨K,I,M,hc⟩:t.drew.cell? ⟨w.heap.size+1,0,none⟩=some (.int .i64 C)∧t.drew.cell? ⟨w.heap.size+1,1,none⟩=some (.int .i64 x)∧t.drew.cell? ⟨w.heap.size+1,2,none⟩=some (.int .i64 y)∧t.drew.cell? ⟨w.heap.size+1+1,0,none⟩=some (.slice Z p.length c4));have ax:=ZZ (⟨(Zdh t w.heap.size (.int .i64 C) (.int .i64 x) (.int .i64 y) _ _ (by omega)).trans K,(Zdh t w.heap.size (.int .i64 C) (.int .i64 x) (.int .i64 y) _ _ (by omega)).trans I,(Zdh t w.heap.size (.int .i64 C) (.int .i64 x) (.int .i64 y) _ _ (by omega)).trans M,(Zdh t w.heap.size (.int .i64 C) (.int .i64 x) (.int .i64 y) (w.heap.size+1+1) 0 (by omega)).trans hc⟩:_∧_∧_∧_)
   clear A a ao HF;go_wp2
   go_region_held(fun w'=>w'.cell? ⟨w.heap.size+1,0,none⟩=some (.int .i64 C)∧w'.cell? ⟨w.heap.size+1,1,none⟩=some (.int .i64 x)∧w'.cell? ⟨w.heap.size+1,2,none⟩=some (.int .i64 y)∧w'.cell? ⟨w.heap.size+1+1,0,none⟩=some (.slice Z p.length c4)) (first | exact au.o | exact ax.o)
    (first
     | (go_at_call 219;refine(HL.o _ (by first | exact au.o.2.2.2 | exact ax.o.2.2.2)).mono ?_;rintro e w' ⟨rfl,rfl⟩))
   all_goals
    go_wp2;refine bodyPost_ret (v:=.tuple #[.agg #[.int .i64 C,.int .i64 x,.int .i64 y],.int .i64 (IntKind.i64.wrap ((l.length:Int)-(p.length:Int)))]) (by simp[results,Tryz.results209,go_sem,N,O,H]) rfl ?_
    rw[z.o,aA.o];exact⟨rfl,((((L.o.setCell zL _).setCell zL _).setCell zL _)).drew⟩
  ·rw[decide_eq_false A]
   rw[if_neg A] at z;clear A a;go_wp2;refine bodyPost_ret (v:=.tuple #[.agg #[.int .i64 0,.int .i64 0,.int .i64 0],.int .i64 0]) (by simp[results,Tryz.results209,go_sem,N,O,H]) rfl ?_
   rw[z.o];exact⟨rfl,((L.o.setCell zL _).setCell zL _).setCell zL _⟩
def Zau (w:World) (r:St × Int) (e:Ending) (w':World):Prop:=
 ∃ vl,e=.returned (.tuple #[.agg #[.int .i64 r.1.kind,vl,.bool r.1.shut,.int .i64 r.1.eng],.int .i64 r.2])∧RdI w' vl r.1.L∧I64 r.1.kind∧I64 r.1.eng∧(∀ b,vl.ownBlock=some b->w.heap.size<=b)∧Below w.heap.size w w'
theorem Zau.zero (n:Int) (a:Below w.heap.size w w'):Zau w (ZcA,n) (.returned (.tuple #[.agg #[.int .i64 0,.slice none 0 0,.bool false,.int .i64 0],.int .i64 n])) w':=
 ⟨_,rfl,RdI.nil _,(Qk (by decide) (by decide):I64 0),(Qk (by decide) (by decide):I64 0),fun b a=>by simp[Value.ownBlock] at a,a⟩
theorem ZcS:∀ (a b:Nat) (l:List UInt8),Js (a+b) l=(Js a l).bind fun x=>(Js b (l.drop x.2)).map fun y=>(x.1++y.1,x.2+y.2)
 | 0,b,l=>by
  rw[Nat.zero_add,Js];simp
 | a+1,b,l=>by
  rw[Nat.add_right_comm,Js,Js,ZcS a b];by_cases h:(Qd l).2=0
  ·rw[if_pos h,if_pos h]
   rfl
  ·rw[if_neg h,if_neg h]
   cases Js a (l.drop (Qd l).2) with
   | none=>rfl
   | some x=>
    obtain⟨xs,u⟩:=x;simp only [Option.bind_some,Option.map_some,drop_drop]
    cases Js b (l.drop ((Qd l).2+u)) with
    | none=>rfl
    | some y=>simp[Nat.add_assoc]
theorem Zng (l:List UInt8):Js 1 l=if(Qd l).2=0 then none else some ([zag (Qd l).1],(Qd l).2):=by
 rw[Js];split
 ·rfl
 ·rfl
theorem Zsc (h:Js k l=some (xs,u)) (a:(Qd (l.drop u)).2≠0):Js (k+1) l=some (xs++[zag (Qd (l.drop u)).1],u+(Qd (l.drop u)).2):=by
 rw[ZcS,h];simp only [Option.bind_some];rw[Zng,if_neg a];rfl
theorem Zsd {m:Nat} (h:Js k l=some (xs,u)) (a:(Qd (l.drop u)).2=0) (b:k<m):Js m l=none:=by
 obtain⟨d,rfl⟩:∃ d,m=k+1+d:=⟨m-(k+1),by omega⟩
 rw[ZcS,ZcS k 1,h];simp only [Option.bind_some];rw[Zng,if_pos a];rfl
theorem Zpb (l:List UInt8):
 ((Qb (behind (Qb (behind (Qb l).2 l)).2 (behind (Qb l).2 l))).2=0∨3<(Qb (behind (Qb l).2 l)).1∨128<(Qb (behind (Qb (behind (Qb l).2 l)).2 (behind (Qb l).2 l))).1->ZeV l=(ZcA,3))∧
 (¬ ((Qb (behind (Qb (behind (Qb l).2 l)).2 (behind (Qb l).2 l))).2=0∨3<(Qb (behind (Qb l).2 l)).1∨128<(Qb (behind (Qb (behind (Qb l).2 l)).2 (behind (Qb l).2 l))).1)->
  ZeV l=ZlL (Qb l).1 (Qb (behind (Qb l).2 l)).1 (Qb (behind (Qb (behind (Qb l).2 l)).2 (behind (Qb l).2 l))).1 (behind (Qb (behind (Qb (behind (Qb l).2 l)).2 (behind (Qb l).2 l))).2 (behind (Qb (behind (Qb l).2 l)).2 (behind (Qb l).2 l)))):=by
 by_cases c:(Qb l).2=0
 ·have e:behind (Qb l).2 l=[]:=by rw[c];rfl
  rw[e,ZcR];simp only [Zis,ZcR];refine⟨fun _=>?_,fun h=>absurd (Or.inl trivial) h⟩
  unfold ZeV;rw[if_pos (.inl c)]
 ·have e:behind (Qb l).2 l=l.drop (Qb l).2:=Ye c l
  rw[e];by_cases b:(Qb (l.drop (Qb l).2)).2=0
  ·have d:behind (Qb (l.drop (Qb l).2)).2 (l.drop (Qb l).2)=[]:=by rw[b];rfl
   rw[d,ZcR];refine⟨fun _=>?_,fun h=>absurd (Or.inl rfl) h⟩
   unfold ZeV;rw[if_pos (.inr (.inl b))]
  ·have d:behind (Qb (l.drop (Qb l).2)).2 (l.drop (Qb l).2)=l.drop ((Qb l).2+(Qb (l.drop (Qb l).2)).2):=by rw[Ye b,drop_drop]
   rw[d];refine⟨fun a=>?_,fun a=>?_⟩
   ·unfold ZeV
    rw[if_pos (.inr (.inr a))]
   ·have f:(Qb (l.drop ((Qb l).2+(Qb (l.drop (Qb l).2)).2))).2≠0:=fun h=>a (.inl h)
    unfold ZeV;rw[if_neg (by rintro(h | h | h);exact c h;exact b h;exact a h),Ye f,drop_drop]
structure SIn (w W:World) (kd:Int) (vl:Value) (sh:Bool) (g:Int) (vb:Value) (m:List UInt8):Prop where
 res:Bx W w.heap.size #[.int .i64 0,.slice none 0 0,.bool false,.int .i64 0]
 box:Bx W (w.heap.size+1) #[.int .i64 kd,vl,.bool sh,.int .i64 g]
 cap:Bb W (w.heap.size+1+1) vb
 rd:Rd W vb m
 below:Below w.heap.size w W
theorem SIn.next {b:Bool} (h:SIn w W kd c b g e m) (a:But (w.heap.size+1+1) (w.heap.size+1+1) W W') (f:Bb W' (w.heap.size+1+1) v') (d:Rd W' v' m'):SIn w W' kd c b g v' m':=by
 have i:=h.cap.lt;exact⟨(a.block _ (by omega) (by omega) (by omega)).trans h.res,(a.block _ (by omega) (by omega) (by omega)).trans h.box,f,d,Zaf h.below a (by omega) (by omega) (by omega)⟩
theorem SIn.more {b:Bool} (h:SIn w W kd c b g d m) (a:Below W.heap.size W W'):SIn w W' kd c b g d m:=by
 have e:=h.cap.lt;exact⟨(a.block _ (by omega)).trans h.res,(a.block _ (by omega)).trans h.box,(a.block _ (by omega)).trans h.cap,h.rd.below a zL,h.below.trans (a.mono h.below.size)⟩
theorem Rd.setElse {y:Value} (h:Rd w v m) {b j:Nat} (d:w.cell? ⟨b,j,none⟩=some y) (q:∀ n,y≠.int .u8 n):Rd (w.setCell ⟨b,j,none⟩ x) v m:=by
 obtain⟨B,t,u,i,A,z,a⟩:=h;refine⟨B,t,u,i,A,z,?_⟩;rcases a with a | ⟨c,g,p,C⟩
 ·exact .inl a
 ·refine .inr ⟨c,g,p,fun k l=>?_⟩
  have f:=C k l
  rw[World.cell?_setCell_other w ⟨b,j,none⟩ ⟨c,g+k,none⟩ x (fun e=>by
   rw[e,f] at d
   exact q _ (Option.some.inj d).symm)]
  exact f
theorem SIn.store {kd' g':Int} {a sh':Bool} {b vl':Value} (h:SIn w W kd b a g c m) (j:Nat) (x y:Value) (e:(#[Value.int .i64 kd,b,.bool a,.int .i64 g]:Array Value)[j]?=some y) (d:∀ n,y≠.int .u8 n) (f:(#[Value.int .i64 kd,b,.bool a,.int .i64 g]:Array Value).setIfInBounds j x=#[.int .i64 kd',vl',.bool sh',.int .i64 g']):
 SIn w (W.setCell ⟨w.heap.size+1,j,none⟩ x) kd' vl' sh' g' c m:=by
 have i:=h.cap.lt;refine⟨(Below.heap_setCell _ _ _ _ (by show w.heap.size≠w.heap.size+1;omega)).trans h.res,?_,(Below.heap_setCell _ _ _ _ (by show w.heap.size+1+1≠w.heap.size+1;omega)).trans h.cap,h.rd.setElse (((h.box.cell j).1).trans e) d,h.below.setCell (by show w.heap.size<=w.heap.size+1;omega) _⟩
 have:=heap_setCell_same W (w.heap.size+1) j _ _ x h.box;unfold Bx;rw[<-f];simpa using this
structure DIn (w W:World) (kd g:Int) (sh:Bool) (R:List UInt8) (cnt G k:Nat) (vb:Value) (m:List UInt8) (ys:List Int) (th:Bool):Prop where
 sin:SIn w W kd (.slice (some ⟨G,0,none⟩) cnt cnt) sh g vb m
 row:W.heap[G]?=some (.cells (Qn ys).toArray 3 (0,0))
 len:ys.length=cnt
 far:w.heap.size+1+1<G
 st:(th=true∧∃ u,Js k R=some (ys.take k,u)∧m=R.drop u)∨(th=false∧Js k R=none∧m=[])
theorem Zse (h:Js k R=none):Js (k+1) R=none:=by
 rw[ZcS,h];rfl
theorem Zwu (a:List Int) (k:Nat) (x:Int) (b:k<a.length):(a.set k x).take (k+1)=a.take k++[x]:=by
 rw[List.take_add_one,List.take_set_of_le zL];simp[b]
theorem DIn.step {f:Nat} {a:List Int} {y:Bool} (h:DIn w W kd g j R f G k x m a y) (A:k<f) (i:But (w.heap.size+1+1) (w.heap.size+1+1) W W') (q:Bb W' (w.heap.size+1+1) v') (v:Rd W' v' (behind (Qd m).2 m)):
 DIn w (W'.setCell ⟨G,k,none⟩ (.int .i64 (zag (Qd m).1))) kd g j R f G (k+1) v' (behind (Qd m).2 m) (a.set k (zag (Qd m).1)) (decide ((Qd m).2≠0)):=by
 have z:=h.far;have p:G<W.heap.size:=(Array.getElem?_eq_some_iff.1 h.row).1;have l:W'.heap[G]?=some (.cells (Qn a).toArray 3 (0,0)):=(i.block G p (by omega) (by omega)).trans h.row
 have c:=h.sin.next i q v
 have t:W'.cell? ⟨G,k,none⟩=some (.int .i64 (a.getD k 0)):=by
  rw[cell_of_row W' G k _ _ _ l];have:=Y3 a k (by have:=h.len;omega)
  simpa using this
 refine⟨⟨?_,?_,?_,c.rd.setElse t (fun n e=>by simp at e),c.below.setCell (by show w.heap.size<=G;omega) _⟩,?_,by rw[List.length_set];exact h.len,z,?_⟩
 ·exact(Below.heap_setCell _ _ _ _ (by show w.heap.size≠G;omega)).trans c.res
 ·exact(Below.heap_setCell _ _ _ _ (by show w.heap.size+1≠G;omega)).trans c.box
 ·exact(Below.heap_setCell _ _ _ _ (by show w.heap.size+1+1≠G;omega)).trans c.cap
 ·rw[heap_setCell_same W' G k _ _ _ l]
  congr 2
  unfold Qn;apply Array.ext';simp[List.map_set]
 ·have B:=h.len
  rcases h.st with ⟨rfl,u,d,rfl⟩ | ⟨rfl,d,rfl⟩
  ·by_cases b:(Qd (R.drop u)).2=0
   ·right
    refine⟨decide_eq_false (fun h=>h b),Zsd d b (by omega),?_⟩
    rw[b];rfl
   ·left
    refine⟨decide_eq_true b,u+(Qd (R.drop u)).2,?_,?_⟩
    ·rw[Zsc d b,Zwu a k _ (by omega)]
    ·rw[Ye b,drop_drop]
  ·right
   rw[Zbc];exact⟨rfl,Zse d,rfl⟩
theorem DIn.own {d:Bool} {a:Nat} {b:List Int} {f:Bool} (h:DIn w W kd g d R a G k e m b f) (i:a<=maxLen):Qo W (w.heap.size+1+1+1) (.slice (some ⟨G,0,none⟩) a a) b:=by
 have c:=h.len;have j:=h.far;refine⟨by rw[Yw,Nat.mul_one],.inr ⟨G,a,(Qn b).toArray,by rw[c],by omega,h.row,by omega,i,?_,?_⟩⟩
 ·simp[Yw,c]
 ·rw[List.take_of_length_le]
  simp[Yw]
theorem Zlq (w:World) (n:Nat) (f:n<=1000000):(Instr.makeSlice 23 (.int .i64 (n:Int)) (.int .i64 (n:Int))).run prog w=.ok (.slice (some ⟨w.heap.size,0,none⟩) n n) (w.alloc (.cells (Qn (List.replicate n 0)).toArray 3)):=by
 obtain⟨e,b,a,c,d⟩:=info_parts Zku;have h:=run_make (P:=prog) w 23 3 e (.int .i64 0) underlying23 b a .i64 .i64 (n:Int) (n:Int) (by omega) (Int.le_refl _) (by rw[d];omega) (by omega)
 rw[Int.toNat_natCast,c,Nat.mul_one] at h;rw[h]
 congr 3
 apply Array.ext';show(madeCells #[Value.int .i64 0] n).toList=_;rw[toList_madeCells_one];simp[Qn]
theorem But.ofDrew {R:Nat} (h:But R T w.drew w'):But R T w w':=⟨h.os,h.tape,h.output,h.size,h.block⟩
theorem DIn.start {b:Bool} (h:SIn w W kd (.slice none 0 0) b g c R) (a:Nat):
 DIn w ((W.alloc (.cells (Qn (List.replicate a 0)).toArray 3)).setCell ⟨w.heap.size+1,1,none⟩ (.slice (some ⟨W.heap.size,0,none⟩) a a)) kd g b R a W.heap.size 0 c R (List.replicate a 0) true:=by
 have f:=h.cap.lt;have d:=h.more ((Below.refl _ _).alloc zL (.cells (Qn (List.replicate a 0)).toArray 3));refine⟨d.store 1 _ _ rfl (fun n e=>by simp at e) rfl,?_,by simp,f,.inl ⟨rfl,0,rfl,by simp⟩⟩
 exact(Below.heap_setCell _ _ _ _ (by show W.heap.size≠w.heap.size+1;omega)).trans (heap_alloc_new W _)
theorem DIn.spot {e:Bool} {c:Nat} {i:Value} {a:List Int} (h:DIn w W kd g e R c G k i m a j) (l:k<c) (d:But (w.heap.size+1+1) (w.heap.size+1+1) W W'):
 W'.cell? ⟨G,k,none⟩=some (.int .i64 (a.getD k 0))∧W'.frozen? ⟨G,k,none⟩=false:=by
 have n:=h.far;have f:G<W.heap.size:=(Array.getElem?_eq_some_iff.1 h.row).1;have b:W'.heap[G]?=some (.cells (Qn a).toArray 3 (0,0)):=(d.block G f (by omega) (by omega)).trans h.row
 refine⟨?_,frozen_of_row W' G k _ _ b⟩;rw[cell_of_row W' G k _ _ _ b];have:=Y3 a k (by have:=h.len;omega)
 simpa using this
theorem Zit (v:Value) (l:List UInt8) (w:World) (hr:Rd w v l) (_hlim:l.length<=1000000):
 Calls prog 164 #[v] w fun e w'=>Zau w (ZeV l) e w':=by
 obtain⟨I,L,rfl⟩:∃ I L,v=.slice I l.length L:=by
  obtain⟨I,L,rfl,_⟩:=hr;exact⟨I,L,rfl⟩
 have HR:=ZZ hr;clear hr;have ae:Hid (∀ m W f,Bb W (w.heap.size+1+1) f->Rd W f m->Calls prog 218 #[.func (.func 168) #[] #[],.pointer (some ⟨w.heap.size+1+1,0,none⟩)] W fun e w'=>∃ v',e=.returned (.tuple #[.int .i64 ((Qb m).1:Nat),.bool (decide ((Qb m).2≠0))])∧Bb w' (w.heap.size+1+1) v'∧Rd w' v' (behind (Qb m).2 m)∧But (w.heap.size+1+1) (w.heap.size+1+1) W w'):=fun m W f h1 h2=>Zqn _ _ _ _ _ W h1 h2 (Z3 m) (fun h=>by rw[Zkc h];rfl) (ZcI f m W h2)
 have a3:Hid (∀ m W f,Bb W (w.heap.size+1+1) f->Rd W f m->Calls prog 218 #[.func (.func 201) #[] #[],.pointer (some ⟨w.heap.size+1+1,0,none⟩)] W fun e w'=>∃ v',e=.returned (.tuple #[.int .i64 (zag (Qd m).1),.bool (decide ((Qd m).2≠0))])∧Bb w' (w.heap.size+1+1) v'∧Rd w' v' (behind (Qd m).2 m)∧But (w.heap.size+1+1) (w.heap.size+1+1) W w'):=fun m W f h1 h2=>Zin _ _ _ _ _ W h1 h2 (Jz m) Zkd (Zaj f m W h2)
 have HG:=ZZ (Zpb l);have aj:=ZZ (ae.o l)
 have c1:(Qb l).1<4611686018427387904:=by
  rcases Q4 l with h | h
  ·rw[h];decide
  ·exact h.1
 obtain⟨V,aR⟩:∃ V,V=behind (Qb l).2 l:=⟨_,rfl⟩;rw[<-aR] at HG aj;have ao:=ZZ (ae.o V);obtain⟨O,aT⟩:∃ O,O=behind (Qb V).2 V:=⟨_,rfl⟩;rw[<-aT] at HG ao;have ai:=ZZ (ae.o O);obtain⟨R,aB⟩:∃ m3,m3=behind (Qb O).2 O:=⟨_,rfl⟩;rw[<-aB] at HG ai;clear aR aT aB ae;generalize ZeV l=D at *;generalize (Qb l).1=kd at *;generalize (Qb l).2=i at *;generalize (Qb V).1=y at *;generalize (Qb V).2=j at *;generalize (Qb O).1=a at *;generalize (Qb O).2=k at *;have aG:=ZZ (fun W=>Zim I l.length L W)
 have aM:Hid (∀ W X Y,X=.cells #[.int .i64 0,.slice none 0 0,.bool false,.int .i64 0] 38->Y=.cells #[.int .i64 0,.slice none 0 0,.bool false,.int .i64 0] 38->W=((w.alloc X).alloc Y).alloc (.cells #[.slice I l.length L] 53)->SIn w W 0 (.slice none 0 0) false 0 (.slice I l.length L) l):=fun W X Y hX hY hW=>by
  subst hX hY hW;have U:Below w.heap.size w (((w.alloc (.cells #[.int .i64 0,.slice none 0 0,.bool false,.int .i64 0] 38)).alloc (.cells #[.int .i64 0,.slice none 0 0,.bool false,.int .i64 0] 38)).alloc (.cells #[.slice I l.length L] 53)):=(((Below.refl _ _).alloc zL _).alloc (by simp) _).alloc (by simp;omega) _
  refine⟨?_,?_,?_,HR.o.below U zL,U⟩
  ·exact(Below.heap_alloc _ _ _ (by simp;omega)).trans ((Below.heap_alloc _ _ _ (by simp)).trans (heap_alloc_new w _))
  ·exact(Below.heap_alloc _ _ _ (by simp)).trans (Zop w _ _)
  ·have h:=heap_alloc_new ((w.alloc (.cells #[.int .i64 0,.slice none 0 0,.bool false,.int .i64 0] 38)).alloc (.cells #[.int .i64 0,.slice none 0 0,.bool false,.int .i64 0] 38)) (.cells #[.slice I l.length L] 53)
   have e:((w.alloc (.cells #[.int .i64 0,.slice none 0 0,.bool false,.int .i64 0] 38)).alloc (.cells #[.int .i64 0,.slice none 0 0,.bool false,.int .i64 0] 38)).heap.size=w.heap.size+1+1:=by simp
   rw[e] at h;exact h
 go_enter func164,ntmps164
 go_wp2_with fail
 refine(aG.o _).mono ?_;rintro e W1 ⟨rfl,aY⟩;have G1:=ZZ (aM.o W1 _ _ rfl rfl aY);clear aY aM aG
 go_wp2_with fail
 refine(aj.o _ _ G1.out.cap G1.out.rd).mono ?_;rintro e W2 ⟨v2,rfl,aF,aP,ax⟩;have G2:=ZZ (G1.out.next ax aF aP);obtain⟨p0,f0⟩:=G2.out.box.cell 0;clear aF aP ax G1 aj;have ab:=ZZ (G2.out.store (kd':=(kd:Int)) (vl':=.slice none 0 0) (sh':=false) (g':=0) 0 (.int .i64 (kd:Int)) _ rfl (fun n e=>by simp at e) rfl)
 go_wp2_with fail
 refine(ao.o _ _ ab.o.cap ab.o.rd).mono ?_;rintro e W3 ⟨v3,rfl,ay,aZ,av⟩;have G3:=ZZ (ab.o.next av ay aZ);clear ay aZ av G2 ab ao p0 f0
 go_wp2_with fail
 refine(ai.o _ _ G3.out.cap G3.out.rd).mono ?_;rintro e W4 ⟨v4,rfl,ar,au,aI⟩;have d:=ZZ (G3.out.next aI ar au);clear ar au aI G3 ai;by_cases C:k=0∨3<y∨128<a
 ·have J:Hid (D=(ZcA,3)):=HG.o.1 C
  obtain⟨F,g0⟩:=d.out.res.cell 0;obtain⟨H,g1⟩:=d.out.res.cell 1;obtain⟨B,g2⟩:=d.out.res.cell 2;obtain⟨z,g3⟩:=d.out.res.cell 3;have aa:=ZZ d.out.below;by_cases K:k=0
  ·rw[decide_eq_false (fun h=>h K)]
   clear K C d;go_wp2;refine bodyPost_ret (v:=.tuple #[.agg #[.int .i64 0,.slice none 0 0,.bool false,.int .i64 0],.int .i64 3]) (by simp[results,Tryz.results164,go_sem,F,H,B,z]) rfl ?_
   rw[J.o];exact Zau.zero 3 (Zae aa.o w.heap.size zL _ _ _ _)
  ·rw[decide_eq_true K]
   by_cases h3:3<y
   ·have ba:(3:Int)<(y:Int):=by omega
    clear K C d h3;go_wp2;refine bodyPost_ret (v:=.tuple #[.agg #[.int .i64 0,.slice none 0 0,.bool false,.int .i64 0],.int .i64 3]) (by simp[results,Tryz.results164,go_sem,F,H,B,z]) rfl ?_
    rw[J.o];exact Zau.zero 3 (Zae aa.o w.heap.size zL _ _ _ _)
   ·have ba:¬ (3:Int)<(y:Int):=by omega
    have h4:(128:Int)<(a:Int):=by
     rcases C with h | h | h
     ·exact absurd h K
     ·exact absurd h h3
     ·omega
    clear K C d h3;go_wp2;refine bodyPost_ret (v:=.tuple #[.agg #[.int .i64 0,.slice none 0 0,.bool false,.int .i64 0],.int .i64 3]) (by simp[results,Tryz.results164,go_sem,F,H,B,z]) rfl ?_
    rw[J.o];exact Zau.zero 3 (Zae aa.o w.heap.size zL _ _ _ _)
 ·have J:Hid (D=ZlL kd y a R):=HG.o.2 C
  have K:k≠0:=fun h=>C (.inl h)
  have h3:¬ (3:Int)<(y:Int):=fun h=>C (.inr (.inl (by omega)))
  have h4:¬ (128:Int)<(a:Int):=fun h=>C (.inr (.inr (by omega)))
  rw[decide_eq_true K];obtain⟨p1,f1⟩:=d.out.box.cell 1;obtain⟨p2,f2⟩:=d.out.box.cell 2;obtain⟨p3,f3⟩:=d.out.box.cell 3;clear C K HG;have aN:y=0∨y=1∨y=2∨y=3:=by omega
  go_upto_region 8 with fail
  go_cut[] (fun wc=>∃ (p:Bool) (g:Int),Hid (∀ xs,mkS kd y xs=⟨kd,xs,p,g⟩)∧Hid (I64 g)∧Hid (SIn w wc kd (.slice none 0 0) p g v4 R))
  case first=>
   rcases aN with rfl | rfl | rfl | rfl
   ·go_wp2
    go_meet
    exact⟨false,0,ZZ (fun xs=>by simp[mkS]),ZZ (Qk (by omega) (by omega)),ZZ ((d.out.store 2 (.bool false) _ rfl (fun n e=>by simp at e) rfl).store 3 (.int .i64 0) _ rfl (fun n e=>by simp at e) rfl)⟩
   ·go_wp2
    go_meet
    exact⟨true,0,ZZ (fun xs=>by simp[mkS]),ZZ (Qk (by omega) (by omega)),ZZ ((d.out.store 2 (.bool true) _ rfl (fun n e=>by simp at e) rfl).store 3 (.int .i64 0) _ rfl (fun n e=>by simp at e) rfl)⟩
   ·go_wp2
    go_meet
    exact⟨true,1,ZZ (fun xs=>by simp[mkS]),ZZ (Qk (by omega) (by omega)),ZZ ((d.out.store 2 (.bool true) _ rfl (fun n e=>by simp at e) rfl).store 3 (.int .i64 1) _ rfl (fun n e=>by simp at e) rfl)⟩
   ·go_wp2
    go_meet
    exact⟨true,2,ZZ (fun xs=>by simp[mkS]),ZZ (Qk (by omega) (by omega)),ZZ ((d.out.store 2 (.bool true) _ rfl (fun n e=>by simp at e) rfl).store 3 (.int .i64 2) _ rfl (fun n e=>by simp at e) rfl)⟩
  case rest=>
   obtain⟨p,g,aq,aO,GS⟩:=hcut;clear aN p1 f1 p2 f2 p3 f3 d;have an:=ZZ (DIn.start GS.out a);obtain⟨a1,e1⟩:=(GS.out.more ((Below.refl _ _).alloc zL (.cells (Qn (List.replicate a 0)).toArray 3))).box.cell 1;have a9:=fun W=>Zlq W a (by omega)
   have aK:Hid (I64 (kd:Int)):=⟨by omega,by omega⟩
   have bb:a<=128:=by omega
   have a5:Hid (a<=maxLen):=ZZ (by unfold maxLen;omega)
   generalize (Qn (List.replicate a 0)).toArray=Z at *
   go_upto_region 10 with fail
   generalize ((wc.alloc (.cells Z 3)).setCell ⟨w.heap.size+1,1,none⟩ (.slice (some ⟨wc.heap.size,0,none⟩) a a))=W6 at *;clear a9 a1 e1 GS;generalize wc.heap.size=G at *;obtain⟨U,-⟩:=an.o.sin.box.cell 1;go_wp2
   go_loopw[10,57] (fun th ix wr=>∃ (q:Nat) (f:Value) (m:List UInt8) (A:List Int) (t:Bool),th=.bool t∧ix=.int .i64 (q:Int)∧q<=a∧Hid (DIn w wr kd g p R a G q f m A t)) (fun _ ix _=>a-(intOf ix).toNat)
   case atStart=>exact⟨0,_,_,_,true,rfl,rfl,Nat.zero_le _,an⟩
   case round=>
    clear an U;obtain⟨q,f,m,A,t,rfl,rfl,hq,c⟩:=hrel;by_cases aD:q<a
    ·have a7:(q:Int)<(a:Int):=by omega
     obtain⟨U,-⟩:=c.out.sin.box.cell 1;have a8:=c.out.far;have aH:Hid (wr.drew.cell? ⟨w.heap.size+1,1,none⟩=some (.slice (some ⟨G,0,none⟩) a a)):=U;have aC:=ZZ (a3.o m wr.drew f c.out.sin.cap c.out.sin.rd);have aL:=ZZ (fun W' v' T N hr=>c.out.step (W':=W') (v':=v') aD T N hr)
     have aU:=ZZ (fun W' T=>c.out.spot (W':=W') aD T)
     have aS:=ZZ (fun W' v' T N hr=>(((c.out.sin.next (W':=W') (v':=v') (m':=behind (Qd m).2 m) T N hr).box).cell 1).1)
     generalize zag (Qd m).1=x at *;generalize behind (Qd m).2 m=m' at *;generalize decide ((Qd m).2≠0)=t' at *;go_wp2
     go_region_held(fun w'=>w'.cell? ⟨w.heap.size+1,1,none⟩=some (.slice (some ⟨G,0,none⟩) a a)) (first | exact aH.o | exact am.o | exact aV.o)
      (first
       | (go_at_call 218;refine aC.o.mono ?_;rintro e Q ⟨v7,rfl,S,ak,aX⟩;have ad:=aX.ofDrew;have am:Hid (Q.cell? ⟨w.heap.size+1,1,none⟩=some (.slice (some ⟨G,0,none⟩) a a)):=aS.o Q v7 ad S ak;obtain⟨k0,k1⟩:=aU.o Q ad;have aV:Hid ((Q.setCell ⟨G,q,none⟩ (.int .i64 x)).cell? ⟨w.heap.size+1,1,none⟩=some (.slice (some ⟨G,0,none⟩) a a)):=ZZ ((World.cell?_setCell_far Q _ _ _ (by show G≠w.heap.size+1;omega)).trans am.o);have a6:=ZZ (aL.o Q v7 ad S ak);clear S ak aX ad))
     clear aH am aV aC aL aU aS k0 k1 U a8 c;go_wp2;go_roundw
     case rel=>exact⟨q+1,_,_,_,_,rfl,by go_num,by omega,a6⟩
     case measure=>simp[intOf];omega
    ·have aA:q=a:=by omega
     have a7:¬ (q:Int)<(a:Int):=by omega
     have aJ:=c.out.len;have a0:=ZZ (c.out.own a5.o);obtain⟨F,f0⟩:=c.out.sin.res.cell 0;obtain⟨H,f1⟩:=c.out.sin.res.cell 1;obtain⟨B,f2⟩:=c.out.sin.res.cell 2;obtain⟨z,f3⟩:=c.out.sin.res.cell 3;have aa:=ZZ c.out.sin.below;rcases c.out.st with ⟨rfl,u,M,ac⟩ | ⟨rfl,M,ac⟩
     ·have hu:=(ZbV _ _ _ _ M).2.1
      have aw:m.length=R.length-u:=by rw[ac,length_drop]
      have aQ:A.take q=A:=List.take_of_length_le (by omega)
      rw[aQ,aA] at M;have al:=ZZ M;have N:=c.out.sin.cap.cell.1;obtain⟨a4,c4,rfl,-⟩:=c.out.sin.rd;have HL:=ZZ (fun W h=>Zqm (w.heap.size+1+1) a4 m.length c4 W h)
      clear M aQ ac;by_cases ag:u=R.length
      ·have ap:m.length=0:=by omega
       rw[ap] at N HL
       have af:Hid (D=if X8 ⟨kd,A,p,g⟩ then((⟨kd,A,p,g⟩:St),0) else(ZcA,1)):=by
        refine ZZ ?_;rw[J.o];unfold ZlL;rw[al.o];simp only;rw[if_neg (by omega),aq.o]
       have az:=ZZ (ZbV _ _ _ _ al.o).2.2.2;have a2:=ZZ (a0.o.rd az.o);have q0:=(c.out.sin.box.cell 0).1;have q1:=(c.out.sin.box.cell 1).1;have q2:=(c.out.sin.box.cell 2).1;have q3:=(c.out.sin.box.cell 3).1;have aE:Hid (Calls prog 82 #[.agg #[.int .i64 kd,.slice (some ⟨G,0,none⟩) a a,.bool p,.int .i64 g]] wr fun e w'=>e=.returned (.bool (decide (X8 ⟨kd,A,p,g⟩)))∧Below wr.heap.size wr w'):=ZkV _ ⟨kd,A,p,g⟩ _ ⟨_,rfl,a2.o,aK.o,aO.o⟩
       clear ag aw ap aJ J aq
       go_wp2_with fail
       refine(HL.o _ N).mono ?_;rintro e W8 ⟨rfl,rfl⟩
       go_wp2_with fail
       refine aE.o.mono ?_;rintro e Q ⟨rfl,S⟩;have E:=ZZ (c.out.sin.more S);have aW:=ZZ (a0.o.below S zL);clear S F H B z f0 f1 f2 f3 q0 q1 q2 q3 N aE HL;obtain⟨F,f0⟩:=E.o.res.cell 0;obtain⟨H,f1⟩:=E.o.res.cell 1;obtain⟨B,f2⟩:=E.o.res.cell 2;obtain⟨z,f3⟩:=E.o.res.cell 3;have q0:=(E.o.box.cell 0).1;have q1:=(E.o.box.cell 1).1;have q2:=(E.o.box.cell 2).1;have q3:=(E.o.box.cell 3).1;by_cases hm:X8 ⟨kd,A,p,g⟩
       ·rw[decide_eq_true hm]
        have P:Hid (D=((⟨kd,A,p,g⟩:St),0)):=af.o.trans (if_pos hm);clear hm af;go_wp2;refine bodyPost_ret (v:=.tuple #[.agg #[.int .i64 kd,.slice (some ⟨G,0,none⟩) a a,.bool p,.int .i64 g],.int .i64 0]) (by simp[results,Tryz.results164,go_sem,F,H,B,z]) rfl ?_
        rw[P.o];refine⟨_,rfl,(aW.o.four w.heap.size (by omega) _ _ _ _).rd az.o,aK.o,aO.o,fun b T=>?_,Zae E.o.below w.heap.size zL _ _ _ _⟩
        have:=aW.o.fresh b T;omega
       ·rw[decide_eq_false hm]
        have P:Hid (D=(ZcA,1)):=af.o.trans (if_neg hm);clear hm af;go_wp2;refine bodyPost_ret (v:=.tuple #[.agg #[.int .i64 0,.slice none 0 0,.bool false,.int .i64 0],.int .i64 1]) (by simp[results,Tryz.results164,go_sem,F,H,B,z]) rfl ?_
        rw[P.o];exact Zau.zero 1 (Zae E.o.below w.heap.size zL _ _ _ _)
      ·have ap:(0:Int)<(m.length:Int):=by omega
       have P:Hid (D=(ZcA,3)):=by
        refine ZZ ?_;rw[J.o];unfold ZlL;rw[al.o];simp only;rw[if_pos ag]
       clear ag aw aJ J
       go_wp2_with fail
       refine(HL.o _ N).mono ?_;rintro e W8 ⟨rfl,rfl⟩;go_wp2;refine bodyPost_ret (v:=.tuple #[.agg #[.int .i64 0,.slice none 0 0,.bool false,.int .i64 0],.int .i64 3]) (by simp[results,Tryz.results164,go_sem,F,H,B,z]) rfl ?_
       rw[P.o];exact Zau.zero 3 (Zae aa.o w.heap.size zL _ _ _ _)
     ·rw[aA] at M
      have P:Hid (D=(ZcA,3)):=by
       refine ZZ ?_;rw[J.o];unfold ZlL;rw[M]
      clear M ac c;go_wp2;refine bodyPost_ret (v:=.tuple #[.agg #[.int .i64 0,.slice none 0 0,.bool false,.int .i64 0],.int .i64 3]) (by simp[results,Tryz.results164,go_sem,F,H,B,z]) rfl ?_
      rw[P.o];exact Zau.zero 3 (Zae aa.o w.heap.size zL _ _ _ _)
end Go.Proofs.YtnahjngbneicaaaGreatDoor
