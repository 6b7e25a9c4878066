import Derived.Test.YtnahjngbneicaaaGreatDoorPack11
namespace Go.Proofs.YtnahjngbneicaaaGreatDoor
set_option linter.unusedSimpArgs false
open _root_.Go.Proofs.Tryz
open List (drop_drop length_append length_drop mem_cons mem_of_mem_take)
set_option maxHeartbeats 8000000
set_option maxRecDepth 100000
open Go.RowKit
variable {c d e v v' x y:Value} {G T b k n u:Nat} {W W' X w w':World} {R l m m':List UInt8} {cs:Array Value} {a g kd:Int} {xs:List Int} {i:Bool}
abbrev zdm:=@Go.World.cell?_setCell_same
abbrev zet:=@Go.World.cell?_setCell_far
abbrev zfk:=@or_false
abbrev zfz:=@Option.bind_some
abbrev zf8:=@Nat.sub_self
theorem Zef {K:Nat->Prop} {pd p:Nat} {s:Sto} {d:Dk} {N:Nat} (vl:Value) (l:List Rec) (w:World) (h:SD K w pd p s d N T) (hK:∀ k,K k->k<w.heap.size) (A:OkS s) (hr:RdR w vl l) (aP:l=[]∨∀ k,vl.ownBlock=some k->K k)
 (bl:s.log.pcs.length<=500000) (bi:s.log.recs.length<=5000000) (hN:N<=900000) (hT:T<=900000000):
 Calls prog 22 #[ptr p,vl] w fun e w'=>J3 K w pd p (Xc l (s,d)) (N+2) (T+30000) e w':=by
 have au:=ZZ (ZbE vl l w hr);have HS:=ZZ h;have HK:=ZZ hK
 have az:Hid (∀ W,Below w.heap.size w W->Calls prog 14 #[ptr p] W fun e w'=>e=.returned (.int .i64 s.next)∧Below w.heap.size w w'):=ZZ (fun W f=>((HS.o.below f).next A.num).mono (by
  rintro e w' ⟨rfl,y⟩
  exact⟨rfl,f.trans (y.mono f.size)⟩))
 obtain⟨O,aw⟩:=zg7 (Xc l (s,d));rw[<-aw];have aR:=ZZ aw;have aV:Hid (∀ W c,Below w.heap.size w W->J3 K w pd p ((s,d),c) (N+2) (T+30000) (.returned (.int .i64 c)) W):=ZZ (fun W c f=>⟨rfl,(HS.o.below f).mono (by omega) (by omega),Ql.ofBelow f⟩)
 by_cases m:Yg l
 case neg=>
  rw[zai m] at au;have HR:Hid (O=((s,d),1)):=ZZ (by rw[aR.o];unfold Xc;rw[zab m])
  obtain⟨ra,rc,rfl,-⟩:=hr;clear h hK A aP aw m
  go_enter func22,ntmps22
  go_wp2_with fail
  refine au.o.mono ?_;rintro e W1 ⟨rfl,u⟩;have aY:=ZZ u;clear u;go_wp2;go_ret;rw[HR.o];exact aV.o W1 1 aY.o
 rw[zan m] at au;have bz:=ZZ hr;have bG:=ZZ aP;have aB:1<=l.length:=m.1;have bc:l.length<=256:=m.2.1;obtain⟨ra,rc,rfl,bn,bv,-,bk,bL⟩:=hr;rcases bL with h0 | ⟨b,ax,rfl,aD⟩
 ·rw[h0] at aB;simp at aB
 have aN:l.getD 0 Qj=l.headD Qj:=by cases l <;> rfl
 have ac:Hid (∀ W,Below w.heap.size w W->W.cell? ⟨b,ax,none⟩=some (.int .i64 (l.headD Qj).idx)):=ZZ (fun W f=>by
  have i:=(aD 0 (by omega)).keep (f.block b (aD 0 (by omega)).lt)
  have h1:=i.1;rw[aN,zc7,zc2] at h1
  exact h1)
 have aL:Hid (∀ W,Below w.heap.size w W->Below w.heap.size w W.drew):=ZZ (fun W f=>f.drew)
 by_cases Q:(l.headD Qj).idx=s.next
 case neg=>
  have HR:Hid (O=((s,d),15)):=ZZ (by rw[aR.o];unfold Xc;rw[zaa (fun t=>t m),zab Q])
  have aa:((l.headD Qj).idx != s.next)=true:=by rw[zbq];exact Q
  have bM:(0:Int)<(l.length:Int):=by omega
  generalize s.next=nx at *;generalize (l.headD Qj).idx=X at *;clear h hK A aP aw m aD aN bk Q
  go_enter func22,ntmps22
  go_wp2_with fail
  refine au.o.mono ?_;rintro e W1 ⟨rfl,u⟩;have aY:=ZZ u;have ad:=ZZ (aL.o W1 u);clear u
  go_upto_region 3 with fail
  go_cut[12] (fun v wc=>v=.bool true∧Hid (Below w.heap.size w wc))
  case first=>
   go_region_held(fun W=>W.cell? ⟨b,ax,none⟩=some (.int .i64 X))
    (first | (with_reducible exact ac.o _ ad.o) | (with_reducible exact ac.o _ C.o))
    (first | (go_at_call 14;refine(az.o _ ad.o).mono ?_;rintro e W2 ⟨rfl,ae⟩;have C:=ZZ ae;clear ae))
   all_goals
    go_wp2_with fail
    go_meet
    exact⟨by first | rfl | (rw[aa]),C⟩
  case rest=>
   obtain⟨rfl,HB⟩:=hcut;go_wp2;go_ret;rw[HR.o];exact aV.o _ 15 HB.o
 have aa:((l.headD Qj).idx != s.next)=false:=by rw[Q];simp
 have aZ:Q1 (l.headD Qj):=by
  rw[<-aN];rw[show l.getD 0 Qj=l[0]'(by omega) by simp[List.getD,show 0<l.length by omega]]
  exact m.2.2.1 _ (zcp _)
 have bf:0<=s.next:=by rw[<-Q];exact aZ.2.1
 have aT:s.next<4611686018427387904:=by rw[<-Q];exact aZ.2.2.1
 have aS:0<=s.now.st.kind∧s.now.st.kind<6:=⟨A.now.1.2.2.2.1,A.now.1.2.2.2.2.1⟩;have bE:=Ztp m aS aT;obtain⟨g,ay⟩:=zg7 (Ju s d);obtain⟨BA,ab⟩:=zg7 (Jz s l);obtain⟨⟨D,c⟩,hD⟩:=zg7 (Qy d g BA)
 have be:I64 g:=by
  rw[ay];unfold Ju;split
  ·obtain⟨F,M,I,L,⟨L1,g1,g2,-⟩,-⟩:=h
   exact ZcP g2 2 (by decide) (by decide)
  ·exact A.cu
 have ar:Hid (O=if c=0 then((Y7 s g l,D),0) else((s,D),c)):=ZZ (by
  rw[aR.o];unfold Xc;rw[zaa (fun t=>t m),zaa (fun t=>t Q)]
  dsimp only
  rw[<-ay,<-ab,<-hD])
 have a3:Hid (∀ W,Below w.heap.size w W->Calls prog 49 #[.slice (some ⟨b,ax,none⟩) l.length rc] W fun e w'=>∃ v',e=.returned v'∧Own w' w.heap.size v' (Qd (Yc l))∧Below w.heap.size w w'):=ZZ (fun W f=>(Zkf _ l W (bz.o.below f zL) m (by have:=ZiX m;omega)).mono (by
  rintro e w' ⟨v',rfl,j,y⟩
  exact⟨v',rfl,j.mono f.size,f.trans (y.mono f.size)⟩))
 have J:Hid (∀ W,Below w.heap.size w W->W.cell? ⟨p,0,none⟩=some (ptr pd)∧W.cell? ⟨p,12,none⟩=some (.int .i64 s.cur)):=ZZ (fun W f=>by
  obtain⟨⟨c0,-,bX,-⟩,-⟩:=(HS.o.below f).cells
  exact⟨c0,bX⟩)
 have a4:Hid (∀ vB W,Own W w.heap.size vB BA->Below w.heap.size w W->Calls prog 52 #[ptr pd,.int .i64 g,vB] W fun e w'=>e=.returned (.int .i64 c)∧SD K w' pd p s D (N+2) (T+30000)∧Ql (fun k=>¬ K k) w w'):=ZZ (fun vB W j f=>by
  refine((HS.o.fresh f).disk (c:=c) (d':=D) (N':=N+2) (T':=T+30000) (fun k hk=>?_) (fun F hF b9=>?_)).mono ?_
  ·rcases hk with hk | hk
   ·exact zay (HK.o k hk) f.size
   ·exact hk.2
  ·have:=Zkx g be vB BA W hF j.rd (.inr fun k hk m=>b9 k m (.inr ⟨(zaz j k hk).1,(zaz j k hk).2⟩)) (by omega) (by omega) (by rw[ab];omega)
   rw[<-hD] at this;refine this.mono ?_;rintro e w' ⟨g0,F',g1,g2⟩;exact⟨g0,F',g1.mono zL (by rw[ab];omega),g2⟩
  ·rintro e w' ⟨he,R,bR⟩
   exact⟨he,R.less (fun k hk=>.inl hk),(Ql.ofBelow f).trans (bR.mono (fun k hk hn=>hk (.inl hn))) (fun _ _ t=>t)⟩)
 have H:Hid (∀ W,Ql (fun k=>¬ K k) w W->RdR W (.slice (some ⟨b,ax,none⟩) l.length rc) l∧∀ k,K k->k<W.heap.size):=ZZ (fun W j=>⟨bz.o.keepK bG.o j,fun k hk=>zay (HK.o k hk) j.size⟩)
 have G:=ZZ A;have aC:=ZZ (And.intro bl bi);have a0:=ZZ (And.intro aB bc);have bM:(0:Int)<(l.length:Int):=by omega
 have cb:(l.length:Int)<=256:=by omega
 by_cases x:s.cur=0
 ·have aW:(s.cur == 0)=true:=by rw[x];rfl
  have aq:Hid (g=Xs d 2):=ZZ (by rw[ay];unfold Ju;rw[zab x])
  have a1:Hid (BA=Qd (Xq 3 s.now.st.kind.toNat s.next.toNat)++Qd (Yc l)):=ZZ (by rw[ab];unfold Jz;rw[zab x])
  have bZ:Hid ((Qd (Xq 3 s.now.st.kind.toNat s.next.toNat)).length+(Qd (Yc l)).length<=70368744177664):=ZZ (by
   rw[<-length_append,<-a1.o,ab]
   omega)
  have b1:Hid (∀ W,Below w.heap.size w W->Calls prog 50 #[ptr p,.int .i64 2] W fun e w'=>e=.returned (.int .i64 g)∧Below w.heap.size w w'∧Below W.heap.size W w'):=ZZ (fun W f=>by
   obtain⟨F,M,I,L,h1,h2,-⟩:=HS.o.below f;rw[aq.o];refine(Zgy 2 W h2 h1 (by omega) (by decide) (by decide)).mono ?_
   rintro e w' ⟨rfl,y⟩
   exact⟨rfl,f.trans (y.mono f.size),y⟩)
  have bV:Hid (∀ W,Below w.heap.size w W->Calls prog 51 #[ptr p] W fun e w'=>∃ v',e=.returned v'∧Own w' w.heap.size v' (Qd (Xq 3 s.now.st.kind.toNat s.next.toNat))∧Below w.heap.size w w'∧Below W.heap.size W w'):=ZZ (fun W f=>by
   obtain⟨F,M,I,L,h1,h2,-⟩:=HS.o.below f;refine(Zmr W h2 A.num aS aT bf).mono ?_;rintro e w' ⟨v',rfl,j,y⟩
   exact⟨v',rfl,j.mono f.size,f.trans (y.mono f.size),y⟩)
  have a5:Hid (∀ W,SD K W pd p { s with log:=(s.log.start g s.next).add l,now:=(Q4 s.now l).1,cur:=g,nw:=true } D (N+2) (T+30000)->Ql (fun k=>¬ K k) w W->c=0->J3 K w pd p O (N+2) (T+30000) (.returned (.int .i64 0)) W):=ZZ (fun W R j i=>by
   rw[ar.o,zab i];refine⟨rfl,?_,j⟩;have e1:Y7 s g l={ s with log:=(s.log.start g s.next).add l,now:=(Q4 s.now l).1,cur:=g,nw:=true }:=by unfold Y7;rw[zab x,zab x]
   rw[e1]
   exact R)
  have a8:Hid (∀ W,SD K W pd p s D (N+2) (T+30000)->Ql (fun k=>¬ K k) w W->c≠0->J3 K w pd p O (N+2) (T+30000) (.returned (.int .i64 c)) W):=ZZ (fun W R j i=>by
   rw[ar.o,zaa i]
   exact⟨rfl,R,j⟩)
  have br:Hid (s.cur≠0->s.log.pcs.length≠0):=ZZ A.cur;have bB:=ZZ x;obtain⟨nx,aj⟩:=zg7 s.next;obtain⟨X,aE⟩:=zg7 ((l.headD Qj).idx);rw[<-aj] at az aa;rw[<-aE] at ac aa;have aU:=ZZ aj;obtain⟨B,al⟩:=zg7 s.cur;rw[<-al] at J aW;have bm:=ZZ al;clear al;clear h hK A aP aw m aD aN bk Q aj aE hD ab ay x aR ar aZ bE be aS bf aT bl bi bn bv aB bc aV
  go_enter func22,ntmps22
  go_wp2_with fail
  refine au.o.mono ?_;rintro e W1 ⟨rfl,u⟩;have aY:=ZZ u;have ad:=ZZ (aL.o W1 u);clear u
  go_upto_region 3 with fail
  go_cut[12] (fun v wc=>v=.bool false∧Hid (Below w.heap.size w wc))
  case first=>
   go_region_held(fun W=>W.cell? ⟨b,ax,none⟩=some (.int .i64 X))
    (first | (with_reducible exact ac.o _ ad.o) | (with_reducible exact ac.o _ C.o))
    (first | (go_at_call 14;refine(az.o _ ad.o).mono ?_;rintro e W2 ⟨rfl,ae⟩;have C:=ZZ ae;clear ae))
   all_goals
    go_wp2_with fail
    go_meet
    exact⟨by first | rfl | (rw[aa]),C⟩
  case rest=>
  obtain⟨W2,rfl⟩:=zg7 wc;obtain⟨rfl,C⟩:=hcut;have aJ:=ZZ (aL.o W2 C.o)
  go_upto_region 5 with fail
  go_cut[5,6] (fun v5 v6 wc=>v5=.int .i64 B∧(∃ a n c,v6=.slice a n c)∧Hid (Own wc w.heap.size v6 (Qd (Yc l)))∧Hid (Below w.heap.size w wc))
  case first=>
   go_region_held(fun W=>W.cell? ⟨p,12,none⟩=some (.int .i64 B))
    (first | (with_reducible exact(J.o _ aJ.o).2) | (with_reducible exact(J.o _ E.o).2))
    (first | (go_at_call 49;refine(a3.o _ aJ.o).mono ?_;rintro e Z ⟨v3,rfl,ai,aK⟩;have ao:=ZZ ai;have E:=ZZ aK;obtain⟨z1,z2,z3,hz⟩:∃ a n c,v3=Value.slice a n c:=(by obtain⟨a,c,t⟩:=ai.shape;exact⟨a,_,c,t⟩);subst hz;clear ai aK))
   all_goals
    go_wp2_with fail
    go_meet
    exact⟨rfl,⟨_,_,_,rfl⟩,ao,E⟩
  case rest=>
  obtain⟨Z,rfl⟩:=zg7 wc;obtain⟨rfl,⟨z1,z2,z3,rfl⟩,ao,E⟩:=hcut;obtain⟨q0,aM⟩:=J.o Z E.o
  go_wp2_with fail
  refine(b1.o Z E.o).mono ?_;rintro e W4 ⟨rfl,bD,bw⟩;have ca:=ZZ bD;have bK:=ZZ bw;clear bw;have bH:Hid (Own W4 w.heap.size (.slice z1 z2 z3) (Qd (Yc l))):=ZZ (ao.o.below (show Below Z.heap.size Z W4 from bK.o) zL);clear bD q0 aM
  go_wp2_with fail
  refine(bV.o W4 ca.o).mono ?_;rintro e W5 ⟨v5,rfl,a2,bd,bu⟩;have bO:=ZZ bd;have bW:=ZZ bu;clear bu;have bI:=ZZ a2;have bT:Hid (Rd W5 (.slice z1 z2 z3) (Qd (Yc l))):=ZZ (bH.o.rd.below (show Below W4.heap.size W4 W5 from bW.o) zL);have bP:Hid (w.heap.size<=W5.heap.size):=ZZ bd.size
  obtain⟨y1,y2,y3,hy⟩:∃ a n c,v5=Value.slice a n c:=by
   obtain⟨a,c,t⟩:=a2.shape;exact⟨a,_,c,t⟩
  subst hy;clear a2 bd
  go_wp2_with(at_builtin;refine Xx _ rfl _ _ rfl w.heap.size _ _ rfl bI.o _ (Qd (Yc l)) rfl bT.o bZ.o bP.o ?_)
  intro v6 W6 aX bC;rw[<-a1.o] at aX;have bQ:=ZZ aX;have bo:Hid (Below w.heap.size w W6):=ZZ (bO.o.trans bC)
  obtain⟨x1,x2,x3,b7⟩:∃ a n c,v6=Value.slice a n c:=by
   obtain⟨a,c,t⟩:=aX.shape;exact⟨a,_,c,t⟩
  subst b7;obtain⟨q0,aM⟩:=J.o W6 bo.o;clear aX bC
  go_wp2_with fail
  refine(a4.o _ W6 bQ.o bo.o).mono ?_;rintro e z ⟨rfl,ap,aH⟩;have ak:=ZZ ap;have av:=ZZ aH;obtain⟨⟨-,-,S,af⟩,P⟩:=ap.cells;clear ap aH q0 aM;by_cases i:c=0
  case neg=>
   have bS:(c != 0)=true:=by rw[zbq];exact i
   have HE:=ZZ (a8.o z ak.o av.o i);clear i P S af;go_wp2;go_ret;exact HE.o
  have b5:=ZZ i;subst i;rw[<-bm.o] at S;have b2:=ZZ (ak.o.next G.o.num);rw[<-aU.o] at b2
  have b8:Hid (∀ W,Below z.heap.size z W->Calls prog 53 #[.pointer (some ⟨p,1,none⟩),.int .i64 g,.int .i64 nx] W fun e w'=>e=.returned (.tuple #[])∧SD K w' pd p { s with log:=s.log.start g s.next } D (N+2) (T+30000)∧Ql (fun k=>¬ K k) w w'):=ZZ (fun W f=>by
   have y:=(ak.o.below f).begin (fun k hk=>zay ((H.o z av.o).2 k hk) f.size) g nx (by have:=aC.o.1;omega)
   rw[aU.o] at y ⊢;refine y.mono ?_;rintro e w' ⟨he,h2,h3⟩
   exact⟨he,h2,(av.o.trans (Ql.ofBelow (F:=fun _=>False) f) (fun _ _ h=>h.elim)).trans h3 (fun _ _ h=>h)⟩)
  have b0:Hid (Below z.heap.size z z.drew):=ZZ (zac _ _).drew
  have bN:Hid (∀ W,Below z.heap.size z W->Calls prog 14 #[ptr p] W fun e w'=>e=.returned (.int .i64 nx)∧Below z.heap.size z w'):=ZZ (fun W f=>by
   rw[aU.o];refine((ak.o.below f).next G.o.num).mono ?_;rintro e w' ⟨rfl,y⟩
   exact⟨rfl,f.trans (y.mono f.size)⟩)
  go_upto_region 12 with fail
  go_cut[] (fun wc=>Hid (SD K wc pd p { s with log:=s.log.start g s.next } D (N+2) (T+30000)∧Ql (fun k=>¬ K k) w wc))
  case first=>
   go_region_with
    (first
     | (go_at_call 14;refine(bN.o _ (by first | exact b0.o | exact zac _ _)).mono ?_;rintro e W8 ⟨rfl,bF⟩;have b3:=ZZ bF;clear bF)
     | (go_at_call 53;refine(b8.o W8 b3.o).mono ?_;rintro e W9 ⟨rfl,bt,bx⟩;have ag:=ZZ (And.intro bt bx);clear bt bx))
   all_goals
    go_wp2_with fail
    go_meet
    exact ag
  case rest=>
  obtain⟨W9,rfl⟩:=zg7 wc;have ag:=hcut;clear hcut P S af;obtain⟨⟨-,-,S,af⟩,P⟩:=ag.o.1.cells;have bY:=P 12;have b6:=P 13;have a6:=ZZ (((ag.o.1.setHead (s':={ s with log:=s.log.start g s.next,cur:=g }) (H.o W9 ag.o.2).2 12 (.int .i64 g) rfl rfl rfl (fun _=>rfl))))
  have bj:=ZZ (a6.o.1.setHead (s':={ s with log:=s.log.start g s.next,cur:=g,nw:=true }) (fun k hk=>by have:=(H.o W9 ag.o.2).2 k hk;simpa using this) 13 (.bool true) rfl rfl rfl (fun _=>rfl))
  obtain⟨Y,bb⟩:=zg7 ((W9.setCell ⟨p,12,none⟩ (.int .i64 g)).setCell ⟨p,13,none⟩ (.bool true));have U:Hid (SD K Y pd p { s with log:=s.log.start g s.next,cur:=g,nw:=true } D (N+2) (T+30000)∧Ql (fun k=>¬ K k) w Y):=ZZ (by rw[bb];exact⟨bj.o.1,(ag.o.2.trans a6.o.2 (fun _ _ h=>h)).trans bj.o.2 (fun _ _ h=>h)⟩)
  have bq:({ s with log:=s.log.start g s.next }:Sto).cur=B:=bm.o.symm
  rw[bq] at S;have bA:({ s with log:=s.log.start g s.next }:Sto).nw=s.nw:=rfl
  rw[bA] at af;clear bq bA P
  go_upto_region 14 with fail
  rw[<-bb];clear bb S af bY b6 ag a6 bj
  have aF:=ZZ (U.o.1.add (H.o Y U.o.2).2 _ l (H.o Y U.o.2).1 (by simp[Lgb.start]) (by have:=aC.o.1;simp[Lgb.start];omega) (by have:=aC.o.2;have:=a0.o.2;show s.log.recs.length+l.length<=_;omega) (fun q hq=>by
   have ba:=G.o.log.start g s.next (by have:=G.o.log.f0;have:=Zai G.o.log.ch;show 0<=s.log.next;omega) G.o.log.top (.inr rfl)
   have:=ZaY ba.ch q hq;have:=ba.f0;have:=ba.top
   omega))
  go_wp2_with fail
  refine aF.o.mono ?_;rintro e V ⟨rfl,aQ,aO⟩;have a9:Hid (SD K V pd p { s with log:=(s.log.start g s.next).add l,cur:=g,nw:=true } D (N+2) (T+30000)):=ZZ aQ
  have am:Hid (Ql (fun k=>¬ K k) w V):=ZZ (U.o.2.trans aO (fun _ _ h=>h))
  clear aQ aO aF;obtain⟨la,ln,lc,ta,tn,tc,⟨c5,c6,c7,c8,c9,bg⟩,aG⟩:=a9.o.takes (H.o V am.o).2 G.o.now _ l (H.o V am.o).1 (by have:=a0.o.2;omega)
  have an:=ZZ aG;clear aG
  dsimp only at c5 c6 c8 c9 an
  go_wp2_with fail
  refine an.o.mono ?_;rintro e WC ⟨xa,xn,xc,ua,un,uc,rfl,⟨e5,e6,e7,e8,e9,b4⟩,fz,aA,aI⟩;have a7:=ZZ (a5.o _ aA (am.o.trans aI (fun _ _ h=>h)) (by first | rfl | trivial))
  have f5:=fz 5;have f6:=fz 6;have f7:=fz 7;have f8:=fz 8;have f9:=fz 9;have bU:=fz 10;clear aA aI fz c5 c6 c7 c8 c9 bg an;generalize Q4 s.now l=tk at *;go_wp2;go_ret;exact a7.o
 ·have aW:(s.cur == 0)=false:=zah.2 x
  have aq:Hid (g=s.cur):=ZZ (by rw[ay];unfold Ju;rw[zaa x])
  have a1:Hid (BA=Qd (Yc l)):=ZZ (by rw[ab];unfold Jz;rw[zaa x])
  rw[<-a1.o] at a3;rw[<-aq.o] at J
  have a5:Hid (∀ W,SD K W pd p { s with log:=s.log.add l,now:=(Q4 s.now l).1 } D (N+2) (T+30000)->Ql (fun k=>¬ K k) w W->c=0->J3 K w pd p O (N+2) (T+30000) (.returned (.int .i64 0)) W):=ZZ (fun W R j i=>by
   rw[ar.o,zab i];refine⟨rfl,?_,j⟩;have e1:Y7 s g l={ s with log:=s.log.add l,now:=(Q4 s.now l).1 }:=by unfold Y7;rw[zaa x,zaa x,aq.o]
   rw[e1]
   exact R)
  rw[<-aq.o] at aW
  have a8:Hid (∀ W,SD K W pd p s D (N+2) (T+30000)->Ql (fun k=>¬ K k) w W->c≠0->J3 K w pd p O (N+2) (T+30000) (.returned (.int .i64 c)) W):=ZZ (fun W R j i=>by
   rw[ar.o,zaa i]
   exact⟨rfl,R,j⟩)
  have br:Hid (s.cur≠0->s.log.pcs.length≠0):=ZZ A.cur;have bB:=ZZ x;obtain⟨nx,aj⟩:=zg7 s.next;obtain⟨X,aE⟩:=zg7 ((l.headD Qj).idx);rw[<-aj] at az aa;rw[<-aE] at ac aa;have aU:=ZZ aj;obtain⟨B,al⟩:=zg7 g;have bJ:Hid (s.cur=B):=ZZ (by rw[al,aq.o])
  rw[<-al] at J aW a4;clear al;clear h hK A aP aw m aD aN bk Q aj aE hD ab ay x aR ar aZ bE be aS bf aT bl bi bn bv aB bc aV
  go_enter func22,ntmps22
  go_wp2_with fail
  refine au.o.mono ?_;rintro e W1 ⟨rfl,u⟩;have aY:=ZZ u;have ad:=ZZ (aL.o W1 u);clear u
  go_upto_region 3 with fail
  go_cut[12] (fun v wc=>v=.bool false∧Hid (Below w.heap.size w wc))
  case first=>
   go_region_held(fun W=>W.cell? ⟨b,ax,none⟩=some (.int .i64 X))
    (first | (with_reducible exact ac.o _ ad.o) | (with_reducible exact ac.o _ C.o))
    (first | (go_at_call 14;refine(az.o _ ad.o).mono ?_;rintro e W2 ⟨rfl,ae⟩;have C:=ZZ ae;clear ae))
   all_goals
    go_wp2_with fail
    go_meet
    exact⟨by first | rfl | (rw[aa]),C⟩
  case rest=>
  obtain⟨W2,rfl⟩:=zg7 wc;obtain⟨rfl,C⟩:=hcut;have aJ:=ZZ (aL.o W2 C.o)
  go_upto_region 5 with fail
  go_cut[5,6] (fun v5 v6 wc=>v5=.int .i64 B∧(∃ a n c,v6=.slice a n c)∧Hid (Own wc w.heap.size v6 BA)∧Hid (Below w.heap.size w wc))
  case first=>
   go_region_held(fun W=>W.cell? ⟨p,12,none⟩=some (.int .i64 B))
    (first | (with_reducible exact(J.o _ aJ.o).2) | (with_reducible exact(J.o _ E.o).2))
    (first | (go_at_call 49;refine(a3.o _ aJ.o).mono ?_;rintro e Z ⟨v3,rfl,ai,aK⟩;have ao:=ZZ ai;have E:=ZZ aK;obtain⟨z1,z2,z3,hz⟩:∃ a n c,v3=Value.slice a n c:=(by obtain⟨a,c,t⟩:=ai.shape;exact⟨a,_,c,t⟩);subst hz;clear ai aK))
   all_goals
    go_wp2_with fail
    go_meet
    exact⟨rfl,⟨_,_,_,rfl⟩,ao,E⟩
  case rest=>
  obtain⟨Z,rfl⟩:=zg7 wc;obtain⟨rfl,⟨z1,z2,z3,rfl⟩,ao,E⟩:=hcut;obtain⟨q0,aM⟩:=J.o Z E.o
  go_wp2_with fail
  refine(a4.o _ Z ao.o E.o).mono ?_;rintro e z ⟨rfl,ap,aH⟩;have ak:=ZZ ap;have av:=ZZ aH;obtain⟨⟨-,-,S,af⟩,P⟩:=ap.cells;clear ap aH q0 aM;by_cases i:c=0
  case neg=>
   have bS:(c != 0)=true:=by rw[zbq];exact i
   have HE:=ZZ (a8.o z ak.o av.o i);clear i P S af;go_wp2;go_ret;exact HE.o
  have b5:=ZZ i;subst i;obtain⟨Y,rfl⟩:=zg7 z;have U:=ZZ (And.intro ak.o av.o)
  have aF:=ZZ (U.o.1.add (H.o Y U.o.2).2 _ l (H.o Y U.o.2).1 (br.o bB.o) (by have:=aC.o.1;omega) (by have:=aC.o.2;have:=a0.o.2;omega) (fun q hq=>by
   have:=ZaY G.o.log.ch q hq;have:=G.o.log.f0;have:=G.o.log.top
   omega))
  clear P af;have bp:s.cur=B:=bJ.o;rw[bp] at S;clear bp
  go_wp2_with fail
  refine aF.o.mono ?_;rintro e V ⟨rfl,aQ,aO⟩;have a9:Hid (SD K V pd p { s with log:=s.log.add l } D (N+2) (T+30000)):=ZZ aQ
  have am:Hid (Ql (fun k=>¬ K k) w V):=ZZ (U.o.2.trans aO (fun _ _ h=>h))
  clear aQ aO aF;obtain⟨la,ln,lc,ta,tn,tc,⟨c5,c6,c7,c8,c9,bg⟩,aG⟩:=a9.o.takes (H.o V am.o).2 G.o.now _ l (H.o V am.o).1 (by have:=a0.o.2;omega)
  have an:=ZZ aG;clear aG
  dsimp only at c5 c6 c8 c9 an
  go_wp2_with fail
  refine an.o.mono ?_;rintro e WC ⟨xa,xn,xc,ua,un,uc,rfl,⟨e5,e6,e7,e8,e9,b4⟩,fz,aA,aI⟩;have a7:=ZZ (a5.o _ aA (am.o.trans aI (fun _ _ h=>h)) (by first | rfl | trivial))
  have f5:=fz 5;have f6:=fz 6;have f7:=fz 7;have f8:=fz 8;have f9:=fz 9;have bU:=fz 10;clear aA aI fz c5 c6 c7 c8 c9 bg an;generalize Q4 s.now l=tk at *;go_wp2;go_ret;exact a7.o
def Bb (w:World) (b:Nat) (v:Value):Prop:=w.heap[b]?=some (.cells #[v] 53 (0,0))
theorem Bb.lt (h:Bb w b v):b<w.heap.size:=(zar.1 h).1
theorem Bb.cell (h:Bb w b v):w.cell? ⟨b,0,none⟩=some v∧w.frozen? ⟨b,0,none⟩=false:=
 ⟨(zas w b 0 _ _ _ h).trans rfl,zbc w b 0 _ _ h⟩
theorem Bb.set (h:Bb w b v) (x:Value):Bb (w.setCell ⟨b,0,none⟩ x) b x:=by
 have:=zbk w b 0 _ _ x h;unfold Bb;simpa using this
theorem Rd.setBox (h:Rd w v m) {b:Nat} {ao:Option Addr} {n cap:Nat} (g:w.cell? ⟨b,0,none⟩=some (.slice ao n cap)):Rd (w.setCell ⟨b,0,none⟩ x) v m:=by
 obtain⟨q,y,p,z,u,k,a⟩:=h;refine⟨q,y,p,z,u,k,?_⟩;rcases a with a | ⟨c,f,l,t⟩
 ·exact .inl a
 ·refine .inr ⟨c,f,l,fun j i=>?_⟩
  have d:=t j i
  rw[zbu w ⟨b,0,none⟩ ⟨c,f+j,none⟩ x (fun e=>by
   rw[e,d] at g
   cases g)]
  exact d
def behind (d:Nat) (m:List UInt8):List UInt8:=if d=0 then[] else m.drop d
theorem ZiY (ao:Option Addr) (n cap:Nat) (w:World):
 Calls prog 200 #[.slice ao n cap] w fun e w'=>e=.returned (.tuple #[.func (.func 218) #[] #[.pointer (some ⟨w.heap.size,0,none⟩)],.func (.func 219) #[] #[.pointer (some ⟨w.heap.size,0,none⟩)]])∧w'=w.alloc (.cells #[.slice ao n cap] 53):=by
 have a:∀ (fn:Fn) (first cap:Array Value) (w:World),(Instr.makeFunc fn first cap).run prog w=.ok (.func fn first cap) w:=fun _ _ _ _=>rfl
 go_enter func200,ntmps200
 go_wp2;go_ret2;exact⟨rfl,rfl⟩
theorem Zru (b:Nat) (ao:Option Addr) (n cap:Nat) (w:World) (a:w.cell? ⟨b,0,none⟩=some (.slice ao n cap)):
 Calls prog 219 #[.pointer (some ⟨b,0,none⟩)] w fun e w'=>e=.returned (.int .i64 (n:Int))∧w'=w:=by
 go_enter func219,ntmps219
 go_wp2;go_ret;exact⟨rfl,rfl⟩
theorem Zrv (x:Int) (d:Nat) (b:Nat) (v:Value) (m:List UInt8) (w:World) (a:Bb w b v) (i:Rd w v m) (z:d<=m.length) (f:d=0->x=0)
 (g:Calls prog 168 #[v] w fun e w'=>e=.returned (.tuple #[.int .i64 x,.int .i64 (d:Nat)])∧w'=w):
 Calls prog 218 #[.func (.func 168) #[] #[],.pointer (some ⟨b,0,none⟩)] w fun e w'=>∃ v',e=.returned (.tuple #[.int .i64 x,.bool (decide (d≠0))])∧Bb w' b v'∧Rd w' v' (behind d m)∧But b b w w':=by
 have l:=ZZ g;have j:=ZZ a;have u:=ZZ i;obtain⟨ao,cap,rfl,-⟩:=i;obtain⟨q,D⟩:=a.cell;by_cases c:d=0
 ·subst c
  obtain rfl:=f rfl;clear g a f
  go_enter func218,ntmps218
  go_wp2_with fail
  refine l.o.mono ?_;rintro e w' ⟨rfl,rfl⟩;go_wp2;go_ret2;exact⟨_,rfl,j.o.set _,Rd.nil _,(But.refl _ _ _).set _ _ (.inl rfl) _⟩
 ·have A:((d:Int) == 0)=false:=zah.2 (by omega)
  have k:=ZZ (Zil w _ m u.o .i64 (d:Int) (by omega) (by omega))
  have y:Hid (behind d m=m.drop d):=zaa c;have t:Hid (decide (d≠0)=true):=zan c;rw[zbj] at k;clear g a f c
  go_enter func218,ntmps218
  go_wp2_with fail
  refine l.o.mono ?_;rintro e w' ⟨rfl,rfl⟩
  go_wp2_with(refine ZfN _ rfl _ _ _ _ rfl _ k.o ?_)
  intro B n;have p:=ZZ n;obtain⟨C,F,rfl,-⟩:=n;generalize E:m.drop d=M at *;go_wp2;go_ret2;refine⟨_,by rw[t.o];rfl,j.o.set _,?_,(But.refl _ _ _).set _ _ (.inl rfl) _⟩
  rw[y.o];exact p.o.setBox q
theorem ZiZ (x:Int) (d:Nat) (b:Nat) (v:Value) (m:List UInt8) (w:World) (a:Bb w b v) (i:Rd w v m) (z:d<=m.length) (f:d=0->x=0)
 (g:Calls prog 201 #[v] w fun e w'=>e=.returned (.tuple #[.int .i64 x,.int .i64 (d:Nat)])∧w'=w):
 Calls prog 218 #[.func (.func 201) #[] #[],.pointer (some ⟨b,0,none⟩)] w fun e w'=>∃ v',e=.returned (.tuple #[.int .i64 x,.bool (decide (d≠0))])∧Bb w' b v'∧Rd w' v' (behind d m)∧But b b w w':=by
 have l:=ZZ g;have j:=ZZ a;have u:=ZZ i;obtain⟨ao,cap,rfl,-⟩:=i;obtain⟨q,D⟩:=a.cell;by_cases c:d=0
 ·subst c
  obtain rfl:=f rfl;clear g a f
  go_enter func218,ntmps218
  go_wp2_with fail
  refine l.o.mono ?_;rintro e w' ⟨rfl,rfl⟩;go_wp2;go_ret2;exact⟨_,rfl,j.o.set _,Rd.nil _,(But.refl _ _ _).set _ _ (.inl rfl) _⟩
 ·have A:((d:Int) == 0)=false:=zah.2 (by omega)
  have k:=ZZ (Zil w _ m u.o .i64 (d:Int) (by omega) (by omega))
  have y:Hid (behind d m=m.drop d):=zaa c;have t:Hid (decide (d≠0)=true):=zan c;rw[zbj] at k;clear g a f c
  go_enter func218,ntmps218
  go_wp2_with fail
  refine l.o.mono ?_;rintro e w' ⟨rfl,rfl⟩
  go_wp2_with(refine ZfN _ rfl _ _ _ _ rfl _ k.o ?_)
  intro B n;have p:=ZZ n;obtain⟨C,F,rfl,-⟩:=n;generalize E:m.drop d=M at *;go_wp2;go_ret2;refine⟨_,by rw[t.o];rfl,j.o.set _,?_,(But.refl _ _ _).set _ _ (.inl rfl) _⟩
  rw[y.o];exact p.o.setBox q
def ZcQ (X W:World):Prop:=W.heap=X.heap∧W.os=X.os∧W.tape=X.tape∧W.output=X.output
theorem ZcQ.refl (X:World):ZcQ X X:=⟨rfl,rfl,rfl,rfl⟩
theorem ZcQ.drew (h:ZcQ X W):ZcQ X W.drew:=h
theorem ZcQ.set (h:ZcQ X W) (a:Addr) (v:Value):ZcQ (X.setCell a v) (W.setCell a v):=by
 obtain⟨e,d,c,b⟩:=h;refine⟨?_,d,c,b⟩;simp only [World.setCell,e]
theorem ZcQ.below (h:ZcQ X W) (B:Nat):Below B X W:=⟨h.2.1,h.2.2.1,h.2.2.2,by rw[h.1];exact za0 _,fun k _=>by rw[h.1]⟩
theorem ZcQ.cell (h:ZcQ X W) (a:Addr):W.cell? a=X.cell? a:=by simp only [World.cell?,h.1]
theorem ZcQ.froz (h:ZcQ X W) (a:Addr):W.frozen? a=X.frozen? a:=by simp only [World.frozen?,h.1]
def Zkg (w:World) (p:Nat × Nat):Prop:=(∃ x:Int,w.cell? ⟨p.1,p.2,none⟩=some (.int .i64 x))∧w.frozen? ⟨p.1,p.2,none⟩=false
theorem Zkg.set {p:Nat × Nat} (h:Zkg w p) (a:Nat × Nat) (n:Int):Zkg (w.setCell ⟨a.1,a.2,none⟩ (.int .i64 n)) p:=by
 obtain⟨⟨x,b⟩,c⟩:=h;refine⟨?_,by rw[World.frozen?_setCell];exact c⟩
 by_cases e:(⟨a.1,a.2,none⟩:Addr)=⟨p.1,p.2,none⟩
 ·rw[e]
  exact⟨n,zdm _ _ _ b⟩
 ·exact⟨x,by rw[zbu _ _ _ _ (fun h=>e h)];exact b⟩
theorem Rd.setNum (h:Rd w v m) {p:Nat × Nat} (z:Zkg w p) (x:Value):Rd (w.setCell ⟨p.1,p.2,none⟩ x) v m:=by
 obtain⟨n,u,l,A,t,i,a⟩:=h;refine⟨n,u,l,A,t,i,?_⟩;rcases a with a | ⟨c,d,k,q⟩
 ·exact .inl a
 ·refine .inr ⟨c,d,k,fun j g=>?_⟩
  have b:=q j g
  rw[zbu w ⟨p.1,p.2,none⟩ ⟨c,d+j,none⟩ x (fun e=>by
   obtain⟨⟨y,f⟩,-⟩:=z;rw[e,b] at f
   cases f)]
  exact b
def Za (w:World):List (Nat × Nat)->List Nat->World
 | p::ps,n::ns=>Za (w.setCell ⟨p.1,p.2,none⟩ (.int .i64 (n:Int))) ps ns
 | _,_=>w
theorem ZkU:∀ (w:World) (ps:List (Nat × Nat)) (ns:List Nat) (p:Nat × Nat) (n:Nat),ps.length=ns.length->Za w (ps++[p]) (ns++[n])=(Za w ps ns).setCell ⟨p.1,p.2,none⟩ (.int .i64 (n:Int))
 | w,[],[],p,n,_=>rfl
 | w,q::ps,m::ns,p,n,h=>by
  rw[zcq,zcq,Za,ZkU _ ps ns p n (by simpa using h),Za]
theorem Zok:∀ (w:World) (ps:List (Nat × Nat)) (ns:List Nat) {p:Nat × Nat},Zkg w p->Zkg (Za w ps ns) p
 | w,[],_,p,h=>by cases ‹List Nat› <;> exact h
 | w,q::ps,[],p,h=>h
 | w,q::ps,m::ns,p,h=>by
  rw[Za];exact Zok _ ps ns (h.set q m)
theorem Zbh:∀ (w:World) (ps:List (Nat × Nat)) (ns:List Nat) (k:Nat),(∀ p ∈ ps,p.1≠k)->(Za w ps ns).heap[k]?=w.heap[k]?
 | w,[],ns,k,_=>by cases ns <;> rfl
 | w,q::ps,[],k,_=>rfl
 | w,q::ps,m::ns,k,h=>by
  rw[Za,Zbh _ ps ns k (fun p a=>h p (by simp[a]))]
  exact zat _ _ _ _ (fun e=>h q (by simp) e.symm)
theorem Zbi:∀ (w:World) (ps:List (Nat × Nat)) (ns:List Nat) (B:Nat) (a:World),(∀ p ∈ ps,B<=p.1)->Below B a w->Below B a (Za w ps ns)
 | w,[],ns,B,a,_,h=>by cases ns <;> exact h
 | w,q::ps,[],B,a,_,h=>h
 | w,q::ps,m::ns,B,a,hp,h=>by
  rw[Za];exact Zbi _ ps ns B a (fun p h=>hp p (by simp[h])) (h.setCell (hp q (by simp)) _)
def ZAZ (w:World) (v:Value) (b:List UInt8) (ps:List (Nat × Nat)) (r:Option (List Nat × List UInt8)) (e:Ending) (w':World):Prop:=
 ∃ (v':Value) (l:List UInt8) (ns:List Nat),e=.returned (.tuple #[v',.bool r.isSome])∧(∀ W,Rd W v b->Rd W v' l)∧(r=none->l=[])∧(∀ x,r=some x->x=(ns,l))∧(∀ n ∈ ns,n<4611686018427387904)∧ns.length<=ps.length∧ZcQ (Za w (ps.take ns.length) ns) w'
theorem Zrw:∀ (w:World) (ps:List (Nat × Nat)) (ns:List Nat) {v:Value} {m:List UInt8},(∀ p ∈ ps,Zkg w p)->Rd w v m->Rd (Za w ps ns) v m
 | w,[],ns,v,m,_,h=>by cases ns <;> exact h
 | w,q::ps,[],v,m,_,h=>h
 | w,q::ps,k::ns,v,m,hp,h=>by
  rw[Za];exact Zrw _ ps ns (fun p a=>(hp p (by simp[a])).set q k) (h.setNum (hp q (by simp)) _)
theorem Zhq (ao:Option Addr) (l:List UInt8) (cap:Nat) (g:l.length<=cap) (d:Nat) (f:d<=l.length):
 ∃ a b,(∀ W,(Instr.sliceAt 53 (.slice ao l.length cap) (some (.int .i64 (d:Int))) none none).run prog W=.ok (.slice a (l.drop d).length b) W)∧∀ W,Rd W (.slice ao l.length cap) l->Rd W (.slice a (l.drop d).length b) (l.drop d):=by
 have c:∃ a b,sliced ao d l.length cap 1=.slice a (l.length-d) b:=by
  unfold sliced;exact⟨_,_,rfl⟩
 obtain⟨a,b,c⟩:=c;refine⟨a,b,fun W=>?_,fun W h=>?_⟩
 ·rw[zcn W 53 _ _ _ _ Xu,zfs W 53 ao l.length cap Xu .i64 (d:Int) (by omega) (by omega),Jt,Zcd,length_drop,<-c]
  rfl
 ·rw[length_drop,<-c]
  have e:=h.mid d l.length cap f zL g zL;rw[zbl (by simp)] at e
  exact e
theorem Ztq {b:List UInt8} (h:(Qb b).2≠0):Zw (n+1) b=(Zw n (b.drop (Qb b).2)).map (fun r=>((Qb b).1::r.1,r.2)):=by rw[Zw,zaa h]
theorem Ztr {b:List UInt8} (h:(Qb b).2=0):Zw (n+1) b=none:=by rw[Zw,zab h]
theorem Zau (N:Nat) (ps:List (Nat × Nat)) (v:Value) (b:List UInt8) (w:World) (D:Rd w v b) (A:∀ p ∈ ps,Zkg w p∧p.1≠N) (am:ps.length<=100)
 (O:w.heap[N]?=some (.cells (ps.map (fun p=>Value.pointer (some ⟨p.1,p.2,none⟩))).toArray 208 (0,0))) (k:Nat) (hk:k=ps.length):
 Calls prog 160 #[v,.slice (some ⟨N,0,none⟩) k k] w fun e w'=>ZAZ w v b ps (Zw ps.length b) e w':=by
 subst hk;have V:=ZZ A
 have HN:Hid (∀ q,q<ps.length->w.cell? ⟨N,q,none⟩=some (.pointer (some ⟨(ps.getD q (0,0)).1,(ps.getD q (0,0)).2,none⟩))):=ZZ (fun q T=>by
  rw[zas w N q _ _ _ O]
  simp[List.getD,T])
 have S:Hid (∀ ns,(Za w (ps.take (List.length ns)) ns).heap[N]?=w.heap[N]?):=ZZ (fun ns=>Zbh w _ ns N (fun p E=>(A p (mem_of_mem_take E)).2))
 have Z:=ZZ (fun v1 l W h=>ZcH v1 l W h)
 have HR:Hid (∀ ns,Rd (Za w (ps.take (List.length ns)) ns) v b):=ZZ (fun ns=>Zrw w _ ns (fun p E=>(A p (mem_of_mem_take E)).1) D)
 obtain⟨R,M,hv⟩:∃ a c,v=.slice a b.length c:=by obtain⟨a,c,h,-⟩:=D;exact⟨a,c,h⟩
 subst hv;obtain⟨g,f⟩:=zg7 (Zw ps.length b);rw[<-f]
 have P:Hid (g=(Zw (ps.length-0) b).map (fun r=>([]++r.1,r.2))):=ZZ (by
  rw[f,ze6]
  cases Zw ps.length b <;> rfl)
 clear f A D O;have ao:(ps.length:Int)<=100:=by omega
 go_enter func160,ntmps160
 go_wp2
 go_loopw[0,12] (fun vb F wr=>∃ (q:Nat) (ns:List Nat) (b':List UInt8) (a:Option Addr) (c:Nat),F=.int .i64 (q:Int)∧vb=.slice a b'.length c∧q<=ps.length∧ns.length=q∧Hid (∀ W,Rd W (.slice R b.length M) b->Rd W (.slice a b'.length c) b')∧Hid (ZcQ (Za w (ps.take ns.length) ns) wr)∧Hid (∀ n ∈ ns,n<4611686018427387904)∧Hid (g=(Zw (ps.length-q) b').map (fun r=>(ns++r.1,r.2)))) (fun _ F _=>ps.length-(intOf F).toNat)
 case atStart=>exact⟨0,[],b,R,M,rfl,rfl,zap _,rfl,ZZ (fun W h=>h),ZZ (by rw[zc0,List.take_zero];exact ZcQ.refl w),ZZ (fun n h=>by simp at h),P⟩
 case round=>
  clear P;obtain⟨q,ns,b',a,c,rfl,rfl,T,G,I,i,B,f⟩:=hrel;have X:Hid (Rd wr (.slice a b'.length c) b'):=ZZ (I.out wr ((HR.o ns).below (i.out.below (Za w (ps.take ns.length) ns).heap.size) zL));have j:=ZZ G;by_cases t:q<ps.length
  case neg=>
   obtain rfl:q=ps.length:=by omega
   have z:Hid (g=some (ns,b')):=ZZ (by
    rw[f.out,zf8]
    simp[Zw])
   clear G;go_wp2;go_ret2;rw[z.o];exact⟨_,b',ns,rfl,I.out,(fun h=>by cases h),(fun x h=>by injection h with h;exact h.symm),B.out,by rw[j.o];exact za0 _,i.out⟩
  have an:(q:Int)<(ps.length:Int):=by omega
  have ae:ps.length-q=(ps.length-(q+1))+1:=by omega
  have ac:wr.cell? ⟨N,q,none⟩=some (.pointer (some ⟨(ps.getD q (0,0)).1,(ps.getD q (0,0)).2,none⟩)):=by
   rw[i.out.cell];exact(zb4 (a:=⟨N,q,none⟩) (S.o ns)).trans (HN.o q t)
  have Q:ps.getD q (0,0) ∈ ps:=by
   rw[show ps.getD q (0,0)=ps[q] by simp[List.getD,t]]
   exact zcp t
  have C:Zkg (Za w (ps.take ns.length) ns) (ps.getD q (0,0)):=Zok w _ ns (V.o _ Q).1
  have L:Zkg wr (ps.getD q (0,0)):=⟨by
   obtain⟨x,hx⟩:=C.1
   exact⟨x,by rw[i.out.cell];exact hx⟩,by rw[i.out.froz];exact C.2⟩
  have ab:Hid (∀ n:Nat,Za w (ps.take (ns++[n]).length) (ns++[n])=(Za w (ps.take ns.length) ns).setCell ⟨(ps.getD q (0,0)).1,(ps.getD q (0,0)).2,none⟩ (.int .i64 (n:Int))):=ZZ (fun n=>by
   have e1:ps.take (ns++[n]).length=ps.take ns.length++[ps.getD q (0,0)]:=by
    rw[length_append,zcw,j.o,zcl,za4 t];simp[List.getD,t]
   rw[e1,ZkU w _ ns _ n (by rw[zb5,j.o];omega)])
  have al:=ZZ L;obtain⟨⟨x0,aj⟩,af⟩:=L;clear Q C HN S V G;generalize ps.getD q (0,0)=p at *;obtain⟨pb,po⟩:=p
  dsimp only at ac aj af ab
  have U:=ZZ (Z.o _ b' wr X.out);have ai:=Jy b'
  have ag:(Qb b').1<4611686018427387904:=by
   rcases Xh b' with h | h
   ·rw[h];decide
   ·exact h.1
  have J:=ZZ (Ztq (n:=ps.length-(q+1)) (b:=b'));have K:=ZZ (Ztr (n:=ps.length-(q+1)) (b:=b'));rw[<-ae] at J K;have Y:=ZZ (fun d y=>Zhq a b' c (by obtain⟨a',c',h,h2,-⟩:=X.out;simp only [zbb] at h;omega) d y)
  generalize (Qb b').2=d at *;generalize (Qb b').1=n at *;clear Z;by_cases y:d=0
  ·subst y
   have z:Hid (g=none):=ZZ (by rw[f.out,K.o rfl];rfl)
   go_wp2_with fail
   refine U.o.mono ?_;rintro e H ⟨rfl,u⟩;rw[u];clear u H;go_wp2;go_ret2;rw[z.o];exact⟨_,[],ns,rfl,(fun W _=>Rd.nil W),(fun _=>rfl),(fun x h=>by cases h),B.out,by rw[j.o];omega,i.out⟩
  ·have ak:((d:Int) == 0)=false:=zah.2 (by omega)
   obtain⟨xa,xc,hcut,aa⟩:=Y.o d ai;have ad:=ZZ aa
   have z:Hid (g=(Zw (ps.length-(q+1)) (b'.drop d)).map (fun r=>((ns++[n])++r.1,r.2))):=ZZ (by
    rw[f.out,J.o y]
    cases Zw (ps.length-(q+1)) (b'.drop d) with
    | none=>rfl
    | some r=>simp)
   clear aa J K f y Y;generalize b'.drop d=b2 at *
   go_wp2_with fail
   refine U.o.mono ?_;rintro e H ⟨rfl,u⟩;rw[u];clear u H;go_wp2
   go_region
   all_goals
    go_wp2;go_roundw
    case rel=>exact⟨q+1,ns++[n],b2,xa,xc,by go_num,rfl,by omega,by rw[length_append,zcw,j.o],ZZ (fun W h=>ad.o W (I.out W h)),ZZ (by rw[ab.o];exact i.out.drew.set _ _),ZZ (fun m hm=>by
     rcases za2.1 hm with h | h
     ·exact B.out m h
     ·rw[zaw.1 h];exact ag),z⟩
    case measure=>simp[intOf];omega
def Zkh (b:List UInt8):Option (Ent × List UInt8):=
 match Zw 2 b with
 | none=>none
 | some (ns,l)=>if(Qe l).2=0 then none else some (⟨((ns.getD 0 0:Nat):Int),((ns.getD 1 0:Nat):Int),zag (Qe l).1⟩,l.drop (Qe l).2)
theorem Zfb (b:List UInt8):Zw 1 b=if(Qb b).2=0 then none else some ([(Qb b).1],b.drop (Qb b).2):=rfl
theorem Zja (b:List UInt8):Zw 2 b=if(Qb b).2=0 then none else if(Qb (b.drop (Qb b).2)).2=0 then none else some ([(Qb b).1,(Qb (b.drop (Qb b).2)).1],(b.drop (Qb b).2).drop (Qb (b.drop (Qb b).2)).2):=by
 rw[Zw];split
 ·rfl
 ·rw[Zfb]
  split <;> rfl
theorem Zqm (n:Nat) (b:List UInt8):J0 (n+1) b=(Zkh b).bind (fun y=>(J0 n y.2).map (fun r=>(y.1::r.1,r.2))):=by
 have h:J0 (n+1) b=if(Qb b).2=0∨(Qb (b.drop (Qb b).2)).2=0∨(Qe (b.drop ((Qb b).2+(Qb (b.drop (Qb b).2)).2))).2=0 then none
  else(J0 n (b.drop ((Qb b).2+(Qb (b.drop (Qb b).2)).2+(Qe (b.drop ((Qb b).2+(Qb (b.drop (Qb b).2)).2))).2))).map (fun r=>(⟨(Qb b).1,(Qb (b.drop (Qb b).2)).1,zag (Qe (b.drop ((Qb b).2+(Qb (b.drop (Qb b).2)).2))).1⟩::r.1,r.2)):=rfl
 rw[h];unfold Zkh;rw[Zja];by_cases d:(Qb b).2=0
 ·rw[zab (.inl d),zab d]
  rfl
 rw[zaa d];by_cases c:(Qb (b.drop (Qb b).2)).2=0
 ·rw[zab (.inr (.inl c)),zab c]
  rfl
 rw[zaa c];simp only [drop_drop];by_cases a:(Qe (b.drop ((Qb b).2+(Qb (b.drop (Qb b).2)).2))).2=0
 ·rw[zab (.inr (.inr a)),zab a]
  rfl
 ·rw[zaa (by omega),zaa a]
  rfl
def ZBa (w:World) (v:Value) (b:List UInt8) (e:Ending) (w':World):Prop:=
 ∃ (x:Ent) (v':Value) (l:List UInt8),e=.returned (.tuple #[ZsD x,v',.bool (Zkh b).isSome])∧ZlO x∧(∀ W,Rd W v b->Rd W v' l)∧(∀ y,Zkh b=some y->y=(x,l))∧Below w.heap.size w w'
theorem Zts:Qe []=(0,0):=by decide
theorem ZzH {R:Nat} (h:Be W R #[.int .i64 0,.int .i64 0,.int .i64 0]) (ns:List Nat) (e:ns.length<=2) (a:∀ n ∈ ns,n<4611686018427387904):
 ∃ x y:Int,Be (Za W ([(R,0),(R,1)].take ns.length) ns) R #[.int .i64 x,.int .i64 y,.int .i64 0]∧I64 x∧I64 y∧(ns.length=2->x=((ns.getD 0 0:Nat):Int)∧y=((ns.getD 1 0:Nat):Int)):=by
 have b:I64 0:=Qo (by decide) (by decide)
 match ns,e,a with
 | [],_,_=>exact⟨0,0,h,b,b,fun h=>absurd h (by simp)⟩
 | [n],_,a=>
  have:=a n (by simp)
  refine⟨(n:Int),0,?_,⟨by omega,by omega⟩,b,fun h=>absurd h (by simp)⟩
  have c:=zbk W R 0 _ _ (.int .i64 (n:Int)) h;exact c
 | [n,m],_,a=>
  have f:=a n (by simp)
  have c:=a m (by simp)
  refine⟨(n:Int),(m:Int),?_,⟨by omega,by omega⟩,⟨by omega,by omega⟩,fun _=>⟨rfl,rfl⟩⟩
  have d:=zbk W R 0 _ _ (.int .i64 (n:Int)) h;exact zbk _ R 1 _ _ (.int .i64 (m:Int)) d
theorem Zjb (w:World) (x y z:Obj):((((w.alloc x).alloc y).alloc z).heap[w.heap.size]?=some x∧(((w.alloc x).alloc y).alloc z).heap[w.heap.size+1]?=some y∧(((w.alloc x).alloc y).alloc z).heap[w.heap.size+2]?=some z):=by
 refine⟨?_,?_,?_⟩
 ·exact((zav _ _ _ (by simp;omega)).trans (zav _ _ _ (by simp))).trans (zak w x)
 ·refine(zav _ _ _ (by simp)).trans ?_
  have:=zak (w.alloc x) y;simpa using this
 ·have:=zak ((w.alloc x).alloc y) z
  simpa using this
theorem Be.set (h:Be w b cs) (j:Nat) (x:Value):Be (w.setCell ⟨b,j,none⟩ x) b (cs.setIfInBounds j x):=by
 have:=zbk w b j _ _ x h;unfold Be;simpa using this
theorem Be.other {c:Nat} (h:Be w b cs) (j:Nat) (x:Value) (a:b≠c):Be (w.setCell ⟨c,j,none⟩ x) b cs:=(zat _ _ _ _ a).trans h
theorem ZxW {C:Nat} {b:World} (h:Below C b w) (R:Nat) (a:C<=R) (c d e:Value):Below C b (((w.setCell ⟨R,0,none⟩ c).setCell ⟨R,1,none⟩ d).setCell ⟨R,2,none⟩ e):=
 ((h.setCell a _).setCell a _).setCell a _
theorem Zol (v:Value) (b:List UInt8) (w:World) (A:Rd w v b):
 Calls prog 202 #[v] w fun e w'=>ZBa w v b e w':=by
 obtain⟨f,B⟩:=zg7 (((w.alloc (.cells #[.int .i64 0,.int .i64 0,.int .i64 0] 85)).alloc (.cells #[.int .i64 0,.int .i64 0,.int .i64 0] 85)).alloc (.cells #[.pointer (some ⟨w.heap.size+1,0,none⟩),.pointer (some ⟨w.heap.size+1,1,none⟩)] 208));have X:=Zjb w (.cells #[.int .i64 0,.int .i64 0,.int .i64 0] 85) (.cells #[.int .i64 0,.int .i64 0,.int .i64 0] 85) (.cells #[.pointer (some ⟨w.heap.size+1,0,none⟩),.pointer (some ⟨w.heap.size+1,1,none⟩)] 208);rw[<-B] at X;obtain⟨hA,hB,hC⟩:=X;have E:Hid (Below w.heap.size w f):=ZZ (by rw[B];exact(((zac _ _).alloc zL _).alloc (by simp) _).alloc (by simp;omega) _)
 have L:Be f w.heap.size #[.int .i64 0,.int .i64 0,.int .i64 0]:=hA;have j:Be f (w.heap.size+1) #[.int .i64 0,.int .i64 0,.int .i64 0]:=hB;have ay:=ZZ L
 have an:=ZZ (Zau (w.heap.size+1+1) [(w.heap.size+1,0),(w.heap.size+1,1)] v b f (A.below E.o zL) (fun p n=>by
  simp only [mem_cons,zc3,zfk] at n;rcases n with rfl | rfl
  ·exact⟨⟨⟨0,(j.cell 0).1⟩,(j.cell 0).2⟩,by simp⟩
  ·exact⟨⟨⟨0,(j.cell 1).1⟩,(j.cell 1).2⟩,by simp⟩) (by simp) hC 2 rfl)
 have R:=ZZ (fun ns=>ZzH j ns)
 have ad:Hid (∀ ns,Below w.heap.size w (Za f ([(w.heap.size+1,0),(w.heap.size+1,1)].take (List.length ns)) ns)):=ZZ (fun ns=>Zbi f _ ns _ w (fun p n=>by
  have:=mem_of_mem_take n;simp only [mem_cons,zc3,zfk] at this
  rcases this with rfl | rfl <;> simp) E.o)
 have ae:Hid (∀ ns,Be (Za f ([(w.heap.size+1,0),(w.heap.size+1,1)].take (List.length ns)) ns) w.heap.size #[.int .i64 0,.int .i64 0,.int .i64 0]):=ZZ (fun ns=>(Zbh f _ ns _ (fun p n=>by
  have:=mem_of_mem_take n;simp only [mem_cons,zc3,zfk] at this
  rcases this with rfl | rfl <;> simp)).trans L)
 have HG:=ZZ (fun H l W h=>Zak H l W h)
 have D:Hid (Zkh b=match Zw [(w.heap.size+1,0),(w.heap.size+1,1)].length b with | none=>none | some (ns,l)=>if(Qe l).2=0 then none else some (⟨((ns.getD 0 0:Nat):Int),((ns.getD 1 0:Nat):Int),zag (Qe l).1⟩,l.drop (Qe l).2)):=ZZ rfl
 have S:Hid (∀ ns l,Zw [(w.heap.size+1,0),(w.heap.size+1,1)].length b=some (ns,l)->ns.length=2):=ZZ (fun ns l h=>by
  have d:Zw 2 b=some (ns,l):=h;rw[Zja] at d;split at d
  ·cases d
  split at d
  ·cases d
  injection d with d
  injection d with d _
  rw[<-d]
  rfl)
 unfold ZBa;obtain⟨m,ag⟩:=zg7 (Zkh b);rw[<-ag] at D ⊢;obtain⟨ok,J⟩:=zg7 m.isSome;rw[<-J];have I:=ZZ J;clear J;generalize Zw [(w.heap.size+1,0),(w.heap.size+1,1)].length b=GL at *;have ax:=ZZ A;obtain⟨va,vc,hv⟩:∃ a c,v=.slice a b.length c:=by obtain⟨a,c,h,-⟩:=A;exact⟨a,c,h⟩
 subst hv;clear A hA hB hC L j ag
 go_enter func202,ntmps202
 go_wp2_with fail
 rw[<-B];refine an.o.mono ?_;rintro e g ⟨H,l,ns,rfl,G,ac,N,Y,V,C⟩;obtain⟨x,y,T,U,am,ak⟩:=R.o ns V Y;have F:Hid (Be g (w.heap.size+1) #[.int .i64 x,.int .i64 y,.int .i64 0]):=ZZ (T.below (C.below (Za f ([(w.heap.size+1,0),(w.heap.size+1,1)].take ns.length) ns).heap.size) zL);have P:Hid (Be g w.heap.size #[.int .i64 0,.int .i64 0,.int .i64 0]):=ZZ ((ae.o ns).below (C.below (Za f ([(w.heap.size+1,0),(w.heap.size+1,1)].take ns.length) ns).heap.size) zL);have M:Hid (Below w.heap.size w g):=ZZ ((ad.o ns).trans (C.below _));have u:=ZZ (G g (ax.o.below M.o zL));have aw:=ZZ G;obtain⟨a1,c1,ao⟩:∃ a c,H=.slice a l.length c:=by obtain⟨a,c,h,-⟩:=u.o;exact⟨a,c,h⟩
 subst ao
 have ab:l.length<=c1:=by
  obtain⟨a',c',h,d,-⟩:=u.o;simp only [zbb] at h;omega
 have af:=ZZ (HG.o _ l g u.o);have az:=Da l;have Z:I64 (zag (Qe l).1):=Zpc (Zlv l);obtain⟨xa,xc,hcut,aj⟩:=Zhq a1 l c1 ab (Qe l).2 az;have au:=ZZ (fun W h=>aj W (aw.o W h))
 have K:Hid (m.isSome=decide (0<(Qe l).2)):=ZZ (by
  rw[D.o]
  cases GL with
  | none=>rw[ac rfl,Zts];rfl
  | some p=>
   have:=N p rfl;subst this
   dsimp only
   by_cases h:(Qe l).2=0
   ·rw[zab h,h];rfl
   ·rw[zaa h,zan (by omega)];rfl)
 have ap:Hid (∀ z,m=some z->z=(⟨x,y,zag (Qe l).1⟩,l.drop (Qe l).2)):=ZZ (fun z i=>by
  rw[D.o] at i
  cases GL with
  | none=>cases i
  | some p=>
   have:=N p rfl;subst this;obtain⟨h1,d⟩:=ak (S.o ns l rfl)
   dsimp only at i
   split at i
   ·cases i
   ·injection i with i
    rw[<-i,h1,d])
 have ar:Hid (ZlO ⟨x,y,zag (Qe l).1⟩):=ZZ ⟨U,am,Z⟩;clear G ac N Y V C T ak D S ad ae R an HG aj ab E ay B U am Z;generalize zag (Qe l).1=z at *;generalize (Qe l).2=k at *;generalize l.drop k=l2 at *;have aa:m.isSome=decide ((0:Int)<(k:Int)):=by rw[K.o];exact zco.2 (by omega)
 rw[<-I.o] at aa;have aq:Hid (decide (0<k)=ok):=ZZ (by rw[I.o,K.o])
 clear I aa K
 go_wp2_with fail
 refine af.o.mono ?_;rintro e W2 ⟨rfl,ai⟩;rw[ai];clear ai W2 af;have q:Hid (Be (g.setCell ⟨w.heap.size+1,2,none⟩ (.int .i64 z)) (w.heap.size+1) #[.int .i64 x,.int .i64 y,.int .i64 z]):=ZZ (F.o.set 2 _);have t:Hid (Be (g.setCell ⟨w.heap.size+1,2,none⟩ (.int .i64 z)) w.heap.size #[.int .i64 0,.int .i64 0,.int .i64 0]):=ZZ (P.o.other 2 _ (by omega))
 obtain⟨e2,f2⟩:=F.o.cell 2;have O:Hid (Below w.heap.size w (g.setCell ⟨w.heap.size+1,2,none⟩ (.int .i64 z))):=ZZ (M.o.setCell (zdt _) _)
 go_upto_region 5 with fail
 obtain⟨W3,Q⟩:=zg7 (g.setCell ⟨w.heap.size+1,2,none⟩ (.int .i64 z));rw[<-Q] at q t O ⊢;clear Q e2 f2 F P M u;obtain⟨x0,g0⟩:=q.o.cell 0;obtain⟨x1,g1⟩:=q.o.cell 1;obtain⟨x2,g2⟩:=q.o.cell 2;obtain⟨y0,m0⟩:=t.o.cell 0;obtain⟨y1,m1⟩:=t.o.cell 1;obtain⟨y2,m2⟩:=t.o.cell 2;have aA:¬ (w.heap.size=w.heap.size+1):=by omega
 have aB:¬ (w.heap.size+1=w.heap.size):=by omega
 have al:=ZxW O.o.drew w.heap.size zL (.int .i64 x) (.int .i64 y) (.int .i64 z);have av:=ZZ al;clear al O t q
 go_region
 all_goals
  go_wp2;refine zax (v:=.tuple #[.agg #[.int .i64 x,.int .i64 y,.int .i64 z],.slice xa l2.length xc,.bool ok]) (by simp[results,Tryz.results202,go_sem,y0,y1,y2,aq.o]) rfl ?_
  exact⟨⟨x,y,z⟩,_,l2,rfl,ar.o,au.o,ap.o,av.o⟩
def ZzI (w:World) (TL:Option (List Ent)) (e:Ending) (w':World):Prop:=
 ∃ vt t,e=.returned (.tuple #[vt,.bool TL.isSome])∧Xp w' w.heap.size vt t∧(∀ e ∈ t,ZlO e)∧(∀ t',TL=some t'->t=t')∧Below w.heap.size w w'
def ZAw (v6 v7:Value):Nat:=
 match v7 with
 | .bool true=>(match v6 with
  | .slice _ n _=>n+1
  | _=>0)
 | _=>0
theorem Ztt {b:List UInt8} {y:Ent × List UInt8} (h:Zkh b=some y):y.2.length+1<=b.length:=by
 unfold Zkh at h;rw[Zja] at h;split at h
 ·cases h
 ·rename_i ns l a
  split at a
  ·cases a
  ·rename_i f
   split at a
   ·cases a
   ·injection a with a
    injection a with _ hl
    split at h
    ·cases h
    ·rename_i d
     injection h with h
     rw[<-h];have c:=Da l;show(l.drop _).length+1<=_;rw[length_drop]
     have e:l.length<=b.length:=by
      rw[<-hl,length_drop,length_drop];omega
     omega
theorem ZxX (w:World) (x y:Obj):((w.alloc x).alloc y).heap[w.heap.size]?=some x∧((w.alloc x).alloc y).heap[w.heap.size+1]?=some y:=by
 refine⟨(zav _ _ _ (by simp)).trans (zak w x),?_⟩
 have:=zak (w.alloc x) y;simpa using this
theorem Zjc {b:List UInt8} {ns:List Nat} (h:Zw 1 b=some (ns,l)):(Qb b).2≠0∧ns=[(Qb b).1]∧l=b.drop (Qb b).2:=by
 rw[Zfb] at h;split at h
 ·cases h
 ·rename_i a
  injection h with h
  injection h with h2 h3
  exact⟨a,h2.symm,h3.symm⟩
theorem Zjd {b:List UInt8} (h:Zw 1 b=none):(Qb b).2=0:=by
 rw[Zfb] at h;split at h
 ·assumption
 ·cases h
theorem Xp.butD {B R:Nat} {l:List Ent} (h:Xp w B v l) (j:But R T w w') (e:∀ b,v.ownBlock=some b->b≠R∧b≠T):Xp w' B v l:=by
 rcases h.row with ⟨rfl,rfl⟩ | ⟨g,cap,cur,rfl,c,k,i,f,m,a,d⟩
 ·exact Xp.nil _ _
 ·have:=e g rfl
  exact Xp.ofRow rfl c ((j.block g k this.1 this.2).trans i) f m a d
theorem Zmt (v:Value) (b:List UInt8) (w:World) (N:Rd w v b) (be:b.length<=100000):
 Calls prog 165 #[v] w fun e w'=>ZzI w (Zbe b) e w':=by
 obtain⟨q,S⟩:=zg7 ((w.alloc (.cells #[.int .i64 0] 3)).alloc (.cells #[.pointer (some ⟨w.heap.size,0,none⟩)] 208));have h2:=ZxX w (.cells #[.int .i64 0] 3) (.cells #[.pointer (some ⟨w.heap.size,0,none⟩)] 208);rw[<-S] at h2;obtain⟨V,hC⟩:=h2;have ab:Hid (Below w.heap.size w q):=ZZ (by rw[S];exact((zac _ _).alloc zL _).alloc (by simp) _)
 have ao:=ZZ (Zau (w.heap.size+1) [(w.heap.size,0)] v b q (N.below ab.o zL) (fun p hp=>by
  rw[zaw.1 hp]
  exact⟨⟨⟨0,zas q w.heap.size 0 _ _ _ V⟩,zbc q w.heap.size 0 _ _ V⟩,by simp⟩) (by simp) hC 1 rfl)
 have aK:Hid (∀ n:Nat,(q.setCell ⟨w.heap.size,0,none⟩ (.int .i64 (n:Int))).cell? ⟨w.heap.size,0,none⟩=some (.int .i64 (n:Int))):=ZZ (fun n=>zdm _ _ _ (zas q w.heap.size 0 _ _ _ V))
 have aH:Hid (∀ ns,Below w.heap.size w (Za q ([(w.heap.size,0)].take (List.length ns)) ns)):=ZZ (fun ns=>Zbi q _ ns _ w (fun p hp=>by
  have:=mem_of_mem_take hp;rw[zaw.1 this]
  exact za0 _) ab.o)
 have aW:=ZZ (fun v1 l W h=>Zol v1 l W h)
 have O:=ZZ (ZnA (b:=b));have Q:Hid ((Qb b).2=0->Zbe b=none):=ZZ (fun h=>by unfold Zbe;rw[zab (.inl h)])
 have aa:=ZZ (fun ns l h=>Zjc (b:=b) (ns:=ns) (l:=l) h)
 have ai:=ZZ (fun h=>Zjd (b:=b) h)
 have hd:=Jy b
 have bd:(Qb b).1<4611686018427387904:=by
  rcases Xh b with h | h
  ·rw[h];decide
  ·exact h.1
 have aG:Hid ([(w.heap.size,0)].length=1):=ZZ rfl;rw[aG.o] at ao;generalize Zw 1 b=GL at *;obtain⟨G,aD⟩:=zg7 (Zbe b);rw[<-aD] at O Q ⊢;clear aD;have ak:=ZZ N;obtain⟨va,vc,hv⟩:∃ a c,v=.slice a b.length c:=by obtain⟨a,c,h,-⟩:=N;exact⟨a,c,h⟩
 subst hv;clear N V hC aG
 go_enter func165,ntmps165
 go_wp2_with fail
 rw[<-S];refine ao.o.mono ?_;rintro e g ⟨v1,l,ns,rfl,aB,ae,aq,aA,az,Z⟩;have i:Hid (Below w.heap.size w g):=ZZ ((aH.o ns).trans (Z.below _));have aM:=ZZ aB;obtain⟨a1,c1,aT⟩:∃ a c,v1=.slice a l.length c:=by obtain⟨a,c,h,-⟩:=aB g (ak.o.below i.o zL);exact⟨a,c,h⟩
 subst aT;clear ao aH ab S
 cases GL with
 | none=>
  have m:=ZZ (Q.o (ai.o rfl));have a4:=ae rfl;subst a4;clear ae aq aA az Z O Q ai aa;show _;go_wp2
  go_loopw[4,6,7] (fun v4 I D wr=>v4=.slice none 0 0∧D=.bool false∧Hid (Below w.heap.size w wr)) (fun _ I D _=>ZAw I D)
  case atStart=>exact⟨rfl,rfl,i⟩
  case round=>
   obtain⟨rfl,rfl,j⟩:=hrel;go_wp2;go_ret2;rw[m.o];exact⟨_,[],rfl,Xp.nil _ _,(fun r h=>by simp at h),(fun t h=>by cases h),j.out⟩
 | some gp=>
  have:=aq gp rfl;subst this;obtain⟨g1,g2,g3⟩:=aa.o _ _ rfl;subst g2;have P:=ZZ (O.o g1);rw[<-g3] at P;have bf:l.length<=b.length:=by rw[g3,length_drop];omega
  have ac:g.cell? ⟨w.heap.size,0,none⟩=some (.int .i64 ((Qb b).1:Int)):=by
   rw[Z.cell];exact aK.o _
  have a6:=ZZ ac;have aU:w.heap.size<g.heap.size:=za1 g ⟨w.heap.size,0,none⟩ ac;generalize (Qb b).1=f at *;clear ae aq aA az Z O Q ai aa g1 g3 hd aK ac;obtain⟨u,an⟩:=zg7 (J0 f l);rw[<-an] at P
  have ax:Hid (u=(J0 (f-0) l).map (fun r=>([]++r.1,r.2))):=ZZ (by
   rw[an,ze6]
   cases J0 f l <;> rfl)
  clear an;go_wp2
  go_loopw[4,6,7] (fun v4 I D wr=>∃ (t:List Ent) (d:List UInt8) (M:Option Addr) (Y:Nat) (H:Bool),I=.slice M d.length Y∧D=.bool H∧t.length<=b.length+1∧Hid (H=true->t.length+d.length<=b.length∧t.length<=f)∧Hid (Xp wr g.heap.size v4 t)∧Hid (∀ e ∈ t,ZlO e)∧Hid (∀ W,Rd W (.slice va b.length vc) b->Rd W (.slice M d.length Y) d)∧Hid (H=true->u=(J0 (f-t.length) d).map (fun r=>(t++r.1,r.2)))∧Hid (H=false->u=none)∧Hid (Below g.heap.size g wr)) (fun _ I D _=>ZAw I D)
  case atStart=>exact⟨[],l,a1,c1,true,rfl,rfl,by simp,ZZ (fun _=>⟨by simp;omega,zap _⟩),ZZ (Xp.nil _ _),ZZ (fun e h=>by simp at h),aM,ZZ (fun _=>ax.o),ZZ (fun h=>by cases h),zac _ _⟩
  case round=>
   clear ax aM;obtain⟨t,d,M,Y,H,rfl,rfl,bc,hL,E,R,hV,hT,hN,j⟩:=hrel;have hR:Hid (Rd wr (.slice M d.length Y) d):=ZZ (hV.out wr ((ak.o.below i.o zL).below j.out zL));obtain⟨oa,oc,aY⟩:=E.out.shape;subst aY;have bi:wr.cell? ⟨w.heap.size,0,none⟩=some (.int .i64 (f:Int)):=(j.out.cell (p:=⟨w.heap.size,0,none⟩) aU).trans a6.o
   cases H with
   | false=>
    have m:Hid (G=none):=ZZ (by rw[P.o,hN.out rfl];rfl)
    go_wp2;go_ret2;rw[m.o];exact⟨_,t,rfl,E.out.mono i.o.size,R.out,(fun t h=>by cases h),i.o.trans (j.out.mono i.o.size)⟩
   | true=>
    obtain⟨bg,bb⟩:=hL.out rfl;by_cases ba:t.length<f
    case neg=>
     have bk:¬ (t.length:Int)<(f:Int):=by omega
     have aX:Hid (u=some (t,d)):=ZZ (by
      rw[hT.out rfl,show f-t.length=0 by omega]
      simp[J0])
     have aQ:Hid (G=if d=[] then some t else none):=ZZ (by rw[P.o,aX.o];rfl)
     by_cases U:d.length=0
     ·have m:Hid (G=some t):=ZZ (by rw[aQ.o,zab (zao U)])
      have a9:((d.length:Int) == 0)=true:=by rw[zbi];omega
      clear U;go_wp2;go_ret2;rw[m.o];exact⟨_,t,rfl,E.out.mono i.o.size,R.out,(fun t' h=>by injection h),i.o.trans (j.out.mono i.o.size)⟩
     ·have m:Hid (G=none):=ZZ (by
       rw[aQ.o,zaa (fun e=>U (by rw[e];rfl))])
      have a9:((d.length:Int) == 0)=false:=zah.2 (by omega)
      clear U;go_wp2;go_ret2;rw[m.o];exact⟨_,t,rfl,E.out.mono i.o.size,R.out,(fun t' h=>by cases h),i.o.trans (j.out.mono i.o.size)⟩
    have bj:(t.length:Int)<(f:Int):=by omega
    have aE:f-t.length=(f-(t.length+1))+1:=by omega
    have aj:Hid (u=((Zkh d).bind (fun y=>(J0 (f-(t.length+1)) y.2).map (fun r=>(y.1::r.1,r.2)))).map (fun r=>(t++r.1,r.2))):=ZZ (by
     rw[hT.out rfl,aE,Zqm])
    have aJ:=ZZ (fun y h=>Ztt (b:=d) (y:=y) h)
    have T:=ZZ (aW.o _ d (wr.alloc (.cells #[.int .i64 0,.int .i64 0,.int .i64 0] 85)) (hR.out.below ((zac _ _).alloc zL _) zL));have ap:Hid (Below g.heap.size g (wr.alloc (.cells #[.int .i64 0,.int .i64 0,.int .i64 0] 85))):=ZZ (j.out.alloc j.out.size _);have aO:Hid (Be (wr.alloc (.cells #[.int .i64 0,.int .i64 0,.int .i64 0] 85)) wr.heap.size #[.int .i64 0,.int .i64 0,.int .i64 0]):=ZZ (zak wr _);have aI:Hid (Xp (wr.alloc (.cells #[.int .i64 0,.int .i64 0,.int .i64 0] 85)) g.heap.size (.slice oa t.length oc) t):=ZZ (E.out.below ((zac _ _).alloc zL _) zL);have al:Hid (∀ k,(Value.slice oa t.length oc).ownBlock=some k->k<wr.heap.size):=ZZ (fun k hk=>(zaz E.out k hk).2)
    obtain⟨SS,aw⟩:=zg7 (Zkh d);unfold ZBa at T;rw[<-aw] at aj aJ T;have am:=j.out.size;clear aw hT hN hL hR E j aE
    go_wp2_with fail
    refine T.o.mono ?_;rintro e W2 ⟨x,v2,K,rfl,ay,aS,a0,X⟩;have F:=ZZ (aO.o.below X zL);have ar:=ZZ (ap.o.trans (X.mono ap.o.size));have aF:=ZZ (aI.o.below X zL);have aV:=ZZ ay;have ag:=ZZ (fun W h=>aS W (hV.out W h))
    obtain⟨a3,c3,aZ⟩:∃ a c,v2=.slice a K.length c:=by obtain⟨a,c,h,-⟩:=ag.o g (ak.o.below i.o zL);exact⟨a,c,h⟩
    subst aZ;obtain⟨B,A,z⟩:=x;obtain⟨e0,f0⟩:=F.o.cell 0;obtain⟨e1,f1⟩:=F.o.cell 1;obtain⟨e2,f2⟩:=F.o.cell 2;obtain⟨C,aR⟩:=zg7 wr.heap.size;rw[<-aR] at F al e0 e1 e2 f0 f1 f2 am ⊢;clear aR;obtain⟨J,L⟩:=zg7 (((W2.setCell ⟨C,0,none⟩ (.int .i64 B)).setCell ⟨C,1,none⟩ (.int .i64 A)).setCell ⟨C,2,none⟩ (.int .i64 z));have ad:Hid (Be J C #[.int .i64 B,.int .i64 A,.int .i64 z]):=ZZ (by rw[L];exact((F.o.set 0 _).set 1 _).set 2 _)
    have af:Hid (But C C W2 J):=ZZ (by rw[L];exact(((But.refl _ _ _).set _ _ (.inl rfl) _).set _ _ (.inl rfl) _).set _ _ (.inl rfl) _)
    have a7:Hid (Xp J g.heap.size (.slice oa t.length oc) t):=ZZ (aF.o.butD af.o (fun k hk=>by have:=al.o k hk;omega))
    have aL:=ZZ (Zaf ar.o af.o ar.o.size am am);have a8:g.heap.size<=J.heap.size:=aL.o.size;unfold ZsD
    dsimp only
    go_upto_region 7 with fail
    rw[<-L];obtain⟨x0,-⟩:=ad.o.cell 0;obtain⟨x1,-⟩:=ad.o.cell 1;obtain⟨x2,-⟩:=ad.o.cell 2;clear L e0 e1 e2 f0 f1 f2 ay aS X F ar aF T ap aO aI al af
    go_wp2_with(at_builtin;refine ZfO _ rfl _ _ rfl g.heap.size _ t rfl a7.o ⟨B,A,z⟩ rfl (by omega) a8 ?_)
    intro v5 W5 au aN;have av:=ZZ au;have aC:=ZZ (aL.o.trans aN)
    have aP:Hid (∀ e ∈ t++[(⟨B,A,z⟩:Ent)],ZlO e):=ZZ (fun e he=>by
     rcases za2.1 he with h | h
     ·exact R.out e h
     ·rw[zaw.1 h];exact aV.o)
    clear au aN
    cases SS with
    | none=>
     have m:Hid (u=none):=ZZ (by rw[aj.o];rfl)
     go_wp2;go_roundw
     case rel=>exact⟨t++[⟨B,A,z⟩],K,a3,c3,false,rfl,rfl,by simp;omega,ZZ (fun h=>by cases h),av,aP,ag,ZZ (fun h=>by cases h),ZZ (fun _=>m.o),aC⟩
     case measure=>show 0<d.length+1;omega
    | some y=>
     have hy:=a0 y rfl;subst hy;have a5:=aJ.o _ rfl
     dsimp only at a5
     have m:Hid (u=(J0 (f-(t++[(⟨B,A,z⟩:Ent)]).length) K).map (fun r=>((t++[⟨B,A,z⟩])++r.1,r.2))):=ZZ (by
      rw[aj.o,length_append,zcw,zfz]
      cases J0 (f-(t.length+1)) K with
      | none=>rfl
      | some r=>simp)
     go_wp2;go_roundw
     case rel=>exact⟨t++[⟨B,A,z⟩],K,a3,c3,true,rfl,rfl,by simp;omega,ZZ (fun _=>⟨by simp;omega,by simp;omega⟩),av,aP,ag,ZZ (fun _=>m.o),ZZ (fun h=>by cases h),aC⟩
     case measure=>show K.length+1<d.length+1;omega
theorem Zbj:Qe []=(0,0):=by
 rcases Jl [] with h | h
 ·exact h
 ·have b:=h.2.1
  have a:=h.2.2.1;simp at a;omega
theorem ZcR:Qb []=(0,0):=by
 rcases Xh [] with h | h
 ·exact h
 ·have b:=h.2.1
  have a:=h.2.2.1;simp at a;omega
theorem ZkV (h:(Qb l).2=0):(Qb l).1=0:=by
 rcases Xh l with e | e
 ·rw[e]
 ·omega
theorem ZkW (h:(Qe l).2=0):zag (Qe l).1=0:=by
 rcases Jl l with e | e
 ·rw[e];rfl
 ·omega
theorem Zje (l:List UInt8):behind 0 l=[]:=rfl
theorem Yx {d:Nat} (h:d≠0) (l:List UInt8):behind d l=l.drop d:=zaa h
theorem Jj (d:Nat) (l:List UInt8):(behind d l).length<=l.length:=by
 unfold behind;split
 ·simp
 ·simp
theorem Zom (l:List UInt8):
 ((Qe (behind (Qe (behind (Qb l).2 l)).2 (behind (Qb l).2 l))).2=0->Xe l=(⟨0,0,0⟩,0))∧
 ((Qe (behind (Qe (behind (Qb l).2 l)).2 (behind (Qb l).2 l))).2≠0->Xe l=if Gj ⟨((Qb l).1:Int),zag (Qe (behind (Qb l).2 l)).1,zag (Qe (behind (Qe (behind (Qb l).2 l)).2 (behind (Qb l).2 l))).1⟩ then(⟨((Qb l).1:Int),zag (Qe (behind (Qb l).2 l)).1,zag (Qe (behind (Qe (behind (Qb l).2 l)).2 (behind (Qb l).2 l))).1⟩,l.length-(behind (Qe (behind (Qe (behind (Qb l).2 l)).2 (behind (Qb l).2 l))).2 (behind (Qe (behind (Qb l).2 l)).2 (behind (Qb l).2 l))).length) else(⟨0,0,0⟩,0)):=by
 by_cases f:(Qb l).2=0
 ·have e:behind (Qb l).2 l=[]:=by rw[f];rfl
  rw[e,Zbj];simp only [Zje,Zbj,ne_eq,not_true_eq_false,false_imp_iff,ze7,true_imp_iff];unfold Xe;rw[zab (.inl f)]
 ·have e:behind (Qb l).2 l=l.drop (Qb l).2:=Yx f l
  rw[e];by_cases b:(Qe (l.drop (Qb l).2)).2=0
  ·have g:behind (Qe (l.drop (Qb l).2)).2 (l.drop (Qb l).2)=[]:=by rw[b];rfl
   rw[g,Zbj];simp only [ne_eq,not_true_eq_false,false_imp_iff,ze7,true_imp_iff];unfold Xe;rw[zab (.inr (.inl b))]
  ·have g:behind (Qe (l.drop (Qb l).2)).2 (l.drop (Qb l).2)=l.drop ((Qb l).2+(Qe (l.drop (Qb l).2)).2):=by rw[Yx b,drop_drop]
   rw[g];refine⟨fun d=>?_,fun d=>?_⟩
   ·unfold Xe
    rw[zab (.inr (.inr (.inl d)))]
   ·have p:=Jy l
    have m:=Da (l.drop (Qb l).2);have n:=Da (l.drop ((Qb l).2+(Qe (l.drop (Qb l).2)).2));simp only [length_drop] at m n;rw[Yx d,drop_drop,length_drop];unfold Xe;generalize (Qe (l.drop ((Qb l).2+(Qe (l.drop (Qb l).2)).2))).2=k at *;generalize zag (Qe (l.drop ((Qb l).2+(Qe (l.drop (Qb l).2)).2))).1=y at *;generalize (Qe (l.drop (Qb l).2)).2=j at *;generalize zag (Qe (l.drop (Qb l).2)).1=x at *;generalize (Qb l).2=i at *;generalize (Qb l).1=c at *;by_cases a:Gj ⟨(c:Int),x,y⟩
    ·rw[zaa (by rintro(h | h | h | h);exact f h;exact b h;exact d h;exact h a),zab a]
     congr 1
     omega
    ·rw[zab (.inr (.inr (.inr a))),zaa a]
structure GIn (w W:World) (c a b:Int) (vb:Value) (m:List UInt8):Prop where
 res:Bo W w.heap.size #[.int .i64 0,.int .i64 0,.int .i64 0]
 box:Bo W (w.heap.size+1) #[.int .i64 c,.int .i64 a,.int .i64 b]
 cap:Bb W (w.heap.size+1+1) vb
 rd:Rd W vb m
 below:Below w.heap.size w W
theorem GIn.next {c b:Int} (h:GIn w W c a b e m) (d:But (w.heap.size+1+1) (w.heap.size+1+1) W W') (f:Bb W' (w.heap.size+1+1) v') (g:Rd W' v' m'):GIn w W' c a b v' m':=by
 have i:=h.cap.lt;exact⟨(d.block _ (by omega) (by omega) (by omega)).trans h.res,(d.block _ (by omega) (by omega) (by omega)).trans h.box,f,g,Zaf h.below d (by omega) (by omega) (by omega)⟩
theorem Rd.setInt (h:Rd w v m) {b j:Nat} {n:Int} (g:w.cell? ⟨b,j,none⟩=some (.int .i64 n)):Rd (w.setCell ⟨b,j,none⟩ x) v m:=by
 obtain⟨t,z,q,A,y,i,a⟩:=h;refine⟨t,z,q,A,y,i,?_⟩;rcases a with a | ⟨c,f,l,u⟩
 ·exact .inl a
 ·refine .inr ⟨c,f,l,fun k p=>?_⟩
  have d:=u k p
  rw[zbu w ⟨b,j,none⟩ ⟨c,f+k,none⟩ x (fun e=>by
   rw[e,d] at g
   simp at g)]
  exact d
theorem GIn.store {c b c' a' b':Int} (h:GIn w W c a b d m) (j:Nat) (x:Int) {n:Int} (e:(#[Value.int .i64 c,.int .i64 a,.int .i64 b]:Array Value)[j]?=some (.int .i64 n)) (f:(#[Value.int .i64 c,.int .i64 a,.int .i64 b]:Array Value).setIfInBounds j (.int .i64 x)=#[.int .i64 c',.int .i64 a',.int .i64 b']):
 GIn w (W.setCell ⟨w.heap.size+1,j,none⟩ (.int .i64 x)) c' a' b' d m:=by
 have g:=h.cap.lt;refine⟨(zat _ _ _ _ (by show w.heap.size≠w.heap.size+1;omega)).trans h.res,?_,(zat _ _ _ _ (by show w.heap.size+1+1≠w.heap.size+1;omega)).trans h.cap,h.rd.setInt (((h.box.cell j).1).trans e),h.below.setCell (by show w.heap.size<=w.heap.size+1;omega) _⟩
 have:=zbk W (w.heap.size+1) j _ _ (.int .i64 x) h.box;unfold Bo;rw[<-f];simpa using this
theorem GIn.more {c b:Int} (h:GIn w W c a b e m) (d:Below W.heap.size W W'):GIn w W' c a b e m:=by
 have f:=h.cap.lt;exact⟨(d.block _ (by omega)).trans h.res,(d.block _ (by omega)).trans h.box,(d.block _ (by omega)).trans h.cap,h.rd.below d zL,h.below.trans (d.mono h.below.size)⟩
theorem Zdq (W:World) (b:Nat) (a d e:Value) (c i:Nat) (h:b≠c):(((W.setCell ⟨b,0,none⟩ a).setCell ⟨b,1,none⟩ d).setCell ⟨b,2,none⟩ e).drew.cell? ⟨c,i,none⟩=W.cell? ⟨c,i,none⟩:=by
 show(((W.setCell ⟨b,0,none⟩ a).setCell ⟨b,1,none⟩ d).setCell ⟨b,2,none⟩ e).cell? ⟨c,i,none⟩=_;rw[zet _ _ _ _ h,zet _ _ _ _ h,zet _ _ _ _ h]
theorem ZvX (v:Value) (l:List UInt8) (w:World) (Z:Rd w v l) (aB:l.length<=1000000):
 Calls prog 209 #[v] w fun e w'=>Zvg w l e w':=by
 obtain⟨n,d,rfl⟩:∃ n d,v=.slice n l.length d:=by
  obtain⟨n,d,rfl,_⟩:=Z;exact⟨n,d,rfl⟩
 have HR:=ZZ Z;clear Z;have M:Hid (∀ W f,Bb W (w.heap.size+1+1) f->Rd W f l->Calls prog 218 #[.func (.func 168) #[] #[],.pointer (some ⟨w.heap.size+1+1,0,none⟩)] W fun e w'=>∃ v',e=.returned (.tuple #[.int .i64 ((Qb l).1:Nat),.bool (decide ((Qb l).2≠0))])∧Bb w' (w.heap.size+1+1) v'∧Rd w' v' (behind (Qb l).2 l)∧But (w.heap.size+1+1) (w.heap.size+1+1) W w'):=fun W f h1 D=>Zrv _ _ _ _ _ W h1 D (Jy l) (fun h=>by rw[ZkV h];rfl) (ZcH f l W D)
 have aa:Hid (∀ m W f,Bb W (w.heap.size+1+1) f->Rd W f m->Calls prog 218 #[.func (.func 201) #[] #[],.pointer (some ⟨w.heap.size+1+1,0,none⟩)] W fun e w'=>∃ v',e=.returned (.tuple #[.int .i64 (zag (Qe m).1),.bool (decide ((Qe m).2≠0))])∧Bb w' (w.heap.size+1+1) v'∧Rd w' v' (behind (Qe m).2 m)∧But (w.heap.size+1+1) (w.heap.size+1+1) W w'):=fun m W f h1 D=>ZiZ _ _ _ _ _ W h1 D (Da m) ZkW (Zak f m W D)
 have u:=ZZ (Zom l);have ab:=ZZ (Jj (Qb l).2 l);obtain⟨b,ae⟩:=zg7 (behind (Qb l).2 l);rw[<-ae] at u M ab;have ac:=ZZ (aa.o b);have U:=ZZ (Jj (Qe b).2 b);obtain⟨g,av⟩:=zg7 (behind (Qe b).2 b);rw[<-av] at u ac U;have S:=ZZ (aa.o g);have T:=ZZ (Jj (Qe g).2 g);obtain⟨q,aw⟩:=zg7 (behind (Qe g).2 g);rw[<-aw] at u S T;have aA:q.length<=l.length:=zau T.o (zau U.o ab.o);clear ae av aw aa ab U T;unfold Zvg;generalize Xe l=R at *;generalize (Qb l).1=c at *;generalize (Qb l).2=i at *;generalize zag (Qe b).1=x at *;generalize (Qe b).2=j at *;generalize zag (Qe g).1=y at *;generalize (Qe g).2=k at *;obtain⟨C,hC⟩:∃ C:Int,C=(c:Int):=⟨_,rfl⟩;rw[<-hC] at M u;have HF:Hid (∀ W,Calls prog 80 #[.agg #[.int .i64 C,.int .i64 x,.int .i64 y]] W fun e w'=>e=.returned (.bool (decide (Gj ⟨C,x,y⟩)))∧Below W.heap.size W w'):=fun W=>ZlX ⟨C,x,y⟩ W
 have ar:=ZZ (fun W=>ZiY n l.length d W)
 have ay:Hid (∀ W X Y,X=.cells #[.int .i64 0,.int .i64 0,.int .i64 0] 52->Y=.cells #[.int .i64 0,.int .i64 0,.int .i64 0] 52->W=((w.alloc X).alloc Y).alloc (.cells #[.slice n l.length d] 53)->GIn w W 0 0 0 (.slice n l.length d) l):=fun W X Y hX hY hW=>by
  subst hX hY hW;have b1:Below w.heap.size w (((w.alloc (.cells #[.int .i64 0,.int .i64 0,.int .i64 0] 52)).alloc (.cells #[.int .i64 0,.int .i64 0,.int .i64 0] 52)).alloc (.cells #[.slice n l.length d] 53)):=(((zac _ _).alloc zL _).alloc (by simp) _).alloc (by simp;omega) _
  refine⟨?_,?_,?_,HR.o.below b1 zL,b1⟩
  ·exact(zav _ _ _ (by simp;omega)).trans ((zav _ _ _ (by simp)).trans (zak w _))
  ·exact(zav _ _ _ (by simp)).trans (ZpC w _ _)
  ·have h:=zak ((w.alloc (.cells #[.int .i64 0,.int .i64 0,.int .i64 0] 52)).alloc (.cells #[.int .i64 0,.int .i64 0,.int .i64 0] 52)) (.cells #[.slice n l.length d] 53)
   have e:((w.alloc (.cells #[.int .i64 0,.int .i64 0,.int .i64 0] 52)).alloc (.cells #[.int .i64 0,.int .i64 0,.int .i64 0] 52)).heap.size=w.heap.size+1+1:=by simp
   rw[e] at h;exact h
 clear hC
 go_enter func209,ntmps209
 go_wp2_with fail
 refine(ar.o _).mono ?_;rintro e W1 ⟨rfl,ai⟩;have K:=ZZ (ay.o W1 _ _ rfl rfl ai);clear ai ay ar
 go_wp2_with fail
 refine(M.o _ _ K.out.cap K.out.rd).mono ?_;rintro e W2 ⟨v2,rfl,aq,ax,af⟩;have G2:=ZZ (K.out.next af aq ax);obtain⟨p0,f0⟩:=G2.out.box.cell 0;clear aq ax af K M;have E:=ZZ (G2.out.store (c':=C) (a':=0) (b':=0) 0 C rfl rfl)
 go_wp2_with fail
 refine(ac.o _ _ E.o.cap E.o.rd).mono ?_;rintro e W3 ⟨v3,rfl,an,au,aj⟩;have V:=ZZ (E.o.next aj an au);obtain⟨p1,f1⟩:=V.out.box.cell 1;clear an au aj G2 E ac p0 f0;have P:=ZZ (V.out.store (c':=C) (a':=x) (b':=0) 1 x rfl rfl)
 go_wp2_with fail
 refine(S.o _ _ P.o.cap P.o.rd).mono ?_;rintro e W4 ⟨v4,rfl,ap,am,ak⟩;have J:=ZZ (P.o.next ak ap am);obtain⟨p2,f2⟩:=J.out.box.cell 2;clear ap am ak V P S p1 f1;have p:=ZZ (J.out.store (c':=C) (a':=x) (b':=y) 2 y rfl rfl);by_cases A:k=0
 ·have B:Hid (R=(⟨0,0,0⟩,0)):=u.o.1 A
  rw[zai (fun h=>h A)]
  obtain⟨N,g0⟩:=p.o.res.cell 0;obtain⟨G,g1⟩:=p.o.res.cell 1;obtain⟨I,g2⟩:=p.o.res.cell 2;have H:=ZZ p.o.below;clear A J;go_wp2;refine zax (v:=.tuple #[.agg #[.int .i64 0,.int .i64 0,.int .i64 0],.int .i64 0]) (by simp[results,Tryz.results209,go_sem,N,G,I]) rfl ?_
  rw[B.o];exact⟨rfl,((H.o.setCell zL _).setCell zL _).setCell zL _⟩
 ·have B:=ZZ (u.o.2 A)
  rw[zan A];obtain⟨O,-⟩:=p.o.box.cell 0;obtain⟨F,-⟩:=p.o.box.cell 1;obtain⟨L,-⟩:=p.o.box.cell 2;clear A u
  go_wp2_with fail
  refine(HF.o _).mono ?_;rintro e t ⟨rfl,ao⟩;have a:=ZZ (p.o.more ao);clear ao p J O F L p2 f2;obtain⟨N,g0⟩:=a.out.res.cell 0;obtain⟨G,g1⟩:=a.out.res.cell 1;obtain⟨I,g2⟩:=a.out.res.cell 2;have H:=ZZ a.out.below;by_cases z:Gj ⟨C,x,y⟩
  ·rw[zan z]
   rw[zab z] at B;obtain⟨O,-⟩:=a.out.box.cell 0;obtain⟨F,-⟩:=a.out.box.cell 1;obtain⟨L,-⟩:=a.out.box.cell 2;have hc:=a.out.cap.cell.1;obtain⟨a4,Q,rfl,-⟩:=a.out.rd;have HL:=ZZ (fun W h=>Zru (w.heap.size+1+1) a4 q.length Q W h)
   have ag:IntKind.i64.wrap ((l.length:Int)-(q.length:Int))=((l.length-q.length:Nat):Int):=by rw[zbo];omega
   have az:=ZZ ag;have ad:=ZZ (⟨O,F,L,hc⟩:t.drew.cell? ⟨w.heap.size+1,0,none⟩=some (.int .i64 C)∧t.drew.cell? ⟨w.heap.size+1,1,none⟩=some (.int .i64 x)∧t.drew.cell? ⟨w.heap.size+1,2,none⟩=some (.int .i64 y)∧t.drew.cell? ⟨w.heap.size+1+1,0,none⟩=some (.slice a4 q.length Q));have al:=ZZ (⟨(Zdq t w.heap.size (.int .i64 C) (.int .i64 x) (.int .i64 y) _ _ (by omega)).trans O,(Zdq t w.heap.size (.int .i64 C) (.int .i64 x) (.int .i64 y) _ _ (by omega)).trans F,(Zdq t w.heap.size (.int .i64 C) (.int .i64 x) (.int .i64 y) _ _ (by omega)).trans L,(Zdq t w.heap.size (.int .i64 C) (.int .i64 x) (.int .i64 y) (w.heap.size+1+1) 0 (by omega)).trans hc⟩:_∧_∧_∧_)
   clear z a ag HF;go_wp2
   go_region_held(fun w'=>w'.cell? ⟨w.heap.size+1,0,none⟩=some (.int .i64 C)∧w'.cell? ⟨w.heap.size+1,1,none⟩=some (.int .i64 x)∧w'.cell? ⟨w.heap.size+1,2,none⟩=some (.int .i64 y)∧w'.cell? ⟨w.heap.size+1+1,0,none⟩=some (.slice a4 q.length Q)) (first | exact ad.o | exact al.o)
    (first
     | (go_at_call 219;refine(HL.o _ (by first | exact ad.o.2.2.2 | exact al.o.2.2.2)).mono ?_;rintro e w' ⟨rfl,rfl⟩))
   all_goals
    go_wp2;refine zax (v:=.tuple #[.agg #[.int .i64 C,.int .i64 x,.int .i64 y],.int .i64 (IntKind.i64.wrap ((l.length:Int)-(q.length:Int)))]) (by simp[results,Tryz.results209,go_sem,N,G,I]) rfl ?_
    rw[B.o,az.o];exact⟨rfl,((((H.o.setCell zL _).setCell zL _).setCell zL _)).drew⟩
  ·rw[zai z]
   rw[zaa z] at B;clear z a;go_wp2;refine zax (v:=.tuple #[.agg #[.int .i64 0,.int .i64 0,.int .i64 0],.int .i64 0]) (by simp[results,Tryz.results209,go_sem,N,G,I]) rfl ?_
   rw[B.o];exact⟨rfl,((H.o.setCell zL _).setCell zL _).setCell zL _⟩
def Zav (w:World) (r:St × Int) (e:Ending) (w':World):Prop:=
 ∃ vl,e=.returned (.tuple #[.agg #[.int .i64 r.1.kind,vl,.bool r.1.shut,.int .i64 r.1.eng],.int .i64 r.2])∧RdI w' vl r.1.L∧I64 r.1.kind∧I64 r.1.eng∧(∀ b,vl.ownBlock=some b->w.heap.size<=b)∧Below w.heap.size w w'
theorem Zav.zero (n:Int) (a:Below w.heap.size w w'):Zav w (ZcA,n) (.returned (.tuple #[.agg #[.int .i64 0,.slice none 0 0,.bool false,.int .i64 0],.int .i64 n])) w':=
 ⟨_,rfl,RdI.nil _,(Qo (by decide) (by decide):I64 0),(Qo (by decide) (by decide):I64 0),fun b a=>by simp[Value.ownBlock] at a,a⟩
theorem ZcS:∀ (a b:Nat) (l:List UInt8),J7 (a+b) l=(J7 a l).bind fun x=>(J7 b (l.drop x.2)).map fun y=>(x.1++y.1,x.2+y.2)
 | 0,b,l=>by
  rw[za9,J7];simp
 | a+1,b,l=>by
  rw[Nat.add_right_comm,J7,J7,ZcS a b];by_cases h:(Qe l).2=0
  ·rw[zab h,zab h]
   rfl
  ·rw[zaa h,zaa h]
   cases J7 a (l.drop (Qe l).2) with
   | none=>rfl
   | some x=>
    obtain⟨xs,u⟩:=x;simp only [zfz,zc9,drop_drop]
    cases J7 b (l.drop ((Qe l).2+u)) with
    | none=>rfl
    | some y=>simp[zb1]
theorem Zon (l:List UInt8):J7 1 l=if(Qe l).2=0 then none else some ([zag (Qe l).1],(Qe l).2):=by
 rw[J7];split
 ·rfl
 ·rfl
theorem Ztu (h:J7 k l=some (xs,u)) (a:(Qe (l.drop u)).2≠0):J7 (k+1) l=some (xs++[zag (Qe (l.drop u)).1],u+(Qe (l.drop u)).2):=by
 rw[ZcS,h];simp only [zfz];rw[Zon,zaa a];rfl
theorem Ztv {m:Nat} (h:J7 k l=some (xs,u)) (a:(Qe (l.drop u)).2=0) (b:k<m):J7 m l=none:=by
 obtain⟨d,rfl⟩:∃ d,m=k+1+d:=⟨m-(k+1),by omega⟩
 rw[ZcS,ZcS k 1,h];simp only [zfz];rw[Zon,zab a];rfl
theorem Zqn (l:List UInt8):
 ((Qb (behind (Qb (behind (Qb l).2 l)).2 (behind (Qb l).2 l))).2=0∨3<(Qb (behind (Qb l).2 l)).1∨128<(Qb (behind (Qb (behind (Qb l).2 l)).2 (behind (Qb l).2 l))).1->ZdP l=(ZcA,3))∧
 (¬ ((Qb (behind (Qb (behind (Qb l).2 l)).2 (behind (Qb l).2 l))).2=0∨3<(Qb (behind (Qb l).2 l)).1∨128<(Qb (behind (Qb (behind (Qb l).2 l)).2 (behind (Qb l).2 l))).1)->
  ZdP l=ZjR (Qb l).1 (Qb (behind (Qb l).2 l)).1 (Qb (behind (Qb (behind (Qb l).2 l)).2 (behind (Qb l).2 l))).1 (behind (Qb (behind (Qb (behind (Qb l).2 l)).2 (behind (Qb l).2 l))).2 (behind (Qb (behind (Qb l).2 l)).2 (behind (Qb l).2 l)))):=by
 by_cases c:(Qb l).2=0
 ·have e:behind (Qb l).2 l=[]:=by rw[c];rfl
  rw[e,ZcR];simp only [Zje,ZcR];refine⟨fun _=>?_,fun h=>absurd (Or.inl trivial) h⟩
  unfold ZdP;rw[zab (.inl c)]
 ·have e:behind (Qb l).2 l=l.drop (Qb l).2:=Yx c l
  rw[e];by_cases b:(Qb (l.drop (Qb l).2)).2=0
  ·have d:behind (Qb (l.drop (Qb l).2)).2 (l.drop (Qb l).2)=[]:=by rw[b];rfl
   rw[d,ZcR];refine⟨fun _=>?_,fun h=>absurd (Or.inl rfl) h⟩
   unfold ZdP;rw[zab (.inr (.inl b))]
  ·have d:behind (Qb (l.drop (Qb l).2)).2 (l.drop (Qb l).2)=l.drop ((Qb l).2+(Qb (l.drop (Qb l).2)).2):=by rw[Yx b,drop_drop]
   rw[d];refine⟨fun a=>?_,fun a=>?_⟩
   ·unfold ZdP
    rw[zab (.inr (.inr a))]
   ·have f:(Qb (l.drop ((Qb l).2+(Qb (l.drop (Qb l).2)).2))).2≠0:=fun h=>a (.inl h)
    unfold ZdP;rw[zaa (by rintro(h | h | h);exact c h;exact b h;exact a h),Yx f,drop_drop]
structure SIn (w W:World) (kd:Int) (vl:Value) (sh:Bool) (g:Int) (vb:Value) (m:List UInt8):Prop where
 res:Bx W w.heap.size #[.int .i64 0,.slice none 0 0,.bool false,.int .i64 0]
 box:Bx W (w.heap.size+1) #[.int .i64 kd,vl,.bool sh,.int .i64 g]
 cap:Bb W (w.heap.size+1+1) vb
 rd:Rd W vb m
 below:Below w.heap.size w W
theorem SIn.next {b:Bool} (h:SIn w W kd c b g d m) (a:But (w.heap.size+1+1) (w.heap.size+1+1) W W') (e:Bb W' (w.heap.size+1+1) v') (f:Rd W' v' m'):SIn w W' kd c b g v' m':=by
 have i:=h.cap.lt;exact⟨(a.block _ (by omega) (by omega) (by omega)).trans h.res,(a.block _ (by omega) (by omega) (by omega)).trans h.box,e,f,Zaf h.below a (by omega) (by omega) (by omega)⟩
theorem SIn.more {b:Bool} (h:SIn w W kd d b g c m) (a:Below W.heap.size W W'):SIn w W' kd d b g c m:=by
 have e:=h.cap.lt;exact⟨(a.block _ (by omega)).trans h.res,(a.block _ (by omega)).trans h.box,(a.block _ (by omega)).trans h.cap,h.rd.below a zL,h.below.trans (a.mono h.below.size)⟩
theorem Rd.setElse (h:Rd w v m) {b j:Nat} (g:w.cell? ⟨b,j,none⟩=some y) (t:∀ n,y≠.int .u8 n):Rd (w.setCell ⟨b,j,none⟩ x) v m:=by
 obtain⟨u,B,q,C,A,i,a⟩:=h;refine⟨u,B,q,C,A,i,?_⟩;rcases a with a | ⟨c,f,l,z⟩
 ·exact .inl a
 ·refine .inr ⟨c,f,l,fun k p=>?_⟩
  have d:=z k p
  rw[zbu w ⟨b,j,none⟩ ⟨c,f+k,none⟩ x (fun e=>by
   rw[e,d] at g
   exact t _ (zaq g).symm)]
  exact d
theorem SIn.store {kd' g':Int} {b sh':Bool} {a vl':Value} (h:SIn w W kd a b g c m) (j:Nat) (x y:Value) (d:(#[Value.int .i64 kd,a,.bool b,.int .i64 g]:Array Value)[j]?=some y) (f:∀ n,y≠.int .u8 n) (e:(#[Value.int .i64 kd,a,.bool b,.int .i64 g]:Array Value).setIfInBounds j x=#[.int .i64 kd',vl',.bool sh',.int .i64 g']):
 SIn w (W.setCell ⟨w.heap.size+1,j,none⟩ x) kd' vl' sh' g' c m:=by
 have i:=h.cap.lt;refine⟨(zat _ _ _ _ (by show w.heap.size≠w.heap.size+1;omega)).trans h.res,?_,(zat _ _ _ _ (by show w.heap.size+1+1≠w.heap.size+1;omega)).trans h.cap,h.rd.setElse (((h.box.cell j).1).trans d) f,h.below.setCell (by show w.heap.size<=w.heap.size+1;omega) _⟩
 have:=zbk W (w.heap.size+1) j _ _ x h.box;unfold Bx;rw[<-e];simpa using this
structure DIn (w W:World) (kd g:Int) (sh:Bool) (R:List UInt8) (cnt G k:Nat) (vb:Value) (m:List UInt8) (ys:List Int) (th:Bool):Prop where
 sin:SIn w W kd (.slice (some ⟨G,0,none⟩) cnt cnt) sh g vb m
 row:W.heap[G]?=some (.cells (Qr ys).toArray 3 (0,0))
 len:ys.length=cnt
 far:w.heap.size+1+1<G
 st:(th=true∧∃ u,J7 k R=some (ys.take k,u)∧m=R.drop u)∨(th=false∧J7 k R=none∧m=[])
theorem Ztw (h:J7 k R=none):J7 (k+1) R=none:=by
 rw[ZcS,h];rfl
theorem ZxY (a:List Int) (k:Nat) (x:Int) (b:k<a.length):(a.set k x).take (k+1)=a.take k++[x]:=by
 rw[zcl,zgf zL];simp[b]
theorem DIn.step {f:Nat} {b:List Int} {v:Bool} (h:DIn w W kd g i R f G k y m b v) (A:k<f) (l:But (w.heap.size+1+1) (w.heap.size+1+1) W W') (p:Bb W' (w.heap.size+1+1) v') (x:Rd W' v' (behind (Qe m).2 m)):
 DIn w (W'.setCell ⟨G,k,none⟩ (.int .i64 (zag (Qe m).1))) kd g i R f G (k+1) v' (behind (Qe m).2 m) (b.set k (zag (Qe m).1)) (decide ((Qe m).2≠0)):=by
 have z:=h.far;have t:G<W.heap.size:=(zar.1 h.row).1;have j:W'.heap[G]?=some (.cells (Qr b).toArray 3 (0,0)):=(l.block G t (by omega) (by omega)).trans h.row
 have c:=h.sin.next l p x
 have q:W'.cell? ⟨G,k,none⟩=some (.int .i64 (b.getD k 0)):=by
  rw[zas W' G k _ _ _ j];have:=Zz b k (by have:=h.len;omega)
  simpa using this
 refine⟨⟨?_,?_,?_,c.rd.setElse q (fun n e=>by simp at e),c.below.setCell (by show w.heap.size<=G;omega) _⟩,?_,by rw[zd4];exact h.len,z,?_⟩
 ·exact(zat _ _ _ _ (by show w.heap.size≠G;omega)).trans c.res
 ·exact(zat _ _ _ _ (by show w.heap.size+1≠G;omega)).trans c.box
 ·exact(zat _ _ _ _ (by show w.heap.size+1+1≠G;omega)).trans c.cap
 ·rw[zbk W' G k _ _ _ j]
  congr 2
  unfold Qr;apply Array.ext';simp[List.map_set]
 ·have B:=h.len
  rcases h.st with ⟨rfl,u,d,rfl⟩ | ⟨rfl,d,rfl⟩
  ·by_cases a:(Qe (R.drop u)).2=0
   ·right
    refine⟨zai (fun h=>h a),Ztv d a (by omega),?_⟩
    rw[a];rfl
   ·left
    refine⟨zan a,u+(Qe (R.drop u)).2,?_,?_⟩
    ·rw[Ztu d a,ZxY b k _ (by omega)]
    ·rw[Yx a,drop_drop]
  ·right
   rw[Zbj];exact⟨rfl,Ztw d,rfl⟩
theorem DIn.own {d:Bool} {a:Nat} {b:List Int} (h:DIn w W kd g d R a G k e m b i) (f:a<=maxLen):Qt W (w.heap.size+1+1+1) (.slice (some ⟨G,0,none⟩) a a) b:=by
 have c:=h.len;have j:=h.far;refine⟨by rw[Zp,zct],.inr ⟨G,a,(Qr b).toArray,by rw[c],by omega,h.row,by omega,f,?_,?_⟩⟩
 ·simp[Zp,c]
 ·rw[zbl]
  simp[Zp]
theorem Zmu (w:World) (n:Nat) (f:n<=1000000):(Instr.makeSlice 23 (.int .i64 (n:Int)) (.int .i64 (n:Int))).run prog w=.ok (.slice (some ⟨w.heap.size,0,none⟩) n n) (w.alloc (.cells (Qr (List.replicate n 0)).toArray 3)):=by
 obtain⟨e,b,c,a,d⟩:=zbx Zlx;have h:=run_make (P:=prog) w 23 3 e (.int .i64 0) underlying23 b c .i64 .i64 (n:Int) (n:Int) (by omega) (zen _) (by rw[d];omega) (by omega)
 rw[zbj,a,zct] at h;rw[h]
 congr 3
 apply Array.ext';show(madeCells #[Value.int .i64 0] n).toList=_;rw[toList_madeCells_one];simp[Qr]
theorem But.ofDrew {R:Nat} (h:But R T w.drew w'):But R T w w':=⟨h.os,h.tape,h.output,h.size,h.block⟩
theorem DIn.start {b:Bool} (h:SIn w W kd (.slice none 0 0) b g c R) (a:Nat):
 DIn w ((W.alloc (.cells (Qr (List.replicate a 0)).toArray 3)).setCell ⟨w.heap.size+1,1,none⟩ (.slice (some ⟨W.heap.size,0,none⟩) a a)) kd g b R a W.heap.size 0 c R (List.replicate a 0) true:=by
 have d:=h.cap.lt;have f:=h.more ((zac _ _).alloc zL (.cells (Qr (List.replicate a 0)).toArray 3));refine⟨f.store 1 _ _ rfl (fun n e=>by simp at e) rfl,?_,by simp,d,.inl ⟨rfl,0,rfl,by simp⟩⟩
 exact(zat _ _ _ _ (by show W.heap.size≠w.heap.size+1;omega)).trans (zak W _)
theorem DIn.spot {f:Bool} {i:Value} {a:List Int} {e:Bool} (h:DIn w W kd g f R b G k i m a e) (l:k<b) (j:But (w.heap.size+1+1) (w.heap.size+1+1) W W'):
 W'.cell? ⟨G,k,none⟩=some (.int .i64 (a.getD k 0))∧W'.frozen? ⟨G,k,none⟩=false:=by
 have n:=h.far;have d:G<W.heap.size:=(zar.1 h.row).1;have c:W'.heap[G]?=some (.cells (Qr a).toArray 3 (0,0)):=(j.block G d (by omega) (by omega)).trans h.row
 refine⟨?_,zbc W' G k _ _ c⟩;rw[zas W' G k _ _ _ c];have:=Zz a k (by have:=h.len;omega)
 simpa using this
theorem Zjf (v:Value) (l:List UInt8) (w:World) (Q:Rd w v l) (_hlim:l.length<=1000000):
 Calls prog 164 #[v] w fun e w'=>Zav w (ZdP l) e w':=by
 obtain⟨K,I,rfl⟩:∃ K I,v=.slice K l.length I:=by
  obtain⟨K,I,rfl,_⟩:=Q;exact⟨K,I,rfl⟩
 have HR:=ZZ Q;clear Q;have af:Hid (∀ m W f,Bb W (w.heap.size+1+1) f->Rd W f m->Calls prog 218 #[.func (.func 168) #[] #[],.pointer (some ⟨w.heap.size+1+1,0,none⟩)] W fun e w'=>∃ v',e=.returned (.tuple #[.int .i64 ((Qb m).1:Nat),.bool (decide ((Qb m).2≠0))])∧Bb w' (w.heap.size+1+1) v'∧Rd w' v' (behind (Qb m).2 m)∧But (w.heap.size+1+1) (w.heap.size+1+1) W w'):=fun m W f h1 h2=>Zrv _ _ _ _ _ W h1 h2 (Jy m) (fun h=>by rw[ZkV h];rfl) (ZcH f m W h2)
 have a5:Hid (∀ m W f,Bb W (w.heap.size+1+1) f->Rd W f m->Calls prog 218 #[.func (.func 201) #[] #[],.pointer (some ⟨w.heap.size+1+1,0,none⟩)] W fun e w'=>∃ v',e=.returned (.tuple #[.int .i64 (zag (Qe m).1),.bool (decide ((Qe m).2≠0))])∧Bb w' (w.heap.size+1+1) v'∧Rd w' v' (behind (Qe m).2 m)∧But (w.heap.size+1+1) (w.heap.size+1+1) W w'):=fun m W f h1 h2=>ZiZ _ _ _ _ _ W h1 h2 (Da m) ZkW (Zak f m W h2)
 have HG:=ZZ (Zqn l);have an:=ZZ (af.o l)
 have c1:(Qb l).1<4611686018427387904:=by
  rcases Xh l with h | h
  ·rw[h];decide
  ·exact h.1
 obtain⟨O,az⟩:=zg7 (behind (Qb l).2 l);rw[<-az] at HG an;have am:=ZZ (af.o O);obtain⟨S,aX⟩:=zg7 (behind (Qb O).2 O);rw[<-aX] at HG am;have aj:=ZZ (af.o S);obtain⟨R,aY⟩:=zg7 (behind (Qb S).2 S);rw[<-aY] at HG aj;clear az aX aY af;generalize ZdP l=D at *;generalize (Qb l).1=kd at *;generalize (Qb l).2=i at *;generalize (Qb O).1=y at *;generalize (Qb O).2=j at *;generalize (Qb S).1=a at *;generalize (Qb S).2=k at *;have aT:=ZZ (fun W=>ZiY K l.length I W)
 have a0:Hid (∀ W X Y,X=.cells #[.int .i64 0,.slice none 0 0,.bool false,.int .i64 0] 38->Y=.cells #[.int .i64 0,.slice none 0 0,.bool false,.int .i64 0] 38->W=((w.alloc X).alloc Y).alloc (.cells #[.slice K l.length I] 53)->SIn w W 0 (.slice none 0 0) false 0 (.slice K l.length I) l):=fun W X Y hX hY hW=>by
  subst hX hY hW;have P:Below w.heap.size w (((w.alloc (.cells #[.int .i64 0,.slice none 0 0,.bool false,.int .i64 0] 38)).alloc (.cells #[.int .i64 0,.slice none 0 0,.bool false,.int .i64 0] 38)).alloc (.cells #[.slice K l.length I] 53)):=(((zac _ _).alloc zL _).alloc (by simp) _).alloc (by simp;omega) _
  refine⟨?_,?_,?_,HR.o.below P zL,P⟩
  ·exact(zav _ _ _ (by simp;omega)).trans ((zav _ _ _ (by simp)).trans (zak w _))
  ·exact(zav _ _ _ (by simp)).trans (ZpC w _ _)
  ·have h:=zak ((w.alloc (.cells #[.int .i64 0,.slice none 0 0,.bool false,.int .i64 0] 38)).alloc (.cells #[.int .i64 0,.slice none 0 0,.bool false,.int .i64 0] 38)) (.cells #[.slice K l.length I] 53)
   have e:((w.alloc (.cells #[.int .i64 0,.slice none 0 0,.bool false,.int .i64 0] 38)).alloc (.cells #[.int .i64 0,.slice none 0 0,.bool false,.int .i64 0] 38)).heap.size=w.heap.size+1+1:=by simp
   rw[e] at h;exact h
 go_enter func164,ntmps164
 go_wp2_with fail
 refine(aT.o _).mono ?_;rintro e W1 ⟨rfl,aE⟩;have G1:=ZZ (a0.o W1 _ _ rfl rfl aE);clear aE a0 aT
 go_wp2_with fail
 refine(an.o _ _ G1.out.cap G1.out.rd).mono ?_;rintro e W2 ⟨v2,rfl,aR,aZ,aD⟩;have G2:=ZZ (G1.out.next aD aR aZ);obtain⟨p0,f0⟩:=G2.out.box.cell 0;clear aR aZ aD G1 an;have ac:=ZZ (G2.out.store (kd':=(kd:Int)) (vl':=.slice none 0 0) (sh':=false) (g':=0) 0 (.int .i64 (kd:Int)) _ rfl (fun n e=>by simp at e) rfl)
 go_wp2_with fail
 refine(am.o _ _ ac.o.cap ac.o.rd).mono ?_;rintro e W3 ⟨v3,rfl,aO,aV,aG⟩;have G3:=ZZ (ac.o.next aG aO aV);clear aO aV aG G2 ac am p0 f0
 go_wp2_with fail
 refine(aj.o _ _ G3.out.cap G3.out.rd).mono ?_;rintro e W4 ⟨v4,rfl,aQ,aM,aH⟩;have d:=ZZ (G3.out.next aH aQ aM);clear aQ aM aH G3 aj;by_cases H:k=0∨3<y∨128<a
 ·have L:Hid (D=(ZcA,3)):=HG.o.1 H
  obtain⟨F,g0⟩:=d.out.res.cell 0;obtain⟨B,g1⟩:=d.out.res.cell 1;obtain⟨C,g2⟩:=d.out.res.cell 2;obtain⟨z,g3⟩:=d.out.res.cell 3;have aa:=ZZ d.out.below;by_cases J:k=0
  ·rw[zai (fun h=>h J)]
   clear J H d;go_wp2;refine zax (v:=.tuple #[.agg #[.int .i64 0,.slice none 0 0,.bool false,.int .i64 0],.int .i64 3]) (by simp[results,Tryz.results164,go_sem,F,B,C,z]) rfl ?_
   rw[L.o];exact Zav.zero 3 (Zae aa.o w.heap.size zL _ _ _ _)
  ·rw[zan J]
   by_cases h3:3<y
   ·have a2:(3:Int)<(y:Int):=by omega
    clear J H d h3;go_wp2;refine zax (v:=.tuple #[.agg #[.int .i64 0,.slice none 0 0,.bool false,.int .i64 0],.int .i64 3]) (by simp[results,Tryz.results164,go_sem,F,B,C,z]) rfl ?_
    rw[L.o];exact Zav.zero 3 (Zae aa.o w.heap.size zL _ _ _ _)
   ·have a2:¬ (3:Int)<(y:Int):=by omega
    have h4:(128:Int)<(a:Int):=by
     rcases H with h | h | h
     ·exact absurd h J
     ·exact absurd h h3
     ·omega
    clear J H d h3;go_wp2;refine zax (v:=.tuple #[.agg #[.int .i64 0,.slice none 0 0,.bool false,.int .i64 0],.int .i64 3]) (by simp[results,Tryz.results164,go_sem,F,B,C,z]) rfl ?_
    rw[L.o];exact Zav.zero 3 (Zae aa.o w.heap.size zL _ _ _ _)
 ·have L:Hid (D=ZjR kd y a R):=HG.o.2 H
  have J:k≠0:=fun h=>H (.inl h)
  have h3:¬ (3:Int)<(y:Int):=fun h=>H (.inr (.inl (by omega)))
  have h4:¬ (128:Int)<(a:Int):=fun h=>H (.inr (.inr (by omega)))
  rw[zan J];obtain⟨p1,f1⟩:=d.out.box.cell 1;obtain⟨p2,f2⟩:=d.out.box.cell 2;obtain⟨p3,f3⟩:=d.out.box.cell 3;clear H J HG;have av:y=0∨y=1∨y=2∨y=3:=by omega
  go_upto_region 8 with fail
  go_cut[] (fun wc=>∃ (p:Bool) (g:Int),Hid (∀ xs,mkS kd y xs=⟨kd,xs,p,g⟩)∧Hid (I64 g)∧Hid (SIn w wc kd (.slice none 0 0) p g v4 R))
  case first=>
   rcases av with rfl | rfl | rfl | rfl
   ·go_wp2
    go_meet
    exact⟨false,0,ZZ (fun xs=>by simp[mkS]),ZZ (Qo (by omega) (by omega)),ZZ ((d.out.store 2 (.bool false) _ rfl (fun n e=>by simp at e) rfl).store 3 (.int .i64 0) _ rfl (fun n e=>by simp at e) rfl)⟩
   ·go_wp2
    go_meet
    exact⟨true,0,ZZ (fun xs=>by simp[mkS]),ZZ (Qo (by omega) (by omega)),ZZ ((d.out.store 2 (.bool true) _ rfl (fun n e=>by simp at e) rfl).store 3 (.int .i64 0) _ rfl (fun n e=>by simp at e) rfl)⟩
   ·go_wp2
    go_meet
    exact⟨true,1,ZZ (fun xs=>by simp[mkS]),ZZ (Qo (by omega) (by omega)),ZZ ((d.out.store 2 (.bool true) _ rfl (fun n e=>by simp at e) rfl).store 3 (.int .i64 1) _ rfl (fun n e=>by simp at e) rfl)⟩
   ·go_wp2
    go_meet
    exact⟨true,2,ZZ (fun xs=>by simp[mkS]),ZZ (Qo (by omega) (by omega)),ZZ ((d.out.store 2 (.bool true) _ rfl (fun n e=>by simp at e) rfl).store 3 (.int .i64 2) _ rfl (fun n e=>by simp at e) rfl)⟩
  case rest=>
   obtain⟨p,g,ax,aS,GS⟩:=hcut;clear av p1 f1 p2 f2 p3 f3 d;have ak:=ZZ (DIn.start GS.out a);obtain⟨a1,e1⟩:=(GS.out.more ((zac _ _).alloc zL (.cells (Qr (List.replicate a 0)).toArray 3))).box.cell 1;have a6:=fun W=>Zmu W a (by omega)
   have aF:Hid (I64 (kd:Int)):=⟨by omega,by omega⟩
   have bb:a<=128:=by omega
   have a8:Hid (a<=maxLen):=ZZ (by unfold maxLen;omega)
   generalize (Qr (List.replicate a 0)).toArray=Z at *
   go_upto_region 10 with fail
   generalize ((wc.alloc (.cells Z 3)).setCell ⟨w.heap.size+1,1,none⟩ (.slice (some ⟨wc.heap.size,0,none⟩) a a))=W6 at *;clear a6 a1 e1 GS;generalize wc.heap.size=G at *;obtain⟨P,-⟩:=ak.o.sin.box.cell 1;go_wp2
   go_loopw[10,57] (fun th ix wr=>∃ (q:Nat) (f:Value) (m:List UInt8) (E:List Int) (t:Bool),th=.bool t∧ix=.int .i64 (q:Int)∧q<=a∧Hid (DIn w wr kd g p R a G q f m E t)) (fun _ ix _=>a-(intOf ix).toNat)
   case atStart=>exact⟨0,_,_,_,true,rfl,rfl,zap _,ak⟩
   case round=>
    clear ak P;obtain⟨q,f,m,E,t,rfl,rfl,hq,c⟩:=hrel;by_cases ay:q<a
    ·have a9:(q:Int)<(a:Int):=by omega
     obtain⟨P,-⟩:=c.out.sin.box.cell 1;have a3:=c.out.far;have aL:Hid (wr.drew.cell? ⟨w.heap.size+1,1,none⟩=some (.slice (some ⟨G,0,none⟩) a a)):=P;have aq:=ZZ (a5.o m wr.drew f c.out.sin.cap c.out.sin.rd);have aI:=ZZ (fun W' v' V M Q=>c.out.step (W':=W') (v':=v') ay V M Q)
     have aP:=ZZ (fun W' V=>c.out.spot (W':=W') ay V)
     have aW:=ZZ (fun W' v' V M Q=>(((c.out.sin.next (W':=W') (v':=v') (m':=behind (Qe m).2 m) V M Q).box).cell 1).1)
     generalize zag (Qe m).1=x at *;generalize behind (Qe m).2 m=m' at *;generalize decide ((Qe m).2≠0)=t' at *;go_wp2
     go_region_held(fun w'=>w'.cell? ⟨w.heap.size+1,1,none⟩=some (.slice (some ⟨G,0,none⟩) a a)) (first | exact aL.o | exact ag.o | exact aJ.o)
      (first
       | (go_at_call 218;refine aq.o.mono ?_;rintro e W7 ⟨v7,rfl,T,ao,ar⟩;have ae:=ar.ofDrew;have ag:Hid (W7.cell? ⟨w.heap.size+1,1,none⟩=some (.slice (some ⟨G,0,none⟩) a a)):=aW.o W7 v7 ae T ao;obtain⟨k0,k1⟩:=aP.o W7 ae;have aJ:Hid ((W7.setCell ⟨G,q,none⟩ (.int .i64 x)).cell? ⟨w.heap.size+1,1,none⟩=some (.slice (some ⟨G,0,none⟩) a a)):=ZZ ((zet W7 _ _ _ (by show G≠w.heap.size+1;omega)).trans ag.o);have ba:=ZZ (aI.o W7 v7 ae T ao);clear T ao ar ae))
     clear aL ag aJ aq aI aP aW k0 k1 P a3 c;go_wp2;go_roundw
     case rel=>exact⟨q+1,_,_,_,_,rfl,by go_num,by omega,ba⟩
     case measure=>simp[intOf];omega
    ·have aK:q=a:=by omega
     have a9:¬ (q:Int)<(a:Int):=by omega
     have aC:=c.out.len;have au:=ZZ (c.out.own a8.o);obtain⟨F,f0⟩:=c.out.sin.res.cell 0;obtain⟨B,f1⟩:=c.out.sin.res.cell 1;obtain⟨C,f2⟩:=c.out.sin.res.cell 2;obtain⟨z,f3⟩:=c.out.sin.res.cell 3;have aa:=ZZ c.out.sin.below;rcases c.out.st with ⟨rfl,u,N,ab⟩ | ⟨rfl,N,ab⟩
     ·have hu:=(ZbW _ _ _ _ N).2.1
      have aA:m.length=R.length-u:=by rw[ab,length_drop]
      have aw:E.take q=E:=zbl (by omega)
      rw[aw,aK] at N;have al:=ZZ N;have M:=c.out.sin.cap.cell.1;obtain⟨a4,c4,rfl,-⟩:=c.out.sin.rd;have HL:=ZZ (fun W h=>Zru (w.heap.size+1+1) a4 m.length c4 W h)
      clear N aw ab;by_cases ai:u=R.length
      ·have ap:m.length=0:=by omega
       rw[ap] at M HL
       have ad:Hid (D=if Ym ⟨kd,E,p,g⟩ then((⟨kd,E,p,g⟩:St),0) else(ZcA,1)):=by
        refine ZZ ?_;rw[L.o];unfold ZjR;rw[al.o];simp only;rw[zaa (by omega),ax.o]
       have aB:=ZZ (ZbW _ _ _ _ al.o).2.2.2;have a7:=ZZ (au.o.rd aB.o);have q0:=(c.out.sin.box.cell 0).1;have q1:=(c.out.sin.box.cell 1).1;have q2:=(c.out.sin.box.cell 2).1;have q3:=(c.out.sin.box.cell 3).1;have aN:Hid (Calls prog 82 #[.agg #[.int .i64 kd,.slice (some ⟨G,0,none⟩) a a,.bool p,.int .i64 g]] wr fun e w'=>e=.returned (.bool (decide (Ym ⟨kd,E,p,g⟩)))∧Below wr.heap.size wr w'):=ZlW _ ⟨kd,E,p,g⟩ _ ⟨_,rfl,a7.o,aF.o,aS.o⟩
       clear ai aA ap aC L ax
       go_wp2_with fail
       refine(HL.o _ M).mono ?_;rintro e W8 ⟨rfl,rfl⟩
       go_wp2_with fail
       refine aN.o.mono ?_;rintro e W7 ⟨rfl,T⟩;have A:=ZZ (c.out.sin.more T);have aU:=ZZ (au.o.below T zL);clear T F B C z f0 f1 f2 f3 q0 q1 q2 q3 M aN HL;obtain⟨F,f0⟩:=A.o.res.cell 0;obtain⟨B,f1⟩:=A.o.res.cell 1;obtain⟨C,f2⟩:=A.o.res.cell 2;obtain⟨z,f3⟩:=A.o.res.cell 3;have q0:=(A.o.box.cell 0).1;have q1:=(A.o.box.cell 1).1;have q2:=(A.o.box.cell 2).1;have q3:=(A.o.box.cell 3).1;by_cases hm:Ym ⟨kd,E,p,g⟩
       ·rw[zan hm]
        have U:Hid (D=((⟨kd,E,p,g⟩:St),0)):=ad.o.trans (zab hm);clear hm ad;go_wp2;refine zax (v:=.tuple #[.agg #[.int .i64 kd,.slice (some ⟨G,0,none⟩) a a,.bool p,.int .i64 g],.int .i64 0]) (by simp[results,Tryz.results164,go_sem,F,B,C,z]) rfl ?_
        rw[U.o];refine⟨_,rfl,(aU.o.four w.heap.size (by omega) _ _ _ _).rd aB.o,aF.o,aS.o,fun b V=>?_,Zae A.o.below w.heap.size zL _ _ _ _⟩
        have:=aU.o.fresh b V;omega
       ·rw[zai hm]
        have U:Hid (D=(ZcA,1)):=ad.o.trans (zaa hm);clear hm ad;go_wp2;refine zax (v:=.tuple #[.agg #[.int .i64 0,.slice none 0 0,.bool false,.int .i64 0],.int .i64 1]) (by simp[results,Tryz.results164,go_sem,F,B,C,z]) rfl ?_
        rw[U.o];exact Zav.zero 1 (Zae A.o.below w.heap.size zL _ _ _ _)
      ·have ap:(0:Int)<(m.length:Int):=by omega
       have U:Hid (D=(ZcA,3)):=by
        refine ZZ ?_;rw[L.o];unfold ZjR;rw[al.o];simp only;rw[zab ai]
       clear ai aA aC L
       go_wp2_with fail
       refine(HL.o _ M).mono ?_;rintro e W8 ⟨rfl,rfl⟩;go_wp2;refine zax (v:=.tuple #[.agg #[.int .i64 0,.slice none 0 0,.bool false,.int .i64 0],.int .i64 3]) (by simp[results,Tryz.results164,go_sem,F,B,C,z]) rfl ?_
       rw[U.o];exact Zav.zero 3 (Zae aa.o w.heap.size zL _ _ _ _)
     ·rw[aK] at N
      have U:Hid (D=(ZcA,3)):=by
       refine ZZ ?_;rw[L.o];unfold ZjR;rw[N]
      clear N ab c;go_wp2;refine zax (v:=.tuple #[.agg #[.int .i64 0,.slice none 0 0,.bool false,.int .i64 0],.int .i64 3]) (by simp[results,Tryz.results164,go_sem,F,B,C,z]) rfl ?_
      rw[U.o];exact Zav.zero 3 (Zae aa.o w.heap.size zL _ _ _ _)
end Go.Proofs.YtnahjngbneicaaaGreatDoor
