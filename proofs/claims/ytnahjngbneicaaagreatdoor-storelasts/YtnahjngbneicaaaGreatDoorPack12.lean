import Derived.Test.YtnahjngbneicaaaGreatDoorPack11
namespace Go.Proofs.YtnahjngbneicaaaGreatDoor
open _root_.Go.Proofs.Tryz
open List (drop_drop length_append length_drop mem_cons mem_of_mem_take)
set_option maxHeartbeats 8000000
set_option maxRecDepth 100000
open Go.RowKit
variable {d f v v' x:Value} {G T b k n u:Nat} {W W' X w w':World} {R l m m':List UInt8} {cs:Array Value} {a c g kd:Int} {xs:List Int}
abbrev zdb:=@Go.World.cell?_setCell_same
abbrev zei:=@Go.World.cell?_setCell_far
abbrev zfp:=@Option.bind_some
abbrev zf6:=@or_false
theorem ZiL {K:Nat->Prop} {pd p:Nat} {s:Sto} {d:Dk} {N:Nat} (vl:Value) (l:List Rec) (w:World) (h:SD K w pd p s d N T) (hK:∀ k,K k->k<w.heap.size) (C:OkS s) (hr:RdR w vl l) (az:l=[]∨∀ k,vl.ownBlock=some k->K k)
 (bf:s.log.pcs.length<=500000) (bk:s.log.recs.length<=5000000) (hN:N<=900000) (hT:T<=900000000):
 Calls prog 22 #[ptr p,vl] w fun e w'=>Jz K w pd p (X5 l (s,d)) (N+2) (T+30000) e w':=by
 have aq:=ZZ (ZbF vl l w hr);have HS:=ZZ h;have HK:=ZZ hK
 have aJ:Hid (∀ W,Below w.heap.size w W->Calls prog 14 #[ptr p] W fun e w'=>e=.returned (.int .i64 s.next)∧Below w.heap.size w w'):=ZZ (fun W f=>((HS.o.below f).next C.num).mono (by
  rintro e w' ⟨rfl,y⟩
  exact⟨rfl,f.trans (y.mono f.size)⟩))
 obtain⟨V,ar⟩:=zgy (X5 l (s,d));rw[<-ar];have aC:=ZZ ar;have aU:Hid (∀ W c,Below w.heap.size w W->Jz K w pd p ((s,d),c) (N+2) (T+30000) (.returned (.int .i64 c)) W):=ZZ (fun W c f=>⟨rfl,(HS.o.below f).mono (by omega) (by omega),Ql.ofBelow f⟩)
 by_cases m:Yc l
 case neg=>
  rw[zae m] at aq;have HR:Hid (V=((s,d),1)):=ZZ (by rw[aC.o];unfold X5;rw[zab m])
  obtain⟨ra,rc,rfl,-⟩:=hr;clear h hK C az ar m
  go_enter func22,ntmps22
  go_wp2_with fail
  refine aq.o.mono ?_;rintro e W1 ⟨rfl,z⟩;have a1:=ZZ z;clear z;go_wp2;go_ret;rw[HR.o];exact aU.o W1 1 a1.o
 rw[zah m] at aq;have bz:=ZZ hr;have bO:=ZZ az;have aH:1<=l.length:=m.1;have bb:l.length<=256:=m.2.1;obtain⟨ra,rc,rfl,bC,bv,-,a7,bR⟩:=hr;rcases bR with h0 | ⟨b,ax,rfl,aA⟩
 ·rw[h0] at aH;simp at aH
 have aN:l.getD 0 Qi=l.headD Qi:=by cases l <;> rfl
 have ab:Hid (∀ W,Below w.heap.size w W->W.cell? ⟨b,ax,none⟩=some (.int .i64 (l.headD Qi).idx)):=ZZ (fun W f=>by
  have i:=(aA 0 (by omega)).keep (f.block b (aA 0 (by omega)).lt)
  have h1:=i.1;rw[aN,zc3,zcw] at h1
  exact h1)
 have aP:Hid (∀ W,Below w.heap.size w W->Below w.heap.size w W.drew):=ZZ (fun W f=>f.drew)
 by_cases Z:(l.headD Qi).idx=s.next
 case neg=>
  have HR:Hid (V=((s,d),15)):=ZZ (by rw[aC.o];unfold X5;rw[zaa (fun t=>t m),zab Z])
  have ac:((l.headD Qi).idx != s.next)=true:=by rw[zbf];exact Z
  have bM:(0:Int)<(l.length:Int):=by omega
  generalize s.next=nx at *;generalize (l.headD Qi).idx=R at *;clear h hK C az ar m aA aN a7 Z
  go_enter func22,ntmps22
  go_wp2_with fail
  refine aq.o.mono ?_;rintro e W1 ⟨rfl,z⟩;have a1:=ZZ z;have ae:=ZZ (aP.o W1 z);clear z
  go_upto_region 3 with fail
  go_cut[12] (fun v wc=>v=.bool true∧Hid (Below w.heap.size w wc))
  case first=>
   go_region_held(fun W=>W.cell? ⟨b,ax,none⟩=some (.int .i64 R))
    (first | (with_reducible exact ab.o _ ae.o) | (with_reducible exact ab.o _ A.o))
    (first | (go_at_call 14;refine(aJ.o _ ae.o).mono ?_;rintro e W2 ⟨rfl,ad⟩;have A:=ZZ ad;clear ad))
   all_goals
    go_wp2_with fail
    go_meet
    exact⟨by first | rfl | (rw[ac]),A⟩
  case rest=>
   obtain⟨rfl,HB⟩:=hcut;go_wp2;go_ret;rw[HR.o];exact aU.o _ 15 HB.o
 have ac:((l.headD Qi).idx != s.next)=false:=by rw[Z];simp
 have aZ:Qz (l.headD Qi):=by
  rw[<-aN];rw[show l.getD 0 Qi=l[0]'(by omega) by simp[List.getD,show 0<l.length by omega]]
  exact m.2.2.1 _ (zcs _)
 have a5:0<=s.next:=by rw[<-Z];exact aZ.2.1
 have aS:s.next<4611686018427387904:=by rw[<-Z];exact aZ.2.2.1
 have aT:0<=s.now.st.kind∧s.now.st.kind<6:=⟨C.now.1.2.2.2.1,C.now.1.2.2.2.2.1⟩;have bm:=ZsU m aT aS;obtain⟨g,au⟩:=zgy (Jr s d);obtain⟨BA,af⟩:=zgy (Jv s l);obtain⟨⟨D,c⟩,hD⟩:=zgy (Qy d g BA)
 have bl:I64 g:=by
  rw[au];unfold Jr;split
  ·obtain⟨F,M,I,L,⟨L1,g1,g2,-⟩,-⟩:=h
   exact ZcQ g2 2 (by decide) (by decide)
  ·exact C.cu
 have ay:Hid (V=if c=0 then((Y3 s g l,D),0) else((s,D),c)):=ZZ (by
  rw[aC.o];unfold X5;rw[zaa (fun t=>t m),zaa (fun t=>t Z)]
  dsimp only
  rw[<-au,<-af,<-hD])
 have a2:Hid (∀ W,Below w.heap.size w W->Calls prog 49 #[.slice (some ⟨b,ax,none⟩) l.length rc] W fun e w'=>∃ v',e=.returned v'∧Own w' w.heap.size v' (Qd (X9 l))∧Below w.heap.size w w'):=ZZ (fun W f=>(ZjS _ l W (bz.o.below f zL) m (by have:=ZiK m;omega)).mono (by
  rintro e w' ⟨v',rfl,j,y⟩
  exact⟨v',rfl,j.mono f.size,f.trans (y.mono f.size)⟩))
 have J:Hid (∀ W,Below w.heap.size w W->W.cell? ⟨p,0,none⟩=some (ptr pd)∧W.cell? ⟨p,12,none⟩=some (.int .i64 s.cur)):=ZZ (fun W f=>by
  obtain⟨⟨c0,-,bK,-⟩,-⟩:=(HS.o.below f).cells
  exact⟨c0,bK⟩)
 have a6:Hid (∀ vB W,Own W w.heap.size vB BA->Below w.heap.size w W->Calls prog 52 #[ptr pd,.int .i64 g,vB] W fun e w'=>e=.returned (.int .i64 c)∧SD K w' pd p s D (N+2) (T+30000)∧Ql (fun k=>¬ K k) w w'):=ZZ (fun vB W j f=>by
  refine((HS.o.fresh f).disk (c:=c) (d':=D) (N':=N+2) (T':=T+30000) (fun k hk=>?_) (fun F hF b4=>?_)).mono ?_
  ·rcases hk with hk | hk
   ·exact zav (HK.o k hk) f.size
   ·exact hk.2
  ·have:=Zkj g bl vB BA W hF j.rd (.inr fun k hk m=>b4 k m (.inr ⟨(zar j k hk).1,(zar j k hk).2⟩)) (by omega) (by omega) (by rw[af];omega)
   rw[<-hD] at this;refine this.mono ?_;rintro e w' ⟨g0,F',g1,g2⟩;exact⟨g0,F',g1.mono zL (by rw[af];omega),g2⟩
  ·rintro e w' ⟨he,Y,b6⟩
   exact⟨he,Y.less (fun k hk=>.inl hk),(Ql.ofBelow f).trans (b6.mono (fun k hk hn=>hk (.inl hn))) (fun _ _ t=>t)⟩)
 have E:Hid (∀ W,Ql (fun k=>¬ K k) w W->RdR W (.slice (some ⟨b,ax,none⟩) l.length rc) l∧∀ k,K k->k<W.heap.size):=ZZ (fun W j=>⟨bz.o.keepK bO.o j,fun k hk=>zav (HK.o k hk) j.size⟩)
 have H:=ZZ C;have aF:=ZZ (And.intro bf bk);have aX:=ZZ (And.intro aH bb);have bM:(0:Int)<(l.length:Int):=by omega
 have cb:(l.length:Int)<=256:=by omega
 by_cases x:s.cur=0
 ·have aV:(s.cur == 0)=true:=by rw[x];rfl
  have aw:Hid (g=Xs d 2):=ZZ (by rw[au];unfold Jr;rw[zab x])
  have aW:Hid (BA=Qd (Xq 3 s.now.st.kind.toNat s.next.toNat)++Qd (X9 l)):=ZZ (by rw[af];unfold Jv;rw[zab x])
  have b8:Hid ((Qd (Xq 3 s.now.st.kind.toNat s.next.toNat)).length+(Qd (X9 l)).length<=70368744177664):=ZZ (by
   rw[<-length_append,<-aW.o,af]
   omega)
  have bS:Hid (∀ W,Below w.heap.size w W->Calls prog 50 #[ptr p,.int .i64 2] W fun e w'=>e=.returned (.int .i64 g)∧Below w.heap.size w w'∧Below W.heap.size W w'):=ZZ (fun W f=>by
   obtain⟨F,M,I,L,h1,h2,-⟩:=HS.o.below f;rw[aw.o];refine(Zgn 2 W h2 h1 (by omega) (by decide) (by decide)).mono ?_
   rintro e w' ⟨rfl,y⟩
   exact⟨rfl,f.trans (y.mono f.size),y⟩)
  have b7:Hid (∀ W,Below w.heap.size w W->Calls prog 51 #[ptr p] W fun e w'=>∃ v',e=.returned v'∧Own w' w.heap.size v' (Qd (Xq 3 s.now.st.kind.toNat s.next.toNat))∧Below w.heap.size w w'∧Below W.heap.size W w'):=ZZ (fun W f=>by
   obtain⟨F,M,I,L,h1,h2,-⟩:=HS.o.below f;refine(ZlZ W h2 C.num aT aS a5).mono ?_;rintro e w' ⟨v',rfl,j,y⟩
   exact⟨v',rfl,j.mono f.size,f.trans (y.mono f.size),y⟩)
  have bc:Hid (∀ W,SD K W pd p { s with log:=(s.log.start g s.next).add l,now:=(Q3 s.now l).1,cur:=g,nw:=true } D (N+2) (T+30000)->Ql (fun k=>¬ K k) w W->c=0->Jz K w pd p V (N+2) (T+30000) (.returned (.int .i64 0)) W):=ZZ (fun W Y j i=>by
   rw[ay.o,zab i];refine⟨rfl,?_,j⟩;have e1:Y3 s g l={ s with log:=(s.log.start g s.next).add l,now:=(Q3 s.now l).1,cur:=g,nw:=true }:=by unfold Y3;rw[zab x,zab x]
   rw[e1]
   exact Y)
  have bj:Hid (∀ W,SD K W pd p s D (N+2) (T+30000)->Ql (fun k=>¬ K k) w W->c≠0->Jz K w pd p V (N+2) (T+30000) (.returned (.int .i64 c)) W):=ZZ (fun W Y j i=>by
   rw[ay.o,zaa i]
   exact⟨rfl,Y,j⟩)
  have bu:Hid (s.cur≠0->s.log.pcs.length≠0):=ZZ C.cur;have br:=ZZ x;obtain⟨nx,ap⟩:=zgy s.next;obtain⟨R,aD⟩:=zgy ((l.headD Qi).idx);rw[<-ap] at aJ ac;rw[<-aD] at ab ac;have a0:=ZZ ap;obtain⟨B,ak⟩:=zgy s.cur;rw[<-ak] at J aV;have bn:=ZZ ak;clear ak;clear h hK C az ar m aA aN a7 Z ap aD hD af au x aC ay aZ bm bl aT a5 aS bf bk bC bv aH bb aU
  go_enter func22,ntmps22
  go_wp2_with fail
  refine aq.o.mono ?_;rintro e W1 ⟨rfl,z⟩;have a1:=ZZ z;have ae:=ZZ (aP.o W1 z);clear z
  go_upto_region 3 with fail
  go_cut[12] (fun v wc=>v=.bool false∧Hid (Below w.heap.size w wc))
  case first=>
   go_region_held(fun W=>W.cell? ⟨b,ax,none⟩=some (.int .i64 R))
    (first | (with_reducible exact ab.o _ ae.o) | (with_reducible exact ab.o _ A.o))
    (first | (go_at_call 14;refine(aJ.o _ ae.o).mono ?_;rintro e W2 ⟨rfl,ad⟩;have A:=ZZ ad;clear ad))
   all_goals
    go_wp2_with fail
    go_meet
    exact⟨by first | rfl | (rw[ac]),A⟩
  case rest=>
  obtain⟨W2,rfl⟩:=zgy wc;obtain⟨rfl,A⟩:=hcut;have aO:=ZZ (aP.o W2 A.o)
  go_upto_region 5 with fail
  go_cut[5,6] (fun v5 v6 wc=>v5=.int .i64 B∧(∃ a n c,v6=.slice a n c)∧Hid (Own wc w.heap.size v6 (Qd (X9 l)))∧Hid (Below w.heap.size w wc))
  case first=>
   go_region_held(fun W=>W.cell? ⟨p,12,none⟩=some (.int .i64 B))
    (first | (with_reducible exact(J.o _ aO.o).2) | (with_reducible exact(J.o _ G.o).2))
    (first | (go_at_call 49;refine(a2.o _ aO.o).mono ?_;rintro e U ⟨v3,rfl,am,aI⟩;have aj:=ZZ am;have G:=ZZ aI;obtain⟨z1,z2,z3,hz⟩:∃ a n c,v3=Value.slice a n c:=(by obtain⟨a,c,t⟩:=am.shape;exact⟨a,_,c,t⟩);subst hz;clear am aI))
   all_goals
    go_wp2_with fail
    go_meet
    exact⟨rfl,⟨_,_,_,rfl⟩,aj,G⟩
  case rest=>
  obtain⟨U,rfl⟩:=zgy wc;obtain⟨rfl,⟨z1,z2,z3,rfl⟩,aj,G⟩:=hcut;obtain⟨q0,aL⟩:=J.o U G.o
  go_wp2_with fail
  refine(bS.o U G.o).mono ?_;rintro e W4 ⟨rfl,bF,bp⟩;have b2:=ZZ bF;have ca:=ZZ bp;clear bp;have bN:Hid (Own W4 w.heap.size (.slice z1 z2 z3) (Qd (X9 l))):=ZZ (aj.o.below (show Below U.heap.size U W4 from ca.o) zL);clear bF q0 aL
  go_wp2_with fail
  refine(b7.o W4 b2.o).mono ?_;rintro e W5 ⟨v5,rfl,a4,bg,bD⟩;have bQ:=ZZ bg;have bL:=ZZ bD;clear bD;have b0:=ZZ a4;have b5:Hid (Rd W5 (.slice z1 z2 z3) (Qd (X9 l))):=ZZ (bN.o.rd.below (show Below W4.heap.size W4 W5 from bL.o) zL);have b9:Hid (w.heap.size<=W5.heap.size):=ZZ bg.size
  obtain⟨y1,y2,y3,hy⟩:∃ a n c,v5=Value.slice a n c:=by
   obtain⟨a,c,t⟩:=a4.shape;exact⟨a,_,c,t⟩
  subst hy;clear a4 bg
  go_wp2_with(at_builtin;refine Xw _ rfl _ _ rfl w.heap.size _ _ rfl b0.o _ (Qd (X9 l)) rfl b5.o b8.o b9.o ?_)
  intro v6 W6 aY bo;rw[<-aW.o] at aY;have bY:=ZZ aY;have bx:Hid (Below w.heap.size w W6):=ZZ (bQ.o.trans bo)
  obtain⟨x1,x2,x3,b3⟩:∃ a n c,v6=Value.slice a n c:=by
   obtain⟨a,c,t⟩:=aY.shape;exact⟨a,_,c,t⟩
  subst b3;obtain⟨q0,aL⟩:=J.o W6 bx.o;clear aY bo
  go_wp2_with fail
  refine(a6.o _ W6 bY.o bx.o).mono ?_;rintro e u ⟨rfl,an,aE⟩;have ao:=ZZ an;have av:=ZZ aE;obtain⟨⟨-,-,O,ag⟩,P⟩:=an.cells;clear an aE q0 aL;by_cases i:c=0
  case neg=>
   have bP:(c != 0)=true:=by rw[zbf];exact i
   have HE:=ZZ (bj.o u ao.o av.o i);clear i P O ag;go_wp2;go_ret;exact HE.o
  have b1:=ZZ i;subst i;rw[<-bn.o] at O;have bG:=ZZ (ao.o.next H.o.num);rw[<-a0.o] at bG
  have bH:Hid (∀ W,Below u.heap.size u W->Calls prog 53 #[.pointer (some ⟨p,1,none⟩),.int .i64 g,.int .i64 nx] W fun e w'=>e=.returned (.tuple #[])∧SD K w' pd p { s with log:=s.log.start g s.next } D (N+2) (T+30000)∧Ql (fun k=>¬ K k) w w'):=ZZ (fun W f=>by
   have y:=(ao.o.below f).begin (fun k hk=>zav ((E.o u av.o).2 k hk) f.size) g nx (by have:=aF.o.1;omega)
   rw[a0.o] at y ⊢;refine y.mono ?_;rintro e w' ⟨he,h2,h3⟩
   exact⟨he,h2,(av.o.trans (Ql.ofBelow (F:=fun _=>False) f) (fun _ _ h=>h.elim)).trans h3 (fun _ _ h=>h)⟩)
  have bW:Hid (Below u.heap.size u u.drew):=ZZ (zac _ _).drew
  have bU:Hid (∀ W,Below u.heap.size u W->Calls prog 14 #[ptr p] W fun e w'=>e=.returned (.int .i64 nx)∧Below u.heap.size u w'):=ZZ (fun W f=>by
   rw[a0.o];refine((ao.o.below f).next H.o.num).mono ?_;rintro e w' ⟨rfl,y⟩
   exact⟨rfl,f.trans (y.mono f.size)⟩)
  go_upto_region 12 with fail
  go_cut[] (fun wc=>Hid (SD K wc pd p { s with log:=s.log.start g s.next } D (N+2) (T+30000)∧Ql (fun k=>¬ K k) w wc))
  case first=>
   go_region_with
    (first
     | (go_at_call 14;refine(bU.o _ (by first | exact bW.o | exact zac _ _)).mono ?_;rintro e W8 ⟨rfl,bt⟩;have bZ:=ZZ bt;clear bt)
     | (go_at_call 53;refine(bH.o W8 bZ.o).mono ?_;rintro e W9 ⟨rfl,bq,bE⟩;have aa:=ZZ (And.intro bq bE);clear bq bE))
   all_goals
    go_wp2_with fail
    go_meet
    exact aa
  case rest=>
  obtain⟨W9,rfl⟩:=zgy wc;have aa:=hcut;clear hcut P O ag;obtain⟨⟨-,-,O,ag⟩,P⟩:=aa.o.1.cells;have bT:=P 12;have bI:=P 13;have ba:=ZZ (((aa.o.1.setHead (s':={ s with log:=s.log.start g s.next,cur:=g }) (E.o W9 aa.o.2).2 12 (.int .i64 g) rfl rfl rfl (fun _=>rfl))))
  have bd:=ZZ (ba.o.1.setHead (s':={ s with log:=s.log.start g s.next,cur:=g,nw:=true }) (fun k hk=>by have:=(E.o W9 aa.o.2).2 k hk;simpa using this) 13 (.bool true) rfl rfl rfl (fun _=>rfl))
  obtain⟨S,a9⟩:=zgy ((W9.setCell ⟨p,12,none⟩ (.int .i64 g)).setCell ⟨p,13,none⟩ (.bool true));have X:Hid (SD K S pd p { s with log:=s.log.start g s.next,cur:=g,nw:=true } D (N+2) (T+30000)∧Ql (fun k=>¬ K k) w S):=ZZ (by rw[a9];exact⟨bd.o.1,(aa.o.2.trans ba.o.2 (fun _ _ h=>h)).trans bd.o.2 (fun _ _ h=>h)⟩)
  have bw:({ s with log:=s.log.start g s.next }:Sto).cur=B:=bn.o.symm
  rw[bw] at O;have bB:({ s with log:=s.log.start g s.next }:Sto).nw=s.nw:=rfl
  rw[bB] at ag;clear bw bB P
  go_upto_region 14 with fail
  rw[<-a9];clear a9 O ag bT bI aa ba bd
  have aB:=ZZ (X.o.1.add (E.o S X.o.2).2 _ l (E.o S X.o.2).1 (by simp[Lgb.start]) (by have:=aF.o.1;simp[Lgb.start];omega) (by have:=aF.o.2;have:=aX.o.2;show s.log.recs.length+l.length<=_;omega) (fun q hq=>by
   have a3:=H.o.log.start g s.next (by have:=H.o.log.f0;have:=Zai H.o.log.ch;show 0<=s.log.next;omega) H.o.log.top (.inr rfl)
   have:=ZaY a3.ch q hq;have:=a3.f0;have:=a3.top
   omega))
  go_wp2_with fail
  refine aB.o.mono ?_;rintro e Q ⟨rfl,aK,aR⟩;have bi:Hid (SD K Q pd p { s with log:=(s.log.start g s.next).add l,cur:=g,nw:=true } D (N+2) (T+30000)):=ZZ aK
  have al:Hid (Ql (fun k=>¬ K k) w Q):=ZZ (X.o.2.trans aR (fun _ _ h=>h))
  clear aK aR aB;obtain⟨la,ln,lc,ta,tn,tc,⟨c5,c6,c7,c8,c9,be⟩,aQ⟩:=bi.o.takes (E.o Q al.o).2 H.o.now _ l (E.o Q al.o).1 (by have:=aX.o.2;omega)
  have ai:=ZZ aQ;clear aQ
  dsimp only at c5 c6 c8 c9 ai
  go_wp2_with fail
  refine ai.o.mono ?_;rintro e WC ⟨xa,xn,xc,ua,un,uc,rfl,⟨e5,e6,e7,e8,e9,bV⟩,fz,aG,aM⟩;have a8:=ZZ (bc.o _ aG (al.o.trans aM (fun _ _ h=>h)) (by first | rfl | trivial))
  have f5:=fz 5;have f6:=fz 6;have f7:=fz 7;have f8:=fz 8;have f9:=fz 9;have bJ:=fz 10;clear aG aM fz c5 c6 c7 c8 c9 be ai;generalize Q3 s.now l=tk at *;go_wp2;go_ret;exact a8.o
 ·have aV:(s.cur == 0)=false:=zad.2 x
  have aw:Hid (g=s.cur):=ZZ (by rw[au];unfold Jr;rw[zaa x])
  have aW:Hid (BA=Qd (X9 l)):=ZZ (by rw[af];unfold Jv;rw[zaa x])
  rw[<-aW.o] at a2;rw[<-aw.o] at J
  have bc:Hid (∀ W,SD K W pd p { s with log:=s.log.add l,now:=(Q3 s.now l).1 } D (N+2) (T+30000)->Ql (fun k=>¬ K k) w W->c=0->Jz K w pd p V (N+2) (T+30000) (.returned (.int .i64 0)) W):=ZZ (fun W Y j i=>by
   rw[ay.o,zab i];refine⟨rfl,?_,j⟩;have e1:Y3 s g l={ s with log:=s.log.add l,now:=(Q3 s.now l).1 }:=by unfold Y3;rw[zaa x,zaa x,aw.o]
   rw[e1]
   exact Y)
  rw[<-aw.o] at aV
  have bj:Hid (∀ W,SD K W pd p s D (N+2) (T+30000)->Ql (fun k=>¬ K k) w W->c≠0->Jz K w pd p V (N+2) (T+30000) (.returned (.int .i64 c)) W):=ZZ (fun W Y j i=>by
   rw[ay.o,zaa i]
   exact⟨rfl,Y,j⟩)
  have bu:Hid (s.cur≠0->s.log.pcs.length≠0):=ZZ C.cur;have br:=ZZ x;obtain⟨nx,ap⟩:=zgy s.next;obtain⟨R,aD⟩:=zgy ((l.headD Qi).idx);rw[<-ap] at aJ ac;rw[<-aD] at ab ac;have a0:=ZZ ap;obtain⟨B,ak⟩:=zgy g;have bX:Hid (s.cur=B):=ZZ (by rw[ak,aw.o])
  rw[<-ak] at J aV a6;clear ak;clear h hK C az ar m aA aN a7 Z ap aD hD af au x aC ay aZ bm bl aT a5 aS bf bk bC bv aH bb aU
  go_enter func22,ntmps22
  go_wp2_with fail
  refine aq.o.mono ?_;rintro e W1 ⟨rfl,z⟩;have a1:=ZZ z;have ae:=ZZ (aP.o W1 z);clear z
  go_upto_region 3 with fail
  go_cut[12] (fun v wc=>v=.bool false∧Hid (Below w.heap.size w wc))
  case first=>
   go_region_held(fun W=>W.cell? ⟨b,ax,none⟩=some (.int .i64 R))
    (first | (with_reducible exact ab.o _ ae.o) | (with_reducible exact ab.o _ A.o))
    (first | (go_at_call 14;refine(aJ.o _ ae.o).mono ?_;rintro e W2 ⟨rfl,ad⟩;have A:=ZZ ad;clear ad))
   all_goals
    go_wp2_with fail
    go_meet
    exact⟨by first | rfl | (rw[ac]),A⟩
  case rest=>
  obtain⟨W2,rfl⟩:=zgy wc;obtain⟨rfl,A⟩:=hcut;have aO:=ZZ (aP.o W2 A.o)
  go_upto_region 5 with fail
  go_cut[5,6] (fun v5 v6 wc=>v5=.int .i64 B∧(∃ a n c,v6=.slice a n c)∧Hid (Own wc w.heap.size v6 BA)∧Hid (Below w.heap.size w wc))
  case first=>
   go_region_held(fun W=>W.cell? ⟨p,12,none⟩=some (.int .i64 B))
    (first | (with_reducible exact(J.o _ aO.o).2) | (with_reducible exact(J.o _ G.o).2))
    (first | (go_at_call 49;refine(a2.o _ aO.o).mono ?_;rintro e U ⟨v3,rfl,am,aI⟩;have aj:=ZZ am;have G:=ZZ aI;obtain⟨z1,z2,z3,hz⟩:∃ a n c,v3=Value.slice a n c:=(by obtain⟨a,c,t⟩:=am.shape;exact⟨a,_,c,t⟩);subst hz;clear am aI))
   all_goals
    go_wp2_with fail
    go_meet
    exact⟨rfl,⟨_,_,_,rfl⟩,aj,G⟩
  case rest=>
  obtain⟨U,rfl⟩:=zgy wc;obtain⟨rfl,⟨z1,z2,z3,rfl⟩,aj,G⟩:=hcut;obtain⟨q0,aL⟩:=J.o U G.o
  go_wp2_with fail
  refine(a6.o _ U aj.o G.o).mono ?_;rintro e u ⟨rfl,an,aE⟩;have ao:=ZZ an;have av:=ZZ aE;obtain⟨⟨-,-,O,ag⟩,P⟩:=an.cells;clear an aE q0 aL;by_cases i:c=0
  case neg=>
   have bP:(c != 0)=true:=by rw[zbf];exact i
   have HE:=ZZ (bj.o u ao.o av.o i);clear i P O ag;go_wp2;go_ret;exact HE.o
  have b1:=ZZ i;subst i;obtain⟨S,rfl⟩:=zgy u;have X:=ZZ (And.intro ao.o av.o)
  have aB:=ZZ (X.o.1.add (E.o S X.o.2).2 _ l (E.o S X.o.2).1 (bu.o br.o) (by have:=aF.o.1;omega) (by have:=aF.o.2;have:=aX.o.2;omega) (fun q hq=>by
   have:=ZaY H.o.log.ch q hq;have:=H.o.log.f0;have:=H.o.log.top
   omega))
  clear P ag;have bA:s.cur=B:=bX.o;rw[bA] at O;clear bA
  go_wp2_with fail
  refine aB.o.mono ?_;rintro e Q ⟨rfl,aK,aR⟩;have bi:Hid (SD K Q pd p { s with log:=s.log.add l } D (N+2) (T+30000)):=ZZ aK
  have al:Hid (Ql (fun k=>¬ K k) w Q):=ZZ (X.o.2.trans aR (fun _ _ h=>h))
  clear aK aR aB;obtain⟨la,ln,lc,ta,tn,tc,⟨c5,c6,c7,c8,c9,be⟩,aQ⟩:=bi.o.takes (E.o Q al.o).2 H.o.now _ l (E.o Q al.o).1 (by have:=aX.o.2;omega)
  have ai:=ZZ aQ;clear aQ
  dsimp only at c5 c6 c8 c9 ai
  go_wp2_with fail
  refine ai.o.mono ?_;rintro e WC ⟨xa,xn,xc,ua,un,uc,rfl,⟨e5,e6,e7,e8,e9,bV⟩,fz,aG,aM⟩;have a8:=ZZ (bc.o _ aG (al.o.trans aM (fun _ _ h=>h)) (by first | rfl | trivial))
  have f5:=fz 5;have f6:=fz 6;have f7:=fz 7;have f8:=fz 8;have f9:=fz 9;have bJ:=fz 10;clear aG aM fz c5 c6 c7 c8 c9 be ai;generalize Q3 s.now l=tk at *;go_wp2;go_ret;exact a8.o
def Bb (w:World) (b:Nat) (v:Value):Prop:=w.heap[b]?=some (.cells #[v] 53 (0,0))
theorem Bb.lt (h:Bb w b v):b<w.heap.size:=(zan.1 h).1
theorem Bb.cell (h:Bb w b v):w.cell? ⟨b,0,none⟩=some v∧w.frozen? ⟨b,0,none⟩=false:=
 ⟨(zam w b 0 _ _ _ h).trans rfl,za2 w b 0 _ _ h⟩
theorem Bb.set (h:Bb w b v) (x:Value):Bb (w.setCell ⟨b,0,none⟩ x) b x:=by
 have:=zba w b 0 _ _ x h;unfold Bb;simpa using this
theorem Rd.setBox (h:Rd w v m) {b:Nat} {ao:Option Addr} {n cap:Nat} (d:w.cell? ⟨b,0,none⟩=some (.slice ao n cap)):Rd (w.setCell ⟨b,0,none⟩ x) v m:=by
 obtain⟨y,u,z,q,i,l,a⟩:=h;refine⟨y,u,z,q,i,l,?_⟩;rcases a with a | ⟨c,g,p,k⟩
 ·exact .inl a
 ·refine .inr ⟨c,g,p,fun j t=>?_⟩
  have f:=k j t
  rw[zbh w ⟨b,0,none⟩ ⟨c,g+j,none⟩ x (fun e=>by
   rw[e,f] at d
   cases d)]
  exact f
def behind (d:Nat) (m:List UInt8):List UInt8:=if d=0 then[] else m.drop d
theorem ZiM (ao:Option Addr) (n cap:Nat) (w:World):
 Calls prog 200 #[.slice ao n cap] w fun e w'=>e=.returned (.tuple #[.func (.func 218) #[] #[.pointer (some ⟨w.heap.size,0,none⟩)],.func (.func 219) #[] #[.pointer (some ⟨w.heap.size,0,none⟩)]])∧w'=w.alloc (.cells #[.slice ao n cap] 53):=by
 have a:∀ (fn:Fn) (first cap:Array Value) (w:World),(Instr.makeFunc fn first cap).run prog w=.ok (.func fn first cap) w:=fun _ _ _ _=>rfl
 go_enter func200,ntmps200
 go_wp2;go_ret2;exact⟨rfl,rfl⟩
theorem Zrd (b:Nat) (ao:Option Addr) (n cap:Nat) (w:World) (a:w.cell? ⟨b,0,none⟩=some (.slice ao n cap)):
 Calls prog 219 #[.pointer (some ⟨b,0,none⟩)] w fun e w'=>e=.returned (.int .i64 (n:Int))∧w'=w:=by
 go_enter func219,ntmps219
 go_wp2;go_ret;exact⟨rfl,rfl⟩
theorem Zre (x:Int) (d:Nat) (b:Nat) (v:Value) (m:List UInt8) (w:World) (c:Bb w b v) (n:Rd w v m) (B:d<=m.length) (g:d=0->x=0)
 (f:Calls prog 168 #[v] w fun e w'=>e=.returned (.tuple #[.int .i64 x,.int .i64 (d:Nat)])∧w'=w):
 Calls prog 218 #[.func (.func 168) #[] #[],.pointer (some ⟨b,0,none⟩)] w fun e w'=>∃ v',e=.returned (.tuple #[.int .i64 x,.bool (decide (d≠0))])∧Bb w' b v'∧Rd w' v' (behind d m)∧But b b w w':=by
 have l:=ZZ f;have k:=ZZ c;have u:=ZZ n;obtain⟨ao,cap,rfl,-⟩:=n;obtain⟨p,F⟩:=c.cell;by_cases a:d=0
 ·subst a
  obtain rfl:=g rfl;clear f c g
  go_enter func218,ntmps218
  go_wp2_with fail
  refine l.o.mono ?_;rintro e w' ⟨rfl,rfl⟩;go_wp2;go_ret2;exact⟨_,rfl,k.o.set _,Rd.nil _,(But.refl _ _ _).set _ _ (.inl rfl) _⟩
 ·have z:((d:Int) == 0)=false:=zad.2 (by omega)
  have j:=ZZ (ZhY w _ m u.o .i64 (d:Int) (by omega) (by omega))
  have q:Hid (behind d m=m.drop d):=zaa a;have t:Hid (decide (d≠0)=true):=zah a;rw[za9] at j;clear f c g a
  go_enter func218,ntmps218
  go_wp2_with fail
  refine l.o.mono ?_;rintro e w' ⟨rfl,rfl⟩
  go_wp2_with(refine ZfF _ rfl _ _ _ _ rfl _ j.o ?_)
  intro E i;have y:=ZZ i;obtain⟨C,A,rfl,-⟩:=i;generalize D:m.drop d=M at *;go_wp2;go_ret2;refine⟨_,by rw[t.o];rfl,k.o.set _,?_,(But.refl _ _ _).set _ _ (.inl rfl) _⟩
  rw[q.o];exact y.o.setBox p
theorem ZiN (x:Int) (d:Nat) (b:Nat) (v:Value) (m:List UInt8) (w:World) (c:Bb w b v) (n:Rd w v m) (B:d<=m.length) (g:d=0->x=0)
 (f:Calls prog 201 #[v] w fun e w'=>e=.returned (.tuple #[.int .i64 x,.int .i64 (d:Nat)])∧w'=w):
 Calls prog 218 #[.func (.func 201) #[] #[],.pointer (some ⟨b,0,none⟩)] w fun e w'=>∃ v',e=.returned (.tuple #[.int .i64 x,.bool (decide (d≠0))])∧Bb w' b v'∧Rd w' v' (behind d m)∧But b b w w':=by
 have l:=ZZ f;have k:=ZZ c;have u:=ZZ n;obtain⟨ao,cap,rfl,-⟩:=n;obtain⟨p,F⟩:=c.cell;by_cases a:d=0
 ·subst a
  obtain rfl:=g rfl;clear f c g
  go_enter func218,ntmps218
  go_wp2_with fail
  refine l.o.mono ?_;rintro e w' ⟨rfl,rfl⟩;go_wp2;go_ret2;exact⟨_,rfl,k.o.set _,Rd.nil _,(But.refl _ _ _).set _ _ (.inl rfl) _⟩
 ·have z:((d:Int) == 0)=false:=zad.2 (by omega)
  have j:=ZZ (ZhY w _ m u.o .i64 (d:Int) (by omega) (by omega))
  have q:Hid (behind d m=m.drop d):=zaa a;have t:Hid (decide (d≠0)=true):=zah a;rw[za9] at j;clear f c g a
  go_enter func218,ntmps218
  go_wp2_with fail
  refine l.o.mono ?_;rintro e w' ⟨rfl,rfl⟩
  go_wp2_with(refine ZfF _ rfl _ _ _ _ rfl _ j.o ?_)
  intro E i;have y:=ZZ i;obtain⟨C,A,rfl,-⟩:=i;generalize D:m.drop d=M at *;go_wp2;go_ret2;refine⟨_,by rw[t.o];rfl,k.o.set _,?_,(But.refl _ _ _).set _ _ (.inl rfl) _⟩
  rw[q.o];exact y.o.setBox p
def ZcR (X W:World):Prop:=W.heap=X.heap∧W.os=X.os∧W.tape=X.tape∧W.output=X.output
theorem ZcR.refl (X:World):ZcR X X:=⟨rfl,rfl,rfl,rfl⟩
theorem ZcR.drew (h:ZcR X W):ZcR X W.drew:=h
theorem ZcR.set (h:ZcR X W) (a:Addr) (v:Value):ZcR (X.setCell a v) (W.setCell a v):=by
 obtain⟨e,d,b,c⟩:=h;refine⟨?_,d,b,c⟩;simp only [World.setCell,e]
theorem ZcR.below (h:ZcR X W) (B:Nat):Below B X W:=⟨h.2.1,h.2.2.1,h.2.2.2,by rw[h.1];exact zat _,fun k _=>by rw[h.1]⟩
theorem ZcR.cell (h:ZcR X W) (a:Addr):W.cell? a=X.cell? a:=by simp only [World.cell?,h.1]
theorem ZcR.froz (h:ZcR X W) (a:Addr):W.frozen? a=X.frozen? a:=by simp only [World.frozen?,h.1]
def ZjT (w:World) (p:Nat × Nat):Prop:=(∃ x:Int,w.cell? ⟨p.1,p.2,none⟩=some (.int .i64 x))∧w.frozen? ⟨p.1,p.2,none⟩=false
theorem ZjT.set {p:Nat × Nat} (h:ZjT w p) (a:Nat × Nat) (n:Int):ZjT (w.setCell ⟨a.1,a.2,none⟩ (.int .i64 n)) p:=by
 obtain⟨⟨x,b⟩,c⟩:=h;refine⟨?_,by rw[World.frozen?_setCell];exact c⟩
 by_cases e:(⟨a.1,a.2,none⟩:Addr)=⟨p.1,p.2,none⟩
 ·rw[e]
  exact⟨n,zdb _ _ _ b⟩
 ·exact⟨x,by rw[zbh _ _ _ _ (fun h=>e h)];exact b⟩
theorem Rd.setNum (h:Rd w v m) {p:Nat × Nat} (z:ZjT w p) (x:Value):Rd (w.setCell ⟨p.1,p.2,none⟩ x) v m:=by
 obtain⟨u,t,A,n,g,k,a⟩:=h;refine⟨u,t,A,n,g,k,?_⟩;rcases a with a | ⟨c,f,l,i⟩
 ·exact .inl a
 ·refine .inr ⟨c,f,l,fun j q=>?_⟩
  have d:=i j q
  rw[zbh w ⟨p.1,p.2,none⟩ ⟨c,f+j,none⟩ x (fun e=>by
   obtain⟨⟨y,b⟩,-⟩:=z;rw[e,d] at b
   cases b)]
  exact d
def Y7 (w:World):List (Nat × Nat)->List Nat->World
 | p::ps,n::ns=>Y7 (w.setCell ⟨p.1,p.2,none⟩ (.int .i64 (n:Int))) ps ns
 | _,_=>w
theorem ZkH:∀ (w:World) (ps:List (Nat × Nat)) (ns:List Nat) (p:Nat × Nat) (n:Nat),ps.length=ns.length->Y7 w (ps++[p]) (ns++[n])=(Y7 w ps ns).setCell ⟨p.1,p.2,none⟩ (.int .i64 (n:Int))
 | w,[],[],p,n,_=>rfl
 | w,q::ps,m::ns,p,n,h=>by
  rw[zck,zck,Y7,ZkH _ ps ns p n (by simpa using h),Y7]
theorem ZnQ:∀ (w:World) (ps:List (Nat × Nat)) (ns:List Nat) {p:Nat × Nat},ZjT w p->ZjT (Y7 w ps ns) p
 | w,[],_,p,h=>by cases ‹List Nat› <;> exact h
 | w,q::ps,[],p,h=>h
 | w,q::ps,m::ns,p,h=>by
  rw[Y7];exact ZnQ _ ps ns (h.set q m)
theorem Zbh:∀ (w:World) (ps:List (Nat × Nat)) (ns:List Nat) (k:Nat),(∀ p ∈ ps,p.1≠k)->(Y7 w ps ns).heap[k]?=w.heap[k]?
 | w,[],ns,k,_=>by cases ns <;> rfl
 | w,q::ps,[],k,_=>rfl
 | w,q::ps,m::ns,k,h=>by
  rw[Y7,Zbh _ ps ns k (fun p a=>h p (by simp[a]))]
  exact zal _ _ _ _ (fun e=>h q (by simp) e.symm)
theorem Zbi:∀ (w:World) (ps:List (Nat × Nat)) (ns:List Nat) (B:Nat) (a:World),(∀ p ∈ ps,B<=p.1)->Below B a w->Below B a (Y7 w ps ns)
 | w,[],ns,B,a,_,h=>by cases ns <;> exact h
 | w,q::ps,[],B,a,_,h=>h
 | w,q::ps,m::ns,B,a,hp,h=>by
  rw[Y7];exact Zbi _ ps ns B a (fun p h=>hp p (by simp[h])) (h.setCell (hp q (by simp)) _)
def ZAt (w:World) (v:Value) (b:List UInt8) (ps:List (Nat × Nat)) (r:Option (List Nat × List UInt8)) (e:Ending) (w':World):Prop:=
 ∃ (v':Value) (l:List UInt8) (ns:List Nat),e=.returned (.tuple #[v',.bool r.isSome])∧(∀ W,Rd W v b->Rd W v' l)∧(r=none->l=[])∧(∀ x,r=some x->x=(ns,l))∧(∀ n ∈ ns,n<4611686018427387904)∧ns.length<=ps.length∧ZcR (Y7 w (ps.take ns.length) ns) w'
theorem Zrf:∀ (w:World) (ps:List (Nat × Nat)) (ns:List Nat) {v:Value} {m:List UInt8},(∀ p ∈ ps,ZjT w p)->Rd w v m->Rd (Y7 w ps ns) v m
 | w,[],ns,v,m,_,h=>by cases ns <;> exact h
 | w,q::ps,[],v,m,_,h=>h
 | w,q::ps,k::ns,v,m,hp,h=>by
  rw[Y7];exact Zrf _ ps ns (fun p a=>(hp p (by simp[a])).set q k) (h.setNum (hp q (by simp)) _)
theorem Zha (ao:Option Addr) (l:List UInt8) (cap:Nat) (f:l.length<=cap) (d:Nat) (g:d<=l.length):
 ∃ a b,(∀ W,(Instr.sliceAt 53 (.slice ao l.length cap) (some (.int .i64 (d:Int))) none none).run prog W=.ok (.slice a (l.drop d).length b) W)∧∀ W,Rd W (.slice ao l.length cap) l->Rd W (.slice a (l.drop d).length b) (l.drop d):=by
 have c:∃ a b,sliced ao d l.length cap 1=.slice a (l.length-d) b:=by
  unfold sliced;exact⟨_,_,rfl⟩
 obtain⟨a,b,c⟩:=c;refine⟨a,b,fun W=>?_,fun W h=>?_⟩
 ·rw[zb5 W 53 _ _ _ _ Xu,zfi W 53 ao l.length cap Xu .i64 (d:Int) (by omega) (by omega),Jo,Zce,length_drop,<-c]
  rfl
 ·rw[length_drop,<-c]
  have e:=h.mid d l.length cap g zL f zL;rw[zbc (by simp)] at e
  exact e
theorem ZsV {b:List UInt8} (h:(Qb b).2≠0):Zs (n+1) b=(Zs n (b.drop (Qb b).2)).map (fun r=>((Qb b).1::r.1,r.2)):=by rw[Zs,zaa h]
theorem ZsW {b:List UInt8} (h:(Qb b).2=0):Zs (n+1) b=none:=by rw[Zs,zab h]
theorem Zat (N:Nat) (ps:List (Nat × Nat)) (v:Value) (b:List UInt8) (w:World) (B:Rd w v b) (A:∀ p ∈ ps,ZjT w p∧p.1≠N) (aj:ps.length<=100)
 (R:w.heap[N]?=some (.cells (ps.map (fun p=>Value.pointer (some ⟨p.1,p.2,none⟩))).toArray 208 (0,0))) (k:Nat) (hk:k=ps.length):
 Calls prog 160 #[v,.slice (some ⟨N,0,none⟩) k k] w fun e w'=>ZAt w v b ps (Zs ps.length b) e w':=by
 subst hk;have U:=ZZ A
 have Q:Hid (∀ q,q<ps.length->w.cell? ⟨N,q,none⟩=some (.pointer (some ⟨(ps.getD q (0,0)).1,(ps.getD q (0,0)).2,none⟩))):=ZZ (fun q hq=>by
  rw[zam w N q _ _ _ R]
  simp[List.getD,hq])
 have V:Hid (∀ ns,(Y7 w (ps.take (List.length ns)) ns).heap[N]?=w.heap[N]?):=ZZ (fun ns=>Zbh w _ ns N (fun p E=>(A p (mem_of_mem_take E)).2))
 have L:=ZZ (fun v1 l W h=>ZcJ v1 l W h)
 have HR:Hid (∀ ns,Rd (Y7 w (ps.take (List.length ns)) ns) v b):=ZZ (fun ns=>Zrf w _ ns (fun p E=>(A p (mem_of_mem_take E)).1) B)
 obtain⟨S,M,hv⟩:∃ a c,v=.slice a b.length c:=by obtain⟨a,c,h,-⟩:=B;exact⟨a,c,h⟩
 subst hv;obtain⟨i,f⟩:=zgy (Zs ps.length b);rw[<-f]
 have O:Hid (i=(Zs (ps.length-0) b).map (fun r=>([]++r.1,r.2))):=ZZ (by
  rw[f,zef]
  cases Zs ps.length b <;> rfl)
 clear f A B R;have an:(ps.length:Int)<=100:=by omega
 go_enter func160,ntmps160
 go_wp2
 go_loopw[0,12] (fun vb H wr=>∃ (q:Nat) (ns:List Nat) (b':List UInt8) (a:Option Addr) (c:Nat),H=.int .i64 (q:Int)∧vb=.slice a b'.length c∧q<=ps.length∧ns.length=q∧Hid (∀ W,Rd W (.slice S b.length M) b->Rd W (.slice a b'.length c) b')∧Hid (ZcR (Y7 w (ps.take ns.length) ns) wr)∧Hid (∀ n ∈ ns,n<4611686018427387904)∧Hid (i=(Zs (ps.length-q) b').map (fun r=>(ns++r.1,r.2)))) (fun _ H _=>ps.length-(intOf H).toNat)
 case atStart=>exact⟨0,[],b,S,M,rfl,rfl,zai _,rfl,ZZ (fun W h=>h),ZZ (by rw[zcr,List.take_zero];exact ZcR.refl w),ZZ (fun n h=>by simp at h),O⟩
 case round=>
  clear O;obtain⟨q,ns,b',a,c,rfl,rfl,hq,C,J,g,F,f⟩:=hrel;have hR:Hid (Rd wr (.slice a b'.length c) b'):=ZZ (J.out wr ((HR.o ns).below (g.out.below (Y7 w (ps.take ns.length) ns).heap.size) zL));have u:=ZZ C;by_cases j:q<ps.length
  case neg=>
   obtain rfl:q=ps.length:=by omega
   have t:Hid (i=some (ns,b')):=ZZ (by
    rw[f.out,Nat.sub_self]
    simp[Zs])
   clear C;go_wp2;go_ret2;rw[t.o];exact⟨_,b',ns,rfl,J.out,(fun h=>by cases h),(fun x h=>by injection h with h;exact h.symm),F.out,by rw[u.o];exact zat _,g.out⟩
  have am:(q:Int)<(ps.length:Int):=by omega
  have af:ps.length-q=(ps.length-(q+1))+1:=by omega
  have ae:wr.cell? ⟨N,q,none⟩=some (.pointer (some ⟨(ps.getD q (0,0)).1,(ps.getD q (0,0)).2,none⟩)):=by
   rw[g.out.cell];exact(zb2 (a:=⟨N,q,none⟩) (V.o ns)).trans (Q.o q j)
  have P:ps.getD q (0,0) ∈ ps:=by
   rw[show ps.getD q (0,0)=ps[q] by simp[List.getD,j]]
   exact zcs j
  have I:ZjT (Y7 w (ps.take ns.length) ns) (ps.getD q (0,0)):=ZnQ w _ ns (U.o _ P).1
  have aa:ZjT wr (ps.getD q (0,0)):=⟨by
   obtain⟨x,hx⟩:=I.1
   exact⟨x,by rw[g.out.cell];exact hx⟩,by rw[g.out.froz];exact I.2⟩
  have X:Hid (∀ n:Nat,Y7 w (ps.take (ns++[n]).length) (ns++[n])=(Y7 w (ps.take ns.length) ns).setCell ⟨(ps.getD q (0,0)).1,(ps.getD q (0,0)).2,none⟩ (.int .i64 (n:Int))):=ZZ (fun n=>by
   have e1:ps.take (ns++[n]).length=ps.take ns.length++[ps.getD q (0,0)]:=by
    rw[length_append,zcm,u.o,zb4,za3 j];simp[List.getD,j]
   rw[e1,ZkH w _ ns _ n (by rw[zbt,u.o];omega)])
  have al:=ZZ aa;obtain⟨⟨x0,ab⟩,ai⟩:=aa;clear P I Q V U C;generalize ps.getD q (0,0)=p at *;obtain⟨pb,po⟩:=p
  dsimp only at ae ab ai X
  have Y:=ZZ (L.o _ b' wr hR.out);have ac:=Ju b'
  have ag:(Qb b').1<4611686018427387904:=by
   rcases Xf b' with h | h
   ·rw[h];decide
   ·exact h.1
  have D:=ZZ (ZsV (n:=ps.length-(q+1)) (b:=b'));have G:=ZZ (ZsW (n:=ps.length-(q+1)) (b:=b'));rw[<-af] at D G;have T:=ZZ (fun d z=>Zha a b' c (by obtain⟨a',c',h,h2,-⟩:=hR.out;simp only [za1] at h;omega) d z)
  generalize (Qb b').2=d at *;generalize (Qb b').1=n at *;clear L;by_cases z:d=0
  ·subst z
   have t:Hid (i=none):=ZZ (by rw[f.out,G.o rfl];rfl)
   go_wp2_with fail
   refine Y.o.mono ?_;rintro e K ⟨rfl,y⟩;rw[y];clear y K;go_wp2;go_ret2;rw[t.o];exact⟨_,[],ns,rfl,(fun W _=>Rd.nil W),(fun _=>rfl),(fun x h=>by cases h),F.out,by rw[u.o];omega,g.out⟩
  ·have ak:((d:Int) == 0)=false:=zad.2 (by omega)
   obtain⟨xa,xc,hcut,Z⟩:=T.o d ac;have ad:=ZZ Z
   have t:Hid (i=(Zs (ps.length-(q+1)) (b'.drop d)).map (fun r=>((ns++[n])++r.1,r.2))):=ZZ (by
    rw[f.out,D.o z]
    cases Zs (ps.length-(q+1)) (b'.drop d) with
    | none=>rfl
    | some r=>simp)
   clear Z D G f z T;generalize b'.drop d=b2 at *
   go_wp2_with fail
   refine Y.o.mono ?_;rintro e K ⟨rfl,y⟩;rw[y];clear y K;go_wp2
   go_region
   all_goals
    go_wp2;go_roundw
    case rel=>exact⟨q+1,ns++[n],b2,xa,xc,by go_num,rfl,by omega,by rw[length_append,zcm,u.o],ZZ (fun W h=>ad.o W (J.out W h)),ZZ (by rw[X.o];exact g.out.drew.set _ _),ZZ (fun m hm=>by
     rcases zaw.1 hm with h | h
     ·exact F.out m h
     ·rw[zaq.1 h];exact ag),t⟩
    case measure=>simp[intOf];omega
def ZjU (b:List UInt8):Option (Ent × List UInt8):=
 match Zs 2 b with
 | none=>none
 | some (ns,l)=>if(Qe l).2=0 then none else some (⟨((ns.getD 0 0:Nat):Int),((ns.getD 1 0:Nat):Int),zag (Qe l).1⟩,l.drop (Qe l).2)
theorem ZeS (b:List UInt8):Zs 1 b=if(Qb b).2=0 then none else some ([(Qb b).1],b.drop (Qb b).2):=rfl
theorem ZiO (b:List UInt8):Zs 2 b=if(Qb b).2=0 then none else if(Qb (b.drop (Qb b).2)).2=0 then none else some ([(Qb b).1,(Qb (b.drop (Qb b).2)).1],(b.drop (Qb b).2).drop (Qb (b.drop (Qb b).2)).2):=by
 rw[Zs];split
 ·rfl
 ·rw[ZeS]
  split <;> rfl
theorem ZpV (n:Nat) (b:List UInt8):Jx (n+1) b=(ZjU b).bind (fun y=>(Jx n y.2).map (fun r=>(y.1::r.1,r.2))):=by
 have h:Jx (n+1) b=if(Qb b).2=0∨(Qb (b.drop (Qb b).2)).2=0∨(Qe (b.drop ((Qb b).2+(Qb (b.drop (Qb b).2)).2))).2=0 then none
  else(Jx n (b.drop ((Qb b).2+(Qb (b.drop (Qb b).2)).2+(Qe (b.drop ((Qb b).2+(Qb (b.drop (Qb b).2)).2))).2))).map (fun r=>(⟨(Qb b).1,(Qb (b.drop (Qb b).2)).1,zag (Qe (b.drop ((Qb b).2+(Qb (b.drop (Qb b).2)).2))).1⟩::r.1,r.2)):=rfl
 rw[h];unfold ZjU;rw[ZiO];by_cases c:(Qb b).2=0
 ·rw[zab (.inl c),zab c]
  rfl
 rw[zaa c];by_cases d:(Qb (b.drop (Qb b).2)).2=0
 ·rw[zab (.inr (.inl d)),zab d]
  rfl
 rw[zaa d];simp only [drop_drop];by_cases a:(Qe (b.drop ((Qb b).2+(Qb (b.drop (Qb b).2)).2))).2=0
 ·rw[zab (.inr (.inr a)),zab a]
  rfl
 ·rw[zaa (by omega),zaa a]
  rfl
def ZAu (w:World) (v:Value) (b:List UInt8) (e:Ending) (w':World):Prop:=
 ∃ (x:Ent) (v':Value) (l:List UInt8),e=.returned (.tuple #[Zsj x,v',.bool (ZjU b).isSome])∧Zlx x∧(∀ W,Rd W v b->Rd W v' l)∧(∀ y,ZjU b=some y->y=(x,l))∧Below w.heap.size w w'
theorem ZsX:Qe []=(0,0):=by decide
theorem Zzb {R:Nat} (h:Be W R #[.int .i64 0,.int .i64 0,.int .i64 0]) (ns:List Nat) (e:ns.length<=2) (a:∀ n ∈ ns,n<4611686018427387904):
 ∃ x y:Int,Be (Y7 W ([(R,0),(R,1)].take ns.length) ns) R #[.int .i64 x,.int .i64 y,.int .i64 0]∧I64 x∧I64 y∧(ns.length=2->x=((ns.getD 0 0:Nat):Int)∧y=((ns.getD 1 0:Nat):Int)):=by
 have b:I64 0:=Qo (by decide) (by decide)
 match ns,e,a with
 | [],_,_=>exact⟨0,0,h,b,b,fun h=>absurd h (by simp)⟩
 | [n],_,a=>
  have:=a n (by simp)
  refine⟨(n:Int),0,?_,⟨by omega,by omega⟩,b,fun h=>absurd h (by simp)⟩
  have c:=zba W R 0 _ _ (.int .i64 (n:Int)) h;exact c
 | [n,m],_,a=>
  have f:=a n (by simp)
  have c:=a m (by simp)
  refine⟨(n:Int),(m:Int),?_,⟨by omega,by omega⟩,⟨by omega,by omega⟩,fun _=>⟨rfl,rfl⟩⟩
  have d:=zba W R 0 _ _ (.int .i64 (n:Int)) h;exact zba _ R 1 _ _ (.int .i64 (m:Int)) d
theorem ZiP (w:World) (x y z:Obj):((((w.alloc x).alloc y).alloc z).heap[w.heap.size]?=some x∧(((w.alloc x).alloc y).alloc z).heap[w.heap.size+1]?=some y∧(((w.alloc x).alloc y).alloc z).heap[w.heap.size+2]?=some z):=by
 refine⟨?_,?_,?_⟩
 ·exact((zao _ _ _ (by simp;omega)).trans (zao _ _ _ (by simp))).trans (zaf w x)
 ·refine(zao _ _ _ (by simp)).trans ?_
  have:=zaf (w.alloc x) y;simpa using this
 ·have:=zaf ((w.alloc x).alloc y) z
  simpa using this
theorem Be.set (h:Be w b cs) (j:Nat) (x:Value):Be (w.setCell ⟨b,j,none⟩ x) b (cs.setIfInBounds j x):=by
 have:=zba w b j _ _ x h;unfold Be;simpa using this
theorem Be.other {c:Nat} (h:Be w b cs) (j:Nat) (x:Value) (a:b≠c):Be (w.setCell ⟨c,j,none⟩ x) b cs:=(zal _ _ _ _ a).trans h
theorem Zxy {C:Nat} {b:World} (h:Below C b w) (R:Nat) (a:C<=R) (e d c:Value):Below C b (((w.setCell ⟨R,0,none⟩ e).setCell ⟨R,1,none⟩ d).setCell ⟨R,2,none⟩ c):=
 ((h.setCell a _).setCell a _).setCell a _
theorem ZnR (v:Value) (b:List UInt8) (w:World) (A:Rd w v b):
 Calls prog 202 #[v] w fun e w'=>ZAu w v b e w':=by
 obtain⟨f,C⟩:=zgy (((w.alloc (.cells #[.int .i64 0,.int .i64 0,.int .i64 0] 85)).alloc (.cells #[.int .i64 0,.int .i64 0,.int .i64 0] 85)).alloc (.cells #[.pointer (some ⟨w.heap.size+1,0,none⟩),.pointer (some ⟨w.heap.size+1,1,none⟩)] 208));have h3:=ZiP w (.cells #[.int .i64 0,.int .i64 0,.int .i64 0] 85) (.cells #[.int .i64 0,.int .i64 0,.int .i64 0] 85) (.cells #[.pointer (some ⟨w.heap.size+1,0,none⟩),.pointer (some ⟨w.heap.size+1,1,none⟩)] 208);rw[<-C] at h3;obtain⟨hA,hB,hC⟩:=h3;have G:Hid (Below w.heap.size w f):=ZZ (by rw[C];exact(((zac _ _).alloc zL _).alloc (by simp) _).alloc (by simp;omega) _)
 have K:Be f w.heap.size #[.int .i64 0,.int .i64 0,.int .i64 0]:=hA;have n:Be f (w.heap.size+1) #[.int .i64 0,.int .i64 0,.int .i64 0]:=hB;have aw:=ZZ K
 have Z:=ZZ (Zat (w.heap.size+1+1) [(w.heap.size+1,0),(w.heap.size+1,1)] v b f (A.below G.o zL) (fun p j=>by
  simp only [mem_cons,zc9,zf6] at j;rcases j with rfl | rfl
  ·exact⟨⟨⟨0,(n.cell 0).1⟩,(n.cell 0).2⟩,by simp⟩
  ·exact⟨⟨⟨0,(n.cell 1).1⟩,(n.cell 1).2⟩,by simp⟩) (by simp) hC 2 rfl)
 have U:=ZZ (fun ns=>Zzb n ns)
 have aj:Hid (∀ ns,Below w.heap.size w (Y7 f ([(w.heap.size+1,0),(w.heap.size+1,1)].take (List.length ns)) ns)):=ZZ (fun ns=>Zbi f _ ns _ w (fun p j=>by
  have:=mem_of_mem_take j;simp only [mem_cons,zc9,zf6] at this
  rcases this with rfl | rfl <;> simp) G.o)
 have ao:Hid (∀ ns,Be (Y7 f ([(w.heap.size+1,0),(w.heap.size+1,1)].take (List.length ns)) ns) w.heap.size #[.int .i64 0,.int .i64 0,.int .i64 0]):=ZZ (fun ns=>(Zbh f _ ns _ (fun p j=>by
  have:=mem_of_mem_take j;simp only [mem_cons,zc9,zf6] at this
  rcases this with rfl | rfl <;> simp)).trans K)
 have P:=ZZ (fun O l W h=>Zak O l W h)
 have B:Hid (ZjU b=match Zs [(w.heap.size+1,0),(w.heap.size+1,1)].length b with | none=>none | some (ns,l)=>if(Qe l).2=0 then none else some (⟨((ns.getD 0 0:Nat):Int),((ns.getD 1 0:Nat):Int),zag (Qe l).1⟩,l.drop (Qe l).2)):=ZZ rfl
 have S:Hid (∀ ns l,Zs [(w.heap.size+1,0),(w.heap.size+1,1)].length b=some (ns,l)->ns.length=2):=ZZ (fun ns l h=>by
  have d:Zs 2 b=some (ns,l):=h;rw[ZiO] at d;split at d
  ·cases d
  split at d
  ·cases d
  injection d with d
  injection d with d _
  rw[<-d]
  rfl)
 unfold ZAu;obtain⟨m,ae⟩:=zgy (ZjU b);rw[<-ae] at B ⊢;obtain⟨ok,H⟩:=zgy m.isSome;rw[<-H];have I:=ZZ H;clear H;generalize Zs [(w.heap.size+1,0),(w.heap.size+1,1)].length b=GL at *;have ax:=ZZ A;obtain⟨va,vc,hv⟩:∃ a c,v=.slice a b.length c:=by obtain⟨a,c,h,-⟩:=A;exact⟨a,c,h⟩
 subst hv;clear A hA hB hC K n ae
 go_enter func202,ntmps202
 go_wp2_with fail
 rw[<-C];refine Z.o.mono ?_;rintro e g ⟨O,l,ns,rfl,E,aa,J,T,ac,D⟩;obtain⟨x,y,ab,al,ad,R⟩:=U.o ns ac T;have L:Hid (Be g (w.heap.size+1) #[.int .i64 x,.int .i64 y,.int .i64 0]):=ZZ (ab.below (D.below (Y7 f ([(w.heap.size+1,0),(w.heap.size+1,1)].take ns.length) ns).heap.size) zL);have Y:Hid (Be g w.heap.size #[.int .i64 0,.int .i64 0,.int .i64 0]):=ZZ ((ao.o ns).below (D.below (Y7 f ([(w.heap.size+1,0),(w.heap.size+1,1)].take ns.length) ns).heap.size) zL);have M:Hid (Below w.heap.size w g):=ZZ ((aj.o ns).trans (D.below _));have u:=ZZ (E g (ax.o.below M.o zL));have au:=ZZ E;obtain⟨a1,c1,av⟩:∃ a c,O=.slice a l.length c:=by obtain⟨a,c,h,-⟩:=u.o;exact⟨a,c,h⟩
 subst av
 have Q:l.length<=c1:=by
  obtain⟨a',c',h,d,-⟩:=u.o;simp only [za1] at h;omega
 have am:=ZZ (P.o _ l g u.o);have aq:=G0 l;have ai:I64 (zag (Qe l).1):=ZoL (Zle l);obtain⟨xa,xc,hcut,an⟩:=Zha a1 l c1 Q (Qe l).2 aq;have ap:=ZZ (fun W h=>an W (au.o W h))
 have N:Hid (m.isSome=decide (0<(Qe l).2)):=ZZ (by
  rw[B.o]
  cases GL with
  | none=>rw[aa rfl,ZsX];rfl
  | some p=>
   have:=J p rfl;subst this
   dsimp only
   by_cases h:(Qe l).2=0
   ·rw[zab h,h];rfl
   ·rw[zaa h,zah (by omega)];rfl)
 have ar:Hid (∀ z,m=some z->z=(⟨x,y,zag (Qe l).1⟩,l.drop (Qe l).2)):=ZZ (fun z i=>by
  rw[B.o] at i
  cases GL with
  | none=>cases i
  | some p=>
   have:=J p rfl;subst this;obtain⟨h1,d⟩:=R (S.o ns l rfl)
   dsimp only at i
   split at i
   ·cases i
   ·injection i with i
    rw[<-i,h1,d])
 have az:Hid (Zlx ⟨x,y,zag (Qe l).1⟩):=ZZ ⟨al,ad,ai⟩;clear E aa J T ac D ab R B S aj ao U Z P an Q G aw C al ad ai;generalize zag (Qe l).1=z at *;generalize (Qe l).2=k at *;generalize l.drop k=X at *;have ak:m.isSome=decide ((0:Int)<(k:Int)):=by rw[N.o];exact zcd.2 (by omega)
 rw[<-I.o] at ak;have ay:Hid (decide (0<k)=ok):=ZZ (by rw[I.o,N.o])
 clear I ak N
 go_wp2_with fail
 refine am.o.mono ?_;rintro e W2 ⟨rfl,V⟩;rw[V];clear V W2 am;have q:Hid (Be (g.setCell ⟨w.heap.size+1,2,none⟩ (.int .i64 z)) (w.heap.size+1) #[.int .i64 x,.int .i64 y,.int .i64 z]):=ZZ (L.o.set 2 _);have t:Hid (Be (g.setCell ⟨w.heap.size+1,2,none⟩ (.int .i64 z)) w.heap.size #[.int .i64 0,.int .i64 0,.int .i64 0]):=ZZ (Y.o.other 2 _ (by omega))
 obtain⟨e2,f2⟩:=L.o.cell 2;have F:Hid (Below w.heap.size w (g.setCell ⟨w.heap.size+1,2,none⟩ (.int .i64 z))):=ZZ (M.o.setCell (zdi _) _)
 go_upto_region 5 with fail
 obtain⟨W3,ag⟩:=zgy (g.setCell ⟨w.heap.size+1,2,none⟩ (.int .i64 z));rw[<-ag] at q t F ⊢;clear ag e2 f2 L Y M u;obtain⟨x0,g0⟩:=q.o.cell 0;obtain⟨x1,g1⟩:=q.o.cell 1;obtain⟨x2,g2⟩:=q.o.cell 2;obtain⟨y0,m0⟩:=t.o.cell 0;obtain⟨y1,m1⟩:=t.o.cell 1;obtain⟨y2,m2⟩:=t.o.cell 2;have aB:¬ (w.heap.size=w.heap.size+1):=by omega
 have aC:¬ (w.heap.size+1=w.heap.size):=by omega
 have af:=Zxy F.o.drew w.heap.size zL (.int .i64 x) (.int .i64 y) (.int .i64 z);have aA:=ZZ af;clear af F t q
 go_region
 all_goals
  go_wp2;refine zap (v:=.tuple #[.agg #[.int .i64 x,.int .i64 y,.int .i64 z],.slice xa X.length xc,.bool ok]) (by simp[results,Tryz.results202,go_sem,y0,y1,y2,ay.o]) rfl ?_
  exact⟨⟨x,y,z⟩,_,X,rfl,az.o,ap.o,ar.o,aA.o⟩
def Zzc (w:World) (TL:Option (List Ent)) (e:Ending) (w':World):Prop:=
 ∃ vt t,e=.returned (.tuple #[vt,.bool TL.isSome])∧Xn w' w.heap.size vt t∧(∀ e ∈ t,Zlx e)∧(∀ t',TL=some t'->t=t')∧Below w.heap.size w w'
def ZzQ (v6 v7:Value):Nat:=
 match v7 with
 | .bool true=>(match v6 with
  | .slice _ n _=>n+1
  | _=>0)
 | _=>0
theorem ZsY {b:List UInt8} {y:Ent × List UInt8} (h:ZjU b=some y):y.2.length+1<=b.length:=by
 unfold ZjU at h;rw[ZiO] at h;split at h
 ·cases h
 ·rename_i ns l a
  split at a
  ·cases a
  ·rename_i e
   split at a
   ·cases a
   ·injection a with a
    injection a with _ hl
    split at h
    ·cases h
    ·rename_i c
     injection h with h
     rw[<-h];have d:=G0 l;show(l.drop _).length+1<=_;rw[length_drop]
     have f:l.length<=b.length:=by
      rw[<-hl,length_drop,length_drop];omega
     omega
theorem Zxz (w:World) (x y:Obj):((w.alloc x).alloc y).heap[w.heap.size]?=some x∧((w.alloc x).alloc y).heap[w.heap.size+1]?=some y:=by
 refine⟨(zao _ _ _ (by simp)).trans (zaf w x),?_⟩
 have:=zaf (w.alloc x) y;simpa using this
theorem ZiQ {b:List UInt8} {ns:List Nat} (h:Zs 1 b=some (ns,l)):(Qb b).2≠0∧ns=[(Qb b).1]∧l=b.drop (Qb b).2:=by
 rw[ZeS] at h;split at h
 ·cases h
 ·rename_i a
  injection h with h
  injection h with h2 h3
  exact⟨a,h2.symm,h3.symm⟩
theorem ZiR {b:List UInt8} (h:Zs 1 b=none):(Qb b).2=0:=by
 rw[ZeS] at h;split at h
 ·assumption
 ·cases h
theorem Xn.butD {B R:Nat} {l:List Ent} (h:Xn w B v l) (f:But R T w w') (j:∀ b,v.ownBlock=some b->b≠R∧b≠T):Xn w' B v l:=by
 rcases h.row with ⟨rfl,rfl⟩ | ⟨g,cap,cur,rfl,a,d,c,e,m,k,i⟩
 ·exact Xn.nil _ _
 ·have:=j g rfl
  exact Xn.ofRow rfl a ((f.block g d this.1 this.2).trans c) e m k i
theorem Zmb (v:Value) (b:List UInt8) (w:World) (M:Rd w v b) (ba:b.length<=100000):
 Calls prog 165 #[v] w fun e w'=>Zzc w (Zbe b) e w':=by
 obtain⟨q,Q⟩:=zgy ((w.alloc (.cells #[.int .i64 0] 3)).alloc (.cells #[.pointer (some ⟨w.heap.size,0,none⟩)] 208));have h2:=Zxz w (.cells #[.int .i64 0] 3) (.cells #[.pointer (some ⟨w.heap.size,0,none⟩)] 208);rw[<-Q] at h2;obtain⟨R,hC⟩:=h2;have ag:Hid (Below w.heap.size w q):=ZZ (by rw[Q];exact((zac _ _).alloc zL _).alloc (by simp) _)
 have aj:=ZZ (Zat (w.heap.size+1) [(w.heap.size,0)] v b q (M.below ag.o zL) (fun p hp=>by
  rw[zaq.1 hp]
  exact⟨⟨⟨0,zam q w.heap.size 0 _ _ _ R⟩,za2 q w.heap.size 0 _ _ R⟩,by simp⟩) (by simp) hC 1 rfl)
 have aS:Hid (∀ n:Nat,(q.setCell ⟨w.heap.size,0,none⟩ (.int .i64 (n:Int))).cell? ⟨w.heap.size,0,none⟩=some (.int .i64 (n:Int))):=ZZ (fun n=>zdb _ _ _ (zam q w.heap.size 0 _ _ _ R))
 have aL:Hid (∀ ns,Below w.heap.size w (Y7 q ([(w.heap.size,0)].take (List.length ns)) ns)):=ZZ (fun ns=>Zbi q _ ns _ w (fun p hp=>by
  have:=mem_of_mem_take hp;rw[zaq.1 this]
  exact zat _) ag.o)
 have a9:=ZZ (fun v1 l W h=>ZnR v1 l W h)
 have L:=ZZ (Znj (b:=b));have N:Hid ((Qb b).2=0->Zbe b=none):=ZZ (fun h=>by unfold Zbe;rw[zab (.inl h)])
 have ac:=ZZ (fun ns l h=>ZiQ (b:=b) (ns:=ns) (l:=l) h)
 have ap:=ZZ (fun h=>ZiR (b:=b) h)
 have hd:=Ju b
 have bj:(Qb b).1<4611686018427387904:=by
  rcases Xf b with h | h
  ·rw[h];decide
  ·exact h.1
 have aA:Hid ([(w.heap.size,0)].length=1):=ZZ rfl;rw[aA.o] at aj;generalize Zs 1 b=GL at *;obtain⟨I,aw⟩:=zgy (Zbe b);rw[<-aw] at L N ⊢;clear aw;have ar:=ZZ M;obtain⟨va,vc,hv⟩:∃ a c,v=.slice a b.length c:=by obtain⟨a,c,h,-⟩:=M;exact⟨a,c,h⟩
 subst hv;clear M R hC aA
 go_enter func165,ntmps165
 go_wp2_with fail
 rw[<-Q];refine aj.o.mono ?_;rintro e g ⟨v1,l,ns,rfl,au,al,aq,ax,aE,T⟩;have i:Hid (Below w.heap.size w g):=ZZ ((aL.o ns).trans (T.below _));have aI:=ZZ au;obtain⟨a1,c1,a0⟩:∃ a c,v1=.slice a l.length c:=by obtain⟨a,c,h,-⟩:=au g (ar.o.below i.o zL);exact⟨a,c,h⟩
 subst a0;clear aj aL ag Q
 cases GL with
 | none=>
  have j:=ZZ (N.o (ap.o rfl));have aY:=al rfl;subst aY;clear al aq ax aE T L N ap ac;show _;go_wp2
  go_loopw[4,6,7] (fun v4 J D wr=>v4=.slice none 0 0∧D=.bool false∧Hid (Below w.heap.size w wr)) (fun _ J D _=>ZzQ J D)
  case atStart=>exact⟨rfl,rfl,i⟩
  case round=>
   obtain⟨rfl,rfl,m⟩:=hrel;go_wp2;go_ret2;rw[j.o];exact⟨_,[],rfl,Xn.nil _ _,(fun r h=>by simp at h),(fun t h=>by cases h),m.out⟩
 | some gp=>
  have:=aq gp rfl;subst this;obtain⟨g1,g2,g3⟩:=ac.o _ _ rfl;subst g2;have O:=ZZ (L.o g1);rw[<-g3] at O;have bf:l.length<=b.length:=by rw[g3,length_drop];omega
  have ab:g.cell? ⟨w.heap.size,0,none⟩=some (.int .i64 ((Qb b).1:Int)):=by
   rw[T.cell];exact aS.o _
  have aZ:=ZZ ab;have aT:w.heap.size<g.heap.size:=zau g ⟨w.heap.size,0,none⟩ ab;generalize (Qb b).1=f at *;clear al aq ax aE T L N ap ac g1 g3 hd aS ab;obtain⟨u,ai⟩:=zgy (Jx f l);rw[<-ai] at O
  have aH:Hid (u=(Jx (f-0) l).map (fun r=>([]++r.1,r.2))):=ZZ (by
   rw[ai,zef]
   cases Jx f l <;> rfl)
  clear ai;go_wp2
  go_loopw[4,6,7] (fun v4 J D wr=>∃ (t:List Ent) (d:List UInt8) (Z:Option Addr) (Y:Nat) (K:Bool),J=.slice Z d.length Y∧D=.bool K∧t.length<=b.length+1∧Hid (K=true->t.length+d.length<=b.length∧t.length<=f)∧Hid (Xn wr g.heap.size v4 t)∧Hid (∀ e ∈ t,Zlx e)∧Hid (∀ W,Rd W (.slice va b.length vc) b->Rd W (.slice Z d.length Y) d)∧Hid (K=true->u=(Jx (f-t.length) d).map (fun r=>(t++r.1,r.2)))∧Hid (K=false->u=none)∧Hid (Below g.heap.size g wr)) (fun _ J D _=>ZzQ J D)
  case atStart=>exact⟨[],l,a1,c1,true,rfl,rfl,by simp,ZZ (fun _=>⟨by simp;omega,zai _⟩),ZZ (Xn.nil _ _),ZZ (fun e h=>by simp at h),aI,ZZ (fun _=>aH.o),ZZ (fun h=>by cases h),zac _ _⟩
  case round=>
   clear aH aI;obtain⟨t,d,Z,Y,K,rfl,rfl,bc,hL,E,P,hV,hT,hN,m⟩:=hrel;have hR:Hid (Rd wr (.slice Z d.length Y) d):=ZZ (hV.out wr ((ar.o.below i.o zL).below m.out zL));obtain⟨oa,oc,a8⟩:=E.out.shape;subst a8;have be:wr.cell? ⟨w.heap.size,0,none⟩=some (.int .i64 (f:Int)):=(m.out.cell (p:=⟨w.heap.size,0,none⟩) aT).trans aZ.o
   cases K with
   | false=>
    have j:Hid (I=none):=ZZ (by rw[O.o,hN.out rfl];rfl)
    go_wp2;go_ret2;rw[j.o];exact⟨_,t,rfl,E.out.mono i.o.size,P.out,(fun t h=>by cases h),i.o.trans (m.out.mono i.o.size)⟩
   | true=>
    obtain⟨bi,bd⟩:=hL.out rfl;by_cases bb:t.length<f
    case neg=>
     have bk:¬ (t.length:Int)<(f:Int):=by omega
     have aV:Hid (u=some (t,d)):=ZZ (by
      rw[hT.out rfl,show f-t.length=0 by omega]
      simp[Jx])
     have aQ:Hid (I=if d=[] then some t else none):=ZZ (by rw[O.o,aV.o];rfl)
     by_cases S:d.length=0
     ·have j:Hid (I=some t):=ZZ (by rw[aQ.o,zab (zaj S)])
      have aW:((d.length:Int) == 0)=true:=by rw[za8];omega
      clear S;go_wp2;go_ret2;rw[j.o];exact⟨_,t,rfl,E.out.mono i.o.size,P.out,(fun t' h=>by injection h),i.o.trans (m.out.mono i.o.size)⟩
     ·have j:Hid (I=none):=ZZ (by
       rw[aQ.o,zaa (fun e=>S (by rw[e];rfl))])
      have aW:((d.length:Int) == 0)=false:=zad.2 (by omega)
      clear S;go_wp2;go_ret2;rw[j.o];exact⟨_,t,rfl,E.out.mono i.o.size,P.out,(fun t' h=>by cases h),i.o.trans (m.out.mono i.o.size)⟩
    have bg:(t.length:Int)<(f:Int):=by omega
    have aO:f-t.length=(f-(t.length+1))+1:=by omega
    have ad:Hid (u=((ZjU d).bind (fun y=>(Jx (f-(t.length+1)) y.2).map (fun r=>(y.1::r.1,r.2)))).map (fun r=>(t++r.1,r.2))):=ZZ (by
     rw[hT.out rfl,aO,ZpV])
    have aC:=ZZ (fun y h=>ZsY (b:=d) (y:=y) h)
    have X:=ZZ (a9.o _ d (wr.alloc (.cells #[.int .i64 0,.int .i64 0,.int .i64 0] 85)) (hR.out.below ((zac _ _).alloc zL _) zL));have an:Hid (Below g.heap.size g (wr.alloc (.cells #[.int .i64 0,.int .i64 0,.int .i64 0] 85))):=ZZ (m.out.alloc m.out.size _);have aN:Hid (Be (wr.alloc (.cells #[.int .i64 0,.int .i64 0,.int .i64 0] 85)) wr.heap.size #[.int .i64 0,.int .i64 0,.int .i64 0]):=ZZ (zaf wr _);have aB:Hid (Xn (wr.alloc (.cells #[.int .i64 0,.int .i64 0,.int .i64 0] 85)) g.heap.size (.slice oa t.length oc) t):=ZZ (E.out.below ((zac _ _).alloc zL _) zL);have am:Hid (∀ k,(Value.slice oa t.length oc).ownBlock=some k->k<wr.heap.size):=ZZ (fun k hk=>(zar E.out k hk).2)
    obtain⟨SS,az⟩:=zgy (ZjU d);unfold ZAu at X;rw[<-az] at ad aC X;have ak:=m.out.size;clear az hT hN hL hR E m aO
    go_wp2_with fail
    refine X.o.mono ?_;rintro e W2 ⟨x,v2,F,rfl,aP,aR,a6,V⟩;have G:=ZZ (aN.o.below V zL);have af:=ZZ (an.o.trans (V.mono an.o.size));have aF:=ZZ (aB.o.below V zL);have a7:=ZZ aP;have ao:=ZZ (fun W h=>aR W (hV.out W h))
    obtain⟨a3,c3,a4⟩:∃ a c,v2=.slice a F.length c:=by obtain⟨a,c,h,-⟩:=ao.o g (ar.o.below i.o zL);exact⟨a,c,h⟩
    subst a4;obtain⟨B,C,A⟩:=x;obtain⟨e0,f0⟩:=G.o.cell 0;obtain⟨e1,f1⟩:=G.o.cell 1;obtain⟨e2,f2⟩:=G.o.cell 2;obtain⟨z,av⟩:=zgy wr.heap.size;rw[<-av] at G am e0 e1 e2 f0 f1 f2 ak ⊢;clear av;obtain⟨H,U⟩:=zgy (((W2.setCell ⟨z,0,none⟩ (.int .i64 B)).setCell ⟨z,1,none⟩ (.int .i64 C)).setCell ⟨z,2,none⟩ (.int .i64 A));have aa:Hid (Be H z #[.int .i64 B,.int .i64 C,.int .i64 A]):=ZZ (by rw[U];exact((G.o.set 0 _).set 1 _).set 2 _)
    have ae:Hid (But z z W2 H):=ZZ (by rw[U];exact(((But.refl _ _ _).set _ _ (.inl rfl) _).set _ _ (.inl rfl) _).set _ _ (.inl rfl) _)
    have aX:Hid (Xn H g.heap.size (.slice oa t.length oc) t):=ZZ (aF.o.butD ae.o (fun k hk=>by have:=am.o k hk;omega))
    have aM:=ZZ (Zaf af.o ae.o af.o.size ak ak);have aU:g.heap.size<=H.heap.size:=aM.o.size;unfold Zsj
    dsimp only
    go_upto_region 7 with fail
    rw[<-U];obtain⟨x0,-⟩:=aa.o.cell 0;obtain⟨x1,-⟩:=aa.o.cell 1;obtain⟨x2,-⟩:=aa.o.cell 2;clear U e0 e1 e2 f0 f1 f2 aP aR V G af aF X an aN aB am ae
    go_wp2_with(at_builtin;refine ZfG _ rfl _ _ rfl g.heap.size _ t rfl aX.o ⟨B,C,A⟩ rfl (by omega) aU ?_)
    intro v5 W5 ay aK;have aJ:=ZZ ay;have aD:=ZZ (aM.o.trans aK)
    have aG:Hid (∀ e ∈ t++[(⟨B,C,A⟩:Ent)],Zlx e):=ZZ (fun e he=>by
     rcases zaw.1 he with h | h
     ·exact P.out e h
     ·rw[zaq.1 h];exact a7.o)
    clear ay aK
    cases SS with
    | none=>
     have j:Hid (u=none):=ZZ (by rw[ad.o];rfl)
     go_wp2;go_roundw
     case rel=>exact⟨t++[⟨B,C,A⟩],F,a3,c3,false,rfl,rfl,by simp;omega,ZZ (fun h=>by cases h),aJ,aG,ao,ZZ (fun h=>by cases h),ZZ (fun _=>j.o),aD⟩
     case measure=>show 0<d.length+1;omega
    | some y=>
     have hy:=a6 y rfl;subst hy;have a5:=aC.o _ rfl
     dsimp only at a5
     have j:Hid (u=(Jx (f-(t++[(⟨B,C,A⟩:Ent)]).length) F).map (fun r=>((t++[⟨B,C,A⟩])++r.1,r.2))):=ZZ (by
      rw[ad.o,length_append,zcm,zfp]
      cases Jx (f-(t.length+1)) F with
      | none=>rfl
      | some r=>simp)
     go_wp2;go_roundw
     case rel=>exact⟨t++[⟨B,C,A⟩],F,a3,c3,true,rfl,rfl,by simp;omega,ZZ (fun _=>⟨by simp;omega,by simp;omega⟩),aJ,aG,ao,ZZ (fun _=>j.o),ZZ (fun h=>by cases h),aD⟩
     case measure=>show F.length+1<d.length+1;omega
theorem Zbj:Qe []=(0,0):=by
 rcases Jg [] with h | h
 ·exact h
 ·have b:=h.2.1
  have a:=h.2.2.1;simp at a;omega
theorem ZcS:Qb []=(0,0):=by
 rcases Xf [] with h | h
 ·exact h
 ·have b:=h.2.1
  have a:=h.2.2.1;simp at a;omega
theorem ZkI (h:(Qb l).2=0):(Qb l).1=0:=by
 rcases Xf l with e | e
 ·rw[e]
 ·omega
theorem ZkJ (h:(Qe l).2=0):zag (Qe l).1=0:=by
 rcases Jg l with e | e
 ·rw[e];rfl
 ·omega
theorem ZiS (l:List UInt8):behind 0 l=[]:=rfl
theorem Yv {d:Nat} (h:d≠0) (l:List UInt8):behind d l=l.drop d:=zaa h
theorem Je (d:Nat) (l:List UInt8):(behind d l).length<=l.length:=by
 unfold behind;split
 ·simp
 ·simp
theorem ZnS (l:List UInt8):
 ((Qe (behind (Qe (behind (Qb l).2 l)).2 (behind (Qb l).2 l))).2=0->Xc l=(⟨0,0,0⟩,0))∧
 ((Qe (behind (Qe (behind (Qb l).2 l)).2 (behind (Qb l).2 l))).2≠0->Xc l=if Ge ⟨((Qb l).1:Int),zag (Qe (behind (Qb l).2 l)).1,zag (Qe (behind (Qe (behind (Qb l).2 l)).2 (behind (Qb l).2 l))).1⟩ then(⟨((Qb l).1:Int),zag (Qe (behind (Qb l).2 l)).1,zag (Qe (behind (Qe (behind (Qb l).2 l)).2 (behind (Qb l).2 l))).1⟩,l.length-(behind (Qe (behind (Qe (behind (Qb l).2 l)).2 (behind (Qb l).2 l))).2 (behind (Qe (behind (Qb l).2 l)).2 (behind (Qb l).2 l))).length) else(⟨0,0,0⟩,0)):=by
 by_cases d:(Qb l).2=0
 ·have e:behind (Qb l).2 l=[]:=by rw[d];rfl
  rw[e,Zbj];simp only [ZiS,Zbj,ne_eq,not_true_eq_false,false_imp_iff,zew,true_imp_iff];unfold Xc;rw[zab (.inl d)]
 ·have e:behind (Qb l).2 l=l.drop (Qb l).2:=Yv d l
  rw[e];by_cases b:(Qe (l.drop (Qb l).2)).2=0
  ·have g:behind (Qe (l.drop (Qb l).2)).2 (l.drop (Qb l).2)=[]:=by rw[b];rfl
   rw[g,Zbj];simp only [ne_eq,not_true_eq_false,false_imp_iff,zew,true_imp_iff];unfold Xc;rw[zab (.inr (.inl b))]
  ·have g:behind (Qe (l.drop (Qb l).2)).2 (l.drop (Qb l).2)=l.drop ((Qb l).2+(Qe (l.drop (Qb l).2)).2):=by rw[Yv b,drop_drop]
   rw[g];refine⟨fun a=>?_,fun a=>?_⟩
   ·unfold Xc
    rw[zab (.inr (.inr (.inl a)))]
   ·have p:=Ju l
    have n:=G0 (l.drop (Qb l).2);have m:=G0 (l.drop ((Qb l).2+(Qe (l.drop (Qb l).2)).2));simp only [length_drop] at n m;rw[Yv a,drop_drop,length_drop];unfold Xc;generalize (Qe (l.drop ((Qb l).2+(Qe (l.drop (Qb l).2)).2))).2=k at *;generalize zag (Qe (l.drop ((Qb l).2+(Qe (l.drop (Qb l).2)).2))).1=y at *;generalize (Qe (l.drop (Qb l).2)).2=j at *;generalize zag (Qe (l.drop (Qb l).2)).1=x at *;generalize (Qb l).2=i at *;generalize (Qb l).1=c at *;by_cases f:Ge ⟨(c:Int),x,y⟩
    ·rw[zaa (by rintro(h | h | h | h);exact d h;exact b h;exact a h;exact h f),zab f]
     congr 1
     omega
    ·rw[zab (.inr (.inr (.inr f))),zaa f]
structure GIn (w W:World) (c a b:Int) (vb:Value) (m:List UInt8):Prop where
 res:Bo W w.heap.size #[.int .i64 0,.int .i64 0,.int .i64 0]
 box:Bo W (w.heap.size+1) #[.int .i64 c,.int .i64 a,.int .i64 b]
 cap:Bb W (w.heap.size+1+1) vb
 rd:Rd W vb m
 below:Below w.heap.size w W
theorem GIn.next {b:Int} (h:GIn w W c a b f m) (d:But (w.heap.size+1+1) (w.heap.size+1+1) W W') (e:Bb W' (w.heap.size+1+1) v') (g:Rd W' v' m'):GIn w W' c a b v' m':=by
 have i:=h.cap.lt;exact⟨(d.block _ (by omega) (by omega) (by omega)).trans h.res,(d.block _ (by omega) (by omega) (by omega)).trans h.box,e,g,Zaf h.below d (by omega) (by omega) (by omega)⟩
theorem Rd.setInt (h:Rd w v m) {b j:Nat} {n:Int} (d:w.cell? ⟨b,j,none⟩=some (.int .i64 n)):Rd (w.setCell ⟨b,j,none⟩ x) v m:=by
 obtain⟨z,y,A,u,i,q,a⟩:=h;refine⟨z,y,A,u,i,q,?_⟩;rcases a with a | ⟨c,g,t,p⟩
 ·exact .inl a
 ·refine .inr ⟨c,g,t,fun k l=>?_⟩
  have f:=p k l
  rw[zbh w ⟨b,j,none⟩ ⟨c,g+k,none⟩ x (fun e=>by
   rw[e,f] at d
   simp at d)]
  exact f
theorem GIn.store {b c' a' b':Int} (h:GIn w W c a b d m) (j:Nat) (x:Int) {n:Int} (e:(#[Value.int .i64 c,.int .i64 a,.int .i64 b]:Array Value)[j]?=some (.int .i64 n)) (f:(#[Value.int .i64 c,.int .i64 a,.int .i64 b]:Array Value).setIfInBounds j (.int .i64 x)=#[.int .i64 c',.int .i64 a',.int .i64 b']):
 GIn w (W.setCell ⟨w.heap.size+1,j,none⟩ (.int .i64 x)) c' a' b' d m:=by
 have g:=h.cap.lt;refine⟨(zal _ _ _ _ (by show w.heap.size≠w.heap.size+1;omega)).trans h.res,?_,(zal _ _ _ _ (by show w.heap.size+1+1≠w.heap.size+1;omega)).trans h.cap,h.rd.setInt (((h.box.cell j).1).trans e),h.below.setCell (by show w.heap.size<=w.heap.size+1;omega) _⟩
 have:=zba W (w.heap.size+1) j _ _ (.int .i64 x) h.box;unfold Bo;rw[<-f];simpa using this
theorem GIn.more {b:Int} {e:Value} (h:GIn w W c a b e m) (d:Below W.heap.size W W'):GIn w W' c a b e m:=by
 have f:=h.cap.lt;exact⟨(d.block _ (by omega)).trans h.res,(d.block _ (by omega)).trans h.box,(d.block _ (by omega)).trans h.cap,h.rd.below d zL,h.below.trans (d.mono h.below.size)⟩
theorem Zdk (W:World) (b:Nat) (e d a:Value) (c i:Nat) (h:b≠c):(((W.setCell ⟨b,0,none⟩ e).setCell ⟨b,1,none⟩ d).setCell ⟨b,2,none⟩ a).drew.cell? ⟨c,i,none⟩=W.cell? ⟨c,i,none⟩:=by
 show(((W.setCell ⟨b,0,none⟩ e).setCell ⟨b,1,none⟩ d).setCell ⟨b,2,none⟩ a).cell? ⟨c,i,none⟩=_;rw[zei _ _ _ _ h,zei _ _ _ _ h,zei _ _ _ _ h]
theorem ZvE (v:Value) (l:List UInt8) (w:World) (T:Rd w v l) (aA:l.length<=1000000):
 Calls prog 209 #[v] w fun e w'=>ZuM w l e w':=by
 obtain⟨f,b,rfl⟩:∃ f b,v=.slice f l.length b:=by
  obtain⟨f,b,rfl,_⟩:=T;exact⟨f,b,rfl⟩
 have HR:=ZZ T;clear T;have N:Hid (∀ W g,Bb W (w.heap.size+1+1) g->Rd W g l->Calls prog 218 #[.func (.func 168) #[] #[],.pointer (some ⟨w.heap.size+1+1,0,none⟩)] W fun e w'=>∃ v',e=.returned (.tuple #[.int .i64 ((Qb l).1:Nat),.bool (decide ((Qb l).2≠0))])∧Bb w' (w.heap.size+1+1) v'∧Rd w' v' (behind (Qb l).2 l)∧But (w.heap.size+1+1) (w.heap.size+1+1) W w'):=fun W g h1 D=>Zre _ _ _ _ _ W h1 D (Ju l) (fun h=>by rw[ZkI h];rfl) (ZcJ g l W D)
 have aa:Hid (∀ m W g,Bb W (w.heap.size+1+1) g->Rd W g m->Calls prog 218 #[.func (.func 201) #[] #[],.pointer (some ⟨w.heap.size+1+1,0,none⟩)] W fun e w'=>∃ v',e=.returned (.tuple #[.int .i64 (zag (Qe m).1),.bool (decide ((Qe m).2≠0))])∧Bb w' (w.heap.size+1+1) v'∧Rd w' v' (behind (Qe m).2 m)∧But (w.heap.size+1+1) (w.heap.size+1+1) W w'):=fun m W g h1 D=>ZiN _ _ _ _ _ W h1 D (G0 m) ZkJ (Zak g m W D)
 have u:=ZZ (ZnS l);have Z:=ZZ (Je (Qb l).2 l);obtain⟨p,ao⟩:=zgy (behind (Qb l).2 l);rw[<-ao] at u N Z;have V:=ZZ (aa.o p);have ab:=ZZ (Je (Qe p).2 p);obtain⟨q,am⟩:=zgy (behind (Qe p).2 p);rw[<-am] at u V ab;have ac:=ZZ (aa.o q);have S:=ZZ (Je (Qe q).2 q);obtain⟨n,al⟩:=zgy (behind (Qe q).2 q);rw[<-al] at u ac S;have aB:n.length<=l.length:=zas S.o (zas ab.o Z.o);clear ao am al aa Z ab S;unfold ZuM;generalize Xc l=R at *;generalize (Qb l).1=c at *;generalize (Qb l).2=i at *;generalize zag (Qe p).1=x at *;generalize (Qe p).2=j at *;generalize zag (Qe q).1=y at *;generalize (Qe q).2=k at *;obtain⟨C,hC⟩:∃ C:Int,C=(c:Int):=⟨_,rfl⟩;rw[<-hC] at N u;have HF:Hid (∀ W,Calls prog 80 #[.agg #[.int .i64 C,.int .i64 x,.int .i64 y]] W fun e w'=>e=.returned (.bool (decide (Ge ⟨C,x,y⟩)))∧Below W.heap.size W w'):=fun W=>ZlH ⟨C,x,y⟩ W
 have an:=ZZ (fun W=>ZiM f l.length b W)
 have ae:Hid (∀ W X Y,X=.cells #[.int .i64 0,.int .i64 0,.int .i64 0] 52->Y=.cells #[.int .i64 0,.int .i64 0,.int .i64 0] 52->W=((w.alloc X).alloc Y).alloc (.cells #[.slice f l.length b] 53)->GIn w W 0 0 0 (.slice f l.length b) l):=fun W X Y hX hY hW=>by
  subst hX hY hW;have b1:Below w.heap.size w (((w.alloc (.cells #[.int .i64 0,.int .i64 0,.int .i64 0] 52)).alloc (.cells #[.int .i64 0,.int .i64 0,.int .i64 0] 52)).alloc (.cells #[.slice f l.length b] 53)):=(((zac _ _).alloc zL _).alloc (by simp) _).alloc (by simp;omega) _
  refine⟨?_,?_,?_,HR.o.below b1 zL,b1⟩
  ·exact(zao _ _ _ (by simp;omega)).trans ((zao _ _ _ (by simp)).trans (zaf w _))
  ·exact(zao _ _ _ (by simp)).trans (Zpl w _ _)
  ·have h:=zaf ((w.alloc (.cells #[.int .i64 0,.int .i64 0,.int .i64 0] 52)).alloc (.cells #[.int .i64 0,.int .i64 0,.int .i64 0] 52)) (.cells #[.slice f l.length b] 53)
   have e:((w.alloc (.cells #[.int .i64 0,.int .i64 0,.int .i64 0] 52)).alloc (.cells #[.int .i64 0,.int .i64 0,.int .i64 0] 52)).heap.size=w.heap.size+1+1:=by simp
   rw[e] at h;exact h
 clear hC
 go_enter func209,ntmps209
 go_wp2_with fail
 refine(an.o _).mono ?_;rintro e W1 ⟨rfl,ap⟩;have J:=ZZ (ae.o W1 _ _ rfl rfl ap);clear ap ae an
 go_wp2_with fail
 refine(N.o _ _ J.out.cap J.out.rd).mono ?_;rintro e W2 ⟨v2,rfl,av,aw,ad⟩;have G2:=ZZ (J.out.next ad av aw);obtain⟨p0,f0⟩:=G2.out.box.cell 0;clear av aw ad J N;have E:=ZZ (G2.out.store (c':=C) (a':=0) (b':=0) 0 C rfl rfl)
 go_wp2_with fail
 refine(V.o _ _ E.o.cap E.o.rd).mono ?_;rintro e W3 ⟨v3,rfl,ai,aj,af⟩;have Q:=ZZ (E.o.next af ai aj);obtain⟨p1,f1⟩:=Q.out.box.cell 1;clear ai aj af G2 E V p0 f0;have K:=ZZ (Q.out.store (c':=C) (a':=x) (b':=0) 1 x rfl rfl)
 go_wp2_with fail
 refine(ac.o _ _ K.o.cap K.o.rd).mono ?_;rintro e W4 ⟨v4,rfl,ay,ag,ax⟩;have I:=ZZ (K.o.next ax ay ag);obtain⟨p2,f2⟩:=I.out.box.cell 2;clear ay ag ax Q K ac p1 f1;have d:=ZZ (I.out.store (c':=C) (a':=x) (b':=y) 2 y rfl rfl);by_cases A:k=0
 ·have z:Hid (R=(⟨0,0,0⟩,0)):=u.o.1 A
  rw[zae (fun h=>h A)]
  obtain⟨F,g0⟩:=d.o.res.cell 0;obtain⟨H,g1⟩:=d.o.res.cell 1;obtain⟨G,g2⟩:=d.o.res.cell 2;have P:=ZZ d.o.below;clear A I;go_wp2;refine zap (v:=.tuple #[.agg #[.int .i64 0,.int .i64 0,.int .i64 0],.int .i64 0]) (by simp[results,Tryz.results209,go_sem,F,H,G]) rfl ?_
  rw[z.o];exact⟨rfl,((P.o.setCell zL _).setCell zL _).setCell zL _⟩
 ·have z:=ZZ (u.o.2 A)
  rw[zah A];obtain⟨L,-⟩:=d.o.box.cell 0;obtain⟨O,-⟩:=d.o.box.cell 1;obtain⟨M,-⟩:=d.o.box.cell 2;clear A u
  go_wp2_with fail
  refine(HF.o _).mono ?_;rintro e t ⟨rfl,aq⟩;have a:=ZZ (d.o.more aq);clear aq d I L O M p2 f2;obtain⟨F,g0⟩:=a.out.res.cell 0;obtain⟨H,g1⟩:=a.out.res.cell 1;obtain⟨G,g2⟩:=a.out.res.cell 2;have P:=ZZ a.out.below;by_cases B:Ge ⟨C,x,y⟩
  ·rw[zah B]
   rw[zab B] at z;obtain⟨L,-⟩:=a.out.box.cell 0;obtain⟨O,-⟩:=a.out.box.cell 1;obtain⟨M,-⟩:=a.out.box.cell 2;have hc:=a.out.cap.cell.1;obtain⟨a4,U,rfl,-⟩:=a.out.rd;have HL:=ZZ (fun W h=>Zrd (w.heap.size+1+1) a4 n.length U W h)
   have ar:IntKind.i64.wrap ((l.length:Int)-(n.length:Int))=((l.length-n.length:Nat):Int):=by rw[zbe];omega
   have az:=ZZ ar;have au:=ZZ (⟨L,O,M,hc⟩:t.drew.cell? ⟨w.heap.size+1,0,none⟩=some (.int .i64 C)∧t.drew.cell? ⟨w.heap.size+1,1,none⟩=some (.int .i64 x)∧t.drew.cell? ⟨w.heap.size+1,2,none⟩=some (.int .i64 y)∧t.drew.cell? ⟨w.heap.size+1+1,0,none⟩=some (.slice a4 n.length U));have ak:=ZZ (⟨(Zdk t w.heap.size (.int .i64 C) (.int .i64 x) (.int .i64 y) _ _ (by omega)).trans L,(Zdk t w.heap.size (.int .i64 C) (.int .i64 x) (.int .i64 y) _ _ (by omega)).trans O,(Zdk t w.heap.size (.int .i64 C) (.int .i64 x) (.int .i64 y) _ _ (by omega)).trans M,(Zdk t w.heap.size (.int .i64 C) (.int .i64 x) (.int .i64 y) (w.heap.size+1+1) 0 (by omega)).trans hc⟩:_∧_∧_∧_)
   clear B a ar HF;go_wp2
   go_region_held(fun w'=>w'.cell? ⟨w.heap.size+1,0,none⟩=some (.int .i64 C)∧w'.cell? ⟨w.heap.size+1,1,none⟩=some (.int .i64 x)∧w'.cell? ⟨w.heap.size+1,2,none⟩=some (.int .i64 y)∧w'.cell? ⟨w.heap.size+1+1,0,none⟩=some (.slice a4 n.length U)) (first | exact au.o | exact ak.o)
    (first
     | (go_at_call 219;refine(HL.o _ (by first | exact au.o.2.2.2 | exact ak.o.2.2.2)).mono ?_;rintro e w' ⟨rfl,rfl⟩))
   all_goals
    go_wp2;refine zap (v:=.tuple #[.agg #[.int .i64 C,.int .i64 x,.int .i64 y],.int .i64 (IntKind.i64.wrap ((l.length:Int)-(n.length:Int)))]) (by simp[results,Tryz.results209,go_sem,F,H,G]) rfl ?_
    rw[z.o,az.o];exact⟨rfl,((((P.o.setCell zL _).setCell zL _).setCell zL _)).drew⟩
  ·rw[zae B]
   rw[zaa B] at z;clear B a;go_wp2;refine zap (v:=.tuple #[.agg #[.int .i64 0,.int .i64 0,.int .i64 0],.int .i64 0]) (by simp[results,Tryz.results209,go_sem,F,H,G]) rfl ?_
   rw[z.o];exact⟨rfl,((P.o.setCell zL _).setCell zL _).setCell zL _⟩
def Zau (w:World) (r:St × Int) (e:Ending) (w':World):Prop:=
 ∃ vl,e=.returned (.tuple #[.agg #[.int .i64 r.1.kind,vl,.bool r.1.shut,.int .i64 r.1.eng],.int .i64 r.2])∧RdI w' vl r.1.L∧I64 r.1.kind∧I64 r.1.eng∧(∀ b,vl.ownBlock=some b->w.heap.size<=b)∧Below w.heap.size w w'
theorem Zau.zero (n:Int) (a:Below w.heap.size w w'):Zau w (ZcB,n) (.returned (.tuple #[.agg #[.int .i64 0,.slice none 0 0,.bool false,.int .i64 0],.int .i64 n])) w':=
 ⟨_,rfl,RdI.nil _,(Qo (by decide) (by decide):I64 0),(Qo (by decide) (by decide):I64 0),fun b a=>by simp[Value.ownBlock] at a,a⟩
theorem ZcT:∀ (a b:Nat) (l:List UInt8),J3 (a+b) l=(J3 a l).bind fun x=>(J3 b (l.drop x.2)).map fun y=>(x.1++y.1,x.2+y.2)
 | 0,b,l=>by
  rw[za5,J3];simp
 | a+1,b,l=>by
  rw[Nat.add_right_comm,J3,J3,ZcT a b];by_cases h:(Qe l).2=0
  ·rw[zab h,zab h]
   rfl
  ·rw[zaa h,zaa h]
   cases J3 a (l.drop (Qe l).2) with
   | none=>rfl
   | some x=>
    obtain⟨xs,u⟩:=x;simp only [zfp,zcy,drop_drop]
    cases J3 b (l.drop ((Qe l).2+u)) with
    | none=>rfl
    | some y=>simp[zbs]
theorem ZnT (l:List UInt8):J3 1 l=if(Qe l).2=0 then none else some ([zag (Qe l).1],(Qe l).2):=by
 rw[J3];split
 ·rfl
 ·rfl
theorem ZsZ (h:J3 k l=some (xs,u)) (a:(Qe (l.drop u)).2≠0):J3 (k+1) l=some (xs++[zag (Qe (l.drop u)).1],u+(Qe (l.drop u)).2):=by
 rw[ZcT,h];simp only [zfp];rw[ZnT,zaa a];rfl
theorem Zta {m:Nat} (h:J3 k l=some (xs,u)) (a:(Qe (l.drop u)).2=0) (b:k<m):J3 m l=none:=by
 obtain⟨d,rfl⟩:∃ d,m=k+1+d:=⟨m-(k+1),by omega⟩
 rw[ZcT,ZcT k 1,h];simp only [zfp];rw[ZnT,zab a];rfl
theorem ZpW (l:List UInt8):
 ((Qb (behind (Qb (behind (Qb l).2 l)).2 (behind (Qb l).2 l))).2=0∨3<(Qb (behind (Qb l).2 l)).1∨128<(Qb (behind (Qb (behind (Qb l).2 l)).2 (behind (Qb l).2 l))).1->ZdG l=(ZcB,3))∧
 (¬ ((Qb (behind (Qb (behind (Qb l).2 l)).2 (behind (Qb l).2 l))).2=0∨3<(Qb (behind (Qb l).2 l)).1∨128<(Qb (behind (Qb (behind (Qb l).2 l)).2 (behind (Qb l).2 l))).1)->
  ZdG l=ZjE (Qb l).1 (Qb (behind (Qb l).2 l)).1 (Qb (behind (Qb (behind (Qb l).2 l)).2 (behind (Qb l).2 l))).1 (behind (Qb (behind (Qb (behind (Qb l).2 l)).2 (behind (Qb l).2 l))).2 (behind (Qb (behind (Qb l).2 l)).2 (behind (Qb l).2 l)))):=by
 by_cases c:(Qb l).2=0
 ·have e:behind (Qb l).2 l=[]:=by rw[c];rfl
  rw[e,ZcS];simp only [ZiS,ZcS];refine⟨fun _=>?_,fun h=>absurd (Or.inl trivial) h⟩
  unfold ZdG;rw[zab (.inl c)]
 ·have e:behind (Qb l).2 l=l.drop (Qb l).2:=Yv c l
  rw[e];by_cases b:(Qb (l.drop (Qb l).2)).2=0
  ·have d:behind (Qb (l.drop (Qb l).2)).2 (l.drop (Qb l).2)=[]:=by rw[b];rfl
   rw[d,ZcS];refine⟨fun _=>?_,fun h=>absurd (Or.inl rfl) h⟩
   unfold ZdG;rw[zab (.inr (.inl b))]
  ·have d:behind (Qb (l.drop (Qb l).2)).2 (l.drop (Qb l).2)=l.drop ((Qb l).2+(Qb (l.drop (Qb l).2)).2):=by rw[Yv b,drop_drop]
   rw[d];refine⟨fun a=>?_,fun a=>?_⟩
   ·unfold ZdG
    rw[zab (.inr (.inr a))]
   ·have f:(Qb (l.drop ((Qb l).2+(Qb (l.drop (Qb l).2)).2))).2≠0:=fun h=>a (.inl h)
    unfold ZdG;rw[zaa (by rintro(h | h | h);exact c h;exact b h;exact a h),Yv f,drop_drop]
structure SIn (w W:World) (kd:Int) (vl:Value) (sh:Bool) (g:Int) (vb:Value) (m:List UInt8):Prop where
 res:Bx W w.heap.size #[.int .i64 0,.slice none 0 0,.bool false,.int .i64 0]
 box:Bx W (w.heap.size+1) #[.int .i64 kd,vl,.bool sh,.int .i64 g]
 cap:Bb W (w.heap.size+1+1) vb
 rd:Rd W vb m
 below:Below w.heap.size w W
theorem SIn.next {c:Bool} {b:Value} (h:SIn w W kd b c g f m) (a:But (w.heap.size+1+1) (w.heap.size+1+1) W W') (d:Bb W' (w.heap.size+1+1) v') (e:Rd W' v' m'):SIn w W' kd b c g v' m':=by
 have i:=h.cap.lt;exact⟨(a.block _ (by omega) (by omega) (by omega)).trans h.res,(a.block _ (by omega) (by omega) (by omega)).trans h.box,d,e,Zaf h.below a (by omega) (by omega) (by omega)⟩
theorem SIn.more {c:Bool} {b:Value} (h:SIn w W kd b c g d m) (a:Below W.heap.size W W'):SIn w W' kd b c g d m:=by
 have e:=h.cap.lt;exact⟨(a.block _ (by omega)).trans h.res,(a.block _ (by omega)).trans h.box,(a.block _ (by omega)).trans h.cap,h.rd.below a zL,h.below.trans (a.mono h.below.size)⟩
theorem Rd.setElse {y:Value} (h:Rd w v m) {b j:Nat} (d:w.cell? ⟨b,j,none⟩=some y) (t:∀ n,y≠.int .u8 n):Rd (w.setCell ⟨b,j,none⟩ x) v m:=by
 obtain⟨B,A,C,z,i,q,a⟩:=h;refine⟨B,A,C,z,i,q,?_⟩;rcases a with a | ⟨c,g,u,p⟩
 ·exact .inl a
 ·refine .inr ⟨c,g,u,fun k l=>?_⟩
  have f:=p k l
  rw[zbh w ⟨b,j,none⟩ ⟨c,g+k,none⟩ x (fun e=>by
   rw[e,f] at d
   exact t _ (zak d).symm)]
  exact f
theorem SIn.store {kd' g':Int} {b sh':Bool} {a vl' c:Value} (h:SIn w W kd a b g c m) (j:Nat) (x y:Value) (e:(#[Value.int .i64 kd,a,.bool b,.int .i64 g]:Array Value)[j]?=some y) (f:∀ n,y≠.int .u8 n) (d:(#[Value.int .i64 kd,a,.bool b,.int .i64 g]:Array Value).setIfInBounds j x=#[.int .i64 kd',vl',.bool sh',.int .i64 g']):
 SIn w (W.setCell ⟨w.heap.size+1,j,none⟩ x) kd' vl' sh' g' c m:=by
 have i:=h.cap.lt;refine⟨(zal _ _ _ _ (by show w.heap.size≠w.heap.size+1;omega)).trans h.res,?_,(zal _ _ _ _ (by show w.heap.size+1+1≠w.heap.size+1;omega)).trans h.cap,h.rd.setElse (((h.box.cell j).1).trans e) f,h.below.setCell (by show w.heap.size<=w.heap.size+1;omega) _⟩
 have:=zba W (w.heap.size+1) j _ _ x h.box;unfold Bx;rw[<-d];simpa using this
structure DIn (w W:World) (kd g:Int) (sh:Bool) (R:List UInt8) (cnt G k:Nat) (vb:Value) (m:List UInt8) (ys:List Int) (th:Bool):Prop where
 sin:SIn w W kd (.slice (some ⟨G,0,none⟩) cnt cnt) sh g vb m
 row:W.heap[G]?=some (.cells (Qr ys).toArray 3 (0,0))
 len:ys.length=cnt
 far:w.heap.size+1+1<G
 st:(th=true∧∃ u,J3 k R=some (ys.take k,u)∧m=R.drop u)∨(th=false∧J3 k R=none∧m=[])
theorem Ztb (h:J3 k R=none):J3 (k+1) R=none:=by
 rw[ZcT,h];rfl
theorem ZxA (a:List Int) (k:Nat) (x:Int) (b:k<a.length):(a.set k x).take (k+1)=a.take k++[x]:=by
 rw[zb4,zf2 zL];simp[b]
theorem DIn.step {l:Bool} {f:Nat} {q:Value} {b:List Int} {v:Bool} (h:DIn w W kd g l R f G k q m b v) (A:k<f) (i:But (w.heap.size+1+1) (w.heap.size+1+1) W W') (y:Bb W' (w.heap.size+1+1) v') (x:Rd W' v' (behind (Qe m).2 m)):
 DIn w (W'.setCell ⟨G,k,none⟩ (.int .i64 (zag (Qe m).1))) kd g l R f G (k+1) v' (behind (Qe m).2 m) (b.set k (zag (Qe m).1)) (decide ((Qe m).2≠0)):=by
 have t:=h.far;have z:G<W.heap.size:=(zan.1 h.row).1;have j:W'.heap[G]?=some (.cells (Qr b).toArray 3 (0,0)):=(i.block G z (by omega) (by omega)).trans h.row
 have c:=h.sin.next i y x
 have p:W'.cell? ⟨G,k,none⟩=some (.int .i64 (b.getD k 0)):=by
  rw[zam W' G k _ _ _ j];have:=Zu b k (by have:=h.len;omega)
  simpa using this
 refine⟨⟨?_,?_,?_,c.rd.setElse p (fun n e=>by simp at e),c.below.setCell (by show w.heap.size<=G;omega) _⟩,?_,by rw[zdu];exact h.len,t,?_⟩
 ·exact(zal _ _ _ _ (by show w.heap.size≠G;omega)).trans c.res
 ·exact(zal _ _ _ _ (by show w.heap.size+1≠G;omega)).trans c.box
 ·exact(zal _ _ _ _ (by show w.heap.size+1+1≠G;omega)).trans c.cap
 ·rw[zba W' G k _ _ _ j]
  congr 2
  unfold Qr;apply Array.ext';simp[List.map_set]
 ·have B:=h.len
  rcases h.st with ⟨rfl,u,d,rfl⟩ | ⟨rfl,d,rfl⟩
  ·by_cases a:(Qe (R.drop u)).2=0
   ·right
    refine⟨zae (fun h=>h a),Zta d a (by omega),?_⟩
    rw[a];rfl
   ·left
    refine⟨zah a,u+(Qe (R.drop u)).2,?_,?_⟩
    ·rw[ZsZ d a,ZxA b k _ (by omega)]
    ·rw[Yv a,drop_drop]
  ·right
   rw[Zbj];exact⟨rfl,Ztb d,rfl⟩
theorem DIn.own {f:Bool} {a:Nat} {i:Value} {b:List Int} {d:Bool} (h:DIn w W kd g f R a G k i m b d) (e:a<=maxLen):Qs W (w.heap.size+1+1+1) (.slice (some ⟨G,0,none⟩) a a) b:=by
 have c:=h.len;have j:=h.far;refine⟨by rw[Zk,zch],.inr ⟨G,a,(Qr b).toArray,by rw[c],by omega,h.row,by omega,e,?_,?_⟩⟩
 ·simp[Zk,c]
 ·rw[zbc]
  simp[Zk]
theorem Zmc (w:World) (n:Nat) (f:n<=1000000):(Instr.makeSlice 23 (.int .i64 (n:Int)) (.int .i64 (n:Int))).run prog w=.ok (.slice (some ⟨w.heap.size,0,none⟩) n n) (w.alloc (.cells (Qr (List.replicate n 0)).toArray 3)):=by
 obtain⟨e,a,b,c,d⟩:=zbo Zlg;have h:=run_make (P:=prog) w 23 3 e (.int .i64 0) underlying23 a b .i64 .i64 (n:Int) (n:Int) (by omega) (zed _) (by rw[d];omega) (by omega)
 rw[za9,c,zch] at h;rw[h]
 congr 3
 apply Array.ext';show(madeCells #[Value.int .i64 0] n).toList=_;rw[toList_madeCells_one];simp[Qr]
theorem But.ofDrew {R:Nat} (h:But R T w.drew w'):But R T w w':=⟨h.os,h.tape,h.output,h.size,h.block⟩
theorem DIn.start {b:Bool} {c:Value} (h:SIn w W kd (.slice none 0 0) b g c R) (a:Nat):
 DIn w ((W.alloc (.cells (Qr (List.replicate a 0)).toArray 3)).setCell ⟨w.heap.size+1,1,none⟩ (.slice (some ⟨W.heap.size,0,none⟩) a a)) kd g b R a W.heap.size 0 c R (List.replicate a 0) true:=by
 have f:=h.cap.lt;have d:=h.more ((zac _ _).alloc zL (.cells (Qr (List.replicate a 0)).toArray 3));refine⟨d.store 1 _ _ rfl (fun n e=>by simp at e) rfl,?_,by simp,f,.inl ⟨rfl,0,rfl,by simp⟩⟩
 exact(zal _ _ _ _ (by show W.heap.size≠w.heap.size+1;omega)).trans (zaf W _)
theorem DIn.spot {i:Bool} {a:List Int} {e:Bool} (h:DIn w W kd g i R b G k d m a e) (l:k<b) (f:But (w.heap.size+1+1) (w.heap.size+1+1) W W'):
 W'.cell? ⟨G,k,none⟩=some (.int .i64 (a.getD k 0))∧W'.frozen? ⟨G,k,none⟩=false:=by
 have n:=h.far;have j:G<W.heap.size:=(zan.1 h.row).1;have c:W'.heap[G]?=some (.cells (Qr a).toArray 3 (0,0)):=(f.block G j (by omega) (by omega)).trans h.row
 refine⟨?_,za2 W' G k _ _ c⟩;rw[zam W' G k _ _ _ c];have:=Zu a k (by have:=h.len;omega)
 simpa using this
theorem ZiT (v:Value) (l:List UInt8) (w:World) (Q:Rd w v l) (_hlim:l.length<=1000000):
 Calls prog 164 #[v] w fun e w'=>Zau w (ZdG l) e w':=by
 obtain⟨L,I,rfl⟩:∃ L I,v=.slice L l.length I:=by
  obtain⟨L,I,rfl,_⟩:=Q;exact⟨L,I,rfl⟩
 have HR:=ZZ Q;clear Q;have ab:Hid (∀ m W f,Bb W (w.heap.size+1+1) f->Rd W f m->Calls prog 218 #[.func (.func 168) #[] #[],.pointer (some ⟨w.heap.size+1+1,0,none⟩)] W fun e w'=>∃ v',e=.returned (.tuple #[.int .i64 ((Qb m).1:Nat),.bool (decide ((Qb m).2≠0))])∧Bb w' (w.heap.size+1+1) v'∧Rd w' v' (behind (Qb m).2 m)∧But (w.heap.size+1+1) (w.heap.size+1+1) W w'):=fun m W f h1 h2=>Zre _ _ _ _ _ W h1 h2 (Ju m) (fun h=>by rw[ZkI h];rfl) (ZcJ f m W h2)
 have a8:Hid (∀ m W f,Bb W (w.heap.size+1+1) f->Rd W f m->Calls prog 218 #[.func (.func 201) #[] #[],.pointer (some ⟨w.heap.size+1+1,0,none⟩)] W fun e w'=>∃ v',e=.returned (.tuple #[.int .i64 (zag (Qe m).1),.bool (decide ((Qe m).2≠0))])∧Bb w' (w.heap.size+1+1) v'∧Rd w' v' (behind (Qe m).2 m)∧But (w.heap.size+1+1) (w.heap.size+1+1) W w'):=fun m W f h1 h2=>ZiN _ _ _ _ _ W h1 h2 (G0 m) ZkJ (Zak f m W h2)
 have HG:=ZZ (ZpW l);have al:=ZZ (ab.o l)
 have c1:(Qb l).1<4611686018427387904:=by
  rcases Xf l with h | h
  ·rw[h];decide
  ·exact h.1
 obtain⟨T,aR⟩:=zgy (behind (Qb l).2 l);rw[<-aR] at HG al;have ak:=ZZ (ab.o T);obtain⟨m2,aN⟩:=zgy (behind (Qb T).2 T);rw[<-aN] at HG ak;have aj:=ZZ (ab.o m2);obtain⟨R,aL⟩:=zgy (behind (Qb m2).2 m2);rw[<-aL] at HG aj;clear aR aN aL ab;generalize ZdG l=D at *;generalize (Qb l).1=kd at *;generalize (Qb l).2=i at *;generalize (Qb T).1=y at *;generalize (Qb T).2=j at *;generalize (Qb m2).1=a at *;generalize (Qb m2).2=k at *;have aQ:=ZZ (fun W=>ZiM L l.length I W)
 have ay:Hid (∀ W X Y,X=.cells #[.int .i64 0,.slice none 0 0,.bool false,.int .i64 0] 38->Y=.cells #[.int .i64 0,.slice none 0 0,.bool false,.int .i64 0] 38->W=((w.alloc X).alloc Y).alloc (.cells #[.slice L l.length I] 53)->SIn w W 0 (.slice none 0 0) false 0 (.slice L l.length I) l):=fun W X Y hX hY hW=>by
  subst hX hY hW;have V:Below w.heap.size w (((w.alloc (.cells #[.int .i64 0,.slice none 0 0,.bool false,.int .i64 0] 38)).alloc (.cells #[.int .i64 0,.slice none 0 0,.bool false,.int .i64 0] 38)).alloc (.cells #[.slice L l.length I] 53)):=(((zac _ _).alloc zL _).alloc (by simp) _).alloc (by simp;omega) _
  refine⟨?_,?_,?_,HR.o.below V zL,V⟩
  ·exact(zao _ _ _ (by simp;omega)).trans ((zao _ _ _ (by simp)).trans (zaf w _))
  ·exact(zao _ _ _ (by simp)).trans (Zpl w _ _)
  ·have h:=zaf ((w.alloc (.cells #[.int .i64 0,.slice none 0 0,.bool false,.int .i64 0] 38)).alloc (.cells #[.int .i64 0,.slice none 0 0,.bool false,.int .i64 0] 38)) (.cells #[.slice L l.length I] 53)
   have e:((w.alloc (.cells #[.int .i64 0,.slice none 0 0,.bool false,.int .i64 0] 38)).alloc (.cells #[.int .i64 0,.slice none 0 0,.bool false,.int .i64 0] 38)).heap.size=w.heap.size+1+1:=by simp
   rw[e] at h;exact h
 go_enter func164,ntmps164
 go_wp2_with fail
 refine(aQ.o _).mono ?_;rintro e W1 ⟨rfl,aS⟩;have G1:=ZZ (ay.o W1 _ _ rfl rfl aS);clear aS ay aQ
 go_wp2_with fail
 refine(al.o _ _ G1.out.cap G1.out.rd).mono ?_;rintro e W2 ⟨v2,rfl,aV,aW,az⟩;have G2:=ZZ (G1.out.next az aV aW);obtain⟨p0,f0⟩:=G2.out.box.cell 0;clear aV aW az G1 al;have ac:=ZZ (G2.out.store (kd':=(kd:Int)) (vl':=.slice none 0 0) (sh':=false) (g':=0) 0 (.int .i64 (kd:Int)) _ rfl (fun n e=>by simp at e) rfl)
 go_wp2_with fail
 refine(ak.o _ _ ac.o.cap ac.o.rd).mono ?_;rintro e W3 ⟨v3,rfl,aG,aH,aA⟩;have G3:=ZZ (ac.o.next aA aG aH);clear aG aH aA G2 ac ak p0 f0
 go_wp2_with fail
 refine(aj.o _ _ G3.out.cap G3.out.rd).mono ?_;rintro e W4 ⟨v4,rfl,aY,aC,aX⟩;have d:=ZZ (G3.out.next aX aY aC);clear aY aC aX G3 aj;by_cases E:k=0∨3<y∨128<a
 ·have J:Hid (D=(ZcB,3)):=HG.o.1 E
  obtain⟨z,g0⟩:=d.out.res.cell 0;obtain⟨C,g1⟩:=d.out.res.cell 1;obtain⟨A,g2⟩:=d.out.res.cell 2;obtain⟨H,g3⟩:=d.out.res.cell 3;have aa:=ZZ d.out.below;by_cases K:k=0
  ·rw[zae (fun h=>h K)]
   clear K E d;go_wp2;refine zap (v:=.tuple #[.agg #[.int .i64 0,.slice none 0 0,.bool false,.int .i64 0],.int .i64 3]) (by simp[results,Tryz.results164,go_sem,z,C,A,H]) rfl ?_
   rw[J.o];exact Zau.zero 3 (Zae aa.o w.heap.size zL _ _ _ _)
  ·rw[zah K]
   by_cases h3:3<y
   ·have a6:(3:Int)<(y:Int):=by omega
    clear K E d h3;go_wp2;refine zap (v:=.tuple #[.agg #[.int .i64 0,.slice none 0 0,.bool false,.int .i64 0],.int .i64 3]) (by simp[results,Tryz.results164,go_sem,z,C,A,H]) rfl ?_
    rw[J.o];exact Zau.zero 3 (Zae aa.o w.heap.size zL _ _ _ _)
   ·have a6:¬ (3:Int)<(y:Int):=by omega
    have h4:(128:Int)<(a:Int):=by
     rcases E with h | h | h
     ·exact absurd h K
     ·exact absurd h h3
     ·omega
    clear K E d h3;go_wp2;refine zap (v:=.tuple #[.agg #[.int .i64 0,.slice none 0 0,.bool false,.int .i64 0],.int .i64 3]) (by simp[results,Tryz.results164,go_sem,z,C,A,H]) rfl ?_
    rw[J.o];exact Zau.zero 3 (Zae aa.o w.heap.size zL _ _ _ _)
 ·have J:Hid (D=ZjE kd y a R):=HG.o.2 E
  have K:k≠0:=fun h=>E (.inl h)
  have h3:¬ (3:Int)<(y:Int):=fun h=>E (.inr (.inl (by omega)))
  have h4:¬ (128:Int)<(a:Int):=fun h=>E (.inr (.inr (by omega)))
  rw[zah K];obtain⟨p1,f1⟩:=d.out.box.cell 1;obtain⟨p2,f2⟩:=d.out.box.cell 2;obtain⟨p3,f3⟩:=d.out.box.cell 3;clear E K HG;have aq:y=0∨y=1∨y=2∨y=3:=by omega
  go_upto_region 8 with fail
  go_cut[] (fun wc=>∃ (p:Bool) (g:Int),Hid (∀ xs,mkS kd y xs=⟨kd,xs,p,g⟩)∧Hid (I64 g)∧Hid (SIn w wc kd (.slice none 0 0) p g v4 R))
  case first=>
   rcases aq with rfl | rfl | rfl | rfl
   ·go_wp2
    go_meet
    exact⟨false,0,ZZ (fun xs=>by simp[mkS]),ZZ (Qo (by omega) (by omega)),ZZ ((d.out.store 2 (.bool false) _ rfl (fun n e=>by simp at e) rfl).store 3 (.int .i64 0) _ rfl (fun n e=>by simp at e) rfl)⟩
   ·go_wp2
    go_meet
    exact⟨true,0,ZZ (fun xs=>by simp[mkS]),ZZ (Qo (by omega) (by omega)),ZZ ((d.out.store 2 (.bool true) _ rfl (fun n e=>by simp at e) rfl).store 3 (.int .i64 0) _ rfl (fun n e=>by simp at e) rfl)⟩
   ·go_wp2
    go_meet
    exact⟨true,1,ZZ (fun xs=>by simp[mkS]),ZZ (Qo (by omega) (by omega)),ZZ ((d.out.store 2 (.bool true) _ rfl (fun n e=>by simp at e) rfl).store 3 (.int .i64 1) _ rfl (fun n e=>by simp at e) rfl)⟩
   ·go_wp2
    go_meet
    exact⟨true,2,ZZ (fun xs=>by simp[mkS]),ZZ (Qo (by omega) (by omega)),ZZ ((d.out.store 2 (.bool true) _ rfl (fun n e=>by simp at e) rfl).store 3 (.int .i64 2) _ rfl (fun n e=>by simp at e) rfl)⟩
  case rest=>
   obtain⟨p,g,aT,aU,GS⟩:=hcut;clear aq p1 f1 p2 f2 p3 f3 d;have ap:=ZZ (DIn.start GS.out a);obtain⟨a1,e1⟩:=(GS.out.more ((zac _ _).alloc zL (.cells (Qr (List.replicate a 0)).toArray 3))).box.cell 1;have a9:=fun W=>Zmc W a (by omega)
   have aw:Hid (I64 (kd:Int)):=⟨by omega,by omega⟩
   have bb:a<=128:=by omega
   have a2:Hid (a<=maxLen):=ZZ (by unfold maxLen;omega)
   generalize (Qr (List.replicate a 0)).toArray=Z at *
   go_upto_region 10 with fail
   generalize ((wc.alloc (.cells Z 3)).setCell ⟨w.heap.size+1,1,none⟩ (.slice (some ⟨wc.heap.size,0,none⟩) a a))=W6 at *;clear a9 a1 e1 GS;generalize wc.heap.size=G at *;obtain⟨V,-⟩:=ap.o.sin.box.cell 1;go_wp2
   go_loopw[10,57] (fun th ix wr=>∃ (q:Nat) (f:Value) (m:List UInt8) (B:List Int) (t:Bool),th=.bool t∧ix=.int .i64 (q:Int)∧q<=a∧Hid (DIn w wr kd g p R a G q f m B t)) (fun _ ix _=>a-(intOf ix).toNat)
   case atStart=>exact⟨0,_,_,_,true,rfl,rfl,zai _,ap⟩
   case round=>
    clear ap V;obtain⟨q,f,m,B,t,rfl,rfl,hq,c⟩:=hrel;by_cases ar:q<a
    ·have a7:(q:Int)<(a:Int):=by omega
     obtain⟨V,-⟩:=c.out.sin.box.cell 1;have ba:=c.out.far;have aP:Hid (wr.drew.cell? ⟨w.heap.size+1,1,none⟩=some (.slice (some ⟨G,0,none⟩) a a)):=V;have aJ:=ZZ (a8.o m wr.drew f c.out.sin.cap c.out.sin.rd);have aB:=ZZ (fun W' v' U N Q=>c.out.step (W':=W') (v':=v') ar U N Q)
     have au:=ZZ (fun W' U=>c.out.spot (W':=W') ar U)
     have av:=ZZ (fun W' v' U N Q=>(((c.out.sin.next (W':=W') (v':=v') (m':=behind (Qe m).2 m) U N Q).box).cell 1).1)
     generalize zag (Qe m).1=x at *;generalize behind (Qe m).2 m=m' at *;generalize decide ((Qe m).2≠0)=t' at *;go_wp2
     go_region_held(fun w'=>w'.cell? ⟨w.heap.size+1,1,none⟩=some (.slice (some ⟨G,0,none⟩) a a)) (first | exact aP.o | exact ao.o | exact aK.o)
      (first
       | (go_at_call 218;refine aJ.o.mono ?_;rintro e O ⟨v7,rfl,S,an,aD⟩;have ae:=aD.ofDrew;have ao:Hid (O.cell? ⟨w.heap.size+1,1,none⟩=some (.slice (some ⟨G,0,none⟩) a a)):=av.o O v7 ae S an;obtain⟨k0,k1⟩:=au.o O ae;have aK:Hid ((O.setCell ⟨G,q,none⟩ (.int .i64 x)).cell? ⟨w.heap.size+1,1,none⟩=some (.slice (some ⟨G,0,none⟩) a a)):=ZZ ((zei O _ _ _ (by show G≠w.heap.size+1;omega)).trans ao.o);have a3:=ZZ (aB.o O v7 ae S an);clear S an aD ae))
     clear aP ao aK aJ aB au av k0 k1 V ba c;go_wp2;go_roundw
     case rel=>exact⟨q+1,_,_,_,_,rfl,by go_num,by omega,a3⟩
     case measure=>simp[intOf];omega
    ·have a0:q=a:=by omega
     have a7:¬ (q:Int)<(a:Int):=by omega
     have ax:=c.out.len;have aM:=ZZ (c.out.own a2.o);obtain⟨z,f0⟩:=c.out.sin.res.cell 0;obtain⟨C,f1⟩:=c.out.sin.res.cell 1;obtain⟨A,f2⟩:=c.out.sin.res.cell 2;obtain⟨H,f3⟩:=c.out.sin.res.cell 3;have aa:=ZZ c.out.sin.below;rcases c.out.st with ⟨rfl,u,M,af⟩ | ⟨rfl,M,af⟩
     ·have hu:=(ZbX _ _ _ _ M).2.1
      have aI:m.length=R.length-u:=by rw[af,length_drop]
      have aE:B.take q=B:=zbc (by omega)
      rw[aE,a0] at M;have am:=ZZ M;have N:=c.out.sin.cap.cell.1;obtain⟨a4,c4,rfl,-⟩:=c.out.sin.rd;have HL:=ZZ (fun W h=>Zrd (w.heap.size+1+1) a4 m.length c4 W h)
      clear M aE af;by_cases ai:u=R.length
      ·have ag:m.length=0:=by omega
       rw[ag] at N HL
       have ad:Hid (D=if Yl ⟨kd,B,p,g⟩ then((⟨kd,B,p,g⟩:St),0) else(ZcB,1)):=by
        refine ZZ ?_;rw[J.o];unfold ZjE;rw[am.o];simp only;rw[zaa (by omega),aT.o]
       have aF:=ZZ (ZbX _ _ _ _ am.o).2.2.2;have a5:=ZZ (aM.o.rd aF.o);have q0:=(c.out.sin.box.cell 0).1;have q1:=(c.out.sin.box.cell 1).1;have q2:=(c.out.sin.box.cell 2).1;have q3:=(c.out.sin.box.cell 3).1;have aO:Hid (Calls prog 82 #[.agg #[.int .i64 kd,.slice (some ⟨G,0,none⟩) a a,.bool p,.int .i64 g]] wr fun e w'=>e=.returned (.bool (decide (Yl ⟨kd,B,p,g⟩)))∧Below wr.heap.size wr w'):=ZlG _ ⟨kd,B,p,g⟩ _ ⟨_,rfl,a5.o,aw.o,aU.o⟩
       clear ai aI ag ax J aT
       go_wp2_with fail
       refine(HL.o _ N).mono ?_;rintro e W8 ⟨rfl,rfl⟩
       go_wp2_with fail
       refine aO.o.mono ?_;rintro e O ⟨rfl,S⟩;have F:=ZZ (c.out.sin.more S);have aZ:=ZZ (aM.o.below S zL);clear S z C A H f0 f1 f2 f3 q0 q1 q2 q3 N aO HL;obtain⟨z,f0⟩:=F.o.res.cell 0;obtain⟨C,f1⟩:=F.o.res.cell 1;obtain⟨A,f2⟩:=F.o.res.cell 2;obtain⟨H,f3⟩:=F.o.res.cell 3;have q0:=(F.o.box.cell 0).1;have q1:=(F.o.box.cell 1).1;have q2:=(F.o.box.cell 2).1;have q3:=(F.o.box.cell 3).1;by_cases hm:Yl ⟨kd,B,p,g⟩
       ·rw[zah hm]
        have P:Hid (D=((⟨kd,B,p,g⟩:St),0)):=ad.o.trans (zab hm);clear hm ad;go_wp2;refine zap (v:=.tuple #[.agg #[.int .i64 kd,.slice (some ⟨G,0,none⟩) a a,.bool p,.int .i64 g],.int .i64 0]) (by simp[results,Tryz.results164,go_sem,z,C,A,H]) rfl ?_
        rw[P.o];refine⟨_,rfl,(aZ.o.four w.heap.size (by omega) _ _ _ _).rd aF.o,aw.o,aU.o,fun b U=>?_,Zae F.o.below w.heap.size zL _ _ _ _⟩
        have:=aZ.o.fresh b U;omega
       ·rw[zae hm]
        have P:Hid (D=(ZcB,1)):=ad.o.trans (zaa hm);clear hm ad;go_wp2;refine zap (v:=.tuple #[.agg #[.int .i64 0,.slice none 0 0,.bool false,.int .i64 0],.int .i64 1]) (by simp[results,Tryz.results164,go_sem,z,C,A,H]) rfl ?_
        rw[P.o];exact Zau.zero 1 (Zae F.o.below w.heap.size zL _ _ _ _)
      ·have ag:(0:Int)<(m.length:Int):=by omega
       have P:Hid (D=(ZcB,3)):=by
        refine ZZ ?_;rw[J.o];unfold ZjE;rw[am.o];simp only;rw[zab ai]
       clear ai aI ax J
       go_wp2_with fail
       refine(HL.o _ N).mono ?_;rintro e W8 ⟨rfl,rfl⟩;go_wp2;refine zap (v:=.tuple #[.agg #[.int .i64 0,.slice none 0 0,.bool false,.int .i64 0],.int .i64 3]) (by simp[results,Tryz.results164,go_sem,z,C,A,H]) rfl ?_
       rw[P.o];exact Zau.zero 3 (Zae aa.o w.heap.size zL _ _ _ _)
     ·rw[a0] at M
      have P:Hid (D=(ZcB,3)):=by
       refine ZZ ?_;rw[J.o];unfold ZjE;rw[M]
      clear M af c;go_wp2;refine zap (v:=.tuple #[.agg #[.int .i64 0,.slice none 0 0,.bool false,.int .i64 0],.int .i64 3]) (by simp[results,Tryz.results164,go_sem,z,C,A,H]) rfl ?_
      rw[P.o];exact Zau.zero 3 (Zae aa.o w.heap.size zL _ _ _ _)
end Go.Proofs.YtnahjngbneicaaaGreatDoor
