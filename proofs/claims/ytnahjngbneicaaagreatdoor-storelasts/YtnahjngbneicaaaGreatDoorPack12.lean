import Derived.Test.YtnahjngbneicaaaGreatDoorPack11
namespace Go.Proofs.YtnahjngbneicaaaGreatDoor
open _root_.Go.Proofs.Tryz
open List (drop_drop length_append length_drop mem_cons mem_of_mem_take)
set_option maxHeartbeats 8000000
set_option maxRecDepth 100000
open Go.RowKit
variable {d e v v' x:Value} {G T b k n u:Nat} {W W' X w w':World} {R l m m':List UInt8} {cs:Array Value} {a c g kd:Int} {xs:List Int} {i:Bool}
theorem ZiL {K:Nat->Prop} {pd p:Nat} {s:Sto} {d:Dk} {N:Nat} (vl:Value) (l:List Rec) (w:World) (h:SD K w pd p s d N T) (hK:∀ k,K k->k<w.heap.size) (C:OkS s) (hr:RdR w vl l) (aI:l=[]∨∀ k,vl.ownBlock=some k->K k)
 (ba:s.log.pcs.length<=500000) (bc:s.log.recs.length<=5000000) (hN:N<=900000) (hT:T<=900000000):
 Calls prog 22 #[ptr p,vl] w fun e w'=>Jz K w pd p (X5 l (s,d)) (N+2) (T+30000) e w':=by
 have aq:=ZZ (ZbF vl l w hr);have HS:=ZZ h;have HK:=ZZ hK
 have aH:Hid (∀ W,Below w.heap.size w W->Calls prog 14 #[ptr p] W fun e w'=>e=.returned (.int .i64 s.next)∧Below w.heap.size w w'):=ZZ (fun W f=>((HS.o.below f).next C.num).mono (by
  rintro e w' ⟨rfl,y⟩
  exact⟨rfl,f.trans (y.mono f.size)⟩))
 obtain⟨Z,ay⟩:∃ Z,Z=X5 l (s,d):=⟨_,rfl⟩;rw[<-ay];have aE:=ZZ ay;have aY:Hid (∀ W c,Below w.heap.size w W->Jz K w pd p ((s,d),c) (N+2) (T+30000) (.returned (.int .i64 c)) W):=ZZ (fun W c f=>⟨rfl,(HS.o.below f).mono (by omega) (by omega),Ql.ofBelow f⟩)
 by_cases m:Yc l
 case neg=>
  rw[decide_eq_false m] at aq;have HR:Hid (Z=((s,d),1)):=ZZ (by rw[aE.o];unfold X5;rw[if_pos m])
  obtain⟨ra,rc,rfl,-⟩:=hr;clear h hK C aI ay m
  go_enter func22,ntmps22
  go_wp2_with fail
  refine aq.o.mono ?_;rintro e W1 ⟨rfl,x⟩;have aS:=ZZ x;clear x;go_wp2;go_ret;rw[HR.o];exact aY.o W1 1 aS.o
 rw[decide_eq_true m] at aq;have bn:=ZZ hr;have bT:=ZZ aI;have aM:1<=l.length:=m.1;have a8:l.length<=256:=m.2.1;obtain⟨ra,rc,rfl,bz,bD,-,bk,b6⟩:=hr;rcases b6 with h0 | ⟨b,aw,rfl,aK⟩
 ·rw[h0] at aM;simp at aM
 have aL:l.getD 0 Qi=l.headD Qi:=by cases l <;> rfl
 have ae:Hid (∀ W,Below w.heap.size w W->W.cell? ⟨b,aw,none⟩=some (.int .i64 (l.headD Qi).idx)):=ZZ (fun W f=>by
  have i:=(aK 0 (by omega)).keep (f.block b (aK 0 (by omega)).lt)
  have h1:=i.1;rw[aL,Nat.zero_mul,Nat.add_zero] at h1
  exact h1)
 have aQ:Hid (∀ W,Below w.heap.size w W->Below w.heap.size w W.drew):=ZZ (fun W f=>f.drew)
 by_cases V:(l.headD Qi).idx=s.next
 case neg=>
  have HR:Hid (Z=((s,d),15)):=ZZ (by rw[aE.o];unfold X5;rw[if_neg (fun t=>t m),if_pos V])
  have aa:((l.headD Qi).idx != s.next)=true:=by rw[bne_iff_ne];exact V
  have bK:(0:Int)<(l.length:Int):=by omega
  generalize s.next=nx at *;generalize (l.headD Qi).idx=O at *;clear h hK C aI ay m aK aL bk V
  go_enter func22,ntmps22
  go_wp2_with fail
  refine aq.o.mono ?_;rintro e W1 ⟨rfl,x⟩;have aS:=ZZ x;have af:=ZZ (aQ.o W1 x);clear x
  go_upto_region 3 with fail
  go_cut[12] (fun v wc=>v=.bool true∧Hid (Below w.heap.size w wc))
  case first=>
   go_region_held(fun W=>W.cell? ⟨b,aw,none⟩=some (.int .i64 O))
    (first | (with_reducible exact ae.o _ af.o) | (with_reducible exact ae.o _ B.o))
    (first | (go_at_call 14;refine(aH.o _ af.o).mono ?_;rintro e W2 ⟨rfl,ag⟩;have B:=ZZ ag;clear ag))
   all_goals
    go_wp2_with fail
    go_meet
    exact⟨by first | rfl | (rw[aa]),B⟩
  case rest=>
   obtain⟨rfl,HB⟩:=hcut;go_wp2;go_ret;rw[HR.o];exact aY.o _ 15 HB.o
 have aa:((l.headD Qi).idx != s.next)=false:=by rw[V];simp
 have a1:Qz (l.headD Qi):=by
  rw[<-aL];rw[show l.getD 0 Qi=l[0]'(by omega) by simp[List.getD,show 0<l.length by omega]]
  exact m.2.2.1 _ (List.getElem_mem _)
 have bf:0<=s.next:=by rw[<-V];exact a1.2.1
 have aX:s.next<4611686018427387904:=by rw[<-V];exact a1.2.2.1
 have aW:0<=s.now.st.kind∧s.now.st.kind<6:=⟨C.now.1.2.2.2.1,C.now.1.2.2.2.2.1⟩;have bC:=ZsU m aW aX;obtain⟨g,au⟩:∃ g,g=Jr s d:=⟨_,rfl⟩;obtain⟨BA,ad⟩:∃ BA,BA=Jv s l:=⟨_,rfl⟩;obtain⟨⟨D,c⟩,hD⟩:∃ r,r=Qy d g BA:=⟨_,rfl⟩
 have bl:I64 g:=by
  rw[au];unfold Jr;split
  ·obtain⟨F,M,I,L,⟨L1,g1,g2,-⟩,-⟩:=h
   exact ZcQ g2 2 (by decide) (by decide)
  ·exact C.cu
 have ar:Hid (Z=if c=0 then((Y3 s g l,D),0) else((s,D),c)):=ZZ (by
  rw[aE.o];unfold X5;rw[if_neg (fun t=>t m),if_neg (fun t=>t V)]
  dsimp only
  rw[<-au,<-ad,<-hD])
 have a7:Hid (∀ W,Below w.heap.size w W->Calls prog 49 #[.slice (some ⟨b,aw,none⟩) l.length rc] W fun e w'=>∃ v',e=.returned v'∧Own w' w.heap.size v' (Qd (X9 l))∧Below w.heap.size w w'):=ZZ (fun W f=>(ZjS _ l W (bn.o.below f zL) m (by have:=ZiK m;omega)).mono (by
  rintro e w' ⟨v',rfl,j,y⟩
  exact⟨v',rfl,j.mono f.size,f.trans (y.mono f.size)⟩))
 have J:Hid (∀ W,Below w.heap.size w W->W.cell? ⟨p,0,none⟩=some (ptr pd)∧W.cell? ⟨p,12,none⟩=some (.int .i64 s.cur)):=ZZ (fun W f=>by
  obtain⟨⟨c0,-,bO,-⟩,-⟩:=(HS.o.below f).cells
  exact⟨c0,bO⟩)
 have bd:Hid (∀ vB W,Own W w.heap.size vB BA->Below w.heap.size w W->Calls prog 52 #[ptr pd,.int .i64 g,vB] W fun e w'=>e=.returned (.int .i64 c)∧SD K w' pd p s D (N+2) (T+30000)∧Ql (fun k=>¬ K k) w w'):=ZZ (fun vB W j f=>by
  refine((HS.o.fresh f).disk (c:=c) (d':=D) (N':=N+2) (T':=T+30000) (fun k hk=>?_) (fun F hF b7=>?_)).mono ?_
  ·rcases hk with hk | hk
   ·exact Nat.lt_of_lt_of_le (HK.o k hk) f.size
   ·exact hk.2
  ·have:=Zkj g bl vB BA W hF j.rd (.inr fun k hk m=>b7 k m (.inr ⟨(World.ownsRow.lt j k hk).1,(World.ownsRow.lt j k hk).2⟩)) (by omega) (by omega) (by rw[ad];omega)
   rw[<-hD] at this;refine this.mono ?_;rintro e w' ⟨g0,F',g1,g2⟩;exact⟨g0,F',g1.mono zL (by rw[ad];omega),g2⟩
  ·rintro e w' ⟨he,U,bS⟩
   exact⟨he,U.less (fun k hk=>.inl hk),(Ql.ofBelow f).trans (bS.mono (fun k hk hn=>hk (.inl hn))) (fun _ _ t=>t)⟩)
 have E:Hid (∀ W,Ql (fun k=>¬ K k) w W->RdR W (.slice (some ⟨b,aw,none⟩) l.length rc) l∧∀ k,K k->k<W.heap.size):=ZZ (fun W j=>⟨bn.o.keepK bT.o j,fun k hk=>Nat.lt_of_lt_of_le (HK.o k hk) j.size⟩)
 have H:=ZZ C;have aJ:=ZZ (And.intro ba bc);have aZ:=ZZ (And.intro aM a8);have bK:(0:Int)<(l.length:Int):=by omega
 have cb:(l.length:Int)<=256:=by omega
 by_cases z:s.cur=0
 ·have aU:(s.cur == 0)=true:=by rw[z];rfl
  have ax:Hid (g=Xs d 2):=ZZ (by rw[au];unfold Jr;rw[if_pos z])
  have a0:Hid (BA=Qd (Xq 3 s.now.st.kind.toNat s.next.toNat)++Qd (X9 l)):=ZZ (by rw[ad];unfold Jv;rw[if_pos z])
  have b4:Hid ((Qd (Xq 3 s.now.st.kind.toNat s.next.toNat)).length+(Qd (X9 l)).length<=70368744177664):=ZZ (by
   rw[<-length_append,<-a0.o,ad]
   omega)
  have b9:Hid (∀ W,Below w.heap.size w W->Calls prog 50 #[ptr p,.int .i64 2] W fun e w'=>e=.returned (.int .i64 g)∧Below w.heap.size w w'∧Below W.heap.size W w'):=ZZ (fun W f=>by
   obtain⟨F,M,I,L,h1,h2,-⟩:=HS.o.below f;rw[ax.o];refine(Zgn 2 W h2 h1 (by omega) (by decide) (by decide)).mono ?_
   rintro e w' ⟨rfl,y⟩
   exact⟨rfl,f.trans (y.mono f.size),y⟩)
  have bI:Hid (∀ W,Below w.heap.size w W->Calls prog 51 #[ptr p] W fun e w'=>∃ v',e=.returned v'∧Own w' w.heap.size v' (Qd (Xq 3 s.now.st.kind.toNat s.next.toNat))∧Below w.heap.size w w'∧Below W.heap.size W w'):=ZZ (fun W f=>by
   obtain⟨F,M,I,L,h1,h2,-⟩:=HS.o.below f;refine(ZlZ W h2 C.num aW aX bf).mono ?_;rintro e w' ⟨v',rfl,j,y⟩
   exact⟨v',rfl,j.mono f.size,f.trans (y.mono f.size),y⟩)
  have be:Hid (∀ W,SD K W pd p { s with log:=(s.log.start g s.next).add l,now:=(Q3 s.now l).1,cur:=g,nw:=true } D (N+2) (T+30000)->Ql (fun k=>¬ K k) w W->c=0->Jz K w pd p Z (N+2) (T+30000) (.returned (.int .i64 0)) W):=ZZ (fun W U j i=>by
   rw[ar.o,if_pos i];refine⟨rfl,?_,j⟩;have e1:Y3 s g l={ s with log:=(s.log.start g s.next).add l,now:=(Q3 s.now l).1,cur:=g,nw:=true }:=by unfold Y3;rw[if_pos z,if_pos z]
   rw[e1]
   exact U)
  have a2:Hid (∀ W,SD K W pd p s D (N+2) (T+30000)->Ql (fun k=>¬ K k) w W->c≠0->Jz K w pd p Z (N+2) (T+30000) (.returned (.int .i64 c)) W):=ZZ (fun W U j i=>by
   rw[ar.o,if_neg i]
   exact⟨rfl,U,j⟩)
  have bA:Hid (s.cur≠0->s.log.pcs.length≠0):=ZZ C.cur;have bt:=ZZ z;obtain⟨nx,ai⟩:∃ nx,nx=s.next:=⟨_,rfl⟩;obtain⟨O,az⟩:∃ O,O=(l.headD Qi).idx:=⟨_,rfl⟩;rw[<-ai] at aH aa;rw[<-az] at ae aa;have aV:=ZZ ai;obtain⟨A,ap⟩:∃ A,A=s.cur:=⟨_,rfl⟩;rw[<-ap] at J aU;have bE:=ZZ ap;clear ap;clear h hK C aI ay m aK aL bk V ai az hD ad au z aE ar a1 bC bl aW bf aX ba bc bz bD aM a8 aY
  go_enter func22,ntmps22
  go_wp2_with fail
  refine aq.o.mono ?_;rintro e W1 ⟨rfl,x⟩;have aS:=ZZ x;have af:=ZZ (aQ.o W1 x);clear x
  go_upto_region 3 with fail
  go_cut[12] (fun v wc=>v=.bool false∧Hid (Below w.heap.size w wc))
  case first=>
   go_region_held(fun W=>W.cell? ⟨b,aw,none⟩=some (.int .i64 O))
    (first | (with_reducible exact ae.o _ af.o) | (with_reducible exact ae.o _ B.o))
    (first | (go_at_call 14;refine(aH.o _ af.o).mono ?_;rintro e W2 ⟨rfl,ag⟩;have B:=ZZ ag;clear ag))
   all_goals
    go_wp2_with fail
    go_meet
    exact⟨by first | rfl | (rw[aa]),B⟩
  case rest=>
  obtain⟨W2,rfl⟩:∃ W,W=wc:=⟨_,rfl⟩;obtain⟨rfl,B⟩:=hcut;have aN:=ZZ (aQ.o W2 B.o)
  go_upto_region 5 with fail
  go_cut[5,6] (fun v5 v6 wc=>v5=.int .i64 A∧(∃ a n c,v6=.slice a n c)∧Hid (Own wc w.heap.size v6 (Qd (X9 l)))∧Hid (Below w.heap.size w wc))
  case first=>
   go_region_held(fun W=>W.cell? ⟨p,12,none⟩=some (.int .i64 A))
    (first | (with_reducible exact(J.o _ aN.o).2) | (with_reducible exact(J.o _ G.o).2))
    (first | (go_at_call 49;refine(a7.o _ aN.o).mono ?_;rintro e Q ⟨v3,rfl,ak,aO⟩;have am:=ZZ ak;have G:=ZZ aO;obtain⟨z1,z2,z3,hz⟩:∃ a n c,v3=Value.slice a n c:=(by obtain⟨a,c,t⟩:=ak.shape;exact⟨a,_,c,t⟩);subst hz;clear ak aO))
   all_goals
    go_wp2_with fail
    go_meet
    exact⟨rfl,⟨_,_,_,rfl⟩,am,G⟩
  case rest=>
  obtain⟨Q,rfl⟩:∃ W,W=wc:=⟨_,rfl⟩;obtain⟨rfl,⟨z1,z2,z3,rfl⟩,am,G⟩:=hcut;obtain⟨q0,aD⟩:=J.o Q G.o
  go_wp2_with fail
  refine(b9.o Q G.o).mono ?_;rintro e W4 ⟨rfl,bx,bu⟩;have bZ:=ZZ bx;have bL:=ZZ bu;clear bu;have bX:Hid (Own W4 w.heap.size (.slice z1 z2 z3) (Qd (X9 l))):=ZZ (am.o.below (show Below Q.heap.size Q W4 from bL.o) zL);clear bx q0 aD
  go_wp2_with fail
  refine(bI.o W4 bZ.o).mono ?_;rintro e W5 ⟨v5,rfl,a5,a3,bp⟩;have bY:=ZZ a3;have bG:=ZZ bp;clear bp;have bU:=ZZ a5;have b1:Hid (Rd W5 (.slice z1 z2 z3) (Qd (X9 l))):=ZZ (bX.o.rd.below (show Below W4.heap.size W4 W5 from bG.o) zL);have ca:Hid (w.heap.size<=W5.heap.size):=ZZ a3.size
  obtain⟨y1,y2,y3,hy⟩:∃ a n c,v5=Value.slice a n c:=by
   obtain⟨a,c,t⟩:=a5.shape;exact⟨a,_,c,t⟩
  subst hy;clear a5 a3
  go_wp2_with(at_builtin;refine Xw _ rfl _ _ rfl w.heap.size _ _ rfl bU.o _ (Qd (X9 l)) rfl b1.o b4.o ca.o ?_)
  intro v6 W6 aT bq;rw[<-a0.o] at aT;have bP:=ZZ aT;have bF:Hid (Below w.heap.size w W6):=ZZ (bY.o.trans bq)
  obtain⟨x1,x2,x3,bW⟩:∃ a n c,v6=Value.slice a n c:=by
   obtain⟨a,c,t⟩:=aT.shape;exact⟨a,_,c,t⟩
  subst bW;obtain⟨q0,aD⟩:=J.o W6 bF.o;clear aT bq
  go_wp2_with fail
  refine(bd.o _ W6 bP.o bF.o).mono ?_;rintro e u ⟨rfl,an,aB⟩;have ao:=ZZ an;have av:=ZZ aB;obtain⟨⟨-,-,Y,ab⟩,R⟩:=an.cells;clear an aB q0 aD;by_cases i:c=0
  case neg=>
   have bH:(c != 0)=true:=by rw[bne_iff_ne];exact i
   have HE:=ZZ (a2.o u ao.o av.o i);clear i R Y ab;go_wp2;go_ret;exact HE.o
  have b0:=ZZ i;subst i;rw[<-bE.o] at Y;have b3:=ZZ (ao.o.next H.o.num);rw[<-aV.o] at b3
  have b8:Hid (∀ W,Below u.heap.size u W->Calls prog 53 #[.pointer (some ⟨p,1,none⟩),.int .i64 g,.int .i64 nx] W fun e w'=>e=.returned (.tuple #[])∧SD K w' pd p { s with log:=s.log.start g s.next } D (N+2) (T+30000)∧Ql (fun k=>¬ K k) w w'):=ZZ (fun W f=>by
   have y:=(ao.o.below f).begin (fun k hk=>Nat.lt_of_lt_of_le ((E.o u av.o).2 k hk) f.size) g nx (by have:=aJ.o.1;omega)
   rw[aV.o] at y ⊢;refine y.mono ?_;rintro e w' ⟨he,h2,h3⟩
   exact⟨he,h2,(av.o.trans (Ql.ofBelow (F:=fun _=>False) f) (fun _ _ h=>h.elim)).trans h3 (fun _ _ h=>h)⟩)
  have b2:Hid (Below u.heap.size u u.drew):=ZZ (Below.refl _ _).drew
  have bM:Hid (∀ W,Below u.heap.size u W->Calls prog 14 #[ptr p] W fun e w'=>e=.returned (.int .i64 nx)∧Below u.heap.size u w'):=ZZ (fun W f=>by
   rw[aV.o];refine((ao.o.below f).next H.o.num).mono ?_;rintro e w' ⟨rfl,y⟩
   exact⟨rfl,f.trans (y.mono f.size)⟩)
  go_upto_region 12 with fail
  go_cut[] (fun wc=>Hid (SD K wc pd p { s with log:=s.log.start g s.next } D (N+2) (T+30000)∧Ql (fun k=>¬ K k) w wc))
  case first=>
   go_region_with
    (first
     | (go_at_call 14;refine(bM.o _ (by first | exact b2.o | exact Below.refl _ _)).mono ?_;rintro e W8 ⟨rfl,br⟩;have bJ:=ZZ br;clear br)
     | (go_at_call 53;refine(b8.o W8 bJ.o).mono ?_;rintro e W9 ⟨rfl,bB,bv⟩;have ac:=ZZ (And.intro bB bv);clear bB bv))
   all_goals
    go_wp2_with fail
    go_meet
    exact ac
  case rest=>
  obtain⟨W9,rfl⟩:∃ W,W=wc:=⟨_,rfl⟩;have ac:=hcut;clear hcut R Y ab;obtain⟨⟨-,-,Y,ab⟩,R⟩:=ac.o.1.cells;have bQ:=R 12;have bN:=R 13;have a9:=ZZ (((ac.o.1.setHead (s':={ s with log:=s.log.start g s.next,cur:=g }) (E.o W9 ac.o.2).2 12 (.int .i64 g) rfl rfl rfl (fun _=>rfl))))
  have bb:=ZZ (a9.o.1.setHead (s':={ s with log:=s.log.start g s.next,cur:=g,nw:=true }) (fun k hk=>by have:=(E.o W9 ac.o.2).2 k hk;simpa using this) 13 (.bool true) rfl rfl rfl (fun _=>rfl))
  obtain⟨X,bj⟩:∃ X,X=(W9.setCell ⟨p,12,none⟩ (.int .i64 g)).setCell ⟨p,13,none⟩ (.bool true):=⟨_,rfl⟩;have P:Hid (SD K X pd p { s with log:=s.log.start g s.next,cur:=g,nw:=true } D (N+2) (T+30000)∧Ql (fun k=>¬ K k) w X):=ZZ (by rw[bj];exact⟨bb.o.1,(ac.o.2.trans a9.o.2 (fun _ _ h=>h)).trans bb.o.2 (fun _ _ h=>h)⟩)
  have bo:({ s with log:=s.log.start g s.next }:Sto).cur=A:=bE.o.symm
  rw[bo] at Y;have bw:({ s with log:=s.log.start g s.next }:Sto).nw=s.nw:=rfl
  rw[bw] at ab;clear bo bw R
  go_upto_region 14 with fail
  rw[<-bj];clear bj Y ab bQ bN ac a9 bb
  have aA:=ZZ (P.o.1.add (E.o X P.o.2).2 _ l (E.o X P.o.2).1 (by simp[Lgb.start]) (by have:=aJ.o.1;simp[Lgb.start];omega) (by have:=aJ.o.2;have:=aZ.o.2;show s.log.recs.length+l.length<=_;omega) (fun q hq=>by
   have bi:=H.o.log.start g s.next (by have:=H.o.log.f0;have:=Zai H.o.log.ch;show 0<=s.log.next;omega) H.o.log.top (.inr rfl)
   have:=ZaY bi.ch q hq;have:=bi.f0;have:=bi.top
   omega))
  go_wp2_with fail
  refine aA.o.mono ?_;rintro e S ⟨rfl,aG,aP⟩;have a6:Hid (SD K S pd p { s with log:=(s.log.start g s.next).add l,cur:=g,nw:=true } D (N+2) (T+30000)):=ZZ aG
  have al:Hid (Ql (fun k=>¬ K k) w S):=ZZ (P.o.2.trans aP (fun _ _ h=>h))
  clear aG aP aA;obtain⟨la,ln,lc,ta,tn,tc,⟨c5,c6,c7,c8,c9,bg⟩,aC⟩:=a6.o.takes (E.o S al.o).2 H.o.now _ l (E.o S al.o).1 (by have:=aZ.o.2;omega)
  have aj:=ZZ aC;clear aC
  dsimp only at c5 c6 c8 c9 aj
  go_wp2_with fail
  refine aj.o.mono ?_;rintro e WC ⟨xa,xn,xc,ua,un,uc,rfl,⟨e5,e6,e7,e8,e9,bV⟩,fz,aR,aF⟩;have a4:=ZZ (be.o _ aR (al.o.trans aF (fun _ _ h=>h)) (by first | rfl | trivial))
  have f5:=fz 5;have f6:=fz 6;have f7:=fz 7;have f8:=fz 8;have f9:=fz 9;have b5:=fz 10;clear aR aF fz c5 c6 c7 c8 c9 bg aj;generalize Q3 s.now l=tk at *;go_wp2;go_ret;exact a4.o
 ·have aU:(s.cur == 0)=false:=beq_eq_false_iff_ne.2 z
  have ax:Hid (g=s.cur):=ZZ (by rw[au];unfold Jr;rw[if_neg z])
  have a0:Hid (BA=Qd (X9 l)):=ZZ (by rw[ad];unfold Jv;rw[if_neg z])
  rw[<-a0.o] at a7;rw[<-ax.o] at J
  have be:Hid (∀ W,SD K W pd p { s with log:=s.log.add l,now:=(Q3 s.now l).1 } D (N+2) (T+30000)->Ql (fun k=>¬ K k) w W->c=0->Jz K w pd p Z (N+2) (T+30000) (.returned (.int .i64 0)) W):=ZZ (fun W U j i=>by
   rw[ar.o,if_pos i];refine⟨rfl,?_,j⟩;have e1:Y3 s g l={ s with log:=s.log.add l,now:=(Q3 s.now l).1 }:=by unfold Y3;rw[if_neg z,if_neg z,ax.o]
   rw[e1]
   exact U)
  rw[<-ax.o] at aU
  have a2:Hid (∀ W,SD K W pd p s D (N+2) (T+30000)->Ql (fun k=>¬ K k) w W->c≠0->Jz K w pd p Z (N+2) (T+30000) (.returned (.int .i64 c)) W):=ZZ (fun W U j i=>by
   rw[ar.o,if_neg i]
   exact⟨rfl,U,j⟩)
  have bA:Hid (s.cur≠0->s.log.pcs.length≠0):=ZZ C.cur;have bt:=ZZ z;obtain⟨nx,ai⟩:∃ nx,nx=s.next:=⟨_,rfl⟩;obtain⟨O,az⟩:∃ O,O=(l.headD Qi).idx:=⟨_,rfl⟩;rw[<-ai] at aH aa;rw[<-az] at ae aa;have aV:=ZZ ai;obtain⟨A,ap⟩:∃ A,A=g:=⟨_,rfl⟩;have bR:Hid (s.cur=A):=ZZ (by rw[ap,ax.o])
  rw[<-ap] at J aU bd;clear ap;clear h hK C aI ay m aK aL bk V ai az hD ad au z aE ar a1 bC bl aW bf aX ba bc bz bD aM a8 aY
  go_enter func22,ntmps22
  go_wp2_with fail
  refine aq.o.mono ?_;rintro e W1 ⟨rfl,x⟩;have aS:=ZZ x;have af:=ZZ (aQ.o W1 x);clear x
  go_upto_region 3 with fail
  go_cut[12] (fun v wc=>v=.bool false∧Hid (Below w.heap.size w wc))
  case first=>
   go_region_held(fun W=>W.cell? ⟨b,aw,none⟩=some (.int .i64 O))
    (first | (with_reducible exact ae.o _ af.o) | (with_reducible exact ae.o _ B.o))
    (first | (go_at_call 14;refine(aH.o _ af.o).mono ?_;rintro e W2 ⟨rfl,ag⟩;have B:=ZZ ag;clear ag))
   all_goals
    go_wp2_with fail
    go_meet
    exact⟨by first | rfl | (rw[aa]),B⟩
  case rest=>
  obtain⟨W2,rfl⟩:∃ W,W=wc:=⟨_,rfl⟩;obtain⟨rfl,B⟩:=hcut;have aN:=ZZ (aQ.o W2 B.o)
  go_upto_region 5 with fail
  go_cut[5,6] (fun v5 v6 wc=>v5=.int .i64 A∧(∃ a n c,v6=.slice a n c)∧Hid (Own wc w.heap.size v6 BA)∧Hid (Below w.heap.size w wc))
  case first=>
   go_region_held(fun W=>W.cell? ⟨p,12,none⟩=some (.int .i64 A))
    (first | (with_reducible exact(J.o _ aN.o).2) | (with_reducible exact(J.o _ G.o).2))
    (first | (go_at_call 49;refine(a7.o _ aN.o).mono ?_;rintro e Q ⟨v3,rfl,ak,aO⟩;have am:=ZZ ak;have G:=ZZ aO;obtain⟨z1,z2,z3,hz⟩:∃ a n c,v3=Value.slice a n c:=(by obtain⟨a,c,t⟩:=ak.shape;exact⟨a,_,c,t⟩);subst hz;clear ak aO))
   all_goals
    go_wp2_with fail
    go_meet
    exact⟨rfl,⟨_,_,_,rfl⟩,am,G⟩
  case rest=>
  obtain⟨Q,rfl⟩:∃ W,W=wc:=⟨_,rfl⟩;obtain⟨rfl,⟨z1,z2,z3,rfl⟩,am,G⟩:=hcut;obtain⟨q0,aD⟩:=J.o Q G.o
  go_wp2_with fail
  refine(bd.o _ Q am.o G.o).mono ?_;rintro e u ⟨rfl,an,aB⟩;have ao:=ZZ an;have av:=ZZ aB;obtain⟨⟨-,-,Y,ab⟩,R⟩:=an.cells;clear an aB q0 aD;by_cases i:c=0
  case neg=>
   have bH:(c != 0)=true:=by rw[bne_iff_ne];exact i
   have HE:=ZZ (a2.o u ao.o av.o i);clear i R Y ab;go_wp2;go_ret;exact HE.o
  have b0:=ZZ i;subst i;obtain⟨X,rfl⟩:∃ W,W=u:=⟨_,rfl⟩;have P:=ZZ (And.intro ao.o av.o)
  have aA:=ZZ (P.o.1.add (E.o X P.o.2).2 _ l (E.o X P.o.2).1 (bA.o bt.o) (by have:=aJ.o.1;omega) (by have:=aJ.o.2;have:=aZ.o.2;omega) (fun q hq=>by
   have:=ZaY H.o.log.ch q hq;have:=H.o.log.f0;have:=H.o.log.top
   omega))
  clear R ab;have bm:s.cur=A:=bR.o;rw[bm] at Y;clear bm
  go_wp2_with fail
  refine aA.o.mono ?_;rintro e S ⟨rfl,aG,aP⟩;have a6:Hid (SD K S pd p { s with log:=s.log.add l } D (N+2) (T+30000)):=ZZ aG
  have al:Hid (Ql (fun k=>¬ K k) w S):=ZZ (P.o.2.trans aP (fun _ _ h=>h))
  clear aG aP aA;obtain⟨la,ln,lc,ta,tn,tc,⟨c5,c6,c7,c8,c9,bg⟩,aC⟩:=a6.o.takes (E.o S al.o).2 H.o.now _ l (E.o S al.o).1 (by have:=aZ.o.2;omega)
  have aj:=ZZ aC;clear aC
  dsimp only at c5 c6 c8 c9 aj
  go_wp2_with fail
  refine aj.o.mono ?_;rintro e WC ⟨xa,xn,xc,ua,un,uc,rfl,⟨e5,e6,e7,e8,e9,bV⟩,fz,aR,aF⟩;have a4:=ZZ (be.o _ aR (al.o.trans aF (fun _ _ h=>h)) (by first | rfl | trivial))
  have f5:=fz 5;have f6:=fz 6;have f7:=fz 7;have f8:=fz 8;have f9:=fz 9;have b5:=fz 10;clear aR aF fz c5 c6 c7 c8 c9 bg aj;generalize Q3 s.now l=tk at *;go_wp2;go_ret;exact a4.o
def Bb (w:World) (b:Nat) (v:Value):Prop:=w.heap[b]?=some (.cells #[v] 53 (0,0))
theorem Bb.lt (h:Bb w b v):b<w.heap.size:=(Array.getElem?_eq_some_iff.1 h).1
theorem Bb.cell (h:Bb w b v):w.cell? ⟨b,0,none⟩=some v∧w.frozen? ⟨b,0,none⟩=false:=
 ⟨(cell_of_row w b 0 _ _ _ h).trans rfl,frozen_of_row w b 0 _ _ h⟩
theorem Bb.set (h:Bb w b v) (x:Value):Bb (w.setCell ⟨b,0,none⟩ x) b x:=by
 have:=heap_setCell_same w b 0 _ _ x h;unfold Bb;simpa using this
theorem Rd.setBox (h:Rd w v m) {b:Nat} {ao:Option Addr} {n cap:Nat} (f:w.cell? ⟨b,0,none⟩=some (.slice ao n cap)):Rd (w.setCell ⟨b,0,none⟩ x) v m:=by
 obtain⟨p,t,u,k,l,z,a⟩:=h;refine⟨p,t,u,k,l,z,?_⟩;rcases a with a | ⟨c,d,y,q⟩
 ·exact .inl a
 ·refine .inr ⟨c,d,y,fun j i=>?_⟩
  have g:=q j i
  rw[World.cell?_setCell_other w ⟨b,0,none⟩ ⟨c,d+j,none⟩ x (fun e=>by
   rw[e,g] at f
   cases f)]
  exact g
def behind (d:Nat) (m:List UInt8):List UInt8:=if d=0 then[] else m.drop d
theorem ZiM (ao:Option Addr) (n cap:Nat) (w:World):
 Calls prog 200 #[.slice ao n cap] w fun e w'=>e=.returned (.tuple #[.func (.func 218) #[] #[.pointer (some ⟨w.heap.size,0,none⟩)],.func (.func 219) #[] #[.pointer (some ⟨w.heap.size,0,none⟩)]])∧w'=w.alloc (.cells #[.slice ao n cap] 53):=by
 have a:∀ (fn:Fn) (first cap:Array Value) (w:World),(Instr.makeFunc fn first cap).run prog w=.ok (.func fn first cap) w:=fun _ _ _ _=>rfl
 go_enter func200,ntmps200
 go_wp2;go_ret2;exact⟨rfl,rfl⟩
theorem Zrd (b:Nat) (ao:Option Addr) (n cap:Nat) (w:World) (a:w.cell? ⟨b,0,none⟩=some (.slice ao n cap)):
 Calls prog 219 #[.pointer (some ⟨b,0,none⟩)] w fun e w'=>e=.returned (.int .i64 (n:Int))∧w'=w:=by
 go_enter func219,ntmps219
 go_wp2;go_ret;exact⟨rfl,rfl⟩
theorem Zre (x:Int) (d:Nat) (b:Nat) (v:Value) (m:List UInt8) (w:World) (c:Bb w b v) (i:Rd w v m) (D:d<=m.length) (g:d=0->x=0)
 (f:Calls prog 168 #[v] w fun e w'=>e=.returned (.tuple #[.int .i64 x,.int .i64 (d:Nat)])∧w'=w):
 Calls prog 218 #[.func (.func 168) #[] #[],.pointer (some ⟨b,0,none⟩)] w fun e w'=>∃ v',e=.returned (.tuple #[.int .i64 x,.bool (decide (d≠0))])∧Bb w' b v'∧Rd w' v' (behind d m)∧But b b w w':=by
 have n:=ZZ f;have l:=ZZ c;have y:=ZZ i;obtain⟨ao,cap,rfl,-⟩:=i;obtain⟨t,E⟩:=c.cell;by_cases a:d=0
 ·subst a
  obtain rfl:=g rfl;clear f c g
  go_enter func218,ntmps218
  go_wp2_with fail
  refine n.o.mono ?_;rintro e w' ⟨rfl,rfl⟩;go_wp2;go_ret2;exact⟨_,rfl,l.o.set _,Rd.nil _,(But.refl _ _ _).set _ _ (.inl rfl) _⟩
 ·have A:((d:Int) == 0)=false:=beq_eq_false_iff_ne.2 (by omega)
  have j:=ZZ (ZhY w _ m y.o .i64 (d:Int) (by omega) (by omega))
  have p:Hid (behind d m=m.drop d):=if_neg a;have u:Hid (decide (d≠0)=true):=decide_eq_true a;rw[Int.toNat_natCast] at j;clear f c g a
  go_enter func218,ntmps218
  go_wp2_with fail
  refine n.o.mono ?_;rintro e w' ⟨rfl,rfl⟩
  go_wp2_with(refine ZfF _ rfl _ _ _ _ rfl _ j.o ?_)
  intro F k;have q:=ZZ k;obtain⟨z,B,rfl,-⟩:=k;generalize C:m.drop d=M at *;go_wp2;go_ret2;refine⟨_,by rw[u.o];rfl,l.o.set _,?_,(But.refl _ _ _).set _ _ (.inl rfl) _⟩
  rw[p.o];exact q.o.setBox t
theorem ZiN (x:Int) (d:Nat) (b:Nat) (v:Value) (m:List UInt8) (w:World) (c:Bb w b v) (i:Rd w v m) (D:d<=m.length) (g:d=0->x=0)
 (f:Calls prog 201 #[v] w fun e w'=>e=.returned (.tuple #[.int .i64 x,.int .i64 (d:Nat)])∧w'=w):
 Calls prog 218 #[.func (.func 201) #[] #[],.pointer (some ⟨b,0,none⟩)] w fun e w'=>∃ v',e=.returned (.tuple #[.int .i64 x,.bool (decide (d≠0))])∧Bb w' b v'∧Rd w' v' (behind d m)∧But b b w w':=by
 have n:=ZZ f;have l:=ZZ c;have y:=ZZ i;obtain⟨ao,cap,rfl,-⟩:=i;obtain⟨t,E⟩:=c.cell;by_cases a:d=0
 ·subst a
  obtain rfl:=g rfl;clear f c g
  go_enter func218,ntmps218
  go_wp2_with fail
  refine n.o.mono ?_;rintro e w' ⟨rfl,rfl⟩;go_wp2;go_ret2;exact⟨_,rfl,l.o.set _,Rd.nil _,(But.refl _ _ _).set _ _ (.inl rfl) _⟩
 ·have A:((d:Int) == 0)=false:=beq_eq_false_iff_ne.2 (by omega)
  have j:=ZZ (ZhY w _ m y.o .i64 (d:Int) (by omega) (by omega))
  have p:Hid (behind d m=m.drop d):=if_neg a;have u:Hid (decide (d≠0)=true):=decide_eq_true a;rw[Int.toNat_natCast] at j;clear f c g a
  go_enter func218,ntmps218
  go_wp2_with fail
  refine n.o.mono ?_;rintro e w' ⟨rfl,rfl⟩
  go_wp2_with(refine ZfF _ rfl _ _ _ _ rfl _ j.o ?_)
  intro F k;have q:=ZZ k;obtain⟨z,B,rfl,-⟩:=k;generalize C:m.drop d=M at *;go_wp2;go_ret2;refine⟨_,by rw[u.o];rfl,l.o.set _,?_,(But.refl _ _ _).set _ _ (.inl rfl) _⟩
  rw[p.o];exact q.o.setBox t
def ZcR (X W:World):Prop:=W.heap=X.heap∧W.os=X.os∧W.tape=X.tape∧W.output=X.output
theorem ZcR.refl (X:World):ZcR X X:=⟨rfl,rfl,rfl,rfl⟩
theorem ZcR.drew (h:ZcR X W):ZcR X W.drew:=h
theorem ZcR.set (h:ZcR X W) (a:Addr) (v:Value):ZcR (X.setCell a v) (W.setCell a v):=by
 obtain⟨c,d,e,b⟩:=h;refine⟨?_,d,e,b⟩;simp only [World.setCell,c]
theorem ZcR.below (h:ZcR X W) (B:Nat):Below B X W:=⟨h.2.1,h.2.2.1,h.2.2.2,by rw[h.1];exact Nat.le_refl _,fun k _=>by rw[h.1]⟩
theorem ZcR.cell (h:ZcR X W) (a:Addr):W.cell? a=X.cell? a:=by simp only [World.cell?,h.1]
theorem ZcR.froz (h:ZcR X W) (a:Addr):W.frozen? a=X.frozen? a:=by simp only [World.frozen?,h.1]
def ZjT (w:World) (p:Nat × Nat):Prop:=(∃ x:Int,w.cell? ⟨p.1,p.2,none⟩=some (.int .i64 x))∧w.frozen? ⟨p.1,p.2,none⟩=false
theorem ZjT.set {p:Nat × Nat} (h:ZjT w p) (a:Nat × Nat) (n:Int):ZjT (w.setCell ⟨a.1,a.2,none⟩ (.int .i64 n)) p:=by
 obtain⟨⟨x,b⟩,c⟩:=h;refine⟨?_,by rw[World.frozen?_setCell];exact c⟩
 by_cases e:(⟨a.1,a.2,none⟩:Addr)=⟨p.1,p.2,none⟩
 ·rw[e]
  exact⟨n,World.cell?_setCell_same _ _ _ b⟩
 ·exact⟨x,by rw[World.cell?_setCell_other _ _ _ _ (fun h=>e h)];exact b⟩
theorem Rd.setNum (h:Rd w v m) {p:Nat × Nat} (z:ZjT w p) (x:Value):Rd (w.setCell ⟨p.1,p.2,none⟩ x) v m:=by
 obtain⟨l,q,t,i,k,A,a⟩:=h;refine⟨l,q,t,i,k,A,?_⟩;rcases a with a | ⟨c,b,u,n⟩
 ·exact .inl a
 ·refine .inr ⟨c,b,u,fun j g=>?_⟩
  have f:=n j g
  rw[World.cell?_setCell_other w ⟨p.1,p.2,none⟩ ⟨c,b+j,none⟩ x (fun e=>by
   obtain⟨⟨y,d⟩,-⟩:=z;rw[e,f] at d
   cases d)]
  exact f
def Y7 (w:World):List (Nat × Nat)->List Nat->World
 | p::ps,n::ns=>Y7 (w.setCell ⟨p.1,p.2,none⟩ (.int .i64 (n:Int))) ps ns
 | _,_=>w
theorem ZkH:∀ (w:World) (ps:List (Nat × Nat)) (ns:List Nat) (p:Nat × Nat) (n:Nat),ps.length=ns.length->Y7 w (ps++[p]) (ns++[n])=(Y7 w ps ns).setCell ⟨p.1,p.2,none⟩ (.int .i64 (n:Int))
 | w,[],[],p,n,_=>rfl
 | w,q::ps,m::ns,p,n,h=>by
  rw[List.cons_append,List.cons_append,Y7,ZkH _ ps ns p n (by simpa using h),Y7]
theorem ZnQ:∀ (w:World) (ps:List (Nat × Nat)) (ns:List Nat) {p:Nat × Nat},ZjT w p->ZjT (Y7 w ps ns) p
 | w,[],_,p,h=>by cases ‹List Nat› <;> exact h
 | w,q::ps,[],p,h=>h
 | w,q::ps,m::ns,p,h=>by
  rw[Y7];exact ZnQ _ ps ns (h.set q m)
theorem Zbh:∀ (w:World) (ps:List (Nat × Nat)) (ns:List Nat) (k:Nat),(∀ p ∈ ps,p.1≠k)->(Y7 w ps ns).heap[k]?=w.heap[k]?
 | w,[],ns,k,_=>by cases ns <;> rfl
 | w,q::ps,[],k,_=>rfl
 | w,q::ps,m::ns,k,h=>by
  rw[Y7,Zbh _ ps ns k (fun p a=>h p (by simp[a]))]
  exact Below.heap_setCell _ _ _ _ (fun e=>h q (by simp) e.symm)
theorem Zbi:∀ (w:World) (ps:List (Nat × Nat)) (ns:List Nat) (B:Nat) (a:World),(∀ p ∈ ps,B<=p.1)->Below B a w->Below B a (Y7 w ps ns)
 | w,[],ns,B,a,_,h=>by cases ns <;> exact h
 | w,q::ps,[],B,a,_,h=>h
 | w,q::ps,m::ns,B,a,hp,h=>by
  rw[Y7];exact Zbi _ ps ns B a (fun p h=>hp p (by simp[h])) (h.setCell (hp q (by simp)) _)
def ZAt (w:World) (v:Value) (b:List UInt8) (ps:List (Nat × Nat)) (r:Option (List Nat × List UInt8)) (e:Ending) (w':World):Prop:=
 ∃ (v':Value) (l:List UInt8) (ns:List Nat),e=.returned (.tuple #[v',.bool r.isSome])∧(∀ W,Rd W v b->Rd W v' l)∧(r=none->l=[])∧(∀ x,r=some x->x=(ns,l))∧(∀ n ∈ ns,n<4611686018427387904)∧ns.length<=ps.length∧ZcR (Y7 w (ps.take ns.length) ns) w'
theorem Zrf:∀ (w:World) (ps:List (Nat × Nat)) (ns:List Nat) {v:Value} {m:List UInt8},(∀ p ∈ ps,ZjT w p)->Rd w v m->Rd (Y7 w ps ns) v m
 | w,[],ns,v,m,_,h=>by cases ns <;> exact h
 | w,q::ps,[],v,m,_,h=>h
 | w,q::ps,k::ns,v,m,hp,h=>by
  rw[Y7];exact Zrf _ ps ns (fun p a=>(hp p (by simp[a])).set q k) (h.setNum (hp q (by simp)) _)
theorem Zha (ao:Option Addr) (l:List UInt8) (cap:Nat) (f:l.length<=cap) (d:Nat) (g:d<=l.length):
 ∃ a b,(∀ W,(Instr.sliceAt 53 (.slice ao l.length cap) (some (.int .i64 (d:Int))) none none).run prog W=.ok (.slice a (l.drop d).length b) W)∧∀ W,Rd W (.slice ao l.length cap) l->Rd W (.slice a (l.drop d).length b) (l.drop d):=by
 have c:∃ a b,sliced ao d l.length cap 1=.slice a (l.length-d) b:=by
  unfold sliced;exact⟨_,_,rfl⟩
 obtain⟨a,b,c⟩:=c;refine⟨a,b,fun W=>?_,fun W h=>?_⟩
 ·rw[run_sliceAt_slice W 53 _ _ _ _ Xu,run_slice_l W 53 ao l.length cap Xu .i64 (d:Int) (by omega) (by omega),Jo,Zce,length_drop,<-c]
  rfl
 ·rw[length_drop,<-c]
  have e:=h.mid d l.length cap g zL f zL;rw[List.take_of_length_le (by simp)] at e
  exact e
theorem ZsV {b:List UInt8} (h:(Qb b).2≠0):Zs (n+1) b=(Zs n (b.drop (Qb b).2)).map (fun r=>((Qb b).1::r.1,r.2)):=by rw[Zs,if_neg h]
theorem ZsW {b:List UInt8} (h:(Qb b).2=0):Zs (n+1) b=none:=by rw[Zs,if_pos h]
theorem Zat (N:Nat) (ps:List (Nat × Nat)) (v:Value) (b:List UInt8) (w:World) (C:Rd w v b) (A:∀ p ∈ ps,ZjT w p∧p.1≠N) (am:ps.length<=100)
 (O:w.heap[N]?=some (.cells (ps.map (fun p=>Value.pointer (some ⟨p.1,p.2,none⟩))).toArray 208 (0,0))) (k:Nat) (hk:k=ps.length):
 Calls prog 160 #[v,.slice (some ⟨N,0,none⟩) k k] w fun e w'=>ZAt w v b ps (Zs ps.length b) e w':=by
 subst hk;have U:=ZZ A
 have R:Hid (∀ q,q<ps.length->w.cell? ⟨N,q,none⟩=some (.pointer (some ⟨(ps.getD q (0,0)).1,(ps.getD q (0,0)).2,none⟩))):=ZZ (fun q hq=>by
  rw[cell_of_row w N q _ _ _ O]
  simp[List.getD,hq])
 have aa:Hid (∀ ns,(Y7 w (ps.take (List.length ns)) ns).heap[N]?=w.heap[N]?):=ZZ (fun ns=>Zbh w _ ns N (fun p J=>(A p (mem_of_mem_take J)).2))
 have HG:=ZZ (fun v1 l W h=>ZcJ v1 l W h)
 have HR:Hid (∀ ns,Rd (Y7 w (ps.take (List.length ns)) ns) v b):=ZZ (fun ns=>Zrf w _ ns (fun p J=>(A p (mem_of_mem_take J)).1) C)
 obtain⟨V,Y,hv⟩:∃ a c,v=.slice a b.length c:=by obtain⟨a,c,h,-⟩:=C;exact⟨a,c,h⟩
 subst hv;obtain⟨i,f⟩:∃ i,i=Zs ps.length b:=⟨_,rfl⟩;rw[<-f]
 have S:Hid (i=(Zs (ps.length-0) b).map (fun r=>([]++r.1,r.2))):=ZZ (by
  rw[f,Nat.sub_zero]
  cases Zs ps.length b <;> rfl)
 clear f A C O;have al:(ps.length:Int)<=100:=by omega
 go_enter func160,ntmps160
 go_wp2
 go_loopw[0,12] (fun vb K wr=>∃ (q:Nat) (ns:List Nat) (b':List UInt8) (a:Option Addr) (c:Nat),K=.int .i64 (q:Int)∧vb=.slice a b'.length c∧q<=ps.length∧ns.length=q∧Hid (∀ W,Rd W (.slice V b.length Y) b->Rd W (.slice a b'.length c) b')∧Hid (ZcR (Y7 w (ps.take ns.length) ns) wr)∧Hid (∀ n ∈ ns,n<4611686018427387904)∧Hid (i=(Zs (ps.length-q) b').map (fun r=>(ns++r.1,r.2)))) (fun _ K _=>ps.length-(intOf K).toNat)
 case atStart=>exact⟨0,[],b,V,Y,rfl,rfl,Nat.zero_le _,rfl,ZZ (fun W h=>h),ZZ (by rw[List.length_nil,List.take_zero];exact ZcR.refl w),ZZ (fun n h=>by simp at h),S⟩
 case round=>
  clear S;obtain⟨q,ns,b',a,c,rfl,rfl,hq,E,F,g,G,f⟩:=hrel;have T:Hid (Rd wr (.slice a b'.length c) b'):=ZZ (F.out wr ((HR.o ns).below (g.out.below (Y7 w (ps.take ns.length) ns).heap.size) zL));have t:=ZZ E;by_cases u:q<ps.length
  case neg=>
   obtain rfl:q=ps.length:=by omega
   have z:Hid (i=some (ns,b')):=ZZ (by
    rw[f.out,Nat.sub_self]
    simp[Zs])
   clear E;go_wp2;go_ret2;rw[z.o];exact⟨_,b',ns,rfl,F.out,(fun h=>by cases h),(fun x h=>by injection h with h;exact h.symm),G.out,by rw[t.o];exact Nat.le_refl _,g.out⟩
  have aj:(q:Int)<(ps.length:Int):=by omega
  have ai:ps.length-q=(ps.length-(q+1))+1:=by omega
  have ac:wr.cell? ⟨N,q,none⟩=some (.pointer (some ⟨(ps.getD q (0,0)).1,(ps.getD q (0,0)).2,none⟩)):=by
   rw[g.out.cell];exact(World.cell?_of_block (a:=⟨N,q,none⟩) (aa.o ns)).trans (R.o q u)
  have X:ps.getD q (0,0) ∈ ps:=by
   rw[show ps.getD q (0,0)=ps[q] by simp[List.getD,u]]
   exact List.getElem_mem u
  have B:ZjT (Y7 w (ps.take ns.length) ns) (ps.getD q (0,0)):=ZnQ w _ ns (U.o _ X).1
  have Q:ZjT wr (ps.getD q (0,0)):=⟨by
   obtain⟨x,hx⟩:=B.1
   exact⟨x,by rw[g.out.cell];exact hx⟩,by rw[g.out.froz];exact B.2⟩
  have P:Hid (∀ n:Nat,Y7 w (ps.take (ns++[n]).length) (ns++[n])=(Y7 w (ps.take ns.length) ns).setCell ⟨(ps.getD q (0,0)).1,(ps.getD q (0,0)).2,none⟩ (.int .i64 (n:Int))):=ZZ (fun n=>by
   have e1:ps.take (ns++[n]).length=ps.take ns.length++[ps.getD q (0,0)]:=by
    rw[length_append,List.length_singleton,t.o,List.take_add_one,List.getElem?_eq_getElem u];simp[List.getD,u]
   rw[e1,ZkH w _ ns _ n (by rw[List.length_take,t.o];omega)])
  have ak:=ZZ Q;obtain⟨⟨x0,ab⟩,ae⟩:=Q;clear X B R aa U E;generalize ps.getD q (0,0)=p at *;obtain⟨pb,po⟩:=p
  dsimp only at ac ab ae P
  have M:=ZZ (HG.o _ b' wr T.out);have af:=Ju b'
  have ag:(Qb b').1<4611686018427387904:=by
   rcases Xf b' with h | h
   ·rw[h];decide
   ·exact h.1
  have H:=ZZ (ZsV (n:=ps.length-(q+1)) (b:=b'));have I:=ZZ (ZsW (n:=ps.length-(q+1)) (b:=b'));rw[<-ai] at H I;have L:=ZZ (fun d y=>Zha a b' c (by obtain⟨a',c',h,h2,-⟩:=T.out;simp only [Value.slice.injEq] at h;omega) d y)
  generalize (Qb b').2=d at *;generalize (Qb b').1=n at *;clear HG;by_cases y:d=0
  ·subst y
   have z:Hid (i=none):=ZZ (by rw[f.out,I.o rfl];rfl)
   go_wp2_with fail
   refine M.o.mono ?_;rintro e D ⟨rfl,j⟩;rw[j];clear j D;go_wp2;go_ret2;rw[z.o];exact⟨_,[],ns,rfl,(fun W _=>Rd.nil W),(fun _=>rfl),(fun x h=>by cases h),G.out,by rw[t.o];omega,g.out⟩
  ·have an:((d:Int) == 0)=false:=beq_eq_false_iff_ne.2 (by omega)
   obtain⟨xa,xc,hcut,Z⟩:=L.o d af;have ad:=ZZ Z
   have z:Hid (i=(Zs (ps.length-(q+1)) (b'.drop d)).map (fun r=>((ns++[n])++r.1,r.2))):=ZZ (by
    rw[f.out,H.o y]
    cases Zs (ps.length-(q+1)) (b'.drop d) with
    | none=>rfl
    | some r=>simp)
   clear Z H I f y L;generalize b'.drop d=b2 at *
   go_wp2_with fail
   refine M.o.mono ?_;rintro e D ⟨rfl,j⟩;rw[j];clear j D;go_wp2
   go_region
   all_goals
    go_wp2;go_roundw
    case rel=>exact⟨q+1,ns++[n],b2,xa,xc,by go_num,rfl,by omega,by rw[length_append,List.length_singleton,t.o],ZZ (fun W h=>ad.o W (F.out W h)),ZZ (by rw[P.o];exact g.out.drew.set _ _),ZZ (fun m hm=>by
     rcases List.mem_append.1 hm with h | h
     ·exact G.out m h
     ·rw[List.mem_singleton.1 h];exact ag),z⟩
    case measure=>simp[intOf];omega
def ZjU (b:List UInt8):Option (Ent × List UInt8):=
 match Zs 2 b with
 | none=>none
 | some (ns,l)=>if(Qe l).2=0 then none else some (⟨((ns.getD 0 0:Nat):Int),((ns.getD 1 0:Nat):Int),zag (Qe l).1⟩,l.drop (Qe l).2)
theorem ZeS (b:List UInt8):Zs 1 b=if(Qb b).2=0 then none else some ([(Qb b).1],b.drop (Qb b).2):=rfl
theorem ZiO (b:List UInt8):Zs 2 b=if(Qb b).2=0 then none else if(Qb (b.drop (Qb b).2)).2=0 then none else some ([(Qb b).1,(Qb (b.drop (Qb b).2)).1],(b.drop (Qb b).2).drop (Qb (b.drop (Qb b).2)).2):=by
 rw[Zs];split
 ·rfl
 ·rw[ZeS]
  split <;> rfl
theorem ZpV (n:Nat) (b:List UInt8):Jx (n+1) b=(ZjU b).bind (fun y=>(Jx n y.2).map (fun r=>(y.1::r.1,r.2))):=by
 have h:Jx (n+1) b=if(Qb b).2=0∨(Qb (b.drop (Qb b).2)).2=0∨(Qe (b.drop ((Qb b).2+(Qb (b.drop (Qb b).2)).2))).2=0 then none
  else(Jx n (b.drop ((Qb b).2+(Qb (b.drop (Qb b).2)).2+(Qe (b.drop ((Qb b).2+(Qb (b.drop (Qb b).2)).2))).2))).map (fun r=>(⟨(Qb b).1,(Qb (b.drop (Qb b).2)).1,zag (Qe (b.drop ((Qb b).2+(Qb (b.drop (Qb b).2)).2))).1⟩::r.1,r.2)):=rfl
 rw[h];unfold ZjU;rw[ZiO];by_cases a:(Qb b).2=0
 ·rw[if_pos (.inl a),if_pos a]
  rfl
 rw[if_neg a];by_cases d:(Qb (b.drop (Qb b).2)).2=0
 ·rw[if_pos (.inr (.inl d)),if_pos d]
  rfl
 rw[if_neg d];simp only [drop_drop];by_cases c:(Qe (b.drop ((Qb b).2+(Qb (b.drop (Qb b).2)).2))).2=0
 ·rw[if_pos (.inr (.inr c)),if_pos c]
  rfl
 ·rw[if_neg (by omega),if_neg c]
  rfl
def ZAu (w:World) (v:Value) (b:List UInt8) (e:Ending) (w':World):Prop:=
 ∃ (x:Ent) (v':Value) (l:List UInt8),e=.returned (.tuple #[Zsj x,v',.bool (ZjU b).isSome])∧Zlx x∧(∀ W,Rd W v b->Rd W v' l)∧(∀ y,ZjU b=some y->y=(x,l))∧Below w.heap.size w w'
theorem ZsX:Qe []=(0,0):=by decide
theorem Zzb {R:Nat} (h:Be W R #[.int .i64 0,.int .i64 0,.int .i64 0]) (ns:List Nat) (e:ns.length<=2) (a:∀ n ∈ ns,n<4611686018427387904):
 ∃ x y:Int,Be (Y7 W ([(R,0),(R,1)].take ns.length) ns) R #[.int .i64 x,.int .i64 y,.int .i64 0]∧I64 x∧I64 y∧(ns.length=2->x=((ns.getD 0 0:Nat):Int)∧y=((ns.getD 1 0:Nat):Int)):=by
 have b:I64 0:=Qo (by decide) (by decide)
 match ns,e,a with
 | [],_,_=>exact⟨0,0,h,b,b,fun h=>absurd h (by simp)⟩
 | [n],_,a=>
  have:=a n (by simp)
  refine⟨(n:Int),0,?_,⟨by omega,by omega⟩,b,fun h=>absurd h (by simp)⟩
  have c:=heap_setCell_same W R 0 _ _ (.int .i64 (n:Int)) h;exact c
 | [n,m],_,a=>
  have f:=a n (by simp)
  have c:=a m (by simp)
  refine⟨(n:Int),(m:Int),?_,⟨by omega,by omega⟩,⟨by omega,by omega⟩,fun _=>⟨rfl,rfl⟩⟩
  have d:=heap_setCell_same W R 0 _ _ (.int .i64 (n:Int)) h;exact heap_setCell_same _ R 1 _ _ (.int .i64 (m:Int)) d
theorem ZiP (w:World) (x y z:Obj):((((w.alloc x).alloc y).alloc z).heap[w.heap.size]?=some x∧(((w.alloc x).alloc y).alloc z).heap[w.heap.size+1]?=some y∧(((w.alloc x).alloc y).alloc z).heap[w.heap.size+2]?=some z):=by
 refine⟨?_,?_,?_⟩
 ·exact((Below.heap_alloc _ _ _ (by simp;omega)).trans (Below.heap_alloc _ _ _ (by simp))).trans (heap_alloc_new w x)
 ·refine(Below.heap_alloc _ _ _ (by simp)).trans ?_
  have:=heap_alloc_new (w.alloc x) y;simpa using this
 ·have:=heap_alloc_new ((w.alloc x).alloc y) z
  simpa using this
theorem Be.set (h:Be w b cs) (j:Nat) (x:Value):Be (w.setCell ⟨b,j,none⟩ x) b (cs.setIfInBounds j x):=by
 have:=heap_setCell_same w b j _ _ x h;unfold Be;simpa using this
theorem Be.other {c:Nat} (h:Be w b cs) (j:Nat) (x:Value) (a:b≠c):Be (w.setCell ⟨c,j,none⟩ x) b cs:=(Below.heap_setCell _ _ _ _ a).trans h
theorem Zxy {C:Nat} {b:World} (h:Below C b w) (R:Nat) (a:C<=R) (c e d:Value):Below C b (((w.setCell ⟨R,0,none⟩ c).setCell ⟨R,1,none⟩ e).setCell ⟨R,2,none⟩ d):=
 ((h.setCell a _).setCell a _).setCell a _
theorem ZnR (v:Value) (b:List UInt8) (w:World) (A:Rd w v b):
 Calls prog 202 #[v] w fun e w'=>ZAu w v b e w':=by
 obtain⟨f,u⟩:∃ f,f=((w.alloc (.cells #[.int .i64 0,.int .i64 0,.int .i64 0] 85)).alloc (.cells #[.int .i64 0,.int .i64 0,.int .i64 0] 85)).alloc (.cells #[.pointer (some ⟨w.heap.size+1,0,none⟩),.pointer (some ⟨w.heap.size+1,1,none⟩)] 208):=⟨_,rfl⟩;have h3:=ZiP w (.cells #[.int .i64 0,.int .i64 0,.int .i64 0] 85) (.cells #[.int .i64 0,.int .i64 0,.int .i64 0] 85) (.cells #[.pointer (some ⟨w.heap.size+1,0,none⟩),.pointer (some ⟨w.heap.size+1,1,none⟩)] 208);rw[<-u] at h3;obtain⟨hA,hB,R⟩:=h3;have O:Hid (Below w.heap.size w f):=ZZ (by rw[u];exact(((Below.refl _ _).alloc zL _).alloc (by simp) _).alloc (by simp;omega) _)
 have G:Be f w.heap.size #[.int .i64 0,.int .i64 0,.int .i64 0]:=hA;have m:Be f (w.heap.size+1) #[.int .i64 0,.int .i64 0,.int .i64 0]:=hB;have ao:=ZZ G
 have ab:=ZZ (Zat (w.heap.size+1+1) [(w.heap.size+1,0),(w.heap.size+1,1)] v b f (A.below O.o zL) (fun p n=>by
  simp only [mem_cons,List.not_mem_nil,or_false] at n;rcases n with rfl | rfl
  ·exact⟨⟨⟨0,(m.cell 0).1⟩,(m.cell 0).2⟩,by simp⟩
  ·exact⟨⟨⟨0,(m.cell 1).1⟩,(m.cell 1).2⟩,by simp⟩) (by simp) R 2 rfl)
 have T:=ZZ (fun ns=>Zzb m ns)
 have aa:Hid (∀ ns,Below w.heap.size w (Y7 f ([(w.heap.size+1,0),(w.heap.size+1,1)].take (List.length ns)) ns)):=ZZ (fun ns=>Zbi f _ ns _ w (fun p n=>by
  have:=mem_of_mem_take n;simp only [mem_cons,List.not_mem_nil,or_false] at this
  rcases this with rfl | rfl <;> simp) O.o)
 have V:Hid (∀ ns,Be (Y7 f ([(w.heap.size+1,0),(w.heap.size+1,1)].take (List.length ns)) ns) w.heap.size #[.int .i64 0,.int .i64 0,.int .i64 0]):=ZZ (fun ns=>(Zbh f _ ns _ (fun p n=>by
  have:=mem_of_mem_take n;simp only [mem_cons,List.not_mem_nil,or_false] at this
  rcases this with rfl | rfl <;> simp)).trans G)
 have HG:=ZZ (fun L l W h=>Zak L l W h)
 have D:Hid (ZjU b=match Zs [(w.heap.size+1,0),(w.heap.size+1,1)].length b with | none=>none | some (ns,l)=>if(Qe l).2=0 then none else some (⟨((ns.getD 0 0:Nat):Int),((ns.getD 1 0:Nat):Int),zag (Qe l).1⟩,l.drop (Qe l).2)):=ZZ rfl
 have an:Hid (∀ ns l,Zs [(w.heap.size+1,0),(w.heap.size+1,1)].length b=some (ns,l)->ns.length=2):=ZZ (fun ns l h=>by
  have d:Zs 2 b=some (ns,l):=h;rw[ZiO] at d;split at d
  ·cases d
  split at d
  ·cases d
  injection d with d
  injection d with d _
  rw[<-d]
  rfl)
 unfold ZAu;obtain⟨j,U⟩:∃ j,j=ZjU b:=⟨_,rfl⟩;rw[<-U] at D ⊢;obtain⟨ok,M⟩:∃ ok,ok=j.isSome:=⟨_,rfl⟩;rw[<-M];have E:=ZZ M;clear M;generalize Zs [(w.heap.size+1,0),(w.heap.size+1,1)].length b=GL at *;have au:=ZZ A;obtain⟨va,vc,hv⟩:∃ a c,v=.slice a b.length c:=by obtain⟨a,c,h,-⟩:=A;exact⟨a,c,h⟩
 subst hv;clear A hA hB R G m U
 go_enter func202,ntmps202
 go_wp2_with fail
 rw[<-u];refine ab.o.mono ?_;rintro e g ⟨L,l,ns,rfl,I,X,H,Z,ac,C⟩;obtain⟨x,y,S,al,af,ai⟩:=T.o ns ac Z;have K:Hid (Be g (w.heap.size+1) #[.int .i64 x,.int .i64 y,.int .i64 0]):=ZZ (S.below (C.below (Y7 f ([(w.heap.size+1,0),(w.heap.size+1,1)].take ns.length) ns).heap.size) zL);have am:Hid (Be g w.heap.size #[.int .i64 0,.int .i64 0,.int .i64 0]):=ZZ ((V.o ns).below (C.below (Y7 f ([(w.heap.size+1,0),(w.heap.size+1,1)].take ns.length) ns).heap.size) zL);have F:Hid (Below w.heap.size w g):=ZZ ((aa.o ns).trans (C.below _));have B:=ZZ (I g (au.o.below F.o zL));have az:=ZZ I;obtain⟨a1,c1,av⟩:∃ a c,L=.slice a l.length c:=by obtain⟨a,c,h,-⟩:=B.o;exact⟨a,c,h⟩
 subst av
 have Q:l.length<=c1:=by
  obtain⟨a',c',h,d,-⟩:=B.o;simp only [Value.slice.injEq] at h;omega
 have P:=ZZ (HG.o _ l g B.o);have ap:=G0 l;have ae:I64 (zag (Qe l).1):=ZoL (Zle l);obtain⟨xa,xc,hcut,ak⟩:=Zha a1 l c1 Q (Qe l).2 ap;have ar:=ZZ (fun W h=>ak W (az.o W h))
 have N:Hid (j.isSome=decide (0<(Qe l).2)):=ZZ (by
  rw[D.o]
  cases GL with
  | none=>rw[X rfl,ZsX];rfl
  | some p=>
   have:=H p rfl;subst this
   dsimp only
   by_cases h:(Qe l).2=0
   ·rw[if_pos h,h];rfl
   ·rw[if_neg h,decide_eq_true (by omega)];rfl)
 have ay:Hid (∀ z,j=some z->z=(⟨x,y,zag (Qe l).1⟩,l.drop (Qe l).2)):=ZZ (fun z i=>by
  rw[D.o] at i
  cases GL with
  | none=>cases i
  | some p=>
   have:=H p rfl;subst this;obtain⟨h1,d⟩:=ai (an.o ns l rfl)
   dsimp only at i
   split at i
   ·cases i
   ·injection i with i
    rw[<-i,h1,d])
 have aw:Hid (Zlx ⟨x,y,zag (Qe l).1⟩):=ZZ ⟨al,af,ae⟩;clear I X H Z ac C S ai D an aa V T ab HG ak Q O ao u al af ae;generalize zag (Qe l).1=z at *;generalize (Qe l).2=k at *;generalize l.drop k=l2 at *;have aj:j.isSome=decide ((0:Int)<(k:Int)):=by rw[N.o];exact decide_eq_decide.2 (by omega)
 rw[<-E.o] at aj;have aq:Hid (decide (0<k)=ok):=ZZ (by rw[E.o,N.o])
 clear E aj N
 go_wp2_with fail
 refine P.o.mono ?_;rintro e W2 ⟨rfl,ag⟩;rw[ag];clear ag W2 P;have t:Hid (Be (g.setCell ⟨w.heap.size+1,2,none⟩ (.int .i64 z)) (w.heap.size+1) #[.int .i64 x,.int .i64 y,.int .i64 z]):=ZZ (K.o.set 2 _);have q:Hid (Be (g.setCell ⟨w.heap.size+1,2,none⟩ (.int .i64 z)) w.heap.size #[.int .i64 0,.int .i64 0,.int .i64 0]):=ZZ (am.o.other 2 _ (by omega))
 obtain⟨e2,f2⟩:=K.o.cell 2;have J:Hid (Below w.heap.size w (g.setCell ⟨w.heap.size+1,2,none⟩ (.int .i64 z))):=ZZ (F.o.setCell (Nat.le_succ _) _)
 go_upto_region 5 with fail
 obtain⟨W3,Y⟩:∃ W3,W3=g.setCell ⟨w.heap.size+1,2,none⟩ (.int .i64 z):=⟨_,rfl⟩;rw[<-Y] at t q J ⊢;clear Y e2 f2 K am F B;obtain⟨x0,g0⟩:=t.o.cell 0;obtain⟨x1,g1⟩:=t.o.cell 1;obtain⟨x2,g2⟩:=t.o.cell 2;obtain⟨y0,m0⟩:=q.o.cell 0;obtain⟨y1,m1⟩:=q.o.cell 1;obtain⟨y2,m2⟩:=q.o.cell 2;have aA:¬ (w.heap.size=w.heap.size+1):=by omega
 have aB:¬ (w.heap.size+1=w.heap.size):=by omega
 have ad:=Zxy J.o.drew w.heap.size zL (.int .i64 x) (.int .i64 y) (.int .i64 z);have ax:=ZZ ad;clear ad J q t
 go_region
 all_goals
  go_wp2;refine bodyPost_ret (v:=.tuple #[.agg #[.int .i64 x,.int .i64 y,.int .i64 z],.slice xa l2.length xc,.bool ok]) (by simp[results,Tryz.results202,go_sem,y0,y1,y2,aq.o]) rfl ?_
  exact⟨⟨x,y,z⟩,_,l2,rfl,aw.o,ar.o,ay.o,ax.o⟩
def Zzc (w:World) (TL:Option (List Ent)) (e:Ending) (w':World):Prop:=
 ∃ vt t,e=.returned (.tuple #[vt,.bool TL.isSome])∧Xn w' w.heap.size vt t∧(∀ e ∈ t,Zlx e)∧(∀ t',TL=some t'->t=t')∧Below w.heap.size w w'
def ZzQ (v6 v7:Value):Nat:=
 match v7 with
 | .bool true=>(match v6 with
  | .slice _ n _=>n+1
  | _=>0)
 | _=>0
theorem ZsY {b:List UInt8} {y:Ent × List UInt8} (h:ZjU b=some y):y.2.length+1<=b.length:=by
 unfold ZjU at h;rw[ZiO] at h;split at h
 ·cases h
 ·rename_i ns l a
  split at a
  ·cases a
  ·rename_i d
   split at a
   ·cases a
   ·injection a with a
    injection a with _ hl
    split at h
    ·cases h
    ·rename_i f
     injection h with h
     rw[<-h];have c:=G0 l;show(l.drop _).length+1<=_;rw[length_drop]
     have e:l.length<=b.length:=by
      rw[<-hl,length_drop,length_drop];omega
     omega
theorem Zxz (w:World) (x y:Obj):((w.alloc x).alloc y).heap[w.heap.size]?=some x∧((w.alloc x).alloc y).heap[w.heap.size+1]?=some y:=by
 refine⟨(Below.heap_alloc _ _ _ (by simp)).trans (heap_alloc_new w x),?_⟩
 have:=heap_alloc_new (w.alloc x) y;simpa using this
theorem ZiQ {b:List UInt8} {ns:List Nat} (h:Zs 1 b=some (ns,l)):(Qb b).2≠0∧ns=[(Qb b).1]∧l=b.drop (Qb b).2:=by
 rw[ZeS] at h;split at h
 ·cases h
 ·rename_i a
  injection h with h
  injection h with h2 h3
  exact⟨a,h2.symm,h3.symm⟩
theorem ZiR {b:List UInt8} (h:Zs 1 b=none):(Qb b).2=0:=by
 rw[ZeS] at h;split at h
 ·assumption
 ·cases h
theorem Xn.butD {B R:Nat} {l:List Ent} (h:Xn w B v l) (c:But R T w w') (a:∀ b,v.ownBlock=some b->b≠R∧b≠T):Xn w' B v l:=by
 rcases h.row with ⟨rfl,rfl⟩ | ⟨g,cap,cur,rfl,j,i,e,m,f,k,d⟩
 ·exact Xn.nil _ _
 ·have:=a g rfl
  exact Xn.ofRow rfl j ((c.block g i this.1 this.2).trans e) m f k d
theorem Zmb (v:Value) (b:List UInt8) (w:World) (Q:Rd w v b) (bg:b.length<=100000):
 Calls prog 165 #[v] w fun e w'=>Zzc w (Zbe b) e w':=by
 obtain⟨q,M⟩:∃ q,q=(w.alloc (.cells #[.int .i64 0] 3)).alloc (.cells #[.pointer (some ⟨w.heap.size,0,none⟩)] 208):=⟨_,rfl⟩;have h2:=Zxz w (.cells #[.int .i64 0] 3) (.cells #[.pointer (some ⟨w.heap.size,0,none⟩)] 208);rw[<-M] at h2;obtain⟨S,hC⟩:=h2;have ap:Hid (Below w.heap.size w q):=ZZ (by rw[M];exact((Below.refl _ _).alloc zL _).alloc (by simp) _)
 have aj:=ZZ (Zat (w.heap.size+1) [(w.heap.size,0)] v b q (Q.below ap.o zL) (fun p hp=>by
  rw[List.mem_singleton.1 hp]
  exact⟨⟨⟨0,cell_of_row q w.heap.size 0 _ _ _ S⟩,frozen_of_row q w.heap.size 0 _ _ S⟩,by simp⟩) (by simp) hC 1 rfl)
 have az:Hid (∀ n:Nat,(q.setCell ⟨w.heap.size,0,none⟩ (.int .i64 (n:Int))).cell? ⟨w.heap.size,0,none⟩=some (.int .i64 (n:Int))):=ZZ (fun n=>World.cell?_setCell_same _ _ _ (cell_of_row q w.heap.size 0 _ _ _ S))
 have aG:Hid (∀ ns,Below w.heap.size w (Y7 q ([(w.heap.size,0)].take (List.length ns)) ns)):=ZZ (fun ns=>Zbi q _ ns _ w (fun p hp=>by
  have:=mem_of_mem_take hp;rw[List.mem_singleton.1 this]
  exact Nat.le_refl _) ap.o)
 have a6:=ZZ (fun v1 l W h=>ZnR v1 l W h)
 have Y:=ZZ (Znj (b:=b));have X:Hid ((Qb b).2=0->Zbe b=none):=ZZ (fun h=>by unfold Zbe;rw[if_pos (.inl h)])
 have ao:=ZZ (fun ns l h=>ZiQ (b:=b) (ns:=ns) (l:=l) h)
 have ab:=ZZ (fun h=>ZiR (b:=b) h)
 have hd:=Ju b
 have bk:(Qb b).1<4611686018427387904:=by
  rcases Xf b with h | h
  ·rw[h];decide
  ·exact h.1
 have aN:Hid ([(w.heap.size,0)].length=1):=ZZ rfl;rw[aN.o] at aj;generalize Zs 1 b=GL at *;obtain⟨G,aE⟩:∃ G,G=Zbe b:=⟨_,rfl⟩;rw[<-aE] at Y X ⊢;clear aE;have al:=ZZ Q;obtain⟨va,vc,hv⟩:∃ a c,v=.slice a b.length c:=by obtain⟨a,c,h,-⟩:=Q;exact⟨a,c,h⟩
 subst hv;clear Q S hC aN
 go_enter func165,ntmps165
 go_wp2_with fail
 rw[<-M];refine aj.o.mono ?_;rintro e f ⟨v1,l,ns,rfl,aD,af,ad,aF,aJ,V⟩;have i:Hid (Below w.heap.size w f):=ZZ ((aG.o ns).trans (V.below _));have aR:=ZZ aD;obtain⟨a1,c1,a4⟩:∃ a c,v1=.slice a l.length c:=by obtain⟨a,c,h,-⟩:=aD f (al.o.below i.o zL);exact⟨a,c,h⟩
 subst a4;clear aj aG ap M
 cases GL with
 | none=>
  have m:=ZZ (X.o (ab.o rfl));have a9:=af rfl;subst a9;clear af ad aF aJ V Y X ab ao;show _;go_wp2
  go_loopw[4,6,7] (fun v4 H D wr=>v4=.slice none 0 0∧D=.bool false∧Hid (Below w.heap.size w wr)) (fun _ H D _=>ZzQ H D)
  case atStart=>exact⟨rfl,rfl,i⟩
  case round=>
   obtain⟨rfl,rfl,j⟩:=hrel;go_wp2;go_ret2;rw[m.o];exact⟨_,[],rfl,Xn.nil _ _,(fun r h=>by simp at h),(fun t h=>by cases h),j.out⟩
 | some gp=>
  have:=ad gp rfl;subst this;obtain⟨g1,g2,g3⟩:=ao.o _ _ rfl;subst g2;have L:=ZZ (Y.o g1);rw[<-g3] at L;have bc:l.length<=b.length:=by rw[g3,length_drop];omega
  have ak:f.cell? ⟨w.heap.size,0,none⟩=some (.int .i64 ((Qb b).1:Int)):=by
   rw[V.cell];exact az.o _
  have aW:=ZZ ak;have aX:w.heap.size<f.heap.size:=World.block_lt_of_cell? f ⟨w.heap.size,0,none⟩ ak;generalize (Qb b).1=g at *;clear af ad aF aJ V Y X ab ao g1 g3 hd az ak;obtain⟨u,aa⟩:∃ u,u=Jx g l:=⟨_,rfl⟩;rw[<-aa] at L
  have aC:Hid (u=(Jx (g-0) l).map (fun r=>([]++r.1,r.2))):=ZZ (by
   rw[aa,Nat.sub_zero]
   cases Jx g l <;> rfl)
  clear aa;go_wp2
  go_loopw[4,6,7] (fun v4 H D wr=>∃ (t:List Ent) (d:List UInt8) (P:Option Addr) (O:Nat) (F:Bool),H=.slice P d.length O∧D=.bool F∧t.length<=b.length+1∧Hid (F=true->t.length+d.length<=b.length∧t.length<=g)∧Hid (Xn wr f.heap.size v4 t)∧Hid (∀ e ∈ t,Zlx e)∧Hid (∀ W,Rd W (.slice va b.length vc) b->Rd W (.slice P d.length O) d)∧Hid (F=true->u=(Jx (g-t.length) d).map (fun r=>(t++r.1,r.2)))∧Hid (F=false->u=none)∧Hid (Below f.heap.size f wr)) (fun _ H D _=>ZzQ H D)
  case atStart=>exact⟨[],l,a1,c1,true,rfl,rfl,by simp,ZZ (fun _=>⟨by simp;omega,Nat.zero_le _⟩),ZZ (Xn.nil _ _),ZZ (fun e h=>by simp at h),aR,ZZ (fun _=>aC.o),ZZ (fun h=>by cases h),Below.refl _ _⟩
  case round=>
   clear aC aR;obtain⟨t,d,P,O,F,rfl,rfl,bd,hL,E,Z,hV,hT,hN,j⟩:=hrel;have hR:Hid (Rd wr (.slice P d.length O) d):=ZZ (hV.out wr ((al.o.below i.o zL).below j.out zL));obtain⟨oa,oc,aY⟩:=E.out.shape;subst aY;have bb:wr.cell? ⟨w.heap.size,0,none⟩=some (.int .i64 (g:Int)):=(j.out.cell (p:=⟨w.heap.size,0,none⟩) aX).trans aW.o
   cases F with
   | false=>
    have m:Hid (G=none):=ZZ (by rw[L.o,hN.out rfl];rfl)
    go_wp2;go_ret2;rw[m.o];exact⟨_,t,rfl,E.out.mono i.o.size,Z.out,(fun t h=>by cases h),i.o.trans (j.out.mono i.o.size)⟩
   | true=>
    obtain⟨ba,bi⟩:=hL.out rfl;by_cases be:t.length<g
    case neg=>
     have bf:¬ (t.length:Int)<(g:Int):=by omega
     have aT:Hid (u=some (t,d)):=ZZ (by
      rw[hT.out rfl,show g-t.length=0 by omega]
      simp[Jx])
     have aB:Hid (G=if d=[] then some t else none):=ZZ (by rw[L.o,aT.o];rfl)
     by_cases T:d.length=0
     ·have m:Hid (G=some t):=ZZ (by rw[aB.o,if_pos (List.eq_nil_of_length_eq_zero T)])
      have a8:((d.length:Int) == 0)=true:=by rw[beq_iff_eq];omega
      clear T;go_wp2;go_ret2;rw[m.o];exact⟨_,t,rfl,E.out.mono i.o.size,Z.out,(fun t' h=>by injection h),i.o.trans (j.out.mono i.o.size)⟩
     ·have m:Hid (G=none):=ZZ (by
       rw[aB.o,if_neg (fun e=>T (by rw[e];rfl))])
      have a8:((d.length:Int) == 0)=false:=beq_eq_false_iff_ne.2 (by omega)
      clear T;go_wp2;go_ret2;rw[m.o];exact⟨_,t,rfl,E.out.mono i.o.size,Z.out,(fun t' h=>by cases h),i.o.trans (j.out.mono i.o.size)⟩
    have bj:(t.length:Int)<(g:Int):=by omega
    have aS:g-t.length=(g-(t.length+1))+1:=by omega
    have ac:Hid (u=((ZjU d).bind (fun y=>(Jx (g-(t.length+1)) y.2).map (fun r=>(y.1::r.1,r.2)))).map (fun r=>(t++r.1,r.2))):=ZZ (by
     rw[hT.out rfl,aS,ZpV])
    have aw:=ZZ (fun y h=>ZsY (b:=d) (y:=y) h)
    have N:=ZZ (a6.o _ d (wr.alloc (.cells #[.int .i64 0,.int .i64 0,.int .i64 0] 85)) (hR.out.below ((Below.refl _ _).alloc zL _) zL));have ar:Hid (Below f.heap.size f (wr.alloc (.cells #[.int .i64 0,.int .i64 0,.int .i64 0] 85))):=ZZ (j.out.alloc j.out.size _);have av:Hid (Be (wr.alloc (.cells #[.int .i64 0,.int .i64 0,.int .i64 0] 85)) wr.heap.size #[.int .i64 0,.int .i64 0,.int .i64 0]):=ZZ (heap_alloc_new wr _);have au:Hid (Xn (wr.alloc (.cells #[.int .i64 0,.int .i64 0,.int .i64 0] 85)) f.heap.size (.slice oa t.length oc) t):=ZZ (E.out.below ((Below.refl _ _).alloc zL _) zL);have ag:Hid (∀ k,(Value.slice oa t.length oc).ownBlock=some k->k<wr.heap.size):=ZZ (fun k hk=>(World.ownsRow.lt E.out k hk).2)
    obtain⟨SS,aO⟩:∃ SS,SS=ZjU d:=⟨_,rfl⟩;unfold ZAu at N;rw[<-aO] at ac aw N;have aq:=j.out.size;clear aO hT hN hL hR E j aS
    go_wp2_with fail
    refine N.o.mono ?_;rintro e W2 ⟨x,v2,I,rfl,aP,aI,a7,U⟩;have K:=ZZ (av.o.below U zL);have ai:=ZZ (ar.o.trans (U.mono ar.o.size));have aM:=ZZ (au.o.below U zL);have a5:=ZZ aP;have an:=ZZ (fun W h=>aI W (hV.out W h))
    obtain⟨a3,c3,aV⟩:∃ a c,v2=.slice a I.length c:=by obtain⟨a,c,h,-⟩:=an.o f (al.o.below i.o zL);exact⟨a,c,h⟩
    subst aV;obtain⟨A,C,z⟩:=x;obtain⟨e0,f0⟩:=K.o.cell 0;obtain⟨e1,f1⟩:=K.o.cell 1;obtain⟨e2,f2⟩:=K.o.cell 2;obtain⟨B,aQ⟩:∃ B,B=wr.heap.size:=⟨_,rfl⟩;rw[<-aQ] at K ag e0 e1 e2 f0 f1 f2 aq ⊢;clear aQ;obtain⟨J,R⟩:∃ J,J=((W2.setCell ⟨B,0,none⟩ (.int .i64 A)).setCell ⟨B,1,none⟩ (.int .i64 C)).setCell ⟨B,2,none⟩ (.int .i64 z):=⟨_,rfl⟩;have am:Hid (Be J B #[.int .i64 A,.int .i64 C,.int .i64 z]):=ZZ (by rw[R];exact((K.o.set 0 _).set 1 _).set 2 _)
    have ae:Hid (But B B W2 J):=ZZ (by rw[R];exact(((But.refl _ _ _).set _ _ (.inl rfl) _).set _ _ (.inl rfl) _).set _ _ (.inl rfl) _)
    have aZ:Hid (Xn J f.heap.size (.slice oa t.length oc) t):=ZZ (aM.o.butD ae.o (fun k hk=>by have:=ag.o k hk;omega))
    have ay:=ZZ (Zaf ai.o ae.o ai.o.size aq aq);have aU:f.heap.size<=J.heap.size:=ay.o.size;unfold Zsj
    dsimp only
    go_upto_region 7 with fail
    rw[<-R];obtain⟨x0,-⟩:=am.o.cell 0;obtain⟨x1,-⟩:=am.o.cell 1;obtain⟨x2,-⟩:=am.o.cell 2;clear R e0 e1 e2 f0 f1 f2 aP aI U K ai aM N ar av au ag ae
    go_wp2_with(at_builtin;refine ZfG _ rfl _ _ rfl f.heap.size _ t rfl aZ.o ⟨A,C,z⟩ rfl (by omega) aU ?_)
    intro v5 W5 aA ax;have aH:=ZZ aA;have aK:=ZZ (ay.o.trans ax)
    have aL:Hid (∀ e ∈ t++[(⟨A,C,z⟩:Ent)],Zlx e):=ZZ (fun e he=>by
     rcases List.mem_append.1 he with h | h
     ·exact Z.out e h
     ·rw[List.mem_singleton.1 h];exact a5.o)
    clear aA ax
    cases SS with
    | none=>
     have m:Hid (u=none):=ZZ (by rw[ac.o];rfl)
     go_wp2;go_roundw
     case rel=>exact⟨t++[⟨A,C,z⟩],I,a3,c3,false,rfl,rfl,by simp;omega,ZZ (fun h=>by cases h),aH,aL,an,ZZ (fun h=>by cases h),ZZ (fun _=>m.o),aK⟩
     case measure=>show 0<d.length+1;omega
    | some y=>
     have hy:=a7 y rfl;subst hy;have a0:=aw.o _ rfl
     dsimp only at a0
     have m:Hid (u=(Jx (g-(t++[(⟨A,C,z⟩:Ent)]).length) I).map (fun r=>((t++[⟨A,C,z⟩])++r.1,r.2))):=ZZ (by
      rw[ac.o,length_append,List.length_singleton,Option.bind_some]
      cases Jx (g-(t.length+1)) I with
      | none=>rfl
      | some r=>simp)
     go_wp2;go_roundw
     case rel=>exact⟨t++[⟨A,C,z⟩],I,a3,c3,true,rfl,rfl,by simp;omega,ZZ (fun _=>⟨by simp;omega,by simp;omega⟩),aH,aL,an,ZZ (fun _=>m.o),ZZ (fun h=>by cases h),aK⟩
     case measure=>show I.length+1<d.length+1;omega
theorem Zbj:Qe []=(0,0):=by
 rcases Jg [] with h | h
 ·exact h
 ·have b:=h.2.1
  have a:=h.2.2.1;simp at a;omega
theorem ZcS:Qb []=(0,0):=by
 rcases Xf [] with h | h
 ·exact h
 ·have b:=h.2.1
  have a:=h.2.2.1;simp at a;omega
theorem ZkI (h:(Qb l).2=0):(Qb l).1=0:=by
 rcases Xf l with e | e
 ·rw[e]
 ·omega
theorem ZkJ (h:(Qe l).2=0):zag (Qe l).1=0:=by
 rcases Jg l with e | e
 ·rw[e];rfl
 ·omega
theorem ZiS (l:List UInt8):behind 0 l=[]:=rfl
theorem Yv {d:Nat} (h:d≠0) (l:List UInt8):behind d l=l.drop d:=if_neg h
theorem Je (d:Nat) (l:List UInt8):(behind d l).length<=l.length:=by
 unfold behind;split
 ·simp
 ·simp
theorem ZnS (l:List UInt8):
 ((Qe (behind (Qe (behind (Qb l).2 l)).2 (behind (Qb l).2 l))).2=0->Xc l=(⟨0,0,0⟩,0))∧
 ((Qe (behind (Qe (behind (Qb l).2 l)).2 (behind (Qb l).2 l))).2≠0->Xc l=if Ge ⟨((Qb l).1:Int),zag (Qe (behind (Qb l).2 l)).1,zag (Qe (behind (Qe (behind (Qb l).2 l)).2 (behind (Qb l).2 l))).1⟩ then(⟨((Qb l).1:Int),zag (Qe (behind (Qb l).2 l)).1,zag (Qe (behind (Qe (behind (Qb l).2 l)).2 (behind (Qb l).2 l))).1⟩,l.length-(behind (Qe (behind (Qe (behind (Qb l).2 l)).2 (behind (Qb l).2 l))).2 (behind (Qe (behind (Qb l).2 l)).2 (behind (Qb l).2 l))).length) else(⟨0,0,0⟩,0)):=by
 by_cases f:(Qb l).2=0
 ·have e:behind (Qb l).2 l=[]:=by rw[f];rfl
  rw[e,Zbj];simp only [ZiS,Zbj,ne_eq,not_true_eq_false,false_imp_iff,and_true,true_imp_iff];unfold Xc;rw[if_pos (.inl f)]
 ·have e:behind (Qb l).2 l=l.drop (Qb l).2:=Yv f l
  rw[e];by_cases a:(Qe (l.drop (Qb l).2)).2=0
  ·have g:behind (Qe (l.drop (Qb l).2)).2 (l.drop (Qb l).2)=[]:=by rw[a];rfl
   rw[g,Zbj];simp only [ne_eq,not_true_eq_false,false_imp_iff,and_true,true_imp_iff];unfold Xc;rw[if_pos (.inr (.inl a))]
  ·have g:behind (Qe (l.drop (Qb l).2)).2 (l.drop (Qb l).2)=l.drop ((Qb l).2+(Qe (l.drop (Qb l).2)).2):=by rw[Yv a,drop_drop]
   rw[g];refine⟨fun b=>?_,fun b=>?_⟩
   ·unfold Xc
    rw[if_pos (.inr (.inr (.inl b)))]
   ·have p:=Ju l
    have m:=G0 (l.drop (Qb l).2);have n:=G0 (l.drop ((Qb l).2+(Qe (l.drop (Qb l).2)).2));simp only [length_drop] at m n;rw[Yv b,drop_drop,length_drop];unfold Xc;generalize (Qe (l.drop ((Qb l).2+(Qe (l.drop (Qb l).2)).2))).2=k at *;generalize zag (Qe (l.drop ((Qb l).2+(Qe (l.drop (Qb l).2)).2))).1=y at *;generalize (Qe (l.drop (Qb l).2)).2=j at *;generalize zag (Qe (l.drop (Qb l).2)).1=x at *;generalize (Qb l).2=i at *;generalize (Qb l).1=c at *;by_cases d:Ge ⟨(c:Int),x,y⟩
    ·rw[if_neg (by rintro(h | h | h | h);exact f h;exact a h;exact b h;exact h d),if_pos d]
     congr 1
     omega
    ·rw[if_pos (.inr (.inr (.inr d))),if_neg d]
structure GIn (w W:World) (c a b:Int) (vb:Value) (m:List UInt8):Prop where
 res:Bo W w.heap.size #[.int .i64 0,.int .i64 0,.int .i64 0]
 box:Bo W (w.heap.size+1) #[.int .i64 c,.int .i64 a,.int .i64 b]
 cap:Bb W (w.heap.size+1+1) vb
 rd:Rd W vb m
 below:Below w.heap.size w W
theorem GIn.next {b:Int} {f:Value} (h:GIn w W c a b f m) (d:But (w.heap.size+1+1) (w.heap.size+1+1) W W') (g:Bb W' (w.heap.size+1+1) v') (e:Rd W' v' m'):GIn w W' c a b v' m':=by
 have i:=h.cap.lt;exact⟨(d.block _ (by omega) (by omega) (by omega)).trans h.res,(d.block _ (by omega) (by omega) (by omega)).trans h.box,g,e,Zaf h.below d (by omega) (by omega) (by omega)⟩
theorem Rd.setInt (h:Rd w v m) {b j:Nat} {n:Int} (f:w.cell? ⟨b,j,none⟩=some (.int .i64 n)):Rd (w.setCell ⟨b,j,none⟩ x) v m:=by
 obtain⟨p,t,y,i,l,A,a⟩:=h;refine⟨p,t,y,i,l,A,?_⟩;rcases a with a | ⟨c,d,z,q⟩
 ·exact .inl a
 ·refine .inr ⟨c,d,z,fun k u=>?_⟩
  have g:=q k u
  rw[World.cell?_setCell_other w ⟨b,j,none⟩ ⟨c,d+k,none⟩ x (fun e=>by
   rw[e,g] at f
   simp at f)]
  exact g
theorem GIn.store {b c' a' b':Int} (h:GIn w W c a b d m) (j:Nat) (x:Int) {n:Int} (f:(#[Value.int .i64 c,.int .i64 a,.int .i64 b]:Array Value)[j]?=some (.int .i64 n)) (e:(#[Value.int .i64 c,.int .i64 a,.int .i64 b]:Array Value).setIfInBounds j (.int .i64 x)=#[.int .i64 c',.int .i64 a',.int .i64 b']):
 GIn w (W.setCell ⟨w.heap.size+1,j,none⟩ (.int .i64 x)) c' a' b' d m:=by
 have g:=h.cap.lt;refine⟨(Below.heap_setCell _ _ _ _ (by show w.heap.size≠w.heap.size+1;omega)).trans h.res,?_,(Below.heap_setCell _ _ _ _ (by show w.heap.size+1+1≠w.heap.size+1;omega)).trans h.cap,h.rd.setInt (((h.box.cell j).1).trans f),h.below.setCell (by show w.heap.size<=w.heap.size+1;omega) _⟩
 have:=heap_setCell_same W (w.heap.size+1) j _ _ (.int .i64 x) h.box;unfold Bo;rw[<-e];simpa using this
theorem GIn.more {b:Int} (h:GIn w W c a b e m) (d:Below W.heap.size W W'):GIn w W' c a b e m:=by
 have f:=h.cap.lt;exact⟨(d.block _ (by omega)).trans h.res,(d.block _ (by omega)).trans h.box,(d.block _ (by omega)).trans h.cap,h.rd.below d zL,h.below.trans (d.mono h.below.size)⟩
theorem Zdk (W:World) (b:Nat) (a e d:Value) (c i:Nat) (h:b≠c):(((W.setCell ⟨b,0,none⟩ a).setCell ⟨b,1,none⟩ e).setCell ⟨b,2,none⟩ d).drew.cell? ⟨c,i,none⟩=W.cell? ⟨c,i,none⟩:=by
 show(((W.setCell ⟨b,0,none⟩ a).setCell ⟨b,1,none⟩ e).setCell ⟨b,2,none⟩ d).cell? ⟨c,i,none⟩=_;rw[World.cell?_setCell_far _ _ _ _ h,World.cell?_setCell_far _ _ _ _ h,World.cell?_setCell_far _ _ _ _ h]
theorem ZvE (v:Value) (l:List UInt8) (w:World) (T:Rd w v l) (az:l.length<=1000000):
 Calls prog 209 #[v] w fun e w'=>ZuM w l e w':=by
 obtain⟨n,p,rfl⟩:∃ n p,v=.slice n l.length p:=by
  obtain⟨n,p,rfl,_⟩:=T;exact⟨n,p,rfl⟩
 have HR:=ZZ T;clear T;have L:Hid (∀ W f,Bb W (w.heap.size+1+1) f->Rd W f l->Calls prog 218 #[.func (.func 168) #[] #[],.pointer (some ⟨w.heap.size+1+1,0,none⟩)] W fun e w'=>∃ v',e=.returned (.tuple #[.int .i64 ((Qb l).1:Nat),.bool (decide ((Qb l).2≠0))])∧Bb w' (w.heap.size+1+1) v'∧Rd w' v' (behind (Qb l).2 l)∧But (w.heap.size+1+1) (w.heap.size+1+1) W w'):=fun W f h1 D=>Zre _ _ _ _ _ W h1 D (Ju l) (fun h=>by rw[ZkI h];rfl) (ZcJ f l W D)
 have ab:Hid (∀ m W f,Bb W (w.heap.size+1+1) f->Rd W f m->Calls prog 218 #[.func (.func 201) #[] #[],.pointer (some ⟨w.heap.size+1+1,0,none⟩)] W fun e w'=>∃ v',e=.returned (.tuple #[.int .i64 (zag (Qe m).1),.bool (decide ((Qe m).2≠0))])∧Bb w' (w.heap.size+1+1) v'∧Rd w' v' (behind (Qe m).2 m)∧But (w.heap.size+1+1) (w.heap.size+1+1) W w'):=fun m W f h1 D=>ZiN _ _ _ _ _ W h1 D (G0 m) ZkJ (Zak f m W D)
 have u:=ZZ (ZnS l);have U:=ZZ (Je (Qb l).2 l);obtain⟨d,ag⟩:∃ d,d=behind (Qb l).2 l:=⟨_,rfl⟩;rw[<-ag] at u L U;have Z:=ZZ (ab.o d);have S:=ZZ (Je (Qe d).2 d);obtain⟨b,av⟩:∃ b,b=behind (Qe d).2 d:=⟨_,rfl⟩;rw[<-av] at u Z S;have V:=ZZ (ab.o b);have aa:=ZZ (Je (Qe b).2 b);obtain⟨g,ap⟩:∃ g,g=behind (Qe b).2 b:=⟨_,rfl⟩;rw[<-ap] at u V aa;have aA:g.length<=l.length:=Nat.le_trans aa.o (Nat.le_trans S.o U.o);clear ag av ap ab U S aa;unfold ZuM;generalize Xc l=R at *;generalize (Qb l).1=c at *;generalize (Qb l).2=i at *;generalize zag (Qe d).1=x at *;generalize (Qe d).2=j at *;generalize zag (Qe b).1=y at *;generalize (Qe b).2=k at *;obtain⟨C,hC⟩:∃ C:Int,C=(c:Int):=⟨_,rfl⟩;rw[<-hC] at L u;have HF:Hid (∀ W,Calls prog 80 #[.agg #[.int .i64 C,.int .i64 x,.int .i64 y]] W fun e w'=>e=.returned (.bool (decide (Ge ⟨C,x,y⟩)))∧Below W.heap.size W w'):=fun W=>ZlH ⟨C,x,y⟩ W
 have af:=ZZ (fun W=>ZiM n l.length p W)
 have aw:Hid (∀ W X Y,X=.cells #[.int .i64 0,.int .i64 0,.int .i64 0] 52->Y=.cells #[.int .i64 0,.int .i64 0,.int .i64 0] 52->W=((w.alloc X).alloc Y).alloc (.cells #[.slice n l.length p] 53)->GIn w W 0 0 0 (.slice n l.length p) l):=fun W X Y hX hY hW=>by
  subst hX hY hW;have b1:Below w.heap.size w (((w.alloc (.cells #[.int .i64 0,.int .i64 0,.int .i64 0] 52)).alloc (.cells #[.int .i64 0,.int .i64 0,.int .i64 0] 52)).alloc (.cells #[.slice n l.length p] 53)):=(((Below.refl _ _).alloc zL _).alloc (by simp) _).alloc (by simp;omega) _
  refine⟨?_,?_,?_,HR.o.below b1 zL,b1⟩
  ·exact(Below.heap_alloc _ _ _ (by simp;omega)).trans ((Below.heap_alloc _ _ _ (by simp)).trans (heap_alloc_new w _))
  ·exact(Below.heap_alloc _ _ _ (by simp)).trans (Zpl w _ _)
  ·have h:=heap_alloc_new ((w.alloc (.cells #[.int .i64 0,.int .i64 0,.int .i64 0] 52)).alloc (.cells #[.int .i64 0,.int .i64 0,.int .i64 0] 52)) (.cells #[.slice n l.length p] 53)
   have e:((w.alloc (.cells #[.int .i64 0,.int .i64 0,.int .i64 0] 52)).alloc (.cells #[.int .i64 0,.int .i64 0,.int .i64 0] 52)).heap.size=w.heap.size+1+1:=by simp
   rw[e] at h;exact h
 clear hC
 go_enter func209,ntmps209
 go_wp2_with fail
 refine(af.o _).mono ?_;rintro e W1 ⟨rfl,ad⟩;have J:=ZZ (aw.o W1 _ _ rfl rfl ad);clear ad aw af
 go_wp2_with fail
 refine(L.o _ _ J.out.cap J.out.rd).mono ?_;rintro e W2 ⟨v2,rfl,aq,ak,ao⟩;have G2:=ZZ (J.out.next ao aq ak);obtain⟨p0,f0⟩:=G2.out.box.cell 0;clear aq ak ao J L;have G:=ZZ (G2.out.store (c':=C) (a':=0) (b':=0) 0 C rfl rfl)
 go_wp2_with fail
 refine(Z.o _ _ G.o.cap G.o.rd).mono ?_;rintro e W3 ⟨v3,rfl,ar,an,ac⟩;have G3:=ZZ (G.o.next ac ar an);obtain⟨p1,f1⟩:=G3.out.box.cell 1;clear ar an ac G2 G Z p0 f0;have E:=ZZ (G3.out.store (c':=C) (a':=x) (b':=0) 1 x rfl rfl)
 go_wp2_with fail
 refine(V.o _ _ E.o.cap E.o.rd).mono ?_;rintro e W4 ⟨v4,rfl,ai,al,au⟩;have I:=ZZ (E.o.next au ai al);obtain⟨p2,f2⟩:=I.out.box.cell 2;clear ai al au G3 E V p1 f1;have q:=ZZ (I.out.store (c':=C) (a':=x) (b':=y) 2 y rfl rfl);by_cases B:k=0
 ·have z:Hid (R=(⟨0,0,0⟩,0)):=u.o.1 B
  rw[decide_eq_false (fun h=>h B)]
  obtain⟨M,g0⟩:=q.o.res.cell 0;obtain⟨O,g1⟩:=q.o.res.cell 1;obtain⟨N,g2⟩:=q.o.res.cell 2;have P:=ZZ q.o.below;clear B I;go_wp2;refine bodyPost_ret (v:=.tuple #[.agg #[.int .i64 0,.int .i64 0,.int .i64 0],.int .i64 0]) (by simp[results,Tryz.results209,go_sem,M,O,N]) rfl ?_
  rw[z.o];exact⟨rfl,((P.o.setCell zL _).setCell zL _).setCell zL _⟩
 ·have z:=ZZ (u.o.2 B)
  rw[decide_eq_true B];obtain⟨H,-⟩:=q.o.box.cell 0;obtain⟨K,-⟩:=q.o.box.cell 1;obtain⟨F,-⟩:=q.o.box.cell 2;clear B u
  go_wp2_with fail
  refine(HF.o _).mono ?_;rintro e t ⟨rfl,ae⟩;have a:=ZZ (q.o.more ae);clear ae q I H K F p2 f2;obtain⟨M,g0⟩:=a.out.res.cell 0;obtain⟨O,g1⟩:=a.out.res.cell 1;obtain⟨N,g2⟩:=a.out.res.cell 2;have P:=ZZ a.out.below;by_cases A:Ge ⟨C,x,y⟩
  ·rw[decide_eq_true A]
   rw[if_pos A] at z;obtain⟨H,-⟩:=a.out.box.cell 0;obtain⟨K,-⟩:=a.out.box.cell 1;obtain⟨F,-⟩:=a.out.box.cell 2;have hc:=a.out.cap.cell.1;obtain⟨a4,Q,rfl,-⟩:=a.out.rd;have HL:=ZZ (fun W h=>Zrd (w.heap.size+1+1) a4 g.length Q W h)
   have ax:IntKind.i64.wrap ((l.length:Int)-(g.length:Int))=((l.length-g.length:Nat):Int):=by rw[IntKind.wrap_i64];omega
   have ay:=ZZ ax;have aj:=ZZ (⟨H,K,F,hc⟩:t.drew.cell? ⟨w.heap.size+1,0,none⟩=some (.int .i64 C)∧t.drew.cell? ⟨w.heap.size+1,1,none⟩=some (.int .i64 x)∧t.drew.cell? ⟨w.heap.size+1,2,none⟩=some (.int .i64 y)∧t.drew.cell? ⟨w.heap.size+1+1,0,none⟩=some (.slice a4 g.length Q));have am:=ZZ (⟨(Zdk t w.heap.size (.int .i64 C) (.int .i64 x) (.int .i64 y) _ _ (by omega)).trans H,(Zdk t w.heap.size (.int .i64 C) (.int .i64 x) (.int .i64 y) _ _ (by omega)).trans K,(Zdk t w.heap.size (.int .i64 C) (.int .i64 x) (.int .i64 y) _ _ (by omega)).trans F,(Zdk t w.heap.size (.int .i64 C) (.int .i64 x) (.int .i64 y) (w.heap.size+1+1) 0 (by omega)).trans hc⟩:_∧_∧_∧_)
   clear A a ax HF;go_wp2
   go_region_held(fun w'=>w'.cell? ⟨w.heap.size+1,0,none⟩=some (.int .i64 C)∧w'.cell? ⟨w.heap.size+1,1,none⟩=some (.int .i64 x)∧w'.cell? ⟨w.heap.size+1,2,none⟩=some (.int .i64 y)∧w'.cell? ⟨w.heap.size+1+1,0,none⟩=some (.slice a4 g.length Q)) (first | exact aj.o | exact am.o)
    (first
     | (go_at_call 219;refine(HL.o _ (by first | exact aj.o.2.2.2 | exact am.o.2.2.2)).mono ?_;rintro e w' ⟨rfl,rfl⟩))
   all_goals
    go_wp2;refine bodyPost_ret (v:=.tuple #[.agg #[.int .i64 C,.int .i64 x,.int .i64 y],.int .i64 (IntKind.i64.wrap ((l.length:Int)-(g.length:Int)))]) (by simp[results,Tryz.results209,go_sem,M,O,N]) rfl ?_
    rw[z.o,ay.o];exact⟨rfl,((((P.o.setCell zL _).setCell zL _).setCell zL _)).drew⟩
  ·rw[decide_eq_false A]
   rw[if_neg A] at z;clear A a;go_wp2;refine bodyPost_ret (v:=.tuple #[.agg #[.int .i64 0,.int .i64 0,.int .i64 0],.int .i64 0]) (by simp[results,Tryz.results209,go_sem,M,O,N]) rfl ?_
   rw[z.o];exact⟨rfl,((P.o.setCell zL _).setCell zL _).setCell zL _⟩
def Zau (w:World) (r:St × Int) (e:Ending) (w':World):Prop:=
 ∃ vl,e=.returned (.tuple #[.agg #[.int .i64 r.1.kind,vl,.bool r.1.shut,.int .i64 r.1.eng],.int .i64 r.2])∧RdI w' vl r.1.L∧I64 r.1.kind∧I64 r.1.eng∧(∀ b,vl.ownBlock=some b->w.heap.size<=b)∧Below w.heap.size w w'
theorem Zau.zero (n:Int) (a:Below w.heap.size w w'):Zau w (ZcB,n) (.returned (.tuple #[.agg #[.int .i64 0,.slice none 0 0,.bool false,.int .i64 0],.int .i64 n])) w':=
 ⟨_,rfl,RdI.nil _,(Qo (by decide) (by decide):I64 0),(Qo (by decide) (by decide):I64 0),fun b a=>by simp[Value.ownBlock] at a,a⟩
theorem ZcT:∀ (a b:Nat) (l:List UInt8),J3 (a+b) l=(J3 a l).bind fun x=>(J3 b (l.drop x.2)).map fun y=>(x.1++y.1,x.2+y.2)
 | 0,b,l=>by
  rw[Nat.zero_add,J3];simp
 | a+1,b,l=>by
  rw[Nat.add_right_comm,J3,J3,ZcT a b];by_cases h:(Qe l).2=0
  ·rw[if_pos h,if_pos h]
   rfl
  ·rw[if_neg h,if_neg h]
   cases J3 a (l.drop (Qe l).2) with
   | none=>rfl
   | some x=>
    obtain⟨xs,u⟩:=x;simp only [Option.bind_some,Option.map_some,drop_drop]
    cases J3 b (l.drop ((Qe l).2+u)) with
    | none=>rfl
    | some y=>simp[Nat.add_assoc]
theorem ZnT (l:List UInt8):J3 1 l=if(Qe l).2=0 then none else some ([zag (Qe l).1],(Qe l).2):=by
 rw[J3];split
 ·rfl
 ·rfl
theorem ZsZ (h:J3 k l=some (xs,u)) (a:(Qe (l.drop u)).2≠0):J3 (k+1) l=some (xs++[zag (Qe (l.drop u)).1],u+(Qe (l.drop u)).2):=by
 rw[ZcT,h];simp only [Option.bind_some];rw[ZnT,if_neg a];rfl
theorem Zta {m:Nat} (h:J3 k l=some (xs,u)) (a:(Qe (l.drop u)).2=0) (b:k<m):J3 m l=none:=by
 obtain⟨d,rfl⟩:∃ d,m=k+1+d:=⟨m-(k+1),by omega⟩
 rw[ZcT,ZcT k 1,h];simp only [Option.bind_some];rw[ZnT,if_pos a];rfl
theorem ZpW (l:List UInt8):
 ((Qb (behind (Qb (behind (Qb l).2 l)).2 (behind (Qb l).2 l))).2=0∨3<(Qb (behind (Qb l).2 l)).1∨128<(Qb (behind (Qb (behind (Qb l).2 l)).2 (behind (Qb l).2 l))).1->ZdG l=(ZcB,3))∧
 (¬ ((Qb (behind (Qb (behind (Qb l).2 l)).2 (behind (Qb l).2 l))).2=0∨3<(Qb (behind (Qb l).2 l)).1∨128<(Qb (behind (Qb (behind (Qb l).2 l)).2 (behind (Qb l).2 l))).1)->
  ZdG l=ZjE (Qb l).1 (Qb (behind (Qb l).2 l)).1 (Qb (behind (Qb (behind (Qb l).2 l)).2 (behind (Qb l).2 l))).1 (behind (Qb (behind (Qb (behind (Qb l).2 l)).2 (behind (Qb l).2 l))).2 (behind (Qb (behind (Qb l).2 l)).2 (behind (Qb l).2 l)))):=by
 by_cases c:(Qb l).2=0
 ·have e:behind (Qb l).2 l=[]:=by rw[c];rfl
  rw[e,ZcS];simp only [ZiS,ZcS];refine⟨fun _=>?_,fun h=>absurd (Or.inl trivial) h⟩
  unfold ZdG;rw[if_pos (.inl c)]
 ·have e:behind (Qb l).2 l=l.drop (Qb l).2:=Yv c l
  rw[e];by_cases b:(Qb (l.drop (Qb l).2)).2=0
  ·have d:behind (Qb (l.drop (Qb l).2)).2 (l.drop (Qb l).2)=[]:=by rw[b];rfl
   rw[d,ZcS];refine⟨fun _=>?_,fun h=>absurd (Or.inl rfl) h⟩
   unfold ZdG;rw[if_pos (.inr (.inl b))]
  ·have d:behind (Qb (l.drop (Qb l).2)).2 (l.drop (Qb l).2)=l.drop ((Qb l).2+(Qb (l.drop (Qb l).2)).2):=by rw[Yv b,drop_drop]
   rw[d];refine⟨fun a=>?_,fun a=>?_⟩
   ·unfold ZdG
    rw[if_pos (.inr (.inr a))]
   ·have f:(Qb (l.drop ((Qb l).2+(Qb (l.drop (Qb l).2)).2))).2≠0:=fun h=>a (.inl h)
    unfold ZdG;rw[if_neg (by rintro(h | h | h);exact c h;exact b h;exact a h),Yv f,drop_drop]
structure SIn (w W:World) (kd:Int) (vl:Value) (sh:Bool) (g:Int) (vb:Value) (m:List UInt8):Prop where
 res:Bx W w.heap.size #[.int .i64 0,.slice none 0 0,.bool false,.int .i64 0]
 box:Bx W (w.heap.size+1) #[.int .i64 kd,vl,.bool sh,.int .i64 g]
 cap:Bb W (w.heap.size+1+1) vb
 rd:Rd W vb m
 below:Below w.heap.size w W
theorem SIn.next {c:Bool} {b:Value} (h:SIn w W kd b c g e m) (a:But (w.heap.size+1+1) (w.heap.size+1+1) W W') (f:Bb W' (w.heap.size+1+1) v') (d:Rd W' v' m'):SIn w W' kd b c g v' m':=by
 have i:=h.cap.lt;exact⟨(a.block _ (by omega) (by omega) (by omega)).trans h.res,(a.block _ (by omega) (by omega) (by omega)).trans h.box,f,d,Zaf h.below a (by omega) (by omega) (by omega)⟩
theorem SIn.more {d:Bool} {b c:Value} (h:SIn w W kd b d g c m) (a:Below W.heap.size W W'):SIn w W' kd b d g c m:=by
 have e:=h.cap.lt;exact⟨(a.block _ (by omega)).trans h.res,(a.block _ (by omega)).trans h.box,(a.block _ (by omega)).trans h.cap,h.rd.below a zL,h.below.trans (a.mono h.below.size)⟩
theorem Rd.setElse {y:Value} (h:Rd w v m) {b j:Nat} (f:w.cell? ⟨b,j,none⟩=some y) (p:∀ n,y≠.int .u8 n):Rd (w.setCell ⟨b,j,none⟩ x) v m:=by
 obtain⟨q,u,A,i,l,C,a⟩:=h;refine⟨q,u,A,i,l,C,?_⟩;rcases a with a | ⟨c,d,B,t⟩
 ·exact .inl a
 ·refine .inr ⟨c,d,B,fun k z=>?_⟩
  have g:=t k z
  rw[World.cell?_setCell_other w ⟨b,j,none⟩ ⟨c,d+k,none⟩ x (fun e=>by
   rw[e,g] at f
   exact p _ (Option.some.inj f).symm)]
  exact g
theorem SIn.store {kd' g':Int} {a sh':Bool} {b vl' c:Value} (h:SIn w W kd b a g c m) (j:Nat) (x y:Value) (f:(#[Value.int .i64 kd,b,.bool a,.int .i64 g]:Array Value)[j]?=some y) (d:∀ n,y≠.int .u8 n) (e:(#[Value.int .i64 kd,b,.bool a,.int .i64 g]:Array Value).setIfInBounds j x=#[.int .i64 kd',vl',.bool sh',.int .i64 g']):
 SIn w (W.setCell ⟨w.heap.size+1,j,none⟩ x) kd' vl' sh' g' c m:=by
 have i:=h.cap.lt;refine⟨(Below.heap_setCell _ _ _ _ (by show w.heap.size≠w.heap.size+1;omega)).trans h.res,?_,(Below.heap_setCell _ _ _ _ (by show w.heap.size+1+1≠w.heap.size+1;omega)).trans h.cap,h.rd.setElse (((h.box.cell j).1).trans f) d,h.below.setCell (by show w.heap.size<=w.heap.size+1;omega) _⟩
 have:=heap_setCell_same W (w.heap.size+1) j _ _ x h.box;unfold Bx;rw[<-e];simpa using this
structure DIn (w W:World) (kd g:Int) (sh:Bool) (R:List UInt8) (cnt G k:Nat) (vb:Value) (m:List UInt8) (ys:List Int) (th:Bool):Prop where
 sin:SIn w W kd (.slice (some ⟨G,0,none⟩) cnt cnt) sh g vb m
 row:W.heap[G]?=some (.cells (Qr ys).toArray 3 (0,0))
 len:ys.length=cnt
 far:w.heap.size+1+1<G
 st:(th=true∧∃ u,J3 k R=some (ys.take k,u)∧m=R.drop u)∨(th=false∧J3 k R=none∧m=[])
theorem Ztb (h:J3 k R=none):J3 (k+1) R=none:=by
 rw[ZcT,h];rfl
theorem ZxA (a:List Int) (k:Nat) (x:Int) (b:k<a.length):(a.set k x).take (k+1)=a.take k++[x]:=by
 rw[List.take_add_one,List.take_set_of_le zL];simp[b]
theorem DIn.step {f:Nat} {q:Value} {a:List Int} {x:Bool} (h:DIn w W kd g i R f G k q m a x) (B:k<f) (l:But (w.heap.size+1+1) (w.heap.size+1+1) W W') (y:Bb W' (w.heap.size+1+1) v') (p:Rd W' v' (behind (Qe m).2 m)):
 DIn w (W'.setCell ⟨G,k,none⟩ (.int .i64 (zag (Qe m).1))) kd g i R f G (k+1) v' (behind (Qe m).2 m) (a.set k (zag (Qe m).1)) (decide ((Qe m).2≠0)):=by
 have t:=h.far;have z:G<W.heap.size:=(Array.getElem?_eq_some_iff.1 h.row).1;have j:W'.heap[G]?=some (.cells (Qr a).toArray 3 (0,0)):=(l.block G z (by omega) (by omega)).trans h.row
 have c:=h.sin.next l y p
 have v:W'.cell? ⟨G,k,none⟩=some (.int .i64 (a.getD k 0)):=by
  rw[cell_of_row W' G k _ _ _ j];have:=Zu a k (by have:=h.len;omega)
  simpa using this
 refine⟨⟨?_,?_,?_,c.rd.setElse v (fun n e=>by simp at e),c.below.setCell (by show w.heap.size<=G;omega) _⟩,?_,by rw[List.length_set];exact h.len,t,?_⟩
 ·exact(Below.heap_setCell _ _ _ _ (by show w.heap.size≠G;omega)).trans c.res
 ·exact(Below.heap_setCell _ _ _ _ (by show w.heap.size+1≠G;omega)).trans c.box
 ·exact(Below.heap_setCell _ _ _ _ (by show w.heap.size+1+1≠G;omega)).trans c.cap
 ·rw[heap_setCell_same W' G k _ _ _ j]
  congr 2
  unfold Qr;apply Array.ext';simp[List.map_set]
 ·have A:=h.len
  rcases h.st with ⟨rfl,u,d,rfl⟩ | ⟨rfl,d,rfl⟩
  ·by_cases b:(Qe (R.drop u)).2=0
   ·right
    refine⟨decide_eq_false (fun h=>h b),Zta d b (by omega),?_⟩
    rw[b];rfl
   ·left
    refine⟨decide_eq_true b,u+(Qe (R.drop u)).2,?_,?_⟩
    ·rw[ZsZ d b,ZxA a k _ (by omega)]
    ·rw[Yv b,drop_drop]
  ·right
   rw[Zbj];exact⟨rfl,Ztb d,rfl⟩
theorem DIn.own {f:Bool} {a:Nat} {b:List Int} {e:Bool} (h:DIn w W kd g f R a G k d m b e) (i:a<=maxLen):Qs W (w.heap.size+1+1+1) (.slice (some ⟨G,0,none⟩) a a) b:=by
 have c:=h.len;have j:=h.far;refine⟨by rw[Zk,Nat.mul_one],.inr ⟨G,a,(Qr b).toArray,by rw[c],by omega,h.row,by omega,i,?_,?_⟩⟩
 ·simp[Zk,c]
 ·rw[List.take_of_length_le]
  simp[Zk]
theorem Zmc (w:World) (n:Nat) (f:n<=1000000):(Instr.makeSlice 23 (.int .i64 (n:Int)) (.int .i64 (n:Int))).run prog w=.ok (.slice (some ⟨w.heap.size,0,none⟩) n n) (w.alloc (.cells (Qr (List.replicate n 0)).toArray 3)):=by
 obtain⟨e,d,b,c,a⟩:=info_parts Zlg;have h:=run_make (P:=prog) w 23 3 e (.int .i64 0) underlying23 d b .i64 .i64 (n:Int) (n:Int) (by omega) (Int.le_refl _) (by rw[a];omega) (by omega)
 rw[Int.toNat_natCast,c,Nat.mul_one] at h;rw[h]
 congr 3
 apply Array.ext';show(madeCells #[Value.int .i64 0] n).toList=_;rw[toList_madeCells_one];simp[Qr]
theorem But.ofDrew {R:Nat} (h:But R T w.drew w'):But R T w w':=⟨h.os,h.tape,h.output,h.size,h.block⟩
theorem DIn.start {c:Bool} {b:Value} (h:SIn w W kd (.slice none 0 0) c g b R) (a:Nat):
 DIn w ((W.alloc (.cells (Qr (List.replicate a 0)).toArray 3)).setCell ⟨w.heap.size+1,1,none⟩ (.slice (some ⟨W.heap.size,0,none⟩) a a)) kd g c R a W.heap.size 0 b R (List.replicate a 0) true:=by
 have f:=h.cap.lt;have d:=h.more ((Below.refl _ _).alloc zL (.cells (Qr (List.replicate a 0)).toArray 3));refine⟨d.store 1 _ _ rfl (fun n e=>by simp at e) rfl,?_,by simp,f,.inl ⟨rfl,0,rfl,by simp⟩⟩
 exact(Below.heap_setCell _ _ _ _ (by show W.heap.size≠w.heap.size+1;omega)).trans (heap_alloc_new W _)
theorem DIn.spot {e:Bool} {c:Nat} {a:List Int} (h:DIn w W kd g e R c G k d m a i) (n:k<c) (f:But (w.heap.size+1+1) (w.heap.size+1+1) W W'):
 W'.cell? ⟨G,k,none⟩=some (.int .i64 (a.getD k 0))∧W'.frozen? ⟨G,k,none⟩=false:=by
 have l:=h.far;have j:G<W.heap.size:=(Array.getElem?_eq_some_iff.1 h.row).1;have b:W'.heap[G]?=some (.cells (Qr a).toArray 3 (0,0)):=(f.block G j (by omega) (by omega)).trans h.row
 refine⟨?_,frozen_of_row W' G k _ _ b⟩;rw[cell_of_row W' G k _ _ _ b];have:=Zu a k (by have:=h.len;omega)
 simpa using this
theorem ZiT (v:Value) (l:List UInt8) (w:World) (Q:Rd w v l) (_hlim:l.length<=1000000):
 Calls prog 164 #[v] w fun e w'=>Zau w (ZdG l) e w':=by
 obtain⟨J,K,rfl⟩:∃ J K,v=.slice J l.length K:=by
  obtain⟨J,K,rfl,_⟩:=Q;exact⟨J,K,rfl⟩
 have HR:=ZZ Q;clear Q;have ac:Hid (∀ m W f,Bb W (w.heap.size+1+1) f->Rd W f m->Calls prog 218 #[.func (.func 168) #[] #[],.pointer (some ⟨w.heap.size+1+1,0,none⟩)] W fun e w'=>∃ v',e=.returned (.tuple #[.int .i64 ((Qb m).1:Nat),.bool (decide ((Qb m).2≠0))])∧Bb w' (w.heap.size+1+1) v'∧Rd w' v' (behind (Qb m).2 m)∧But (w.heap.size+1+1) (w.heap.size+1+1) W w'):=fun m W f h1 h2=>Zre _ _ _ _ _ W h1 h2 (Ju m) (fun h=>by rw[ZkI h];rfl) (ZcJ f m W h2)
 have a9:Hid (∀ m W f,Bb W (w.heap.size+1+1) f->Rd W f m->Calls prog 218 #[.func (.func 201) #[] #[],.pointer (some ⟨w.heap.size+1+1,0,none⟩)] W fun e w'=>∃ v',e=.returned (.tuple #[.int .i64 (zag (Qe m).1),.bool (decide ((Qe m).2≠0))])∧Bb w' (w.heap.size+1+1) v'∧Rd w' v' (behind (Qe m).2 m)∧But (w.heap.size+1+1) (w.heap.size+1+1) W w'):=fun m W f h1 h2=>ZiN _ _ _ _ _ W h1 h2 (G0 m) ZkJ (Zak f m W h2)
 have HG:=ZZ (ZpW l);have am:=ZZ (ac.o l)
 have c1:(Qb l).1<4611686018427387904:=by
  rcases Xf l with h | h
  ·rw[h];decide
  ·exact h.1
 obtain⟨P,aE⟩:∃ P,P=behind (Qb l).2 l:=⟨_,rfl⟩;rw[<-aE] at HG am;have ak:=ZZ (ac.o P);obtain⟨O,aW⟩:∃ O,O=behind (Qb P).2 P:=⟨_,rfl⟩;rw[<-aW] at HG ak;have ai:=ZZ (ac.o O);obtain⟨R,aS⟩:∃ m3,m3=behind (Qb O).2 O:=⟨_,rfl⟩;rw[<-aS] at HG ai;clear aE aW aS ac;generalize ZdG l=D at *;generalize (Qb l).1=kd at *;generalize (Qb l).2=i at *;generalize (Qb P).1=y at *;generalize (Qb P).2=j at *;generalize (Qb O).1=a at *;generalize (Qb O).2=k at *;have aD:=ZZ (fun W=>ZiM J l.length K W)
 have aY:Hid (∀ W X Y,X=.cells #[.int .i64 0,.slice none 0 0,.bool false,.int .i64 0] 38->Y=.cells #[.int .i64 0,.slice none 0 0,.bool false,.int .i64 0] 38->W=((w.alloc X).alloc Y).alloc (.cells #[.slice J l.length K] 53)->SIn w W 0 (.slice none 0 0) false 0 (.slice J l.length K) l):=fun W X Y hX hY hW=>by
  subst hX hY hW;have T:Below w.heap.size w (((w.alloc (.cells #[.int .i64 0,.slice none 0 0,.bool false,.int .i64 0] 38)).alloc (.cells #[.int .i64 0,.slice none 0 0,.bool false,.int .i64 0] 38)).alloc (.cells #[.slice J l.length K] 53)):=(((Below.refl _ _).alloc zL _).alloc (by simp) _).alloc (by simp;omega) _
  refine⟨?_,?_,?_,HR.o.below T zL,T⟩
  ·exact(Below.heap_alloc _ _ _ (by simp;omega)).trans ((Below.heap_alloc _ _ _ (by simp)).trans (heap_alloc_new w _))
  ·exact(Below.heap_alloc _ _ _ (by simp)).trans (Zpl w _ _)
  ·have h:=heap_alloc_new ((w.alloc (.cells #[.int .i64 0,.slice none 0 0,.bool false,.int .i64 0] 38)).alloc (.cells #[.int .i64 0,.slice none 0 0,.bool false,.int .i64 0] 38)) (.cells #[.slice J l.length K] 53)
   have e:((w.alloc (.cells #[.int .i64 0,.slice none 0 0,.bool false,.int .i64 0] 38)).alloc (.cells #[.int .i64 0,.slice none 0 0,.bool false,.int .i64 0] 38)).heap.size=w.heap.size+1+1:=by simp
   rw[e] at h;exact h
 go_enter func164,ntmps164
 go_wp2_with fail
 refine(aD.o _).mono ?_;rintro e W1 ⟨rfl,ar⟩;have G1:=ZZ (aY.o W1 _ _ rfl rfl ar);clear ar aY aD
 go_wp2_with fail
 refine(am.o _ _ G1.out.cap G1.out.rd).mono ?_;rintro e W2 ⟨v2,rfl,aT,aJ,aO⟩;have G2:=ZZ (G1.out.next aO aT aJ);obtain⟨p0,f0⟩:=G2.out.box.cell 0;clear aT aJ aO G1 am;have ab:=ZZ (G2.out.store (kd':=(kd:Int)) (vl':=.slice none 0 0) (sh':=false) (g':=0) 0 (.int .i64 (kd:Int)) _ rfl (fun n e=>by simp at e) rfl)
 go_wp2_with fail
 refine(ak.o _ _ ab.o.cap ab.o.rd).mono ?_;rintro e W3 ⟨v3,rfl,aU,aN,aq⟩;have G3:=ZZ (ab.o.next aq aU aN);clear aU aN aq G2 ab ak p0 f0
 go_wp2_with fail
 refine(ai.o _ _ G3.out.cap G3.out.rd).mono ?_;rintro e W4 ⟨v4,rfl,aH,aL,aV⟩;have d:=ZZ (G3.out.next aV aH aL);clear aH aL aV G3 ai;by_cases E:k=0∨3<y∨128<a
 ·have I:Hid (D=(ZcB,3)):=HG.o.1 E
  obtain⟨B,g0⟩:=d.out.res.cell 0;obtain⟨H,g1⟩:=d.out.res.cell 1;obtain⟨F,g2⟩:=d.out.res.cell 2;obtain⟨z,g3⟩:=d.out.res.cell 3;have aa:=ZZ d.out.below;by_cases L:k=0
  ·rw[decide_eq_false (fun h=>h L)]
   clear L E d;go_wp2;refine bodyPost_ret (v:=.tuple #[.agg #[.int .i64 0,.slice none 0 0,.bool false,.int .i64 0],.int .i64 3]) (by simp[results,Tryz.results164,go_sem,B,H,F,z]) rfl ?_
   rw[I.o];exact Zau.zero 3 (Zae aa.o w.heap.size zL _ _ _ _)
  ·rw[decide_eq_true L]
   by_cases h3:3<y
   ·have ba:(3:Int)<(y:Int):=by omega
    clear L E d h3;go_wp2;refine bodyPost_ret (v:=.tuple #[.agg #[.int .i64 0,.slice none 0 0,.bool false,.int .i64 0],.int .i64 3]) (by simp[results,Tryz.results164,go_sem,B,H,F,z]) rfl ?_
    rw[I.o];exact Zau.zero 3 (Zae aa.o w.heap.size zL _ _ _ _)
   ·have ba:¬ (3:Int)<(y:Int):=by omega
    have h4:(128:Int)<(a:Int):=by
     rcases E with h | h | h
     ·exact absurd h L
     ·exact absurd h h3
     ·omega
    clear L E d h3;go_wp2;refine bodyPost_ret (v:=.tuple #[.agg #[.int .i64 0,.slice none 0 0,.bool false,.int .i64 0],.int .i64 3]) (by simp[results,Tryz.results164,go_sem,B,H,F,z]) rfl ?_
    rw[I.o];exact Zau.zero 3 (Zae aa.o w.heap.size zL _ _ _ _)
 ·have I:Hid (D=ZjE kd y a R):=HG.o.2 E
  have L:k≠0:=fun h=>E (.inl h)
  have h3:¬ (3:Int)<(y:Int):=fun h=>E (.inr (.inl (by omega)))
  have h4:¬ (128:Int)<(a:Int):=fun h=>E (.inr (.inr (by omega)))
  rw[decide_eq_true L];obtain⟨p1,f1⟩:=d.out.box.cell 1;obtain⟨p2,f2⟩:=d.out.box.cell 2;obtain⟨p3,f3⟩:=d.out.box.cell 3;clear E L HG;have aQ:y=0∨y=1∨y=2∨y=3:=by omega
  go_upto_region 8 with fail
  go_cut[] (fun wc=>∃ (p:Bool) (g:Int),Hid (∀ xs,mkS kd y xs=⟨kd,xs,p,g⟩)∧Hid (I64 g)∧Hid (SIn w wc kd (.slice none 0 0) p g v4 R))
  case first=>
   rcases aQ with rfl | rfl | rfl | rfl
   ·go_wp2
    go_meet
    exact⟨false,0,ZZ (fun xs=>by simp[mkS]),ZZ (Qo (by omega) (by omega)),ZZ ((d.out.store 2 (.bool false) _ rfl (fun n e=>by simp at e) rfl).store 3 (.int .i64 0) _ rfl (fun n e=>by simp at e) rfl)⟩
   ·go_wp2
    go_meet
    exact⟨true,0,ZZ (fun xs=>by simp[mkS]),ZZ (Qo (by omega) (by omega)),ZZ ((d.out.store 2 (.bool true) _ rfl (fun n e=>by simp at e) rfl).store 3 (.int .i64 0) _ rfl (fun n e=>by simp at e) rfl)⟩
   ·go_wp2
    go_meet
    exact⟨true,1,ZZ (fun xs=>by simp[mkS]),ZZ (Qo (by omega) (by omega)),ZZ ((d.out.store 2 (.bool true) _ rfl (fun n e=>by simp at e) rfl).store 3 (.int .i64 1) _ rfl (fun n e=>by simp at e) rfl)⟩
   ·go_wp2
    go_meet
    exact⟨true,2,ZZ (fun xs=>by simp[mkS]),ZZ (Qo (by omega) (by omega)),ZZ ((d.out.store 2 (.bool true) _ rfl (fun n e=>by simp at e) rfl).store 3 (.int .i64 2) _ rfl (fun n e=>by simp at e) rfl)⟩
  case rest=>
   obtain⟨p,g,ay,aG,GS⟩:=hcut;clear aQ p1 f1 p2 f2 p3 f3 d;have ao:=ZZ (DIn.start GS.out a);obtain⟨a1,e1⟩:=(GS.out.more ((Below.refl _ _).alloc zL (.cells (Qr (List.replicate a 0)).toArray 3))).box.cell 1;have a6:=fun W=>Zmc W a (by omega)
   have aX:Hid (I64 (kd:Int)):=⟨by omega,by omega⟩
   have bb:a<=128:=by omega
   have a5:Hid (a<=maxLen):=ZZ (by unfold maxLen;omega)
   generalize (Qr (List.replicate a 0)).toArray=Z at *
   go_upto_region 10 with fail
   generalize ((wc.alloc (.cells Z 3)).setCell ⟨w.heap.size+1,1,none⟩ (.slice (some ⟨wc.heap.size,0,none⟩) a a))=W6 at *;clear a6 a1 e1 GS;generalize wc.heap.size=G at *;obtain⟨T,-⟩:=ao.o.sin.box.cell 1;go_wp2
   go_loopw[10,57] (fun th ix wr=>∃ (q:Nat) (f:Value) (m:List UInt8) (A:List Int) (t:Bool),th=.bool t∧ix=.int .i64 (q:Int)∧q<=a∧Hid (DIn w wr kd g p R a G q f m A t)) (fun _ ix _=>a-(intOf ix).toNat)
   case atStart=>exact⟨0,_,_,_,true,rfl,rfl,Nat.zero_le _,ao⟩
   case round=>
    clear ao T;obtain⟨q,f,m,A,t,rfl,rfl,hq,c⟩:=hrel;by_cases aR:q<a
    ·have a2:(q:Int)<(a:Int):=by omega
     obtain⟨T,-⟩:=c.out.sin.box.cell 1;have a7:=c.out.far;have av:Hid (wr.drew.cell? ⟨w.heap.size+1,1,none⟩=some (.slice (some ⟨G,0,none⟩) a a)):=T;have aF:=ZZ (a9.o m wr.drew f c.out.sin.cap c.out.sin.rd);have a0:=ZZ (fun W' v' V M Q=>c.out.step (W':=W') (v':=v') aR V M Q)
     have aP:=ZZ (fun W' V=>c.out.spot (W':=W') aR V)
     have aZ:=ZZ (fun W' v' V M Q=>(((c.out.sin.next (W':=W') (v':=v') (m':=behind (Qe m).2 m) V M Q).box).cell 1).1)
     generalize zag (Qe m).1=x at *;generalize behind (Qe m).2 m=m' at *;generalize decide ((Qe m).2≠0)=t' at *;go_wp2
     go_region_held(fun w'=>w'.cell? ⟨w.heap.size+1,1,none⟩=some (.slice (some ⟨G,0,none⟩) a a)) (first | exact av.o | exact al.o | exact aM.o)
      (first
       | (go_at_call 218;refine aF.o.mono ?_;rintro e U ⟨v7,rfl,S,aj,az⟩;have ae:=az.ofDrew;have al:Hid (U.cell? ⟨w.heap.size+1,1,none⟩=some (.slice (some ⟨G,0,none⟩) a a)):=aZ.o U v7 ae S aj;obtain⟨k0,k1⟩:=aP.o U ae;have aM:Hid ((U.setCell ⟨G,q,none⟩ (.int .i64 x)).cell? ⟨w.heap.size+1,1,none⟩=some (.slice (some ⟨G,0,none⟩) a a)):=ZZ ((World.cell?_setCell_far U _ _ _ (by show G≠w.heap.size+1;omega)).trans al.o);have a3:=ZZ (a0.o U v7 ae S aj);clear S aj az ae))
     clear av al aM aF a0 aP aZ k0 k1 T a7 c;go_wp2;go_roundw
     case rel=>exact⟨q+1,_,_,_,_,rfl,by go_num,by omega,a3⟩
     case measure=>simp[intOf];omega
    ·have aA:q=a:=by omega
     have a2:¬ (q:Int)<(a:Int):=by omega
     have aI:=c.out.len;have au:=ZZ (c.out.own a5.o);obtain⟨B,f0⟩:=c.out.sin.res.cell 0;obtain⟨H,f1⟩:=c.out.sin.res.cell 1;obtain⟨F,f2⟩:=c.out.sin.res.cell 2;obtain⟨z,f3⟩:=c.out.sin.res.cell 3;have aa:=ZZ c.out.sin.below;rcases c.out.st with ⟨rfl,u,N,ad⟩ | ⟨rfl,N,ad⟩
     ·have hu:=(ZbX _ _ _ _ N).2.1
      have aC:m.length=R.length-u:=by rw[ad,length_drop]
      have aB:A.take q=A:=List.take_of_length_le (by omega)
      rw[aB,aA] at N;have ap:=ZZ N;have M:=c.out.sin.cap.cell.1;obtain⟨a4,c4,rfl,-⟩:=c.out.sin.rd;have HL:=ZZ (fun W h=>Zrd (w.heap.size+1+1) a4 m.length c4 W h)
      clear N aB ad;by_cases an:u=R.length
      ·have ag:m.length=0:=by omega
       rw[ag] at M HL
       have af:Hid (D=if Yl ⟨kd,A,p,g⟩ then((⟨kd,A,p,g⟩:St),0) else(ZcB,1)):=by
        refine ZZ ?_;rw[I.o];unfold ZjE;rw[ap.o];simp only;rw[if_neg (by omega),ay.o]
       have aK:=ZZ (ZbX _ _ _ _ ap.o).2.2.2;have a8:=ZZ (au.o.rd aK.o);have q0:=(c.out.sin.box.cell 0).1;have q1:=(c.out.sin.box.cell 1).1;have q2:=(c.out.sin.box.cell 2).1;have q3:=(c.out.sin.box.cell 3).1;have ax:Hid (Calls prog 82 #[.agg #[.int .i64 kd,.slice (some ⟨G,0,none⟩) a a,.bool p,.int .i64 g]] wr fun e w'=>e=.returned (.bool (decide (Yl ⟨kd,A,p,g⟩)))∧Below wr.heap.size wr w'):=ZlG _ ⟨kd,A,p,g⟩ _ ⟨_,rfl,a8.o,aX.o,aG.o⟩
       clear an aC ag aI I ay
       go_wp2_with fail
       refine(HL.o _ M).mono ?_;rintro e W8 ⟨rfl,rfl⟩
       go_wp2_with fail
       refine ax.o.mono ?_;rintro e U ⟨rfl,S⟩;have C:=ZZ (c.out.sin.more S);have aw:=ZZ (au.o.below S zL);clear S B H F z f0 f1 f2 f3 q0 q1 q2 q3 M ax HL;obtain⟨B,f0⟩:=C.o.res.cell 0;obtain⟨H,f1⟩:=C.o.res.cell 1;obtain⟨F,f2⟩:=C.o.res.cell 2;obtain⟨z,f3⟩:=C.o.res.cell 3;have q0:=(C.o.box.cell 0).1;have q1:=(C.o.box.cell 1).1;have q2:=(C.o.box.cell 2).1;have q3:=(C.o.box.cell 3).1;by_cases hm:Yl ⟨kd,A,p,g⟩
       ·rw[decide_eq_true hm]
        have HF:Hid (D=((⟨kd,A,p,g⟩:St),0)):=af.o.trans (if_pos hm);clear hm af;go_wp2;refine bodyPost_ret (v:=.tuple #[.agg #[.int .i64 kd,.slice (some ⟨G,0,none⟩) a a,.bool p,.int .i64 g],.int .i64 0]) (by simp[results,Tryz.results164,go_sem,B,H,F,z]) rfl ?_
        rw[HF.o];refine⟨_,rfl,(aw.o.four w.heap.size (by omega) _ _ _ _).rd aK.o,aX.o,aG.o,fun b V=>?_,Zae C.o.below w.heap.size zL _ _ _ _⟩
        have:=aw.o.fresh b V;omega
       ·rw[decide_eq_false hm]
        have HF:Hid (D=(ZcB,1)):=af.o.trans (if_neg hm);clear hm af;go_wp2;refine bodyPost_ret (v:=.tuple #[.agg #[.int .i64 0,.slice none 0 0,.bool false,.int .i64 0],.int .i64 1]) (by simp[results,Tryz.results164,go_sem,B,H,F,z]) rfl ?_
        rw[HF.o];exact Zau.zero 1 (Zae C.o.below w.heap.size zL _ _ _ _)
      ·have ag:(0:Int)<(m.length:Int):=by omega
       have HF:Hid (D=(ZcB,3)):=by
        refine ZZ ?_;rw[I.o];unfold ZjE;rw[ap.o];simp only;rw[if_pos an]
       clear an aC aI I
       go_wp2_with fail
       refine(HL.o _ M).mono ?_;rintro e W8 ⟨rfl,rfl⟩;go_wp2;refine bodyPost_ret (v:=.tuple #[.agg #[.int .i64 0,.slice none 0 0,.bool false,.int .i64 0],.int .i64 3]) (by simp[results,Tryz.results164,go_sem,B,H,F,z]) rfl ?_
       rw[HF.o];exact Zau.zero 3 (Zae aa.o w.heap.size zL _ _ _ _)
     ·rw[aA] at N
      have HF:Hid (D=(ZcB,3)):=by
       refine ZZ ?_;rw[I.o];unfold ZjE;rw[N]
      clear N ad c;go_wp2;refine bodyPost_ret (v:=.tuple #[.agg #[.int .i64 0,.slice none 0 0,.bool false,.int .i64 0],.int .i64 3]) (by simp[results,Tryz.results164,go_sem,B,H,F,z]) rfl ?_
      rw[HF.o];exact Zau.zero 3 (Zae aa.o w.heap.size zL _ _ _ _)
end Go.Proofs.YtnahjngbneicaaaGreatDoor
