import Derived.Test.YtnahjngbneicaaaGreatDoorPack11
namespace Go.Proofs.YtnahjngbneicaaaGreatDoor
open _root_.Go.Proofs.Tryz
open List (drop_drop length_append length_drop mem_cons mem_of_mem_take)
set_option maxHeartbeats 8000000
set_option maxRecDepth 100000
open Go.RowKit
variable {d e v v' x:Value} {G T b k n u:Nat} {W W' X w w':World} {R l m m':List UInt8} {cs:Array Value} {a c g kd:Int} {xs:List Int}
theorem ZiL {K:Nat->Prop} {pd p:Nat} {s:Sto} {d:Dk} {N:Nat} (vl:Value) (l:List Rec) (w:World) (h:SD K w pd p s d N T) (hK:∀ k,K k->k<w.heap.size) (C:OkS s) (hr:RdR w vl l) (aJ:l=[]∨∀ k,vl.ownBlock=some k->K k)
 (ba:s.log.pcs.length<=500000) (a2:s.log.recs.length<=5000000) (hN:N<=900000) (hT:T<=900000000):
 Calls prog 22 #[ptr p,vl] w fun e w'=>Jz K w pd p (X5 l (s,d)) (N+2) (T+30000) e w':=by
 have av:=ZZ (ZbF vl l w hr);have HS:=ZZ h;have HK:=ZZ hK
 have aB:Hid (∀ W,Below w.heap.size w W->Calls prog 14 #[ptr p] W fun e w'=>e=.returned (.int .i64 s.next)∧Below w.heap.size w w'):=ZZ (fun W f=>((HS.o.below f).next C.num).mono (by
  rintro e w' ⟨rfl,z⟩
  exact⟨rfl,f.trans (z.mono f.size)⟩))
 obtain⟨V,ap⟩:∃ V,V=X5 l (s,d):=⟨_,rfl⟩;rw[<-ap];have aK:=ZZ ap;have aY:Hid (∀ W c,Below w.heap.size w W->Jz K w pd p ((s,d),c) (N+2) (T+30000) (.returned (.int .i64 c)) W):=ZZ (fun W c f=>⟨rfl,(HS.o.below f).mono (by omega) (by omega),Ql.ofBelow f⟩)
 by_cases m:Yc l
 case neg=>
  rw[decide_eq_false m] at av;have HR:Hid (V=((s,d),1)):=ZZ (by rw[aK.o];unfold X5;rw[if_pos m])
  obtain⟨ra,rc,rfl,-⟩:=hr;clear h hK C aJ ap m
  go_enter func22,ntmps22
  go_wp2_with fail
  refine av.o.mono ?_;rintro e W1 ⟨rfl,u⟩;have aS:=ZZ u;clear u;go_wp2;go_ret;rw[HR.o];exact aY.o W1 1 aS.o
 rw[decide_eq_true m] at av;have bu:=ZZ hr;have bU:=ZZ aJ;have aI:1<=l.length:=m.1;have bb:l.length<=256:=m.2.1;obtain⟨ra,rc,rfl,bA,bt,-,bi,bT⟩:=hr;rcases bT with h0 | ⟨b,ax,rfl,az⟩
 ·rw[h0] at aI;simp at aI
 have aE:l.getD 0 Qi=l.headD Qi:=by cases l <;> rfl
 have ae:Hid (∀ W,Below w.heap.size w W->W.cell? ⟨b,ax,none⟩=some (.int .i64 (l.headD Qi).idx)):=ZZ (fun W f=>by
  have i:=(az 0 (by omega)).keep (f.block b (az 0 (by omega)).lt)
  have h1:=i.1;rw[aE,Nat.zero_mul,Nat.add_zero] at h1
  exact h1)
 have aP:Hid (∀ W,Below w.heap.size w W->Below w.heap.size w W.drew):=ZZ (fun W f=>f.drew)
 by_cases O:(l.headD Qi).idx=s.next
 case neg=>
  have HR:Hid (V=((s,d),15)):=ZZ (by rw[aK.o];unfold X5;rw[if_neg (fun t=>t m),if_pos O])
  have af:((l.headD Qi).idx != s.next)=true:=by rw[bne_iff_ne];exact O
  have bN:(0:Int)<(l.length:Int):=by omega
  generalize s.next=nx at *;generalize (l.headD Qi).idx=X at *;clear h hK C aJ ap m az aE bi O
  go_enter func22,ntmps22
  go_wp2_with fail
  refine av.o.mono ?_;rintro e W1 ⟨rfl,u⟩;have aS:=ZZ u;have ab:=ZZ (aP.o W1 u);clear u
  go_upto_region 3 with fail
  go_cut[12] (fun v wc=>v=.bool true∧Hid (Below w.heap.size w wc))
  case first=>
   go_region_held(fun W=>W.cell? ⟨b,ax,none⟩=some (.int .i64 X))
    (first | (with_reducible exact ae.o _ ab.o) | (with_reducible exact ae.o _ B.o))
    (first | (go_at_call 14;refine(aB.o _ ab.o).mono ?_;rintro e W2 ⟨rfl,aa⟩;have B:=ZZ aa;clear aa))
   all_goals
    go_wp2_with fail
    go_meet
    exact⟨by first | rfl | (rw[af]),B⟩
  case rest=>
   obtain⟨rfl,HB⟩:=hcut;go_wp2;go_ret;rw[HR.o];exact aY.o _ 15 HB.o
 have af:((l.headD Qi).idx != s.next)=false:=by rw[O];simp
 have aV:Qz (l.headD Qi):=by
  rw[<-aE];rw[show l.getD 0 Qi=l[0]'(by omega) by simp[List.getD,show 0<l.length by omega]]
  exact m.2.2.1 _ (List.getElem_mem _)
 have bh:0<=s.next:=by rw[<-O];exact aV.2.1
 have aX:s.next<4611686018427387904:=by rw[<-O];exact aV.2.2.1
 have aR:0<=s.now.st.kind∧s.now.st.kind<6:=⟨C.now.1.2.2.2.1,C.now.1.2.2.2.2.1⟩;have bq:=ZsU m aR aX;obtain⟨g,aw⟩:∃ g,g=Jr s d:=⟨_,rfl⟩;obtain⟨BA,ac⟩:∃ BA,BA=Jv s l:=⟨_,rfl⟩;obtain⟨⟨D,c⟩,hD⟩:∃ r,r=Qy d g BA:=⟨_,rfl⟩
 have a3:I64 g:=by
  rw[aw];unfold Jr;split
  ·obtain⟨F,M,I,L,⟨L1,g1,g2,-⟩,-⟩:=h
   exact ZcQ g2 2 (by decide) (by decide)
  ·exact C.cu
 have ar:Hid (V=if c=0 then((Y3 s g l,D),0) else((s,D),c)):=ZZ (by
  rw[aK.o];unfold X5;rw[if_neg (fun t=>t m),if_neg (fun t=>t O)]
  dsimp only
  rw[<-aw,<-ac,<-hD])
 have a9:Hid (∀ W,Below w.heap.size w W->Calls prog 49 #[.slice (some ⟨b,ax,none⟩) l.length rc] W fun e w'=>∃ v',e=.returned v'∧Own w' w.heap.size v' (Qd (X9 l))∧Below w.heap.size w w'):=ZZ (fun W f=>(ZjS _ l W (bu.o.below f zL) m (by have:=ZiK m;omega)).mono (by
  rintro e w' ⟨v',rfl,j,z⟩
  exact⟨v',rfl,j.mono f.size,f.trans (z.mono f.size)⟩))
 have J:Hid (∀ W,Below w.heap.size w W->W.cell? ⟨p,0,none⟩=some (ptr pd)∧W.cell? ⟨p,12,none⟩=some (.int .i64 s.cur)):=ZZ (fun W f=>by
  obtain⟨⟨c0,-,b6,-⟩,-⟩:=(HS.o.below f).cells
  exact⟨c0,b6⟩)
 have bd:Hid (∀ vB W,Own W w.heap.size vB BA->Below w.heap.size w W->Calls prog 52 #[ptr pd,.int .i64 g,vB] W fun e w'=>e=.returned (.int .i64 c)∧SD K w' pd p s D (N+2) (T+30000)∧Ql (fun k=>¬ K k) w w'):=ZZ (fun vB W j f=>by
  refine((HS.o.fresh f).disk (c:=c) (d':=D) (N':=N+2) (T':=T+30000) (fun k hk=>?_) (fun F hF bQ=>?_)).mono ?_
  ·rcases hk with hk | hk
   ·exact Nat.lt_of_lt_of_le (HK.o k hk) f.size
   ·exact hk.2
  ·have:=Zkj g a3 vB BA W hF j.rd (.inr fun k hk m=>bQ k m (.inr ⟨(World.ownsRow.lt j k hk).1,(World.ownsRow.lt j k hk).2⟩)) (by omega) (by omega) (by rw[ac];omega)
   rw[<-hD] at this;refine this.mono ?_;rintro e w' ⟨g0,F',g1,g2⟩;exact⟨g0,F',g1.mono zL (by rw[ac];omega),g2⟩
  ·rintro e w' ⟨he,Q,b4⟩
   exact⟨he,Q.less (fun k hk=>.inl hk),(Ql.ofBelow f).trans (b4.mono (fun k hk hn=>hk (.inl hn))) (fun _ _ t=>t)⟩)
 have E:Hid (∀ W,Ql (fun k=>¬ K k) w W->RdR W (.slice (some ⟨b,ax,none⟩) l.length rc) l∧∀ k,K k->k<W.heap.size):=ZZ (fun W j=>⟨bu.o.keepK bU.o j,fun k hk=>Nat.lt_of_lt_of_le (HK.o k hk) j.size⟩)
 have H:=ZZ C;have aF:=ZZ (And.intro ba a2);have a0:=ZZ (And.intro aI bb);have bN:(0:Int)<(l.length:Int):=by omega
 have b9:(l.length:Int)<=256:=by omega
 by_cases y:s.cur=0
 ·have aT:(s.cur == 0)=true:=by rw[y];rfl
  have au:Hid (g=Xs d 2):=ZZ (by rw[aw];unfold Jr;rw[if_pos y])
  have aU:Hid (BA=Qd (Xq 3 s.now.st.kind.toNat s.next.toNat)++Qd (X9 l)):=ZZ (by rw[ac];unfold Jv;rw[if_pos y])
  have bV:Hid ((Qd (Xq 3 s.now.st.kind.toNat s.next.toNat)).length+(Qd (X9 l)).length<=70368744177664):=ZZ (by
   rw[<-length_append,<-aU.o,ac]
   omega)
  have b2:Hid (∀ W,Below w.heap.size w W->Calls prog 50 #[ptr p,.int .i64 2] W fun e w'=>e=.returned (.int .i64 g)∧Below w.heap.size w w'∧Below W.heap.size W w'):=ZZ (fun W f=>by
   obtain⟨F,M,I,L,h1,h2,-⟩:=HS.o.below f;rw[au.o];refine(Zgn 2 W h2 h1 (by omega) (by decide) (by decide)).mono ?_
   rintro e w' ⟨rfl,z⟩
   exact⟨rfl,f.trans (z.mono f.size),z⟩)
  have b3:Hid (∀ W,Below w.heap.size w W->Calls prog 51 #[ptr p] W fun e w'=>∃ v',e=.returned v'∧Own w' w.heap.size v' (Qd (Xq 3 s.now.st.kind.toNat s.next.toNat))∧Below w.heap.size w w'∧Below W.heap.size W w'):=ZZ (fun W f=>by
   obtain⟨F,M,I,L,h1,h2,-⟩:=HS.o.below f;refine(ZlZ W h2 C.num aR aX bh).mono ?_;rintro e w' ⟨v',rfl,j,z⟩
   exact⟨v',rfl,j.mono f.size,f.trans (z.mono f.size),z⟩)
  have bc:Hid (∀ W,SD K W pd p { s with log:=(s.log.start g s.next).add l,now:=(Q3 s.now l).1,cur:=g,nw:=true } D (N+2) (T+30000)->Ql (fun k=>¬ K k) w W->c=0->Jz K w pd p V (N+2) (T+30000) (.returned (.int .i64 0)) W):=ZZ (fun W Q j i=>by
   rw[ar.o,if_pos i];refine⟨rfl,?_,j⟩;have e1:Y3 s g l={ s with log:=(s.log.start g s.next).add l,now:=(Q3 s.now l).1,cur:=g,nw:=true }:=by unfold Y3;rw[if_pos y,if_pos y]
   rw[e1]
   exact Q)
  have be:Hid (∀ W,SD K W pd p s D (N+2) (T+30000)->Ql (fun k=>¬ K k) w W->c≠0->Jz K w pd p V (N+2) (T+30000) (.returned (.int .i64 c)) W):=ZZ (fun W Q j i=>by
   rw[ar.o,if_neg i]
   exact⟨rfl,Q,j⟩)
  have bx:Hid (s.cur≠0->s.log.pcs.length≠0):=ZZ C.cur;have bv:=ZZ y;obtain⟨nx,ai⟩:∃ nx,nx=s.next:=⟨_,rfl⟩;obtain⟨X,aM⟩:∃ X,X=(l.headD Qi).idx:=⟨_,rfl⟩;rw[<-ai] at aB af;rw[<-aM] at ae af;have aZ:=ZZ ai;obtain⟨A,an⟩:∃ A,A=s.cur:=⟨_,rfl⟩;rw[<-an] at J aT;have bk:=ZZ an;clear an;clear h hK C aJ ap m az aE bi O ai aM hD ac aw y aK ar aV bq a3 aR bh aX ba a2 bA bt aI bb aY
  go_enter func22,ntmps22
  go_wp2_with fail
  refine av.o.mono ?_;rintro e W1 ⟨rfl,u⟩;have aS:=ZZ u;have ab:=ZZ (aP.o W1 u);clear u
  go_upto_region 3 with fail
  go_cut[12] (fun v wc=>v=.bool false∧Hid (Below w.heap.size w wc))
  case first=>
   go_region_held(fun W=>W.cell? ⟨b,ax,none⟩=some (.int .i64 X))
    (first | (with_reducible exact ae.o _ ab.o) | (with_reducible exact ae.o _ B.o))
    (first | (go_at_call 14;refine(aB.o _ ab.o).mono ?_;rintro e W2 ⟨rfl,aa⟩;have B:=ZZ aa;clear aa))
   all_goals
    go_wp2_with fail
    go_meet
    exact⟨by first | rfl | (rw[af]),B⟩
  case rest=>
  obtain⟨W2,rfl⟩:∃ W,W=wc:=⟨_,rfl⟩;obtain⟨rfl,B⟩:=hcut;have aL:=ZZ (aP.o W2 B.o)
  go_upto_region 5 with fail
  go_cut[5,6] (fun v5 v6 wc=>v5=.int .i64 A∧(∃ a n c,v6=.slice a n c)∧Hid (Own wc w.heap.size v6 (Qd (X9 l)))∧Hid (Below w.heap.size w wc))
  case first=>
   go_region_held(fun W=>W.cell? ⟨p,12,none⟩=some (.int .i64 A))
    (first | (with_reducible exact(J.o _ aL.o).2) | (with_reducible exact(J.o _ G.o).2))
    (first | (go_at_call 49;refine(a9.o _ aL.o).mono ?_;rintro e U ⟨v3,rfl,aj,aG⟩;have ak:=ZZ aj;have G:=ZZ aG;obtain⟨z1,z2,z3,hz⟩:∃ a n c,v3=Value.slice a n c:=(by obtain⟨a,c,t⟩:=aj.shape;exact⟨a,_,c,t⟩);subst hz;clear aj aG))
   all_goals
    go_wp2_with fail
    go_meet
    exact⟨rfl,⟨_,_,_,rfl⟩,ak,G⟩
  case rest=>
  obtain⟨U,rfl⟩:∃ W,W=wc:=⟨_,rfl⟩;obtain⟨rfl,⟨z1,z2,z3,rfl⟩,ak,G⟩:=hcut;obtain⟨q0,aH⟩:=J.o U G.o
  go_wp2_with fail
  refine(b2.o U G.o).mono ?_;rintro e W4 ⟨rfl,bz,bw⟩;have b8:=ZZ bz;have b7:=ZZ bw;clear bw;have bH:Hid (Own W4 w.heap.size (.slice z1 z2 z3) (Qd (X9 l))):=ZZ (ak.o.below (show Below U.heap.size U W4 from b7.o) zL);clear bz q0 aH
  go_wp2_with fail
  refine(b3.o W4 b8.o).mono ?_;rintro e W5 ⟨v5,rfl,a5,a1,br⟩;have bO:=ZZ a1;have bW:=ZZ br;clear br;have bL:=ZZ a5;have b5:Hid (Rd W5 (.slice z1 z2 z3) (Qd (X9 l))):=ZZ (bH.o.rd.below (show Below W4.heap.size W4 W5 from bW.o) zL);have bR:Hid (w.heap.size<=W5.heap.size):=ZZ a1.size
  obtain⟨y1,y2,y3,hy⟩:∃ a n c,v5=Value.slice a n c:=by
   obtain⟨a,c,t⟩:=a5.shape;exact⟨a,_,c,t⟩
  subst hy;clear a5 a1
  go_wp2_with(at_builtin;refine Xw _ rfl _ _ rfl w.heap.size _ _ rfl bL.o _ (Qd (X9 l)) rfl b5.o bV.o bR.o ?_)
  intro v6 W6 aW bD;rw[<-aU.o] at aW;have bS:=ZZ aW;have bB:Hid (Below w.heap.size w W6):=ZZ (bO.o.trans bD)
  obtain⟨x1,x2,x3,bP⟩:∃ a n c,v6=Value.slice a n c:=by
   obtain⟨a,c,t⟩:=aW.shape;exact⟨a,_,c,t⟩
  subst bP;obtain⟨q0,aH⟩:=J.o W6 bB.o;clear aW bD
  go_wp2_with fail
  refine(bd.o _ W6 bS.o bB.o).mono ?_;rintro e x ⟨rfl,ah,aC⟩;have am:=ZZ ah;have aq:=ZZ aC;obtain⟨⟨-,-,Z,ag⟩,R⟩:=ah.cells;clear ah aC q0 aH;by_cases i:c=0
  case neg=>
   have bJ:(c != 0)=true:=by rw[bne_iff_ne];exact i
   have HE:=ZZ (be.o x am.o aq.o i);clear i R Z ag;go_wp2;go_ret;exact HE.o
  have bF:=ZZ i;subst i;rw[<-bk.o] at Z;have bX:=ZZ (am.o.next H.o.num);rw[<-aZ.o] at bX
  have bZ:Hid (∀ W,Below x.heap.size x W->Calls prog 53 #[.pointer (some ⟨p,1,none⟩),.int .i64 g,.int .i64 nx] W fun e w'=>e=.returned (.tuple #[])∧SD K w' pd p { s with log:=s.log.start g s.next } D (N+2) (T+30000)∧Ql (fun k=>¬ K k) w w'):=ZZ (fun W f=>by
   have z:=(am.o.below f).begin (fun k hk=>Nat.lt_of_lt_of_le ((E.o x aq.o).2 k hk) f.size) g nx (by have:=aF.o.1;omega)
   rw[aZ.o] at z ⊢;refine z.mono ?_;rintro e w' ⟨he,h2,h3⟩
   exact⟨he,h2,(aq.o.trans (Ql.ofBelow (F:=fun _=>False) f) (fun _ _ h=>h.elim)).trans h3 (fun _ _ h=>h)⟩)
  have bK:Hid (Below x.heap.size x x.drew):=ZZ (Below.refl _ _).drew
  have bI:Hid (∀ W,Below x.heap.size x W->Calls prog 14 #[ptr p] W fun e w'=>e=.returned (.int .i64 nx)∧Below x.heap.size x w'):=ZZ (fun W f=>by
   rw[aZ.o];refine((am.o.below f).next H.o.num).mono ?_;rintro e w' ⟨rfl,z⟩
   exact⟨rfl,f.trans (z.mono f.size)⟩)
  go_upto_region 12 with fail
  go_cut[] (fun wc=>Hid (SD K wc pd p { s with log:=s.log.start g s.next } D (N+2) (T+30000)∧Ql (fun k=>¬ K k) w wc))
  case first=>
   go_region_with
    (first
     | (go_at_call 14;refine(bI.o _ (by first | exact bK.o | exact Below.refl _ _)).mono ?_;rintro e W8 ⟨rfl,bl⟩;have bY:=ZZ bl;clear bl)
     | (go_at_call 53;refine(bZ.o W8 bY.o).mono ?_;rintro e W9 ⟨rfl,bm,bp⟩;have ad:=ZZ (And.intro bm bp);clear bm bp))
   all_goals
    go_wp2_with fail
    go_meet
    exact ad
  case rest=>
  obtain⟨W9,rfl⟩:∃ W,W=wc:=⟨_,rfl⟩;have ad:=hcut;clear hcut R Z ag;obtain⟨⟨-,-,Z,ag⟩,R⟩:=ad.o.1.cells;have bG:=R 12;have bE:=R 13;have a8:=ZZ (((ad.o.1.setHead (s':={ s with log:=s.log.start g s.next,cur:=g }) (E.o W9 ad.o.2).2 12 (.int .i64 g) rfl rfl rfl (fun _=>rfl))))
  have a4:=ZZ (a8.o.1.setHead (s':={ s with log:=s.log.start g s.next,cur:=g,nw:=true }) (fun k hk=>by have:=(E.o W9 ad.o.2).2 k hk;simpa using this) 13 (.bool true) rfl rfl rfl (fun _=>rfl))
  obtain⟨Y,a7⟩:∃ Y,Y=(W9.setCell ⟨p,12,none⟩ (.int .i64 g)).setCell ⟨p,13,none⟩ (.bool true):=⟨_,rfl⟩;have S:Hid (SD K Y pd p { s with log:=s.log.start g s.next,cur:=g,nw:=true } D (N+2) (T+30000)∧Ql (fun k=>¬ K k) w Y):=ZZ (by rw[a7];exact⟨a4.o.1,(ad.o.2.trans a8.o.2 (fun _ _ h=>h)).trans a4.o.2 (fun _ _ h=>h)⟩)
  have bo:({ s with log:=s.log.start g s.next }:Sto).cur=A:=bk.o.symm
  rw[bo] at Z;have bn:({ s with log:=s.log.start g s.next }:Sto).nw=s.nw:=rfl
  rw[bn] at ag;clear bo bn R
  go_upto_region 14 with fail
  rw[<-a7];clear a7 Z ag bG bE ad a8 a4
  have aD:=ZZ (S.o.1.add (E.o Y S.o.2).2 _ l (E.o Y S.o.2).1 (by simp[Lgb.start]) (by have:=aF.o.1;simp[Lgb.start];omega) (by have:=aF.o.2;have:=a0.o.2;show s.log.recs.length+l.length<=_;omega) (fun q hq=>by
   have a6:=H.o.log.start g s.next (by have:=H.o.log.f0;have:=Zai H.o.log.ch;show 0<=s.log.next;omega) H.o.log.top (.inr rfl)
   have:=ZaY a6.ch q hq;have:=a6.f0;have:=a6.top
   omega))
  go_wp2_with fail
  refine aD.o.mono ?_;rintro e P ⟨rfl,aO,aN⟩;have bg:Hid (SD K P pd p { s with log:=(s.log.start g s.next).add l,cur:=g,nw:=true } D (N+2) (T+30000)):=ZZ aO
  have ao:Hid (Ql (fun k=>¬ K k) w P):=ZZ (S.o.2.trans aN (fun _ _ h=>h))
  clear aO aN aD;obtain⟨la,ln,lc,ta,tn,tc,⟨c5,c6,c7,c8,c9,bj⟩,aA⟩:=bg.o.takes (E.o P ao.o).2 H.o.now _ l (E.o P ao.o).1 (by have:=a0.o.2;omega)
  have al:=ZZ aA;clear aA
  dsimp only at c5 c6 c8 c9 al
  go_wp2_with fail
  refine al.o.mono ?_;rintro e WC ⟨xa,xn,xc,ua,un,uc,rfl,⟨e5,e6,e7,e8,e9,b1⟩,fz,aQ,ay⟩;have bf:=ZZ (bc.o _ aQ (ao.o.trans ay (fun _ _ h=>h)) (by first | rfl | trivial))
  have f5:=fz 5;have f6:=fz 6;have f7:=fz 7;have f8:=fz 8;have f9:=fz 9;have b0:=fz 10;clear aQ ay fz c5 c6 c7 c8 c9 bj al;generalize Q3 s.now l=tk at *;go_wp2;go_ret;exact bf.o
 ·have aT:(s.cur == 0)=false:=beq_eq_false_iff_ne.2 y
  have au:Hid (g=s.cur):=ZZ (by rw[aw];unfold Jr;rw[if_neg y])
  have aU:Hid (BA=Qd (X9 l)):=ZZ (by rw[ac];unfold Jv;rw[if_neg y])
  rw[<-aU.o] at a9;rw[<-au.o] at J
  have bc:Hid (∀ W,SD K W pd p { s with log:=s.log.add l,now:=(Q3 s.now l).1 } D (N+2) (T+30000)->Ql (fun k=>¬ K k) w W->c=0->Jz K w pd p V (N+2) (T+30000) (.returned (.int .i64 0)) W):=ZZ (fun W Q j i=>by
   rw[ar.o,if_pos i];refine⟨rfl,?_,j⟩;have e1:Y3 s g l={ s with log:=s.log.add l,now:=(Q3 s.now l).1 }:=by unfold Y3;rw[if_neg y,if_neg y,au.o]
   rw[e1]
   exact Q)
  rw[<-au.o] at aT
  have be:Hid (∀ W,SD K W pd p s D (N+2) (T+30000)->Ql (fun k=>¬ K k) w W->c≠0->Jz K w pd p V (N+2) (T+30000) (.returned (.int .i64 c)) W):=ZZ (fun W Q j i=>by
   rw[ar.o,if_neg i]
   exact⟨rfl,Q,j⟩)
  have bx:Hid (s.cur≠0->s.log.pcs.length≠0):=ZZ C.cur;have bv:=ZZ y;obtain⟨nx,ai⟩:∃ nx,nx=s.next:=⟨_,rfl⟩;obtain⟨X,aM⟩:∃ X,X=(l.headD Qi).idx:=⟨_,rfl⟩;rw[<-ai] at aB af;rw[<-aM] at ae af;have aZ:=ZZ ai;obtain⟨A,an⟩:∃ A,A=g:=⟨_,rfl⟩;have bM:Hid (s.cur=A):=ZZ (by rw[an,au.o])
  rw[<-an] at J aT bd;clear an;clear h hK C aJ ap m az aE bi O ai aM hD ac aw y aK ar aV bq a3 aR bh aX ba a2 bA bt aI bb aY
  go_enter func22,ntmps22
  go_wp2_with fail
  refine av.o.mono ?_;rintro e W1 ⟨rfl,u⟩;have aS:=ZZ u;have ab:=ZZ (aP.o W1 u);clear u
  go_upto_region 3 with fail
  go_cut[12] (fun v wc=>v=.bool false∧Hid (Below w.heap.size w wc))
  case first=>
   go_region_held(fun W=>W.cell? ⟨b,ax,none⟩=some (.int .i64 X))
    (first | (with_reducible exact ae.o _ ab.o) | (with_reducible exact ae.o _ B.o))
    (first | (go_at_call 14;refine(aB.o _ ab.o).mono ?_;rintro e W2 ⟨rfl,aa⟩;have B:=ZZ aa;clear aa))
   all_goals
    go_wp2_with fail
    go_meet
    exact⟨by first | rfl | (rw[af]),B⟩
  case rest=>
  obtain⟨W2,rfl⟩:∃ W,W=wc:=⟨_,rfl⟩;obtain⟨rfl,B⟩:=hcut;have aL:=ZZ (aP.o W2 B.o)
  go_upto_region 5 with fail
  go_cut[5,6] (fun v5 v6 wc=>v5=.int .i64 A∧(∃ a n c,v6=.slice a n c)∧Hid (Own wc w.heap.size v6 BA)∧Hid (Below w.heap.size w wc))
  case first=>
   go_region_held(fun W=>W.cell? ⟨p,12,none⟩=some (.int .i64 A))
    (first | (with_reducible exact(J.o _ aL.o).2) | (with_reducible exact(J.o _ G.o).2))
    (first | (go_at_call 49;refine(a9.o _ aL.o).mono ?_;rintro e U ⟨v3,rfl,aj,aG⟩;have ak:=ZZ aj;have G:=ZZ aG;obtain⟨z1,z2,z3,hz⟩:∃ a n c,v3=Value.slice a n c:=(by obtain⟨a,c,t⟩:=aj.shape;exact⟨a,_,c,t⟩);subst hz;clear aj aG))
   all_goals
    go_wp2_with fail
    go_meet
    exact⟨rfl,⟨_,_,_,rfl⟩,ak,G⟩
  case rest=>
  obtain⟨U,rfl⟩:∃ W,W=wc:=⟨_,rfl⟩;obtain⟨rfl,⟨z1,z2,z3,rfl⟩,ak,G⟩:=hcut;obtain⟨q0,aH⟩:=J.o U G.o
  go_wp2_with fail
  refine(bd.o _ U ak.o G.o).mono ?_;rintro e x ⟨rfl,ah,aC⟩;have am:=ZZ ah;have aq:=ZZ aC;obtain⟨⟨-,-,Z,ag⟩,R⟩:=ah.cells;clear ah aC q0 aH;by_cases i:c=0
  case neg=>
   have bJ:(c != 0)=true:=by rw[bne_iff_ne];exact i
   have HE:=ZZ (be.o x am.o aq.o i);clear i R Z ag;go_wp2;go_ret;exact HE.o
  have bF:=ZZ i;subst i;obtain⟨Y,rfl⟩:∃ W,W=x:=⟨_,rfl⟩;have S:=ZZ (And.intro am.o aq.o)
  have aD:=ZZ (S.o.1.add (E.o Y S.o.2).2 _ l (E.o Y S.o.2).1 (bx.o bv.o) (by have:=aF.o.1;omega) (by have:=aF.o.2;have:=a0.o.2;omega) (fun q hq=>by
   have:=ZaY H.o.log.ch q hq;have:=H.o.log.f0;have:=H.o.log.top
   omega))
  clear R ag;have bC:s.cur=A:=bM.o;rw[bC] at Z;clear bC
  go_wp2_with fail
  refine aD.o.mono ?_;rintro e P ⟨rfl,aO,aN⟩;have bg:Hid (SD K P pd p { s with log:=s.log.add l } D (N+2) (T+30000)):=ZZ aO
  have ao:Hid (Ql (fun k=>¬ K k) w P):=ZZ (S.o.2.trans aN (fun _ _ h=>h))
  clear aO aN aD;obtain⟨la,ln,lc,ta,tn,tc,⟨c5,c6,c7,c8,c9,bj⟩,aA⟩:=bg.o.takes (E.o P ao.o).2 H.o.now _ l (E.o P ao.o).1 (by have:=a0.o.2;omega)
  have al:=ZZ aA;clear aA
  dsimp only at c5 c6 c8 c9 al
  go_wp2_with fail
  refine al.o.mono ?_;rintro e WC ⟨xa,xn,xc,ua,un,uc,rfl,⟨e5,e6,e7,e8,e9,b1⟩,fz,aQ,ay⟩;have bf:=ZZ (bc.o _ aQ (ao.o.trans ay (fun _ _ h=>h)) (by first | rfl | trivial))
  have f5:=fz 5;have f6:=fz 6;have f7:=fz 7;have f8:=fz 8;have f9:=fz 9;have b0:=fz 10;clear aQ ay fz c5 c6 c7 c8 c9 bj al;generalize Q3 s.now l=tk at *;go_wp2;go_ret;exact bf.o
def Bb (w:World) (b:Nat) (v:Value):Prop:=w.heap[b]?=some (.cells #[v] 53 (0,0))
theorem Bb.lt (h:Bb w b v):b<w.heap.size:=(Array.getElem?_eq_some_iff.1 h).1
theorem Bb.cell (h:Bb w b v):w.cell? ⟨b,0,none⟩=some v∧w.frozen? ⟨b,0,none⟩=false:=
 ⟨(cell_of_row w b 0 _ _ _ h).trans rfl,frozen_of_row w b 0 _ _ h⟩
theorem Bb.set (h:Bb w b v) (x:Value):Bb (w.setCell ⟨b,0,none⟩ x) b x:=by
 have:=heap_setCell_same w b 0 _ _ x h;unfold Bb;simpa using this
theorem Rd.setBox (h:Rd w v m) {b:Nat} {ao:Option Addr} {n cap:Nat} (d:w.cell? ⟨b,0,none⟩=some (.slice ao n cap)):Rd (w.setCell ⟨b,0,none⟩ x) v m:=by
 obtain⟨i,z,y,l,p,t,a⟩:=h;refine⟨i,z,y,l,p,t,?_⟩;rcases a with a | ⟨c,f,k,q⟩
 ·exact .inl a
 ·refine .inr ⟨c,f,k,fun j u=>?_⟩
  have g:=q j u
  rw[World.cell?_setCell_other w ⟨b,0,none⟩ ⟨c,f+j,none⟩ x (fun e=>by
   rw[e,g] at d
   cases d)]
  exact g
def behind (d:Nat) (m:List UInt8):List UInt8:=if d=0 then[] else m.drop d
theorem ZiM (ao:Option Addr) (n cap:Nat) (w:World):
 Calls prog 200 #[.slice ao n cap] w fun e w'=>e=.returned (.tuple #[.func (.func 218) #[] #[.pointer (some ⟨w.heap.size,0,none⟩)],.func (.func 219) #[] #[.pointer (some ⟨w.heap.size,0,none⟩)]])∧w'=w.alloc (.cells #[.slice ao n cap] 53):=by
 have a:∀ (fn:Fn) (first cap:Array Value) (w:World),(Instr.makeFunc fn first cap).run prog w=.ok (.func fn first cap) w:=fun _ _ _ _=>rfl
 go_enter func200,ntmps200
 go_wp2;go_ret2;exact⟨rfl,rfl⟩
theorem Zrd (b:Nat) (ao:Option Addr) (n cap:Nat) (w:World) (a:w.cell? ⟨b,0,none⟩=some (.slice ao n cap)):
 Calls prog 219 #[.pointer (some ⟨b,0,none⟩)] w fun e w'=>e=.returned (.int .i64 (n:Int))∧w'=w:=by
 go_enter func219,ntmps219
 go_wp2;go_ret;exact⟨rfl,rfl⟩
theorem Zre (x:Int) (d:Nat) (b:Nat) (v:Value) (m:List UInt8) (w:World) (a:Bb w b v) (h:Rd w v m) (C:d<=m.length) (f:d=0->x=0)
 (g:Calls prog 168 #[v] w fun e w'=>e=.returned (.tuple #[.int .i64 x,.int .i64 (d:Nat)])∧w'=w):
 Calls prog 218 #[.func (.func 168) #[] #[],.pointer (some ⟨b,0,none⟩)] w fun e w'=>∃ v',e=.returned (.tuple #[.int .i64 x,.bool (decide (d≠0))])∧Bb w' b v'∧Rd w' v' (behind d m)∧But b b w w':=by
 have j:=ZZ g;have l:=ZZ a;have p:=ZZ h;obtain⟨ao,cap,rfl,-⟩:=h;obtain⟨n,E⟩:=a.cell;by_cases c:d=0
 ·subst c
  obtain rfl:=f rfl;clear g a f
  go_enter func218,ntmps218
  go_wp2_with fail
  refine j.o.mono ?_;rintro e w' ⟨rfl,rfl⟩;go_wp2;go_ret2;exact⟨_,rfl,l.o.set _,Rd.nil _,(But.refl _ _ _).set _ _ (.inl rfl) _⟩
 ·have B:((d:Int) == 0)=false:=beq_eq_false_iff_ne.2 (by omega)
  have k:=ZZ (ZhY w _ m p.o .i64 (d:Int) (by omega) (by omega))
  have u:Hid (behind d m=m.drop d):=if_neg c;have q:Hid (decide (d≠0)=true):=decide_eq_true c;rw[Int.toNat_natCast] at k;clear g a f c
  go_enter func218,ntmps218
  go_wp2_with fail
  refine j.o.mono ?_;rintro e w' ⟨rfl,rfl⟩
  go_wp2_with(refine ZfF _ rfl _ _ _ _ rfl _ k.o ?_)
  intro D i;have t:=ZZ i;obtain⟨y,z,rfl,-⟩:=i;generalize A:m.drop d=M at *;go_wp2;go_ret2;refine⟨_,by rw[q.o];rfl,l.o.set _,?_,(But.refl _ _ _).set _ _ (.inl rfl) _⟩
  rw[u.o];exact t.o.setBox n
theorem ZiN (x:Int) (d:Nat) (b:Nat) (v:Value) (m:List UInt8) (w:World) (a:Bb w b v) (h:Rd w v m) (C:d<=m.length) (f:d=0->x=0)
 (g:Calls prog 201 #[v] w fun e w'=>e=.returned (.tuple #[.int .i64 x,.int .i64 (d:Nat)])∧w'=w):
 Calls prog 218 #[.func (.func 201) #[] #[],.pointer (some ⟨b,0,none⟩)] w fun e w'=>∃ v',e=.returned (.tuple #[.int .i64 x,.bool (decide (d≠0))])∧Bb w' b v'∧Rd w' v' (behind d m)∧But b b w w':=by
 have j:=ZZ g;have l:=ZZ a;have p:=ZZ h;obtain⟨ao,cap,rfl,-⟩:=h;obtain⟨n,E⟩:=a.cell;by_cases c:d=0
 ·subst c
  obtain rfl:=f rfl;clear g a f
  go_enter func218,ntmps218
  go_wp2_with fail
  refine j.o.mono ?_;rintro e w' ⟨rfl,rfl⟩;go_wp2;go_ret2;exact⟨_,rfl,l.o.set _,Rd.nil _,(But.refl _ _ _).set _ _ (.inl rfl) _⟩
 ·have B:((d:Int) == 0)=false:=beq_eq_false_iff_ne.2 (by omega)
  have k:=ZZ (ZhY w _ m p.o .i64 (d:Int) (by omega) (by omega))
  have u:Hid (behind d m=m.drop d):=if_neg c;have q:Hid (decide (d≠0)=true):=decide_eq_true c;rw[Int.toNat_natCast] at k;clear g a f c
  go_enter func218,ntmps218
  go_wp2_with fail
  refine j.o.mono ?_;rintro e w' ⟨rfl,rfl⟩
  go_wp2_with(refine ZfF _ rfl _ _ _ _ rfl _ k.o ?_)
  intro D i;have t:=ZZ i;obtain⟨y,z,rfl,-⟩:=i;generalize A:m.drop d=M at *;go_wp2;go_ret2;refine⟨_,by rw[q.o];rfl,l.o.set _,?_,(But.refl _ _ _).set _ _ (.inl rfl) _⟩
  rw[u.o];exact t.o.setBox n
def ZcR (X W:World):Prop:=W.heap=X.heap∧W.os=X.os∧W.tape=X.tape∧W.output=X.output
theorem ZcR.refl (X:World):ZcR X X:=⟨rfl,rfl,rfl,rfl⟩
theorem ZcR.drew (h:ZcR X W):ZcR X W.drew:=h
theorem ZcR.set (h:ZcR X W) (a:Addr) (v:Value):ZcR (X.setCell a v) (W.setCell a v):=by
 obtain⟨e,b,c,d⟩:=h;refine⟨?_,b,c,d⟩;simp only [World.setCell,e]
theorem ZcR.below (h:ZcR X W) (B:Nat):Below B X W:=⟨h.2.1,h.2.2.1,h.2.2.2,by rw[h.1];exact Nat.le_refl _,fun k _=>by rw[h.1]⟩
theorem ZcR.cell (h:ZcR X W) (a:Addr):W.cell? a=X.cell? a:=by simp only [World.cell?,h.1]
theorem ZcR.froz (h:ZcR X W) (a:Addr):W.frozen? a=X.frozen? a:=by simp only [World.frozen?,h.1]
def ZjT (w:World) (p:Nat × Nat):Prop:=(∃ x:Int,w.cell? ⟨p.1,p.2,none⟩=some (.int .i64 x))∧w.frozen? ⟨p.1,p.2,none⟩=false
theorem ZjT.set {p:Nat × Nat} (h:ZjT w p) (a:Nat × Nat) (n:Int):ZjT (w.setCell ⟨a.1,a.2,none⟩ (.int .i64 n)) p:=by
 obtain⟨⟨x,b⟩,c⟩:=h;refine⟨?_,by rw[World.frozen?_setCell];exact c⟩
 by_cases e:(⟨a.1,a.2,none⟩:Addr)=⟨p.1,p.2,none⟩
 ·rw[e]
  exact⟨n,World.cell?_setCell_same _ _ _ b⟩
 ·exact⟨x,by rw[World.cell?_setCell_other _ _ _ _ (fun h=>e h)];exact b⟩
theorem Rd.setNum (h:Rd w v m) {p:Nat × Nat} (t:ZjT w p) (x:Value):Rd (w.setCell ⟨p.1,p.2,none⟩ x) v m:=by
 obtain⟨g,A,z,k,l,q,a⟩:=h;refine⟨g,A,z,k,l,q,?_⟩;rcases a with a | ⟨c,d,i,n⟩
 ·exact .inl a
 ·refine .inr ⟨c,d,i,fun j u=>?_⟩
  have f:=n j u
  rw[World.cell?_setCell_other w ⟨p.1,p.2,none⟩ ⟨c,d+j,none⟩ x (fun e=>by
   obtain⟨⟨y,b⟩,-⟩:=t;rw[e,f] at b
   cases b)]
  exact f
def Y7 (w:World):List (Nat × Nat)->List Nat->World
 | p::ps,n::ns=>Y7 (w.setCell ⟨p.1,p.2,none⟩ (.int .i64 (n:Int))) ps ns
 | _,_=>w
theorem ZkH:∀ (w:World) (ps:List (Nat × Nat)) (ns:List Nat) (p:Nat × Nat) (n:Nat),ps.length=ns.length->Y7 w (ps++[p]) (ns++[n])=(Y7 w ps ns).setCell ⟨p.1,p.2,none⟩ (.int .i64 (n:Int))
 | w,[],[],p,n,_=>rfl
 | w,q::ps,m::ns,p,n,h=>by
  rw[List.cons_append,List.cons_append,Y7,ZkH _ ps ns p n (by simpa using h),Y7]
theorem ZnQ:∀ (w:World) (ps:List (Nat × Nat)) (ns:List Nat) {p:Nat × Nat},ZjT w p->ZjT (Y7 w ps ns) p
 | w,[],_,p,h=>by cases ‹List Nat› <;> exact h
 | w,q::ps,[],p,h=>h
 | w,q::ps,m::ns,p,h=>by
  rw[Y7];exact ZnQ _ ps ns (h.set q m)
theorem Zbh:∀ (w:World) (ps:List (Nat × Nat)) (ns:List Nat) (k:Nat),(∀ p ∈ ps,p.1≠k)->(Y7 w ps ns).heap[k]?=w.heap[k]?
 | w,[],ns,k,_=>by cases ns <;> rfl
 | w,q::ps,[],k,_=>rfl
 | w,q::ps,m::ns,k,h=>by
  rw[Y7,Zbh _ ps ns k (fun p a=>h p (by simp[a]))]
  exact Below.heap_setCell _ _ _ _ (fun e=>h q (by simp) e.symm)
theorem Zbi:∀ (w:World) (ps:List (Nat × Nat)) (ns:List Nat) (B:Nat) (a:World),(∀ p ∈ ps,B<=p.1)->Below B a w->Below B a (Y7 w ps ns)
 | w,[],ns,B,a,_,h=>by cases ns <;> exact h
 | w,q::ps,[],B,a,_,h=>h
 | w,q::ps,m::ns,B,a,hp,h=>by
  rw[Y7];exact Zbi _ ps ns B a (fun p h=>hp p (by simp[h])) (h.setCell (hp q (by simp)) _)
def ZAt (w:World) (v:Value) (b:List UInt8) (ps:List (Nat × Nat)) (r:Option (List Nat × List UInt8)) (e:Ending) (w':World):Prop:=
 ∃ (v':Value) (l:List UInt8) (ns:List Nat),e=.returned (.tuple #[v',.bool r.isSome])∧(∀ W,Rd W v b->Rd W v' l)∧(r=none->l=[])∧(∀ x,r=some x->x=(ns,l))∧(∀ n ∈ ns,n<4611686018427387904)∧ns.length<=ps.length∧ZcR (Y7 w (ps.take ns.length) ns) w'
theorem Zrf:∀ (w:World) (ps:List (Nat × Nat)) (ns:List Nat) {v:Value} {m:List UInt8},(∀ p ∈ ps,ZjT w p)->Rd w v m->Rd (Y7 w ps ns) v m
 | w,[],ns,v,m,_,h=>by cases ns <;> exact h
 | w,q::ps,[],v,m,_,h=>h
 | w,q::ps,k::ns,v,m,hp,h=>by
  rw[Y7];exact Zrf _ ps ns (fun p a=>(hp p (by simp[a])).set q k) (h.setNum (hp q (by simp)) _)
theorem Zha (ao:Option Addr) (l:List UInt8) (cap:Nat) (g:l.length<=cap) (d:Nat) (f:d<=l.length):
 ∃ a b,(∀ W,(Instr.sliceAt 53 (.slice ao l.length cap) (some (.int .i64 (d:Int))) none none).run prog W=.ok (.slice a (l.drop d).length b) W)∧∀ W,Rd W (.slice ao l.length cap) l->Rd W (.slice a (l.drop d).length b) (l.drop d):=by
 have c:∃ a b,sliced ao d l.length cap 1=.slice a (l.length-d) b:=by
  unfold sliced;exact⟨_,_,rfl⟩
 obtain⟨a,b,c⟩:=c;refine⟨a,b,fun W=>?_,fun W h=>?_⟩
 ·rw[run_sliceAt_slice W 53 _ _ _ _ Xu,run_slice_l W 53 ao l.length cap Xu .i64 (d:Int) (by omega) (by omega),Jo,Zce,length_drop,<-c]
  rfl
 ·rw[length_drop,<-c]
  have e:=h.mid d l.length cap f zL g zL;rw[List.take_of_length_le (by simp)] at e
  exact e
theorem ZsV {b:List UInt8} (h:(Qb b).2≠0):Zs (n+1) b=(Zs n (b.drop (Qb b).2)).map (fun r=>((Qb b).1::r.1,r.2)):=by rw[Zs,if_neg h]
theorem ZsW {b:List UInt8} (h:(Qb b).2=0):Zs (n+1) b=none:=by rw[Zs,if_pos h]
theorem Zat (N:Nat) (ps:List (Nat × Nat)) (v:Value) (b:List UInt8) (w:World) (H:Rd w v b) (A:∀ p ∈ ps,ZjT w p∧p.1≠N) (am:ps.length<=100)
 (S:w.heap[N]?=some (.cells (ps.map (fun p=>Value.pointer (some ⟨p.1,p.2,none⟩))).toArray 208 (0,0))) (k:Nat) (hk:k=ps.length):
 Calls prog 160 #[v,.slice (some ⟨N,0,none⟩) k k] w fun e w'=>ZAt w v b ps (Zs ps.length b) e w':=by
 subst hk;have M:=ZZ A
 have P:Hid (∀ q,q<ps.length->w.cell? ⟨N,q,none⟩=some (.pointer (some ⟨(ps.getD q (0,0)).1,(ps.getD q (0,0)).2,none⟩))):=ZZ (fun q hq=>by
  rw[cell_of_row w N q _ _ _ S]
  simp[List.getD,hq])
 have Z:Hid (∀ ns,(Y7 w (ps.take (List.length ns)) ns).heap[N]?=w.heap[N]?):=ZZ (fun ns=>Zbh w _ ns N (fun p C=>(A p (mem_of_mem_take C)).2))
 have O:=ZZ (fun v1 l W h=>ZcJ v1 l W h)
 have HR:Hid (∀ ns,Rd (Y7 w (ps.take (List.length ns)) ns) v b):=ZZ (fun ns=>Zrf w _ ns (fun p C=>(A p (mem_of_mem_take C)).1) H)
 obtain⟨Q,U,hv⟩:∃ a c,v=.slice a b.length c:=by obtain⟨a,c,h,-⟩:=H;exact⟨a,c,h⟩
 subst hv;obtain⟨g,f⟩:∃ g,g=Zs ps.length b:=⟨_,rfl⟩;rw[<-f]
 have T:Hid (g=(Zs (ps.length-0) b).map (fun r=>([]++r.1,r.2))):=ZZ (by
  rw[f,Nat.sub_zero]
  cases Zs ps.length b <;> rfl)
 clear f A H S;have an:(ps.length:Int)<=100:=by omega
 go_enter func160,ntmps160
 go_wp2
 go_loopw[0,12] (fun vb F wr=>∃ (q:Nat) (ns:List Nat) (b':List UInt8) (a:Option Addr) (c:Nat),F=.int .i64 (q:Int)∧vb=.slice a b'.length c∧q<=ps.length∧ns.length=q∧Hid (∀ W,Rd W (.slice Q b.length U) b->Rd W (.slice a b'.length c) b')∧Hid (ZcR (Y7 w (ps.take ns.length) ns) wr)∧Hid (∀ n ∈ ns,n<4611686018427387904)∧Hid (g=(Zs (ps.length-q) b').map (fun r=>(ns++r.1,r.2)))) (fun _ F _=>ps.length-(intOf F).toNat)
 case atStart=>exact⟨0,[],b,Q,U,rfl,rfl,Nat.zero_le _,rfl,ZZ (fun W h=>h),ZZ (by rw[List.length_nil,List.take_zero];exact ZcR.refl w),ZZ (fun n h=>by simp at h),T⟩
 case round=>
  clear T;obtain⟨q,ns,b',a,c,rfl,rfl,hq,E,G,i,I,f⟩:=hrel;have L:Hid (Rd wr (.slice a b'.length c) b'):=ZZ (G.out wr ((HR.o ns).below (i.out.below (Y7 w (ps.take ns.length) ns).heap.size) zL));have y:=ZZ E;by_cases u:q<ps.length
  case neg=>
   obtain rfl:q=ps.length:=by omega
   have t:Hid (g=some (ns,b')):=ZZ (by
    rw[f.out,Nat.sub_self]
    simp[Zs])
   clear E;go_wp2;go_ret2;rw[t.o];exact⟨_,b',ns,rfl,G.out,(fun h=>by cases h),(fun x h=>by injection h with h;exact h.symm),I.out,by rw[y.o];exact Nat.le_refl _,i.out⟩
  have ak:(q:Int)<(ps.length:Int):=by omega
  have ad:ps.length-q=(ps.length-(q+1))+1:=by omega
  have ag:wr.cell? ⟨N,q,none⟩=some (.pointer (some ⟨(ps.getD q (0,0)).1,(ps.getD q (0,0)).2,none⟩)):=by
   rw[i.out.cell];exact(World.cell?_of_block (a:=⟨N,q,none⟩) (Z.o ns)).trans (P.o q u)
  have X:ps.getD q (0,0) ∈ ps:=by
   rw[show ps.getD q (0,0)=ps[q] by simp[List.getD,u]]
   exact List.getElem_mem u
  have J:ZjT (Y7 w (ps.take ns.length) ns) (ps.getD q (0,0)):=ZnQ w _ ns (M.o _ X).1
  have ab:ZjT wr (ps.getD q (0,0)):=⟨by
   obtain⟨x,hx⟩:=J.1
   exact⟨x,by rw[i.out.cell];exact hx⟩,by rw[i.out.froz];exact J.2⟩
  have V:Hid (∀ n:Nat,Y7 w (ps.take (ns++[n]).length) (ns++[n])=(Y7 w (ps.take ns.length) ns).setCell ⟨(ps.getD q (0,0)).1,(ps.getD q (0,0)).2,none⟩ (.int .i64 (n:Int))):=ZZ (fun n=>by
   have e1:ps.take (ns++[n]).length=ps.take ns.length++[ps.getD q (0,0)]:=by
    rw[length_append,List.length_singleton,y.o,List.take_add_one,List.getElem?_eq_getElem u];simp[List.getD,u]
   rw[e1,ZkH w _ ns _ n (by rw[List.length_take,y.o];omega)])
  have aj:=ZZ ab;obtain⟨⟨x0,ah⟩,af⟩:=ab;clear X J P Z M E;generalize ps.getD q (0,0)=p at *;obtain⟨pb,po⟩:=p
  dsimp only at ag ah af V
  have aa:=ZZ (O.o _ b' wr L.out);have ai:=Ju b'
  have ac:(Qb b').1<4611686018427387904:=by
   rcases Xf b' with h | h
   ·rw[h];decide
   ·exact h.1
  have B:=ZZ (ZsV (n:=ps.length-(q+1)) (b:=b'));have K:=ZZ (ZsW (n:=ps.length-(q+1)) (b:=b'));rw[<-ad] at B K;have R:=ZZ (fun d z=>Zha a b' c (by obtain⟨a',c',h,h2,-⟩:=L.out;simp only [Value.slice.injEq] at h;omega) d z)
  generalize (Qb b').2=d at *;generalize (Qb b').1=n at *;clear O;by_cases z:d=0
  ·subst z
   have t:Hid (g=none):=ZZ (by rw[f.out,K.o rfl];rfl)
   go_wp2_with fail
   refine aa.o.mono ?_;rintro e D ⟨rfl,j⟩;rw[j];clear j D;go_wp2;go_ret2;rw[t.o];exact⟨_,[],ns,rfl,(fun W _=>Rd.nil W),(fun _=>rfl),(fun x h=>by cases h),I.out,by rw[y.o];omega,i.out⟩
  ·have al:((d:Int) == 0)=false:=beq_eq_false_iff_ne.2 (by omega)
   obtain⟨xa,xc,hcut,Y⟩:=R.o d ai;have ae:=ZZ Y
   have t:Hid (g=(Zs (ps.length-(q+1)) (b'.drop d)).map (fun r=>((ns++[n])++r.1,r.2))):=ZZ (by
    rw[f.out,B.o z]
    cases Zs (ps.length-(q+1)) (b'.drop d) with
    | none=>rfl
    | some r=>simp)
   clear Y B K f z R;generalize b'.drop d=b2 at *
   go_wp2_with fail
   refine aa.o.mono ?_;rintro e D ⟨rfl,j⟩;rw[j];clear j D;go_wp2
   go_region
   all_goals
    go_wp2;go_roundw
    case rel=>exact⟨q+1,ns++[n],b2,xa,xc,by go_num,rfl,by omega,by rw[length_append,List.length_singleton,y.o],ZZ (fun W h=>ae.o W (G.out W h)),ZZ (by rw[V.o];exact i.out.drew.set _ _),ZZ (fun m hm=>by
     rcases List.mem_append.1 hm with h | h
     ·exact I.out m h
     ·rw[List.mem_singleton.1 h];exact ac),t⟩
    case measure=>simp[intOf];omega
def ZjU (b:List UInt8):Option (Ent × List UInt8):=
 match Zs 2 b with
 | none=>none
 | some (ns,l)=>if(Qe l).2=0 then none else some (⟨((ns.getD 0 0:Nat):Int),((ns.getD 1 0:Nat):Int),zag (Qe l).1⟩,l.drop (Qe l).2)
theorem ZeS (b:List UInt8):Zs 1 b=if(Qb b).2=0 then none else some ([(Qb b).1],b.drop (Qb b).2):=rfl
theorem ZiO (b:List UInt8):Zs 2 b=if(Qb b).2=0 then none else if(Qb (b.drop (Qb b).2)).2=0 then none else some ([(Qb b).1,(Qb (b.drop (Qb b).2)).1],(b.drop (Qb b).2).drop (Qb (b.drop (Qb b).2)).2):=by
 rw[Zs];split
 ·rfl
 ·rw[ZeS]
  split <;> rfl
theorem ZpV (n:Nat) (b:List UInt8):Jx (n+1) b=(ZjU b).bind (fun y=>(Jx n y.2).map (fun r=>(y.1::r.1,r.2))):=by
 have h:Jx (n+1) b=if(Qb b).2=0∨(Qb (b.drop (Qb b).2)).2=0∨(Qe (b.drop ((Qb b).2+(Qb (b.drop (Qb b).2)).2))).2=0 then none
  else(Jx n (b.drop ((Qb b).2+(Qb (b.drop (Qb b).2)).2+(Qe (b.drop ((Qb b).2+(Qb (b.drop (Qb b).2)).2))).2))).map (fun r=>(⟨(Qb b).1,(Qb (b.drop (Qb b).2)).1,zag (Qe (b.drop ((Qb b).2+(Qb (b.drop (Qb b).2)).2))).1⟩::r.1,r.2)):=rfl
 rw[h];unfold ZjU;rw[ZiO];by_cases d:(Qb b).2=0
 ·rw[if_pos (.inl d),if_pos d]
  rfl
 rw[if_neg d];by_cases a:(Qb (b.drop (Qb b).2)).2=0
 ·rw[if_pos (.inr (.inl a)),if_pos a]
  rfl
 rw[if_neg a];simp only [drop_drop];by_cases c:(Qe (b.drop ((Qb b).2+(Qb (b.drop (Qb b).2)).2))).2=0
 ·rw[if_pos (.inr (.inr c)),if_pos c]
  rfl
 ·rw[if_neg (by omega),if_neg c]
  rfl
def ZAu (w:World) (v:Value) (b:List UInt8) (e:Ending) (w':World):Prop:=
 ∃ (x:Ent) (v':Value) (l:List UInt8),e=.returned (.tuple #[Zsj x,v',.bool (ZjU b).isSome])∧Zlx x∧(∀ W,Rd W v b->Rd W v' l)∧(∀ y,ZjU b=some y->y=(x,l))∧Below w.heap.size w w'
theorem ZsX:Qe []=(0,0):=by decide
theorem Zzb {R:Nat} (h:Be W R #[.int .i64 0,.int .i64 0,.int .i64 0]) (ns:List Nat) (d:ns.length<=2) (a:∀ n ∈ ns,n<4611686018427387904):
 ∃ x y:Int,Be (Y7 W ([(R,0),(R,1)].take ns.length) ns) R #[.int .i64 x,.int .i64 y,.int .i64 0]∧I64 x∧I64 y∧(ns.length=2->x=((ns.getD 0 0:Nat):Int)∧y=((ns.getD 1 0:Nat):Int)):=by
 have b:I64 0:=Qo (by decide) (by decide)
 match ns,d,a with
 | [],_,_=>exact⟨0,0,h,b,b,fun h=>absurd h (by simp)⟩
 | [n],_,a=>
  have:=a n (by simp)
  refine⟨(n:Int),0,?_,⟨by omega,by omega⟩,b,fun h=>absurd h (by simp)⟩
  have c:=heap_setCell_same W R 0 _ _ (.int .i64 (n:Int)) h;exact c
 | [n,m],_,a=>
  have f:=a n (by simp)
  have c:=a m (by simp)
  refine⟨(n:Int),(m:Int),?_,⟨by omega,by omega⟩,⟨by omega,by omega⟩,fun _=>⟨rfl,rfl⟩⟩
  have e:=heap_setCell_same W R 0 _ _ (.int .i64 (n:Int)) h;exact heap_setCell_same _ R 1 _ _ (.int .i64 (m:Int)) e
theorem ZiP (w:World) (x y z:Obj):((((w.alloc x).alloc y).alloc z).heap[w.heap.size]?=some x∧(((w.alloc x).alloc y).alloc z).heap[w.heap.size+1]?=some y∧(((w.alloc x).alloc y).alloc z).heap[w.heap.size+2]?=some z):=by
 refine⟨?_,?_,?_⟩
 ·exact((Below.heap_alloc _ _ _ (by simp;omega)).trans (Below.heap_alloc _ _ _ (by simp))).trans (heap_alloc_new w x)
 ·refine(Below.heap_alloc _ _ _ (by simp)).trans ?_
  have:=heap_alloc_new (w.alloc x) y;simpa using this
 ·have:=heap_alloc_new ((w.alloc x).alloc y) z
  simpa using this
theorem Be.set (h:Be w b cs) (j:Nat) (x:Value):Be (w.setCell ⟨b,j,none⟩ x) b (cs.setIfInBounds j x):=by
 have:=heap_setCell_same w b j _ _ x h;unfold Be;simpa using this
theorem Be.other {c:Nat} (h:Be w b cs) (j:Nat) (x:Value) (a:b≠c):Be (w.setCell ⟨c,j,none⟩ x) b cs:=(Below.heap_setCell _ _ _ _ a).trans h
theorem Zxy {C:Nat} {b:World} (h:Below C b w) (R:Nat) (a:C<=R) (e d c:Value):Below C b (((w.setCell ⟨R,0,none⟩ e).setCell ⟨R,1,none⟩ d).setCell ⟨R,2,none⟩ c):=
 ((h.setCell a _).setCell a _).setCell a _
theorem ZnR (v:Value) (b:List UInt8) (w:World) (C:Rd w v b):
 Calls prog 202 #[v] w fun e w'=>ZAu w v b e w':=by
 obtain⟨f,D⟩:∃ f,f=((w.alloc (.cells #[.int .i64 0,.int .i64 0,.int .i64 0] 85)).alloc (.cells #[.int .i64 0,.int .i64 0,.int .i64 0] 85)).alloc (.cells #[.pointer (some ⟨w.heap.size+1,0,none⟩),.pointer (some ⟨w.heap.size+1,1,none⟩)] 208):=⟨_,rfl⟩;have Q:=ZiP w (.cells #[.int .i64 0,.int .i64 0,.int .i64 0] 85) (.cells #[.int .i64 0,.int .i64 0,.int .i64 0] 85) (.cells #[.pointer (some ⟨w.heap.size+1,0,none⟩),.pointer (some ⟨w.heap.size+1,1,none⟩)] 208);rw[<-D] at Q;obtain⟨hA,hB,hC⟩:=Q;have G:Hid (Below w.heap.size w f):=ZZ (by rw[D];exact(((Below.refl _ _).alloc zL _).alloc (by simp) _).alloc (by simp;omega) _)
 have E:Be f w.heap.size #[.int .i64 0,.int .i64 0,.int .i64 0]:=hA;have n:Be f (w.heap.size+1) #[.int .i64 0,.int .i64 0,.int .i64 0]:=hB;have az:=ZZ E
 have aq:=ZZ (Zat (w.heap.size+1+1) [(w.heap.size+1,0),(w.heap.size+1,1)] v b f (C.below G.o zL) (fun p j=>by
  simp only [mem_cons,List.not_mem_nil,or_false] at j;rcases j with rfl | rfl
  ·exact⟨⟨⟨0,(n.cell 0).1⟩,(n.cell 0).2⟩,by simp⟩
  ·exact⟨⟨⟨0,(n.cell 1).1⟩,(n.cell 1).2⟩,by simp⟩) (by simp) hC 2 rfl)
 have ah:=ZZ (fun ns=>Zzb n ns)
 have ai:Hid (∀ ns,Below w.heap.size w (Y7 f ([(w.heap.size+1,0),(w.heap.size+1,1)].take (List.length ns)) ns)):=ZZ (fun ns=>Zbi f _ ns _ w (fun p j=>by
  have:=mem_of_mem_take j;simp only [mem_cons,List.not_mem_nil,or_false] at this
  rcases this with rfl | rfl <;> simp) G.o)
 have U:Hid (∀ ns,Be (Y7 f ([(w.heap.size+1,0),(w.heap.size+1,1)].take (List.length ns)) ns) w.heap.size #[.int .i64 0,.int .i64 0,.int .i64 0]):=ZZ (fun ns=>(Zbh f _ ns _ (fun p j=>by
  have:=mem_of_mem_take j;simp only [mem_cons,List.not_mem_nil,or_false] at this
  rcases this with rfl | rfl <;> simp)).trans E)
 have T:=ZZ (fun F l W h=>Zak F l W h)
 have u:Hid (ZjU b=match Zs [(w.heap.size+1,0),(w.heap.size+1,1)].length b with | none=>none | some (ns,l)=>if(Qe l).2=0 then none else some (⟨((ns.getD 0 0:Nat):Int),((ns.getD 1 0:Nat):Int),zag (Qe l).1⟩,l.drop (Qe l).2)):=ZZ rfl
 have al:Hid (∀ ns l,Zs [(w.heap.size+1,0),(w.heap.size+1,1)].length b=some (ns,l)->ns.length=2):=ZZ (fun ns l h=>by
  have d:Zs 2 b=some (ns,l):=h;rw[ZiO] at d;split at d
  ·cases d
  split at d
  ·cases d
  injection d with d
  injection d with d _
  rw[<-d]
  rfl)
 unfold ZAu;obtain⟨m,ae⟩:∃ m,m=ZjU b:=⟨_,rfl⟩;rw[<-ae] at u ⊢;obtain⟨ok,K⟩:∃ ok,ok=m.isSome:=⟨_,rfl⟩;rw[<-K];have I:=ZZ K;clear K;generalize Zs [(w.heap.size+1,0),(w.heap.size+1,1)].length b=GL at *;have aB:=ZZ C;obtain⟨va,vc,hv⟩:∃ a c,v=.slice a b.length c:=by obtain⟨a,c,h,-⟩:=C;exact⟨a,c,h⟩
 subst hv;clear C hA hB hC E n ae
 go_enter func202,ntmps202
 go_wp2_with fail
 rw[<-D];refine aq.o.mono ?_;rintro e g ⟨F,l,ns,rfl,N,S,J,an,aa,B⟩;obtain⟨x,y,V,ao,ac,af⟩:=ah.o ns aa an;have O:Hid (Be g (w.heap.size+1) #[.int .i64 x,.int .i64 y,.int .i64 0]):=ZZ (V.below (B.below (Y7 f ([(w.heap.size+1,0),(w.heap.size+1,1)].take ns.length) ns).heap.size) zL);have ab:Hid (Be g w.heap.size #[.int .i64 0,.int .i64 0,.int .i64 0]):=ZZ ((U.o ns).below (B.below (Y7 f ([(w.heap.size+1,0),(w.heap.size+1,1)].take ns.length) ns).heap.size) zL);have M:Hid (Below w.heap.size w g):=ZZ ((ai.o ns).trans (B.below _));have A:=ZZ (N g (aB.o.below M.o zL));have ax:=ZZ N;obtain⟨a1,Y,aA⟩:∃ a c,F=.slice a l.length c:=by obtain⟨a,c,h,-⟩:=A.o;exact⟨a,c,h⟩
 subst aA
 have ak:l.length<=Y:=by
  obtain⟨a',c',h,d,-⟩:=A.o;simp only [Value.slice.injEq] at h;omega
 have ap:=ZZ (T.o _ l g A.o);have ay:=G0 l;have ad:I64 (zag (Qe l).1):=ZoL (Zle l);obtain⟨xa,xc,hcut,aj⟩:=Zha a1 l Y ak (Qe l).2 ay;have aw:=ZZ (fun W h=>aj W (ax.o W h))
 have L:Hid (m.isSome=decide (0<(Qe l).2)):=ZZ (by
  rw[u.o]
  cases GL with
  | none=>rw[S rfl,ZsX];rfl
  | some p=>
   have:=J p rfl;subst this
   dsimp only
   by_cases h:(Qe l).2=0
   ·rw[if_pos h,h];rfl
   ·rw[if_neg h,decide_eq_true (by omega)];rfl)
 have aC:Hid (∀ z,m=some z->z=(⟨x,y,zag (Qe l).1⟩,l.drop (Qe l).2)):=ZZ (fun z i=>by
  rw[u.o] at i
  cases GL with
  | none=>cases i
  | some p=>
   have:=J p rfl;subst this;obtain⟨h1,d⟩:=af (al.o ns l rfl)
   dsimp only at i
   split at i
   ·cases i
   ·injection i with i
    rw[<-i,h1,d])
 have av:Hid (Zlx ⟨x,y,zag (Qe l).1⟩):=ZZ ⟨ao,ac,ad⟩;clear N S J an aa B V af u al ai U ah aq T aj ak G az D ao ac ad;generalize zag (Qe l).1=z at *;generalize (Qe l).2=k at *;generalize l.drop k=P at *;have R:m.isSome=decide ((0:Int)<(k:Int)):=by rw[L.o];exact decide_eq_decide.2 (by omega)
 rw[<-I.o] at R;have ar:Hid (decide (0<k)=ok):=ZZ (by rw[I.o,L.o])
 clear I R L
 go_wp2_with fail
 refine ap.o.mono ?_;rintro e W2 ⟨rfl,ag⟩;rw[ag];clear ag W2 ap;have t:Hid (Be (g.setCell ⟨w.heap.size+1,2,none⟩ (.int .i64 z)) (w.heap.size+1) #[.int .i64 x,.int .i64 y,.int .i64 z]):=ZZ (O.o.set 2 _);have q:Hid (Be (g.setCell ⟨w.heap.size+1,2,none⟩ (.int .i64 z)) w.heap.size #[.int .i64 0,.int .i64 0,.int .i64 0]):=ZZ (ab.o.other 2 _ (by omega))
 obtain⟨e2,f2⟩:=O.o.cell 2;have H:Hid (Below w.heap.size w (g.setCell ⟨w.heap.size+1,2,none⟩ (.int .i64 z))):=ZZ (M.o.setCell (Nat.le_succ _) _)
 go_upto_region 5 with fail
 obtain⟨X,am⟩:∃ X,X=g.setCell ⟨w.heap.size+1,2,none⟩ (.int .i64 z):=⟨_,rfl⟩;rw[<-am] at t q H ⊢;clear am e2 f2 O ab M A;obtain⟨x0,g0⟩:=t.o.cell 0;obtain⟨x1,g1⟩:=t.o.cell 1;obtain⟨x2,g2⟩:=t.o.cell 2;obtain⟨y0,m0⟩:=q.o.cell 0;obtain⟨y1,m1⟩:=q.o.cell 1;obtain⟨y2,m2⟩:=q.o.cell 2;have aE:¬ (w.heap.size=w.heap.size+1):=by omega
 have aD:¬ (w.heap.size+1=w.heap.size):=by omega
 have Z:=Zxy H.o.drew w.heap.size zL (.int .i64 x) (.int .i64 y) (.int .i64 z);have au:=ZZ Z;clear Z H q t
 go_region
 all_goals
  go_wp2;refine bodyPost_ret (v:=.tuple #[.agg #[.int .i64 x,.int .i64 y,.int .i64 z],.slice xa P.length xc,.bool ok]) (by simp[results,Tryz.results202,go_sem,y0,y1,y2,ar.o]) rfl ?_
  exact⟨⟨x,y,z⟩,_,P,rfl,av.o,aw.o,aC.o,au.o⟩
def Zzc (w:World) (TL:Option (List Ent)) (e:Ending) (w':World):Prop:=
 ∃ vt t,e=.returned (.tuple #[vt,.bool TL.isSome])∧Xn w' w.heap.size vt t∧(∀ e ∈ t,Zlx e)∧(∀ t',TL=some t'->t=t')∧Below w.heap.size w w'
def ZzQ (v6 v7:Value):Nat:=
 match v7 with
 | .bool true=>(match v6 with
  | .slice _ n _=>n+1
  | _=>0)
 | _=>0
theorem ZsY {b:List UInt8} {y:Ent × List UInt8} (h:ZjU b=some y):y.2.length+1<=b.length:=by
 unfold ZjU at h;rw[ZiO] at h;split at h
 ·cases h
 ·rename_i ns l a
  split at a
  ·cases a
  ·rename_i e
   split at a
   ·cases a
   ·injection a with a
    injection a with _ hl
    split at h
    ·cases h
    ·rename_i c
     injection h with h
     rw[<-h];have d:=G0 l;show(l.drop _).length+1<=_;rw[length_drop]
     have f:l.length<=b.length:=by
      rw[<-hl,length_drop,length_drop];omega
     omega
theorem Zxz (w:World) (x y:Obj):((w.alloc x).alloc y).heap[w.heap.size]?=some x∧((w.alloc x).alloc y).heap[w.heap.size+1]?=some y:=by
 refine⟨(Below.heap_alloc _ _ _ (by simp)).trans (heap_alloc_new w x),?_⟩
 have:=heap_alloc_new (w.alloc x) y;simpa using this
theorem ZiQ {b:List UInt8} {ns:List Nat} (h:Zs 1 b=some (ns,l)):(Qb b).2≠0∧ns=[(Qb b).1]∧l=b.drop (Qb b).2:=by
 rw[ZeS] at h;split at h
 ·cases h
 ·rename_i a
  injection h with h
  injection h with h2 h3
  exact⟨a,h2.symm,h3.symm⟩
theorem ZiR {b:List UInt8} (h:Zs 1 b=none):(Qb b).2=0:=by
 rw[ZeS] at h;split at h
 ·assumption
 ·cases h
theorem Xn.butD {B R:Nat} {l:List Ent} (h:Xn w B v l) (i:But R T w w') (k:∀ b,v.ownBlock=some b->b≠R∧b≠T):Xn w' B v l:=by
 rcases h.row with ⟨rfl,rfl⟩ | ⟨g,cap,cur,rfl,e,f,d,j,c,a,m⟩
 ·exact Xn.nil _ _
 ·have:=k g rfl
  exact Xn.ofRow rfl e ((i.block g f this.1 this.2).trans d) j c a m
theorem Zmb (v:Value) (b:List UInt8) (w:World) (U:Rd w v b) (be:b.length<=100000):
 Calls prog 165 #[v] w fun e w'=>Zzc w (Zbe b) e w':=by
 obtain⟨q,V⟩:∃ q,q=(w.alloc (.cells #[.int .i64 0] 3)).alloc (.cells #[.pointer (some ⟨w.heap.size,0,none⟩)] 208):=⟨_,rfl⟩;have h2:=Zxz w (.cells #[.int .i64 0] 3) (.cells #[.pointer (some ⟨w.heap.size,0,none⟩)] 208);rw[<-V] at h2;obtain⟨Z,hC⟩:=h2;have ac:Hid (Below w.heap.size w q):=ZZ (by rw[V];exact((Below.refl _ _).alloc zL _).alloc (by simp) _)
 have ao:=ZZ (Zat (w.heap.size+1) [(w.heap.size,0)] v b q (U.below ac.o zL) (fun p hp=>by
  rw[List.mem_singleton.1 hp]
  exact⟨⟨⟨0,cell_of_row q w.heap.size 0 _ _ _ Z⟩,frozen_of_row q w.heap.size 0 _ _ Z⟩,by simp⟩) (by simp) hC 1 rfl)
 have aw:Hid (∀ n:Nat,(q.setCell ⟨w.heap.size,0,none⟩ (.int .i64 (n:Int))).cell? ⟨w.heap.size,0,none⟩=some (.int .i64 (n:Int))):=ZZ (fun n=>World.cell?_setCell_same _ _ _ (cell_of_row q w.heap.size 0 _ _ _ Z))
 have aJ:Hid (∀ ns,Below w.heap.size w (Y7 q ([(w.heap.size,0)].take (List.length ns)) ns)):=ZZ (fun ns=>Zbi q _ ns _ w (fun p hp=>by
  have:=mem_of_mem_take hp;rw[List.mem_singleton.1 this]
  exact Nat.le_refl _) ac.o)
 have a0:=ZZ (fun v1 l W h=>ZnR v1 l W h)
 have R:=ZZ (Znj (b:=b));have Q:Hid ((Qb b).2=0->Zbe b=none):=ZZ (fun h=>by unfold Zbe;rw[if_pos (.inl h)])
 have ah:=ZZ (fun ns l h=>ZiQ (b:=b) (ns:=ns) (l:=l) h)
 have aj:=ZZ (fun h=>ZiR (b:=b) h)
 have hd:=Ju b
 have ba:(Qb b).1<4611686018427387904:=by
  rcases Xf b with h | h
  ·rw[h];decide
  ·exact h.1
 have aK:Hid ([(w.heap.size,0)].length=1):=ZZ rfl;rw[aK.o] at ao;generalize Zs 1 b=GL at *;obtain⟨G,aD⟩:∃ G,G=Zbe b:=⟨_,rfl⟩;rw[<-aD] at R Q ⊢;clear aD;have an:=ZZ U;obtain⟨va,vc,hv⟩:∃ a c,v=.slice a b.length c:=by obtain⟨a,c,h,-⟩:=U;exact⟨a,c,h⟩
 subst hv;clear U Z hC aK
 go_enter func165,ntmps165
 go_wp2_with fail
 rw[<-V];refine ao.o.mono ?_;rintro e f ⟨v1,l,ns,rfl,aH,aa,af,aO,aG,P⟩;have i:Hid (Below w.heap.size w f):=ZZ ((aJ.o ns).trans (P.below _));have aB:=ZZ aH;obtain⟨a1,c1,a5⟩:∃ a c,v1=.slice a l.length c:=by obtain⟨a,c,h,-⟩:=aH f (an.o.below i.o zL);exact⟨a,c,h⟩
 subst a5;clear ao aJ ac V
 cases GL with
 | none=>
  have m:=ZZ (Q.o (aj.o rfl));have aV:=aa rfl;subst aV;clear aa af aO aG P R Q aj ah;show _;go_wp2
  go_loopw[4,6,7] (fun v4 I D wr=>v4=.slice none 0 0∧D=.bool false∧Hid (Below w.heap.size w wr)) (fun _ I D _=>ZzQ I D)
  case atStart=>exact⟨rfl,rfl,i⟩
  case round=>
   obtain⟨rfl,rfl,j⟩:=hrel;go_wp2;go_ret2;rw[m.o];exact⟨_,[],rfl,Xn.nil _ _,(fun r h=>by simp at h),(fun t h=>by cases h),j.out⟩
 | some gp=>
  have:=af gp rfl;subst this;obtain⟨g1,g2,g3⟩:=ah.o _ _ rfl;subst g2;have T:=ZZ (R.o g1);rw[<-g3] at T;have bg:l.length<=b.length:=by rw[g3,length_drop];omega
  have ab:f.cell? ⟨w.heap.size,0,none⟩=some (.int .i64 ((Qb b).1:Int)):=by
   rw[P.cell];exact aw.o _
  have aY:=ZZ ab;have aS:w.heap.size<f.heap.size:=World.block_lt_of_cell? f ⟨w.heap.size,0,none⟩ ab;generalize (Qb b).1=g at *;clear aa af aO aG P R Q aj ah g1 g3 hd aw ab;obtain⟨u,am⟩:∃ u,u=Jx g l:=⟨_,rfl⟩;rw[<-am] at T
  have aF:Hid (u=(Jx (g-0) l).map (fun r=>([]++r.1,r.2))):=ZZ (by
   rw[am,Nat.sub_zero]
   cases Jx g l <;> rfl)
  clear am;go_wp2
  go_loopw[4,6,7] (fun v4 I D wr=>∃ (t:List Ent) (d:List UInt8) (S:Option Addr) (M:Nat) (K:Bool),I=.slice S d.length M∧D=.bool K∧t.length<=b.length+1∧Hid (K=true->t.length+d.length<=b.length∧t.length<=g)∧Hid (Xn wr f.heap.size v4 t)∧Hid (∀ e ∈ t,Zlx e)∧Hid (∀ W,Rd W (.slice va b.length vc) b->Rd W (.slice S d.length M) d)∧Hid (K=true->u=(Jx (g-t.length) d).map (fun r=>(t++r.1,r.2)))∧Hid (K=false->u=none)∧Hid (Below f.heap.size f wr)) (fun _ I D _=>ZzQ I D)
  case atStart=>exact⟨[],l,a1,c1,true,rfl,rfl,by simp,ZZ (fun _=>⟨by simp;omega,Nat.zero_le _⟩),ZZ (Xn.nil _ _),ZZ (fun e h=>by simp at h),aB,ZZ (fun _=>aF.o),ZZ (fun h=>by cases h),Below.refl _ _⟩
  case round=>
   clear aF aB;obtain⟨t,d,S,M,K,rfl,rfl,bi,hL,E,O,hV,hT,hN,j⟩:=hrel;have hR:Hid (Rd wr (.slice S d.length M) d):=ZZ (hV.out wr ((an.o.below i.o zL).below j.out zL));obtain⟨oa,oc,aZ⟩:=E.out.shape;subst aZ;have bh:wr.cell? ⟨w.heap.size,0,none⟩=some (.int .i64 (g:Int)):=(j.out.cell (p:=⟨w.heap.size,0,none⟩) aS).trans aY.o
   cases K with
   | false=>
    have m:Hid (G=none):=ZZ (by rw[T.o,hN.out rfl];rfl)
    go_wp2;go_ret2;rw[m.o];exact⟨_,t,rfl,E.out.mono i.o.size,O.out,(fun t h=>by cases h),i.o.trans (j.out.mono i.o.size)⟩
   | true=>
    obtain⟨bf,a9⟩:=hL.out rfl;by_cases bd:t.length<g
    case neg=>
     have bb:¬ (t.length:Int)<(g:Int):=by omega
     have a7:Hid (u=some (t,d)):=ZZ (by
      rw[hT.out rfl,show g-t.length=0 by omega]
      simp[Jx])
     have au:Hid (G=if d=[] then some t else none):=ZZ (by rw[T.o,a7.o];rfl)
     by_cases N:d.length=0
     ·have m:Hid (G=some t):=ZZ (by rw[au.o,if_pos (List.eq_nil_of_length_eq_zero N)])
      have a8:((d.length:Int) == 0)=true:=by rw[beq_iff_eq];omega
      clear N;go_wp2;go_ret2;rw[m.o];exact⟨_,t,rfl,E.out.mono i.o.size,O.out,(fun t' h=>by injection h),i.o.trans (j.out.mono i.o.size)⟩
     ·have m:Hid (G=none):=ZZ (by
       rw[au.o,if_neg (fun e=>N (by rw[e];rfl))])
      have a8:((d.length:Int) == 0)=false:=beq_eq_false_iff_ne.2 (by omega)
      clear N;go_wp2;go_ret2;rw[m.o];exact⟨_,t,rfl,E.out.mono i.o.size,O.out,(fun t' h=>by cases h),i.o.trans (j.out.mono i.o.size)⟩
    have bc:(t.length:Int)<(g:Int):=by omega
    have av:g-t.length=(g-(t.length+1))+1:=by omega
    have ai:Hid (u=((ZjU d).bind (fun y=>(Jx (g-(t.length+1)) y.2).map (fun r=>(y.1::r.1,r.2)))).map (fun r=>(t++r.1,r.2))):=ZZ (by
     rw[hT.out rfl,av,ZpV])
    have ax:=ZZ (fun y h=>ZsY (b:=d) (y:=y) h)
    have Y:=ZZ (a0.o _ d (wr.alloc (.cells #[.int .i64 0,.int .i64 0,.int .i64 0] 85)) (hR.out.below ((Below.refl _ _).alloc zL _) zL));have ak:Hid (Below f.heap.size f (wr.alloc (.cells #[.int .i64 0,.int .i64 0,.int .i64 0] 85))):=ZZ (j.out.alloc j.out.size _);have aI:Hid (Be (wr.alloc (.cells #[.int .i64 0,.int .i64 0,.int .i64 0] 85)) wr.heap.size #[.int .i64 0,.int .i64 0,.int .i64 0]):=ZZ (heap_alloc_new wr _);have aQ:Hid (Xn (wr.alloc (.cells #[.int .i64 0,.int .i64 0,.int .i64 0] 85)) f.heap.size (.slice oa t.length oc) t):=ZZ (E.out.below ((Below.refl _ _).alloc zL _) zL);have ap:Hid (∀ k,(Value.slice oa t.length oc).ownBlock=some k->k<wr.heap.size):=ZZ (fun k hk=>(World.ownsRow.lt E.out k hk).2)
    obtain⟨SS,aM⟩:∃ SS,SS=ZjU d:=⟨_,rfl⟩;unfold ZAu at Y;rw[<-aM] at ai ax Y;have ag:=j.out.size;clear aM hT hN hL hR E j av
    go_wp2_with fail
    refine Y.o.mono ?_;rintro e W2 ⟨x,v2,H,rfl,aP,aN,a4,L⟩;have J:=ZZ (aI.o.below L zL);have ae:=ZZ (ak.o.trans (L.mono ak.o.size));have aL:=ZZ (aQ.o.below L zL);have aU:=ZZ aP;have aq:=ZZ (fun W h=>aN W (hV.out W h))
    obtain⟨a3,c3,a6⟩:∃ a c,v2=.slice a H.length c:=by obtain⟨a,c,h,-⟩:=aq.o f (an.o.below i.o zL);exact⟨a,c,h⟩
    subst a6;obtain⟨z,C,A⟩:=x;obtain⟨e0,f0⟩:=J.o.cell 0;obtain⟨e1,f1⟩:=J.o.cell 1;obtain⟨e2,f2⟩:=J.o.cell 2;obtain⟨B,az⟩:∃ B,B=wr.heap.size:=⟨_,rfl⟩;rw[<-az] at J ap e0 e1 e2 f0 f1 f2 ag ⊢;clear az;obtain⟨F,X⟩:∃ F,F=((W2.setCell ⟨B,0,none⟩ (.int .i64 z)).setCell ⟨B,1,none⟩ (.int .i64 C)).setCell ⟨B,2,none⟩ (.int .i64 A):=⟨_,rfl⟩;have ad:Hid (Be F B #[.int .i64 z,.int .i64 C,.int .i64 A]):=ZZ (by rw[X];exact((J.o.set 0 _).set 1 _).set 2 _)
    have al:Hid (But B B W2 F):=ZZ (by rw[X];exact(((But.refl _ _ _).set _ _ (.inl rfl) _).set _ _ (.inl rfl) _).set _ _ (.inl rfl) _)
    have aW:Hid (Xn F f.heap.size (.slice oa t.length oc) t):=ZZ (aL.o.butD al.o (fun k hk=>by have:=ap.o k hk;omega))
    have aA:=ZZ (Zaf ae.o al.o ae.o.size ag ag);have aX:f.heap.size<=F.heap.size:=aA.o.size;unfold Zsj
    dsimp only
    go_upto_region 7 with fail
    rw[<-X];obtain⟨x0,-⟩:=ad.o.cell 0;obtain⟨x1,-⟩:=ad.o.cell 1;obtain⟨x2,-⟩:=ad.o.cell 2;clear X e0 e1 e2 f0 f1 f2 aP aN L J ae aL Y ak aI aQ ap al
    go_wp2_with(at_builtin;refine ZfG _ rfl _ _ rfl f.heap.size _ t rfl aW.o ⟨z,C,A⟩ rfl (by omega) aX ?_)
    intro v5 W5 aC ar;have ay:=ZZ aC;have aE:=ZZ (aA.o.trans ar)
    have aR:Hid (∀ e ∈ t++[(⟨z,C,A⟩:Ent)],Zlx e):=ZZ (fun e he=>by
     rcases List.mem_append.1 he with h | h
     ·exact O.out e h
     ·rw[List.mem_singleton.1 h];exact aU.o)
    clear aC ar
    cases SS with
    | none=>
     have m:Hid (u=none):=ZZ (by rw[ai.o];rfl)
     go_wp2;go_roundw
     case rel=>exact⟨t++[⟨z,C,A⟩],H,a3,c3,false,rfl,rfl,by simp;omega,ZZ (fun h=>by cases h),ay,aR,aq,ZZ (fun h=>by cases h),ZZ (fun _=>m.o),aE⟩
     case measure=>show 0<d.length+1;omega
    | some y=>
     have hy:=a4 y rfl;subst hy;have aT:=ax.o _ rfl
     dsimp only at aT
     have m:Hid (u=(Jx (g-(t++[(⟨z,C,A⟩:Ent)]).length) H).map (fun r=>((t++[⟨z,C,A⟩])++r.1,r.2))):=ZZ (by
      rw[ai.o,length_append,List.length_singleton,Option.bind_some]
      cases Jx (g-(t.length+1)) H with
      | none=>rfl
      | some r=>simp)
     go_wp2;go_roundw
     case rel=>exact⟨t++[⟨z,C,A⟩],H,a3,c3,true,rfl,rfl,by simp;omega,ZZ (fun _=>⟨by simp;omega,by simp;omega⟩),ay,aR,aq,ZZ (fun _=>m.o),ZZ (fun h=>by cases h),aE⟩
     case measure=>show H.length+1<d.length+1;omega
theorem Zbj:Qe []=(0,0):=by
 rcases Jg [] with h | h
 ·exact h
 ·have b:=h.2.1
  have a:=h.2.2.1;simp at a;omega
theorem ZcS:Qb []=(0,0):=by
 rcases Xf [] with h | h
 ·exact h
 ·have b:=h.2.1
  have a:=h.2.2.1;simp at a;omega
theorem ZkI (h:(Qb l).2=0):(Qb l).1=0:=by
 rcases Xf l with e | e
 ·rw[e]
 ·omega
theorem ZkJ (h:(Qe l).2=0):zag (Qe l).1=0:=by
 rcases Jg l with e | e
 ·rw[e];rfl
 ·omega
theorem ZiS (l:List UInt8):behind 0 l=[]:=rfl
theorem Yv {d:Nat} (h:d≠0) (l:List UInt8):behind d l=l.drop d:=if_neg h
theorem Je (d:Nat) (l:List UInt8):(behind d l).length<=l.length:=by
 unfold behind;split
 ·simp
 ·simp
theorem ZnS (l:List UInt8):
 ((Qe (behind (Qe (behind (Qb l).2 l)).2 (behind (Qb l).2 l))).2=0->Xc l=(⟨0,0,0⟩,0))∧
 ((Qe (behind (Qe (behind (Qb l).2 l)).2 (behind (Qb l).2 l))).2≠0->Xc l=if Ge ⟨((Qb l).1:Int),zag (Qe (behind (Qb l).2 l)).1,zag (Qe (behind (Qe (behind (Qb l).2 l)).2 (behind (Qb l).2 l))).1⟩ then(⟨((Qb l).1:Int),zag (Qe (behind (Qb l).2 l)).1,zag (Qe (behind (Qe (behind (Qb l).2 l)).2 (behind (Qb l).2 l))).1⟩,l.length-(behind (Qe (behind (Qe (behind (Qb l).2 l)).2 (behind (Qb l).2 l))).2 (behind (Qe (behind (Qb l).2 l)).2 (behind (Qb l).2 l))).length) else(⟨0,0,0⟩,0)):=by
 by_cases d:(Qb l).2=0
 ·have e:behind (Qb l).2 l=[]:=by rw[d];rfl
  rw[e,Zbj];simp only [ZiS,Zbj,ne_eq,not_true_eq_false,false_imp_iff,and_true,true_imp_iff];unfold Xc;rw[if_pos (.inl d)]
 ·have e:behind (Qb l).2 l=l.drop (Qb l).2:=Yv d l
  rw[e];by_cases f:(Qe (l.drop (Qb l).2)).2=0
  ·have g:behind (Qe (l.drop (Qb l).2)).2 (l.drop (Qb l).2)=[]:=by rw[f];rfl
   rw[g,Zbj];simp only [ne_eq,not_true_eq_false,false_imp_iff,and_true,true_imp_iff];unfold Xc;rw[if_pos (.inr (.inl f))]
  ·have g:behind (Qe (l.drop (Qb l).2)).2 (l.drop (Qb l).2)=l.drop ((Qb l).2+(Qe (l.drop (Qb l).2)).2):=by rw[Yv f,drop_drop]
   rw[g];refine⟨fun b=>?_,fun b=>?_⟩
   ·unfold Xc
    rw[if_pos (.inr (.inr (.inl b)))]
   ·have p:=Ju l
    have m:=G0 (l.drop (Qb l).2);have n:=G0 (l.drop ((Qb l).2+(Qe (l.drop (Qb l).2)).2));simp only [length_drop] at m n;rw[Yv b,drop_drop,length_drop];unfold Xc;generalize (Qe (l.drop ((Qb l).2+(Qe (l.drop (Qb l).2)).2))).2=k at *;generalize zag (Qe (l.drop ((Qb l).2+(Qe (l.drop (Qb l).2)).2))).1=y at *;generalize (Qe (l.drop (Qb l).2)).2=j at *;generalize zag (Qe (l.drop (Qb l).2)).1=x at *;generalize (Qb l).2=i at *;generalize (Qb l).1=c at *;by_cases a:Ge ⟨(c:Int),x,y⟩
    ·rw[if_neg (by rintro(h | h | h | h);exact d h;exact f h;exact b h;exact h a),if_pos a]
     congr 1
     omega
    ·rw[if_pos (.inr (.inr (.inr a))),if_neg a]
structure GIn (w W:World) (c a b:Int) (vb:Value) (m:List UInt8):Prop where
 res:Bo W w.heap.size #[.int .i64 0,.int .i64 0,.int .i64 0]
 box:Bo W (w.heap.size+1) #[.int .i64 c,.int .i64 a,.int .i64 b]
 cap:Bb W (w.heap.size+1+1) vb
 rd:Rd W vb m
 below:Below w.heap.size w W
theorem GIn.next {b:Int} (h:GIn w W c a b e m) (d:But (w.heap.size+1+1) (w.heap.size+1+1) W W') (g:Bb W' (w.heap.size+1+1) v') (f:Rd W' v' m'):GIn w W' c a b v' m':=by
 have i:=h.cap.lt;exact⟨(d.block _ (by omega) (by omega) (by omega)).trans h.res,(d.block _ (by omega) (by omega) (by omega)).trans h.box,g,f,Zaf h.below d (by omega) (by omega) (by omega)⟩
theorem Rd.setInt (h:Rd w v m) {b j:Nat} {n:Int} (d:w.cell? ⟨b,j,none⟩=some (.int .i64 n)):Rd (w.setCell ⟨b,j,none⟩ x) v m:=by
 obtain⟨i,A,z,q,t,y,a⟩:=h;refine⟨i,A,z,q,t,y,?_⟩;rcases a with a | ⟨c,f,p,u⟩
 ·exact .inl a
 ·refine .inr ⟨c,f,p,fun k l=>?_⟩
  have g:=u k l
  rw[World.cell?_setCell_other w ⟨b,j,none⟩ ⟨c,f+k,none⟩ x (fun e=>by
   rw[e,g] at d
   simp at d)]
  exact g
theorem GIn.store {b c' a' b':Int} (h:GIn w W c a b d m) (j:Nat) (x:Int) {n:Int} (e:(#[Value.int .i64 c,.int .i64 a,.int .i64 b]:Array Value)[j]?=some (.int .i64 n)) (f:(#[Value.int .i64 c,.int .i64 a,.int .i64 b]:Array Value).setIfInBounds j (.int .i64 x)=#[.int .i64 c',.int .i64 a',.int .i64 b']):
 GIn w (W.setCell ⟨w.heap.size+1,j,none⟩ (.int .i64 x)) c' a' b' d m:=by
 have g:=h.cap.lt;refine⟨(Below.heap_setCell _ _ _ _ (by show w.heap.size≠w.heap.size+1;omega)).trans h.res,?_,(Below.heap_setCell _ _ _ _ (by show w.heap.size+1+1≠w.heap.size+1;omega)).trans h.cap,h.rd.setInt (((h.box.cell j).1).trans e),h.below.setCell (by show w.heap.size<=w.heap.size+1;omega) _⟩
 have:=heap_setCell_same W (w.heap.size+1) j _ _ (.int .i64 x) h.box;unfold Bo;rw[<-f];simpa using this
theorem GIn.more {b:Int} (h:GIn w W c a b e m) (d:Below W.heap.size W W'):GIn w W' c a b e m:=by
 have f:=h.cap.lt;exact⟨(d.block _ (by omega)).trans h.res,(d.block _ (by omega)).trans h.box,(d.block _ (by omega)).trans h.cap,h.rd.below d zL,h.below.trans (d.mono h.below.size)⟩
theorem Zdk (W:World) (b:Nat) (e d a:Value) (c i:Nat) (h:b≠c):(((W.setCell ⟨b,0,none⟩ e).setCell ⟨b,1,none⟩ d).setCell ⟨b,2,none⟩ a).drew.cell? ⟨c,i,none⟩=W.cell? ⟨c,i,none⟩:=by
 show(((W.setCell ⟨b,0,none⟩ e).setCell ⟨b,1,none⟩ d).setCell ⟨b,2,none⟩ a).cell? ⟨c,i,none⟩=_;rw[World.cell?_setCell_far _ _ _ _ h,World.cell?_setCell_far _ _ _ _ h,World.cell?_setCell_far _ _ _ _ h]
theorem ZvE (v:Value) (l:List UInt8) (w:World) (hr:Rd w v l) (aB:l.length<=1000000):
 Calls prog 209 #[v] w fun e w'=>ZuM w l e w':=by
 obtain⟨b,p,rfl⟩:∃ b p,v=.slice b l.length p:=by
  obtain⟨b,p,rfl,_⟩:=hr;exact⟨b,p,rfl⟩
 have HR:=ZZ hr;clear hr;have K:Hid (∀ W g,Bb W (w.heap.size+1+1) g->Rd W g l->Calls prog 218 #[.func (.func 168) #[] #[],.pointer (some ⟨w.heap.size+1+1,0,none⟩)] W fun e w'=>∃ v',e=.returned (.tuple #[.int .i64 ((Qb l).1:Nat),.bool (decide ((Qb l).2≠0))])∧Bb w' (w.heap.size+1+1) v'∧Rd w' v' (behind (Qb l).2 l)∧But (w.heap.size+1+1) (w.heap.size+1+1) W w'):=fun W g T D=>Zre _ _ _ _ _ W T D (Ju l) (fun h=>by rw[ZkI h];rfl) (ZcJ g l W D)
 have aa:Hid (∀ m W g,Bb W (w.heap.size+1+1) g->Rd W g m->Calls prog 218 #[.func (.func 201) #[] #[],.pointer (some ⟨w.heap.size+1+1,0,none⟩)] W fun e w'=>∃ v',e=.returned (.tuple #[.int .i64 (zag (Qe m).1),.bool (decide ((Qe m).2≠0))])∧Bb w' (w.heap.size+1+1) v'∧Rd w' v' (behind (Qe m).2 m)∧But (w.heap.size+1+1) (w.heap.size+1+1) W w'):=fun m W g T D=>ZiN _ _ _ _ _ W T D (G0 m) ZkJ (Zak g m W D)
 have u:=ZZ (ZnS l);have S:=ZZ (Je (Qb l).2 l);obtain⟨f,ak⟩:∃ f,f=behind (Qb l).2 l:=⟨_,rfl⟩;rw[<-ak] at u K S;have ab:=ZZ (aa.o f);have Q:=ZZ (Je (Qe f).2 f);obtain⟨d,ay⟩:∃ d,d=behind (Qe f).2 f:=⟨_,rfl⟩;rw[<-ay] at u ab Q;have ac:=ZZ (aa.o d);have ad:=ZZ (Je (Qe d).2 d);obtain⟨n,an⟩:∃ n,n=behind (Qe d).2 d:=⟨_,rfl⟩;rw[<-an] at u ac ad;have aA:n.length<=l.length:=Nat.le_trans ad.o (Nat.le_trans Q.o S.o);clear ak ay an aa S Q ad;unfold ZuM;generalize Xc l=R at *;generalize (Qb l).1=c at *;generalize (Qb l).2=i at *;generalize zag (Qe f).1=x at *;generalize (Qe f).2=j at *;generalize zag (Qe d).1=y at *;generalize (Qe d).2=k at *;obtain⟨C,hC⟩:∃ C:Int,C=(c:Int):=⟨_,rfl⟩;rw[<-hC] at K u;have HF:Hid (∀ W,Calls prog 80 #[.agg #[.int .i64 C,.int .i64 x,.int .i64 y]] W fun e w'=>e=.returned (.bool (decide (Ge ⟨C,x,y⟩)))∧Below W.heap.size W w'):=fun W=>ZlH ⟨C,x,y⟩ W
 have ar:=ZZ (fun W=>ZiM b l.length p W)
 have aj:Hid (∀ W X Y,X=.cells #[.int .i64 0,.int .i64 0,.int .i64 0] 52->Y=.cells #[.int .i64 0,.int .i64 0,.int .i64 0] 52->W=((w.alloc X).alloc Y).alloc (.cells #[.slice b l.length p] 53)->GIn w W 0 0 0 (.slice b l.length p) l):=fun W X Y hX hY hW=>by
  subst hX hY hW;have b1:Below w.heap.size w (((w.alloc (.cells #[.int .i64 0,.int .i64 0,.int .i64 0] 52)).alloc (.cells #[.int .i64 0,.int .i64 0,.int .i64 0] 52)).alloc (.cells #[.slice b l.length p] 53)):=(((Below.refl _ _).alloc zL _).alloc (by simp) _).alloc (by simp;omega) _
  refine⟨?_,?_,?_,HR.o.below b1 zL,b1⟩
  ·exact(Below.heap_alloc _ _ _ (by simp;omega)).trans ((Below.heap_alloc _ _ _ (by simp)).trans (heap_alloc_new w _))
  ·exact(Below.heap_alloc _ _ _ (by simp)).trans (Zpl w _ _)
  ·have h:=heap_alloc_new ((w.alloc (.cells #[.int .i64 0,.int .i64 0,.int .i64 0] 52)).alloc (.cells #[.int .i64 0,.int .i64 0,.int .i64 0] 52)) (.cells #[.slice b l.length p] 53)
   have e:((w.alloc (.cells #[.int .i64 0,.int .i64 0,.int .i64 0] 52)).alloc (.cells #[.int .i64 0,.int .i64 0,.int .i64 0] 52)).heap.size=w.heap.size+1+1:=by simp
   rw[e] at h;exact h
 clear hC
 go_enter func209,ntmps209
 go_wp2_with fail
 refine(ar.o _).mono ?_;rintro e W1 ⟨rfl,am⟩;have I:=ZZ (aj.o W1 _ _ rfl rfl am);clear am aj ar
 go_wp2_with fail
 refine(K.o _ _ I.out.cap I.out.rd).mono ?_;rintro e W2 ⟨v2,rfl,ae,av,au⟩;have U:=ZZ (I.out.next au ae av);obtain⟨p0,f0⟩:=U.out.box.cell 0;clear ae av au I K;have O:=ZZ (U.out.store (c':=C) (a':=0) (b':=0) 0 C rfl rfl)
 go_wp2_with fail
 refine(ab.o _ _ O.o.cap O.o.rd).mono ?_;rintro e W3 ⟨v3,rfl,ap,ao,al⟩;have Z:=ZZ (O.o.next al ap ao);obtain⟨p1,f1⟩:=Z.out.box.cell 1;clear ap ao al U O ab p0 f0;have M:=ZZ (Z.out.store (c':=C) (a':=x) (b':=0) 1 x rfl rfl)
 go_wp2_with fail
 refine(ac.o _ _ M.o.cap M.o.rd).mono ?_;rintro e W4 ⟨v4,rfl,aw,aq,ag⟩;have N:=ZZ (M.o.next ag aw aq);obtain⟨p2,f2⟩:=N.out.box.cell 2;clear aw aq ag Z M ac p1 f1;have q:=ZZ (N.out.store (c':=C) (a':=x) (b':=y) 2 y rfl rfl);by_cases B:k=0
 ·have z:Hid (R=(⟨0,0,0⟩,0)):=u.o.1 B
  rw[decide_eq_false (fun h=>h B)]
  obtain⟨E,g0⟩:=q.o.res.cell 0;obtain⟨P,g1⟩:=q.o.res.cell 1;obtain⟨J,g2⟩:=q.o.res.cell 2;have G:=ZZ q.o.below;clear B N;go_wp2;refine bodyPost_ret (v:=.tuple #[.agg #[.int .i64 0,.int .i64 0,.int .i64 0],.int .i64 0]) (by simp[results,Tryz.results209,go_sem,E,P,J]) rfl ?_
  rw[z.o];exact⟨rfl,((G.o.setCell zL _).setCell zL _).setCell zL _⟩
 ·have z:=ZZ (u.o.2 B)
  rw[decide_eq_true B];obtain⟨H,-⟩:=q.o.box.cell 0;obtain⟨L,-⟩:=q.o.box.cell 1;obtain⟨F,-⟩:=q.o.box.cell 2;clear B u
  go_wp2_with fail
  refine(HF.o _).mono ?_;rintro e t ⟨rfl,ah⟩;have a:=ZZ (q.o.more ah);clear ah q N H L F p2 f2;obtain⟨E,g0⟩:=a.out.res.cell 0;obtain⟨P,g1⟩:=a.out.res.cell 1;obtain⟨J,g2⟩:=a.out.res.cell 2;have G:=ZZ a.out.below;by_cases A:Ge ⟨C,x,y⟩
  ·rw[decide_eq_true A]
   rw[if_pos A] at z;obtain⟨H,-⟩:=a.out.box.cell 0;obtain⟨L,-⟩:=a.out.box.cell 1;obtain⟨F,-⟩:=a.out.box.cell 2;have hc:=a.out.cap.cell.1;obtain⟨a4,V,rfl,-⟩:=a.out.rd;have HL:=ZZ (fun W h=>Zrd (w.heap.size+1+1) a4 n.length V W h)
   have ai:IntKind.i64.wrap ((l.length:Int)-(n.length:Int))=((l.length-n.length:Nat):Int):=by rw[IntKind.wrap_i64];omega
   have az:=ZZ ai;have af:=ZZ (⟨H,L,F,hc⟩:t.drew.cell? ⟨w.heap.size+1,0,none⟩=some (.int .i64 C)∧t.drew.cell? ⟨w.heap.size+1,1,none⟩=some (.int .i64 x)∧t.drew.cell? ⟨w.heap.size+1,2,none⟩=some (.int .i64 y)∧t.drew.cell? ⟨w.heap.size+1+1,0,none⟩=some (.slice a4 n.length V));have ax:=ZZ (⟨(Zdk t w.heap.size (.int .i64 C) (.int .i64 x) (.int .i64 y) _ _ (by omega)).trans H,(Zdk t w.heap.size (.int .i64 C) (.int .i64 x) (.int .i64 y) _ _ (by omega)).trans L,(Zdk t w.heap.size (.int .i64 C) (.int .i64 x) (.int .i64 y) _ _ (by omega)).trans F,(Zdk t w.heap.size (.int .i64 C) (.int .i64 x) (.int .i64 y) (w.heap.size+1+1) 0 (by omega)).trans hc⟩:_∧_∧_∧_)
   clear A a ai HF;go_wp2
   go_region_held(fun w'=>w'.cell? ⟨w.heap.size+1,0,none⟩=some (.int .i64 C)∧w'.cell? ⟨w.heap.size+1,1,none⟩=some (.int .i64 x)∧w'.cell? ⟨w.heap.size+1,2,none⟩=some (.int .i64 y)∧w'.cell? ⟨w.heap.size+1+1,0,none⟩=some (.slice a4 n.length V)) (first | exact af.o | exact ax.o)
    (first
     | (go_at_call 219;refine(HL.o _ (by first | exact af.o.2.2.2 | exact ax.o.2.2.2)).mono ?_;rintro e w' ⟨rfl,rfl⟩))
   all_goals
    go_wp2;refine bodyPost_ret (v:=.tuple #[.agg #[.int .i64 C,.int .i64 x,.int .i64 y],.int .i64 (IntKind.i64.wrap ((l.length:Int)-(n.length:Int)))]) (by simp[results,Tryz.results209,go_sem,E,P,J]) rfl ?_
    rw[z.o,az.o];exact⟨rfl,((((G.o.setCell zL _).setCell zL _).setCell zL _)).drew⟩
  ·rw[decide_eq_false A]
   rw[if_neg A] at z;clear A a;go_wp2;refine bodyPost_ret (v:=.tuple #[.agg #[.int .i64 0,.int .i64 0,.int .i64 0],.int .i64 0]) (by simp[results,Tryz.results209,go_sem,E,P,J]) rfl ?_
   rw[z.o];exact⟨rfl,((G.o.setCell zL _).setCell zL _).setCell zL _⟩
def Zau (w:World) (r:St × Int) (e:Ending) (w':World):Prop:=
 ∃ vl,e=.returned (.tuple #[.agg #[.int .i64 r.1.kind,vl,.bool r.1.shut,.int .i64 r.1.eng],.int .i64 r.2])∧RdI w' vl r.1.L∧I64 r.1.kind∧I64 r.1.eng∧(∀ b,vl.ownBlock=some b->w.heap.size<=b)∧Below w.heap.size w w'
theorem Zau.zero (n:Int) (a:Below w.heap.size w w'):Zau w (ZcB,n) (.returned (.tuple #[.agg #[.int .i64 0,.slice none 0 0,.bool false,.int .i64 0],.int .i64 n])) w':=
 ⟨_,rfl,RdI.nil _,(Qo (by decide) (by decide):I64 0),(Qo (by decide) (by decide):I64 0),fun b a=>by simp[Value.ownBlock] at a,a⟩
theorem ZcT:∀ (a b:Nat) (l:List UInt8),J3 (a+b) l=(J3 a l).bind fun x=>(J3 b (l.drop x.2)).map fun y=>(x.1++y.1,x.2+y.2)
 | 0,b,l=>by
  rw[Nat.zero_add,J3];simp
 | a+1,b,l=>by
  rw[Nat.add_right_comm,J3,J3,ZcT a b];by_cases h:(Qe l).2=0
  ·rw[if_pos h,if_pos h]
   rfl
  ·rw[if_neg h,if_neg h]
   cases J3 a (l.drop (Qe l).2) with
   | none=>rfl
   | some x=>
    obtain⟨xs,u⟩:=x;simp only [Option.bind_some,Option.map_some,drop_drop]
    cases J3 b (l.drop ((Qe l).2+u)) with
    | none=>rfl
    | some y=>simp[Nat.add_assoc]
theorem ZnT (l:List UInt8):J3 1 l=if(Qe l).2=0 then none else some ([zag (Qe l).1],(Qe l).2):=by
 rw[J3];split
 ·rfl
 ·rfl
theorem ZsZ (h:J3 k l=some (xs,u)) (a:(Qe (l.drop u)).2≠0):J3 (k+1) l=some (xs++[zag (Qe (l.drop u)).1],u+(Qe (l.drop u)).2):=by
 rw[ZcT,h];simp only [Option.bind_some];rw[ZnT,if_neg a];rfl
theorem Zta {m:Nat} (h:J3 k l=some (xs,u)) (a:(Qe (l.drop u)).2=0) (b:k<m):J3 m l=none:=by
 obtain⟨d,rfl⟩:∃ d,m=k+1+d:=⟨m-(k+1),by omega⟩
 rw[ZcT,ZcT k 1,h];simp only [Option.bind_some];rw[ZnT,if_pos a];rfl
theorem ZpW (l:List UInt8):
 ((Qb (behind (Qb (behind (Qb l).2 l)).2 (behind (Qb l).2 l))).2=0∨3<(Qb (behind (Qb l).2 l)).1∨128<(Qb (behind (Qb (behind (Qb l).2 l)).2 (behind (Qb l).2 l))).1->ZdG l=(ZcB,3))∧
 (¬ ((Qb (behind (Qb (behind (Qb l).2 l)).2 (behind (Qb l).2 l))).2=0∨3<(Qb (behind (Qb l).2 l)).1∨128<(Qb (behind (Qb (behind (Qb l).2 l)).2 (behind (Qb l).2 l))).1)->
  ZdG l=ZjE (Qb l).1 (Qb (behind (Qb l).2 l)).1 (Qb (behind (Qb (behind (Qb l).2 l)).2 (behind (Qb l).2 l))).1 (behind (Qb (behind (Qb (behind (Qb l).2 l)).2 (behind (Qb l).2 l))).2 (behind (Qb (behind (Qb l).2 l)).2 (behind (Qb l).2 l)))):=by
 by_cases a:(Qb l).2=0
 ·have e:behind (Qb l).2 l=[]:=by rw[a];rfl
  rw[e,ZcS];simp only [ZiS,ZcS];refine⟨fun _=>?_,fun h=>absurd (Or.inl trivial) h⟩
  unfold ZdG;rw[if_pos (.inl a)]
 ·have e:behind (Qb l).2 l=l.drop (Qb l).2:=Yv a l
  rw[e];by_cases b:(Qb (l.drop (Qb l).2)).2=0
  ·have d:behind (Qb (l.drop (Qb l).2)).2 (l.drop (Qb l).2)=[]:=by rw[b];rfl
   rw[d,ZcS];refine⟨fun _=>?_,fun h=>absurd (Or.inl rfl) h⟩
   unfold ZdG;rw[if_pos (.inr (.inl b))]
  ·have d:behind (Qb (l.drop (Qb l).2)).2 (l.drop (Qb l).2)=l.drop ((Qb l).2+(Qb (l.drop (Qb l).2)).2):=by rw[Yv b,drop_drop]
   rw[d];refine⟨fun c=>?_,fun c=>?_⟩
   ·unfold ZdG
    rw[if_pos (.inr (.inr c))]
   ·have f:(Qb (l.drop ((Qb l).2+(Qb (l.drop (Qb l).2)).2))).2≠0:=fun h=>c (.inl h)
    unfold ZdG;rw[if_neg (by rintro(h | h | h);exact a h;exact b h;exact c h),Yv f,drop_drop]
structure SIn (w W:World) (kd:Int) (vl:Value) (sh:Bool) (g:Int) (vb:Value) (m:List UInt8):Prop where
 res:Bx W w.heap.size #[.int .i64 0,.slice none 0 0,.bool false,.int .i64 0]
 box:Bx W (w.heap.size+1) #[.int .i64 kd,vl,.bool sh,.int .i64 g]
 cap:Bb W (w.heap.size+1+1) vb
 rd:Rd W vb m
 below:Below w.heap.size w W
theorem SIn.next {b:Bool} {c:Value} (h:SIn w W kd c b g d m) (a:But (w.heap.size+1+1) (w.heap.size+1+1) W W') (f:Bb W' (w.heap.size+1+1) v') (e:Rd W' v' m'):SIn w W' kd c b g v' m':=by
 have i:=h.cap.lt;exact⟨(a.block _ (by omega) (by omega) (by omega)).trans h.res,(a.block _ (by omega) (by omega) (by omega)).trans h.box,f,e,Zaf h.below a (by omega) (by omega) (by omega)⟩
theorem SIn.more {c:Bool} {b:Value} (h:SIn w W kd d c g b m) (a:Below W.heap.size W W'):SIn w W' kd d c g b m:=by
 have e:=h.cap.lt;exact⟨(a.block _ (by omega)).trans h.res,(a.block _ (by omega)).trans h.box,(a.block _ (by omega)).trans h.cap,h.rd.below a zL,h.below.trans (a.mono h.below.size)⟩
theorem Rd.setElse {y:Value} (h:Rd w v m) {b j:Nat} (d:w.cell? ⟨b,j,none⟩=some y) (q:∀ n,y≠.int .u8 n):Rd (w.setCell ⟨b,j,none⟩ x) v m:=by
 obtain⟨i,C,B,t,u,A,a⟩:=h;refine⟨i,C,B,t,u,A,?_⟩;rcases a with a | ⟨c,f,p,z⟩
 ·exact .inl a
 ·refine .inr ⟨c,f,p,fun k l=>?_⟩
  have g:=z k l
  rw[World.cell?_setCell_other w ⟨b,j,none⟩ ⟨c,f+k,none⟩ x (fun e=>by
   rw[e,g] at d
   exact q _ (Option.some.inj d).symm)]
  exact g
theorem SIn.store {kd' g':Int} {a sh':Bool} {b vl' c:Value} (h:SIn w W kd b a g c m) (j:Nat) (x y:Value) (e:(#[Value.int .i64 kd,b,.bool a,.int .i64 g]:Array Value)[j]?=some y) (d:∀ n,y≠.int .u8 n) (f:(#[Value.int .i64 kd,b,.bool a,.int .i64 g]:Array Value).setIfInBounds j x=#[.int .i64 kd',vl',.bool sh',.int .i64 g']):
 SIn w (W.setCell ⟨w.heap.size+1,j,none⟩ x) kd' vl' sh' g' c m:=by
 have i:=h.cap.lt;refine⟨(Below.heap_setCell _ _ _ _ (by show w.heap.size≠w.heap.size+1;omega)).trans h.res,?_,(Below.heap_setCell _ _ _ _ (by show w.heap.size+1+1≠w.heap.size+1;omega)).trans h.cap,h.rd.setElse (((h.box.cell j).1).trans e) d,h.below.setCell (by show w.heap.size<=w.heap.size+1;omega) _⟩
 have:=heap_setCell_same W (w.heap.size+1) j _ _ x h.box;unfold Bx;rw[<-f];simpa using this
structure DIn (w W:World) (kd g:Int) (sh:Bool) (R:List UInt8) (cnt G k:Nat) (vb:Value) (m:List UInt8) (ys:List Int) (th:Bool):Prop where
 sin:SIn w W kd (.slice (some ⟨G,0,none⟩) cnt cnt) sh g vb m
 row:W.heap[G]?=some (.cells (Qr ys).toArray 3 (0,0))
 len:ys.length=cnt
 far:w.heap.size+1+1<G
 st:(th=true∧∃ u,J3 k R=some (ys.take k,u)∧m=R.drop u)∨(th=false∧J3 k R=none∧m=[])
theorem Ztb (h:J3 k R=none):J3 (k+1) R=none:=by
 rw[ZcT,h];rfl
theorem ZxA (a:List Int) (k:Nat) (x:Int) (b:k<a.length):(a.set k x).take (k+1)=a.take k++[x]:=by
 rw[List.take_add_one,List.take_set_of_le zL];simp[b]
theorem DIn.step {i:Bool} {f:Nat} {a:List Int} {q:Bool} (h:DIn w W kd g i R f G k v m a q) (A:k<f) (j:But (w.heap.size+1+1) (w.heap.size+1+1) W W') (z:Bb W' (w.heap.size+1+1) v') (t:Rd W' v' (behind (Qe m).2 m)):
 DIn w (W'.setCell ⟨G,k,none⟩ (.int .i64 (zag (Qe m).1))) kd g i R f G (k+1) v' (behind (Qe m).2 m) (a.set k (zag (Qe m).1)) (decide ((Qe m).2≠0)):=by
 have p:=h.far;have y:G<W.heap.size:=(Array.getElem?_eq_some_iff.1 h.row).1;have l:W'.heap[G]?=some (.cells (Qr a).toArray 3 (0,0)):=(j.block G y (by omega) (by omega)).trans h.row
 have c:=h.sin.next j z t
 have x:W'.cell? ⟨G,k,none⟩=some (.int .i64 (a.getD k 0)):=by
  rw[cell_of_row W' G k _ _ _ l];have:=Zu a k (by have:=h.len;omega)
  simpa using this
 refine⟨⟨?_,?_,?_,c.rd.setElse x (fun n e=>by simp at e),c.below.setCell (by show w.heap.size<=G;omega) _⟩,?_,by rw[List.length_set];exact h.len,p,?_⟩
 ·exact(Below.heap_setCell _ _ _ _ (by show w.heap.size≠G;omega)).trans c.res
 ·exact(Below.heap_setCell _ _ _ _ (by show w.heap.size+1≠G;omega)).trans c.box
 ·exact(Below.heap_setCell _ _ _ _ (by show w.heap.size+1+1≠G;omega)).trans c.cap
 ·rw[heap_setCell_same W' G k _ _ _ l]
  congr 2
  unfold Qr;apply Array.ext';simp[List.map_set]
 ·have B:=h.len
  rcases h.st with ⟨rfl,u,d,rfl⟩ | ⟨rfl,d,rfl⟩
  ·by_cases b:(Qe (R.drop u)).2=0
   ·right
    refine⟨decide_eq_false (fun h=>h b),Zta d b (by omega),?_⟩
    rw[b];rfl
   ·left
    refine⟨decide_eq_true b,u+(Qe (R.drop u)).2,?_,?_⟩
    ·rw[ZsZ d b,ZxA a k _ (by omega)]
    ·rw[Yv b,drop_drop]
  ·right
   rw[Zbj];exact⟨rfl,Ztb d,rfl⟩
theorem DIn.own {f:Bool} {a:Nat} {b:List Int} {d:Bool} (h:DIn w W kd g f R a G k e m b d) (i:a<=maxLen):Qs W (w.heap.size+1+1+1) (.slice (some ⟨G,0,none⟩) a a) b:=by
 have c:=h.len;have j:=h.far;refine⟨by rw[Zk,Nat.mul_one],.inr ⟨G,a,(Qr b).toArray,by rw[c],by omega,h.row,by omega,i,?_,?_⟩⟩
 ·simp[Zk,c]
 ·rw[List.take_of_length_le]
  simp[Zk]
theorem Zmc (w:World) (n:Nat) (f:n<=1000000):(Instr.makeSlice 23 (.int .i64 (n:Int)) (.int .i64 (n:Int))).run prog w=.ok (.slice (some ⟨w.heap.size,0,none⟩) n n) (w.alloc (.cells (Qr (List.replicate n 0)).toArray 3)):=by
 obtain⟨b,c,a,d,e⟩:=info_parts Zlg;have h:=run_make (P:=prog) w 23 3 b (.int .i64 0) underlying23 c a .i64 .i64 (n:Int) (n:Int) (by omega) (Int.le_refl _) (by rw[e];omega) (by omega)
 rw[Int.toNat_natCast,d,Nat.mul_one] at h;rw[h]
 congr 3
 apply Array.ext';show(madeCells #[Value.int .i64 0] n).toList=_;rw[toList_madeCells_one];simp[Qr]
theorem But.ofDrew {R:Nat} (h:But R T w.drew w'):But R T w w':=⟨h.os,h.tape,h.output,h.size,h.block⟩
theorem DIn.start {c:Bool} {b:Value} (h:SIn w W kd (.slice none 0 0) c g b R) (a:Nat):
 DIn w ((W.alloc (.cells (Qr (List.replicate a 0)).toArray 3)).setCell ⟨w.heap.size+1,1,none⟩ (.slice (some ⟨W.heap.size,0,none⟩) a a)) kd g c R a W.heap.size 0 b R (List.replicate a 0) true:=by
 have d:=h.cap.lt;have f:=h.more ((Below.refl _ _).alloc zL (.cells (Qr (List.replicate a 0)).toArray 3));refine⟨f.store 1 _ _ rfl (fun n e=>by simp at e) rfl,?_,by simp,d,.inl ⟨rfl,0,rfl,by simp⟩⟩
 exact(Below.heap_setCell _ _ _ _ (by show W.heap.size≠w.heap.size+1;omega)).trans (heap_alloc_new W _)
theorem DIn.spot {e:Bool} {f:Value} {a:List Int} {d:Bool} (h:DIn w W kd g e R b G k f m a d) (n:k<b) (i:But (w.heap.size+1+1) (w.heap.size+1+1) W W'):
 W'.cell? ⟨G,k,none⟩=some (.int .i64 (a.getD k 0))∧W'.frozen? ⟨G,k,none⟩=false:=by
 have l:=h.far;have j:G<W.heap.size:=(Array.getElem?_eq_some_iff.1 h.row).1;have c:W'.heap[G]?=some (.cells (Qr a).toArray 3 (0,0)):=(i.block G j (by omega) (by omega)).trans h.row
 refine⟨?_,frozen_of_row W' G k _ _ c⟩;rw[cell_of_row W' G k _ _ _ c];have:=Zu a k (by have:=h.len;omega)
 simpa using this
theorem ZiT (v:Value) (l:List UInt8) (w:World) (V:Rd w v l) (_hlim:l.length<=1000000):
 Calls prog 164 #[v] w fun e w'=>Zau w (ZdG l) e w':=by
 obtain⟨J,K,rfl⟩:∃ J K,v=.slice J l.length K:=by
  obtain⟨J,K,rfl,_⟩:=V;exact⟨J,K,rfl⟩
 have HR:=ZZ V;clear V;have ad:Hid (∀ m W f,Bb W (w.heap.size+1+1) f->Rd W f m->Calls prog 218 #[.func (.func 168) #[] #[],.pointer (some ⟨w.heap.size+1+1,0,none⟩)] W fun e w'=>∃ v',e=.returned (.tuple #[.int .i64 ((Qb m).1:Nat),.bool (decide ((Qb m).2≠0))])∧Bb w' (w.heap.size+1+1) v'∧Rd w' v' (behind (Qb m).2 m)∧But (w.heap.size+1+1) (w.heap.size+1+1) W w'):=fun m W f h1 h2=>Zre _ _ _ _ _ W h1 h2 (Ju m) (fun h=>by rw[ZkI h];rfl) (ZcJ f m W h2)
 have a9:Hid (∀ m W f,Bb W (w.heap.size+1+1) f->Rd W f m->Calls prog 218 #[.func (.func 201) #[] #[],.pointer (some ⟨w.heap.size+1+1,0,none⟩)] W fun e w'=>∃ v',e=.returned (.tuple #[.int .i64 (zag (Qe m).1),.bool (decide ((Qe m).2≠0))])∧Bb w' (w.heap.size+1+1) v'∧Rd w' v' (behind (Qe m).2 m)∧But (w.heap.size+1+1) (w.heap.size+1+1) W w'):=fun m W f h1 h2=>ZiN _ _ _ _ _ W h1 h2 (G0 m) ZkJ (Zak f m W h2)
 have HG:=ZZ (ZpW l);have aj:=ZZ (ad.o l)
 have c1:(Qb l).1<4611686018427387904:=by
  rcases Xf l with h | h
  ·rw[h];decide
  ·exact h.1
 obtain⟨Q,aw⟩:∃ Q,Q=behind (Qb l).2 l:=⟨_,rfl⟩;rw[<-aw] at HG aj;have an:=ZZ (ad.o Q);obtain⟨P,aY⟩:∃ P,P=behind (Qb Q).2 Q:=⟨_,rfl⟩;rw[<-aY] at HG an;have ao:=ZZ (ad.o P);obtain⟨R,aE⟩:∃ m3,m3=behind (Qb P).2 P:=⟨_,rfl⟩;rw[<-aE] at HG ao;clear aw aY aE ad;generalize ZdG l=D at *;generalize (Qb l).1=kd at *;generalize (Qb l).2=i at *;generalize (Qb Q).1=y at *;generalize (Qb Q).2=j at *;generalize (Qb P).1=a at *;generalize (Qb P).2=k at *;have aO:=ZZ (fun W=>ZiM J l.length K W)
 have av:Hid (∀ W X Y,X=.cells #[.int .i64 0,.slice none 0 0,.bool false,.int .i64 0] 38->Y=.cells #[.int .i64 0,.slice none 0 0,.bool false,.int .i64 0] 38->W=((w.alloc X).alloc Y).alloc (.cells #[.slice J l.length K] 53)->SIn w W 0 (.slice none 0 0) false 0 (.slice J l.length K) l):=fun W X Y hX hY hW=>by
  subst hX hY hW;have b1:Below w.heap.size w (((w.alloc (.cells #[.int .i64 0,.slice none 0 0,.bool false,.int .i64 0] 38)).alloc (.cells #[.int .i64 0,.slice none 0 0,.bool false,.int .i64 0] 38)).alloc (.cells #[.slice J l.length K] 53)):=(((Below.refl _ _).alloc zL _).alloc (by simp) _).alloc (by simp;omega) _
  refine⟨?_,?_,?_,HR.o.below b1 zL,b1⟩
  ·exact(Below.heap_alloc _ _ _ (by simp;omega)).trans ((Below.heap_alloc _ _ _ (by simp)).trans (heap_alloc_new w _))
  ·exact(Below.heap_alloc _ _ _ (by simp)).trans (Zpl w _ _)
  ·have h:=heap_alloc_new ((w.alloc (.cells #[.int .i64 0,.slice none 0 0,.bool false,.int .i64 0] 38)).alloc (.cells #[.int .i64 0,.slice none 0 0,.bool false,.int .i64 0] 38)) (.cells #[.slice J l.length K] 53)
   have e:((w.alloc (.cells #[.int .i64 0,.slice none 0 0,.bool false,.int .i64 0] 38)).alloc (.cells #[.int .i64 0,.slice none 0 0,.bool false,.int .i64 0] 38)).heap.size=w.heap.size+1+1:=by simp
   rw[e] at h;exact h
 go_enter func164,ntmps164
 go_wp2_with fail
 refine(aO.o _).mono ?_;rintro e W1 ⟨rfl,aB⟩;have G1:=ZZ (av.o W1 _ _ rfl rfl aB);clear aB av aO
 go_wp2_with fail
 refine(aj.o _ _ G1.out.cap G1.out.rd).mono ?_;rintro e W2 ⟨v2,rfl,ap,aR,aP⟩;have G2:=ZZ (G1.out.next aP ap aR);obtain⟨p0,f0⟩:=G2.out.box.cell 0;clear ap aR aP G1 aj;have ae:=ZZ (G2.out.store (kd':=(kd:Int)) (vl':=.slice none 0 0) (sh':=false) (g':=0) 0 (.int .i64 (kd:Int)) _ rfl (fun n e=>by simp at e) rfl)
 go_wp2_with fail
 refine(an.o _ _ ae.o.cap ae.o.rd).mono ?_;rintro e W3 ⟨v3,rfl,aK,aI,aA⟩;have G3:=ZZ (ae.o.next aA aK aI);clear aK aI aA G2 ae an p0 f0
 go_wp2_with fail
 refine(ao.o _ _ G3.out.cap G3.out.rd).mono ?_;rintro e W4 ⟨v4,rfl,aS,aN,ar⟩;have d:=ZZ (G3.out.next ar aS aN);clear aS aN ar G3 ao;by_cases B:k=0∨3<y∨128<a
 ·have I:Hid (D=(ZcB,3)):=HG.o.1 B
  obtain⟨A,g0⟩:=d.out.res.cell 0;obtain⟨H,g1⟩:=d.out.res.cell 1;obtain⟨C,g2⟩:=d.out.res.cell 2;obtain⟨E,g3⟩:=d.out.res.cell 3;have aa:=ZZ d.out.below;by_cases L:k=0
  ·rw[decide_eq_false (fun h=>h L)]
   clear L B d;go_wp2;refine bodyPost_ret (v:=.tuple #[.agg #[.int .i64 0,.slice none 0 0,.bool false,.int .i64 0],.int .i64 3]) (by simp[results,Tryz.results164,go_sem,A,H,C,E]) rfl ?_
   rw[I.o];exact Zau.zero 3 (Zae aa.o w.heap.size zL _ _ _ _)
  ·rw[decide_eq_true L]
   by_cases h3:3<y
   ·have a5:(3:Int)<(y:Int):=by omega
    clear L B d h3;go_wp2;refine bodyPost_ret (v:=.tuple #[.agg #[.int .i64 0,.slice none 0 0,.bool false,.int .i64 0],.int .i64 3]) (by simp[results,Tryz.results164,go_sem,A,H,C,E]) rfl ?_
    rw[I.o];exact Zau.zero 3 (Zae aa.o w.heap.size zL _ _ _ _)
   ·have a5:¬ (3:Int)<(y:Int):=by omega
    have h4:(128:Int)<(a:Int):=by
     rcases B with h | h | h
     ·exact absurd h L
     ·exact absurd h h3
     ·omega
    clear L B d h3;go_wp2;refine bodyPost_ret (v:=.tuple #[.agg #[.int .i64 0,.slice none 0 0,.bool false,.int .i64 0],.int .i64 3]) (by simp[results,Tryz.results164,go_sem,A,H,C,E]) rfl ?_
    rw[I.o];exact Zau.zero 3 (Zae aa.o w.heap.size zL _ _ _ _)
 ·have I:Hid (D=ZjE kd y a R):=HG.o.2 B
  have L:k≠0:=fun h=>B (.inl h)
  have h3:¬ (3:Int)<(y:Int):=fun h=>B (.inr (.inl (by omega)))
  have h4:¬ (128:Int)<(a:Int):=fun h=>B (.inr (.inr (by omega)))
  rw[decide_eq_true L];obtain⟨p1,f1⟩:=d.out.box.cell 1;obtain⟨p2,f2⟩:=d.out.box.cell 2;obtain⟨p3,f3⟩:=d.out.box.cell 3;clear B L HG;have aG:y=0∨y=1∨y=2∨y=3:=by omega
  go_upto_region 8 with fail
  go_cut[] (fun wc=>∃ (p:Bool) (g:Int),Hid (∀ xs,mkS kd y xs=⟨kd,xs,p,g⟩)∧Hid (I64 g)∧Hid (SIn w wc kd (.slice none 0 0) p g v4 R))
  case first=>
   rcases aG with rfl | rfl | rfl | rfl
   ·go_wp2
    go_meet
    exact⟨false,0,ZZ (fun xs=>by simp[mkS]),ZZ (Qo (by omega) (by omega)),ZZ ((d.out.store 2 (.bool false) _ rfl (fun n e=>by simp at e) rfl).store 3 (.int .i64 0) _ rfl (fun n e=>by simp at e) rfl)⟩
   ·go_wp2
    go_meet
    exact⟨true,0,ZZ (fun xs=>by simp[mkS]),ZZ (Qo (by omega) (by omega)),ZZ ((d.out.store 2 (.bool true) _ rfl (fun n e=>by simp at e) rfl).store 3 (.int .i64 0) _ rfl (fun n e=>by simp at e) rfl)⟩
   ·go_wp2
    go_meet
    exact⟨true,1,ZZ (fun xs=>by simp[mkS]),ZZ (Qo (by omega) (by omega)),ZZ ((d.out.store 2 (.bool true) _ rfl (fun n e=>by simp at e) rfl).store 3 (.int .i64 1) _ rfl (fun n e=>by simp at e) rfl)⟩
   ·go_wp2
    go_meet
    exact⟨true,2,ZZ (fun xs=>by simp[mkS]),ZZ (Qo (by omega) (by omega)),ZZ ((d.out.store 2 (.bool true) _ rfl (fun n e=>by simp at e) rfl).store 3 (.int .i64 2) _ rfl (fun n e=>by simp at e) rfl)⟩
  case rest=>
   obtain⟨p,g,ay,aD,GS⟩:=hcut;clear aG p1 f1 p2 f2 p3 f3 d;have ag:=ZZ (DIn.start GS.out a);obtain⟨a1,e1⟩:=(GS.out.more ((Below.refl _ _).alloc zL (.cells (Qr (List.replicate a 0)).toArray 3))).box.cell 1;have a6:=fun W=>Zmc W a (by omega)
   have aT:Hid (I64 (kd:Int)):=⟨by omega,by omega⟩
   have ba:a<=128:=by omega
   have a7:Hid (a<=maxLen):=ZZ (by unfold maxLen;omega)
   generalize (Qr (List.replicate a 0)).toArray=Z at *
   go_upto_region 10 with fail
   generalize ((wc.alloc (.cells Z 3)).setCell ⟨w.heap.size+1,1,none⟩ (.slice (some ⟨wc.heap.size,0,none⟩) a a))=W6 at *;clear a6 a1 e1 GS;generalize wc.heap.size=G at *;obtain⟨b1,-⟩:=ag.o.sin.box.cell 1;go_wp2
   go_loopw[10,57] (fun th ix wr=>∃ (q:Nat) (f:Value) (m:List UInt8) (z:List Int) (t:Bool),th=.bool t∧ix=.int .i64 (q:Int)∧q<=a∧Hid (DIn w wr kd g p R a G q f m z t)) (fun _ ix _=>a-(intOf ix).toNat)
   case atStart=>exact⟨0,_,_,_,true,rfl,rfl,Nat.zero_le _,ag⟩
   case round=>
    clear ag b1;obtain⟨q,f,m,z,t,rfl,rfl,hq,c⟩:=hrel;by_cases aH:q<a
    ·have a3:(q:Int)<(a:Int):=by omega
     obtain⟨b1,-⟩:=c.out.sin.box.cell 1;have a0:=c.out.far;have aM:Hid (wr.drew.cell? ⟨w.heap.size+1,1,none⟩=some (.slice (some ⟨G,0,none⟩) a a)):=b1;have ax:=ZZ (a9.o m wr.drew f c.out.sin.cap c.out.sin.rd);have aQ:=ZZ (fun W' v' U M V=>c.out.step (W':=W') (v':=v') aH U M V)
     have aU:=ZZ (fun W' U=>c.out.spot (W':=W') aH U)
     have aW:=ZZ (fun W' v' U M V=>(((c.out.sin.next (W':=W') (v':=v') (m':=behind (Qe m).2 m) U M V).box).cell 1).1)
     generalize zag (Qe m).1=x at *;generalize behind (Qe m).2 m=m' at *;generalize decide ((Qe m).2≠0)=t' at *;go_wp2
     go_region_held(fun w'=>w'.cell? ⟨w.heap.size+1,1,none⟩=some (.slice (some ⟨G,0,none⟩) a a)) (first | exact aM.o | exact ah.o | exact aV.o)
      (first
       | (go_at_call 218;refine ax.o.mono ?_;rintro e T ⟨v7,rfl,O,al,az⟩;have af:=az.ofDrew;have ah:Hid (T.cell? ⟨w.heap.size+1,1,none⟩=some (.slice (some ⟨G,0,none⟩) a a)):=aW.o T v7 af O al;obtain⟨k0,k1⟩:=aU.o T af;have aV:Hid ((T.setCell ⟨G,q,none⟩ (.int .i64 x)).cell? ⟨w.heap.size+1,1,none⟩=some (.slice (some ⟨G,0,none⟩) a a)):=ZZ ((World.cell?_setCell_far T _ _ _ (by show G≠w.heap.size+1;omega)).trans ah.o);have a8:=ZZ (aQ.o T v7 af O al);clear O al az af))
     clear aM ah aV ax aQ aU aW k0 k1 b1 a0 c;go_wp2;go_roundw
     case rel=>exact⟨q+1,_,_,_,_,rfl,by go_num,by omega,a8⟩
     case measure=>simp[intOf];omega
    ·have aZ:q=a:=by omega
     have a3:¬ (q:Int)<(a:Int):=by omega
     have aX:=c.out.len;have aq:=ZZ (c.out.own a7.o);obtain⟨A,f0⟩:=c.out.sin.res.cell 0;obtain⟨H,f1⟩:=c.out.sin.res.cell 1;obtain⟨C,f2⟩:=c.out.sin.res.cell 2;obtain⟨E,f3⟩:=c.out.sin.res.cell 3;have aa:=ZZ c.out.sin.below;rcases c.out.st with ⟨rfl,u,N,ab⟩ | ⟨rfl,N,ab⟩
     ·have hu:=(ZbX _ _ _ _ N).2.1
      have aJ:m.length=R.length-u:=by rw[ab,length_drop]
      have au:z.take q=z:=List.take_of_length_le (by omega)
      rw[au,aZ] at N;have ak:=ZZ N;have M:=c.out.sin.cap.cell.1;obtain⟨a4,c4,rfl,-⟩:=c.out.sin.rd;have HL:=ZZ (fun W h=>Zrd (w.heap.size+1+1) a4 m.length c4 W h)
      clear N au ab;by_cases ai:u=R.length
      ·have am:m.length=0:=by omega
       rw[am] at M HL
       have ac:Hid (D=if Yl ⟨kd,z,p,g⟩ then((⟨kd,z,p,g⟩:St),0) else(ZcB,1)):=by
        refine ZZ ?_;rw[I.o];unfold ZjE;rw[ak.o];simp only;rw[if_neg (by omega),ay.o]
       have aC:=ZZ (ZbX _ _ _ _ ak.o).2.2.2;have a2:=ZZ (aq.o.rd aC.o);have q0:=(c.out.sin.box.cell 0).1;have q1:=(c.out.sin.box.cell 1).1;have q2:=(c.out.sin.box.cell 2).1;have q3:=(c.out.sin.box.cell 3).1;have aL:Hid (Calls prog 82 #[.agg #[.int .i64 kd,.slice (some ⟨G,0,none⟩) a a,.bool p,.int .i64 g]] wr fun e w'=>e=.returned (.bool (decide (Yl ⟨kd,z,p,g⟩)))∧Below wr.heap.size wr w'):=ZlG _ ⟨kd,z,p,g⟩ _ ⟨_,rfl,a2.o,aT.o,aD.o⟩
       clear ai aJ am aX I ay
       go_wp2_with fail
       refine(HL.o _ M).mono ?_;rintro e W8 ⟨rfl,rfl⟩
       go_wp2_with fail
       refine aL.o.mono ?_;rintro e T ⟨rfl,O⟩;have F:=ZZ (c.out.sin.more O);have aF:=ZZ (aq.o.below O zL);clear O A H C E f0 f1 f2 f3 q0 q1 q2 q3 M aL HL;obtain⟨A,f0⟩:=F.o.res.cell 0;obtain⟨H,f1⟩:=F.o.res.cell 1;obtain⟨C,f2⟩:=F.o.res.cell 2;obtain⟨E,f3⟩:=F.o.res.cell 3;have q0:=(F.o.box.cell 0).1;have q1:=(F.o.box.cell 1).1;have q2:=(F.o.box.cell 2).1;have q3:=(F.o.box.cell 3).1;by_cases hm:Yl ⟨kd,z,p,g⟩
       ·rw[decide_eq_true hm]
        have S:Hid (D=((⟨kd,z,p,g⟩:St),0)):=ac.o.trans (if_pos hm);clear hm ac;go_wp2;refine bodyPost_ret (v:=.tuple #[.agg #[.int .i64 kd,.slice (some ⟨G,0,none⟩) a a,.bool p,.int .i64 g],.int .i64 0]) (by simp[results,Tryz.results164,go_sem,A,H,C,E]) rfl ?_
        rw[S.o];refine⟨_,rfl,(aF.o.four w.heap.size (by omega) _ _ _ _).rd aC.o,aT.o,aD.o,fun b U=>?_,Zae F.o.below w.heap.size zL _ _ _ _⟩
        have:=aF.o.fresh b U;omega
       ·rw[decide_eq_false hm]
        have S:Hid (D=(ZcB,1)):=ac.o.trans (if_neg hm);clear hm ac;go_wp2;refine bodyPost_ret (v:=.tuple #[.agg #[.int .i64 0,.slice none 0 0,.bool false,.int .i64 0],.int .i64 1]) (by simp[results,Tryz.results164,go_sem,A,H,C,E]) rfl ?_
        rw[S.o];exact Zau.zero 1 (Zae F.o.below w.heap.size zL _ _ _ _)
      ·have am:(0:Int)<(m.length:Int):=by omega
       have S:Hid (D=(ZcB,3)):=by
        refine ZZ ?_;rw[I.o];unfold ZjE;rw[ak.o];simp only;rw[if_pos ai]
       clear ai aJ aX I
       go_wp2_with fail
       refine(HL.o _ M).mono ?_;rintro e W8 ⟨rfl,rfl⟩;go_wp2;refine bodyPost_ret (v:=.tuple #[.agg #[.int .i64 0,.slice none 0 0,.bool false,.int .i64 0],.int .i64 3]) (by simp[results,Tryz.results164,go_sem,A,H,C,E]) rfl ?_
       rw[S.o];exact Zau.zero 3 (Zae aa.o w.heap.size zL _ _ _ _)
     ·rw[aZ] at N
      have S:Hid (D=(ZcB,3)):=by
       refine ZZ ?_;rw[I.o];unfold ZjE;rw[N]
      clear N ab c;go_wp2;refine bodyPost_ret (v:=.tuple #[.agg #[.int .i64 0,.slice none 0 0,.bool false,.int .i64 0],.int .i64 3]) (by simp[results,Tryz.results164,go_sem,A,H,C,E]) rfl ?_
      rw[S.o];exact Zau.zero 3 (Zae aa.o w.heap.size zL _ _ _ _)
end Go.Proofs.YtnahjngbneicaaaGreatDoor
