import Derived.Test.YtnahjngbneicaaaGreatDoorPack11
import Derived.Test.YtnahjngbneicaaaGreatDoorPack4
import Derived.Test.YtnahjngbneicaaaGreatDoorPack1
import Derived.Test.YtnahjngbneicaaaGreatDoorPack5
import Derived.Test.YtnahjngbneicaaaGreatDoorPack2
import Derived.Deep.QuietTactic
import Derived.BigQuiet
import Derived.Test.YtnahjngbneicaaaGreatDoorPack7
import Derived.Deep.RegionHeld
import Derived.Test.YtnahjngbneicaaaGreatDoorPack9
namespace Go.Proofs.YtnahjngbneicaaaGreatDoor
open _root_.Go.Proofs.Tryz
open List (drop_drop length_append length_drop mem_cons mem_of_mem_take)
set_option maxHeartbeats 8000000
set_option maxRecDepth 100000
open Go.RowKit
theorem ZlB {K:Nat->Prop} {pd p:Nat} {s:Sto} {d:Dk} {N T:Nat} (vl:Value) (l:List Rec) (w:World) (h:SD K w pd p s d N T) (hK:∀ k,K k->k<w.heap.size) (E:OkS s) (hr:RdR w vl l) (aA:l=[]∨∀ k,vl.ownBlock=some k->K k)
 (a9:s.log.pcs.length<=500000) (be:s.log.recs.length<=5000000) (hN:N<=900000) (hT:T<=900000000):
 Calls prog 22 #[ptr p,vl] w fun e w'=>Zff K w pd p (Zbz l (s,d)) (N+2) (T+30000) e w':=by
 have aw:=ZZ (ZeP vl l w hr);have HS:=ZZ h;have HK:=ZZ hK
 have aE:Hid (∀ W,Below w.heap.size w W->Calls prog 14 #[ptr p] W fun e w'=>e=.returned (.int .i64 s.next)∧Below w.heap.size w w'):=ZZ (fun W f=>((HS.o.below f).next E.num).mono (by
  rintro e w' ⟨rfl,z⟩
  exact⟨rfl,f.trans (z.mono f.size)⟩))
 obtain⟨R,aq⟩:∃ R,R=Zbz l (s,d):=⟨_,rfl⟩;rw[<-aq];have aJ:=ZZ aq;have aR:Hid (∀ W c,Below w.heap.size w W->Zff K w pd p ((s,d),c) (N+2) (T+30000) (.returned (.int .i64 c)) W):=ZZ (fun W c f=>⟨rfl,(HS.o.below f).mono (by omega) (by omega),Zap.ofBelow f⟩)
 by_cases t:ZbE l
 case neg=>
  rw[decide_eq_false t] at aw;have HR:Hid (R=((s,d),1)):=ZZ (by rw[aJ.o];unfold Zbz;rw[if_pos t])
  obtain⟨ra,rc,rfl,-⟩:=hr;clear h hK E aA aq t
  go_enter func22,ntmps22
  go_wp2_with fail
  refine aw.o.mono ?_;rintro e W1 ⟨rfl,x⟩;have aZ:=ZZ x;clear x;go_wp2;go_ret;rw[HR.o];exact aR.o W1 1 aZ.o
 rw[decide_eq_true t] at aw;have bm:=ZZ hr;have bE:=ZZ aA;have aP:1<=l.length:=t.1;have a4:l.length<=256:=t.2.1;obtain⟨ra,rc,rfl,bB,bz,-,bh,b7⟩:=hr;rcases b7 with h0 | ⟨b,off,rfl,hcell⟩
 ·rw[h0] at aP;simp at aP
 have aL:l.getD 0 Zaj=l.headD Zaj:=by cases l <;> rfl
 have ae:Hid (∀ W,Below w.heap.size w W->W.cell? ⟨b,off,none⟩=some (.int .i64 (l.headD Zaj).idx)):=ZZ (fun W f=>by
  have i:=(hcell 0 (by omega)).keep (f.block b (hcell 0 (by omega)).lt)
  have h1:=i.1;rw[aL,Nat.zero_mul,Nat.add_zero] at h1
  exact h1)
 have aF:Hid (∀ W,Below w.heap.size w W->Below w.heap.size w W.drew):=ZZ (fun W f=>f.drew)
 by_cases P:(l.headD Zaj).idx=s.next
 case neg=>
  have HR:Hid (R=((s,d),15)):=ZZ (by rw[aJ.o];unfold Zbz;rw[if_neg (fun u=>u t),if_pos P])
  have ag:((l.headD Zaj).idx != s.next)=true:=by rw[bne_iff_ne];exact P
  have bX:(0:Int)<(l.length:Int):=by omega
  generalize s.next=nx at *;generalize (l.headD Zaj).idx=U at *;clear h hK E aA aq t hcell aL bh P
  go_enter func22,ntmps22
  go_wp2_with fail
  refine aw.o.mono ?_;rintro e W1 ⟨rfl,x⟩;have aZ:=ZZ x;have af:=ZZ (aF.o W1 x);clear x
  go_upto_region 3 with fail
  go_cut[12] (fun v j=>v=.bool true∧Hid (Below w.heap.size w j))
  case first=>
   go_region_held(fun W=>W.cell? ⟨b,off,none⟩=some (.int .i64 U))
    (first | (with_reducible exact ae.o _ af.o) | (with_reducible exact ae.o _ C.o))
    (first | (go_at_call 14;refine(aE.o _ af.o).mono ?_;rintro e W2 ⟨rfl,ab⟩;have C:=ZZ ab;clear ab))
   all_goals
    go_wp2_with fail
    go_meet
    exact⟨by first | rfl | (rw[ag]),C⟩
  case rest=>
   obtain⟨rfl,HB⟩:=hcut;go_wp2;go_ret;rw[HR.o];exact aR.o _ 15 HB.o
 have ag:((l.headD Zaj).idx != s.next)=false:=by rw[P];simp
 have aW:ZaA (l.headD Zaj):=by
  rw[<-aL];rw[show l.getD 0 Zaj=l[0]'(by omega) by simp[List.getD,show 0<l.length by omega]]
  exact t.2.2.1 _ (List.getElem_mem _)
 have ba:0<=s.next:=by rw[<-P];exact aW.2.1
 have aY:s.next<4611686018427387904:=by rw[<-P];exact aW.2.2.1
 have aV:0<=s.now.st.kind∧s.now.st.kind<6:=⟨E.now.1.2.2.2.1,E.now.1.2.2.2.2.1⟩;have bw:=Zvn t aV aY;obtain⟨g,av⟩:∃ g,g=ZfL s d:=⟨_,rfl⟩;obtain⟨BA,ac⟩:∃ BA,BA=Zew s l:=⟨_,rfl⟩;obtain⟨⟨D,c⟩,hD⟩:∃ r,r=ZaK d g BA:=⟨_,rfl⟩
 have a2:I64 g:=by
  rw[av];unfold ZfL;split
  ·obtain⟨F,M,I,L,⟨L1,g1,g2,-⟩,-⟩:=h
   exact Zgf g2 2 (by decide) (by decide)
  ·exact E.cu
 have au:Hid (R=if c=0 then((Zcf s g l,D),0) else((s,D),c)):=ZZ (by
  rw[aJ.o];unfold Zbz;rw[if_neg (fun u=>u t),if_neg (fun u=>u P)]
  dsimp only
  rw[<-av,<-ac,<-hD])
 have bi:Hid (∀ W,Below w.heap.size w W->Calls prog 49 #[.slice (some ⟨b,off,none⟩) l.length rc] W fun e w'=>∃ v',e=.returned v'∧Own w' w.heap.size v' (Zad (ZdF l))∧Below w.heap.size w w'):=ZZ (fun W f=>(ZmA _ l W (bm.o.below f zL) t (by have:=Zqs t;omega)).mono (by
  rintro e w' ⟨v',rfl,m,z⟩
  exact⟨v',rfl,m.mono f.size,f.trans (z.mono f.size)⟩))
 have O:Hid (∀ W,Below w.heap.size w W->W.cell? ⟨p,0,none⟩=some (ptr pd)∧W.cell? ⟨p,12,none⟩=some (.int .i64 s.cur)):=ZZ (fun W f=>by
  obtain⟨⟨c0,-,bH,-⟩,-⟩:=(HS.o.below f).cells
  exact⟨c0,bH⟩)
 have a3:Hid (∀ vB W,Own W w.heap.size vB BA->Below w.heap.size w W->Calls prog 52 #[ptr pd,.int .i64 g,vB] W fun e w'=>e=.returned (.int .i64 c)∧SD K w' pd p s D (N+2) (T+30000)∧Zap (fun k=>¬ K k) w w'):=ZZ (fun vB W m f=>by
  refine((HS.o.fresh f).disk (c:=c) (d':=D) (N':=N+2) (T':=T+30000) (fun k hk=>?_) (fun F hF bN=>?_)).mono ?_
  ·rcases hk with hk | hk
   ·exact Nat.lt_of_lt_of_le (HK.o k hk) f.size
   ·exact hk.2
  ·have:=ZmS g a2 vB BA W hF m.rd (.inr fun k hk t=>bN k t (.inr ⟨(World.ownsRow.lt m k hk).1,(World.ownsRow.lt m k hk).2⟩)) (by omega) (by omega) (by rw[ac];omega)
   rw[<-hD] at this;refine this.mono ?_;rintro e w' ⟨g0,F',g1,g2⟩;exact⟨g0,F',g1.mono zL (by rw[ac];omega),g2⟩
  ·rintro e w' ⟨he,Q,bL⟩
   exact⟨he,Q.less (fun k hk=>.inl hk),(Zap.ofBelow f).trans (bL.mono (fun k hk hn=>hk (.inl hn))) (fun _ _ u=>u)⟩)
 have H:Hid (∀ W,Zap (fun k=>¬ K k) w W->RdR W (.slice (some ⟨b,off,none⟩) l.length rc) l∧∀ k,K k->k<W.heap.size):=ZZ (fun W m=>⟨bm.o.keepK bE.o m,fun k hk=>Nat.lt_of_lt_of_le (HK.o k hk) m.size⟩)
 have G:=ZZ E;have aC:=ZZ (And.intro a9 be);have aX:=ZZ (And.intro aP a4);have bX:(0:Int)<(l.length:Int):=by omega
 have b8:(l.length:Int)<=256:=by omega
 by_cases A:s.cur=0
 ·have aS:(s.cur == 0)=true:=by rw[A];rfl
  have ar:Hid (g=Zbf d 2):=ZZ (by rw[av];unfold ZfL;rw[if_pos A])
  have aT:Hid (BA=Zad (ZbC 3 s.now.st.kind.toNat s.next.toNat)++Zad (ZdF l)):=ZZ (by rw[ac];unfold Zew;rw[if_pos A])
  have bT:Hid ((Zad (ZbC 3 s.now.st.kind.toNat s.next.toNat)).length+(Zad (ZdF l)).length<=70368744177664):=ZZ (by
   rw[<-length_append,<-aT.o,ac]
   omega)
  have bU:Hid (∀ W,Below w.heap.size w W->Calls prog 50 #[ptr p,.int .i64 2] W fun e w'=>e=.returned (.int .i64 g)∧Below w.heap.size w w'∧Below W.heap.size W w'):=ZZ (fun W f=>by
   obtain⟨F,M,I,L,h1,h2,-⟩:=HS.o.below f;rw[ar.o];refine(Zjn 2 W h2 h1 (by omega) (by decide) (by decide)).mono ?_
   rintro e w' ⟨rfl,z⟩
   exact⟨rfl,f.trans (z.mono f.size),z⟩)
  have bJ:Hid (∀ W,Below w.heap.size w W->Calls prog 51 #[ptr p] W fun e w'=>∃ v',e=.returned v'∧Own w' w.heap.size v' (Zad (ZbC 3 s.now.st.kind.toNat s.next.toNat))∧Below w.heap.size w w'∧Below W.heap.size W w'):=ZZ (fun W f=>by
   obtain⟨F,M,I,L,h1,h2,-⟩:=HS.o.below f;refine(ZoD W h2 E.num aV aY ba).mono ?_;rintro e w' ⟨v',rfl,m,z⟩
   exact⟨v',rfl,m.mono f.size,f.trans (z.mono f.size),z⟩)
  have bb:Hid (∀ W,SD K W pd p { s with log:=(s.log.start g s.next).add l,now:=(ZaQ s.now l).1,cur:=g,nw:=true } D (N+2) (T+30000)->Zap (fun k=>¬ K k) w W->c=0->Zff K w pd p R (N+2) (T+30000) (.returned (.int .i64 0)) W):=ZZ (fun W Q m i=>by
   rw[au.o,if_pos i];refine⟨rfl,?_,m⟩;have e1:Zcf s g l={ s with log:=(s.log.start g s.next).add l,now:=(ZaQ s.now l).1,cur:=g,nw:=true }:=by unfold Zcf;rw[if_pos A,if_pos A]
   rw[e1]
   exact Q)
  have bf:Hid (∀ W,SD K W pd p s D (N+2) (T+30000)->Zap (fun k=>¬ K k) w W->c≠0->Zff K w pd p R (N+2) (T+30000) (.returned (.int .i64 c)) W):=ZZ (fun W Q m i=>by
   rw[au.o,if_neg i]
   exact⟨rfl,Q,m⟩)
  have bo:Hid (s.cur≠0->s.log.pcs.length≠0):=ZZ E.cur;have br:=ZZ A;obtain⟨nx,ai⟩:∃ nx,nx=s.next:=⟨_,rfl⟩;obtain⟨U,aD⟩:∃ U,U=(l.headD Zaj).idx:=⟨_,rfl⟩;rw[<-ai] at aE ag;rw[<-aD] at ae ag;have aQ:=ZZ ai;obtain⟨B,am⟩:∃ B,B=s.cur:=⟨_,rfl⟩;rw[<-am] at O aS;have bq:=ZZ am;clear am;clear h hK E aA aq t hcell aL bh P ai aD hD ac av A aJ au aW bw a2 aV ba aY a9 be bB bz aP a4 aR
  go_enter func22,ntmps22
  go_wp2_with fail
  refine aw.o.mono ?_;rintro e W1 ⟨rfl,x⟩;have aZ:=ZZ x;have af:=ZZ (aF.o W1 x);clear x
  go_upto_region 3 with fail
  go_cut[12] (fun v j=>v=.bool false∧Hid (Below w.heap.size w j))
  case first=>
   go_region_held(fun W=>W.cell? ⟨b,off,none⟩=some (.int .i64 U))
    (first | (with_reducible exact ae.o _ af.o) | (with_reducible exact ae.o _ C.o))
    (first | (go_at_call 14;refine(aE.o _ af.o).mono ?_;rintro e W2 ⟨rfl,ab⟩;have C:=ZZ ab;clear ab))
   all_goals
    go_wp2_with fail
    go_meet
    exact⟨by first | rfl | (rw[ag]),C⟩
  case rest=>
  obtain⟨W2,rfl⟩:∃ W,W=j:=⟨_,rfl⟩;obtain⟨rfl,C⟩:=hcut;have aG:=ZZ (aF.o W2 C.o)
  go_upto_region 5 with fail
  go_cut[5,6] (fun v5 v6 j=>v5=.int .i64 B∧(∃ a n c,v6=.slice a n c)∧Hid (Own j w.heap.size v6 (Zad (ZdF l)))∧Hid (Below w.heap.size w j))
  case first=>
   go_region_held(fun W=>W.cell? ⟨p,12,none⟩=some (.int .i64 B))
    (first | (with_reducible exact(O.o _ aG.o).2) | (with_reducible exact(O.o _ J.o).2))
    (first | (go_at_call 49;refine(bi.o _ aG.o).mono ?_;rintro e Y ⟨v3,rfl,ap,aM⟩;have ak:=ZZ ap;have J:=ZZ aM;obtain⟨z1,z2,z3,hz⟩:∃ a n c,v3=Value.slice a n c:=(by obtain⟨a,c,u⟩:=ap.shape;exact⟨a,_,c,u⟩);subst hz;clear ap aM))
   all_goals
    go_wp2_with fail
    go_meet
    exact⟨rfl,⟨_,_,_,rfl⟩,ak,J⟩
  case rest=>
  obtain⟨Y,rfl⟩:∃ W,W=j:=⟨_,rfl⟩;obtain⟨rfl,⟨z1,z2,z3,rfl⟩,ak,J⟩:=hcut;obtain⟨q0,az⟩:=O.o Y J.o
  go_wp2_with fail
  refine(bU.o Y J.o).mono ?_;rintro e W4 ⟨rfl,bt,bj⟩;have bQ:=ZZ bt;have bI:=ZZ bj;clear bj;have b1:Hid (Own W4 w.heap.size (.slice z1 z2 z3) (Zad (ZdF l))):=ZZ (ak.o.below (show Below Y.heap.size Y W4 from bI.o) zL);clear bt q0 az
  go_wp2_with fail
  refine(bJ.o W4 bQ.o).mono ?_;rintro e W5 ⟨v5,rfl,a6,a8,bk⟩;have b5:=ZZ a8;have bR:=ZZ bk;clear bk;have bV:=ZZ a6;have bD:Hid (Rd W5 (.slice z1 z2 z3) (Zad (ZdF l))):=ZZ (b1.o.rd.below (show Below W4.heap.size W4 W5 from bR.o) zL);have bZ:Hid (w.heap.size<=W5.heap.size):=ZZ a8.size
  obtain⟨y1,y2,y3,hy⟩:∃ a n c,v5=Value.slice a n c:=by
   obtain⟨a,c,u⟩:=a6.shape;exact⟨a,_,c,u⟩
  subst hy;clear a6 a8
  go_wp2_with(at_builtin;refine ZaE _ rfl _ _ rfl w.heap.size _ _ rfl bV.o _ (Zad (ZdF l)) rfl bD.o bT.o bZ.o ?_)
  intro v6 W6 aU bx;rw[<-aT.o] at aU;have bO:=ZZ aU;have bC:Hid (Below w.heap.size w W6):=ZZ (b5.o.trans bx)
  obtain⟨x1,x2,x3,bY⟩:∃ a n c,v6=Value.slice a n c:=by
   obtain⟨a,c,u⟩:=aU.shape;exact⟨a,_,c,u⟩
  subst bY;obtain⟨q0,az⟩:=O.o W6 bC.o;clear aU bx
  go_wp2_with fail
  refine(a3.o _ W6 bO.o bC.o).mono ?_;rintro e y ⟨rfl,al,aN⟩;have aj:=ZZ al;have ax:=ZZ aN;obtain⟨⟨-,-,aa,ad⟩,V⟩:=al.cells;clear al aN q0 az;by_cases i:c=0
  case neg=>
   have bW:(c != 0)=true:=by rw[bne_iff_ne];exact i
   have HE:=ZZ (bf.o y aj.o ax.o i);clear i V aa ad;go_wp2;go_ret;exact HE.o
  have bS:=ZZ i;subst i;rw[<-bq.o] at aa;have bG:=ZZ (aj.o.next G.o.num);rw[<-aQ.o] at bG
  have b0:Hid (∀ W,Below y.heap.size y W->Calls prog 53 #[.pointer (some ⟨p,1,none⟩),.int .i64 g,.int .i64 nx] W fun e w'=>e=.returned (.tuple #[])∧SD K w' pd p { s with log:=s.log.start g s.next } D (N+2) (T+30000)∧Zap (fun k=>¬ K k) w w'):=ZZ (fun W f=>by
   have z:=(aj.o.below f).begin (fun k hk=>Nat.lt_of_lt_of_le ((H.o y ax.o).2 k hk) f.size) g nx (by have:=aC.o.1;omega)
   rw[aQ.o] at z ⊢;refine z.mono ?_;rintro e w' ⟨he,h2,h3⟩
   exact⟨he,h2,(ax.o.trans (Zap.ofBelow (F:=fun _=>False) f) (fun _ _ h=>h.elim)).trans h3 (fun _ _ h=>h)⟩)
  have b6:Hid (Below y.heap.size y y.drew):=ZZ (Below.refl _ _).drew
  have b3:Hid (∀ W,Below y.heap.size y W->Calls prog 14 #[ptr p] W fun e w'=>e=.returned (.int .i64 nx)∧Below y.heap.size y w'):=ZZ (fun W f=>by
   rw[aQ.o];refine((aj.o.below f).next G.o.num).mono ?_;rintro e w' ⟨rfl,z⟩
   exact⟨rfl,f.trans (z.mono f.size)⟩)
  go_upto_region 12 with fail
  go_cut[] (fun j=>Hid (SD K j pd p { s with log:=s.log.start g s.next } D (N+2) (T+30000)∧Zap (fun k=>¬ K k) w j))
  case first=>
   go_region_with
    (first
     | (go_at_call 14;refine(b3.o _ (by first | exact b6.o | exact Below.refl _ _)).mono ?_;rintro e W8 ⟨rfl,bl⟩;have bP:=ZZ bl;clear bl)
     | (go_at_call 53;refine(b0.o W8 bP.o).mono ?_;rintro e W9 ⟨rfl,bv,bp⟩;have ah:=ZZ (And.intro bv bp);clear bv bp))
   all_goals
    go_wp2_with fail
    go_meet
    exact ah
  case rest=>
  obtain⟨W9,rfl⟩:∃ W,W=j:=⟨_,rfl⟩;have ah:=hcut;clear hcut V aa ad;obtain⟨⟨-,-,aa,ad⟩,V⟩:=ah.o.1.cells;have bM:=V 12;have bF:=V 13;have bc:=ZZ (((ah.o.1.setHead (s':={ s with log:=s.log.start g s.next,cur:=g }) (H.o W9 ah.o.2).2 12 (.int .i64 g) rfl rfl rfl (fun _=>rfl))))
  have a1:=ZZ (bc.o.1.setHead (s':={ s with log:=s.log.start g s.next,cur:=g,nw:=true }) (fun k hk=>by have:=(H.o W9 ah.o.2).2 k hk;simpa using this) 13 (.bool true) rfl rfl rfl (fun _=>rfl))
  obtain⟨Z,a0⟩:∃ Z,Z=(W9.setCell ⟨p,12,none⟩ (.int .i64 g)).setCell ⟨p,13,none⟩ (.bool true):=⟨_,rfl⟩;have S:Hid (SD K Z pd p { s with log:=s.log.start g s.next,cur:=g,nw:=true } D (N+2) (T+30000)∧Zap (fun k=>¬ K k) w Z):=ZZ (by rw[a0];exact⟨a1.o.1,(ah.o.2.trans bc.o.2 (fun _ _ h=>h)).trans a1.o.2 (fun _ _ h=>h)⟩)
  have bA:({ s with log:=s.log.start g s.next }:Sto).cur=B:=bq.o.symm
  rw[bA] at aa;have bn:({ s with log:=s.log.start g s.next }:Sto).nw=s.nw:=rfl
  rw[bn] at ad;clear bA bn V
  go_upto_region 14 with fail
  rw[<-a0];clear a0 aa ad bM bF ah bc a1
  have aI:=ZZ (S.o.1.add (H.o Z S.o.2).2 _ l (H.o Z S.o.2).1 (by simp[Lgb.start]) (by have:=aC.o.1;simp[Lgb.start];omega) (by have:=aC.o.2;have:=aX.o.2;show s.log.recs.length+l.length<=_;omega) (fun q hq=>by
   have a5:=G.o.log.start g s.next (by have:=G.o.log.f0;have:=ZfV G.o.log.ch;show 0<=s.log.next;omega) G.o.log.top (.inr rfl)
   have:=Zfb a5.ch q hq;have:=a5.f0;have:=a5.top
   omega))
  go_wp2_with fail
  refine aI.o.mono ?_;rintro e X ⟨rfl,aO,aH⟩;have bd:Hid (SD K X pd p { s with log:=(s.log.start g s.next).add l,cur:=g,nw:=true } D (N+2) (T+30000)):=ZZ aO
  have an:Hid (Zap (fun k=>¬ K k) w X):=ZZ (S.o.2.trans aH (fun _ _ h=>h))
  clear aO aH aI;obtain⟨la,ln,lc,ta,tn,tc,⟨c5,c6,c7,c8,c9,bg⟩,ay⟩:=bd.o.takes (H.o X an.o).2 G.o.now _ l (H.o X an.o).1 (by have:=aX.o.2;omega)
  have ao:=ZZ ay;clear ay
  dsimp only at c5 c6 c8 c9 ao
  go_wp2_with fail
  refine ao.o.mono ?_;rintro e WC ⟨xa,xn,xc,ua,un,uc,rfl,⟨e5,e6,e7,e8,e9,bK⟩,fz,aB,aK⟩;have a7:=ZZ (bb.o _ aB (an.o.trans aK (fun _ _ h=>h)) (by first | rfl | trivial))
  have f5:=fz 5;have f6:=fz 6;have f7:=fz 7;have f8:=fz 8;have f9:=fz 9;have b2:=fz 10;clear aB aK fz c5 c6 c7 c8 c9 bg ao;generalize ZaQ s.now l=tk at *;go_wp2;go_ret;exact a7.o
 ·have aS:(s.cur == 0)=false:=beq_eq_false_iff_ne.2 A
  have ar:Hid (g=s.cur):=ZZ (by rw[av];unfold ZfL;rw[if_neg A])
  have aT:Hid (BA=Zad (ZdF l)):=ZZ (by rw[ac];unfold Zew;rw[if_neg A])
  rw[<-aT.o] at bi;rw[<-ar.o] at O
  have bb:Hid (∀ W,SD K W pd p { s with log:=s.log.add l,now:=(ZaQ s.now l).1 } D (N+2) (T+30000)->Zap (fun k=>¬ K k) w W->c=0->Zff K w pd p R (N+2) (T+30000) (.returned (.int .i64 0)) W):=ZZ (fun W Q m i=>by
   rw[au.o,if_pos i];refine⟨rfl,?_,m⟩;have e1:Zcf s g l={ s with log:=s.log.add l,now:=(ZaQ s.now l).1 }:=by unfold Zcf;rw[if_neg A,if_neg A,ar.o]
   rw[e1]
   exact Q)
  rw[<-ar.o] at aS
  have bf:Hid (∀ W,SD K W pd p s D (N+2) (T+30000)->Zap (fun k=>¬ K k) w W->c≠0->Zff K w pd p R (N+2) (T+30000) (.returned (.int .i64 c)) W):=ZZ (fun W Q m i=>by
   rw[au.o,if_neg i]
   exact⟨rfl,Q,m⟩)
  have bo:Hid (s.cur≠0->s.log.pcs.length≠0):=ZZ E.cur;have br:=ZZ A;obtain⟨nx,ai⟩:∃ nx,nx=s.next:=⟨_,rfl⟩;obtain⟨U,aD⟩:∃ U,U=(l.headD Zaj).idx:=⟨_,rfl⟩;rw[<-ai] at aE ag;rw[<-aD] at ae ag;have aQ:=ZZ ai;obtain⟨B,am⟩:∃ B,B=g:=⟨_,rfl⟩;have b4:Hid (s.cur=B):=ZZ (by rw[am,ar.o])
  rw[<-am] at O aS a3;clear am;clear h hK E aA aq t hcell aL bh P ai aD hD ac av A aJ au aW bw a2 aV ba aY a9 be bB bz aP a4 aR
  go_enter func22,ntmps22
  go_wp2_with fail
  refine aw.o.mono ?_;rintro e W1 ⟨rfl,x⟩;have aZ:=ZZ x;have af:=ZZ (aF.o W1 x);clear x
  go_upto_region 3 with fail
  go_cut[12] (fun v j=>v=.bool false∧Hid (Below w.heap.size w j))
  case first=>
   go_region_held(fun W=>W.cell? ⟨b,off,none⟩=some (.int .i64 U))
    (first | (with_reducible exact ae.o _ af.o) | (with_reducible exact ae.o _ C.o))
    (first | (go_at_call 14;refine(aE.o _ af.o).mono ?_;rintro e W2 ⟨rfl,ab⟩;have C:=ZZ ab;clear ab))
   all_goals
    go_wp2_with fail
    go_meet
    exact⟨by first | rfl | (rw[ag]),C⟩
  case rest=>
  obtain⟨W2,rfl⟩:∃ W,W=j:=⟨_,rfl⟩;obtain⟨rfl,C⟩:=hcut;have aG:=ZZ (aF.o W2 C.o)
  go_upto_region 5 with fail
  go_cut[5,6] (fun v5 v6 j=>v5=.int .i64 B∧(∃ a n c,v6=.slice a n c)∧Hid (Own j w.heap.size v6 BA)∧Hid (Below w.heap.size w j))
  case first=>
   go_region_held(fun W=>W.cell? ⟨p,12,none⟩=some (.int .i64 B))
    (first | (with_reducible exact(O.o _ aG.o).2) | (with_reducible exact(O.o _ J.o).2))
    (first | (go_at_call 49;refine(bi.o _ aG.o).mono ?_;rintro e Y ⟨v3,rfl,ap,aM⟩;have ak:=ZZ ap;have J:=ZZ aM;obtain⟨z1,z2,z3,hz⟩:∃ a n c,v3=Value.slice a n c:=(by obtain⟨a,c,u⟩:=ap.shape;exact⟨a,_,c,u⟩);subst hz;clear ap aM))
   all_goals
    go_wp2_with fail
    go_meet
    exact⟨rfl,⟨_,_,_,rfl⟩,ak,J⟩
  case rest=>
  obtain⟨Y,rfl⟩:∃ W,W=j:=⟨_,rfl⟩;obtain⟨rfl,⟨z1,z2,z3,rfl⟩,ak,J⟩:=hcut;obtain⟨q0,az⟩:=O.o Y J.o
  go_wp2_with fail
  refine(a3.o _ Y ak.o J.o).mono ?_;rintro e y ⟨rfl,al,aN⟩;have aj:=ZZ al;have ax:=ZZ aN;obtain⟨⟨-,-,aa,ad⟩,V⟩:=al.cells;clear al aN q0 az;by_cases i:c=0
  case neg=>
   have bW:(c != 0)=true:=by rw[bne_iff_ne];exact i
   have HE:=ZZ (bf.o y aj.o ax.o i);clear i V aa ad;go_wp2;go_ret;exact HE.o
  have bS:=ZZ i;subst i;obtain⟨Z,rfl⟩:∃ W,W=y:=⟨_,rfl⟩;have S:=ZZ (And.intro aj.o ax.o)
  have aI:=ZZ (S.o.1.add (H.o Z S.o.2).2 _ l (H.o Z S.o.2).1 (bo.o br.o) (by have:=aC.o.1;omega) (by have:=aC.o.2;have:=aX.o.2;omega) (fun q hq=>by
   have:=Zfb G.o.log.ch q hq;have:=G.o.log.f0;have:=G.o.log.top
   omega))
  clear V ad;have bu:s.cur=B:=b4.o;rw[bu] at aa;clear bu
  go_wp2_with fail
  refine aI.o.mono ?_;rintro e X ⟨rfl,aO,aH⟩;have bd:Hid (SD K X pd p { s with log:=s.log.add l } D (N+2) (T+30000)):=ZZ aO
  have an:Hid (Zap (fun k=>¬ K k) w X):=ZZ (S.o.2.trans aH (fun _ _ h=>h))
  clear aO aH aI;obtain⟨la,ln,lc,ta,tn,tc,⟨c5,c6,c7,c8,c9,bg⟩,ay⟩:=bd.o.takes (H.o X an.o).2 G.o.now _ l (H.o X an.o).1 (by have:=aX.o.2;omega)
  have ao:=ZZ ay;clear ay
  dsimp only at c5 c6 c8 c9 ao
  go_wp2_with fail
  refine ao.o.mono ?_;rintro e WC ⟨xa,xn,xc,ua,un,uc,rfl,⟨e5,e6,e7,e8,e9,bK⟩,fz,aB,aK⟩;have a7:=ZZ (bb.o _ aB (an.o.trans aK (fun _ _ h=>h)) (by first | rfl | trivial))
  have f5:=fz 5;have f6:=fz 6;have f7:=fz 7;have f8:=fz 8;have f9:=fz 9;have b2:=fz 10;clear aB aK fz c5 c6 c7 c8 c9 bg ao;generalize ZaQ s.now l=tk at *;go_wp2;go_ret;exact a7.o
def Bb (w:World) (b:Nat) (v:Value):Prop:=w.heap[b]?=some (.cells #[v] 53 (0,0))
theorem Bb.lt {w:World} {b:Nat} {v:Value} (h:Bb w b v):b<w.heap.size:=(Array.getElem?_eq_some_iff.1 h).1
theorem Bb.cell {w:World} {b:Nat} {v:Value} (h:Bb w b v):w.cell? ⟨b,0,none⟩=some v∧w.frozen? ⟨b,0,none⟩=false:=
 ⟨(cell_of_row w b 0 _ _ _ h).trans rfl,frozen_of_row w b 0 _ _ h⟩
theorem Bb.set {w:World} {b:Nat} {v:Value} (h:Bb w b v) (x:Value):Bb (w.setCell ⟨b,0,none⟩ x) b x:=by
 have:=heap_setCell_same w b 0 _ _ x h;unfold Bb;simpa using this
theorem Rd.setBox {w:World} {v x:Value} {m:List UInt8} (h:Rd w v m) {b:Nat} {ao:Option Addr} {n cap:Nat} (d:w.cell? ⟨b,0,none⟩=some (.slice ao n cap)):Rd (w.setCell ⟨b,0,none⟩ x) v m:=by
 obtain⟨t,p,g,q,i,l,a⟩:=h;refine⟨t,p,g,q,i,l,?_⟩;rcases a with a | ⟨c,off,h5,h6⟩
 ·exact .inl a
 ·refine .inr ⟨c,off,h5,fun j k=>?_⟩
  have f:=h6 j k
  rw[World.cell?_setCell_other w ⟨b,0,none⟩ ⟨c,off+j,none⟩ x (fun e=>by
   rw[e,f] at d
   cases d)]
  exact f
def behind (d:Nat) (m:List UInt8):List UInt8:=if d=0 then[] else m.drop d
theorem ZlC (ao:Option Addr) (n cap:Nat) (w:World):
 Calls prog 200 #[.slice ao n cap] w fun e w'=>e=.returned (.tuple #[.func (.func 218) #[] #[.pointer (some ⟨w.heap.size,0,none⟩)],.func (.func 219) #[] #[.pointer (some ⟨w.heap.size,0,none⟩)]])∧w'=w.alloc (.cells #[.slice ao n cap] 53):=by
 have a:∀ (fn:Fn) (first cap:Array Value) (w:World),(Instr.makeFunc fn first cap).run prog w=.ok (.func fn first cap) w:=fun _ _ _ _=>rfl
 go_enter func200,ntmps200
 go_wp2;go_ret2;exact⟨rfl,rfl⟩
theorem ZtC (b:Nat) (ao:Option Addr) (n cap:Nat) (w:World) (a:w.cell? ⟨b,0,none⟩=some (.slice ao n cap)):
 Calls prog 219 #[.pointer (some ⟨b,0,none⟩)] w fun e w'=>e=.returned (.int .i64 (n:Int))∧w'=w:=by
 go_enter func219,ntmps219
 go_wp2;go_ret;exact⟨rfl,rfl⟩
theorem ZtD (x:Int) (d:Nat) (b:Nat) (v:Value) (m:List UInt8) (w:World) (c:Bb w b v) (k:Rd w v m) (E:d<=m.length) (f:d=0->x=0)
 (g:Calls prog 168 #[v] w fun e w'=>e=.returned (.tuple #[.int .i64 x,.int .i64 (d:Nat)])∧w'=w):
 Calls prog 218 #[.func (.func 168) #[] #[],.pointer (some ⟨b,0,none⟩)] w fun e w'=>∃ v',e=.returned (.tuple #[.int .i64 x,.bool (decide (d≠0))])∧Bb w' b v'∧Rd w' v' (behind d m)∧But b b w w':=by
 have l:=ZZ g;have h:=ZZ c;have q:=ZZ k;obtain⟨ao,cap,rfl,-⟩:=k;obtain⟨p,z⟩:=c.cell;by_cases a:d=0
 ·subst a
  obtain rfl:=f rfl;clear g c f
  go_enter func218,ntmps218
  go_wp2_with fail
  refine l.o.mono ?_;rintro e w' ⟨rfl,rfl⟩;go_wp2;go_ret2;exact⟨_,rfl,h.o.set _,Rd.nil _,(But.refl _ _ _).set _ _ (.inl rfl) _⟩
 ·have B:((d:Int) == 0)=false:=beq_eq_false_iff_ne.2 (by omega)
  have j:=ZZ (ZkP w _ m q.o .i64 (d:Int) (by omega) (by omega))
  have t:Hid (behind d m=m.drop d):=if_neg a;have n:Hid (decide (d≠0)=true):=decide_eq_true a;rw[Int.toNat_natCast] at j;clear g c f a
  go_enter func218,ntmps218
  go_wp2_with fail
  refine l.o.mono ?_;rintro e w' ⟨rfl,rfl⟩
  go_wp2_with(refine ZiE _ rfl _ _ _ _ rfl _ j.o ?_)
  intro C i;have u:=ZZ i;obtain⟨A,y,rfl,-⟩:=i;generalize D:m.drop d=M at *;go_wp2;go_ret2;refine⟨_,by rw[n.o];rfl,h.o.set _,?_,(But.refl _ _ _).set _ _ (.inl rfl) _⟩
  rw[t.o];exact u.o.setBox p
theorem ZlD (x:Int) (d:Nat) (b:Nat) (v:Value) (m:List UInt8) (w:World) (c:Bb w b v) (k:Rd w v m) (E:d<=m.length) (f:d=0->x=0)
 (g:Calls prog 201 #[v] w fun e w'=>e=.returned (.tuple #[.int .i64 x,.int .i64 (d:Nat)])∧w'=w):
 Calls prog 218 #[.func (.func 201) #[] #[],.pointer (some ⟨b,0,none⟩)] w fun e w'=>∃ v',e=.returned (.tuple #[.int .i64 x,.bool (decide (d≠0))])∧Bb w' b v'∧Rd w' v' (behind d m)∧But b b w w':=by
 have l:=ZZ g;have h:=ZZ c;have q:=ZZ k;obtain⟨ao,cap,rfl,-⟩:=k;obtain⟨p,z⟩:=c.cell;by_cases a:d=0
 ·subst a
  obtain rfl:=f rfl;clear g c f
  go_enter func218,ntmps218
  go_wp2_with fail
  refine l.o.mono ?_;rintro e w' ⟨rfl,rfl⟩;go_wp2;go_ret2;exact⟨_,rfl,h.o.set _,Rd.nil _,(But.refl _ _ _).set _ _ (.inl rfl) _⟩
 ·have B:((d:Int) == 0)=false:=beq_eq_false_iff_ne.2 (by omega)
  have j:=ZZ (ZkP w _ m q.o .i64 (d:Int) (by omega) (by omega))
  have t:Hid (behind d m=m.drop d):=if_neg a;have n:Hid (decide (d≠0)=true):=decide_eq_true a;rw[Int.toNat_natCast] at j;clear g c f a
  go_enter func218,ntmps218
  go_wp2_with fail
  refine l.o.mono ?_;rintro e w' ⟨rfl,rfl⟩
  go_wp2_with(refine ZiE _ rfl _ _ _ _ rfl _ j.o ?_)
  intro C i;have u:=ZZ i;obtain⟨A,y,rfl,-⟩:=i;generalize D:m.drop d=M at *;go_wp2;go_ret2;refine⟨_,by rw[n.o];rfl,h.o.set _,?_,(But.refl _ _ _).set _ _ (.inl rfl) _⟩
  rw[t.o];exact u.o.setBox p
def Zgg (X W:World):Prop:=W.heap=X.heap∧W.os=X.os∧W.tape=X.tape∧W.output=X.output
theorem Zgg.refl (X:World):Zgg X X:=⟨rfl,rfl,rfl,rfl⟩
theorem Zgg.drew {X W:World} (h:Zgg X W):Zgg X W.drew:=h
theorem Zgg.set {X W:World} (h:Zgg X W) (a:Addr) (v:Value):Zgg (X.setCell a v) (W.setCell a v):=by
 obtain⟨d,b,c,e⟩:=h;refine⟨?_,b,c,e⟩;simp only [World.setCell,d]
theorem Zgg.below {X W:World} (h:Zgg X W) (B:Nat):Below B X W:=⟨h.2.1,h.2.2.1,h.2.2.2,by rw[h.1];exact Nat.le_refl _,fun k _=>by rw[h.1]⟩
theorem Zgg.cell {X W:World} (h:Zgg X W) (a:Addr):W.cell? a=X.cell? a:=by simp only [World.cell?,h.1]
theorem Zgg.froz {X W:World} (h:Zgg X W) (a:Addr):W.frozen? a=X.frozen? a:=by simp only [World.frozen?,h.1]
def ZmB (w:World) (p:Nat × Nat):Prop:=(∃ x:Int,w.cell? ⟨p.1,p.2,none⟩=some (.int .i64 x))∧w.frozen? ⟨p.1,p.2,none⟩=false
theorem ZmB.set {w:World} {p:Nat × Nat} (h:ZmB w p) (a:Nat × Nat) (n:Int):ZmB (w.setCell ⟨a.1,a.2,none⟩ (.int .i64 n)) p:=by
 obtain⟨⟨x,b⟩,c⟩:=h;refine⟨?_,by rw[World.frozen?_setCell];exact c⟩
 by_cases e:(⟨a.1,a.2,none⟩:Addr)=⟨p.1,p.2,none⟩
 ·rw[e]
  exact⟨n,World.cell?_setCell_same _ _ _ b⟩
 ·exact⟨x,by rw[World.cell?_setCell_other _ _ _ _ (fun h=>e h)];exact b⟩
theorem Rd.setNum {w:World} {v:Value} {m:List UInt8} (h:Rd w v m) {p:Nat × Nat} (q:ZmB w p) (x:Value):Rd (w.setCell ⟨p.1,p.2,none⟩ x) v m:=by
 obtain⟨t,l,f,n,g,k,a⟩:=h;refine⟨t,l,f,n,g,k,?_⟩;rcases a with a | ⟨c,off,h5,h6⟩
 ·exact .inl a
 ·refine .inr ⟨c,off,h5,fun j i=>?_⟩
  have d:=h6 j i
  rw[World.cell?_setCell_other w ⟨p.1,p.2,none⟩ ⟨c,off+j,none⟩ x (fun e=>by
   obtain⟨⟨y,b⟩,-⟩:=q;rw[e,d] at b
   cases b)]
  exact d
def Zca (w:World):List (Nat × Nat)->List Nat->World
 | p::ps,n::ns=>Zca (w.setCell ⟨p.1,p.2,none⟩ (.int .i64 (n:Int))) ps ns
 | _,_=>w
theorem Znr:∀ (w:World) (ps:List (Nat × Nat)) (ns:List Nat) (p:Nat × Nat) (n:Nat),ps.length=ns.length->Zca w (ps++[p]) (ns++[n])=(Zca w ps ns).setCell ⟨p.1,p.2,none⟩ (.int .i64 (n:Int))
 | w,[],[],p,n,_=>rfl
 | w,q::ps,m::ns,p,n,h=>by
  rw[List.cons_append,List.cons_append,Zca,Znr _ ps ns p n (by simpa using h),Zca]
theorem Zqt:∀ (w:World) (ps:List (Nat × Nat)) (ns:List Nat) {p:Nat × Nat},ZmB w p->ZmB (Zca w ps ns) p
 | w,[],_,p,h=>by cases ‹List Nat› <;> exact h
 | w,q::ps,[],p,h=>h
 | w,q::ps,m::ns,p,h=>by
  rw[Zca];exact Zqt _ ps ns (h.set q m)
theorem Zek:∀ (w:World) (ps:List (Nat × Nat)) (ns:List Nat) (k:Nat),(∀ p ∈ ps,p.1≠k)->(Zca w ps ns).heap[k]?=w.heap[k]?
 | w,[],ns,k,_=>by cases ns <;> rfl
 | w,q::ps,[],k,_=>rfl
 | w,q::ps,m::ns,k,h=>by
  rw[Zca,Zek _ ps ns k (fun p a=>h p (by simp[a]))]
  exact Below.heap_setCell _ _ _ _ (fun e=>h q (by simp) e.symm)
theorem Zel:∀ (w:World) (ps:List (Nat × Nat)) (ns:List Nat) (B:Nat) (a:World),(∀ p ∈ ps,B<=p.1)->Below B a w->Below B a (Zca w ps ns)
 | w,[],ns,B,a,_,h=>by cases ns <;> exact h
 | w,q::ps,[],B,a,_,h=>h
 | w,q::ps,m::ns,B,a,hp,h=>by
  rw[Zca];exact Zel _ ps ns B a (fun p h=>hp p (by simp[h])) (h.setCell (hp q (by simp)) _)
def ZCv (w:World) (v:Value) (b:List UInt8) (ps:List (Nat × Nat)) (r:Option (List Nat × List UInt8)) (e:Ending) (w':World):Prop:=
 ∃ (v':Value) (l:List UInt8) (ns:List Nat),e=.returned (.tuple #[v',.bool r.isSome])∧(∀ W,Rd W v b->Rd W v' l)∧(r=none->l=[])∧(∀ x,r=some x->x=(ns,l))∧(∀ n ∈ ns,n<4611686018427387904)∧ns.length<=ps.length∧Zgg (Zca w (ps.take ns.length) ns) w'
theorem ZtE:∀ (w:World) (ps:List (Nat × Nat)) (ns:List Nat) {v:Value} {m:List UInt8},(∀ p ∈ ps,ZmB w p)->Rd w v m->Rd (Zca w ps ns) v m
 | w,[],ns,v,m,_,h=>by cases ns <;> exact h
 | w,q::ps,[],v,m,_,h=>h
 | w,q::ps,k::ns,v,m,hp,h=>by
  rw[Zca];exact ZtE _ ps ns (fun p a=>(hp p (by simp[a])).set q k) (h.setNum (hp q (by simp)) _)
theorem ZjY (ao:Option Addr) (l:List UInt8) (cap:Nat) (f:l.length<=cap) (d:Nat) (g:d<=l.length):
 ∃ b a,(∀ W,(Instr.sliceAt 53 (.slice ao l.length cap) (some (.int .i64 (d:Int))) none none).run prog W=.ok (.slice b (l.drop d).length a) W)∧∀ W,Rd W (.slice ao l.length cap) l->Rd W (.slice b (l.drop d).length a) (l.drop d):=by
 have c:∃ b a,sliced ao d l.length cap 1=.slice b (l.length-d) a:=by
  unfold sliced;exact⟨_,_,rfl⟩
 obtain⟨b,a,c⟩:=c;refine⟨b,a,fun W=>?_,fun W h=>?_⟩
 ·rw[run_sliceAt_slice W 53 _ _ _ _ ZaF,run_slice_l W 53 ao l.length cap ZaF .i64 (d:Int) (by omega) (by omega),ZbU,Zfs,length_drop,<-c]
  rfl
 ·rw[length_drop,<-c]
  have e:=h.mid d l.length cap g zL f zL;rw[List.take_of_length_le (by simp)] at e
  exact e
theorem Zvo {n:Nat} {b:List UInt8} (h:(Zab b).2≠0):Zcu (n+1) b=(Zcu n (b.drop (Zab b).2)).map (fun r=>((Zab b).1::r.1,r.2)):=by rw[Zcu,if_neg h]
theorem Zvp {n:Nat} {b:List UInt8} (h:(Zab b).2=0):Zcu (n+1) b=none:=by rw[Zcu,if_pos h]
theorem Zdo (N:Nat) (ps:List (Nat × Nat)) (v:Value) (b:List UInt8) (w:World) (L:Rd w v b) (B:∀ p ∈ ps,ZmB w p∧p.1≠N) (an:ps.length<=100)
 (hN:w.heap[N]?=some (.cells (ps.map (fun p=>Value.pointer (some ⟨p.1,p.2,none⟩))).toArray 208 (0,0))) (k:Nat) (hk:k=ps.length):
 Calls prog 160 #[v,.slice (some ⟨N,0,none⟩) k k] w fun e w'=>ZCv w v b ps (Zcu ps.length b) e w':=by
 subst hk;have Q:=ZZ B
 have S:Hid (∀ q,q<ps.length->w.cell? ⟨N,q,none⟩=some (.pointer (some ⟨(ps.getD q (0,0)).1,(ps.getD q (0,0)).2,none⟩))):=ZZ (fun q P=>by
  rw[cell_of_row w N q _ _ _ hN]
  simp[List.getD,P])
 have U:Hid (∀ ns,(Zca w (ps.take (List.length ns)) ns).heap[N]?=w.heap[N]?):=ZZ (fun ns=>Zek w _ ns N (fun p J=>(B p (mem_of_mem_take J)).2))
 have Y:=ZZ (fun v1 l W h=>ZfY v1 l W h)
 have HR:Hid (∀ ns,Rd (Zca w (ps.take (List.length ns)) ns) v b):=ZZ (fun ns=>ZtE w _ ns (fun p J=>(B p (mem_of_mem_take J)).1) L)
 obtain⟨va,R,hv⟩:∃ a c,v=.slice a b.length c:=by obtain⟨a,c,h,-⟩:=L;exact⟨a,c,h⟩
 subst hv;obtain⟨g,f⟩:∃ g,g=Zcu ps.length b:=⟨_,rfl⟩;rw[<-f]
 have aa:Hid (g=(Zcu (ps.length-0) b).map (fun r=>([]++r.1,r.2))):=ZZ (by
  rw[f,Nat.sub_zero]
  cases Zcu ps.length b <;> rfl)
 clear f B L hN;have aj:(ps.length:Int)<=100:=by omega
 go_enter func160,ntmps160
 go_wp2
 go_loopw[0,12] (fun vb G j=>∃ (q:Nat) (ns:List Nat) (b':List UInt8) (a:Option Addr) (c:Nat),G=.int .i64 (q:Int)∧vb=.slice a b'.length c∧q<=ps.length∧ns.length=q∧Hid (∀ W,Rd W (.slice va b.length R) b->Rd W (.slice a b'.length c) b')∧Hid (Zgg (Zca w (ps.take ns.length) ns) j)∧Hid (∀ n ∈ ns,n<4611686018427387904)∧Hid (g=(Zcu (ps.length-q) b').map (fun r=>(ns++r.1,r.2)))) (fun _ G _=>ps.length-(intOf G).toNat)
 case atStart=>exact⟨0,[],b,va,R,rfl,rfl,Nat.zero_le _,rfl,ZZ (fun W h=>h),ZZ (by rw[List.length_nil,List.take_zero];exact Zgg.refl w),ZZ (fun n h=>by simp at h),aa⟩
 case round=>
  clear aa;obtain⟨q,ns,b',a,c,rfl,rfl,P,F,C,i,E,f⟩:=hrel;have M:Hid (Rd j (.slice a b'.length c) b'):=ZZ (C.o j ((HR.o ns).below (i.o.below (Zca w (ps.take ns.length) ns).heap.size) zL));have A:=ZZ F;by_cases z:q<ps.length
  case neg=>
   obtain rfl:q=ps.length:=by omega
   have y:Hid (g=some (ns,b')):=ZZ (by
    rw[f.o,Nat.sub_self]
    simp[Zcu])
   clear F;go_wp2;go_ret2;rw[y.o];exact⟨_,b',ns,rfl,C.o,(fun h=>by cases h),(fun x h=>by injection h with h;exact h.symm),E.o,by rw[A.o];exact Nat.le_refl _,i.o⟩
  have ak:(q:Int)<(ps.length:Int):=by omega
  have ad:ps.length-q=(ps.length-(q+1))+1:=by omega
  have ag:j.cell? ⟨N,q,none⟩=some (.pointer (some ⟨(ps.getD q (0,0)).1,(ps.getD q (0,0)).2,none⟩)):=by
   rw[i.o.cell];exact(World.cell?_of_block (a:=⟨N,q,none⟩) (U.o ns)).trans (S.o q z)
  have V:ps.getD q (0,0) ∈ ps:=by
   rw[show ps.getD q (0,0)=ps[q] by simp[List.getD,z]]
   exact List.getElem_mem z
  have K:ZmB (Zca w (ps.take ns.length) ns) (ps.getD q (0,0)):=Zqt w _ ns (Q.o _ V).1
  have ab:ZmB j (ps.getD q (0,0)):=⟨by
   obtain⟨x,hx⟩:=K.1
   exact⟨x,by rw[i.o.cell];exact hx⟩,by rw[i.o.froz];exact K.2⟩
  have X:Hid (∀ n:Nat,Zca w (ps.take (ns++[n]).length) (ns++[n])=(Zca w (ps.take ns.length) ns).setCell ⟨(ps.getD q (0,0)).1,(ps.getD q (0,0)).2,none⟩ (.int .i64 (n:Int))):=ZZ (fun n=>by
   have e1:ps.take (ns++[n]).length=ps.take ns.length++[ps.getD q (0,0)]:=by
    rw[length_append,List.length_singleton,A.o,List.take_add_one,List.getElem?_eq_getElem z];simp[List.getD,z]
   rw[e1,Znr w _ ns _ n (by rw[List.length_take,A.o];omega)])
  have am:=ZZ ab;obtain⟨⟨x0,ae⟩,ac⟩:=ab;clear V K S U Q F;generalize ps.getD q (0,0)=p at *;obtain⟨pb,po⟩:=p
  dsimp only at ag ae ac X
  have O:=ZZ (Y.o _ b' j M.o);have af:=Zcj b'
  have ah:(Zab b').1<4611686018427387904:=by
   rcases Zay b' with h | h
   ·rw[h];decide
   ·exact h.1
  have I:=ZZ (Zvo (n:=ps.length-(q+1)) (b:=b'));have H:=ZZ (Zvp (n:=ps.length-(q+1)) (b:=b'));rw[<-ad] at I H;have Z:=ZZ (fun d t=>ZjY a b' c (by obtain⟨a',c',h,h2,-⟩:=M.o;simp only [Value.slice.injEq] at h;omega) d t)
  generalize (Zab b').2=d at *;generalize (Zab b').1=n at *;clear Y;by_cases t:d=0
  ·subst t
   have y:Hid (g=none):=ZZ (by rw[f.o,H.o rfl];rfl)
   go_wp2_with fail
   refine O.o.mono ?_;rintro e D ⟨rfl,u⟩;rw[u];clear u D;go_wp2;go_ret2;rw[y.o];exact⟨_,[],ns,rfl,(fun W _=>Rd.nil W),(fun _=>rfl),(fun x h=>by cases h),E.o,by rw[A.o];omega,i.o⟩
  ·have al:((d:Int) == 0)=false:=beq_eq_false_iff_ne.2 (by omega)
   obtain⟨xa,xc,hcut,T⟩:=Z.o d af;have ai:=ZZ T
   have y:Hid (g=(Zcu (ps.length-(q+1)) (b'.drop d)).map (fun r=>((ns++[n])++r.1,r.2))):=ZZ (by
    rw[f.o,I.o t]
    cases Zcu (ps.length-(q+1)) (b'.drop d) with
    | none=>rfl
    | some r=>simp)
   clear T I H f t Z;generalize b'.drop d=b2 at *
   go_wp2_with fail
   refine O.o.mono ?_;rintro e D ⟨rfl,u⟩;rw[u];clear u D;go_wp2
   go_region
   all_goals
    go_wp2;go_roundw
    case rel=>exact⟨q+1,ns++[n],b2,xa,xc,by go_num,rfl,by omega,by rw[length_append,List.length_singleton,A.o],ZZ (fun W h=>ai.o W (C.o W h)),ZZ (by rw[X.o];exact i.o.drew.set _ _),ZZ (fun m hm=>by
     rcases List.mem_append.1 hm with h | h
     ·exact E.o m h
     ·rw[List.mem_singleton.1 h];exact ah),y⟩
    case measure=>simp[intOf];omega
def ZmC (b:List UInt8):Option (Ent × List UInt8):=
 match Zcu 2 b with
 | none=>none
 | some (ns,l)=>if(Zah l).2=0 then none else some (⟨((ns.getD 0 0:Nat):Int),((ns.getD 1 0:Nat):Int),zag (Zah l).1⟩,l.drop (Zah l).2)
theorem ZhZ (b:List UInt8):Zcu 1 b=if(Zab b).2=0 then none else some ([(Zab b).1],b.drop (Zab b).2):=rfl
theorem ZlE (b:List UInt8):Zcu 2 b=if(Zab b).2=0 then none else if(Zab (b.drop (Zab b).2)).2=0 then none else some ([(Zab b).1,(Zab (b.drop (Zab b).2)).1],(b.drop (Zab b).2).drop (Zab (b.drop (Zab b).2)).2):=by
 rw[Zcu];split
 ·rfl
 ·rw[ZhZ]
  split <;> rfl
theorem Zsq (n:Nat) (b:List UInt8):Zeq (n+1) b=(ZmC b).bind (fun y=>(Zeq n y.2).map (fun r=>(y.1::r.1,r.2))):=by
 have h:Zeq (n+1) b=if(Zab b).2=0∨(Zab (b.drop (Zab b).2)).2=0∨(Zah (b.drop ((Zab b).2+(Zab (b.drop (Zab b).2)).2))).2=0 then none
  else(Zeq n (b.drop ((Zab b).2+(Zab (b.drop (Zab b).2)).2+(Zah (b.drop ((Zab b).2+(Zab (b.drop (Zab b).2)).2))).2))).map (fun r=>(⟨(Zab b).1,(Zab (b.drop (Zab b).2)).1,zag (Zah (b.drop ((Zab b).2+(Zab (b.drop (Zab b).2)).2))).1⟩::r.1,r.2)):=rfl
 rw[h];unfold ZmC;rw[ZlE];by_cases d:(Zab b).2=0
 ·rw[if_pos (.inl d),if_pos d]
  rfl
 rw[if_neg d];by_cases a:(Zab (b.drop (Zab b).2)).2=0
 ·rw[if_pos (.inr (.inl a)),if_pos a]
  rfl
 rw[if_neg a];simp only [drop_drop];by_cases c:(Zah (b.drop ((Zab b).2+(Zab (b.drop (Zab b).2)).2))).2=0
 ·rw[if_pos (.inr (.inr c)),if_pos c]
  rfl
 ·rw[if_neg (by omega),if_neg c]
  rfl
def ZCw (w:World) (v:Value) (b:List UInt8) (e:Ending) (w':World):Prop:=
 ∃ (x:Ent) (v':Value) (l:List UInt8),e=.returned (.tuple #[ZuC x,v',.bool (ZmC b).isSome])∧Zod x∧(∀ W,Rd W v b->Rd W v' l)∧(∀ y,ZmC b=some y->y=(x,l))∧Below w.heap.size w w'
theorem Zvq:Zah []=(0,0):=by decide
theorem ZBb {W:World} {R:Nat} (h:Be W R #[.int .i64 0,.int .i64 0,.int .i64 0]) (ns:List Nat) (d:ns.length<=2) (a:∀ n ∈ ns,n<4611686018427387904):
 ∃ x y:Int,Be (Zca W ([(R,0),(R,1)].take ns.length) ns) R #[.int .i64 x,.int .i64 y,.int .i64 0]∧I64 x∧I64 y∧(ns.length=2->x=((ns.getD 0 0:Nat):Int)∧y=((ns.getD 1 0:Nat):Int)):=by
 have b:I64 0:=Zai (by decide) (by decide)
 match ns,d,a with
 | [],_,_=>exact⟨0,0,h,b,b,fun h=>absurd h (by simp)⟩
 | [n],_,a=>
  have:=a n (by simp)
  refine⟨(n:Int),0,?_,⟨by omega,by omega⟩,b,fun h=>absurd h (by simp)⟩
  have c:=heap_setCell_same W R 0 _ _ (.int .i64 (n:Int)) h;exact c
 | [n,m],_,a=>
  have f:=a n (by simp)
  have c:=a m (by simp)
  refine⟨(n:Int),(m:Int),?_,⟨by omega,by omega⟩,⟨by omega,by omega⟩,fun _=>⟨rfl,rfl⟩⟩
  have e:=heap_setCell_same W R 0 _ _ (.int .i64 (n:Int)) h;exact heap_setCell_same _ R 1 _ _ (.int .i64 (m:Int)) e
theorem ZlF (w:World) (x y z:Obj):((((w.alloc x).alloc y).alloc z).heap[w.heap.size]?=some x∧(((w.alloc x).alloc y).alloc z).heap[w.heap.size+1]?=some y∧(((w.alloc x).alloc y).alloc z).heap[w.heap.size+2]?=some z):=by
 refine⟨?_,?_,?_⟩
 ·exact((Below.heap_alloc _ _ _ (by simp;omega)).trans (Below.heap_alloc _ _ _ (by simp))).trans (heap_alloc_new w x)
 ·refine(Below.heap_alloc _ _ _ (by simp)).trans ?_
  have:=heap_alloc_new (w.alloc x) y;simpa using this
 ·have:=heap_alloc_new ((w.alloc x).alloc y) z
  simpa using this
theorem Be.set {w:World} {b:Nat} {cs:Array Value} (h:Be w b cs) (j:Nat) (x:Value):Be (w.setCell ⟨b,j,none⟩ x) b (cs.setIfInBounds j x):=by
 have:=heap_setCell_same w b j _ _ x h;unfold Be;simpa using this
theorem Be.other {w:World} {b c:Nat} {cs:Array Value} (h:Be w b cs) (j:Nat) (x:Value) (a:b≠c):Be (w.setCell ⟨c,j,none⟩ x) b cs:=(Below.heap_setCell _ _ _ _ a).trans h
theorem ZzI {C:Nat} {b w:World} (h:Below C b w) (R:Nat) (a:C<=R) (c d e:Value):Below C b (((w.setCell ⟨R,0,none⟩ c).setCell ⟨R,1,none⟩ d).setCell ⟨R,2,none⟩ e):=
 ((h.setCell a _).setCell a _).setCell a _
theorem Zqu (v:Value) (b:List UInt8) (w:World) (D:Rd w v b):
 Calls prog 202 #[v] w fun e w'=>ZCw w v b e w':=by
 obtain⟨f,A⟩:∃ f,f=((w.alloc (.cells #[.int .i64 0,.int .i64 0,.int .i64 0] 85)).alloc (.cells #[.int .i64 0,.int .i64 0,.int .i64 0] 85)).alloc (.cells #[.pointer (some ⟨w.heap.size+1,0,none⟩),.pointer (some ⟨w.heap.size+1,1,none⟩)] 208):=⟨_,rfl⟩;have V:=ZlF w (.cells #[.int .i64 0,.int .i64 0,.int .i64 0] 85) (.cells #[.int .i64 0,.int .i64 0,.int .i64 0] 85) (.cells #[.pointer (some ⟨w.heap.size+1,0,none⟩),.pointer (some ⟨w.heap.size+1,1,none⟩)] 208);rw[<-A] at V;obtain⟨hA,hB,U⟩:=V;have L:Hid (Below w.heap.size w f):=ZZ (by rw[A];exact(((Below.refl _ _).alloc zL _).alloc (by simp) _).alloc (by simp;omega) _)
 have K:Be f w.heap.size #[.int .i64 0,.int .i64 0,.int .i64 0]:=hA;have j:Be f (w.heap.size+1) #[.int .i64 0,.int .i64 0,.int .i64 0]:=hB;have aA:=ZZ K
 have ao:=ZZ (Zdo (w.heap.size+1+1) [(w.heap.size+1,0),(w.heap.size+1,1)] v b f (D.below L.o zL) (fun p n=>by
  simp only [mem_cons,List.not_mem_nil,or_false] at n;rcases n with rfl | rfl
  ·exact⟨⟨⟨0,(j.cell 0).1⟩,(j.cell 0).2⟩,by simp⟩
  ·exact⟨⟨⟨0,(j.cell 1).1⟩,(j.cell 1).2⟩,by simp⟩) (by simp) U 2 rfl)
 have aa:=ZZ (fun ns=>ZBb j ns)
 have af:Hid (∀ ns,Below w.heap.size w (Zca f ([(w.heap.size+1,0),(w.heap.size+1,1)].take (List.length ns)) ns)):=ZZ (fun ns=>Zel f _ ns _ w (fun p n=>by
  have:=mem_of_mem_take n;simp only [mem_cons,List.not_mem_nil,or_false] at this
  rcases this with rfl | rfl <;> simp) L.o)
 have ab:Hid (∀ ns,Be (Zca f ([(w.heap.size+1,0),(w.heap.size+1,1)].take (List.length ns)) ns) w.heap.size #[.int .i64 0,.int .i64 0,.int .i64 0]):=ZZ (fun ns=>(Zek f _ ns _ (fun p n=>by
  have:=mem_of_mem_take n;simp only [mem_cons,List.not_mem_nil,or_false] at this
  rcases this with rfl | rfl <;> simp)).trans K)
 have HG:=ZZ (fun E l W h=>ZcV E l W h)
 have B:Hid (ZmC b=match Zcu [(w.heap.size+1,0),(w.heap.size+1,1)].length b with | none=>none | some (ns,l)=>if(Zah l).2=0 then none else some (⟨((ns.getD 0 0:Nat):Int),((ns.getD 1 0:Nat):Int),zag (Zah l).1⟩,l.drop (Zah l).2)):=ZZ rfl
 have ai:Hid (∀ ns l,Zcu [(w.heap.size+1,0),(w.heap.size+1,1)].length b=some (ns,l)->ns.length=2):=ZZ (fun ns l h=>by
  have d:Zcu 2 b=some (ns,l):=h;rw[ZlE] at d;split at d
  ·cases d
  split at d
  ·cases d
  injection d with d
  injection d with d _
  rw[<-d]
  rfl)
 unfold ZCw;obtain⟨m,ag⟩:∃ m,m=ZmC b:=⟨_,rfl⟩;rw[<-ag] at B ⊢;obtain⟨ok,O⟩:∃ ok,ok=m.isSome:=⟨_,rfl⟩;rw[<-O];have I:=ZZ O;clear O;generalize Zcu [(w.heap.size+1,0),(w.heap.size+1,1)].length b=GL at *;have aw:=ZZ D;obtain⟨va,vc,hv⟩:∃ a c,v=.slice a b.length c:=by obtain⟨a,c,h,-⟩:=D;exact⟨a,c,h⟩
 subst hv;clear D hA hB U K j ag
 go_enter func202,ntmps202
 go_wp2_with fail
 rw[<-A];refine ao.o.mono ?_;rintro e g ⟨E,l,ns,rfl,J,T,F,Z,Q,C⟩;obtain⟨x,y,aj,am,ae,al⟩:=aa.o ns Q Z;have M:Hid (Be g (w.heap.size+1) #[.int .i64 x,.int .i64 y,.int .i64 0]):=ZZ (aj.below (C.below (Zca f ([(w.heap.size+1,0),(w.heap.size+1,1)].take ns.length) ns).heap.size) zL);have ad:Hid (Be g w.heap.size #[.int .i64 0,.int .i64 0,.int .i64 0]):=ZZ ((ab.o ns).below (C.below (Zca f ([(w.heap.size+1,0),(w.heap.size+1,1)].take ns.length) ns).heap.size) zL);have N:Hid (Below w.heap.size w g):=ZZ ((af.o ns).trans (C.below _));have u:=ZZ (J g (aw.o.below N.o zL));have ar:=ZZ J;obtain⟨a1,R,ax⟩:∃ a c,E=.slice a l.length c:=by obtain⟨a,c,h,-⟩:=u.o;exact⟨a,c,h⟩
 subst ax
 have an:l.length<=R:=by
  obtain⟨a',c',h,d,-⟩:=u.o;simp only [Value.slice.injEq] at h;omega
 have S:=ZZ (HG.o _ l g u.o);have ap:=ZcM l;have ah:I64 (zag (Zah l).1):=Zrd (ZnI l);obtain⟨xa,xc,hcut,ac⟩:=ZjY a1 l R an (Zah l).2 ap;have aq:=ZZ (fun W h=>ac W (ar.o W h))
 have H:Hid (m.isSome=decide (0<(Zah l).2)):=ZZ (by
  rw[B.o]
  cases GL with
  | none=>rw[T rfl,Zvq];rfl
  | some p=>
   have:=F p rfl;subst this
   dsimp only
   by_cases h:(Zah l).2=0
   ·rw[if_pos h,h];rfl
   ·rw[if_neg h,decide_eq_true (by omega)];rfl)
 have au:Hid (∀ z,m=some z->z=(⟨x,y,zag (Zah l).1⟩,l.drop (Zah l).2)):=ZZ (fun z i=>by
  rw[B.o] at i
  cases GL with
  | none=>cases i
  | some p=>
   have:=F p rfl;subst this;obtain⟨h1,d⟩:=al (ai.o ns l rfl)
   dsimp only at i
   split at i
   ·cases i
   ·injection i with i
    rw[<-i,h1,d])
 have az:Hid (Zod ⟨x,y,zag (Zah l).1⟩):=ZZ ⟨am,ae,ah⟩;clear J T F Z Q C aj al B ai af ab aa ao HG ac an L aA A am ae ah;generalize zag (Zah l).1=z at *;generalize (Zah l).2=k at *;generalize l.drop k=l2 at *;have Y:m.isSome=decide ((0:Int)<(k:Int)):=by rw[H.o];exact decide_eq_decide.2 (by omega)
 rw[<-I.o] at Y;have ay:Hid (decide (0<k)=ok):=ZZ (by rw[I.o,H.o])
 clear I Y H
 go_wp2_with fail
 refine S.o.mono ?_;rintro e W2 ⟨rfl,ak⟩;rw[ak];clear ak W2 S;have t:Hid (Be (g.setCell ⟨w.heap.size+1,2,none⟩ (.int .i64 z)) (w.heap.size+1) #[.int .i64 x,.int .i64 y,.int .i64 z]):=ZZ (M.o.set 2 _);have q:Hid (Be (g.setCell ⟨w.heap.size+1,2,none⟩ (.int .i64 z)) w.heap.size #[.int .i64 0,.int .i64 0,.int .i64 0]):=ZZ (ad.o.other 2 _ (by omega))
 obtain⟨e2,f2⟩:=M.o.cell 2;have G:Hid (Below w.heap.size w (g.setCell ⟨w.heap.size+1,2,none⟩ (.int .i64 z))):=ZZ (N.o.setCell (Nat.le_succ _) _)
 go_upto_region 5 with fail
 obtain⟨W3,P⟩:∃ W3,W3=g.setCell ⟨w.heap.size+1,2,none⟩ (.int .i64 z):=⟨_,rfl⟩;rw[<-P] at t q G ⊢;clear P e2 f2 M ad N u;obtain⟨x0,g0⟩:=t.o.cell 0;obtain⟨x1,g1⟩:=t.o.cell 1;obtain⟨x2,g2⟩:=t.o.cell 2;obtain⟨y0,m0⟩:=q.o.cell 0;obtain⟨y1,m1⟩:=q.o.cell 1;obtain⟨y2,m2⟩:=q.o.cell 2;have aB:¬ (w.heap.size=w.heap.size+1):=by omega
 have aC:¬ (w.heap.size+1=w.heap.size):=by omega
 have X:=ZzI G.o.drew w.heap.size zL (.int .i64 x) (.int .i64 y) (.int .i64 z);have av:=ZZ X;clear X G q t
 go_region
 all_goals
  go_wp2;refine bodyPost_ret (v:=.tuple #[.agg #[.int .i64 x,.int .i64 y,.int .i64 z],.slice xa l2.length xc,.bool ok]) (by simp[results,Tryz.results202,go_sem,y0,y1,y2,ay.o]) rfl ?_
  exact⟨⟨x,y,z⟩,_,l2,rfl,az.o,aq.o,au.o,av.o⟩
def ZBc (w:World) (TL:Option (List Ent)) (e:Ending) (w':World):Prop:=
 ∃ vt t,e=.returned (.tuple #[vt,.bool TL.isSome])∧Zbt w' w.heap.size vt t∧(∀ e ∈ t,Zod e)∧(∀ t',TL=some t'->t=t')∧Below w.heap.size w w'
def ZBS (v6 v7:Value):Nat:=
 match v7 with
 | .bool true=>(match v6 with
  | .slice _ n _=>n+1
  | _=>0)
 | _=>0
theorem Zvr {b:List UInt8} {y:Ent × List UInt8} (h:ZmC b=some y):y.2.length+1<=b.length:=by
 unfold ZmC at h;rw[ZlE] at h;split at h
 ·cases h
 ·rename_i ns l a
  split at a
  ·cases a
  ·rename_i d
   split at a
   ·cases a
   ·injection a with a
    injection a with _ hl
    split at h
    ·cases h
    ·rename_i c
     injection h with h
     rw[<-h];have f:=ZcM l;show(l.drop _).length+1<=_;rw[length_drop]
     have e:l.length<=b.length:=by
      rw[<-hl,length_drop,length_drop];omega
     omega
theorem ZzJ (w:World) (x y:Obj):((w.alloc x).alloc y).heap[w.heap.size]?=some x∧((w.alloc x).alloc y).heap[w.heap.size+1]?=some y:=by
 refine⟨(Below.heap_alloc _ _ _ (by simp)).trans (heap_alloc_new w x),?_⟩
 have:=heap_alloc_new (w.alloc x) y;simpa using this
theorem ZlG {b:List UInt8} {ns:List Nat} {l:List UInt8} (h:Zcu 1 b=some (ns,l)):(Zab b).2≠0∧ns=[(Zab b).1]∧l=b.drop (Zab b).2:=by
 rw[ZhZ] at h;split at h
 ·cases h
 ·rename_i a
  injection h with h
  injection h with h2 h3
  exact⟨a,h2.symm,h3.symm⟩
theorem ZlH {b:List UInt8} (h:Zcu 1 b=none):(Zab b).2=0:=by
 rw[ZhZ] at h;split at h
 ·assumption
 ·cases h
theorem Zbt.butD {w w':World} {B R T:Nat} {v:Value} {l:List Ent} (h:Zbt w B v l) (i:But R T w w') (f:∀ b,v.ownBlock=some b->b≠R∧b≠T):Zbt w' B v l:=by
 rcases h.row with ⟨rfl,rfl⟩ | ⟨g,cap,cur,rfl,e,a,m,j,d,c,k⟩
 ·exact Zbt.nil _ _
 ·have:=f g rfl
  exact Zbt.ofRow rfl e ((i.block g a this.1 this.2).trans m) j d c k
theorem ZoF (v:Value) (b:List UInt8) (w:World) (hr:Rd w v b) (bi:b.length<=100000):
 Calls prog 165 #[v] w fun e w'=>ZBc w (ZeY b) e w':=by
 obtain⟨u,S⟩:∃ u,u=(w.alloc (.cells #[.int .i64 0] 3)).alloc (.cells #[.pointer (some ⟨w.heap.size,0,none⟩)] 208):=⟨_,rfl⟩;have h2:=ZzJ w (.cells #[.int .i64 0] 3) (.cells #[.pointer (some ⟨w.heap.size,0,none⟩)] 208);rw[<-S] at h2;obtain⟨X,hC⟩:=h2;have an:Hid (Below w.heap.size w u):=ZZ (by rw[S];exact((Below.refl _ _).alloc zL _).alloc (by simp) _)
 have aq:=ZZ (Zdo (w.heap.size+1) [(w.heap.size,0)] v b u (hr.below an.o zL) (fun p hp=>by
  rw[List.mem_singleton.1 hp]
  exact⟨⟨⟨0,cell_of_row u w.heap.size 0 _ _ _ X⟩,frozen_of_row u w.heap.size 0 _ _ X⟩,by simp⟩) (by simp) hC 1 rfl)
 have ay:Hid (∀ n:Nat,(u.setCell ⟨w.heap.size,0,none⟩ (.int .i64 (n:Int))).cell? ⟨w.heap.size,0,none⟩=some (.int .i64 (n:Int))):=ZZ (fun n=>World.cell?_setCell_same _ _ _ (cell_of_row u w.heap.size 0 _ _ _ X))
 have aH:Hid (∀ ns,Below w.heap.size w (Zca u ([(w.heap.size,0)].take (List.length ns)) ns)):=ZZ (fun ns=>Zel u _ ns _ w (fun p hp=>by
  have:=mem_of_mem_take hp;rw[List.mem_singleton.1 this]
  exact Nat.le_refl _) an.o)
 have a4:=ZZ (fun v1 l W h=>Zqu v1 l W h)
 have U:=ZZ (ZpJ (b:=b));have V:Hid ((Zab b).2=0->ZeY b=none):=ZZ (fun h=>by unfold ZeY;rw[if_pos (.inl h)])
 have ao:=ZZ (fun ns l h=>ZlG (b:=b) (ns:=ns) (l:=l) h)
 have ag:=ZZ (fun h=>ZlH (b:=b) h)
 have hd:=Zcj b
 have bc:(Zab b).1<4611686018427387904:=by
  rcases Zay b with h | h
  ·rw[h];decide
  ·exact h.1
 have aM:Hid ([(w.heap.size,0)].length=1):=ZZ rfl;rw[aM.o] at aq;generalize Zcu 1 b=GL at *;obtain⟨G,aR⟩:∃ G,G=ZeY b:=⟨_,rfl⟩;rw[<-aR] at U V ⊢;clear aR;have aj:=ZZ hr;obtain⟨va,vc,hv⟩:∃ a c,v=.slice a b.length c:=by obtain⟨a,c,h,-⟩:=hr;exact⟨a,c,h⟩
 subst hv;clear hr X hC aM
 go_enter func165,ntmps165
 go_wp2_with fail
 rw[<-S];refine aq.o.mono ?_;rintro e f ⟨v1,l,ns,rfl,aG,ac,ab,ax,au,Y⟩;have j:Hid (Below w.heap.size w f):=ZZ ((aH.o ns).trans (Y.below _));have aC:=ZZ aG;obtain⟨a1,c1,aX⟩:∃ a c,v1=.slice a l.length c:=by obtain⟨a,c,h,-⟩:=aG f (aj.o.below j.o zL);exact⟨a,c,h⟩
 subst aX;clear aq aH an S
 cases GL with
 | none=>
  have m:=ZZ (V.o (ag.o rfl));have a6:=ac rfl;subst a6;clear ac ab ax au Y U V ag ao;show _;go_wp2
  go_loopw[4,6,7] (fun v4 K E g=>v4=.slice none 0 0∧E=.bool false∧Hid (Below w.heap.size w g)) (fun _ K E _=>ZBS K E)
  case atStart=>exact⟨rfl,rfl,j⟩
  case round=>
   obtain⟨rfl,rfl,q⟩:=hrel;go_wp2;go_ret2;rw[m.o];exact⟨_,[],rfl,Zbt.nil _ _,(fun r h=>by simp at h),(fun t h=>by cases h),q.o⟩
 | some gp=>
  have:=ab gp rfl;subst this;obtain⟨g1,g2,g3⟩:=ao.o _ _ rfl;subst g2;have Z:=ZZ (U.o g1);rw[<-g3] at Z;have bh:l.length<=b.length:=by rw[g3,length_drop];omega
  have aa:f.cell? ⟨w.heap.size,0,none⟩=some (.int .i64 ((Zab b).1:Int)):=by
   rw[Y.cell];exact ay.o _
  have a0:=ZZ aa;have aU:w.heap.size<f.heap.size:=World.block_lt_of_cell? f ⟨w.heap.size,0,none⟩ aa;generalize (Zab b).1=i at *;clear ac ab ax au Y U V ag ao g1 g3 hd ay aa;obtain⟨z,ap⟩:∃ z,z=Zeq i l:=⟨_,rfl⟩;rw[<-ap] at Z
  have aP:Hid (z=(Zeq (i-0) l).map (fun r=>([]++r.1,r.2))):=ZZ (by
   rw[ap,Nat.sub_zero]
   cases Zeq i l <;> rfl)
  clear ap;go_wp2
  go_loopw[4,6,7] (fun v4 K E g=>∃ (t:List Ent) (d:List UInt8) (R:Option Addr) (P:Nat) (H:Bool),K=.slice R d.length P∧E=.bool H∧t.length<=b.length+1∧Hid (H=true->t.length+d.length<=b.length∧t.length<=i)∧Hid (Zbt g f.heap.size v4 t)∧Hid (∀ e ∈ t,Zod e)∧Hid (∀ W,Rd W (.slice va b.length vc) b->Rd W (.slice R d.length P) d)∧Hid (H=true->z=(Zeq (i-t.length) d).map (fun r=>(t++r.1,r.2)))∧Hid (H=false->z=none)∧Hid (Below f.heap.size f g)) (fun _ K E _=>ZBS K E)
  case atStart=>exact⟨[],l,a1,c1,true,rfl,rfl,by simp,ZZ (fun _=>⟨by simp;omega,Nat.zero_le _⟩),ZZ (Zbt.nil _ _),ZZ (fun e h=>by simp at h),aC,ZZ (fun _=>aP.o),ZZ (fun h=>by cases h),Below.refl _ _⟩
  case round=>
   clear aP aC;obtain⟨t,d,R,P,H,rfl,rfl,a9,hL,F,T,hV,hT,hN,q⟩:=hrel;have hR:Hid (Rd g (.slice R d.length P) d):=ZZ (hV.o g ((aj.o.below j.o zL).below q.o zL));obtain⟨oa,oc,aW⟩:=F.o.shape;subst aW;have bb:g.cell? ⟨w.heap.size,0,none⟩=some (.int .i64 (i:Int)):=(q.o.cell (p:=⟨w.heap.size,0,none⟩) aU).trans a0.o
   cases H with
   | false=>
    have m:Hid (G=none):=ZZ (by rw[Z.o,hN.o rfl];rfl)
    go_wp2;go_ret2;rw[m.o];exact⟨_,t,rfl,F.o.mono j.o.size,T.o,(fun t h=>by cases h),j.o.trans (q.o.mono j.o.size)⟩
   | true=>
    obtain⟨ba,bf⟩:=hL.o rfl;by_cases bg:t.length<i
    case neg=>
     have be:¬ (t.length:Int)<(i:Int):=by omega
     have aT:Hid (z=some (t,d)):=ZZ (by
      rw[hT.o rfl,show i-t.length=0 by omega]
      simp[Zeq])
     have aw:Hid (G=if d=[] then some t else none):=ZZ (by rw[Z.o,aT.o];rfl)
     by_cases Q:d.length=0
     ·have m:Hid (G=some t):=ZZ (by rw[aw.o,if_pos (List.eq_nil_of_length_eq_zero Q)])
      have aS:((d.length:Int) == 0)=true:=by rw[beq_iff_eq];omega
      clear Q;go_wp2;go_ret2;rw[m.o];exact⟨_,t,rfl,F.o.mono j.o.size,T.o,(fun t' h=>by injection h),j.o.trans (q.o.mono j.o.size)⟩
     ·have m:Hid (G=none):=ZZ (by
       rw[aw.o,if_neg (fun e=>Q (by rw[e];rfl))])
      have aS:((d.length:Int) == 0)=false:=beq_eq_false_iff_ne.2 (by omega)
      clear Q;go_wp2;go_ret2;rw[m.o];exact⟨_,t,rfl,F.o.mono j.o.size,T.o,(fun t' h=>by cases h),j.o.trans (q.o.mono j.o.size)⟩
    have bd:(t.length:Int)<(i:Int):=by omega
    have av:i-t.length=(i-(t.length+1))+1:=by omega
    have ad:Hid (z=((ZmC d).bind (fun y=>(Zeq (i-(t.length+1)) y.2).map (fun r=>(y.1::r.1,r.2)))).map (fun r=>(t++r.1,r.2))):=ZZ (by
     rw[hT.o rfl,av,Zsq])
    have aD:=ZZ (fun y h=>Zvr (b:=d) (y:=y) h)
    have O:=ZZ (a4.o _ d (g.alloc (.cells #[.int .i64 0,.int .i64 0,.int .i64 0] 85)) (hR.o.below ((Below.refl _ _).alloc zL _) zL));have ak:Hid (Below f.heap.size f (g.alloc (.cells #[.int .i64 0,.int .i64 0,.int .i64 0] 85))):=ZZ (q.o.alloc q.o.size _);have aQ:Hid (Be (g.alloc (.cells #[.int .i64 0,.int .i64 0,.int .i64 0] 85)) g.heap.size #[.int .i64 0,.int .i64 0,.int .i64 0]):=ZZ (heap_alloc_new g _);have aF:Hid (Zbt (g.alloc (.cells #[.int .i64 0,.int .i64 0,.int .i64 0] 85)) f.heap.size (.slice oa t.length oc) t):=ZZ (F.o.below ((Below.refl _ _).alloc zL _) zL);have am:Hid (∀ k,(Value.slice oa t.length oc).ownBlock=some k->k<g.heap.size):=ZZ (fun k hk=>(World.ownsRow.lt F.o k hk).2)
    obtain⟨SS,aN⟩:∃ SS,SS=ZmC d:=⟨_,rfl⟩;unfold ZCw at O;rw[<-aN] at ad aD O;have ai:=q.o.size;clear aN hT hN hL hR F q av
    go_wp2_with fail
    refine O.o.mono ?_;rintro e W2 ⟨x,v2,I,rfl,aO,aA,aZ,M⟩;have L:=ZZ (aQ.o.below M zL);have af:=ZZ (ak.o.trans (M.mono ak.o.size));have ar:=ZZ (aF.o.below M zL);have a7:=ZZ aO;have ah:=ZZ (fun W h=>aA W (hV.o W h))
    obtain⟨a3,c3,aY⟩:∃ a c,v2=.slice a I.length c:=by obtain⟨a,c,h,-⟩:=ah.o f (aj.o.below j.o zL);exact⟨a,c,h⟩
    subst aY;obtain⟨A,D,C⟩:=x;obtain⟨e0,f0⟩:=L.o.cell 0;obtain⟨e1,f1⟩:=L.o.cell 1;obtain⟨e2,f2⟩:=L.o.cell 2;obtain⟨B,aB⟩:∃ B,B=g.heap.size:=⟨_,rfl⟩;rw[<-aB] at L am e0 e1 e2 f0 f1 f2 ai ⊢;clear aB;obtain⟨J,N⟩:∃ J,J=((W2.setCell ⟨B,0,none⟩ (.int .i64 A)).setCell ⟨B,1,none⟩ (.int .i64 D)).setCell ⟨B,2,none⟩ (.int .i64 C):=⟨_,rfl⟩;have al:Hid (Be J B #[.int .i64 A,.int .i64 D,.int .i64 C]):=ZZ (by rw[N];exact((L.o.set 0 _).set 1 _).set 2 _)
    have ae:Hid (But B B W2 J):=ZZ (by rw[N];exact(((But.refl _ _ _).set _ _ (.inl rfl) _).set _ _ (.inl rfl) _).set _ _ (.inl rfl) _)
    have aV:Hid (Zbt J f.heap.size (.slice oa t.length oc) t):=ZZ (ar.o.butD ae.o (fun k hk=>by have:=am.o k hk;omega))
    have aJ:=ZZ (ZcQ af.o ae.o af.o.size ai ai);have a5:f.heap.size<=J.heap.size:=aJ.o.size;unfold ZuC
    dsimp only
    go_upto_region 7 with fail
    rw[<-N];obtain⟨x0,-⟩:=al.o.cell 0;obtain⟨x1,-⟩:=al.o.cell 1;obtain⟨x2,-⟩:=al.o.cell 2;clear N e0 e1 e2 f0 f1 f2 aO aA M L af ar O ak aQ aF am ae
    go_wp2_with(at_builtin;refine ZiF _ rfl _ _ rfl f.heap.size _ t rfl aV.o ⟨A,D,C⟩ rfl (by omega) a5 ?_)
    intro v5 W5 az aE;have aI:=ZZ az;have aK:=ZZ (aJ.o.trans aE)
    have aL:Hid (∀ e ∈ t++[(⟨A,D,C⟩:Ent)],Zod e):=ZZ (fun e he=>by
     rcases List.mem_append.1 he with h | h
     ·exact T.o e h
     ·rw[List.mem_singleton.1 h];exact a7.o)
    clear az aE
    cases SS with
    | none=>
     have m:Hid (z=none):=ZZ (by rw[ad.o];rfl)
     go_wp2;go_roundw
     case rel=>exact⟨t++[⟨A,D,C⟩],I,a3,c3,false,rfl,rfl,by simp;omega,ZZ (fun h=>by cases h),aI,aL,ah,ZZ (fun h=>by cases h),ZZ (fun _=>m.o),aK⟩
     case measure=>show 0<d.length+1;omega
    | some y=>
     have hy:=aZ y rfl;subst hy;have a8:=aD.o _ rfl
     dsimp only at a8
     have m:Hid (z=(Zeq (i-(t++[(⟨A,D,C⟩:Ent)]).length) I).map (fun r=>((t++[⟨A,D,C⟩])++r.1,r.2))):=ZZ (by
      rw[ad.o,length_append,List.length_singleton,Option.bind_some]
      cases Zeq (i-(t.length+1)) I with
      | none=>rfl
      | some r=>simp)
     go_wp2;go_roundw
     case rel=>exact⟨t++[⟨A,D,C⟩],I,a3,c3,true,rfl,rfl,by simp;omega,ZZ (fun _=>⟨by simp;omega,by simp;omega⟩),aI,aL,ah,ZZ (fun _=>m.o),ZZ (fun h=>by cases h),aK⟩
     case measure=>show I.length+1<d.length+1;omega
theorem Zem:Zah []=(0,0):=by
 rcases ZbO [] with h | h
 ·exact h
 ·have b:=h.2.1
  have a:=h.2.2.1;simp at a;omega
theorem Zgh:Zab []=(0,0):=by
 rcases Zay [] with h | h
 ·exact h
 ·have b:=h.2.1
  have a:=h.2.2.1;simp at a;omega
theorem Zns {l:List UInt8} (h:(Zab l).2=0):(Zab l).1=0:=by
 rcases Zay l with e | e
 ·rw[e]
 ·omega
theorem Znt {l:List UInt8} (h:(Zah l).2=0):zag (Zah l).1=0:=by
 rcases ZbO l with e | e
 ·rw[e];rfl
 ·omega
theorem ZlI (l:List UInt8):behind 0 l=[]:=rfl
theorem Zbh {d:Nat} (h:d≠0) (l:List UInt8):behind d l=l.drop d:=if_neg h
theorem ZbT (d:Nat) (l:List UInt8):(behind d l).length<=l.length:=by
 unfold behind;split
 ·simp
 ·simp
theorem Zqv (l:List UInt8):
 ((Zah (behind (Zah (behind (Zab l).2 l)).2 (behind (Zab l).2 l))).2=0->ZaC l=(⟨0,0,0⟩,0))∧
 ((Zah (behind (Zah (behind (Zab l).2 l)).2 (behind (Zab l).2 l))).2≠0->ZaC l=if Zdy ⟨((Zab l).1:Int),zag (Zah (behind (Zab l).2 l)).1,zag (Zah (behind (Zah (behind (Zab l).2 l)).2 (behind (Zab l).2 l))).1⟩ then(⟨((Zab l).1:Int),zag (Zah (behind (Zab l).2 l)).1,zag (Zah (behind (Zah (behind (Zab l).2 l)).2 (behind (Zab l).2 l))).1⟩,l.length-(behind (Zah (behind (Zah (behind (Zab l).2 l)).2 (behind (Zab l).2 l))).2 (behind (Zah (behind (Zab l).2 l)).2 (behind (Zab l).2 l))).length) else(⟨0,0,0⟩,0)):=by
 by_cases g:(Zab l).2=0
 ·have e:behind (Zab l).2 l=[]:=by rw[g];rfl
  rw[e,Zem];simp only [ZlI,Zem,ne_eq,not_true_eq_false,false_imp_iff,and_true,true_imp_iff];unfold ZaC;rw[a (.inl g)]
 ·have e:behind (Zab l).2 l=l.drop (Zab l).2:=Zbh g l
  rw[e];by_cases b:(Zah (l.drop (Zab l).2)).2=0
  ·have m:behind (Zah (l.drop (Zab l).2)).2 (l.drop (Zab l).2)=[]:=by rw[b];rfl
   rw[m,Zem];simp only [ne_eq,not_true_eq_false,false_imp_iff,and_true,true_imp_iff];unfold ZaC;rw[a (.inr (.inl b))]
  ·have m:behind (Zah (l.drop (Zab l).2)).2 (l.drop (Zab l).2)=l.drop ((Zab l).2+(Zah (l.drop (Zab l).2)).2):=by rw[Zbh b,drop_drop]
   rw[m];refine⟨fun d=>?_,fun d=>?_⟩
   ·unfold ZaC
    rw[a (.inr (.inr (.inl d)))]
   ·have q:=Zcj l
    have n:=ZcM (l.drop (Zab l).2);have p:=ZcM (l.drop ((Zab l).2+(Zah (l.drop (Zab l).2)).2));simp only [length_drop] at n p;rw[Zbh d,drop_drop,length_drop];unfold ZaC;generalize (Zah (l.drop ((Zab l).2+(Zah (l.drop (Zab l).2)).2))).2=k at *;generalize zag (Zah (l.drop ((Zab l).2+(Zah (l.drop (Zab l).2)).2))).1=y at *;generalize (Zah (l.drop (Zab l).2)).2=j at *;generalize zag (Zah (l.drop (Zab l).2)).1=x at *;generalize (Zab l).2=i at *;generalize (Zab l).1=c at *;by_cases f:Zdy ⟨(c:Int),x,y⟩
    ·rw[if_neg (by rintro(h | h | h | h);exact g h;exact b h;exact d h;exact h f),a f]
     congr 1
     omega
    ·rw[a (.inr (.inr (.inr f))),if_neg f]
structure GIn (w W:World) (c a b:Int) (vb:Value) (m:List UInt8):Prop where
 res:Bo W w.heap.size #[.int .i64 0,.int .i64 0,.int .i64 0]
 box:Bo W (w.heap.size+1) #[.int .i64 c,.int .i64 a,.int .i64 b]
 cap:Bb W (w.heap.size+1+1) vb
 rd:Rd W vb m
 below:Below w.heap.size w W
theorem GIn.next {w W W':World} {c a b:Int} {f v':Value} {m m':List UInt8} (h:GIn w W c a b f m) (d:But (w.heap.size+1+1) (w.heap.size+1+1) W W') (g:Bb W' (w.heap.size+1+1) v') (e:Rd W' v' m'):GIn w W' c a b v' m':=by
 have i:=h.cap.lt;exact⟨(d.block _ (by omega) (by omega) (by omega)).trans h.res,(d.block _ (by omega) (by omega) (by omega)).trans h.box,g,e,ZcQ h.below d (by omega) (by omega) (by omega)⟩
theorem Rd.setInt {w:World} {v x:Value} {m:List UInt8} (h:Rd w v m) {b j:Nat} {n:Int} (d:w.cell? ⟨b,j,none⟩=some (.int .i64 n)):Rd (w.setCell ⟨b,j,none⟩ x) v m:=by
 obtain⟨u,p,g,q,i,l,a⟩:=h;refine⟨u,p,g,q,i,l,?_⟩;rcases a with a | ⟨c,off,h5,h6⟩
 ·exact .inl a
 ·refine .inr ⟨c,off,h5,fun k t=>?_⟩
  have f:=h6 k t
  rw[World.cell?_setCell_other w ⟨b,j,none⟩ ⟨c,off+k,none⟩ x (fun e=>by
   rw[e,f] at d
   simp at d)]
  exact f
theorem GIn.store {w W:World} {c a b c' a' b':Int} {d:Value} {m:List UInt8} (h:GIn w W c a b d m) (j:Nat) (x:Int) {n:Int} (e:(#[Value.int .i64 c,.int .i64 a,.int .i64 b]:Array Value)[j]?=some (.int .i64 n)) (f:(#[Value.int .i64 c,.int .i64 a,.int .i64 b]:Array Value).setIfInBounds j (.int .i64 x)=#[.int .i64 c',.int .i64 a',.int .i64 b']):
 GIn w (W.setCell ⟨w.heap.size+1,j,none⟩ (.int .i64 x)) c' a' b' d m:=by
 have g:=h.cap.lt;refine⟨(Below.heap_setCell _ _ _ _ (by show w.heap.size≠w.heap.size+1;omega)).trans h.res,?_,(Below.heap_setCell _ _ _ _ (by show w.heap.size+1+1≠w.heap.size+1;omega)).trans h.cap,h.rd.setInt (((h.box.cell j).1).trans e),h.below.setCell (by show w.heap.size<=w.heap.size+1;omega) _⟩
 have:=heap_setCell_same W (w.heap.size+1) j _ _ (.int .i64 x) h.box;unfold Bo;rw[<-f];simpa using this
theorem GIn.more {w W W':World} {c a b:Int} {e:Value} {m:List UInt8} (h:GIn w W c a b e m) (d:Below W.heap.size W W'):GIn w W' c a b e m:=by
 have f:=h.cap.lt;exact⟨(d.block _ (by omega)).trans h.res,(d.block _ (by omega)).trans h.box,(d.block _ (by omega)).trans h.cap,h.rd.below d zL,h.below.trans (d.mono h.below.size)⟩
theorem Zgx (W:World) (b:Nat) (a d e:Value) (c i:Nat) (h:b≠c):(((W.setCell ⟨b,0,none⟩ a).setCell ⟨b,1,none⟩ d).setCell ⟨b,2,none⟩ e).drew.cell? ⟨c,i,none⟩=W.cell? ⟨c,i,none⟩:=by
 show(((W.setCell ⟨b,0,none⟩ a).setCell ⟨b,1,none⟩ d).setCell ⟨b,2,none⟩ e).cell? ⟨c,i,none⟩=_;rw[World.cell?_setCell_far _ _ _ _ h,World.cell?_setCell_far _ _ _ _ h,World.cell?_setCell_far _ _ _ _ h]
theorem ZxQ (v:Value) (l:List UInt8) (w:World) (hr:Rd w v l) (aA:l.length<=1000000):
 Calls prog 209 #[v] w fun e w'=>ZwY w l e w':=by
 obtain⟨q,n,rfl⟩:∃ q n,v=.slice q l.length n:=by
  obtain⟨q,n,rfl,_⟩:=hr;exact⟨q,n,rfl⟩
 have HR:=ZZ hr;clear hr;have P:Hid (∀ W d,Bb W (w.heap.size+1+1) d->Rd W d l->Calls prog 218 #[.func (.func 168) #[] #[],.pointer (some ⟨w.heap.size+1+1,0,none⟩)] W fun e w'=>∃ v',e=.returned (.tuple #[.int .i64 ((Zab l).1:Nat),.bool (decide ((Zab l).2≠0))])∧Bb w' (w.heap.size+1+1) v'∧Rd w' v' (behind (Zab l).2 l)∧But (w.heap.size+1+1) (w.heap.size+1+1) W w'):=fun W d U D=>ZtD _ _ _ _ _ W U D (Zcj l) (fun h=>by rw[Zns h];rfl) (ZfY d l W D)
 have ac:Hid (∀ m W d,Bb W (w.heap.size+1+1) d->Rd W d m->Calls prog 218 #[.func (.func 201) #[] #[],.pointer (some ⟨w.heap.size+1+1,0,none⟩)] W fun e w'=>∃ v',e=.returned (.tuple #[.int .i64 (zag (Zah m).1),.bool (decide ((Zah m).2≠0))])∧Bb w' (w.heap.size+1+1) v'∧Rd w' v' (behind (Zah m).2 m)∧But (w.heap.size+1+1) (w.heap.size+1+1) W w'):=fun m W d U D=>ZlD _ _ _ _ _ W U D (ZcM m) Znt (ZcV d m W D)
 have u:=ZZ (Zqv l);have V:=ZZ (ZbT (Zab l).2 l);obtain⟨g,av⟩:∃ g,g=behind (Zab l).2 l:=⟨_,rfl⟩;rw[<-av] at u P V;have T:=ZZ (ac.o g);have S:=ZZ (ZbT (Zah g).2 g);obtain⟨p,ag⟩:∃ p,p=behind (Zah g).2 g:=⟨_,rfl⟩;rw[<-ag] at u T S;have aa:=ZZ (ac.o p);have ab:=ZZ (ZbT (Zah p).2 p);obtain⟨f,ai⟩:∃ f,f=behind (Zah p).2 p:=⟨_,rfl⟩;rw[<-ai] at u aa ab;have az:f.length<=l.length:=Nat.le_trans ab.o (Nat.le_trans S.o V.o);clear av ag ai ac V S ab;unfold ZwY;generalize ZaC l=R at *;generalize (Zab l).1=c at *;generalize (Zab l).2=i at *;generalize zag (Zah g).1=x at *;generalize (Zah g).2=j at *;generalize zag (Zah p).1=y at *;generalize (Zah p).2=k at *;obtain⟨C,hC⟩:∃ C:Int,C=(c:Int):=⟨_,rfl⟩;rw[<-hC] at P u;have HF:Hid (∀ W,Calls prog 80 #[.agg #[.int .i64 C,.int .i64 x,.int .i64 y]] W fun e w'=>e=.returned (.bool (decide (Zdy ⟨C,x,y⟩)))∧Below W.heap.size W w'):=fun W=>Zom ⟨C,x,y⟩ W
 have am:=ZZ (fun W=>ZlC q l.length n W)
 have aq:Hid (∀ W X Y,X=.cells #[.int .i64 0,.int .i64 0,.int .i64 0] 52->Y=.cells #[.int .i64 0,.int .i64 0,.int .i64 0] 52->W=((w.alloc X).alloc Y).alloc (.cells #[.slice q l.length n] 53)->GIn w W 0 0 0 (.slice q l.length n) l):=fun W X Y hX hY hW=>by
  subst hX hY hW;have b1:Below w.heap.size w (((w.alloc (.cells #[.int .i64 0,.int .i64 0,.int .i64 0] 52)).alloc (.cells #[.int .i64 0,.int .i64 0,.int .i64 0] 52)).alloc (.cells #[.slice q l.length n] 53)):=(((Below.refl _ _).alloc zL _).alloc (by simp) _).alloc (by simp;omega) _
  refine⟨?_,?_,?_,HR.o.below b1 zL,b1⟩
  ·exact(Below.heap_alloc _ _ _ (by simp;omega)).trans ((Below.heap_alloc _ _ _ (by simp)).trans (heap_alloc_new w _))
  ·exact(Below.heap_alloc _ _ _ (by simp)).trans (ZrF w _ _)
  ·have h:=heap_alloc_new ((w.alloc (.cells #[.int .i64 0,.int .i64 0,.int .i64 0] 52)).alloc (.cells #[.int .i64 0,.int .i64 0,.int .i64 0] 52)) (.cells #[.slice q l.length n] 53)
   have e:((w.alloc (.cells #[.int .i64 0,.int .i64 0,.int .i64 0] 52)).alloc (.cells #[.int .i64 0,.int .i64 0,.int .i64 0] 52)).heap.size=w.heap.size+1+1:=by simp
   rw[e] at h;exact h
 clear hC
 go_enter func209,ntmps209
 go_wp2_with fail
 refine(am.o _).mono ?_;rintro e W1 ⟨rfl,an⟩;have O:=ZZ (aq.o W1 _ _ rfl rfl an);clear an aq am
 go_wp2_with fail
 refine(P.o _ _ O.o.cap O.o.rd).mono ?_;rintro e W2 ⟨v2,rfl,ae,aj,ax⟩;have Q:=ZZ (O.o.next ax ae aj);obtain⟨p0,f0⟩:=Q.o.box.cell 0;clear ae aj ax O P;have G:=ZZ (Q.o.store (c':=C) (a':=0) (b':=0) 0 C rfl rfl)
 go_wp2_with fail
 refine(T.o _ _ G.o.cap G.o.rd).mono ?_;rintro e W3 ⟨v3,rfl,ao,af,au⟩;have Z:=ZZ (G.o.next au ao af);obtain⟨p1,f1⟩:=Z.o.box.cell 1;clear ao af au Q G T p0 f0;have N:=ZZ (Z.o.store (c':=C) (a':=x) (b':=0) 1 x rfl rfl)
 go_wp2_with fail
 refine(aa.o _ _ N.o.cap N.o.rd).mono ?_;rintro e W4 ⟨v4,rfl,ak,ar,ad⟩;have I:=ZZ (N.o.next ad ak ar);obtain⟨p2,f2⟩:=I.o.box.cell 2;clear ak ar ad Z N aa p1 f1;have b:=ZZ (I.o.store (c':=C) (a':=x) (b':=y) 2 y rfl rfl);by_cases z:k=0
 ·have A:Hid (R=(⟨0,0,0⟩,0)):=u.o.1 z
  rw[decide_eq_false (fun h=>h z)]
  obtain⟨F,g0⟩:=b.o.res.cell 0;obtain⟨J,g1⟩:=b.o.res.cell 1;obtain⟨H,g2⟩:=b.o.res.cell 2;have L:=ZZ b.o.below;clear z I;go_wp2;refine bodyPost_ret (v:=.tuple #[.agg #[.int .i64 0,.int .i64 0,.int .i64 0],.int .i64 0]) (by simp[results,Tryz.results209,go_sem,F,J,H]) rfl ?_
  rw[A.o];exact⟨rfl,((L.o.setCell zL _).setCell zL _).setCell zL _⟩
 ·have A:=ZZ (u.o.2 z)
  rw[decide_eq_true z];obtain⟨E,-⟩:=b.o.box.cell 0;obtain⟨M,-⟩:=b.o.box.cell 1;obtain⟨K,-⟩:=b.o.box.cell 2;clear z u
  go_wp2_with fail
  refine(HF.o _).mono ?_;rintro e t ⟨rfl,al⟩;have a:=ZZ (b.o.more al);clear al b I E M K p2 f2;obtain⟨F,g0⟩:=a.o.res.cell 0;obtain⟨J,g1⟩:=a.o.res.cell 1;obtain⟨H,g2⟩:=a.o.res.cell 2;have L:=ZZ a.o.below;by_cases B:Zdy ⟨C,x,y⟩
  ·rw[decide_eq_true B]
   rw[if_pos B] at A;obtain⟨E,-⟩:=a.o.box.cell 0;obtain⟨M,-⟩:=a.o.box.cell 1;obtain⟨K,-⟩:=a.o.box.cell 2;have hc:=a.o.cap.cell.1;obtain⟨a4,c4,rfl,-⟩:=a.o.rd;have HL:=ZZ (fun W h=>ZtC (w.heap.size+1+1) a4 f.length c4 W h)
   have ah:IntKind.i64.wrap ((l.length:Int)-(f.length:Int))=((l.length-f.length:Nat):Int):=by rw[IntKind.wrap_i64];omega
   have ay:=ZZ ah;have aw:=ZZ (⟨E,M,K,hc⟩:t.drew.cell? ⟨w.heap.size+1,0,none⟩=some (.int .i64 C)∧t.drew.cell? ⟨w.heap.size+1,1,none⟩=some (.int .i64 x)∧t.drew.cell? ⟨w.heap.size+1,2,none⟩=some (.int .i64 y)∧t.drew.cell? ⟨w.heap.size+1+1,0,none⟩=some (.slice a4 f.length c4));have ap:=ZZ (⟨(Zgx t w.heap.size (.int .i64 C) (.int .i64 x) (.int .i64 y) _ _ (by omega)).trans E,(Zgx t w.heap.size (.int .i64 C) (.int .i64 x) (.int .i64 y) _ _ (by omega)).trans M,(Zgx t w.heap.size (.int .i64 C) (.int .i64 x) (.int .i64 y) _ _ (by omega)).trans K,(Zgx t w.heap.size (.int .i64 C) (.int .i64 x) (.int .i64 y) (w.heap.size+1+1) 0 (by omega)).trans hc⟩:_∧_∧_∧_)
   clear B a ah HF;go_wp2
   go_region_held(fun w'=>w'.cell? ⟨w.heap.size+1,0,none⟩=some (.int .i64 C)∧w'.cell? ⟨w.heap.size+1,1,none⟩=some (.int .i64 x)∧w'.cell? ⟨w.heap.size+1,2,none⟩=some (.int .i64 y)∧w'.cell? ⟨w.heap.size+1+1,0,none⟩=some (.slice a4 f.length c4)) (first | exact aw.o | exact ap.o)
    (first
     | (go_at_call 219;refine(HL.o _ (by first | exact aw.o.2.2.2 | exact ap.o.2.2.2)).mono ?_;rintro e w' ⟨rfl,rfl⟩))
   all_goals
    go_wp2;refine bodyPost_ret (v:=.tuple #[.agg #[.int .i64 C,.int .i64 x,.int .i64 y],.int .i64 (IntKind.i64.wrap ((l.length:Int)-(f.length:Int)))]) (by simp[results,Tryz.results209,go_sem,F,J,H]) rfl ?_
    rw[A.o,ay.o];exact⟨rfl,((((L.o.setCell zL _).setCell zL _).setCell zL _)).drew⟩
  ·rw[decide_eq_false B]
   rw[if_neg B] at A;clear B a;go_wp2;refine bodyPost_ret (v:=.tuple #[.agg #[.int .i64 0,.int .i64 0,.int .i64 0],.int .i64 0]) (by simp[results,Tryz.results209,go_sem,F,J,H]) rfl ?_
   rw[A.o];exact⟨rfl,((L.o.setCell zL _).setCell zL _).setCell zL _⟩
def Zdp (w:World) (r:St × Int) (e:Ending) (w':World):Prop:=
 ∃ vl,e=.returned (.tuple #[.agg #[.int .i64 r.1.kind,vl,.bool r.1.shut,.int .i64 r.1.eng],.int .i64 r.2])∧RdI w' vl r.1.L∧I64 r.1.kind∧I64 r.1.eng∧(∀ b,vl.ownBlock=some b->w.heap.size<=b)∧Below w.heap.size w w'
theorem Zdp.zero {w w':World} (n:Int) (a:Below w.heap.size w w'):Zdp w (ZfQ,n) (.returned (.tuple #[.agg #[.int .i64 0,.slice none 0 0,.bool false,.int .i64 0],.int .i64 n])) w':=
 ⟨_,rfl,RdI.nil _,(Zai (by decide) (by decide):I64 0),(Zai (by decide) (by decide):I64 0),fun b a=>by simp[Value.ownBlock] at a,a⟩
theorem Zgi:∀ (a b:Nat) (l:List UInt8),ZdL (a+b) l=(ZdL a l).bind fun x=>(ZdL b (l.drop x.2)).map fun y=>(x.1++y.1,x.2+y.2)
 | 0,b,l=>by
  rw[Nat.zero_add,ZdL];simp
 | a+1,b,l=>by
  rw[Nat.add_right_comm,ZdL,ZdL,Zgi a b];by_cases h:(Zah l).2=0
  ·rw[if_pos h,if_pos h]
   rfl
  ·rw[if_neg h,if_neg h]
   cases ZdL a (l.drop (Zah l).2) with
   | none=>rfl
   | some x=>
    obtain⟨xs,u⟩:=x;simp only [Option.bind_some,Option.map_some,drop_drop]
    cases ZdL b (l.drop ((Zah l).2+u)) with
    | none=>rfl
    | some y=>simp[Nat.add_assoc]
theorem Zqw (l:List UInt8):ZdL 1 l=if(Zah l).2=0 then none else some ([zag (Zah l).1],(Zah l).2):=by
 rw[ZdL];split
 ·rfl
 ·rfl
theorem Zvs {k:Nat} {l:List UInt8} {xs:List Int} {u:Nat} (h:ZdL k l=some (xs,u)) (a:(Zah (l.drop u)).2≠0):ZdL (k+1) l=some (xs++[zag (Zah (l.drop u)).1],u+(Zah (l.drop u)).2):=by
 rw[Zgi,h];simp only [Option.bind_some];rw[Zqw,if_neg a];rfl
theorem Zvt {k m:Nat} {l:List UInt8} {xs:List Int} {u:Nat} (h:ZdL k l=some (xs,u)) (a:(Zah (l.drop u)).2=0) (b:k<m):ZdL m l=none:=by
 obtain⟨d,rfl⟩:∃ d,m=k+1+d:=⟨m-(k+1),by omega⟩
 rw[Zgi,Zgi k 1,h];simp only [Option.bind_some];rw[Zqw,if_pos a];rfl
theorem Zsr (l:List UInt8):
 ((Zab (behind (Zab (behind (Zab l).2 l)).2 (behind (Zab l).2 l))).2=0∨3<(Zab (behind (Zab l).2 l)).1∨128<(Zab (behind (Zab (behind (Zab l).2 l)).2 (behind (Zab l).2 l))).1->Zil l=(ZfQ,3))∧
 (¬ ((Zab (behind (Zab (behind (Zab l).2 l)).2 (behind (Zab l).2 l))).2=0∨3<(Zab (behind (Zab l).2 l)).1∨128<(Zab (behind (Zab (behind (Zab l).2 l)).2 (behind (Zab l).2 l))).1)->
  Zil l=Zpb (Zab l).1 (Zab (behind (Zab l).2 l)).1 (Zab (behind (Zab (behind (Zab l).2 l)).2 (behind (Zab l).2 l))).1 (behind (Zab (behind (Zab (behind (Zab l).2 l)).2 (behind (Zab l).2 l))).2 (behind (Zab (behind (Zab l).2 l)).2 (behind (Zab l).2 l)))):=by
 by_cases c:(Zab l).2=0
 ·have e:behind (Zab l).2 l=[]:=by rw[c];rfl
  rw[e,Zgh];simp only [ZlI,Zgh];refine⟨fun _=>?_,fun h=>absurd (Or.inl trivial) h⟩
  unfold Zil;rw[if_pos (.inl c)]
 ·have e:behind (Zab l).2 l=l.drop (Zab l).2:=Zbh c l
  rw[e];by_cases b:(Zab (l.drop (Zab l).2)).2=0
  ·have d:behind (Zab (l.drop (Zab l).2)).2 (l.drop (Zab l).2)=[]:=by rw[b];rfl
   rw[d,Zgh];refine⟨fun _=>?_,fun h=>absurd (Or.inl rfl) h⟩
   unfold Zil;rw[if_pos (.inr (.inl b))]
  ·have d:behind (Zab (l.drop (Zab l).2)).2 (l.drop (Zab l).2)=l.drop ((Zab l).2+(Zab (l.drop (Zab l).2)).2):=by rw[Zbh b,drop_drop]
   rw[d];refine⟨fun a=>?_,fun a=>?_⟩
   ·unfold Zil
    rw[if_pos (.inr (.inr a))]
   ·have f:(Zab (l.drop ((Zab l).2+(Zab (l.drop (Zab l).2)).2))).2≠0:=fun h=>a (.inl h)
    unfold Zil;rw[if_neg (by rintro(h | h | h);exact c h;exact b h;exact a h),Zbh f,drop_drop]
structure SIn (w W:World) (kd:Int) (vl:Value) (sh:Bool) (g:Int) (vb:Value) (m:List UInt8):Prop where
 res:Bx W w.heap.size #[.int .i64 0,.slice none 0 0,.bool false,.int .i64 0]
 box:Bx W (w.heap.size+1) #[.int .i64 kd,vl,.bool sh,.int .i64 g]
 cap:Bb W (w.heap.size+1+1) vb
 rd:Rd W vb m
 below:Below w.heap.size w W
theorem SIn.next {w W W':World} {kd g:Int} {c:Bool} {b d v':Value} {m m':List UInt8} (h:SIn w W kd b c g d m) (a:But (w.heap.size+1+1) (w.heap.size+1+1) W W') (f:Bb W' (w.heap.size+1+1) v') (e:Rd W' v' m'):SIn w W' kd b c g v' m':=by
 have i:=h.cap.lt;exact⟨(a.block _ (by omega) (by omega) (by omega)).trans h.res,(a.block _ (by omega) (by omega) (by omega)).trans h.box,f,e,ZcQ h.below a (by omega) (by omega) (by omega)⟩
theorem SIn.more {w W W':World} {kd g:Int} {d:Bool} {b c:Value} {m:List UInt8} (h:SIn w W kd b d g c m) (a:Below W.heap.size W W'):SIn w W' kd b d g c m:=by
 have e:=h.cap.lt;exact⟨(a.block _ (by omega)).trans h.res,(a.block _ (by omega)).trans h.box,(a.block _ (by omega)).trans h.cap,h.rd.below a zL,h.below.trans (a.mono h.below.size)⟩
theorem Rd.setElse {w:World} {v x y:Value} {m:List UInt8} (h:Rd w v m) {b j:Nat} (d:w.cell? ⟨b,j,none⟩=some y) (l:∀ n,y≠.int .u8 n):Rd (w.setCell ⟨b,j,none⟩ x) v m:=by
 obtain⟨z,q,g,t,i,p,a⟩:=h;refine⟨z,q,g,t,i,p,?_⟩;rcases a with a | ⟨c,off,h5,h6⟩
 ·exact .inl a
 ·refine .inr ⟨c,off,h5,fun k u=>?_⟩
  have f:=h6 k u
  rw[World.cell?_setCell_other w ⟨b,j,none⟩ ⟨c,off+k,none⟩ x (fun e=>by
   rw[e,f] at d
   exact l _ (Option.some.inj d).symm)]
  exact f
theorem SIn.store {w W:World} {kd g kd' g':Int} {a sh':Bool} {b vl' c:Value} {m:List UInt8} (h:SIn w W kd b a g c m) (j:Nat) (x y:Value) (e:(#[Value.int .i64 kd,b,.bool a,.int .i64 g]:Array Value)[j]?=some y) (d:∀ n,y≠.int .u8 n) (f:(#[Value.int .i64 kd,b,.bool a,.int .i64 g]:Array Value).setIfInBounds j x=#[.int .i64 kd',vl',.bool sh',.int .i64 g']):
 SIn w (W.setCell ⟨w.heap.size+1,j,none⟩ x) kd' vl' sh' g' c m:=by
 have i:=h.cap.lt;refine⟨(Below.heap_setCell _ _ _ _ (by show w.heap.size≠w.heap.size+1;omega)).trans h.res,?_,(Below.heap_setCell _ _ _ _ (by show w.heap.size+1+1≠w.heap.size+1;omega)).trans h.cap,h.rd.setElse (((h.box.cell j).1).trans e) d,h.below.setCell (by show w.heap.size<=w.heap.size+1;omega) _⟩
 have:=heap_setCell_same W (w.heap.size+1) j _ _ x h.box;unfold Bx;rw[<-f];simpa using this
structure DIn (w W:World) (kd g:Int) (sh:Bool) (R:List UInt8) (cnt G k:Nat) (vb:Value) (m:List UInt8) (ys:List Int) (th:Bool):Prop where
 sin:SIn w W kd (.slice (some ⟨G,0,none⟩) cnt cnt) sh g vb m
 row:W.heap[G]?=some (.cells (Zal ys).toArray 3 (0,0))
 len:ys.length=cnt
 far:w.heap.size+1+1<G
 st:(th=true∧∃ u,ZdL k R=some (ys.take k,u)∧m=R.drop u)∨(th=false∧ZdL k R=none∧m=[])
theorem Zvu {k:Nat} {R:List UInt8} (h:ZdL k R=none):ZdL (k+1) R=none:=by
 rw[Zgi,h];rfl
theorem ZzK (a:List Int) (k:Nat) (x:Int) (b:k<a.length):(a.set k x).take (k+1)=a.take k++[x]:=by
 rw[List.take_add_one,List.take_set_of_le zL];simp[b]
theorem DIn.step {w W W':World} {kd g:Int} {j:Bool} {R:List UInt8} {f G k:Nat} {y v':Value} {m:List UInt8} {a:List Int} {q:Bool} (h:DIn w W kd g j R f G k y m a q) (B:k<f) (l:But (w.heap.size+1+1) (w.heap.size+1+1) W W') (x:Bb W' (w.heap.size+1+1) v') (z:Rd W' v' (behind (Zah m).2 m)):
 DIn w (W'.setCell ⟨G,k,none⟩ (.int .i64 (zag (Zah m).1))) kd g j R f G (k+1) v' (behind (Zah m).2 m) (a.set k (zag (Zah m).1)) (decide ((Zah m).2≠0)):=by
 have v:=h.far;have t:G<W.heap.size:=(Array.getElem?_eq_some_iff.1 h.row).1;have i:W'.heap[G]?=some (.cells (Zal a).toArray 3 (0,0)):=(l.block G t (by omega) (by omega)).trans h.row
 have c:=h.sin.next l x z
 have p:W'.cell? ⟨G,k,none⟩=some (.int .i64 (a.getD k 0)):=by
  rw[cell_of_row W' G k _ _ _ i];have:=Zbu a k (by have:=h.len;omega)
  simpa using this
 refine⟨⟨?_,?_,?_,c.rd.setElse p (fun n e=>by simp at e),c.below.setCell (by show w.heap.size<=G;omega) _⟩,?_,by rw[List.length_set];exact h.len,v,?_⟩
 ·exact(Below.heap_setCell _ _ _ _ (by show w.heap.size≠G;omega)).trans c.res
 ·exact(Below.heap_setCell _ _ _ _ (by show w.heap.size+1≠G;omega)).trans c.box
 ·exact(Below.heap_setCell _ _ _ _ (by show w.heap.size+1+1≠G;omega)).trans c.cap
 ·rw[heap_setCell_same W' G k _ _ _ i]
  congr 2
  unfold Zal;apply Array.ext';simp[List.map_set]
 ·have A:=h.len
  rcases h.st with ⟨rfl,u,d,rfl⟩ | ⟨rfl,d,rfl⟩
  ·by_cases b:(Zah (R.drop u)).2=0
   ·right
    refine⟨decide_eq_false (fun h=>h b),Zvt d b (by omega),?_⟩
    rw[b];rfl
   ·left
    refine⟨decide_eq_true b,u+(Zah (R.drop u)).2,?_,?_⟩
    ·rw[Zvs d b,ZzK a k _ (by omega)]
    ·rw[Zbh b,drop_drop]
  ·right
   rw[Zem];exact⟨rfl,Zvu d,rfl⟩
theorem DIn.own {w W:World} {kd g:Int} {i:Bool} {R:List UInt8} {a G k:Nat} {d:Value} {m:List UInt8} {b:List Int} {f:Bool} (h:DIn w W kd g i R a G k d m b f) (e:a<=maxLen):ZaB W (w.heap.size+1+1+1) (.slice (some ⟨G,0,none⟩) a a) b:=by
 have c:=h.len;have j:=h.far;refine⟨by rw[Zbm,Nat.mul_one],.inr ⟨G,a,(Zal b).toArray,by rw[c],by omega,h.row,by omega,e,?_,?_⟩⟩
 ·simp[Zbm,c]
 ·rw[List.take_of_length_le]
  simp[Zbm]
theorem ZoG (w:World) (n:Nat) (f:n<=1000000):(Instr.makeSlice 23 (.int .i64 (n:Int)) (.int .i64 (n:Int))).run prog w=.ok (.slice (some ⟨w.heap.size,0,none⟩) n n) (w.alloc (.cells (Zal (List.replicate n 0)).toArray 3)):=by
 obtain⟨d,e,b,a,c⟩:=info_parts ZnK;have h:=run_make (P:=prog) w 23 3 d (.int .i64 0) underlying23 e b .i64 .i64 (n:Int) (n:Int) (by omega) (Int.le_refl _) (by rw[c];omega) (by omega)
 rw[Int.toNat_natCast,a,Nat.mul_one] at h;rw[h]
 congr 3
 apply Array.ext';show(madeCells #[Value.int .i64 0] n).toList=_;rw[toList_madeCells_one];simp[Zal]
theorem But.ofDrew {R T:Nat} {w w':World} (h:But R T w.drew w'):But R T w w':=⟨h.os,h.tape,h.output,h.size,h.block⟩
theorem DIn.start {w W:World} {kd g:Int} {c:Bool} {b:Value} {R:List UInt8} (h:SIn w W kd (.slice none 0 0) c g b R) (a:Nat):
 DIn w ((W.alloc (.cells (Zal (List.replicate a 0)).toArray 3)).setCell ⟨w.heap.size+1,1,none⟩ (.slice (some ⟨W.heap.size,0,none⟩) a a)) kd g c R a W.heap.size 0 b R (List.replicate a 0) true:=by
 have f:=h.cap.lt;have d:=h.more ((Below.refl _ _).alloc zL (.cells (Zal (List.replicate a 0)).toArray 3));refine⟨d.store 1 _ _ rfl (fun n e=>by simp at e) rfl,?_,by simp,f,.inl ⟨rfl,0,rfl,by simp⟩⟩
 exact(Below.heap_setCell _ _ _ _ (by show W.heap.size≠w.heap.size+1;omega)).trans (heap_alloc_new W _)
theorem DIn.spot {w W W':World} {kd g:Int} {f:Bool} {R:List UInt8} {c G k:Nat} {j:Value} {m:List UInt8} {a:List Int} {d:Bool} (h:DIn w W kd g f R c G k j m a d) (n:k<c) (i:But (w.heap.size+1+1) (w.heap.size+1+1) W W'):
 W'.cell? ⟨G,k,none⟩=some (.int .i64 (a.getD k 0))∧W'.frozen? ⟨G,k,none⟩=false:=by
 have l:=h.far;have e:G<W.heap.size:=(Array.getElem?_eq_some_iff.1 h.row).1;have b:W'.heap[G]?=some (.cells (Zal a).toArray 3 (0,0)):=(i.block G e (by omega) (by omega)).trans h.row
 refine⟨?_,frozen_of_row W' G k _ _ b⟩;rw[cell_of_row W' G k _ _ _ b];have:=Zbu a k (by have:=h.len;omega)
 simpa using this
theorem ZlJ (v:Value) (l:List UInt8) (w:World) (hr:Rd w v l) (_hlim:l.length<=1000000):
 Calls prog 164 #[v] w fun e w'=>Zdp w (Zil l) e w':=by
 obtain⟨L,J,rfl⟩:∃ L J,v=.slice L l.length J:=by
  obtain⟨L,J,rfl,_⟩:=hr;exact⟨L,J,rfl⟩
 have HR:=ZZ hr;clear hr;have ad:Hid (∀ m W f,Bb W (w.heap.size+1+1) f->Rd W f m->Calls prog 218 #[.func (.func 168) #[] #[],.pointer (some ⟨w.heap.size+1+1,0,none⟩)] W fun e w'=>∃ v',e=.returned (.tuple #[.int .i64 ((Zab m).1:Nat),.bool (decide ((Zab m).2≠0))])∧Bb w' (w.heap.size+1+1) v'∧Rd w' v' (behind (Zab m).2 m)∧But (w.heap.size+1+1) (w.heap.size+1+1) W w'):=fun m W f h1 h2=>ZtD _ _ _ _ _ W h1 h2 (Zcj m) (fun h=>by rw[Zns h];rfl) (ZfY f m W h2)
 have a7:Hid (∀ m W f,Bb W (w.heap.size+1+1) f->Rd W f m->Calls prog 218 #[.func (.func 201) #[] #[],.pointer (some ⟨w.heap.size+1+1,0,none⟩)] W fun e w'=>∃ v',e=.returned (.tuple #[.int .i64 (zag (Zah m).1),.bool (decide ((Zah m).2≠0))])∧Bb w' (w.heap.size+1+1) v'∧Rd w' v' (behind (Zah m).2 m)∧But (w.heap.size+1+1) (w.heap.size+1+1) W w'):=fun m W f h1 h2=>ZlD _ _ _ _ _ W h1 h2 (ZcM m) Znt (ZcV f m W h2)
 have HG:=ZZ (Zsr l);have an:=ZZ (ad.o l)
 have c1:(Zab l).1<4611686018427387904:=by
  rcases Zay l with h | h
  ·rw[h];decide
  ·exact h.1
 obtain⟨S,aX⟩:∃ S,S=behind (Zab l).2 l:=⟨_,rfl⟩;rw[<-aX] at HG an;have ah:=ZZ (ad.o S);obtain⟨T,ay⟩:∃ T,T=behind (Zab S).2 S:=⟨_,rfl⟩;rw[<-ay] at HG ah;have am:=ZZ (ad.o T);obtain⟨R,az⟩:∃ m3,m3=behind (Zab T).2 T:=⟨_,rfl⟩;rw[<-az] at HG am;clear aX ay az ad;generalize Zil l=D at *;generalize (Zab l).1=kd at *;generalize (Zab l).2=i at *;generalize (Zab S).1=y at *;generalize (Zab S).2=j at *;generalize (Zab T).1=a at *;generalize (Zab T).2=k at *;have aL:=ZZ (fun W=>ZlC L l.length J W)
 have aQ:Hid (∀ W X Y,X=.cells #[.int .i64 0,.slice none 0 0,.bool false,.int .i64 0] 38->Y=.cells #[.int .i64 0,.slice none 0 0,.bool false,.int .i64 0] 38->W=((w.alloc X).alloc Y).alloc (.cells #[.slice L l.length J] 53)->SIn w W 0 (.slice none 0 0) false 0 (.slice L l.length J) l):=fun W X Y hX hY hW=>by
  subst hX hY hW;have U:Below w.heap.size w (((w.alloc (.cells #[.int .i64 0,.slice none 0 0,.bool false,.int .i64 0] 38)).alloc (.cells #[.int .i64 0,.slice none 0 0,.bool false,.int .i64 0] 38)).alloc (.cells #[.slice L l.length J] 53)):=(((Below.refl _ _).alloc zL _).alloc (by simp) _).alloc (by simp;omega) _
  refine⟨?_,?_,?_,HR.o.below U zL,U⟩
  ·exact(Below.heap_alloc _ _ _ (by simp;omega)).trans ((Below.heap_alloc _ _ _ (by simp)).trans (heap_alloc_new w _))
  ·exact(Below.heap_alloc _ _ _ (by simp)).trans (ZrF w _ _)
  ·have h:=heap_alloc_new ((w.alloc (.cells #[.int .i64 0,.slice none 0 0,.bool false,.int .i64 0] 38)).alloc (.cells #[.int .i64 0,.slice none 0 0,.bool false,.int .i64 0] 38)) (.cells #[.slice L l.length J] 53)
   have e:((w.alloc (.cells #[.int .i64 0,.slice none 0 0,.bool false,.int .i64 0] 38)).alloc (.cells #[.int .i64 0,.slice none 0 0,.bool false,.int .i64 0] 38)).heap.size=w.heap.size+1+1:=by simp
   rw[e] at h;exact h
 go_enter func164,ntmps164
 go_wp2_with fail
 refine(aL.o _).mono ?_;rintro e W1 ⟨rfl,aM⟩;have G1:=ZZ (aQ.o W1 _ _ rfl rfl aM);clear aM aQ aL
 go_wp2_with fail
 refine(an.o _ _ G1.o.cap G1.o.rd).mono ?_;rintro e W2 ⟨v2,rfl,ar,aG,aY⟩;have G2:=ZZ (G1.o.next aY ar aG);obtain⟨p0,f0⟩:=G2.o.box.cell 0;clear ar aG aY G1 an;have ac:=ZZ (G2.o.store (kd':=(kd:Int)) (vl':=.slice none 0 0) (sh':=false) (g':=0) 0 (.int .i64 (kd:Int)) _ rfl (fun n e=>by simp at e) rfl)
 go_wp2_with fail
 refine(ah.o _ _ ac.o.cap ac.o.rd).mono ?_;rintro e W3 ⟨v3,rfl,aN,au,aW⟩;have G3:=ZZ (ac.o.next aW aN au);clear aN au aW G2 ac ah p0 f0
 go_wp2_with fail
 refine(am.o _ _ G3.o.cap G3.o.rd).mono ?_;rintro e W4 ⟨v4,rfl,aH,aU,aq⟩;have d:=ZZ (G3.o.next aq aH aU);clear aH aU aq G3 am;by_cases C:k=0∨3<y∨128<a
 ·have K:Hid (D=(ZfQ,3)):=HG.o.1 C
  obtain⟨z,g0⟩:=d.o.res.cell 0;obtain⟨F,g1⟩:=d.o.res.cell 1;obtain⟨A,g2⟩:=d.o.res.cell 2;obtain⟨H,g3⟩:=d.o.res.cell 3;have aa:=ZZ d.o.below;by_cases I:k=0
  ·rw[decide_eq_false (fun h=>h I)]
   clear I C d;go_wp2;refine bodyPost_ret (v:=.tuple #[.agg #[.int .i64 0,.slice none 0 0,.bool false,.int .i64 0],.int .i64 3]) (by simp[results,Tryz.results164,go_sem,z,F,A,H]) rfl ?_
   rw[K.o];exact Zdp.zero 3 (ZcP aa.o w.heap.size zL _ _ _ _)
  ·rw[decide_eq_true I]
   by_cases h3:3<y
   ·have a3:(3:Int)<(y:Int):=by omega
    clear I C d h3;go_wp2;refine bodyPost_ret (v:=.tuple #[.agg #[.int .i64 0,.slice none 0 0,.bool false,.int .i64 0],.int .i64 3]) (by simp[results,Tryz.results164,go_sem,z,F,A,H]) rfl ?_
    rw[K.o];exact Zdp.zero 3 (ZcP aa.o w.heap.size zL _ _ _ _)
   ·have a3:¬ (3:Int)<(y:Int):=by omega
    have h4:(128:Int)<(a:Int):=by
     rcases C with h | h | h
     ·exact absurd h I
     ·exact absurd h h3
     ·omega
    clear I C d h3;go_wp2;refine bodyPost_ret (v:=.tuple #[.agg #[.int .i64 0,.slice none 0 0,.bool false,.int .i64 0],.int .i64 3]) (by simp[results,Tryz.results164,go_sem,z,F,A,H]) rfl ?_
    rw[K.o];exact Zdp.zero 3 (ZcP aa.o w.heap.size zL _ _ _ _)
 ·have K:Hid (D=Zpb kd y a R):=HG.o.2 C
  have I:k≠0:=fun h=>C (.inl h)
  have h3:¬ (3:Int)<(y:Int):=fun h=>C (.inr (.inl (by omega)))
  have h4:¬ (128:Int)<(a:Int):=fun h=>C (.inr (.inr (by omega)))
  rw[decide_eq_true I];obtain⟨p1,f1⟩:=d.o.box.cell 1;obtain⟨p2,f2⟩:=d.o.box.cell 2;obtain⟨p3,f3⟩:=d.o.box.cell 3;clear C I HG;have aR:y=0∨y=1∨y=2∨y=3:=by omega
  go_upto_region 8 with fail
  go_cut[] (fun wc=>∃ (p:Bool) (g:Int),Hid (∀ xs,mkS kd y xs=⟨kd,xs,p,g⟩)∧Hid (I64 g)∧Hid (SIn w wc kd (.slice none 0 0) p g v4 R))
  case first=>
   rcases aR with rfl | rfl | rfl | rfl
   ·go_wp2
    go_meet
    exact⟨false,0,ZZ (fun xs=>by simp[mkS]),ZZ (Zai (by omega) (by omega)),ZZ ((d.o.store 2 (.bool false) _ rfl (fun n e=>by simp at e) rfl).store 3 (.int .i64 0) _ rfl (fun n e=>by simp at e) rfl)⟩
   ·go_wp2
    go_meet
    exact⟨true,0,ZZ (fun xs=>by simp[mkS]),ZZ (Zai (by omega) (by omega)),ZZ ((d.o.store 2 (.bool true) _ rfl (fun n e=>by simp at e) rfl).store 3 (.int .i64 0) _ rfl (fun n e=>by simp at e) rfl)⟩
   ·go_wp2
    go_meet
    exact⟨true,1,ZZ (fun xs=>by simp[mkS]),ZZ (Zai (by omega) (by omega)),ZZ ((d.o.store 2 (.bool true) _ rfl (fun n e=>by simp at e) rfl).store 3 (.int .i64 1) _ rfl (fun n e=>by simp at e) rfl)⟩
   ·go_wp2
    go_meet
    exact⟨true,2,ZZ (fun xs=>by simp[mkS]),ZZ (Zai (by omega) (by omega)),ZZ ((d.o.store 2 (.bool true) _ rfl (fun n e=>by simp at e) rfl).store 3 (.int .i64 2) _ rfl (fun n e=>by simp at e) rfl)⟩
  case rest=>
   obtain⟨p,g,aK,av,GS⟩:=hcut;clear aR p1 f1 p2 f2 p3 f3 d;have ag:=ZZ (DIn.start GS.o a);obtain⟨a1,e1⟩:=(GS.o.more ((Below.refl _ _).alloc zL (.cells (Zal (List.replicate a 0)).toArray 3))).box.cell 1;have a2:=fun W=>ZoG W a (by omega)
   have aI:Hid (I64 (kd:Int)):=⟨by omega,by omega⟩
   have ba:a<=128:=by omega
   have a8:Hid (a<=maxLen):=ZZ (by unfold maxLen;omega)
   generalize (Zal (List.replicate a 0)).toArray=Z at *
   go_upto_region 10 with fail
   generalize ((wc.alloc (.cells Z 3)).setCell ⟨w.heap.size+1,1,none⟩ (.slice (some ⟨wc.heap.size,0,none⟩) a a))=W6 at *;clear a2 a1 e1 GS;generalize wc.heap.size=G at *;obtain⟨U,-⟩:=ag.o.sin.box.cell 1;go_wp2
   go_loopw[10,57] (fun th ix wr=>∃ (q:Nat) (f:Value) (m:List UInt8) (E:List Int) (t:Bool),th=.bool t∧ix=.int .i64 (q:Int)∧q<=a∧Hid (DIn w wr kd g p R a G q f m E t)) (fun _ ix _=>a-(intOf ix).toNat)
   case atStart=>exact⟨0,_,_,_,true,rfl,rfl,Nat.zero_le _,ag⟩
   case round=>
    clear ag U;obtain⟨q,f,m,E,t,rfl,rfl,hq,c⟩:=hrel;by_cases aV:q<a
    ·have a5:(q:Int)<(a:Int):=by omega
     obtain⟨U,-⟩:=c.o.sin.box.cell 1;have a9:=c.o.far;have ax:Hid (wr.drew.cell? ⟨w.heap.size+1,1,none⟩=some (.slice (some ⟨G,0,none⟩) a a)):=U;have aC:=ZZ (a7.o m wr.drew f c.o.sin.cap c.o.sin.rd);have aD:=ZZ (fun W' v' Q M hr=>c.o.step (W':=W') (v':=v') aV Q M hr)
     have aE:=ZZ (fun W' Q=>c.o.spot (W':=W') aV Q)
     have aF:=ZZ (fun W' v' Q M hr=>(((c.o.sin.next (W':=W') (v':=v') (m':=behind (Zah m).2 m) Q M hr).box).cell 1).1)
     generalize zag (Zah m).1=x at *;generalize behind (Zah m).2 m=m' at *;generalize decide ((Zah m).2≠0)=t' at *;go_wp2
     go_region_held(fun w'=>w'.cell? ⟨w.heap.size+1,1,none⟩=some (.slice (some ⟨G,0,none⟩) a a)) (first | exact ax.o | exact ak.o | exact aP.o)
      (first
       | (go_at_call 218;refine aC.o.mono ?_;rintro e P ⟨v7,rfl,O,ai,aA⟩;have af:=aA.ofDrew;have ak:Hid (P.cell? ⟨w.heap.size+1,1,none⟩=some (.slice (some ⟨G,0,none⟩) a a)):=aF.o P v7 af O ai;obtain⟨k0,k1⟩:=aE.o P af;have aP:Hid ((P.setCell ⟨G,q,none⟩ (.int .i64 x)).cell? ⟨w.heap.size+1,1,none⟩=some (.slice (some ⟨G,0,none⟩) a a)):=ZZ ((World.cell?_setCell_far P _ _ _ (by show G≠w.heap.size+1;omega)).trans ak.o);have a6:=ZZ (aD.o P v7 af O ai);clear O ai aA af))
     clear ax ak aP aC aD aE aF k0 k1 U a9 c;go_wp2;go_roundw
     case rel=>exact⟨q+1,_,_,_,_,rfl,by go_num,by omega,a6⟩
     case measure=>simp[intOf];omega
    ·have aS:q=a:=by omega
     have a5:¬ (q:Int)<(a:Int):=by omega
     have aB:=c.o.len;have aT:=ZZ (c.o.own a8.o);obtain⟨z,f0⟩:=c.o.sin.res.cell 0;obtain⟨F,f1⟩:=c.o.sin.res.cell 1;obtain⟨A,f2⟩:=c.o.sin.res.cell 2;obtain⟨H,f3⟩:=c.o.sin.res.cell 3;have aa:=ZZ c.o.sin.below;rcases c.o.st with ⟨rfl,u,N,ae⟩ | ⟨rfl,N,ae⟩
     ·have hu:=(Zfk _ _ _ _ N).2.1
      have aO:m.length=R.length-u:=by rw[ae,length_drop]
      have aw:E.take q=E:=List.take_of_length_le (by omega)
      rw[aw,aS] at N;have aj:=ZZ N;have M:=c.o.sin.cap.cell.1;obtain⟨a4,c4,rfl,-⟩:=c.o.sin.rd;have HL:=ZZ (fun W h=>ZtC (w.heap.size+1+1) a4 m.length c4 W h)
      clear N aw ae;by_cases ao:u=R.length
      ·have al:m.length=0:=by omega
       rw[al] at M HL
       have ab:Hid (D=if ZcD ⟨kd,E,p,g⟩ then((⟨kd,E,p,g⟩:St),0) else(ZfQ,1)):=by
        refine ZZ ?_;rw[K.o];unfold Zpb;rw[aj.o];simp only;rw[if_neg (by omega),aK.o]
       have aJ:=ZZ (Zfk _ _ _ _ aj.o).2.2.2;have a0:=ZZ (aT.o.rd aJ.o);have q0:=(c.o.sin.box.cell 0).1;have q1:=(c.o.sin.box.cell 1).1;have q2:=(c.o.sin.box.cell 2).1;have q3:=(c.o.sin.box.cell 3).1;have ap:Hid (Calls prog 82 #[.agg #[.int .i64 kd,.slice (some ⟨G,0,none⟩) a a,.bool p,.int .i64 g]] wr fun e w'=>e=.returned (.bool (decide (ZcD ⟨kd,E,p,g⟩)))∧Below wr.heap.size wr w'):=Zol _ ⟨kd,E,p,g⟩ _ ⟨_,rfl,a0.o,aI.o,av.o⟩
       clear ao aO al aB K aK
       go_wp2_with fail
       refine(HL.o _ M).mono ?_;rintro e W8 ⟨rfl,rfl⟩
       go_wp2_with fail
       refine ap.o.mono ?_;rintro e P ⟨rfl,O⟩;have B:=ZZ (c.o.sin.more O);have aZ:=ZZ (aT.o.below O zL);clear O z F A H f0 f1 f2 f3 q0 q1 q2 q3 M ap HL;obtain⟨z,f0⟩:=B.o.res.cell 0;obtain⟨F,f1⟩:=B.o.res.cell 1;obtain⟨A,f2⟩:=B.o.res.cell 2;obtain⟨H,f3⟩:=B.o.res.cell 3;have q0:=(B.o.box.cell 0).1;have q1:=(B.o.box.cell 1).1;have q2:=(B.o.box.cell 2).1;have q3:=(B.o.box.cell 3).1;by_cases hm:ZcD ⟨kd,E,p,g⟩
       ·rw[decide_eq_true hm]
        have V:Hid (D=((⟨kd,E,p,g⟩:St),0)):=ab.o.trans (if_pos hm);clear hm ab;go_wp2;refine bodyPost_ret (v:=.tuple #[.agg #[.int .i64 kd,.slice (some ⟨G,0,none⟩) a a,.bool p,.int .i64 g],.int .i64 0]) (by simp[results,Tryz.results164,go_sem,z,F,A,H]) rfl ?_
        rw[V.o];refine⟨_,rfl,(aZ.o.four w.heap.size (by omega) _ _ _ _).rd aJ.o,aI.o,av.o,fun b Q=>?_,ZcP B.o.below w.heap.size zL _ _ _ _⟩
        have:=aZ.o.fresh b Q;omega
       ·rw[decide_eq_false hm]
        have V:Hid (D=(ZfQ,1)):=ab.o.trans (if_neg hm);clear hm ab;go_wp2;refine bodyPost_ret (v:=.tuple #[.agg #[.int .i64 0,.slice none 0 0,.bool false,.int .i64 0],.int .i64 1]) (by simp[results,Tryz.results164,go_sem,z,F,A,H]) rfl ?_
        rw[V.o];exact Zdp.zero 1 (ZcP B.o.below w.heap.size zL _ _ _ _)
      ·have al:(0:Int)<(m.length:Int):=by omega
       have V:Hid (D=(ZfQ,3)):=by
        refine ZZ ?_;rw[K.o];unfold Zpb;rw[aj.o];simp only;rw[if_pos ao]
       clear ao aO aB K
       go_wp2_with fail
       refine(HL.o _ M).mono ?_;rintro e W8 ⟨rfl,rfl⟩;go_wp2;refine bodyPost_ret (v:=.tuple #[.agg #[.int .i64 0,.slice none 0 0,.bool false,.int .i64 0],.int .i64 3]) (by simp[results,Tryz.results164,go_sem,z,F,A,H]) rfl ?_
       rw[V.o];exact Zdp.zero 3 (ZcP aa.o w.heap.size zL _ _ _ _)
     ·rw[aS] at N
      have V:Hid (D=(ZfQ,3)):=by
       refine ZZ ?_;rw[K.o];unfold Zpb;rw[N]
      clear N ae c;go_wp2;refine bodyPost_ret (v:=.tuple #[.agg #[.int .i64 0,.slice none 0 0,.bool false,.int .i64 0],.int .i64 3]) (by simp[results,Tryz.results164,go_sem,z,F,A,H]) rfl ?_
      rw[V.o];exact Zdp.zero 3 (ZcP aa.o w.heap.size zL _ _ _ _)
end Go.Proofs.YtnahjngbneicaaaGreatDoor
