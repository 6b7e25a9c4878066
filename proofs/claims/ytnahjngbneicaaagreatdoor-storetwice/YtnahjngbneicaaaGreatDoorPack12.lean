import Derived.Test.YtnahjngbneicaaaGreatDoorPack11
namespace Go.Proofs.YtnahjngbneicaaaGreatDoor
open _root_.Go.Proofs.Tryz
open List (drop_drop length_append length_drop mem_cons mem_of_mem_take)
set_option maxHeartbeats 8000000
set_option maxRecDepth 100000
open Go.RowKit
variable {d e v v' x:Value} {G T b k n u:Nat} {W W' X w w':World} {R l m m':List UInt8} {cs:Array Value} {a c g kd:Int} {xs:List Int} {i:Bool}
theorem Zil {K:Nat->Prop} {pd p:Nat} {s:Sto} {d:Dk} {N:Nat} (vl:Value) (l:List Rec) (w:World) (h:SD K w pd p s d N T) (hK:∀ k,K k->k<w.heap.size) (B:OkS s) (hr:RdR w vl l) (aF:l=[]∨∀ k,vl.ownBlock=some k->K k)
 (a9:s.log.pcs.length<=500000) (bf:s.log.recs.length<=5000000) (hN:N<=900000) (hT:T<=900000000):
 Calls prog 22 #[ptr p,vl] w fun e w'=>Z6 K w pd p (Yn l (s,d)) (N+2) (T+30000) e w':=by
 have ay:=ZZ (ZbB vl l w hr);have HS:=ZZ h;have HK:=ZZ hK
 have aL:Hid (∀ W,Below w.heap.size w W->Calls prog 14 #[ptr p] W fun e w'=>e=.returned (.int .i64 s.next)∧Below w.heap.size w w'):=ZZ (fun W f=>((HS.o.below f).next B.num).mono (by
  rintro e w' ⟨rfl,x⟩
  exact⟨rfl,f.trans (x.mono f.size)⟩))
 obtain⟨Q,ar⟩:∃ Q,Q=Yn l (s,d):=⟨_,rfl⟩;rw[<-ar];have aC:=ZZ ar;have aU:Hid (∀ W c,Below w.heap.size w W->Z6 K w pd p ((s,d),c) (N+2) (T+30000) (.returned (.int .i64 c)) W):=ZZ (fun W c f=>⟨rfl,(HS.o.below f).mono (by omega) (by omega),Qj.ofBelow f⟩)
 by_cases m:Yc l
 case neg=>
  rw[decide_eq_false m] at ay;have HR:Hid (Q=((s,d),1)):=ZZ (by rw[aC.o];unfold Yn;rw[if_pos m])
  obtain⟨ra,rc,rfl,-⟩:=hr;clear h hK B aF ar m
  go_enter func22,ntmps22
  go_wp2_with fail
  refine ay.o.mono ?_;rintro e W1 ⟨rfl,z⟩;have aV:=ZZ z;clear z;go_wp2;go_ret;rw[HR.o];exact aU.o W1 1 aV.o
 rw[decide_eq_true m] at ay;have bo:=ZZ hr;have bI:=ZZ aF;have aB:1<=l.length:=m.1;have bj:l.length<=256:=m.2.1;obtain⟨ra,rc,rfl,bp,bu,-,bc,ca⟩:=hr;rcases ca with h0 | ⟨b,av,rfl,aK⟩
 ·rw[h0] at aB;simp at aB
 have aI:l.getD 0 Qi=l.headD Qi:=by cases l <;> rfl
 have ag:Hid (∀ W,Below w.heap.size w W->W.cell? ⟨b,av,none⟩=some (.int .i64 (l.headD Qi).idx)):=ZZ (fun W f=>by
  have i:=(aK 0 (by omega)).keep (f.block b (aK 0 (by omega)).lt)
  have h1:=i.1;rw[aI,Nat.zero_mul,Nat.add_zero] at h1
  exact h1)
 have aH:Hid (∀ W,Below w.heap.size w W->Below w.heap.size w W.drew):=ZZ (fun W f=>f.drew)
 by_cases P:(l.headD Qi).idx=s.next
 case neg=>
  have HR:Hid (Q=((s,d),15)):=ZZ (by rw[aC.o];unfold Yn;rw[if_neg (fun t=>t m),if_pos P])
  have af:((l.headD Qi).idx != s.next)=true:=by rw[bne_iff_ne];exact P
  have bU:(0:Int)<(l.length:Int):=by omega
  generalize s.next=nx at *;generalize (l.headD Qi).idx=R at *;clear h hK B aF ar m aK aI bc P
  go_enter func22,ntmps22
  go_wp2_with fail
  refine ay.o.mono ?_;rintro e W1 ⟨rfl,z⟩;have aV:=ZZ z;have ac:=ZZ (aH.o W1 z);clear z
  go_upto_region 3 with fail
  go_cut[12] (fun v wc=>v=.bool true∧Hid (Below w.heap.size w wc))
  case first=>
   go_region_held(fun W=>W.cell? ⟨b,av,none⟩=some (.int .i64 R))
    (first | (with_reducible exact ag.o _ ac.o) | (with_reducible exact ag.o _ A.o))
    (first | (go_at_call 14;refine(aL.o _ ac.o).mono ?_;rintro e W2 ⟨rfl,ab⟩;have A:=ZZ ab;clear ab))
   all_goals
    go_wp2_with fail
    go_meet
    exact⟨by first | rfl | (rw[af]),A⟩
  case rest=>
   obtain⟨rfl,HB⟩:=hcut;go_wp2;go_ret;rw[HR.o];exact aU.o _ 15 HB.o
 have af:((l.headD Qi).idx != s.next)=false:=by rw[P];simp
 have aS:Qw (l.headD Qi):=by
  rw[<-aI];rw[show l.getD 0 Qi=l[0]'(by omega) by simp[List.getD,show 0<l.length by omega]]
  exact m.2.2.1 _ (List.getElem_mem _)
 have bk:0<=s.next:=by rw[<-P];exact aS.2.1
 have a1:s.next<4611686018427387904:=by rw[<-P];exact aS.2.2.1
 have aY:0<=s.now.st.kind∧s.now.st.kind<6:=⟨B.now.1.2.2.2.1,B.now.1.2.2.2.2.1⟩;have bA:=ZrX m aY a1;obtain⟨g,au⟩:∃ g,g=Zcw s d:=⟨_,rfl⟩;obtain⟨BA,ad⟩:∃ BA,BA=Zbl s l:=⟨_,rfl⟩;obtain⟨⟨D,c⟩,hD⟩:∃ r,r=Xe d g BA:=⟨_,rfl⟩
 have a4:I64 g:=by
  rw[au];unfold Zcw;split
  ·obtain⟨F,M,I,L,⟨L1,g1,g2,-⟩,-⟩:=h
   exact ZcP g2 2 (by decide) (by decide)
  ·exact B.cu
 have aw:Hid (Q=if c=0 then((Z2 s g l,D),0) else((s,D),c)):=ZZ (by
  rw[aC.o];unfold Yn;rw[if_neg (fun t=>t m),if_neg (fun t=>t P)]
  dsimp only
  rw[<-au,<-ad,<-hD])
 have bl:Hid (∀ W,Below w.heap.size w W->Calls prog 49 #[.slice (some ⟨b,av,none⟩) l.length rc] W fun e w'=>∃ v',e=.returned v'∧Own w' w.heap.size v' (Qe (Y2 l))∧Below w.heap.size w w'):=ZZ (fun W f=>(Zjk _ l W (bo.o.below f zL) m (by have:=Znc m;omega)).mono (by
  rintro e w' ⟨v',rfl,j,x⟩
  exact⟨v',rfl,j.mono f.size,f.trans (x.mono f.size)⟩))
 have J:Hid (∀ W,Below w.heap.size w W->W.cell? ⟨p,0,none⟩=some (ptr pd)∧W.cell? ⟨p,12,none⟩=some (.int .i64 s.cur)):=ZZ (fun W f=>by
  obtain⟨⟨c0,-,bH,-⟩,-⟩:=(HS.o.below f).cells
  exact⟨c0,bH⟩)
 have bi:Hid (∀ vB W,Own W w.heap.size vB BA->Below w.heap.size w W->Calls prog 52 #[ptr pd,.int .i64 g,vB] W fun e w'=>e=.returned (.int .i64 c)∧SD K w' pd p s D (N+2) (T+30000)∧Qj (fun k=>¬ K k) w w'):=ZZ (fun vB W j f=>by
  refine((HS.o.fresh f).disk (c:=c) (d':=D) (N':=N+2) (T':=T+30000) (fun k hk=>?_) (fun F hF bL=>?_)).mono ?_
  ·rcases hk with hk | hk
   ·exact Nat.lt_of_lt_of_le (HK.o k hk) f.size
   ·exact hk.2
  ·have:=ZjC g a4 vB BA W hF j.rd (.inr fun k hk m=>bL k m (.inr ⟨(World.ownsRow.lt j k hk).1,(World.ownsRow.lt j k hk).2⟩)) (by omega) (by omega) (by rw[ad];omega)
   rw[<-hD] at this;refine this.mono ?_;rintro e w' ⟨g0,F',g1,g2⟩;exact⟨g0,F',g1.mono zL (by rw[ad];omega),g2⟩
  ·rintro e w' ⟨he,Y,bO⟩
   exact⟨he,Y.less (fun k hk=>.inl hk),(Qj.ofBelow f).trans (bO.mono (fun k hk hn=>hk (.inl hn))) (fun _ _ t=>t)⟩)
 have E:Hid (∀ W,Qj (fun k=>¬ K k) w W->RdR W (.slice (some ⟨b,av,none⟩) l.length rc) l∧∀ k,K k->k<W.heap.size):=ZZ (fun W j=>⟨bo.o.keepK bI.o j,fun k hk=>Nat.lt_of_lt_of_le (HK.o k hk) j.size⟩)
 have G:=ZZ B;have aR:=ZZ (And.intro a9 bf);have aX:=ZZ (And.intro aB bj);have bU:(0:Int)<(l.length:Int):=by omega
 have cb:(l.length:Int)<=256:=by omega
 by_cases y:s.cur=0
 ·have aT:(s.cur == 0)=true:=by rw[y];rfl
  have aq:Hid (g=Ya d 2):=ZZ (by rw[au];unfold Zcw;rw[if_pos y])
  have aW:Hid (BA=Qe (X6 3 s.now.st.kind.toNat s.next.toNat)++Qe (Y2 l)):=ZZ (by rw[ad];unfold Zbl;rw[if_pos y])
  have bV:Hid ((Qe (X6 3 s.now.st.kind.toNat s.next.toNat)).length+(Qe (Y2 l)).length<=70368744177664):=ZZ (by
   rw[<-length_append,<-aW.o,ad]
   omega)
  have b3:Hid (∀ W,Below w.heap.size w W->Calls prog 50 #[ptr p,.int .i64 2] W fun e w'=>e=.returned (.int .i64 g)∧Below w.heap.size w w'∧Below W.heap.size W w'):=ZZ (fun W f=>by
   obtain⟨F,M,I,L,h1,h2,-⟩:=HS.o.below f;rw[aq.o];refine(ZfX 2 W h2 h1 (by omega) (by decide) (by decide)).mono ?_
   rintro e w' ⟨rfl,x⟩
   exact⟨rfl,f.trans (x.mono f.size),x⟩)
  have b2:Hid (∀ W,Below w.heap.size w W->Calls prog 51 #[ptr p] W fun e w'=>∃ v',e=.returned v'∧Own w' w.heap.size v' (Qe (X6 3 s.now.st.kind.toNat s.next.toNat))∧Below w.heap.size w w'∧Below W.heap.size W w'):=ZZ (fun W f=>by
   obtain⟨F,M,I,L,h1,h2,-⟩:=HS.o.below f;refine(Zln W h2 B.num aY a1 bk).mono ?_;rintro e w' ⟨v',rfl,j,x⟩
   exact⟨v',rfl,j.mono f.size,f.trans (x.mono f.size),x⟩)
  have a2:Hid (∀ W,SD K W pd p { s with log:=(s.log.start g s.next).add l,now:=(Xa s.now l).1,cur:=g,nw:=true } D (N+2) (T+30000)->Qj (fun k=>¬ K k) w W->c=0->Z6 K w pd p Q (N+2) (T+30000) (.returned (.int .i64 0)) W):=ZZ (fun W Y j i=>by
   rw[aw.o,if_pos i];refine⟨rfl,?_,j⟩;have e1:Z2 s g l={ s with log:=(s.log.start g s.next).add l,now:=(Xa s.now l).1,cur:=g,nw:=true }:=by unfold Z2;rw[if_pos y,if_pos y]
   rw[e1]
   exact Y)
  have bd:Hid (∀ W,SD K W pd p s D (N+2) (T+30000)->Qj (fun k=>¬ K k) w W->c≠0->Z6 K w pd p Q (N+2) (T+30000) (.returned (.int .i64 c)) W):=ZZ (fun W Y j i=>by
   rw[aw.o,if_neg i]
   exact⟨rfl,Y,j⟩)
  have bB:Hid (s.cur≠0->s.log.pcs.length≠0):=ZZ B.cur;have bz:=ZZ y;obtain⟨nx,aj⟩:∃ nx,nx=s.next:=⟨_,rfl⟩;obtain⟨R,aQ⟩:∃ R,R=(l.headD Qi).idx:=⟨_,rfl⟩;rw[<-aj] at aL af;rw[<-aQ] at ag af;have aZ:=ZZ aj;obtain⟨C,ai⟩:∃ C,C=s.cur:=⟨_,rfl⟩;rw[<-ai] at J aT;have bv:=ZZ ai;clear ai;clear h hK B aF ar m aK aI bc P aj aQ hD ad au y aC aw aS bA a4 aY bk a1 a9 bf bp bu aB bj aU
  go_enter func22,ntmps22
  go_wp2_with fail
  refine ay.o.mono ?_;rintro e W1 ⟨rfl,z⟩;have aV:=ZZ z;have ac:=ZZ (aH.o W1 z);clear z
  go_upto_region 3 with fail
  go_cut[12] (fun v wc=>v=.bool false∧Hid (Below w.heap.size w wc))
  case first=>
   go_region_held(fun W=>W.cell? ⟨b,av,none⟩=some (.int .i64 R))
    (first | (with_reducible exact ag.o _ ac.o) | (with_reducible exact ag.o _ A.o))
    (first | (go_at_call 14;refine(aL.o _ ac.o).mono ?_;rintro e W2 ⟨rfl,ab⟩;have A:=ZZ ab;clear ab))
   all_goals
    go_wp2_with fail
    go_meet
    exact⟨by first | rfl | (rw[af]),A⟩
  case rest=>
  obtain⟨W2,rfl⟩:∃ W,W=wc:=⟨_,rfl⟩;obtain⟨rfl,A⟩:=hcut;have aE:=ZZ (aH.o W2 A.o)
  go_upto_region 5 with fail
  go_cut[5,6] (fun v5 v6 wc=>v5=.int .i64 C∧(∃ a n c,v6=.slice a n c)∧Hid (Own wc w.heap.size v6 (Qe (Y2 l)))∧Hid (Below w.heap.size w wc))
  case first=>
   go_region_held(fun W=>W.cell? ⟨p,12,none⟩=some (.int .i64 C))
    (first | (with_reducible exact(J.o _ aE.o).2) | (with_reducible exact(J.o _ H.o).2))
    (first | (go_at_call 49;refine(bl.o _ aE.o).mono ?_;rintro e U ⟨v3,rfl,am,aN⟩;have ao:=ZZ am;have H:=ZZ aN;obtain⟨z1,z2,z3,hz⟩:∃ a n c,v3=Value.slice a n c:=(by obtain⟨a,c,t⟩:=am.shape;exact⟨a,_,c,t⟩);subst hz;clear am aN))
   all_goals
    go_wp2_with fail
    go_meet
    exact⟨rfl,⟨_,_,_,rfl⟩,ao,H⟩
  case rest=>
  obtain⟨U,rfl⟩:∃ W,W=wc:=⟨_,rfl⟩;obtain⟨rfl,⟨z1,z2,z3,rfl⟩,ao,H⟩:=hcut;obtain⟨q0,az⟩:=J.o U H.o
  go_wp2_with fail
  refine(b3.o U H.o).mono ?_;rintro e W4 ⟨rfl,br,bn⟩;have bR:=ZZ br;have bW:=ZZ bn;clear bn;have b5:Hid (Own W4 w.heap.size (.slice z1 z2 z3) (Qe (Y2 l))):=ZZ (ao.o.below (show Below U.heap.size U W4 from bW.o) zL);clear br q0 az
  go_wp2_with fail
  refine(b2.o W4 bR.o).mono ?_;rintro e W5 ⟨v5,rfl,a5,a6,bx⟩;have bX:=ZZ a6;have b0:=ZZ bx;clear bx;have bK:=ZZ a5;have bG:Hid (Rd W5 (.slice z1 z2 z3) (Qe (Y2 l))):=ZZ (b5.o.rd.below (show Below W4.heap.size W4 W5 from b0.o) zL);have b1:Hid (w.heap.size<=W5.heap.size):=ZZ a6.size
  obtain⟨y1,y2,y3,hy⟩:∃ a n c,v5=Value.slice a n c:=by
   obtain⟨a,c,t⟩:=a5.shape;exact⟨a,_,c,t⟩
  subst hy;clear a5 a6
  go_wp2_with(at_builtin;refine Xi _ rfl _ _ rfl w.heap.size _ _ rfl bK.o _ (Qe (Y2 l)) rfl bG.o bV.o b1.o ?_)
  intro v6 W6 a0 bD;rw[<-aW.o] at a0;have b9:=ZZ a0;have bF:Hid (Below w.heap.size w W6):=ZZ (bX.o.trans bD)
  obtain⟨x1,x2,x3,b7⟩:∃ a n c,v6=Value.slice a n c:=by
   obtain⟨a,c,t⟩:=a0.shape;exact⟨a,_,c,t⟩
  subst b7;obtain⟨q0,az⟩:=J.o W6 bF.o;clear a0 bD
  go_wp2_with fail
  refine(bi.o _ W6 b9.o bF.o).mono ?_;rintro e u ⟨rfl,ap,aP⟩;have an:=ZZ ap;have ax:=ZZ aP;obtain⟨⟨-,-,V,ae⟩,X⟩:=ap.cells;clear ap aP q0 az;by_cases i:c=0
  case neg=>
   have bP:(c != 0)=true:=by rw[bne_iff_ne];exact i
   have HE:=ZZ (bd.o u an.o ax.o i);clear i X V ae;go_wp2;go_ret;exact HE.o
  have bT:=ZZ i;subst i;rw[<-bv.o] at V;have bS:=ZZ (an.o.next G.o.num);rw[<-aZ.o] at bS
  have bZ:Hid (∀ W,Below u.heap.size u W->Calls prog 53 #[.pointer (some ⟨p,1,none⟩),.int .i64 g,.int .i64 nx] W fun e w'=>e=.returned (.tuple #[])∧SD K w' pd p { s with log:=s.log.start g s.next } D (N+2) (T+30000)∧Qj (fun k=>¬ K k) w w'):=ZZ (fun W f=>by
   have x:=(an.o.below f).begin (fun k hk=>Nat.lt_of_lt_of_le ((E.o u ax.o).2 k hk) f.size) g nx (by have:=aR.o.1;omega)
   rw[aZ.o] at x ⊢;refine x.mono ?_;rintro e w' ⟨he,h2,h3⟩
   exact⟨he,h2,(ax.o.trans (Qj.ofBelow (F:=fun _=>False) f) (fun _ _ h=>h.elim)).trans h3 (fun _ _ h=>h)⟩)
  have b8:Hid (Below u.heap.size u u.drew):=ZZ (Below.refl _ _).drew
  have b4:Hid (∀ W,Below u.heap.size u W->Calls prog 14 #[ptr p] W fun e w'=>e=.returned (.int .i64 nx)∧Below u.heap.size u w'):=ZZ (fun W f=>by
   rw[aZ.o];refine((an.o.below f).next G.o.num).mono ?_;rintro e w' ⟨rfl,x⟩
   exact⟨rfl,f.trans (x.mono f.size)⟩)
  go_upto_region 12 with fail
  go_cut[] (fun wc=>Hid (SD K wc pd p { s with log:=s.log.start g s.next } D (N+2) (T+30000)∧Qj (fun k=>¬ K k) w wc))
  case first=>
   go_region_with
    (first
     | (go_at_call 14;refine(b4.o _ (by first | exact b8.o | exact Below.refl _ _)).mono ?_;rintro e W8 ⟨rfl,bw⟩;have bM:=ZZ bw;clear bw)
     | (go_at_call 53;refine(bZ.o W8 bM.o).mono ?_;rintro e W9 ⟨rfl,bm,bC⟩;have aa:=ZZ (And.intro bm bC);clear bm bC))
   all_goals
    go_wp2_with fail
    go_meet
    exact aa
  case rest=>
  obtain⟨W9,rfl⟩:∃ W,W=wc:=⟨_,rfl⟩;have aa:=hcut;clear hcut X V ae;obtain⟨⟨-,-,V,ae⟩,X⟩:=aa.o.1.cells;have bN:=X 12;have bY:=X 13;have a3:=ZZ (((aa.o.1.setHead (s':={ s with log:=s.log.start g s.next,cur:=g }) (E.o W9 aa.o.2).2 12 (.int .i64 g) rfl rfl rfl (fun _=>rfl))))
  have a7:=ZZ (a3.o.1.setHead (s':={ s with log:=s.log.start g s.next,cur:=g,nw:=true }) (fun k hk=>by have:=(E.o W9 aa.o.2).2 k hk;simpa using this) 13 (.bool true) rfl rfl rfl (fun _=>rfl))
  obtain⟨S,be⟩:∃ S,S=(W9.setCell ⟨p,12,none⟩ (.int .i64 g)).setCell ⟨p,13,none⟩ (.bool true):=⟨_,rfl⟩;have O:Hid (SD K S pd p { s with log:=s.log.start g s.next,cur:=g,nw:=true } D (N+2) (T+30000)∧Qj (fun k=>¬ K k) w S):=ZZ (by rw[be];exact⟨a7.o.1,(aa.o.2.trans a3.o.2 (fun _ _ h=>h)).trans a7.o.2 (fun _ _ h=>h)⟩)
  have bq:({ s with log:=s.log.start g s.next }:Sto).cur=C:=bv.o.symm
  rw[bq] at V;have bE:({ s with log:=s.log.start g s.next }:Sto).nw=s.nw:=rfl
  rw[bE] at ae;clear bq bE X
  go_upto_region 14 with fail
  rw[<-be];clear be V ae bN bY aa a3 a7
  have aM:=ZZ (O.o.1.add (E.o S O.o.2).2 _ l (E.o S O.o.2).1 (by simp[Lgb.start]) (by have:=aR.o.1;simp[Lgb.start];omega) (by have:=aR.o.2;have:=aX.o.2;show s.log.recs.length+l.length<=_;omega) (fun q hq=>by
   have bb:=G.o.log.start g s.next (by have:=G.o.log.f0;have:=ZcF G.o.log.ch;show 0<=s.log.next;omega) G.o.log.top (.inr rfl)
   have:=ZbN bb.ch q hq;have:=bb.f0;have:=bb.top
   omega))
  go_wp2_with fail
  refine aM.o.mono ?_;rintro e Z ⟨rfl,aJ,aA⟩;have ba:Hid (SD K Z pd p { s with log:=(s.log.start g s.next).add l,cur:=g,nw:=true } D (N+2) (T+30000)):=ZZ aJ
  have ak:Hid (Qj (fun k=>¬ K k) w Z):=ZZ (O.o.2.trans aA (fun _ _ h=>h))
  clear aJ aA aM;obtain⟨la,ln,lc,ta,tn,tc,⟨c5,c6,c7,c8,c9,a8⟩,aG⟩:=ba.o.takes (E.o Z ak.o).2 G.o.now _ l (E.o Z ak.o).1 (by have:=aX.o.2;omega)
  have al:=ZZ aG;clear aG
  dsimp only at c5 c6 c8 c9 al
  go_wp2_with fail
  refine al.o.mono ?_;rintro e WC ⟨xa,xn,xc,ua,un,uc,rfl,⟨e5,e6,e7,e8,e9,b6⟩,fz,aO,aD⟩;have bg:=ZZ (a2.o _ aO (ak.o.trans aD (fun _ _ h=>h)) (by first | rfl | trivial))
  have f5:=fz 5;have f6:=fz 6;have f7:=fz 7;have f8:=fz 8;have f9:=fz 9;have bQ:=fz 10;clear aO aD fz c5 c6 c7 c8 c9 a8 al;generalize Xa s.now l=tk at *;go_wp2;go_ret;exact bg.o
 ·have aT:(s.cur == 0)=false:=beq_eq_false_iff_ne.2 y
  have aq:Hid (g=s.cur):=ZZ (by rw[au];unfold Zcw;rw[if_neg y])
  have aW:Hid (BA=Qe (Y2 l)):=ZZ (by rw[ad];unfold Zbl;rw[if_neg y])
  rw[<-aW.o] at bl;rw[<-aq.o] at J
  have a2:Hid (∀ W,SD K W pd p { s with log:=s.log.add l,now:=(Xa s.now l).1 } D (N+2) (T+30000)->Qj (fun k=>¬ K k) w W->c=0->Z6 K w pd p Q (N+2) (T+30000) (.returned (.int .i64 0)) W):=ZZ (fun W Y j i=>by
   rw[aw.o,if_pos i];refine⟨rfl,?_,j⟩;have e1:Z2 s g l={ s with log:=s.log.add l,now:=(Xa s.now l).1 }:=by unfold Z2;rw[if_neg y,if_neg y,aq.o]
   rw[e1]
   exact Y)
  rw[<-aq.o] at aT
  have bd:Hid (∀ W,SD K W pd p s D (N+2) (T+30000)->Qj (fun k=>¬ K k) w W->c≠0->Z6 K w pd p Q (N+2) (T+30000) (.returned (.int .i64 c)) W):=ZZ (fun W Y j i=>by
   rw[aw.o,if_neg i]
   exact⟨rfl,Y,j⟩)
  have bB:Hid (s.cur≠0->s.log.pcs.length≠0):=ZZ B.cur;have bz:=ZZ y;obtain⟨nx,aj⟩:∃ nx,nx=s.next:=⟨_,rfl⟩;obtain⟨R,aQ⟩:∃ R,R=(l.headD Qi).idx:=⟨_,rfl⟩;rw[<-aj] at aL af;rw[<-aQ] at ag af;have aZ:=ZZ aj;obtain⟨C,ai⟩:∃ C,C=g:=⟨_,rfl⟩;have bJ:Hid (s.cur=C):=ZZ (by rw[ai,aq.o])
  rw[<-ai] at J aT bi;clear ai;clear h hK B aF ar m aK aI bc P aj aQ hD ad au y aC aw aS bA a4 aY bk a1 a9 bf bp bu aB bj aU
  go_enter func22,ntmps22
  go_wp2_with fail
  refine ay.o.mono ?_;rintro e W1 ⟨rfl,z⟩;have aV:=ZZ z;have ac:=ZZ (aH.o W1 z);clear z
  go_upto_region 3 with fail
  go_cut[12] (fun v wc=>v=.bool false∧Hid (Below w.heap.size w wc))
  case first=>
   go_region_held(fun W=>W.cell? ⟨b,av,none⟩=some (.int .i64 R))
    (first | (with_reducible exact ag.o _ ac.o) | (with_reducible exact ag.o _ A.o))
    (first | (go_at_call 14;refine(aL.o _ ac.o).mono ?_;rintro e W2 ⟨rfl,ab⟩;have A:=ZZ ab;clear ab))
   all_goals
    go_wp2_with fail
    go_meet
    exact⟨by first | rfl | (rw[af]),A⟩
  case rest=>
  obtain⟨W2,rfl⟩:∃ W,W=wc:=⟨_,rfl⟩;obtain⟨rfl,A⟩:=hcut;have aE:=ZZ (aH.o W2 A.o)
  go_upto_region 5 with fail
  go_cut[5,6] (fun v5 v6 wc=>v5=.int .i64 C∧(∃ a n c,v6=.slice a n c)∧Hid (Own wc w.heap.size v6 BA)∧Hid (Below w.heap.size w wc))
  case first=>
   go_region_held(fun W=>W.cell? ⟨p,12,none⟩=some (.int .i64 C))
    (first | (with_reducible exact(J.o _ aE.o).2) | (with_reducible exact(J.o _ H.o).2))
    (first | (go_at_call 49;refine(bl.o _ aE.o).mono ?_;rintro e U ⟨v3,rfl,am,aN⟩;have ao:=ZZ am;have H:=ZZ aN;obtain⟨z1,z2,z3,hz⟩:∃ a n c,v3=Value.slice a n c:=(by obtain⟨a,c,t⟩:=am.shape;exact⟨a,_,c,t⟩);subst hz;clear am aN))
   all_goals
    go_wp2_with fail
    go_meet
    exact⟨rfl,⟨_,_,_,rfl⟩,ao,H⟩
  case rest=>
  obtain⟨U,rfl⟩:∃ W,W=wc:=⟨_,rfl⟩;obtain⟨rfl,⟨z1,z2,z3,rfl⟩,ao,H⟩:=hcut;obtain⟨q0,az⟩:=J.o U H.o
  go_wp2_with fail
  refine(bi.o _ U ao.o H.o).mono ?_;rintro e u ⟨rfl,ap,aP⟩;have an:=ZZ ap;have ax:=ZZ aP;obtain⟨⟨-,-,V,ae⟩,X⟩:=ap.cells;clear ap aP q0 az;by_cases i:c=0
  case neg=>
   have bP:(c != 0)=true:=by rw[bne_iff_ne];exact i
   have HE:=ZZ (bd.o u an.o ax.o i);clear i X V ae;go_wp2;go_ret;exact HE.o
  have bT:=ZZ i;subst i;obtain⟨S,rfl⟩:∃ W,W=u:=⟨_,rfl⟩;have O:=ZZ (And.intro an.o ax.o)
  have aM:=ZZ (O.o.1.add (E.o S O.o.2).2 _ l (E.o S O.o.2).1 (bB.o bz.o) (by have:=aR.o.1;omega) (by have:=aR.o.2;have:=aX.o.2;omega) (fun q hq=>by
   have:=ZbN G.o.log.ch q hq;have:=G.o.log.f0;have:=G.o.log.top
   omega))
  clear X ae;have bt:s.cur=C:=bJ.o;rw[bt] at V;clear bt
  go_wp2_with fail
  refine aM.o.mono ?_;rintro e Z ⟨rfl,aJ,aA⟩;have ba:Hid (SD K Z pd p { s with log:=s.log.add l } D (N+2) (T+30000)):=ZZ aJ
  have ak:Hid (Qj (fun k=>¬ K k) w Z):=ZZ (O.o.2.trans aA (fun _ _ h=>h))
  clear aJ aA aM;obtain⟨la,ln,lc,ta,tn,tc,⟨c5,c6,c7,c8,c9,a8⟩,aG⟩:=ba.o.takes (E.o Z ak.o).2 G.o.now _ l (E.o Z ak.o).1 (by have:=aX.o.2;omega)
  have al:=ZZ aG;clear aG
  dsimp only at c5 c6 c8 c9 al
  go_wp2_with fail
  refine al.o.mono ?_;rintro e WC ⟨xa,xn,xc,ua,un,uc,rfl,⟨e5,e6,e7,e8,e9,b6⟩,fz,aO,aD⟩;have bg:=ZZ (a2.o _ aO (ak.o.trans aD (fun _ _ h=>h)) (by first | rfl | trivial))
  have f5:=fz 5;have f6:=fz 6;have f7:=fz 7;have f8:=fz 8;have f9:=fz 9;have bQ:=fz 10;clear aO aD fz c5 c6 c7 c8 c9 a8 al;generalize Xa s.now l=tk at *;go_wp2;go_ret;exact bg.o
def Bb (w:World) (b:Nat) (v:Value):Prop:=w.heap[b]?=some (.cells #[v] 53 (0,0))
theorem Bb.lt (h:Bb w b v):b<w.heap.size:=(Array.getElem?_eq_some_iff.1 h).1
theorem Bb.cell (h:Bb w b v):w.cell? ⟨b,0,none⟩=some v∧w.frozen? ⟨b,0,none⟩=false:=
 ⟨(cell_of_row w b 0 _ _ _ h).trans rfl,frozen_of_row w b 0 _ _ h⟩
theorem Bb.set (h:Bb w b v) (x:Value):Bb (w.setCell ⟨b,0,none⟩ x) b x:=by
 have:=heap_setCell_same w b 0 _ _ x h;unfold Bb;simpa using this
theorem Rd.setBox (h:Rd w v m) {b:Nat} {ao:Option Addr} {n cap:Nat} (d:w.cell? ⟨b,0,none⟩=some (.slice ao n cap)):Rd (w.setCell ⟨b,0,none⟩ x) v m:=by
 obtain⟨k,l,u,p,i,z,a⟩:=h;refine⟨k,l,u,p,i,z,?_⟩;rcases a with a | ⟨c,f,y,q⟩
 ·exact .inl a
 ·refine .inr ⟨c,f,y,fun j t=>?_⟩
  have g:=q j t
  rw[World.cell?_setCell_other w ⟨b,0,none⟩ ⟨c,f+j,none⟩ x (fun e=>by
   rw[e,g] at d
   cases d)]
  exact g
def behind (d:Nat) (m:List UInt8):List UInt8:=if d=0 then[] else m.drop d
theorem Zim (ao:Option Addr) (n cap:Nat) (w:World):
 Calls prog 200 #[.slice ao n cap] w fun e w'=>e=.returned (.tuple #[.func (.func 218) #[] #[.pointer (some ⟨w.heap.size,0,none⟩)],.func (.func 219) #[] #[.pointer (some ⟨w.heap.size,0,none⟩)]])∧w'=w.alloc (.cells #[.slice ao n cap] 53):=by
 have a:∀ (fn:Fn) (first cap:Array Value) (w:World),(Instr.makeFunc fn first cap).run prog w=.ok (.func fn first cap) w:=fun _ _ _ _=>rfl
 go_enter func200,ntmps200
 go_wp2;go_ret2;exact⟨rfl,rfl⟩
theorem Zqm (b:Nat) (ao:Option Addr) (n cap:Nat) (w:World) (a:w.cell? ⟨b,0,none⟩=some (.slice ao n cap)):
 Calls prog 219 #[.pointer (some ⟨b,0,none⟩)] w fun e w'=>e=.returned (.int .i64 (n:Int))∧w'=w:=by
 go_enter func219,ntmps219
 go_wp2;go_ret;exact⟨rfl,rfl⟩
theorem Zqn (x:Int) (d:Nat) (b:Nat) (v:Value) (m:List UInt8) (w:World) (a:Bb w b v) (k:Rd w v m) (z:d<=m.length) (f:d=0->x=0)
 (g:Calls prog 168 #[v] w fun e w'=>e=.returned (.tuple #[.int .i64 x,.int .i64 (d:Nat)])∧w'=w):
 Calls prog 218 #[.func (.func 168) #[] #[],.pointer (some ⟨b,0,none⟩)] w fun e w'=>∃ v',e=.returned (.tuple #[.int .i64 x,.bool (decide (d≠0))])∧Bb w' b v'∧Rd w' v' (behind d m)∧But b b w w':=by
 have n:=ZZ g;have i:=ZZ a;have u:=ZZ k;obtain⟨ao,cap,rfl,-⟩:=k;obtain⟨q,C⟩:=a.cell;by_cases c:d=0
 ·subst c
  obtain rfl:=f rfl;clear g a f
  go_enter func218,ntmps218
  go_wp2_with fail
  refine n.o.mono ?_;rintro e w' ⟨rfl,rfl⟩;go_wp2;go_ret2;exact⟨_,rfl,i.o.set _,Rd.nil _,(But.refl _ _ _).set _ _ (.inl rfl) _⟩
 ·have B:((d:Int) == 0)=false:=beq_eq_false_iff_ne.2 (by omega)
  have j:=ZZ (Zhz w _ m u.o .i64 (d:Int) (by omega) (by omega))
  have t:Hid (behind d m=m.drop d):=if_neg c;have y:Hid (decide (d≠0)=true):=decide_eq_true c;rw[Int.toNat_natCast] at j;clear g a f c
  go_enter func218,ntmps218
  go_wp2_with fail
  refine n.o.mono ?_;rintro e w' ⟨rfl,rfl⟩
  go_wp2_with(refine Zfo _ rfl _ _ _ _ rfl _ j.o ?_)
  intro F l;have p:=ZZ l;obtain⟨E,D,rfl,-⟩:=l;generalize A:m.drop d=M at *;go_wp2;go_ret2;refine⟨_,by rw[y.o];rfl,i.o.set _,?_,(But.refl _ _ _).set _ _ (.inl rfl) _⟩
  rw[t.o];exact p.o.setBox q
theorem Zin (x:Int) (d:Nat) (b:Nat) (v:Value) (m:List UInt8) (w:World) (a:Bb w b v) (k:Rd w v m) (z:d<=m.length) (f:d=0->x=0)
 (g:Calls prog 201 #[v] w fun e w'=>e=.returned (.tuple #[.int .i64 x,.int .i64 (d:Nat)])∧w'=w):
 Calls prog 218 #[.func (.func 201) #[] #[],.pointer (some ⟨b,0,none⟩)] w fun e w'=>∃ v',e=.returned (.tuple #[.int .i64 x,.bool (decide (d≠0))])∧Bb w' b v'∧Rd w' v' (behind d m)∧But b b w w':=by
 have n:=ZZ g;have i:=ZZ a;have u:=ZZ k;obtain⟨ao,cap,rfl,-⟩:=k;obtain⟨q,C⟩:=a.cell;by_cases c:d=0
 ·subst c
  obtain rfl:=f rfl;clear g a f
  go_enter func218,ntmps218
  go_wp2_with fail
  refine n.o.mono ?_;rintro e w' ⟨rfl,rfl⟩;go_wp2;go_ret2;exact⟨_,rfl,i.o.set _,Rd.nil _,(But.refl _ _ _).set _ _ (.inl rfl) _⟩
 ·have B:((d:Int) == 0)=false:=beq_eq_false_iff_ne.2 (by omega)
  have j:=ZZ (Zhz w _ m u.o .i64 (d:Int) (by omega) (by omega))
  have t:Hid (behind d m=m.drop d):=if_neg c;have y:Hid (decide (d≠0)=true):=decide_eq_true c;rw[Int.toNat_natCast] at j;clear g a f c
  go_enter func218,ntmps218
  go_wp2_with fail
  refine n.o.mono ?_;rintro e w' ⟨rfl,rfl⟩
  go_wp2_with(refine Zfo _ rfl _ _ _ _ rfl _ j.o ?_)
  intro F l;have p:=ZZ l;obtain⟨E,D,rfl,-⟩:=l;generalize A:m.drop d=M at *;go_wp2;go_ret2;refine⟨_,by rw[y.o];rfl,i.o.set _,?_,(But.refl _ _ _).set _ _ (.inl rfl) _⟩
  rw[t.o];exact p.o.setBox q
def ZcQ (X W:World):Prop:=W.heap=X.heap∧W.os=X.os∧W.tape=X.tape∧W.output=X.output
theorem ZcQ.refl (X:World):ZcQ X X:=⟨rfl,rfl,rfl,rfl⟩
theorem ZcQ.drew (h:ZcQ X W):ZcQ X W.drew:=h
theorem ZcQ.set (h:ZcQ X W) (a:Addr) (v:Value):ZcQ (X.setCell a v) (W.setCell a v):=by
 obtain⟨b,c,e,d⟩:=h;refine⟨?_,c,e,d⟩;simp only [World.setCell,b]
theorem ZcQ.below (h:ZcQ X W) (B:Nat):Below B X W:=⟨h.2.1,h.2.2.1,h.2.2.2,by rw[h.1];exact Nat.le_refl _,fun k _=>by rw[h.1]⟩
theorem ZcQ.cell (h:ZcQ X W) (a:Addr):W.cell? a=X.cell? a:=by simp only [World.cell?,h.1]
theorem ZcQ.froz (h:ZcQ X W) (a:Addr):W.frozen? a=X.frozen? a:=by simp only [World.frozen?,h.1]
def Zjl (w:World) (p:Nat × Nat):Prop:=(∃ x:Int,w.cell? ⟨p.1,p.2,none⟩=some (.int .i64 x))∧w.frozen? ⟨p.1,p.2,none⟩=false
theorem Zjl.set {p:Nat × Nat} (h:Zjl w p) (a:Nat × Nat) (n:Int):Zjl (w.setCell ⟨a.1,a.2,none⟩ (.int .i64 n)) p:=by
 obtain⟨⟨x,b⟩,c⟩:=h;refine⟨?_,by rw[World.frozen?_setCell];exact c⟩
 by_cases e:(⟨a.1,a.2,none⟩:Addr)=⟨p.1,p.2,none⟩
 ·rw[e]
  exact⟨n,World.cell?_setCell_same _ _ _ b⟩
 ·exact⟨x,by rw[World.cell?_setCell_other _ _ _ _ (fun h=>e h)];exact b⟩
theorem Rd.setNum (h:Rd w v m) {p:Nat × Nat} (g:Zjl w p) (x:Value):Rd (w.setCell ⟨p.1,p.2,none⟩ x) v m:=by
 obtain⟨k,l,u,n,i,A,a⟩:=h;refine⟨k,l,u,n,i,A,?_⟩;rcases a with a | ⟨c,b,z,q⟩
 ·exact .inl a
 ·refine .inr ⟨c,b,z,fun j t=>?_⟩
  have d:=q j t
  rw[World.cell?_setCell_other w ⟨p.1,p.2,none⟩ ⟨c,b+j,none⟩ x (fun e=>by
   obtain⟨⟨y,f⟩,-⟩:=g;rw[e,d] at f
   cases f)]
  exact d
def Yl (w:World):List (Nat × Nat)->List Nat->World
 | p::ps,n::ns=>Yl (w.setCell ⟨p.1,p.2,none⟩ (.int .i64 (n:Int))) ps ns
 | _,_=>w
theorem Zkb:∀ (w:World) (ps:List (Nat × Nat)) (ns:List Nat) (p:Nat × Nat) (n:Nat),ps.length=ns.length->Yl w (ps++[p]) (ns++[n])=(Yl w ps ns).setCell ⟨p.1,p.2,none⟩ (.int .i64 (n:Int))
 | w,[],[],p,n,_=>rfl
 | w,q::ps,m::ns,p,n,h=>by
  rw[List.cons_append,List.cons_append,Yl,Zkb _ ps ns p n (by simpa using h),Yl]
theorem Znd:∀ (w:World) (ps:List (Nat × Nat)) (ns:List Nat) {p:Nat × Nat},Zjl w p->Zjl (Yl w ps ns) p
 | w,[],_,p,h=>by cases ‹List Nat› <;> exact h
 | w,q::ps,[],p,h=>h
 | w,q::ps,m::ns,p,h=>by
  rw[Yl];exact Znd _ ps ns (h.set q m)
theorem Zba:∀ (w:World) (ps:List (Nat × Nat)) (ns:List Nat) (k:Nat),(∀ p ∈ ps,p.1≠k)->(Yl w ps ns).heap[k]?=w.heap[k]?
 | w,[],ns,k,_=>by cases ns <;> rfl
 | w,q::ps,[],k,_=>rfl
 | w,q::ps,m::ns,k,h=>by
  rw[Yl,Zba _ ps ns k (fun p a=>h p (by simp[a]))]
  exact Below.heap_setCell _ _ _ _ (fun e=>h q (by simp) e.symm)
theorem Zbb:∀ (w:World) (ps:List (Nat × Nat)) (ns:List Nat) (B:Nat) (a:World),(∀ p ∈ ps,B<=p.1)->Below B a w->Below B a (Yl w ps ns)
 | w,[],ns,B,a,_,h=>by cases ns <;> exact h
 | w,q::ps,[],B,a,_,h=>h
 | w,q::ps,m::ns,B,a,hp,h=>by
  rw[Yl];exact Zbb _ ps ns B a (fun p h=>hp p (by simp[h])) (h.setCell (hp q (by simp)) _)
def Zzf (w:World) (v:Value) (b:List UInt8) (ps:List (Nat × Nat)) (r:Option (List Nat × List UInt8)) (e:Ending) (w':World):Prop:=
 ∃ (v':Value) (l:List UInt8) (ns:List Nat),e=.returned (.tuple #[v',.bool r.isSome])∧(∀ W,Rd W v b->Rd W v' l)∧(r=none->l=[])∧(∀ x,r=some x->x=(ns,l))∧(∀ n ∈ ns,n<4611686018427387904)∧ns.length<=ps.length∧ZcQ (Yl w (ps.take ns.length) ns) w'
theorem Zqo:∀ (w:World) (ps:List (Nat × Nat)) (ns:List Nat) {v:Value} {m:List UInt8},(∀ p ∈ ps,Zjl w p)->Rd w v m->Rd (Yl w ps ns) v m
 | w,[],ns,v,m,_,h=>by cases ns <;> exact h
 | w,q::ps,[],v,m,_,h=>h
 | w,q::ps,k::ns,v,m,hp,h=>by
  rw[Yl];exact Zqo _ ps ns (fun p a=>(hp p (by simp[a])).set q k) (h.setNum (hp q (by simp)) _)
theorem ZgI (ao:Option Addr) (l:List UInt8) (cap:Nat) (g:l.length<=cap) (d:Nat) (f:d<=l.length):
 ∃ a b,(∀ W,(Instr.sliceAt 53 (.slice ao l.length cap) (some (.int .i64 (d:Int))) none none).run prog W=.ok (.slice a (l.drop d).length b) W)∧∀ W,Rd W (.slice ao l.length cap) l->Rd W (.slice a (l.drop d).length b) (l.drop d):=by
 have c:∃ a b,sliced ao d l.length cap 1=.slice a (l.length-d) b:=by
  unfold sliced;exact⟨_,_,rfl⟩
 obtain⟨a,b,c⟩:=c;refine⟨a,b,fun W=>?_,fun W h=>?_⟩
 ·rw[run_sliceAt_slice W 53 _ _ _ _ Xf,run_slice_l W 53 ao l.length cap Xf .i64 (d:Int) (by omega) (by omega),Zw,Zcd,length_drop,<-c]
  rfl
 ·rw[length_drop,<-c]
  have e:=h.mid d l.length cap f zL g zL;rw[List.take_of_length_le (by simp)] at e
  exact e
theorem ZrY {b:List UInt8} (h:(Qb b).2≠0):Y0 (n+1) b=(Y0 n (b.drop (Qb b).2)).map (fun r=>((Qb b).1::r.1,r.2)):=by rw[Y0,if_neg h]
theorem ZrZ {b:List UInt8} (h:(Qb b).2=0):Y0 (n+1) b=none:=by rw[Y0,if_pos h]
theorem Zat (N:Nat) (ps:List (Nat × Nat)) (v:Value) (b:List UInt8) (w:World) (G:Rd w v b) (A:∀ p ∈ ps,Zjl w p∧p.1≠N) (ao:ps.length<=100)
 (R:w.heap[N]?=some (.cells (ps.map (fun p=>Value.pointer (some ⟨p.1,p.2,none⟩))).toArray 208 (0,0))) (k:Nat) (hk:k=ps.length):
 Calls prog 160 #[v,.slice (some ⟨N,0,none⟩) k k] w fun e w'=>Zzf w v b ps (Y0 ps.length b) e w':=by
 subst hk;have M:=ZZ A
 have T:Hid (∀ q,q<ps.length->w.cell? ⟨N,q,none⟩=some (.pointer (some ⟨(ps.getD q (0,0)).1,(ps.getD q (0,0)).2,none⟩))):=ZZ (fun q Q=>by
  rw[cell_of_row w N q _ _ _ R]
  simp[List.getD,Q])
 have O:Hid (∀ ns,(Yl w (ps.take (List.length ns)) ns).heap[N]?=w.heap[N]?):=ZZ (fun ns=>Zba w _ ns N (fun p B=>(A p (mem_of_mem_take B)).2))
 have S:=ZZ (fun v1 l W h=>ZcI v1 l W h)
 have HR:Hid (∀ ns,Rd (Yl w (ps.take (List.length ns)) ns) v b):=ZZ (fun ns=>Zqo w _ ns (fun p B=>(A p (mem_of_mem_take B)).1) G)
 obtain⟨V,P,hv⟩:∃ a c,v=.slice a b.length c:=by obtain⟨a,c,h,-⟩:=G;exact⟨a,c,h⟩
 subst hv;obtain⟨g,f⟩:∃ g,g=Y0 ps.length b:=⟨_,rfl⟩;rw[<-f]
 have U:Hid (g=(Y0 (ps.length-0) b).map (fun r=>([]++r.1,r.2))):=ZZ (by
  rw[f,Nat.sub_zero]
  cases Y0 ps.length b <;> rfl)
 clear f A G R;have ak:(ps.length:Int)<=100:=by omega
 go_enter func160,ntmps160
 go_wp2
 go_loopw[0,12] (fun vb F wr=>∃ (q:Nat) (ns:List Nat) (b':List UInt8) (a:Option Addr) (c:Nat),F=.int .i64 (q:Int)∧vb=.slice a b'.length c∧q<=ps.length∧ns.length=q∧Hid (∀ W,Rd W (.slice V b.length P) b->Rd W (.slice a b'.length c) b')∧Hid (ZcQ (Yl w (ps.take ns.length) ns) wr)∧Hid (∀ n ∈ ns,n<4611686018427387904)∧Hid (g=(Y0 (ps.length-q) b').map (fun r=>(ns++r.1,r.2)))) (fun _ F _=>ps.length-(intOf F).toNat)
 case atStart=>exact⟨0,[],b,V,P,rfl,rfl,Nat.zero_le _,rfl,ZZ (fun W h=>h),ZZ (by rw[List.length_nil,List.take_zero];exact ZcQ.refl w),ZZ (fun n h=>by simp at h),U⟩
 case round=>
  clear U;obtain⟨q,ns,b',a,c,rfl,rfl,Q,E,H,i,D,f⟩:=hrel;have hR:Hid (Rd wr (.slice a b'.length c) b'):=ZZ (H.out wr ((HR.o ns).below (i.out.below (Yl w (ps.take ns.length) ns).heap.size) zL));have z:=ZZ E;by_cases j:q<ps.length
  case neg=>
   obtain rfl:q=ps.length:=by omega
   have t:Hid (g=some (ns,b')):=ZZ (by
    rw[f.out,Nat.sub_self]
    simp[Y0])
   clear E;go_wp2;go_ret2;rw[t.o];exact⟨_,b',ns,rfl,H.out,(fun h=>by cases h),(fun x h=>by injection h with h;exact h.symm),D.out,by rw[z.o];exact Nat.le_refl _,i.out⟩
  have an:(q:Int)<(ps.length:Int):=by omega
  have aj:ps.length-q=(ps.length-(q+1))+1:=by omega
  have af:wr.cell? ⟨N,q,none⟩=some (.pointer (some ⟨(ps.getD q (0,0)).1,(ps.getD q (0,0)).2,none⟩)):=by
   rw[i.out.cell];exact(World.cell?_of_block (a:=⟨N,q,none⟩) (O.o ns)).trans (T.o q j)
  have Z:ps.getD q (0,0) ∈ ps:=by
   rw[show ps.getD q (0,0)=ps[q] by simp[List.getD,j]]
   exact List.getElem_mem j
  have C:Zjl (Yl w (ps.take ns.length) ns) (ps.getD q (0,0)):=Znd w _ ns (M.o _ Z).1
  have ab:Zjl wr (ps.getD q (0,0)):=⟨by
   obtain⟨x,hx⟩:=C.1
   exact⟨x,by rw[i.out.cell];exact hx⟩,by rw[i.out.froz];exact C.2⟩
  have L:Hid (∀ n:Nat,Yl w (ps.take (ns++[n]).length) (ns++[n])=(Yl w (ps.take ns.length) ns).setCell ⟨(ps.getD q (0,0)).1,(ps.getD q (0,0)).2,none⟩ (.int .i64 (n:Int))):=ZZ (fun n=>by
   have e1:ps.take (ns++[n]).length=ps.take ns.length++[ps.getD q (0,0)]:=by
    rw[length_append,List.length_singleton,z.o,List.take_add_one,List.getElem?_eq_getElem j];simp[List.getD,j]
   rw[e1,Zkb w _ ns _ n (by rw[List.length_take,z.o];omega)])
  have al:=ZZ ab;obtain⟨⟨x0,ai⟩,ag⟩:=ab;clear Z C T O M E;generalize ps.getD q (0,0)=p at *;obtain⟨pb,po⟩:=p
  dsimp only at af ai ag L
  have X:=ZZ (S.o _ b' wr hR.out);have ae:=Z3 b'
  have ad:(Qb b').1<4611686018427387904:=by
   rcases Q4 b' with h | h
   ·rw[h];decide
   ·exact h.1
  have I:=ZZ (ZrY (n:=ps.length-(q+1)) (b:=b'));have J:=ZZ (ZrZ (n:=ps.length-(q+1)) (b:=b'));rw[<-aj] at I J;have Y:=ZZ (fun d u=>ZgI a b' c (by obtain⟨a',c',h,h2,-⟩:=hR.out;simp only [Value.slice.injEq] at h;omega) d u)
  generalize (Qb b').2=d at *;generalize (Qb b').1=n at *;clear S;by_cases u:d=0
  ·subst u
   have t:Hid (g=none):=ZZ (by rw[f.out,J.o rfl];rfl)
   go_wp2_with fail
   refine X.o.mono ?_;rintro e K ⟨rfl,y⟩;rw[y];clear y K;go_wp2;go_ret2;rw[t.o];exact⟨_,[],ns,rfl,(fun W _=>Rd.nil W),(fun _=>rfl),(fun x h=>by cases h),D.out,by rw[z.o];omega,i.out⟩
  ·have am:((d:Int) == 0)=false:=beq_eq_false_iff_ne.2 (by omega)
   obtain⟨xa,xc,hcut,aa⟩:=Y.o d ae;have ac:=ZZ aa
   have t:Hid (g=(Y0 (ps.length-(q+1)) (b'.drop d)).map (fun r=>((ns++[n])++r.1,r.2))):=ZZ (by
    rw[f.out,I.o u]
    cases Y0 (ps.length-(q+1)) (b'.drop d) with
    | none=>rfl
    | some r=>simp)
   clear aa I J f u Y;generalize b'.drop d=b2 at *
   go_wp2_with fail
   refine X.o.mono ?_;rintro e K ⟨rfl,y⟩;rw[y];clear y K;go_wp2
   go_region
   all_goals
    go_wp2;go_roundw
    case rel=>exact⟨q+1,ns++[n],b2,xa,xc,by go_num,rfl,by omega,by rw[length_append,List.length_singleton,z.o],ZZ (fun W h=>ac.o W (H.out W h)),ZZ (by rw[L.o];exact i.out.drew.set _ _),ZZ (fun m hm=>by
     rcases List.mem_append.1 hm with h | h
     ·exact D.out m h
     ·rw[List.mem_singleton.1 h];exact ad),t⟩
    case measure=>simp[intOf];omega
def Zjm (b:List UInt8):Option (Ent × List UInt8):=
 match Y0 2 b with
 | none=>none
 | some (ns,l)=>if(Qd l).2=0 then none else some (⟨((ns.getD 0 0:Nat):Int),((ns.getD 1 0:Nat):Int),zag (Qd l).1⟩,l.drop (Qd l).2)
theorem ZeJ (b:List UInt8):Y0 1 b=if(Qb b).2=0 then none else some ([(Qb b).1],b.drop (Qb b).2):=rfl
theorem Zio (b:List UInt8):Y0 2 b=if(Qb b).2=0 then none else if(Qb (b.drop (Qb b).2)).2=0 then none else some ([(Qb b).1,(Qb (b.drop (Qb b).2)).1],(b.drop (Qb b).2).drop (Qb (b.drop (Qb b).2)).2):=by
 rw[Y0];split
 ·rfl
 ·rw[ZeJ]
  split <;> rfl
theorem Zpa (n:Nat) (b:List UInt8):Zbf (n+1) b=(Zjm b).bind (fun y=>(Zbf n y.2).map (fun r=>(y.1::r.1,r.2))):=by
 have h:Zbf (n+1) b=if(Qb b).2=0∨(Qb (b.drop (Qb b).2)).2=0∨(Qd (b.drop ((Qb b).2+(Qb (b.drop (Qb b).2)).2))).2=0 then none
  else(Zbf n (b.drop ((Qb b).2+(Qb (b.drop (Qb b).2)).2+(Qd (b.drop ((Qb b).2+(Qb (b.drop (Qb b).2)).2))).2))).map (fun r=>(⟨(Qb b).1,(Qb (b.drop (Qb b).2)).1,zag (Qd (b.drop ((Qb b).2+(Qb (b.drop (Qb b).2)).2))).1⟩::r.1,r.2)):=rfl
 rw[h];unfold Zjm;rw[Zio];by_cases a:(Qb b).2=0
 ·rw[if_pos (.inl a),if_pos a]
  rfl
 rw[if_neg a];by_cases c:(Qb (b.drop (Qb b).2)).2=0
 ·rw[if_pos (.inr (.inl c)),if_pos c]
  rfl
 rw[if_neg c];simp only [drop_drop];by_cases d:(Qd (b.drop ((Qb b).2+(Qb (b.drop (Qb b).2)).2))).2=0
 ·rw[if_pos (.inr (.inr d)),if_pos d]
  rfl
 ·rw[if_neg (by omega),if_neg d]
  rfl
def Zzg (w:World) (v:Value) (b:List UInt8) (e:Ending) (w':World):Prop:=
 ∃ (x:Ent) (v':Value) (l:List UInt8),e=.returned (.tuple #[Zrm x,v',.bool (Zjm b).isSome])∧ZkN x∧(∀ W,Rd W v b->Rd W v' l)∧(∀ y,Zjm b=some y->y=(x,l))∧Below w.heap.size w w'
theorem Zsa:Qd []=(0,0):=by decide
theorem ZxL {R:Nat} (h:Be W R #[.int .i64 0,.int .i64 0,.int .i64 0]) (ns:List Nat) (d:ns.length<=2) (a:∀ n ∈ ns,n<4611686018427387904):
 ∃ x y:Int,Be (Yl W ([(R,0),(R,1)].take ns.length) ns) R #[.int .i64 x,.int .i64 y,.int .i64 0]∧I64 x∧I64 y∧(ns.length=2->x=((ns.getD 0 0:Nat):Int)∧y=((ns.getD 1 0:Nat):Int)):=by
 have b:I64 0:=Qk (by decide) (by decide)
 match ns,d,a with
 | [],_,_=>exact⟨0,0,h,b,b,fun h=>absurd h (by simp)⟩
 | [n],_,a=>
  have:=a n (by simp)
  refine⟨(n:Int),0,?_,⟨by omega,by omega⟩,b,fun h=>absurd h (by simp)⟩
  have c:=heap_setCell_same W R 0 _ _ (.int .i64 (n:Int)) h;exact c
 | [n,m],_,a=>
  have f:=a n (by simp)
  have c:=a m (by simp)
  refine⟨(n:Int),(m:Int),?_,⟨by omega,by omega⟩,⟨by omega,by omega⟩,fun _=>⟨rfl,rfl⟩⟩
  have e:=heap_setCell_same W R 0 _ _ (.int .i64 (n:Int)) h;exact heap_setCell_same _ R 1 _ _ (.int .i64 (m:Int)) e
theorem Zip (w:World) (x y z:Obj):((((w.alloc x).alloc y).alloc z).heap[w.heap.size]?=some x∧(((w.alloc x).alloc y).alloc z).heap[w.heap.size+1]?=some y∧(((w.alloc x).alloc y).alloc z).heap[w.heap.size+2]?=some z):=by
 refine⟨?_,?_,?_⟩
 ·exact((Below.heap_alloc _ _ _ (by simp;omega)).trans (Below.heap_alloc _ _ _ (by simp))).trans (heap_alloc_new w x)
 ·refine(Below.heap_alloc _ _ _ (by simp)).trans ?_
  have:=heap_alloc_new (w.alloc x) y;simpa using this
 ·have:=heap_alloc_new ((w.alloc x).alloc y) z
  simpa using this
theorem Be.set (h:Be w b cs) (j:Nat) (x:Value):Be (w.setCell ⟨b,j,none⟩ x) b (cs.setIfInBounds j x):=by
 have:=heap_setCell_same w b j _ _ x h;unfold Be;simpa using this
theorem Be.other {c:Nat} (h:Be w b cs) (j:Nat) (x:Value) (a:b≠c):Be (w.setCell ⟨c,j,none⟩ x) b cs:=(Below.heap_setCell _ _ _ _ a).trans h
theorem Zws {C:Nat} {b:World} (h:Below C b w) (R:Nat) (a:C<=R) (d e c:Value):Below C b (((w.setCell ⟨R,0,none⟩ d).setCell ⟨R,1,none⟩ e).setCell ⟨R,2,none⟩ c):=
 ((h.setCell a _).setCell a _).setCell a _
theorem Zne (v:Value) (b:List UInt8) (w:World) (A:Rd w v b):
 Calls prog 202 #[v] w fun e w'=>Zzg w v b e w':=by
 obtain⟨f,D⟩:∃ f,f=((w.alloc (.cells #[.int .i64 0,.int .i64 0,.int .i64 0] 85)).alloc (.cells #[.int .i64 0,.int .i64 0,.int .i64 0] 85)).alloc (.cells #[.pointer (some ⟨w.heap.size+1,0,none⟩),.pointer (some ⟨w.heap.size+1,1,none⟩)] 208):=⟨_,rfl⟩;have h3:=Zip w (.cells #[.int .i64 0,.int .i64 0,.int .i64 0] 85) (.cells #[.int .i64 0,.int .i64 0,.int .i64 0] 85) (.cells #[.pointer (some ⟨w.heap.size+1,0,none⟩),.pointer (some ⟨w.heap.size+1,1,none⟩)] 208);rw[<-D] at h3;obtain⟨hA,Q,V⟩:=h3;have H:Hid (Below w.heap.size w f):=ZZ (by rw[D];exact(((Below.refl _ _).alloc zL _).alloc (by simp) _).alloc (by simp;omega) _)
 have E:Be f w.heap.size #[.int .i64 0,.int .i64 0,.int .i64 0]:=hA;have m:Be f (w.heap.size+1) #[.int .i64 0,.int .i64 0,.int .i64 0]:=Q;have au:=ZZ E
 have Z:=ZZ (Zat (w.heap.size+1+1) [(w.heap.size+1,0),(w.heap.size+1,1)] v b f (A.below H.o zL) (fun p j=>by
  simp only [mem_cons,List.not_mem_nil,or_false] at j;rcases j with rfl | rfl
  ·exact⟨⟨⟨0,(m.cell 0).1⟩,(m.cell 0).2⟩,by simp⟩
  ·exact⟨⟨⟨0,(m.cell 1).1⟩,(m.cell 1).2⟩,by simp⟩) (by simp) V 2 rfl)
 have ai:=ZZ (fun ns=>ZxL m ns)
 have T:Hid (∀ ns,Below w.heap.size w (Yl f ([(w.heap.size+1,0),(w.heap.size+1,1)].take (List.length ns)) ns)):=ZZ (fun ns=>Zbb f _ ns _ w (fun p j=>by
  have:=mem_of_mem_take j;simp only [mem_cons,List.not_mem_nil,or_false] at this
  rcases this with rfl | rfl <;> simp) H.o)
 have P:Hid (∀ ns,Be (Yl f ([(w.heap.size+1,0),(w.heap.size+1,1)].take (List.length ns)) ns) w.heap.size #[.int .i64 0,.int .i64 0,.int .i64 0]):=ZZ (fun ns=>(Zba f _ ns _ (fun p j=>by
  have:=mem_of_mem_take j;simp only [mem_cons,List.not_mem_nil,or_false] at this
  rcases this with rfl | rfl <;> simp)).trans E)
 have U:=ZZ (fun O l W h=>Zaj O l W h)
 have B:Hid (Zjm b=match Y0 [(w.heap.size+1,0),(w.heap.size+1,1)].length b with | none=>none | some (ns,l)=>if(Qd l).2=0 then none else some (⟨((ns.getD 0 0:Nat):Int),((ns.getD 1 0:Nat):Int),zag (Qd l).1⟩,l.drop (Qd l).2)):=ZZ rfl
 have ag:Hid (∀ ns l,Y0 [(w.heap.size+1,0),(w.heap.size+1,1)].length b=some (ns,l)->ns.length=2):=ZZ (fun ns l h=>by
  have d:Y0 2 b=some (ns,l):=h;rw[Zio] at d;split at d
  ·cases d
  split at d
  ·cases d
  injection d with d
  injection d with d _
  rw[<-d]
  rfl)
 unfold Zzg;obtain⟨n,ap⟩:∃ n,n=Zjm b:=⟨_,rfl⟩;rw[<-ap] at B ⊢;obtain⟨ok,J⟩:∃ ok,ok=n.isSome:=⟨_,rfl⟩;rw[<-J];have I:=ZZ J;clear J;generalize Y0 [(w.heap.size+1,0),(w.heap.size+1,1)].length b=X at *;have aB:=ZZ A;obtain⟨va,vc,hv⟩:∃ a c,v=.slice a b.length c:=by obtain⟨a,c,h,-⟩:=A;exact⟨a,c,h⟩
 subst hv;clear A hA Q V E m ap
 go_enter func202,ntmps202
 go_wp2_with fail
 rw[<-D];refine Z.o.mono ?_;rintro e g ⟨O,l,ns,rfl,K,ab,M,af,an,u⟩;obtain⟨x,y,aa,ao,aj,ac⟩:=ai.o ns an af;have N:Hid (Be g (w.heap.size+1) #[.int .i64 x,.int .i64 y,.int .i64 0]):=ZZ (aa.below (u.below (Yl f ([(w.heap.size+1,0),(w.heap.size+1,1)].take ns.length) ns).heap.size) zL);have ad:Hid (Be g w.heap.size #[.int .i64 0,.int .i64 0,.int .i64 0]):=ZZ ((P.o ns).below (u.below (Yl f ([(w.heap.size+1,0),(w.heap.size+1,1)].take ns.length) ns).heap.size) zL);have G:Hid (Below w.heap.size w g):=ZZ ((T.o ns).trans (u.below _));have C:=ZZ (K g (aB.o.below G.o zL));have az:=ZZ K;obtain⟨a1,c1,aA⟩:∃ a c,O=.slice a l.length c:=by obtain⟨a,c,h,-⟩:=C.o;exact⟨a,c,h⟩
 subst aA
 have S:l.length<=c1:=by
  obtain⟨a',c',h,d,-⟩:=C.o;simp only [Value.slice.injEq] at h;omega
 have ae:=ZZ (U.o _ l g C.o);have ax:=Jz l;have aq:I64 (zag (Qd l).1):=ZnN (Zks l);obtain⟨xa,xc,hcut,am⟩:=ZgI a1 l c1 S (Qd l).2 ax;have av:=ZZ (fun W h=>am W (az.o W h))
 have L:Hid (n.isSome=decide (0<(Qd l).2)):=ZZ (by
  rw[B.o]
  cases X with
  | none=>rw[ab rfl,Zsa];rfl
  | some p=>
   have:=M p rfl;subst this
   dsimp only
   by_cases h:(Qd l).2=0
   ·rw[if_pos h,h];rfl
   ·rw[if_neg h,decide_eq_true (by omega)];rfl)
 have aC:Hid (∀ z,n=some z->z=(⟨x,y,zag (Qd l).1⟩,l.drop (Qd l).2)):=ZZ (fun z i=>by
  rw[B.o] at i
  cases X with
  | none=>cases i
  | some p=>
   have:=M p rfl;subst this;obtain⟨h1,d⟩:=ac (ag.o ns l rfl)
   dsimp only at i
   split at i
   ·cases i
   ·injection i with i
    rw[<-i,h1,d])
 have aw:Hid (ZkN ⟨x,y,zag (Qd l).1⟩):=ZZ ⟨ao,aj,aq⟩;clear K ab M af an u aa ac B ag T P ai Z U am S H au D ao aj aq;generalize zag (Qd l).1=z at *;generalize (Qd l).2=k at *;generalize l.drop k=l2 at *;have ak:n.isSome=decide ((0:Int)<(k:Int)):=by rw[L.o];exact decide_eq_decide.2 (by omega)
 rw[<-I.o] at ak;have ar:Hid (decide (0<k)=ok):=ZZ (by rw[I.o,L.o])
 clear I ak L
 go_wp2_with fail
 refine ae.o.mono ?_;rintro e W2 ⟨rfl,R⟩;rw[R];clear R W2 ae;have q:Hid (Be (g.setCell ⟨w.heap.size+1,2,none⟩ (.int .i64 z)) (w.heap.size+1) #[.int .i64 x,.int .i64 y,.int .i64 z]):=ZZ (N.o.set 2 _);have t:Hid (Be (g.setCell ⟨w.heap.size+1,2,none⟩ (.int .i64 z)) w.heap.size #[.int .i64 0,.int .i64 0,.int .i64 0]):=ZZ (ad.o.other 2 _ (by omega))
 obtain⟨e2,f2⟩:=N.o.cell 2;have F:Hid (Below w.heap.size w (g.setCell ⟨w.heap.size+1,2,none⟩ (.int .i64 z))):=ZZ (G.o.setCell (Nat.le_succ _) _)
 go_upto_region 5 with fail
 obtain⟨W3,al⟩:∃ W3,W3=g.setCell ⟨w.heap.size+1,2,none⟩ (.int .i64 z):=⟨_,rfl⟩;rw[<-al] at q t F ⊢;clear al e2 f2 N ad G C;obtain⟨x0,g0⟩:=q.o.cell 0;obtain⟨x1,g1⟩:=q.o.cell 1;obtain⟨x2,g2⟩:=q.o.cell 2;obtain⟨y0,m0⟩:=t.o.cell 0;obtain⟨y1,m1⟩:=t.o.cell 1;obtain⟨y2,m2⟩:=t.o.cell 2;have aE:¬ (w.heap.size=w.heap.size+1):=by omega
 have aD:¬ (w.heap.size+1=w.heap.size):=by omega
 have Y:=Zws F.o.drew w.heap.size zL (.int .i64 x) (.int .i64 y) (.int .i64 z);have ay:=ZZ Y;clear Y F t q
 go_region
 all_goals
  go_wp2;refine bodyPost_ret (v:=.tuple #[.agg #[.int .i64 x,.int .i64 y,.int .i64 z],.slice xa l2.length xc,.bool ok]) (by simp[results,Tryz.results202,go_sem,y0,y1,y2,ar.o]) rfl ?_
  exact⟨⟨x,y,z⟩,_,l2,rfl,aw.o,av.o,aC.o,ay.o⟩
def ZxM (w:World) (TL:Option (List Ent)) (e:Ending) (w':World):Prop:=
 ∃ vt t,e=.returned (.tuple #[vt,.bool TL.isSome])∧Xc w' w.heap.size vt t∧(∀ e ∈ t,ZkN e)∧(∀ t',TL=some t'->t=t')∧Below w.heap.size w w'
def ZyC (v6 v7:Value):Nat:=
 match v7 with
 | .bool true=>(match v6 with
  | .slice _ n _=>n+1
  | _=>0)
 | _=>0
theorem Zsb {b:List UInt8} {y:Ent × List UInt8} (h:Zjm b=some y):y.2.length+1<=b.length:=by
 unfold Zjm at h;rw[Zio] at h;split at h
 ·cases h
 ·rename_i ns l a
  split at a
  ·cases a
  ·rename_i c
   split at a
   ·cases a
   ·injection a with a
    injection a with _ hl
    split at h
    ·cases h
    ·rename_i f
     injection h with h
     rw[<-h];have e:=Jz l;show(l.drop _).length+1<=_;rw[length_drop]
     have d:l.length<=b.length:=by
      rw[<-hl,length_drop,length_drop];omega
     omega
theorem Zwt (w:World) (x y:Obj):((w.alloc x).alloc y).heap[w.heap.size]?=some x∧((w.alloc x).alloc y).heap[w.heap.size+1]?=some y:=by
 refine⟨(Below.heap_alloc _ _ _ (by simp)).trans (heap_alloc_new w x),?_⟩
 have:=heap_alloc_new (w.alloc x) y;simpa using this
theorem Ziq {b:List UInt8} {ns:List Nat} (h:Y0 1 b=some (ns,l)):(Qb b).2≠0∧ns=[(Qb b).1]∧l=b.drop (Qb b).2:=by
 rw[ZeJ] at h;split at h
 ·cases h
 ·rename_i a
  injection h with h
  injection h with h2 h3
  exact⟨a,h2.symm,h3.symm⟩
theorem Zir {b:List UInt8} (h:Y0 1 b=none):(Qb b).2=0:=by
 rw[ZeJ] at h;split at h
 ·assumption
 ·cases h
theorem Xc.butD {B R:Nat} {l:List Ent} (h:Xc w B v l) (c:But R T w w') (k:∀ b,v.ownBlock=some b->b≠R∧b≠T):Xc w' B v l:=by
 rcases h.row with ⟨rfl,rfl⟩ | ⟨g,cap,cur,rfl,f,i,d,m,a,j,e⟩
 ·exact Xc.nil _ _
 ·have:=k g rfl
  exact Xc.ofRow rfl f ((c.block g i this.1 this.2).trans d) m a j e
theorem Zlp (v:Value) (b:List UInt8) (w:World) (O:Rd w v b) (bk:b.length<=100000):
 Calls prog 165 #[v] w fun e w'=>ZxM w (ZbK b) e w':=by
 obtain⟨q,V⟩:∃ q,q=(w.alloc (.cells #[.int .i64 0] 3)).alloc (.cells #[.pointer (some ⟨w.heap.size,0,none⟩)] 208):=⟨_,rfl⟩;have h2:=Zwt w (.cells #[.int .i64 0] 3) (.cells #[.pointer (some ⟨w.heap.size,0,none⟩)] 208);rw[<-V] at h2;obtain⟨Y,hC⟩:=h2;have ai:Hid (Below w.heap.size w q):=ZZ (by rw[V];exact((Below.refl _ _).alloc zL _).alloc (by simp) _)
 have ae:=ZZ (Zat (w.heap.size+1) [(w.heap.size,0)] v b q (O.below ai.o zL) (fun p hp=>by
  rw[List.mem_singleton.1 hp]
  exact⟨⟨⟨0,cell_of_row q w.heap.size 0 _ _ _ Y⟩,frozen_of_row q w.heap.size 0 _ _ Y⟩,by simp⟩) (by simp) hC 1 rfl)
 have au:Hid (∀ n:Nat,(q.setCell ⟨w.heap.size,0,none⟩ (.int .i64 (n:Int))).cell? ⟨w.heap.size,0,none⟩=some (.int .i64 (n:Int))):=ZZ (fun n=>World.cell?_setCell_same _ _ _ (cell_of_row q w.heap.size 0 _ _ _ Y))
 have ay:Hid (∀ ns,Below w.heap.size w (Yl q ([(w.heap.size,0)].take (List.length ns)) ns)):=ZZ (fun ns=>Zbb q _ ns _ w (fun p hp=>by
  have:=mem_of_mem_take hp;rw[List.mem_singleton.1 this]
  exact Nat.le_refl _) ai.o)
 have aW:=ZZ (fun v1 l W h=>Zne v1 l W h)
 have X:=ZZ (Zmt (b:=b));have N:Hid ((Qb b).2=0->ZbK b=none):=ZZ (fun h=>by unfold ZbK;rw[if_pos (.inl h)])
 have ao:=ZZ (fun ns l h=>Ziq (b:=b) (ns:=ns) (l:=l) h)
 have aj:=ZZ (fun h=>Zir (b:=b) h)
 have hd:=Z3 b
 have bd:(Qb b).1<4611686018427387904:=by
  rcases Q4 b with h | h
  ·rw[h];decide
  ·exact h.1
 have aL:Hid ([(w.heap.size,0)].length=1):=ZZ rfl;rw[aL.o] at ae;generalize Y0 1 b=GL at *;obtain⟨G,aK⟩:∃ G,G=ZbK b:=⟨_,rfl⟩;rw[<-aK] at X N ⊢;clear aK;have ap:=ZZ O;obtain⟨va,vc,hv⟩:∃ a c,v=.slice a b.length c:=by obtain⟨a,c,h,-⟩:=O;exact⟨a,c,h⟩
 subst hv;clear O Y hC aL
 go_enter func165,ntmps165
 go_wp2_with fail
 rw[<-V];refine ae.o.mono ?_;rintro e g ⟨v1,l,ns,rfl,aE,af,an,aC,aO,L⟩;have i:Hid (Below w.heap.size w g):=ZZ ((ay.o ns).trans (L.below _));have aM:=ZZ aE;obtain⟨a1,c1,aZ⟩:∃ a c,v1=.slice a l.length c:=by obtain⟨a,c,h,-⟩:=aE g (ap.o.below i.o zL);exact⟨a,c,h⟩
 subst aZ;clear ae ay ai V
 cases GL with
 | none=>
  have m:=ZZ (N.o (aj.o rfl));have a0:=af rfl;subst a0;clear af an aC aO L X N aj ao;show _;go_wp2
  go_loopw[4,6,7] (fun v4 K E wr=>v4=.slice none 0 0∧E=.bool false∧Hid (Below w.heap.size w wr)) (fun _ K E _=>ZyC K E)
  case atStart=>exact⟨rfl,rfl,i⟩
  case round=>
   obtain⟨rfl,rfl,j⟩:=hrel;go_wp2;go_ret2;rw[m.o];exact⟨_,[],rfl,Xc.nil _ _,(fun r h=>by simp at h),(fun t h=>by cases h),j.out⟩
 | some gp=>
  have:=an gp rfl;subst this;obtain⟨g1,g2,g3⟩:=ao.o _ _ rfl;subst g2;have T:=ZZ (X.o g1);rw[<-g3] at T;have bj:l.length<=b.length:=by rw[g3,length_drop];omega
  have ag:g.cell? ⟨w.heap.size,0,none⟩=some (.int .i64 ((Qb b).1:Int)):=by
   rw[L.cell];exact au.o _
  have aY:=ZZ ag;have a9:w.heap.size<g.heap.size:=World.block_lt_of_cell? g ⟨w.heap.size,0,none⟩ ag;generalize (Qb b).1=f at *;clear af an aC aO L X N aj ao g1 g3 hd au ag;obtain⟨u,ab⟩:∃ u,u=Zbf f l:=⟨_,rfl⟩;rw[<-ab] at T
  have aI:Hid (u=(Zbf (f-0) l).map (fun r=>([]++r.1,r.2))):=ZZ (by
   rw[ab,Nat.sub_zero]
   cases Zbf f l <;> rfl)
  clear ab;go_wp2
  go_loopw[4,6,7] (fun v4 K E wr=>∃ (t:List Ent) (d:List UInt8) (R:Option Addr) (S:Nat) (J:Bool),K=.slice R d.length S∧E=.bool J∧t.length<=b.length+1∧Hid (J=true->t.length+d.length<=b.length∧t.length<=f)∧Hid (Xc wr g.heap.size v4 t)∧Hid (∀ e ∈ t,ZkN e)∧Hid (∀ W,Rd W (.slice va b.length vc) b->Rd W (.slice R d.length S) d)∧Hid (J=true->u=(Zbf (f-t.length) d).map (fun r=>(t++r.1,r.2)))∧Hid (J=false->u=none)∧Hid (Below g.heap.size g wr)) (fun _ K E _=>ZyC K E)
  case atStart=>exact⟨[],l,a1,c1,true,rfl,rfl,by simp,ZZ (fun _=>⟨by simp;omega,Nat.zero_le _⟩),ZZ (Xc.nil _ _),ZZ (fun e h=>by simp at h),aM,ZZ (fun _=>aI.o),ZZ (fun h=>by cases h),Below.refl _ _⟩
  case round=>
   clear aI aM;obtain⟨t,d,R,S,J,rfl,rfl,bc,hL,D,Q,hV,hT,hN,j⟩:=hrel;have hR:Hid (Rd wr (.slice R d.length S) d):=ZZ (hV.out wr ((ap.o.below i.o zL).below j.out zL));obtain⟨oa,oc,a7⟩:=D.out.shape;subst a7;have bi:wr.cell? ⟨w.heap.size,0,none⟩=some (.int .i64 (f:Int)):=(j.out.cell (p:=⟨w.heap.size,0,none⟩) a9).trans aY.o
   cases J with
   | false=>
    have m:Hid (G=none):=ZZ (by rw[T.o,hN.out rfl];rfl)
    go_wp2;go_ret2;rw[m.o];exact⟨_,t,rfl,D.out.mono i.o.size,Q.out,(fun t h=>by cases h),i.o.trans (j.out.mono i.o.size)⟩
   | true=>
    obtain⟨be,bb⟩:=hL.out rfl;by_cases ba:t.length<f
    case neg=>
     have bg:¬ (t.length:Int)<(f:Int):=by omega
     have a5:Hid (u=some (t,d)):=ZZ (by
      rw[hT.out rfl,show f-t.length=0 by omega]
      simp[Zbf])
     have aD:Hid (G=if d=[] then some t else none):=ZZ (by rw[T.o,a5.o];rfl)
     by_cases Z:d.length=0
     ·have m:Hid (G=some t):=ZZ (by rw[aD.o,if_pos (List.eq_nil_of_length_eq_zero Z)])
      have aX:((d.length:Int) == 0)=true:=by rw[beq_iff_eq];omega
      clear Z;go_wp2;go_ret2;rw[m.o];exact⟨_,t,rfl,D.out.mono i.o.size,Q.out,(fun t' h=>by injection h),i.o.trans (j.out.mono i.o.size)⟩
     ·have m:Hid (G=none):=ZZ (by
       rw[aD.o,if_neg (fun e=>Z (by rw[e];rfl))])
      have aX:((d.length:Int) == 0)=false:=beq_eq_false_iff_ne.2 (by omega)
      clear Z;go_wp2;go_ret2;rw[m.o];exact⟨_,t,rfl,D.out.mono i.o.size,Q.out,(fun t' h=>by cases h),i.o.trans (j.out.mono i.o.size)⟩
    have bf:(t.length:Int)<(f:Int):=by omega
    have aR:f-t.length=(f-(t.length+1))+1:=by omega
    have am:Hid (u=((Zjm d).bind (fun y=>(Zbf (f-(t.length+1)) y.2).map (fun r=>(y.1::r.1,r.2)))).map (fun r=>(t++r.1,r.2))):=ZZ (by
     rw[hT.out rfl,aR,Zpa])
    have aA:=ZZ (fun y h=>Zsb (b:=d) (y:=y) h)
    have P:=ZZ (aW.o _ d (wr.alloc (.cells #[.int .i64 0,.int .i64 0,.int .i64 0] 85)) (hR.out.below ((Below.refl _ _).alloc zL _) zL));have ak:Hid (Below g.heap.size g (wr.alloc (.cells #[.int .i64 0,.int .i64 0,.int .i64 0] 85))):=ZZ (j.out.alloc j.out.size _);have aw:Hid (Be (wr.alloc (.cells #[.int .i64 0,.int .i64 0,.int .i64 0] 85)) wr.heap.size #[.int .i64 0,.int .i64 0,.int .i64 0]):=ZZ (heap_alloc_new wr _);have aF:Hid (Xc (wr.alloc (.cells #[.int .i64 0,.int .i64 0,.int .i64 0] 85)) g.heap.size (.slice oa t.length oc) t):=ZZ (D.out.below ((Below.refl _ _).alloc zL _) zL);have ac:Hid (∀ k,(Value.slice oa t.length oc).ownBlock=some k->k<wr.heap.size):=ZZ (fun k hk=>(World.ownsRow.lt D.out k hk).2)
    obtain⟨SS,aG⟩:∃ SS,SS=Zjm d:=⟨_,rfl⟩;unfold Zzg at P;rw[<-aG] at am aA P;have ar:=j.out.size;clear aG hT hN hL hR D j aR
    go_wp2_with fail
    refine P.o.mono ?_;rintro e W2 ⟨x,v2,H,rfl,aP,aN,a6,M⟩;have F:=ZZ (aw.o.below M zL);have ad:=ZZ (ak.o.trans (M.mono ak.o.size));have aB:=ZZ (aF.o.below M zL);have aU:=ZZ aP;have aq:=ZZ (fun W h=>aN W (hV.out W h))
    obtain⟨a3,c3,a8⟩:∃ a c,v2=.slice a H.length c:=by obtain⟨a,c,h,-⟩:=aq.o g (ap.o.below i.o zL);exact⟨a,c,h⟩
    subst a8;obtain⟨z,A,C⟩:=x;obtain⟨e0,f0⟩:=F.o.cell 0;obtain⟨e1,f1⟩:=F.o.cell 1;obtain⟨e2,f2⟩:=F.o.cell 2;obtain⟨B,aS⟩:∃ B,B=wr.heap.size:=⟨_,rfl⟩;rw[<-aS] at F ac e0 e1 e2 f0 f1 f2 ar ⊢;clear aS;obtain⟨I,U⟩:∃ I,I=((W2.setCell ⟨B,0,none⟩ (.int .i64 z)).setCell ⟨B,1,none⟩ (.int .i64 A)).setCell ⟨B,2,none⟩ (.int .i64 C):=⟨_,rfl⟩;have al:Hid (Be I B #[.int .i64 z,.int .i64 A,.int .i64 C]):=ZZ (by rw[U];exact((F.o.set 0 _).set 1 _).set 2 _)
    have aa:Hid (But B B W2 I):=ZZ (by rw[U];exact(((But.refl _ _ _).set _ _ (.inl rfl) _).set _ _ (.inl rfl) _).set _ _ (.inl rfl) _)
    have a4:Hid (Xc I g.heap.size (.slice oa t.length oc) t):=ZZ (aB.o.butD aa.o (fun k hk=>by have:=ac.o k hk;omega))
    have aH:=ZZ (Zaf ad.o aa.o ad.o.size ar ar);have aT:g.heap.size<=I.heap.size:=aH.o.size;unfold Zrm
    dsimp only
    go_upto_region 7 with fail
    rw[<-U];obtain⟨x0,-⟩:=al.o.cell 0;obtain⟨x1,-⟩:=al.o.cell 1;obtain⟨x2,-⟩:=al.o.cell 2;clear U e0 e1 e2 f0 f1 f2 aP aN M F ad aB P ak aw aF ac aa
    go_wp2_with(at_builtin;refine Zfp _ rfl _ _ rfl g.heap.size _ t rfl a4.o ⟨z,A,C⟩ rfl (by omega) aT ?_)
    intro v5 W5 av ax;have az:=ZZ av;have aJ:=ZZ (aH.o.trans ax)
    have aQ:Hid (∀ e ∈ t++[(⟨z,A,C⟩:Ent)],ZkN e):=ZZ (fun e he=>by
     rcases List.mem_append.1 he with h | h
     ·exact Q.out e h
     ·rw[List.mem_singleton.1 h];exact aU.o)
    clear av ax
    cases SS with
    | none=>
     have m:Hid (u=none):=ZZ (by rw[am.o];rfl)
     go_wp2;go_roundw
     case rel=>exact⟨t++[⟨z,A,C⟩],H,a3,c3,false,rfl,rfl,by simp;omega,ZZ (fun h=>by cases h),az,aQ,aq,ZZ (fun h=>by cases h),ZZ (fun _=>m.o),aJ⟩
     case measure=>show 0<d.length+1;omega
    | some y=>
     have hy:=a6 y rfl;subst hy;have aV:=aA.o _ rfl
     dsimp only at aV
     have m:Hid (u=(Zbf (f-(t++[(⟨z,A,C⟩:Ent)]).length) H).map (fun r=>((t++[⟨z,A,C⟩])++r.1,r.2))):=ZZ (by
      rw[am.o,length_append,List.length_singleton,Option.bind_some]
      cases Zbf (f-(t.length+1)) H with
      | none=>rfl
      | some r=>simp)
     go_wp2;go_roundw
     case rel=>exact⟨t++[⟨z,A,C⟩],H,a3,c3,true,rfl,rfl,by simp;omega,ZZ (fun _=>⟨by simp;omega,by simp;omega⟩),az,aQ,aq,ZZ (fun _=>m.o),ZZ (fun h=>by cases h),aJ⟩
     case measure=>show H.length+1<d.length+1;omega
theorem Zbc:Qd []=(0,0):=by
 rcases Zo [] with h | h
 ·exact h
 ·have b:=h.2.1
  have a:=h.2.2.1;simp at a;omega
theorem ZcR:Qb []=(0,0):=by
 rcases Q4 [] with h | h
 ·exact h
 ·have b:=h.2.1
  have a:=h.2.2.1;simp at a;omega
theorem Zkc (h:(Qb l).2=0):(Qb l).1=0:=by
 rcases Q4 l with e | e
 ·rw[e]
 ·omega
theorem Zkd (h:(Qd l).2=0):zag (Qd l).1=0:=by
 rcases Zo l with e | e
 ·rw[e];rfl
 ·omega
theorem Zis (l:List UInt8):behind 0 l=[]:=rfl
theorem Ye {d:Nat} (h:d≠0) (l:List UInt8):behind d l=l.drop d:=if_neg h
theorem Zn (d:Nat) (l:List UInt8):(behind d l).length<=l.length:=by
 unfold behind;split
 ·simp
 ·simp
theorem Znf (l:List UInt8):
 ((Qd (behind (Qd (behind (Qb l).2 l)).2 (behind (Qb l).2 l))).2=0->Q0 l=(⟨0,0,0⟩,0))∧
 ((Qd (behind (Qd (behind (Qb l).2 l)).2 (behind (Qb l).2 l))).2≠0->Q0 l=if Jg ⟨((Qb l).1:Int),zag (Qd (behind (Qb l).2 l)).1,zag (Qd (behind (Qd (behind (Qb l).2 l)).2 (behind (Qb l).2 l))).1⟩ then(⟨((Qb l).1:Int),zag (Qd (behind (Qb l).2 l)).1,zag (Qd (behind (Qd (behind (Qb l).2 l)).2 (behind (Qb l).2 l))).1⟩,l.length-(behind (Qd (behind (Qd (behind (Qb l).2 l)).2 (behind (Qb l).2 l))).2 (behind (Qd (behind (Qb l).2 l)).2 (behind (Qb l).2 l))).length) else(⟨0,0,0⟩,0)):=by
 by_cases a:(Qb l).2=0
 ·have e:behind (Qb l).2 l=[]:=by rw[a];rfl
  rw[e,Zbc];simp only [Zis,Zbc,ne_eq,not_true_eq_false,false_imp_iff,and_true,true_imp_iff];unfold Q0;rw[if_pos (.inl a)]
 ·have e:behind (Qb l).2 l=l.drop (Qb l).2:=Ye a l
  rw[e];by_cases f:(Qd (l.drop (Qb l).2)).2=0
  ·have g:behind (Qd (l.drop (Qb l).2)).2 (l.drop (Qb l).2)=[]:=by rw[f];rfl
   rw[g,Zbc];simp only [ne_eq,not_true_eq_false,false_imp_iff,and_true,true_imp_iff];unfold Q0;rw[if_pos (.inr (.inl f))]
  ·have g:behind (Qd (l.drop (Qb l).2)).2 (l.drop (Qb l).2)=l.drop ((Qb l).2+(Qd (l.drop (Qb l).2)).2):=by rw[Ye f,drop_drop]
   rw[g];refine⟨fun b=>?_,fun b=>?_⟩
   ·unfold Q0
    rw[if_pos (.inr (.inr (.inl b)))]
   ·have p:=Z3 l
    have m:=Jz (l.drop (Qb l).2);have n:=Jz (l.drop ((Qb l).2+(Qd (l.drop (Qb l).2)).2));simp only [length_drop] at m n;rw[Ye b,drop_drop,length_drop];unfold Q0;generalize (Qd (l.drop ((Qb l).2+(Qd (l.drop (Qb l).2)).2))).2=k at *;generalize zag (Qd (l.drop ((Qb l).2+(Qd (l.drop (Qb l).2)).2))).1=y at *;generalize (Qd (l.drop (Qb l).2)).2=j at *;generalize zag (Qd (l.drop (Qb l).2)).1=x at *;generalize (Qb l).2=i at *;generalize (Qb l).1=c at *;by_cases d:Jg ⟨(c:Int),x,y⟩
    ·rw[if_neg (by rintro(h | h | h | h);exact a h;exact f h;exact b h;exact h d),if_pos d]
     congr 1
     omega
    ·rw[if_pos (.inr (.inr (.inr d))),if_neg d]
structure GIn (w W:World) (c a b:Int) (vb:Value) (m:List UInt8):Prop where
 res:Bo W w.heap.size #[.int .i64 0,.int .i64 0,.int .i64 0]
 box:Bo W (w.heap.size+1) #[.int .i64 c,.int .i64 a,.int .i64 b]
 cap:Bb W (w.heap.size+1+1) vb
 rd:Rd W vb m
 below:Below w.heap.size w W
theorem GIn.next {b:Int} (h:GIn w W c a b e m) (d:But (w.heap.size+1+1) (w.heap.size+1+1) W W') (f:Bb W' (w.heap.size+1+1) v') (g:Rd W' v' m'):GIn w W' c a b v' m':=by
 have i:=h.cap.lt;exact⟨(d.block _ (by omega) (by omega) (by omega)).trans h.res,(d.block _ (by omega) (by omega) (by omega)).trans h.box,f,g,Zaf h.below d (by omega) (by omega) (by omega)⟩
theorem Rd.setInt (h:Rd w v m) {b j:Nat} {n:Int} (d:w.cell? ⟨b,j,none⟩=some (.int .i64 n)):Rd (w.setCell ⟨b,j,none⟩ x) v m:=by
 obtain⟨l,p,y,q,i,A,a⟩:=h;refine⟨l,p,y,q,i,A,?_⟩;rcases a with a | ⟨c,f,z,t⟩
 ·exact .inl a
 ·refine .inr ⟨c,f,z,fun k u=>?_⟩
  have g:=t k u
  rw[World.cell?_setCell_other w ⟨b,j,none⟩ ⟨c,f+k,none⟩ x (fun e=>by
   rw[e,g] at d
   simp at d)]
  exact g
theorem GIn.store {b c' a' b':Int} (h:GIn w W c a b d m) (j:Nat) (x:Int) {n:Int} (e:(#[Value.int .i64 c,.int .i64 a,.int .i64 b]:Array Value)[j]?=some (.int .i64 n)) (f:(#[Value.int .i64 c,.int .i64 a,.int .i64 b]:Array Value).setIfInBounds j (.int .i64 x)=#[.int .i64 c',.int .i64 a',.int .i64 b']):
 GIn w (W.setCell ⟨w.heap.size+1,j,none⟩ (.int .i64 x)) c' a' b' d m:=by
 have g:=h.cap.lt;refine⟨(Below.heap_setCell _ _ _ _ (by show w.heap.size≠w.heap.size+1;omega)).trans h.res,?_,(Below.heap_setCell _ _ _ _ (by show w.heap.size+1+1≠w.heap.size+1;omega)).trans h.cap,h.rd.setInt (((h.box.cell j).1).trans e),h.below.setCell (by show w.heap.size<=w.heap.size+1;omega) _⟩
 have:=heap_setCell_same W (w.heap.size+1) j _ _ (.int .i64 x) h.box;unfold Bo;rw[<-f];simpa using this
theorem GIn.more {b:Int} (h:GIn w W c a b e m) (d:Below W.heap.size W W'):GIn w W' c a b e m:=by
 have f:=h.cap.lt;exact⟨(d.block _ (by omega)).trans h.res,(d.block _ (by omega)).trans h.box,(d.block _ (by omega)).trans h.cap,h.rd.below d zL,h.below.trans (d.mono h.below.size)⟩
theorem Zdh (W:World) (b:Nat) (d e a:Value) (c i:Nat) (h:b≠c):(((W.setCell ⟨b,0,none⟩ d).setCell ⟨b,1,none⟩ e).setCell ⟨b,2,none⟩ a).drew.cell? ⟨c,i,none⟩=W.cell? ⟨c,i,none⟩:=by
 show(((W.setCell ⟨b,0,none⟩ d).setCell ⟨b,1,none⟩ e).setCell ⟨b,2,none⟩ a).cell? ⟨c,i,none⟩=_;rw[World.cell?_setCell_far _ _ _ _ h,World.cell?_setCell_far _ _ _ _ h,World.cell?_setCell_far _ _ _ _ h]
theorem ZuA (v:Value) (l:List UInt8) (w:World) (V:Rd w v l) (aB:l.length<=1000000):
 Calls prog 209 #[v] w fun e w'=>ZtI w l e w':=by
 obtain⟨n,d,rfl⟩:∃ n d,v=.slice n l.length d:=by
  obtain⟨n,d,rfl,_⟩:=V;exact⟨n,d,rfl⟩
 have HR:=ZZ V;clear V;have L:Hid (∀ W q,Bb W (w.heap.size+1+1) q->Rd W q l->Calls prog 218 #[.func (.func 168) #[] #[],.pointer (some ⟨w.heap.size+1+1,0,none⟩)] W fun e w'=>∃ v',e=.returned (.tuple #[.int .i64 ((Qb l).1:Nat),.bool (decide ((Qb l).2≠0))])∧Bb w' (w.heap.size+1+1) v'∧Rd w' v' (behind (Qb l).2 l)∧But (w.heap.size+1+1) (w.heap.size+1+1) W w'):=fun W q Z D=>Zqn _ _ _ _ _ W Z D (Z3 l) (fun h=>by rw[Zkc h];rfl) (ZcI q l W D)
 have S:Hid (∀ m W q,Bb W (w.heap.size+1+1) q->Rd W q m->Calls prog 218 #[.func (.func 201) #[] #[],.pointer (some ⟨w.heap.size+1+1,0,none⟩)] W fun e w'=>∃ v',e=.returned (.tuple #[.int .i64 (zag (Qd m).1),.bool (decide ((Qd m).2≠0))])∧Bb w' (w.heap.size+1+1) v'∧Rd w' v' (behind (Qd m).2 m)∧But (w.heap.size+1+1) (w.heap.size+1+1) W w'):=fun m W q Z D=>Zin _ _ _ _ _ W Z D (Jz m) Zkd (Zaj q m W D)
 have u:=ZZ (Znf l);have ac:=ZZ (Zn (Qb l).2 l);obtain⟨f,ad⟩:∃ f,f=behind (Qb l).2 l:=⟨_,rfl⟩;rw[<-ad] at u L ac;have ab:=ZZ (S.o f);have aa:=ZZ (Zn (Qd f).2 f);obtain⟨b,ao⟩:∃ b,b=behind (Qd f).2 f:=⟨_,rfl⟩;rw[<-ao] at u ab aa;have T:=ZZ (S.o b);have Q:=ZZ (Zn (Qd b).2 b);obtain⟨p,ar⟩:∃ p,p=behind (Qd b).2 b:=⟨_,rfl⟩;rw[<-ar] at u T Q;have aA:p.length<=l.length:=Nat.le_trans Q.o (Nat.le_trans aa.o ac.o);clear ad ao ar S ac aa Q;unfold ZtI;generalize Q0 l=R at *;generalize (Qb l).1=c at *;generalize (Qb l).2=i at *;generalize zag (Qd f).1=x at *;generalize (Qd f).2=j at *;generalize zag (Qd b).1=y at *;generalize (Qd b).2=k at *;obtain⟨C,hC⟩:∃ C:Int,C=(c:Int):=⟨_,rfl⟩;rw[<-hC] at L u;have HF:Hid (∀ W,Calls prog 80 #[.agg #[.int .i64 C,.int .i64 x,.int .i64 y]] W fun e w'=>e=.returned (.bool (decide (Jg ⟨C,x,y⟩)))∧Below W.heap.size W w'):=fun W=>ZkW ⟨C,x,y⟩ W
 have ak:=ZZ (fun W=>Zim n l.length d W)
 have au:Hid (∀ W X Y,X=.cells #[.int .i64 0,.int .i64 0,.int .i64 0] 52->Y=.cells #[.int .i64 0,.int .i64 0,.int .i64 0] 52->W=((w.alloc X).alloc Y).alloc (.cells #[.slice n l.length d] 53)->GIn w W 0 0 0 (.slice n l.length d) l):=fun W X Y hX hY hW=>by
  subst hX hY hW;have b1:Below w.heap.size w (((w.alloc (.cells #[.int .i64 0,.int .i64 0,.int .i64 0] 52)).alloc (.cells #[.int .i64 0,.int .i64 0,.int .i64 0] 52)).alloc (.cells #[.slice n l.length d] 53)):=(((Below.refl _ _).alloc zL _).alloc (by simp) _).alloc (by simp;omega) _
  refine⟨?_,?_,?_,HR.o.below b1 zL,b1⟩
  ·exact(Below.heap_alloc _ _ _ (by simp;omega)).trans ((Below.heap_alloc _ _ _ (by simp)).trans (heap_alloc_new w _))
  ·exact(Below.heap_alloc _ _ _ (by simp)).trans (Zop w _ _)
  ·have h:=heap_alloc_new ((w.alloc (.cells #[.int .i64 0,.int .i64 0,.int .i64 0] 52)).alloc (.cells #[.int .i64 0,.int .i64 0,.int .i64 0] 52)) (.cells #[.slice n l.length d] 53)
   have e:((w.alloc (.cells #[.int .i64 0,.int .i64 0,.int .i64 0] 52)).alloc (.cells #[.int .i64 0,.int .i64 0,.int .i64 0] 52)).heap.size=w.heap.size+1+1:=by simp
   rw[e] at h;exact h
 clear hC
 go_enter func209,ntmps209
 go_wp2_with fail
 refine(ak.o _).mono ?_;rintro e W1 ⟨rfl,an⟩;have F:=ZZ (au.o W1 _ _ rfl rfl an);clear an au ak
 go_wp2_with fail
 refine(L.o _ _ F.out.cap F.out.rd).mono ?_;rintro e W2 ⟨v2,rfl,af,aw,al⟩;have G2:=ZZ (F.out.next al af aw);obtain⟨p0,f0⟩:=G2.out.box.cell 0;clear af aw al F L;have P:=ZZ (G2.out.store (c':=C) (a':=0) (b':=0) 0 C rfl rfl)
 go_wp2_with fail
 refine(ab.o _ _ P.o.cap P.o.rd).mono ?_;rintro e W3 ⟨v3,rfl,ap,av,ay⟩;have G3:=ZZ (P.o.next ay ap av);obtain⟨p1,f1⟩:=G3.out.box.cell 1;clear ap av ay G2 P ab p0 f0;have I:=ZZ (G3.out.store (c':=C) (a':=x) (b':=0) 1 x rfl rfl)
 go_wp2_with fail
 refine(T.o _ _ I.o.cap I.o.rd).mono ?_;rintro e W4 ⟨v4,rfl,am,ai,aq⟩;have K:=ZZ (I.o.next aq am ai);obtain⟨p2,f2⟩:=K.out.box.cell 2;clear am ai aq G3 I T p1 f1;have g:=ZZ (K.out.store (c':=C) (a':=x) (b':=y) 2 y rfl rfl);by_cases z:k=0
 ·have A:Hid (R=(⟨0,0,0⟩,0)):=u.o.1 z
  rw[decide_eq_false (fun h=>h z)]
  obtain⟨M,g0⟩:=g.o.res.cell 0;obtain⟨N,g1⟩:=g.o.res.cell 1;obtain⟨O,g2⟩:=g.o.res.cell 2;have H:=ZZ g.o.below;clear z K;go_wp2;refine bodyPost_ret (v:=.tuple #[.agg #[.int .i64 0,.int .i64 0,.int .i64 0],.int .i64 0]) (by simp[results,Tryz.results209,go_sem,M,N,O]) rfl ?_
  rw[A.o];exact⟨rfl,((H.o.setCell zL _).setCell zL _).setCell zL _⟩
 ·have A:=ZZ (u.o.2 z)
  rw[decide_eq_true z];obtain⟨E,-⟩:=g.o.box.cell 0;obtain⟨J,-⟩:=g.o.box.cell 1;obtain⟨G,-⟩:=g.o.box.cell 2;clear z u
  go_wp2_with fail
  refine(HF.o _).mono ?_;rintro e t ⟨rfl,ag⟩;have a:=ZZ (g.o.more ag);clear ag g K E J G p2 f2;obtain⟨M,g0⟩:=a.out.res.cell 0;obtain⟨N,g1⟩:=a.out.res.cell 1;obtain⟨O,g2⟩:=a.out.res.cell 2;have H:=ZZ a.out.below;by_cases B:Jg ⟨C,x,y⟩
  ·rw[decide_eq_true B]
   rw[if_pos B] at A;obtain⟨E,-⟩:=a.out.box.cell 0;obtain⟨J,-⟩:=a.out.box.cell 1;obtain⟨G,-⟩:=a.out.box.cell 2;have hc:=a.out.cap.cell.1;obtain⟨U,c4,rfl,-⟩:=a.out.rd;have HL:=ZZ (fun W h=>Zqm (w.heap.size+1+1) U p.length c4 W h)
   have ax:IntKind.i64.wrap ((l.length:Int)-(p.length:Int))=((l.length-p.length:Nat):Int):=by rw[IntKind.wrap_i64];omega
   have az:=ZZ ax;have ae:=ZZ (⟨E,J,G,hc⟩:t.drew.cell? ⟨w.heap.size+1,0,none⟩=some (.int .i64 C)∧t.drew.cell? ⟨w.heap.size+1,1,none⟩=some (.int .i64 x)∧t.drew.cell? ⟨w.heap.size+1,2,none⟩=some (.int .i64 y)∧t.drew.cell? ⟨w.heap.size+1+1,0,none⟩=some (.slice U p.length c4));have aj:=ZZ (⟨(Zdh t w.heap.size (.int .i64 C) (.int .i64 x) (.int .i64 y) _ _ (by omega)).trans E,(Zdh t w.heap.size (.int .i64 C) (.int .i64 x) (.int .i64 y) _ _ (by omega)).trans J,(Zdh t w.heap.size (.int .i64 C) (.int .i64 x) (.int .i64 y) _ _ (by omega)).trans G,(Zdh t w.heap.size (.int .i64 C) (.int .i64 x) (.int .i64 y) (w.heap.size+1+1) 0 (by omega)).trans hc⟩:_∧_∧_∧_)
   clear B a ax HF;go_wp2
   go_region_held(fun w'=>w'.cell? ⟨w.heap.size+1,0,none⟩=some (.int .i64 C)∧w'.cell? ⟨w.heap.size+1,1,none⟩=some (.int .i64 x)∧w'.cell? ⟨w.heap.size+1,2,none⟩=some (.int .i64 y)∧w'.cell? ⟨w.heap.size+1+1,0,none⟩=some (.slice U p.length c4)) (first | exact ae.o | exact aj.o)
    (first
     | (go_at_call 219;refine(HL.o _ (by first | exact ae.o.2.2.2 | exact aj.o.2.2.2)).mono ?_;rintro e w' ⟨rfl,rfl⟩))
   all_goals
    go_wp2;refine bodyPost_ret (v:=.tuple #[.agg #[.int .i64 C,.int .i64 x,.int .i64 y],.int .i64 (IntKind.i64.wrap ((l.length:Int)-(p.length:Int)))]) (by simp[results,Tryz.results209,go_sem,M,N,O]) rfl ?_
    rw[A.o,az.o];exact⟨rfl,((((H.o.setCell zL _).setCell zL _).setCell zL _)).drew⟩
  ·rw[decide_eq_false B]
   rw[if_neg B] at A;clear B a;go_wp2;refine bodyPost_ret (v:=.tuple #[.agg #[.int .i64 0,.int .i64 0,.int .i64 0],.int .i64 0]) (by simp[results,Tryz.results209,go_sem,M,N,O]) rfl ?_
   rw[A.o];exact⟨rfl,((H.o.setCell zL _).setCell zL _).setCell zL _⟩
def Zau (w:World) (r:St × Int) (e:Ending) (w':World):Prop:=
 ∃ vl,e=.returned (.tuple #[.agg #[.int .i64 r.1.kind,vl,.bool r.1.shut,.int .i64 r.1.eng],.int .i64 r.2])∧RdI w' vl r.1.L∧I64 r.1.kind∧I64 r.1.eng∧(∀ b,vl.ownBlock=some b->w.heap.size<=b)∧Below w.heap.size w w'
theorem Zau.zero (n:Int) (a:Below w.heap.size w w'):Zau w (ZcA,n) (.returned (.tuple #[.agg #[.int .i64 0,.slice none 0 0,.bool false,.int .i64 0],.int .i64 n])) w':=
 ⟨_,rfl,RdI.nil _,(Qk (by decide) (by decide):I64 0),(Qk (by decide) (by decide):I64 0),fun b a=>by simp[Value.ownBlock] at a,a⟩
theorem ZcS:∀ (a b:Nat) (l:List UInt8),Js (a+b) l=(Js a l).bind fun x=>(Js b (l.drop x.2)).map fun y=>(x.1++y.1,x.2+y.2)
 | 0,b,l=>by
  rw[Nat.zero_add,Js];simp
 | a+1,b,l=>by
  rw[Nat.add_right_comm,Js,Js,ZcS a b];by_cases h:(Qd l).2=0
  ·rw[if_pos h,if_pos h]
   rfl
  ·rw[if_neg h,if_neg h]
   cases Js a (l.drop (Qd l).2) with
   | none=>rfl
   | some x=>
    obtain⟨xs,u⟩:=x;simp only [Option.bind_some,Option.map_some,drop_drop]
    cases Js b (l.drop ((Qd l).2+u)) with
    | none=>rfl
    | some y=>simp[Nat.add_assoc]
theorem Zng (l:List UInt8):Js 1 l=if(Qd l).2=0 then none else some ([zag (Qd l).1],(Qd l).2):=by
 rw[Js];split
 ·rfl
 ·rfl
theorem Zsc (h:Js k l=some (xs,u)) (a:(Qd (l.drop u)).2≠0):Js (k+1) l=some (xs++[zag (Qd (l.drop u)).1],u+(Qd (l.drop u)).2):=by
 rw[ZcS,h];simp only [Option.bind_some];rw[Zng,if_neg a];rfl
theorem Zsd {m:Nat} (h:Js k l=some (xs,u)) (a:(Qd (l.drop u)).2=0) (b:k<m):Js m l=none:=by
 obtain⟨d,rfl⟩:∃ d,m=k+1+d:=⟨m-(k+1),by omega⟩
 rw[ZcS,ZcS k 1,h];simp only [Option.bind_some];rw[Zng,if_pos a];rfl
theorem Zpb (l:List UInt8):
 ((Qb (behind (Qb (behind (Qb l).2 l)).2 (behind (Qb l).2 l))).2=0∨3<(Qb (behind (Qb l).2 l)).1∨128<(Qb (behind (Qb (behind (Qb l).2 l)).2 (behind (Qb l).2 l))).1->ZeV l=(ZcA,3))∧
 (¬ ((Qb (behind (Qb (behind (Qb l).2 l)).2 (behind (Qb l).2 l))).2=0∨3<(Qb (behind (Qb l).2 l)).1∨128<(Qb (behind (Qb (behind (Qb l).2 l)).2 (behind (Qb l).2 l))).1)->
  ZeV l=ZlL (Qb l).1 (Qb (behind (Qb l).2 l)).1 (Qb (behind (Qb (behind (Qb l).2 l)).2 (behind (Qb l).2 l))).1 (behind (Qb (behind (Qb (behind (Qb l).2 l)).2 (behind (Qb l).2 l))).2 (behind (Qb (behind (Qb l).2 l)).2 (behind (Qb l).2 l)))):=by
 by_cases a:(Qb l).2=0
 ·have e:behind (Qb l).2 l=[]:=by rw[a];rfl
  rw[e,ZcR];simp only [Zis,ZcR];refine⟨fun _=>?_,fun h=>absurd (Or.inl trivial) h⟩
  unfold ZeV;rw[if_pos (.inl a)]
 ·have e:behind (Qb l).2 l=l.drop (Qb l).2:=Ye a l
  rw[e];by_cases c:(Qb (l.drop (Qb l).2)).2=0
  ·have d:behind (Qb (l.drop (Qb l).2)).2 (l.drop (Qb l).2)=[]:=by rw[c];rfl
   rw[d,ZcR];refine⟨fun _=>?_,fun h=>absurd (Or.inl rfl) h⟩
   unfold ZeV;rw[if_pos (.inr (.inl c))]
  ·have d:behind (Qb (l.drop (Qb l).2)).2 (l.drop (Qb l).2)=l.drop ((Qb l).2+(Qb (l.drop (Qb l).2)).2):=by rw[Ye c,drop_drop]
   rw[d];refine⟨fun b=>?_,fun b=>?_⟩
   ·unfold ZeV
    rw[if_pos (.inr (.inr b))]
   ·have f:(Qb (l.drop ((Qb l).2+(Qb (l.drop (Qb l).2)).2))).2≠0:=fun h=>b (.inl h)
    unfold ZeV;rw[if_neg (by rintro(h | h | h);exact a h;exact c h;exact b h),Ye f,drop_drop]
structure SIn (w W:World) (kd:Int) (vl:Value) (sh:Bool) (g:Int) (vb:Value) (m:List UInt8):Prop where
 res:Bx W w.heap.size #[.int .i64 0,.slice none 0 0,.bool false,.int .i64 0]
 box:Bx W (w.heap.size+1) #[.int .i64 kd,vl,.bool sh,.int .i64 g]
 cap:Bb W (w.heap.size+1+1) vb
 rd:Rd W vb m
 below:Below w.heap.size w W
theorem SIn.next {c:Bool} {b:Value} (h:SIn w W kd b c g d m) (a:But (w.heap.size+1+1) (w.heap.size+1+1) W W') (e:Bb W' (w.heap.size+1+1) v') (f:Rd W' v' m'):SIn w W' kd b c g v' m':=by
 have i:=h.cap.lt;exact⟨(a.block _ (by omega) (by omega) (by omega)).trans h.res,(a.block _ (by omega) (by omega) (by omega)).trans h.box,e,f,Zaf h.below a (by omega) (by omega) (by omega)⟩
theorem SIn.more {d:Bool} {c b:Value} (h:SIn w W kd c d g b m) (a:Below W.heap.size W W'):SIn w W' kd c d g b m:=by
 have e:=h.cap.lt;exact⟨(a.block _ (by omega)).trans h.res,(a.block _ (by omega)).trans h.box,(a.block _ (by omega)).trans h.cap,h.rd.below a zL,h.below.trans (a.mono h.below.size)⟩
theorem Rd.setElse {y:Value} (h:Rd w v m) {b j:Nat} (d:w.cell? ⟨b,j,none⟩=some y) (p:∀ n,y≠.int .u8 n):Rd (w.setCell ⟨b,j,none⟩ x) v m:=by
 obtain⟨l,q,A,t,i,C,a⟩:=h;refine⟨l,q,A,t,i,C,?_⟩;rcases a with a | ⟨c,f,B,u⟩
 ·exact .inl a
 ·refine .inr ⟨c,f,B,fun k z=>?_⟩
  have g:=u k z
  rw[World.cell?_setCell_other w ⟨b,j,none⟩ ⟨c,f+k,none⟩ x (fun e=>by
   rw[e,g] at d
   exact p _ (Option.some.inj d).symm)]
  exact g
theorem SIn.store {kd' g':Int} {a sh':Bool} {b vl' c:Value} (h:SIn w W kd b a g c m) (j:Nat) (x y:Value) (f:(#[Value.int .i64 kd,b,.bool a,.int .i64 g]:Array Value)[j]?=some y) (d:∀ n,y≠.int .u8 n) (e:(#[Value.int .i64 kd,b,.bool a,.int .i64 g]:Array Value).setIfInBounds j x=#[.int .i64 kd',vl',.bool sh',.int .i64 g']):
 SIn w (W.setCell ⟨w.heap.size+1,j,none⟩ x) kd' vl' sh' g' c m:=by
 have i:=h.cap.lt;refine⟨(Below.heap_setCell _ _ _ _ (by show w.heap.size≠w.heap.size+1;omega)).trans h.res,?_,(Below.heap_setCell _ _ _ _ (by show w.heap.size+1+1≠w.heap.size+1;omega)).trans h.cap,h.rd.setElse (((h.box.cell j).1).trans f) d,h.below.setCell (by show w.heap.size<=w.heap.size+1;omega) _⟩
 have:=heap_setCell_same W (w.heap.size+1) j _ _ x h.box;unfold Bx;rw[<-e];simpa using this
structure DIn (w W:World) (kd g:Int) (sh:Bool) (R:List UInt8) (cnt G k:Nat) (vb:Value) (m:List UInt8) (ys:List Int) (th:Bool):Prop where
 sin:SIn w W kd (.slice (some ⟨G,0,none⟩) cnt cnt) sh g vb m
 row:W.heap[G]?=some (.cells (Qn ys).toArray 3 (0,0))
 len:ys.length=cnt
 far:w.heap.size+1+1<G
 st:(th=true∧∃ u,Js k R=some (ys.take k,u)∧m=R.drop u)∨(th=false∧Js k R=none∧m=[])
theorem Zse (h:Js k R=none):Js (k+1) R=none:=by
 rw[ZcS,h];rfl
theorem Zwu (a:List Int) (k:Nat) (x:Int) (b:k<a.length):(a.set k x).take (k+1)=a.take k++[x]:=by
 rw[List.take_add_one,List.take_set_of_le zL];simp[b]
theorem DIn.step {l:Bool} {f:Nat} {z:Value} {b:List Int} {x:Bool} (h:DIn w W kd g l R f G k z m b x) (B:k<f) (j:But (w.heap.size+1+1) (w.heap.size+1+1) W W') (q:Bb W' (w.heap.size+1+1) v') (t:Rd W' v' (behind (Qd m).2 m)):
 DIn w (W'.setCell ⟨G,k,none⟩ (.int .i64 (zag (Qd m).1))) kd g l R f G (k+1) v' (behind (Qd m).2 m) (b.set k (zag (Qd m).1)) (decide ((Qd m).2≠0)):=by
 have p:=h.far;have v:G<W.heap.size:=(Array.getElem?_eq_some_iff.1 h.row).1;have i:W'.heap[G]?=some (.cells (Qn b).toArray 3 (0,0)):=(j.block G v (by omega) (by omega)).trans h.row
 have c:=h.sin.next j q t
 have y:W'.cell? ⟨G,k,none⟩=some (.int .i64 (b.getD k 0)):=by
  rw[cell_of_row W' G k _ _ _ i];have:=Y3 b k (by have:=h.len;omega)
  simpa using this
 refine⟨⟨?_,?_,?_,c.rd.setElse y (fun n e=>by simp at e),c.below.setCell (by show w.heap.size<=G;omega) _⟩,?_,by rw[List.length_set];exact h.len,p,?_⟩
 ·exact(Below.heap_setCell _ _ _ _ (by show w.heap.size≠G;omega)).trans c.res
 ·exact(Below.heap_setCell _ _ _ _ (by show w.heap.size+1≠G;omega)).trans c.box
 ·exact(Below.heap_setCell _ _ _ _ (by show w.heap.size+1+1≠G;omega)).trans c.cap
 ·rw[heap_setCell_same W' G k _ _ _ i]
  congr 2
  unfold Qn;apply Array.ext';simp[List.map_set]
 ·have A:=h.len
  rcases h.st with ⟨rfl,u,d,rfl⟩ | ⟨rfl,d,rfl⟩
  ·by_cases a:(Qd (R.drop u)).2=0
   ·right
    refine⟨decide_eq_false (fun h=>h a),Zsd d a (by omega),?_⟩
    rw[a];rfl
   ·left
    refine⟨decide_eq_true a,u+(Qd (R.drop u)).2,?_,?_⟩
    ·rw[Zsc d a,Zwu b k _ (by omega)]
    ·rw[Ye a,drop_drop]
  ·right
   rw[Zbc];exact⟨rfl,Zse d,rfl⟩
theorem DIn.own {a:Nat} {b:List Int} {e:Bool} (h:DIn w W kd g i R a G k d m b e) (f:a<=maxLen):Qo W (w.heap.size+1+1+1) (.slice (some ⟨G,0,none⟩) a a) b:=by
 have c:=h.len;have j:=h.far;refine⟨by rw[Yw,Nat.mul_one],.inr ⟨G,a,(Qn b).toArray,by rw[c],by omega,h.row,by omega,f,?_,?_⟩⟩
 ·simp[Yw,c]
 ·rw[List.take_of_length_le]
  simp[Yw]
theorem Zlq (w:World) (n:Nat) (f:n<=1000000):(Instr.makeSlice 23 (.int .i64 (n:Int)) (.int .i64 (n:Int))).run prog w=.ok (.slice (some ⟨w.heap.size,0,none⟩) n n) (w.alloc (.cells (Qn (List.replicate n 0)).toArray 3)):=by
 obtain⟨a,b,c,d,e⟩:=info_parts Zku;have h:=run_make (P:=prog) w 23 3 a (.int .i64 0) underlying23 b c .i64 .i64 (n:Int) (n:Int) (by omega) (Int.le_refl _) (by rw[e];omega) (by omega)
 rw[Int.toNat_natCast,d,Nat.mul_one] at h;rw[h]
 congr 3
 apply Array.ext';show(madeCells #[Value.int .i64 0] n).toList=_;rw[toList_madeCells_one];simp[Qn]
theorem But.ofDrew {R:Nat} (h:But R T w.drew w'):But R T w w':=⟨h.os,h.tape,h.output,h.size,h.block⟩
theorem DIn.start {c:Bool} {b:Value} (h:SIn w W kd (.slice none 0 0) c g b R) (a:Nat):
 DIn w ((W.alloc (.cells (Qn (List.replicate a 0)).toArray 3)).setCell ⟨w.heap.size+1,1,none⟩ (.slice (some ⟨W.heap.size,0,none⟩) a a)) kd g c R a W.heap.size 0 b R (List.replicate a 0) true:=by
 have f:=h.cap.lt;have d:=h.more ((Below.refl _ _).alloc zL (.cells (Qn (List.replicate a 0)).toArray 3));refine⟨d.store 1 _ _ rfl (fun n e=>by simp at e) rfl,?_,by simp,f,.inl ⟨rfl,0,rfl,by simp⟩⟩
 exact(Below.heap_setCell _ _ _ _ (by show W.heap.size≠w.heap.size+1;omega)).trans (heap_alloc_new W _)
theorem DIn.spot {e:Bool} {c:Nat} {j:Value} {a:List Int} (h:DIn w W kd g e R c G k j m a i) (n:k<c) (d:But (w.heap.size+1+1) (w.heap.size+1+1) W W'):
 W'.cell? ⟨G,k,none⟩=some (.int .i64 (a.getD k 0))∧W'.frozen? ⟨G,k,none⟩=false:=by
 have l:=h.far;have f:G<W.heap.size:=(Array.getElem?_eq_some_iff.1 h.row).1;have b:W'.heap[G]?=some (.cells (Qn a).toArray 3 (0,0)):=(d.block G f (by omega) (by omega)).trans h.row
 refine⟨?_,frozen_of_row W' G k _ _ b⟩;rw[cell_of_row W' G k _ _ _ b];have:=Y3 a k (by have:=h.len;omega)
 simpa using this
theorem Zit (v:Value) (l:List UInt8) (w:World) (T:Rd w v l) (_hlim:l.length<=1000000):
 Calls prog 164 #[v] w fun e w'=>Zau w (ZeV l) e w':=by
 obtain⟨L,I,rfl⟩:∃ L I,v=.slice L l.length I:=by
  obtain⟨L,I,rfl,_⟩:=T;exact⟨L,I,rfl⟩
 have HR:=ZZ T;clear T;have ae:Hid (∀ m W f,Bb W (w.heap.size+1+1) f->Rd W f m->Calls prog 218 #[.func (.func 168) #[] #[],.pointer (some ⟨w.heap.size+1+1,0,none⟩)] W fun e w'=>∃ v',e=.returned (.tuple #[.int .i64 ((Qb m).1:Nat),.bool (decide ((Qb m).2≠0))])∧Bb w' (w.heap.size+1+1) v'∧Rd w' v' (behind (Qb m).2 m)∧But (w.heap.size+1+1) (w.heap.size+1+1) W w'):=fun m W f h1 h2=>Zqn _ _ _ _ _ W h1 h2 (Z3 m) (fun h=>by rw[Zkc h];rfl) (ZcI f m W h2)
 have a2:Hid (∀ m W f,Bb W (w.heap.size+1+1) f->Rd W f m->Calls prog 218 #[.func (.func 201) #[] #[],.pointer (some ⟨w.heap.size+1+1,0,none⟩)] W fun e w'=>∃ v',e=.returned (.tuple #[.int .i64 (zag (Qd m).1),.bool (decide ((Qd m).2≠0))])∧Bb w' (w.heap.size+1+1) v'∧Rd w' v' (behind (Qd m).2 m)∧But (w.heap.size+1+1) (w.heap.size+1+1) W w'):=fun m W f h1 h2=>Zin _ _ _ _ _ W h1 h2 (Jz m) Zkd (Zaj f m W h2)
 have HG:=ZZ (Zpb l);have ai:=ZZ (ae.o l)
 have c1:(Qb l).1<4611686018427387904:=by
  rcases Q4 l with h | h
  ·rw[h];decide
  ·exact h.1
 obtain⟨Q,aq⟩:∃ Q,Q=behind (Qb l).2 l:=⟨_,rfl⟩;rw[<-aq] at HG ai;have ao:=ZZ (ae.o Q);obtain⟨O,aI⟩:∃ O,O=behind (Qb Q).2 Q:=⟨_,rfl⟩;rw[<-aI] at HG ao;have ap:=ZZ (ae.o O);obtain⟨R,aP⟩:∃ m3,m3=behind (Qb O).2 O:=⟨_,rfl⟩;rw[<-aP] at HG ap;clear aq aI aP ae;generalize ZeV l=D at *;generalize (Qb l).1=kd at *;generalize (Qb l).2=i at *;generalize (Qb Q).1=y at *;generalize (Qb Q).2=j at *;generalize (Qb O).1=a at *;generalize (Qb O).2=k at *;have aD:=ZZ (fun W=>Zim L l.length I W)
 have aR:Hid (∀ W X Y,X=.cells #[.int .i64 0,.slice none 0 0,.bool false,.int .i64 0] 38->Y=.cells #[.int .i64 0,.slice none 0 0,.bool false,.int .i64 0] 38->W=((w.alloc X).alloc Y).alloc (.cells #[.slice L l.length I] 53)->SIn w W 0 (.slice none 0 0) false 0 (.slice L l.length I) l):=fun W X Y hX hY hW=>by
  subst hX hY hW;have S:Below w.heap.size w (((w.alloc (.cells #[.int .i64 0,.slice none 0 0,.bool false,.int .i64 0] 38)).alloc (.cells #[.int .i64 0,.slice none 0 0,.bool false,.int .i64 0] 38)).alloc (.cells #[.slice L l.length I] 53)):=(((Below.refl _ _).alloc zL _).alloc (by simp) _).alloc (by simp;omega) _
  refine⟨?_,?_,?_,HR.o.below S zL,S⟩
  ·exact(Below.heap_alloc _ _ _ (by simp;omega)).trans ((Below.heap_alloc _ _ _ (by simp)).trans (heap_alloc_new w _))
  ·exact(Below.heap_alloc _ _ _ (by simp)).trans (Zop w _ _)
  ·have h:=heap_alloc_new ((w.alloc (.cells #[.int .i64 0,.slice none 0 0,.bool false,.int .i64 0] 38)).alloc (.cells #[.int .i64 0,.slice none 0 0,.bool false,.int .i64 0] 38)) (.cells #[.slice L l.length I] 53)
   have e:((w.alloc (.cells #[.int .i64 0,.slice none 0 0,.bool false,.int .i64 0] 38)).alloc (.cells #[.int .i64 0,.slice none 0 0,.bool false,.int .i64 0] 38)).heap.size=w.heap.size+1+1:=by simp
   rw[e] at h;exact h
 go_enter func164,ntmps164
 go_wp2_with fail
 refine(aD.o _).mono ?_;rintro e W1 ⟨rfl,aG⟩;have G1:=ZZ (aR.o W1 _ _ rfl rfl aG);clear aG aR aD
 go_wp2_with fail
 refine(ai.o _ _ G1.out.cap G1.out.rd).mono ?_;rintro e W2 ⟨v2,rfl,aw,aU,aE⟩;have G2:=ZZ (G1.out.next aE aw aU);obtain⟨p0,f0⟩:=G2.out.box.cell 0;clear aw aU aE G1 ai;have af:=ZZ (G2.out.store (kd':=(kd:Int)) (vl':=.slice none 0 0) (sh':=false) (g':=0) 0 (.int .i64 (kd:Int)) _ rfl (fun n e=>by simp at e) rfl)
 go_wp2_with fail
 refine(ao.o _ _ af.o.cap af.o.rd).mono ?_;rintro e W3 ⟨v3,rfl,aK,aT,a0⟩;have G3:=ZZ (af.o.next a0 aK aT);clear aK aT a0 G2 af ao p0 f0
 go_wp2_with fail
 refine(ap.o _ _ G3.out.cap G3.out.rd).mono ?_;rintro e W4 ⟨v4,rfl,aF,ay,aL⟩;have d:=ZZ (G3.out.next aL aF ay);clear aF ay aL G3 ap;by_cases A:k=0∨3<y∨128<a
 ·have K:Hid (D=(ZcA,3)):=HG.o.1 A
  obtain⟨E,g0⟩:=d.out.res.cell 0;obtain⟨F,g1⟩:=d.out.res.cell 1;obtain⟨H,g2⟩:=d.out.res.cell 2;obtain⟨B,g3⟩:=d.out.res.cell 3;have aa:=ZZ d.out.below;by_cases J:k=0
  ·rw[decide_eq_false (fun h=>h J)]
   clear J A d;go_wp2;refine bodyPost_ret (v:=.tuple #[.agg #[.int .i64 0,.slice none 0 0,.bool false,.int .i64 0],.int .i64 3]) (by simp[results,Tryz.results164,go_sem,E,F,H,B]) rfl ?_
   rw[K.o];exact Zau.zero 3 (Zae aa.o w.heap.size zL _ _ _ _)
  ·rw[decide_eq_true J]
   by_cases h3:3<y
   ·have a7:(3:Int)<(y:Int):=by omega
    clear J A d h3;go_wp2;refine bodyPost_ret (v:=.tuple #[.agg #[.int .i64 0,.slice none 0 0,.bool false,.int .i64 0],.int .i64 3]) (by simp[results,Tryz.results164,go_sem,E,F,H,B]) rfl ?_
    rw[K.o];exact Zau.zero 3 (Zae aa.o w.heap.size zL _ _ _ _)
   ·have a7:¬ (3:Int)<(y:Int):=by omega
    have h4:(128:Int)<(a:Int):=by
     rcases A with h | h | h
     ·exact absurd h J
     ·exact absurd h h3
     ·omega
    clear J A d h3;go_wp2;refine bodyPost_ret (v:=.tuple #[.agg #[.int .i64 0,.slice none 0 0,.bool false,.int .i64 0],.int .i64 3]) (by simp[results,Tryz.results164,go_sem,E,F,H,B]) rfl ?_
    rw[K.o];exact Zau.zero 3 (Zae aa.o w.heap.size zL _ _ _ _)
 ·have K:Hid (D=ZlL kd y a R):=HG.o.2 A
  have J:k≠0:=fun h=>A (.inl h)
  have h3:¬ (3:Int)<(y:Int):=fun h=>A (.inr (.inl (by omega)))
  have h4:¬ (128:Int)<(a:Int):=fun h=>A (.inr (.inr (by omega)))
  rw[decide_eq_true J];obtain⟨p1,f1⟩:=d.out.box.cell 1;obtain⟨p2,f2⟩:=d.out.box.cell 2;obtain⟨p3,f3⟩:=d.out.box.cell 3;clear A J HG;have aW:y=0∨y=1∨y=2∨y=3:=by omega
  go_upto_region 8 with fail
  go_cut[] (fun wc=>∃ (p:Bool) (g:Int),Hid (∀ xs,mkS kd y xs=⟨kd,xs,p,g⟩)∧Hid (I64 g)∧Hid (SIn w wc kd (.slice none 0 0) p g v4 R))
  case first=>
   rcases aW with rfl | rfl | rfl | rfl
   ·go_wp2
    go_meet
    exact⟨false,0,ZZ (fun xs=>by simp[mkS]),ZZ (Qk (by omega) (by omega)),ZZ ((d.out.store 2 (.bool false) _ rfl (fun n e=>by simp at e) rfl).store 3 (.int .i64 0) _ rfl (fun n e=>by simp at e) rfl)⟩
   ·go_wp2
    go_meet
    exact⟨true,0,ZZ (fun xs=>by simp[mkS]),ZZ (Qk (by omega) (by omega)),ZZ ((d.out.store 2 (.bool true) _ rfl (fun n e=>by simp at e) rfl).store 3 (.int .i64 0) _ rfl (fun n e=>by simp at e) rfl)⟩
   ·go_wp2
    go_meet
    exact⟨true,1,ZZ (fun xs=>by simp[mkS]),ZZ (Qk (by omega) (by omega)),ZZ ((d.out.store 2 (.bool true) _ rfl (fun n e=>by simp at e) rfl).store 3 (.int .i64 1) _ rfl (fun n e=>by simp at e) rfl)⟩
   ·go_wp2
    go_meet
    exact⟨true,2,ZZ (fun xs=>by simp[mkS]),ZZ (Qk (by omega) (by omega)),ZZ ((d.out.store 2 (.bool true) _ rfl (fun n e=>by simp at e) rfl).store 3 (.int .i64 2) _ rfl (fun n e=>by simp at e) rfl)⟩
  case rest=>
   obtain⟨p,g,au,ax,GS⟩:=hcut;clear aW p1 f1 p2 f2 p3 f3 d;have am:=ZZ (DIn.start GS.out a);obtain⟨a1,e1⟩:=(GS.out.more ((Below.refl _ _).alloc zL (.cells (Qn (List.replicate a 0)).toArray 3))).box.cell 1;have a9:=fun W=>Zlq W a (by omega)
   have aO:Hid (I64 (kd:Int)):=⟨by omega,by omega⟩
   have bb:a<=128:=by omega
   have a5:Hid (a<=maxLen):=ZZ (by unfold maxLen;omega)
   generalize (Qn (List.replicate a 0)).toArray=Z at *
   go_upto_region 10 with fail
   generalize ((wc.alloc (.cells Z 3)).setCell ⟨w.heap.size+1,1,none⟩ (.slice (some ⟨wc.heap.size,0,none⟩) a a))=W6 at *;clear a9 a1 e1 GS;generalize wc.heap.size=G at *;obtain⟨S,-⟩:=am.o.sin.box.cell 1;go_wp2
   go_loopw[10,57] (fun th ix wr=>∃ (q:Nat) (f:Value) (m:List UInt8) (z:List Int) (t:Bool),th=.bool t∧ix=.int .i64 (q:Int)∧q<=a∧Hid (DIn w wr kd g p R a G q f m z t)) (fun _ ix _=>a-(intOf ix).toNat)
   case atStart=>exact⟨0,_,_,_,true,rfl,rfl,Nat.zero_le _,am⟩
   case round=>
    clear am S;obtain⟨q,f,m,z,t,rfl,rfl,hq,c⟩:=hrel;by_cases az:q<a
    ·have a8:(q:Int)<(a:Int):=by omega
     obtain⟨S,-⟩:=c.out.sin.box.cell 1;have ba:=c.out.far;have aN:Hid (wr.drew.cell? ⟨w.heap.size+1,1,none⟩=some (.slice (some ⟨G,0,none⟩) a a)):=S;have aH:=ZZ (a2.o m wr.drew f c.out.sin.cap c.out.sin.rd);have aV:=ZZ (fun W' v' hb N T=>c.out.step (W':=W') (v':=v') az hb N T)
     have aY:=ZZ (fun W' hb=>c.out.spot (W':=W') az hb)
     have aJ:=ZZ (fun W' v' hb N T=>(((c.out.sin.next (W':=W') (v':=v') (m':=behind (Qd m).2 m) hb N T).box).cell 1).1)
     generalize zag (Qd m).1=x at *;generalize behind (Qd m).2 m=m' at *;generalize decide ((Qd m).2≠0)=t' at *;go_wp2
     go_region_held(fun w'=>w'.cell? ⟨w.heap.size+1,1,none⟩=some (.slice (some ⟨G,0,none⟩) a a)) (first | exact aN.o | exact ag.o | exact aB.o)
      (first
       | (go_at_call 218;refine aH.o.mono ?_;rintro e V ⟨v7,rfl,U,an,ar⟩;have ad:=ar.ofDrew;have ag:Hid (V.cell? ⟨w.heap.size+1,1,none⟩=some (.slice (some ⟨G,0,none⟩) a a)):=aJ.o V v7 ad U an;obtain⟨k0,k1⟩:=aY.o V ad;have aB:Hid ((V.setCell ⟨G,q,none⟩ (.int .i64 x)).cell? ⟨w.heap.size+1,1,none⟩=some (.slice (some ⟨G,0,none⟩) a a)):=ZZ ((World.cell?_setCell_far V _ _ _ (by show G≠w.heap.size+1;omega)).trans ag.o);have a3:=ZZ (aV.o V v7 ad U an);clear U an ar ad))
     clear aN ag aB aH aV aY aJ k0 k1 S ba c;go_wp2;go_roundw
     case rel=>exact⟨q+1,_,_,_,_,rfl,by go_num,by omega,a3⟩
     case measure=>simp[intOf];omega
    ·have aQ:q=a:=by omega
     have a8:¬ (q:Int)<(a:Int):=by omega
     have aA:=c.out.len;have aZ:=ZZ (c.out.own a5.o);obtain⟨E,f0⟩:=c.out.sin.res.cell 0;obtain⟨F,f1⟩:=c.out.sin.res.cell 1;obtain⟨H,f2⟩:=c.out.sin.res.cell 2;obtain⟨B,f3⟩:=c.out.sin.res.cell 3;have aa:=ZZ c.out.sin.below;rcases c.out.st with ⟨rfl,u,M,ac⟩ | ⟨rfl,M,ac⟩
     ·have hu:=(ZbV _ _ _ _ M).2.1
      have av:m.length=R.length-u:=by rw[ac,length_drop]
      have aM:z.take q=z:=List.take_of_length_le (by omega)
      rw[aM,aQ] at M;have al:=ZZ M;have N:=c.out.sin.cap.cell.1;obtain⟨a4,c4,rfl,-⟩:=c.out.sin.rd;have HL:=ZZ (fun W h=>Zqm (w.heap.size+1+1) a4 m.length c4 W h)
      clear M aM ac;by_cases ak:u=R.length
      ·have aj:m.length=0:=by omega
       rw[aj] at N HL
       have ab:Hid (D=if X8 ⟨kd,z,p,g⟩ then((⟨kd,z,p,g⟩:St),0) else(ZcA,1)):=by
        refine ZZ ?_;rw[K.o];unfold ZlL;rw[al.o];simp only;rw[if_neg (by omega),au.o]
       have aX:=ZZ (ZbV _ _ _ _ al.o).2.2.2;have a6:=ZZ (aZ.o.rd aX.o);have q0:=(c.out.sin.box.cell 0).1;have q1:=(c.out.sin.box.cell 1).1;have q2:=(c.out.sin.box.cell 2).1;have q3:=(c.out.sin.box.cell 3).1;have aC:Hid (Calls prog 82 #[.agg #[.int .i64 kd,.slice (some ⟨G,0,none⟩) a a,.bool p,.int .i64 g]] wr fun e w'=>e=.returned (.bool (decide (X8 ⟨kd,z,p,g⟩)))∧Below wr.heap.size wr w'):=ZkV _ ⟨kd,z,p,g⟩ _ ⟨_,rfl,a6.o,aO.o,ax.o⟩
       clear ak av aj aA K au
       go_wp2_with fail
       refine(HL.o _ N).mono ?_;rintro e W8 ⟨rfl,rfl⟩
       go_wp2_with fail
       refine aC.o.mono ?_;rintro e V ⟨rfl,U⟩;have C:=ZZ (c.out.sin.more U);have aS:=ZZ (aZ.o.below U zL);clear U E F H B f0 f1 f2 f3 q0 q1 q2 q3 N aC HL;obtain⟨E,f0⟩:=C.o.res.cell 0;obtain⟨F,f1⟩:=C.o.res.cell 1;obtain⟨H,f2⟩:=C.o.res.cell 2;obtain⟨B,f3⟩:=C.o.res.cell 3;have q0:=(C.o.box.cell 0).1;have q1:=(C.o.box.cell 1).1;have q2:=(C.o.box.cell 2).1;have q3:=(C.o.box.cell 3).1;by_cases hm:X8 ⟨kd,z,p,g⟩
       ·rw[decide_eq_true hm]
        have P:Hid (D=((⟨kd,z,p,g⟩:St),0)):=ab.o.trans (if_pos hm);clear hm ab;go_wp2;refine bodyPost_ret (v:=.tuple #[.agg #[.int .i64 kd,.slice (some ⟨G,0,none⟩) a a,.bool p,.int .i64 g],.int .i64 0]) (by simp[results,Tryz.results164,go_sem,E,F,H,B]) rfl ?_
        rw[P.o];refine⟨_,rfl,(aS.o.four w.heap.size (by omega) _ _ _ _).rd aX.o,aO.o,ax.o,fun b hb=>?_,Zae C.o.below w.heap.size zL _ _ _ _⟩
        have:=aS.o.fresh b hb;omega
       ·rw[decide_eq_false hm]
        have P:Hid (D=(ZcA,1)):=ab.o.trans (if_neg hm);clear hm ab;go_wp2;refine bodyPost_ret (v:=.tuple #[.agg #[.int .i64 0,.slice none 0 0,.bool false,.int .i64 0],.int .i64 1]) (by simp[results,Tryz.results164,go_sem,E,F,H,B]) rfl ?_
        rw[P.o];exact Zau.zero 1 (Zae C.o.below w.heap.size zL _ _ _ _)
      ·have aj:(0:Int)<(m.length:Int):=by omega
       have P:Hid (D=(ZcA,3)):=by
        refine ZZ ?_;rw[K.o];unfold ZlL;rw[al.o];simp only;rw[if_pos ak]
       clear ak av aA K
       go_wp2_with fail
       refine(HL.o _ N).mono ?_;rintro e W8 ⟨rfl,rfl⟩;go_wp2;refine bodyPost_ret (v:=.tuple #[.agg #[.int .i64 0,.slice none 0 0,.bool false,.int .i64 0],.int .i64 3]) (by simp[results,Tryz.results164,go_sem,E,F,H,B]) rfl ?_
       rw[P.o];exact Zau.zero 3 (Zae aa.o w.heap.size zL _ _ _ _)
     ·rw[aQ] at M
      have P:Hid (D=(ZcA,3)):=by
       refine ZZ ?_;rw[K.o];unfold ZlL;rw[M]
      clear M ac c;go_wp2;refine bodyPost_ret (v:=.tuple #[.agg #[.int .i64 0,.slice none 0 0,.bool false,.int .i64 0],.int .i64 3]) (by simp[results,Tryz.results164,go_sem,E,F,H,B]) rfl ?_
      rw[P.o];exact Zau.zero 3 (Zae aa.o w.heap.size zL _ _ _ _)
end Go.Proofs.YtnahjngbneicaaaGreatDoor
