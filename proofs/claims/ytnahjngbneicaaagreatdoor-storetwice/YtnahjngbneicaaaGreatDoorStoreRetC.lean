import Derived.Test.YtnahjngbneicaaaGreatDoorStoreRetB
namespace Go.Proofs.YtnahjngbneicaaaGreatDoor
open _root_.Go.Proofs.Tryz
open List (append_nil length_filter_le length_map)
set_option maxRecDepth 100000
open Go.RowKit
theorem ZoM (s:Sto):ZnS s++[Zar]=((s.log.pcs.filter (ZnR s)).map fun q=>Zbv (fun d=>Zam d q.name))++[Zar]:=rfl
theorem Zif (s:Sto) (d:Dk) (gone:List Pce):(Zbj ((gone.map fun q:Pce=>Zbv (fun d=>Zam d q.name))++[Zar]) (s,d)).1.1.log=s.log:=by
 have h:∀ (gs:List (SDk->SDk × Int)),(∀ g ∈ gs,∀ x,(g x).1.1.log=x.1.log)->∀ x,(Zbj gs x).1.1.log=x.1.log:=by
  intro gs
  induction gs with
  | nil=>exact fun _ x=>rfl
  | cons g gs b=>
   intro hg x;have a:=hg g List.mem_cons_self x;unfold Zbj;split
   ·exact(b (fun g' c=>hg g' (List.mem_cons_of_mem _ c)) (g x).1).trans a
   ·exact a
 refine h _ (fun g hg x=>?_) (s,d)
 rcases List.mem_append.1 hg with hg | hg
 ·obtain⟨q,-,rfl⟩:=List.mem_map.1 hg
  rfl
 ·rw[List.mem_singleton.1 hg]
  unfold Zar;split <;> rfl
set_option maxHeartbeats 8000000 in
theorem ZsC {K:Nat->Prop} {pd p:Nat} {s:Sto} {d:Dk} {N T:Nat} (w:World) (h:SD K w pd p s d N T) (hK:∀ k,K k->k<w.heap.size) (be:OkS s) (aE:s.bases.length≠0) (bj:s.bases.length<=1000000) (a0:s.log.pcs.length<=100000) (a7:s.log.recs.length<=1000000) (hf:s.log.first<=s.base.idx∧s.base.idx<=s.next) (aW:∀ q ∈ s.log.pcs.dropLast,q.name≠s.cur) (bb:∀ q ∈ s.log.pcs,I64 q.name) (hN:N<=700000) (hT:T<=900000000):
 Calls prog 29 #[ptr p] w fun e w'=>Zff K w pd p (ZdA (s,d)) (N+2*(s.log.pcs.length+1)) T e w':=by
 obtain⟨y,ak⟩:∃ y,y=w.alloc (.cells #[ptr p] 28):=⟨_,rfl⟩;have aO:Hid (Below w.heap.size w y):=ZZ (by rw[ak];exact ZcW _ _)
 have av:Hid (Bk 28 y w.heap.size #[ptr p]):=ZZ (by rw[ak];exact heap_alloc_new w _)
 have bd:Hid (y.heap.size=w.heap.size+1):=ZZ (by rw[ak];simp)
 have HS:=ZZ h;have HK:=ZZ hK;obtain⟨F,M,I,L,m,a,-⟩:=h;have aN:Hid (Calls prog 37 #[ptr p] y fun e w'=>e=.returned (snV (Zfy L.bs))∧Below y.heap.size y w'):=ZZ (Ztt y (a.below aO.o) aE (by omega))
 obtain⟨G,au⟩:∃ G,G=s.base.idx:=⟨_,rfl⟩
 obtain⟨kd,la,ln,lc,sh,eg,ta,tn,tc,aS⟩:∃ kd la ln lc sh eg ta tn tc,snV (Zfy L.bs)=.agg #[.int .i64 G,.int .i64 kd,.slice la ln lc,.bool sh,.int .i64 eg,.slice ta tn tc]:=by
  have hl:L.bs.length≠0:=by rw[<-length_map (f:=Prod.fst),a.bsEq];exact aE
  obtain⟨la,ln,lc,ta,tn,tc,e1,e2⟩:=(a.base _ (Zlm hl)).shape;refine⟨(Zfy L.bs).1.st.kind,la,ln,lc,(Zfy L.bs).1.st.shut,(Zfy L.bs).1.st.eng,ta,tn,tc,?_⟩;unfold snV snC;rw[e1,e2,au,<-Znh a.bsEq]
 rw[aS] at aN;obtain⟨pa,pc,ax⟩:=ZbW a.pcs
 have am:Hid (∀ W,Below y.heap.size y W->W.cell? ⟨w.heap.size,0,none⟩=some (ptr p)∧W.cell? ⟨p,3,none⟩=some (.slice pa s.log.pcs.length pc)∧W.cell? ⟨p,12,none⟩=some (.int .i64 s.cur)∧
  ∀ j,j<s.log.pcs.length->∃ g,pa=some ⟨g,0,none⟩∧W.cell? ⟨g,j*3,none⟩=some (.int .i64 (s.log.pcs.getD j Zce).name)∧W.cell? ⟨g,j*3+1,none⟩=some (.int .i64 (s.log.pcs.getD j Zce).first)∧W.cell? ⟨g,j*3+2,none⟩=some (.int .i64 (s.log.pcs.getD j Zce).stop)):=ZZ (fun W hW=>by
  have hr:=((av.o.keep (hW.block _ av.o.lt)).cell 0 rfl).1;have v:=(a.below aO.o).below hW;obtain⟨-,-,-,c3,-,-,-,ap,-⟩:=v.cs;refine⟨hr,by rw[<-ax];exact c3,ap,fun j hj=>?_⟩
  obtain⟨g,cap,hv,d0,X,d2⟩:=ZBi v.pcs j hj;have ao:L.pv=.slice (some ⟨g,0,none⟩) s.log.pcs.length cap:=hv;rw[ax] at ao
  injection ao with ao
  exact⟨g,ao,d0,X,d2⟩)
 obtain⟨P,hP⟩:∃ P,P=s.log.pcs:=⟨_,rfl⟩;obtain⟨cu,aP⟩:∃ cu,cu=s.cur:=⟨_,rfl⟩;obtain⟨D,aJ⟩:∃ D,D=ZnR s:=⟨_,rfl⟩;have bl:Hid (∀ q,D q=(decide (q.stop<=G) && decide (q.name≠cu))):=ZZ (fun q=>by rw[aJ,au,aP];rfl)
 rw[<-hP,<-aP] at am;have ae:Hid (P.length<=100000):=ZZ (by rw[hP];exact a0)
 have an:Hid (P.filter (fun q=>!gp q)=ZgW s∧P.filter D=s.log.pcs.filter (ZnR s)):=ZZ (by rw[hP,aJ];exact⟨rfl,rfl⟩)
 have aX:Hid (OkS s∧s.log.recs.length<=1000000∧(s.log.first<=s.base.idx∧s.base.idx<=s.next)∧(∀ q ∈ s.log.pcs.dropLast,q.name≠s.cur)∧(∀ q ∈ s.log.pcs,I64 q.name)):=ZZ ⟨be,a7,hf,aW,bb⟩;have bg:=ZZ au;have bq:=ZZ hP;have bD:(P.length:Int)<=100000:=by have:=ae.o;omega
 rw[<-hP] at ax;have bE:∀ W:World,(Instr.field 41 (.agg #[.int .i64 G,.int .i64 kd,.slice la ln lc,.bool sh,.int .i64 eg,.slice ta tn tc]) 0).run prog W=.ok (.int .i64 G) W:=fun _=>by kernel_rfl
 clear m a ax hP aP aJ au aS be a7 hf aW bb a0 aE bj hK
 go_enter func29,ntmps29
 go_upto_region 1 with fail
 rw[<-ak];obtain⟨r0,-⟩:=am.o y (Below.refl _ _);clear ak
 go_wp2_with fail
 refine aN.o.mono ?_;rintro e W1 ⟨rfl,aD⟩;have ah:=ZZ aD;obtain⟨r1,c3,-,-⟩:=am.o W1 aD;clear aD aN r0;go_wp2
 go_loopw[4,5,18] (fun vs vl vi b=>∃ (i:Nat) (l:List Nat) (O:Option Addr) (H J:Nat) (C:Option Addr) (B E:Nat),vi=.int .i64 (i:Int)∧i<=P.length∧vs=.slice O H J∧vl=.slice C B E∧Hid (Zhk W1 w.heap.size ((P.take i).filter D) ((P.take i).filter fun q=>!gp q) l (.slice O H J) (.slice C B E) b)) (fun _ _ vi _=>P.length-(intOf vi).toNat)
 case atStart=>exact⟨0,[],none,0,0,none,0,0,rfl,Nat.zero_le _,rfl,rfl,ZZ (Zhk.start W1 w.heap.size)⟩
 case round=>
  clear r1 c3;obtain⟨i,l,O,H,J,C,B,E,rfl,hi,rfl,rfl,t⟩:=hrel;have aQ:Hid (Below y.heap.size y b):=ZZ (ah.o.trans (t.o.old.mono ah.o.size));obtain⟨r1,c3,ap,aC⟩:=am.o b aQ.o;by_cases al:i<P.length
  case neg=>
   obtain rfl:i=P.length:=by omega
   rw[List.take_length] at t;obtain⟨gone,ai⟩:∃ gone,gone=P.filter D:=⟨_,rfl⟩;obtain⟨left,ad⟩:∃ left,left=P.filter fun q=>!gp q:=⟨_,rfl⟩
   rw[<-ai,<-ad] at t;rw[<-ai,<-ad] at an;have aT:=ZZ t.o.row
   have aG:Hid ((l.map (Zmk w.heap.size)).length<=10000000):=ZZ (by
    rw[length_map,t.o.len,ai]
    exact Nat.le_trans (length_filter_le _ _) (by have:=ae.o;omega))
   have aF:Hid (gone.length<=P.length∧left.length<=P.length):=ZZ (by rw[ai,ad];exact⟨length_filter_le _ _,length_filter_le _ _⟩)
   have a4:Hid (∀ v' W',W'.ownsRow 0 153 1 v' (l.map (Zmk w.heap.size)++[(⟨64,#[ptr p],#[]⟩:Stp)]).length (ZbB (l.map (Zmk w.heap.size)++[(⟨64,#[ptr p],#[]⟩:Stp)]))->(b.alloc (.cells #[(⟨64,#[ptr p],#[]⟩:Stp).val] 153)).grownBy W' (Value.slice O H J).ownBlock->(v'.ownBlock=(Value.slice O H J).ownBlock∨v'.ownBlock=some (b.heap.size+1))->
    ∃ g cap,v'=.slice (some ⟨g,0,none⟩) (l.length+1) cap∧Below w.heap.size w W'∧W'.ownsRow 0 108 3 (.slice C B E) left.length (Zau left)∧Bk 28 W' w.heap.size #[ptr p]∧
    Calls prog 62 #[.slice (some ⟨g,0,none⟩) (l.length+1) cap] W' fun e w'=>ZvD (fun k=>K k∨(w.heap.size<=k∧k<W'.heap.size)) (fun k=>K k∨(w.heap.size<=k∧k<W'.heap.size)) pd p (Zbj (ZnS s++[Zar]) (s,d)) (N+2*(l.length+1)) T (fun _ _=>True) W' e w'):=ZZ (fun v' W' m a v=>by
    obtain⟨q1,q2,q3,q4⟩:=t.o.last m a v;have a6:(l.map (Zmk w.heap.size)++[(⟨64,#[ptr p],#[]⟩:Stp)]).length=l.length+1:=by rw[List.length_append,length_map];rfl
    obtain⟨g,cap,cs,e1,e2,e3,e4⟩:=ZCx m (by rw[a6];omega) (⟨0,#[],#[]⟩:Stp)
    rw[a6] at e1 e4;have bC:=bd.o;have a5:=ah.o.size;have ag:Below w.heap.size w W':=aO.o.trans ((ah.o.trans (q1.mono a5)).mono (by omega))
    have aa:Bk 28 W' w.heap.size #[ptr p]:=av.o.keep ((ah.o.trans (q1.mono a5)).block _ av.o.lt);refine⟨g,cap,e1,ag,q2,aa,?_⟩;rw[ZoM,<-an.o.2]
    exact Zyc (gone:=gone) W' (HS.o.fresh ag) (fun k hk=>by
     rcases hk with hk | hk
     ·have:=HK.o k hk;have:=ag.size;omega
     ·exact hk.2) (.inr ⟨by have:=q4 g e3;omega,e2.lt⟩) (.inr ⟨Nat.le_refl _,aa.lt⟩) (fun j hj=>⟨.inr ⟨by have:=(q3 j hj).1;omega,(q3 j hj).2.lt⟩,(q3 j hj).2⟩) t.o.len aa cs e2 e4 (fun q hq=>aX.o.2.2.2.2 q (by
     rw[an.o.2] at hq
     exact(List.mem_filter.1 hq).1)) (by have:=aF.o.1;have:=ae.o;omega) hN hT)
   clear ai ad aC c3 ap
   go_wp2_with(at_builtin;refine(fun(h:True->_)=>h trivial) ?_)
   intro _;refine ZfI b rfl _ _ rfl (.slice O H J) (l.map (Zmk w.heap.size)) rfl aT.o ⟨64,#[ptr p],#[]⟩ rfl aG.o ?_;intro v9 W9 m a v;obtain⟨g9,bu,rfl,ag,aM,aa,aL⟩:=a4.o v9 W9 m a v;obtain⟨S,ar⟩:∃ S,S=Zbj (ZnS s++[Zar]) (s,d):=⟨_,rfl⟩;rw[<-ar] at aL;have bo:=ZZ ag;have bk:=ZZ aM;have aK:=ZZ aa;have a8:=ZZ aL;have aB:Hid (ZdA (s,d)=if S.2=0 then(({ S.1.1 with log:=s.log.letGo (ZgW s) s.base.idx },S.1.2),0) else S):=ZZ (by rw[ar];rfl)
   have aY:Hid (S.1.1.log=s.log):=ZZ (by rw[ar,ZoM];exact Zif s d _)
   have aZ:Hid (l.length<=s.log.pcs.length):=ZZ (by rw[t.o.len,<-bq.o];exact aF.o.1)
   have ay:Hid (∀ k,(Value.slice C B E).ownBlock=some k->w.heap.size<=k∧k<W9.heap.size):=ZZ (fun k hk=>⟨by have:=t.o.lfar k hk;have:=ah.o.size;have:=bd.o;omega,(World.ownsRow.lt aM k hk).2⟩)
   clear m a v ag aM aa aL ar a4 aT t
   go_wp2_with fail
   refine a8.o.mono ?_;rintro e aj ⟨rfl,Kd,m1,m2,m3,m4,-⟩;have aR:=aK.o.keep (m3.block _ aK.o.lt (fun hh=>hh (.inr ⟨Nat.le_refl _,aK.o.lt⟩)))
   obtain⟨bA,-⟩:=aR.cell 0 rfl;have aw:=ZZ (And.intro m1 m2);have ba:Hid (Zap (fun k=>¬ K k) w aj):=ZZ ((Zap.ofBelow bo.o).trans (m3.mono (fun k hk hn=>hk (.inl hn))) (fun _ _ h=>h))
   have a3:=ZZ m4;have br:Hid (aj.ownsRow 0 108 3 (.slice C B E) left.length (Zau left)):=ZZ (Zae bk.o fun g hg=>m3.block g (ay.o g hg).2 (fun hh=>hh (.inr (ay.o g hg))))
   clear m1 m2 m3 m4 aR a8;obtain⟨⟨s1,X⟩,c⟩:=S;by_cases hc:c=0
   case neg=>
    have aI:Hid (Zff K w pd p (ZdA (s,d)) (N+2*(s.log.pcs.length+1)) T (.returned (.int .i64 c)) aj):=ZZ (by
     rw[aB.o,if_neg hc]
     exact⟨rfl,(a3.o.less (fun k hk=>aw.o.1 k (.inl hk))).mono (by have:=aZ.o;omega) zL,ba.o⟩)
    have bz:(c != 0)=true:=by rw[bne_iff_ne];exact hc
    clear hc aB;go_wp2;go_ret;exact aI.o
   subst hc;rw[if_pos rfl] at aB
   have aU:Hid (Calls prog 70 #[.pointer (some ⟨p,1,none⟩),.slice C B E,.int .i64 G] aj fun e w'=>e=.returned (.tuple #[])∧SD K w' pd p { s1 with log:=s1.log.letGo left G } X (N+2*(l.length+1)) T∧Zap (fun k=>¬ K k) aj w'):=ZZ (by
    have V:s1.log=s.log:=aY.o;obtain⟨g1,g2,g3,g4,g5⟩:=aX.o;obtain⟨q1,q2,q3,q4⟩:=g1.log.letGo (cur:=s.cur) (base:=s.base.idx) g4 g3.1 g3.2;have ad:s.log.pcs.filter (fun p=>!(decide (p.stop<=s.base.idx) && decide (p.name≠s.cur)))=left:=an.o.1.symm
    rw[ad] at q2 q3 q4;have bp:s.log.first<=ZbK left s.base.idx:=q4;have bv:s.log.next=s.log.first+s.log.recs.length:=rfl;have bw:ZbK left s.base.idx+((s.log.recs.drop (ZbK left s.base.idx-s.log.first).toNat).length:Nat)=s.log.next:=q3;have h0:=g1.log.f0;have ht:=g1.log.top;rw[bg.o]
    exact a3.o.letGo (fun k hk=>aw.o.1 k (.inl hk)) aw.o.2 _ left s.base.idx br.o (fun k hk=>⟨aw.o.1 k (.inr (ay.o k hk)),fun hh=>by have:=HK.o k hh;have:=(ay.o k hk).1;omega⟩) (by have:=aF.o.2;have:=ae.o;omega) (by rw[V];exact g2) (by rw[V];exact g1.log.recOk) (by rw[V];exact bp) (by rw[V];omega) (by rw[V];exact h0) (by rw[V];omega))
   go_wp2_with fail
   refine aU.o.mono ?_;rintro e bn ⟨rfl,aH,aV⟩
   have aI:Hid (Zff K w pd p (ZdA (s,d)) (N+2*(s.log.pcs.length+1)) T (.returned (.int .i64 0)) bn):=ZZ (by
    rw[aB.o];have V:s1.log=s.log:=aY.o;rw[V,an.o.1,bg.o] at aH
    exact⟨rfl,aH.mono (by have:=aZ.o;omega) zL,ba.o.trans aV (fun _ _ h=>h)⟩)
   clear aH aV aU;go_wp2;go_ret;exact aI.o
  obtain⟨g,bh,d0,X,d2⟩:=aC i al;subst bh;have Z:=ZZ (Zjv D P i al);have Y:=ZZ (Zjv (fun q=>!gp q) P i al)
  obtain⟨q,hq⟩:∃ q,q=P.getD i Zce:=⟨_,rfl⟩;rw[<-hq] at d0 X d2 Z Y;obtain⟨u,z,x⟩:=q
  dsimp only at d0 X d2
  have HG:=ZZ (bl.o ⟨u,z,x⟩);have ab:=ZZ al;have bB:Hid (i<P.length):=ZZ al;clear aC hq
  go_upto_region 7 with fail
  obtain⟨Q,aA⟩:∃ Q,Q=b.alloc (.cells #[.int .i64 u,.int .i64 z,.int .i64 x] 108):=⟨_,rfl⟩;rw[<-aA];have bf:Hid (Below b.heap.size b Q):=ZZ (by rw[aA];exact ZcW _ _)
  have aq:Hid (Bk 108 Q b.heap.size (pcC ⟨u,z,x⟩)):=ZZ (by rw[aA];exact heap_alloc_new b _)
  have p0:Q.cell? ⟨b.heap.size,0,none⟩=some (.int .i64 u):=(aq.o.cell 0 rfl).1;have p1:Q.cell? ⟨b.heap.size,1,none⟩=some (.int .i64 z):=(aq.o.cell 1 rfl).1;have p2:Q.cell? ⟨b.heap.size,2,none⟩=some (.int .i64 x):=(aq.o.cell 2 rfl).1;obtain⟨r2,-,bt,-⟩:=am.o Q (aQ.o.trans (bf.o.mono aQ.o.size));clear aA r1 c3 ap d0 X d2;have ac:Hid (∀ n,Below b.heap.size b (Q.drewN n)):=ZZ (fun n=>ZaI bf.o n)
  have bc:Hid (((P.take i).filter fun q=>!gp q).length<=10000000):=ZZ (Nat.le_trans (length_filter_le _ _) (by rw[List.length_take];have:=ae.o;omega))
  have aG:Hid ((l.map (Zmk w.heap.size)).length<=10000000):=ZZ (by
   rw[length_map,t.o.len]
   exact Nat.le_trans (length_filter_le _ _) (by rw[List.length_take];have:=ae.o;omega))
  by_cases az:x<=G
  ·by_cases af:u=cu
   ·have A:D ⟨u,z,x⟩=false:=by rw[HG.o];simp[af]
    have bm:(u != cu)=false:=by rw[bne_eq_false_iff_eq];exact af
    rw[A,if_neg (by decide),append_nil] at Z
    rw[A,if_pos (by decide)] at Y
    clear af A
    go_quiet(fail)
    go_wp2_with(at_builtin;refine(fun(h:True->_)=>h trivial) ?_)
    intro _;refine ZcA _ rfl _ _ rfl (.slice C B E) ((P.take i).filter fun q=>!gp q) rfl (t.o.below (ac.o _)).lrow (⟨u,z,x⟩:Pce) rfl bc.o ?_
    intro v9 W9 m a v;have U:=ZZ (t.o.leave ⟨u,z,x⟩ (ac.o _) m a v);rw[<-Y.o] at U;obtain⟨a9,c9,R⟩:=ZbW m;generalize (((P.take i).filter fun q=>!gp q)++[(⟨u,z,x⟩:Pce)]).length=n9 at R
    subst R;clear m a v;go_wp2;go_roundw
    case rel=>exact⟨i+1,l,O,H,J,a9,n9,c9,by go_num,by have:=ab.o;omega,rfl,rfl,by rw[Z.o];exact U⟩
    case measure=>have:=ab.o;simp[intOf];omega
   ·have A:D ⟨u,z,x⟩=true:=by rw[HG.o];simp[af,az]
    have bm:(u != cu)=true:=by rw[bne_iff_ne];exact af
    rw[A,if_pos rfl] at Z;rw[A,if_neg (by decide),append_nil] at Y
    clear af A
    go_quiet(fail)
    go_wp2_with(at_builtin;refine(fun(h:True->_)=>h trivial) ?_)
    intro _;refine ZfI _ rfl _ _ rfl (.slice O H J) (l.map (Zmk w.heap.size)) rfl (t.o.below (ac.o _)).row (Zmk w.heap.size b.heap.size) rfl aG.o ?_;intro v9 W9 m a v;have U:=ZZ (t.o.step ⟨u,z,x⟩ (ac.o _) (aq.o.keep (by rw[World.heap_drewN])) m a v)
    rw[<-Z.o] at U;obtain⟨a9,c9,R⟩:=ZbW m;generalize (l.map (Zmk w.heap.size)++[Zmk w.heap.size b.heap.size]).length=n9 at R;subst R;clear m a v;go_wp2;go_roundw
    case rel=>exact⟨i+1,l++[b.heap.size],a9,n9,c9,C,B,E,by go_num,by have:=ab.o;omega,rfl,rfl,by rw[Y.o];exact U⟩
    case measure=>have:=ab.o;simp[intOf];omega
  ·have A:D ⟨u,z,x⟩=false:=by rw[HG.o];simp[az]
   have bF:decide (x<=G)=false:=decide_eq_false az;rw[A,if_neg (by decide),append_nil] at Z
   rw[A,if_pos (by decide)] at Y
   clear az A
   go_quiet(fail)
   go_wp2_with(at_builtin;refine(fun(h:True->_)=>h trivial) ?_)
   intro _;refine ZcA _ rfl _ _ rfl (.slice C B E) ((P.take i).filter fun q=>!gp q) rfl (t.o.below (ac.o _)).lrow (⟨u,z,x⟩:Pce) rfl bc.o ?_
   intro v9 W9 m a v;have U:=ZZ (t.o.leave ⟨u,z,x⟩ (ac.o _) m a v);rw[<-Y.o] at U;obtain⟨a9,c9,R⟩:=ZbW m;generalize (((P.take i).filter fun q=>!gp q)++[(⟨u,z,x⟩:Pce)]).length=n9 at R
   subst R;clear m a v;go_wp2;go_roundw
   case rel=>exact⟨i+1,l,O,H,J,a9,n9,c9,by go_num,by have:=ab.o;omega,rfl,rfl,by rw[Z.o];exact U⟩
   case measure=>have:=ab.o;simp[intOf];omega
end Go.Proofs.YtnahjngbneicaaaGreatDoor
