import Derived.Test.YtnahjngbneicaaaGreatDoorStoreRetB
namespace Go.Proofs.YtnahjngbneicaaaGreatDoor
open _root_.Go.Proofs.Tryz
open List (append_nil length_filter_le length_map)
set_option maxRecDepth 100000
open Go.RowKit
theorem Zlw (s:Sto):ZkC s++[Qt]=((s.log.pcs.filter (ZkB s)).map fun q=>X0 (fun d=>Qp d q.name))++[Qt]:=rfl
theorem ZeP (s:Sto) (d:Dk) (gone:List Pce):(Q3 ((gone.map fun q:Pce=>X0 (fun d=>Qp d q.name))++[Qt]) (s,d)).1.1.log=s.log:=by
 have h:∀ (gs:List (SDk->SDk × Int)),(∀ g ∈ gs,∀ x,(g x).1.1.log=x.1.log)->∀ x,(Q3 gs x).1.1.log=x.1.log:=by
  intro gs
  induction gs with
  | nil=>exact fun _ x=>rfl
  | cons g gs b=>
   intro hg x;have a:=hg g List.mem_cons_self x;unfold Q3;split
   ·exact(b (fun g' c=>hg g' (List.mem_cons_of_mem _ c)) (g x).1).trans a
   ·exact a
 refine h _ (fun g hg x=>?_) (s,d)
 rcases List.mem_append.1 hg with hg | hg
 ·obtain⟨q,-,rfl⟩:=List.mem_map.1 hg
  rfl
 ·rw[List.mem_singleton.1 hg]
  unfold Qt;split <;> rfl
set_option maxHeartbeats 8000000 in
theorem Zpm {K:Nat->Prop} {pd p:Nat} {s:Sto} {d:Dk} {N T:Nat} (w:World) (h:SD K w pd p s d N T) (hK:∀ k,K k->k<w.heap.size) (aS:OkS s) (aO:s.bases.length≠0) (bo:s.bases.length<=1000000) (aZ:s.log.pcs.length<=100000) (be:s.log.recs.length<=1000000) (hf:s.log.first<=s.base.idx∧s.base.idx<=s.next) (aX:∀ q ∈ s.log.pcs.dropLast,q.name≠s.cur) (aY:∀ q ∈ s.log.pcs,I64 q.name) (hN:N<=700000) (hT:T<=900000000):
 Calls prog 29 #[ptr p] w fun e w'=>Z6 K w pd p (Zaz (s,d)) (N+2*(s.log.pcs.length+1)) T e w':=by
 obtain⟨x,al⟩:∃ x,x=w.alloc (.cells #[ptr p] 28):=⟨_,rfl⟩;have aK:Hid (Below w.heap.size w x):=ZZ (by rw[al];exact Jc _ _)
 have au:Hid (Bk 28 x w.heap.size #[ptr p]):=ZZ (by rw[al];exact heap_alloc_new w _)
 have bj:Hid (x.heap.size=w.heap.size+1):=ZZ (by rw[al];simp)
 have HS:=ZZ h;have HK:=ZZ hK;obtain⟨F,M,I,L,b,a,-⟩:=h;have aN:Hid (Calls prog 37 #[ptr p] x fun e w'=>e=.returned (snV (Zcj L.bs))∧Below x.heap.size x w'):=ZZ (Zqd x (a.below aK.o) aO (by omega))
 obtain⟨B,ap⟩:∃ B,B=s.base.idx:=⟨_,rfl⟩
 obtain⟨kd,la,ln,lc,sh,eg,ta,tn,tc,a5⟩:∃ kd la ln lc sh eg ta tn tc,snV (Zcj L.bs)=.agg #[.int .i64 B,.int .i64 kd,.slice la ln lc,.bool sh,.int .i64 eg,.slice ta tn tc]:=by
  have hl:L.bs.length≠0:=by rw[<-length_map (f:=Prod.fst),a.bsEq];exact aO
  obtain⟨la,ln,lc,ta,tn,tc,e1,e2⟩:=(a.base _ (ZhW hl)).shape;refine⟨(Zcj L.bs).1.st.kind,la,ln,lc,(Zcj L.bs).1.st.shut,(Zcj L.bs).1.st.eng,ta,tn,tc,?_⟩;unfold snV snC;rw[e1,e2,ap,<-ZjR a.bsEq]
 rw[a5] at aN;obtain⟨pa,pc,aC⟩:=Zg a.pcs
 have an:Hid (∀ W,Below x.heap.size x W->W.cell? ⟨w.heap.size,0,none⟩=some (ptr p)∧W.cell? ⟨p,3,none⟩=some (.slice pa s.log.pcs.length pc)∧W.cell? ⟨p,12,none⟩=some (.int .i64 s.cur)∧
  ∀ j,j<s.log.pcs.length->∃ g,pa=some ⟨g,0,none⟩∧W.cell? ⟨g,j*3,none⟩=some (.int .i64 (s.log.pcs.getD j Yv).name)∧W.cell? ⟨g,j*3+1,none⟩=some (.int .i64 (s.log.pcs.getD j Yv).first)∧W.cell? ⟨g,j*3+2,none⟩=some (.int .i64 (s.log.pcs.getD j Yv).stop)):=ZZ (fun W hW=>by
  have hr:=((au.o.keep (hW.block _ au.o.lt)).cell 0 rfl).1;have v:=(a.below aK.o).below hW;obtain⟨-,-,-,c3,-,-,-,ax,-⟩:=v.cs;refine⟨hr,by rw[<-aC];exact c3,ax,fun j hj=>?_⟩
  obtain⟨g,cap,hv,d0,V,d2⟩:=ZxS v.pcs j hj;have ay:L.pv=.slice (some ⟨g,0,none⟩) s.log.pcs.length cap:=hv;rw[aC] at ay
  injection ay with ay
  exact⟨g,ay,d0,V,d2⟩)
 obtain⟨P,Z⟩:∃ P,P=s.log.pcs:=⟨_,rfl⟩;obtain⟨cu,aD⟩:∃ cu,cu=s.cur:=⟨_,rfl⟩;obtain⟨C,aM⟩:∃ C,C=ZkB s:=⟨_,rfl⟩;have bl:Hid (∀ q,C q=(decide (q.stop<=B) && decide (q.name≠cu))):=ZZ (fun q=>by rw[aM,ap,aD];rfl)
 rw[<-Z,<-aD] at an;have ae:Hid (P.length<=100000):=ZZ (by rw[Z];exact aZ)
 have ak:Hid (P.filter (fun q=>!C q)=ZdG s∧P.filter C=s.log.pcs.filter (ZkB s)):=ZZ (by rw[Z,aM];exact⟨rfl,rfl⟩)
 have a0:Hid (OkS s∧s.log.recs.length<=1000000∧(s.log.first<=s.base.idx∧s.base.idx<=s.next)∧(∀ q ∈ s.log.pcs.dropLast,q.name≠s.cur)∧(∀ q ∈ s.log.pcs,I64 q.name)):=ZZ ⟨aS,be,hf,aX,aY⟩;have aV:=ZZ ap;have bt:=ZZ Z;have bA:(P.length:Int)<=100000:=by have:=ae.o;omega
 rw[<-Z] at aC;have bE:∀ W:World,(Instr.field 41 (.agg #[.int .i64 B,.int .i64 kd,.slice la ln lc,.bool sh,.int .i64 eg,.slice ta tn tc]) 0).run prog W=.ok (.int .i64 B) W:=fun _=>by kernel_rfl
 clear b a aC Z aD aM ap a5 aS be hf aX aY aZ aO bo hK
 go_enter func29,ntmps29
 go_upto_region 1 with fail
 rw[<-al];obtain⟨r0,-⟩:=an.o x (Below.refl _ _);clear al
 go_wp2_with fail
 refine aN.o.mono ?_;rintro e W1 ⟨rfl,aL⟩;have ad:=ZZ aL;obtain⟨r1,c3,-,-⟩:=an.o W1 aL;clear aL aN r0;go_wp2
 go_loopw[4,5,18] (fun vs vl vi wr=>∃ (i:Nat) (l:List Nat) (G:Option Addr) (J H:Nat) (A:Option Addr) (E D:Nat),vi=.int .i64 (i:Int)∧i<=P.length∧vs=.slice G J H∧vl=.slice A E D∧Hid (ZdU W1 w.heap.size ((P.take i).filter C) ((P.take i).filter fun q=>!C q) l (.slice G J H) (.slice A E D) wr)) (fun _ _ vi _=>P.length-(intOf vi).toNat)
 case atStart=>exact⟨0,[],none,0,0,none,0,0,rfl,Nat.zero_le _,rfl,rfl,ZZ (ZdU.start W1 w.heap.size)⟩
 case round=>
  clear r1 c3;obtain⟨i,l,G,J,H,A,E,D,rfl,hi,rfl,rfl,t⟩:=hrel;have aF:Hid (Below x.heap.size x wr):=ZZ (ad.o.trans (t.o.old.mono ad.o.size));obtain⟨r1,c3,ax,aI⟩:=an.o wr aF.o;by_cases aj:i<P.length
  case neg=>
   obtain rfl:i=P.length:=by omega
   rw[List.take_length] at t;obtain⟨gone,ao⟩:∃ gone,gone=P.filter C:=⟨_,rfl⟩;obtain⟨left,ag⟩:∃ left,left=P.filter fun q=>!C q:=⟨_,rfl⟩
   rw[<-ao,<-ag] at t;rw[<-ao,<-ag] at ak;have ba:=ZZ t.o.row
   have aH:Hid ((l.map (ZiU w.heap.size)).length<=10000000):=ZZ (by
    rw[length_map,t.o.len,ao]
    exact Nat.le_trans (length_filter_le _ _) (by have:=ae.o;omega))
   have aR:Hid (gone.length<=P.length∧left.length<=P.length):=ZZ (by rw[ao,ag];exact⟨length_filter_le _ _,length_filter_le _ _⟩)
   have a7:Hid (∀ v' W',W'.ownsRow 0 153 1 v' (l.map (ZiU w.heap.size)++[(⟨64,#[ptr p],#[]⟩:Stp)]).length (Yo (l.map (ZiU w.heap.size)++[(⟨64,#[ptr p],#[]⟩:Stp)]))->(wr.alloc (.cells #[(⟨64,#[ptr p],#[]⟩:Stp).val] 153)).grownBy W' (Value.slice G J H).ownBlock->(v'.ownBlock=(Value.slice G J H).ownBlock∨v'.ownBlock=some (wr.heap.size+1))->
    ∃ g cap,v'=.slice (some ⟨g,0,none⟩) (l.length+1) cap∧Below w.heap.size w W'∧W'.ownsRow 0 108 3 (.slice A E D) left.length (Qx left)∧Bk 28 W' w.heap.size #[ptr p]∧
    Calls prog 62 #[.slice (some ⟨g,0,none⟩) (l.length+1) cap] W' fun e w'=>Zsn (fun k=>K k∨(w.heap.size<=k∧k<W'.heap.size)) (fun k=>K k∨(w.heap.size<=k∧k<W'.heap.size)) pd p (Q3 (ZkC s++[Qt]) (s,d)) (N+2*(l.length+1)) T (fun _ _=>True) W' e w'):=ZZ (fun v' W' b a v=>by
    obtain⟨q1,q2,q3,q4⟩:=t.o.last b a v;have bg:(l.map (ZiU w.heap.size)++[(⟨64,#[ptr p],#[]⟩:Stp)]).length=l.length+1:=by rw[List.length_append,length_map];rfl
    obtain⟨g,cap,cs,e1,e2,e3,e4⟩:=Zzh b (by rw[bg];omega) (⟨0,#[],#[]⟩:Stp)
    rw[bg] at e1 e4;have bC:=bj.o;have bd:=ad.o.size;have ab:Below w.heap.size w W':=aK.o.trans ((ad.o.trans (q1.mono bd)).mono (by omega))
    have ai:Bk 28 W' w.heap.size #[ptr p]:=au.o.keep ((ad.o.trans (q1.mono bd)).block _ au.o.lt);refine⟨g,cap,e1,ab,q2,ai,?_⟩;rw[Zlw,<-ak.o.2]
    exact ZuM (gone:=gone) W' (HS.o.fresh ab) (fun k hk=>by
     rcases hk with hk | hk
     ·have:=HK.o k hk;have:=ab.size;omega
     ·exact hk.2) (.inr ⟨by have:=q4 g e3;omega,e2.lt⟩) (.inr ⟨Nat.le_refl _,ai.lt⟩) (fun j hj=>⟨.inr ⟨by have:=(q3 j hj).1;omega,(q3 j hj).2.lt⟩,(q3 j hj).2⟩) t.o.len ai cs e2 e4 (fun q hq=>a0.o.2.2.2.2 q (by
     rw[ak.o.2] at hq
     exact(List.mem_filter.1 hq).1)) (by have:=aR.o.1;have:=ae.o;omega) hN hT)
   clear ao ag aI c3 ax
   go_wp2_with(at_builtin;refine(fun(h:True->_)=>h trivial) ?_)
   intro _;refine Zct wr rfl _ _ rfl (.slice G J H) (l.map (ZiU w.heap.size)) rfl ba.o ⟨64,#[ptr p],#[]⟩ rfl aH.o ?_;intro v9 W9 b a v;obtain⟨g9,bz,rfl,ab,aE,ai,aG⟩:=a7.o v9 W9 b a v;obtain⟨Q,aq⟩:∃ Q,Q=Q3 (ZkC s++[Qt]) (s,d):=⟨_,rfl⟩;rw[<-aq] at aG;have br:=ZZ ab;have bu:=ZZ aE;have aJ:=ZZ ai;have bb:=ZZ aG;have az:Hid (Zaz (s,d)=if Q.2=0 then(({ Q.1.1 with log:=s.log.letGo (ZdG s) s.base.idx },Q.1.2),0) else Q):=ZZ (by rw[aq];rfl)
   have bf:Hid (Q.1.1.log=s.log):=ZZ (by rw[aq,Zlw];exact ZeP s d _)
   have aW:Hid (l.length<=s.log.pcs.length):=ZZ (by rw[t.o.len,<-bt.o];exact aR.o.1)
   have av:Hid (∀ k,(Value.slice A E D).ownBlock=some k->w.heap.size<=k∧k<W9.heap.size):=ZZ (fun k hk=>⟨by have:=t.o.lfar k hk;have:=ad.o.size;have:=bj.o;omega,(World.ownsRow.lt aE k hk).2⟩)
   clear b a v ab aE ai aG aq a7 ba t
   go_wp2_with fail
   refine bb.o.mono ?_;rintro e am ⟨rfl,Kd,m1,m2,m3,m4,-⟩;have aT:=aJ.o.keep (m3.block _ aJ.o.lt (fun hh=>hh (.inr ⟨Nat.le_refl _,aJ.o.lt⟩)))
   obtain⟨bH,-⟩:=aT.cell 0 rfl;have aA:=ZZ (And.intro m1 m2);have a4:Hid (Qj (fun k=>¬ K k) w am):=ZZ ((Qj.ofBelow br.o).trans (m3.mono (fun k hk hn=>hk (.inl hn))) (fun _ _ h=>h))
   have bc:=ZZ m4;have bp:Hid (am.ownsRow 0 108 3 (.slice A E D) left.length (Qx left)):=ZZ (Qh bu.o fun g hg=>m3.block g (av.o g hg).2 (fun hh=>hh (.inr (av.o g hg))))
   clear m1 m2 m3 m4 aT bb;obtain⟨⟨s1,V⟩,c⟩:=Q;by_cases hc:c=0
   case neg=>
    have aP:Hid (Z6 K w pd p (Zaz (s,d)) (N+2*(s.log.pcs.length+1)) T (.returned (.int .i64 c)) am):=ZZ (by
     rw[az.o,if_neg hc]
     exact⟨rfl,(bc.o.less (fun k hk=>aA.o.1 k (.inl hk))).mono (by have:=aW.o;omega) zL,a4.o⟩)
    have bv:(c != 0)=true:=by rw[bne_iff_ne];exact hc
    clear hc az;go_wp2;go_ret;exact aP.o
   subst hc;rw[if_pos rfl] at az
   have a8:Hid (Calls prog 70 #[.pointer (some ⟨p,1,none⟩),.slice A E D,.int .i64 B] am fun e w'=>e=.returned (.tuple #[])∧SD K w' pd p { s1 with log:=s1.log.letGo left B } V (N+2*(l.length+1)) T∧Qj (fun k=>¬ K k) am w'):=ZZ (by
    have U:s1.log=s.log:=bf.o;obtain⟨g1,g2,g3,g4,g5⟩:=a0.o;obtain⟨q1,q2,q3,q4⟩:=g1.log.letGo (cur:=s.cur) (base:=s.base.idx) g4 g3.1 g3.2;have ag:s.log.pcs.filter (fun p=>!(decide (p.stop<=s.base.idx) && decide (p.name≠s.cur)))=left:=ak.o.1.symm
    rw[ag] at q2 q3 q4;have bk:s.log.first<=Yt left s.base.idx:=q4;have bG:s.log.next=s.log.first+s.log.recs.length:=rfl;have bF:Yt left s.base.idx+((s.log.recs.drop (Yt left s.base.idx-s.log.first).toNat).length:Nat)=s.log.next:=q3;have h0:=g1.log.f0;have ht:=g1.log.top;rw[aV.o]
    exact bc.o.letGo (fun k hk=>aA.o.1 k (.inl hk)) aA.o.2 _ left s.base.idx bp.o (fun k hk=>⟨aA.o.1 k (.inr (av.o k hk)),fun hh=>by have:=HK.o k hh;have:=(av.o k hk).1;omega⟩) (by have:=aR.o.2;have:=ae.o;omega) (by rw[U];exact g2) (by rw[U];exact g1.log.recOk) (by rw[U];exact bk) (by rw[U];omega) (by rw[U];exact h0) (by rw[U];omega))
   go_wp2_with fail
   refine a8.o.mono ?_;rintro e bm ⟨rfl,aQ,aU⟩
   have aP:Hid (Z6 K w pd p (Zaz (s,d)) (N+2*(s.log.pcs.length+1)) T (.returned (.int .i64 0)) bm):=ZZ (by
    rw[az.o];have U:s1.log=s.log:=bf.o;rw[U,ak.o.1,aV.o] at aQ
    exact⟨rfl,aQ.mono (by have:=aW.o;omega) zL,a4.o.trans aU (fun _ _ h=>h)⟩)
   clear aQ aU a8;go_wp2;go_ret;exact aP.o
  obtain⟨g,bq,d0,V,d2⟩:=aI i aj;subst bq;have Y:=ZZ (Zgf C P i aj);have X:=ZZ (Zgf (fun q=>!C q) P i aj)
  obtain⟨q,hq⟩:∃ q,q=P.getD i Yv:=⟨_,rfl⟩;rw[<-hq] at d0 V d2 Y X;obtain⟨m,y,u⟩:=q
  dsimp only at d0 V d2
  have HG:=ZZ (bl.o ⟨m,y,u⟩);have aa:=ZZ aj;have bD:Hid (i<P.length):=ZZ aj;clear aI hq
  go_upto_region 7 with fail
  obtain⟨O,aB⟩:∃ O,O=wr.alloc (.cells #[.int .i64 m,.int .i64 y,.int .i64 u] 108):=⟨_,rfl⟩;rw[<-aB];have a6:Hid (Below wr.heap.size wr O):=ZZ (by rw[aB];exact Jc _ _)
  have aw:Hid (Bk 108 O wr.heap.size (pcC ⟨m,y,u⟩)):=ZZ (by rw[aB];exact heap_alloc_new wr _)
  have p0:O.cell? ⟨wr.heap.size,0,none⟩=some (.int .i64 m):=(aw.o.cell 0 rfl).1;have p1:O.cell? ⟨wr.heap.size,1,none⟩=some (.int .i64 y):=(aw.o.cell 1 rfl).1;have p2:O.cell? ⟨wr.heap.size,2,none⟩=some (.int .i64 u):=(aw.o.cell 2 rfl).1;obtain⟨r2,-,bw,-⟩:=an.o O (aF.o.trans (a6.o.mono aF.o.size));clear aB r1 c3 ax d0 V d2;have ac:Hid (∀ n,Below wr.heap.size wr (O.drewN n)):=ZZ (fun n=>Xn a6.o n)
  have a3:Hid (((P.take i).filter fun q=>!C q).length<=10000000):=ZZ (Nat.le_trans (length_filter_le _ _) (by rw[List.length_take];have:=ae.o;omega))
  have aH:Hid ((l.map (ZiU w.heap.size)).length<=10000000):=ZZ (by
   rw[length_map,t.o.len]
   exact Nat.le_trans (length_filter_le _ _) (by rw[List.length_take];have:=ae.o;omega))
  by_cases ar:u<=B
  ·by_cases af:m=cu
   ·have z:C ⟨m,y,u⟩=false:=by rw[HG.o];simp[af]
    have bn:(m != cu)=false:=by rw[bne_eq_false_iff_eq];exact af
    rw[z,if_neg (by decide),append_nil] at Y
    rw[z,if_pos (by decide)] at X
    clear af z
    go_quiet(fail)
    go_wp2_with(at_builtin;refine(fun(h:True->_)=>h trivial) ?_)
    intro _;refine Zaa _ rfl _ _ rfl (.slice A E D) ((P.take i).filter fun q=>!C q) rfl (t.o.below (ac.o _)).lrow (⟨m,y,u⟩:Pce) rfl a3.o ?_
    intro v9 W9 b a v;have S:=ZZ (t.o.leave ⟨m,y,u⟩ (ac.o _) b a v);rw[<-X.o] at S;obtain⟨a9,c9,R⟩:=Zg b;generalize (((P.take i).filter fun q=>!C q)++[(⟨m,y,u⟩:Pce)]).length=n9 at R
    subst R;clear b a v;go_wp2;go_roundw
    case rel=>exact⟨i+1,l,G,J,H,a9,n9,c9,by go_num,by have:=aa.o;omega,rfl,rfl,by rw[Y.o];exact S⟩
    case measure=>have:=aa.o;simp[intOf];omega
   ·have z:C ⟨m,y,u⟩=true:=by rw[HG.o];simp[af,ar]
    have bn:(m != cu)=true:=by rw[bne_iff_ne];exact af
    rw[z,if_pos rfl] at Y;rw[z,if_neg (by decide),append_nil] at X
    clear af z
    go_quiet(fail)
    go_wp2_with(at_builtin;refine(fun(h:True->_)=>h trivial) ?_)
    intro _;refine Zct _ rfl _ _ rfl (.slice G J H) (l.map (ZiU w.heap.size)) rfl (t.o.below (ac.o _)).row (ZiU w.heap.size wr.heap.size) rfl aH.o ?_;intro v9 W9 b a v;have S:=ZZ (t.o.step ⟨m,y,u⟩ (ac.o _) (aw.o.keep (by rw[World.heap_drewN])) b a v)
    rw[<-Y.o] at S;obtain⟨a9,c9,R⟩:=Zg b;generalize (l.map (ZiU w.heap.size)++[ZiU w.heap.size wr.heap.size]).length=n9 at R;subst R;clear b a v;go_wp2;go_roundw
    case rel=>exact⟨i+1,l++[wr.heap.size],a9,n9,c9,A,E,D,by go_num,by have:=aa.o;omega,rfl,rfl,by rw[X.o];exact S⟩
    case measure=>have:=aa.o;simp[intOf];omega
  ·have z:C ⟨m,y,u⟩=false:=by rw[HG.o];simp[ar]
   have bB:decide (u<=B)=false:=decide_eq_false ar;rw[z,if_neg (by decide),append_nil] at Y
   rw[z,if_pos (by decide)] at X
   clear ar z
   go_quiet(fail)
   go_wp2_with(at_builtin;refine(fun(h:True->_)=>h trivial) ?_)
   intro _;refine Zaa _ rfl _ _ rfl (.slice A E D) ((P.take i).filter fun q=>!C q) rfl (t.o.below (ac.o _)).lrow (⟨m,y,u⟩:Pce) rfl a3.o ?_
   intro v9 W9 b a v;have S:=ZZ (t.o.leave ⟨m,y,u⟩ (ac.o _) b a v);rw[<-X.o] at S;obtain⟨a9,c9,R⟩:=Zg b;generalize (((P.take i).filter fun q=>!C q)++[(⟨m,y,u⟩:Pce)]).length=n9 at R
   subst R;clear b a v;go_wp2;go_roundw
   case rel=>exact⟨i+1,l,G,J,H,a9,n9,c9,by go_num,by have:=aa.o;omega,rfl,rfl,by rw[Y.o];exact S⟩
   case measure=>have:=aa.o;simp[intOf];omega
end Go.Proofs.YtnahjngbneicaaaGreatDoor
