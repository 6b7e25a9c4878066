import Derived.Test.YtnahjngbneicaaaGreatDoorStoreRetB
namespace Go.Proofs.YtnahjngbneicaaaGreatDoor
open _root_.Go.Proofs.Tryz
open List (append_nil length_filter_le length_map)
set_option maxRecDepth 100000
open Go.RowKit
theorem Zlw (s:Sto):ZkC s++[Qt]=((s.log.pcs.filter (ZkB s)).map fun q=>X0 (fun d=>Qp d q.name))++[Qt]:=rfl
theorem ZeP (s:Sto) (d:Dk) (gone:List Pce):(Q3 ((gone.map fun q:Pce=>X0 (fun d=>Qp d q.name))++[Qt]) (s,d)).1.1.log=s.log:=by
 have h:∀ (gs:List (SDk->SDk × Int)),(∀ g ∈ gs,∀ x,(g x).1.1.log=x.1.log)->∀ x,(Q3 gs x).1.1.log=x.1.log:=by
  intro gs
  induction gs with
  | nil=>exact fun _ x=>rfl
  | cons g gs b=>
   intro hg x;have a:=hg g List.mem_cons_self x;unfold Q3;split
   ·exact(b (fun g' c=>hg g' (List.mem_cons_of_mem _ c)) (g x).1).trans a
   ·exact a
 refine h _ (fun g hg x=>?_) (s,d)
 rcases List.mem_append.1 hg with hg | hg
 ·obtain⟨q,-,rfl⟩:=List.mem_map.1 hg
  rfl
 ·rw[List.mem_singleton.1 hg]
  unfold Qt;split <;> rfl
set_option maxHeartbeats 8000000 in
theorem Zpm {K:Nat->Prop} {pd p:Nat} {s:Sto} {d:Dk} {N T:Nat} (w:World) (h:SD K w pd p s d N T) (hK:∀ k,K k->k<w.heap.size) (a7:OkS s) (aP:s.bases.length≠0) (bq:s.bases.length<=1000000) (aX:s.log.pcs.length<=100000) (a8:s.log.recs.length<=1000000) (hf:s.log.first<=s.base.idx∧s.base.idx<=s.next) (bf:∀ q ∈ s.log.pcs.dropLast,q.name≠s.cur) (aY:∀ q ∈ s.log.pcs,I64 q.name) (hN:N<=700000) (hT:T<=900000000):
 Calls prog 29 #[ptr p] w fun e w'=>Z6 K w pd p (Zaz (s,d)) (N+2*(s.log.pcs.length+1)) T e w':=by
 obtain⟨x,an⟩:∃ x,x=w.alloc (.cells #[ptr p] 28):=⟨_,rfl⟩;have aF:Hid (Below w.heap.size w x):=ZZ (by rw[an];exact Jc _ _)
 have au:Hid (Bk 28 x w.heap.size #[ptr p]):=ZZ (by rw[an];exact heap_alloc_new w _)
 have a5:Hid (x.heap.size=w.heap.size+1):=ZZ (by rw[an];simp)
 have HS:=ZZ h;have HK:=ZZ hK;obtain⟨F,M,I,L,b,a,-⟩:=h;have aI:Hid (Calls prog 37 #[ptr p] x fun e w'=>e=.returned (snV (Zcj L.bs))∧Below x.heap.size x w'):=ZZ (Zqd x (a.below aF.o) aP (by omega))
 obtain⟨E,ar⟩:∃ E,E=s.base.idx:=⟨_,rfl⟩
 obtain⟨kd,la,ln,lc,sh,eg,ta,tn,tc,a0⟩:∃ kd la ln lc sh eg ta tn tc,snV (Zcj L.bs)=.agg #[.int .i64 E,.int .i64 kd,.slice la ln lc,.bool sh,.int .i64 eg,.slice ta tn tc]:=by
  have hl:L.bs.length≠0:=by rw[<-length_map (f:=Prod.fst),a.bsEq];exact aP
  obtain⟨la,ln,lc,ta,tn,tc,e1,e2⟩:=(a.base _ (ZhW hl)).shape;refine⟨(Zcj L.bs).1.st.kind,la,ln,lc,(Zcj L.bs).1.st.shut,(Zcj L.bs).1.st.eng,ta,tn,tc,?_⟩;unfold snV snC;rw[e1,e2,ar,<-ZjR a.bsEq]
 rw[a0] at aI;obtain⟨pa,pc,aB⟩:=Zg a.pcs
 have ai:Hid (∀ W,Below x.heap.size x W->W.cell? ⟨w.heap.size,0,none⟩=some (ptr p)∧W.cell? ⟨p,3,none⟩=some (.slice pa s.log.pcs.length pc)∧W.cell? ⟨p,12,none⟩=some (.int .i64 s.cur)∧
  ∀ j,j<s.log.pcs.length->∃ g,pa=some ⟨g,0,none⟩∧W.cell? ⟨g,j*3,none⟩=some (.int .i64 (s.log.pcs.getD j Yv).name)∧W.cell? ⟨g,j*3+1,none⟩=some (.int .i64 (s.log.pcs.getD j Yv).first)∧W.cell? ⟨g,j*3+2,none⟩=some (.int .i64 (s.log.pcs.getD j Yv).stop)):=ZZ (fun W hW=>by
  have hr:=((au.o.keep (hW.block _ au.o.lt)).cell 0 rfl).1;have v:=(a.below aF.o).below hW;obtain⟨-,-,-,c3,-,-,-,ao,-⟩:=v.cs;refine⟨hr,by rw[<-aB];exact c3,ao,fun j hj=>?_⟩
  obtain⟨g,cap,hv,d0,X,d2⟩:=ZxS v.pcs j hj;have av:L.pv=.slice (some ⟨g,0,none⟩) s.log.pcs.length cap:=hv;rw[aB] at av
  injection av with av
  exact⟨g,av,d0,X,d2⟩)
 obtain⟨P,hP⟩:∃ P,P=s.log.pcs:=⟨_,rfl⟩;obtain⟨cu,aM⟩:∃ cu,cu=s.cur:=⟨_,rfl⟩;obtain⟨B,aD⟩:∃ B,B=ZkB s:=⟨_,rfl⟩;have bk:Hid (∀ q,B q=(decide (q.stop<=E) && decide (q.name≠cu))):=ZZ (fun q=>by rw[aD,ar,aM];rfl)
 rw[<-hP,<-aM] at ai;have ad:Hid (P.length<=100000):=ZZ (by rw[hP];exact aX)
 have ak:Hid (P.filter (fun q=>!gp q)=ZdG s∧P.filter B=s.log.pcs.filter (ZkB s)):=ZZ (by rw[hP,aD];exact⟨rfl,rfl⟩)
 have aU:Hid (OkS s∧s.log.recs.length<=1000000∧(s.log.first<=s.base.idx∧s.base.idx<=s.next)∧(∀ q ∈ s.log.pcs.dropLast,q.name≠s.cur)∧(∀ q ∈ s.log.pcs,I64 q.name)):=ZZ ⟨a7,a8,hf,bf,aY⟩;have a4:=ZZ ar;have bt:=ZZ hP;have bv:(P.length:Int)<=100000:=by have:=ad.o;omega
 rw[<-hP] at aB;have bB:∀ W:World,(Instr.field 41 (.agg #[.int .i64 E,.int .i64 kd,.slice la ln lc,.bool sh,.int .i64 eg,.slice ta tn tc]) 0).run prog W=.ok (.int .i64 E) W:=fun _=>by kernel_rfl
 clear b a aB hP aM aD ar a0 a7 a8 hf bf aY aX aP bq hK
 go_enter func29,ntmps29
 go_upto_region 1 with fail
 rw[<-an];obtain⟨r0,-⟩:=ai.o x (Below.refl _ _);clear an
 go_wp2_with fail
 refine aI.o.mono ?_;rintro e W1 ⟨rfl,aN⟩;have Z:=ZZ aN;obtain⟨r1,c3,-,-⟩:=ai.o W1 aN;clear aN aI r0;go_wp2
 go_loopw[4,5,18] (fun vs vl vi wr=>∃ (i:Nat) (l:List Nat) (H:Option Addr) (J O:Nat) (C:Option Addr) (D A:Nat),vi=.int .i64 (i:Int)∧i<=P.length∧vs=.slice H J O∧vl=.slice C D A∧Hid (ZdU W1 w.heap.size ((P.take i).filter B) ((P.take i).filter fun q=>!gp q) l (.slice H J O) (.slice C D A) wr)) (fun _ _ vi _=>P.length-(intOf vi).toNat)
 case atStart=>exact⟨0,[],none,0,0,none,0,0,rfl,Nat.zero_le _,rfl,rfl,ZZ (ZdU.start W1 w.heap.size)⟩
 case round=>
  clear r1 c3;obtain⟨i,l,H,J,O,C,D,A,rfl,hi,rfl,rfl,m⟩:=hrel;have aH:Hid (Below x.heap.size x wr):=ZZ (Z.o.trans (m.o.old.mono Z.o.size));obtain⟨r1,c3,ao,aE⟩:=ai.o wr aH.o;by_cases aj:i<P.length
  case neg=>
   obtain rfl:i=P.length:=by omega
   rw[List.take_length] at m;obtain⟨gone,am⟩:∃ gone,gone=P.filter B:=⟨_,rfl⟩;obtain⟨left,ab⟩:∃ left,left=P.filter fun q=>!gp q:=⟨_,rfl⟩
   rw[<-am,<-ab] at m;rw[<-am,<-ab] at ak;have a3:=ZZ m.o.row
   have aQ:Hid ((l.map (ZiU w.heap.size)).length<=10000000):=ZZ (by
    rw[length_map,m.o.len,am]
    exact Nat.le_trans (length_filter_le _ _) (by have:=ad.o;omega))
   have aJ:Hid (gone.length<=P.length∧left.length<=P.length):=ZZ (by rw[am,ab];exact⟨length_filter_le _ _,length_filter_le _ _⟩)
   have aZ:Hid (∀ v' W',W'.ownsRow 0 153 1 v' (l.map (ZiU w.heap.size)++[(⟨64,#[ptr p],#[]⟩:Stp)]).length (Yo (l.map (ZiU w.heap.size)++[(⟨64,#[ptr p],#[]⟩:Stp)]))->(wr.alloc (.cells #[(⟨64,#[ptr p],#[]⟩:Stp).val] 153)).grownBy W' (Value.slice H J O).ownBlock->(v'.ownBlock=(Value.slice H J O).ownBlock∨v'.ownBlock=some (wr.heap.size+1))->
    ∃ g cap,v'=.slice (some ⟨g,0,none⟩) (l.length+1) cap∧Below w.heap.size w W'∧W'.ownsRow 0 108 3 (.slice C D A) left.length (Qx left)∧Bk 28 W' w.heap.size #[ptr p]∧
    Calls prog 62 #[.slice (some ⟨g,0,none⟩) (l.length+1) cap] W' fun e w'=>Zsn (fun k=>K k∨(w.heap.size<=k∧k<W'.heap.size)) (fun k=>K k∨(w.heap.size<=k∧k<W'.heap.size)) pd p (Q3 (ZkC s++[Qt]) (s,d)) (N+2*(l.length+1)) T (fun _ _=>True) W' e w'):=ZZ (fun v' W' b a v=>by
    obtain⟨q1,q2,q3,q4⟩:=m.o.last b a v;have aR:(l.map (ZiU w.heap.size)++[(⟨64,#[ptr p],#[]⟩:Stp)]).length=l.length+1:=by rw[List.length_append,length_map];rfl
    obtain⟨g,cap,cs,e1,e2,e3,e4⟩:=Zzh b (by rw[aR];omega) (⟨0,#[],#[]⟩:Stp)
    rw[aR] at e1 e4;have bD:=a5.o;have bg:=Z.o.size;have ag:Below w.heap.size w W':=aF.o.trans ((Z.o.trans (q1.mono bg)).mono (by omega))
    have aa:Bk 28 W' w.heap.size #[ptr p]:=au.o.keep ((Z.o.trans (q1.mono bg)).block _ au.o.lt);refine⟨g,cap,e1,ag,q2,aa,?_⟩;rw[Zlw,<-ak.o.2]
    exact ZuM (gone:=gone) W' (HS.o.fresh ag) (fun k hk=>by
     rcases hk with hk | hk
     ·have:=HK.o k hk;have:=ag.size;omega
     ·exact hk.2) (.inr ⟨by have:=q4 g e3;omega,e2.lt⟩) (.inr ⟨Nat.le_refl _,aa.lt⟩) (fun j hj=>⟨.inr ⟨by have:=(q3 j hj).1;omega,(q3 j hj).2.lt⟩,(q3 j hj).2⟩) m.o.len aa cs e2 e4 (fun q hq=>aU.o.2.2.2.2 q (by
     rw[ak.o.2] at hq
     exact(List.mem_filter.1 hq).1)) (by have:=aJ.o.1;have:=ad.o;omega) hN hT)
   clear am ab aE c3 ao
   go_wp2_with(at_builtin;refine(fun(h:True->_)=>h trivial) ?_)
   intro _;refine Zct wr rfl _ _ rfl (.slice H J O) (l.map (ZiU w.heap.size)) rfl a3.o ⟨64,#[ptr p],#[]⟩ rfl aQ.o ?_;intro v9 W9 b a v;obtain⟨g9,bE,rfl,ag,aG,aa,aC⟩:=aZ.o v9 W9 b a v;obtain⟨R,ap⟩:∃ R,R=Q3 (ZkC s++[Qt]) (s,d):=⟨_,rfl⟩;rw[<-ap] at aC;have bm:=ZZ ag;have br:=ZZ aG;have aL:=ZZ aa;have be:=ZZ aC;have aA:Hid (Zaz (s,d)=if R.2=0 then(({ R.1.1 with log:=s.log.letGo (ZdG s) s.base.idx },R.1.2),0) else R):=ZZ (by rw[ap];rfl)
   have bb:Hid (R.1.1.log=s.log):=ZZ (by rw[ap,Zlw];exact ZeP s d _)
   have ba:Hid (l.length<=s.log.pcs.length):=ZZ (by rw[m.o.len,<-bt.o];exact aJ.o.1)
   have ay:Hid (∀ k,(Value.slice C D A).ownBlock=some k->w.heap.size<=k∧k<W9.heap.size):=ZZ (fun k hk=>⟨by have:=m.o.lfar k hk;have:=Z.o.size;have:=a5.o;omega,(World.ownsRow.lt aG k hk).2⟩)
   clear b a v ag aG aa aC ap aZ a3 m
   go_wp2_with fail
   refine be.o.mono ?_;rintro e al ⟨rfl,Kd,m1,m2,m3,m4,-⟩;have aV:=aL.o.keep (m3.block _ aL.o.lt (fun hh=>hh (.inr ⟨Nat.le_refl _,aL.o.lt⟩)))
   obtain⟨bF,-⟩:=aV.cell 0 rfl;have ax:=ZZ (And.intro m1 m2);have aW:Hid (Qj (fun k=>¬ K k) w al):=ZZ ((Qj.ofBelow bm.o).trans (m3.mono (fun k hk hn=>hk (.inl hn))) (fun _ _ h=>h))
   have aT:=ZZ m4;have bp:Hid (al.ownsRow 0 108 3 (.slice C D A) left.length (Qx left)):=ZZ (Qh br.o fun g hg=>m3.block g (ay.o g hg).2 (fun hh=>hh (.inr (ay.o g hg))))
   clear m1 m2 m3 m4 aV be;obtain⟨⟨s1,X⟩,c⟩:=R;by_cases hc:c=0
   case neg=>
    have aK:Hid (Z6 K w pd p (Zaz (s,d)) (N+2*(s.log.pcs.length+1)) T (.returned (.int .i64 c)) al):=ZZ (by
     rw[aA.o,if_neg hc]
     exact⟨rfl,(aT.o.less (fun k hk=>ax.o.1 k (.inl hk))).mono (by have:=ba.o;omega) zL,aW.o⟩)
    have bz:(c != 0)=true:=by rw[bne_iff_ne];exact hc
    clear hc aA;go_wp2;go_ret;exact aK.o
   subst hc;rw[if_pos rfl] at aA
   have a6:Hid (Calls prog 70 #[.pointer (some ⟨p,1,none⟩),.slice C D A,.int .i64 E] al fun e w'=>e=.returned (.tuple #[])∧SD K w' pd p { s1 with log:=s1.log.letGo left E } X (N+2*(l.length+1)) T∧Qj (fun k=>¬ K k) al w'):=ZZ (by
    have S:s1.log=s.log:=bb.o;obtain⟨g1,g2,g3,g4,g5⟩:=aU.o;obtain⟨q1,q2,q3,q4⟩:=g1.log.letGo (cur:=s.cur) (base:=s.base.idx) g4 g3.1 g3.2;have ab:s.log.pcs.filter (fun p=>!(decide (p.stop<=s.base.idx) && decide (p.name≠s.cur)))=left:=ak.o.1.symm
    rw[ab] at q2 q3 q4;have bo:s.log.first<=Yt left s.base.idx:=q4;have bw:s.log.next=s.log.first+s.log.recs.length:=rfl;have bG:Yt left s.base.idx+((s.log.recs.drop (Yt left s.base.idx-s.log.first).toNat).length:Nat)=s.log.next:=q3;have h0:=g1.log.f0;have ht:=g1.log.top;rw[a4.o]
    exact aT.o.letGo (fun k hk=>ax.o.1 k (.inl hk)) ax.o.2 _ left s.base.idx bp.o (fun k hk=>⟨ax.o.1 k (.inr (ay.o k hk)),fun hh=>by have:=HK.o k hh;have:=(ay.o k hk).1;omega⟩) (by have:=aJ.o.2;have:=ad.o;omega) (by rw[S];exact g2) (by rw[S];exact g1.log.recOk) (by rw[S];exact bo) (by rw[S];omega) (by rw[S];exact h0) (by rw[S];omega))
   go_wp2_with fail
   refine a6.o.mono ?_;rintro e bn ⟨rfl,aO,aS⟩
   have aK:Hid (Z6 K w pd p (Zaz (s,d)) (N+2*(s.log.pcs.length+1)) T (.returned (.int .i64 0)) bn):=ZZ (by
    rw[aA.o];have S:s1.log=s.log:=bb.o;rw[S,ak.o.1,a4.o] at aO
    exact⟨rfl,aO.mono (by have:=ba.o;omega) zL,aW.o.trans aS (fun _ _ h=>h)⟩)
   clear aO aS a6;go_wp2;go_ret;exact aK.o
  obtain⟨g,bj,d0,X,d2⟩:=aE i aj;subst bj;have V:=ZZ (Zgf B P i aj);have Y:=ZZ (Zgf (fun q=>!gp q) P i aj)
  obtain⟨q,hq⟩:∃ q,q=P.getD i Yv:=⟨_,rfl⟩;rw[<-hq] at d0 X d2 V Y;obtain⟨t,y,u⟩:=q
  dsimp only at d0 X d2
  have HG:=ZZ (bk.o ⟨t,y,u⟩);have af:=ZZ aj;have bu:Hid (i<P.length):=ZZ aj;clear aE hq
  go_upto_region 7 with fail
  obtain⟨G,aq⟩:∃ G,G=wr.alloc (.cells #[.int .i64 t,.int .i64 y,.int .i64 u] 108):=⟨_,rfl⟩;rw[<-aq];have bd:Hid (Below wr.heap.size wr G):=ZZ (by rw[aq];exact Jc _ _)
  have az:Hid (Bk 108 G wr.heap.size (pcC ⟨t,y,u⟩)):=ZZ (by rw[aq];exact heap_alloc_new wr _)
  have p0:G.cell? ⟨wr.heap.size,0,none⟩=some (.int .i64 t):=(az.o.cell 0 rfl).1;have p1:G.cell? ⟨wr.heap.size,1,none⟩=some (.int .i64 y):=(az.o.cell 1 rfl).1;have p2:G.cell? ⟨wr.heap.size,2,none⟩=some (.int .i64 u):=(az.o.cell 2 rfl).1;obtain⟨r2,-,bC,-⟩:=ai.o G (aH.o.trans (bd.o.mono aH.o.size));clear aq r1 c3 ao d0 X d2;have ae:Hid (∀ n,Below wr.heap.size wr (G.drewN n)):=ZZ (fun n=>Xn bd.o n)
  have bc:Hid (((P.take i).filter fun q=>!gp q).length<=10000000):=ZZ (Nat.le_trans (length_filter_le _ _) (by rw[List.length_take];have:=ad.o;omega))
  have aQ:Hid ((l.map (ZiU w.heap.size)).length<=10000000):=ZZ (by
   rw[length_map,m.o.len]
   exact Nat.le_trans (length_filter_le _ _) (by rw[List.length_take];have:=ad.o;omega))
  by_cases aw:u<=E
  ·by_cases ac:t=cu
   ·have z:B ⟨t,y,u⟩=false:=by rw[HG.o];simp[ac]
    have bl:(t != cu)=false:=by rw[bne_eq_false_iff_eq];exact ac
    rw[z,if_neg (by decide),append_nil] at V
    rw[z,if_pos (by decide)] at Y
    clear ac z
    go_quiet(fail)
    go_wp2_with(at_builtin;refine(fun(h:True->_)=>h trivial) ?_)
    intro _;refine Zaa _ rfl _ _ rfl (.slice C D A) ((P.take i).filter fun q=>!gp q) rfl (m.o.below (ae.o _)).lrow (⟨t,y,u⟩:Pce) rfl bc.o ?_
    intro v9 W9 b a v;have Q:=ZZ (m.o.leave ⟨t,y,u⟩ (ae.o _) b a v);rw[<-Y.o] at Q;obtain⟨a9,c9,U⟩:=Zg b;generalize (((P.take i).filter fun q=>!gp q)++[(⟨t,y,u⟩:Pce)]).length=n9 at U
    subst U;clear b a v;go_wp2;go_roundw
    case rel=>exact⟨i+1,l,H,J,O,a9,n9,c9,by go_num,by have:=af.o;omega,rfl,rfl,by rw[V.o];exact Q⟩
    case measure=>have:=af.o;simp[intOf];omega
   ·have z:B ⟨t,y,u⟩=true:=by rw[HG.o];simp[ac,aw]
    have bl:(t != cu)=true:=by rw[bne_iff_ne];exact ac
    rw[z,if_pos rfl] at V;rw[z,if_neg (by decide),append_nil] at Y
    clear ac z
    go_quiet(fail)
    go_wp2_with(at_builtin;refine(fun(h:True->_)=>h trivial) ?_)
    intro _;refine Zct _ rfl _ _ rfl (.slice H J O) (l.map (ZiU w.heap.size)) rfl (m.o.below (ae.o _)).row (ZiU w.heap.size wr.heap.size) rfl aQ.o ?_;intro v9 W9 b a v;have Q:=ZZ (m.o.step ⟨t,y,u⟩ (ae.o _) (az.o.keep (by rw[World.heap_drewN])) b a v)
    rw[<-V.o] at Q;obtain⟨a9,c9,U⟩:=Zg b;generalize (l.map (ZiU w.heap.size)++[ZiU w.heap.size wr.heap.size]).length=n9 at U;subst U;clear b a v;go_wp2;go_roundw
    case rel=>exact⟨i+1,l++[wr.heap.size],a9,n9,c9,C,D,A,by go_num,by have:=af.o;omega,rfl,rfl,by rw[Y.o];exact Q⟩
    case measure=>have:=af.o;simp[intOf];omega
  ·have z:B ⟨t,y,u⟩=false:=by rw[HG.o];simp[aw]
   have bA:decide (u<=E)=false:=decide_eq_false aw;rw[z,if_neg (by decide),append_nil] at V
   rw[z,if_pos (by decide)] at Y
   clear aw z
   go_quiet(fail)
   go_wp2_with(at_builtin;refine(fun(h:True->_)=>h trivial) ?_)
   intro _;refine Zaa _ rfl _ _ rfl (.slice C D A) ((P.take i).filter fun q=>!gp q) rfl (m.o.below (ae.o _)).lrow (⟨t,y,u⟩:Pce) rfl bc.o ?_
   intro v9 W9 b a v;have Q:=ZZ (m.o.leave ⟨t,y,u⟩ (ae.o _) b a v);rw[<-Y.o] at Q;obtain⟨a9,c9,U⟩:=Zg b;generalize (((P.take i).filter fun q=>!gp q)++[(⟨t,y,u⟩:Pce)]).length=n9 at U
   subst U;clear b a v;go_wp2;go_roundw
   case rel=>exact⟨i+1,l,H,J,O,a9,n9,c9,by go_num,by have:=af.o;omega,rfl,rfl,by rw[V.o];exact Q⟩
   case measure=>have:=af.o;simp[intOf];omega
end Go.Proofs.YtnahjngbneicaaaGreatDoor
