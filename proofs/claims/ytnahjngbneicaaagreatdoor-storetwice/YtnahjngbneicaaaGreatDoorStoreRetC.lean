import Derived.Test.YtnahjngbneicaaaGreatDoorStoreRetB
namespace Go.Proofs.YtnahjngbneicaaaGreatDoor
open _root_.Go.Proofs.Tryz
open List (append_nil length_filter_le length_map)
set_option maxRecDepth 100000
open Go.RowKit
theorem ZoM (s:Sto):ZnS s++[Zar]=((s.log.pcs.filter (ZnR s)).map fun q=>Zbv (fun d=>Zam d q.name))++[Zar]:=rfl
theorem Zif (s:Sto) (d:Dk) (gone:List Pce):(Zbj ((gone.map fun q:Pce=>Zbv (fun d=>Zam d q.name))++[Zar]) (s,d)).1.1.log=s.log:=by
 have h:∀ (gs:List (SDk->SDk × Int)),(∀ g ∈ gs,∀ x,(g x).1.1.log=x.1.log)->∀ x,(Zbj gs x).1.1.log=x.1.log:=by
  intro gs
  induction gs with
  | nil=>exact fun _ x=>rfl
  | cons g gs c=>
   intro hg x;have a:=hg g List.mem_cons_self x;unfold Zbj;split
   ·exact(c (fun g' b=>hg g' (List.mem_cons_of_mem _ b)) (g x).1).trans a
   ·exact a
 refine h _ (fun g hg x=>?_) (s,d)
 rcases List.mem_append.1 hg with hg | hg
 ·obtain⟨q,-,rfl⟩:=List.mem_map.1 hg
  rfl
 ·rw[List.mem_singleton.1 hg]
  unfold Zar;split <;> rfl
set_option maxHeartbeats 8000000 in
theorem ZsC {K:Nat->Prop} {pd p:Nat} {s:Sto} {d:Dk} {N T:Nat} (w:World) (h:SD K w pd p s d N T) (hK:∀ k,K k->k<w.heap.size) (bb:OkS s) (aN:s.bases.length≠0) (bq:s.bases.length<=1000000) (aS:s.log.pcs.length<=100000) (a4:s.log.recs.length<=1000000) (hf:s.log.first<=s.base.idx∧s.base.idx<=s.next) (be:∀ q ∈ s.log.pcs.dropLast,q.name≠s.cur) (bf:∀ q ∈ s.log.pcs,I64 q.name) (hN:N<=700000) (hT:T<=900000000):
 Calls prog 29 #[ptr p] w fun e w'=>Zff K w pd p (ZdA (s,d)) (N+2*(s.log.pcs.length+1)) T e w':=by
 obtain⟨x,ak⟩:∃ x,x=w.alloc (.cells #[ptr p] 28):=⟨_,rfl⟩;have aH:Hid (Below w.heap.size w x):=ZZ (by rw[ak];exact ZcW _ _)
 have az:Hid (Bk 28 x w.heap.size #[ptr p]):=ZZ (by rw[ak];exact heap_alloc_new w _)
 have a6:Hid (x.heap.size=w.heap.size+1):=ZZ (by rw[ak];simp)
 have HS:=ZZ h;have HK:=ZZ hK;obtain⟨F,M,I,L,b,a,-⟩:=h;have aQ:Hid (Calls prog 37 #[ptr p] x fun e w'=>e=.returned (snV (Zfy L.bs))∧Below x.heap.size x w'):=ZZ (Ztt x (a.below aH.o) aN (by omega))
 obtain⟨C,ax⟩:∃ C,C=s.base.idx:=⟨_,rfl⟩
 obtain⟨kd,la,ln,lc,sh,eg,ta,tn,tc,a5⟩:∃ kd la ln lc sh eg ta tn tc,snV (Zfy L.bs)=.agg #[.int .i64 C,.int .i64 kd,.slice la ln lc,.bool sh,.int .i64 eg,.slice ta tn tc]:=by
  have hl:L.bs.length≠0:=by rw[<-length_map (f:=Prod.fst),a.bsEq];exact aN
  obtain⟨la,ln,lc,ta,tn,tc,e1,e2⟩:=(a.base _ (Zlm hl)).shape;refine⟨(Zfy L.bs).1.st.kind,la,ln,lc,(Zfy L.bs).1.st.shut,(Zfy L.bs).1.st.eng,ta,tn,tc,?_⟩;unfold snV snC;rw[e1,e2,ax,<-Znh a.bsEq]
 rw[a5] at aQ;obtain⟨pa,pc,ay⟩:=ZbW a.pcs
 have an:Hid (∀ W,Below x.heap.size x W->W.cell? ⟨w.heap.size,0,none⟩=some (ptr p)∧W.cell? ⟨p,3,none⟩=some (.slice pa s.log.pcs.length pc)∧W.cell? ⟨p,12,none⟩=some (.int .i64 s.cur)∧
  ∀ j,j<s.log.pcs.length->∃ g,pa=some ⟨g,0,none⟩∧W.cell? ⟨g,j*3,none⟩=some (.int .i64 (s.log.pcs.getD j Zce).name)∧W.cell? ⟨g,j*3+1,none⟩=some (.int .i64 (s.log.pcs.getD j Zce).first)∧W.cell? ⟨g,j*3+2,none⟩=some (.int .i64 (s.log.pcs.getD j Zce).stop)):=ZZ (fun W hW=>by
  have hr:=((az.o.keep (hW.block _ az.o.lt)).cell 0 rfl).1;have u:=(a.below aH.o).below hW;obtain⟨-,-,-,c3,-,-,-,ao,-⟩:=u.cs;refine⟨hr,by rw[<-ay];exact c3,ao,fun j hj=>?_⟩
  obtain⟨g,cap,hv,d0,X,d2⟩:=ZBi u.pcs j hj;have ap:L.pv=.slice (some ⟨g,0,none⟩) s.log.pcs.length cap:=hv;rw[ay] at ap
  injection ap with ap
  exact⟨g,ap,d0,X,d2⟩)
 obtain⟨P,hP⟩:∃ P,P=s.log.pcs:=⟨_,rfl⟩;obtain⟨Z,aK⟩:∃ Z,Z=s.cur:=⟨_,rfl⟩;obtain⟨D,aI⟩:∃ D,D=ZnR s:=⟨_,rfl⟩;have bo:Hid (∀ q,D q=(decide (q.stop<=C) && decide (q.name≠Z))):=ZZ (fun q=>by rw[aI,ax,aK];rfl)
 rw[<-hP,<-aK] at an;have ad:Hid (P.length<=100000):=ZZ (by rw[hP];exact aS)
 have ai:Hid (P.filter (fun q=>!gp q)=ZgW s∧P.filter D=s.log.pcs.filter (ZnR s)):=ZZ (by rw[hP,aI];exact⟨rfl,rfl⟩)
 have aY:Hid (OkS s∧s.log.recs.length<=1000000∧(s.log.first<=s.base.idx∧s.base.idx<=s.next)∧(∀ q ∈ s.log.pcs.dropLast,q.name≠s.cur)∧(∀ q ∈ s.log.pcs,I64 q.name)):=ZZ ⟨bb,a4,hf,be,bf⟩;have ba:=ZZ ax;have br:=ZZ hP;have bu:(P.length:Int)<=100000:=by have:=ad.o;omega
 rw[<-hP] at ay;have bE:∀ W:World,(Instr.field 41 (.agg #[.int .i64 C,.int .i64 kd,.slice la ln lc,.bool sh,.int .i64 eg,.slice ta tn tc]) 0).run prog W=.ok (.int .i64 C) W:=fun _=>by kernel_rfl
 clear b a ay hP aK aI ax a5 bb a4 hf be bf aS aN bq hK
 go_enter func29,ntmps29
 go_upto_region 1 with fail
 rw[<-ak];obtain⟨r0,-⟩:=an.o x (Below.refl _ _);clear ak
 go_wp2_with fail
 refine aQ.o.mono ?_;rintro e W1 ⟨rfl,aM⟩;have af:=ZZ aM;obtain⟨r1,c3,-,-⟩:=an.o W1 aM;clear aM aQ r0;go_wp2
 go_loopw[4,5,18] (fun vs vl vi wr=>∃ (i:Nat) (l:List Nat) (J:Option Addr) (H G:Nat) (B:Option Addr) (E A:Nat),vi=.int .i64 (i:Int)∧i<=P.length∧vs=.slice J H G∧vl=.slice B E A∧Hid (Zhk W1 w.heap.size ((P.take i).filter D) ((P.take i).filter fun q=>!gp q) l (.slice J H G) (.slice B E A) wr)) (fun _ _ vi _=>P.length-(intOf vi).toNat)
 case atStart=>exact⟨0,[],none,0,0,none,0,0,rfl,Nat.zero_le _,rfl,rfl,ZZ (Zhk.start W1 w.heap.size)⟩
 case round=>
  clear r1 c3;obtain⟨i,l,J,H,G,B,E,A,rfl,hi,rfl,rfl,m⟩:=hrel;have aO:Hid (Below x.heap.size x wr):=ZZ (af.o.trans (m.o.old.mono af.o.size));obtain⟨r1,c3,ao,aC⟩:=an.o wr aO.o;by_cases al:i<P.length
  case neg=>
   obtain rfl:i=P.length:=by omega
   rw[List.take_length] at m;obtain⟨gone,aj⟩:∃ gone,gone=P.filter D:=⟨_,rfl⟩;obtain⟨left,ae⟩:∃ left,left=P.filter fun q=>!gp q:=⟨_,rfl⟩
   rw[<-aj,<-ae] at m;rw[<-aj,<-ae] at ai;have aX:=ZZ m.o.row
   have aJ:Hid ((l.map (Zmk w.heap.size)).length<=10000000):=ZZ (by
    rw[length_map,m.o.len,aj]
    exact Nat.le_trans (length_filter_le _ _) (by have:=ad.o;omega))
   have aG:Hid (gone.length<=P.length∧left.length<=P.length):=ZZ (by rw[aj,ae];exact⟨length_filter_le _ _,length_filter_le _ _⟩)
   have aT:Hid (∀ v' W',W'.ownsRow 0 153 1 v' (l.map (Zmk w.heap.size)++[(⟨64,#[ptr p],#[]⟩:Stp)]).length (ZbB (l.map (Zmk w.heap.size)++[(⟨64,#[ptr p],#[]⟩:Stp)]))->(wr.alloc (.cells #[(⟨64,#[ptr p],#[]⟩:Stp).val] 153)).grownBy W' (Value.slice J H G).ownBlock->(v'.ownBlock=(Value.slice J H G).ownBlock∨v'.ownBlock=some (wr.heap.size+1))->
    ∃ g cap,v'=.slice (some ⟨g,0,none⟩) (l.length+1) cap∧Below w.heap.size w W'∧W'.ownsRow 0 108 3 (.slice B E A) left.length (Zau left)∧Bk 28 W' w.heap.size #[ptr p]∧
    Calls prog 62 #[.slice (some ⟨g,0,none⟩) (l.length+1) cap] W' fun e w'=>ZvD (fun k=>K k∨(w.heap.size<=k∧k<W'.heap.size)) (fun k=>K k∨(w.heap.size<=k∧k<W'.heap.size)) pd p (Zbj (ZnS s++[Zar]) (s,d)) (N+2*(l.length+1)) T (fun _ _=>True) W' e w'):=ZZ (fun v' W' b a u=>by
    obtain⟨q1,q2,q3,q4⟩:=m.o.last b a u;have bd:(l.map (Zmk w.heap.size)++[(⟨64,#[ptr p],#[]⟩:Stp)]).length=l.length+1:=by rw[List.length_append,length_map];rfl
    obtain⟨g,cap,cs,e1,e2,e3,e4⟩:=ZCx b (by rw[bd];omega) (⟨0,#[],#[]⟩:Stp)
    rw[bd] at e1 e4;have bD:=a6.o;have aW:=af.o.size;have ah:Below w.heap.size w W':=aH.o.trans ((af.o.trans (q1.mono aW)).mono (by omega))
    have ag:Bk 28 W' w.heap.size #[ptr p]:=az.o.keep ((af.o.trans (q1.mono aW)).block _ az.o.lt);refine⟨g,cap,e1,ah,q2,ag,?_⟩;rw[ZoM,<-ai.o.2]
    exact Zyc (gone:=gone) W' (HS.o.fresh ah) (fun k hk=>by
     rcases hk with hk | hk
     ·have:=HK.o k hk;have:=ah.size;omega
     ·exact hk.2) (.inr ⟨by have:=q4 g e3;omega,e2.lt⟩) (.inr ⟨Nat.le_refl _,ag.lt⟩) (fun j hj=>⟨.inr ⟨by have:=(q3 j hj).1;omega,(q3 j hj).2.lt⟩,(q3 j hj).2⟩) m.o.len ag cs e2 e4 (fun q hq=>aY.o.2.2.2.2 q (by
     rw[ai.o.2] at hq
     exact(List.mem_filter.1 hq).1)) (by have:=aG.o.1;have:=ad.o;omega) hN hT)
   clear aj ae aC c3 ao
   go_wp2_with(at_builtin;refine(fun(h:True->_)=>h trivial) ?_)
   intro _;refine ZfI wr rfl _ _ rfl (.slice J H G) (l.map (Zmk w.heap.size)) rfl aX.o ⟨64,#[ptr p],#[]⟩ rfl aJ.o ?_;intro v9 W9 b a u;obtain⟨g9,bF,rfl,ah,aL,ag,aD⟩:=aT.o v9 W9 b a u;obtain⟨Q,au⟩:∃ Q,Q=Zbj (ZnS s++[Zar]) (s,d):=⟨_,rfl⟩;rw[<-au] at aD;have bp:=ZZ ah;have bn:=ZZ aL;have aE:=ZZ ag;have aR:=ZZ aD;have aB:Hid (ZdA (s,d)=if Q.2=0 then(({ Q.1.1 with log:=s.log.letGo (ZgW s) s.base.idx },Q.1.2),0) else Q):=ZZ (by rw[au];rfl)
   have aZ:Hid (Q.1.1.log=s.log):=ZZ (by rw[au,ZoM];exact Zif s d _)
   have a7:Hid (l.length<=s.log.pcs.length):=ZZ (by rw[m.o.len,<-br.o];exact aG.o.1)
   have aA:Hid (∀ k,(Value.slice B E A).ownBlock=some k->w.heap.size<=k∧k<W9.heap.size):=ZZ (fun k hk=>⟨by have:=m.o.lfar k hk;have:=af.o.size;have:=a6.o;omega,(World.ownsRow.lt aL k hk).2⟩)
   clear b a u ah aL ag aD au aT aX m
   go_wp2_with fail
   refine aR.o.mono ?_;rintro e am ⟨rfl,Kd,m1,m2,m3,m4,-⟩;have bg:=aE.o.keep (m3.block _ aE.o.lt (fun hh=>hh (.inr ⟨Nat.le_refl _,aE.o.lt⟩)))
   obtain⟨bz,-⟩:=bg.cell 0 rfl;have aw:=ZZ (And.intro m1 m2);have a8:Hid (Zap (fun k=>¬ K k) w am):=ZZ ((Zap.ofBelow bp.o).trans (m3.mono (fun k hk hn=>hk (.inl hn))) (fun _ _ h=>h))
   have bc:=ZZ m4;have bl:Hid (am.ownsRow 0 108 3 (.slice B E A) left.length (Zau left)):=ZZ (Zae bn.o fun g hg=>m3.block g (aA.o g hg).2 (fun hh=>hh (.inr (aA.o g hg))))
   clear m1 m2 m3 m4 bg aR;obtain⟨⟨s1,X⟩,c⟩:=Q;by_cases hc:c=0
   case neg=>
    have aP:Hid (Zff K w pd p (ZdA (s,d)) (N+2*(s.log.pcs.length+1)) T (.returned (.int .i64 c)) am):=ZZ (by
     rw[aB.o,if_neg hc]
     exact⟨rfl,(bc.o.less (fun k hk=>aw.o.1 k (.inl hk))).mono (by have:=a7.o;omega) zL,a8.o⟩)
    have bw:(c != 0)=true:=by rw[bne_iff_ne];exact hc
    clear hc aB;go_wp2;go_ret;exact aP.o
   subst hc;rw[if_pos rfl] at aB
   have a3:Hid (Calls prog 70 #[.pointer (some ⟨p,1,none⟩),.slice B E A,.int .i64 C] am fun e w'=>e=.returned (.tuple #[])∧SD K w' pd p { s1 with log:=s1.log.letGo left C } X (N+2*(l.length+1)) T∧Zap (fun k=>¬ K k) am w'):=ZZ (by
    have R:s1.log=s.log:=aZ.o;obtain⟨g1,g2,g3,g4,g5⟩:=aY.o;obtain⟨q1,q2,q3,q4⟩:=g1.log.letGo (cur:=s.cur) (base:=s.base.idx) g4 g3.1 g3.2;have ae:s.log.pcs.filter (fun p=>!(decide (p.stop<=s.base.idx) && decide (p.name≠s.cur)))=left:=ai.o.1.symm
    rw[ae] at q2 q3 q4;have bm:s.log.first<=ZbK left s.base.idx:=q4;have bC:s.log.next=s.log.first+s.log.recs.length:=rfl;have bA:ZbK left s.base.idx+((s.log.recs.drop (ZbK left s.base.idx-s.log.first).toNat).length:Nat)=s.log.next:=q3;have h0:=g1.log.f0;have ht:=g1.log.top;rw[ba.o]
    exact bc.o.letGo (fun k hk=>aw.o.1 k (.inl hk)) aw.o.2 _ left s.base.idx bl.o (fun k hk=>⟨aw.o.1 k (.inr (aA.o k hk)),fun hh=>by have:=HK.o k hh;have:=(aA.o k hk).1;omega⟩) (by have:=aG.o.2;have:=ad.o;omega) (by rw[R];exact g2) (by rw[R];exact g1.log.recOk) (by rw[R];exact bm) (by rw[R];omega) (by rw[R];exact h0) (by rw[R];omega))
   go_wp2_with fail
   refine a3.o.mono ?_;rintro e bj ⟨rfl,aF,aU⟩
   have aP:Hid (Zff K w pd p (ZdA (s,d)) (N+2*(s.log.pcs.length+1)) T (.returned (.int .i64 0)) bj):=ZZ (by
    rw[aB.o];have R:s1.log=s.log:=aZ.o;rw[R,ai.o.1,ba.o] at aF
    exact⟨rfl,aF.mono (by have:=a7.o;omega) zL,a8.o.trans aU (fun _ _ h=>h)⟩)
   clear aF aU a3;go_wp2;go_ret;exact aP.o
  obtain⟨g,bh,d0,X,d2⟩:=aC i al;subst bh;have Y:=ZZ (Zjv D P i al);have V:=ZZ (Zjv (fun q=>!gp q) P i al)
  obtain⟨q,hq⟩:∃ q,q=P.getD i Zce:=⟨_,rfl⟩;rw[<-hq] at d0 X d2 Y V;obtain⟨t,y,v⟩:=q
  dsimp only at d0 X d2
  have HG:=ZZ (bo.o ⟨t,y,v⟩);have ac:=ZZ al;have bv:Hid (i<P.length):=ZZ al;clear aC hq
  go_upto_region 7 with fail
  obtain⟨O,av⟩:∃ O,O=wr.alloc (.cells #[.int .i64 t,.int .i64 y,.int .i64 v] 108):=⟨_,rfl⟩;rw[<-av];have aV:Hid (Below wr.heap.size wr O):=ZZ (by rw[av];exact ZcW _ _)
  have aq:Hid (Bk 108 O wr.heap.size (pcC ⟨t,y,v⟩)):=ZZ (by rw[av];exact heap_alloc_new wr _)
  have p0:O.cell? ⟨wr.heap.size,0,none⟩=some (.int .i64 t):=(aq.o.cell 0 rfl).1;have p1:O.cell? ⟨wr.heap.size,1,none⟩=some (.int .i64 y):=(aq.o.cell 1 rfl).1;have p2:O.cell? ⟨wr.heap.size,2,none⟩=some (.int .i64 v):=(aq.o.cell 2 rfl).1;obtain⟨r2,-,bt,-⟩:=an.o O (aO.o.trans (aV.o.mono aO.o.size));clear av r1 c3 ao d0 X d2;have aa:Hid (∀ n,Below wr.heap.size wr (O.drewN n)):=ZZ (fun n=>ZaI aV.o n)
  have a0:Hid (((P.take i).filter fun q=>!gp q).length<=10000000):=ZZ (Nat.le_trans (length_filter_le _ _) (by rw[List.length_take];have:=ad.o;omega))
  have aJ:Hid ((l.map (Zmk w.heap.size)).length<=10000000):=ZZ (by
   rw[length_map,m.o.len]
   exact Nat.le_trans (length_filter_le _ _) (by rw[List.length_take];have:=ad.o;omega))
  by_cases ar:v<=C
  ·by_cases ab:t=Z
   ·have z:D ⟨t,y,v⟩=false:=by rw[HG.o];simp[ab]
    have bk:(t != Z)=false:=by rw[bne_eq_false_iff_eq];exact ab
    rw[z,if_neg (by decide),append_nil] at Y
    rw[z,if_pos (by decide)] at V
    clear ab z
    go_quiet(fail)
    go_wp2_with(at_builtin;refine(fun(h:True->_)=>h trivial) ?_)
    intro _;refine ZcA _ rfl _ _ rfl (.slice B E A) ((P.take i).filter fun q=>!gp q) rfl (m.o.below (aa.o _)).lrow (⟨t,y,v⟩:Pce) rfl a0.o ?_
    intro v9 W9 b a u;have U:=ZZ (m.o.leave ⟨t,y,v⟩ (aa.o _) b a u);rw[<-V.o] at U;obtain⟨a9,c9,S⟩:=ZbW b;generalize (((P.take i).filter fun q=>!gp q)++[(⟨t,y,v⟩:Pce)]).length=n9 at S
    subst S;clear b a u;go_wp2;go_roundw
    case rel=>exact⟨i+1,l,J,H,G,a9,n9,c9,by go_num,by have:=ac.o;omega,rfl,rfl,by rw[Y.o];exact U⟩
    case measure=>have:=ac.o;simp[intOf];omega
   ·have z:D ⟨t,y,v⟩=true:=by rw[HG.o];simp[ab,ar]
    have bk:(t != Z)=true:=by rw[bne_iff_ne];exact ab
    rw[z,if_pos rfl] at Y;rw[z,if_neg (by decide),append_nil] at V
    clear ab z
    go_quiet(fail)
    go_wp2_with(at_builtin;refine(fun(h:True->_)=>h trivial) ?_)
    intro _;refine ZfI _ rfl _ _ rfl (.slice J H G) (l.map (Zmk w.heap.size)) rfl (m.o.below (aa.o _)).row (Zmk w.heap.size wr.heap.size) rfl aJ.o ?_;intro v9 W9 b a u;have U:=ZZ (m.o.step ⟨t,y,v⟩ (aa.o _) (aq.o.keep (by rw[World.heap_drewN])) b a u)
    rw[<-Y.o] at U;obtain⟨a9,c9,S⟩:=ZbW b;generalize (l.map (Zmk w.heap.size)++[Zmk w.heap.size wr.heap.size]).length=n9 at S;subst S;clear b a u;go_wp2;go_roundw
    case rel=>exact⟨i+1,l++[wr.heap.size],a9,n9,c9,B,E,A,by go_num,by have:=ac.o;omega,rfl,rfl,by rw[V.o];exact U⟩
    case measure=>have:=ac.o;simp[intOf];omega
  ·have z:D ⟨t,y,v⟩=false:=by rw[HG.o];simp[ar]
   have bB:decide (v<=C)=false:=decide_eq_false ar;rw[z,if_neg (by decide),append_nil] at Y
   rw[z,if_pos (by decide)] at V
   clear ar z
   go_quiet(fail)
   go_wp2_with(at_builtin;refine(fun(h:True->_)=>h trivial) ?_)
   intro _;refine ZcA _ rfl _ _ rfl (.slice B E A) ((P.take i).filter fun q=>!gp q) rfl (m.o.below (aa.o _)).lrow (⟨t,y,v⟩:Pce) rfl a0.o ?_
   intro v9 W9 b a u;have U:=ZZ (m.o.leave ⟨t,y,v⟩ (aa.o _) b a u);rw[<-V.o] at U;obtain⟨a9,c9,S⟩:=ZbW b;generalize (((P.take i).filter fun q=>!gp q)++[(⟨t,y,v⟩:Pce)]).length=n9 at S
   subst S;clear b a u;go_wp2;go_roundw
   case rel=>exact⟨i+1,l,J,H,G,a9,n9,c9,by go_num,by have:=ac.o;omega,rfl,rfl,by rw[Y.o];exact U⟩
   case measure=>have:=ac.o;simp[intOf];omega
end Go.Proofs.YtnahjngbneicaaaGreatDoor
