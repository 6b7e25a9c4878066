import Derived.Test.YtnahjngbneicaaaGreatDoorPack14
namespace Go.Proofs.YtnahjngbneicaaaGreatDoor
open _root_.Go.Proofs.Tryz
open List (append_nil length_filter_le length_map)
set_option maxHeartbeats 8000000
set_option maxRecDepth 100000
open Go.RowKit
variable {I K:Nat->Prop} {N R Rb T f i p pd:Nat} {s:Sto} {d:Dk} {n:Q0} {W w wr:World} {bv v:Value} {l:List Int} {bs:List (Q0 × Value × Value)} {kind:Int}
theorem Zmj (s:Sto):ZfC s++[Qq]=((s.log.pcs.filter (Zex s)).map fun q=>Xm (fun d=>Qj d q.name))++[Qq]:=rfl
theorem ZeZ (s:Sto) (d:Dk) (gone:List Pce):(Qv ((gone.map fun q:Pce=>Xm (fun d=>Qj d q.name))++[Qq]) (s,d)).1.1.log=s.log:=by
 have h:∀ (gs:List (SDk->SDk × Int)),(∀ g ∈ gs,∀ x,(g x).1.1.log=x.1.log)->∀ x,(Qv gs x).1.1.log=x.1.log:=by
  intro gs
  induction gs with
  | nil=>exact fun _ x=>rfl
  | cons g gs c=>
   intro hg x;have a:=hg g List.mem_cons_self x;unfold Qv;split
   ·exact(c (fun g' b=>hg g' (List.mem_cons_of_mem _ b)) (g x).1).trans a
   ·exact a
 refine h _ (fun g hg x=>?_) (s,d)
 rcases List.mem_append.1 hg with hg | hg
 ·obtain⟨q,-,rfl⟩:=List.mem_map.1 hg
  rfl
 ·rw[List.mem_singleton.1 hg]
  unfold Qq;split <;> rfl
theorem Zqh (w:World) (h:SD K w pd p s d N T) (hK:∀ k,K k->k<w.heap.size) (a0:OkS s) (aL:s.bases.length≠0) (bq:s.bases.length<=1000000) (aY:s.log.pcs.length<=100000) (aS:s.log.recs.length<=1000000) (hf:s.log.first<=s.base.idx∧s.base.idx<=s.next) (a7:∀ q ∈ s.log.pcs.dropLast,q.name≠s.cur) (bb:∀ q ∈ s.log.pcs,I64 q.name) (hN:N<=700000) (hT:T<=900000000):
 Calls prog 29 #[ptr p] w fun e w'=>Jz K w pd p (Z7 (s,d)) (N+2*(s.log.pcs.length+1)) T e w':=by
 obtain⟨y,am⟩:∃ y,y=w.alloc (.cells #[ptr p] 28):=⟨_,rfl⟩;have aF:Hid (Below w.heap.size w y):=ZZ (by rw[am];exact Jw _ _)
 have au:Hid (Bk 28 y w.heap.size #[ptr p]):=ZZ (by rw[am];exact heap_alloc_new w _)
 have aX:Hid (y.heap.size=w.heap.size+1):=ZZ (by rw[am];simp)
 have HS:=ZZ h;have HK:=ZZ hK;obtain⟨F,M,I,L,l,a,-⟩:=h;have aI:Hid (Calls prog 37 #[ptr p] y fun e w'=>e=.returned (snV (Zck L.bs))∧Below y.heap.size y w'):=ZZ (ZqT y (a.below aF.o) aL (by omega))
 obtain⟨E,ar⟩:∃ E,E=s.base.idx:=⟨_,rfl⟩
 obtain⟨kd,la,ln,lc,sh,eg,ta,tn,tc,bf⟩:∃ kd la ln lc sh eg ta tn tc,snV (Zck L.bs)=.agg #[.int .i64 E,.int .i64 kd,.slice la ln lc,.bool sh,.int .i64 eg,.slice ta tn tc]:=by
  have hl:L.bs.length≠0:=by rw[<-length_map (f:=Prod.fst),a.bsEq];exact aL
  obtain⟨la,ln,lc,ta,tn,tc,e1,e2⟩:=(a.base _ (Ziv hl)).shape;refine⟨(Zck L.bs).1.st.kind,la,ln,lc,(Zck L.bs).1.st.shut,(Zck L.bs).1.st.eng,ta,tn,tc,?_⟩;unfold snV snC;rw[e1,e2,ar,<-Zky a.bsEq]
 rw[bf] at aI;obtain⟨pa,pc,ay⟩:=Z8 a.pcs
 have ah:Hid (∀ W,Below y.heap.size y W->W.cell? ⟨w.heap.size,0,none⟩=some (ptr p)∧W.cell? ⟨p,3,none⟩=some (.slice pa s.log.pcs.length pc)∧W.cell? ⟨p,12,none⟩=some (.int .i64 s.cur)∧
  ∀ j,j<s.log.pcs.length->∃ g,pa=some ⟨g,0,none⟩∧W.cell? ⟨g,j*3,none⟩=some (.int .i64 (s.log.pcs.getD j Zj).name)∧W.cell? ⟨g,j*3+1,none⟩=some (.int .i64 (s.log.pcs.getD j Zj).first)∧W.cell? ⟨g,j*3+2,none⟩=some (.int .i64 (s.log.pcs.getD j Zj).stop)):=ZZ (fun W hW=>by
  have hr:=((au.o.keep (hW.block _ au.o.lt)).cell 0 rfl).1;have u:=(a.below aF.o).below hW;obtain⟨-,-,-,c3,-,-,-,aA,-⟩:=u.cs;refine⟨hr,by rw[<-ay];exact c3,aA,fun j hj=>?_⟩
  obtain⟨g,cap,hv,d0,V,d2⟩:=Zzi u.pcs j hj;have aw:L.pv=.slice (some ⟨g,0,none⟩) s.log.pcs.length cap:=hv;rw[ay] at aw
  injection aw with aw
  exact⟨g,aw,d0,V,d2⟩)
 obtain⟨P,hP⟩:∃ P,P=s.log.pcs:=⟨_,rfl⟩;obtain⟨cu,aK⟩:∃ cu,cu=s.cur:=⟨_,rfl⟩;obtain⟨A,aN⟩:∃ A,A=Zex s:=⟨_,rfl⟩;have bh:Hid (∀ q,A q=(decide (q.stop<=E) && decide (q.name≠cu))):=ZZ (fun q=>by rw[aN,ar,aK];rfl)
 rw[<-hP,<-aK] at ah;have Z:Hid (P.length<=100000):=ZZ (by rw[hP];exact aY)
 have al:Hid (P.filter (fun q=>!gp q)=Gg s∧P.filter A=s.log.pcs.filter (Zex s)):=ZZ (by rw[hP,aN];exact⟨rfl,rfl⟩)
 have aZ:Hid (OkS s∧s.log.recs.length<=1000000∧(s.log.first<=s.base.idx∧s.base.idx<=s.next)∧(∀ q ∈ s.log.pcs.dropLast,q.name≠s.cur)∧(∀ q ∈ s.log.pcs,I64 q.name)):=ZZ ⟨a0,aS,hf,a7,bb⟩;have a6:=ZZ ar;have bo:=ZZ hP;have bA:(P.length:Int)<=100000:=by have:=Z.o;omega
 rw[<-hP] at ay;have bz:∀ W:World,(Instr.field 41 (.agg #[.int .i64 E,.int .i64 kd,.slice la ln lc,.bool sh,.int .i64 eg,.slice ta tn tc]) 0).run prog W=.ok (.int .i64 E) W:=fun _=>by kernel_rfl
 clear l a ay hP aK aN ar bf a0 aS hf a7 bb aY aL bq hK
 go_enter func29,ntmps29
 go_upto_region 1 with fail
 rw[<-am];obtain⟨r0,-⟩:=ah.o y (Below.refl _ _);clear am
 go_wp2_with fail
 refine aI.o.mono ?_;rintro e W1 ⟨rfl,aD⟩;have ab:=ZZ aD;obtain⟨r1,c3,-,-⟩:=ah.o W1 aD;clear aD aI r0;go_wp2
 go_loopw[4,5,18] (fun vs vl vi wr=>∃ (i:Nat) (b:List Nat) (G:Option Addr) (J O:Nat) (D:Option Addr) (C B:Nat),vi=.int .i64 (i:Int)∧i<=P.length∧vs=.slice G J O∧vl=.slice D C B∧Hid (ZdZ W1 w.heap.size ((P.take i).filter A) ((P.take i).filter fun q=>!gp q) b (.slice G J O) (.slice D C B) wr)) (fun _ _ vi _=>P.length-(intOf vi).toNat)
 case atStart=>exact⟨0,[],none,0,0,none,0,0,rfl,Nat.zero_le _,rfl,rfl,ZZ (ZdZ.start W1 w.heap.size)⟩
 case round=>
  clear r1 c3;obtain⟨i,b,G,J,O,D,C,B,rfl,hi,rfl,rfl,m⟩:=hrel;have aM:Hid (Below y.heap.size y wr):=ZZ (ab.o.trans (m.o.old.mono ab.o.size));obtain⟨r1,c3,aA,aE⟩:=ah.o wr aM.o;by_cases aj:i<P.length
  case neg=>
   obtain rfl:i=P.length:=by omega
   rw[List.take_length] at m;obtain⟨gone,ai⟩:∃ gone,gone=P.filter A:=⟨_,rfl⟩;obtain⟨left,af⟩:∃ left,left=P.filter fun q=>!gp q:=⟨_,rfl⟩
   rw[<-ai,<-af] at m;rw[<-ai,<-af] at al;have a8:=ZZ m.o.row
   have aH:Hid ((b.map (ZjC w.heap.size)).length<=10000000):=ZZ (by
    rw[length_map,m.o.len,ai]
    exact Nat.le_trans (length_filter_le _ _) (by have:=Z.o;omega))
   have aC:Hid (gone.length<=P.length∧left.length<=P.length):=ZZ (by rw[ai,af];exact⟨length_filter_le _ _,length_filter_le _ _⟩)
   have bc:Hid (∀ v' W',W'.ownsRow 0 153 1 v' (b.map (ZjC w.heap.size)++[(⟨64,#[ptr p],#[]⟩:Stp)]).length (Za (b.map (ZjC w.heap.size)++[(⟨64,#[ptr p],#[]⟩:Stp)]))->(wr.alloc (.cells #[(⟨64,#[ptr p],#[]⟩:Stp).val] 153)).grownBy W' (Value.slice G J O).ownBlock->(v'.ownBlock=(Value.slice G J O).ownBlock∨v'.ownBlock=some (wr.heap.size+1))->
    ∃ g cap,v'=.slice (some ⟨g,0,none⟩) (b.length+1) cap∧Below w.heap.size w W'∧W'.ownsRow 0 108 3 (.slice D C B) left.length (Q6 left)∧Bk 28 W' w.heap.size #[ptr p]∧
    Calls prog 62 #[.slice (some ⟨g,0,none⟩) (b.length+1) cap] W' fun e w'=>Ztk (fun k=>K k∨(w.heap.size<=k∧k<W'.heap.size)) (fun k=>K k∨(w.heap.size<=k∧k<W'.heap.size)) pd p (Qv (ZfC s++[Qq]) (s,d)) (N+2*(b.length+1)) T (fun _ _=>True) W' e w'):=ZZ (fun v' W' l a u=>by
    obtain⟨q1,q2,q3,q4⟩:=m.o.last l a u;have aQ:(b.map (ZjC w.heap.size)++[(⟨64,#[ptr p],#[]⟩:Stp)]).length=b.length+1:=by rw[List.length_append,length_map];rfl
    obtain⟨g,cap,cs,e1,e2,e3,e4⟩:=ZAv l (by rw[aQ];omega) (⟨0,#[],#[]⟩:Stp)
    rw[aQ] at e1 e4;have bw:=aX.o;have a5:=ab.o.size;have aa:Below w.heap.size w W':=aF.o.trans ((ab.o.trans (q1.mono a5)).mono (by omega))
    have ag:Bk 28 W' w.heap.size #[ptr p]:=au.o.keep ((ab.o.trans (q1.mono a5)).block _ au.o.lt);refine⟨g,cap,e1,aa,q2,ag,?_⟩;rw[Zmj,<-al.o.2]
    exact ZvP (gone:=gone) W' (HS.o.fresh aa) (fun k hk=>by
     rcases hk with hk | hk
     ·have:=HK.o k hk;have:=aa.size;omega
     ·exact hk.2) (.inr ⟨by have:=q4 g e3;omega,e2.lt⟩) (.inr ⟨Nat.le_refl _,ag.lt⟩) (fun j hj=>⟨.inr ⟨by have:=(q3 j hj).1;omega,(q3 j hj).2.lt⟩,(q3 j hj).2⟩) m.o.len ag cs e2 e4 (fun q hq=>aZ.o.2.2.2.2 q (by
     rw[al.o.2] at hq
     exact(List.mem_filter.1 hq).1)) (by have:=aC.o.1;have:=Z.o;omega) hN hT)
   clear ai af aE c3 aA
   go_wp2_with(at_builtin;refine(fun(h:True->_)=>h trivial) ?_)
   intro _;refine Zcv wr rfl _ _ rfl (.slice G J O) (b.map (ZjC w.heap.size)) rfl a8.o ⟨64,#[ptr p],#[]⟩ rfl aH.o ?_;intro v9 W9 l a u;obtain⟨g9,br,rfl,aa,aJ,ag,aO⟩:=bc.o v9 W9 l a u;obtain⟨R,ao⟩:∃ R,R=Qv (ZfC s++[Qq]) (s,d):=⟨_,rfl⟩;rw[<-ao] at aO;have bp:=ZZ aa;have bj:=ZZ aJ;have aP:=ZZ ag;have aT:=ZZ aO;have ap:Hid (Z7 (s,d)=if R.2=0 then(({ R.1.1 with log:=s.log.letGo (Gg s) s.base.idx },R.1.2),0) else R):=ZZ (by rw[ao];rfl)
   have ba:Hid (R.1.1.log=s.log):=ZZ (by rw[ao,Zmj];exact ZeZ s d _)
   have a4:Hid (b.length<=s.log.pcs.length):=ZZ (by rw[m.o.len,<-bo.o];exact aC.o.1)
   have an:Hid (∀ k,(Value.slice D C B).ownBlock=some k->w.heap.size<=k∧k<W9.heap.size):=ZZ (fun k hk=>⟨by have:=m.o.lfar k hk;have:=ab.o.size;have:=aX.o;omega,(World.ownsRow.lt aJ k hk).2⟩)
   clear l a u aa aJ ag aO ao bc a8 m
   go_wp2_with fail
   refine aT.o.mono ?_;rintro e ak ⟨rfl,Kd,m1,m2,m3,m4,-⟩;have aU:=aP.o.keep (m3.block _ aP.o.lt (fun hh=>hh (.inr ⟨Nat.le_refl _,aP.o.lt⟩)))
   obtain⟨bu,-⟩:=aU.cell 0 rfl;have az:=ZZ (And.intro m1 m2);have a3:Hid (Ql (fun k=>¬ K k) w ak):=ZZ ((Ql.ofBelow bp.o).trans (m3.mono (fun k hk hn=>hk (.inl hn))) (fun _ _ h=>h))
   have aV:=ZZ m4;have bm:Hid (ak.ownsRow 0 108 3 (.slice D C B) left.length (Q6 left)):=ZZ (Qh bj.o fun g hg=>m3.block g (an.o g hg).2 (fun hh=>hh (.inr (an.o g hg))))
   clear m1 m2 m3 m4 aU aT;obtain⟨⟨s1,V⟩,c⟩:=R;by_cases hc:c=0
   case neg=>
    have aG:Hid (Jz K w pd p (Z7 (s,d)) (N+2*(s.log.pcs.length+1)) T (.returned (.int .i64 c)) ak):=ZZ (by
     rw[ap.o,if_neg hc]
     exact⟨rfl,(aV.o.less (fun k hk=>az.o.1 k (.inl hk))).mono (by have:=a4.o;omega) zL,a3.o⟩)
    have bC:(c != 0)=true:=by rw[bne_iff_ne];exact hc
    clear hc ap;go_wp2;go_ret;exact aG.o
   subst hc;rw[if_pos rfl] at ap
   have bd:Hid (Calls prog 70 #[.pointer (some ⟨p,1,none⟩),.slice D C B,.int .i64 E] ak fun e w'=>e=.returned (.tuple #[])∧SD K w' pd p { s1 with log:=s1.log.letGo left E } V (N+2*(b.length+1)) T∧Ql (fun k=>¬ K k) ak w'):=ZZ (by
    have U:s1.log=s.log:=ba.o;obtain⟨g1,g2,g3,g4,g5⟩:=aZ.o;obtain⟨q1,q2,q3,q4⟩:=g1.log.letGo (cur:=s.cur) (base:=s.base.idx) g4 g3.1 g3.2;have af:s.log.pcs.filter (fun p=>!(decide (p.stop<=s.base.idx) && decide (p.name≠s.cur)))=left:=al.o.1.symm
    rw[af] at q2 q3 q4;have bg:s.log.first<=Zg left s.base.idx:=q4;have bv:s.log.next=s.log.first+s.log.recs.length:=rfl;have bB:Zg left s.base.idx+((s.log.recs.drop (Zg left s.base.idx-s.log.first).toNat).length:Nat)=s.log.next:=q3;have h0:=g1.log.f0;have ht:=g1.log.top;rw[a6.o]
    exact aV.o.letGo (fun k hk=>az.o.1 k (.inl hk)) az.o.2 _ left s.base.idx bm.o (fun k hk=>⟨az.o.1 k (.inr (an.o k hk)),fun hh=>by have:=HK.o k hh;have:=(an.o k hk).1;omega⟩) (by have:=aC.o.2;have:=Z.o;omega) (by rw[U];exact g2) (by rw[U];exact g1.log.recOk) (by rw[U];exact bg) (by rw[U];omega) (by rw[U];exact h0) (by rw[U];omega))
   go_wp2_with fail
   refine bd.o.mono ?_;rintro e bn ⟨rfl,aB,aW⟩
   have aG:Hid (Jz K w pd p (Z7 (s,d)) (N+2*(s.log.pcs.length+1)) T (.returned (.int .i64 0)) bn):=ZZ (by
    rw[ap.o];have U:s1.log=s.log:=ba.o;rw[U,al.o.1,a6.o] at aB
    exact⟨rfl,aB.mono (by have:=a4.o;omega) zL,a3.o.trans aW (fun _ _ h=>h)⟩)
   clear aB aW bd;go_wp2;go_ret;exact aG.o
  obtain⟨g,bl,d0,V,d2⟩:=aE i aj;subst bl;have X:=ZZ (Zgw A P i aj);have Y:=ZZ (Zgw (fun q=>!gp q) P i aj)
  obtain⟨q,hq⟩:∃ q,q=P.getD i Zj:=⟨_,rfl⟩;rw[<-hq] at d0 V d2 X Y;obtain⟨t,x,v⟩:=q
  dsimp only at d0 V d2
  have HG:=ZZ (bh.o ⟨t,x,v⟩);have ac:=ZZ aj;have bE:Hid (i<P.length):=ZZ aj;clear aE hq
  go_upto_region 7 with fail
  obtain⟨H,av⟩:∃ H,H=wr.alloc (.cells #[.int .i64 t,.int .i64 x,.int .i64 v] 108):=⟨_,rfl⟩;rw[<-av];have aR:Hid (Below wr.heap.size wr H):=ZZ (by rw[av];exact Jw _ _)
  have aq:Hid (Bk 108 H wr.heap.size (pcC ⟨t,x,v⟩)):=ZZ (by rw[av];exact heap_alloc_new wr _)
  have p0:H.cell? ⟨wr.heap.size,0,none⟩=some (.int .i64 t):=(aq.o.cell 0 rfl).1;have p1:H.cell? ⟨wr.heap.size,1,none⟩=some (.int .i64 x):=(aq.o.cell 1 rfl).1;have p2:H.cell? ⟨wr.heap.size,2,none⟩=some (.int .i64 v):=(aq.o.cell 2 rfl).1;obtain⟨r2,-,bD,-⟩:=ah.o H (aM.o.trans (aR.o.mono aM.o.size));clear av r1 c3 aA d0 V d2;have ad:Hid (∀ n,Below wr.heap.size wr (H.drewN n)):=ZZ (fun n=>Xo aR.o n)
  have be:Hid (((P.take i).filter fun q=>!gp q).length<=10000000):=ZZ (Nat.le_trans (length_filter_le _ _) (by rw[List.length_take];have:=Z.o;omega))
  have aH:Hid ((b.map (ZjC w.heap.size)).length<=10000000):=ZZ (by
   rw[length_map,m.o.len]
   exact Nat.le_trans (length_filter_le _ _) (by rw[List.length_take];have:=Z.o;omega))
  by_cases ax:v<=E
  ·by_cases ae:t=cu
   ·have z:A ⟨t,x,v⟩=false:=by rw[HG.o];simp[ae]
    have bk:(t != cu)=false:=by rw[bne_eq_false_iff_eq];exact ae
    rw[z,if_neg (by decide),append_nil] at X
    rw[z,if_pos (by decide)] at Y
    clear ae z
    go_quiet(fail)
    go_wp2_with(at_builtin;refine(fun(h:True->_)=>h trivial) ?_)
    intro _;refine Zaa _ rfl _ _ rfl (.slice D C B) ((P.take i).filter fun q=>!gp q) rfl (m.o.below (ad.o _)).lrow (⟨t,x,v⟩:Pce) rfl be.o ?_
    intro v9 W9 l a u;have Q:=ZZ (m.o.leave ⟨t,x,v⟩ (ad.o _) l a u);rw[<-Y.o] at Q;obtain⟨a9,c9,S⟩:=Z8 l;generalize (((P.take i).filter fun q=>!gp q)++[(⟨t,x,v⟩:Pce)]).length=n9 at S
    subst S;clear l a u;go_wp2;go_roundw
    case rel=>exact⟨i+1,b,G,J,O,a9,n9,c9,by go_num,by have:=ac.o;omega,rfl,rfl,by rw[X.o];exact Q⟩
    case measure=>have:=ac.o;simp[intOf];omega
   ·have z:A ⟨t,x,v⟩=true:=by rw[HG.o];simp[ae,ax]
    have bk:(t != cu)=true:=by rw[bne_iff_ne];exact ae
    rw[z,if_pos rfl] at X;rw[z,if_neg (by decide),append_nil] at Y
    clear ae z
    go_quiet(fail)
    go_wp2_with(at_builtin;refine(fun(h:True->_)=>h trivial) ?_)
    intro _;refine Zcv _ rfl _ _ rfl (.slice G J O) (b.map (ZjC w.heap.size)) rfl (m.o.below (ad.o _)).row (ZjC w.heap.size wr.heap.size) rfl aH.o ?_;intro v9 W9 l a u;have Q:=ZZ (m.o.step ⟨t,x,v⟩ (ad.o _) (aq.o.keep (by rw[World.heap_drewN])) l a u)
    rw[<-X.o] at Q;obtain⟨a9,c9,S⟩:=Z8 l;generalize (b.map (ZjC w.heap.size)++[ZjC w.heap.size wr.heap.size]).length=n9 at S;subst S;clear l a u;go_wp2;go_roundw
    case rel=>exact⟨i+1,b++[wr.heap.size],a9,n9,c9,D,C,B,by go_num,by have:=ac.o;omega,rfl,rfl,by rw[Y.o];exact Q⟩
    case measure=>have:=ac.o;simp[intOf];omega
  ·have z:A ⟨t,x,v⟩=false:=by rw[HG.o];simp[ax]
   have bt:decide (v<=E)=false:=decide_eq_false ax;rw[z,if_neg (by decide),append_nil] at X
   rw[z,if_pos (by decide)] at Y
   clear ax z
   go_quiet(fail)
   go_wp2_with(at_builtin;refine(fun(h:True->_)=>h trivial) ?_)
   intro _;refine Zaa _ rfl _ _ rfl (.slice D C B) ((P.take i).filter fun q=>!gp q) rfl (m.o.below (ad.o _)).lrow (⟨t,x,v⟩:Pce) rfl be.o ?_
   intro v9 W9 l a u;have Q:=ZZ (m.o.leave ⟨t,x,v⟩ (ad.o _) l a u);rw[<-Y.o] at Q;obtain⟨a9,c9,S⟩:=Z8 l;generalize (((P.take i).filter fun q=>!gp q)++[(⟨t,x,v⟩:Pce)]).length=n9 at S
   subst S;clear l a u;go_wp2;go_roundw
   case rel=>exact⟨i+1,b,G,J,O,a9,n9,c9,by go_num,by have:=ac.o;omega,rfl,rfl,by rw[X.o];exact Q⟩
   case measure=>have:=ac.o;simp[intOf];omega
def Zcw:List (SDk->SDk × Int):=[Q5,ZcG,Yy,ZbN,Xm (fun d=>X3 d 1),Gs,Qq]
theorem Zgx (x:SDk):(Qq x).1.1.now=x.1.now∧(Qq x).1.1.bases=x.1.bases∧(Qq x).1.1.log=x.1.log:=by
 unfold Qq;split <;> exact⟨rfl,rfl,rfl⟩
theorem Zjb (x:SDk):(Q5 x).1.1.now=x.1.now∧(Q5 x).1.1.bases=x.1.bases∧(Q5 x).1.1.log=x.1.log:=by
 unfold Q5;split
 ·exact⟨rfl,rfl,rfl⟩
 ·have h:=ZlN x
  split
  ·rcases h with h | h
   ·show(Ye (Qv [Q1,Qx] x).1.1).now=_∧_
    rw[h];exact⟨rfl,rfl,rfl⟩
   ·show(Ye (Qv [Q1,Qx] x).1.1).now=_∧_
    rw[h];exact⟨rfl,rfl,rfl⟩
  ·rcases h with h | h
   ·rw[h];exact⟨rfl,rfl,rfl⟩
   ·rw[h];exact⟨rfl,rfl,rfl⟩
theorem ZkL (x:SDk):(Yy x).1.1.now=x.1.now∧(Yy x).1.1.bases=x.1.bases∧(Yy x).1.1.log=x.1.log:=by
 unfold Yy;split <;> exact⟨rfl,rfl,rfl⟩
theorem ZvQ (i:Nat) (x:SDk):(Zcw.getD i ZdY x).1.1.now=x.1.now∧(Zcw.getD i ZdY x).1.1.bases=x.1.bases∧(Zcw.getD i ZdY x).1.1.log=x.1.log:=by
 match i with
 | 0=>exact Zjb x
 | 1=>exact⟨rfl,rfl,rfl⟩
 | 2=>exact ZkL x
 | 3=>exact⟨rfl,rfl,rfl⟩
 | 4=>exact⟨rfl,rfl,rfl⟩
 | 5=>exact⟨rfl,rfl,rfl⟩
 | 6=>exact Zgx x
 | n+7=>exact⟨rfl,rfl,rfl⟩
theorem ZvR {gs:List (SDk->SDk × Int)} (h:∀ g ∈ gs,∀ x,(g x).1.1.now=x.1.now∧(g x).1.1.bases=x.1.bases∧(g x).1.1.log=x.1.log):∀ x,(Qv gs x).1.1.now=x.1.now∧(Qv gs x).1.1.bases=x.1.bases∧(Qv gs x).1.1.log=x.1.log:=by
 induction gs with
 | nil=>exact fun x=>⟨rfl,rfl,rfl⟩
 | cons g gs f=>
  intro x;have a:=h g List.mem_cons_self x;unfold Qv;split
  ·obtain⟨d,c,e⟩:=f (fun g' b=>h g' (List.mem_cons_of_mem _ b)) (g x).1
   exact⟨d.trans a.1,c.trans a.2.1,e.trans a.2.2⟩
  ·exact a
theorem ZkM:∀ g ∈ Zcw,∀ x,(g x).1.1.now=x.1.now∧(g x).1.1.bases=x.1.bases∧(g x).1.1.log=x.1.log:=by
 intro g a x;obtain⟨i,b,rfl⟩:=List.mem_iff_getElem.1 a;have:=ZvQ i x
 rwa [show Zcw.getD i ZdY=Zcw[i] by simp[List.getD,b]] at this
theorem ZvS (i:Nat) (x:SDk):(Qv (Zcw.take i) x).1.1.now=x.1.now∧(Qv (Zcw.take i) x).1.1.bases=x.1.bases∧(Qv (Zcw.take i) x).1.1.log=x.1.log:=ZvR (fun g a=>ZkM g (List.mem_of_mem_take a)) x
theorem Zfa (x:SDk):(J5 x).1.1.now=x.1.now∧(J5 x).1.1.bases=x.1.bases∧(J5 x).1.1.log=x.1.log:=ZvR ZkM x
def Zfb (p R Rb:Nat) (i:Nat):Stp:=
 match i with
 | 0=>⟨27,#[ptr p],#[]⟩
 | 1=>⟨55,#[],#[.pointer (some ⟨R,0,none⟩),.pointer (some ⟨Rb,0,none⟩)]⟩
 | 2=>⟨63,#[ptr p],#[]⟩
 | 3=>⟨57,#[],#[.pointer (some ⟨R,0,none⟩),.pointer (some ⟨Rb,0,none⟩)]⟩
 | 4=>⟨58,#[],#[.pointer (some ⟨R,0,none⟩)]⟩
 | 5=>⟨60,#[],#[.pointer (some ⟨R,0,none⟩)]⟩
 | _=>⟨64,#[ptr p],#[]⟩
def ZzT (p R Rb:Nat):Array Value:=#[(Zfb p R Rb 0).val,(Zfb p R Rb 1).val,(Zfb p R Rb 2).val,(Zfb p R Rb 3).val,(Zfb p R Rb 4).val,(Zfb p R Rb 5).val,(Zfb p R Rb 6).val]
def XC (R Rb p:Nat) (n:Q0) (i:Nat) (K:Nat->Prop) (W:World):Prop:=
 ∃ v,Bk 53 W Rb #[v]∧K Rb∧K R∧Bk 28 W R #[ptr p]∧(2<=i->Rd W v (Gb n)∧(Gb n=[]∨∀ k,v.ownBlock=some k->K k))
theorem XC.keep {j:Nat} {W':World} (h:XC R Rb p n i K W) (b:2<=j->2<=i) (d:Ql (fun k=>¬ K k) W W'):XC R Rb p n j K W':=by
 obtain⟨v,m,f,g,l,e⟩:=h;exact⟨v,m.keep (d.block _ m.lt (fun a=>a f)),f,g,l.keep (d.block _ l.lt (fun a=>a g)),fun c=>⟨(e (b c)).1.keepK (e (b c)).2 d,(e (b c)).2⟩⟩
theorem XC.cell (h:XC R Rb p n i K W):W.cell? ⟨R,0,none⟩=some (ptr p):=by
 obtain⟨v,d,b,c,a,e⟩:=h;exact(a.cell 0 rfl).1
theorem ZxJ {K0 K2:Nat->Prop} {Y:Nat} (w:World) (S:K0 Y) (Q:∀ k,K0 k->K2 k) (J:¬ K0 Rb) (C:Bk 153 w Y (ZzT p R Rb)) (M:∀ k,K2 k->k<w.heap.size) (E:SD K2 w pd p s d N T) (H:XC R Rb p s.now 0 K2 w) (u:ZpE s) (Z:N<=900000) (hT:T<=90000000):
 Calls prog 62 #[.slice (some ⟨Y,0,none⟩) 7 7] w fun e w'=>Ztk K0 K2 pd p (J5 (s,d)) (N+28) (T+560000) (fun _ _=>True) w e w':=by
 refine ZvO (K0:=K0) (K2:=K2) Y 7 (Zfb p R Rb) Zcw (s,d) N T 4 80000 w (XC R Rb p s.now) (by decide) S (ZzT p R Rb) C ?_ M E H ?_ ?_
 ·intro i n
  match i,n with
  | 0,_=>rfl
  | 1,_=>rfl
  | 2,_=>rfl
  | 3,_=>rfl
  | 4,_=>rfl
  | 5,_=>rfl
  | 6,_=>rfl
 ·intro i n g W V b X U f a
  have l:∀ k,K0 k->g k:=fun k hk=>V k (Q k hk)
  have m:=(ZvS i (s,d)).1;have A:i=0->ZpE (Qv (Zcw.take i) (s,d)).1.1:=fun e=>by rw[e];exact u
  generalize (Qv (Zcw.take i) (s,d)).1=y at f m A ⊢;obtain⟨s',d'⟩:=y
  dsimp only at f m A
  generalize s.now=nn at m a ⊢;clear U E H C u;have O:i=0∨i=1∨i=2∨i=3∨i=4∨i=5∨i=6:=by have:i<7:=n;omega
  rcases O with rfl | rfl | rfl | rfl | rfl | rfl | rfl
  ·show Calls prog 27 #[ptr p] W fun e w'=>Ztk K0 g pd p (Q5 (s',d')) _ _ _ W e w'
   refine Calls.mono (ZeO W f b (A rfl)) ?_;intro e w' h;exact h.seqD b l (by omega) (by omega) fun c=>a.keep (by omega) c
  ·show Calls prog 55 #[.pointer (some ⟨R,0,none⟩),.pointer (some ⟨Rb,0,none⟩)] W fun e w'=>Ztk K0 g pd p (ZcG (s',d')) _ _ _ W e w'
   obtain⟨v,q,t,x,j,B⟩:=id a;refine Calls.mono (Zqe (R:=R) (Rb:=Rb) W f a.cell q t) ?_;rintro e w' ⟨rfl,v',L,G,P,I,z⟩;rw[m] at G
   have K:R≠Rb:=fun e=>by
    rw[e] at j;exact j.ne q (by decide) rfl
   refine⟨rfl,_,fun k hk=>.inl hk,fun k hk=>?_,z.mono (fun k hk u=>J (by rw[<-hk];exact u)),I.mono (by omega) (by omega),fun _=>⟨v',L,.inl t,.inl x,j.keep (z.block _ j.lt K),fun _=>⟨G,.inr fun k hk=>.inr (P k hk)⟩⟩⟩
   rcases hk with hk | hk
   ·exact Nat.lt_of_lt_of_le (b k hk) z.size
   ·exact hk.2
  ·show Calls prog 63 #[ptr p] W fun e w'=>Ztk K0 g pd p (Yy (s',d')) _ _ _ W e w'
   refine Calls.mono (ZsI W f b (by omega) (by omega)) ?_
   intro e w' h;exact h.seqD b l (by omega) (by omega) fun c=>a.keep (by omega) c
  ·show Calls prog 57 #[.pointer (some ⟨R,0,none⟩),.pointer (some ⟨Rb,0,none⟩)] W fun e w'=>Ztk K0 g pd p (ZbN (s',d')) _ _ _ W e w'
   obtain⟨v,q,t,x,j,B⟩:=id a;obtain⟨F,D⟩:=B (by decide)
   rw[<-m] at F D;refine Calls.mono (Ztm (R:=R) (Rb:=Rb) W f b a.cell q F D (by omega) (by omega)) ?_
   intro e w' h;exact h.seqD b l (by omega) (by omega) fun c=>a.keep (by omega) c
  ·show Calls prog 58 #[.pointer (some ⟨R,0,none⟩)] W fun e w'=>Ztk K0 g pd p (Xm (fun d=>X3 d 1) (s',d')) _ _ _ W e w'
   refine Calls.mono (ZpK (R:=R) W f b a.cell) ?_;intro e w' h;exact h.seqD b l (by omega) (by omega) fun c=>a.keep (by omega) c
  ·show Calls prog 60 #[.pointer (some ⟨R,0,none⟩)] W fun e w'=>Ztk K0 g pd p (Gs (s',d')) _ _ _ W e w'
   obtain⟨v,q,t,x,j,B⟩:=id a;refine Calls.mono (ZpL (R:=R) W f b a.cell x (by omega) (by omega)) ?_
   intro e w' h;exact h.seqD b l (by omega) (by omega) fun c=>a.keep (by omega) c
  ·show Calls prog 64 #[ptr p] W fun e w'=>Ztk K0 g pd p (Qq (s',d')) _ _ _ W e w'
   refine Calls.mono (ZcM W f b) ?_;intro e w' h;exact h.seqD b l (by omega) (by omega) fun c=>a.keep (by omega) c
 ·intro i n
  match i,n with
  | 0,_=>exact enters_of func27 (by kernel_rfl) rfl
  | 1,_=>exact enters_of func55 (by kernel_rfl) rfl
  | 2,_=>exact enters_of func63 (by kernel_rfl) rfl
  | 3,_=>exact enters_of func57 (by kernel_rfl) rfl
  | 4,_=>exact enters_of func58 (by kernel_rfl) rfl
  | 5,_=>exact enters_of func60 (by kernel_rfl) rfl
  | 6,_=>exact enters_of func64 (by kernel_rfl) rfl
def ZxK (w:World) (s:St) (e:Ending) (w':World):Prop:=∃ vl,e=.returned (.agg #[.int .i64 s.kind,vl,.bool s.shut,.int .i64 s.eng])∧RdI w' vl s.L∧I64 s.kind∧I64 s.eng∧(∀ b,vl.ownBlock=some b->w.heap.size<=b)∧Below w.heap.size w w'
theorem ZkN (kind:Int) (w:World):Calls prog 16 #[.int .i64 kind] w fun e w'=>ZxK w (J9 kind) e w':=by
 have m:I64 0:=Qo (by decide) (by decide)
 have i:Hid (∀ x,Below w.heap.size w (w.alloc x)):=fun x=>(Below.refl _ _).alloc zL x
 have l:Hid (∀ x y,Below w.heap.size w ((w.alloc x).alloc y)):=fun x y=>(i.o x).alloc (by simp) y
 have c:=Qc m;clear m;by_cases f:kind<0∨6<=kind
 ·have d:Hid (J9 kind=⟨0,[],false,0⟩):=if_pos f
  rw[d.o];have t:(kind == 0)=false:=beq_eq_false_iff_ne.2 (by omega)
  have B:(kind == 1)=false:=beq_eq_false_iff_ne.2 (by omega)
  have A:(kind == 2)=false:=beq_eq_false_iff_ne.2 (by omega)
  have q:(kind == 3)=false:=beq_eq_false_iff_ne.2 (by omega)
  have z:(kind == 4)=false:=beq_eq_false_iff_ne.2 (by omega)
  have u:(kind == 5)=false:=beq_eq_false_iff_ne.2 (by omega)
  clear f d
  go_enter func16,ntmps16
  go_wp2;refine bodyPost_ret (v:=.agg #[.int .i64 0,.slice none 0 0,.bool false,.int .i64 0]) (by simp[results,Tryz.results16,go_sem]) rfl ?_
  exact⟨_,rfl,RdI.nil _,c.out,c.out,(fun b a=>by cases a),i.o _⟩
 ·have g:Hid (I64 kind):=Qo (by omega) (by omega)
  by_cases j:kind<=1
  ·have d:Hid (J9 kind=⟨kind,[0],false,0⟩):=by
    unfold J9;rw[if_neg f,if_pos j];exact rfl
   rw[d.o];have k:kind=0∨kind=1:=by omega
   clear f j d
   have n:Hid (∀ x,RdI ((w.alloc x).alloc (.cells #[.int .i64 0] 3)) (.slice (some ⟨w.heap.size+1,0,none⟩) 1 1) [0]):=fun x=>by
    have h:=RdI.one (w.alloc x) 0 c.out;have e:(w.alloc x).heap.size=w.heap.size+1:=by simp
    rwa [e] at h
   rcases k with rfl | rfl
   ·go_enter func16,ntmps16
    go_wp2;refine bodyPost_ret (v:=.agg #[.int .i64 0,.slice (some ⟨w.heap.size+1,0,none⟩) 1 1,.bool false,.int .i64 0]) (by simp[results,Tryz.results16,go_sem]) rfl ?_
    exact⟨_,rfl,n.o _,g.o,c.out,(fun b a=>by have p:w.heap.size+1=b:=Option.some.inj a;omega),l.o _ _⟩
   ·go_enter func16,ntmps16
    go_wp2;refine bodyPost_ret (v:=.agg #[.int .i64 1,.slice (some ⟨w.heap.size+1,0,none⟩) 1 1,.bool false,.int .i64 0]) (by simp[results,Tryz.results16,go_sem]) rfl ?_
    exact⟨_,rfl,n.o _,g.o,c.out,(fun b a=>by have p:w.heap.size+1=b:=Option.some.inj a;omega),l.o _ _⟩
  ·have d:Hid (J9 kind=⟨kind,[],false,0⟩):=by
    unfold J9;rw[if_neg f,if_neg j];exact rfl
   rw[d.o];have k:kind=2∨kind=3∨kind=4∨kind=5:=by omega
   clear f j d;rcases k with rfl | rfl | rfl | rfl
   ·go_enter func16,ntmps16
    go_wp2;refine bodyPost_ret (v:=.agg #[.int .i64 2,.slice none 0 0,.bool false,.int .i64 0]) (by simp[results,Tryz.results16,go_sem]) rfl ?_
    exact⟨_,rfl,RdI.nil _,g.o,c.out,(fun b a=>by cases a),i.o _⟩
   ·go_enter func16,ntmps16
    go_wp2;refine bodyPost_ret (v:=.agg #[.int .i64 3,.slice none 0 0,.bool false,.int .i64 0]) (by simp[results,Tryz.results16,go_sem]) rfl ?_
    exact⟨_,rfl,RdI.nil _,g.o,c.out,(fun b a=>by cases a),i.o _⟩
   ·go_enter func16,ntmps16
    go_wp2;refine bodyPost_ret (v:=.agg #[.int .i64 4,.slice none 0 0,.bool false,.int .i64 0]) (by simp[results,Tryz.results16,go_sem]) rfl ?_
    exact⟨_,rfl,RdI.nil _,g.o,c.out,(fun b a=>by cases a),i.o _⟩
   ·go_enter func16,ntmps16
    go_wp2;refine bodyPost_ret (v:=.agg #[.int .i64 5,.slice none 0 0,.bool false,.int .i64 0]) (by simp[results,Tryz.results16,go_sem]) rfl ?_
    exact⟨_,rfl,RdI.nil _,g.o,c.out,(fun b a=>by cases a),i.o _⟩
structure Gt (w:World) (I:Nat->Prop) (v:Value) (l:List Int) (bv:Value) (bs:List (Q0 × Value × Value)) (wr:World):Prop where
 row:wr.ownsRow 0 41 6 bv bs.length (Xv bs)
 far:∀ k,bv.ownBlock=some k->w.heap.size<=k
 each:∀ x ∈ bs,SnR wr x
 ibs:∀ x ∈ bs,Zmp I x
 lo:∀ k,I k->w.heap.size<=k
 ltI:∀ k,I k->k<wr.heap.size
 dis:∀ k,I k->bv.ownBlock≠some k
 nms:Qs wr w.heap.size v l
 old:Below w.heap.size w wr
theorem Gt.ltB (h:Gt w I v l bv bs wr):∀ k,bv.ownBlock=some k->k<wr.heap.size:=fun k a=>by
 obtain⟨c,b⟩:=X0 h.row a;exact b.lt
theorem Gt.below {w':World} (h:Gt w I v l bv bs wr) (a:Below wr.heap.size wr w'):Gt w I v l bv bs w':=
 ⟨Qh h.row fun k b=>a.block k (h.ltB k b),h.far,fun x c=>(h.each x c).below a zL,h.ibs,h.lo,fun k b=>Nat.lt_of_lt_of_le (h.ltI k b) a.size,h.dis,h.nms.below a zL,h.old.trans (a.mono h.old.size)⟩
theorem Gt.add (h:Gt w I v l bv bs wr) (m:Below wr.heap.size wr W) (x:Q0 × Value × Value) (p:SnR W x)
 (j:Zmp (fun k=>wr.heap.size<=k∧k<W.heap.size) x) {f:Value} {w':World} (t:w'.ownsRow 0 41 6 f (bs++[x]).length (Xv (bs++[x]))) (i:(W.alloc (.cells (snC x) 41)).grownBy w' bv.ownBlock) (hv:f.ownBlock=bv.ownBlock∨f.ownBlock=some (W.heap.size+1)):
 Gt w (fun k=>I k∨(wr.heap.size<=k∧k<W.heap.size)) v l f (bs++[x]) w':=by
 have D:=m.size;have C:=h.old.size;have B:W.heap.size+1<=w'.heap.size:=by have:=i.size;simpa using this
 have hk:∀ k,k<W.heap.size->bv.ownBlock≠some k->w'.heap[k]?=W.heap[k]?:=fun k hk A=>by
  rw[i.block k (by simp;omega) (fun e=>A e.symm),Below.heap_alloc _ _ _ hk]
 have b:=h.below m
 have a:∀ k,(I k∨(wr.heap.size<=k∧k<W.heap.size))->k<W.heap.size∧bv.ownBlock≠some k:=fun k hk=>by
  rcases hk with hk | hk
  ·exact⟨b.ltI k hk,h.dis k hk⟩
  ·refine⟨hk.2,fun e=>?_⟩
   have:=h.ltB k e;omega
 refine⟨t,fun k hk'=>?_,fun y hy=>?_,fun y hy=>?_,fun k hk'=>?_,fun k hk'=>?_,fun k hk' e=>?_,Qh b.nms fun k hk'=>?_,b.old.trans ?_⟩
 ·rcases hv with hv | hv
  ·exact h.far k (by rw[<-hv];exact hk')
  ·rw[hv] at hk'
   have:=Option.some.inj hk';omega
 ·rcases List.mem_append.1 hy with hy | hy
  ·exact(b.each y hy).keep (h.ibs y hy) fun g d=>hk g (a g (.inl d)).1 (a g (.inl d)).2
  ·rw[List.mem_singleton.1 hy]
   exact p.keep j fun g d=>hk g (a g (.inr d)).1 (a g (.inr d)).2
 ·rcases List.mem_append.1 hy with hy | hy
  ·exact(h.ibs y hy).mono fun k hk'=>.inl hk'
  ·rw[List.mem_singleton.1 hy]
   exact j.mono fun k hk'=>.inr hk'
 ·rcases hk' with hk' | hk'
  ·exact h.lo k hk'
  ·omega
 ·have:=(a k hk').1
  omega
 ·have z:=a k hk'
  rcases hv with hv | hv
  ·exact z.2 (by rw[<-hv];exact e)
  ·rw[hv] at e
   have:=Option.some.inj e;omega
 ·obtain⟨c,n⟩:=X0 b.nms hk'
  refine hk k n.lt fun e=>?_
  obtain⟨c',u⟩:=X0 b.row e;exact(n.ne u (by decide)) rfl
 ·exact(Ql.trans (F:=fun k=>bv.ownBlock=some k) ((Ql.refl _ W).alloc _) (Ql.ofGrown (F:=fun k=>bv.ownBlock=some k) i fun k e _=>e) (fun _ _ q=>q)).below (by omega) fun k e=>h.far k e
def Zdp (d:Dk) (kind:Int) (l:List Int) (q:Nat):List Q0:=(l.take q).foldl (Js d kind) [Zn kind]
theorem ZkO (d:Dk) (kind:Int) (l:List Int) (q:Nat) (a:q<l.length):Zdp d kind l (q+1)=Js d kind (Zdp d kind l q) (l.getD q 0):=by
 unfold Zdp;rw[List.take_add_one,List.foldl_append,show l.getD q 0=l[q] by simp[List.getD,a]]
 simp[a]
theorem Zoc (d:Dk) (kind:Int) (l:List Int) (q:Nat) (a:q=l.length):Zdp d kind l q=l.foldl (Js d kind) [Zn kind]:=by
 subst a;unfold Zdp;rw[List.take_length]
theorem Zqi (d:Dk) (kind:Int) (l:List Q0) (n:Int):(Js d kind l n).length<=l.length+1:=by
 unfold Js;split
 ·simp
 ·omega
theorem Zjc (d:Dk) (kind:Int) (l:List Int):∀ q,q<=l.length->(Zdp d kind l q).length<=q+1
 | 0,_=>by simp[Zdp]
 | q+1,h=>by
  rw[ZkO d kind l q (by omega)]
  have:=Zqi d kind (Zdp d kind l q) (l.getD q 0);have:=Zjc d kind l q (by omega)
  omega
def Zod (w:World) (l:List Q0) (e:Ending) (w':World):Prop:=
 ∃ bv bs I v0 l0,e=.returned bv∧bs.map Prod.fst=l∧Gt w I v0 l0 bv bs w'
theorem Zmk {F:Nat->Prop} (kind:Int) (w:World) (h:Dsk F w p d N T) (hN:N<=1000000) (hT:T<=1000000000) (aM:∀ n,(Zp d n).1.length<=90000):
 Calls prog 34 #[ptr p,.int .i64 kind] w fun e w'=>Zod w (Yi d kind) e w':=by
 have an:=ZZ (fun W (hb:Below w.heap.size w W)=>Zcj 3 W (h.below hb) hN (by omega) (by omega))
 have aT:=ZZ (fun n (U:I64 n) W (hb:Below w.heap.size w W)=>Zna n U W (h.below hb) hT)
 have aP:=ZZ (fun n vb W (hr:Rd W vb (Zp d n).1)=>ZpZ vb _ W hr (by have:=aM n;omega))
 have HI:Hid (∀ n ∈ Xk (Qk d) 3,I64 n):=ZZ (by
  obtain⟨L,g1,K,-⟩:=h
  exact fun n U=>by
   have:=Zbg K n (List.mem_filter.1 U).1
   exact⟨by omega,by omega⟩)
 have am:Hid ((Xk (Qk d) 3).length<=1000000):=ZZ (by
  obtain⟨L,g1,K,g3,-⟩:=h;have h3:=Zbt d d.waits.length;rw[Zdc] at h3;have:=g3.names;refine Nat.le_trans (length_filter_le _ _) ?_;unfold Qk;rw[length_map]
  omega)
 have aC:Yi d kind=(Xk (Qk d) 3).foldl (Js d kind) [Zn kind]:=rfl;rw[aC];clear h aM aC;obtain⟨l,hl⟩:∃ l,l=Xk (Qk d) 3:=⟨_,rfl⟩;rw[<-hl] at an HI am ⊢;clear hl;have az:=ZZ (ZkN kind w)
 go_enter func34,ntmps34
 go_wp2_with fail
 refine az.o.mono ?_;rintro e f ⟨vl,rfl,Y,au,aA,aD,B⟩;obtain⟨la,lc,aX,-⟩:=id Y;subst aX;obtain⟨i,P⟩:∃ i:Q0 × Value × Value,i=(Zn kind,.slice la (J9 kind).L.length lc,.slice none 0 0):=⟨_,rfl⟩;obtain⟨u,A⟩:∃ u,u=f.alloc (.cells #[.int .i64 0,.int .i64 (J9 kind).kind,.slice la (J9 kind).L.length lc,.bool (J9 kind).shut,.int .i64 (J9 kind).eng,.slice none 0 0] 41):=⟨_,rfl⟩;have G:Hid (Below w.heap.size w u):=ZZ (by rw[A];exact B.alloc B.size _)
 have av:Hid (Below f.heap.size f u):=ZZ (by rw[A];exact Jw _ _)
 have aZ:u.heap.size=f.heap.size+1:=by rw[A];simp
 have aO:Hid (u.ownsRow 0 41 6 (.slice (some ⟨f.heap.size,0,none⟩) 1 1) [i].length (Xv [i])):=ZZ (by
  have y:=World.ownsRow_lit (base:=0) (e:=41) f (snC i) 1 (Nat.zero_le _) (by unfold maxLen;omega) (size:=6) rfl
  rw[A];have h8:Xv [i]=(snC i).toList:=by simp[Xv]
  rw[h8];rw[P] at y ⊢
  exact y)
 have aN:Hid (SnR f i):=ZZ (by rw[P];exact⟨Y,RdE.nil _,au,aA,(Qo (by decide) (by decide):I64 0)⟩)
 have aq:Hid (Zmp (fun k=>w.heap.size<=k∧k<f.heap.size) i):=ZZ (by
  rw[P];refine⟨?_,.inl rfl⟩;rcases Y.block with hb0 | ⟨-,k,b,J⟩
  ·exact .inl hb0
  ·refine .inr fun g t=>⟨aD g t,?_⟩
   have ad:(Value.slice la (J9 kind).L.length lc).ownBlock=some g:=t;rw[ad] at b;obtain rfl:=Option.some.inj b
   exact J)
 have aJ:Hid (i.1=Zn kind):=ZZ (by rw[P])
 have E:Hid (w.heap.size<=f.heap.size):=ZZ B.size;clear Y au aA aD B az P;generalize (J9 kind).kind=sk at *;generalize (J9 kind).L.length=sl at *;generalize (J9 kind).shut=ss at *;generalize (J9 kind).eng=se at *
 go_upto_region 2 with fail
 rw[<-A];clear A
 go_wp2_with fail
 refine(an.o u G.o).mono ?_;rintro e W3 ⟨v3,rfl,ag,O⟩
 have ai:Hid (Gt w (fun k=>w.heap.size<=k∧k<f.heap.size) v3 l (.slice (some ⟨f.heap.size,0,none⟩) 1 1) [i] W3):=ZZ (by
  have ba:=O.size;have a7:=E.o;refine⟨Qh aO.o fun k b=>O.block k ?_,fun k b=>?_,fun x m=>?_,fun x m=>?_,fun k b=>b.1,fun k b=>by omega,fun k b e=>?_,ag.mono G.o.size,G.o.trans (O.mono G.o.size)⟩
  ·have y:f.heap.size=k:=Option.some.inj b
   omega
  ·have y:f.heap.size=k:=Option.some.inj b
   omega
  ·rw[List.mem_singleton.1 m]
   exact(aN.o.below av.o zL).below O zL
  ·rw[List.mem_singleton.1 m]
   exact aq.o
  ·have y:f.heap.size=k:=Option.some.inj e
   omega)
 obtain⟨a3,c3,aU⟩:∃ a c,v3=.slice a l.length c:=ag.shape;subst aU;obtain⟨j,aa⟩:∃ j,j=l.length:=⟨_,rfl⟩;rw[<-aa] at ai am;rw[<-aa];have ay:=ZZ aa;have bc:=am.o;have a9:(j:Int)<=1000000:=by omega
 clear ag O an aa aN aq aO av G E aZ;go_wp2
 go_loopw[5,19] (fun vb vi wr=>∃ (q:Nat) (a:Option Addr) (n c:Nat) (I:Nat->Prop) (bs:List (Q0 × Value × Value)),vi=.int .i64 (q:Int)∧q<=j∧vb=.slice a n c∧Hid (bs.map Prod.fst=Zdp d kind l q)∧Hid (Gt w I (.slice a3 j c3) l (.slice a n c) bs wr)) (fun _ vi _=>j-(intOf vi).toNat)
 case atStart=>exact⟨0,_,_,_,_,_,rfl,Nat.zero_le _,rfl,ZZ (by rw[List.map_cons,aJ.o];rfl),ai⟩
 case round=>
  obtain⟨q,a,n,c,I,bs,rfl,hq,rfl,Q,D⟩:=hrel;clear ai aJ;by_cases J:q<j
  case neg=>
   have e:q=j:=by omega
   have HF:Hid (Zod w (l.foldl (Js d kind) [Zn kind]) (.returned (.slice a n c)) wr):=ZZ ⟨_,bs,I,_,_,rfl,Q.o.trans (Zoc d kind l q (e.trans ay.o)),D.o⟩;subst e;clear D Q;go_wp2
   try rw[Exit.noGoto_ret]
   go_ret;exact HF.o
  have H:q<l.length:=by rw[<-ay.o];exact J
  have a6:(q:Int)<(j:Int):=by omega
  have HS:Hid (Zdp d kind l (q+1)=Js d kind (Zdp d kind l q) (l.getD q 0)):=ZZ (ZkO d kind l q H)
  have aR:Hid (bs.length<=10000000):=ZZ (by
   have y:=Zjc d kind l q (by omega)
   rw[<-Q.o,length_map] at y
   omega)
  obtain⟨nq,aj⟩:∃ nq,nq=l.getD q 0:=⟨_,rfl⟩;obtain⟨ao,cap,aW,-,-,-,-,af⟩:=D.o.nms.rd HI.o
  injection aW with e1 e2 e3
  rcases af with af | ⟨bb,a5,a1,hc⟩
  ·rw[af] at H;simp at H
  subst e1;subst a1;have cx:=hc q H;rw[<-aj] at cx HS
  have aY:Hid (I64 nq):=ZZ (HI.o nq (by
   rw[aj,show l.getD q 0=l[q] by simp[List.getD,H]]
   exact List.getElem_mem _))
  clear hc e2 e3 aj;have aw:=ZZ (aT.o nq aY.o wr D.o.old)
  go_wp2_with fail
  refine aw.o.mono ?_;rintro e W4 ⟨v4,rfl,ak,aK⟩;have ax:=ZZ (D.o.below aK);have aL:=ZZ ak.rd;obtain⟨a4,c4,aV,-⟩:=ak.rd;subst aV;clear ak aK aw D cx;have ap:=ZZ (aP.o nq _ W4 aL.o);have E:Hid (Zdp d kind l (q+1)=if(ZmE (Zp d nq).1).2=0∧(ZmE (Zp d nq).1).1.st.kind=kind then Zdp d kind l q++[(ZmE (Zp d nq).1).1] else Zdp d kind l q):=ZZ (by rw[HS.o];rfl)
  generalize (Zp d nq).2=er at *;generalize ZmE (Zp d nq).1=dn at *;generalize a0:(Zp d nq).1.length=a8 at *;obtain⟨⟨ix,⟨kd,L,V,Z⟩,tb⟩,ac⟩:=dn;clear a0
  dsimp only at E
  go_wp2_with fail
  refine ap.o.mono ?_;rintro e z ⟨vx,vu,rfl,R,r2,r3,S,r5,g1,K,ae⟩
  dsimp only at R r2 r3 S r5 ⊢
  have aH:Hid (SnR z (⟨ix,⟨kd,L,V,Z⟩,tb⟩,vx,vu)):=ZZ ⟨R,S,r2,r3,r5⟩
  have aB:Hid (Zmp (fun k=>W4.heap.size<=k∧k<z.heap.size) (⟨ix,⟨kd,L,V,Z⟩,tb⟩,vx,vu)):=ZZ (by
   refine⟨?_,?_⟩
   ·rcases R.block with hb0 | ⟨-,k,b,J⟩
    ·exact .inl hb0
    ·refine .inr fun g t=>⟨g1 g t,?_⟩
     have ad:vx.ownBlock=some g:=t;rw[ad] at b;obtain rfl:=Option.some.inj b;exact J
   ·rcases S.block with hb0 | hb0
    ·exact .inl hb0
    ·exact .inr fun g t=>⟨K g t,hb0 g t⟩)
  have aF:=ZZ ae;have a2:=ZZ (ax.o.below ae);obtain⟨xa,xc,m,-⟩:=id R;obtain⟨ua,uc,hu⟩:=S.shape;subst m hu;clear ap aL R r2 r3 S r5 g1 K ae;generalize L.length=xl at *;generalize tb.length=ul at *;obtain⟨x,m⟩:∃ x:Q0 × Value × Value,x=(⟨ix,⟨kd,L,V,Z⟩,tb⟩,.slice xa xl xc,.slice ua ul uc):=⟨_,rfl⟩;have HX:=ZZ m;rw[<-m] at aH aB;clear m;have ab:Hid (∀ X,Gt w I (.slice (some ⟨bb,a5,none⟩) j c3) l (.slice a n c) bs (z.alloc X)):=ZZ (fun X=>a2.o.below (Jw _ _))
  have al:Hid (¬ (ac=0∧kd=kind)->bs.map Prod.fst=Zdp d kind l (q+1)):=ZZ (fun U=>by rw[Q.o,E.o,if_neg U])
  by_cases v:ac=0
  case neg=>
   have hb0:(ac == 0)=false:=beq_eq_false_iff_ne.2 v;have M:=ZZ (al.o fun hh=>v hh.1)
   clear v;go_wp2;go_roundw
   case rel=>exact⟨q+1,a,n,c,I,bs,by go_num,by omega,rfl,M,ZZ (ab.o _)⟩
   case measure=>simp[intOf];omega
  have hb0:(ac == 0)=true:=by rw[beq_iff_eq];exact v
  by_cases C:kd=kind
  case neg=>
   have B:(kd == kind)=false:=beq_eq_false_iff_ne.2 C;have M:=ZZ (al.o fun hh=>C hh.2)
   clear v C;go_wp2;go_roundw
   case rel=>exact⟨q+1,a,n,c,I,bs,by go_num,by omega,rfl,M,ZZ (ab.o _)⟩
   case measure=>simp[intOf];omega
  have B:(kd == kind)=true:=by rw[beq_iff_eq];exact C
  have M:Hid ((bs++[x]).map Prod.fst=Zdp d kind l (q+1)):=ZZ (by
   rw[E.o,if_pos ⟨v,C⟩,List.map_append,Q.o,HX.o]
   rfl)
  have aQ:Hid (SlX x):=ZZ (by rw[HX.o];exact⟨_,_,_,_,_,_,rfl,rfl⟩)
  have ar:Hid (snC x=#[.int .i64 ix,.int .i64 kd,.slice xa xl xc,.bool V,.int .i64 Z,.slice ua ul uc]):=ZZ (by rw[HX.o];rfl)
  clear v C
  go_wp2_with(at_builtin;refine(fun(h:True->_)=>h trivial) ?_)
  intro _;rw[<-ar.o];have aG:Hid (Value.slice (some ⟨z.heap.size+1,0,none⟩) 1 1=.slice (some ⟨(z.alloc (.cells (snC x) 41)).heap.size,0,none⟩) 1 1):=ZZ (by simp)
  refine ZgN (z.alloc (.cells (snC x) 41)) rfl _ _ rfl (.slice a n c) bs rfl (ab.o _).row x aQ.o (by exact aG.o) aR.o ?_
  intro v7 W7 ah aI aE;have aS:=ZZ (ax.o.add (aF.o.trans ((Jw _ _).mono aF.o.size)) x (aH.o.below (Jw z (.cells (snC x) 41)) zL) (aB.o.mono fun k b=>⟨b.1,by simp;omega⟩) ah aI aE)
  obtain⟨y1,y3,hy⟩:=Z8 ah;generalize (bs++[x]).length=y2 at hy;subst hy;clear ah aI aE aG ar ab al;go_wp2;go_roundw
  case rel=>exact⟨q+1,y1,y2,y3,_,bs++[x],by go_num,by omega,rfl,M,aS⟩
  case measure=>simp[intOf];omega
theorem Zgy (first:Int):∀ (B:List (List UInt8)) (a:List Rec),(∀ r ∈ a,Qz r)->∀ r ∈ Ys first B a,Qz r
 | [],a,h=>by
  rw[Ys];exact h
 | d::t,a,h=>by
  rw[ZaC]
  cases hd:ZdK d with
  | none=>exact h
  | some l=>
   dsimp only
   split
   ·refine Zgy first t (a++l) fun r hr=>?_
    rcases List.mem_append.1 hr with hr | hr
    ·exact h r hr
    ·exact(ZfA hd).1.2.2.1 r hr
   ·exact h
theorem ZxL {H:List UInt8} (a:ZbB H kind=some f):f<4611686018427387904:=by
 unfold ZbB at a;split at a
 ·rename_i v k c b
  split at a
  ·have:=(Zcl b).2.2.2.2
   rw[<-Option.some.inj a];exact this
  ·cases a
 ·cases a
theorem ZvT {b:List UInt8} {l:List Rec} (h:ZoH b kind=some (f,l)):f<4611686018427387904∧∀ r ∈ l,Qz r:=by
 rw[Zmh] at h;unfold Zqb at h
 cases hL:(Qp b).1 with
 | nil=>rw[hL] at h;cases h
 | cons H B=>
  rw[hL] at h
  dsimp only at h
  cases hh:ZbB H kind with
  | none=>rw[hh] at h;cases h
  | some d=>
   rw[hh] at h;have a:=Option.some.inj h
   injection a with e1 e2
   subst e1;exact⟨ZxL hh,by rw[<-e2];exact Zgy _ B [] fun r c=>by cases c⟩
end Go.Proofs.YtnahjngbneicaaaGreatDoor
