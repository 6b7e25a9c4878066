import Derived.Test.YtnahjngbneicaaaGreatDoorPack14
namespace Go.Proofs.YtnahjngbneicaaaGreatDoor
open _root_.Go.Proofs.Tryz
open List (append_nil length_filter_le length_map)
set_option maxHeartbeats 8000000
set_option maxRecDepth 100000
open Go.RowKit
variable {I K:Nat->Prop} {N R Rb T f i p pd:Nat} {s:Sto} {d:Dk} {n:Q0} {W w wr:World} {bv v:Value} {l:List Int} {bs:List (Q0 × Value × Value)} {kind:Int}
theorem Zmj (s:Sto):ZfC s++[Qq]=((s.log.pcs.filter (Zex s)).map fun q=>Xm (fun d=>Qj d q.name))++[Qq]:=rfl
theorem ZeZ (s:Sto) (d:Dk) (gone:List Pce):(Qv ((gone.map fun q:Pce=>Xm (fun d=>Qj d q.name))++[Qq]) (s,d)).1.1.log=s.log:=by
 have h:∀ (gs:List (SDk->SDk × Int)),(∀ g ∈ gs,∀ x,(g x).1.1.log=x.1.log)->∀ x,(Qv gs x).1.1.log=x.1.log:=by
  intro gs
  induction gs with
  | nil=>exact fun _ x=>rfl
  | cons g gs c=>
   intro hg x;have a:=hg g List.mem_cons_self x;unfold Qv;split
   ·exact(c (fun g' b=>hg g' (List.mem_cons_of_mem _ b)) (g x).1).trans a
   ·exact a
 refine h _ (fun g hg x=>?_) (s,d)
 rcases List.mem_append.1 hg with hg | hg
 ·obtain⟨q,-,rfl⟩:=List.mem_map.1 hg
  rfl
 ·rw[List.mem_singleton.1 hg]
  unfold Qq;split <;> rfl
theorem Zqh (w:World) (h:SD K w pd p s d N T) (hK:∀ k,K k->k<w.heap.size) (aX:OkS s) (aD:s.bases.length≠0) (br:s.bases.length<=1000000) (a0:s.log.pcs.length<=100000) (a6:s.log.recs.length<=1000000) (hf:s.log.first<=s.base.idx∧s.base.idx<=s.next) (a7:∀ q ∈ s.log.pcs.dropLast,q.name≠s.cur) (aU:∀ q ∈ s.log.pcs,I64 q.name) (hN:N<=700000) (hT:T<=900000000):
 Calls prog 29 #[ptr p] w fun e w'=>Jz K w pd p (Z7 (s,d)) (N+2*(s.log.pcs.length+1)) T e w':=by
 obtain⟨y,ai⟩:∃ y,y=w.alloc (.cells #[ptr p] 28):=⟨_,rfl⟩;have aL:Hid (Below w.heap.size w y):=ZZ (by rw[ai];exact Jw _ _)
 have aq:Hid (Bk 28 y w.heap.size #[ptr p]):=ZZ (by rw[ai];exact heap_alloc_new w _)
 have aR:Hid (y.heap.size=w.heap.size+1):=ZZ (by rw[ai];simp)
 have HS:=ZZ h;have HK:=ZZ hK;obtain⟨F,M,I,L,m,a,-⟩:=h;have aQ:Hid (Calls prog 37 #[ptr p] y fun e w'=>e=.returned (snV (Zck L.bs))∧Below y.heap.size y w'):=ZZ (ZqT y (a.below aL.o) aD (by omega))
 obtain⟨C,av⟩:∃ C,C=s.base.idx:=⟨_,rfl⟩
 obtain⟨kd,la,ln,lc,sh,eg,ta,tn,tc,a5⟩:∃ kd la ln lc sh eg ta tn tc,snV (Zck L.bs)=.agg #[.int .i64 C,.int .i64 kd,.slice la ln lc,.bool sh,.int .i64 eg,.slice ta tn tc]:=by
  have hl:L.bs.length≠0:=by rw[<-length_map (f:=Prod.fst),a.bsEq];exact aD
  obtain⟨la,ln,lc,ta,tn,tc,e1,e2⟩:=(a.base _ (Ziv hl)).shape;refine⟨(Zck L.bs).1.st.kind,la,ln,lc,(Zck L.bs).1.st.shut,(Zck L.bs).1.st.eng,ta,tn,tc,?_⟩;unfold snV snC;rw[e1,e2,av,<-Zky a.bsEq]
 rw[a5] at aQ;obtain⟨pa,pc,ax⟩:=Z8 a.pcs
 have am:Hid (∀ W,Below y.heap.size y W->W.cell? ⟨w.heap.size,0,none⟩=some (ptr p)∧W.cell? ⟨p,3,none⟩=some (.slice pa s.log.pcs.length pc)∧W.cell? ⟨p,12,none⟩=some (.int .i64 s.cur)∧
  ∀ j,j<s.log.pcs.length->∃ g,pa=some ⟨g,0,none⟩∧W.cell? ⟨g,j*3,none⟩=some (.int .i64 (s.log.pcs.getD j Zj).name)∧W.cell? ⟨g,j*3+1,none⟩=some (.int .i64 (s.log.pcs.getD j Zj).first)∧W.cell? ⟨g,j*3+2,none⟩=some (.int .i64 (s.log.pcs.getD j Zj).stop)):=ZZ (fun W hW=>by
  have hr:=((aq.o.keep (hW.block _ aq.o.lt)).cell 0 rfl).1;have x:=(a.below aL.o).below hW;obtain⟨-,-,-,c3,-,-,-,ap,-⟩:=x.cs;refine⟨hr,by rw[<-ax];exact c3,ap,fun j hj=>?_⟩
  obtain⟨g,cap,hv,d0,V,d2⟩:=Zzi x.pcs j hj;have ao:L.pv=.slice (some ⟨g,0,none⟩) s.log.pcs.length cap:=hv;rw[ax] at ao
  injection ao with ao
  exact⟨g,ao,d0,V,d2⟩)
 obtain⟨P,hP⟩:∃ P,P=s.log.pcs:=⟨_,rfl⟩;obtain⟨cu,aO⟩:∃ cu,cu=s.cur:=⟨_,rfl⟩;obtain⟨b,aC⟩:∃ b,b=Zex s:=⟨_,rfl⟩;have bm:Hid (∀ q,b q=(decide (q.stop<=C) && decide (q.name≠cu))):=ZZ (fun q=>by rw[aC,av,aO];rfl)
 rw[<-hP,<-aO] at am;have ab:Hid (P.length<=100000):=ZZ (by rw[hP];exact a0)
 have ak:Hid (P.filter (fun q=>!b q)=Gg s∧P.filter b=s.log.pcs.filter (Zex s)):=ZZ (by rw[hP,aC];exact⟨rfl,rfl⟩)
 have bg:Hid (OkS s∧s.log.recs.length<=1000000∧(s.log.first<=s.base.idx∧s.base.idx<=s.next)∧(∀ q ∈ s.log.pcs.dropLast,q.name≠s.cur)∧(∀ q ∈ s.log.pcs,I64 q.name)):=ZZ ⟨aX,a6,hf,a7,aU⟩;have a3:=ZZ av;have bp:=ZZ hP;have bz:(P.length:Int)<=100000:=by have:=ab.o;omega
 rw[<-hP] at ax;have bA:∀ W:World,(Instr.field 41 (.agg #[.int .i64 C,.int .i64 kd,.slice la ln lc,.bool sh,.int .i64 eg,.slice ta tn tc]) 0).run prog W=.ok (.int .i64 C) W:=fun _=>by kernel_rfl
 clear m a ax hP aO aC av a5 aX a6 hf a7 aU a0 aD br hK
 go_enter func29,ntmps29
 go_upto_region 1 with fail
 rw[<-ai];obtain⟨r0,-⟩:=am.o y (Below.refl _ _);clear ai
 go_wp2_with fail
 refine aQ.o.mono ?_;rintro e W1 ⟨rfl,aM⟩;have Z:=ZZ aM;obtain⟨r1,c3,-,-⟩:=am.o W1 aM;clear aM aQ r0;go_wp2
 go_loopw[4,5,18] (fun vs vl vi wr=>∃ (i:Nat) (l:List Nat) (G:Option Addr) (H O:Nat) (B:Option Addr) (E D:Nat),vi=.int .i64 (i:Int)∧i<=P.length∧vs=.slice G H O∧vl=.slice B E D∧Hid (ZdZ W1 w.heap.size ((P.take i).filter b) ((P.take i).filter fun q=>!b q) l (.slice G H O) (.slice B E D) wr)) (fun _ _ vi _=>P.length-(intOf vi).toNat)
 case atStart=>exact⟨0,[],none,0,0,none,0,0,rfl,Nat.zero_le _,rfl,rfl,ZZ (ZdZ.start W1 w.heap.size)⟩
 case round=>
  clear r1 c3;obtain⟨i,l,G,H,O,B,E,D,rfl,hi,rfl,rfl,t⟩:=hrel;have aE:Hid (Below y.heap.size y wr):=ZZ (Z.o.trans (t.o.old.mono Z.o.size));obtain⟨r1,c3,ap,aH⟩:=am.o wr aE.o;by_cases an:i<P.length
  case neg=>
   obtain rfl:i=P.length:=by omega
   rw[List.take_length] at t;obtain⟨gone,al⟩:∃ gone,gone=P.filter b:=⟨_,rfl⟩;obtain⟨left,ae⟩:∃ left,left=P.filter fun q=>!b q:=⟨_,rfl⟩
   rw[<-al,<-ae] at t;rw[<-al,<-ae] at ak;have aW:=ZZ t.o.row
   have aF:Hid ((l.map (ZjC w.heap.size)).length<=10000000):=ZZ (by
    rw[length_map,t.o.len,al]
    exact Nat.le_trans (length_filter_le _ _) (by have:=ab.o;omega))
   have aG:Hid (gone.length<=P.length∧left.length<=P.length):=ZZ (by rw[al,ae];exact⟨length_filter_le _ _,length_filter_le _ _⟩)
   have bf:Hid (∀ v' W',W'.ownsRow 0 153 1 v' (l.map (ZjC w.heap.size)++[(⟨64,#[ptr p],#[]⟩:Stp)]).length (Za (l.map (ZjC w.heap.size)++[(⟨64,#[ptr p],#[]⟩:Stp)]))->(wr.alloc (.cells #[(⟨64,#[ptr p],#[]⟩:Stp).val] 153)).grownBy W' (Value.slice G H O).ownBlock->(v'.ownBlock=(Value.slice G H O).ownBlock∨v'.ownBlock=some (wr.heap.size+1))->
    ∃ g cap,v'=.slice (some ⟨g,0,none⟩) (l.length+1) cap∧Below w.heap.size w W'∧W'.ownsRow 0 108 3 (.slice B E D) left.length (Q6 left)∧Bk 28 W' w.heap.size #[ptr p]∧
    Calls prog 62 #[.slice (some ⟨g,0,none⟩) (l.length+1) cap] W' fun e w'=>Ztk (fun k=>K k∨(w.heap.size<=k∧k<W'.heap.size)) (fun k=>K k∨(w.heap.size<=k∧k<W'.heap.size)) pd p (Qv (ZfC s++[Qq]) (s,d)) (N+2*(l.length+1)) T (fun _ _=>True) W' e w'):=ZZ (fun v' W' m a x=>by
    obtain⟨q1,q2,q3,q4⟩:=t.o.last m a x;have aV:(l.map (ZjC w.heap.size)++[(⟨64,#[ptr p],#[]⟩:Stp)]).length=l.length+1:=by rw[List.length_append,length_map];rfl
    obtain⟨g,cap,cs,e1,e2,e3,e4⟩:=ZAv m (by rw[aV];omega) (⟨0,#[],#[]⟩:Stp)
    rw[aV] at e1 e4;have bG:=aR.o;have aY:=Z.o.size;have af:Below w.heap.size w W':=aL.o.trans ((Z.o.trans (q1.mono aY)).mono (by omega))
    have ad:Bk 28 W' w.heap.size #[ptr p]:=aq.o.keep ((Z.o.trans (q1.mono aY)).block _ aq.o.lt);refine⟨g,cap,e1,af,q2,ad,?_⟩;rw[Zmj,<-ak.o.2]
    exact ZvP (gone:=gone) W' (HS.o.fresh af) (fun k hk=>by
     rcases hk with hk | hk
     ·have:=HK.o k hk;have:=af.size;omega
     ·exact hk.2) (.inr ⟨by have:=q4 g e3;omega,e2.lt⟩) (.inr ⟨Nat.le_refl _,ad.lt⟩) (fun j hj=>⟨.inr ⟨by have:=(q3 j hj).1;omega,(q3 j hj).2.lt⟩,(q3 j hj).2⟩) t.o.len ad cs e2 e4 (fun q hq=>bg.o.2.2.2.2 q (by
     rw[ak.o.2] at hq
     exact(List.mem_filter.1 hq).1)) (by have:=aG.o.1;have:=ab.o;omega) hN hT)
   clear al ae aH c3 ap
   go_wp2_with(at_builtin;refine(fun(h:True->_)=>h trivial) ?_)
   intro _;refine Zcv wr rfl _ _ rfl (.slice G H O) (l.map (ZjC w.heap.size)) rfl aW.o ⟨64,#[ptr p],#[]⟩ rfl aF.o ?_;intro v9 W9 m a x;obtain⟨g9,bF,rfl,af,aP,ad,aJ⟩:=bf.o v9 W9 m a x;obtain⟨U,ay⟩:∃ U,U=Qv (ZfC s++[Qq]) (s,d):=⟨_,rfl⟩;rw[<-ay] at aJ;have bl:=ZZ af;have bt:=ZZ aP;have aI:=ZZ ad;have bd:=ZZ aJ;have aw:Hid (Z7 (s,d)=if U.2=0 then(({ U.1.1 with log:=s.log.letGo (Gg s) s.base.idx },U.1.2),0) else U):=ZZ (by rw[ay];rfl)
   have be:Hid (U.1.1.log=s.log):=ZZ (by rw[ay,Zmj];exact ZeZ s d _)
   have aT:Hid (l.length<=s.log.pcs.length):=ZZ (by rw[t.o.len,<-bp.o];exact aG.o.1)
   have aA:Hid (∀ k,(Value.slice B E D).ownBlock=some k->w.heap.size<=k∧k<W9.heap.size):=ZZ (fun k hk=>⟨by have:=t.o.lfar k hk;have:=Z.o.size;have:=aR.o;omega,(World.ownsRow.lt aP k hk).2⟩)
   clear m a x af aP ad aJ ay bf aW t
   go_wp2_with fail
   refine bd.o.mono ?_;rintro e aj ⟨rfl,Kd,m1,m2,m3,m4,-⟩;have bc:=aI.o.keep (m3.block _ aI.o.lt (fun hh=>hh (.inr ⟨Nat.le_refl _,aI.o.lt⟩)))
   obtain⟨bv,-⟩:=bc.cell 0 rfl;have az:=ZZ (And.intro m1 m2);have bb:Hid (Ql (fun k=>¬ K k) w aj):=ZZ ((Ql.ofBelow bl.o).trans (m3.mono (fun k hk hn=>hk (.inl hn))) (fun _ _ h=>h))
   have aZ:=ZZ m4;have bj:Hid (aj.ownsRow 0 108 3 (.slice B E D) left.length (Q6 left)):=ZZ (Qh bt.o fun g hg=>m3.block g (aA.o g hg).2 (fun hh=>hh (.inr (aA.o g hg))))
   clear m1 m2 m3 m4 bc bd;obtain⟨⟨s1,V⟩,c⟩:=U;by_cases hc:c=0
   case neg=>
    have aK:Hid (Jz K w pd p (Z7 (s,d)) (N+2*(s.log.pcs.length+1)) T (.returned (.int .i64 c)) aj):=ZZ (by
     rw[aw.o,if_neg hc]
     exact⟨rfl,(aZ.o.less (fun k hk=>az.o.1 k (.inl hk))).mono (by have:=aT.o;omega) zL,bb.o⟩)
    have bC:(c != 0)=true:=by rw[bne_iff_ne];exact hc
    clear hc aw;go_wp2;go_ret;exact aK.o
   subst hc;rw[if_pos rfl] at aw
   have a8:Hid (Calls prog 70 #[.pointer (some ⟨p,1,none⟩),.slice B E D,.int .i64 C] aj fun e w'=>e=.returned (.tuple #[])∧SD K w' pd p { s1 with log:=s1.log.letGo left C } V (N+2*(l.length+1)) T∧Ql (fun k=>¬ K k) aj w'):=ZZ (by
    have Q:s1.log=s.log:=be.o;obtain⟨g1,g2,g3,g4,g5⟩:=bg.o;obtain⟨q1,q2,q3,q4⟩:=g1.log.letGo (cur:=s.cur) (base:=s.base.idx) g4 g3.1 g3.2;have ae:s.log.pcs.filter (fun p=>!(decide (p.stop<=s.base.idx) && decide (p.name≠s.cur)))=left:=ak.o.1.symm
    rw[ae] at q2 q3 q4;have bn:s.log.first<=Zg left s.base.idx:=q4;have bw:s.log.next=s.log.first+s.log.recs.length:=rfl;have bB:Zg left s.base.idx+((s.log.recs.drop (Zg left s.base.idx-s.log.first).toNat).length:Nat)=s.log.next:=q3;have h0:=g1.log.f0;have ht:=g1.log.top;rw[a3.o]
    exact aZ.o.letGo (fun k hk=>az.o.1 k (.inl hk)) az.o.2 _ left s.base.idx bj.o (fun k hk=>⟨az.o.1 k (.inr (aA.o k hk)),fun hh=>by have:=HK.o k hh;have:=(aA.o k hk).1;omega⟩) (by have:=aG.o.2;have:=ab.o;omega) (by rw[Q];exact g2) (by rw[Q];exact g1.log.recOk) (by rw[Q];exact bn) (by rw[Q];omega) (by rw[Q];exact h0) (by rw[Q];omega))
   go_wp2_with fail
   refine a8.o.mono ?_;rintro e bk ⟨rfl,aN,a4⟩
   have aK:Hid (Jz K w pd p (Z7 (s,d)) (N+2*(s.log.pcs.length+1)) T (.returned (.int .i64 0)) bk):=ZZ (by
    rw[aw.o];have Q:s1.log=s.log:=be.o;rw[Q,ak.o.1,a3.o] at aN
    exact⟨rfl,aN.mono (by have:=aT.o;omega) zL,bb.o.trans a4 (fun _ _ h=>h)⟩)
   clear aN a4 a8;go_wp2;go_ret;exact aK.o
  obtain⟨g,bo,d0,V,d2⟩:=aH i an;subst bo;have Y:=ZZ (Zgw b P i an);have X:=ZZ (Zgw (fun q=>!b q) P i an)
  obtain⟨q,hq⟩:∃ q,q=P.getD i Zj:=⟨_,rfl⟩;rw[<-hq] at d0 V d2 Y X;obtain⟨u,z,v⟩:=q
  dsimp only at d0 V d2
  have HG:=ZZ (bm.o ⟨u,z,v⟩);have ac:=ZZ an;have bE:Hid (i<P.length):=ZZ an;clear aH hq
  go_upto_region 7 with fail
  obtain⟨J,au⟩:∃ J,J=wr.alloc (.cells #[.int .i64 u,.int .i64 z,.int .i64 v] 108):=⟨_,rfl⟩;rw[<-au];have aS:Hid (Below wr.heap.size wr J):=ZZ (by rw[au];exact Jw _ _)
  have aB:Hid (Bk 108 J wr.heap.size (pcC ⟨u,z,v⟩)):=ZZ (by rw[au];exact heap_alloc_new wr _)
  have p0:J.cell? ⟨wr.heap.size,0,none⟩=some (.int .i64 u):=(aB.o.cell 0 rfl).1;have p1:J.cell? ⟨wr.heap.size,1,none⟩=some (.int .i64 z):=(aB.o.cell 1 rfl).1;have p2:J.cell? ⟨wr.heap.size,2,none⟩=some (.int .i64 v):=(aB.o.cell 2 rfl).1;obtain⟨r2,-,bu,-⟩:=am.o J (aE.o.trans (aS.o.mono aE.o.size));clear au r1 c3 ap d0 V d2;have ag:Hid (∀ n,Below wr.heap.size wr (J.drewN n)):=ZZ (fun n=>Xo aS.o n)
  have ba:Hid (((P.take i).filter fun q=>!b q).length<=10000000):=ZZ (Nat.le_trans (length_filter_le _ _) (by rw[List.length_take];have:=ab.o;omega))
  have aF:Hid ((l.map (ZjC w.heap.size)).length<=10000000):=ZZ (by
   rw[length_map,t.o.len]
   exact Nat.le_trans (length_filter_le _ _) (by rw[List.length_take];have:=ab.o;omega))
  by_cases ar:v<=C
  ·by_cases aa:u=cu
   ·have A:b ⟨u,z,v⟩=false:=by rw[HG.o];simp[aa]
    have bq:(u != cu)=false:=by rw[bne_eq_false_iff_eq];exact aa
    rw[A,if_neg (by decide),append_nil] at Y
    rw[A,if_pos (by decide)] at X
    clear aa A
    go_quiet(fail)
    go_wp2_with(at_builtin;refine(fun(h:True->_)=>h trivial) ?_)
    intro _;refine Zaa _ rfl _ _ rfl (.slice B E D) ((P.take i).filter fun q=>!b q) rfl (t.o.below (ag.o _)).lrow (⟨u,z,v⟩:Pce) rfl ba.o ?_
    intro v9 W9 m a x;have S:=ZZ (t.o.leave ⟨u,z,v⟩ (ag.o _) m a x);rw[<-X.o] at S;obtain⟨a9,c9,R⟩:=Z8 m;generalize (((P.take i).filter fun q=>!b q)++[(⟨u,z,v⟩:Pce)]).length=n9 at R
    subst R;clear m a x;go_wp2;go_roundw
    case rel=>exact⟨i+1,l,G,H,O,a9,n9,c9,by go_num,by have:=ac.o;omega,rfl,rfl,by rw[Y.o];exact S⟩
    case measure=>have:=ac.o;simp[intOf];omega
   ·have A:b ⟨u,z,v⟩=true:=by rw[HG.o];simp[aa,ar]
    have bq:(u != cu)=true:=by rw[bne_iff_ne];exact aa
    rw[A,if_pos rfl] at Y;rw[A,if_neg (by decide),append_nil] at X
    clear aa A
    go_quiet(fail)
    go_wp2_with(at_builtin;refine(fun(h:True->_)=>h trivial) ?_)
    intro _;refine Zcv _ rfl _ _ rfl (.slice G H O) (l.map (ZjC w.heap.size)) rfl (t.o.below (ag.o _)).row (ZjC w.heap.size wr.heap.size) rfl aF.o ?_;intro v9 W9 m a x;have S:=ZZ (t.o.step ⟨u,z,v⟩ (ag.o _) (aB.o.keep (by rw[World.heap_drewN])) m a x)
    rw[<-Y.o] at S;obtain⟨a9,c9,R⟩:=Z8 m;generalize (l.map (ZjC w.heap.size)++[ZjC w.heap.size wr.heap.size]).length=n9 at R;subst R;clear m a x;go_wp2;go_roundw
    case rel=>exact⟨i+1,l++[wr.heap.size],a9,n9,c9,B,E,D,by go_num,by have:=ac.o;omega,rfl,rfl,by rw[X.o];exact S⟩
    case measure=>have:=ac.o;simp[intOf];omega
  ·have A:b ⟨u,z,v⟩=false:=by rw[HG.o];simp[ar]
   have bD:decide (v<=C)=false:=decide_eq_false ar;rw[A,if_neg (by decide),append_nil] at Y
   rw[A,if_pos (by decide)] at X
   clear ar A
   go_quiet(fail)
   go_wp2_with(at_builtin;refine(fun(h:True->_)=>h trivial) ?_)
   intro _;refine Zaa _ rfl _ _ rfl (.slice B E D) ((P.take i).filter fun q=>!b q) rfl (t.o.below (ag.o _)).lrow (⟨u,z,v⟩:Pce) rfl ba.o ?_
   intro v9 W9 m a x;have S:=ZZ (t.o.leave ⟨u,z,v⟩ (ag.o _) m a x);rw[<-X.o] at S;obtain⟨a9,c9,R⟩:=Z8 m;generalize (((P.take i).filter fun q=>!b q)++[(⟨u,z,v⟩:Pce)]).length=n9 at R
   subst R;clear m a x;go_wp2;go_roundw
   case rel=>exact⟨i+1,l,G,H,O,a9,n9,c9,by go_num,by have:=ac.o;omega,rfl,rfl,by rw[Y.o];exact S⟩
   case measure=>have:=ac.o;simp[intOf];omega
def Zcw:List (SDk->SDk × Int):=[Q5,ZcG,Yy,ZbN,Xm (fun d=>X3 d 1),Gs,Qq]
theorem Zgx (x:SDk):(Qq x).1.1.now=x.1.now∧(Qq x).1.1.bases=x.1.bases∧(Qq x).1.1.log=x.1.log:=by
 unfold Qq;split <;> exact⟨rfl,rfl,rfl⟩
theorem Zjb (x:SDk):(Q5 x).1.1.now=x.1.now∧(Q5 x).1.1.bases=x.1.bases∧(Q5 x).1.1.log=x.1.log:=by
 unfold Q5;split
 ·exact⟨rfl,rfl,rfl⟩
 ·have h:=ZlN x
  split
  ·rcases h with h | h
   ·show(Ye (Qv [Q1,Qx] x).1.1).now=_∧_
    rw[h];exact⟨rfl,rfl,rfl⟩
   ·show(Ye (Qv [Q1,Qx] x).1.1).now=_∧_
    rw[h];exact⟨rfl,rfl,rfl⟩
  ·rcases h with h | h
   ·rw[h];exact⟨rfl,rfl,rfl⟩
   ·rw[h];exact⟨rfl,rfl,rfl⟩
theorem ZkL (x:SDk):(Yy x).1.1.now=x.1.now∧(Yy x).1.1.bases=x.1.bases∧(Yy x).1.1.log=x.1.log:=by
 unfold Yy;split <;> exact⟨rfl,rfl,rfl⟩
theorem ZvQ (i:Nat) (x:SDk):(Zcw.getD i ZdY x).1.1.now=x.1.now∧(Zcw.getD i ZdY x).1.1.bases=x.1.bases∧(Zcw.getD i ZdY x).1.1.log=x.1.log:=by
 match i with
 | 0=>exact Zjb x
 | 1=>exact⟨rfl,rfl,rfl⟩
 | 2=>exact ZkL x
 | 3=>exact⟨rfl,rfl,rfl⟩
 | 4=>exact⟨rfl,rfl,rfl⟩
 | 5=>exact⟨rfl,rfl,rfl⟩
 | 6=>exact Zgx x
 | n+7=>exact⟨rfl,rfl,rfl⟩
theorem ZvR {gs:List (SDk->SDk × Int)} (h:∀ g ∈ gs,∀ x,(g x).1.1.now=x.1.now∧(g x).1.1.bases=x.1.bases∧(g x).1.1.log=x.1.log):∀ x,(Qv gs x).1.1.now=x.1.now∧(Qv gs x).1.1.bases=x.1.bases∧(Qv gs x).1.1.log=x.1.log:=by
 induction gs with
 | nil=>exact fun x=>⟨rfl,rfl,rfl⟩
 | cons g gs c=>
  intro x;have a:=h g List.mem_cons_self x;unfold Qv;split
  ·obtain⟨e,b,d⟩:=c (fun g' f=>h g' (List.mem_cons_of_mem _ f)) (g x).1
   exact⟨e.trans a.1,b.trans a.2.1,d.trans a.2.2⟩
  ·exact a
theorem ZkM:∀ g ∈ Zcw,∀ x,(g x).1.1.now=x.1.now∧(g x).1.1.bases=x.1.bases∧(g x).1.1.log=x.1.log:=by
 intro g b x;obtain⟨i,a,rfl⟩:=List.mem_iff_getElem.1 b;have:=ZvQ i x
 rwa [show Zcw.getD i ZdY=Zcw[i] by simp[List.getD,a]] at this
theorem ZvS (i:Nat) (x:SDk):(Qv (Zcw.take i) x).1.1.now=x.1.now∧(Qv (Zcw.take i) x).1.1.bases=x.1.bases∧(Qv (Zcw.take i) x).1.1.log=x.1.log:=ZvR (fun g a=>ZkM g (List.mem_of_mem_take a)) x
theorem Zfa (x:SDk):(J5 x).1.1.now=x.1.now∧(J5 x).1.1.bases=x.1.bases∧(J5 x).1.1.log=x.1.log:=ZvR ZkM x
def Zfb (p R Rb:Nat) (i:Nat):Stp:=
 match i with
 | 0=>⟨27,#[ptr p],#[]⟩
 | 1=>⟨55,#[],#[.pointer (some ⟨R,0,none⟩),.pointer (some ⟨Rb,0,none⟩)]⟩
 | 2=>⟨63,#[ptr p],#[]⟩
 | 3=>⟨57,#[],#[.pointer (some ⟨R,0,none⟩),.pointer (some ⟨Rb,0,none⟩)]⟩
 | 4=>⟨58,#[],#[.pointer (some ⟨R,0,none⟩)]⟩
 | 5=>⟨60,#[],#[.pointer (some ⟨R,0,none⟩)]⟩
 | _=>⟨64,#[ptr p],#[]⟩
def ZzT (p R Rb:Nat):Array Value:=#[(Zfb p R Rb 0).val,(Zfb p R Rb 1).val,(Zfb p R Rb 2).val,(Zfb p R Rb 3).val,(Zfb p R Rb 4).val,(Zfb p R Rb 5).val,(Zfb p R Rb 6).val]
def XC (R Rb p:Nat) (n:Q0) (i:Nat) (K:Nat->Prop) (W:World):Prop:=
 ∃ v,Bk 53 W Rb #[v]∧K Rb∧K R∧Bk 28 W R #[ptr p]∧(2<=i->Rd W v (Gb n)∧(Gb n=[]∨∀ k,v.ownBlock=some k->K k))
theorem XC.keep {j:Nat} {W':World} (h:XC R Rb p n i K W) (e:2<=j->2<=i) (b:Ql (fun k=>¬ K k) W W'):XC R Rb p n j K W':=by
 obtain⟨v,m,g,l,f,c⟩:=h;exact⟨v,m.keep (b.block _ m.lt (fun d=>d g)),g,l,f.keep (b.block _ f.lt (fun d=>d l)),fun a=>⟨(c (e a)).1.keepK (c (e a)).2 b,(c (e a)).2⟩⟩
theorem XC.cell (h:XC R Rb p n i K W):W.cell? ⟨R,0,none⟩=some (ptr p):=by
 obtain⟨v,b,d,e,a,c⟩:=h;exact(a.cell 0 rfl).1
theorem ZxJ {K0 K2:Nat->Prop} {Y:Nat} (w:World) (L:K0 Y) (M:∀ k,K0 k->K2 k) (I:¬ K0 Rb) (F:Bk 153 w Y (ZzT p R Rb)) (V:∀ k,K2 k->k<w.heap.size) (G:SD K2 w pd p s d N T) (E:XC R Rb p s.now 0 K2 w) (x:ZpE s) (X:N<=900000) (hT:T<=90000000):
 Calls prog 62 #[.slice (some ⟨Y,0,none⟩) 7 7] w fun e w'=>Ztk K0 K2 pd p (J5 (s,d)) (N+28) (T+560000) (fun _ _=>True) w e w':=by
 refine ZvO (K0:=K0) (K2:=K2) Y 7 (Zfb p R Rb) Zcw (s,d) N T 4 80000 w (XC R Rb p s.now) (by decide) L (ZzT p R Rb) F ?_ V G E ?_ ?_
 ·intro i m
  match i,m with
  | 0,_=>rfl
  | 1,_=>rfl
  | 2,_=>rfl
  | 3,_=>rfl
  | 4,_=>rfl
  | 5,_=>rfl
  | 6,_=>rfl
 ·intro i m g W O b Z U f a
  have j:∀ k,K0 k->g k:=fun k hk=>O k (M k hk)
  have q:=(ZvS i (s,d)).1;have z:i=0->ZpE (Qv (Zcw.take i) (s,d)).1.1:=fun e=>by rw[e];exact x
  generalize (Qv (Zcw.take i) (s,d)).1=y at f q z ⊢;obtain⟨s',d'⟩:=y
  dsimp only at f q z
  generalize s.now=nn at q a ⊢;clear U G E F x;have Q:i=0∨i=1∨i=2∨i=3∨i=4∨i=5∨i=6:=by have:i<7:=m;omega
  rcases Q with rfl | rfl | rfl | rfl | rfl | rfl | rfl
  ·show Calls prog 27 #[ptr p] W fun e w'=>Ztk K0 g pd p (Q5 (s',d')) _ _ _ W e w'
   refine Calls.mono (ZeO W f b (z rfl)) ?_;intro e w' h;exact h.seqD b j (by omega) (by omega) fun c=>a.keep (by omega) c
  ·show Calls prog 55 #[.pointer (some ⟨R,0,none⟩),.pointer (some ⟨Rb,0,none⟩)] W fun e w'=>Ztk K0 g pd p (ZcG (s',d')) _ _ _ W e w'
   obtain⟨v,n,u,t,l,A⟩:=id a;refine Calls.mono (Zqe (R:=R) (Rb:=Rb) W f a.cell n u) ?_;rintro e w' ⟨rfl,v',S,H,K,P,B⟩;rw[q] at H
   have J:R≠Rb:=fun e=>by
    rw[e] at l;exact l.ne n (by decide) rfl
   refine⟨rfl,_,fun k hk=>.inl hk,fun k hk=>?_,B.mono (fun k hk x=>I (by rw[<-hk];exact x)),P.mono (by omega) (by omega),fun _=>⟨v',S,.inl u,.inl t,l.keep (B.block _ l.lt J),fun _=>⟨H,.inr fun k hk=>.inr (K k hk)⟩⟩⟩
   rcases hk with hk | hk
   ·exact Nat.lt_of_lt_of_le (b k hk) B.size
   ·exact hk.2
  ·show Calls prog 63 #[ptr p] W fun e w'=>Ztk K0 g pd p (Yy (s',d')) _ _ _ W e w'
   refine Calls.mono (ZsI W f b (by omega) (by omega)) ?_
   intro e w' h;exact h.seqD b j (by omega) (by omega) fun c=>a.keep (by omega) c
  ·show Calls prog 57 #[.pointer (some ⟨R,0,none⟩),.pointer (some ⟨Rb,0,none⟩)] W fun e w'=>Ztk K0 g pd p (ZbN (s',d')) _ _ _ W e w'
   obtain⟨v,n,u,t,l,A⟩:=id a;obtain⟨D,C⟩:=A (by decide)
   rw[<-q] at D C;refine Calls.mono (Ztm (R:=R) (Rb:=Rb) W f b a.cell n D C (by omega) (by omega)) ?_
   intro e w' h;exact h.seqD b j (by omega) (by omega) fun c=>a.keep (by omega) c
  ·show Calls prog 58 #[.pointer (some ⟨R,0,none⟩)] W fun e w'=>Ztk K0 g pd p (Xm (fun d=>X3 d 1) (s',d')) _ _ _ W e w'
   refine Calls.mono (ZpK (R:=R) W f b a.cell) ?_;intro e w' h;exact h.seqD b j (by omega) (by omega) fun c=>a.keep (by omega) c
  ·show Calls prog 60 #[.pointer (some ⟨R,0,none⟩)] W fun e w'=>Ztk K0 g pd p (Gs (s',d')) _ _ _ W e w'
   obtain⟨v,n,u,t,l,A⟩:=id a;refine Calls.mono (ZpL (R:=R) W f b a.cell t (by omega) (by omega)) ?_
   intro e w' h;exact h.seqD b j (by omega) (by omega) fun c=>a.keep (by omega) c
  ·show Calls prog 64 #[ptr p] W fun e w'=>Ztk K0 g pd p (Qq (s',d')) _ _ _ W e w'
   refine Calls.mono (ZcM W f b) ?_;intro e w' h;exact h.seqD b j (by omega) (by omega) fun c=>a.keep (by omega) c
 ·intro i m
  match i,m with
  | 0,_=>exact enters_of func27 (by kernel_rfl) rfl
  | 1,_=>exact enters_of func55 (by kernel_rfl) rfl
  | 2,_=>exact enters_of func63 (by kernel_rfl) rfl
  | 3,_=>exact enters_of func57 (by kernel_rfl) rfl
  | 4,_=>exact enters_of func58 (by kernel_rfl) rfl
  | 5,_=>exact enters_of func60 (by kernel_rfl) rfl
  | 6,_=>exact enters_of func64 (by kernel_rfl) rfl
def ZxK (w:World) (s:St) (e:Ending) (w':World):Prop:=∃ vl,e=.returned (.agg #[.int .i64 s.kind,vl,.bool s.shut,.int .i64 s.eng])∧RdI w' vl s.L∧I64 s.kind∧I64 s.eng∧(∀ b,vl.ownBlock=some b->w.heap.size<=b)∧Below w.heap.size w w'
theorem ZkN (kind:Int) (w:World):Calls prog 16 #[.int .i64 kind] w fun e w'=>ZxK w (J9 kind) e w':=by
 have l:I64 0:=Qo (by decide) (by decide)
 have g:Hid (∀ x,Below w.heap.size w (w.alloc x)):=fun x=>(Below.refl _ _).alloc zL x
 have m:Hid (∀ x y,Below w.heap.size w ((w.alloc x).alloc y)):=fun x y=>(g.o x).alloc (by simp) y
 have c:=Qc l;clear l;by_cases f:kind<0∨6<=kind
 ·have d:Hid (J9 kind=⟨0,[],false,0⟩):=if_pos f
  rw[d.o];have B:(kind == 0)=false:=beq_eq_false_iff_ne.2 (by omega)
  have u:(kind == 1)=false:=beq_eq_false_iff_ne.2 (by omega)
  have q:(kind == 2)=false:=beq_eq_false_iff_ne.2 (by omega)
  have A:(kind == 3)=false:=beq_eq_false_iff_ne.2 (by omega)
  have z:(kind == 4)=false:=beq_eq_false_iff_ne.2 (by omega)
  have t:(kind == 5)=false:=beq_eq_false_iff_ne.2 (by omega)
  clear f d
  go_enter func16,ntmps16
  go_wp2;refine bodyPost_ret (v:=.agg #[.int .i64 0,.slice none 0 0,.bool false,.int .i64 0]) (by simp[results,Tryz.results16,go_sem]) rfl ?_
  exact⟨_,rfl,RdI.nil _,c.out,c.out,(fun b a=>by cases a),g.o _⟩
 ·have i:Hid (I64 kind):=Qo (by omega) (by omega)
  by_cases j:kind<=1
  ·have d:Hid (J9 kind=⟨kind,[0],false,0⟩):=by
    unfold J9;rw[if_neg f,if_pos j];exact rfl
   rw[d.o];have k:kind=0∨kind=1:=by omega
   clear f j d
   have n:Hid (∀ x,RdI ((w.alloc x).alloc (.cells #[.int .i64 0] 3)) (.slice (some ⟨w.heap.size+1,0,none⟩) 1 1) [0]):=fun x=>by
    have h:=RdI.one (w.alloc x) 0 c.out;have e:(w.alloc x).heap.size=w.heap.size+1:=by simp
    rwa [e] at h
   rcases k with rfl | rfl
   ·go_enter func16,ntmps16
    go_wp2;refine bodyPost_ret (v:=.agg #[.int .i64 0,.slice (some ⟨w.heap.size+1,0,none⟩) 1 1,.bool false,.int .i64 0]) (by simp[results,Tryz.results16,go_sem]) rfl ?_
    exact⟨_,rfl,n.o _,i.o,c.out,(fun b a=>by have p:w.heap.size+1=b:=Option.some.inj a;omega),m.o _ _⟩
   ·go_enter func16,ntmps16
    go_wp2;refine bodyPost_ret (v:=.agg #[.int .i64 1,.slice (some ⟨w.heap.size+1,0,none⟩) 1 1,.bool false,.int .i64 0]) (by simp[results,Tryz.results16,go_sem]) rfl ?_
    exact⟨_,rfl,n.o _,i.o,c.out,(fun b a=>by have p:w.heap.size+1=b:=Option.some.inj a;omega),m.o _ _⟩
  ·have d:Hid (J9 kind=⟨kind,[],false,0⟩):=by
    unfold J9;rw[if_neg f,if_neg j];exact rfl
   rw[d.o];have k:kind=2∨kind=3∨kind=4∨kind=5:=by omega
   clear f j d;rcases k with rfl | rfl | rfl | rfl
   ·go_enter func16,ntmps16
    go_wp2;refine bodyPost_ret (v:=.agg #[.int .i64 2,.slice none 0 0,.bool false,.int .i64 0]) (by simp[results,Tryz.results16,go_sem]) rfl ?_
    exact⟨_,rfl,RdI.nil _,i.o,c.out,(fun b a=>by cases a),g.o _⟩
   ·go_enter func16,ntmps16
    go_wp2;refine bodyPost_ret (v:=.agg #[.int .i64 3,.slice none 0 0,.bool false,.int .i64 0]) (by simp[results,Tryz.results16,go_sem]) rfl ?_
    exact⟨_,rfl,RdI.nil _,i.o,c.out,(fun b a=>by cases a),g.o _⟩
   ·go_enter func16,ntmps16
    go_wp2;refine bodyPost_ret (v:=.agg #[.int .i64 4,.slice none 0 0,.bool false,.int .i64 0]) (by simp[results,Tryz.results16,go_sem]) rfl ?_
    exact⟨_,rfl,RdI.nil _,i.o,c.out,(fun b a=>by cases a),g.o _⟩
   ·go_enter func16,ntmps16
    go_wp2;refine bodyPost_ret (v:=.agg #[.int .i64 5,.slice none 0 0,.bool false,.int .i64 0]) (by simp[results,Tryz.results16,go_sem]) rfl ?_
    exact⟨_,rfl,RdI.nil _,i.o,c.out,(fun b a=>by cases a),g.o _⟩
structure Gt (w:World) (I:Nat->Prop) (v:Value) (l:List Int) (bv:Value) (bs:List (Q0 × Value × Value)) (wr:World):Prop where
 row:wr.ownsRow 0 41 6 bv bs.length (Xv bs)
 far:∀ k,bv.ownBlock=some k->w.heap.size<=k
 each:∀ x ∈ bs,SnR wr x
 ibs:∀ x ∈ bs,Zmp I x
 lo:∀ k,I k->w.heap.size<=k
 ltI:∀ k,I k->k<wr.heap.size
 dis:∀ k,I k->bv.ownBlock≠some k
 nms:Qs wr w.heap.size v l
 old:Below w.heap.size w wr
theorem Gt.ltB (h:Gt w I v l bv bs wr):∀ k,bv.ownBlock=some k->k<wr.heap.size:=fun k b=>by
 obtain⟨c,a⟩:=X0 h.row b;exact a.lt
theorem Gt.below {w':World} (h:Gt w I v l bv bs wr) (a:Below wr.heap.size wr w'):Gt w I v l bv bs w':=
 ⟨Qh h.row fun k b=>a.block k (h.ltB k b),h.far,fun x c=>(h.each x c).below a zL,h.ibs,h.lo,fun k b=>Nat.lt_of_lt_of_le (h.ltI k b) a.size,h.dis,h.nms.below a zL,h.old.trans (a.mono h.old.size)⟩
theorem Gt.add (h:Gt w I v l bv bs wr) (n:Below wr.heap.size wr W) (x:Q0 × Value × Value) (z:SnR W x)
 (j:Zmp (fun k=>wr.heap.size<=k∧k<W.heap.size) x) {f:Value} {w':World} (p:w'.ownsRow 0 41 6 f (bs++[x]).length (Xv (bs++[x]))) (i:(W.alloc (.cells (snC x) 41)).grownBy w' bv.ownBlock) (hv:f.ownBlock=bv.ownBlock∨f.ownBlock=some (W.heap.size+1)):
 Gt w (fun k=>I k∨(wr.heap.size<=k∧k<W.heap.size)) v l f (bs++[x]) w':=by
 have C:=n.size;have D:=h.old.size;have B:W.heap.size+1<=w'.heap.size:=by have:=i.size;simpa using this
 have hk:∀ k,k<W.heap.size->bv.ownBlock≠some k->w'.heap[k]?=W.heap[k]?:=fun k hk t=>by
  rw[i.block k (by simp;omega) (fun e=>t e.symm),Below.heap_alloc _ _ _ hk]
 have b:=h.below n
 have a:∀ k,(I k∨(wr.heap.size<=k∧k<W.heap.size))->k<W.heap.size∧bv.ownBlock≠some k:=fun k hk=>by
  rcases hk with hk | hk
  ·exact⟨b.ltI k hk,h.dis k hk⟩
  ·refine⟨hk.2,fun e=>?_⟩
   have:=h.ltB k e;omega
 refine⟨p,fun k hk'=>?_,fun y hy=>?_,fun y hy=>?_,fun k hk'=>?_,fun k hk'=>?_,fun k hk' e=>?_,Qh b.nms fun k hk'=>?_,b.old.trans ?_⟩
 ·rcases hv with hv | hv
  ·exact h.far k (by rw[<-hv];exact hk')
  ·rw[hv] at hk'
   have:=Option.some.inj hk';omega
 ·rcases List.mem_append.1 hy with hy | hy
  ·exact(b.each y hy).keep (h.ibs y hy) fun g d=>hk g (a g (.inl d)).1 (a g (.inl d)).2
  ·rw[List.mem_singleton.1 hy]
   exact z.keep j fun g d=>hk g (a g (.inr d)).1 (a g (.inr d)).2
 ·rcases List.mem_append.1 hy with hy | hy
  ·exact(h.ibs y hy).mono fun k hk'=>.inl hk'
  ·rw[List.mem_singleton.1 hy]
   exact j.mono fun k hk'=>.inr hk'
 ·rcases hk' with hk' | hk'
  ·exact h.lo k hk'
  ·omega
 ·have:=(a k hk').1
  omega
 ·have q:=a k hk'
  rcases hv with hv | hv
  ·exact q.2 (by rw[<-hv];exact e)
  ·rw[hv] at e
   have:=Option.some.inj e;omega
 ·obtain⟨c,m⟩:=X0 b.nms hk'
  refine hk k m.lt fun e=>?_
  obtain⟨c',A⟩:=X0 b.row e;exact(m.ne A (by decide)) rfl
 ·exact(Ql.trans (F:=fun k=>bv.ownBlock=some k) ((Ql.refl _ W).alloc _) (Ql.ofGrown (F:=fun k=>bv.ownBlock=some k) i fun k e _=>e) (fun _ _ u=>u)).below (by omega) fun k e=>h.far k e
def Zdp (d:Dk) (kind:Int) (l:List Int) (q:Nat):List Q0:=(l.take q).foldl (Js d kind) [Zn kind]
theorem ZkO (d:Dk) (kind:Int) (l:List Int) (q:Nat) (a:q<l.length):Zdp d kind l (q+1)=Js d kind (Zdp d kind l q) (l.getD q 0):=by
 unfold Zdp;rw[List.take_add_one,List.foldl_append,show l.getD q 0=l[q] by simp[List.getD,a]]
 simp[a]
theorem Zoc (d:Dk) (kind:Int) (l:List Int) (q:Nat) (a:q=l.length):Zdp d kind l q=l.foldl (Js d kind) [Zn kind]:=by
 subst a;unfold Zdp;rw[List.take_length]
theorem Zqi (d:Dk) (kind:Int) (l:List Q0) (n:Int):(Js d kind l n).length<=l.length+1:=by
 unfold Js;split
 ·simp
 ·omega
theorem Zjc (d:Dk) (kind:Int) (l:List Int):∀ q,q<=l.length->(Zdp d kind l q).length<=q+1
 | 0,_=>by simp[Zdp]
 | q+1,h=>by
  rw[ZkO d kind l q (by omega)]
  have:=Zqi d kind (Zdp d kind l q) (l.getD q 0);have:=Zjc d kind l q (by omega)
  omega
def Zod (w:World) (l:List Q0) (e:Ending) (w':World):Prop:=
 ∃ bv bs I v0 l0,e=.returned bv∧bs.map Prod.fst=l∧Gt w I v0 l0 bv bs w'
theorem Zmk {F:Nat->Prop} (kind:Int) (w:World) (h:Dsk F w p d N T) (hN:N<=1000000) (hT:T<=1000000000) (aA:∀ n,(Zp d n).1.length<=90000):
 Calls prog 34 #[ptr p,.int .i64 kind] w fun e w'=>Zod w (Yi d kind) e w':=by
 have ag:=ZZ (fun W (hb:Below w.heap.size w W)=>Zcj 3 W (h.below hb) hN (by omega) (by omega))
 have aR:=ZZ (fun n (P:I64 n) W (hb:Below w.heap.size w W)=>Zna n P W (h.below hb) hT)
 have a5:=ZZ (fun n vb W (hr:Rd W vb (Zp d n).1)=>ZpZ vb _ W hr (by have:=aA n;omega))
 have HI:Hid (∀ n ∈ Xk (Qk d) 3,I64 n):=ZZ (by
  obtain⟨L,g1,K,-⟩:=h
  exact fun n P=>by
   have:=Zbg K n (List.mem_filter.1 P).1
   exact⟨by omega,by omega⟩)
 have ap:Hid ((Xk (Qk d) 3).length<=1000000):=ZZ (by
  obtain⟨L,g1,K,g3,-⟩:=h;have h3:=Zbt d d.waits.length;rw[Zdc] at h3;have:=g3.names;refine Nat.le_trans (length_filter_le _ _) ?_;unfold Qk;rw[length_map]
  omega)
 have aN:Yi d kind=(Xk (Qk d) 3).foldl (Js d kind) [Zn kind]:=rfl;rw[aN];clear h aA aN;obtain⟨l,hl⟩:∃ l,l=Xk (Qk d) 3:=⟨_,rfl⟩;rw[<-hl] at ag HI ap ⊢;clear hl;have aM:=ZZ (ZkN kind w)
 go_enter func34,ntmps34
 go_wp2_with fail
 refine aM.o.mono ?_;rintro e f ⟨vl,rfl,ab,au,aF,ax,D⟩;obtain⟨la,lc,aW,-⟩:=id ab;subst aW;obtain⟨i,H⟩:∃ i:Q0 × Value × Value,i=(Zn kind,.slice la (J9 kind).L.length lc,.slice none 0 0):=⟨_,rfl⟩;obtain⟨v,E⟩:∃ v,v=f.alloc (.cells #[.int .i64 0,.int .i64 (J9 kind).kind,.slice la (J9 kind).L.length lc,.bool (J9 kind).shut,.int .i64 (J9 kind).eng,.slice none 0 0] 41):=⟨_,rfl⟩;have J:Hid (Below w.heap.size w v):=ZZ (by rw[E];exact D.alloc D.size _)
 have aC:Hid (Below f.heap.size f v):=ZZ (by rw[E];exact Jw _ _)
 have a0:v.heap.size=f.heap.size+1:=by rw[E];simp
 have aB:Hid (v.ownsRow 0 41 6 (.slice (some ⟨f.heap.size,0,none⟩) 1 1) [i].length (Xv [i])):=ZZ (by
  have y:=World.ownsRow_lit (base:=0) (e:=41) f (snC i) 1 (Nat.zero_le _) (by unfold maxLen;omega) (size:=6) rfl
  rw[E];have h8:Xv [i]=(snC i).toList:=by simp[Xv]
  rw[h8];rw[H] at y ⊢
  exact y)
 have aO:Hid (SnR f i):=ZZ (by rw[H];exact⟨ab,RdE.nil _,au,aF,(Qo (by decide) (by decide):I64 0)⟩)
 have aI:Hid (Zmp (fun k=>w.heap.size<=k∧k<f.heap.size) i):=ZZ (by
  rw[H];refine⟨?_,.inl rfl⟩;rcases ab.block with hb0 | ⟨-,k,b,O⟩
  ·exact .inl hb0
  ·refine .inr fun g t=>⟨ax g t,?_⟩
   have am:(Value.slice la (J9 kind).L.length lc).ownBlock=some g:=t;rw[am] at b;obtain rfl:=Option.some.inj b
   exact O)
 have aL:Hid (i.1=Zn kind):=ZZ (by rw[H])
 have B:Hid (w.heap.size<=f.heap.size):=ZZ D.size;clear ab au aF ax D aM H;generalize (J9 kind).kind=sk at *;generalize (J9 kind).L.length=sl at *;generalize (J9 kind).shut=ss at *;generalize (J9 kind).eng=se at *
 go_upto_region 2 with fail
 rw[<-E];clear E
 go_wp2_with fail
 refine(ag.o v J.o).mono ?_;rintro e W3 ⟨v3,rfl,ai,Q⟩
 have af:Hid (Gt w (fun k=>w.heap.size<=k∧k<f.heap.size) v3 l (.slice (some ⟨f.heap.size,0,none⟩) 1 1) [i] W3):=ZZ (by
  have a8:=Q.size;have a9:=B.o;refine⟨Qh aB.o fun k b=>Q.block k ?_,fun k b=>?_,fun x m=>?_,fun x m=>?_,fun k b=>b.1,fun k b=>by omega,fun k b e=>?_,ai.mono J.o.size,J.o.trans (Q.mono J.o.size)⟩
  ·have y:f.heap.size=k:=Option.some.inj b
   omega
  ·have y:f.heap.size=k:=Option.some.inj b
   omega
  ·rw[List.mem_singleton.1 m]
   exact(aO.o.below aC.o zL).below Q zL
  ·rw[List.mem_singleton.1 m]
   exact aI.o
  ·have y:f.heap.size=k:=Option.some.inj e
   omega)
 obtain⟨a3,c3,aU⟩:∃ a c,v3=.slice a l.length c:=ai.shape;subst aU;obtain⟨j,Z⟩:∃ j,j=l.length:=⟨_,rfl⟩;rw[<-Z] at af ap;rw[<-Z];have aP:=ZZ Z;have bd:=ap.o;have bc:(j:Int)<=1000000:=by omega
 clear ai Q ag Z aO aI aB aC J B a0;go_wp2
 go_loopw[5,19] (fun vb vi wr=>∃ (q:Nat) (a:Option Addr) (n c:Nat) (I:Nat->Prop) (bs:List (Q0 × Value × Value)),vi=.int .i64 (q:Int)∧q<=j∧vb=.slice a n c∧Hid (bs.map Prod.fst=Zdp d kind l q)∧Hid (Gt w I (.slice a3 j c3) l (.slice a n c) bs wr)) (fun _ vi _=>j-(intOf vi).toNat)
 case atStart=>exact⟨0,_,_,_,_,_,rfl,Nat.zero_le _,rfl,ZZ (by rw[List.map_cons,aL.o];rfl),af⟩
 case round=>
  obtain⟨q,a,n,c,I,bs,rfl,hq,rfl,S,A⟩:=hrel;clear af aL;by_cases O:q<j
  case neg=>
   have e:q=j:=by omega
   have HF:Hid (Zod w (l.foldl (Js d kind) [Zn kind]) (.returned (.slice a n c)) wr):=ZZ ⟨_,bs,I,_,_,rfl,S.o.trans (Zoc d kind l q (e.trans aP.o)),A.o⟩;subst e;clear A S;go_wp2
   try rw[Exit.noGoto_ret]
   go_ret;exact HF.o
  have G:q<l.length:=by rw[<-aP.o];exact O
  have a7:(q:Int)<(j:Int):=by omega
  have HS:Hid (Zdp d kind l (q+1)=Js d kind (Zdp d kind l q) (l.getD q 0)):=ZZ (ZkO d kind l q G)
  have aV:Hid (bs.length<=10000000):=ZZ (by
   have y:=Zjc d kind l q (by omega)
   rw[<-S.o,length_map] at y
   omega)
  obtain⟨nq,an⟩:∃ nq,nq=l.getD q 0:=⟨_,rfl⟩;obtain⟨ao,cap,aS,-,-,-,-,ak⟩:=A.o.nms.rd HI.o
  injection aS with e1 e2 e3
  rcases ak with ak | ⟨bb,a1,aQ,hc⟩
  ·rw[ak] at G;simp at G
  subst e1;subst aQ;have cx:=hc q G;rw[<-an] at cx HS
  have aY:Hid (I64 nq):=ZZ (HI.o nq (by
   rw[an,show l.getD q 0=l[q] by simp[List.getD,G]]
   exact List.getElem_mem _))
  clear hc e2 e3 an;have aJ:=ZZ (aR.o nq aY.o wr A.o.old)
  go_wp2_with fail
  refine aJ.o.mono ?_;rintro e W4 ⟨v4,rfl,aj,az⟩;have aq:=ZZ (A.o.below az);have aw:=ZZ aj.rd;obtain⟨a4,c4,aT,-⟩:=aj.rd;subst aT;clear aj az aJ A cx;have aK:=ZZ (a5.o nq _ W4 aw.o);have B:Hid (Zdp d kind l (q+1)=if(ZmE (Zp d nq).1).2=0∧(ZmE (Zp d nq).1).1.st.kind=kind then Zdp d kind l q++[(ZmE (Zp d nq).1).1] else Zdp d kind l q):=ZZ (by rw[HS.o];rfl)
  generalize (Zp d nq).2=er at *;generalize ZmE (Zp d nq).1=dn at *;generalize aX:(Zp d nq).1.length=ba at *;obtain⟨⟨ix,⟨kd,L,V,Y⟩,tb⟩,aa⟩:=dn;clear aX
  dsimp only at B
  go_wp2_with fail
  refine aK.o.mono ?_;rintro e z ⟨vx,vu,rfl,U,r2,r3,M,r5,g1,K,ad⟩
  dsimp only at U r2 r3 M r5 ⊢
  have aG:Hid (SnR z (⟨ix,⟨kd,L,V,Y⟩,tb⟩,vx,vu)):=ZZ ⟨U,M,r2,r3,r5⟩
  have aH:Hid (Zmp (fun k=>W4.heap.size<=k∧k<z.heap.size) (⟨ix,⟨kd,L,V,Y⟩,tb⟩,vx,vu)):=ZZ (by
   refine⟨?_,?_⟩
   ·rcases U.block with hb0 | ⟨-,k,b,O⟩
    ·exact .inl hb0
    ·refine .inr fun g t=>⟨g1 g t,?_⟩
     have am:vx.ownBlock=some g:=t;rw[am] at b;obtain rfl:=Option.some.inj b;exact O
   ·rcases M.block with hb0 | hb0
    ·exact .inl hb0
    ·exact .inr fun g t=>⟨K g t,hb0 g t⟩)
  have aD:=ZZ ad;have aZ:=ZZ (aq.o.below ad);obtain⟨xa,xc,m,-⟩:=id U;obtain⟨ua,uc,hu⟩:=M.shape;subst m hu;clear aK aw U r2 r3 M r5 g1 K ad;generalize L.length=xl at *;generalize tb.length=ul at *;obtain⟨x,m⟩:∃ x:Q0 × Value × Value,x=(⟨ix,⟨kd,L,V,Y⟩,tb⟩,.slice xa xl xc,.slice ua ul uc):=⟨_,rfl⟩;have HX:=ZZ m;rw[<-m] at aG aH;clear m;have ac:Hid (∀ X,Gt w I (.slice (some ⟨bb,a1,none⟩) j c3) l (.slice a n c) bs (z.alloc X)):=ZZ (fun X=>aZ.o.below (Jw _ _))
  have al:Hid (¬ (aa=0∧kd=kind)->bs.map Prod.fst=Zdp d kind l (q+1)):=ZZ (fun P=>by rw[S.o,B.o,if_neg P])
  by_cases u:aa=0
  case neg=>
   have hb0:(aa == 0)=false:=beq_eq_false_iff_ne.2 u;have R:=ZZ (al.o fun hh=>u hh.1)
   clear u;go_wp2;go_roundw
   case rel=>exact⟨q+1,a,n,c,I,bs,by go_num,by omega,rfl,R,ZZ (ac.o _)⟩
   case measure=>simp[intOf];omega
  have hb0:(aa == 0)=true:=by rw[beq_iff_eq];exact u
  by_cases C:kd=kind
  case neg=>
   have D:(kd == kind)=false:=beq_eq_false_iff_ne.2 C;have R:=ZZ (al.o fun hh=>C hh.2)
   clear u C;go_wp2;go_roundw
   case rel=>exact⟨q+1,a,n,c,I,bs,by go_num,by omega,rfl,R,ZZ (ac.o _)⟩
   case measure=>simp[intOf];omega
  have D:(kd == kind)=true:=by rw[beq_iff_eq];exact C
  have R:Hid ((bs++[x]).map Prod.fst=Zdp d kind l (q+1)):=ZZ (by
   rw[B.o,if_pos ⟨u,C⟩,List.map_append,S.o,HX.o]
   rfl)
  have a6:Hid (SlX x):=ZZ (by rw[HX.o];exact⟨_,_,_,_,_,_,rfl,rfl⟩)
  have av:Hid (snC x=#[.int .i64 ix,.int .i64 kd,.slice xa xl xc,.bool V,.int .i64 Y,.slice ua ul uc]):=ZZ (by rw[HX.o];rfl)
  clear u C
  go_wp2_with(at_builtin;refine(fun(h:True->_)=>h trivial) ?_)
  intro _;rw[<-av.o];have ar:Hid (Value.slice (some ⟨z.heap.size+1,0,none⟩) 1 1=.slice (some ⟨(z.alloc (.cells (snC x) 41)).heap.size,0,none⟩) 1 1):=ZZ (by simp)
  refine ZgN (z.alloc (.cells (snC x) 41)) rfl _ _ rfl (.slice a n c) bs rfl (ac.o _).row x a6.o (by exact ar.o) aV.o ?_
  intro v7 W7 ae ay aE;have a2:=ZZ (aq.o.add (aD.o.trans ((Jw _ _).mono aD.o.size)) x (aG.o.below (Jw z (.cells (snC x) 41)) zL) (aH.o.mono fun k b=>⟨b.1,by simp;omega⟩) ae ay aE)
  obtain⟨y1,y3,hy⟩:=Z8 ae;generalize (bs++[x]).length=y2 at hy;subst hy;clear ae ay aE ar av ac al;go_wp2;go_roundw
  case rel=>exact⟨q+1,y1,y2,y3,_,bs++[x],by go_num,by omega,rfl,R,a2⟩
  case measure=>simp[intOf];omega
theorem Zgy (first:Int):∀ (B:List (List UInt8)) (a:List Rec),(∀ r ∈ a,Qz r)->∀ r ∈ Ys first B a,Qz r
 | [],a,h=>by
  rw[Ys];exact h
 | d::t,a,h=>by
  rw[ZaC]
  cases hd:ZdK d with
  | none=>exact h
  | some l=>
   dsimp only
   split
   ·refine Zgy first t (a++l) fun r hr=>?_
    rcases List.mem_append.1 hr with hr | hr
    ·exact h r hr
    ·exact(ZfA hd).1.2.2.1 r hr
   ·exact h
theorem ZxL {H:List UInt8} (a:ZbB H kind=some f):f<4611686018427387904:=by
 unfold ZbB at a;split at a
 ·rename_i v k c b
  split at a
  ·have:=(Zcl b).2.2.2.2
   rw[<-Option.some.inj a];exact this
  ·cases a
 ·cases a
theorem ZvT {b:List UInt8} {l:List Rec} (h:ZoH b kind=some (f,l)):f<4611686018427387904∧∀ r ∈ l,Qz r:=by
 rw[Zmh] at h;unfold Zqb at h
 cases hL:(Qp b).1 with
 | nil=>rw[hL] at h;cases h
 | cons H B=>
  rw[hL] at h
  dsimp only at h
  cases hh:ZbB H kind with
  | none=>rw[hh] at h;cases h
  | some d=>
   rw[hh] at h;have c:=Option.some.inj h
   injection c with e1 e2
   subst e1;exact⟨ZxL hh,by rw[<-e2];exact Zgy _ B [] fun r a=>by cases a⟩
end Go.Proofs.YtnahjngbneicaaaGreatDoor
