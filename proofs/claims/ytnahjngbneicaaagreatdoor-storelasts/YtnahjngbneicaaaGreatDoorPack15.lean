import Derived.Test.YtnahjngbneicaaaGreatDoorPack14
namespace Go.Proofs.YtnahjngbneicaaaGreatDoor
open _root_.Go.Proofs.Tryz
open List (append_nil length_filter_le length_map)
set_option maxHeartbeats 8000000
set_option maxRecDepth 100000
open Go.RowKit
variable {I K:Nat->Prop} {N R Rb T f i p pd:Nat} {s:Sto} {d:Dk} {n:Q0} {W w wr:World} {bv v:Value} {l:List Int} {bs:List (Q0 × Value × Value)} {kind:Int}
abbrev ze0:=@List.mem_iff_getElem
theorem Zmj (s:Sto):ZfC s++[Qq]=((s.log.pcs.filter (Zex s)).map fun q=>Xm (fun d=>Qj d q.name))++[Qq]:=rfl
theorem ZeZ (s:Sto) (d:Dk) (gone:List Pce):(Qv ((gone.map fun q:Pce=>Xm (fun d=>Qj d q.name))++[Qq]) (s,d)).1.1.log=s.log:=by
 have h:∀ (gs:List (SDk->SDk × Int)),(∀ g ∈ gs,∀ x,(g x).1.1.log=x.1.log)->∀ x,(Qv gs x).1.1.log=x.1.log:=by
  intro gs
  induction gs with
  | nil=>exact fun _ x=>rfl
  | cons g gs c=>
   intro hg x;have a:=hg g zbi x;unfold Qv;split
   ·exact(c (fun g' b=>hg g' (za4 _ b)) (g x).1).trans a
   ·exact a
 refine h _ (fun g hg x=>?_) (s,d)
 rcases zaw.1 hg with hg | hg
 ·obtain⟨q,-,rfl⟩:=zbd.1 hg
  rfl
 ·rw[zaq.1 hg]
  unfold Qq;split <;> rfl
theorem Zqh (w:World) (h:SD K w pd p s d N T) (hK:∀ k,K k->k<w.heap.size) (aZ:OkS s) (aF:s.bases.length≠0) (bt:s.bases.length<=1000000) (bb:s.log.pcs.length<=100000) (bg:s.log.recs.length<=1000000) (hf:s.log.first<=s.base.idx∧s.base.idx<=s.next) (be:∀ q ∈ s.log.pcs.dropLast,q.name≠s.cur) (a5:∀ q ∈ s.log.pcs,I64 q.name) (hN:N<=700000) (hT:T<=900000000):
 Calls prog 29 #[ptr p] w fun e w'=>Jz K w pd p (Z7 (s,d)) (N+2*(s.log.pcs.length+1)) T e w':=by
 obtain⟨x,aj⟩:=zgy (w.alloc (.cells #[ptr p] 28));have aE:Hid (Below w.heap.size w x):=ZZ (by rw[aj];exact Jw _ _)
 have aB:Hid (Bk 28 x w.heap.size #[ptr p]):=ZZ (by rw[aj];exact zaf w _)
 have aU:Hid (x.heap.size=w.heap.size+1):=ZZ (by rw[aj];simp)
 have HS:=ZZ h;have HK:=ZZ hK;obtain⟨F,M,I,L,l,a,-⟩:=h;have aK:Hid (Calls prog 37 #[ptr p] x fun e w'=>e=.returned (snV (Zck L.bs))∧Below x.heap.size x w'):=ZZ (ZqT x (a.below aE.o) aF (by omega))
 obtain⟨A,az⟩:=zgy s.base.idx
 obtain⟨kd,la,ln,lc,sh,eg,ta,tn,tc,aV⟩:∃ kd la ln lc sh eg ta tn tc,snV (Zck L.bs)=.agg #[.int .i64 A,.int .i64 kd,.slice la ln lc,.bool sh,.int .i64 eg,.slice ta tn tc]:=by
  have hl:L.bs.length≠0:=by rw[<-length_map (f:=Prod.fst),a.bsEq];exact aF
  obtain⟨la,ln,lc,ta,tn,tc,e1,e2⟩:=(a.base _ (Ziv hl)).shape;refine⟨(Zck L.bs).1.st.kind,la,ln,lc,(Zck L.bs).1.st.shut,(Zck L.bs).1.st.eng,ta,tn,tc,?_⟩;unfold snV snC;rw[e1,e2,az,<-Zky a.bsEq]
 rw[aV] at aK;obtain⟨pa,pc,ap⟩:=Z8 a.pcs
 have al:Hid (∀ W,Below x.heap.size x W->W.cell? ⟨w.heap.size,0,none⟩=some (ptr p)∧W.cell? ⟨p,3,none⟩=some (.slice pa s.log.pcs.length pc)∧W.cell? ⟨p,12,none⟩=some (.int .i64 s.cur)∧
  ∀ j,j<s.log.pcs.length->∃ g,pa=some ⟨g,0,none⟩∧W.cell? ⟨g,j*3,none⟩=some (.int .i64 (s.log.pcs.getD j Zj).name)∧W.cell? ⟨g,j*3+1,none⟩=some (.int .i64 (s.log.pcs.getD j Zj).first)∧W.cell? ⟨g,j*3+2,none⟩=some (.int .i64 (s.log.pcs.getD j Zj).stop)):=ZZ (fun W hW=>by
  have hr:=((aB.o.keep (hW.block _ aB.o.lt)).cell 0 rfl).1;have u:=(a.below aE.o).below hW;obtain⟨-,-,-,c3,-,-,-,aq,-⟩:=u.cs;refine⟨hr,by rw[<-ap];exact c3,aq,fun j hj=>?_⟩
  obtain⟨g,cap,hv,d0,V,d2⟩:=Zzi u.pcs j hj;have ax:L.pv=.slice (some ⟨g,0,none⟩) s.log.pcs.length cap:=hv;rw[ap] at ax
  injection ax with ax
  exact⟨g,ax,d0,V,d2⟩)
 obtain⟨P,hP⟩:=zgy s.log.pcs;obtain⟨cu,aM⟩:=zgy s.cur;obtain⟨D,aJ⟩:=zgy (Zex s);have bj:Hid (∀ q,D q=(decide (q.stop<=A) && decide (q.name≠cu))):=ZZ (fun q=>by rw[aJ,az,aM];rfl)
 rw[<-hP,<-aM] at al;have ad:Hid (P.length<=100000):=ZZ (by rw[hP];exact bb)
 have ak:Hid (P.filter (fun q=>!gp q)=Gg s∧P.filter D=s.log.pcs.filter (Zex s)):=ZZ (by rw[hP,aJ];exact⟨rfl,rfl⟩)
 have aT:Hid (OkS s∧s.log.recs.length<=1000000∧(s.log.first<=s.base.idx∧s.base.idx<=s.next)∧(∀ q ∈ s.log.pcs.dropLast,q.name≠s.cur)∧(∀ q ∈ s.log.pcs,I64 q.name)):=ZZ ⟨aZ,bg,hf,be,a5⟩;have aS:=ZZ az;have bk:=ZZ hP;have bC:(P.length:Int)<=100000:=by have:=ad.o;omega
 rw[<-hP] at ap;have bE:∀ W:World,(Instr.field 41 (.agg #[.int .i64 A,.int .i64 kd,.slice la ln lc,.bool sh,.int .i64 eg,.slice ta tn tc]) 0).run prog W=.ok (.int .i64 A) W:=fun _=>by kernel_rfl
 clear l a ap hP aM aJ az aV aZ bg hf be a5 bb aF bt hK
 go_enter func29,ntmps29
 go_upto_region 1 with fail
 rw[<-aj];obtain⟨r0,-⟩:=al.o x (zac _ _);clear aj
 go_wp2_with fail
 refine aK.o.mono ?_;rintro e W1 ⟨rfl,aQ⟩;have ag:=ZZ aQ;obtain⟨r1,c3,-,-⟩:=al.o W1 aQ;clear aQ aK r0;go_wp2
 go_loopw[4,5,18] (fun vs vl vi wr=>∃ (i:Nat) (b:List Nat) (G:Option Addr) (H J:Nat) (E:Option Addr) (B C:Nat),vi=.int .i64 (i:Int)∧i<=P.length∧vs=.slice G H J∧vl=.slice E B C∧Hid (ZdZ W1 w.heap.size ((P.take i).filter D) ((P.take i).filter fun q=>!gp q) b (.slice G H J) (.slice E B C) wr)) (fun _ _ vi _=>P.length-(intOf vi).toNat)
 case atStart=>exact⟨0,[],none,0,0,none,0,0,rfl,zai _,rfl,rfl,ZZ (ZdZ.start W1 w.heap.size)⟩
 case round=>
  clear r1 c3;obtain⟨i,b,G,H,J,E,B,C,rfl,hi,rfl,rfl,m⟩:=hrel;have aI:Hid (Below x.heap.size x wr):=ZZ (ag.o.trans (m.o.old.mono ag.o.size));obtain⟨r1,c3,aq,aC⟩:=al.o wr aI.o;by_cases ai:i<P.length
  case neg=>
   obtain rfl:i=P.length:=by omega
   rw[zb1] at m;obtain⟨gone,an⟩:=zgy (P.filter D);obtain⟨left,ab⟩:=zgy (P.filter fun q=>!gp q)
   rw[<-an,<-ab] at m;rw[<-an,<-ab] at ak;have a8:=ZZ m.o.row
   have aD:Hid ((b.map (ZjC w.heap.size)).length<=10000000):=ZZ (by
    rw[length_map,m.o.len,an]
    exact zas (length_filter_le _ _) (by have:=ad.o;omega))
   have aP:Hid (gone.length<=P.length∧left.length<=P.length):=ZZ (by rw[an,ab];exact⟨length_filter_le _ _,length_filter_le _ _⟩)
   have aX:Hid (∀ v' W',W'.ownsRow 0 153 1 v' (b.map (ZjC w.heap.size)++[(⟨64,#[ptr p],#[]⟩:Stp)]).length (Za (b.map (ZjC w.heap.size)++[(⟨64,#[ptr p],#[]⟩:Stp)]))->(wr.alloc (.cells #[(⟨64,#[ptr p],#[]⟩:Stp).val] 153)).grownBy W' (Value.slice G H J).ownBlock->(v'.ownBlock=(Value.slice G H J).ownBlock∨v'.ownBlock=some (wr.heap.size+1))->
    ∃ g cap,v'=.slice (some ⟨g,0,none⟩) (b.length+1) cap∧Below w.heap.size w W'∧W'.ownsRow 0 108 3 (.slice E B C) left.length (Q6 left)∧Bk 28 W' w.heap.size #[ptr p]∧
    Calls prog 62 #[.slice (some ⟨g,0,none⟩) (b.length+1) cap] W' fun e w'=>Ztk (fun k=>K k∨(w.heap.size<=k∧k<W'.heap.size)) (fun k=>K k∨(w.heap.size<=k∧k<W'.heap.size)) pd p (Qv (ZfC s++[Qq]) (s,d)) (N+2*(b.length+1)) T (fun _ _=>True) W' e w'):=ZZ (fun v' W' l a u=>by
    obtain⟨q1,q2,q3,q4⟩:=m.o.last l a u;have ba:(b.map (ZjC w.heap.size)++[(⟨64,#[ptr p],#[]⟩:Stp)]).length=b.length+1:=by rw[zel,length_map];rfl
    obtain⟨g,cap,cs,e1,e2,e3,e4⟩:=ZAv l (by rw[ba];omega) (⟨0,#[],#[]⟩:Stp)
    rw[ba] at e1 e4;have bu:=aU.o;have a0:=ag.o.size;have ac:Below w.heap.size w W':=aE.o.trans ((ag.o.trans (q1.mono a0)).mono (by omega))
    have af:Bk 28 W' w.heap.size #[ptr p]:=aB.o.keep ((ag.o.trans (q1.mono a0)).block _ aB.o.lt);refine⟨g,cap,e1,ac,q2,af,?_⟩;rw[Zmj,<-ak.o.2]
    exact ZvP (gone:=gone) W' (HS.o.fresh ac) (fun k hk=>by
     rcases hk with hk | hk
     ·have:=HK.o k hk;have:=ac.size;omega
     ·exact hk.2) (.inr ⟨by have:=q4 g e3;omega,e2.lt⟩) (.inr ⟨zat _,af.lt⟩) (fun j hj=>⟨.inr ⟨by have:=(q3 j hj).1;omega,(q3 j hj).2.lt⟩,(q3 j hj).2⟩) m.o.len af cs e2 e4 (fun q hq=>aT.o.2.2.2.2 q (by
     rw[ak.o.2] at hq
     exact(zax.1 hq).1)) (by have:=aP.o.1;have:=ad.o;omega) hN hT)
   clear an ab aC c3 aq
   go_wp2_with(at_builtin;refine(fun(h:True->_)=>h trivial) ?_)
   intro _;refine Zcv wr rfl _ _ rfl (.slice G H J) (b.map (ZjC w.heap.size)) rfl a8.o ⟨64,#[ptr p],#[]⟩ rfl aD.o ?_;intro v9 W9 l a u;obtain⟨g9,bv,rfl,ac,aN,af,aL⟩:=aX.o v9 W9 l a u;obtain⟨S,au⟩:=zgy (Qv (ZfC s++[Qq]) (s,d));rw[<-au] at aL;have br:=ZZ ac;have bo:=ZZ aN;have aO:=ZZ af;have aW:=ZZ aL;have ay:Hid (Z7 (s,d)=if S.2=0 then(({ S.1.1 with log:=s.log.letGo (Gg s) s.base.idx },S.1.2),0) else S):=ZZ (by rw[au];rfl)
   have bf:Hid (S.1.1.log=s.log):=ZZ (by rw[au,Zmj];exact ZeZ s d _)
   have aY:Hid (b.length<=s.log.pcs.length):=ZZ (by rw[m.o.len,<-bk.o];exact aP.o.1)
   have av:Hid (∀ k,(Value.slice E B C).ownBlock=some k->w.heap.size<=k∧k<W9.heap.size):=ZZ (fun k hk=>⟨by have:=m.o.lfar k hk;have:=ag.o.size;have:=aU.o;omega,(zar aN k hk).2⟩)
   clear l a u ac aN af aL au aX a8 m
   go_wp2_with fail
   refine aW.o.mono ?_;rintro e am ⟨rfl,Kd,m1,m2,m3,m4,-⟩;have bc:=aO.o.keep (m3.block _ aO.o.lt (fun hh=>hh (.inr ⟨zat _,aO.o.lt⟩)))
   obtain⟨bB,-⟩:=bc.cell 0 rfl;have ar:=ZZ (And.intro m1 m2);have bd:Hid (Ql (fun k=>¬ K k) w am):=ZZ ((Ql.ofBelow br.o).trans (m3.mono (fun k hk hn=>hk (.inl hn))) (fun _ _ h=>h))
   have a4:=ZZ m4;have bl:Hid (am.ownsRow 0 108 3 (.slice E B C) left.length (Q6 left)):=ZZ (Qh bo.o fun g hg=>m3.block g (av.o g hg).2 (fun hh=>hh (.inr (av.o g hg))))
   clear m1 m2 m3 m4 bc aW;obtain⟨⟨s1,V⟩,c⟩:=S;by_cases hc:c=0
   case neg=>
    have aG:Hid (Jz K w pd p (Z7 (s,d)) (N+2*(s.log.pcs.length+1)) T (.returned (.int .i64 c)) am):=ZZ (by
     rw[ay.o,zaa hc]
     exact⟨rfl,(a4.o.less (fun k hk=>ar.o.1 k (.inl hk))).mono (by have:=aY.o;omega) zL,bd.o⟩)
    have bw:(c != 0)=true:=by rw[zbf];exact hc
    clear hc ay;go_wp2;go_ret;exact aG.o
   subst hc;rw[zab rfl] at ay
   have a7:Hid (Calls prog 70 #[.pointer (some ⟨p,1,none⟩),.slice E B C,.int .i64 A] am fun e w'=>e=.returned (.tuple #[])∧SD K w' pd p { s1 with log:=s1.log.letGo left A } V (N+2*(b.length+1)) T∧Ql (fun k=>¬ K k) am w'):=ZZ (by
    have U:s1.log=s.log:=bf.o;obtain⟨g1,g2,g3,g4,g5⟩:=aT.o;obtain⟨q1,q2,q3,q4⟩:=g1.log.letGo (cur:=s.cur) (base:=s.base.idx) g4 g3.1 g3.2;have ab:s.log.pcs.filter (fun p=>!(decide (p.stop<=s.base.idx) && decide (p.name≠s.cur)))=left:=ak.o.1.symm
    rw[ab] at q2 q3 q4;have bn:s.log.first<=Zg left s.base.idx:=q4;have bF:s.log.next=s.log.first+s.log.recs.length:=rfl;have bD:Zg left s.base.idx+((s.log.recs.drop (Zg left s.base.idx-s.log.first).toNat).length:Nat)=s.log.next:=q3;have h0:=g1.log.f0;have ht:=g1.log.top;rw[aS.o]
    exact a4.o.letGo (fun k hk=>ar.o.1 k (.inl hk)) ar.o.2 _ left s.base.idx bl.o (fun k hk=>⟨ar.o.1 k (.inr (av.o k hk)),fun hh=>by have:=HK.o k hh;have:=(av.o k hk).1;omega⟩) (by have:=aP.o.2;have:=ad.o;omega) (by rw[U];exact g2) (by rw[U];exact g1.log.recOk) (by rw[U];exact bn) (by rw[U];omega) (by rw[U];exact h0) (by rw[U];omega))
   go_wp2_with fail
   refine a7.o.mono ?_;rintro e bm ⟨rfl,aH,aR⟩
   have aG:Hid (Jz K w pd p (Z7 (s,d)) (N+2*(s.log.pcs.length+1)) T (.returned (.int .i64 0)) bm):=ZZ (by
    rw[ay.o];have U:s1.log=s.log:=bf.o;rw[U,ak.o.1,aS.o] at aH
    exact⟨rfl,aH.mono (by have:=aY.o;omega) zL,bd.o.trans aR (fun _ _ h=>h)⟩)
   clear aH aR a7;go_wp2;go_ret;exact aG.o
  obtain⟨g,bp,d0,V,d2⟩:=aC i ai;subst bp;have Y:=ZZ (Zgw D P i ai);have X:=ZZ (Zgw (fun q=>!gp q) P i ai)
  obtain⟨q,hq⟩:=zgy (P.getD i Zj);rw[<-hq] at d0 V d2 Y X;obtain⟨t,y,v⟩:=q
  dsimp only at d0 V d2
  have HG:=ZZ (bj.o ⟨t,y,v⟩);have Z:=ZZ ai;have bA:Hid (i<P.length):=ZZ ai;clear aC hq
  go_upto_region 7 with fail
  obtain⟨O,aw⟩:=zgy (wr.alloc (.cells #[.int .i64 t,.int .i64 y,.int .i64 v] 108));rw[<-aw];have a3:Hid (Below wr.heap.size wr O):=ZZ (by rw[aw];exact Jw _ _)
  have ao:Hid (Bk 108 O wr.heap.size (pcC ⟨t,y,v⟩)):=ZZ (by rw[aw];exact zaf wr _)
  have p0:O.cell? ⟨wr.heap.size,0,none⟩=some (.int .i64 t):=(ao.o.cell 0 rfl).1;have p1:O.cell? ⟨wr.heap.size,1,none⟩=some (.int .i64 y):=(ao.o.cell 1 rfl).1;have p2:O.cell? ⟨wr.heap.size,2,none⟩=some (.int .i64 v):=(ao.o.cell 2 rfl).1;obtain⟨r2,-,bz,-⟩:=al.o O (aI.o.trans (a3.o.mono aI.o.size));clear aw r1 c3 aq d0 V d2;have aa:Hid (∀ n,Below wr.heap.size wr (O.drewN n)):=ZZ (fun n=>Xo a3.o n)
  have a6:Hid (((P.take i).filter fun q=>!gp q).length<=10000000):=ZZ (zas (length_filter_le _ _) (by rw[zbt];have:=ad.o;omega))
  have aD:Hid ((b.map (ZjC w.heap.size)).length<=10000000):=ZZ (by
   rw[length_map,m.o.len]
   exact zas (length_filter_le _ _) (by rw[zbt];have:=ad.o;omega))
  by_cases aA:v<=A
  ·by_cases ae:t=cu
   ·have z:D ⟨t,y,v⟩=false:=by rw[HG.o];simp[ae]
    have bq:(t != cu)=false:=by rw[zbj];exact ae
    rw[z,zaa (by decide),append_nil] at Y
    rw[z,zab (by decide)] at X
    clear ae z
    go_quiet(fail)
    go_wp2_with(at_builtin;refine(fun(h:True->_)=>h trivial) ?_)
    intro _;refine Zaa _ rfl _ _ rfl (.slice E B C) ((P.take i).filter fun q=>!gp q) rfl (m.o.below (aa.o _)).lrow (⟨t,y,v⟩:Pce) rfl a6.o ?_
    intro v9 W9 l a u;have R:=ZZ (m.o.leave ⟨t,y,v⟩ (aa.o _) l a u);rw[<-X.o] at R;obtain⟨a9,c9,Q⟩:=Z8 l;generalize (((P.take i).filter fun q=>!gp q)++[(⟨t,y,v⟩:Pce)]).length=n9 at Q
    subst Q;clear l a u;go_wp2;go_roundw
    case rel=>exact⟨i+1,b,G,H,J,a9,n9,c9,by go_num,by have:=Z.o;omega,rfl,rfl,by rw[Y.o];exact R⟩
    case measure=>have:=Z.o;simp[intOf];omega
   ·have z:D ⟨t,y,v⟩=true:=by rw[HG.o];simp[ae,aA]
    have bq:(t != cu)=true:=by rw[zbf];exact ae
    rw[z,zab rfl] at Y;rw[z,zaa (by decide),append_nil] at X
    clear ae z
    go_quiet(fail)
    go_wp2_with(at_builtin;refine(fun(h:True->_)=>h trivial) ?_)
    intro _;refine Zcv _ rfl _ _ rfl (.slice G H J) (b.map (ZjC w.heap.size)) rfl (m.o.below (aa.o _)).row (ZjC w.heap.size wr.heap.size) rfl aD.o ?_;intro v9 W9 l a u;have R:=ZZ (m.o.step ⟨t,y,v⟩ (aa.o _) (ao.o.keep (by rw[World.heap_drewN])) l a u)
    rw[<-Y.o] at R;obtain⟨a9,c9,Q⟩:=Z8 l;generalize (b.map (ZjC w.heap.size)++[ZjC w.heap.size wr.heap.size]).length=n9 at Q;subst Q;clear l a u;go_wp2;go_roundw
    case rel=>exact⟨i+1,b++[wr.heap.size],a9,n9,c9,E,B,C,by go_num,by have:=Z.o;omega,rfl,rfl,by rw[X.o];exact R⟩
    case measure=>have:=Z.o;simp[intOf];omega
  ·have z:D ⟨t,y,v⟩=false:=by rw[HG.o];simp[aA]
   have bG:decide (v<=A)=false:=zae aA;rw[z,zaa (by decide),append_nil] at Y
   rw[z,zab (by decide)] at X
   clear aA z
   go_quiet(fail)
   go_wp2_with(at_builtin;refine(fun(h:True->_)=>h trivial) ?_)
   intro _;refine Zaa _ rfl _ _ rfl (.slice E B C) ((P.take i).filter fun q=>!gp q) rfl (m.o.below (aa.o _)).lrow (⟨t,y,v⟩:Pce) rfl a6.o ?_
   intro v9 W9 l a u;have R:=ZZ (m.o.leave ⟨t,y,v⟩ (aa.o _) l a u);rw[<-X.o] at R;obtain⟨a9,c9,Q⟩:=Z8 l;generalize (((P.take i).filter fun q=>!gp q)++[(⟨t,y,v⟩:Pce)]).length=n9 at Q
   subst Q;clear l a u;go_wp2;go_roundw
   case rel=>exact⟨i+1,b,G,H,J,a9,n9,c9,by go_num,by have:=Z.o;omega,rfl,rfl,by rw[Y.o];exact R⟩
   case measure=>have:=Z.o;simp[intOf];omega
def Zcw:List (SDk->SDk × Int):=[Q5,ZcG,Yy,ZbN,Xm (fun d=>X3 d 1),Gs,Qq]
theorem Zgx (x:SDk):(Qq x).1.1.now=x.1.now∧(Qq x).1.1.bases=x.1.bases∧(Qq x).1.1.log=x.1.log:=by
 unfold Qq;split <;> exact⟨rfl,rfl,rfl⟩
theorem Zjb (x:SDk):(Q5 x).1.1.now=x.1.now∧(Q5 x).1.1.bases=x.1.bases∧(Q5 x).1.1.log=x.1.log:=by
 unfold Q5;split
 ·exact⟨rfl,rfl,rfl⟩
 ·have h:=ZlN x
  split
  ·rcases h with h | h
   ·show(Ye (Qv [Q1,Qx] x).1.1).now=_∧_
    rw[h];exact⟨rfl,rfl,rfl⟩
   ·show(Ye (Qv [Q1,Qx] x).1.1).now=_∧_
    rw[h];exact⟨rfl,rfl,rfl⟩
  ·rcases h with h | h
   ·rw[h];exact⟨rfl,rfl,rfl⟩
   ·rw[h];exact⟨rfl,rfl,rfl⟩
theorem ZkL (x:SDk):(Yy x).1.1.now=x.1.now∧(Yy x).1.1.bases=x.1.bases∧(Yy x).1.1.log=x.1.log:=by
 unfold Yy;split <;> exact⟨rfl,rfl,rfl⟩
theorem ZvQ (i:Nat) (x:SDk):(Zcw.getD i ZdY x).1.1.now=x.1.now∧(Zcw.getD i ZdY x).1.1.bases=x.1.bases∧(Zcw.getD i ZdY x).1.1.log=x.1.log:=by
 match i with
 | 0=>exact Zjb x
 | 1=>exact⟨rfl,rfl,rfl⟩
 | 2=>exact ZkL x
 | 3=>exact⟨rfl,rfl,rfl⟩
 | 4=>exact⟨rfl,rfl,rfl⟩
 | 5=>exact⟨rfl,rfl,rfl⟩
 | 6=>exact Zgx x
 | n+7=>exact⟨rfl,rfl,rfl⟩
theorem ZvR {gs:List (SDk->SDk × Int)} (h:∀ g ∈ gs,∀ x,(g x).1.1.now=x.1.now∧(g x).1.1.bases=x.1.bases∧(g x).1.1.log=x.1.log):∀ x,(Qv gs x).1.1.now=x.1.now∧(Qv gs x).1.1.bases=x.1.bases∧(Qv gs x).1.1.log=x.1.log:=by
 induction gs with
 | nil=>exact fun x=>⟨rfl,rfl,rfl⟩
 | cons g gs c=>
  intro x;have a:=h g zbi x;unfold Qv;split
  ·obtain⟨e,d,f⟩:=c (fun g' b=>h g' (za4 _ b)) (g x).1
   exact⟨e.trans a.1,d.trans a.2.1,f.trans a.2.2⟩
  ·exact a
theorem ZkM:∀ g ∈ Zcw,∀ x,(g x).1.1.now=x.1.now∧(g x).1.1.bases=x.1.bases∧(g x).1.1.log=x.1.log:=by
 intro g a x;obtain⟨i,b,rfl⟩:=ze0.1 a;have:=ZvQ i x
 rwa [show Zcw.getD i ZdY=Zcw[i] by simp[List.getD,b]] at this
theorem ZvS (i:Nat) (x:SDk):(Qv (Zcw.take i) x).1.1.now=x.1.now∧(Qv (Zcw.take i) x).1.1.bases=x.1.bases∧(Qv (Zcw.take i) x).1.1.log=x.1.log:=ZvR (fun g a=>ZkM g (zbq a)) x
theorem Zfa (x:SDk):(J5 x).1.1.now=x.1.now∧(J5 x).1.1.bases=x.1.bases∧(J5 x).1.1.log=x.1.log:=ZvR ZkM x
def Zfb (p R Rb:Nat) (i:Nat):Stp:=
 match i with
 | 0=>⟨27,#[ptr p],#[]⟩
 | 1=>⟨55,#[],#[.pointer (some ⟨R,0,none⟩),.pointer (some ⟨Rb,0,none⟩)]⟩
 | 2=>⟨63,#[ptr p],#[]⟩
 | 3=>⟨57,#[],#[.pointer (some ⟨R,0,none⟩),.pointer (some ⟨Rb,0,none⟩)]⟩
 | 4=>⟨58,#[],#[.pointer (some ⟨R,0,none⟩)]⟩
 | 5=>⟨60,#[],#[.pointer (some ⟨R,0,none⟩)]⟩
 | _=>⟨64,#[ptr p],#[]⟩
def ZzT (p R Rb:Nat):Array Value:=#[(Zfb p R Rb 0).val,(Zfb p R Rb 1).val,(Zfb p R Rb 2).val,(Zfb p R Rb 3).val,(Zfb p R Rb 4).val,(Zfb p R Rb 5).val,(Zfb p R Rb 6).val]
def XC (R Rb p:Nat) (n:Q0) (i:Nat) (K:Nat->Prop) (W:World):Prop:=
 ∃ v,Bk 53 W Rb #[v]∧K Rb∧K R∧Bk 28 W R #[ptr p]∧(2<=i->Rd W v (Gb n)∧(Gb n=[]∨∀ k,v.ownBlock=some k->K k))
theorem XC.keep {j:Nat} {W':World} (h:XC R Rb p n i K W) (d:2<=j->2<=i) (e:Ql (fun k=>¬ K k) W W'):XC R Rb p n j K W':=by
 obtain⟨v,m,g,f,l,a⟩:=h;exact⟨v,m.keep (e.block _ m.lt (fun b=>b g)),g,f,l.keep (e.block _ l.lt (fun b=>b f)),fun c=>⟨(a (d c)).1.keepK (a (d c)).2 e,(a (d c)).2⟩⟩
theorem XC.cell (h:XC R Rb p n i K W):W.cell? ⟨R,0,none⟩=some (ptr p):=by
 obtain⟨v,e,d,b,a,c⟩:=h;exact(a.cell 0 rfl).1
theorem ZxJ {K0 K2:Nat->Prop} {Y:Nat} (w:World) (S:K0 Y) (M:∀ k,K0 k->K2 k) (V:¬ K0 Rb) (C:Bk 153 w Y (ZzT p R Rb)) (P:∀ k,K2 k->k<w.heap.size) (H:SD K2 w pd p s d N T) (D:XC R Rb p s.now 0 K2 w) (t:ZpE s) (hN:N<=900000) (hT:T<=90000000):
 Calls prog 62 #[.slice (some ⟨Y,0,none⟩) 7 7] w fun e w'=>Ztk K0 K2 pd p (J5 (s,d)) (N+28) (T+560000) (fun _ _=>True) w e w':=by
 refine ZvO (K0:=K0) (K2:=K2) Y 7 (Zfb p R Rb) Zcw (s,d) N T 4 80000 w (XC R Rb p s.now) (by decide) S (ZzT p R Rb) C ?_ P H D ?_ ?_
 ·intro i n
  match i,n with
  | 0,_=>rfl
  | 1,_=>rfl
  | 2,_=>rfl
  | 3,_=>rfl
  | 4,_=>rfl
  | 5,_=>rfl
  | 6,_=>rfl
 ·intro i n g W L b X I f a
  have j:∀ k,K0 k->g k:=fun k hk=>L k (M k hk)
  have m:=(ZvS i (s,d)).1;have A:i=0->ZpE (Qv (Zcw.take i) (s,d)).1.1:=fun e=>by rw[e];exact t
  generalize (Qv (Zcw.take i) (s,d)).1=y at f m A ⊢;obtain⟨s',d'⟩:=y
  dsimp only at f m A
  generalize s.now=Z at m a ⊢;clear I H D C t;have Q:i=0∨i=1∨i=2∨i=3∨i=4∨i=5∨i=6:=by have:i<7:=n;omega
  rcases Q with rfl | rfl | rfl | rfl | rfl | rfl | rfl
  ·show Calls prog 27 #[ptr p] W fun e w'=>Ztk K0 g pd p (Q5 (s',d')) _ _ _ W e w'
   refine zcl (ZeO W f b (A rfl)) ?_;intro e w' h;exact h.seqD b j (by omega) (by omega) fun c=>a.keep (by omega) c
  ·show Calls prog 55 #[.pointer (some ⟨R,0,none⟩),.pointer (some ⟨Rb,0,none⟩)] W fun e w'=>Ztk K0 g pd p (ZcG (s',d')) _ _ _ W e w'
   obtain⟨v,q,u,x,l,z⟩:=id a;refine zcl (Zqe (R:=R) (Rb:=Rb) W f a.cell q u) ?_;rintro e w' ⟨rfl,v',U,G,J,O,B⟩;rw[m] at G
   have K:R≠Rb:=fun e=>by
    rw[e] at l;exact l.ne q (by decide) rfl
   refine⟨rfl,_,fun k hk=>.inl hk,fun k hk=>?_,B.mono (fun k hk t=>V (by rw[<-hk];exact t)),O.mono (by omega) (by omega),fun _=>⟨v',U,.inl u,.inl x,l.keep (B.block _ l.lt K),fun _=>⟨G,.inr fun k hk=>.inr (J k hk)⟩⟩⟩
   rcases hk with hk | hk
   ·exact zav (b k hk) B.size
   ·exact hk.2
  ·show Calls prog 63 #[ptr p] W fun e w'=>Ztk K0 g pd p (Yy (s',d')) _ _ _ W e w'
   refine zcl (ZsI W f b (by omega) (by omega)) ?_
   intro e w' h;exact h.seqD b j (by omega) (by omega) fun c=>a.keep (by omega) c
  ·show Calls prog 57 #[.pointer (some ⟨R,0,none⟩),.pointer (some ⟨Rb,0,none⟩)] W fun e w'=>Ztk K0 g pd p (ZbN (s',d')) _ _ _ W e w'
   obtain⟨v,q,u,x,l,z⟩:=id a;obtain⟨E,F⟩:=z (by decide)
   rw[<-m] at E F;refine zcl (Ztm (R:=R) (Rb:=Rb) W f b a.cell q E F (by omega) (by omega)) ?_
   intro e w' h;exact h.seqD b j (by omega) (by omega) fun c=>a.keep (by omega) c
  ·show Calls prog 58 #[.pointer (some ⟨R,0,none⟩)] W fun e w'=>Ztk K0 g pd p (Xm (fun d=>X3 d 1) (s',d')) _ _ _ W e w'
   refine zcl (ZpK (R:=R) W f b a.cell) ?_;intro e w' h;exact h.seqD b j (by omega) (by omega) fun c=>a.keep (by omega) c
  ·show Calls prog 60 #[.pointer (some ⟨R,0,none⟩)] W fun e w'=>Ztk K0 g pd p (Gs (s',d')) _ _ _ W e w'
   obtain⟨v,q,u,x,l,z⟩:=id a;refine zcl (ZpL (R:=R) W f b a.cell x (by omega) (by omega)) ?_
   intro e w' h;exact h.seqD b j (by omega) (by omega) fun c=>a.keep (by omega) c
  ·show Calls prog 64 #[ptr p] W fun e w'=>Ztk K0 g pd p (Qq (s',d')) _ _ _ W e w'
   refine zcl (ZcM W f b) ?_;intro e w' h;exact h.seqD b j (by omega) (by omega) fun c=>a.keep (by omega) c
 ·intro i n
  match i,n with
  | 0,_=>exact enters_of func27 (by kernel_rfl) rfl
  | 1,_=>exact enters_of func55 (by kernel_rfl) rfl
  | 2,_=>exact enters_of func63 (by kernel_rfl) rfl
  | 3,_=>exact enters_of func57 (by kernel_rfl) rfl
  | 4,_=>exact enters_of func58 (by kernel_rfl) rfl
  | 5,_=>exact enters_of func60 (by kernel_rfl) rfl
  | 6,_=>exact enters_of func64 (by kernel_rfl) rfl
def ZxK (w:World) (s:St) (e:Ending) (w':World):Prop:=∃ vl,e=.returned (.agg #[.int .i64 s.kind,vl,.bool s.shut,.int .i64 s.eng])∧RdI w' vl s.L∧I64 s.kind∧I64 s.eng∧(∀ b,vl.ownBlock=some b->w.heap.size<=b)∧Below w.heap.size w w'
theorem ZkN (kind:Int) (w:World):Calls prog 16 #[.int .i64 kind] w fun e w'=>ZxK w (J9 kind) e w':=by
 have l:I64 0:=Qo (by decide) (by decide)
 have f:Hid (∀ x,Below w.heap.size w (w.alloc x)):=fun x=>(zac _ _).alloc zL x
 have m:Hid (∀ x y,Below w.heap.size w ((w.alloc x).alloc y)):=fun x y=>(f.o x).alloc (by simp) y
 have c:=Qc l;clear l;by_cases i:kind<0∨6<=kind
 ·have d:Hid (J9 kind=⟨0,[],false,0⟩):=zab i
  rw[d.o];have z:(kind == 0)=false:=zad.2 (by omega)
  have q:(kind == 1)=false:=zad.2 (by omega)
  have u:(kind == 2)=false:=zad.2 (by omega)
  have B:(kind == 3)=false:=zad.2 (by omega)
  have A:(kind == 4)=false:=zad.2 (by omega)
  have t:(kind == 5)=false:=zad.2 (by omega)
  clear i d
  go_enter func16,ntmps16
  go_wp2;refine zap (v:=.agg #[.int .i64 0,.slice none 0 0,.bool false,.int .i64 0]) (by simp[results,Tryz.results16,go_sem]) rfl ?_
  exact⟨_,rfl,RdI.nil _,c.out,c.out,(fun b a=>by cases a),f.o _⟩
 ·have g:Hid (I64 kind):=Qo (by omega) (by omega)
  by_cases j:kind<=1
  ·have d:Hid (J9 kind=⟨kind,[0],false,0⟩):=by
    unfold J9;rw[zaa i,zab j];exact rfl
   rw[d.o];have k:kind=0∨kind=1:=by omega
   clear i j d
   have n:Hid (∀ x,RdI ((w.alloc x).alloc (.cells #[.int .i64 0] 3)) (.slice (some ⟨w.heap.size+1,0,none⟩) 1 1) [0]):=fun x=>by
    have h:=RdI.one (w.alloc x) 0 c.out;have e:(w.alloc x).heap.size=w.heap.size+1:=by simp
    rwa [e] at h
   rcases k with rfl | rfl
   ·go_enter func16,ntmps16
    go_wp2;refine zap (v:=.agg #[.int .i64 0,.slice (some ⟨w.heap.size+1,0,none⟩) 1 1,.bool false,.int .i64 0]) (by simp[results,Tryz.results16,go_sem]) rfl ?_
    exact⟨_,rfl,n.o _,g.o,c.out,(fun b a=>by have p:w.heap.size+1=b:=zak a;omega),m.o _ _⟩
   ·go_enter func16,ntmps16
    go_wp2;refine zap (v:=.agg #[.int .i64 1,.slice (some ⟨w.heap.size+1,0,none⟩) 1 1,.bool false,.int .i64 0]) (by simp[results,Tryz.results16,go_sem]) rfl ?_
    exact⟨_,rfl,n.o _,g.o,c.out,(fun b a=>by have p:w.heap.size+1=b:=zak a;omega),m.o _ _⟩
  ·have d:Hid (J9 kind=⟨kind,[],false,0⟩):=by
    unfold J9;rw[zaa i,zaa j];exact rfl
   rw[d.o];have k:kind=2∨kind=3∨kind=4∨kind=5:=by omega
   clear i j d;rcases k with rfl | rfl | rfl | rfl
   ·go_enter func16,ntmps16
    go_wp2;refine zap (v:=.agg #[.int .i64 2,.slice none 0 0,.bool false,.int .i64 0]) (by simp[results,Tryz.results16,go_sem]) rfl ?_
    exact⟨_,rfl,RdI.nil _,g.o,c.out,(fun b a=>by cases a),f.o _⟩
   ·go_enter func16,ntmps16
    go_wp2;refine zap (v:=.agg #[.int .i64 3,.slice none 0 0,.bool false,.int .i64 0]) (by simp[results,Tryz.results16,go_sem]) rfl ?_
    exact⟨_,rfl,RdI.nil _,g.o,c.out,(fun b a=>by cases a),f.o _⟩
   ·go_enter func16,ntmps16
    go_wp2;refine zap (v:=.agg #[.int .i64 4,.slice none 0 0,.bool false,.int .i64 0]) (by simp[results,Tryz.results16,go_sem]) rfl ?_
    exact⟨_,rfl,RdI.nil _,g.o,c.out,(fun b a=>by cases a),f.o _⟩
   ·go_enter func16,ntmps16
    go_wp2;refine zap (v:=.agg #[.int .i64 5,.slice none 0 0,.bool false,.int .i64 0]) (by simp[results,Tryz.results16,go_sem]) rfl ?_
    exact⟨_,rfl,RdI.nil _,g.o,c.out,(fun b a=>by cases a),f.o _⟩
structure Gt (w:World) (I:Nat->Prop) (v:Value) (l:List Int) (bv:Value) (bs:List (Q0 × Value × Value)) (wr:World):Prop where
 row:wr.ownsRow 0 41 6 bv bs.length (Xv bs)
 far:∀ k,bv.ownBlock=some k->w.heap.size<=k
 each:∀ x ∈ bs,SnR wr x
 ibs:∀ x ∈ bs,Zmp I x
 lo:∀ k,I k->w.heap.size<=k
 ltI:∀ k,I k->k<wr.heap.size
 dis:∀ k,I k->bv.ownBlock≠some k
 nms:Qs wr w.heap.size v l
 old:Below w.heap.size w wr
theorem Gt.ltB (h:Gt w I v l bv bs wr):∀ k,bv.ownBlock=some k->k<wr.heap.size:=fun k a=>by
 obtain⟨c,b⟩:=X0 h.row a;exact b.lt
theorem Gt.below {w':World} (h:Gt w I v l bv bs wr) (a:Below wr.heap.size wr w'):Gt w I v l bv bs w':=
 ⟨Qh h.row fun k b=>a.block k (h.ltB k b),h.far,fun x c=>(h.each x c).below a zL,h.ibs,h.lo,fun k b=>zav (h.ltI k b) a.size,h.dis,h.nms.below a zL,h.old.trans (a.mono h.old.size)⟩
theorem Gt.add (h:Gt w I v l bv bs wr) (n:Below wr.heap.size wr W) (x:Q0 × Value × Value) (A:SnR W x)
 (j:Zmp (fun k=>wr.heap.size<=k∧k<W.heap.size) x) {f:Value} {w':World} (z:w'.ownsRow 0 41 6 f (bs++[x]).length (Xv (bs++[x]))) (i:(W.alloc (.cells (snC x) 41)).grownBy w' bv.ownBlock) (hv:f.ownBlock=bv.ownBlock∨f.ownBlock=some (W.heap.size+1)):
 Gt w (fun k=>I k∨(wr.heap.size<=k∧k<W.heap.size)) v l f (bs++[x]) w':=by
 have D:=n.size;have C:=h.old.size;have B:W.heap.size+1<=w'.heap.size:=by have:=i.size;simpa using this
 have hk:∀ k,k<W.heap.size->bv.ownBlock≠some k->w'.heap[k]?=W.heap[k]?:=fun k hk p=>by
  rw[i.block k (by simp;omega) (fun e=>p e.symm),zao _ _ _ hk]
 have b:=h.below n
 have a:∀ k,(I k∨(wr.heap.size<=k∧k<W.heap.size))->k<W.heap.size∧bv.ownBlock≠some k:=fun k hk=>by
  rcases hk with hk | hk
  ·exact⟨b.ltI k hk,h.dis k hk⟩
  ·refine⟨hk.2,fun e=>?_⟩
   have:=h.ltB k e;omega
 refine⟨z,fun k hk'=>?_,fun y hy=>?_,fun y hy=>?_,fun k hk'=>?_,fun k hk'=>?_,fun k hk' e=>?_,Qh b.nms fun k hk'=>?_,b.old.trans ?_⟩
 ·rcases hv with hv | hv
  ·exact h.far k (by rw[<-hv];exact hk')
  ·rw[hv] at hk'
   have:=zak hk';omega
 ·rcases zaw.1 hy with hy | hy
  ·exact(b.each y hy).keep (h.ibs y hy) fun g d=>hk g (a g (.inl d)).1 (a g (.inl d)).2
  ·rw[zaq.1 hy]
   exact A.keep j fun g d=>hk g (a g (.inr d)).1 (a g (.inr d)).2
 ·rcases zaw.1 hy with hy | hy
  ·exact(h.ibs y hy).mono fun k hk'=>.inl hk'
  ·rw[zaq.1 hy]
   exact j.mono fun k hk'=>.inr hk'
 ·rcases hk' with hk' | hk'
  ·exact h.lo k hk'
  ·omega
 ·have:=(a k hk').1
  omega
 ·have t:=a k hk'
  rcases hv with hv | hv
  ·exact t.2 (by rw[<-hv];exact e)
  ·rw[hv] at e
   have:=zak e;omega
 ·obtain⟨c,m⟩:=X0 b.nms hk'
  refine hk k m.lt fun e=>?_
  obtain⟨c',q⟩:=X0 b.row e;exact(m.ne q (by decide)) rfl
 ·exact(Ql.trans (F:=fun k=>bv.ownBlock=some k) ((Ql.refl _ W).alloc _) (Ql.ofGrown (F:=fun k=>bv.ownBlock=some k) i fun k e _=>e) (fun _ _ u=>u)).below (by omega) fun k e=>h.far k e
def Zdp (d:Dk) (kind:Int) (l:List Int) (q:Nat):List Q0:=(l.take q).foldl (Js d kind) [Zn kind]
theorem ZkO (d:Dk) (kind:Int) (l:List Int) (q:Nat) (a:q<l.length):Zdp d kind l (q+1)=Js d kind (Zdp d kind l q) (l.getD q 0):=by
 unfold Zdp;rw[zb4,zdf,show l.getD q 0=l[q] by simp[List.getD,a]]
 simp[a]
theorem Zoc (d:Dk) (kind:Int) (l:List Int) (q:Nat) (a:q=l.length):Zdp d kind l q=l.foldl (Js d kind) [Zn kind]:=by
 subst a;unfold Zdp;rw[zb1]
theorem Zqi (d:Dk) (kind:Int) (l:List Q0) (n:Int):(Js d kind l n).length<=l.length+1:=by
 unfold Js;split
 ·simp
 ·omega
theorem Zjc (d:Dk) (kind:Int) (l:List Int):∀ q,q<=l.length->(Zdp d kind l q).length<=q+1
 | 0,_=>by simp[Zdp]
 | q+1,h=>by
  rw[ZkO d kind l q (by omega)]
  have:=Zqi d kind (Zdp d kind l q) (l.getD q 0);have:=Zjc d kind l q (by omega)
  omega
def Zod (w:World) (l:List Q0) (e:Ending) (w':World):Prop:=
 ∃ bv bs I v0 l0,e=.returned bv∧bs.map Prod.fst=l∧Gt w I v0 l0 bv bs w'
theorem Zmk {F:Nat->Prop} (kind:Int) (w:World) (h:Dsk F w p d N T) (hN:N<=1000000) (hT:T<=1000000000) (ax:∀ n,(Zp d n).1.length<=90000):
 Calls prog 34 #[ptr p,.int .i64 kind] w fun e w'=>Zod w (Yi d kind) e w':=by
 have af:=ZZ (fun W (hb:Below w.heap.size w W)=>Zcj 3 W (h.below hb) hN (by omega) (by omega))
 have a0:=ZZ (fun n (S:I64 n) W (hb:Below w.heap.size w W)=>Zna n S W (h.below hb) hT)
 have aY:=ZZ (fun n Z W (hr:Rd W Z (Zp d n).1)=>ZpZ Z _ W hr (by have:=ax n;omega))
 have HI:Hid (∀ n ∈ Xk (Qk d) 3,I64 n):=ZZ (by
  obtain⟨L,g1,P,-⟩:=h
  exact fun n S=>by
   have:=Zbg P n (zax.1 S).1
   exact⟨by omega,by omega⟩)
 have ad:Hid ((Xk (Qk d) 3).length<=1000000):=ZZ (by
  obtain⟨L,g1,P,g3,-⟩:=h;have h3:=Zbt d d.waits.length;rw[Zdc] at h3;have:=g3.names;refine zas (length_filter_le _ _) ?_;unfold Qk;rw[length_map]
  omega)
 have av:Yi d kind=(Xk (Qk d) 3).foldl (Js d kind) [Zn kind]:=rfl;rw[av];clear h ax av;obtain⟨l,hl⟩:=zgy (Xk (Qk d) 3);rw[<-hl] at af HI ad ⊢;clear hl;have ay:=ZZ (ZkN kind w)
 go_enter func34,ntmps34
 go_wp2_with fail
 refine ay.o.mono ?_;rintro e f ⟨vl,rfl,ac,ar,aB,aE,D⟩;obtain⟨la,lc,aR,-⟩:=id ac;subst aR;obtain⟨i,R⟩:∃ i:Q0 × Value × Value,i=(Zn kind,.slice la (J9 kind).L.length lc,.slice none 0 0):=⟨_,rfl⟩;obtain⟨z,E⟩:=zgy (f.alloc (.cells #[.int .i64 0,.int .i64 (J9 kind).kind,.slice la (J9 kind).L.length lc,.bool (J9 kind).shut,.int .i64 (J9 kind).eng,.slice none 0 0] 41));have G:Hid (Below w.heap.size w z):=ZZ (by rw[E];exact D.alloc D.size _)
 have az:Hid (Below f.heap.size f z):=ZZ (by rw[E];exact Jw _ _)
 have a5:z.heap.size=f.heap.size+1:=by rw[E];simp
 have aF:Hid (z.ownsRow 0 41 6 (.slice (some ⟨f.heap.size,0,none⟩) 1 1) [i].length (Xv [i])):=ZZ (by
  have y:=zgg (base:=0) (e:=41) f (snC i) 1 (zai _) (by unfold maxLen;omega) (size:=6) rfl
  rw[E];have h8:Xv [i]=(snC i).toList:=by simp[Xv]
  rw[h8];rw[R] at y ⊢
  exact y)
 have aP:Hid (SnR f i):=ZZ (by rw[R];exact⟨ac,RdE.nil _,ar,aB,(Qo (by decide) (by decide):I64 0)⟩)
 have aO:Hid (Zmp (fun k=>w.heap.size<=k∧k<f.heap.size) i):=ZZ (by
  rw[R];refine⟨?_,.inl rfl⟩;rcases ac.block with hb0 | ⟨-,k,b,H⟩
  ·exact .inl hb0
  ·refine .inr fun g t=>⟨aE g t,?_⟩
   have ag:(Value.slice la (J9 kind).L.length lc).ownBlock=some g:=t;rw[ag] at b;obtain rfl:=zak b
   exact H)
 have aM:Hid (i.1=Zn kind):=ZZ (by rw[R])
 have B:Hid (w.heap.size<=f.heap.size):=ZZ D.size;clear ac ar aB aE D ay R;generalize (J9 kind).kind=sk at *;generalize (J9 kind).L.length=sl at *;generalize (J9 kind).shut=ss at *;generalize (J9 kind).eng=se at *
 go_upto_region 2 with fail
 rw[<-E];clear E
 go_wp2_with fail
 refine(af.o z G.o).mono ?_;rintro e W3 ⟨v3,rfl,ai,M⟩
 have aj:Hid (Gt w (fun k=>w.heap.size<=k∧k<f.heap.size) v3 l (.slice (some ⟨f.heap.size,0,none⟩) 1 1) [i] W3):=ZZ (by
  have a7:=M.size;have a9:=B.o;refine⟨Qh aF.o fun k b=>M.block k ?_,fun k b=>?_,fun x m=>?_,fun x m=>?_,fun k b=>b.1,fun k b=>by omega,fun k b e=>?_,ai.mono G.o.size,G.o.trans (M.mono G.o.size)⟩
  ·have y:f.heap.size=k:=zak b
   omega
  ·have y:f.heap.size=k:=zak b
   omega
  ·rw[zaq.1 m]
   exact(aP.o.below az.o zL).below M zL
  ·rw[zaq.1 m]
   exact aO.o
  ·have y:f.heap.size=k:=zak e
   omega)
 obtain⟨a3,c3,aV⟩:∃ a c,v3=.slice a l.length c:=ai.shape;subst aV;obtain⟨j,ab⟩:=zgy l.length;rw[<-ab] at aj ad;rw[<-ab];have aG:=ZZ ab;have bd:=ad.o;have ba:(j:Int)<=1000000:=by omega
 clear ai M af ab aP aO aF az G B a5;go_wp2
 go_loopw[5,19] (fun Z vi wr=>∃ (q:Nat) (a:Option Addr) (n c:Nat) (I:Nat->Prop) (bs:List (Q0 × Value × Value)),vi=.int .i64 (q:Int)∧q<=j∧Z=.slice a n c∧Hid (bs.map Prod.fst=Zdp d kind l q)∧Hid (Gt w I (.slice a3 j c3) l (.slice a n c) bs wr)) (fun _ vi _=>j-(intOf vi).toNat)
 case atStart=>exact⟨0,_,_,_,_,_,rfl,zai _,rfl,ZZ (by rw[zd9,aM.o];rfl),aj⟩
 case round=>
  obtain⟨q,a,n,c,I,bs,rfl,hq,rfl,O,A⟩:=hrel;clear aj aM;by_cases H:q<j
  case neg=>
   have e:q=j:=by omega
   have HF:Hid (Zod w (l.foldl (Js d kind) [Zn kind]) (.returned (.slice a n c)) wr):=ZZ ⟨_,bs,I,_,_,rfl,O.o.trans (Zoc d kind l q (e.trans aG.o)),A.o⟩;subst e;clear A O;go_wp2
   try rw[zeq]
   go_ret;exact HF.o
  have U:q<l.length:=by rw[<-aG.o];exact H
  have a8:(q:Int)<(j:Int):=by omega
  have HS:Hid (Zdp d kind l (q+1)=Js d kind (Zdp d kind l q) (l.getD q 0)):=ZZ (ZkO d kind l q U)
  have aX:Hid (bs.length<=10000000):=ZZ (by
   have y:=Zjc d kind l q (by omega)
   rw[<-O.o,length_map] at y
   omega)
  obtain⟨nq,am⟩:=zgy (l.getD q 0);obtain⟨ao,cap,aU,-,-,-,-,ap⟩:=A.o.nms.rd HI.o
  injection aU with e1 e2 e3
  rcases ap with ap | ⟨bb,a6,aZ,hc⟩
  ·rw[ap] at U;simp at U
  subst e1;subst aZ;have cx:=hc q U;rw[<-am] at cx HS
  have aQ:Hid (I64 nq):=ZZ (HI.o nq (by
   rw[am,show l.getD q 0=l[q] by simp[List.getD,U]]
   exact zcs _))
  clear hc e2 e3 am;have aq:=ZZ (a0.o nq aQ.o wr A.o.old)
  go_wp2_with fail
  refine aq.o.mono ?_;rintro e W4 ⟨v4,rfl,ak,aL⟩;have aN:=ZZ (A.o.below aL);have aD:=ZZ ak.rd;obtain⟨a4,c4,a1,-⟩:=ak.rd;subst a1;clear ak aL aq A cx;have aw:=ZZ (aY.o nq _ W4 aD.o);have B:Hid (Zdp d kind l (q+1)=if(ZmE (Zp d nq).1).2=0∧(ZmE (Zp d nq).1).1.st.kind=kind then Zdp d kind l q++[(ZmE (Zp d nq).1).1] else Zdp d kind l q):=ZZ (by rw[HS.o];rfl)
  generalize (Zp d nq).2=er at *;generalize ZmE (Zp d nq).1=dn at *;generalize aS:(Zp d nq).1.length=bc at *;obtain⟨⟨V,⟨kd,L,sh,eg⟩,tb⟩,aa⟩:=dn;clear aS
  dsimp only at B
  go_wp2_with fail
  refine aw.o.mono ?_;rintro e u ⟨vx,vu,rfl,K,r2,r3,J,r5,g1,P,al⟩
  dsimp only at K r2 r3 J r5 ⊢
  have aC:Hid (SnR u (⟨V,⟨kd,L,sh,eg⟩,tb⟩,vx,vu)):=ZZ ⟨K,J,r2,r3,r5⟩
  have aI:Hid (Zmp (fun k=>W4.heap.size<=k∧k<u.heap.size) (⟨V,⟨kd,L,sh,eg⟩,tb⟩,vx,vu)):=ZZ (by
   refine⟨?_,?_⟩
   ·rcases K.block with hb0 | ⟨-,k,b,H⟩
    ·exact .inl hb0
    ·refine .inr fun g t=>⟨g1 g t,?_⟩
     have ag:vx.ownBlock=some g:=t;rw[ag] at b;obtain rfl:=zak b;exact H
   ·rcases J.block with hb0 | hb0
    ·exact .inl hb0
    ·exact .inr fun g t=>⟨P g t,hb0 g t⟩)
  have aA:=ZZ al;have a2:=ZZ (aN.o.below al);obtain⟨xa,xc,m,-⟩:=id K;obtain⟨ua,uc,hu⟩:=J.shape;subst m hu;clear aw aD K r2 r3 J r5 g1 P al;generalize L.length=xl at *;generalize tb.length=ul at *;obtain⟨x,m⟩:∃ x:Q0 × Value × Value,x=(⟨V,⟨kd,L,sh,eg⟩,tb⟩,.slice xa xl xc,.slice ua ul uc):=⟨_,rfl⟩;have HX:=ZZ m;rw[<-m] at aC aI;clear m;have Y:Hid (∀ X,Gt w I (.slice (some ⟨bb,a6,none⟩) j c3) l (.slice a n c) bs (u.alloc X)):=ZZ (fun X=>a2.o.below (Jw _ _))
  have ae:Hid (¬ (aa=0∧kd=kind)->bs.map Prod.fst=Zdp d kind l (q+1)):=ZZ (fun S=>by rw[O.o,B.o,zaa S])
  by_cases v:aa=0
  case neg=>
   have hb0:(aa == 0)=false:=zad.2 v;have Q:=ZZ (ae.o fun hh=>v hh.1)
   clear v;go_wp2;go_roundw
   case rel=>exact⟨q+1,a,n,c,I,bs,by go_num,by omega,rfl,Q,ZZ (Y.o _)⟩
   case measure=>simp[intOf];omega
  have hb0:(aa == 0)=true:=by rw[za8];exact v
  by_cases C:kd=kind
  case neg=>
   have D:(kd == kind)=false:=zad.2 C;have Q:=ZZ (ae.o fun hh=>C hh.2)
   clear v C;go_wp2;go_roundw
   case rel=>exact⟨q+1,a,n,c,I,bs,by go_num,by omega,rfl,Q,ZZ (Y.o _)⟩
   case measure=>simp[intOf];omega
  have D:(kd == kind)=true:=by rw[za8];exact C
  have Q:Hid ((bs++[x]).map Prod.fst=Zdp d kind l (q+1)):=ZZ (by
   rw[B.o,zab ⟨v,C⟩,zc0,O.o,HX.o]
   rfl)
  have aT:Hid (SlX x):=ZZ (by rw[HX.o];exact⟨_,_,_,_,_,_,rfl,rfl⟩)
  have aH:Hid (snC x=#[.int .i64 V,.int .i64 kd,.slice xa xl xc,.bool sh,.int .i64 eg,.slice ua ul uc]):=ZZ (by rw[HX.o];rfl)
  clear v C
  go_wp2_with(at_builtin;refine(fun(h:True->_)=>h trivial) ?_)
  intro _;rw[<-aH.o];have au:Hid (Value.slice (some ⟨u.heap.size+1,0,none⟩) 1 1=.slice (some ⟨(u.alloc (.cells (snC x) 41)).heap.size,0,none⟩) 1 1):=ZZ (by simp)
  refine ZgN (u.alloc (.cells (snC x) 41)) rfl _ _ rfl (.slice a n c) bs rfl (Y.o _).row x aT.o (by exact au.o) aX.o ?_
  intro v7 W7 an aJ aK;have aW:=ZZ (aN.o.add (aA.o.trans ((Jw _ _).mono aA.o.size)) x (aC.o.below (Jw u (.cells (snC x) 41)) zL) (aI.o.mono fun k b=>⟨b.1,by simp;omega⟩) an aJ aK)
  obtain⟨y1,y3,hy⟩:=Z8 an;generalize (bs++[x]).length=y2 at hy;subst hy;clear an aJ aK au aH Y ae;go_wp2;go_roundw
  case rel=>exact⟨q+1,y1,y2,y3,_,bs++[x],by go_num,by omega,rfl,Q,aW⟩
  case measure=>simp[intOf];omega
theorem Zgy (first:Int):∀ (B:List (List UInt8)) (a:List Rec),(∀ r ∈ a,Qz r)->∀ r ∈ Ys first B a,Qz r
 | [],a,h=>by
  rw[Ys];exact h
 | d::t,a,h=>by
  rw[ZaC]
  cases hd:ZdK d with
  | none=>exact h
  | some l=>
   dsimp only
   split
   ·refine Zgy first t (a++l) fun r hr=>?_
    rcases zaw.1 hr with hr | hr
    ·exact h r hr
    ·exact(ZfA hd).1.2.2.1 r hr
   ·exact h
theorem ZxL {H:List UInt8} (a:ZbB H kind=some f):f<4611686018427387904:=by
 unfold ZbB at a;split at a
 ·rename_i v k c b
  split at a
  ·have:=(Zcl b).2.2.2.2
   rw[<-zak a];exact this
  ·cases a
 ·cases a
theorem ZvT {b:List UInt8} {l:List Rec} (h:ZoH b kind=some (f,l)):f<4611686018427387904∧∀ r ∈ l,Qz r:=by
 rw[Zmh] at h;unfold Zqb at h
 cases hL:(Qp b).1 with
 | nil=>rw[hL] at h;cases h
 | cons H B=>
  rw[hL] at h
  dsimp only at h
  cases hh:ZbB H kind with
  | none=>rw[hh] at h;cases h
  | some d=>
   rw[hh] at h;have a:=zak h
   injection a with e1 e2
   subst e1;exact⟨ZxL hh,by rw[<-e2];exact Zgy _ B [] fun r c=>by cases c⟩
end Go.Proofs.YtnahjngbneicaaaGreatDoor
