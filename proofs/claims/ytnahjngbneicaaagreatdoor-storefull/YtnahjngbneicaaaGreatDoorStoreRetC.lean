import Derived.Test.YtnahjngbneicaaaGreatDoorStoreRetB
namespace Go.Proofs.YtnahjngbneicaaaGreatDoor
set_option linter.unusedSimpArgs false
open _root_.Go.Proofs.Tryz
open List (append_nil length_filter_le length_map)
set_option maxRecDepth 100000
open Go.RowKit
theorem ZmH (s:Sto):ZeH s++[Qp]=((s.log.pcs.filter (ZeG s)).map fun q=>Xo (fun d=>Qi d q.name))++[Qp]:=rfl
theorem Zft (s:Sto) (d:Dk) (gone:List Pce):(Qv ((gone.map fun q:Pce=>Xo (fun d=>Qi d q.name))++[Qp]) (s,d)).1.1.log=s.log:=by
 have h:∀ (gs:List (SDk->SDk × Int)),(∀ g ∈ gs,∀ x,(g x).1.1.log=x.1.log)->∀ x,(Qv gs x).1.1.log=x.1.log:=by
  intro gs
  induction gs with
  | nil=>exact fun _ x=>rfl
  | cons g gs b=>
   intro hg x;have a:=hg g zbp x;unfold Qv;split
   ·exact(b (fun g' c=>hg g' (za6 _ c)) (g x).1).trans a
   ·exact a
 refine h _ (fun g hg x=>?_) (s,d)
 rcases za2.1 hg with hg | hg
 ·obtain⟨q,-,rfl⟩:=zbm.1 hg
  rfl
 ·rw[zaw.1 hg]
  unfold Qp;split <;> rfl
set_option maxHeartbeats 8000000 in
theorem ZqQ {K:Nat->Prop} {pd p:Nat} {s:Sto} {d:Dk} {N T:Nat} (w:World) (h:SD K w pd p s d N T) (hK:∀ k,K k->k<w.heap.size) (aZ:OkS s) (aM:s.bases.length≠0) (br:s.bases.length<=1000000) (bf:s.log.pcs.length<=100000) (a5:s.log.recs.length<=1000000) (hf:s.log.first<=s.base.idx∧s.base.idx<=s.next) (aR:∀ q ∈ s.log.pcs.dropLast,q.name≠s.cur) (be:∀ q ∈ s.log.pcs,I64 q.name) (hN:N<=700000) (hT:T<=900000000):
 Calls prog 29 #[ptr p] w fun e w'=>J3 K w pd p (Zn (s,d)) (N+2*(s.log.pcs.length+1)) T e w':=by
 obtain⟨z,al⟩:=zg7 (w.alloc (.cells #[ptr p] 28));have aC:Hid (Below w.heap.size w z):=ZZ (by rw[al];exact Z3 _ _)
 have ap:Hid (Bk 28 z w.heap.size #[ptr p]):=ZZ (by rw[al];exact zak w _)
 have aX:Hid (z.heap.size=w.heap.size+1):=ZZ (by rw[al];simp)
 have HS:=ZZ h;have HK:=ZZ hK;obtain⟨F,M,I,L,m,a,-⟩:=h;have aQ:Hid (Calls prog 37 #[ptr p] z fun e w'=>e=.returned (snV (Zbm L.bs))∧Below z.heap.size z w'):=ZZ (Zmc z (a.below aC.o) aM (by omega))
 obtain⟨D,aB⟩:=zg7 s.base.idx
 obtain⟨kd,la,ln,lc,sh,eg,ta,tn,tc,a8⟩:∃ kd la ln lc sh eg ta tn tc,snV (Zbm L.bs)=.agg #[.int .i64 D,.int .i64 kd,.slice la ln lc,.bool sh,.int .i64 eg,.slice ta tn tc]:=by
  have hl:L.bs.length≠0:=by rw[<-length_map (f:=Prod.fst),a.bsEq];exact aM
  obtain⟨la,ln,lc,ta,tn,tc,e1,e2⟩:=(a.base _ (ZeU hl)).shape;refine⟨(Zbm L.bs).1.st.kind,la,ln,lc,(Zbm L.bs).1.st.shut,(Zbm L.bs).1.st.eng,ta,tn,tc,?_⟩;unfold snV snC;rw[e1,e2,aB,<-ZfY a.bsEq]
 rw[a8] at aQ;obtain⟨pa,pc,aA⟩:=Je a.pcs
 have ai:Hid (∀ W,Below z.heap.size z W->W.cell? ⟨w.heap.size,0,none⟩=some (ptr p)∧W.cell? ⟨p,3,none⟩=some (.slice pa s.log.pcs.length pc)∧W.cell? ⟨p,12,none⟩=some (.int .i64 s.cur)∧
  ∀ j,j<s.log.pcs.length->∃ g,pa=some ⟨g,0,none⟩∧W.cell? ⟨g,j*3,none⟩=some (.int .i64 (s.log.pcs.getD j Zm).name)∧W.cell? ⟨g,j*3+1,none⟩=some (.int .i64 (s.log.pcs.getD j Zm).first)∧W.cell? ⟨g,j*3+2,none⟩=some (.int .i64 (s.log.pcs.getD j Zm).stop)):=ZZ (fun W hW=>by
  have hr:=((ap.o.keep (hW.block _ ap.o.lt)).cell 0 rfl).1;have v:=(a.below aC.o).below hW;obtain⟨-,-,-,c3,-,-,-,aw,-⟩:=v.cs;refine⟨hr,by rw[<-aA];exact c3,aw,fun j hj=>?_⟩
  obtain⟨g,cap,hv,d0,X,d2⟩:=ZzW v.pcs j hj;have ao:L.pv=.slice (some ⟨g,0,none⟩) s.log.pcs.length cap:=hv;rw[aA] at ao
  injection ao with ao
  exact⟨g,ao,d0,X,d2⟩)
 obtain⟨P,hP⟩:=zg7 s.log.pcs;obtain⟨cu,aL⟩:=zg7 s.cur;obtain⟨b,aI⟩:=zg7 (ZeG s);have bm:Hid (∀ q,b q=(decide (q.stop<=D) && decide (q.name≠cu))):=ZZ (fun q=>by rw[aI,aB,aL];rfl)
 rw[<-hP,<-aL] at ai;have ac:Hid (P.length<=100000):=ZZ (by rw[hP];exact bf)
 have ak:Hid (P.filter (fun q=>!b q)=Gl s∧P.filter b=s.log.pcs.filter (ZeG s)):=ZZ (by rw[hP,aI];exact⟨rfl,rfl⟩)
 have a4:Hid (OkS s∧s.log.recs.length<=1000000∧(s.log.first<=s.base.idx∧s.base.idx<=s.next)∧(∀ q ∈ s.log.pcs.dropLast,q.name≠s.cur)∧(∀ q ∈ s.log.pcs,I64 q.name)):=ZZ ⟨aZ,a5,hf,aR,be⟩;have bb:=ZZ aB;have bl:=ZZ hP;have bC:(P.length:Int)<=100000:=by have:=ac.o;omega
 rw[<-hP] at aA;have bF:∀ W:World,(Instr.field 41 (.agg #[.int .i64 D,.int .i64 kd,.slice la ln lc,.bool sh,.int .i64 eg,.slice ta tn tc]) 0).run prog W=.ok (.int .i64 D) W:=fun _=>by kernel_rfl
 clear m a aA hP aL aI aB a8 aZ a5 hf aR be bf aM br hK
 go_enter func29,ntmps29
 go_upto_region 1 with fail
 rw[<-al];obtain⟨r0,-⟩:=ai.o z (zac _ _);clear al
 go_wp2_with fail
 refine aQ.o.mono ?_;rintro e W1 ⟨rfl,aH⟩;have ag:=ZZ aH;obtain⟨r1,c3,-,-⟩:=ai.o W1 aH;clear aH aQ r0;go_wp2
 go_loopw[4,5,18] (fun vs vl vi wr=>∃ (i:Nat) (l:List Nat) (H:Option Addr) (O G:Nat) (C:Option Addr) (B E:Nat),vi=.int .i64 (i:Int)∧i<=P.length∧vs=.slice H O G∧vl=.slice C B E∧Hid (Zeo W1 w.heap.size ((P.take i).filter b) ((P.take i).filter fun q=>!b q) l (.slice H O G) (.slice C B E) wr)) (fun _ _ vi _=>P.length-(intOf vi).toNat)
 case atStart=>exact⟨0,[],none,0,0,none,0,0,rfl,zap _,rfl,rfl,ZZ (Zeo.start W1 w.heap.size)⟩
 case round=>
  clear r1 c3;obtain⟨i,l,H,O,G,C,B,E,rfl,hi,rfl,rfl,t⟩:=hrel;have aO:Hid (Below z.heap.size z wr):=ZZ (ag.o.trans (t.o.old.mono ag.o.size));obtain⟨r1,c3,aw,aE⟩:=ai.o wr aO.o;by_cases aj:i<P.length
  case neg=>
   obtain rfl:i=P.length:=by omega
   rw[zdd] at t;obtain⟨gone,am⟩:=zg7 (P.filter b);obtain⟨left,af⟩:=zg7 (P.filter fun q=>!b q)
   rw[<-am,<-af] at t;rw[<-am,<-af] at ak;have ba:=ZZ t.o.row
   have aD:Hid ((l.map (ZjP w.heap.size)).length<=10000000):=ZZ (by
    rw[length_map,t.o.len,am]
    exact zau (length_filter_le _ _) (by have:=ac.o;omega))
   have aN:Hid (gone.length<=P.length∧left.length<=P.length):=ZZ (by rw[am,af];exact⟨length_filter_le _ _,length_filter_le _ _⟩)
   have aU:Hid (∀ v' W',W'.ownsRow 0 153 1 v' (l.map (ZjP w.heap.size)++[(⟨64,#[ptr p],#[]⟩:Stp)]).length (Zd (l.map (ZjP w.heap.size)++[(⟨64,#[ptr p],#[]⟩:Stp)]))->(wr.alloc (.cells #[(⟨64,#[ptr p],#[]⟩:Stp).val] 153)).grownBy W' (Value.slice H O G).ownBlock->(v'.ownBlock=(Value.slice H O G).ownBlock∨v'.ownBlock=some (wr.heap.size+1))->
    ∃ g cap,v'=.slice (some ⟨g,0,none⟩) (l.length+1) cap∧Below w.heap.size w W'∧W'.ownsRow 0 108 3 (.slice C B E) left.length (Q7 left)∧Bk 28 W' w.heap.size #[ptr p]∧
    Calls prog 62 #[.slice (some ⟨g,0,none⟩) (l.length+1) cap] W' fun e w'=>ZtF (fun k=>K k∨(w.heap.size<=k∧k<W'.heap.size)) (fun k=>K k∨(w.heap.size<=k∧k<W'.heap.size)) pd p (Qv (ZeH s++[Qp]) (s,d)) (N+2*(l.length+1)) T (fun _ _=>True) W' e w'):=ZZ (fun v' W' m a v=>by
    obtain⟨q1,q2,q3,q4⟩:=t.o.last m a v;have aY:(l.map (ZjP w.heap.size)++[(⟨64,#[ptr p],#[]⟩:Stp)]).length=l.length+1:=by rw[zdb,length_map];rfl
    obtain⟨g,cap,cs,e1,e2,e3,e4⟩:=ZBf m (by rw[aY];omega) (⟨0,#[],#[]⟩:Stp)
    rw[aY] at e1 e4;have bu:=aX.o;have a0:=ag.o.size;have ae:Below w.heap.size w W':=aC.o.trans ((ag.o.trans (q1.mono a0)).mono (by omega))
    have ad:Bk 28 W' w.heap.size #[ptr p]:=ap.o.keep ((ag.o.trans (q1.mono a0)).block _ ap.o.lt);refine⟨g,cap,e1,ae,q2,ad,?_⟩;rw[ZmH,<-ak.o.2]
    exact ZwK (gone:=gone) W' (HS.o.fresh ae) (fun k hk=>by
     rcases hk with hk | hk
     ·have:=HK.o k hk;have:=ae.size;omega
     ·exact hk.2) (.inr ⟨by have:=q4 g e3;omega,e2.lt⟩) (.inr ⟨za0 _,ad.lt⟩) (fun j hj=>⟨.inr ⟨by have:=(q3 j hj).1;omega,(q3 j hj).2.lt⟩,(q3 j hj).2⟩) t.o.len ad cs e2 e4 (fun q hq=>a4.o.2.2.2.2 q (by
     rw[ak.o.2] at hq
     exact(za3.1 hq).1)) (by have:=aN.o.1;have:=ac.o;omega) hN hT)
   clear am af aE c3 aw
   go_wp2_with(at_builtin;refine(fun(h:True->_)=>h trivial) ?_)
   intro _;refine Zcv wr rfl _ _ rfl (.slice H O G) (l.map (ZjP w.heap.size)) rfl ba.o ⟨64,#[ptr p],#[]⟩ rfl aD.o ?_;intro v9 W9 m a v;obtain⟨g9,bA,rfl,ae,aG,ad,aP⟩:=aU.o v9 W9 m a v;obtain⟨Q,ax⟩:=zg7 (Qv (ZeH s++[Qp]) (s,d));rw[<-ax] at aP;have bj:=ZZ ae;have bn:=ZZ aG;have aK:=ZZ ad;have bg:=ZZ aP;have ay:Hid (Zn (s,d)=if Q.2=0 then(({ Q.1.1 with log:=s.log.letGo (Gl s) s.base.idx },Q.1.2),0) else Q):=ZZ (by rw[ax];rfl)
   have bc:Hid (Q.1.1.log=s.log):=ZZ (by rw[ax,ZmH];exact Zft s d _)
   have aS:Hid (l.length<=s.log.pcs.length):=ZZ (by rw[t.o.len,<-bl.o];exact aN.o.1)
   have aq:Hid (∀ k,(Value.slice C B E).ownBlock=some k->w.heap.size<=k∧k<W9.heap.size):=ZZ (fun k hk=>⟨by have:=t.o.lfar k hk;have:=ag.o.size;have:=aX.o;omega,(zaz aG k hk).2⟩)
   clear m a v ae aG ad aP ax aU ba t
   go_wp2_with fail
   refine bg.o.mono ?_;rintro e an ⟨rfl,Kd,m1,m2,m3,m4,-⟩;have a3:=aK.o.keep (m3.block _ aK.o.lt (fun hh=>hh (.inr ⟨za0 _,aK.o.lt⟩)))
   obtain⟨bz,-⟩:=a3.cell 0 rfl;have av:=ZZ (And.intro m1 m2);have a6:Hid (Ql (fun k=>¬ K k) w an):=ZZ ((Ql.ofBelow bj.o).trans (m3.mono (fun k hk hn=>hk (.inl hn))) (fun _ _ h=>h))
   have aV:=ZZ m4;have bk:Hid (an.ownsRow 0 108 3 (.slice C B E) left.length (Q7 left)):=ZZ (Qh bn.o fun g hg=>m3.block g (aq.o g hg).2 (fun hh=>hh (.inr (aq.o g hg))))
   clear m1 m2 m3 m4 a3 bg;obtain⟨⟨s1,X⟩,c⟩:=Q;by_cases hc:c=0
   case neg=>
    have aJ:Hid (J3 K w pd p (Zn (s,d)) (N+2*(s.log.pcs.length+1)) T (.returned (.int .i64 c)) an):=ZZ (by
     rw[ay.o,zaa hc]
     exact⟨rfl,(aV.o.less (fun k hk=>av.o.1 k (.inl hk))).mono (by have:=aS.o;omega) zL,a6.o⟩)
    have bD:(c != 0)=true:=by rw[zbq];exact hc
    clear hc ay;go_wp2;go_ret;exact aJ.o
   subst hc;rw[zab rfl] at ay
   have bd:Hid (Calls prog 70 #[.pointer (some ⟨p,1,none⟩),.slice C B E,.int .i64 D] an fun e w'=>e=.returned (.tuple #[])∧SD K w' pd p { s1 with log:=s1.log.letGo left D } X (N+2*(l.length+1)) T∧Ql (fun k=>¬ K k) an w'):=ZZ (by
    have S:s1.log=s.log:=bc.o;obtain⟨g1,g2,g3,g4,g5⟩:=a4.o;obtain⟨q1,q2,q3,q4⟩:=g1.log.letGo (cur:=s.cur) (base:=s.base.idx) g4 g3.1 g3.2;have af:s.log.pcs.filter (fun p=>!(decide (p.stop<=s.base.idx) && decide (p.name≠s.cur)))=left:=ak.o.1.symm
    rw[af] at q2 q3 q4;have bo:s.log.first<=Zj left s.base.idx:=q4;have bB:s.log.next=s.log.first+s.log.recs.length:=rfl;have bw:Zj left s.base.idx+((s.log.recs.drop (Zj left s.base.idx-s.log.first).toNat).length:Nat)=s.log.next:=q3;have h0:=g1.log.f0;have ht:=g1.log.top;rw[bb.o]
    exact aV.o.letGo (fun k hk=>av.o.1 k (.inl hk)) av.o.2 _ left s.base.idx bk.o (fun k hk=>⟨av.o.1 k (.inr (aq.o k hk)),fun hh=>by have:=HK.o k hh;have:=(aq.o k hk).1;omega⟩) (by have:=aN.o.2;have:=ac.o;omega) (by rw[S];exact g2) (by rw[S];exact g1.log.recOk) (by rw[S];exact bo) (by rw[S];omega) (by rw[S];exact h0) (by rw[S];omega))
   go_wp2_with fail
   refine bd.o.mono ?_;rintro e bt ⟨rfl,aF,aW⟩
   have aJ:Hid (J3 K w pd p (Zn (s,d)) (N+2*(s.log.pcs.length+1)) T (.returned (.int .i64 0)) bt):=ZZ (by
    rw[ay.o];have S:s1.log=s.log:=bc.o;rw[S,ak.o.1,bb.o] at aF
    exact⟨rfl,aF.mono (by have:=aS.o;omega) zL,a6.o.trans aW (fun _ _ h=>h)⟩)
   clear aF aW bd;go_wp2;go_ret;exact aJ.o
  obtain⟨g,bp,d0,X,d2⟩:=aE i aj;subst bp;have Y:=ZZ (ZgN b P i aj);have V:=ZZ (ZgN (fun q=>!b q) P i aj)
  obtain⟨q,hq⟩:=zg7 (P.getD i Zm);rw[<-hq] at d0 X d2 Y V;obtain⟨u,y,x⟩:=q
  dsimp only at d0 X d2
  have HG:=ZZ (bm.o ⟨u,y,x⟩);have Z:=ZZ aj;have bG:Hid (i<P.length):=ZZ aj;clear aE hq
  go_upto_region 7 with fail
  obtain⟨J,az⟩:=zg7 (wr.alloc (.cells #[.int .i64 u,.int .i64 y,.int .i64 x] 108));rw[<-az];have aT:Hid (Below wr.heap.size wr J):=ZZ (by rw[az];exact Z3 _ _)
  have ar:Hid (Bk 108 J wr.heap.size (pcC ⟨u,y,x⟩)):=ZZ (by rw[az];exact zak wr _)
  have p0:J.cell? ⟨wr.heap.size,0,none⟩=some (.int .i64 u):=(ar.o.cell 0 rfl).1;have p1:J.cell? ⟨wr.heap.size,1,none⟩=some (.int .i64 y):=(ar.o.cell 1 rfl).1;have p2:J.cell? ⟨wr.heap.size,2,none⟩=some (.int .i64 x):=(ar.o.cell 2 rfl).1;obtain⟨r2,-,bE,-⟩:=ai.o J (aO.o.trans (aT.o.mono aO.o.size));clear az r1 c3 aw d0 X d2;have ab:Hid (∀ n,Below wr.heap.size wr (J.drewN n)):=ZZ (fun n=>X6 aT.o n)
  have a7:Hid (((P.take i).filter fun q=>!b q).length<=10000000):=ZZ (zau (length_filter_le _ _) (by rw[zb5];have:=ac.o;omega))
  have aD:Hid ((l.map (ZjP w.heap.size)).length<=10000000):=ZZ (by
   rw[length_map,t.o.len]
   exact zau (length_filter_le _ _) (by rw[zb5];have:=ac.o;omega))
  by_cases au:x<=D
  ·by_cases aa:u=cu
   ·have A:b ⟨u,y,x⟩=false:=by rw[HG.o];simp[aa]
    have bq:(u != cu)=false:=by rw[zby];exact aa
    rw[A,zaa (by decide),append_nil] at Y
    rw[A,zab (by decide)] at V
    clear aa A
    go_quiet(fail)
    go_wp2_with(at_builtin;refine(fun(h:True->_)=>h trivial) ?_)
    intro _;refine Zaa _ rfl _ _ rfl (.slice C B E) ((P.take i).filter fun q=>!b q) rfl (t.o.below (ab.o _)).lrow (⟨u,y,x⟩:Pce) rfl a7.o ?_
    intro v9 W9 m a v;have R:=ZZ (t.o.leave ⟨u,y,x⟩ (ab.o _) m a v);rw[<-V.o] at R;obtain⟨a9,c9,U⟩:=Je m;generalize (((P.take i).filter fun q=>!b q)++[(⟨u,y,x⟩:Pce)]).length=n9 at U
    subst U;clear m a v;go_wp2;go_roundw
    case rel=>exact⟨i+1,l,H,O,G,a9,n9,c9,by go_num,by have:=Z.o;omega,rfl,rfl,by rw[Y.o];exact R⟩
    case measure=>have:=Z.o;simp[intOf];omega
   ·have A:b ⟨u,y,x⟩=true:=by rw[HG.o];simp[aa,au]
    have bq:(u != cu)=true:=by rw[zbq];exact aa
    rw[A,zab rfl] at Y;rw[A,zaa (by decide),append_nil] at V
    clear aa A
    go_quiet(fail)
    go_wp2_with(at_builtin;refine(fun(h:True->_)=>h trivial) ?_)
    intro _;refine Zcv _ rfl _ _ rfl (.slice H O G) (l.map (ZjP w.heap.size)) rfl (t.o.below (ab.o _)).row (ZjP w.heap.size wr.heap.size) rfl aD.o ?_;intro v9 W9 m a v;have R:=ZZ (t.o.step ⟨u,y,x⟩ (ab.o _) (ar.o.keep (by rw[World.heap_drewN])) m a v)
    rw[<-Y.o] at R;obtain⟨a9,c9,U⟩:=Je m;generalize (l.map (ZjP w.heap.size)++[ZjP w.heap.size wr.heap.size]).length=n9 at U;subst U;clear m a v;go_wp2;go_roundw
    case rel=>exact⟨i+1,l++[wr.heap.size],a9,n9,c9,C,B,E,by go_num,by have:=Z.o;omega,rfl,rfl,by rw[V.o];exact R⟩
    case measure=>have:=Z.o;simp[intOf];omega
  ·have A:b ⟨u,y,x⟩=false:=by rw[HG.o];simp[au]
   have bv:decide (x<=D)=false:=zai au;rw[A,zaa (by decide),append_nil] at Y
   rw[A,zab (by decide)] at V
   clear au A
   go_quiet(fail)
   go_wp2_with(at_builtin;refine(fun(h:True->_)=>h trivial) ?_)
   intro _;refine Zaa _ rfl _ _ rfl (.slice C B E) ((P.take i).filter fun q=>!b q) rfl (t.o.below (ab.o _)).lrow (⟨u,y,x⟩:Pce) rfl a7.o ?_
   intro v9 W9 m a v;have R:=ZZ (t.o.leave ⟨u,y,x⟩ (ab.o _) m a v);rw[<-V.o] at R;obtain⟨a9,c9,U⟩:=Je m;generalize (((P.take i).filter fun q=>!b q)++[(⟨u,y,x⟩:Pce)]).length=n9 at U
   subst U;clear m a v;go_wp2;go_roundw
   case rel=>exact⟨i+1,l,H,O,G,a9,n9,c9,by go_num,by have:=Z.o;omega,rfl,rfl,by rw[Y.o];exact R⟩
   case measure=>have:=Z.o;simp[intOf];omega
end Go.Proofs.YtnahjngbneicaaaGreatDoor
