import Derived.Test.YtnahjngbneicaaaGreatDoorStoreRunL
namespace Go.Proofs.YtnahjngbneicaaaGreatDoor
open _root_.Go.Proofs.Tryz
set_option maxRecDepth 100000
open Go.RowKit
def Zmq (kind room:Int):Run:=((Zor kind,ZgP room),[])
def Zyo (kind room:Int) (l:List SOp):Run:=l.foldl Jc (Zmq kind room)
theorem ZxV {kind room:Int} (b:0<=kind) (a:kind<6) (l:List SOp):X4 (Zyo kind room l).1 (Zyo kind room l).2 l.length:=by
 have:=X4.run l (x:=Zmq kind room) (Zhb room kind b a);rw[Nat.zero_add] at this;exact this
theorem Zwl {x:Run} (h:∀ r ∈ x.2,Qz r) (o:SOp):∀ r ∈ (Jc x o).2,Qz r:=by
 unfold Jc;split
 ·show ∀ r ∈ (if(X5 (Zi x.1.1.next o) x.1).2=0 then x.2++Zi x.1.1.next o else x.2),Qz r
  split
  ·rename_i a
   intro r hr;rcases List.mem_append.1 hr with hr | hr
   ·exact h r hr
   ·unfold X5 at a
    split at a
    ·cases a
    ·rename_i b
     exact(Classical.not_not.1 b).2.2.1 r hr
  ·exact h
 split
 ·exact h
 split
 ·exact h
 split
 ·exact h
 split
 ·exact h
 split
 ·exact h
 ·exact h
theorem Zrn:∀ (l:List SOp) {x:Run},(∀ r ∈ x.2,Qz r)->∀ r ∈ (l.foldl Jc x).2,Qz r
 | [],_,h=>h
 | o::l,_,h=>Zrn l (Zwl h o)
theorem Zwm (kind room:Int) (l:List SOp) (i:Nat):∀ r ∈ (runQ (Zmq kind room) l i).2,Qz r:=Zrn (l.take i) (x:=Zmq kind room) (fun r a=>by cases a)
set_option maxHeartbeats 8000000 in
theorem Zzo {B pd:Nat} {room:Int} (kind:Int) (v:Value) (l:List SOp) (J w:World) (hB:B=J.heap.size) (hl:RdS J v l) (hb:Below B J w) (hd:ZyK B w pd (ZgP room) 0 0) (h0:0<=kind) (U:kind<6) (bn:l.length<=60):
 Calls prog 10 #[ptr pd,.int .i64 kind,v] w fun e w'=>∃ p va,e=.returned (.tuple #[ptr p,va])∧Zjp B J pd p (Zyo kind room l) (300*l.length) (600000*l.length) va w':=by
 have T:B<=J.heap.size:=by omega
 have a5:=ZZ hB;have a4:=ZZ hl;obtain⟨la,lc,hv,-⟩:=id hl;have ar:B<=w.heap.size:=Nat.le_trans T hb.size
 have aB:=ZZ (Zrl kind w hd ar (by decide) (by decide) (by decide) (by
  unfold ZfB
  rw[if_neg (by omega),if_neg (show ¬ (ZgP room).power=0 by show ¬ (-1:Int)=0;decide)]))
 rw[ZcW] at aB;have aD:=ZZ hb;have bl:=ZAy;have aC:Hid (runQ (Zmq kind room) l 0=Zmq kind room):=ZZ rfl;have aK:Hid (∀ i o,l[i]?=some o->runQ (Zmq kind room) l (i+1)=Jc (runQ (Zmq kind room) l i) o):=ZZ (fun i o h=>Zow _ l i o h)
 have aX:Hid (runQ (Zmq kind room) l l.length=Zyo kind room l):=ZZ (ZxT _ l);have aM:Hid (∀ i,i<=l.length->X4 (runQ (Zmq kind room) l i).1 (runQ (Zmq kind room) l i).2 i):=ZZ (fun i hi=>X4.runQ (x:=Zmq kind room) (Zhb room kind h0 U) l i hi)
 have aS:Hid (∀ i,∀ r ∈ (runQ (Zmq kind room) l i).2,Qz r):=ZZ (fun i=>Zwm kind room l i)
 have aL:Hid (Zmq kind room=((Zor kind,ZgP room),[])):=ZZ rfl;have aP:Hid (∀ i,i<=l.length->NmI (runQ (Zmq kind room) l i).1.1):=ZZ (fun i hi=>Zrm (x:=Zmq kind room) (fun q hq=>by cases hq) (Zhb room kind h0 U) l i hi)
 generalize Zyo kind room l=XE at *;generalize runQ (Zmq kind room) l=Q at *
 have ad:Hid (Zbs (Zor kind) 0 0=([],0)∧(Zor kind).next=0∧OkS (Zor kind)∧(Zor kind).log.recs=[]):=ZZ (by
  have g:=Zfe (d:=ZgP room) (kind:=kind) h0 U;rw[ZcW] at g
  exact⟨rfl,rfl,g,rfl⟩)
 subst hv;have bo:(l.length:Int)<=60:=by omega
 clear hl hb hd hB
 go_enter func10,ntmps10
 go_wp2_with fail
 refine aB.o.mono ?_;rintro e W1 ⟨p,rfl,aF,af⟩;have az:=ZZ aF;have ak:=ZZ (aD.o.trans (af.mono ar));have aI:B<=W1.heap.size:=Nat.le_trans ar af.size;have ah:=ZZ (az.o.next ad.o.2.2.1.num);rw[ad.o.2.1] at ah;clear aF af aB ar
 go_wp2_with fail
 refine ah.o.mono ?_;rintro e W2 ⟨rfl,ab⟩;have aA:=ZZ (az.o.below ab);have ai:=ZZ (ak.o.trans (ab.mono aI));have aH:B<=W2.heap.size:=Nat.le_trans aI ab.size
 have am:Hid (Calls prog 17 #[ptr p,.int .i64 0,.int .i64 0] W2 fun e w'=>∃ v,e=.returned (.tuple #[v,.int .i64 0])∧Xj w' W2.heap.size v []∧Below W2.heap.size W2 w'):=ZZ (by
  obtain⟨F,M,I,L,U,h2,-⟩:=aA.o;have:=Zgo 0 0 W2 h2 ad.o.2.2.1.num (by rw[ad.o.2.2.2];intro r hr;cases hr) (by rw[ad.o.2.2.2];exact Nat.zero_le _)
  rw[ad.o.1] at this
  exact this)
 clear ab ah az ak
 go_wp2_with fail
 refine am.o.mono ?_;rintro e Z ⟨v3,rfl,aq,ax⟩
 have ag:Hid (Zjp B J pd p (Q 0) (300*0) (600000*0) v3 Z):=ZZ (by
  rw[aC.o,aL.o];refine⟨(aA.o.fresh ax).less fun k hk=>?_,aq.mono aH,ai.o.trans (ax.mono aH)⟩
  rcases hk with hk | hk
  ·exact .inl hk
  ·exact .inr (World.ownsRow.lt aq k hk))
 obtain⟨a3,n3,c3,bd⟩:∃ a n c,v3=Value.slice a n c:=by
  obtain⟨a,c,O⟩:=aq.shape;exact⟨a,_,c,O⟩
 subst bd;clear aq ax am aA ai aC aL ad aD;go_wp2
 go_loopw[10,12] (fun va vi wr=>∃ (i:Nat) (a:Option Addr) (n c:Nat),vi=.int .i64 (i:Int)∧i<=l.length∧va=.slice a n c∧Hid (Zjp B J pd p (Q i) (300*i) (600000*i) (.slice a n c) wr)) (fun _ vi _=>l.length-(intOf vi).toNat)
 case atStart=>exact⟨0,_,_,_,rfl,Nat.zero_le _,rfl,ag⟩
 case round=>
  clear ag;obtain⟨i,u,j,t,rfl,bj,rfl,C⟩:=hrel;by_cases av:i<l.length
  case neg=>
   obtain rfl:i=l.length:=by omega
   rw[aX.o] at C;go_wp2;go_ret2;exact⟨_,_,rfl,C.o⟩
  have aY:B<=wr.heap.size:=Nat.le_trans T C.o.old.size;obtain⟨x,m,y,ka,kc,ra,rc,ba,bc,hx,a2,g⟩:=a4.o.at av;subst a2;have E:=ZZ (aK.o i x hx);have A:=ZZ (aM.o i (by omega))
  have a1:=ZZ (aS.o i);have aQ:=ZZ (aP.o i (by omega))
  have ay:Hid (∀ W,Below B J W->Zql W m (y+i*9) x (.slice ka x.keep.length kc) (.slice ra x.recs.length rc) (.slice ba x.b.length bc)):=ZZ (fun W h=>g.below h (Nat.le_of_eq a5.o.symm))
  have aj:=(ay.o wr C.o.old).c0;have aE:=ZZ (And.intro g.i0 (And.intro g.i2 g.io));have D:=ZZ av;have bi:i<=60:=by omega
  obtain⟨X,hX⟩:∃ X,X=Q i:=⟨_,rfl⟩;rw[<-hX] at C E A a1 aQ;obtain⟨⟨s,d⟩,all⟩:=X;clear hX hx g av aX aK aM aS aP;have ao:Hid (∀ k,(k<B∨(Value.slice u j t).ownBlock=some k)->k<wr.heap.size):=ZZ (C.o.size T);have ae:Hid (SD (fun k=>k<B∨(Value.slice u j t).ownBlock=some k) wr pd p s d (300*i) (600000*i)):=ZZ C.o.sd
  have S:Hid (s.log.pcs.length<=60∧s.log.recs.length<=1200∧all.length<=1200∧s.bases.length<=61):=ZZ (by
   have U:s.log.pcs.length<=i:=A.o.pcn;have h2:s.log.recs=all.drop s.log.first.toNat:=A.o.recs;have h3:=A.o.rcn;have h4:s.bases.length<=i+1:=A.o.bsn
   dsimp only at h3
   refine⟨by omega,?_,by omega,by omega⟩
   rw[h2,List.length_drop]
   omega)
  by_cases K:x.kind=0
  case pos=>
   have f:Hid (Q (i+1)=((X5 (Zi s.next x) (s,d)).1,if(X5 (Zi s.next x) (s,d)).2=0 then all++Zi s.next x else all)):=ZZ (by
    rw[E.o];unfold Jc
    rw[if_pos K])
   rw[K] at aj
   have ah:Hid (∀ W,Below wr.heap.size wr W->Calls prog 14 #[ptr p] W fun e w'=>e=.returned (.int .i64 s.next)∧Below wr.heap.size wr w'):=ZZ (fun W N=>((ae.o.below N).next (OkS.num A.o.ok)).mono (by
    rintro e w' ⟨rfl,hb⟩
    exact⟨rfl,N.trans (hb.mono N.size)⟩))
   have au:Hid (0<=s.next∧s.next<=4611686018427387904):=ZZ (by
    have aN:OkS s:=A.o.ok;have U:=aN.log.f0;have h2:s.next=s.log.first+s.log.recs.length:=rfl
    exact⟨by omega,aN.log.top⟩)
   have am:Hid (∀ W,Below wr.heap.size wr W->Calls prog 23 #[.int .i64 s.next,.agg #[.int .i64 0,.int .i64 x.many,.int .i64 x.n,.int .i64 x.op.code,.int .i64 x.op.a,.int .i64 x.op.b,.slice ka x.keep.length kc,.slice ra x.recs.length rc,.slice ba x.b.length bc]] W fun e w'=>∃ v,e=.returned v∧Xj w' wr.heap.size v (Zi s.next x)∧Below wr.heap.size wr w'):=ZZ (fun W N=>by
    have h9:=Zom s.next x ka x.keep.length kc ra x.recs.length rc ba x.b.length bc W au.o.1 au.o.2;rw[K] at h9;refine h9.mono ?_;rintro e w' ⟨v,rfl,g,hb⟩
    exact⟨v,rfl,g.mono N.size,N.trans (hb.mono N.size)⟩)
   have ap:Hid (∀ W,Below wr.heap.size wr W->W.cell? ⟨m,y+i*9,none⟩=some (.int .i64 0)∧W.cell? ⟨m,y+i*9+1,none⟩=some (.int .i64 x.many)∧W.cell? ⟨m,y+i*9+2,none⟩=some (.int .i64 x.n)∧W.cell? ⟨m,y+i*9+3,none⟩=some (.int .i64 x.op.code)∧W.cell? ⟨m,y+i*9+4,none⟩=some (.int .i64 x.op.a)∧W.cell? ⟨m,y+i*9+5,none⟩=some (.int .i64 x.op.b)∧W.cell? ⟨m,y+i*9+6,none⟩=some (.slice ka x.keep.length kc)∧W.cell? ⟨m,y+i*9+7,none⟩=some (.slice ra x.recs.length rc)∧W.cell? ⟨m,y+i*9+8,none⟩=some (.slice ba x.b.length bc)):=ZZ (fun W N=>by
    have O:=ay.o W (C.o.old.trans (N.mono aY));rw[<-K]
    exact⟨O.c0,O.c1,O.c2,O.c3,O.c4,O.c5,O.c6,O.c7,O.c8⟩)
   have aW:Hid (Below wr.heap.size wr wr.drew):=ZZ (Below.refl _ _).drew
   have aw:Hid (∀ (v:Value) W,Xj W wr.heap.size v (Zi s.next x)->Below wr.heap.size wr W->Calls prog 22 #[ptr p,v] W fun e w'=>e=.returned (.int .i64 (X5 (Zi s.next x) (s,d)).2)∧Zjp B J pd p ((X5 (Zi s.next x) (s,d)).1,all) (300*(i+1)) (600000*(i+1)) (.slice u j t) w'∧RdR w' v (Zi s.next x)):=ZZ (fun v W g N=>by
    have aV:=g.rd (Zwk au.o.1 au.o.2 aE.o.2.2);have aG:∀ k,v.ownBlock=some k->((k<B∨(Value.slice u j t).ownBlock=some k)∨(wr.heap.size<=k∧k<W.heap.size)):=fun k hk=>.inr (World.ownsRow.lt g k hk)
    refine(ZiL v (Zi s.next x) W (ae.o.fresh N) (fun k hk=>by
     rcases hk with hk | hk
     ·exact Nat.lt_of_lt_of_le (ao.o k hk) N.size
     ·exact hk.2) A.o.ok aV (.inr aG) (by have:=S.o.1;omega) (by have:=S.o.2.1;omega) (by omega) (by omega)).mono ?_
    rintro e w' ⟨rfl,R,al⟩;refine⟨rfl,?_,aV.keepK (.inr aG) al⟩;have:=(C.o.below T N).did T (fun k hk=>.inl hk) R al
    exact this.mono (by omega) (by omega))
   have bb:Hid ((Zi s.next x).length<=20):=ZZ (ZkQ _ _);generalize Zi s.next x=RS at *;generalize s.next=nx at *;generalize X5 RS (s,d)=AR at *;obtain⟨AX,cd⟩:=AR
   dsimp only at aw f
   generalize x.many=xm at *;generalize x.n=xn at *;generalize x.op.code=xc at *;generalize x.op.a=xa at *;generalize x.op.b=xb at *;generalize x.keep.length=xk at *;generalize x.recs.length=xr at *;generalize x.b.length=xl at *;clear K E
   go_upto_region 12 with fail
   go_region_held(fun W=>W.cell? ⟨m,y+i*9,none⟩=some (.int .i64 0)∧W.cell? ⟨m,y+i*9+1,none⟩=some (.int .i64 xm)∧W.cell? ⟨m,y+i*9+2,none⟩=some (.int .i64 xn)∧W.cell? ⟨m,y+i*9+3,none⟩=some (.int .i64 xc)∧W.cell? ⟨m,y+i*9+4,none⟩=some (.int .i64 xa)∧W.cell? ⟨m,y+i*9+5,none⟩=some (.int .i64 xb)∧W.cell? ⟨m,y+i*9+6,none⟩=some (.slice ka xk kc)∧W.cell? ⟨m,y+i*9+7,none⟩=some (.slice ra xr rc)∧W.cell? ⟨m,y+i*9+8,none⟩=some (.slice ba xl bc))
    (first | (with_reducible exact ap.o _ aW.o) | (with_reducible exact ap.o _ ak.o) | (with_reducible exact ap.o _ ai.o))
    (first
     | (go_at_call 14;refine(ah.o _ aW.o).mono ?_;rintro e W1 ⟨rfl,af⟩;have ak:=ZZ af;clear af)
     | (go_at_call 23;refine(am.o _ ak.o).mono ?_;rintro e W2 ⟨v2,rfl,al,ab⟩;obtain⟨z1,z2,z3,hz⟩:∃ a n c,v2=Value.slice a n c:=(by obtain⟨a,c,O⟩:=al.shape;exact⟨a,_,c,O⟩);subst hz;have aR:=ZZ al;have ai:=ZZ ab;clear al ab))
   all_goals
    have HA:=ZZ (aw.o _ W2 aR.o ai.o);have bh:Hid (Xj wr 0 (.slice u j t) all):=ZZ (C.o.own.mono (Nat.zero_le _));clear ah am ap aw ak aR ai
    go_wp2_with fail
    refine HA.o.mono ?_;rintro e Z ⟨rfl,z,aJ⟩;have ag:=ZZ z;have bf:=ZZ aJ;clear z aJ HA;by_cases hc:cd=0
    ·subst hc
     rw[if_pos rfl] at f;have bg:Hid (all.length+RS.length<=10000000):=ZZ (by have:=S.o.2.2.1;have:=bb.o;omega)
     have a6:Hid (Xj Z 0 (.slice u j t) all):=ZZ (ag.o.own.mono (Nat.zero_le _))
     go_wp2_with(at_builtin;refine(fun(h:True->_)=>h trivial) ?_)
     intro _;refine Zby Z rfl _ _ rfl (.slice u j t) all rfl a6.o (.slice z1 z2 z3) RS rfl bf.o bg.o ?_;intro v4 W4 U h2 h3;have P:=ag.o.more T U h2 h3;rw[<-f.o] at P;have G:=ZZ P;obtain⟨a9,c9,aU⟩:=U.shape;generalize (all++RS).length=n9 at aU;subst aU;clear U h2 h3 P;go_wp2;go_roundw
     case rel=>exact⟨i+1,a9,n9,c9,by go_num,by have:=D.o;omega,rfl,G⟩
     case measure=>have:=D.o;simp[intOf];omega
    ·rw[if_neg hc] at f
     have P:=ag.o;rw[<-f.o] at P;have G:=ZZ P;have bk:(cd == 0)=false:=beq_eq_false_iff_ne.2 hc;clear hc P;go_wp2;go_roundw
     case rel=>exact⟨i+1,u,j,t,by go_num,by have:=D.o;omega,rfl,G⟩
     case measure=>have:=D.o;simp[intOf];omega
  by_cases V:x.kind=1
  case pos=>
   have f:Hid (Q (i+1)=((Q5 (s,d)).1,all)):=ZZ (by
    rw[E.o];unfold Jc
    rw[if_neg K,if_pos V])
   rw[V] at aj
   have H:Hid (Calls prog 27 #[ptr p] wr fun e w'=>e=.returned (.int .i64 (Q5 (s,d)).2)∧Zjp B J pd p (Q (i+1)) (300*(i+1)) (600000*(i+1)) (.slice u j t) w'):=ZZ ((ZeO wr ae.o ao.o (OkS.num A.o.ok)).mono (by
    rintro e w' ⟨rfl,R,g⟩;refine⟨rfl,?_⟩;rw[f.o];have hm:=S.o.1
    exact(C.o.did T (fun k hk=>hk) R g).mono (by omega) (by omega)))
   generalize (Q5 (s,d)).2=cd at *;clear V f E
   go_wp2_with fail
   refine H.o.mono ?_;rintro e Z ⟨rfl,z⟩;have G:=ZZ z;clear z H;go_wp2;go_roundw
   case rel=>exact⟨i+1,u,j,t,by go_num,by have:=D.o;omega,rfl,G⟩
   case measure=>have:=D.o;simp[intOf];omega
  by_cases Y:x.kind=2
  case pos=>
   have f:Hid (Q (i+1)=((Yf (s,d)).1,all)):=ZZ (by
    rw[E.o];unfold Jc
    rw[if_neg K,if_neg V,if_pos Y])
   rw[Y] at aj
   have H:Hid (Calls prog 26 #[ptr p] wr fun e w'=>e=.returned (.int .i64 (Yf (s,d)).2)∧Zjp B J pd p (Q (i+1)) (300*(i+1)) (600000*(i+1)) (.slice u j t) w'):=ZZ ((ZpJ wr ae.o ao.o (OkS.num A.o.ok)).mono (by
    rintro e w' ⟨rfl,R,g⟩;refine⟨rfl,?_⟩;rw[f.o];have hm:=S.o.1
    exact(C.o.did T (fun k hk=>hk) R g).mono (by omega) (by omega)))
   generalize (Yf (s,d)).2=cd at *;clear Y f E
   go_wp2_with fail
   refine H.o.mono ?_;rintro e Z ⟨rfl,z⟩;have G:=ZZ z;clear z H;go_wp2;go_roundw
   case rel=>exact⟨i+1,u,j,t,by go_num,by have:=D.o;omega,rfl,G⟩
   case measure=>have:=D.o;simp[intOf];omega
  by_cases e3:x.kind=3
  case pos=>
   have f:Hid (Q (i+1)=((Xp (s,d)).1,all)):=ZZ (by
    rw[E.o];unfold Jc
    rw[if_neg K,if_neg V,if_neg Y,if_pos e3])
   rw[e3] at aj
   have H:Hid (Calls prog 24 #[ptr p] wr fun e w'=>e=.returned (.int .i64 (Xp (s,d)).2)∧Zjp B J pd p (Q (i+1)) (300*(i+1)) (600000*(i+1)) (.slice u j t) w'):=ZZ ((Zjl wr ae.o ao.o (OkS.num A.o.ok) (by have:=S.o.2.2.2;omega) (by omega) (by omega)).mono (by
    rintro e w' ⟨rfl,R,g⟩;refine⟨rfl,?_⟩;rw[f.o];have hm:=S.o.1
    exact(C.o.did T (fun k hk=>hk) R g).mono (by omega) (by omega)))
   generalize (Xp (s,d)).2=cd at *;clear e3 f E
   go_wp2_with fail
   refine H.o.mono ?_;rintro e Z ⟨rfl,z⟩;have G:=ZZ z;clear z H;go_wp2;go_roundw
   case rel=>exact⟨i+1,u,j,t,by go_num,by have:=D.o;omega,rfl,G⟩
   case measure=>have:=D.o;simp[intOf];omega
  by_cases e4:x.kind=4
  case pos=>
   have f:Hid (Q (i+1)=((Z7 (s,d)).1,all)):=ZZ (by
    rw[E.o];unfold Jc
    rw[if_neg K,if_neg V,if_neg Y,if_neg e3,if_pos e4])
   have be:Hid (∀ q ∈ s.log.pcs.dropLast,q.name≠s.cur):=ZZ (fun q hq=>by
    have aO:s.log.pcs.Pairwise (fun p q=>p.name<q.name):=A.o.nam
    have a0:∀ p ∈ s.log.pcs,2<=p.name∧p.name % 2=0:=A.o.two;by_cases h0:s.cur=0
    ·have:=(a0 q ((List.dropLast_sublist _).subset hq)).1
     omega
    ·obtain⟨a,c,a8,aZ⟩:=A.o.curL h0
     have aT:s.log.pcs=a++[c]:=a8;have bm:c.name=s.cur:=aZ;rw[aT,List.dropLast_concat] at hq;rw[aT,List.pairwise_append] at aO;have:=aO.2.2 q hq c (by simp)
     omega)
   have a7:Hid (∀ q ∈ s.log.pcs,I64 q.name):=ZZ (fun q hq=>by
    exact aQ.o q.name (List.mem_map.2 ⟨q,hq,rfl⟩))
   rw[e4] at aj
   have H:Hid (Calls prog 29 #[ptr p] wr fun e w'=>e=.returned (.int .i64 (Z7 (s,d)).2)∧Zjp B J pd p (Q (i+1)) (300*(i+1)) (600000*(i+1)) (.slice u j t) w'):=ZZ ((Zqh wr ae.o ao.o A.o.ok A.o.bs0 (by have:=S.o.2.2.2;omega) (by have:=S.o.1;omega) (by have:=S.o.2.1;omega) A.o.bas be.o a7.o (by omega) (by omega)).mono (by
    rintro e w' ⟨rfl,R,g⟩;refine⟨rfl,?_⟩;rw[f.o];have hm:=S.o.1
    exact(C.o.did T (fun k hk=>hk) R g).mono (by omega) (by omega)))
   generalize (Z7 (s,d)).2=cd at *;clear e4 f E
   go_wp2_with fail
   refine H.o.mono ?_;rintro e Z ⟨rfl,z⟩;have G:=ZZ z;clear z H;go_wp2;go_roundw
   case rel=>exact⟨i+1,u,j,t,by go_num,by have:=D.o;omega,rfl,G⟩
   case measure=>have:=D.o;simp[intOf];omega
  by_cases e5:x.kind=5
  case pos=>
   have f:Hid (Q (i+1)=((s,Zqz d x.n),all)):=ZZ (by
    rw[E.o];unfold Jc
    rw[if_neg K,if_neg V,if_neg Y,if_neg e3,if_neg e4,if_pos e5])
   rw[e5] at aj;have c2:=(ay.o wr C.o.old).c2
   have H:Hid (Calls prog 30 #[ptr pd,.int .i64 x.n] wr fun e w'=>e=.returned (.tuple #[])∧Zjp B J pd p (Q (i+1)) (300*(i+1)) (600000*(i+1)) (.slice u j t) w'):=ZZ ((ae.o.cut x.n aE.o.2.1).mono (by
    rintro e w' ⟨rfl,R,g⟩;refine⟨rfl,?_⟩;rw[f.o]
    exact(C.o.did (r:=(s,Zqz d x.n)) T (fun k hk=>hk) R g).mono (by omega) (by omega)))
   generalize x.n=xn at *;clear e5 f E
   go_wp2_with fail
   refine H.o.mono ?_;rintro e Z ⟨rfl,z⟩;have G:=ZZ z;clear z H;go_wp2;go_roundw
   case rel=>exact⟨i+1,u,j,t,by go_num,by have:=D.o;omega,rfl,G⟩
   case measure=>have:=D.o;simp[intOf];omega
  have f:Hid (Q (i+1)=((s,d),all)):=ZZ (by
   rw[E.o];unfold Jc
   rw[if_neg K,if_neg V,if_neg Y,if_neg e3,if_neg e4,if_neg e5])
  have P:=C.o.mono (show 300*i<=300*(i+1) by omega) (show 600000*i<=600000*(i+1) by omega)
  rw[<-f.o] at P;have G:=ZZ P;have b0:(x.kind == 0)=false:=beq_eq_false_iff_ne.2 K;have b1:(x.kind == 1)=false:=beq_eq_false_iff_ne.2 V;have b2:(x.kind == 2)=false:=beq_eq_false_iff_ne.2 Y;have b3:(x.kind == 3)=false:=beq_eq_false_iff_ne.2 e3;have b4:(x.kind == 4)=false:=beq_eq_false_iff_ne.2 e4;have b5:(x.kind == 5)=false:=beq_eq_false_iff_ne.2 e5;generalize x.kind=kx at *;clear K V Y e3 e4 e5 P f E;go_wp2;go_roundw
  case rel=>exact⟨i+1,u,j,t,by go_num,by have:=D.o;omega,rfl,G⟩
  case measure=>have:=D.o;simp[intOf];omega
end Go.Proofs.YtnahjngbneicaaaGreatDoor
