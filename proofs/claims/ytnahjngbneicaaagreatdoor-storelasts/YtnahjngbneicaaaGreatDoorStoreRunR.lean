import Derived.Test.YtnahjngbneicaaaGreatDoorStoreRunL
namespace Go.Proofs.YtnahjngbneicaaaGreatDoor
open _root_.Go.Proofs.Tryz
set_option maxRecDepth 100000
open Go.RowKit
def Zmq (kind room:Int):Run:=((Zor kind,ZgP room),[])
def Zyo (kind room:Int) (l:List SOp):Run:=l.foldl Jc (Zmq kind room)
theorem ZxV {kind room:Int} (a:0<=kind) (b:kind<6) (l:List SOp):X4 (Zyo kind room l).1 (Zyo kind room l).2 l.length:=by
 have:=X4.run l (x:=Zmq kind room) (Zhb room kind a b);rw[za5] at this;exact this
theorem Zwl {x:Run} (h:∀ r ∈ x.2,Qz r) (o:SOp):∀ r ∈ (Jc x o).2,Qz r:=by
 unfold Jc;split
 ·show ∀ r ∈ (if(X5 (Zi x.1.1.next o) x.1).2=0 then x.2++Zi x.1.1.next o else x.2),Qz r
  split
  ·rename_i a
   intro r hr;rcases zaw.1 hr with hr | hr
   ·exact h r hr
   ·unfold X5 at a
    split at a
    ·cases a
    ·rename_i b
     exact(Classical.not_not.1 b).2.2.1 r hr
  ·exact h
 split
 ·exact h
 split
 ·exact h
 split
 ·exact h
 split
 ·exact h
 split
 ·exact h
 ·exact h
theorem Zrn:∀ (l:List SOp) {x:Run},(∀ r ∈ x.2,Qz r)->∀ r ∈ (l.foldl Jc x).2,Qz r
 | [],_,h=>h
 | o::l,_,h=>Zrn l (Zwl h o)
theorem Zwm (kind room:Int) (l:List SOp) (i:Nat):∀ r ∈ (runQ (Zmq kind room) l i).2,Qz r:=Zrn (l.take i) (x:=Zmq kind room) (fun r a=>by cases a)
set_option maxHeartbeats 8000000 in
theorem Zzo {B pd:Nat} {room:Int} (kind:Int) (v:Value) (l:List SOp) (H w:World) (hB:B=H.heap.size) (hl:RdS H v l) (hb:Below B H w) (hd:ZyK B w pd (ZgP room) 0 0) (h0:0<=kind) (V:kind<6) (bj:l.length<=60):
 Calls prog 10 #[ptr pd,.int .i64 kind,v] w fun e w'=>∃ p va,e=.returned (.tuple #[ptr p,va])∧Zjp B H pd p (Zyo kind room l) (300*l.length) (600000*l.length) va w':=by
 have S:B<=H.heap.size:=by omega
 have a7:=ZZ hB;have a8:=ZZ hl;obtain⟨la,lc,hv,-⟩:=id hl;have av:B<=w.heap.size:=zas S hb.size
 have ax:=ZZ (Zrl kind w hd av (by decide) (by decide) (by decide) (by
  unfold ZfB
  rw[zaa (by omega),zaa (show ¬ (ZgP room).power=0 by show ¬ (-1:Int)=0;decide)]))
 rw[ZcW] at ax;have aF:=ZZ hb;have bo:=ZAy;have aR:Hid (runQ (Zmq kind room) l 0=Zmq kind room):=ZZ rfl;have aX:Hid (∀ i o,l[i]?=some o->runQ (Zmq kind room) l (i+1)=Jc (runQ (Zmq kind room) l i) o):=ZZ (fun i o h=>Zow _ l i o h)
 have aH:Hid (runQ (Zmq kind room) l l.length=Zyo kind room l):=ZZ (ZxT _ l);have aL:Hid (∀ i,i<=l.length->X4 (runQ (Zmq kind room) l i).1 (runQ (Zmq kind room) l i).2 i):=ZZ (fun i hi=>X4.runQ (x:=Zmq kind room) (Zhb room kind h0 V) l i hi)
 have aG:Hid (∀ i,∀ r ∈ (runQ (Zmq kind room) l i).2,Qz r):=ZZ (fun i=>Zwm kind room l i)
 have aY:Hid (Zmq kind room=((Zor kind,ZgP room),[])):=ZZ rfl;have aK:Hid (∀ i,i<=l.length->NmI (runQ (Zmq kind room) l i).1.1):=ZZ (fun i hi=>Zrm (x:=Zmq kind room) (fun q hq=>by cases hq) (Zhb room kind h0 V) l i hi)
 generalize Zyo kind room l=XE at *;generalize runQ (Zmq kind room) l=Q at *
 have ab:Hid (Zbs (Zor kind) 0 0=([],0)∧(Zor kind).next=0∧OkS (Zor kind)∧(Zor kind).log.recs=[]):=ZZ (by
  have g:=Zfe (d:=ZgP room) (kind:=kind) h0 V;rw[ZcW] at g
  exact⟨rfl,rfl,g,rfl⟩)
 subst hv;have bp:(l.length:Int)<=60:=by omega
 clear hl hb hd hB
 go_enter func10,ntmps10
 go_wp2_with fail
 refine ax.o.mono ?_;rintro e W1 ⟨p,rfl,aP,am⟩;have az:=ZZ aP;have al:=ZZ (aF.o.trans (am.mono av));have aI:B<=W1.heap.size:=zas av am.size;have aj:=ZZ (az.o.next ab.o.2.2.1.num);rw[ab.o.2.1] at aj;clear aP am ax av
 go_wp2_with fail
 refine aj.o.mono ?_;rintro e W2 ⟨rfl,ae⟩;have aC:=ZZ (az.o.below ae);have af:=ZZ (al.o.trans (ae.mono aI));have aD:B<=W2.heap.size:=zas aI ae.size
 have ap:Hid (Calls prog 17 #[ptr p,.int .i64 0,.int .i64 0] W2 fun e w'=>∃ v,e=.returned (.tuple #[v,.int .i64 0])∧Xj w' W2.heap.size v []∧Below W2.heap.size W2 w'):=ZZ (by
  obtain⟨F,M,I,L,V,h2,-⟩:=aC.o;have:=Zgo 0 0 W2 h2 ab.o.2.2.1.num (by rw[ab.o.2.2.2];intro r hr;cases hr) (by rw[ab.o.2.2.2];exact zai _)
  rw[ab.o.1] at this
  exact this)
 clear ae aj az al
 go_wp2_with fail
 refine ap.o.mono ?_;rintro e Y ⟨v3,rfl,ar,aA⟩
 have ag:Hid (Zjp B H pd p (Q 0) (300*0) (600000*0) v3 Y):=ZZ (by
  rw[aR.o,aY.o];refine⟨(aC.o.fresh aA).less fun k hk=>?_,ar.mono aD,af.o.trans (aA.mono aD)⟩
  rcases hk with hk | hk
  ·exact .inl hk
  ·exact .inr (zar ar k hk))
 obtain⟨a3,n3,c3,a5⟩:∃ a n c,v3=Value.slice a n c:=by
  obtain⟨a,c,K⟩:=ar.shape;exact⟨a,_,c,K⟩
 subst a5;clear ar aA ap aC af aR aY ab aF;go_wp2
 go_loopw[10,12] (fun va vi wr=>∃ (i:Nat) (a:Option Addr) (n c:Nat),vi=.int .i64 (i:Int)∧i<=l.length∧va=.slice a n c∧Hid (Zjp B H pd p (Q i) (300*i) (600000*i) (.slice a n c) wr)) (fun _ vi _=>l.length-(intOf vi).toNat)
 case atStart=>exact⟨0,_,_,_,rfl,zai _,rfl,ag⟩
 case round=>
  clear ag;obtain⟨i,m,t,j,rfl,bm,rfl,z⟩:=hrel;by_cases aw:i<l.length
  case neg=>
   obtain rfl:i=l.length:=by omega
   rw[aH.o] at z;go_wp2;go_ret2;exact⟨_,_,rfl,z.o⟩
  have bi:B<=wr.heap.size:=zas S z.o.old.size;obtain⟨x,u,y,ka,kc,ra,rc,ba,bc,hx,bg,g⟩:=a8.o.at aw;subst bg;have G:=ZZ (aX.o i x hx);have A:=ZZ (aL.o i (by omega))
  have aZ:=ZZ (aG.o i);have aQ:=ZZ (aK.o i (by omega))
  have aB:Hid (∀ W,Below B H W->Zql W u (y+i*9) x (.slice ka x.keep.length kc) (.slice ra x.recs.length rc) (.slice ba x.b.length bc)):=ZZ (fun W h=>g.below h (Nat.le_of_eq a7.o.symm))
  have ai:=(aB.o wr z.o.old).c0;have aV:=ZZ (And.intro g.i0 (And.intro g.i2 g.io));have D:=ZZ aw;have bn:i<=60:=by omega
  obtain⟨X,hX⟩:=zgy (Q i);rw[<-hX] at z G A aZ aQ;obtain⟨⟨s,d⟩,all⟩:=X;clear hX hx g aw aH aX aL aG aK;have ao:Hid (∀ k,(k<B∨(Value.slice m t j).ownBlock=some k)->k<wr.heap.size):=ZZ (z.o.size S);have ad:Hid (SD (fun k=>k<B∨(Value.slice m t j).ownBlock=some k) wr pd p s d (300*i) (600000*i)):=ZZ z.o.sd
  have P:Hid (s.log.pcs.length<=60∧s.log.recs.length<=1200∧all.length<=1200∧s.bases.length<=61):=ZZ (by
   have V:s.log.pcs.length<=i:=A.o.pcn;have h2:s.log.recs=all.drop s.log.first.toNat:=A.o.recs;have h3:=A.o.rcn;have h4:s.bases.length<=i+1:=A.o.bsn
   dsimp only at h3
   refine⟨by omega,?_,by omega,by omega⟩
   rw[h2,zce]
   omega)
  by_cases O:x.kind=0
  case pos=>
   have f:Hid (Q (i+1)=((X5 (Zi s.next x) (s,d)).1,if(X5 (Zi s.next x) (s,d)).2=0 then all++Zi s.next x else all)):=ZZ (by
    rw[G.o];unfold Jc
    rw[zab O])
   rw[O] at ai
   have aj:Hid (∀ W,Below wr.heap.size wr W->Calls prog 14 #[ptr p] W fun e w'=>e=.returned (.int .i64 s.next)∧Below wr.heap.size wr w'):=ZZ (fun W N=>((ad.o.below N).next (OkS.num A.o.ok)).mono (by
    rintro e w' ⟨rfl,hb⟩
    exact⟨rfl,N.trans (hb.mono N.size)⟩))
   have aq:Hid (0<=s.next∧s.next<=4611686018427387904):=ZZ (by
    have aJ:OkS s:=A.o.ok;have V:=aJ.log.f0;have h2:s.next=s.log.first+s.log.recs.length:=rfl
    exact⟨by omega,aJ.log.top⟩)
   have ap:Hid (∀ W,Below wr.heap.size wr W->Calls prog 23 #[.int .i64 s.next,.agg #[.int .i64 0,.int .i64 x.many,.int .i64 x.n,.int .i64 x.op.code,.int .i64 x.op.a,.int .i64 x.op.b,.slice ka x.keep.length kc,.slice ra x.recs.length rc,.slice ba x.b.length bc]] W fun e w'=>∃ v,e=.returned v∧Xj w' wr.heap.size v (Zi s.next x)∧Below wr.heap.size wr w'):=ZZ (fun W N=>by
    have h9:=Zom s.next x ka x.keep.length kc ra x.recs.length rc ba x.b.length bc W aq.o.1 aq.o.2;rw[O] at h9;refine h9.mono ?_;rintro e w' ⟨v,rfl,g,hb⟩
    exact⟨v,rfl,g.mono N.size,N.trans (hb.mono N.size)⟩)
   have au:Hid (∀ W,Below wr.heap.size wr W->W.cell? ⟨u,y+i*9,none⟩=some (.int .i64 0)∧W.cell? ⟨u,y+i*9+1,none⟩=some (.int .i64 x.many)∧W.cell? ⟨u,y+i*9+2,none⟩=some (.int .i64 x.n)∧W.cell? ⟨u,y+i*9+3,none⟩=some (.int .i64 x.op.code)∧W.cell? ⟨u,y+i*9+4,none⟩=some (.int .i64 x.op.a)∧W.cell? ⟨u,y+i*9+5,none⟩=some (.int .i64 x.op.b)∧W.cell? ⟨u,y+i*9+6,none⟩=some (.slice ka x.keep.length kc)∧W.cell? ⟨u,y+i*9+7,none⟩=some (.slice ra x.recs.length rc)∧W.cell? ⟨u,y+i*9+8,none⟩=some (.slice ba x.b.length bc)):=ZZ (fun W N=>by
    have K:=aB.o W (z.o.old.trans (N.mono bi));rw[<-O]
    exact⟨K.c0,K.c1,K.c2,K.c3,K.c4,K.c5,K.c6,K.c7,K.c8⟩)
   have aU:Hid (Below wr.heap.size wr wr.drew):=ZZ (zac _ _).drew
   have ay:Hid (∀ (v:Value) W,Xj W wr.heap.size v (Zi s.next x)->Below wr.heap.size wr W->Calls prog 22 #[ptr p,v] W fun e w'=>e=.returned (.int .i64 (X5 (Zi s.next x) (s,d)).2)∧Zjp B H pd p ((X5 (Zi s.next x) (s,d)).1,all) (300*(i+1)) (600000*(i+1)) (.slice m t j) w'∧RdR w' v (Zi s.next x)):=ZZ (fun v W g N=>by
    have aO:=g.rd (Zwk aq.o.1 aq.o.2 aV.o.2.2);have aT:∀ k,v.ownBlock=some k->((k<B∨(Value.slice m t j).ownBlock=some k)∨(wr.heap.size<=k∧k<W.heap.size)):=fun k hk=>.inr (zar g k hk)
    refine(ZiL v (Zi s.next x) W (ad.o.fresh N) (fun k hk=>by
     rcases hk with hk | hk
     ·exact zav (ao.o k hk) N.size
     ·exact hk.2) A.o.ok aO (.inr aT) (by have:=P.o.1;omega) (by have:=P.o.2.1;omega) (by omega) (by omega)).mono ?_
    rintro e w' ⟨rfl,T,ak⟩;refine⟨rfl,?_,aO.keepK (.inr aT) ak⟩;have:=(z.o.below S N).did S (fun k hk=>.inl hk) T ak
    exact this.mono (by omega) (by omega))
   have bf:Hid ((Zi s.next x).length<=20):=ZZ (ZkQ _ _);generalize Zi s.next x=RS at *;generalize s.next=nx at *;generalize X5 RS (s,d)=AR at *;obtain⟨AX,cd⟩:=AR
   dsimp only at ay f
   generalize x.many=xm at *;generalize x.n=xn at *;generalize x.op.code=xc at *;generalize x.op.a=xa at *;generalize x.op.b=xb at *;generalize x.keep.length=xk at *;generalize x.recs.length=xr at *;generalize x.b.length=xl at *;clear O G
   go_upto_region 12 with fail
   go_region_held(fun W=>W.cell? ⟨u,y+i*9,none⟩=some (.int .i64 0)∧W.cell? ⟨u,y+i*9+1,none⟩=some (.int .i64 xm)∧W.cell? ⟨u,y+i*9+2,none⟩=some (.int .i64 xn)∧W.cell? ⟨u,y+i*9+3,none⟩=some (.int .i64 xc)∧W.cell? ⟨u,y+i*9+4,none⟩=some (.int .i64 xa)∧W.cell? ⟨u,y+i*9+5,none⟩=some (.int .i64 xb)∧W.cell? ⟨u,y+i*9+6,none⟩=some (.slice ka xk kc)∧W.cell? ⟨u,y+i*9+7,none⟩=some (.slice ra xr rc)∧W.cell? ⟨u,y+i*9+8,none⟩=some (.slice ba xl bc))
    (first | (with_reducible exact au.o _ aU.o) | (with_reducible exact au.o _ al.o) | (with_reducible exact au.o _ af.o))
    (first
     | (go_at_call 14;refine(aj.o _ aU.o).mono ?_;rintro e W1 ⟨rfl,am⟩;have al:=ZZ am;clear am)
     | (go_at_call 23;refine(ap.o _ al.o).mono ?_;rintro e W2 ⟨v2,rfl,ak,ae⟩;obtain⟨z1,z2,z3,hz⟩:∃ a n c,v2=Value.slice a n c:=(by obtain⟨a,c,K⟩:=ak.shape;exact⟨a,_,c,K⟩);subst hz;have aM:=ZZ ak;have af:=ZZ ae;clear ak ae))
   all_goals
    have HA:=ZZ (ay.o _ W2 aM.o af.o);have bq:Hid (Xj wr 0 (.slice m t j) all):=ZZ (z.o.own.mono (zai _));clear aj ap au ay al aM af
    go_wp2_with fail
    refine HA.o.mono ?_;rintro e Y ⟨rfl,C,aN⟩;have ag:=ZZ C;have bb:=ZZ aN;clear C aN HA;by_cases hc:cd=0
    ·subst hc
     rw[zab rfl] at f;have a1:Hid (all.length+RS.length<=10000000):=ZZ (by have:=P.o.2.2.1;have:=bf.o;omega)
     have a0:Hid (Xj Y 0 (.slice m t j) all):=ZZ (ag.o.own.mono (zai _))
     go_wp2_with(at_builtin;refine(fun(h:True->_)=>h trivial) ?_)
     intro _;refine Zby Y rfl _ _ rfl (.slice m t j) all rfl a0.o (.slice z1 z2 z3) RS rfl bb.o a1.o ?_;intro v4 W4 V h2 h3;have R:=ag.o.more S V h2 h3;rw[<-f.o] at R;have E:=ZZ R;obtain⟨a9,c9,aE⟩:=V.shape;generalize (all++RS).length=n9 at aE;subst aE;clear V h2 h3 R;go_wp2;go_roundw
     case rel=>exact⟨i+1,a9,n9,c9,by go_num,by have:=D.o;omega,rfl,E⟩
     case measure=>have:=D.o;simp[intOf];omega
    ·rw[zaa hc] at f
     have R:=ag.o;rw[<-f.o] at R;have E:=ZZ R;have bk:(cd == 0)=false:=zad.2 hc;clear hc R;go_wp2;go_roundw
     case rel=>exact⟨i+1,m,t,j,by go_num,by have:=D.o;omega,rfl,E⟩
     case measure=>have:=D.o;simp[intOf];omega
  by_cases U:x.kind=1
  case pos=>
   have f:Hid (Q (i+1)=((Q5 (s,d)).1,all)):=ZZ (by
    rw[G.o];unfold Jc
    rw[zaa O,zab U])
   rw[U] at ai
   have J:Hid (Calls prog 27 #[ptr p] wr fun e w'=>e=.returned (.int .i64 (Q5 (s,d)).2)∧Zjp B H pd p (Q (i+1)) (300*(i+1)) (600000*(i+1)) (.slice m t j) w'):=ZZ ((ZeO wr ad.o ao.o (OkS.num A.o.ok)).mono (by
    rintro e w' ⟨rfl,T,g⟩;refine⟨rfl,?_⟩;rw[f.o];have hm:=P.o.1
    exact(z.o.did S (fun k hk=>hk) T g).mono (by omega) (by omega)))
   generalize (Q5 (s,d)).2=cd at *;clear U f G
   go_wp2_with fail
   refine J.o.mono ?_;rintro e Y ⟨rfl,C⟩;have E:=ZZ C;clear C J;go_wp2;go_roundw
   case rel=>exact⟨i+1,m,t,j,by go_num,by have:=D.o;omega,rfl,E⟩
   case measure=>have:=D.o;simp[intOf];omega
  by_cases Z:x.kind=2
  case pos=>
   have f:Hid (Q (i+1)=((Yf (s,d)).1,all)):=ZZ (by
    rw[G.o];unfold Jc
    rw[zaa O,zaa U,zab Z])
   rw[Z] at ai
   have J:Hid (Calls prog 26 #[ptr p] wr fun e w'=>e=.returned (.int .i64 (Yf (s,d)).2)∧Zjp B H pd p (Q (i+1)) (300*(i+1)) (600000*(i+1)) (.slice m t j) w'):=ZZ ((ZpJ wr ad.o ao.o (OkS.num A.o.ok)).mono (by
    rintro e w' ⟨rfl,T,g⟩;refine⟨rfl,?_⟩;rw[f.o];have hm:=P.o.1
    exact(z.o.did S (fun k hk=>hk) T g).mono (by omega) (by omega)))
   generalize (Yf (s,d)).2=cd at *;clear Z f G
   go_wp2_with fail
   refine J.o.mono ?_;rintro e Y ⟨rfl,C⟩;have E:=ZZ C;clear C J;go_wp2;go_roundw
   case rel=>exact⟨i+1,m,t,j,by go_num,by have:=D.o;omega,rfl,E⟩
   case measure=>have:=D.o;simp[intOf];omega
  by_cases e3:x.kind=3
  case pos=>
   have f:Hid (Q (i+1)=((Xp (s,d)).1,all)):=ZZ (by
    rw[G.o];unfold Jc
    rw[zaa O,zaa U,zaa Z,zab e3])
   rw[e3] at ai
   have J:Hid (Calls prog 24 #[ptr p] wr fun e w'=>e=.returned (.int .i64 (Xp (s,d)).2)∧Zjp B H pd p (Q (i+1)) (300*(i+1)) (600000*(i+1)) (.slice m t j) w'):=ZZ ((Zjl wr ad.o ao.o (OkS.num A.o.ok) (by have:=P.o.2.2.2;omega) (by omega) (by omega)).mono (by
    rintro e w' ⟨rfl,T,g⟩;refine⟨rfl,?_⟩;rw[f.o];have hm:=P.o.1
    exact(z.o.did S (fun k hk=>hk) T g).mono (by omega) (by omega)))
   generalize (Xp (s,d)).2=cd at *;clear e3 f G
   go_wp2_with fail
   refine J.o.mono ?_;rintro e Y ⟨rfl,C⟩;have E:=ZZ C;clear C J;go_wp2;go_roundw
   case rel=>exact⟨i+1,m,t,j,by go_num,by have:=D.o;omega,rfl,E⟩
   case measure=>have:=D.o;simp[intOf];omega
  by_cases e4:x.kind=4
  case pos=>
   have f:Hid (Q (i+1)=((Z7 (s,d)).1,all)):=ZZ (by
    rw[G.o];unfold Jc
    rw[zaa O,zaa U,zaa Z,zaa e3,zab e4])
   have a2:Hid (∀ q ∈ s.log.pcs.dropLast,q.name≠s.cur):=ZZ (fun q hq=>by
    have aS:s.log.pcs.Pairwise (fun p q=>p.name<q.name):=A.o.nam
    have be:∀ p ∈ s.log.pcs,2<=p.name∧p.name % 2=0:=A.o.two;by_cases h0:s.cur=0
    ·have:=(be q ((zfr _).subset hq)).1
     omega
    ·obtain⟨a,c,a6,a4⟩:=A.o.curL h0
     have aW:s.log.pcs=a++[c]:=a6;have bl:c.name=s.cur:=a4;rw[aW,zfy] at hq;rw[aW,zc2] at aS;have:=aS.2.2 q hq c (by simp)
     omega)
   have bd:Hid (∀ q ∈ s.log.pcs,I64 q.name):=ZZ (fun q hq=>by
    exact aQ.o q.name (zbd.2 ⟨q,hq,rfl⟩))
   rw[e4] at ai
   have J:Hid (Calls prog 29 #[ptr p] wr fun e w'=>e=.returned (.int .i64 (Z7 (s,d)).2)∧Zjp B H pd p (Q (i+1)) (300*(i+1)) (600000*(i+1)) (.slice m t j) w'):=ZZ ((Zqh wr ad.o ao.o A.o.ok A.o.bs0 (by have:=P.o.2.2.2;omega) (by have:=P.o.1;omega) (by have:=P.o.2.1;omega) A.o.bas a2.o bd.o (by omega) (by omega)).mono (by
    rintro e w' ⟨rfl,T,g⟩;refine⟨rfl,?_⟩;rw[f.o];have hm:=P.o.1
    exact(z.o.did S (fun k hk=>hk) T g).mono (by omega) (by omega)))
   generalize (Z7 (s,d)).2=cd at *;clear e4 f G
   go_wp2_with fail
   refine J.o.mono ?_;rintro e Y ⟨rfl,C⟩;have E:=ZZ C;clear C J;go_wp2;go_roundw
   case rel=>exact⟨i+1,m,t,j,by go_num,by have:=D.o;omega,rfl,E⟩
   case measure=>have:=D.o;simp[intOf];omega
  by_cases e5:x.kind=5
  case pos=>
   have f:Hid (Q (i+1)=((s,Zqz d x.n),all)):=ZZ (by
    rw[G.o];unfold Jc
    rw[zaa O,zaa U,zaa Z,zaa e3,zaa e4,zab e5])
   rw[e5] at ai;have c2:=(aB.o wr z.o.old).c2
   have J:Hid (Calls prog 30 #[ptr pd,.int .i64 x.n] wr fun e w'=>e=.returned (.tuple #[])∧Zjp B H pd p (Q (i+1)) (300*(i+1)) (600000*(i+1)) (.slice m t j) w'):=ZZ ((ad.o.cut x.n aV.o.2.1).mono (by
    rintro e w' ⟨rfl,T,g⟩;refine⟨rfl,?_⟩;rw[f.o]
    exact(z.o.did (r:=(s,Zqz d x.n)) S (fun k hk=>hk) T g).mono (by omega) (by omega)))
   generalize x.n=xn at *;clear e5 f G
   go_wp2_with fail
   refine J.o.mono ?_;rintro e Y ⟨rfl,C⟩;have E:=ZZ C;clear C J;go_wp2;go_roundw
   case rel=>exact⟨i+1,m,t,j,by go_num,by have:=D.o;omega,rfl,E⟩
   case measure=>have:=D.o;simp[intOf];omega
  have f:Hid (Q (i+1)=((s,d),all)):=ZZ (by
   rw[G.o];unfold Jc
   rw[zaa O,zaa U,zaa Z,zaa e3,zaa e4,zaa e5])
  have R:=z.o.mono (show 300*i<=300*(i+1) by omega) (show 600000*i<=600000*(i+1) by omega)
  rw[<-f.o] at R;have E:=ZZ R;have b0:(x.kind == 0)=false:=zad.2 O;have b1:(x.kind == 1)=false:=zad.2 U;have b2:(x.kind == 2)=false:=zad.2 Z;have b3:(x.kind == 3)=false:=zad.2 e3;have b4:(x.kind == 4)=false:=zad.2 e4;have b5:(x.kind == 5)=false:=zad.2 e5;generalize x.kind=kx at *;clear O U Z e3 e4 e5 R f G;go_wp2;go_roundw
  case rel=>exact⟨i+1,m,t,j,by go_num,by have:=D.o;omega,rfl,E⟩
  case measure=>have:=D.o;simp[intOf];omega
end Go.Proofs.YtnahjngbneicaaaGreatDoor
