import Derived.Test.YtnahjngbneicaaaGreatDoorStoreRunL
namespace Go.Proofs.YtnahjngbneicaaaGreatDoor
set_option linter.unusedSimpArgs false
open _root_.Go.Proofs.Tryz
set_option maxRecDepth 100000
open Go.RowKit
def ZmI (kind room:Int):Run:=((ZoJ kind,Zhe room),[])
def ZyD (kind room:Int) (l:List SOp):Run:=l.foldl Zx (ZmI kind room)
theorem ZyE {kind room:Int} (a:0<=kind) (b:kind<6) (l:List SOp):X0 (ZyD kind room l).1 (ZyD kind room l).2 l.length:=by
 have:=X0.run l (x:=ZmI kind room) (Zhr room kind a b);rw[za9] at this;exact this
theorem ZwM {x:Run} (h:∀ r ∈ x.2,Q1 r) (o:SOp):∀ r ∈ (Zx x o).2,Q1 r:=by
 unfold Zx;split
 ·show ∀ r ∈ (if(Xc (Yz x.1.1.next o) x.1).2=0 then x.2++Yz x.1.1.next o else x.2),Q1 r
  split
  ·rename_i a
   intro r hr;rcases za2.1 hr with hr | hr
   ·exact h r hr
   ·unfold Xc at a
    split at a
    ·cases a
    ·rename_i b
     exact(Classical.not_not.1 b).2.2.1 r hr
  ·exact h
 split
 ·exact h
 split
 ·exact h
 split
 ·exact h
 split
 ·exact h
 split
 ·exact h
 ·exact h
theorem ZrK:∀ (l:List SOp) {x:Run},(∀ r ∈ x.2,Q1 r)->∀ r ∈ (l.foldl Zx x).2,Q1 r
 | [],_,h=>h
 | o::l,_,h=>ZrK l (ZwM h o)
theorem ZwN (kind room:Int) (l:List SOp) (i:Nat):∀ r ∈ (runQ (ZmI kind room) l i).2,Q1 r:=ZrK (l.take i) (x:=ZmI kind room) (fun r a=>by cases a)
set_option maxHeartbeats 8000000 in
theorem ZzX {B pd:Nat} {room:Int} (kind:Int) (v:Value) (l:List SOp) (H w:World) (hB:B=H.heap.size) (hl:RdS H v l) (hb:Below B H w) (hd:Zzr B w pd (Zhe room) 0 0) (h0:0<=kind) (U:kind<6) (bk:l.length<=60):
 Calls prog 10 #[ptr pd,.int .i64 kind,v] w fun e w'=>∃ p va,e=.returned (.tuple #[ptr p,va])∧ZjK B H pd p (ZyD kind room l) (300*l.length) (600000*l.length) va w':=by
 have P:B<=H.heap.size:=by omega
 have bf:=ZZ hB;have a4:=ZZ hl;obtain⟨la,lc,hv,-⟩:=id hl;have au:B<=w.heap.size:=zau P hb.size
 have aB:=ZZ (ZrC kind w hd au (by decide) (by decide) (by decide) (by
  unfold ZgT
  rw[zaa (by omega),zaa (show ¬ (Zhe room).power=0 by show ¬ (-1:Int)=0;decide)]))
 rw[ZcW] at aB;have aE:=ZZ hb;have bj:=ZBd;have aR:Hid (runQ (ZmI kind room) l 0=ZmI kind room):=ZZ rfl;have aY:Hid (∀ i o,l[i]?=some o->runQ (ZmI kind room) l (i+1)=Zx (runQ (ZmI kind room) l i) o):=ZZ (fun i o h=>ZoW _ l i o h)
 have aI:Hid (runQ (ZmI kind room) l l.length=ZyD kind room l):=ZZ (ZyB _ l);have aV:Hid (∀ i,i<=l.length->X0 (runQ (ZmI kind room) l i).1 (runQ (ZmI kind room) l i).2 i):=ZZ (fun i hi=>X0.runQ (x:=ZmI kind room) (Zhr room kind h0 U) l i hi)
 have aM:Hid (∀ i,∀ r ∈ (runQ (ZmI kind room) l i).2,Q1 r):=ZZ (fun i=>ZwN kind room l i)
 have aL:Hid (ZmI kind room=((ZoJ kind,Zhe room),[])):=ZZ rfl;have aF:Hid (∀ i,i<=l.length->NmI (runQ (ZmI kind room) l i).1.1):=ZZ (fun i hi=>ZrJ (x:=ZmI kind room) (fun q hq=>by cases hq) (Zhr room kind h0 U) l i hi)
 generalize ZyD kind room l=XE at *;generalize runQ (ZmI kind room) l=Q at *
 have ab:Hid (Zhi (ZoJ kind) 0 0=([],0)∧(ZoJ kind).next=0∧OkS (ZoJ kind)∧(ZoJ kind).log.recs=[]):=ZZ (by
  have f:=Zfl (d:=Zhe room) (kind:=kind) h0 U;rw[ZcW] at f
  exact⟨rfl,rfl,f,rfl⟩)
 subst hv;have bo:(l.length:Int)<=60:=by omega
 clear hl hb hd hB
 go_enter func10,ntmps10
 go_wp2_with fail
 refine aB.o.mono ?_;rintro e W1 ⟨p,rfl,aX,aj⟩;have aC:=ZZ aX;have ak:=ZZ (aE.o.trans (aj.mono au));have aD:B<=W1.heap.size:=zau au aj.size;have af:=ZZ (aC.o.next ab.o.2.2.1.num);rw[ab.o.2.1] at af;clear aX aj aB au
 go_wp2_with fail
 refine af.o.mono ?_;rintro e W2 ⟨rfl,ad⟩;have aw:=ZZ (aC.o.below ad);have am:=ZZ (ak.o.trans (ad.mono aD));have aJ:B<=W2.heap.size:=zau aD ad.size
 have ap:Hid (Calls prog 17 #[ptr p,.int .i64 0,.int .i64 0] W2 fun e w'=>∃ v,e=.returned (.tuple #[v,.int .i64 0])∧Xl w' W2.heap.size v []∧Below W2.heap.size W2 w'):=ZZ (by
  obtain⟨F,M,I,L,U,h2,-⟩:=aw.o;have:=ZnQ 0 0 W2 h2 ab.o.2.2.1.num (by rw[ab.o.2.2.2];intro r hr;cases hr) (by rw[ab.o.2.2.2];exact zap _)
  rw[ab.o.1] at this
  exact this)
 clear ad af aC ak
 go_wp2_with fail
 refine ap.o.mono ?_;rintro e Y ⟨v3,rfl,aq,aA⟩
 have al:Hid (ZjK B H pd p (Q 0) (300*0) (600000*0) v3 Y):=ZZ (by
  rw[aR.o,aL.o];refine⟨(aw.o.fresh aA).less fun k hk=>?_,aq.mono aJ,am.o.trans (aA.mono aJ)⟩
  rcases hk with hk | hk
  ·exact .inl hk
  ·exact .inr (zaz aq k hk))
 obtain⟨a3,n3,c3,bi⟩:∃ a n c,v3=Value.slice a n c:=by
  obtain⟨a,c,O⟩:=aq.shape;exact⟨a,_,c,O⟩
 subst bi;clear aq aA ap aw am aR aL ab aE;go_wp2
 go_loopw[10,12] (fun va vi wr=>∃ (i:Nat) (a:Option Addr) (n c:Nat),vi=.int .i64 (i:Int)∧i<=l.length∧va=.slice a n c∧Hid (ZjK B H pd p (Q i) (300*i) (600000*i) (.slice a n c) wr)) (fun _ vi _=>l.length-(intOf vi).toNat)
 case atStart=>exact⟨0,_,_,_,rfl,zap _,rfl,al⟩
 case round=>
  clear al;obtain⟨i,t,m,j,rfl,bp,rfl,A⟩:=hrel;by_cases ax:i<l.length
  case neg=>
   obtain rfl:i=l.length:=by omega
   rw[aI.o] at A;go_wp2;go_ret2;exact⟨_,_,rfl,A.o⟩
  have a1:B<=wr.heap.size:=zau P A.o.old.size;obtain⟨x,u,y,ka,kc,ra,rc,ba,bc,hx,a0,f⟩:=a4.o.at ax;subst a0;have E:=ZZ (aY.o i x hx);have z:=ZZ (aV.o i (by omega))
  have a7:=ZZ (aM.o i);have aN:=ZZ (aF.o i (by omega))
  have az:Hid (∀ W,Below B H W->ZoB W u (y+i*9) x (.slice ka x.keep.length kc) (.slice ra x.recs.length rc) (.slice ba x.b.length bc)):=ZZ (fun W h=>f.below h (zep bf.o.symm))
  have ag:=(az.o wr A.o.old).c0;have aH:=ZZ (And.intro f.i0 (And.intro f.i2 f.io));have D:=ZZ ax;have bn:i<=60:=by omega
  obtain⟨X,hX⟩:=zg7 (Q i);rw[<-hX] at A E z a7 aN;obtain⟨⟨s,d⟩,all⟩:=X;clear hX hx f ax aI aY aV aM aF;have ao:Hid (∀ k,(k<B∨(Value.slice t m j).ownBlock=some k)->k<wr.heap.size):=ZZ (A.o.size P);have ae:Hid (SD (fun k=>k<B∨(Value.slice t m j).ownBlock=some k) wr pd p s d (300*i) (600000*i)):=ZZ A.o.sd
  have S:Hid (s.log.pcs.length<=60∧s.log.recs.length<=1200∧all.length<=1200∧s.bases.length<=61):=ZZ (by
   have U:s.log.pcs.length<=i:=z.o.pcn;have h2:s.log.recs=all.drop s.log.first.toNat:=z.o.recs;have h3:=z.o.rcn;have h4:s.bases.length<=i+1:=z.o.bsn
   dsimp only at h3
   refine⟨by omega,?_,by omega,by omega⟩
   rw[h2,zci]
   omega)
  by_cases N:x.kind=0
  case pos=>
   have g:Hid (Q (i+1)=((Xc (Yz s.next x) (s,d)).1,if(Xc (Yz s.next x) (s,d)).2=0 then all++Yz s.next x else all)):=ZZ (by
    rw[E.o];unfold Zx
    rw[zab N])
   rw[N] at ag
   have af:Hid (∀ W,Below wr.heap.size wr W->Calls prog 14 #[ptr p] W fun e w'=>e=.returned (.int .i64 s.next)∧Below wr.heap.size wr w'):=ZZ (fun W K=>((ae.o.below K).next (OkS.num z.o.ok)).mono (by
    rintro e w' ⟨rfl,hb⟩
    exact⟨rfl,K.trans (hb.mono K.size)⟩))
   have ar:Hid (0<=s.next∧s.next<=4611686018427387904):=ZZ (by
    have aP:OkS s:=z.o.ok;have U:=aP.log.f0;have h2:s.next=s.log.first+s.log.recs.length:=rfl
    exact⟨by omega,aP.log.top⟩)
   have ap:Hid (∀ W,Below wr.heap.size wr W->Calls prog 23 #[.int .i64 s.next,.agg #[.int .i64 0,.int .i64 x.many,.int .i64 x.n,.int .i64 x.op.code,.int .i64 x.op.a,.int .i64 x.op.b,.slice ka x.keep.length kc,.slice ra x.recs.length rc,.slice ba x.b.length bc]] W fun e w'=>∃ v,e=.returned v∧Xl w' wr.heap.size v (Yz s.next x)∧Below wr.heap.size wr w'):=ZZ (fun W K=>by
    have h9:=ZgO s.next x ka x.keep.length kc ra x.recs.length rc ba x.b.length bc W ar.o.1 ar.o.2;rw[N] at h9;refine h9.mono ?_;rintro e w' ⟨v,rfl,f,hb⟩
    exact⟨v,rfl,f.mono K.size,K.trans (hb.mono K.size)⟩)
   have av:Hid (∀ W,Below wr.heap.size wr W->W.cell? ⟨u,y+i*9,none⟩=some (.int .i64 0)∧W.cell? ⟨u,y+i*9+1,none⟩=some (.int .i64 x.many)∧W.cell? ⟨u,y+i*9+2,none⟩=some (.int .i64 x.n)∧W.cell? ⟨u,y+i*9+3,none⟩=some (.int .i64 x.op.code)∧W.cell? ⟨u,y+i*9+4,none⟩=some (.int .i64 x.op.a)∧W.cell? ⟨u,y+i*9+5,none⟩=some (.int .i64 x.op.b)∧W.cell? ⟨u,y+i*9+6,none⟩=some (.slice ka x.keep.length kc)∧W.cell? ⟨u,y+i*9+7,none⟩=some (.slice ra x.recs.length rc)∧W.cell? ⟨u,y+i*9+8,none⟩=some (.slice ba x.b.length bc)):=ZZ (fun W K=>by
    have O:=az.o W (A.o.old.trans (K.mono a1));rw[<-N]
    exact⟨O.c0,O.c1,O.c2,O.c3,O.c4,O.c5,O.c6,O.c7,O.c8⟩)
   have aQ:Hid (Below wr.heap.size wr wr.drew):=ZZ (zac _ _).drew
   have ay:Hid (∀ (v:Value) W,Xl W wr.heap.size v (Yz s.next x)->Below wr.heap.size wr W->Calls prog 22 #[ptr p,v] W fun e w'=>e=.returned (.int .i64 (Xc (Yz s.next x) (s,d)).2)∧ZjK B H pd p ((Xc (Yz s.next x) (s,d)).1,all) (300*(i+1)) (600000*(i+1)) (.slice t m j) w'∧RdR w' v (Yz s.next x)):=ZZ (fun v W f K=>by
    have aW:=f.rd (ZoV ar.o.1 ar.o.2 aH.o.2.2);have aG:∀ k,v.ownBlock=some k->((k<B∨(Value.slice t m j).ownBlock=some k)∨(wr.heap.size<=k∧k<W.heap.size)):=fun k hk=>.inr (zaz f k hk)
    refine(Zef v (Yz s.next x) W (ae.o.fresh K) (fun k hk=>by
     rcases hk with hk | hk
     ·exact zay (ao.o k hk) K.size
     ·exact hk.2) z.o.ok aW (.inr aG) (by have:=S.o.1;omega) (by have:=S.o.2.1;omega) (by omega) (by omega)).mono ?_
    rintro e w' ⟨rfl,R,ai⟩;refine⟨rfl,?_,aW.keepK (.inr aG) ai⟩;have:=(A.o.below P K).did P (fun k hk=>.inl hk) R ai
    exact this.mono (by omega) (by omega))
   have a2:Hid ((Yz s.next x).length<=20):=ZZ (Zgh _ _);generalize Yz s.next x=RS at *;generalize s.next=nx at *;generalize Xc RS (s,d)=AR at *;obtain⟨AX,cd⟩:=AR
   dsimp only at ay g
   generalize x.many=xm at *;generalize x.n=xn at *;generalize x.op.code=xc at *;generalize x.op.a=xa at *;generalize x.op.b=xb at *;generalize x.keep.length=xk at *;generalize x.recs.length=xr at *;generalize x.b.length=xl at *;clear N E
   go_upto_region 12 with fail
   go_region_held(fun W=>W.cell? ⟨u,y+i*9,none⟩=some (.int .i64 0)∧W.cell? ⟨u,y+i*9+1,none⟩=some (.int .i64 xm)∧W.cell? ⟨u,y+i*9+2,none⟩=some (.int .i64 xn)∧W.cell? ⟨u,y+i*9+3,none⟩=some (.int .i64 xc)∧W.cell? ⟨u,y+i*9+4,none⟩=some (.int .i64 xa)∧W.cell? ⟨u,y+i*9+5,none⟩=some (.int .i64 xb)∧W.cell? ⟨u,y+i*9+6,none⟩=some (.slice ka xk kc)∧W.cell? ⟨u,y+i*9+7,none⟩=some (.slice ra xr rc)∧W.cell? ⟨u,y+i*9+8,none⟩=some (.slice ba xl bc))
    (first | (with_reducible exact av.o _ aQ.o) | (with_reducible exact av.o _ ak.o) | (with_reducible exact av.o _ am.o))
    (first
     | (go_at_call 14;refine(af.o _ aQ.o).mono ?_;rintro e W1 ⟨rfl,aj⟩;have ak:=ZZ aj;clear aj)
     | (go_at_call 23;refine(ap.o _ ak.o).mono ?_;rintro e W2 ⟨v2,rfl,ai,ad⟩;obtain⟨z1,z2,z3,hz⟩:∃ a n c,v2=Value.slice a n c:=(by obtain⟨a,c,O⟩:=ai.shape;exact⟨a,_,c,O⟩);subst hz;have aK:=ZZ ai;have am:=ZZ ad;clear ai ad))
   all_goals
    have HA:=ZZ (ay.o _ W2 aK.o am.o);have bl:Hid (Xl wr 0 (.slice t m j) all):=ZZ (A.o.own.mono (zap _));clear af ap av ay ak aK am
    go_wp2_with fail
    refine HA.o.mono ?_;rintro e Y ⟨rfl,C,aU⟩;have al:=ZZ C;have a5:=ZZ aU;clear C aU HA;by_cases hc:cd=0
    ·subst hc
     rw[zab rfl] at g;have a8:Hid (all.length+RS.length<=10000000):=ZZ (by have:=S.o.2.2.1;have:=a2.o;omega)
     have be:Hid (Xl Y 0 (.slice t m j) all):=ZZ (al.o.own.mono (zap _))
     go_wp2_with(at_builtin;refine(fun(h:True->_)=>h trivial) ?_)
     intro _;refine Zbv Y rfl _ _ rfl (.slice t m j) all rfl be.o (.slice z1 z2 z3) RS rfl a5.o a8.o ?_;intro v4 W4 U h2 h3;have T:=al.o.more P U h2 h3;rw[<-g.o] at T;have G:=ZZ T;obtain⟨a9,c9,aS⟩:=U.shape;generalize (all++RS).length=n9 at aS;subst aS;clear U h2 h3 T;go_wp2;go_roundw
     case rel=>exact⟨i+1,a9,n9,c9,by go_num,by have:=D.o;omega,rfl,G⟩
     case measure=>have:=D.o;simp[intOf];omega
    ·rw[zaa hc] at g
     have T:=al.o;rw[<-g.o] at T;have G:=ZZ T;have bm:(cd == 0)=false:=zah.2 hc;clear hc T;go_wp2;go_roundw
     case rel=>exact⟨i+1,t,m,j,by go_num,by have:=D.o;omega,rfl,G⟩
     case measure=>have:=D.o;simp[intOf];omega
  by_cases V:x.kind=1
  case pos=>
   have g:Hid (Q (i+1)=((Q5 (s,d)).1,all)):=ZZ (by
    rw[E.o];unfold Zx
    rw[zaa N,zab V])
   rw[V] at ag
   have J:Hid (Calls prog 27 #[ptr p] wr fun e w'=>e=.returned (.int .i64 (Q5 (s,d)).2)∧ZjK B H pd p (Q (i+1)) (300*(i+1)) (600000*(i+1)) (.slice t m j) w'):=ZZ ((ZeX wr ae.o ao.o (OkS.num z.o.ok)).mono (by
    rintro e w' ⟨rfl,R,f⟩;refine⟨rfl,?_⟩;rw[g.o];have hm:=S.o.1
    exact(A.o.did P (fun k hk=>hk) R f).mono (by omega) (by omega)))
   generalize (Q5 (s,d)).2=cd at *;clear V g E
   go_wp2_with fail
   refine J.o.mono ?_;rintro e Y ⟨rfl,C⟩;have G:=ZZ C;clear C J;go_wp2;go_roundw
   case rel=>exact⟨i+1,t,m,j,by go_num,by have:=D.o;omega,rfl,G⟩
   case measure=>have:=D.o;simp[intOf];omega
  by_cases Z:x.kind=2
  case pos=>
   have g:Hid (Q (i+1)=((Yb (s,d)).1,all)):=ZZ (by
    rw[E.o];unfold Zx
    rw[zaa N,zaa V,zab Z])
   rw[Z] at ag
   have J:Hid (Calls prog 26 #[ptr p] wr fun e w'=>e=.returned (.int .i64 (Yb (s,d)).2)∧ZjK B H pd p (Q (i+1)) (300*(i+1)) (600000*(i+1)) (.slice t m j) w'):=ZZ ((Zqa wr ae.o ao.o (OkS.num z.o.ok)).mono (by
    rintro e w' ⟨rfl,R,f⟩;refine⟨rfl,?_⟩;rw[g.o];have hm:=S.o.1
    exact(A.o.did P (fun k hk=>hk) R f).mono (by omega) (by omega)))
   generalize (Yb (s,d)).2=cd at *;clear Z g E
   go_wp2_with fail
   refine J.o.mono ?_;rintro e Y ⟨rfl,C⟩;have G:=ZZ C;clear C J;go_wp2;go_roundw
   case rel=>exact⟨i+1,t,m,j,by go_num,by have:=D.o;omega,rfl,G⟩
   case measure=>have:=D.o;simp[intOf];omega
  by_cases e3:x.kind=3
  case pos=>
   have g:Hid (Q (i+1)=((Qs (s,d)).1,all)):=ZZ (by
    rw[E.o];unfold Zx
    rw[zaa N,zaa V,zaa Z,zab e3])
   rw[e3] at ag
   have J:Hid (Calls prog 24 #[ptr p] wr fun e w'=>e=.returned (.int .i64 (Qs (s,d)).2)∧ZjK B H pd p (Q (i+1)) (300*(i+1)) (600000*(i+1)) (.slice t m j) w'):=ZZ ((Zdc wr ae.o ao.o (OkS.num z.o.ok) (by have:=S.o.2.2.2;omega) (by omega) (by omega)).mono (by
    rintro e w' ⟨rfl,R,f⟩;refine⟨rfl,?_⟩;rw[g.o];have hm:=S.o.1
    exact(A.o.did P (fun k hk=>hk) R f).mono (by omega) (by omega)))
   generalize (Qs (s,d)).2=cd at *;clear e3 g E
   go_wp2_with fail
   refine J.o.mono ?_;rintro e Y ⟨rfl,C⟩;have G:=ZZ C;clear C J;go_wp2;go_roundw
   case rel=>exact⟨i+1,t,m,j,by go_num,by have:=D.o;omega,rfl,G⟩
   case measure=>have:=D.o;simp[intOf];omega
  by_cases e4:x.kind=4
  case pos=>
   have g:Hid (Q (i+1)=((Zn (s,d)).1,all)):=ZZ (by
    rw[E.o];unfold Zx
    rw[zaa N,zaa V,zaa Z,zaa e3,zab e4])
   have bd:Hid (∀ q ∈ s.log.pcs.dropLast,q.name≠s.cur):=ZZ (fun q hq=>by
    have aO:s.log.pcs.Pairwise (fun p q=>p.name<q.name):=z.o.nam
    have bg:∀ p ∈ s.log.pcs,2<=p.name∧p.name % 2=0:=z.o.two;by_cases h0:s.cur=0
    ·have:=(bg q ((zf1 _).subset hq)).1
     omega
    ·obtain⟨a,c,a6,bb⟩:=z.o.curL h0
     have aT:s.log.pcs=a++[c]:=a6;have bq:c.name=s.cur:=bb;rw[aT,zga] at hq;rw[aT,zde] at aO;have:=aO.2.2 q hq c (by simp)
     omega)
   have aZ:Hid (∀ q ∈ s.log.pcs,I64 q.name):=ZZ (fun q hq=>by
    exact aN.o q.name (zbm.2 ⟨q,hq,rfl⟩))
   rw[e4] at ag
   have J:Hid (Calls prog 29 #[ptr p] wr fun e w'=>e=.returned (.int .i64 (Zn (s,d)).2)∧ZjK B H pd p (Q (i+1)) (300*(i+1)) (600000*(i+1)) (.slice t m j) w'):=ZZ ((ZqQ wr ae.o ao.o z.o.ok z.o.bs0 (by have:=S.o.2.2.2;omega) (by have:=S.o.1;omega) (by have:=S.o.2.1;omega) z.o.bas bd.o aZ.o (by omega) (by omega)).mono (by
    rintro e w' ⟨rfl,R,f⟩;refine⟨rfl,?_⟩;rw[g.o];have hm:=S.o.1
    exact(A.o.did P (fun k hk=>hk) R f).mono (by omega) (by omega)))
   generalize (Zn (s,d)).2=cd at *;clear e4 g E
   go_wp2_with fail
   refine J.o.mono ?_;rintro e Y ⟨rfl,C⟩;have G:=ZZ C;clear C J;go_wp2;go_roundw
   case rel=>exact⟨i+1,t,m,j,by go_num,by have:=D.o;omega,rfl,G⟩
   case measure=>have:=D.o;simp[intOf];omega
  by_cases e5:x.kind=5
  case pos=>
   have g:Hid (Q (i+1)=((s,ZqS d x.n),all)):=ZZ (by
    rw[E.o];unfold Zx
    rw[zaa N,zaa V,zaa Z,zaa e3,zaa e4,zab e5])
   rw[e5] at ag;have c2:=(az.o wr A.o.old).c2
   have J:Hid (Calls prog 30 #[ptr pd,.int .i64 x.n] wr fun e w'=>e=.returned (.tuple #[])∧ZjK B H pd p (Q (i+1)) (300*(i+1)) (600000*(i+1)) (.slice t m j) w'):=ZZ ((ae.o.cut x.n aH.o.2.1).mono (by
    rintro e w' ⟨rfl,R,f⟩;refine⟨rfl,?_⟩;rw[g.o]
    exact(A.o.did (r:=(s,ZqS d x.n)) P (fun k hk=>hk) R f).mono (by omega) (by omega)))
   generalize x.n=xn at *;clear e5 g E
   go_wp2_with fail
   refine J.o.mono ?_;rintro e Y ⟨rfl,C⟩;have G:=ZZ C;clear C J;go_wp2;go_roundw
   case rel=>exact⟨i+1,t,m,j,by go_num,by have:=D.o;omega,rfl,G⟩
   case measure=>have:=D.o;simp[intOf];omega
  have g:Hid (Q (i+1)=((s,d),all)):=ZZ (by
   rw[E.o];unfold Zx
   rw[zaa N,zaa V,zaa Z,zaa e3,zaa e4,zaa e5])
  have T:=A.o.mono (show 300*i<=300*(i+1) by omega) (show 600000*i<=600000*(i+1) by omega)
  rw[<-g.o] at T;have G:=ZZ T;have b0:(x.kind == 0)=false:=zah.2 N;have b1:(x.kind == 1)=false:=zah.2 V;have b2:(x.kind == 2)=false:=zah.2 Z;have b3:(x.kind == 3)=false:=zah.2 e3;have b4:(x.kind == 4)=false:=zah.2 e4;have b5:(x.kind == 5)=false:=zah.2 e5;generalize x.kind=kx at *;clear N V Z e3 e4 e5 T g E;go_wp2;go_roundw
  case rel=>exact⟨i+1,t,m,j,by go_num,by have:=D.o;omega,rfl,G⟩
  case measure=>have:=D.o;simp[intOf];omega
end Go.Proofs.YtnahjngbneicaaaGreatDoor
