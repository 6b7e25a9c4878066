import Derived.Test.YtnahjngbneicaaaGreatDoorStoreRunL
namespace Go.Proofs.YtnahjngbneicaaaGreatDoor
open _root_.Go.Proofs.Tryz
set_option maxRecDepth 100000
open Go.RowKit
def ZqZ (kind room:Int):Run:=((ZtK kind,Zmi room),[])
def ZBw (kind room:Int) (l:List SOp):Run:=l.foldl Zer (ZqZ kind room)
theorem ZAf {kind room:Int} (a:0<=kind) (b:kind<6) (l:List SOp):ZcB (ZBw kind room l).1 (ZBw kind room l).2 l.length:=by
 have:=ZcB.run l (x:=ZqZ kind room) (ZoQ room kind a b);rw[Nat.zero_add] at this;exact this
theorem ZyA {x:Run} (h:∀ r ∈ x.2,ZaA r) (o:SOp):∀ r ∈ (Zer x o).2,ZaA r:=by
 unfold Zer;split
 ·show ∀ r ∈ (if(Zbz (Zcq x.1.1.next o) x.1).2=0 then x.2++Zcq x.1.1.next o else x.2),ZaA r
  split
  ·rename_i a
   intro r hr;rcases List.mem_append.1 hr with hr | hr
   ·exact h r hr
   ·unfold Zbz at a
    split at a
    ·cases a
    ·rename_i b
     exact(Classical.not_not.1 b).2.2.1 r hr
  ·exact h
 split
 ·exact h
 split
 ·exact h
 split
 ·exact h
 split
 ·exact h
 split
 ·exact h
 ·exact h
theorem ZtO:∀ (l:List SOp) {x:Run},(∀ r ∈ x.2,ZaA r)->∀ r ∈ (l.foldl Zer x).2,ZaA r
 | [],_,h=>h
 | o::l,_,h=>ZtO l (ZyA h o)
theorem ZyB (kind room:Int) (l:List SOp) (i:Nat):∀ r ∈ (runQ (ZqZ kind room) l i).2,ZaA r:=ZtO (l.take i) (x:=ZqZ kind room) (fun r a=>by cases a)
set_option maxHeartbeats 8000000 in
theorem ZBq {B pd:Nat} {room:Int} (kind:Int) (v:Value) (l:List SOp) (J w:World) (hB:B=J.heap.size) (hl:RdS J v l) (hb:Below B J w) (hd:ZAK B w pd (Zmi room) 0 0) (h0:0<=kind) (V:kind<6) (bh:l.length<=60):
 Calls prog 10 #[ptr pd,.int .i64 kind,v] w fun e w'=>∃ p va,e=.returned (.tuple #[ptr p,va])∧Zmf B J pd p (ZBw kind room l) (300*l.length) (600000*l.length) va w':=by
 have R:B<=J.heap.size:=by omega
 have bb:=ZZ hB;have aY:=ZZ hl;obtain⟨la,lc,hv,-⟩:=id hl;have aq:B<=w.heap.size:=Nat.le_trans R hb.size
 have ax:=ZZ (ZtM kind w hd aq (by decide) (by decide) (by decide) (by
  unfold ZiA
  rw[if_neg (by omega),if_neg (show ¬ (Zmi room).power=0 by show ¬ (-1:Int)=0;decide)]))
 rw[Zgl] at ax;have aK:=ZZ hb;have bk:=ZCA;have aJ:Hid (runQ (ZqZ kind room) l 0=ZqZ kind room):=ZZ rfl;have aU:Hid (∀ i o,l[i]?=some o->runQ (ZqZ kind room) l (i+1)=Zer (runQ (ZqZ kind room) l i) o):=ZZ (fun i o h=>ZqY _ l i o h)
 have aC:Hid (runQ (ZqZ kind room) l l.length=ZBw kind room l):=ZZ (ZAd _ l);have aM:Hid (∀ i,i<=l.length->ZcB (runQ (ZqZ kind room) l i).1 (runQ (ZqZ kind room) l i).2 i):=ZZ (fun i hi=>ZcB.runQ (x:=ZqZ kind room) (ZoQ room kind h0 V) l i hi)
 have aX:Hid (∀ i,∀ r ∈ (runQ (ZqZ kind room) l i).2,ZaA r):=ZZ (fun i=>ZyB kind room l i)
 have aV:Hid (ZqZ kind room=((ZtK kind,Zmi room),[])):=ZZ rfl;have aF:Hid (∀ i,i<=l.length->NmI (runQ (ZqZ kind room) l i).1.1):=ZZ (fun i hi=>ZtN (x:=ZqZ kind room) (fun q hq=>by cases hq) (ZoQ room kind h0 V) l i hi)
 generalize ZBw kind room l=XE at *;generalize runQ (ZqZ kind room) l=Q at *
 have ab:Hid (ZjQ (ZtK kind) 0 0=([],0)∧(ZtK kind).next=0∧OkS (ZtK kind)∧(ZtK kind).log.recs=[]):=ZZ (by
  have g:=Zij (d:=Zmi room) (kind:=kind) h0 V;rw[Zgl] at g
  exact⟨rfl,rfl,g,rfl⟩)
 subst hv;have bj:(l.length:Int)<=60:=by omega
 clear hl hb hd hB
 go_enter func10,ntmps10
 go_wp2_with fail
 refine ax.o.mono ?_;rintro e W1 ⟨p,rfl,aR,ah⟩;have av:=ZZ aR;have ak:=ZZ (aK.o.trans (ah.mono aq));have aE:B<=W1.heap.size:=Nat.le_trans aq ah.size;have aj:=ZZ (av.o.next ab.o.2.2.1.num);rw[ab.o.2.1] at aj;clear aR ah ax aq
 go_wp2_with fail
 refine aj.o.mono ?_;rintro e W2 ⟨rfl,ae⟩;have aB:=ZZ (av.o.below ae);have ai:=ZZ (ak.o.trans (ae.mono aE));have aL:B<=W2.heap.size:=Nat.le_trans aE ae.size
 have ao:Hid (Calls prog 17 #[ptr p,.int .i64 0,.int .i64 0] W2 fun e w'=>∃ v,e=.returned (.tuple #[v,.int .i64 0])∧Zbq w' W2.heap.size v []∧Below W2.heap.size W2 w'):=ZZ (by
  obtain⟨F,M,I,L,V,h2,-⟩:=aB.o;have:=ZpY 0 0 W2 h2 ab.o.2.2.1.num (by rw[ab.o.2.2.2];intro r hr;cases hr) (by rw[ab.o.2.2.2];exact Nat.zero_le _)
  rw[ab.o.1] at this
  exact this)
 clear ae aj av ak
 go_wp2_with fail
 refine ao.o.mono ?_;rintro e Z ⟨v3,rfl,ar,aw⟩
 have al:Hid (Zmf B J pd p (Q 0) (300*0) (600000*0) v3 Z):=ZZ (by
  rw[aJ.o,aV.o];refine⟨(aB.o.fresh aw).less fun k hk=>?_,ar.mono aL,ai.o.trans (aw.mono aL)⟩
  rcases hk with hk | hk
  ·exact .inl hk
  ·exact .inr (World.ownsRow.lt ar k hk))
 obtain⟨a3,n3,c3,a6⟩:∃ a n c,v3=Value.slice a n c:=by
  obtain⟨a,c,P⟩:=ar.shape;exact⟨a,_,c,P⟩
 subst a6;clear ar aw ao aB ai aJ aV ab aK;go_wp2
 go_loopw[10,12] (fun va vi wr=>∃ (i:Nat) (a:Option Addr) (n c:Nat),vi=.int .i64 (i:Int)∧i<=l.length∧va=.slice a n c∧Hid (Zmf B J pd p (Q i) (300*i) (600000*i) (.slice a n c) wr)) (fun _ vi _=>l.length-(intOf vi).toNat)
 case atStart=>exact⟨0,_,_,_,rfl,Nat.zero_le _,rfl,al⟩
 case round=>
  clear al;obtain⟨i,u,m,j,rfl,bn,rfl,C⟩:=hrel;by_cases ay:i<l.length
  case neg=>
   obtain rfl:i=l.length:=by omega
   rw[aC.o] at C;go_wp2;go_ret2;exact⟨_,_,rfl,C.o⟩
  have aZ:B<=wr.heap.size:=Nat.le_trans R C.o.old.size;obtain⟨x,t,y,ka,kc,ra,rc,ba,bc,hx,a2,g⟩:=aY.o.at ay;subst a2;have H:=ZZ (aU.o i x hx);have A:=ZZ (aM.o i (by omega))
  have bg:=ZZ (aX.o i);have aS:=ZZ (aF.o i (by omega))
  have aA:Hid (∀ W,Below B J W->ZsH W t (y+i*9) x (.slice ka x.keep.length kc) (.slice ra x.recs.length rc) (.slice ba x.b.length bc)):=ZZ (fun W h=>g.below h (Nat.le_of_eq bb.o.symm))
  have ag:=(aA.o wr C.o.old).c0;have aH:=ZZ (And.intro g.i0 (And.intro g.i2 g.io));have D:=ZZ ay;have bl:i<=60:=by omega
  obtain⟨X,hX⟩:∃ X,X=Q i:=⟨_,rfl⟩;rw[<-hX] at C H A bg aS;obtain⟨⟨s,d⟩,E⟩:=X;clear hX hx g ay aC aU aM aX aF;have am:Hid (∀ k,(k<B∨(Value.slice u m j).ownBlock=some k)->k<wr.heap.size):=ZZ (C.o.size R);have ad:Hid (SD (fun k=>k<B∨(Value.slice u m j).ownBlock=some k) wr pd p s d (300*i) (600000*i)):=ZZ C.o.sd
  have T:Hid (s.log.pcs.length<=60∧s.log.recs.length<=1200∧E.length<=1200∧s.bases.length<=61):=ZZ (by
   have V:s.log.pcs.length<=i:=A.o.pcn;have h2:s.log.recs=E.drop s.log.first.toNat:=A.o.recs;have h3:=A.o.rcn;have h4:s.bases.length<=i+1:=A.o.bsn
   dsimp only at h3
   refine⟨by omega,?_,by omega,by omega⟩
   rw[h2,List.length_drop]
   omega)
  by_cases O:x.kind=0
  case pos=>
   have f:Hid (Q (i+1)=((Zbz (Zcq s.next x) (s,d)).1,if(Zbz (Zcq s.next x) (s,d)).2=0 then E++Zcq s.next x else E)):=ZZ (by
    rw[H.o];unfold Zer
    rw[if_pos O])
   rw[O] at ag
   have aj:Hid (∀ W,Below wr.heap.size wr W->Calls prog 14 #[ptr p] W fun e w'=>e=.returned (.int .i64 s.next)∧Below wr.heap.size wr w'):=ZZ (fun W N=>((ad.o.below N).next (OkS.num A.o.ok)).mono (by
    rintro e w' ⟨rfl,hb⟩
    exact⟨rfl,N.trans (hb.mono N.size)⟩))
   have au:Hid (0<=s.next∧s.next<=4611686018427387904):=ZZ (by
    have aT:OkS s:=A.o.ok;have V:=aT.log.f0;have h2:s.next=s.log.first+s.log.recs.length:=rfl
    exact⟨by omega,aT.log.top⟩)
   have ao:Hid (∀ W,Below wr.heap.size wr W->Calls prog 23 #[.int .i64 s.next,.agg #[.int .i64 0,.int .i64 x.many,.int .i64 x.n,.int .i64 x.op.code,.int .i64 x.op.a,.int .i64 x.op.b,.slice ka x.keep.length kc,.slice ra x.recs.length rc,.slice ba x.b.length bc]] W fun e w'=>∃ v,e=.returned v∧Zbq w' wr.heap.size v (Zcq s.next x)∧Below wr.heap.size wr w'):=ZZ (fun W N=>by
    have h9:=ZqO s.next x ka x.keep.length kc ra x.recs.length rc ba x.b.length bc W au.o.1 au.o.2;rw[O] at h9;refine h9.mono ?_;rintro e w' ⟨v,rfl,g,hb⟩
    exact⟨v,rfl,g.mono N.size,N.trans (hb.mono N.size)⟩)
   have ap:Hid (∀ W,Below wr.heap.size wr W->W.cell? ⟨t,y+i*9,none⟩=some (.int .i64 0)∧W.cell? ⟨t,y+i*9+1,none⟩=some (.int .i64 x.many)∧W.cell? ⟨t,y+i*9+2,none⟩=some (.int .i64 x.n)∧W.cell? ⟨t,y+i*9+3,none⟩=some (.int .i64 x.op.code)∧W.cell? ⟨t,y+i*9+4,none⟩=some (.int .i64 x.op.a)∧W.cell? ⟨t,y+i*9+5,none⟩=some (.int .i64 x.op.b)∧W.cell? ⟨t,y+i*9+6,none⟩=some (.slice ka x.keep.length kc)∧W.cell? ⟨t,y+i*9+7,none⟩=some (.slice ra x.recs.length rc)∧W.cell? ⟨t,y+i*9+8,none⟩=some (.slice ba x.b.length bc)):=ZZ (fun W N=>by
    have P:=aA.o W (C.o.old.trans (N.mono aZ));rw[<-O]
    exact⟨P.c0,P.c1,P.c2,P.c3,P.c4,P.c5,P.c6,P.c7,P.c8⟩)
   have aP:Hid (Below wr.heap.size wr wr.drew):=ZZ (Below.refl _ _).drew
   have az:Hid (∀ (v:Value) W,Zbq W wr.heap.size v (Zcq s.next x)->Below wr.heap.size wr W->Calls prog 22 #[ptr p,v] W fun e w'=>e=.returned (.int .i64 (Zbz (Zcq s.next x) (s,d)).2)∧Zmf B J pd p ((Zbz (Zcq s.next x) (s,d)).1,E) (300*(i+1)) (600000*(i+1)) (.slice u m j) w'∧RdR w' v (Zcq s.next x)):=ZZ (fun v W g N=>by
    have aW:=g.rd (Zyz au.o.1 au.o.2 aH.o.2.2);have aD:∀ k,v.ownBlock=some k->((k<B∨(Value.slice u m j).ownBlock=some k)∨(wr.heap.size<=k∧k<W.heap.size)):=fun k hk=>.inr (World.ownsRow.lt g k hk)
    refine(ZlB v (Zcq s.next x) W (ad.o.fresh N) (fun k hk=>by
     rcases hk with hk | hk
     ·exact Nat.lt_of_lt_of_le (am.o k hk) N.size
     ·exact hk.2) A.o.ok aW (.inr aD) (by have:=T.o.1;omega) (by have:=T.o.2.1;omega) (by omega) (by omega)).mono ?_
    rintro e w' ⟨rfl,U,af⟩;refine⟨rfl,?_,aW.keepK (.inr aD) af⟩;have:=(C.o.below R N).did R (fun k hk=>.inl hk) U af
    exact this.mono (by omega) (by omega))
   have a8:Hid ((Zcq s.next x).length<=20):=ZZ (Znz _ _);generalize Zcq s.next x=RS at *;generalize s.next=nx at *;generalize Zbz RS (s,d)=AR at *;obtain⟨AX,cd⟩:=AR
   dsimp only at az f
   generalize x.many=xm at *;generalize x.n=xn at *;generalize x.op.code=xc at *;generalize x.op.a=xa at *;generalize x.op.b=xb at *;generalize x.keep.length=xk at *;generalize x.recs.length=xr at *;generalize x.b.length=xl at *;clear O H
   go_upto_region 12 with fail
   go_region_held(fun W=>W.cell? ⟨t,y+i*9,none⟩=some (.int .i64 0)∧W.cell? ⟨t,y+i*9+1,none⟩=some (.int .i64 xm)∧W.cell? ⟨t,y+i*9+2,none⟩=some (.int .i64 xn)∧W.cell? ⟨t,y+i*9+3,none⟩=some (.int .i64 xc)∧W.cell? ⟨t,y+i*9+4,none⟩=some (.int .i64 xa)∧W.cell? ⟨t,y+i*9+5,none⟩=some (.int .i64 xb)∧W.cell? ⟨t,y+i*9+6,none⟩=some (.slice ka xk kc)∧W.cell? ⟨t,y+i*9+7,none⟩=some (.slice ra xr rc)∧W.cell? ⟨t,y+i*9+8,none⟩=some (.slice ba xl bc))
    (first | (with_reducible exact ap.o _ aP.o) | (with_reducible exact ap.o _ ak.o) | (with_reducible exact ap.o _ ai.o))
    (first
     | (go_at_call 14;refine(aj.o _ aP.o).mono ?_;rintro e W1 ⟨rfl,ah⟩;have ak:=ZZ ah;clear ah)
     | (go_at_call 23;refine(ao.o _ ak.o).mono ?_;rintro e W2 ⟨v2,rfl,af,ae⟩;obtain⟨z1,z2,z3,hz⟩:∃ a n c,v2=Value.slice a n c:=(by obtain⟨a,c,P⟩:=af.shape;exact⟨a,_,c,P⟩);subst hz;have aI:=ZZ af;have ai:=ZZ ae;clear af ae))
   all_goals
    have HA:=ZZ (az.o _ W2 aI.o ai.o);have bm:Hid (Zbq wr 0 (.slice u m j) E):=ZZ (C.o.own.mono (Nat.zero_le _));clear aj ao ap az ak aI ai
    go_wp2_with fail
    refine HA.o.mono ?_;rintro e Z ⟨rfl,z,aQ⟩;have al:=ZZ z;have a4:=ZZ aQ;clear z aQ HA;by_cases hc:cd=0
    ·subst hc
     rw[if_pos rfl] at f;have a1:Hid (E.length+RS.length<=10000000):=ZZ (by have:=T.o.2.2.1;have:=a8.o;omega)
     have a5:Hid (Zbq Z 0 (.slice u m j) E):=ZZ (al.o.own.mono (Nat.zero_le _))
     go_wp2_with(at_builtin;refine(fun(h:True->_)=>h trivial) ?_)
     intro _;refine ZeD Z rfl _ _ rfl (.slice u m j) E rfl a5.o (.slice z1 z2 z3) RS rfl a4.o a1.o ?_;intro v4 W4 V h2 h3;have S:=al.o.more R V h2 h3;rw[<-f.o] at S;have G:=ZZ S;obtain⟨a9,c9,aO⟩:=V.shape;generalize (E++RS).length=n9 at aO;subst aO;clear V h2 h3 S;go_wp2;go_roundw
     case rel=>exact⟨i+1,a9,n9,c9,by go_num,by have:=D.o;omega,rfl,G⟩
     case measure=>have:=D.o;simp[intOf];omega
    ·rw[if_neg hc] at f
     have S:=al.o;rw[<-f.o] at S;have G:=ZZ S;have bi:(cd == 0)=false:=beq_eq_false_iff_ne.2 hc;clear hc S;go_wp2;go_roundw
     case rel=>exact⟨i+1,u,m,j,by go_num,by have:=D.o;omega,rfl,G⟩
     case measure=>have:=D.o;simp[intOf];omega
  by_cases Y:x.kind=1
  case pos=>
   have f:Hid (Q (i+1)=((ZcE (s,d)).1,E)):=ZZ (by
    rw[H.o];unfold Zer
    rw[if_neg O,if_pos Y])
   rw[Y] at ag
   have K:Hid (Calls prog 27 #[ptr p] wr fun e w'=>e=.returned (.int .i64 (ZcE (s,d)).2)∧Zmf B J pd p (Q (i+1)) (300*(i+1)) (600000*(i+1)) (.slice u m j) w'):=ZZ ((ZhU wr ad.o am.o (OkS.num A.o.ok)).mono (by
    rintro e w' ⟨rfl,U,g⟩;refine⟨rfl,?_⟩;rw[f.o];have hm:=T.o.1
    exact(C.o.did R (fun k hk=>hk) U g).mono (by omega) (by omega)))
   generalize (ZcE (s,d)).2=cd at *;clear Y f H
   go_wp2_with fail
   refine K.o.mono ?_;rintro e Z ⟨rfl,z⟩;have G:=ZZ z;clear z K;go_wp2;go_roundw
   case rel=>exact⟨i+1,u,m,j,by go_num,by have:=D.o;omega,rfl,G⟩
   case measure=>have:=D.o;simp[intOf];omega
  by_cases e2:x.kind=2
  case pos=>
   have f:Hid (Q (i+1)=((ZeK (s,d)).1,E)):=ZZ (by
    rw[H.o];unfold Zer
    rw[if_neg O,if_neg Y,if_pos e2])
   rw[e2] at ag
   have K:Hid (Calls prog 26 #[ptr p] wr fun e w'=>e=.returned (.int .i64 (ZeK (s,d)).2)∧Zmf B J pd p (Q (i+1)) (300*(i+1)) (600000*(i+1)) (.slice u m j) w'):=ZZ ((Zse wr ad.o am.o (OkS.num A.o.ok)).mono (by
    rintro e w' ⟨rfl,U,g⟩;refine⟨rfl,?_⟩;rw[f.o];have hm:=T.o.1
    exact(C.o.did R (fun k hk=>hk) U g).mono (by omega) (by omega)))
   generalize (ZeK (s,d)).2=cd at *;clear e2 f H
   go_wp2_with fail
   refine K.o.mono ?_;rintro e Z ⟨rfl,z⟩;have G:=ZZ z;clear z K;go_wp2;go_roundw
   case rel=>exact⟨i+1,u,m,j,by go_num,by have:=D.o;omega,rfl,G⟩
   case measure=>have:=D.o;simp[intOf];omega
  by_cases e3:x.kind=3
  case pos=>
   have f:Hid (Q (i+1)=((Zbn (s,d)).1,E)):=ZZ (by
    rw[H.o];unfold Zer
    rw[if_neg O,if_neg Y,if_neg e2,if_pos e3])
   rw[e3] at ag
   have K:Hid (Calls prog 24 #[ptr p] wr fun e w'=>e=.returned (.int .i64 (Zbn (s,d)).2)∧Zmf B J pd p (Q (i+1)) (300*(i+1)) (600000*(i+1)) (.slice u m j) w'):=ZZ ((Zmd wr ad.o am.o (OkS.num A.o.ok) (by have:=T.o.2.2.2;omega) (by omega) (by omega)).mono (by
    rintro e w' ⟨rfl,U,g⟩;refine⟨rfl,?_⟩;rw[f.o];have hm:=T.o.1
    exact(C.o.did R (fun k hk=>hk) U g).mono (by omega) (by omega)))
   generalize (Zbn (s,d)).2=cd at *;clear e3 f H
   go_wp2_with fail
   refine K.o.mono ?_;rintro e Z ⟨rfl,z⟩;have G:=ZZ z;clear z K;go_wp2;go_roundw
   case rel=>exact⟨i+1,u,m,j,by go_num,by have:=D.o;omega,rfl,G⟩
   case measure=>have:=D.o;simp[intOf];omega
  by_cases e4:x.kind=4
  case pos=>
   have f:Hid (Q (i+1)=((ZdA (s,d)).1,E)):=ZZ (by
    rw[H.o];unfold Zer
    rw[if_neg O,if_neg Y,if_neg e2,if_neg e3,if_pos e4])
   have bd:Hid (∀ q ∈ s.log.pcs.dropLast,q.name≠s.cur):=ZZ (fun q hq=>by
    have aN:s.log.pcs.Pairwise (fun p q=>p.name<q.name):=A.o.nam
    have a7:∀ p ∈ s.log.pcs,2<=p.name∧p.name % 2=0:=A.o.two;by_cases h0:s.cur=0
    ·have:=(a7 q ((List.dropLast_sublist _).subset hq)).1
     omega
    ·obtain⟨a,c,be,a0⟩:=A.o.curL h0
     have aG:s.log.pcs=a++[c]:=be;have bo:c.name=s.cur:=a0;rw[aG,List.dropLast_concat] at hq;rw[aG,List.pairwise_append] at aN;have:=aN.2.2 q hq c (by simp)
     omega)
   have bf:Hid (∀ q ∈ s.log.pcs,I64 q.name):=ZZ (fun q hq=>by
    exact aS.o q.name (List.mem_map.2 ⟨q,hq,rfl⟩))
   rw[e4] at ag
   have K:Hid (Calls prog 29 #[ptr p] wr fun e w'=>e=.returned (.int .i64 (ZdA (s,d)).2)∧Zmf B J pd p (Q (i+1)) (300*(i+1)) (600000*(i+1)) (.slice u m j) w'):=ZZ ((ZsC wr ad.o am.o A.o.ok A.o.bs0 (by have:=T.o.2.2.2;omega) (by have:=T.o.1;omega) (by have:=T.o.2.1;omega) A.o.bas bd.o bf.o (by omega) (by omega)).mono (by
    rintro e w' ⟨rfl,U,g⟩;refine⟨rfl,?_⟩;rw[f.o];have hm:=T.o.1
    exact(C.o.did R (fun k hk=>hk) U g).mono (by omega) (by omega)))
   generalize (ZdA (s,d)).2=cd at *;clear e4 f H
   go_wp2_with fail
   refine K.o.mono ?_;rintro e Z ⟨rfl,z⟩;have G:=ZZ z;clear z K;go_wp2;go_roundw
   case rel=>exact⟨i+1,u,m,j,by go_num,by have:=D.o;omega,rfl,G⟩
   case measure=>have:=D.o;simp[intOf];omega
  by_cases e5:x.kind=5
  case pos=>
   have f:Hid (Q (i+1)=((s,ZyD d x.n),E)):=ZZ (by
    rw[H.o];unfold Zer
    rw[if_neg O,if_neg Y,if_neg e2,if_neg e3,if_neg e4,if_pos e5])
   rw[e5] at ag;have c2:=(aA.o wr C.o.old).c2
   have K:Hid (Calls prog 30 #[ptr pd,.int .i64 x.n] wr fun e w'=>e=.returned (.tuple #[])∧Zmf B J pd p (Q (i+1)) (300*(i+1)) (600000*(i+1)) (.slice u m j) w'):=ZZ ((ad.o.cut x.n aH.o.2.1).mono (by
    rintro e w' ⟨rfl,U,g⟩;refine⟨rfl,?_⟩;rw[f.o]
    exact(C.o.did (r:=(s,ZyD d x.n)) R (fun k hk=>hk) U g).mono (by omega) (by omega)))
   generalize x.n=xn at *;clear e5 f H
   go_wp2_with fail
   refine K.o.mono ?_;rintro e Z ⟨rfl,z⟩;have G:=ZZ z;clear z K;go_wp2;go_roundw
   case rel=>exact⟨i+1,u,m,j,by go_num,by have:=D.o;omega,rfl,G⟩
   case measure=>have:=D.o;simp[intOf];omega
  have f:Hid (Q (i+1)=((s,d),E)):=ZZ (by
   rw[H.o];unfold Zer
   rw[if_neg O,if_neg Y,if_neg e2,if_neg e3,if_neg e4,if_neg e5])
  have S:=C.o.mono (show 300*i<=300*(i+1) by omega) (show 600000*i<=600000*(i+1) by omega)
  rw[<-f.o] at S;have G:=ZZ S;have b0:(x.kind == 0)=false:=beq_eq_false_iff_ne.2 O;have b1:(x.kind == 1)=false:=beq_eq_false_iff_ne.2 Y;have b2:(x.kind == 2)=false:=beq_eq_false_iff_ne.2 e2;have b3:(x.kind == 3)=false:=beq_eq_false_iff_ne.2 e3;have b4:(x.kind == 4)=false:=beq_eq_false_iff_ne.2 e4;have b5:(x.kind == 5)=false:=beq_eq_false_iff_ne.2 e5;generalize x.kind=kx at *;clear O Y e2 e3 e4 e5 S f H;go_wp2;go_roundw
  case rel=>exact⟨i+1,u,m,j,by go_num,by have:=D.o;omega,rfl,G⟩
  case measure=>have:=D.o;simp[intOf];omega
end Go.Proofs.YtnahjngbneicaaaGreatDoor
