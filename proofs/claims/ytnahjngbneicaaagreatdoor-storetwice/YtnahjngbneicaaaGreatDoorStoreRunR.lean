import Derived.Test.YtnahjngbneicaaaGreatDoorStoreRunL
namespace Go.Proofs.YtnahjngbneicaaaGreatDoor
open _root_.Go.Proofs.Tryz
set_option maxRecDepth 100000
open Go.RowKit
def ZqZ (kind room:Int):Run:=((ZtK kind,Zmi room),[])
def ZBw (kind room:Int) (l:List SOp):Run:=l.foldl Zer (ZqZ kind room)
theorem ZAf {kind room:Int} (a:0<=kind) (b:kind<6) (l:List SOp):ZcB (ZBw kind room l).1 (ZBw kind room l).2 l.length:=by
 have:=ZcB.run l (x:=ZqZ kind room) (ZoQ room kind a b);rw[Nat.zero_add] at this;exact this
theorem ZyA {x:Run} (h:∀ r ∈ x.2,ZaA r) (o:SOp):∀ r ∈ (Zer x o).2,ZaA r:=by
 unfold Zer;split
 ·show ∀ r ∈ (if(Zbz (Zcq x.1.1.next o) x.1).2=0 then x.2++Zcq x.1.1.next o else x.2),ZaA r
  split
  ·rename_i a
   intro r hr;rcases List.mem_append.1 hr with hr | hr
   ·exact h r hr
   ·unfold Zbz at a
    split at a
    ·cases a
    ·rename_i b
     exact(Classical.not_not.1 b).2.2.1 r hr
  ·exact h
 split
 ·exact h
 split
 ·exact h
 split
 ·exact h
 split
 ·exact h
 split
 ·exact h
 ·exact h
theorem ZtO:∀ (l:List SOp) {x:Run},(∀ r ∈ x.2,ZaA r)->∀ r ∈ (l.foldl Zer x).2,ZaA r
 | [],_,h=>h
 | o::l,_,h=>ZtO l (ZyA h o)
theorem ZyB (kind room:Int) (l:List SOp) (i:Nat):∀ r ∈ (runQ (ZqZ kind room) l i).2,ZaA r:=ZtO (l.take i) (x:=ZqZ kind room) (fun r a=>by cases a)
set_option maxHeartbeats 8000000 in
theorem ZBq {B pd:Nat} {room:Int} (kind:Int) (v:Value) (l:List SOp) (K w:World) (hB:B=K.heap.size) (hl:RdS K v l) (hb:Below B K w) (hd:ZAK B w pd (Zmi room) 0 0) (h0:0<=kind) (Z:kind<6) (bk:l.length<=60):
 Calls prog 10 #[ptr pd,.int .i64 kind,v] w fun e w'=>∃ p va,e=.returned (.tuple #[ptr p,va])∧Zmf B K pd p (ZBw kind room l) (300*l.length) (600000*l.length) va w':=by
 have V:B<=K.heap.size:=by omega
 have a8:=ZZ hB;have bb:=ZZ hl;obtain⟨la,lc,hv,-⟩:=id hl;have aq:B<=w.heap.size:=Nat.le_trans V hb.size
 have aA:=ZZ (ZtM kind w hd aq (by decide) (by decide) (by decide) (by
  unfold ZiA
  rw[if_neg (by omega),if_neg (show ¬ (Zmi room).power=0 by show ¬ (-1:Int)=0;decide)]))
 rw[Zgl] at aA;have aQ:=ZZ hb;have bl:=ZCA;have aP:Hid (runQ (ZqZ kind room) l 0=ZqZ kind room):=ZZ rfl;have aJ:Hid (∀ i o,l[i]?=some o->runQ (ZqZ kind room) l (i+1)=Zer (runQ (ZqZ kind room) l i) o):=ZZ (fun i o h=>ZqY _ l i o h)
 have aN:Hid (runQ (ZqZ kind room) l l.length=ZBw kind room l):=ZZ (ZAd _ l);have aI:Hid (∀ i,i<=l.length->ZcB (runQ (ZqZ kind room) l i).1 (runQ (ZqZ kind room) l i).2 i):=ZZ (fun i hi=>ZcB.runQ (x:=ZqZ kind room) (ZoQ room kind h0 Z) l i hi)
 have aR:Hid (∀ i,∀ r ∈ (runQ (ZqZ kind room) l i).2,ZaA r):=ZZ (fun i=>ZyB kind room l i)
 have aM:Hid (ZqZ kind room=((ZtK kind,Zmi room),[])):=ZZ rfl;have aS:Hid (∀ i,i<=l.length->NmI (runQ (ZqZ kind room) l i).1.1):=ZZ (fun i hi=>ZtN (x:=ZqZ kind room) (fun q hq=>by cases hq) (ZoQ room kind h0 Z) l i hi)
 generalize ZBw kind room l=XE at *;generalize runQ (ZqZ kind room) l=Q at *
 have ab:Hid (ZjQ (ZtK kind) 0 0=([],0)∧(ZtK kind).next=0∧OkS (ZtK kind)∧(ZtK kind).log.recs=[]):=ZZ (by
  have g:=Zij (d:=Zmi room) (kind:=kind) h0 Z;rw[Zgl] at g
  exact⟨rfl,rfl,g,rfl⟩)
 subst hv;have bn:(l.length:Int)<=60:=by omega
 clear hl hb hd hB
 go_enter func10,ntmps10
 go_wp2_with fail
 refine aA.o.mono ?_;rintro e W1 ⟨p,rfl,aH,af⟩;have av:=ZZ aH;have al:=ZZ (aQ.o.trans (af.mono aq));have aU:B<=W1.heap.size:=Nat.le_trans aq af.size;have ah:=ZZ (av.o.next ab.o.2.2.1.num);rw[ab.o.2.1] at ah;clear aH af aA aq
 go_wp2_with fail
 refine ah.o.mono ?_;rintro e W2 ⟨rfl,ad⟩;have ax:=ZZ (av.o.below ad);have ai:=ZZ (al.o.trans (ad.mono aU));have aT:B<=W2.heap.size:=Nat.le_trans aU ad.size
 have am:Hid (Calls prog 17 #[ptr p,.int .i64 0,.int .i64 0] W2 fun e w'=>∃ v,e=.returned (.tuple #[v,.int .i64 0])∧Zbq w' W2.heap.size v []∧Below W2.heap.size W2 w'):=ZZ (by
  obtain⟨F,M,I,L,Z,h2,-⟩:=ax.o;have:=ZpY 0 0 W2 h2 ab.o.2.2.1.num (by rw[ab.o.2.2.2];intro r hr;cases hr) (by rw[ab.o.2.2.2];exact Nat.zero_le _)
  rw[ab.o.1] at this
  exact this)
 clear ad ah av al
 go_wp2_with fail
 refine am.o.mono ?_;rintro e W3 ⟨v3,rfl,au,az⟩
 have ak:Hid (Zmf B K pd p (Q 0) (300*0) (600000*0) v3 W3):=ZZ (by
  rw[aP.o,aM.o];refine⟨(ax.o.fresh az).less fun k hk=>?_,au.mono aT,ai.o.trans (az.mono aT)⟩
  rcases hk with hk | hk
  ·exact .inl hk
  ·exact .inr (World.ownsRow.lt au k hk))
 obtain⟨a3,n3,c3,aY⟩:∃ a n c,v3=Value.slice a n c:=by
  obtain⟨a,c,P⟩:=au.shape;exact⟨a,_,c,P⟩
 subst aY;clear au az am ax ai aP aM ab aQ;go_wp2
 go_loopw[10,12] (fun va vi f=>∃ (i:Nat) (a:Option Addr) (n c:Nat),vi=.int .i64 (i:Int)∧i<=l.length∧va=.slice a n c∧Hid (Zmf B K pd p (Q i) (300*i) (600000*i) (.slice a n c) f)) (fun _ vi _=>l.length-(intOf vi).toNat)
 case atStart=>exact⟨0,_,_,_,rfl,Nat.zero_le _,rfl,ak⟩
 case round=>
  clear ak;obtain⟨i,y,t,u,rfl,bh,rfl,C⟩:=hrel;by_cases aB:i<l.length
  case neg=>
   obtain rfl:i=l.length:=by omega
   rw[aN.o] at C;go_wp2;go_ret2;exact⟨_,_,rfl,C.o⟩
  have be:B<=f.heap.size:=Nat.le_trans V C.o.old.size;obtain⟨x,z,m,ka,kc,ra,rc,ba,bc,hx,bd,g⟩:=bb.o.at aB;subst bd;have J:=ZZ (aJ.o i x hx);have A:=ZZ (aI.o i (by omega))
  have a7:=ZZ (aR.o i);have aK:=ZZ (aS.o i (by omega))
  have ay:Hid (∀ W,Below B K W->ZsH W z (m+i*9) x (.slice ka x.keep.length kc) (.slice ra x.recs.length rc) (.slice ba x.b.length bc)):=ZZ (fun W h=>g.below h (Nat.le_of_eq a8.o.symm))
  have aj:=(ay.o f C.o.old).c0;have aV:=ZZ (And.intro g.i0 (And.intro g.i2 g.io));have E:=ZZ aB;have bo:i<=60:=by omega
  obtain⟨X,hX⟩:∃ X,X=Q i:=⟨_,rfl⟩;rw[<-hX] at C J A a7 aK;obtain⟨⟨s,d⟩,G⟩:=X;clear hX hx g aB aN aJ aI aR aS;have ao:Hid (∀ k,(k<B∨(Value.slice y t u).ownBlock=some k)->k<f.heap.size):=ZZ (C.o.size V);have ae:Hid (SD (fun k=>k<B∨(Value.slice y t u).ownBlock=some k) f pd p s d (300*i) (600000*i)):=ZZ C.o.sd
  have U:Hid (s.log.pcs.length<=60∧s.log.recs.length<=1200∧G.length<=1200∧s.bases.length<=61):=ZZ (by
   have Z:s.log.pcs.length<=i:=A.o.pcn;have h2:s.log.recs=G.drop s.log.first.toNat:=A.o.recs;have h3:=A.o.rcn;have h4:s.bases.length<=i+1:=A.o.bsn
   dsimp only at h3
   refine⟨by omega,?_,by omega,by omega⟩
   rw[h2,List.length_drop]
   omega)
  by_cases R:x.kind=0
  case pos=>
   have j:Hid (Q (i+1)=((Zbz (Zcq s.next x) (s,d)).1,if(Zbz (Zcq s.next x) (s,d)).2=0 then G++Zcq s.next x else G)):=ZZ (by
    rw[J.o];unfold Zer
    rw[if_pos R])
   rw[R] at aj
   have ah:Hid (∀ W,Below f.heap.size f W->Calls prog 14 #[ptr p] W fun e w'=>e=.returned (.int .i64 s.next)∧Below f.heap.size f w'):=ZZ (fun W O=>((ae.o.below O).next (OkS.num A.o.ok)).mono (by
    rintro e w' ⟨rfl,hb⟩
    exact⟨rfl,O.trans (hb.mono O.size)⟩))
   have ap:Hid (0<=s.next∧s.next<=4611686018427387904):=ZZ (by
    have aW:OkS s:=A.o.ok;have Z:=aW.log.f0;have h2:s.next=s.log.first+s.log.recs.length:=rfl
    exact⟨by omega,aW.log.top⟩)
   have am:Hid (∀ W,Below f.heap.size f W->Calls prog 23 #[.int .i64 s.next,.agg #[.int .i64 0,.int .i64 x.many,.int .i64 x.n,.int .i64 x.op.code,.int .i64 x.op.a,.int .i64 x.op.b,.slice ka x.keep.length kc,.slice ra x.recs.length rc,.slice ba x.b.length bc]] W fun e w'=>∃ v,e=.returned v∧Zbq w' f.heap.size v (Zcq s.next x)∧Below f.heap.size f w'):=ZZ (fun W O=>by
    have h9:=ZqO s.next x ka x.keep.length kc ra x.recs.length rc ba x.b.length bc W ap.o.1 ap.o.2;rw[R] at h9;refine h9.mono ?_;rintro e w' ⟨v,rfl,g,hb⟩
    exact⟨v,rfl,g.mono O.size,O.trans (hb.mono O.size)⟩)
   have ar:Hid (∀ W,Below f.heap.size f W->W.cell? ⟨z,m+i*9,none⟩=some (.int .i64 0)∧W.cell? ⟨z,m+i*9+1,none⟩=some (.int .i64 x.many)∧W.cell? ⟨z,m+i*9+2,none⟩=some (.int .i64 x.n)∧W.cell? ⟨z,m+i*9+3,none⟩=some (.int .i64 x.op.code)∧W.cell? ⟨z,m+i*9+4,none⟩=some (.int .i64 x.op.a)∧W.cell? ⟨z,m+i*9+5,none⟩=some (.int .i64 x.op.b)∧W.cell? ⟨z,m+i*9+6,none⟩=some (.slice ka x.keep.length kc)∧W.cell? ⟨z,m+i*9+7,none⟩=some (.slice ra x.recs.length rc)∧W.cell? ⟨z,m+i*9+8,none⟩=some (.slice ba x.b.length bc)):=ZZ (fun W O=>by
    have P:=ay.o W (C.o.old.trans (O.mono be));rw[<-R]
    exact⟨P.c0,P.c1,P.c2,P.c3,P.c4,P.c5,P.c6,P.c7,P.c8⟩)
   have aL:Hid (Below f.heap.size f f.drew):=ZZ (Below.refl _ _).drew
   have aw:Hid (∀ (v:Value) W,Zbq W f.heap.size v (Zcq s.next x)->Below f.heap.size f W->Calls prog 22 #[ptr p,v] W fun e w'=>e=.returned (.int .i64 (Zbz (Zcq s.next x) (s,d)).2)∧Zmf B K pd p ((Zbz (Zcq s.next x) (s,d)).1,G) (300*(i+1)) (600000*(i+1)) (.slice y t u) w'∧RdR w' v (Zcq s.next x)):=ZZ (fun v W g O=>by
    have aX:=g.rd (Zyz ap.o.1 ap.o.2 aV.o.2.2);have aO:∀ k,v.ownBlock=some k->((k<B∨(Value.slice y t u).ownBlock=some k)∨(f.heap.size<=k∧k<W.heap.size)):=fun k hk=>.inr (World.ownsRow.lt g k hk)
    refine(ZlB v (Zcq s.next x) W (ae.o.fresh O) (fun k hk=>by
     rcases hk with hk | hk
     ·exact Nat.lt_of_lt_of_le (ao.o k hk) O.size
     ·exact hk.2) A.o.ok aX (.inr aO) (by have:=U.o.1;omega) (by have:=U.o.2.1;omega) (by omega) (by omega)).mono ?_
    rintro e w' ⟨rfl,T,ag⟩;refine⟨rfl,?_,aX.keepK (.inr aO) ag⟩;have:=(C.o.below V O).did V (fun k hk=>.inl hk) T ag
    exact this.mono (by omega) (by omega))
   have a0:Hid ((Zcq s.next x).length<=20):=ZZ (Znz _ _);generalize Zcq s.next x=RS at *;generalize s.next=nx at *;generalize Zbz RS (s,d)=AR at *;obtain⟨AX,cd⟩:=AR
   dsimp only at aw j
   generalize x.many=xm at *;generalize x.n=xn at *;generalize x.op.code=xc at *;generalize x.op.a=xa at *;generalize x.op.b=xb at *;generalize x.keep.length=xk at *;generalize x.recs.length=xr at *;generalize x.b.length=xl at *;clear R J
   go_upto_region 12 with fail
   go_region_held(fun W=>W.cell? ⟨z,m+i*9,none⟩=some (.int .i64 0)∧W.cell? ⟨z,m+i*9+1,none⟩=some (.int .i64 xm)∧W.cell? ⟨z,m+i*9+2,none⟩=some (.int .i64 xn)∧W.cell? ⟨z,m+i*9+3,none⟩=some (.int .i64 xc)∧W.cell? ⟨z,m+i*9+4,none⟩=some (.int .i64 xa)∧W.cell? ⟨z,m+i*9+5,none⟩=some (.int .i64 xb)∧W.cell? ⟨z,m+i*9+6,none⟩=some (.slice ka xk kc)∧W.cell? ⟨z,m+i*9+7,none⟩=some (.slice ra xr rc)∧W.cell? ⟨z,m+i*9+8,none⟩=some (.slice ba xl bc))
    (first | (with_reducible exact ar.o _ aL.o) | (with_reducible exact ar.o _ al.o) | (with_reducible exact ar.o _ ai.o))
    (first
     | (go_at_call 14;refine(ah.o _ aL.o).mono ?_;rintro e W1 ⟨rfl,af⟩;have al:=ZZ af;clear af)
     | (go_at_call 23;refine(am.o _ al.o).mono ?_;rintro e W2 ⟨v2,rfl,ag,ad⟩;obtain⟨z1,z2,z3,hz⟩:∃ a n c,v2=Value.slice a n c:=(by obtain⟨a,c,P⟩:=ag.shape;exact⟨a,_,c,P⟩);subst hz;have aC:=ZZ ag;have ai:=ZZ ad;clear ag ad))
   all_goals
    have HA:=ZZ (aw.o _ W2 aC.o ai.o);have bj:Hid (Zbq f 0 (.slice y t u) G):=ZZ (C.o.own.mono (Nat.zero_le _));clear ah am ar aw al aC ai
    go_wp2_with fail
    refine HA.o.mono ?_;rintro e W3 ⟨rfl,D,aE⟩;have ak:=ZZ D;have a2:=ZZ aE;clear D aE HA;by_cases hc:cd=0
    ·subst hc
     rw[if_pos rfl] at j;have aZ:Hid (G.length+RS.length<=10000000):=ZZ (by have:=U.o.2.2.1;have:=a0.o;omega)
     have a6:Hid (Zbq W3 0 (.slice y t u) G):=ZZ (ak.o.own.mono (Nat.zero_le _))
     go_wp2_with(at_builtin;refine(fun(h:True->_)=>h trivial) ?_)
     intro _;refine ZeD W3 rfl _ _ rfl (.slice y t u) G rfl a6.o (.slice z1 z2 z3) RS rfl a2.o aZ.o ?_;intro v4 W4 Z h2 h3;have S:=ak.o.more V Z h2 h3;rw[<-j.o] at S;have H:=ZZ S;obtain⟨a9,c9,aD⟩:=Z.shape;generalize (G++RS).length=n9 at aD;subst aD;clear Z h2 h3 S;go_wp2;go_roundw
     case rel=>exact⟨i+1,a9,n9,c9,by go_num,by have:=E.o;omega,rfl,H⟩
     case measure=>have:=E.o;simp[intOf];omega
    ·rw[if_neg hc] at j
     have S:=ak.o;rw[<-j.o] at S;have H:=ZZ S;have bm:(cd == 0)=false:=beq_eq_false_iff_ne.2 hc;clear hc S;go_wp2;go_roundw
     case rel=>exact⟨i+1,y,t,u,by go_num,by have:=E.o;omega,rfl,H⟩
     case measure=>have:=E.o;simp[intOf];omega
  by_cases Y:x.kind=1
  case pos=>
   have j:Hid (Q (i+1)=((ZcE (s,d)).1,G)):=ZZ (by
    rw[J.o];unfold Zer
    rw[if_neg R,if_pos Y])
   rw[Y] at aj
   have N:Hid (Calls prog 27 #[ptr p] f fun e w'=>e=.returned (.int .i64 (ZcE (s,d)).2)∧Zmf B K pd p (Q (i+1)) (300*(i+1)) (600000*(i+1)) (.slice y t u) w'):=ZZ ((ZhU f ae.o ao.o (OkS.num A.o.ok)).mono (by
    rintro e w' ⟨rfl,T,g⟩;refine⟨rfl,?_⟩;rw[j.o];have hm:=U.o.1
    exact(C.o.did V (fun k hk=>hk) T g).mono (by omega) (by omega)))
   generalize (ZcE (s,d)).2=cd at *;clear Y j J
   go_wp2_with fail
   refine N.o.mono ?_;rintro e W3 ⟨rfl,D⟩;have H:=ZZ D;clear D N;go_wp2;go_roundw
   case rel=>exact⟨i+1,y,t,u,by go_num,by have:=E.o;omega,rfl,H⟩
   case measure=>have:=E.o;simp[intOf];omega
  by_cases e2:x.kind=2
  case pos=>
   have j:Hid (Q (i+1)=((ZeK (s,d)).1,G)):=ZZ (by
    rw[J.o];unfold Zer
    rw[if_neg R,if_neg Y,if_pos e2])
   rw[e2] at aj
   have N:Hid (Calls prog 26 #[ptr p] f fun e w'=>e=.returned (.int .i64 (ZeK (s,d)).2)∧Zmf B K pd p (Q (i+1)) (300*(i+1)) (600000*(i+1)) (.slice y t u) w'):=ZZ ((Zse f ae.o ao.o (OkS.num A.o.ok)).mono (by
    rintro e w' ⟨rfl,T,g⟩;refine⟨rfl,?_⟩;rw[j.o];have hm:=U.o.1
    exact(C.o.did V (fun k hk=>hk) T g).mono (by omega) (by omega)))
   generalize (ZeK (s,d)).2=cd at *;clear e2 j J
   go_wp2_with fail
   refine N.o.mono ?_;rintro e W3 ⟨rfl,D⟩;have H:=ZZ D;clear D N;go_wp2;go_roundw
   case rel=>exact⟨i+1,y,t,u,by go_num,by have:=E.o;omega,rfl,H⟩
   case measure=>have:=E.o;simp[intOf];omega
  by_cases e3:x.kind=3
  case pos=>
   have j:Hid (Q (i+1)=((Zbn (s,d)).1,G)):=ZZ (by
    rw[J.o];unfold Zer
    rw[if_neg R,if_neg Y,if_neg e2,if_pos e3])
   rw[e3] at aj
   have N:Hid (Calls prog 24 #[ptr p] f fun e w'=>e=.returned (.int .i64 (Zbn (s,d)).2)∧Zmf B K pd p (Q (i+1)) (300*(i+1)) (600000*(i+1)) (.slice y t u) w'):=ZZ ((Zmd f ae.o ao.o (OkS.num A.o.ok) (by have:=U.o.2.2.2;omega) (by omega) (by omega)).mono (by
    rintro e w' ⟨rfl,T,g⟩;refine⟨rfl,?_⟩;rw[j.o];have hm:=U.o.1
    exact(C.o.did V (fun k hk=>hk) T g).mono (by omega) (by omega)))
   generalize (Zbn (s,d)).2=cd at *;clear e3 j J
   go_wp2_with fail
   refine N.o.mono ?_;rintro e W3 ⟨rfl,D⟩;have H:=ZZ D;clear D N;go_wp2;go_roundw
   case rel=>exact⟨i+1,y,t,u,by go_num,by have:=E.o;omega,rfl,H⟩
   case measure=>have:=E.o;simp[intOf];omega
  by_cases e4:x.kind=4
  case pos=>
   have j:Hid (Q (i+1)=((ZdA (s,d)).1,G)):=ZZ (by
    rw[J.o];unfold Zer
    rw[if_neg R,if_neg Y,if_neg e2,if_neg e3,if_pos e4])
   have a1:Hid (∀ q ∈ s.log.pcs.dropLast,q.name≠s.cur):=ZZ (fun q hq=>by
    have aG:s.log.pcs.Pairwise (fun p q=>p.name<q.name):=A.o.nam
    have bf:∀ p ∈ s.log.pcs,2<=p.name∧p.name % 2=0:=A.o.two;by_cases h0:s.cur=0
    ·have:=(bf q ((List.dropLast_sublist _).subset hq)).1
     omega
    ·obtain⟨a,c,a4,bg⟩:=A.o.curL h0
     have aF:s.log.pcs=a++[c]:=a4;have bi:c.name=s.cur:=bg;rw[aF,List.dropLast_concat] at hq;rw[aF,List.pairwise_append] at aG;have:=aG.2.2 q hq c (by simp)
     omega)
   have a5:Hid (∀ q ∈ s.log.pcs,I64 q.name):=ZZ (fun q hq=>by
    exact aK.o q.name (List.mem_map.2 ⟨q,hq,rfl⟩))
   rw[e4] at aj
   have N:Hid (Calls prog 29 #[ptr p] f fun e w'=>e=.returned (.int .i64 (ZdA (s,d)).2)∧Zmf B K pd p (Q (i+1)) (300*(i+1)) (600000*(i+1)) (.slice y t u) w'):=ZZ ((ZsC f ae.o ao.o A.o.ok A.o.bs0 (by have:=U.o.2.2.2;omega) (by have:=U.o.1;omega) (by have:=U.o.2.1;omega) A.o.bas a1.o a5.o (by omega) (by omega)).mono (by
    rintro e w' ⟨rfl,T,g⟩;refine⟨rfl,?_⟩;rw[j.o];have hm:=U.o.1
    exact(C.o.did V (fun k hk=>hk) T g).mono (by omega) (by omega)))
   generalize (ZdA (s,d)).2=cd at *;clear e4 j J
   go_wp2_with fail
   refine N.o.mono ?_;rintro e W3 ⟨rfl,D⟩;have H:=ZZ D;clear D N;go_wp2;go_roundw
   case rel=>exact⟨i+1,y,t,u,by go_num,by have:=E.o;omega,rfl,H⟩
   case measure=>have:=E.o;simp[intOf];omega
  by_cases e5:x.kind=5
  case pos=>
   have j:Hid (Q (i+1)=((s,ZyD d x.n),G)):=ZZ (by
    rw[J.o];unfold Zer
    rw[if_neg R,if_neg Y,if_neg e2,if_neg e3,if_neg e4,if_pos e5])
   rw[e5] at aj;have c2:=(ay.o f C.o.old).c2
   have N:Hid (Calls prog 30 #[ptr pd,.int .i64 x.n] f fun e w'=>e=.returned (.tuple #[])∧Zmf B K pd p (Q (i+1)) (300*(i+1)) (600000*(i+1)) (.slice y t u) w'):=ZZ ((ae.o.cut x.n aV.o.2.1).mono (by
    rintro e w' ⟨rfl,T,g⟩;refine⟨rfl,?_⟩;rw[j.o]
    exact(C.o.did (r:=(s,ZyD d x.n)) V (fun k hk=>hk) T g).mono (by omega) (by omega)))
   generalize x.n=xn at *;clear e5 j J
   go_wp2_with fail
   refine N.o.mono ?_;rintro e W3 ⟨rfl,D⟩;have H:=ZZ D;clear D N;go_wp2;go_roundw
   case rel=>exact⟨i+1,y,t,u,by go_num,by have:=E.o;omega,rfl,H⟩
   case measure=>have:=E.o;simp[intOf];omega
  have j:Hid (Q (i+1)=((s,d),G)):=ZZ (by
   rw[J.o];unfold Zer
   rw[if_neg R,if_neg Y,if_neg e2,if_neg e3,if_neg e4,if_neg e5])
  have S:=C.o.mono (show 300*i<=300*(i+1) by omega) (show 600000*i<=600000*(i+1) by omega)
  rw[<-j.o] at S;have H:=ZZ S;have b0:(x.kind == 0)=false:=beq_eq_false_iff_ne.2 R;have b1:(x.kind == 1)=false:=beq_eq_false_iff_ne.2 Y;have b2:(x.kind == 2)=false:=beq_eq_false_iff_ne.2 e2;have b3:(x.kind == 3)=false:=beq_eq_false_iff_ne.2 e3;have b4:(x.kind == 4)=false:=beq_eq_false_iff_ne.2 e4;have b5:(x.kind == 5)=false:=beq_eq_false_iff_ne.2 e5;generalize x.kind=kx at *;clear R Y e2 e3 e4 e5 S j J;go_wp2;go_roundw
  case rel=>exact⟨i+1,y,t,u,by go_num,by have:=E.o;omega,rfl,H⟩
  case measure=>have:=E.o;simp[intOf];omega
end Go.Proofs.YtnahjngbneicaaaGreatDoor
