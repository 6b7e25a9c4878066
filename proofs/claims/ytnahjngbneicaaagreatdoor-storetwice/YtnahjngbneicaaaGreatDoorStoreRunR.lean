import Derived.Test.YtnahjngbneicaaaGreatDoorStoreRunL
namespace Go.Proofs.YtnahjngbneicaaaGreatDoor
open _root_.Go.Proofs.Tryz
set_option maxRecDepth 100000
open Go.RowKit
def ZnJ (kind room:Int):Run:=((Zqu kind,ZiS room),[])
def Zyg (kind room:Int) (l:List SOp):Run:=l.foldl Zbg (ZnJ kind room)
theorem ZwP {kind room:Int} (b:0<=kind) (a:kind<6) (l:List SOp):X5 (Zyg kind room l).1 (Zyg kind room l).2 l.length:=by
 have:=X5.run l (x:=ZnJ kind room) (ZlA room kind b a);rw[Nat.zero_add] at this;exact this
theorem Zvk {x:Run} (h:∀ r ∈ x.2,Qw r) (o:SOp):∀ r ∈ (Zbg x o).2,Qw r:=by
 unfold Zbg;split
 ·show ∀ r ∈ (if(Yn (Zm x.1.1.next o) x.1).2=0 then x.2++Zm x.1.1.next o else x.2),Qw r
  split
  ·rename_i a
   intro r hr;rcases List.mem_append.1 hr with hr | hr
   ·exact h r hr
   ·unfold Yn at a
    split at a
    ·cases a
    ·rename_i b
     exact(Classical.not_not.1 b).2.2.1 r hr
  ·exact h
 split
 ·exact h
 split
 ·exact h
 split
 ·exact h
 split
 ·exact h
 split
 ·exact h
 ·exact h
theorem Zqy:∀ (l:List SOp) {x:Run},(∀ r ∈ x.2,Qw r)->∀ r ∈ (l.foldl Zbg x).2,Qw r
 | [],_,h=>h
 | o::l,_,h=>Zqy l (Zvk h o)
theorem Zvl (kind room:Int) (l:List SOp) (i:Nat):∀ r ∈ (runQ (ZnJ kind room) l i).2,Qw r:=Zqy (l.take i) (x:=ZnJ kind room) (fun r a=>by cases a)
set_option maxHeartbeats 8000000 in
theorem Zya {B pd:Nat} {room:Int} (kind:Int) (v:Value) (l:List SOp) (K w:World) (hB:B=K.heap.size) (hl:RdS K v l) (hb:Below B K w) (hd:Zxu B w pd (ZiS room) 0 0) (h0:0<=kind) (V:kind<6) (bn:l.length<=60):
 Calls prog 10 #[ptr pd,.int .i64 kind,v] w fun e w'=>∃ p va,e=.returned (.tuple #[ptr p,va])∧ZiP B K pd p (Zyg kind room l) (300*l.length) (600000*l.length) va w':=by
 have U:B<=K.heap.size:=by omega
 have be:=ZZ hB;have bd:=ZZ hl;obtain⟨la,lc,hv,-⟩:=id hl;have aq:B<=w.heap.size:=Nat.le_trans U hb.size
 have az:=ZZ (Zqw kind w hd aq (by decide) (by decide) (by decide) (by
  unfold Zfk
  rw[if_neg (by omega),if_neg (show ¬ (ZiS room).power=0 by show ¬ (-1:Int)=0;decide)]))
 rw[ZcV] at az;have aN:=ZZ hb;have bp:=Zzk;have aK:Hid (runQ (ZnJ kind room) l 0=ZnJ kind room):=ZZ rfl;have aR:Hid (∀ i o,l[i]?=some o->runQ (ZnJ kind room) l (i+1)=Zbg (runQ (ZnJ kind room) l i) o):=ZZ (fun i o h=>ZnI _ l i o h)
 have aI:Hid (runQ (ZnJ kind room) l l.length=Zyg kind room l):=ZZ (ZwN _ l);have aM:Hid (∀ i,i<=l.length->X5 (runQ (ZnJ kind room) l i).1 (runQ (ZnJ kind room) l i).2 i):=ZZ (fun i hi=>X5.runQ (x:=ZnJ kind room) (ZlA room kind h0 V) l i hi)
 have aG:Hid (∀ i,∀ r ∈ (runQ (ZnJ kind room) l i).2,Qw r):=ZZ (fun i=>Zvl kind room l i)
 have aF:Hid (ZnJ kind room=((Zqu kind,ZiS room),[])):=ZZ rfl;have aP:Hid (∀ i,i<=l.length->NmI (runQ (ZnJ kind room) l i).1.1):=ZZ (fun i hi=>Zqx (x:=ZnJ kind room) (fun q hq=>by cases hq) (ZlA room kind h0 V) l i hi)
 generalize Zyg kind room l=XE at *;generalize runQ (ZnJ kind room) l=Q at *
 have ad:Hid (ZgA (Zqu kind) 0 0=([],0)∧(Zqu kind).next=0∧OkS (Zqu kind)∧(Zqu kind).log.recs=[]):=ZZ (by
  have f:=ZeT (d:=ZiS room) (kind:=kind) h0 V;rw[ZcV] at f
  exact⟨rfl,rfl,f,rfl⟩)
 subst hv;have bj:(l.length:Int)<=60:=by omega
 clear hl hb hd hB
 go_enter func10,ntmps10
 go_wp2_with fail
 refine az.o.mono ?_;rintro e W1 ⟨p,rfl,aX,ak⟩;have aB:=ZZ aX;have aj:=ZZ (aN.o.trans (ak.mono aq));have aQ:B<=W1.heap.size:=Nat.le_trans aq ak.size;have af:=ZZ (aB.o.next ad.o.2.2.1.num);rw[ad.o.2.1] at af;clear aX ak az aq
 go_wp2_with fail
 refine af.o.mono ?_;rintro e W2 ⟨rfl,ab⟩;have aA:=ZZ (aB.o.below ab);have ai:=ZZ (aj.o.trans (ab.mono aQ));have aS:B<=W2.heap.size:=Nat.le_trans aQ ab.size
 have ao:Hid (Calls prog 17 #[ptr p,.int .i64 0,.int .i64 0] W2 fun e w'=>∃ v,e=.returned (.tuple #[v,.int .i64 0])∧Q9 w' W2.heap.size v []∧Below W2.heap.size W2 w'):=ZZ (by
  obtain⟨F,M,I,L,V,h2,-⟩:=aA.o;have:=ZmI 0 0 W2 h2 ad.o.2.2.1.num (by rw[ad.o.2.2.2];intro r hr;cases hr) (by rw[ad.o.2.2.2];exact Nat.zero_le _)
  rw[ad.o.1] at this
  exact this)
 clear ab af aB aj
 go_wp2_with fail
 refine ao.o.mono ?_;rintro e W3 ⟨v3,rfl,ar,aw⟩
 have am:Hid (ZiP B K pd p (Q 0) (300*0) (600000*0) v3 W3):=ZZ (by
  rw[aK.o,aF.o];refine⟨(aA.o.fresh aw).less fun k hk=>?_,ar.mono aS,ai.o.trans (aw.mono aS)⟩
  rcases hk with hk | hk
  ·exact .inl hk
  ·exact .inr (World.ownsRow.lt ar k hk))
 obtain⟨a3,n3,c3,aZ⟩:∃ a n c,v3=Value.slice a n c:=by
  obtain⟨a,c,P⟩:=ar.shape;exact⟨a,_,c,P⟩
 subst aZ;clear ar aw ao aA ai aK aF ad aN;go_wp2
 go_loopw[10,12] (fun va vi wr=>∃ (i:Nat) (a:Option Addr) (n c:Nat),vi=.int .i64 (i:Int)∧i<=l.length∧va=.slice a n c∧Hid (ZiP B K pd p (Q i) (300*i) (600000*i) (.slice a n c) wr)) (fun _ vi _=>l.length-(intOf vi).toNat)
 case atStart=>exact⟨0,_,_,_,rfl,Nat.zero_le _,rfl,am⟩
 case round=>
  clear am;obtain⟨i,j,t,u,rfl,bq,rfl,C⟩:=hrel;by_cases ay:i<l.length
  case neg=>
   obtain rfl:i=l.length:=by omega
   rw[aI.o] at C;go_wp2;go_ret2;exact⟨_,_,rfl,C.o⟩
  have bb:B<=wr.heap.size:=Nat.le_trans U C.o.old.size;obtain⟨x,m,y,ka,kc,ra,rc,ba,bc,hx,a6,f⟩:=bd.o.at ay;subst a6;have G:=ZZ (aR.o i x hx);have z:=ZZ (aM.o i (by omega))
  have bg:=ZZ (aG.o i);have aU:=ZZ (aP.o i (by omega))
  have aC:Hid (∀ W,Below B K W->Zpr W m (y+i*9) x (.slice ka x.keep.length kc) (.slice ra x.recs.length rc) (.slice ba x.b.length bc)):=ZZ (fun W h=>f.below h (Nat.le_of_eq be.o.symm))
  have ag:=(aC.o wr C.o.old).c0;have aE:=ZZ (And.intro f.i0 (And.intro f.i2 f.io));have E:=ZZ ay;have bl:i<=60:=by omega
  obtain⟨X,hX⟩:∃ X,X=Q i:=⟨_,rfl⟩;rw[<-hX] at C G z bg aU;obtain⟨⟨s,d⟩,D⟩:=X;clear hX hx f ay aI aR aM aG aP;have ap:Hid (∀ k,(k<B∨(Value.slice j t u).ownBlock=some k)->k<wr.heap.size):=ZZ (C.o.size U);have ae:Hid (SD (fun k=>k<B∨(Value.slice j t u).ownBlock=some k) wr pd p s d (300*i) (600000*i)):=ZZ C.o.sd
  have R:Hid (s.log.pcs.length<=60∧s.log.recs.length<=1200∧D.length<=1200∧s.bases.length<=61):=ZZ (by
   have V:s.log.pcs.length<=i:=z.o.pcn;have h2:s.log.recs=D.drop s.log.first.toNat:=z.o.recs;have h3:=z.o.rcn;have h4:s.bases.length<=i+1:=z.o.bsn
   dsimp only at h3
   refine⟨by omega,?_,by omega,by omega⟩
   rw[h2,List.length_drop]
   omega)
  by_cases O:x.kind=0
  case pos=>
   have g:Hid (Q (i+1)=((Yn (Zm s.next x) (s,d)).1,if(Yn (Zm s.next x) (s,d)).2=0 then D++Zm s.next x else D)):=ZZ (by
    rw[G.o];unfold Zbg
    rw[if_pos O])
   rw[O] at ag
   have af:Hid (∀ W,Below wr.heap.size wr W->Calls prog 14 #[ptr p] W fun e w'=>e=.returned (.int .i64 s.next)∧Below wr.heap.size wr w'):=ZZ (fun W N=>((ae.o.below N).next (OkS.num z.o.ok)).mono (by
    rintro e w' ⟨rfl,hb⟩
    exact⟨rfl,N.trans (hb.mono N.size)⟩))
   have av:Hid (0<=s.next∧s.next<=4611686018427387904):=ZZ (by
    have aD:OkS s:=z.o.ok;have V:=aD.log.f0;have h2:s.next=s.log.first+s.log.recs.length:=rfl
    exact⟨by omega,aD.log.top⟩)
   have ao:Hid (∀ W,Below wr.heap.size wr W->Calls prog 23 #[.int .i64 s.next,.agg #[.int .i64 0,.int .i64 x.many,.int .i64 x.n,.int .i64 x.op.code,.int .i64 x.op.a,.int .i64 x.op.b,.slice ka x.keep.length kc,.slice ra x.recs.length rc,.slice ba x.b.length bc]] W fun e w'=>∃ v,e=.returned v∧Q9 w' wr.heap.size v (Zm s.next x)∧Below wr.heap.size wr w'):=ZZ (fun W N=>by
    have h9:=Zny s.next x ka x.keep.length kc ra x.recs.length rc ba x.b.length bc W av.o.1 av.o.2;rw[O] at h9;refine h9.mono ?_;rintro e w' ⟨v,rfl,f,hb⟩
    exact⟨v,rfl,f.mono N.size,N.trans (hb.mono N.size)⟩)
   have au:Hid (∀ W,Below wr.heap.size wr W->W.cell? ⟨m,y+i*9,none⟩=some (.int .i64 0)∧W.cell? ⟨m,y+i*9+1,none⟩=some (.int .i64 x.many)∧W.cell? ⟨m,y+i*9+2,none⟩=some (.int .i64 x.n)∧W.cell? ⟨m,y+i*9+3,none⟩=some (.int .i64 x.op.code)∧W.cell? ⟨m,y+i*9+4,none⟩=some (.int .i64 x.op.a)∧W.cell? ⟨m,y+i*9+5,none⟩=some (.int .i64 x.op.b)∧W.cell? ⟨m,y+i*9+6,none⟩=some (.slice ka x.keep.length kc)∧W.cell? ⟨m,y+i*9+7,none⟩=some (.slice ra x.recs.length rc)∧W.cell? ⟨m,y+i*9+8,none⟩=some (.slice ba x.b.length bc)):=ZZ (fun W N=>by
    have P:=aC.o W (C.o.old.trans (N.mono bb));rw[<-O]
    exact⟨P.c0,P.c1,P.c2,P.c3,P.c4,P.c5,P.c6,P.c7,P.c8⟩)
   have aV:Hid (Below wr.heap.size wr wr.drew):=ZZ (Below.refl _ _).drew
   have ax:Hid (∀ (v:Value) W,Q9 W wr.heap.size v (Zm s.next x)->Below wr.heap.size wr W->Calls prog 22 #[ptr p,v] W fun e w'=>e=.returned (.int .i64 (Yn (Zm s.next x) (s,d)).2)∧ZiP B K pd p ((Yn (Zm s.next x) (s,d)).1,D) (300*(i+1)) (600000*(i+1)) (.slice j t u) w'∧RdR w' v (Zm s.next x)):=ZZ (fun v W f N=>by
    have aH:=f.rd (Zvj av.o.1 av.o.2 aE.o.2.2);have aW:∀ k,v.ownBlock=some k->((k<B∨(Value.slice j t u).ownBlock=some k)∨(wr.heap.size<=k∧k<W.heap.size)):=fun k hk=>.inr (World.ownsRow.lt f k hk)
    refine(Zil v (Zm s.next x) W (ae.o.fresh N) (fun k hk=>by
     rcases hk with hk | hk
     ·exact Nat.lt_of_lt_of_le (ap.o k hk) N.size
     ·exact hk.2) z.o.ok aH (.inr aW) (by have:=R.o.1;omega) (by have:=R.o.2.1;omega) (by omega) (by omega)).mono ?_
    rintro e w' ⟨rfl,S,al⟩;refine⟨rfl,?_,aH.keepK (.inr aW) al⟩;have:=(C.o.below U N).did U (fun k hk=>.inl hk) S al
    exact this.mono (by omega) (by omega))
   have a7:Hid ((Zm s.next x).length<=20):=ZZ (Zkj _ _);generalize Zm s.next x=RS at *;generalize s.next=nx at *;generalize Yn RS (s,d)=AR at *;obtain⟨AX,cd⟩:=AR
   dsimp only at ax g
   generalize x.many=xm at *;generalize x.n=xn at *;generalize x.op.code=xc at *;generalize x.op.a=xa at *;generalize x.op.b=xb at *;generalize x.keep.length=xk at *;generalize x.recs.length=xr at *;generalize x.b.length=xl at *;clear O G
   go_upto_region 12 with fail
   go_region_held(fun W=>W.cell? ⟨m,y+i*9,none⟩=some (.int .i64 0)∧W.cell? ⟨m,y+i*9+1,none⟩=some (.int .i64 xm)∧W.cell? ⟨m,y+i*9+2,none⟩=some (.int .i64 xn)∧W.cell? ⟨m,y+i*9+3,none⟩=some (.int .i64 xc)∧W.cell? ⟨m,y+i*9+4,none⟩=some (.int .i64 xa)∧W.cell? ⟨m,y+i*9+5,none⟩=some (.int .i64 xb)∧W.cell? ⟨m,y+i*9+6,none⟩=some (.slice ka xk kc)∧W.cell? ⟨m,y+i*9+7,none⟩=some (.slice ra xr rc)∧W.cell? ⟨m,y+i*9+8,none⟩=some (.slice ba xl bc))
    (first | (with_reducible exact au.o _ aV.o) | (with_reducible exact au.o _ aj.o) | (with_reducible exact au.o _ ai.o))
    (first
     | (go_at_call 14;refine(af.o _ aV.o).mono ?_;rintro e W1 ⟨rfl,ak⟩;have aj:=ZZ ak;clear ak)
     | (go_at_call 23;refine(ao.o _ aj.o).mono ?_;rintro e W2 ⟨v2,rfl,al,ab⟩;obtain⟨z1,z2,z3,hz⟩:∃ a n c,v2=Value.slice a n c:=(by obtain⟨a,c,P⟩:=al.shape;exact⟨a,_,c,P⟩);subst hz;have aO:=ZZ al;have ai:=ZZ ab;clear al ab))
   all_goals
    have HA:=ZZ (ax.o _ W2 aO.o ai.o);have bo:Hid (Q9 wr 0 (.slice j t u) D):=ZZ (C.o.own.mono (Nat.zero_le _));clear af ao au ax aj aO ai
    go_wp2_with fail
    refine HA.o.mono ?_;rintro e W3 ⟨rfl,A,aY⟩;have am:=ZZ A;have a4:=ZZ aY;clear A aY HA;by_cases hc:cd=0
    ·subst hc
     rw[if_pos rfl] at g;have a0:Hid (D.length+RS.length<=10000000):=ZZ (by have:=R.o.2.2.1;have:=a7.o;omega)
     have bf:Hid (Q9 W3 0 (.slice j t u) D):=ZZ (am.o.own.mono (Nat.zero_le _))
     go_wp2_with(at_builtin;refine(fun(h:True->_)=>h trivial) ?_)
     intro _;refine Zbs W3 rfl _ _ rfl (.slice j t u) D rfl bf.o (.slice z1 z2 z3) RS rfl a4.o a0.o ?_;intro v4 W4 V h2 h3;have T:=am.o.more U V h2 h3;rw[<-g.o] at T;have H:=ZZ T;obtain⟨a9,c9,aJ⟩:=V.shape;generalize (D++RS).length=n9 at aJ;subst aJ;clear V h2 h3 T;go_wp2;go_roundw
     case rel=>exact⟨i+1,a9,n9,c9,by go_num,by have:=E.o;omega,rfl,H⟩
     case measure=>have:=E.o;simp[intOf];omega
    ·rw[if_neg hc] at g
     have T:=am.o;rw[<-g.o] at T;have H:=ZZ T;have bk:(cd == 0)=false:=beq_eq_false_iff_ne.2 hc;clear hc T;go_wp2;go_roundw
     case rel=>exact⟨i+1,j,t,u,by go_num,by have:=E.o;omega,rfl,H⟩
     case measure=>have:=E.o;simp[intOf];omega
  by_cases Y:x.kind=1
  case pos=>
   have g:Hid (Q (i+1)=((Zf (s,d)).1,D)):=ZZ (by
    rw[G.o];unfold Zbg
    rw[if_neg O,if_pos Y])
   rw[Y] at ag
   have J:Hid (Calls prog 27 #[ptr p] wr fun e w'=>e=.returned (.int .i64 (Zf (s,d)).2)∧ZiP B K pd p (Q (i+1)) (300*(i+1)) (600000*(i+1)) (.slice j t u) w'):=ZZ ((ZeE wr ae.o ap.o (OkS.num z.o.ok)).mono (by
    rintro e w' ⟨rfl,S,f⟩;refine⟨rfl,?_⟩;rw[g.o];have hm:=R.o.1
    exact(C.o.did U (fun k hk=>hk) S f).mono (by omega) (by omega)))
   generalize (Zf (s,d)).2=cd at *;clear Y g G
   go_wp2_with fail
   refine J.o.mono ?_;rintro e W3 ⟨rfl,A⟩;have H:=ZZ A;clear A J;go_wp2;go_roundw
   case rel=>exact⟨i+1,j,t,u,by go_num,by have:=E.o;omega,rfl,H⟩
   case measure=>have:=E.o;simp[intOf];omega
  by_cases Z:x.kind=2
  case pos=>
   have g:Hid (Q (i+1)=((Zbx (s,d)).1,D)):=ZZ (by
    rw[G.o];unfold Zbg
    rw[if_neg O,if_neg Y,if_pos Z])
   rw[Z] at ag
   have J:Hid (Calls prog 26 #[ptr p] wr fun e w'=>e=.returned (.int .i64 (Zbx (s,d)).2)∧ZiP B K pd p (Q (i+1)) (300*(i+1)) (600000*(i+1)) (.slice j t u) w'):=ZZ ((ZoO wr ae.o ap.o (OkS.num z.o.ok)).mono (by
    rintro e w' ⟨rfl,S,f⟩;refine⟨rfl,?_⟩;rw[g.o];have hm:=R.o.1
    exact(C.o.did U (fun k hk=>hk) S f).mono (by omega) (by omega)))
   generalize (Zbx (s,d)).2=cd at *;clear Z g G
   go_wp2_with fail
   refine J.o.mono ?_;rintro e W3 ⟨rfl,A⟩;have H:=ZZ A;clear A J;go_wp2;go_roundw
   case rel=>exact⟨i+1,j,t,u,by go_num,by have:=E.o;omega,rfl,H⟩
   case measure=>have:=E.o;simp[intOf];omega
  by_cases e3:x.kind=3
  case pos=>
   have g:Hid (Q (i+1)=((Yp (s,d)).1,D)):=ZZ (by
    rw[G.o];unfold Zbg
    rw[if_neg O,if_neg Y,if_neg Z,if_pos e3])
   rw[e3] at ag
   have J:Hid (Calls prog 24 #[ptr p] wr fun e w'=>e=.returned (.int .i64 (Yp (s,d)).2)∧ZiP B K pd p (Q (i+1)) (300*(i+1)) (600000*(i+1)) (.slice j t u) w'):=ZZ ((ZiN wr ae.o ap.o (OkS.num z.o.ok) (by have:=R.o.2.2.2;omega) (by omega) (by omega)).mono (by
    rintro e w' ⟨rfl,S,f⟩;refine⟨rfl,?_⟩;rw[g.o];have hm:=R.o.1
    exact(C.o.did U (fun k hk=>hk) S f).mono (by omega) (by omega)))
   generalize (Yp (s,d)).2=cd at *;clear e3 g G
   go_wp2_with fail
   refine J.o.mono ?_;rintro e W3 ⟨rfl,A⟩;have H:=ZZ A;clear A J;go_wp2;go_roundw
   case rel=>exact⟨i+1,j,t,u,by go_num,by have:=E.o;omega,rfl,H⟩
   case measure=>have:=E.o;simp[intOf];omega
  by_cases e4:x.kind=4
  case pos=>
   have g:Hid (Q (i+1)=((Zaz (s,d)).1,D)):=ZZ (by
    rw[G.o];unfold Zbg
    rw[if_neg O,if_neg Y,if_neg Z,if_neg e3,if_pos e4])
   have a1:Hid (∀ q ∈ s.log.pcs.dropLast,q.name≠s.cur):=ZZ (fun q hq=>by
    have aL:s.log.pcs.Pairwise (fun p q=>p.name<q.name):=z.o.nam
    have a2:∀ p ∈ s.log.pcs,2<=p.name∧p.name % 2=0:=z.o.two;by_cases h0:s.cur=0
    ·have:=(a2 q ((List.dropLast_sublist _).subset hq)).1
     omega
    ·obtain⟨a,c,a8,a5⟩:=z.o.curL h0
     have aT:s.log.pcs=a++[c]:=a8;have bm:c.name=s.cur:=a5;rw[aT,List.dropLast_concat] at hq;rw[aT,List.pairwise_append] at aL;have:=aL.2.2 q hq c (by simp)
     omega)
   have bi:Hid (∀ q ∈ s.log.pcs,I64 q.name):=ZZ (fun q hq=>by
    exact aU.o q.name (List.mem_map.2 ⟨q,hq,rfl⟩))
   rw[e4] at ag
   have J:Hid (Calls prog 29 #[ptr p] wr fun e w'=>e=.returned (.int .i64 (Zaz (s,d)).2)∧ZiP B K pd p (Q (i+1)) (300*(i+1)) (600000*(i+1)) (.slice j t u) w'):=ZZ ((Zpm wr ae.o ap.o z.o.ok z.o.bs0 (by have:=R.o.2.2.2;omega) (by have:=R.o.1;omega) (by have:=R.o.2.1;omega) z.o.bas a1.o bi.o (by omega) (by omega)).mono (by
    rintro e w' ⟨rfl,S,f⟩;refine⟨rfl,?_⟩;rw[g.o];have hm:=R.o.1
    exact(C.o.did U (fun k hk=>hk) S f).mono (by omega) (by omega)))
   generalize (Zaz (s,d)).2=cd at *;clear e4 g G
   go_wp2_with fail
   refine J.o.mono ?_;rintro e W3 ⟨rfl,A⟩;have H:=ZZ A;clear A J;go_wp2;go_roundw
   case rel=>exact⟨i+1,j,t,u,by go_num,by have:=E.o;omega,rfl,H⟩
   case measure=>have:=E.o;simp[intOf];omega
  by_cases e5:x.kind=5
  case pos=>
   have g:Hid (Q (i+1)=((s,Zvn d x.n),D)):=ZZ (by
    rw[G.o];unfold Zbg
    rw[if_neg O,if_neg Y,if_neg Z,if_neg e3,if_neg e4,if_pos e5])
   rw[e5] at ag;have c2:=(aC.o wr C.o.old).c2
   have J:Hid (Calls prog 30 #[ptr pd,.int .i64 x.n] wr fun e w'=>e=.returned (.tuple #[])∧ZiP B K pd p (Q (i+1)) (300*(i+1)) (600000*(i+1)) (.slice j t u) w'):=ZZ ((ae.o.cut x.n aE.o.2.1).mono (by
    rintro e w' ⟨rfl,S,f⟩;refine⟨rfl,?_⟩;rw[g.o]
    exact(C.o.did (r:=(s,Zvn d x.n)) U (fun k hk=>hk) S f).mono (by omega) (by omega)))
   generalize x.n=xn at *;clear e5 g G
   go_wp2_with fail
   refine J.o.mono ?_;rintro e W3 ⟨rfl,A⟩;have H:=ZZ A;clear A J;go_wp2;go_roundw
   case rel=>exact⟨i+1,j,t,u,by go_num,by have:=E.o;omega,rfl,H⟩
   case measure=>have:=E.o;simp[intOf];omega
  have g:Hid (Q (i+1)=((s,d),D)):=ZZ (by
   rw[G.o];unfold Zbg
   rw[if_neg O,if_neg Y,if_neg Z,if_neg e3,if_neg e4,if_neg e5])
  have T:=C.o.mono (show 300*i<=300*(i+1) by omega) (show 600000*i<=600000*(i+1) by omega)
  rw[<-g.o] at T;have H:=ZZ T;have b0:(x.kind == 0)=false:=beq_eq_false_iff_ne.2 O;have b1:(x.kind == 1)=false:=beq_eq_false_iff_ne.2 Y;have b2:(x.kind == 2)=false:=beq_eq_false_iff_ne.2 Z;have b3:(x.kind == 3)=false:=beq_eq_false_iff_ne.2 e3;have b4:(x.kind == 4)=false:=beq_eq_false_iff_ne.2 e4;have b5:(x.kind == 5)=false:=beq_eq_false_iff_ne.2 e5;generalize x.kind=kx at *;clear O Y Z e3 e4 e5 T g G;go_wp2;go_roundw
  case rel=>exact⟨i+1,j,t,u,by go_num,by have:=E.o;omega,rfl,H⟩
  case measure=>have:=E.o;simp[intOf];omega
end Go.Proofs.YtnahjngbneicaaaGreatDoor
