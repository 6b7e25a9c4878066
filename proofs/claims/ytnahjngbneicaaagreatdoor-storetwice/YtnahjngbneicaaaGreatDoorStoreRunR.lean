import Derived.Test.YtnahjngbneicaaaGreatDoorStoreRunL
namespace Go.Proofs.YtnahjngbneicaaaGreatDoor
open _root_.Go.Proofs.Tryz
set_option maxRecDepth 100000
open Go.RowKit
def ZnJ (kind room:Int):Run:=((Zqu kind,ZiS room),[])
def Zyg (kind room:Int) (l:List SOp):Run:=l.foldl Zbg (ZnJ kind room)
theorem ZwP {kind room:Int} (b:0<=kind) (a:kind<6) (l:List SOp):X5 (Zyg kind room l).1 (Zyg kind room l).2 l.length:=by
 have:=X5.run l (x:=ZnJ kind room) (ZlA room kind b a);rw[Nat.zero_add] at this;exact this
theorem Zvk {x:Run} (h:∀ r ∈ x.2,Qw r) (o:SOp):∀ r ∈ (Zbg x o).2,Qw r:=by
 unfold Zbg;split
 ·show ∀ r ∈ (if(Yn (Zm x.1.1.next o) x.1).2=0 then x.2++Zm x.1.1.next o else x.2),Qw r
  split
  ·rename_i a
   intro r hr;rcases List.mem_append.1 hr with hr | hr
   ·exact h r hr
   ·unfold Yn at a
    split at a
    ·cases a
    ·rename_i b
     exact(Classical.not_not.1 b).2.2.1 r hr
  ·exact h
 split
 ·exact h
 split
 ·exact h
 split
 ·exact h
 split
 ·exact h
 split
 ·exact h
 ·exact h
theorem Zqy:∀ (l:List SOp) {x:Run},(∀ r ∈ x.2,Qw r)->∀ r ∈ (l.foldl Zbg x).2,Qw r
 | [],_,h=>h
 | o::l,_,h=>Zqy l (Zvk h o)
theorem Zvl (kind room:Int) (l:List SOp) (i:Nat):∀ r ∈ (runQ (ZnJ kind room) l i).2,Qw r:=Zqy (l.take i) (x:=ZnJ kind room) (fun r a=>by cases a)
set_option maxHeartbeats 8000000 in
theorem Zya {B pd:Nat} {room:Int} (kind:Int) (v:Value) (l:List SOp) (K w:World) (hB:B=K.heap.size) (hl:RdS K v l) (hb:Below B K w) (hd:Zxu B w pd (ZiS room) 0 0) (h0:0<=kind) (Y:kind<6) (bl:l.length<=60):
 Calls prog 10 #[ptr pd,.int .i64 kind,v] w fun e w'=>∃ p va,e=.returned (.tuple #[ptr p,va])∧ZiP B K pd p (Zyg kind room l) (300*l.length) (600000*l.length) va w':=by
 have R:B<=K.heap.size:=by omega
 have bb:=ZZ hB;have a4:=ZZ hl;obtain⟨la,lc,hv,-⟩:=id hl;have ar:B<=w.heap.size:=Nat.le_trans R hb.size
 have az:=ZZ (Zqw kind w hd ar (by decide) (by decide) (by decide) (by
  unfold Zfk
  rw[if_neg (by omega),if_neg (show ¬ (ZiS room).power=0 by show ¬ (-1:Int)=0;decide)]))
 rw[ZcV] at az;have aK:=ZZ hb;have bp:=Zzk;have aH:Hid (runQ (ZnJ kind room) l 0=ZnJ kind room):=ZZ rfl;have aP:Hid (∀ i o,l[i]?=some o->runQ (ZnJ kind room) l (i+1)=Zbg (runQ (ZnJ kind room) l i) o):=ZZ (fun i o h=>ZnI _ l i o h)
 have aY:Hid (runQ (ZnJ kind room) l l.length=Zyg kind room l):=ZZ (ZwN _ l);have aR:Hid (∀ i,i<=l.length->X5 (runQ (ZnJ kind room) l i).1 (runQ (ZnJ kind room) l i).2 i):=ZZ (fun i hi=>X5.runQ (x:=ZnJ kind room) (ZlA room kind h0 Y) l i hi)
 have aO:Hid (∀ i,∀ r ∈ (runQ (ZnJ kind room) l i).2,Qw r):=ZZ (fun i=>Zvl kind room l i)
 have aI:Hid (ZnJ kind room=((Zqu kind,ZiS room),[])):=ZZ rfl;have aT:Hid (∀ i,i<=l.length->NmI (runQ (ZnJ kind room) l i).1.1):=ZZ (fun i hi=>Zqx (x:=ZnJ kind room) (fun q hq=>by cases hq) (ZlA room kind h0 Y) l i hi)
 generalize Zyg kind room l=XE at *;generalize runQ (ZnJ kind room) l=Q at *
 have ae:Hid (ZgA (Zqu kind) 0 0=([],0)∧(Zqu kind).next=0∧OkS (Zqu kind)∧(Zqu kind).log.recs=[]):=ZZ (by
  have f:=ZeT (d:=ZiS room) (kind:=kind) h0 Y;rw[ZcV] at f
  exact⟨rfl,rfl,f,rfl⟩)
 subst hv;have bj:(l.length:Int)<=60:=by omega
 clear hl hb hd hB
 go_enter func10,ntmps10
 go_wp2_with fail
 refine az.o.mono ?_;rintro e W1 ⟨p,rfl,aQ,am⟩;have aB:=ZZ aQ;have ai:=ZZ (aK.o.trans (am.mono ar));have aW:B<=W1.heap.size:=Nat.le_trans ar am.size;have al:=ZZ (aB.o.next ae.o.2.2.1.num);rw[ae.o.2.1] at al;clear aQ am az ar
 go_wp2_with fail
 refine al.o.mono ?_;rintro e W2 ⟨rfl,ad⟩;have ay:=ZZ (aB.o.below ad);have ag:=ZZ (ai.o.trans (ad.mono aW));have aN:B<=W2.heap.size:=Nat.le_trans aW ad.size
 have ao:Hid (Calls prog 17 #[ptr p,.int .i64 0,.int .i64 0] W2 fun e w'=>∃ v,e=.returned (.tuple #[v,.int .i64 0])∧Q9 w' W2.heap.size v []∧Below W2.heap.size W2 w'):=ZZ (by
  obtain⟨F,M,I,L,Y,h2,-⟩:=ay.o;have:=ZmI 0 0 W2 h2 ae.o.2.2.1.num (by rw[ae.o.2.2.2];intro r hr;cases hr) (by rw[ae.o.2.2.2];exact Nat.zero_le _)
  rw[ae.o.1] at this
  exact this)
 clear ad al aB ai
 go_wp2_with fail
 refine ao.o.mono ?_;rintro e W3 ⟨v3,rfl,aq,aA⟩
 have af:Hid (ZiP B K pd p (Q 0) (300*0) (600000*0) v3 W3):=ZZ (by
  rw[aH.o,aI.o];refine⟨(ay.o.fresh aA).less fun k hk=>?_,aq.mono aN,ag.o.trans (aA.mono aN)⟩
  rcases hk with hk | hk
  ·exact .inl hk
  ·exact .inr (World.ownsRow.lt aq k hk))
 obtain⟨a3,n3,c3,a2⟩:∃ a n c,v3=Value.slice a n c:=by
  obtain⟨a,c,P⟩:=aq.shape;exact⟨a,_,c,P⟩
 subst a2;clear aq aA ao ay ag aH aI ae aK;go_wp2
 go_loopw[10,12] (fun va vi wr=>∃ (i:Nat) (a:Option Addr) (n c:Nat),vi=.int .i64 (i:Int)∧i<=l.length∧va=.slice a n c∧Hid (ZiP B K pd p (Q i) (300*i) (600000*i) (.slice a n c) wr)) (fun _ vi _=>l.length-(intOf vi).toNat)
 case atStart=>exact⟨0,_,_,_,rfl,Nat.zero_le _,rfl,af⟩
 case round=>
  clear af;obtain⟨i,t,m,y,rfl,bm,rfl,A⟩:=hrel;by_cases aw:i<l.length
  case neg=>
   obtain rfl:i=l.length:=by omega
   rw[aY.o] at A;go_wp2;go_ret2;exact⟨_,_,rfl,A.o⟩
  have a7:B<=wr.heap.size:=Nat.le_trans R A.o.old.size;obtain⟨x,u,j,ka,kc,ra,rc,ba,bc,hx,bi,f⟩:=a4.o.at aw;subst bi;have H:=ZZ (aP.o i x hx);have z:=ZZ (aR.o i (by omega))
  have a6:=ZZ (aO.o i);have aF:=ZZ (aT.o i (by omega))
  have ax:Hid (∀ W,Below B K W->Zpr W u (j+i*9) x (.slice ka x.keep.length kc) (.slice ra x.recs.length rc) (.slice ba x.b.length bc)):=ZZ (fun W h=>f.below h (Nat.le_of_eq bb.o.symm))
  have ak:=(ax.o wr A.o.old).c0;have aD:=ZZ (And.intro f.i0 (And.intro f.i2 f.io));have E:=ZZ aw;have bo:i<=60:=by omega
  obtain⟨X,hX⟩:∃ X,X=Q i:=⟨_,rfl⟩;rw[<-hX] at A H z a6 aF;obtain⟨⟨s,d⟩,D⟩:=X;clear hX hx f aw aY aP aR aO aT;have ap:Hid (∀ k,(k<B∨(Value.slice t m y).ownBlock=some k)->k<wr.heap.size):=ZZ (A.o.size R);have ab:Hid (SD (fun k=>k<B∨(Value.slice t m y).ownBlock=some k) wr pd p s d (300*i) (600000*i)):=ZZ A.o.sd
  have S:Hid (s.log.pcs.length<=60∧s.log.recs.length<=1200∧D.length<=1200∧s.bases.length<=61):=ZZ (by
   have Y:s.log.pcs.length<=i:=z.o.pcn;have h2:s.log.recs=D.drop s.log.first.toNat:=z.o.recs;have h3:=z.o.rcn;have h4:s.bases.length<=i+1:=z.o.bsn
   dsimp only at h3
   refine⟨by omega,?_,by omega,by omega⟩
   rw[h2,List.length_drop]
   omega)
  by_cases O:x.kind=0
  case pos=>
   have g:Hid (Q (i+1)=((Yn (Zm s.next x) (s,d)).1,if(Yn (Zm s.next x) (s,d)).2=0 then D++Zm s.next x else D)):=ZZ (by
    rw[H.o];unfold Zbg
    rw[if_pos O])
   rw[O] at ak
   have al:Hid (∀ W,Below wr.heap.size wr W->Calls prog 14 #[ptr p] W fun e w'=>e=.returned (.int .i64 s.next)∧Below wr.heap.size wr w'):=ZZ (fun W N=>((ab.o.below N).next (OkS.num z.o.ok)).mono (by
    rintro e w' ⟨rfl,hb⟩
    exact⟨rfl,N.trans (hb.mono N.size)⟩))
   have au:Hid (0<=s.next∧s.next<=4611686018427387904):=ZZ (by
    have aL:OkS s:=z.o.ok;have Y:=aL.log.f0;have h2:s.next=s.log.first+s.log.recs.length:=rfl
    exact⟨by omega,aL.log.top⟩)
   have ao:Hid (∀ W,Below wr.heap.size wr W->Calls prog 23 #[.int .i64 s.next,.agg #[.int .i64 0,.int .i64 x.many,.int .i64 x.n,.int .i64 x.op.code,.int .i64 x.op.a,.int .i64 x.op.b,.slice ka x.keep.length kc,.slice ra x.recs.length rc,.slice ba x.b.length bc]] W fun e w'=>∃ v,e=.returned v∧Q9 w' wr.heap.size v (Zm s.next x)∧Below wr.heap.size wr w'):=ZZ (fun W N=>by
    have h9:=Zny s.next x ka x.keep.length kc ra x.recs.length rc ba x.b.length bc W au.o.1 au.o.2;rw[O] at h9;refine h9.mono ?_;rintro e w' ⟨v,rfl,f,hb⟩
    exact⟨v,rfl,f.mono N.size,N.trans (hb.mono N.size)⟩)
   have av:Hid (∀ W,Below wr.heap.size wr W->W.cell? ⟨u,j+i*9,none⟩=some (.int .i64 0)∧W.cell? ⟨u,j+i*9+1,none⟩=some (.int .i64 x.many)∧W.cell? ⟨u,j+i*9+2,none⟩=some (.int .i64 x.n)∧W.cell? ⟨u,j+i*9+3,none⟩=some (.int .i64 x.op.code)∧W.cell? ⟨u,j+i*9+4,none⟩=some (.int .i64 x.op.a)∧W.cell? ⟨u,j+i*9+5,none⟩=some (.int .i64 x.op.b)∧W.cell? ⟨u,j+i*9+6,none⟩=some (.slice ka x.keep.length kc)∧W.cell? ⟨u,j+i*9+7,none⟩=some (.slice ra x.recs.length rc)∧W.cell? ⟨u,j+i*9+8,none⟩=some (.slice ba x.b.length bc)):=ZZ (fun W N=>by
    have P:=ax.o W (A.o.old.trans (N.mono a7));rw[<-O]
    exact⟨P.c0,P.c1,P.c2,P.c3,P.c4,P.c5,P.c6,P.c7,P.c8⟩)
   have aJ:Hid (Below wr.heap.size wr wr.drew):=ZZ (Below.refl _ _).drew
   have aC:Hid (∀ (v:Value) W,Q9 W wr.heap.size v (Zm s.next x)->Below wr.heap.size wr W->Calls prog 22 #[ptr p,v] W fun e w'=>e=.returned (.int .i64 (Yn (Zm s.next x) (s,d)).2)∧ZiP B K pd p ((Yn (Zm s.next x) (s,d)).1,D) (300*(i+1)) (600000*(i+1)) (.slice t m y) w'∧RdR w' v (Zm s.next x)):=ZZ (fun v W f N=>by
    have aV:=f.rd (Zvj au.o.1 au.o.2 aD.o.2.2);have aU:∀ k,v.ownBlock=some k->((k<B∨(Value.slice t m y).ownBlock=some k)∨(wr.heap.size<=k∧k<W.heap.size)):=fun k hk=>.inr (World.ownsRow.lt f k hk)
    refine(Zil v (Zm s.next x) W (ab.o.fresh N) (fun k hk=>by
     rcases hk with hk | hk
     ·exact Nat.lt_of_lt_of_le (ap.o k hk) N.size
     ·exact hk.2) z.o.ok aV (.inr aU) (by have:=S.o.1;omega) (by have:=S.o.2.1;omega) (by omega) (by omega)).mono ?_
    rintro e w' ⟨rfl,U,aj⟩;refine⟨rfl,?_,aV.keepK (.inr aU) aj⟩;have:=(A.o.below R N).did R (fun k hk=>.inl hk) U aj
    exact this.mono (by omega) (by omega))
   have bf:Hid ((Zm s.next x).length<=20):=ZZ (Zkj _ _);generalize Zm s.next x=RS at *;generalize s.next=nx at *;generalize Yn RS (s,d)=AR at *;obtain⟨AX,cd⟩:=AR
   dsimp only at aC g
   generalize x.many=xm at *;generalize x.n=xn at *;generalize x.op.code=xc at *;generalize x.op.a=xa at *;generalize x.op.b=xb at *;generalize x.keep.length=xk at *;generalize x.recs.length=xr at *;generalize x.b.length=xl at *;clear O H
   go_upto_region 12 with fail
   go_region_held(fun W=>W.cell? ⟨u,j+i*9,none⟩=some (.int .i64 0)∧W.cell? ⟨u,j+i*9+1,none⟩=some (.int .i64 xm)∧W.cell? ⟨u,j+i*9+2,none⟩=some (.int .i64 xn)∧W.cell? ⟨u,j+i*9+3,none⟩=some (.int .i64 xc)∧W.cell? ⟨u,j+i*9+4,none⟩=some (.int .i64 xa)∧W.cell? ⟨u,j+i*9+5,none⟩=some (.int .i64 xb)∧W.cell? ⟨u,j+i*9+6,none⟩=some (.slice ka xk kc)∧W.cell? ⟨u,j+i*9+7,none⟩=some (.slice ra xr rc)∧W.cell? ⟨u,j+i*9+8,none⟩=some (.slice ba xl bc))
    (first | (with_reducible exact av.o _ aJ.o) | (with_reducible exact av.o _ ai.o) | (with_reducible exact av.o _ ag.o))
    (first
     | (go_at_call 14;refine(al.o _ aJ.o).mono ?_;rintro e W1 ⟨rfl,am⟩;have ai:=ZZ am;clear am)
     | (go_at_call 23;refine(ao.o _ ai.o).mono ?_;rintro e W2 ⟨v2,rfl,aj,ad⟩;obtain⟨z1,z2,z3,hz⟩:∃ a n c,v2=Value.slice a n c:=(by obtain⟨a,c,P⟩:=aj.shape;exact⟨a,_,c,P⟩);subst hz;have aG:=ZZ aj;have ag:=ZZ ad;clear aj ad))
   all_goals
    have HA:=ZZ (aC.o _ W2 aG.o ag.o);have bq:Hid (Q9 wr 0 (.slice t m y) D):=ZZ (A.o.own.mono (Nat.zero_le _));clear al ao av aC ai aG ag
    go_wp2_with fail
    refine HA.o.mono ?_;rintro e W3 ⟨rfl,C,aS⟩;have af:=ZZ C;have a1:=ZZ aS;clear C aS HA;by_cases hc:cd=0
    ·subst hc
     rw[if_pos rfl] at g;have bg:Hid (D.length+RS.length<=10000000):=ZZ (by have:=S.o.2.2.1;have:=bf.o;omega)
     have be:Hid (Q9 W3 0 (.slice t m y) D):=ZZ (af.o.own.mono (Nat.zero_le _))
     go_wp2_with(at_builtin;refine(fun(h:True->_)=>h trivial) ?_)
     intro _;refine Zbs W3 rfl _ _ rfl (.slice t m y) D rfl be.o (.slice z1 z2 z3) RS rfl a1.o bg.o ?_;intro v4 W4 Y h2 h3;have T:=af.o.more R Y h2 h3;rw[<-g.o] at T;have G:=ZZ T;obtain⟨a9,c9,aM⟩:=Y.shape;generalize (D++RS).length=n9 at aM;subst aM;clear Y h2 h3 T;go_wp2;go_roundw
     case rel=>exact⟨i+1,a9,n9,c9,by go_num,by have:=E.o;omega,rfl,G⟩
     case measure=>have:=E.o;simp[intOf];omega
    ·rw[if_neg hc] at g
     have T:=af.o;rw[<-g.o] at T;have G:=ZZ T;have bk:(cd == 0)=false:=beq_eq_false_iff_ne.2 hc;clear hc T;go_wp2;go_roundw
     case rel=>exact⟨i+1,t,m,y,by go_num,by have:=E.o;omega,rfl,G⟩
     case measure=>have:=E.o;simp[intOf];omega
  by_cases V:x.kind=1
  case pos=>
   have g:Hid (Q (i+1)=((Zf (s,d)).1,D)):=ZZ (by
    rw[H.o];unfold Zbg
    rw[if_neg O,if_pos V])
   rw[V] at ak
   have J:Hid (Calls prog 27 #[ptr p] wr fun e w'=>e=.returned (.int .i64 (Zf (s,d)).2)∧ZiP B K pd p (Q (i+1)) (300*(i+1)) (600000*(i+1)) (.slice t m y) w'):=ZZ ((ZeE wr ab.o ap.o (OkS.num z.o.ok)).mono (by
    rintro e w' ⟨rfl,U,f⟩;refine⟨rfl,?_⟩;rw[g.o];have hm:=S.o.1
    exact(A.o.did R (fun k hk=>hk) U f).mono (by omega) (by omega)))
   generalize (Zf (s,d)).2=cd at *;clear V g H
   go_wp2_with fail
   refine J.o.mono ?_;rintro e W3 ⟨rfl,C⟩;have G:=ZZ C;clear C J;go_wp2;go_roundw
   case rel=>exact⟨i+1,t,m,y,by go_num,by have:=E.o;omega,rfl,G⟩
   case measure=>have:=E.o;simp[intOf];omega
  by_cases Z:x.kind=2
  case pos=>
   have g:Hid (Q (i+1)=((Zbx (s,d)).1,D)):=ZZ (by
    rw[H.o];unfold Zbg
    rw[if_neg O,if_neg V,if_pos Z])
   rw[Z] at ak
   have J:Hid (Calls prog 26 #[ptr p] wr fun e w'=>e=.returned (.int .i64 (Zbx (s,d)).2)∧ZiP B K pd p (Q (i+1)) (300*(i+1)) (600000*(i+1)) (.slice t m y) w'):=ZZ ((ZoO wr ab.o ap.o (OkS.num z.o.ok)).mono (by
    rintro e w' ⟨rfl,U,f⟩;refine⟨rfl,?_⟩;rw[g.o];have hm:=S.o.1
    exact(A.o.did R (fun k hk=>hk) U f).mono (by omega) (by omega)))
   generalize (Zbx (s,d)).2=cd at *;clear Z g H
   go_wp2_with fail
   refine J.o.mono ?_;rintro e W3 ⟨rfl,C⟩;have G:=ZZ C;clear C J;go_wp2;go_roundw
   case rel=>exact⟨i+1,t,m,y,by go_num,by have:=E.o;omega,rfl,G⟩
   case measure=>have:=E.o;simp[intOf];omega
  by_cases e3:x.kind=3
  case pos=>
   have g:Hid (Q (i+1)=((Yp (s,d)).1,D)):=ZZ (by
    rw[H.o];unfold Zbg
    rw[if_neg O,if_neg V,if_neg Z,if_pos e3])
   rw[e3] at ak
   have J:Hid (Calls prog 24 #[ptr p] wr fun e w'=>e=.returned (.int .i64 (Yp (s,d)).2)∧ZiP B K pd p (Q (i+1)) (300*(i+1)) (600000*(i+1)) (.slice t m y) w'):=ZZ ((ZiN wr ab.o ap.o (OkS.num z.o.ok) (by have:=S.o.2.2.2;omega) (by omega) (by omega)).mono (by
    rintro e w' ⟨rfl,U,f⟩;refine⟨rfl,?_⟩;rw[g.o];have hm:=S.o.1
    exact(A.o.did R (fun k hk=>hk) U f).mono (by omega) (by omega)))
   generalize (Yp (s,d)).2=cd at *;clear e3 g H
   go_wp2_with fail
   refine J.o.mono ?_;rintro e W3 ⟨rfl,C⟩;have G:=ZZ C;clear C J;go_wp2;go_roundw
   case rel=>exact⟨i+1,t,m,y,by go_num,by have:=E.o;omega,rfl,G⟩
   case measure=>have:=E.o;simp[intOf];omega
  by_cases e4:x.kind=4
  case pos=>
   have g:Hid (Q (i+1)=((Zaz (s,d)).1,D)):=ZZ (by
    rw[H.o];unfold Zbg
    rw[if_neg O,if_neg V,if_neg Z,if_neg e3,if_pos e4])
   have a8:Hid (∀ q ∈ s.log.pcs.dropLast,q.name≠s.cur):=ZZ (fun q hq=>by
    have aE:s.log.pcs.Pairwise (fun p q=>p.name<q.name):=z.o.nam
    have a0:∀ p ∈ s.log.pcs,2<=p.name∧p.name % 2=0:=z.o.two;by_cases h0:s.cur=0
    ·have:=(a0 q ((List.dropLast_sublist _).subset hq)).1
     omega
    ·obtain⟨a,c,a5,bd⟩:=z.o.curL h0
     have aX:s.log.pcs=a++[c]:=a5;have bn:c.name=s.cur:=bd;rw[aX,List.dropLast_concat] at hq;rw[aX,List.pairwise_append] at aE;have:=aE.2.2 q hq c (by simp)
     omega)
   have aZ:Hid (∀ q ∈ s.log.pcs,I64 q.name):=ZZ (fun q hq=>by
    exact aF.o q.name (List.mem_map.2 ⟨q,hq,rfl⟩))
   rw[e4] at ak
   have J:Hid (Calls prog 29 #[ptr p] wr fun e w'=>e=.returned (.int .i64 (Zaz (s,d)).2)∧ZiP B K pd p (Q (i+1)) (300*(i+1)) (600000*(i+1)) (.slice t m y) w'):=ZZ ((Zpm wr ab.o ap.o z.o.ok z.o.bs0 (by have:=S.o.2.2.2;omega) (by have:=S.o.1;omega) (by have:=S.o.2.1;omega) z.o.bas a8.o aZ.o (by omega) (by omega)).mono (by
    rintro e w' ⟨rfl,U,f⟩;refine⟨rfl,?_⟩;rw[g.o];have hm:=S.o.1
    exact(A.o.did R (fun k hk=>hk) U f).mono (by omega) (by omega)))
   generalize (Zaz (s,d)).2=cd at *;clear e4 g H
   go_wp2_with fail
   refine J.o.mono ?_;rintro e W3 ⟨rfl,C⟩;have G:=ZZ C;clear C J;go_wp2;go_roundw
   case rel=>exact⟨i+1,t,m,y,by go_num,by have:=E.o;omega,rfl,G⟩
   case measure=>have:=E.o;simp[intOf];omega
  by_cases e5:x.kind=5
  case pos=>
   have g:Hid (Q (i+1)=((s,Zvn d x.n),D)):=ZZ (by
    rw[H.o];unfold Zbg
    rw[if_neg O,if_neg V,if_neg Z,if_neg e3,if_neg e4,if_pos e5])
   rw[e5] at ak;have c2:=(ax.o wr A.o.old).c2
   have J:Hid (Calls prog 30 #[ptr pd,.int .i64 x.n] wr fun e w'=>e=.returned (.tuple #[])∧ZiP B K pd p (Q (i+1)) (300*(i+1)) (600000*(i+1)) (.slice t m y) w'):=ZZ ((ab.o.cut x.n aD.o.2.1).mono (by
    rintro e w' ⟨rfl,U,f⟩;refine⟨rfl,?_⟩;rw[g.o]
    exact(A.o.did (r:=(s,Zvn d x.n)) R (fun k hk=>hk) U f).mono (by omega) (by omega)))
   generalize x.n=xn at *;clear e5 g H
   go_wp2_with fail
   refine J.o.mono ?_;rintro e W3 ⟨rfl,C⟩;have G:=ZZ C;clear C J;go_wp2;go_roundw
   case rel=>exact⟨i+1,t,m,y,by go_num,by have:=E.o;omega,rfl,G⟩
   case measure=>have:=E.o;simp[intOf];omega
  have g:Hid (Q (i+1)=((s,d),D)):=ZZ (by
   rw[H.o];unfold Zbg
   rw[if_neg O,if_neg V,if_neg Z,if_neg e3,if_neg e4,if_neg e5])
  have T:=A.o.mono (show 300*i<=300*(i+1) by omega) (show 600000*i<=600000*(i+1) by omega)
  rw[<-g.o] at T;have G:=ZZ T;have b0:(x.kind == 0)=false:=beq_eq_false_iff_ne.2 O;have b1:(x.kind == 1)=false:=beq_eq_false_iff_ne.2 V;have b2:(x.kind == 2)=false:=beq_eq_false_iff_ne.2 Z;have b3:(x.kind == 3)=false:=beq_eq_false_iff_ne.2 e3;have b4:(x.kind == 4)=false:=beq_eq_false_iff_ne.2 e4;have b5:(x.kind == 5)=false:=beq_eq_false_iff_ne.2 e5;generalize x.kind=kx at *;clear O V Z e3 e4 e5 T g H;go_wp2;go_roundw
  case rel=>exact⟨i+1,t,m,y,by go_num,by have:=E.o;omega,rfl,G⟩
  case measure=>have:=E.o;simp[intOf];omega
end Go.Proofs.YtnahjngbneicaaaGreatDoor
