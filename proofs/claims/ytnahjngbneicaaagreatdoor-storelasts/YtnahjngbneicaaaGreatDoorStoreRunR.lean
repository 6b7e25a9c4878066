import Derived.Test.YtnahjngbneicaaaGreatDoorStoreRunL
namespace Go.Proofs.YtnahjngbneicaaaGreatDoor
open _root_.Go.Proofs.Tryz
set_option maxRecDepth 100000
open Go.RowKit
def Zmq (kind room:Int):Run:=((Zor kind,ZgP room),[])
def Zyo (kind room:Int) (l:List SOp):Run:=l.foldl Jc (Zmq kind room)
theorem ZxV {kind room:Int} (b:0<=kind) (a:kind<6) (l:List SOp):X4 (Zyo kind room l).1 (Zyo kind room l).2 l.length:=by
 have:=X4.run l (x:=Zmq kind room) (Zhb room kind b a);rw[Nat.zero_add] at this;exact this
theorem Zwl {x:Run} (h:∀ r ∈ x.2,Qz r) (o:SOp):∀ r ∈ (Jc x o).2,Qz r:=by
 unfold Jc;split
 ·show ∀ r ∈ (if(X5 (Zi x.1.1.next o) x.1).2=0 then x.2++Zi x.1.1.next o else x.2),Qz r
  split
  ·rename_i a
   intro r hr;rcases List.mem_append.1 hr with hr | hr
   ·exact h r hr
   ·unfold X5 at a
    split at a
    ·cases a
    ·rename_i b
     exact(Classical.not_not.1 b).2.2.1 r hr
  ·exact h
 split
 ·exact h
 split
 ·exact h
 split
 ·exact h
 split
 ·exact h
 split
 ·exact h
 ·exact h
theorem Zrn:∀ (l:List SOp) {x:Run},(∀ r ∈ x.2,Qz r)->∀ r ∈ (l.foldl Jc x).2,Qz r
 | [],_,h=>h
 | o::l,_,h=>Zrn l (Zwl h o)
theorem Zwm (kind room:Int) (l:List SOp) (i:Nat):∀ r ∈ (runQ (Zmq kind room) l i).2,Qz r:=Zrn (l.take i) (x:=Zmq kind room) (fun r a=>by cases a)
set_option maxHeartbeats 8000000 in
theorem Zzo {B pd:Nat} {room:Int} (kind:Int) (v:Value) (l:List SOp) (H w:World) (hB:B=H.heap.size) (hl:RdS H v l) (hb:Below B H w) (hd:ZyK B w pd (ZgP room) 0 0) (h0:0<=kind) (V:kind<6) (bm:l.length<=60):
 Calls prog 10 #[ptr pd,.int .i64 kind,v] w fun e w'=>∃ p va,e=.returned (.tuple #[ptr p,va])∧Zjp B H pd p (Zyo kind room l) (300*l.length) (600000*l.length) va w':=by
 have P:B<=H.heap.size:=by omega
 have bg:=ZZ hB;have bi:=ZZ hl;obtain⟨la,lc,hv,-⟩:=id hl;have ar:B<=w.heap.size:=Nat.le_trans P hb.size
 have az:=ZZ (Zrl kind w hd ar (by decide) (by decide) (by decide) (by
  unfold ZfB
  rw[if_neg (by omega),if_neg (show ¬ (ZgP room).power=0 by show ¬ (-1:Int)=0;decide)]))
 rw[ZcW] at az;have aU:=ZZ hb;have bj:=ZAy;have aO:Hid (runQ (Zmq kind room) l 0=Zmq kind room):=ZZ rfl;have aE:Hid (∀ i o,l[i]?=some o->runQ (Zmq kind room) l (i+1)=Jc (runQ (Zmq kind room) l i) o):=ZZ (fun i o h=>Zow _ l i o h)
 have aS:Hid (runQ (Zmq kind room) l l.length=Zyo kind room l):=ZZ (ZxT _ l);have aX:Hid (∀ i,i<=l.length->X4 (runQ (Zmq kind room) l i).1 (runQ (Zmq kind room) l i).2 i):=ZZ (fun i hi=>X4.runQ (x:=Zmq kind room) (Zhb room kind h0 V) l i hi)
 have aD:Hid (∀ i,∀ r ∈ (runQ (Zmq kind room) l i).2,Qz r):=ZZ (fun i=>Zwm kind room l i)
 have aJ:Hid (Zmq kind room=((Zor kind,ZgP room),[])):=ZZ rfl;have aM:Hid (∀ i,i<=l.length->NmI (runQ (Zmq kind room) l i).1.1):=ZZ (fun i hi=>Zrm (x:=Zmq kind room) (fun q hq=>by cases hq) (Zhb room kind h0 V) l i hi)
 generalize Zyo kind room l=XE at *;generalize runQ (Zmq kind room) l=Q at *
 have ab:Hid (Zbs (Zor kind) 0 0=([],0)∧(Zor kind).next=0∧OkS (Zor kind)∧(Zor kind).log.recs=[]):=ZZ (by
  have f:=Zfe (d:=ZgP room) (kind:=kind) h0 V;rw[ZcW] at f
  exact⟨rfl,rfl,f,rfl⟩)
 subst hv;have bp:(l.length:Int)<=60:=by omega
 clear hl hb hd hB
 go_enter func10,ntmps10
 go_wp2_with fail
 refine az.o.mono ?_;rintro e W1 ⟨p,rfl,aG,am⟩;have ay:=ZZ aG;have af:=ZZ (aU.o.trans (am.mono ar));have aL:B<=W1.heap.size:=Nat.le_trans ar am.size;have ak:=ZZ (ay.o.next ab.o.2.2.1.num);rw[ab.o.2.1] at ak;clear aG am az ar
 go_wp2_with fail
 refine ak.o.mono ?_;rintro e W2 ⟨rfl,ae⟩;have aw:=ZZ (ay.o.below ae);have al:=ZZ (af.o.trans (ae.mono aL));have aY:B<=W2.heap.size:=Nat.le_trans aL ae.size
 have ao:Hid (Calls prog 17 #[ptr p,.int .i64 0,.int .i64 0] W2 fun e w'=>∃ v,e=.returned (.tuple #[v,.int .i64 0])∧Xj w' W2.heap.size v []∧Below W2.heap.size W2 w'):=ZZ (by
  obtain⟨F,M,I,L,V,h2,-⟩:=aw.o;have:=Zgo 0 0 W2 h2 ab.o.2.2.1.num (by rw[ab.o.2.2.2];intro r hr;cases hr) (by rw[ab.o.2.2.2];exact Nat.zero_le _)
  rw[ab.o.1] at this
  exact this)
 clear ae ak ay af
 go_wp2_with fail
 refine ao.o.mono ?_;rintro e Y ⟨v3,rfl,aq,aC⟩
 have aj:Hid (Zjp B H pd p (Q 0) (300*0) (600000*0) v3 Y):=ZZ (by
  rw[aO.o,aJ.o];refine⟨(aw.o.fresh aC).less fun k hk=>?_,aq.mono aY,al.o.trans (aC.mono aY)⟩
  rcases hk with hk | hk
  ·exact .inl hk
  ·exact .inr (World.ownsRow.lt aq k hk))
 obtain⟨a3,n3,c3,a4⟩:∃ a n c,v3=Value.slice a n c:=by
  obtain⟨a,c,O⟩:=aq.shape;exact⟨a,_,c,O⟩
 subst a4;clear aq aC ao aw al aO aJ ab aU;go_wp2
 go_loopw[10,12] (fun va vi wr=>∃ (i:Nat) (a:Option Addr) (n c:Nat),vi=.int .i64 (i:Int)∧i<=l.length∧va=.slice a n c∧Hid (Zjp B H pd p (Q i) (300*i) (600000*i) (.slice a n c) wr)) (fun _ vi _=>l.length-(intOf vi).toNat)
 case atStart=>exact⟨0,_,_,_,rfl,Nat.zero_le _,rfl,aj⟩
 case round=>
  clear aj;obtain⟨i,j,m,y,rfl,bq,rfl,C⟩:=hrel;by_cases aA:i<l.length
  case neg=>
   obtain rfl:i=l.length:=by omega
   rw[aS.o] at C;go_wp2;go_ret2;exact⟨_,_,rfl,C.o⟩
  have be:B<=wr.heap.size:=Nat.le_trans P C.o.old.size;obtain⟨x,t,u,ka,kc,ra,rc,ba,bc,hx,a5,f⟩:=bi.o.at aA;subst a5;have E:=ZZ (aE.o i x hx);have z:=ZZ (aX.o i (by omega))
  have a8:=ZZ (aD.o i);have aF:=ZZ (aM.o i (by omega))
  have ax:Hid (∀ W,Below B H W->Zql W t (u+i*9) x (.slice ka x.keep.length kc) (.slice ra x.recs.length rc) (.slice ba x.b.length bc)):=ZZ (fun W h=>f.below h (Nat.le_of_eq bg.o.symm))
  have ai:=(ax.o wr C.o.old).c0;have aT:=ZZ (And.intro f.i0 (And.intro f.i2 f.io));have D:=ZZ aA;have bn:i<=60:=by omega
  obtain⟨X,hX⟩:∃ X,X=Q i:=⟨_,rfl⟩;rw[<-hX] at C E z a8 aF;obtain⟨⟨s,d⟩,all⟩:=X;clear hX hx f aA aS aE aX aD aM;have ap:Hid (∀ k,(k<B∨(Value.slice j m y).ownBlock=some k)->k<wr.heap.size):=ZZ (C.o.size P);have ad:Hid (SD (fun k=>k<B∨(Value.slice j m y).ownBlock=some k) wr pd p s d (300*i) (600000*i)):=ZZ C.o.sd
  have S:Hid (s.log.pcs.length<=60∧s.log.recs.length<=1200∧all.length<=1200∧s.bases.length<=61):=ZZ (by
   have V:s.log.pcs.length<=i:=z.o.pcn;have h2:s.log.recs=all.drop s.log.first.toNat:=z.o.recs;have h3:=z.o.rcn;have h4:s.bases.length<=i+1:=z.o.bsn
   dsimp only at h3
   refine⟨by omega,?_,by omega,by omega⟩
   rw[h2,List.length_drop]
   omega)
  by_cases N:x.kind=0
  case pos=>
   have g:Hid (Q (i+1)=((X5 (Zi s.next x) (s,d)).1,if(X5 (Zi s.next x) (s,d)).2=0 then all++Zi s.next x else all)):=ZZ (by
    rw[E.o];unfold Jc
    rw[if_pos N])
   rw[N] at ai
   have ak:Hid (∀ W,Below wr.heap.size wr W->Calls prog 14 #[ptr p] W fun e w'=>e=.returned (.int .i64 s.next)∧Below wr.heap.size wr w'):=ZZ (fun W K=>((ad.o.below K).next (OkS.num z.o.ok)).mono (by
    rintro e w' ⟨rfl,hb⟩
    exact⟨rfl,K.trans (hb.mono K.size)⟩))
   have av:Hid (0<=s.next∧s.next<=4611686018427387904):=ZZ (by
    have aN:OkS s:=z.o.ok;have V:=aN.log.f0;have h2:s.next=s.log.first+s.log.recs.length:=rfl
    exact⟨by omega,aN.log.top⟩)
   have ao:Hid (∀ W,Below wr.heap.size wr W->Calls prog 23 #[.int .i64 s.next,.agg #[.int .i64 0,.int .i64 x.many,.int .i64 x.n,.int .i64 x.op.code,.int .i64 x.op.a,.int .i64 x.op.b,.slice ka x.keep.length kc,.slice ra x.recs.length rc,.slice ba x.b.length bc]] W fun e w'=>∃ v,e=.returned v∧Xj w' wr.heap.size v (Zi s.next x)∧Below wr.heap.size wr w'):=ZZ (fun W K=>by
    have h9:=Zom s.next x ka x.keep.length kc ra x.recs.length rc ba x.b.length bc W av.o.1 av.o.2;rw[N] at h9;refine h9.mono ?_;rintro e w' ⟨v,rfl,f,hb⟩
    exact⟨v,rfl,f.mono K.size,K.trans (hb.mono K.size)⟩)
   have au:Hid (∀ W,Below wr.heap.size wr W->W.cell? ⟨t,u+i*9,none⟩=some (.int .i64 0)∧W.cell? ⟨t,u+i*9+1,none⟩=some (.int .i64 x.many)∧W.cell? ⟨t,u+i*9+2,none⟩=some (.int .i64 x.n)∧W.cell? ⟨t,u+i*9+3,none⟩=some (.int .i64 x.op.code)∧W.cell? ⟨t,u+i*9+4,none⟩=some (.int .i64 x.op.a)∧W.cell? ⟨t,u+i*9+5,none⟩=some (.int .i64 x.op.b)∧W.cell? ⟨t,u+i*9+6,none⟩=some (.slice ka x.keep.length kc)∧W.cell? ⟨t,u+i*9+7,none⟩=some (.slice ra x.recs.length rc)∧W.cell? ⟨t,u+i*9+8,none⟩=some (.slice ba x.b.length bc)):=ZZ (fun W K=>by
    have O:=ax.o W (C.o.old.trans (K.mono be));rw[<-N]
    exact⟨O.c0,O.c1,O.c2,O.c3,O.c4,O.c5,O.c6,O.c7,O.c8⟩)
   have aW:Hid (Below wr.heap.size wr wr.drew):=ZZ (Below.refl _ _).drew
   have aB:Hid (∀ (v:Value) W,Xj W wr.heap.size v (Zi s.next x)->Below wr.heap.size wr W->Calls prog 22 #[ptr p,v] W fun e w'=>e=.returned (.int .i64 (X5 (Zi s.next x) (s,d)).2)∧Zjp B H pd p ((X5 (Zi s.next x) (s,d)).1,all) (300*(i+1)) (600000*(i+1)) (.slice j m y) w'∧RdR w' v (Zi s.next x)):=ZZ (fun v W f K=>by
    have aH:=f.rd (Zwk av.o.1 av.o.2 aT.o.2.2);have aR:∀ k,v.ownBlock=some k->((k<B∨(Value.slice j m y).ownBlock=some k)∨(wr.heap.size<=k∧k<W.heap.size)):=fun k hk=>.inr (World.ownsRow.lt f k hk)
    refine(ZiL v (Zi s.next x) W (ad.o.fresh K) (fun k hk=>by
     rcases hk with hk | hk
     ·exact Nat.lt_of_lt_of_le (ap.o k hk) K.size
     ·exact hk.2) z.o.ok aH (.inr aR) (by have:=S.o.1;omega) (by have:=S.o.2.1;omega) (by omega) (by omega)).mono ?_
    rintro e w' ⟨rfl,T,ag⟩;refine⟨rfl,?_,aH.keepK (.inr aR) ag⟩;have:=(C.o.below P K).did P (fun k hk=>.inl hk) T ag
    exact this.mono (by omega) (by omega))
   have bb:Hid ((Zi s.next x).length<=20):=ZZ (ZkQ _ _);generalize Zi s.next x=RS at *;generalize s.next=nx at *;generalize X5 RS (s,d)=AR at *;obtain⟨AX,cd⟩:=AR
   dsimp only at aB g
   generalize x.many=xm at *;generalize x.n=xn at *;generalize x.op.code=xc at *;generalize x.op.a=xa at *;generalize x.op.b=xb at *;generalize x.keep.length=xk at *;generalize x.recs.length=xr at *;generalize x.b.length=xl at *;clear N E
   go_upto_region 12 with fail
   go_region_held(fun W=>W.cell? ⟨t,u+i*9,none⟩=some (.int .i64 0)∧W.cell? ⟨t,u+i*9+1,none⟩=some (.int .i64 xm)∧W.cell? ⟨t,u+i*9+2,none⟩=some (.int .i64 xn)∧W.cell? ⟨t,u+i*9+3,none⟩=some (.int .i64 xc)∧W.cell? ⟨t,u+i*9+4,none⟩=some (.int .i64 xa)∧W.cell? ⟨t,u+i*9+5,none⟩=some (.int .i64 xb)∧W.cell? ⟨t,u+i*9+6,none⟩=some (.slice ka xk kc)∧W.cell? ⟨t,u+i*9+7,none⟩=some (.slice ra xr rc)∧W.cell? ⟨t,u+i*9+8,none⟩=some (.slice ba xl bc))
    (first | (with_reducible exact au.o _ aW.o) | (with_reducible exact au.o _ af.o) | (with_reducible exact au.o _ al.o))
    (first
     | (go_at_call 14;refine(ak.o _ aW.o).mono ?_;rintro e W1 ⟨rfl,am⟩;have af:=ZZ am;clear am)
     | (go_at_call 23;refine(ao.o _ af.o).mono ?_;rintro e W2 ⟨v2,rfl,ag,ae⟩;obtain⟨z1,z2,z3,hz⟩:∃ a n c,v2=Value.slice a n c:=(by obtain⟨a,c,O⟩:=ag.shape;exact⟨a,_,c,O⟩);subst hz;have aV:=ZZ ag;have al:=ZZ ae;clear ag ae))
   all_goals
    have HA:=ZZ (aB.o _ W2 aV.o al.o);have bl:Hid (Xj wr 0 (.slice j m y) all):=ZZ (C.o.own.mono (Nat.zero_le _));clear ak ao au aB af aV al
    go_wp2_with fail
    refine HA.o.mono ?_;rintro e Y ⟨rfl,A,aQ⟩;have aj:=ZZ A;have bd:=ZZ aQ;clear A aQ HA;by_cases hc:cd=0
    ·subst hc
     rw[if_pos rfl] at g;have a1:Hid (all.length+RS.length<=10000000):=ZZ (by have:=S.o.2.2.1;have:=bb.o;omega)
     have a6:Hid (Xj Y 0 (.slice j m y) all):=ZZ (aj.o.own.mono (Nat.zero_le _))
     go_wp2_with(at_builtin;refine(fun(h:True->_)=>h trivial) ?_)
     intro _;refine Zby Y rfl _ _ rfl (.slice j m y) all rfl a6.o (.slice z1 z2 z3) RS rfl bd.o a1.o ?_;intro v4 W4 V h2 h3;have R:=aj.o.more P V h2 h3;rw[<-g.o] at R;have G:=ZZ R;obtain⟨a9,c9,aK⟩:=V.shape;generalize (all++RS).length=n9 at aK;subst aK;clear V h2 h3 R;go_wp2;go_roundw
     case rel=>exact⟨i+1,a9,n9,c9,by go_num,by have:=D.o;omega,rfl,G⟩
     case measure=>have:=D.o;simp[intOf];omega
    ·rw[if_neg hc] at g
     have R:=aj.o;rw[<-g.o] at R;have G:=ZZ R;have bk:(cd == 0)=false:=beq_eq_false_iff_ne.2 hc;clear hc R;go_wp2;go_roundw
     case rel=>exact⟨i+1,j,m,y,by go_num,by have:=D.o;omega,rfl,G⟩
     case measure=>have:=D.o;simp[intOf];omega
  by_cases U:x.kind=1
  case pos=>
   have g:Hid (Q (i+1)=((Q5 (s,d)).1,all)):=ZZ (by
    rw[E.o];unfold Jc
    rw[if_neg N,if_pos U])
   rw[U] at ai
   have J:Hid (Calls prog 27 #[ptr p] wr fun e w'=>e=.returned (.int .i64 (Q5 (s,d)).2)∧Zjp B H pd p (Q (i+1)) (300*(i+1)) (600000*(i+1)) (.slice j m y) w'):=ZZ ((ZeO wr ad.o ap.o (OkS.num z.o.ok)).mono (by
    rintro e w' ⟨rfl,T,f⟩;refine⟨rfl,?_⟩;rw[g.o];have hm:=S.o.1
    exact(C.o.did P (fun k hk=>hk) T f).mono (by omega) (by omega)))
   generalize (Q5 (s,d)).2=cd at *;clear U g E
   go_wp2_with fail
   refine J.o.mono ?_;rintro e Y ⟨rfl,A⟩;have G:=ZZ A;clear A J;go_wp2;go_roundw
   case rel=>exact⟨i+1,j,m,y,by go_num,by have:=D.o;omega,rfl,G⟩
   case measure=>have:=D.o;simp[intOf];omega
  by_cases Z:x.kind=2
  case pos=>
   have g:Hid (Q (i+1)=((Yf (s,d)).1,all)):=ZZ (by
    rw[E.o];unfold Jc
    rw[if_neg N,if_neg U,if_pos Z])
   rw[Z] at ai
   have J:Hid (Calls prog 26 #[ptr p] wr fun e w'=>e=.returned (.int .i64 (Yf (s,d)).2)∧Zjp B H pd p (Q (i+1)) (300*(i+1)) (600000*(i+1)) (.slice j m y) w'):=ZZ ((ZpJ wr ad.o ap.o (OkS.num z.o.ok)).mono (by
    rintro e w' ⟨rfl,T,f⟩;refine⟨rfl,?_⟩;rw[g.o];have hm:=S.o.1
    exact(C.o.did P (fun k hk=>hk) T f).mono (by omega) (by omega)))
   generalize (Yf (s,d)).2=cd at *;clear Z g E
   go_wp2_with fail
   refine J.o.mono ?_;rintro e Y ⟨rfl,A⟩;have G:=ZZ A;clear A J;go_wp2;go_roundw
   case rel=>exact⟨i+1,j,m,y,by go_num,by have:=D.o;omega,rfl,G⟩
   case measure=>have:=D.o;simp[intOf];omega
  by_cases e3:x.kind=3
  case pos=>
   have g:Hid (Q (i+1)=((Xp (s,d)).1,all)):=ZZ (by
    rw[E.o];unfold Jc
    rw[if_neg N,if_neg U,if_neg Z,if_pos e3])
   rw[e3] at ai
   have J:Hid (Calls prog 24 #[ptr p] wr fun e w'=>e=.returned (.int .i64 (Xp (s,d)).2)∧Zjp B H pd p (Q (i+1)) (300*(i+1)) (600000*(i+1)) (.slice j m y) w'):=ZZ ((Zjl wr ad.o ap.o (OkS.num z.o.ok) (by have:=S.o.2.2.2;omega) (by omega) (by omega)).mono (by
    rintro e w' ⟨rfl,T,f⟩;refine⟨rfl,?_⟩;rw[g.o];have hm:=S.o.1
    exact(C.o.did P (fun k hk=>hk) T f).mono (by omega) (by omega)))
   generalize (Xp (s,d)).2=cd at *;clear e3 g E
   go_wp2_with fail
   refine J.o.mono ?_;rintro e Y ⟨rfl,A⟩;have G:=ZZ A;clear A J;go_wp2;go_roundw
   case rel=>exact⟨i+1,j,m,y,by go_num,by have:=D.o;omega,rfl,G⟩
   case measure=>have:=D.o;simp[intOf];omega
  by_cases e4:x.kind=4
  case pos=>
   have g:Hid (Q (i+1)=((Z7 (s,d)).1,all)):=ZZ (by
    rw[E.o];unfold Jc
    rw[if_neg N,if_neg U,if_neg Z,if_neg e3,if_pos e4])
   have a2:Hid (∀ q ∈ s.log.pcs.dropLast,q.name≠s.cur):=ZZ (fun q hq=>by
    have aP:s.log.pcs.Pairwise (fun p q=>p.name<q.name):=z.o.nam
    have a0:∀ p ∈ s.log.pcs,2<=p.name∧p.name % 2=0:=z.o.two;by_cases h0:s.cur=0
    ·have:=(a0 q ((List.dropLast_sublist _).subset hq)).1
     omega
    ·obtain⟨a,c,a7,aZ⟩:=z.o.curL h0
     have aI:s.log.pcs=a++[c]:=a7;have bo:c.name=s.cur:=aZ;rw[aI,List.dropLast_concat] at hq;rw[aI,List.pairwise_append] at aP;have:=aP.2.2 q hq c (by simp)
     omega)
   have bf:Hid (∀ q ∈ s.log.pcs,I64 q.name):=ZZ (fun q hq=>by
    exact aF.o q.name (List.mem_map.2 ⟨q,hq,rfl⟩))
   rw[e4] at ai
   have J:Hid (Calls prog 29 #[ptr p] wr fun e w'=>e=.returned (.int .i64 (Z7 (s,d)).2)∧Zjp B H pd p (Q (i+1)) (300*(i+1)) (600000*(i+1)) (.slice j m y) w'):=ZZ ((Zqh wr ad.o ap.o z.o.ok z.o.bs0 (by have:=S.o.2.2.2;omega) (by have:=S.o.1;omega) (by have:=S.o.2.1;omega) z.o.bas a2.o bf.o (by omega) (by omega)).mono (by
    rintro e w' ⟨rfl,T,f⟩;refine⟨rfl,?_⟩;rw[g.o];have hm:=S.o.1
    exact(C.o.did P (fun k hk=>hk) T f).mono (by omega) (by omega)))
   generalize (Z7 (s,d)).2=cd at *;clear e4 g E
   go_wp2_with fail
   refine J.o.mono ?_;rintro e Y ⟨rfl,A⟩;have G:=ZZ A;clear A J;go_wp2;go_roundw
   case rel=>exact⟨i+1,j,m,y,by go_num,by have:=D.o;omega,rfl,G⟩
   case measure=>have:=D.o;simp[intOf];omega
  by_cases e5:x.kind=5
  case pos=>
   have g:Hid (Q (i+1)=((s,Zqz d x.n),all)):=ZZ (by
    rw[E.o];unfold Jc
    rw[if_neg N,if_neg U,if_neg Z,if_neg e3,if_neg e4,if_pos e5])
   rw[e5] at ai;have c2:=(ax.o wr C.o.old).c2
   have J:Hid (Calls prog 30 #[ptr pd,.int .i64 x.n] wr fun e w'=>e=.returned (.tuple #[])∧Zjp B H pd p (Q (i+1)) (300*(i+1)) (600000*(i+1)) (.slice j m y) w'):=ZZ ((ad.o.cut x.n aT.o.2.1).mono (by
    rintro e w' ⟨rfl,T,f⟩;refine⟨rfl,?_⟩;rw[g.o]
    exact(C.o.did (r:=(s,Zqz d x.n)) P (fun k hk=>hk) T f).mono (by omega) (by omega)))
   generalize x.n=xn at *;clear e5 g E
   go_wp2_with fail
   refine J.o.mono ?_;rintro e Y ⟨rfl,A⟩;have G:=ZZ A;clear A J;go_wp2;go_roundw
   case rel=>exact⟨i+1,j,m,y,by go_num,by have:=D.o;omega,rfl,G⟩
   case measure=>have:=D.o;simp[intOf];omega
  have g:Hid (Q (i+1)=((s,d),all)):=ZZ (by
   rw[E.o];unfold Jc
   rw[if_neg N,if_neg U,if_neg Z,if_neg e3,if_neg e4,if_neg e5])
  have R:=C.o.mono (show 300*i<=300*(i+1) by omega) (show 600000*i<=600000*(i+1) by omega)
  rw[<-g.o] at R;have G:=ZZ R;have b0:(x.kind == 0)=false:=beq_eq_false_iff_ne.2 N;have b1:(x.kind == 1)=false:=beq_eq_false_iff_ne.2 U;have b2:(x.kind == 2)=false:=beq_eq_false_iff_ne.2 Z;have b3:(x.kind == 3)=false:=beq_eq_false_iff_ne.2 e3;have b4:(x.kind == 4)=false:=beq_eq_false_iff_ne.2 e4;have b5:(x.kind == 5)=false:=beq_eq_false_iff_ne.2 e5;generalize x.kind=kx at *;clear N U Z e3 e4 e5 R g E;go_wp2;go_roundw
  case rel=>exact⟨i+1,j,m,y,by go_num,by have:=D.o;omega,rfl,G⟩
  case measure=>have:=D.o;simp[intOf];omega
end Go.Proofs.YtnahjngbneicaaaGreatDoor
