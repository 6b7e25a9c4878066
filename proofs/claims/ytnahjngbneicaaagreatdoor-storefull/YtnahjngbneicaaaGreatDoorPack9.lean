import Derived.Test.YtnahjngbneicaaaGreatDoorPack8
import Derived.Deep.WholeRow
namespace Go.Proofs.YtnahjngbneicaaaGreatDoor
set_option linter.unusedSimpArgs false
open _root_.Go.Proofs.Tryz
open List (append_assoc length_append length_singleton nil_append take_add_one take_of_length_le)
set_option maxHeartbeats 40000000
set_option maxRecDepth 100000
open Go.RowKit
variable {w w':World} {B N N' T T' b p pd:Nat} {L:List (List UInt8)} {s s':Sto} {K:Nat->Prop} {d:Dk} {v x y z:Value} {l:List UInt8} {xs:List Value}
abbrev zad:=@List.setIfInBounds_toArray
abbrev zb9:=@List.take_append_drop
abbrev zdv:=@Array.getElem?_eq_none
abbrev zfe:=@List.flatten_append
abbrev zgz:=@Go.zero_of_info
abbrev zg2:=@Go.heap_alloc_last
structure Stp where
 g:Nat
 bd:Array Value
 cp:Array Value
def Stp.val (s:Stp):Value:=.func (.func s.g) s.bd s.cp
theorem ZnR (b v cap:Nat) (n:Nat) (fs:Nat->Stp) (w:World) (P:Nat->World->Prop) (Q:Int->World->Prop) (L:n<=1000000)
 (y:∀ i W,i<n->P i W->W.cell? ⟨b,v+i,none⟩=some (fs i).val)
 (A:∀ i W,i<n->P i W->Calls prog (fs i).g ((fs i).bd++(fs i).cp) W fun e w'=>∃ c:Int,e=.returned (.int .i64 c)∧(c=0->P (i+1) w')∧(c≠0->Q c w'))
 (F:∀ i,i<n->∀ args W,(callFunc (fs i).g args).run prog W=.ok (.enter (fs i).g args) W) (H:P 0 w):
 Calls prog 62 #[.slice (some ⟨b,v,none⟩) n cap] w fun e w'=>∃ c:Int,e=.returned (.int .i64 c)∧(c=0->P n w')∧(c≠0->Q c w'):=by
 have z:=ZZ y;have G:=ZZ A;have E:=ZZ F;have O:(n:Int)<=1000000:=by omega
 clear y A F;have C:=ZZ H;clear H
 go_enter func62,ntmps62
 go_wp2
 go_loopw[8] (fun k wr=>∃ i:Nat,k=.int .i64 (i:Int)∧i<=n∧Hid (P i wr)) (fun k _=>n-(intOf k).toNat)
 case atStart=>exact⟨0,rfl,zap _,C⟩
 case round=>
  clear C;obtain⟨i,rfl,R,f⟩:=hrel;by_cases q:i<n
  case neg=>
   obtain rfl:i=n:=by omega
   go_wp2;go_ret;exact⟨0,rfl,fun _=>f.o,fun h=>absurd rfl h⟩
  have d:=z.o i wr q f.o;have j:=ZZ (G.o i wr q f.o);have l:=E.o i q;unfold Stp.val at d;obtain⟨g,p⟩:=zg7 ((fs i).g);obtain⟨D,B⟩:=zg7 ((fs i).bd);obtain⟨u,x⟩:=zg7 ((fs i).cp);rw[<-p,<-B,<-x] at d j;rw[<-p] at l;have S:(i:Int)<(n:Int):=by omega
  clear f p B x z G E
  go_wp2_with fail
  refine j.o.mono ?_;rintro e N ⟨c,rfl,t,m⟩;by_cases a:c=0
  ·subst a
   have J:=ZZ (t rfl);clear t m d l j;go_wp2;go_roundw
   case rel=>exact⟨i+1,by go_num,by omega,J⟩
   case measure=>simp[intOf];omega
  ·have I:=ZZ (m a)
   have M:(c != 0)=true:=by rw[zbq];exact a
   have K:=ZZ a;clear t m d l j a;go_wp2;go_ret;exact⟨c,rfl,fun h=>absurd h K.o,fun _=>I.o⟩
theorem Jr.setHead {M I:Nat->Prop} {L:ZdD} (h:Jr M I w p pd L s) (j:Nat) (x:Value) (l:s'.log=s.log) (z:s'.bases=s.bases) (u:s'.now=s.now) (q:(stC pd L s).setIfInBounds j x=stC pd L s'):
 Jr M I (w.setCell ⟨p,j,none⟩ x) p pd L s':=by
 have b:∀ k,k≠p->(w.setCell ⟨p,j,none⟩ x).heap[k]?=w.heap[k]?:=fun k b=>zat _ _ _ _ b
 have c:∀ {t:TypeId} {n sz g:Nat} {v:Value} {xs:List Value},w.ownsRow 0 t sz v n xs->v.ownBlock=some g->t≠76->g≠p:=fun A a B=>by
  obtain⟨E,D⟩:=X5 A a;exact D.ne h.head B
 have i:∀ k,I k->(w.setCell ⟨p,j,none⟩ x).heap[k]?=w.heap[k]?:=fun k C=>b k fun e=>h.dis p h.mh (by rw[<-e];exact C)
 have m:L.nx s'=L.nx s:=by unfold ZdD.nx;rw[u]
 refine⟨by rw[<-q];exact h.head.set j x,?_,?_,Qh h.bases fun g a=>b g (c h.bases a (by decide)),by rw[z];exact h.bsEq,by rw[m];exact h.now.keep h.inow i,fun y f=>(h.base y f).keep (h.ibase y f) i,h.mh,h.mr,h.mp,h.mb,by rw[m];exact h.inow,h.ibase,fun k d=>by simpa using h.ltM k d,fun k d=>by simpa using h.ltI k d,h.dis⟩
 ·rw[l]
  exact Qh h.recs fun g a=>b g (c h.recs a (by decide))
 ·rw[l]
  exact Qh h.pcs fun g a=>b g (c h.pcs a (by decide))
theorem SD.setHead (h:SD K w pd p s d N T) (g:∀ k,K k->k<w.heap.size) (j:Nat) (x:Value) (u:s'.log=s.log) (f:s'.bases=s.bases) (e:s'.now=s.now) (c:∀ L,(stC pd L s).setIfInBounds j x=stC pd L s'):
 SD K (w.setCell ⟨p,j,none⟩ x) pd p s' d N T∧Ql (fun k=>¬ K k) w (w.setCell ⟨p,j,none⟩ x):=by
 obtain⟨F,M,I,L,m,b,q,l,i,n,t⟩:=h;exact SD.own g m q l i n t ((Ql.refl M w).setCell j (fun _=>b.mh) x) (b.setHead j x u f e (c L)) (fun _ a=>.inl a) (fun _ a=>.inl a)
theorem SD.cells (h:SD K w pd p s d N T):
 (w.cell? ⟨p,0,none⟩=some (ptr pd)∧w.cell? ⟨p,11,none⟩=some (.int .i64 s.synced)∧w.cell? ⟨p,12,none⟩=some (.int .i64 s.cur)∧w.cell? ⟨p,13,none⟩=some (.bool s.nw))∧∀ j,w.frozen? ⟨p,j,none⟩=false:=by
 obtain⟨F,M,I,L,g,a,-⟩:=h;obtain⟨b,-,-,-,-,-,f,c,e⟩:=a.cs;exact⟨⟨b,f,c,e⟩,a.fz⟩
theorem ZcL (w:World) (h:SD K w pd p s d N T) (g:∀ k,K k->k<w.heap.size):
 Calls prog 64 #[ptr p] w fun e w'=>J3 K w pd p (Qp (s,d)) (N+2) T e w':=by
 unfold Qp;obtain⟨⟨d',c⟩,f⟩:=zg7 (Qn d)
 have n:=ZZ (h.disk (d':=d') (c:=c) (N':=N+2) (T':=T) g (fun F A _=>by
  have:=Zps w A;rw[<-f] at this
  exact this))
 obtain⟨⟨u,-⟩,-⟩:=h.cells
 dsimp only
 rw[<-f]
 dsimp only
 have y:=ZZ g;obtain⟨R,i⟩:∃ R:SDk × Int,R=((if c=0 then { s with nw:=false } else s,d'),c):=⟨_,rfl⟩
 rw[<-i];have b:=ZZ i;clear h f g i
 go_enter func64,ntmps64
 go_wp2_with fail
 refine n.o.mono ?_;rintro e x ⟨rfl,j,l⟩;have t:=ZZ j;have m:=ZZ l;have z:Hid (∀ k,K k->k<x.heap.size):=ZZ (fun k v=>zay (y.o k v) l.size)
 obtain⟨⟨-,-,-,D⟩,fz⟩:=j.cells;have B:=fz 13;clear j l n u fz;by_cases a:c=0
 ·subst a
  rw[zab rfl] at b;have q:=ZZ (t.o.setHead (s':={ s with nw:=false }) z.o 13 (.bool false) rfl rfl rfl (fun _=>rfl))
  go_wp2;go_ret;rw[b.o];exact⟨rfl,q.o.1,m.o.trans q.o.2 (fun _ _ h=>h)⟩
 ·rw[zaa a] at b
  have C:(c == 0)=false:=zah.2 a;clear a;go_wp2;go_ret;rw[b.o];exact⟨rfl,t.o,m.o⟩
theorem Zme (w:World) (h:SD K w pd p s d N T) (j:∀ k,K k->k<w.heap.size):
 Calls prog 66 #[ptr p] w fun e w'=>J3 K w pd p (Qw (s,d)) (N+2) T e w':=by
 unfold Qw;have a:=ZZ (ZcL w h j);obtain⟨⟨-,-,-,b⟩,-⟩:=h.cells;have i:=ZZ h
 dsimp only
 cases hb:s.nw with
 | false=>
  rw[hb] at b;rw[zaa (by simp)]
  clear h hb a
  go_enter func66,ntmps66
  go_wp2;go_ret;exact⟨rfl,i.o.mono (by omega) zL,Ql.refl _ _⟩
 | true=>
  rw[hb] at b;rw[zab rfl];obtain⟨r,c⟩:=zg7 (Qp (s,d));rw[<-c] at a ⊢;clear h hb i c
  go_enter func66,ntmps66
  go_wp2_with fail
  refine a.o.mono ?_;rintro e m ⟨rfl,f,g⟩;have l:=ZZ (And.intro f g);clear f g a;go_wp2;go_ret;exact⟨rfl,l.o⟩
theorem J3.from {K2:Nat->Prop} {W:World} {r:SDk × Int} {e:Ending} (h:J3 K2 W pd p r N T e w') (a:∀ k,K k->K2 k) (f:Ql (fun k=>¬ K k) w W) (g:N<=N') (b:T<=T'):J3 K w pd p r N' T' e w':=
 ⟨h.1,(h.2.1.less a).mono g b,f.trans (h.2.2.mono (fun k d c=>d (a k c))) (fun _ _ h=>h)⟩
theorem SD.step {f:Nat} {args:Array Value} (g:Dk->Dk × Int) (h:SD K w pd p s d N T) (b:∀ k,K k->k<w.heap.size)
 (a:∀ F,Dsk F w pd d N T->(∀ k,F k->¬ K k)->Calls prog f args w fun e w'=>Zgv F w pd (g d).1 (g d).2 N' T' e w'):Calls prog f args w fun e w'=>J3 K w pd p (Xo g (s,d)) N' T' e w':=
 h.disk b a
theorem ZnS {R:Nat} (w:World) (h:SD K w pd p s d N T) (c:∀ k,K k->k<w.heap.size) (x:w.cell? ⟨R,0,none⟩=some (ptr p)) (b:I64 s.cur):
 Calls prog 65 #[.pointer (some ⟨R,0,none⟩)] w fun e w'=>J3 K w pd p (Q2 (s,d)) (N+2) T e w':=by
 have g:=ZZ ((h.below (zac _ _).drew).step (fun d=>Xz d s.cur) c (fun F n _=>Zrg s.cur b _ n))
 obtain⟨⟨q,-,t,-⟩,-⟩:=h.cells;have m:Hid (Ql (fun k=>¬ K k) w w.drew):=ZZ (Ql.ofBelow (zac _ _).drew)
 obtain⟨r,a⟩:=zg7 (Q2 (s,d));have f:Xo (fun d=>Xz d s.cur) (s,d)=r:=a.symm
 rw[f] at g;rw[<-a];generalize s.cur=u at *;clear h c b f a
 go_enter func65,ntmps65
 go_upto_region 1 with fail
 go_region_with(first | (go_at_call 59;refine g.o.mono ?_;rintro e v ⟨rfl,i,l⟩;have j:=ZZ (And.intro i l);clear i l))
 all_goals
  go_wp2;go_ret;exact⟨rfl,j.o.1,m.o.trans j.o.2 (fun _ _ h=>h)⟩
theorem Zmf (x:SDk):(Qv [Q2,Qw] x).1.1=x.1∨(Qv [Q2,Qw] x).1.1={ x.1 with nw:=false }:=by
 unfold Qv Qv;split
 ·split
  ·unfold Qv Qw Qp
   split
   ·dsimp only
    split
    ·exact .inr rfl
    ·exact .inl rfl
   ·exact .inl rfl
  ·unfold Qw Qp
   split
   ·dsimp only
    split
    ·exact .inr rfl
    ·exact .inl rfl
   ·exact .inl rfl
 ·exact .inl rfl
theorem ZpV.nw {s:Sto} (h:ZpV s) (b:Bool):ZpV { s with nw:=b }:=⟨h.f0,h.f1,h.sy,h.cu⟩
theorem SD.synced (h:SD K w pd p s d N T) (a:∀ k,K k->k<w.heap.size):
 SD K (w.setCell ⟨p,11,none⟩ (.int .i64 s.next)) pd p (Yi s) d N T∧Ql (fun k=>¬ K k) w (w.setCell ⟨p,11,none⟩ (.int .i64 s.next)):=
 h.setHead a 11 _ rfl rfl rfl (fun _=>rfl)
theorem SD.next (h:SD K w pd p s d N T) (a:ZpV s):
 Calls prog 14 #[ptr p] w fun e w'=>e=.returned (.int .i64 s.next)∧Below w.heap.size w w':=by
 obtain⟨F,M,I,L,c,b,-⟩:=h;exact ZiG w b a
theorem ZeX (w:World) (h:SD K w pd p s d N T) (hK:∀ k,K k->k<w.heap.size) (m:ZpV s):
 Calls prog 27 #[ptr p] w fun e w'=>J3 K w pd p (Q5 (s,d)) (N+4) T e w':=by
 obtain⟨a,A⟩:=zg7 (w.alloc (.cells #[ptr p] 28));have V:Hid (Below w.heap.size w a):=ZZ (by rw[A];exact Z3 _ _)
 have HX:Hid (Bk 28 a w.heap.size #[ptr p]):=ZZ (by rw[A];exact zak w _)
 obtain⟨u,J⟩:∃ u:Nat->Prop,u=fun k=>K k∨(w.heap.size<=k∧k<a.heap.size):=⟨_,rfl⟩
 have C:Hid (SD u a pd p s d N T):=ZZ (by rw[J];exact h.fresh V.o)
 have am:Hid (∀ k,u k->k<a.heap.size):=ZZ (by
  rw[J];intro k hk;rcases hk with hk | hk
  ·exact zay (hK k hk) V.o.size
  ·exact hk.2)
 have an:Hid (∀ k,K k->u k):=ZZ (by rw[J];exact fun k hk=>.inl hk)
 have aF:Hid (u w.heap.size):=ZZ (by rw[J];exact .inr ⟨za0 _,HX.o.lt⟩)
 have aj:Hid (Ql (fun k=>¬ K k) w a):=ZZ (Ql.ofBelow V.o)
 have S:Hid (∀ W,Ql (fun k=>¬ u k) a W->W.cell? ⟨w.heap.size,0,none⟩=some (ptr p)):=ZZ (fun W ho=>((HX.o.keep (ho.block _ HX.o.lt (fun m=>m aF.o))).cell 0 rfl).1)
 have U:=ZZ m;have r0:=S.o a (Ql.refl _ _);obtain⟨⟨-,-,aB,-⟩,-⟩:=C.o.cells;obtain⟨v,af⟩:=zg7 (Q5 (s,d));have O:=ZZ af;rw[<-af];clear h hK J af;by_cases q:s.cur=0
 ·have aC:(s.cur != 0)=false:=by rw[q];rfl
  have y:Hid (v=((Yi s,d),0)):=ZZ (by rw[O.o];unfold Q5;rw[zab q])
  have X:Hid (∀ W,Below a.heap.size a W->Calls prog 14 #[ptr p] W fun e w'=>e=.returned (.int .i64 s.next)∧Below a.heap.size a w'):=ZZ (fun W f=>((C.o.below f).next U.o).mono (by
   rintro e w' ⟨rfl,D⟩
   exact⟨rfl,f.trans (D.mono f.size)⟩))
  have Q:Hid (∀ W,Below a.heap.size a W->W.cell? ⟨w.heap.size,0,none⟩=some (ptr p)∧W.cell? ⟨p,11,none⟩=some (.int .i64 s.synced)∧W.frozen? ⟨p,11,none⟩=false):=ZZ (fun W f=>by
   obtain⟨⟨-,Z,-⟩,fz⟩:=(C.o.below f).cells
   exact⟨S.o W (Ql.ofBelow f),Z,fz 11⟩)
  have ai:Hid (Below a.heap.size a a.drew):=ZZ (zac _ _).drew
  have I:Hid (∀ W,Below a.heap.size a W->J3 K w pd p v (N+4) T (.returned (.int .i64 0)) (W.setCell ⟨p,11,none⟩ (.int .i64 s.next))):=ZZ (fun W f=>by
   rw[y.o];have n:=(C.o.below f).synced (fun k hk=>zay (am.o k hk) f.size)
   exact J3.from (K2:=u) (W:=W) ⟨rfl,n.1,n.2⟩ an.o (aj.o.trans (Ql.ofBelow (F:=fun _=>False) f) (fun _ _ h=>h.elim)) (by omega) zL)
  generalize s.next=nx at *;generalize s.cur=cu at *;clear q y O m
  go_enter func27,ntmps27
  go_upto_region 1 with fail
  rw[<-A];clear A
  go_upto_region 6 with fail
  go_region_with(first | (go_at_call 14;refine(X.o _ (by first | exact ai.o | exact zac _ _)).mono ?_;rintro e g ⟨rfl,ae⟩;have x:=ZZ ae;obtain⟨q0,ax,qf⟩:=Q.o g ae;clear ae))
  all_goals
   go_wp2;go_ret;exact I.o _ x.o
 ·have aC:(s.cur != 0)=true:=by rw[zbq];exact q
  obtain⟨b,B⟩:=zg7 (Qv [Q2,Qw] (s,d));have y:Hid (v=if b.2=0 then((Yi b.1.1,b.1.2),0) else b):=ZZ (by rw[O.o,B];unfold Q5;rw[zaa q])
  have au:Hid (ZpV b.1.1):=ZZ (by
   rcases Zmf (s,d) with hh | hh
   ·rw[B,hh];exact U.o
   ·rw[B,hh];exact U.o.nw false)
  obtain⟨g,P⟩:=zg7 (a.alloc (.cells #[.func (.func 65) #[] #[.pointer (some ⟨w.heap.size,0,none⟩)],.func (.func 66) #[ptr p] #[]] 153));have x:Hid (Below a.heap.size a g):=ZZ (by rw[P];exact Z3 _ _)
  have HY:Hid (Bk 153 g a.heap.size #[.func (.func 65) #[] #[.pointer (some ⟨w.heap.size,0,none⟩)],.func (.func 66) #[ptr p] #[]]):=ZZ (by rw[P];exact zak a _)
  obtain⟨K2,G⟩:∃ K2:Nat->Prop,K2=fun k=>u k∨(a.heap.size<=k∧k<g.heap.size):=⟨_,rfl⟩
  have aE:Hid (SD K2 g pd p s d N T):=ZZ (by rw[G];exact C.o.fresh x.o)
  have ao:Hid (∀ k,K2 k->k<g.heap.size):=ZZ (by
   rw[G];intro k hk;rcases hk with hk | hk
   ·exact zay (am.o k hk) x.o.size
   ·exact hk.2)
  have ab:Hid (∀ k,u k->K2 k):=ZZ (by rw[G];exact fun k hk=>.inl hk)
  have av:Hid (K2 a.heap.size):=ZZ (by rw[G];exact .inr ⟨za0 _,HY.o.lt⟩)
  have aA:Hid (Calls prog 62 #[.slice (some ⟨a.heap.size,0,none⟩) 2 2] g fun e w'=>∃ c:Int,e=.returned (.int .i64 c)∧(c=0->SD K2 w' pd p b.1.1 b.1.2 (N+4) T∧b.2=0∧Ql (fun k=>¬ K2 k) g w')∧(c≠0->SD K2 w' pd p b.1.1 b.1.2 (N+4) T∧b.2=c∧Ql (fun k=>¬ K2 k) g w')):=ZZ (by
   have hs:=ZnR a.heap.size 0 2 2 (fun i=>if i=0 then⟨65,#[],#[.pointer (some ⟨w.heap.size,0,none⟩)]⟩ else⟨66,#[ptr p],#[]⟩) g
    (fun i W=>Ql (fun k=>¬ K2 k) g W∧(i=0->SD K2 W pd p s d N T)∧(i=1->(Q2 (s,d)).2=0∧SD K2 W pd p (Q2 (s,d)).1.1 (Q2 (s,d)).1.2 (N+2) T)∧(i=2->b.2=0∧SD K2 W pd p b.1.1 b.1.2 (N+4) T))
    (fun c W=>SD K2 W pd p b.1.1 b.1.2 (N+4) T∧b.2=c∧Ql (fun k=>¬ K2 k) g W) (by decide)
    (fun i W L t=>by
     have D:=HY.o.keep (t.1.block _ HY.o.lt (fun m=>m av.o))
     match i,L with
     | 0,_=>exact(D.cell 0 rfl).1
     | 1,_=>exact(D.cell 1 rfl).1)
    (fun i W L t=>by
     have ap:∀ k,K2 k->k<W.heap.size:=fun k hk=>zay (ao.o k hk) t.1.size
     match i,L with
     | 0,_=>
      refine(ZnS (R:=w.heap.size) W (t.2.1 rfl) ap (S.o W ((Ql.ofBelow x.o).trans (t.1.mono (fun k hk m=>hk (ab.o k m))) (fun _ _ h=>h))) U.o.cu).mono ?_
      rintro e w' ⟨rfl,n,E⟩;refine⟨_,rfl,fun j=>⟨t.1.trans E (fun _ _ h=>h),fun h=>absurd h (by decide),fun _=>⟨j,n⟩,fun h=>absurd h (by decide)⟩,fun j=>?_⟩
      have M:b=Q2 (s,d):=by rw[B];unfold Qv;rw[zaa j]
      rw[M];exact⟨n.mono (by omega) zL,rfl,t.1.trans E (fun _ _ h=>h)⟩
     | 1,_=>
      obtain⟨ar,aG⟩:=t.2.2.1 rfl;refine(Zme W aG ap).mono ?_;rintro e w' ⟨rfl,n,E⟩;have e2:Qw ((Q2 (s,d)).1.1,(Q2 (s,d)).1.2)=Qw (Q2 (s,d)).1:=rfl;rw[e2] at n ⊢
      have M:(Qw (Q2 (s,d)).1).1=b.1∧(Qw (Q2 (s,d)).1).2=b.2:=by
       rw[B];unfold Qv;rw[zab ar];unfold Qv;split
       ·rename_i j
        exact⟨rfl,j⟩
       ·exact⟨rfl,rfl⟩
      rw[M.1] at n
      exact⟨_,rfl,fun j=>⟨t.1.trans E (fun _ _ h=>h),fun h=>absurd h (by decide),fun h=>absurd h (by decide),fun _=>⟨by rw[<-M.2];exact j,n⟩⟩,fun j=>⟨n,M.2.symm,t.1.trans E (fun _ _ h=>h)⟩⟩)
    (fun i L=>by
     match i,L with
     | 0,_=>exact enters_of func65 (by kernel_rfl) rfl
     | 1,_=>exact enters_of func66 (by kernel_rfl) rfl)
    ⟨Ql.refl _ _,fun _=>aE.o,fun h=>absurd h (by decide),fun h=>absurd h (by decide)⟩
   refine hs.mono ?_;rintro e w' ⟨c,rfl,g1,g2⟩;refine⟨c,rfl,fun j=>?_,g2⟩
   obtain⟨h1,-,-,h4⟩:=g1 j
   exact⟨(h4 rfl).2,(h4 rfl).1,h1⟩)
  have ak:Hid (Ql (fun k=>¬ K k) w g):=ZZ (aj.o.trans (Ql.ofBelow (F:=fun _=>False) x.o) (fun _ _ h=>h.elim))
  have ad:Hid (∀ k,K k->K2 k):=ZZ (fun k hk=>ab.o k (an.o k hk))
  have ay:Hid (∀ W,Ql (fun k=>¬ K2 k) g W->W.cell? ⟨w.heap.size,0,none⟩=some (ptr p)):=ZZ (fun W ho=>S.o W ((Ql.ofBelow x.o).trans (ho.mono (fun k hk m=>hk (ab.o k m))) (fun _ _ h=>h)))
  have aq:=ZZ P;have aH:=C;generalize s.cur=cu at *;clear q B G m P
  go_enter func27,ntmps27
  go_upto_region 1 with fail
  rw[<-A];clear A
  go_wp2_with(go_at_call 62;rw[<-aq.o];refine aA.o.mono ?_)
  rintro e l ⟨c,rfl,aa,ac⟩;clear aq r0 aB;by_cases q:c=0
  ·subst q
   obtain⟨H,j,z⟩:=aa rfl;have aw:Hid (v=((Yi b.1.1,b.1.2),0)):=ZZ (by rw[y.o,zab j])
   have az:Hid (∀ k,K2 k->k<l.heap.size):=ZZ (fun k hk=>zay (ao.o k hk) z.size)
   have Y:=ZZ H;have al:=ZZ z
   have X:Hid (∀ W,Below l.heap.size l W->Calls prog 14 #[ptr p] W fun e w'=>e=.returned (.int .i64 b.1.1.next)∧Below l.heap.size l w'):=ZZ (fun W f=>((Y.o.below f).next au.o).mono (by
    rintro e w' ⟨rfl,D⟩
    exact⟨rfl,f.trans (D.mono f.size)⟩))
   have Q:Hid (∀ W,Below l.heap.size l W->W.cell? ⟨w.heap.size,0,none⟩=some (ptr p)∧W.cell? ⟨p,11,none⟩=some (.int .i64 b.1.1.synced)∧W.frozen? ⟨p,11,none⟩=false):=ZZ (fun W f=>by
    obtain⟨⟨-,Z,-⟩,fz⟩:=(Y.o.below f).cells
    exact⟨ay.o W (al.o.trans (Ql.ofBelow (F:=fun _=>False) f) (fun _ _ h=>h.elim)),Z,fz 11⟩)
   have ai:Hid (Below l.heap.size l l.drew):=ZZ (zac _ _).drew
   have I:Hid (∀ W,Below l.heap.size l W->J3 K w pd p v (N+4) T (.returned (.int .i64 0)) (W.setCell ⟨p,11,none⟩ (.int .i64 b.1.1.next))):=ZZ (fun W f=>by
    rw[aw.o];have n:=(Y.o.below f).synced (fun k hk=>zay (az.o k hk) f.size)
    exact J3.from (K2:=K2) (W:=W) ⟨rfl,n.1,n.2⟩ ad.o ((ak.o.trans (al.o.mono (fun k hk m=>hk (ad.o k m))) (fun _ _ h=>h)).trans (Ql.ofBelow (F:=fun _=>False) f) (fun _ _ h=>h.elim)) (by omega) zL)
   obtain⟨q0,ax,qf⟩:=Q.o l (zac _ _);generalize b.1.1.next=nx at *;generalize b.1.1.synced=sy at *;clear aa ac H j z y O
   go_upto_region 6 with fail
   go_region_with(first | (go_at_call 14;refine(X.o _ (by first | exact ai.o | exact zac _ _)).mono ?_;rintro e W3 ⟨rfl,ag⟩;have aD:=ZZ ag;obtain⟨x0,aJ,xf⟩:=Q.o W3 ag;clear ag))
   all_goals
    go_wp2;go_ret;exact I.o _ aD.o
  ·obtain⟨H,j,z⟩:=ac q
   have I:Hid (J3 K w pd p v (N+4) T (.returned (.int .i64 c)) l):=ZZ (by
    rw[y.o,zaa (by rw[j];exact q)]
    exact J3.from (K2:=K2) (W:=g) ⟨by rw[j],H,z⟩ ad.o ak.o zL zL)
   have aI:(c != 0)=true:=by rw[zbq];exact q
   clear aa ac H j z y O q;go_wp2;go_ret;exact I.o
theorem Own.empty {X:Obj} {cur:Array Value} (d:w.heap.size=N) (b:X=.cells cur 5 (0,0)) (a:B<=N) (cap:Nat) (c:cap<=maxLen) (f:cur.size=cap):Own (w.alloc X) B (.slice (some ⟨N,0,none⟩) 0 cap) []:=by
 subst d b;have h:=World.ownsRow_made (e:=5) (size:=1) (base:=B) w cur cap a c (by omega)
 exact h
theorem Zrm (n:Nat) (w:World) (p:n<=1000000):
 Calls prog 182 #[.slice none 0 0,.int .i64 (n:Int)] w fun e w'=>∃ v',e=.returned v'∧Own w' w.heap.size v' []∧Below w.heap.size w w':=by
 obtain⟨b,k,f,m,c⟩:=zbx Zlw;by_cases l:n=0
 ·subst l
  go_enter func182,ntmps182
  go_wp2;go_ret;exact⟨_,rfl,Own.nil _ _,zac _ _⟩
 ·have g:∀ ty,(Builtin.append_ #[53,3] ty #[.slice none 0 0,.int .i64 (n:Int)]).run prog w =
   .ok (.slice (some ⟨w.heap.size,0,none⟩) n (grownCap w n 0 5)) (w.drew.alloc (.cells (#[]++Builtin.zeroCells #[.int .u8 0] n++Builtin.zeroCells #[.int .u8 0] (grownCap w n 0 5-n)) 5)):=fun ty=>by
   have h:=zgu (P:=prog) w 53 3 ty 5 b (.int .u8 0) .i64 .i64 underlying53 underlying3 k f none 0 0 [] (run_firstCells_none w.drew b.size 0 0 0) n (by omega) (by omega) (by omega) (by omega) (by rw[c];omega)
    (by rw[za9];exact growslice_fits (by omega) (by rw[c];omega))
   rw[za9] at h;exact h
  have t:n<=grownCap w n 0 5:=zgj w _ _ _;have a:=zey w n 0 5 (by unfold maxLen;omega)
  generalize grownCap w n 0 5=G at *
  have q:G<=9223372036854775807:=by
   unfold maxLen at a;omega
  have d:(#[]++Builtin.zeroCells #[Value.int .u8 0] n++Builtin.zeroCells #[Value.int .u8 0] (G-n)).size=G:=by
   simp[Builtin.zeroCells];omega
  generalize (#[]++Builtin.zeroCells #[Value.int .u8 0] n++Builtin.zeroCells #[Value.int .u8 0] (G-n))=Z at *;have u:(0:Int)<(n:Int):=by omega
  have i:Hid (Own (w.drew.alloc (.cells Z 5)) w.heap.size (.slice (some ⟨w.heap.size,0,none⟩) 0 G) []):=ZZ (Own.empty rfl rfl zL G a d);have j:Hid (Below w.heap.size w (w.drew.alloc (.cells Z 5))):=ZZ (((zac _ _).drew).alloc zL _);clear d a
  go_enter func182,ntmps182
  go_wp2_with(at_builtin;refine Lib.wpList_append_run _ rfl _ _ _ _ rfl _ _ rfl rfl _ _ (g _) ?_)
  all_goals (go_ret;exact⟨_,rfl,i.o,j.o⟩)
theorem ZnT (L:List (List UInt8)) (k:Nat) (a:k<L.length):(L.take (k+1)).flatten=(L.take k).flatten++L.getD k []:=by
 have e:L.take (k+1)=L.take k++[L.getD k []]:=by
  rw[take_add_one];simp[List.getD,a]
 rw[e,zfe];simp
theorem Zzy (L:List (List UInt8)) (k:Nat):((L.take k).flatten).length<=L.flatten.length:=by
 have e:L.flatten=(L.take k).flatten++(L.drop k).flatten:=by rw[<-zfe,zb9]
 rw[e,length_append];omega
def Zmg (L:List (List UInt8)) (k:Nat):Nat:=(L.take k).flatten.length
def ZvB (L:List (List UInt8)) (k:Nat):List UInt8:=(L.take k).flatten
theorem ZnU (L:List (List UInt8)) (k:Nat) (a:k<L.length):ZvB L (k+1)=ZvB L k++L.getD k []:=ZnT L k a
theorem ZnV (L:List (List UInt8)) (k:Nat) (a:k<L.length):(Zmg L (k+1):Int)=(Zmg L k:Int)+((L.getD k []).length:Int):=by
 unfold Zmg;rw[ZnT L k a,length_append];omega
theorem ZvC (L:List (List UInt8)) (k:Nat):Zmg L k<=L.flatten.length:=Zzy L k
theorem Zrn (L:List (List UInt8)) (k:Nat):(ZvB L k).length=Zmg L k:=rfl
theorem Zro (L:List (List UInt8)) (k:Nat) (a:L.length<=k):ZvB L k=L.flatten:=by
 unfold ZvB;rw[take_of_length_le a]
theorem Zdo (v:Value) (L:List (List UInt8)) (w:World) (H:RdL w v L) (O:L.flatten.length<=1000000) (hn:L.length<=1000):
 Calls prog 131 #[v] w fun e w'=>∃ v',e=.returned v'∧Own w' w.heap.size v' L.flatten∧Below w.heap.size w w':=by
 have HG:=ZZ (fun n W h=>Zrm n W h)
 have ag:=ZZ H;have m:Hid (∀ k,Zmg L k<=1000000):=fun k=>zau (ZvC L k) O
 have G:=ZZ (ZnV L);have af:=ZZ (ZnU L);have z:=ZZ (Zro L);have T:=ZZ (Zrn L);obtain⟨F,p⟩:=zg7 L.flatten;rw[<-p];rw[<-p] at z;obtain⟨ao,cap,rfl,-,-,-,C⟩:=H;have I:=ZZ C;clear C p O
 go_enter func131,ntmps131
 go_wp2
 go_loopw[3,11] (fun vs a wr=>∃ (k:Nat),vs=.int .i64 (Zmg L k:Int)∧a=.int .i64 (k:Int)∧k<=L.length∧wr=w) (fun _ a _=>L.length-(intOf a).toNat)
 case atStart=>exact⟨0,rfl,rfl,zap _,rfl⟩
 case round=>
  obtain⟨k,rfl,rfl,X,E⟩:=hrel;have S:=E.symm;subst S;clear E;by_cases b:k<L.length
  ·rcases I.o with y | ⟨c,aa,rfl,f⟩
   ·rw[y] at b;simp at b
   obtain⟨x,V,i⟩:=f k b;have R:=m.o (k+1);have t:=G.o k b;obtain⟨ax,cx,rfl,-⟩:=i;have h3:¬ ((Zmg L k:Int)+((L.getD k []).length:Int)<0):=by omega
   have h4:(Zmg L k:Int)+((L.getD k []).length:Int)<=1000000:=by omega
   have H2:=ZZ t;clear f R t;generalize Zmg L k=A at *;generalize (L.getD k []).length=D at *;go_wp2;go_roundw
   case rel=>exact⟨k+1,by rw[H2.o],by go_num,by omega,trivial⟩
   case measure=>simp[intOf];omega
  ·have ab:=ZZ (HG.o (Zmg L k) w (m.o k))
   generalize Zmg L k=A at *
   go_wp2_with fail
   refine ab.o.mono ?_;rintro e W1 ⟨v1,rfl,K,J⟩;have B:=ZZ K;have N:=ZZ J;clear K J X b;go_wp2
   go_loopw[6,27] (fun vo a Q=>∃ (j:Nat),a=.int .i64 (j:Int)∧j<=L.length∧Hid (Own Q w.heap.size vo (ZvB L j))∧Hid (Below w.heap.size w Q)) (fun _ a _=>L.length-(intOf a).toNat)
   case atStart=>exact⟨0,rfl,zap _,B,N⟩
   case round=>
    clear B N;obtain⟨j,rfl,hj,q,g⟩:=hrel;by_cases d:j<L.length
    ·rcases I.o with y | ⟨c,aa,rfl,f⟩
     ·rw[y] at d;simp at d
     obtain⟨x,u,i⟩:=f j d;have V:=(g.o.cell (za1 _ _ u)).trans u;have ad:=ZZ (i.below g.o zL);obtain⟨ax,cx,rfl,-⟩:=i
     have ae:Hid ((ZvB L j).length+(L.getD j []).length<=70368744177664):=ZZ (by
      have R:=m.o (j+1);have t:=G.o j d;rw[T.o]
      omega)
     have Y:=ZZ g.o.size;have HN:=ZZ (af.o j d);clear f u;generalize L.getD j []=D at *;generalize ZvB L j=P at *
     go_wp2_with(at_builtin;refine Xx _ rfl _ _ rfl w.heap.size _ P rfl q.o _ D rfl ad.o ae.o Y.o ?_)
     intro v3 W3 l M;rw[<-HN.o] at l;have ac:=ZZ l;have Z:=ZZ (g.o.trans M);clear l M;go_wp2;go_roundw
     case rel=>exact⟨j+1,by go_num,by omega,ac,Z⟩
     case measure=>simp[intOf];omega
    ·have U:=ZZ (z.o j (by omega))
     rw[U.o] at q;go_wp2;go_ret;exact⟨_,rfl,q.o,g.o⟩
theorem RdL.built (W:World) (N:Nat) (c:N=W.heap.size) (vs:Array Value) (L:List (List UInt8)) (f:L.length<=1000) (h:∀ j,j<L.length->∃ x,vs[j]?=some x∧Rd W x (L.getD j [])):
 RdL (W.alloc (.cells vs 53)) (.slice (some ⟨N,0,none⟩) L.length L.length) L:=by
 subst c;refine⟨some ⟨W.heap.size,0,none⟩,L.length,rfl,za0 _,by unfold maxLen;omega,fun e=>(by cases e),.inr ⟨W.heap.size,0,rfl,fun j d=>?_⟩⟩
 obtain⟨x,a,b⟩:=h j d;refine⟨x,?_,b.below ((zac _ _).alloc zL _) zL⟩;rw[za9,zas _ W.heap.size j vs 53 (0,0) (zak W _)];exact a
theorem ZvD (W:World) (N:Nat) (v:N=W.heap.size) (g f k i:Value) (d a b c:List UInt8) (w:Rd W g d) (q:Rd W f a) (x:Rd W k b) (t:Rd W i c) (y:d.length+a.length+b.length+c.length<=1000000):
 Calls prog 131 #[.slice (some ⟨N,0,none⟩) 4 4] (W.alloc (.cells #[g,f,k,i] 53)) fun e w'=>∃ v',e=.returned v'∧Own w' W.heap.size v' (d++(a++(b++c)))∧Below W.heap.size W w':=by
 have p:=RdL.built W N v #[g,f,k,i] [d,a,b,c] (by simp) (fun j n=>by
  match j,n with
  | 0,_=>exact⟨g,rfl,w⟩
  | 1,_=>exact⟨f,rfl,q⟩
  | 2,_=>exact⟨k,rfl,x⟩
  | 3,_=>exact⟨i,rfl,t⟩)
 have m:[d,a,b,c].flatten=d++(a++(b++c)):=by simp
 refine(Zdo _ _ _ p (by rw[m];simp only [length_append];omega) (by simp)).mono ?_
 rintro e w' ⟨v',rfl,l,u⟩;rw[m] at l;exact⟨v',rfl,l.mono (by simp),((zac _ _).alloc zL _).trans (u.mono (by simp))⟩
theorem ZvE (W:World) (N:Nat) (q:N=W.heap.size) (f d g:Value) (c a b:List UInt8) (t:Rd W f c) (n:Rd W d a) (u:Rd W g b) (v:c.length+a.length+b.length<=1000000):
 Calls prog 131 #[.slice (some ⟨N,0,none⟩) 3 3] (W.alloc (.cells #[f,d,g] 53)) fun e w'=>∃ v',e=.returned v'∧Own w' W.heap.size v' (c++(a++b))∧Below W.heap.size W w':=by
 have m:=RdL.built W N q #[f,d,g] [c,a,b] (by simp) (fun j l=>by
  match j,l with
  | 0,_=>exact⟨f,rfl,t⟩
  | 1,_=>exact⟨d,rfl,n⟩
  | 2,_=>exact⟨g,rfl,u⟩)
 have k:[c,a,b].flatten=c++(a++b):=by simp
 refine(Zdo _ _ _ m (by rw[k];simp only [length_append];omega) (by simp)).mono ?_
 rintro e w' ⟨v',rfl,i,p⟩;rw[k] at i;exact⟨v',rfl,i.mono (by simp),((zac _ _).alloc zL _).trans (p.mono (by simp))⟩
theorem ZsX (v:Value) (l:List UInt8) (w:World) (d:Rd w v l) (q:l.length<=1000000):
 Calls prog 214 #[v] w fun e w'=>∃ v',e=.returned v'∧Own w' w.heap.size v' l∧Below w.heap.size w w':=by
 have p:=ZZ d;obtain⟨ao,cap,rfl,k,-,b,-⟩:=d
 cases ao with
 | none=>
  obtain rfl:cap=0:=b rfl;obtain rfl:l=[]:=zao (by omega)
  clear b k;have i:∀ w,(binOp .eql 53 (.slice none 0 0) (.slice none 0 0)).run prog w=.ok (.bool true) w:=fun w=>zc5 w _ _ none 0 0 underlying53
  go_enter func214,ntmps214
  go_wp2;go_ret;exact⟨_,rfl,Own.nil _ _,zac _ _⟩
 | some a=>
  clear b;have i:∀ w,(binOp .eql 53 (.slice (some a) l.length cap) (.slice none 0 0)).run prog w=.ok (.bool false) w:=fun w=>zc5 w _ _ (some a) _ _ underlying53
  have c:Hid (∀ X,Below w.heap.size w (w.alloc X)):=fun X=>(zac _ _).alloc zL X
  have j:Hid (Own (w.alloc (.cells #[] 5)) w.heap.size (.slice (some ⟨w.heap.size,0,none⟩) 0 0) []):=ZZ (Own.empty rfl rfl zL 0 (zap _) rfl)
  go_enter func214,ntmps214
  go_wp2_with(at_builtin;refine Xx _ rfl _ _ rfl w.heap.size _ [] rfl j.o _ l rfl (p.o.below (c.o _) zL) (by simp;omega) (by simp) ?_)
  intro u t g f;have m:=ZZ g;have n:=ZZ ((c.o _).trans f);clear g f;go_wp2;go_ret;exact⟨_,rfl,m.o,n.o⟩
def Xy:Array Value:=((List.range 256).map fun c=>Value.int .u32 ((Zdu c:Nat):Int)).toArray
def Jf:Array Value:=(List.replicate 256 (Value.int .u32 0)).toArray
theorem Zhp:(prog.info? 266).map (fun i=>(i.zero,i.size))=some (some (.agg Jf),256):=by kernel_rfl
theorem Gs:Xy.size=256:=by simp[Xy]
theorem ZcM:Jf.size=256:=by
 unfold Jf;rw[zgp,List.length_replicate]
theorem Zgz:Xy.all (·.oneCell')=true:=by
 rw[Array.all_eq_true];intro i a;simp[Xy,Value.oneCell']
theorem ZiL (k:Nat) (h:k<256):Xy[k]?=some (.int .u32 ((Zdu k:Nat):Int)):=by
 simp[Xy,h]
theorem ZvF (w:World):(Instr.storeAt 266 (.pointer (some ⟨w.heap.size,0,none⟩)) (.agg Xy)).run prog (w.alloc (.cells Jf 266))=.ok () (w.alloc (.cells Xy 266)):=
 run_storeAt_new w 266 Jf Xy (by rw[Gs];exact(zgz Zhp).2) (by rw[Gs,ZcM]) Zgz
def ZxL (w:World) (b:Nat):Prop:=∀ k,k<256->w.cell? ⟨b,k,none⟩=some (.int .u32 ((Zdu k:Nat):Int))
theorem ZxL.made (w:World):ZxL (w.alloc (.cells Xy 266)) w.heap.size:=by
 intro k a;rw[zas _ w.heap.size k Xy 266 (0,0) (zg2 w _)];exact ZiL k a
theorem ZiM (w:World) {b:Array Oper} {rest:List Oper} {o:Oper} {a:Act} {Q:Exit->Act->World->Prop} (d:o.guard=none) (x y:Operand) (g:o.op=.store 266 x y)
 (f:a.eval x=.pointer (some ⟨w.heap.size,0,none⟩)) (c:a.eval y=.agg Xy)
 (h:∀ w',Below w.heap.size w w'->ZxL w' w.heap.size->wpList prog b Q rest (a.put o.dst undef) w'):wpList prog b Q (o::rest) a (w.alloc (.cells Jf 266)):=
 zb0 d fun _ i=>by
  have e:=ZvF w;unfold Oper.wp execOp;simp only [g,f,c,e,zbt,zbv,zbe];exact i _ _ (h _ ((zac _ _).alloc zL _) (ZxL.made w))
def ZiN (k:Nat):Array Value:=((List.range 256).map fun c=>if c<k then Value.int .u32 ((Zdu c:Nat):Int) else Value.int .u32 0).toArray
theorem ZbQ (k:Nat):(ZiN k).size=256:=by simp[ZiN]
theorem ZcN (k i:Nat) (h:i<256):(ZiN k)[i]?=some (if i<k then Value.int .u32 ((Zdu i:Nat):Int) else Value.int .u32 0):=by
 simp[ZiN,h]
theorem ZsY:ZiN 0=Jf:=by
 apply zfj;intro i;by_cases h:i<256
 ·rw[ZcN 0 i h]
  unfold Jf;rw[zef,List.getElem?_replicate_of_lt h];simp
 ·rw[zdv (by rw[ZbQ];omega),zdv (by rw[ZcM];omega)]
theorem ZsZ:ZiN 256=Xy:=by
 apply zfj;intro i;by_cases h:i<256
 ·rw[ZcN 256 i h,zab h,ZiL i h]
 ·rw[zdv (by rw[ZbQ];omega),zdv (by rw[Gs];omega)]
theorem ZvG (k:Nat) (b:k<256):(ZiN k).setIfInBounds k (Value.int .u32 ((Zdu k:Nat):Int))=ZiN (k+1):=by
 apply zfj;intro i;rw[zba];by_cases h:i<256
 ·rw[ZcN (k+1) i h,ZcN k i h,ZbQ]
  by_cases a:k=i
  ·subst a
   simp[b]
  ·rw[zaa a]
   have e:(i<k+1)=(i<k):=by
    apply propext;omega
   simp only [e]
 ·have a:¬ k=i:=by omega
  rw[zaa a,zdv (by rw[ZbQ];omega),zdv (by rw[ZbQ];omega)]
theorem Zmh {C:Array Value} (h:C.size=256):(prog.info? 266).map (·.size)=some C.size:=by
 rw[h];exact(zgz Zhp).2
theorem ZiO (w:World) {b:Array Oper} {rest:List Oper} {o:Oper} {a:Act} {Q:Exit->Act->World->Prop} (f:o.guard=none) (x:Operand) (i:o.op=.load 266 x)
 (g:Nat) (C:Array Value) (c:Nat × Nat) (l:a.eval x=.pointer (some ⟨g,0,none⟩)) (j:w.heap[g]?=some (.cells C 266 c)) (k:C.size=256)
 (h:wpList prog b Q rest (a.put o.dst (.agg C)) w):wpList prog b Q (o::rest) a w:=
 zb0 f fun _ e=>by
  have d:=run_loadVar_row (P:=prog) w g 266 266 C c _ j underlying266 rfl (Zmh k);unfold Oper.wp execOp;simp only [i,l,Instr.loadAt,Instr.sureAddr,zbt,zbv,zbe,d];exact e _ _ h
theorem ZgV (w:World) {b:Array Oper} {rest:List Oper} {o:Oper} {a:Act} {Q:Exit->Act->World->Prop} (f:o.guard=none) (x y:Operand) (i:o.op=.store 266 x y)
 (g:Nat) (C D:Array Value) (n:a.eval x=.pointer (some ⟨g,0,none⟩)) (k:a.eval y=.agg D) (l:w.heap[g]?=some (.cells C 266 (0,0))) (m:C.size=256) (c:D.size=256) (j:D.all (·.oneCell')=true)
 (h:wpList prog b Q rest (a.put o.dst undef) (w.setRow g D)):wpList prog b Q (o::rest) a w:=
 zb0 f fun _ e=>by
  have d:=run_storeVar_row (P:=prog) w g 266 266 C D l (Zmh c) (by rw[m,c]) j
  unfold Oper.wp execOp;simp only [i,n,k,Instr.storeAt,Instr.sureAddr,zbt,zbv,zbe,d];exact e _ _ h
theorem ZnW {fn:Func} {p:Tmp} {ty:TypeId} (h:fn.results=#[.cell p ty]) (b:Array Value) (P:Program) (w:World):
 (results fn b).run P w=((asAddr (b.getD p undef)).run P w).andThen fun a c=>(loadVar ty a).run P c:=by
 simp only [results,h];simp[zbt,Result.andThen]
theorem ZvH (k:Nat) (g:k<256) (w:World):Calls prog 225 #[.int .u32 (k:Int)] w fun e w'=>e=.returned (.int .u32 (Zdu k:Nat))∧w'=w:=by
 have t:=ZZ g;clear g
 go_enter func225,ntmps225
 go_wp2
 go_loop [0,4] (fun x j=>∃ m:Nat,m<=8∧j=.int .i64 (m:Int)∧x=.int .u32 (Gz m k:Nat)) (fun _ j=>8-(intOf j).toNat)
 case atStart=>exact⟨0,zap _,rfl,rfl⟩
 case round=>
  obtain⟨m,D,rfl,rfl⟩:=hrel;by_cases A:m<8
  ·have n:=ZZ (ZsS m k)
   have l:Gz m k<4294967296:=Zvr m (by have:=t.o;omega)
   generalize Gz m k=y at *;obtain⟨Y,f⟩:∃ Y:Int,Y=(y:Int):=⟨_,rfl⟩;rw[<-f];have C:0<=Y:=by omega
   have B:Y<4294967296:=by omega
   have i:=ZZ f;have q:=ZZ l;clear f l;by_cases a:Y % 2=1
   ·have v:(Y % 2 == 1)=true:=zbi.2 a
    have c:=ZZ a;clear a;go_wp2
    go_round
    case rel=>
     have e:=i.o;have u:=c.o;refine⟨m+1,by omega,by go_num,?_⟩
     have b:Y / 2=((y / 2:Nat):Int):=by omega
     have p:(2197175160:Int)=((2197175160:Nat):Int):=rfl;have d:ZrX y=y / 2 ^^^ 2197175160:=zab (by omega)
     rw[n.o,d,b,p,ZpS _ _ (by have:=q.o;omega) (by decide)]
    case measure=>simp[intOf];omega
   ·have v:(Y % 2 == 1)=false:=zah.2 a
    have c:=ZZ a;clear a;go_wp2
    go_round
    case rel=>
     have e:=i.o;have u:=c.o;refine⟨m+1,by omega,by go_num,?_⟩
     have b:Y / 2=((y / 2:Nat):Int):=by omega
     have d:ZrX y=y / 2:=zaa (by omega)
     rw[n.o,d,b]
    case measure=>simp[intOf];omega
  ·have z:Hid (Gz m k=Zdu k):=by
    have e:m=8:=by omega
    rw[e];exact rfl
   generalize Gz m k=y at *;go_wp2;go_ret;refine⟨ZbV ?_,rfl⟩;rw[z.o]
theorem ZvI (w:World):Calls prog 215 #[] w fun e w'=>e=.returned (.agg Xy)∧Below w.heap.size w w':=by
 have C:=(zgz Zhp).1;have t:Hid (∀ (k:Nat) (w:World),k<256->Calls prog 225 #[.int .u32 (k:Int)] w fun e w'=>e=.returned (.int .u32 (Zdu k:Nat))∧w'=w):=fun k w g=>ZvH k g w
 go_enter func215,ntmps215
 go_wp2
 go_loopw[3] (fun i wr=>∃ k:Nat,k<=256∧i=.int .i64 (k:Int)∧Hid (wr.heap[w.heap.size+1]?=some (.cells (ZiN k) 266 (0,0)))∧Hid (wr.heap[w.heap.size]?=some (.cells Jf 266 (0,0)))∧Hid (Below w.heap.size w wr)) (fun i _=>256-(intOf i).toNat)
 case atStart=>
  have q:((w.alloc (.cells Jf 266)).alloc (.cells Jf 266)).heap[w.heap.size+1]?=some (.cells (ZiN 0) 266 (0,0)):=by
   rw[ZsY];have h:=zg2 (w.alloc (.cells Jf 266)) (.cells Jf 266);have l:(w.alloc (.cells Jf 266)).heap.size=w.heap.size+1:=by simp
   rw[l] at h;exact h
  have n:((w.alloc (.cells Jf 266)).alloc (.cells Jf 266)).heap[w.heap.size]?=some (.cells Jf 266 (0,0)):=
   (zav _ _ w.heap.size (by simp)).trans (zg2 w _)
  exact⟨0,zap _,rfl,q,n,((zac _ _).alloc zL _).alloc (by simp) _⟩
 case round=>
  obtain⟨k,g,rfl,b,d,a⟩:=hrel;by_cases c:k<256
  ·have B:wr.cell? ⟨w.heap.size+1,k,none⟩=some (.int .u32 0):=by
    rw[zas wr _ k _ _ _ b.out,ZcN k k c];simp
   have z:wr.frozen? ⟨w.heap.size+1,k,none⟩=false:=zbc wr _ k _ _ b.out
   have x:Hid ((wr.setCell ⟨w.heap.size+1,k,none⟩ (.int .u32 ((Zdu k:Nat):Int))).heap[w.heap.size+1]?=some (.cells (ZiN (k+1)) 266 (0,0))):=by
    have h:=zbk wr (w.heap.size+1) k _ _ (.int .u32 ((Zdu k:Nat):Int)) b.out;rw[ZvG k c] at h;exact h
   go_wp2_with fail
   refine(t.o k wr c).mono ?_;rintro e A ⟨rfl,rfl⟩;go_wp2;go_roundw
   case rel=>exact⟨k+1,by omega,by go_num,x,(zat _ _ _ _ (by show w.heap.size≠w.heap.size+1;omega)).trans d.out,a.out.setCell (by show w.heap.size<=w.heap.size+1;omega) _⟩
   case measure=>simp[intOf];omega
  ·have f:wr.heap[w.heap.size+1]?=some (.cells Xy 266 (0,0)):=by
    have e:k=256:=by omega
    rw[<-ZsZ,<-e];exact b.out
   have u:=ZZ f
   have y:Hid ((loadVar 266 ⟨w.heap.size,0,none⟩).run prog (wr.setRow w.heap.size Xy)=.ok (.agg Xy) (wr.setRow w.heap.size Xy)):=
    run_loadVar_row (P:=prog) _ _ 266 266 Xy (0,0) _ (setRow_heap wr _ _ Xy _ _ d.out) underlying266 rfl (Zmh Gs)
   have p:Hid (Below w.heap.size w (wr.setRow w.heap.size Xy)):=
    ⟨a.out.os,a.out.tape,a.out.output,by have:=a.out.size;simp[World.setRow];omega,fun j m=>(setRow_other wr _ j _ (by omega)).trans (a.out.block j m)⟩
   clear f b
   go_wp2_with(first
    | refine ZiO _ rfl _ rfl (w.heap.size+1) Xy (0,0) rfl u.o Gs ?_
    | refine ZgV _ rfl _ _ rfl w.heap.size Jf Xy rfl rfl d.out ZcM Gs Zgz ?_)
   refine zax (v:=.agg Xy) ?_ rfl ⟨rfl,p.o⟩;have h:=y.o;rw[ZnW Tryz.results215];have e:(asAddr (.pointer (some ⟨w.heap.size,0,none⟩))).run prog (wr.setRow w.heap.size Xy)=.ok ⟨w.heap.size,0,none⟩ (wr.setRow w.heap.size Xy):=by simp[asAddr]
   simp only [Act.put,zad,zam,zal];show((asAddr (.pointer (some ⟨w.heap.size,0,none⟩))).run prog (wr.setRow w.heap.size Xy)).andThen _=_;rw[e];simp only [Result.andThen];rw[h]
theorem ZxM (s:Nat) (v:Value) (l:List UInt8) (w:World) (z:Rd w v l) (d:s<4294967296):
 Calls prog 187 #[.int .u32 (s:Int),v] w fun e w'=>e=.returned (.int .u32 (Q3 s l:Nat))∧Below w.heap.size w w':=by
 have Q:=ZZ z;obtain⟨ao,cap,rfl,U,H,I,a⟩:=z;clear I;have P:=ZZ a;clear a;have aa:(l.length:Int)<=9223372036854775807:=by unfold maxLen at H;omega
 have G:=ZZ (Zvs s d);have J:Hid (∀ k,Zbp (s ^^^ 4294967295) (l.take k)<4294967296):=fun k=>ZhM _ (ZuD d)
 have R:Hid (Q3 s l=Zbp (s ^^^ 4294967295) l ^^^ 4294967295):=rfl;have q:=ZZ (fun w=>ZvI w)
 have O:=(zgz Zhp).1;generalize s ^^^ 4294967295=g at *;clear d
 go_enter func187,ntmps187
 go_wp2_with fail
 refine(q.o _).mono ?_;rintro e V ⟨rfl,C⟩;have F:=ZZ C;clear C q
 go_wp2_with(refine ZiM _ rfl _ _ rfl rfl rfl ?_)
 intro S A p;have u:=ZZ (F.o.trans (A.mono F.o.size));have K:=ZZ p;clear A p O;go_wp2
 go_loop [6,14] (fun x i=>∃ k:Nat,k<=l.length∧i=.int .i64 k∧x=.int .u32 (Zbp g (l.take k):Nat)) (fun _ i=>l.length-(intOf i).toNat)
 case atStart=>
  refine⟨0,zap _,rfl,?_⟩;rw[G.o];rfl
 case round=>
  obtain⟨k,X,rfl,rfl⟩:=hrel;have M:=J.o k;by_cases j:k<l.length
  ·have N:=ZZ (ZpT l g k j)
   rcases P.o with a | ⟨b,Y,rfl,_⟩
   ·subst a;simp at j
   have T:=(Q.o.below u.o zL).at k j;have f:(l.getD k 0).toNat<256:=zg5 _;generalize Zbp g (l.take k)=y at *;generalize (l.getD k 0).toNat=c at *;have n:=Zzv y c f
   have W:bits .xor .u8 ((y:Int) % 256) (c:Int)=((y % 256 ^^^ c:Nat):Int):=by
    have e:(y:Int) % 256=((y % 256:Nat):Int):=by omega
    rw[e];exact ZAl _ _ (by omega) f
   have B:Hid (bits .xor .u32 ((Zdu (y % 256 ^^^ c):Nat):Int) ((y:Int) / 256)=((ZdQ y c:Nat):Int)):=by
    have e:(y:Int) / 256=((y / 256:Nat):Int):=by omega
    rw[e,ZpS _ _ (ZxH _ n) (by omega)]
    unfold ZdQ;rw[ZxG y c f];exact rfl
   have L:=K.o (y % 256 ^^^ c) n;generalize D:y % 256 ^^^ c=m at *;have HM:=ZZ D;clear D;have Z:(m:Int)<256:=by omega
   obtain⟨E,t⟩:∃ E:Int,E=((Zdu m:Nat):Int):=⟨_,rfl⟩;rw[<-t] at L B;clear t;go_wp2
   go_round
   case rel=>exact⟨k+1,by omega,by go_num,by rw[N.o,<-B.o]⟩
   case measure=>simp[intOf];omega
  ·go_wp2
   go_ret;refine⟨ZbV ?_,u.o⟩;rw[R.o,Zvs _ M,take_of_length_le (by omega)]
theorem Zmi (v:Value) (l:List UInt8) (w:World) (b:Rd w v l):
 Calls prog 136 #[v] w fun e w'=>e=.returned (.int .u32 (Q3 0 l:Nat))∧Below w.heap.size w w':=by
 have c:Hid (Calls prog 187 #[.int .u32 0,v] w fun e w'=>e=.returned (.int .u32 (Q3 0 l:Nat))∧Below w.heap.size w w'):=ZxM 0 v l w b (by decide)
 generalize Q3 0 l=m at *;clear b
 go_enter func136,ntmps136
 go_wp2_with fail
 refine c.o.mono ?_;rintro e w' ⟨rfl,a⟩;have d:=ZZ a;clear a c;go_wp2;go_ret;exact⟨rfl,d.o⟩
def ZgW (v:Value) (l:List UInt8) (xs:List Value) (L:List (List UInt8)):Prop:=
 xs.length=L.length∧∀ j,j<L.length->∃ x,xs[j]?=some x∧x.oneCell'=true∧∀ W,Rd W v l->Rd W x (L.getD j [])
theorem ZgW.nil (v:Value) (l:List UInt8):ZgW v l [] []:=⟨rfl,fun j a=>absurd a (by simp)⟩
theorem ZgW.snoc (h:ZgW v l xs L) {x:Value} {d:List UInt8} (i:x.oneCell'=true) (m:∀ W,Rd W v l->Rd W x d):ZgW v l (xs++[x]) (L++[d]):=by
 refine⟨by simp[h.1],fun j b=>?_⟩
 rw[length_append,length_singleton] at b;by_cases a:j<L.length
 ·obtain⟨y,k,c,f⟩:=h.2 j a
  refine⟨y,by rw[zbg (by rw[h.1];exact a)];exact k,c,?_⟩
  have e:(L++[d]).getD j []=L.getD j []:=by simp[List.getD,zbg a]
  rw[e];exact f
 ·have g:j=L.length:=by omega
  subst g;refine⟨x,by rw[zbs (by rw[h.1];omega),h.1];simp,i,?_⟩
  have e:(L++[d]).getD L.length []=d:=by simp[List.getD]
  rw[e];exact m
theorem ZgW.one (h:ZgW v l xs L):∀ u ∈ xs,u.oneCell'=true:=fun u c=>by
 obtain⟨j,a,rfl⟩:=zds c;obtain⟨x,b,d,-⟩:=h.2 j (by rw[<-h.1];exact a)
 rw[za4 a] at b;obtain rfl:=zaq b;exact d
theorem ZvJ:(prog.info? 53).map (fun i=>(i.zero,i.size,i.bytes))=some (some (.slice none 0 0),1,24):=by kernel_rfl
theorem ZiP (w:World) (ty:TypeId) (B:Nat) (v:Value) (n:Nat) (xs:List Value) (h:w.ownsRow B 53 1 v n xs) (a:Addr) (m cap:Nat) (b:List Value) (z:b.length=m) (e:∀ j u,b[j]?=some u->w.cell? (a.add j)=some u) (t:∀ u ∈ b,u.oneCell'=true) (A:n+m<=1000000) (c:B<=w.heap.size):
 ∃ v' w',(Builtin.append_ #[144,144] ty #[v,.slice (some a) m cap]).run prog w=.ok v' w'∧w'.ownsRow B 53 1 v' (n+m) (xs++b)∧Below B w w':=by
 obtain⟨q,y,g,f,x⟩:=zbx ZvJ
 obtain⟨v',w',i,p,d,_⟩:=zdn (P:=prog) w B 144 ty 53 q (.slice none 0 0) 1 24 underlying144 y g f x rfl (by decide) v n xs h
  a m cap b (by rw[z,zct]) e t (by unfold maxLen;omega) (by omega) c
 exact⟨v',w',i,p,(zac _ _).grown d c (fun k l=>(zaz h k l).1)⟩
theorem Zam (w:World) {c:Array Oper} {rest:List Oper} {o:Oper} {a:Act} {Q:Exit->Act->World->Prop} (l:o.guard=none) (s x:Operand)
 (q:o.op=.call { callee:=.builtin .append,args:=#[s,x],argTypes:=#[144,144] })
 (B:Nat) (v:Value) (n:Nat) (xs:List Value) (e:a.eval s=v) (y:w.ownsRow B 53 1 v n xs) (d:Addr) (m cap:Nat) (b:List Value) (C:a.eval x=.slice (some d) m cap) (A:b.length=m) (g:∀ j u,b[j]?=some u->w.cell? (d.add j)=some u) (t:∀ u ∈ b,u.oneCell'=true)
 (f:n+m<=1000000) (p:B<=w.heap.size)
 (h:∀ v' w',w'.ownsRow B 53 1 v' (n+m) (xs++b)->Below B w w'->wpList prog c Q rest (a.put o.dst v') w'):wpList prog c Q (o::rest) a w:=
 zb0 l fun _ i=>by
  obtain⟨v',w',k,D,z⟩:=ZiP w o.type B v n xs y d m cap b A g t f p;unfold Oper.wp execOp;simp only [q,resolve,invoke,builtin,zbt,zbv,zbe,zch,zei,zf7,e,C,k];exact i _ _ (h v' w' D z)
theorem ZxN (ao:Option Addr) (l:List UInt8) (cap:Nat) (g:l.length<=cap) (i j:Nat) (f:i<=j) (e:j<=l.length):
 ∃ b a c,(∀ W,(Instr.sliceAt 53 (.slice ao l.length cap) (some (.int .i64 (i:Int))) (some (.int .i64 (j:Int))) (some (.int .i64 (j:Int)))).run prog W=.ok (.slice b a c) W)∧∀ W,Rd W (.slice ao l.length cap) l->Rd W (.slice b a c) ((l.drop i).take (j-i)):=by
 have d:∃ b a c,sliced ao i j j 1=.slice b a c:=by
  unfold sliced;exact⟨_,_,_,rfl⟩
 obtain⟨b,a,c,d⟩:=d;refine⟨b,a,c,fun W=>?_,fun W h=>?_⟩
 ·rw[zcn W 53 _ _ _ _ Xu,run_slice_lhm W 53 ao l.length cap Xu .i64 .i64 .i64 (i:Int) (j:Int) (j:Int) (by omega) (by omega) (by omega) (by omega),Jt,Zcd]
  simp only [zbj];rw[<-d];rfl
 ·rw[<-d]
  exact h.mid i j j f e zL (by omega)
theorem ZiQ (w:World) (x:Obj):w.heap.size<=(w.alloc x).heap.size:=((zac w.heap.size w).alloc zL x).size
theorem ZnX (w:World) (v:Value):∀ j u,[v][j]?=some u->(w.alloc (.cells #[v] 53)).cell? ((⟨w.heap.size,0,none⟩:Addr).add j)=some u:=fun j u a=>by
 rw[zbn,za9,zas _ w.heap.size j _ 53 (0,0) (zak w _)];rw[<-zef] at a;exact a
def Zzz (w:World) (v:Value) (l:List UInt8) (L:List (List UInt8)) (e:Ending) (w':World):Prop:=
 ∃ v' xs,e=.returned v'∧w'.ownsRow w.heap.size 53 1 v' L.length xs∧ZgW v l xs L∧Below w.heap.size w w'
theorem ZkO (v:Value) (l:List UInt8) (w:World) (T:Rd w v l) (ab:l.length<=100000):
 Calls prog 102 #[v] w fun e w'=>Zzz w v l (Yd l) e w':=by
 obtain⟨ao,cap,rfl,R,S,-⟩:=T;have m:=ZZ (fun i j=>ZxN ao l cap R i j)
 have z:Hid (∀ A,A<l.length->Yd (l.drop A)=(l.drop A).take 64::Yd (l.drop (A+64))):=ZZ (fun A h=>Zpv h)
 have H:Hid (Yd l=[]++Yd (l.drop 0)):=ZZ (by simp)
 have t:Hid (∀ A,l.length<=A->Yd (l.drop A)=[]):=ZZ (fun A h=>by rw[zea h,Yp])
 have G:Hid (∀ A,l.length<=A+64->(l.drop A).take (l.length-A)=(l.drop A).take 64):=ZZ (fun A h=>by
  rw[take_of_length_le (by rw[zci];omega),take_of_length_le (by rw[zci];omega)])
 obtain⟨n,N⟩:=zg7 (Yd l);rw[<-N] at H ⊢;clear N S
 go_enter func102,ntmps102
 go_wp2
 go_loopw[3,4] (fun vo D wr=>∃ (A:Nat) (P:List (List UInt8)) (xs:List Value),D=.int .i64 (A:Int)∧P.length<=A∧A<=l.length+64∧Hid (wr.ownsRow w.heap.size 53 1 vo P.length xs)∧Hid (ZgW (.slice ao l.length cap) l xs P)∧Hid (n=P++Yd (l.drop A))∧Hid (Below w.heap.size w wr)) (fun _ D _=>l.length+64-(intOf D).toNat)
 case atStart=>exact⟨0,[],[],rfl,za0 _,by omega,ZZ (zck w w.heap.size 53 1),ZZ (ZgW.nil _ _),H,zac _ _⟩
 case round=>
  clear H;obtain⟨A,P,xs,rfl,ac,hA,J,E,B,d⟩:=hrel;by_cases Z:A<l.length
  case neg=>
   have ad:¬ (A:Int)<(l.length:Int):=by omega
   have X:Hid (n=P):=ZZ (by rw[B.out,t.o A (by omega),zc8])
   go_wp2;go_ret;rw[X.o];exact⟨_,xs,rfl,J.out,E.out,d.out⟩
  have ae:(A:Int)<(l.length:Int):=by omega
  have M:=ZZ (z.o A Z);by_cases h:A+64<=l.length
  ·obtain⟨a,c,b,hcut,f⟩:=m.o A (A+64) (by omega) h
   have Q:((A+64:Nat):Int)=(A:Int)+64:=by omega
   have O:A+64-A=64:=by omega
   rw[Q] at hcut;rw[O] at f;have p:=ZZ f;have Y:(A:Int)+64<=(l.length:Int):=by omega
   have W:min ((A:Int)+64) (l.length:Int)=(A:Int)+64:=by omega
   have aa:¬ (l.length:Int)<(A:Int)+64:=by omega
   have q:Hid (w.heap.size<=(wr.alloc (.cells #[.slice a c b] 53)).heap.size):=ZZ (zau d.out.size (ZiQ wr _));have L:Hid ((wr.alloc (.cells #[.slice a c b] 53)).ownsRow w.heap.size 53 1 _ P.length xs):=ZZ (zb3 J.out _);have F:=ZZ (ZnX wr (.slice a c b));have y:Hid (∀ u ∈ [Value.slice a c b],u.oneCell'=true):=ZZ (fun u x=>by rw[zaw.1 x];rfl)
   have K:P.length+1<=1000000:=by omega
   clear f Q O z m t G h
   go_wp2_with(at_builtin;refine Zam _ rfl _ _ rfl w.heap.size _ P.length xs rfl L.o ⟨wr.heap.size,0,none⟩ 1 1 [.slice a c b] rfl rfl F.o y.o K q.o ?_)
   intro V U k g;have C:=ZZ k;have I:=ZZ ((d.out.alloc d.out.size _).trans g);clear k g;go_wp2;go_roundw
   case rel=>exact⟨A+64,P++[(l.drop A).take 64],xs++[.slice a c b],by go_num,by simp;omega,by omega,ZZ (by rw[length_append,length_singleton];exact C.o),ZZ (E.out.snoc rfl p.o),ZZ (by rw[B.out,M.o,append_assoc];rfl),I⟩
   case measure=>simp[intOf];omega
  ·obtain⟨a,c,b,hcut,f⟩:=m.o A l.length (by omega) zL
   rw[G.o A (by omega)] at f
   have p:=ZZ f;have Y:(l.length:Int)<(A:Int)+64:=by omega
   have W:min ((A:Int)+64) (l.length:Int)=(l.length:Int):=by omega
   have aa:¬ (A:Int)+64<=(l.length:Int):=by omega
   have q:Hid (w.heap.size<=(wr.alloc (.cells #[.slice a c b] 53)).heap.size):=ZZ (zau d.out.size (ZiQ wr _));have L:Hid ((wr.alloc (.cells #[.slice a c b] 53)).ownsRow w.heap.size 53 1 _ P.length xs):=ZZ (zb3 J.out _);have F:=ZZ (ZnX wr (.slice a c b));have y:Hid (∀ u ∈ [Value.slice a c b],u.oneCell'=true):=ZZ (fun u x=>by rw[zaw.1 x];rfl)
   have K:P.length+1<=1000000:=by omega
   clear f z m t G h
   go_wp2_with(at_builtin;refine Zam _ rfl _ _ rfl w.heap.size _ P.length xs rfl L.o ⟨wr.heap.size,0,none⟩ 1 1 [.slice a c b] rfl rfl F.o y.o K q.o ?_)
   intro V U k g;have C:=ZZ k;have I:=ZZ ((d.out.alloc d.out.size _).trans g);clear k g;go_wp2;go_roundw
   case rel=>exact⟨A+64,P++[(l.drop A).take 64],xs++[.slice a c b],by go_num,by simp;omega,by omega,ZZ (by rw[length_append,length_singleton];exact C.o),ZZ (E.out.snoc rfl p.o),ZZ (by rw[B.out,M.o,append_assoc];rfl),I⟩
   case measure=>simp[intOf];omega
theorem Zkb (i:Int) (v:Value) (l:List UInt8) (w:World) (f:Rd w v l):
 Calls prog 100 #[.int .i64 i,v] w fun e w'=>e=.returned (.agg #[.int .i64 i,.int .i64 (l.length:Int),.int .u32 ((Q3 0 l:Nat):Int)])∧Below w.heap.size w w':=by
 have c:Hid (∀ X,Below w.heap.size w (w.alloc X)):=fun X=>(zac _ _).alloc zL X
 have j:=ZZ (fun W (h:Below w.heap.size w W)=>Zmi v l W (f.below h zL))
 obtain⟨ao,cap,rfl,-⟩:=f;generalize Q3 0 l=m at *;obtain⟨M,g⟩:∃ M:Int,M=(m:Int):=⟨_,rfl⟩;rw[<-g] at j ⊢;clear g;have p:Hid (∀ cs,(w.alloc (.cells cs 147)).heap[w.heap.size]?=some (.cells cs 147 (0,0))):=fun cs=>zak w _
 go_enter func100,ntmps100
 go_wp2_with fail
 refine(j.o _ (c.o _)).mono ?_;rintro x b ⟨rfl,d⟩;have q:=ZZ ((c.o _).trans (d.mono (c.o _).size));have a:=(d.block w.heap.size (by simp)).trans (p.o _)
 have t:=zas b w.heap.size 0 _ _ _ a;have k:=zas b w.heap.size 1 _ _ _ a;have n:=zas b w.heap.size 2 _ _ _ a;have y:=zbc b w.heap.size 0 _ _ a;have u:=zbc b w.heap.size 1 _ _ a;have z:=zbc b w.heap.size 2 _ _ a;clear d a;go_wp2;refine zax (v:=.agg #[.int .i64 i,.int .i64 (l.length:Int),.int .u32 M]) (by simp[results,Tryz.results100,go_sem,t,k,n]) rfl ?_
 exact⟨rfl,((q.o.setCell zL _).setCell zL _).setCell zL _⟩
theorem ZnY:∀ (A B:List Int),Zv (A++B)=Zv A++Zv B
 | [],_=>rfl
 | x::r,B=>by rw[zcq,Zv,ZnY r B,Zv,append_assoc]
theorem ZgA:∀ (L:List Int),(∀ x ∈ L,I64 x)->(Zv L).length<=10*L.length
 | [],_=>by simp[Zv]
 | x::r,h=>by
  have b:=ZgA r (fun y a=>h y (by simp[a]))
  have c:=ZwQ (h x (by simp))
  rw[Zv,length_append,zcb];omega
theorem Zta (L:List Int) (k:Nat) (a:k<L.length):Zv (L.take (k+1))=Zv (L.take k)++Lib.uvarint (Lib.zigzag (L.getD k 0)):=by
 have e:L.take (k+1)=L.take k++[L.getD k 0]:=by
  rw[take_add_one];simp[List.getD,a]
 rw[e,ZnY];simp[Zv]
def ZvK (s:St):List UInt8:=(Lib.uvarint s.kind.toNat++Lib.uvarint (Dg s))++Lib.uvarint s.L.length
theorem ZvL (s:St):ZeA s=ZvK s++Zv s.L:=by
 unfold ZeA ZvK;simp[append_assoc]
theorem ZxO (a:Bool) (g:Int) (h:0<=g):(if a=true then g+1 else 0)=((Dg ⟨0,[],a,g⟩:Nat):Int):=by
 unfold Dg
 cases a
 ·rfl
 ·simp
  omega
theorem ZnZ (k:Int) (l:List Int) (a:Bool) (g:Int):Dg ⟨k,l,a,g⟩=Dg ⟨0,[],a,g⟩:=rfl
def ZAV (w:World) (s:St) (e:Ending) (w':World):Prop:=
 ∃ v',e=.returned (.tuple #[v',.int .i64 (if Ym s then 0 else 1)])∧Rd w' v' (if Ym s then ZeA s else[])∧Below w.heap.size w w'
theorem Zkc (kind:Int) (ao:Option Addr) (n cap:Nat) (a:Bool) (g:Int) (w:World) (d:0<=g) (f:g<=2):
 Calls prog 190 #[.agg #[.int .i64 kind,.slice ao n cap,.bool a,.int .i64 g]] w fun e w'=>e=.returned (.int .i64 ((Dg ⟨0,[],a,g⟩:Nat):Int))∧Below w.heap.size w w':=by
 have b:Hid (∀ X,Below w.heap.size w (w.alloc X)):=fun X=>(zac _ _).alloc zL X
 have c:=ZZ (ZxO a g d);generalize Dg ⟨0,[],a,g⟩=m at *
 cases a
 ·go_enter func190,ntmps190
  go_wp2;go_ret;refine⟨?_,b.o _⟩;rw[<-c.o];rfl
 ·go_enter func190,ntmps190
  go_wp2;go_ret;refine⟨?_,b.o _⟩;rw[<-c.o];rfl
theorem ZiR (v:Value) (s:St) (w:World) (hs:StV w v s) (ba:s.L.length<=1000):
 Calls prog 141 #[v] w fun e w'=>ZAV w s e w':=by
 obtain⟨vl,rfl,Q,al,ac⟩:=hs;obtain⟨kind,l,a,g⟩:=s;simp only at Q al ac ba ⊢;have an:Hid (∀ W,Below w.heap.size w W->Calls prog 82 #[.agg #[.int .i64 kind,vl,.bool a,.int .i64 g]] W fun e w'=>e=.returned (.bool (decide (Ym ⟨kind,l,a,g⟩)))∧Below W.heap.size W w'):=fun W h=>ZlW _ ⟨kind,l,a,g⟩ W ⟨vl,rfl,Q.below h zL,al,ac⟩
 have d:Hid (∀ X,Below w.heap.size w (w.alloc X)):=fun X=>(zac _ _).alloc zL X
 have bf:=ZZ Q;obtain⟨ao,cap,rfl,-,-,-,hi,ax⟩:=Q;have aY:=ZZ ax;clear ax al ac;unfold ZAV;by_cases b:Ym ⟨kind,l,a,g⟩
 ·simp only [zab b]
  have HT:=ZZ (zan b);have a8:0<=kind:=b.2.2.2.1;have bd:kind<6:=b.2.2.2.2.1;have a7:0<=g:=b.1;have aX:g<=2:=b.2.1;have aU:=ZlA b;rw[ZnZ] at aU;have HI:=ZZ hi;have u1:=Gm (n:=kind.toNat) (by omega)
  have u2:=Gm (n:=Dg ⟨0,[],a,g⟩) (by omega)
  have u3:=Gm (n:=l.length) (by omega)
  have K:Hid (∀ (n:Int),0<=n->n<4611686018427387904->∀ W,Calls prog 132 #[.slice none 0 0,.int .i64 n] W fun e w'=>∃ v',e=.returned v'∧Own w' W.heap.size v' (Lib.uvarint n.toNat)∧Below W.heap.size W w'):=fun n F Y W=>by
   have h:=ZbD (.slice none 0 0) [] n W (Rd.nil W) (by simp)
   rw[J4 F Y,nil_append] at h;exact h
  have aR:=ZZ (K.o kind a8 (by omega))
  have ae:=ZZ (K.o ((Dg ⟨0,[],a,g⟩:Nat):Int) (by omega) (by omega))
  have ap:=ZZ (K.o (l.length:Int) (by omega) (by omega))
  rw[zbj] at ae ap;have Z:=ZZ (fun W=>Zkc kind ao l.length cap a g W a7 aX)
  have a6:Hid (∀ x,I64 x->∀ W,Calls prog 142 #[.slice none 0 0,.int .i64 x] W fun e w'=>∃ v',e=.returned v'∧Own w' W.heap.size v' (Lib.uvarint (Lib.zigzag x))∧Below W.heap.size W w'):=fun x M W=>by
   have h:=Gp (.slice none 0 0) [] x W (Rd.nil W) (by simp) M.1 M.2
   rw[nil_append] at h;exact h
  have aB:Hid (ZeA ⟨kind,l,a,g⟩=(Lib.uvarint kind.toNat++(Lib.uvarint (Dg ⟨0,[],a,g⟩)++Lib.uvarint l.length))++Zv l):=by
   refine ZZ ?_;rw[ZvL];unfold ZvK;rw[ZnZ];simp only [append_assoc]
  have aV:Hid (∀ k,(Zv (l.take k)).length<=10*1000):=fun k=>by
   have Y:=ZgA (l.take k) (fun x M=>hi x (zbz M))
   have h2:(l.take k).length<=l.length:=by simp;omega
   omega
  have aO:Hid (∀ W N U R I,N=W.heap.size->Rd W U (Lib.uvarint kind.toNat)->Rd W R (Lib.uvarint (Dg ⟨0,[],a,g⟩))->Rd W I (Lib.uvarint l.length)->Calls prog 131 #[.slice (some ⟨N,0,none⟩) 3 3] (W.alloc (.cells #[U,R,I] 53)) fun e w'=>∃ v',e=.returned v'∧Own w' W.heap.size v' (Lib.uvarint kind.toNat++(Lib.uvarint (Dg ⟨0,[],a,g⟩)++Lib.uvarint l.length))∧Below W.heap.size W w'):=fun W N U R I hN F Y h2=>ZvE W N hN U R I _ _ _ F Y h2 (by omega)
  rw[aB.o]
  have bc:(Lib.uvarint kind.toNat++(Lib.uvarint (Dg ⟨0,[],a,g⟩)++Lib.uvarint l.length)).length<=30:=by
   simp only [length_append];omega
  clear b hi aB K u1 u2 u3;generalize Dg ⟨0,[],a,g⟩=m at *;generalize Lib.uvarint kind.toNat=A at *;generalize Lib.uvarint m=B at *;generalize Lib.uvarint l.length=C at *;generalize A++(B++C)=H at *
  go_enter func141,ntmps141
  go_wp2_with fail
  refine(an.o _ (d.o _)).mono ?_;rintro e W1 ⟨rfl,p⟩;rw[HT.o];have q:Bx W1 w.heap.size _:=(p.block w.heap.size (by simp)).trans (zak w _)
  have aF:=ZZ q;have J:=ZZ ((d.o _).trans (p.mono (d.o _).size));obtain⟨p0,-⟩:=q.cell 0;obtain⟨p1,-⟩:=q.cell 1;obtain⟨p2,-⟩:=q.cell 2;obtain⟨p3,-⟩:=q.cell 3;clear p q;go_wp2
  go_region_held(fun w'=>w'.cell? ⟨w.heap.size,0,none⟩=some (.int .i64 kind)∧w'.cell? ⟨w.heap.size,1,none⟩=some (.slice ao l.length cap)∧w'.cell? ⟨w.heap.size,2,none⟩=some (.bool a)∧w'.cell? ⟨w.heap.size,3,none⟩=some (.int .i64 g)) (go_keep)
   (first
    | (go_at_call_of 132 (Value.int .i64 kind);refine(aR.o _).mono ?_;rintro e W2 ⟨I,rfl,af,am⟩;have f:=aF.o.below (((zac _ _).drew).trans am) zL;have aI:=ZZ f;have aq:=ZZ (J.o.trans ((((zac _ _).drew).trans am).mono J.o.size));obtain⟨a2,c2,rfl,-⟩:=af.rd;have aD:=ZZ af.rd;obtain⟨q0,-⟩:=f.cell 0;obtain⟨q1,-⟩:=f.cell 1;obtain⟨q2,-⟩:=f.cell 2;obtain⟨q3,-⟩:=f.cell 3;clear af am f)
    | (go_at_call 190;refine(Z.o _).mono ?_;rintro e W3 ⟨rfl,T⟩;have z:=aI.o.below T zL;have aL:=ZZ z;have ai:=ZZ (aq.o.trans (T.mono aq.o.size));have aK:=ZZ (aD.o.below T zL);obtain⟨r0,-⟩:=z.cell 0;obtain⟨r1,-⟩:=z.cell 1;obtain⟨r2,-⟩:=z.cell 2;obtain⟨r3,-⟩:=z.cell 3;clear T z)
    | (go_at_call_of 132 (Value.int .i64 (m:Int));refine(ae.o _).mono ?_;rintro e W4 ⟨v4,rfl,ag,V⟩;have j:=aL.o.below V zL;have aQ:=ZZ j;have ar:=ZZ (ai.o.trans (V.mono ai.o.size));have aP:=ZZ (aK.o.below V zL);obtain⟨a4,c4,rfl,-⟩:=ag.rd;have au:=ZZ ag.rd;obtain⟨s0,-⟩:=j.cell 0;obtain⟨s1,-⟩:=j.cell 1;obtain⟨s2,-⟩:=j.cell 2;obtain⟨s3,-⟩:=j.cell 3;clear ag V j)
    | (go_at_call_of 132 (Value.int .i64 (l.length:Int));refine(ap.o _).mono ?_;rintro e W5 ⟨v5,rfl,aa,G⟩;have u:=aQ.o.below G zL;have ay:=ZZ u;have O:=ZZ (ar.o.trans (G.mono ar.o.size));have aC:=ZZ (aP.o.below G zL);have az:=ZZ (au.o.below G zL);obtain⟨a5,c5,rfl,-⟩:=aa.rd;have av:=ZZ aa.rd;obtain⟨t0,-⟩:=u.cell 0;obtain⟨t1,-⟩:=u.cell 1;obtain⟨t2,-⟩:=u.cell 2;obtain⟨t3,-⟩:=u.cell 3;clear aa G u)
    | (go_at_call 131;refine(aO.o W5 W5.heap.size _ _ _ rfl aC.o az.o av.o).mono ?_;rintro e W6 ⟨v6,rfl,aN,aj⟩;have t:=ay.o.below aj zL;have bb:=ZZ t;have aE:=ZZ (aN.mono O.o.size);have aw:=ZZ (O.o.trans (aj.mono O.o.size));obtain⟨y0,-⟩:=t.cell 0;obtain⟨y1,-⟩:=t.cell 1;obtain⟨y2,-⟩:=t.cell 2;obtain⟨y3,-⟩:=t.cell 3;clear aN aj t))
  clear p0 p1 p2 p3 q0 q1 q2 q3 r0 r1 r2 r3 s0 s1 s2 s3 t0 t1 t2 t3 aF aI aL aQ ay J aq ai ar O aD aK aP aC au az av aR ae ap Z aO an;go_wp2
  go_loopw[4,25] (fun vo i wr=>∃ k:Nat,i=.int .i64 k∧k<=l.length∧Hid (Own wr w.heap.size vo (H++Zv (l.take k)))∧Hid (Below w.heap.size w wr)) (fun _ i _=>l.length-(intOf i).toNat)
  case atStart=>exact⟨0,rfl,zap _,by simpa[Zv] using aE,aw⟩
  case round=>
   clear y0 y1 y2 y3 bb aE aw;obtain⟨k,rfl,hk,ab,S⟩:=hrel;by_cases E:k<l.length
   ·rcases aY.o with F | ⟨c,aM,rfl,hc⟩
    ·rw[F] at E;simp at E
    have be:wr.cell? ⟨c,aM+k,none⟩=some (.int .i64 (l.getD k 0)):=(S.out.cell (za1 w ⟨c,aM+k,none⟩ (hc k E))).trans (hc k E);have aJ:Hid (I64 (l.getD k 0)):=ZwS HI.o k;have a0:=ZZ (a6.o (l.getD k 0) aJ.o)
    have a3:Hid ((H++Zv (l.take k)).length+(Lib.uvarint (Lib.zigzag (l.getD k 0))).length<=70368744177664):=by
     refine ZZ ?_;have:=aV.o k;have:=ZwQ aJ.o;rw[length_append];omega
    have Z:Hid ((H++Zv (l.take k))++Lib.uvarint (Lib.zigzag (l.getD k 0))=H++Zv (l.take (k+1))):=by
     refine ZZ ?_;rw[Zta l k E,append_assoc]
    clear hc;generalize l.getD k 0=y at *;generalize H++Zv (l.take k)=P at *;generalize Lib.uvarint (Lib.zigzag y)=D at *
    go_wp2_with fail
    refine(a0.o _).mono ?_;rintro e W7 ⟨v7,rfl,aH,ak⟩;have a1:=ZZ aH.rd;have aT:=ZZ (ab.out.below ak zL);have aA:=ZZ (S.out.trans (ak.mono S.out.size));have aW:=ZZ aA.o.size;clear aH ak
    go_wp2_with(at_builtin;refine Xx _ rfl _ _ rfl w.heap.size _ P rfl aT.o _ D rfl a1.o a3.o aW.o ?_)
    intro v8 W8 ad aS;rw[Z.o] at ad;have aZ:=ZZ ad;have a9:=ZZ (aA.o.trans aS);clear ad aS;go_wp2;go_roundw
    case rel=>exact⟨k+1,by go_num,by omega,aZ,a9⟩
    case measure=>simp[intOf];omega
   ·have aG:l.take k=l:=take_of_length_le (by omega)
    rw[aG] at ab;clear aG;go_wp2;go_ret2;exact⟨_,rfl,ab.out.rd,S.out⟩
 ·simp only [zaa b]
  have HT:=ZZ (zai b);clear b
  go_enter func141,ntmps141
  go_wp2_with fail
  refine(an.o _ (d.o _)).mono ?_;rintro e W1 ⟨rfl,p⟩;rw[HT.o];have J:=ZZ ((d.o _).trans (p.mono (d.o _).size));clear p;go_wp2;go_ret2;exact⟨_,rfl,Rd.nil _,J.o⟩
def ZzA (i n m:Nat):List UInt8:=115::(Lib.uvarint 3++(Lib.uvarint i++(Lib.uvarint n++Lib.leBytes 4 m)))
theorem ZxP (i:Nat) (l:List UInt8):ZzA i l.length (Q3 0 l)=Zbl i l:=rfl
theorem ZvM (W:World) (N:Nat) (a:N=W.heap.size):Rd (W.alloc (.cells #[.int .u8 115] 5)) (.slice (some ⟨N,0,none⟩) 1 1) [115]:=by
 subst a;refine⟨some ⟨W.heap.size,0,none⟩,1,rfl,za0 _,by unfold maxLen;omega,(fun h=>by cases h),.inr ⟨W.heap.size,0,rfl,fun j b=>?_⟩⟩
 have e:j=0:=by simpa using b
 subst e;rw[zas _ W.heap.size _ _ 5 (0,0) (zak W _)];rfl
theorem ZAu (W:World) (N:Nat) (a:N=W.heap.size):Rd (W.alloc (.cells #[.int .u8 115] 5)).drew (.slice (some ⟨N,0,none⟩) 1 1) [115]:=
 (ZvM W N a).below (((zac _ _)).drew) zL
theorem ZzB (W:World) (N:Nat) (x:N=W.heap.size) (i g l k m:Value) (f b c d a:List UInt8) (z:Rd W i f) (u:Rd W g b) (A:Rd W l c) (v:Rd W k d) (q:Rd W m a) (B:f.length+b.length+c.length+d.length+a.length<=1000000):
 Calls prog 131 #[.slice (some ⟨N,0,none⟩) 5 5] (W.alloc (.cells #[i,g,l,k,m] 53)) fun e w'=>∃ v',e=.returned v'∧Own w' W.heap.size v' (f++(b++(c++(d++a))))∧Below W.heap.size W w':=by
 have t:=RdL.built W N x #[i,g,l,k,m] [f,b,c,d,a] (by simp) (fun j p=>by
  match j,p with
  | 0,_=>exact⟨i,rfl,z⟩
  | 1,_=>exact⟨g,rfl,u⟩
  | 2,_=>exact⟨l,rfl,A⟩
  | 3,_=>exact⟨k,rfl,v⟩
  | 4,_=>exact⟨m,rfl,q⟩)
 refine(Zdo _ _ _ t (by simp;omega) (by simp)).mono ?_
 rintro e w' ⟨v',rfl,n,w⟩;have y:[f,b,c,d,a].flatten=f++(b++(c++(d++a))):=by simp
 rw[y] at n;exact⟨v',rfl,n.mono (by simp),((zac _ _).alloc zL _).trans (w.mono (by simp))⟩
def Bm (w:World) (b:Nat) (x y z:Value):Prop:=w.heap[b]?=some (.cells #[x,y,z] 147 (0,0))
theorem Bm.lt (h:Bm w b x y z):b<w.heap.size:=(zar.1 h).1
theorem Bm.below (h:Bm w b x y z) (a:Below B w w') (c:w.heap.size<=B):Bm w' b x y z:=(a.block b (by have:=h.lt;omega)).trans h
theorem Bm.cells (h:Bm w b x y z):w.cell? ⟨b,0,none⟩=some x∧w.cell? ⟨b,1,none⟩=some y∧w.cell? ⟨b,2,none⟩=some z:=
 ⟨zas w b 0 _ _ _ h,zas w b 1 _ _ _ h,zas w b 2 _ _ _ h⟩
theorem ZxQ (i n:Int) (m:Nat) (w:World) (hi:0<=i∧i<4611686018427387904) (hn:0<=n∧n<4611686018427387904) (hm:m<4294967296):
 Calls prog 101 #[.agg #[.int .i64 i,.int .i64 n,.int .u32 (m:Int)]] w fun e w'=>∃ v',e=.returned v'∧Own w' w.heap.size v' (ZzA i.toNat n.toNat m)∧Below w.heap.size w w':=by
 have aa:Hid (∀ k W,0<=k->k<4611686018427387904->Calls prog 132 #[.slice none 0 0,.int .i64 k] W fun e w'=>∃ v',e=.returned v'∧Own w' W.heap.size v' (Lib.uvarint k.toNat)∧Below W.heap.size W w'):=ZZ (fun k W h0 h1=>by
  have h:=ZbD (.slice none 0 0) [] k W (Rd.nil W) (by simp)
  rw[J4 h0 h1,nil_append] at h
  exact h)
 have ao:=ZZ (fun W=>aa.o 3 W (by omega) (by omega))
 have ad:=ZZ (fun W=>aa.o i W hi.1 hi.2)
 have ai:=ZZ (fun W=>aa.o n W hn.1 hn.2)
 have T:=ZZ (fun W=>Zik m W hm)
 have q1:(Lib.uvarint (3:Int).toNat).length<=10:=Gm (by decide)
 have q2:(Lib.uvarint i.toNat).length<=10:=Gm (by omega)
 have q3:(Lib.uvarint n.toNat).length<=10:=Gm (by omega)
 have q4:(Lib.leBytes 4 m).length<=10:=by rw[zcz];decide
 have HE:Hid (ZzA i.toNat n.toNat m=[115]++(Lib.uvarint (3:Int).toNat++(Lib.uvarint i.toNat++(Lib.uvarint n.toNat++Lib.leBytes 4 m)))):=ZZ rfl;rw[HE.o];have an:=ZZ (fun W N v0 v1 v2 v3 Y hN h0 h1 h2 h3 h4=>ZzB W N hN v0 v1 v2 v3 Y [115] (Lib.uvarint (3:Int).toNat) (Lib.uvarint i.toNat) (Lib.uvarint n.toNat) (Lib.leBytes 4 m) h0 h1 h2 h3 h4 (by simp only [length_singleton];omega))
 generalize Lib.uvarint (3:Int).toNat=L1 at *;generalize Lib.uvarint i.toNat=L2 at *;generalize Lib.uvarint n.toNat=L3 at *;generalize Lib.leBytes 4 m=L4 at *;generalize [115]++(L1++(L2++(L3++L4)))=LL at *;obtain⟨M,hM⟩:∃ M:Int,M=(m:Int):=⟨_,rfl⟩;rw[<-hM] at T ⊢;clear hM HE aa q1 q2 q3 q4 hi hn hm;obtain⟨a,Z⟩:=zg7 (w.alloc (.cells #[.int .i64 i,.int .i64 n,.int .u32 M] 147));have Q:Hid (Below w.heap.size w a):=ZZ (by rw[Z];exact(zac _ _).alloc zL _)
 have aq:Hid (Bm a w.heap.size (.int .i64 i) (.int .i64 n) (.int .u32 M)):=ZZ (by rw[Z];exact zak w _)
 have l:Hid (∀ W,Below a.heap.size a W->W.cell? ⟨w.heap.size,0,none⟩=some (.int .i64 i)∧W.cell? ⟨w.heap.size,1,none⟩=some (.int .i64 n)∧W.cell? ⟨w.heap.size,2,none⟩=some (.int .u32 M)):=ZZ (fun W h=>(aq.o.below h zL).cells)
 have z:Hid (∀ W X,Below a.heap.size a W->Below a.heap.size a (W.alloc X)):=ZZ (fun W X h=>h.alloc h.size X)
 have au:Hid (∀ W,Below a.heap.size a W->Below a.heap.size a W.drew):=ZZ (fun W h=>h.drew)
 have af:Hid (Below a.heap.size a a.drew):=ZZ ((zac _ _).drew);have ac:Hid (Below a.heap.size a (a.alloc (.cells #[.int .u8 115] 5)).drew):=ZZ (((zac _ _).alloc zL _).drew)
 go_enter func101,ntmps101
 go_upto_region 1 with fail
 rw[<-Z];clear Z;have E:Hid (∀ args w,(callFunc 132 args).run prog w=.ok (.enter 132 args) w):=ZZ (enters_of func132 (by kernel_rfl) rfl)
 have ae:Hid (∀ args w,(callFunc 135 args).run prog w=.ok (.enter 135 args) w):=ZZ (enters_of func135 (by kernel_rfl) rfl)
 have ak:Hid (∀ args w,(callFunc 131 args).run prog w=.ok (.enter 131 args) w):=ZZ (enters_of func131 (by kernel_rfl) rfl)
 go_region_held2(fun w'=>w'.cell? ⟨w.heap.size,0,none⟩=some (.int .i64 i)∧w'.cell? ⟨w.heap.size,1,none⟩=some (.int .i64 n)∧w'.cell? ⟨w.heap.size,2,none⟩=some (.int .u32 M))
  (first | (with_reducible exact l.o _ af.o) | (with_reducible exact l.o _ ac.o) | (with_reducible exact l.o _ ag) | (with_reducible exact l.o _ v) | (with_reducible exact l.o _ x) | (with_reducible exact l.o _ y) | (with_reducible exact l.o _ A) | (with_reducible exact l.o _ (z.o _ _ v)) | (with_reducible exact l.o _ (z.o _ _ x)) | (with_reducible exact l.o _ (z.o _ _ y)) | (with_reducible exact l.o _ (z.o _ _ A)) | (with_reducible exact l.o _ (z.o _ _ (z.o _ _ v))))
  (first
   | ((with_reducible refine Y8 132 _ _ rfl rfl #[.slice none 0 0,.int .i64 3] (by simp[Act.eval]) E.o (ao.o a.drew) ?_);rintro v1 j ⟨F,G⟩;have A:Below a.heap.size a j:=af.o.trans (G.mono af.o.size);obtain⟨a1,c1,c,-⟩:=F.rd;subst c;have S:=ZZ F.rd;clear F G)
   | ((with_reducible refine Y8 132 _ _ rfl rfl #[.slice none 0 0,.int .i64 3] (by simp[Act.eval]) E.o (ao.o (a.alloc (.cells #[.int .u8 115] 5)).drew) ?_);rintro v1 j ⟨F,G⟩;have A:Below a.heap.size a j:=ac.o.trans (G.mono ac.o.size);have ar:=ZZ ((ZAu a _ rfl).below G zL);obtain⟨a1,c1,c,-⟩:=F.rd;subst c;have S:=ZZ F.rd;clear F G)
   | (have q:=ar.o;(with_reducible refine Y8 132 _ _ rfl rfl #[.slice none 0 0,.int .i64 i] (by simp[Act.eval]) E.o (ad.o j) ?_);rintro v2 f ⟨t,D⟩;have b:Below j.heap.size j f:=D;have y:Below a.heap.size a f:=A.trans (b.mono A.size);have am:=ZZ (q.below b zL);clear q;have H:=ZZ (S.o.below b zL);clear b;obtain⟨a2,c2,c,-⟩:=t.rd;subst c;have K:=ZZ t.rd;clear t D)
   | ((with_reducible refine Y8 132 _ _ rfl rfl #[.slice none 0 0,.int .i64 i] (by simp[Act.eval]) E.o (ad.o j) ?_);rintro v2 f ⟨t,D⟩;have b:Below j.heap.size j f:=D;have y:Below a.heap.size a f:=A.trans (b.mono A.size);have H:=ZZ (S.o.below b zL);clear b;obtain⟨a2,c2,c,-⟩:=t.rd;subst c;have K:=ZZ t.rd;clear t D)
   | ((with_reducible refine Y8 132 _ _ rfl rfl #[.slice none 0 0,.int .i64 i] (by simp[Act.eval]) E.o (ad.o (j.alloc (.cells #[.int .u8 115] 5))) ?_);rintro v2 f ⟨t,D⟩;have b:Below j.heap.size j f:=((zac _ _).alloc zL _).trans (D.mono (by simp));have y:Below a.heap.size a f:=A.trans (b.mono A.size);have am:=ZZ ((ZvM j _ rfl).below D zL);have H:=ZZ (S.o.below b zL);clear b;obtain⟨a2,c2,c,-⟩:=t.rd;subst c;have K:=ZZ t.rd;clear t D)
   | (have q:=am.o;(with_reducible refine Y8 132 _ _ rfl rfl #[.slice none 0 0,.int .i64 n] (by simp[Act.eval]) E.o (ai.o f) ?_);rintro v3 d ⟨p,B⟩;have b:Below f.heap.size f d:=B;have x:Below a.heap.size a d:=y.trans (b.mono y.size);have ap:=ZZ (q.below b zL);clear q;have J:=ZZ (H.o.below b zL);have P:=ZZ (K.o.below b zL);clear b;obtain⟨a3,c3,c,-⟩:=p.rd;subst c;have O:=ZZ p.rd;clear p B)
   | ((with_reducible refine Y8 132 _ _ rfl rfl #[.slice none 0 0,.int .i64 n] (by simp[Act.eval]) E.o (ai.o f) ?_);rintro v3 d ⟨p,B⟩;have b:Below f.heap.size f d:=B;have x:Below a.heap.size a d:=y.trans (b.mono y.size);have J:=ZZ (H.o.below b zL);have P:=ZZ (K.o.below b zL);clear b;obtain⟨a3,c3,c,-⟩:=p.rd;subst c;have O:=ZZ p.rd;clear p B)
   | ((with_reducible refine Y8 132 _ _ rfl rfl #[.slice none 0 0,.int .i64 n] (by simp[Act.eval]) E.o (ai.o (f.alloc (.cells #[.int .u8 115] 5))) ?_);rintro v3 d ⟨p,B⟩;have b:Below f.heap.size f d:=((zac _ _).alloc zL _).trans (B.mono (by simp));have x:Below a.heap.size a d:=y.trans (b.mono y.size);have ap:=ZZ ((ZvM f _ rfl).below B zL);have J:=ZZ (H.o.below b zL);have P:=ZZ (K.o.below b zL);clear b;obtain⟨a3,c3,c,-⟩:=p.rd;subst c;have O:=ZZ p.rd;clear p B)
   | (have q:=ap.o;(with_reducible refine Y8 135 _ _ rfl rfl #[.int .u32 M] (by simp[Act.eval]) ae.o (T.o d) ?_);rintro Y g ⟨u,C⟩;have b:Below d.heap.size d g:=C;have v:Below a.heap.size a g:=x.trans (b.mono x.size);have al:=ZZ (q.below b zL);clear q;have U:=ZZ (J.o.below b zL);have V:=ZZ (P.o.below b zL);have ab:=ZZ (O.o.below b zL);clear b;obtain⟨a4,c4,c,-⟩:=u.rd;subst c;have R:=ZZ u.rd;clear u C)
   | ((with_reducible refine Y8 135 _ _ rfl rfl #[.int .u32 M] (by simp[Act.eval]) ae.o (T.o d) ?_);rintro Y g ⟨u,C⟩;have b:Below d.heap.size d g:=C;have v:Below a.heap.size a g:=x.trans (b.mono x.size);have U:=ZZ (J.o.below b zL);have V:=ZZ (P.o.below b zL);have ab:=ZZ (O.o.below b zL);clear b;obtain⟨a4,c4,c,-⟩:=u.rd;subst c;have R:=ZZ u.rd;clear u C)
   | ((with_reducible refine Y8 135 _ _ rfl rfl #[.int .u32 M] (by simp[Act.eval]) ae.o (T.o (d.alloc (.cells #[.int .u8 115] 5))) ?_);rintro Y g ⟨u,C⟩;have b:Below d.heap.size d g:=((zac _ _).alloc zL _).trans (C.mono (by simp));have v:Below a.heap.size a g:=x.trans (b.mono x.size);have al:=ZZ ((ZvM d _ rfl).below C zL);have U:=ZZ (J.o.below b zL);have V:=ZZ (P.o.below b zL);have ab:=ZZ (O.o.below b zL);clear b;obtain⟨a4,c4,c,-⟩:=u.rd;subst c;have R:=ZZ u.rd;clear u C)
   | (have q:=al.o;(with_reducible refine Y8 131 _ _ rfl rfl #[.slice (some ⟨g.heap.size,0,none⟩) 5 5] (by simp[Act.eval]) ak.o (an.o g g.heap.size _ _ _ _ _ rfl q U.o V.o ab.o R.o) ?_);rintro v5 W5 ⟨I,L⟩;have ag:Below a.heap.size a W5:=v.trans (L.mono v.size);have aj:=ZZ (I.mono (zau Q.o.size v.size));clear I L q)
   | (refine Y8 131 _ _ rfl rfl #[.slice (some ⟨g.heap.size+1,0,none⟩) 5 5] (by simp[Act.eval]) ak.o (an.o (g.alloc (.cells #[.int .u8 115] 5)) (g.heap.size+1) _ _ _ _ _ (by simp) (ZvM g _ rfl) (U.o.below ((zac _ _).alloc zL _) zL) (V.o.below ((zac _ _).alloc zL _) zL) (ab.o.below ((zac _ _).alloc zL _) zL) (R.o.below ((zac _ _).alloc zL _) zL)) ?_;rintro v5 W5 ⟨I,L⟩;have ag:Below a.heap.size a W5:=(z.o _ _ v).trans (L.mono (z.o _ _ v).size);have aj:=ZZ (I.mono (zau Q.o.size (z.o _ _ v).size));clear I L))
 all_goals
  go_wp2;go_ret;exact⟨_,rfl,aj.o,Q.o.trans (ag.mono Q.o.size)⟩
theorem ZpW (t:List Ent) (q:Nat) (a:q<t.length):Y0 (t.take (q+1))=Y0 (t.take q)++ZoY (t.getD q Xj):=by
 have b:t.take (q+1)=t.take q++[t.getD q Xj]:=by
  rw[take_add_one,za4 a];simp[List.getD,a]
 rw[b];unfold Y0;rw[zgd];simp
theorem Zmj (t:List Ent) (q:Nat):(Y0 (t.take q)).length<=(Y0 t).length:=by
 have h:Y0 t=Y0 (t.take q)++Y0 (t.drop q):=by
  unfold Y0;rw[<-zgd,zb9]
 rw[h,length_append];omega
theorem ZpX (v:Value) (s:Q0) (w:World) (hs:SnV w v s) (i:Zs s):
 Calls prog 99 #[v] w fun e w'=>∃ v',e=.returned v'∧Own w' w.heap.size v' (Xt s)∧Below w.heap.size w w':=by
 obtain⟨vl,vt,rfl,hl,z,A,ht,hi⟩:=hs;have bl:=ZeB i.2.1;have be:=ZhZ i.2.2;have ae:=Zaz i;have bm:=Zph i.2.1;have J:=ZZ (fun W (h:Below w.heap.size w W)=>ZiR (.agg #[.int .i64 s.st.kind,vl,.bool s.st.shut,.int .i64 s.st.eng]) s.st W ⟨vl,rfl,hl.below h zL,z,A⟩ (by omega))
 unfold ZAV at J;rw[zab i.2.1,zab i.2.1] at J;have aJ:Hid (∀ q,q<s.tab.length->Dh (s.tab.getD q Xj)):=ZZ (fun q S=>(i.2.2 q S).1)
 have x:Hid (∀ b l k W,Rd W b l->l.length<=10000->0<=k->k<4611686018427387904->Calls prog 132 #[b,.int .i64 k] W fun e w'=>∃ v',e=.returned v'∧Own w' W.heap.size v' (l++Lib.uvarint k.toNat)∧Below W.heap.size W w'):=ZZ (fun b l k W h hl y n=>by
  have h:=ZbD b l k W h (by omega)
  rw[J4 y n] at h
  exact h)
 have aH:Hid (∀ b l k W,Rd W b l->l.length<=10000->I64 k->Calls prog 142 #[b,.int .i64 k] W fun e w'=>∃ v',e=.returned v'∧Own w' W.heap.size v' (l++Lib.uvarint (Lib.zigzag k))∧Below W.heap.size W w'):=ZZ (fun b l k W h hl z=>Gp b l k W h (by omega) z.1 z.2)
 have aP:Hid (∀ q,q<s.tab.length->Y0 (s.tab.take (q+1))=Y0 (s.tab.take q)++ZoY (s.tab.getD q Xj)):=ZZ (fun q S=>ZpW _ q S)
 have aQ:Hid (∀ q,(Y0 (s.tab.take q)).length<=(Y0 s.tab).length):=ZZ (fun q=>Zmj _ q)
 have HW:Hid (Xt s=(Lib.uvarint (ZeA s.st).length++(ZeA s.st++Lib.uvarint s.tab.length))++Y0 s.tab):=ZZ (by
  unfold Xt ZyN
  simp only [append_assoc])
 have aR:Hid ((Lib.uvarint (ZeA s.st).length++(ZeA s.st++Lib.uvarint s.tab.length)).length+(Y0 s.tab).length<=5000):=ZZ (by
  rw[HW.o,length_append] at ae
  exact ae)
 rw[HW.o];have u1:(Lib.uvarint (ZeA s.st).length).length<=10:=Gm (by omega)
 have u3:(Lib.uvarint s.tab.length).length<=10:=Gm (by omega)
 have aO:Hid (∀ W,Calls prog 132 #[.slice none 0 0,.int .i64 ((ZeA s.st).length:Int)] W fun e w'=>∃ v',e=.returned v'∧Own w' W.heap.size v' (Lib.uvarint (ZeA s.st).length)∧Below W.heap.size W w'):=ZZ (fun W=>by
  have h:=x.o (.slice none 0 0) [] ((ZeA s.st).length:Int) W (Rd.nil W) (by simp) (by omega) (by omega)
  rw[nil_append,zbj] at h
  exact h)
 have ab:Hid (∀ W,Calls prog 132 #[.slice none 0 0,.int .i64 (s.tab.length:Int)] W fun e w'=>∃ v',e=.returned v'∧Own w' W.heap.size v' (Lib.uvarint s.tab.length)∧Below W.heap.size W w'):=ZZ (fun W=>by
  have h:=x.o (.slice none 0 0) [] (s.tab.length:Int) W (Rd.nil W) (by simp) (by omega) (by omega)
  rw[nil_append,zbj] at h
  exact h)
 have aN:Hid (∀ W N Y b E,N=W.heap.size->Rd W Y (Lib.uvarint (ZeA s.st).length)->Rd W b (ZeA s.st)->Rd W E (Lib.uvarint s.tab.length)->Calls prog 131 #[.slice (some ⟨N,0,none⟩) 3 3] (W.alloc (.cells #[Y,b,E] 53)) fun e w'=>∃ v',e=.returned v'∧Own w' W.heap.size v' (Lib.uvarint (ZeA s.st).length++(ZeA s.st++Lib.uvarint s.tab.length))∧Below W.heap.size W w'):=ZZ (fun W N Y b E hN y n R=>ZvE W N hN Y b E _ _ _ y n R (by omega))
 obtain⟨O,V,ba,-,-,-,-,aM⟩:=ht;subst ba;have aC:=ZZ aM;obtain⟨la,lc,a4,-⟩:=hl;subst a4;obtain⟨idx,⟨kind,L,I,X⟩,d⟩:=s
 dsimp only at *
 clear z A hi i bl ae bm u1 u3 HW aM;have bt:(d.length:Int)<=65:=by omega
 clear be;generalize ZeA ⟨kind,L,I,X⟩=ES at *;generalize Lib.uvarint ES.length=U1 at *;generalize Lib.uvarint d.length=U3 at *;generalize U1++(ES++U3)=H at *;obtain⟨W0,Q⟩:=zg7 (w.alloc (.cells #[.int .i64 idx,.int .i64 kind,.slice la L.length lc,.bool I,.int .i64 X,.slice O d.length V] 41));have F:Hid (Below w.heap.size w W0):=ZZ (by rw[Q];exact(zac _ _).alloc zL _)
 have p:Hid (Bn W0 w.heap.size #[.int .i64 idx,.int .i64 kind,.slice la L.length lc,.bool I,.int .i64 X,.slice O d.length V]):=ZZ (by rw[Q];exact zak w _)
 obtain⟨p1,-⟩:=p.o.cell 1;obtain⟨p2,-⟩:=p.o.cell 2;obtain⟨p3,-⟩:=p.o.cell 3;obtain⟨p4,-⟩:=p.o.cell 4
 go_enter func99,ntmps99
 go_upto_region 1 with fail
 rw[<-Q];clear Q
 go_wp2_with fail
 refine(J.o _ F.o).mono ?_;rintro e W1 ⟨b,rfl,aB,an⟩;have al:=ZZ (p.o.below an zL);have aq:=ZZ (F.o.trans (an.mono F.o.size));have az:=ZZ aB;obtain⟨a1,K,aW,-⟩:=aB;subst aW;obtain⟨q5,-⟩:=al.o.cell 5;clear an J p F p1 p2 p3 p4
 go_upto_region 2 with fail
 go_cut[5] (fun vo wc=>Hid (Own wc w.heap.size vo H)∧Hid (Bn wc w.heap.size #[.int .i64 idx,.int .i64 kind,.slice la L.length lc,.bool I,.int .i64 X,.slice O d.length V])∧Hid (Below w.heap.size w wc))
 case first=>
  go_region_held(fun w'=>w'.cell? ⟨w.heap.size,5,none⟩=some (.slice O d.length V)) (go_keep)
   (first
    | (go_at_call_of 132 (Value.int .i64 (ES.length:Int));refine(aO.o _).mono ?_;rintro e W2 ⟨E,rfl,ak,aL⟩;have M:Below W1.heap.size W1 W2:=((zac _ _).drew).trans aL;have ad:=al.o.below M zL;have bb:=ZZ ad;have aV:=ZZ (aq.o.trans (M.mono aq.o.size));have aZ:=ZZ (az.o.below M zL);obtain⟨a2,c2,rfl,-⟩:=ak.rd;have a5:=ZZ ak.rd;obtain⟨r5,-⟩:=ad.cell 5;clear ak aL ad M)
    | (go_at_call_of 132 (Value.int .i64 (d.length:Int));refine(ab.o _).mono ?_;rintro e W3 ⟨v3,rfl,ac,C⟩;have ay:=bb.o.below C zL;have bg:=ZZ ay;have ao:=ZZ (aV.o.trans (C.mono aV.o.size));have a0:=ZZ (aZ.o.below C zL);have bf:=ZZ (a5.o.below C zL);obtain⟨a3,c3,rfl,-⟩:=ac.rd;have bk:=ZZ ac.rd;obtain⟨s5,-⟩:=ay.cell 5;clear ac C ay)
    | (go_at_call 131;refine(aN.o W3 W3.heap.size _ _ _ rfl bf.o a0.o bk.o).mono ?_;rintro e W4 ⟨v4,rfl,aF,av⟩;have aj:=bg.o.below av zL;have bn:=ZZ aj;have bq:=ZZ (ao.o.trans (av.mono ao.o.size));have aX:=ZZ (aF.mono ao.o.size);obtain⟨t5,-⟩:=aj.cell 5;clear aF av aj))
  all_goals
   go_wp2_with fail
   go_meet
   exact⟨aX,bn,bq⟩
 case rest=>
  obtain⟨WC,rfl⟩:=zg7 wc;obtain⟨HO,HX,HB⟩:=hcut;obtain⟨bo,-⟩:=HX.o.cell 5;clear al aq az q5 aO ab aN;go_wp2
  go_loopw[5,27] (fun vo vi wr=>∃ q:Nat,vi=.int .i64 (q:Int)∧q<=d.length∧Hid (Own wr w.heap.size vo (H++Y0 (d.take q)))∧Hid (Below w.heap.size w wr)) (fun _ vi _=>d.length-(intOf vi).toNat)
  case atStart=>exact⟨0,rfl,zap _,by simpa[Y0] using HO,HB⟩
  case round=>
   clear HO HX HB bo;obtain⟨q,rfl,S,hO,B⟩:=hrel;by_cases t:q<d.length
   case neg=>
    obtain rfl:q=d.length:=by omega
    rw[zdd] at hO;go_wp2;go_ret;exact⟨_,rfl,hO.out,B.out⟩
   have bv:(q:Int)<(d.length:Int):=by omega
   rcases aC.o with y | ⟨c,bu,rfl,hc⟩
   ·rw[y] at t;simp at t
   obtain⟨c0,K,c2⟩:=(hc q t).keep (B.out.block c (hc q t).lt);have ax:=ZZ (aJ.o q t);have G:=ZZ (aP.o q t)
   have U:Hid ((H++Y0 (d.take q)).length<=5000):=ZZ (by
    have n:=aQ.o q;have R:=aR.o;rw[length_append]
    omega)
   obtain⟨e,A⟩:=zg7 (d.getD q Xj);rw[<-A] at c0 K c2 ax G;clear A hc aJ aP aQ aC aR;obtain⟨f,g,m⟩:=e;have aE:Hid (ZoY ⟨f,g,m⟩=Lib.uvarint f.toNat++(Lib.uvarint g.toNat++Lib.uvarint (Lib.zigzag m))):=ZZ rfl;rw[aE.o,<-append_assoc] at G
   have aI:Hid (H++Y0 (d.take (q+1))=(((H++Y0 (d.take q))++Lib.uvarint f.toNat)++Lib.uvarint g.toNat)++Lib.uvarint (Lib.zigzag m)):=ZZ (by
    rw[G.o]
    simp only [append_assoc])
   have j:Hid ((0<=f∧f<4611686018427387904)∧(0<=g∧g<4611686018427387904)∧I64 m):=ZZ (by
    obtain⟨n,R,h3,h4,h5,h6⟩:=ax.o
    dsimp only at n R h3 h4 h5 h6
    exact⟨⟨n,by omega⟩,⟨h3,h4⟩,⟨by omega,by omega⟩⟩)
   have u1:(Lib.uvarint f.toNat).length<=10:=Gm (by have:=j.o;omega)
   have u2:(Lib.uvarint g.toNat).length<=10:=Gm (by have:=j.o;omega)
   dsimp only at c0 K c2
   generalize H++Y0 (d.take q)=P at *;have bp:=ZZ (fun b W h=>x.o b P f W h (by have:=U.o;omega) j.o.1.1 j.o.1.2)
   have a9:=ZZ (fun b W h=>x.o b (P++Lib.uvarint f.toNat) g W h (by have:=U.o;rw[length_append];omega) j.o.2.1.1 j.o.2.1.2)
   have af:=ZZ (fun b W h=>aH.o b ((P++Lib.uvarint f.toNat)++Lib.uvarint g.toNat) m W h (by have:=U.o;rw[length_append,length_append];omega) j.o.2.2)
   rw[<-aI.o] at af;clear x aH G aE aI U u1 u2 j ax;generalize P++Lib.uvarint f.toNat=P1 at *;generalize P1++Lib.uvarint g.toNat=P2 at *;obtain⟨P3,aw⟩:=zg7 (H++Y0 (d.take (q+1)));rw[<-aw] at af;have ab:=ZZ aw;clear aw
   go_upto_region 6 with fail
   obtain⟨u,Z⟩:=zg7 (wr.alloc (.cells #[.int .i64 f,.int .i64 g,.int .i64 m] 85));have ai:Hid (Below wr.heap.size wr u):=ZZ (by rw[Z];exact(zac _ _).alloc zL _)
   have T:Hid (Be u wr.heap.size #[.int .i64 f,.int .i64 g,.int .i64 m]):=ZZ (by rw[Z];exact zak wr _)
   rw[<-Z];clear Z c0 K c2;obtain⟨QB,aT⟩:=zg7 wr.heap.size;rw[<-aT] at T ⊢;clear aT;have aG:=ZZ (hO.out.rd.below ai.o zL);have aU:=ZZ (B.out.trans (ai.o.mono B.out.size));obtain⟨va,vc,bi⟩:∃ a c,u5=.slice a P.length c:=by obtain⟨a,c,h,-⟩:=aG.o;exact⟨a,c,h⟩
   subst bi;obtain⟨x0,-⟩:=T.o.cell 0;obtain⟨x1,-⟩:=T.o.cell 1;clear hO B ai
   go_region_held(fun w'=>w'.cell? ⟨QB,0,none⟩=some (.int .i64 f)∧w'.cell? ⟨QB,1,none⟩=some (.int .i64 g)) (go_keep)
    (first
     | (go_at_call_of 132 (Value.int .i64 f);refine(bp.o _ _ (aG.o.below ((zac _ _).drew) zL)).mono ?_;rintro e W6 ⟨v6,rfl,ap,aK⟩;have au:Below u.heap.size u W6:=((zac _ _).drew).trans aK;have aa:=T.o.below au zL;have aY:=ZZ aa;have aA:=ZZ (aU.o.trans (au.mono aU.o.size));obtain⟨a6,c6,rfl,-⟩:=ap.rd;have a8:=ZZ ap.rd;obtain⟨y0,-⟩:=aa.cell 0;obtain⟨y1,-⟩:=aa.cell 1;clear ap aK aa au)
     | (go_at_call_of 132 (Value.int .i64 g);refine(a9.o _ _ a8.o).mono ?_;rintro e W7 ⟨v7,rfl,am,ar⟩;have D:=aY.o.below ar zL;have br:=ZZ D;have ag:=ZZ (aA.o.trans (ar.mono aA.o.size));obtain⟨a7,c7,rfl,-⟩:=am.rd;have bd:=ZZ am.rd;obtain⟨z0,-⟩:=D.cell 0;obtain⟨z1,-⟩:=D.cell 1;obtain⟨z2,-⟩:=D.cell 2;clear am ar D))
   all_goals
    go_wp2_with fail
    refine(af.o _ _ bd.o).mono ?_;rintro e W8 ⟨v8,rfl,aD,aS⟩;have bj:=ZZ (ag.o.trans (aS.mono ag.o.size));have bc:=ZZ (aD.mono ag.o.size);clear aD aS;go_wp2;go_roundw
    case rel=>exact⟨q+1,by go_num,by omega,ZZ (by rw[<-ab.o];exact bc.o),bj⟩
    case measure=>simp[intOf];omega
theorem ZvN (D:Value) (a:St) (C:Value) (b:St) (w:World) (I:StV w D a) (K:StV w C b):
 Calls prog 45 #[D,C] w fun e w'=>e=.returned (.bool (decide (ZmO a b)))∧Below w.heap.size w w':=by
 obtain⟨B,rfl,u,-,-⟩:=I;obtain⟨E,rfl,A,-,-⟩:=K;obtain⟨m,t,k,n⟩:=a;obtain⟨p,v,j,l⟩:=b;simp only at u A ⊢;have M:Hid (∀ W,Below w.heap.size w W->Calls prog 89 #[B,E] W fun e w'=>e=.returned (.bool (decide (t=v)))∧Below W.heap.size W w'):=fun W h=>ZsH B t E v W (u.below h zL) (A.below h zL)
 have f:Hid (∀ x y,Below w.heap.size w ((w.alloc x).alloc y)):=fun x y=>((zac _ _).alloc zL x).alloc (by simp) y
 obtain⟨R,z⟩:=zg7 (decide (ZmO ⟨m,t,k,n⟩ ⟨p,v,j,l⟩));rw[<-z];have q:=Qc z;clear z u A;by_cases c:m=p
 ·have G:(m == p)=true:=zbi.2 c
  have L:=Qc c;clear c;by_cases g:k=j
  ·have N:(k == j)=true:=zbi.2 g
   have P:=Qc g;clear g;by_cases d:n=l
   ·have H:(n == l)=true:=zbi.2 d
    have O:=Qc d;clear d
    go_enter func45,ntmps45
    go_wp2_with fail
    refine(M.o _ (f.o _ _)).mono ?_;rintro e Q ⟨rfl,F⟩;have J:=Qc ((f.o _ _).trans (F.mono (f.o _ _).size));clear F;go_wp2;go_ret;refine⟨Y9 ?_,J.o⟩;rw[q.o];exact zco.2 ⟨fun h=>⟨L.o,P.o,O.o,h⟩,fun h=>h.2.2.2⟩
   ·have H:(n == l)=false:=zah.2 d
    have i:Hid (R=false):=q.o.trans (zai fun h=>d h.2.2.1)
    clear d
    go_enter func45,ntmps45
    go_wp2;go_ret;exact⟨Y9 i.o.symm,f.o _ _⟩
  ·have N:(k == j)=false:=zah.2 g
   have i:Hid (R=false):=q.o.trans (zai fun h=>g h.2.1)
   clear g
   go_enter func45,ntmps45
   go_wp2;go_ret;exact⟨Y9 i.o.symm,f.o _ _⟩
 ·have G:(m == p)=false:=zah.2 c
  have i:Hid (R=false):=q.o.trans (zai fun h=>c h.1)
  clear c
  go_enter func45,ntmps45
  go_wp2;go_ret;exact⟨Y9 i.o.symm,f.o _ _⟩
end Go.Proofs.YtnahjngbneicaaaGreatDoor
