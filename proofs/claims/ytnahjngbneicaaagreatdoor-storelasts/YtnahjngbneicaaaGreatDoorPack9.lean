import Derived.Test.YtnahjngbneicaaaGreatDoorPack8
import Derived.Deep.WholeRow
namespace Go.Proofs.YtnahjngbneicaaaGreatDoor
open _root_.Go.Proofs.Tryz
open List (append_assoc length_append length_singleton nil_append take_add_one take_of_length_le)
set_option maxHeartbeats 40000000
set_option maxRecDepth 100000
open Go.RowKit
variable {w w':World} {B N N' T T' b p pd:Nat} {L:List (List UInt8)} {s s':Sto} {K:Nat->Prop} {d:Dk} {v x y z:Value} {l:List UInt8} {xs:List Value}
structure Stp where
 g:Nat
 bd:Array Value
 cp:Array Value
def Stp.val (s:Stp):Value:=.func (.func s.g) s.bd s.cp
theorem Znx (b u cap:Nat) (n:Nat) (fs:Nat->Stp) (w:World) (P:Nat->World->Prop) (Q:Int->World->Prop) (S:n<=1000000)
 (H:∀ i W,i<n->P i W->W.cell? ⟨b,u+i,none⟩=some (fs i).val)
 (E:∀ i W,i<n->P i W->Calls prog (fs i).g ((fs i).bd++(fs i).cp) W fun e w'=>∃ c:Int,e=.returned (.int .i64 c)∧(c=0->P (i+1) w')∧(c≠0->Q c w'))
 (z:∀ i,i<n->∀ args W,(callFunc (fs i).g args).run prog W=.ok (.enter (fs i).g args) W) (A:P 0 w):
 Calls prog 62 #[.slice (some ⟨b,u,none⟩) n cap] w fun e w'=>∃ c:Int,e=.returned (.int .i64 c)∧(c=0->P n w')∧(c≠0->Q c w'):=by
 have y:=ZZ H;have G:=ZZ E;have v:=ZZ z;have N:(n:Int)<=1000000:=by omega
 clear H E z;have x:=ZZ A;clear A
 go_enter func62,ntmps62
 go_wp2
 go_loopw[8] (fun t wr=>∃ i:Nat,t=.int .i64 (i:Int)∧i<=n∧Hid (P i wr)) (fun t _=>n-(intOf t).toNat)
 case atStart=>exact⟨0,rfl,Nat.zero_le _,x⟩
 case round=>
  clear x;obtain⟨i,rfl,M,j⟩:=hrel;by_cases p:i<n
  case neg=>
   obtain rfl:i=n:=by omega
   go_wp2;go_ret;exact⟨0,rfl,fun _=>j.o,fun h=>absurd rfl h⟩
  have f:=y.o i wr p j.o;have d:=ZZ (G.o i wr p j.o);have m:=v.o i p;unfold Stp.val at f;obtain⟨g,l⟩:∃ g,g=(fs i).g:=⟨_,rfl⟩;obtain⟨D,C⟩:∃ D,D=(fs i).bd:=⟨_,rfl⟩;obtain⟨F,B⟩:∃ F,F=(fs i).cp:=⟨_,rfl⟩;rw[<-l,<-C,<-B] at f d;rw[<-l] at m;have R:(i:Int)<(n:Int):=by omega
  clear j l C B y G v
  go_wp2_with fail
  refine d.o.mono ?_;rintro e L ⟨c,rfl,q,k⟩;by_cases a:c=0
  ·subst a
   have J:=ZZ (q rfl);clear q k f m d;go_wp2;go_roundw
   case rel=>exact⟨i+1,by go_num,by omega,J⟩
   case measure=>simp[intOf];omega
  ·have I:=ZZ (k a)
   have O:(c != 0)=true:=by rw[bne_iff_ne];exact a
   have K:=ZZ a;clear q k f m d a;go_wp2;go_ret;exact⟨c,rfl,fun h=>absurd h K.o,fun _=>I.o⟩
theorem Jq.setHead {M I:Nat->Prop} {L:ZdU} (h:Jq M I w p pd L s) (j:Nat) (x:Value) (i:s'.log=s.log) (u:s'.bases=s.bases) (D:s'.now=s.now) (C:(stC pd L s).setIfInBounds j x=stC pd L s'):
 Jq M I (w.setCell ⟨p,j,none⟩ x) p pd L s':=by
 have b:∀ k,k≠p->(w.setCell ⟨p,j,none⟩ x).heap[k]?=w.heap[k]?:=fun k b=>Below.heap_setCell _ _ _ _ b
 have c:∀ {t:TypeId} {n sz g:Nat} {v:Value} {xs:List Value},w.ownsRow 0 t sz v n xs->v.ownBlock=some g->t≠76->g≠p:=fun q a z=>by
  obtain⟨E,B⟩:=X0 q a;exact B.ne h.head z
 have m:∀ k,I k->(w.setCell ⟨p,j,none⟩ x).heap[k]?=w.heap[k]?:=fun k A=>b k fun e=>h.dis p h.mh (by rw[<-e];exact A)
 have f:L.nx s'=L.nx s:=by unfold ZdU.nx;rw[D]
 refine⟨by rw[<-C];exact h.head.set j x,?_,?_,Qh h.bases fun g a=>b g (c h.bases a (by decide)),by rw[u];exact h.bsEq,by rw[f];exact h.now.keep h.inow m,fun y l=>(h.base y l).keep (h.ibase y l) m,h.mh,h.mr,h.mp,h.mb,by rw[f];exact h.inow,h.ibase,fun k d=>by simpa using h.ltM k d,fun k d=>by simpa using h.ltI k d,h.dis⟩
 ·rw[i]
  exact Qh h.recs fun g a=>b g (c h.recs a (by decide))
 ·rw[i]
  exact Qh h.pcs fun g a=>b g (c h.pcs a (by decide))
theorem SD.setHead (h:SD K w pd p s d N T) (e:∀ k,K k->k<w.heap.size) (j:Nat) (x:Value) (l:s'.log=s.log) (f:s'.bases=s.bases) (u:s'.now=s.now) (n:∀ L,(stC pd L s).setIfInBounds j x=stC pd L s'):
 SD K (w.setCell ⟨p,j,none⟩ x) pd p s' d N T∧Ql (fun k=>¬ K k) w (w.setCell ⟨p,j,none⟩ x):=by
 obtain⟨F,M,I,L,q,b,i,c,t,m,g⟩:=h;exact SD.own e q i c t m g ((Ql.refl M w).setCell j (fun _=>b.mh) x) (b.setHead j x l f u (n L)) (fun _ a=>.inl a) (fun _ a=>.inl a)
theorem SD.cells (h:SD K w pd p s d N T):
 (w.cell? ⟨p,0,none⟩=some (ptr pd)∧w.cell? ⟨p,11,none⟩=some (.int .i64 s.synced)∧w.cell? ⟨p,12,none⟩=some (.int .i64 s.cur)∧w.cell? ⟨p,13,none⟩=some (.bool s.nw))∧∀ j,w.frozen? ⟨p,j,none⟩=false:=by
 obtain⟨F,M,I,L,g,a,-⟩:=h;obtain⟨e,-,-,-,-,-,c,f,b⟩:=a.cs;exact⟨⟨e,c,f,b⟩,a.fz⟩
theorem ZcM (w:World) (h:SD K w pd p s d N T) (f:∀ k,K k->k<w.heap.size):
 Calls prog 64 #[ptr p] w fun e w'=>Jz K w pd p (Qq (s,d)) (N+2) T e w':=by
 unfold Qq;obtain⟨⟨d',c⟩,j⟩:∃ r,r=Qn d:=⟨_,rfl⟩
 have m:=ZZ (h.disk (d':=d') (c:=c) (N':=N+2) (T':=T) f (fun F y _=>by
  have:=Zpb w y;rw[<-j] at this
  exact this))
 obtain⟨⟨x,-⟩,-⟩:=h.cells
 dsimp only
 rw[<-j]
 dsimp only
 have A:=ZZ f;obtain⟨R,i⟩:∃ R:SDk × Int,R=((if c=0 then { s with nw:=false } else s,d'),c):=⟨_,rfl⟩
 rw[<-i];have b:=ZZ i;clear h j f i
 go_enter func64,ntmps64
 go_wp2_with fail
 refine m.o.mono ?_;rintro e v ⟨rfl,g,l⟩;have n:=ZZ g;have q:=ZZ l;have u:Hid (∀ k,K k->k<v.heap.size):=ZZ (fun k z=>Nat.lt_of_lt_of_le (A.o k z) l.size)
 obtain⟨⟨-,-,-,B⟩,fz⟩:=g.cells;have D:=fz 13;clear g l m x fz;by_cases a:c=0
 ·subst a
  rw[if_pos rfl] at b;have t:=ZZ (n.o.setHead (s':={ s with nw:=false }) u.o 13 (.bool false) rfl rfl rfl (fun _=>rfl))
  go_wp2;go_ret;rw[b.o];exact⟨rfl,t.o.1,q.o.trans t.o.2 (fun _ _ h=>h)⟩
 ·rw[if_neg a] at b
  have C:(c == 0)=false:=beq_eq_false_iff_ne.2 a;clear a;go_wp2;go_ret;rw[b.o];exact⟨rfl,n.o,q.o⟩
theorem ZlM (w:World) (h:SD K w pd p s d N T) (j:∀ k,K k->k<w.heap.size):
 Calls prog 66 #[ptr p] w fun e w'=>Jz K w pd p (Qx (s,d)) (N+2) T e w':=by
 unfold Qx;have a:=ZZ (ZcM w h j);obtain⟨⟨-,-,-,c⟩,-⟩:=h.cells;have g:=ZZ h
 dsimp only
 cases hb:s.nw with
 | false=>
  rw[hb] at c;rw[if_neg (by simp)]
  clear h hb a
  go_enter func66,ntmps66
  go_wp2;go_ret;exact⟨rfl,g.o.mono (by omega) zL,Ql.refl _ _⟩
 | true=>
  rw[hb] at c;rw[if_pos rfl];obtain⟨r,b⟩:∃ r,r=Qq (s,d):=⟨_,rfl⟩;rw[<-b] at a ⊢;clear h hb g b
  go_enter func66,ntmps66
  go_wp2_with fail
  refine a.o.mono ?_;rintro e m ⟨rfl,f,i⟩;have l:=ZZ (And.intro f i);clear f i a;go_wp2;go_ret;exact⟨rfl,l.o⟩
theorem Jz.from {K2:Nat->Prop} {W:World} {r:SDk × Int} {e:Ending} (h:Jz K2 W pd p r N T e w') (a:∀ k,K k->K2 k) (d:Ql (fun k=>¬ K k) w W) (c:N<=N') (g:T<=T'):Jz K w pd p r N' T' e w':=
 ⟨h.1,(h.2.1.less a).mono c g,d.trans (h.2.2.mono (fun k f b=>f (a k b))) (fun _ _ h=>h)⟩
theorem SD.step {f:Nat} {args:Array Value} (g:Dk->Dk × Int) (h:SD K w pd p s d N T) (a:∀ k,K k->k<w.heap.size)
 (b:∀ F,Dsk F w pd d N T->(∀ k,F k->¬ K k)->Calls prog f args w fun e w'=>Zgk F w pd (g d).1 (g d).2 N' T' e w'):Calls prog f args w fun e w'=>Jz K w pd p (Xm g (s,d)) N' T' e w':=
 h.disk a b
theorem Zny {R:Nat} (w:World) (h:SD K w pd p s d N T) (b:∀ k,K k->k<w.heap.size) (v:w.cell? ⟨R,0,none⟩=some (ptr p)) (g:I64 s.cur):
 Calls prog 65 #[.pointer (some ⟨R,0,none⟩)] w fun e w'=>Jz K w pd p (Q1 (s,d)) (N+2) T e w':=by
 have c:=ZZ ((h.below (Below.refl _ _).drew).step (fun d=>X3 d s.cur) b (fun F m _=>ZqM s.cur g _ m))
 obtain⟨⟨t,-,u,-⟩,-⟩:=h.cells;have n:Hid (Ql (fun k=>¬ K k) w w.drew):=ZZ (Ql.ofBelow (Below.refl _ _).drew)
 obtain⟨r,a⟩:∃ r,r=Q1 (s,d):=⟨_,rfl⟩;have i:Xm (fun d=>X3 d s.cur) (s,d)=r:=a.symm
 rw[i] at c;rw[<-a];generalize s.cur=x at *;clear h b g i a
 go_enter func65,ntmps65
 go_upto_region 1 with fail
 go_region_with(first | (go_at_call 59;refine c.o.mono ?_;rintro e q ⟨rfl,f,l⟩;have j:=ZZ (And.intro f l);clear f l))
 all_goals
  go_wp2;go_ret;exact⟨rfl,j.o.1,n.o.trans j.o.2 (fun _ _ h=>h)⟩
theorem ZlN (x:SDk):(Qv [Q1,Qx] x).1.1=x.1∨(Qv [Q1,Qx] x).1.1={ x.1 with nw:=false }:=by
 unfold Qv Qv;split
 ·split
  ·unfold Qv Qx Qq
   split
   ·dsimp only
    split
    ·exact .inr rfl
    ·exact .inl rfl
   ·exact .inl rfl
  ·unfold Qx Qq
   split
   ·dsimp only
    split
    ·exact .inr rfl
    ·exact .inl rfl
   ·exact .inl rfl
 ·exact .inl rfl
theorem ZpE.nw {s:Sto} (h:ZpE s) (b:Bool):ZpE { s with nw:=b }:=⟨h.f0,h.f1,h.sy,h.cu⟩
theorem SD.synced (h:SD K w pd p s d N T) (a:∀ k,K k->k<w.heap.size):
 SD K (w.setCell ⟨p,11,none⟩ (.int .i64 s.next)) pd p (Ye s) d N T∧Ql (fun k=>¬ K k) w (w.setCell ⟨p,11,none⟩ (.int .i64 s.next)):=
 h.setHead a 11 _ rfl rfl rfl (fun _=>rfl)
theorem SD.next (h:SD K w pd p s d N T) (a:ZpE s):
 Calls prog 14 #[ptr p] w fun e w'=>e=.returned (.int .i64 s.next)∧Below w.heap.size w w':=by
 obtain⟨F,M,I,L,c,b,-⟩:=h;exact Zit w b a
theorem ZeO (w:World) (h:SD K w pd p s d N T) (hK:∀ k,K k->k<w.heap.size) (n:ZpE s):
 Calls prog 27 #[ptr p] w fun e w'=>Jz K w pd p (Q5 (s,d)) (N+4) T e w':=by
 obtain⟨a,z⟩:∃ a,a=w.alloc (.cells #[ptr p] 28):=⟨_,rfl⟩;have af:Hid (Below w.heap.size w a):=ZZ (by rw[z];exact Jw _ _)
 have Y:Hid (Bk 28 a w.heap.size #[ptr p]):=ZZ (by rw[z];exact heap_alloc_new w _)
 obtain⟨t,O⟩:∃ t:Nat->Prop,t=fun k=>K k∨(w.heap.size<=k∧k<a.heap.size):=⟨_,rfl⟩
 have D:Hid (SD t a pd p s d N T):=ZZ (by rw[O];exact h.fresh af.o)
 have au:Hid (∀ k,t k->k<a.heap.size):=ZZ (by
  rw[O];intro k hk;rcases hk with hk | hk
  ·exact Nat.lt_of_lt_of_le (hK k hk) af.o.size
  ·exact hk.2)
 have an:Hid (∀ k,K k->t k):=ZZ (by rw[O];exact fun k hk=>.inl hk)
 have aG:Hid (t w.heap.size):=ZZ (by rw[O];exact .inr ⟨Nat.le_refl _,Y.o.lt⟩)
 have av:Hid (Ql (fun k=>¬ K k) w a):=ZZ (Ql.ofBelow af.o)
 have P:Hid (∀ W,Ql (fun k=>¬ t k) a W->W.cell? ⟨w.heap.size,0,none⟩=some (ptr p)):=ZZ (fun W X=>((Y.o.keep (X.block _ Y.o.lt (fun n=>n aG.o))).cell 0 rfl).1)
 have U:=ZZ n;have r0:=P.o a (Ql.refl _ _);obtain⟨⟨-,-,az,-⟩,-⟩:=D.o.cells;obtain⟨v,al⟩:∃ v,v=Q5 (s,d):=⟨_,rfl⟩;have G:=ZZ al;rw[<-al];clear h hK O al;by_cases q:s.cur=0
 ·have aD:(s.cur != 0)=false:=by rw[q];rfl
  have y:Hid (v=((Ye s,d),0)):=ZZ (by rw[G.o];unfold Q5;rw[if_pos q])
  have ac:Hid (∀ W,Below a.heap.size a W->Calls prog 14 #[ptr p] W fun e w'=>e=.returned (.int .i64 s.next)∧Below a.heap.size a w'):=ZZ (fun W f=>((D.o.below f).next U.o).mono (by
   rintro e w' ⟨rfl,C⟩
   exact⟨rfl,f.trans (C.mono f.size)⟩))
  have Q:Hid (∀ W,Below a.heap.size a W->W.cell? ⟨w.heap.size,0,none⟩=some (ptr p)∧W.cell? ⟨p,11,none⟩=some (.int .i64 s.synced)∧W.frozen? ⟨p,11,none⟩=false):=ZZ (fun W f=>by
   obtain⟨⟨-,ad,-⟩,fz⟩:=(D.o.below f).cells
   exact⟨P.o W (Ql.ofBelow f),ad,fz 11⟩)
  have ak:Hid (Below a.heap.size a a.drew):=ZZ (Below.refl _ _).drew
  have J:Hid (∀ W,Below a.heap.size a W->Jz K w pd p v (N+4) T (.returned (.int .i64 0)) (W.setCell ⟨p,11,none⟩ (.int .i64 s.next))):=ZZ (fun W f=>by
   rw[y.o];have m:=(D.o.below f).synced (fun k hk=>Nat.lt_of_lt_of_le (au.o k hk) f.size)
   exact Jz.from (K2:=t) (W:=W) ⟨rfl,m.1,m.2⟩ an.o (av.o.trans (Ql.ofBelow (F:=fun _=>False) f) (fun _ _ h=>h.elim)) (by omega) zL)
  generalize s.next=nx at *;generalize s.cur=cu at *;clear q y G n
  go_enter func27,ntmps27
  go_upto_region 1 with fail
  rw[<-z];clear z
  go_upto_region 6 with fail
  go_region_with(first | (go_at_call 14;refine(ac.o _ (by first | exact ak.o | exact Below.refl _ _)).mono ?_;rintro e g ⟨rfl,aj⟩;have x:=ZZ aj;obtain⟨q0,aA,qf⟩:=Q.o g aj;clear aj))
  all_goals
   go_wp2;go_ret;exact J.o _ x.o
 ·have aD:(s.cur != 0)=true:=by rw[bne_iff_ne];exact q
  obtain⟨b,B⟩:∃ b,b=Qv [Q1,Qx] (s,d):=⟨_,rfl⟩;have y:Hid (v=if b.2=0 then((Ye b.1.1,b.1.2),0) else b):=ZZ (by rw[G.o,B];unfold Q5;rw[if_neg q])
  have aw:Hid (ZpE b.1.1):=ZZ (by
   rcases ZlN (s,d) with hh | hh
   ·rw[B,hh];exact U.o
   ·rw[B,hh];exact U.o.nw false)
  obtain⟨g,S⟩:∃ g,g=a.alloc (.cells #[.func (.func 65) #[] #[.pointer (some ⟨w.heap.size,0,none⟩)],.func (.func 66) #[ptr p] #[]] 153):=⟨_,rfl⟩;have x:Hid (Below a.heap.size a g):=ZZ (by rw[S];exact Jw _ _)
  have V:Hid (Bk 153 g a.heap.size #[.func (.func 65) #[] #[.pointer (some ⟨w.heap.size,0,none⟩)],.func (.func 66) #[ptr p] #[]]):=ZZ (by rw[S];exact heap_alloc_new a _)
  obtain⟨K2,H⟩:∃ K2:Nat->Prop,K2=fun k=>t k∨(a.heap.size<=k∧k<g.heap.size):=⟨_,rfl⟩
  have aE:Hid (SD K2 g pd p s d N T):=ZZ (by rw[H];exact D.o.fresh x.o)
  have ap:Hid (∀ k,K2 k->k<g.heap.size):=ZZ (by
   rw[H];intro k hk;rcases hk with hk | hk
   ·exact Nat.lt_of_lt_of_le (au.o k hk) x.o.size
   ·exact hk.2)
  have ag:Hid (∀ k,t k->K2 k):=ZZ (by rw[H];exact fun k hk=>.inl hk)
  have ax:Hid (K2 a.heap.size):=ZZ (by rw[H];exact .inr ⟨Nat.le_refl _,V.o.lt⟩)
  have aI:Hid (Calls prog 62 #[.slice (some ⟨a.heap.size,0,none⟩) 2 2] g fun e w'=>∃ c:Int,e=.returned (.int .i64 c)∧(c=0->SD K2 w' pd p b.1.1 b.1.2 (N+4) T∧b.2=0∧Ql (fun k=>¬ K2 k) g w')∧(c≠0->SD K2 w' pd p b.1.1 b.1.2 (N+4) T∧b.2=c∧Ql (fun k=>¬ K2 k) g w')):=ZZ (by
   have hs:=Znx a.heap.size 0 2 2 (fun i=>if i=0 then⟨65,#[],#[.pointer (some ⟨w.heap.size,0,none⟩)]⟩ else⟨66,#[ptr p],#[]⟩) g
    (fun i W=>Ql (fun k=>¬ K2 k) g W∧(i=0->SD K2 W pd p s d N T)∧(i=1->(Q1 (s,d)).2=0∧SD K2 W pd p (Q1 (s,d)).1.1 (Q1 (s,d)).1.2 (N+2) T)∧(i=2->b.2=0∧SD K2 W pd p b.1.1 b.1.2 (N+4) T))
    (fun c W=>SD K2 W pd p b.1.1 b.1.2 (N+4) T∧b.2=c∧Ql (fun k=>¬ K2 k) g W) (by decide)
    (fun i W I u=>by
     have C:=V.o.keep (u.1.block _ V.o.lt (fun n=>n ax.o))
     match i,I with
     | 0,_=>exact(C.cell 0 rfl).1
     | 1,_=>exact(C.cell 1 rfl).1)
    (fun i W I u=>by
     have am:∀ k,K2 k->k<W.heap.size:=fun k hk=>Nat.lt_of_lt_of_le (ap.o k hk) u.1.size
     match i,I with
     | 0,_=>
      refine(Zny (R:=w.heap.size) W (u.2.1 rfl) am (P.o W ((Ql.ofBelow x.o).trans (u.1.mono (fun k hk n=>hk (ag.o k n))) (fun _ _ h=>h))) U.o.cu).mono ?_
      rintro e w' ⟨rfl,m,M⟩;refine⟨_,rfl,fun j=>⟨u.1.trans M (fun _ _ h=>h),fun h=>absurd h (by decide),fun _=>⟨j,m⟩,fun h=>absurd h (by decide)⟩,fun j=>?_⟩
      have E:b=Q1 (s,d):=by rw[B];unfold Qv;rw[if_neg j]
      rw[E];exact⟨m.mono (by omega) zL,rfl,u.1.trans M (fun _ _ h=>h)⟩
     | 1,_=>
      obtain⟨aJ,ay⟩:=u.2.2.1 rfl;refine(ZlM W ay am).mono ?_;rintro e w' ⟨rfl,m,M⟩;have e2:Qx ((Q1 (s,d)).1.1,(Q1 (s,d)).1.2)=Qx (Q1 (s,d)).1:=rfl;rw[e2] at m ⊢
      have E:(Qx (Q1 (s,d)).1).1=b.1∧(Qx (Q1 (s,d)).1).2=b.2:=by
       rw[B];unfold Qv;rw[if_pos aJ];unfold Qv;split
       ·rename_i j
        exact⟨rfl,j⟩
       ·exact⟨rfl,rfl⟩
      rw[E.1] at m
      exact⟨_,rfl,fun j=>⟨u.1.trans M (fun _ _ h=>h),fun h=>absurd h (by decide),fun h=>absurd h (by decide),fun _=>⟨by rw[<-E.2];exact j,m⟩⟩,fun j=>⟨m,E.2.symm,u.1.trans M (fun _ _ h=>h)⟩⟩)
    (fun i I=>by
     match i,I with
     | 0,_=>exact enters_of func65 (by kernel_rfl) rfl
     | 1,_=>exact enters_of func66 (by kernel_rfl) rfl)
    ⟨Ql.refl _ _,fun _=>aE.o,fun h=>absurd h (by decide),fun h=>absurd h (by decide)⟩
   refine hs.mono ?_;rintro e w' ⟨c,rfl,g1,g2⟩;refine⟨c,rfl,fun j=>?_,g2⟩
   obtain⟨h1,-,-,h4⟩:=g1 j
   exact⟨(h4 rfl).2,(h4 rfl).1,h1⟩)
  have aq:Hid (Ql (fun k=>¬ K k) w g):=ZZ (av.o.trans (Ql.ofBelow (F:=fun _=>False) x.o) (fun _ _ h=>h.elim))
  have Z:Hid (∀ k,K k->K2 k):=ZZ (fun k hk=>ag.o k (an.o k hk))
  have aF:Hid (∀ W,Ql (fun k=>¬ K2 k) g W->W.cell? ⟨w.heap.size,0,none⟩=some (ptr p)):=ZZ (fun W X=>P.o W ((Ql.ofBelow x.o).trans (X.mono (fun k hk n=>hk (ag.o k n))) (fun _ _ h=>h)))
  have ao:=ZZ S;have aL:=D;generalize s.cur=cu at *;clear q B H n S
  go_enter func27,ntmps27
  go_upto_region 1 with fail
  rw[<-z];clear z
  go_wp2_with(go_at_call 62;rw[<-ao.o];refine aI.o.mono ?_)
  rintro e l ⟨c,rfl,ab,ae⟩;clear ao r0 az;by_cases q:c=0
  ·subst q
   obtain⟨L,j,A⟩:=ab rfl;have aH:Hid (v=((Ye b.1.1,b.1.2),0)):=ZZ (by rw[y.o,if_pos j])
   have aC:Hid (∀ k,K2 k->k<l.heap.size):=ZZ (fun k hk=>Nat.lt_of_lt_of_le (ap.o k hk) A.size)
   have aa:=ZZ L;have ar:=ZZ A
   have ac:Hid (∀ W,Below l.heap.size l W->Calls prog 14 #[ptr p] W fun e w'=>e=.returned (.int .i64 b.1.1.next)∧Below l.heap.size l w'):=ZZ (fun W f=>((aa.o.below f).next aw.o).mono (by
    rintro e w' ⟨rfl,C⟩
    exact⟨rfl,f.trans (C.mono f.size)⟩))
   have Q:Hid (∀ W,Below l.heap.size l W->W.cell? ⟨w.heap.size,0,none⟩=some (ptr p)∧W.cell? ⟨p,11,none⟩=some (.int .i64 b.1.1.synced)∧W.frozen? ⟨p,11,none⟩=false):=ZZ (fun W f=>by
    obtain⟨⟨-,ad,-⟩,fz⟩:=(aa.o.below f).cells
    exact⟨aF.o W (ar.o.trans (Ql.ofBelow (F:=fun _=>False) f) (fun _ _ h=>h.elim)),ad,fz 11⟩)
   have ak:Hid (Below l.heap.size l l.drew):=ZZ (Below.refl _ _).drew
   have J:Hid (∀ W,Below l.heap.size l W->Jz K w pd p v (N+4) T (.returned (.int .i64 0)) (W.setCell ⟨p,11,none⟩ (.int .i64 b.1.1.next))):=ZZ (fun W f=>by
    rw[aH.o];have m:=(aa.o.below f).synced (fun k hk=>Nat.lt_of_lt_of_le (aC.o k hk) f.size)
    exact Jz.from (K2:=K2) (W:=W) ⟨rfl,m.1,m.2⟩ Z.o ((aq.o.trans (ar.o.mono (fun k hk n=>hk (Z.o k n))) (fun _ _ h=>h)).trans (Ql.ofBelow (F:=fun _=>False) f) (fun _ _ h=>h.elim)) (by omega) zL)
   obtain⟨q0,aA,qf⟩:=Q.o l (Below.refl _ _);generalize b.1.1.next=nx at *;generalize b.1.1.synced=sy at *;clear ab ae L j A y G
   go_upto_region 6 with fail
   go_region_with(first | (go_at_call 14;refine(ac.o _ (by first | exact ak.o | exact Below.refl _ _)).mono ?_;rintro e W3 ⟨rfl,ai⟩;have aB:=ZZ ai;obtain⟨x0,aM,xf⟩:=Q.o W3 ai;clear ai))
   all_goals
    go_wp2;go_ret;exact J.o _ aB.o
  ·obtain⟨L,j,A⟩:=ae q
   have J:Hid (Jz K w pd p v (N+4) T (.returned (.int .i64 c)) l):=ZZ (by
    rw[y.o,if_neg (by rw[j];exact q)]
    exact Jz.from (K2:=K2) (W:=g) ⟨by rw[j],L,A⟩ Z.o aq.o zL zL)
   have aK:(c != 0)=true:=by rw[bne_iff_ne];exact q
   clear ab ae L j A y G q;go_wp2;go_ret;exact J.o
theorem Own.empty {X:Obj} {cur:Array Value} (a:w.heap.size=N) (c:X=.cells cur 5 (0,0)) (b:B<=N) (cap:Nat) (d:cap<=maxLen) (f:cur.size=cap):Own (w.alloc X) B (.slice (some ⟨N,0,none⟩) 0 cap) []:=by
 subst a c;have h:=World.ownsRow_made (e:=5) (size:=1) (base:=B) w cur cap b d (by omega)
 exact h
theorem ZqV (n:Nat) (w:World) (u:n<=1000000):
 Calls prog 182 #[.slice none 0 0,.int .i64 (n:Int)] w fun e w'=>∃ v',e=.returned v'∧Own w' w.heap.size v' []∧Below w.heap.size w w':=by
 obtain⟨d,f,l,m,c⟩:=info_parts Zlf;by_cases g:n=0
 ·subst g
  go_enter func182,ntmps182
  go_wp2;go_ret;exact⟨_,rfl,Own.nil _ _,Below.refl _ _⟩
 ·have j:∀ ty,(Builtin.append_ #[53,3] ty #[.slice none 0 0,.int .i64 (n:Int)]).run prog w =
   .ok (.slice (some ⟨w.heap.size,0,none⟩) n (grownCap w n 0 5)) (w.drew.alloc (.cells (#[]++Builtin.zeroCells #[.int .u8 0] n++Builtin.zeroCells #[.int .u8 0] (grownCap w n 0 5-n)) 5)):=fun ty=>by
   have h:=Lib.run_append_grow_zeros (P:=prog) w 53 3 ty 5 d (.int .u8 0) .i64 .i64 underlying53 underlying3 f l none 0 0 [] (run_firstCells_none w.drew d.size 0 0 0) n (by omega) (by omega) (by omega) (by omega) (by rw[c];omega)
    (by rw[Nat.zero_add];exact growslice_fits (by omega) (by rw[c];omega))
   rw[Nat.zero_add] at h;exact h
  have q:n<=grownCap w n 0 5:=grownCap_ge w _ _ _;have a:=grownCap_le_maxLen w n 0 5 (by unfold maxLen;omega)
  generalize grownCap w n 0 5=G at *
  have p:G<=9223372036854775807:=by
   unfold maxLen at a;omega
  have b:(#[]++Builtin.zeroCells #[Value.int .u8 0] n++Builtin.zeroCells #[Value.int .u8 0] (G-n)).size=G:=by
   simp[Builtin.zeroCells];omega
  generalize (#[]++Builtin.zeroCells #[Value.int .u8 0] n++Builtin.zeroCells #[Value.int .u8 0] (G-n))=Z at *;have t:(0:Int)<(n:Int):=by omega
  have k:Hid (Own (w.drew.alloc (.cells Z 5)) w.heap.size (.slice (some ⟨w.heap.size,0,none⟩) 0 G) []):=ZZ (Own.empty rfl rfl zL G a b);have i:Hid (Below w.heap.size w (w.drew.alloc (.cells Z 5))):=ZZ (((Below.refl _ _).drew).alloc zL _);clear b a
  go_enter func182,ntmps182
  go_wp2_with(at_builtin;refine Lib.wpList_append_run _ rfl _ _ _ _ rfl _ _ rfl rfl _ _ (j _) ?_)
  all_goals (go_ret;exact⟨_,rfl,k.o,i.o⟩)
theorem Znz (L:List (List UInt8)) (k:Nat) (a:k<L.length):(L.take (k+1)).flatten=(L.take k).flatten++L.getD k []:=by
 have e:L.take (k+1)=L.take k++[L.getD k []]:=by
  rw[take_add_one];simp[List.getD,a]
 rw[e,List.flatten_append];simp
theorem ZyS (L:List (List UInt8)) (k:Nat):((L.take k).flatten).length<=L.flatten.length:=by
 have e:L.flatten=(L.take k).flatten++(L.drop k).flatten:=by rw[<-List.flatten_append,List.take_append_drop]
 rw[e,length_append];omega
def ZlO (L:List (List UInt8)) (k:Nat):Nat:=(L.take k).flatten.length
def Zvh (L:List (List UInt8)) (k:Nat):List UInt8:=(L.take k).flatten
theorem ZnA (L:List (List UInt8)) (k:Nat) (a:k<L.length):Zvh L (k+1)=Zvh L k++L.getD k []:=Znz L k a
theorem ZnB (L:List (List UInt8)) (k:Nat) (a:k<L.length):(ZlO L (k+1):Int)=(ZlO L k:Int)+((L.getD k []).length:Int):=by
 unfold ZlO;rw[Znz L k a,length_append];omega
theorem Zvi (L:List (List UInt8)) (k:Nat):ZlO L k<=L.flatten.length:=ZyS L k
theorem ZqW (L:List (List UInt8)) (k:Nat):(Zvh L k).length=ZlO L k:=rfl
theorem ZqX (L:List (List UInt8)) (k:Nat) (a:L.length<=k):Zvh L k=L.flatten:=by
 unfold Zvh;rw[take_of_length_le a]
theorem Zdi (v:Value) (L:List (List UInt8)) (w:World) (E:RdL w v L) (Q:L.flatten.length<=1000000) (hn:L.length<=1000):
 Calls prog 131 #[v] w fun e w'=>∃ v',e=.returned v'∧Own w' w.heap.size v' L.flatten∧Below w.heap.size w w':=by
 have HG:=ZZ (fun n W h=>ZqV n W h)
 have ag:=ZZ E;have y:Hid (∀ k,ZlO L k<=1000000):=fun k=>Nat.le_trans (Zvi L k) Q
 have B:=ZZ (ZnB L);have aa:=ZZ (ZnA L);have C:=ZZ (ZqX L);have V:=ZZ (ZqW L);obtain⟨F,u⟩:∃ F,F=L.flatten:=⟨_,rfl⟩;rw[<-u];rw[<-u] at C;obtain⟨ao,cap,rfl,-,-,-,G⟩:=E;have R:=ZZ G;clear G u Q
 go_enter func131,ntmps131
 go_wp2
 go_loopw[3,11] (fun vs a wr=>∃ (k:Nat),vs=.int .i64 (ZlO L k:Int)∧a=.int .i64 (k:Int)∧k<=L.length∧wr=w) (fun _ a _=>L.length-(intOf a).toNat)
 case atStart=>exact⟨0,rfl,rfl,Nat.zero_le _,rfl⟩
 case round=>
  obtain⟨k,rfl,rfl,hk,O⟩:=hrel;have Y:=O.symm;subst Y;clear O;by_cases g:k<L.length
  ·rcases R.o with l | ⟨c,ad,rfl,b⟩
   ·rw[l] at g;simp at g
   obtain⟨x,hx,i⟩:=b k g;have H:=y.o (k+1);have q:=B.o k g;obtain⟨ax,cx,rfl,-⟩:=i;have h3:¬ ((ZlO L k:Int)+((L.getD k []).length:Int)<0):=by omega
   have h4:(ZlO L k:Int)+((L.getD k []).length:Int)<=1000000:=by omega
   have S:=ZZ q;clear b H q;generalize ZlO L k=A at *;generalize (L.getD k []).length=D at *;go_wp2;go_roundw
   case rel=>exact⟨k+1,by rw[S.o],by go_num,by omega,trivial⟩
   case measure=>simp[intOf];omega
  ·have ab:=ZZ (HG.o (ZlO L k) w (y.o k))
   generalize ZlO L k=A at *
   go_wp2_with fail
   refine ab.o.mono ?_;rintro e W1 ⟨v1,rfl,K,N⟩;have J:=ZZ K;have z:=ZZ N;clear K N hk g;go_wp2
   go_loopw[6,27] (fun X a I=>∃ (j:Nat),a=.int .i64 (j:Int)∧j<=L.length∧Hid (Own I w.heap.size X (Zvh L j))∧Hid (Below w.heap.size w I)) (fun _ a _=>L.length-(intOf a).toNat)
   case atStart=>exact⟨0,rfl,Nat.zero_le _,J,z⟩
   case round=>
    clear J z;obtain⟨j,rfl,hj,t,d⟩:=hrel;by_cases f:j<L.length
    ·rcases R.o with l | ⟨c,ad,rfl,b⟩
     ·rw[l] at f;simp at f
     obtain⟨x,m,i⟩:=b j f;have hx:=(d.o.cell (World.block_lt_of_cell? _ _ m)).trans m;have af:=ZZ (i.below d.o zL);obtain⟨ax,cx,rfl,-⟩:=i
     have ae:Hid ((Zvh L j).length+(L.getD j []).length<=70368744177664):=ZZ (by
      have H:=y.o (j+1);have q:=B.o j f;rw[V.o]
      omega)
     have T:=ZZ d.o.size;have U:=ZZ (aa.o j f);clear b m;generalize L.getD j []=D at *;generalize Zvh L j=P at *
     go_wp2_with(at_builtin;refine Xw _ rfl _ _ rfl w.heap.size _ P rfl t.o _ D rfl af.o ae.o T.o ?_)
     intro v3 W3 p M;rw[<-U.o] at p;have ac:=ZZ p;have Z:=ZZ (d.o.trans M);clear p M;go_wp2;go_roundw
     case rel=>exact⟨j+1,by go_num,by omega,ac,Z⟩
     case measure=>simp[intOf];omega
    ·have HE:=ZZ (C.o j (by omega))
     rw[HE.o] at t;go_wp2;go_ret;exact⟨_,rfl,t.o,d.o⟩
theorem RdL.built (W:World) (N:Nat) (b:N=W.heap.size) (vs:Array Value) (L:List (List UInt8)) (f:L.length<=1000) (h:∀ j,j<L.length->∃ x,vs[j]?=some x∧Rd W x (L.getD j [])):
 RdL (W.alloc (.cells vs 53)) (.slice (some ⟨N,0,none⟩) L.length L.length) L:=by
 subst b;refine⟨some ⟨W.heap.size,0,none⟩,L.length,rfl,Nat.le_refl _,by unfold maxLen;omega,fun e=>(by cases e),.inr ⟨W.heap.size,0,rfl,fun j c=>?_⟩⟩
 obtain⟨x,d,a⟩:=h j c;refine⟨x,?_,a.below ((Below.refl _ _).alloc zL _) zL⟩;rw[Nat.zero_add,cell_of_row _ W.heap.size j vs 53 (0,0) (heap_alloc_new W _)];exact d
theorem Zvj (W:World) (N:Nat) (v:N=W.heap.size) (k i g f:Value) (a d c b:List UInt8) (u:Rd W k a) (x:Rd W i d) (q:Rd W g c) (t:Rd W f b) (y:a.length+d.length+c.length+b.length<=1000000):
 Calls prog 131 #[.slice (some ⟨N,0,none⟩) 4 4] (W.alloc (.cells #[k,i,g,f] 53)) fun e w'=>∃ v',e=.returned v'∧Own w' W.heap.size v' (a++(d++(c++b)))∧Below W.heap.size W w':=by
 have n:=RdL.built W N v #[k,i,g,f] [a,d,c,b] (by simp) (fun j p=>by
  match j,p with
  | 0,_=>exact⟨k,rfl,u⟩
  | 1,_=>exact⟨i,rfl,x⟩
  | 2,_=>exact⟨g,rfl,q⟩
  | 3,_=>exact⟨f,rfl,t⟩)
 have l:[a,d,c,b].flatten=a++(d++(c++b)):=by simp
 refine(Zdi _ _ _ n (by rw[l];simp only [length_append];omega) (by simp)).mono ?_
 rintro e w' ⟨v',rfl,m,w⟩;rw[l] at m;exact⟨v',rfl,m.mono (by simp),((Below.refl _ _).alloc zL _).trans (w.mono (by simp))⟩
theorem Zvk (W:World) (N:Nat) (q:N=W.heap.size) (g f d:Value) (a c b:List UInt8) (p:Rd W g a) (u:Rd W f c) (n:Rd W d b) (v:a.length+c.length+b.length<=1000000):
 Calls prog 131 #[.slice (some ⟨N,0,none⟩) 3 3] (W.alloc (.cells #[g,f,d] 53)) fun e w'=>∃ v',e=.returned v'∧Own w' W.heap.size v' (a++(c++b))∧Below W.heap.size W w':=by
 have l:=RdL.built W N q #[g,f,d] [a,c,b] (by simp) (fun j m=>by
  match j,m with
  | 0,_=>exact⟨g,rfl,p⟩
  | 1,_=>exact⟨f,rfl,u⟩
  | 2,_=>exact⟨d,rfl,n⟩)
 have i:[a,c,b].flatten=a++(c++b):=by simp
 refine(Zdi _ _ _ l (by rw[i];simp only [length_append];omega) (by simp)).mono ?_
 rintro e w' ⟨v',rfl,k,t⟩;rw[i] at k;exact⟨v',rfl,k.mono (by simp),((Below.refl _ _).alloc zL _).trans (t.mono (by simp))⟩
theorem ZsC (v:Value) (l:List UInt8) (w:World) (c:Rd w v l) (t:l.length<=1000000):
 Calls prog 214 #[v] w fun e w'=>∃ v',e=.returned v'∧Own w' w.heap.size v' l∧Below w.heap.size w w':=by
 have k:=ZZ c;obtain⟨ao,cap,rfl,p,-,b,-⟩:=c
 cases ao with
 | none=>
  obtain rfl:cap=0:=b rfl;obtain rfl:l=[]:=List.eq_nil_of_length_eq_zero (by omega)
  clear b p;have j:∀ w,(binOp .eql 53 (.slice none 0 0) (.slice none 0 0)).run prog w=.ok (.bool true) w:=fun w=>run_eql_slice_nil w _ _ none 0 0 underlying53
  go_enter func214,ntmps214
  go_wp2;go_ret;exact⟨_,rfl,Own.nil _ _,Below.refl _ _⟩
 | some a=>
  clear b;have j:∀ w,(binOp .eql 53 (.slice (some a) l.length cap) (.slice none 0 0)).run prog w=.ok (.bool false) w:=fun w=>run_eql_slice_nil w _ _ (some a) _ _ underlying53
  have g:Hid (∀ X,Below w.heap.size w (w.alloc X)):=fun X=>(Below.refl _ _).alloc zL X
  have m:Hid (Own (w.alloc (.cells #[] 5)) w.heap.size (.slice (some ⟨w.heap.size,0,none⟩) 0 0) []):=ZZ (Own.empty rfl rfl zL 0 (Nat.zero_le _) rfl)
  go_enter func214,ntmps214
  go_wp2_with(at_builtin;refine Xw _ rfl _ _ rfl w.heap.size _ [] rfl m.o _ l rfl (k.o.below (g.o _) zL) (by simp;omega) (by simp) ?_)
  intro u q f d;have n:=ZZ f;have i:=ZZ ((g.o _).trans d);clear f d;go_wp2;go_ret;exact⟨_,rfl,n.o,i.o⟩
def Xx:Array Value:=((List.range 256).map fun c=>Value.int .u32 ((Zdo c:Nat):Int)).toArray
def Z9:Array Value:=(List.replicate 256 (Value.int .u32 0)).toArray
theorem ZgZ:(prog.info? 266).map (fun i=>(i.zero,i.size))=some (some (.agg Z9),256):=by kernel_rfl
theorem Gl:Xx.size=256:=by simp[Xx]
theorem ZcN:Z9.size=256:=by
 unfold Z9;rw[List.size_toArray,List.length_replicate]
theorem Zgp:Xx.all (·.oneCell')=true:=by
 rw[Array.all_eq_true];intro i a;simp[Xx,Value.oneCell']
theorem Ziz (k:Nat) (h:k<256):Xx[k]?=some (.int .u32 ((Zdo k:Nat):Int)):=by
 simp[Xx,h]
theorem Zvl (w:World):(Instr.storeAt 266 (.pointer (some ⟨w.heap.size,0,none⟩)) (.agg Xx)).run prog (w.alloc (.cells Z9 266))=.ok () (w.alloc (.cells Xx 266)):=
 run_storeAt_new w 266 Z9 Xx (by rw[Gl];exact(zero_of_info ZgZ).2) (by rw[Gl,ZcN]) Zgp
def Zxn (w:World) (b:Nat):Prop:=∀ k,k<256->w.cell? ⟨b,k,none⟩=some (.int .u32 ((Zdo k:Nat):Int))
theorem Zxn.made (w:World):Zxn (w.alloc (.cells Xx 266)) w.heap.size:=by
 intro k a;rw[cell_of_row _ w.heap.size k Xx 266 (0,0) (heap_alloc_last w _)];exact Ziz k a
theorem ZiA (w:World) {b:Array Oper} {rest:List Oper} {o:Oper} {a:Act} {Q:Exit->Act->World->Prop} (c:o.guard=none) (x y:Operand) (g:o.op=.store 266 x y)
 (e:a.eval x=.pointer (some ⟨w.heap.size,0,none⟩)) (f:a.eval y=.agg Xx)
 (h:∀ w',Below w.heap.size w w'->Zxn w' w.heap.size->wpList prog b Q rest (a.put o.dst undef) w'):wpList prog b Q (o::rest) a (w.alloc (.cells Z9 266)):=
 wpList_plain c fun _ d=>by
  have i:=Zvl w;unfold Oper.wp execOp;simp only [g,e,f,i,Sem.run_bind,Sem.run_pure,Result.andThen_ok];exact d _ _ (h _ ((Below.refl _ _).alloc zL _) (Zxn.made w))
def ZiB (k:Nat):Array Value:=((List.range 256).map fun c=>if c<k then Value.int .u32 ((Zdo c:Nat):Int) else Value.int .u32 0).toArray
theorem ZbP (k:Nat):(ZiB k).size=256:=by simp[ZiB]
theorem ZcO (k i:Nat) (h:i<256):(ZiB k)[i]?=some (if i<k then Value.int .u32 ((Zdo i:Nat):Int) else Value.int .u32 0):=by
 simp[ZiB,h]
theorem ZsD:ZiB 0=Z9:=by
 apply Array.ext_getElem?;intro i;by_cases h:i<256
 ·rw[ZcO 0 i h]
  unfold Z9;rw[List.getElem?_toArray,List.getElem?_replicate_of_lt h];simp
 ·rw[Array.getElem?_eq_none (by rw[ZbP];omega),Array.getElem?_eq_none (by rw[ZcN];omega)]
theorem ZsE:ZiB 256=Xx:=by
 apply Array.ext_getElem?;intro i;by_cases h:i<256
 ·rw[ZcO 256 i h,if_pos h,Ziz i h]
 ·rw[Array.getElem?_eq_none (by rw[ZbP];omega),Array.getElem?_eq_none (by rw[Gl];omega)]
theorem Zvm (k:Nat) (b:k<256):(ZiB k).setIfInBounds k (Value.int .u32 ((Zdo k:Nat):Int))=ZiB (k+1):=by
 apply Array.ext_getElem?;intro i;rw[Array.getElem?_setIfInBounds];by_cases h:i<256
 ·rw[ZcO (k+1) i h,ZcO k i h,ZbP]
  by_cases a:k=i
  ·subst a
   simp[b]
  ·rw[if_neg a]
   have e:(i<k+1)=(i<k):=by
    apply propext;omega
   simp only [e]
 ·have a:¬ k=i:=by omega
  rw[if_neg a,Array.getElem?_eq_none (by rw[ZbP];omega),Array.getElem?_eq_none (by rw[ZbP];omega)]
theorem ZlP {C:Array Value} (h:C.size=256):(prog.info? 266).map (·.size)=some C.size:=by
 rw[h];exact(zero_of_info ZgZ).2
theorem ZiC (w:World) {b:Array Oper} {rest:List Oper} {o:Oper} {a:Act} {Q:Exit->Act->World->Prop} (j:o.guard=none) (x:Operand) (e:o.op=.load 266 x)
 (g:Nat) (C:Array Value) (c:Nat × Nat) (k:a.eval x=.pointer (some ⟨g,0,none⟩)) (i:w.heap[g]?=some (.cells C 266 c)) (f:C.size=256)
 (h:wpList prog b Q rest (a.put o.dst (.agg C)) w):wpList prog b Q (o::rest) a w:=
 wpList_plain j fun _ d=>by
  have l:=run_loadVar_row (P:=prog) w g 266 266 C c _ i underlying266 rfl (ZlP f);unfold Oper.wp execOp;simp only [e,k,Instr.loadAt,Instr.sureAddr,Sem.run_bind,Sem.run_pure,Result.andThen_ok,l];exact d _ _ h
theorem ZgG (w:World) {c:Array Oper} {rest:List Oper} {o:Oper} {a:Act} {Q:Exit->Act->World->Prop} (k:o.guard=none) (x y:Operand) (f:o.op=.store 266 x y)
 (g:Nat) (C D:Array Value) (m:a.eval x=.pointer (some ⟨g,0,none⟩)) (e:a.eval y=.agg D) (j:w.heap[g]?=some (.cells C 266 (0,0))) (i:C.size=256) (b:D.size=256) (l:D.all (·.oneCell')=true)
 (h:wpList prog c Q rest (a.put o.dst undef) (w.setRow g D)):wpList prog c Q (o::rest) a w:=
 wpList_plain k fun _ d=>by
  have n:=run_storeVar_row (P:=prog) w g 266 266 C D j (ZlP b) (by rw[i,b]) l
  unfold Oper.wp execOp;simp only [f,m,e,Instr.storeAt,Instr.sureAddr,Sem.run_bind,Sem.run_pure,Result.andThen_ok,n];exact d _ _ h
theorem ZnC {fn:Func} {p:Tmp} {ty:TypeId} (h:fn.results=#[.cell p ty]) (b:Array Value) (P:Program) (w:World):
 (results fn b).run P w=((asAddr (b.getD p undef)).run P w).andThen fun a c=>(loadVar ty a).run P c:=by
 simp only [results,h];simp[Sem.run_bind,Result.andThen]
theorem Zvn (k:Nat) (l:k<256) (w:World):Calls prog 225 #[.int .u32 (k:Int)] w fun e w'=>e=.returned (.int .u32 (Zdo k:Nat))∧w'=w:=by
 have v:=ZZ l;clear l
 go_enter func225,ntmps225
 go_wp2
 go_loop [0,4] (fun x j=>∃ m:Nat,m<=8∧j=.int .i64 (m:Int)∧x=.int .u32 (Gu m k:Nat)) (fun _ j=>8-(intOf j).toNat)
 case atStart=>exact⟨0,Nat.zero_le _,rfl,rfl⟩
 case round=>
  obtain⟨m,A,rfl,rfl⟩:=hrel;by_cases C:m<8
  ·have n:=ZZ (Zsy m k)
   have i:Gu m k<4294967296:=ZuX m (by have:=v.o;omega)
   generalize Gu m k=y at *;obtain⟨Y,d⟩:∃ Y:Int,Y=(y:Int):=⟨_,rfl⟩;rw[<-d];have B:0<=Y:=by omega
   have D:Y<4294967296:=by omega
   have g:=ZZ d;have t:=ZZ i;clear d i;by_cases a:Y % 2=1
   ·have q:(Y % 2 == 1)=true:=beq_iff_eq.2 a
    have f:=ZZ a;clear a;go_wp2
    go_round
    case rel=>
     have e:=g.o;have u:=f.o;refine⟨m+1,by omega,by go_num,?_⟩
     have c:Y / 2=((y / 2:Nat):Int):=by omega
     have z:(2197175160:Int)=((2197175160:Nat):Int):=rfl;have b:ZrD y=y / 2 ^^^ 2197175160:=if_pos (by omega)
     rw[n.o,b,c,z,ZpB _ _ (by have:=t.o;omega) (by decide)]
    case measure=>simp[intOf];omega
   ·have q:(Y % 2 == 1)=false:=beq_eq_false_iff_ne.2 a
    have f:=ZZ a;clear a;go_wp2
    go_round
    case rel=>
     have e:=g.o;have u:=f.o;refine⟨m+1,by omega,by go_num,?_⟩
     have c:Y / 2=((y / 2:Nat):Int):=by omega
     have b:ZrD y=y / 2:=if_neg (by omega)
     rw[n.o,b,c]
    case measure=>simp[intOf];omega
  ·have p:Hid (Gu m k=Zdo k):=by
    have e:m=8:=by omega
    rw[e];exact rfl
   generalize Gu m k=y at *;go_wp2;go_ret;refine⟨ZbV ?_,rfl⟩;rw[p.o]
theorem Zvo (w:World):Calls prog 215 #[] w fun e w'=>e=.returned (.agg Xx)∧Below w.heap.size w w':=by
 have A:=(zero_of_info ZgZ).1;have m:Hid (∀ (k:Nat) (w:World),k<256->Calls prog 225 #[.int .u32 (k:Int)] w fun e w'=>e=.returned (.int .u32 (Zdo k:Nat))∧w'=w):=fun k w f=>Zvn k f w
 go_enter func215,ntmps215
 go_wp2
 go_loopw[3] (fun i wr=>∃ k:Nat,k<=256∧i=.int .i64 (k:Int)∧Hid (wr.heap[w.heap.size+1]?=some (.cells (ZiB k) 266 (0,0)))∧Hid (wr.heap[w.heap.size]?=some (.cells Z9 266 (0,0)))∧Hid (Below w.heap.size w wr)) (fun i _=>256-(intOf i).toNat)
 case atStart=>
  have t:((w.alloc (.cells Z9 266)).alloc (.cells Z9 266)).heap[w.heap.size+1]?=some (.cells (ZiB 0) 266 (0,0)):=by
   rw[ZsD];have h:=heap_alloc_last (w.alloc (.cells Z9 266)) (.cells Z9 266);have y:(w.alloc (.cells Z9 266)).heap.size=w.heap.size+1:=by simp
   rw[y] at h;exact h
  have x:((w.alloc (.cells Z9 266)).alloc (.cells Z9 266)).heap[w.heap.size]?=some (.cells Z9 266 (0,0)):=
   (Below.heap_alloc _ _ w.heap.size (by simp)).trans (heap_alloc_last w _)
  exact⟨0,Nat.zero_le _,rfl,t,x,((Below.refl _ _).alloc zL _).alloc (by simp) _⟩
 case round=>
  obtain⟨k,f,rfl,b,c,a⟩:=hrel;by_cases d:k<256
  ·have C:wr.cell? ⟨w.heap.size+1,k,none⟩=some (.int .u32 0):=by
    rw[cell_of_row wr _ k _ _ _ b.out,ZcO k k d];simp
   have B:wr.frozen? ⟨w.heap.size+1,k,none⟩=false:=frozen_of_row wr _ k _ _ b.out
   have p:Hid ((wr.setCell ⟨w.heap.size+1,k,none⟩ (.int .u32 ((Zdo k:Nat):Int))).heap[w.heap.size+1]?=some (.cells (ZiB (k+1)) 266 (0,0))):=by
    have h:=heap_setCell_same wr (w.heap.size+1) k _ _ (.int .u32 ((Zdo k:Nat):Int)) b.out;rw[Zvm k d] at h;exact h
   go_wp2_with fail
   refine(m.o k wr d).mono ?_;rintro e z ⟨rfl,rfl⟩;go_wp2;go_roundw
   case rel=>exact⟨k+1,by omega,by go_num,p,(Below.heap_setCell _ _ _ _ (by show w.heap.size≠w.heap.size+1;omega)).trans c.out,a.out.setCell (by show w.heap.size<=w.heap.size+1;omega) _⟩
   case measure=>simp[intOf];omega
  ·have g:wr.heap[w.heap.size+1]?=some (.cells Xx 266 (0,0)):=by
    have e:k=256:=by omega
    rw[<-ZsE,<-e];exact b.out
   have n:=ZZ g
   have u:Hid ((loadVar 266 ⟨w.heap.size,0,none⟩).run prog (wr.setRow w.heap.size Xx)=.ok (.agg Xx) (wr.setRow w.heap.size Xx)):=
    run_loadVar_row (P:=prog) _ _ 266 266 Xx (0,0) _ (setRow_heap wr _ _ Xx _ _ c.out) underlying266 rfl (ZlP Gl)
   have q:Hid (Below w.heap.size w (wr.setRow w.heap.size Xx)):=
    ⟨a.out.os,a.out.tape,a.out.output,by have:=a.out.size;simp[World.setRow];omega,fun j l=>(setRow_other wr _ j _ (by omega)).trans (a.out.block j l)⟩
   clear g b
   go_wp2_with(first
    | refine ZiC _ rfl _ rfl (w.heap.size+1) Xx (0,0) rfl n.o Gl ?_
    | refine ZgG _ rfl _ _ rfl w.heap.size Z9 Xx rfl rfl c.out ZcN Gl Zgp ?_)
   refine bodyPost_ret (v:=.agg Xx) ?_ rfl ⟨rfl,q.o⟩;have h:=u.o;rw[ZnC Tryz.results215];have e:(asAddr (.pointer (some ⟨w.heap.size,0,none⟩))).run prog (wr.setRow w.heap.size Xx)=.ok ⟨w.heap.size,0,none⟩ (wr.setRow w.heap.size Xx):=by simp[asAddr]
   simp only [Act.put,List.setIfInBounds_toArray,List.set_cons_succ,List.set_cons_zero];show((asAddr (.pointer (some ⟨w.heap.size,0,none⟩))).run prog (wr.setRow w.heap.size Xx)).andThen _=_;rw[e];simp only [Result.andThen];rw[h]
theorem Zxo (s:Nat) (v:Value) (l:List UInt8) (w:World) (n:Rd w v l) (j:s<4294967296):
 Calls prog 187 #[.int .u32 (s:Int),v] w fun e w'=>e=.returned (.int .u32 (Q2 s l:Nat))∧Below w.heap.size w w':=by
 have M:=ZZ n;obtain⟨ao,cap,rfl,aa,L,I,a⟩:=n;clear I;have Q:=ZZ a;clear a;have Y:(l.length:Int)<=9223372036854775807:=by unfold maxLen at L;omega
 have K:=ZZ (ZuY s j);have N:Hid (∀ k,Zbr (s ^^^ 4294967295) (l.take k)<4294967296):=fun k=>Zhw _ (Zuj j)
 have H:Hid (Q2 s l=Zbr (s ^^^ 4294967295) l ^^^ 4294967295):=rfl;have p:=ZZ (fun w=>Zvo w)
 have P:=(zero_of_info ZgZ).1;generalize s ^^^ 4294967295=f at *;clear j
 go_enter func187,ntmps187
 go_wp2_with fail
 refine(p.o _).mono ?_;rintro e U ⟨rfl,q⟩;have B:=ZZ q;clear q p
 go_wp2_with(refine ZiA _ rfl _ _ rfl rfl rfl ?_)
 intro w3 F t;have D:=ZZ (B.o.trans (F.mono B.o.size));have G:=ZZ t;clear F t P;go_wp2
 go_loop [6,14] (fun x i=>∃ k:Nat,k<=l.length∧i=.int .i64 k∧x=.int .u32 (Zbr f (l.take k):Nat)) (fun _ i=>l.length-(intOf i).toNat)
 case atStart=>
  refine⟨0,Nat.zero_le _,rfl,?_⟩;rw[K.o];rfl
 case round=>
  obtain⟨k,W,rfl,rfl⟩:=hrel;have J:=N.o k;by_cases g:k<l.length
  ·have R:=ZZ (ZpC l f k g)
   rcases Q.o with a | ⟨b,S,rfl,_⟩
   ·subst a;simp at g
   have T:=(M.o.below D.o zL).at k g;have d:(l.getD k 0).toNat<256:=UInt8.toNat_lt _;generalize Zbr f (l.take k)=y at *;generalize (l.getD k 0).toNat=c at *;have A:=ZyO y c d
   have Z:bits .xor .u8 ((y:Int) % 256) (c:Int)=((y % 256 ^^^ c:Nat):Int):=by
    have e:(y:Int) % 256=((y % 256:Nat):Int):=by omega
    rw[e];exact ZzF _ _ (by omega) d
   have C:Hid (bits .xor .u32 ((Zdo (y % 256 ^^^ c):Nat):Int) ((y:Int) / 256)=((ZdH y c:Nat):Int)):=by
    have e:(y:Int) / 256=((y / 256:Nat):Int):=by omega
    rw[e,ZpB _ _ (Zxl _ A) (by omega)]
    unfold ZdH;rw[Zxk y c d];exact rfl
   have O:=G.o (y % 256 ^^^ c) A;generalize u:y % 256 ^^^ c=m at *;have X:=ZZ u;clear u;have V:(m:Int)<256:=by omega
   obtain⟨E,z⟩:∃ E:Int,E=((Zdo m:Nat):Int):=⟨_,rfl⟩;rw[<-z] at O C;clear z;go_wp2
   go_round
   case rel=>exact⟨k+1,by omega,by go_num,by rw[R.o,<-C.o]⟩
   case measure=>simp[intOf];omega
  ·go_wp2
   go_ret;refine⟨ZbV ?_,D.o⟩;rw[H.o,ZuY _ J,take_of_length_le (by omega)]
theorem ZlQ (v:Value) (l:List UInt8) (w:World) (a:Rd w v l):
 Calls prog 136 #[v] w fun e w'=>e=.returned (.int .u32 (Q2 0 l:Nat))∧Below w.heap.size w w':=by
 have c:Hid (Calls prog 187 #[.int .u32 0,v] w fun e w'=>e=.returned (.int .u32 (Q2 0 l:Nat))∧Below w.heap.size w w'):=Zxo 0 v l w a (by decide)
 generalize Q2 0 l=m at *;clear a
 go_enter func136,ntmps136
 go_wp2_with fail
 refine c.o.mono ?_;rintro e w' ⟨rfl,b⟩;have d:=ZZ b;clear b c;go_wp2;go_ret;exact⟨rfl,d.o⟩
def ZgH (v:Value) (l:List UInt8) (xs:List Value) (L:List (List UInt8)):Prop:=
 xs.length=L.length∧∀ j,j<L.length->∃ x,xs[j]?=some x∧x.oneCell'=true∧∀ W,Rd W v l->Rd W x (L.getD j [])
theorem ZgH.nil (v:Value) (l:List UInt8):ZgH v l [] []:=⟨rfl,fun j a=>absurd a (by simp)⟩
theorem ZgH.snoc (h:ZgH v l xs L) {x:Value} {d:List UInt8} (k:x.oneCell'=true) (f:∀ W,Rd W v l->Rd W x d):ZgH v l (xs++[x]) (L++[d]):=by
 refine⟨by simp[h.1],fun j b=>?_⟩
 rw[length_append,length_singleton] at b;by_cases a:j<L.length
 ·obtain⟨y,g,c,i⟩:=h.2 j a
  refine⟨y,by rw[List.getElem?_append_left (by rw[h.1];exact a)];exact g,c,?_⟩
  have e:(L++[d]).getD j []=L.getD j []:=by simp[List.getD,List.getElem?_append_left a]
  rw[e];exact i
 ·have m:j=L.length:=by omega
  subst m;refine⟨x,by rw[List.getElem?_append_right (by rw[h.1];omega),h.1];simp,k,?_⟩
  have e:(L++[d]).getD L.length []=d:=by simp[List.getD]
  rw[e];exact f
theorem ZgH.one (h:ZgH v l xs L):∀ u ∈ xs,u.oneCell'=true:=fun u d=>by
 obtain⟨j,b,rfl⟩:=List.getElem_of_mem d;obtain⟨x,a,c,-⟩:=h.2 j (by rw[<-h.1];exact b)
 rw[List.getElem?_eq_getElem b] at a;obtain rfl:=Option.some.inj a;exact c
theorem Zvp:(prog.info? 53).map (fun i=>(i.zero,i.size,i.bytes))=some (some (.slice none 0 0),1,24):=by kernel_rfl
theorem ZiD (w:World) (ty:TypeId) (B:Nat) (v:Value) (n:Nat) (xs:List Value) (h:w.ownsRow B 53 1 v n xs) (a:Addr) (m cap:Nat) (b:List Value) (q:b.length=m) (p:∀ j u,b[j]?=some u->w.cell? (a.add j)=some u) (g:∀ u ∈ b,u.oneCell'=true) (A:n+m<=1000000) (c:B<=w.heap.size):
 ∃ v' w',(Builtin.append_ #[144,144] ty #[v,.slice (some a) m cap]).run prog w=.ok v' w'∧w'.ownsRow B 53 1 v' (n+m) (xs++b)∧Below B w w':=by
 obtain⟨x,e,y,d,z⟩:=info_parts Zvp
 obtain⟨v',w',l,i,f,_⟩:=run_append_own (P:=prog) w B 144 ty 53 x (.slice none 0 0) 1 24 underlying144 e y d z rfl (by decide) v n xs h
  a m cap b (by rw[q,Nat.mul_one]) p g (by unfold maxLen;omega) (by omega) c
 exact⟨v',w',l,i,(Below.refl _ _).grown f c (fun k t=>(World.ownsRow.lt h k t).1)⟩
theorem Zam (w:World) {c:Array Oper} {rest:List Oper} {o:Oper} {a:Act} {Q:Exit->Act->World->Prop} (A:o.guard=none) (s x:Operand)
 (p:o.op=.call { callee:=.builtin .append,args:=#[s,x],argTypes:=#[144,144] })
 (B:Nat) (v:Value) (n:Nat) (xs:List Value) (C:a.eval s=v) (t:w.ownsRow B 53 1 v n xs) (d:Addr) (m cap:Nat) (b:List Value) (D:a.eval x=.slice (some d) m cap) (z:b.length=m) (y:∀ j u,b[j]?=some u->w.cell? (d.add j)=some u) (k:∀ u ∈ b,u.oneCell'=true)
 (l:n+m<=1000000) (i:B<=w.heap.size)
 (h:∀ v' w',w'.ownsRow B 53 1 v' (n+m) (xs++b)->Below B w w'->wpList prog c Q rest (a.put o.dst v') w'):wpList prog c Q (o::rest) a w:=
 wpList_plain A fun _ e=>by
  obtain⟨v',w',q,f,g⟩:=ZiD w o.type B v n xs t d m cap b z y k l i;unfold Oper.wp execOp;simp only [p,resolve,invoke,builtin,Sem.run_bind,Sem.run_pure,Result.andThen_ok,List.map_toArray,List.map_cons,List.map_nil,C,D,q];exact e _ _ (h v' w' f g)
theorem Zxp (ao:Option Addr) (l:List UInt8) (cap:Nat) (g:l.length<=cap) (i j:Nat) (f:i<=j) (e:j<=l.length):
 ∃ a b c,(∀ W,(Instr.sliceAt 53 (.slice ao l.length cap) (some (.int .i64 (i:Int))) (some (.int .i64 (j:Int))) (some (.int .i64 (j:Int)))).run prog W=.ok (.slice a b c) W)∧∀ W,Rd W (.slice ao l.length cap) l->Rd W (.slice a b c) ((l.drop i).take (j-i)):=by
 have d:∃ a b c,sliced ao i j j 1=.slice a b c:=by
  unfold sliced;exact⟨_,_,_,rfl⟩
 obtain⟨a,b,c,d⟩:=d;refine⟨a,b,c,fun W=>?_,fun W h=>?_⟩
 ·rw[run_sliceAt_slice W 53 _ _ _ _ Xu,run_slice_lhm W 53 ao l.length cap Xu .i64 .i64 .i64 (i:Int) (j:Int) (j:Int) (by omega) (by omega) (by omega) (by omega),Jo,Zce]
  simp only [Int.toNat_natCast];rw[<-d];rfl
 ·rw[<-d]
  exact h.mid i j j f e zL (by omega)
theorem ZiE (w:World) (x:Obj):w.heap.size<=(w.alloc x).heap.size:=((Below.refl w.heap.size w).alloc zL x).size
theorem ZnD (w:World) (v:Value):∀ j u,[v][j]?=some u->(w.alloc (.cells #[v] 53)).cell? ((⟨w.heap.size,0,none⟩:Addr).add j)=some u:=fun j u a=>by
 rw[Addr.add_lit,Nat.zero_add,cell_of_row _ w.heap.size j _ 53 (0,0) (heap_alloc_new w _)];rw[<-List.getElem?_toArray] at a;exact a
def ZyT (w:World) (v:Value) (l:List UInt8) (L:List (List UInt8)) (e:Ending) (w':World):Prop:=
 ∃ v' xs,e=.returned v'∧w'.ownsRow w.heap.size 53 1 v' L.length xs∧ZgH v l xs L∧Below w.heap.size w w'
theorem ZkB (v:Value) (l:List UInt8) (w:World) (R:Rd w v l) (ab:l.length<=100000):
 Calls prog 102 #[v] w fun e w'=>ZyT w v l (Ya l) e w':=by
 obtain⟨ao,cap,rfl,Y,V,-⟩:=R;have n:=ZZ (fun i j=>Zxp ao l cap Y i j)
 have D:Hid (∀ A,A<l.length->Ya (l.drop A)=(l.drop A).take 64::Ya (l.drop (A+64))):=ZZ (fun A h=>Zpe h)
 have z:Hid (Ya l=[]++Ya (l.drop 0)):=ZZ (by simp)
 have x:Hid (∀ A,l.length<=A->Ya (l.drop A)=[]):=ZZ (fun A h=>by rw[List.drop_eq_nil_of_le h,Yn])
 have C:Hid (∀ A,l.length<=A+64->(l.drop A).take (l.length-A)=(l.drop A).take 64):=ZZ (fun A h=>by
  rw[take_of_length_le (by rw[List.length_drop];omega),take_of_length_le (by rw[List.length_drop];omega)])
 obtain⟨m,N⟩:∃ m,m=Ya l:=⟨_,rfl⟩;rw[<-N] at z ⊢;clear N V
 go_enter func102,ntmps102
 go_wp2
 go_loopw[3,4] (fun vo E wr=>∃ (A:Nat) (P:List (List UInt8)) (xs:List Value),E=.int .i64 (A:Int)∧P.length<=A∧A<=l.length+64∧Hid (wr.ownsRow w.heap.size 53 1 vo P.length xs)∧Hid (ZgH (.slice ao l.length cap) l xs P)∧Hid (m=P++Ya (l.drop A))∧Hid (Below w.heap.size w wr)) (fun _ E _=>l.length+64-(intOf E).toNat)
 case atStart=>exact⟨0,[],[],rfl,Nat.le_refl _,by omega,ZZ (World.ownsRow_nil w w.heap.size 53 1),ZZ (ZgH.nil _ _),z,Below.refl _ _⟩
 case round=>
  clear z;obtain⟨A,P,xs,rfl,ad,hA,F,K,H,f⟩:=hrel;by_cases W:A<l.length
  case neg=>
   have aa:¬ (A:Int)<(l.length:Int):=by omega
   have Z:Hid (m=P):=ZZ (by rw[H.out,x.o A (by omega),List.append_nil])
   go_wp2;go_ret;rw[Z.o];exact⟨_,xs,rfl,F.out,K.out,f.out⟩
  have ac:(A:Int)<(l.length:Int):=by omega
  have O:=ZZ (D.o A W);by_cases h:A+64<=l.length
  ·obtain⟨a,b,c,hcut,d⟩:=n.o A (A+64) (by omega) h
   have Q:((A+64:Nat):Int)=(A:Int)+64:=by omega
   have M:A+64-A=64:=by omega
   rw[Q] at hcut;rw[M] at d;have G:=ZZ d;have T:(A:Int)+64<=(l.length:Int):=by omega
   have U:min ((A:Int)+64) (l.length:Int)=(A:Int)+64:=by omega
   have X:¬ (l.length:Int)<(A:Int)+64:=by omega
   have t:Hid (w.heap.size<=(wr.alloc (.cells #[.slice a b c] 53)).heap.size):=ZZ (Nat.le_trans f.out.size (ZiE wr _));have y:Hid ((wr.alloc (.cells #[.slice a b c] 53)).ownsRow w.heap.size 53 1 _ P.length xs):=ZZ (World.ownsRow.alloc F.out _);have q:=ZZ (ZnD wr (.slice a b c));have p:Hid (∀ u ∈ [Value.slice a b c],u.oneCell'=true):=ZZ (fun u J=>by rw[List.mem_singleton.1 J];rfl)
   have L:P.length+1<=1000000:=by omega
   clear d Q M D n x C h
   go_wp2_with(at_builtin;refine Zam _ rfl _ _ rfl w.heap.size _ P.length xs rfl y.o ⟨wr.heap.size,0,none⟩ 1 1 [.slice a b c] rfl rfl q.o p.o L t.o ?_)
   intro v1 S k g;have I:=ZZ k;have B:=ZZ ((f.out.alloc f.out.size _).trans g);clear k g;go_wp2;go_roundw
   case rel=>exact⟨A+64,P++[(l.drop A).take 64],xs++[.slice a b c],by go_num,by simp;omega,by omega,ZZ (by rw[length_append,length_singleton];exact I.o),ZZ (K.out.snoc rfl G.o),ZZ (by rw[H.out,O.o,append_assoc];rfl),B⟩
   case measure=>simp[intOf];omega
  ·obtain⟨a,b,c,hcut,d⟩:=n.o A l.length (by omega) zL
   rw[C.o A (by omega)] at d
   have G:=ZZ d;have T:(l.length:Int)<(A:Int)+64:=by omega
   have U:min ((A:Int)+64) (l.length:Int)=(l.length:Int):=by omega
   have X:¬ (A:Int)+64<=(l.length:Int):=by omega
   have t:Hid (w.heap.size<=(wr.alloc (.cells #[.slice a b c] 53)).heap.size):=ZZ (Nat.le_trans f.out.size (ZiE wr _));have y:Hid ((wr.alloc (.cells #[.slice a b c] 53)).ownsRow w.heap.size 53 1 _ P.length xs):=ZZ (World.ownsRow.alloc F.out _);have q:=ZZ (ZnD wr (.slice a b c));have p:Hid (∀ u ∈ [Value.slice a b c],u.oneCell'=true):=ZZ (fun u J=>by rw[List.mem_singleton.1 J];rfl)
   have L:P.length+1<=1000000:=by omega
   clear d D n x C h
   go_wp2_with(at_builtin;refine Zam _ rfl _ _ rfl w.heap.size _ P.length xs rfl y.o ⟨wr.heap.size,0,none⟩ 1 1 [.slice a b c] rfl rfl q.o p.o L t.o ?_)
   intro v1 S k g;have I:=ZZ k;have B:=ZZ ((f.out.alloc f.out.size _).trans g);clear k g;go_wp2;go_roundw
   case rel=>exact⟨A+64,P++[(l.drop A).take 64],xs++[.slice a b c],by go_num,by simp;omega,by omega,ZZ (by rw[length_append,length_singleton];exact I.o),ZZ (K.out.snoc rfl G.o),ZZ (by rw[H.out,O.o,append_assoc];rfl),B⟩
   case measure=>simp[intOf];omega
theorem ZjO (i:Int) (v:Value) (l:List UInt8) (w:World) (f:Rd w v l):
 Calls prog 100 #[.int .i64 i,v] w fun e w'=>e=.returned (.agg #[.int .i64 i,.int .i64 (l.length:Int),.int .u32 ((Q2 0 l:Nat):Int)])∧Below w.heap.size w w':=by
 have d:Hid (∀ X,Below w.heap.size w (w.alloc X)):=fun X=>(Below.refl _ _).alloc zL X
 have j:=ZZ (fun W (h:Below w.heap.size w W)=>ZlQ v l W (f.below h zL))
 obtain⟨ao,cap,rfl,-⟩:=f;generalize Q2 0 l=m at *;obtain⟨M,g⟩:∃ M:Int,M=(m:Int):=⟨_,rfl⟩;rw[<-g] at j ⊢;clear g;have p:Hid (∀ cs,(w.alloc (.cells cs 147)).heap[w.heap.size]?=some (.cells cs 147 (0,0))):=fun cs=>heap_alloc_new w _
 go_enter func100,ntmps100
 go_wp2_with fail
 refine(j.o _ (d.o _)).mono ?_;rintro x b ⟨rfl,c⟩;have k:=ZZ ((d.o _).trans (c.mono (d.o _).size));have a:=(c.block w.heap.size (by simp)).trans (p.o _)
 have t:=cell_of_row b w.heap.size 0 _ _ _ a;have n:=cell_of_row b w.heap.size 1 _ _ _ a;have q:=cell_of_row b w.heap.size 2 _ _ _ a;have y:=frozen_of_row b w.heap.size 0 _ _ a;have z:=frozen_of_row b w.heap.size 1 _ _ a;have u:=frozen_of_row b w.heap.size 2 _ _ a;clear c a;go_wp2;refine bodyPost_ret (v:=.agg #[.int .i64 i,.int .i64 (l.length:Int),.int .u32 M]) (by simp[results,Tryz.results100,go_sem,t,n,q]) rfl ?_
 exact⟨rfl,((k.o.setCell zL _).setCell zL _).setCell zL _⟩
theorem ZnE:∀ (A B:List Int),Zr (A++B)=Zr A++Zr B
 | [],_=>rfl
 | x::r,B=>by rw[List.cons_append,Zr,ZnE r B,Zr,append_assoc]
theorem Zgq:∀ (L:List Int),(∀ x ∈ L,I64 x)->(Zr L).length<=10*L.length
 | [],_=>by simp[Zr]
 | x::r,h=>by
  have b:=Zgq r (fun y a=>h y (by simp[a]))
  have c:=Zwv (h x (by simp))
  rw[Zr,length_append,List.length_cons];omega
theorem ZsF (L:List Int) (k:Nat) (a:k<L.length):Zr (L.take (k+1))=Zr (L.take k)++Lib.uvarint (Lib.zigzag (L.getD k 0)):=by
 have e:L.take (k+1)=L.take k++[L.getD k 0]:=by
  rw[take_add_one];simp[List.getD,a]
 rw[e,ZnE];simp[Zr]
def Zvq (s:St):List UInt8:=(Lib.uvarint s.kind.toNat++Lib.uvarint (Db s))++Lib.uvarint s.L.length
theorem Zvr (s:St):Zeq s=Zvq s++Zr s.L:=by
 unfold Zeq Zvq;simp[append_assoc]
theorem Zxq (a:Bool) (g:Int) (h:0<=g):(if a=true then g+1 else 0)=((Db ⟨0,[],a,g⟩:Nat):Int):=by
 unfold Db
 cases a
 ·rfl
 ·simp
  omega
theorem ZnF (k:Int) (l:List Int) (a:Bool) (g:Int):Db ⟨k,l,a,g⟩=Db ⟨0,[],a,g⟩:=rfl
def ZAp (w:World) (s:St) (e:Ending) (w':World):Prop:=
 ∃ v',e=.returned (.tuple #[v',.int .i64 (if Yl s then 0 else 1)])∧Rd w' v' (if Yl s then Zeq s else[])∧Below w.heap.size w w'
theorem ZjP (kind:Int) (ao:Option Addr) (n cap:Nat) (a:Bool) (g:Int) (w:World) (d:0<=g) (f:g<=2):
 Calls prog 190 #[.agg #[.int .i64 kind,.slice ao n cap,.bool a,.int .i64 g]] w fun e w'=>e=.returned (.int .i64 ((Db ⟨0,[],a,g⟩:Nat):Int))∧Below w.heap.size w w':=by
 have c:Hid (∀ X,Below w.heap.size w (w.alloc X)):=fun X=>(Below.refl _ _).alloc zL X
 have b:=ZZ (Zxq a g d);generalize Db ⟨0,[],a,g⟩=m at *
 cases a
 ·go_enter func190,ntmps190
  go_wp2;go_ret;refine⟨?_,c.o _⟩;rw[<-b.o];rfl
 ·go_enter func190,ntmps190
  go_wp2;go_ret;refine⟨?_,c.o _⟩;rw[<-b.o];rfl
theorem ZiF (v:Value) (s:St) (w:World) (hs:StV w v s) (a7:s.L.length<=1000):
 Calls prog 141 #[v] w fun e w'=>ZAp w s e w':=by
 obtain⟨vl,rfl,O,am,ap⟩:=hs;obtain⟨kind,l,a,g⟩:=s;simp only at O am ap a7 ⊢;have aq:Hid (∀ W,Below w.heap.size w W->Calls prog 82 #[.agg #[.int .i64 kind,vl,.bool a,.int .i64 g]] W fun e w'=>e=.returned (.bool (decide (Yl ⟨kind,l,a,g⟩)))∧Below W.heap.size W w'):=fun W h=>ZlG _ ⟨kind,l,a,g⟩ W ⟨vl,rfl,O.below h zL,am,ap⟩
 have t:Hid (∀ X,Below w.heap.size w (w.alloc X)):=fun X=>(Below.refl _ _).alloc zL X
 have bc:=ZZ O;obtain⟨ao,cap,rfl,-,-,-,hi,aF⟩:=O;have ba:=ZZ aF;clear aF am ap;unfold ZAp;by_cases b:Yl ⟨kind,l,a,g⟩
 ·simp only [if_pos b]
  have HT:=ZZ (decide_eq_true b);have a3:0<=kind:=b.2.2.2.1;have be:kind<6:=b.2.2.2.2.1;have aW:0<=g:=b.1;have aT:g<=2:=b.2.1;have a6:=Zlj b;rw[ZnF] at a6;have HI:=ZZ hi;have u1:=Gh (n:=kind.toNat) (by omega)
  have u2:=Gh (n:=Db ⟨0,[],a,g⟩) (by omega)
  have u3:=Gh (n:=l.length) (by omega)
  have K:Hid (∀ (n:Int),0<=n->n<4611686018427387904->∀ W,Calls prog 132 #[.slice none 0 0,.int .i64 n] W fun e w'=>∃ v',e=.returned v'∧Own w' W.heap.size v' (Lib.uvarint n.toNat)∧Below W.heap.size W w'):=fun n F R W=>by
   have h:=ZbE (.slice none 0 0) [] n W (Rd.nil W) (by simp)
   rw[J0 F R,nil_append] at h;exact h
  have aD:=ZZ (K.o kind a3 (by omega))
  have aa:=ZZ (K.o ((Db ⟨0,[],a,g⟩:Nat):Int) (by omega) (by omega))
  have ar:=ZZ (K.o (l.length:Int) (by omega) (by omega))
  rw[Int.toNat_natCast] at aa ar;have M:=ZZ (fun W=>ZjP kind ao l.length cap a g W aW aT)
  have a0:Hid (∀ x,I64 x->∀ W,Calls prog 142 #[.slice none 0 0,.int .i64 x] W fun e w'=>∃ v',e=.returned v'∧Own w' W.heap.size v' (Lib.uvarint (Lib.zigzag x))∧Below W.heap.size W w'):=fun x V W=>by
   have h:=Gj (.slice none 0 0) [] x W (Rd.nil W) (by simp) V.1 V.2
   rw[nil_append] at h;exact h
  have ay:Hid (Zeq ⟨kind,l,a,g⟩=(Lib.uvarint kind.toNat++(Lib.uvarint (Db ⟨0,[],a,g⟩)++Lib.uvarint l.length))++Zr l):=by
   refine ZZ ?_;rw[Zvr];unfold Zvq;rw[ZnF];simp only [append_assoc]
  have a9:Hid (∀ k,(Zr (l.take k)).length<=10*1000):=fun k=>by
   have R:=Zgq (l.take k) (fun x V=>hi x (List.mem_of_mem_take V))
   have h2:(l.take k).length<=l.length:=by simp;omega
   omega
  have aI:Hid (∀ W N T S I,N=W.heap.size->Rd W T (Lib.uvarint kind.toNat)->Rd W S (Lib.uvarint (Db ⟨0,[],a,g⟩))->Rd W I (Lib.uvarint l.length)->Calls prog 131 #[.slice (some ⟨N,0,none⟩) 3 3] (W.alloc (.cells #[T,S,I] 53)) fun e w'=>∃ v',e=.returned v'∧Own w' W.heap.size v' (Lib.uvarint kind.toNat++(Lib.uvarint (Db ⟨0,[],a,g⟩)++Lib.uvarint l.length))∧Below W.heap.size W w'):=fun W N T S I hN F R h2=>Zvk W N hN T S I _ _ _ F R h2 (by omega)
  rw[ay.o]
  have bd:(Lib.uvarint kind.toNat++(Lib.uvarint (Db ⟨0,[],a,g⟩)++Lib.uvarint l.length)).length<=30:=by
   simp only [length_append];omega
  clear b hi ay K u1 u2 u3;generalize Db ⟨0,[],a,g⟩=m at *;generalize Lib.uvarint kind.toNat=A at *;generalize Lib.uvarint m=B at *;generalize Lib.uvarint l.length=C at *;generalize A++(B++C)=H at *
  go_enter func141,ntmps141
  go_wp2_with fail
  refine(aq.o _ (t.o _)).mono ?_;rintro e W1 ⟨rfl,z⟩;rw[HT.o];have d:Bx W1 w.heap.size _:=(z.block w.heap.size (by simp)).trans (heap_alloc_new w _)
  have aQ:=ZZ d;have E:=ZZ ((t.o _).trans (z.mono (t.o _).size));obtain⟨p0,-⟩:=d.cell 0;obtain⟨p1,-⟩:=d.cell 1;obtain⟨p2,-⟩:=d.cell 2;obtain⟨p3,-⟩:=d.cell 3;clear z d;go_wp2
  go_region_held(fun w'=>w'.cell? ⟨w.heap.size,0,none⟩=some (.int .i64 kind)∧w'.cell? ⟨w.heap.size,1,none⟩=some (.slice ao l.length cap)∧w'.cell? ⟨w.heap.size,2,none⟩=some (.bool a)∧w'.cell? ⟨w.heap.size,3,none⟩=some (.int .i64 g)) (go_keep)
   (first
    | (go_at_call_of 132 (Value.int .i64 kind);refine(aD.o _).mono ?_;rintro e W2 ⟨I,rfl,ad,an⟩;have f:=aQ.o.below (((Below.refl _ _).drew).trans an) zL;have aM:=ZZ f;have aj:=ZZ (E.o.trans ((((Below.refl _ _).drew).trans an).mono E.o.size));obtain⟨a2,c2,rfl,-⟩:=ad.rd;have aK:=ZZ ad.rd;obtain⟨q0,-⟩:=f.cell 0;obtain⟨q1,-⟩:=f.cell 1;obtain⟨q2,-⟩:=f.cell 2;obtain⟨q3,-⟩:=f.cell 3;clear ad an f)
    | (go_at_call 190;refine(M.o _).mono ?_;rintro e W3 ⟨rfl,Y⟩;have u:=aM.o.below Y zL;have aR:=ZZ u;have ac:=ZZ (aj.o.trans (Y.mono aj.o.size));have aO:=ZZ (aK.o.below Y zL);obtain⟨r0,-⟩:=u.cell 0;obtain⟨r1,-⟩:=u.cell 1;obtain⟨r2,-⟩:=u.cell 2;obtain⟨r3,-⟩:=u.cell 3;clear Y u)
    | (go_at_call_of 132 (Value.int .i64 (m:Int));refine(aa.o _).mono ?_;rintro e W4 ⟨v4,rfl,ag,Q⟩;have p:=aR.o.below Q zL;have aB:=ZZ p;have ak:=ZZ (ac.o.trans (Q.mono ac.o.size));have aA:=ZZ (aO.o.below Q zL);obtain⟨a4,c4,rfl,-⟩:=ag.rd;have aG:=ZZ ag.rd;obtain⟨s0,-⟩:=p.cell 0;obtain⟨s1,-⟩:=p.cell 1;obtain⟨s2,-⟩:=p.cell 2;obtain⟨s3,-⟩:=p.cell 3;clear ag Q p)
    | (go_at_call_of 132 (Value.int .i64 (l.length:Int));refine(ar.o _).mono ?_;rintro e W5 ⟨v5,rfl,af,G⟩;have j:=aB.o.below G zL;have aL:=ZZ j;have U:=ZZ (ak.o.trans (G.mono ak.o.size));have aH:=ZZ (aA.o.below G zL);have av:=ZZ (aG.o.below G zL);obtain⟨a5,c5,rfl,-⟩:=af.rd;have aE:=ZZ af.rd;obtain⟨t0,-⟩:=j.cell 0;obtain⟨t1,-⟩:=j.cell 1;obtain⟨t2,-⟩:=j.cell 2;obtain⟨t3,-⟩:=j.cell 3;clear af G j)
    | (go_at_call 131;refine(aI.o W5 W5.heap.size _ _ _ rfl aH.o av.o aE.o).mono ?_;rintro e W6 ⟨v6,rfl,au,ae⟩;have q:=aL.o.below ae zL;have a8:=ZZ q;have az:=ZZ (au.mono U.o.size);have aS:=ZZ (U.o.trans (ae.mono U.o.size));obtain⟨y0,-⟩:=q.cell 0;obtain⟨y1,-⟩:=q.cell 1;obtain⟨y2,-⟩:=q.cell 2;obtain⟨y3,-⟩:=q.cell 3;clear au ae q))
  clear p0 p1 p2 p3 q0 q1 q2 q3 r0 r1 r2 r3 s0 s1 s2 s3 t0 t1 t2 t3 aQ aM aR aB aL E aj ac ak U aK aO aA aH aG av aE aD aa ar M aI aq;go_wp2
  go_loopw[4,25] (fun vo i wr=>∃ k:Nat,i=.int .i64 k∧k<=l.length∧Hid (Own wr w.heap.size vo (H++Zr (l.take k)))∧Hid (Below w.heap.size w wr)) (fun _ i _=>l.length-(intOf i).toNat)
  case atStart=>exact⟨0,rfl,Nat.zero_le _,by simpa[Zr] using az,aS⟩
  case round=>
   clear y0 y1 y2 y3 a8 az aS;obtain⟨k,rfl,hk,ab,Z⟩:=hrel;by_cases J:k<l.length
   ·rcases ba.o with F | ⟨c,aN,rfl,hc⟩
    ·rw[F] at J;simp at J
    have bf:wr.cell? ⟨c,aN+k,none⟩=some (.int .i64 (l.getD k 0)):=(Z.out.cell (World.block_lt_of_cell? w ⟨c,aN+k,none⟩ (hc k J))).trans (hc k J);have aJ:Hid (I64 (l.getD k 0)):=Zwx HI.o k;have bb:=ZZ (a0.o (l.getD k 0) aJ.o)
    have a1:Hid ((H++Zr (l.take k)).length+(Lib.uvarint (Lib.zigzag (l.getD k 0))).length<=70368744177664):=by
     refine ZZ ?_;have:=a9.o k;have:=Zwv aJ.o;rw[length_append];omega
    have M:Hid ((H++Zr (l.take k))++Lib.uvarint (Lib.zigzag (l.getD k 0))=H++Zr (l.take (k+1))):=by
     refine ZZ ?_;rw[ZsF l k J,append_assoc]
    clear hc;generalize l.getD k 0=y at *;generalize H++Zr (l.take k)=P at *;generalize Lib.uvarint (Lib.zigzag y)=D at *
    go_wp2_with fail
    refine(bb.o _).mono ?_;rintro e W7 ⟨v7,rfl,aw,ai⟩;have aZ:=ZZ aw.rd;have aU:=ZZ (ab.out.below ai zL);have aP:=ZZ (Z.out.trans (ai.mono Z.out.size));have aX:=ZZ aP.o.size;clear aw ai
    go_wp2_with(at_builtin;refine Xw _ rfl _ _ rfl w.heap.size _ P rfl aU.o _ D rfl aZ.o a1.o aX.o ?_)
    intro v8 W8 al aC;rw[M.o] at al;have aY:=ZZ al;have aV:=ZZ (aP.o.trans aC);clear al aC;go_wp2;go_roundw
    case rel=>exact⟨k+1,by go_num,by omega,aY,aV⟩
    case measure=>simp[intOf];omega
   ·have ax:l.take k=l:=take_of_length_le (by omega)
    rw[ax] at ab;clear ax;go_wp2;go_ret2;exact⟨_,rfl,ab.out.rd,Z.out⟩
 ·simp only [if_neg b]
  have HT:=ZZ (decide_eq_false b);clear b
  go_enter func141,ntmps141
  go_wp2_with fail
  refine(aq.o _ (t.o _)).mono ?_;rintro e W1 ⟨rfl,z⟩;rw[HT.o];have E:=ZZ ((t.o _).trans (z.mono (t.o _).size));clear z;go_wp2;go_ret2;exact⟨_,rfl,Rd.nil _,E.o⟩
def ZyU (i n m:Nat):List UInt8:=115::(Lib.uvarint 3++(Lib.uvarint i++(Lib.uvarint n++Lib.leBytes 4 m)))
theorem Zxr (i:Nat) (l:List UInt8):ZyU i l.length (Q2 0 l)=Zbn i l:=rfl
theorem Zvs (W:World) (N:Nat) (a:N=W.heap.size):Rd (W.alloc (.cells #[.int .u8 115] 5)) (.slice (some ⟨N,0,none⟩) 1 1) [115]:=by
 subst a;refine⟨some ⟨W.heap.size,0,none⟩,1,rfl,Nat.le_refl _,by unfold maxLen;omega,(fun h=>by cases h),.inr ⟨W.heap.size,0,rfl,fun j b=>?_⟩⟩
 have e:j=0:=by simpa using b
 subst e;rw[cell_of_row _ W.heap.size _ _ 5 (0,0) (heap_alloc_new W _)];rfl
theorem ZzO (W:World) (N:Nat) (a:N=W.heap.size):Rd (W.alloc (.cells #[.int .u8 115] 5)).drew (.slice (some ⟨N,0,none⟩) 1 1) [115]:=
 (Zvs W N a).below (((Below.refl _ _)).drew) zL
theorem ZyV (W:World) (N:Nat) (y:N=W.heap.size) (m l i g k:Value) (a f c b d:List UInt8) (x:Rd W m a) (A:Rd W l f) (v:Rd W i c) (w:Rd W g b) (q:Rd W k d) (B:a.length+f.length+c.length+b.length+d.length<=1000000):
 Calls prog 131 #[.slice (some ⟨N,0,none⟩) 5 5] (W.alloc (.cells #[m,l,i,g,k] 53)) fun e w'=>∃ v',e=.returned v'∧Own w' W.heap.size v' (a++(f++(c++(b++d))))∧Below W.heap.size W w':=by
 have p:=RdL.built W N y #[m,l,i,g,k] [a,f,c,b,d] (by simp) (fun j u=>by
  match j,u with
  | 0,_=>exact⟨m,rfl,x⟩
  | 1,_=>exact⟨l,rfl,A⟩
  | 2,_=>exact⟨i,rfl,v⟩
  | 3,_=>exact⟨g,rfl,w⟩
  | 4,_=>exact⟨k,rfl,q⟩)
 refine(Zdi _ _ _ p (by simp;omega) (by simp)).mono ?_
 rintro e w' ⟨v',rfl,n,z⟩;have t:[a,f,c,b,d].flatten=a++(f++(c++(b++d))):=by simp
 rw[t] at n;exact⟨v',rfl,n.mono (by simp),((Below.refl _ _).alloc zL _).trans (z.mono (by simp))⟩
def Bm (w:World) (b:Nat) (x y z:Value):Prop:=w.heap[b]?=some (.cells #[x,y,z] 147 (0,0))
theorem Bm.lt (h:Bm w b x y z):b<w.heap.size:=(Array.getElem?_eq_some_iff.1 h).1
theorem Bm.below (h:Bm w b x y z) (a:Below B w w') (c:w.heap.size<=B):Bm w' b x y z:=(a.block b (by have:=h.lt;omega)).trans h
theorem Bm.cells (h:Bm w b x y z):w.cell? ⟨b,0,none⟩=some x∧w.cell? ⟨b,1,none⟩=some y∧w.cell? ⟨b,2,none⟩=some z:=
 ⟨cell_of_row w b 0 _ _ _ h,cell_of_row w b 1 _ _ _ h,cell_of_row w b 2 _ _ _ h⟩
theorem Zxs (i n:Int) (m:Nat) (w:World) (hi:0<=i∧i<4611686018427387904) (hn:0<=n∧n<4611686018427387904) (hm:m<4294967296):
 Calls prog 101 #[.agg #[.int .i64 i,.int .i64 n,.int .u32 (m:Int)]] w fun e w'=>∃ v',e=.returned v'∧Own w' w.heap.size v' (ZyU i.toNat n.toNat m)∧Below w.heap.size w w':=by
 have S:Hid (∀ k W,0<=k->k<4611686018427387904->Calls prog 132 #[.slice none 0 0,.int .i64 k] W fun e w'=>∃ v',e=.returned v'∧Own w' W.heap.size v' (Lib.uvarint k.toNat)∧Below W.heap.size W w'):=ZZ (fun k W h0 h1=>by
  have h:=ZbE (.slice none 0 0) [] k W (Rd.nil W) (by simp)
  rw[J0 h0 h1,nil_append] at h
  exact h)
 have al:=ZZ (fun W=>S.o 3 W (by omega) (by omega))
 have ac:=ZZ (fun W=>S.o i W hi.1 hi.2)
 have ae:=ZZ (fun W=>S.o n W hn.1 hn.2)
 have ab:=ZZ (fun W=>ZhX m W hm)
 have q1:(Lib.uvarint (3:Int).toNat).length<=10:=Gh (by decide)
 have q2:(Lib.uvarint i.toNat).length<=10:=Gh (by omega)
 have q3:(Lib.uvarint n.toNat).length<=10:=Gh (by omega)
 have q4:(Lib.leBytes 4 m).length<=10:=by rw[Lib.leBytes_length];decide
 have HE:Hid (ZyU i.toNat n.toNat m=[115]++(Lib.uvarint (3:Int).toNat++(Lib.uvarint i.toNat++(Lib.uvarint n.toNat++Lib.leBytes 4 m)))):=ZZ rfl;rw[HE.o];have ao:=ZZ (fun W N v0 v1 U v3 v4 hN h0 h1 h2 h3 h4=>ZyV W N hN v0 v1 U v3 v4 [115] (Lib.uvarint (3:Int).toNat) (Lib.uvarint i.toNat) (Lib.uvarint n.toNat) (Lib.leBytes 4 m) h0 h1 h2 h3 h4 (by simp only [length_singleton];omega))
 generalize Lib.uvarint (3:Int).toNat=L1 at *;generalize Lib.uvarint i.toNat=L2 at *;generalize Lib.uvarint n.toNat=L3 at *;generalize Lib.leBytes 4 m=L4 at *;generalize [115]++(L1++(L2++(L3++L4)))=LL at *;obtain⟨M,hM⟩:∃ M:Int,M=(m:Int):=⟨_,rfl⟩;rw[<-hM] at ab ⊢;clear hM HE S q1 q2 q3 q4 hi hn hm;obtain⟨a,Q⟩:∃ a,a=w.alloc (.cells #[.int .i64 i,.int .i64 n,.int .u32 M] 147):=⟨_,rfl⟩;have aa:Hid (Below w.heap.size w a):=ZZ (by rw[Q];exact(Below.refl _ _).alloc zL _)
 have aq:Hid (Bm a w.heap.size (.int .i64 i) (.int .i64 n) (.int .u32 M)):=ZZ (by rw[Q];exact heap_alloc_new w _)
 have l:Hid (∀ W,Below a.heap.size a W->W.cell? ⟨w.heap.size,0,none⟩=some (.int .i64 i)∧W.cell? ⟨w.heap.size,1,none⟩=some (.int .i64 n)∧W.cell? ⟨w.heap.size,2,none⟩=some (.int .u32 M)):=ZZ (fun W h=>(aq.o.below h zL).cells)
 have A:Hid (∀ W X,Below a.heap.size a W->Below a.heap.size a (W.alloc X)):=ZZ (fun W X h=>h.alloc h.size X)
 have au:Hid (∀ W,Below a.heap.size a W->Below a.heap.size a W.drew):=ZZ (fun W h=>h.drew)
 have ag:Hid (Below a.heap.size a a.drew):=ZZ ((Below.refl _ _).drew);have af:Hid (Below a.heap.size a (a.alloc (.cells #[.int .u8 115] 5)).drew):=ZZ (((Below.refl _ _).alloc zL _).drew)
 go_enter func101,ntmps101
 go_upto_region 1 with fail
 rw[<-Q];clear Q;have E:Hid (∀ args w,(callFunc 132 args).run prog w=.ok (.enter 132 args) w):=ZZ (enters_of func132 (by kernel_rfl) rfl)
 have ai:Hid (∀ args w,(callFunc 135 args).run prog w=.ok (.enter 135 args) w):=ZZ (enters_of func135 (by kernel_rfl) rfl)
 have ap:Hid (∀ args w,(callFunc 131 args).run prog w=.ok (.enter 131 args) w):=ZZ (enters_of func131 (by kernel_rfl) rfl)
 go_region_held2(fun w'=>w'.cell? ⟨w.heap.size,0,none⟩=some (.int .i64 i)∧w'.cell? ⟨w.heap.size,1,none⟩=some (.int .i64 n)∧w'.cell? ⟨w.heap.size,2,none⟩=some (.int .u32 M))
  (first | (with_reducible exact l.o _ ag.o) | (with_reducible exact l.o _ af.o) | (with_reducible exact l.o _ ad) | (with_reducible exact l.o _ p) | (with_reducible exact l.o _ y) | (with_reducible exact l.o _ x) | (with_reducible exact l.o _ z) | (with_reducible exact l.o _ (A.o _ _ p)) | (with_reducible exact l.o _ (A.o _ _ y)) | (with_reducible exact l.o _ (A.o _ _ x)) | (with_reducible exact l.o _ (A.o _ _ z)) | (with_reducible exact l.o _ (A.o _ _ (A.o _ _ p))))
  (first
   | ((with_reducible refine Y4 132 _ _ rfl rfl #[.slice none 0 0,.int .i64 3] (by simp[Act.eval]) E.o (al.o a.drew) ?_);rintro v1 j ⟨F,G⟩;have z:Below a.heap.size a j:=ag.o.trans (G.mono ag.o.size);obtain⟨a1,c1,c,-⟩:=F.rd;subst c;have Z:=ZZ F.rd;clear F G)
   | ((with_reducible refine Y4 132 _ _ rfl rfl #[.slice none 0 0,.int .i64 3] (by simp[Act.eval]) E.o (al.o (a.alloc (.cells #[.int .u8 115] 5)).drew) ?_);rintro v1 j ⟨F,G⟩;have z:Below a.heap.size a j:=af.o.trans (G.mono af.o.size);have ar:=ZZ ((ZzO a _ rfl).below G zL);obtain⟨a1,c1,c,-⟩:=F.rd;subst c;have Z:=ZZ F.rd;clear F G)
   | (have t:=ar.o;(with_reducible refine Y4 132 _ _ rfl rfl #[.slice none 0 0,.int .i64 i] (by simp[Act.eval]) E.o (ac.o j) ?_);rintro U d ⟨q,C⟩;have b:Below j.heap.size j d:=C;have x:Below a.heap.size a d:=z.trans (b.mono z.size);have aj:=ZZ (t.below b zL);clear t;have H:=ZZ (Z.o.below b zL);clear b;obtain⟨a2,c2,c,-⟩:=q.rd;subst c;have O:=ZZ q.rd;clear q C)
   | ((with_reducible refine Y4 132 _ _ rfl rfl #[.slice none 0 0,.int .i64 i] (by simp[Act.eval]) E.o (ac.o j) ?_);rintro U d ⟨q,C⟩;have b:Below j.heap.size j d:=C;have x:Below a.heap.size a d:=z.trans (b.mono z.size);have H:=ZZ (Z.o.below b zL);clear b;obtain⟨a2,c2,c,-⟩:=q.rd;subst c;have O:=ZZ q.rd;clear q C)
   | ((with_reducible refine Y4 132 _ _ rfl rfl #[.slice none 0 0,.int .i64 i] (by simp[Act.eval]) E.o (ac.o (j.alloc (.cells #[.int .u8 115] 5))) ?_);rintro U d ⟨q,C⟩;have b:Below j.heap.size j d:=((Below.refl _ _).alloc zL _).trans (C.mono (by simp));have x:Below a.heap.size a d:=z.trans (b.mono z.size);have aj:=ZZ ((Zvs j _ rfl).below C zL);have H:=ZZ (Z.o.below b zL);clear b;obtain⟨a2,c2,c,-⟩:=q.rd;subst c;have O:=ZZ q.rd;clear q C)
   | (have t:=aj.o;(with_reducible refine Y4 132 _ _ rfl rfl #[.slice none 0 0,.int .i64 n] (by simp[Act.eval]) E.o (ae.o d) ?_);rintro v3 f ⟨u,D⟩;have b:Below d.heap.size d f:=D;have y:Below a.heap.size a f:=x.trans (b.mono x.size);have an:=ZZ (t.below b zL);clear t;have P:=ZZ (H.o.below b zL);have J:=ZZ (O.o.below b zL);clear b;obtain⟨a3,c3,c,-⟩:=u.rd;subst c;have L:=ZZ u.rd;clear u D)
   | ((with_reducible refine Y4 132 _ _ rfl rfl #[.slice none 0 0,.int .i64 n] (by simp[Act.eval]) E.o (ae.o d) ?_);rintro v3 f ⟨u,D⟩;have b:Below d.heap.size d f:=D;have y:Below a.heap.size a f:=x.trans (b.mono x.size);have P:=ZZ (H.o.below b zL);have J:=ZZ (O.o.below b zL);clear b;obtain⟨a3,c3,c,-⟩:=u.rd;subst c;have L:=ZZ u.rd;clear u D)
   | ((with_reducible refine Y4 132 _ _ rfl rfl #[.slice none 0 0,.int .i64 n] (by simp[Act.eval]) E.o (ae.o (d.alloc (.cells #[.int .u8 115] 5))) ?_);rintro v3 f ⟨u,D⟩;have b:Below d.heap.size d f:=((Below.refl _ _).alloc zL _).trans (D.mono (by simp));have y:Below a.heap.size a f:=x.trans (b.mono x.size);have an:=ZZ ((Zvs d _ rfl).below D zL);have P:=ZZ (H.o.below b zL);have J:=ZZ (O.o.below b zL);clear b;obtain⟨a3,c3,c,-⟩:=u.rd;subst c;have L:=ZZ u.rd;clear u D)
   | (have t:=an.o;(with_reducible refine Y4 135 _ _ rfl rfl #[.int .u32 M] (by simp[Act.eval]) ai.o (ab.o f) ?_);rintro v4 g ⟨v,B⟩;have b:Below f.heap.size f g:=B;have p:Below a.heap.size a g:=y.trans (b.mono y.size);have ak:=ZZ (t.below b zL);clear t;have T:=ZZ (P.o.below b zL);have R:=ZZ (J.o.below b zL);have Y:=ZZ (L.o.below b zL);clear b;obtain⟨a4,c4,c,-⟩:=v.rd;subst c;have V:=ZZ v.rd;clear v B)
   | ((with_reducible refine Y4 135 _ _ rfl rfl #[.int .u32 M] (by simp[Act.eval]) ai.o (ab.o f) ?_);rintro v4 g ⟨v,B⟩;have b:Below f.heap.size f g:=B;have p:Below a.heap.size a g:=y.trans (b.mono y.size);have T:=ZZ (P.o.below b zL);have R:=ZZ (J.o.below b zL);have Y:=ZZ (L.o.below b zL);clear b;obtain⟨a4,c4,c,-⟩:=v.rd;subst c;have V:=ZZ v.rd;clear v B)
   | ((with_reducible refine Y4 135 _ _ rfl rfl #[.int .u32 M] (by simp[Act.eval]) ai.o (ab.o (f.alloc (.cells #[.int .u8 115] 5))) ?_);rintro v4 g ⟨v,B⟩;have b:Below f.heap.size f g:=((Below.refl _ _).alloc zL _).trans (B.mono (by simp));have p:Below a.heap.size a g:=y.trans (b.mono y.size);have ak:=ZZ ((Zvs f _ rfl).below B zL);have T:=ZZ (P.o.below b zL);have R:=ZZ (J.o.below b zL);have Y:=ZZ (L.o.below b zL);clear b;obtain⟨a4,c4,c,-⟩:=v.rd;subst c;have V:=ZZ v.rd;clear v B)
   | (have t:=ak.o;(with_reducible refine Y4 131 _ _ rfl rfl #[.slice (some ⟨g.heap.size,0,none⟩) 5 5] (by simp[Act.eval]) ap.o (ao.o g g.heap.size _ _ _ _ _ rfl t T.o R.o Y.o V.o) ?_);rintro v5 W5 ⟨K,I⟩;have ad:Below a.heap.size a W5:=p.trans (I.mono p.size);have am:=ZZ (K.mono (Nat.le_trans aa.o.size p.size));clear K I t)
   | (refine Y4 131 _ _ rfl rfl #[.slice (some ⟨g.heap.size+1,0,none⟩) 5 5] (by simp[Act.eval]) ap.o (ao.o (g.alloc (.cells #[.int .u8 115] 5)) (g.heap.size+1) _ _ _ _ _ (by simp) (Zvs g _ rfl) (T.o.below ((Below.refl _ _).alloc zL _) zL) (R.o.below ((Below.refl _ _).alloc zL _) zL) (Y.o.below ((Below.refl _ _).alloc zL _) zL) (V.o.below ((Below.refl _ _).alloc zL _) zL)) ?_;rintro v5 W5 ⟨K,I⟩;have ad:Below a.heap.size a W5:=(A.o _ _ p).trans (I.mono (A.o _ _ p).size);have am:=ZZ (K.mono (Nat.le_trans aa.o.size (A.o _ _ p).size));clear K I))
 all_goals
  go_wp2;go_ret;exact⟨_,rfl,am.o,aa.o.trans (ad.mono aa.o.size)⟩
theorem ZpF (t:List Ent) (q:Nat) (a:q<t.length):Yw (t.take (q+1))=Yw (t.take q)++ZoG (t.getD q Xi):=by
 have b:t.take (q+1)=t.take q++[t.getD q Xi]:=by
  rw[take_add_one,List.getElem?_eq_getElem a];simp[List.getD,a]
 rw[b];unfold Yw;rw[List.flatMap_append];simp
theorem ZlR (t:List Ent) (q:Nat):(Yw (t.take q)).length<=(Yw t).length:=by
 have h:Yw t=Yw (t.take q)++Yw (t.drop q):=by
  unfold Yw;rw[<-List.flatMap_append,List.take_append_drop]
 rw[h,length_append];omega
theorem ZpG (v:Value) (s:Q0) (w:World) (hs:SnV w v s) (j:Z6 s):
 Calls prog 99 #[v] w fun e w'=>∃ v',e=.returned v'∧Own w' w.heap.size v' (Xt s)∧Below w.heap.size w w':=by
 obtain⟨vl,vt,rfl,R,D,A,ht,hi⟩:=hs;have aZ:=Zer j.2.1;have bj:=ZhM j.2.2;have ai:=Zay j;have bo:=ZoQ j.2.1;have J:=ZZ (fun W (h:Below w.heap.size w W)=>ZiF (.agg #[.int .i64 s.st.kind,vl,.bool s.st.shut,.int .i64 s.st.eng]) s.st W ⟨vl,rfl,R.below h zL,D,A⟩ (by omega))
 unfold ZAp at J;rw[if_pos j.2.1,if_pos j.2.1] at J;have aR:Hid (∀ q,q<s.tab.length->Zbm (s.tab.getD q Xi)):=ZZ (fun q hq=>(j.2.2 q hq).1)
 have z:Hid (∀ b l k W,Rd W b l->l.length<=10000->0<=k->k<4611686018427387904->Calls prog 132 #[b,.int .i64 k] W fun e w'=>∃ v',e=.returned v'∧Own w' W.heap.size v' (l++Lib.uvarint k.toNat)∧Below W.heap.size W w'):=ZZ (fun b l k W h R x m=>by
  have h:=ZbE b l k W h (by omega)
  rw[J0 x m] at h
  exact h)
 have aG:Hid (∀ b l k W,Rd W b l->l.length<=10000->I64 k->Calls prog 142 #[b,.int .i64 k] W fun e w'=>∃ v',e=.returned v'∧Own w' W.heap.size v' (l++Lib.uvarint (Lib.zigzag k))∧Below W.heap.size W w'):=ZZ (fun b l k W h R D=>Gj b l k W h (by omega) D.1 D.2)
 have aB:Hid (∀ q,q<s.tab.length->Yw (s.tab.take (q+1))=Yw (s.tab.take q)++ZoG (s.tab.getD q Xi)):=ZZ (fun q hq=>ZpF _ q hq)
 have aH:Hid (∀ q,(Yw (s.tab.take q)).length<=(Yw s.tab).length):=ZZ (fun q=>ZlR _ q)
 have HW:Hid (Xt s=(Lib.uvarint (Zeq s.st).length++(Zeq s.st++Lib.uvarint s.tab.length))++Yw s.tab):=ZZ (by
  unfold Xt Zyg
  simp only [append_assoc])
 have aW:Hid ((Lib.uvarint (Zeq s.st).length++(Zeq s.st++Lib.uvarint s.tab.length)).length+(Yw s.tab).length<=5000):=ZZ (by
  rw[HW.o,length_append] at ai
  exact ai)
 rw[HW.o];have u1:(Lib.uvarint (Zeq s.st).length).length<=10:=Gh (by omega)
 have u3:(Lib.uvarint s.tab.length).length<=10:=Gh (by omega)
 have aF:Hid (∀ W,Calls prog 132 #[.slice none 0 0,.int .i64 ((Zeq s.st).length:Int)] W fun e w'=>∃ v',e=.returned v'∧Own w' W.heap.size v' (Lib.uvarint (Zeq s.st).length)∧Below W.heap.size W w'):=ZZ (fun W=>by
  have h:=z.o (.slice none 0 0) [] ((Zeq s.st).length:Int) W (Rd.nil W) (by simp) (by omega) (by omega)
  rw[nil_append,Int.toNat_natCast] at h
  exact h)
 have ab:Hid (∀ W,Calls prog 132 #[.slice none 0 0,.int .i64 (s.tab.length:Int)] W fun e w'=>∃ v',e=.returned v'∧Own w' W.heap.size v' (Lib.uvarint s.tab.length)∧Below W.heap.size W w'):=ZZ (fun W=>by
  have h:=z.o (.slice none 0 0) [] (s.tab.length:Int) W (Rd.nil W) (by simp) (by omega) (by omega)
  rw[nil_append,Int.toNat_natCast] at h
  exact h)
 have aP:Hid (∀ W N U b y,N=W.heap.size->Rd W U (Lib.uvarint (Zeq s.st).length)->Rd W b (Zeq s.st)->Rd W y (Lib.uvarint s.tab.length)->Calls prog 131 #[.slice (some ⟨N,0,none⟩) 3 3] (W.alloc (.cells #[U,b,y] 53)) fun e w'=>∃ v',e=.returned v'∧Own w' W.heap.size v' (Lib.uvarint (Zeq s.st).length++(Zeq s.st++Lib.uvarint s.tab.length))∧Below W.heap.size W w'):=ZZ (fun W N U b y hN x m V=>Zvk W N hN U b y _ _ _ x m V (by omega))
 obtain⟨ta,tc,aY,-,-,-,-,aU⟩:=ht;subst aY;have aS:=ZZ aU;obtain⟨la,lc,bp,-⟩:=R;subst bp;obtain⟨idx,⟨kind,L,O,S⟩,d⟩:=s
 dsimp only at *
 clear D A hi j aZ ai bo u1 u3 HW aU;have bv:(d.length:Int)<=65:=by omega
 clear bj;generalize Zeq ⟨kind,L,O,S⟩=ES at *;generalize Lib.uvarint ES.length=U1 at *;generalize Lib.uvarint d.length=U3 at *;generalize U1++(ES++U3)=H at *;obtain⟨M,G⟩:∃ M,M=w.alloc (.cells #[.int .i64 idx,.int .i64 kind,.slice la L.length lc,.bool O,.int .i64 S,.slice ta d.length tc] 41):=⟨_,rfl⟩;have aa:Hid (Below w.heap.size w M):=ZZ (by rw[G];exact(Below.refl _ _).alloc zL _)
 have p:Hid (Bn M w.heap.size #[.int .i64 idx,.int .i64 kind,.slice la L.length lc,.bool O,.int .i64 S,.slice ta d.length tc]):=ZZ (by rw[G];exact heap_alloc_new w _)
 obtain⟨p1,-⟩:=p.o.cell 1;obtain⟨p2,-⟩:=p.o.cell 2;obtain⟨p3,-⟩:=p.o.cell 3;obtain⟨p4,-⟩:=p.o.cell 4
 go_enter func99,ntmps99
 go_upto_region 1 with fail
 rw[<-G];clear G
 go_wp2_with fail
 refine(J.o _ aa.o).mono ?_;rintro e W1 ⟨b,rfl,aI,ay⟩;have aA:=ZZ (p.o.below ay zL);have ae:=ZZ (aa.o.trans (ay.mono aa.o.size));have aM:=ZZ aI;obtain⟨a1,T,bi,-⟩:=aI;subst bi;obtain⟨q5,-⟩:=aA.o.cell 5;clear ay J p aa p1 p2 p3 p4
 go_upto_region 2 with fail
 go_cut[5] (fun vo wc=>Hid (Own wc w.heap.size vo H)∧Hid (Bn wc w.heap.size #[.int .i64 idx,.int .i64 kind,.slice la L.length lc,.bool O,.int .i64 S,.slice ta d.length tc])∧Hid (Below w.heap.size w wc))
 case first=>
  go_region_held(fun w'=>w'.cell? ⟨w.heap.size,5,none⟩=some (.slice ta d.length tc)) (go_keep)
   (first
    | (go_at_call_of 132 (Value.int .i64 (ES.length:Int));refine(aF.o _).mono ?_;rintro e W2 ⟨y,rfl,al,aQ⟩;have ac:Below W1.heap.size W1 W2:=((Below.refl _ _).drew).trans aQ;have am:=aA.o.below ac zL;have bn:=ZZ am;have aL:=ZZ (ae.o.trans (ac.mono ae.o.size));have bq:=ZZ (aM.o.below ac zL);obtain⟨a2,I,rfl,-⟩:=al.rd;have bl:=ZZ al.rd;obtain⟨r5,-⟩:=am.cell 5;clear al aQ am ac)
    | (go_at_call_of 132 (Value.int .i64 (d.length:Int));refine(ab.o _).mono ?_;rintro e W3 ⟨v3,rfl,ao,C⟩;have ax:=bn.o.below C zL;have bt:=ZZ ax;have ak:=ZZ (aL.o.trans (C.mono aL.o.size));have bd:=ZZ (bq.o.below C zL);have br:=ZZ (bl.o.below C zL);obtain⟨a3,c3,rfl,-⟩:=ao.rd;have be:=ZZ ao.rd;obtain⟨s5,-⟩:=ax.cell 5;clear ao C ax)
    | (go_at_call 131;refine(aP.o W3 W3.heap.size _ _ _ rfl br.o bd.o be.o).mono ?_;rintro e W4 ⟨v4,rfl,aJ,aq⟩;have ar:=bt.o.below aq zL;have bc:=ZZ ar;have bg:=ZZ (ak.o.trans (aq.mono ak.o.size));have bf:=ZZ (aJ.mono ak.o.size);obtain⟨t5,-⟩:=ar.cell 5;clear aJ aq ar))
  all_goals
   go_wp2_with fail
   go_meet
   exact⟨bf,bc,bg⟩
 case rest=>
  obtain⟨WC,rfl⟩:∃ W,W=wc:=⟨_,rfl⟩;obtain⟨HO,HX,HB⟩:=hcut;obtain⟨bm,-⟩:=HX.o.cell 5;clear aA ae aM q5 aF ab aP;go_wp2
  go_loopw[5,27] (fun vo vi wr=>∃ q:Nat,vi=.int .i64 (q:Int)∧q<=d.length∧Hid (Own wr w.heap.size vo (H++Yw (d.take q)))∧Hid (Below w.heap.size w wr)) (fun _ vi _=>d.length-(intOf vi).toNat)
  case atStart=>exact⟨0,rfl,Nat.zero_le _,by simpa[Yw] using HO,HB⟩
  case round=>
   clear HO HX HB bm;obtain⟨q,rfl,hq,Y,B⟩:=hrel;by_cases t:q<d.length
   case neg=>
    obtain rfl:q=d.length:=by omega
    rw[List.take_length] at Y;go_wp2;go_ret;exact⟨_,rfl,Y.out,B.out⟩
   have bu:(q:Int)<(d.length:Int):=by omega
   rcases aS.o with x | ⟨c,bw,rfl,hc⟩
   ·rw[x] at t;simp at t
   obtain⟨c0,T,I⟩:=(hc q t).keep (B.out.block c (hc q t).lt);have an:=ZZ (aR.o q t);have Q:=ZZ (aB.o q t)
   have ad:Hid ((H++Yw (d.take q)).length<=5000):=ZZ (by
    have m:=aH.o q;have V:=aW.o;rw[length_append]
    omega)
   obtain⟨e,A⟩:∃ e,e=d.getD q Xi:=⟨_,rfl⟩;rw[<-A] at c0 T I an Q;clear A hc aR aB aH aS aW;obtain⟨f,g,n⟩:=e;have aT:Hid (ZoG ⟨f,g,n⟩=Lib.uvarint f.toNat++(Lib.uvarint g.toNat++Lib.uvarint (Lib.zigzag n))):=ZZ rfl;rw[aT.o,<-append_assoc] at Q
   have aD:Hid (H++Yw (d.take (q+1))=(((H++Yw (d.take q))++Lib.uvarint f.toNat)++Lib.uvarint g.toNat)++Lib.uvarint (Lib.zigzag n)):=ZZ (by
    rw[Q.o]
    simp only [append_assoc])
   have i:Hid ((0<=f∧f<4611686018427387904)∧(0<=g∧g<4611686018427387904)∧I64 n):=ZZ (by
    obtain⟨m,V,h3,h4,h5,h6⟩:=an.o
    dsimp only at m V h3 h4 h5 h6
    exact⟨⟨m,by omega⟩,⟨h3,h4⟩,⟨by omega,by omega⟩⟩)
   have u1:(Lib.uvarint f.toNat).length<=10:=Gh (by have:=i.o;omega)
   have u2:(Lib.uvarint g.toNat).length<=10:=Gh (by have:=i.o;omega)
   dsimp only at c0 T I
   generalize H++Yw (d.take q)=P at *;have bk:=ZZ (fun b W h=>z.o b P f W h (by have:=ad.o;omega) i.o.1.1 i.o.1.2)
   have a9:=ZZ (fun b W h=>z.o b (P++Lib.uvarint f.toNat) g W h (by have:=ad.o;rw[length_append];omega) i.o.2.1.1 i.o.2.1.2)
   have aj:=ZZ (fun b W h=>aG.o b ((P++Lib.uvarint f.toNat)++Lib.uvarint g.toNat) n W h (by have:=ad.o;rw[length_append,length_append];omega) i.o.2.2)
   rw[<-aD.o] at aj;clear z aG Q aT aD ad u1 u2 i an;generalize P++Lib.uvarint f.toNat=P1 at *;generalize P1++Lib.uvarint g.toNat=P2 at *;obtain⟨P3,aw⟩:∃ P3,P3=H++Yw (d.take (q+1)):=⟨_,rfl⟩;rw[<-aw] at aj;have ab:=ZZ aw;clear aw
   go_upto_region 6 with fail
   obtain⟨u,F⟩:∃ u,u=wr.alloc (.cells #[.int .i64 f,.int .i64 g,.int .i64 n] 85):=⟨_,rfl⟩;have au:Hid (Below wr.heap.size wr u):=ZZ (by rw[F];exact(Below.refl _ _).alloc zL _)
   have K:Hid (Be u wr.heap.size #[.int .i64 f,.int .i64 g,.int .i64 n]):=ZZ (by rw[F];exact heap_alloc_new wr _)
   rw[<-F];clear F c0 T I;obtain⟨Z,aV⟩:∃ Z,Z=wr.heap.size:=⟨_,rfl⟩;rw[<-aV] at K ⊢;clear aV;have aN:=ZZ (Y.out.rd.below au.o zL);have aK:=ZZ (B.out.trans (au.o.mono B.out.size));obtain⟨va,vc,a4⟩:∃ a c,u5=.slice a P.length c:=by obtain⟨a,c,h,-⟩:=aN.o;exact⟨a,c,h⟩
   subst a4;obtain⟨x0,-⟩:=K.o.cell 0;obtain⟨x1,-⟩:=K.o.cell 1;clear Y B au
   go_region_held(fun w'=>w'.cell? ⟨Z,0,none⟩=some (.int .i64 f)∧w'.cell? ⟨Z,1,none⟩=some (.int .i64 g)) (go_keep)
    (first
     | (go_at_call_of 132 (Value.int .i64 f);refine(bk.o _ _ (aN.o.below ((Below.refl _ _).drew) zL)).mono ?_;rintro e W6 ⟨v6,rfl,af,aC⟩;have av:Below u.heap.size u W6:=((Below.refl _ _).drew).trans aC;have X:=K.o.below av zL;have ba:=ZZ X;have aX:=ZZ (aK.o.trans (av.mono aK.o.size));obtain⟨a6,c6,rfl,-⟩:=af.rd;have a5:=ZZ af.rd;obtain⟨y0,-⟩:=X.cell 0;obtain⟨y1,-⟩:=X.cell 1;clear af aC X av)
     | (go_at_call_of 132 (Value.int .i64 g);refine(a9.o _ _ a5.o).mono ?_;rintro e W7 ⟨v7,rfl,ag,ap⟩;have E:=ba.o.below ap zL;have bx:=ZZ E;have az:=ZZ (aX.o.trans (ap.mono aX.o.size));obtain⟨a7,c7,rfl,-⟩:=ag.rd;have bb:=ZZ ag.rd;obtain⟨z0,-⟩:=E.cell 0;obtain⟨z1,-⟩:=E.cell 1;obtain⟨z2,-⟩:=E.cell 2;clear ag ap E))
   all_goals
    go_wp2_with fail
    refine(aj.o _ _ bb.o).mono ?_;rintro e W8 ⟨v8,rfl,aO,aE⟩;have a0:=ZZ (az.o.trans (aE.mono az.o.size));have a8:=ZZ (aO.mono az.o.size);clear aO aE;go_wp2;go_roundw
    case rel=>exact⟨q+1,by go_num,by omega,ZZ (by rw[<-ab.o];exact a8.o),a0⟩
    case measure=>simp[intOf];omega
theorem Zvt (D:Value) (a:St) (C:Value) (b:St) (w:World) (K:StV w D a) (L:StV w C b):
 Calls prog 45 #[D,C] w fun e w'=>e=.returned (.bool (decide (Zmw a b)))∧Below w.heap.size w w':=by
 obtain⟨F,rfl,t,-,-⟩:=K;obtain⟨E,rfl,v,-,-⟩:=L;obtain⟨m,A,n,l⟩:=a;obtain⟨j,u,k,q⟩:=b;simp only at t v ⊢;have G:Hid (∀ W,Below w.heap.size w W->Calls prog 89 #[F,E] W fun e w'=>e=.returned (.bool (decide (A=u)))∧Below W.heap.size W w'):=fun W h=>Zsn F A E u W (t.below h zL) (v.below h zL)
 have g:Hid (∀ x y,Below w.heap.size w ((w.alloc x).alloc y)):=fun x y=>((Below.refl _ _).alloc zL x).alloc (by simp) y
 obtain⟨R,z⟩:∃ R,R=decide (Zmw ⟨m,A,n,l⟩ ⟨j,u,k,q⟩):=⟨_,rfl⟩;rw[<-z];have p:=Qc z;clear z t v;by_cases f:m=j
 ·have O:(m == j)=true:=beq_iff_eq.2 f
  have J:=Qc f;clear f;by_cases c:n=k
  ·have H:(n == k)=true:=beq_iff_eq.2 c
   have M:=Qc c;clear c;by_cases d:l=q
   ·have N:(l == q)=true:=beq_iff_eq.2 d
    have P:=Qc d;clear d
    go_enter func45,ntmps45
    go_wp2_with fail
    refine(G.o _ (g.o _ _)).mono ?_;rintro e Q ⟨rfl,B⟩;have I:=Qc ((g.o _ _).trans (B.mono (g.o _ _).size));clear B;go_wp2;go_ret;refine⟨Y6 ?_,I.o⟩;rw[p.o];exact decide_eq_decide.2 ⟨fun h=>⟨J.o,M.o,P.o,h⟩,fun h=>h.2.2.2⟩
   ·have N:(l == q)=false:=beq_eq_false_iff_ne.2 d
    have i:Hid (R=false):=p.o.trans (decide_eq_false fun h=>d h.2.2.1)
    clear d
    go_enter func45,ntmps45
    go_wp2;go_ret;exact⟨Y6 i.o.symm,g.o _ _⟩
  ·have H:(n == k)=false:=beq_eq_false_iff_ne.2 c
   have i:Hid (R=false):=p.o.trans (decide_eq_false fun h=>c h.2.1)
   clear c
   go_enter func45,ntmps45
   go_wp2;go_ret;exact⟨Y6 i.o.symm,g.o _ _⟩
 ·have O:(m == j)=false:=beq_eq_false_iff_ne.2 f
  have i:Hid (R=false):=p.o.trans (decide_eq_false fun h=>f h.1)
  clear f
  go_enter func45,ntmps45
  go_wp2;go_ret;exact⟨Y6 i.o.symm,g.o _ _⟩
end Go.Proofs.YtnahjngbneicaaaGreatDoor
