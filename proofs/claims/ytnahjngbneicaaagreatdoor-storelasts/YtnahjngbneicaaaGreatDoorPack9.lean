import Derived.Test.YtnahjngbneicaaaGreatDoorPack8
import Derived.Deep.WholeRow
namespace Go.Proofs.YtnahjngbneicaaaGreatDoor
open _root_.Go.Proofs.Tryz
open List (append_assoc length_append length_singleton nil_append take_add_one take_of_length_le)
set_option maxHeartbeats 40000000
set_option maxRecDepth 100000
open Go.RowKit
variable {w w':World} {B N N' T T' b p pd:Nat} {L:List (List UInt8)} {s s':Sto} {K:Nat->Prop} {d:Dk} {v x y z:Value} {l:List UInt8} {xs:List Value}
structure Stp where
 g:Nat
 bd:Array Value
 cp:Array Value
def Stp.val (s:Stp):Value:=.func (.func s.g) s.bd s.cp
theorem Znx (b z cap:Nat) (n:Nat) (fs:Nat->Stp) (w:World) (P:Nat->World->Prop) (Q:Int->World->Prop) (O:n<=1000000)
 (y:∀ i W,i<n->P i W->W.cell? ⟨b,z+i,none⟩=some (fs i).val)
 (D:∀ i W,i<n->P i W->Calls prog (fs i).g ((fs i).bd++(fs i).cp) W fun e w'=>∃ c:Int,e=.returned (.int .i64 c)∧(c=0->P (i+1) w')∧(c≠0->Q c w'))
 (C:∀ i,i<n->∀ args W,(callFunc (fs i).g args).run prog W=.ok (.enter (fs i).g args) W) (G:P 0 w):
 Calls prog 62 #[.slice (some ⟨b,z,none⟩) n cap] w fun e w'=>∃ c:Int,e=.returned (.int .i64 c)∧(c=0->P n w')∧(c≠0->Q c w'):=by
 have A:=ZZ y;have v:=ZZ D;have H:=ZZ C;have R:(n:Int)<=1000000:=by omega
 clear y D C;have B:=ZZ G;clear G
 go_enter func62,ntmps62
 go_wp2
 go_loopw[8] (fun k wr=>∃ i:Nat,k=.int .i64 (i:Int)∧i<=n∧Hid (P i wr)) (fun k _=>n-(intOf k).toNat)
 case atStart=>exact⟨0,rfl,Nat.zero_le _,B⟩
 case round=>
  clear B;obtain⟨i,rfl,L,f⟩:=hrel;by_cases t:i<n
  case neg=>
   obtain rfl:i=n:=by omega
   go_wp2;go_ret;exact⟨0,rfl,fun _=>f.o,fun h=>absurd rfl h⟩
  have d:=A.o i wr t f.o;have j:=ZZ (v.o i wr t f.o);have p:=H.o i t;unfold Stp.val at d;obtain⟨g,q⟩:∃ g,g=(fs i).g:=⟨_,rfl⟩;obtain⟨u,F⟩:∃ u,u=(fs i).bd:=⟨_,rfl⟩;obtain⟨E,x⟩:∃ E,E=(fs i).cp:=⟨_,rfl⟩;rw[<-q,<-F,<-x] at d j;rw[<-q] at p;have S:(i:Int)<(n:Int):=by omega
  clear f q F x A v H
  go_wp2_with fail
  refine j.o.mono ?_;rintro e M ⟨c,rfl,l,m⟩;by_cases a:c=0
  ·subst a
   have I:=ZZ (l rfl);clear l m d p j;go_wp2;go_roundw
   case rel=>exact⟨i+1,by go_num,by omega,I⟩
   case measure=>simp[intOf];omega
  ·have J:=ZZ (m a)
   have N:(c != 0)=true:=by rw[bne_iff_ne];exact a
   have K:=ZZ a;clear l m d p j a;go_wp2;go_ret;exact⟨c,rfl,fun h=>absurd h K.o,fun _=>J.o⟩
theorem Jq.setHead {M I:Nat->Prop} {L:ZdU} (h:Jq M I w p pd L s) (j:Nat) (x:Value) (l:s'.log=s.log) (u:s'.bases=s.bases) (q:s'.now=s.now) (D:(stC pd L s).setIfInBounds j x=stC pd L s'):
 Jq M I (w.setCell ⟨p,j,none⟩ x) p pd L s':=by
 have b:∀ k,k≠p->(w.setCell ⟨p,j,none⟩ x).heap[k]?=w.heap[k]?:=fun k b=>Below.heap_setCell _ _ _ _ b
 have d:∀ {t:TypeId} {n sz g:Nat} {v:Value} {xs:List Value},w.ownsRow 0 t sz v n xs->v.ownBlock=some g->t≠76->g≠p:=fun z a B=>by
  obtain⟨E,C⟩:=X0 z a;exact C.ne h.head B
 have m:∀ k,I k->(w.setCell ⟨p,j,none⟩ x).heap[k]?=w.heap[k]?:=fun k A=>b k fun e=>h.dis p h.mh (by rw[<-e];exact A)
 have f:L.nx s'=L.nx s:=by unfold ZdU.nx;rw[q]
 refine⟨by rw[<-D];exact h.head.set j x,?_,?_,Qh h.bases fun g a=>b g (d h.bases a (by decide)),by rw[u];exact h.bsEq,by rw[f];exact h.now.keep h.inow m,fun y i=>(h.base y i).keep (h.ibase y i) m,h.mh,h.mr,h.mp,h.mb,by rw[f];exact h.inow,h.ibase,fun k c=>by simpa using h.ltM k c,fun k c=>by simpa using h.ltI k c,h.dis⟩
 ·rw[l]
  exact Qh h.recs fun g a=>b g (d h.recs a (by decide))
 ·rw[l]
  exact Qh h.pcs fun g a=>b g (d h.pcs a (by decide))
theorem SD.setHead (h:SD K w pd p s d N T) (g:∀ k,K k->k<w.heap.size) (j:Nat) (x:Value) (q:s'.log=s.log) (f:s'.bases=s.bases) (c:s'.now=s.now) (u:∀ L,(stC pd L s).setIfInBounds j x=stC pd L s'):
 SD K (w.setCell ⟨p,j,none⟩ x) pd p s' d N T∧Ql (fun k=>¬ K k) w (w.setCell ⟨p,j,none⟩ x):=by
 obtain⟨F,M,I,L,t,b,l,n,e,m,i⟩:=h;exact SD.own g t l n e m i ((Ql.refl M w).setCell j (fun _=>b.mh) x) (b.setHead j x q f c (u L)) (fun _ a=>.inl a) (fun _ a=>.inl a)
theorem SD.cells (h:SD K w pd p s d N T):
 (w.cell? ⟨p,0,none⟩=some (ptr pd)∧w.cell? ⟨p,11,none⟩=some (.int .i64 s.synced)∧w.cell? ⟨p,12,none⟩=some (.int .i64 s.cur)∧w.cell? ⟨p,13,none⟩=some (.bool s.nw))∧∀ j,w.frozen? ⟨p,j,none⟩=false:=by
 obtain⟨F,M,I,L,g,a,-⟩:=h;obtain⟨b,-,-,-,-,-,e,f,c⟩:=a.cs;exact⟨⟨b,e,f,c⟩,a.fz⟩
theorem ZcM (w:World) (h:SD K w pd p s d N T) (g:∀ k,K k->k<w.heap.size):
 Calls prog 64 #[ptr p] w fun e w'=>Jz K w pd p (Qq (s,d)) (N+2) T e w':=by
 unfold Qq;obtain⟨⟨d',c⟩,l⟩:∃ r,r=Qn d:=⟨_,rfl⟩
 have t:=ZZ (h.disk (d':=d') (c:=c) (N':=N+2) (T':=T) g (fun F z _=>by
  have:=Zpb w z;rw[<-l] at this
  exact this))
 obtain⟨⟨x,-⟩,-⟩:=h.cells
 dsimp only
 rw[<-l]
 dsimp only
 have A:=ZZ g;obtain⟨R,j⟩:∃ R:SDk × Int,R=((if c=0 then { s with nw:=false } else s,d'),c):=⟨_,rfl⟩
 rw[<-j];have a:=ZZ j;clear h l g j
 go_enter func64,ntmps64
 go_wp2_with fail
 refine t.o.mono ?_;rintro e y ⟨rfl,f,i⟩;have m:=ZZ f;have n:=ZZ i;have v:Hid (∀ k,K k->k<y.heap.size):=ZZ (fun k u=>Nat.lt_of_lt_of_le (A.o k u) i.size)
 obtain⟨⟨-,-,-,C⟩,fz⟩:=f.cells;have B:=fz 13;clear f i t x fz;by_cases b:c=0
 ·subst b
  rw[if_pos rfl] at a;have q:=ZZ (m.o.setHead (s':={ s with nw:=false }) v.o 13 (.bool false) rfl rfl rfl (fun _=>rfl))
  go_wp2;go_ret;rw[a.o];exact⟨rfl,q.o.1,n.o.trans q.o.2 (fun _ _ h=>h)⟩
 ·rw[if_neg b] at a
  have D:(c == 0)=false:=beq_eq_false_iff_ne.2 b;clear b;go_wp2;go_ret;rw[a.o];exact⟨rfl,m.o,n.o⟩
theorem ZlM (w:World) (h:SD K w pd p s d N T) (l:∀ k,K k->k<w.heap.size):
 Calls prog 66 #[ptr p] w fun e w'=>Jz K w pd p (Qx (s,d)) (N+2) T e w':=by
 unfold Qx;have a:=ZZ (ZcM w h l);obtain⟨⟨-,-,-,c⟩,-⟩:=h.cells;have i:=ZZ h
 dsimp only
 cases hb:s.nw with
 | false=>
  rw[hb] at c;rw[if_neg (by simp)]
  clear h hb a
  go_enter func66,ntmps66
  go_wp2;go_ret;exact⟨rfl,i.o.mono (by omega) zL,Ql.refl _ _⟩
 | true=>
  rw[hb] at c;rw[if_pos rfl];obtain⟨r,f⟩:∃ r,r=Qq (s,d):=⟨_,rfl⟩;rw[<-f] at a ⊢;clear h hb i f
  go_enter func66,ntmps66
  go_wp2_with fail
  refine a.o.mono ?_;rintro e m ⟨rfl,b,g⟩;have j:=ZZ (And.intro b g);clear b g a;go_wp2;go_ret;exact⟨rfl,j.o⟩
theorem Jz.from {K2:Nat->Prop} {W:World} {r:SDk × Int} {e:Ending} (h:Jz K2 W pd p r N T e w') (a:∀ k,K k->K2 k) (g:Ql (fun k=>¬ K k) w W) (c:N<=N') (d:T<=T'):Jz K w pd p r N' T' e w':=
 ⟨h.1,(h.2.1.less a).mono c d,g.trans (h.2.2.mono (fun k b f=>b (a k f))) (fun _ _ h=>h)⟩
theorem SD.step {f:Nat} {args:Array Value} (g:Dk->Dk × Int) (h:SD K w pd p s d N T) (a:∀ k,K k->k<w.heap.size)
 (b:∀ F,Dsk F w pd d N T->(∀ k,F k->¬ K k)->Calls prog f args w fun e w'=>Zgk F w pd (g d).1 (g d).2 N' T' e w'):Calls prog f args w fun e w'=>Jz K w pd p (Xm g (s,d)) N' T' e w':=
 h.disk a b
theorem Zny {R:Nat} (w:World) (h:SD K w pd p s d N T) (f:∀ k,K k->k<w.heap.size) (x:w.cell? ⟨R,0,none⟩=some (ptr p)) (i:I64 s.cur):
 Calls prog 65 #[.pointer (some ⟨R,0,none⟩)] w fun e w'=>Jz K w pd p (Q1 (s,d)) (N+2) T e w':=by
 have j:=ZZ ((h.below (Below.refl _ _).drew).step (fun d=>X3 d s.cur) f (fun F m _=>ZqM s.cur i _ m))
 obtain⟨⟨q,-,v,-⟩,-⟩:=h.cells;have n:Hid (Ql (fun k=>¬ K k) w w.drew):=ZZ (Ql.ofBelow (Below.refl _ _).drew)
 obtain⟨r,a⟩:∃ r,r=Q1 (s,d):=⟨_,rfl⟩;have l:Xm (fun d=>X3 d s.cur) (s,d)=r:=a.symm
 rw[l] at j;rw[<-a];generalize s.cur=u at *;clear h f i l a
 go_enter func65,ntmps65
 go_upto_region 1 with fail
 go_region_with(first | (go_at_call 59;refine j.o.mono ?_;rintro e t ⟨rfl,c,g⟩;have b:=ZZ (And.intro c g);clear c g))
 all_goals
  go_wp2;go_ret;exact⟨rfl,b.o.1,n.o.trans b.o.2 (fun _ _ h=>h)⟩
theorem ZlN (x:SDk):(Qv [Q1,Qx] x).1.1=x.1∨(Qv [Q1,Qx] x).1.1={ x.1 with nw:=false }:=by
 unfold Qv Qv;split
 ·split
  ·unfold Qv Qx Qq
   split
   ·dsimp only
    split
    ·exact .inr rfl
    ·exact .inl rfl
   ·exact .inl rfl
  ·unfold Qx Qq
   split
   ·dsimp only
    split
    ·exact .inr rfl
    ·exact .inl rfl
   ·exact .inl rfl
 ·exact .inl rfl
theorem ZpE.nw (h:ZpE s) (b:Bool):ZpE { s with nw:=b }:=⟨h.f0,h.f1,h.sy,h.cu⟩
theorem SD.synced (h:SD K w pd p s d N T) (a:∀ k,K k->k<w.heap.size):
 SD K (w.setCell ⟨p,11,none⟩ (.int .i64 s.next)) pd p (Ye s) d N T∧Ql (fun k=>¬ K k) w (w.setCell ⟨p,11,none⟩ (.int .i64 s.next)):=
 h.setHead a 11 _ rfl rfl rfl (fun _=>rfl)
theorem SD.next (h:SD K w pd p s d N T) (a:ZpE s):
 Calls prog 14 #[ptr p] w fun e w'=>e=.returned (.int .i64 s.next)∧Below w.heap.size w w':=by
 obtain⟨F,M,I,L,c,b,-⟩:=h;exact Zit w b a
theorem ZeO (w:World) (h:SD K w pd p s d N T) (hK:∀ k,K k->k<w.heap.size) (n:ZpE s):
 Calls prog 27 #[ptr p] w fun e w'=>Jz K w pd p (Q5 (s,d)) (N+4) T e w':=by
 obtain⟨a,B⟩:∃ a,a=w.alloc (.cells #[ptr p] 28):=⟨_,rfl⟩;have aa:Hid (Below w.heap.size w a):=ZZ (by rw[B];exact Jw _ _)
 have HX:Hid (Bk 28 a w.heap.size #[ptr p]):=ZZ (by rw[B];exact heap_alloc_new w _)
 obtain⟨t,H⟩:∃ t:Nat->Prop,t=fun k=>K k∨(w.heap.size<=k∧k<a.heap.size):=⟨_,rfl⟩
 have z:Hid (SD t a pd p s d N T):=ZZ (by rw[H];exact h.fresh aa.o)
 have ap:Hid (∀ k,t k->k<a.heap.size):=ZZ (by
  rw[H];intro k hk;rcases hk with hk | hk
  ·exact Nat.lt_of_lt_of_le (hK k hk) aa.o.size
  ·exact hk.2)
 have al:Hid (∀ k,K k->t k):=ZZ (by rw[H];exact fun k hk=>.inl hk)
 have au:Hid (t w.heap.size):=ZZ (by rw[H];exact .inr ⟨Nat.le_refl _,HX.o.lt⟩)
 have an:Hid (Ql (fun k=>¬ K k) w a):=ZZ (Ql.ofBelow aa.o)
 have P:Hid (∀ W,Ql (fun k=>¬ t k) a W->W.cell? ⟨w.heap.size,0,none⟩=some (ptr p)):=ZZ (fun W ho=>((HX.o.keep (ho.block _ HX.o.lt (fun n=>n au.o))).cell 0 rfl).1)
 have S:=ZZ n;have r0:=P.o a (Ql.refl _ _);obtain⟨⟨-,-,aG,-⟩,-⟩:=z.o.cells;obtain⟨v,V⟩:∃ v,v=Q5 (s,d):=⟨_,rfl⟩;have L:=ZZ V;rw[<-V];clear h hK H V;by_cases q:s.cur=0
 ·have aC:(s.cur != 0)=false:=by rw[q];rfl
  have y:Hid (v=((Ye s,d),0)):=ZZ (by rw[L.o];unfold Q5;rw[if_pos q])
  have Z:Hid (∀ W,Below a.heap.size a W->Calls prog 14 #[ptr p] W fun e w'=>e=.returned (.int .i64 s.next)∧Below a.heap.size a w'):=ZZ (fun W f=>((z.o.below f).next S.o).mono (by
   rintro e w' ⟨rfl,A⟩
   exact⟨rfl,f.trans (A.mono f.size)⟩))
  have Q:Hid (∀ W,Below a.heap.size a W->W.cell? ⟨w.heap.size,0,none⟩=some (ptr p)∧W.cell? ⟨p,11,none⟩=some (.int .i64 s.synced)∧W.frozen? ⟨p,11,none⟩=false):=ZZ (fun W f=>by
   obtain⟨⟨-,af,-⟩,fz⟩:=(z.o.below f).cells
   exact⟨P.o W (Ql.ofBelow f),af,fz 11⟩)
  have ai:Hid (Below a.heap.size a a.drew):=ZZ (Below.refl _ _).drew
  have G:Hid (∀ W,Below a.heap.size a W->Jz K w pd p v (N+4) T (.returned (.int .i64 0)) (W.setCell ⟨p,11,none⟩ (.int .i64 s.next))):=ZZ (fun W f=>by
   rw[y.o];have m:=(z.o.below f).synced (fun k hk=>Nat.lt_of_lt_of_le (ap.o k hk) f.size)
   exact Jz.from (K2:=t) (W:=W) ⟨rfl,m.1,m.2⟩ al.o (an.o.trans (Ql.ofBelow (F:=fun _=>False) f) (fun _ _ h=>h.elim)) (by omega) zL)
  generalize s.next=nx at *;generalize s.cur=cu at *;clear q y L n
  go_enter func27,ntmps27
  go_upto_region 1 with fail
  rw[<-B];clear B
  go_upto_region 6 with fail
  go_region_with(first | (go_at_call 14;refine(Z.o _ (by first | exact ai.o | exact Below.refl _ _)).mono ?_;rintro e g ⟨rfl,X⟩;have x:=ZZ X;obtain⟨q0,ax,qf⟩:=Q.o g X;clear X))
  all_goals
   go_wp2;go_ret;exact G.o _ x.o
 ·have aC:(s.cur != 0)=true:=by rw[bne_iff_ne];exact q
  obtain⟨b,D⟩:∃ b,b=Qv [Q1,Qx] (s,d):=⟨_,rfl⟩;have y:Hid (v=if b.2=0 then((Ye b.1.1,b.1.2),0) else b):=ZZ (by rw[L.o,D];unfold Q5;rw[if_neg q])
  have ar:Hid (ZpE b.1.1):=ZZ (by
   rcases ZlN (s,d) with hh | hh
   ·rw[D,hh];exact S.o
   ·rw[D,hh];exact S.o.nw false)
  obtain⟨g,U⟩:∃ g,g=a.alloc (.cells #[.func (.func 65) #[] #[.pointer (some ⟨w.heap.size,0,none⟩)],.func (.func 66) #[ptr p] #[]] 153):=⟨_,rfl⟩;have x:Hid (Below a.heap.size a g):=ZZ (by rw[U];exact Jw _ _)
  have Y:Hid (Bk 153 g a.heap.size #[.func (.func 65) #[] #[.pointer (some ⟨w.heap.size,0,none⟩)],.func (.func 66) #[ptr p] #[]]):=ZZ (by rw[U];exact heap_alloc_new a _)
  obtain⟨K2,I⟩:∃ K2:Nat->Prop,K2=fun k=>t k∨(a.heap.size<=k∧k<g.heap.size):=⟨_,rfl⟩
  have aD:Hid (SD K2 g pd p s d N T):=ZZ (by rw[I];exact z.o.fresh x.o)
  have am:Hid (∀ k,K2 k->k<g.heap.size):=ZZ (by
   rw[I];intro k hk;rcases hk with hk | hk
   ·exact Nat.lt_of_lt_of_le (ap.o k hk) x.o.size
   ·exact hk.2)
  have ah:Hid (∀ k,t k->K2 k):=ZZ (by rw[I];exact fun k hk=>.inl hk)
  have aE:Hid (K2 a.heap.size):=ZZ (by rw[I];exact .inr ⟨Nat.le_refl _,Y.o.lt⟩)
  have aF:Hid (Calls prog 62 #[.slice (some ⟨a.heap.size,0,none⟩) 2 2] g fun e w'=>∃ c:Int,e=.returned (.int .i64 c)∧(c=0->SD K2 w' pd p b.1.1 b.1.2 (N+4) T∧b.2=0∧Ql (fun k=>¬ K2 k) g w')∧(c≠0->SD K2 w' pd p b.1.1 b.1.2 (N+4) T∧b.2=c∧Ql (fun k=>¬ K2 k) g w')):=ZZ (by
   have hs:=Znx a.heap.size 0 2 2 (fun i=>if i=0 then⟨65,#[],#[.pointer (some ⟨w.heap.size,0,none⟩)]⟩ else⟨66,#[ptr p],#[]⟩) g
    (fun i W=>Ql (fun k=>¬ K2 k) g W∧(i=0->SD K2 W pd p s d N T)∧(i=1->(Q1 (s,d)).2=0∧SD K2 W pd p (Q1 (s,d)).1.1 (Q1 (s,d)).1.2 (N+2) T)∧(i=2->b.2=0∧SD K2 W pd p b.1.1 b.1.2 (N+4) T))
    (fun c W=>SD K2 W pd p b.1.1 b.1.2 (N+4) T∧b.2=c∧Ql (fun k=>¬ K2 k) g W) (by decide)
    (fun i W O u=>by
     have A:=Y.o.keep (u.1.block _ Y.o.lt (fun n=>n aE.o))
     match i,O with
     | 0,_=>exact(A.cell 0 rfl).1
     | 1,_=>exact(A.cell 1 rfl).1)
    (fun i W O u=>by
     have ak:∀ k,K2 k->k<W.heap.size:=fun k hk=>Nat.lt_of_lt_of_le (am.o k hk) u.1.size
     match i,O with
     | 0,_=>
      refine(Zny (R:=w.heap.size) W (u.2.1 rfl) ak (P.o W ((Ql.ofBelow x.o).trans (u.1.mono (fun k hk n=>hk (ah.o k n))) (fun _ _ h=>h))) S.o.cu).mono ?_
      rintro e w' ⟨rfl,m,E⟩;refine⟨_,rfl,fun j=>⟨u.1.trans E (fun _ _ h=>h),fun h=>absurd h (by decide),fun _=>⟨j,m⟩,fun h=>absurd h (by decide)⟩,fun j=>?_⟩
      have M:b=Q1 (s,d):=by rw[D];unfold Qv;rw[if_neg j]
      rw[M];exact⟨m.mono (by omega) zL,rfl,u.1.trans E (fun _ _ h=>h)⟩
     | 1,_=>
      obtain⟨ay,av⟩:=u.2.2.1 rfl;refine(ZlM W av ak).mono ?_;rintro e w' ⟨rfl,m,E⟩;have e2:Qx ((Q1 (s,d)).1.1,(Q1 (s,d)).1.2)=Qx (Q1 (s,d)).1:=rfl;rw[e2] at m ⊢
      have M:(Qx (Q1 (s,d)).1).1=b.1∧(Qx (Q1 (s,d)).1).2=b.2:=by
       rw[D];unfold Qv;rw[if_pos ay];unfold Qv;split
       ·rename_i j
        exact⟨rfl,j⟩
       ·exact⟨rfl,rfl⟩
      rw[M.1] at m
      exact⟨_,rfl,fun j=>⟨u.1.trans E (fun _ _ h=>h),fun h=>absurd h (by decide),fun h=>absurd h (by decide),fun _=>⟨by rw[<-M.2];exact j,m⟩⟩,fun j=>⟨m,M.2.symm,u.1.trans E (fun _ _ h=>h)⟩⟩)
    (fun i O=>by
     match i,O with
     | 0,_=>exact enters_of func65 (by kernel_rfl) rfl
     | 1,_=>exact enters_of func66 (by kernel_rfl) rfl)
    ⟨Ql.refl _ _,fun _=>aD.o,fun h=>absurd h (by decide),fun h=>absurd h (by decide)⟩
   refine hs.mono ?_;rintro e w' ⟨c,rfl,g1,g2⟩;refine⟨c,rfl,fun j=>?_,g2⟩
   obtain⟨h1,-,-,h4⟩:=g1 j
   exact⟨(h4 rfl).2,(h4 rfl).1,h1⟩)
  have aj:Hid (Ql (fun k=>¬ K k) w g):=ZZ (an.o.trans (Ql.ofBelow (F:=fun _=>False) x.o) (fun _ _ h=>h.elim))
  have ab:Hid (∀ k,K k->K2 k):=ZZ (fun k hk=>ah.o k (al.o k hk))
  have aB:Hid (∀ W,Ql (fun k=>¬ K2 k) g W->W.cell? ⟨w.heap.size,0,none⟩=some (ptr p)):=ZZ (fun W ho=>P.o W ((Ql.ofBelow x.o).trans (ho.mono (fun k hk n=>hk (ah.o k n))) (fun _ _ h=>h)))
  have aq:=ZZ U;have aJ:=z;generalize s.cur=cu at *;clear q D I n U
  go_enter func27,ntmps27
  go_upto_region 1 with fail
  rw[<-B];clear B
  go_wp2_with(go_at_call 62;rw[<-aq.o];refine aF.o.mono ?_)
  rintro e l ⟨c,rfl,ad,ae⟩;clear aq r0 aG;by_cases q:c=0
  ·subst q
   obtain⟨J,j,C⟩:=ad rfl;have az:Hid (v=((Ye b.1.1,b.1.2),0)):=ZZ (by rw[y.o,if_pos j])
   have aA:Hid (∀ k,K2 k->k<l.heap.size):=ZZ (fun k hk=>Nat.lt_of_lt_of_le (am.o k hk) C.size)
   have ag:=ZZ J;have ao:=ZZ C
   have Z:Hid (∀ W,Below l.heap.size l W->Calls prog 14 #[ptr p] W fun e w'=>e=.returned (.int .i64 b.1.1.next)∧Below l.heap.size l w'):=ZZ (fun W f=>((ag.o.below f).next ar.o).mono (by
    rintro e w' ⟨rfl,A⟩
    exact⟨rfl,f.trans (A.mono f.size)⟩))
   have Q:Hid (∀ W,Below l.heap.size l W->W.cell? ⟨w.heap.size,0,none⟩=some (ptr p)∧W.cell? ⟨p,11,none⟩=some (.int .i64 b.1.1.synced)∧W.frozen? ⟨p,11,none⟩=false):=ZZ (fun W f=>by
    obtain⟨⟨-,af,-⟩,fz⟩:=(ag.o.below f).cells
    exact⟨aB.o W (ao.o.trans (Ql.ofBelow (F:=fun _=>False) f) (fun _ _ h=>h.elim)),af,fz 11⟩)
   have ai:Hid (Below l.heap.size l l.drew):=ZZ (Below.refl _ _).drew
   have G:Hid (∀ W,Below l.heap.size l W->Jz K w pd p v (N+4) T (.returned (.int .i64 0)) (W.setCell ⟨p,11,none⟩ (.int .i64 b.1.1.next))):=ZZ (fun W f=>by
    rw[az.o];have m:=(ag.o.below f).synced (fun k hk=>Nat.lt_of_lt_of_le (aA.o k hk) f.size)
    exact Jz.from (K2:=K2) (W:=W) ⟨rfl,m.1,m.2⟩ ab.o ((aj.o.trans (ao.o.mono (fun k hk n=>hk (ab.o k n))) (fun _ _ h=>h)).trans (Ql.ofBelow (F:=fun _=>False) f) (fun _ _ h=>h.elim)) (by omega) zL)
   obtain⟨q0,ax,qf⟩:=Q.o l (Below.refl _ _);generalize b.1.1.next=nx at *;generalize b.1.1.synced=sy at *;clear ad ae J j C y L
   go_upto_region 6 with fail
   go_region_with(first | (go_at_call 14;refine(Z.o _ (by first | exact ai.o | exact Below.refl _ _)).mono ?_;rintro e W3 ⟨rfl,ac⟩;have aw:=ZZ ac;obtain⟨x0,aH,xf⟩:=Q.o W3 ac;clear ac))
   all_goals
    go_wp2;go_ret;exact G.o _ aw.o
  ·obtain⟨J,j,C⟩:=ae q
   have G:Hid (Jz K w pd p v (N+4) T (.returned (.int .i64 c)) l):=ZZ (by
    rw[y.o,if_neg (by rw[j];exact q)]
    exact Jz.from (K2:=K2) (W:=g) ⟨by rw[j],J,C⟩ ab.o aj.o zL zL)
   have aI:(c != 0)=true:=by rw[bne_iff_ne];exact q
   clear ad ae J j C y L q;go_wp2;go_ret;exact G.o
theorem Own.empty {X:Obj} {cur:Array Value} (a:w.heap.size=N) (b:X=.cells cur 5 (0,0)) (c:B<=N) (cap:Nat) (d:cap<=maxLen) (f:cur.size=cap):Own (w.alloc X) B (.slice (some ⟨N,0,none⟩) 0 cap) []:=by
 subst a b;have h:=World.ownsRow_made (e:=5) (size:=1) (base:=B) w cur cap c d (by omega)
 exact h
theorem ZqV (n:Nat) (w:World) (u:n<=1000000):
 Calls prog 182 #[.slice none 0 0,.int .i64 (n:Int)] w fun e w'=>∃ v',e=.returned v'∧Own w' w.heap.size v' []∧Below w.heap.size w w':=by
 obtain⟨b,f,i,m,c⟩:=info_parts Zlf;by_cases l:n=0
 ·subst l
  go_enter func182,ntmps182
  go_wp2;go_ret;exact⟨_,rfl,Own.nil _ _,Below.refl _ _⟩
 ·have g:∀ ty,(Builtin.append_ #[53,3] ty #[.slice none 0 0,.int .i64 (n:Int)]).run prog w =
   .ok (.slice (some ⟨w.heap.size,0,none⟩) n (grownCap w n 0 5)) (w.drew.alloc (.cells (#[]++Builtin.zeroCells #[.int .u8 0] n++Builtin.zeroCells #[.int .u8 0] (grownCap w n 0 5-n)) 5)):=fun ty=>by
   have h:=Lib.run_append_grow_zeros (P:=prog) w 53 3 ty 5 b (.int .u8 0) .i64 .i64 underlying53 underlying3 f i none 0 0 [] (run_firstCells_none w.drew b.size 0 0 0) n (by omega) (by omega) (by omega) (by omega) (by rw[c];omega)
    (by rw[Nat.zero_add];exact growslice_fits (by omega) (by rw[c];omega))
   rw[Nat.zero_add] at h;exact h
  have p:n<=grownCap w n 0 5:=grownCap_ge w _ _ _;have a:=grownCap_le_maxLen w n 0 5 (by unfold maxLen;omega)
  generalize grownCap w n 0 5=G at *
  have t:G<=9223372036854775807:=by
   unfold maxLen at a;omega
  have d:(#[]++Builtin.zeroCells #[Value.int .u8 0] n++Builtin.zeroCells #[Value.int .u8 0] (G-n)).size=G:=by
   simp[Builtin.zeroCells];omega
  generalize (#[]++Builtin.zeroCells #[Value.int .u8 0] n++Builtin.zeroCells #[Value.int .u8 0] (G-n))=Z at *;have q:(0:Int)<(n:Int):=by omega
  have j:Hid (Own (w.drew.alloc (.cells Z 5)) w.heap.size (.slice (some ⟨w.heap.size,0,none⟩) 0 G) []):=ZZ (Own.empty rfl rfl zL G a d);have k:Hid (Below w.heap.size w (w.drew.alloc (.cells Z 5))):=ZZ (((Below.refl _ _).drew).alloc zL _);clear d a
  go_enter func182,ntmps182
  go_wp2_with(at_builtin;refine Lib.wpList_append_run _ rfl _ _ _ _ rfl _ _ rfl rfl _ _ (g _) ?_)
  all_goals (go_ret;exact⟨_,rfl,j.o,k.o⟩)
theorem Znz (L:List (List UInt8)) (k:Nat) (a:k<L.length):(L.take (k+1)).flatten=(L.take k).flatten++L.getD k []:=by
 have e:L.take (k+1)=L.take k++[L.getD k []]:=by
  rw[take_add_one];simp[List.getD,a]
 rw[e,List.flatten_append];simp
theorem ZyS (L:List (List UInt8)) (k:Nat):((L.take k).flatten).length<=L.flatten.length:=by
 have e:L.flatten=(L.take k).flatten++(L.drop k).flatten:=by rw[<-List.flatten_append,List.take_append_drop]
 rw[e,length_append];omega
def ZlO (L:List (List UInt8)) (k:Nat):Nat:=(L.take k).flatten.length
def Zvh (L:List (List UInt8)) (k:Nat):List UInt8:=(L.take k).flatten
theorem ZnA (L:List (List UInt8)) (k:Nat) (a:k<L.length):Zvh L (k+1)=Zvh L k++L.getD k []:=Znz L k a
theorem ZnB (L:List (List UInt8)) (k:Nat) (a:k<L.length):(ZlO L (k+1):Int)=(ZlO L k:Int)+((L.getD k []).length:Int):=by
 unfold ZlO;rw[Znz L k a,length_append];omega
theorem Zvi (L:List (List UInt8)) (k:Nat):ZlO L k<=L.flatten.length:=ZyS L k
theorem ZqW (L:List (List UInt8)) (k:Nat):(Zvh L k).length=ZlO L k:=rfl
theorem ZqX (L:List (List UInt8)) (k:Nat) (a:L.length<=k):Zvh L k=L.flatten:=by
 unfold Zvh;rw[take_of_length_le a]
theorem Zdi (v:Value) (L:List (List UInt8)) (w:World) (O:RdL w v L) (I:L.flatten.length<=1000000) (hn:L.length<=1000):
 Calls prog 131 #[v] w fun e w'=>∃ v',e=.returned v'∧Own w' w.heap.size v' L.flatten∧Below w.heap.size w w':=by
 have X:=ZZ (fun n W h=>ZqV n W h)
 have ai:=ZZ O;have l:Hid (∀ k,ZlO L k<=1000000):=fun k=>Nat.le_trans (Zvi L k) I
 have Q:=ZZ (ZnB L);have ad:=ZZ (ZnA L);have N:=ZZ (ZqX L);have ae:=ZZ (ZqW L);obtain⟨F,p⟩:∃ F,F=L.flatten:=⟨_,rfl⟩;rw[<-p];rw[<-p] at N;obtain⟨ao,cap,rfl,-,-,-,E⟩:=O;have M:=ZZ E;clear E p I
 go_enter func131,ntmps131
 go_wp2
 go_loopw[3,11] (fun vs a wr=>∃ (k:Nat),vs=.int .i64 (ZlO L k:Int)∧a=.int .i64 (k:Int)∧k<=L.length∧wr=w) (fun _ a _=>L.length-(intOf a).toNat)
 case atStart=>exact⟨0,rfl,rfl,Nat.zero_le _,rfl⟩
 case round=>
  obtain⟨k,rfl,rfl,hk,R⟩:=hrel;have ag:=R.symm;subst ag;clear R;by_cases d:k<L.length
  ·rcases M.o with q | ⟨c,af,rfl,f⟩
   ·rw[q] at d;simp at d
   obtain⟨x,T,i⟩:=f k d;have C:=l.o (k+1);have t:=Q.o k d;obtain⟨ax,cx,rfl,-⟩:=i;have h3:¬ ((ZlO L k:Int)+((L.getD k []).length:Int)<0):=by omega
   have h4:(ZlO L k:Int)+((L.getD k []).length:Int)<=1000000:=by omega
   have S:=ZZ t;clear f C t;generalize ZlO L k=A at *;generalize (L.getD k []).length=D at *;go_wp2;go_roundw
   case rel=>exact⟨k+1,by rw[S.o],by go_num,by omega,trivial⟩
   case measure=>simp[intOf];omega
  ·have U:=ZZ (X.o (ZlO L k) w (l.o k))
   generalize ZlO L k=A at *
   go_wp2_with fail
   refine U.o.mono ?_;rintro e W1 ⟨v1,rfl,J,B⟩;have z:=ZZ J;have H:=ZZ B;clear J B hk d;go_wp2
   go_loopw[6,27] (fun Z a K=>∃ (j:Nat),a=.int .i64 (j:Int)∧j<=L.length∧Hid (Own K w.heap.size Z (Zvh L j))∧Hid (Below w.heap.size w K)) (fun _ a _=>L.length-(intOf a).toNat)
   case atStart=>exact⟨0,rfl,Nat.zero_le _,z,H⟩
   case round=>
    clear z H;obtain⟨j,rfl,hj,u,b⟩:=hrel;by_cases g:j<L.length
    ·rcases M.o with q | ⟨c,af,rfl,f⟩
     ·rw[q] at g;simp at g
     obtain⟨x,y,i⟩:=f j g;have T:=(b.o.cell (World.block_lt_of_cell? _ _ y)).trans y;have V:=ZZ (i.below b.o zL);obtain⟨ax,cx,rfl,-⟩:=i
     have ah:Hid ((Zvh L j).length+(L.getD j []).length<=70368744177664):=ZZ (by
      have C:=l.o (j+1);have t:=Q.o j g;rw[ae.o]
      omega)
     have ab:=ZZ b.o.size;have Y:=ZZ (ad.o j g);clear f y;generalize L.getD j []=D at *;generalize Zvh L j=P at *
     go_wp2_with(at_builtin;refine Xw _ rfl _ _ rfl w.heap.size _ P rfl u.o _ D rfl V.o ah.o ab.o ?_)
     intro v3 W3 m G;rw[<-Y.o] at m;have ac:=ZZ m;have aa:=ZZ (b.o.trans G);clear m G;go_wp2;go_roundw
     case rel=>exact⟨j+1,by go_num,by omega,ac,aa⟩
     case measure=>simp[intOf];omega
    ·have HE:=ZZ (N.o j (by omega))
     rw[HE.o] at u;go_wp2;go_ret;exact⟨_,rfl,u.o,b.o⟩
theorem RdL.built (W:World) (N:Nat) (b:N=W.heap.size) (vs:Array Value) (L:List (List UInt8)) (f:L.length<=1000) (h:∀ j,j<L.length->∃ x,vs[j]?=some x∧Rd W x (L.getD j [])):
 RdL (W.alloc (.cells vs 53)) (.slice (some ⟨N,0,none⟩) L.length L.length) L:=by
 subst b;refine⟨some ⟨W.heap.size,0,none⟩,L.length,rfl,Nat.le_refl _,by unfold maxLen;omega,fun e=>(by cases e),.inr ⟨W.heap.size,0,rfl,fun j d=>?_⟩⟩
 obtain⟨x,a,c⟩:=h j d;refine⟨x,?_,c.below ((Below.refl _ _).alloc zL _) zL⟩;rw[Nat.zero_add,cell_of_row _ W.heap.size j vs 53 (0,0) (heap_alloc_new W _)];exact a
theorem Zvj (W:World) (N:Nat) (q:N=W.heap.size) (g h i f:Value) (d a b c:List UInt8) (w:Rd W g d) (v:Rd W h a) (n:Rd W i b) (p:Rd W f c) (x:d.length+a.length+b.length+c.length<=1000000):
 Calls prog 131 #[.slice (some ⟨N,0,none⟩) 4 4] (W.alloc (.cells #[g,h,i,f] 53)) fun e w'=>∃ v',e=.returned v'∧Own w' W.heap.size v' (d++(a++(b++c)))∧Below W.heap.size W w':=by
 have m:=RdL.built W N q #[g,h,i,f] [d,a,b,c] (by simp) (fun j u=>by
  match j,u with
  | 0,_=>exact⟨g,rfl,w⟩
  | 1,_=>exact⟨h,rfl,v⟩
  | 2,_=>exact⟨i,rfl,n⟩
  | 3,_=>exact⟨f,rfl,p⟩)
 have k:[d,a,b,c].flatten=d++(a++(b++c)):=by simp
 refine(Zdi _ _ _ m (by rw[k];simp only [length_append];omega) (by simp)).mono ?_
 rintro e w' ⟨v',rfl,l,t⟩;rw[k] at l;exact⟨v',rfl,l.mono (by simp),((Below.refl _ _).alloc zL _).trans (t.mono (by simp))⟩
theorem Zvk (W:World) (N:Nat) (m:N=W.heap.size) (d f g:Value) (c a b:List UInt8) (t:Rd W d c) (q:Rd W f a) (l:Rd W g b) (u:c.length+a.length+b.length<=1000000):
 Calls prog 131 #[.slice (some ⟨N,0,none⟩) 3 3] (W.alloc (.cells #[d,f,g] 53)) fun e w'=>∃ v',e=.returned v'∧Own w' W.heap.size v' (c++(a++b))∧Below W.heap.size W w':=by
 have k:=RdL.built W N m #[d,f,g] [c,a,b] (by simp) (fun j p=>by
  match j,p with
  | 0,_=>exact⟨d,rfl,t⟩
  | 1,_=>exact⟨f,rfl,q⟩
  | 2,_=>exact⟨g,rfl,l⟩)
 have h:[c,a,b].flatten=c++(a++b):=by simp
 refine(Zdi _ _ _ k (by rw[h];simp only [length_append];omega) (by simp)).mono ?_
 rintro e w' ⟨v',rfl,i,n⟩;rw[h] at i;exact⟨v',rfl,i.mono (by simp),((Below.refl _ _).alloc zL _).trans (n.mono (by simp))⟩
theorem ZsC (v:Value) (l:List UInt8) (w:World) (c:Rd w v l) (q:l.length<=1000000):
 Calls prog 214 #[v] w fun e w'=>∃ v',e=.returned v'∧Own w' w.heap.size v' l∧Below w.heap.size w w':=by
 have m:=ZZ c;obtain⟨ao,cap,rfl,h,-,b,-⟩:=c
 cases ao with
 | none=>
  obtain rfl:cap=0:=b rfl;obtain rfl:l=[]:=List.eq_nil_of_length_eq_zero (by omega)
  clear b h;have k:∀ w,(binOp .eql 53 (.slice none 0 0) (.slice none 0 0)).run prog w=.ok (.bool true) w:=fun w=>run_eql_slice_nil w _ _ none 0 0 underlying53
  go_enter func214,ntmps214
  go_wp2;go_ret;exact⟨_,rfl,Own.nil _ _,Below.refl _ _⟩
 | some a=>
  clear b;have k:∀ w,(binOp .eql 53 (.slice (some a) l.length cap) (.slice none 0 0)).run prog w=.ok (.bool false) w:=fun w=>run_eql_slice_nil w _ _ (some a) _ _ underlying53
  have g:Hid (∀ X,Below w.heap.size w (w.alloc X)):=fun X=>(Below.refl _ _).alloc zL X
  have j:Hid (Own (w.alloc (.cells #[] 5)) w.heap.size (.slice (some ⟨w.heap.size,0,none⟩) 0 0) []):=ZZ (Own.empty rfl rfl zL 0 (Nat.zero_le _) rfl)
  go_enter func214,ntmps214
  go_wp2_with(at_builtin;refine Xw _ rfl _ _ rfl w.heap.size _ [] rfl j.o _ l rfl (m.o.below (g.o _) zL) (by simp;omega) (by simp) ?_)
  intro t p d f;have n:=ZZ d;have i:=ZZ ((g.o _).trans f);clear d f;go_wp2;go_ret;exact⟨_,rfl,n.o,i.o⟩
def Xx:Array Value:=((List.range 256).map fun c=>Value.int .u32 ((Zdo c:Nat):Int)).toArray
def Z9:Array Value:=(List.replicate 256 (Value.int .u32 0)).toArray
theorem ZgZ:(prog.info? 266).map (fun i=>(i.zero,i.size))=some (some (.agg Z9),256):=by kernel_rfl
theorem Gl:Xx.size=256:=by simp[Xx]
theorem ZcN:Z9.size=256:=by
 unfold Z9;rw[List.size_toArray,List.length_replicate]
theorem Zgp:Xx.all (·.oneCell')=true:=by
 rw[Array.all_eq_true];intro i a;simp[Xx,Value.oneCell']
theorem Ziz (k:Nat) (h:k<256):Xx[k]?=some (.int .u32 ((Zdo k:Nat):Int)):=by
 simp[Xx,h]
theorem Zvl (w:World):(Instr.storeAt 266 (.pointer (some ⟨w.heap.size,0,none⟩)) (.agg Xx)).run prog (w.alloc (.cells Z9 266))=.ok () (w.alloc (.cells Xx 266)):=
 run_storeAt_new w 266 Z9 Xx (by rw[Gl];exact(zero_of_info ZgZ).2) (by rw[Gl,ZcN]) Zgp
def Zxn (w:World) (b:Nat):Prop:=∀ k,k<256->w.cell? ⟨b,k,none⟩=some (.int .u32 ((Zdo k:Nat):Int))
theorem Zxn.made (w:World):Zxn (w.alloc (.cells Xx 266)) w.heap.size:=by
 intro k a;rw[cell_of_row _ w.heap.size k Xx 266 (0,0) (heap_alloc_last w _)];exact Ziz k a
theorem ZiA (w:World) {b:Array Oper} {rest:List Oper} {o:Oper} {a:Act} {Q:Exit->Act->World->Prop} (g:o.guard=none) (x y:Operand) (f:o.op=.store 266 x y)
 (c:a.eval x=.pointer (some ⟨w.heap.size,0,none⟩)) (d:a.eval y=.agg Xx)
 (h:∀ w',Below w.heap.size w w'->Zxn w' w.heap.size->wpList prog b Q rest (a.put o.dst undef) w'):wpList prog b Q (o::rest) a (w.alloc (.cells Z9 266)):=
 wpList_plain g fun _ e=>by
  have i:=Zvl w;unfold Oper.wp execOp;simp only [f,c,d,i,Sem.run_bind,Sem.run_pure,Result.andThen_ok];exact e _ _ (h _ ((Below.refl _ _).alloc zL _) (Zxn.made w))
def ZiB (k:Nat):Array Value:=((List.range 256).map fun c=>if c<k then Value.int .u32 ((Zdo c:Nat):Int) else Value.int .u32 0).toArray
theorem ZbP (k:Nat):(ZiB k).size=256:=by simp[ZiB]
theorem ZcO (k i:Nat) (h:i<256):(ZiB k)[i]?=some (if i<k then Value.int .u32 ((Zdo i:Nat):Int) else Value.int .u32 0):=by
 simp[ZiB,h]
theorem ZsD:ZiB 0=Z9:=by
 apply Array.ext_getElem?;intro i;by_cases h:i<256
 ·rw[ZcO 0 i h]
  unfold Z9;rw[List.getElem?_toArray,List.getElem?_replicate_of_lt h];simp
 ·rw[Array.getElem?_eq_none (by rw[ZbP];omega),Array.getElem?_eq_none (by rw[ZcN];omega)]
theorem ZsE:ZiB 256=Xx:=by
 apply Array.ext_getElem?;intro i;by_cases h:i<256
 ·rw[ZcO 256 i h,if_pos h,Ziz i h]
 ·rw[Array.getElem?_eq_none (by rw[ZbP];omega),Array.getElem?_eq_none (by rw[Gl];omega)]
theorem Zvm (k:Nat) (b:k<256):(ZiB k).setIfInBounds k (Value.int .u32 ((Zdo k:Nat):Int))=ZiB (k+1):=by
 apply Array.ext_getElem?;intro i;rw[Array.getElem?_setIfInBounds];by_cases h:i<256
 ·rw[ZcO (k+1) i h,ZcO k i h,ZbP]
  by_cases a:k=i
  ·subst a
   simp[b]
  ·rw[if_neg a]
   have e:(i<k+1)=(i<k):=by
    apply propext;omega
   simp only [e]
 ·have a:¬ k=i:=by omega
  rw[if_neg a,Array.getElem?_eq_none (by rw[ZbP];omega),Array.getElem?_eq_none (by rw[ZbP];omega)]
theorem ZlP {C:Array Value} (h:C.size=256):(prog.info? 266).map (·.size)=some C.size:=by
 rw[h];exact(zero_of_info ZgZ).2
theorem ZiC (w:World) {b:Array Oper} {rest:List Oper} {o:Oper} {a:Act} {Q:Exit->Act->World->Prop} (i:o.guard=none) (x:Operand) (l:o.op=.load 266 x)
 (g:Nat) (C:Array Value) (c:Nat × Nat) (d:a.eval x=.pointer (some ⟨g,0,none⟩)) (k:w.heap[g]?=some (.cells C 266 c)) (e:C.size=256)
 (h:wpList prog b Q rest (a.put o.dst (.agg C)) w):wpList prog b Q (o::rest) a w:=
 wpList_plain i fun _ f=>by
  have j:=run_loadVar_row (P:=prog) w g 266 266 C c _ k underlying266 rfl (ZlP e);unfold Oper.wp execOp;simp only [l,d,Instr.loadAt,Instr.sureAddr,Sem.run_bind,Sem.run_pure,Result.andThen_ok,j];exact f _ _ h
theorem ZgG (w:World) {b:Array Oper} {rest:List Oper} {o:Oper} {a:Act} {Q:Exit->Act->World->Prop} (j:o.guard=none) (x y:Operand) (m:o.op=.store 266 x y)
 (g:Nat) (C D:Array Value) (d:a.eval x=.pointer (some ⟨g,0,none⟩)) (f:a.eval y=.agg D) (l:w.heap[g]?=some (.cells C 266 (0,0))) (e:C.size=256) (c:D.size=256) (n:D.all (·.oneCell')=true)
 (h:wpList prog b Q rest (a.put o.dst undef) (w.setRow g D)):wpList prog b Q (o::rest) a w:=
 wpList_plain j fun _ i=>by
  have k:=run_storeVar_row (P:=prog) w g 266 266 C D l (ZlP c) (by rw[e,c]) n
  unfold Oper.wp execOp;simp only [m,d,f,Instr.storeAt,Instr.sureAddr,Sem.run_bind,Sem.run_pure,Result.andThen_ok,k];exact i _ _ h
theorem ZnC {fn:Func} {p:Tmp} {ty:TypeId} (h:fn.results=#[.cell p ty]) (b:Array Value) (P:Program) (w:World):
 (results fn b).run P w=((asAddr (b.getD p undef)).run P w).andThen fun a c=>(loadVar ty a).run P c:=by
 simp only [results,h];simp[Sem.run_bind,Result.andThen]
theorem Zvn (k:Nat) (g:k<256) (w:World):Calls prog 225 #[.int .u32 (k:Int)] w fun e w'=>e=.returned (.int .u32 (Zdo k:Nat))∧w'=w:=by
 have t:=ZZ g;clear g
 go_enter func225,ntmps225
 go_wp2
 go_loop [0,4] (fun x j=>∃ m:Nat,m<=8∧j=.int .i64 (m:Int)∧x=.int .u32 (Gu m k:Nat)) (fun _ j=>8-(intOf j).toNat)
 case atStart=>exact⟨0,Nat.zero_le _,rfl,rfl⟩
 case round=>
  obtain⟨m,z,rfl,rfl⟩:=hrel;by_cases C:m<8
  ·have i:=ZZ (Zsy m k)
   have h:Gu m k<4294967296:=ZuX m (by have:=t.o;omega)
   generalize Gu m k=y at *;obtain⟨Y,d⟩:∃ Y:Int,Y=(y:Int):=⟨_,rfl⟩;rw[<-d];have A:0<=Y:=by omega
   have B:Y<4294967296:=by omega
   have l:=ZZ d;have u:=ZZ h;clear d h;by_cases a:Y % 2=1
   ·have p:(Y % 2 == 1)=true:=beq_iff_eq.2 a
    have f:=ZZ a;clear a;go_wp2
    go_round
    case rel=>
     have e:=l.o;have q:=f.o;refine⟨m+1,by omega,by go_num,?_⟩
     have c:Y / 2=((y / 2:Nat):Int):=by omega
     have n:(2197175160:Int)=((2197175160:Nat):Int):=rfl;have b:ZrD y=y / 2 ^^^ 2197175160:=if_pos (by omega)
     rw[i.o,b,c,n,ZpB _ _ (by have:=u.o;omega) (by decide)]
    case measure=>simp[intOf];omega
   ·have p:(Y % 2 == 1)=false:=beq_eq_false_iff_ne.2 a
    have f:=ZZ a;clear a;go_wp2
    go_round
    case rel=>
     have e:=l.o;have q:=f.o;refine⟨m+1,by omega,by go_num,?_⟩
     have c:Y / 2=((y / 2:Nat):Int):=by omega
     have b:ZrD y=y / 2:=if_neg (by omega)
     rw[i.o,b,c]
    case measure=>simp[intOf];omega
  ·have v:Hid (Gu m k=Zdo k):=by
    have e:m=8:=by omega
    rw[e];exact rfl
   generalize Gu m k=y at *;go_wp2;go_ret;refine⟨ZbV ?_,rfl⟩;rw[v.o]
theorem Zvo (w:World):Calls prog 215 #[] w fun e w'=>e=.returned (.agg Xx)∧Below w.heap.size w w':=by
 have C:=(zero_of_info ZgZ).1;have p:Hid (∀ (k:Nat) (w:World),k<256->Calls prog 225 #[.int .u32 (k:Int)] w fun e w'=>e=.returned (.int .u32 (Zdo k:Nat))∧w'=w):=fun k w f=>Zvn k f w
 go_enter func215,ntmps215
 go_wp2
 go_loopw[3] (fun i wr=>∃ k:Nat,k<=256∧i=.int .i64 (k:Int)∧Hid (wr.heap[w.heap.size+1]?=some (.cells (ZiB k) 266 (0,0)))∧Hid (wr.heap[w.heap.size]?=some (.cells Z9 266 (0,0)))∧Hid (Below w.heap.size w wr)) (fun i _=>256-(intOf i).toNat)
 case atStart=>
  have y:((w.alloc (.cells Z9 266)).alloc (.cells Z9 266)).heap[w.heap.size+1]?=some (.cells (ZiB 0) 266 (0,0)):=by
   rw[ZsD];have h:=heap_alloc_last (w.alloc (.cells Z9 266)) (.cells Z9 266);have l:(w.alloc (.cells Z9 266)).heap.size=w.heap.size+1:=by simp
   rw[l] at h;exact h
  have m:((w.alloc (.cells Z9 266)).alloc (.cells Z9 266)).heap[w.heap.size]?=some (.cells Z9 266 (0,0)):=
   (Below.heap_alloc _ _ w.heap.size (by simp)).trans (heap_alloc_last w _)
  exact⟨0,Nat.zero_le _,rfl,y,m,((Below.refl _ _).alloc zL _).alloc (by simp) _⟩
 case round=>
  obtain⟨k,f,rfl,b,c,a⟩:=hrel;by_cases d:k<256
  ·have A:wr.cell? ⟨w.heap.size+1,k,none⟩=some (.int .u32 0):=by
    rw[cell_of_row wr _ k _ _ _ b.out,ZcO k k d];simp
   have B:wr.frozen? ⟨w.heap.size+1,k,none⟩=false:=frozen_of_row wr _ k _ _ b.out
   have q:Hid ((wr.setCell ⟨w.heap.size+1,k,none⟩ (.int .u32 ((Zdo k:Nat):Int))).heap[w.heap.size+1]?=some (.cells (ZiB (k+1)) 266 (0,0))):=by
    have h:=heap_setCell_same wr (w.heap.size+1) k _ _ (.int .u32 ((Zdo k:Nat):Int)) b.out;rw[Zvm k d] at h;exact h
   go_wp2_with fail
   refine(p.o k wr d).mono ?_;rintro e z ⟨rfl,rfl⟩;go_wp2;go_roundw
   case rel=>exact⟨k+1,by omega,by go_num,q,(Below.heap_setCell _ _ _ _ (by show w.heap.size≠w.heap.size+1;omega)).trans c.out,a.out.setCell (by show w.heap.size<=w.heap.size+1;omega) _⟩
   case measure=>simp[intOf];omega
  ·have g:wr.heap[w.heap.size+1]?=some (.cells Xx 266 (0,0)):=by
    have e:k=256:=by omega
    rw[<-ZsE,<-e];exact b.out
   have n:=ZZ g
   have t:Hid ((loadVar 266 ⟨w.heap.size,0,none⟩).run prog (wr.setRow w.heap.size Xx)=.ok (.agg Xx) (wr.setRow w.heap.size Xx)):=
    run_loadVar_row (P:=prog) _ _ 266 266 Xx (0,0) _ (setRow_heap wr _ _ Xx _ _ c.out) underlying266 rfl (ZlP Gl)
   have u:Hid (Below w.heap.size w (wr.setRow w.heap.size Xx)):=
    ⟨a.out.os,a.out.tape,a.out.output,by have:=a.out.size;simp[World.setRow];omega,fun j x=>(setRow_other wr _ j _ (by omega)).trans (a.out.block j x)⟩
   clear g b
   go_wp2_with(first
    | refine ZiC _ rfl _ rfl (w.heap.size+1) Xx (0,0) rfl n.o Gl ?_
    | refine ZgG _ rfl _ _ rfl w.heap.size Z9 Xx rfl rfl c.out ZcN Gl Zgp ?_)
   refine bodyPost_ret (v:=.agg Xx) ?_ rfl ⟨rfl,u.o⟩;have h:=t.o;rw[ZnC Tryz.results215];have e:(asAddr (.pointer (some ⟨w.heap.size,0,none⟩))).run prog (wr.setRow w.heap.size Xx)=.ok ⟨w.heap.size,0,none⟩ (wr.setRow w.heap.size Xx):=by simp[asAddr]
   simp only [Act.put,List.setIfInBounds_toArray,List.set_cons_succ,List.set_cons_zero];show((asAddr (.pointer (some ⟨w.heap.size,0,none⟩))).run prog (wr.setRow w.heap.size Xx)).andThen _=_;rw[e];simp only [Result.andThen];rw[h]
theorem Zxo (s:Nat) (v:Value) (l:List UInt8) (w:World) (p:Rd w v l) (d:s<4294967296):
 Calls prog 187 #[.int .u32 (s:Int),v] w fun e w'=>e=.returned (.int .u32 (Q2 s l:Nat))∧Below w.heap.size w w':=by
 have K:=ZZ p;obtain⟨ao,cap,rfl,S,H,I,a⟩:=p;clear I;have N:=ZZ a;clear a;have Y:(l.length:Int)<=9223372036854775807:=by unfold maxLen at H;omega
 have O:=ZZ (ZuY s d);have M:Hid (∀ k,Zbr (s ^^^ 4294967295) (l.take k)<4294967296):=fun k=>Zhw _ (Zuj d)
 have Q:Hid (Q2 s l=Zbr (s ^^^ 4294967295) l ^^^ 4294967295):=rfl;have A:=ZZ (fun w=>Zvo w)
 have P:=(zero_of_info ZgZ).1;generalize s ^^^ 4294967295=g at *;clear d
 go_enter func187,ntmps187
 go_wp2_with fail
 refine(A.o _).mono ?_;rintro e T ⟨rfl,B⟩;have D:=ZZ B;clear B A
 go_wp2_with(refine ZiA _ rfl _ _ rfl rfl rfl ?_)
 intro U j C;have q:=ZZ (D.o.trans (j.mono D.o.size));have G:=ZZ C;clear j C P;go_wp2
 go_loop [6,14] (fun x i=>∃ k:Nat,k<=l.length∧i=.int .i64 k∧x=.int .u32 (Zbr g (l.take k):Nat)) (fun _ i=>l.length-(intOf i).toNat)
 case atStart=>
  refine⟨0,Nat.zero_le _,rfl,?_⟩;rw[O.o];rfl
 case round=>
  obtain⟨k,R,rfl,rfl⟩:=hrel;have F:=M.o k;by_cases f:k<l.length
  ·have J:=ZZ (ZpC l g k f)
   rcases N.o with a | ⟨b,W,rfl,_⟩
   ·subst a;simp at f
   have V:=(K.o.below q.o zL).at k f;have h:(l.getD k 0).toNat<256:=UInt8.toNat_lt _;generalize Zbr g (l.take k)=y at *;generalize (l.getD k 0).toNat=c at *;have n:=ZyO y c h
   have aa:bits .xor .u8 ((y:Int) % 256) (c:Int)=((y % 256 ^^^ c:Nat):Int):=by
    have e:(y:Int) % 256=((y % 256:Nat):Int):=by omega
    rw[e];exact ZzF _ _ (by omega) h
   have z:Hid (bits .xor .u32 ((Zdo (y % 256 ^^^ c):Nat):Int) ((y:Int) / 256)=((ZdH y c:Nat):Int)):=by
    have e:(y:Int) / 256=((y / 256:Nat):Int):=by omega
    rw[e,ZpB _ _ (Zxl _ n) (by omega)]
    unfold ZdH;rw[Zxk y c h];exact rfl
   have L:=G.o (y % 256 ^^^ c) n;generalize t:y % 256 ^^^ c=m at *;have Z:=ZZ t;clear t;have X:(m:Int)<256:=by omega
   obtain⟨E,u⟩:∃ E:Int,E=((Zdo m:Nat):Int):=⟨_,rfl⟩;rw[<-u] at L z;clear u;go_wp2
   go_round
   case rel=>exact⟨k+1,by omega,by go_num,by rw[J.o,<-z.o]⟩
   case measure=>simp[intOf];omega
  ·go_wp2
   go_ret;refine⟨ZbV ?_,q.o⟩;rw[Q.o,ZuY _ F,take_of_length_le (by omega)]
theorem ZlQ (v:Value) (l:List UInt8) (w:World) (a:Rd w v l):
 Calls prog 136 #[v] w fun e w'=>e=.returned (.int .u32 (Q2 0 l:Nat))∧Below w.heap.size w w':=by
 have c:Hid (Calls prog 187 #[.int .u32 0,v] w fun e w'=>e=.returned (.int .u32 (Q2 0 l:Nat))∧Below w.heap.size w w'):=Zxo 0 v l w a (by decide)
 generalize Q2 0 l=m at *;clear a
 go_enter func136,ntmps136
 go_wp2_with fail
 refine c.o.mono ?_;rintro e w' ⟨rfl,b⟩;have d:=ZZ b;clear b c;go_wp2;go_ret;exact⟨rfl,d.o⟩
def ZgH (v:Value) (l:List UInt8) (xs:List Value) (L:List (List UInt8)):Prop:=
 xs.length=L.length∧∀ j,j<L.length->∃ x,xs[j]?=some x∧x.oneCell'=true∧∀ W,Rd W v l->Rd W x (L.getD j [])
theorem ZgH.nil (v:Value) (l:List UInt8):ZgH v l [] []:=⟨rfl,fun j a=>absurd a (by simp)⟩
theorem ZgH.snoc (h:ZgH v l xs L) {x:Value} {d:List UInt8} (k:x.oneCell'=true) (c:∀ W,Rd W v l->Rd W x d):ZgH v l (xs++[x]) (L++[d]):=by
 refine⟨by simp[h.1],fun j i=>?_⟩
 rw[length_append,length_singleton] at i;by_cases a:j<L.length
 ·obtain⟨y,m,g,b⟩:=h.2 j a
  refine⟨y,by rw[List.getElem?_append_left (by rw[h.1];exact a)];exact m,g,?_⟩
  have e:(L++[d]).getD j []=L.getD j []:=by simp[List.getD,List.getElem?_append_left a]
  rw[e];exact b
 ·have f:j=L.length:=by omega
  subst f;refine⟨x,by rw[List.getElem?_append_right (by rw[h.1];omega),h.1];simp,k,?_⟩
  have e:(L++[d]).getD L.length []=d:=by simp[List.getD]
  rw[e];exact c
theorem ZgH.one (h:ZgH v l xs L):∀ u ∈ xs,u.oneCell'=true:=fun u c=>by
 obtain⟨j,b,rfl⟩:=List.getElem_of_mem c;obtain⟨x,a,d,-⟩:=h.2 j (by rw[<-h.1];exact b)
 rw[List.getElem?_eq_getElem b] at a;obtain rfl:=Option.some.inj a;exact d
theorem Zvp:(prog.info? 53).map (fun i=>(i.zero,i.size,i.bytes))=some (some (.slice none 0 0),1,24):=by kernel_rfl
theorem ZiD (w:World) (ty:TypeId) (B:Nat) (v:Value) (n:Nat) (xs:List Value) (h:w.ownsRow B 53 1 v n xs) (a:Addr) (m cap:Nat) (b:List Value) (i:b.length=m) (z:∀ j u,b[j]?=some u->w.cell? (a.add j)=some u) (f:∀ u ∈ b,u.oneCell'=true) (A:n+m<=1000000) (c:B<=w.heap.size):
 ∃ v' w',(Builtin.append_ #[144,144] ty #[v,.slice (some a) m cap]).run prog w=.ok v' w'∧w'.ownsRow B 53 1 v' (n+m) (xs++b)∧Below B w w':=by
 obtain⟨e,g,x,p,l⟩:=info_parts Zvp
 obtain⟨v',w',q,y,t,_⟩:=run_append_own (P:=prog) w B 144 ty 53 e (.slice none 0 0) 1 24 underlying144 g x p l rfl (by decide) v n xs h
  a m cap b (by rw[i,Nat.mul_one]) z f (by unfold maxLen;omega) (by omega) c
 exact⟨v',w',q,y,(Below.refl _ _).grown t c (fun k d=>(World.ownsRow.lt h k d).1)⟩
theorem Zam (w:World) {c:Array Oper} {rest:List Oper} {o:Oper} {a:Act} {Q:Exit->Act->World->Prop} (y:o.guard=none) (s x:Operand)
 (C:o.op=.call { callee:=.builtin .append,args:=#[s,x],argTypes:=#[144,144] })
 (B:Nat) (v:Value) (n:Nat) (xs:List Value) (i:a.eval s=v) (l:w.ownsRow B 53 1 v n xs) (d:Addr) (m cap:Nat) (b:List Value) (e:a.eval x=.slice (some d) m cap) (k:b.length=m) (D:∀ j u,b[j]?=some u->w.cell? (d.add j)=some u) (f:∀ u ∈ b,u.oneCell'=true)
 (p:n+m<=1000000) (A:B<=w.heap.size)
 (h:∀ v' w',w'.ownsRow B 53 1 v' (n+m) (xs++b)->Below B w w'->wpList prog c Q rest (a.put o.dst v') w'):wpList prog c Q (o::rest) a w:=
 wpList_plain y fun _ g=>by
  obtain⟨v',w',z,q,t⟩:=ZiD w o.type B v n xs l d m cap b k D f p A;unfold Oper.wp execOp;simp only [C,resolve,invoke,builtin,Sem.run_bind,Sem.run_pure,Result.andThen_ok,List.map_toArray,List.map_cons,List.map_nil,i,e,z];exact g _ _ (h v' w' q t)
theorem Zxp (ao:Option Addr) (l:List UInt8) (cap:Nat) (g:l.length<=cap) (i j:Nat) (e:i<=j) (f:j<=l.length):
 ∃ a b c,(∀ W,(Instr.sliceAt 53 (.slice ao l.length cap) (some (.int .i64 (i:Int))) (some (.int .i64 (j:Int))) (some (.int .i64 (j:Int)))).run prog W=.ok (.slice a b c) W)∧∀ W,Rd W (.slice ao l.length cap) l->Rd W (.slice a b c) ((l.drop i).take (j-i)):=by
 have d:∃ a b c,sliced ao i j j 1=.slice a b c:=by
  unfold sliced;exact⟨_,_,_,rfl⟩
 obtain⟨a,b,c,d⟩:=d;refine⟨a,b,c,fun W=>?_,fun W h=>?_⟩
 ·rw[run_sliceAt_slice W 53 _ _ _ _ Xu,run_slice_lhm W 53 ao l.length cap Xu .i64 .i64 .i64 (i:Int) (j:Int) (j:Int) (by omega) (by omega) (by omega) (by omega),Jo,Zce]
  simp only [Int.toNat_natCast];rw[<-d];rfl
 ·rw[<-d]
  exact h.mid i j j e f zL (by omega)
theorem ZiE (w:World) (x:Obj):w.heap.size<=(w.alloc x).heap.size:=((Below.refl w.heap.size w).alloc zL x).size
theorem ZnD (w:World) (v:Value):∀ j u,[v][j]?=some u->(w.alloc (.cells #[v] 53)).cell? ((⟨w.heap.size,0,none⟩:Addr).add j)=some u:=fun j u a=>by
 rw[Addr.add_lit,Nat.zero_add,cell_of_row _ w.heap.size j _ 53 (0,0) (heap_alloc_new w _)];rw[<-List.getElem?_toArray] at a;exact a
def ZyT (w:World) (v:Value) (l:List UInt8) (L:List (List UInt8)) (e:Ending) (w':World):Prop:=
 ∃ v' xs,e=.returned v'∧w'.ownsRow w.heap.size 53 1 v' L.length xs∧ZgH v l xs L∧Below w.heap.size w w'
theorem ZkB (v:Value) (l:List UInt8) (w:World) (R:Rd w v l) (ab:l.length<=100000):
 Calls prog 102 #[v] w fun e w'=>ZyT w v l (Ya l) e w':=by
 obtain⟨ao,cap,rfl,U,V,-⟩:=R;have m:=ZZ (fun i j=>Zxp ao l cap U i j)
 have q:Hid (∀ A,A<l.length->Ya (l.drop A)=(l.drop A).take 64::Ya (l.drop (A+64))):=ZZ (fun A h=>Zpe h)
 have J:Hid (Ya l=[]++Ya (l.drop 0)):=ZZ (by simp)
 have C:Hid (∀ A,l.length<=A->Ya (l.drop A)=[]):=ZZ (fun A h=>by rw[List.drop_eq_nil_of_le h,Yn])
 have H:Hid (∀ A,l.length<=A+64->(l.drop A).take (l.length-A)=(l.drop A).take 64):=ZZ (fun A h=>by
  rw[take_of_length_le (by rw[List.length_drop];omega),take_of_length_le (by rw[List.length_drop];omega)])
 obtain⟨n,M⟩:∃ n,n=Ya l:=⟨_,rfl⟩;rw[<-M] at J ⊢;clear M V
 go_enter func102,ntmps102
 go_wp2
 go_loopw[3,4] (fun T p wr=>∃ (A:Nat) (P:List (List UInt8)) (xs:List Value),p=.int .i64 (A:Int)∧P.length<=A∧A<=l.length+64∧Hid (wr.ownsRow w.heap.size 53 1 T P.length xs)∧Hid (ZgH (.slice ao l.length cap) l xs P)∧Hid (n=P++Ya (l.drop A))∧Hid (Below w.heap.size w wr)) (fun _ p _=>l.length+64-(intOf p).toNat)
 case atStart=>exact⟨0,[],[],rfl,Nat.le_refl _,by omega,ZZ (World.ownsRow_nil w w.heap.size 53 1),ZZ (ZgH.nil _ _),J,Below.refl _ _⟩
 case round=>
  clear J;obtain⟨A,P,xs,rfl,ad,hA,x,G,D,d⟩:=hrel;by_cases X:A<l.length
  case neg=>
   have ae:¬ (A:Int)<(l.length:Int):=by omega
   have W:Hid (n=P):=ZZ (by rw[D.out,C.o A (by omega),List.append_nil])
   go_wp2;go_ret;rw[W.o];exact⟨_,xs,rfl,x.out,G.out,d.out⟩
  have ac:(A:Int)<(l.length:Int):=by omega
  have N:=ZZ (q.o A X);by_cases h:A+64<=l.length
  ·obtain⟨a,b,c,hcut,f⟩:=m.o A (A+64) (by omega) h
   have Q:((A+64:Nat):Int)=(A:Int)+64:=by omega
   have O:A+64-A=64:=by omega
   rw[Q] at hcut;rw[O] at f;have t:=ZZ f;have Z:(A:Int)+64<=(l.length:Int):=by omega
   have aa:min ((A:Int)+64) (l.length:Int)=(A:Int)+64:=by omega
   have Y:¬ (l.length:Int)<(A:Int)+64:=by omega
   have K:Hid (w.heap.size<=(wr.alloc (.cells #[.slice a b c] 53)).heap.size):=ZZ (Nat.le_trans d.out.size (ZiE wr _));have F:Hid ((wr.alloc (.cells #[.slice a b c] 53)).ownsRow w.heap.size 53 1 _ P.length xs):=ZZ (World.ownsRow.alloc x.out _);have L:=ZZ (ZnD wr (.slice a b c));have y:Hid (∀ u ∈ [Value.slice a b c],u.oneCell'=true):=ZZ (fun u B=>by rw[List.mem_singleton.1 B];rfl)
   have I:P.length+1<=1000000:=by omega
   clear f Q O q m C H h
   go_wp2_with(at_builtin;refine Zam _ rfl _ _ rfl w.heap.size _ P.length xs rfl F.o ⟨wr.heap.size,0,none⟩ 1 1 [.slice a b c] rfl rfl L.o y.o I K.o ?_)
   intro v1 S g k;have E:=ZZ g;have z:=ZZ ((d.out.alloc d.out.size _).trans k);clear g k;go_wp2;go_roundw
   case rel=>exact⟨A+64,P++[(l.drop A).take 64],xs++[.slice a b c],by go_num,by simp;omega,by omega,ZZ (by rw[length_append,length_singleton];exact E.o),ZZ (G.out.snoc rfl t.o),ZZ (by rw[D.out,N.o,append_assoc];rfl),z⟩
   case measure=>simp[intOf];omega
  ·obtain⟨a,b,c,hcut,f⟩:=m.o A l.length (by omega) zL
   rw[H.o A (by omega)] at f
   have t:=ZZ f;have Z:(l.length:Int)<(A:Int)+64:=by omega
   have aa:min ((A:Int)+64) (l.length:Int)=(l.length:Int):=by omega
   have Y:¬ (A:Int)+64<=(l.length:Int):=by omega
   have K:Hid (w.heap.size<=(wr.alloc (.cells #[.slice a b c] 53)).heap.size):=ZZ (Nat.le_trans d.out.size (ZiE wr _));have F:Hid ((wr.alloc (.cells #[.slice a b c] 53)).ownsRow w.heap.size 53 1 _ P.length xs):=ZZ (World.ownsRow.alloc x.out _);have L:=ZZ (ZnD wr (.slice a b c));have y:Hid (∀ u ∈ [Value.slice a b c],u.oneCell'=true):=ZZ (fun u B=>by rw[List.mem_singleton.1 B];rfl)
   have I:P.length+1<=1000000:=by omega
   clear f q m C H h
   go_wp2_with(at_builtin;refine Zam _ rfl _ _ rfl w.heap.size _ P.length xs rfl F.o ⟨wr.heap.size,0,none⟩ 1 1 [.slice a b c] rfl rfl L.o y.o I K.o ?_)
   intro v1 S g k;have E:=ZZ g;have z:=ZZ ((d.out.alloc d.out.size _).trans k);clear g k;go_wp2;go_roundw
   case rel=>exact⟨A+64,P++[(l.drop A).take 64],xs++[.slice a b c],by go_num,by simp;omega,by omega,ZZ (by rw[length_append,length_singleton];exact E.o),ZZ (G.out.snoc rfl t.o),ZZ (by rw[D.out,N.o,append_assoc];rfl),z⟩
   case measure=>simp[intOf];omega
theorem ZjO (i:Int) (v:Value) (l:List UInt8) (w:World) (f:Rd w v l):
 Calls prog 100 #[.int .i64 i,v] w fun e w'=>e=.returned (.agg #[.int .i64 i,.int .i64 (l.length:Int),.int .u32 ((Q2 0 l:Nat):Int)])∧Below w.heap.size w w':=by
 have d:Hid (∀ X,Below w.heap.size w (w.alloc X)):=fun X=>(Below.refl _ _).alloc zL X
 have g:=ZZ (fun W (h:Below w.heap.size w W)=>ZlQ v l W (f.below h zL))
 obtain⟨ao,cap,rfl,-⟩:=f;generalize Q2 0 l=m at *;obtain⟨M,j⟩:∃ M:Int,M=(m:Int):=⟨_,rfl⟩;rw[<-j] at g ⊢;clear j;have q:Hid (∀ cs,(w.alloc (.cells cs 147)).heap[w.heap.size]?=some (.cells cs 147 (0,0))):=fun cs=>heap_alloc_new w _
 go_enter func100,ntmps100
 go_wp2_with fail
 refine(g.o _ (d.o _)).mono ?_;rintro x b ⟨rfl,c⟩;have n:=ZZ ((d.o _).trans (c.mono (d.o _).size));have a:=(c.block w.heap.size (by simp)).trans (q.o _)
 have t:=cell_of_row b w.heap.size 0 _ _ _ a;have p:=cell_of_row b w.heap.size 1 _ _ _ a;have k:=cell_of_row b w.heap.size 2 _ _ _ a;have z:=frozen_of_row b w.heap.size 0 _ _ a;have y:=frozen_of_row b w.heap.size 1 _ _ a;have u:=frozen_of_row b w.heap.size 2 _ _ a;clear c a;go_wp2;refine bodyPost_ret (v:=.agg #[.int .i64 i,.int .i64 (l.length:Int),.int .u32 M]) (by simp[results,Tryz.results100,go_sem,t,p,k]) rfl ?_
 exact⟨rfl,((n.o.setCell zL _).setCell zL _).setCell zL _⟩
theorem ZnE:∀ (A B:List Int),Zr (A++B)=Zr A++Zr B
 | [],_=>rfl
 | x::r,B=>by rw[List.cons_append,Zr,ZnE r B,Zr,append_assoc]
theorem Zgq:∀ (L:List Int),(∀ x ∈ L,I64 x)->(Zr L).length<=10*L.length
 | [],_=>by simp[Zr]
 | x::r,h=>by
  have c:=Zgq r (fun y a=>h y (by simp[a]))
  have b:=Zwv (h x (by simp))
  rw[Zr,length_append,List.length_cons];omega
theorem ZsF (L:List Int) (k:Nat) (a:k<L.length):Zr (L.take (k+1))=Zr (L.take k)++Lib.uvarint (Lib.zigzag (L.getD k 0)):=by
 have e:L.take (k+1)=L.take k++[L.getD k 0]:=by
  rw[take_add_one];simp[List.getD,a]
 rw[e,ZnE];simp[Zr]
def Zvq (s:St):List UInt8:=(Lib.uvarint s.kind.toNat++Lib.uvarint (Db s))++Lib.uvarint s.L.length
theorem Zvr (s:St):Zeq s=Zvq s++Zr s.L:=by
 unfold Zeq Zvq;simp[append_assoc]
theorem Zxq (a:Bool) (g:Int) (h:0<=g):(if a=true then g+1 else 0)=((Db ⟨0,[],a,g⟩:Nat):Int):=by
 unfold Db
 cases a
 ·rfl
 ·simp
  omega
theorem ZnF (k:Int) (l:List Int) (a:Bool) (g:Int):Db ⟨k,l,a,g⟩=Db ⟨0,[],a,g⟩:=rfl
def ZAp (w:World) (s:St) (e:Ending) (w':World):Prop:=
 ∃ v',e=.returned (.tuple #[v',.int .i64 (if Yl s then 0 else 1)])∧Rd w' v' (if Yl s then Zeq s else[])∧Below w.heap.size w w'
theorem ZjP (kind:Int) (ao:Option Addr) (n cap:Nat) (a:Bool) (g:Int) (w:World) (d:0<=g) (f:g<=2):
 Calls prog 190 #[.agg #[.int .i64 kind,.slice ao n cap,.bool a,.int .i64 g]] w fun e w'=>e=.returned (.int .i64 ((Db ⟨0,[],a,g⟩:Nat):Int))∧Below w.heap.size w w':=by
 have b:Hid (∀ X,Below w.heap.size w (w.alloc X)):=fun X=>(Below.refl _ _).alloc zL X
 have c:=ZZ (Zxq a g d);generalize Db ⟨0,[],a,g⟩=m at *
 cases a
 ·go_enter func190,ntmps190
  go_wp2;go_ret;refine⟨?_,b.o _⟩;rw[<-c.o];rfl
 ·go_enter func190,ntmps190
  go_wp2;go_ret;refine⟨?_,b.o _⟩;rw[<-c.o];rfl
theorem ZiF (v:Value) (s:St) (w:World) (hs:StV w v s) (a3:s.L.length<=1000):
 Calls prog 141 #[v] w fun e w'=>ZAp w s e w':=by
 obtain⟨vl,rfl,Z,ah,an⟩:=hs;obtain⟨kind,l,a,g⟩:=s;simp only at Z ah an a3 ⊢;have ab:Hid (∀ W,Below w.heap.size w W->Calls prog 82 #[.agg #[.int .i64 kind,vl,.bool a,.int .i64 g]] W fun e w'=>e=.returned (.bool (decide (Yl ⟨kind,l,a,g⟩)))∧Below W.heap.size W w'):=fun W h=>ZlG _ ⟨kind,l,a,g⟩ W ⟨vl,rfl,Z.below h zL,ah,an⟩
 have j:Hid (∀ X,Below w.heap.size w (w.alloc X)):=fun X=>(Below.refl _ _).alloc zL X
 have bc:=ZZ Z;obtain⟨ao,cap,rfl,-,-,-,hi,aB⟩:=Z;have a9:=ZZ aB;clear aB ah an;unfold ZAp;by_cases b:Yl ⟨kind,l,a,g⟩
 ·simp only [if_pos b]
  have HT:=ZZ (decide_eq_true b);have aY:0<=kind:=b.2.2.2.1;have bb:kind<6:=b.2.2.2.2.1;have aZ:0<=g:=b.1;have a1:g<=2:=b.2.1;have aX:=Zlj b;rw[ZnF] at aX;have HI:=ZZ hi;have u1:=Gh (n:=kind.toNat) (by omega)
  have u2:=Gh (n:=Db ⟨0,[],a,g⟩) (by omega)
  have u3:=Gh (n:=l.length) (by omega)
  have R:Hid (∀ (n:Int),0<=n->n<4611686018427387904->∀ W,Calls prog 132 #[.slice none 0 0,.int .i64 n] W fun e w'=>∃ v',e=.returned v'∧Own w' W.heap.size v' (Lib.uvarint n.toNat)∧Below W.heap.size W w'):=fun n G Q W=>by
   have h:=ZbE (.slice none 0 0) [] n W (Rd.nil W) (by simp)
   rw[J0 G Q,nil_append] at h;exact h
  have aN:=ZZ (R.o kind aY (by omega))
  have ak:=ZZ (R.o ((Db ⟨0,[],a,g⟩:Nat):Int) (by omega) (by omega))
  have am:=ZZ (R.o (l.length:Int) (by omega) (by omega))
  rw[Int.toNat_natCast] at ak am;have V:=ZZ (fun W=>ZjP kind ao l.length cap a g W aZ a1)
  have aT:Hid (∀ x,I64 x->∀ W,Calls prog 142 #[.slice none 0 0,.int .i64 x] W fun e w'=>∃ v',e=.returned v'∧Own w' W.heap.size v' (Lib.uvarint (Lib.zigzag x))∧Below W.heap.size W w'):=fun x K W=>by
   have h:=Gj (.slice none 0 0) [] x W (Rd.nil W) (by simp) K.1 K.2
   rw[nil_append] at h;exact h
  have aA:Hid (Zeq ⟨kind,l,a,g⟩=(Lib.uvarint kind.toNat++(Lib.uvarint (Db ⟨0,[],a,g⟩)++Lib.uvarint l.length))++Zr l):=by
   refine ZZ ?_;rw[Zvr];unfold Zvq;rw[ZnF];simp only [append_assoc]
  have ba:Hid (∀ k,(Zr (l.take k)).length<=10*1000):=fun k=>by
   have Q:=Zgq (l.take k) (fun x K=>hi x (List.mem_of_mem_take K))
   have h2:(l.take k).length<=l.length:=by simp;omega
   omega
  have aG:Hid (∀ W N T O J,N=W.heap.size->Rd W T (Lib.uvarint kind.toNat)->Rd W O (Lib.uvarint (Db ⟨0,[],a,g⟩))->Rd W J (Lib.uvarint l.length)->Calls prog 131 #[.slice (some ⟨N,0,none⟩) 3 3] (W.alloc (.cells #[T,O,J] 53)) fun e w'=>∃ v',e=.returned v'∧Own w' W.heap.size v' (Lib.uvarint kind.toNat++(Lib.uvarint (Db ⟨0,[],a,g⟩)++Lib.uvarint l.length))∧Below W.heap.size W w'):=fun W N T O J hN G Q h2=>Zvk W N hN T O J _ _ _ G Q h2 (by omega)
  rw[aA.o]
  have be:(Lib.uvarint kind.toNat++(Lib.uvarint (Db ⟨0,[],a,g⟩)++Lib.uvarint l.length)).length<=30:=by
   simp only [length_append];omega
  clear b hi aA R u1 u2 u3;generalize Db ⟨0,[],a,g⟩=m at *;generalize Lib.uvarint kind.toNat=A at *;generalize Lib.uvarint m=B at *;generalize Lib.uvarint l.length=C at *;generalize A++(B++C)=H at *
  go_enter func141,ntmps141
  go_wp2_with fail
  refine(ab.o _ (j.o _)).mono ?_;rintro e W1 ⟨rfl,f⟩;rw[HT.o];have t:Bx W1 w.heap.size _:=(f.block w.heap.size (by simp)).trans (heap_alloc_new w _)
  have aP:=ZZ t;have I:=ZZ ((j.o _).trans (f.mono (j.o _).size));obtain⟨p0,-⟩:=t.cell 0;obtain⟨p1,-⟩:=t.cell 1;obtain⟨p2,-⟩:=t.cell 2;obtain⟨p3,-⟩:=t.cell 3;clear f t;go_wp2
  go_region_held(fun w'=>w'.cell? ⟨w.heap.size,0,none⟩=some (.int .i64 kind)∧w'.cell? ⟨w.heap.size,1,none⟩=some (.slice ao l.length cap)∧w'.cell? ⟨w.heap.size,2,none⟩=some (.bool a)∧w'.cell? ⟨w.heap.size,3,none⟩=some (.int .i64 g)) (go_keep)
   (first
    | (go_at_call_of 132 (Value.int .i64 kind);refine(aN.o _).mono ?_;rintro e W2 ⟨J,rfl,al,aa⟩;have q:=aP.o.below (((Below.refl _ _).drew).trans aa) zL;have aM:=ZZ q;have ad:=ZZ (I.o.trans ((((Below.refl _ _).drew).trans aa).mono I.o.size));obtain⟨a2,c2,rfl,-⟩:=al.rd;have aK:=ZZ al.rd;obtain⟨q0,-⟩:=q.cell 0;obtain⟨q1,-⟩:=q.cell 1;obtain⟨q2,-⟩:=q.cell 2;obtain⟨q3,-⟩:=q.cell 3;clear al aa q)
    | (go_at_call 190;refine(V.o _).mono ?_;rintro e W3 ⟨rfl,U⟩;have u:=aM.o.below U zL;have aO:=ZZ u;have ae:=ZZ (ad.o.trans (U.mono ad.o.size));have aw:=ZZ (aK.o.below U zL);obtain⟨r0,-⟩:=u.cell 0;obtain⟨r1,-⟩:=u.cell 1;obtain⟨r2,-⟩:=u.cell 2;obtain⟨r3,-⟩:=u.cell 3;clear U u)
    | (go_at_call_of 132 (Value.int .i64 (m:Int));refine(ak.o _).mono ?_;rintro e W4 ⟨v4,rfl,aj,Y⟩;have p:=aO.o.below Y zL;have ar:=ZZ p;have aq:=ZZ (ae.o.trans (Y.mono ae.o.size));have aC:=ZZ (aw.o.below Y zL);obtain⟨a4,c4,rfl,-⟩:=aj.rd;have av:=ZZ aj.rd;obtain⟨s0,-⟩:=p.cell 0;obtain⟨s1,-⟩:=p.cell 1;obtain⟨s2,-⟩:=p.cell 2;obtain⟨s3,-⟩:=p.cell 3;clear aj Y p)
    | (go_at_call_of 132 (Value.int .i64 (l.length:Int));refine(am.o _).mono ?_;rintro e W5 ⟨v5,rfl,af,E⟩;have z:=ar.o.below E zL;have aJ:=ZZ z;have S:=ZZ (aq.o.trans (E.mono aq.o.size));have aI:=ZZ (aC.o.below E zL);have aH:=ZZ (av.o.below E zL);obtain⟨a5,c5,rfl,-⟩:=af.rd;have ay:=ZZ af.rd;obtain⟨t0,-⟩:=z.cell 0;obtain⟨t1,-⟩:=z.cell 1;obtain⟨t2,-⟩:=z.cell 2;obtain⟨t3,-⟩:=z.cell 3;clear af E z)
    | (go_at_call 131;refine(aG.o W5 W5.heap.size _ _ _ rfl aI.o aH.o ay.o).mono ?_;rintro e W6 ⟨v6,rfl,aL,ap⟩;have d:=aJ.o.below ap zL;have aV:=ZZ d;have aD:=ZZ (aL.mono S.o.size);have aQ:=ZZ (S.o.trans (ap.mono S.o.size));obtain⟨y0,-⟩:=d.cell 0;obtain⟨y1,-⟩:=d.cell 1;obtain⟨y2,-⟩:=d.cell 2;obtain⟨y3,-⟩:=d.cell 3;clear aL ap d))
  clear p0 p1 p2 p3 q0 q1 q2 q3 r0 r1 r2 r3 s0 s1 s2 s3 t0 t1 t2 t3 aP aM aO ar aJ I ad ae aq S aK aw aC aI av aH ay aN ak am V aG ab;go_wp2
  go_loopw[4,25] (fun vo i wr=>∃ k:Nat,i=.int .i64 k∧k<=l.length∧Hid (Own wr w.heap.size vo (H++Zr (l.take k)))∧Hid (Below w.heap.size w wr)) (fun _ i _=>l.length-(intOf i).toNat)
  case atStart=>exact⟨0,rfl,Nat.zero_le _,by simpa[Zr] using aD,aQ⟩
  case round=>
   clear y0 y1 y2 y3 aV aD aQ;obtain⟨k,rfl,hk,ag,M⟩:=hrel;by_cases F:k<l.length
   ·rcases a9.o with G | ⟨c,aR,rfl,hc⟩
    ·rw[G] at F;simp at F
    have bd:wr.cell? ⟨c,aR+k,none⟩=some (.int .i64 (l.getD k 0)):=(M.out.cell (World.block_lt_of_cell? w ⟨c,aR+k,none⟩ (hc k F))).trans (hc k F);have aF:Hid (I64 (l.getD k 0)):=Zwx HI.o k;have aU:=ZZ (aT.o (l.getD k 0) aF.o)
    have a8:Hid ((H++Zr (l.take k)).length+(Lib.uvarint (Lib.zigzag (l.getD k 0))).length<=70368744177664):=by
     refine ZZ ?_;have:=ba.o k;have:=Zwv aF.o;rw[length_append];omega
    have V:Hid ((H++Zr (l.take k))++Lib.uvarint (Lib.zigzag (l.getD k 0))=H++Zr (l.take (k+1))):=by
     refine ZZ ?_;rw[ZsF l k F,append_assoc]
    clear hc;generalize l.getD k 0=y at *;generalize H++Zr (l.take k)=P at *;generalize Lib.uvarint (Lib.zigzag y)=D at *
    go_wp2_with fail
    refine(aU.o _).mono ?_;rintro e W7 ⟨v7,rfl,ax,ac⟩;have aW:=ZZ ax.rd;have aS:=ZZ (ag.out.below ac zL);have aE:=ZZ (M.out.trans (ac.mono M.out.size));have a0:=ZZ aE.o.size;clear ax ac
    go_wp2_with(at_builtin;refine Xw _ rfl _ _ rfl w.heap.size _ P rfl aS.o _ D rfl aW.o a8.o a0.o ?_)
    intro v8 W8 ai au;rw[V.o] at ai;have a7:=ZZ ai;have a6:=ZZ (aE.o.trans au);clear ai au;go_wp2;go_roundw
    case rel=>exact⟨k+1,by go_num,by omega,a7,a6⟩
    case measure=>simp[intOf];omega
   ·have az:l.take k=l:=take_of_length_le (by omega)
    rw[az] at ag;clear az;go_wp2;go_ret2;exact⟨_,rfl,ag.out.rd,M.out⟩
 ·simp only [if_neg b]
  have HT:=ZZ (decide_eq_false b);clear b
  go_enter func141,ntmps141
  go_wp2_with fail
  refine(ab.o _ (j.o _)).mono ?_;rintro e W1 ⟨rfl,f⟩;rw[HT.o];have I:=ZZ ((j.o _).trans (f.mono (j.o _).size));clear f;go_wp2;go_ret2;exact⟨_,rfl,Rd.nil _,I.o⟩
def ZyU (i n m:Nat):List UInt8:=115::(Lib.uvarint 3++(Lib.uvarint i++(Lib.uvarint n++Lib.leBytes 4 m)))
theorem Zxr (i:Nat) (l:List UInt8):ZyU i l.length (Q2 0 l)=Zbn i l:=rfl
theorem Zvs (W:World) (N:Nat) (a:N=W.heap.size):Rd (W.alloc (.cells #[.int .u8 115] 5)) (.slice (some ⟨N,0,none⟩) 1 1) [115]:=by
 subst a;refine⟨some ⟨W.heap.size,0,none⟩,1,rfl,Nat.le_refl _,by unfold maxLen;omega,(fun h=>by cases h),.inr ⟨W.heap.size,0,rfl,fun j b=>?_⟩⟩
 have e:j=0:=by simpa using b
 subst e;rw[cell_of_row _ W.heap.size _ _ 5 (0,0) (heap_alloc_new W _)];rfl
theorem ZzO (W:World) (N:Nat) (a:N=W.heap.size):Rd (W.alloc (.cells #[.int .u8 115] 5)).drew (.slice (some ⟨N,0,none⟩) 1 1) [115]:=
 (Zvs W N a).below (((Below.refl _ _)).drew) zL
theorem ZyV (W:World) (N:Nat) (v:N=W.heap.size) (i k l g h:Value) (d a b c f:List UInt8) (z:Rd W i d) (y:Rd W k a) (p:Rd W l b) (q:Rd W g c) (u:Rd W h f) (A:d.length+a.length+b.length+c.length+f.length<=1000000):
 Calls prog 131 #[.slice (some ⟨N,0,none⟩) 5 5] (W.alloc (.cells #[i,k,l,g,h] 53)) fun e w'=>∃ v',e=.returned v'∧Own w' W.heap.size v' (d++(a++(b++(c++f))))∧Below W.heap.size W w':=by
 have n:=RdL.built W N v #[i,k,l,g,h] [d,a,b,c,f] (by simp) (fun j x=>by
  match j,x with
  | 0,_=>exact⟨i,rfl,z⟩
  | 1,_=>exact⟨k,rfl,y⟩
  | 2,_=>exact⟨l,rfl,p⟩
  | 3,_=>exact⟨g,rfl,q⟩
  | 4,_=>exact⟨h,rfl,u⟩)
 refine(Zdi _ _ _ n (by simp;omega) (by simp)).mono ?_
 rintro e w' ⟨v',rfl,m,w⟩;have t:[d,a,b,c,f].flatten=d++(a++(b++(c++f))):=by simp
 rw[t] at m;exact⟨v',rfl,m.mono (by simp),((Below.refl _ _).alloc zL _).trans (w.mono (by simp))⟩
def Bm (w:World) (b:Nat) (x y z:Value):Prop:=w.heap[b]?=some (.cells #[x,y,z] 147 (0,0))
theorem Bm.lt (h:Bm w b x y z):b<w.heap.size:=(Array.getElem?_eq_some_iff.1 h).1
theorem Bm.below (h:Bm w b x y z) (a:Below B w w') (c:w.heap.size<=B):Bm w' b x y z:=(a.block b (by have:=h.lt;omega)).trans h
theorem Bm.cells (h:Bm w b x y z):w.cell? ⟨b,0,none⟩=some x∧w.cell? ⟨b,1,none⟩=some y∧w.cell? ⟨b,2,none⟩=some z:=
 ⟨cell_of_row w b 0 _ _ _ h,cell_of_row w b 1 _ _ _ h,cell_of_row w b 2 _ _ _ h⟩
theorem Zxs (i n:Int) (m:Nat) (w:World) (hi:0<=i∧i<4611686018427387904) (hn:0<=n∧n<4611686018427387904) (hm:m<4294967296):
 Calls prog 101 #[.agg #[.int .i64 i,.int .i64 n,.int .u32 (m:Int)]] w fun e w'=>∃ v',e=.returned v'∧Own w' w.heap.size v' (ZyU i.toNat n.toNat m)∧Below w.heap.size w w':=by
 have ac:Hid (∀ k W,0<=k->k<4611686018427387904->Calls prog 132 #[.slice none 0 0,.int .i64 k] W fun e w'=>∃ v',e=.returned v'∧Own w' W.heap.size v' (Lib.uvarint k.toNat)∧Below W.heap.size W w'):=ZZ (fun k W h0 h1=>by
  have h:=ZbE (.slice none 0 0) [] k W (Rd.nil W) (by simp)
  rw[J0 h0 h1,nil_append] at h
  exact h)
 have ao:=ZZ (fun W=>ac.o 3 W (by omega) (by omega))
 have ah:=ZZ (fun W=>ac.o i W hi.1 hi.2)
 have ai:=ZZ (fun W=>ac.o n W hn.1 hn.2)
 have V:=ZZ (fun W=>ZhX m W hm)
 have q1:(Lib.uvarint (3:Int).toNat).length<=10:=Gh (by decide)
 have q2:(Lib.uvarint i.toNat).length<=10:=Gh (by omega)
 have q3:(Lib.uvarint n.toNat).length<=10:=Gh (by omega)
 have q4:(Lib.leBytes 4 m).length<=10:=by rw[Lib.leBytes_length];decide
 have HE:Hid (ZyU i.toNat n.toNat m=[115]++(Lib.uvarint (3:Int).toNat++(Lib.uvarint i.toNat++(Lib.uvarint n.toNat++Lib.leBytes 4 m)))):=ZZ rfl;rw[HE.o];have an:=ZZ (fun W N v0 v1 v2 Q R hN h0 h1 h2 h3 h4=>ZyV W N hN v0 v1 v2 Q R [115] (Lib.uvarint (3:Int).toNat) (Lib.uvarint i.toNat) (Lib.uvarint n.toNat) (Lib.leBytes 4 m) h0 h1 h2 h3 h4 (by simp only [length_singleton];omega))
 generalize Lib.uvarint (3:Int).toNat=L1 at *;generalize Lib.uvarint i.toNat=L2 at *;generalize Lib.uvarint n.toNat=L3 at *;generalize Lib.leBytes 4 m=L4 at *;generalize [115]++(L1++(L2++(L3++L4)))=LL at *;obtain⟨M,hM⟩:∃ M:Int,M=(m:Int):=⟨_,rfl⟩;rw[<-hM] at V ⊢;clear hM HE ac q1 q2 q3 q4 hi hn hm;obtain⟨a,ab⟩:∃ a,a=w.alloc (.cells #[.int .i64 i,.int .i64 n,.int .u32 M] 147):=⟨_,rfl⟩;have U:Hid (Below w.heap.size w a):=ZZ (by rw[ab];exact(Below.refl _ _).alloc zL _)
 have ar:Hid (Bm a w.heap.size (.int .i64 i) (.int .i64 n) (.int .u32 M)):=ZZ (by rw[ab];exact heap_alloc_new w _)
 have l:Hid (∀ W,Below a.heap.size a W->W.cell? ⟨w.heap.size,0,none⟩=some (.int .i64 i)∧W.cell? ⟨w.heap.size,1,none⟩=some (.int .i64 n)∧W.cell? ⟨w.heap.size,2,none⟩=some (.int .u32 M)):=ZZ (fun W h=>(ar.o.below h zL).cells)
 have D:Hid (∀ W X,Below a.heap.size a W->Below a.heap.size a (W.alloc X)):=ZZ (fun W X h=>h.alloc h.size X)
 have au:Hid (∀ W,Below a.heap.size a W->Below a.heap.size a W.drew):=ZZ (fun W h=>h.drew)
 have ad:Hid (Below a.heap.size a a.drew):=ZZ ((Below.refl _ _).drew);have ae:Hid (Below a.heap.size a (a.alloc (.cells #[.int .u8 115] 5)).drew):=ZZ (((Below.refl _ _).alloc zL _).drew)
 go_enter func101,ntmps101
 go_upto_region 1 with fail
 rw[<-ab];clear ab;have E:Hid (∀ args w,(callFunc 132 args).run prog w=.ok (.enter 132 args) w):=ZZ (enters_of func132 (by kernel_rfl) rfl)
 have af:Hid (∀ args w,(callFunc 135 args).run prog w=.ok (.enter 135 args) w):=ZZ (enters_of func135 (by kernel_rfl) rfl)
 have ak:Hid (∀ args w,(callFunc 131 args).run prog w=.ok (.enter 131 args) w):=ZZ (enters_of func131 (by kernel_rfl) rfl)
 go_region_held2(fun w'=>w'.cell? ⟨w.heap.size,0,none⟩=some (.int .i64 i)∧w'.cell? ⟨w.heap.size,1,none⟩=some (.int .i64 n)∧w'.cell? ⟨w.heap.size,2,none⟩=some (.int .u32 M))
  (first | (with_reducible exact l.o _ ad.o) | (with_reducible exact l.o _ ae.o) | (with_reducible exact l.o _ ag) | (with_reducible exact l.o _ p) | (with_reducible exact l.o _ x) | (with_reducible exact l.o _ y) | (with_reducible exact l.o _ A) | (with_reducible exact l.o _ (D.o _ _ p)) | (with_reducible exact l.o _ (D.o _ _ x)) | (with_reducible exact l.o _ (D.o _ _ y)) | (with_reducible exact l.o _ (D.o _ _ A)) | (with_reducible exact l.o _ (D.o _ _ (D.o _ _ p))))
  (first
   | ((with_reducible refine Y4 132 _ _ rfl rfl #[.slice none 0 0,.int .i64 3] (by simp[Act.eval]) E.o (ao.o a.drew) ?_);rintro v1 j ⟨F,G⟩;have A:Below a.heap.size a j:=ad.o.trans (G.mono ad.o.size);obtain⟨a1,c1,c,-⟩:=F.rd;subst c;have S:=ZZ F.rd;clear F G)
   | ((with_reducible refine Y4 132 _ _ rfl rfl #[.slice none 0 0,.int .i64 3] (by simp[Act.eval]) E.o (ao.o (a.alloc (.cells #[.int .u8 115] 5)).drew) ?_);rintro v1 j ⟨F,G⟩;have A:Below a.heap.size a j:=ae.o.trans (G.mono ae.o.size);have aq:=ZZ ((ZzO a _ rfl).below G zL);obtain⟨a1,c1,c,-⟩:=F.rd;subst c;have S:=ZZ F.rd;clear F G)
   | (have q:=aq.o;(with_reducible refine Y4 132 _ _ rfl rfl #[.slice none 0 0,.int .i64 i] (by simp[Act.eval]) E.o (ah.o j) ?_);rintro v2 d ⟨v,z⟩;have b:Below j.heap.size j d:=z;have y:Below a.heap.size a d:=A.trans (b.mono A.size);have al:=ZZ (q.below b zL);clear q;have L:=ZZ (S.o.below b zL);clear b;obtain⟨a2,c2,c,-⟩:=v.rd;subst c;have P:=ZZ v.rd;clear v z)
   | ((with_reducible refine Y4 132 _ _ rfl rfl #[.slice none 0 0,.int .i64 i] (by simp[Act.eval]) E.o (ah.o j) ?_);rintro v2 d ⟨v,z⟩;have b:Below j.heap.size j d:=z;have y:Below a.heap.size a d:=A.trans (b.mono A.size);have L:=ZZ (S.o.below b zL);clear b;obtain⟨a2,c2,c,-⟩:=v.rd;subst c;have P:=ZZ v.rd;clear v z)
   | ((with_reducible refine Y4 132 _ _ rfl rfl #[.slice none 0 0,.int .i64 i] (by simp[Act.eval]) E.o (ah.o (j.alloc (.cells #[.int .u8 115] 5))) ?_);rintro v2 d ⟨v,z⟩;have b:Below j.heap.size j d:=((Below.refl _ _).alloc zL _).trans (z.mono (by simp));have y:Below a.heap.size a d:=A.trans (b.mono A.size);have al:=ZZ ((Zvs j _ rfl).below z zL);have L:=ZZ (S.o.below b zL);clear b;obtain⟨a2,c2,c,-⟩:=v.rd;subst c;have P:=ZZ v.rd;clear v z)
   | (have q:=al.o;(with_reducible refine Y4 132 _ _ rfl rfl #[.slice none 0 0,.int .i64 n] (by simp[Act.eval]) E.o (ai.o d) ?_);rintro Q f ⟨t,B⟩;have b:Below d.heap.size d f:=B;have x:Below a.heap.size a f:=y.trans (b.mono y.size);have ap:=ZZ (q.below b zL);clear q;have I:=ZZ (L.o.below b zL);have J:=ZZ (P.o.below b zL);clear b;obtain⟨a3,c3,c,-⟩:=t.rd;subst c;have O:=ZZ t.rd;clear t B)
   | ((with_reducible refine Y4 132 _ _ rfl rfl #[.slice none 0 0,.int .i64 n] (by simp[Act.eval]) E.o (ai.o d) ?_);rintro Q f ⟨t,B⟩;have b:Below d.heap.size d f:=B;have x:Below a.heap.size a f:=y.trans (b.mono y.size);have I:=ZZ (L.o.below b zL);have J:=ZZ (P.o.below b zL);clear b;obtain⟨a3,c3,c,-⟩:=t.rd;subst c;have O:=ZZ t.rd;clear t B)
   | ((with_reducible refine Y4 132 _ _ rfl rfl #[.slice none 0 0,.int .i64 n] (by simp[Act.eval]) E.o (ai.o (d.alloc (.cells #[.int .u8 115] 5))) ?_);rintro Q f ⟨t,B⟩;have b:Below d.heap.size d f:=((Below.refl _ _).alloc zL _).trans (B.mono (by simp));have x:Below a.heap.size a f:=y.trans (b.mono y.size);have ap:=ZZ ((Zvs d _ rfl).below B zL);have I:=ZZ (L.o.below b zL);have J:=ZZ (P.o.below b zL);clear b;obtain⟨a3,c3,c,-⟩:=t.rd;subst c;have O:=ZZ t.rd;clear t B)
   | (have q:=ap.o;(with_reducible refine Y4 135 _ _ rfl rfl #[.int .u32 M] (by simp[Act.eval]) af.o (V.o f) ?_);rintro R g ⟨u,C⟩;have b:Below f.heap.size f g:=C;have p:Below a.heap.size a g:=x.trans (b.mono x.size);have am:=ZZ (q.below b zL);clear q;have Y:=ZZ (I.o.below b zL);have aa:=ZZ (J.o.below b zL);have Z:=ZZ (O.o.below b zL);clear b;obtain⟨a4,c4,c,-⟩:=u.rd;subst c;have T:=ZZ u.rd;clear u C)
   | ((with_reducible refine Y4 135 _ _ rfl rfl #[.int .u32 M] (by simp[Act.eval]) af.o (V.o f) ?_);rintro R g ⟨u,C⟩;have b:Below f.heap.size f g:=C;have p:Below a.heap.size a g:=x.trans (b.mono x.size);have Y:=ZZ (I.o.below b zL);have aa:=ZZ (J.o.below b zL);have Z:=ZZ (O.o.below b zL);clear b;obtain⟨a4,c4,c,-⟩:=u.rd;subst c;have T:=ZZ u.rd;clear u C)
   | ((with_reducible refine Y4 135 _ _ rfl rfl #[.int .u32 M] (by simp[Act.eval]) af.o (V.o (f.alloc (.cells #[.int .u8 115] 5))) ?_);rintro R g ⟨u,C⟩;have b:Below f.heap.size f g:=((Below.refl _ _).alloc zL _).trans (C.mono (by simp));have p:Below a.heap.size a g:=x.trans (b.mono x.size);have am:=ZZ ((Zvs f _ rfl).below C zL);have Y:=ZZ (I.o.below b zL);have aa:=ZZ (J.o.below b zL);have Z:=ZZ (O.o.below b zL);clear b;obtain⟨a4,c4,c,-⟩:=u.rd;subst c;have T:=ZZ u.rd;clear u C)
   | (have q:=am.o;(with_reducible refine Y4 131 _ _ rfl rfl #[.slice (some ⟨g.heap.size,0,none⟩) 5 5] (by simp[Act.eval]) ak.o (an.o g g.heap.size _ _ _ _ _ rfl q Y.o aa.o Z.o T.o) ?_);rintro v5 W5 ⟨K,H⟩;have ag:Below a.heap.size a W5:=p.trans (H.mono p.size);have aj:=ZZ (K.mono (Nat.le_trans U.o.size p.size));clear K H q)
   | (refine Y4 131 _ _ rfl rfl #[.slice (some ⟨g.heap.size+1,0,none⟩) 5 5] (by simp[Act.eval]) ak.o (an.o (g.alloc (.cells #[.int .u8 115] 5)) (g.heap.size+1) _ _ _ _ _ (by simp) (Zvs g _ rfl) (Y.o.below ((Below.refl _ _).alloc zL _) zL) (aa.o.below ((Below.refl _ _).alloc zL _) zL) (Z.o.below ((Below.refl _ _).alloc zL _) zL) (T.o.below ((Below.refl _ _).alloc zL _) zL)) ?_;rintro v5 W5 ⟨K,H⟩;have ag:Below a.heap.size a W5:=(D.o _ _ p).trans (H.mono (D.o _ _ p).size);have aj:=ZZ (K.mono (Nat.le_trans U.o.size (D.o _ _ p).size));clear K H))
 all_goals
  go_wp2;go_ret;exact⟨_,rfl,aj.o,U.o.trans (ag.mono U.o.size)⟩
theorem ZpF (t:List Ent) (q:Nat) (a:q<t.length):Yw (t.take (q+1))=Yw (t.take q)++ZoG (t.getD q Xi):=by
 have b:t.take (q+1)=t.take q++[t.getD q Xi]:=by
  rw[take_add_one,List.getElem?_eq_getElem a];simp[List.getD,a]
 rw[b];unfold Yw;rw[List.flatMap_append];simp
theorem ZlR (t:List Ent) (q:Nat):(Yw (t.take q)).length<=(Yw t).length:=by
 have h:Yw t=Yw (t.take q)++Yw (t.drop q):=by
  unfold Yw;rw[<-List.flatMap_append,List.take_append_drop]
 rw[h,length_append];omega
theorem ZpG (v:Value) (s:Q0) (w:World) (hs:SnV w v s) (i:Z6 s):
 Calls prog 99 #[v] w fun e w'=>∃ v',e=.returned v'∧Own w' w.heap.size v' (Xt s)∧Below w.heap.size w w':=by
 obtain⟨vl,vt,rfl,hl,B,A,ht,hi⟩:=hs;have bn:=Zer i.2.1;have a4:=ZhM i.2.2;have au:=Zay i;have bo:=ZoQ i.2.1;have O:=ZZ (fun W (h:Below w.heap.size w W)=>ZiF (.agg #[.int .i64 s.st.kind,vl,.bool s.st.shut,.int .i64 s.st.eng]) s.st W ⟨vl,rfl,hl.below h zL,B,A⟩ (by omega))
 unfold ZAp at O;rw[if_pos i.2.1,if_pos i.2.1] at O;have aE:Hid (∀ q,q<s.tab.length->Zbm (s.tab.getD q Xi)):=ZZ (fun q hq=>(i.2.2 q hq).1)
 have E:Hid (∀ b l k W,Rd W b l->l.length<=10000->0<=k->k<4611686018427387904->Calls prog 132 #[b,.int .i64 k] W fun e w'=>∃ v',e=.returned v'∧Own w' W.heap.size v' (l++Lib.uvarint k.toNat)∧Below W.heap.size W w'):=ZZ (fun b l k W h hl z m=>by
  have h:=ZbE b l k W h (by omega)
  rw[J0 z m] at h
  exact h)
 have aH:Hid (∀ b l k W,Rd W b l->l.length<=10000->I64 k->Calls prog 142 #[b,.int .i64 k] W fun e w'=>∃ v',e=.returned v'∧Own w' W.heap.size v' (l++Lib.uvarint (Lib.zigzag k))∧Below W.heap.size W w'):=ZZ (fun b l k W h hl B=>Gj b l k W h (by omega) B.1 B.2)
 have aN:Hid (∀ q,q<s.tab.length->Yw (s.tab.take (q+1))=Yw (s.tab.take q)++ZoG (s.tab.getD q Xi)):=ZZ (fun q hq=>ZpF _ q hq)
 have aG:Hid (∀ q,(Yw (s.tab.take q)).length<=(Yw s.tab).length):=ZZ (fun q=>ZlR _ q)
 have HW:Hid (Xt s=(Lib.uvarint (Zeq s.st).length++(Zeq s.st++Lib.uvarint s.tab.length))++Yw s.tab):=ZZ (by
  unfold Xt Zyg
  simp only [append_assoc])
 have aC:Hid ((Lib.uvarint (Zeq s.st).length++(Zeq s.st++Lib.uvarint s.tab.length)).length+(Yw s.tab).length<=5000):=ZZ (by
  rw[HW.o,length_append] at au
  exact au)
 rw[HW.o];have u1:(Lib.uvarint (Zeq s.st).length).length<=10:=Gh (by omega)
 have u3:(Lib.uvarint s.tab.length).length<=10:=Gh (by omega)
 have aT:Hid (∀ W,Calls prog 132 #[.slice none 0 0,.int .i64 ((Zeq s.st).length:Int)] W fun e w'=>∃ v',e=.returned v'∧Own w' W.heap.size v' (Lib.uvarint (Zeq s.st).length)∧Below W.heap.size W w'):=ZZ (fun W=>by
  have h:=E.o (.slice none 0 0) [] ((Zeq s.st).length:Int) W (Rd.nil W) (by simp) (by omega) (by omega)
  rw[nil_append,Int.toNat_natCast] at h
  exact h)
 have ae:Hid (∀ W,Calls prog 132 #[.slice none 0 0,.int .i64 (s.tab.length:Int)] W fun e w'=>∃ v',e=.returned v'∧Own w' W.heap.size v' (Lib.uvarint s.tab.length)∧Below W.heap.size W w'):=ZZ (fun W=>by
  have h:=E.o (.slice none 0 0) [] (s.tab.length:Int) W (Rd.nil W) (by simp) (by omega) (by omega)
  rw[nil_append,Int.toNat_natCast] at h
  exact h)
 have aM:Hid (∀ W N V b D,N=W.heap.size->Rd W V (Lib.uvarint (Zeq s.st).length)->Rd W b (Zeq s.st)->Rd W D (Lib.uvarint s.tab.length)->Calls prog 131 #[.slice (some ⟨N,0,none⟩) 3 3] (W.alloc (.cells #[V,b,D] 53)) fun e w'=>∃ v',e=.returned v'∧Own w' W.heap.size v' (Lib.uvarint (Zeq s.st).length++(Zeq s.st++Lib.uvarint s.tab.length))∧Below W.heap.size W w'):=ZZ (fun W N V b D hN z m Y=>Zvk W N hN V b D _ _ _ z m Y (by omega))
 obtain⟨R,U,bc,-,-,-,-,aS⟩:=ht;subst bc;have aK:=ZZ aS;obtain⟨la,lc,ba,-⟩:=hl;subst ba;obtain⟨idx,⟨kind,L,S,ac⟩,d⟩:=s
 dsimp only at *
 clear B A hi i bn au bo u1 u3 HW aS;have bu:(d.length:Int)<=65:=by omega
 clear a4;generalize Zeq ⟨kind,L,S,ac⟩=ES at *;generalize Lib.uvarint ES.length=U1 at *;generalize Lib.uvarint d.length=U3 at *;generalize U1++(ES++U3)=H at *;obtain⟨Z,ab⟩:∃ Z,Z=w.alloc (.cells #[.int .i64 idx,.int .i64 kind,.slice la L.length lc,.bool S,.int .i64 ac,.slice R d.length U] 41):=⟨_,rfl⟩;have J:Hid (Below w.heap.size w Z):=ZZ (by rw[ab];exact(Below.refl _ _).alloc zL _)
 have t:Hid (Bn Z w.heap.size #[.int .i64 idx,.int .i64 kind,.slice la L.length lc,.bool S,.int .i64 ac,.slice R d.length U]):=ZZ (by rw[ab];exact heap_alloc_new w _)
 obtain⟨p1,-⟩:=t.o.cell 1;obtain⟨p2,-⟩:=t.o.cell 2;obtain⟨p3,-⟩:=t.o.cell 3;obtain⟨p4,-⟩:=t.o.cell 4
 go_enter func99,ntmps99
 go_upto_region 1 with fail
 rw[<-ab];clear ab
 go_wp2_with fail
 refine(O.o _ J.o).mono ?_;rintro e W1 ⟨b,rfl,aO,af⟩;have aA:=ZZ (t.o.below af zL);have ap:=ZZ (J.o.trans (af.mono J.o.size));have aL:=ZZ aO;obtain⟨a1,K,bm,-⟩:=aO;subst bm;obtain⟨q5,-⟩:=aA.o.cell 5;clear af O t J p1 p2 p3 p4
 go_upto_region 2 with fail
 go_cut[5] (fun vo wc=>Hid (Own wc w.heap.size vo H)∧Hid (Bn wc w.heap.size #[.int .i64 idx,.int .i64 kind,.slice la L.length lc,.bool S,.int .i64 ac,.slice R d.length U])∧Hid (Below w.heap.size w wc))
 case first=>
  go_region_held(fun w'=>w'.cell? ⟨w.heap.size,5,none⟩=some (.slice R d.length U)) (go_keep)
   (first
    | (go_at_call_of 132 (Value.int .i64 (ES.length:Int));refine(aT.o _).mono ?_;rintro e W2 ⟨D,rfl,ax,aB⟩;have X:Below W1.heap.size W1 W2:=((Below.refl _ _).drew).trans aB;have ar:=aA.o.below X zL;have bl:=ZZ ar;have aI:=ZZ (ap.o.trans (X.mono ap.o.size));have bg:=ZZ (aL.o.below X zL);obtain⟨a2,I,rfl,-⟩:=ax.rd;have bk:=ZZ ax.rd;obtain⟨r5,-⟩:=ar.cell 5;clear ax aB ar X)
    | (go_at_call_of 132 (Value.int .i64 (d.length:Int));refine(ae.o _).mono ?_;rintro e W3 ⟨v3,rfl,al,C⟩;have av:=bl.o.below C zL;have bp:=ZZ av;have ak:=ZZ (aI.o.trans (C.mono aI.o.size));have bd:=ZZ (bg.o.below C zL);have a8:=ZZ (bk.o.below C zL);obtain⟨a3,c3,rfl,-⟩:=al.rd;have bf:=ZZ al.rd;obtain⟨s5,-⟩:=av.cell 5;clear al C av)
    | (go_at_call 131;refine(aM.o W3 W3.heap.size _ _ _ rfl a8.o bd.o bf.o).mono ?_;rintro e W4 ⟨v4,rfl,aQ,aw⟩;have an:=bp.o.below aw zL;have aY:=ZZ an;have br:=ZZ (ak.o.trans (aw.mono ak.o.size));have a5:=ZZ (aQ.mono ak.o.size);obtain⟨t5,-⟩:=an.cell 5;clear aQ aw an))
  all_goals
   go_wp2_with fail
   go_meet
   exact⟨a5,aY,br⟩
 case rest=>
  obtain⟨WC,rfl⟩:∃ W,W=wc:=⟨_,rfl⟩;obtain⟨HO,HX,HB⟩:=hcut;obtain⟨bj,-⟩:=HX.o.cell 5;clear aA ap aL q5 aT ae aM;go_wp2
  go_loopw[5,27] (fun vo vi wr=>∃ q:Nat,vi=.int .i64 (q:Int)∧q<=d.length∧Hid (Own wr w.heap.size vo (H++Yw (d.take q)))∧Hid (Below w.heap.size w wr)) (fun _ vi _=>d.length-(intOf vi).toNat)
  case atStart=>exact⟨0,rfl,Nat.zero_le _,by simpa[Yw] using HO,HB⟩
  case round=>
   clear HO HX HB bj;obtain⟨q,rfl,hq,Q,y⟩:=hrel;by_cases p:q<d.length
   case neg=>
    obtain rfl:q=d.length:=by omega
    rw[List.take_length] at Q;go_wp2;go_ret;exact⟨_,rfl,Q.out,y.out⟩
   have bt:(q:Int)<(d.length:Int):=by omega
   rcases aK.o with z | ⟨c,bv,rfl,hc⟩
   ·rw[z] at p;simp at p
   obtain⟨c0,K,I⟩:=(hc q p).keep (y.out.block c (hc q p).lt);have aj:=ZZ (aE.o q p);have ad:=ZZ (aN.o q p)
   have T:Hid ((H++Yw (d.take q)).length<=5000):=ZZ (by
    have m:=aG.o q;have Y:=aC.o;rw[length_append]
    omega)
   obtain⟨e,A⟩:∃ e,e=d.getD q Xi:=⟨_,rfl⟩;rw[<-A] at c0 K I aj ad;clear A hc aE aN aG aK aC;obtain⟨f,g,n⟩:=e;have aR:Hid (ZoG ⟨f,g,n⟩=Lib.uvarint f.toNat++(Lib.uvarint g.toNat++Lib.uvarint (Lib.zigzag n))):=ZZ rfl;rw[aR.o,<-append_assoc] at ad
   have aW:Hid (H++Yw (d.take (q+1))=(((H++Yw (d.take q))++Lib.uvarint f.toNat)++Lib.uvarint g.toNat)++Lib.uvarint (Lib.zigzag n)):=ZZ (by
    rw[ad.o]
    simp only [append_assoc])
   have j:Hid ((0<=f∧f<4611686018427387904)∧(0<=g∧g<4611686018427387904)∧I64 n):=ZZ (by
    obtain⟨m,Y,h3,h4,h5,h6⟩:=aj.o
    dsimp only at m Y h3 h4 h5 h6
    exact⟨⟨m,by omega⟩,⟨h3,h4⟩,⟨by omega,by omega⟩⟩)
   have u1:(Lib.uvarint f.toNat).length<=10:=Gh (by have:=j.o;omega)
   have u2:(Lib.uvarint g.toNat).length<=10:=Gh (by have:=j.o;omega)
   dsimp only at c0 K I
   generalize H++Yw (d.take q)=P at *;have bq:=ZZ (fun b W h=>E.o b P f W h (by have:=T.o;omega) j.o.1.1 j.o.1.2)
   have aZ:=ZZ (fun b W h=>E.o b (P++Lib.uvarint f.toNat) g W h (by have:=T.o;rw[length_append];omega) j.o.2.1.1 j.o.2.1.2)
   have ah:=ZZ (fun b W h=>aH.o b ((P++Lib.uvarint f.toNat)++Lib.uvarint g.toNat) n W h (by have:=T.o;rw[length_append,length_append];omega) j.o.2.2)
   rw[<-aW.o] at ah;clear E aH ad aR aW T u1 u2 j aj;generalize P++Lib.uvarint f.toNat=P1 at *;generalize P1++Lib.uvarint g.toNat=P2 at *;obtain⟨P3,az⟩:∃ P3,P3=H++Yw (d.take (q+1)):=⟨_,rfl⟩;rw[<-az] at ah;have ae:=ZZ az;clear az
   go_upto_region 6 with fail
   obtain⟨u,aa⟩:∃ u,u=wr.alloc (.cells #[.int .i64 f,.int .i64 g,.int .i64 n] 85):=⟨_,rfl⟩;have am:Hid (Below wr.heap.size wr u):=ZZ (by rw[aa];exact(Below.refl _ _).alloc zL _)
   have G:Hid (Be u wr.heap.size #[.int .i64 f,.int .i64 g,.int .i64 n]):=ZZ (by rw[aa];exact heap_alloc_new wr _)
   rw[<-aa];clear aa c0 K I;obtain⟨M,aJ⟩:∃ M,M=wr.heap.size:=⟨_,rfl⟩;rw[<-aJ] at G ⊢;clear aJ;have aU:=ZZ (Q.out.rd.below am.o zL);have aF:=ZZ (y.out.trans (am.o.mono y.out.size));obtain⟨va,vc,a9⟩:∃ a c,u5=.slice a P.length c:=by obtain⟨a,c,h,-⟩:=aU.o;exact⟨a,c,h⟩
   subst a9;obtain⟨x0,-⟩:=G.o.cell 0;obtain⟨x1,-⟩:=G.o.cell 1;clear Q y am
   go_region_held(fun w'=>w'.cell? ⟨M,0,none⟩=some (.int .i64 f)∧w'.cell? ⟨M,1,none⟩=some (.int .i64 g)) (go_keep)
    (first
     | (go_at_call_of 132 (Value.int .i64 f);refine(bq.o _ _ (aU.o.below ((Below.refl _ _).drew) zL)).mono ?_;rintro e W6 ⟨v6,rfl,aq,aX⟩;have ay:Below u.heap.size u W6:=((Below.refl _ _).drew).trans aX;have F:=G.o.below ay zL;have a0:=ZZ F;have aV:=ZZ (aF.o.trans (ay.mono aF.o.size));obtain⟨a6,c6,rfl,-⟩:=aq.rd;have be:=ZZ aq.rd;obtain⟨y0,-⟩:=F.cell 0;obtain⟨y1,-⟩:=F.cell 1;clear aq aX F ay)
     | (go_at_call_of 132 (Value.int .i64 g);refine(aZ.o _ _ be.o).mono ?_;rintro e W7 ⟨v7,rfl,ai,ag⟩;have x:=a0.o.below ag zL;have bw:=ZZ x;have ao:=ZZ (aV.o.trans (ag.mono aV.o.size));obtain⟨a7,c7,rfl,-⟩:=ai.rd;have bb:=ZZ ai.rd;obtain⟨z0,-⟩:=x.cell 0;obtain⟨z1,-⟩:=x.cell 1;obtain⟨z2,-⟩:=x.cell 2;clear ai ag x))
   all_goals
    go_wp2_with fail
    refine(ah.o _ _ bb.o).mono ?_;rintro e W8 ⟨v8,rfl,aP,aD⟩;have bh:=ZZ (ao.o.trans (aD.mono ao.o.size));have bi:=ZZ (aP.mono ao.o.size);clear aP aD;go_wp2;go_roundw
    case rel=>exact⟨q+1,by go_num,by omega,ZZ (by rw[<-ae.o];exact bi.o),bh⟩
    case measure=>simp[intOf];omega
theorem Zvt (B:Value) (a:St) (C:Value) (b:St) (w:World) (O:StV w B a) (N:StV w C b):
 Calls prog 45 #[B,C] w fun e w'=>e=.returned (.bool (decide (Zmw a b)))∧Below w.heap.size w w':=by
 obtain⟨E,rfl,u,-,-⟩:=O;obtain⟨F,rfl,v,-,-⟩:=N;obtain⟨n,t,k,q⟩:=a;obtain⟨l,z,j,p⟩:=b;simp only at u v ⊢;have P:Hid (∀ W,Below w.heap.size w W->Calls prog 89 #[E,F] W fun e w'=>e=.returned (.bool (decide (t=z)))∧Below W.heap.size W w'):=fun W h=>Zsn E t F z W (u.below h zL) (v.below h zL)
 have f:Hid (∀ x y,Below w.heap.size w ((w.alloc x).alloc y)):=fun x y=>((Below.refl _ _).alloc zL x).alloc (by simp) y
 obtain⟨R,A⟩:∃ R,R=decide (Zmw ⟨n,t,k,q⟩ ⟨l,z,j,p⟩):=⟨_,rfl⟩;rw[<-A];have m:=Qc A;clear A u v;by_cases g:n=l
 ·have I:(n == l)=true:=beq_iff_eq.2 g
  have K:=Qc g;clear g;by_cases c:k=j
  ·have L:(k == j)=true:=beq_iff_eq.2 c
   have G:=Qc c;clear c;by_cases d:q=p
   ·have H:(q == p)=true:=beq_iff_eq.2 d
    have M:=Qc d;clear d
    go_enter func45,ntmps45
    go_wp2_with fail
    refine(P.o _ (f.o _ _)).mono ?_;rintro e Q ⟨rfl,D⟩;have J:=Qc ((f.o _ _).trans (D.mono (f.o _ _).size));clear D;go_wp2;go_ret;refine⟨Y6 ?_,J.o⟩;rw[m.o];exact decide_eq_decide.2 ⟨fun h=>⟨K.o,G.o,M.o,h⟩,fun h=>h.2.2.2⟩
   ·have H:(q == p)=false:=beq_eq_false_iff_ne.2 d
    have i:Hid (R=false):=m.o.trans (decide_eq_false fun h=>d h.2.2.1)
    clear d
    go_enter func45,ntmps45
    go_wp2;go_ret;exact⟨Y6 i.o.symm,f.o _ _⟩
  ·have L:(k == j)=false:=beq_eq_false_iff_ne.2 c
   have i:Hid (R=false):=m.o.trans (decide_eq_false fun h=>c h.2.1)
   clear c
   go_enter func45,ntmps45
   go_wp2;go_ret;exact⟨Y6 i.o.symm,f.o _ _⟩
 ·have I:(n == l)=false:=beq_eq_false_iff_ne.2 g
  have i:Hid (R=false):=m.o.trans (decide_eq_false fun h=>g h.1)
  clear g
  go_enter func45,ntmps45
  go_wp2;go_ret;exact⟨Y6 i.o.symm,f.o _ _⟩
end Go.Proofs.YtnahjngbneicaaaGreatDoor
