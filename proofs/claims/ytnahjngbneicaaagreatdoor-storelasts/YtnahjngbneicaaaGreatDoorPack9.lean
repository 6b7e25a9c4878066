import Derived.Test.YtnahjngbneicaaaGreatDoorPack8
import Derived.Deep.WholeRow
namespace Go.Proofs.YtnahjngbneicaaaGreatDoor
open _root_.Go.Proofs.Tryz
open List (append_assoc length_append length_singleton nil_append take_add_one take_of_length_le)
set_option maxHeartbeats 40000000
set_option maxRecDepth 100000
open Go.RowKit
variable {w w':World} {B N N' T T' b p pd:Nat} {L:List (List UInt8)} {s s':Sto} {K:Nat->Prop} {d:Dk} {v x y z:Value} {l:List UInt8} {xs:List Value}
abbrev zbz:=@List.take_append_drop
abbrev zdj:=@Array.getElem?_eq_none
abbrev zdl:=@List.setIfInBounds_toArray
abbrev ze5:=@List.flatten_append
abbrev zgp:=@Go.zero_of_info
abbrev zgs:=@Go.heap_alloc_last
structure Stp where
 g:Nat
 bd:Array Value
 cp:Array Value
def Stp.val (s:Stp):Value:=.func (.func s.g) s.bd s.cp
theorem Znx (b G cap:Nat) (n:Nat) (fs:Nat->Stp) (w:World) (P:Nat->World->Prop) (Q:Int->World->Prop) (N:n<=1000000)
 (v:∀ i W,i<n->P i W->W.cell? ⟨b,G+i,none⟩=some (fs i).val)
 (y:∀ i W,i<n->P i W->Calls prog (fs i).g ((fs i).bd++(fs i).cp) W fun e w'=>∃ c:Int,e=.returned (.int .i64 c)∧(c=0->P (i+1) w')∧(c≠0->Q c w'))
 (A:∀ i,i<n->∀ args W,(callFunc (fs i).g args).run prog W=.ok (.enter (fs i).g args) W) (C:P 0 w):
 Calls prog 62 #[.slice (some ⟨b,G,none⟩) n cap] w fun e w'=>∃ c:Int,e=.returned (.int .i64 c)∧(c=0->P n w')∧(c≠0->Q c w'):=by
 have z:=ZZ v;have E:=ZZ y;have u:=ZZ A;have R:(n:Int)<=1000000:=by omega
 clear v y A;have B:=ZZ C;clear C
 go_enter func62,ntmps62
 go_wp2
 go_loopw[8] (fun p wr=>∃ i:Nat,p=.int .i64 (i:Int)∧i<=n∧Hid (P i wr)) (fun p _=>n-(intOf p).toNat)
 case atStart=>exact⟨0,rfl,zai _,B⟩
 case round=>
  clear B;obtain⟨i,rfl,L,j⟩:=hrel;by_cases m:i<n
  case neg=>
   obtain rfl:i=n:=by omega
   go_wp2;go_ret;exact⟨0,rfl,fun _=>j.o,fun h=>absurd rfl h⟩
  have d:=z.o i wr m j.o;have f:=ZZ (E.o i wr m j.o);have q:=u.o i m;unfold Stp.val at d;obtain⟨g,l⟩:=zgy ((fs i).g);obtain⟨D,x⟩:=zgy ((fs i).bd);obtain⟨H,F⟩:=zgy ((fs i).cp);rw[<-l,<-x,<-F] at d f;rw[<-l] at q;have O:(i:Int)<(n:Int):=by omega
  clear j l x F z E u
  go_wp2_with fail
  refine f.o.mono ?_;rintro e S ⟨c,rfl,k,t⟩;by_cases a:c=0
  ·subst a
   have I:=ZZ (k rfl);clear k t d q f;go_wp2;go_roundw
   case rel=>exact⟨i+1,by go_num,by omega,I⟩
   case measure=>simp[intOf];omega
  ·have K:=ZZ (t a)
   have M:(c != 0)=true:=by rw[zbf];exact a
   have J:=ZZ a;clear k t d q f a;go_wp2;go_ret;exact⟨c,rfl,fun h=>absurd h J.o,fun _=>K.o⟩
theorem Jq.setHead {M I:Nat->Prop} {L:ZdU} (h:Jq M I w p pd L s) (j:Nat) (x:Value) (i:s'.log=s.log) (A:s'.bases=s.bases) (q:s'.now=s.now) (D:(stC pd L s).setIfInBounds j x=stC pd L s'):
 Jq M I (w.setCell ⟨p,j,none⟩ x) p pd L s':=by
 have b:∀ k,k≠p->(w.setCell ⟨p,j,none⟩ x).heap[k]?=w.heap[k]?:=fun k b=>zal _ _ _ _ b
 have c:∀ {t:TypeId} {n sz g:Nat} {v:Value} {xs:List Value},w.ownsRow 0 t sz v n xs->v.ownBlock=some g->t≠76->g≠p:=fun B a z=>by
  obtain⟨E,C⟩:=X0 B a;exact C.ne h.head z
 have m:∀ k,I k->(w.setCell ⟨p,j,none⟩ x).heap[k]?=w.heap[k]?:=fun k u=>b k fun e=>h.dis p h.mh (by rw[<-e];exact u)
 have l:L.nx s'=L.nx s:=by unfold ZdU.nx;rw[q]
 refine⟨by rw[<-D];exact h.head.set j x,?_,?_,Qh h.bases fun g a=>b g (c h.bases a (by decide)),by rw[A];exact h.bsEq,by rw[l];exact h.now.keep h.inow m,fun y f=>(h.base y f).keep (h.ibase y f) m,h.mh,h.mr,h.mp,h.mb,by rw[l];exact h.inow,h.ibase,fun k d=>by simpa using h.ltM k d,fun k d=>by simpa using h.ltI k d,h.dis⟩
 ·rw[i]
  exact Qh h.recs fun g a=>b g (c h.recs a (by decide))
 ·rw[i]
  exact Qh h.pcs fun g a=>b g (c h.pcs a (by decide))
theorem SD.setHead (h:SD K w pd p s d N T) (t:∀ k,K k->k<w.heap.size) (j:Nat) (x:Value) (q:s'.log=s.log) (f:s'.bases=s.bases) (e:s'.now=s.now) (n:∀ L,(stC pd L s).setIfInBounds j x=stC pd L s'):
 SD K (w.setCell ⟨p,j,none⟩ x) pd p s' d N T∧Ql (fun k=>¬ K k) w (w.setCell ⟨p,j,none⟩ x):=by
 obtain⟨F,M,I,L,u,b,c,m,i,g,l⟩:=h;exact SD.own t u c m i g l ((Ql.refl M w).setCell j (fun _=>b.mh) x) (b.setHead j x q f e (n L)) (fun _ a=>.inl a) (fun _ a=>.inl a)
theorem SD.cells (h:SD K w pd p s d N T):
 (w.cell? ⟨p,0,none⟩=some (ptr pd)∧w.cell? ⟨p,11,none⟩=some (.int .i64 s.synced)∧w.cell? ⟨p,12,none⟩=some (.int .i64 s.cur)∧w.cell? ⟨p,13,none⟩=some (.bool s.nw))∧∀ j,w.frozen? ⟨p,j,none⟩=false:=by
 obtain⟨F,M,I,L,g,a,-⟩:=h;obtain⟨b,-,-,-,-,-,c,e,f⟩:=a.cs;exact⟨⟨b,c,e,f⟩,a.fz⟩
theorem ZcM (w:World) (h:SD K w pd p s d N T) (j:∀ k,K k->k<w.heap.size):
 Calls prog 64 #[ptr p] w fun e w'=>Jz K w pd p (Qq (s,d)) (N+2) T e w':=by
 unfold Qq;obtain⟨⟨d',c⟩,f⟩:=zgy (Qn d)
 have m:=ZZ (h.disk (d':=d') (c:=c) (N':=N+2) (T':=T) j (fun F y _=>by
  have:=Zpb w y;rw[<-f] at this
  exact this))
 obtain⟨⟨u,-⟩,-⟩:=h.cells
 dsimp only
 rw[<-f]
 dsimp only
 have z:=ZZ j;obtain⟨R,l⟩:∃ R:SDk × Int,R=((if c=0 then { s with nw:=false } else s,d'),c):=⟨_,rfl⟩
 rw[<-l];have a:=ZZ l;clear h f j l
 go_enter func64,ntmps64
 go_wp2_with fail
 refine m.o.mono ?_;rintro e A ⟨rfl,g,i⟩;have n:=ZZ g;have t:=ZZ i;have v:Hid (∀ k,K k->k<A.heap.size):=ZZ (fun k x=>zav (z.o k x) i.size)
 obtain⟨⟨-,-,-,D⟩,fz⟩:=g.cells;have B:=fz 13;clear g i m u fz;by_cases b:c=0
 ·subst b
  rw[zab rfl] at a;have q:=ZZ (n.o.setHead (s':={ s with nw:=false }) v.o 13 (.bool false) rfl rfl rfl (fun _=>rfl))
  go_wp2;go_ret;rw[a.o];exact⟨rfl,q.o.1,t.o.trans q.o.2 (fun _ _ h=>h)⟩
 ·rw[zaa b] at a
  have C:(c == 0)=false:=zad.2 b;clear b;go_wp2;go_ret;rw[a.o];exact⟨rfl,n.o,t.o⟩
theorem ZlM (w:World) (h:SD K w pd p s d N T) (l:∀ k,K k->k<w.heap.size):
 Calls prog 66 #[ptr p] w fun e w'=>Jz K w pd p (Qx (s,d)) (N+2) T e w':=by
 unfold Qx;have a:=ZZ (ZcM w h l);obtain⟨⟨-,-,-,i⟩,-⟩:=h.cells;have g:=ZZ h
 dsimp only
 cases hb:s.nw with
 | false=>
  rw[hb] at i;rw[zaa (by simp)]
  clear h hb a
  go_enter func66,ntmps66
  go_wp2;go_ret;exact⟨rfl,g.o.mono (by omega) zL,Ql.refl _ _⟩
 | true=>
  rw[hb] at i;rw[zab rfl];obtain⟨r,f⟩:=zgy (Qq (s,d));rw[<-f] at a ⊢;clear h hb g f
  go_enter func66,ntmps66
  go_wp2_with fail
  refine a.o.mono ?_;rintro e m ⟨rfl,b,c⟩;have j:=ZZ (And.intro b c);clear b c a;go_wp2;go_ret;exact⟨rfl,j.o⟩
theorem Jz.from {K2:Nat->Prop} {W:World} {r:SDk × Int} {e:Ending} (h:Jz K2 W pd p r N T e w') (a:∀ k,K k->K2 k) (g:Ql (fun k=>¬ K k) w W) (c:N<=N') (d:T<=T'):Jz K w pd p r N' T' e w':=
 ⟨h.1,(h.2.1.less a).mono c d,g.trans (h.2.2.mono (fun k b f=>b (a k f))) (fun _ _ h=>h)⟩
theorem SD.step {f:Nat} {args:Array Value} (g:Dk->Dk × Int) (h:SD K w pd p s d N T) (b:∀ k,K k->k<w.heap.size)
 (a:∀ F,Dsk F w pd d N T->(∀ k,F k->¬ K k)->Calls prog f args w fun e w'=>Zgk F w pd (g d).1 (g d).2 N' T' e w'):Calls prog f args w fun e w'=>Jz K w pd p (Xm g (s,d)) N' T' e w':=
 h.disk b a
theorem Zny {R:Nat} (w:World) (h:SD K w pd p s d N T) (l:∀ k,K k->k<w.heap.size) (x:w.cell? ⟨R,0,none⟩=some (ptr p)) (j:I64 s.cur):
 Calls prog 65 #[.pointer (some ⟨R,0,none⟩)] w fun e w'=>Jz K w pd p (Q1 (s,d)) (N+2) T e w':=by
 have b:=ZZ ((h.below (zac _ _).drew).step (fun d=>X3 d s.cur) l (fun F m _=>ZqM s.cur j _ m))
 obtain⟨⟨q,-,t,-⟩,-⟩:=h.cells;have n:Hid (Ql (fun k=>¬ K k) w w.drew):=ZZ (Ql.ofBelow (zac _ _).drew)
 obtain⟨r,a⟩:=zgy (Q1 (s,d));have g:Xm (fun d=>X3 d s.cur) (s,d)=r:=a.symm
 rw[g] at b;rw[<-a];generalize s.cur=u at *;clear h l j g a
 go_enter func65,ntmps65
 go_upto_region 1 with fail
 go_region_with(first | (go_at_call 59;refine b.o.mono ?_;rintro e v ⟨rfl,c,i⟩;have f:=ZZ (And.intro c i);clear c i))
 all_goals
  go_wp2;go_ret;exact⟨rfl,f.o.1,n.o.trans f.o.2 (fun _ _ h=>h)⟩
theorem ZlN (x:SDk):(Qv [Q1,Qx] x).1.1=x.1∨(Qv [Q1,Qx] x).1.1={ x.1 with nw:=false }:=by
 unfold Qv Qv;split
 ·split
  ·unfold Qv Qx Qq
   split
   ·dsimp only
    split
    ·exact .inr rfl
    ·exact .inl rfl
   ·exact .inl rfl
  ·unfold Qx Qq
   split
   ·dsimp only
    split
    ·exact .inr rfl
    ·exact .inl rfl
   ·exact .inl rfl
 ·exact .inl rfl
theorem ZpE.nw (h:ZpE s) (b:Bool):ZpE { s with nw:=b }:=⟨h.f0,h.f1,h.sy,h.cu⟩
theorem SD.synced (h:SD K w pd p s d N T) (a:∀ k,K k->k<w.heap.size):
 SD K (w.setCell ⟨p,11,none⟩ (.int .i64 s.next)) pd p (Ye s) d N T∧Ql (fun k=>¬ K k) w (w.setCell ⟨p,11,none⟩ (.int .i64 s.next)):=
 h.setHead a 11 _ rfl rfl rfl (fun _=>rfl)
theorem SD.next (h:SD K w pd p s d N T) (a:ZpE s):
 Calls prog 14 #[ptr p] w fun e w'=>e=.returned (.int .i64 s.next)∧Below w.heap.size w w':=by
 obtain⟨F,M,I,L,c,b,-⟩:=h;exact Zit w b a
theorem ZeO (w:World) (h:SD K w pd p s d N T) (hK:∀ k,K k->k<w.heap.size) (n:ZpE s):
 Calls prog 27 #[ptr p] w fun e w'=>Jz K w pd p (Q5 (s,d)) (N+4) T e w':=by
 obtain⟨a,A⟩:=zgy (w.alloc (.cells #[ptr p] 28));have V:Hid (Below w.heap.size w a):=ZZ (by rw[A];exact Jw _ _)
 have HX:Hid (Bk 28 a w.heap.size #[ptr p]):=ZZ (by rw[A];exact zaf w _)
 obtain⟨t,H⟩:∃ t:Nat->Prop,t=fun k=>K k∨(w.heap.size<=k∧k<a.heap.size):=⟨_,rfl⟩
 have B:Hid (SD t a pd p s d N T):=ZZ (by rw[H];exact h.fresh V.o)
 have aj:Hid (∀ k,t k->k<a.heap.size):=ZZ (by
  rw[H];intro k hk;rcases hk with hk | hk
  ·exact zav (hK k hk) V.o.size
  ·exact hk.2)
 have ap:Hid (∀ k,K k->t k):=ZZ (by rw[H];exact fun k hk=>.inl hk)
 have av:Hid (t w.heap.size):=ZZ (by rw[H];exact .inr ⟨zat _,HX.o.lt⟩)
 have ak:Hid (Ql (fun k=>¬ K k) w a):=ZZ (Ql.ofBelow V.o)
 have P:Hid (∀ W,Ql (fun k=>¬ t k) a W->W.cell? ⟨w.heap.size,0,none⟩=some (ptr p)):=ZZ (fun W ho=>((HX.o.keep (ho.block _ HX.o.lt (fun n=>n av.o))).cell 0 rfl).1)
 have U:=ZZ n;have r0:=P.o a (Ql.refl _ _);obtain⟨⟨-,-,au,-⟩,-⟩:=B.o.cells;obtain⟨v,Z⟩:=zgy (Q5 (s,d));have E:=ZZ Z;rw[<-Z];clear h hK H Z;by_cases q:s.cur=0
 ·have az:(s.cur != 0)=false:=by rw[q];rfl
  have x:Hid (v=((Ye s,d),0)):=ZZ (by rw[E.o];unfold Q5;rw[zab q])
  have ac:Hid (∀ W,Below a.heap.size a W->Calls prog 14 #[ptr p] W fun e w'=>e=.returned (.int .i64 s.next)∧Below a.heap.size a w'):=ZZ (fun W f=>((B.o.below f).next U.o).mono (by
   rintro e w' ⟨rfl,D⟩
   exact⟨rfl,f.trans (D.mono f.size)⟩))
  have Q:Hid (∀ W,Below a.heap.size a W->W.cell? ⟨w.heap.size,0,none⟩=some (ptr p)∧W.cell? ⟨p,11,none⟩=some (.int .i64 s.synced)∧W.frozen? ⟨p,11,none⟩=false):=ZZ (fun W f=>by
   obtain⟨⟨-,X,-⟩,fz⟩:=(B.o.below f).cells
   exact⟨P.o W (Ql.ofBelow f),X,fz 11⟩)
  have ae:Hid (Below a.heap.size a a.drew):=ZZ (zac _ _).drew
  have G:Hid (∀ W,Below a.heap.size a W->Jz K w pd p v (N+4) T (.returned (.int .i64 0)) (W.setCell ⟨p,11,none⟩ (.int .i64 s.next))):=ZZ (fun W f=>by
   rw[x.o];have m:=(B.o.below f).synced (fun k hk=>zav (aj.o k hk) f.size)
   exact Jz.from (K2:=t) (W:=W) ⟨rfl,m.1,m.2⟩ ap.o (ak.o.trans (Ql.ofBelow (F:=fun _=>False) f) (fun _ _ h=>h.elim)) (by omega) zL)
  generalize s.next=nx at *;generalize s.cur=cu at *;clear q x E n
  go_enter func27,ntmps27
  go_upto_region 1 with fail
  rw[<-A];clear A
  go_upto_region 6 with fail
  go_region_with(first | (go_at_call 14;refine(ac.o _ (by first | exact ae.o | exact zac _ _)).mono ?_;rintro e g ⟨rfl,ag⟩;have y:=ZZ ag;obtain⟨q0,aF,qf⟩:=Q.o g ag;clear ag))
  all_goals
   go_wp2;go_ret;exact G.o _ y.o
 ·have az:(s.cur != 0)=true:=by rw[zbf];exact q
  obtain⟨b,z⟩:=zgy (Qv [Q1,Qx] (s,d));have x:Hid (v=if b.2=0 then((Ye b.1.1,b.1.2),0) else b):=ZZ (by rw[E.o,z];unfold Q5;rw[zaa q])
  have aw:Hid (ZpE b.1.1):=ZZ (by
   rcases ZlN (s,d) with hh | hh
   ·rw[z,hh];exact U.o
   ·rw[z,hh];exact U.o.nw false)
  obtain⟨g,S⟩:=zgy (a.alloc (.cells #[.func (.func 65) #[] #[.pointer (some ⟨w.heap.size,0,none⟩)],.func (.func 66) #[ptr p] #[]] 153));have y:Hid (Below a.heap.size a g):=ZZ (by rw[S];exact Jw _ _)
  have HY:Hid (Bk 153 g a.heap.size #[.func (.func 65) #[] #[.pointer (some ⟨w.heap.size,0,none⟩)],.func (.func 66) #[ptr p] #[]]):=ZZ (by rw[S];exact zaf a _)
  obtain⟨K2,J⟩:∃ K2:Nat->Prop,K2=fun k=>t k∨(a.heap.size<=k∧k<g.heap.size):=⟨_,rfl⟩
  have aA:Hid (SD K2 g pd p s d N T):=ZZ (by rw[J];exact B.o.fresh y.o)
  have aq:Hid (∀ k,K2 k->k<g.heap.size):=ZZ (by
   rw[J];intro k hk;rcases hk with hk | hk
   ·exact zav (aj.o k hk) y.o.size
   ·exact hk.2)
  have ad:Hid (∀ k,t k->K2 k):=ZZ (by rw[J];exact fun k hk=>.inl hk)
  have ax:Hid (K2 a.heap.size):=ZZ (by rw[J];exact .inr ⟨zat _,HY.o.lt⟩)
  have aB:Hid (Calls prog 62 #[.slice (some ⟨a.heap.size,0,none⟩) 2 2] g fun e w'=>∃ c:Int,e=.returned (.int .i64 c)∧(c=0->SD K2 w' pd p b.1.1 b.1.2 (N+4) T∧b.2=0∧Ql (fun k=>¬ K2 k) g w')∧(c≠0->SD K2 w' pd p b.1.1 b.1.2 (N+4) T∧b.2=c∧Ql (fun k=>¬ K2 k) g w')):=ZZ (by
   have hs:=Znx a.heap.size 0 2 2 (fun i=>if i=0 then⟨65,#[],#[.pointer (some ⟨w.heap.size,0,none⟩)]⟩ else⟨66,#[ptr p],#[]⟩) g
    (fun i W=>Ql (fun k=>¬ K2 k) g W∧(i=0->SD K2 W pd p s d N T)∧(i=1->(Q1 (s,d)).2=0∧SD K2 W pd p (Q1 (s,d)).1.1 (Q1 (s,d)).1.2 (N+2) T)∧(i=2->b.2=0∧SD K2 W pd p b.1.1 b.1.2 (N+4) T))
    (fun c W=>SD K2 W pd p b.1.1 b.1.2 (N+4) T∧b.2=c∧Ql (fun k=>¬ K2 k) g W) (by decide)
    (fun i W L u=>by
     have D:=HY.o.keep (u.1.block _ HY.o.lt (fun n=>n ax.o))
     match i,L with
     | 0,_=>exact(D.cell 0 rfl).1
     | 1,_=>exact(D.cell 1 rfl).1)
    (fun i W L u=>by
     have an:∀ k,K2 k->k<W.heap.size:=fun k hk=>zav (aq.o k hk) u.1.size
     match i,L with
     | 0,_=>
      refine(Zny (R:=w.heap.size) W (u.2.1 rfl) an (P.o W ((Ql.ofBelow y.o).trans (u.1.mono (fun k hk n=>hk (ad.o k n))) (fun _ _ h=>h))) U.o.cu).mono ?_
      rintro e w' ⟨rfl,m,M⟩;refine⟨_,rfl,fun j=>⟨u.1.trans M (fun _ _ h=>h),fun h=>absurd h (by decide),fun _=>⟨j,m⟩,fun h=>absurd h (by decide)⟩,fun j=>?_⟩
      have I:b=Q1 (s,d):=by rw[z];unfold Qv;rw[zaa j]
      rw[I];exact⟨m.mono (by omega) zL,rfl,u.1.trans M (fun _ _ h=>h)⟩
     | 1,_=>
      obtain⟨ar,aC⟩:=u.2.2.1 rfl;refine(ZlM W aC an).mono ?_;rintro e w' ⟨rfl,m,M⟩;have e2:Qx ((Q1 (s,d)).1.1,(Q1 (s,d)).1.2)=Qx (Q1 (s,d)).1:=rfl;rw[e2] at m ⊢
      have I:(Qx (Q1 (s,d)).1).1=b.1∧(Qx (Q1 (s,d)).1).2=b.2:=by
       rw[z];unfold Qv;rw[zab ar];unfold Qv;split
       ·rename_i j
        exact⟨rfl,j⟩
       ·exact⟨rfl,rfl⟩
      rw[I.1] at m
      exact⟨_,rfl,fun j=>⟨u.1.trans M (fun _ _ h=>h),fun h=>absurd h (by decide),fun h=>absurd h (by decide),fun _=>⟨by rw[<-I.2];exact j,m⟩⟩,fun j=>⟨m,I.2.symm,u.1.trans M (fun _ _ h=>h)⟩⟩)
    (fun i L=>by
     match i,L with
     | 0,_=>exact enters_of func65 (by kernel_rfl) rfl
     | 1,_=>exact enters_of func66 (by kernel_rfl) rfl)
    ⟨Ql.refl _ _,fun _=>aA.o,fun h=>absurd h (by decide),fun h=>absurd h (by decide)⟩
   refine hs.mono ?_;rintro e w' ⟨c,rfl,g1,g2⟩;refine⟨c,rfl,fun j=>?_,g2⟩
   obtain⟨h1,-,-,h4⟩:=g1 j
   exact⟨(h4 rfl).2,(h4 rfl).1,h1⟩)
  have al:Hid (Ql (fun k=>¬ K k) w g):=ZZ (ak.o.trans (Ql.ofBelow (F:=fun _=>False) y.o) (fun _ _ h=>h.elim))
  have ai:Hid (∀ k,K k->K2 k):=ZZ (fun k hk=>ad.o k (ap.o k hk))
  have aE:Hid (∀ W,Ql (fun k=>¬ K2 k) g W->W.cell? ⟨w.heap.size,0,none⟩=some (ptr p)):=ZZ (fun W ho=>P.o W ((Ql.ofBelow y.o).trans (ho.mono (fun k hk n=>hk (ad.o k n))) (fun _ _ h=>h)))
  have ao:=ZZ S;have aI:=B;generalize s.cur=cu at *;clear q z J n S
  go_enter func27,ntmps27
  go_upto_region 1 with fail
  rw[<-A];clear A
  go_wp2_with(go_at_call 62;rw[<-ao.o];refine aB.o.mono ?_)
  rintro e l ⟨c,rfl,Y,ab⟩;clear ao r0 au;by_cases q:c=0
  ·subst q
   obtain⟨O,j,C⟩:=Y rfl;have aG:Hid (v=((Ye b.1.1,b.1.2),0)):=ZZ (by rw[x.o,zab j])
   have ay:Hid (∀ k,K2 k->k<l.heap.size):=ZZ (fun k hk=>zav (aq.o k hk) C.size)
   have af:=ZZ O;have am:=ZZ C
   have ac:Hid (∀ W,Below l.heap.size l W->Calls prog 14 #[ptr p] W fun e w'=>e=.returned (.int .i64 b.1.1.next)∧Below l.heap.size l w'):=ZZ (fun W f=>((af.o.below f).next aw.o).mono (by
    rintro e w' ⟨rfl,D⟩
    exact⟨rfl,f.trans (D.mono f.size)⟩))
   have Q:Hid (∀ W,Below l.heap.size l W->W.cell? ⟨w.heap.size,0,none⟩=some (ptr p)∧W.cell? ⟨p,11,none⟩=some (.int .i64 b.1.1.synced)∧W.frozen? ⟨p,11,none⟩=false):=ZZ (fun W f=>by
    obtain⟨⟨-,X,-⟩,fz⟩:=(af.o.below f).cells
    exact⟨aE.o W (am.o.trans (Ql.ofBelow (F:=fun _=>False) f) (fun _ _ h=>h.elim)),X,fz 11⟩)
   have ae:Hid (Below l.heap.size l l.drew):=ZZ (zac _ _).drew
   have G:Hid (∀ W,Below l.heap.size l W->Jz K w pd p v (N+4) T (.returned (.int .i64 0)) (W.setCell ⟨p,11,none⟩ (.int .i64 b.1.1.next))):=ZZ (fun W f=>by
    rw[aG.o];have m:=(af.o.below f).synced (fun k hk=>zav (ay.o k hk) f.size)
    exact Jz.from (K2:=K2) (W:=W) ⟨rfl,m.1,m.2⟩ ai.o ((al.o.trans (am.o.mono (fun k hk n=>hk (ai.o k n))) (fun _ _ h=>h)).trans (Ql.ofBelow (F:=fun _=>False) f) (fun _ _ h=>h.elim)) (by omega) zL)
   obtain⟨q0,aF,qf⟩:=Q.o l (zac _ _);generalize b.1.1.next=nx at *;generalize b.1.1.synced=sy at *;clear Y ab O j C x E
   go_upto_region 6 with fail
   go_region_with(first | (go_at_call 14;refine(ac.o _ (by first | exact ae.o | exact zac _ _)).mono ?_;rintro e W3 ⟨rfl,aa⟩;have aD:=ZZ aa;obtain⟨x0,aJ,xf⟩:=Q.o W3 aa;clear aa))
   all_goals
    go_wp2;go_ret;exact G.o _ aD.o
  ·obtain⟨O,j,C⟩:=ab q
   have G:Hid (Jz K w pd p v (N+4) T (.returned (.int .i64 c)) l):=ZZ (by
    rw[x.o,zaa (by rw[j];exact q)]
    exact Jz.from (K2:=K2) (W:=g) ⟨by rw[j],O,C⟩ ai.o al.o zL zL)
   have aH:(c != 0)=true:=by rw[zbf];exact q
   clear Y ab O j C x E q;go_wp2;go_ret;exact G.o
theorem Own.empty {X:Obj} {cur:Array Value} (a:w.heap.size=N) (d:X=.cells cur 5 (0,0)) (b:B<=N) (cap:Nat) (c:cap<=maxLen) (f:cur.size=cap):Own (w.alloc X) B (.slice (some ⟨N,0,none⟩) 0 cap) []:=by
 subst a d;have h:=World.ownsRow_made (e:=5) (size:=1) (base:=B) w cur cap b c (by omega)
 exact h
theorem ZqV (n:Nat) (w:World) (q:n<=1000000):
 Calls prog 182 #[.slice none 0 0,.int .i64 (n:Int)] w fun e w'=>∃ v',e=.returned v'∧Own w' w.heap.size v' []∧Below w.heap.size w w':=by
 obtain⟨c,i,g,m,d⟩:=zbo Zlf;by_cases j:n=0
 ·subst j
  go_enter func182,ntmps182
  go_wp2;go_ret;exact⟨_,rfl,Own.nil _ _,zac _ _⟩
 ·have k:∀ ty,(Builtin.append_ #[53,3] ty #[.slice none 0 0,.int .i64 (n:Int)]).run prog w =
   .ok (.slice (some ⟨w.heap.size,0,none⟩) n (grownCap w n 0 5)) (w.drew.alloc (.cells (#[]++Builtin.zeroCells #[.int .u8 0] n++Builtin.zeroCells #[.int .u8 0] (grownCap w n 0 5-n)) 5)):=fun ty=>by
   have h:=zgj (P:=prog) w 53 3 ty 5 c (.int .u8 0) .i64 .i64 underlying53 underlying3 i g none 0 0 [] (run_firstCells_none w.drew c.size 0 0 0) n (by omega) (by omega) (by omega) (by omega) (by rw[d];omega)
    (by rw[za5];exact growslice_fits (by omega) (by rw[d];omega))
   rw[za5] at h;exact h
  have u:n<=grownCap w n 0 5:=zf7 w _ _ _;have a:=zen w n 0 5 (by unfold maxLen;omega)
  generalize grownCap w n 0 5=G at *
  have t:G<=9223372036854775807:=by
   unfold maxLen at a;omega
  have b:(#[]++Builtin.zeroCells #[Value.int .u8 0] n++Builtin.zeroCells #[Value.int .u8 0] (G-n)).size=G:=by
   simp[Builtin.zeroCells];omega
  generalize (#[]++Builtin.zeroCells #[Value.int .u8 0] n++Builtin.zeroCells #[Value.int .u8 0] (G-n))=Z at *;have p:(0:Int)<(n:Int):=by omega
  have l:Hid (Own (w.drew.alloc (.cells Z 5)) w.heap.size (.slice (some ⟨w.heap.size,0,none⟩) 0 G) []):=ZZ (Own.empty rfl rfl zL G a b);have f:Hid (Below w.heap.size w (w.drew.alloc (.cells Z 5))):=ZZ (((zac _ _).drew).alloc zL _);clear b a
  go_enter func182,ntmps182
  go_wp2_with(at_builtin;refine Lib.wpList_append_run _ rfl _ _ _ _ rfl _ _ rfl rfl _ _ (k _) ?_)
  all_goals (go_ret;exact⟨_,rfl,l.o,f.o⟩)
theorem Znz (L:List (List UInt8)) (k:Nat) (a:k<L.length):(L.take (k+1)).flatten=(L.take k).flatten++L.getD k []:=by
 have e:L.take (k+1)=L.take k++[L.getD k []]:=by
  rw[take_add_one];simp[List.getD,a]
 rw[e,ze5];simp
theorem ZyS (L:List (List UInt8)) (k:Nat):((L.take k).flatten).length<=L.flatten.length:=by
 have e:L.flatten=(L.take k).flatten++(L.drop k).flatten:=by rw[<-ze5,zbz]
 rw[e,length_append];omega
def ZlO (L:List (List UInt8)) (k:Nat):Nat:=(L.take k).flatten.length
def Zvh (L:List (List UInt8)) (k:Nat):List UInt8:=(L.take k).flatten
theorem ZnA (L:List (List UInt8)) (k:Nat) (a:k<L.length):Zvh L (k+1)=Zvh L k++L.getD k []:=Znz L k a
theorem ZnB (L:List (List UInt8)) (k:Nat) (a:k<L.length):(ZlO L (k+1):Int)=(ZlO L k:Int)+((L.getD k []).length:Int):=by
 unfold ZlO;rw[Znz L k a,length_append];omega
theorem Zvi (L:List (List UInt8)) (k:Nat):ZlO L k<=L.flatten.length:=ZyS L k
theorem ZqW (L:List (List UInt8)) (k:Nat):(Zvh L k).length=ZlO L k:=rfl
theorem ZqX (L:List (List UInt8)) (k:Nat) (a:L.length<=k):Zvh L k=L.flatten:=by
 unfold Zvh;rw[take_of_length_le a]
theorem Zdi (v:Value) (L:List (List UInt8)) (w:World) (C:RdL w v L) (B:L.flatten.length<=1000000) (hn:L.length<=1000):
 Calls prog 131 #[v] w fun e w'=>∃ v',e=.returned v'∧Own w' w.heap.size v' L.flatten∧Below w.heap.size w w':=by
 have S:=ZZ (fun n W h=>ZqV n W h)
 have ai:=ZZ C;have l:Hid (∀ k,ZlO L k<=1000000):=fun k=>zas (Zvi L k) B
 have M:=ZZ (ZnB L);have ac:=ZZ (ZnA L);have z:=ZZ (ZqX L);have ab:=ZZ (ZqW L);obtain⟨F,q⟩:=zgy L.flatten;rw[<-q];rw[<-q] at z;obtain⟨ao,cap,rfl,-,-,-,O⟩:=C;have N:=ZZ O;clear O q B
 go_enter func131,ntmps131
 go_wp2
 go_loopw[3,11] (fun vs a wr=>∃ (k:Nat),vs=.int .i64 (ZlO L k:Int)∧a=.int .i64 (k:Int)∧k<=L.length∧wr=w) (fun _ a _=>L.length-(intOf a).toNat)
 case atStart=>exact⟨0,rfl,rfl,zai _,rfl⟩
 case round=>
  obtain⟨k,rfl,rfl,Z,E⟩:=hrel;have T:=E.symm;subst T;clear E;by_cases f:k<L.length
  ·rcases N.o with p | ⟨c,af,rfl,g⟩
   ·rw[p] at f;simp at f
   obtain⟨x,hx,i⟩:=g k f;have J:=l.o (k+1);have y:=M.o k f;obtain⟨ax,V,rfl,-⟩:=i;have h3:¬ ((ZlO L k:Int)+((L.getD k []).length:Int)<0):=by omega
   have h4:(ZlO L k:Int)+((L.getD k []).length:Int)<=1000000:=by omega
   have H2:=ZZ y;clear g J y;generalize ZlO L k=A at *;generalize (L.getD k []).length=D at *;go_wp2;go_roundw
   case rel=>exact⟨k+1,by rw[H2.o],by go_num,by omega,trivial⟩
   case measure=>simp[intOf];omega
  ·have ag:=ZZ (S.o (ZlO L k) w (l.o k))
   generalize ZlO L k=A at *
   go_wp2_with fail
   refine ag.o.mono ?_;rintro e W1 ⟨v1,rfl,K,R⟩;have G:=ZZ K;have Q:=ZZ R;clear K R Z f;go_wp2
   go_loopw[6,27] (fun vo a H=>∃ (j:Nat),a=.int .i64 (j:Int)∧j<=L.length∧Hid (Own H w.heap.size vo (Zvh L j))∧Hid (Below w.heap.size w H)) (fun _ a _=>L.length-(intOf a).toNat)
   case atStart=>exact⟨0,rfl,zai _,G,Q⟩
   case round=>
    clear G Q;obtain⟨j,rfl,hj,u,d⟩:=hrel;by_cases b:j<L.length
    ·rcases N.o with p | ⟨c,af,rfl,g⟩
     ·rw[p] at b;simp at b
     obtain⟨x,m,i⟩:=g j b;have hx:=(d.o.cell (zau _ _ m)).trans m;have aa:=ZZ (i.below d.o zL);obtain⟨ax,V,rfl,-⟩:=i
     have ad:Hid ((Zvh L j).length+(L.getD j []).length<=70368744177664):=ZZ (by
      have J:=l.o (j+1);have y:=M.o j b;rw[ab.o]
      omega)
     have U:=ZZ d.o.size;have X:=ZZ (ac.o j b);clear g m;generalize L.getD j []=D at *;generalize Zvh L j=P at *
     go_wp2_with(at_builtin;refine Xw _ rfl _ _ rfl w.heap.size _ P rfl u.o _ D rfl aa.o ad.o U.o ?_)
     intro v3 W3 t I;rw[<-X.o] at t;have Y:=ZZ t;have ae:=ZZ (d.o.trans I);clear t I;go_wp2;go_roundw
     case rel=>exact⟨j+1,by go_num,by omega,Y,ae⟩
     case measure=>simp[intOf];omega
    ·have HE:=ZZ (z.o j (by omega))
     rw[HE.o] at u;go_wp2;go_ret;exact⟨_,rfl,u.o,d.o⟩
theorem RdL.built (W:World) (N:Nat) (a:N=W.heap.size) (vs:Array Value) (L:List (List UInt8)) (f:L.length<=1000) (h:∀ j,j<L.length->∃ x,vs[j]?=some x∧Rd W x (L.getD j [])):
 RdL (W.alloc (.cells vs 53)) (.slice (some ⟨N,0,none⟩) L.length L.length) L:=by
 subst a;refine⟨some ⟨W.heap.size,0,none⟩,L.length,rfl,zat _,by unfold maxLen;omega,fun e=>(by cases e),.inr ⟨W.heap.size,0,rfl,fun j b=>?_⟩⟩
 obtain⟨x,c,d⟩:=h j b;refine⟨x,?_,d.below ((zac _ _).alloc zL _) zL⟩;rw[za5,zam _ W.heap.size j vs 53 (0,0) (zaf W _)];exact c
theorem Zvj (W:World) (N:Nat) (p:N=W.heap.size) (g i f k:Value) (b d c a:List UInt8) (q:Rd W g b) (x:Rd W i d) (t:Rd W f c) (n:Rd W k a) (y:b.length+d.length+c.length+a.length<=1000000):
 Calls prog 131 #[.slice (some ⟨N,0,none⟩) 4 4] (W.alloc (.cells #[g,i,f,k] 53)) fun e w'=>∃ v',e=.returned v'∧Own w' W.heap.size v' (b++(d++(c++a)))∧Below W.heap.size W w':=by
 have u:=RdL.built W N p #[g,i,f,k] [b,d,c,a] (by simp) (fun j w=>by
  match j,w with
  | 0,_=>exact⟨g,rfl,q⟩
  | 1,_=>exact⟨i,rfl,x⟩
  | 2,_=>exact⟨f,rfl,t⟩
  | 3,_=>exact⟨k,rfl,n⟩)
 have l:[b,d,c,a].flatten=b++(d++(c++a)):=by simp
 refine(Zdi _ _ _ u (by rw[l];simp only [length_append];omega) (by simp)).mono ?_
 rintro e w' ⟨v',rfl,m,v⟩;rw[l] at m;exact⟨v',rfl,m.mono (by simp),((zac _ _).alloc zL _).trans (v.mono (by simp))⟩
theorem Zvk (W:World) (N:Nat) (l:N=W.heap.size) (f g d:Value) (a c b:List UInt8) (m:Rd W f a) (u:Rd W g c) (n:Rd W d b) (v:a.length+c.length+b.length<=1000000):
 Calls prog 131 #[.slice (some ⟨N,0,none⟩) 3 3] (W.alloc (.cells #[f,g,d] 53)) fun e w'=>∃ v',e=.returned v'∧Own w' W.heap.size v' (a++(c++b))∧Below W.heap.size W w':=by
 have p:=RdL.built W N l #[f,g,d] [a,c,b] (by simp) (fun j t=>by
  match j,t with
  | 0,_=>exact⟨f,rfl,m⟩
  | 1,_=>exact⟨g,rfl,u⟩
  | 2,_=>exact⟨d,rfl,n⟩)
 have i:[a,c,b].flatten=a++(c++b):=by simp
 refine(Zdi _ _ _ p (by rw[i];simp only [length_append];omega) (by simp)).mono ?_
 rintro e w' ⟨v',rfl,k,q⟩;rw[i] at k;exact⟨v',rfl,k.mono (by simp),((zac _ _).alloc zL _).trans (q.mono (by simp))⟩
theorem ZsC (v:Value) (l:List UInt8) (w:World) (f:Rd w v l) (q:l.length<=1000000):
 Calls prog 214 #[v] w fun e w'=>∃ v',e=.returned v'∧Own w' w.heap.size v' l∧Below w.heap.size w w':=by
 have k:=ZZ f;obtain⟨ao,cap,rfl,j,-,b,-⟩:=f
 cases ao with
 | none=>
  obtain rfl:cap=0:=b rfl;obtain rfl:l=[]:=zaj (by omega)
  clear b j;have p:∀ w,(binOp .eql 53 (.slice none 0 0) (.slice none 0 0)).run prog w=.ok (.bool true) w:=fun w=>zcu w _ _ none 0 0 underlying53
  go_enter func214,ntmps214
  go_wp2;go_ret;exact⟨_,rfl,Own.nil _ _,zac _ _⟩
 | some a=>
  clear b;have p:∀ w,(binOp .eql 53 (.slice (some a) l.length cap) (.slice none 0 0)).run prog w=.ok (.bool false) w:=fun w=>zcu w _ _ (some a) _ _ underlying53
  have d:Hid (∀ X,Below w.heap.size w (w.alloc X)):=fun X=>(zac _ _).alloc zL X
  have i:Hid (Own (w.alloc (.cells #[] 5)) w.heap.size (.slice (some ⟨w.heap.size,0,none⟩) 0 0) []):=ZZ (Own.empty rfl rfl zL 0 (zai _) rfl)
  go_enter func214,ntmps214
  go_wp2_with(at_builtin;refine Xw _ rfl _ _ rfl w.heap.size _ [] rfl i.o _ l rfl (k.o.below (d.o _) zL) (by simp;omega) (by simp) ?_)
  intro u t c g;have m:=ZZ c;have n:=ZZ ((d.o _).trans g);clear c g;go_wp2;go_ret;exact⟨_,rfl,m.o,n.o⟩
def Xx:Array Value:=((List.range 256).map fun c=>Value.int .u32 ((Zdo c:Nat):Int)).toArray
def Z9:Array Value:=(List.replicate 256 (Value.int .u32 0)).toArray
theorem ZgZ:(prog.info? 266).map (fun i=>(i.zero,i.size))=some (some (.agg Z9),256):=by kernel_rfl
theorem Gl:Xx.size=256:=by simp[Xx]
theorem ZcN:Z9.size=256:=by
 unfold Z9;rw[zge,List.length_replicate]
theorem Zgp:Xx.all (·.oneCell')=true:=by
 rw[Array.all_eq_true];intro i a;simp[Xx,Value.oneCell']
theorem Ziz (k:Nat) (h:k<256):Xx[k]?=some (.int .u32 ((Zdo k:Nat):Int)):=by
 simp[Xx,h]
theorem Zvl (w:World):(Instr.storeAt 266 (.pointer (some ⟨w.heap.size,0,none⟩)) (.agg Xx)).run prog (w.alloc (.cells Z9 266))=.ok () (w.alloc (.cells Xx 266)):=
 run_storeAt_new w 266 Z9 Xx (by rw[Gl];exact(zgp ZgZ).2) (by rw[Gl,ZcN]) Zgp
def Zxn (w:World) (b:Nat):Prop:=∀ k,k<256->w.cell? ⟨b,k,none⟩=some (.int .u32 ((Zdo k:Nat):Int))
theorem Zxn.made (w:World):Zxn (w.alloc (.cells Xx 266)) w.heap.size:=by
 intro k a;rw[zam _ w.heap.size k Xx 266 (0,0) (zgs w _)];exact Ziz k a
theorem ZiA (w:World) {b:Array Oper} {rest:List Oper} {o:Oper} {a:Act} {Q:Exit->Act->World->Prop} (i:o.guard=none) (x y:Operand) (g:o.op=.store 266 x y)
 (d:a.eval x=.pointer (some ⟨w.heap.size,0,none⟩)) (e:a.eval y=.agg Xx)
 (h:∀ w',Below w.heap.size w w'->Zxn w' w.heap.size->wpList prog b Q rest (a.put o.dst undef) w'):wpList prog b Q (o::rest) a (w.alloc (.cells Z9 266)):=
 zbr i fun _ c=>by
  have f:=Zvl w;unfold Oper.wp execOp;simp only [g,d,e,f,zbk,zbn,za7];exact c _ _ (h _ ((zac _ _).alloc zL _) (Zxn.made w))
def ZiB (k:Nat):Array Value:=((List.range 256).map fun c=>if c<k then Value.int .u32 ((Zdo c:Nat):Int) else Value.int .u32 0).toArray
theorem ZbP (k:Nat):(ZiB k).size=256:=by simp[ZiB]
theorem ZcO (k i:Nat) (h:i<256):(ZiB k)[i]?=some (if i<k then Value.int .u32 ((Zdo i:Nat):Int) else Value.int .u32 0):=by
 simp[ZiB,h]
theorem ZsD:ZiB 0=Z9:=by
 apply zfb;intro i;by_cases h:i<256
 ·rw[ZcO 0 i h]
  unfold Z9;rw[zd6,List.getElem?_replicate_of_lt h];simp
 ·rw[zdj (by rw[ZbP];omega),zdj (by rw[ZcN];omega)]
theorem ZsE:ZiB 256=Xx:=by
 apply zfb;intro i;by_cases h:i<256
 ·rw[ZcO 256 i h,zab h,Ziz i h]
 ·rw[zdj (by rw[ZbP];omega),zdj (by rw[Gl];omega)]
theorem Zvm (k:Nat) (b:k<256):(ZiB k).setIfInBounds k (Value.int .u32 ((Zdo k:Nat):Int))=ZiB (k+1):=by
 apply zfb;intro i;rw[za0];by_cases h:i<256
 ·rw[ZcO (k+1) i h,ZcO k i h,ZbP]
  by_cases a:k=i
  ·subst a
   simp[b]
  ·rw[zaa a]
   have e:(i<k+1)=(i<k):=by
    apply propext;omega
   simp only [e]
 ·have a:¬ k=i:=by omega
  rw[zaa a,zdj (by rw[ZbP];omega),zdj (by rw[ZbP];omega)]
theorem ZlP {C:Array Value} (h:C.size=256):(prog.info? 266).map (·.size)=some C.size:=by
 rw[h];exact(zgp ZgZ).2
theorem ZiC (w:World) {b:Array Oper} {rest:List Oper} {o:Oper} {a:Act} {Q:Exit->Act->World->Prop} (e:o.guard=none) (x:Operand) (j:o.op=.load 266 x)
 (g:Nat) (C:Array Value) (c:Nat × Nat) (l:a.eval x=.pointer (some ⟨g,0,none⟩)) (f:w.heap[g]?=some (.cells C 266 c)) (d:C.size=256)
 (h:wpList prog b Q rest (a.put o.dst (.agg C)) w):wpList prog b Q (o::rest) a w:=
 zbr e fun _ k=>by
  have i:=run_loadVar_row (P:=prog) w g 266 266 C c _ f underlying266 rfl (ZlP d);unfold Oper.wp execOp;simp only [j,l,Instr.loadAt,Instr.sureAddr,zbk,zbn,za7,i];exact k _ _ h
theorem ZgG (w:World) {c:Array Oper} {rest:List Oper} {o:Oper} {a:Act} {Q:Exit->Act->World->Prop} (e:o.guard=none) (x y:Operand) (k:o.op=.store 266 x y)
 (g:Nat) (C D:Array Value) (m:a.eval x=.pointer (some ⟨g,0,none⟩)) (i:a.eval y=.agg D) (f:w.heap[g]?=some (.cells C 266 (0,0))) (d:C.size=256) (b:D.size=256) (n:D.all (·.oneCell')=true)
 (h:wpList prog c Q rest (a.put o.dst undef) (w.setRow g D)):wpList prog c Q (o::rest) a w:=
 zbr e fun _ l=>by
  have j:=run_storeVar_row (P:=prog) w g 266 266 C D f (ZlP b) (by rw[d,b]) n
  unfold Oper.wp execOp;simp only [k,m,i,Instr.storeAt,Instr.sureAddr,zbk,zbn,za7,j];exact l _ _ h
theorem ZnC {fn:Func} {p:Tmp} {ty:TypeId} (h:fn.results=#[.cell p ty]) (b:Array Value) (P:Program) (w:World):
 (results fn b).run P w=((asAddr (b.getD p undef)).run P w).andThen fun a c=>(loadVar ty a).run P c:=by
 simp only [results,h];simp[zbk,Result.andThen]
theorem Zvn (k:Nat) (i:k<256) (w:World):Calls prog 225 #[.int .u32 (k:Int)] w fun e w'=>e=.returned (.int .u32 (Zdo k:Nat))∧w'=w:=by
 have u:=ZZ i;clear i
 go_enter func225,ntmps225
 go_wp2
 go_loop [0,4] (fun x j=>∃ m:Nat,m<=8∧j=.int .i64 (m:Int)∧x=.int .u32 (Gu m k:Nat)) (fun _ j=>8-(intOf j).toNat)
 case atStart=>exact⟨0,zai _,rfl,rfl⟩
 case round=>
  obtain⟨m,C,rfl,rfl⟩:=hrel;by_cases A:m<8
  ·have l:=ZZ (Zsy m k)
   have n:Gu m k<4294967296:=ZuX m (by have:=u.o;omega)
   generalize Gu m k=y at *;obtain⟨Y,f⟩:∃ Y:Int,Y=(y:Int):=⟨_,rfl⟩;rw[<-f];have D:0<=Y:=by omega
   have B:Y<4294967296:=by omega
   have g:=ZZ f;have t:=ZZ n;clear f n;by_cases a:Y % 2=1
   ·have q:(Y % 2 == 1)=true:=za8.2 a
    have c:=ZZ a;clear a;go_wp2
    go_round
    case rel=>
     have e:=g.o;have v:=c.o;refine⟨m+1,by omega,by go_num,?_⟩
     have d:Y / 2=((y / 2:Nat):Int):=by omega
     have z:(2197175160:Int)=((2197175160:Nat):Int):=rfl;have b:ZrD y=y / 2 ^^^ 2197175160:=zab (by omega)
     rw[l.o,b,d,z,ZpB _ _ (by have:=t.o;omega) (by decide)]
    case measure=>simp[intOf];omega
   ·have q:(Y % 2 == 1)=false:=zad.2 a
    have c:=ZZ a;clear a;go_wp2
    go_round
    case rel=>
     have e:=g.o;have v:=c.o;refine⟨m+1,by omega,by go_num,?_⟩
     have d:Y / 2=((y / 2:Nat):Int):=by omega
     have b:ZrD y=y / 2:=zaa (by omega)
     rw[l.o,b,d]
    case measure=>simp[intOf];omega
  ·have p:Hid (Gu m k=Zdo k):=by
    have e:m=8:=by omega
    rw[e];exact rfl
   generalize Gu m k=y at *;go_wp2;go_ret;refine⟨ZbV ?_,rfl⟩;rw[p.o]
theorem Zvo (w:World):Calls prog 215 #[] w fun e w'=>e=.returned (.agg Xx)∧Below w.heap.size w w':=by
 have z:=(zgp ZgZ).1;have m:Hid (∀ (k:Nat) (w:World),k<256->Calls prog 225 #[.int .u32 (k:Int)] w fun e w'=>e=.returned (.int .u32 (Zdo k:Nat))∧w'=w):=fun k w f=>Zvn k f w
 go_enter func215,ntmps215
 go_wp2
 go_loopw[3] (fun i wr=>∃ k:Nat,k<=256∧i=.int .i64 (k:Int)∧Hid (wr.heap[w.heap.size+1]?=some (.cells (ZiB k) 266 (0,0)))∧Hid (wr.heap[w.heap.size]?=some (.cells Z9 266 (0,0)))∧Hid (Below w.heap.size w wr)) (fun i _=>256-(intOf i).toNat)
 case atStart=>
  have q:((w.alloc (.cells Z9 266)).alloc (.cells Z9 266)).heap[w.heap.size+1]?=some (.cells (ZiB 0) 266 (0,0)):=by
   rw[ZsD];have h:=zgs (w.alloc (.cells Z9 266)) (.cells Z9 266);have x:(w.alloc (.cells Z9 266)).heap.size=w.heap.size+1:=by simp
   rw[x] at h;exact h
  have y:((w.alloc (.cells Z9 266)).alloc (.cells Z9 266)).heap[w.heap.size]?=some (.cells Z9 266 (0,0)):=
   (zao _ _ w.heap.size (by simp)).trans (zgs w _)
  exact⟨0,zai _,rfl,q,y,((zac _ _).alloc zL _).alloc (by simp) _⟩
 case round=>
  obtain⟨k,f,rfl,b,c,a⟩:=hrel;by_cases d:k<256
  ·have A:wr.cell? ⟨w.heap.size+1,k,none⟩=some (.int .u32 0):=by
    rw[zam wr _ k _ _ _ b.out,ZcO k k d];simp
   have B:wr.frozen? ⟨w.heap.size+1,k,none⟩=false:=za2 wr _ k _ _ b.out
   have u:Hid ((wr.setCell ⟨w.heap.size+1,k,none⟩ (.int .u32 ((Zdo k:Nat):Int))).heap[w.heap.size+1]?=some (.cells (ZiB (k+1)) 266 (0,0))):=by
    have h:=zba wr (w.heap.size+1) k _ _ (.int .u32 ((Zdo k:Nat):Int)) b.out;rw[Zvm k d] at h;exact h
   go_wp2_with fail
   refine(m.o k wr d).mono ?_;rintro e C ⟨rfl,rfl⟩;go_wp2;go_roundw
   case rel=>exact⟨k+1,by omega,by go_num,u,(zal _ _ _ _ (by show w.heap.size≠w.heap.size+1;omega)).trans c.out,a.out.setCell (by show w.heap.size<=w.heap.size+1;omega) _⟩
   case measure=>simp[intOf];omega
  ·have g:wr.heap[w.heap.size+1]?=some (.cells Xx 266 (0,0)):=by
    have e:k=256:=by omega
    rw[<-ZsE,<-e];exact b.out
   have l:=ZZ g
   have p:Hid ((loadVar 266 ⟨w.heap.size,0,none⟩).run prog (wr.setRow w.heap.size Xx)=.ok (.agg Xx) (wr.setRow w.heap.size Xx)):=
    run_loadVar_row (P:=prog) _ _ 266 266 Xx (0,0) _ (setRow_heap wr _ _ Xx _ _ c.out) underlying266 rfl (ZlP Gl)
   have n:Hid (Below w.heap.size w (wr.setRow w.heap.size Xx)):=
    ⟨a.out.os,a.out.tape,a.out.output,by have:=a.out.size;simp[World.setRow];omega,fun j t=>(setRow_other wr _ j _ (by omega)).trans (a.out.block j t)⟩
   clear g b
   go_wp2_with(first
    | refine ZiC _ rfl _ rfl (w.heap.size+1) Xx (0,0) rfl l.o Gl ?_
    | refine ZgG _ rfl _ _ rfl w.heap.size Z9 Xx rfl rfl c.out ZcN Gl Zgp ?_)
   refine zap (v:=.agg Xx) ?_ rfl ⟨rfl,n.o⟩;have h:=p.o;rw[ZnC Tryz.results215];have e:(asAddr (.pointer (some ⟨w.heap.size,0,none⟩))).run prog (wr.setRow w.heap.size Xx)=.ok ⟨w.heap.size,0,none⟩ (wr.setRow w.heap.size Xx):=by simp[asAddr]
   simp only [Act.put,zdl,zga,zf9];show((asAddr (.pointer (some ⟨w.heap.size,0,none⟩))).run prog (wr.setRow w.heap.size Xx)).andThen _=_;rw[e];simp only [Result.andThen];rw[h]
theorem Zxo (s:Nat) (v:Value) (l:List UInt8) (w:World) (t:Rd w v l) (j:s<4294967296):
 Calls prog 187 #[.int .u32 (s:Int),v] w fun e w'=>e=.returned (.int .u32 (Q2 s l:Nat))∧Below w.heap.size w w':=by
 have L:=ZZ t;obtain⟨ao,cap,rfl,T,J,O,a⟩:=t;clear O;have R:=ZZ a;clear a;have ab:(l.length:Int)<=9223372036854775807:=by unfold maxLen at J;omega
 have Q:=ZZ (ZuY s j);have I:Hid (∀ k,Zbr (s ^^^ 4294967295) (l.take k)<4294967296):=fun k=>Zhw _ (Zuj j)
 have H:Hid (Q2 s l=Zbr (s ^^^ 4294967295) l ^^^ 4294967295):=rfl;have D:=ZZ (fun w=>Zvo w)
 have G:=(zgp ZgZ).1;generalize s ^^^ 4294967295=g at *;clear j
 go_enter func187,ntmps187
 go_wp2_with fail
 refine(D.o _).mono ?_;rintro e X ⟨rfl,u⟩;have n:=ZZ u;clear u D
 go_wp2_with(refine ZiA _ rfl _ _ rfl rfl rfl ?_)
 intro Y z A;have C:=ZZ (n.o.trans (z.mono n.o.size));have K:=ZZ A;clear z A G;go_wp2
 go_loop [6,14] (fun x i=>∃ k:Nat,k<=l.length∧i=.int .i64 k∧x=.int .u32 (Zbr g (l.take k):Nat)) (fun _ i=>l.length-(intOf i).toNat)
 case atStart=>
  refine⟨0,zai _,rfl,?_⟩;rw[Q.o];rfl
 case round=>
  obtain⟨k,W,rfl,rfl⟩:=hrel;have M:=I.o k;by_cases d:k<l.length
  ·have N:=ZZ (ZpC l g k d)
   rcases R.o with a | ⟨b,Z,rfl,_⟩
   ·subst a;simp at d
   have S:=(L.o.below C.o zL).at k d;have f:(l.getD k 0).toNat<256:=zgv _;generalize Zbr g (l.take k)=y at *;generalize (l.getD k 0).toNat=c at *;have F:=ZyO y c f
   have V:bits .xor .u8 ((y:Int) % 256) (c:Int)=((y % 256 ^^^ c:Nat):Int):=by
    have e:(y:Int) % 256=((y % 256:Nat):Int):=by omega
    rw[e];exact ZzF _ _ (by omega) f
   have p:Hid (bits .xor .u32 ((Zdo (y % 256 ^^^ c):Nat):Int) ((y:Int) / 256)=((ZdH y c:Nat):Int)):=by
    have e:(y:Int) / 256=((y / 256:Nat):Int):=by omega
    rw[e,ZpB _ _ (Zxl _ F) (by omega)]
    unfold ZdH;rw[Zxk y c f];exact rfl
   have P:=K.o (y % 256 ^^^ c) F;generalize B:y % 256 ^^^ c=m at *;have U:=ZZ B;clear B;have aa:(m:Int)<256:=by omega
   obtain⟨E,q⟩:∃ E:Int,E=((Zdo m:Nat):Int):=⟨_,rfl⟩;rw[<-q] at P p;clear q;go_wp2
   go_round
   case rel=>exact⟨k+1,by omega,by go_num,by rw[N.o,<-p.o]⟩
   case measure=>simp[intOf];omega
  ·go_wp2
   go_ret;refine⟨ZbV ?_,C.o⟩;rw[H.o,ZuY _ M,take_of_length_le (by omega)]
theorem ZlQ (v:Value) (l:List UInt8) (w:World) (c:Rd w v l):
 Calls prog 136 #[v] w fun e w'=>e=.returned (.int .u32 (Q2 0 l:Nat))∧Below w.heap.size w w':=by
 have b:Hid (Calls prog 187 #[.int .u32 0,v] w fun e w'=>e=.returned (.int .u32 (Q2 0 l:Nat))∧Below w.heap.size w w'):=Zxo 0 v l w c (by decide)
 generalize Q2 0 l=m at *;clear c
 go_enter func136,ntmps136
 go_wp2_with fail
 refine b.o.mono ?_;rintro e w' ⟨rfl,a⟩;have d:=ZZ a;clear a b;go_wp2;go_ret;exact⟨rfl,d.o⟩
def ZgH (v:Value) (l:List UInt8) (xs:List Value) (L:List (List UInt8)):Prop:=
 xs.length=L.length∧∀ j,j<L.length->∃ x,xs[j]?=some x∧x.oneCell'=true∧∀ W,Rd W v l->Rd W x (L.getD j [])
theorem ZgH.nil (v:Value) (l:List UInt8):ZgH v l [] []:=⟨rfl,fun j a=>absurd a (by simp)⟩
theorem ZgH.snoc (h:ZgH v l xs L) {x:Value} {d:List UInt8} (k:x.oneCell'=true) (c:∀ W,Rd W v l->Rd W x d):ZgH v l (xs++[x]) (L++[d]):=by
 refine⟨by simp[h.1],fun j f=>?_⟩
 rw[length_append,length_singleton] at f;by_cases a:j<L.length
 ·obtain⟨y,b,g,m⟩:=h.2 j a
  refine⟨y,by rw[zbb (by rw[h.1];exact a)];exact b,g,?_⟩
  have e:(L++[d]).getD j []=L.getD j []:=by simp[List.getD,zbb a]
  rw[e];exact m
 ·have i:j=L.length:=by omega
  subst i;refine⟨x,by rw[zbp (by rw[h.1];omega),h.1];simp,k,?_⟩
  have e:(L++[d]).getD L.length []=d:=by simp[List.getD]
  rw[e];exact c
theorem ZgH.one (h:ZgH v l xs L):∀ u ∈ xs,u.oneCell'=true:=fun u c=>by
 obtain⟨j,a,rfl⟩:=zdh c;obtain⟨x,b,d,-⟩:=h.2 j (by rw[<-h.1];exact a)
 rw[za3 a] at b;obtain rfl:=zak b;exact d
theorem Zvp:(prog.info? 53).map (fun i=>(i.zero,i.size,i.bytes))=some (some (.slice none 0 0),1,24):=by kernel_rfl
theorem ZiD (w:World) (ty:TypeId) (B:Nat) (v:Value) (n:Nat) (xs:List Value) (h:w.ownsRow B 53 1 v n xs) (a:Addr) (m cap:Nat) (b:List Value) (y:b.length=m) (q:∀ j u,b[j]?=some u->w.cell? (a.add j)=some u) (p:∀ u ∈ b,u.oneCell'=true) (A:n+m<=1000000) (c:B<=w.heap.size):
 ∃ v' w',(Builtin.append_ #[144,144] ty #[v,.slice (some a) m cap]).run prog w=.ok v' w'∧w'.ownsRow B 53 1 v' (n+m) (xs++b)∧Below B w w':=by
 obtain⟨g,i,e,f,z⟩:=zbo Zvp
 obtain⟨v',w',t,x,d,_⟩:=zdc (P:=prog) w B 144 ty 53 g (.slice none 0 0) 1 24 underlying144 i e f z rfl (by decide) v n xs h
  a m cap b (by rw[y,zch]) q p (by unfold maxLen;omega) (by omega) c
 exact⟨v',w',t,x,(zac _ _).grown d c (fun k l=>(zar h k l).1)⟩
theorem Zam (w:World) {c:Array Oper} {rest:List Oper} {o:Oper} {a:Act} {Q:Exit->Act->World->Prop} (g:o.guard=none) (s x:Operand)
 (y:o.op=.call { callee:=.builtin .append,args:=#[s,x],argTypes:=#[144,144] })
 (B:Nat) (v:Value) (n:Nat) (xs:List Value) (z:a.eval s=v) (p:w.ownsRow B 53 1 v n xs) (d:Addr) (m cap:Nat) (b:List Value) (C:a.eval x=.slice (some d) m cap) (D:b.length=m) (q:∀ j u,b[j]?=some u->w.cell? (d.add j)=some u) (k:∀ u ∈ b,u.oneCell'=true)
 (i:n+m<=1000000) (f:B<=w.heap.size)
 (h:∀ v' w',w'.ownsRow B 53 1 v' (n+m) (xs++b)->Below B w w'->wpList prog c Q rest (a.put o.dst v') w'):wpList prog c Q (o::rest) a w:=
 zbr g fun _ A=>by
  obtain⟨v',w',t,l,e⟩:=ZiD w o.type B v n xs p d m cap b D q k i f;unfold Oper.wp execOp;simp only [y,resolve,invoke,builtin,zbk,zbn,za7,zc8,zd9,zgo,z,C,t];exact A _ _ (h v' w' l e)
theorem Zxp (ao:Option Addr) (l:List UInt8) (cap:Nat) (g:l.length<=cap) (i j:Nat) (f:i<=j) (e:j<=l.length):
 ∃ a b c,(∀ W,(Instr.sliceAt 53 (.slice ao l.length cap) (some (.int .i64 (i:Int))) (some (.int .i64 (j:Int))) (some (.int .i64 (j:Int)))).run prog W=.ok (.slice a b c) W)∧∀ W,Rd W (.slice ao l.length cap) l->Rd W (.slice a b c) ((l.drop i).take (j-i)):=by
 have d:∃ a b c,sliced ao i j j 1=.slice a b c:=by
  unfold sliced;exact⟨_,_,_,rfl⟩
 obtain⟨a,b,c,d⟩:=d;refine⟨a,b,c,fun W=>?_,fun W h=>?_⟩
 ·rw[zb5 W 53 _ _ _ _ Xu,run_slice_lhm W 53 ao l.length cap Xu .i64 .i64 .i64 (i:Int) (j:Int) (j:Int) (by omega) (by omega) (by omega) (by omega),Jo,Zce]
  simp only [za9];rw[<-d];rfl
 ·rw[<-d]
  exact h.mid i j j f e zL (by omega)
theorem ZiE (w:World) (x:Obj):w.heap.size<=(w.alloc x).heap.size:=((zac w.heap.size w).alloc zL x).size
theorem ZnD (w:World) (v:Value):∀ j u,[v][j]?=some u->(w.alloc (.cells #[v] 53)).cell? ((⟨w.heap.size,0,none⟩:Addr).add j)=some u:=fun j u a=>by
 rw[zbg,za5,zam _ w.heap.size j _ 53 (0,0) (zaf w _)];rw[<-zd6] at a;exact a
def ZyT (w:World) (v:Value) (l:List UInt8) (L:List (List UInt8)) (e:Ending) (w':World):Prop:=
 ∃ v' xs,e=.returned v'∧w'.ownsRow w.heap.size 53 1 v' L.length xs∧ZgH v l xs L∧Below w.heap.size w w'
theorem ZkB (v:Value) (l:List UInt8) (w:World) (W:Rd w v l) (ac:l.length<=100000):
 Calls prog 102 #[v] w fun e w'=>ZyT w v l (Ya l) e w':=by
 obtain⟨ao,cap,rfl,R,S,-⟩:=W;have n:=ZZ (fun i j=>Zxp ao l cap R i j)
 have L:Hid (∀ A,A<l.length->Ya (l.drop A)=(l.drop A).take 64::Ya (l.drop (A+64))):=ZZ (fun A h=>Zpe h)
 have x:Hid (Ya l=[]++Ya (l.drop 0)):=ZZ (by simp)
 have y:Hid (∀ A,l.length<=A->Ya (l.drop A)=[]):=ZZ (fun A h=>by rw[zd0 h,Yn])
 have B:Hid (∀ A,l.length<=A+64->(l.drop A).take (l.length-A)=(l.drop A).take 64):=ZZ (fun A h=>by
  rw[take_of_length_le (by rw[zce];omega),take_of_length_le (by rw[zce];omega)])
 obtain⟨m,O⟩:=zgy (Ya l);rw[<-O] at x ⊢;clear O S
 go_enter func102,ntmps102
 go_wp2
 go_loopw[3,4] (fun T I wr=>∃ (A:Nat) (P:List (List UInt8)) (xs:List Value),I=.int .i64 (A:Int)∧P.length<=A∧A<=l.length+64∧Hid (wr.ownsRow w.heap.size 53 1 T P.length xs)∧Hid (ZgH (.slice ao l.length cap) l xs P)∧Hid (m=P++Ya (l.drop A))∧Hid (Below w.heap.size w wr)) (fun _ I _=>l.length+64-(intOf I).toNat)
 case atStart=>exact⟨0,[],[],rfl,zat _,by omega,ZZ (zcb w w.heap.size 53 1),ZZ (ZgH.nil _ _),x,zac _ _⟩
 case round=>
  clear x;obtain⟨A,P,xs,rfl,ae,hA,J,D,E,d⟩:=hrel;by_cases U:A<l.length
  case neg=>
   have af:¬ (A:Int)<(l.length:Int):=by omega
   have V:Hid (m=P):=ZZ (by rw[E.out,y.o A (by omega),zcx])
   go_wp2;go_ret;rw[V.o];exact⟨_,xs,rfl,J.out,D.out,d.out⟩
  have ad:(A:Int)<(l.length:Int):=by omega
  have M:=ZZ (L.o A U);by_cases h:A+64<=l.length
  ·obtain⟨c,a,b,hcut,f⟩:=n.o A (A+64) (by omega) h
   have N:((A+64:Nat):Int)=(A:Int)+64:=by omega
   have Q:A+64-A=64:=by omega
   rw[N] at hcut;rw[Q] at f;have F:=ZZ f;have X:(A:Int)+64<=(l.length:Int):=by omega
   have aa:min ((A:Int)+64) (l.length:Int)=(A:Int)+64:=by omega
   have ab:¬ (l.length:Int)<(A:Int)+64:=by omega
   have K:Hid (w.heap.size<=(wr.alloc (.cells #[.slice c a b] 53)).heap.size):=ZZ (zas d.out.size (ZiE wr _));have p:Hid ((wr.alloc (.cells #[.slice c a b] 53)).ownsRow w.heap.size 53 1 _ P.length xs):=ZZ (zb0 J.out _);have t:=ZZ (ZnD wr (.slice c a b));have z:Hid (∀ u ∈ [Value.slice c a b],u.oneCell'=true):=ZZ (fun u q=>by rw[zaq.1 q];rfl)
   have C:P.length+1<=1000000:=by omega
   clear f N Q L n y B h
   go_wp2_with(at_builtin;refine Zam _ rfl _ _ rfl w.heap.size _ P.length xs rfl p.o ⟨wr.heap.size,0,none⟩ 1 1 [.slice c a b] rfl rfl t.o z.o C K.o ?_)
   intro Z Y g k;have G:=ZZ g;have H:=ZZ ((d.out.alloc d.out.size _).trans k);clear g k;go_wp2;go_roundw
   case rel=>exact⟨A+64,P++[(l.drop A).take 64],xs++[.slice c a b],by go_num,by simp;omega,by omega,ZZ (by rw[length_append,length_singleton];exact G.o),ZZ (D.out.snoc rfl F.o),ZZ (by rw[E.out,M.o,append_assoc];rfl),H⟩
   case measure=>simp[intOf];omega
  ·obtain⟨c,a,b,hcut,f⟩:=n.o A l.length (by omega) zL
   rw[B.o A (by omega)] at f
   have F:=ZZ f;have X:(l.length:Int)<(A:Int)+64:=by omega
   have aa:min ((A:Int)+64) (l.length:Int)=(l.length:Int):=by omega
   have ab:¬ (A:Int)+64<=(l.length:Int):=by omega
   have K:Hid (w.heap.size<=(wr.alloc (.cells #[.slice c a b] 53)).heap.size):=ZZ (zas d.out.size (ZiE wr _));have p:Hid ((wr.alloc (.cells #[.slice c a b] 53)).ownsRow w.heap.size 53 1 _ P.length xs):=ZZ (zb0 J.out _);have t:=ZZ (ZnD wr (.slice c a b));have z:Hid (∀ u ∈ [Value.slice c a b],u.oneCell'=true):=ZZ (fun u q=>by rw[zaq.1 q];rfl)
   have C:P.length+1<=1000000:=by omega
   clear f L n y B h
   go_wp2_with(at_builtin;refine Zam _ rfl _ _ rfl w.heap.size _ P.length xs rfl p.o ⟨wr.heap.size,0,none⟩ 1 1 [.slice c a b] rfl rfl t.o z.o C K.o ?_)
   intro Z Y g k;have G:=ZZ g;have H:=ZZ ((d.out.alloc d.out.size _).trans k);clear g k;go_wp2;go_roundw
   case rel=>exact⟨A+64,P++[(l.drop A).take 64],xs++[.slice c a b],by go_num,by simp;omega,by omega,ZZ (by rw[length_append,length_singleton];exact G.o),ZZ (D.out.snoc rfl F.o),ZZ (by rw[E.out,M.o,append_assoc];rfl),H⟩
   case measure=>simp[intOf];omega
theorem ZjO (i:Int) (v:Value) (l:List UInt8) (w:World) (f:Rd w v l):
 Calls prog 100 #[.int .i64 i,v] w fun e w'=>e=.returned (.agg #[.int .i64 i,.int .i64 (l.length:Int),.int .u32 ((Q2 0 l:Nat):Int)])∧Below w.heap.size w w':=by
 have c:Hid (∀ X,Below w.heap.size w (w.alloc X)):=fun X=>(zac _ _).alloc zL X
 have g:=ZZ (fun W (h:Below w.heap.size w W)=>ZlQ v l W (f.below h zL))
 obtain⟨ao,cap,rfl,-⟩:=f;generalize Q2 0 l=m at *;obtain⟨M,j⟩:∃ M:Int,M=(m:Int):=⟨_,rfl⟩;rw[<-j] at g ⊢;clear j;have n:Hid (∀ cs,(w.alloc (.cells cs 147)).heap[w.heap.size]?=some (.cells cs 147 (0,0))):=fun cs=>zaf w _
 go_enter func100,ntmps100
 go_wp2_with fail
 refine(g.o _ (c.o _)).mono ?_;rintro x b ⟨rfl,d⟩;have t:=ZZ ((c.o _).trans (d.mono (c.o _).size));have a:=(d.block w.heap.size (by simp)).trans (n.o _)
 have k:=zam b w.heap.size 0 _ _ _ a;have q:=zam b w.heap.size 1 _ _ _ a;have p:=zam b w.heap.size 2 _ _ _ a;have z:=za2 b w.heap.size 0 _ _ a;have u:=za2 b w.heap.size 1 _ _ a;have y:=za2 b w.heap.size 2 _ _ a;clear d a;go_wp2;refine zap (v:=.agg #[.int .i64 i,.int .i64 (l.length:Int),.int .u32 M]) (by simp[results,Tryz.results100,go_sem,k,q,p]) rfl ?_
 exact⟨rfl,((t.o.setCell zL _).setCell zL _).setCell zL _⟩
theorem ZnE:∀ (A B:List Int),Zr (A++B)=Zr A++Zr B
 | [],_=>rfl
 | x::r,B=>by rw[zck,Zr,ZnE r B,Zr,append_assoc]
theorem Zgq:∀ (L:List Int),(∀ x ∈ L,I64 x)->(Zr L).length<=10*L.length
 | [],_=>by simp[Zr]
 | x::r,h=>by
  have b:=Zgq r (fun y a=>h y (by simp[a]))
  have c:=Zwv (h x (by simp))
  rw[Zr,length_append,zb9];omega
theorem ZsF (L:List Int) (k:Nat) (a:k<L.length):Zr (L.take (k+1))=Zr (L.take k)++Lib.uvarint (Lib.zigzag (L.getD k 0)):=by
 have e:L.take (k+1)=L.take k++[L.getD k 0]:=by
  rw[take_add_one];simp[List.getD,a]
 rw[e,ZnE];simp[Zr]
def Zvq (s:St):List UInt8:=(Lib.uvarint s.kind.toNat++Lib.uvarint (Db s))++Lib.uvarint s.L.length
theorem Zvr (s:St):Zeq s=Zvq s++Zr s.L:=by
 unfold Zeq Zvq;simp[append_assoc]
theorem Zxq (a:Bool) (g:Int) (h:0<=g):(if a=true then g+1 else 0)=((Db ⟨0,[],a,g⟩:Nat):Int):=by
 unfold Db
 cases a
 ·rfl
 ·simp
  omega
theorem ZnF (k:Int) (l:List Int) (a:Bool) (g:Int):Db ⟨k,l,a,g⟩=Db ⟨0,[],a,g⟩:=rfl
def ZAp (w:World) (s:St) (e:Ending) (w':World):Prop:=
 ∃ v',e=.returned (.tuple #[v',.int .i64 (if Yl s then 0 else 1)])∧Rd w' v' (if Yl s then Zeq s else[])∧Below w.heap.size w w'
theorem ZjP (kind:Int) (ao:Option Addr) (n cap:Nat) (a:Bool) (g:Int) (w:World) (d:0<=g) (f:g<=2):
 Calls prog 190 #[.agg #[.int .i64 kind,.slice ao n cap,.bool a,.int .i64 g]] w fun e w'=>e=.returned (.int .i64 ((Db ⟨0,[],a,g⟩:Nat):Int))∧Below w.heap.size w w':=by
 have b:Hid (∀ X,Below w.heap.size w (w.alloc X)):=fun X=>(zac _ _).alloc zL X
 have c:=ZZ (Zxq a g d);generalize Db ⟨0,[],a,g⟩=m at *
 cases a
 ·go_enter func190,ntmps190
  go_wp2;go_ret;refine⟨?_,b.o _⟩;rw[<-c.o];rfl
 ·go_enter func190,ntmps190
  go_wp2;go_ret;refine⟨?_,b.o _⟩;rw[<-c.o];rfl
theorem ZiF (v:Value) (s:St) (w:World) (hs:StV w v s) (aV:s.L.length<=1000):
 Calls prog 141 #[v] w fun e w'=>ZAp w s e w':=by
 obtain⟨vl,rfl,M,aa,aj⟩:=hs;obtain⟨kind,l,a,g⟩:=s;simp only at M aa aj aV ⊢;have af:Hid (∀ W,Below w.heap.size w W->Calls prog 82 #[.agg #[.int .i64 kind,vl,.bool a,.int .i64 g]] W fun e w'=>e=.returned (.bool (decide (Yl ⟨kind,l,a,g⟩)))∧Below W.heap.size W w'):=fun W h=>ZlG _ ⟨kind,l,a,g⟩ W ⟨vl,rfl,M.below h zL,aa,aj⟩
 have d:Hid (∀ X,Below w.heap.size w (w.alloc X)):=fun X=>(zac _ _).alloc zL X
 have bd:=ZZ M;obtain⟨ao,cap,rfl,-,-,-,hi,aP⟩:=M;have ba:=ZZ aP;clear aP aa aj;unfold ZAp;by_cases b:Yl ⟨kind,l,a,g⟩
 ·simp only [zab b]
  have HT:=ZZ (zah b);have aY:0<=kind:=b.2.2.2.1;have bf:kind<6:=b.2.2.2.2.1;have aX:0<=g:=b.1;have aZ:g<=2:=b.2.1;have aT:=Zlj b;rw[ZnF] at aT;have HI:=ZZ hi;have u1:=Gh (n:=kind.toNat) (by omega)
  have u2:=Gh (n:=Db ⟨0,[],a,g⟩) (by omega)
  have u3:=Gh (n:=l.length) (by omega)
  have K:Hid (∀ (n:Int),0<=n->n<4611686018427387904->∀ W,Calls prog 132 #[.slice none 0 0,.int .i64 n] W fun e w'=>∃ v',e=.returned v'∧Own w' W.heap.size v' (Lib.uvarint n.toNat)∧Below W.heap.size W w'):=fun n E S W=>by
   have h:=ZbE (.slice none 0 0) [] n W (Rd.nil W) (by simp)
   rw[J0 E S,nil_append] at h;exact h
  have aO:=ZZ (K.o kind aY (by omega))
  have ag:=ZZ (K.o ((Db ⟨0,[],a,g⟩:Nat):Int) (by omega) (by omega))
  have am:=ZZ (K.o (l.length:Int) (by omega) (by omega))
  rw[za9] at ag am;have T:=ZZ (fun W=>ZjP kind ao l.length cap a g W aX aZ)
  have a6:Hid (∀ x,I64 x->∀ W,Calls prog 142 #[.slice none 0 0,.int .i64 x] W fun e w'=>∃ v',e=.returned v'∧Own w' W.heap.size v' (Lib.uvarint (Lib.zigzag x))∧Below W.heap.size W w'):=fun x Y W=>by
   have h:=Gj (.slice none 0 0) [] x W (Rd.nil W) (by simp) Y.1 Y.2
   rw[nil_append] at h;exact h
  have aw:Hid (Zeq ⟨kind,l,a,g⟩=(Lib.uvarint kind.toNat++(Lib.uvarint (Db ⟨0,[],a,g⟩)++Lib.uvarint l.length))++Zr l):=by
   refine ZZ ?_;rw[Zvr];unfold Zvq;rw[ZnF];simp only [append_assoc]
  have a8:Hid (∀ k,(Zr (l.take k)).length<=10*1000):=fun k=>by
   have S:=Zgq (l.take k) (fun x Y=>hi x (zbq Y))
   have h2:(l.take k).length<=l.length:=by simp;omega
   omega
  have az:Hid (∀ W N U Z I,N=W.heap.size->Rd W U (Lib.uvarint kind.toNat)->Rd W Z (Lib.uvarint (Db ⟨0,[],a,g⟩))->Rd W I (Lib.uvarint l.length)->Calls prog 131 #[.slice (some ⟨N,0,none⟩) 3 3] (W.alloc (.cells #[U,Z,I] 53)) fun e w'=>∃ v',e=.returned v'∧Own w' W.heap.size v' (Lib.uvarint kind.toNat++(Lib.uvarint (Db ⟨0,[],a,g⟩)++Lib.uvarint l.length))∧Below W.heap.size W w'):=fun W N U Z I hN E S h2=>Zvk W N hN U Z I _ _ _ E S h2 (by omega)
  rw[aw.o]
  have bc:(Lib.uvarint kind.toNat++(Lib.uvarint (Db ⟨0,[],a,g⟩)++Lib.uvarint l.length)).length<=30:=by
   simp only [length_append];omega
  clear b hi aw K u1 u2 u3;generalize Db ⟨0,[],a,g⟩=m at *;generalize Lib.uvarint kind.toNat=A at *;generalize Lib.uvarint m=B at *;generalize Lib.uvarint l.length=C at *;generalize A++(B++C)=H at *
  go_enter func141,ntmps141
  go_wp2_with fail
  refine(af.o _ (d.o _)).mono ?_;rintro e W1 ⟨rfl,u⟩;rw[HT.o];have t:Bx W1 w.heap.size _:=(u.block w.heap.size (by simp)).trans (zaf w _)
  have aR:=ZZ t;have J:=ZZ ((d.o _).trans (u.mono (d.o _).size));obtain⟨p0,-⟩:=t.cell 0;obtain⟨p1,-⟩:=t.cell 1;obtain⟨p2,-⟩:=t.cell 2;obtain⟨p3,-⟩:=t.cell 3;clear u t;go_wp2
  go_region_held(fun w'=>w'.cell? ⟨w.heap.size,0,none⟩=some (.int .i64 kind)∧w'.cell? ⟨w.heap.size,1,none⟩=some (.slice ao l.length cap)∧w'.cell? ⟨w.heap.size,2,none⟩=some (.bool a)∧w'.cell? ⟨w.heap.size,3,none⟩=some (.int .i64 g)) (go_keep)
   (first
    | (go_at_call_of 132 (Value.int .i64 kind);refine(aO.o _).mono ?_;rintro e W2 ⟨I,rfl,ar,aq⟩;have z:=aR.o.below (((zac _ _).drew).trans aq) zL;have ax:=ZZ z;have ab:=ZZ (J.o.trans ((((zac _ _).drew).trans aq).mono J.o.size));obtain⟨a2,c2,rfl,-⟩:=ar.rd;have aB:=ZZ ar.rd;obtain⟨q0,-⟩:=z.cell 0;obtain⟨q1,-⟩:=z.cell 1;obtain⟨q2,-⟩:=z.cell 2;obtain⟨q3,-⟩:=z.cell 3;clear ar aq z)
    | (go_at_call 190;refine(T.o _).mono ?_;rintro e W3 ⟨rfl,R⟩;have p:=ax.o.below R zL;have aJ:=ZZ p;have an:=ZZ (ab.o.trans (R.mono ab.o.size));have aH:=ZZ (aB.o.below R zL);obtain⟨r0,-⟩:=p.cell 0;obtain⟨r1,-⟩:=p.cell 1;obtain⟨r2,-⟩:=p.cell 2;obtain⟨r3,-⟩:=p.cell 3;clear R p)
    | (go_at_call_of 132 (Value.int .i64 (m:Int));refine(ag.o _).mono ?_;rintro e W4 ⟨v4,rfl,al,V⟩;have j:=aJ.o.below V zL;have ay:=ZZ j;have ap:=ZZ (an.o.trans (V.mono an.o.size));have aL:=ZZ (aH.o.below V zL);obtain⟨a4,c4,rfl,-⟩:=al.rd;have av:=ZZ al.rd;obtain⟨s0,-⟩:=j.cell 0;obtain⟨s1,-⟩:=j.cell 1;obtain⟨s2,-⟩:=j.cell 2;obtain⟨s3,-⟩:=j.cell 3;clear al V j)
    | (go_at_call_of 132 (Value.int .i64 (l.length:Int));refine(am.o _).mono ?_;rintro e W5 ⟨v5,rfl,ac,G⟩;have q:=ay.o.below G zL;have aN:=ZZ q;have Q:=ZZ (ap.o.trans (G.mono ap.o.size));have aF:=ZZ (aL.o.below G zL);have aS:=ZZ (av.o.below G zL);obtain⟨a5,c5,rfl,-⟩:=ac.rd;have aI:=ZZ ac.rd;obtain⟨t0,-⟩:=q.cell 0;obtain⟨t1,-⟩:=q.cell 1;obtain⟨t2,-⟩:=q.cell 2;obtain⟨t3,-⟩:=q.cell 3;clear ac G q)
    | (go_at_call 131;refine(az.o W5 W5.heap.size _ _ _ rfl aF.o aS.o aI.o).mono ?_;rintro e W6 ⟨v6,rfl,aD,ad⟩;have f:=aN.o.below ad zL;have a0:=ZZ f;have aG:=ZZ (aD.mono Q.o.size);have aE:=ZZ (Q.o.trans (ad.mono Q.o.size));obtain⟨y0,-⟩:=f.cell 0;obtain⟨y1,-⟩:=f.cell 1;obtain⟨y2,-⟩:=f.cell 2;obtain⟨y3,-⟩:=f.cell 3;clear aD ad f))
  clear p0 p1 p2 p3 q0 q1 q2 q3 r0 r1 r2 r3 s0 s1 s2 s3 t0 t1 t2 t3 aR ax aJ ay aN J ab an ap Q aB aH aL aF av aS aI aO ag am T az af;go_wp2
  go_loopw[4,25] (fun vo i wr=>∃ k:Nat,i=.int .i64 k∧k<=l.length∧Hid (Own wr w.heap.size vo (H++Zr (l.take k)))∧Hid (Below w.heap.size w wr)) (fun _ i _=>l.length-(intOf i).toNat)
  case atStart=>exact⟨0,rfl,zai _,by simpa[Zr] using aG,aE⟩
  case round=>
   clear y0 y1 y2 y3 a0 aG aE;obtain⟨k,rfl,hk,ae,O⟩:=hrel;by_cases F:k<l.length
   ·rcases ba.o with E | ⟨c,aQ,rfl,hc⟩
    ·rw[E] at F;simp at F
    have be:wr.cell? ⟨c,aQ+k,none⟩=some (.int .i64 (l.getD k 0)):=(O.out.cell (zau w ⟨c,aQ+k,none⟩ (hc k F))).trans (hc k F);have aM:Hid (I64 (l.getD k 0)):=Zwx HI.o k;have aU:=ZZ (a6.o (l.getD k 0) aM.o)
    have a7:Hid ((H++Zr (l.take k)).length+(Lib.uvarint (Lib.zigzag (l.getD k 0))).length<=70368744177664):=by
     refine ZZ ?_;have:=a8.o k;have:=Zwv aM.o;rw[length_append];omega
    have T:Hid ((H++Zr (l.take k))++Lib.uvarint (Lib.zigzag (l.getD k 0))=H++Zr (l.take (k+1))):=by
     refine ZZ ?_;rw[ZsF l k F,append_assoc]
    clear hc;generalize l.getD k 0=y at *;generalize H++Zr (l.take k)=P at *;generalize Lib.uvarint (Lib.zigzag y)=D at *
    go_wp2_with fail
    refine(aU.o _).mono ?_;rintro e W7 ⟨v7,rfl,au,ai⟩;have a1:=ZZ au.rd;have a3:=ZZ (ae.out.below ai zL);have aC:=ZZ (O.out.trans (ai.mono O.out.size));have aW:=ZZ aC.o.size;clear au ai
    go_wp2_with(at_builtin;refine Xw _ rfl _ _ rfl w.heap.size _ P rfl a3.o _ D rfl a1.o a7.o aW.o ?_)
    intro v8 W8 ak aA;rw[T.o] at ak;have bb:=ZZ ak;have a9:=ZZ (aC.o.trans aA);clear ak aA;go_wp2;go_roundw
    case rel=>exact⟨k+1,by go_num,by omega,bb,a9⟩
    case measure=>simp[intOf];omega
   ·have aK:l.take k=l:=take_of_length_le (by omega)
    rw[aK] at ae;clear aK;go_wp2;go_ret2;exact⟨_,rfl,ae.out.rd,O.out⟩
 ·simp only [zaa b]
  have HT:=ZZ (zae b);clear b
  go_enter func141,ntmps141
  go_wp2_with fail
  refine(af.o _ (d.o _)).mono ?_;rintro e W1 ⟨rfl,u⟩;rw[HT.o];have J:=ZZ ((d.o _).trans (u.mono (d.o _).size));clear u;go_wp2;go_ret2;exact⟨_,rfl,Rd.nil _,J.o⟩
def ZyU (i n m:Nat):List UInt8:=115::(Lib.uvarint 3++(Lib.uvarint i++(Lib.uvarint n++Lib.leBytes 4 m)))
theorem Zxr (i:Nat) (l:List UInt8):ZyU i l.length (Q2 0 l)=Zbn i l:=rfl
theorem Zvs (W:World) (N:Nat) (a:N=W.heap.size):Rd (W.alloc (.cells #[.int .u8 115] 5)) (.slice (some ⟨N,0,none⟩) 1 1) [115]:=by
 subst a;refine⟨some ⟨W.heap.size,0,none⟩,1,rfl,zat _,by unfold maxLen;omega,(fun h=>by cases h),.inr ⟨W.heap.size,0,rfl,fun j b=>?_⟩⟩
 have e:j=0:=by simpa using b
 subst e;rw[zam _ W.heap.size _ _ 5 (0,0) (zaf W _)];rfl
theorem ZzO (W:World) (N:Nat) (a:N=W.heap.size):Rd (W.alloc (.cells #[.int .u8 115] 5)).drew (.slice (some ⟨N,0,none⟩) 1 1) [115]:=
 (Zvs W N a).below (((zac _ _)).drew) zL
theorem ZyV (W:World) (N:Nat) (q:N=W.heap.size) (k l i m g:Value) (c f d a b:List UInt8) (t:Rd W k c) (A:Rd W l f) (u:Rd W i d) (p:Rd W m a) (y:Rd W g b) (B:c.length+f.length+d.length+a.length+b.length<=1000000):
 Calls prog 131 #[.slice (some ⟨N,0,none⟩) 5 5] (W.alloc (.cells #[k,l,i,m,g] 53)) fun e w'=>∃ v',e=.returned v'∧Own w' W.heap.size v' (c++(f++(d++(a++b))))∧Below W.heap.size W w':=by
 have v:=RdL.built W N q #[k,l,i,m,g] [c,f,d,a,b] (by simp) (fun j x=>by
  match j,x with
  | 0,_=>exact⟨k,rfl,t⟩
  | 1,_=>exact⟨l,rfl,A⟩
  | 2,_=>exact⟨i,rfl,u⟩
  | 3,_=>exact⟨m,rfl,p⟩
  | 4,_=>exact⟨g,rfl,y⟩)
 refine(Zdi _ _ _ v (by simp;omega) (by simp)).mono ?_
 rintro e w' ⟨v',rfl,n,w⟩;have z:[c,f,d,a,b].flatten=c++(f++(d++(a++b))):=by simp
 rw[z] at n;exact⟨v',rfl,n.mono (by simp),((zac _ _).alloc zL _).trans (w.mono (by simp))⟩
def Bm (w:World) (b:Nat) (x y z:Value):Prop:=w.heap[b]?=some (.cells #[x,y,z] 147 (0,0))
theorem Bm.lt (h:Bm w b x y z):b<w.heap.size:=(zan.1 h).1
theorem Bm.below (h:Bm w b x y z) (a:Below B w w') (c:w.heap.size<=B):Bm w' b x y z:=(a.block b (by have:=h.lt;omega)).trans h
theorem Bm.cells (h:Bm w b x y z):w.cell? ⟨b,0,none⟩=some x∧w.cell? ⟨b,1,none⟩=some y∧w.cell? ⟨b,2,none⟩=some z:=
 ⟨zam w b 0 _ _ _ h,zam w b 1 _ _ _ h,zam w b 2 _ _ _ h⟩
theorem Zxs (i n:Int) (m:Nat) (w:World) (hi:0<=i∧i<4611686018427387904) (hn:0<=n∧n<4611686018427387904) (hm:m<4294967296):
 Calls prog 101 #[.agg #[.int .i64 i,.int .i64 n,.int .u32 (m:Int)]] w fun e w'=>∃ v',e=.returned v'∧Own w' w.heap.size v' (ZyU i.toNat n.toNat m)∧Below w.heap.size w w':=by
 have ac:Hid (∀ k W,0<=k->k<4611686018427387904->Calls prog 132 #[.slice none 0 0,.int .i64 k] W fun e w'=>∃ v',e=.returned v'∧Own w' W.heap.size v' (Lib.uvarint k.toNat)∧Below W.heap.size W w'):=ZZ (fun k W h0 h1=>by
  have h:=ZbE (.slice none 0 0) [] k W (Rd.nil W) (by simp)
  rw[J0 h0 h1,nil_append] at h
  exact h)
 have aq:=ZZ (fun W=>ac.o 3 W (by omega) (by omega))
 have ad:=ZZ (fun W=>ac.o i W hi.1 hi.2)
 have af:=ZZ (fun W=>ac.o n W hn.1 hn.2)
 have aa:=ZZ (fun W=>ZhX m W hm)
 have q1:(Lib.uvarint (3:Int).toNat).length<=10:=Gh (by decide)
 have q2:(Lib.uvarint i.toNat).length<=10:=Gh (by omega)
 have q3:(Lib.uvarint n.toNat).length<=10:=Gh (by omega)
 have q4:(Lib.leBytes 4 m).length<=10:=by rw[zcq];decide
 have HE:Hid (ZyU i.toNat n.toNat m=[115]++(Lib.uvarint (3:Int).toNat++(Lib.uvarint i.toNat++(Lib.uvarint n.toNat++Lib.leBytes 4 m)))):=ZZ rfl;rw[HE.o];have al:=ZZ (fun W N v0 v1 v2 Z V hN h0 h1 h2 h3 h4=>ZyV W N hN v0 v1 v2 Z V [115] (Lib.uvarint (3:Int).toNat) (Lib.uvarint i.toNat) (Lib.uvarint n.toNat) (Lib.leBytes 4 m) h0 h1 h2 h3 h4 (by simp only [length_singleton];omega))
 generalize Lib.uvarint (3:Int).toNat=L1 at *;generalize Lib.uvarint i.toNat=L2 at *;generalize Lib.uvarint n.toNat=L3 at *;generalize Lib.leBytes 4 m=L4 at *;generalize [115]++(L1++(L2++(L3++L4)))=LL at *;obtain⟨M,hM⟩:∃ M:Int,M=(m:Int):=⟨_,rfl⟩;rw[<-hM] at aa ⊢;clear hM HE ac q1 q2 q3 q4 hi hn hm;obtain⟨a,U⟩:=zgy (w.alloc (.cells #[.int .i64 i,.int .i64 n,.int .u32 M] 147));have R:Hid (Below w.heap.size w a):=ZZ (by rw[U];exact(zac _ _).alloc zL _)
 have ar:Hid (Bm a w.heap.size (.int .i64 i) (.int .i64 n) (.int .u32 M)):=ZZ (by rw[U];exact zaf w _)
 have l:Hid (∀ W,Below a.heap.size a W->W.cell? ⟨w.heap.size,0,none⟩=some (.int .i64 i)∧W.cell? ⟨w.heap.size,1,none⟩=some (.int .i64 n)∧W.cell? ⟨w.heap.size,2,none⟩=some (.int .u32 M)):=ZZ (fun W h=>(ar.o.below h zL).cells)
 have B:Hid (∀ W X,Below a.heap.size a W->Below a.heap.size a (W.alloc X)):=ZZ (fun W X h=>h.alloc h.size X)
 have av:Hid (∀ W,Below a.heap.size a W->Below a.heap.size a W.drew):=ZZ (fun W h=>h.drew)
 have ae:Hid (Below a.heap.size a a.drew):=ZZ ((zac _ _).drew);have ai:Hid (Below a.heap.size a (a.alloc (.cells #[.int .u8 115] 5)).drew):=ZZ (((zac _ _).alloc zL _).drew)
 go_enter func101,ntmps101
 go_upto_region 1 with fail
 rw[<-U];clear U;have E:Hid (∀ args w,(callFunc 132 args).run prog w=.ok (.enter 132 args) w):=ZZ (enters_of func132 (by kernel_rfl) rfl)
 have ag:Hid (∀ args w,(callFunc 135 args).run prog w=.ok (.enter 135 args) w):=ZZ (enters_of func135 (by kernel_rfl) rfl)
 have am:Hid (∀ args w,(callFunc 131 args).run prog w=.ok (.enter 131 args) w):=ZZ (enters_of func131 (by kernel_rfl) rfl)
 go_region_held2(fun w'=>w'.cell? ⟨w.heap.size,0,none⟩=some (.int .i64 i)∧w'.cell? ⟨w.heap.size,1,none⟩=some (.int .i64 n)∧w'.cell? ⟨w.heap.size,2,none⟩=some (.int .u32 M))
  (first | (with_reducible exact l.o _ ae.o) | (with_reducible exact l.o _ ai.o) | (with_reducible exact l.o _ aj) | (with_reducible exact l.o _ v) | (with_reducible exact l.o _ x) | (with_reducible exact l.o _ y) | (with_reducible exact l.o _ z) | (with_reducible exact l.o _ (B.o _ _ v)) | (with_reducible exact l.o _ (B.o _ _ x)) | (with_reducible exact l.o _ (B.o _ _ y)) | (with_reducible exact l.o _ (B.o _ _ z)) | (with_reducible exact l.o _ (B.o _ _ (B.o _ _ v))))
  (first
   | ((with_reducible refine Y4 132 _ _ rfl rfl #[.slice none 0 0,.int .i64 3] (by simp[Act.eval]) E.o (aq.o a.drew) ?_);rintro v1 j ⟨F,G⟩;have z:Below a.heap.size a j:=ae.o.trans (G.mono ae.o.size);obtain⟨a1,c1,c,-⟩:=F.rd;subst c;have S:=ZZ F.rd;clear F G)
   | ((with_reducible refine Y4 132 _ _ rfl rfl #[.slice none 0 0,.int .i64 3] (by simp[Act.eval]) E.o (aq.o (a.alloc (.cells #[.int .u8 115] 5)).drew) ?_);rintro v1 j ⟨F,G⟩;have z:Below a.heap.size a j:=ai.o.trans (G.mono ai.o.size);have au:=ZZ ((ZzO a _ rfl).below G zL);obtain⟨a1,c1,c,-⟩:=F.rd;subst c;have S:=ZZ F.rd;clear F G)
   | (have p:=au.o;(with_reducible refine Y4 132 _ _ rfl rfl #[.slice none 0 0,.int .i64 i] (by simp[Act.eval]) E.o (ad.o j) ?_);rintro v2 f ⟨u,C⟩;have b:Below j.heap.size j f:=C;have y:Below a.heap.size a f:=z.trans (b.mono z.size);have ao:=ZZ (p.below b zL);clear p;have I:=ZZ (S.o.below b zL);clear b;obtain⟨a2,c2,c,-⟩:=u.rd;subst c;have O:=ZZ u.rd;clear u C)
   | ((with_reducible refine Y4 132 _ _ rfl rfl #[.slice none 0 0,.int .i64 i] (by simp[Act.eval]) E.o (ad.o j) ?_);rintro v2 f ⟨u,C⟩;have b:Below j.heap.size j f:=C;have y:Below a.heap.size a f:=z.trans (b.mono z.size);have I:=ZZ (S.o.below b zL);clear b;obtain⟨a2,c2,c,-⟩:=u.rd;subst c;have O:=ZZ u.rd;clear u C)
   | ((with_reducible refine Y4 132 _ _ rfl rfl #[.slice none 0 0,.int .i64 i] (by simp[Act.eval]) E.o (ad.o (j.alloc (.cells #[.int .u8 115] 5))) ?_);rintro v2 f ⟨u,C⟩;have b:Below j.heap.size j f:=((zac _ _).alloc zL _).trans (C.mono (by simp));have y:Below a.heap.size a f:=z.trans (b.mono z.size);have ao:=ZZ ((Zvs j _ rfl).below C zL);have I:=ZZ (S.o.below b zL);clear b;obtain⟨a2,c2,c,-⟩:=u.rd;subst c;have O:=ZZ u.rd;clear u C)
   | (have p:=ao.o;(with_reducible refine Y4 132 _ _ rfl rfl #[.slice none 0 0,.int .i64 n] (by simp[Act.eval]) E.o (af.o f) ?_);rintro Z d ⟨q,A⟩;have b:Below f.heap.size f d:=A;have x:Below a.heap.size a d:=y.trans (b.mono y.size);have ak:=ZZ (p.below b zL);clear p;have K:=ZZ (I.o.below b zL);have J:=ZZ (O.o.below b zL);clear b;obtain⟨a3,c3,c,-⟩:=q.rd;subst c;have L:=ZZ q.rd;clear q A)
   | ((with_reducible refine Y4 132 _ _ rfl rfl #[.slice none 0 0,.int .i64 n] (by simp[Act.eval]) E.o (af.o f) ?_);rintro Z d ⟨q,A⟩;have b:Below f.heap.size f d:=A;have x:Below a.heap.size a d:=y.trans (b.mono y.size);have K:=ZZ (I.o.below b zL);have J:=ZZ (O.o.below b zL);clear b;obtain⟨a3,c3,c,-⟩:=q.rd;subst c;have L:=ZZ q.rd;clear q A)
   | ((with_reducible refine Y4 132 _ _ rfl rfl #[.slice none 0 0,.int .i64 n] (by simp[Act.eval]) E.o (af.o (f.alloc (.cells #[.int .u8 115] 5))) ?_);rintro Z d ⟨q,A⟩;have b:Below f.heap.size f d:=((zac _ _).alloc zL _).trans (A.mono (by simp));have x:Below a.heap.size a d:=y.trans (b.mono y.size);have ak:=ZZ ((Zvs f _ rfl).below A zL);have K:=ZZ (I.o.below b zL);have J:=ZZ (O.o.below b zL);clear b;obtain⟨a3,c3,c,-⟩:=q.rd;subst c;have L:=ZZ q.rd;clear q A)
   | (have p:=ak.o;(with_reducible refine Y4 135 _ _ rfl rfl #[.int .u32 M] (by simp[Act.eval]) ag.o (aa.o d) ?_);rintro V g ⟨t,D⟩;have b:Below d.heap.size d g:=D;have v:Below a.heap.size a g:=x.trans (b.mono x.size);have an:=ZZ (p.below b zL);clear p;have Y:=ZZ (K.o.below b zL);have ab:=ZZ (J.o.below b zL);have Q:=ZZ (L.o.below b zL);clear b;obtain⟨a4,c4,c,-⟩:=t.rd;subst c;have T:=ZZ t.rd;clear t D)
   | ((with_reducible refine Y4 135 _ _ rfl rfl #[.int .u32 M] (by simp[Act.eval]) ag.o (aa.o d) ?_);rintro V g ⟨t,D⟩;have b:Below d.heap.size d g:=D;have v:Below a.heap.size a g:=x.trans (b.mono x.size);have Y:=ZZ (K.o.below b zL);have ab:=ZZ (J.o.below b zL);have Q:=ZZ (L.o.below b zL);clear b;obtain⟨a4,c4,c,-⟩:=t.rd;subst c;have T:=ZZ t.rd;clear t D)
   | ((with_reducible refine Y4 135 _ _ rfl rfl #[.int .u32 M] (by simp[Act.eval]) ag.o (aa.o (d.alloc (.cells #[.int .u8 115] 5))) ?_);rintro V g ⟨t,D⟩;have b:Below d.heap.size d g:=((zac _ _).alloc zL _).trans (D.mono (by simp));have v:Below a.heap.size a g:=x.trans (b.mono x.size);have an:=ZZ ((Zvs d _ rfl).below D zL);have Y:=ZZ (K.o.below b zL);have ab:=ZZ (J.o.below b zL);have Q:=ZZ (L.o.below b zL);clear b;obtain⟨a4,c4,c,-⟩:=t.rd;subst c;have T:=ZZ t.rd;clear t D)
   | (have p:=an.o;(with_reducible refine Y4 131 _ _ rfl rfl #[.slice (some ⟨g.heap.size,0,none⟩) 5 5] (by simp[Act.eval]) am.o (al.o g g.heap.size _ _ _ _ _ rfl p Y.o ab.o Q.o T.o) ?_);rintro v5 W5 ⟨H,P⟩;have aj:Below a.heap.size a W5:=v.trans (P.mono v.size);have ap:=ZZ (H.mono (zas R.o.size v.size));clear H P p)
   | (refine Y4 131 _ _ rfl rfl #[.slice (some ⟨g.heap.size+1,0,none⟩) 5 5] (by simp[Act.eval]) am.o (al.o (g.alloc (.cells #[.int .u8 115] 5)) (g.heap.size+1) _ _ _ _ _ (by simp) (Zvs g _ rfl) (Y.o.below ((zac _ _).alloc zL _) zL) (ab.o.below ((zac _ _).alloc zL _) zL) (Q.o.below ((zac _ _).alloc zL _) zL) (T.o.below ((zac _ _).alloc zL _) zL)) ?_;rintro v5 W5 ⟨H,P⟩;have aj:Below a.heap.size a W5:=(B.o _ _ v).trans (P.mono (B.o _ _ v).size);have ap:=ZZ (H.mono (zas R.o.size (B.o _ _ v).size));clear H P))
 all_goals
  go_wp2;go_ret;exact⟨_,rfl,ap.o,R.o.trans (aj.mono R.o.size)⟩
theorem ZpF (t:List Ent) (q:Nat) (a:q<t.length):Yw (t.take (q+1))=Yw (t.take q)++ZoG (t.getD q Xi):=by
 have b:t.take (q+1)=t.take q++[t.getD q Xi]:=by
  rw[take_add_one,za3 a];simp[List.getD,a]
 rw[b];unfold Yw;rw[zf0];simp
theorem ZlR (t:List Ent) (q:Nat):(Yw (t.take q)).length<=(Yw t).length:=by
 have h:Yw t=Yw (t.take q)++Yw (t.drop q):=by
  unfold Yw;rw[<-zf0,zbz]
 rw[h,length_append];omega
theorem ZpG (v:Value) (s:Q0) (w:World) (hs:SnV w v s) (i:Z6 s):
 Calls prog 99 #[v] w fun e w'=>∃ v',e=.returned v'∧Own w' w.heap.size v' (Xt s)∧Below w.heap.size w w':=by
 obtain⟨vl,vt,rfl,Q,z,x,ht,hi⟩:=hs;have a4:=Zer i.2.1;have aZ:=ZhM i.2.2;have az:=Zay i;have aX:=ZoQ i.2.1;have K:=ZZ (fun W (h:Below w.heap.size w W)=>ZiF (.agg #[.int .i64 s.st.kind,vl,.bool s.st.shut,.int .i64 s.st.eng]) s.st W ⟨vl,rfl,Q.below h zL,z,x⟩ (by omega))
 unfold ZAp at K;rw[zab i.2.1,zab i.2.1] at K;have aP:Hid (∀ q,q<s.tab.length->Zbm (s.tab.getD q Xi)):=ZZ (fun q hq=>(i.2.2 q hq).1)
 have C:Hid (∀ b l k W,Rd W b l->l.length<=10000->0<=k->k<4611686018427387904->Calls prog 132 #[b,.int .i64 k] W fun e w'=>∃ v',e=.returned v'∧Own w' W.heap.size v' (l++Lib.uvarint k.toNat)∧Below W.heap.size W w'):=ZZ (fun b l k W h Q y m=>by
  have h:=ZbE b l k W h (by omega)
  rw[J0 y m] at h
  exact h)
 have aJ:Hid (∀ b l k W,Rd W b l->l.length<=10000->I64 k->Calls prog 142 #[b,.int .i64 k] W fun e w'=>∃ v',e=.returned v'∧Own w' W.heap.size v' (l++Lib.uvarint (Lib.zigzag k))∧Below W.heap.size W w'):=ZZ (fun b l k W h Q z=>Gj b l k W h (by omega) z.1 z.2)
 have aQ:Hid (∀ q,q<s.tab.length->Yw (s.tab.take (q+1))=Yw (s.tab.take q)++ZoG (s.tab.getD q Xi)):=ZZ (fun q hq=>ZpF _ q hq)
 have aU:Hid (∀ q,(Yw (s.tab.take q)).length<=(Yw s.tab).length):=ZZ (fun q=>ZlR _ q)
 have HW:Hid (Xt s=(Lib.uvarint (Zeq s.st).length++(Zeq s.st++Lib.uvarint s.tab.length))++Yw s.tab):=ZZ (by
  unfold Xt Zyg
  simp only [append_assoc])
 have aL:Hid ((Lib.uvarint (Zeq s.st).length++(Zeq s.st++Lib.uvarint s.tab.length)).length+(Yw s.tab).length<=5000):=ZZ (by
  rw[HW.o,length_append] at az
  exact az)
 rw[HW.o];have u1:(Lib.uvarint (Zeq s.st).length).length<=10:=Gh (by omega)
 have u3:(Lib.uvarint s.tab.length).length<=10:=Gh (by omega)
 have aT:Hid (∀ W,Calls prog 132 #[.slice none 0 0,.int .i64 ((Zeq s.st).length:Int)] W fun e w'=>∃ v',e=.returned v'∧Own w' W.heap.size v' (Lib.uvarint (Zeq s.st).length)∧Below W.heap.size W w'):=ZZ (fun W=>by
  have h:=C.o (.slice none 0 0) [] ((Zeq s.st).length:Int) W (Rd.nil W) (by simp) (by omega) (by omega)
  rw[nil_append,za9] at h
  exact h)
 have aa:Hid (∀ W,Calls prog 132 #[.slice none 0 0,.int .i64 (s.tab.length:Int)] W fun e w'=>∃ v',e=.returned v'∧Own w' W.heap.size v' (Lib.uvarint s.tab.length)∧Below W.heap.size W w'):=ZZ (fun W=>by
  have h:=C.o (.slice none 0 0) [] (s.tab.length:Int) W (Rd.nil W) (by simp) (by omega) (by omega)
  rw[nil_append,za9] at h
  exact h)
 have aG:Hid (∀ W N v0 b D,N=W.heap.size->Rd W v0 (Lib.uvarint (Zeq s.st).length)->Rd W b (Zeq s.st)->Rd W D (Lib.uvarint s.tab.length)->Calls prog 131 #[.slice (some ⟨N,0,none⟩) 3 3] (W.alloc (.cells #[v0,b,D] 53)) fun e w'=>∃ v',e=.returned v'∧Own w' W.heap.size v' (Lib.uvarint (Zeq s.st).length++(Zeq s.st++Lib.uvarint s.tab.length))∧Below W.heap.size W w'):=ZZ (fun W N v0 b D hN y m Z=>Zvk W N hN v0 b D _ _ _ y m Z (by omega))
 obtain⟨J,R,bc,-,-,-,-,aV⟩:=ht;subst bc;have aE:=ZZ aV;obtain⟨la,lc,aY,-⟩:=Q;subst aY;obtain⟨idx,⟨kind,L,U,T⟩,d⟩:=s
 dsimp only at *
 clear z x hi i a4 az aX u1 u3 HW aV;have bt:(d.length:Int)<=65:=by omega
 clear aZ;generalize Zeq ⟨kind,L,U,T⟩=ES at *;generalize Lib.uvarint ES.length=U1 at *;generalize Lib.uvarint d.length=U3 at *;generalize U1++(ES++U3)=H at *;obtain⟨G,O⟩:=zgy (w.alloc (.cells #[.int .i64 idx,.int .i64 kind,.slice la L.length lc,.bool U,.int .i64 T,.slice J d.length R] 41));have I:Hid (Below w.heap.size w G):=ZZ (by rw[O];exact(zac _ _).alloc zL _)
 have u:Hid (Bn G w.heap.size #[.int .i64 idx,.int .i64 kind,.slice la L.length lc,.bool U,.int .i64 T,.slice J d.length R]):=ZZ (by rw[O];exact zaf w _)
 obtain⟨p1,-⟩:=u.o.cell 1;obtain⟨p2,-⟩:=u.o.cell 2;obtain⟨p3,-⟩:=u.o.cell 3;obtain⟨p4,-⟩:=u.o.cell 4
 go_enter func99,ntmps99
 go_upto_region 1 with fail
 rw[<-O];clear O
 go_wp2_with fail
 refine(K.o _ I.o).mono ?_;rintro e W1 ⟨b,rfl,aA,au⟩;have ax:=ZZ (u.o.below au zL);have aq:=ZZ (I.o.trans (au.mono I.o.size));have aD:=ZZ aA;obtain⟨a1,c1,bl,-⟩:=aA;subst bl;obtain⟨q5,-⟩:=ax.o.cell 5;clear au K u I p1 p2 p3 p4
 go_upto_region 2 with fail
 go_cut[5] (fun vo wc=>Hid (Own wc w.heap.size vo H)∧Hid (Bn wc w.heap.size #[.int .i64 idx,.int .i64 kind,.slice la L.length lc,.bool U,.int .i64 T,.slice J d.length R])∧Hid (Below w.heap.size w wc))
 case first=>
  go_region_held(fun w'=>w'.cell? ⟨w.heap.size,5,none⟩=some (.slice J d.length R)) (go_keep)
   (first
    | (go_at_call_of 132 (Value.int .i64 (ES.length:Int));refine(aT.o _).mono ?_;rintro e W2 ⟨D,rfl,ap,aS⟩;have S:Below W1.heap.size W1 W2:=((zac _ _).drew).trans aS;have av:=ax.o.below S zL;have a8:=ZZ av;have aC:=ZZ (aq.o.trans (S.mono aq.o.size));have bp:=ZZ (aD.o.below S zL);obtain⟨a2,c2,rfl,-⟩:=ap.rd;have be:=ZZ ap.rd;obtain⟨r5,-⟩:=av.cell 5;clear ap aS av S)
    | (go_at_call_of 132 (Value.int .i64 (d.length:Int));refine(aa.o _).mono ?_;rintro e W3 ⟨v3,rfl,ai,A⟩;have af:=a8.o.below A zL;have bn:=ZZ af;have ao:=ZZ (aC.o.trans (A.mono aC.o.size));have bi:=ZZ (bp.o.below A zL);have bm:=ZZ (be.o.below A zL);obtain⟨a3,c3,rfl,-⟩:=ai.rd;have a9:=ZZ ai.rd;obtain⟨s5,-⟩:=af.cell 5;clear ai A af)
    | (go_at_call 131;refine(aG.o W3 W3.heap.size _ _ _ rfl bm.o bi.o a9.o).mono ?_;rintro e W4 ⟨v4,rfl,aM,ar⟩;have ae:=bn.o.below ar zL;have ba:=ZZ ae;have bo:=ZZ (ao.o.trans (ar.mono ao.o.size));have a5:=ZZ (aM.mono ao.o.size);obtain⟨t5,-⟩:=ae.cell 5;clear aM ar ae))
  all_goals
   go_wp2_with fail
   go_meet
   exact⟨a5,ba,bo⟩
 case rest=>
  obtain⟨WC,rfl⟩:=zgy wc;obtain⟨HO,HX,HB⟩:=hcut;obtain⟨bg,-⟩:=HX.o.cell 5;clear ax aq aD q5 aT aa aG;go_wp2
  go_loopw[5,27] (fun vo vi wr=>∃ q:Nat,vi=.int .i64 (q:Int)∧q<=d.length∧Hid (Own wr w.heap.size vo (H++Yw (d.take q)))∧Hid (Below w.heap.size w wr)) (fun _ vi _=>d.length-(intOf vi).toNat)
  case atStart=>exact⟨0,rfl,zai _,by simpa[Yw] using HO,HB⟩
  case round=>
   clear HO HX HB bg;obtain⟨q,rfl,hq,V,B⟩:=hrel;by_cases t:q<d.length
   case neg=>
    obtain rfl:q=d.length:=by omega
    rw[zb1] at V;go_wp2;go_ret;exact⟨_,rfl,V.out,B.out⟩
   have bu:(q:Int)<(d.length:Int):=by omega
   rcases aE.o with y | ⟨c,bw,rfl,hc⟩
   ·rw[y] at t;simp at t
   obtain⟨c0,c1,c2⟩:=(hc q t).keep (B.out.block c (hc q t).lt);have an:=ZZ (aP.o q t);have X:=ZZ (aQ.o q t)
   have ac:Hid ((H++Yw (d.take q)).length<=5000):=ZZ (by
    have m:=aU.o q;have Z:=aL.o;rw[length_append]
    omega)
   obtain⟨e,x⟩:=zgy (d.getD q Xi);rw[<-x] at c0 c1 c2 an X;clear x hc aP aQ aU aE aL;obtain⟨f,g,n⟩:=e;have aI:Hid (ZoG ⟨f,g,n⟩=Lib.uvarint f.toNat++(Lib.uvarint g.toNat++Lib.uvarint (Lib.zigzag n))):=ZZ rfl;rw[aI.o,<-append_assoc] at X
   have aK:Hid (H++Yw (d.take (q+1))=(((H++Yw (d.take q))++Lib.uvarint f.toNat)++Lib.uvarint g.toNat)++Lib.uvarint (Lib.zigzag n)):=ZZ (by
    rw[X.o]
    simp only [append_assoc])
   have j:Hid ((0<=f∧f<4611686018427387904)∧(0<=g∧g<4611686018427387904)∧I64 n):=ZZ (by
    obtain⟨m,Z,h3,h4,h5,h6⟩:=an.o
    dsimp only at m Z h3 h4 h5 h6
    exact⟨⟨m,by omega⟩,⟨h3,h4⟩,⟨by omega,by omega⟩⟩)
   have u1:(Lib.uvarint f.toNat).length<=10:=Gh (by have:=j.o;omega)
   have u2:(Lib.uvarint g.toNat).length<=10:=Gh (by have:=j.o;omega)
   dsimp only at c0 c1 c2
   generalize H++Yw (d.take q)=P at *;have a0:=ZZ (fun b W h=>C.o b P f W h (by have:=ac.o;omega) j.o.1.1 j.o.1.2)
   have br:=ZZ (fun b W h=>C.o b (P++Lib.uvarint f.toNat) g W h (by have:=ac.o;rw[length_append];omega) j.o.2.1.1 j.o.2.1.2)
   have ay:=ZZ (fun b W h=>aJ.o b ((P++Lib.uvarint f.toNat)++Lib.uvarint g.toNat) n W h (by have:=ac.o;rw[length_append,length_append];omega) j.o.2.2)
   rw[<-aK.o] at ay;clear C aJ X aI aK ac u1 u2 j an;generalize P++Lib.uvarint f.toNat=P1 at *;generalize P1++Lib.uvarint g.toNat=P2 at *;obtain⟨P3,aw⟩:=zgy (H++Yw (d.take (q+1)));rw[<-aw] at ay;have aa:=ZZ aw;clear aw
   go_upto_region 6 with fail
   obtain⟨p,F⟩:=zgy (wr.alloc (.cells #[.int .i64 f,.int .i64 g,.int .i64 n] 85));have ag:Hid (Below wr.heap.size wr p):=ZZ (by rw[F];exact(zac _ _).alloc zL _)
   have ab:Hid (Be p wr.heap.size #[.int .i64 f,.int .i64 g,.int .i64 n]):=ZZ (by rw[F];exact zaf wr _)
   rw[<-F];clear F c0 c1 c2;obtain⟨Y,aB⟩:=zgy wr.heap.size;rw[<-aB] at ab ⊢;clear aB;have aR:=ZZ (V.out.rd.below ag.o zL);have aW:=ZZ (B.out.trans (ag.o.mono B.out.size));obtain⟨va,vc,bb⟩:∃ a c,u5=.slice a P.length c:=by obtain⟨a,c,h,-⟩:=aR.o;exact⟨a,c,h⟩
   subst bb;obtain⟨x0,-⟩:=ab.o.cell 0;obtain⟨x1,-⟩:=ab.o.cell 1;clear V B ag
   go_region_held(fun w'=>w'.cell? ⟨Y,0,none⟩=some (.int .i64 f)∧w'.cell? ⟨Y,1,none⟩=some (.int .i64 g)) (go_keep)
    (first
     | (go_at_call_of 132 (Value.int .i64 f);refine(a0.o _ _ (aR.o.below ((zac _ _).drew) zL)).mono ?_;rintro e W6 ⟨v6,rfl,al,aF⟩;have ak:Below p.heap.size p W6:=((zac _ _).drew).trans aF;have M:=ab.o.below ak zL;have bd:=ZZ M;have aO:=ZZ (aW.o.trans (ak.mono aW.o.size));obtain⟨a6,c6,rfl,-⟩:=al.rd;have bj:=ZZ al.rd;obtain⟨y0,-⟩:=M.cell 0;obtain⟨y1,-⟩:=M.cell 1;clear al aF M ak)
     | (go_at_call_of 132 (Value.int .i64 g);refine(br.o _ _ bj.o).mono ?_;rintro e W7 ⟨v7,rfl,ad,am⟩;have E:=bd.o.below am zL;have bv:=ZZ E;have aj:=ZZ (aO.o.trans (am.mono aO.o.size));obtain⟨a7,c7,rfl,-⟩:=ad.rd;have bf:=ZZ ad.rd;obtain⟨z0,-⟩:=E.cell 0;obtain⟨z1,-⟩:=E.cell 1;obtain⟨z2,-⟩:=E.cell 2;clear ad am E))
   all_goals
    go_wp2_with fail
    refine(ay.o _ _ bf.o).mono ?_;rintro e W8 ⟨v8,rfl,aN,aH⟩;have bk:=ZZ (aj.o.trans (aH.mono aj.o.size));have bq:=ZZ (aN.mono aj.o.size);clear aN aH;go_wp2;go_roundw
    case rel=>exact⟨q+1,by go_num,by omega,ZZ (by rw[<-aa.o];exact bq.o),bk⟩
    case measure=>simp[intOf];omega
theorem Zvt (D:Value) (a:St) (B:Value) (b:St) (w:World) (N:StV w D a) (M:StV w B b):
 Calls prog 45 #[D,B] w fun e w'=>e=.returned (.bool (decide (Zmw a b)))∧Below w.heap.size w w':=by
 obtain⟨C,rfl,t,-,-⟩:=N;obtain⟨E,rfl,u,-,-⟩:=M;obtain⟨l,A,n,k⟩:=a;obtain⟨q,v,p,m⟩:=b;simp only at t u ⊢;have H:Hid (∀ W,Below w.heap.size w W->Calls prog 89 #[C,E] W fun e w'=>e=.returned (.bool (decide (A=v)))∧Below W.heap.size W w'):=fun W h=>Zsn C A E v W (t.below h zL) (u.below h zL)
 have f:Hid (∀ x y,Below w.heap.size w ((w.alloc x).alloc y)):=fun x y=>((zac _ _).alloc zL x).alloc (by simp) y
 obtain⟨R,z⟩:=zgy (decide (Zmw ⟨l,A,n,k⟩ ⟨q,v,p,m⟩));rw[<-z];have j:=Qc z;clear z t u;by_cases g:l=q
 ·have P:(l == q)=true:=za8.2 g
  have G:=Qc g;clear g;by_cases d:n=p
  ·have K:(n == p)=true:=za8.2 d
   have I:=Qc d;clear d;by_cases c:k=m
   ·have L:(k == m)=true:=za8.2 c
    have J:=Qc c;clear c
    go_enter func45,ntmps45
    go_wp2_with fail
    refine(H.o _ (f.o _ _)).mono ?_;rintro e Q ⟨rfl,F⟩;have O:=Qc ((f.o _ _).trans (F.mono (f.o _ _).size));clear F;go_wp2;go_ret;refine⟨Y6 ?_,O.o⟩;rw[j.o];exact zcd.2 ⟨fun h=>⟨G.o,I.o,J.o,h⟩,fun h=>h.2.2.2⟩
   ·have L:(k == m)=false:=zad.2 c
    have i:Hid (R=false):=j.o.trans (zae fun h=>c h.2.2.1)
    clear c
    go_enter func45,ntmps45
    go_wp2;go_ret;exact⟨Y6 i.o.symm,f.o _ _⟩
  ·have K:(n == p)=false:=zad.2 d
   have i:Hid (R=false):=j.o.trans (zae fun h=>d h.2.1)
   clear d
   go_enter func45,ntmps45
   go_wp2;go_ret;exact⟨Y6 i.o.symm,f.o _ _⟩
 ·have P:(l == q)=false:=zad.2 g
  have i:Hid (R=false):=j.o.trans (zae fun h=>g h.1)
  clear g
  go_enter func45,ntmps45
  go_wp2;go_ret;exact⟨Y6 i.o.symm,f.o _ _⟩
end Go.Proofs.YtnahjngbneicaaaGreatDoor
