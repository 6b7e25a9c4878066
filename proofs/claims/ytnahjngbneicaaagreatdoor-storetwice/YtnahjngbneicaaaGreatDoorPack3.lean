import Derived.Test.YtnahjngbneicaaaGreatDoorPack2
import Derived.Lib.LazyBuf
import Derived.Deep.Slices
namespace Go.Proofs.YtnahjngbneicaaaGreatDoor
open _root_.Go.Proofs.Tryz
open List (foldl_append length_append map_cons map_nil map_toArray)
set_option maxHeartbeats 2000000
set_option maxRecDepth 100000
open Go.RowKit
variable {w w':World} {v v':Value} {l:List UInt8} {t:TypeId} {B N N' T T' b f m p:Nat} {a n u:Int} {cs:Array Value} {F F' G:Nat->Prop} {c:Ch} {d:Dk} {fs:List Fl}
theorem Rd.only (h:Rd w v l) {F:Nat->Prop} (q:Qj F w w') (m:∀ k,v.ownBlock=some k->¬ F k):Rd w' v l:=by
 obtain⟨ao,cap,rfl,g,p,n,d⟩:=h;refine⟨ao,cap,rfl,g,p,n,?_⟩;rcases d with d | ⟨b,c,rfl,t⟩
 ·exact .inl d
 ·refine .inr ⟨b,c,rfl,fun j i=>?_⟩
  have e:=t j i;have f:b<w.heap.size:=World.block_lt_of_cell? w ⟨b,c+j,none⟩ e;rw[World.cell?_of_block (a:=⟨b,c+j,none⟩) (q.block b f (m b rfl))];exact e
theorem Bk.neMap {n:Nat} {f:Int->Option Nat} (h:Bk t w b cs) (a:Xy w m n f):b≠m:=a.apart h
theorem Own.shape (h:Own w B v l):∃ ao cap,v=.slice ao l.length cap:=by
 obtain⟨ao,cap,a,_⟩:=h.rd;exact⟨ao,cap,a⟩
theorem Own.front {ao:Option Addr} {n cap:Nat} (h:Own w B (.slice ao n cap) l) (k:Nat) (f:k<=l.length):Own w B (.slice ao k cap) (l.take k):=by
 obtain⟨t,d⟩:=h;have b:(l.take k).length=k:=by simp;omega
 refine⟨by rw[Yi,Nat.mul_one],?_⟩
 rcases d with ⟨a,v⟩ | ⟨g,q,cur,a,p,j,u,m,i,c⟩
 ·left
  simp only [Value.slice.injEq] at a;obtain⟨rfl,rfl,rfl⟩:=a;have:k=0:=by omega
  subst this;exact⟨rfl,by rw[b]⟩
 ·right
  simp only [Value.slice.injEq] at a;obtain⟨rfl,x,rfl⟩:=a;refine⟨g,cap,cur,by rw[b],p,j,by rw[b];omega,m,i,?_⟩
  rw[Nat.mul_one] at c ⊢;rw[b];have e:Lib.byteCells (l.take k)=(Lib.byteCells l).take k:=by simp[Lib.byteCells]
  rw[e,<-c,List.take_take,Nat.min_eq_left f]
structure ZlZ (w:World) (b:Nat) (v:Value) (x:Fl):Prop where
 box:Bk 117 w b #[v,.int .i64 (x.k:Int)]
 own:Own w 0 v x.b
theorem ZlZ.keep {x:Fl} (h:ZlZ w b v x) (a:w'.heap[b]?=w.heap[b]?) (c:∀ g,v.ownBlock=some g->w'.heap[g]?=w.heap[g]?):ZlZ w' b v x:=
 ⟨h.box.keep a,Qh h.own c⟩
def ChV (F:Nat->Prop) (w:World) (ps:Nat->Nat):Ch->Value->Prop
 | .give n f,v=>∃ b1 b2,v=.func (.func 139) #[] #[ptr b2,ptr b1]∧Bk 3 w b1 #[.int .i64 n]∧Bk 115 w b2 #[ptr (ps f)]∧F b1∧F b2
 | .move n tz f,v=>∃ b1 b2 b3,v=.func (.func 143) #[] #[ptr b3,ptr b2,ptr b1]∧Bk 3 w b1 #[.int .i64 n]∧Bk 3 w b2 #[.int .i64 tz]∧Bk 115 w b3 #[ptr (ps f)]∧F b1∧F b2∧F b3
 | .take n,v=>∃ b1,v=.func (.func 157) #[] #[ptr b1]∧Bk 3 w b1 #[.int .i64 n]∧F b1
def chOf:Ch->Option Nat
 | .give _ f=>some f
 | .move _ _ f=>some f
 | .take _=>none
theorem ChV.keep {ps q:Nat->Nat} (h:ChV F w ps c v) (e:∀ k,F k->F' k) (t:∀ f,chOf c=some f->q f=ps f)
 (d:∀ k cs,F k->(Bk 3 w k cs∨Bk 115 w k cs)->w'.heap[k]?=w.heap[k]?):ChV F' w' q c v:=by
 cases c with
 | give n f=>
  obtain⟨j,l,rfl,a,g,b,i⟩:=h;exact⟨j,l,rfl,a.keep (d _ _ b (.inl a)),by rw[t f rfl];exact g.keep (d _ _ i (.inr g)),e _ b,e _ i⟩
 | move n tz f=>
  obtain⟨j,l,u,rfl,a,g,p,b,i,m⟩:=h;exact⟨j,l,u,rfl,a.keep (d _ _ b (.inl a)),g.keep (d _ _ i (.inl g)),by rw[t f rfl];exact p.keep (d _ _ m (.inr p)),e _ b,e _ i,e _ m⟩
 | take n=>
  obtain⟨j,rfl,a,b⟩:=h;exact⟨j,rfl,a.keep (d _ _ b (.inl a)),e _ b⟩
structure Lay where
 now:Nat
 kept:Nat
 wv:Value
 cs:List Value
 ps:Nat->Nat
 vs:Nat->Value
structure ZnZ (F:Nat->Prop) (w:World) (L:Lay) (d:Dk) (N:Nat):Prop where
 now:Xy w L.now N (fun n=>(look (Q6 d) n).map L.ps)
 kept:Xy w L.kept N (fun n=>(look d.kept n).map L.ps)
 row:w.ownsRow 0 113 1 L.wv L.cs.length L.cs
 many:L.cs.length=d.waits.length
 wait:∀ (i:Nat) c v,d.waits[i]?=some c->L.cs[i]?=some v->ChV F w L.ps c v
 file:∀ i,i<d.files.length->ZlZ w (L.ps i) (L.vs i) (fl d.files i)
 psn:∀ i j,i<d.files.length->j<d.files.length->i≠j->L.ps i≠L.ps j
 vsn:∀ i j,i<d.files.length->j<d.files.length->i≠j->∀ g,(L.vs i).ownBlock=some g->(L.vs j).ownBlock≠some g
 nk:L.now≠L.kept
 fn:F L.now
 fk:F L.kept
 fw:∀ g,L.wv.ownBlock=some g->F g
 fp:∀ i,i<d.files.length->F (L.ps i)
 fv:∀ i,i<d.files.length->∀ g,(L.vs i).ownBlock=some g->F g
def Zfm (L:Lay) (d:Dk) (u:Int):Array Value:=#[.int .i64 d.room,.int .i64 u,.map (some L.now),.map (some L.kept),L.wv,.int .i64 d.power]
structure Q1 (F:Nat->Prop) (w:World) (p:Nat) (L:Lay) (d:Dk) (u:Int) (N:Nat):Prop where
 head:Bk 69 w p (Zfm L d u)
 rest:ZnZ F w L d N
 fh:F p
 lt:∀ k,F k->k<w.heap.size
theorem ZnZ.keep {L:Lay} (h:ZnZ F w L d N) (b:Bk 69 w p cs) (a:∀ k,F k->k≠p->w'.heap[k]?=w.heap[k]?):ZnZ F w' L d N where
 now:=h.now.keep (a _ h.fn (b.neMap h.now).symm)
 kept:=h.kept.keep (a _ h.fk (b.neMap h.kept).symm)
 row:=Qh h.row fun g f=>a g (h.fw g f) (by obtain⟨l,hb⟩:=J3 h.row f;exact hb.ne b (by decide))
 many:=h.many
 wait:=fun i c v n m=>(h.wait i c v n m).keep (fun _ j=>j) (fun _ _=>rfl) (fun k l j hb=>a k j (by rcases hb with hb | hb <;> exact hb.ne b (by decide)))
 file:=fun i e=>(h.file i e).keep (a _ (h.fp i e) ((h.file i e).box.ne b (by decide))) fun g f=>a g (h.fv i e g f) (by obtain⟨l,hb⟩:=J3 (h.file i e).own f;exact hb.ne b (by decide))
 psn:=h.psn
 vsn:=h.vsn
 nk:=h.nk
 fn:=h.fn
 fk:=h.fk
 fw:=h.fw
 fp:=h.fp
 fv:=h.fv
theorem ZnZ.mono {L:Lay} (h:ZnZ F w L d N) (a:N<=N'):ZnZ F w L d N':=
 ⟨h.now.mono a,h.kept.mono a,h.row,h.many,h.wait,h.file,h.psn,h.vsn,h.nk,h.fn,h.fk,h.fw,h.fp,h.fv⟩
theorem Q1.setHead {L:Lay} (h:Q1 F w p L d u N) (j:Nat) (x:Value) {d':Dk} {u':Int} (f:d'.files=d.files∧d'.kept=d.kept∧d'.waits=d.waits)
 (e:(Zfm L d u).setIfInBounds j x=Zfm L d' u'):Q1 F (w.setCell ⟨p,j,none⟩ x) p L d' u' N:=by
 refine⟨by rw[<-e];exact h.head.set j x,?_,h.fh,fun k b=>?_⟩
 ·have a:=h.rest.keep h.head (w':=w.setCell ⟨p,j,none⟩ x) (fun k _ c=>Below.heap_setCell _ _ _ _ c)
  obtain⟨g,fs,kp,t,q⟩:=d;obtain⟨l,v,m,i,n⟩:=d';obtain⟨rfl,rfl,rfl⟩:=f;exact⟨a.now,a.kept,a.row,a.many,a.wait,a.file,a.psn,a.vsn,a.nk,a.fn,a.fk,a.fw,a.fp,a.fv⟩
 ·have:=h.lt k b
  have y:=((Below.refl 0 w).setCell (p:=⟨p,j,none⟩) (Nat.zero_le _) x).size;omega
theorem Q1.keep {L:Lay} (h:Q1 F w p L d u N) (b:∀ k,F k->w'.heap[k]?=w.heap[k]?) (c:w.heap.size<=w'.heap.size):Q1 F w' p L d u N:=
 ⟨h.head.keep (b p h.fh),h.rest.keep h.head (fun k a _=>b k a),h.fh,fun k a=>by have:=h.lt k a;omega⟩
theorem Q1.only {L:Lay} (h:Q1 F w p L d u N) (b:Qj G w w') (c:∀ k,F k->¬ G k):Q1 F w' p L d u N:=
 h.keep (fun k a=>b.block k (h.lt k a) (c k a)) b.size
theorem Q1.cells {L:Lay} (h:Q1 F w p L d u N):
 (w.cell? ⟨p,0,none⟩=some (.int .i64 d.room)∧w.cell? ⟨p,1,none⟩=some (.int .i64 u)∧w.cell? ⟨p,2,none⟩=some (.map (some L.now))∧w.cell? ⟨p,3,none⟩=some (.map (some L.kept))∧w.cell? ⟨p,4,none⟩=some L.wv∧w.cell? ⟨p,5,none⟩=some (.int .i64 d.power))∧
 w.frozen? ⟨p,1,none⟩=false∧w.frozen? ⟨p,3,none⟩=false∧w.frozen? ⟨p,4,none⟩=false∧w.frozen? ⟨p,5,none⟩=false:=
 ⟨⟨(h.head.cell 0 rfl).1,(h.head.cell 1 rfl).1,(h.head.cell 2 rfl).1,(h.head.cell 3 rfl).1,(h.head.cell 4 rfl).1,(h.head.cell 5 rfl).1⟩,(h.head.cell 1 rfl).2,(h.head.cell 3 rfl).2,(h.head.cell 4 rfl).2,(h.head.cell 5 rfl).2⟩
theorem Q1.setFile {L:Lay} (h:Q1 F w p L d u N) (m:f<d.files.length) {v':Value} {x':Fl}
 (H:∀ k,F k->k≠L.ps f->(L.vs f).ownBlock≠some k->w'.heap[k]?=w.heap[k]?)
 (S:ZlZ w' (L.ps f) v' x') (hr:v'.ownBlock=(L.vs f).ownBlock∨∀ g,v'.ownBlock=some g->w.heap.size<=g)
 (x:∀ k,F k->F' k) (T:∀ g,v'.ownBlock=some g->F' g) (R:∀ k,F' k->k<w'.heap.size):
 Q1 F' w' p { L with vs:=fun i=>if i=f then v' else L.vs i } { d with files:=d.files.set f x' } u N:=by
 have a:=h.rest;have M:=(a.file f m).box
 have J:∀ {t:TypeId} {k:Nat} {cs:Array Value},Bk t w k cs->F k->t≠117->t≠5->w'.heap[k]?=w.heap[k]?:=fun {t k cs} hb B I G=>H k B (hb.ne M I) fun b=>by
  obtain⟨C,y⟩:=J3 (a.file f m).own b;exact(hb.ne y G) rfl
 have P:∀ {k n:Nat} {g:Int->Option Nat},Xy w k n g->F k->w'.heap[k]?=w.heap[k]?:=fun {k n g} hm B=>H k B (M.neMap hm).symm fun b=>by
  obtain⟨C,y⟩:=J3 (a.file f m).own b;exact(y.neMap hm) rfl
 have E:(d.files.set f x').length=d.files.length:=List.length_set ..;refine⟨h.head.keep (J h.head h.fh (by decide) (by decide)),?_,x _ h.fh,R⟩
 refine⟨a.now.keep (P a.now a.fn),a.kept.keep (P a.kept a.fk),Qh a.row fun g b=>?_,a.many,fun i c v I G=>?_,fun i l=>?_,fun i j l z=>?_,fun i j l z K=>?_,a.nk,x _ a.fn,x _ a.fk,fun g b=>x g (a.fw g b),fun i l=>x _ (a.fp i (by rw[<-E];exact l)),fun i l=>?_⟩
 ·obtain⟨C,hb⟩:=J3 a.row b
  exact J hb (a.fw g b) (by decide) (by decide)
 ·exact(a.wait i c v I G).keep x (fun _ _=>rfl) fun k C B hb=>by rcases hb with hb | hb <;> exact J hb B (by decide) (by decide)
 ·have q:i<d.files.length:=by rw[<-E];exact l
  show ZlZ w' (L.ps i) (if i=f then v' else L.vs i) (fl (d.files.set f x') i)
  by_cases e:i=f
  ·rw[if_pos e,e,ZbR m]
   exact S
  ·rw[if_neg e,Zab (fun U=>e U.symm)]
   refine(a.file i q).keep (H _ (a.fp i q) (a.psn i f q m e) fun b=>?_) fun g b=>H g (a.fv i q g b) ?_ (fun A=>a.vsn i f q m e g b A)
   ·obtain⟨C,y⟩:=J3 (a.file f m).own b
    exact((a.file i q).box.ne y (by decide)) rfl
   ·obtain⟨C,y⟩:=J3 (a.file i q).own b
    exact y.ne M (by decide)
 ·rw[E] at l z
  exact a.psn i j l z
 ·rw[E] at l z
  have O:∀ i,i<d.files.length->i≠f->∀ g,(L.vs i).ownBlock=some g->v'.ownBlock≠some g:=fun i l V g b A=>by
   rcases hr with hr | hr
   ·exact a.vsn i f l m V g b (by rw[<-hr];exact A)
   ·have I:=hr g A
    have G:=h.lt g (a.fv i l g b);omega
  show ∀ g,(if i=f then v' else L.vs i).ownBlock=some g->(if j=f then v' else L.vs j).ownBlock≠some g
  intro g;by_cases D:i=f
  ·rw[if_pos D,if_neg (by rw[<-D];exact Ne.symm K)]
   exact fun b A=>O j z (by rw[<-D];exact Ne.symm K) g A b
  ·rw[if_neg D]
   by_cases Q:j=f
   ·rw[if_pos Q]
    exact O i l D g
   ·rw[if_neg Q]
    exact a.vsn i j l z K g
 ·rw[E] at l
  show ∀ g,(if i=f then v' else L.vs i).ownBlock=some g->F' g
  intro g;by_cases e:i=f
  ·rw[if_pos e]
   exact T g
  ·rw[if_neg e]
   exact fun b=>x g (a.fv i l g b)
structure Bnd (d:Dk) (N T:Nat):Prop where
 files:d.files.length<=N
 names:d.kept.length+d.waits.length<=N
 bytes:∀ x ∈ d.files,x.b.length<=T
def Dsk (F:Nat->Prop) (w:World) (p:Nat) (d:Dk) (N T:Nat):Prop:=
 ∃ L,Q1 F w p L d (Zj d) N∧OkD d∧Bnd d N T∧I64 d.room∧I64 d.power
theorem Dsk.only (h:Dsk F w p d N T) (c:Qj G w w') (b:∀ k,F k->¬ G k):Dsk F w' p d N T:=by
 obtain⟨L,a,e⟩:=h;exact⟨L,a.only c b,e⟩
theorem Dsk.below (h:Dsk F w p d N T) (b:Below w.heap.size w w'):Dsk F w' p d N T:=
 h.only (G:=fun _=>False) (Qj.ofBelow b) (fun _ _ a=>a)
theorem Zma {L:Lay} (w:World) (h:Q1 F w p L d u N):
 Calls prog 33 #[ptr p] w fun e w'=>e=.returned (.bool (d.power != 0))∧w'=w:=by
 obtain⟨⟨-,-,-,-,-,a⟩,-⟩:=h.cells
 go_enter func33,ntmps33
 go_wp2;go_ret;exact⟨rfl,rfl⟩
theorem Zmb (n:Int) (w:World):
 Calls prog 94 #[.int .i64 n] w fun e w'=>e=.returned (.bool (ZfK n))∧w'=w:=by
 by_cases a:0<=n
 ·by_cases b:n<1048576
  ·have e:ZfK n=true:=by simp[ZfK,a,b]
   rw[e]
   go_enter func94,ntmps94
   go_wp2;go_ret;exact⟨ZdY (by simp),rfl⟩
  ·have e:ZfK n=false:=by simp[ZfK,a,b]
   rw[e]
   go_enter func94,ntmps94
   go_wp2;go_ret;exact⟨ZdY (by simp),rfl⟩
 ·have e:ZfK n=false:=by simp[ZfK,a]
  rw[e]
  go_enter func94,ntmps94
  go_wp2;go_ret;exact⟨rfl,rfl⟩
theorem Zmc (a:Int) (n:Nat) (d:n<=1000000000000000) (w:World):
 Calls prog 72 #[.int .i64 a,.int .i64 (n:Int)] w fun e w'=>e=.returned (.int .i64 (Zx a n:Int))∧w'=w:=by
 obtain⟨M,b⟩:∃ M:Int,M=(n:Int):=⟨_,rfl⟩;by_cases h:a<0
 ·have e:Zx a n=0:=by simp[Zx,h]
  rw[e,<-b];clear b
  go_enter func72,ntmps72
  go_wp2;go_ret;exact⟨rfl,rfl⟩
 ·have c:=Int.emod_nonneg a (show M+1≠0 by omega)
  have e:((Zx a n:Nat):Int)=a % (M+1):=by
   rw[b] at c ⊢;rw[Zx,if_neg h];omega
  rw[e,<-b];have f:0<=M∧M<=1000000000000000:=by omega
  clear e c b d n
  go_enter func72,ntmps72
  go_wp2;go_ret;exact⟨rfl,rfl⟩
theorem Zmd (q n:Int) (w:World):
 Calls prog 71 #[.int .i64 q,.int .i64 n] w fun e w'=>e=.returned (.int .i64 (if q=0 then 0 else max n 0))∧w'=w:=by
 by_cases h:q=0
 ·rw[if_pos h]
  subst h
  go_enter func71,ntmps71
  go_wp2;go_ret;exact⟨rfl,rfl⟩
 ·rw[if_neg h]
  have e:(q == 0)=false:=by simpa using h
  clear h
  go_enter func71,ntmps71
  go_wp2;go_ret;exact⟨rfl,rfl⟩
theorem Zcb {L:Lay} (w:World) (h:Q1 F w p L d u N) (k:I64 d.power):
 Calls prog 97 #[ptr p] w fun e w'=>e=.returned (.int .i64 0)∧Q1 F w' p L { d with power:=Zcv d.power } u N∧Qj F w w':=by
 have H:=ZZ h;obtain⟨⟨-,-,-,-,-,g⟩,-,-,-,l⟩:=h.cells;obtain⟨j,i⟩:=k;obtain⟨q,a⟩:∃ q,q=d.power:=⟨_,rfl⟩;rw[<-a] at g j i ⊢;by_cases c:q>0
 ·have b:Hid (Zcv q=q-1):=if_pos c
  have f:=ZZ a;clear h a
  go_enter func97,ntmps97
  go_wp2;go_ret;refine⟨rfl,?_,(Qj.refl _ _).setCell 5 (fun _=>H.out.fh) _⟩
  refine H.out.setHead 5 _ ⟨rfl,rfl,rfl⟩ ?_;rw[b.o];rfl
 ·have b:Hid (Zcv q=q):=if_neg c
  have f:=ZZ a;clear h a
  go_enter func97,ntmps97
  go_wp2;go_ret;rw[b.o,f.o];exact⟨rfl,H.out,Qj.refl _ _⟩
theorem ZvN (n:Int) (g:I64 n) (w:World) (h:Dsk F w p d N T):
 Calls prog 30 #[ptr p,.int .i64 n] w fun e w'=>e=.returned (.tuple #[])∧Dsk F w' p (Zvn d n) N T∧Qj F w w':=by
 obtain⟨L,h,f,l,k,i⟩:=h;have H:=ZZ h;have a:=ZZ (And.intro f (And.intro l (And.intro k i)));have v:=ZZ g;obtain⟨⟨-,-,-,-,-,t⟩,-,-,-,z⟩:=h.cells;obtain⟨q,b⟩:∃ q,q=d.power:=⟨_,rfl⟩;have u:=ZZ b;rw[<-b] at t;clear h f l k i b g;have j:=ZZ (Zmd q n w);obtain⟨r,c⟩:∃ r,r=(if q=0 then(0:Int) else max n 0):=⟨_,rfl⟩
 rw[<-c] at j;have m:=ZZ c;clear c
 go_enter func30,ntmps30
 go_wp2_with fail
 refine j.o.mono ?_;rintro e w' ⟨rfl,rfl⟩;go_wp2;go_end0;refine⟨rfl,⟨L,?_,OkD.cut a.o.1 n,⟨a.o.2.1.files,a.o.2.1.names,a.o.2.1.bytes⟩,a.o.2.2.1,?_⟩,(Qj.refl _ _).setCell 5 (fun _=>H.out.fh) _⟩
 ·refine H.out.setHead 5 _ ⟨rfl,rfl,rfl⟩ ?_
  rw[m.o,u.o];rfl
 ·obtain⟨y,x⟩:=v.o
  unfold Zvn I64
  dsimp only
  split <;> omega
theorem Zxo (w:World) (room:Int) (D:I64 room):Dsk (fun k=>w.heap.size<=k∧k<(((w.alloc (.map #[] 0)).alloc (.map #[] 0)).alloc (.cells #[.int .i64 room,.int .i64 0,.map (some w.heap.size),.map (some (w.heap.size+1)),.slice none 0 0,.int .i64 (-1)] 69)).heap.size)
 (((w.alloc (.map #[] 0)).alloc (.map #[] 0)).alloc (.cells #[.int .i64 room,.int .i64 0,.map (some w.heap.size),.map (some (w.heap.size+1)),.slice none 0 0,.int .i64 (-1)] 69)) (w.heap.size+1+1) (ZiS room) 0 0:=by
 have y:=Xy.made w;obtain⟨d,p⟩:∃ d,d=w.alloc (.map #[] 0):=⟨_,rfl⟩;have B:d.heap.size=w.heap.size+1:=by rw[p];simp
 rw[<-p] at y ⊢;have f:=Xy.made d;have z:=y.keep (w':=d.alloc (.map #[] 0)) (Below.heap_alloc _ _ _ (by omega))
 obtain⟨a,m⟩:∃ a,a=d.alloc (.map #[] 0):=⟨_,rfl⟩;have n:a.heap.size=w.heap.size+1+1:=by rw[m];simp[B]
 rw[<-m] at f z ⊢;rw[B] at f;obtain⟨A,u⟩:∃ A:Array Value,A=#[.int .i64 room,.int .i64 0,.map (some w.heap.size),.map (some (w.heap.size+1)),.slice none 0 0,.int .i64 (-1)]:=⟨_,rfl⟩;rw[<-u];have q:=f.keep (w':=a.alloc (.cells A 69)) (Below.heap_alloc _ _ _ (by omega))
 have t:=z.keep (w':=a.alloc (.cells A 69)) (Below.heap_alloc _ _ _ (by omega))
 have e:Bk 69 (a.alloc (.cells A 69)) a.heap.size A:=heap_alloc_new a _;rw[n] at e;have E:(a.alloc (.cells A 69)).heap.size=w.heap.size+1+1+1:=by simp[n]
 obtain⟨l,F⟩:∃ l,l=a.alloc (.cells A 69):=⟨_,rfl⟩;rw[<-F] at q t e E ⊢;refine⟨⟨w.heap.size,w.heap.size+1,.slice none 0 0,[],fun _=>0,fun _=>.slice none 0 0⟩,⟨by rw[u] at e;exact e,?_,⟨by omega,by omega⟩,fun k C=>C.2⟩,ZsN room,⟨Nat.le_refl _,Nat.le_refl _,(fun x H=>by cases H)⟩,D,⟨by show(-9223372036854775808:Int)<=-1;omega,by show(-1:Int)<=9223372036854775807;omega⟩⟩
 refine⟨t,q,World.ownsRow_nil _ _ _ _,rfl,(fun i c v h=>by simp[ZiS] at h),(fun i b=>absurd b (Nat.not_lt_zero _)),(fun i j b=>absurd b (Nat.not_lt_zero _)),(fun i j b=>absurd b (Nat.not_lt_zero _)),(by show w.heap.size≠w.heap.size+1;omega),⟨by show w.heap.size<=w.heap.size;omega,by show w.heap.size<_;omega⟩,⟨by show w.heap.size<=w.heap.size+1;omega,by show w.heap.size+1<_;omega⟩,(fun g G=>by cases G),(fun i b=>absurd b (Nat.not_lt_zero _)),(fun i b=>absurd b (Nat.not_lt_zero _))⟩
theorem Zxp (room:Int) (a:I64 room) (w:World):
 Calls prog 9 #[.int .i64 room] w fun e w'=>∃ p,e=.returned (ptr p)∧Dsk (fun k=>w.heap.size<=k∧k<w'.heap.size) w' p (ZiS room) 0 0∧Below w.heap.size w w':=by
 have b:=ZZ a;clear a;have c:=@run_makeMap prog
 go_enter func9,ntmps9
 go_wp2;go_ret;exact⟨_,rfl,Zxo w room b.o,(((Below.refl _ w).alloc zL _).alloc (by simp) _).alloc (by simp;omega) _⟩
theorem ZgB {L:Lay} (n:Int) (m:I64 n) (w:World) (h:Q1 F w p L d u N):
 Calls prog 103 #[ptr p,.int .i64 n] w fun e w'=>e=.returned (.tuple #[ZpU (if d.power=0 then none else(look (Q6 d) n).map L.ps),.int .i64 (if d.power=0 then 11 else if(look (Q6 d) n).isSome then 0 else 8)])∧w'=w:=by
 have c:=ZZ (Zma w h);obtain⟨⟨-,-,v,-,-,-⟩,-⟩:=h.cells;have a:=h.rest.now.look m;obtain⟨q,g⟩:∃ q,q=d.power:=⟨_,rfl⟩;obtain⟨o,j⟩:∃ o,o=look (Q6 d) n:=⟨_,rfl⟩;rw[<-j] at a;rw[<-g] at c;rw[<-g,<-j];clear h g j m;by_cases b:q=0
 ·subst b
  go_enter func103,ntmps103
  go_wp2_with fail
  refine c.o.mono ?_;rintro e w' ⟨rfl,rfl⟩;go_wp2;go_ret2;exact⟨rfl,rfl⟩
 ·rw[if_neg b,if_neg b]
  have l:(q != 0)=true:=by simpa using b
  rw[l] at c;clear b l
  cases o with
  | none=>
   have t:(Instr.lookup 65 (.map (some L.now)) (.int .i64 n) true).run prog w=.ok (.tuple #[.pointer none,.bool false]) w:=a;clear a
   go_enter func103,ntmps103
   go_wp2_with fail
   refine c.o.mono ?_;rintro e w' ⟨rfl,rfl⟩;go_wp2;go_ret2;exact⟨rfl,rfl⟩
  | some f=>
   have t:(Instr.lookup 65 (.map (some L.now)) (.int .i64 n) true).run prog w=.ok (.tuple #[.pointer (some ⟨L.ps f,0,none⟩),.bool true]) w:=a;clear a;obtain⟨x,i⟩:∃ x,x=L.ps f:=⟨_,rfl⟩;have k:ZpU (Option.map L.ps (some f))=.pointer (some ⟨x,0,none⟩):=by rw[i];rfl
   rw[<-i] at t;rw[k];clear i k
   go_enter func103,ntmps103
   go_wp2_with fail
   refine c.o.mono ?_;rintro e w' ⟨rfl,rfl⟩;go_wp2;go_ret2;exact⟨rfl,rfl⟩
def Gr (F:Nat->Prop) (w w':World) (k:Nat):Prop:=F k∨(w.heap.size<=k∧k<w'.heap.size)
theorem Gr.lt (b:w.heap.size<=w'.heap.size) (a:∀ k,F k->k<w.heap.size):∀ k,Gr F w w' k->k<w'.heap.size:=by
 rintro k (h | h)
 ·have:=a k h;omega
 ·exact h.2
theorem ZvO (n:Int) (x:Nat) (w:World):
 Calls prog 96 #[.int .i64 n,ptr x] w fun e w'=>e=.returned (.func (.func 139) #[] #[ptr (w.heap.size+1),ptr w.heap.size])∧w'=(w.alloc (.cells #[.int .i64 n] 3)).alloc (.cells #[ptr x] 115):=by
 have a:∀ (fn:Fn) (first cap:Array Value) (w:World),(Instr.makeFunc fn first cap).run prog w=.ok (.func fn first cap) w:=fun _ _ _ _=>rfl
 go_enter func96,ntmps96
 go_wp2;go_ret;exact⟨rfl,rfl⟩
theorem Ztm (n a:Int) (x:Nat) (w:World):
 Calls prog 105 #[.int .i64 n,.int .i64 a,ptr x] w fun e w'=>e=.returned (.func (.func 143) #[] #[ptr (w.heap.size+1+1),ptr (w.heap.size+1),ptr w.heap.size])∧w'=((w.alloc (.cells #[.int .i64 n] 3)).alloc (.cells #[.int .i64 a] 3)).alloc (.cells #[ptr x] 115):=by
 have b:∀ (fn:Fn) (first cap:Array Value) (w:World),(Instr.makeFunc fn first cap).run prog w=.ok (.func fn first cap) w:=fun _ _ _ _=>rfl
 go_enter func105,ntmps105
 go_wp2;go_ret;exact⟨rfl,rfl⟩
theorem ZvP (n:Int) (w:World):
 Calls prog 110 #[.int .i64 n] w fun e w'=>e=.returned (.func (.func 157) #[] #[ptr w.heap.size])∧w'=w.alloc (.cells #[.int .i64 n] 3):=by
 have a:∀ (fn:Fn) (first cap:Array Value) (w:World),(Instr.makeFunc fn first cap).run prog w=.ok (.func fn first cap) w:=fun _ _ _ _=>rfl
 go_enter func110,ntmps110
 go_wp2;go_ret;exact⟨rfl,rfl⟩
theorem Zcc (h:ZfK n=true):I64 n:=by
 simp only [ZfK,Bool.and_eq_true,decide_eq_true_eq] at h;exact⟨by omega,by omega⟩
def ZkE (w:World) (b N:Nat) (ps:Nat->Nat) (g:Int->Option Nat) (c:Ch) (e:Ending) (w':World):Prop:=
 e=.returned (.tuple #[])∧Xy w' b (N+1) (fun n=>(chF g c n).map ps)∧w.grownBy w' (some b)
theorem ZcG (w:World) {c:Array Oper} {rest:List Oper} {o:Oper} {a:Act} {Q:Exit->Act->World->Prop} (k:o.guard=none) (m x:Operand)
 (q:o.op=.call { callee:=.builtin .delete,args:=#[m,x],argTypes:=#[65,3] })
 (b N:Nat) (f:Int->Option Nat) (p:Int) (g:a.eval m=.map (some b)) (l:a.eval x=.int .i64 p) (i:Xy w b N f) (t:I64 p)
 (h:∀ w',Xy w' b N (fun m=>if m=p then none else f m)->w.grownBy w' (some b)->wpList prog c Q rest (a.put o.dst (.tuple #[])) w'):wpList prog c Q (o::rest) a w:=
 wpList_plain k fun _ e=>by
  obtain⟨w',n,d,j⟩:=i.del t o.type;unfold Oper.wp execOp;simp only [q,resolve,invoke,builtin,Sem.run_bind,Sem.run_pure,Result.andThen_ok,map_toArray,map_cons,map_nil,g,l,n];exact e _ _ (h w' d j)
theorem ZiX (w:World) {c:Array Oper} {rest:List Oper} {o:Oper} {a:Act} {Q:Exit->Act->World->Prop} (k:o.guard=none) (m:Operand)
 (n:o.op=.call { callee:=.builtin .clear,args:=#[m],argTypes:=#[65] })
 (b N:Nat) (f:Int->Option Nat) (g:a.eval m=.map (some b)) (i:Xy w b N f)
 (h:∀ w',Xy w' b 0 (fun _=>none)->w.grownBy w' (some b)->wpList prog c Q rest (a.put o.dst (.tuple #[])) w'):wpList prog c Q (o::rest) a w:=
 wpList_plain k fun _ e=>by
  obtain⟨w',l,d,j⟩:=i.clear o.type;unfold Oper.wp execOp;simp only [n,resolve,invoke,builtin,Sem.run_bind,Sem.run_pure,Result.andThen_ok,map_toArray,map_cons,map_nil,g,l];exact e _ _ (h w' d j)
theorem Zhq {a b c:World} {r:Nat} (h:a.grownBy b (some r)) (k:b.grownBy c (some r)):a.grownBy c (some r):=h.andThen k (fun _ d=>.inr d)
theorem Zme (l:ZfK n=true) {k j b N:Nat} {ps:Nat->Nat} {g:Int->Option Nat} (w:World) (i:Bk 3 w k #[.int .i64 n]) (c:Bk 115 w j #[ptr (ps f)]) (d:Xy w b N (fun n=>(g n).map ps)) (t:N<=10000000):
 Calls prog 139 #[.map (some b),ptr j,ptr k] w fun e w'=>ZkE w b N ps g (.give n f) e w':=by
 obtain⟨B,z,a,u⟩:=d.put (p:=n) (ps f) (Zcc l) t
 have v:Hid (Xy B b (N+1) (fun n'=>(chF g (.give n f) n').map ps)):=ZZ (a.fun fun q _=>by
  show(if q=n then some (ps f) else(g q).map ps)=(if q=n then some f else g q).map ps
  split <;> rfl)
 have y:=ZZ u;obtain⟨C,-⟩:=i.cell 0 rfl;obtain⟨A,-⟩:=c.cell 0 rfl;obtain⟨x,m⟩:∃ x,x=ps f:=⟨_,rfl⟩;rw[<-m] at z A;clear a u d i c m l t
 go_enter func139,ntmps139
 go_wp2;go_end0;exact⟨rfl,v.o,y.o⟩
theorem Zmf (A:ZfK n=true) (y:ZfK a=true) {l z E b N:Nat} {ps:Nat->Nat} {g:Int->Option Nat} (w:World) (d:Bk 3 w l #[.int .i64 n]) (v:Bk 3 w z #[.int .i64 a]) (B:Bk 115 w E #[ptr (ps f)]) (k:Xy w b N (fun n=>(g n).map ps)) (D:N<=10000000):
 Calls prog 143 #[.map (some b),ptr E,ptr z,ptr l] w fun e w'=>ZkE w b N ps g (.move n a f) e w':=by
 obtain⟨J,I,u,t⟩:=k.put (p:=a) (ps f) (Zcc y) D;obtain⟨L,-⟩:=v.cell 0 rfl;obtain⟨K,-⟩:=B.cell 0 rfl;obtain⟨M,-⟩:=(d.keep (t.block l d.lt (by intro e;exact(d.neMap k) (Option.some.inj e)))).cell 0 rfl
 have F:=ZZ u;have H:=ZZ A
 have G:Hid (∀ c,Xy c b (N+1) (fun m=>if m=n then none else if m=a then some (ps f) else(g m).map ps)->J.grownBy c (some b)->ZkE w b N ps g (.move n a f) (.returned (.tuple #[])) c):=ZZ (fun c j i=>by
  refine⟨rfl,j.fun fun q _=>?_,Zhq t i⟩
  show(if q=n then none else if q=a then some (ps f) else(g q).map ps)=(if q=n then none else if q=a then some f else g q).map ps
  split
  ·rfl
  ·split <;> rfl)
 obtain⟨x,C⟩:∃ x,x=ps f:=⟨_,rfl⟩;rw[<-C] at I K;clear u t k d v B C A y D
 go_enter func143,ntmps143
 go_wp2_with(first | (at_delete;refine ZcG _ rfl _ _ rfl b _ _ n rfl rfl F.o (Zcc H.o) ?_;intro c j i))
 go_end0;exact G.o _ j i
theorem Zmg (f:ZfK n=true) {d b N:Nat} {ps:Nat->Nat} {g:Int->Option Nat} (w:World) (c:Bk 3 w d #[.int .i64 n]) (a:Xy w b N (fun n=>(g n).map ps)):
 Calls prog 157 #[.map (some b),ptr d] w fun e w'=>ZkE w b N ps g (.take n) e w':=by
 obtain⟨m,-⟩:=c.cell 0 rfl;have i:=ZZ a;have l:=ZZ f;clear a f c
 go_enter func157,ntmps157
 go_wp2_with(first | (at_delete;refine ZcG _ rfl _ _ rfl b _ _ n rfl rfl i.o (Zcc l.o) ?_;intro p k j))
 go_end0;refine⟨rfl,(k.mono (Nat.le_succ _)).fun fun q _=>?_,j⟩
 show(if q=n then none else(g q).map ps)=(if q=n then none else g q).map ps
 split <;> rfl
theorem Zxq:(prog.info? 113).map (fun i=>(i.zero,i.size,i.bytes))=some (some .nilFunc,1,8):=by kernel_rfl
theorem ZkF (w:World) (ty:TypeId) (v:Value) (cs:List Value) (h:w.ownsRow 0 113 1 v cs.length cs) (fn:Fn) (b a:Array Value) (p:cs.length<=10000000):
 ∃ v' w',(Builtin.append_ #[67,67] ty #[v,.slice (some ⟨w.heap.size,0,none⟩) 1 1]).run prog (w.alloc (.cells #[.func fn b a] 113))=.ok v' w'∧
  w'.ownsRow 0 113 1 v' (cs++[Value.func fn b a]).length (cs++[Value.func fn b a])∧(w.alloc (.cells #[.func fn b a] 113)).grownBy w' v.ownBlock∧(v'.ownBlock=v.ownBlock∨v'.ownBlock=some (w.heap.size+1)):=by
 obtain⟨n,g,l,f,e⟩:=info_parts Zxq
 obtain⟨v',w',k,m,i,_,hl⟩:=run_append_own_at (P:=prog) (w.alloc (.cells #[.func fn b a] 113)) 0 67 ty 113 n .nilFunc 1 8 underlying67 g l f e rfl (by decide) v cs.length cs (World.ownsRow.alloc h _)
  ⟨w.heap.size,0,none⟩ 1 1 [.func fn b a] rfl (fun j u c=>by
   match j,c with
   | 0,c=>simp at c;subst c;simp[Addr.add]) (fun u d=>by simp at d;subst d;rfl) (by unfold maxLen;omega) (by omega) (Nat.zero_le _)
 refine⟨v',w',k,?_,i,?_⟩
 ·rw[length_append]
  exact m
 ·rcases hl with hl | hl
  ·exact .inl hl
  ·exact .inr (by rw[hl];simp)
theorem ZaB (w:World) {d:Array Oper} {rest:List Oper} {o:Oper} {a:Act} {Q:Exit->Act->World->Prop} (l:o.guard=none) (s x:Operand)
 (q:o.op=.call { callee:=.builtin .append,args:=#[s,x],argTypes:=#[67,67] })
 (v:Value) (cs:List Value) (j:a.eval s=v) (h:w.ownsRow 0 113 1 v cs.length cs) (fn:Fn) (c b:Array Value) (m:a.eval x=.slice (some ⟨w.heap.size,0,none⟩) 1 1) (i:cs.length<=10000000)
 (f:∀ v' w',w'.ownsRow 0 113 1 v' (cs++[Value.func fn c b]).length (cs++[Value.func fn c b])->(w.alloc (.cells #[.func fn c b] 113)).grownBy w' v.ownBlock->(v'.ownBlock=v.ownBlock∨v'.ownBlock=some (w.heap.size+1))->
  wpList prog d Q rest (a.put o.dst v') w'):wpList prog d Q (o::rest) a (w.alloc (.cells #[.func fn c b] 113)):=
 wpList_plain l fun _ g=>by
  obtain⟨v',w',p,e,k,n⟩:=ZkF w o.type v cs h fn c b i;unfold Oper.wp execOp;simp only [q,resolve,invoke,builtin,Sem.run_bind,Sem.run_pure,Result.andThen_ok,map_toArray,map_cons,map_nil,j,m,p];exact g _ _ (f v' w' e k n)
theorem Zmh (h:ZsI m c):∀ n a f,c=.move n a f->n≠a:=by
 rintro n a f rfl;exact h.2.2.1
theorem Ztn (d:Dk) (c:Ch):Q6 { d with waits:=d.waits++[c] }=chD (Q6 d) c:=by
 show(d.waits++[c]).foldl chD d.kept=_;rw[foldl_append];rfl
theorem Q1.addWait {q f:World} {L:Lay} {fn:Fn} {y x:Array Value} (h:Q1 F w p L d u N) (X:ChV F w L.ps c (.func fn y x)) (T:OkD d) (ab:ZsI d.files.length c)
 (I:w.grownBy q (some L.now)) (z:Xy q L.now (N+1) (fun n=>(chF (look (Q6 d)) c n).map L.ps))
 (J:f.ownsRow 0 113 1 v' (L.cs++[Value.func fn y x]).length (L.cs++[Value.func fn y x])) (E:(q.alloc (.cells #[.func fn y x] 113)).grownBy f L.wv.ownBlock) (hv:v'.ownBlock=L.wv.ownBlock∨v'.ownBlock=some (q.heap.size+1)):
 Q1 (Gr F w f) (f.setCell ⟨p,4,none⟩ v') p { L with wv:=v',cs:=L.cs++[Value.func fn y x] } { d with waits:=d.waits++[c] } u (N+1)∧Qj F w (f.setCell ⟨p,4,none⟩ v'):=by
 have a:=h.rest;have ad:=I.size;have ae:q.heap.size+1<=f.heap.size:=by have:=E.size;simpa using this
 have ac:(f.setCell ⟨p,4,none⟩ v').heap.size=f.heap.size:=by simp
 have M:∀ k,F k->k≠L.now->L.wv.ownBlock≠some k->f.heap[k]?=w.heap[k]?:=fun k l H G=>by
  have B:=h.lt k l;rw[E.block k (by simp;omega) (fun e=>G e.symm),Below.heap_alloc _ _ _ (by omega),I.block k B (fun e=>H (Option.some.inj e))]
 have D:∀ k,F k->k≠L.now->L.wv.ownBlock≠some k->k≠p->(f.setCell ⟨p,4,none⟩ v').heap[k]?=w.heap[k]?:=fun k l H G hp=>by
  rw[Below.heap_setCell _ _ _ _ hp,M k l H G]
 have O:∀ {t:TypeId} {k:Nat} {cs:Array Value},Bk t w k cs->t≠113->L.wv.ownBlock≠some k:=fun hb ht j=>by
  obtain⟨C,A⟩:=J3 a.row j;exact(hb.ne A ht) rfl
 have P:∀ {k n:Nat} {g:Int->Option Nat},Xy w k n g->L.wv.ownBlock≠some k:=fun z j=>by
  obtain⟨C,A⟩:=J3 a.row j;exact(A.neMap z) rfl
 have K:∀ {t:TypeId} {k:Nat} {cs:Array Value},Bk t w k cs->F k->t≠113->t≠69->(f.setCell ⟨p,4,none⟩ v').heap[k]?=w.heap[k]?:=fun hb l Y V=>
  D _ l (hb.neMap a.now) (O hb Y) (hb.ne h.head V)
 have Q:L.now≠p:=(h.head.neMap a.now).symm;have R:Bk 69 f p (Zfm L d u):=h.head.keep (M p h.fh Q.symm (O h.head (by decide)))
 have W:∀ g,v'.ownBlock=some g->Gr F w f g:=fun g j=>by
  rcases hv with hv | hv
  ·exact .inl (a.fw g (by rw[<-hv];exact j))
  ·rw[hv] at j
   obtain rfl:=Option.some.inj j;exact .inr ⟨by omega,by have:=(World.ownsRow.lt J _ hv).2;omega⟩
 refine⟨⟨R.set 4 v',?_,.inl h.fh,fun k D=>?_⟩,?_⟩
 ·refine⟨?_,?_,?_,?_,?_,?_,a.psn,a.vsn,a.nk,.inl a.fn,.inl a.fk,W,fun i b=>.inl (a.fp i b),fun i b g j=>.inl (a.fv i b g j)⟩
  ·have e:∀ n,(look (Q6 { d with waits:=d.waits++[c] }) n).map L.ps=(chF (look (Q6 d)) c n).map L.ps:=fun n=>by rw[Ztn,ZcX T.dir.rise c (Zmh ab)]
   refine(z.keep (w':=f.setCell ⟨p,4,none⟩ v') ?_).fun fun n _=>(e n).symm
   rw[Below.heap_setCell _ _ _ _ Q,E.block L.now (by simp;have:=z.lt;omega) (fun e=>P a.now e.symm),Below.heap_alloc _ _ _ z.lt]
  ·exact(a.kept.mono (Nat.le_succ N)).keep (D _ a.fk (Ne.symm a.nk) (P a.kept) (h.head.neMap a.kept).symm)
  ·exact Qh J fun g j=>Below.heap_setCell _ _ _ _ (by
    obtain⟨C,A⟩:=J3 J j
    exact A.ne R (by decide))
  ·rw[length_append,length_append,a.many]
   rfl
  ·intro i c' v b m
   have S:∀ c v,ChV F w L.ps c v->ChV (Gr F w f) (f.setCell ⟨p,4,none⟩ v') L.ps c v:=fun c v aa=>aa.keep (fun _ l=>.inl l) (fun _ _=>rfl) fun k C l hb=>by
    rcases hb with hb | hb <;> exact K hb l (by decide) (by decide)
   rw[List.getElem?_append] at b m;rw[a.many] at m;by_cases B:i<d.waits.length
   ·rw[if_pos B] at b m
    exact S _ _ (a.wait i c' v b m)
   ·rw[if_neg B] at b m
    have Z:i-d.waits.length=0:=by
     have:=(List.getElem?_eq_some_iff.1 b).1;simp at this;omega
    rw[Z] at b m;simp only [List.getElem?_cons_zero,Option.some.injEq] at b m;rw[<-b,<-m];exact S _ _ X
  ·intro i b
   refine(a.file i b).keep (K (a.file i b).box (a.fp i b) (by decide) (by decide)) fun g j=>?_
   obtain⟨C,hb⟩:=J3 (a.file i b).own j;exact K hb (a.fv i b g j) (by decide) (by decide)
 ·rw[ac]
  exact Gr.lt (by omega) h.lt k D
 ·have U:Qj F w q:=Qj.ofGrown I fun k e _=>by obtain rfl:=Option.some.inj e;exact a.fn
  have o2:Qj F (q.alloc (.cells #[.func fn y x] 113)) f:=Qj.ofGrown E fun k e _=>a.fw k e
  exact((U.alloc _).trans o2 (fun _ _ l=>l)).setCell 4 (fun _=>h.fh) v'
theorem Zer {base n s:Nat} {xs:List Value} (h:w.ownsRow base t s v n xs):∃ ao m b,v=.slice ao m b:=by
 rcases h.2 with ⟨a,_⟩ | ⟨g,cap,cur,a,_⟩
 ·exact⟨_,_,_,a⟩
 ·exact⟨_,_,_,a⟩
theorem Zto (F:Nat->Prop) (w b:World) (a:Addr) (v:Value):Gr F w (b.setCell a v)=Gr F w b:=by
 funext k
 simp[Gr]
def Zxr (F:Nat->Prop) (w:World) (p:Nat) (L:Lay) (d:Dk) (u:Int) (N:Nat) (c:Ch) (e:Ending) (w':World):Prop:=
 e=.returned (.tuple #[])∧∃ L',Q1 (Gr F w w') w' p L' { d with waits:=d.waits++[c] } u (N+1)∧L'.ps=L.ps∧L'.vs=L.vs∧Qj F w w'
theorem Zhr {L:Lay} {cv:Value} (w:World) (h:Q1 F w p L d u N) (hc:ChV F w L.ps c cv) (ac:OkD d) (ad:ZsI d.files.length c) (hN:N<=1000000) (hW:d.waits.length<=1000000):
 Calls prog 95 #[ptr p,cv] w fun e w'=>Zxr F w p L d u N c e w':=by
 have H:=ZZ h;have ab:=ZZ ac;have G:=ZZ ad;obtain⟨⟨-,-,c2,-,-,-⟩,-⟩:=h.cells;have q:Hid (L.now≠p):=ZZ (h.head.neMap h.rest.now).symm
 have Z:Hid (∀ g,L.wv.ownBlock=some g->g≠L.now):=ZZ (fun g l=>by
  obtain⟨aa,I⟩:=J3 h.rest.row l
  exact I.neMap h.rest.now)
 clear h ac ad
 cases c with
 | give n f=>
  obtain⟨C,Q,rfl,A,K,W,f2⟩:=hc;have T:Hid (ChV F w L.ps (.give n f) (.func (.func 139) #[] #[ptr Q,ptr C])):=ZZ ⟨C,Q,rfl,A,K,W,f2⟩;have X:=ZZ (Zme (f:=f) G.o.1 w A K H.out.rest.now (by omega))
  go_enter func95,ntmps95
  go_wp2_with fail
  refine X.o.mono ?_;rintro e k ⟨rfl,t,a⟩;have R:=ZZ t;have b:=ZZ a;have D:=H.out.head.keep (a.block p H.out.head.lt (fun e=>q.o (Option.some.inj e).symm))
  obtain⟨S,O⟩:=D.cell 4 rfl;have y:Hid (k.ownsRow 0 113 1 L.wv L.cs.length L.cs):=ZZ (Qh H.out.rest.row fun g l=>a.block g (World.ownsRow.lt H.out.rest.row g l).2 (fun e=>Z.o g l (Option.some.inj e)))
  clear t a D;have z:Hid (p<k.heap.size):=ZZ (Nat.lt_of_lt_of_le H.out.head.lt b.o.size)
  go_wp2_with(at_builtin;refine(fun(h:True->_)=>h trivial) ?_)
  intro _;refine ZaB k rfl _ _ rfl L.wv L.cs rfl y.o _ _ _ rfl (by have:=H.out.rest.many;omega) ?_
  intro v' v j i B;have M:=ZZ j;have V:=ZZ i;have U:=ZZ B
  have x:Bk 69 v p (Zfm L d u):=(H.out.head.keep (b.o.block p H.out.head.lt (fun e=>q.o (Option.some.inj e).symm))).keep ((i.block p (by simp;have:=z.o;omega) (fun e=>by
   obtain⟨aa,I⟩:=J3 y.o e.symm
   exact(I.ne (H.out.head.keep (b.o.block p H.out.head.lt (fun e=>q.o (Option.some.inj e).symm))) (by decide)) rfl)).trans (Below.heap_alloc _ _ _ z.o))
  obtain⟨d4,g4⟩:=x.cell 4 rfl;obtain⟨ao,Y,J,rfl⟩:=Zer j;clear j i B x S O;go_wp2;go_end0;obtain⟨E,P⟩:=H.out.addWait T.o ab.o G.o b.o R.o M.o V.o U.o;rw[<-Zto F w v ⟨p,4,none⟩ (.slice ao Y J)] at E;exact⟨rfl,_,E,rfl,rfl,P⟩
 | move n m f=>
  obtain⟨C,Q,b3,rfl,A,K,h3,W,f2,f3⟩:=hc;have T:Hid (ChV F w L.ps (.move n m f) (.func (.func 143) #[] #[ptr b3,ptr Q,ptr C])):=ZZ ⟨C,Q,b3,rfl,A,K,h3,W,f2,f3⟩;have X:=ZZ (Zmf (f:=f) G.o.1 G.o.2.1 w A K h3 H.out.rest.now (by omega))
  go_enter func95,ntmps95
  go_wp2_with fail
  refine X.o.mono ?_;rintro e k ⟨rfl,t,a⟩;have R:=ZZ t;have b:=ZZ a;have D:=H.out.head.keep (a.block p H.out.head.lt (fun e=>q.o (Option.some.inj e).symm))
  obtain⟨S,O⟩:=D.cell 4 rfl;have y:Hid (k.ownsRow 0 113 1 L.wv L.cs.length L.cs):=ZZ (Qh H.out.rest.row fun g l=>a.block g (World.ownsRow.lt H.out.rest.row g l).2 (fun e=>Z.o g l (Option.some.inj e)))
  clear t a D;have z:Hid (p<k.heap.size):=ZZ (Nat.lt_of_lt_of_le H.out.head.lt b.o.size)
  go_wp2_with(at_builtin;refine(fun(h:True->_)=>h trivial) ?_)
  intro _;refine ZaB k rfl _ _ rfl L.wv L.cs rfl y.o _ _ _ rfl (by have:=H.out.rest.many;omega) ?_
  intro v' v j i B;have M:=ZZ j;have V:=ZZ i;have U:=ZZ B
  have x:Bk 69 v p (Zfm L d u):=(H.out.head.keep (b.o.block p H.out.head.lt (fun e=>q.o (Option.some.inj e).symm))).keep ((i.block p (by simp;have:=z.o;omega) (fun e=>by
   obtain⟨aa,I⟩:=J3 y.o e.symm
   exact(I.ne (H.out.head.keep (b.o.block p H.out.head.lt (fun e=>q.o (Option.some.inj e).symm))) (by decide)) rfl)).trans (Below.heap_alloc _ _ _ z.o))
  obtain⟨d4,g4⟩:=x.cell 4 rfl;obtain⟨ao,Y,J,rfl⟩:=Zer j;clear j i B x S O;go_wp2;go_end0;obtain⟨E,P⟩:=H.out.addWait T.o ab.o G.o b.o R.o M.o V.o U.o;rw[<-Zto F w v ⟨p,4,none⟩ (.slice ao Y J)] at E;exact⟨rfl,_,E,rfl,rfl,P⟩
 | take n=>
  obtain⟨C,rfl,A,W⟩:=hc;have T:Hid (ChV F w L.ps (.take n) (.func (.func 157) #[] #[ptr C])):=ZZ ⟨C,rfl,A,W⟩;have X:=ZZ (Zmg G.o w A H.out.rest.now)
  go_enter func95,ntmps95
  go_wp2_with fail
  refine X.o.mono ?_;rintro e k ⟨rfl,t,a⟩;have R:=ZZ t;have b:=ZZ a;have D:=H.out.head.keep (a.block p H.out.head.lt (fun e=>q.o (Option.some.inj e).symm))
  obtain⟨S,O⟩:=D.cell 4 rfl;have y:Hid (k.ownsRow 0 113 1 L.wv L.cs.length L.cs):=ZZ (Qh H.out.rest.row fun g l=>a.block g (World.ownsRow.lt H.out.rest.row g l).2 (fun e=>Z.o g l (Option.some.inj e)))
  clear t a D;have z:Hid (p<k.heap.size):=ZZ (Nat.lt_of_lt_of_le H.out.head.lt b.o.size)
  go_wp2_with(at_builtin;refine(fun(h:True->_)=>h trivial) ?_)
  intro _;refine ZaB k rfl _ _ rfl L.wv L.cs rfl y.o _ _ _ rfl (by have:=H.out.rest.many;omega) ?_
  intro v' v j i B;have M:=ZZ j;have V:=ZZ i;have U:=ZZ B
  have x:Bk 69 v p (Zfm L d u):=(H.out.head.keep (b.o.block p H.out.head.lt (fun e=>q.o (Option.some.inj e).symm))).keep ((i.block p (by simp;have:=z.o;omega) (fun e=>by
   obtain⟨aa,I⟩:=J3 y.o e.symm
   exact(I.ne (H.out.head.keep (b.o.block p H.out.head.lt (fun e=>q.o (Option.some.inj e).symm))) (by decide)) rfl)).trans (Below.heap_alloc _ _ _ z.o))
  obtain⟨d4,g4⟩:=x.cell 4 rfl;obtain⟨ao,Y,J,rfl⟩:=Zer j;clear j i B x S O;go_wp2;go_end0;obtain⟨E,P⟩:=H.out.addWait T.o ab.o G.o b.o R.o M.o V.o U.o;rw[<-Zto F w v ⟨p,4,none⟩ (.slice ao Y J)] at E;exact⟨rfl,_,E,rfl,rfl,P⟩
def ZqV (fs:List Fl):Option Nat->Nat
 | some f=>(fl fs f).b.length
 | none=>0
theorem Zai (fs:List Fl) (p:Int × Nat) (l:Dir):Y1 fs (p::l)=(fl fs p.2).b.length+Y1 fs l:=by simp[Y1]
theorem ZgC (fs:List Fl):Y1 fs []=0:=rfl
theorem ZdJ (fs:List Fl) (a b:Dir):Y1 fs (a++b)=Y1 fs a+Y1 fs b:=by simp[Y1]
theorem Zhs (fs:List Fl) (n:Int) (f:Nat):∀ (l:Dir) (done:Bool),Y1 fs (ZiR n f done l)=Y1 fs (l.filter fun p=>decide (p.1≠n))+(if done then 0 else(fl fs f).b.length)
 | [],done=>by cases done <;> simp[ZiR,Y1]
 | q::l,done=>by
  have d:=Zhs fs n f l (done || decide (q.1>n));rw[ZiR,ZdJ,ZdJ,d,List.filter_cons];by_cases c:q.1>n
  ·have a:q.1≠n:=by omega
   cases done <;> simp[c,a,Zai,ZgC] <;> omega
  ·by_cases a:q.1=n
   ·cases done <;> simp[a,ZgC]
   ·cases done <;> simp[c,a,Zai,ZgC] <;> omega
theorem Zht (fs:List Fl) (n:Int):∀ l:Dir,Y5 l->Y1 fs (l.filter fun p=>decide (p.1≠n))+ZqV fs (look l n)=Y1 fs l
 | [],_=>rfl
 | q::l,h=>by
  unfold Y5 at h;rw[List.pairwise_cons] at h;rw[List.filter_cons,look];by_cases e:q.1=n
  ·have c:∀ p ∈ l,p.1≠n:=fun p a=>by have:=h.1 p a;omega
   rw[if_pos e,if_neg (by simp[e]),Zai,List.filter_eq_self.2 (fun p a=>by simpa using c p a)]
   show _+(fl fs q.2).b.length=_;omega
  ·rw[if_neg e,if_pos (by simp[e]),Zai,Zai]
   have:=Zht fs n l h.2;omega
theorem Zes (fs:List Fl) {l:Dir} (h:Y5 l) (n:Int) (o:Option Nat):Y1 fs (ZfH l n o)+ZqV fs (look l n)=Y1 fs l+ZqV fs o:=by
 have a:=Zht fs n l h
 cases o with
 | none=>rw[ZfH,Zhs];show _=_+0;simp only [if_true];omega
 | some f=>rw[ZfH,Zhs];simp only [Bool.false_eq_true,if_false];show _=_+(fl fs f).b.length;omega
theorem Zmi (h:f<fs.length) (x:Fl):fl (fs++[x]) f=fl fs f:=by
 unfold fl;simp[List.getD,List.getElem?_append,h]
theorem Zoa (fs:List Fl) (x:Fl):fl (fs++[x]) fs.length=x:=by
 unfold fl;simp[List.getD]
theorem ZkG {a:List Fl} {l:Dir} (h:∀ p ∈ l,(fl a p.2).b.length=(fl fs p.2).b.length):Y1 a l=Y1 fs l:=by
 unfold Y1;rw[List.map_congr_left h]
theorem Ztp {l:Dir} (h:∀ p ∈ l,p.2<fs.length) (x:Fl):Y1 (fs++[x]) l=Y1 fs l:=
 ZkG fun p a=>by rw[Zmi (h p a)]
theorem ZkH (a:f<fs.length) (x:Fl):∀ {l:Dir},ZbC l->(∃ n,(n,f) ∈ l)->Y1 (fs.set f x) l+(fl fs f).b.length=Y1 fs l+x.b.length
 | [],_,⟨_,h⟩=>by cases h
 | q::l,ha,⟨n,h⟩=>by
  unfold ZbC at ha;rw[List.pairwise_cons] at ha;rw[Zai,Zai];by_cases e:q.2=f
  ·have c:Y1 (fs.set f x) l=Y1 fs l:=ZkG fun p d=>by rw[Zab (by rw[<-e];exact ha.1 p d)]
   rw[e,c,ZbR a];omega
  ·rw[Zab (fun g=>e g.symm)]
   rcases List.mem_cons.1 h with h | h
   ·exact absurd (by rw[<-h]) e
   ·have:=ZkH a x (l:=l) ha.2 ⟨n,h⟩
    omega
theorem ZqW (h:OkD d) {n:Int} {f:Nat} (e:look (Q6 d) n=some f) (b:List UInt8):Zj (appendTo d f b)=Zj d+b.length:=by
 have a:=(Je h.dir.rise n f).1 e;have:=ZkH (h.dir.may _ a).2 ⟨(fl d.files f).b++b,(fl d.files f).k⟩ h.dir.apart ⟨n,a⟩;simp only [length_append] at this;show Y1 (ZbD d.files f b) (Q6 d)=Y1 d.files (Q6 d)+b.length;unfold ZbD;omega
theorem ZqX (h:OkD d) {n:Int} {f:Nat} (e:look (Q6 d) n=some f) (q:Int):Zj { d with files:=Zeb d.files f,power:=q }=Zj d:=by
 have a:=(Je h.dir.rise n f).1 e;have:=ZkH (h.dir.may _ a).2 ⟨(fl d.files f).b,(fl d.files f).b.length⟩ h.dir.apart ⟨n,a⟩;show Y1 (Zeb d.files f) (Q6 d)=Y1 d.files (Q6 d);unfold Zeb
 dsimp only at this
 omega
theorem Zob (h:OkD d) {n:Int} (e:look (Q6 d) n=none):Zj (Zk d n)=Zj d:=by
 have a:=Zes (d.files++[⟨[],0⟩]) h.dir.rise n (some d.files.length);have c:Y1 (d.files++[⟨[],0⟩]) (Q6 d)=Y1 d.files (Q6 d):=Ztp (fun p g=>(h.dir.may p g).2) _
 have f:ZqV (d.files++[⟨[],0⟩]) (some d.files.length)=0:=by show(fl _ _).b.length=0;rw[Zoa];rfl
 rw[e,c,f] at a;unfold Zj;rw[Zjw,chD];show Y1 (d.files++[⟨[],0⟩]) (ZfH (Q6 d) n (some d.files.length))=_;simpa[ZqV] using a
theorem ZqY (h:OkD d) {n m:Int} {f:Nat} (g:n≠m) (e:look (Q6 d) n=some f) (q:Int):Zj { d with waits:=d.waits++[.move n m f],power:=q }+ZqV d.files (look (Q6 d) m)=Zj d:=by
 have a:=Zes d.files h.dir.rise n none;have b:=Zes d.files (Jv h.dir.rise n none) m (some f);rw[Zcx h.dir.rise,if_neg (fun e=>g e.symm)] at b
 rw[e] at a
 have c:Zj { d with waits:=d.waits++[.move n m f],power:=q }=Y1 d.files (ZfH (ZfH (Q6 d) n none) m (some f)):=by
  show Y1 d.files ((d.waits++[Ch.move n m f]).foldl chD d.kept)=_;rw[foldl_append];rfl
 rw[c];show _=Y1 d.files (Q6 d);simp only [ZqV] at a b ⊢;omega
theorem ZqZ (h:OkD d) {n:Int} {f:Nat} (e:look (Q6 d) n=some f) (q:Int):Zj { d with waits:=d.waits++[.take n],power:=q }+(fl d.files f).b.length=Zj d:=by
 have a:=Zes d.files h.dir.rise n none;rw[e] at a
 have c:Zj { d with waits:=d.waits++[.take n],power:=q }=Y1 d.files (ZfH (Q6 d) n none):=by
  show Y1 d.files ((d.waits++[Ch.take n]).foldl chD d.kept)=_;rw[foldl_append];rfl
 rw[c];show _=Y1 d.files (Q6 d);simp only [ZqV] at a;omega
theorem Zoc (h:∀ x ∈ fs,x.b.length<=T):∀ l:Dir,(∀ p ∈ l,p.2<fs.length)->Y1 fs l<=l.length*T
 | [],_=>Nat.zero_le _
 | p::l,hl=>by
  have c:=Zoc h l fun q a=>hl q (List.mem_cons_of_mem _ a)
  have d:=h _ (ZbE (hl p (List.mem_cons_self ..)));rw[Zai,List.length_cons,Nat.add_mul];omega
theorem ZfT (l:List Ch):∀ k:Dir,(l.foldl chD k).length<=k.length+l.length:=by
 induction l with
 | nil=>intro k;exact Nat.le_refl _
 | cons c l a=>
  intro k;have b:=a (chD k c);have d:=ZqA k c;rw[List.foldl_cons,List.length_cons];omega
theorem ZvQ (h:OkD d) {N T:Nat} (f:d.kept.length+d.waits.length<=N) (a:∀ x ∈ d.files,x.b.length<=T):Zj d<=N*T:=by
 have g:=Zoc a (Q6 d) fun p c=>(h.dir.may p c).2
 have e:=ZfT d.waits d.kept;have i:(Q6 d).length*T<=N*T:=Nat.mul_le_mul_right T (by unfold Q6;omega)
 unfold Zj;omega
theorem Zbn (d:Dk) (k:Nat):(Zy d k).length<=d.kept.length+d.waits.length:=by
 have h:=ZfT (d.waits.take k) d.kept;have a:(d.waits.take k).length<=d.waits.length:=by rw[List.length_take];omega
 unfold Zy;omega
theorem Q1.widen {L:Lay} (h:Q1 F w p L d u N) (a:∀ k,F k->F' k) (f:∀ k,F' k->k<w.heap.size):Q1 F' w p L d u N:=
 ⟨h.head,⟨h.rest.now,h.rest.kept,h.rest.row,h.rest.many,fun i c v l j=>(h.rest.wait i c v l j).keep a (fun _ _=>rfl) (fun _ _ _ _=>rfl),h.rest.file,h.rest.psn,h.rest.vsn,h.rest.nk,a _ h.rest.fn,a _ h.rest.fk,fun g e=>a g (h.rest.fw g e),fun i b=>a _ (h.rest.fp i b),fun i b g e=>a g (h.rest.fv i b g e)⟩,a _ h.fh,f⟩
theorem Q1.more {L:Lay} (h:Q1 F w p L d u N) (b:Below w.heap.size w w'):Q1 (Gr F w w') w' p L d u N:=
 (h.keep (fun k a=>b.block k (h.lt k a)) b.size).widen (fun _ a=>.inl a) (Gr.lt b.size h.lt)
theorem Zxs (h:ZsI m c) {f:Nat} (e:chOf c=some f):f<m:=by
 cases c with
 | give n g=>obtain rfl:=Option.some.inj e;exact h.2
 | move n g x=>obtain rfl:=Option.some.inj e;exact h.2.2.2
 | take n=>cases e
theorem Q1.addFile {L:Lay} (h:Q1 F w p L d u N) (t:OkD d):
 Q1 (Gr F w (w.alloc (.cells #[.slice none 0 0,.int .i64 0] 117))) (w.alloc (.cells #[.slice none 0 0,.int .i64 0] 117)) p { L with ps:=fun i=>if i=d.files.length then w.heap.size else L.ps i,vs:=fun i=>if i=d.files.length then .slice none 0 0 else L.vs i } { d with files:=d.files++[⟨[],0⟩] } u N:=by
 have B:Below w.heap.size w (w.alloc (.cells #[.slice none 0 0,.int .i64 0] 117)):=(Below.refl _ w).alloc zL _;have C:Bk 117 (w.alloc (.cells #[.slice none 0 0,.int .i64 0] 117)) w.heap.size #[.slice none 0 0,.int .i64 0]:=heap_alloc_new w _;have I:(w.alloc (.cells #[.slice none 0 0,.int .i64 0] 117)).heap.size=w.heap.size+1:=by simp
 obtain⟨W,G⟩:∃ W,W=w.alloc (.cells #[.slice none 0 0,.int .i64 0] 117):=⟨_,rfl⟩;rw[<-G] at B C I ⊢;have q:=h.more B;have a:=q.rest;have K:(d.files++[(⟨[],0⟩:Fl)]).length=d.files.length+1:=by simp
 refine⟨q.head,⟨?_,?_,a.row,a.many,?_,?_,?_,?_,a.nk,a.fn,a.fk,a.fw,?_,?_⟩,q.fh,q.lt⟩
 ·refine a.now.fun fun n _=>?_
  show(look (Q6 d) n).map L.ps=(look (Q6 d) n).map _
  cases e:look (Q6 d) n with
  | none=>rfl
  | some f=>
   have:=(t.dir.mayOf e).2;show some (L.ps f)=some (if f=d.files.length then w.heap.size else L.ps f)
   rw[if_neg (by omega)]
 ·refine a.kept.fun fun n _=>?_
  show(look d.kept n).map L.ps=(look d.kept n).map _
  cases e:look d.kept n with
  | none=>rfl
  | some f=>
   have:=(t.kept.mayOf e).2;show some (L.ps f)=some (if f=d.files.length then w.heap.size else L.ps f)
   rw[if_neg (by omega)]
 ·intro i c v b H
  refine(a.wait i c v b H).keep (fun _ z=>z) (fun f z=>?_) (fun _ _ _ _=>rfl)
  have:=Zxs (t.chs c (List.mem_of_getElem? b)) z;show(if f=d.files.length then w.heap.size else L.ps f)=L.ps f
  rw[if_neg (by omega)]
 ·intro i b
  show ZlZ W (if i=d.files.length then w.heap.size else L.ps i) (if i=d.files.length then .slice none 0 0 else L.vs i) (fl (d.files++[⟨[],0⟩]) i)
  by_cases e:i=d.files.length
  ·rw[if_pos e,if_pos e,e,Zoa]
   exact⟨C,World.ownsRow_nil _ _ _ _⟩
  ·have D:i<d.files.length:=by have:i<(d.files++[(⟨[],0⟩:Fl)]).length:=b;omega
   rw[if_neg e,if_neg e,Zmi D];exact a.file i D
 ·intro i j b x A
  have y:i<(d.files++[(⟨[],0⟩:Fl)]).length:=b;have J:j<(d.files++[(⟨[],0⟩:Fl)]).length:=x;show(if i=d.files.length then w.heap.size else L.ps i)≠(if j=d.files.length then w.heap.size else L.ps j)
  have E:∀ i,i<d.files.length->L.ps i<w.heap.size:=fun i b=>h.lt _ (h.rest.fp i b)
  by_cases k:i=d.files.length
  ·rw[if_pos k,if_neg (by omega)]
   have:=E j (by omega)
   omega
  ·rw[if_neg k]
   by_cases m:j=d.files.length
   ·rw[if_pos m]
    have:=E i (by omega)
    omega
   ·rw[if_neg m]
    exact a.psn i j (by show i<d.files.length;omega) (by show j<d.files.length;omega) A
 ·intro i j b x A g
  have y:i<(d.files++[(⟨[],0⟩:Fl)]).length:=b;have J:j<(d.files++[(⟨[],0⟩:Fl)]).length:=x;show(if i=d.files.length then Value.slice none 0 0 else L.vs i).ownBlock=some g->(if j=d.files.length then Value.slice none 0 0 else L.vs j).ownBlock≠some g
  by_cases k:i=d.files.length
  ·rw[if_pos k]
   intro l
   cases l
  ·rw[if_neg k]
   by_cases m:j=d.files.length
   ·rw[if_pos m]
    intro _ l
    cases l
   ·rw[if_neg m]
    exact a.vsn i j (by show i<d.files.length;omega) (by show j<d.files.length;omega) A g
 ·intro i b
  have y:i<(d.files++[(⟨[],0⟩:Fl)]).length:=b;show Gr F w W (if i=d.files.length then w.heap.size else L.ps i)
  by_cases e:i=d.files.length
  ·rw[if_pos e]
   exact .inr ⟨Nat.le_refl _,by omega⟩
  ·rw[if_neg e]
   exact a.fp i (by show i<d.files.length;omega)
 ·intro i b g
  have y:i<(d.files++[(⟨[],0⟩:Fl)]).length:=b;show(if i=d.files.length then Value.slice none 0 0 else L.vs i).ownBlock=some g->Gr F w W g
  by_cases e:i=d.files.length
  ·rw[if_pos e]
   intro l
   cases l
  ·rw[if_neg e]
   exact a.fv i (by show i<d.files.length;omega) g
theorem ZiY (w:World) (ty:TypeId) (v:Value) (b:List UInt8) (c:Own w 0 v b) (g:Value) (l:List UInt8) (n:Rd w g l)
 (y:b.length+l.length<=70368744177664):
 ∃ v' w',(Builtin.append_ #[53,53] ty #[v,g]).run prog w=.ok v' w'∧Own w' 0 v' (b++l)∧w.grownBy w' v.ownBlock∧(v'.ownBlock=v.ownBlock∨v'.ownBlock=some w.heap.size):=by
 obtain⟨i,f,u,m,j⟩:=info_parts Zkt;obtain⟨ao,cap,rfl,A,z,t,p⟩:=n
 cases ao with
 | none=>
  have k:=t rfl;subst k;have d:l=[]:=List.eq_nil_of_length_eq_zero (by omega)
  subst d;have e:=run_append_owned_none (P:=prog) w 0 53 ty 5 i 1 underlying53 f v b.length (Lib.byteCells b) c;exact⟨v,w,e,by rw[List.append_nil];exact c,⟨rfl,rfl,rfl,Nat.le_refl _,fun _ _ _=>rfl⟩,.inl rfl⟩
 | some a=>
  obtain⟨v',w',e,x,q,_,d⟩:=run_append_own_at (P:=prog) w 0 53 ty 5 i (.int .u8 0) 1 1 underlying53 f u m j rfl (by decide) v b.length (Lib.byteCells b) c a l.length cap (Lib.byteCells l)
   (by rw[Yi,Nat.mul_one]) (Rd.cells p a rfl) (ZaD l) (by unfold maxLen;omega) (by omega) (Nat.zero_le _)
  exact⟨v',w',e,Own.mk' x (by simp) (by simp[Lib.byteCells]),q,d⟩
theorem ZbO (w:World) {d:Array Oper} {rest:List Oper} {o:Oper} {a:Act} {Q:Exit->Act->World->Prop} (n:o.guard=none) (s x:Operand)
 (u:o.op=.call { callee:=.builtin .append,args:=#[s,x],argTypes:=#[53,53] })
 (v:Value) (b:List UInt8) (k:a.eval s=v) (g:Own w 0 v b) (c:Value) (l:List UInt8) (p:a.eval x=c) (j:Rd w c l)
 (i:b.length+l.length<=70368744177664)
 (h:∀ v' w',Own w' 0 v' (b++l)->w.grownBy w' v.ownBlock->(v'.ownBlock=v.ownBlock∨v'.ownBlock=some w.heap.size)->wpList prog d Q rest (a.put o.dst v') w'):wpList prog d Q (o::rest) a w:=
 wpList_plain n fun _ f=>by
  obtain⟨v',w',t,e,m,q⟩:=ZiY w o.type v b g c l j i;unfold Oper.wp execOp;simp only [u,resolve,invoke,builtin,Sem.run_bind,Sem.run_pure,Result.andThen_ok,map_toArray,map_cons,map_nil,k,p,t];exact f _ _ (h v' w' e m q)
theorem Q1.grow {c:World} {L:Lay} {x:List UInt8} (h:Q1 F w p L d u N) (j:f<d.files.length)
 (v:Own c 0 v' ((fl d.files f).b++x)) (n:w.grownBy c (L.vs f).ownBlock) (hl:v'.ownBlock=(L.vs f).ownBlock∨v'.ownBlock=some w.heap.size):
 Q1 (Gr F w c) (c.setCell ⟨L.ps f,0,none⟩ v') p { L with vs:=fun i=>if i=f then v' else L.vs i } { d with files:=ZbD d.files f x } u N∧Qj F w (c.setCell ⟨L.ps f,0,none⟩ v'):=by
 have m:=h.rest;have q:=(m.file f j).box
 have B:(L.vs f).ownBlock≠some (L.ps f):=fun e=>by
  obtain⟨A,t⟩:=J3 (m.file f j).own e;exact(q.ne t (by decide)) rfl
 have y:Bk 117 c (L.ps f) #[L.vs f,.int .i64 ((fl d.files f).k:Int)]:=q.keep (n.block _ q.lt (fun e=>B e.symm))
 have D:(c.setCell ⟨L.ps f,0,none⟩ v').heap.size=c.heap.size:=by simp
 refine⟨h.setFile (F':=Gr F w c) j (fun k l C z=>?_) ⟨y.set 0 v',?_⟩ ?_ (fun _ l=>.inl l) (fun g a=>?_) (fun k l=>by rw[D];exact Gr.lt n.size h.lt k l),?_⟩
 ·rw[Below.heap_setCell _ _ _ _ C,n.block k (h.lt k l) (fun e=>z e.symm)]
 ·refine Qh v fun g a=>Below.heap_setCell _ _ _ _ ?_
  obtain⟨A,t⟩:=J3 v a;exact t.ne y (by decide)
 ·rcases hl with hl | hl
  ·exact .inl hl
  ·exact .inr fun g a=>by rw[hl] at a;exact Nat.le_of_eq (Option.some.inj a)
 ·rcases hl with hl | hl
  ·exact .inl (m.fv f j g (by rw[<-hl];exact a))
  ·have E:=(World.ownsRow.lt v g a).2
   rw[hl] at a;obtain rfl:=Option.some.inj a;exact .inr ⟨Nat.le_refl _,E⟩
 ·exact(Qj.ofGrown n fun k e _=>m.fv f j k e).setCell 0 (fun _=>m.fp f j) v'
theorem Bnd.grow (h:Bnd d N T) (f:Nat) (b:List UInt8) (q:Int):Bnd { d with files:=ZbD d.files f b,power:=q } (N+1) (T+b.length):=by
 refine⟨by show(ZbD d.files f b).length<=_;have:=h.files;simp[ZbD];omega,by have:=h.names;show d.kept.length+d.waits.length<=_;omega,fun x a=>?_⟩
 rcases List.mem_or_eq_of_mem_set a with a | rfl
 ·have:=h.bytes x a;omega
 ·simp only [length_append]
  by_cases c:f<d.files.length
  ·have:=h.bytes _ (ZbE c);omega
  ·unfold fl
   rw[List.getD,List.getElem?_eq_none (by omega)]
   simp only [Option.getD_none,List.length_nil];omega
theorem Bnd.fresh (h:Bnd d N T) (n:Int):Bnd (Zk d n) (N+1) T:=by
 refine⟨by show(d.files++[_]).length<=_;have:=h.files;simp;omega,by have:=h.names;show d.kept.length+(d.waits++[_]).length<=_;simp;omega,fun x hx=>?_⟩
 rcases List.mem_append.1 hx with hx | hx
 ·exact h.bytes x hx
 ·rw[List.mem_singleton.1 hx]
  exact Nat.zero_le _
theorem Bnd.mono (h:Bnd d N T) (a:N<=N') (c:T<=T'):Bnd d N' T':=
 ⟨Nat.le_trans h.files a,Nat.le_trans h.names a,fun x b=>Nat.le_trans (h.bytes x b) c⟩
theorem Q1.mono {L:Lay} (h:Q1 F w p L d u N) (a:N<=N'):Q1 F w p L d u N':=⟨h.head,h.rest.mono a,h.fh,h.lt⟩
theorem Dsk.mono (h:Dsk F w p d N T) (a:N<=N') (f:T<=T'):Dsk F w p d N' T':=by
 obtain⟨L,c,e,g,b⟩:=h;exact⟨L,c.mono a,e,g.mono a f,b⟩
def ZfU (F:Nat->Prop) (w:World) (p:Nat) (d:Dk) (code:Int) (N T:Nat) (e:Ending) (w':World):Prop:=
 e=.returned (.int .i64 code)∧∃ F',Dsk F' w' p d N T∧Qj F w w'∧∀ k,F' k->F k∨w.heap.size<=k
theorem ZfU.same (h:Dsk F w p d N T) (b:N<=N') (c:T<=T'):ZfU F w p d a N' T' (.returned (.int .i64 a)) w:=
 ⟨rfl,F,h.mono b c,Qj.refl _ _,fun _ e=>.inl e⟩
theorem ZfU.drew (h:Dsk F w p d N T) (b:N<=N') (c:T<=T') (q:Nat):ZfU F w p d a N' T' (.returned (.int .i64 a)) (w.drewN q):=
 ⟨rfl,F,(h.below (Xn (Below.refl _ _) q)).mono b c,(Qj.refl _ _).drewN q,fun _ e=>.inl e⟩
theorem Zdb {q:Int} (h:I64 q):I64 (Zcv q):=by
 obtain⟨b,a⟩:=h;unfold Zcv I64;split <;> omega
theorem Zod (h:OkD d) {N T:Nat} (a:Bnd d N T) (b:N<=1000000) (c:T<=1000000000):Zj d<=1000000000000000:=by
 have e:=ZvQ h a.names a.bytes;have f:N*T<=1000000*1000000000:=Nat.mul_le_mul b c;omega
theorem ZfU.appended {e:Nat->Prop} {d:World} {a:Dk} {c:Nat} {b:List UInt8} {j:Lay} (g:OkD a) (u:Bnd a c T) (i:I64 a.room∧I64 a.power) (l:look (Q6 a) n=some f)
 (h:Q1 e d p j (appendTo a f b) ((Zj a:Int)+b.length) c) (t:Qj F w d) (m:∀ k,e k->F k∨w.heap.size<=k) (q:c+1<=N'):ZfU F w p (appendTo a f b) 0 N' (T+b.length) (.returned (.int .i64 0)) d:=by
 refine⟨rfl,e,⟨j,?_,g.appendTo f b,(u.grow f b _).mono q zL,i.1,Zdb i.2⟩,t,m⟩;rw[ZqW g l b];exact h.mono (by omega)
theorem Rd.blockLt (h:Rd w v l):l=[]∨∀ k,v.ownBlock=some k->k<w.heap.size:=by
 obtain⟨ao,cap,rfl,g,j,i,a⟩:=h;rcases a with a | ⟨b,f,rfl,d⟩
 ·exact .inl a
 ·by_cases e:l=[]
  ·exact .inl e
  ·right
   intro k c;obtain rfl:b=k:=by simpa[Value.ownBlock] using c
   exact World.block_lt_of_cell? w ⟨b,f+0,none⟩ (d 0 (List.length_pos_iff.2 e))
theorem Rd.onlyN (h:Rd w v l) {F G:Nat->Prop} {B:Nat} (i:Qj G w w') (e:∀ k,G k->F k∨B<=k) (hv:l=[]∨∀ k,v.ownBlock=some k->¬ F k) (hlt:l=[]∨∀ k,v.ownBlock=some k->k<B):Rd w' v l:=by
 rcases hv with rfl | hv
 ·obtain⟨ao,cap,rfl,a,c,b,g⟩:=h
  exact⟨ao,cap,rfl,a,c,b,.inl rfl⟩
 rcases hlt with rfl | hlt
 ·obtain⟨ao,cap,rfl,a,c,b,g⟩:=h
  exact⟨ao,cap,rfl,a,c,b,.inl rfl⟩
 ·exact h.only i fun k d f=>by
   rcases e k f with hf | hf
   ·exact hv k d hf
   ·have:=hlt k d;omega
theorem ZjC (n:Int) (hn:I64 n) (vb:Value) (b:List UInt8) (w:World) (h:Dsk F w p d N T) (hr:Rd w vb b) (hv:b=[]∨∀ k,vb.ownBlock=some k->¬ F k) (hN:N<=1000000) (hT:T<=1000000000) (bk:b.length<=1000000000):
 Calls prog 52 #[ptr p,.int .i64 n,vb] w fun e w'=>ZfU F w p (Xe d n b).1 (Xe d n b).2 (N+2) (T+b.length) e w':=by
 have HD:=ZZ h;obtain⟨L,h,aB,aS,bf,a1⟩:=h;have H:=ZZ h;have t:=ZZ aB;have ay:=ZZ aS;have HI:=ZZ (And.intro bf a1);have aw:=ZZ hr;have bg:=ZZ hr.blockLt;have HV:=ZZ hv;have l:=ZZ (Zma w h);have E:=ZZ (Zmb n w);have j:=h.rest.now.look hn;obtain⟨⟨c0,c1,c2,-,-,-⟩,-⟩:=h.cells;have bi:=Zod aB aS hN hT;obtain⟨U,hU⟩:∃ U:Int,U=(Zj d:Int):=⟨_,rfl⟩;have bl:0<=U∧U<=1000000000000000:=by omega
 rw[<-hU] at c1;obtain⟨ao,cap,rfl,-⟩:=hr;obtain⟨R,hR⟩:∃ R,R=d.room:=⟨_,rfl⟩;rw[<-hR] at c0;unfold Xe;rw[<-hU,<-hR];have HU:=ZZ hU;clear hU bi hR;clear aB aS a1 hv h;by_cases Z:d.power=0
 ·rw[if_pos Z]
  rw[Z] at l;clear j Z
  go_enter func52,ntmps52
  go_wp2_with fail
  refine l.o.mono ?_;rintro e w' ⟨rfl,rfl⟩;go_wp2;go_ret;exact ZfU.same HD.o (by omega) (by omega)
 rw[if_neg Z];have e0:(d.power != 0)=true:=by simpa using Z
 rw[e0] at l;clear Z e0
 cases hmn:ZfK n with
 | false=>
  rw[if_pos rfl];rw[hmn] at E;clear j hmn
  go_enter func52,ntmps52
  go_wp2_with fail
  refine l.o.mono ?_;rintro e w' ⟨rfl,rfl⟩
  go_wp2_with fail
  refine E.o.mono ?_;rintro e w' ⟨rfl,rfl⟩;go_wp2;go_ret;exact ZfU.same HD.o (by omega) (by omega)
 | true=>
 rw[if_neg (by simp)]
 have aA:=ZZ hmn;rw[hmn] at E;clear hmn;by_cases ae:U+(b.length:Int)>R
 ·rw[if_pos ae]
  clear j
  go_enter func52,ntmps52
  go_wp2_with fail
  refine l.o.mono ?_;rintro e w' ⟨rfl,rfl⟩
  go_wp2_with fail
  refine E.o.mono ?_;rintro e w' ⟨rfl,rfl⟩
  go_upto_region 5 with fail
  go_quiet(fail)
  go_wp2;go_ret;exact ZfU.drew HD.o (by omega) (by omega) _
 rw[if_neg ae];have bb:decide (U+(b.length:Int)>R)=false:=decide_eq_false ae;have bj:U+(b.length:Int)<=R:=by omega
 cases ho:look (Q6 d) n with
 | some f=>
  clear j
  dsimp only
  have ab:=ZZ ho;clear ho
  go_enter func52,ntmps52
  go_wp2_with fail
  refine l.o.mono ?_;rintro e w' ⟨rfl,rfl⟩
  go_wp2_with fail
  refine E.o.mono ?_;rintro e w' ⟨rfl,rfl⟩
  go_upto_region 5 with fail
  go_cut[17] (fun v wc=>v=.bool false∧Hid (∃ q,wc=w'.drewN q))
  case first=>
   go_quiet(fail)
   go_wp2
   go_meet
   exact⟨rfl,ZZ ⟨_,rfl⟩⟩
  case rest=>
   obtain⟨W,rfl⟩:∃ W,W=wc:=⟨_,rfl⟩;obtain⟨rfl,hw⟩:=hcut;obtain⟨w,rfl⟩:∃ w0,w0=w':=⟨_,rfl⟩;obtain⟨q,A⟩:=hw.out;have D:Hid (Q1 F W p L d U N):=ZZ (by rw[A,HU.o];exact H.out.keep (fun _ _=>rfl) zL)
   have aa:Hid (Qj F w W):=ZZ (by rw[A];exact(Qj.refl _ _).drewN q)
   have aq:Hid (Rd W (.slice ao b.length cap) b):=ZZ (by rw[A];exact aw.o.below (Xn (Below.refl _ _) q) zL)
   clear hw A c0 c1 c2 ae bb H aw l E HD;obtain⟨⟨-,-,c2,-,-,-⟩,-⟩:=D.o.cells;have j:=D.o.rest.now.look hn;rw[ab.o] at j;have aV:(Instr.lookup 65 (.map (some L.now)) (.int .i64 n) true).run prog W=.ok (.tuple #[.pointer (some ⟨L.ps f,0,none⟩),.bool true]) W:=j;have hf:f<d.files.length:=(t.o.dir.mayOf ab.o).2;have aG:=ab;have g:=D;have aR:=HU;have aT:=t;have ad:=ay;have ai:=HI;have C:Hid (∀ k,F k->F k∨w.heap.size<=k):=ZZ (fun k hk=>.inl hk)
   have O:=aa;have aQ:=aq;clear j D aa aq
   go_upto_region 11 with fail
   clear aV c2;obtain⟨g0,y0⟩:=(g.o.rest.file f hf).box.cell 0 rfl;have au:=ZZ (g.o.rest.file f hf).own;have P:=ZZ (g.o.rest.file f hf).box;obtain⟨va,vc,I⟩:=(g.o.rest.file f hf).own.shape;rw[I] at g0;have ac:=ZZ I;have aJ:Hid ((fl d.files f).b.length+b.length<=70368744177664):=ZZ (by have:=ad.o.bytes _ (ZbE hf);omega)
   clear I
   go_wp2_with(at_builtin;refine(fun(h:True->_)=>h trivial) ?_)
   intro _;rw[<-ac.o];refine ZbO W rfl _ _ rfl (L.vs f) _ rfl au.o _ b rfl aQ.o aJ.o ?_;intro v' w2 V S ar;obtain⟨aj,al⟩:=g.o.grow hf V S ar;have z:=ZZ aj;have J:=ZZ al
   have ak:(L.vs f).ownBlock≠some (L.ps f):=fun e=>by
    obtain⟨bd,aW⟩:=J3 au.o e;exact(P.out.ne aW (by decide)) rfl
   obtain⟨g2,y2⟩:=(P.out.keep (S.block _ P.out.lt (fun e=>ak e.symm))).cell 0 rfl
   rw[ac.o] at g2;obtain⟨aN,aO,am⟩:=V.shape;rw[am] at z J ⊢;obtain⟨Q,K⟩:∃ Q,Q=w2.setCell ⟨L.ps f,0,none⟩ (.slice aN ((fl d.files f).b++b).length aO):=⟨_,rfl⟩;have X:=ZZ K;obtain⟨M,Y⟩:∃ M,M=((fl d.files f).b++b).length:=⟨_,rfl⟩;rw[<-K] at z J;rw[<-Y];rw[<-Y] at X;clear V S ar aj al ak am K Y g0 y0
   go_upto_region 12 with fail
   rw[<-X.o];clear X g2 y2;obtain⟨⟨-,k1,-,-,-,-⟩,j1,-⟩:=z.o.cells;obtain⟨y,u⟩:∃ y,y=Q.setCell ⟨p,1,none⟩ (.int .i64 (U+(b.length:Int))):=⟨_,rfl⟩;have af:=ZZ (z.o.setHead 1 (.int .i64 (U+(b.length:Int))) (d':={ d with files:=ZbD d.files f b }) (u':=U+(b.length:Int)) ⟨rfl,rfl,rfl⟩ rfl)
   have aF:Hid (Qj F w y):=ZZ (by
    rw[u]
    exact(O.o.trans J.o (fun k hk hf=>(C.o k hf).resolve_right (by omega))).setCell 1 (fun bc=>((C.o p g.o.fh).resolve_right (by omega))) _)
   rw[<-u] at af;have an:=ZZ u;clear u
   go_upto_region 13 with fail
   rw[<-an.o];clear an k1 j1
   go_wp2_with fail
   refine(Zcb y af.o ai.o.2).mono ?_;rintro e W5 ⟨rfl,aM,aK⟩;go_wp2;go_ret;refine ZfU.appended aT.o ad.o ai.o aG.o (by rw[<-aR.o];exact aM) ((aF.o.trans aK (fun k hk hf=>?_))) (fun k hk=>?_) (by omega)
   ·rcases hf with hf | hf
    ·exact(C.o k hf).resolve_right (by omega)
    ·have:=O.o.size;omega
   ·rcases hk with hk | hk
    ·exact C.o k hk
    ·have:=O.o.size;exact .inr (by omega)
 | none=>
  clear j
  dsimp only
  have ab:=ZZ ho;clear ho
  go_enter func52,ntmps52
  go_wp2_with fail
  refine l.o.mono ?_;rintro e w' ⟨rfl,rfl⟩
  go_wp2_with fail
  refine E.o.mono ?_;rintro e w' ⟨rfl,rfl⟩
  go_upto_region 5 with fail
  go_cut[17] (fun v wc=>v=.bool false∧Hid (∃ q,wc=w'.drewN q))
  case first=>
   go_quiet(fail)
   go_wp2
   go_meet
   exact⟨rfl,ZZ ⟨_,rfl⟩⟩
  case rest=>
   obtain⟨W,rfl⟩:∃ W,W=wc:=⟨_,rfl⟩;obtain⟨rfl,hw⟩:=hcut;obtain⟨w,rfl⟩:∃ w0,w0=w':=⟨_,rfl⟩;obtain⟨q,A⟩:=hw.out;have D:Hid (Q1 F W p L d U N):=ZZ (by rw[A,HU.o];exact H.out.keep (fun _ _=>rfl) zL)
   have aa:Hid (Qj F w W):=ZZ (by rw[A];exact(Qj.refl _ _).drewN q)
   have aq:Hid (Rd W (.slice ao b.length cap) b):=ZZ (by rw[A];exact aw.o.below (Xn (Below.refl _ _) q) zL)
   clear hw A c0 c1 c2 ae bb H aw l E HD;obtain⟨⟨-,-,c2,-,-,-⟩,-⟩:=D.o.cells;have j:=D.o.rest.now.look hn;rw[ab.o] at j;have aV:(Instr.lookup 65 (.map (some L.now)) (.int .i64 n) true).run prog W=.ok (.tuple #[.pointer none,.bool false]) W:=j;have aU:=ZZ (D.o.addFile t.o);have aE:=ZZ (aa.o.alloc (.cells #[.slice none 0 0,.int .i64 0] 117));have aC:Hid (Rd (W.alloc (.cells #[.slice none 0 0,.int .i64 0] 117)) (.slice ao b.length cap) b):=ZZ (aq.o.below ((Below.refl _ _).alloc zL _) zL);have a7:Hid (w.heap.size<=W.heap.size):=ZZ aa.o.size;have aX:Hid (W.heap.size<(W.alloc (.cells #[.slice none 0 0,.int .i64 0] 117)).heap.size):=ZZ (by simp)
   obtain⟨a,aH⟩:∃ a,a=W.alloc (.cells #[.slice none 0 0,.int .i64 0] 117):=⟨_,rfl⟩;rw[<-aH] at aU aE aC aX;have a6:=ZZ aH;have l:=ab;clear aH j
   go_upto_region 10 with fail
   rw[<-a6.o];clear a6 aV c2
   go_wp2_with fail
   refine(ZvO n W.heap.size a).mono ?_;rintro e m ⟨rfl,ag⟩;have ax:Below a.heap.size a m:=by rw[ag];exact((Below.refl _ _).alloc zL _).alloc (by simp) _
   have be:m.heap.size=a.heap.size+1+1:=by rw[ag];simp
   have a3:Bk 3 m a.heap.size #[.int .i64 n]:=by rw[ag];exact(Below.heap_alloc _ _ _ (by simp)).trans (heap_alloc_new a _)
   have a0:Bk 115 m (a.heap.size+1) #[ptr W.heap.size]:=by
    have e1:a.heap.size+1=(a.alloc (.cells #[.int .i64 n] 3)).heap.size:=by simp
    rw[ag,e1];exact heap_alloc_new _ _
   have av:=ZZ (aU.o.more ax);obtain⟨FB,ap⟩:∃ FB,FB=Gr (Gr F W a) a m:=⟨_,rfl⟩;rw[<-ap] at av;obtain⟨LB,aL⟩:∃ LB:Lay,LB={ L with ps:=fun i=>if i=d.files.length then W.heap.size else L.ps i,vs:=fun i=>if i=d.files.length then .slice none 0 0 else L.vs i }:=⟨_,rfl⟩
   have aD:LB.ps d.files.length=W.heap.size:=by rw[aL];exact if_pos rfl
   rw[<-aL] at av;have ba:Hid (ChV FB m LB.ps (.give n d.files.length) (.func (.func 139) #[] #[ptr (a.heap.size+1),ptr a.heap.size])):=ZZ ⟨_,_,rfl,a3,by rw[aD];exact a0,by rw[ap];exact .inr ⟨Nat.le_refl _,by omega⟩,by rw[ap];exact .inr ⟨by omega,by omega⟩⟩
   have az:Hid (∀ k,FB k->F k∨w.heap.size<=k):=ZZ (fun k hk=>by
    rw[ap] at hk;have h1:=a7.o;have h2:=aX.o;rcases hk with (hk | hk) | hk
    ·exact .inl hk
    ·exact .inr (by omega)
    ·exact .inr (by omega))
   have aI:Hid (Qj F w m):=ZZ (aE.o.trans (G:=fun _=>False) (Qj.ofBelow ax) (fun _ _ hf=>hf.elim))
   have a2:Hid (Rd m (.slice ao b.length cap) b):=ZZ (aC.o.below ax zL);have a5:=ZZ aD
   have a8:Hid (OkD { d with files:=d.files++[⟨[],0⟩] }):=ZZ ⟨fun k=>(t.o.dirs k).more (by simp),fun c hc=>(t.o.chs c hc).more (by simp),fun x hx=>by
    rcases List.mem_append.1 hx with hx | hx
    ·exact t.o.keep x hx
    ·rw[List.mem_singleton.1 hx];exact Nat.le_refl _⟩
   have aY:=ZZ (Zhr m av.o ba.o a8.o ⟨aA.o,by simp⟩ hN (by have:=ay.o.names;show d.waits.length<=1000000;omega))
   clear ax be a3 a0 ap aL aD ag
   go_wp2_with fail
   refine aY.o.mono ?_;rintro e WC ⟨rfl,LC,aZ,a9,-,aP⟩;have aG:Hid (look (Q6 (Zk d n)) n=some d.files.length):=ZZ (ZqB t.o n);have g:Hid (Q1 (Gr FB m WC) WC p LC (Zk d n) U (N+1)):=ZZ aZ;have aR:Hid (U=(Zj (Zk d n):Int)):=ZZ (by rw[Zob t.o l.o];exact HU.o)
   have aT:Hid (OkD (Zk d n)):=ZZ (t.o.fresh aA.o);have ad:Hid (Bnd (Zk d n) (N+1) T):=ZZ (ay.o.fresh n);have ai:Hid (I64 (Zk d n).room∧I64 (Zk d n).power):=ZZ HI.o
   have C:Hid (∀ k,Gr FB m WC k->F k∨w.heap.size<=k):=ZZ (fun k hk=>by
    rcases hk with hk | hk
    ·exact az.o k hk
    ·have:=aI.o.size;exact .inr (by omega))
   have O:Hid (Qj F w WC):=ZZ (aI.o.trans aP (fun k hk hf=>(az.o k hf).resolve_right (by omega)))
   have aQ:Hid (Rd WC (.slice ao b.length cap) b):=ZZ (a2.o.onlyN (B:=w.heap.size) aP az.o HV.o bg.o);have hf:d.files.length<(Zk d n).files.length:=by simp[Zk]
   have a4:LC.ps d.files.length=W.heap.size:=by rw[a9];exact a5.o
   rw[<-a4];clear aZ a9 aP a4 aY ba av az aI a2 a5 a8 aU aE aC a7 aX l D aa aq t ay HI HU hn aA
   go_upto_region 11 with fail
   obtain⟨g0,y0⟩:=(g.o.rest.file d.files.length hf).box.cell 0 rfl;have au:=ZZ (g.o.rest.file d.files.length hf).own;have P:=ZZ (g.o.rest.file d.files.length hf).box;obtain⟨va,vc,I⟩:=(g.o.rest.file d.files.length hf).own.shape;rw[I] at g0;have ac:=ZZ I;have aJ:Hid ((fl (Zk d n).files d.files.length).b.length+b.length<=70368744177664):=ZZ (by have:=ad.o.bytes _ (ZbE hf);omega)
   clear I
   go_wp2_with(at_builtin;refine(fun(h:True->_)=>h trivial) ?_)
   intro _;rw[<-ac.o];refine ZbO WC rfl _ _ rfl (LC.vs d.files.length) _ rfl au.o _ b rfl aQ.o aJ.o ?_;intro v' w2 V S ar;obtain⟨aj,al⟩:=g.o.grow hf V S ar;have z:=ZZ aj;have J:=ZZ al
   have ak:(LC.vs d.files.length).ownBlock≠some (LC.ps d.files.length):=fun e=>by
    obtain⟨bd,aW⟩:=J3 au.o e;exact(P.out.ne aW (by decide)) rfl
   obtain⟨g2,y2⟩:=(P.out.keep (S.block _ P.out.lt (fun e=>ak e.symm))).cell 0 rfl
   rw[ac.o] at g2;obtain⟨aN,aO,am⟩:=V.shape;rw[am] at z J ⊢;obtain⟨Q,K⟩:∃ Q,Q=w2.setCell ⟨LC.ps d.files.length,0,none⟩ (.slice aN ((fl (Zk d n).files d.files.length).b++b).length aO):=⟨_,rfl⟩;have X:=ZZ K;obtain⟨M,Y⟩:∃ M,M=((fl (Zk d n).files d.files.length).b++b).length:=⟨_,rfl⟩;rw[<-K] at z J;rw[<-Y];rw[<-Y] at X;clear V S ar aj al ak am K Y g0 y0
   go_upto_region 12 with fail
   rw[<-X.o];clear X g2 y2;obtain⟨⟨-,k1,-,-,-,-⟩,j1,-⟩:=z.o.cells;obtain⟨y,u⟩:∃ y,y=Q.setCell ⟨p,1,none⟩ (.int .i64 (U+(b.length:Int))):=⟨_,rfl⟩;have af:=ZZ (z.o.setHead 1 (.int .i64 (U+(b.length:Int))) (d':={ (Zk d n) with files:=ZbD (Zk d n).files d.files.length b }) (u':=U+(b.length:Int)) ⟨rfl,rfl,rfl⟩ rfl)
   have aF:Hid (Qj F w y):=ZZ (by
    rw[u]
    exact(O.o.trans J.o (fun k hk hf=>(C.o k hf).resolve_right (by omega))).setCell 1 (fun bc=>((C.o p g.o.fh).resolve_right (by omega))) _)
   rw[<-u] at af;have an:=ZZ u;clear u
   go_upto_region 13 with fail
   rw[<-an.o];clear an k1 j1
   go_wp2_with fail
   refine(Zcb y af.o ai.o.2).mono ?_;rintro e W5 ⟨rfl,aM,aK⟩;go_wp2;go_ret;refine ZfU.appended aT.o ad.o ai.o aG.o (by rw[<-aR.o];exact aM) ((aF.o.trans aK (fun k hk hf=>?_))) (fun k hk=>?_) (by omega)
   ·rcases hf with hf | hf
    ·exact(C.o k hf).resolve_right (by omega)
    ·have:=O.o.size;omega
   ·rcases hk with hk | hk
    ·exact C.o k hk
    ·have:=O.o.size;exact .inr (by omega)
theorem Own.nil (w:World) (B:Nat):Own w B (.slice none 0 0) []:=World.ownsRow_nil w B 5 1
theorem ZkI (w:World) (ty:TypeId) (B:Nat) (v:Value) (b:List UInt8) (c:Own w B v b) (g:Value) (l:List UInt8) (t:Rd w g l)
 (C:b.length+l.length<=70368744177664) (f:B<=w.heap.size):
 ∃ v' w',(Builtin.append_ #[53,53] ty #[v,g]).run prog w=.ok v' w'∧Own w' B v' (b++l)∧Below B w w':=by
 obtain⟨i,e,z,q,m⟩:=info_parts Zkt;obtain⟨ao,cap,rfl,E,D,y,u⟩:=t
 cases ao with
 | none=>
  have n:=y rfl;subst n;have p:l=[]:=List.eq_nil_of_length_eq_zero (by omega)
  subst p;have d:=run_append_owned_none (P:=prog) w B 53 ty 5 i 1 underlying53 e v b.length (Lib.byteCells b) c;exact⟨v,w,d,by rw[List.append_nil];exact c,Below.refl _ _⟩
 | some a=>
  obtain⟨v',w',d,A,x,_⟩:=run_append_own (P:=prog) w B 53 ty 5 i (.int .u8 0) 1 1 underlying53 e z q m rfl (by decide) v b.length (Lib.byteCells b) c a l.length cap (Lib.byteCells l)
   (by rw[Yi,Nat.mul_one]) (Rd.cells u a rfl) (ZaD l) (by unfold maxLen;omega) (by omega) f
  refine⟨v',w',d,Own.mk' A (by simp) (by simp[Lib.byteCells]),?_⟩
  exact(Below.refl _ _).grown x f (fun k j=>(World.ownsRow.lt c k j).1)
theorem Zmj {o:Oper} {a:Act} {K:Act->World->Prop} {Q:Exit->Act->World->Prop} (w:World) (s x:Operand)
 (p:o.op=.call { callee:=.builtin .append,args:=#[s,x],argTypes:=#[53,53] })
 (B:Nat) (v:Value) (b:List UInt8) (i:a.eval s=v) (e:Own w B v b) (c:Value) (l:List UInt8) (k:a.eval x=c) (g:Rd w c l)
 (f:b.length+l.length<=70368744177664) (m:B<=w.heap.size)
 (h:∀ v' w',Own w' B v' (b++l)->Below B w w'->K (a.put o.dst v') w'):o.wp prog a w K Q:=by
 obtain⟨v',w',n,d,j⟩:=ZkI w o.type B v b e c l g f m;unfold Oper.wp execOp;simp only [p,resolve,invoke,builtin,Sem.run_bind,Sem.run_pure,Result.andThen_ok,map_toArray,map_cons,map_nil,i,k,n];exact h v' w' d j
theorem Xi (w:World) {d:Array Oper} {rest:List Oper} {o:Oper} {a:Act} {Q:Exit->Act->World->Prop} (n:o.guard=none) (s x:Operand)
 (t:o.op=.call { callee:=.builtin .append,args:=#[s,x],argTypes:=#[53,53] })
 (B:Nat) (v:Value) (b:List UInt8) (m:a.eval s=v) (g:Own w B v b) (c:Value) (l:List UInt8) (p:a.eval x=c) (j:Rd w c l)
 (i:b.length+l.length<=70368744177664) (q:B<=w.heap.size)
 (h:∀ v' w',Own w' B v' (b++l)->Below B w w'->wpList prog d Q rest (a.put o.dst v') w'):wpList prog d Q (o::rest) a w:=
 wpList_plain n fun _ f=>Zmj w s x t B v b m g c l p j i q fun v' w' e k=>f _ _ (h v' w' e k)
theorem ZvR (w:World) (B:Nat) (a:B<=w.heap.size):Own (w.alloc (.cells #[] 5)) B (.slice (some ⟨w.heap.size,0,none⟩) 0 0) []:=
 ⟨rfl,.inr ⟨w.heap.size,0,#[],rfl,a,heap_alloc_new w _,Nat.le_refl _,Nat.zero_le _,rfl,rfl⟩⟩
theorem Zra (v:Value) (l:List UInt8) (w:World) (f:Rd w v l) (B:l.length<=70368744177664):
 Calls prog 113 #[v] w fun e w'=>∃ v',e=.returned v'∧Own w' w.heap.size v' l∧Below w.heap.size w w':=by
 have j:=ZZ f;obtain⟨ao,cap,rfl,z,y,b,g⟩:=f
 cases ao with
 | none=>
  have m:=b rfl;have q:l=[]:=List.eq_nil_of_length_eq_zero (by omega)
  subst q;subst m;clear g b;have n:∀ w,(binOp .eql 53 (.slice none 0 0) (.slice none 0 0)).run prog w=.ok (.bool true) w:=fun w=>run_eql_slice_nil w _ _ none 0 0 underlying53
  go_enter func113,ntmps113
  go_wp2;go_ret;exact⟨_,rfl,Own.nil _ _,Below.refl _ _⟩
 | some d=>
  clear g b z y;have n:∀ w,(binOp .eql 53 (.slice (some d) l.length cap) (.slice none 0 0)).run prog w=.ok (.bool false) w:=fun w=>run_eql_slice_nil w _ _ (some d) _ _ underlying53
  have x:=ZZ (ZvR w w.heap.size zL);have a:=ZZ ((Below.refl w.heap.size w).alloc zL (.cells #[] 5));have p:=ZZ (j.o.below a.o zL);have k:Hid (w.heap.size<=(w.alloc (.cells #[] 5)).heap.size):=a.o.size
  go_enter func113,ntmps113
  go_wp2_with(at_builtin;refine Xi _ rfl _ _ rfl w.heap.size _ [] rfl x.o _ l rfl p.o (by simp;omega) k.o ?_)
  intro A C i c;have u:=ZZ i;have t:=ZZ (a.o.trans c);clear i c;go_wp2;go_ret;exact⟨A,rfl,u.o,t.o⟩
theorem Zmk (n:Int) (k:I64 n) (w:World) (h:Dsk F w p d N T) (y:T<=1000000000):
 Calls prog 75 #[ptr p,.int .i64 n] w fun e w'=>∃ v,e=.returned (.tuple #[v,.int .i64 (Z1 d n).2])∧Own w' w.heap.size v (Z1 d n).1∧Below w.heap.size w w':=by
 obtain⟨L,h,g,l,-,-⟩:=h;have a:=ZZ (ZgB n k w h);have H:=ZZ h;have t:=ZZ g;have q:=ZZ l;clear h g l;unfold Z1;by_cases b:d.power=0
 ·rw[if_pos b]
  rw[if_pos b,if_pos b] at a;clear b
  go_enter func75,ntmps75
  go_wp2_with fail
  refine a.o.mono ?_;rintro e w' ⟨rfl,rfl⟩;go_wp2;go_ret2;exact⟨_,rfl,Own.nil _ _,Below.refl _ _⟩
 rw[if_neg b];rw[if_neg b,if_neg b] at a;clear b
 cases ho:look (Q6 d) n with
 | none=>
  rw[ho] at a
  dsimp only [Option.map_none,Option.isSome_none,Bool.false_eq_true,if_false,ZpU] at a ⊢
  clear ho
  go_enter func75,ntmps75
  go_wp2_with fail
  refine a.o.mono ?_;rintro e w' ⟨rfl,rfl⟩;go_wp2;go_ret2;exact⟨_,rfl,Own.nil _ _,Below.refl _ _⟩
 | some f=>
  rw[ho] at a
  dsimp only [Option.map_some,Option.isSome_some,if_true,ZpU] at a ⊢
  have c:f<d.files.length:=(t.o.dir.mayOf ho).2;obtain⟨z,-⟩:=(H.out.rest.file f c).box.cell 0 rfl;have m:=ZZ (H.out.rest.file f c).own.rd;have j:=ZZ (Zra _ _ w m.o (by have:=q.o.bytes _ (ZbE c);omega))
  obtain⟨D,A,i⟩:=(H.out.rest.file f c).own.shape;rw[i] at z j;clear ho c i y k
  go_enter func75,ntmps75
  go_wp2_with fail
  refine a.o.mono ?_;rintro e w' ⟨rfl,rfl⟩
  go_wp2_with fail
  refine j.o.mono ?_;rintro e C ⟨B,rfl,u,x⟩;go_wp2;go_ret2;exact⟨_,rfl,u,x⟩
theorem ZpV (n:Int) (I:I64 n) (w:World) (h:Dsk F w p d N T):
 Calls prog 59 #[ptr p,.int .i64 n] w fun e w'=>ZfU F w p (Jf d n).1 (Jf d n).2 (N+2) T e w':=by
 have B:=ZZ h;obtain⟨L,h,C,D,P,J⟩:=h;have a:=ZZ (ZgB n I w h);have H:=ZZ h;have q:=ZZ C;have t:=ZZ D;have u:=ZZ (And.intro P J);clear h C D P J;unfold Jf;by_cases j:d.power=0
 ·rw[if_pos j]
  rw[if_pos j,if_pos j] at a;clear j
  go_enter func59,ntmps59
  go_wp2_with fail
  refine a.o.mono ?_;rintro e w' ⟨rfl,rfl⟩;go_wp2;go_ret;exact ZfU.same B.o (by omega) zL
 rw[if_neg j];rw[if_neg j,if_neg j] at a;clear j
 cases ho:look (Q6 d) n with
 | none=>
  rw[ho] at a
  dsimp only [Option.map_none,Option.isSome_none,Bool.false_eq_true,if_false,ZpU] at a ⊢
  clear ho
  go_enter func59,ntmps59
  go_wp2_with fail
  refine a.o.mono ?_;rintro e w' ⟨rfl,rfl⟩;go_wp2;go_ret;exact ZfU.same B.o (by omega) zL
 | some f=>
  rw[ho] at a
  dsimp only [Option.map_some,Option.isSome_some,if_true,ZpU] at a ⊢
  have Q:=ZZ ho;have c:f<d.files.length:=(q.o.dir.mayOf ho).2;have l:=ZZ (H.out.rest.file f c);obtain⟨O,-⟩:=(H.out.rest.file f c).box.cell 0 rfl;obtain⟨R,X⟩:=(H.out.rest.file f c).box.cell 1 rfl
  have M:Hid (Q1 F (w.setCell ⟨L.ps f,1,none⟩ (.int .i64 ((fl d.files f).b.length:Int))) p { L with vs:=fun i=>if i=f then L.vs f else L.vs i } { d with files:=Zeb d.files f } (Zj d) N):=ZZ (H.out.setFile (F':=F) (v':=L.vs f) (x':=⟨(fl d.files f).b,(fl d.files f).b.length⟩) c (fun k _ U _=>Below.heap_setCell _ _ _ _ U) ⟨l.o.box.set 1 _,Qh l.o.own fun g y=>Below.heap_setCell _ _ _ _ (by
   obtain⟨Y,W⟩:=J3 l.o.own y
   exact W.ne l.o.box (by decide))⟩ (.inl rfl) (fun _ m=>m) (fun g y=>H.out.rest.fv f c g y) (fun k m=>by simpa using H.out.lt k m))
  have G:Hid (Qj F w (w.setCell ⟨L.ps f,1,none⟩ (.int .i64 ((fl d.files f).b.length:Int)))):=ZZ ((Qj.refl _ _).setCell 1 (fun _=>H.out.rest.fp f c) _)
  obtain⟨va,Z,E⟩:=l.o.own.shape;rw[E] at O;obtain⟨A,v⟩:∃ A,A=w.setCell ⟨L.ps f,1,none⟩ (.int .i64 ((fl d.files f).b.length:Int)):=⟨_,rfl⟩;rw[<-v] at M G;have K:=ZZ v;clear ho c E I v
  go_enter func59,ntmps59
  go_wp2_with fail
  refine a.o.mono ?_;rintro e w' ⟨rfl,rfl⟩
  go_upto_region 5 with fail
  rw[<-K.o];clear K O R X
  go_wp2_with fail
  refine(Zcb A M.o u.o.2).mono ?_;rintro e W5 ⟨rfl,V,S⟩;go_wp2;go_ret;refine⟨rfl,F,⟨{ L with vs:=fun i=>if i=f then L.vs f else L.vs i },?_,?_,⟨?_,?_,?_⟩,u.o.1,Zdb u.o.2⟩,G.o.trans S (fun _ _ c=>c),fun _ m=>.inl m⟩
  ·rw[ZqX q.o Q.o]
   exact V.mono (by omega)
  ·exact q.o.bytes (by simp[Zeb]) (Zgy q.o.keep _ zL)
  ·have:=t.o.files
   show(Zeb d.files f).length<=_;simp[Zeb];omega
  ·have:=t.o.names
   show d.kept.length+d.waits.length<=_;omega
  ·intro x z
   rcases List.mem_or_eq_of_mem_set z with z | rfl
   ·exact t.o.bytes x z
   ·have:=t.o.bytes _ (ZbE (q.o.dir.mayOf Q.o).2)
    exact this
theorem ZpW {L:Lay} {U:Int} (n:Int) (l:I64 n) (w:World) (h:Q1 F w p L d U N) (g:OkD d) (j:Bnd d N T) (B:T<=1000000000) (y:0<=U∧U<=1000000000000000):
 Calls prog 104 #[ptr p,.int .i64 n] w fun e w'=>e=.returned (.tuple #[])∧Q1 F w' p L d (U-(ZqV d.files (look (Q6 d) n):Int)) N∧Qj F w w':=by
 have H:=ZZ h;obtain⟨⟨-,v,z,-,-,-⟩,A,-⟩:=h.cells;have a:=h.rest.now.look l
 cases ho:look (Q6 d) n with
 | none=>
  rw[ho] at a;have t:(Instr.lookup 65 (.map (some L.now)) (.int .i64 n) true).run prog w=.ok (.tuple #[.pointer none,.bool false]) w:=a;clear a ho h g j
  go_enter func104,ntmps104
  go_wp2;go_end0;exact⟨rfl,by simpa[ZqV] using H.out,Qj.refl _ _⟩
 | some f=>
  rw[ho] at a;have t:(Instr.lookup 65 (.map (some L.now)) (.int .i64 n) true).run prog w=.ok (.tuple #[.pointer (some ⟨L.ps f,0,none⟩),.bool true]) w:=a;have c:f<d.files.length:=(g.dir.mayOf ho).2;obtain⟨q,-⟩:=(h.rest.file f c).box.cell 0 rfl;obtain⟨C,x,k⟩:=(h.rest.file f c).own.shape;rw[k] at q;have u:=j.bytes _ (ZbE c);obtain⟨m,i⟩:∃ m,m=(fl d.files f).b.length:=⟨_,rfl⟩;have e:ZqV d.files (some f)=m:=i.symm;rw[e];rw[<-i] at q u;clear a ho h g j c k i e l
  go_enter func104,ntmps104
  go_upto_region 2 with fail
  go_region
  go_end0;exact⟨rfl,(H.out.setHead 1 (.int .i64 (U-(m:Int))) ⟨rfl,rfl,rfl⟩ rfl).keep (fun _ _=>rfl) zL,((Qj.refl _ _).setCell 1 (fun _=>H.out.fh) _).drewN 1⟩
theorem Bnd.waited (h:Bnd d N T) (c:Ch) (q:Int):Bnd { d with waits:=d.waits++[c],power:=q } (N+1) T:=
 ⟨by have:=h.files;show d.files.length<=_;omega,by have:=h.names;show d.kept.length+(d.waits++[c]).length<=_;simp;omega,h.bytes⟩
theorem Q1.drewN {L:Lay} (h:Q1 F w p L d u N) (q:Nat):Q1 F (w.drewN q) p L d u N:=h.keep (fun _ _=>rfl) zL
theorem ZjD (n:Int) (z:I64 n) (w:World) (h:Dsk F w p d N T) (O:N<=1000000) (P:T<=1000000000):
 Calls prog 69 #[ptr p,.int .i64 n] w fun e w'=>ZfU F w p (Qp d n).1 (Qp d n).2 (N+2) T e w':=by
 have A:=ZZ h;obtain⟨L,h,j,t,Q,J⟩:=h;have a:=ZZ (ZgB n z w h);have H:=ZZ h;have q:=ZZ j;have C:=ZZ t;have x:=ZZ (And.intro Q J);have ab:=Zod j t O P;have I:=ZZ (ZpW n z w h j t P (by omega))
 clear h j t Q J ab;unfold Qp;by_cases i:d.power=0
 ·rw[if_pos i]
  rw[if_pos i,if_pos i] at a;clear i
  go_enter func69,ntmps69
  go_wp2_with fail
  refine a.o.mono ?_;rintro e w' ⟨rfl,rfl⟩;go_wp2;go_ret;exact ZfU.same A.o (by omega) zL
 rw[if_neg i];rw[if_neg i,if_neg i] at a;clear i
 cases ho:look (Q6 d) n with
 | none=>
  rw[ho] at a
  dsimp only [Option.map_none,Option.isSome_none,Bool.false_eq_true,if_false,ZpU] at a ⊢
  clear ho
  go_enter func69,ntmps69
  go_wp2_with fail
  refine a.o.mono ?_;rintro e w' ⟨rfl,rfl⟩;go_wp2;go_ret;exact ZfU.same A.o (by omega) zL
 | some f=>
  rw[ho] at a I
  dsimp only [Option.map_some,Option.isSome_some,if_true,ZpU] at a ⊢
  have S:=ZZ ho;have aa:=ZZ (q.o.dir.mayOf ho);clear ho z
  go_enter func69,ntmps69
  go_wp2_with fail
  refine a.o.mono ?_;rintro e w' ⟨rfl,rfl⟩
  go_wp2_with fail
  refine I.o.mono ?_;rintro e g ⟨rfl,B,D⟩;have ad:=ZZ B;have m:=ZZ D;clear B D
  go_wp2_with fail
  refine(ZvP n g).mono ?_;rintro e c ⟨rfl,l⟩;have v:Below g.heap.size g c:=by rw[l];exact(Below.refl _ _).alloc zL _
  have ae:c.heap.size=g.heap.size+1:=by rw[l];simp
  have E:Bk 3 c g.heap.size #[.int .i64 n]:=by rw[l];exact heap_alloc_new g _
  have Y:=ZZ (ad.o.more v);have ac:Hid (ChV (Gr F g c) c L.ps (.take n) (.func (.func 157) #[] #[ptr g.heap.size])):=ZZ ⟨_,rfl,E,.inr ⟨Nat.le_refl _,by omega⟩⟩
  have y:Hid (Qj F w' c):=ZZ (m.o.trans (G:=fun _=>False) (Qj.ofBelow v) (fun _ _ hf=>hf.elim))
  have M:=ZZ (Zhr c Y.o ac.o q.o aa.o.1 O (by have:=C.o.names;omega))
  clear v ae E l
  go_wp2_with fail
  refine M.o.mono ?_;rintro e u ⟨rfl,W,K,-,-,R⟩
  have Z:Hid (Qj F w' u):=ZZ (y.o.trans R (fun k hk hf=>by
   rcases hf with hf | hf
   ·exact hf
   ·have:=m.o.size;omega))
  have V:=ZZ K;clear K R M
  go_wp2_with fail
  refine(Zcb u V.o x.o.2).mono ?_;rintro e W4 ⟨rfl,U,af⟩;go_wp2;go_ret;refine⟨rfl,Gr (Gr F g c) c u,⟨W,?_,?_,(C.o.waited (.take n) _).mono (by omega) zL,x.o.1,Zdb x.o.2⟩,Z.o.trans af (fun k hk hf=>?_),fun k hk=>?_⟩
  ·have hu:=ZqZ q.o S.o (Zcv d.power)
   have X:(Zj { d with waits:=d.waits++[.take n],power:=Zcv d.power }:Int)=(Zj d:Int)-(ZqV d.files (some f):Int):=by
    show _=(Zj d:Int)-((fl d.files f).b.length:Int);omega
   rw[X];exact U.mono (by omega)
  ·exact q.o.taken S.o _
  ·rcases hf with (hf | hf) | hf
   ·exact hf
   ·have:=m.o.size;omega
   ·have:=y.o.size;omega
  ·rcases hk with (hk | hk) | hk
   ·exact .inl hk
   ·have:=m.o.size;exact .inr (by omega)
   ·have:=y.o.size;exact .inr (by omega)
theorem Zrb (w:World) (a b c:Obj):(((w.alloc a).alloc b).alloc c).heap[w.heap.size]?=some a∧(((w.alloc a).alloc b).alloc c).heap[w.heap.size+1]?=some b∧(((w.alloc a).alloc b).alloc c).heap[w.heap.size+1+1]?=some c:=by
 have e:(w.alloc a).heap.size=w.heap.size+1:=by simp
 have d:((w.alloc a).alloc b).heap.size=w.heap.size+1+1:=by simp
 refine⟨?_,?_,?_⟩
 ·rw[Below.heap_alloc _ _ _ (by omega),Below.heap_alloc _ _ _ (by omega)]
  exact heap_alloc_new w a
 ·rw[Below.heap_alloc _ _ _ (by omega),<-e]
  exact heap_alloc_new _ b
 ·rw[<-d]
  exact heap_alloc_new _ c
theorem Zrc (n m:Int) (U:I64 n) (O:I64 m) (w:World) (h:Dsk F w p d N T) (Y:N<=1000000) (Z:T<=1000000000):
 Calls prog 61 #[ptr p,.int .i64 n,.int .i64 m] w fun e w'=>ZfU F w p (Zam d n m).1 (Zam d n m).2 (N+2) T e w':=by
 have z:=ZZ h;obtain⟨L,h,u,y,aa,V⟩:=h;have a:=ZZ (ZgB n U w h);have H:=ZZ h;have q:=ZZ u;have l:=ZZ y;have j:=ZZ (And.intro aa V);have aj:=Zod u y Y Z;have ag:=ZZ (ZpW m O w h u y Z (by omega))
 clear h u y aa V aj;unfold Zam;by_cases c:d.power=0
 ·rw[if_pos c]
  rw[if_pos c,if_pos c] at a;clear c
  go_enter func61,ntmps61
  go_wp2_with fail
  refine a.o.mono ?_;rintro e w' ⟨rfl,rfl⟩;go_wp2;go_ret;exact ZfU.same z.o (by omega) zL
 rw[if_neg c];rw[if_neg c,if_neg c] at a;clear c
 cases ho:look (Q6 d) n with
 | none=>
  rw[ho] at a
  dsimp only [Option.map_none,Option.isSome_none,Bool.false_eq_true,if_false,ZpU] at a ⊢
  clear ho
  go_enter func61,ntmps61
  go_wp2_with fail
  refine a.o.mono ?_;rintro e w' ⟨rfl,rfl⟩;go_wp2;go_ret;exact ZfU.same z.o (by omega) zL
 | some f=>
  rw[ho] at a
  dsimp only [Option.map_some,Option.isSome_some,if_true,ZpU] at a ⊢
  have ac:=ZZ ho;have S:=ZZ (q.o.dir.mayOf ho);have t:=ZZ (Zmb m w);clear ho U O
  cases hmn:ZfK m with
  | false=>
   rw[if_pos rfl];rw[hmn] at t;clear hmn
   go_enter func61,ntmps61
   go_wp2_with fail
   refine a.o.mono ?_;rintro e w' ⟨rfl,rfl⟩
   go_wp2_with fail
   refine t.o.mono ?_;rintro e w' ⟨rfl,rfl⟩;go_wp2;go_ret;exact ZfU.same z.o (by omega) zL
  | true=>
  rw[if_neg (by simp)]
  rw[hmn] at t;have Q:=ZZ hmn;clear hmn;by_cases i:n=m
  ·rw[if_pos i]
   have ae:(n != m)=false:=by simpa using i
   clear i
   go_enter func61,ntmps61
   go_wp2_with fail
   refine a.o.mono ?_;rintro e w' ⟨rfl,rfl⟩
   go_wp2_with fail
   refine t.o.mono ?_;rintro e w' ⟨rfl,rfl⟩
   go_wp2_with fail
   refine(Zcb _ H.out j.o.2).mono ?_;rintro e W4 ⟨rfl,B,K⟩;go_wp2;go_ret;exact⟨rfl,F,⟨L,B.mono (by omega),q.o.power _,⟨by have:=l.o.files;show d.files.length<=_;omega,by have:=l.o.names;show d.kept.length+d.waits.length<=_;omega,l.o.bytes⟩,j.o.1,Zdb j.o.2⟩,K,fun _ hk=>.inl hk⟩
  rw[if_neg i];have ae:(n != m)=true:=by simpa using i
  have M:=ZZ i;clear i
  go_enter func61,ntmps61
  go_wp2_with fail
  refine a.o.mono ?_;rintro e w' ⟨rfl,rfl⟩
  go_wp2_with fail
  refine t.o.mono ?_;rintro e w' ⟨rfl,rfl⟩
  go_wp2_with fail
  refine ag.o.mono ?_;rintro e b ⟨rfl,P,R⟩;have al:=ZZ P;have x:=ZZ R;clear P R
  go_wp2_with fail
  refine(Ztm n m (L.ps f) b).mono ?_;rintro e g ⟨rfl,v⟩;have D:Below b.heap.size b g:=by rw[v];exact(((Below.refl _ _).alloc zL _).alloc (by simp) _).alloc (by simp;omega) _
  have am:g.heap.size=b.heap.size+1+1+1:=by rw[v];simp
  obtain⟨C,I,J⟩:=Zrb b (.cells #[.int .i64 n] 3) (.cells #[.int .i64 m] 3) (.cells #[ptr (L.ps f)] 115);rw[<-v] at C I J;have af:=ZZ (al.o.more D);have ak:Hid (ChV (Gr F b g) g L.ps (.move n m f) (.func (.func 143) #[] #[ptr (b.heap.size+1+1),ptr (b.heap.size+1),ptr b.heap.size])):=ZZ ⟨_,_,_,rfl,C,I,J,.inr ⟨Nat.le_refl _,by omega⟩,.inr ⟨by omega,by omega⟩,.inr ⟨by omega,by omega⟩⟩
  have E:Hid (Qj F w' g):=ZZ (x.o.trans (G:=fun _=>False) (Qj.ofBelow D) (fun _ _ hf=>hf.elim))
  have X:=ZZ (Zhr g af.o ak.o q.o ⟨S.o.1,Q.o,M.o,S.o.2⟩ Y (by have:=l.o.names;omega))
  clear D am C I J v
  go_wp2_with fail
  refine X.o.mono ?_;rintro e A ⟨rfl,L3,W,-,-,ab⟩
  have ai:Hid (Qj F w' A):=ZZ (E.o.trans ab (fun k hk hf=>by
   rcases hf with hf | hf
   ·exact hf
   ·have:=x.o.size;omega))
  have ad:=ZZ W;clear W ab X
  go_wp2_with fail
  refine(Zcb A ad.o j.o.2).mono ?_;rintro e W4 ⟨rfl,B,K⟩;go_wp2;go_ret;refine⟨rfl,Gr (Gr F b g) g A,⟨L3,?_,?_,(l.o.waited (.move n m f) _).mono (by omega) zL,j.o.1,Zdb j.o.2⟩,ai.o.trans K (fun k hk hf=>?_),fun k hk=>?_⟩
  ·have hu:=ZqY q.o M.o ac.o (Zcv d.power)
   have e1:(Zj { d with waits:=d.waits++[.move n m f],power:=Zcv d.power }:Int)=(Zj d:Int)-(ZqV d.files (look (Q6 d) m):Int):=by omega
   rw[e1];exact B.mono (by omega)
  ·exact q.o.moved ac.o Q.o M.o _
  ·rcases hf with (hf | hf) | hf
   ·exact hf
   ·have:=x.o.size;omega
   ·have:=E.o.size;omega
  ·rcases hk with (hk | hk) | hk
   ·exact .inl hk
   ·have:=x.o.size;exact .inr (by omega)
   ·have:=E.o.size;exact .inr (by omega)
open Go.RowKit Go.ChangeShapes
theorem Zhu:prog.cellsOf 3=1:=by kernel_rfl
theorem Zrd:prog.cellsOf 23=1:=by kernel_rfl
theorem Zb (h:(Lit.int .i64 n).wf=true):I64 n:=by
 simpa[I64,Lit.wf,IntKind.min,IntKind.max,IntKind.signed,IntKind.bits] using h
section
variable {H:Type} {enc:TypeId × Value->H} {w:World} {base fuel:Nat} {held:Bool}
theorem ZpX {cs:List Value} {x:DataW H × List MemPlace} (h:DataW.trod enc prog w base (fun _=>true) held fuel 23 cs=some x):∃ v l,cs=[v]∧RdI w v l:=by
 rcases open_ints underlying23 underlying3 (by kernel_rfl) h with ⟨a,_⟩ | ⟨y,l,c,i,a,_,b,g,d,_,f,e⟩
 ·exact⟨_,[],a,RdI.nil _⟩
 ·exact⟨_,_,a,RdI.ofRow b g (by simpa using d) f e⟩
end
end Go.Proofs.YtnahjngbneicaaaGreatDoor
