import Derived.Test.YtnahjngbneicaaaGreatDoorPack2
import Derived.Lib.LazyBuf
import Derived.Deep.Slices
namespace Go.Proofs.YtnahjngbneicaaaGreatDoor
open _root_.Go.Proofs.Tryz
open List (foldl_append length_append map_cons map_nil map_toArray)
set_option maxHeartbeats 2000000
set_option maxRecDepth 100000
open Go.RowKit
variable {w w':World} {v v':Value} {l:List UInt8} {t:TypeId} {B N N' T T' b f m p:Nat} {a n u:Int} {cs:Array Value} {F F' G:Nat->Prop} {c:Ch} {d:Dk} {fs:List Fl}
theorem Rd.only (h:Rd w v l) {F:Nat->Prop} (t:Zap F w w') (f:∀ k,v.ownBlock=some k->¬ F k):Rd w' v l:=by
 obtain⟨ao,cap,rfl,p,m,q,c⟩:=h;refine⟨ao,cap,rfl,p,m,q,?_⟩;rcases c with c | ⟨b,d,rfl,n⟩
 ·exact .inl c
 ·refine .inr ⟨b,d,rfl,fun j g=>?_⟩
  have e:=n j g;have i:b<w.heap.size:=World.block_lt_of_cell? w ⟨b,d+j,none⟩ e;rw[World.cell?_of_block (a:=⟨b,d+j,none⟩) (t.block b i (f b rfl))];exact e
theorem Bk.neMap {n:Nat} {f:Int->Option Nat} (h:Bk t w b cs) (a:Zct w m n f):b≠m:=a.apart h
theorem Own.shape (h:Own w B v l):∃ ao cap,v=.slice ao l.length cap:=by
 obtain⟨ao,cap,a,_⟩:=h.rd;exact⟨ao,cap,a⟩
theorem Own.front {ao:Option Addr} {n cap:Nat} (h:Own w B (.slice ao n cap) l) (k:Nat) (j:k<=l.length):Own w B (.slice ao k cap) (l.take k):=by
 obtain⟨x,m⟩:=h;have b:(l.take k).length=k:=by simp;omega
 refine⟨by rw[Zbi,Nat.mul_one],?_⟩
 rcases m with ⟨a,v⟩ | ⟨g,u,cur,a,d,f,t,p,i,c⟩
 ·left
  simp only [Value.slice.injEq] at a;obtain⟨rfl,rfl,rfl⟩:=a;have:k=0:=by omega
  subst this;exact⟨rfl,by rw[b]⟩
 ·right
  simp only [Value.slice.injEq] at a;obtain⟨rfl,q,rfl⟩:=a;refine⟨g,cap,cur,by rw[b],d,f,by rw[b];omega,p,i,?_⟩
  rw[Nat.mul_one] at c ⊢;rw[b];have e:Lib.byteCells (l.take k)=(Lib.byteCells l).take k:=by simp[Lib.byteCells]
  rw[e,<-c,List.take_take,Nat.min_eq_left j]
structure Zpp (w:World) (b:Nat) (v:Value) (x:Fl):Prop where
 box:Bk 117 w b #[v,.int .i64 (x.k:Int)]
 own:Own w 0 v x.b
theorem Zpp.keep {x:Fl} (h:Zpp w b v x) (c:w'.heap[b]?=w.heap[b]?) (a:∀ g,v.ownBlock=some g->w'.heap[g]?=w.heap[g]?):Zpp w' b v x:=
 ⟨h.box.keep c,Zae h.own a⟩
def ChV (F:Nat->Prop) (w:World) (ps:Nat->Nat):Ch->Value->Prop
 | .give n f,v=>∃ b1 b2,v=.func (.func 139) #[] #[ptr b2,ptr b1]∧Bk 3 w b1 #[.int .i64 n]∧Bk 115 w b2 #[ptr (ps f)]∧F b1∧F b2
 | .move n tz f,v=>∃ b1 b2 b3,v=.func (.func 143) #[] #[ptr b3,ptr b2,ptr b1]∧Bk 3 w b1 #[.int .i64 n]∧Bk 3 w b2 #[.int .i64 tz]∧Bk 115 w b3 #[ptr (ps f)]∧F b1∧F b2∧F b3
 | .take n,v=>∃ b1,v=.func (.func 157) #[] #[ptr b1]∧Bk 3 w b1 #[.int .i64 n]∧F b1
def chOf:Ch->Option Nat
 | .give _ f=>some f
 | .move _ _ f=>some f
 | .take _=>none
theorem ChV.keep {ps q:Nat->Nat} (h:ChV F w ps c v) (e:∀ k,F k->F' k) (t:∀ f,chOf c=some f->q f=ps f)
 (d:∀ k cs,F k->(Bk 3 w k cs∨Bk 115 w k cs)->w'.heap[k]?=w.heap[k]?):ChV F' w' q c v:=by
 cases c with
 | give n f=>
  obtain⟨j,l,rfl,b,i,a,g⟩:=h;exact⟨j,l,rfl,b.keep (d _ _ a (.inl b)),by rw[t f rfl];exact i.keep (d _ _ g (.inr i)),e _ a,e _ g⟩
 | move n tz f=>
  obtain⟨j,l,u,rfl,b,i,p,a,g,m⟩:=h;exact⟨j,l,u,rfl,b.keep (d _ _ a (.inl b)),i.keep (d _ _ g (.inl i)),by rw[t f rfl];exact p.keep (d _ _ m (.inr p)),e _ a,e _ g,e _ m⟩
 | take n=>
  obtain⟨j,rfl,b,a⟩:=h;exact⟨j,rfl,b.keep (d _ _ a (.inl b)),e _ a⟩
structure Lay where
 now:Nat
 kept:Nat
 wv:Value
 cs:List Value
 ps:Nat->Nat
 vs:Nat->Value
structure Zrp (F:Nat->Prop) (w:World) (L:Lay) (d:Dk) (N:Nat):Prop where
 now:Zct w L.now N (fun n=>(look (Zbk d) n).map L.ps)
 kept:Zct w L.kept N (fun n=>(look d.kept n).map L.ps)
 row:w.ownsRow 0 113 1 L.wv L.cs.length L.cs
 many:L.cs.length=d.waits.length
 wait:∀ (i:Nat) c v,d.waits[i]?=some c->L.cs[i]?=some v->ChV F w L.ps c v
 file:∀ i,i<d.files.length->Zpp w (L.ps i) (L.vs i) (fl d.files i)
 psn:∀ i j,i<d.files.length->j<d.files.length->i≠j->L.ps i≠L.ps j
 vsn:∀ i j,i<d.files.length->j<d.files.length->i≠j->∀ g,(L.vs i).ownBlock=some g->(L.vs j).ownBlock≠some g
 nk:L.now≠L.kept
 fn:F L.now
 fk:F L.kept
 fw:∀ g,L.wv.ownBlock=some g->F g
 fp:∀ i,i<d.files.length->F (L.ps i)
 fv:∀ i,i<d.files.length->∀ g,(L.vs i).ownBlock=some g->F g
def ZiC (L:Lay) (d:Dk) (u:Int):Array Value:=#[.int .i64 d.room,.int .i64 u,.map (some L.now),.map (some L.kept),L.wv,.int .i64 d.power]
structure ZaM (F:Nat->Prop) (w:World) (p:Nat) (L:Lay) (d:Dk) (u:Int) (N:Nat):Prop where
 head:Bk 69 w p (ZiC L d u)
 rest:Zrp F w L d N
 fh:F p
 lt:∀ k,F k->k<w.heap.size
theorem Zrp.keep {L:Lay} (h:Zrp F w L d N) (b:Bk 69 w p cs) (a:∀ k,F k->k≠p->w'.heap[k]?=w.heap[k]?):Zrp F w' L d N where
 now:=h.now.keep (a _ h.fn (b.neMap h.now).symm)
 kept:=h.kept.keep (a _ h.fk (b.neMap h.kept).symm)
 row:=Zae h.row fun g e=>a g (h.fw g e) (by obtain⟨l,hb⟩:=Zeh h.row e;exact hb.ne b (by decide))
 many:=h.many
 wait:=fun i c v n m=>(h.wait i c v n m).keep (fun _ j=>j) (fun _ _=>rfl) (fun k l j hb=>a k j (by rcases hb with hb | hb <;> exact hb.ne b (by decide)))
 file:=fun i f=>(h.file i f).keep (a _ (h.fp i f) ((h.file i f).box.ne b (by decide))) fun g e=>a g (h.fv i f g e) (by obtain⟨l,hb⟩:=Zeh (h.file i f).own e;exact hb.ne b (by decide))
 psn:=h.psn
 vsn:=h.vsn
 nk:=h.nk
 fn:=h.fn
 fk:=h.fk
 fw:=h.fw
 fp:=h.fp
 fv:=h.fv
theorem Zrp.mono {L:Lay} (h:Zrp F w L d N) (a:N<=N'):Zrp F w L d N':=
 ⟨h.now.mono a,h.kept.mono a,h.row,h.many,h.wait,h.file,h.psn,h.vsn,h.nk,h.fn,h.fk,h.fw,h.fp,h.fv⟩
theorem ZaM.setHead {L:Lay} (h:ZaM F w p L d u N) (j:Nat) (x:Value) {d':Dk} {u':Int} (e:d'.files=d.files∧d'.kept=d.kept∧d'.waits=d.waits)
 (b:(ZiC L d u).setIfInBounds j x=ZiC L d' u'):ZaM F (w.setCell ⟨p,j,none⟩ x) p L d' u' N:=by
 refine⟨by rw[<-b];exact h.head.set j x,?_,h.fh,fun k c=>?_⟩
 ·have a:=h.rest.keep h.head (w':=w.setCell ⟨p,j,none⟩ x) (fun k _ f=>Below.heap_setCell _ _ _ _ f)
  obtain⟨m,fs,kp,n,i⟩:=d;obtain⟨y,v,t,q,g⟩:=d';obtain⟨rfl,rfl,rfl⟩:=e;exact⟨a.now,a.kept,a.row,a.many,a.wait,a.file,a.psn,a.vsn,a.nk,a.fn,a.fk,a.fw,a.fp,a.fv⟩
 ·have:=h.lt k c
  have l:=((Below.refl 0 w).setCell (p:=⟨p,j,none⟩) (Nat.zero_le _) x).size;omega
theorem ZaM.keep {L:Lay} (h:ZaM F w p L d u N) (b:∀ k,F k->w'.heap[k]?=w.heap[k]?) (c:w.heap.size<=w'.heap.size):ZaM F w' p L d u N:=
 ⟨h.head.keep (b p h.fh),h.rest.keep h.head (fun k a _=>b k a),h.fh,fun k a=>by have:=h.lt k a;omega⟩
theorem ZaM.only {L:Lay} (h:ZaM F w p L d u N) (b:Zap G w w') (c:∀ k,F k->¬ G k):ZaM F w' p L d u N:=
 h.keep (fun k a=>b.block k (h.lt k a) (c k a)) b.size
theorem ZaM.cells {L:Lay} (h:ZaM F w p L d u N):
 (w.cell? ⟨p,0,none⟩=some (.int .i64 d.room)∧w.cell? ⟨p,1,none⟩=some (.int .i64 u)∧w.cell? ⟨p,2,none⟩=some (.map (some L.now))∧w.cell? ⟨p,3,none⟩=some (.map (some L.kept))∧w.cell? ⟨p,4,none⟩=some L.wv∧w.cell? ⟨p,5,none⟩=some (.int .i64 d.power))∧
 w.frozen? ⟨p,1,none⟩=false∧w.frozen? ⟨p,3,none⟩=false∧w.frozen? ⟨p,4,none⟩=false∧w.frozen? ⟨p,5,none⟩=false:=
 ⟨⟨(h.head.cell 0 rfl).1,(h.head.cell 1 rfl).1,(h.head.cell 2 rfl).1,(h.head.cell 3 rfl).1,(h.head.cell 4 rfl).1,(h.head.cell 5 rfl).1⟩,(h.head.cell 1 rfl).2,(h.head.cell 3 rfl).2,(h.head.cell 4 rfl).2,(h.head.cell 5 rfl).2⟩
theorem ZaM.setFile {L:Lay} (h:ZaM F w p L d u N) (m:f<d.files.length) {v':Value} {x':Fl}
 (G:∀ k,F k->k≠L.ps f->(L.vs f).ownBlock≠some k->w'.heap[k]?=w.heap[k]?)
 (R:Zpp w' (L.ps f) v' x') (hr:v'.ownBlock=(L.vs f).ownBlock∨∀ g,v'.ownBlock=some g->w.heap.size<=g)
 (y:∀ k,F k->F' k) (V:∀ g,v'.ownBlock=some g->F' g) (T:∀ k,F' k->k<w'.heap.size):
 ZaM F' w' p { L with vs:=fun i=>if i=f then v' else L.vs i } { d with files:=d.files.set f x' } u N:=by
 have a:=h.rest;have M:=(a.file f m).box
 have K:∀ {t:TypeId} {k:Nat} {cs:Array Value},Bk t w k cs->F k->t≠117->t≠5->w'.heap[k]?=w.heap[k]?:=fun {t k cs} hb E I H=>G k E (hb.ne M I) fun b=>by
  obtain⟨D,q⟩:=Zeh (a.file f m).own b;exact(hb.ne q H) rfl
 have Q:∀ {k n:Nat} {g:Int->Option Nat},Zct w k n g->F k->w'.heap[k]?=w.heap[k]?:=fun {k n g} hm E=>G k E (M.neMap hm).symm fun b=>by
  obtain⟨D,q⟩:=Zeh (a.file f m).own b;exact(q.neMap hm) rfl
 have B:(d.files.set f x').length=d.files.length:=List.length_set ..;refine⟨h.head.keep (K h.head h.fh (by decide) (by decide)),?_,y _ h.fh,T⟩
 refine⟨a.now.keep (Q a.now a.fn),a.kept.keep (Q a.kept a.fk),Zae a.row fun g b=>?_,a.many,fun i c v I H=>?_,fun i l=>?_,fun i j l z=>?_,fun i j l z J=>?_,a.nk,y _ a.fn,y _ a.fk,fun g b=>y g (a.fw g b),fun i l=>y _ (a.fp i (by rw[<-B];exact l)),fun i l=>?_⟩
 ·obtain⟨D,hb⟩:=Zeh a.row b
  exact K hb (a.fw g b) (by decide) (by decide)
 ·exact(a.wait i c v I H).keep y (fun _ _=>rfl) fun k D E hb=>by rcases hb with hb | hb <;> exact K hb E (by decide) (by decide)
 ·have x:i<d.files.length:=by rw[<-B];exact l
  show Zpp w' (L.ps i) (if i=f then v' else L.vs i) (fl (d.files.set f x') i)
  by_cases e:i=f
  ·rw[if_pos e,e,Zfg m]
   exact R
  ·rw[if_neg e,ZcF (fun S=>e S.symm)]
   refine(a.file i x).keep (G _ (a.fp i x) (a.psn i f x m e) fun b=>?_) fun g b=>G g (a.fv i x g b) ?_ (fun A=>a.vsn i f x m e g b A)
   ·obtain⟨D,q⟩:=Zeh (a.file f m).own b
    exact((a.file i x).box.ne q (by decide)) rfl
   ·obtain⟨D,q⟩:=Zeh (a.file i x).own b
    exact q.ne M (by decide)
 ·rw[B] at l z
  exact a.psn i j l z
 ·rw[B] at l z
  have O:∀ i,i<d.files.length->i≠f->∀ g,(L.vs i).ownBlock=some g->v'.ownBlock≠some g:=fun i l U g b A=>by
   rcases hr with hr | hr
   ·exact a.vsn i f l m U g b (by rw[<-hr];exact A)
   ·have I:=hr g A
    have H:=h.lt g (a.fv i l g b);omega
  show ∀ g,(if i=f then v' else L.vs i).ownBlock=some g->(if j=f then v' else L.vs j).ownBlock≠some g
  intro g;by_cases C:i=f
  ·rw[if_pos C,if_neg (by rw[<-C];exact Ne.symm J)]
   exact fun b A=>O j z (by rw[<-C];exact Ne.symm J) g A b
  ·rw[if_neg C]
   by_cases P:j=f
   ·rw[if_pos P]
    exact O i l C g
   ·rw[if_neg P]
    exact a.vsn i j l z J g
 ·rw[B] at l
  show ∀ g,(if i=f then v' else L.vs i).ownBlock=some g->F' g
  intro g;by_cases e:i=f
  ·rw[if_pos e]
   exact V g
  ·rw[if_neg e]
   exact fun b=>y g (a.fv i l g b)
structure Bnd (d:Dk) (N T:Nat):Prop where
 files:d.files.length<=N
 names:d.kept.length+d.waits.length<=N
 bytes:∀ x ∈ d.files,x.b.length<=T
def Dsk (F:Nat->Prop) (w:World) (p:Nat) (d:Dk) (N T:Nat):Prop:=
 ∃ L,ZaM F w p L d (ZcL d) N∧OkD d∧Bnd d N T∧I64 d.room∧I64 d.power
theorem Dsk.only (h:Dsk F w p d N T) (b:Zap G w w') (e:∀ k,F k->¬ G k):Dsk F w' p d N T:=by
 obtain⟨L,c,a⟩:=h;exact⟨L,c.only b e,a⟩
theorem Dsk.below (h:Dsk F w p d N T) (b:Below w.heap.size w w'):Dsk F w' p d N T:=
 h.only (G:=fun _=>False) (Zap.ofBelow b) (fun _ _ a=>a)
theorem Zpq {L:Lay} (w:World) (h:ZaM F w p L d u N):
 Calls prog 33 #[ptr p] w fun e w'=>e=.returned (.bool (d.power != 0))∧w'=w:=by
 obtain⟨⟨-,-,-,-,-,a⟩,-⟩:=h.cells
 go_enter func33,ntmps33
 go_wp2;go_ret;exact⟨rfl,rfl⟩
theorem Zpr (n:Int) (w:World):
 Calls prog 94 #[.int .i64 n] w fun e w'=>e=.returned (.bool (Zja n))∧w'=w:=by
 by_cases a:0<=n
 ·by_cases b:n<1048576
  ·have e:Zja n=true:=by simp[Zja,a,b]
   rw[e]
   go_enter func94,ntmps94
   go_wp2;go_ret;exact⟨Zho (by simp),rfl⟩
  ·have e:Zja n=false:=by simp[Zja,a,b]
   rw[e]
   go_enter func94,ntmps94
   go_wp2;go_ret;exact⟨Zho (by simp),rfl⟩
 ·have e:Zja n=false:=by simp[Zja,a]
  rw[e]
  go_enter func94,ntmps94
  go_wp2;go_ret;exact⟨rfl,rfl⟩
theorem Zps (a:Int) (n:Nat) (d:n<=1000000000000000) (w:World):
 Calls prog 72 #[.int .i64 a,.int .i64 (n:Int)] w fun e w'=>e=.returned (.int .i64 (Zcv a n:Int))∧w'=w:=by
 obtain⟨M,b⟩:∃ M:Int,M=(n:Int):=⟨_,rfl⟩;by_cases h:a<0
 ·have e:Zcv a n=0:=by simp[Zcv,h]
  rw[e,<-b];clear b
  go_enter func72,ntmps72
  go_wp2;go_ret;exact⟨rfl,rfl⟩
 ·have c:=Int.emod_nonneg a (show M+1≠0 by omega)
  have e:((Zcv a n:Nat):Int)=a % (M+1):=by
   rw[b] at c ⊢;rw[Zcv,if_neg h];omega
  rw[e,<-b];have f:0<=M∧M<=1000000000000000:=by omega
  clear e c b d n
  go_enter func72,ntmps72
  go_wp2;go_ret;exact⟨rfl,rfl⟩
theorem Zpt (q n:Int) (w:World):
 Calls prog 71 #[.int .i64 q,.int .i64 n] w fun e w'=>e=.returned (.int .i64 (if q=0 then 0 else max n 0))∧w'=w:=by
 by_cases h:q=0
 ·rw[if_pos h]
  subst h
  go_enter func71,ntmps71
  go_wp2;go_ret;exact⟨rfl,rfl⟩
 ·rw[if_neg h]
  have e:(q == 0)=false:=by simpa using h
  clear h
  go_enter func71,ntmps71
  go_wp2;go_ret;exact⟨rfl,rfl⟩
theorem Zfq {L:Lay} (w:World) (h:ZaM F w p L d u N) (j:I64 d.power):
 Calls prog 97 #[ptr p] w fun e w'=>e=.returned (.int .i64 0)∧ZaM F w' p L { d with power:=ZfK d.power } u N∧Zap F w w':=by
 have H:=ZZ h;obtain⟨⟨-,-,-,-,-,g⟩,-,-,-,l⟩:=h.cells;obtain⟨k,i⟩:=j;obtain⟨q,a⟩:∃ q,q=d.power:=⟨_,rfl⟩;rw[<-a] at g k i ⊢;by_cases c:q>0
 ·have b:Hid (ZfK q=q-1):=if_pos c
  have f:=ZZ a;clear h a
  go_enter func97,ntmps97
  go_wp2;go_ret;refine⟨rfl,?_,(Zap.refl _ _).setCell 5 (fun _=>H.out.fh) _⟩
  refine H.out.setHead 5 _ ⟨rfl,rfl,rfl⟩ ?_;rw[b.o];rfl
 ·have b:Hid (ZfK q=q):=if_neg c
  have f:=ZZ a;clear h a
  go_enter func97,ntmps97
  go_wp2;go_ret;rw[b.o,f.o];exact⟨rfl,H.out,Zap.refl _ _⟩
theorem Zzd (n:Int) (j:I64 n) (w:World) (h:Dsk F w p d N T):
 Calls prog 30 #[ptr p,.int .i64 n] w fun e w'=>e=.returned (.tuple #[])∧Dsk F w' p (ZyD d n) N T∧Zap F w w':=by
 obtain⟨L,h,i,k,g,l⟩:=h;have H:=ZZ h;have a:=ZZ (And.intro i (And.intro k (And.intro g l)));have t:=ZZ j;obtain⟨⟨-,-,-,-,-,u⟩,-,-,-,y⟩:=h.cells;obtain⟨q,c⟩:∃ q,q=d.power:=⟨_,rfl⟩;have v:=ZZ c;rw[<-c] at u;clear h i k g l c j;have f:=ZZ (Zpt q n w);obtain⟨r,b⟩:∃ r,r=(if q=0 then(0:Int) else max n 0):=⟨_,rfl⟩
 rw[<-b] at f;have m:=ZZ b;clear b
 go_enter func30,ntmps30
 go_wp2_with fail
 refine f.o.mono ?_;rintro e w' ⟨rfl,rfl⟩;go_wp2;go_end0;refine⟨rfl,⟨L,?_,OkD.cut a.o.1 n,⟨a.o.2.1.files,a.o.2.1.names,a.o.2.1.bytes⟩,a.o.2.2.1,?_⟩,(Zap.refl _ _).setCell 5 (fun _=>H.out.fh) _⟩
 ·refine H.out.setHead 5 _ ⟨rfl,rfl,rfl⟩ ?_
  rw[m.o,v.o];rfl
 ·obtain⟨z,x⟩:=t.o
  unfold ZyD I64
  dsimp only
  split <;> omega
theorem ZAE (w:World) (room:Int) (H:I64 room):Dsk (fun k=>w.heap.size<=k∧k<(((w.alloc (.map #[] 0)).alloc (.map #[] 0)).alloc (.cells #[.int .i64 room,.int .i64 0,.map (some w.heap.size),.map (some (w.heap.size+1)),.slice none 0 0,.int .i64 (-1)] 69)).heap.size)
 (((w.alloc (.map #[] 0)).alloc (.map #[] 0)).alloc (.cells #[.int .i64 room,.int .i64 0,.map (some w.heap.size),.map (some (w.heap.size+1)),.slice none 0 0,.int .i64 (-1)] 69)) (w.heap.size+1+1) (Zmi room) 0 0:=by
 have y:=Zct.made w;obtain⟨d,B⟩:∃ d,d=w.alloc (.map #[] 0):=⟨_,rfl⟩;have z:d.heap.size=w.heap.size+1:=by rw[B];simp
 rw[<-B] at y ⊢;have f:=Zct.made d;have u:=y.keep (w':=d.alloc (.map #[] 0)) (Below.heap_alloc _ _ _ (by omega))
 obtain⟨a,t⟩:∃ a,a=d.alloc (.map #[] 0):=⟨_,rfl⟩;have m:a.heap.size=w.heap.size+1+1:=by rw[t];simp[z]
 rw[<-t] at f u ⊢;rw[z] at f;obtain⟨A,l⟩:∃ A:Array Value,A=#[.int .i64 room,.int .i64 0,.map (some w.heap.size),.map (some (w.heap.size+1)),.slice none 0 0,.int .i64 (-1)]:=⟨_,rfl⟩;rw[<-l];have p:=f.keep (w':=a.alloc (.cells A 69)) (Below.heap_alloc _ _ _ (by omega))
 have q:=u.keep (w':=a.alloc (.cells A 69)) (Below.heap_alloc _ _ _ (by omega))
 have e:Bk 69 (a.alloc (.cells A 69)) a.heap.size A:=heap_alloc_new a _;rw[m] at e;have G:(a.alloc (.cells A 69)).heap.size=w.heap.size+1+1+1:=by simp[m]
 obtain⟨n,E⟩:∃ n,n=a.alloc (.cells A 69):=⟨_,rfl⟩;rw[<-E] at p q e G ⊢;refine⟨⟨w.heap.size,w.heap.size+1,.slice none 0 0,[],fun _=>0,fun _=>.slice none 0 0⟩,⟨by rw[l] at e;exact e,?_,⟨by omega,by omega⟩,fun k D=>D.2⟩,Zwd room,⟨Nat.le_refl _,Nat.le_refl _,(fun x F=>by cases F)⟩,H,⟨by show(-9223372036854775808:Int)<=-1;omega,by show(-1:Int)<=9223372036854775807;omega⟩⟩
 refine⟨q,p,World.ownsRow_nil _ _ _ _,rfl,(fun i c v h=>by simp[Zmi] at h),(fun i b=>absurd b (Nat.not_lt_zero _)),(fun i j b=>absurd b (Nat.not_lt_zero _)),(fun i j b=>absurd b (Nat.not_lt_zero _)),(by show w.heap.size≠w.heap.size+1;omega),⟨by show w.heap.size<=w.heap.size;omega,by show w.heap.size<_;omega⟩,⟨by show w.heap.size<=w.heap.size+1;omega,by show w.heap.size+1<_;omega⟩,(fun g C=>by cases C),(fun i b=>absurd b (Nat.not_lt_zero _)),(fun i b=>absurd b (Nat.not_lt_zero _))⟩
theorem ZAF (room:Int) (a:I64 room) (w:World):
 Calls prog 9 #[.int .i64 room] w fun e w'=>∃ p,e=.returned (ptr p)∧Dsk (fun k=>w.heap.size<=k∧k<w'.heap.size) w' p (Zmi room) 0 0∧Below w.heap.size w w':=by
 have b:=ZZ a;clear a;have c:=@run_makeMap prog
 go_enter func9,ntmps9
 go_wp2;go_ret;exact⟨_,rfl,ZAE w room b.o,(((Below.refl _ w).alloc zL _).alloc (by simp) _).alloc (by simp;omega) _⟩
theorem ZjR {L:Lay} (n:Int) (t:I64 n) (w:World) (h:ZaM F w p L d u N):
 Calls prog 103 #[ptr p,.int .i64 n] w fun e w'=>e=.returned (.tuple #[Ztk (if d.power=0 then none else(look (Zbk d) n).map L.ps),.int .i64 (if d.power=0 then 11 else if(look (Zbk d) n).isSome then 0 else 8)])∧w'=w:=by
 have a:=ZZ (Zpq w h);obtain⟨⟨-,-,v,-,-,-⟩,-⟩:=h.cells;have c:=h.rest.now.look t;obtain⟨q,j⟩:∃ q,q=d.power:=⟨_,rfl⟩;obtain⟨o,i⟩:∃ o,o=look (Zbk d) n:=⟨_,rfl⟩;rw[<-i] at c;rw[<-j] at a;rw[<-j,<-i];clear h j i t;by_cases b:q=0
 ·subst b
  go_enter func103,ntmps103
  go_wp2_with fail
  refine a.o.mono ?_;rintro e w' ⟨rfl,rfl⟩;go_wp2;go_ret2;exact⟨rfl,rfl⟩
 ·rw[if_neg b,if_neg b]
  have k:(q != 0)=true:=by simpa using b
  rw[k] at a;clear b k
  cases o with
  | none=>
   have l:(Instr.lookup 65 (.map (some L.now)) (.int .i64 n) true).run prog w=.ok (.tuple #[.pointer none,.bool false]) w:=c;clear c
   go_enter func103,ntmps103
   go_wp2_with fail
   refine a.o.mono ?_;rintro e w' ⟨rfl,rfl⟩;go_wp2;go_ret2;exact⟨rfl,rfl⟩
  | some f=>
   have l:(Instr.lookup 65 (.map (some L.now)) (.int .i64 n) true).run prog w=.ok (.tuple #[.pointer (some ⟨L.ps f,0,none⟩),.bool true]) w:=c;clear c;obtain⟨x,g⟩:∃ x,x=L.ps f:=⟨_,rfl⟩;have m:Ztk (Option.map L.ps (some f))=.pointer (some ⟨x,0,none⟩):=by rw[g];rfl
   rw[<-g] at l;rw[m];clear g m
   go_enter func103,ntmps103
   go_wp2_with fail
   refine a.o.mono ?_;rintro e w' ⟨rfl,rfl⟩;go_wp2;go_ret2;exact⟨rfl,rfl⟩
def Gr (F:Nat->Prop) (w w':World) (k:Nat):Prop:=F k∨(w.heap.size<=k∧k<w'.heap.size)
theorem Gr.lt (b:w.heap.size<=w'.heap.size) (a:∀ k,F k->k<w.heap.size):∀ k,Gr F w w' k->k<w'.heap.size:=by
 rintro k (h | h)
 ·have:=a k h;omega
 ·exact h.2
theorem Zze (n:Int) (x:Nat) (w:World):
 Calls prog 96 #[.int .i64 n,ptr x] w fun e w'=>e=.returned (.func (.func 139) #[] #[ptr (w.heap.size+1),ptr w.heap.size])∧w'=(w.alloc (.cells #[.int .i64 n] 3)).alloc (.cells #[ptr x] 115):=by
 have a:∀ (fn:Fn) (first cap:Array Value) (w:World),(Instr.makeFunc fn first cap).run prog w=.ok (.func fn first cap) w:=fun _ _ _ _=>rfl
 go_enter func96,ntmps96
 go_wp2;go_ret;exact⟨rfl,rfl⟩
theorem ZwC (n a:Int) (x:Nat) (w:World):
 Calls prog 105 #[.int .i64 n,.int .i64 a,ptr x] w fun e w'=>e=.returned (.func (.func 143) #[] #[ptr (w.heap.size+1+1),ptr (w.heap.size+1),ptr w.heap.size])∧w'=((w.alloc (.cells #[.int .i64 n] 3)).alloc (.cells #[.int .i64 a] 3)).alloc (.cells #[ptr x] 115):=by
 have b:∀ (fn:Fn) (first cap:Array Value) (w:World),(Instr.makeFunc fn first cap).run prog w=.ok (.func fn first cap) w:=fun _ _ _ _=>rfl
 go_enter func105,ntmps105
 go_wp2;go_ret;exact⟨rfl,rfl⟩
theorem Zzf (n:Int) (w:World):
 Calls prog 110 #[.int .i64 n] w fun e w'=>e=.returned (.func (.func 157) #[] #[ptr w.heap.size])∧w'=w.alloc (.cells #[.int .i64 n] 3):=by
 have a:∀ (fn:Fn) (first cap:Array Value) (w:World),(Instr.makeFunc fn first cap).run prog w=.ok (.func fn first cap) w:=fun _ _ _ _=>rfl
 go_enter func110,ntmps110
 go_wp2;go_ret;exact⟨rfl,rfl⟩
theorem Zfr (h:Zja n=true):I64 n:=by
 simp only [Zja,Bool.and_eq_true,decide_eq_true_eq] at h;exact⟨by omega,by omega⟩
def ZnU (w:World) (b N:Nat) (ps:Nat->Nat) (g:Int->Option Nat) (c:Ch) (e:Ending) (w':World):Prop:=
 e=.returned (.tuple #[])∧Zct w' b (N+1) (fun n=>(chF g c n).map ps)∧w.grownBy w' (some b)
theorem ZfW (w:World) {c:Array Oper} {rest:List Oper} {o:Oper} {a:Act} {Q:Exit->Act->World->Prop} (l:o.guard=none) (m x:Operand)
 (t:o.op=.call { callee:=.builtin .delete,args:=#[m,x],argTypes:=#[65,3] })
 (b N:Nat) (f:Int->Option Nat) (p:Int) (k:a.eval m=.map (some b)) (i:a.eval x=.int .i64 p) (n:Zct w b N f) (q:I64 p)
 (h:∀ w',Zct w' b N (fun m=>if m=p then none else f m)->w.grownBy w' (some b)->wpList prog c Q rest (a.put o.dst (.tuple #[])) w'):wpList prog c Q (o::rest) a w:=
 wpList_plain l fun _ d=>by
  obtain⟨w',g,j,e⟩:=n.del q o.type;unfold Oper.wp execOp;simp only [t,resolve,invoke,builtin,Sem.run_bind,Sem.run_pure,Result.andThen_ok,map_toArray,map_cons,map_nil,k,i,g];exact d _ _ (h w' j e)
theorem Zmn (w:World) {c:Array Oper} {rest:List Oper} {o:Oper} {a:Act} {Q:Exit->Act->World->Prop} (k:o.guard=none) (m:Operand)
 (n:o.op=.call { callee:=.builtin .clear,args:=#[m],argTypes:=#[65] })
 (b N:Nat) (f:Int->Option Nat) (j:a.eval m=.map (some b)) (l:Zct w b N f)
 (h:∀ w',Zct w' b 0 (fun _=>none)->w.grownBy w' (some b)->wpList prog c Q rest (a.put o.dst (.tuple #[])) w'):wpList prog c Q (o::rest) a w:=
 wpList_plain k fun _ d=>by
  obtain⟨w',g,i,e⟩:=l.clear o.type;unfold Oper.wp execOp;simp only [n,resolve,invoke,builtin,Sem.run_bind,Sem.run_pure,Result.andThen_ok,map_toArray,map_cons,map_nil,j,g];exact d _ _ (h w' i e)
theorem ZkG {a b c:World} {r:Nat} (h:a.grownBy b (some r)) (k:b.grownBy c (some r)):a.grownBy c (some r):=h.andThen k (fun _ d=>.inr d)
theorem Zpu (l:Zja n=true) {k c b N:Nat} {ps:Nat->Nat} {g:Int->Option Nat} (w:World) (t:Bk 3 w k #[.int .i64 n]) (h:Bk 115 w c #[ptr (ps f)]) (i:Zct w b N (fun n=>(g n).map ps)) (m:N<=10000000):
 Calls prog 139 #[.map (some b),ptr c,ptr k] w fun e w'=>ZnU w b N ps g (.give n f) e w':=by
 obtain⟨z,v,a,j⟩:=i.put (p:=n) (ps f) (Zfr l) m
 have A:Hid (Zct z b (N+1) (fun n'=>(chF g (.give n f) n').map ps)):=ZZ (a.fun fun q _=>by
  show(if q=n then some (ps f) else(g q).map ps)=(if q=n then some f else g q).map ps
  split <;> rfl)
 have y:=ZZ j;obtain⟨B,-⟩:=t.cell 0 rfl;obtain⟨u,-⟩:=h.cell 0 rfl;obtain⟨x,d⟩:∃ x,x=ps f:=⟨_,rfl⟩;rw[<-d] at v u;clear a j i t h d l m
 go_enter func139,ntmps139
 go_wp2;go_end0;exact⟨rfl,A.o,y.o⟩
theorem Zpv (C:Zja n=true) (y:Zja a=true) {l v B b N:Nat} {ps:Nat->Nat} {g:Int->Option Nat} (w:World) (d:Bk 3 w l #[.int .i64 n]) (A:Bk 3 w v #[.int .i64 a]) (u:Bk 115 w B #[ptr (ps f)]) (j:Zct w b N (fun n=>(g n).map ps)) (D:N<=10000000):
 Calls prog 143 #[.map (some b),ptr B,ptr v,ptr l] w fun e w'=>ZnU w b N ps g (.move n a f) e w':=by
 obtain⟨H,F,t,k⟩:=j.put (p:=a) (ps f) (Zfr y) D;obtain⟨K,-⟩:=A.cell 0 rfl;obtain⟨I,-⟩:=u.cell 0 rfl;obtain⟨L,-⟩:=(d.keep (k.block l d.lt (by intro e;exact(d.neMap j) (Option.some.inj e)))).cell 0 rfl
 have J:=ZZ t;have E:=ZZ C
 have G:Hid (∀ c,Zct c b (N+1) (fun m=>if m=n then none else if m=a then some (ps f) else(g m).map ps)->H.grownBy c (some b)->ZnU w b N ps g (.move n a f) (.returned (.tuple #[])) c):=ZZ (fun c i h=>by
  refine⟨rfl,i.fun fun q _=>?_,ZkG k h⟩
  show(if q=n then none else if q=a then some (ps f) else(g q).map ps)=(if q=n then none else if q=a then some f else g q).map ps
  split
  ·rfl
  ·split <;> rfl)
 obtain⟨x,z⟩:∃ x,x=ps f:=⟨_,rfl⟩;rw[<-z] at F I;clear t k j d A u z C y D
 go_enter func143,ntmps143
 go_wp2_with(first | (at_delete;refine ZfW _ rfl _ _ rfl b _ _ n rfl rfl J.o (Zfr E.o) ?_;intro c i h))
 go_end0;exact G.o _ i h
theorem Zpw (d:Zja n=true) {c b N:Nat} {ps:Nat->Nat} {g:Int->Option Nat} (w:World) (f:Bk 3 w c #[.int .i64 n]) (a:Zct w b N (fun n=>(g n).map ps)):
 Calls prog 157 #[.map (some b),ptr c] w fun e w'=>ZnU w b N ps g (.take n) e w':=by
 obtain⟨l,-⟩:=f.cell 0 rfl;have k:=ZZ a;have i:=ZZ d;clear a d f
 go_enter func157,ntmps157
 go_wp2_with(first | (at_delete;refine ZfW _ rfl _ _ rfl b _ _ n rfl rfl k.o (Zfr i.o) ?_;intro m j h))
 go_end0;refine⟨rfl,(j.mono (Nat.le_succ _)).fun fun q _=>?_,h⟩
 show(if q=n then none else(g q).map ps)=(if q=n then none else g q).map ps
 split <;> rfl
theorem ZAG:(prog.info? 113).map (fun i=>(i.zero,i.size,i.bytes))=some (some .nilFunc,1,8):=by kernel_rfl
theorem ZnV (w:World) (ty:TypeId) (v:Value) (cs:List Value) (h:w.ownsRow 0 113 1 v cs.length cs) (fn:Fn) (b a:Array Value) (p:cs.length<=10000000):
 ∃ v' w',(Builtin.append_ #[67,67] ty #[v,.slice (some ⟨w.heap.size,0,none⟩) 1 1]).run prog (w.alloc (.cells #[.func fn b a] 113))=.ok v' w'∧
  w'.ownsRow 0 113 1 v' (cs++[Value.func fn b a]).length (cs++[Value.func fn b a])∧(w.alloc (.cells #[.func fn b a] 113)).grownBy w' v.ownBlock∧(v'.ownBlock=v.ownBlock∨v'.ownBlock=some (w.heap.size+1)):=by
 obtain⟨l,k,n,e,g⟩:=info_parts ZAG
 obtain⟨v',w',i,m,f,_,hl⟩:=run_append_own_at (P:=prog) (w.alloc (.cells #[.func fn b a] 113)) 0 67 ty 113 l .nilFunc 1 8 underlying67 k n e g rfl (by decide) v cs.length cs (World.ownsRow.alloc h _)
  ⟨w.heap.size,0,none⟩ 1 1 [.func fn b a] rfl (fun j u c=>by
   match j,c with
   | 0,c=>simp at c;subst c;simp[Addr.add]) (fun u d=>by simp at d;subst d;rfl) (by unfold maxLen;omega) (by omega) (Nat.zero_le _)
 refine⟨v',w',i,?_,f,?_⟩
 ·rw[length_append]
  exact m
 ·rcases hl with hl | hl
  ·exact .inl hl
  ·exact .inr (by rw[hl];simp)
theorem ZdC (w:World) {d:Array Oper} {rest:List Oper} {o:Oper} {a:Act} {Q:Exit->Act->World->Prop} (p:o.guard=none) (s x:Operand)
 (q:o.op=.call { callee:=.builtin .append,args:=#[s,x],argTypes:=#[67,67] })
 (v:Value) (cs:List Value) (i:a.eval s=v) (h:w.ownsRow 0 113 1 v cs.length cs) (fn:Fn) (c b:Array Value) (m:a.eval x=.slice (some ⟨w.heap.size,0,none⟩) 1 1) (e:cs.length<=10000000)
 (f:∀ v' w',w'.ownsRow 0 113 1 v' (cs++[Value.func fn c b]).length (cs++[Value.func fn c b])->(w.alloc (.cells #[.func fn c b] 113)).grownBy w' v.ownBlock->(v'.ownBlock=v.ownBlock∨v'.ownBlock=some (w.heap.size+1))->
  wpList prog d Q rest (a.put o.dst v') w'):wpList prog d Q (o::rest) a (w.alloc (.cells #[.func fn c b] 113)):=
 wpList_plain p fun _ l=>by
  obtain⟨v',w',k,n,j,g⟩:=ZnV w o.type v cs h fn c b e;unfold Oper.wp execOp;simp only [q,resolve,invoke,builtin,Sem.run_bind,Sem.run_pure,Result.andThen_ok,map_toArray,map_cons,map_nil,i,m,k];exact l _ _ (f v' w' n j g)
theorem Zpx (h:ZvY m c):∀ n a f,c=.move n a f->n≠a:=by
 rintro n a f rfl;exact h.2.2.1
theorem ZwD (d:Dk) (c:Ch):Zbk { d with waits:=d.waits++[c] }=chD (Zbk d) c:=by
 show(d.waits++[c]).foldl chD d.kept=_;rw[foldl_append];rfl
theorem ZaM.addWait {q f:World} {L:Lay} {fn:Fn} {y x:Array Value} (h:ZaM F w p L d u N) (hc:ChV F w L.ps c (.func fn y x)) (W:OkD d) (X:ZvY d.files.length c)
 (I:w.grownBy q (some L.now)) (A:Zct q L.now (N+1) (fun n=>(chF (look (Zbk d)) c n).map L.ps))
 (H:f.ownsRow 0 113 1 v' (L.cs++[Value.func fn y x]).length (L.cs++[Value.func fn y x])) (B:(q.alloc (.cells #[.func fn y x] 113)).grownBy f L.wv.ownBlock) (hv:v'.ownBlock=L.wv.ownBlock∨v'.ownBlock=some (q.heap.size+1)):
 ZaM (Gr F w f) (f.setCell ⟨p,4,none⟩ v') p { L with wv:=v',cs:=L.cs++[Value.func fn y x] } { d with waits:=d.waits++[c] } u (N+1)∧Zap F w (f.setCell ⟨p,4,none⟩ v'):=by
 have a:=h.rest;have ad:=I.size;have ac:q.heap.size+1<=f.heap.size:=by have:=B.size;simpa using this
 have ab:(f.setCell ⟨p,4,none⟩ v').heap.size=f.heap.size:=by simp
 have Q:∀ k,F k->k≠L.now->L.wv.ownBlock≠some k->f.heap[k]?=w.heap[k]?:=fun k l J K=>by
  have C:=h.lt k l;rw[B.block k (by simp;omega) (fun e=>K e.symm),Below.heap_alloc _ _ _ (by omega),I.block k C (fun e=>J (Option.some.inj e))]
 have D:∀ k,F k->k≠L.now->L.wv.ownBlock≠some k->k≠p->(f.setCell ⟨p,4,none⟩ v').heap[k]?=w.heap[k]?:=fun k l J K hp=>by
  rw[Below.heap_setCell _ _ _ _ hp,Q k l J K]
 have S:∀ {t:TypeId} {k:Nat} {cs:Array Value},Bk t w k cs->t≠113->L.wv.ownBlock≠some k:=fun hb U j=>by
  obtain⟨E,z⟩:=Zeh a.row j;exact(hb.ne z U) rfl
 have M:∀ {k n:Nat} {g:Int->Option Nat},Zct w k n g->L.wv.ownBlock≠some k:=fun A j=>by
  obtain⟨E,z⟩:=Zeh a.row j;exact(z.neMap A) rfl
 have G:∀ {t:TypeId} {k:Nat} {cs:Array Value},Bk t w k cs->F k->t≠113->t≠69->(f.setCell ⟨p,4,none⟩ v').heap[k]?=w.heap[k]?:=fun hb l h1 V=>
  D _ l (hb.neMap a.now) (S hb h1) (hb.ne h.head V)
 have P:L.now≠p:=(h.head.neMap a.now).symm;have O:Bk 69 f p (ZiC L d u):=h.head.keep (Q p h.fh P.symm (S h.head (by decide)))
 have aa:∀ g,v'.ownBlock=some g->Gr F w f g:=fun g j=>by
  rcases hv with hv | hv
  ·exact .inl (a.fw g (by rw[<-hv];exact j))
  ·rw[hv] at j
   obtain rfl:=Option.some.inj j;exact .inr ⟨by omega,by have:=(World.ownsRow.lt H _ hv).2;omega⟩
 refine⟨⟨O.set 4 v',?_,.inl h.fh,fun k D=>?_⟩,?_⟩
 ·refine⟨?_,?_,?_,?_,?_,?_,a.psn,a.vsn,a.nk,.inl a.fn,.inl a.fk,aa,fun i b=>.inl (a.fp i b),fun i b g j=>.inl (a.fv i b g j)⟩
  ·have e:∀ n,(look (Zbk { d with waits:=d.waits++[c] }) n).map L.ps=(chF (look (Zbk d)) c n).map L.ps:=fun n=>by rw[ZwD,Zgn W.dir.rise c (Zpx X)]
   refine(A.keep (w':=f.setCell ⟨p,4,none⟩ v') ?_).fun fun n _=>(e n).symm
   rw[Below.heap_setCell _ _ _ _ P,B.block L.now (by simp;have:=A.lt;omega) (fun e=>M a.now e.symm),Below.heap_alloc _ _ _ A.lt]
  ·exact(a.kept.mono (Nat.le_succ N)).keep (D _ a.fk (Ne.symm a.nk) (M a.kept) (h.head.neMap a.kept).symm)
  ·exact Zae H fun g j=>Below.heap_setCell _ _ _ _ (by
    obtain⟨E,z⟩:=Zeh H j
    exact z.ne O (by decide))
  ·rw[length_append,length_append,a.many]
   rfl
  ·intro i c' v b m
   have R:∀ c v,ChV F w L.ps c v->ChV (Gr F w f) (f.setCell ⟨p,4,none⟩ v') L.ps c v:=fun c v Y=>Y.keep (fun _ l=>.inl l) (fun _ _=>rfl) fun k E l hb=>by
    rcases hb with hb | hb <;> exact G hb l (by decide) (by decide)
   rw[List.getElem?_append] at b m;rw[a.many] at m;by_cases C:i<d.waits.length
   ·rw[if_pos C] at b m
    exact R _ _ (a.wait i c' v b m)
   ·rw[if_neg C] at b m
    have T:i-d.waits.length=0:=by
     have:=(List.getElem?_eq_some_iff.1 b).1;simp at this;omega
    rw[T] at b m;simp only [List.getElem?_cons_zero,Option.some.injEq] at b m;rw[<-b,<-m];exact R _ _ hc
  ·intro i b
   refine(a.file i b).keep (G (a.file i b).box (a.fp i b) (by decide) (by decide)) fun g j=>?_
   obtain⟨E,hb⟩:=Zeh (a.file i b).own j;exact G hb (a.fv i b g j) (by decide) (by decide)
 ·rw[ab]
  exact Gr.lt (by omega) h.lt k D
 ·have o1:Zap F w q:=Zap.ofGrown I fun k e _=>by obtain rfl:=Option.some.inj e;exact a.fn
  have Z:Zap F (q.alloc (.cells #[.func fn y x] 113)) f:=Zap.ofGrown B fun k e _=>a.fw k e
  exact((o1.alloc _).trans Z (fun _ _ l=>l)).setCell 4 (fun _=>h.fh) v'
theorem ZhH {base n s:Nat} {xs:List Value} (h:w.ownsRow base t s v n xs):∃ ao m b,v=.slice ao m b:=by
 rcases h.2 with ⟨a,_⟩ | ⟨g,cap,cur,a,_⟩
 ·exact⟨_,_,_,a⟩
 ·exact⟨_,_,_,a⟩
theorem ZwE (F:Nat->Prop) (w b:World) (a:Addr) (v:Value):Gr F w (b.setCell a v)=Gr F w b:=by
 funext k
 simp[Gr]
def ZAH (F:Nat->Prop) (w:World) (p:Nat) (L:Lay) (d:Dk) (u:Int) (N:Nat) (c:Ch) (e:Ending) (w':World):Prop:=
 e=.returned (.tuple #[])∧∃ L',ZaM (Gr F w w') w' p L' { d with waits:=d.waits++[c] } u (N+1)∧L'.ps=L.ps∧L'.vs=L.vs∧Zap F w w'
theorem ZkH {L:Lay} {cv:Value} (w:World) (h:ZaM F w p L d u N) (hc:ChV F w L.ps c cv) (ac:OkD d) (ad:ZvY d.files.length c) (hN:N<=1000000) (hW:d.waits.length<=1000000):
 Calls prog 95 #[ptr p,cv] w fun e w'=>ZAH F w p L d u N c e w':=by
 have H:=ZZ h;have Z:=ZZ ac;have G:=ZZ ad;obtain⟨⟨-,-,c2,-,-,-⟩,-⟩:=h.cells;have q:Hid (L.now≠p):=ZZ (h.head.neMap h.rest.now).symm
 have ab:Hid (∀ g,L.wv.ownBlock=some g->g≠L.now):=ZZ (fun g l=>by
  obtain⟨aa,I⟩:=Zeh h.rest.row l
  exact I.neMap h.rest.now)
 clear h ac ad
 cases c with
 | give n f=>
  obtain⟨B,M,rfl,E,P,Q,f2⟩:=hc;have O:Hid (ChV F w L.ps (.give n f) (.func (.func 139) #[] #[ptr M,ptr B])):=ZZ ⟨B,M,rfl,E,P,Q,f2⟩;have U:=ZZ (Zpu (f:=f) G.o.1 w E P H.out.rest.now (by omega))
  go_enter func95,ntmps95
  go_wp2_with fail
  refine U.o.mono ?_;rintro e k ⟨rfl,x,a⟩;have R:=ZZ x;have b:=ZZ a;have t:=H.out.head.keep (a.block p H.out.head.lt (fun e=>q.o (Option.some.inj e).symm))
  obtain⟨Y,W⟩:=t.cell 4 rfl;have z:Hid (k.ownsRow 0 113 1 L.wv L.cs.length L.cs):=ZZ (Zae H.out.rest.row fun g l=>a.block g (World.ownsRow.lt H.out.rest.row g l).2 (fun e=>ab.o g l (Option.some.inj e)))
  clear x a t;have v:Hid (p<k.heap.size):=ZZ (Nat.lt_of_lt_of_le H.out.head.lt b.o.size)
  go_wp2_with(at_builtin;refine(fun(h:True->_)=>h trivial) ?_)
  intro _;refine ZdC k rfl _ _ rfl L.wv L.cs rfl z.o _ _ _ rfl (by have:=H.out.rest.many;omega) ?_
  intro v' C i j y;have X:=ZZ i;have J:=ZZ j;have K:=ZZ y
  have D:Bk 69 C p (ZiC L d u):=(H.out.head.keep (b.o.block p H.out.head.lt (fun e=>q.o (Option.some.inj e).symm))).keep ((j.block p (by simp;have:=v.o;omega) (fun e=>by
   obtain⟨aa,I⟩:=Zeh z.o e.symm
   exact(I.ne (H.out.head.keep (b.o.block p H.out.head.lt (fun e=>q.o (Option.some.inj e).symm))) (by decide)) rfl)).trans (Below.heap_alloc _ _ _ v.o))
  obtain⟨d4,g4⟩:=D.cell 4 rfl;obtain⟨ao,T,S,rfl⟩:=ZhH i;clear i j y D Y W;go_wp2;go_end0;obtain⟨A,V⟩:=H.out.addWait O.o Z.o G.o b.o R.o X.o J.o K.o;rw[<-ZwE F w C ⟨p,4,none⟩ (.slice ao T S)] at A;exact⟨rfl,_,A,rfl,rfl,V⟩
 | move n m f=>
  obtain⟨B,M,b3,rfl,E,P,h3,Q,f2,f3⟩:=hc;have O:Hid (ChV F w L.ps (.move n m f) (.func (.func 143) #[] #[ptr b3,ptr M,ptr B])):=ZZ ⟨B,M,b3,rfl,E,P,h3,Q,f2,f3⟩;have U:=ZZ (Zpv (f:=f) G.o.1 G.o.2.1 w E P h3 H.out.rest.now (by omega))
  go_enter func95,ntmps95
  go_wp2_with fail
  refine U.o.mono ?_;rintro e k ⟨rfl,x,a⟩;have R:=ZZ x;have b:=ZZ a;have t:=H.out.head.keep (a.block p H.out.head.lt (fun e=>q.o (Option.some.inj e).symm))
  obtain⟨Y,W⟩:=t.cell 4 rfl;have z:Hid (k.ownsRow 0 113 1 L.wv L.cs.length L.cs):=ZZ (Zae H.out.rest.row fun g l=>a.block g (World.ownsRow.lt H.out.rest.row g l).2 (fun e=>ab.o g l (Option.some.inj e)))
  clear x a t;have v:Hid (p<k.heap.size):=ZZ (Nat.lt_of_lt_of_le H.out.head.lt b.o.size)
  go_wp2_with(at_builtin;refine(fun(h:True->_)=>h trivial) ?_)
  intro _;refine ZdC k rfl _ _ rfl L.wv L.cs rfl z.o _ _ _ rfl (by have:=H.out.rest.many;omega) ?_
  intro v' C i j y;have X:=ZZ i;have J:=ZZ j;have K:=ZZ y
  have D:Bk 69 C p (ZiC L d u):=(H.out.head.keep (b.o.block p H.out.head.lt (fun e=>q.o (Option.some.inj e).symm))).keep ((j.block p (by simp;have:=v.o;omega) (fun e=>by
   obtain⟨aa,I⟩:=Zeh z.o e.symm
   exact(I.ne (H.out.head.keep (b.o.block p H.out.head.lt (fun e=>q.o (Option.some.inj e).symm))) (by decide)) rfl)).trans (Below.heap_alloc _ _ _ v.o))
  obtain⟨d4,g4⟩:=D.cell 4 rfl;obtain⟨ao,T,S,rfl⟩:=ZhH i;clear i j y D Y W;go_wp2;go_end0;obtain⟨A,V⟩:=H.out.addWait O.o Z.o G.o b.o R.o X.o J.o K.o;rw[<-ZwE F w C ⟨p,4,none⟩ (.slice ao T S)] at A;exact⟨rfl,_,A,rfl,rfl,V⟩
 | take n=>
  obtain⟨B,rfl,E,Q⟩:=hc;have O:Hid (ChV F w L.ps (.take n) (.func (.func 157) #[] #[ptr B])):=ZZ ⟨B,rfl,E,Q⟩;have U:=ZZ (Zpw G.o w E H.out.rest.now)
  go_enter func95,ntmps95
  go_wp2_with fail
  refine U.o.mono ?_;rintro e k ⟨rfl,x,a⟩;have R:=ZZ x;have b:=ZZ a;have t:=H.out.head.keep (a.block p H.out.head.lt (fun e=>q.o (Option.some.inj e).symm))
  obtain⟨Y,W⟩:=t.cell 4 rfl;have z:Hid (k.ownsRow 0 113 1 L.wv L.cs.length L.cs):=ZZ (Zae H.out.rest.row fun g l=>a.block g (World.ownsRow.lt H.out.rest.row g l).2 (fun e=>ab.o g l (Option.some.inj e)))
  clear x a t;have v:Hid (p<k.heap.size):=ZZ (Nat.lt_of_lt_of_le H.out.head.lt b.o.size)
  go_wp2_with(at_builtin;refine(fun(h:True->_)=>h trivial) ?_)
  intro _;refine ZdC k rfl _ _ rfl L.wv L.cs rfl z.o _ _ _ rfl (by have:=H.out.rest.many;omega) ?_
  intro v' C i j y;have X:=ZZ i;have J:=ZZ j;have K:=ZZ y
  have D:Bk 69 C p (ZiC L d u):=(H.out.head.keep (b.o.block p H.out.head.lt (fun e=>q.o (Option.some.inj e).symm))).keep ((j.block p (by simp;have:=v.o;omega) (fun e=>by
   obtain⟨aa,I⟩:=Zeh z.o e.symm
   exact(I.ne (H.out.head.keep (b.o.block p H.out.head.lt (fun e=>q.o (Option.some.inj e).symm))) (by decide)) rfl)).trans (Below.heap_alloc _ _ _ v.o))
  obtain⟨d4,g4⟩:=D.cell 4 rfl;obtain⟨ao,T,S,rfl⟩:=ZhH i;clear i j y D Y W;go_wp2;go_end0;obtain⟨A,V⟩:=H.out.addWait O.o Z.o G.o b.o R.o X.o J.o K.o;rw[<-ZwE F w C ⟨p,4,none⟩ (.slice ao T S)] at A;exact⟨rfl,_,A,rfl,rfl,V⟩
def Zul (fs:List Fl):Option Nat->Nat
 | some f=>(fl fs f).b.length
 | none=>0
theorem ZcU (fs:List Fl) (p:Int × Nat) (l:Dir):ZdE fs (p::l)=(fl fs p.2).b.length+ZdE fs l:=by simp[ZdE]
theorem ZjS (fs:List Fl):ZdE fs []=0:=rfl
theorem ZgZ (fs:List Fl) (a b:Dir):ZdE fs (a++b)=ZdE fs a+ZdE fs b:=by simp[ZdE]
theorem ZkI (fs:List Fl) (n:Int) (f:Nat):∀ (l:Dir) (done:Bool),ZdE fs (Zmh n f done l)=ZdE fs (l.filter fun p=>decide (p.1≠n))+(if done then 0 else(fl fs f).b.length)
 | [],done=>by cases done <;> simp[Zmh,ZdE]
 | q::l,done=>by
  have d:=ZkI fs n f l (done || decide (q.1>n));rw[Zmh,ZgZ,ZgZ,d,List.filter_cons];by_cases c:q.1>n
  ·have a:q.1≠n:=by omega
   cases done <;> simp[c,a,ZcU,ZjS] <;> omega
  ·by_cases a:q.1=n
   ·cases done <;> simp[a,ZjS]
   ·cases done <;> simp[c,a,ZcU,ZjS] <;> omega
theorem ZkJ (fs:List Fl) (n:Int):∀ l:Dir,ZbM l->ZdE fs (l.filter fun p=>decide (p.1≠n))+Zul fs (look l n)=ZdE fs l
 | [],_=>rfl
 | q::l,h=>by
  unfold ZbM at h;rw[List.pairwise_cons] at h;rw[List.filter_cons,look];by_cases e:q.1=n
  ·have c:∀ p ∈ l,p.1≠n:=fun p a=>by have:=h.1 p a;omega
   rw[if_pos e,if_neg (by simp[e]),ZcU,List.filter_eq_self.2 (fun p a=>by simpa using c p a)]
   show _+(fl fs q.2).b.length=_;omega
  ·rw[if_neg e,if_pos (by simp[e]),ZcU,ZcU]
   have:=ZkJ fs n l h.2;omega
theorem ZhI (fs:List Fl) {l:Dir} (h:ZbM l) (n:Int) (o:Option Nat):ZdE fs (ZiX l n o)+Zul fs (look l n)=ZdE fs l+Zul fs o:=by
 have a:=ZkJ fs n l h
 cases o with
 | none=>rw[ZiX,ZkI];show _=_+0;simp only [if_true];omega
 | some f=>rw[ZiX,ZkI];simp only [Bool.false_eq_true,if_false];show _=_+(fl fs f).b.length;omega
theorem Zpy (h:f<fs.length) (x:Fl):fl (fs++[x]) f=fl fs f:=by
 unfold fl;simp[List.getD,List.getElem?_append,h]
theorem Zrq (fs:List Fl) (x:Fl):fl (fs++[x]) fs.length=x:=by
 unfold fl;simp[List.getD]
theorem ZnW {a:List Fl} {l:Dir} (h:∀ p ∈ l,(fl a p.2).b.length=(fl fs p.2).b.length):ZdE a l=ZdE fs l:=by
 unfold ZdE;rw[List.map_congr_left h]
theorem ZwF {l:Dir} (h:∀ p ∈ l,p.2<fs.length) (x:Fl):ZdE (fs++[x]) l=ZdE fs l:=
 ZnW fun p a=>by rw[Zpy (h p a)]
theorem ZnX (a:f<fs.length) (x:Fl):∀ {l:Dir},ZeQ l->(∃ n,(n,f) ∈ l)->ZdE (fs.set f x) l+(fl fs f).b.length=ZdE fs l+x.b.length
 | [],_,⟨_,h⟩=>by cases h
 | q::l,ha,⟨n,h⟩=>by
  unfold ZeQ at ha;rw[List.pairwise_cons] at ha;rw[ZcU,ZcU];by_cases e:q.2=f
  ·have g:ZdE (fs.set f x) l=ZdE fs l:=ZnW fun p c=>by rw[ZcF (by rw[<-e];exact ha.1 p c)]
   rw[e,g,Zfg a];omega
  ·rw[ZcF (fun d=>e d.symm)]
   rcases List.mem_cons.1 h with h | h
   ·exact absurd (by rw[<-h]) e
   ·have:=ZnX a x (l:=l) ha.2 ⟨n,h⟩
    omega
theorem Zum (h:OkD d) {n:Int} {f:Nat} (e:look (Zbk d) n=some f) (b:List UInt8):ZcL (appendTo d f b)=ZcL d+b.length:=by
 have a:=(Zcz h.dir.rise n f).1 e;have:=ZnX (h.dir.may _ a).2 ⟨(fl d.files f).b++b,(fl d.files f).k⟩ h.dir.apart ⟨n,a⟩;simp only [length_append] at this;show ZdE (ZeR d.files f b) (Zbk d)=ZdE d.files (Zbk d)+b.length;unfold ZeR;omega
theorem Zun (h:OkD d) {n:Int} {f:Nat} (e:look (Zbk d) n=some f) (q:Int):ZcL { d with files:=Zhr d.files f,power:=q }=ZcL d:=by
 have a:=(Zcz h.dir.rise n f).1 e;have:=ZnX (h.dir.may _ a).2 ⟨(fl d.files f).b,(fl d.files f).b.length⟩ h.dir.apart ⟨n,a⟩;show ZdE (Zhr d.files f) (Zbk d)=ZdE d.files (Zbk d);unfold Zhr
 dsimp only at this
 omega
theorem Zrr (h:OkD d) {n:Int} (e:look (Zbk d) n=none):ZcL (Zcn d n)=ZcL d:=by
 have a:=ZhI (d.files++[⟨[],0⟩]) h.dir.rise n (some d.files.length);have f:ZdE (d.files++[⟨[],0⟩]) (Zbk d)=ZdE d.files (Zbk d):=ZwF (fun p g=>(h.dir.may p g).2) _
 have c:Zul (d.files++[⟨[],0⟩]) (some d.files.length)=0:=by show(fl _ _).b.length=0;rw[Zrq];rfl
 rw[e,f,c] at a;unfold ZcL;rw[ZmM,chD];show ZdE (d.files++[⟨[],0⟩]) (ZiX (Zbk d) n (some d.files.length))=_;simpa[Zul] using a
theorem Zuo (h:OkD d) {n m:Int} {f:Nat} (g:n≠m) (e:look (Zbk d) n=some f) (q:Int):ZcL { d with waits:=d.waits++[.move n m f],power:=q }+Zul d.files (look (Zbk d) m)=ZcL d:=by
 have b:=ZhI d.files h.dir.rise n none;have a:=ZhI d.files (ZcC h.dir.rise n none) m (some f);rw[ZfN h.dir.rise,if_neg (fun e=>g e.symm)] at a
 rw[e] at b
 have c:ZcL { d with waits:=d.waits++[.move n m f],power:=q }=ZdE d.files (ZiX (ZiX (Zbk d) n none) m (some f)):=by
  show ZdE d.files ((d.waits++[Ch.move n m f]).foldl chD d.kept)=_;rw[foldl_append];rfl
 rw[c];show _=ZdE d.files (Zbk d);simp only [Zul] at b a ⊢;omega
theorem Zup (h:OkD d) {n:Int} {f:Nat} (e:look (Zbk d) n=some f) (q:Int):ZcL { d with waits:=d.waits++[.take n],power:=q }+(fl d.files f).b.length=ZcL d:=by
 have a:=ZhI d.files h.dir.rise n none;rw[e] at a
 have c:ZcL { d with waits:=d.waits++[.take n],power:=q }=ZdE d.files (ZiX (Zbk d) n none):=by
  show ZdE d.files ((d.waits++[Ch.take n]).foldl chD d.kept)=_;rw[foldl_append];rfl
 rw[c];show _=ZdE d.files (Zbk d);simp only [Zul] at a;omega
theorem Zrs (h:∀ x ∈ fs,x.b.length<=T):∀ l:Dir,(∀ p ∈ l,p.2<fs.length)->ZdE fs l<=l.length*T
 | [],_=>Nat.zero_le _
 | p::l,hl=>by
  have d:=Zrs h l fun q a=>hl q (List.mem_cons_of_mem _ a)
  have c:=h _ (ZeS (hl p (List.mem_cons_self ..)));rw[ZcU,List.length_cons,Nat.add_mul];omega
theorem Zjj (l:List Ch):∀ k:Dir,(l.foldl chD k).length<=k.length+l.length:=by
 induction l with
 | nil=>intro k;exact Nat.le_refl _
 | cons c l a=>
  intro k;have d:=a (chD k c);have b:=ZtQ k c;rw[List.foldl_cons,List.length_cons];omega
theorem Zzg (h:OkD d) {N T:Nat} (i:d.kept.length+d.waits.length<=N) (a:∀ x ∈ d.files,x.b.length<=T):ZcL d<=N*T:=by
 have e:=Zrs a (Zbk d) fun p c=>(h.dir.may p c).2
 have f:=Zjj d.waits d.kept;have g:(Zbk d).length*T<=N*T:=Nat.mul_le_mul_right T (by unfold Zbk;omega)
 unfold ZcL;omega
theorem Zey (d:Dk) (k:Nat):(ZeF d k).length<=d.kept.length+d.waits.length:=by
 have h:=Zjj (d.waits.take k) d.kept;have a:(d.waits.take k).length<=d.waits.length:=by rw[List.length_take];omega
 unfold ZeF;omega
theorem ZaM.widen {L:Lay} (h:ZaM F w p L d u N) (a:∀ k,F k->F' k) (f:∀ k,F' k->k<w.heap.size):ZaM F' w p L d u N:=
 ⟨h.head,⟨h.rest.now,h.rest.kept,h.rest.row,h.rest.many,fun i c v l j=>(h.rest.wait i c v l j).keep a (fun _ _=>rfl) (fun _ _ _ _=>rfl),h.rest.file,h.rest.psn,h.rest.vsn,h.rest.nk,a _ h.rest.fn,a _ h.rest.fk,fun g b=>a g (h.rest.fw g b),fun i e=>a _ (h.rest.fp i e),fun i e g b=>a g (h.rest.fv i e g b)⟩,a _ h.fh,f⟩
theorem ZaM.more {L:Lay} (h:ZaM F w p L d u N) (b:Below w.heap.size w w'):ZaM (Gr F w w') w' p L d u N:=
 (h.keep (fun k a=>b.block k (h.lt k a)) b.size).widen (fun _ a=>.inl a) (Gr.lt b.size h.lt)
theorem ZAI (h:ZvY m c) {f:Nat} (e:chOf c=some f):f<m:=by
 cases c with
 | give n g=>obtain rfl:=Option.some.inj e;exact h.2
 | move n g x=>obtain rfl:=Option.some.inj e;exact h.2.2.2
 | take n=>cases e
theorem ZaM.addFile {L:Lay} (h:ZaM F w p L d u N) (z:OkD d):
 ZaM (Gr F w (w.alloc (.cells #[.slice none 0 0,.int .i64 0] 117))) (w.alloc (.cells #[.slice none 0 0,.int .i64 0] 117)) p { L with ps:=fun i=>if i=d.files.length then w.heap.size else L.ps i,vs:=fun i=>if i=d.files.length then .slice none 0 0 else L.vs i } { d with files:=d.files++[⟨[],0⟩] } u N:=by
 have D:Below w.heap.size w (w.alloc (.cells #[.slice none 0 0,.int .i64 0] 117)):=(Below.refl _ w).alloc zL _;have C:Bk 117 (w.alloc (.cells #[.slice none 0 0,.int .i64 0] 117)) w.heap.size #[.slice none 0 0,.int .i64 0]:=heap_alloc_new w _;have J:(w.alloc (.cells #[.slice none 0 0,.int .i64 0] 117)).heap.size=w.heap.size+1:=by simp
 obtain⟨W,H⟩:∃ W,W=w.alloc (.cells #[.slice none 0 0,.int .i64 0] 117):=⟨_,rfl⟩;rw[<-H] at D C J ⊢;have q:=h.more D;have a:=q.rest;have K:(d.files++[(⟨[],0⟩:Fl)]).length=d.files.length+1:=by simp
 refine⟨q.head,⟨?_,?_,a.row,a.many,?_,?_,?_,?_,a.nk,a.fn,a.fk,a.fw,?_,?_⟩,q.fh,q.lt⟩
 ·refine a.now.fun fun n _=>?_
  show(look (Zbk d) n).map L.ps=(look (Zbk d) n).map _
  cases e:look (Zbk d) n with
  | none=>rfl
  | some f=>
   have:=(z.dir.mayOf e).2;show some (L.ps f)=some (if f=d.files.length then w.heap.size else L.ps f)
   rw[if_neg (by omega)]
 ·refine a.kept.fun fun n _=>?_
  show(look d.kept n).map L.ps=(look d.kept n).map _
  cases e:look d.kept n with
  | none=>rfl
  | some f=>
   have:=(z.kept.mayOf e).2;show some (L.ps f)=some (if f=d.files.length then w.heap.size else L.ps f)
   rw[if_neg (by omega)]
 ·intro i c v b G
  refine(a.wait i c v b G).keep (fun _ y=>y) (fun f y=>?_) (fun _ _ _ _=>rfl)
  have:=ZAI (z.chs c (List.mem_of_getElem? b)) y;show(if f=d.files.length then w.heap.size else L.ps f)=L.ps f
  rw[if_neg (by omega)]
 ·intro i b
  show Zpp W (if i=d.files.length then w.heap.size else L.ps i) (if i=d.files.length then .slice none 0 0 else L.vs i) (fl (d.files++[⟨[],0⟩]) i)
  by_cases e:i=d.files.length
  ·rw[if_pos e,if_pos e,e,Zrq]
   exact⟨C,World.ownsRow_nil _ _ _ _⟩
  ·have B:i<d.files.length:=by have:i<(d.files++[(⟨[],0⟩:Fl)]).length:=b;omega
   rw[if_neg e,if_neg e,Zpy B];exact a.file i B
 ·intro i j b t x
  have A:i<(d.files++[(⟨[],0⟩:Fl)]).length:=b;have I:j<(d.files++[(⟨[],0⟩:Fl)]).length:=t;show(if i=d.files.length then w.heap.size else L.ps i)≠(if j=d.files.length then w.heap.size else L.ps j)
  have E:∀ i,i<d.files.length->L.ps i<w.heap.size:=fun i b=>h.lt _ (h.rest.fp i b)
  by_cases l:i=d.files.length
  ·rw[if_pos l,if_neg (by omega)]
   have:=E j (by omega)
   omega
  ·rw[if_neg l]
   by_cases m:j=d.files.length
   ·rw[if_pos m]
    have:=E i (by omega)
    omega
   ·rw[if_neg m]
    exact a.psn i j (by show i<d.files.length;omega) (by show j<d.files.length;omega) x
 ·intro i j b t x g
  have A:i<(d.files++[(⟨[],0⟩:Fl)]).length:=b;have I:j<(d.files++[(⟨[],0⟩:Fl)]).length:=t;show(if i=d.files.length then Value.slice none 0 0 else L.vs i).ownBlock=some g->(if j=d.files.length then Value.slice none 0 0 else L.vs j).ownBlock≠some g
  by_cases l:i=d.files.length
  ·rw[if_pos l]
   intro k
   cases k
  ·rw[if_neg l]
   by_cases m:j=d.files.length
   ·rw[if_pos m]
    intro _ k
    cases k
   ·rw[if_neg m]
    exact a.vsn i j (by show i<d.files.length;omega) (by show j<d.files.length;omega) x g
 ·intro i b
  have A:i<(d.files++[(⟨[],0⟩:Fl)]).length:=b;show Gr F w W (if i=d.files.length then w.heap.size else L.ps i)
  by_cases e:i=d.files.length
  ·rw[if_pos e]
   exact .inr ⟨Nat.le_refl _,by omega⟩
  ·rw[if_neg e]
   exact a.fp i (by show i<d.files.length;omega)
 ·intro i b g
  have A:i<(d.files++[(⟨[],0⟩:Fl)]).length:=b;show(if i=d.files.length then Value.slice none 0 0 else L.vs i).ownBlock=some g->Gr F w W g
  by_cases e:i=d.files.length
  ·rw[if_pos e]
   intro k
   cases k
  ·rw[if_neg e]
   exact a.fv i (by show i<d.files.length;omega) g
theorem Zmo (w:World) (ty:TypeId) (v:Value) (b:List UInt8) (d:Own w 0 v b) (f:Value) (l:List UInt8) (n:Rd w f l)
 (x:b.length+l.length<=70368744177664):
 ∃ v' w',(Builtin.append_ #[53,53] ty #[v,f]).run prog w=.ok v' w'∧Own w' 0 v' (b++l)∧w.grownBy w' v.ownBlock∧(v'.ownBlock=v.ownBlock∨v'.ownBlock=some w.heap.size):=by
 obtain⟨h,g,u,i,k⟩:=info_parts ZnJ;obtain⟨ao,cap,rfl,z,y,t,m⟩:=n
 cases ao with
 | none=>
  have q:=t rfl;subst q;have e:l=[]:=List.eq_nil_of_length_eq_zero (by omega)
  subst e;have c:=run_append_owned_none (P:=prog) w 0 53 ty 5 h 1 underlying53 g v b.length (Lib.byteCells b) d;exact⟨v,w,c,by rw[List.append_nil];exact d,⟨rfl,rfl,rfl,Nat.le_refl _,fun _ _ _=>rfl⟩,.inl rfl⟩
 | some a=>
  obtain⟨v',w',c,p,j,_,e⟩:=run_append_own_at (P:=prog) w 0 53 ty 5 h (.int .u8 0) 1 1 underlying53 g u i k rfl (by decide) v b.length (Lib.byteCells b) d a l.length cap (Lib.byteCells l)
   (by rw[Zbi,Nat.mul_one]) (Rd.cells m a rfl) (ZdH l) (by unfold maxLen;omega) (by omega) (Nat.zero_le _)
  exact⟨v',w',c,Own.mk' p (by simp) (by simp[Lib.byteCells]),j,e⟩
theorem Zfc (w:World) {d:Array Oper} {rest:List Oper} {o:Oper} {a:Act} {Q:Exit->Act->World->Prop} (p:o.guard=none) (s x:Operand)
 (u:o.op=.call { callee:=.builtin .append,args:=#[s,x],argTypes:=#[53,53] })
 (v:Value) (b:List UInt8) (i:a.eval s=v) (q:Own w 0 v b) (c:Value) (l:List UInt8) (m:a.eval x=c) (t:Rd w c l)
 (e:b.length+l.length<=70368744177664)
 (h:∀ v' w',Own w' 0 v' (b++l)->w.grownBy w' v.ownBlock->(v'.ownBlock=v.ownBlock∨v'.ownBlock=some w.heap.size)->wpList prog d Q rest (a.put o.dst v') w'):wpList prog d Q (o::rest) a w:=
 wpList_plain p fun _ f=>by
  obtain⟨v',w',k,n,j,g⟩:=Zmo w o.type v b q c l t e;unfold Oper.wp execOp;simp only [u,resolve,invoke,builtin,Sem.run_bind,Sem.run_pure,Result.andThen_ok,map_toArray,map_cons,map_nil,i,m,k];exact f _ _ (h v' w' n j g)
theorem ZaM.grow {a:World} {L:Lay} {x:List UInt8} (h:ZaM F w p L d u N) (j:f<d.files.length)
 (t:Own a 0 v' ((fl d.files f).b++x)) (n:w.grownBy a (L.vs f).ownBlock) (hl:v'.ownBlock=(L.vs f).ownBlock∨v'.ownBlock=some w.heap.size):
 ZaM (Gr F w a) (a.setCell ⟨L.ps f,0,none⟩ v') p { L with vs:=fun i=>if i=f then v' else L.vs i } { d with files:=ZeR d.files f x } u N∧Zap F w (a.setCell ⟨L.ps f,0,none⟩ v'):=by
 have m:=h.rest;have q:=(m.file f j).box
 have D:(L.vs f).ownBlock≠some (L.ps f):=fun e=>by
  obtain⟨C,v⟩:=Zeh (m.file f j).own e;exact(q.ne v (by decide)) rfl
 have y:Bk 117 a (L.ps f) #[L.vs f,.int .i64 ((fl d.files f).k:Int)]:=q.keep (n.block _ q.lt (fun e=>D e.symm))
 have z:(a.setCell ⟨L.ps f,0,none⟩ v').heap.size=a.heap.size:=by simp
 refine⟨h.setFile (F':=Gr F w a) j (fun k l E B=>?_) ⟨y.set 0 v',?_⟩ ?_ (fun _ l=>.inl l) (fun g c=>?_) (fun k l=>by rw[z];exact Gr.lt n.size h.lt k l),?_⟩
 ·rw[Below.heap_setCell _ _ _ _ E,n.block k (h.lt k l) (fun e=>B e.symm)]
 ·refine Zae t fun g c=>Below.heap_setCell _ _ _ _ ?_
  obtain⟨C,v⟩:=Zeh t c;exact v.ne y (by decide)
 ·rcases hl with hl | hl
  ·exact .inl hl
  ·exact .inr fun g c=>by rw[hl] at c;exact Nat.le_of_eq (Option.some.inj c)
 ·rcases hl with hl | hl
  ·exact .inl (m.fv f j g (by rw[<-hl];exact c))
  ·have A:=(World.ownsRow.lt t g c).2
   rw[hl] at c;obtain rfl:=Option.some.inj c;exact .inr ⟨Nat.le_refl _,A⟩
 ·exact(Zap.ofGrown n fun k e _=>m.fv f j k e).setCell 0 (fun _=>m.fp f j) v'
theorem Bnd.grow (h:Bnd d N T) (f:Nat) (b:List UInt8) (q:Int):Bnd { d with files:=ZeR d.files f b,power:=q } (N+1) (T+b.length):=by
 refine⟨by show(ZeR d.files f b).length<=_;have:=h.files;simp[ZeR];omega,by have:=h.names;show d.kept.length+d.waits.length<=_;omega,fun x a=>?_⟩
 rcases List.mem_or_eq_of_mem_set a with a | rfl
 ·have:=h.bytes x a;omega
 ·simp only [length_append]
  by_cases c:f<d.files.length
  ·have:=h.bytes _ (ZeS c);omega
  ·unfold fl
   rw[List.getD,List.getElem?_eq_none (by omega)]
   simp only [Option.getD_none,List.length_nil];omega
theorem Bnd.fresh (h:Bnd d N T) (n:Int):Bnd (Zcn d n) (N+1) T:=by
 refine⟨by show(d.files++[_]).length<=_;have:=h.files;simp;omega,by have:=h.names;show d.kept.length+(d.waits++[_]).length<=_;simp;omega,fun x hx=>?_⟩
 rcases List.mem_append.1 hx with hx | hx
 ·exact h.bytes x hx
 ·rw[List.mem_singleton.1 hx]
  exact Nat.zero_le _
theorem Bnd.mono (h:Bnd d N T) (a:N<=N') (b:T<=T'):Bnd d N' T':=
 ⟨Nat.le_trans h.files a,Nat.le_trans h.names a,fun x c=>Nat.le_trans (h.bytes x c) b⟩
theorem ZaM.mono {L:Lay} (h:ZaM F w p L d u N) (a:N<=N'):ZaM F w p L d u N':=⟨h.head,h.rest.mono a,h.fh,h.lt⟩
theorem Dsk.mono (h:Dsk F w p d N T) (a:N<=N') (c:T<=T'):Dsk F w p d N' T':=by
 obtain⟨L,g,e,b,f⟩:=h;exact⟨L,g.mono a,e,b.mono a c,f⟩
def Zjk (F:Nat->Prop) (w:World) (p:Nat) (d:Dk) (code:Int) (N T:Nat) (e:Ending) (w':World):Prop:=
 e=.returned (.int .i64 code)∧∃ F',Dsk F' w' p d N T∧Zap F w w'∧∀ k,F' k->F k∨w.heap.size<=k
theorem Zjk.same (h:Dsk F w p d N T) (c:N<=N') (b:T<=T'):Zjk F w p d a N' T' (.returned (.int .i64 a)) w:=
 ⟨rfl,F,h.mono c b,Zap.refl _ _,fun _ e=>.inl e⟩
theorem Zjk.drew (h:Dsk F w p d N T) (c:N<=N') (b:T<=T') (q:Nat):Zjk F w p d a N' T' (.returned (.int .i64 a)) (w.drewN q):=
 ⟨rfl,F,(h.below (ZaI (Below.refl _ _) q)).mono c b,(Zap.refl _ _).drewN q,fun _ e=>.inl e⟩
theorem Zgr {q:Int} (h:I64 q):I64 (ZfK q):=by
 obtain⟨b,a⟩:=h;unfold ZfK I64;split <;> omega
theorem Zrt (h:OkD d) {N T:Nat} (a:Bnd d N T) (c:N<=1000000) (b:T<=1000000000):ZcL d<=1000000000000000:=by
 have f:=Zzg h a.names a.bytes;have e:N*T<=1000000*1000000000:=Nat.mul_le_mul c b;omega
theorem Zjk.appended {d:Nat->Prop} {c:World} {a:Dk} {e:Nat} {b:List UInt8} {j:Lay} (g:OkD a) (u:Bnd a e T) (i:I64 a.room∧I64 a.power) (m:look (Zbk a) n=some f)
 (h:ZaM d c p j (appendTo a f b) ((ZcL a:Int)+b.length) e) (t:Zap F w c) (l:∀ k,d k->F k∨w.heap.size<=k) (q:e+1<=N'):Zjk F w p (appendTo a f b) 0 N' (T+b.length) (.returned (.int .i64 0)) c:=by
 refine⟨rfl,d,⟨j,?_,g.appendTo f b,(u.grow f b _).mono q zL,i.1,Zgr i.2⟩,t,l⟩;rw[Zum g m b];exact h.mono (by omega)
theorem Rd.blockLt (h:Rd w v l):l=[]∨∀ k,v.ownBlock=some k->k<w.heap.size:=by
 obtain⟨ao,cap,rfl,i,g,j,a⟩:=h;rcases a with a | ⟨b,c,rfl,d⟩
 ·exact .inl a
 ·by_cases e:l=[]
  ·exact .inl e
  ·right
   intro k f;obtain rfl:b=k:=by simpa[Value.ownBlock] using f
   exact World.block_lt_of_cell? w ⟨b,c+0,none⟩ (d 0 (List.length_pos_iff.2 e))
theorem Rd.onlyN (h:Rd w v l) {F G:Nat->Prop} {B:Nat} (i:Zap G w w') (g:∀ k,G k->F k∨B<=k) (hv:l=[]∨∀ k,v.ownBlock=some k->¬ F k) (hlt:l=[]∨∀ k,v.ownBlock=some k->k<B):Rd w' v l:=by
 rcases hv with rfl | hv
 ·obtain⟨ao,cap,rfl,b,a,c,e⟩:=h
  exact⟨ao,cap,rfl,b,a,c,.inl rfl⟩
 rcases hlt with rfl | hlt
 ·obtain⟨ao,cap,rfl,b,a,c,e⟩:=h
  exact⟨ao,cap,rfl,b,a,c,.inl rfl⟩
 ·exact h.only i fun k d f=>by
   rcases g k f with hf | hf
   ·exact hv k d hf
   ·have:=hlt k d;omega
theorem ZmS (n:Int) (hn:I64 n) (vb:Value) (b:List UInt8) (w:World) (h:Dsk F w p d N T) (hr:Rd w vb b) (hv:b=[]∨∀ k,vb.ownBlock=some k->¬ F k) (hN:N<=1000000) (hT:T<=1000000000) (bi:b.length<=1000000000):
 Calls prog 52 #[ptr p,.int .i64 n,vb] w fun e w'=>Zjk F w p (ZaK d n b).1 (ZaK d n b).2 (N+2) (T+b.length) e w':=by
 have HD:=ZZ h;obtain⟨L,h,aV,aE,bb,a1⟩:=h;have H:=ZZ h;have t:=ZZ aV;have aw:=ZZ aE;have HI:=ZZ (And.intro bb a1);have ar:=ZZ hr;have bf:=ZZ hr.blockLt;have HV:=ZZ hv;have l:=ZZ (Zpq w h);have E:=ZZ (Zpr n w);have g:=h.rest.now.look hn;obtain⟨⟨c0,c1,c2,-,-,-⟩,-⟩:=h.cells;have bd:=Zrt aV aE hN hT;obtain⟨U,hU⟩:∃ U:Int,U=(ZcL d:Int):=⟨_,rfl⟩;have bh:0<=U∧U<=1000000000000000:=by omega
 rw[<-hU] at c1;obtain⟨ao,cap,rfl,-⟩:=hr;obtain⟨R,hR⟩:∃ R,R=d.room:=⟨_,rfl⟩;rw[<-hR] at c0;unfold ZaK;rw[<-hU,<-hR];have HU:=ZZ hU;clear hU bd hR;clear aV aE a1 hv h;by_cases h0:d.power=0
 ·rw[if_pos h0]
  rw[h0] at l;clear g h0
  go_enter func52,ntmps52
  go_wp2_with fail
  refine l.o.mono ?_;rintro e w' ⟨rfl,rfl⟩;go_wp2;go_ret;exact Zjk.same HD.o (by omega) (by omega)
 rw[if_neg h0];have e0:(d.power != 0)=true:=by simpa using h0
 rw[e0] at l;clear h0 e0
 cases hmn:Zja n with
 | false=>
  rw[if_pos rfl];rw[hmn] at E;clear g hmn
  go_enter func52,ntmps52
  go_wp2_with fail
  refine l.o.mono ?_;rintro e w' ⟨rfl,rfl⟩
  go_wp2_with fail
  refine E.o.mono ?_;rintro e w' ⟨rfl,rfl⟩;go_wp2;go_ret;exact Zjk.same HD.o (by omega) (by omega)
 | true=>
 rw[if_neg (by simp)]
 have ay:=ZZ hmn;rw[hmn] at E;clear hmn;by_cases ah:U+(b.length:Int)>R
 ·rw[if_pos ah]
  clear g
  go_enter func52,ntmps52
  go_wp2_with fail
  refine l.o.mono ?_;rintro e w' ⟨rfl,rfl⟩
  go_wp2_with fail
  refine E.o.mono ?_;rintro e w' ⟨rfl,rfl⟩
  go_upto_region 5 with fail
  go_quiet(fail)
  go_wp2;go_ret;exact Zjk.drew HD.o (by omega) (by omega) _
 rw[if_neg ah];have a5:decide (U+(b.length:Int)>R)=false:=decide_eq_false ah;have bg:U+(b.length:Int)<=R:=by omega
 cases ho:look (Zbk d) n with
 | some f=>
  clear g
  dsimp only
  have Z:=ZZ ho;clear ho
  go_enter func52,ntmps52
  go_wp2_with fail
  refine l.o.mono ?_;rintro e w' ⟨rfl,rfl⟩
  go_wp2_with fail
  refine E.o.mono ?_;rintro e w' ⟨rfl,rfl⟩
  go_upto_region 5 with fail
  go_cut[17] (fun v wc=>v=.bool false∧Hid (∃ q,wc=w'.drewN q))
  case first=>
   go_quiet(fail)
   go_wp2
   go_meet
   exact⟨rfl,ZZ ⟨_,rfl⟩⟩
  case rest=>
   obtain⟨W,rfl⟩:∃ W,W=wc:=⟨_,rfl⟩;obtain⟨rfl,hw⟩:=hcut;obtain⟨w,rfl⟩:∃ w0,w0=w':=⟨_,rfl⟩;obtain⟨q,y⟩:=hw.out;have A:Hid (ZaM F W p L d U N):=ZZ (by rw[y,HU.o];exact H.out.keep (fun _ _=>rfl) zL)
   have aa:Hid (Zap F w W):=ZZ (by rw[y];exact(Zap.refl _ _).drewN q)
   have an:Hid (Rd W (.slice ao b.length cap) b):=ZZ (by rw[y];exact ar.o.below (ZaI (Below.refl _ _) q) zL)
   clear hw y c0 c1 c2 ah a5 H ar l E HD;obtain⟨⟨-,-,c2,-,-,-⟩,-⟩:=A.o.cells;have g:=A.o.rest.now.look hn;rw[Z.o] at g;have aH:(Instr.lookup 65 (.map (some L.now)) (.int .i64 n) true).run prog W=.ok (.tuple #[.pointer (some ⟨L.ps f,0,none⟩),.bool true]) W:=g;have hf:f<d.files.length:=(t.o.dir.mayOf Z.o).2;have aN:=Z;have j:=A;have aI:=HU;have aB:=t;have am:=aw;have aq:=HI;have C:Hid (∀ k,F k->F k∨w.heap.size<=k):=ZZ (fun k hk=>.inl hk)
   have I:=aa;have aD:=an;clear g A aa an
   go_upto_region 11 with fail
   clear aH c2;obtain⟨g0,y0⟩:=(j.o.rest.file f hf).box.cell 0 rfl;have ai:=ZZ (j.o.rest.file f hf).own;have S:=ZZ (j.o.rest.file f hf).box;obtain⟨va,vc,O⟩:=(j.o.rest.file f hf).own.shape;rw[O] at g0;have ap:=ZZ O;have az:Hid ((fl d.files f).b.length+b.length<=70368744177664):=ZZ (by have:=am.o.bytes _ (ZeS hf);omega)
   clear O
   go_wp2_with(at_builtin;refine(fun(h:True->_)=>h trivial) ?_)
   intro _;rw[<-ap.o];refine Zfc W rfl _ _ rfl (L.vs f) _ rfl ai.o _ b rfl aD.o az.o ?_;intro v' w2 J V al;obtain⟨aj,ag⟩:=j.o.grow hf J V al;have D:=ZZ aj;have P:=ZZ ag
   have af:(L.vs f).ownBlock≠some (L.ps f):=fun e=>by
    obtain⟨ba,aM⟩:=Zeh ai.o e;exact(S.out.ne aM (by decide)) rfl
   obtain⟨g2,y2⟩:=(S.out.keep (V.block _ S.out.lt (fun e=>af e.symm))).cell 0 rfl
   rw[ap.o] at g2;obtain⟨aS,aO,ak⟩:=J.shape;rw[ak] at D P ⊢;obtain⟨Q,K⟩:∃ Q,Q=w2.setCell ⟨L.ps f,0,none⟩ (.slice aS ((fl d.files f).b++b).length aO):=⟨_,rfl⟩;have X:=ZZ K;obtain⟨M,Y⟩:∃ M,M=((fl d.files f).b++b).length:=⟨_,rfl⟩;rw[<-K] at D P;rw[<-Y];rw[<-Y] at X;clear J V al aj ag af ak K Y g0 y0
   go_upto_region 12 with fail
   rw[<-X.o];clear X g2 y2;obtain⟨⟨-,k1,-,-,-,-⟩,j1,-⟩:=D.o.cells;obtain⟨u,z⟩:∃ u,u=Q.setCell ⟨p,1,none⟩ (.int .i64 (U+(b.length:Int))):=⟨_,rfl⟩;have ad:=ZZ (D.o.setHead 1 (.int .i64 (U+(b.length:Int))) (d':={ d with files:=ZeR d.files f b }) (u':=U+(b.length:Int)) ⟨rfl,rfl,rfl⟩ rfl)
   have aF:Hid (Zap F w u):=ZZ (by
    rw[z]
    exact(I.o.trans P.o (fun k hk hf=>(C.o k hf).resolve_right (by omega))).setCell 1 (fun bc=>((C.o p j.o.fh).resolve_right (by omega))) _)
   rw[<-z] at ad;have ab:=ZZ z;clear z
   go_upto_region 13 with fail
   rw[<-ab.o];clear ab k1 j1
   go_wp2_with fail
   refine(Zfq u ad.o aq.o.2).mono ?_;rintro e W5 ⟨rfl,aT,aJ⟩;go_wp2;go_ret;refine Zjk.appended aB.o am.o aq.o aN.o (by rw[<-aI.o];exact aT) ((aF.o.trans aJ (fun k hk hf=>?_))) (fun k hk=>?_) (by omega)
   ·rcases hf with hf | hf
    ·exact(C.o k hf).resolve_right (by omega)
    ·have:=I.o.size;omega
   ·rcases hk with hk | hk
    ·exact C.o k hk
    ·have:=I.o.size;exact .inr (by omega)
 | none=>
  clear g
  dsimp only
  have Z:=ZZ ho;clear ho
  go_enter func52,ntmps52
  go_wp2_with fail
  refine l.o.mono ?_;rintro e w' ⟨rfl,rfl⟩
  go_wp2_with fail
  refine E.o.mono ?_;rintro e w' ⟨rfl,rfl⟩
  go_upto_region 5 with fail
  go_cut[17] (fun v wc=>v=.bool false∧Hid (∃ q,wc=w'.drewN q))
  case first=>
   go_quiet(fail)
   go_wp2
   go_meet
   exact⟨rfl,ZZ ⟨_,rfl⟩⟩
  case rest=>
   obtain⟨W,rfl⟩:∃ W,W=wc:=⟨_,rfl⟩;obtain⟨rfl,hw⟩:=hcut;obtain⟨w,rfl⟩:∃ w0,w0=w':=⟨_,rfl⟩;obtain⟨q,y⟩:=hw.out;have A:Hid (ZaM F W p L d U N):=ZZ (by rw[y,HU.o];exact H.out.keep (fun _ _=>rfl) zL)
   have aa:Hid (Zap F w W):=ZZ (by rw[y];exact(Zap.refl _ _).drewN q)
   have an:Hid (Rd W (.slice ao b.length cap) b):=ZZ (by rw[y];exact ar.o.below (ZaI (Below.refl _ _) q) zL)
   clear hw y c0 c1 c2 ah a5 H ar l E HD;obtain⟨⟨-,-,c2,-,-,-⟩,-⟩:=A.o.cells;have g:=A.o.rest.now.look hn;rw[Z.o] at g;have aH:(Instr.lookup 65 (.map (some L.now)) (.int .i64 n) true).run prog W=.ok (.tuple #[.pointer none,.bool false]) W:=g;have aU:=ZZ (A.o.addFile t.o);have aG:=ZZ (aa.o.alloc (.cells #[.slice none 0 0,.int .i64 0] 117));have aA:Hid (Rd (W.alloc (.cells #[.slice none 0 0,.int .i64 0] 117)) (.slice ao b.length cap) b):=ZZ (an.o.below ((Below.refl _ _).alloc zL _) zL);have a3:Hid (w.heap.size<=W.heap.size):=ZZ aa.o.size;have aL:Hid (W.heap.size<(W.alloc (.cells #[.slice none 0 0,.int .i64 0] 117)).heap.size):=ZZ (by simp)
   obtain⟨a,aQ⟩:∃ a,a=W.alloc (.cells #[.slice none 0 0,.int .i64 0] 117):=⟨_,rfl⟩;rw[<-aQ] at aU aG aA aL;have aX:=ZZ aQ;have l:=Z;clear aQ g
   go_upto_region 10 with fail
   rw[<-aX.o];clear aX aH c2
   go_wp2_with fail
   refine(Zze n W.heap.size a).mono ?_;rintro e m ⟨rfl,ae⟩;have au:Below a.heap.size a m:=by rw[ae];exact((Below.refl _ _).alloc zL _).alloc (by simp) _
   have be:m.heap.size=a.heap.size+1+1:=by rw[ae];simp
   have a7:Bk 3 m a.heap.size #[.int .i64 n]:=by rw[ae];exact(Below.heap_alloc _ _ _ (by simp)).trans (heap_alloc_new a _)
   have aZ:Bk 115 m (a.heap.size+1) #[ptr W.heap.size]:=by
    have e1:a.heap.size+1=(a.alloc (.cells #[.int .i64 n] 3)).heap.size:=by simp
    rw[ae,e1];exact heap_alloc_new _ _
   have av:=ZZ (aU.o.more au);obtain⟨FB,ac⟩:∃ FB,FB=Gr (Gr F W a) a m:=⟨_,rfl⟩;rw[<-ac] at av;obtain⟨LB,aC⟩:∃ LB:Lay,LB={ L with ps:=fun i=>if i=d.files.length then W.heap.size else L.ps i,vs:=fun i=>if i=d.files.length then .slice none 0 0 else L.vs i }:=⟨_,rfl⟩
   have aR:LB.ps d.files.length=W.heap.size:=by rw[aC];exact if_pos rfl
   rw[<-aC] at av;have a4:Hid (ChV FB m LB.ps (.give n d.files.length) (.func (.func 139) #[] #[ptr (a.heap.size+1),ptr a.heap.size])):=ZZ ⟨_,_,rfl,a7,by rw[aR];exact aZ,by rw[ac];exact .inr ⟨Nat.le_refl _,by omega⟩,by rw[ac];exact .inr ⟨by omega,by omega⟩⟩
   have ax:Hid (∀ k,FB k->F k∨w.heap.size<=k):=ZZ (fun k hk=>by
    rw[ac] at hk;have h1:=a3.o;have h2:=aL.o;rcases hk with (hk | hk) | hk
    ·exact .inl hk
    ·exact .inr (by omega)
    ·exact .inr (by omega))
   have aP:Hid (Zap F w m):=ZZ (aG.o.trans (G:=fun _=>False) (Zap.ofBelow au) (fun _ _ hf=>hf.elim))
   have aW:Hid (Rd m (.slice ao b.length cap) b):=ZZ (aA.o.below au zL);have a8:=ZZ aR
   have a6:Hid (OkD { d with files:=d.files++[⟨[],0⟩] }):=ZZ ⟨fun k=>(t.o.dirs k).more (by simp),fun c hc=>(t.o.chs c hc).more (by simp),fun x hx=>by
    rcases List.mem_append.1 hx with hx | hx
    ·exact t.o.keep x hx
    ·rw[List.mem_singleton.1 hx];exact Nat.le_refl _⟩
   have a2:=ZZ (ZkH m av.o a4.o a6.o ⟨ay.o,by simp⟩ hN (by have:=aw.o.names;show d.waits.length<=1000000;omega))
   clear au be a7 aZ ac aC aR ae
   go_wp2_with fail
   refine a2.o.mono ?_;rintro e WC ⟨rfl,LC,aY,a9,-,aK⟩;have aN:Hid (look (Zbk (Zcn d n)) n=some d.files.length):=ZZ (ZtR t.o n);have j:Hid (ZaM (Gr FB m WC) WC p LC (Zcn d n) U (N+1)):=ZZ aY;have aI:Hid (U=(ZcL (Zcn d n):Int)):=ZZ (by rw[Zrr t.o l.o];exact HU.o)
   have aB:Hid (OkD (Zcn d n)):=ZZ (t.o.fresh ay.o);have am:Hid (Bnd (Zcn d n) (N+1) T):=ZZ (aw.o.fresh n);have aq:Hid (I64 (Zcn d n).room∧I64 (Zcn d n).power):=ZZ HI.o
   have C:Hid (∀ k,Gr FB m WC k->F k∨w.heap.size<=k):=ZZ (fun k hk=>by
    rcases hk with hk | hk
    ·exact ax.o k hk
    ·have:=aP.o.size;exact .inr (by omega))
   have I:Hid (Zap F w WC):=ZZ (aP.o.trans aK (fun k hk hf=>(ax.o k hf).resolve_right (by omega)))
   have aD:Hid (Rd WC (.slice ao b.length cap) b):=ZZ (aW.o.onlyN (B:=w.heap.size) aK ax.o HV.o bf.o);have hf:d.files.length<(Zcn d n).files.length:=by simp[Zcn]
   have a0:LC.ps d.files.length=W.heap.size:=by rw[a9];exact a8.o
   rw[<-a0];clear aY a9 aK a0 a2 a4 av ax aP aW a8 a6 aU aG aA a3 aL l A aa an t aw HI HU hn ay
   go_upto_region 11 with fail
   obtain⟨g0,y0⟩:=(j.o.rest.file d.files.length hf).box.cell 0 rfl;have ai:=ZZ (j.o.rest.file d.files.length hf).own;have S:=ZZ (j.o.rest.file d.files.length hf).box;obtain⟨va,vc,O⟩:=(j.o.rest.file d.files.length hf).own.shape;rw[O] at g0;have ap:=ZZ O;have az:Hid ((fl (Zcn d n).files d.files.length).b.length+b.length<=70368744177664):=ZZ (by have:=am.o.bytes _ (ZeS hf);omega)
   clear O
   go_wp2_with(at_builtin;refine(fun(h:True->_)=>h trivial) ?_)
   intro _;rw[<-ap.o];refine Zfc WC rfl _ _ rfl (LC.vs d.files.length) _ rfl ai.o _ b rfl aD.o az.o ?_;intro v' w2 J V al;obtain⟨aj,ag⟩:=j.o.grow hf J V al;have D:=ZZ aj;have P:=ZZ ag
   have af:(LC.vs d.files.length).ownBlock≠some (LC.ps d.files.length):=fun e=>by
    obtain⟨ba,aM⟩:=Zeh ai.o e;exact(S.out.ne aM (by decide)) rfl
   obtain⟨g2,y2⟩:=(S.out.keep (V.block _ S.out.lt (fun e=>af e.symm))).cell 0 rfl
   rw[ap.o] at g2;obtain⟨aS,aO,ak⟩:=J.shape;rw[ak] at D P ⊢;obtain⟨Q,K⟩:∃ Q,Q=w2.setCell ⟨LC.ps d.files.length,0,none⟩ (.slice aS ((fl (Zcn d n).files d.files.length).b++b).length aO):=⟨_,rfl⟩;have X:=ZZ K;obtain⟨M,Y⟩:∃ M,M=((fl (Zcn d n).files d.files.length).b++b).length:=⟨_,rfl⟩;rw[<-K] at D P;rw[<-Y];rw[<-Y] at X;clear J V al aj ag af ak K Y g0 y0
   go_upto_region 12 with fail
   rw[<-X.o];clear X g2 y2;obtain⟨⟨-,k1,-,-,-,-⟩,j1,-⟩:=D.o.cells;obtain⟨u,z⟩:∃ u,u=Q.setCell ⟨p,1,none⟩ (.int .i64 (U+(b.length:Int))):=⟨_,rfl⟩;have ad:=ZZ (D.o.setHead 1 (.int .i64 (U+(b.length:Int))) (d':={ (Zcn d n) with files:=ZeR (Zcn d n).files d.files.length b }) (u':=U+(b.length:Int)) ⟨rfl,rfl,rfl⟩ rfl)
   have aF:Hid (Zap F w u):=ZZ (by
    rw[z]
    exact(I.o.trans P.o (fun k hk hf=>(C.o k hf).resolve_right (by omega))).setCell 1 (fun bc=>((C.o p j.o.fh).resolve_right (by omega))) _)
   rw[<-z] at ad;have ab:=ZZ z;clear z
   go_upto_region 13 with fail
   rw[<-ab.o];clear ab k1 j1
   go_wp2_with fail
   refine(Zfq u ad.o aq.o.2).mono ?_;rintro e W5 ⟨rfl,aT,aJ⟩;go_wp2;go_ret;refine Zjk.appended aB.o am.o aq.o aN.o (by rw[<-aI.o];exact aT) ((aF.o.trans aJ (fun k hk hf=>?_))) (fun k hk=>?_) (by omega)
   ·rcases hf with hf | hf
    ·exact(C.o k hf).resolve_right (by omega)
    ·have:=I.o.size;omega
   ·rcases hk with hk | hk
    ·exact C.o k hk
    ·have:=I.o.size;exact .inr (by omega)
theorem Own.nil (w:World) (B:Nat):Own w B (.slice none 0 0) []:=World.ownsRow_nil w B 5 1
theorem ZnY (w:World) (ty:TypeId) (B:Nat) (v:Value) (b:List UInt8) (c:Own w B v b) (f:Value) (l:List UInt8) (q:Rd w f l)
 (A:b.length+l.length<=70368744177664) (e:B<=w.heap.size):
 ∃ v' w',(Builtin.append_ #[53,53] ty #[v,f]).run prog w=.ok v' w'∧Own w' B v' (b++l)∧Below B w w':=by
 obtain⟨h,g,z,i,m⟩:=info_parts ZnJ;obtain⟨ao,cap,rfl,D,C,y,p⟩:=q
 cases ao with
 | none=>
  have x:=y rfl;subst x;have t:l=[]:=List.eq_nil_of_length_eq_zero (by omega)
  subst t;have d:=run_append_owned_none (P:=prog) w B 53 ty 5 h 1 underlying53 g v b.length (Lib.byteCells b) c;exact⟨v,w,d,by rw[List.append_nil];exact c,Below.refl _ _⟩
 | some a=>
  obtain⟨v',w',d,u,j,_⟩:=run_append_own (P:=prog) w B 53 ty 5 h (.int .u8 0) 1 1 underlying53 g z i m rfl (by decide) v b.length (Lib.byteCells b) c a l.length cap (Lib.byteCells l)
   (by rw[Zbi,Nat.mul_one]) (Rd.cells p a rfl) (ZdH l) (by unfold maxLen;omega) (by omega) e
  refine⟨v',w',d,Own.mk' u (by simp) (by simp[Lib.byteCells]),?_⟩
  exact(Below.refl _ _).grown j e (fun k n=>(World.ownsRow.lt c k n).1)
theorem Zpz {o:Oper} {a:Act} {K:Act->World->Prop} {Q:Exit->Act->World->Prop} (w:World) (s x:Operand)
 (p:o.op=.call { callee:=.builtin .append,args:=#[s,x],argTypes:=#[53,53] })
 (B:Nat) (v:Value) (b:List UInt8) (e:a.eval s=v) (m:Own w B v b) (c:Value) (l:List UInt8) (i:a.eval x=c) (n:Rd w c l)
 (d:b.length+l.length<=70368744177664) (j:B<=w.heap.size)
 (h:∀ v' w',Own w' B v' (b++l)->Below B w w'->K (a.put o.dst v') w'):o.wp prog a w K Q:=by
 obtain⟨v',w',g,k,f⟩:=ZnY w o.type B v b m c l n d j;unfold Oper.wp execOp;simp only [p,resolve,invoke,builtin,Sem.run_bind,Sem.run_pure,Result.andThen_ok,map_toArray,map_cons,map_nil,e,i,g];exact h v' w' k f
theorem ZaE (w:World) {d:Array Oper} {rest:List Oper} {o:Oper} {a:Act} {Q:Exit->Act->World->Prop} (n:o.guard=none) (s x:Operand)
 (t:o.op=.call { callee:=.builtin .append,args:=#[s,x],argTypes:=#[53,53] })
 (B:Nat) (v:Value) (b:List UInt8) (g:a.eval s=v) (p:Own w B v b) (c:Value) (l:List UInt8) (j:a.eval x=c) (q:Rd w c l)
 (e:b.length+l.length<=70368744177664) (k:B<=w.heap.size)
 (h:∀ v' w',Own w' B v' (b++l)->Below B w w'->wpList prog d Q rest (a.put o.dst v') w'):wpList prog d Q (o::rest) a w:=
 wpList_plain n fun _ f=>Zpz w s x t B v b g p c l j q e k fun v' w' m i=>f _ _ (h v' w' m i)
theorem Zzh (w:World) (B:Nat) (a:B<=w.heap.size):Own (w.alloc (.cells #[] 5)) B (.slice (some ⟨w.heap.size,0,none⟩) 0 0) []:=
 ⟨rfl,.inr ⟨w.heap.size,0,#[],rfl,a,heap_alloc_new w _,Nat.le_refl _,Nat.zero_le _,rfl,rfl⟩⟩
theorem Zuq (v:Value) (l:List UInt8) (w:World) (g:Rd w v l) (A:l.length<=70368744177664):
 Calls prog 113 #[v] w fun e w'=>∃ v',e=.returned v'∧Own w' w.heap.size v' l∧Below w.heap.size w w':=by
 have i:=ZZ g;obtain⟨ao,cap,rfl,x,t,b,d⟩:=g
 cases ao with
 | none=>
  have u:=b rfl;have q:l=[]:=List.eq_nil_of_length_eq_zero (by omega)
  subst q;subst u;clear d b;have p:∀ w,(binOp .eql 53 (.slice none 0 0) (.slice none 0 0)).run prog w=.ok (.bool true) w:=fun w=>run_eql_slice_nil w _ _ none 0 0 underlying53
  go_enter func113,ntmps113
  go_wp2;go_ret;exact⟨_,rfl,Own.nil _ _,Below.refl _ _⟩
 | some c=>
  clear d b x t;have p:∀ w,(binOp .eql 53 (.slice (some c) l.length cap) (.slice none 0 0)).run prog w=.ok (.bool false) w:=fun w=>run_eql_slice_nil w _ _ (some c) _ _ underlying53
  have n:=ZZ (Zzh w w.heap.size zL);have a:=ZZ ((Below.refl w.heap.size w).alloc zL (.cells #[] 5));have m:=ZZ (i.o.below a.o zL);have k:Hid (w.heap.size<=(w.alloc (.cells #[] 5)).heap.size):=a.o.size
  go_enter func113,ntmps113
  go_wp2_with(at_builtin;refine ZaE _ rfl _ _ rfl w.heap.size _ [] rfl n.o _ l rfl m.o (by simp;omega) k.o ?_)
  intro z B f h;have y:=ZZ f;have j:=ZZ (a.o.trans h);clear f h;go_wp2;go_ret;exact⟨z,rfl,y.o,j.o⟩
theorem ZpA (n:Int) (k:I64 n) (w:World) (h:Dsk F w p d N T) (q:T<=1000000000):
 Calls prog 75 #[ptr p,.int .i64 n] w fun e w'=>∃ v,e=.returned (.tuple #[v,.int .i64 (Zdc d n).2])∧Own w' w.heap.size v (Zdc d n).1∧Below w.heap.size w w':=by
 obtain⟨L,h,j,l,-,-⟩:=h;have a:=ZZ (ZjR n k w h);have H:=ZZ h;have m:=ZZ j;have t:=ZZ l;clear h j l;unfold Zdc;by_cases b:d.power=0
 ·rw[if_pos b]
  rw[if_pos b,if_pos b] at a;clear b
  go_enter func75,ntmps75
  go_wp2_with fail
  refine a.o.mono ?_;rintro e w' ⟨rfl,rfl⟩;go_wp2;go_ret2;exact⟨_,rfl,Own.nil _ _,Below.refl _ _⟩
 rw[if_neg b];rw[if_neg b,if_neg b] at a;clear b
 cases ho:look (Zbk d) n with
 | none=>
  rw[ho] at a
  dsimp only [Option.map_none,Option.isSome_none,Bool.false_eq_true,if_false,Ztk] at a ⊢
  clear ho
  go_enter func75,ntmps75
  go_wp2_with fail
  refine a.o.mono ?_;rintro e w' ⟨rfl,rfl⟩;go_wp2;go_ret2;exact⟨_,rfl,Own.nil _ _,Below.refl _ _⟩
 | some f=>
  rw[ho] at a
  dsimp only [Option.map_some,Option.isSome_some,if_true,Ztk] at a ⊢
  have c:f<d.files.length:=(m.o.dir.mayOf ho).2;obtain⟨x,-⟩:=(H.out.rest.file f c).box.cell 0 rfl;have u:=ZZ (H.out.rest.file f c).own.rd;have g:=ZZ (Zuq _ _ w u.o (by have:=t.o.bytes _ (ZeS c);omega))
  obtain⟨A,D,i⟩:=(H.out.rest.file f c).own.shape;rw[i] at x g;clear ho c i q k
  go_enter func75,ntmps75
  go_wp2_with fail
  refine a.o.mono ?_;rintro e w' ⟨rfl,rfl⟩
  go_wp2_with fail
  refine g.o.mono ?_;rintro e B ⟨C,rfl,y,z⟩;go_wp2;go_ret2;exact⟨_,rfl,y,z⟩
theorem Ztl (n:Int) (M:I64 n) (w:World) (h:Dsk F w p d N T):
 Calls prog 59 #[ptr p,.int .i64 n] w fun e w'=>Zjk F w p (Zdx d n).1 (Zdx d n).2 (N+2) T e w':=by
 have D:=ZZ h;obtain⟨L,h,J,O,E,P⟩:=h;have a:=ZZ (ZjR n M w h);have H:=ZZ h;have l:=ZZ J;have t:=ZZ O;have v:=ZZ (And.intro E P);clear h J O E P;unfold Zdx;by_cases j:d.power=0
 ·rw[if_pos j]
  rw[if_pos j,if_pos j] at a;clear j
  go_enter func59,ntmps59
  go_wp2_with fail
  refine a.o.mono ?_;rintro e w' ⟨rfl,rfl⟩;go_wp2;go_ret;exact Zjk.same D.o (by omega) zL
 rw[if_neg j];rw[if_neg j,if_neg j] at a;clear j
 cases ho:look (Zbk d) n with
 | none=>
  rw[ho] at a
  dsimp only [Option.map_none,Option.isSome_none,Bool.false_eq_true,if_false,Ztk] at a ⊢
  clear ho
  go_enter func59,ntmps59
  go_wp2_with fail
  refine a.o.mono ?_;rintro e w' ⟨rfl,rfl⟩;go_wp2;go_ret;exact Zjk.same D.o (by omega) zL
 | some f=>
  rw[ho] at a
  dsimp only [Option.map_some,Option.isSome_some,if_true,Ztk] at a ⊢
  have B:=ZZ ho;have c:f<d.files.length:=(l.o.dir.mayOf ho).2;have q:=ZZ (H.out.rest.file f c);obtain⟨G,-⟩:=(H.out.rest.file f c).box.cell 0 rfl;obtain⟨R,U⟩:=(H.out.rest.file f c).box.cell 1 rfl
  have C:Hid (ZaM F (w.setCell ⟨L.ps f,1,none⟩ (.int .i64 ((fl d.files f).b.length:Int))) p { L with vs:=fun i=>if i=f then L.vs f else L.vs i } { d with files:=Zhr d.files f } (ZcL d) N):=ZZ (H.out.setFile (F':=F) (v':=L.vs f) (x':=⟨(fl d.files f).b,(fl d.files f).b.length⟩) c (fun k _ X _=>Below.heap_setCell _ _ _ _ X) ⟨q.o.box.set 1 _,Zae q.o.own fun g u=>Below.heap_setCell _ _ _ _ (by
   obtain⟨Z,W⟩:=Zeh q.o.own u
   exact W.ne q.o.box (by decide))⟩ (.inl rfl) (fun _ m=>m) (fun g u=>H.out.rest.fv f c g u) (fun k m=>by simpa using H.out.lt k m))
  have K:Hid (Zap F w (w.setCell ⟨L.ps f,1,none⟩ (.int .i64 ((fl d.files f).b.length:Int)))):=ZZ ((Zap.refl _ _).setCell 1 (fun _=>H.out.rest.fp f c) _)
  obtain⟨va,vc,I⟩:=q.o.own.shape;rw[I] at G;obtain⟨y,z⟩:∃ y,y=w.setCell ⟨L.ps f,1,none⟩ (.int .i64 ((fl d.files f).b.length:Int)):=⟨_,rfl⟩;rw[<-z] at C K;have Q:=ZZ z;clear ho c I M z
  go_enter func59,ntmps59
  go_wp2_with fail
  refine a.o.mono ?_;rintro e w' ⟨rfl,rfl⟩
  go_upto_region 5 with fail
  rw[<-Q.o];clear Q G R U
  go_wp2_with fail
  refine(Zfq y C.o v.o.2).mono ?_;rintro e Y ⟨rfl,S,V⟩;go_wp2;go_ret;refine⟨rfl,F,⟨{ L with vs:=fun i=>if i=f then L.vs f else L.vs i },?_,?_,⟨?_,?_,?_⟩,v.o.1,Zgr v.o.2⟩,K.o.trans V (fun _ _ c=>c),fun _ m=>.inl m⟩
  ·rw[Zun l.o B.o]
   exact S.mono (by omega)
  ·exact l.o.bytes (by simp[Zhr]) (ZjO l.o.keep _ zL)
  ·have:=t.o.files
   show(Zhr d.files f).length<=_;simp[Zhr];omega
  ·have:=t.o.names
   show d.kept.length+d.waits.length<=_;omega
  ·intro x A
   rcases List.mem_or_eq_of_mem_set A with A | rfl
   ·exact t.o.bytes x A
   ·have:=t.o.bytes _ (ZeS (l.o.dir.mayOf B.o).2)
    exact this
theorem Ztm {L:Lay} {U:Int} (n:Int) (q:I64 n) (w:World) (h:ZaM F w p L d U N) (g:OkD d) (j:Bnd d N T) (y:T<=1000000000) (B:0<=U∧U<=1000000000000000):
 Calls prog 104 #[ptr p,.int .i64 n] w fun e w'=>e=.returned (.tuple #[])∧ZaM F w' p L d (U-(Zul d.files (look (Zbk d) n):Int)) N∧Zap F w w':=by
 have H:=ZZ h;obtain⟨⟨-,v,x,-,-,-⟩,C,-⟩:=h.cells;have a:=h.rest.now.look q
 cases ho:look (Zbk d) n with
 | none=>
  rw[ho] at a;have t:(Instr.lookup 65 (.map (some L.now)) (.int .i64 n) true).run prog w=.ok (.tuple #[.pointer none,.bool false]) w:=a;clear a ho h g j
  go_enter func104,ntmps104
  go_wp2;go_end0;exact⟨rfl,by simpa[Zul] using H.out,Zap.refl _ _⟩
 | some f=>
  rw[ho] at a;have t:(Instr.lookup 65 (.map (some L.now)) (.int .i64 n) true).run prog w=.ok (.tuple #[.pointer (some ⟨L.ps f,0,none⟩),.bool true]) w:=a;have c:f<d.files.length:=(g.dir.mayOf ho).2;obtain⟨k,-⟩:=(h.rest.file f c).box.cell 0 rfl;obtain⟨z,A,l⟩:=(h.rest.file f c).own.shape;rw[l] at k;have u:=j.bytes _ (ZeS c);obtain⟨m,i⟩:∃ m,m=(fl d.files f).b.length:=⟨_,rfl⟩;have e:Zul d.files (some f)=m:=i.symm;rw[e];rw[<-i] at k u;clear a ho h g j c l i e q
  go_enter func104,ntmps104
  go_upto_region 2 with fail
  go_region
  go_end0;exact⟨rfl,(H.out.setHead 1 (.int .i64 (U-(m:Int))) ⟨rfl,rfl,rfl⟩ rfl).keep (fun _ _=>rfl) zL,((Zap.refl _ _).setCell 1 (fun _=>H.out.fh) _).drewN 1⟩
theorem Bnd.waited (h:Bnd d N T) (c:Ch) (q:Int):Bnd { d with waits:=d.waits++[c],power:=q } (N+1) T:=
 ⟨by have:=h.files;show d.files.length<=_;omega,by have:=h.names;show d.kept.length+(d.waits++[c]).length<=_;simp;omega,h.bytes⟩
theorem ZaM.drewN {L:Lay} (h:ZaM F w p L d u N) (q:Nat):ZaM F (w.drewN q) p L d u N:=h.keep (fun _ _=>rfl) zL
theorem ZmT (n:Int) (y:I64 n) (w:World) (h:Dsk F w p d N T) (Q:N<=1000000) (B:T<=1000000000):
 Calls prog 69 #[ptr p,.int .i64 n] w fun e w'=>Zjk F w p (Zam d n).1 (Zam d n).2 (N+2) T e w':=by
 have C:=ZZ h;obtain⟨L,h,m,t,J,S⟩:=h;have a:=ZZ (ZjR n y w h);have H:=ZZ h;have l:=ZZ m;have K:=ZZ t;have u:=ZZ (And.intro J S);have U:=Zrt m t Q B;have O:=ZZ (Ztm n y w h m t B (by omega))
 clear h m t J S U;unfold Zam;by_cases i:d.power=0
 ·rw[if_pos i]
  rw[if_pos i,if_pos i] at a;clear i
  go_enter func69,ntmps69
  go_wp2_with fail
  refine a.o.mono ?_;rintro e w' ⟨rfl,rfl⟩;go_wp2;go_ret;exact Zjk.same C.o (by omega) zL
 rw[if_neg i];rw[if_neg i,if_neg i] at a;clear i
 cases ho:look (Zbk d) n with
 | none=>
  rw[ho] at a
  dsimp only [Option.map_none,Option.isSome_none,Bool.false_eq_true,if_false,Ztk] at a ⊢
  clear ho
  go_enter func69,ntmps69
  go_wp2_with fail
  refine a.o.mono ?_;rintro e w' ⟨rfl,rfl⟩;go_wp2;go_ret;exact Zjk.same C.o (by omega) zL
 | some f=>
  rw[ho] at a O
  dsimp only [Option.map_some,Option.isSome_some,if_true,Ztk] at a ⊢
  have A:=ZZ ho;have ab:=ZZ (l.o.dir.mayOf ho);clear ho y
  go_enter func69,ntmps69
  go_wp2_with fail
  refine a.o.mono ?_;rintro e w' ⟨rfl,rfl⟩
  go_wp2_with fail
  refine O.o.mono ?_;rintro e c ⟨rfl,P,D⟩;have W:=ZZ P;have q:=ZZ D;clear P D
  go_wp2_with fail
  refine(Zzf n c).mono ?_;rintro e g ⟨rfl,j⟩;have v:Below c.heap.size c g:=by rw[j];exact(Below.refl _ _).alloc zL _
  have X:g.heap.size=c.heap.size+1:=by rw[j];simp
  have I:Bk 3 g c.heap.size #[.int .i64 n]:=by rw[j];exact heap_alloc_new c _
  have ac:=ZZ (W.o.more v);have V:Hid (ChV (Gr F c g) g L.ps (.take n) (.func (.func 157) #[] #[ptr c.heap.size])):=ZZ ⟨_,rfl,I,.inr ⟨Nat.le_refl _,by omega⟩⟩
  have z:Hid (Zap F w' g):=ZZ (q.o.trans (G:=fun _=>False) (Zap.ofBelow v) (fun _ _ hf=>hf.elim))
  have M:=ZZ (ZkH g ac.o V.o l.o ab.o.1 Q (by have:=K.o.names;omega))
  clear v X I j
  go_wp2_with fail
  refine M.o.mono ?_;rintro e x ⟨rfl,L3,E,-,-,R⟩
  have ad:Hid (Zap F w' x):=ZZ (z.o.trans R (fun k hk hf=>by
   rcases hf with hf | hf
   ·exact hf
   ·have:=q.o.size;omega))
  have ae:=ZZ E;clear E R M
  go_wp2_with fail
  refine(Zfq x ae.o u.o.2).mono ?_;rintro e W4 ⟨rfl,aa,Z⟩;go_wp2;go_ret;refine⟨rfl,Gr (Gr F c g) g x,⟨L3,?_,?_,(K.o.waited (.take n) _).mono (by omega) zL,u.o.1,Zgr u.o.2⟩,ad.o.trans Z (fun k hk hf=>?_),fun k hk=>?_⟩
  ·have hu:=Zup l.o A.o (ZfK d.power)
   have Y:(ZcL { d with waits:=d.waits++[.take n],power:=ZfK d.power }:Int)=(ZcL d:Int)-(Zul d.files (some f):Int):=by
    show _=(ZcL d:Int)-((fl d.files f).b.length:Int);omega
   rw[Y];exact aa.mono (by omega)
  ·exact l.o.taken A.o _
  ·rcases hf with (hf | hf) | hf
   ·exact hf
   ·have:=q.o.size;omega
   ·have:=z.o.size;omega
  ·rcases hk with (hk | hk) | hk
   ·exact .inl hk
   ·have:=q.o.size;exact .inr (by omega)
   ·have:=z.o.size;exact .inr (by omega)
theorem Zur (w:World) (a b c:Obj):(((w.alloc a).alloc b).alloc c).heap[w.heap.size]?=some a∧(((w.alloc a).alloc b).alloc c).heap[w.heap.size+1]?=some b∧(((w.alloc a).alloc b).alloc c).heap[w.heap.size+1+1]?=some c:=by
 have e:(w.alloc a).heap.size=w.heap.size+1:=by simp
 have d:((w.alloc a).alloc b).heap.size=w.heap.size+1+1:=by simp
 refine⟨?_,?_,?_⟩
 ·rw[Below.heap_alloc _ _ _ (by omega),Below.heap_alloc _ _ _ (by omega)]
  exact heap_alloc_new w a
 ·rw[Below.heap_alloc _ _ _ (by omega),<-e]
  exact heap_alloc_new _ b
 ·rw[<-d]
  exact heap_alloc_new _ c
theorem Zus (n m:Int) (W:I64 n) (V:I64 m) (w:World) (h:Dsk F w p d N T) (Y:N<=1000000) (P:T<=1000000000):
 Calls prog 61 #[ptr p,.int .i64 n,.int .i64 m] w fun e w'=>Zjk F w p (Zdg d n m).1 (Zdg d n m).2 (N+2) T e w':=by
 have z:=ZZ h;obtain⟨L,h,v,y,S,ac⟩:=h;have a:=ZZ (ZjR n W w h);have H:=ZZ h;have l:=ZZ v;have q:=ZZ y;have j:=ZZ (And.intro S ac);have ad:=Zrt v y Y P;have ah:=ZZ (Ztm m V w h v y P (by omega))
 clear h v y S ac ad;unfold Zdg;by_cases g:d.power=0
 ·rw[if_pos g]
  rw[if_pos g,if_pos g] at a;clear g
  go_enter func61,ntmps61
  go_wp2_with fail
  refine a.o.mono ?_;rintro e w' ⟨rfl,rfl⟩;go_wp2;go_ret;exact Zjk.same z.o (by omega) zL
 rw[if_neg g];rw[if_neg g,if_neg g] at a;clear g
 cases ho:look (Zbk d) n with
 | none=>
  rw[ho] at a
  dsimp only [Option.map_none,Option.isSome_none,Bool.false_eq_true,if_false,Ztk] at a ⊢
  clear ho
  go_enter func61,ntmps61
  go_wp2_with fail
  refine a.o.mono ?_;rintro e w' ⟨rfl,rfl⟩;go_wp2;go_ret;exact Zjk.same z.o (by omega) zL
 | some f=>
  rw[ho] at a
  dsimp only [Option.map_some,Option.isSome_some,if_true,Ztk] at a ⊢
  have O:=ZZ ho;have Z:=ZZ (l.o.dir.mayOf ho);have t:=ZZ (Zpr m w);clear ho W V
  cases hmn:Zja m with
  | false=>
   rw[if_pos rfl];rw[hmn] at t;clear hmn
   go_enter func61,ntmps61
   go_wp2_with fail
   refine a.o.mono ?_;rintro e w' ⟨rfl,rfl⟩
   go_wp2_with fail
   refine t.o.mono ?_;rintro e w' ⟨rfl,rfl⟩;go_wp2;go_ret;exact Zjk.same z.o (by omega) zL
  | true=>
  rw[if_neg (by simp)]
  rw[hmn] at t;have ab:=ZZ hmn;clear hmn;by_cases i:n=m
  ·rw[if_pos i]
   have al:(n != m)=false:=by simpa using i
   clear i
   go_enter func61,ntmps61
   go_wp2_with fail
   refine a.o.mono ?_;rintro e w' ⟨rfl,rfl⟩
   go_wp2_with fail
   refine t.o.mono ?_;rintro e w' ⟨rfl,rfl⟩
   go_wp2_with fail
   refine(Zfq _ H.out j.o.2).mono ?_;rintro e W4 ⟨rfl,K,J⟩;go_wp2;go_ret;exact⟨rfl,F,⟨L,K.mono (by omega),l.o.power _,⟨by have:=q.o.files;show d.files.length<=_;omega,by have:=q.o.names;show d.kept.length+d.waits.length<=_;omega,q.o.bytes⟩,j.o.1,Zgr j.o.2⟩,J,fun _ hk=>.inl hk⟩
  rw[if_neg i];have al:(n != m)=true:=by simpa using i
  have D:=ZZ i;clear i
  go_enter func61,ntmps61
  go_wp2_with fail
  refine a.o.mono ?_;rintro e w' ⟨rfl,rfl⟩
  go_wp2_with fail
  refine t.o.mono ?_;rintro e w' ⟨rfl,rfl⟩
  go_wp2_with fail
  refine ah.o.mono ?_;rintro e b ⟨rfl,X,Q⟩;have af:=ZZ X;have x:=ZZ Q;clear X Q
  go_wp2_with fail
  refine(ZwC n m (L.ps f) b).mono ?_;rintro e c ⟨rfl,u⟩;have C:Below b.heap.size b c:=by rw[u];exact(((Below.refl _ _).alloc zL _).alloc (by simp) _).alloc (by simp;omega) _
  have ag:c.heap.size=b.heap.size+1+1+1:=by rw[u];simp
  obtain⟨B,E,A⟩:=Zur b (.cells #[.int .i64 n] 3) (.cells #[.int .i64 m] 3) (.cells #[ptr (L.ps f)] 115);rw[<-u] at B E A;have ai:=ZZ (af.o.more C);have ae:Hid (ChV (Gr F b c) c L.ps (.move n m f) (.func (.func 143) #[] #[ptr (b.heap.size+1+1),ptr (b.heap.size+1),ptr b.heap.size])):=ZZ ⟨_,_,_,rfl,B,E,A,.inr ⟨Nat.le_refl _,by omega⟩,.inr ⟨by omega,by omega⟩,.inr ⟨by omega,by omega⟩⟩
  have M:Hid (Zap F w' c):=ZZ (x.o.trans (G:=fun _=>False) (Zap.ofBelow C) (fun _ _ hf=>hf.elim))
  have U:=ZZ (ZkH c ai.o ae.o l.o ⟨Z.o.1,ab.o,D.o,Z.o.2⟩ Y (by have:=q.o.names;omega))
  clear C ag B E A u
  go_wp2_with fail
  refine U.o.mono ?_;rintro e I ⟨rfl,L3,R,-,-,aa⟩
  have aj:Hid (Zap F w' I):=ZZ (M.o.trans aa (fun k hk hf=>by
   rcases hf with hf | hf
   ·exact hf
   ·have:=x.o.size;omega))
  have ak:=ZZ R;clear R aa U
  go_wp2_with fail
  refine(Zfq I ak.o j.o.2).mono ?_;rintro e W4 ⟨rfl,K,J⟩;go_wp2;go_ret;refine⟨rfl,Gr (Gr F b c) c I,⟨L3,?_,?_,(q.o.waited (.move n m f) _).mono (by omega) zL,j.o.1,Zgr j.o.2⟩,aj.o.trans J (fun k hk hf=>?_),fun k hk=>?_⟩
  ·have hu:=Zuo l.o D.o O.o (ZfK d.power)
   have e1:(ZcL { d with waits:=d.waits++[.move n m f],power:=ZfK d.power }:Int)=(ZcL d:Int)-(Zul d.files (look (Zbk d) m):Int):=by omega
   rw[e1];exact K.mono (by omega)
  ·exact l.o.moved O.o ab.o D.o _
  ·rcases hf with (hf | hf) | hf
   ·exact hf
   ·have:=x.o.size;omega
   ·have:=M.o.size;omega
  ·rcases hk with (hk | hk) | hk
   ·exact .inl hk
   ·have:=x.o.size;exact .inr (by omega)
   ·have:=M.o.size;exact .inr (by omega)
open Go.RowKit Go.ChangeShapes
theorem ZkK:prog.cellsOf 3=1:=by kernel_rfl
theorem Zut:prog.cellsOf 23=1:=by kernel_rfl
theorem ZbF (h:(Lit.int .i64 n).wf=true):I64 n:=by
 simpa[I64,Lit.wf,IntKind.min,IntKind.max,IntKind.signed,IntKind.bits] using h
section
variable {H:Type} {enc:TypeId × Value->H} {w:World} {base fuel:Nat} {held:Bool}
theorem Ztn {cs:List Value} {x:DataW H × List MemPlace} (h:DataW.trod enc prog w base (fun _=>true) held fuel 23 cs=some x):∃ v l,cs=[v]∧RdI w v l:=by
 rcases open_ints underlying23 underlying3 (by kernel_rfl) h with ⟨a,_⟩ | ⟨y,l,c,i,a,_,b,e,f,_,g,d⟩
 ·exact⟨_,[],a,RdI.nil _⟩
 ·exact⟨_,_,a,RdI.ofRow b e (by simpa using f) g d⟩
end
end Go.Proofs.YtnahjngbneicaaaGreatDoor
