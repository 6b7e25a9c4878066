import Derived.Test.YtnahjngbneicaaaGreatDoorPack2
import Derived.Lib.LazyBuf
import Derived.Deep.Slices
namespace Go.Proofs.YtnahjngbneicaaaGreatDoor
open _root_.Go.Proofs.Tryz
open List (foldl_append length_append map_cons map_nil map_toArray)
set_option maxHeartbeats 2000000
set_option maxRecDepth 100000
open Go.RowKit
variable {w w':World} {v v':Value} {l:List UInt8} {t:TypeId} {B N N' T T' b f m p:Nat} {a n u:Int} {cs:Array Value} {F F' G:Nat->Prop} {c:Ch} {d:Dk} {fs:List Fl}
theorem Rd.only (h:Rd w v l) {F:Nat->Prop} (q:Qj F w w') (g:∀ k,v.ownBlock=some k->¬ F k):Rd w' v l:=by
 obtain⟨ao,cap,rfl,m,f,t,d⟩:=h;refine⟨ao,cap,rfl,m,f,t,?_⟩;rcases d with d | ⟨b,c,rfl,n⟩
 ·exact .inl d
 ·refine .inr ⟨b,c,rfl,fun j p=>?_⟩
  have e:=n j p;have i:b<w.heap.size:=World.block_lt_of_cell? w ⟨b,c+j,none⟩ e;rw[World.cell?_of_block (a:=⟨b,c+j,none⟩) (q.block b i (g b rfl))];exact e
theorem Bk.neMap {n:Nat} {f:Int->Option Nat} (h:Bk t w b cs) (a:Xy w m n f):b≠m:=a.apart h
theorem Own.shape (h:Own w B v l):∃ ao cap,v=.slice ao l.length cap:=by
 obtain⟨ao,cap,a,_⟩:=h.rd;exact⟨ao,cap,a⟩
theorem Own.front {ao:Option Addr} {n cap:Nat} (h:Own w B (.slice ao n cap) l) (k:Nat) (p:k<=l.length):Own w B (.slice ao k cap) (l.take k):=by
 obtain⟨v,i⟩:=h;have b:(l.take k).length=k:=by simp;omega
 refine⟨by rw[Yi,Nat.mul_one],?_⟩
 rcases i with ⟨a,x⟩ | ⟨g,q,cur,a,d,f,u,m,j,c⟩
 ·left
  simp only [Value.slice.injEq] at a;obtain⟨rfl,rfl,rfl⟩:=a;have:k=0:=by omega
  subst this;exact⟨rfl,by rw[b]⟩
 ·right
  simp only [Value.slice.injEq] at a;obtain⟨rfl,t,rfl⟩:=a;refine⟨g,cap,cur,by rw[b],d,f,by rw[b];omega,m,j,?_⟩
  rw[Nat.mul_one] at c ⊢;rw[b];have e:Lib.byteCells (l.take k)=(Lib.byteCells l).take k:=by simp[Lib.byteCells]
  rw[e,<-c,List.take_take,Nat.min_eq_left p]
structure ZlZ (w:World) (b:Nat) (v:Value) (x:Fl):Prop where
 box:Bk 117 w b #[v,.int .i64 (x.k:Int)]
 own:Own w 0 v x.b
theorem ZlZ.keep {x:Fl} (h:ZlZ w b v x) (a:w'.heap[b]?=w.heap[b]?) (c:∀ g,v.ownBlock=some g->w'.heap[g]?=w.heap[g]?):ZlZ w' b v x:=
 ⟨h.box.keep a,Qh h.own c⟩
def ChV (F:Nat->Prop) (w:World) (ps:Nat->Nat):Ch->Value->Prop
 | .give n f,v=>∃ b1 b2,v=.func (.func 139) #[] #[ptr b2,ptr b1]∧Bk 3 w b1 #[.int .i64 n]∧Bk 115 w b2 #[ptr (ps f)]∧F b1∧F b2
 | .move n tz f,v=>∃ b1 b2 b3,v=.func (.func 143) #[] #[ptr b3,ptr b2,ptr b1]∧Bk 3 w b1 #[.int .i64 n]∧Bk 3 w b2 #[.int .i64 tz]∧Bk 115 w b3 #[ptr (ps f)]∧F b1∧F b2∧F b3
 | .take n,v=>∃ b1,v=.func (.func 157) #[] #[ptr b1]∧Bk 3 w b1 #[.int .i64 n]∧F b1
def chOf:Ch->Option Nat
 | .give _ f=>some f
 | .move _ _ f=>some f
 | .take _=>none
theorem ChV.keep {ps m:Nat->Nat} (h:ChV F w ps c v) (d:∀ k,F k->F' k) (p:∀ f,chOf c=some f->m f=ps f)
 (e:∀ k cs,F k->(Bk 3 w k cs∨Bk 115 w k cs)->w'.heap[k]?=w.heap[k]?):ChV F' w' m c v:=by
 cases c with
 | give n f=>
  obtain⟨i,l,rfl,a,j,b,g⟩:=h;exact⟨i,l,rfl,a.keep (e _ _ b (.inl a)),by rw[p f rfl];exact j.keep (e _ _ g (.inr j)),d _ b,d _ g⟩
 | move n tz f=>
  obtain⟨i,l,u,rfl,a,j,q,b,g,t⟩:=h;exact⟨i,l,u,rfl,a.keep (e _ _ b (.inl a)),j.keep (e _ _ g (.inl j)),by rw[p f rfl];exact q.keep (e _ _ t (.inr q)),d _ b,d _ g,d _ t⟩
 | take n=>
  obtain⟨i,rfl,a,b⟩:=h;exact⟨i,rfl,a.keep (e _ _ b (.inl a)),d _ b⟩
structure Lay where
 now:Nat
 kept:Nat
 wv:Value
 cs:List Value
 ps:Nat->Nat
 vs:Nat->Value
structure ZnZ (F:Nat->Prop) (w:World) (L:Lay) (d:Dk) (N:Nat):Prop where
 now:Xy w L.now N (fun n=>(look (Q6 d) n).map L.ps)
 kept:Xy w L.kept N (fun n=>(look d.kept n).map L.ps)
 row:w.ownsRow 0 113 1 L.wv L.cs.length L.cs
 many:L.cs.length=d.waits.length
 wait:∀ (i:Nat) c v,d.waits[i]?=some c->L.cs[i]?=some v->ChV F w L.ps c v
 file:∀ i,i<d.files.length->ZlZ w (L.ps i) (L.vs i) (fl d.files i)
 psn:∀ i j,i<d.files.length->j<d.files.length->i≠j->L.ps i≠L.ps j
 vsn:∀ i j,i<d.files.length->j<d.files.length->i≠j->∀ g,(L.vs i).ownBlock=some g->(L.vs j).ownBlock≠some g
 nk:L.now≠L.kept
 fn:F L.now
 fk:F L.kept
 fw:∀ g,L.wv.ownBlock=some g->F g
 fp:∀ i,i<d.files.length->F (L.ps i)
 fv:∀ i,i<d.files.length->∀ g,(L.vs i).ownBlock=some g->F g
def Zfm (L:Lay) (d:Dk) (u:Int):Array Value:=#[.int .i64 d.room,.int .i64 u,.map (some L.now),.map (some L.kept),L.wv,.int .i64 d.power]
structure Q1 (F:Nat->Prop) (w:World) (p:Nat) (L:Lay) (d:Dk) (u:Int) (N:Nat):Prop where
 head:Bk 69 w p (Zfm L d u)
 rest:ZnZ F w L d N
 fh:F p
 lt:∀ k,F k->k<w.heap.size
theorem ZnZ.keep {L:Lay} (h:ZnZ F w L d N) (a:Bk 69 w p cs) (b:∀ k,F k->k≠p->w'.heap[k]?=w.heap[k]?):ZnZ F w' L d N where
 now:=h.now.keep (b _ h.fn (a.neMap h.now).symm)
 kept:=h.kept.keep (b _ h.fk (a.neMap h.kept).symm)
 row:=Qh h.row fun g e=>b g (h.fw g e) (by obtain⟨l,hb⟩:=J3 h.row e;exact hb.ne a (by decide))
 many:=h.many
 wait:=fun i c v n m=>(h.wait i c v n m).keep (fun _ j=>j) (fun _ _=>rfl) (fun k l j hb=>b k j (by rcases hb with hb | hb <;> exact hb.ne a (by decide)))
 file:=fun i f=>(h.file i f).keep (b _ (h.fp i f) ((h.file i f).box.ne a (by decide))) fun g e=>b g (h.fv i f g e) (by obtain⟨l,hb⟩:=J3 (h.file i f).own e;exact hb.ne a (by decide))
 psn:=h.psn
 vsn:=h.vsn
 nk:=h.nk
 fn:=h.fn
 fk:=h.fk
 fw:=h.fw
 fp:=h.fp
 fv:=h.fv
theorem ZnZ.mono {L:Lay} (h:ZnZ F w L d N) (a:N<=N'):ZnZ F w L d N':=
 ⟨h.now.mono a,h.kept.mono a,h.row,h.many,h.wait,h.file,h.psn,h.vsn,h.nk,h.fn,h.fk,h.fw,h.fp,h.fv⟩
theorem Q1.setHead {L:Lay} (h:Q1 F w p L d u N) (j:Nat) (x:Value) {d':Dk} {u':Int} (b:d'.files=d.files∧d'.kept=d.kept∧d'.waits=d.waits)
 (e:(Zfm L d u).setIfInBounds j x=Zfm L d' u'):Q1 F (w.setCell ⟨p,j,none⟩ x) p L d' u' N:=by
 refine⟨by rw[<-e];exact h.head.set j x,?_,h.fh,fun k f=>?_⟩
 ·have a:=h.rest.keep h.head (w':=w.setCell ⟨p,j,none⟩ x) (fun k _ c=>Below.heap_setCell _ _ _ _ c)
  obtain⟨n,fs,kp,v,q⟩:=d;obtain⟨m,y,g,l,i⟩:=d';obtain⟨rfl,rfl,rfl⟩:=b;exact⟨a.now,a.kept,a.row,a.many,a.wait,a.file,a.psn,a.vsn,a.nk,a.fn,a.fk,a.fw,a.fp,a.fv⟩
 ·have:=h.lt k f
  have t:=((Below.refl 0 w).setCell (p:=⟨p,j,none⟩) (Nat.zero_le _) x).size;omega
theorem Q1.keep {L:Lay} (h:Q1 F w p L d u N) (b:∀ k,F k->w'.heap[k]?=w.heap[k]?) (c:w.heap.size<=w'.heap.size):Q1 F w' p L d u N:=
 ⟨h.head.keep (b p h.fh),h.rest.keep h.head (fun k a _=>b k a),h.fh,fun k a=>by have:=h.lt k a;omega⟩
theorem Q1.only {L:Lay} (h:Q1 F w p L d u N) (a:Qj G w w') (c:∀ k,F k->¬ G k):Q1 F w' p L d u N:=
 h.keep (fun k b=>a.block k (h.lt k b) (c k b)) a.size
theorem Q1.cells {L:Lay} (h:Q1 F w p L d u N):
 (w.cell? ⟨p,0,none⟩=some (.int .i64 d.room)∧w.cell? ⟨p,1,none⟩=some (.int .i64 u)∧w.cell? ⟨p,2,none⟩=some (.map (some L.now))∧w.cell? ⟨p,3,none⟩=some (.map (some L.kept))∧w.cell? ⟨p,4,none⟩=some L.wv∧w.cell? ⟨p,5,none⟩=some (.int .i64 d.power))∧
 w.frozen? ⟨p,1,none⟩=false∧w.frozen? ⟨p,3,none⟩=false∧w.frozen? ⟨p,4,none⟩=false∧w.frozen? ⟨p,5,none⟩=false:=
 ⟨⟨(h.head.cell 0 rfl).1,(h.head.cell 1 rfl).1,(h.head.cell 2 rfl).1,(h.head.cell 3 rfl).1,(h.head.cell 4 rfl).1,(h.head.cell 5 rfl).1⟩,(h.head.cell 1 rfl).2,(h.head.cell 3 rfl).2,(h.head.cell 4 rfl).2,(h.head.cell 5 rfl).2⟩
theorem Q1.setFile {L:Lay} (h:Q1 F w p L d u N) (m:f<d.files.length) {v':Value} {x':Fl}
 (I:∀ k,F k->k≠L.ps f->(L.vs f).ownBlock≠some k->w'.heap[k]?=w.heap[k]?)
 (R:ZlZ w' (L.ps f) v' x') (hr:v'.ownBlock=(L.vs f).ownBlock∨∀ g,v'.ownBlock=some g->w.heap.size<=g)
 (q:∀ k,F k->F' k) (S:∀ g,v'.ownBlock=some g->F' g) (T:∀ k,F' k->k<w'.heap.size):
 Q1 F' w' p { L with vs:=fun i=>if i=f then v' else L.vs i } { d with files:=d.files.set f x' } u N:=by
 have a:=h.rest;have K:=(a.file f m).box
 have J:∀ {t:TypeId} {k:Nat} {cs:Array Value},Bk t w k cs->F k->t≠117->t≠5->w'.heap[k]?=w.heap[k]?:=fun {t k cs} hb E H G=>I k E (hb.ne K H) fun b=>by
  obtain⟨C,x⟩:=J3 (a.file f m).own b;exact(hb.ne x G) rfl
 have Q:∀ {k n:Nat} {g:Int->Option Nat},Xy w k n g->F k->w'.heap[k]?=w.heap[k]?:=fun {k n g} hm E=>I k E (K.neMap hm).symm fun b=>by
  obtain⟨C,x⟩:=J3 (a.file f m).own b;exact(x.neMap hm) rfl
 have D:(d.files.set f x').length=d.files.length:=List.length_set ..;refine⟨h.head.keep (J h.head h.fh (by decide) (by decide)),?_,q _ h.fh,T⟩
 refine⟨a.now.keep (Q a.now a.fn),a.kept.keep (Q a.kept a.fk),Qh a.row fun g b=>?_,a.many,fun i c v H G=>?_,fun i l=>?_,fun i j l A=>?_,fun i j l A M=>?_,a.nk,q _ a.fn,q _ a.fk,fun g b=>q g (a.fw g b),fun i l=>q _ (a.fp i (by rw[<-D];exact l)),fun i l=>?_⟩
 ·obtain⟨C,hb⟩:=J3 a.row b
  exact J hb (a.fw g b) (by decide) (by decide)
 ·exact(a.wait i c v H G).keep q (fun _ _=>rfl) fun k C E hb=>by rcases hb with hb | hb <;> exact J hb E (by decide) (by decide)
 ·have y:i<d.files.length:=by rw[<-D];exact l
  show ZlZ w' (L.ps i) (if i=f then v' else L.vs i) (fl (d.files.set f x') i)
  by_cases e:i=f
  ·rw[if_pos e,e,ZbR m]
   exact R
  ·rw[if_neg e,Zab (fun U=>e U.symm)]
   refine(a.file i y).keep (I _ (a.fp i y) (a.psn i f y m e) fun b=>?_) fun g b=>I g (a.fv i y g b) ?_ (fun z=>a.vsn i f y m e g b z)
   ·obtain⟨C,x⟩:=J3 (a.file f m).own b
    exact((a.file i y).box.ne x (by decide)) rfl
   ·obtain⟨C,x⟩:=J3 (a.file i y).own b
    exact x.ne K (by decide)
 ·rw[D] at l A
  exact a.psn i j l A
 ·rw[D] at l A
  have O:∀ i,i<d.files.length->i≠f->∀ g,(L.vs i).ownBlock=some g->v'.ownBlock≠some g:=fun i l V g b z=>by
   rcases hr with hr | hr
   ·exact a.vsn i f l m V g b (by rw[<-hr];exact z)
   ·have H:=hr g z
    have G:=h.lt g (a.fv i l g b);omega
  show ∀ g,(if i=f then v' else L.vs i).ownBlock=some g->(if j=f then v' else L.vs j).ownBlock≠some g
  intro g;by_cases B:i=f
  ·rw[if_pos B,if_neg (by rw[<-B];exact Ne.symm M)]
   exact fun b z=>O j A (by rw[<-B];exact Ne.symm M) g z b
  ·rw[if_neg B]
   by_cases P:j=f
   ·rw[if_pos P]
    exact O i l B g
   ·rw[if_neg P]
    exact a.vsn i j l A M g
 ·rw[D] at l
  show ∀ g,(if i=f then v' else L.vs i).ownBlock=some g->F' g
  intro g;by_cases e:i=f
  ·rw[if_pos e]
   exact S g
  ·rw[if_neg e]
   exact fun b=>q g (a.fv i l g b)
structure Bnd (d:Dk) (N T:Nat):Prop where
 files:d.files.length<=N
 names:d.kept.length+d.waits.length<=N
 bytes:∀ x ∈ d.files,x.b.length<=T
def Dsk (F:Nat->Prop) (w:World) (p:Nat) (d:Dk) (N T:Nat):Prop:=
 ∃ L,Q1 F w p L d (Zj d) N∧OkD d∧Bnd d N T∧I64 d.room∧I64 d.power
theorem Dsk.only (h:Dsk F w p d N T) (b:Qj G w w') (c:∀ k,F k->¬ G k):Dsk F w' p d N T:=by
 obtain⟨L,a,e⟩:=h;exact⟨L,a.only b c,e⟩
theorem Dsk.below (h:Dsk F w p d N T) (a:Below w.heap.size w w'):Dsk F w' p d N T:=
 h.only (G:=fun _=>False) (Qj.ofBelow a) (fun _ _ b=>b)
theorem Zma {L:Lay} (w:World) (h:Q1 F w p L d u N):
 Calls prog 33 #[ptr p] w fun e w'=>e=.returned (.bool (d.power != 0))∧w'=w:=by
 obtain⟨⟨-,-,-,-,-,a⟩,-⟩:=h.cells
 go_enter func33,ntmps33
 go_wp2;go_ret;exact⟨rfl,rfl⟩
theorem Zmb (n:Int) (w:World):
 Calls prog 94 #[.int .i64 n] w fun e w'=>e=.returned (.bool (ZfK n))∧w'=w:=by
 by_cases a:0<=n
 ·by_cases b:n<1048576
  ·have e:ZfK n=true:=by simp[ZfK,a,b]
   rw[e]
   go_enter func94,ntmps94
   go_wp2;go_ret;exact⟨ZdY (by simp),rfl⟩
  ·have e:ZfK n=false:=by simp[ZfK,a,b]
   rw[e]
   go_enter func94,ntmps94
   go_wp2;go_ret;exact⟨ZdY (by simp),rfl⟩
 ·have e:ZfK n=false:=by simp[ZfK,a]
  rw[e]
  go_enter func94,ntmps94
  go_wp2;go_ret;exact⟨rfl,rfl⟩
theorem Zmc (a:Int) (n:Nat) (d:n<=1000000000000000) (w:World):
 Calls prog 72 #[.int .i64 a,.int .i64 (n:Int)] w fun e w'=>e=.returned (.int .i64 (Zx a n:Int))∧w'=w:=by
 obtain⟨M,b⟩:∃ M:Int,M=(n:Int):=⟨_,rfl⟩;by_cases h:a<0
 ·have e:Zx a n=0:=by simp[Zx,h]
  rw[e,<-b];clear b
  go_enter func72,ntmps72
  go_wp2;go_ret;exact⟨rfl,rfl⟩
 ·have c:=Int.emod_nonneg a (show M+1≠0 by omega)
  have e:((Zx a n:Nat):Int)=a % (M+1):=by
   rw[b] at c ⊢;rw[Zx,if_neg h];omega
  rw[e,<-b];have f:0<=M∧M<=1000000000000000:=by omega
  clear e c b d n
  go_enter func72,ntmps72
  go_wp2;go_ret;exact⟨rfl,rfl⟩
theorem Zmd (q n:Int) (w:World):
 Calls prog 71 #[.int .i64 q,.int .i64 n] w fun e w'=>e=.returned (.int .i64 (if q=0 then 0 else max n 0))∧w'=w:=by
 by_cases h:q=0
 ·rw[if_pos h]
  subst h
  go_enter func71,ntmps71
  go_wp2;go_ret;exact⟨rfl,rfl⟩
 ·rw[if_neg h]
  have e:(q == 0)=false:=by simpa using h
  clear h
  go_enter func71,ntmps71
  go_wp2;go_ret;exact⟨rfl,rfl⟩
theorem Zcb {L:Lay} (w:World) (h:Q1 F w p L d u N) (g:I64 d.power):
 Calls prog 97 #[ptr p] w fun e w'=>e=.returned (.int .i64 0)∧Q1 F w' p L { d with power:=Zcv d.power } u N∧Qj F w w':=by
 have H:=ZZ h;obtain⟨⟨-,-,-,-,-,k⟩,-,-,-,l⟩:=h.cells;obtain⟨i,j⟩:=g;obtain⟨q,a⟩:∃ q,q=d.power:=⟨_,rfl⟩;rw[<-a] at k i j ⊢;by_cases c:q>0
 ·have b:Hid (Zcv q=q-1):=if_pos c
  have f:=ZZ a;clear h a
  go_enter func97,ntmps97
  go_wp2;go_ret;refine⟨rfl,?_,(Qj.refl _ _).setCell 5 (fun _=>H.out.fh) _⟩
  refine H.out.setHead 5 _ ⟨rfl,rfl,rfl⟩ ?_;rw[b.o];rfl
 ·have b:Hid (Zcv q=q):=if_neg c
  have f:=ZZ a;clear h a
  go_enter func97,ntmps97
  go_wp2;go_ret;rw[b.o,f.o];exact⟨rfl,H.out,Qj.refl _ _⟩
theorem ZvN (n:Int) (l:I64 n) (w:World) (h:Dsk F w p d N T):
 Calls prog 30 #[ptr p,.int .i64 n] w fun e w'=>e=.returned (.tuple #[])∧Dsk F w' p (Zvn d n) N T∧Qj F w w':=by
 obtain⟨L,h,j,f,g,i⟩:=h;have H:=ZZ h;have a:=ZZ (And.intro j (And.intro f (And.intro g i)));have m:=ZZ l;obtain⟨⟨-,-,-,-,-,u⟩,-,-,-,x⟩:=h.cells;obtain⟨q,c⟩:∃ q,q=d.power:=⟨_,rfl⟩;have v:=ZZ c;rw[<-c] at u;clear h j f g i c l;have k:=ZZ (Zmd q n w);obtain⟨r,b⟩:∃ r,r=(if q=0 then(0:Int) else max n 0):=⟨_,rfl⟩
 rw[<-b] at k;have t:=ZZ b;clear b
 go_enter func30,ntmps30
 go_wp2_with fail
 refine k.o.mono ?_;rintro e w' ⟨rfl,rfl⟩;go_wp2;go_end0;refine⟨rfl,⟨L,?_,OkD.cut a.o.1 n,⟨a.o.2.1.files,a.o.2.1.names,a.o.2.1.bytes⟩,a.o.2.2.1,?_⟩,(Qj.refl _ _).setCell 5 (fun _=>H.out.fh) _⟩
 ·refine H.out.setHead 5 _ ⟨rfl,rfl,rfl⟩ ?_
  rw[t.o,v.o];rfl
 ·obtain⟨z,y⟩:=m.o
  unfold Zvn I64
  dsimp only
  split <;> omega
theorem Zxo (w:World) (room:Int) (G:I64 room):Dsk (fun k=>w.heap.size<=k∧k<(((w.alloc (.map #[] 0)).alloc (.map #[] 0)).alloc (.cells #[.int .i64 room,.int .i64 0,.map (some w.heap.size),.map (some (w.heap.size+1)),.slice none 0 0,.int .i64 (-1)] 69)).heap.size)
 (((w.alloc (.map #[] 0)).alloc (.map #[] 0)).alloc (.cells #[.int .i64 room,.int .i64 0,.map (some w.heap.size),.map (some (w.heap.size+1)),.slice none 0 0,.int .i64 (-1)] 69)) (w.heap.size+1+1) (ZiS room) 0 0:=by
 have m:=Xy.made w;obtain⟨d,z⟩:∃ d,d=w.alloc (.map #[] 0):=⟨_,rfl⟩;have y:d.heap.size=w.heap.size+1:=by rw[z];simp
 rw[<-z] at m ⊢;have f:=Xy.made d;have q:=m.keep (w':=d.alloc (.map #[] 0)) (Below.heap_alloc _ _ _ (by omega))
 obtain⟨a,u⟩:∃ a,a=d.alloc (.map #[] 0):=⟨_,rfl⟩;have l:a.heap.size=w.heap.size+1+1:=by rw[u];simp[y]
 rw[<-u] at f q ⊢;rw[y] at f;obtain⟨A,B⟩:∃ A:Array Value,A=#[.int .i64 room,.int .i64 0,.map (some w.heap.size),.map (some (w.heap.size+1)),.slice none 0 0,.int .i64 (-1)]:=⟨_,rfl⟩;rw[<-B];have n:=f.keep (w':=a.alloc (.cells A 69)) (Below.heap_alloc _ _ _ (by omega))
 have p:=q.keep (w':=a.alloc (.cells A 69)) (Below.heap_alloc _ _ _ (by omega))
 have e:Bk 69 (a.alloc (.cells A 69)) a.heap.size A:=heap_alloc_new a _;rw[l] at e;have F:(a.alloc (.cells A 69)).heap.size=w.heap.size+1+1+1:=by simp[l]
 obtain⟨t,E⟩:∃ t,t=a.alloc (.cells A 69):=⟨_,rfl⟩;rw[<-E] at n p e F ⊢;refine⟨⟨w.heap.size,w.heap.size+1,.slice none 0 0,[],fun _=>0,fun _=>.slice none 0 0⟩,⟨by rw[B] at e;exact e,?_,⟨by omega,by omega⟩,fun k H=>H.2⟩,ZsN room,⟨Nat.le_refl _,Nat.le_refl _,(fun x C=>by cases C)⟩,G,⟨by show(-9223372036854775808:Int)<=-1;omega,by show(-1:Int)<=9223372036854775807;omega⟩⟩
 refine⟨p,n,World.ownsRow_nil _ _ _ _,rfl,(fun i c v h=>by simp[ZiS] at h),(fun i b=>absurd b (Nat.not_lt_zero _)),(fun i j b=>absurd b (Nat.not_lt_zero _)),(fun i j b=>absurd b (Nat.not_lt_zero _)),(by show w.heap.size≠w.heap.size+1;omega),⟨by show w.heap.size<=w.heap.size;omega,by show w.heap.size<_;omega⟩,⟨by show w.heap.size<=w.heap.size+1;omega,by show w.heap.size+1<_;omega⟩,(fun g D=>by cases D),(fun i b=>absurd b (Nat.not_lt_zero _)),(fun i b=>absurd b (Nat.not_lt_zero _))⟩
theorem Zxp (room:Int) (a:I64 room) (w:World):
 Calls prog 9 #[.int .i64 room] w fun e w'=>∃ p,e=.returned (ptr p)∧Dsk (fun k=>w.heap.size<=k∧k<w'.heap.size) w' p (ZiS room) 0 0∧Below w.heap.size w w':=by
 have b:=ZZ a;clear a;have c:=@run_makeMap prog
 go_enter func9,ntmps9
 go_wp2;go_ret;exact⟨_,rfl,Zxo w room b.o,(((Below.refl _ w).alloc zL _).alloc (by simp) _).alloc (by simp;omega) _⟩
theorem ZgB {L:Lay} (n:Int) (t:I64 n) (w:World) (h:Q1 F w p L d u N):
 Calls prog 103 #[ptr p,.int .i64 n] w fun e w'=>e=.returned (.tuple #[ZpU (if d.power=0 then none else(look (Q6 d) n).map L.ps),.int .i64 (if d.power=0 then 11 else if(look (Q6 d) n).isSome then 0 else 8)])∧w'=w:=by
 have a:=ZZ (Zma w h);obtain⟨⟨-,-,v,-,-,-⟩,-⟩:=h.cells;have b:=h.rest.now.look t;obtain⟨q,i⟩:∃ q,q=d.power:=⟨_,rfl⟩;obtain⟨o,j⟩:∃ o,o=look (Q6 d) n:=⟨_,rfl⟩;rw[<-j] at b;rw[<-i] at a;rw[<-i,<-j];clear h i j t;by_cases c:q=0
 ·subst c
  go_enter func103,ntmps103
  go_wp2_with fail
  refine a.o.mono ?_;rintro e w' ⟨rfl,rfl⟩;go_wp2;go_ret2;exact⟨rfl,rfl⟩
 ·rw[if_neg c,if_neg c]
  have m:(q != 0)=true:=by simpa using c
  rw[m] at a;clear c m
  cases o with
  | none=>
   have k:(Instr.lookup 65 (.map (some L.now)) (.int .i64 n) true).run prog w=.ok (.tuple #[.pointer none,.bool false]) w:=b;clear b
   go_enter func103,ntmps103
   go_wp2_with fail
   refine a.o.mono ?_;rintro e w' ⟨rfl,rfl⟩;go_wp2;go_ret2;exact⟨rfl,rfl⟩
  | some f=>
   have k:(Instr.lookup 65 (.map (some L.now)) (.int .i64 n) true).run prog w=.ok (.tuple #[.pointer (some ⟨L.ps f,0,none⟩),.bool true]) w:=b;clear b;obtain⟨x,g⟩:∃ x,x=L.ps f:=⟨_,rfl⟩;have l:ZpU (Option.map L.ps (some f))=.pointer (some ⟨x,0,none⟩):=by rw[g];rfl
   rw[<-g] at k;rw[l];clear g l
   go_enter func103,ntmps103
   go_wp2_with fail
   refine a.o.mono ?_;rintro e w' ⟨rfl,rfl⟩;go_wp2;go_ret2;exact⟨rfl,rfl⟩
def Gr (F:Nat->Prop) (w w':World) (k:Nat):Prop:=F k∨(w.heap.size<=k∧k<w'.heap.size)
theorem Gr.lt (b:w.heap.size<=w'.heap.size) (a:∀ k,F k->k<w.heap.size):∀ k,Gr F w w' k->k<w'.heap.size:=by
 rintro k (h | h)
 ·have:=a k h;omega
 ·exact h.2
theorem ZvO (n:Int) (x:Nat) (w:World):
 Calls prog 96 #[.int .i64 n,ptr x] w fun e w'=>e=.returned (.func (.func 139) #[] #[ptr (w.heap.size+1),ptr w.heap.size])∧w'=(w.alloc (.cells #[.int .i64 n] 3)).alloc (.cells #[ptr x] 115):=by
 have a:∀ (fn:Fn) (first cap:Array Value) (w:World),(Instr.makeFunc fn first cap).run prog w=.ok (.func fn first cap) w:=fun _ _ _ _=>rfl
 go_enter func96,ntmps96
 go_wp2;go_ret;exact⟨rfl,rfl⟩
theorem Ztm (n a:Int) (x:Nat) (w:World):
 Calls prog 105 #[.int .i64 n,.int .i64 a,ptr x] w fun e w'=>e=.returned (.func (.func 143) #[] #[ptr (w.heap.size+1+1),ptr (w.heap.size+1),ptr w.heap.size])∧w'=((w.alloc (.cells #[.int .i64 n] 3)).alloc (.cells #[.int .i64 a] 3)).alloc (.cells #[ptr x] 115):=by
 have b:∀ (fn:Fn) (first cap:Array Value) (w:World),(Instr.makeFunc fn first cap).run prog w=.ok (.func fn first cap) w:=fun _ _ _ _=>rfl
 go_enter func105,ntmps105
 go_wp2;go_ret;exact⟨rfl,rfl⟩
theorem ZvP (n:Int) (w:World):
 Calls prog 110 #[.int .i64 n] w fun e w'=>e=.returned (.func (.func 157) #[] #[ptr w.heap.size])∧w'=w.alloc (.cells #[.int .i64 n] 3):=by
 have a:∀ (fn:Fn) (first cap:Array Value) (w:World),(Instr.makeFunc fn first cap).run prog w=.ok (.func fn first cap) w:=fun _ _ _ _=>rfl
 go_enter func110,ntmps110
 go_wp2;go_ret;exact⟨rfl,rfl⟩
theorem Zcc (h:ZfK n=true):I64 n:=by
 simp only [ZfK,Bool.and_eq_true,decide_eq_true_eq] at h;exact⟨by omega,by omega⟩
def ZkE (w:World) (b N:Nat) (ps:Nat->Nat) (g:Int->Option Nat) (c:Ch) (e:Ending) (w':World):Prop:=
 e=.returned (.tuple #[])∧Xy w' b (N+1) (fun n=>(chF g c n).map ps)∧w.grownBy w' (some b)
theorem ZcG (w:World) {c:Array Oper} {rest:List Oper} {o:Oper} {a:Act} {Q:Exit->Act->World->Prop} (e:o.guard=none) (m x:Operand)
 (t:o.op=.call { callee:=.builtin .delete,args:=#[m,x],argTypes:=#[65,3] })
 (b N:Nat) (f:Int->Option Nat) (p:Int) (g:a.eval m=.map (some b)) (j:a.eval x=.int .i64 p) (i:Xy w b N f) (d:I64 p)
 (h:∀ w',Xy w' b N (fun m=>if m=p then none else f m)->w.grownBy w' (some b)->wpList prog c Q rest (a.put o.dst (.tuple #[])) w'):wpList prog c Q (o::rest) a w:=
 wpList_plain e fun _ l=>by
  obtain⟨w',n,q,k⟩:=i.del d o.type;unfold Oper.wp execOp;simp only [t,resolve,invoke,builtin,Sem.run_bind,Sem.run_pure,Result.andThen_ok,map_toArray,map_cons,map_nil,g,j,n];exact l _ _ (h w' q k)
theorem ZiX (w:World) {c:Array Oper} {rest:List Oper} {o:Oper} {a:Act} {Q:Exit->Act->World->Prop} (d:o.guard=none) (m:Operand)
 (n:o.op=.call { callee:=.builtin .clear,args:=#[m],argTypes:=#[65] })
 (b N:Nat) (f:Int->Option Nat) (e:a.eval m=.map (some b)) (g:Xy w b N f)
 (h:∀ w',Xy w' b 0 (fun _=>none)->w.grownBy w' (some b)->wpList prog c Q rest (a.put o.dst (.tuple #[])) w'):wpList prog c Q (o::rest) a w:=
 wpList_plain d fun _ j=>by
  obtain⟨w',k,l,i⟩:=g.clear o.type;unfold Oper.wp execOp;simp only [n,resolve,invoke,builtin,Sem.run_bind,Sem.run_pure,Result.andThen_ok,map_toArray,map_cons,map_nil,e,k];exact j _ _ (h w' l i)
theorem Zhq {a b c:World} {r:Nat} (h:a.grownBy b (some r)) (k:b.grownBy c (some r)):a.grownBy c (some r):=h.andThen k (fun _ d=>.inr d)
theorem Zme (u:ZfK n=true) {j t b N:Nat} {ps:Nat->Nat} {g:Int->Option Nat} (w:World) (l:Bk 3 w j #[.int .i64 n]) (k:Bk 115 w t #[ptr (ps f)]) (c:Xy w b N (fun n=>(g n).map ps)) (m:N<=10000000):
 Calls prog 139 #[.map (some b),ptr t,ptr j] w fun e w'=>ZkE w b N ps g (.give n f) e w':=by
 obtain⟨z,v,a,d⟩:=c.put (p:=n) (ps f) (Zcc u) m
 have B:Hid (Xy z b (N+1) (fun n'=>(chF g (.give n f) n').map ps)):=ZZ (a.fun fun q _=>by
  show(if q=n then some (ps f) else(g q).map ps)=(if q=n then some f else g q).map ps
  split <;> rfl)
 have A:=ZZ d;obtain⟨C,-⟩:=l.cell 0 rfl;obtain⟨y,-⟩:=k.cell 0 rfl;obtain⟨x,i⟩:∃ x,x=ps f:=⟨_,rfl⟩;rw[<-i] at v y;clear a d c l k i u m
 go_enter func139,ntmps139
 go_wp2;go_end0;exact⟨rfl,B.o,A.o⟩
theorem Zmf (E:ZfK n=true) (u:ZfK a=true) {k D y b N:Nat} {ps:Nat->Nat} {g:Int->Option Nat} (w:World) (d:Bk 3 w k #[.int .i64 n]) (B:Bk 3 w D #[.int .i64 a]) (A:Bk 115 w y #[ptr (ps f)]) (i:Xy w b N (fun n=>(g n).map ps)) (C:N<=10000000):
 Calls prog 143 #[.map (some b),ptr y,ptr D,ptr k] w fun e w'=>ZkE w b N ps g (.move n a f) e w':=by
 obtain⟨H,G,v,j⟩:=i.put (p:=a) (ps f) (Zcc u) C;obtain⟨L,-⟩:=B.cell 0 rfl;obtain⟨J,-⟩:=A.cell 0 rfl;obtain⟨M,-⟩:=(d.keep (j.block k d.lt (by intro e;exact(d.neMap i) (Option.some.inj e)))).cell 0 rfl
 have K:=ZZ v;have F:=ZZ E
 have I:Hid (∀ c,Xy c b (N+1) (fun m=>if m=n then none else if m=a then some (ps f) else(g m).map ps)->H.grownBy c (some b)->ZkE w b N ps g (.move n a f) (.returned (.tuple #[])) c):=ZZ (fun c l t=>by
  refine⟨rfl,l.fun fun q _=>?_,Zhq j t⟩
  show(if q=n then none else if q=a then some (ps f) else(g q).map ps)=(if q=n then none else if q=a then some f else g q).map ps
  split
  ·rfl
  ·split <;> rfl)
 obtain⟨x,z⟩:∃ x,x=ps f:=⟨_,rfl⟩;rw[<-z] at G J;clear v j i d B A z E u C
 go_enter func143,ntmps143
 go_wp2_with(first | (at_delete;refine ZcG _ rfl _ _ rfl b _ _ n rfl rfl K.o (Zcc F.o) ?_;intro c l t))
 go_end0;exact I.o _ l t
theorem Zmg (f:ZfK n=true) {c b N:Nat} {ps:Nat->Nat} {g:Int->Option Nat} (w:World) (d:Bk 3 w c #[.int .i64 n]) (a:Xy w b N (fun n=>(g n).map ps)):
 Calls prog 157 #[.map (some b),ptr c] w fun e w'=>ZkE w b N ps g (.take n) e w':=by
 obtain⟨p,-⟩:=d.cell 0 rfl;have l:=ZZ a;have i:=ZZ f;clear a f d
 go_enter func157,ntmps157
 go_wp2_with(first | (at_delete;refine ZcG _ rfl _ _ rfl b _ _ n rfl rfl l.o (Zcc i.o) ?_;intro m j k))
 go_end0;refine⟨rfl,(j.mono (Nat.le_succ _)).fun fun q _=>?_,k⟩
 show(if q=n then none else(g q).map ps)=(if q=n then none else g q).map ps
 split <;> rfl
theorem Zxq:(prog.info? 113).map (fun i=>(i.zero,i.size,i.bytes))=some (some .nilFunc,1,8):=by kernel_rfl
theorem ZkF (w:World) (ty:TypeId) (v:Value) (cs:List Value) (h:w.ownsRow 0 113 1 v cs.length cs) (fn:Fn) (a b:Array Value) (p:cs.length<=10000000):
 ∃ v' w',(Builtin.append_ #[67,67] ty #[v,.slice (some ⟨w.heap.size,0,none⟩) 1 1]).run prog (w.alloc (.cells #[.func fn a b] 113))=.ok v' w'∧
  w'.ownsRow 0 113 1 v' (cs++[Value.func fn a b]).length (cs++[Value.func fn a b])∧(w.alloc (.cells #[.func fn a b] 113)).grownBy w' v.ownBlock∧(v'.ownBlock=v.ownBlock∨v'.ownBlock=some (w.heap.size+1)):=by
 obtain⟨n,g,l,k,e⟩:=info_parts Zxq
 obtain⟨v',w',i,m,f,_,hl⟩:=run_append_own_at (P:=prog) (w.alloc (.cells #[.func fn a b] 113)) 0 67 ty 113 n .nilFunc 1 8 underlying67 g l k e rfl (by decide) v cs.length cs (World.ownsRow.alloc h _)
  ⟨w.heap.size,0,none⟩ 1 1 [.func fn a b] rfl (fun j u c=>by
   match j,c with
   | 0,c=>simp at c;subst c;simp[Addr.add]) (fun u d=>by simp at d;subst d;rfl) (by unfold maxLen;omega) (by omega) (Nat.zero_le _)
 refine⟨v',w',i,?_,f,?_⟩
 ·rw[length_append]
  exact m
 ·rcases hl with hl | hl
  ·exact .inl hl
  ·exact .inr (by rw[hl];simp)
theorem ZaB (w:World) {d:Array Oper} {rest:List Oper} {o:Oper} {a:Act} {Q:Exit->Act->World->Prop} (e:o.guard=none) (s x:Operand)
 (n:o.op=.call { callee:=.builtin .append,args:=#[s,x],argTypes:=#[67,67] })
 (v:Value) (cs:List Value) (m:a.eval s=v) (h:w.ownsRow 0 113 1 v cs.length cs) (fn:Fn) (b c:Array Value) (f:a.eval x=.slice (some ⟨w.heap.size,0,none⟩) 1 1) (q:cs.length<=10000000)
 (i:∀ v' w',w'.ownsRow 0 113 1 v' (cs++[Value.func fn b c]).length (cs++[Value.func fn b c])->(w.alloc (.cells #[.func fn b c] 113)).grownBy w' v.ownBlock->(v'.ownBlock=v.ownBlock∨v'.ownBlock=some (w.heap.size+1))->
  wpList prog d Q rest (a.put o.dst v') w'):wpList prog d Q (o::rest) a (w.alloc (.cells #[.func fn b c] 113)):=
 wpList_plain e fun _ p=>by
  obtain⟨v',w',j,l,g,k⟩:=ZkF w o.type v cs h fn b c q;unfold Oper.wp execOp;simp only [n,resolve,invoke,builtin,Sem.run_bind,Sem.run_pure,Result.andThen_ok,map_toArray,map_cons,map_nil,m,f,j];exact p _ _ (i v' w' l g k)
theorem Zmh (h:ZsI m c):∀ n a f,c=.move n a f->n≠a:=by
 rintro n a f rfl;exact h.2.2.1
theorem Ztn (d:Dk) (c:Ch):Q6 { d with waits:=d.waits++[c] }=chD (Q6 d) c:=by
 show(d.waits++[c]).foldl chD d.kept=_;rw[foldl_append];rfl
theorem Q1.addWait {q f:World} {L:Lay} {fn:Fn} {x y:Array Value} (h:Q1 F w p L d u N) (Z:ChV F w L.ps c (.func fn x y)) (aa:OkD d) (X:ZsI d.files.length c)
 (H:w.grownBy q (some L.now)) (z:Xy q L.now (N+1) (fun n=>(chF (look (Q6 d)) c n).map L.ps))
 (J:f.ownsRow 0 113 1 v' (L.cs++[Value.func fn x y]).length (L.cs++[Value.func fn x y])) (E:(q.alloc (.cells #[.func fn x y] 113)).grownBy f L.wv.ownBlock) (hv:v'.ownBlock=L.wv.ownBlock∨v'.ownBlock=some (q.heap.size+1)):
 Q1 (Gr F w f) (f.setCell ⟨p,4,none⟩ v') p { L with wv:=v',cs:=L.cs++[Value.func fn x y] } { d with waits:=d.waits++[c] } u (N+1)∧Qj F w (f.setCell ⟨p,4,none⟩ v'):=by
 have a:=h.rest;have ac:=H.size;have ab:q.heap.size+1<=f.heap.size:=by have:=E.size;simpa using this
 have W:(f.setCell ⟨p,4,none⟩ v').heap.size=f.heap.size:=by simp
 have M:∀ k,F k->k≠L.now->L.wv.ownBlock≠some k->f.heap[k]?=w.heap[k]?:=fun k l G I=>by
  have B:=h.lt k l;rw[E.block k (by simp;omega) (fun e=>I e.symm),Below.heap_alloc _ _ _ (by omega),H.block k B (fun e=>G (Option.some.inj e))]
 have D:∀ k,F k->k≠L.now->L.wv.ownBlock≠some k->k≠p->(f.setCell ⟨p,4,none⟩ v').heap[k]?=w.heap[k]?:=fun k l G I T=>by
  rw[Below.heap_setCell _ _ _ _ T,M k l G I]
 have P:∀ {t:TypeId} {k:Nat} {cs:Array Value},Bk t w k cs->t≠113->L.wv.ownBlock≠some k:=fun hb ht j=>by
  obtain⟨C,A⟩:=J3 a.row j;exact(hb.ne A ht) rfl
 have S:∀ {k n:Nat} {g:Int->Option Nat},Xy w k n g->L.wv.ownBlock≠some k:=fun z j=>by
  obtain⟨C,A⟩:=J3 a.row j;exact(A.neMap z) rfl
 have K:∀ {t:TypeId} {k:Nat} {cs:Array Value},Bk t w k cs->F k->t≠113->t≠69->(f.setCell ⟨p,4,none⟩ v').heap[k]?=w.heap[k]?:=fun hb l h1 h2=>
  D _ l (hb.neMap a.now) (P hb h1) (hb.ne h.head h2)
 have O:L.now≠p:=(h.head.neMap a.now).symm;have Q:Bk 69 f p (Zfm L d u):=h.head.keep (M p h.fh O.symm (P h.head (by decide)))
 have Y:∀ g,v'.ownBlock=some g->Gr F w f g:=fun g j=>by
  rcases hv with hv | hv
  ·exact .inl (a.fw g (by rw[<-hv];exact j))
  ·rw[hv] at j
   obtain rfl:=Option.some.inj j;exact .inr ⟨by omega,by have:=(World.ownsRow.lt J _ hv).2;omega⟩
 refine⟨⟨Q.set 4 v',?_,.inl h.fh,fun k D=>?_⟩,?_⟩
 ·refine⟨?_,?_,?_,?_,?_,?_,a.psn,a.vsn,a.nk,.inl a.fn,.inl a.fk,Y,fun i b=>.inl (a.fp i b),fun i b g j=>.inl (a.fv i b g j)⟩
  ·have e:∀ n,(look (Q6 { d with waits:=d.waits++[c] }) n).map L.ps=(chF (look (Q6 d)) c n).map L.ps:=fun n=>by rw[Ztn,ZcX aa.dir.rise c (Zmh X)]
   refine(z.keep (w':=f.setCell ⟨p,4,none⟩ v') ?_).fun fun n _=>(e n).symm
   rw[Below.heap_setCell _ _ _ _ O,E.block L.now (by simp;have:=z.lt;omega) (fun e=>S a.now e.symm),Below.heap_alloc _ _ _ z.lt]
  ·exact(a.kept.mono (Nat.le_succ N)).keep (D _ a.fk (Ne.symm a.nk) (S a.kept) (h.head.neMap a.kept).symm)
  ·exact Qh J fun g j=>Below.heap_setCell _ _ _ _ (by
    obtain⟨C,A⟩:=J3 J j
    exact A.ne Q (by decide))
  ·rw[length_append,length_append,a.many]
   rfl
  ·intro i c' v b m
   have R:∀ c v,ChV F w L.ps c v->ChV (Gr F w f) (f.setCell ⟨p,4,none⟩ v') L.ps c v:=fun c v U=>U.keep (fun _ l=>.inl l) (fun _ _=>rfl) fun k C l hb=>by
    rcases hb with hb | hb <;> exact K hb l (by decide) (by decide)
   rw[List.getElem?_append] at b m;rw[a.many] at m;by_cases B:i<d.waits.length
   ·rw[if_pos B] at b m
    exact R _ _ (a.wait i c' v b m)
   ·rw[if_neg B] at b m
    have e0:i-d.waits.length=0:=by
     have:=(List.getElem?_eq_some_iff.1 b).1;simp at this;omega
    rw[e0] at b m;simp only [List.getElem?_cons_zero,Option.some.injEq] at b m;rw[<-b,<-m];exact R _ _ Z
  ·intro i b
   refine(a.file i b).keep (K (a.file i b).box (a.fp i b) (by decide) (by decide)) fun g j=>?_
   obtain⟨C,hb⟩:=J3 (a.file i b).own j;exact K hb (a.fv i b g j) (by decide) (by decide)
 ·rw[W]
  exact Gr.lt (by omega) h.lt k D
 ·have V:Qj F w q:=Qj.ofGrown H fun k e _=>by obtain rfl:=Option.some.inj e;exact a.fn
  have o2:Qj F (q.alloc (.cells #[.func fn x y] 113)) f:=Qj.ofGrown E fun k e _=>a.fw k e
  exact((V.alloc _).trans o2 (fun _ _ l=>l)).setCell 4 (fun _=>h.fh) v'
theorem Zer {base n s:Nat} {xs:List Value} (h:w.ownsRow base t s v n xs):∃ ao m b,v=.slice ao m b:=by
 rcases h.2 with ⟨a,_⟩ | ⟨g,cap,cur,a,_⟩
 ·exact⟨_,_,_,a⟩
 ·exact⟨_,_,_,a⟩
theorem Zto (F:Nat->Prop) (w b:World) (a:Addr) (v:Value):Gr F w (b.setCell a v)=Gr F w b:=by
 funext k
 simp[Gr]
def Zxr (F:Nat->Prop) (w:World) (p:Nat) (L:Lay) (d:Dk) (u:Int) (N:Nat) (c:Ch) (e:Ending) (w':World):Prop:=
 e=.returned (.tuple #[])∧∃ L',Q1 (Gr F w w') w' p L' { d with waits:=d.waits++[c] } u (N+1)∧L'.ps=L.ps∧L'.vs=L.vs∧Qj F w w'
theorem Zhr {L:Lay} {cv:Value} (w:World) (h:Q1 F w p L d u N) (hc:ChV F w L.ps c cv) (ae:OkD d) (ad:ZsI d.files.length c) (hN:N<=1000000) (hW:d.waits.length<=1000000):
 Calls prog 95 #[ptr p,cv] w fun e w'=>Zxr F w p L d u N c e w':=by
 have H:=ZZ h;have ab:=ZZ ae;have G:=ZZ ad;obtain⟨⟨-,-,c2,-,-,-⟩,-⟩:=h.cells;have q:Hid (L.now≠p):=ZZ (h.head.neMap h.rest.now).symm
 have aa:Hid (∀ g,L.wv.ownBlock=some g->g≠L.now):=ZZ (fun g l=>by
  obtain⟨ac,I⟩:=J3 h.rest.row l
  exact I.neMap h.rest.now)
 clear h ae ad
 cases c with
 | give n f=>
  obtain⟨z,W,rfl,D,T,U,Z⟩:=hc;have S:Hid (ChV F w L.ps (.give n f) (.func (.func 139) #[] #[ptr W,ptr z])):=ZZ ⟨z,W,rfl,D,T,U,Z⟩;have M:=ZZ (Zme (f:=f) G.o.1 w D T H.out.rest.now (by omega))
  go_enter func95,ntmps95
  go_wp2_with fail
  refine M.o.mono ?_;rintro e j ⟨rfl,t,a⟩;have J:=ZZ t;have b:=ZZ a;have A:=H.out.head.keep (a.block p H.out.head.lt (fun e=>q.o (Option.some.inj e).symm))
  obtain⟨P,R⟩:=A.cell 4 rfl;have y:Hid (j.ownsRow 0 113 1 L.wv L.cs.length L.cs):=ZZ (Qh H.out.rest.row fun g l=>a.block g (World.ownsRow.lt H.out.rest.row g l).2 (fun e=>aa.o g l (Option.some.inj e)))
  clear t a A;have v:Hid (p<j.heap.size):=ZZ (Nat.lt_of_lt_of_le H.out.head.lt b.o.size)
  go_wp2_with(at_builtin;refine(fun(h:True->_)=>h trivial) ?_)
  intro _;refine ZaB j rfl _ _ rfl L.wv L.cs rfl y.o _ _ _ rfl (by have:=H.out.rest.many;omega) ?_
  intro v' C i k B;have O:=ZZ i;have V:=ZZ k;have Q:=ZZ B
  have E:Bk 69 C p (Zfm L d u):=(H.out.head.keep (b.o.block p H.out.head.lt (fun e=>q.o (Option.some.inj e).symm))).keep ((k.block p (by simp;have:=v.o;omega) (fun e=>by
   obtain⟨ac,I⟩:=J3 y.o e.symm
   exact(I.ne (H.out.head.keep (b.o.block p H.out.head.lt (fun e=>q.o (Option.some.inj e).symm))) (by decide)) rfl)).trans (Below.heap_alloc _ _ _ v.o))
  obtain⟨d4,g4⟩:=E.cell 4 rfl;obtain⟨ao,Y,K,rfl⟩:=Zer i;clear i k B E P R;go_wp2;go_end0;obtain⟨x,X⟩:=H.out.addWait S.o ab.o G.o b.o J.o O.o V.o Q.o;rw[<-Zto F w C ⟨p,4,none⟩ (.slice ao Y K)] at x;exact⟨rfl,_,x,rfl,rfl,X⟩
 | move n m f=>
  obtain⟨z,W,b3,rfl,D,T,h3,U,Z,f3⟩:=hc;have S:Hid (ChV F w L.ps (.move n m f) (.func (.func 143) #[] #[ptr b3,ptr W,ptr z])):=ZZ ⟨z,W,b3,rfl,D,T,h3,U,Z,f3⟩;have M:=ZZ (Zmf (f:=f) G.o.1 G.o.2.1 w D T h3 H.out.rest.now (by omega))
  go_enter func95,ntmps95
  go_wp2_with fail
  refine M.o.mono ?_;rintro e j ⟨rfl,t,a⟩;have J:=ZZ t;have b:=ZZ a;have A:=H.out.head.keep (a.block p H.out.head.lt (fun e=>q.o (Option.some.inj e).symm))
  obtain⟨P,R⟩:=A.cell 4 rfl;have y:Hid (j.ownsRow 0 113 1 L.wv L.cs.length L.cs):=ZZ (Qh H.out.rest.row fun g l=>a.block g (World.ownsRow.lt H.out.rest.row g l).2 (fun e=>aa.o g l (Option.some.inj e)))
  clear t a A;have v:Hid (p<j.heap.size):=ZZ (Nat.lt_of_lt_of_le H.out.head.lt b.o.size)
  go_wp2_with(at_builtin;refine(fun(h:True->_)=>h trivial) ?_)
  intro _;refine ZaB j rfl _ _ rfl L.wv L.cs rfl y.o _ _ _ rfl (by have:=H.out.rest.many;omega) ?_
  intro v' C i k B;have O:=ZZ i;have V:=ZZ k;have Q:=ZZ B
  have E:Bk 69 C p (Zfm L d u):=(H.out.head.keep (b.o.block p H.out.head.lt (fun e=>q.o (Option.some.inj e).symm))).keep ((k.block p (by simp;have:=v.o;omega) (fun e=>by
   obtain⟨ac,I⟩:=J3 y.o e.symm
   exact(I.ne (H.out.head.keep (b.o.block p H.out.head.lt (fun e=>q.o (Option.some.inj e).symm))) (by decide)) rfl)).trans (Below.heap_alloc _ _ _ v.o))
  obtain⟨d4,g4⟩:=E.cell 4 rfl;obtain⟨ao,Y,K,rfl⟩:=Zer i;clear i k B E P R;go_wp2;go_end0;obtain⟨x,X⟩:=H.out.addWait S.o ab.o G.o b.o J.o O.o V.o Q.o;rw[<-Zto F w C ⟨p,4,none⟩ (.slice ao Y K)] at x;exact⟨rfl,_,x,rfl,rfl,X⟩
 | take n=>
  obtain⟨z,rfl,D,U⟩:=hc;have S:Hid (ChV F w L.ps (.take n) (.func (.func 157) #[] #[ptr z])):=ZZ ⟨z,rfl,D,U⟩;have M:=ZZ (Zmg G.o w D H.out.rest.now)
  go_enter func95,ntmps95
  go_wp2_with fail
  refine M.o.mono ?_;rintro e j ⟨rfl,t,a⟩;have J:=ZZ t;have b:=ZZ a;have A:=H.out.head.keep (a.block p H.out.head.lt (fun e=>q.o (Option.some.inj e).symm))
  obtain⟨P,R⟩:=A.cell 4 rfl;have y:Hid (j.ownsRow 0 113 1 L.wv L.cs.length L.cs):=ZZ (Qh H.out.rest.row fun g l=>a.block g (World.ownsRow.lt H.out.rest.row g l).2 (fun e=>aa.o g l (Option.some.inj e)))
  clear t a A;have v:Hid (p<j.heap.size):=ZZ (Nat.lt_of_lt_of_le H.out.head.lt b.o.size)
  go_wp2_with(at_builtin;refine(fun(h:True->_)=>h trivial) ?_)
  intro _;refine ZaB j rfl _ _ rfl L.wv L.cs rfl y.o _ _ _ rfl (by have:=H.out.rest.many;omega) ?_
  intro v' C i k B;have O:=ZZ i;have V:=ZZ k;have Q:=ZZ B
  have E:Bk 69 C p (Zfm L d u):=(H.out.head.keep (b.o.block p H.out.head.lt (fun e=>q.o (Option.some.inj e).symm))).keep ((k.block p (by simp;have:=v.o;omega) (fun e=>by
   obtain⟨ac,I⟩:=J3 y.o e.symm
   exact(I.ne (H.out.head.keep (b.o.block p H.out.head.lt (fun e=>q.o (Option.some.inj e).symm))) (by decide)) rfl)).trans (Below.heap_alloc _ _ _ v.o))
  obtain⟨d4,g4⟩:=E.cell 4 rfl;obtain⟨ao,Y,K,rfl⟩:=Zer i;clear i k B E P R;go_wp2;go_end0;obtain⟨x,X⟩:=H.out.addWait S.o ab.o G.o b.o J.o O.o V.o Q.o;rw[<-Zto F w C ⟨p,4,none⟩ (.slice ao Y K)] at x;exact⟨rfl,_,x,rfl,rfl,X⟩
def ZqV (fs:List Fl):Option Nat->Nat
 | some f=>(fl fs f).b.length
 | none=>0
theorem Zai (fs:List Fl) (p:Int × Nat) (l:Dir):Y1 fs (p::l)=(fl fs p.2).b.length+Y1 fs l:=by simp[Y1]
theorem ZgC (fs:List Fl):Y1 fs []=0:=rfl
theorem ZdJ (fs:List Fl) (a b:Dir):Y1 fs (a++b)=Y1 fs a+Y1 fs b:=by simp[Y1]
theorem Zhs (fs:List Fl) (n:Int) (f:Nat):∀ (l:Dir) (done:Bool),Y1 fs (ZiR n f done l)=Y1 fs (l.filter fun p=>decide (p.1≠n))+(if done then 0 else(fl fs f).b.length)
 | [],done=>by cases done <;> simp[ZiR,Y1]
 | q::l,done=>by
  have d:=Zhs fs n f l (done || decide (q.1>n));rw[ZiR,ZdJ,ZdJ,d,List.filter_cons];by_cases c:q.1>n
  ·have a:q.1≠n:=by omega
   cases done <;> simp[c,a,Zai,ZgC] <;> omega
  ·by_cases a:q.1=n
   ·cases done <;> simp[a,ZgC]
   ·cases done <;> simp[c,a,Zai,ZgC] <;> omega
theorem Zht (fs:List Fl) (n:Int):∀ l:Dir,Y5 l->Y1 fs (l.filter fun p=>decide (p.1≠n))+ZqV fs (look l n)=Y1 fs l
 | [],_=>rfl
 | q::l,h=>by
  unfold Y5 at h;rw[List.pairwise_cons] at h;rw[List.filter_cons,look];by_cases e:q.1=n
  ·have c:∀ p ∈ l,p.1≠n:=fun p a=>by have:=h.1 p a;omega
   rw[if_pos e,if_neg (by simp[e]),Zai,List.filter_eq_self.2 (fun p a=>by simpa using c p a)]
   show _+(fl fs q.2).b.length=_;omega
  ·rw[if_neg e,if_pos (by simp[e]),Zai,Zai]
   have:=Zht fs n l h.2;omega
theorem Zes (fs:List Fl) {l:Dir} (h:Y5 l) (n:Int) (o:Option Nat):Y1 fs (ZfH l n o)+ZqV fs (look l n)=Y1 fs l+ZqV fs o:=by
 have a:=Zht fs n l h
 cases o with
 | none=>rw[ZfH,Zhs];show _=_+0;simp only [if_true];omega
 | some f=>rw[ZfH,Zhs];simp only [Bool.false_eq_true,if_false];show _=_+(fl fs f).b.length;omega
theorem Zmi (h:f<fs.length) (x:Fl):fl (fs++[x]) f=fl fs f:=by
 unfold fl;simp[List.getD,List.getElem?_append,h]
theorem Zoa (fs:List Fl) (x:Fl):fl (fs++[x]) fs.length=x:=by
 unfold fl;simp[List.getD]
theorem ZkG {a:List Fl} {l:Dir} (h:∀ p ∈ l,(fl a p.2).b.length=(fl fs p.2).b.length):Y1 a l=Y1 fs l:=by
 unfold Y1;rw[List.map_congr_left h]
theorem Ztp {l:Dir} (h:∀ p ∈ l,p.2<fs.length) (x:Fl):Y1 (fs++[x]) l=Y1 fs l:=
 ZkG fun p a=>by rw[Zmi (h p a)]
theorem ZkH (a:f<fs.length) (x:Fl):∀ {l:Dir},ZbC l->(∃ n,(n,f) ∈ l)->Y1 (fs.set f x) l+(fl fs f).b.length=Y1 fs l+x.b.length
 | [],_,⟨_,h⟩=>by cases h
 | q::l,ha,⟨n,h⟩=>by
  unfold ZbC at ha;rw[List.pairwise_cons] at ha;rw[Zai,Zai];by_cases e:q.2=f
  ·have g:Y1 (fs.set f x) l=Y1 fs l:=ZkG fun p c=>by rw[Zab (by rw[<-e];exact ha.1 p c)]
   rw[e,g,ZbR a];omega
  ·rw[Zab (fun d=>e d.symm)]
   rcases List.mem_cons.1 h with h | h
   ·exact absurd (by rw[<-h]) e
   ·have:=ZkH a x (l:=l) ha.2 ⟨n,h⟩
    omega
theorem ZqW (h:OkD d) {n:Int} {f:Nat} (e:look (Q6 d) n=some f) (b:List UInt8):Zj (appendTo d f b)=Zj d+b.length:=by
 have a:=(Je h.dir.rise n f).1 e;have:=ZkH (h.dir.may _ a).2 ⟨(fl d.files f).b++b,(fl d.files f).k⟩ h.dir.apart ⟨n,a⟩;simp only [length_append] at this;show Y1 (ZbD d.files f b) (Q6 d)=Y1 d.files (Q6 d)+b.length;unfold ZbD;omega
theorem ZqX (h:OkD d) {n:Int} {f:Nat} (e:look (Q6 d) n=some f) (q:Int):Zj { d with files:=Zeb d.files f,power:=q }=Zj d:=by
 have a:=(Je h.dir.rise n f).1 e;have:=ZkH (h.dir.may _ a).2 ⟨(fl d.files f).b,(fl d.files f).b.length⟩ h.dir.apart ⟨n,a⟩;show Y1 (Zeb d.files f) (Q6 d)=Y1 d.files (Q6 d);unfold Zeb
 dsimp only at this
 omega
theorem Zob (h:OkD d) {n:Int} (e:look (Q6 d) n=none):Zj (Zk d n)=Zj d:=by
 have a:=Zes (d.files++[⟨[],0⟩]) h.dir.rise n (some d.files.length);have f:Y1 (d.files++[⟨[],0⟩]) (Q6 d)=Y1 d.files (Q6 d):=Ztp (fun p c=>(h.dir.may p c).2) _
 have g:ZqV (d.files++[⟨[],0⟩]) (some d.files.length)=0:=by show(fl _ _).b.length=0;rw[Zoa];rfl
 rw[e,f,g] at a;unfold Zj;rw[Zjw,chD];show Y1 (d.files++[⟨[],0⟩]) (ZfH (Q6 d) n (some d.files.length))=_;simpa[ZqV] using a
theorem ZqY (h:OkD d) {n m:Int} {f:Nat} (g:n≠m) (e:look (Q6 d) n=some f) (q:Int):Zj { d with waits:=d.waits++[.move n m f],power:=q }+ZqV d.files (look (Q6 d) m)=Zj d:=by
 have a:=Zes d.files h.dir.rise n none;have b:=Zes d.files (Jv h.dir.rise n none) m (some f);rw[Zcx h.dir.rise,if_neg (fun e=>g e.symm)] at b
 rw[e] at a
 have c:Zj { d with waits:=d.waits++[.move n m f],power:=q }=Y1 d.files (ZfH (ZfH (Q6 d) n none) m (some f)):=by
  show Y1 d.files ((d.waits++[Ch.move n m f]).foldl chD d.kept)=_;rw[foldl_append];rfl
 rw[c];show _=Y1 d.files (Q6 d);simp only [ZqV] at a b ⊢;omega
theorem ZqZ (h:OkD d) {n:Int} {f:Nat} (e:look (Q6 d) n=some f) (q:Int):Zj { d with waits:=d.waits++[.take n],power:=q }+(fl d.files f).b.length=Zj d:=by
 have a:=Zes d.files h.dir.rise n none;rw[e] at a
 have c:Zj { d with waits:=d.waits++[.take n],power:=q }=Y1 d.files (ZfH (Q6 d) n none):=by
  show Y1 d.files ((d.waits++[Ch.take n]).foldl chD d.kept)=_;rw[foldl_append];rfl
 rw[c];show _=Y1 d.files (Q6 d);simp only [ZqV] at a;omega
theorem Zoc (h:∀ x ∈ fs,x.b.length<=T):∀ l:Dir,(∀ p ∈ l,p.2<fs.length)->Y1 fs l<=l.length*T
 | [],_=>Nat.zero_le _
 | p::l,hl=>by
  have d:=Zoc h l fun q a=>hl q (List.mem_cons_of_mem _ a)
  have c:=h _ (ZbE (hl p (List.mem_cons_self ..)));rw[Zai,List.length_cons,Nat.add_mul];omega
theorem ZfT (l:List Ch):∀ k:Dir,(l.foldl chD k).length<=k.length+l.length:=by
 induction l with
 | nil=>intro k;exact Nat.le_refl _
 | cons c l a=>
  intro k;have b:=a (chD k c);have d:=ZqA k c;rw[List.foldl_cons,List.length_cons];omega
theorem ZvQ (h:OkD d) {N T:Nat} (e:d.kept.length+d.waits.length<=N) (c:∀ x ∈ d.files,x.b.length<=T):Zj d<=N*T:=by
 have i:=Zoc c (Q6 d) fun p a=>(h.dir.may p a).2
 have g:=ZfT d.waits d.kept;have f:(Q6 d).length*T<=N*T:=Nat.mul_le_mul_right T (by unfold Q6;omega)
 unfold Zj;omega
theorem Zbn (d:Dk) (k:Nat):(Zy d k).length<=d.kept.length+d.waits.length:=by
 have h:=ZfT (d.waits.take k) d.kept;have a:(d.waits.take k).length<=d.waits.length:=by rw[List.length_take];omega
 unfold Zy;omega
theorem Q1.widen {L:Lay} (h:Q1 F w p L d u N) (a:∀ k,F k->F' k) (f:∀ k,F' k->k<w.heap.size):Q1 F' w p L d u N:=
 ⟨h.head,⟨h.rest.now,h.rest.kept,h.rest.row,h.rest.many,fun i c v l j=>(h.rest.wait i c v l j).keep a (fun _ _=>rfl) (fun _ _ _ _=>rfl),h.rest.file,h.rest.psn,h.rest.vsn,h.rest.nk,a _ h.rest.fn,a _ h.rest.fk,fun g b=>a g (h.rest.fw g b),fun i e=>a _ (h.rest.fp i e),fun i e g b=>a g (h.rest.fv i e g b)⟩,a _ h.fh,f⟩
theorem Q1.more {L:Lay} (h:Q1 F w p L d u N) (a:Below w.heap.size w w'):Q1 (Gr F w w') w' p L d u N:=
 (h.keep (fun k b=>a.block k (h.lt k b)) a.size).widen (fun _ b=>.inl b) (Gr.lt a.size h.lt)
theorem Zxs (h:ZsI m c) {f:Nat} (e:chOf c=some f):f<m:=by
 cases c with
 | give n g=>obtain rfl:=Option.some.inj e;exact h.2
 | move n g x=>obtain rfl:=Option.some.inj e;exact h.2.2.2
 | take n=>cases e
theorem Q1.addFile {L:Lay} (h:Q1 F w p L d u N) (z:OkD d):
 Q1 (Gr F w (w.alloc (.cells #[.slice none 0 0,.int .i64 0] 117))) (w.alloc (.cells #[.slice none 0 0,.int .i64 0] 117)) p { L with ps:=fun i=>if i=d.files.length then w.heap.size else L.ps i,vs:=fun i=>if i=d.files.length then .slice none 0 0 else L.vs i } { d with files:=d.files++[⟨[],0⟩] } u N:=by
 have D:Below w.heap.size w (w.alloc (.cells #[.slice none 0 0,.int .i64 0] 117)):=(Below.refl _ w).alloc zL _;have C:Bk 117 (w.alloc (.cells #[.slice none 0 0,.int .i64 0] 117)) w.heap.size #[.slice none 0 0,.int .i64 0]:=heap_alloc_new w _;have J:(w.alloc (.cells #[.slice none 0 0,.int .i64 0] 117)).heap.size=w.heap.size+1:=by simp
 obtain⟨W,I⟩:∃ W,W=w.alloc (.cells #[.slice none 0 0,.int .i64 0] 117):=⟨_,rfl⟩;rw[<-I] at D C J ⊢;have q:=h.more D;have b:=q.rest;have K:(d.files++[(⟨[],0⟩:Fl)]).length=d.files.length+1:=by simp
 refine⟨q.head,⟨?_,?_,b.row,b.many,?_,?_,?_,?_,b.nk,b.fn,b.fk,b.fw,?_,?_⟩,q.fh,q.lt⟩
 ·refine b.now.fun fun n _=>?_
  show(look (Q6 d) n).map L.ps=(look (Q6 d) n).map _
  cases e:look (Q6 d) n with
  | none=>rfl
  | some f=>
   have:=(z.dir.mayOf e).2;show some (L.ps f)=some (if f=d.files.length then w.heap.size else L.ps f)
   rw[if_neg (by omega)]
 ·refine b.kept.fun fun n _=>?_
  show(look d.kept n).map L.ps=(look d.kept n).map _
  cases e:look d.kept n with
  | none=>rfl
  | some f=>
   have:=(z.kept.mayOf e).2;show some (L.ps f)=some (if f=d.files.length then w.heap.size else L.ps f)
   rw[if_neg (by omega)]
 ·intro i c v a H
  refine(b.wait i c v a H).keep (fun _ t=>t) (fun f t=>?_) (fun _ _ _ _=>rfl)
  have:=Zxs (z.chs c (List.mem_of_getElem? a)) t;show(if f=d.files.length then w.heap.size else L.ps f)=L.ps f
  rw[if_neg (by omega)]
 ·intro i a
  show ZlZ W (if i=d.files.length then w.heap.size else L.ps i) (if i=d.files.length then .slice none 0 0 else L.vs i) (fl (d.files++[⟨[],0⟩]) i)
  by_cases e:i=d.files.length
  ·rw[if_pos e,if_pos e,e,Zoa]
   exact⟨C,World.ownsRow_nil _ _ _ _⟩
  ·have E:i<d.files.length:=by have:i<(d.files++[(⟨[],0⟩:Fl)]).length:=a;omega
   rw[if_neg e,if_neg e,Zmi E];exact b.file i E
 ·intro i j a y A
  have x:i<(d.files++[(⟨[],0⟩:Fl)]).length:=a;have G:j<(d.files++[(⟨[],0⟩:Fl)]).length:=y;show(if i=d.files.length then w.heap.size else L.ps i)≠(if j=d.files.length then w.heap.size else L.ps j)
  have B:∀ i,i<d.files.length->L.ps i<w.heap.size:=fun i a=>h.lt _ (h.rest.fp i a)
  by_cases l:i=d.files.length
  ·rw[if_pos l,if_neg (by omega)]
   have:=B j (by omega)
   omega
  ·rw[if_neg l]
   by_cases m:j=d.files.length
   ·rw[if_pos m]
    have:=B i (by omega)
    omega
   ·rw[if_neg m]
    exact b.psn i j (by show i<d.files.length;omega) (by show j<d.files.length;omega) A
 ·intro i j a y A g
  have x:i<(d.files++[(⟨[],0⟩:Fl)]).length:=a;have G:j<(d.files++[(⟨[],0⟩:Fl)]).length:=y;show(if i=d.files.length then Value.slice none 0 0 else L.vs i).ownBlock=some g->(if j=d.files.length then Value.slice none 0 0 else L.vs j).ownBlock≠some g
  by_cases l:i=d.files.length
  ·rw[if_pos l]
   intro k
   cases k
  ·rw[if_neg l]
   by_cases m:j=d.files.length
   ·rw[if_pos m]
    intro _ k
    cases k
   ·rw[if_neg m]
    exact b.vsn i j (by show i<d.files.length;omega) (by show j<d.files.length;omega) A g
 ·intro i a
  have x:i<(d.files++[(⟨[],0⟩:Fl)]).length:=a;show Gr F w W (if i=d.files.length then w.heap.size else L.ps i)
  by_cases e:i=d.files.length
  ·rw[if_pos e]
   exact .inr ⟨Nat.le_refl _,by omega⟩
  ·rw[if_neg e]
   exact b.fp i (by show i<d.files.length;omega)
 ·intro i a g
  have x:i<(d.files++[(⟨[],0⟩:Fl)]).length:=a;show(if i=d.files.length then Value.slice none 0 0 else L.vs i).ownBlock=some g->Gr F w W g
  by_cases e:i=d.files.length
  ·rw[if_pos e]
   intro k
   cases k
  ·rw[if_neg e]
   exact b.fv i (by show i<d.files.length;omega) g
theorem ZiY (w:World) (ty:TypeId) (v:Value) (b:List UInt8) (c:Own w 0 v b) (i:Value) (l:List UInt8) (p:Rd w i l)
 (A:b.length+l.length<=70368744177664):
 ∃ v' w',(Builtin.append_ #[53,53] ty #[v,i]).run prog w=.ok v' w'∧Own w' 0 v' (b++l)∧w.grownBy w' v.ownBlock∧(v'.ownBlock=v.ownBlock∨v'.ownBlock=some w.heap.size):=by
 obtain⟨f,g,q,m,j⟩:=info_parts Zkt;obtain⟨ao,cap,rfl,z,y,u,x⟩:=p
 cases ao with
 | none=>
  have n:=u rfl;subst n;have e:l=[]:=List.eq_nil_of_length_eq_zero (by omega)
  subst e;have d:=run_append_owned_none (P:=prog) w 0 53 ty 5 f 1 underlying53 g v b.length (Lib.byteCells b) c;exact⟨v,w,d,by rw[List.append_nil];exact c,⟨rfl,rfl,rfl,Nat.le_refl _,fun _ _ _=>rfl⟩,.inl rfl⟩
 | some a=>
  obtain⟨v',w',d,t,k,_,e⟩:=run_append_own_at (P:=prog) w 0 53 ty 5 f (.int .u8 0) 1 1 underlying53 g q m j rfl (by decide) v b.length (Lib.byteCells b) c a l.length cap (Lib.byteCells l)
   (by rw[Yi,Nat.mul_one]) (Rd.cells x a rfl) (ZaD l) (by unfold maxLen;omega) (by omega) (Nat.zero_le _)
  exact⟨v',w',d,Own.mk' t (by simp) (by simp[Lib.byteCells]),k,e⟩
theorem ZbO (w:World) {d:Array Oper} {rest:List Oper} {o:Oper} {a:Act} {Q:Exit->Act->World->Prop} (e:o.guard=none) (s x:Operand)
 (t:o.op=.call { callee:=.builtin .append,args:=#[s,x],argTypes:=#[53,53] })
 (v:Value) (b:List UInt8) (q:a.eval s=v) (f:Own w 0 v b) (c:Value) (l:List UInt8) (g:a.eval x=c) (n:Rd w c l)
 (u:b.length+l.length<=70368744177664)
 (h:∀ v' w',Own w' 0 v' (b++l)->w.grownBy w' v.ownBlock->(v'.ownBlock=v.ownBlock∨v'.ownBlock=some w.heap.size)->wpList prog d Q rest (a.put o.dst v') w'):wpList prog d Q (o::rest) a w:=
 wpList_plain e fun _ j=>by
  obtain⟨v',w',k,p,i,m⟩:=ZiY w o.type v b f c l n u;unfold Oper.wp execOp;simp only [t,resolve,invoke,builtin,Sem.run_bind,Sem.run_pure,Result.andThen_ok,map_toArray,map_cons,map_nil,q,g,k];exact j _ _ (h v' w' p i m)
theorem Q1.grow {a:World} {L:Lay} {x:List UInt8} (h:Q1 F w p L d u N) (j:f<d.files.length)
 (t:Own a 0 v' ((fl d.files f).b++x)) (n:w.grownBy a (L.vs f).ownBlock) (hl:v'.ownBlock=(L.vs f).ownBlock∨v'.ownBlock=some w.heap.size):
 Q1 (Gr F w a) (a.setCell ⟨L.ps f,0,none⟩ v') p { L with vs:=fun i=>if i=f then v' else L.vs i } { d with files:=ZbD d.files f x } u N∧Qj F w (a.setCell ⟨L.ps f,0,none⟩ v'):=by
 have l:=h.rest;have q:=(l.file f j).box
 have A:(L.vs f).ownBlock≠some (L.ps f):=fun e=>by
  obtain⟨C,v⟩:=J3 (l.file f j).own e;exact(q.ne v (by decide)) rfl
 have y:Bk 117 a (L.ps f) #[L.vs f,.int .i64 ((fl d.files f).k:Int)]:=q.keep (n.block _ q.lt (fun e=>A e.symm))
 have D:(a.setCell ⟨L.ps f,0,none⟩ v').heap.size=a.heap.size:=by simp
 refine⟨h.setFile (F':=Gr F w a) j (fun k m E B=>?_) ⟨y.set 0 v',?_⟩ ?_ (fun _ m=>.inl m) (fun g c=>?_) (fun k m=>by rw[D];exact Gr.lt n.size h.lt k m),?_⟩
 ·rw[Below.heap_setCell _ _ _ _ E,n.block k (h.lt k m) (fun e=>B e.symm)]
 ·refine Qh t fun g c=>Below.heap_setCell _ _ _ _ ?_
  obtain⟨C,v⟩:=J3 t c;exact v.ne y (by decide)
 ·rcases hl with hl | hl
  ·exact .inl hl
  ·exact .inr fun g c=>by rw[hl] at c;exact Nat.le_of_eq (Option.some.inj c)
 ·rcases hl with hl | hl
  ·exact .inl (l.fv f j g (by rw[<-hl];exact c))
  ·have z:=(World.ownsRow.lt t g c).2
   rw[hl] at c;obtain rfl:=Option.some.inj c;exact .inr ⟨Nat.le_refl _,z⟩
 ·exact(Qj.ofGrown n fun k e _=>l.fv f j k e).setCell 0 (fun _=>l.fp f j) v'
theorem Bnd.grow (h:Bnd d N T) (f:Nat) (b:List UInt8) (q:Int):Bnd { d with files:=ZbD d.files f b,power:=q } (N+1) (T+b.length):=by
 refine⟨by show(ZbD d.files f b).length<=_;have:=h.files;simp[ZbD];omega,by have:=h.names;show d.kept.length+d.waits.length<=_;omega,fun x a=>?_⟩
 rcases List.mem_or_eq_of_mem_set a with a | rfl
 ·have:=h.bytes x a;omega
 ·simp only [length_append]
  by_cases c:f<d.files.length
  ·have:=h.bytes _ (ZbE c);omega
  ·unfold fl
   rw[List.getD,List.getElem?_eq_none (by omega)]
   simp only [Option.getD_none,List.length_nil];omega
theorem Bnd.fresh (h:Bnd d N T) (n:Int):Bnd (Zk d n) (N+1) T:=by
 refine⟨by show(d.files++[_]).length<=_;have:=h.files;simp;omega,by have:=h.names;show d.kept.length+(d.waits++[_]).length<=_;simp;omega,fun x hx=>?_⟩
 rcases List.mem_append.1 hx with hx | hx
 ·exact h.bytes x hx
 ·rw[List.mem_singleton.1 hx]
  exact Nat.zero_le _
theorem Bnd.mono (h:Bnd d N T) (a:N<=N') (b:T<=T'):Bnd d N' T':=
 ⟨Nat.le_trans h.files a,Nat.le_trans h.names a,fun x c=>Nat.le_trans (h.bytes x c) b⟩
theorem Q1.mono {L:Lay} (h:Q1 F w p L d u N) (a:N<=N'):Q1 F w p L d u N':=⟨h.head,h.rest.mono a,h.fh,h.lt⟩
theorem Dsk.mono (h:Dsk F w p d N T) (a:N<=N') (b:T<=T'):Dsk F w p d N' T':=by
 obtain⟨L,c,e,g,f⟩:=h;exact⟨L,c.mono a,e,g.mono a b,f⟩
def ZfU (F:Nat->Prop) (w:World) (p:Nat) (d:Dk) (code:Int) (N T:Nat) (e:Ending) (w':World):Prop:=
 e=.returned (.int .i64 code)∧∃ F',Dsk F' w' p d N T∧Qj F w w'∧∀ k,F' k->F k∨w.heap.size<=k
theorem ZfU.same (h:Dsk F w p d N T) (e:N<=N') (b:T<=T'):ZfU F w p d a N' T' (.returned (.int .i64 a)) w:=
 ⟨rfl,F,h.mono e b,Qj.refl _ _,fun _ c=>.inl c⟩
theorem ZfU.drew (h:Dsk F w p d N T) (e:N<=N') (b:T<=T') (q:Nat):ZfU F w p d a N' T' (.returned (.int .i64 a)) (w.drewN q):=
 ⟨rfl,F,(h.below (Xn (Below.refl _ _) q)).mono e b,(Qj.refl _ _).drewN q,fun _ c=>.inl c⟩
theorem Zdb {q:Int} (h:I64 q):I64 (Zcv q):=by
 obtain⟨b,a⟩:=h;unfold Zcv I64;split <;> omega
theorem Zod (h:OkD d) {N T:Nat} (a:Bnd d N T) (c:N<=1000000) (b:T<=1000000000):Zj d<=1000000000000000:=by
 have e:=ZvQ h a.names a.bytes;have f:N*T<=1000000*1000000000:=Nat.mul_le_mul c b;omega
theorem ZfU.appended {c:Nat->Prop} {e:World} {a:Dk} {d:Nat} {b:List UInt8} {i:Lay} (j:OkD a) (m:Bnd a d T) (g:I64 a.room∧I64 a.power) (q:look (Q6 a) n=some f)
 (h:Q1 c e p i (appendTo a f b) ((Zj a:Int)+b.length) d) (u:Qj F w e) (l:∀ k,c k->F k∨w.heap.size<=k) (t:d+1<=N'):ZfU F w p (appendTo a f b) 0 N' (T+b.length) (.returned (.int .i64 0)) e:=by
 refine⟨rfl,c,⟨i,?_,j.appendTo f b,(m.grow f b _).mono t zL,g.1,Zdb g.2⟩,u,l⟩;rw[ZqW j q b];exact h.mono (by omega)
theorem Rd.blockLt (h:Rd w v l):l=[]∨∀ k,v.ownBlock=some k->k<w.heap.size:=by
 obtain⟨ao,cap,rfl,i,j,g,a⟩:=h;rcases a with a | ⟨b,d,rfl,f⟩
 ·exact .inl a
 ·by_cases e:l=[]
  ·exact .inl e
  ·right
   intro k c;obtain rfl:b=k:=by simpa[Value.ownBlock] using c
   exact World.block_lt_of_cell? w ⟨b,d+0,none⟩ (f 0 (List.length_pos_iff.2 e))
theorem Rd.onlyN (h:Rd w v l) {F G:Nat->Prop} {B:Nat} (i:Qj G w w') (g:∀ k,G k->F k∨B<=k) (hv:l=[]∨∀ k,v.ownBlock=some k->¬ F k) (hlt:l=[]∨∀ k,v.ownBlock=some k->k<B):Rd w' v l:=by
 rcases hv with rfl | hv
 ·obtain⟨ao,cap,rfl,b,a,c,f⟩:=h
  exact⟨ao,cap,rfl,b,a,c,.inl rfl⟩
 rcases hlt with rfl | hlt
 ·obtain⟨ao,cap,rfl,b,a,c,f⟩:=h
  exact⟨ao,cap,rfl,b,a,c,.inl rfl⟩
 ·exact h.only i fun k d e=>by
   rcases g k e with hf | hf
   ·exact hv k d hf
   ·have:=hlt k d;omega
theorem ZjC (n:Int) (hn:I64 n) (vb:Value) (b:List UInt8) (w:World) (h:Dsk F w p d N T) (hr:Rd w vb b) (hv:b=[]∨∀ k,vb.ownBlock=some k->¬ F k) (hN:N<=1000000) (hT:T<=1000000000) (bk:b.length<=1000000000):
 Calls prog 52 #[ptr p,.int .i64 n,vb] w fun e w'=>ZfU F w p (Xe d n b).1 (Xe d n b).2 (N+2) (T+b.length) e w':=by
 have HD:=ZZ h;obtain⟨L,h,aL,aG,be,a3⟩:=h;have H:=ZZ h;have t:=ZZ aL;have ay:=ZZ aG;have HI:=ZZ (And.intro be a3);have au:=ZZ hr;have bb:=ZZ hr.blockLt;have HV:=ZZ hv;have l:=ZZ (Zma w h);have E:=ZZ (Zmb n w);have g:=h.rest.now.look hn;obtain⟨⟨c0,c1,c2,-,-,-⟩,-⟩:=h.cells;have bf:=Zod aL aG hN hT;obtain⟨U,hU⟩:∃ U:Int,U=(Zj d:Int):=⟨_,rfl⟩;have bi:0<=U∧U<=1000000000000000:=by omega
 rw[<-hU] at c1;obtain⟨ao,cap,rfl,-⟩:=hr;obtain⟨R,hR⟩:∃ R,R=d.room:=⟨_,rfl⟩;rw[<-hR] at c0;unfold Xe;rw[<-hU,<-hR];have HU:=ZZ hU;clear hU bf hR;clear aL aG a3 hv h;by_cases h0:d.power=0
 ·rw[if_pos h0]
  rw[h0] at l;clear g h0
  go_enter func52,ntmps52
  go_wp2_with fail
  refine l.o.mono ?_;rintro e w' ⟨rfl,rfl⟩;go_wp2;go_ret;exact ZfU.same HD.o (by omega) (by omega)
 rw[if_neg h0];have e0:(d.power != 0)=true:=by simpa using h0
 rw[e0] at l;clear h0 e0
 cases hmn:ZfK n with
 | false=>
  rw[if_pos rfl];rw[hmn] at E;clear g hmn
  go_enter func52,ntmps52
  go_wp2_with fail
  refine l.o.mono ?_;rintro e w' ⟨rfl,rfl⟩
  go_wp2_with fail
  refine E.o.mono ?_;rintro e w' ⟨rfl,rfl⟩;go_wp2;go_ret;exact ZfU.same HD.o (by omega) (by omega)
 | true=>
 rw[if_neg (by simp)]
 have aU:=ZZ hmn;rw[hmn] at E;clear hmn;by_cases ad:U+(b.length:Int)>R
 ·rw[if_pos ad]
  clear g
  go_enter func52,ntmps52
  go_wp2_with fail
  refine l.o.mono ?_;rintro e w' ⟨rfl,rfl⟩
  go_wp2_with fail
  refine E.o.mono ?_;rintro e w' ⟨rfl,rfl⟩
  go_upto_region 5 with fail
  go_quiet(fail)
  go_wp2;go_ret;exact ZfU.drew HD.o (by omega) (by omega) _
 rw[if_neg ad];have a1:decide (U+(b.length:Int)>R)=false:=decide_eq_false ad;have bj:U+(b.length:Int)<=R:=by omega
 cases ho:look (Q6 d) n with
 | some f=>
  clear g
  dsimp only
  have aa:=ZZ ho;clear ho
  go_enter func52,ntmps52
  go_wp2_with fail
  refine l.o.mono ?_;rintro e w' ⟨rfl,rfl⟩
  go_wp2_with fail
  refine E.o.mono ?_;rintro e w' ⟨rfl,rfl⟩
  go_upto_region 5 with fail
  go_cut[17] (fun v wc=>v=.bool false∧Hid (∃ q,wc=w'.drewN q))
  case first=>
   go_quiet(fail)
   go_wp2
   go_meet
   exact⟨rfl,ZZ ⟨_,rfl⟩⟩
  case rest=>
   obtain⟨W,rfl⟩:∃ W,W=wc:=⟨_,rfl⟩;obtain⟨rfl,hw⟩:=hcut;obtain⟨w,rfl⟩:∃ w0,w0=w':=⟨_,rfl⟩;obtain⟨q,u⟩:=hw.out;have y:Hid (Q1 F W p L d U N):=ZZ (by rw[u,HU.o];exact H.out.keep (fun _ _=>rfl) zL)
   have Z:Hid (Qj F w W):=ZZ (by rw[u];exact(Qj.refl _ _).drewN q)
   have ae:Hid (Rd W (.slice ao b.length cap) b):=ZZ (by rw[u];exact au.o.below (Xn (Below.refl _ _) q) zL)
   clear hw u c0 c1 c2 ad a1 H au l E HD;obtain⟨⟨-,-,c2,-,-,-⟩,-⟩:=y.o.cells;have g:=y.o.rest.now.look hn;rw[aa.o] at g;have aH:(Instr.lookup 65 (.map (some L.now)) (.int .i64 n) true).run prog W=.ok (.tuple #[.pointer (some ⟨L.ps f,0,none⟩),.bool true]) W:=g;have hf:f<d.files.length:=(t.o.dir.mayOf aa.o).2;have aI:=aa;have j:=y;have aS:=HU;have aQ:=t;have am:=ay;have an:=HI;have z:Hid (∀ k,F k->F k∨w.heap.size<=k):=ZZ (fun k hk=>.inl hk)
   have P:=Z;have aP:=ae;clear g y Z ae
   go_upto_region 11 with fail
   clear aH c2;obtain⟨g0,y0⟩:=(j.o.rest.file f hf).box.cell 0 rfl;have aq:=ZZ (j.o.rest.file f hf).own;have O:=ZZ (j.o.rest.file f hf).box;obtain⟨va,vc,V⟩:=(j.o.rest.file f hf).own.shape;rw[V] at g0;have ac:=ZZ V;have aV:Hid ((fl d.files f).b.length+b.length<=70368744177664):=ZZ (by have:=am.o.bytes _ (ZbE hf);omega)
   clear V
   go_wp2_with(at_builtin;refine(fun(h:True->_)=>h trivial) ?_)
   intro _;rw[<-ac.o];refine ZbO W rfl _ _ rfl (L.vs f) _ rfl aq.o _ b rfl aP.o aV.o ?_;intro v' w2 K Y ar;obtain⟨ak,ap⟩:=j.o.grow hf K Y ar;have C:=ZZ ak;have Q:=ZZ ap
   have ai:(L.vs f).ownBlock≠some (L.ps f):=fun e=>by
    obtain⟨bd,aW⟩:=J3 aq.o e;exact(O.out.ne aW (by decide)) rfl
   obtain⟨g2,y2⟩:=(O.out.keep (Y.block _ O.out.lt (fun e=>ai e.symm))).cell 0 rfl
   rw[ac.o] at g2;obtain⟨aC,aJ,ab⟩:=K.shape;rw[ab] at C Q ⊢;obtain⟨S,X⟩:∃ S,S=w2.setCell ⟨L.ps f,0,none⟩ (.slice aC ((fl d.files f).b++b).length aJ):=⟨_,rfl⟩;have J:=ZZ X;obtain⟨M,I⟩:∃ M,M=((fl d.files f).b++b).length:=⟨_,rfl⟩;rw[<-X] at C Q;rw[<-I];rw[<-I] at J;clear K Y ar ak ap ai ab X I g0 y0
   go_upto_region 12 with fail
   rw[<-J.o];clear J g2 y2;obtain⟨⟨-,k1,-,-,-,-⟩,j1,-⟩:=C.o.cells;obtain⟨D,A⟩:∃ D,D=S.setCell ⟨p,1,none⟩ (.int .i64 (U+(b.length:Int))):=⟨_,rfl⟩;have al:=ZZ (C.o.setHead 1 (.int .i64 (U+(b.length:Int))) (d':={ d with files:=ZbD d.files f b }) (u':=U+(b.length:Int)) ⟨rfl,rfl,rfl⟩ rfl)
   have aB:Hid (Qj F w D):=ZZ (by
    rw[A]
    exact(P.o.trans Q.o (fun k hk hf=>(z.o k hf).resolve_right (by omega))).setCell 1 (fun bc=>((z.o p j.o.fh).resolve_right (by omega))) _)
   rw[<-A] at al;have ag:=ZZ A;clear A
   go_upto_region 13 with fail
   rw[<-ag.o];clear ag k1 j1
   go_wp2_with fail
   refine(Zcb D al.o an.o.2).mono ?_;rintro e W5 ⟨rfl,aN,aF⟩;go_wp2;go_ret;refine ZfU.appended aQ.o am.o an.o aI.o (by rw[<-aS.o];exact aN) ((aB.o.trans aF (fun k hk hf=>?_))) (fun k hk=>?_) (by omega)
   ·rcases hf with hf | hf
    ·exact(z.o k hf).resolve_right (by omega)
    ·have:=P.o.size;omega
   ·rcases hk with hk | hk
    ·exact z.o k hk
    ·have:=P.o.size;exact .inr (by omega)
 | none=>
  clear g
  dsimp only
  have aa:=ZZ ho;clear ho
  go_enter func52,ntmps52
  go_wp2_with fail
  refine l.o.mono ?_;rintro e w' ⟨rfl,rfl⟩
  go_wp2_with fail
  refine E.o.mono ?_;rintro e w' ⟨rfl,rfl⟩
  go_upto_region 5 with fail
  go_cut[17] (fun v wc=>v=.bool false∧Hid (∃ q,wc=w'.drewN q))
  case first=>
   go_quiet(fail)
   go_wp2
   go_meet
   exact⟨rfl,ZZ ⟨_,rfl⟩⟩
  case rest=>
   obtain⟨W,rfl⟩:∃ W,W=wc:=⟨_,rfl⟩;obtain⟨rfl,hw⟩:=hcut;obtain⟨w,rfl⟩:∃ w0,w0=w':=⟨_,rfl⟩;obtain⟨q,u⟩:=hw.out;have y:Hid (Q1 F W p L d U N):=ZZ (by rw[u,HU.o];exact H.out.keep (fun _ _=>rfl) zL)
   have Z:Hid (Qj F w W):=ZZ (by rw[u];exact(Qj.refl _ _).drewN q)
   have ae:Hid (Rd W (.slice ao b.length cap) b):=ZZ (by rw[u];exact au.o.below (Xn (Below.refl _ _) q) zL)
   clear hw u c0 c1 c2 ad a1 H au l E HD;obtain⟨⟨-,-,c2,-,-,-⟩,-⟩:=y.o.cells;have g:=y.o.rest.now.look hn;rw[aa.o] at g;have aH:(Instr.lookup 65 (.map (some L.now)) (.int .i64 n) true).run prog W=.ok (.tuple #[.pointer none,.bool false]) W:=g;have aK:=ZZ (y.o.addFile t.o);have aR:=ZZ (Z.o.alloc (.cells #[.slice none 0 0,.int .i64 0] 117));have aO:Hid (Rd (W.alloc (.cells #[.slice none 0 0,.int .i64 0] 117)) (.slice ao b.length cap) b):=ZZ (ae.o.below ((Below.refl _ _).alloc zL _) zL);have a0:Hid (w.heap.size<=W.heap.size):=ZZ Z.o.size;have aD:Hid (W.heap.size<(W.alloc (.cells #[.slice none 0 0,.int .i64 0] 117)).heap.size):=ZZ (by simp)
   obtain⟨a,aM⟩:∃ a,a=W.alloc (.cells #[.slice none 0 0,.int .i64 0] 117):=⟨_,rfl⟩;rw[<-aM] at aK aR aO aD;have a2:=ZZ aM;have l:=aa;clear aM g
   go_upto_region 10 with fail
   rw[<-a2.o];clear a2 aH c2
   go_wp2_with fail
   refine(ZvO n W.heap.size a).mono ?_;rintro e m ⟨rfl,af⟩;have ax:Below a.heap.size a m:=by rw[af];exact((Below.refl _ _).alloc zL _).alloc (by simp) _
   have bg:m.heap.size=a.heap.size+1+1:=by rw[af];simp
   have a4:Bk 3 m a.heap.size #[.int .i64 n]:=by rw[af];exact(Below.heap_alloc _ _ _ (by simp)).trans (heap_alloc_new a _)
   have a8:Bk 115 m (a.heap.size+1) #[ptr W.heap.size]:=by
    have e1:a.heap.size+1=(a.alloc (.cells #[.int .i64 n] 3)).heap.size:=by simp
    rw[af,e1];exact heap_alloc_new _ _
   have aw:=ZZ (aK.o.more ax);obtain⟨FB,aj⟩:∃ FB,FB=Gr (Gr F W a) a m:=⟨_,rfl⟩;rw[<-aj] at aw;obtain⟨LB,aA⟩:∃ LB:Lay,LB={ L with ps:=fun i=>if i=d.files.length then W.heap.size else L.ps i,vs:=fun i=>if i=d.files.length then .slice none 0 0 else L.vs i }:=⟨_,rfl⟩
   have aT:LB.ps d.files.length=W.heap.size:=by rw[aA];exact if_pos rfl
   rw[<-aA] at aw;have aZ:Hid (ChV FB m LB.ps (.give n d.files.length) (.func (.func 139) #[] #[ptr (a.heap.size+1),ptr a.heap.size])):=ZZ ⟨_,_,rfl,a4,by rw[aT];exact a8,by rw[aj];exact .inr ⟨Nat.le_refl _,by omega⟩,by rw[aj];exact .inr ⟨by omega,by omega⟩⟩
   have av:Hid (∀ k,FB k->F k∨w.heap.size<=k):=ZZ (fun k hk=>by
    rw[aj] at hk;have h1:=a0.o;have h2:=aD.o;rcases hk with (hk | hk) | hk
    ·exact .inl hk
    ·exact .inr (by omega)
    ·exact .inr (by omega))
   have aE:Hid (Qj F w m):=ZZ (aR.o.trans (G:=fun _=>False) (Qj.ofBelow ax) (fun _ _ hf=>hf.elim))
   have aX:Hid (Rd m (.slice ao b.length cap) b):=ZZ (aO.o.below ax zL);have aY:=ZZ aT
   have a5:Hid (OkD { d with files:=d.files++[⟨[],0⟩] }):=ZZ ⟨fun k=>(t.o.dirs k).more (by simp),fun c hc=>(t.o.chs c hc).more (by simp),fun x hx=>by
    rcases List.mem_append.1 hx with hx | hx
    ·exact t.o.keep x hx
    ·rw[List.mem_singleton.1 hx];exact Nat.le_refl _⟩
   have ba:=ZZ (Zhr m aw.o aZ.o a5.o ⟨aU.o,by simp⟩ hN (by have:=ay.o.names;show d.waits.length<=1000000;omega))
   clear ax bg a4 a8 aj aA aT af
   go_wp2_with fail
   refine ba.o.mono ?_;rintro e WC ⟨rfl,LC,a9,a6,-,az⟩;have aI:Hid (look (Q6 (Zk d n)) n=some d.files.length):=ZZ (ZqB t.o n);have j:Hid (Q1 (Gr FB m WC) WC p LC (Zk d n) U (N+1)):=ZZ a9;have aS:Hid (U=(Zj (Zk d n):Int)):=ZZ (by rw[Zob t.o l.o];exact HU.o)
   have aQ:Hid (OkD (Zk d n)):=ZZ (t.o.fresh aU.o);have am:Hid (Bnd (Zk d n) (N+1) T):=ZZ (ay.o.fresh n);have an:Hid (I64 (Zk d n).room∧I64 (Zk d n).power):=ZZ HI.o
   have z:Hid (∀ k,Gr FB m WC k->F k∨w.heap.size<=k):=ZZ (fun k hk=>by
    rcases hk with hk | hk
    ·exact av.o k hk
    ·have:=aE.o.size;exact .inr (by omega))
   have P:Hid (Qj F w WC):=ZZ (aE.o.trans az (fun k hk hf=>(av.o k hf).resolve_right (by omega)))
   have aP:Hid (Rd WC (.slice ao b.length cap) b):=ZZ (aX.o.onlyN (B:=w.heap.size) az av.o HV.o bb.o);have hf:d.files.length<(Zk d n).files.length:=by simp[Zk]
   have a7:LC.ps d.files.length=W.heap.size:=by rw[a6];exact aY.o
   rw[<-a7];clear a9 a6 az a7 ba aZ aw av aE aX aY a5 aK aR aO a0 aD l y Z ae t ay HI HU hn aU
   go_upto_region 11 with fail
   obtain⟨g0,y0⟩:=(j.o.rest.file d.files.length hf).box.cell 0 rfl;have aq:=ZZ (j.o.rest.file d.files.length hf).own;have O:=ZZ (j.o.rest.file d.files.length hf).box;obtain⟨va,vc,V⟩:=(j.o.rest.file d.files.length hf).own.shape;rw[V] at g0;have ac:=ZZ V;have aV:Hid ((fl (Zk d n).files d.files.length).b.length+b.length<=70368744177664):=ZZ (by have:=am.o.bytes _ (ZbE hf);omega)
   clear V
   go_wp2_with(at_builtin;refine(fun(h:True->_)=>h trivial) ?_)
   intro _;rw[<-ac.o];refine ZbO WC rfl _ _ rfl (LC.vs d.files.length) _ rfl aq.o _ b rfl aP.o aV.o ?_;intro v' w2 K Y ar;obtain⟨ak,ap⟩:=j.o.grow hf K Y ar;have C:=ZZ ak;have Q:=ZZ ap
   have ai:(LC.vs d.files.length).ownBlock≠some (LC.ps d.files.length):=fun e=>by
    obtain⟨bd,aW⟩:=J3 aq.o e;exact(O.out.ne aW (by decide)) rfl
   obtain⟨g2,y2⟩:=(O.out.keep (Y.block _ O.out.lt (fun e=>ai e.symm))).cell 0 rfl
   rw[ac.o] at g2;obtain⟨aC,aJ,ab⟩:=K.shape;rw[ab] at C Q ⊢;obtain⟨S,X⟩:∃ S,S=w2.setCell ⟨LC.ps d.files.length,0,none⟩ (.slice aC ((fl (Zk d n).files d.files.length).b++b).length aJ):=⟨_,rfl⟩;have J:=ZZ X;obtain⟨M,I⟩:∃ M,M=((fl (Zk d n).files d.files.length).b++b).length:=⟨_,rfl⟩;rw[<-X] at C Q;rw[<-I];rw[<-I] at J;clear K Y ar ak ap ai ab X I g0 y0
   go_upto_region 12 with fail
   rw[<-J.o];clear J g2 y2;obtain⟨⟨-,k1,-,-,-,-⟩,j1,-⟩:=C.o.cells;obtain⟨D,A⟩:∃ D,D=S.setCell ⟨p,1,none⟩ (.int .i64 (U+(b.length:Int))):=⟨_,rfl⟩;have al:=ZZ (C.o.setHead 1 (.int .i64 (U+(b.length:Int))) (d':={ (Zk d n) with files:=ZbD (Zk d n).files d.files.length b }) (u':=U+(b.length:Int)) ⟨rfl,rfl,rfl⟩ rfl)
   have aB:Hid (Qj F w D):=ZZ (by
    rw[A]
    exact(P.o.trans Q.o (fun k hk hf=>(z.o k hf).resolve_right (by omega))).setCell 1 (fun bc=>((z.o p j.o.fh).resolve_right (by omega))) _)
   rw[<-A] at al;have ag:=ZZ A;clear A
   go_upto_region 13 with fail
   rw[<-ag.o];clear ag k1 j1
   go_wp2_with fail
   refine(Zcb D al.o an.o.2).mono ?_;rintro e W5 ⟨rfl,aN,aF⟩;go_wp2;go_ret;refine ZfU.appended aQ.o am.o an.o aI.o (by rw[<-aS.o];exact aN) ((aB.o.trans aF (fun k hk hf=>?_))) (fun k hk=>?_) (by omega)
   ·rcases hf with hf | hf
    ·exact(z.o k hf).resolve_right (by omega)
    ·have:=P.o.size;omega
   ·rcases hk with hk | hk
    ·exact z.o k hk
    ·have:=P.o.size;exact .inr (by omega)
theorem Own.nil (w:World) (B:Nat):Own w B (.slice none 0 0) []:=World.ownsRow_nil w B 5 1
theorem ZkI (w:World) (ty:TypeId) (B:Nat) (v:Value) (b:List UInt8) (c:Own w B v b) (i:Value) (l:List UInt8) (t:Rd w i l)
 (E:b.length+l.length<=70368744177664) (g:B<=w.heap.size):
 ∃ v' w',(Builtin.append_ #[53,53] ty #[v,i]).run prog w=.ok v' w'∧Own w' B v' (b++l)∧Below B w w':=by
 obtain⟨e,f,u,n,j⟩:=info_parts Zkt;obtain⟨ao,cap,rfl,D,C,z,A⟩:=t
 cases ao with
 | none=>
  have p:=z rfl;subst p;have q:l=[]:=List.eq_nil_of_length_eq_zero (by omega)
  subst q;have d:=run_append_owned_none (P:=prog) w B 53 ty 5 e 1 underlying53 f v b.length (Lib.byteCells b) c;exact⟨v,w,d,by rw[List.append_nil];exact c,Below.refl _ _⟩
 | some a=>
  obtain⟨v',w',d,y,m,_⟩:=run_append_own (P:=prog) w B 53 ty 5 e (.int .u8 0) 1 1 underlying53 f u n j rfl (by decide) v b.length (Lib.byteCells b) c a l.length cap (Lib.byteCells l)
   (by rw[Yi,Nat.mul_one]) (Rd.cells A a rfl) (ZaD l) (by unfold maxLen;omega) (by omega) g
  refine⟨v',w',d,Own.mk' y (by simp) (by simp[Lib.byteCells]),?_⟩
  exact(Below.refl _ _).grown m g (fun k x=>(World.ownsRow.lt c k x).1)
theorem Zmj {o:Oper} {a:Act} {K:Act->World->Prop} {Q:Exit->Act->World->Prop} (w:World) (s x:Operand)
 (n:o.op=.call { callee:=.builtin .append,args:=#[s,x],argTypes:=#[53,53] })
 (B:Nat) (v:Value) (b:List UInt8) (k:a.eval s=v) (d:Own w B v b) (c:Value) (l:List UInt8) (e:a.eval x=c) (i:Rd w c l)
 (p:b.length+l.length<=70368744177664) (m:B<=w.heap.size)
 (h:∀ v' w',Own w' B v' (b++l)->Below B w w'->K (a.put o.dst v') w'):o.wp prog a w K Q:=by
 obtain⟨v',w',g,j,f⟩:=ZkI w o.type B v b d c l i p m;unfold Oper.wp execOp;simp only [n,resolve,invoke,builtin,Sem.run_bind,Sem.run_pure,Result.andThen_ok,map_toArray,map_cons,map_nil,k,e,g];exact h v' w' j f
theorem Xi (w:World) {d:Array Oper} {rest:List Oper} {o:Oper} {a:Act} {Q:Exit->Act->World->Prop} (e:o.guard=none) (s x:Operand)
 (q:o.op=.call { callee:=.builtin .append,args:=#[s,x],argTypes:=#[53,53] })
 (B:Nat) (v:Value) (b:List UInt8) (n:a.eval s=v) (f:Own w B v b) (c:Value) (l:List UInt8) (g:a.eval x=c) (k:Rd w c l)
 (t:b.length+l.length<=70368744177664) (p:B<=w.heap.size)
 (h:∀ v' w',Own w' B v' (b++l)->Below B w w'->wpList prog d Q rest (a.put o.dst v') w'):wpList prog d Q (o::rest) a w:=
 wpList_plain e fun _ j=>Zmj w s x q B v b n f c l g k t p fun v' w' m i=>j _ _ (h v' w' m i)
theorem ZvR (w:World) (B:Nat) (a:B<=w.heap.size):Own (w.alloc (.cells #[] 5)) B (.slice (some ⟨w.heap.size,0,none⟩) 0 0) []:=
 ⟨rfl,.inr ⟨w.heap.size,0,#[],rfl,a,heap_alloc_new w _,Nat.le_refl _,Nat.zero_le _,rfl,rfl⟩⟩
theorem Zra (v:Value) (l:List UInt8) (w:World) (d:Rd w v l) (C:l.length<=70368744177664):
 Calls prog 113 #[v] w fun e w'=>∃ v',e=.returned v'∧Own w' w.heap.size v' l∧Below w.heap.size w w':=by
 have u:=ZZ d;obtain⟨ao,cap,rfl,A,z,b,i⟩:=d
 cases ao with
 | none=>
  have q:=b rfl;have t:l=[]:=List.eq_nil_of_length_eq_zero (by omega)
  subst t;subst q;clear i b;have x:∀ w,(binOp .eql 53 (.slice none 0 0) (.slice none 0 0)).run prog w=.ok (.bool true) w:=fun w=>run_eql_slice_nil w _ _ none 0 0 underlying53
  go_enter func113,ntmps113
  go_wp2;go_ret;exact⟨_,rfl,Own.nil _ _,Below.refl _ _⟩
 | some f=>
  clear i b A z;have x:∀ w,(binOp .eql 53 (.slice (some f) l.length cap) (.slice none 0 0)).run prog w=.ok (.bool false) w:=fun w=>run_eql_slice_nil w _ _ (some f) _ _ underlying53
  have j:=ZZ (ZvR w w.heap.size zL);have a:=ZZ ((Below.refl w.heap.size w).alloc zL (.cells #[] 5));have m:=ZZ (u.o.below a.o zL);have n:Hid (w.heap.size<=(w.alloc (.cells #[] 5)).heap.size):=a.o.size
  go_enter func113,ntmps113
  go_wp2_with(at_builtin;refine Xi _ rfl _ _ rfl w.heap.size _ [] rfl j.o _ l rfl m.o (by simp;omega) n.o ?_)
  intro k B g c;have p:=ZZ g;have y:=ZZ (a.o.trans c);clear g c;go_wp2;go_ret;exact⟨k,rfl,p.o,y.o⟩
theorem Zmk (n:Int) (l:I64 n) (w:World) (h:Dsk F w p d N T) (q:T<=1000000000):
 Calls prog 75 #[ptr p,.int .i64 n] w fun e w'=>∃ v,e=.returned (.tuple #[v,.int .i64 (Z1 d n).2])∧Own w' w.heap.size v (Z1 d n).1∧Below w.heap.size w w':=by
 obtain⟨L,h,k,i,-,-⟩:=h;have a:=ZZ (ZgB n l w h);have H:=ZZ h;have m:=ZZ k;have z:=ZZ i;clear h k i;unfold Z1;by_cases b:d.power=0
 ·rw[if_pos b]
  rw[if_pos b,if_pos b] at a;clear b
  go_enter func75,ntmps75
  go_wp2_with fail
  refine a.o.mono ?_;rintro e w' ⟨rfl,rfl⟩;go_wp2;go_ret2;exact⟨_,rfl,Own.nil _ _,Below.refl _ _⟩
 rw[if_neg b];rw[if_neg b,if_neg b] at a;clear b
 cases ho:look (Q6 d) n with
 | none=>
  rw[ho] at a
  dsimp only [Option.map_none,Option.isSome_none,Bool.false_eq_true,if_false,ZpU] at a ⊢
  clear ho
  go_enter func75,ntmps75
  go_wp2_with fail
  refine a.o.mono ?_;rintro e w' ⟨rfl,rfl⟩;go_wp2;go_ret2;exact⟨_,rfl,Own.nil _ _,Below.refl _ _⟩
 | some f=>
  rw[ho] at a
  dsimp only [Option.map_some,Option.isSome_some,if_true,ZpU] at a ⊢
  have c:f<d.files.length:=(m.o.dir.mayOf ho).2;obtain⟨t,-⟩:=(H.out.rest.file f c).box.cell 0 rfl;have y:=ZZ (H.out.rest.file f c).own.rd;have j:=ZZ (Zra _ _ w y.o (by have:=z.o.bytes _ (ZbE c);omega))
  obtain⟨B,C,g⟩:=(H.out.rest.file f c).own.shape;rw[g] at t j;clear ho c g q l
  go_enter func75,ntmps75
  go_wp2_with fail
  refine a.o.mono ?_;rintro e w' ⟨rfl,rfl⟩
  go_wp2_with fail
  refine j.o.mono ?_;rintro e A ⟨D,rfl,x,u⟩;go_wp2;go_ret2;exact⟨_,rfl,x,u⟩
theorem ZpV (n:Int) (Q:I64 n) (w:World) (h:Dsk F w p d N T):
 Calls prog 59 #[ptr p,.int .i64 n] w fun e w'=>ZfU F w p (Jf d n).1 (Jf d n).2 (N+2) T e w':=by
 have O:=ZZ h;obtain⟨L,h,P,D,I,K⟩:=h;have c:=ZZ (ZgB n Q w h);have H:=ZZ h;have l:=ZZ P;have t:=ZZ D;have v:=ZZ (And.intro I K);clear h P D I K;unfold Jf;by_cases j:d.power=0
 ·rw[if_pos j]
  rw[if_pos j,if_pos j] at c;clear j
  go_enter func59,ntmps59
  go_wp2_with fail
  refine c.o.mono ?_;rintro e w' ⟨rfl,rfl⟩;go_wp2;go_ret;exact ZfU.same O.o (by omega) zL
 rw[if_neg j];rw[if_neg j,if_neg j] at c;clear j
 cases ho:look (Q6 d) n with
 | none=>
  rw[ho] at c
  dsimp only [Option.map_none,Option.isSome_none,Bool.false_eq_true,if_false,ZpU] at c ⊢
  clear ho
  go_enter func59,ntmps59
  go_wp2_with fail
  refine c.o.mono ?_;rintro e w' ⟨rfl,rfl⟩;go_wp2;go_ret;exact ZfU.same O.o (by omega) zL
 | some f=>
  rw[ho] at c
  dsimp only [Option.map_some,Option.isSome_some,if_true,ZpU] at c ⊢
  have E:=ZZ ho;have a:f<d.files.length:=(l.o.dir.mayOf ho).2;have q:=ZZ (H.out.rest.file f a);obtain⟨G,-⟩:=(H.out.rest.file f a).box.cell 0 rfl;obtain⟨V,S⟩:=(H.out.rest.file f a).box.cell 1 rfl
  have M:Hid (Q1 F (w.setCell ⟨L.ps f,1,none⟩ (.int .i64 ((fl d.files f).b.length:Int))) p { L with vs:=fun i=>if i=f then L.vs f else L.vs i } { d with files:=Zeb d.files f } (Zj d) N):=ZZ (H.out.setFile (F':=F) (v':=L.vs f) (x':=⟨(fl d.files f).b,(fl d.files f).b.length⟩) a (fun k _ R _=>Below.heap_setCell _ _ _ _ R) ⟨q.o.box.set 1 _,Qh q.o.own fun g y=>Below.heap_setCell _ _ _ _ (by
   obtain⟨aa,U⟩:=J3 q.o.own y
   exact U.ne q.o.box (by decide))⟩ (.inl rfl) (fun _ m=>m) (fun g y=>H.out.rest.fv f a g y) (fun k m=>by simpa using H.out.lt k m))
  have J:Hid (Qj F w (w.setCell ⟨L.ps f,1,none⟩ (.int .i64 ((fl d.files f).b.length:Int)))):=ZZ ((Qj.refl _ _).setCell 1 (fun _=>H.out.rest.fp f a) _)
  obtain⟨Z,vc,B⟩:=q.o.own.shape;rw[B] at G;obtain⟨A,z⟩:∃ A,A=w.setCell ⟨L.ps f,1,none⟩ (.int .i64 ((fl d.files f).b.length:Int)):=⟨_,rfl⟩;rw[<-z] at M J;have C:=ZZ z;clear ho a B Q z
  go_enter func59,ntmps59
  go_wp2_with fail
  refine c.o.mono ?_;rintro e w' ⟨rfl,rfl⟩
  go_upto_region 5 with fail
  rw[<-C.o];clear C G V S
  go_wp2_with fail
  refine(Zcb A M.o v.o.2).mono ?_;rintro e Y ⟨rfl,W,X⟩;go_wp2;go_ret;refine⟨rfl,F,⟨{ L with vs:=fun i=>if i=f then L.vs f else L.vs i },?_,?_,⟨?_,?_,?_⟩,v.o.1,Zdb v.o.2⟩,J.o.trans X (fun _ _ a=>a),fun _ m=>.inl m⟩
  ·rw[ZqX l.o E.o]
   exact W.mono (by omega)
  ·exact l.o.bytes (by simp[Zeb]) (Zgy l.o.keep _ zL)
  ·have:=t.o.files
   show(Zeb d.files f).length<=_;simp[Zeb];omega
  ·have:=t.o.names
   show d.kept.length+d.waits.length<=_;omega
  ·intro x u
   rcases List.mem_or_eq_of_mem_set u with u | rfl
   ·exact t.o.bytes x u
   ·have:=t.o.bytes _ (ZbE (l.o.dir.mayOf E.o).2)
    exact this
theorem ZpW {L:Lay} {U:Int} (n:Int) (q:I64 n) (w:World) (h:Q1 F w p L d U N) (j:OkD d) (i:Bnd d N T) (x:T<=1000000000) (v:0<=U∧U<=1000000000000000):
 Calls prog 104 #[ptr p,.int .i64 n] w fun e w'=>e=.returned (.tuple #[])∧Q1 F w' p L d (U-(ZqV d.files (look (Q6 d) n):Int)) N∧Qj F w w':=by
 have H:=ZZ h;obtain⟨⟨-,C,y,-,-,-⟩,B,-⟩:=h.cells;have a:=h.rest.now.look q
 cases ho:look (Q6 d) n with
 | none=>
  rw[ho] at a;have t:(Instr.lookup 65 (.map (some L.now)) (.int .i64 n) true).run prog w=.ok (.tuple #[.pointer none,.bool false]) w:=a;clear a ho h j i
  go_enter func104,ntmps104
  go_wp2;go_end0;exact⟨rfl,by simpa[ZqV] using H.out,Qj.refl _ _⟩
 | some f=>
  rw[ho] at a;have t:(Instr.lookup 65 (.map (some L.now)) (.int .i64 n) true).run prog w=.ok (.tuple #[.pointer (some ⟨L.ps f,0,none⟩),.bool true]) w:=a;have c:f<d.files.length:=(j.dir.mayOf ho).2;obtain⟨l,-⟩:=(h.rest.file f c).box.cell 0 rfl;obtain⟨z,A,k⟩:=(h.rest.file f c).own.shape;rw[k] at l;have u:=i.bytes _ (ZbE c);obtain⟨m,g⟩:∃ m,m=(fl d.files f).b.length:=⟨_,rfl⟩;have e:ZqV d.files (some f)=m:=g.symm;rw[e];rw[<-g] at l u;clear a ho h j i c k g e q
  go_enter func104,ntmps104
  go_upto_region 2 with fail
  go_region
  go_end0;exact⟨rfl,(H.out.setHead 1 (.int .i64 (U-(m:Int))) ⟨rfl,rfl,rfl⟩ rfl).keep (fun _ _=>rfl) zL,((Qj.refl _ _).setCell 1 (fun _=>H.out.fh) _).drewN 1⟩
theorem Bnd.waited (h:Bnd d N T) (c:Ch) (q:Int):Bnd { d with waits:=d.waits++[c],power:=q } (N+1) T:=
 ⟨by have:=h.files;show d.files.length<=_;omega,by have:=h.names;show d.kept.length+(d.waits++[c]).length<=_;simp;omega,h.bytes⟩
theorem Q1.drewN {L:Lay} (h:Q1 F w p L d u N) (q:Nat):Q1 F (w.drewN q) p L d u N:=h.keep (fun _ _=>rfl) zL
theorem ZjD (n:Int) (z:I64 n) (w:World) (h:Dsk F w p d N T) (O:N<=1000000) (B:T<=1000000000):
 Calls prog 69 #[ptr p,.int .i64 n] w fun e w'=>ZfU F w p (Qp d n).1 (Qp d n).2 (N+2) T e w':=by
 have P:=ZZ h;obtain⟨L,h,q,l,E,J⟩:=h;have c:=ZZ (ZgB n z w h);have H:=ZZ h;have j:=ZZ q;have R:=ZZ l;have u:=ZZ (And.intro E J);have ac:=Zod q l O B;have M:=ZZ (ZpW n z w h q l B (by omega))
 clear h q l E J ac;unfold Qp;by_cases i:d.power=0
 ·rw[if_pos i]
  rw[if_pos i,if_pos i] at c;clear i
  go_enter func69,ntmps69
  go_wp2_with fail
  refine c.o.mono ?_;rintro e w' ⟨rfl,rfl⟩;go_wp2;go_ret;exact ZfU.same P.o (by omega) zL
 rw[if_neg i];rw[if_neg i,if_neg i] at c;clear i
 cases ho:look (Q6 d) n with
 | none=>
  rw[ho] at c
  dsimp only [Option.map_none,Option.isSome_none,Bool.false_eq_true,if_false,ZpU] at c ⊢
  clear ho
  go_enter func69,ntmps69
  go_wp2_with fail
  refine c.o.mono ?_;rintro e w' ⟨rfl,rfl⟩;go_wp2;go_ret;exact ZfU.same P.o (by omega) zL
 | some f=>
  rw[ho] at c M
  dsimp only [Option.map_some,Option.isSome_some,if_true,ZpU] at c ⊢
  have C:=ZZ ho;have ae:=ZZ (j.o.dir.mayOf ho);clear ho z
  go_enter func69,ntmps69
  go_wp2_with fail
  refine c.o.mono ?_;rintro e w' ⟨rfl,rfl⟩
  go_wp2_with fail
  refine M.o.mono ?_;rintro e a ⟨rfl,I,K⟩;have ad:=ZZ I;have m:=ZZ K;clear I K
  go_wp2_with fail
  refine(ZvP n a).mono ?_;rintro e g ⟨rfl,t⟩;have v:Below a.heap.size a g:=by rw[t];exact(Below.refl _ _).alloc zL _
  have Y:g.heap.size=a.heap.size+1:=by rw[t];simp
  have S:Bk 3 g a.heap.size #[.int .i64 n]:=by rw[t];exact heap_alloc_new a _
  have X:=ZZ (ad.o.more v);have ab:Hid (ChV (Gr F a g) g L.ps (.take n) (.func (.func 157) #[] #[ptr a.heap.size])):=ZZ ⟨_,rfl,S,.inr ⟨Nat.le_refl _,by omega⟩⟩
  have y:Hid (Qj F w' g):=ZZ (m.o.trans (G:=fun _=>False) (Qj.ofBelow v) (fun _ _ hf=>hf.elim))
  have D:=ZZ (Zhr g X.o ab.o j.o ae.o.1 O (by have:=R.o.names;omega))
  clear v Y S t
  go_wp2_with fail
  refine D.o.mono ?_;rintro e x ⟨rfl,L3,Q,-,-,A⟩
  have V:Hid (Qj F w' x):=ZZ (y.o.trans A (fun k hk hf=>by
   rcases hf with hf | hf
   ·exact hf
   ·have:=m.o.size;omega))
  have W:=ZZ Q;clear Q A D
  go_wp2_with fail
  refine(Zcb x W.o u.o.2).mono ?_;rintro e W4 ⟨rfl,aa,U⟩;go_wp2;go_ret;refine⟨rfl,Gr (Gr F a g) g x,⟨L3,?_,?_,(R.o.waited (.take n) _).mono (by omega) zL,u.o.1,Zdb u.o.2⟩,V.o.trans U (fun k hk hf=>?_),fun k hk=>?_⟩
  ·have hu:=ZqZ j.o C.o (Zcv d.power)
   have Z:(Zj { d with waits:=d.waits++[.take n],power:=Zcv d.power }:Int)=(Zj d:Int)-(ZqV d.files (some f):Int):=by
    show _=(Zj d:Int)-((fl d.files f).b.length:Int);omega
   rw[Z];exact aa.mono (by omega)
  ·exact j.o.taken C.o _
  ·rcases hf with (hf | hf) | hf
   ·exact hf
   ·have:=m.o.size;omega
   ·have:=y.o.size;omega
  ·rcases hk with (hk | hk) | hk
   ·exact .inl hk
   ·have:=m.o.size;exact .inr (by omega)
   ·have:=y.o.size;exact .inr (by omega)
theorem Zrb (w:World) (a b c:Obj):(((w.alloc a).alloc b).alloc c).heap[w.heap.size]?=some a∧(((w.alloc a).alloc b).alloc c).heap[w.heap.size+1]?=some b∧(((w.alloc a).alloc b).alloc c).heap[w.heap.size+1+1]?=some c:=by
 have e:(w.alloc a).heap.size=w.heap.size+1:=by simp
 have d:((w.alloc a).alloc b).heap.size=w.heap.size+1+1:=by simp
 refine⟨?_,?_,?_⟩
 ·rw[Below.heap_alloc _ _ _ (by omega),Below.heap_alloc _ _ _ (by omega)]
  exact heap_alloc_new w a
 ·rw[Below.heap_alloc _ _ _ (by omega),<-e]
  exact heap_alloc_new _ b
 ·rw[<-d]
  exact heap_alloc_new _ c
theorem Zrc (n m:Int) (hn:I64 n) (O:I64 m) (w:World) (h:Dsk F w p d N T) (Y:N<=1000000) (Q:T<=1000000000):
 Calls prog 61 #[ptr p,.int .i64 n,.int .i64 m] w fun e w'=>ZfU F w p (Zam d n m).1 (Zam d n m).2 (N+2) T e w':=by
 have K:=ZZ h;obtain⟨L,h,x,u,U,W⟩:=h;have a:=ZZ (ZgB n hn w h);have H:=ZZ h;have q:=ZZ x;have t:=ZZ u;have j:=ZZ (And.intro U W);have ak:=Zod x u Y Q;have aj:=ZZ (ZpW m O w h x u Q (by omega))
 clear h x u U W ak;unfold Zam;by_cases c:d.power=0
 ·rw[if_pos c]
  rw[if_pos c,if_pos c] at a;clear c
  go_enter func61,ntmps61
  go_wp2_with fail
  refine a.o.mono ?_;rintro e w' ⟨rfl,rfl⟩;go_wp2;go_ret;exact ZfU.same K.o (by omega) zL
 rw[if_neg c];rw[if_neg c,if_neg c] at a;clear c
 cases ho:look (Q6 d) n with
 | none=>
  rw[ho] at a
  dsimp only [Option.map_none,Option.isSome_none,Bool.false_eq_true,if_false,ZpU] at a ⊢
  clear ho
  go_enter func61,ntmps61
  go_wp2_with fail
  refine a.o.mono ?_;rintro e w' ⟨rfl,rfl⟩;go_wp2;go_ret;exact ZfU.same K.o (by omega) zL
 | some f=>
  rw[ho] at a
  dsimp only [Option.map_some,Option.isSome_some,if_true,ZpU] at a ⊢
  have R:=ZZ ho;have ab:=ZZ (q.o.dir.mayOf ho);have l:=ZZ (Zmb m w);clear ho hn O
  cases hmn:ZfK m with
  | false=>
   rw[if_pos rfl];rw[hmn] at l;clear hmn
   go_enter func61,ntmps61
   go_wp2_with fail
   refine a.o.mono ?_;rintro e w' ⟨rfl,rfl⟩
   go_wp2_with fail
   refine l.o.mono ?_;rintro e w' ⟨rfl,rfl⟩;go_wp2;go_ret;exact ZfU.same K.o (by omega) zL
  | true=>
  rw[if_neg (by simp)]
  rw[hmn] at l;have Z:=ZZ hmn;clear hmn;by_cases i:n=m
  ·rw[if_pos i]
   have af:(n != m)=false:=by simpa using i
   clear i
   go_enter func61,ntmps61
   go_wp2_with fail
   refine a.o.mono ?_;rintro e w' ⟨rfl,rfl⟩
   go_wp2_with fail
   refine l.o.mono ?_;rintro e w' ⟨rfl,rfl⟩
   go_wp2_with fail
   refine(Zcb _ H.out j.o.2).mono ?_;rintro e W4 ⟨rfl,C,z⟩;go_wp2;go_ret;exact⟨rfl,F,⟨L,C.mono (by omega),q.o.power _,⟨by have:=t.o.files;show d.files.length<=_;omega,by have:=t.o.names;show d.kept.length+d.waits.length<=_;omega,t.o.bytes⟩,j.o.1,Zdb j.o.2⟩,z,fun _ hk=>.inl hk⟩
  rw[if_neg i];have af:(n != m)=true:=by simpa using i
  have A:=ZZ i;clear i
  go_enter func61,ntmps61
  go_wp2_with fail
  refine a.o.mono ?_;rintro e w' ⟨rfl,rfl⟩
  go_wp2_with fail
  refine l.o.mono ?_;rintro e w' ⟨rfl,rfl⟩
  go_wp2_with fail
  refine aj.o.mono ?_;rintro e b ⟨rfl,V,X⟩;have al:=ZZ V;have v:=ZZ X;clear V X
  go_wp2_with fail
  refine(Ztm n m (L.ps f) b).mono ?_;rintro e g ⟨rfl,y⟩;have B:Below b.heap.size b g:=by rw[y];exact(((Below.refl _ _).alloc zL _).alloc (by simp) _).alloc (by simp;omega) _
  have ag:g.heap.size=b.heap.size+1+1+1:=by rw[y];simp
  obtain⟨J,M,E⟩:=Zrb b (.cells #[.int .i64 n] 3) (.cells #[.int .i64 m] 3) (.cells #[ptr (L.ps f)] 115);rw[<-y] at J M E;have ae:=ZZ (al.o.more B);have ai:Hid (ChV (Gr F b g) g L.ps (.move n m f) (.func (.func 143) #[] #[ptr (b.heap.size+1+1),ptr (b.heap.size+1),ptr b.heap.size])):=ZZ ⟨_,_,_,rfl,J,M,E,.inr ⟨Nat.le_refl _,by omega⟩,.inr ⟨by omega,by omega⟩,.inr ⟨by omega,by omega⟩⟩
  have I:Hid (Qj F w' g):=ZZ (v.o.trans (G:=fun _=>False) (Qj.ofBelow B) (fun _ _ hf=>hf.elim))
  have S:=ZZ (Zhr g ae.o ai.o q.o ⟨ab.o.1,Z.o,A.o,ab.o.2⟩ Y (by have:=t.o.names;omega))
  clear B ag J M E y
  go_wp2_with fail
  refine S.o.mono ?_;rintro e D ⟨rfl,L3,aa,-,-,P⟩
  have ac:Hid (Qj F w' D):=ZZ (I.o.trans P (fun k hk hf=>by
   rcases hf with hf | hf
   ·exact hf
   ·have:=v.o.size;omega))
  have ad:=ZZ aa;clear aa P S
  go_wp2_with fail
  refine(Zcb D ad.o j.o.2).mono ?_;rintro e W4 ⟨rfl,C,z⟩;go_wp2;go_ret;refine⟨rfl,Gr (Gr F b g) g D,⟨L3,?_,?_,(t.o.waited (.move n m f) _).mono (by omega) zL,j.o.1,Zdb j.o.2⟩,ac.o.trans z (fun k hk hf=>?_),fun k hk=>?_⟩
  ·have hu:=ZqY q.o A.o R.o (Zcv d.power)
   have e1:(Zj { d with waits:=d.waits++[.move n m f],power:=Zcv d.power }:Int)=(Zj d:Int)-(ZqV d.files (look (Q6 d) m):Int):=by omega
   rw[e1];exact C.mono (by omega)
  ·exact q.o.moved R.o Z.o A.o _
  ·rcases hf with (hf | hf) | hf
   ·exact hf
   ·have:=v.o.size;omega
   ·have:=I.o.size;omega
  ·rcases hk with (hk | hk) | hk
   ·exact .inl hk
   ·have:=v.o.size;exact .inr (by omega)
   ·have:=I.o.size;exact .inr (by omega)
open Go.RowKit Go.ChangeShapes
theorem Zhu:prog.cellsOf 3=1:=by kernel_rfl
theorem Zrd:prog.cellsOf 23=1:=by kernel_rfl
theorem Zb (h:(Lit.int .i64 n).wf=true):I64 n:=by
 simpa[I64,Lit.wf,IntKind.min,IntKind.max,IntKind.signed,IntKind.bits] using h
section
variable {H:Type} {enc:TypeId × Value->H} {w:World} {base fuel:Nat} {held:Bool}
theorem ZpX {cs:List Value} {x:DataW H × List MemPlace} (h:DataW.trod enc prog w base (fun _=>true) held fuel 23 cs=some x):∃ v l,cs=[v]∧RdI w v l:=by
 rcases open_ints underlying23 underlying3 (by kernel_rfl) h with ⟨a,_⟩ | ⟨y,l,c,i,a,_,d,f,g,_,b,e⟩
 ·exact⟨_,[],a,RdI.nil _⟩
 ·exact⟨_,_,a,RdI.ofRow d f (by simpa using g) b e⟩
end
end Go.Proofs.YtnahjngbneicaaaGreatDoor
