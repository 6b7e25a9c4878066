import Derived.Test.YtnahjngbneicaaaGreatDoorPack1
import Derived.Test.YtnahjngbneicaaaGreatDoorPack2
import Derived.Maps.AppendAt
import Derived.Deep.QuietTactic
import Derived.BigQuiet
import Derived.Deep.DeepCutAuto
import Derived.Deep.RegionLaw
import Derived.Lib.LazyBuf
import Derived.ChangeSlices
import Derived.Deep.Slices
import Derived.WideShapes
namespace Go.Proofs.YtnahjngbneicaaaGreatDoor
open _root_.Go.Proofs.Tryz
open List (foldl_append length_append map_cons map_nil map_toArray)
set_option maxHeartbeats 2000000
set_option maxRecDepth 100000
open Go.RowKit
theorem Rd.only {w w':World} {v:Value} {l:List UInt8} (h:Rd w v l) {F:Nat->Prop} (e:Zap F w w') (g:∀ k,v.ownBlock=some k->¬ F k):Rd w' v l:=by
 obtain⟨ao,cap,rfl,p,i,n,c⟩:=h;refine⟨ao,cap,rfl,p,i,n,?_⟩;rcases c with c | ⟨b,off,rfl,h6⟩
 ·exact .inl c
 ·refine .inr ⟨b,off,rfl,fun j m=>?_⟩
  have d:=h6 j m;have f:b<w.heap.size:=World.block_lt_of_cell? w ⟨b,off+j,none⟩ d;rw[World.cell?_of_block (a:=⟨b,off+j,none⟩) (e.block b f (g b rfl))];exact d
theorem Bk.neMap {t:TypeId} {w:World} {b m n:Nat} {cs:Array Value} {f:Int->Option Nat} (h:Bk t w b cs) (a:Zct w m n f):b≠m:=a.apart h
theorem Own.shape {w:World} {B:Nat} {v:Value} {l:List UInt8} (h:Own w B v l):∃ ao cap,v=.slice ao l.length cap:=by
 obtain⟨ao,cap,a,_⟩:=h.rd;exact⟨ao,cap,a⟩
theorem Own.front {w:World} {B:Nat} {ao:Option Addr} {n cap:Nat} {l:List UInt8} (h:Own w B (.slice ao n cap) l) (k:Nat) (p:k<=l.length):Own w B (.slice ao k cap) (l.take k):=by
 obtain⟨t,i⟩:=h;have b:(l.take k).length=k:=by simp;omega
 refine⟨by rw[Zbi,Nat.mul_one],?_⟩
 rcases i with ⟨a,v⟩ | ⟨g,q,cur,a,d,m,x,f,j,c⟩
 ·left
  simp only [Value.slice.injEq] at a;obtain⟨rfl,rfl,rfl⟩:=a;have:k=0:=by omega
  subst this;exact⟨rfl,by rw[b]⟩
 ·right
  simp only [Value.slice.injEq] at a;obtain⟨rfl,u,rfl⟩:=a;refine⟨g,cap,cur,by rw[b],d,m,by rw[b];omega,f,j,?_⟩
  rw[Nat.mul_one] at c ⊢;rw[b];have e:Lib.byteCells (l.take k)=(Lib.byteCells l).take k:=by simp[Lib.byteCells]
  rw[e,<-c,List.take_take,Nat.min_eq_left p]
structure Zpp (w:World) (b:Nat) (v:Value) (x:Fl):Prop where
 box:Bk 117 w b #[v,.int .i64 (x.k:Int)]
 own:Own w 0 v x.b
theorem Zpp.keep {w w':World} {b:Nat} {v:Value} {x:Fl} (h:Zpp w b v x) (c:w'.heap[b]?=w.heap[b]?) (a:∀ g,v.ownBlock=some g->w'.heap[g]?=w.heap[g]?):Zpp w' b v x:=
 ⟨h.box.keep c,Zae h.own a⟩
def ChV (F:Nat->Prop) (w:World) (ps:Nat->Nat):Ch->Value->Prop
 | .give n f,v=>∃ b1 b2,v=.func (.func 139) #[] #[ptr b2,ptr b1]∧Bk 3 w b1 #[.int .i64 n]∧Bk 115 w b2 #[ptr (ps f)]∧F b1∧F b2
 | .move n tz f,v=>∃ b1 b2 b3,v=.func (.func 143) #[] #[ptr b3,ptr b2,ptr b1]∧Bk 3 w b1 #[.int .i64 n]∧Bk 3 w b2 #[.int .i64 tz]∧Bk 115 w b3 #[ptr (ps f)]∧F b1∧F b2∧F b3
 | .take n,v=>∃ b1,v=.func (.func 157) #[] #[ptr b1]∧Bk 3 w b1 #[.int .i64 n]∧F b1
def chOf:Ch->Option Nat
 | .give _ f=>some f
 | .move _ _ f=>some f
 | .take _=>none
theorem ChV.keep {F F':Nat->Prop} {w w':World} {ps q:Nat->Nat} {c:Ch} {v:Value} (h:ChV F w ps c v) (d:∀ k,F k->F' k) (t:∀ f,chOf c=some f->q f=ps f)
 (e:∀ k cs,F k->(Bk 3 w k cs∨Bk 115 w k cs)->w'.heap[k]?=w.heap[k]?):ChV F' w' q c v:=by
 cases c with
 | give n f=>
  obtain⟨j,l,rfl,a,i,b,g⟩:=h;exact⟨j,l,rfl,a.keep (e _ _ b (.inl a)),by rw[t f rfl];exact i.keep (e _ _ g (.inr i)),d _ b,d _ g⟩
 | move n tz f=>
  obtain⟨j,l,u,rfl,a,i,m,b,g,p⟩:=h;exact⟨j,l,u,rfl,a.keep (e _ _ b (.inl a)),i.keep (e _ _ g (.inl i)),by rw[t f rfl];exact m.keep (e _ _ p (.inr m)),d _ b,d _ g,d _ p⟩
 | take n=>
  obtain⟨j,rfl,a,b⟩:=h;exact⟨j,rfl,a.keep (e _ _ b (.inl a)),d _ b⟩
structure Lay where
 now:Nat
 kept:Nat
 wv:Value
 cs:List Value
 ps:Nat->Nat
 vs:Nat->Value
structure Zrp (F:Nat->Prop) (w:World) (L:Lay) (d:Dk) (N:Nat):Prop where
 now:Zct w L.now N (fun n=>(look (Zbk d) n).map L.ps)
 kept:Zct w L.kept N (fun n=>(look d.kept n).map L.ps)
 row:w.ownsRow 0 113 1 L.wv L.cs.length L.cs
 many:L.cs.length=d.waits.length
 wait:∀ (i:Nat) c v,d.waits[i]?=some c->L.cs[i]?=some v->ChV F w L.ps c v
 file:∀ i,i<d.files.length->Zpp w (L.ps i) (L.vs i) (fl d.files i)
 psn:∀ i j,i<d.files.length->j<d.files.length->i≠j->L.ps i≠L.ps j
 vsn:∀ i j,i<d.files.length->j<d.files.length->i≠j->∀ g,(L.vs i).ownBlock=some g->(L.vs j).ownBlock≠some g
 nk:L.now≠L.kept
 fn:F L.now
 fk:F L.kept
 fw:∀ g,L.wv.ownBlock=some g->F g
 fp:∀ i,i<d.files.length->F (L.ps i)
 fv:∀ i,i<d.files.length->∀ g,(L.vs i).ownBlock=some g->F g
def ZiC (L:Lay) (d:Dk) (u:Int):Array Value:=#[.int .i64 d.room,.int .i64 u,.map (some L.now),.map (some L.kept),L.wv,.int .i64 d.power]
structure ZaM (F:Nat->Prop) (w:World) (p:Nat) (L:Lay) (d:Dk) (u:Int) (N:Nat):Prop where
 head:Bk 69 w p (ZiC L d u)
 rest:Zrp F w L d N
 fh:F p
 lt:∀ k,F k->k<w.heap.size
theorem Zrp.keep {F:Nat->Prop} {w w':World} {L:Lay} {d:Dk} {N p:Nat} {cs:Array Value} (h:Zrp F w L d N) (a:Bk 69 w p cs) (b:∀ k,F k->k≠p->w'.heap[k]?=w.heap[k]?):Zrp F w' L d N where
 now:=h.now.keep (b _ h.fn (a.neMap h.now).symm)
 kept:=h.kept.keep (b _ h.fk (a.neMap h.kept).symm)
 row:=Zae h.row fun g f=>b g (h.fw g f) (by obtain⟨l,hb⟩:=Zeh h.row f;exact hb.ne a (by decide))
 many:=h.many
 wait:=fun i c v m n=>(h.wait i c v m n).keep (fun _ j=>j) (fun _ _=>rfl) (fun k l j hb=>b k j (by rcases hb with hb | hb <;> exact hb.ne a (by decide)))
 file:=fun i e=>(h.file i e).keep (b _ (h.fp i e) ((h.file i e).box.ne a (by decide))) fun g f=>b g (h.fv i e g f) (by obtain⟨l,hb⟩:=Zeh (h.file i e).own f;exact hb.ne a (by decide))
 psn:=h.psn
 vsn:=h.vsn
 nk:=h.nk
 fn:=h.fn
 fk:=h.fk
 fw:=h.fw
 fp:=h.fp
 fv:=h.fv
theorem Zrp.mono {F:Nat->Prop} {w:World} {L:Lay} {d:Dk} {N N':Nat} (h:Zrp F w L d N) (a:N<=N'):Zrp F w L d N':=
 ⟨h.now.mono a,h.kept.mono a,h.row,h.many,h.wait,h.file,h.psn,h.vsn,h.nk,h.fn,h.fk,h.fw,h.fp,h.fv⟩
theorem ZaM.setHead {F:Nat->Prop} {w:World} {p:Nat} {L:Lay} {d:Dk} {u:Int} {N:Nat} (h:ZaM F w p L d u N) (j:Nat) (x:Value) {d':Dk} {u':Int} (c:d'.files=d.files∧d'.kept=d.kept∧d'.waits=d.waits)
 (e:(ZiC L d u).setIfInBounds j x=ZiC L d' u'):ZaM F (w.setCell ⟨p,j,none⟩ x) p L d' u' N:=by
 refine⟨by rw[<-e];exact h.head.set j x,?_,h.fh,fun k f=>?_⟩
 ·have a:=h.rest.keep h.head (w':=w.setCell ⟨p,j,none⟩ x) (fun k _ b=>Below.heap_setCell _ _ _ _ b)
  obtain⟨l,fs,kp,v,i⟩:=d;obtain⟨g,n,m,y,t⟩:=d';obtain⟨rfl,rfl,rfl⟩:=c;exact⟨a.now,a.kept,a.row,a.many,a.wait,a.file,a.psn,a.vsn,a.nk,a.fn,a.fk,a.fw,a.fp,a.fv⟩
 ·have:=h.lt k f
  have q:=((Below.refl 0 w).setCell (p:=⟨p,j,none⟩) (Nat.zero_le _) x).size;omega
theorem ZaM.keep {F:Nat->Prop} {w w':World} {p:Nat} {L:Lay} {d:Dk} {u:Int} {N:Nat} (h:ZaM F w p L d u N) (b:∀ k,F k->w'.heap[k]?=w.heap[k]?) (c:w.heap.size<=w'.heap.size):ZaM F w' p L d u N:=
 ⟨h.head.keep (b p h.fh),h.rest.keep h.head (fun k a _=>b k a),h.fh,fun k a=>by have:=h.lt k a;omega⟩
theorem ZaM.only {F G:Nat->Prop} {w w':World} {p:Nat} {L:Lay} {d:Dk} {u:Int} {N:Nat} (h:ZaM F w p L d u N) (b:Zap G w w') (c:∀ k,F k->¬ G k):ZaM F w' p L d u N:=
 h.keep (fun k a=>b.block k (h.lt k a) (c k a)) b.size
theorem ZaM.cells {F:Nat->Prop} {w:World} {p:Nat} {L:Lay} {d:Dk} {u:Int} {N:Nat} (h:ZaM F w p L d u N):
 (w.cell? ⟨p,0,none⟩=some (.int .i64 d.room)∧w.cell? ⟨p,1,none⟩=some (.int .i64 u)∧w.cell? ⟨p,2,none⟩=some (.map (some L.now))∧w.cell? ⟨p,3,none⟩=some (.map (some L.kept))∧w.cell? ⟨p,4,none⟩=some L.wv∧w.cell? ⟨p,5,none⟩=some (.int .i64 d.power))∧
 w.frozen? ⟨p,1,none⟩=false∧w.frozen? ⟨p,3,none⟩=false∧w.frozen? ⟨p,4,none⟩=false∧w.frozen? ⟨p,5,none⟩=false:=
 ⟨⟨(h.head.cell 0 rfl).1,(h.head.cell 1 rfl).1,(h.head.cell 2 rfl).1,(h.head.cell 3 rfl).1,(h.head.cell 4 rfl).1,(h.head.cell 5 rfl).1⟩,(h.head.cell 1 rfl).2,(h.head.cell 3 rfl).2,(h.head.cell 4 rfl).2,(h.head.cell 5 rfl).2⟩
theorem ZaM.setFile {F F':Nat->Prop} {w w':World} {p:Nat} {L:Lay} {d:Dk} {u:Int} {N f:Nat} (h:ZaM F w p L d u N) (m:f<d.files.length) {v':Value} {x':Fl}
 (I:∀ k,F k->k≠L.ps f->(L.vs f).ownBlock≠some k->w'.heap[k]?=w.heap[k]?)
 (S:Zpp w' (L.ps f) v' x') (hr:v'.ownBlock=(L.vs f).ownBlock∨∀ g,v'.ownBlock=some g->w.heap.size<=g)
 (y:∀ k,F k->F' k) (V:∀ g,v'.ownBlock=some g->F' g) (R:∀ k,F' k->k<w'.heap.size):
 ZaM F' w' p { L with vs:=fun i=>if i=f then v' else L.vs i } { d with files:=d.files.set f x' } u N:=by
 have a:=h.rest;have K:=(a.file f m).box
 have M:∀ {t:TypeId} {k:Nat} {cs:Array Value},Bk t w k cs->F k->t≠117->t≠5->w'.heap[k]?=w.heap[k]?:=fun {t k cs} hb C G H=>I k C (hb.ne K G) fun b=>by
  obtain⟨D,q⟩:=Zeh (a.file f m).own b;exact(hb.ne q H) rfl
 have O:∀ {k n:Nat} {g:Int->Option Nat},Zct w k n g->F k->w'.heap[k]?=w.heap[k]?:=fun {k n g} hm C=>I k C (K.neMap hm).symm fun b=>by
  obtain⟨D,q⟩:=Zeh (a.file f m).own b;exact(q.neMap hm) rfl
 have B:(d.files.set f x').length=d.files.length:=List.length_set ..;refine⟨h.head.keep (M h.head h.fh (by decide) (by decide)),?_,y _ h.fh,R⟩
 refine⟨a.now.keep (O a.now a.fn),a.kept.keep (O a.kept a.fk),Zae a.row fun g b=>?_,a.many,fun i c v G H=>?_,fun i l=>?_,fun i j l z=>?_,fun i j l z J=>?_,a.nk,y _ a.fn,y _ a.fk,fun g b=>y g (a.fw g b),fun i l=>y _ (a.fp i (by rw[<-B];exact l)),fun i l=>?_⟩
 ·obtain⟨D,hb⟩:=Zeh a.row b
  exact M hb (a.fw g b) (by decide) (by decide)
 ·exact(a.wait i c v G H).keep y (fun _ _=>rfl) fun k D C hb=>by rcases hb with hb | hb <;> exact M hb C (by decide) (by decide)
 ·have x:i<d.files.length:=by rw[<-B];exact l
  show Zpp w' (L.ps i) (if i=f then v' else L.vs i) (fl (d.files.set f x') i)
  by_cases e:i=f
  ·rw[if_pos e,e,Zfg m]
   exact S
  ·rw[if_neg e,ZcF (fun T=>e T.symm)]
   refine(a.file i x).keep (I _ (a.fp i x) (a.psn i f x m e) fun b=>?_) fun g b=>I g (a.fv i x g b) ?_ (fun A=>a.vsn i f x m e g b A)
   ·obtain⟨D,q⟩:=Zeh (a.file f m).own b
    exact((a.file i x).box.ne q (by decide)) rfl
   ·obtain⟨D,q⟩:=Zeh (a.file i x).own b
    exact q.ne K (by decide)
 ·rw[B] at l z
  exact a.psn i j l z
 ·rw[B] at l z
  have Q:∀ i,i<d.files.length->i≠f->∀ g,(L.vs i).ownBlock=some g->v'.ownBlock≠some g:=fun i l U g b A=>by
   rcases hr with hr | hr
   ·exact a.vsn i f l m U g b (by rw[<-hr];exact A)
   ·have G:=hr g A
    have H:=h.lt g (a.fv i l g b);omega
  show ∀ g,(if i=f then v' else L.vs i).ownBlock=some g->(if j=f then v' else L.vs j).ownBlock≠some g
  intro g;by_cases E:i=f
  ·rw[if_pos E,if_neg (by rw[<-E];exact Ne.symm J)]
   exact fun b A=>Q j z (by rw[<-E];exact Ne.symm J) g A b
  ·rw[if_neg E]
   by_cases P:j=f
   ·rw[if_pos P]
    exact Q i l E g
   ·rw[if_neg P]
    exact a.vsn i j l z J g
 ·rw[B] at l
  show ∀ g,(if i=f then v' else L.vs i).ownBlock=some g->F' g
  intro g;by_cases e:i=f
  ·rw[if_pos e]
   exact V g
  ·rw[if_neg e]
   exact fun b=>y g (a.fv i l g b)
structure Bnd (d:Dk) (N T:Nat):Prop where
 files:d.files.length<=N
 names:d.kept.length+d.waits.length<=N
 bytes:∀ x ∈ d.files,x.b.length<=T
def Dsk (F:Nat->Prop) (w:World) (p:Nat) (d:Dk) (N T:Nat):Prop:=
 ∃ L,ZaM F w p L d (ZcL d) N∧OkD d∧Bnd d N T∧I64 d.room∧I64 d.power
theorem Dsk.only {F G:Nat->Prop} {w w':World} {p:Nat} {d:Dk} {N T:Nat} (h:Dsk F w p d N T) (e:Zap G w w') (b:∀ k,F k->¬ G k):Dsk F w' p d N T:=by
 obtain⟨L,c,a⟩:=h;exact⟨L,c.only e b,a⟩
theorem Dsk.below {F:Nat->Prop} {w w':World} {p:Nat} {d:Dk} {N T:Nat} (h:Dsk F w p d N T) (a:Below w.heap.size w w'):Dsk F w' p d N T:=
 h.only (G:=fun _=>False) (Zap.ofBelow a) (fun _ _ b=>b)
theorem Zpq {F:Nat->Prop} {p:Nat} {L:Lay} {d:Dk} {u:Int} {N:Nat} (w:World) (h:ZaM F w p L d u N):
 Calls prog 33 #[ptr p] w fun e w'=>e=.returned (.bool (d.power != 0))∧w'=w:=by
 obtain⟨⟨-,-,-,-,-,a⟩,-⟩:=h.cells
 go_enter func33,ntmps33
 go_wp2;go_ret;exact⟨rfl,rfl⟩
theorem Zpr (n:Int) (w:World):
 Calls prog 94 #[.int .i64 n] w fun e w'=>e=.returned (.bool (Zja n))∧w'=w:=by
 by_cases a:0<=n
 ·by_cases b:n<1048576
  ·have e:Zja n=true:=by simp[Zja,a,b]
   rw[e]
   go_enter func94,ntmps94
   go_wp2;go_ret;exact⟨Zho (by simp),rfl⟩
  ·have e:Zja n=false:=by simp[Zja,a,b]
   rw[e]
   go_enter func94,ntmps94
   go_wp2;go_ret;exact⟨Zho (by simp),rfl⟩
 ·have e:Zja n=false:=by simp[Zja,a]
  rw[e]
  go_enter func94,ntmps94
  go_wp2;go_ret;exact⟨rfl,rfl⟩
theorem Zps (a:Int) (n:Nat) (d:n<=1000000000000000) (w:World):
 Calls prog 72 #[.int .i64 a,.int .i64 (n:Int)] w fun e w'=>e=.returned (.int .i64 (Zcv a n:Int))∧w'=w:=by
 obtain⟨M,b⟩:∃ M:Int,M=(n:Int):=⟨_,rfl⟩;by_cases h:a<0
 ·have e:Zcv a n=0:=by simp[Zcv,h]
  rw[e,<-b];clear b
  go_enter func72,ntmps72
  go_wp2;go_ret;exact⟨rfl,rfl⟩
 ·have c:=Int.emod_nonneg a (show M+1≠0 by omega)
  have e:((Zcv a n:Nat):Int)=a % (M+1):=by
   rw[b] at c ⊢;rw[Zcv,if_neg h];omega
  rw[e,<-b];have f:0<=M∧M<=1000000000000000:=by omega
  clear e c b d n
  go_enter func72,ntmps72
  go_wp2;go_ret;exact⟨rfl,rfl⟩
theorem Zpt (q n:Int) (w:World):
 Calls prog 71 #[.int .i64 q,.int .i64 n] w fun e w'=>e=.returned (.int .i64 (if q=0 then 0 else max n 0))∧w'=w:=by
 by_cases h:q=0
 ·rw[if_pos h]
  subst h
  go_enter func71,ntmps71
  go_wp2;go_ret;exact⟨rfl,rfl⟩
 ·rw[if_neg h]
  have e:(q == 0)=false:=by simpa using h
  clear h
  go_enter func71,ntmps71
  go_wp2;go_ret;exact⟨rfl,rfl⟩
theorem Zfq {F:Nat->Prop} {p:Nat} {L:Lay} {d:Dk} {u:Int} {N:Nat} (w:World) (h:ZaM F w p L d u N) (k:I64 d.power):
 Calls prog 97 #[ptr p] w fun e w'=>e=.returned (.int .i64 0)∧ZaM F w' p L { d with power:=ZfK d.power } u N∧Zap F w w':=by
 have H:=ZZ h;obtain⟨⟨-,-,-,-,-,j⟩,-,-,-,l⟩:=h.cells;obtain⟨g,i⟩:=k;obtain⟨q,a⟩:∃ q,q=d.power:=⟨_,rfl⟩;rw[<-a] at j g i ⊢;by_cases f:q>0
 ·have b:Hid (ZfK q=q-1):=if_pos f
  have c:=ZZ a;clear h a
  go_enter func97,ntmps97
  go_wp2;go_ret;refine⟨rfl,?_,(Zap.refl _ _).setCell 5 (fun _=>H.o.fh) _⟩
  refine H.o.setHead 5 _ ⟨rfl,rfl,rfl⟩ ?_;rw[b.o];rfl
 ·have b:Hid (ZfK q=q):=if_neg f
  have c:=ZZ a;clear h a
  go_enter func97,ntmps97
  go_wp2;go_ret;rw[b.o,c.o];exact⟨rfl,H.o,Zap.refl _ _⟩
theorem Zzd {F:Nat->Prop} {p:Nat} {d:Dk} {N T:Nat} (n:Int) (j:I64 n) (w:World) (h:Dsk F w p d N T):
 Calls prog 30 #[ptr p,.int .i64 n] w fun e w'=>e=.returned (.tuple #[])∧Dsk F w' p (ZyD d n) N T∧Zap F w w':=by
 obtain⟨L,h,k,g,i,l⟩:=h;have H:=ZZ h;have a:=ZZ (And.intro k (And.intro g (And.intro i l)));have m:=ZZ j;obtain⟨⟨-,-,-,-,-,v⟩,-,-,-,y⟩:=h.cells;obtain⟨q,c⟩:∃ q,q=d.power:=⟨_,rfl⟩;have t:=ZZ c;rw[<-c] at v;clear h k g i l c j;have f:=ZZ (Zpt q n w);obtain⟨r,b⟩:∃ r,r=(if q=0 then(0:Int) else max n 0):=⟨_,rfl⟩
 rw[<-b] at f;have u:=ZZ b;clear b
 go_enter func30,ntmps30
 go_wp2_with fail
 refine f.o.mono ?_;rintro e w' ⟨rfl,rfl⟩;go_wp2;go_end0;refine⟨rfl,⟨L,?_,OkD.cut a.o.1 n,⟨a.o.2.1.files,a.o.2.1.names,a.o.2.1.bytes⟩,a.o.2.2.1,?_⟩,(Zap.refl _ _).setCell 5 (fun _=>H.o.fh) _⟩
 ·refine H.o.setHead 5 _ ⟨rfl,rfl,rfl⟩ ?_
  rw[u.o,t.o];rfl
 ·obtain⟨x,z⟩:=m.o
  unfold ZyD I64
  dsimp only
  split <;> omega
theorem ZAE (w:World) (room:Int) (G:I64 room):Dsk (fun k=>w.heap.size<=k∧k<(((w.alloc (.map #[] 0)).alloc (.map #[] 0)).alloc (.cells #[.int .i64 room,.int .i64 0,.map (some w.heap.size),.map (some (w.heap.size+1)),.slice none 0 0,.int .i64 (-1)] 69)).heap.size)
 (((w.alloc (.map #[] 0)).alloc (.map #[] 0)).alloc (.cells #[.int .i64 room,.int .i64 0,.map (some w.heap.size),.map (some (w.heap.size+1)),.slice none 0 0,.int .i64 (-1)] 69)) (w.heap.size+1+1) (Zmi room) 0 0:=by
 have u:=Zct.made w;obtain⟨d,l⟩:∃ d,d=w.alloc (.map #[] 0):=⟨_,rfl⟩;have t:d.heap.size=w.heap.size+1:=by rw[l];simp
 rw[<-l] at u ⊢;have f:=Zct.made d;have p:=u.keep (w':=d.alloc (.map #[] 0)) (Below.heap_alloc _ _ _ (by omega))
 obtain⟨a,y⟩:∃ a,a=d.alloc (.map #[] 0):=⟨_,rfl⟩;have B:a.heap.size=w.heap.size+1+1:=by rw[y];simp[t]
 rw[<-y] at f p ⊢;rw[t] at f;obtain⟨A,q⟩:∃ A:Array Value,A=#[.int .i64 room,.int .i64 0,.map (some w.heap.size),.map (some (w.heap.size+1)),.slice none 0 0,.int .i64 (-1)]:=⟨_,rfl⟩;rw[<-q];have m:=f.keep (w':=a.alloc (.cells A 69)) (Below.heap_alloc _ _ _ (by omega))
 have z:=p.keep (w':=a.alloc (.cells A 69)) (Below.heap_alloc _ _ _ (by omega))
 have e:Bk 69 (a.alloc (.cells A 69)) a.heap.size A:=heap_alloc_new a _;rw[B] at e;have D:(a.alloc (.cells A 69)).heap.size=w.heap.size+1+1+1:=by simp[B]
 obtain⟨n,E⟩:∃ n,n=a.alloc (.cells A 69):=⟨_,rfl⟩;rw[<-E] at m z e D ⊢;refine⟨⟨w.heap.size,w.heap.size+1,.slice none 0 0,[],fun _=>0,fun _=>.slice none 0 0⟩,⟨by rw[q] at e;exact e,?_,⟨by omega,by omega⟩,fun k H=>H.2⟩,Zwd room,⟨Nat.le_refl _,Nat.le_refl _,(fun x C=>by cases C)⟩,G,⟨by show(-9223372036854775808:Int)<=-1;omega,by show(-1:Int)<=9223372036854775807;omega⟩⟩
 refine⟨z,m,World.ownsRow_nil _ _ _ _,rfl,(fun i c v h=>by simp[Zmi] at h),(fun i b=>absurd b (Nat.not_lt_zero _)),(fun i j b=>absurd b (Nat.not_lt_zero _)),(fun i j b=>absurd b (Nat.not_lt_zero _)),(by show w.heap.size≠w.heap.size+1;omega),⟨by show w.heap.size<=w.heap.size;omega,by show w.heap.size<_;omega⟩,⟨by show w.heap.size<=w.heap.size+1;omega,by show w.heap.size+1<_;omega⟩,(fun g F=>by cases F),(fun i b=>absurd b (Nat.not_lt_zero _)),(fun i b=>absurd b (Nat.not_lt_zero _))⟩
theorem ZAF (room:Int) (a:I64 room) (w:World):
 Calls prog 9 #[.int .i64 room] w fun e w'=>∃ p,e=.returned (ptr p)∧Dsk (fun k=>w.heap.size<=k∧k<w'.heap.size) w' p (Zmi room) 0 0∧Below w.heap.size w w':=by
 have b:=ZZ a;clear a;have c:=@run_makeMap prog
 go_enter func9,ntmps9
 go_wp2;go_ret;exact⟨_,rfl,ZAE w room b.o,(((Below.refl _ w).alloc zL _).alloc (by simp) _).alloc (by simp;omega) _⟩
theorem ZjR {F:Nat->Prop} {p:Nat} {L:Lay} {d:Dk} {u:Int} {N:Nat} (n:Int) (l:I64 n) (w:World) (h:ZaM F w p L d u N):
 Calls prog 103 #[ptr p,.int .i64 n] w fun e w'=>e=.returned (.tuple #[Ztk (if d.power=0 then none else(look (Zbk d) n).map L.ps),.int .i64 (if d.power=0 then 11 else if(look (Zbk d) n).isSome then 0 else 8)])∧w'=w:=by
 have c:=ZZ (Zpq w h);obtain⟨⟨-,-,v,-,-,-⟩,-⟩:=h.cells;have b:=h.rest.now.look l;obtain⟨q,j⟩:∃ q,q=d.power:=⟨_,rfl⟩;obtain⟨o,g⟩:∃ o,o=look (Zbk d) n:=⟨_,rfl⟩;rw[<-g] at b;rw[<-j] at c;rw[<-j,<-g];clear h j g l;by_cases a:q=0
 ·subst a
  go_enter func103,ntmps103
  go_wp2_with fail
  refine c.o.mono ?_;rintro e w' ⟨rfl,rfl⟩;go_wp2;go_ret2;exact⟨rfl,rfl⟩
 ·rw[if_neg a,if_neg a]
  have t:(q != 0)=true:=by simpa using a
  rw[t] at c;clear a t
  cases o with
  | none=>
   have k:(Instr.lookup 65 (.map (some L.now)) (.int .i64 n) true).run prog w=.ok (.tuple #[.pointer none,.bool false]) w:=b;clear b
   go_enter func103,ntmps103
   go_wp2_with fail
   refine c.o.mono ?_;rintro e w' ⟨rfl,rfl⟩;go_wp2;go_ret2;exact⟨rfl,rfl⟩
  | some f=>
   have k:(Instr.lookup 65 (.map (some L.now)) (.int .i64 n) true).run prog w=.ok (.tuple #[.pointer (some ⟨L.ps f,0,none⟩),.bool true]) w:=b;clear b;obtain⟨x,i⟩:∃ x,x=L.ps f:=⟨_,rfl⟩;have m:Ztk (Option.map L.ps (some f))=.pointer (some ⟨x,0,none⟩):=by rw[i];rfl
   rw[<-i] at k;rw[m];clear i m
   go_enter func103,ntmps103
   go_wp2_with fail
   refine c.o.mono ?_;rintro e w' ⟨rfl,rfl⟩;go_wp2;go_ret2;exact⟨rfl,rfl⟩
def Gr (F:Nat->Prop) (w w':World) (k:Nat):Prop:=F k∨(w.heap.size<=k∧k<w'.heap.size)
theorem Gr.lt {F:Nat->Prop} {w w':World} (b:w.heap.size<=w'.heap.size) (a:∀ k,F k->k<w.heap.size):∀ k,Gr F w w' k->k<w'.heap.size:=by
 rintro k (h | h)
 ·have:=a k h;omega
 ·exact h.2
theorem Zze (n:Int) (x:Nat) (w:World):
 Calls prog 96 #[.int .i64 n,ptr x] w fun e w'=>e=.returned (.func (.func 139) #[] #[ptr (w.heap.size+1),ptr w.heap.size])∧w'=(w.alloc (.cells #[.int .i64 n] 3)).alloc (.cells #[ptr x] 115):=by
 have a:∀ (fn:Fn) (first cap:Array Value) (w:World),(Instr.makeFunc fn first cap).run prog w=.ok (.func fn first cap) w:=fun _ _ _ _=>rfl
 go_enter func96,ntmps96
 go_wp2;go_ret;exact⟨rfl,rfl⟩
theorem ZwC (n a:Int) (x:Nat) (w:World):
 Calls prog 105 #[.int .i64 n,.int .i64 a,ptr x] w fun e w'=>e=.returned (.func (.func 143) #[] #[ptr (w.heap.size+1+1),ptr (w.heap.size+1),ptr w.heap.size])∧w'=((w.alloc (.cells #[.int .i64 n] 3)).alloc (.cells #[.int .i64 a] 3)).alloc (.cells #[ptr x] 115):=by
 have b:∀ (fn:Fn) (first cap:Array Value) (w:World),(Instr.makeFunc fn first cap).run prog w=.ok (.func fn first cap) w:=fun _ _ _ _=>rfl
 go_enter func105,ntmps105
 go_wp2;go_ret;exact⟨rfl,rfl⟩
theorem Zzf (n:Int) (w:World):
 Calls prog 110 #[.int .i64 n] w fun e w'=>e=.returned (.func (.func 157) #[] #[ptr w.heap.size])∧w'=w.alloc (.cells #[.int .i64 n] 3):=by
 have a:∀ (fn:Fn) (first cap:Array Value) (w:World),(Instr.makeFunc fn first cap).run prog w=.ok (.func fn first cap) w:=fun _ _ _ _=>rfl
 go_enter func110,ntmps110
 go_wp2;go_ret;exact⟨rfl,rfl⟩
theorem Zfr {n:Int} (h:Zja n=true):I64 n:=by
 simp only [Zja,Bool.and_eq_true,decide_eq_true_eq] at h;exact⟨by omega,by omega⟩
def ZnU (w:World) (b N:Nat) (ps:Nat->Nat) (g:Int->Option Nat) (c:Ch) (e:Ending) (w':World):Prop:=
 e=.returned (.tuple #[])∧Zct w' b (N+1) (fun n=>(chF g c n).map ps)∧w.grownBy w' (some b)
theorem ZfW (w:World) {c:Array Oper} {rest:List Oper} {o:Oper} {a:Act} {Q:Exit->Act->World->Prop} (n:o.guard=none) (m x:Operand)
 (e:o.op=.call { callee:=.builtin .delete,args:=#[m,x],argTypes:=#[65,3] })
 (b N:Nat) (f:Int->Option Nat) (p:Int) (l:a.eval m=.map (some b)) (g:a.eval x=.int .i64 p) (d:Zct w b N f) (t:I64 p)
 (h:∀ w',Zct w' b N (fun m=>if m=p then none else f m)->w.grownBy w' (some b)->wpList prog c Q rest (a.put o.dst (.tuple #[])) w'):wpList prog c Q (o::rest) a w:=
 wpList_plain n fun _ j=>by
  obtain⟨w',i,q,k⟩:=d.del t o.type;unfold Oper.wp execOp;simp only [e,resolve,invoke,builtin,Sem.run_bind,Sem.run_pure,Result.andThen_ok,map_toArray,map_cons,map_nil,l,g,i];exact j _ _ (h w' q k)
theorem Zmn (w:World) {c:Array Oper} {rest:List Oper} {o:Oper} {a:Act} {Q:Exit->Act->World->Prop} (l:o.guard=none) (m:Operand)
 (e:o.op=.call { callee:=.builtin .clear,args:=#[m],argTypes:=#[65] })
 (b N:Nat) (f:Int->Option Nat) (k:a.eval m=.map (some b)) (d:Zct w b N f)
 (h:∀ w',Zct w' b 0 (fun _=>none)->w.grownBy w' (some b)->wpList prog c Q rest (a.put o.dst (.tuple #[])) w'):wpList prog c Q (o::rest) a w:=
 wpList_plain l fun _ i=>by
  obtain⟨w',g,n,j⟩:=d.clear o.type;unfold Oper.wp execOp;simp only [e,resolve,invoke,builtin,Sem.run_bind,Sem.run_pure,Result.andThen_ok,map_toArray,map_cons,map_nil,k,g];exact i _ _ (h w' n j)
theorem ZkG {a b c:World} {r:Nat} (h:a.grownBy b (some r)) (k:b.grownBy c (some r)):a.grownBy c (some r):=h.andThen k (fun _ d=>.inr d)
theorem Zpu {n:Int} {f:Nat} (i:Zja n=true) {t j b N:Nat} {ps:Nat->Nat} {g:Int->Option Nat} (w:World) (a:Bk 3 w t #[.int .i64 n]) (k:Bk 115 w j #[ptr (ps f)]) (d:Zct w b N (fun n=>(g n).map ps)) (l:N<=10000000):
 Calls prog 139 #[.map (some b),ptr j,ptr t] w fun e w'=>ZnU w b N ps g (.give n f) e w':=by
 obtain⟨A,u,h,m⟩:=d.put (p:=n) (ps f) (Zfr i) l
 have y:Hid (Zct A b (N+1) (fun n'=>(chF g (.give n f) n').map ps)):=ZZ (h.fun fun q _=>by
  show(if q=n then some (ps f) else(g q).map ps)=(if q=n then some f else g q).map ps
  split <;> rfl)
 have v:=ZZ m;obtain⟨B,-⟩:=a.cell 0 rfl;obtain⟨z,-⟩:=k.cell 0 rfl;obtain⟨x,c⟩:∃ x,x=ps f:=⟨_,rfl⟩;rw[<-c] at u z;clear h m d a k c i l
 go_enter func139,ntmps139
 go_wp2;go_end0;exact⟨rfl,y.o,v.o⟩
theorem Zpv {n a:Int} {f:Nat} (A:Zja n=true) (u:Zja a=true) {l B y b N:Nat} {ps:Nat->Nat} {g:Int->Option Nat} (w:World) (d:Bk 3 w l #[.int .i64 n]) (C:Bk 3 w B #[.int .i64 a]) (v:Bk 115 w y #[ptr (ps f)]) (i:Zct w b N (fun n=>(g n).map ps)) (D:N<=10000000):
 Calls prog 143 #[.map (some b),ptr y,ptr B,ptr l] w fun e w'=>ZnU w b N ps g (.move n a f) e w':=by
 obtain⟨J,G,z,k⟩:=i.put (p:=a) (ps f) (Zfr u) D;obtain⟨L,-⟩:=C.cell 0 rfl;obtain⟨F,-⟩:=v.cell 0 rfl;obtain⟨K,-⟩:=(d.keep (k.block l d.lt (by intro e;exact(d.neMap i) (Option.some.inj e)))).cell 0 rfl
 have I:=ZZ z;have E:=ZZ A
 have H:Hid (∀ c,Zct c b (N+1) (fun m=>if m=n then none else if m=a then some (ps f) else(g m).map ps)->J.grownBy c (some b)->ZnU w b N ps g (.move n a f) (.returned (.tuple #[])) c):=ZZ (fun c j h=>by
  refine⟨rfl,j.fun fun q _=>?_,ZkG k h⟩
  show(if q=n then none else if q=a then some (ps f) else(g q).map ps)=(if q=n then none else if q=a then some f else g q).map ps
  split
  ·rfl
  ·split <;> rfl)
 obtain⟨x,t⟩:∃ x,x=ps f:=⟨_,rfl⟩;rw[<-t] at G F;clear z k i d C v t A u D
 go_enter func143,ntmps143
 go_wp2_with(first | (at_delete;refine ZfW _ rfl _ _ rfl b _ _ n rfl rfl I.o (Zfr E.o) ?_;intro c j h))
 go_end0;exact H.o _ j h
theorem Zpw {n:Int} (d:Zja n=true) {f b N:Nat} {ps:Nat->Nat} {g:Int->Option Nat} (w:World) (a:Bk 3 w f #[.int .i64 n]) (c:Zct w b N (fun n=>(g n).map ps)):
 Calls prog 157 #[.map (some b),ptr f] w fun e w'=>ZnU w b N ps g (.take n) e w':=by
 obtain⟨l,-⟩:=a.cell 0 rfl;have k:=ZZ c;have h:=ZZ d;clear c d a
 go_enter func157,ntmps157
 go_wp2_with(first | (at_delete;refine ZfW _ rfl _ _ rfl b _ _ n rfl rfl k.o (Zfr h.o) ?_;intro m j i))
 go_end0;refine⟨rfl,(j.mono (Nat.le_succ _)).fun fun q _=>?_,i⟩
 show(if q=n then none else(g q).map ps)=(if q=n then none else g q).map ps
 split <;> rfl
theorem ZAG:(prog.info? 113).map (fun i=>(i.zero,i.size,i.bytes))=some (some .nilFunc,1,8):=by kernel_rfl
theorem ZnV (w:World) (ty:TypeId) (v:Value) (cs:List Value) (h:w.ownsRow 0 113 1 v cs.length cs) (fn:Fn) (a b:Array Value) (p:cs.length<=10000000):
 ∃ v' w',(Builtin.append_ #[67,67] ty #[v,.slice (some ⟨w.heap.size,0,none⟩) 1 1]).run prog (w.alloc (.cells #[.func fn a b] 113))=.ok v' w'∧
  w'.ownsRow 0 113 1 v' (cs++[Value.func fn a b]).length (cs++[Value.func fn a b])∧(w.alloc (.cells #[.func fn a b] 113)).grownBy w' v.ownBlock∧(v'.ownBlock=v.ownBlock∨v'.ownBlock=some (w.heap.size+1)):=by
 obtain⟨g,i,m,k,l⟩:=info_parts ZAG
 obtain⟨v',w',f,e,n,_,hl⟩:=run_append_own_at (P:=prog) (w.alloc (.cells #[.func fn a b] 113)) 0 67 ty 113 g .nilFunc 1 8 underlying67 i m k l rfl (by decide) v cs.length cs (World.ownsRow.alloc h _)
  ⟨w.heap.size,0,none⟩ 1 1 [.func fn a b] rfl (fun j u c=>by
   match j,c with
   | 0,c=>simp at c;subst c;simp[Addr.add]) (fun u d=>by simp at d;subst d;rfl) (by unfold maxLen;omega) (by omega) (Nat.zero_le _)
 refine⟨v',w',f,?_,n,?_⟩
 ·rw[length_append]
  exact e
 ·rcases hl with hl | hl
  ·exact .inl hl
  ·exact .inr (by rw[hl];simp)
theorem ZdC (w:World) {d:Array Oper} {rest:List Oper} {o:Oper} {a:Act} {Q:Exit->Act->World->Prop} (l:o.guard=none) (s x:Operand)
 (e:o.op=.call { callee:=.builtin .append,args:=#[s,x],argTypes:=#[67,67] })
 (v:Value) (cs:List Value) (k:a.eval s=v) (h:w.ownsRow 0 113 1 v cs.length cs) (fn:Fn) (b c:Array Value) (f:a.eval x=.slice (some ⟨w.heap.size,0,none⟩) 1 1) (n:cs.length<=10000000)
 (i:∀ v' w',w'.ownsRow 0 113 1 v' (cs++[Value.func fn b c]).length (cs++[Value.func fn b c])->(w.alloc (.cells #[.func fn b c] 113)).grownBy w' v.ownBlock->(v'.ownBlock=v.ownBlock∨v'.ownBlock=some (w.heap.size+1))->
  wpList prog d Q rest (a.put o.dst v') w'):wpList prog d Q (o::rest) a (w.alloc (.cells #[.func fn b c] 113)):=
 wpList_plain l fun _ q=>by
  obtain⟨v',w',g,m,j,p⟩:=ZnV w o.type v cs h fn b c n;unfold Oper.wp execOp;simp only [e,resolve,invoke,builtin,Sem.run_bind,Sem.run_pure,Result.andThen_ok,map_toArray,map_cons,map_nil,k,f,g];exact q _ _ (i v' w' m j p)
theorem Zpx {m:Nat} {c:Ch} (h:ZvY m c):∀ n a f,c=.move n a f->n≠a:=by
 rintro n a f rfl;exact h.2.2.1
theorem ZwD (d:Dk) (c:Ch):Zbk { d with waits:=d.waits++[c] }=chD (Zbk d) c:=by
 show(d.waits++[c]).foldl chD d.kept=_;rw[foldl_append];rfl
theorem ZaM.addWait {F:Nat->Prop} {w q f:World} {p:Nat} {L:Lay} {d:Dk} {u:Int} {N:Nat} {c:Ch} {fn:Fn} {x y:Array Value} {v':Value} (h:ZaM F w p L d u N) (Y:ChV F w L.ps c (.func fn x y)) (aa:OkD d) (ab:ZvY d.files.length c)
 (I:w.grownBy q (some L.now)) (A:Zct q L.now (N+1) (fun n=>(chF (look (Zbk d)) c n).map L.ps))
 (G:f.ownsRow 0 113 1 v' (L.cs++[Value.func fn x y]).length (L.cs++[Value.func fn x y])) (C:(q.alloc (.cells #[.func fn x y] 113)).grownBy f L.wv.ownBlock) (hv:v'.ownBlock=L.wv.ownBlock∨v'.ownBlock=some (q.heap.size+1)):
 ZaM (Gr F w f) (f.setCell ⟨p,4,none⟩ v') p { L with wv:=v',cs:=L.cs++[Value.func fn x y] } { d with waits:=d.waits++[c] } u (N+1)∧Zap F w (f.setCell ⟨p,4,none⟩ v'):=by
 have a:=h.rest;have ad:=I.size;have ac:q.heap.size+1<=f.heap.size:=by have:=C.size;simpa using this
 have W:(f.setCell ⟨p,4,none⟩ v').heap.size=f.heap.size:=by simp
 have O:∀ k,F k->k≠L.now->L.wv.ownBlock≠some k->f.heap[k]?=w.heap[k]?:=fun k l H J=>by
  have B:=h.lt k l;rw[C.block k (by simp;omega) (fun e=>J e.symm),Below.heap_alloc _ _ _ (by omega),I.block k B (fun e=>H (Option.some.inj e))]
 have E:∀ k,F k->k≠L.now->L.wv.ownBlock≠some k->k≠p->(f.setCell ⟨p,4,none⟩ v').heap[k]?=w.heap[k]?:=fun k l H J hp=>by
  rw[Below.heap_setCell _ _ _ _ hp,O k l H J]
 have P:∀ {t:TypeId} {k:Nat} {cs:Array Value},Bk t w k cs->t≠113->L.wv.ownBlock≠some k:=fun hb ht j=>by
  obtain⟨D,z⟩:=Zeh a.row j;exact(hb.ne z ht) rfl
 have R:∀ {k n:Nat} {g:Int->Option Nat},Zct w k n g->L.wv.ownBlock≠some k:=fun A j=>by
  obtain⟨D,z⟩:=Zeh a.row j;exact(z.neMap A) rfl
 have K:∀ {t:TypeId} {k:Nat} {cs:Array Value},Bk t w k cs->F k->t≠113->t≠69->(f.setCell ⟨p,4,none⟩ v').heap[k]?=w.heap[k]?:=fun hb l U Z=>
  E _ l (hb.neMap a.now) (P hb U) (hb.ne h.head Z)
 have Q:L.now≠p:=(h.head.neMap a.now).symm;have M:Bk 69 f p (ZiC L d u):=h.head.keep (O p h.fh Q.symm (P h.head (by decide)))
 have T:∀ g,v'.ownBlock=some g->Gr F w f g:=fun g j=>by
  rcases hv with hv | hv
  ·exact .inl (a.fw g (by rw[<-hv];exact j))
  ·rw[hv] at j
   obtain rfl:=Option.some.inj j;exact .inr ⟨by omega,by have:=(World.ownsRow.lt G _ hv).2;omega⟩
 refine⟨⟨M.set 4 v',?_,.inl h.fh,fun k E=>?_⟩,?_⟩
 ·refine⟨?_,?_,?_,?_,?_,?_,a.psn,a.vsn,a.nk,.inl a.fn,.inl a.fk,T,fun i b=>.inl (a.fp i b),fun i b g j=>.inl (a.fv i b g j)⟩
  ·have e:∀ n,(look (Zbk { d with waits:=d.waits++[c] }) n).map L.ps=(chF (look (Zbk d)) c n).map L.ps:=fun n=>by rw[ZwD,Zgn aa.dir.rise c (Zpx ab)]
   refine(A.keep (w':=f.setCell ⟨p,4,none⟩ v') ?_).fun fun n _=>(e n).symm
   rw[Below.heap_setCell _ _ _ _ Q,C.block L.now (by simp;have:=A.lt;omega) (fun e=>R a.now e.symm),Below.heap_alloc _ _ _ A.lt]
  ·exact(a.kept.mono (Nat.le_succ N)).keep (E _ a.fk (Ne.symm a.nk) (R a.kept) (h.head.neMap a.kept).symm)
  ·exact Zae G fun g j=>Below.heap_setCell _ _ _ _ (by
    obtain⟨D,z⟩:=Zeh G j
    exact z.ne M (by decide))
  ·rw[length_append,length_append,a.many]
   rfl
  ·intro i c' v b m
   have S:∀ c v,ChV F w L.ps c v->ChV (Gr F w f) (f.setCell ⟨p,4,none⟩ v') L.ps c v:=fun c v V=>V.keep (fun _ l=>.inl l) (fun _ _=>rfl) fun k D l hb=>by
    rcases hb with hb | hb <;> exact K hb l (by decide) (by decide)
   rw[List.getElem?_append] at b m;rw[a.many] at m;by_cases B:i<d.waits.length
   ·rw[if_pos B] at b m
    exact S _ _ (a.wait i c' v b m)
   ·rw[if_neg B] at b m
    have e0:i-d.waits.length=0:=by
     have:=(List.getElem?_eq_some_iff.1 b).1;simp at this;omega
    rw[e0] at b m;simp only [List.getElem?_cons_zero,Option.some.injEq] at b m;rw[<-b,<-m];exact S _ _ Y
  ·intro i b
   refine(a.file i b).keep (K (a.file i b).box (a.fp i b) (by decide) (by decide)) fun g j=>?_
   obtain⟨D,hb⟩:=Zeh (a.file i b).own j;exact K hb (a.fv i b g j) (by decide) (by decide)
 ·rw[W]
  exact Gr.lt (by omega) h.lt k E
 ·have X:Zap F w q:=Zap.ofGrown I fun k e _=>by obtain rfl:=Option.some.inj e;exact a.fn
  have o2:Zap F (q.alloc (.cells #[.func fn x y] 113)) f:=Zap.ofGrown C fun k e _=>a.fw k e
  exact((X.alloc _).trans o2 (fun _ _ l=>l)).setCell 4 (fun _=>h.fh) v'
theorem ZhH {w:World} {base n s:Nat} {t:TypeId} {v:Value} {xs:List Value} (h:w.ownsRow base t s v n xs):∃ ao m b,v=.slice ao m b:=by
 rcases h.2 with ⟨a,_⟩ | ⟨g,cap,cur,a,_⟩
 ·exact⟨_,_,_,a⟩
 ·exact⟨_,_,_,a⟩
theorem ZwE (F:Nat->Prop) (w b:World) (a:Addr) (v:Value):Gr F w (b.setCell a v)=Gr F w b:=by
 funext k
 simp[Gr]
def ZAH (F:Nat->Prop) (w:World) (p:Nat) (L:Lay) (d:Dk) (u:Int) (N:Nat) (c:Ch) (e:Ending) (w':World):Prop:=
 e=.returned (.tuple #[])∧∃ L',ZaM (Gr F w w') w' p L' { d with waits:=d.waits++[c] } u (N+1)∧L'.ps=L.ps∧L'.vs=L.vs∧Zap F w w'
theorem ZkH {F:Nat->Prop} {p:Nat} {L:Lay} {d:Dk} {u:Int} {N:Nat} {c:Ch} {cv:Value} (w:World) (h:ZaM F w p L d u N) (hc:ChV F w L.ps c cv) (ac:OkD d) (ad:ZvY d.files.length c) (hN:N<=1000000) (hW:d.waits.length<=1000000):
 Calls prog 95 #[ptr p,cv] w fun e w'=>ZAH F w p L d u N c e w':=by
 have H:=ZZ h;have aa:=ZZ ac;have G:=ZZ ad;obtain⟨⟨-,-,c2,-,-,-⟩,-⟩:=h.cells;have q:Hid (L.now≠p):=ZZ (h.head.neMap h.rest.now).symm
 have ab:Hid (∀ g,L.wv.ownBlock=some g->g≠L.now):=ZZ (fun g l=>by
  obtain⟨Z,I⟩:=Zeh h.rest.row l
  exact I.neMap h.rest.now)
 clear h ac ad
 cases c with
 | give n f=>
  obtain⟨x,U,rfl,t,W,M,f2⟩:=hc;have V:Hid (ChV F w L.ps (.give n f) (.func (.func 139) #[] #[ptr U,ptr x])):=ZZ ⟨x,U,rfl,t,W,M,f2⟩;have R:=ZZ (Zpu (f:=f) G.o.1 w t W H.o.rest.now (by omega))
  go_enter func95,ntmps95
  go_wp2_with fail
  refine R.o.mono ?_;rintro e i ⟨rfl,v,b⟩;have S:=ZZ v;have a:=ZZ b;have D:=H.o.head.keep (b.block p H.o.head.lt (fun e=>q.o (Option.some.inj e).symm))
  obtain⟨T,J⟩:=D.cell 4 rfl;have E:Hid (i.ownsRow 0 113 1 L.wv L.cs.length L.cs):=ZZ (Zae H.o.rest.row fun g l=>b.block g (World.ownsRow.lt H.o.rest.row g l).2 (fun e=>ab.o g l (Option.some.inj e)))
  clear v b D;have A:Hid (p<i.heap.size):=ZZ (Nat.lt_of_lt_of_le H.o.head.lt a.o.size)
  go_wp2_with(at_builtin;refine(fun(h:True->_)=>h trivial) ?_)
  intro _;refine ZdC i rfl _ _ rfl L.wv L.cs rfl E.o _ _ _ rfl (by have:=H.o.rest.many;omega) ?_
  intro v' B k j C;have O:=ZZ k;have P:=ZZ j;have Y:=ZZ C
  have z:Bk 69 B p (ZiC L d u):=(H.o.head.keep (a.o.block p H.o.head.lt (fun e=>q.o (Option.some.inj e).symm))).keep ((j.block p (by simp;have:=A.o;omega) (fun e=>by
   obtain⟨Z,I⟩:=Zeh E.o e.symm
   exact(I.ne (H.o.head.keep (a.o.block p H.o.head.lt (fun e=>q.o (Option.some.inj e).symm))) (by decide)) rfl)).trans (Below.heap_alloc _ _ _ A.o))
  obtain⟨d4,g4⟩:=z.cell 4 rfl;obtain⟨ao,Q,K,rfl⟩:=ZhH k;clear k j C z T J;go_wp2;go_end0;obtain⟨y,X⟩:=H.o.addWait V.o aa.o G.o a.o S.o O.o P.o Y.o;rw[<-ZwE F w B ⟨p,4,none⟩ (.slice ao Q K)] at y;exact⟨rfl,_,y,rfl,rfl,X⟩
 | move n m f=>
  obtain⟨x,U,b3,rfl,t,W,h3,M,f2,f3⟩:=hc;have V:Hid (ChV F w L.ps (.move n m f) (.func (.func 143) #[] #[ptr b3,ptr U,ptr x])):=ZZ ⟨x,U,b3,rfl,t,W,h3,M,f2,f3⟩;have R:=ZZ (Zpv (f:=f) G.o.1 G.o.2.1 w t W h3 H.o.rest.now (by omega))
  go_enter func95,ntmps95
  go_wp2_with fail
  refine R.o.mono ?_;rintro e i ⟨rfl,v,b⟩;have S:=ZZ v;have a:=ZZ b;have D:=H.o.head.keep (b.block p H.o.head.lt (fun e=>q.o (Option.some.inj e).symm))
  obtain⟨T,J⟩:=D.cell 4 rfl;have E:Hid (i.ownsRow 0 113 1 L.wv L.cs.length L.cs):=ZZ (Zae H.o.rest.row fun g l=>b.block g (World.ownsRow.lt H.o.rest.row g l).2 (fun e=>ab.o g l (Option.some.inj e)))
  clear v b D;have A:Hid (p<i.heap.size):=ZZ (Nat.lt_of_lt_of_le H.o.head.lt a.o.size)
  go_wp2_with(at_builtin;refine(fun(h:True->_)=>h trivial) ?_)
  intro _;refine ZdC i rfl _ _ rfl L.wv L.cs rfl E.o _ _ _ rfl (by have:=H.o.rest.many;omega) ?_
  intro v' B k j C;have O:=ZZ k;have P:=ZZ j;have Y:=ZZ C
  have z:Bk 69 B p (ZiC L d u):=(H.o.head.keep (a.o.block p H.o.head.lt (fun e=>q.o (Option.some.inj e).symm))).keep ((j.block p (by simp;have:=A.o;omega) (fun e=>by
   obtain⟨Z,I⟩:=Zeh E.o e.symm
   exact(I.ne (H.o.head.keep (a.o.block p H.o.head.lt (fun e=>q.o (Option.some.inj e).symm))) (by decide)) rfl)).trans (Below.heap_alloc _ _ _ A.o))
  obtain⟨d4,g4⟩:=z.cell 4 rfl;obtain⟨ao,Q,K,rfl⟩:=ZhH k;clear k j C z T J;go_wp2;go_end0;obtain⟨y,X⟩:=H.o.addWait V.o aa.o G.o a.o S.o O.o P.o Y.o;rw[<-ZwE F w B ⟨p,4,none⟩ (.slice ao Q K)] at y;exact⟨rfl,_,y,rfl,rfl,X⟩
 | take n=>
  obtain⟨x,rfl,t,M⟩:=hc;have V:Hid (ChV F w L.ps (.take n) (.func (.func 157) #[] #[ptr x])):=ZZ ⟨x,rfl,t,M⟩;have R:=ZZ (Zpw G.o w t H.o.rest.now)
  go_enter func95,ntmps95
  go_wp2_with fail
  refine R.o.mono ?_;rintro e i ⟨rfl,v,b⟩;have S:=ZZ v;have a:=ZZ b;have D:=H.o.head.keep (b.block p H.o.head.lt (fun e=>q.o (Option.some.inj e).symm))
  obtain⟨T,J⟩:=D.cell 4 rfl;have E:Hid (i.ownsRow 0 113 1 L.wv L.cs.length L.cs):=ZZ (Zae H.o.rest.row fun g l=>b.block g (World.ownsRow.lt H.o.rest.row g l).2 (fun e=>ab.o g l (Option.some.inj e)))
  clear v b D;have A:Hid (p<i.heap.size):=ZZ (Nat.lt_of_lt_of_le H.o.head.lt a.o.size)
  go_wp2_with(at_builtin;refine(fun(h:True->_)=>h trivial) ?_)
  intro _;refine ZdC i rfl _ _ rfl L.wv L.cs rfl E.o _ _ _ rfl (by have:=H.o.rest.many;omega) ?_
  intro v' B k j C;have O:=ZZ k;have P:=ZZ j;have Y:=ZZ C
  have z:Bk 69 B p (ZiC L d u):=(H.o.head.keep (a.o.block p H.o.head.lt (fun e=>q.o (Option.some.inj e).symm))).keep ((j.block p (by simp;have:=A.o;omega) (fun e=>by
   obtain⟨Z,I⟩:=Zeh E.o e.symm
   exact(I.ne (H.o.head.keep (a.o.block p H.o.head.lt (fun e=>q.o (Option.some.inj e).symm))) (by decide)) rfl)).trans (Below.heap_alloc _ _ _ A.o))
  obtain⟨d4,g4⟩:=z.cell 4 rfl;obtain⟨ao,Q,K,rfl⟩:=ZhH k;clear k j C z T J;go_wp2;go_end0;obtain⟨y,X⟩:=H.o.addWait V.o aa.o G.o a.o S.o O.o P.o Y.o;rw[<-ZwE F w B ⟨p,4,none⟩ (.slice ao Q K)] at y;exact⟨rfl,_,y,rfl,rfl,X⟩
def Zul (fs:List Fl):Option Nat->Nat
 | some f=>(fl fs f).b.length
 | none=>0
theorem ZcU (fs:List Fl) (p:Int × Nat) (l:Dir):ZdE fs (p::l)=(fl fs p.2).b.length+ZdE fs l:=by simp[ZdE]
theorem ZjS (fs:List Fl):ZdE fs []=0:=rfl
theorem ZgZ (fs:List Fl) (a b:Dir):ZdE fs (a++b)=ZdE fs a+ZdE fs b:=by simp[ZdE]
theorem ZkI (fs:List Fl) (n:Int) (f:Nat):∀ (l:Dir) (done:Bool),ZdE fs (Zmh n f done l)=ZdE fs (l.filter fun p=>decide (p.1≠n))+(if done then 0 else(fl fs f).b.length)
 | [],done=>by cases done <;> simp[Zmh,ZdE]
 | q::l,done=>by
  have d:=ZkI fs n f l (done || decide (q.1>n));rw[Zmh,ZgZ,ZgZ,d,List.filter_cons];by_cases c:q.1>n
  ·have a:q.1≠n:=by omega
   cases done <;> simp[c,a,ZcU,ZjS] <;> omega
  ·by_cases a:q.1=n
   ·cases done <;> simp[a,ZjS]
   ·cases done <;> simp[c,a,ZcU,ZjS] <;> omega
theorem ZkJ (fs:List Fl) (n:Int):∀ l:Dir,ZbM l->ZdE fs (l.filter fun p=>decide (p.1≠n))+Zul fs (look l n)=ZdE fs l
 | [],_=>rfl
 | q::l,h=>by
  unfold ZbM at h;rw[List.pairwise_cons] at h;rw[List.filter_cons,look];by_cases e:q.1=n
  ·have c:∀ p ∈ l,p.1≠n:=fun p a=>by have:=h.1 p a;omega
   rw[if_pos e,if_neg (by simp[e]),ZcU,List.filter_eq_self.2 (fun p a=>by simpa using c p a)]
   show _+(fl fs q.2).b.length=_;omega
  ·rw[if_neg e,if_pos (by simp[e]),ZcU,ZcU]
   have:=ZkJ fs n l h.2;omega
theorem ZhI (fs:List Fl) {l:Dir} (h:ZbM l) (n:Int) (o:Option Nat):ZdE fs (ZiX l n o)+Zul fs (look l n)=ZdE fs l+Zul fs o:=by
 have a:=ZkJ fs n l h
 cases o with
 | none=>rw[ZiX,ZkI];show _=_+0;simp only [if_true];omega
 | some f=>rw[ZiX,ZkI];simp only [Bool.false_eq_true,if_false];show _=_+(fl fs f).b.length;omega
theorem Zpy {fs:List Fl} {f:Nat} (h:f<fs.length) (x:Fl):fl (fs++[x]) f=fl fs f:=by
 unfold fl;simp[List.getD,List.getElem?_append,h]
theorem Zrq (fs:List Fl) (x:Fl):fl (fs++[x]) fs.length=x:=by
 unfold fl;simp[List.getD]
theorem ZnW {fs a:List Fl} {l:Dir} (h:∀ p ∈ l,(fl a p.2).b.length=(fl fs p.2).b.length):ZdE a l=ZdE fs l:=by
 unfold ZdE;rw[List.map_congr_left h]
theorem ZwF {fs:List Fl} {l:Dir} (h:∀ p ∈ l,p.2<fs.length) (x:Fl):ZdE (fs++[x]) l=ZdE fs l:=
 ZnW fun p a=>by rw[Zpy (h p a)]
theorem ZnX {fs:List Fl} {f:Nat} (a:f<fs.length) (x:Fl):∀ {l:Dir},ZeQ l->(∃ n,(n,f) ∈ l)->ZdE (fs.set f x) l+(fl fs f).b.length=ZdE fs l+x.b.length
 | [],_,⟨_,h⟩=>by cases h
 | q::l,ha,⟨n,h⟩=>by
  unfold ZeQ at ha;rw[List.pairwise_cons] at ha;rw[ZcU,ZcU];by_cases e:q.2=f
  ·have g:ZdE (fs.set f x) l=ZdE fs l:=ZnW fun p c=>by rw[ZcF (by rw[<-e];exact ha.1 p c)]
   rw[e,g,Zfg a];omega
  ·rw[ZcF (fun d=>e d.symm)]
   rcases List.mem_cons.1 h with h | h
   ·exact absurd (by rw[<-h]) e
   ·have:=ZnX a x (l:=l) ha.2 ⟨n,h⟩
    omega
theorem Zum {d:Dk} (h:OkD d) {n:Int} {f:Nat} (e:look (Zbk d) n=some f) (b:List UInt8):ZcL (appendTo d f b)=ZcL d+b.length:=by
 have a:=(Zcz h.dir.rise n f).1 e;have:=ZnX (h.dir.may _ a).2 ⟨(fl d.files f).b++b,(fl d.files f).k⟩ h.dir.apart ⟨n,a⟩;simp only [length_append] at this;show ZdE (ZeR d.files f b) (Zbk d)=ZdE d.files (Zbk d)+b.length;unfold ZeR;omega
theorem Zun {d:Dk} (h:OkD d) {n:Int} {f:Nat} (e:look (Zbk d) n=some f) (q:Int):ZcL { d with files:=Zhr d.files f,power:=q }=ZcL d:=by
 have a:=(Zcz h.dir.rise n f).1 e;have:=ZnX (h.dir.may _ a).2 ⟨(fl d.files f).b,(fl d.files f).b.length⟩ h.dir.apart ⟨n,a⟩;show ZdE (Zhr d.files f) (Zbk d)=ZdE d.files (Zbk d);unfold Zhr
 dsimp only at this
 omega
theorem Zrr {d:Dk} (h:OkD d) {n:Int} (e:look (Zbk d) n=none):ZcL (Zcn d n)=ZcL d:=by
 have a:=ZhI (d.files++[⟨[],0⟩]) h.dir.rise n (some d.files.length);have c:ZdE (d.files++[⟨[],0⟩]) (Zbk d)=ZdE d.files (Zbk d):=ZwF (fun p f=>(h.dir.may p f).2) _
 have g:Zul (d.files++[⟨[],0⟩]) (some d.files.length)=0:=by show(fl _ _).b.length=0;rw[Zrq];rfl
 rw[e,c,g] at a;unfold ZcL;rw[ZmM,chD];show ZdE (d.files++[⟨[],0⟩]) (ZiX (Zbk d) n (some d.files.length))=_;simpa[Zul] using a
theorem Zuo {d:Dk} (h:OkD d) {n m:Int} {f:Nat} (c:n≠m) (e:look (Zbk d) n=some f) (q:Int):ZcL { d with waits:=d.waits++[.move n m f],power:=q }+Zul d.files (look (Zbk d) m)=ZcL d:=by
 have b:=ZhI d.files h.dir.rise n none;have a:=ZhI d.files (ZcC h.dir.rise n none) m (some f);rw[ZfN h.dir.rise,if_neg (fun e=>c e.symm)] at a
 rw[e] at b
 have g:ZcL { d with waits:=d.waits++[.move n m f],power:=q }=ZdE d.files (ZiX (ZiX (Zbk d) n none) m (some f)):=by
  show ZdE d.files ((d.waits++[Ch.move n m f]).foldl chD d.kept)=_;rw[foldl_append];rfl
 rw[g];show _=ZdE d.files (Zbk d);simp only [Zul] at b a ⊢;omega
theorem Zup {d:Dk} (h:OkD d) {n:Int} {f:Nat} (e:look (Zbk d) n=some f) (q:Int):ZcL { d with waits:=d.waits++[.take n],power:=q }+(fl d.files f).b.length=ZcL d:=by
 have a:=ZhI d.files h.dir.rise n none;rw[e] at a
 have c:ZcL { d with waits:=d.waits++[.take n],power:=q }=ZdE d.files (ZiX (Zbk d) n none):=by
  show ZdE d.files ((d.waits++[Ch.take n]).foldl chD d.kept)=_;rw[foldl_append];rfl
 rw[c];show _=ZdE d.files (Zbk d);simp only [Zul] at a;omega
theorem Zrs {fs:List Fl} {T:Nat} (h:∀ x ∈ fs,x.b.length<=T):∀ l:Dir,(∀ p ∈ l,p.2<fs.length)->ZdE fs l<=l.length*T
 | [],_=>Nat.zero_le _
 | p::l,hl=>by
  have c:=Zrs h l fun q a=>hl q (List.mem_cons_of_mem _ a)
  have d:=h _ (ZeS (hl p (List.mem_cons_self ..)));rw[ZcU,List.length_cons,Nat.add_mul];omega
theorem Zjj (l:List Ch):∀ k:Dir,(l.foldl chD k).length<=k.length+l.length:=by
 induction l with
 | nil=>intro k;exact Nat.le_refl _
 | cons c l a=>
  intro k;have d:=a (chD k c);have b:=ZtQ k c;rw[List.foldl_cons,List.length_cons];omega
theorem Zzg {d:Dk} (h:OkD d) {N T:Nat} (f:d.kept.length+d.waits.length<=N) (a:∀ x ∈ d.files,x.b.length<=T):ZcL d<=N*T:=by
 have e:=Zrs a (Zbk d) fun p c=>(h.dir.may p c).2
 have i:=Zjj d.waits d.kept;have g:(Zbk d).length*T<=N*T:=Nat.mul_le_mul_right T (by unfold Zbk;omega)
 unfold ZcL;omega
theorem Zey (d:Dk) (k:Nat):(ZeF d k).length<=d.kept.length+d.waits.length:=by
 have h:=Zjj (d.waits.take k) d.kept;have a:(d.waits.take k).length<=d.waits.length:=by rw[List.length_take];omega
 unfold ZeF;omega
theorem ZaM.widen {F F':Nat->Prop} {w:World} {p:Nat} {L:Lay} {d:Dk} {u:Int} {N:Nat} (h:ZaM F w p L d u N) (a:∀ k,F k->F' k) (j:∀ k,F' k->k<w.heap.size):ZaM F' w p L d u N:=
 ⟨h.head,⟨h.rest.now,h.rest.kept,h.rest.row,h.rest.many,fun i c v f l=>(h.rest.wait i c v f l).keep a (fun _ _=>rfl) (fun _ _ _ _=>rfl),h.rest.file,h.rest.psn,h.rest.vsn,h.rest.nk,a _ h.rest.fn,a _ h.rest.fk,fun g e=>a g (h.rest.fw g e),fun i b=>a _ (h.rest.fp i b),fun i b g e=>a g (h.rest.fv i b g e)⟩,a _ h.fh,j⟩
theorem ZaM.more {F:Nat->Prop} {w w':World} {p:Nat} {L:Lay} {d:Dk} {u:Int} {N:Nat} (h:ZaM F w p L d u N) (b:Below w.heap.size w w'):ZaM (Gr F w w') w' p L d u N:=
 (h.keep (fun k a=>b.block k (h.lt k a)) b.size).widen (fun _ a=>.inl a) (Gr.lt b.size h.lt)
theorem ZAI {m:Nat} {c:Ch} (h:ZvY m c) {f:Nat} (e:chOf c=some f):f<m:=by
 cases c with
 | give n g=>obtain rfl:=Option.some.inj e;exact h.2
 | move n g x=>obtain rfl:=Option.some.inj e;exact h.2.2.2
 | take n=>cases e
theorem ZaM.addFile {F:Nat->Prop} {w:World} {p:Nat} {L:Lay} {d:Dk} {u:Int} {N:Nat} (h:ZaM F w p L d u N) (z:OkD d):
 ZaM (Gr F w (w.alloc (.cells #[.slice none 0 0,.int .i64 0] 117))) (w.alloc (.cells #[.slice none 0 0,.int .i64 0] 117)) p { L with ps:=fun i=>if i=d.files.length then w.heap.size else L.ps i,vs:=fun i=>if i=d.files.length then .slice none 0 0 else L.vs i } { d with files:=d.files++[⟨[],0⟩] } u N:=by
 have C:Below w.heap.size w (w.alloc (.cells #[.slice none 0 0,.int .i64 0] 117)):=(Below.refl _ w).alloc zL _;have D:Bk 117 (w.alloc (.cells #[.slice none 0 0,.int .i64 0] 117)) w.heap.size #[.slice none 0 0,.int .i64 0]:=heap_alloc_new w _;have I:(w.alloc (.cells #[.slice none 0 0,.int .i64 0] 117)).heap.size=w.heap.size+1:=by simp
 obtain⟨W,J⟩:∃ W,W=w.alloc (.cells #[.slice none 0 0,.int .i64 0] 117):=⟨_,rfl⟩;rw[<-J] at C D I ⊢;have q:=h.more C;have a:=q.rest;have K:(d.files++[(⟨[],0⟩:Fl)]).length=d.files.length+1:=by simp
 refine⟨q.head,⟨?_,?_,a.row,a.many,?_,?_,?_,?_,a.nk,a.fn,a.fk,a.fw,?_,?_⟩,q.fh,q.lt⟩
 ·refine a.now.fun fun n _=>?_
  show(look (Zbk d) n).map L.ps=(look (Zbk d) n).map _
  cases e:look (Zbk d) n with
  | none=>rfl
  | some f=>
   have:=(z.dir.mayOf e).2;show some (L.ps f)=some (if f=d.files.length then w.heap.size else L.ps f)
   rw[if_neg (by omega)]
 ·refine a.kept.fun fun n _=>?_
  show(look d.kept n).map L.ps=(look d.kept n).map _
  cases e:look d.kept n with
  | none=>rfl
  | some f=>
   have:=(z.kept.mayOf e).2;show some (L.ps f)=some (if f=d.files.length then w.heap.size else L.ps f)
   rw[if_neg (by omega)]
 ·intro i c v b G
  refine(a.wait i c v b G).keep (fun _ y=>y) (fun f y=>?_) (fun _ _ _ _=>rfl)
  have:=ZAI (z.chs c (List.mem_of_getElem? b)) y;show(if f=d.files.length then w.heap.size else L.ps f)=L.ps f
  rw[if_neg (by omega)]
 ·intro i b
  show Zpp W (if i=d.files.length then w.heap.size else L.ps i) (if i=d.files.length then .slice none 0 0 else L.vs i) (fl (d.files++[⟨[],0⟩]) i)
  by_cases e:i=d.files.length
  ·rw[if_pos e,if_pos e,e,Zrq]
   exact⟨D,World.ownsRow_nil _ _ _ _⟩
  ·have B:i<d.files.length:=by have:i<(d.files++[(⟨[],0⟩:Fl)]).length:=b;omega
   rw[if_neg e,if_neg e,Zpy B];exact a.file i B
 ·intro i j b x t
  have A:i<(d.files++[(⟨[],0⟩:Fl)]).length:=b;have H:j<(d.files++[(⟨[],0⟩:Fl)]).length:=x;show(if i=d.files.length then w.heap.size else L.ps i)≠(if j=d.files.length then w.heap.size else L.ps j)
  have E:∀ i,i<d.files.length->L.ps i<w.heap.size:=fun i b=>h.lt _ (h.rest.fp i b)
  by_cases l:i=d.files.length
  ·rw[if_pos l,if_neg (by omega)]
   have:=E j (by omega)
   omega
  ·rw[if_neg l]
   by_cases k:j=d.files.length
   ·rw[if_pos k]
    have:=E i (by omega)
    omega
   ·rw[if_neg k]
    exact a.psn i j (by show i<d.files.length;omega) (by show j<d.files.length;omega) t
 ·intro i j b x t g
  have A:i<(d.files++[(⟨[],0⟩:Fl)]).length:=b;have H:j<(d.files++[(⟨[],0⟩:Fl)]).length:=x;show(if i=d.files.length then Value.slice none 0 0 else L.vs i).ownBlock=some g->(if j=d.files.length then Value.slice none 0 0 else L.vs j).ownBlock≠some g
  by_cases l:i=d.files.length
  ·rw[if_pos l]
   intro m
   cases m
  ·rw[if_neg l]
   by_cases k:j=d.files.length
   ·rw[if_pos k]
    intro _ m
    cases m
   ·rw[if_neg k]
    exact a.vsn i j (by show i<d.files.length;omega) (by show j<d.files.length;omega) t g
 ·intro i b
  have A:i<(d.files++[(⟨[],0⟩:Fl)]).length:=b;show Gr F w W (if i=d.files.length then w.heap.size else L.ps i)
  by_cases e:i=d.files.length
  ·rw[if_pos e]
   exact .inr ⟨Nat.le_refl _,by omega⟩
  ·rw[if_neg e]
   exact a.fp i (by show i<d.files.length;omega)
 ·intro i b g
  have A:i<(d.files++[(⟨[],0⟩:Fl)]).length:=b;show(if i=d.files.length then Value.slice none 0 0 else L.vs i).ownBlock=some g->Gr F w W g
  by_cases e:i=d.files.length
  ·rw[if_pos e]
   intro m
   cases m
  ·rw[if_neg e]
   exact a.fv i (by show i<d.files.length;omega) g
theorem Zmo (w:World) (ty:TypeId) (v:Value) (b:List UInt8) (c:Own w 0 v b) (f:Value) (l:List UInt8) (t:Rd w f l)
 (z:b.length+l.length<=70368744177664):
 ∃ v' w',(Builtin.append_ #[53,53] ty #[v,f]).run prog w=.ok v' w'∧Own w' 0 v' (b++l)∧w.grownBy w' v.ownBlock∧(v'.ownBlock=v.ownBlock∨v'.ownBlock=some w.heap.size):=by
 obtain⟨g,h,p,k,m⟩:=info_parts ZnJ;obtain⟨ao,cap,rfl,y,x,u,j⟩:=t
 cases ao with
 | none=>
  have n:=u rfl;subst n;have e:l=[]:=List.eq_nil_of_length_eq_zero (by omega)
  subst e;have d:=run_append_owned_none (P:=prog) w 0 53 ty 5 g 1 underlying53 h v b.length (Lib.byteCells b) c;exact⟨v,w,d,by rw[List.append_nil];exact c,⟨rfl,rfl,rfl,Nat.le_refl _,fun _ _ _=>rfl⟩,.inl rfl⟩
 | some a=>
  obtain⟨v',w',d,i,q,_,e⟩:=run_append_own_at (P:=prog) w 0 53 ty 5 g (.int .u8 0) 1 1 underlying53 h p k m rfl (by decide) v b.length (Lib.byteCells b) c a l.length cap (Lib.byteCells l)
   (by rw[Zbi,Nat.mul_one]) (Rd.cells j a rfl) (ZdH l) (by unfold maxLen;omega) (by omega) (Nat.zero_le _)
  exact⟨v',w',d,Own.mk' i (by simp) (by simp[Lib.byteCells]),q,e⟩
theorem Zfc (w:World) {d:Array Oper} {rest:List Oper} {o:Oper} {a:Act} {Q:Exit->Act->World->Prop} (n:o.guard=none) (s x:Operand)
 (f:o.op=.call { callee:=.builtin .append,args:=#[s,x],argTypes:=#[53,53] })
 (v:Value) (b:List UInt8) (m:a.eval s=v) (e:Own w 0 v b) (c:Value) (l:List UInt8) (g:a.eval x=c) (t:Rd w c l)
 (q:b.length+l.length<=70368744177664)
 (h:∀ v' w',Own w' 0 v' (b++l)->w.grownBy w' v.ownBlock->(v'.ownBlock=v.ownBlock∨v'.ownBlock=some w.heap.size)->wpList prog d Q rest (a.put o.dst v') w'):wpList prog d Q (o::rest) a w:=
 wpList_plain n fun _ j=>by
  obtain⟨v',w',i,p,k,u⟩:=Zmo w o.type v b e c l t q;unfold Oper.wp execOp;simp only [f,resolve,invoke,builtin,Sem.run_bind,Sem.run_pure,Result.andThen_ok,map_toArray,map_cons,map_nil,m,g,i];exact j _ _ (h v' w' p k u)
theorem ZaM.grow {F:Nat->Prop} {w c:World} {p:Nat} {L:Lay} {d:Dk} {u:Int} {N f:Nat} {v':Value} {x:List UInt8} (h:ZaM F w p L d u N) (j:f<d.files.length)
 (q:Own c 0 v' ((fl d.files f).b++x)) (n:w.grownBy c (L.vs f).ownBlock) (hl:v'.ownBlock=(L.vs f).ownBlock∨v'.ownBlock=some w.heap.size):
 ZaM (Gr F w c) (c.setCell ⟨L.ps f,0,none⟩ v') p { L with vs:=fun i=>if i=f then v' else L.vs i } { d with files:=ZeR d.files f x } u N∧Zap F w (c.setCell ⟨L.ps f,0,none⟩ v'):=by
 have l:=h.rest;have v:=(l.file f j).box
 have D:(L.vs f).ownBlock≠some (L.ps f):=fun e=>by
  obtain⟨B,t⟩:=Zeh (l.file f j).own e;exact(v.ne t (by decide)) rfl
 have y:Bk 117 c (L.ps f) #[L.vs f,.int .i64 ((fl d.files f).k:Int)]:=v.keep (n.block _ v.lt (fun e=>D e.symm))
 have C:(c.setCell ⟨L.ps f,0,none⟩ v').heap.size=c.heap.size:=by simp
 refine⟨h.setFile (F':=Gr F w c) j (fun k m z E=>?_) ⟨y.set 0 v',?_⟩ ?_ (fun _ m=>.inl m) (fun g a=>?_) (fun k m=>by rw[C];exact Gr.lt n.size h.lt k m),?_⟩
 ·rw[Below.heap_setCell _ _ _ _ z,n.block k (h.lt k m) (fun e=>E e.symm)]
 ·refine Zae q fun g a=>Below.heap_setCell _ _ _ _ ?_
  obtain⟨B,t⟩:=Zeh q a;exact t.ne y (by decide)
 ·rcases hl with hl | hl
  ·exact .inl hl
  ·exact .inr fun g a=>by rw[hl] at a;exact Nat.le_of_eq (Option.some.inj a)
 ·rcases hl with hl | hl
  ·exact .inl (l.fv f j g (by rw[<-hl];exact a))
  ·have A:=(World.ownsRow.lt q g a).2
   rw[hl] at a;obtain rfl:=Option.some.inj a;exact .inr ⟨Nat.le_refl _,A⟩
 ·exact(Zap.ofGrown n fun k e _=>l.fv f j k e).setCell 0 (fun _=>l.fp f j) v'
theorem Bnd.grow {d:Dk} {N T:Nat} (h:Bnd d N T) (f:Nat) (b:List UInt8) (q:Int):Bnd { d with files:=ZeR d.files f b,power:=q } (N+1) (T+b.length):=by
 refine⟨by show(ZeR d.files f b).length<=_;have:=h.files;simp[ZeR];omega,by have:=h.names;show d.kept.length+d.waits.length<=_;omega,fun x a=>?_⟩
 rcases List.mem_or_eq_of_mem_set a with a | rfl
 ·have:=h.bytes x a;omega
 ·simp only [length_append]
  by_cases c:f<d.files.length
  ·have:=h.bytes _ (ZeS c);omega
  ·unfold fl
   rw[List.getD,List.getElem?_eq_none (by omega)]
   simp only [Option.getD_none,List.length_nil];omega
theorem Bnd.fresh {d:Dk} {N T:Nat} (h:Bnd d N T) (n:Int):Bnd (Zcn d n) (N+1) T:=by
 refine⟨by show(d.files++[_]).length<=_;have:=h.files;simp;omega,by have:=h.names;show d.kept.length+(d.waits++[_]).length<=_;simp;omega,fun x hx=>?_⟩
 rcases List.mem_append.1 hx with hx | hx
 ·exact h.bytes x hx
 ·rw[List.mem_singleton.1 hx]
  exact Nat.zero_le _
theorem Bnd.mono {d:Dk} {N T N' T':Nat} (h:Bnd d N T) (a:N<=N') (b:T<=T'):Bnd d N' T':=
 ⟨Nat.le_trans h.files a,Nat.le_trans h.names a,fun x c=>Nat.le_trans (h.bytes x c) b⟩
theorem ZaM.mono {F:Nat->Prop} {w:World} {p:Nat} {L:Lay} {d:Dk} {u:Int} {N N':Nat} (h:ZaM F w p L d u N) (a:N<=N'):ZaM F w p L d u N':=⟨h.head,h.rest.mono a,h.fh,h.lt⟩
theorem Dsk.mono {F:Nat->Prop} {w:World} {p:Nat} {d:Dk} {N T N' T':Nat} (h:Dsk F w p d N T) (a:N<=N') (c:T<=T'):Dsk F w p d N' T':=by
 obtain⟨L,f,b,e,g⟩:=h;exact⟨L,f.mono a,b,e.mono a c,g⟩
def Zjk (F:Nat->Prop) (w:World) (p:Nat) (d:Dk) (code:Int) (N T:Nat) (e:Ending) (w':World):Prop:=
 e=.returned (.int .i64 code)∧∃ F',Dsk F' w' p d N T∧Zap F w w'∧∀ k,F' k->F k∨w.heap.size<=k
theorem Zjk.same {F:Nat->Prop} {w:World} {p:Nat} {d:Dk} {a:Int} {N T N' T':Nat} (h:Dsk F w p d N T) (b:N<=N') (c:T<=T'):Zjk F w p d a N' T' (.returned (.int .i64 a)) w:=
 ⟨rfl,F,h.mono b c,Zap.refl _ _,fun _ e=>.inl e⟩
theorem Zjk.drew {F:Nat->Prop} {w:World} {p:Nat} {d:Dk} {a:Int} {N T N' T':Nat} (h:Dsk F w p d N T) (b:N<=N') (c:T<=T') (q:Nat):Zjk F w p d a N' T' (.returned (.int .i64 a)) (w.drewN q):=
 ⟨rfl,F,(h.below (ZaI (Below.refl _ _) q)).mono b c,(Zap.refl _ _).drewN q,fun _ e=>.inl e⟩
theorem Zgr {q:Int} (h:I64 q):I64 (ZfK q):=by
 obtain⟨a,b⟩:=h;unfold ZfK I64;split <;> omega
theorem Zrt {d:Dk} (h:OkD d) {N T:Nat} (a:Bnd d N T) (b:N<=1000000) (c:T<=1000000000):ZcL d<=1000000000000000:=by
 have f:=Zzg h a.names a.bytes;have e:N*T<=1000000*1000000000:=Nat.mul_le_mul b c;omega
theorem Zjk.appended {F d:Nat->Prop} {w c:World} {p:Nat} {a:Dk} {e N' T f:Nat} {n:Int} {b:List UInt8} {g:Lay} (j:OkD a) (m:Bnd a e T) (i:I64 a.room∧I64 a.power) (q:look (Zbk a) n=some f)
 (h:ZaM d c p g (appendTo a f b) ((ZcL a:Int)+b.length) e) (l:Zap F w c) (u:∀ k,d k->F k∨w.heap.size<=k) (t:e+1<=N'):Zjk F w p (appendTo a f b) 0 N' (T+b.length) (.returned (.int .i64 0)) c:=by
 refine⟨rfl,d,⟨g,?_,j.appendTo f b,(m.grow f b _).mono t zL,i.1,Zgr i.2⟩,l,u⟩;rw[Zum j q b];exact h.mono (by omega)
theorem Rd.blockLt {w:World} {v:Value} {l:List UInt8} (h:Rd w v l):l=[]∨∀ k,v.ownBlock=some k->k<w.heap.size:=by
 obtain⟨ao,cap,rfl,d,f,g,a⟩:=h;rcases a with a | ⟨b,off,rfl,h6⟩
 ·exact .inl a
 ·by_cases e:l=[]
  ·exact .inl e
  ·right
   intro k c;obtain rfl:b=k:=by simpa[Value.ownBlock] using c
   exact World.block_lt_of_cell? w ⟨b,off+0,none⟩ (h6 0 (List.length_pos_iff.2 e))
theorem Rd.onlyN {w w':World} {v:Value} {l:List UInt8} (h:Rd w v l) {F G:Nat->Prop} {B:Nat} (e:Zap G w w') (f:∀ k,G k->F k∨B<=k) (hv:l=[]∨∀ k,v.ownBlock=some k->¬ F k) (hlt:l=[]∨∀ k,v.ownBlock=some k->k<B):Rd w' v l:=by
 rcases hv with rfl | hv
 ·obtain⟨ao,cap,rfl,c,a,b,i⟩:=h
  exact⟨ao,cap,rfl,c,a,b,.inl rfl⟩
 rcases hlt with rfl | hlt
 ·obtain⟨ao,cap,rfl,c,a,b,i⟩:=h
  exact⟨ao,cap,rfl,c,a,b,.inl rfl⟩
 ·exact h.only e fun k d g=>by
   rcases f k g with hf | hf
   ·exact hv k d hf
   ·have:=hlt k d;omega
theorem ZmS {F:Nat->Prop} {p:Nat} {d:Dk} {N T:Nat} (n:Int) (hn:I64 n) (vb:Value) (b:List UInt8) (w:World) (h:Dsk F w p d N T) (hr:Rd w vb b) (hv:b=[]∨∀ k,vb.ownBlock=some k->¬ F k) (hN:N<=1000000) (hT:T<=1000000000) (bh:b.length<=1000000000):
 Calls prog 52 #[ptr p,.int .i64 n,vb] w fun e w'=>Zjk F w p (ZaK d n b).1 (ZaK d n b).2 (N+2) (T+b.length) e w':=by
 have HD:=ZZ h;obtain⟨L,h,aU,aL,bb,a6⟩:=h;have H:=ZZ h;have t:=ZZ aU;have aw:=ZZ aL;have HI:=ZZ (And.intro bb a6);have au:=ZZ hr;have bc:=ZZ hr.blockLt;have HV:=ZZ hv;have l:=ZZ (Zpq w h);have E:=ZZ (Zpr n w);have j:=h.rest.now.look hn;obtain⟨⟨c0,c1,c2,-,-,-⟩,-⟩:=h.cells;have bf:=Zrt aU aL hN hT;obtain⟨U,hU⟩:∃ U:Int,U=(ZcL d:Int):=⟨_,rfl⟩;have bi:0<=U∧U<=1000000000000000:=by omega
 rw[<-hU] at c1;obtain⟨ao,cap,rfl,-⟩:=hr;obtain⟨R,hR⟩:∃ R,R=d.room:=⟨_,rfl⟩;rw[<-hR] at c0;unfold ZaK;rw[<-hU,<-hR];have HU:=ZZ hU;clear hU bf hR;clear aU aL a6 hv h;by_cases Z:d.power=0
 ·rw[if_pos Z]
  rw[Z] at l;clear j Z
  go_enter func52,ntmps52
  go_wp2_with fail
  refine l.o.mono ?_;rintro e w' ⟨rfl,rfl⟩;go_wp2;go_ret;exact Zjk.same HD.o (by omega) (by omega)
 rw[if_neg Z];have e0:(d.power != 0)=true:=by simpa using Z
 rw[e0] at l;clear Z e0
 cases hmn:Zja n with
 | false=>
  rw[if_pos rfl];rw[hmn] at E;clear j hmn
  go_enter func52,ntmps52
  go_wp2_with fail
  refine l.o.mono ?_;rintro e w' ⟨rfl,rfl⟩
  go_wp2_with fail
  refine E.o.mono ?_;rintro e w' ⟨rfl,rfl⟩;go_wp2;go_ret;exact Zjk.same HD.o (by omega) (by omega)
 | true=>
 rw[if_neg (by simp)]
 have az:=ZZ hmn;rw[hmn] at E;clear hmn;by_cases aq:U+(b.length:Int)>R
 ·rw[if_pos aq]
  clear j
  go_enter func52,ntmps52
  go_wp2_with fail
  refine l.o.mono ?_;rintro e w' ⟨rfl,rfl⟩
  go_wp2_with fail
  refine E.o.mono ?_;rintro e w' ⟨rfl,rfl⟩
  go_upto_region 5 with fail
  go_quiet(fail)
  go_wp2;go_ret;exact Zjk.drew HD.o (by omega) (by omega) _
 rw[if_neg aq];have a2:decide (U+(b.length:Int)>R)=false:=decide_eq_false aq;have bj:U+(b.length:Int)<=R:=by omega
 cases ho:look (Zbk d) n with
 | some f=>
  clear j
  dsimp only
  have aa:=ZZ ho;clear ho
  go_enter func52,ntmps52
  go_wp2_with fail
  refine l.o.mono ?_;rintro e w' ⟨rfl,rfl⟩
  go_wp2_with fail
  refine E.o.mono ?_;rintro e w' ⟨rfl,rfl⟩
  go_upto_region 5 with fail
  go_cut[17] (fun v wc=>v=.bool false∧Hid (∃ q,wc=w'.drewN q))
  case first=>
   go_quiet(fail)
   go_wp2
   go_meet
   exact⟨rfl,ZZ ⟨_,rfl⟩⟩
  case rest=>
   obtain⟨W,rfl⟩:∃ W,W=wc:=⟨_,rfl⟩;obtain⟨rfl,hw⟩:=hcut;obtain⟨w,rfl⟩:∃ w0,w0=w':=⟨_,rfl⟩;obtain⟨q,z⟩:=hw.o;have C:Hid (ZaM F W p L d U N):=ZZ (by rw[z,HU.o];exact H.o.keep (fun _ _=>rfl) zL)
   have ab:Hid (Zap F w W):=ZZ (by rw[z];exact(Zap.refl _ _).drewN q)
   have ah:Hid (Rd W (.slice ao b.length cap) b):=ZZ (by rw[z];exact au.o.below (ZaI (Below.refl _ _) q) zL)
   clear hw z c0 c1 c2 aq a2 H au l E HD;obtain⟨⟨-,-,c2,-,-,-⟩,-⟩:=C.o.cells;have j:=C.o.rest.now.look hn;rw[aa.o] at j;have aH:(Instr.lookup 65 (.map (some L.now)) (.int .i64 n) true).run prog W=.ok (.tuple #[.pointer (some ⟨L.ps f,0,none⟩),.bool true]) W:=j;have hf:f<d.files.length:=(t.o.dir.mayOf aa.o).2;have aV:=aa;have g:=C;have aW:=HU;have aC:=t;have ac:=aw;have ag:=HI;have y:Hid (∀ k,F k->F k∨w.heap.size<=k):=ZZ (fun k hk=>.inl hk)
   have I:=ab;have aJ:=ah;clear j C ab ah
   go_upto_region 11 with fail
   clear aH c2;obtain⟨g0,y0⟩:=(g.o.rest.file f hf).box.cell 0 rfl;have ap:=ZZ (g.o.rest.file f hf).own;have S:=ZZ (g.o.rest.file f hf).box;obtain⟨va,vc,P⟩:=(g.o.rest.file f hf).own.shape;rw[P] at g0;have ai:=ZZ P;have aE:Hid ((fl d.files f).b.length+b.length<=70368744177664):=ZZ (by have:=ac.o.bytes _ (ZeS hf);omega)
   clear P
   go_wp2_with(at_builtin;refine(fun(h:True->_)=>h trivial) ?_)
   intro _;rw[<-ai.o];refine Zfc W rfl _ _ rfl (L.vs f) _ rfl ap.o _ b rfl aJ.o aE.o ?_;intro v' w2 O X ae;obtain⟨am,ak⟩:=g.o.grow hf O X ae;have A:=ZZ am;have Q:=ZZ ak
   have af:(L.vs f).ownBlock≠some (L.ps f):=fun e=>by
    obtain⟨bg,aM⟩:=Zeh ap.o e;exact(S.o.ne aM (by decide)) rfl
   obtain⟨g2,y2⟩:=(S.o.keep (X.block _ S.o.lt (fun e=>af e.symm))).cell 0 rfl
   rw[ai.o] at g2;obtain⟨aR,aB,an⟩:=O.shape;rw[an] at A Q ⊢;obtain⟨V,J⟩:∃ V,V=w2.setCell ⟨L.ps f,0,none⟩ (.slice aR ((fl d.files f).b++b).length aB):=⟨_,rfl⟩;have Y:=ZZ J;obtain⟨M,K⟩:∃ M,M=((fl d.files f).b++b).length:=⟨_,rfl⟩;rw[<-J] at A Q;rw[<-K];rw[<-K] at Y;clear O X ae am ak af an J K g0 y0
   go_upto_region 12 with fail
   rw[<-Y.o];clear Y g2 y2;obtain⟨⟨-,k1,-,-,-,-⟩,j1,-⟩:=A.o.cells;obtain⟨D,u⟩:∃ D,D=V.setCell ⟨p,1,none⟩ (.int .i64 (U+(b.length:Int))):=⟨_,rfl⟩;have al:=ZZ (A.o.setHead 1 (.int .i64 (U+(b.length:Int))) (d':={ d with files:=ZeR d.files f b }) (u':=U+(b.length:Int)) ⟨rfl,rfl,rfl⟩ rfl)
   have aG:Hid (Zap F w D):=ZZ (by
    rw[u]
    exact(I.o.trans Q.o (fun k hk hf=>(y.o k hf).resolve_right (by omega))).setCell 1 (fun bd=>((y.o p g.o.fh).resolve_right (by omega))) _)
   rw[<-u] at al;have aj:=ZZ u;clear u
   go_upto_region 13 with fail
   rw[<-aj.o];clear aj k1 j1
   go_wp2_with fail
   refine(Zfq D al.o ag.o.2).mono ?_;rintro e W5 ⟨rfl,aA,aS⟩;go_wp2;go_ret;refine Zjk.appended aC.o ac.o ag.o aV.o (by rw[<-aW.o];exact aA) ((aG.o.trans aS (fun k hk hf=>?_))) (fun k hk=>?_) (by omega)
   ·rcases hf with hf | hf
    ·exact(y.o k hf).resolve_right (by omega)
    ·have:=I.o.size;omega
   ·rcases hk with hk | hk
    ·exact y.o k hk
    ·have:=I.o.size;exact .inr (by omega)
 | none=>
  clear j
  dsimp only
  have aa:=ZZ ho;clear ho
  go_enter func52,ntmps52
  go_wp2_with fail
  refine l.o.mono ?_;rintro e w' ⟨rfl,rfl⟩
  go_wp2_with fail
  refine E.o.mono ?_;rintro e w' ⟨rfl,rfl⟩
  go_upto_region 5 with fail
  go_cut[17] (fun v wc=>v=.bool false∧Hid (∃ q,wc=w'.drewN q))
  case first=>
   go_quiet(fail)
   go_wp2
   go_meet
   exact⟨rfl,ZZ ⟨_,rfl⟩⟩
  case rest=>
   obtain⟨W,rfl⟩:∃ W,W=wc:=⟨_,rfl⟩;obtain⟨rfl,hw⟩:=hcut;obtain⟨w,rfl⟩:∃ w0,w0=w':=⟨_,rfl⟩;obtain⟨q,z⟩:=hw.o;have C:Hid (ZaM F W p L d U N):=ZZ (by rw[z,HU.o];exact H.o.keep (fun _ _=>rfl) zL)
   have ab:Hid (Zap F w W):=ZZ (by rw[z];exact(Zap.refl _ _).drewN q)
   have ah:Hid (Rd W (.slice ao b.length cap) b):=ZZ (by rw[z];exact au.o.below (ZaI (Below.refl _ _) q) zL)
   clear hw z c0 c1 c2 aq a2 H au l E HD;obtain⟨⟨-,-,c2,-,-,-⟩,-⟩:=C.o.cells;have j:=C.o.rest.now.look hn;rw[aa.o] at j;have aH:(Instr.lookup 65 (.map (some L.now)) (.int .i64 n) true).run prog W=.ok (.tuple #[.pointer none,.bool false]) W:=j;have aP:=ZZ (C.o.addFile t.o);have aO:=ZZ (ab.o.alloc (.cells #[.slice none 0 0,.int .i64 0] 117));have aF:Hid (Rd (W.alloc (.cells #[.slice none 0 0,.int .i64 0] 117)) (.slice ao b.length cap) b):=ZZ (ah.o.below ((Below.refl _ _).alloc zL _) zL);have a9:Hid (w.heap.size<=W.heap.size):=ZZ ab.o.size;have aI:Hid (W.heap.size<(W.alloc (.cells #[.slice none 0 0,.int .i64 0] 117)).heap.size):=ZZ (by simp)
   obtain⟨a,aD⟩:∃ a,a=W.alloc (.cells #[.slice none 0 0,.int .i64 0] 117):=⟨_,rfl⟩;rw[<-aD] at aP aO aF aI;have ba:=ZZ aD;have l:=aa;clear aD j
   go_upto_region 10 with fail
   rw[<-ba.o];clear ba aH c2
   go_wp2_with fail
   refine(Zze n W.heap.size a).mono ?_;rintro e m ⟨rfl,ad⟩;have av:Below a.heap.size a m:=by rw[ad];exact((Below.refl _ _).alloc zL _).alloc (by simp) _
   have be:m.heap.size=a.heap.size+1+1:=by rw[ad];simp
   have a3:Bk 3 m a.heap.size #[.int .i64 n]:=by rw[ad];exact(Below.heap_alloc _ _ _ (by simp)).trans (heap_alloc_new a _)
   have a8:Bk 115 m (a.heap.size+1) #[ptr W.heap.size]:=by
    have e1:a.heap.size+1=(a.alloc (.cells #[.int .i64 n] 3)).heap.size:=by simp
    rw[ad,e1];exact heap_alloc_new _ _
   have ax:=ZZ (aP.o.more av);obtain⟨FB,ar⟩:∃ FB,FB=Gr (Gr F W a) a m:=⟨_,rfl⟩;rw[<-ar] at ax;obtain⟨LB,aT⟩:∃ LB:Lay,LB={ L with ps:=fun i=>if i=d.files.length then W.heap.size else L.ps i,vs:=fun i=>if i=d.files.length then .slice none 0 0 else L.vs i }:=⟨_,rfl⟩
   have aK:LB.ps d.files.length=W.heap.size:=by rw[aT];exact if_pos rfl
   rw[<-aT] at ax;have a7:Hid (ChV FB m LB.ps (.give n d.files.length) (.func (.func 139) #[] #[ptr (a.heap.size+1),ptr a.heap.size])):=ZZ ⟨_,_,rfl,a3,by rw[aK];exact a8,by rw[ar];exact .inr ⟨Nat.le_refl _,by omega⟩,by rw[ar];exact .inr ⟨by omega,by omega⟩⟩
   have ay:Hid (∀ k,FB k->F k∨w.heap.size<=k):=ZZ (fun k hk=>by
    rw[ar] at hk;have h1:=a9.o;have h2:=aI.o;rcases hk with (hk | hk) | hk
    ·exact .inl hk
    ·exact .inr (by omega)
    ·exact .inr (by omega))
   have aN:Hid (Zap F w m):=ZZ (aO.o.trans (G:=fun _=>False) (Zap.ofBelow av) (fun _ _ hf=>hf.elim))
   have a1:Hid (Rd m (.slice ao b.length cap) b):=ZZ (aF.o.below av zL);have a4:=ZZ aK
   have aZ:Hid (OkD { d with files:=d.files++[⟨[],0⟩] }):=ZZ ⟨fun k=>(t.o.dirs k).more (by simp),fun c hc=>(t.o.chs c hc).more (by simp),fun x hx=>by
    rcases List.mem_append.1 hx with hx | hx
    ·exact t.o.keep x hx
    ·rw[List.mem_singleton.1 hx];exact Nat.le_refl _⟩
   have a0:=ZZ (ZkH m ax.o a7.o aZ.o ⟨az.o,by simp⟩ hN (by have:=aw.o.names;show d.waits.length<=1000000;omega))
   clear av be a3 a8 ar aT aK ad
   go_wp2_with fail
   refine a0.o.mono ?_;rintro e WC ⟨rfl,LC,aY,aX,-,aQ⟩;have aV:Hid (look (Zbk (Zcn d n)) n=some d.files.length):=ZZ (ZtR t.o n);have g:Hid (ZaM (Gr FB m WC) WC p LC (Zcn d n) U (N+1)):=ZZ aY;have aW:Hid (U=(ZcL (Zcn d n):Int)):=ZZ (by rw[Zrr t.o l.o];exact HU.o)
   have aC:Hid (OkD (Zcn d n)):=ZZ (t.o.fresh az.o);have ac:Hid (Bnd (Zcn d n) (N+1) T):=ZZ (aw.o.fresh n);have ag:Hid (I64 (Zcn d n).room∧I64 (Zcn d n).power):=ZZ HI.o
   have y:Hid (∀ k,Gr FB m WC k->F k∨w.heap.size<=k):=ZZ (fun k hk=>by
    rcases hk with hk | hk
    ·exact ay.o k hk
    ·have:=aN.o.size;exact .inr (by omega))
   have I:Hid (Zap F w WC):=ZZ (aN.o.trans aQ (fun k hk hf=>(ay.o k hf).resolve_right (by omega)))
   have aJ:Hid (Rd WC (.slice ao b.length cap) b):=ZZ (a1.o.onlyN (B:=w.heap.size) aQ ay.o HV.o bc.o);have hf:d.files.length<(Zcn d n).files.length:=by simp[Zcn]
   have a5:LC.ps d.files.length=W.heap.size:=by rw[aX];exact a4.o
   rw[<-a5];clear aY aX aQ a5 a0 a7 ax ay aN a1 a4 aZ aP aO aF a9 aI l C ab ah t aw HI HU hn az
   go_upto_region 11 with fail
   obtain⟨g0,y0⟩:=(g.o.rest.file d.files.length hf).box.cell 0 rfl;have ap:=ZZ (g.o.rest.file d.files.length hf).own;have S:=ZZ (g.o.rest.file d.files.length hf).box;obtain⟨va,vc,P⟩:=(g.o.rest.file d.files.length hf).own.shape;rw[P] at g0;have ai:=ZZ P;have aE:Hid ((fl (Zcn d n).files d.files.length).b.length+b.length<=70368744177664):=ZZ (by have:=ac.o.bytes _ (ZeS hf);omega)
   clear P
   go_wp2_with(at_builtin;refine(fun(h:True->_)=>h trivial) ?_)
   intro _;rw[<-ai.o];refine Zfc WC rfl _ _ rfl (LC.vs d.files.length) _ rfl ap.o _ b rfl aJ.o aE.o ?_;intro v' w2 O X ae;obtain⟨am,ak⟩:=g.o.grow hf O X ae;have A:=ZZ am;have Q:=ZZ ak
   have af:(LC.vs d.files.length).ownBlock≠some (LC.ps d.files.length):=fun e=>by
    obtain⟨bg,aM⟩:=Zeh ap.o e;exact(S.o.ne aM (by decide)) rfl
   obtain⟨g2,y2⟩:=(S.o.keep (X.block _ S.o.lt (fun e=>af e.symm))).cell 0 rfl
   rw[ai.o] at g2;obtain⟨aR,aB,an⟩:=O.shape;rw[an] at A Q ⊢;obtain⟨V,J⟩:∃ V,V=w2.setCell ⟨LC.ps d.files.length,0,none⟩ (.slice aR ((fl (Zcn d n).files d.files.length).b++b).length aB):=⟨_,rfl⟩;have Y:=ZZ J;obtain⟨M,K⟩:∃ M,M=((fl (Zcn d n).files d.files.length).b++b).length:=⟨_,rfl⟩;rw[<-J] at A Q;rw[<-K];rw[<-K] at Y;clear O X ae am ak af an J K g0 y0
   go_upto_region 12 with fail
   rw[<-Y.o];clear Y g2 y2;obtain⟨⟨-,k1,-,-,-,-⟩,j1,-⟩:=A.o.cells;obtain⟨D,u⟩:∃ D,D=V.setCell ⟨p,1,none⟩ (.int .i64 (U+(b.length:Int))):=⟨_,rfl⟩;have al:=ZZ (A.o.setHead 1 (.int .i64 (U+(b.length:Int))) (d':={ (Zcn d n) with files:=ZeR (Zcn d n).files d.files.length b }) (u':=U+(b.length:Int)) ⟨rfl,rfl,rfl⟩ rfl)
   have aG:Hid (Zap F w D):=ZZ (by
    rw[u]
    exact(I.o.trans Q.o (fun k hk hf=>(y.o k hf).resolve_right (by omega))).setCell 1 (fun bd=>((y.o p g.o.fh).resolve_right (by omega))) _)
   rw[<-u] at al;have aj:=ZZ u;clear u
   go_upto_region 13 with fail
   rw[<-aj.o];clear aj k1 j1
   go_wp2_with fail
   refine(Zfq D al.o ag.o.2).mono ?_;rintro e W5 ⟨rfl,aA,aS⟩;go_wp2;go_ret;refine Zjk.appended aC.o ac.o ag.o aV.o (by rw[<-aW.o];exact aA) ((aG.o.trans aS (fun k hk hf=>?_))) (fun k hk=>?_) (by omega)
   ·rcases hf with hf | hf
    ·exact(y.o k hf).resolve_right (by omega)
    ·have:=I.o.size;omega
   ·rcases hk with hk | hk
    ·exact y.o k hk
    ·have:=I.o.size;exact .inr (by omega)
theorem Own.nil (w:World) (B:Nat):Own w B (.slice none 0 0) []:=World.ownsRow_nil w B 5 1
theorem ZnY (w:World) (ty:TypeId) (B:Nat) (v:Value) (b:List UInt8) (c:Own w B v b) (e:Value) (l:List UInt8) (x:Rd w e l)
 (D:b.length+l.length<=70368744177664) (h:B<=w.heap.size):
 ∃ v' w',(Builtin.append_ #[53,53] ty #[v,e]).run prog w=.ok v' w'∧Own w' B v' (b++l)∧Below B w w':=by
 obtain⟨f,g,t,m,n⟩:=info_parts ZnJ;obtain⟨ao,cap,rfl,C,A,y,j⟩:=x
 cases ao with
 | none=>
  have p:=y rfl;subst p;have q:l=[]:=List.eq_nil_of_length_eq_zero (by omega)
  subst q;have d:=run_append_owned_none (P:=prog) w B 53 ty 5 f 1 underlying53 g v b.length (Lib.byteCells b) c;exact⟨v,w,d,by rw[List.append_nil];exact c,Below.refl _ _⟩
 | some a=>
  obtain⟨v',w',d,i,u,_⟩:=run_append_own (P:=prog) w B 53 ty 5 f (.int .u8 0) 1 1 underlying53 g t m n rfl (by decide) v b.length (Lib.byteCells b) c a l.length cap (Lib.byteCells l)
   (by rw[Zbi,Nat.mul_one]) (Rd.cells j a rfl) (ZdH l) (by unfold maxLen;omega) (by omega) h
  refine⟨v',w',d,Own.mk' i (by simp) (by simp[Lib.byteCells]),?_⟩
  exact(Below.refl _ _).grown u h (fun k z=>(World.ownsRow.lt c k z).1)
theorem Zpz {o:Oper} {a:Act} {K:Act->World->Prop} {Q:Exit->Act->World->Prop} (w:World) (s x:Operand)
 (e:o.op=.call { callee:=.builtin .append,args:=#[s,x],argTypes:=#[53,53] })
 (B:Nat) (v:Value) (b:List UInt8) (j:a.eval s=v) (d:Own w B v b) (c:Value) (l:List UInt8) (f:a.eval x=c) (p:Rd w c l)
 (n:b.length+l.length<=70368744177664) (k:B<=w.heap.size)
 (h:∀ v' w',Own w' B v' (b++l)->Below B w w'->K (a.put o.dst v') w'):o.wp prog a w K Q:=by
 obtain⟨v',w',g,m,i⟩:=ZnY w o.type B v b d c l p n k;unfold Oper.wp execOp;simp only [e,resolve,invoke,builtin,Sem.run_bind,Sem.run_pure,Result.andThen_ok,map_toArray,map_cons,map_nil,j,f,g];exact h v' w' m i
theorem ZaE (w:World) {d:Array Oper} {rest:List Oper} {o:Oper} {a:Act} {Q:Exit->Act->World->Prop} (n:o.guard=none) (s x:Operand)
 (f:o.op=.call { callee:=.builtin .append,args:=#[s,x],argTypes:=#[53,53] })
 (B:Nat) (v:Value) (b:List UInt8) (k:a.eval s=v) (e:Own w B v b) (c:Value) (l:List UInt8) (g:a.eval x=c) (t:Rd w c l)
 (q:b.length+l.length<=70368744177664) (m:B<=w.heap.size)
 (h:∀ v' w',Own w' B v' (b++l)->Below B w w'->wpList prog d Q rest (a.put o.dst v') w'):wpList prog d Q (o::rest) a w:=
 wpList_plain n fun _ i=>Zpz w s x f B v b k e c l g t q m fun v' w' p j=>i _ _ (h v' w' p j)
theorem Zzh (w:World) (B:Nat) (a:B<=w.heap.size):Own (w.alloc (.cells #[] 5)) B (.slice (some ⟨w.heap.size,0,none⟩) 0 0) []:=
 ⟨rfl,.inr ⟨w.heap.size,0,#[],rfl,a,heap_alloc_new w _,Nat.le_refl _,Nat.zero_le _,rfl,rfl⟩⟩
theorem Zuq (v:Value) (l:List UInt8) (w:World) (g:Rd w v l) (B:l.length<=70368744177664):
 Calls prog 113 #[v] w fun e w'=>∃ v',e=.returned v'∧Own w' w.heap.size v' l∧Below w.heap.size w w':=by
 have m:=ZZ g;obtain⟨ao,cap,rfl,y,u,b,c⟩:=g
 cases ao with
 | none=>
  have q:=b rfl;have t:l=[]:=List.eq_nil_of_length_eq_zero (by omega)
  subst t;subst q;clear c b;have j:∀ w,(binOp .eql 53 (.slice none 0 0) (.slice none 0 0)).run prog w=.ok (.bool true) w:=fun w=>run_eql_slice_nil w _ _ none 0 0 underlying53
  go_enter func113,ntmps113
  go_wp2;go_ret;exact⟨_,rfl,Own.nil _ _,Below.refl _ _⟩
 | some d=>
  clear c b y u;have j:∀ w,(binOp .eql 53 (.slice (some d) l.length cap) (.slice none 0 0)).run prog w=.ok (.bool false) w:=fun w=>run_eql_slice_nil w _ _ (some d) _ _ underlying53
  have x:=ZZ (Zzh w w.heap.size zL);have a:=ZZ ((Below.refl w.heap.size w).alloc zL (.cells #[] 5));have z:=ZZ (m.o.below a.o zL);have p:Hid (w.heap.size<=(w.alloc (.cells #[] 5)).heap.size):=a.o.size
  go_enter func113,ntmps113
  go_wp2_with(at_builtin;refine ZaE _ rfl _ _ rfl w.heap.size _ [] rfl x.o _ l rfl z.o (by simp;omega) p.o ?_)
  intro n A h f;have i:=ZZ h;have k:=ZZ (a.o.trans f);clear h f;go_wp2;go_ret;exact⟨n,rfl,i.o,k.o⟩
theorem ZpA {F:Nat->Prop} {p:Nat} {d:Dk} {N T:Nat} (n:Int) (k:I64 n) (w:World) (h:Dsk F w p d N T) (t:T<=1000000000):
 Calls prog 75 #[ptr p,.int .i64 n] w fun e w'=>∃ v,e=.returned (.tuple #[v,.int .i64 (Zdc d n).2])∧Own w' w.heap.size v (Zdc d n).1∧Below w.heap.size w w':=by
 obtain⟨L,h,l,g,-,-⟩:=h;have a:=ZZ (ZjR n k w h);have H:=ZZ h;have z:=ZZ l;have q:=ZZ g;clear h l g;unfold Zdc;by_cases b:d.power=0
 ·rw[if_pos b]
  rw[if_pos b,if_pos b] at a;clear b
  go_enter func75,ntmps75
  go_wp2_with fail
  refine a.o.mono ?_;rintro e w' ⟨rfl,rfl⟩;go_wp2;go_ret2;exact⟨_,rfl,Own.nil _ _,Below.refl _ _⟩
 rw[if_neg b];rw[if_neg b,if_neg b] at a;clear b
 cases ho:look (Zbk d) n with
 | none=>
  rw[ho] at a
  dsimp only [Option.map_none,Option.isSome_none,Bool.false_eq_true,if_false,Ztk] at a ⊢
  clear ho
  go_enter func75,ntmps75
  go_wp2_with fail
  refine a.o.mono ?_;rintro e w' ⟨rfl,rfl⟩;go_wp2;go_ret2;exact⟨_,rfl,Own.nil _ _,Below.refl _ _⟩
 | some f=>
  rw[ho] at a
  dsimp only [Option.map_some,Option.isSome_some,if_true,Ztk] at a ⊢
  have c:f<d.files.length:=(z.o.dir.mayOf ho).2;obtain⟨x,-⟩:=(H.o.rest.file f c).box.cell 0 rfl;have y:=ZZ (H.o.rest.file f c).own.rd;have j:=ZZ (Zuq _ _ w y.o (by have:=q.o.bytes _ (ZeS c);omega))
  obtain⟨D,B,i⟩:=(H.o.rest.file f c).own.shape;rw[i] at x j;clear ho c i t k
  go_enter func75,ntmps75
  go_wp2_with fail
  refine a.o.mono ?_;rintro e w' ⟨rfl,rfl⟩
  go_wp2_with fail
  refine j.o.mono ?_;rintro e C ⟨A,rfl,u,m⟩;go_wp2;go_ret2;exact⟨_,rfl,u,m⟩
theorem Ztl {F:Nat->Prop} {p:Nat} {d:Dk} {N T:Nat} (n:Int) (K:I64 n) (w:World) (h:Dsk F w p d N T):
 Calls prog 59 #[ptr p,.int .i64 n] w fun e w'=>Zjk F w p (Zdx d n).1 (Zdx d n).2 (N+2) T e w':=by
 have B:=ZZ h;obtain⟨L,h,P,C,I,Q⟩:=h;have c:=ZZ (ZjR n K w h);have H:=ZZ h;have l:=ZZ P;have t:=ZZ C;have u:=ZZ (And.intro I Q);clear h P C I Q;unfold Zdx;by_cases j:d.power=0
 ·rw[if_pos j]
  rw[if_pos j,if_pos j] at c;clear j
  go_enter func59,ntmps59
  go_wp2_with fail
  refine c.o.mono ?_;rintro e w' ⟨rfl,rfl⟩;go_wp2;go_ret;exact Zjk.same B.o (by omega) zL
 rw[if_neg j];rw[if_neg j,if_neg j] at c;clear j
 cases ho:look (Zbk d) n with
 | none=>
  rw[ho] at c
  dsimp only [Option.map_none,Option.isSome_none,Bool.false_eq_true,if_false,Ztk] at c ⊢
  clear ho
  go_enter func59,ntmps59
  go_wp2_with fail
  refine c.o.mono ?_;rintro e w' ⟨rfl,rfl⟩;go_wp2;go_ret;exact Zjk.same B.o (by omega) zL
 | some f=>
  rw[ho] at c
  dsimp only [Option.map_some,Option.isSome_some,if_true,Ztk] at c ⊢
  have M:=ZZ ho;have a:f<d.files.length:=(l.o.dir.mayOf ho).2;have q:=ZZ (H.o.rest.file f a);obtain⟨E,-⟩:=(H.o.rest.file f a).box.cell 0 rfl;obtain⟨X,U⟩:=(H.o.rest.file f a).box.cell 1 rfl
  have O:Hid (ZaM F (w.setCell ⟨L.ps f,1,none⟩ (.int .i64 ((fl d.files f).b.length:Int))) p { L with vs:=fun i=>if i=f then L.vs f else L.vs i } { d with files:=Zhr d.files f } (ZcL d) N):=ZZ (H.o.setFile (F':=F) (v':=L.vs f) (x':=⟨(fl d.files f).b,(fl d.files f).b.length⟩) a (fun k _ R _=>Below.heap_setCell _ _ _ _ R) ⟨q.o.box.set 1 _,Zae q.o.own fun g A=>Below.heap_setCell _ _ _ _ (by
   obtain⟨Y,V⟩:=Zeh q.o.own A
   exact V.ne q.o.box (by decide))⟩ (.inl rfl) (fun _ m=>m) (fun g A=>H.o.rest.fv f a g A) (fun k m=>by simpa using H.o.lt k m))
  have G:Hid (Zap F w (w.setCell ⟨L.ps f,1,none⟩ (.int .i64 ((fl d.files f).b.length:Int)))):=ZZ ((Zap.refl _ _).setCell 1 (fun _=>H.o.rest.fp f a) _)
  obtain⟨va,vc,D⟩:=q.o.own.shape;rw[D] at E;obtain⟨y,z⟩:∃ y,y=w.setCell ⟨L.ps f,1,none⟩ (.int .i64 ((fl d.files f).b.length:Int)):=⟨_,rfl⟩;rw[<-z] at O G;have J:=ZZ z;clear ho a D K z
  go_enter func59,ntmps59
  go_wp2_with fail
  refine c.o.mono ?_;rintro e w' ⟨rfl,rfl⟩
  go_upto_region 5 with fail
  rw[<-J.o];clear J E X U
  go_wp2_with fail
  refine(Zfq y O.o u.o.2).mono ?_;rintro e Z ⟨rfl,S,W⟩;go_wp2;go_ret;refine⟨rfl,F,⟨{ L with vs:=fun i=>if i=f then L.vs f else L.vs i },?_,?_,⟨?_,?_,?_⟩,u.o.1,Zgr u.o.2⟩,G.o.trans W (fun _ _ a=>a),fun _ m=>.inl m⟩
  ·rw[Zun l.o M.o]
   exact S.mono (by omega)
  ·exact l.o.bytes (by simp[Zhr]) (ZjO l.o.keep _ zL)
  ·have:=t.o.files
   show(Zhr d.files f).length<=_;simp[Zhr];omega
  ·have:=t.o.names
   show d.kept.length+d.waits.length<=_;omega
  ·intro x v
   rcases List.mem_or_eq_of_mem_set v with v | rfl
   ·exact t.o.bytes x v
   ·have:=t.o.bytes _ (ZeS (l.o.dir.mayOf M.o).2)
    exact this
theorem Ztm {F:Nat->Prop} {p:Nat} {L:Lay} {d:Dk} {U:Int} {N T:Nat} (n:Int) (q:I64 n) (w:World) (h:ZaM F w p L d U N) (j:OkD d) (g:Bnd d N T) (x:T<=1000000000) (y:0<=U∧U<=1000000000000000):
 Calls prog 104 #[ptr p,.int .i64 n] w fun e w'=>e=.returned (.tuple #[])∧ZaM F w' p L d (U-(Zul d.files (look (Zbk d) n):Int)) N∧Zap F w w':=by
 have H:=ZZ h;obtain⟨⟨-,z,B,-,-,-⟩,v,-⟩:=h.cells;have a:=h.rest.now.look q
 cases ho:look (Zbk d) n with
 | none=>
  rw[ho] at a;have u:(Instr.lookup 65 (.map (some L.now)) (.int .i64 n) true).run prog w=.ok (.tuple #[.pointer none,.bool false]) w:=a;clear a ho h j g
  go_enter func104,ntmps104
  go_wp2;go_end0;exact⟨rfl,by simpa[Zul] using H.o,Zap.refl _ _⟩
 | some f=>
  rw[ho] at a;have u:(Instr.lookup 65 (.map (some L.now)) (.int .i64 n) true).run prog w=.ok (.tuple #[.pointer (some ⟨L.ps f,0,none⟩),.bool true]) w:=a;have c:f<d.files.length:=(j.dir.mayOf ho).2;obtain⟨k,-⟩:=(h.rest.file f c).box.cell 0 rfl;obtain⟨C,A,l⟩:=(h.rest.file f c).own.shape;rw[l] at k;have t:=g.bytes _ (ZeS c);obtain⟨m,i⟩:∃ m,m=(fl d.files f).b.length:=⟨_,rfl⟩;have e:Zul d.files (some f)=m:=i.symm;rw[e];rw[<-i] at k t;clear a ho h j g c l i e q
  go_enter func104,ntmps104
  go_upto_region 2 with fail
  go_region
  go_end0;exact⟨rfl,(H.o.setHead 1 (.int .i64 (U-(m:Int))) ⟨rfl,rfl,rfl⟩ rfl).keep (fun _ _=>rfl) zL,((Zap.refl _ _).setCell 1 (fun _=>H.o.fh) _).drewN 1⟩
theorem Bnd.waited {d:Dk} {N T:Nat} (h:Bnd d N T) (c:Ch) (q:Int):Bnd { d with waits:=d.waits++[c],power:=q } (N+1) T:=
 ⟨by have:=h.files;show d.files.length<=_;omega,by have:=h.names;show d.kept.length+(d.waits++[c]).length<=_;simp;omega,h.bytes⟩
theorem ZaM.drewN {F:Nat->Prop} {w:World} {p:Nat} {L:Lay} {d:Dk} {u:Int} {N:Nat} (h:ZaM F w p L d u N) (q:Nat):ZaM F (w.drewN q) p L d u N:=h.keep (fun _ _=>rfl) zL
theorem ZmT {F:Nat->Prop} {p:Nat} {d:Dk} {N T:Nat} (n:Int) (z:I64 n) (w:World) (h:Dsk F w p d N T) (P:N<=1000000) (D:T<=1000000000):
 Calls prog 69 #[ptr p,.int .i64 n] w fun e w'=>Zjk F w p (Zam d n).1 (Zam d n).2 (N+2) T e w':=by
 have B:=ZZ h;obtain⟨L,h,t,j,I,R⟩:=h;have g:=ZZ (ZjR n z w h);have H:=ZZ h;have q:=ZZ t;have C:=ZZ j;have u:=ZZ (And.intro I R);have Y:=Zrt t j P D;have M:=ZZ (Ztm n z w h t j D (by omega))
 clear h t j I R Y;unfold Zam;by_cases i:d.power=0
 ·rw[if_pos i]
  rw[if_pos i,if_pos i] at g;clear i
  go_enter func69,ntmps69
  go_wp2_with fail
  refine g.o.mono ?_;rintro e w' ⟨rfl,rfl⟩;go_wp2;go_ret;exact Zjk.same B.o (by omega) zL
 rw[if_neg i];rw[if_neg i,if_neg i] at g;clear i
 cases ho:look (Zbk d) n with
 | none=>
  rw[ho] at g
  dsimp only [Option.map_none,Option.isSome_none,Bool.false_eq_true,if_false,Ztk] at g ⊢
  clear ho
  go_enter func69,ntmps69
  go_wp2_with fail
  refine g.o.mono ?_;rintro e w' ⟨rfl,rfl⟩;go_wp2;go_ret;exact Zjk.same B.o (by omega) zL
 | some f=>
  rw[ho] at g M
  dsimp only [Option.map_some,Option.isSome_some,if_true,Ztk] at g ⊢
  have K:=ZZ ho;have V:=ZZ (q.o.dir.mayOf ho);clear ho z
  go_enter func69,ntmps69
  go_wp2_with fail
  refine g.o.mono ?_;rintro e w' ⟨rfl,rfl⟩
  go_wp2_with fail
  refine M.o.mono ?_;rintro e a ⟨rfl,S,A⟩;have ad:=ZZ S;have m:=ZZ A;clear S A
  go_wp2_with fail
  refine(Zzf n a).mono ?_;rintro e c ⟨rfl,l⟩;have v:Below a.heap.size a c:=by rw[l];exact(Below.refl _ _).alloc zL _
  have W:c.heap.size=a.heap.size+1:=by rw[l];simp
  have J:Bk 3 c a.heap.size #[.int .i64 n]:=by rw[l];exact heap_alloc_new a _
  have ae:=ZZ (ad.o.more v);have aa:Hid (ChV (Gr F a c) c L.ps (.take n) (.func (.func 157) #[] #[ptr a.heap.size])):=ZZ ⟨_,rfl,J,.inr ⟨Nat.le_refl _,by omega⟩⟩
  have y:Hid (Zap F w' c):=ZZ (m.o.trans (G:=fun _=>False) (Zap.ofBelow v) (fun _ _ hf=>hf.elim))
  have O:=ZZ (ZkH c ae.o aa.o q.o V.o.1 P (by have:=C.o.names;omega))
  clear v W J l
  go_wp2_with fail
  refine O.o.mono ?_;rintro e x ⟨rfl,X,E,-,-,Q⟩
  have Z:Hid (Zap F w' x):=ZZ (y.o.trans Q (fun k hk hf=>by
   rcases hf with hf | hf
   ·exact hf
   ·have:=m.o.size;omega))
  have ab:=ZZ E;clear E Q O
  go_wp2_with fail
  refine(Zfq x ab.o u.o.2).mono ?_;rintro e W4 ⟨rfl,ac,U⟩;go_wp2;go_ret;refine⟨rfl,Gr (Gr F a c) c x,⟨X,?_,?_,(C.o.waited (.take n) _).mono (by omega) zL,u.o.1,Zgr u.o.2⟩,Z.o.trans U (fun k hk hf=>?_),fun k hk=>?_⟩
  ·have hu:=Zup q.o K.o (ZfK d.power)
   have e1:(ZcL { d with waits:=d.waits++[.take n],power:=ZfK d.power }:Int)=(ZcL d:Int)-(Zul d.files (some f):Int):=by
    show _=(ZcL d:Int)-((fl d.files f).b.length:Int);omega
   rw[e1];exact ac.mono (by omega)
  ·exact q.o.taken K.o _
  ·rcases hf with (hf | hf) | hf
   ·exact hf
   ·have:=m.o.size;omega
   ·have:=y.o.size;omega
  ·rcases hk with (hk | hk) | hk
   ·exact .inl hk
   ·have:=m.o.size;exact .inr (by omega)
   ·have:=y.o.size;exact .inr (by omega)
theorem Zur (w:World) (a b c:Obj):(((w.alloc a).alloc b).alloc c).heap[w.heap.size]?=some a∧(((w.alloc a).alloc b).alloc c).heap[w.heap.size+1]?=some b∧(((w.alloc a).alloc b).alloc c).heap[w.heap.size+1+1]?=some c:=by
 have d:(w.alloc a).heap.size=w.heap.size+1:=by simp
 have e:((w.alloc a).alloc b).heap.size=w.heap.size+1+1:=by simp
 refine⟨?_,?_,?_⟩
 ·rw[Below.heap_alloc _ _ _ (by omega),Below.heap_alloc _ _ _ (by omega)]
  exact heap_alloc_new w a
 ·rw[Below.heap_alloc _ _ _ (by omega),<-d]
  exact heap_alloc_new _ b
 ·rw[<-e]
  exact heap_alloc_new _ c
theorem Zus {F:Nat->Prop} {p:Nat} {d:Dk} {N T:Nat} (n m:Int) (W:I64 n) (U:I64 m) (w:World) (h:Dsk F w p d N T) (Z:N<=1000000) (Q:T<=1000000000):
 Calls prog 61 #[ptr p,.int .i64 n,.int .i64 m] w fun e w'=>Zjk F w p (Zdg d n m).1 (Zdg d n m).2 (N+2) T e w':=by
 have B:=ZZ h;obtain⟨L,h,y,u,V,ab⟩:=h;have a:=ZZ (ZjR n W w h);have H:=ZZ h;have t:=ZZ y;have q:=ZZ u;have j:=ZZ (And.intro V ab);have ae:=Zrt y u Z Q;have aj:=ZZ (Ztm m U w h y u Q (by omega))
 clear h y u V ab ae;unfold Zdg;by_cases c:d.power=0
 ·rw[if_pos c]
  rw[if_pos c,if_pos c] at a;clear c
  go_enter func61,ntmps61
  go_wp2_with fail
  refine a.o.mono ?_;rintro e w' ⟨rfl,rfl⟩;go_wp2;go_ret;exact Zjk.same B.o (by omega) zL
 rw[if_neg c];rw[if_neg c,if_neg c] at a;clear c
 cases ho:look (Zbk d) n with
 | none=>
  rw[ho] at a
  dsimp only [Option.map_none,Option.isSome_none,Bool.false_eq_true,if_false,Ztk] at a ⊢
  clear ho
  go_enter func61,ntmps61
  go_wp2_with fail
  refine a.o.mono ?_;rintro e w' ⟨rfl,rfl⟩;go_wp2;go_ret;exact Zjk.same B.o (by omega) zL
 | some f=>
  rw[ho] at a
  dsimp only [Option.map_some,Option.isSome_some,if_true,Ztk] at a ⊢
  have X:=ZZ ho;have O:=ZZ (t.o.dir.mayOf ho);have l:=ZZ (Zpr m w);clear ho W U
  cases hmn:Zja m with
  | false=>
   rw[if_pos rfl];rw[hmn] at l;clear hmn
   go_enter func61,ntmps61
   go_wp2_with fail
   refine a.o.mono ?_;rintro e w' ⟨rfl,rfl⟩
   go_wp2_with fail
   refine l.o.mono ?_;rintro e w' ⟨rfl,rfl⟩;go_wp2;go_ret;exact Zjk.same B.o (by omega) zL
  | true=>
  rw[if_neg (by simp)]
  rw[hmn] at l;have S:=ZZ hmn;clear hmn;by_cases i:n=m
  ·rw[if_pos i]
   have ah:(n != m)=false:=by simpa using i
   clear i
   go_enter func61,ntmps61
   go_wp2_with fail
   refine a.o.mono ?_;rintro e w' ⟨rfl,rfl⟩
   go_wp2_with fail
   refine l.o.mono ?_;rintro e w' ⟨rfl,rfl⟩
   go_wp2_with fail
   refine(Zfq _ H.o j.o.2).mono ?_;rintro e W4 ⟨rfl,J,z⟩;go_wp2;go_ret;exact⟨rfl,F,⟨L,J.mono (by omega),t.o.power _,⟨by have:=q.o.files;show d.files.length<=_;omega,by have:=q.o.names;show d.kept.length+d.waits.length<=_;omega,q.o.bytes⟩,j.o.1,Zgr j.o.2⟩,z,fun _ hk=>.inl hk⟩
  rw[if_neg i];have ah:(n != m)=true:=by simpa using i
  have I:=ZZ i;clear i
  go_enter func61,ntmps61
  go_wp2_with fail
  refine a.o.mono ?_;rintro e w' ⟨rfl,rfl⟩
  go_wp2_with fail
  refine l.o.mono ?_;rintro e w' ⟨rfl,rfl⟩
  go_wp2_with fail
  refine aj.o.mono ?_;rintro e b ⟨rfl,ac,P⟩;have ak:=ZZ ac;have x:=ZZ P;clear ac P
  go_wp2_with fail
  refine(ZwC n m (L.ps f) b).mono ?_;rintro e g ⟨rfl,v⟩;have A:Below b.heap.size b g:=by rw[v];exact(((Below.refl _ _).alloc zL _).alloc (by simp) _).alloc (by simp;omega) _
  have ad:g.heap.size=b.heap.size+1+1+1:=by rw[v];simp
  obtain⟨D,M,E⟩:=Zur b (.cells #[.int .i64 n] 3) (.cells #[.int .i64 m] 3) (.cells #[ptr (L.ps f)] 115);rw[<-v] at D M E;have al:=ZZ (ak.o.more A);have ag:Hid (ChV (Gr F b g) g L.ps (.move n m f) (.func (.func 143) #[] #[ptr (b.heap.size+1+1),ptr (b.heap.size+1),ptr b.heap.size])):=ZZ ⟨_,_,_,rfl,D,M,E,.inr ⟨Nat.le_refl _,by omega⟩,.inr ⟨by omega,by omega⟩,.inr ⟨by omega,by omega⟩⟩
  have K:Hid (Zap F w' g):=ZZ (x.o.trans (G:=fun _=>False) (Zap.ofBelow A) (fun _ _ hf=>hf.elim))
  have Y:=ZZ (ZkH g al.o ag.o t.o ⟨O.o.1,S.o,I.o,O.o.2⟩ Z (by have:=q.o.names;omega))
  clear A ad D M E v
  go_wp2_with fail
  refine Y.o.mono ?_;rintro e C ⟨rfl,L3,R,-,-,aa⟩
  have af:Hid (Zap F w' C):=ZZ (K.o.trans aa (fun k hk hf=>by
   rcases hf with hf | hf
   ·exact hf
   ·have:=x.o.size;omega))
  have ai:=ZZ R;clear R aa Y
  go_wp2_with fail
  refine(Zfq C ai.o j.o.2).mono ?_;rintro e W4 ⟨rfl,J,z⟩;go_wp2;go_ret;refine⟨rfl,Gr (Gr F b g) g C,⟨L3,?_,?_,(q.o.waited (.move n m f) _).mono (by omega) zL,j.o.1,Zgr j.o.2⟩,af.o.trans z (fun k hk hf=>?_),fun k hk=>?_⟩
  ·have hu:=Zuo t.o I.o X.o (ZfK d.power)
   have e1:(ZcL { d with waits:=d.waits++[.move n m f],power:=ZfK d.power }:Int)=(ZcL d:Int)-(Zul d.files (look (Zbk d) m):Int):=by omega
   rw[e1];exact J.mono (by omega)
  ·exact t.o.moved X.o S.o I.o _
  ·rcases hf with (hf | hf) | hf
   ·exact hf
   ·have:=x.o.size;omega
   ·have:=K.o.size;omega
  ·rcases hk with (hk | hk) | hk
   ·exact .inl hk
   ·have:=x.o.size;exact .inr (by omega)
   ·have:=K.o.size;exact .inr (by omega)
open Go.RowKit Go.ChangeShapes
theorem ZkK:prog.cellsOf 3=1:=by kernel_rfl
theorem Zut:prog.cellsOf 23=1:=by kernel_rfl
theorem ZbF {n:Int} (h:(Lit.int .i64 n).wf=true):I64 n:=by
 simpa[I64,Lit.wf,IntKind.min,IntKind.max,IntKind.signed,IntKind.bits] using h
section
variable {H:Type} {enc:TypeId × Value->H} {w:World} {base fuel:Nat} {held:Bool}
theorem Ztn {cs:List Value} {x:DataW H × List MemPlace} (h:DataW.trod enc prog w base (fun _=>true) held fuel 23 cs=some x):∃ v l,cs=[v]∧RdI w v l:=by
 rcases open_ints underlying23 underlying3 (by kernel_rfl) h with ⟨a,_⟩ | ⟨y,l,c,i,a,_,g,f,e,_,b,d⟩
 ·exact⟨_,[],a,RdI.nil _⟩
 ·exact⟨_,_,a,RdI.ofRow g f (by simpa using e) b d⟩
end
end Go.Proofs.YtnahjngbneicaaaGreatDoor
