import Derived.Test.YtfiffndhehkapaaGreatDoorPack1
import Derived.Test.YtfiffndhehkapaaGreatDoorPack2
import Derived.Maps.AppendAt
import Derived.Deep.QuietTactic
import Derived.BigQuiet
import Derived.Deep.DeepCutAuto
import Derived.Deep.RegionLaw
import Derived.Lib.LazyBuf
import Derived.ChangeSlices
import Derived.Deep.Slices
import Derived.WideShapes
namespace Go.Proofs.YtfiffndhehkapaaGreatDoor
set_option maxHeartbeats 2000000
set_option maxRecDepth 100000
open Go.RowKit
structure Zas (F:Nat->Prop) (w w':World):Prop where
 os:w'.os=w.os
 tape:w'.tape=w.tape
 output:w'.output=w.output
 size:w.heap.size<=w'.heap.size
 block:∀ k,k<w.heap.size->¬ F k->w'.heap[k]?=w.heap[k]?
theorem Zas.refl (F:Nat->Prop) (w:World):Zas F w w:=⟨rfl,rfl,rfl,Nat.le_refl _,fun _ _ _=>rfl⟩
theorem Zas.trans {F G:Nat->Prop} {a b c:World} (h:Zas F a b) (k:Zas G b c) (hG:∀ x,x<a.heap.size->G x->F x):Zas F a c:=
 ⟨k.os.trans h.os,k.tape.trans h.tape,k.output.trans h.output,Nat.le_trans h.size k.size,fun i hi hn=>(k.block i (Nat.lt_of_lt_of_le hi h.size) (fun hg=>hn (hG i hi hg))).trans (h.block i hi hn)⟩
theorem Zas.mono {F G:Nat->Prop} {w w':World} (h:Zas F w w') (hG:∀ k,F k->G k):Zas G w w':=⟨h.os,h.tape,h.output,h.size,fun k hk hn=>h.block k hk fun hf=>hn (hG k hf)⟩
theorem Zas.ofGrown {F:Nat->Prop} {w w':World} {row:Option Nat} (h:w.grownBy w' row) (hr:∀ k,row=some k->k<w.heap.size->F k):Zas F w w':=
 ⟨h.os,h.tape,h.output,h.size,fun k hk hn=>h.block k hk fun e=>hn (hr k e.symm hk)⟩
theorem Zas.ofBelow {F:Nat->Prop} {w w':World} (h:Below w.heap.size w w'):Zas F w w':=⟨h.os,h.tape,h.output,h.size,fun k hk _=>h.block k hk⟩
theorem Zas.below {F:Nat->Prop} {w w':World} {B:Nat} (h:Zas F w w') (hB:B<=w.heap.size) (hF:∀ k,F k->B<=k):Below B w w':=
 ⟨h.os,h.tape,h.output,h.size,fun k hk=>h.block k (Nat.lt_of_lt_of_le hk hB) fun hf=>by have:=hF k hf;omega⟩
theorem Zas.setCell {F:Nat->Prop} {a w:World} (h:Zas F a w) {b:Nat} (i:Nat) (hb:b<a.heap.size->F b) (x:Value):Zas F a (w.setCell ⟨b,i,none⟩ x):=by
 have hb0:=(Below.refl 0 w).setCell (p:=⟨b,i,none⟩) (Nat.zero_le _) x
 refine⟨hb0.os.trans h.os,hb0.tape.trans h.tape,hb0.output.trans h.output,Nat.le_trans h.size hb0.size,fun k hk hn=>?_⟩
 rw[Below.heap_setCell _ _ _ _ (show k≠b by rintro rfl;exact hn (hb hk))]
 exact h.block k hk hn
theorem Zas.alloc {F:Nat->Prop} {a w:World} (h:Zas F a w) (o:Obj):Zas F a (w.alloc o):=
 h.trans (G:=fun _=>False) (Zas.ofBelow ((Below.refl _ _).alloc zL o)) (fun _ _ hf=>hf.elim)
theorem Zas.drewN {F:Nat->Prop} {a w:World} (h:Zas F a w) (n:Nat):Zas F a (w.drewN n):=⟨h.os,h.tape,h.output,h.size,h.block⟩
theorem Rd.only {w w':World} {v:Value} {l:List UInt8} (h:Rd w v l) {F:Nat->Prop} (ho:Zas F w w') (hv:∀ k,v.ownBlock=some k->¬ F k):Rd w' v l:=by
 obtain⟨ao,cap,rfl,h2,h3,hn,h4⟩:=h
 refine⟨ao,cap,rfl,h2,h3,hn,?_⟩
 rcases h4 with h4 | ⟨b,off,rfl,h6⟩
 ·exact .inl h4
 ·refine .inr ⟨b,off,rfl,fun j hj=>?_⟩
  have hc:=h6 j hj
  have hlt:b<w.heap.size:=World.block_lt_of_cell? w ⟨b,off+j,none⟩ hc
  rw[World.cell?_of_block (a:=⟨b,off+j,none⟩) (ho.block b hlt (hv b rfl))]
  exact hc
def Bk (t:TypeId) (w:World) (b:Nat) (cs:Array Value):Prop:=w.heap[b]?=some (.cells cs t (0,0))
theorem Bk.lt {t:TypeId} {w:World} {b:Nat} {cs:Array Value} (h:Bk t w b cs):b<w.heap.size:=(Array.getElem?_eq_some_iff.1 h).1
theorem Bk.keep {t:TypeId} {w w':World} {b:Nat} {cs:Array Value} (h:Bk t w b cs) (hk:w'.heap[b]?=w.heap[b]?):Bk t w' b cs:=hk.trans h
theorem Bk.cell {t:TypeId} {w:World} {b:Nat} {cs:Array Value} (h:Bk t w b cs) (j:Nat) {x:Value} (hx:cs[j]?=some x):w.cell? ⟨b,j,none⟩=some x∧w.frozen? ⟨b,j,none⟩=false:=
 ⟨(cell_of_row w b j _ _ _ h).trans hx,frozen_of_row w b j _ _ h⟩
theorem Bk.set {t:TypeId} {w:World} {b:Nat} {cs:Array Value} (h:Bk t w b cs) (j:Nat) (x:Value):Bk t (w.setCell ⟨b,j,none⟩ x) b (cs.setIfInBounds j x):=by
 have:=heap_setCell_same w b j _ _ x h
 unfold Bk
 simpa using this
theorem Bk.other {t:TypeId} {w:World} {b:Nat} {cs:Array Value} (h:Bk t w b cs) (c j:Nat) (x:Value) (hne:b≠c):Bk t (w.setCell ⟨c,j,none⟩ x) b cs:=
 (Below.heap_setCell _ _ _ _ hne).trans h
theorem Bk.ne {t t':TypeId} {w:World} {b b':Nat} {cs cs':Array Value} (h:Bk t w b cs) (h':Bk t' w b' cs') (ht:t≠t'):b≠b':=by
 rintro rfl
 unfold Bk at h h'
 rw[h] at h'
 simp only [Option.some.injEq,Obj.cells.injEq] at h'
 exact ht h'.2.1
theorem Bk.neMap {t:TypeId} {w:World} {b m n:Nat} {cs:Array Value} {f:Int->Option Nat} (h:Bk t w b cs) (hm:Zer w m n f):b≠m:=hm.apart h
theorem ZeQ {w:World} {base n:Nat} {t:TypeId} {v:Value} {xs:List Value} (h:w.ownsRow base t 1 v n xs) {g:Nat} (hg:v.ownBlock=some g):∃ cs,Bk t w g cs:=by
 rcases h.2 with ⟨hv,_⟩ | ⟨g',cap,cur,hv,_,hb,_⟩
 ·rw[hv] at hg;cases hg
 ·rw[hv] at hg
  obtain rfl:g'=g:=by simpa[Value.ownBlock] using hg
  exact⟨cur,hb⟩
theorem Zaf {w w':World} {base n s:Nat} {t:TypeId} {v:Value} {xs:List Value} (h:w.ownsRow base t s v n xs) (hk:∀ g,v.ownBlock=some g->w'.heap[g]?=w.heap[g]?):w'.ownsRow base t s v n xs:=by
 obtain⟨h1,h2⟩:=h
 refine⟨h1,?_⟩
 rcases h2 with h2 | ⟨g,cap,cur,hv,hbg,hg,r⟩
 ·exact .inl h2
 ·exact .inr ⟨g,cap,cur,hv,hbg,(hk g (by rw[hv];rfl)).trans hg,r⟩
theorem Own.shape {w:World} {B:Nat} {v:Value} {l:List UInt8} (h:Own w B v l):∃ ao cap,v=.slice ao l.length cap:=by
 obtain⟨ao,cap,hv,_⟩:=h.rd
 exact⟨ao,cap,hv⟩
structure ZqF (w:World) (b:Nat) (v:Value) (x:Fl):Prop where
 box:Bk 118 w b #[v,.int .i64 (x.k:Int)]
 own:Own w 0 v x.b
theorem ZqF.keep {w w':World} {b:Nat} {v:Value} {x:Fl} (h:ZqF w b v x) (h1:w'.heap[b]?=w.heap[b]?) (h2:∀ g,v.ownBlock=some g->w'.heap[g]?=w.heap[g]?):ZqF w' b v x:=
 ⟨h.box.keep h1,Zaf h.own h2⟩
abbrev ptr (b:Nat):Value:=.pointer (some ⟨b,0,none⟩)
def ChV (F:Nat->Prop) (w:World) (ps:Nat->Nat):Ch->Value->Prop
 | .give n f,v=>∃ b1 b2,v=.func (.func 140) #[] #[ptr b2,ptr b1]∧Bk 3 w b1 #[.int .i64 n]∧Bk 116 w b2 #[ptr (ps f)]∧F b1∧F b2
 | .move n tz f,v=>∃ b1 b2 b3,v=.func (.func 144) #[] #[ptr b3,ptr b2,ptr b1]∧Bk 3 w b1 #[.int .i64 n]∧Bk 3 w b2 #[.int .i64 tz]∧Bk 116 w b3 #[ptr (ps f)]∧F b1∧F b2∧F b3
 | .take n,v=>∃ b1,v=.func (.func 158) #[] #[ptr b1]∧Bk 3 w b1 #[.int .i64 n]∧F b1
def chOf:Ch->Option Nat
 | .give _ f=>some f
 | .move _ _ f=>some f
 | .take _=>none
theorem ChV.keep {F F':Nat->Prop} {w w':World} {ps ps':Nat->Nat} {c:Ch} {v:Value} (h:ChV F w ps c v) (hF:∀ k,F k->F' k) (hp:∀ f,chOf c=some f->ps' f=ps f)
 (hk:∀ k cs,F k->(Bk 3 w k cs∨Bk 116 w k cs)->w'.heap[k]?=w.heap[k]?):ChV F' w' ps' c v:=by
 cases c with
 | give n f=>
  obtain⟨b1,b2,rfl,h1,h2,f1,f2⟩:=h
  exact⟨b1,b2,rfl,h1.keep (hk _ _ f1 (.inl h1)),by rw[hp f rfl];exact h2.keep (hk _ _ f2 (.inr h2)),hF _ f1,hF _ f2⟩
 | move n tz f=>
  obtain⟨b1,b2,b3,rfl,h1,h2,h3,f1,f2,f3⟩:=h
  exact⟨b1,b2,b3,rfl,h1.keep (hk _ _ f1 (.inl h1)),h2.keep (hk _ _ f2 (.inl h2)),by rw[hp f rfl];exact h3.keep (hk _ _ f3 (.inr h3)),hF _ f1,hF _ f2,hF _ f3⟩
 | take n=>
  obtain⟨b1,rfl,h1,f1⟩:=h
  exact⟨b1,rfl,h1.keep (hk _ _ f1 (.inl h1)),hF _ f1⟩
structure Lay where
 now:Nat
 kept:Nat
 wv:Value
 cs:List Value
 ps:Nat->Nat
 vs:Nat->Value
structure ZqG (F:Nat->Prop) (w:World) (L:Lay) (d:Dk) (N:Nat):Prop where
 now:Zer w L.now N (fun n=>(look (Zbo d) n).map L.ps)
 kept:Zer w L.kept N (fun n=>(look d.kept n).map L.ps)
 row:w.ownsRow 0 114 1 L.wv L.cs.length L.cs
 many:L.cs.length=d.waits.length
 wait:∀ (i:Nat) c v,d.waits[i]?=some c->L.cs[i]?=some v->ChV F w L.ps c v
 file:∀ i,i<d.files.length->ZqF w (L.ps i) (L.vs i) (fl d.files i)
 psn:∀ i j,i<d.files.length->j<d.files.length->i≠j->L.ps i≠L.ps j
 vsn:∀ i j,i<d.files.length->j<d.files.length->i≠j->∀ g,(L.vs i).ownBlock=some g->(L.vs j).ownBlock≠some g
 nk:L.now≠L.kept
 fn:F L.now
 fk:F L.kept
 fw:∀ g,L.wv.ownBlock=some g->F g
 fp:∀ i,i<d.files.length->F (L.ps i)
 fv:∀ i,i<d.files.length->∀ g,(L.vs i).ownBlock=some g->F g
def ZqH (L:Lay) (d:Dk) (u:Int):Array Value:=#[.int .i64 d.room,.int .i64 u,.map (some L.now),.map (some L.kept),L.wv,.int .i64 d.power]
structure Zbg (F:Nat->Prop) (w:World) (p:Nat) (L:Lay) (d:Dk) (u:Int) (N:Nat):Prop where
 head:Bk 70 w p (ZqH L d u)
 rest:ZqG F w L d N
 fh:F p
 lt:∀ k,F k->k<w.heap.size
theorem ZqG.keep {F:Nat->Prop} {w w':World} {L:Lay} {d:Dk} {N p:Nat} {cs:Array Value} (h:ZqG F w L d N) (hp:Bk 70 w p cs) (hk:∀ k,F k->k≠p->w'.heap[k]?=w.heap[k]?):ZqG F w' L d N where
 now:=h.now.keep (hk _ h.fn (hp.neMap h.now).symm)
 kept:=h.kept.keep (hk _ h.fk (hp.neMap h.kept).symm)
 row:=Zaf h.row fun g hg=>hk g (h.fw g hg) (by obtain⟨cs',hb⟩:=ZeQ h.row hg;exact hb.ne hp (by decide))
 many:=h.many
 wait:=fun i c v h1 h2=>(h.wait i c v h1 h2).keep (fun _ hf=>hf) (fun _ _=>rfl) (fun k cs' hf hb=>hk k hf (by rcases hb with hb | hb <;> exact hb.ne hp (by decide)))
 file:=fun i hi=>(h.file i hi).keep (hk _ (h.fp i hi) ((h.file i hi).box.ne hp (by decide))) fun g hg=>hk g (h.fv i hi g hg) (by obtain⟨cs',hb⟩:=ZeQ (h.file i hi).own hg;exact hb.ne hp (by decide))
 psn:=h.psn
 vsn:=h.vsn
 nk:=h.nk
 fn:=h.fn
 fk:=h.fk
 fw:=h.fw
 fp:=h.fp
 fv:=h.fv
theorem ZqG.mono {F:Nat->Prop} {w:World} {L:Lay} {d:Dk} {N N':Nat} (h:ZqG F w L d N) (hN:N<=N'):ZqG F w L d N':=
 ⟨h.now.mono hN,h.kept.mono hN,h.row,h.many,h.wait,h.file,h.psn,h.vsn,h.nk,h.fn,h.fk,h.fw,h.fp,h.fv⟩
theorem Zbg.setHead {F:Nat->Prop} {w:World} {p:Nat} {L:Lay} {d:Dk} {u:Int} {N:Nat} (h:Zbg F w p L d u N) (j:Nat) (x:Value) {d':Dk} {u':Int} (hd:d'.files=d.files∧d'.kept=d.kept∧d'.waits=d.waits)
 (he:(ZqH L d u).setIfInBounds j x=ZqH L d' u'):Zbg F (w.setCell ⟨p,j,none⟩ x) p L d' u' N:=by
 refine⟨by rw[<-he];exact h.head.set j x,?_,h.fh,fun k hk=>?_⟩
 ·have hr:=h.rest.keep h.head (w':=w.setCell ⟨p,j,none⟩ x) (fun k _ hne=>Below.heap_setCell _ _ _ _ hne)
  obtain⟨rm,fs,kp,ws,pw⟩:=d
  obtain⟨rm',fs',kp',ws',pw'⟩:=d'
  obtain⟨rfl,rfl,rfl⟩:=hd
  exact⟨hr.now,hr.kept,hr.row,hr.many,hr.wait,hr.file,hr.psn,hr.vsn,hr.nk,hr.fn,hr.fk,hr.fw,hr.fp,hr.fv⟩
 ·have:=h.lt k hk
  have hs:=((Below.refl 0 w).setCell (p:=⟨p,j,none⟩) (Nat.zero_le _) x).size
  omega
theorem Zbg.keep {F:Nat->Prop} {w w':World} {p:Nat} {L:Lay} {d:Dk} {u:Int} {N:Nat} (h:Zbg F w p L d u N) (hk:∀ k,F k->w'.heap[k]?=w.heap[k]?) (hs:w.heap.size<=w'.heap.size):Zbg F w' p L d u N:=
 ⟨h.head.keep (hk p h.fh),h.rest.keep h.head (fun k hf _=>hk k hf),h.fh,fun k hf=>by have:=h.lt k hf;omega⟩
theorem Zbg.only {F G:Nat->Prop} {w w':World} {p:Nat} {L:Lay} {d:Dk} {u:Int} {N:Nat} (h:Zbg F w p L d u N) (ho:Zas G w w') (hFG:∀ k,F k->¬ G k):Zbg F w' p L d u N:=
 h.keep (fun k hf=>ho.block k (h.lt k hf) (hFG k hf)) ho.size
theorem Zbg.cells {F:Nat->Prop} {w:World} {p:Nat} {L:Lay} {d:Dk} {u:Int} {N:Nat} (h:Zbg F w p L d u N):
 (w.cell? ⟨p,0,none⟩=some (.int .i64 d.room)∧w.cell? ⟨p,1,none⟩=some (.int .i64 u)∧w.cell? ⟨p,2,none⟩=some (.map (some L.now))∧w.cell? ⟨p,3,none⟩=some (.map (some L.kept))∧w.cell? ⟨p,4,none⟩=some L.wv∧w.cell? ⟨p,5,none⟩=some (.int .i64 d.power))∧
 w.frozen? ⟨p,1,none⟩=false∧w.frozen? ⟨p,3,none⟩=false∧w.frozen? ⟨p,4,none⟩=false∧w.frozen? ⟨p,5,none⟩=false:=
 ⟨⟨(h.head.cell 0 rfl).1,(h.head.cell 1 rfl).1,(h.head.cell 2 rfl).1,(h.head.cell 3 rfl).1,(h.head.cell 4 rfl).1,(h.head.cell 5 rfl).1⟩,(h.head.cell 1 rfl).2,(h.head.cell 3 rfl).2,(h.head.cell 4 rfl).2,(h.head.cell 5 rfl).2⟩
theorem Zbg.setFile {F F':Nat->Prop} {w w':World} {p:Nat} {L:Lay} {d:Dk} {u:Int} {N f:Nat} (h:Zbg F w p L d u N) (hf:f<d.files.length) {v':Value} {x':Fl}
 (hk:∀ k,F k->k≠L.ps f->(L.vs f).ownBlock≠some k->w'.heap[k]?=w.heap[k]?)
 (hv:ZqF w' (L.ps f) v' x') (hr:v'.ownBlock=(L.vs f).ownBlock∨∀ g,v'.ownBlock=some g->w.heap.size<=g)
 (hF:∀ k,F k->F' k) (hF':∀ g,v'.ownBlock=some g->F' g) (hlt:∀ k,F' k->k<w'.heap.size):
 Zbg F' w' p { L with vs:=fun i=>if i=f then v' else L.vs i } { d with files:=d.files.set f x' } u N:=by
 have h0:=h.rest
 have hb0:=(h0.file f hf).box
 have hne:∀ {t:TypeId} {k:Nat} {cs:Array Value},Bk t w k cs->F k->t≠118->t≠5->w'.heap[k]?=w.heap[k]?:=fun {t k cs} hb hfk h1 h2=>hk k hfk (hb.ne hb0 h1) fun hg=>by
  obtain⟨cs',hb'⟩:=ZeQ (h0.file f hf).own hg
  exact(hb.ne hb' h2) rfl
 have hmap:∀ {k n:Nat} {g:Int->Option Nat},Zer w k n g->F k->w'.heap[k]?=w.heap[k]?:=fun {k n g} hm hfk=>hk k hfk (hb0.neMap hm).symm fun hg=>by
  obtain⟨cs',hb'⟩:=ZeQ (h0.file f hf).own hg
  exact(hb'.neMap hm) rfl
 have hlen:(d.files.set f x').length=d.files.length:=List.length_set ..
 refine⟨h.head.keep (hne h.head h.fh (by decide) (by decide)),?_,hF _ h.fh,hlt⟩
 refine⟨h0.now.keep (hmap h0.now h0.fn),h0.kept.keep (hmap h0.kept h0.fk),Zaf h0.row fun g hg=>?_,h0.many,fun i c v h1 h2=>?_,fun i hi=>?_,fun i j hi hj=>?_,fun i j hi hj hij=>?_,h0.nk,hF _ h0.fn,hF _ h0.fk,fun g hg=>hF g (h0.fw g hg),fun i hi=>hF _ (h0.fp i (by rw[<-hlen];exact hi)),fun i hi=>?_⟩
 ·obtain⟨cs',hb⟩:=ZeQ h0.row hg
  exact hne hb (h0.fw g hg) (by decide) (by decide)
 ·exact(h0.wait i c v h1 h2).keep hF (fun _ _=>rfl) fun k cs' hfk hb=>by rcases hb with hb | hb <;> exact hne hb hfk (by decide) (by decide)
 ·have hi':i<d.files.length:=by rw[<-hlen];exact hi
  show ZqF w' (L.ps i) (if i=f then v' else L.vs i) (fl (d.files.set f x') i)
  by_cases e:i=f
  ·rw[if_pos e,e,ZjC hf]
   exact hv
  ·rw[if_neg e,ZfC (fun e'=>e e'.symm)]
   refine(h0.file i hi').keep (hk _ (h0.fp i hi') (h0.psn i f hi' hf e) fun hg=>?_) fun g hg=>hk g (h0.fv i hi' g hg) ?_ (fun hg'=>h0.vsn i f hi' hf e g hg hg')
   ·obtain⟨cs',hb'⟩:=ZeQ (h0.file f hf).own hg
    exact((h0.file i hi').box.ne hb' (by decide)) rfl
   ·obtain⟨cs',hb'⟩:=ZeQ (h0.file i hi').own hg
    exact hb'.ne hb0 (by decide)
 ·rw[hlen] at hi hj
  exact h0.psn i j hi hj
 ·rw[hlen] at hi hj
  have hold:∀ i,i<d.files.length->i≠f->∀ g,(L.vs i).ownBlock=some g->v'.ownBlock≠some g:=fun i hi hif g hg hg'=>by
   rcases hr with hr | hr
   ·exact h0.vsn i f hi hf hif g hg (by rw[<-hr];exact hg')
   ·have h1:=hr g hg'
    have h2:=h.lt g (h0.fv i hi g hg)
    omega
  show ∀ g,(if i=f then v' else L.vs i).ownBlock=some g->(if j=f then v' else L.vs j).ownBlock≠some g
  intro g
  by_cases e1:i=f
  ·rw[if_pos e1,if_neg (by rw[<-e1];exact Ne.symm hij)]
   exact fun hg hg'=>hold j hj (by rw[<-e1];exact Ne.symm hij) g hg' hg
  ·rw[if_neg e1]
   by_cases e2:j=f
   ·rw[if_pos e2]
    exact hold i hi e1 g
   ·rw[if_neg e2]
    exact h0.vsn i j hi hj hij g
 ·rw[hlen] at hi
  show ∀ g,(if i=f then v' else L.vs i).ownBlock=some g->F' g
  intro g
  by_cases e:i=f
  ·rw[if_pos e]
   exact hF' g
  ·rw[if_neg e]
   exact fun hg=>hF g (h0.fv i hi g hg)
structure Bnd (d:Dk) (N T:Nat):Prop where
 files:d.files.length<=N
 names:d.kept.length+d.waits.length<=N
 bytes:∀ x ∈ d.files,x.b.length<=T
def Dsk (F:Nat->Prop) (w:World) (p:Nat) (d:Dk) (N T:Nat):Prop:=
 ∃ L,Zbg F w p L d (ZcF d) N∧OkD d∧Bnd d N T∧I64 d.room∧I64 d.power
theorem Dsk.only {F G:Nat->Prop} {w w':World} {p:Nat} {d:Dk} {N T:Nat} (h:Dsk F w p d N T) (ho:Zas G w w') (hFG:∀ k,F k->¬ G k):Dsk F w' p d N T:=by
 obtain⟨L,h1,h2⟩:=h
 exact⟨L,h1.only ho hFG,h2⟩
theorem Dsk.below {F:Nat->Prop} {w w':World} {p:Nat} {d:Dk} {N T:Nat} (h:Dsk F w p d N T) (hb:Below w.heap.size w w'):Dsk F w' p d N T:=
 h.only (G:=fun _=>False) (Zas.ofBelow hb) (fun _ _ hf=>hf)
theorem ZoO {F:Nat->Prop} {p:Nat} {L:Lay} {d:Dk} {u:Int} {N:Nat} (w:World) (h:Zbg F w p L d u N):
 Calls Tryz.prog 34 #[ptr p] w fun e w'=>e=.returned (.bool (d.power != 0))∧w'=w:=by
 obtain⟨⟨-,-,-,-,-,c5⟩,-⟩:=h.cells
 go_enter Tryz.func34,Tryz.ntmps34
 go_wp2
 go_ret
 exact⟨rfl,rfl⟩
theorem ZoP (n:Int) (w:World):
 Calls Tryz.prog 95 #[.int .i64 n] w fun e w'=>e=.returned (.bool (ZiE n))∧w'=w:=by
 by_cases h1:0<=n
 ·by_cases h2:n<1048576
  ·have e:ZiE n=true:=by simp[ZiE,h1,h2]
   rw[e]
   go_enter Tryz.func95,Tryz.ntmps95
   go_wp2
   go_ret
   exact⟨Zhc (by simp),rfl⟩
  ·have e:ZiE n=false:=by simp[ZiE,h1,h2]
   rw[e]
   go_enter Tryz.func95,Tryz.ntmps95
   go_wp2
   go_ret
   exact⟨Zhc (by simp),rfl⟩
 ·have e:ZiE n=false:=by simp[ZiE,h1]
  rw[e]
  go_enter Tryz.func95,Tryz.ntmps95
  go_wp2
  go_ret
  exact⟨rfl,rfl⟩
theorem ZoQ (q n:Int) (w:World):
 Calls Tryz.prog 72 #[.int .i64 q,.int .i64 n] w fun e w'=>e=.returned (.int .i64 (if q=0 then 0 else max n 0))∧w'=w:=by
 by_cases h:q=0
 ·rw[if_pos h]
  subst h
  go_enter Tryz.func72,Tryz.ntmps72
  go_wp2
  go_ret
  exact⟨rfl,rfl⟩
 ·rw[if_neg h]
  have e:(q == 0)=false:=by simpa using h
  clear h
  go_enter Tryz.func72,Tryz.ntmps72
  go_wp2
  go_ret
  exact⟨rfl,rfl⟩
theorem Zff {F:Nat->Prop} {p:Nat} {L:Lay} {d:Dk} {u:Int} {N:Nat} (w:World) (h:Zbg F w p L d u N) (hp:I64 d.power):
 Calls Tryz.prog 98 #[ptr p] w fun e w'=>e=.returned (.int .i64 0)∧Zbg F w' p L { d with power:=Zfx d.power } u N∧Zas F w w':=by
 have H:=ZZ h
 obtain⟨⟨-,-,-,-,-,c5⟩,-,-,-,f5⟩:=h.cells
 obtain⟨hp1,hp2⟩:=hp
 obtain⟨q,hq⟩:∃ q,q=d.power:=⟨_,rfl⟩
 rw[<-hq] at c5 hp1 hp2 ⊢
 by_cases hg:q>0
 ·have HE:Hid (Zfx q=q-1):=if_pos hg
  have HQ:=ZZ hq
  clear h hq
  go_enter Tryz.func98,Tryz.ntmps98
  go_wp2
  go_ret
  refine⟨rfl,?_,(Zas.refl _ _).setCell 5 (fun _=>H.out.fh) _⟩
  refine H.out.setHead 5 _ ⟨rfl,rfl,rfl⟩ ?_
  rw[HE.out]
  rfl
 ·have HE:Hid (Zfx q=q):=if_neg hg
  have HQ:=ZZ hq
  clear h hq
  go_enter Tryz.func98,Tryz.ntmps98
  go_wp2
  go_ret
  rw[HE.out,HQ.out]
  exact⟨rfl,H.out,Zas.refl _ _⟩
theorem Zyg {F:Nat->Prop} {p:Nat} {d:Dk} {N T:Nat} (n:Int) (hn:I64 n) (w:World) (h:Dsk F w p d N T):
 Calls Tryz.prog 31 #[ptr p,.int .i64 n] w fun e w'=>e=.returned (.tuple #[])∧Dsk F w' p (ZxH d n) N T∧Zas F w w':=by
 obtain⟨L,h,hok,hbn,hrm,hpw⟩:=h
 have H:=ZZ h
 have HC:=ZZ (And.intro hok (And.intro hbn (And.intro hrm hpw)))
 have HN:=ZZ hn
 obtain⟨⟨-,-,-,-,-,c5⟩,-,-,-,f5⟩:=h.cells
 obtain⟨q,hq⟩:∃ q,q=d.power:=⟨_,rfl⟩
 have HQ:=ZZ hq
 rw[<-hq] at c5
 clear h hok hbn hrm hpw hq hn
 have HP:=ZZ (ZoQ q n w)
 obtain⟨r,hr⟩:∃ r,r=(if q=0 then(0:Int) else max n 0):=⟨_,rfl⟩
 rw[<-hr] at HP
 have HR:=ZZ hr
 clear hr
 go_enter Tryz.func31,Tryz.ntmps31
 go_wp2_with fail
 refine HP.out.mono ?_
 rintro e w' ⟨rfl,rfl⟩
 go_wp2
 go_end0
 refine⟨rfl,⟨L,?_,OkD.cut HC.out.1 n,⟨HC.out.2.1.files,HC.out.2.1.names,HC.out.2.1.bytes⟩,HC.out.2.2.1,?_⟩,(Zas.refl _ _).setCell 5 (fun _=>H.out.fh) _⟩
 ·refine H.out.setHead 5 _ ⟨rfl,rfl,rfl⟩ ?_
  rw[HR.out,HQ.out]
  rfl
 ·obtain⟨h1,h2⟩:=HN.out
  unfold ZxH I64
  dsimp only
  split <;> omega
theorem ZzN (w:World) (room:Int) (hr:I64 room):Dsk (fun k=>w.heap.size<=k∧k<(((w.alloc (.map #[] 0)).alloc (.map #[] 0)).alloc (.cells #[.int .i64 room,.int .i64 0,.map (some w.heap.size),.map (some (w.heap.size+1)),.slice none 0 0,.int .i64 (-1)] 70)).heap.size)
 (((w.alloc (.map #[] 0)).alloc (.map #[] 0)).alloc (.cells #[.int .i64 room,.int .i64 0,.map (some w.heap.size),.map (some (w.heap.size+1)),.slice none 0 0,.int .i64 (-1)] 70)) (w.heap.size+1+1) (ZlH room) 0 0:=by
 have m1:=Zer.made w
 obtain⟨W1,h1⟩:∃ W1,W1=w.alloc (.map #[] 0):=⟨_,rfl⟩
 have s1:W1.heap.size=w.heap.size+1:=by rw[h1];simp
 rw[<-h1] at m1 ⊢
 have m2:=Zer.made W1
 have k1:=m1.keep (w':=W1.alloc (.map #[] 0)) (Below.heap_alloc _ _ _ (by omega))
 obtain⟨W2,h2⟩:∃ W2,W2=W1.alloc (.map #[] 0):=⟨_,rfl⟩
 have s2:W2.heap.size=w.heap.size+1+1:=by rw[h2];simp[s1]
 rw[<-h2] at m2 k1 ⊢
 rw[s1] at m2
 obtain⟨A,hA⟩:∃ A:Array Value,A=#[.int .i64 room,.int .i64 0,.map (some w.heap.size),.map (some (w.heap.size+1)),.slice none 0 0,.int .i64 (-1)]:=⟨_,rfl⟩
 rw[<-hA]
 have k2:=m2.keep (w':=W2.alloc (.cells A 70)) (Below.heap_alloc _ _ _ (by omega))
 have k3:=k1.keep (w':=W2.alloc (.cells A 70)) (Below.heap_alloc _ _ _ (by omega))
 have hb:Bk 70 (W2.alloc (.cells A 70)) W2.heap.size A:=heap_alloc_new W2 _
 rw[s2] at hb
 have s3:(W2.alloc (.cells A 70)).heap.size=w.heap.size+1+1+1:=by simp[s2]
 obtain⟨W3,h3⟩:∃ W3,W3=W2.alloc (.cells A 70):=⟨_,rfl⟩
 rw[<-h3] at k2 k3 hb s3 ⊢
 refine⟨⟨w.heap.size,w.heap.size+1,.slice none 0 0,[],fun _=>0,fun _=>.slice none 0 0⟩,⟨by rw[hA] at hb;exact hb,?_,⟨by omega,by omega⟩,fun k hk=>hk.2⟩,Zvk room,⟨Nat.le_refl _,Nat.le_refl _,(fun x hx=>by cases hx)⟩,hr,⟨by show(-9223372036854775808:Int)<=-1;omega,by show(-1:Int)<=9223372036854775807;omega⟩⟩
 refine⟨k3,k2,World.ownsRow_nil _ _ _ _,rfl,(fun i c v h=>by simp[ZlH] at h),(fun i hi=>absurd hi (Nat.not_lt_zero _)),(fun i j hi=>absurd hi (Nat.not_lt_zero _)),(fun i j hi=>absurd hi (Nat.not_lt_zero _)),(by show w.heap.size≠w.heap.size+1;omega),⟨by show w.heap.size<=w.heap.size;omega,by show w.heap.size<_;omega⟩,⟨by show w.heap.size<=w.heap.size+1;omega,by show w.heap.size+1<_;omega⟩,(fun g hg=>by cases hg),(fun i hi=>absurd hi (Nat.not_lt_zero _)),(fun i hi=>absurd hi (Nat.not_lt_zero _))⟩
theorem ZzO (room:Int) (hr:I64 room) (w:World):
 Calls Tryz.prog 10 #[.int .i64 room] w fun e w'=>∃ p,e=.returned (ptr p)∧Dsk (fun k=>w.heap.size<=k∧k<w'.heap.size) w' p (ZlH room) 0 0∧Below w.heap.size w w':=by
 have HR:=ZZ hr
 clear hr
 have hmm:=@run_makeMap Tryz.prog
 go_enter Tryz.func10,Tryz.ntmps10
 go_wp2
 go_ret
 exact⟨_,rfl,ZzN w room HR.out,(((Below.refl _ w).alloc zL _).alloc (by simp) _).alloc (by simp;omega) _⟩
theorem Zjq {F:Nat->Prop} {p:Nat} {L:Lay} {d:Dk} {u:Int} {N:Nat} (n:Int) (hn:I64 n) (w:World) (h:Zbg F w p L d u N):
 Calls Tryz.prog 104 #[ptr p,.int .i64 n] w fun e w'=>e=.returned (.tuple #[Ztx (if d.power=0 then none else(look (Zbo d) n).map L.ps),.int .i64 (if d.power=0 then 11 else if(look (Zbo d) n).isSome then 0 else 8)])∧w'=w:=by
 have HO:=ZZ (ZoO w h)
 obtain⟨⟨-,-,c2,-,-,-⟩,-⟩:=h.cells
 have hl:=h.rest.now.look hn
 obtain⟨q,hq⟩:∃ q,q=d.power:=⟨_,rfl⟩
 obtain⟨o,ho⟩:∃ o,o=look (Zbo d) n:=⟨_,rfl⟩
 rw[<-ho] at hl
 rw[<-hq] at HO
 rw[<-hq,<-ho]
 clear h hq ho hn
 by_cases h0:q=0
 ·subst h0
  go_enter Tryz.func104,Tryz.ntmps104
  go_wp2_with fail
  refine HO.out.mono ?_
  rintro e w' ⟨rfl,rfl⟩
  go_wp2
  go_ret2
  exact⟨rfl,rfl⟩
 ·rw[if_neg h0,if_neg h0]
  have e0:(q != 0)=true:=by simpa using h0
  rw[e0] at HO
  clear h0 e0
  cases o with
  | none=>
   have hl':(Instr.lookup 66 (.map (some L.now)) (.int .i64 n) true).run Tryz.prog w=.ok (.tuple #[.pointer none,.bool false]) w:=hl
   clear hl
   go_enter Tryz.func104,Tryz.ntmps104
   go_wp2_with fail
   refine HO.out.mono ?_
   rintro e w' ⟨rfl,rfl⟩
   go_wp2
   go_ret2
   exact⟨rfl,rfl⟩
  | some f=>
   have hl':(Instr.lookup 66 (.map (some L.now)) (.int .i64 n) true).run Tryz.prog w=.ok (.tuple #[.pointer (some ⟨L.ps f,0,none⟩),.bool true]) w:=hl
   clear hl
   obtain⟨x,hx⟩:∃ x,x=L.ps f:=⟨_,rfl⟩
   have e1:Ztx (Option.map L.ps (some f))=.pointer (some ⟨x,0,none⟩):=by rw[hx];rfl
   rw[<-hx] at hl'
   rw[e1]
   clear hx e1
   go_enter Tryz.func104,Tryz.ntmps104
   go_wp2_with fail
   refine HO.out.mono ?_
   rintro e w' ⟨rfl,rfl⟩
   go_wp2
   go_ret2
   exact⟨rfl,rfl⟩
def Gr (F:Nat->Prop) (w w':World) (k:Nat):Prop:=F k∨(w.heap.size<=k∧k<w'.heap.size)
theorem Gr.lt {F:Nat->Prop} {w w':World} (hs:w.heap.size<=w'.heap.size) (hF:∀ k,F k->k<w.heap.size):∀ k,Gr F w w' k->k<w'.heap.size:=by
 rintro k (h | h)
 ·have:=hF k h;omega
 ·exact h.2
theorem Zyh (n:Int) (x:Nat) (w:World):
 Calls Tryz.prog 97 #[.int .i64 n,ptr x] w fun e w'=>e=.returned (.func (.func 140) #[] #[ptr (w.heap.size+1),ptr w.heap.size])∧w'=(w.alloc (.cells #[.int .i64 n] 3)).alloc (.cells #[ptr x] 116):=by
 have hmf:∀ (fn:Fn) (first cap:Array Value) (w:World),(Instr.makeFunc fn first cap).run Tryz.prog w=.ok (.func fn first cap) w:=fun _ _ _ _=>rfl
 go_enter Tryz.func97,Tryz.ntmps97
 go_wp2
 go_ret
 exact⟨rfl,rfl⟩
theorem ZvG (n tz:Int) (x:Nat) (w:World):
 Calls Tryz.prog 106 #[.int .i64 n,.int .i64 tz,ptr x] w fun e w'=>e=.returned (.func (.func 144) #[] #[ptr (w.heap.size+1+1),ptr (w.heap.size+1),ptr w.heap.size])∧w'=((w.alloc (.cells #[.int .i64 n] 3)).alloc (.cells #[.int .i64 tz] 3)).alloc (.cells #[ptr x] 116):=by
 have hmf:∀ (fn:Fn) (first cap:Array Value) (w:World),(Instr.makeFunc fn first cap).run Tryz.prog w=.ok (.func fn first cap) w:=fun _ _ _ _=>rfl
 go_enter Tryz.func106,Tryz.ntmps106
 go_wp2
 go_ret
 exact⟨rfl,rfl⟩
theorem Zyi (n:Int) (w:World):
 Calls Tryz.prog 111 #[.int .i64 n] w fun e w'=>e=.returned (.func (.func 158) #[] #[ptr w.heap.size])∧w'=w.alloc (.cells #[.int .i64 n] 3):=by
 have hmf:∀ (fn:Fn) (first cap:Array Value) (w:World),(Instr.makeFunc fn first cap).run Tryz.prog w=.ok (.func fn first cap) w:=fun _ _ _ _=>rfl
 go_enter Tryz.func111,Tryz.ntmps111
 go_wp2
 go_ret
 exact⟨rfl,rfl⟩
theorem Zhr {n:Int} (h:ZiE n=true):I64 n:=by
 simp only [ZiE,Bool.and_eq_true,decide_eq_true_eq] at h
 exact⟨by omega,by omega⟩
def Znu (w:World) (b N:Nat) (ps:Nat->Nat) (g:Int->Option Nat) (c:Ch) (e:Ending) (w':World):Prop:=
 e=.returned (.tuple #[])∧Zer w' b (N+1) (fun n=>(chF g c n).map ps)∧w.grownBy w' (some b)
theorem ZfL (w:World) {ops:Array Oper} {rest:List Oper} {o:Oper} {a:Act} {Q:Exit->Act->World->Prop} (hgd:o.guard=none) (m x:Operand)
 (ho:o.op=.call { callee:=.builtin .delete,args:=#[m,x],argTypes:=#[66,3] })
 (b N:Nat) (f:Int->Option Nat) (p:Int) (hm:a.eval m=.map (some b)) (hx:a.eval x=.int .i64 p) (hown:Zer w b N f) (hp:I64 p)
 (h:∀ w',Zer w' b N (fun m=>if m=p then none else f m)->w.grownBy w' (some b)->wpList Tryz.prog ops Q rest (a.put o.dst (.tuple #[])) w'):wpList Tryz.prog ops Q (o::rest) a w:=
 wpList_plain hgd fun _ hK=>by
  obtain⟨w',hrun,h2,h3⟩:=hown.del hp o.type
  unfold Oper.wp execOp
  simp only [ho,resolve,invoke,builtin,Sem.run_bind,Sem.run_pure,Result.andThen_ok,List.map_toArray,List.map_cons,List.map_nil,hm,hx,hrun]
  exact hK _ _ (h w' h2 h3)
theorem ZqI {a b c:World} {r:Nat} (h:a.grownBy b (some r)) (k:b.grownBy c (some r)):a.grownBy c (some r):=h.andThen k (fun _ hj=>.inr hj)
theorem ZvH {n:Int} {f:Nat} (hn:ZiE n=true) {b1 b2 b N:Nat} {ps:Nat->Nat} {g:Int->Option Nat} (w:World) (h1:Bk 3 w b1 #[.int .i64 n]) (h2:Bk 116 w b2 #[ptr (ps f)]) (hm:Zer w b N (fun n=>(g n).map ps)) (hN:N<=10000000):
 Calls Tryz.prog 140 #[.map (some b),ptr b2,ptr b1] w fun e w'=>Znu w b N ps g (.give n f) e w':=by
 obtain⟨w1,hrun,hm1,hg1⟩:=hm.put (p:=n) (ps f) (Zhr hn) hN
 have HM:Hid (Zer w1 b (N+1) (fun n'=>(chF g (.give n f) n').map ps)):=ZZ (hm1.fun fun q _=>by
  show(if q=n then some (ps f) else(g q).map ps)=(if q=n then some f else g q).map ps
  split <;> rfl)
 have HG:=ZZ hg1
 obtain⟨c1,-⟩:=h1.cell 0 rfl
 obtain⟨c2,-⟩:=h2.cell 0 rfl
 obtain⟨x,hx⟩:∃ x,x=ps f:=⟨_,rfl⟩
 rw[<-hx] at hrun c2
 clear hm1 hg1 hm h1 h2 hx hn hN
 go_enter Tryz.func140,Tryz.ntmps140
 go_wp2
 go_end0
 exact⟨rfl,HM.out,HG.out⟩
theorem ZvI {n tz:Int} {f:Nat} (hn:ZiE n=true) (hto:ZiE tz=true) {b1 b2 b3 b N:Nat} {ps:Nat->Nat} {g:Int->Option Nat} (w:World) (h1:Bk 3 w b1 #[.int .i64 n]) (h2:Bk 3 w b2 #[.int .i64 tz]) (h3:Bk 116 w b3 #[ptr (ps f)]) (hm:Zer w b N (fun n=>(g n).map ps)) (hN:N<=10000000):
 Calls Tryz.prog 144 #[.map (some b),ptr b3,ptr b2,ptr b1] w fun e w'=>Znu w b N ps g (.move n tz f) e w':=by
 obtain⟨w1,hrun,hm1,hg1⟩:=hm.put (p:=tz) (ps f) (Zhr hto) hN
 obtain⟨c2,-⟩:=h2.cell 0 rfl
 obtain⟨c3,-⟩:=h3.cell 0 rfl
 obtain⟨d1,-⟩:=(h1.keep (hg1.block b1 h1.lt (by intro e;exact(h1.neMap hm) (Option.some.inj e)))).cell 0 rfl
 have HM:=ZZ hm1
 have HN:=ZZ hn
 have HC:Hid (∀ w2,Zer w2 b (N+1) (fun m=>if m=n then none else if m=tz then some (ps f) else(g m).map ps)->w1.grownBy w2 (some b)->Znu w b N ps g (.move n tz f) (.returned (.tuple #[])) w2):=ZZ (fun w2 hm2 hg2=>by
  refine⟨rfl,hm2.fun fun q _=>?_,ZqI hg1 hg2⟩
  show(if q=n then none else if q=tz then some (ps f) else(g q).map ps)=(if q=n then none else if q=tz then some f else g q).map ps
  split
  ·rfl
  ·split <;> rfl)
 obtain⟨x,hx⟩:∃ x,x=ps f:=⟨_,rfl⟩
 rw[<-hx] at hrun c3
 clear hm1 hg1 hm h1 h2 h3 hx hn hto hN
 go_enter Tryz.func144,Tryz.ntmps144
 go_wp2_with(first | (at_delete;refine ZfL _ rfl _ _ rfl b _ _ n rfl rfl HM.out (Zhr HN.out) ?_;intro w2 hm2 hg2))
 go_end0
 exact HC.out _ hm2 hg2
theorem ZvJ {n:Int} (hn:ZiE n=true) {b1 b N:Nat} {ps:Nat->Nat} {g:Int->Option Nat} (w:World) (h1:Bk 3 w b1 #[.int .i64 n]) (hm:Zer w b N (fun n=>(g n).map ps)):
 Calls Tryz.prog 158 #[.map (some b),ptr b1] w fun e w'=>Znu w b N ps g (.take n) e w':=by
 obtain⟨c1,-⟩:=h1.cell 0 rfl
 have HM:=ZZ hm
 have HN:=ZZ hn
 clear hm hn h1
 go_enter Tryz.func158,Tryz.ntmps158
 go_wp2_with(first | (at_delete;refine ZfL _ rfl _ _ rfl b _ _ n rfl rfl HM.out (Zhr HN.out) ?_;intro w2 hm2 hg2))
 go_end0
 refine⟨rfl,(hm2.mono (Nat.le_succ _)).fun fun q _=>?_,hg2⟩
 show(if q=n then none else(g q).map ps)=(if q=n then none else g q).map ps
 split <;> rfl
theorem ZzP:(Tryz.prog.info? 114).map (fun i=>(i.zero,i.size,i.bytes))=some (some .nilFunc,1,8):=by kernel_rfl
theorem Znv (w:World) (ty:TypeId) (v:Value) (cs:List Value) (h:w.ownsRow 0 114 1 v cs.length cs) (fn:Fn) (c0 c1:Array Value) (hlim:cs.length<=10000000):
 ∃ v' w',(Builtin.append_ #[68,68] ty #[v,.slice (some ⟨w.heap.size,0,none⟩) 1 1]).run Tryz.prog (w.alloc (.cells #[.func fn c0 c1] 114))=.ok v' w'∧
  w'.ownsRow 0 114 1 v' (cs++[Value.func fn c0 c1]).length (cs++[Value.func fn c0 c1])∧(w.alloc (.cells #[.func fn c0 c1] 114)).grownBy w' v.ownBlock∧(v'.ownBlock=v.ownBlock∨v'.ownBlock=some (w.heap.size+1)):=by
 obtain⟨i0,hi,hz0,hz1,hz2⟩:=info_parts ZzP
 obtain⟨v',w',hrun,ho,hg,_,hl⟩:=run_append_own_at (P:=Tryz.prog) (w.alloc (.cells #[.func fn c0 c1] 114)) 0 68 ty 114 i0 .nilFunc 1 8 Tryz.underlying68 hi hz0 hz1 hz2 rfl (by decide) v cs.length cs (World.ownsRow.alloc h _)
  ⟨w.heap.size,0,none⟩ 1 1 [.func fn c0 c1] rfl (fun j u hj=>by
   match j,hj with
   | 0,hj=>simp at hj;subst hj;simp[Addr.add]) (fun u hu=>by simp at hu;subst hu;rfl) (by unfold maxLen;omega) (by omega) (Nat.zero_le _)
 refine⟨v',w',hrun,?_,hg,?_⟩
 ·rw[List.length_append]
  exact ho
 ·rcases hl with hl | hl
  ·exact .inl hl
  ·exact .inr (by rw[hl];simp)
theorem Zdw (w:World) {ops:Array Oper} {rest:List Oper} {o:Oper} {a:Act} {Q:Exit->Act->World->Prop} (hgd:o.guard=none) (s x:Operand)
 (ho:o.op=.call { callee:=.builtin .append,args:=#[s,x],argTypes:=#[68,68] })
 (v:Value) (cs:List Value) (hs:a.eval s=v) (h:w.ownsRow 0 114 1 v cs.length cs) (fn:Fn) (c0 c1:Array Value) (hx:a.eval x=.slice (some ⟨w.heap.size,0,none⟩) 1 1) (hlim:cs.length<=10000000)
 (hK:∀ v' w',w'.ownsRow 0 114 1 v' (cs++[Value.func fn c0 c1]).length (cs++[Value.func fn c0 c1])->(w.alloc (.cells #[.func fn c0 c1] 114)).grownBy w' v.ownBlock->(v'.ownBlock=v.ownBlock∨v'.ownBlock=some (w.heap.size+1))->
  wpList Tryz.prog ops Q rest (a.put o.dst v') w'):wpList Tryz.prog ops Q (o::rest) a (w.alloc (.cells #[.func fn c0 c1] 114)):=
 wpList_plain hgd fun _ hK'=>by
  obtain⟨v',w',hrun,h2,h3,h4⟩:=Znv w o.type v cs h fn c0 c1 hlim
  unfold Oper.wp execOp
  simp only [ho,resolve,invoke,builtin,Sem.run_bind,Sem.run_pure,Result.andThen_ok,List.map_toArray,List.map_cons,List.map_nil,hs,hx,hrun]
  exact hK' _ _ (hK v' w' h2 h3 h4)
theorem ZvK {m:Nat} {c:Ch} (h:ZxI m c):∀ n tz f,c=.move n tz f->n≠tz:=by
 rintro n tz f rfl
 exact h.2.2.1
theorem ZvL (d:Dk) (c:Ch):Zbo { d with waits:=d.waits++[c] }=chD (Zbo d) c:=by
 show(d.waits++[c]).foldl chD d.kept=_
 rw[List.foldl_append]
 rfl
theorem Zbg.addWait {F:Nat->Prop} {w w1 w2:World} {p:Nat} {L:Lay} {d:Dk} {u:Int} {N:Nat} {c:Ch} {fn:Fn} {c0 c1:Array Value} {v':Value} (h:Zbg F w p L d u N) (hc:ChV F w L.ps c (.func fn c0 c1)) (hok:OkD d) (hco:ZxI d.files.length c)
 (hg1:w.grownBy w1 (some L.now)) (hm:Zer w1 L.now (N+1) (fun n=>(chF (look (Zbo d)) c n).map L.ps))
 (hrow:w2.ownsRow 0 114 1 v' (L.cs++[Value.func fn c0 c1]).length (L.cs++[Value.func fn c0 c1])) (hg2:(w1.alloc (.cells #[.func fn c0 c1] 114)).grownBy w2 L.wv.ownBlock) (hv:v'.ownBlock=L.wv.ownBlock∨v'.ownBlock=some (w1.heap.size+1)):
 Zbg (Gr F w w2) (w2.setCell ⟨p,4,none⟩ v') p { L with wv:=v',cs:=L.cs++[Value.func fn c0 c1] } { d with waits:=d.waits++[c] } u (N+1)∧Zas F w (w2.setCell ⟨p,4,none⟩ v'):=by
 have h0:=h.rest
 have hs1:=hg1.size
 have hs2:w1.heap.size+1<=w2.heap.size:=by have:=hg2.size;simpa using this
 have hs3:(w2.setCell ⟨p,4,none⟩ v').heap.size=w2.heap.size:=by simp
 have hk2:∀ k,F k->k≠L.now->L.wv.ownBlock≠some k->w2.heap[k]?=w.heap[k]?:=fun k hf hn hr=>by
  have hlt:=h.lt k hf
  rw[hg2.block k (by simp;omega) (fun e=>hr e.symm),Below.heap_alloc _ _ _ (by omega),hg1.block k hlt (fun e=>hn (Option.some.inj e))]
 have hk:∀ k,F k->k≠L.now->L.wv.ownBlock≠some k->k≠p->(w2.setCell ⟨p,4,none⟩ v').heap[k]?=w.heap[k]?:=fun k hf hn hr hp=>by
  rw[Below.heap_setCell _ _ _ _ hp,hk2 k hf hn hr]
 have hwr:∀ {t:TypeId} {k:Nat} {cs:Array Value},Bk t w k cs->t≠114->L.wv.ownBlock≠some k:=fun hb ht hg=>by
  obtain⟨cs',hb'⟩:=ZeQ h0.row hg
  exact(hb.ne hb' ht) rfl
 have hwm:∀ {k n:Nat} {g:Int->Option Nat},Zer w k n g->L.wv.ownBlock≠some k:=fun hm hg=>by
  obtain⟨cs',hb'⟩:=ZeQ h0.row hg
  exact(hb'.neMap hm) rfl
 have hbk:∀ {t:TypeId} {k:Nat} {cs:Array Value},Bk t w k cs->F k->t≠114->t≠70->(w2.setCell ⟨p,4,none⟩ v').heap[k]?=w.heap[k]?:=fun hb hf h1 h2=>
  hk _ hf (hb.neMap h0.now) (hwr hb h1) (hb.ne h.head h2)
 have hnp:L.now≠p:=(h.head.neMap h0.now).symm
 have hhead:Bk 70 w2 p (ZqH L d u):=h.head.keep (hk2 p h.fh hnp.symm (hwr h.head (by decide)))
 have hFn:∀ g,v'.ownBlock=some g->Gr F w w2 g:=fun g hg=>by
  rcases hv with hv | hv
  ·exact .inl (h0.fw g (by rw[<-hv];exact hg))
  ·rw[hv] at hg
   obtain rfl:=Option.some.inj hg
   exact .inr ⟨by omega,by have:=(World.ownsRow.lt hrow _ hv).2;omega⟩
 refine⟨⟨hhead.set 4 v',?_,.inl h.fh,fun k hk=>?_⟩,?_⟩
 ·refine⟨?_,?_,?_,?_,?_,?_,h0.psn,h0.vsn,h0.nk,.inl h0.fn,.inl h0.fk,hFn,fun i hi=>.inl (h0.fp i hi),fun i hi g hg=>.inl (h0.fv i hi g hg)⟩
  ·have e:∀ n,(look (Zbo { d with waits:=d.waits++[c] }) n).map L.ps=(chF (look (Zbo d)) c n).map L.ps:=fun n=>by rw[ZvL,ZgZ hok.dir.rise c (ZvK hco)]
   refine(hm.keep (w':=w2.setCell ⟨p,4,none⟩ v') ?_).fun fun n _=>(e n).symm
   rw[Below.heap_setCell _ _ _ _ hnp,hg2.block L.now (by simp;have:=hm.lt;omega) (fun e=>hwm h0.now e.symm),Below.heap_alloc _ _ _ hm.lt]
  ·exact(h0.kept.mono (Nat.le_succ N)).keep (hk _ h0.fk (Ne.symm h0.nk) (hwm h0.kept) (h.head.neMap h0.kept).symm)
  ·exact Zaf hrow fun g hg=>Below.heap_setCell _ _ _ _ (by
    obtain⟨cs',hb'⟩:=ZeQ hrow hg
    exact hb'.ne hhead (by decide))
  ·rw[List.length_append,List.length_append,h0.many]
   rfl
  ·intro i c' v hi hv2
   have hkeep:∀ c v,ChV F w L.ps c v->ChV (Gr F w w2) (w2.setCell ⟨p,4,none⟩ v') L.ps c v:=fun c v hcv=>hcv.keep (fun _ hf=>.inl hf) (fun _ _=>rfl) fun k cs' hf hb=>by
    rcases hb with hb | hb <;> exact hbk hb hf (by decide) (by decide)
   rw[List.getElem?_append] at hi hv2
   rw[h0.many] at hv2
   by_cases hlt:i<d.waits.length
   ·rw[if_pos hlt] at hi hv2
    exact hkeep _ _ (h0.wait i c' v hi hv2)
   ·rw[if_neg hlt] at hi hv2
    have e0:i-d.waits.length=0:=by
     have:=(List.getElem?_eq_some_iff.1 hi).1
     simp at this
     omega
    rw[e0] at hi hv2
    simp only [List.getElem?_cons_zero,Option.some.injEq] at hi hv2
    rw[<-hi,<-hv2]
    exact hkeep _ _ hc
  ·intro i hi
   refine(h0.file i hi).keep (hbk (h0.file i hi).box (h0.fp i hi) (by decide) (by decide)) fun g hg=>?_
   obtain⟨cs',hb⟩:=ZeQ (h0.file i hi).own hg
   exact hbk hb (h0.fv i hi g hg) (by decide) (by decide)
 ·rw[hs3]
  exact Gr.lt (by omega) h.lt k hk
 ·have o1:Zas F w w1:=Zas.ofGrown hg1 fun k e _=>by obtain rfl:=Option.some.inj e;exact h0.fn
  have o2:Zas F (w1.alloc (.cells #[.func fn c0 c1] 114)) w2:=Zas.ofGrown hg2 fun k e _=>h0.fw k e
  exact((o1.alloc _).trans o2 (fun _ _ hf=>hf)).setCell 4 (fun _=>h.fh) v'
theorem Zjr {w:World} {base n s:Nat} {t:TypeId} {v:Value} {xs:List Value} (h:w.ownsRow base t s v n xs):∃ ao m cp,v=.slice ao m cp:=by
 rcases h.2 with ⟨hv,_⟩ | ⟨g,cap,cur,hv,_⟩
 ·exact⟨_,_,_,hv⟩
 ·exact⟨_,_,_,hv⟩
theorem ZvM (F:Nat->Prop) (w w2:World) (a:Addr) (v:Value):Gr F w (w2.setCell a v)=Gr F w w2:=by
 funext k
 simp[Gr]
def ZzQ (F:Nat->Prop) (w:World) (p:Nat) (L:Lay) (d:Dk) (u:Int) (N:Nat) (c:Ch) (e:Ending) (w':World):Prop:=
 e=.returned (.tuple #[])∧∃ L',Zbg (Gr F w w') w' p L' { d with waits:=d.waits++[c] } u (N+1)∧L'.ps=L.ps∧L'.vs=L.vs∧Zas F w w'
theorem Zkg {F:Nat->Prop} {p:Nat} {L:Lay} {d:Dk} {u:Int} {N:Nat} {c:Ch} {cv:Value} (w:World) (h:Zbg F w p L d u N) (hc:ChV F w L.ps c cv) (hok:OkD d) (hco:ZxI d.files.length c) (hN:N<=1000000) (hW:d.waits.length<=1000000):
 Calls Tryz.prog 96 #[ptr p,cv] w fun e w'=>ZzQ F w p L d u N c e w':=by
 have H:=ZZ h
 have HOK:=ZZ hok
 have HCO:=ZZ hco
 obtain⟨⟨-,-,c2,-,-,-⟩,-⟩:=h.cells
 have HNP:Hid (L.now≠p):=ZZ (h.head.neMap h.rest.now).symm
 have HWN:Hid (∀ g,L.wv.ownBlock=some g->g≠L.now):=ZZ (fun g hg=>by
  obtain⟨cs',hb'⟩:=ZeQ h.rest.row hg
  exact hb'.neMap h.rest.now)
 clear h hok hco
 cases c with
 | give n f=>
  obtain⟨b1,b2,rfl,h1,h2,f1,f2⟩:=hc
  have HCH:Hid (ChV F w L.ps (.give n f) (.func (.func 140) #[] #[ptr b2,ptr b1])):=ZZ ⟨b1,b2,rfl,h1,h2,f1,f2⟩
  have HK:=ZZ (ZvH (f:=f) HCO.out.1 w h1 h2 H.out.rest.now (by omega))
  go_enter Tryz.func96,Tryz.ntmps96
  go_wp2_with fail
  refine HK.out.mono ?_
  rintro e w1 ⟨rfl,hm1,hg1⟩
  have HM1:=ZZ hm1
  have HG1:=ZZ hg1
  have h4:=H.out.head.keep (hg1.block p H.out.head.lt (fun e=>HNP.out (Option.some.inj e).symm))
  obtain⟨c4,f4⟩:=h4.cell 4 rfl
  have HR1:Hid (w1.ownsRow 0 114 1 L.wv L.cs.length L.cs):=ZZ (Zaf H.out.rest.row fun g hg=>hg1.block g (World.ownsRow.lt H.out.rest.row g hg).2 (fun e=>HWN.out g hg (Option.some.inj e)))
  clear hm1 hg1 h4
  have HP4:Hid (p<w1.heap.size):=ZZ (Nat.lt_of_lt_of_le H.out.head.lt HG1.out.size)
  go_wp2_with(at_builtin;refine(fun(h:True->_)=>h trivial) ?_)
  intro _
  refine Zdw w1 rfl _ _ rfl L.wv L.cs rfl HR1.out _ _ _ rfl (by have:=H.out.rest.many;omega) ?_
  intro v' w2 hr2 hg2 hv2
  have HR2:=ZZ hr2
  have HG2:=ZZ hg2
  have HV2:=ZZ hv2
  have h5:Bk 70 w2 p (ZqH L d u):=(H.out.head.keep (HG1.out.block p H.out.head.lt (fun e=>HNP.out (Option.some.inj e).symm))).keep ((hg2.block p (by simp;have:=HP4.out;omega) (fun e=>by
   obtain⟨cs',hb'⟩:=ZeQ HR1.out e.symm
   exact(hb'.ne (H.out.head.keep (HG1.out.block p H.out.head.lt (fun e=>HNP.out (Option.some.inj e).symm))) (by decide)) rfl)).trans (Below.heap_alloc _ _ _ HP4.out))
  obtain⟨d4,g4⟩:=h5.cell 4 rfl
  obtain⟨ao,nn,cp,rfl⟩:=Zjr hr2
  clear hr2 hg2 hv2 h5 c4 f4
  go_wp2
  go_end0
  obtain⟨hd,hon⟩:=H.out.addWait HCH.out HOK.out HCO.out HG1.out HM1.out HR2.out HG2.out HV2.out
  rw[<-ZvM F w w2 ⟨p,4,none⟩ (.slice ao nn cp)] at hd
  exact⟨rfl,_,hd,rfl,rfl,hon⟩
 | move n m f=>
  obtain⟨b1,b2,b3,rfl,h1,h2,h3,f1,f2,f3⟩:=hc
  have HCH:Hid (ChV F w L.ps (.move n m f) (.func (.func 144) #[] #[ptr b3,ptr b2,ptr b1])):=ZZ ⟨b1,b2,b3,rfl,h1,h2,h3,f1,f2,f3⟩
  have HK:=ZZ (ZvI (f:=f) HCO.out.1 HCO.out.2.1 w h1 h2 h3 H.out.rest.now (by omega))
  go_enter Tryz.func96,Tryz.ntmps96
  go_wp2_with fail
  refine HK.out.mono ?_
  rintro e w1 ⟨rfl,hm1,hg1⟩
  have HM1:=ZZ hm1
  have HG1:=ZZ hg1
  have h4:=H.out.head.keep (hg1.block p H.out.head.lt (fun e=>HNP.out (Option.some.inj e).symm))
  obtain⟨c4,f4⟩:=h4.cell 4 rfl
  have HR1:Hid (w1.ownsRow 0 114 1 L.wv L.cs.length L.cs):=ZZ (Zaf H.out.rest.row fun g hg=>hg1.block g (World.ownsRow.lt H.out.rest.row g hg).2 (fun e=>HWN.out g hg (Option.some.inj e)))
  clear hm1 hg1 h4
  have HP4:Hid (p<w1.heap.size):=ZZ (Nat.lt_of_lt_of_le H.out.head.lt HG1.out.size)
  go_wp2_with(at_builtin;refine(fun(h:True->_)=>h trivial) ?_)
  intro _
  refine Zdw w1 rfl _ _ rfl L.wv L.cs rfl HR1.out _ _ _ rfl (by have:=H.out.rest.many;omega) ?_
  intro v' w2 hr2 hg2 hv2
  have HR2:=ZZ hr2
  have HG2:=ZZ hg2
  have HV2:=ZZ hv2
  have h5:Bk 70 w2 p (ZqH L d u):=(H.out.head.keep (HG1.out.block p H.out.head.lt (fun e=>HNP.out (Option.some.inj e).symm))).keep ((hg2.block p (by simp;have:=HP4.out;omega) (fun e=>by
   obtain⟨cs',hb'⟩:=ZeQ HR1.out e.symm
   exact(hb'.ne (H.out.head.keep (HG1.out.block p H.out.head.lt (fun e=>HNP.out (Option.some.inj e).symm))) (by decide)) rfl)).trans (Below.heap_alloc _ _ _ HP4.out))
  obtain⟨d4,g4⟩:=h5.cell 4 rfl
  obtain⟨ao,nn,cp,rfl⟩:=Zjr hr2
  clear hr2 hg2 hv2 h5 c4 f4
  go_wp2
  go_end0
  obtain⟨hd,hon⟩:=H.out.addWait HCH.out HOK.out HCO.out HG1.out HM1.out HR2.out HG2.out HV2.out
  rw[<-ZvM F w w2 ⟨p,4,none⟩ (.slice ao nn cp)] at hd
  exact⟨rfl,_,hd,rfl,rfl,hon⟩
 | take n=>
  obtain⟨b1,rfl,h1,f1⟩:=hc
  have HCH:Hid (ChV F w L.ps (.take n) (.func (.func 158) #[] #[ptr b1])):=ZZ ⟨b1,rfl,h1,f1⟩
  have HK:=ZZ (ZvJ HCO.out w h1 H.out.rest.now)
  go_enter Tryz.func96,Tryz.ntmps96
  go_wp2_with fail
  refine HK.out.mono ?_
  rintro e w1 ⟨rfl,hm1,hg1⟩
  have HM1:=ZZ hm1
  have HG1:=ZZ hg1
  have h4:=H.out.head.keep (hg1.block p H.out.head.lt (fun e=>HNP.out (Option.some.inj e).symm))
  obtain⟨c4,f4⟩:=h4.cell 4 rfl
  have HR1:Hid (w1.ownsRow 0 114 1 L.wv L.cs.length L.cs):=ZZ (Zaf H.out.rest.row fun g hg=>hg1.block g (World.ownsRow.lt H.out.rest.row g hg).2 (fun e=>HWN.out g hg (Option.some.inj e)))
  clear hm1 hg1 h4
  have HP4:Hid (p<w1.heap.size):=ZZ (Nat.lt_of_lt_of_le H.out.head.lt HG1.out.size)
  go_wp2_with(at_builtin;refine(fun(h:True->_)=>h trivial) ?_)
  intro _
  refine Zdw w1 rfl _ _ rfl L.wv L.cs rfl HR1.out _ _ _ rfl (by have:=H.out.rest.many;omega) ?_
  intro v' w2 hr2 hg2 hv2
  have HR2:=ZZ hr2
  have HG2:=ZZ hg2
  have HV2:=ZZ hv2
  have h5:Bk 70 w2 p (ZqH L d u):=(H.out.head.keep (HG1.out.block p H.out.head.lt (fun e=>HNP.out (Option.some.inj e).symm))).keep ((hg2.block p (by simp;have:=HP4.out;omega) (fun e=>by
   obtain⟨cs',hb'⟩:=ZeQ HR1.out e.symm
   exact(hb'.ne (H.out.head.keep (HG1.out.block p H.out.head.lt (fun e=>HNP.out (Option.some.inj e).symm))) (by decide)) rfl)).trans (Below.heap_alloc _ _ _ HP4.out))
  obtain⟨d4,g4⟩:=h5.cell 4 rfl
  obtain⟨ao,nn,cp,rfl⟩:=Zjr hr2
  clear hr2 hg2 hv2 h5 c4 f4
  go_wp2
  go_end0
  obtain⟨hd,hon⟩:=H.out.addWait HCH.out HOK.out HCO.out HG1.out HM1.out HR2.out HG2.out HV2.out
  rw[<-ZvM F w w2 ⟨p,4,none⟩ (.slice ao nn cp)] at hd
  exact⟨rfl,_,hd,rfl,rfl,hon⟩
def Ztz (fs:List Fl):Option Nat->Nat
 | some f=>(fl fs f).b.length
 | none=>0
theorem Zdn (fs:List Fl) (p:Int × Nat) (l:Dir):ZeV fs (p::l)=(fl fs p.2).b.length+ZeV fs l:=by simp[ZeV]
theorem Znw (fs:List Fl):ZeV fs []=0:=rfl
theorem Zkh (fs:List Fl) (a b:Dir):ZeV fs (a++b)=ZeV fs a+ZeV fs b:=by simp[ZeV]
theorem Zki (fs:List Fl) (n:Int) (f:Nat):∀ (l:Dir) (done:Bool),ZeV fs (ZlG n f done l)=ZeV fs (l.filter fun p=>decide (p.1≠n))+(if done then 0 else(fl fs f).b.length)
 | [],done=>by cases done <;> simp[ZlG,ZeV]
 | q::l,done=>by
  have ih:=Zki fs n f l (done || decide (q.1>n))
  rw[ZlG,Zkh,Zkh,ih,List.filter_cons]
  by_cases h1:q.1>n
  ·have h2:q.1≠n:=by omega
   cases done <;> simp[h1,h2,Zdn,Znw] <;> omega
  ·by_cases h2:q.1=n
   ·cases done <;> simp[h2,Znw]
   ·cases done <;> simp[h1,h2,Zdn,Znw] <;> omega
theorem Zkj (fs:List Fl) (n:Int):∀ l:Dir,ZbK l->ZeV fs (l.filter fun p=>decide (p.1≠n))+Ztz fs (look l n)=ZeV fs l
 | [],_=>rfl
 | q::l,h=>by
  unfold ZbK at h
  rw[List.pairwise_cons] at h
  rw[List.filter_cons,look]
  by_cases e:q.1=n
  ·have hn:∀ p ∈ l,p.1≠n:=fun p hp=>by have:=h.1 p hp;omega
   rw[if_pos e,if_neg (by simp[e]),Zdn,List.filter_eq_self.2 (fun p hp=>by simpa using hn p hp)]
   show _+(fl fs q.2).b.length=_
   omega
  ·rw[if_neg e,if_pos (by simp[e]),Zdn,Zdn]
   have:=Zkj fs n l h.2
   omega
theorem Zhs (fs:List Fl) {l:Dir} (h:ZbK l) (n:Int) (o:Option Nat):ZeV fs (ZiB l n o)+Ztz fs (look l n)=ZeV fs l+Ztz fs o:=by
 have h1:=Zkj fs n l h
 cases o with
 | none=>rw[ZiB,Zki];show _=_+0;simp only [if_true];omega
 | some f=>rw[ZiB,Zki];simp only [Bool.false_eq_true,if_false];show _=_+(fl fs f).b.length;omega
theorem ZoR {fs:List Fl} {f:Nat} (h:f<fs.length) (x:Fl):fl (fs++[x]) f=fl fs f:=by
 unfold fl
 simp[List.getD,List.getElem?_append,h]
theorem ZqJ (fs:List Fl) (x:Fl):fl (fs++[x]) fs.length=x:=by
 unfold fl
 simp[List.getD]
theorem Zsz {fs fs':List Fl} {l:Dir} (h:∀ p ∈ l,(fl fs' p.2).b.length=(fl fs p.2).b.length):ZeV fs' l=ZeV fs l:=by
 unfold ZeV
 rw[List.map_congr_left h]
theorem ZvN {fs:List Fl} {l:Dir} (h:∀ p ∈ l,p.2<fs.length) (x:Fl):ZeV (fs++[x]) l=ZeV fs l:=
 Zsz fun p hp=>by rw[ZoR (h p hp)]
theorem Znx {fs:List Fl} {f:Nat} (hf:f<fs.length) (x:Fl):∀ {l:Dir},ZgX l->(∃ n,(n,f) ∈ l)->ZeV (fs.set f x) l+(fl fs f).b.length=ZeV fs l+x.b.length
 | [],_,⟨_,h⟩=>by cases h
 | q::l,ha,⟨n,h⟩=>by
  unfold ZgX at ha
  rw[List.pairwise_cons] at ha
  rw[Zdn,Zdn]
  by_cases e:q.2=f
  ·have hn:ZeV (fs.set f x) l=ZeV fs l:=Zsz fun p hp=>by rw[ZfC (by rw[<-e];exact ha.1 p hp)]
   rw[e,hn,ZjC hf]
   omega
  ·rw[ZfC (fun e'=>e e'.symm)]
   rcases List.mem_cons.1 h with h | h
   ·exact absurd (by rw[<-h]) e
   ·have:=Znx hf x (l:=l) ha.2 ⟨n,h⟩
    omega
theorem ZtA {d:Dk} (h:OkD d) {n:Int} {f:Nat} (e:look (Zbo d) n=some f) (b:List UInt8):ZcF (appendTo d f b)=ZcF d+b.length:=by
 have hm:=(Zdf h.dir.rise n f).1 e
 have:=Znx (h.dir.may _ hm).2 ⟨(fl d.files f).b++b,(fl d.files f).k⟩ h.dir.apart ⟨n,hm⟩
 simp only [List.length_append] at this
 show ZeV (ZeG d.files f b) (Zbo d)=ZeV d.files (Zbo d)+b.length
 unfold ZeG
 omega
theorem ZtB {d:Dk} (h:OkD d) {n:Int} {f:Nat} (e:look (Zbo d) n=some f) (q:Int):ZcF { d with files:=Zha d.files f,power:=q }=ZcF d:=by
 have hm:=(Zdf h.dir.rise n f).1 e
 have:=Znx (h.dir.may _ hm).2 ⟨(fl d.files f).b,(fl d.files f).b.length⟩ h.dir.apart ⟨n,hm⟩
 show ZeV (Zha d.files f) (Zbo d)=ZeV d.files (Zbo d)
 unfold Zha
 dsimp only at this
 omega
theorem ZqK {d:Dk} (h:OkD d) {n:Int} (e:look (Zbo d) n=none):ZcF (Zcl d n)=ZcF d:=by
 have h1:=Zhs (d.files++[⟨[],0⟩]) h.dir.rise n (some d.files.length)
 have h2:ZeV (d.files++[⟨[],0⟩]) (Zbo d)=ZeV d.files (Zbo d):=ZvN (fun p hp=>(h.dir.may p hp).2) _
 have h3:Ztz (d.files++[⟨[],0⟩]) (some d.files.length)=0:=by show(fl _ _).b.length=0;rw[ZqJ];rfl
 rw[e,h2,h3] at h1
 unfold ZcF
 rw[Zmj,chD]
 show ZeV (d.files++[⟨[],0⟩]) (ZiB (Zbo d) n (some d.files.length))=_
 simpa[Ztz] using h1
theorem ZtC {d:Dk} (h:OkD d) {n m:Int} {f:Nat} (hne:n≠m) (e:look (Zbo d) n=some f) (q:Int):ZcF { d with waits:=d.waits++[.move n m f],power:=q }+Ztz d.files (look (Zbo d) m)=ZcF d:=by
 have h1:=Zhs d.files h.dir.rise n none
 have h2:=Zhs d.files (Zcx h.dir.rise n none) m (some f)
 rw[ZfB h.dir.rise,if_neg (fun e=>hne e.symm)] at h2
 rw[e] at h1
 have e2:ZcF { d with waits:=d.waits++[.move n m f],power:=q }=ZeV d.files (ZiB (ZiB (Zbo d) n none) m (some f)):=by
  show ZeV d.files ((d.waits++[Ch.move n m f]).foldl chD d.kept)=_
  rw[List.foldl_append]
  rfl
 rw[e2]
 show _=ZeV d.files (Zbo d)
 simp only [Ztz] at h1 h2 ⊢
 omega
theorem ZtD {d:Dk} (h:OkD d) {n:Int} {f:Nat} (e:look (Zbo d) n=some f) (q:Int):ZcF { d with waits:=d.waits++[.take n],power:=q }+(fl d.files f).b.length=ZcF d:=by
 have h1:=Zhs d.files h.dir.rise n none
 rw[e] at h1
 have e2:ZcF { d with waits:=d.waits++[.take n],power:=q }=ZeV d.files (ZiB (Zbo d) n none):=by
  show ZeV d.files ((d.waits++[Ch.take n]).foldl chD d.kept)=_
  rw[List.foldl_append]
  rfl
 rw[e2]
 show _=ZeV d.files (Zbo d)
 simp only [Ztz] at h1
 omega
theorem ZvO {fs:List Fl} {T:Nat} (h:∀ x ∈ fs,x.b.length<=T):∀ l:Dir,(∀ p ∈ l,p.2<fs.length)->ZeV fs l<=l.length*T
 | [],_=>Nat.zero_le _
 | p::l,hl=>by
  have ih:=ZvO h l fun q hq=>hl q (List.mem_cons_of_mem _ hq)
  have h1:=h _ (Zgo (hl p (List.mem_cons_self ..)))
  rw[Zdn,List.length_cons,Nat.add_mul]
  omega
theorem ZiN (l:List Ch):∀ k:Dir,(l.foldl chD k).length<=k.length+l.length:=by
 induction l with
 | nil=>intro k;exact Nat.le_refl _
 | cons c l ih=>
  intro k
  have h1:=ih (chD k c)
  have h2:=Ztd k c
  rw[List.foldl_cons,List.length_cons]
  omega
theorem Zyj {d:Dk} (h:OkD d) {N T:Nat} (h1:d.kept.length+d.waits.length<=N) (h2:∀ x ∈ d.files,x.b.length<=T):ZcF d<=N*T:=by
 have h3:=ZvO h2 (Zbo d) fun p hp=>(h.dir.may p hp).2
 have h4:=ZiN d.waits d.kept
 have h5:(Zbo d).length*T<=N*T:=Nat.mul_le_mul_right T (by unfold Zbo;omega)
 unfold ZcF
 omega
theorem Zht (d:Dk) (k:Nat):(ZxM d k).length<=d.kept.length+d.waits.length:=by
 have h:=ZiN (d.waits.take k) d.kept
 have h2:(d.waits.take k).length<=d.waits.length:=by rw[List.length_take];omega
 unfold ZxM
 omega
theorem Zbg.widen {F F':Nat->Prop} {w:World} {p:Nat} {L:Lay} {d:Dk} {u:Int} {N:Nat} (h:Zbg F w p L d u N) (hF:∀ k,F k->F' k) (hlt:∀ k,F' k->k<w.heap.size):Zbg F' w p L d u N:=
 ⟨h.head,⟨h.rest.now,h.rest.kept,h.rest.row,h.rest.many,fun i c v h1 h2=>(h.rest.wait i c v h1 h2).keep hF (fun _ _=>rfl) (fun _ _ _ _=>rfl),h.rest.file,h.rest.psn,h.rest.vsn,h.rest.nk,hF _ h.rest.fn,hF _ h.rest.fk,fun g hg=>hF g (h.rest.fw g hg),fun i hi=>hF _ (h.rest.fp i hi),fun i hi g hg=>hF g (h.rest.fv i hi g hg)⟩,hF _ h.fh,hlt⟩
theorem Zbg.more {F:Nat->Prop} {w w':World} {p:Nat} {L:Lay} {d:Dk} {u:Int} {N:Nat} (h:Zbg F w p L d u N) (hb:Below w.heap.size w w'):Zbg (Gr F w w') w' p L d u N:=
 (h.keep (fun k hf=>hb.block k (h.lt k hf)) hb.size).widen (fun _ hf=>.inl hf) (Gr.lt hb.size h.lt)
theorem ZzR {m:Nat} {c:Ch} (h:ZxI m c) {f:Nat} (e:chOf c=some f):f<m:=by
 cases c with
 | give n g=>obtain rfl:=Option.some.inj e;exact h.2
 | move n g x=>obtain rfl:=Option.some.inj e;exact h.2.2.2
 | take n=>cases e
theorem Zbg.addFile {F:Nat->Prop} {w:World} {p:Nat} {L:Lay} {d:Dk} {u:Int} {N:Nat} (h:Zbg F w p L d u N) (hok:OkD d):
 Zbg (Gr F w (w.alloc (.cells #[.slice none 0 0,.int .i64 0] 118))) (w.alloc (.cells #[.slice none 0 0,.int .i64 0] 118)) p { L with ps:=fun i=>if i=d.files.length then w.heap.size else L.ps i,vs:=fun i=>if i=d.files.length then .slice none 0 0 else L.vs i } { d with files:=d.files++[⟨[],0⟩] } u N:=by
 have hb:Below w.heap.size w (w.alloc (.cells #[.slice none 0 0,.int .i64 0] 118)):=(Below.refl _ w).alloc zL _
 have hnew:Bk 118 (w.alloc (.cells #[.slice none 0 0,.int .i64 0] 118)) w.heap.size #[.slice none 0 0,.int .i64 0]:=heap_alloc_new w _
 have hs:(w.alloc (.cells #[.slice none 0 0,.int .i64 0] 118)).heap.size=w.heap.size+1:=by simp
 obtain⟨W,hW⟩:∃ W,W=w.alloc (.cells #[.slice none 0 0,.int .i64 0] 118):=⟨_,rfl⟩
 rw[<-hW] at hb hnew hs ⊢
 have h1:=h.more hb
 have h0:=h1.rest
 have hlen:(d.files++[(⟨[],0⟩:Fl)]).length=d.files.length+1:=by simp
 refine⟨h1.head,⟨?_,?_,h0.row,h0.many,?_,?_,?_,?_,h0.nk,h0.fn,h0.fk,h0.fw,?_,?_⟩,h1.fh,h1.lt⟩
 ·refine h0.now.fun fun n _=>?_
  show(look (Zbo d) n).map L.ps=(look (Zbo d) n).map _
  cases e:look (Zbo d) n with
  | none=>rfl
  | some f=>
   have:=(hok.dir.mayOf e).2
   show some (L.ps f)=some (if f=d.files.length then w.heap.size else L.ps f)
   rw[if_neg (by omega)]
 ·refine h0.kept.fun fun n _=>?_
  show(look d.kept n).map L.ps=(look d.kept n).map _
  cases e:look d.kept n with
  | none=>rfl
  | some f=>
   have:=(hok.kept.mayOf e).2
   show some (L.ps f)=some (if f=d.files.length then w.heap.size else L.ps f)
   rw[if_neg (by omega)]
 ·intro i c v hi hv
  refine(h0.wait i c v hi hv).keep (fun _ hf=>hf) (fun f hf=>?_) (fun _ _ _ _=>rfl)
  have:=ZzR (hok.chs c (List.mem_of_getElem? hi)) hf
  show(if f=d.files.length then w.heap.size else L.ps f)=L.ps f
  rw[if_neg (by omega)]
 ·intro i hi
  show ZqF W (if i=d.files.length then w.heap.size else L.ps i) (if i=d.files.length then .slice none 0 0 else L.vs i) (fl (d.files++[⟨[],0⟩]) i)
  by_cases e:i=d.files.length
  ·rw[if_pos e,if_pos e,e,ZqJ]
   exact⟨hnew,World.ownsRow_nil _ _ _ _⟩
  ·have hi':i<d.files.length:=by have:i<(d.files++[(⟨[],0⟩:Fl)]).length:=hi;omega
   rw[if_neg e,if_neg e,ZoR hi']
   exact h0.file i hi'
 ·intro i j hi hj hij
  have hi2:i<(d.files++[(⟨[],0⟩:Fl)]).length:=hi
  have hj2:j<(d.files++[(⟨[],0⟩:Fl)]).length:=hj
  show(if i=d.files.length then w.heap.size else L.ps i)≠(if j=d.files.length then w.heap.size else L.ps j)
  have hold:∀ i,i<d.files.length->L.ps i<w.heap.size:=fun i hi=>h.lt _ (h.rest.fp i hi)
  by_cases e1:i=d.files.length
  ·rw[if_pos e1,if_neg (by omega)]
   have:=hold j (by omega)
   omega
  ·rw[if_neg e1]
   by_cases e2:j=d.files.length
   ·rw[if_pos e2]
    have:=hold i (by omega)
    omega
   ·rw[if_neg e2]
    exact h0.psn i j (by show i<d.files.length;omega) (by show j<d.files.length;omega) hij
 ·intro i j hi hj hij g
  have hi2:i<(d.files++[(⟨[],0⟩:Fl)]).length:=hi
  have hj2:j<(d.files++[(⟨[],0⟩:Fl)]).length:=hj
  show(if i=d.files.length then Value.slice none 0 0 else L.vs i).ownBlock=some g->(if j=d.files.length then Value.slice none 0 0 else L.vs j).ownBlock≠some g
  by_cases e1:i=d.files.length
  ·rw[if_pos e1]
   intro hg
   cases hg
  ·rw[if_neg e1]
   by_cases e2:j=d.files.length
   ·rw[if_pos e2]
    intro _ hg
    cases hg
   ·rw[if_neg e2]
    exact h0.vsn i j (by show i<d.files.length;omega) (by show j<d.files.length;omega) hij g
 ·intro i hi
  have hi2:i<(d.files++[(⟨[],0⟩:Fl)]).length:=hi
  show Gr F w W (if i=d.files.length then w.heap.size else L.ps i)
  by_cases e:i=d.files.length
  ·rw[if_pos e]
   exact .inr ⟨Nat.le_refl _,by omega⟩
  ·rw[if_neg e]
   exact h0.fp i (by show i<d.files.length;omega)
 ·intro i hi g
  have hi2:i<(d.files++[(⟨[],0⟩:Fl)]).length:=hi
  show(if i=d.files.length then Value.slice none 0 0 else L.vs i).ownBlock=some g->Gr F w W g
  by_cases e:i=d.files.length
  ·rw[if_pos e]
   intro hg
   cases hg
  ·rw[if_neg e]
   exact h0.fv i (by show i<d.files.length;omega) g
theorem ZlM (w:World) (ty:TypeId) (v:Value) (l0:List UInt8) (hown:Own w 0 v l0) (vx:Value) (l:List UInt8) (hr:Rd w vx l)
 (hlim:l0.length+l.length<=70368744177664):
 ∃ v' w',(Builtin.append_ #[53,53] ty #[v,vx]).run Tryz.prog w=.ok v' w'∧Own w' 0 v' (l0++l)∧w.grownBy w' v.ownBlock∧(v'.ownBlock=v.ownBlock∨v'.ownBlock=some w.heap.size):=by
 obtain⟨i0,hi,hz0,hz1,hz2⟩:=info_parts Zni
 obtain⟨ao,cap,rfl,hlc,hcm,hn0,hao⟩:=hr
 cases ao with
 | none=>
  have hc:=hn0 rfl
  subst hc
  have hl:l=[]:=List.eq_nil_of_length_eq_zero (by omega)
  subst hl
  have hrun:=run_append_owned_none (P:=Tryz.prog) w 0 53 ty 5 i0 1 Tryz.underlying53 hi v l0.length (Lib.byteCells l0) hown
  exact⟨v,w,hrun,by rw[List.append_nil];exact hown,⟨rfl,rfl,rfl,Nat.le_refl _,fun _ _ _=>rfl⟩,.inl rfl⟩
 | some a=>
  obtain⟨v',w',hrun,ho,hg,_,hl⟩:=run_append_own_at (P:=Tryz.prog) w 0 53 ty 5 i0 (.int .u8 0) 1 1 Tryz.underlying53 hi hz0 hz1 hz2 rfl (by decide) v l0.length (Lib.byteCells l0) hown a l.length cap (Lib.byteCells l)
   (by rw[Zbr,Nat.mul_one]) (Rd.cells hao a rfl) (ZdA l) (by unfold maxLen;omega) (by omega) (Nat.zero_le _)
  exact⟨v',w',hrun,Own.mk' ho (by simp) (by simp[Lib.byteCells]),hg,hl⟩
theorem ZeR (w:World) {ops:Array Oper} {rest:List Oper} {o:Oper} {a:Act} {Q:Exit->Act->World->Prop} (hgd:o.guard=none) (s x:Operand)
 (ho:o.op=.call { callee:=.builtin .append,args:=#[s,x],argTypes:=#[53,53] })
 (v:Value) (l0:List UInt8) (hs:a.eval s=v) (hown:Own w 0 v l0) (vx:Value) (l:List UInt8) (hx:a.eval x=vx) (hr:Rd w vx l)
 (hlim:l0.length+l.length<=70368744177664)
 (h:∀ v' w',Own w' 0 v' (l0++l)->w.grownBy w' v.ownBlock->(v'.ownBlock=v.ownBlock∨v'.ownBlock=some w.heap.size)->wpList Tryz.prog ops Q rest (a.put o.dst v') w'):wpList Tryz.prog ops Q (o::rest) a w:=
 wpList_plain hgd fun _ hK=>by
  obtain⟨v',w',hrun,h2,h3,h4⟩:=ZlM w o.type v l0 hown vx l hr hlim
  unfold Oper.wp execOp
  simp only [ho,resolve,invoke,builtin,Sem.run_bind,Sem.run_pure,Result.andThen_ok,List.map_toArray,List.map_cons,List.map_nil,hs,hx,hrun]
  exact hK _ _ (h v' w' h2 h3 h4)
theorem Zbg.grow {F:Nat->Prop} {w w1:World} {p:Nat} {L:Lay} {d:Dk} {u:Int} {N f:Nat} {v':Value} {x:List UInt8} (h:Zbg F w p L d u N) (hf:f<d.files.length)
 (ho:Own w1 0 v' ((fl d.files f).b++x)) (hg:w.grownBy w1 (L.vs f).ownBlock) (hl:v'.ownBlock=(L.vs f).ownBlock∨v'.ownBlock=some w.heap.size):
 Zbg (Gr F w w1) (w1.setCell ⟨L.ps f,0,none⟩ v') p { L with vs:=fun i=>if i=f then v' else L.vs i } { d with files:=ZeG d.files f x } u N∧Zas F w (w1.setCell ⟨L.ps f,0,none⟩ v'):=by
 have h0:=h.rest
 have hb:=(h0.file f hf).box
 have hne:(L.vs f).ownBlock≠some (L.ps f):=fun e=>by
  obtain⟨cs',hb'⟩:=ZeQ (h0.file f hf).own e
  exact(hb.ne hb' (by decide)) rfl
 have hb1:Bk 118 w1 (L.ps f) #[L.vs f,.int .i64 ((fl d.files f).k:Int)]:=hb.keep (hg.block _ hb.lt (fun e=>hne e.symm))
 have hs:(w1.setCell ⟨L.ps f,0,none⟩ v').heap.size=w1.heap.size:=by simp
 refine⟨h.setFile (F':=Gr F w w1) hf (fun k hk h1 h2=>?_) ⟨hb1.set 0 v',?_⟩ ?_ (fun _ hk=>.inl hk) (fun g hg'=>?_) (fun k hk=>by rw[hs];exact Gr.lt hg.size h.lt k hk),?_⟩
 ·rw[Below.heap_setCell _ _ _ _ h1,hg.block k (h.lt k hk) (fun e=>h2 e.symm)]
 ·refine Zaf ho fun g hg'=>Below.heap_setCell _ _ _ _ ?_
  obtain⟨cs',hb'⟩:=ZeQ ho hg'
  exact hb'.ne hb1 (by decide)
 ·rcases hl with hl | hl
  ·exact .inl hl
  ·exact .inr fun g hg'=>by rw[hl] at hg';exact Nat.le_of_eq (Option.some.inj hg')
 ·rcases hl with hl | hl
  ·exact .inl (h0.fv f hf g (by rw[<-hl];exact hg'))
  ·have h3:=(World.ownsRow.lt ho g hg').2
   rw[hl] at hg'
   obtain rfl:=Option.some.inj hg'
   exact .inr ⟨Nat.le_refl _,h3⟩
 ·exact(Zas.ofGrown hg fun k e _=>h0.fv f hf k e).setCell 0 (fun _=>h0.fp f hf) v'
theorem Bnd.grow {d:Dk} {N T:Nat} (h:Bnd d N T) (f:Nat) (b:List UInt8) (q:Int):Bnd { d with files:=ZeG d.files f b,power:=q } (N+1) (T+b.length):=by
 refine⟨by show(ZeG d.files f b).length<=_;have:=h.files;simp[ZeG];omega,by have:=h.names;show d.kept.length+d.waits.length<=_;omega,fun x hx=>?_⟩
 rcases List.mem_or_eq_of_mem_set hx with hx | rfl
 ·have:=h.bytes x hx;omega
 ·simp only [List.length_append]
  by_cases hf:f<d.files.length
  ·have:=h.bytes _ (Zgo hf);omega
  ·unfold fl
   rw[List.getD,List.getElem?_eq_none (by omega)]
   simp only [Option.getD_none,List.length_nil]
   omega
theorem Bnd.fresh {d:Dk} {N T:Nat} (h:Bnd d N T) (n:Int):Bnd (Zcl d n) (N+1) T:=by
 refine⟨by show(d.files++[_]).length<=_;have:=h.files;simp;omega,by have:=h.names;show d.kept.length+(d.waits++[_]).length<=_;simp;omega,fun x hx=>?_⟩
 rcases List.mem_append.1 hx with hx | hx
 ·exact h.bytes x hx
 ·rw[List.mem_singleton.1 hx]
  exact Nat.zero_le _
theorem Bnd.mono {d:Dk} {N T N' T':Nat} (h:Bnd d N T) (hN:N<=N') (hT:T<=T'):Bnd d N' T':=
 ⟨Nat.le_trans h.files hN,Nat.le_trans h.names hN,fun x hx=>Nat.le_trans (h.bytes x hx) hT⟩
theorem Zbg.mono {F:Nat->Prop} {w:World} {p:Nat} {L:Lay} {d:Dk} {u:Int} {N N':Nat} (h:Zbg F w p L d u N) (hN:N<=N'):Zbg F w p L d u N':=⟨h.head,h.rest.mono hN,h.fh,h.lt⟩
theorem Dsk.mono {F:Nat->Prop} {w:World} {p:Nat} {d:Dk} {N T N' T':Nat} (h:Dsk F w p d N T) (hN:N<=N') (hT:T<=T'):Dsk F w p d N' T':=by
 obtain⟨L,h1,h2,h3,h4⟩:=h
 exact⟨L,h1.mono hN,h2,h3.mono hN hT,h4⟩
def ZiO (F:Nat->Prop) (w:World) (p:Nat) (d:Dk) (code:Int) (N T:Nat) (e:Ending) (w':World):Prop:=
 e=.returned (.int .i64 code)∧∃ F',Dsk F' w' p d N T∧Zas F w w'∧∀ k,F' k->F k∨w.heap.size<=k
theorem ZiO.same {F:Nat->Prop} {w:World} {p:Nat} {d:Dk} {code:Int} {N T N' T':Nat} (h:Dsk F w p d N T) (hN:N<=N') (hT:T<=T'):ZiO F w p d code N' T' (.returned (.int .i64 code)) w:=
 ⟨rfl,F,h.mono hN hT,Zas.refl _ _,fun _ hk=>.inl hk⟩
theorem ZiO.drew {F:Nat->Prop} {w:World} {p:Nat} {d:Dk} {code:Int} {N T N' T':Nat} (h:Dsk F w p d N T) (hN:N<=N') (hT:T<=T') (q:Nat):ZiO F w p d code N' T' (.returned (.int .i64 code)) (w.drewN q):=
 ⟨rfl,F,(h.below (ZaM (Below.refl _ _) q)).mono hN hT,(Zas.refl _ _).drewN q,fun _ hk=>.inl hk⟩
theorem Zgd {q:Int} (h:I64 q):I64 (Zfx q):=by
 obtain⟨h1,h2⟩:=h
 unfold Zfx I64
 split <;> omega
theorem ZqL {d:Dk} (h:OkD d) {N T:Nat} (hb:Bnd d N T) (hN:N<=1000000) (hT:T<=1000000000):ZcF d<=1000000000000000:=by
 have h1:=Zyj h hb.names hb.bytes
 have h2:N*T<=1000000*1000000000:=Nat.mul_le_mul hN hT
 omega
theorem ZiO.appended {F F2:Nat->Prop} {w W2:World} {p:Nat} {d1:Dk} {N1 N' T f:Nat} {n:Int} {b:List UInt8} {L2:Lay} (hok:OkD d1) (hbn:Bnd d1 N1 T) (hi:I64 d1.room∧I64 d1.power) (hl:look (Zbo d1) n=some f)
 (h:Zbg F2 W2 p L2 (appendTo d1 f b) ((ZcF d1:Int)+b.length) N1) (ho:Zas F w W2) (hg:∀ k,F2 k->F k∨w.heap.size<=k) (hN:N1+1<=N'):ZiO F w p (appendTo d1 f b) 0 N' (T+b.length) (.returned (.int .i64 0)) W2:=by
 refine⟨rfl,F2,⟨L2,?_,hok.appendTo f b,(hbn.grow f b _).mono hN zL,hi.1,Zgd hi.2⟩,ho,hg⟩
 rw[ZtA hok hl b]
 exact h.mono (by omega)
theorem Rd.blockLt {w:World} {v:Value} {l:List UInt8} (h:Rd w v l):l=[]∨∀ k,v.ownBlock=some k->k<w.heap.size:=by
 obtain⟨ao,cap,rfl,h2,h3,hn,h4⟩:=h
 rcases h4 with h4 | ⟨b,off,rfl,h6⟩
 ·exact .inl h4
 ·by_cases e:l=[]
  ·exact .inl e
  ·right
   intro k hk
   obtain rfl:b=k:=by simpa[Value.ownBlock] using hk
   exact World.block_lt_of_cell? w ⟨b,off+0,none⟩ (h6 0 (List.length_pos_iff.2 e))
theorem Rd.onlyN {w w':World} {v:Value} {l:List UInt8} (h:Rd w v l) {F G:Nat->Prop} {B:Nat} (ho:Zas G w w') (hG:∀ k,G k->F k∨B<=k) (hv:l=[]∨∀ k,v.ownBlock=some k->¬ F k) (hlt:l=[]∨∀ k,v.ownBlock=some k->k<B):Rd w' v l:=by
 rcases hv with rfl | hv
 ·obtain⟨ao,cap,rfl,h2,h3,hn,h4⟩:=h
  exact⟨ao,cap,rfl,h2,h3,hn,.inl rfl⟩
 rcases hlt with rfl | hlt
 ·obtain⟨ao,cap,rfl,h2,h3,hn,h4⟩:=h
  exact⟨ao,cap,rfl,h2,h3,hn,.inl rfl⟩
 ·exact h.only ho fun k hk hg=>by
   rcases hG k hg with hf | hf
   ·exact hv k hk hf
   ·have:=hlt k hk;omega
theorem Zmp {F:Nat->Prop} {p:Nat} {d:Dk} {N T:Nat} (n:Int) (hn:I64 n) (vb:Value) (b:List UInt8) (w:World) (h:Dsk F w p d N T) (hr:Rd w vb b) (hv:b=[]∨∀ k,vb.ownBlock=some k->¬ F k) (hN:N<=1000000) (hT:T<=1000000000) (hbl:b.length<=1000000000):
 Calls Tryz.prog 53 #[ptr p,.int .i64 n,vb] w fun e w'=>ZiO F w p (ZaI d n b).1 (ZaI d n b).2 (N+2) (T+b.length) e w':=by
 have HD:=ZZ h
 obtain⟨L,h,hok,hbn,hrm,hpw⟩:=h
 have H:=ZZ h
 have HOK:=ZZ hok
 have HBN:=ZZ hbn
 have HI:=ZZ (And.intro hrm hpw)
 have HRD:=ZZ hr
 have HBL:=ZZ hr.blockLt
 have HV:=ZZ hv
 have HO:=ZZ (ZoO w h)
 have HM:=ZZ (ZoP n w)
 have hl:=h.rest.now.look hn
 obtain⟨⟨c0,c1,c2,-,-,-⟩,-⟩:=h.cells
 have hub:=ZqL hok hbn hN hT
 obtain⟨U,hU⟩:∃ U:Int,U=(ZcF d:Int):=⟨_,rfl⟩
 have hU0:0<=U∧U<=1000000000000000:=by omega
 rw[<-hU] at c1
 obtain⟨ao,cap,rfl,-⟩:=hr
 obtain⟨R,hR⟩:∃ R,R=d.room:=⟨_,rfl⟩
 rw[<-hR] at c0
 unfold ZaI
 rw[<-hU,<-hR]
 have HU:=ZZ hU
 clear hU hub hR
 clear hok hbn hpw hv h
 by_cases h0:d.power=0
 ·rw[if_pos h0]
  rw[h0] at HO
  clear hl h0
  go_enter Tryz.func53,Tryz.ntmps53
  go_wp2_with fail
  refine HO.out.mono ?_
  rintro e w' ⟨rfl,rfl⟩
  go_wp2
  go_ret
  exact ZiO.same HD.out (by omega) (by omega)
 rw[if_neg h0]
 have e0:(d.power != 0)=true:=by simpa using h0
 rw[e0] at HO
 clear h0 e0
 cases hmn:ZiE n with
 | false=>
  rw[if_pos rfl]
  rw[hmn] at HM
  clear hl hmn
  go_enter Tryz.func53,Tryz.ntmps53
  go_wp2_with fail
  refine HO.out.mono ?_
  rintro e w' ⟨rfl,rfl⟩
  go_wp2_with fail
  refine HM.out.mono ?_
  rintro e w' ⟨rfl,rfl⟩
  go_wp2
  go_ret
  exact ZiO.same HD.out (by omega) (by omega)
 | true=>
 rw[if_neg (by simp)]
 have HMN:=ZZ hmn
 rw[hmn] at HM
 clear hmn
 by_cases hroom:U+(b.length:Int)>R
 ·rw[if_pos hroom]
  clear hl
  go_enter Tryz.func53,Tryz.ntmps53
  go_wp2_with fail
  refine HO.out.mono ?_
  rintro e w' ⟨rfl,rfl⟩
  go_wp2_with fail
  refine HM.out.mono ?_
  rintro e w' ⟨rfl,rfl⟩
  go_upto_region 5 with fail
  go_quiet(fail)
  go_wp2
  go_ret
  exact ZiO.drew HD.out (by omega) (by omega) _
 rw[if_neg hroom]
 have hroom':decide (U+(b.length:Int)>R)=false:=decide_eq_false hroom
 have hroom2:U+(b.length:Int)<=R:=by omega
 cases ho:look (Zbo d) n with
 | some f=>
  clear hl
  dsimp only
  have HLK:=ZZ ho
  clear ho
  go_enter Tryz.func53,Tryz.ntmps53
  go_wp2_with fail
  refine HO.out.mono ?_
  rintro e w' ⟨rfl,rfl⟩
  go_wp2_with fail
  refine HM.out.mono ?_
  rintro e w' ⟨rfl,rfl⟩
  go_upto_region 5 with fail
  go_cut[17] (fun v wc=>v=.bool false∧Hid (∃ q,wc=w'.drewN q))
  case first=>
   go_quiet(fail)
   go_wp2
   go_meet
   exact⟨rfl,ZZ ⟨_,rfl⟩⟩
  case rest=>
   obtain⟨W,rfl⟩:∃ W,W=wc:=⟨_,rfl⟩
   obtain⟨rfl,hw⟩:=hcut
   obtain⟨w,rfl⟩:∃ w0,w0=w':=⟨_,rfl⟩
   obtain⟨q,hq⟩:=hw.out
   have H0:Hid (Zbg F W p L d U N):=ZZ (by rw[hq,HU.out];exact H.out.keep (fun _ _=>rfl) zL)
   have HON0:Hid (Zas F w W):=ZZ (by rw[hq];exact(Zas.refl _ _).drewN q)
   have HRD0:Hid (Rd W (.slice ao b.length cap) b):=ZZ (by rw[hq];exact HRD.out.below (ZaM (Below.refl _ _) q) zL)
   clear hw hq c0 c1 c2 hroom hroom' H HRD HO HM HD
   obtain⟨⟨-,-,c2,-,-,-⟩,-⟩:=H0.out.cells
   have hl:=H0.out.rest.now.look hn
   rw[HLK.out] at hl
   have hl':(Instr.lookup 66 (.map (some L.now)) (.int .i64 n) true).run Tryz.prog W=.ok (.tuple #[.pointer (some ⟨L.ps f,0,none⟩),.bool true]) W:=hl
   have hf:f<d.files.length:=(HOK.out.dir.mayOf HLK.out).2
   have HLK1:=HLK
   have H1:=H0
   have HU1:=HU
   have HOK1:=HOK
   have HBN1:=HBN
   have HI1:=HI
   have HGR1:Hid (∀ k,F k->F k∨w.heap.size<=k):=ZZ (fun k hk=>.inl hk)
   have HON1:=HON0
   have HRD1:=HRD0
   clear hl H0 HON0 HRD0
   go_upto_region 11 with fail
   clear hl' c2
   obtain⟨g0,y0⟩:=(H1.out.rest.file f hf).box.cell 0 rfl
   have HOW:=ZZ (H1.out.rest.file f hf).own
   have hbx:=ZZ (H1.out.rest.file f hf).box
   obtain⟨va,vc,hvs⟩:=(H1.out.rest.file f hf).own.shape
   rw[hvs] at g0
   have HVS:=ZZ hvs
   have HLIM:Hid ((fl d.files f).b.length+b.length<=70368744177664):=ZZ (by have:=HBN1.out.bytes _ (Zgo hf);omega)
   clear hvs
   go_wp2_with(at_builtin;refine(fun(h:True->_)=>h trivial) ?_)
   intro _
   rw[<-HVS.out]
   refine ZeR W rfl _ _ rfl (L.vs f) _ rfl HOW.out _ b rfl HRD1.out HLIM.out ?_
   intro v' w2 ho2 hg2 hl2
   obtain⟨hd2,hon2⟩:=H1.out.grow hf ho2 hg2 hl2
   have HD2:=ZZ hd2
   have HON2:=ZZ hon2
   have hne:(L.vs f).ownBlock≠some (L.ps f):=fun e=>by
    obtain⟨cs',hb'⟩:=ZeQ HOW.out e
    exact(hbx.out.ne hb' (by decide)) rfl
   obtain⟨g2,y2⟩:=(hbx.out.keep (hg2.block _ hbx.out.lt (fun e=>hne e.symm))).cell 0 rfl
   rw[HVS.out] at g2
   obtain⟨va',vc',hvs'⟩:=ho2.shape
   rw[hvs'] at HD2 HON2 ⊢
   obtain⟨W3,hW3⟩:∃ W3,W3=w2.setCell ⟨L.ps f,0,none⟩ (.slice va' ((fl d.files f).b++b).length vc'):=⟨_,rfl⟩
   have HW3:=ZZ hW3
   obtain⟨M,hM⟩:∃ M,M=((fl d.files f).b++b).length:=⟨_,rfl⟩
   rw[<-hW3] at HD2 HON2
   rw[<-hM]
   rw[<-hM] at HW3
   clear ho2 hg2 hl2 hd2 hon2 hne hvs' hW3 hM g0 y0
   go_upto_region 12 with fail
   rw[<-HW3.out]
   clear HW3 g2 y2
   obtain⟨⟨-,k1,-,-,-,-⟩,j1,-⟩:=HD2.out.cells
   obtain⟨W4,hW4⟩:∃ W4,W4=W3.setCell ⟨p,1,none⟩ (.int .i64 (U+(b.length:Int))):=⟨_,rfl⟩
   have HD3:=ZZ (HD2.out.setHead 1 (.int .i64 (U+(b.length:Int))) (d':={ d with files:=ZeG d.files f b }) (u':=U+(b.length:Int)) ⟨rfl,rfl,rfl⟩ rfl)
   have HON3:Hid (Zas F w W4):=ZZ (by
    rw[hW4]
    exact(HON1.out.trans HON2.out (fun k hk hf=>(HGR1.out k hf).resolve_right (by omega))).setCell 1 (fun hlt=>((HGR1.out p H1.out.fh).resolve_right (by omega))) _)
   rw[<-hW4] at HD3
   have HW4:=ZZ hW4
   clear hW4
   go_upto_region 13 with fail
   rw[<-HW4.out]
   clear HW4 k1 j1
   go_wp2_with fail
   refine(Zff W4 HD3.out HI1.out.2).mono ?_
   rintro e W5 ⟨rfl,hd5,hon5⟩
   go_wp2
   go_ret
   refine ZiO.appended HOK1.out HBN1.out HI1.out HLK1.out (by rw[<-HU1.out];exact hd5) ((HON3.out.trans hon5 (fun k hk hf=>?_))) (fun k hk=>?_) (by omega)
   ·rcases hf with hf | hf
    ·exact(HGR1.out k hf).resolve_right (by omega)
    ·have:=HON1.out.size;omega
   ·rcases hk with hk | hk
    ·exact HGR1.out k hk
    ·have:=HON1.out.size;exact .inr (by omega)
 | none=>
  clear hl
  dsimp only
  have HLK:=ZZ ho
  clear ho
  go_enter Tryz.func53,Tryz.ntmps53
  go_wp2_with fail
  refine HO.out.mono ?_
  rintro e w' ⟨rfl,rfl⟩
  go_wp2_with fail
  refine HM.out.mono ?_
  rintro e w' ⟨rfl,rfl⟩
  go_upto_region 5 with fail
  go_cut[17] (fun v wc=>v=.bool false∧Hid (∃ q,wc=w'.drewN q))
  case first=>
   go_quiet(fail)
   go_wp2
   go_meet
   exact⟨rfl,ZZ ⟨_,rfl⟩⟩
  case rest=>
   obtain⟨W,rfl⟩:∃ W,W=wc:=⟨_,rfl⟩
   obtain⟨rfl,hw⟩:=hcut
   obtain⟨w,rfl⟩:∃ w0,w0=w':=⟨_,rfl⟩
   obtain⟨q,hq⟩:=hw.out
   have H0:Hid (Zbg F W p L d U N):=ZZ (by rw[hq,HU.out];exact H.out.keep (fun _ _=>rfl) zL)
   have HON0:Hid (Zas F w W):=ZZ (by rw[hq];exact(Zas.refl _ _).drewN q)
   have HRD0:Hid (Rd W (.slice ao b.length cap) b):=ZZ (by rw[hq];exact HRD.out.below (ZaM (Below.refl _ _) q) zL)
   clear hw hq c0 c1 c2 hroom hroom' H HRD HO HM HD
   obtain⟨⟨-,-,c2,-,-,-⟩,-⟩:=H0.out.cells
   have hl:=H0.out.rest.now.look hn
   rw[HLK.out] at hl
   have hl':(Instr.lookup 66 (.map (some L.now)) (.int .i64 n) true).run Tryz.prog W=.ok (.tuple #[.pointer none,.bool false]) W:=hl
   have HFR:=ZZ (H0.out.addFile HOK.out)
   have HONF:=ZZ (HON0.out.alloc (.cells #[.slice none 0 0,.int .i64 0] 118))
   have HRDF:Hid (Rd (W.alloc (.cells #[.slice none 0 0,.int .i64 0] 118)) (.slice ao b.length cap) b):=ZZ (HRD0.out.below ((Below.refl _ _).alloc zL _) zL)
   have HSZ:Hid (w.heap.size<=W.heap.size):=ZZ HON0.out.size
   have HWZ:Hid (W.heap.size<(W.alloc (.cells #[.slice none 0 0,.int .i64 0] 118)).heap.size):=ZZ (by simp)
   obtain⟨WA,hWA⟩:∃ WA,WA=W.alloc (.cells #[.slice none 0 0,.int .i64 0] 118):=⟨_,rfl⟩
   rw[<-hWA] at HFR HONF HRDF HWZ
   have HWA:=ZZ hWA
   have HO:=HLK
   clear hWA hl
   go_upto_region 10 with fail
   rw[<-HWA.out]
   clear HWA hl' c2
   go_wp2_with fail
   refine(Zyh n W.heap.size WA).mono ?_
   rintro e WB ⟨rfl,hWB⟩
   have hbB:Below WA.heap.size WA WB:=by rw[hWB];exact((Below.refl _ _).alloc zL _).alloc (by simp) _
   have hsB:WB.heap.size=WA.heap.size+1+1:=by rw[hWB];simp
   have hc1:Bk 3 WB WA.heap.size #[.int .i64 n]:=by rw[hWB];exact(Below.heap_alloc _ _ _ (by simp)).trans (heap_alloc_new WA _)
   have hc2:Bk 116 WB (WA.heap.size+1) #[ptr W.heap.size]:=by
    have e1:WA.heap.size+1=(WA.alloc (.cells #[.int .i64 n] 3)).heap.size:=by simp
    rw[hWB,e1]
    exact heap_alloc_new _ _
   have HDB:=ZZ (HFR.out.more hbB)
   obtain⟨FB,hFB⟩:∃ FB,FB=Gr (Gr F W WA) WA WB:=⟨_,rfl⟩
   rw[<-hFB] at HDB
   obtain⟨LB,hLB⟩:∃ LB:Lay,LB={ L with ps:=fun i=>if i=d.files.length then W.heap.size else L.ps i,vs:=fun i=>if i=d.files.length then .slice none 0 0 else L.vs i }:=⟨_,rfl⟩
   have hps:LB.ps d.files.length=W.heap.size:=by rw[hLB];exact if_pos rfl
   rw[<-hLB] at HDB
   have HCV:Hid (ChV FB WB LB.ps (.give n d.files.length) (.func (.func 140) #[] #[ptr (WA.heap.size+1),ptr WA.heap.size])):=ZZ ⟨_,_,rfl,hc1,by rw[hps];exact hc2,by rw[hFB];exact .inr ⟨Nat.le_refl _,by omega⟩,by rw[hFB];exact .inr ⟨by omega,by omega⟩⟩
   have HFRB:Hid (∀ k,FB k->F k∨w.heap.size<=k):=ZZ (fun k hk=>by
    rw[hFB] at hk
    have h1:=HSZ.out
    have h2:=HWZ.out
    rcases hk with (hk | hk) | hk
    ·exact .inl hk
    ·exact .inr (by omega)
    ·exact .inr (by omega))
   have HONB:Hid (Zas F w WB):=ZZ (HONF.out.trans (G:=fun _=>False) (Zas.ofBelow hbB) (fun _ _ hf=>hf.elim))
   have HRDB:Hid (Rd WB (.slice ao b.length cap) b):=ZZ (HRDF.out.below hbB zL)
   have HPS:=ZZ hps
   have HOKF:Hid (OkD { d with files:=d.files++[⟨[],0⟩] }):=ZZ ⟨fun k=>(HOK.out.dirs k).more (by simp),fun c hc=>(HOK.out.chs c hc).more (by simp),fun x hx=>by
    rcases List.mem_append.1 hx with hx | hx
    ·exact HOK.out.keep x hx
    ·rw[List.mem_singleton.1 hx];exact Nat.le_refl _⟩
   have HAP:=ZZ (Zkg WB HDB.out HCV.out HOKF.out ⟨HMN.out,by simp⟩ hN (by have:=HBN.out.names;show d.waits.length<=1000000;omega))
   clear hbB hsB hc1 hc2 hFB hLB hps hWB
   go_wp2_with fail
   refine HAP.out.mono ?_
   rintro e WC ⟨rfl,LC,hdc,hpsc,-,honc⟩
   have HLK1:Hid (look (Zbo (Zcl d n)) n=some d.files.length):=ZZ (Zte HOK.out n)
   have H1:Hid (Zbg (Gr FB WB WC) WC p LC (Zcl d n) U (N+1)):=ZZ hdc
   have HU1:Hid (U=(ZcF (Zcl d n):Int)):=ZZ (by rw[ZqK HOK.out HO.out];exact HU.out)
   have HOK1:Hid (OkD (Zcl d n)):=ZZ (HOK.out.fresh HMN.out)
   have HBN1:Hid (Bnd (Zcl d n) (N+1) T):=ZZ (HBN.out.fresh n)
   have HI1:Hid (I64 (Zcl d n).room∧I64 (Zcl d n).power):=ZZ HI.out
   have HGR1:Hid (∀ k,Gr FB WB WC k->F k∨w.heap.size<=k):=ZZ (fun k hk=>by
    rcases hk with hk | hk
    ·exact HFRB.out k hk
    ·have:=HONB.out.size;exact .inr (by omega))
   have HON1:Hid (Zas F w WC):=ZZ (HONB.out.trans honc (fun k hk hf=>(HFRB.out k hf).resolve_right (by omega)))
   have HRD1:Hid (Rd WC (.slice ao b.length cap) b):=ZZ (HRDB.out.onlyN (B:=w.heap.size) honc HFRB.out HV.out HBL.out)
   have hf:d.files.length<(Zcl d n).files.length:=by simp[Zcl]
   have hpc:LC.ps d.files.length=W.heap.size:=by rw[hpsc];exact HPS.out
   rw[<-hpc]
   clear hdc hpsc honc hpc HAP HCV HDB HFRB HONB HRDB HPS HOKF HFR HONF HRDF HSZ HWZ HO H0 HON0 HRD0 HOK HBN HI HU hn HMN
   go_upto_region 11 with fail
   obtain⟨g0,y0⟩:=(H1.out.rest.file d.files.length hf).box.cell 0 rfl
   have HOW:=ZZ (H1.out.rest.file d.files.length hf).own
   have hbx:=ZZ (H1.out.rest.file d.files.length hf).box
   obtain⟨va,vc,hvs⟩:=(H1.out.rest.file d.files.length hf).own.shape
   rw[hvs] at g0
   have HVS:=ZZ hvs
   have HLIM:Hid ((fl (Zcl d n).files d.files.length).b.length+b.length<=70368744177664):=ZZ (by have:=HBN1.out.bytes _ (Zgo hf);omega)
   clear hvs
   go_wp2_with(at_builtin;refine(fun(h:True->_)=>h trivial) ?_)
   intro _
   rw[<-HVS.out]
   refine ZeR WC rfl _ _ rfl (LC.vs d.files.length) _ rfl HOW.out _ b rfl HRD1.out HLIM.out ?_
   intro v' w2 ho2 hg2 hl2
   obtain⟨hd2,hon2⟩:=H1.out.grow hf ho2 hg2 hl2
   have HD2:=ZZ hd2
   have HON2:=ZZ hon2
   have hne:(LC.vs d.files.length).ownBlock≠some (LC.ps d.files.length):=fun e=>by
    obtain⟨cs',hb'⟩:=ZeQ HOW.out e
    exact(hbx.out.ne hb' (by decide)) rfl
   obtain⟨g2,y2⟩:=(hbx.out.keep (hg2.block _ hbx.out.lt (fun e=>hne e.symm))).cell 0 rfl
   rw[HVS.out] at g2
   obtain⟨va',vc',hvs'⟩:=ho2.shape
   rw[hvs'] at HD2 HON2 ⊢
   obtain⟨W3,hW3⟩:∃ W3,W3=w2.setCell ⟨LC.ps d.files.length,0,none⟩ (.slice va' ((fl (Zcl d n).files d.files.length).b++b).length vc'):=⟨_,rfl⟩
   have HW3:=ZZ hW3
   obtain⟨M,hM⟩:∃ M,M=((fl (Zcl d n).files d.files.length).b++b).length:=⟨_,rfl⟩
   rw[<-hW3] at HD2 HON2
   rw[<-hM]
   rw[<-hM] at HW3
   clear ho2 hg2 hl2 hd2 hon2 hne hvs' hW3 hM g0 y0
   go_upto_region 12 with fail
   rw[<-HW3.out]
   clear HW3 g2 y2
   obtain⟨⟨-,k1,-,-,-,-⟩,j1,-⟩:=HD2.out.cells
   obtain⟨W4,hW4⟩:∃ W4,W4=W3.setCell ⟨p,1,none⟩ (.int .i64 (U+(b.length:Int))):=⟨_,rfl⟩
   have HD3:=ZZ (HD2.out.setHead 1 (.int .i64 (U+(b.length:Int))) (d':={ (Zcl d n) with files:=ZeG (Zcl d n).files d.files.length b }) (u':=U+(b.length:Int)) ⟨rfl,rfl,rfl⟩ rfl)
   have HON3:Hid (Zas F w W4):=ZZ (by
    rw[hW4]
    exact(HON1.out.trans HON2.out (fun k hk hf=>(HGR1.out k hf).resolve_right (by omega))).setCell 1 (fun hlt=>((HGR1.out p H1.out.fh).resolve_right (by omega))) _)
   rw[<-hW4] at HD3
   have HW4:=ZZ hW4
   clear hW4
   go_upto_region 13 with fail
   rw[<-HW4.out]
   clear HW4 k1 j1
   go_wp2_with fail
   refine(Zff W4 HD3.out HI1.out.2).mono ?_
   rintro e W5 ⟨rfl,hd5,hon5⟩
   go_wp2
   go_ret
   refine ZiO.appended HOK1.out HBN1.out HI1.out HLK1.out (by rw[<-HU1.out];exact hd5) ((HON3.out.trans hon5 (fun k hk hf=>?_))) (fun k hk=>?_) (by omega)
   ·rcases hf with hf | hf
    ·exact(HGR1.out k hf).resolve_right (by omega)
    ·have:=HON1.out.size;omega
   ·rcases hk with hk | hk
    ·exact HGR1.out k hk
    ·have:=HON1.out.size;exact .inr (by omega)
theorem Own.nil (w:World) (B:Nat):Own w B (.slice none 0 0) []:=World.ownsRow_nil w B 5 1
theorem Zny (w:World) (ty:TypeId) (B:Nat) (v:Value) (l0:List UInt8) (hown:Own w B v l0) (vx:Value) (l:List UInt8) (hr:Rd w vx l)
 (hlim:l0.length+l.length<=70368744177664) (hbase:B<=w.heap.size):
 ∃ v' w',(Builtin.append_ #[53,53] ty #[v,vx]).run Tryz.prog w=.ok v' w'∧Own w' B v' (l0++l)∧Below B w w':=by
 obtain⟨i0,hi,hz0,hz1,hz2⟩:=info_parts Zni
 obtain⟨ao,cap,rfl,hlc,hcm,hn0,hao⟩:=hr
 cases ao with
 | none=>
  have hc:=hn0 rfl
  subst hc
  have hl:l=[]:=List.eq_nil_of_length_eq_zero (by omega)
  subst hl
  have hrun:=run_append_owned_none (P:=Tryz.prog) w B 53 ty 5 i0 1 Tryz.underlying53 hi v l0.length (Lib.byteCells l0) hown
  exact⟨v,w,hrun,by rw[List.append_nil];exact hown,Below.refl _ _⟩
 | some a=>
  obtain⟨v',w',hrun,ho,hg,_⟩:=run_append_own (P:=Tryz.prog) w B 53 ty 5 i0 (.int .u8 0) 1 1 Tryz.underlying53 hi hz0 hz1 hz2 rfl (by decide) v l0.length (Lib.byteCells l0) hown a l.length cap (Lib.byteCells l)
   (by rw[Zbr,Nat.mul_one]) (Rd.cells hao a rfl) (ZdA l) (by unfold maxLen;omega) (by omega) hbase
  refine⟨v',w',hrun,Own.mk' ho (by simp) (by simp[Lib.byteCells]),?_⟩
  exact(Below.refl _ _).grown hg hbase (fun k hk=>(World.ownsRow.lt hown k hk).1)
theorem ZoS {o:Oper} {a:Act} {K:Act->World->Prop} {Q:Exit->Act->World->Prop} (w:World) (s x:Operand)
 (ho:o.op=.call { callee:=.builtin .append,args:=#[s,x],argTypes:=#[53,53] })
 (B:Nat) (v:Value) (l0:List UInt8) (hs:a.eval s=v) (hown:Own w B v l0) (vx:Value) (l:List UInt8) (hx:a.eval x=vx) (hr:Rd w vx l)
 (hlim:l0.length+l.length<=70368744177664) (hbase:B<=w.heap.size)
 (h:∀ v' w',Own w' B v' (l0++l)->Below B w w'->K (a.put o.dst v') w'):o.wp Tryz.prog a w K Q:=by
 obtain⟨v',w',hrun,h2,h3⟩:=Zny w o.type B v l0 hown vx l hr hlim hbase
 unfold Oper.wp execOp
 simp only [ho,resolve,invoke,builtin,Sem.run_bind,Sem.run_pure,Result.andThen_ok,List.map_toArray,List.map_cons,List.map_nil,hs,hx,hrun]
 exact h v' w' h2 h3
theorem ZaD (w:World) {ops:Array Oper} {rest:List Oper} {o:Oper} {a:Act} {Q:Exit->Act->World->Prop} (hgd:o.guard=none) (s x:Operand)
 (ho:o.op=.call { callee:=.builtin .append,args:=#[s,x],argTypes:=#[53,53] })
 (B:Nat) (v:Value) (l0:List UInt8) (hs:a.eval s=v) (hown:Own w B v l0) (vx:Value) (l:List UInt8) (hx:a.eval x=vx) (hr:Rd w vx l)
 (hlim:l0.length+l.length<=70368744177664) (hbase:B<=w.heap.size)
 (h:∀ v' w',Own w' B v' (l0++l)->Below B w w'->wpList Tryz.prog ops Q rest (a.put o.dst v') w'):wpList Tryz.prog ops Q (o::rest) a w:=
 wpList_plain hgd fun _ hK=>ZoS w s x ho B v l0 hs hown vx l hx hr hlim hbase fun v' w' h2 h3=>hK _ _ (h v' w' h2 h3)
theorem Zyk (w:World) (B:Nat) (hB:B<=w.heap.size):Own (w.alloc (.cells #[] 5)) B (.slice (some ⟨w.heap.size,0,none⟩) 0 0) []:=
 ⟨rfl,.inr ⟨w.heap.size,0,#[],rfl,hB,heap_alloc_new w _,Nat.le_refl _,Nat.zero_le _,rfl,rfl⟩⟩
theorem ZtE (v:Value) (l:List UInt8) (w:World) (hr:Rd w v l) (hlim:l.length<=70368744177664):
 Calls Tryz.prog 114 #[v] w fun e w'=>∃ v',e=.returned v'∧Own w' w.heap.size v' l∧Below w.heap.size w w':=by
 have HR:=ZZ hr
 obtain⟨ao,cap,rfl,hlc,hcm,hn0,hao⟩:=hr
 cases ao with
 | none=>
  have hc:=hn0 rfl
  have hl:l=[]:=List.eq_nil_of_length_eq_zero (by omega)
  subst hl
  subst hc
  clear hao hn0
  have hnil:∀ w,(binOp .eql 53 (.slice none 0 0) (.slice none 0 0)).run Tryz.prog w=.ok (.bool true) w:=fun w=>run_eql_slice_nil w _ _ none 0 0 Tryz.underlying53
  go_enter Tryz.func114,Tryz.ntmps114
  go_wp2
  go_ret
  exact⟨_,rfl,Own.nil _ _,Below.refl _ _⟩
 | some ad=>
  clear hao hn0 hlc hcm
  have hnil:∀ w,(binOp .eql 53 (.slice (some ad) l.length cap) (.slice none 0 0)).run Tryz.prog w=.ok (.bool false) w:=fun w=>run_eql_slice_nil w _ _ (some ad) _ _ Tryz.underlying53
  have HO:=ZZ (Zyk w w.heap.size zL)
  have HB:=ZZ ((Below.refl w.heap.size w).alloc zL (.cells #[] 5))
  have HR1:=ZZ (HR.out.below HB.out zL)
  have HS:Hid (w.heap.size<=(w.alloc (.cells #[] 5)).heap.size):=HB.out.size
  go_enter Tryz.func114,Tryz.ntmps114
  go_wp2_with(at_builtin;refine ZaD _ rfl _ _ rfl w.heap.size _ [] rfl HO.out _ l rfl HR1.out (by simp;omega) HS.out ?_)
  intro v4 w4 ho4 hb4
  have HO4:=ZZ ho4
  have HB4:=ZZ (HB.out.trans hb4)
  clear ho4 hb4
  go_wp2
  go_ret
  exact⟨v4,rfl,HO4.out,HB4.out⟩
theorem ZoT {F:Nat->Prop} {p:Nat} {d:Dk} {N T:Nat} (n:Int) (hn:I64 n) (w:World) (h:Dsk F w p d N T) (hT:T<=1000000000):
 Calls Tryz.prog 76 #[ptr p,.int .i64 n] w fun e w'=>∃ v,e=.returned (.tuple #[v,.int .i64 (ZcU d n).2])∧Own w' w.heap.size v (ZcU d n).1∧Below w.heap.size w w':=by
 obtain⟨L,h,hok,hbn,-,-⟩:=h
 have HF:=ZZ (Zjq n hn w h)
 have H:=ZZ h
 have HOK:=ZZ hok
 have HBN:=ZZ hbn
 clear h hok hbn
 unfold ZcU
 by_cases h0:d.power=0
 ·rw[if_pos h0]
  rw[if_pos h0,if_pos h0] at HF
  clear h0
  go_enter Tryz.func76,Tryz.ntmps76
  go_wp2_with fail
  refine HF.out.mono ?_
  rintro e w' ⟨rfl,rfl⟩
  go_wp2
  go_ret2
  exact⟨_,rfl,Own.nil _ _,Below.refl _ _⟩
 rw[if_neg h0]
 rw[if_neg h0,if_neg h0] at HF
 clear h0
 cases ho:look (Zbo d) n with
 | none=>
  rw[ho] at HF
  dsimp only [Option.map_none,Option.isSome_none,Bool.false_eq_true,if_false,Ztx] at HF ⊢
  clear ho
  go_enter Tryz.func76,Tryz.ntmps76
  go_wp2_with fail
  refine HF.out.mono ?_
  rintro e w' ⟨rfl,rfl⟩
  go_wp2
  go_ret2
  exact⟨_,rfl,Own.nil _ _,Below.refl _ _⟩
 | some f=>
  rw[ho] at HF
  dsimp only [Option.map_some,Option.isSome_some,if_true,Ztx] at HF ⊢
  have hf:f<d.files.length:=(HOK.out.dir.mayOf ho).2
  obtain⟨c0,-⟩:=(H.out.rest.file f hf).box.cell 0 rfl
  have HRD:=ZZ (H.out.rest.file f hf).own.rd
  have HC:=ZZ (ZtE _ _ w HRD.out (by have:=HBN.out.bytes _ (Zgo hf);omega))
  obtain⟨va,vc,hvs⟩:=(H.out.rest.file f hf).own.shape
  rw[hvs] at c0 HC
  clear ho hf hvs hT hn
  go_enter Tryz.func76,Tryz.ntmps76
  go_wp2_with fail
  refine HF.out.mono ?_
  rintro e w' ⟨rfl,rfl⟩
  go_wp2_with fail
  refine HC.out.mono ?_
  rintro e w1 ⟨v1,rfl,ho1,hb1⟩
  go_wp2
  go_ret2
  exact⟨_,rfl,ho1,hb1⟩
theorem ZsA {F:Nat->Prop} {p:Nat} {d:Dk} {N T:Nat} (n:Int) (hn:I64 n) (w:World) (h:Dsk F w p d N T):
 Calls Tryz.prog 60 #[ptr p,.int .i64 n] w fun e w'=>ZiO F w p (Zds d n).1 (Zds d n).2 (N+2) T e w':=by
 have HD:=ZZ h
 obtain⟨L,h,hok,hbn,hrm,hpw⟩:=h
 have HF:=ZZ (Zjq n hn w h)
 have H:=ZZ h
 have HOK:=ZZ hok
 have HBN:=ZZ hbn
 have HI:=ZZ (And.intro hrm hpw)
 clear h hok hbn hrm hpw
 unfold Zds
 by_cases h0:d.power=0
 ·rw[if_pos h0]
  rw[if_pos h0,if_pos h0] at HF
  clear h0
  go_enter Tryz.func60,Tryz.ntmps60
  go_wp2_with fail
  refine HF.out.mono ?_
  rintro e w' ⟨rfl,rfl⟩
  go_wp2
  go_ret
  exact ZiO.same HD.out (by omega) zL
 rw[if_neg h0]
 rw[if_neg h0,if_neg h0] at HF
 clear h0
 cases ho:look (Zbo d) n with
 | none=>
  rw[ho] at HF
  dsimp only [Option.map_none,Option.isSome_none,Bool.false_eq_true,if_false,Ztx] at HF ⊢
  clear ho
  go_enter Tryz.func60,Tryz.ntmps60
  go_wp2_with fail
  refine HF.out.mono ?_
  rintro e w' ⟨rfl,rfl⟩
  go_wp2
  go_ret
  exact ZiO.same HD.out (by omega) zL
 | some f=>
  rw[ho] at HF
  dsimp only [Option.map_some,Option.isSome_some,if_true,Ztx] at HF ⊢
  have HLK:=ZZ ho
  have hf:f<d.files.length:=(HOK.out.dir.mayOf ho).2
  have HX:=ZZ (H.out.rest.file f hf)
  obtain⟨c0,-⟩:=(H.out.rest.file f hf).box.cell 0 rfl
  obtain⟨c1,f1⟩:=(H.out.rest.file f hf).box.cell 1 rfl
  have HD1:Hid (Zbg F (w.setCell ⟨L.ps f,1,none⟩ (.int .i64 ((fl d.files f).b.length:Int))) p { L with vs:=fun i=>if i=f then L.vs f else L.vs i } { d with files:=Zha d.files f } (ZcF d) N):=ZZ (H.out.setFile (F':=F) (v':=L.vs f) (x':=⟨(fl d.files f).b,(fl d.files f).b.length⟩) hf (fun k _ h1 _=>Below.heap_setCell _ _ _ _ h1) ⟨HX.out.box.set 1 _,Zaf HX.out.own fun g hg=>Below.heap_setCell _ _ _ _ (by
   obtain⟨cs',hb'⟩:=ZeQ HX.out.own hg
   exact hb'.ne HX.out.box (by decide))⟩ (.inl rfl) (fun _ hk=>hk) (fun g hg=>H.out.rest.fv f hf g hg) (fun k hk=>by simpa using H.out.lt k hk))
  have HON1:Hid (Zas F w (w.setCell ⟨L.ps f,1,none⟩ (.int .i64 ((fl d.files f).b.length:Int)))):=ZZ ((Zas.refl _ _).setCell 1 (fun _=>H.out.rest.fp f hf) _)
  obtain⟨va,vc,hvs⟩:=HX.out.own.shape
  rw[hvs] at c0
  obtain⟨W1,hW1⟩:∃ W1,W1=w.setCell ⟨L.ps f,1,none⟩ (.int .i64 ((fl d.files f).b.length:Int)):=⟨_,rfl⟩
  rw[<-hW1] at HD1 HON1
  have HW1:=ZZ hW1
  clear ho hf hvs hn hW1
  go_enter Tryz.func60,Tryz.ntmps60
  go_wp2_with fail
  refine HF.out.mono ?_
  rintro e w' ⟨rfl,rfl⟩
  go_upto_region 5 with fail
  rw[<-HW1.out]
  clear HW1 c0 c1 f1
  go_wp2_with fail
  refine(Zff W1 HD1.out HI.out.2).mono ?_
  rintro e W5 ⟨rfl,hd5,hon5⟩
  go_wp2
  go_ret
  refine⟨rfl,F,⟨{ L with vs:=fun i=>if i=f then L.vs f else L.vs i },?_,?_,⟨?_,?_,?_⟩,HI.out.1,Zgd HI.out.2⟩,HON1.out.trans hon5 (fun _ _ hf=>hf),fun _ hk=>.inl hk⟩
  ·rw[ZtB HOK.out HLK.out]
   exact hd5.mono (by omega)
  ·exact HOK.out.bytes (by simp[Zha]) (Znf HOK.out.keep _ zL)
  ·have:=HBN.out.files
   show(Zha d.files f).length<=_
   simp[Zha]
   omega
  ·have:=HBN.out.names
   show d.kept.length+d.waits.length<=_
   omega
  ·intro x hx
   rcases List.mem_or_eq_of_mem_set hx with hx | rfl
   ·exact HBN.out.bytes x hx
   ·have:=HBN.out.bytes _ (Zgo (HOK.out.dir.mayOf HLK.out).2)
    exact this
theorem ZsB {F:Nat->Prop} {p:Nat} {L:Lay} {d:Dk} {U:Int} {N T:Nat} (n:Int) (hn:I64 n) (w:World) (h:Zbg F w p L d U N) (hok:OkD d) (hbn:Bnd d N T) (hT:T<=1000000000) (hU:0<=U∧U<=1000000000000000):
 Calls Tryz.prog 105 #[ptr p,.int .i64 n] w fun e w'=>e=.returned (.tuple #[])∧Zbg F w' p L d (U-(Ztz d.files (look (Zbo d) n):Int)) N∧Zas F w w':=by
 have H:=ZZ h
 obtain⟨⟨-,c1,c2,-,-,-⟩,f1,-⟩:=h.cells
 have hl:=h.rest.now.look hn
 cases ho:look (Zbo d) n with
 | none=>
  rw[ho] at hl
  have hl':(Instr.lookup 66 (.map (some L.now)) (.int .i64 n) true).run Tryz.prog w=.ok (.tuple #[.pointer none,.bool false]) w:=hl
  clear hl ho h hok hbn
  go_enter Tryz.func105,Tryz.ntmps105
  go_wp2
  go_end0
  exact⟨rfl,by simpa[Ztz] using H.out,Zas.refl _ _⟩
 | some f=>
  rw[ho] at hl
  have hl':(Instr.lookup 66 (.map (some L.now)) (.int .i64 n) true).run Tryz.prog w=.ok (.tuple #[.pointer (some ⟨L.ps f,0,none⟩),.bool true]) w:=hl
  have hf:f<d.files.length:=(hok.dir.mayOf ho).2
  obtain⟨g0,-⟩:=(h.rest.file f hf).box.cell 0 rfl
  obtain⟨va,vc,hvs⟩:=(h.rest.file f hf).own.shape
  rw[hvs] at g0
  have hlen:=hbn.bytes _ (Zgo hf)
  obtain⟨m,hm⟩:∃ m,m=(fl d.files f).b.length:=⟨_,rfl⟩
  have e:Ztz d.files (some f)=m:=hm.symm
  rw[e]
  rw[<-hm] at g0 hlen
  clear hl ho h hok hbn hf hvs hm e hn
  go_enter Tryz.func105,Tryz.ntmps105
  go_upto_region 2 with fail
  go_region
  go_end0
  exact⟨rfl,(H.out.setHead 1 (.int .i64 (U-(m:Int))) ⟨rfl,rfl,rfl⟩ rfl).keep (fun _ _=>rfl) zL,((Zas.refl _ _).setCell 1 (fun _=>H.out.fh) _).drewN 1⟩
theorem Bnd.waited {d:Dk} {N T:Nat} (h:Bnd d N T) (c:Ch) (q:Int):Bnd { d with waits:=d.waits++[c],power:=q } (N+1) T:=
 ⟨by have:=h.files;show d.files.length<=_;omega,by have:=h.names;show d.kept.length+(d.waits++[c]).length<=_;simp;omega,h.bytes⟩
theorem Zmq {F:Nat->Prop} {p:Nat} {d:Dk} {N T:Nat} (n:Int) (hn:I64 n) (w:World) (h:Dsk F w p d N T) (hN:N<=1000000) (hT:T<=1000000000):
 Calls Tryz.prog 70 #[ptr p,.int .i64 n] w fun e w'=>ZiO F w p (Zam d n).1 (Zam d n).2 (N+2) T e w':=by
 have HD:=ZZ h
 obtain⟨L,h,hok,hbn,hrm,hpw⟩:=h
 have HF:=ZZ (Zjq n hn w h)
 have H:=ZZ h
 have HOK:=ZZ hok
 have HBN:=ZZ hbn
 have HI:=ZZ (And.intro hrm hpw)
 have hub:=ZqL hok hbn hN hT
 have HFR:=ZZ (ZsB n hn w h hok hbn hT (by omega))
 clear h hok hbn hrm hpw hub
 unfold Zam
 by_cases h0:d.power=0
 ·rw[if_pos h0]
  rw[if_pos h0,if_pos h0] at HF
  clear h0
  go_enter Tryz.func70,Tryz.ntmps70
  go_wp2_with fail
  refine HF.out.mono ?_
  rintro e w' ⟨rfl,rfl⟩
  go_wp2
  go_ret
  exact ZiO.same HD.out (by omega) zL
 rw[if_neg h0]
 rw[if_neg h0,if_neg h0] at HF
 clear h0
 cases ho:look (Zbo d) n with
 | none=>
  rw[ho] at HF
  dsimp only [Option.map_none,Option.isSome_none,Bool.false_eq_true,if_false,Ztx] at HF ⊢
  clear ho
  go_enter Tryz.func70,Tryz.ntmps70
  go_wp2_with fail
  refine HF.out.mono ?_
  rintro e w' ⟨rfl,rfl⟩
  go_wp2
  go_ret
  exact ZiO.same HD.out (by omega) zL
 | some f=>
  rw[ho] at HF HFR
  dsimp only [Option.map_some,Option.isSome_some,if_true,Ztx] at HF ⊢
  have HLK:=ZZ ho
  have HMY:=ZZ (HOK.out.dir.mayOf ho)
  clear ho hn
  go_enter Tryz.func70,Tryz.ntmps70
  go_wp2_with fail
  refine HF.out.mono ?_
  rintro e w' ⟨rfl,rfl⟩
  go_wp2_with fail
  refine HFR.out.mono ?_
  rintro e W1 ⟨rfl,hd1,hon1⟩
  have HD1:=ZZ hd1
  have HON1:=ZZ hon1
  clear hd1 hon1
  go_wp2_with fail
  refine(Zyi n W1).mono ?_
  rintro e W2 ⟨rfl,hW2⟩
  have hb2:Below W1.heap.size W1 W2:=by rw[hW2];exact(Below.refl _ _).alloc zL _
  have hs2:W2.heap.size=W1.heap.size+1:=by rw[hW2];simp
  have hc2:Bk 3 W2 W1.heap.size #[.int .i64 n]:=by rw[hW2];exact heap_alloc_new W1 _
  have HD2:=ZZ (HD1.out.more hb2)
  have HCV:Hid (ChV (Gr F W1 W2) W2 L.ps (.take n) (.func (.func 158) #[] #[ptr W1.heap.size])):=ZZ ⟨_,rfl,hc2,.inr ⟨Nat.le_refl _,by omega⟩⟩
  have HON2:Hid (Zas F w' W2):=ZZ (HON1.out.trans (G:=fun _=>False) (Zas.ofBelow hb2) (fun _ _ hf=>hf.elim))
  have HAP:=ZZ (Zkg W2 HD2.out HCV.out HOK.out HMY.out.1 hN (by have:=HBN.out.names;omega))
  clear hb2 hs2 hc2 hW2
  go_wp2_with fail
  refine HAP.out.mono ?_
  rintro e W3 ⟨rfl,L3,hd3,-,-,hon3⟩
  have HON3:Hid (Zas F w' W3):=ZZ (HON2.out.trans hon3 (fun k hk hf=>by
   rcases hf with hf | hf
   ·exact hf
   ·have:=HON1.out.size;omega))
  have HD3:=ZZ hd3
  clear hd3 hon3 HAP
  go_wp2_with fail
  refine(Zff W3 HD3.out HI.out.2).mono ?_
  rintro e W4 ⟨rfl,hd4,hon4⟩
  go_wp2
  go_ret
  refine⟨rfl,Gr (Gr F W1 W2) W2 W3,⟨L3,?_,?_,(HBN.out.waited (.take n) _).mono (by omega) zL,HI.out.1,Zgd HI.out.2⟩,HON3.out.trans hon4 (fun k hk hf=>?_),fun k hk=>?_⟩
  ·have hu:=ZtD HOK.out HLK.out (Zfx d.power)
   have e1:(ZcF { d with waits:=d.waits++[.take n],power:=Zfx d.power }:Int)=(ZcF d:Int)-(Ztz d.files (some f):Int):=by
    show _=(ZcF d:Int)-((fl d.files f).b.length:Int)
    omega
   rw[e1]
   exact hd4.mono (by omega)
  ·exact HOK.out.taken HLK.out _
  ·rcases hf with (hf | hf) | hf
   ·exact hf
   ·have:=HON1.out.size;omega
   ·have:=HON2.out.size;omega
  ·rcases hk with (hk | hk) | hk
   ·exact .inl hk
   ·have:=HON1.out.size;exact .inr (by omega)
   ·have:=HON2.out.size;exact .inr (by omega)
theorem ZtF (w:World) (a b c:Obj):(((w.alloc a).alloc b).alloc c).heap[w.heap.size]?=some a∧(((w.alloc a).alloc b).alloc c).heap[w.heap.size+1]?=some b∧(((w.alloc a).alloc b).alloc c).heap[w.heap.size+1+1]?=some c:=by
 have e1:(w.alloc a).heap.size=w.heap.size+1:=by simp
 have e2:((w.alloc a).alloc b).heap.size=w.heap.size+1+1:=by simp
 refine⟨?_,?_,?_⟩
 ·rw[Below.heap_alloc _ _ _ (by omega),Below.heap_alloc _ _ _ (by omega)]
  exact heap_alloc_new w a
 ·rw[Below.heap_alloc _ _ _ (by omega),<-e1]
  exact heap_alloc_new _ b
 ·rw[<-e2]
  exact heap_alloc_new _ c
theorem ZtG {F:Nat->Prop} {p:Nat} {d:Dk} {N T:Nat} (n m:Int) (hn:I64 n) (hm:I64 m) (w:World) (h:Dsk F w p d N T) (hN:N<=1000000) (hT:T<=1000000000):
 Calls Tryz.prog 62 #[ptr p,.int .i64 n,.int .i64 m] w fun e w'=>ZiO F w p (ZcZ d n m).1 (ZcZ d n m).2 (N+2) T e w':=by
 have HD:=ZZ h
 obtain⟨L,h,hok,hbn,hrm,hpw⟩:=h
 have HF:=ZZ (Zjq n hn w h)
 have H:=ZZ h
 have HOK:=ZZ hok
 have HBN:=ZZ hbn
 have HI:=ZZ (And.intro hrm hpw)
 have hub:=ZqL hok hbn hN hT
 have HFR:=ZZ (ZsB m hm w h hok hbn hT (by omega))
 clear h hok hbn hrm hpw hub
 unfold ZcZ
 by_cases h0:d.power=0
 ·rw[if_pos h0]
  rw[if_pos h0,if_pos h0] at HF
  clear h0
  go_enter Tryz.func62,Tryz.ntmps62
  go_wp2_with fail
  refine HF.out.mono ?_
  rintro e w' ⟨rfl,rfl⟩
  go_wp2
  go_ret
  exact ZiO.same HD.out (by omega) zL
 rw[if_neg h0]
 rw[if_neg h0,if_neg h0] at HF
 clear h0
 cases ho:look (Zbo d) n with
 | none=>
  rw[ho] at HF
  dsimp only [Option.map_none,Option.isSome_none,Bool.false_eq_true,if_false,Ztx] at HF ⊢
  clear ho
  go_enter Tryz.func62,Tryz.ntmps62
  go_wp2_with fail
  refine HF.out.mono ?_
  rintro e w' ⟨rfl,rfl⟩
  go_wp2
  go_ret
  exact ZiO.same HD.out (by omega) zL
 | some f=>
  rw[ho] at HF
  dsimp only [Option.map_some,Option.isSome_some,if_true,Ztx] at HF ⊢
  have HLK:=ZZ ho
  have HMY:=ZZ (HOK.out.dir.mayOf ho)
  have HB:=ZZ (ZoP m w)
  clear ho hn hm
  cases hmn:ZiE m with
  | false=>
   rw[if_pos rfl]
   rw[hmn] at HB
   clear hmn
   go_enter Tryz.func62,Tryz.ntmps62
   go_wp2_with fail
   refine HF.out.mono ?_
   rintro e w' ⟨rfl,rfl⟩
   go_wp2_with fail
   refine HB.out.mono ?_
   rintro e w' ⟨rfl,rfl⟩
   go_wp2
   go_ret
   exact ZiO.same HD.out (by omega) zL
  | true=>
  rw[if_neg (by simp)]
  rw[hmn] at HB
  have HMM:=ZZ hmn
  clear hmn
  by_cases hnm:n=m
  ·rw[if_pos hnm]
   have hne:(n != m)=false:=by simpa using hnm
   clear hnm
   go_enter Tryz.func62,Tryz.ntmps62
   go_wp2_with fail
   refine HF.out.mono ?_
   rintro e w' ⟨rfl,rfl⟩
   go_wp2_with fail
   refine HB.out.mono ?_
   rintro e w' ⟨rfl,rfl⟩
   go_wp2_with fail
   refine(Zff _ H.out HI.out.2).mono ?_
   rintro e W4 ⟨rfl,hd4,hon4⟩
   go_wp2
   go_ret
   exact⟨rfl,F,⟨L,hd4.mono (by omega),HOK.out.power _,⟨by have:=HBN.out.files;show d.files.length<=_;omega,by have:=HBN.out.names;show d.kept.length+d.waits.length<=_;omega,HBN.out.bytes⟩,HI.out.1,Zgd HI.out.2⟩,hon4,fun _ hk=>.inl hk⟩
  rw[if_neg hnm]
  have hne:(n != m)=true:=by simpa using hnm
  have HNM:=ZZ hnm
  clear hnm
  go_enter Tryz.func62,Tryz.ntmps62
  go_wp2_with fail
  refine HF.out.mono ?_
  rintro e w' ⟨rfl,rfl⟩
  go_wp2_with fail
  refine HB.out.mono ?_
  rintro e w' ⟨rfl,rfl⟩
  go_wp2_with fail
  refine HFR.out.mono ?_
  rintro e W1 ⟨rfl,hd1,hon1⟩
  have HD1:=ZZ hd1
  have HON1:=ZZ hon1
  clear hd1 hon1
  go_wp2_with fail
  refine(ZvG n m (L.ps f) W1).mono ?_
  rintro e W2 ⟨rfl,hW2⟩
  have hb2:Below W1.heap.size W1 W2:=by rw[hW2];exact(((Below.refl _ _).alloc zL _).alloc (by simp) _).alloc (by simp;omega) _
  have hs2:W2.heap.size=W1.heap.size+1+1+1:=by rw[hW2];simp
  obtain⟨hc1,hc2,hc3⟩:=ZtF W1 (.cells #[.int .i64 n] 3) (.cells #[.int .i64 m] 3) (.cells #[ptr (L.ps f)] 116)
  rw[<-hW2] at hc1 hc2 hc3
  have HD2:=ZZ (HD1.out.more hb2)
  have HCV:Hid (ChV (Gr F W1 W2) W2 L.ps (.move n m f) (.func (.func 144) #[] #[ptr (W1.heap.size+1+1),ptr (W1.heap.size+1),ptr W1.heap.size])):=ZZ ⟨_,_,_,rfl,hc1,hc2,hc3,.inr ⟨Nat.le_refl _,by omega⟩,.inr ⟨by omega,by omega⟩,.inr ⟨by omega,by omega⟩⟩
  have HON2:Hid (Zas F w' W2):=ZZ (HON1.out.trans (G:=fun _=>False) (Zas.ofBelow hb2) (fun _ _ hf=>hf.elim))
  have HAP:=ZZ (Zkg W2 HD2.out HCV.out HOK.out ⟨HMY.out.1,HMM.out,HNM.out,HMY.out.2⟩ hN (by have:=HBN.out.names;omega))
  clear hb2 hs2 hc1 hc2 hc3 hW2
  go_wp2_with fail
  refine HAP.out.mono ?_
  rintro e W3 ⟨rfl,L3,hd3,-,-,hon3⟩
  have HON3:Hid (Zas F w' W3):=ZZ (HON2.out.trans hon3 (fun k hk hf=>by
   rcases hf with hf | hf
   ·exact hf
   ·have:=HON1.out.size;omega))
  have HD3:=ZZ hd3
  clear hd3 hon3 HAP
  go_wp2_with fail
  refine(Zff W3 HD3.out HI.out.2).mono ?_
  rintro e W4 ⟨rfl,hd4,hon4⟩
  go_wp2
  go_ret
  refine⟨rfl,Gr (Gr F W1 W2) W2 W3,⟨L3,?_,?_,(HBN.out.waited (.move n m f) _).mono (by omega) zL,HI.out.1,Zgd HI.out.2⟩,HON3.out.trans hon4 (fun k hk hf=>?_),fun k hk=>?_⟩
  ·have hu:=ZtC HOK.out HNM.out HLK.out (Zfx d.power)
   have e1:(ZcF { d with waits:=d.waits++[.move n m f],power:=Zfx d.power }:Int)=(ZcF d:Int)-(Ztz d.files (look (Zbo d) m):Int):=by omega
   rw[e1]
   exact hd4.mono (by omega)
  ·exact HOK.out.moved HLK.out HMM.out HNM.out _
  ·rcases hf with (hf | hf) | hf
   ·exact hf
   ·have:=HON1.out.size;omega
   ·have:=HON2.out.size;omega
  ·rcases hk with (hk | hk) | hk
   ·exact .inl hk
   ·have:=HON1.out.size;exact .inr (by omega)
   ·have:=HON2.out.size;exact .inr (by omega)
open Go.RowKit Go.ChangeShapes
theorem Zkk:Tryz.prog.cellsOf 3=1:=by kernel_rfl
theorem ZtH:Tryz.prog.cellsOf 23=1:=by kernel_rfl
theorem Zce {n:Int} (h:(Lit.int .i64 n).wf=true):I64 n:=by
 simpa[I64,Lit.wf,IntKind.min,IntKind.max,IntKind.signed,IntKind.bits] using h
section
variable {H:Type} {enc:TypeId × Value->H} {w:World} {base fuel:Nat} {held:Bool}
theorem Zyl {cs:List Value} {x:DataW H × List MemPlace} (h:DataW.trod enc Tryz.prog w base (fun _=>true) held fuel 23 cs=some x):∃ v l,cs=[v]∧RdI w v l:=by
 rcases open_ints Tryz.underlying23 Tryz.underlying3 (by kernel_rfl) h with ⟨hcs,_⟩ | ⟨y,l,c,zs,hcs,_,hl,hm,hz,_,hcell,hwz⟩
 ·exact⟨_,[],hcs,RdI.nil _⟩
 ·exact⟨_,_,hcs,RdI.ofRow hl hm (by simpa using hz) hcell hwz⟩
end
end Go.Proofs.YtfiffndhehkapaaGreatDoor
