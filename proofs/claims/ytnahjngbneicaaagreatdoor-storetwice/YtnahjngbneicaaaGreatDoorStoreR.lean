import Derived.Test.YtnahjngbneicaaaGreatDoorStoreQ
namespace Go.Proofs.YtnahjngbneicaaaGreatDoor
open _root_.Go.Proofs.Tryz
set_option maxRecDepth 100000
open Go.RowKit
structure ZBf (g:Lgb):Prop where
 f0:0<=g.first
 f1:g.first<=4611686018427387904
 rl:g.recs.length<=9000000
 pl:g.pcs.length<=900000
 st:∀ p ∈ g.pcs,0<=p.stop∧p.stop<=4611686018427387904
def ZcZ (d:Dk) (kind:Int) (l:List Int) (q:Nat):Lgb:=(l.take q).foldl (logOne d kind) ZeI
theorem ZiT (d:Dk) (kind:Int) (l:List Int) (q:Nat) (a:q<l.length):ZcZ d kind l (q+1)=logOne d kind (ZcZ d kind l q) (l.getD q 0):=by
 unfold ZcZ;rw[List.take_add_one,List.foldl_append,show l.getD q 0=l[q] by simp[List.getD,a]]
 simp[a]
theorem ZlO (d:Dk) (kind:Int) (l:List Int) (q:Nat) (a:q=l.length):ZcZ d kind l q=l.foldl (logOne d kind) ZeI:=by
 subst a;unfold ZcZ;rw[List.take_length]
def ZxZ (w:World) (g:Lgb) (e:Ending) (w':World):Prop:=
 ∃ rv pv,e=.returned (.agg #[.int .i64 g.first,rv,pv])∧Zbq w' w.heap.size rv g.recs∧w'.ownsRow w.heap.size 108 3 pv g.pcs.length (Zau g.pcs)∧Below w.heap.size w w'
theorem ZdT {w:World} {base b n s:Nat} {t:TypeId} {v:Value} {xs:List Value} (h:w.ownsRow base t s v n xs) (c:∀ g,v.ownBlock=some g->b<=g):w.ownsRow b t s v n xs:=by
 obtain⟨d,a⟩:=h;refine⟨d,?_⟩;rcases a with a | ⟨g,cap,cur,hv,hbg,r⟩
 ·exact .inl a
 ·exact .inr ⟨g,cap,cur,hv,c g (by rw[hv];rfl),r⟩
theorem ZvC {t a:TypeId} {w w':World} {b o B n s:Nat} {cs:Array Value} {rv pv v:Value} {g:Lgb} {xs:List Value} (h:Zlo t w b o cs rv pv g) (f:w.ownsRow B a s v n xs) (i:a≠t) (m:a≠62) (l:a≠108)
 (j:Zap (Zmv b rv pv) w w'):w'.ownsRow B a s v n xs:=Zae f fun k p=>by
 obtain⟨c,d⟩:=ZaR f p;refine j.block k d.lt fun hf=>?_
 rcases hf with hf | hf | hf
 ·subst hf
  exact(d.ne h.blk i) rfl
 ·obtain⟨c',e⟩:=ZaR h.recs hf
  exact(d.ne e m) rfl
 ·obtain⟨c',e⟩:=ZaR h.pcs hf
  exact(d.ne e l) rfl
theorem Zlo.ltF {t:TypeId} {w:World} {b o:Nat} {cs:Array Value} {rv pv:Value} {g:Lgb} (h:Zlo t w b o cs rv pv g):∀ k,Zmv b rv pv k->k<w.heap.size:=fun k hk=>by
 rcases hk with hk | hk | hk
 ·subst hk;exact h.blk.lt
 ·obtain⟨c',a⟩:=ZaR h.recs hk
  exact a.lt
 ·obtain⟨c',a⟩:=ZaR h.pcs hk
  exact a.lt
structure ZiU (w W0:World) (v:Value) (l:List Int) (rv pv:Value) (g:Lgb) (wr:World):Prop where
 log:Zlo 73 wr (w.heap.size+1) 0 #[.int .i64 g.first,rv,pv] rv pv g
 far:∀ k,Zmv (w.heap.size+1) rv pv k->w.heap.size+1<=k
 out:Bk 73 wr w.heap.size #[.int .i64 0,.slice none 0 0,.slice none 0 0]
 row:ZaB wr W0.heap.size v l
 old:Below w.heap.size w wr
theorem ZiU.below {w c:World} {v:Value} {l:List Int} {rv pv:Value} {g:Lgb} {b w':World} (h:ZiU w c v l rv pv g b) (a:Below b.heap.size b w'):ZiU w c v l rv pv g w':=
 ⟨h.log.below a,h.far,h.o.keep (a.block _ h.o.lt),h.row.below a zL,h.old.trans (a.mono h.old.size)⟩
theorem ZiU.did {w e:World} {v:Value} {l:List Int} {rv pv:Value} {g g':Lgb} {b w':World} (h:ZiU w e v l rv pv g b) (j:ZhS 73 b (w.heap.size+1) 0 #[.int .i64 g.first,rv,pv] rv pv g' w'):
 ∃ c d,ZiU w e v l c d g' w'∧Zap (Zmv (w.heap.size+1) rv pv) b w':=by
 obtain⟨c,d,f,a,i⟩:=j;have m:w.heap.size+1<b.heap.size:=h.log.blk.lt;refine⟨c,d,⟨f,fun k hk=>?_,h.o.keep (a.block _ h.o.lt fun hk=>?_),ZvC h.log h.row (by decide) (by decide) (by decide) a,h.old.trans (a.below (by omega) fun k hk=>?_)⟩,a⟩
 ·rcases i k hk with hk | hk
  ·exact h.far k hk
  ·omega
 ·have:=h.far _ hk
  omega
 ·have:=h.far _ hk
  omega
end Go.Proofs.YtnahjngbneicaaaGreatDoor
