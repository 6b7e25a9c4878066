import Derived.Test.YtnahjngbneicaaaGreatDoorStoreQ
namespace Go.Proofs.YtnahjngbneicaaaGreatDoor
set_option maxRecDepth 100000
open Go.RowKit
structure ZxZ (g:Lgb):Prop where
 f0:0<=g.first
 f1:g.first<=4611686018427387904
 rl:g.recs.length<=9000000
 pl:g.pcs.length<=900000
 st:∀ p ∈ g.pcs,0<=p.stop∧p.stop<=4611686018427387904
def Zct (d:Dk) (kind:Int) (l:List Int) (q:Nat):Lgb:=(l.take q).foldl (logOne d kind) ZdZ
theorem ZhF (d:Dk) (kind:Int) (l:List Int) (q:Nat) (hq:q<l.length):Zct d kind l (q+1)=logOne d kind (Zct d kind l q) (l.getD q 0):=by
 unfold Zct
 rw[List.take_add_one,List.foldl_append,show l.getD q 0=l[q] by simp[List.getD,hq]]
 simp[hq]
theorem Zkg (d:Dk) (kind:Int) (l:List Int) (q:Nat) (hq:q=l.length):Zct d kind l q=l.foldl (logOne d kind) ZdZ:=by
 subst hq
 unfold Zct
 rw[List.take_length]
def Zva (w:World) (g:Lgb) (e:Ending) (w':World):Prop:=
 ∃ rv pv,e=.returned (.agg #[.int .i64 g.first,rv,pv])∧Zbp w' w.heap.size rv g.recs∧w'.ownsRow w.heap.size 108 3 pv g.pcs.length (ZaB g.pcs)∧Below w.heap.size w w'
theorem ZeG {w:World} {base base' n s:Nat} {t:TypeId} {v:Value} {xs:List Value} (h:w.ownsRow base t s v n xs) (hk:∀ g,v.ownBlock=some g->base'<=g):w.ownsRow base' t s v n xs:=by
 obtain⟨h1,h2⟩:=h
 refine⟨h1,?_⟩
 rcases h2 with h2 | ⟨g,cap,cur,hv,hbg,r⟩
 ·exact .inl h2
 ·exact .inr ⟨g,cap,cur,hv,hk g (by rw[hv];rfl),r⟩
theorem ZsG {t t':TypeId} {w w':World} {b o B n s:Nat} {cs:Array Value} {rv pv v:Value} {g:Lgb} {xs:List Value} (h:Zml t w b o cs rv pv g) (hr:w.ownsRow B t' s v n xs) (h1:t'≠t) (h2:t'≠62) (h3:t'≠108)
 (ho:ZaE (ZnK b rv pv) w w'):w'.ownsRow B t' s v n xs:=Zah hr fun k hk=>by
 obtain⟨c,hb⟩:=Zbv hr hk
 refine ho.block k hb.lt fun hf=>?_
 rcases hf with hf | hf | hf
 ·subst hf
  exact(hb.ne h.blk h1) rfl
 ·obtain⟨c',hb'⟩:=Zbv h.recs hf
  exact(hb.ne hb' h2) rfl
 ·obtain⟨c',hb'⟩:=Zbv h.pcs hf
  exact(hb.ne hb' h3) rfl
theorem Zml.ltF {t:TypeId} {w:World} {b o:Nat} {cs:Array Value} {rv pv:Value} {g:Lgb} (h:Zml t w b o cs rv pv g):∀ k,ZnK b rv pv k->k<w.heap.size:=fun k hk=>by
 rcases hk with hk | hk | hk
 ·subst hk;exact h.blk.lt
 ·obtain⟨c',hb'⟩:=Zbv h.recs hk
  exact hb'.lt
 ·obtain⟨c',hb'⟩:=Zbv h.pcs hk
  exact hb'.lt
structure ZhG (w W0:World) (v:Value) (l:List Int) (rv pv:Value) (g:Lgb) (wr:World):Prop where
 log:Zml 73 wr (w.heap.size+1) 0 #[.int .i64 g.first,rv,pv] rv pv g
 far:∀ k,ZnK (w.heap.size+1) rv pv k->w.heap.size+1<=k
 out:Bk 73 wr w.heap.size #[.int .i64 0,.slice none 0 0,.slice none 0 0]
 row:Zax wr W0.heap.size v l
 old:Below w.heap.size w wr
theorem ZhG.below {w W0:World} {v:Value} {l:List Int} {rv pv:Value} {g:Lgb} {wr w':World} (h:ZhG w W0 v l rv pv g wr) (hb:Below wr.heap.size wr w'):ZhG w W0 v l rv pv g w':=
 ⟨h.log.below hb,h.far,h.out.keep (hb.block _ h.out.lt),h.row.below hb zL,h.old.trans (hb.mono h.old.size)⟩
theorem ZhG.did {w W0:World} {v:Value} {l:List Int} {rv pv:Value} {g g':Lgb} {wr w':World} (h:ZhG w W0 v l rv pv g wr) (hd:ZgJ 73 wr (w.heap.size+1) 0 #[.int .i64 g.first,rv,pv] rv pv g' w'):
 ∃ rv' pv',ZhG w W0 v l rv' pv' g' w'∧ZaE (ZnK (w.heap.size+1) rv pv) wr w':=by
 obtain⟨rv',pv',hm,ho,hf⟩:=hd
 have hs:w.heap.size+1<wr.heap.size:=h.log.blk.lt
 refine⟨rv',pv',⟨hm,fun k hk=>?_,h.out.keep (ho.block _ h.out.lt fun hk=>?_),ZsG h.log h.row (by decide) (by decide) (by decide) ho,h.old.trans (ho.below (by omega) fun k hk=>?_)⟩,ho⟩
 ·rcases hf k hk with hk | hk
  ·exact h.far k hk
  ·omega
 ·have:=h.far _ hk
  omega
 ·have:=h.far _ hk
  omega
end Go.Proofs.YtnahjngbneicaaaGreatDoor
