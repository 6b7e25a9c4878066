import Derived.Test.YtfiffndhehkapaaGreatDoorStoreQ
namespace Go.Proofs.YtfiffndhehkapaaGreatDoor
set_option maxRecDepth 100000
open Go.RowKit
structure ZAm (g:Lgb):Prop where
 f0:0<=g.first
 f1:g.first<=4611686018427387904
 rl:g.recs.length<=9000000
 pl:g.pcs.length<=900000
 st:∀ p ∈ g.pcs,0<=p.stop∧p.stop<=4611686018427387904
def ZcR (d:Dk) (kind:Int) (l:List Int) (q:Nat):Lgb:=(l.take q).foldl (logOne d kind) ZeA
theorem Zix (d:Dk) (kind:Int) (l:List Int) (q:Nat) (hq:q<l.length):ZcR d kind l (q+1)=logOne d kind (ZcR d kind l q) (l.getD q 0):=by
 unfold ZcR
 rw[List.take_add_one,List.foldl_append,show l.getD q 0=l[q] by simp[List.getD,hq]]
 simp[hq]
theorem Zln (d:Dk) (kind:Int) (l:List Int) (q:Nat) (hq:q=l.length):ZcR d kind l q=l.foldl (logOne d kind) ZeA:=by
 subst hq
 unfold ZcR
 rw[List.take_length]
def Zxb (w:World) (g:Lgb) (e:Ending) (w':World):Prop:=
 ∃ rv pv,e=.returned (.agg #[.int .i64 g.first,rv,pv])∧Zbm w' w.heap.size rv g.recs∧w'.ownsRow w.heap.size 109 3 pv g.pcs.length (Zau g.pcs)∧Below w.heap.size w w'
theorem ZdN {w:World} {base base' n s:Nat} {t:TypeId} {v:Value} {xs:List Value} (h:w.ownsRow base t s v n xs) (hk:∀ g,v.ownBlock=some g->base'<=g):w.ownsRow base' t s v n xs:=by
 obtain⟨h1,h2⟩:=h
 refine⟨h1,?_⟩
 rcases h2 with h2 | ⟨g,cap,cur,hv,hbg,r⟩
 ·exact .inl h2
 ·exact .inr ⟨g,cap,cur,hv,hk g (by rw[hv];rfl),r⟩
theorem ZuK {t t':TypeId} {w w':World} {b o B n s:Nat} {cs:Array Value} {rv pv v:Value} {g:Lgb} {xs:List Value} (h:ZkN t w b o cs rv pv g) (hr:w.ownsRow B t' s v n xs) (h1:t'≠t) (h2:t'≠63) (h3:t'≠109)
 (ho:Zas (ZlT b rv pv) w w'):w'.ownsRow B t' s v n xs:=Zaf hr fun k hk=>by
 obtain⟨c,hb⟩:=ZaO hr hk
 refine ho.block k hb.lt fun hf=>?_
 rcases hf with hf | hf | hf
 ·subst hf
  exact(hb.ne h.blk h1) rfl
 ·obtain⟨c',hb'⟩:=ZaO h.recs hf
  exact(hb.ne hb' h2) rfl
 ·obtain⟨c',hb'⟩:=ZaO h.pcs hf
  exact(hb.ne hb' h3) rfl
theorem ZkN.ltF {t:TypeId} {w:World} {b o:Nat} {cs:Array Value} {rv pv:Value} {g:Lgb} (h:ZkN t w b o cs rv pv g):∀ k,ZlT b rv pv k->k<w.heap.size:=fun k hk=>by
 rcases hk with hk | hk | hk
 ·subst hk;exact h.blk.lt
 ·obtain⟨c',hb'⟩:=ZaO h.recs hk
  exact hb'.lt
 ·obtain⟨c',hb'⟩:=ZaO h.pcs hk
  exact hb'.lt
structure Ziy (w W0:World) (v:Value) (l:List Int) (rv pv:Value) (g:Lgb) (wr:World):Prop where
 log:ZkN 74 wr (w.heap.size+1) 0 #[.int .i64 g.first,rv,pv] rv pv g
 far:∀ k,ZlT (w.heap.size+1) rv pv k->w.heap.size+1<=k
 out:Bk 74 wr w.heap.size #[.int .i64 0,.slice none 0 0,.slice none 0 0]
 row:ZaA wr W0.heap.size v l
 old:Below w.heap.size w wr
theorem Ziy.below {w W0:World} {v:Value} {l:List Int} {rv pv:Value} {g:Lgb} {wr w':World} (h:Ziy w W0 v l rv pv g wr) (hb:Below wr.heap.size wr w'):Ziy w W0 v l rv pv g w':=
 ⟨h.log.below hb,h.far,h.out.keep (hb.block _ h.out.lt),h.row.below hb zL,h.old.trans (hb.mono h.old.size)⟩
theorem Ziy.did {w W0:World} {v:Value} {l:List Int} {rv pv:Value} {g g':Lgb} {wr w':World} (h:Ziy w W0 v l rv pv g wr) (hd:ZhC 74 wr (w.heap.size+1) 0 #[.int .i64 g.first,rv,pv] rv pv g' w'):
 ∃ rv' pv',Ziy w W0 v l rv' pv' g' w'∧Zas (ZlT (w.heap.size+1) rv pv) wr w':=by
 obtain⟨rv',pv',hm,ho,hf⟩:=hd
 have hs:w.heap.size+1<wr.heap.size:=h.log.blk.lt
 refine⟨rv',pv',⟨hm,fun k hk=>?_,h.out.keep (ho.block _ h.out.lt fun hk=>?_),ZuK h.log h.row (by decide) (by decide) (by decide) ho,h.old.trans (ho.below (by omega) fun k hk=>?_)⟩,ho⟩
 ·rcases hf k hk with hk | hk
  ·exact h.far k hk
  ·omega
 ·have:=h.far _ hk
  omega
 ·have:=h.far _ hk
  omega
end Go.Proofs.YtfiffndhehkapaaGreatDoor
