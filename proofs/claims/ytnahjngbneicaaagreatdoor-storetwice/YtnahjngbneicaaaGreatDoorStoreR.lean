import Derived.Test.YtnahjngbneicaaaGreatDoorStoreQ
namespace Go.Proofs.YtnahjngbneicaaaGreatDoor
open _root_.Go.Proofs.Tryz
set_option maxRecDepth 100000
open Go.RowKit
variable {w w' wr:World} {b n o s:Nat} {t:TypeId} {pv rv v:Value} {xs:List Value} {cs:Array Value} {g:Lgb} {l:List Int}
structure ZBf (g:Lgb):Prop where
 f0:0<=g.first
 f1:g.first<=4611686018427387904
 rl:g.recs.length<=9000000
 pl:g.pcs.length<=900000
 st:∀ p ∈ g.pcs,0<=p.stop∧p.stop<=4611686018427387904
def ZcZ (d:Dk) (kind:Int) (l:List Int) (q:Nat):Lgb:=(l.take q).foldl (logOne d kind) ZeI
theorem ZiT (d:Dk) (kind:Int) (l:List Int) (q:Nat) (a:q<l.length):ZcZ d kind l (q+1)=logOne d kind (ZcZ d kind l q) (l.getD q 0):=by
 unfold ZcZ;rw[List.take_add_one,List.foldl_append,show l.getD q 0=l[q] by simp[List.getD,a]]
 simp[a]
theorem ZlO (d:Dk) (kind:Int) (l:List Int) (q:Nat) (a:q=l.length):ZcZ d kind l q=l.foldl (logOne d kind) ZeI:=by
 subst a;unfold ZcZ;rw[List.take_length]
def ZxZ (w:World) (g:Lgb) (e:Ending) (w':World):Prop:=
 ∃ rv pv,e=.returned (.agg #[.int .i64 g.first,rv,pv])∧Zbq w' w.heap.size rv g.recs∧w'.ownsRow w.heap.size 108 3 pv g.pcs.length (Zau g.pcs)∧Below w.heap.size w w'
theorem ZdT {base c:Nat} (h:w.ownsRow base t s v n xs) (e:∀ g,v.ownBlock=some g->c<=g):w.ownsRow c t s v n xs:=by
 obtain⟨d,a⟩:=h;refine⟨d,?_⟩;rcases a with a | ⟨g,cap,cur,b,f,r⟩
 ·exact .inl a
 ·exact .inr ⟨g,cap,cur,b,e g (by rw[b];rfl),r⟩
theorem ZvC {a:TypeId} {B:Nat} (h:Zlo t w b o cs rv pv g) (f:w.ownsRow B a s v n xs) (p:a≠t) (l:a≠62) (j:a≠108)
 (m:Zap (Zmv b rv pv) w w'):w'.ownsRow B a s v n xs:=Zae f fun k i=>by
 obtain⟨c,d⟩:=ZaR f i;refine m.block k d.lt fun hf=>?_
 rcases hf with hf | hf | hf
 ·subst hf
  exact(d.ne h.blk p) rfl
 ·obtain⟨c',e⟩:=ZaR h.recs hf
  exact(d.ne e l) rfl
 ·obtain⟨c',e⟩:=ZaR h.pcs hf
  exact(d.ne e j) rfl
theorem Zlo.ltF (h:Zlo t w b o cs rv pv g):∀ k,Zmv b rv pv k->k<w.heap.size:=fun k hk=>by
 rcases hk with hk | hk | hk
 ·subst hk;exact h.blk.lt
 ·obtain⟨c',a⟩:=ZaR h.recs hk
  exact a.lt
 ·obtain⟨c',a⟩:=ZaR h.pcs hk
  exact a.lt
structure ZiU (w W0:World) (v:Value) (l:List Int) (rv pv:Value) (g:Lgb) (wr:World):Prop where
 log:Zlo 73 wr (w.heap.size+1) 0 #[.int .i64 g.first,rv,pv] rv pv g
 far:∀ k,Zmv (w.heap.size+1) rv pv k->w.heap.size+1<=k
 out:Bk 73 wr w.heap.size #[.int .i64 0,.slice none 0 0,.slice none 0 0]
 row:ZaB wr W0.heap.size v l
 old:Below w.heap.size w wr
theorem ZiU.below {b:World} (h:ZiU w b v l rv pv g wr) (a:Below wr.heap.size wr w'):ZiU w b v l rv pv g w':=
 ⟨h.log.below a,h.far,h.out.keep (a.block _ h.out.lt),h.row.below a zL,h.old.trans (a.mono h.old.size)⟩
theorem ZiU.did {d:World} {g':Lgb} (h:ZiU w d v l rv pv g wr) (e:ZhS 73 wr (w.heap.size+1) 0 #[.int .i64 g.first,rv,pv] rv pv g' w'):
 ∃ c b,ZiU w d v l c b g' w'∧Zap (Zmv (w.heap.size+1) rv pv) wr w':=by
 obtain⟨c,b,i,a,f⟩:=e;have j:w.heap.size+1<wr.heap.size:=h.log.blk.lt;refine⟨c,b,⟨i,fun k hk=>?_,h.out.keep (a.block _ h.out.lt fun hk=>?_),ZvC h.log h.row (by decide) (by decide) (by decide) a,h.old.trans (a.below (by omega) fun k hk=>?_)⟩,a⟩
 ·rcases f k hk with hk | hk
  ·exact h.far k hk
  ·omega
 ·have:=h.far _ hk
  omega
 ·have:=h.far _ hk
  omega
end Go.Proofs.YtnahjngbneicaaaGreatDoor
