import Derived.Test.YtnahjngbneicaaaGreatDoorStoreQ
namespace Go.Proofs.YtnahjngbneicaaaGreatDoor
open _root_.Go.Proofs.Tryz
set_option maxRecDepth 100000
open Go.RowKit
variable {w w' wr:World} {b n o s:Nat} {t:TypeId} {pv rv v:Value} {xs:List Value} {cs:Array Value} {g:Lgb} {l:List Int}
structure ZxP (g:Lgb):Prop where
 f0:0<=g.first
 f1:g.first<=4611686018427387904
 rl:g.recs.length<=9000000
 pl:g.pcs.length<=900000
 st:∀ p ∈ g.pcs,0<=p.stop∧p.stop<=4611686018427387904
def Zt (d:Dk) (kind:Int) (l:List Int) (q:Nat):Lgb:=(l.take q).foldl (logOne d kind) Zbv
theorem ZfD (d:Dk) (kind:Int) (l:List Int) (q:Nat) (a:q<l.length):Zt d kind l (q+1)=logOne d kind (Zt d kind l q) (l.getD q 0):=by
 unfold Zt;rw[List.take_add_one,List.foldl_append,show l.getD q 0=l[q] by simp[List.getD,a]]
 simp[a]
theorem Ziy (d:Dk) (kind:Int) (l:List Int) (q:Nat) (a:q=l.length):Zt d kind l q=l.foldl (logOne d kind) Zbv:=by
 subst a;unfold Zt;rw[List.take_length]
def ZuJ (w:World) (g:Lgb) (e:Ending) (w':World):Prop:=
 ∃ rv pv,e=.returned (.agg #[.int .i64 g.first,rv,pv])∧Q9 w' w.heap.size rv g.recs∧w'.ownsRow w.heap.size 108 3 pv g.pcs.length (Qx g.pcs)∧Below w.heap.size w w'
theorem ZaL {base:Nat} (h:w.ownsRow base t s v n xs) (e:∀ g,v.ownBlock=some g->b<=g):w.ownsRow b t s v n xs:=by
 obtain⟨d,a⟩:=h;refine⟨d,?_⟩;rcases a with a | ⟨g,cap,cur,c,f,r⟩
 ·exact .inl a
 ·exact .inr ⟨g,cap,cur,c,e g (by rw[c];rfl),r⟩
theorem Zsm {a:TypeId} {B:Nat} (h:ZhY t w b o cs rv pv g) (f:w.ownsRow B a s v n xs) (l:a≠t) (i:a≠62) (m:a≠108)
 (p:Qj (Zjf b rv pv) w w'):w'.ownsRow B a s v n xs:=Qh f fun k j=>by
 obtain⟨c,d⟩:=Xm f j;refine p.block k d.lt fun hf=>?_
 rcases hf with hf | hf | hf
 ·subst hf
  exact(d.ne h.blk l) rfl
 ·obtain⟨c',e⟩:=Xm h.recs hf
  exact(d.ne e i) rfl
 ·obtain⟨c',e⟩:=Xm h.pcs hf
  exact(d.ne e m) rfl
theorem ZhY.ltF (h:ZhY t w b o cs rv pv g):∀ k,Zjf b rv pv k->k<w.heap.size:=fun k hk=>by
 rcases hk with hk | hk | hk
 ·subst hk;exact h.blk.lt
 ·obtain⟨c',a⟩:=Xm h.recs hk
  exact a.lt
 ·obtain⟨c',a⟩:=Xm h.pcs hk
  exact a.lt
structure ZfE (w W0:World) (v:Value) (l:List Int) (rv pv:Value) (g:Lgb) (wr:World):Prop where
 log:ZhY 73 wr (w.heap.size+1) 0 #[.int .i64 g.first,rv,pv] rv pv g
 far:∀ k,Zjf (w.heap.size+1) rv pv k->w.heap.size+1<=k
 out:Bk 73 wr w.heap.size #[.int .i64 0,.slice none 0 0,.slice none 0 0]
 row:Qo wr W0.heap.size v l
 old:Below w.heap.size w wr
theorem ZfE.below {b:World} (h:ZfE w b v l rv pv g wr) (a:Below wr.heap.size wr w'):ZfE w b v l rv pv g w':=
 ⟨h.log.below a,h.far,h.out.keep (a.block _ h.out.lt),h.row.below a zL,h.old.trans (a.mono h.old.size)⟩
theorem ZfE.did {d:World} {g':Lgb} (h:ZfE w d v l rv pv g wr) (i:ZeC 73 wr (w.heap.size+1) 0 #[.int .i64 g.first,rv,pv] rv pv g' w'):
 ∃ b c,ZfE w d v l b c g' w'∧Qj (Zjf (w.heap.size+1) rv pv) wr w':=by
 obtain⟨b,c,e,a,f⟩:=i;have j:w.heap.size+1<wr.heap.size:=h.log.blk.lt;refine⟨b,c,⟨e,fun k hk=>?_,h.out.keep (a.block _ h.out.lt fun hk=>?_),Zsm h.log h.row (by decide) (by decide) (by decide) a,h.old.trans (a.below (by omega) fun k hk=>?_)⟩,a⟩
 ·rcases f k hk with hk | hk
  ·exact h.far k hk
  ·omega
 ·have:=h.far _ hk
  omega
 ·have:=h.far _ hk
  omega
end Go.Proofs.YtnahjngbneicaaaGreatDoor
