/- Contract of block: takeRecord. -/
import Derived.Test.YtgmdhlchdjlgnabBlockTakeB
namespace Go.Proofs.Ytgmdhlchdjlgnab
open Go.RowKit

theorem Br.set {w : World} {b : Nat} {cs : Array Value} (h : Br w b cs) (j : Nat) (x : Value) : Br (w.setCell ⟨b, j, none⟩ x) b (cs.setIfInBounds j x) := by
  have := heap_setCell_same w b j _ _ x h
  unfold Br
  simpa using this

/-- Where takeRecord stands: its box, what is left, and all below as it was. -/
structure TIn (w W : World) (cs : Array Value) (v : Value) (m : List UInt8) : Prop where
  box : Br W w.heap.size cs
  rd : Rd W v m
  below : Below w.heap.size w W

theorem TIn.next {w W W' : World} {cs : Array Value} {v v' : Value} {m m' : List UInt8} (h : TIn w W cs v m) (hb : Below W.heap.size W W') (hr : Rd W' v' m') : TIn w W' cs v' m' :=
  ⟨h.box.below hb (Nat.le_refl _), hr, h.below.trans (hb.mono h.below.size)⟩

theorem TIn.set {w W : World} {cs : Array Value} {v : Value} {m : List UInt8} (h : TIn w W cs v m) (j : Nat) {n : Int} (hn : cs[j]? = some (.int .i64 n)) (x : Value) : TIn w (W.setCell ⟨w.heap.size, j, none⟩ x) (cs.setIfInBounds j x) v m :=
  ⟨h.box.set j x, h.rd.setInt ((h.box.cell j).1.trans hn), h.below.setCell (Nat.le_refl _) _⟩

end Go.Proofs.Ytgmdhlchdjlgnab
