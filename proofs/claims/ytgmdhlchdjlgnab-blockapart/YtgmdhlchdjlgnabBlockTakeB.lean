/- Contracts of block: take. -/
import Derived.Test.YtgmdhlchdjlgnabBlockTake
import Derived.BigRegion
namespace Go.Proofs.Ytgmdhlchdjlgnab
open Go.RowKit

theorem Bo.set {w : World} {b : Nat} {cs : Array Value} (h : Bo w b cs) (j : Nat) (x : Value) : Bo (w.setCell ⟨b, j, none⟩ x) b (cs.setIfInBounds j x) := by
  have := heap_setCell_same w b j _ _ x h
  unfold Bo
  simpa using this

theorem Bo.three {w : World} {b : Nat} {a0 a1 a2 : Value} (h : Bo w b #[a0, a1, a2]) (x y z : Value) : Bo (((w.setCell ⟨b, 0, none⟩ x).setCell ⟨b, 1, none⟩ y).setCell ⟨b, 2, none⟩ z) b #[x, y, z] := by
  have h3 := ((h.set 0 x).set 1 y).set 2 z
  exact h3

theorem size_three (w : World) (p q r : Addr) (x y z : Value) : (((w.setCell p x).setCell q y).setCell r z).heap.size = w.heap.size := by simp [World.setCell]

end Go.Proofs.Ytgmdhlchdjlgnab
