/- The reader of the landed codec: numbers, and the two closures that it answers. -/
import Derived.Test.YtgpdbboieokldaaGreatPack3
import Derived.Test.YtgpdbboieokldaaGreatPack1
import Derived.Test.YtgpdbboieokldaaGreatPack2
namespace Go.Proofs.YtgpdbboieokldaaGreat
open Go.RowKit

/-- A box that holds one slice of bytes. -/
def Bb (w : World) (b : Nat) (v : Value) : Prop := w.heap[b]? = some (.cells #[v] 26 (0, 0))

theorem Bb.lt {w : World} {b : Nat} {v : Value} (h : Bb w b v) : b < w.heap.size := (Array.getElem?_eq_some_iff.1 h).1

theorem Bb.cell {w : World} {b : Nat} {v : Value} (h : Bb w b v) : w.cell? ⟨b, 0, none⟩ = some v ∧ w.frozen? ⟨b, 0, none⟩ = false :=
  ⟨(cell_of_row w b 0 _ _ _ h).trans rfl, frozen_of_row w b 0 _ _ h⟩

theorem Bb.set {w : World} {b : Nat} {v : Value} (h : Bb w b v) (x : Value) : Bb (w.setCell ⟨b, 0, none⟩ x) b x := by
  have := heap_setCell_same w b 0 _ _ x h
  unfold Bb
  simpa using this

/-- What is read stays while a box of a slice is written. -/
theorem Rd.setBox {w : World} {v x : Value} {m : List UInt8} (h : Rd w v m) {b : Nat} {ao : Option Addr} {n cap : Nat} (hb : w.cell? ⟨b, 0, none⟩ = some (.slice ao n cap)) : Rd (w.setCell ⟨b, 0, none⟩ x) v m := by
  obtain ⟨va, vc, h1, h2, h3, hn, h4⟩ := h
  refine ⟨va, vc, h1, h2, h3, hn, ?_⟩
  rcases h4 with h4 | ⟨c, off, h5, h6⟩
  · exact .inl h4
  · refine .inr ⟨c, off, h5, fun j hj => ?_⟩
    have hc := h6 j hj
    rw [World.cell?_setCell_other w ⟨b, 0, none⟩ ⟨c, off + j, none⟩ x (fun e => by
      rw [e, hc] at hb
      cases hb)]
    exact hc

/-- What is left behind a number of d bytes; nothing, if there is none. -/
def behind (d : Nat) (m : List UInt8) : List UInt8 := if d = 0 then [] else m.drop d

end Go.Proofs.YtgpdbboieokldaaGreat
