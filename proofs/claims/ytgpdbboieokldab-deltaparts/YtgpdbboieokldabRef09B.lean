/- Contracts of ferrymanref09: May, Same. -/
import Derived.Test.YtgpdbboieokldabRef09A
import Derived.Test.YtgpdbboieokldabEntEq
namespace Go.Proofs.Ytgpdbboieokldab
open Go.RowKit

/-- A box of a snapshot. -/
def Bn (w : World) (b : Nat) (cs : Array Value) : Prop := w.heap[b]? = some (.cells cs 27 (0, 0))

theorem Bn.lt {w : World} {b : Nat} {cs : Array Value} (h : Bn w b cs) : b < w.heap.size := (Array.getElem?_eq_some_iff.1 h).1

theorem Bn.below {w w' : World} {b B : Nat} {cs : Array Value} (h : Bn w b cs) (hb : Below B w w') (hB : w.heap.size ≤ B) : Bn w' b cs := (hb.block b (by have := h.lt; omega)).trans h

theorem Bn.cell {w : World} {b : Nat} {cs : Array Value} (h : Bn w b cs) (j : Nat) : w.cell? ⟨b, j, none⟩ = cs[j]? ∧ w.frozen? ⟨b, j, none⟩ = false := ⟨cell_of_row w b j _ _ _ h, frozen_of_row w b j _ _ h⟩

theorem mayN_parts (s : Snap) : MayN s ↔ MayS s.st ∧ TabOk s.tab ∧ 0 ≤ s.idx ∧ s.idx < 4611686018427387904 := by
  unfold MayN
  constructor
  · rintro ⟨⟨h1, h2⟩, h3, h4⟩
    exact ⟨h3, h4, h1, h2⟩
  · rintro ⟨h3, h4, h1, h2⟩
    exact ⟨⟨h1, h2⟩, h3, h4⟩

theorem new_two (w : World) (X Y : Obj) : ((w.alloc X).alloc Y).heap[w.heap.size + 1]? = some Y := by
  have h := heap_alloc_new (w.alloc X) Y
  have e : (w.alloc X).heap.size = w.heap.size + 1 := by simp
  rw [e] at h
  exact h

/-- Are two snapshots the same? -/
def SameN (a b : Snap) : Prop := SameS a.st b.st ∧ a.idx = b.idx ∧ a.tab = b.tab

instance (a b : Snap) : Decidable (SameN a b) := by unfold SameN; infer_instance

theorem takeE_snoc {l : List Ent} {q : Nat} (h : q < l.length) : l.take (q + 1) = l.take q ++ [l.getD q zeroE] := by
  rw [List.take_add_one]
  simp [List.getD, h]

end Go.Proofs.Ytgpdbboieokldab
