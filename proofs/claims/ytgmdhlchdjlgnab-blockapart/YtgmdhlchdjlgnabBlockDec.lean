/- Contract of block: Decode. -/
import Derived.Test.YtgmdhlchdjlgnabBlockRow
import Derived.Test.YtgmdhlchdjlgnabBlockTakeC
import Derived.Test.YtgmdhlchdjlgnabBlockFits
import Derived.Test.YtgmdhlchdjlgnabBlockEncB
namespace Go.Proofs.Ytgmdhlchdjlgnab
open Go.RowKit

/-- Where Decode's loop stands. -/
structure DIB (w wr : World) (b : List UInt8) (first count g B : Nat) (L : List Rec) (vl : Value) (m : List UInt8) (t : Bool) : Prop where
  row : RowX wr g (L ++ List.replicate (count - L.length) zeroR)
  map : MapI wr B L.length (lastSeq L)
  rd : Rd wr vl m
  le : m.length ≤ b.length
  read : ReadB b first count L m t
  below : Below w.heap.size w wr

theorem recCells_kind (L : List Rec) : ∀ u ∈ recCells L, ∃ n, u = Value.int .i64 n := by
  induction L with
  | nil => intro u hu; simp [recCells] at hu
  | cons r t ih =>
    intro u hu
    rw [recCells] at hu
    rcases List.mem_append.1 hu with h | h
    · simp [recC] at h
      rcases h with rfl | rfl | rfl | rfl | rfl | rfl | rfl <;> exact ⟨_, rfl⟩
    · exact ih u h

/-- What is read stays while a row of records is written. -/
theorem Rd.row {w w' : World} {v : Value} {m : List UInt8} (h : Rd w v m) {g : Nat} {L : List Rec} (hrow : RowX w g L) (hk : But g g w w') : Rd w' v m := by
  obtain ⟨va, vc, h1, h2, h3, hn, h4⟩ := h
  refine ⟨va, vc, h1, h2, h3, hn, ?_⟩
  rcases h4 with h4 | ⟨c, off, h5, h6⟩
  · exact .inl h4
  · refine .inr ⟨c, off, h5, fun j hj => ?_⟩
    have hc := h6 j hj
    by_cases e : c = g
    · rw [e, (hrow.cell _).1] at hc
      obtain ⟨n, hn⟩ := recCells_kind L _ (List.mem_of_getElem? hc)
      cases hn
    · have hlt : c < w.heap.size := World.block_lt_of_cell? w ⟨c, off + j, none⟩ hc
      rw [World.cell?_of_block (a := ⟨c, off + j, none⟩) (hk.block c hlt e e)]
      exact hc

theorem MapI.row {w w' : World} {b n : Nat} {f : Int → Int} (h : MapI w b n f) {g : Nat} {L : List Rec} (hrow : RowX w g L) (hk : But g g w w') : MapI w' b n f := by
  have hne : b ≠ g := fun e => h.apart hrow e.symm
  exact h.keep (hk.block b h.lt hne hne)

theorem set_pad (L : List Rec) (count : Nat) (hlt : L.length < count) (r : Rec) : (L ++ List.replicate (count - L.length) zeroR).set L.length r = (L ++ [r]) ++ List.replicate (count - (L ++ [r]).length) zeroR := by
  have e : count - L.length = (count - (L ++ [r]).length) + 1 := by simp; omega
  rw [e, List.replicate_succ, List.set_append_right _ _ (Nat.le_refl _), Nat.sub_self]
  simp

end Go.Proofs.Ytgmdhlchdjlgnab
