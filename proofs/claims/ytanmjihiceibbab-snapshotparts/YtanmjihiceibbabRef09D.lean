/- Contract of ferrymanref09: Encode. -/
import Derived.Test.YtanmjihiceibbabRef09C
import Derived.Test.YtanmjihiceibbabRef03Enc
import Derived.Test.YtanmjihiceibbabPack2
namespace Go.Proofs.Ytanmjihiceibbab
open Go.RowKit

/-- What is encoded: the bytes, or none and ErrArg. -/
def EncodedN (w : World) (s : Snap) (e : Ending) (w' : World) : Prop :=
  ∃ v', e = .returned (.tuple #[v', .int .i64 (if MayN s then 0 else 1)]) ∧ Own w' w.heap.size v' (if MayN s then encN s else []) ∧ Below w.heap.size w w'

theorem pieces_frames_len : ∀ (n : Nat) (l : List UInt8), l.length ≤ n → (framesOf (pieces l)).length ≤ 15 * l.length
  | 0, l, h => by
    have e : l = [] := List.eq_nil_of_length_eq_zero (by omega)
    rw [e, pieces_nil]
    simp [framesOf]
  | n + 1, l, h => by
    by_cases e : l = []
    · rw [e, pieces_nil]
      simp [framesOf]
    · have h1 : l.length ≠ 0 := by simpa using e
      have ih := pieces_frames_len n (l.drop 64) (by rw [List.length_drop]; omega)
      have h2 := frameOf_len6 (d := l.take 64) (by rw [List.length_take]; omega)
      rw [pieces_cons e, framesOf_cons, List.length_append]
      rw [List.length_drop] at ih
      rw [List.length_take] at h2
      omega

theorem encN_len {s : Snap} (h : MayN s) : (encN s).length ≤ 80000 := by
  have hl := wholeN_le h
  have hi : s.idx.toNat < 4611686018427387904 := by have := h.1; omega
  have h1 := maniN_len hi (w := wholeN s) (by omega)
  have h2 := frameOf_len6 (d := maniN s.idx.toNat (wholeN s)) (by omega)
  have h3 := pieces_frames_len _ (wholeN s) (Nat.le_refl _)
  unfold encN partsN
  rw [framesOf_cons, List.length_append]
  omega

end Go.Proofs.Ytanmjihiceibbab
