/- Contracts of ferrymanref03: Decode, Whole, All. -/
import Derived.Test.YtgpdbboieokldaaRef03Enc
namespace Go.Proofs.Ytgpdbboieokldaa
open Go.RowKit

theorem decF_1 {l : List UInt8} (h : isOpen l) : decF l = ([], 0, 2) := by unfold decF; rw [if_pos h]

theorem decF_2 {l : List UInt8} (h : ¬ isOpen l) (h2 : (dec62 l).2 = 0) : decF l = ([], 0, 3) := by unfold decF; rw [if_neg h, if_pos h2]

theorem decF_3 {l : List UInt8} (h : ¬ isOpen l) (h2 : (dec62 l).2 ≠ 0) (h3 : 1048576 < (dec62 l).1) : decF l = ([], 0, 5) := by unfold decF; rw [if_neg h, if_neg h2, if_pos h3]

theorem decF_4 {l : List UInt8} (h : ¬ isOpen l) (h2 : (dec62 l).2 ≠ 0) (h3 : ¬ 1048576 < (dec62 l).1) (h4 : l.length < (dec62 l).2 + 4 + (dec62 l).1) : decF l = ([], 0, 2) := by
  unfold decF; rw [if_neg h, if_neg h2, if_neg h3, if_pos h4]

theorem decF_5 {l : List UInt8} (h : ¬ isOpen l) (h2 : (dec62 l).2 ≠ 0) (h3 : ¬ 1048576 < (dec62 l).1) (h4 : ¬ l.length < (dec62 l).2 + 4 + (dec62 l).1)
    (h5 : Lib.leNat ((l.drop ((dec62 l).2 + (dec62 l).1)).take 4) ≠ crcMore 0 (l.take ((dec62 l).2 + (dec62 l).1))) : decF l = ([], 0, 4) := by
  unfold decF; rw [if_neg h, if_neg h2, if_neg h3, if_neg h4, if_pos h5]

theorem decF_6 {l : List UInt8} (h : ¬ isOpen l) (h2 : (dec62 l).2 ≠ 0) (h3 : ¬ 1048576 < (dec62 l).1) (h4 : ¬ l.length < (dec62 l).2 + 4 + (dec62 l).1)
    (h5 : Lib.leNat ((l.drop ((dec62 l).2 + (dec62 l).1)).take 4) = crcMore 0 (l.take ((dec62 l).2 + (dec62 l).1))) : decF l = ((l.drop (dec62 l).2).take (dec62 l).1, (dec62 l).2 + 4 + (dec62 l).1, 0) := by
  unfold decF; rw [if_neg h, if_neg h2, if_neg h3, if_neg h4, if_neg (by rw [h5]; simp)]

theorem dec62_nine (l : List UInt8) : (dec62 l).2 ≤ 9 := by
  rcases dec62_cases l with h | ⟨h1, h2, h3, h4⟩
  · rw [h]; decide
  · have h5 : (Lib.uvarint (dec62 l).1).length ≤ 9 := Lib.uvarint_length 8 _ (Nat.lt_of_lt_of_le h1 (by decide))
    rw [← h4, List.length_take] at h5
    omega

/-- What Decode's answer is, of which value. -/
def Decoded (w : World) (l : List UInt8) (e : Ending) (w' : World) : Prop :=
  ∃ v', e = .returned (.tuple #[v', .int .i64 ((decF l).2.1 : Nat), .int .i64 ((decF l).2.2 : Nat)]) ∧ Own w' w.heap.size v' (decF l).1 ∧ Below w.heap.size w w'

theorem Decoded.refused {w : World} {l : List UInt8} {c : Nat} (h : decF l = ([], 0, c)) : Decoded w l (.returned (.tuple #[.slice none 0 0, .int .i64 0, .int .i64 (c : Int)])) w := by
  refine ⟨.slice none 0 0, ?_, ?_, Below.refl _ _⟩
  · rw [h]; rfl
  · rw [h]; exact Own.nil _ _

end Go.Proofs.Ytgpdbboieokldaa
