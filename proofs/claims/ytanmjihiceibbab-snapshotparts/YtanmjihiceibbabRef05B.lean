/- Contract of ferrymanref05: EncodeState. -/
import Derived.Test.YtanmjihiceibbabPack4
namespace Go.Proofs.Ytanmjihiceibbab
open Go.RowKit

/-- What is encoded: the bytes, or none and ErrArg. -/
def Encoded (w : World) (s : St) (e : Ending) (w' : World) : Prop :=
  ∃ v', e = .returned (.tuple #[v', .int .i64 (if MayS s then 0 else 1)]) ∧ Own w' w.heap.size v' (if MayS s then encS s else []) ∧ Below w.heap.size w w'

theorem numsL_app : ∀ (A B : List Int), numsL (A ++ B) = numsL A ++ numsL B
  | [], _ => rfl
  | x :: r, B => by rw [List.cons_append, numsL, numsL_app r B, numsL, List.append_assoc]

theorem numsL_length : ∀ (L : List Int), (∀ x ∈ L, I64 x) → (numsL L).length ≤ 10 * L.length
  | [], _ => by simp [numsL]
  | x :: r, h => by
    have ih := numsL_length r (fun y hy => h y (by simp [hy]))
    have hx := uv10 (h x (by simp))
    rw [numsL, List.length_append, List.length_cons]
    omega

theorem numsL_snoc (L : List Int) (k : Nat) (hk : k < L.length) : numsL (L.take (k + 1)) = numsL (L.take k) ++ Lib.uvarint (Lib.zigzag (L.getD k 0)) := by
  have e : L.take (k + 1) = L.take k ++ [L.getD k 0] := by
    rw [List.take_add_one]
    simp [List.getD, hk]
  rw [e, numsL_app]
  simp [numsL]

/-- The three numbers ahead. -/
def headSt (s : St) : List UInt8 := (Lib.uvarint s.kind.toNat ++ Lib.uvarint (sealN s)) ++ Lib.uvarint s.L.length

theorem encS_head (s : St) : encS s = headSt s ++ numsL s.L := by
  unfold encS headSt
  simp [List.append_assoc]

theorem seal_int (shut : Bool) (g : Int) (h : 0 ≤ g) : (if shut = true then g + 1 else 0) = ((sealN ⟨0, [], shut, g⟩ : Nat) : Int) := by
  unfold sealN
  cases shut
  · rfl
  · simp
    omega

theorem sealN_any (k : Int) (l : List Int) (shut : Bool) (g : Int) : sealN ⟨k, l, shut, g⟩ = sealN ⟨0, [], shut, g⟩ := rfl

end Go.Proofs.Ytanmjihiceibbab
