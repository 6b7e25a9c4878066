/- awake of layer schema answers true: the chapter's example. -/
import Derived.Test.YtonibpnhhdjklabDoorSchemaEq
namespace Go.Proofs.YtonibpnhhdjklabDoor
open Go.RowKit

theorem six1 : encL 1 ⟨5, 2, 0, ⟨0, 0, 0⟩, 0⟩ = [1, 1, 5, 2, 2, 4, 0, 0, 0] := by
  have hf : FitsR ⟨5, 2, 0, ⟨0, 0, 0⟩, 0⟩ := by decide
  unfold encL
  rw [if_pos (by decide), if_pos hf]
  have z : Lib.zigzag 0 = 0 := rfl
  simp [encR, fieldsV, encFs, bytesF, putOpL, z, Lib.uvarint_small]

theorem six2 : encErr 1 ⟨5, 2, 0, ⟨0, 0, 0⟩, 0⟩ = 0 := by decide

set_option maxRecDepth 100000 in
set_option maxHeartbeats 1000000 in
theorem awake6_any (w : World) (ht : TabF w) : Calls Tryd.prog 5 #[] w fun e w' => e = .returned (.bool true) ∧ Below w.heap.size w w' := by
  have HE : Hid (∀ W, TabF W → Calls Tryd.prog 6 #[.int .i64 1, .agg #[.int .i64 5, .int .i64 2, .int .i64 0, .int .i64 0, .int .i64 0, .int .i64 0, .int .i64 0]] W fun e w' => ∃ v', e = .returned (.tuple #[v', .int .i64 0]) ∧ Own w' W.heap.size v' [1, 1, 5, 2, 2, 4, 0, 0, 0] ∧ Below W.heap.size W w') := fun W hW => by
    have h := encodeR_any 1 ⟨5, 2, 0, ⟨0, 0, 0⟩, 0⟩ W hW
    unfold EncodedR at h
    rw [six1, six2] at h
    exact h
  go_enter Tryd.func5, Tryd.ntmps5
  go_wp2_with fail
  refine (HE.out _ ht).mono ?_
  rintro e W1 ⟨v1, rfl, ho1, hb1⟩
  have hs1 : (convert 27 9 v1).run Tryd.prog W1 = .ok (.string ⟨#[1, 1, 5, 2, 2, 4, 0, 0, 0]⟩) W1 := ho1.rd.str
  have HB1 := hide hb1
  clear ho1 hb1 HE
  go_wp2
  go_ret
  exact ⟨rfl, HB1.out⟩

end Go.Proofs.YtonibpnhhdjklabDoor
