/- awake of layer codec answers true: the chapter's examples. -/
import Derived.Test.YtcaalklpjpefjaaCodecOwn
namespace Go.Proofs.Ytcaalklpjpefjaa
open Go.RowKit

theorem five1 : putOpL ⟨1, 3, 0⟩ = [1, 6, 0] := by
  show Lib.uvarint 1 ++ (Lib.uvarint 6 ++ Lib.uvarint 0) = _
  rw [Lib.uvarint_small (by decide), Lib.uvarint_small (by decide), Lib.uvarint_small (by decide)]
  rfl

theorem five2 : encS ⟨0, [5], false, 0⟩ = [0, 0, 1, 10] := by
  show Lib.uvarint 0 ++ (Lib.uvarint 0 ++ (Lib.uvarint 1 ++ (Lib.uvarint 10 ++ []))) = _
  rw [Lib.uvarint_small (by decide), Lib.uvarint_small (by decide), Lib.uvarint_small (by decide)]
  rfl

theorem five3 : FitsO ⟨1, 3, 0⟩ := by decide
theorem five4 : MayS ⟨0, [5], false, 0⟩ := by decide

set_option maxRecDepth 100000 in
set_option maxHeartbeats 1000000 in
theorem awake5_any (w : World) : Calls Try.prog 9 #[] w fun e w' => e = .returned (.bool true) ∧ Below w.heap.size w w' := by
  have HP : Hid (∀ W, Calls Try.prog 10 #[.slice none 0 0, .agg #[.int .i64 1, .int .i64 3, .int .i64 0]] W fun e w' => ∃ v', e = .returned (.tuple #[v', .int .i64 0]) ∧ Rd w' v' [1, 6, 0] ∧ Below W.heap.size W w') := fun W => by
    have h := putOp_any (.slice none 0 0) [] ⟨1, 3, 0⟩ W (Rd.nil W) (by simp)
    unfold PutR at h
    rw [if_pos five3, if_pos five3, five1] at h
    exact h
  have HE : Hid (∀ W N, N = W.heap.size → Calls Try.prog 15 #[.agg #[.int .i64 0, .slice (some ⟨N, 0, none⟩) 1 1, .bool false, .int .i64 0]] (W.alloc (.cells #[.int .i64 5] 3)) fun e w' => ∃ v', e = .returned (.tuple #[v', .int .i64 0]) ∧ Rd w' v' [0, 0, 1, 10] ∧ Below W.heap.size W w') := fun W N hN => by
    subst hN
    have c5 : I64 5 := i64_small (by decide) (by decide)
    have c0 : I64 0 := i64_small (by decide) (by decide)
    have h := encodeState_any _ ⟨0, [5], false, 0⟩ (W.alloc (.cells #[.int .i64 5] 3)) ⟨_, rfl, RdI.one W 5 c5, c0, c0⟩ (by simp)
    unfold EncR at h
    rw [if_pos five4, if_pos five4, five2] at h
    refine h.mono ?_
    rintro e w' ⟨v', h1, h2, h3⟩
    exact ⟨v', h1, h2, ((Below.refl _ _).alloc (Nat.le_refl _) _).trans (h3.mono (by simp))⟩
  go_enter Try.func9, Try.ntmps9
  go_wp2_with fail
  refine (HP.out _).mono ?_
  rintro e W1 ⟨v1, rfl, hr1, hb1⟩
  have HR1 := hide hr1
  have HB1 := hide hb1
  clear hr1 hb1
  go_wp2_with fail
  refine (HE.out _ _ rfl).mono ?_
  rintro e W2 ⟨v2, rfl, hr2, hb2⟩
  have hs1 : (convert 22 9 v1).run Try.prog W2 = .ok (.string ⟨#[1, 6, 0]⟩) W2 := (HR1.out.below hb2 (Nat.le_refl _)).str
  have hs2 : (convert 22 9 v2).run Try.prog W2 = .ok (.string ⟨#[0, 0, 1, 10]⟩) W2 := hr2.str
  have HB2 := hide (HB1.out.trans (hb2.mono HB1.out.size))
  clear hr2 hb2 HR1 HB1
  go_wp2
  go_ret
  exact ⟨rfl, HB2.out⟩

end Go.Proofs.Ytcaalklpjpefjaa
