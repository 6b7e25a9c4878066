/- awake of layer objs answers true: the chapter's examples; Few, Ints. -/
import Derived.Test.YtedfacbngefhnaaObjsOwn
import Derived.Test.YtedfacbngefhnaaObjsFew
namespace Go.Proofs.Ytedfacbngefhnaa
open Go.RowKit

theorem ex1 : stepO ⟨0, [5], false, 0⟩ ⟨1, 3, 0⟩ = (⟨0, [8], false, 0⟩, 5) := by rfl
theorem ex2 : stepO ⟨2, [1, 2], false, 0⟩ ⟨4, 0, 0⟩ = (⟨2, [2], false, 0⟩, 1) := by rfl
theorem ex3 : stepO ⟨0, [5], true, 0⟩ ⟨0, 0, 0⟩ = (⟨0, [5], true, 0⟩, -1125899906842624) := by rfl
theorem ex4 : MayS (startS 5) := by decide

theorem RdI.two (w : World) (x y : Int) (hx : I64 x) (hy : I64 y) : RdI (w.alloc (.cells #[.int .i64 x, .int .i64 y] 3)) (.slice (some ⟨w.heap.size, 0, none⟩) 2 2) [x, y] := by
  refine ⟨some ⟨w.heap.size, 0, none⟩, 2, rfl, Nat.le_refl _, by decide, (fun e => by cases e), ?_, .inr ⟨w.heap.size, 0, rfl, fun j hj => ?_⟩⟩
  · intro n hn
    simp at hn
    rcases hn with rfl | rfl <;> assumption
  · have e : j = 0 ∨ j = 1 := by simp at hj; omega
    rw [Nat.zero_add]
    rcases e with rfl | rfl
    · rw [cell_of_row _ w.heap.size 0 #[.int .i64 x, .int .i64 y] 3 (0, 0) (heap_alloc_new w _)]
      rfl
    · rw [cell_of_row _ w.heap.size 1 #[.int .i64 x, .int .i64 y] 3 (0, 0) (heap_alloc_new w _)]
      rfl

set_option linter.unusedVariables false in
theorem awake1 : ∀ (w : World) (N : Nat), N = w.heap.size → Calls Try.prog 56 #[.agg #[.int .i64 0, .slice (some ⟨N, 0, none⟩) 1 1, .bool false, .int .i64 0], .agg #[.int .i64 1, .int .i64 3, .int .i64 0]] (w.alloc (.cells #[.int .i64 5] 3)) fun e w' => ∃ b off cap, e = .returned (.tuple #[.agg #[.int .i64 0, .slice (some ⟨b, off, none⟩) 1 cap, .bool false, .int .i64 0], .int .i64 5]) ∧ w'.cell? ⟨b, off, none⟩ = some (.int .i64 8) ∧ Below w.heap.size w w' := by
  have c0 : I64 0 := i64_small (by decide) (by decide)
  have c1 : I64 1 := i64_small (by decide) (by decide)
  have c2 : I64 2 := i64_small (by decide) (by decide)
  have c5 : I64 5 := i64_small (by decide) (by decide)
  intro w N hN
  subst hN
  refine (step_any (.agg #[.int .i64 0, .slice (some ⟨w.heap.size, 0, none⟩) 1 1, .bool false, .int .i64 0]) ⟨0, [5], false, 0⟩ ⟨1, 3, 0⟩ (w.alloc (.cells #[.int .i64 5] 3)) ⟨_, rfl, RdI.one w 5 c5, c0, c0⟩ (by simp)).mono ?_
  intro e w' h
  rw [ex1] at h
  obtain ⟨v', rfl, hr, _, _, _, hb⟩ := h
  obtain ⟨b, off, cap, rfl, _, hc⟩ := hr.filled (by simp)
  exact ⟨b, off, cap, rfl, hc 0 (by simp), ((Below.refl _ _).alloc (Nat.le_refl _) _).trans (hb.mono (by simp))⟩

set_option linter.unusedVariables false in
theorem awake2 : ∀ (w : World) (N : Nat), N = w.heap.size → Calls Try.prog 56 #[.agg #[.int .i64 2, .slice (some ⟨N, 0, none⟩) 2 2, .bool false, .int .i64 0], .agg #[.int .i64 4, .int .i64 0, .int .i64 0]] (w.alloc (.cells #[.int .i64 1, .int .i64 2] 3)) fun e w' => ∃ b off cap, e = .returned (.tuple #[.agg #[.int .i64 2, .slice (some ⟨b, off, none⟩) 1 cap, .bool false, .int .i64 0], .int .i64 1]) ∧ w'.cell? ⟨b, off, none⟩ = some (.int .i64 2) ∧ Below w.heap.size w w' := by
  have c0 : I64 0 := i64_small (by decide) (by decide)
  have c1 : I64 1 := i64_small (by decide) (by decide)
  have c2 : I64 2 := i64_small (by decide) (by decide)
  have c5 : I64 5 := i64_small (by decide) (by decide)
  intro w N hN
  subst hN
  refine (step_any (.agg #[.int .i64 2, .slice (some ⟨w.heap.size, 0, none⟩) 2 2, .bool false, .int .i64 0]) ⟨2, [1, 2], false, 0⟩ ⟨4, 0, 0⟩ (w.alloc (.cells #[.int .i64 1, .int .i64 2] 3)) ⟨_, rfl, RdI.two w 1 2 c1 c2, c2, c0⟩ (by simp)).mono ?_
  intro e w' h
  rw [ex2] at h
  obtain ⟨v', rfl, hr, _, _, _, hb⟩ := h
  obtain ⟨b, off, cap, rfl, _, hc⟩ := hr.filled (by simp)
  exact ⟨b, off, cap, rfl, hc 0 (by simp), ((Below.refl _ _).alloc (Nat.le_refl _) _).trans (hb.mono (by simp))⟩

set_option linter.unusedVariables false in
theorem awake3 : ∀ (w : World) (N : Nat), N = w.heap.size → Calls Try.prog 56 #[.agg #[.int .i64 0, .slice (some ⟨N, 0, none⟩) 1 1, .bool true, .int .i64 0], .agg #[.int .i64 0, .int .i64 0, .int .i64 0]] (w.alloc (.cells #[.int .i64 5] 3)) fun e w' => ∃ ao cap, e = .returned (.tuple #[.agg #[.int .i64 0, .slice ao 1 cap, .bool true, .int .i64 0], .int .i64 (-1125899906842624)]) ∧ Below w.heap.size w w' := by
  have c0 : I64 0 := i64_small (by decide) (by decide)
  have c1 : I64 1 := i64_small (by decide) (by decide)
  have c2 : I64 2 := i64_small (by decide) (by decide)
  have c5 : I64 5 := i64_small (by decide) (by decide)
  intro w N hN
  subst hN
  refine (step_any (.agg #[.int .i64 0, .slice (some ⟨w.heap.size, 0, none⟩) 1 1, .bool true, .int .i64 0]) ⟨0, [5], true, 0⟩ ⟨0, 0, 0⟩ (w.alloc (.cells #[.int .i64 5] 3)) ⟨_, rfl, RdI.one w 5 c5, c0, c0⟩ (by simp)).mono ?_
  intro e w' h
  rw [ex3] at h
  obtain ⟨ao, cap, rfl, _, _, _, hb⟩ := h.open
  exact ⟨ao, cap, rfl, ((Below.refl _ _).alloc (Nat.le_refl _) _).trans (hb.mono (by simp))⟩

end Go.Proofs.Ytedfacbngefhnaa
