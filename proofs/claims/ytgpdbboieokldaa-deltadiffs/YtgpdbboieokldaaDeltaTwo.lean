/- Two snapshots that come in, the chapter's example and bounds: how the laws on Diff begin. -/
import Derived.Test.YtgpdbboieokldaaDeltaAwake
namespace Go.Proofs.Ytgpdbboieokldaa
open Go.RowKit

theorem diffD_err {a b : Snap} (h : (diffD a b).2 ≠ 0) : (diffD a b).1 = zeroD := by
  unfold diffD at h ⊢
  by_cases h1 : ¬ MayN a ∨ ¬ MayN b ∨ a.st.kind ≠ b.st.kind
  · rw [if_pos h1]
  rw [if_neg h1] at h ⊢
  by_cases h2 : b.idx < a.idx ∨ ¬ Covers a.tab b.tab
  · rw [if_pos h2]
  rw [if_neg h2] at h
  exact absurd rfl h

theorem diffD_fine {a b : Snap} (h : (diffD a b).2 = 0) : MayN a ∧ MayN b ∧ a.st.kind = b.st.kind ∧ a.idx ≤ b.idx ∧ Covers a.tab b.tab := by
  unfold diffD at h
  by_cases h1 : ¬ MayN a ∨ ¬ MayN b ∨ a.st.kind ≠ b.st.kind
  · rw [if_pos h1] at h
    exact absurd h (by decide)
  rw [if_neg h1] at h
  by_cases h2 : b.idx < a.idx ∨ ¬ Covers a.tab b.tab
  · rw [if_pos h2] at h
    exact absurd h (by decide)
  exact ⟨Classical.byContradiction fun h => h1 (.inl h), Classical.byContradiction fun h => h1 (.inr (.inl h)), Classical.byContradiction fun h => h1 (.inr (.inr h)), by omega, Classical.byContradiction fun h => h2 (.inr h)⟩

theorem first_new (w : World) (X Y : Obj) : ((w.alloc X).alloc Y).heap[w.heap.size]? = some X := (Below.heap_alloc _ _ _ (by simp)).trans (heap_alloc_new w X)

theorem below_two (w : World) (X Y : Obj) : Below w.heap.size w ((w.alloc X).alloc Y) := ((Below.refl _ _).alloc (Nat.le_refl _) _).alloc (by simp) _

theorem mid_len (a b : List Int) : (midL a b).length + preL a b + sufL a b = b.length := by
  have h := sufL_le a b
  unfold midL
  rw [List.length_take, List.length_drop]
  omega

end Go.Proofs.Ytgpdbboieokldaa
