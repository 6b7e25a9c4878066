/- Contracts of ferrymanref04: Start, Fold. -/
import Derived.Test.YtclankoffcfkfaaObjsBase
namespace Go.Proofs.Ytclankoffcfkfaa
open Go.RowKit

set_option maxRecDepth 100000 in
set_option maxHeartbeats 2000000 in
theorem refStart_any (kind : Int) (w : World) : Calls Try.prog 15 #[.int .i64 kind] w fun e w' => Started w (startS kind) e w' := by
  have c0 : I64 0 := i64_small (by decide) (by decide)
  have H1 : Hid (∀ x, Below w.heap.size w (w.alloc x)) := fun x => (Below.refl _ _).alloc (Nat.le_refl _) x
  have H2 : Hid (∀ x y, Below w.heap.size w ((w.alloc x).alloc y)) := fun x y => (H1.out x).alloc (by simp) y
  have H3 : Hid (∀ x y z, Below w.heap.size w (((w.alloc x).alloc y).alloc z)) := fun x y z => (H2.out x y).alloc (by simp; omega) z
  have C0 := hide' c0
  clear c0
  by_cases hbad : kind < 0 ∨ 6 ≤ kind
  · have HE : Hid (startS kind = ⟨0, [], false, 0⟩) := if_pos hbad
    rw [HE.out]
    have hc : kind < 0 ∨ (0 ≤ kind ∧ 6 ≤ kind) := by omega
    clear hbad HE
    rcases hc with hc | ⟨hc, hc'⟩
    all_goals
      go_enter Try.func15, Try.ntmps15
      go_wp2
      refine bodyPost_ret (v := .agg #[.int .i64 0, .slice none 0 0, .bool false, .int .i64 0]) (by simp [results, Try.results15, go_sem]) rfl ?_
      exact ⟨_, rfl, ⟨_, rfl, RdI.nil _, C0.out, C0.out⟩, H1.out _⟩
  · have HKI : Hid (I64 kind) := i64_small (by omega) (by omega)
    by_cases h1 : kind ≤ 1
    · have HE : Hid (startS kind = ⟨kind, [0], false, 0⟩) := by
        unfold startS
        rw [if_neg hbad, if_pos h1]
        exact rfl
      rw [HE.out]
      have hk : kind = 0 ∨ kind = 1 := by omega
      clear hbad h1 HE
      rcases hk with rfl | rfl
      · go_enter Try.func15, Try.ntmps15
        go_wp2
        refine bodyPost_ret (v := .agg #[.int .i64 0, .slice (some ⟨w.heap.size + 1 + 1, 0, none⟩) 1 1, .bool false, .int .i64 0]) (by simp [results, Try.results15, go_sem]) rfl ?_
        refine ⟨_, rfl, ⟨_, rfl, ?_, HKI.out, C0.out⟩, H3.out _ _ _⟩
        have h := fun x y => RdI.one ((w.alloc x).alloc y) 0 C0.out
        have e : ∀ x y, ((w.alloc x).alloc y).heap.size = w.heap.size + 1 + 1 := fun x y => by simp
        simp only [e] at h
        exact h _ _
      · go_enter Try.func15, Try.ntmps15
        go_wp2
        refine bodyPost_ret (v := .agg #[.int .i64 1, .slice (some ⟨w.heap.size + 1 + 1, 0, none⟩) 1 1, .bool false, .int .i64 0]) (by simp [results, Try.results15, go_sem]) rfl ?_
        refine ⟨_, rfl, ⟨_, rfl, ?_, HKI.out, C0.out⟩, H3.out _ _ _⟩
        have h := fun x y => RdI.one ((w.alloc x).alloc y) 0 C0.out
        have e : ∀ x y, ((w.alloc x).alloc y).heap.size = w.heap.size + 1 + 1 := fun x y => by simp
        simp only [e] at h
        exact h _ _
    · have HE : Hid (startS kind = ⟨kind, [], false, 0⟩) := by
        unfold startS
        rw [if_neg hbad, if_neg h1]
        exact rfl
      rw [HE.out]
      have e0 : (kind == 0) = false := beq_eq_false_iff_ne.2 (by omega)
      have e1 : (kind == 1) = false := beq_eq_false_iff_ne.2 (by omega)
      have h0 : 0 ≤ kind := by omega
      have h6 : kind < 6 := by omega
      clear hbad h1 HE
      go_enter Try.func15, Try.ntmps15
      go_wp2
      refine bodyPost_ret (v := .agg #[.int .i64 kind, .slice none 0 0, .bool false, .int .i64 0]) (by simp [results, Try.results15, go_sem]) rfl ?_
      exact ⟨_, rfl, ⟨_, rfl, RdI.nil _, HKI.out, C0.out⟩, H2.out _ _⟩

end Go.Proofs.Ytclankoffcfkfaa
