/- Contract of ferrymanref04: Fits. -/
import Derived.Test.YtgmdhlchdjlgnaaRef04A
namespace Go.Proofs.Ytgmdhlchdjlgnaa
open Go.RowKit

set_option maxRecDepth 100000 in
set_option maxHeartbeats 2000000 in
theorem refFits_any (o : Opn) (w : World) :
    Calls Try.prog 38 #[opV o] w fun e w' => e = .returned (.bool (decide (FitsO o))) ∧ Below w.heap.size w w' := by
  have HBA : Hid (∀ x, Below w.heap.size w (w.alloc x)) := fun x => (Below.refl _ _).alloc (Nat.le_refl _) x
  have HC : Hid (∀ n w, Calls Try.prog 50 #[.int .i64 n] w fun e w' => e = .returned (.int .i64 (cutZ n)) ∧ w' = w) := fun n w => refCut_any n w
  obtain ⟨code, a, b⟩ := o
  have HA := hide' (cutZ_eq a)
  have HB := hide' (cutZ_eq b)
  have HF : Hid (FitsO ⟨code, a, b⟩ ↔ 0 ≤ code ∧ code ≤ 10 ∧ (-1099511627776 ≤ a ∧ a ≤ 1099511627776) ∧ (-1099511627776 ≤ b ∧ b ≤ 1099511627776)) := by
    unfold FitsO
    constructor
    · rintro ⟨h1, h2, h3, h4, h5, h6⟩; exact ⟨h1, h2, ⟨h3, h4⟩, h5, h6⟩
    · rintro ⟨h1, h2, ⟨h3, h4⟩, h5, h6⟩; exact ⟨h1, h2, h3, h4, h5, h6⟩
  show Calls Try.prog 38 #[.agg #[.int .i64 code, .int .i64 a, .int .i64 b]] w _
  by_cases h1 : 0 ≤ code
  · by_cases h2 : code ≤ 10
    · by_cases h3 : a = cutZ a
      · have e3 : (a == cutZ a) = true := beq_iff_eq.2 h3
        by_cases h4 : b = cutZ b
        · have e4 : (b == cutZ b) = true := beq_iff_eq.2 h4
          have HD : Hid (decide (FitsO ⟨code, a, b⟩) = true) := decide_eq_true (HF.out.2 ⟨h1, h2, HA.out.1 h3, HB.out.1 h4⟩)
          clear h3 h4
          go_enter Try.func38, Try.ntmps38
          go_wp2
          go_quiet ((go_at_call 50; exact Calls.quiet_of_same (HC.out _ _)))
          go_wp2
          go_ret
          exact ⟨ret_b HD.out.symm, below_drewN (HBA.out _) _⟩
        · have e4 : (b == cutZ b) = false := beq_eq_false_iff_ne.2 h4
          have HD : Hid (decide (FitsO ⟨code, a, b⟩) = false) := decide_eq_false (fun h => h4 (HB.out.2 (HF.out.1 h).2.2.2))
          clear h3 h4
          go_enter Try.func38, Try.ntmps38
          go_wp2
          go_quiet ((go_at_call 50; exact Calls.quiet_of_same (HC.out _ _)))
          go_wp2
          go_ret
          exact ⟨ret_b HD.out.symm, below_drewN (HBA.out _) _⟩
      · have e3 : (a == cutZ a) = false := beq_eq_false_iff_ne.2 h3
        have HD : Hid (decide (FitsO ⟨code, a, b⟩) = false) := decide_eq_false (fun h => h3 (HA.out.2 (HF.out.1 h).2.2.1))
        clear h3
        go_enter Try.func38, Try.ntmps38
        go_wp2
        go_quiet ((go_at_call 50; exact Calls.quiet_of_same (HC.out _ _)))
        go_wp2
        go_ret
        exact ⟨ret_b HD.out.symm, below_drewN (HBA.out _) _⟩
    · have d2 : decide (code ≤ 10) = false := decide_eq_false h2
      have HD : Hid (decide (FitsO ⟨code, a, b⟩) = false) := decide_eq_false (fun h => h2 (HF.out.1 h).2.1)
      go_enter Try.func38, Try.ntmps38
      go_wp2
      go_quiet ((go_at_call 50; exact Calls.quiet_of_same (HC.out _ _)))
      go_wp2
      go_ret
      exact ⟨ret_b HD.out.symm, below_drewN (HBA.out _) _⟩
  · have d1 : decide (0 ≤ code) = false := decide_eq_false h1
    have HD : Hid (decide (FitsO ⟨code, a, b⟩) = false) := decide_eq_false (fun h => h1 (HF.out.1 h).1)
    go_enter Try.func38, Try.ntmps38
    go_wp2
    go_quiet ((go_at_call 50; exact Calls.quiet_of_same (HC.out _ _)))
    go_wp2
    go_ret
    exact ⟨ret_b HD.out.symm, below_drewN (HBA.out _) _⟩

end Go.Proofs.Ytgmdhlchdjlgnaa
