/- Contract of objs: Same. -/
import Derived.Test.YtgpdbboieokldaaObjsMayD
import Derived.Test.YtgpdbboieokldaaObjsLib
namespace Go.Proofs.Ytgpdbboieokldaa
open Go.RowKit

set_option maxRecDepth 100000 in
set_option maxHeartbeats 1000000 in
theorem sameS_any (va : Value) (a : St) (vb : Value) (b : St) (w : World) (ha : StV w va a) (hb : StV w vb b) :
    Calls Try.prog 43 #[va, vb] w fun e w' => e = .returned (.bool (decide (SameS a b))) ∧ Below w.heap.size w w' := by
  obtain ⟨vl, rfl, hr, -, -⟩ := ha
  obtain ⟨vm, rfl, hm, -, -⟩ := hb
  obtain ⟨k1, l1, s1, g1⟩ := a
  obtain ⟨k2, l2, s2, g2⟩ := b
  simp only at hr hm ⊢
  have HE : Hid (∀ W, Below w.heap.size w W → Calls Try.prog 41 #[vl, vm] W fun e w' => e = .returned (.bool (decide (l1 = l2))) ∧ Below W.heap.size W w') := fun W h => equalI_any vl l1 vm l2 W (hr.below h (Nat.le_refl _)) (hm.below h (Nat.le_refl _))
  have HBA : Hid (∀ x y, Below w.heap.size w ((w.alloc x).alloc y)) := fun x y => ((Below.refl _ _).alloc (Nat.le_refl _) x).alloc (by simp) y
  obtain ⟨R, hR⟩ : ∃ R, R = decide (SameS ⟨k1, l1, s1, g1⟩ ⟨k2, l2, s2, g2⟩) := ⟨_, rfl⟩
  rw [← hR]
  have HR := hide' hR
  clear hR hr hm
  by_cases h1 : k1 = k2
  · have q1 : (k1 == k2) = true := beq_iff_eq.2 h1
    have H1 := hide' h1
    clear h1
    by_cases h2 : s1 = s2
    · have q2 : (s1 == s2) = true := beq_iff_eq.2 h2
      have H2 := hide' h2
      clear h2
      by_cases h3 : g1 = g2
      · have q3 : (g1 == g2) = true := beq_iff_eq.2 h3
        have H3 := hide' h3
        clear h3
        go_enter Try.func43, Try.ntmps43
        go_wp2_with fail
        refine (HE.out _ (HBA.out _ _)).mono ?_
        rintro e W1 ⟨rfl, hb1⟩
        have HB1 := hide' ((HBA.out _ _).trans (hb1.mono (HBA.out _ _).size))
        clear hb1
        go_wp2
        go_ret
        refine ⟨ret_b ?_, HB1.out⟩
        rw [HR.out]
        exact decide_eq_decide.2 ⟨fun h => ⟨H1.out, H2.out, H3.out, h⟩, fun h => h.2.2.2⟩
      · have q3 : (g1 == g2) = false := beq_eq_false_iff_ne.2 h3
        have HF : Hid (R = false) := HR.out.trans (decide_eq_false fun h => h3 h.2.2.1)
        clear h3
        go_enter Try.func43, Try.ntmps43
        go_wp2
        go_ret
        exact ⟨ret_b HF.out.symm, HBA.out _ _⟩
    · have q2 : (s1 == s2) = false := beq_eq_false_iff_ne.2 h2
      have HF : Hid (R = false) := HR.out.trans (decide_eq_false fun h => h2 h.2.1)
      clear h2
      go_enter Try.func43, Try.ntmps43
      go_wp2
      go_ret
      exact ⟨ret_b HF.out.symm, HBA.out _ _⟩
  · have q1 : (k1 == k2) = false := beq_eq_false_iff_ne.2 h1
    have HF : Hid (R = false) := HR.out.trans (decide_eq_false fun h => h1 h.1)
    clear h1
    go_enter Try.func43, Try.ntmps43
    go_wp2
    go_ret
    exact ⟨ret_b HF.out.symm, HBA.out _ _⟩

end Go.Proofs.Ytgpdbboieokldaa
