/- Contracts of objs: May, Fits, Same, own, seal. -/
import Derived.Test.YtedfacbngefhnaaObjsMayB
namespace Go.Proofs.Ytedfacbngefhnaa
open Go.RowKit

theorem may_split (kind : Int) (l : List Int) (shut : Bool) (g : Int) : MayS ⟨kind, l, shut, g⟩ ↔ (shut = false → g = 0) ∧ (0 ≤ g ∧ g ≤ 2) ∧ (0 ≤ kind ∧ kind < 6 ∧ NumsOk kind l) :=
  ⟨fun h => ⟨h.2.2.1, ⟨h.1, h.2.1⟩, h.2.2.2.1, h.2.2.2.2.1, h.2.2.2.2.2⟩, fun h => ⟨h.2.1.1, h.2.1.2, h.1, h.2.2.1, h.2.2.2.1, h.2.2.2.2⟩⟩

set_option maxRecDepth 100000 in
set_option maxHeartbeats 1000000 in
theorem may_any (v : Value) (s : St) (w : World) (hs : StV w v s) :
    Calls Try.prog 24 #[v] w fun e w' => e = .returned (.bool (decide (MayS s))) ∧ Below w.heap.size w w' := by
  obtain ⟨vl, rfl, hr, -, -⟩ := hs
  obtain ⟨kind, l, shut, g⟩ := s
  simp only at hr ⊢
  have HW := hide' (fun p q W => within_any p q W)
  have HS := hide' (fun n l2 h2 a2 b2 W p1 p2 => is_any n l2 h2 a2 b2 W p1 p2)
  have HMN : Hid (∀ W, Below w.heap.size w W → Calls Try.prog 35 #[.int .i64 kind, vl] W fun e w' => e = .returned (.bool (decide (0 ≤ kind ∧ kind < 6 ∧ NumsOk kind l))) ∧ Below W.heap.size W w') := fun W h => mayNumbers_any kind vl l W (hr.below h (Nat.le_refl _))
  have HM := hide' (may_split kind l shut g)
  obtain ⟨R, hR⟩ : ∃ R, R = decide (MayS ⟨kind, l, shut, g⟩) := ⟨_, rfl⟩
  rw [← hR]
  have HR := hide' hR
  have HBA : Hid (∀ x, Below w.heap.size w (w.alloc x)) := fun x => (Below.refl _ _).alloc (Nat.le_refl _) x
  clear hR hr
  by_cases hbad : shut = false ∧ g ≠ 0
  · obtain ⟨rfl, hg⟩ := hbad
    have hq : (g != 0) = true := bne_iff_ne.2 hg
    have HD : Hid (decide (MayS ⟨kind, l, false, g⟩) = false) := decide_eq_false (fun h => hg ((HM.out.1 h).1 rfl))
    clear hg
    go_enter Try.func24, Try.ntmps24
    go_wp2
    go_ret
    exact ⟨ret_b (HR.out.trans HD.out).symm, HBA.out _⟩
  · have hx : ((g != 0) = false) ∨ ((g != 0) = true ∧ shut = true) := by
      by_cases h0 : g = 0
      · exact .inl (bne_eq_false_iff_eq.2 h0)
      · cases shut
        · exact absurd ⟨rfl, h0⟩ hbad
        · exact .inr ⟨bne_iff_ne.2 h0, rfl⟩
    have HB : Hid (shut = false → g = 0) := fun h => by
      by_cases h0 : g = 0
      · exact h0
      · exact absurd ⟨h, h0⟩ hbad
    clear hbad
    by_cases hin : 0 ≤ g ∧ g ≤ 2
    · have HN := hide' (decide_eq_true hin)
      have HI := hide' hin
      clear hin
      have HF : Hid (decide (0 ≤ kind ∧ kind < 6 ∧ NumsOk kind l) = R) := by
        rw [HR.out]
        exact decide_eq_decide.2 ⟨fun h => HM.out.2 ⟨HB.out, HI.out, h⟩, fun h => (HM.out.1 h).2.2⟩
      rcases hx with hx | ⟨hx, rfl⟩
      all_goals
        go_enter Try.func24, Try.ntmps24
        go_wp2_with fail
        refine (HW.out _ _ _).mono ?_
        rintro e W1 ⟨a1, b1, rfl, hc1, hc2, hb1⟩
        have hbx := (hb1.block w.heap.size (by simp)).trans (heap_alloc_new w _)
        have q0 := cell_of_row W1 w.heap.size 0 _ _ _ hbx
        have q1 := cell_of_row W1 w.heap.size 1 _ _ _ hbx
        have q3 := cell_of_row W1 w.heap.size 3 _ _ _ hbx
        have HB1 := hide' ((HBA.out _).trans (hb1.mono (HBA.out _).size))
        clear hb1 hbx
        go_wp2_with fail
        refine (HS.out _ _ _ _ _ _ hc1 hc2).mono ?_
        rintro e W2 ⟨rfl, rfl⟩
        rw [HN.out]
        go_wp2_with fail
        refine (HMN.out _ HB1.out).mono ?_
        rintro e W3 ⟨rfl, hb3⟩
        rw [HF.out]
        have HB3 := hide' (HB1.out.trans (hb3.mono HB1.out.size))
        clear hb3
        go_wp2
        go_ret
        exact ⟨rfl, HB3.out⟩
    · have HN := hide' (decide_eq_false hin)
      have HF : Hid (R = false) := HR.out.trans (decide_eq_false fun h => hin (HM.out.1 h).2.1)
      clear hin
      rcases hx with hx | ⟨hx, rfl⟩
      all_goals
        go_enter Try.func24, Try.ntmps24
        go_wp2_with fail
        refine (HW.out _ _ _).mono ?_
        rintro e W1 ⟨a1, b1, rfl, hc1, hc2, hb1⟩
        have hbx := (hb1.block w.heap.size (by simp)).trans (heap_alloc_new w _)
        have q3 := cell_of_row W1 w.heap.size 3 _ _ _ hbx
        have HB1 := hide' ((HBA.out _).trans (hb1.mono (HBA.out _).size))
        clear hb1 hbx
        go_wp2_with fail
        refine (HS.out _ _ _ _ _ _ hc1 hc2).mono ?_
        rintro e W2 ⟨rfl, rfl⟩
        rw [HN.out]
        go_wp2
        go_ret
        exact ⟨ret_b HF.out.symm, HB1.out⟩

end Go.Proofs.Ytedfacbngefhnaa
