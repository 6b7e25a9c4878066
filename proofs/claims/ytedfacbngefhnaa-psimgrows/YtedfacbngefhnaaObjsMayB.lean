/- Contracts of objs: mayNumbers, May. -/
import Derived.Test.YtedfacbngefhnaaObjsMayA
namespace Go.Proofs.Ytedfacbngefhnaa
open Go.RowKit

theorem nums_one {kind : Int} (hk : kind = 0 ∨ kind = 1) (l : List Int) : (0 ≤ kind ∧ kind < 6 ∧ NumsOk kind l) ↔ l.length = 1 ∧ -1099511627776 ≤ l.getD 0 0 ∧ l.getD 0 0 ≤ 1099511627776 := by
  rw [numsOk_list (by omega) (by omega)]
  constructor
  · rintro ⟨_, _, _, h1, h2⟩
    exact ⟨h1 (by omega), h2 0 (by have := h1 (by omega); omega)⟩
  · rintro ⟨h1, h2⟩
    refine ⟨by omega, by omega, by omega, fun _ => h1, fun j hj => ?_⟩
    have e : j = 0 := by omega
    rw [e]
    exact h2

theorem nums_line {kind : Int} (hk : kind = 2 ∨ kind = 3) (l : List Int) : (0 ≤ kind ∧ kind < 6 ∧ NumsOk kind l) ↔ l.length ≤ 64 ∧ InBounds l := by
  rw [numsOk_list (by omega) (by omega)]
  constructor
  · rintro ⟨_, _, h1, _, h2⟩
    exact ⟨h1, h2⟩
  · rintro ⟨h1, h2⟩
    exact ⟨by omega, by omega, h1, fun h => by omega, h2⟩

theorem nums_store (l : List Int) : (0 ≤ (4 : Int) ∧ (4 : Int) < 6 ∧ NumsOk 4 l) ↔ PairsOk (-1099511627776) l := by
  unfold NumsOk
  rw [if_pos rfl]
  exact ⟨fun h => h.2.2, fun h => ⟨by decide, by decide, h⟩⟩

theorem nums_ledger (l : List Int) : (0 ≤ (5 : Int) ∧ (5 : Int) < 6 ∧ NumsOk 5 l) ↔ PairsOk 0 l := by
  unfold NumsOk
  rw [if_neg (by decide), if_pos rfl]
  exact ⟨fun h => h.2.2, fun h => ⟨by decide, by decide, h⟩⟩

set_option maxRecDepth 100000 in
set_option maxHeartbeats 1000000 in
theorem mayNumbers_any (kind : Int) (v : Value) (l : List Int) (w : World) (hr : RdI w v l) :
    Calls Try.prog 35 #[.int .i64 kind, v] w fun e w' => e = .returned (.bool (decide (0 ≤ kind ∧ kind < 6 ∧ NumsOk kind l))) ∧ Below w.heap.size w w' := by
  have HW := hide' (fun p q W => within_any p q W)
  have HRD : Hid (∀ W, Below w.heap.size w W → RdI W v l) := fun W h => hr.below h (Nat.le_refl _)
  obtain ⟨R, hR⟩ : ∃ R, R = decide (0 ≤ kind ∧ kind < 6 ∧ NumsOk kind l) := ⟨_, rfl⟩
  rw [← hR]
  have HR := hide' hR
  clear hR
  by_cases h01 : kind = 0 ∨ kind = 1
  · have HN := hide' (nums_one h01 l)
    have hx : ((kind == 0) = true) ∨ ((kind == 0) = false ∧ (kind == 1) = true) := by
      rcases h01 with rfl | rfl
      · exact .inl rfl
      · exact .inr ⟨rfl, rfl⟩
    have HS := hide' (fun n l2 h2 a2 b2 W p1 p2 => is_any n l2 h2 a2 b2 W p1 p2)
    obtain ⟨ao, cap, rfl, -, -, -, -, hao⟩ := hr
    have HAO := hide' hao
    clear hao h01 HRD
    by_cases hl : l.length = 1
    · rcases HAO.out with h0 | ⟨g, off, rfl, hc⟩
      · rw [h0] at hl; simp at hl
      have HC0 : Hid (∀ W, Below w.heap.size w W → W.cell? ⟨g, off, none⟩ = some (.int .i64 (l.getD 0 0))) := fun W h => (h.cell (World.block_lt_of_cell? w ⟨g, off, none⟩ (hc 0 (by omega)))).trans (hc 0 (by omega))
      clear hc HAO
      have HL := hide' hl
      rw [hl]
      clear hl
      obtain ⟨y, hy⟩ : ∃ y, y = l.getD 0 0 := ⟨_, rfl⟩
      rw [← hy] at HC0 HN
      clear hy
      rcases hx with hx | ⟨hx, hx'⟩
      all_goals
        go_enter Try.func35, Try.ntmps35
        go_wp2_with fail
        refine (HW.out _ _ _).mono ?_
        rintro e W1 ⟨a2, b2, rfl, hc1, hc2, hb1⟩
        have HB1 := hide' hb1
        have hg0 := HC0.out _ hb1
        clear hb1
        go_wp2_with fail
        refine (HS.out _ _ _ _ _ _ hc1 hc2).mono ?_
        rintro e W2 ⟨rfl, rfl⟩
        go_wp2
        go_ret
        refine ⟨ret_b ?_, HB1.out⟩
        rw [HR.out, ← Bool.decide_and]
        exact decide_eq_decide.2 ⟨fun h => HN.out.2 ⟨HL.out, h⟩, fun h => (HN.out.1 h).2⟩
    · have hq : ((l.length : Int) == 1) = false := beq_eq_false_iff_ne.2 (by omega)
      have HD : Hid (decide (0 ≤ kind ∧ kind < 6 ∧ NumsOk kind l) = false) := decide_eq_false (fun h => hl (HN.out.1 h).1)
      clear hl
      rcases hx with hx | ⟨hx, hx'⟩
      all_goals
        go_enter Try.func35, Try.ntmps35
        go_wp2_with fail
        refine (HW.out _ _ _).mono ?_
        rintro e W1 ⟨a2, b2, rfl, hc1, hc2, hb1⟩
        have HB1 := hide' hb1
        clear hb1
        go_wp2
        go_ret
        exact ⟨ret_b (HR.out.trans HD.out).symm, HB1.out⟩
  · have e0 : (kind == 0) = false := beq_eq_false_iff_ne.2 (by omega)
    have e1 : (kind == 1) = false := beq_eq_false_iff_ne.2 (by omega)
    by_cases h23 : kind = 2 ∨ kind = 3
    · have HN := hide' (nums_line h23 l)
      have hx : ((kind == 2) = true) ∨ ((kind == 2) = false ∧ (kind == 3) = true) := by
        rcases h23 with rfl | rfl
        · exact .inl rfl
        · exact .inr ⟨rfl, rfl⟩
      have HS := hide' (fun a2 b2 W p1 p2 p3 => mayLine_any v l a2 b2 W p1 p2 p3)
      clear h01 h23 hr
      rcases hx with hx | ⟨hx, hx'⟩
      all_goals
        go_enter Try.func35, Try.ntmps35
        go_wp2_with fail
        refine (HW.out _ _ _).mono ?_
        rintro e W1 ⟨a2, b2, rfl, hc1, hc2, hb1⟩
        have HB1 := hide' hb1
        clear hb1
        go_wp2_with fail
        refine (HS.out _ _ _ (HRD.out _ HB1.out) hc1 hc2).mono ?_
        rintro e W2 ⟨rfl, rfl⟩
        go_wp2
        go_ret
        refine ⟨ret_b ?_, HB1.out⟩
        rw [HR.out, ← Bool.decide_and]
        exact decide_eq_decide.2 HN.out.symm
    · have e2 : (kind == 2) = false := beq_eq_false_iff_ne.2 (by omega)
      have e3 : (kind == 3) = false := beq_eq_false_iff_ne.2 (by omega)
      have HS := hide' (fun lo a2 b2 W p1 p2 p3 => mayPairs_any v l lo a2 b2 W p1 p2 p3)
      clear h01 h23 hr
      by_cases h4 : kind = 4
      · have e4 : (kind == 4) = true := beq_iff_eq.2 h4
        have HN : Hid (PairsOk (-1099511627776) l ↔ (0 ≤ kind ∧ kind < 6 ∧ NumsOk kind l)) := by rw [h4]; exact (nums_store l).symm
        clear h4
        go_enter Try.func35, Try.ntmps35
        go_wp2_with fail
        refine (HW.out _ _ _).mono ?_
        rintro e W1 ⟨a2, b2, rfl, hc1, hc2, hb1⟩
        have HB1 := hide' hb1
        clear hb1
        go_wp2_with fail
        refine (HS.out _ _ _ _ (HRD.out _ HB1.out) hc1 hc2).mono ?_
        rintro e W2 ⟨rfl, hb2⟩
        have HB2 := hide' (HB1.out.trans (hb2.mono HB1.out.size))
        clear hb2
        go_wp2
        go_ret
        refine ⟨ret_b ?_, HB2.out⟩
        rw [HR.out]
        exact decide_eq_decide.2 HN.out
      · have e4 : (kind == 4) = false := beq_eq_false_iff_ne.2 h4
        by_cases h5 : kind = 5
        · have e5 : (kind == 5) = true := beq_iff_eq.2 h5
          have HN : Hid (PairsOk 0 l ↔ (0 ≤ kind ∧ kind < 6 ∧ NumsOk kind l)) := by rw [h5]; exact (nums_ledger l).symm
          clear h4 h5
          go_enter Try.func35, Try.ntmps35
          go_wp2_with fail
          refine (HW.out _ _ _).mono ?_
          rintro e W1 ⟨a1, b1, rfl, _, _, hb1⟩
          have HB1 := hide' hb1
          clear hb1
          go_wp2_with fail
          refine (HW.out _ _ _).mono ?_
          rintro e W2 ⟨a2, b2, rfl, hc1, hc2, hb2⟩
          have HB2 := hide' (HB1.out.trans (hb2.mono HB1.out.size))
          clear hb2
          go_wp2_with fail
          refine (HS.out _ _ _ _ (HRD.out _ HB2.out) hc1 hc2).mono ?_
          rintro e W3 ⟨rfl, hb3⟩
          have HB3 := hide' (HB2.out.trans (hb3.mono HB2.out.size))
          clear hb3
          go_wp2
          go_ret
          refine ⟨ret_b ?_, HB3.out⟩
          rw [HR.out]
          exact decide_eq_decide.2 HN.out
        · have e5 : (kind == 5) = false := beq_eq_false_iff_ne.2 h5
          have HD : Hid (decide (0 ≤ kind ∧ kind < 6 ∧ NumsOk kind l) = false) := decide_eq_false (fun h => by
            have n0 : kind ≠ 0 := beq_eq_false_iff_ne.1 e0
            have n1 : kind ≠ 1 := beq_eq_false_iff_ne.1 e1
            have n2 : kind ≠ 2 := beq_eq_false_iff_ne.1 e2
            have n3 : kind ≠ 3 := beq_eq_false_iff_ne.1 e3
            omega)
          clear h4 h5
          go_enter Try.func35, Try.ntmps35
          go_wp2_with fail
          refine (HW.out _ _ _).mono ?_
          rintro e W1 ⟨a1, b1, rfl, _, _, hb1⟩
          have HB1 := hide' hb1
          clear hb1
          go_wp2
          go_ret
          exact ⟨ret_b (HR.out.trans HD.out).symm, HB1.out⟩

end Go.Proofs.Ytedfacbngefhnaa
