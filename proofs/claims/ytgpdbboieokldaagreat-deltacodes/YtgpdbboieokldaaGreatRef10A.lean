/- Contracts of ferrymanref10: index, May. -/
import Derived.Test.YtgpdbboieokldaaGreatPack3
import Derived.Test.YtgpdbboieokldaaGreatPack4
namespace Go.Proofs.YtgpdbboieokldaaGreat
open Go.RowKit

set_option maxRecDepth 100000 in
set_option maxHeartbeats 1000000 in
theorem refIndex_any (n : Int) (w : World) : Calls Tryz.prog 49 #[.int .i64 n] w fun x w' => x = .returned (.bool (decide (IdxOk n))) ∧ w' = w := by
  obtain ⟨D, hD⟩ : ∃ D, D = decide (IdxOk n) := ⟨_, rfl⟩
  rw [← hD]
  by_cases h0 : 0 ≤ n
  case neg =>
    have HE : Hid (D = false) := hide (by rw [hD]; exact decide_eq_false (fun h => h0 h.1))
    clear hD
    go_enter Tryz.func49, Tryz.ntmps49
    go_wp2
    go_ret
    rw [HE.out]
    exact ⟨rfl, rfl⟩
  by_cases h1 : n < 4611686018427387904
  · have HE : Hid (D = true) := hide (by rw [hD]; exact decide_eq_true ⟨h0, h1⟩)
    clear hD
    go_enter Tryz.func49, Tryz.ntmps49
    go_wp2
    go_ret
    rw [HE.out]
    exact ⟨rfl, rfl⟩
  · have HE : Hid (D = false) := hide (by rw [hD]; exact decide_eq_false (fun h => h1 h.2))
    clear hD
    go_enter Tryz.func49, Tryz.ntmps49
    go_wp2
    go_ret
    rw [HE.out]
    exact ⟨rfl, rfl⟩

/-- The first numbers of Mid lie within their bounds. -/
def MidTo (l : List Int) (k : Nat) : Prop := ∀ j, j < k → -1099511627776 ≤ l.getD j 0 ∧ l.getD j 0 ≤ 1099511627776

theorem midTo_all (l : List Int) : (∀ x ∈ l, -1099511627776 ≤ x ∧ x ≤ 1099511627776) ↔ MidTo l l.length := by
  constructor
  · intro h j hj
    refine h _ ?_
    simp [List.getD, hj]
  · intro h x hx
    obtain ⟨j, hj, rfl⟩ := List.getElem_of_mem hx
    have := h j hj
    simpa [List.getD, hj] using this

set_option maxRecDepth 100000 in
set_option maxHeartbeats 4000000 in
theorem refMayD_any (v : Value) (d : Delt) (w : World) (hd : DlV w v d) :
    Calls Tryz.prog 18 #[v] w fun x w' => x = .returned (.bool (decide (MayD d))) ∧ Below w.heap.size w w' := by
  obtain ⟨ma, mc, ta, tc, rfl, hm, ht⟩ := hd.shape
  have HTB := hide (fun W (h : Below w.heap.size w W) => refTable_any _ d.tab W (ht.below h (Nat.le_refl _)))
  have H1 := hide (fun W => refIndex_any d.frm W)
  have H2 := hide (fun W => refIndex_any d.upto W)
  have H3 := hide (fun W => refIndex_any d.ahead W)
  have H4 := hide (fun W => refIndex_any d.behind W)
  obtain ⟨_, _, hmv, hmc, hmm, -, -, hmo⟩ := id hm
  simp only [Value.slice.injEq] at hmv
  obtain ⟨rfl, -, rfl⟩ := hmv
  have hml : (d.mid.length : Int) ≤ 9223372036854775807 := by unfold maxLen at hmm; omega
  have HMO := hide hmo
  obtain ⟨D, hD⟩ : ∃ D, D = decide (MayD d) := ⟨_, rfl⟩
  rw [← hD]
  have HU : Hid (MayD d ↔ IdxOk d.frm ∧ IdxOk d.upto ∧ IdxOk d.ahead ∧ IdxOk d.behind ∧ d.mid.length ≤ 128 ∧ (∀ x ∈ d.mid, -1099511627776 ≤ x ∧ x ≤ 1099511627776) ∧ (0 ≤ d.eng ∧ d.eng ≤ 2) ∧ (d.shut = false → d.eng = 0) ∧ TabOk d.tab) := hide Iff.rfl
  have HD0 : Hid (¬ MayD d → D = false) := hide (fun h => by rw [hD]; exact decide_eq_false h)
  have HD1 : Hid (MayD d → D = true) := hide (fun h => by rw [hD]; exact decide_eq_true h)
  have HMT := hide (midTo_all d.mid)
  obtain ⟨f1, h1⟩ : ∃ f, f = decide (IdxOk d.frm) := ⟨_, rfl⟩
  obtain ⟨f2, h2⟩ : ∃ f, f = decide (IdxOk d.upto) := ⟨_, rfl⟩
  obtain ⟨f3, h3⟩ : ∃ f, f = decide (IdxOk d.ahead) := ⟨_, rfl⟩
  obtain ⟨f4, h4⟩ : ∃ f, f = decide (IdxOk d.behind) := ⟨_, rfl⟩
  obtain ⟨f5, h5⟩ : ∃ f, f = decide (TabOk d.tab) := ⟨_, rfl⟩
  rw [← h1] at H1
  rw [← h2] at H2
  rw [← h3] at H3
  rw [← h4] at H4
  rw [← h5] at HTB
  have K1 := hide h1
  have K2 := hide h2
  have K3 := hide h3
  have K4 := hide h4
  have K5 := hide h5
  obtain ⟨W0, hW0⟩ : ∃ W0, W0 = w.alloc (.cells #[.int .i64 d.frm, .int .i64 d.upto, .int .i64 d.ahead, .int .i64 d.behind, .slice ma d.mid.length mc, .bool d.shut, .int .i64 d.eng, .slice ta d.tab.length tc] 25) := ⟨_, rfl⟩
  have HX0 : Hid (Bd W0 w.heap.size #[.int .i64 d.frm, .int .i64 d.upto, .int .i64 d.ahead, .int .i64 d.behind, .slice ma d.mid.length mc, .bool d.shut, .int .i64 d.eng, .slice ta d.tab.length tc]) := hide (by rw [hW0]; exact heap_alloc_new w _)
  have HB0 : Hid (Below w.heap.size w W0) := hide (by rw [hW0]; exact (Below.refl _ _).alloc (Nat.le_refl _) _)
  have HW0 := hide hW0
  obtain ⟨⟨p0, p1, p2, p3, p4, p5, p6, p7⟩, -⟩ := HX0.out.all
  clear hW0 hD hm ht hmo hmc hmm h1 h2 h3 h4 h5 hd
  obtain ⟨fr, up, ah, bh, mid, sh, en, tab⟩ := d
  dsimp only at *
  go_enter Tryz.func18, Tryz.ntmps18
  go_upto_region 1 with fail
  rw [← HW0.out]
  clear HW0
  go_wp2_with fail
  refine (H1.out _).mono ?_
  rintro x W1 ⟨rfl, hw1⟩
  rw [hw1]
  clear hw1 W1 H1
  go_wp2_with fail
  refine (H2.out _).mono ?_
  rintro x W1 ⟨rfl, hw1⟩
  rw [hw1]
  clear hw1 W1 H2
  go_wp2_with fail
  refine (H3.out _).mono ?_
  rintro x W1 ⟨rfl, hw1⟩
  rw [hw1]
  clear hw1 W1 H3
  go_wp2_with fail
  refine (H4.out _).mono ?_
  rintro x W1 ⟨rfl, hw1⟩
  rw [hw1]
  clear hw1 W1 H4
  go_wp2_with fail
  refine (HTB.out _ HB0.out).mono ?_
  rintro x W1 ⟨rfl, hb1⟩
  have HX1 := hide (HX0.out.below hb1 (Nat.le_refl _))
  have HB1 := hide (HB0.out.trans (hb1.mono HB0.out.size))
  clear hb1 HTB p0 p1 p2 p3 p4 p5 p6 p7 HX0 HB0
  obtain ⟨⟨p0, p1, p2, p3, p4, p5, p6, p7⟩, -⟩ := HX1.out.all
  cases f1 with
  | false =>
    have HF := hide (HD0.out (fun h => of_decide_eq_false K1.out.symm (HU.out.1 h).1))
    go_wp2
    go_ret
    rw [HF.out]
    exact ⟨rfl, HB1.out⟩
  | true =>
  cases f2 with
  | false =>
    have HF := hide (HD0.out (fun h => of_decide_eq_false K2.out.symm (HU.out.1 h).2.1))
    go_wp2
    go_ret
    rw [HF.out]
    exact ⟨rfl, HB1.out⟩
  | true =>
  cases f3 with
  | false =>
    have HF := hide (HD0.out (fun h => of_decide_eq_false K3.out.symm (HU.out.1 h).2.2.1))
    go_wp2
    go_ret
    rw [HF.out]
    exact ⟨rfl, HB1.out⟩
  | true =>
  cases f4 with
  | false =>
    have HF := hide (HD0.out (fun h => of_decide_eq_false K4.out.symm (HU.out.1 h).2.2.2.1))
    go_wp2
    go_ret
    rw [HF.out]
    exact ⟨rfl, HB1.out⟩
  | true =>
  cases f5 with
  | false =>
    have HF := hide (HD0.out (fun h => of_decide_eq_false K5.out.symm (HU.out.1 h).2.2.2.2.2.2.2.2))
    go_wp2
    go_ret
    rw [HF.out]
    exact ⟨rfl, HB1.out⟩
  | true =>
  by_cases h6 : mid.length ≤ 128
  case neg =>
    have h6i : (128 : Int) < (mid.length : Int) := by omega
    have HF := hide (HD0.out (fun h => h6 (HU.out.1 h).2.2.2.2.1))
    go_wp2
    go_ret
    rw [HF.out]
    exact ⟨rfl, HB1.out⟩
  have h6i : ¬ (128 : Int) < (mid.length : Int) := by omega
  by_cases h7 : en < 0
  · have HF := hide (HD0.out (fun h => by have := (HU.out.1 h).2.2.2.2.2.2.1.1; omega))
    go_wp2
    go_ret
    rw [HF.out]
    exact ⟨rfl, HB1.out⟩
  by_cases h8 : 2 < en
  · have HF := hide (HD0.out (fun h => by have := (HU.out.1 h).2.2.2.2.2.2.1.2; omega))
    go_wp2
    go_ret
    rw [HF.out]
    exact ⟨rfl, HB1.out⟩
  by_cases h9 : sh = false ∧ en ≠ 0
  · obtain ⟨hs, hn⟩ := h9
    subst hs
    have hnd : (en != 0) = true := by rw [bne_iff_ne]; exact hn
    have HF := hide (HD0.out (fun h => hn ((HU.out.1 h).2.2.2.2.2.2.2.1 rfl)))
    clear hn
    go_wp2
    go_ret
    rw [HF.out]
    exact ⟨rfl, HB1.out⟩
  have h9' : sh = false → en = 0 := fun h => Classical.byContradiction fun h2 => h9 ⟨h, h2⟩
  have HAL : Hid (MidTo mid mid.length → D = true) := hide (fun h => HD1.out (HU.out.2 ⟨of_decide_eq_true K1.out.symm, of_decide_eq_true K2.out.symm, of_decide_eq_true K3.out.symm, of_decide_eq_true K4.out.symm, h6, HMT.out.2 h, ⟨by omega, by omega⟩, h9', of_decide_eq_true K5.out.symm⟩))
  have HNO : Hid (∀ k, k < mid.length → ¬ (-1099511627776 ≤ mid.getD k 0 ∧ mid.getD k 0 ≤ 1099511627776) → D = false) := hide (fun k hk h => HD0.out (fun h2 => h (HMT.out.1 (HU.out.1 h2).2.2.2.2.2.1 k hk)))
  have hshen : (sh = true) ∨ (sh = false ∧ (en != 0) = false) := by
    cases sh with
    | true => exact .inl rfl
    | false => exact .inr ⟨rfl, by rw [h9' rfl]; rfl⟩
  clear HU HD0 HD1 HMT K1 K2 K3 K4 K5 h9 h9'
  rcases hshen with rfl | ⟨rfl, hen⟩
  · go_wp2
    go_loopw [8] (fun vi wr => ∃ k : Nat, vi = .int .i64 (k : Int) ∧ k ≤ mid.length ∧ Hid (MidTo mid k) ∧ wr = W1) (fun vi _ => mid.length - (intOf vi).toNat)
    case atStart => exact ⟨0, rfl, Nat.zero_le _, hide (fun j hj => absurd hj (Nat.not_lt_zero _)), rfl⟩
    case round =>
      obtain ⟨k, rfl, hk, hM, hwr⟩ := hrel
      rw [hwr]
      clear hwr
      by_cases hlt : k < mid.length
      case neg =>
        have hni : ¬ (k : Int) < (mid.length : Int) := by omega
        obtain rfl : k = mid.length := by omega
        have HF := hide (HAL.out hM.out)
        go_wp2
        go_ret
        rw [HF.out]
        exact ⟨rfl, HB1.out⟩
      have hki : (k : Int) < (mid.length : Int) := by omega
      rcases HMO.out with h0 | ⟨c, off, rfl, hc⟩
      · rw [h0] at hlt; simp at hlt
      have c0 := (HB1.out.cell (World.block_lt_of_cell? _ _ (hc k hlt))).trans (hc k hlt)
      have HNK := hide (HNO.out k hlt)
      have HMN : Hid (-1099511627776 ≤ mid.getD k 0 ∧ mid.getD k 0 ≤ 1099511627776 → MidTo mid (k + 1)) := hide (fun h j hj => by
        rcases Nat.lt_or_ge j k with h2 | h2
        · exact hM.out j h2
        · obtain rfl : j = k := by omega
          exact h)
      clear hc HMO HNO HAL
      generalize mid.getD k 0 = x at *
      by_cases hx0 : x < -1099511627776
      · have HF := hide (HNK.out (fun h => by omega))
        go_wp2
        go_ret
        rw [HF.out]
        exact ⟨rfl, HB1.out⟩
      by_cases hx1 : 1099511627776 < x
      · have HF := hide (HNK.out (fun h => by omega))
        go_wp2
        go_ret
        rw [HF.out]
        exact ⟨rfl, HB1.out⟩
      have HM2 := hide (HMN.out ⟨by omega, by omega⟩)
      go_wp2
      go_roundw
      case rel => exact ⟨k + 1, by go_num, by omega, HM2, trivial⟩
      case measure => simp [intOf]; omega
  · go_wp2
    go_loopw [8] (fun vi wr => ∃ k : Nat, vi = .int .i64 (k : Int) ∧ k ≤ mid.length ∧ Hid (MidTo mid k) ∧ wr = W1) (fun vi _ => mid.length - (intOf vi).toNat)
    case atStart => exact ⟨0, rfl, Nat.zero_le _, hide (fun j hj => absurd hj (Nat.not_lt_zero _)), rfl⟩
    case round =>
      obtain ⟨k, rfl, hk, hM, hwr⟩ := hrel
      rw [hwr]
      clear hwr
      by_cases hlt : k < mid.length
      case neg =>
        have hni : ¬ (k : Int) < (mid.length : Int) := by omega
        obtain rfl : k = mid.length := by omega
        have HF := hide (HAL.out hM.out)
        go_wp2
        go_ret
        rw [HF.out]
        exact ⟨rfl, HB1.out⟩
      have hki : (k : Int) < (mid.length : Int) := by omega
      rcases HMO.out with h0 | ⟨c, off, rfl, hc⟩
      · rw [h0] at hlt; simp at hlt
      have c0 := (HB1.out.cell (World.block_lt_of_cell? _ _ (hc k hlt))).trans (hc k hlt)
      have HNK := hide (HNO.out k hlt)
      have HMN : Hid (-1099511627776 ≤ mid.getD k 0 ∧ mid.getD k 0 ≤ 1099511627776 → MidTo mid (k + 1)) := hide (fun h j hj => by
        rcases Nat.lt_or_ge j k with h2 | h2
        · exact hM.out j h2
        · obtain rfl : j = k := by omega
          exact h)
      clear hc HMO HNO HAL
      generalize mid.getD k 0 = x at *
      by_cases hx0 : x < -1099511627776
      · have HF := hide (HNK.out (fun h => by omega))
        go_wp2
        go_ret
        rw [HF.out]
        exact ⟨rfl, HB1.out⟩
      by_cases hx1 : 1099511627776 < x
      · have HF := hide (HNK.out (fun h => by omega))
        go_wp2
        go_ret
        rw [HF.out]
        exact ⟨rfl, HB1.out⟩
      have HM2 := hide (HMN.out ⟨by omega, by omega⟩)
      go_wp2
      go_roundw
      case rel => exact ⟨k + 1, by go_num, by omega, HM2, trivial⟩
      case measure => simp [intOf]; omega
end Go.Proofs.YtgpdbboieokldaaGreat
