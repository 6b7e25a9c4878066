/- Contracts of delta: may, with its closures, mayEnd. -/
import Derived.Test.YtgpdbboieokldaaGreatPack3
import Derived.Test.YtgpdbboieokldaaGreatPack4
import Derived.Test.YtgpdbboieokldaaGreatIntShelf
import Derived.Test.YtgpdbboieokldaaGreatPack5
namespace Go.Proofs.YtgpdbboieokldaaGreat
open Go.RowKit

set_option maxRecDepth 100000 in
set_option maxHeartbeats 1000000 in
theorem may1_any (n : Int) (w : World) : Calls Tryz.prog 38 #[.int .i64 n] w fun x w' => x = .returned (.bool (decide (IdxOk n))) ∧ w' = w := by
  obtain ⟨D, hD⟩ : ∃ D, D = decide (IdxOk n) := ⟨_, rfl⟩
  rw [← hD]
  by_cases h0 : 0 ≤ n
  case neg =>
    have HE : Hid (D = false) := hide (by rw [hD]; exact decide_eq_false (fun h => h0 h.1))
    clear hD
    go_enter Tryz.func38, Tryz.ntmps38
    go_wp2
    go_ret
    rw [HE.out]
    exact ⟨rfl, rfl⟩
  by_cases h1 : n < 4611686018427387904
  · have HE : Hid (D = true) := hide (by rw [hD]; exact decide_eq_true ⟨h0, h1⟩)
    clear hD
    go_enter Tryz.func38, Tryz.ntmps38
    go_wp2
    go_ret
    rw [HE.out]
    exact ⟨rfl, rfl⟩
  · have HE : Hid (D = false) := hide (by rw [hD]; exact decide_eq_false (fun h => h1 h.2))
    clear hD
    go_enter Tryz.func38, Tryz.ntmps38
    go_wp2
    go_ret
    rw [HE.out]
    exact ⟨rfl, rfl⟩

set_option maxRecDepth 100000 in
set_option maxHeartbeats 1000000 in
theorem may2_any (n : Int) (w : World) : Calls Tryz.prog 39 #[.int .i64 n] w fun x w' => x = .returned (.bool (!decide (-1099511627776 ≤ n ∧ n ≤ 1099511627776))) ∧ Below w.heap.size w w' := by
  obtain ⟨D, hD⟩ : ∃ D, D = !decide (-1099511627776 ≤ n ∧ n ≤ 1099511627776) := ⟨_, rfl⟩
  rw [← hD]
  by_cases h0 : n < -1099511627776
  · have HE : Hid (D = true) := hide (by rw [hD, decide_eq_false (by omega)]; rfl)
    clear hD
    go_enter Tryz.func39, Tryz.ntmps39
    go_wp2
    go_ret
    rw [HE.out]
    exact ⟨rfl, Below.refl _ _⟩
  by_cases h1 : 1099511627776 < n
  · have HE : Hid (D = true) := hide (by rw [hD, decide_eq_false (by omega)]; rfl)
    clear hD
    go_enter Tryz.func39, Tryz.ntmps39
    go_wp2
    go_ret
    rw [HE.out]
    exact ⟨rfl, Below.refl _ _⟩
  · have HE : Hid (D = false) := hide (by rw [hD, decide_eq_true (by omega)]; rfl)
    clear hD
    go_enter Tryz.func39, Tryz.ntmps39
    go_wp2
    go_ret
    rw [HE.out]
    exact ⟨rfl, Below.refl _ _⟩

/-- May a delta's seal and table be? -/
def EndD (d : Delt) : Prop := (0 ≤ d.eng ∧ d.eng ≤ 2) ∧ (d.shut = false → d.eng = 0) ∧ TabOk d.tab

instance (d : Delt) : Decidable (EndD d) := by unfold EndD; infer_instance

theorem endD_may (d : Delt) : MayN ⟨0, ⟨0, [0], d.shut, d.eng⟩, d.tab⟩ ↔ EndD d := by
  have hn : NumsOk 0 [0] := by
    rw [numsOk_list (by decide) (by decide)]
    refine ⟨by simp, by simp, ?_⟩
    rw [inBounds_iff]
    intro x hx
    simp at hx
    omega
  constructor
  · rintro ⟨-, ⟨h1, h2, h3, -, -, -⟩, h4⟩
    exact ⟨⟨h1, h2⟩, h3, h4⟩
  · rintro ⟨⟨h1, h2⟩, h3, h4⟩
    exact ⟨⟨by show (0 : Int) ≤ 0; omega, by show (0 : Int) < _; omega⟩, ⟨h1, h2, h3, by show (0 : Int) ≤ 0; omega, by show (0 : Int) < 6; omega, hn⟩, h4⟩

set_option maxRecDepth 100000 in
set_option maxHeartbeats 2000000 in
theorem mayEnd_any (v : Value) (d : Delt) (w : World) (hd : DlV w v d) :
    Calls Tryz.prog 41 #[v] w fun x w' => x = .returned (.bool (decide (EndD d))) ∧ Below w.heap.size w w' := by
  obtain ⟨ma, mc, ta, tc, rfl, -, ht⟩ := hd.shape
  obtain ⟨-, -, -, -, -, -, -, -, -, hen⟩ := hd
  have i00 : I64 0 := i64_small (by decide) (by decide)
  obtain ⟨W0, hW0⟩ : ∃ W0, W0 = ((w.alloc (.cells #[.int .i64 d.frm, .int .i64 d.upto, .int .i64 d.ahead, .int .i64 d.behind, .slice ma d.mid.length mc, .bool d.shut, .int .i64 d.eng, .slice ta d.tab.length tc] 25)).alloc (.cells #[.int .i64 0] 3)).alloc (.cells #[.int .i64 0, .slice (some ⟨w.heap.size + 1, 0, none⟩) 1 1, .bool d.shut, .int .i64 d.eng] 37) := ⟨_, rfl⟩
  have h3 := new_three w (.cells #[.int .i64 d.frm, .int .i64 d.upto, .int .i64 d.ahead, .int .i64 d.behind, .slice ma d.mid.length mc, .bool d.shut, .int .i64 d.eng, .slice ta d.tab.length tc] 25) (.cells #[.int .i64 0] 3) (.cells #[.int .i64 0, .slice (some ⟨w.heap.size + 1, 0, none⟩) 1 1, .bool d.shut, .int .i64 d.eng] 37)
  rw [← hW0] at h3
  obtain ⟨hx, hy, hz⟩ := h3
  have hB0 : Below w.heap.size w W0 := by rw [hW0]; exact below_three w _ _ _
  have hri : RdI W0 (.slice (some ⟨w.heap.size + 1, 0, none⟩) 1 1) [0] := by
    refine ⟨some ⟨w.heap.size + 1, 0, none⟩, 1, rfl, Nat.le_refl _, by decide, (fun e => by cases e), ?_, .inr ⟨w.heap.size + 1, 0, rfl, fun j hj => ?_⟩⟩
    · intro n hn
      simp at hn
      rw [hn]
      exact i00
    · have e : j = 0 := by simpa using hj
      subst e
      rw [Nat.zero_add, cell_of_row W0 (w.heap.size + 1) 0 #[.int .i64 0] 3 (0, 0) hy]
      rfl
  have HMY := hide (mayN_any (.agg #[.int .i64 0, .int .i64 0, .slice (some ⟨w.heap.size + 1, 0, none⟩) 1 1, .bool d.shut, .int .i64 d.eng, .slice ta d.tab.length tc]) ⟨0, ⟨0, [0], d.shut, d.eng⟩, d.tab⟩ W0 ⟨_, _, rfl, hri, i00, hen, ht.below hB0 (Nat.le_refl _), i00⟩)
  have hd2 : decide (MayN ⟨0, ⟨0, [0], d.shut, d.eng⟩, d.tab⟩) = decide (EndD d) := decide_eq_decide.2 (endD_may d)
  rw [hd2] at HMY
  have HB0 := hide hB0
  have HW0 := hide hW0
  have hX : Bd W0 w.heap.size #[.int .i64 d.frm, .int .i64 d.upto, .int .i64 d.ahead, .int .i64 d.behind, .slice ma d.mid.length mc, .bool d.shut, .int .i64 d.eng, .slice ta d.tab.length tc] := hx
  have hZ : Bx W0 (w.heap.size + 1 + 1) #[.int .i64 0, .slice (some ⟨w.heap.size + 1, 0, none⟩) 1 1, .bool d.shut, .int .i64 d.eng] := hz
  obtain ⟨⟨p0, p1, p2, p3, p4, p5, p6, p7⟩, -⟩ := hX.all
  obtain ⟨q0, -⟩ := hZ.cell 0
  obtain ⟨q1, -⟩ := hZ.cell 1
  obtain ⟨q2, -⟩ := hZ.cell 2
  obtain ⟨q3, -⟩ := hZ.cell 3
  generalize decide (EndD d) = D at *
  clear hx hy hz hB0 hW0 hri hd2 hX hZ ht hen
  obtain ⟨fr, up, ah, bh, mid, sh, en, tab⟩ := d
  dsimp only at *
  go_enter Tryz.func41, Tryz.ntmps41
  go_upto_region 2 with fail
  rw [← HW0.out]
  clear HW0
  go_wp2_with fail
  refine HMY.out.mono ?_
  rintro x W1 ⟨rfl, hb1⟩
  have HB1 := hide (HB0.out.trans (hb1.mono HB0.out.size))
  clear hb1 HMY
  go_wp2
  go_ret
  exact ⟨rfl, HB1.out⟩

theorem mid_any (l : List Int) : (!(l.any fun n => !decide (-1099511627776 ≤ n ∧ n ≤ 1099511627776))) = decide (∀ x ∈ l, -1099511627776 ≤ x ∧ x ≤ 1099511627776) := by
  rw [Bool.eq_iff_iff, decide_eq_true_eq]
  simp

theorem mayD_parts (d : Delt) : decide (MayD d) = (decide (IdxOk d.frm) && (decide (IdxOk d.upto) && (decide (IdxOk d.ahead) && (decide (IdxOk d.behind) && (decide (d.mid.length ≤ 128) && (!(d.mid.any fun n => !decide (-1099511627776 ≤ n ∧ n ≤ 1099511627776)) && decide (EndD d))))))) := by
  rw [mid_any]
  simp only [← Bool.decide_and]
  exact decide_eq_decide.2 Iff.rfl

set_option maxRecDepth 100000 in
set_option maxHeartbeats 4000000 in
theorem mayD_any (v : Value) (d : Delt) (w : World) (hd : DlV w v d) :
    Calls Tryz.prog 15 #[v] w fun x w' => x = .returned (.bool (decide (MayD d))) ∧ Below w.heap.size w w' := by
  have HEN := hide (fun W (h : Below w.heap.size w W) => mayEnd_any v d W (hd.below h (Nat.le_refl _)))
  obtain ⟨ma, mc, ta, tc, rfl, hm, -⟩ := hd.shape
  have eg2 : ∀ args W, (callFunc 39 args).run Tryz.prog W = .ok (.enter 39 args) W := enters_of Tryz.func39 (by kernel_rfl) rfl
  have HCT := hide (fun W (h : Below w.heap.size w W) => containsFuncI_any 39 (fun n => !decide (-1099511627776 ≤ n ∧ n ≤ 1099511627776)) _ d.mid W (hm.below h (Nat.le_refl _)) eg2 (fun W n => may2_any n W))
  have H1 := hide (fun W => may1_any d.frm W)
  have H2 := hide (fun W => may1_any d.upto W)
  have H3 := hide (fun W => may1_any d.ahead W)
  have H4 := hide (fun W => may1_any d.behind W)
  have hml : (d.mid.length : Int) ≤ 9223372036854775807 := by
    obtain ⟨_, c, _, h1, h2, _⟩ := hm
    unfold maxLen at h2
    omega
  obtain ⟨D, hD⟩ : ∃ D, D = decide (MayD d) := ⟨_, rfl⟩
  rw [← hD]
  rw [mayD_parts] at hD
  generalize decide (IdxOk d.frm) = f1 at *
  generalize decide (IdxOk d.upto) = f2 at *
  generalize decide (IdxOk d.ahead) = f3 at *
  generalize decide (IdxOk d.behind) = f4 at *
  generalize (d.mid.any fun n => !decide (-1099511627776 ≤ n ∧ n ≤ 1099511627776)) = f6 at *
  generalize decide (EndD d) = f7 at *
  have HD := hide hD
  obtain ⟨W0, hW0⟩ : ∃ W0, W0 = w.alloc (.cells #[.int .i64 d.frm, .int .i64 d.upto, .int .i64 d.ahead, .int .i64 d.behind, .slice ma d.mid.length mc, .bool d.shut, .int .i64 d.eng, .slice ta d.tab.length tc] 25) := ⟨_, rfl⟩
  have hX : Bd W0 w.heap.size #[.int .i64 d.frm, .int .i64 d.upto, .int .i64 d.ahead, .int .i64 d.behind, .slice ma d.mid.length mc, .bool d.shut, .int .i64 d.eng, .slice ta d.tab.length tc] := by rw [hW0]; exact heap_alloc_new w _
  have HX0 := hide hX
  have HB0 : Hid (Below w.heap.size w W0) := hide (by rw [hW0]; exact (Below.refl _ _).alloc (Nat.le_refl _) _)
  have HW0 := hide hW0
  obtain ⟨⟨p0, p1, p2, p3, p4, p5, p6, p7⟩, -⟩ := hX.all
  clear hX hW0 hD hd hm eg2
  obtain ⟨fr, up, ah, bh, mid, sh, en, tab⟩ := d
  dsimp only at *
  go_enter Tryz.func15, Tryz.ntmps15
  go_upto_region 1 with fail
  rw [← HW0.out]
  clear HW0
  go_wp2_with fail
  refine (H1.out _).mono ?_
  rintro x W1 ⟨rfl, hw1⟩
  rw [hw1]
  clear hw1 W1 H1
  cases f1 with
  | false =>
    go_wp2
    go_ret
    rw [HD.out]
    exact ⟨rfl, HB0.out⟩
  | true =>
  go_wp2_with fail
  refine (H2.out _).mono ?_
  rintro x W1 ⟨rfl, hw1⟩
  rw [hw1]
  clear hw1 W1 H2
  cases f2 with
  | false =>
    go_wp2
    go_ret
    rw [HD.out]
    exact ⟨rfl, HB0.out⟩
  | true =>
  go_wp2_with fail
  refine (H3.out _).mono ?_
  rintro x W1 ⟨rfl, hw1⟩
  rw [hw1]
  clear hw1 W1 H3
  cases f3 with
  | false =>
    go_wp2
    go_ret
    rw [HD.out]
    exact ⟨rfl, HB0.out⟩
  | true =>
  go_wp2_with fail
  refine (H4.out _).mono ?_
  rintro x W1 ⟨rfl, hw1⟩
  rw [hw1]
  clear hw1 W1 H4
  cases f4 with
  | false =>
    go_wp2
    go_ret
    rw [HD.out]
    exact ⟨rfl, HB0.out⟩
  | true =>
  by_cases h5 : mid.length ≤ 128
  case neg =>
    have h5i : ¬ (mid.length : Int) ≤ 128 := by omega
    have HE : Hid (D = false) := hide (by rw [HD.out, decide_eq_false h5]; rfl)
    clear h5
    go_wp2
    go_ret
    rw [HE.out]
    exact ⟨rfl, HB0.out⟩
  have h5i : (mid.length : Int) ≤ 128 := by omega
  rw [decide_eq_true h5] at HD
  clear h5
  go_wp2_with fail
  refine (HCT.out _ HB0.out).mono ?_
  rintro x W1 ⟨rfl, hb1⟩
  have HB1 := hide (HB0.out.trans (hb1.mono HB0.out.size))
  have HX1 := hide (HX0.out.below hb1 (Nat.le_refl _))
  clear hb1 HCT p0 p1 p2 p3 p4 p5 p6 p7
  obtain ⟨⟨p0, p1, p2, p3, p4, p5, p6, p7⟩, -⟩ := HX1.out.all
  cases f6 with
  | true =>
    go_wp2
    go_ret
    rw [HD.out]
    exact ⟨rfl, HB1.out⟩
  | false =>
  go_wp2_with fail
  refine (HEN.out _ HB1.out).mono ?_
  rintro x W2 ⟨rfl, hb2⟩
  have HB2 := hide (HB1.out.trans (hb2.mono HB1.out.size))
  clear hb2 HEN
  go_wp2
  go_ret
  rw [HD.out]
  exact ⟨rfl, HB2.out⟩

end Go.Proofs.YtgpdbboieokldaaGreat
