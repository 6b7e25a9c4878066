/- The chapter's example of deltas. -/
import Derived.Test.YtgpdbboieokldaaDeltaDiffA
import Derived.Test.YtgpdbboieokldaaDeltaApply
import Derived.Test.YtgpdbboieokldaaSnapFew
namespace Go.Proofs.Ytgpdbboieokldaa
open Go.RowKit

def awA : Snap := ⟨0, ⟨3, [1, 2], false, 0⟩, []⟩

def awB : Snap := ⟨1, ⟨3, [1, 2, 9], false, 0⟩, []⟩

def awD : Delt := ⟨0, 1, 2, 0, [9], false, 0, []⟩

theorem aw_mayA : MayN awA := by decide

theorem aw_mayB : MayN awB := by decide

theorem aw_diff : diffD awA awB = (awD, 0) := by
  rw [diffD_ok aw_mayA aw_mayB rfl (by decide) (by decide)]
  rfl

theorem aw_apply : applyD awA awD = (awB, 0) := by
  have h := applyD_diff (a := awA) (b := awB) (by rw [aw_diff])
  rw [aw_diff] at h
  exact h

theorem i64_l {n : Int} (h0 : -1000 ≤ n) (h1 : n ≤ 1000) : I64 n := ⟨by omega, by omega⟩

theorem rdI_lit (W : World) (N : Nat) (hN : N = W.heap.size) (l : List Int) (hl : ∀ n ∈ l, I64 n) (hlen : l.length ≤ 1000) (cs : Array Value) (hcs : cs = (intCells l).toArray) (k : Nat) (hk : k = l.length) :
    RdI (W.alloc (.cells cs 3)) (.slice (some ⟨N, 0, none⟩) k k) l := by
  subst hN hcs hk
  refine ⟨some ⟨W.heap.size, 0, none⟩, l.length, rfl, Nat.le_refl _, by unfold maxLen; omega, (fun e => by cases e), hl, .inr ⟨W.heap.size, 0, rfl, fun j hj => ?_⟩⟩
  rw [Nat.zero_add, cell_of_row _ W.heap.size j _ 3 (0, 0) (heap_alloc_new W _), List.getElem?_toArray]
  exact intCells_get l j hj

set_option maxRecDepth 100000 in
set_option maxHeartbeats 8000000 in
theorem awake10_any (w : World) :
    Calls Try.prog 8 #[] w fun e w' => e = .returned (.bool true) ∧ Below w.heap.size w w' := by
  have i00 : I64 0 := i64_l (by decide) (by decide)
  have i3 : I64 3 := i64_l (by decide) (by decide)
  have i1 : I64 1 := i64_l (by decide) (by decide)
  obtain ⟨W0, hW0⟩ : ∃ W0, W0 = (((w.alloc (.cells #[.int .i64 1, .int .i64 2] 3)).alloc (.cells #[.int .i64 0, .int .i64 3, .slice (some ⟨w.heap.size, 0, none⟩) 2 2, .bool false, .int .i64 0, .slice none 0 0] 27)).alloc (.cells #[.int .i64 1, .int .i64 2, .int .i64 9] 3)).alloc (.cells #[.int .i64 1, .int .i64 3, .slice (some ⟨w.heap.size + 1 + 1, 0, none⟩) 3 3, .bool false, .int .i64 0, .slice none 0 0] 27) := ⟨_, rfl⟩
  have b1 : Below w.heap.size w (w.alloc (.cells #[.int .i64 1, .int .i64 2] 3)) := (Below.refl _ _).alloc (Nat.le_refl _) _
  have hB0 : Below w.heap.size w W0 := by rw [hW0]; exact ((((Below.refl _ _).alloc (Nat.le_refl _) _).alloc (by simp) _).alloc (by simp; omega) _).alloc (by simp; omega) _
  have hrA : RdI W0 (.slice (some ⟨w.heap.size, 0, none⟩) 2 2) [1, 2] := by
    rw [hW0]
    have h := rdI_lit w w.heap.size rfl [1, 2] (fun n hn => by simp at hn; rcases hn with rfl | rfl <;> exact i64_l (by decide) (by decide)) (by simp) #[.int .i64 1, .int .i64 2] rfl 2 rfl
    exact ((h.below ((Below.refl _ _).alloc (Nat.le_refl _) _) (Nat.le_refl _)).below ((Below.refl _ _).alloc (Nat.le_refl _) _) (Nat.le_refl _)).below ((Below.refl _ _).alloc (Nat.le_refl _) _) (Nat.le_refl _)
  have hrB : RdI W0 (.slice (some ⟨w.heap.size + 1 + 1, 0, none⟩) 3 3) [1, 2, 9] := by
    rw [hW0]
    have h := rdI_lit ((w.alloc (.cells #[.int .i64 1, .int .i64 2] 3)).alloc (.cells #[.int .i64 0, .int .i64 3, .slice (some ⟨w.heap.size, 0, none⟩) 2 2, .bool false, .int .i64 0, .slice none 0 0] 27)) (w.heap.size + 1 + 1) (by simp) [1, 2, 9] (fun n hn => by simp at hn; rcases hn with rfl | rfl | rfl <;> exact i64_l (by decide) (by decide)) (by simp) #[.int .i64 1, .int .i64 2, .int .i64 9] rfl 3 rfl
    exact h.below ((Below.refl _ _).alloc (Nat.le_refl _) _) (Nat.le_refl _)
  have hX : Bn W0 (w.heap.size + 1) #[.int .i64 0, .int .i64 3, .slice (some ⟨w.heap.size, 0, none⟩) 2 2, .bool false, .int .i64 0, .slice none 0 0] := by
    rw [hW0]
    unfold Bn
    rw [Below.heap_alloc _ _ _ (by simp), Below.heap_alloc _ _ _ (by simp)]
    exact new_two w _ _
  have hY : Bn W0 (w.heap.size + 1 + 1 + 1) #[.int .i64 1, .int .i64 3, .slice (some ⟨w.heap.size + 1 + 1, 0, none⟩) 3 3, .bool false, .int .i64 0, .slice none 0 0] := by
    rw [hW0]
    have h := heap_alloc_new (((w.alloc (.cells #[.int .i64 1, .int .i64 2] 3)).alloc (.cells #[.int .i64 0, .int .i64 3, .slice (some ⟨w.heap.size, 0, none⟩) 2 2, .bool false, .int .i64 0, .slice none 0 0] 27)).alloc (.cells #[.int .i64 1, .int .i64 2, .int .i64 9] 3)) (.cells #[.int .i64 1, .int .i64 3, .slice (some ⟨w.heap.size + 1 + 1, 0, none⟩) 3 3, .bool false, .int .i64 0, .slice none 0 0] 27)
    unfold Bn
    simpa using h
  have HSA : Hid (∀ W, Below W0.heap.size W0 W → SnV W (.agg #[.int .i64 0, .int .i64 3, .slice (some ⟨w.heap.size, 0, none⟩) 2 2, .bool false, .int .i64 0, .slice none 0 0]) awA) := hide (fun W h => ⟨_, _, rfl, hrA.below h (Nat.le_refl _), i3, i00, RdE.nil _, i00⟩)
  have HSB : Hid (∀ W, Below W0.heap.size W0 W → SnV W (.agg #[.int .i64 1, .int .i64 3, .slice (some ⟨w.heap.size + 1 + 1, 0, none⟩) 3 3, .bool false, .int .i64 0, .slice none 0 0]) awB) := hide (fun W h => ⟨_, _, rfl, hrB.below h (Nat.le_refl _), i3, i00, RdE.nil _, i1⟩)
  have HDI := hide (diff_any _ awA _ awB W0 (HSA.out W0 (Below.refl _ _)) (HSB.out W0 (Below.refl _ _)))
  rw [aw_diff] at HDI
  unfold GivenD awD at HDI
  dsimp only at HDI
  have HAP := hide (fun va vd W (ha : SnV W va awA) (hd : DlV W vd awD) => apply_any va awA vd awD W ha hd (by decide))
  rw [aw_apply] at HAP
  unfold DecodedN at HAP
  have HSM := hide (fun va vb W (ha : SnV W va awB) (hb : SnV W vb awB) => sameN_any va awB vb awB W ha hb)
  rw [decide_eq_true (show SameN awB awB from ⟨⟨rfl, rfl, rfl, rfl⟩, rfl, rfl⟩)] at HSM
  have HB0 := hide hB0
  have HX0 := hide hX
  have HY0 := hide hY
  have HW0 := hide hW0
  obtain ⟨⟨p0, p1, p2, p3, p4, p5⟩, -⟩ := hX.all
  obtain ⟨⟨q0, q1, q2, q3, q4, q5⟩, -⟩ := hY.all
  clear hW0 b1 hB0 hrA hrB hX hY
  go_enter Try.func8, Try.ntmps8
  go_upto_region 3 with fail
  rw [← HW0.out]
  clear HW0
  go_wp2_with fail
  refine HDI.out.mono ?_
  rintro e W1 ⟨vm, vt, rfl, hm1, ht1, hi1, -, -, hb1⟩
  have HX1 := hide (HX0.out.below hb1 (Nat.le_refl _))
  have HY1 := hide (HY0.out.below hb1 (Nat.le_refl _))
  have HB1 := hide hb1
  have HD1 : Hid (∀ W, Below W1.heap.size W1 W → DlV W (.agg #[.int .i64 0, .int .i64 1, .int .i64 2, .int .i64 0, vm, .bool false, .int .i64 0, vt]) awD) := hide (fun W h => ⟨vm, vt, rfl, hm1.below h (Nat.le_refl _), ht1.below h (Nat.le_refl _), hi1⟩)
  obtain ⟨ma, mc, rfl, -, -, -, -, hmo⟩ := hm1
  obtain ⟨ta, tc, hvt⟩ := ht1.shape
  subst hvt
  rcases hmo with h | ⟨mb, mo, rfl, hmo⟩
  · cases h
  have hq := hmo 0 (by decide)
  have HQ := hide hq
  have hl9 : ([9] : List Int).length = 1 := rfl
  have hl0 : ([] : List Ent).length = 0 := rfl
  rw [hl9, hl0] at HD1 ⊢
  obtain ⟨QD, hQD⟩ : ∃ QD, QD = W1.heap.size := ⟨_, rfl⟩
  obtain ⟨W2, hW2⟩ : ∃ W2, W2 = W1.alloc (.cells #[.int .i64 0, .int .i64 1, .int .i64 2, .int .i64 0, .slice (some ⟨mb, mo, none⟩) 1 mc, .bool false, .int .i64 0, .slice ta 0 tc] 31) := ⟨_, rfl⟩
  have hA2 : Below W1.heap.size W1 W2 := by rw [hW2]; exact (Below.refl _ _).alloc (Nat.le_refl _) _
  have HZ2 : Hid (Bd W2 QD #[.int .i64 0, .int .i64 1, .int .i64 2, .int .i64 0, .slice (some ⟨mb, mo, none⟩) 1 mc, .bool false, .int .i64 0, .slice ta 0 tc]) := hide (by rw [hW2, hQD]; exact heap_alloc_new W1 _)
  have HX2 := hide (HX1.out.below hA2 (Nat.le_refl _))
  have HY2 := hide (HY1.out.below hA2 (Nat.le_refl _))
  have HB2 := hide (HB1.out.trans (hA2.mono HB1.out.size))
  have HA2 := hide hA2
  have HW2 := hide hW2
  have HAQ := hide (HAP.out _ _ W2 (HSA.out W2 HB2.out) (HD1.out W2 hA2))
  clear hb1 ht1 hi1 hmo hq HDI p0 p1 p2 p3 p4 p5 q0 q1 q2 q3 q4 q5 hW2 hA2 HAP HX0 HY0 HX1 HY1 HB1
  go_upto_region 4 with fail
  rw [← HW2.out, ← hQD]
  clear HW2 hQD
  obtain ⟨⟨p0, p1, p2, p3, p4, p5⟩, -⟩ := HX2.out.all
  obtain ⟨⟨d0, d1, d2, d3, d4, d5, d6, d7⟩, -⟩ := HZ2.out.all
  go_wp2_with fail
  refine HAQ.out.mono ?_
  rintro e W3 ⟨vl, vs, rfl, hl3, hk3, he3, ht3, hi3, -, -, hb3⟩
  have HS3 : Hid (∀ W, Below W3.heap.size W3 W → SnV W (.agg #[.int .i64 awB.idx, .int .i64 awB.st.kind, vl, .bool awB.st.shut, .int .i64 awB.st.eng, vs]) awB) := hide (fun W h => ⟨vl, vs, rfl, hl3.below h (Nat.le_refl _), hk3, he3, ht3.below h (Nat.le_refl _), hi3⟩)
  obtain ⟨la, lc, hvl⟩ := hl3.shape
  obtain ⟨sa, sc, hvs⟩ := ht3.shape
  subst hvl hvs
  have HY3 := hide (HY2.out.below hb3 (Nat.le_refl _))
  have HZ3 := hide (HZ2.out.below hb3 (Nat.le_refl _))
  have HB3 := hide (HB2.out.trans (hb3.mono HB2.out.size))
  have HQ3 : Hid (W3.cell? ⟨mb, mo, none⟩ = some (.int .i64 9)) := hide (by
    have h1 := (HA2.out.cell (World.block_lt_of_cell? _ _ HQ.out)).trans HQ.out
    have h := (hb3.cell (World.block_lt_of_cell? _ _ h1)).trans h1
    rwa [Nat.add_zero] at h)
  unfold awB at HS3 ⊢
  dsimp only at HS3 ⊢
  have hl3' : ([1, 2, 9] : List Int).length = 3 := rfl
  rw [hl3', hl0] at HS3 ⊢
  obtain ⟨W4, hW4⟩ : ∃ W4, W4 = W3.alloc (.cells #[.int .i64 1, .int .i64 3, .slice la 3 lc, .bool false, .int .i64 0, .slice sa 0 sc] 27) := ⟨_, rfl⟩
  obtain ⟨QS, hQS⟩ : ∃ QS, QS = W3.heap.size := ⟨_, rfl⟩
  have hA4 : Below W3.heap.size W3 W4 := by rw [hW4]; exact (Below.refl _ _).alloc (Nat.le_refl _) _
  have HT4 : Hid (Bn W4 QS #[.int .i64 1, .int .i64 3, .slice la 3 lc, .bool false, .int .i64 0, .slice sa 0 sc]) := hide (by rw [hW4, hQS]; exact heap_alloc_new W3 _)
  have HY4 := hide (HY3.out.below hA4 (Nat.le_refl _))
  have HZ4 := hide (HZ3.out.below hA4 (Nat.le_refl _))
  have HB4 := hide (HB3.out.trans (hA4.mono HB3.out.size))
  have q9 : W4.cell? ⟨mb, mo, none⟩ = some (.int .i64 9) := (hA4.cell (World.block_lt_of_cell? _ _ HQ3.out)).trans HQ3.out
  have HSQ := hide (HSM.out _ _ W4 (HSB.out W4 HB4.out) (HS3.out W4 hA4))
  have HW4 := hide hW4
  clear hb3 hl3 hk3 he3 ht3 hi3 HAQ p0 p1 p2 p3 p4 p5 d0 d1 d2 d3 d4 d5 d6 d7 hW4 hA4 HSM HX2 HY2 HZ2 HY3 HZ3 HQ HQ3 HA2 HSA HSB HS3 HD1
  go_upto_region 5 with fail
  rw [← HW4.out, ← hQS]
  clear HW4 hQS
  obtain ⟨⟨d0, d1, d2, d3, d4, d5, d6, d7⟩, -⟩ := HZ4.out.all
  obtain ⟨⟨p0, p1, p2, p3, p4, p5⟩, -⟩ := HY4.out.all
  obtain ⟨⟨q0, q1, q2, q3, q4, q5⟩, -⟩ := HT4.out.all
  go_wp2_with fail
  refine HSQ.out.mono ?_
  rintro e W5 ⟨rfl, hb5⟩
  have HB5 := hide (HB4.out.trans (hb5.mono HB4.out.size))
  clear hb5 HSQ
  go_wp2
  go_ret
  exact ⟨rfl, HB0.out.trans (HB5.out.mono HB0.out.size)⟩

end Go.Proofs.Ytgpdbboieokldaa
