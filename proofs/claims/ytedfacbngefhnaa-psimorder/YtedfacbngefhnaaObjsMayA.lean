/- Contracts of objs: mayLine, mayPairs. -/
import Derived.Test.YtedfacbngefhnaaObjsIs
namespace Go.Proofs.Ytedfacbngefhnaa
open Go.RowKit

set_option maxRecDepth 100000 in
set_option maxHeartbeats 1000000 in
theorem mayLine_any (v : Value) (l : List Int) (a b : Nat) (w : World) (hr : RdI w v l) (ha : w.cell? ⟨a, 0, none⟩ = some (.int .i64 (-1099511627776))) (hb : w.cell? ⟨b, 0, none⟩ = some (.int .i64 1099511627776)) :
    Calls Try.prog 40 #[v, .func (.func 39) #[] #[.pointer (some ⟨a, 0, none⟩), .pointer (some ⟨b, 0, none⟩)]] w fun e w' => e = .returned (.bool (decide (l.length ≤ 64 ∧ InBounds l))) ∧ w' = w := by
  have HI := hide' (fun n => is_any n _ _ a b w ha hb)
  obtain ⟨ao, cap, rfl, -, -, -, -, hao⟩ := hr
  have HAO := hide' hao
  clear hao ha hb
  obtain ⟨R, hR⟩ : ∃ R, R = decide (l.length ≤ 64 ∧ InBounds l) := ⟨_, rfl⟩
  rw [← hR]
  have HR := hide' hR
  clear hR
  by_cases h64 : l.length ≤ 64
  · have hq : ¬ (64 < (l.length : Int)) := by omega
    go_enter Try.func40, Try.ntmps40
    go_wp2
    go_loop [12] (fun i => ∃ k : Nat, i = .int .i64 k ∧ k ≤ l.length ∧ Hid (∀ j, j < k → -1099511627776 ≤ l.getD j 0 ∧ l.getD j 0 ≤ 1099511627776)) (fun i => l.length - (intOf i).toNat)
    case atStart => exact ⟨0, rfl, Nat.zero_le _, fun j hj => by omega⟩
    case round =>
      obtain ⟨k, rfl, hk, hall⟩ := hrel
      by_cases hlt : k < l.length
      · rcases HAO.out with h0 | ⟨g, off, rfl, hc⟩
        · rw [h0] at hlt; simp at hlt
        have hck := hc k hlt
        clear hc
        obtain ⟨y, hy⟩ : ∃ y, y = l.getD k 0 := ⟨_, rfl⟩
        rw [← hy] at hck
        have HY := hide' hy
        clear hy
        by_cases hin : -1099511627776 ≤ y ∧ y ≤ 1099511627776
        · have HD := hide' (decide_eq_true hin)
          have HN := hide' hin
          clear hin
          go_wp2_with (first | (go_at_call 39; refine (HI.out _).mono ?_; rintro e w2 ⟨rfl, rfl⟩; rw [HD.out]))
          go_round
          case rel =>
            refine ⟨k + 1, by go_num, by omega, fun j hj => ?_⟩
            by_cases e : j = k
            · rw [e, ← HY.out]; exact HN.out
            · exact hall.out j (by omega)
          case measure => simp [intOf]; omega
        · have HD := hide' (decide_eq_false hin)
          have HN := hide' hin
          clear hin
          go_wp2_with (first | (go_at_call 39; refine (HI.out _).mono ?_; rintro e w2 ⟨rfl, rfl⟩; rw [HD.out]))
          go_ret
          refine ⟨ret_b (HR.out.trans (decide_eq_false fun h => HN.out ?_)).symm, rfl⟩
          rw [HY.out]
          exact h.2 k hlt
      · go_wp2
        go_ret
        exact ⟨ret_b (HR.out.trans (decide_eq_true ⟨h64, fun j hj => hall.out j (by omega)⟩)).symm, rfl⟩
  · have hq : 64 < (l.length : Int) := by omega
    have HD : Hid (decide (l.length ≤ 64 ∧ InBounds l) = false) := decide_eq_false (fun h => h64 h.1)
    go_enter Try.func40, Try.ntmps40
    go_wp2
    go_ret
    exact ⟨ret_b (HR.out.trans HD.out).symm, rfl⟩

/-- What the next key may be at the least. -/
def leastAt (l : List Int) (k : Nat) : Int := if k = 0 then 0 else l.getD (k - 2) 0 + 1

theorem pairAt_least {lo : Int} {l : List Int} {k : Nat} (hk : k % 2 = 0) (hall : ∀ j, j < k → j % 2 = 0 → PairAt lo l j) : PairAt lo l k ↔ (leastAt l k ≤ l.getD k 0 ∧ l.getD k 0 ≤ 255) ∧ lo ≤ l.getD (k + 1) 0 ∧ l.getD (k + 1) 0 ≤ 1099511627776 := by
  unfold PairAt leastAt
  by_cases h0 : k = 0
  · subst h0
    simp
    omega
  · rw [if_neg h0]
    have hp := (hall (k - 2) (by omega) (by omega)).1
    constructor
    · rintro ⟨h1, h2, h3, h4, h5⟩
      exact ⟨⟨by have := h3 (by omega); omega, h2⟩, h4, h5⟩
    · rintro ⟨⟨h1, h2⟩, h4, h5⟩
      exact ⟨by omega, h2, fun _ => by omega, h4, h5⟩

set_option maxRecDepth 100000 in
set_option maxHeartbeats 1000000 in
theorem mayPairs_any (v : Value) (l : List Int) (lo : Int) (a b : Nat) (w : World) (hr : RdI w v l) (ha : w.cell? ⟨a, 0, none⟩ = some (.int .i64 lo)) (hb : w.cell? ⟨b, 0, none⟩ = some (.int .i64 1099511627776)) :
    Calls Try.prog 41 #[v, .func (.func 39) #[] #[.pointer (some ⟨a, 0, none⟩), .pointer (some ⟨b, 0, none⟩)]] w fun e w' => e = .returned (.bool (decide (PairsOk lo l))) ∧ Below w.heap.size w w' := by
  have HI : Hid (∀ n W, Below w.heap.size w W → Calls Try.prog 39 #[.int .i64 n, .pointer (some ⟨a, 0, none⟩), .pointer (some ⟨b, 0, none⟩)] W fun e w' => e = .returned (.bool (decide (lo ≤ n ∧ n ≤ 1099511627776))) ∧ w' = W) := fun n W h =>
    is_any n _ _ a b W ((h.cell (World.block_lt_of_cell? w ⟨a, 0, none⟩ ha)).trans ha) ((h.cell (World.block_lt_of_cell? w ⟨b, 0, none⟩ hb)).trans hb)
  have HS := hide' (fun n l2 h2 a2 b2 W p1 p2 => is_any n l2 h2 a2 b2 W p1 p2)
  have HW := hide' (fun p q W => within_any p q W)
  obtain ⟨ao, cap, rfl, -, -, -, -, hao⟩ := hr
  have HAO := hide' hao
  clear hao ha hb
  obtain ⟨R, hR⟩ : ∃ R, R = decide (PairsOk lo l) := ⟨_, rfl⟩
  rw [← hR]
  have HR := hide' hR
  clear hR
  by_cases he : l.length % 2 = 0
  · by_cases h128 : l.length ≤ 128
    · have hq1 : (((l.length : Int).tmod 2) != 0) = false := by rw [bne_eq_false_iff_eq, Int.tmod_eq_emod_of_nonneg (by omega)]; omega
      have hq : ¬ (128 < (l.length : Int)) := by omega
      go_enter Try.func41, Try.ntmps41
      go_wp2
      go_loopw [5, 6] (fun y i wr => ∃ k : Nat, y = .int .i64 (leastAt l k) ∧ i = .int .i64 k ∧ k ≤ l.length ∧ k % 2 = 0 ∧ Hid (∀ j, j < k → j % 2 = 0 → PairAt lo l j) ∧ Hid (Below w.heap.size w wr)) (fun _ i _ => l.length - (intOf i).toNat)
      case atStart => exact ⟨0, rfl, rfl, Nat.zero_le _, rfl, fun j hj => by omega, Below.refl _ _⟩
      case round =>
        obtain ⟨k, rfl, rfl, hk, hk2, hall, hbel⟩ := hrel
        by_cases hlt : k < l.length
        · rcases HAO.out with h0 | ⟨g, off, rfl, hc⟩
          · rw [h0] at hlt; simp at hlt
          have hlt1 : k + 1 < l.length := by omega
          have HC0 : Hid (∀ W, Below w.heap.size w W → W.cell? ⟨g, off + k, none⟩ = some (.int .i64 (l.getD k 0))) := fun W h => (h.cell (World.block_lt_of_cell? w ⟨g, off + k, none⟩ (hc k hlt))).trans (hc k hlt)
          have HC1 : Hid (∀ W, Below w.heap.size w W → W.cell? ⟨g, off + (k + 1), none⟩ = some (.int .i64 (l.getD (k + 1) 0))) := fun W h => (h.cell (World.block_lt_of_cell? w ⟨g, off + (k + 1), none⟩ (hc (k + 1) hlt1))).trans (hc (k + 1) hlt1)
          clear hc
          have HP := hide' (pairAt_least (lo := lo) hk2 hall.out)
          have HLS : Hid (leastAt l (k + 2) = l.getD k 0 + 1) := by
            unfold leastAt
            rw [if_neg (by omega)]
            exact rfl
          generalize leastAt l k = ls at *
          obtain ⟨y, hy⟩ : ∃ y, y = l.getD k 0 := ⟨_, rfl⟩
          obtain ⟨z, hz⟩ : ∃ z, z = l.getD (k + 1) 0 := ⟨_, rfl⟩
          rw [← hy] at HC0 HP HLS
          rw [← hz] at HC1 HP
          have HEY := hide' hy
          clear hy hz
          by_cases hy : ls ≤ y ∧ y ≤ 255
          · have HD1 := hide' (decide_eq_true hy)
            have HY := hide' hy
            by_cases hz : lo ≤ z ∧ z ≤ 1099511627776
            · have HD2 := hide' (decide_eq_true hz)
              have HZ := hide' hz
              have hy255 := hy.2
              have hy0 : 0 ≤ y := by rw [HEY.out]; exact (HP.out.2 ⟨HY.out, HZ.out⟩).1
              clear hy hz
              go_wp2_with fail
              refine (HW.out _ _ _).mono ?_
              rintro e W1 ⟨a2, b2, rfl, hc1, hc2, hb1⟩
              have HB1 := hide' (hbel.out.trans (hb1.mono hbel.out.size))
              have hg0 := HC0.out _ HB1.out
              have hg1 := HC1.out _ HB1.out
              clear hb1
              go_wp2_with fail
              refine (HS.out _ _ _ _ _ _ hc1 hc2).mono ?_
              rintro e W2 ⟨rfl, rfl⟩
              rw [HD1.out]
              go_wp2_with fail
              refine (HI.out _ _ HB1.out).mono ?_
              rintro e W3 ⟨rfl, rfl⟩
              rw [HD2.out]
              go_wp2
              go_roundw
              case rel =>
                refine ⟨k + 2, by rw [HLS.out], by go_num, by omega, by omega, fun j hj hj2 => ?_, HB1⟩
                by_cases e : j = k
                · rw [e]; exact HP.out.2 ⟨HY.out, HZ.out⟩
                · exact hall.out j (by omega) hj2
              case measure => simp [intOf]; omega
            · have HD2 := hide' (decide_eq_false hz)
              have HZ := hide' hz
              clear hy hz
              go_wp2_with fail
              refine (HW.out _ _ _).mono ?_
              rintro e W1 ⟨a2, b2, rfl, hc1, hc2, hb1⟩
              have HB1 := hide' (hbel.out.trans (hb1.mono hbel.out.size))
              have hg0 := HC0.out _ HB1.out
              have hg1 := HC1.out _ HB1.out
              clear hb1
              go_wp2_with fail
              refine (HS.out _ _ _ _ _ _ hc1 hc2).mono ?_
              rintro e W2 ⟨rfl, rfl⟩
              rw [HD1.out]
              go_wp2_with fail
              refine (HI.out _ _ HB1.out).mono ?_
              rintro e W3 ⟨rfl, rfl⟩
              rw [HD2.out]
              go_wp2
              go_ret
              exact ⟨ret_b (HR.out.trans (decide_eq_false fun h => HZ.out (HP.out.1 (h.2.2 k hlt hk2)).2)).symm, HB1.out⟩
          · have HD1 := hide' (decide_eq_false hy)
            have HY := hide' hy
            clear hy
            go_wp2_with fail
            refine (HW.out _ _ _).mono ?_
            rintro e W1 ⟨a2, b2, rfl, hc1, hc2, hb1⟩
            have HB1 := hide' (hbel.out.trans (hb1.mono hbel.out.size))
            have hg0 := HC0.out _ HB1.out
            have hg1 := HC1.out _ HB1.out
            clear hb1
            go_wp2_with fail
            refine (HS.out _ _ _ _ _ _ hc1 hc2).mono ?_
            rintro e W2 ⟨rfl, rfl⟩
            rw [HD1.out]
            go_wp2
            go_ret
            exact ⟨ret_b (HR.out.trans (decide_eq_false fun h => HY.out (HP.out.1 (h.2.2 k hlt hk2)).1)).symm, HB1.out⟩
        · go_wp2
          go_ret
          exact ⟨ret_b (HR.out.trans (decide_eq_true ⟨he, h128, fun j hj hj2 => hall.out j (by omega) hj2⟩)).symm, hbel.out⟩
    · have hq1 : (((l.length : Int).tmod 2) != 0) = false := by rw [bne_eq_false_iff_eq, Int.tmod_eq_emod_of_nonneg (by omega)]; omega
      have hq : 128 < (l.length : Int) := by omega
      have HD : Hid (decide (PairsOk lo l) = false) := decide_eq_false (fun h => h128 h.2.1)
      go_enter Try.func41, Try.ntmps41
      go_wp2
      go_ret
      exact ⟨ret_b (HR.out.trans HD.out).symm, Below.refl _ _⟩
  · have hq1 : (((l.length : Int).tmod 2) != 0) = true := by rw [bne_iff_ne, Int.tmod_eq_emod_of_nonneg (by omega)]; omega
    have HD : Hid (decide (PairsOk lo l) = false) := decide_eq_false (fun h => he h.1)
    go_enter Try.func41, Try.ntmps41
    go_wp2
    go_ret
    exact ⟨ret_b (HR.out.trans HD.out).symm, Below.refl _ _⟩

end Go.Proofs.Ytedfacbngefhnaa
