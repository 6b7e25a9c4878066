/- Contract of ferrymanref04.pairs. -/
import Derived.Test.YtedfacbngefhnaaPack3
namespace Go.Proofs.Ytedfacbngefhnaa
open Go.RowKit

set_option maxRecDepth 100000 in
set_option maxHeartbeats 2000000 in
theorem refPairs_any (v : Value) (l : List Int) (least : Int) (w : World) (hr : RdI w v l) :
    Calls Try.prog 26 #[v, .int .i64 least] w fun e w' => e = .returned (.bool (decide (PairsOk least l))) ∧ Below w.heap.size w w' := by
  obtain ⟨ao, cap, rfl, hlc, hcm, hn0, hi, hao⟩ := hr
  clear hn0 hi
  have hml : (l.length : Int) ≤ 9223372036854775807 := by unfold maxLen at hcm; omega
  have HAO := hide' hao
  clear hao hlc hcm
  by_cases h2 : l.length % 2 = 0
  · have h2' : ((l.length : Int).tmod 2 != 0) = false := by
      rw [bne_eq_false_iff_eq, Int.tmod_eq_emod_of_nonneg (by omega)]
      omega
    by_cases h128 : (l.length : Int) ≤ 128
    · go_enter Try.func26, Try.ntmps26
      go_wp2
      go_loopw [5] (fun i wr => ∃ k : Nat, i = .int .i64 k ∧ k ≤ l.length ∧ k % 2 = 0 ∧ Hid (∀ j, j < k → j % 2 = 0 → PairAt least l j) ∧ Hid (Below w.heap.size w wr)) (fun i _ => l.length - (intOf i).toNat)
      case atStart => exact ⟨0, rfl, by omega, rfl, fun j hj => by omega, Below.refl _ _⟩
      case round =>
        obtain ⟨k, rfl, hkl, hk2, hall, hb⟩ := hrel
        by_cases hlt : k < l.length
        · rcases HAO.out with hao | ⟨b, off, rfl, hc⟩
          · subst hao; simp at hlt
          have hcc : ∀ j, j < l.length → wr.cell? ⟨b, off + j, none⟩ = some (.int .i64 (l.getD j 0)) := fun j hj => by
            rw [hb.out.cell (World.block_lt_of_cell? w ⟨b, off + j, none⟩ (hc j hj))]; exact hc j hj
          have hc0 := hcc k hlt
          have hc1 := hcc (k + 1) (by omega)
          have hc2 := hcc (k - 2) (by omega)
          have hbk : (k : Int) < (l.length : Int) := by omega
          have hbk1 : (k : Int) + 1 < (l.length : Int) := by omega
          have HP : Hid (PairAt least l k ↔ (0 ≤ l.getD k 0 ∧ l.getD k 0 ≤ 255 ∧ (0 < k → l.getD (k - 2) 0 < l.getD k 0) ∧ least ≤ l.getD (k + 1) 0 ∧ l.getD (k + 1) 0 ≤ 1099511627776)) := Iff.rfl
          clear hc hcc
          generalize l.getD k 0 = y at *
          generalize l.getD (k + 1) 0 = z at *
          generalize l.getD (k - 2) 0 = x at *
          have HBd : Hid (Below w.heap.size w wr.drew) := hb.out.drew
          go_upto_region 6 with fail
          go_cut [65] (fun c wc => c = .bool (decide (¬ PairAt least l k)) ∧ Hid (Below w.heap.size w wc))
          case first =>
            by_cases g1 : y < 0
            · go_quiet (fail)
              go_wp2
              go_meet
              refine ⟨congrArg Value.bool ?_, below_drewN hb.out _⟩
              exact (decide_eq_true (p := ¬ PairAt least l k) (fun h => by have := HP.out.1 h; omega)).symm
            have d1 : decide (y < 0) = false := decide_eq_false g1
            by_cases g2 : 255 < y
            · go_quiet (fail)
              go_wp2
              go_meet
              refine ⟨congrArg Value.bool ?_, below_drewN hb.out _⟩
              exact (decide_eq_true (p := ¬ PairAt least l k) (fun h => by have := HP.out.1 h; omega)).symm
            have d2 : decide (255 < y) = false := decide_eq_false g2
            by_cases g3 : 0 < k
            · have g3' : (0 : Int) < (k : Int) := by omega
              have e2 : (k : Int) - 2 = ((k - 2 : Nat) : Int) := by omega
              by_cases g4 : y ≤ x
              · go_quiet (fail)
                go_wp2
                go_meet
                refine ⟨congrArg Value.bool ?_, below_drewN hb.out _⟩
                exact (decide_eq_true (p := ¬ PairAt least l k) (fun h => by have := HP.out.1 h; omega)).symm
              have d4 : decide (y ≤ x) = false := decide_eq_false g4
              by_cases g5 : z < least
              · go_quiet (fail)
                go_wp2
                go_meet
                refine ⟨congrArg Value.bool ?_, below_drewN hb.out _⟩
                exact (decide_eq_true (p := ¬ PairAt least l k) (fun h => by have := HP.out.1 h; omega)).symm
              have d5 : decide (z < least) = false := decide_eq_false g5
              by_cases g6 : 1099511627776 < z
              · go_quiet (fail)
                go_wp2
                go_meet
                refine ⟨congrArg Value.bool ?_, below_drewN hb.out _⟩
                exact (decide_eq_true (p := ¬ PairAt least l k) (fun h => by have := HP.out.1 h; omega)).symm
              have d6 : decide (1099511627776 < z) = false := decide_eq_false g6
              go_quiet (fail)
              go_wp2
              go_meet
              refine ⟨congrArg Value.bool ?_, below_drewN hb.out _⟩
              exact (decide_eq_false (p := ¬ PairAt least l k) (fun h => h (HP.out.2 (by omega)))).symm
            · have d3 : decide ((0 : Int) < (k : Int)) = false := decide_eq_false (by omega)
              by_cases g5 : z < least
              · go_quiet (fail)
                go_wp2
                go_meet
                refine ⟨congrArg Value.bool ?_, below_drewN hb.out _⟩
                exact (decide_eq_true (p := ¬ PairAt least l k) (fun h => by have := HP.out.1 h; omega)).symm
              have d5 : decide (z < least) = false := decide_eq_false g5
              by_cases g6 : 1099511627776 < z
              · go_quiet (fail)
                go_wp2
                go_meet
                refine ⟨congrArg Value.bool ?_, below_drewN hb.out _⟩
                exact (decide_eq_true (p := ¬ PairAt least l k) (fun h => by have := HP.out.1 h; omega)).symm
              have d6 : decide (1099511627776 < z) = false := decide_eq_false g6
              go_quiet (fail)
              go_wp2
              go_meet
              refine ⟨congrArg Value.bool ?_, below_drewN hb.out _⟩
              exact (decide_eq_false (p := ¬ PairAt least l k) (fun h => h (HP.out.2 (by omega)))).symm
          case rest =>
          obtain ⟨rfl, HB6⟩ := hcut
          by_cases hP : PairAt least l k
          · have hd : decide (¬ PairAt least l k) = false := decide_eq_false (fun h => h hP)
            have HPP := hide' hP
            rw [hd]
            clear hP hd HP hc0 hc1 hc2
            go_wp2
            go_roundw
            case rel =>
              refine ⟨k + 2, by go_num, by omega, by omega, fun j hj h2j => ?_, HB6⟩
              by_cases e : j = k
              · rw [e]; exact HPP.out
              · exact hall.out j (by omega) h2j
            case measure => simp [intOf]; omega
          · have hd : decide (¬ PairAt least l k) = true := decide_eq_true hP
            have HPP := hide' hP
            rw [hd]
            clear hP hd HP hc0 hc1 hc2
            go_wp2
            go_ret
            exact ⟨ret_b (decide_eq_false (p := PairsOk least l) (fun h => HPP.out (h.2.2 k hlt hk2))).symm, HB6.out⟩
        · go_wp2
          go_ret
          exact ⟨ret_b (decide_eq_true (p := PairsOk least l) ⟨h2, by omega, fun j hj => hall.out j (by omega)⟩).symm, hb.out⟩
    · go_enter Try.func26, Try.ntmps26
      go_wp2
      go_ret
      exact ⟨ret_b (decide_eq_false (p := PairsOk least l) (fun h => by have := h.2.1; omega)).symm, Below.refl _ _⟩
  · have h2' : ((l.length : Int).tmod 2 != 0) = true := by
      rw [bne_iff_ne, Ne, Int.tmod_eq_emod_of_nonneg (by omega)]
      omega
    go_enter Try.func26, Try.ntmps26
    go_wp2
    go_ret
    exact ⟨ret_b (decide_eq_false (p := PairsOk least l) (fun h => h2 h.1)).symm, Below.refl _ _⟩

end Go.Proofs.Ytedfacbngefhnaa
