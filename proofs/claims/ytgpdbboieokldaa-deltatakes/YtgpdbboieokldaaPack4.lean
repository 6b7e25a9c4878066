import Derived.Test.YtgpdbboieokldaaPack1
import Derived.Test.YtgpdbboieokldaaPack3
import Derived.Test.YtgpdbboieokldaaPack2
import Derived.Deep.QuietTactic
import Derived.BigQuiet
import Derived.Laws.StructEq
/- Contracts of ferrymanref04: cut, find, without, with, pairs. -/
namespace Go.Proofs.Ytgpdbboieokldaa
open Go.RowKit

set_option maxRecDepth 100000 in
theorem refCut_any (n : Int) (w : World) : Calls Try.prog 90 #[.int .i64 n] w fun e w' => e = .returned (.int .i64 (cutZ n)) ∧ w' = w := by
  by_cases h1 : n < -1099511627776
  · have HE : Hid (cutZ n = -1099511627776) := if_pos h1
    go_enter Try.func90, Try.ntmps90
    go_wp2
    go_ret
    exact ⟨ret_i HE.out.symm, rfl⟩
  · by_cases h2 : 1099511627776 < n
    · have HE : Hid (cutZ n = 1099511627776) := by unfold cutZ; rw [if_neg h1, if_pos h2]; exact rfl
      go_enter Try.func90, Try.ntmps90
      go_wp2
      go_ret
      exact ⟨ret_i HE.out.symm, rfl⟩
    · have HE : Hid (cutZ n = n) := by unfold cutZ; rw [if_neg h1, if_neg h2]; exact rfl
      go_enter Try.func90, Try.ntmps90
      go_wp2
      go_ret
      exact ⟨ret_i HE.out.symm, rfl⟩

end Go.Proofs.Ytgpdbboieokldaa

/- Contract of ferrymanref04.pairs. -/
namespace Go.Proofs.Ytgpdbboieokldaa
open Go.RowKit

set_option maxRecDepth 100000 in
set_option maxHeartbeats 2000000 in
theorem refPairs_any (v : Value) (l : List Int) (least : Int) (w : World) (hr : RdI w v l) :
    Calls Try.prog 89 #[v, .int .i64 least] w fun e w' => e = .returned (.bool (decide (PairsOk least l))) ∧ Below w.heap.size w w' := by
  obtain ⟨ao, cap, rfl, hlc, hcm, hn0, hi, hao⟩ := hr
  clear hn0 hi
  have hml : (l.length : Int) ≤ 9223372036854775807 := by unfold maxLen at hcm; omega
  have HAO := hide' hao
  clear hao hlc hcm
  by_cases h2 : l.length % 2 = 0
  · have h2' : ((l.length : Int).tmod 2 != 0) = false := by
      rw [bne_eq_false_iff_eq, Int.tmod_eq_emod_of_nonneg (by omega)]
      omega
    by_cases h128 : (l.length : Int) ≤ 128
    · go_enter Try.func89, Try.ntmps89
      go_wp2
      go_loopw [5] (fun i wr => ∃ k : Nat, i = .int .i64 k ∧ k ≤ l.length ∧ k % 2 = 0 ∧ Hid (∀ j, j < k → j % 2 = 0 → PairAt least l j) ∧ Hid (Below w.heap.size w wr)) (fun i _ => l.length - (intOf i).toNat)
      case atStart => exact ⟨0, rfl, by omega, rfl, fun j hj => by omega, Below.refl _ _⟩
      case round =>
        obtain ⟨k, rfl, hkl, hk2, hall, hb⟩ := hrel
        by_cases hlt : k < l.length
        · rcases HAO.out with hao | ⟨b, off, rfl, hc⟩
          · subst hao; simp at hlt
          have hcc : ∀ j, j < l.length → wr.cell? ⟨b, off + j, none⟩ = some (.int .i64 (l.getD j 0)) := fun j hj => by
            rw [hb.out.cell (World.block_lt_of_cell? w ⟨b, off + j, none⟩ (hc j hj))]; exact hc j hj
          have hc0 := hcc k hlt
          have hc1 := hcc (k + 1) (by omega)
          have hc2 := hcc (k - 2) (by omega)
          have hbk : (k : Int) < (l.length : Int) := by omega
          have hbk1 : (k : Int) + 1 < (l.length : Int) := by omega
          have HP : Hid (PairAt least l k ↔ (0 ≤ l.getD k 0 ∧ l.getD k 0 ≤ 255 ∧ (0 < k → l.getD (k - 2) 0 < l.getD k 0) ∧ least ≤ l.getD (k + 1) 0 ∧ l.getD (k + 1) 0 ≤ 1099511627776)) := Iff.rfl
          clear hc hcc
          generalize l.getD k 0 = y at *
          generalize l.getD (k + 1) 0 = z at *
          generalize l.getD (k - 2) 0 = x at *
          have HBd : Hid (Below w.heap.size w wr.drew) := hb.out.drew
          go_upto_region 6 with fail
          go_cut [65] (fun c wc => c = .bool (decide (¬ PairAt least l k)) ∧ Hid (Below w.heap.size w wc))
          case first =>
            by_cases g1 : y < 0
            · go_quiet (fail)
              go_wp2
              go_meet
              refine ⟨congrArg Value.bool ?_, below_drewN hb.out _⟩
              exact (decide_eq_true (p := ¬ PairAt least l k) (fun h => by have := HP.out.1 h; omega)).symm
            have d1 : decide (y < 0) = false := decide_eq_false g1
            by_cases g2 : 255 < y
            · go_quiet (fail)
              go_wp2
              go_meet
              refine ⟨congrArg Value.bool ?_, below_drewN hb.out _⟩
              exact (decide_eq_true (p := ¬ PairAt least l k) (fun h => by have := HP.out.1 h; omega)).symm
            have d2 : decide (255 < y) = false := decide_eq_false g2
            by_cases g3 : 0 < k
            · have g3' : (0 : Int) < (k : Int) := by omega
              have e2 : (k : Int) - 2 = ((k - 2 : Nat) : Int) := by omega
              by_cases g4 : y ≤ x
              · go_quiet (fail)
                go_wp2
                go_meet
                refine ⟨congrArg Value.bool ?_, below_drewN hb.out _⟩
                exact (decide_eq_true (p := ¬ PairAt least l k) (fun h => by have := HP.out.1 h; omega)).symm
              have d4 : decide (y ≤ x) = false := decide_eq_false g4
              by_cases g5 : z < least
              · go_quiet (fail)
                go_wp2
                go_meet
                refine ⟨congrArg Value.bool ?_, below_drewN hb.out _⟩
                exact (decide_eq_true (p := ¬ PairAt least l k) (fun h => by have := HP.out.1 h; omega)).symm
              have d5 : decide (z < least) = false := decide_eq_false g5
              by_cases g6 : 1099511627776 < z
              · go_quiet (fail)
                go_wp2
                go_meet
                refine ⟨congrArg Value.bool ?_, below_drewN hb.out _⟩
                exact (decide_eq_true (p := ¬ PairAt least l k) (fun h => by have := HP.out.1 h; omega)).symm
              have d6 : decide (1099511627776 < z) = false := decide_eq_false g6
              go_quiet (fail)
              go_wp2
              go_meet
              refine ⟨congrArg Value.bool ?_, below_drewN hb.out _⟩
              exact (decide_eq_false (p := ¬ PairAt least l k) (fun h => h (HP.out.2 (by omega)))).symm
            · have d3 : decide ((0 : Int) < (k : Int)) = false := decide_eq_false (by omega)
              by_cases g5 : z < least
              · go_quiet (fail)
                go_wp2
                go_meet
                refine ⟨congrArg Value.bool ?_, below_drewN hb.out _⟩
                exact (decide_eq_true (p := ¬ PairAt least l k) (fun h => by have := HP.out.1 h; omega)).symm
              have d5 : decide (z < least) = false := decide_eq_false g5
              by_cases g6 : 1099511627776 < z
              · go_quiet (fail)
                go_wp2
                go_meet
                refine ⟨congrArg Value.bool ?_, below_drewN hb.out _⟩
                exact (decide_eq_true (p := ¬ PairAt least l k) (fun h => by have := HP.out.1 h; omega)).symm
              have d6 : decide (1099511627776 < z) = false := decide_eq_false g6
              go_quiet (fail)
              go_wp2
              go_meet
              refine ⟨congrArg Value.bool ?_, below_drewN hb.out _⟩
              exact (decide_eq_false (p := ¬ PairAt least l k) (fun h => h (HP.out.2 (by omega)))).symm
          case rest =>
          obtain ⟨rfl, HB6⟩ := hcut
          by_cases hP : PairAt least l k
          · have hd : decide (¬ PairAt least l k) = false := decide_eq_false (fun h => h hP)
            have HPP := hide' hP
            rw [hd]
            clear hP hd HP hc0 hc1 hc2
            go_wp2
            go_roundw
            case rel =>
              refine ⟨k + 2, by go_num, by omega, by omega, fun j hj h2j => ?_, HB6⟩
              by_cases e : j = k
              · rw [e]; exact HPP.out
              · exact hall.out j (by omega) h2j
            case measure => simp [intOf]; omega
          · have hd : decide (¬ PairAt least l k) = true := decide_eq_true hP
            have HPP := hide' hP
            rw [hd]
            clear hP hd HP hc0 hc1 hc2
            go_wp2
            go_ret
            exact ⟨ret_b (decide_eq_false (p := PairsOk least l) (fun h => HPP.out (h.2.2 k hlt hk2))).symm, HB6.out⟩
        · go_wp2
          go_ret
          exact ⟨ret_b (decide_eq_true (p := PairsOk least l) ⟨h2, by omega, fun j hj => hall.out j (by omega)⟩).symm, hb.out⟩
    · go_enter Try.func89, Try.ntmps89
      go_wp2
      go_ret
      exact ⟨ret_b (decide_eq_false (p := PairsOk least l) (fun h => by have := h.2.1; omega)).symm, Below.refl _ _⟩
  · have h2' : ((l.length : Int).tmod 2 != 0) = true := by
      rw [bne_iff_ne, Ne, Int.tmod_eq_emod_of_nonneg (by omega)]
      omega
    go_enter Try.func89, Try.ntmps89
    go_wp2
    go_ret
    exact ⟨ret_b (decide_eq_false (p := PairsOk least l) (fun h => h2 h.1)).symm, Below.refl _ _⟩

end Go.Proofs.Ytgpdbboieokldaa

/- Contracts of ferrymanref04: May. -/
namespace Go.Proofs.Ytgpdbboieokldaa
open Go.RowKit

set_option maxRecDepth 100000 in
set_option maxHeartbeats 2000000 in
theorem refMay_any (v : Value) (s : St) (w : World) (hs : StV w v s) :
    Calls Try.prog 57 #[v] w fun e w' => e = .returned (.bool (decide (MayS s))) ∧ Below w.heap.size w w' := by
  obtain ⟨vl, rfl, hr, _, _⟩ := hs
  have HR := hide' hr
  have HP := hide' (fun w1 least (h : RdI w1 vl s.L) => refPairs_any vl s.L least w1 h)
  have HBA : Hid (∀ o, Below w.heap.size w (w.alloc o)) := fun o => (Below.refl _ _).alloc (Nat.le_refl _) o
  obtain ⟨ao, cap, rfl, hlc, hcm, hn0, hi, hao⟩ := hr
  have hml : (s.L.length : Int) ≤ 9223372036854775807 := by unfold maxLen at hcm; omega
  have HAO := hide' hao
  have HI := hide' hi
  clear hao hlc hcm hi hn0
  have HM := hide' (may_bad1 (s := s))
  have HN := hide' (may_nums (s := s))
  obtain ⟨kind, l, shut, g⟩ := s
  simp only at *
  by_cases hbad : g < 0 ∨ 2 < g ∨ (shut = false ∧ g ≠ 0) ∨ kind < 0 ∨ 6 ≤ kind
  · have HF : Hid (decide (MayS ⟨kind, l, shut, g⟩) = false) := decide_eq_false (HM.out hbad)
    have hc : (g < 0) ∨ (0 ≤ g ∧ 2 < g) ∨ (0 ≤ g ∧ g ≤ 2 ∧ shut = false ∧ (g != 0) = true) ∨ (0 ≤ g ∧ g ≤ 2 ∧ (shut = false ∧ g = 0) ∧ kind < 0) ∨ (0 ≤ g ∧ g ≤ 2 ∧ shut = true ∧ kind < 0) ∨ (0 ≤ g ∧ g ≤ 2 ∧ (shut = false ∧ g = 0) ∧ 0 ≤ kind ∧ 6 ≤ kind) ∨ (0 ≤ g ∧ g ≤ 2 ∧ shut = true ∧ 0 ≤ kind ∧ 6 ≤ kind) := by
      cases shut <;> simp at hbad ⊢ <;> omega
    clear hbad HM HN HP HAO HR HI
    rcases hc with h | ⟨h1, h2⟩ | ⟨h1, h2, rfl, h3⟩ | ⟨h1, h2, ⟨rfl, rfl⟩, h3⟩ | ⟨h1, h2, rfl, h3⟩ | ⟨h1, h2, ⟨rfl, rfl⟩, h3, h4⟩ | ⟨h1, h2, rfl, h3, h4⟩
    all_goals
      go_enter Try.func57, Try.ntmps57
      go_wp2
      go_ret
      exact ⟨ret_b HF.out.symm, HBA.out _⟩
  · have HF : Hid (MayS ⟨kind, l, shut, g⟩ ↔ NumsOk kind l) := HN.out (by omega) (by omega) (fun h => by
      cases shut
      · simp at hbad; omega
      · simp at h) (by omega) (by omega)
    have hg : 0 ≤ g ∧ g ≤ 2 ∧ 0 ≤ kind ∧ kind < 6 := by omega
    have hc : (shut = false ∧ g = 0) ∨ shut = true := by
      cases shut <;> simp at hbad ⊢ <;> omega
    obtain ⟨h1, h2, h3, h4⟩ := hg
    clear hbad HM HN
    by_cases k4 : kind = 4
    · subst k4
      have HD : Hid (decide (MayS ⟨4, l, shut, g⟩) = decide (PairsOk (-1099511627776) l)) := by
        rw [decide_eq_decide]
        exact HF.out
      rcases hc with ⟨rfl, rfl⟩ | rfl
      all_goals
        go_enter Try.func57, Try.ntmps57
        go_wp2_with fail
        refine (HP.out _ _ (HR.out.below (HBA.out _) (Nat.le_refl _))).mono ?_
        rintro e w2 ⟨rfl, hb2⟩
        have HB2 := hide' ((HBA.out _).trans (hb2.mono (HBA.out _).size))
        clear hb2
        go_wp2
        go_ret
        exact ⟨ret_b HD.out.symm, HB2.out⟩
    · by_cases k5 : kind = 5
      · subst k5
        have HD : Hid (decide (MayS ⟨5, l, shut, g⟩) = decide (PairsOk 0 l)) := by
          rw [decide_eq_decide]
          exact HF.out
        rcases hc with ⟨rfl, rfl⟩ | rfl
        all_goals
          go_enter Try.func57, Try.ntmps57
          go_wp2_with fail
          refine (HP.out _ _ (HR.out.below (HBA.out _) (Nat.le_refl _))).mono ?_
          rintro e w2 ⟨rfl, hb2⟩
          have HB2 := hide' ((HBA.out _).trans (hb2.mono (HBA.out _).size))
          clear hb2
          go_wp2
          go_ret
          exact ⟨ret_b HD.out.symm, HB2.out⟩
      · have HFN : Hid (MayS ⟨kind, l, shut, g⟩ ↔ (l.length ≤ 64 ∧ (kind ≤ 1 → l.length = 1) ∧ InBounds l)) := by
          have h := HF.out
          unfold NumsOk at h
          rwa [if_neg k4, if_neg k5] at h
        have e4 : (kind == 4) = false := beq_eq_false_iff_ne.2 k4
        have e5 : (kind == 5) = false := beq_eq_false_iff_ne.2 k5
        clear k4 k5 HF HP
        by_cases hlen : (64 : Int) < l.length
        · have HD : Hid (decide (MayS ⟨kind, l, shut, g⟩) = false) := decide_eq_false (fun h => by have := (HFN.out.1 h).1; omega)
          rcases hc with ⟨rfl, rfl⟩ | rfl
          all_goals
            go_enter Try.func57, Try.ntmps57
            go_wp2
            go_ret
            exact ⟨ret_b HD.out.symm, HBA.out _⟩
        · by_cases hone : l.length = 1 ∨ 1 < kind
          · have HC : Hid (∀ n w, Calls Try.prog 90 #[.int .i64 n] w fun e w' => e = .returned (.int .i64 (cutZ n)) ∧ w' = w) := fun n w => refCut_any n w
            have h1c : ((l.length : Int) != 1) = false ∨ (((l.length : Int) != 1) = true ∧ 1 < kind) := by
              by_cases e : l.length = 1
              · left
                rw [bne_eq_false_iff_eq]
                omega
              · right
                refine ⟨?_, by omega⟩
                rw [bne_iff_ne]
                omega
            have HON := hide' hone
            clear hone
            rcases h1c with h1c | ⟨h1c, h1d⟩
            all_goals
              rcases hc with ⟨rfl, rfl⟩ | rfl
              all_goals
                go_enter Try.func57, Try.ntmps57
                go_wp2
                go_loopw [3] (fun i wr => ∃ k : Nat, i = .int .i64 k ∧ k ≤ l.length ∧ Hid (∀ j, j < k → -1099511627776 ≤ l.getD j 0 ∧ l.getD j 0 ≤ 1099511627776) ∧ Hid (wr.cell? ⟨w.heap.size, 1, none⟩ = some (.slice ao l.length cap)) ∧ Hid (Below w.heap.size w wr)) (fun i _ => l.length - (intOf i).toNat)
                case atStart => exact ⟨0, rfl, by omega, fun j hj => by omega, cell_of_row _ w.heap.size 1 _ _ (0, 0) (heap_alloc_new w _), HBA.out _⟩
                case round =>
                  obtain ⟨k, rfl, hkl, hall, hbox, hb⟩ := hrel
                  have hbx := hbox.out
                  by_cases hlt : k < l.length
                  · rcases HAO.out with hao | ⟨b, off, rfl, hc⟩
                    · subst hao; simp at hlt
                    have hc0 : wr.cell? ⟨b, off + k, none⟩ = some (.int .i64 (l.getD k 0)) := by
                      rw [hb.out.cell (World.block_lt_of_cell? w ⟨b, off + k, none⟩ (hc k hlt))]; exact hc k hlt
                    have HCE := hide' (cutZ_eq (l.getD k 0))
                    obtain ⟨y, hy⟩ : ∃ y, y = l.getD k 0 := ⟨_, rfl⟩
                    rw [← hy] at hc0 HCE
                    have HY := hide' hy
                    clear hc hy
                    by_cases hq : y = cutZ y
                    · have hqb : (y != cutZ y) = false := by rw [bne_eq_false_iff_eq]; exact hq
                      have HQ := hide' (HCE.out.1 hq)
                      clear hq
                      go_wp2
                      go_quiet ((go_at_call 90; exact Calls.quiet_of_same (HC.out _ _)))
                      go_wp2
                      go_roundw
                      case rel =>
                        refine ⟨k + 1, by go_num, by omega, fun j hj => ?_, hbx, below_drewN hb.out _⟩
                        by_cases e : j = k
                        · rw [e, ← HY.out]; exact HQ.out
                        · exact hall.out j (by omega)
                      case measure => simp [intOf]; omega
                    · have hqb : (y != cutZ y) = true := by rw [bne_iff_ne]; exact hq
                      have HQ : Hid (¬ (-1099511627776 ≤ y ∧ y ≤ 1099511627776)) := fun h => hq (HCE.out.2 h)
                      clear hq
                      go_wp2
                      go_quiet ((go_at_call 90; exact Calls.quiet_of_same (HC.out _ _)))
                      go_wp2
                      go_ret
                      refine ⟨ret_b (decide_eq_false (fun h => HQ.out ?_)).symm, below_drewN hb.out _⟩
                      have := (HFN.out.1 h).2.2 k hlt
                      rwa [← HY.out] at this
                  · go_wp2
                    go_ret
                    refine ⟨ret_b (decide_eq_true (HFN.out.2 ⟨by omega, fun h => ?_, fun j hj => hall.out j (by omega)⟩)).symm, hb.out⟩
                    rcases HON.out with h' | h'
                    · exact h'
                    · omega
          · have hk1 : kind ≤ 1 := by omega
            have h1c : ((l.length : Int) != 1) = true := by rw [bne_iff_ne]; omega
            have HD : Hid (decide (MayS ⟨kind, l, shut, g⟩) = false) := decide_eq_false (fun h => by have := (HFN.out.1 h).2.1; omega)
            clear hone
            rcases hc with ⟨rfl, rfl⟩ | rfl
            all_goals
              go_enter Try.func57, Try.ntmps57
              go_wp2
              go_ret
              exact ⟨ret_b HD.out.symm, HBA.out _⟩

end Go.Proofs.Ytgpdbboieokldaa

/- Contract of ferrymanref04: Fits. -/
namespace Go.Proofs.Ytgpdbboieokldaa
open Go.RowKit

end Go.Proofs.Ytgpdbboieokldaa

/- Contracts of ferrymanref04: Fits, Same. -/
namespace Go.Proofs.Ytgpdbboieokldaa
open Go.RowKit

set_option maxRecDepth 100000 in
set_option maxHeartbeats 2000000 in
theorem refSameS_any (va : Value) (a : St) (vb : Value) (b : St) (w : World) (ha : StV w va a) (hb : StV w vb b) :
    Calls Try.prog 35 #[va, vb] w fun e w' => e = .returned (.bool (decide (SameS a b))) ∧ Below w.heap.size w w' := by
  obtain ⟨vla, rfl, hra, _, _⟩ := ha
  obtain ⟨vlb, rfl, hrb, _, _⟩ := hb
  have HBA : Hid (∀ x y, Below w.heap.size w ((w.alloc x).alloc y)) := fun x y => ((Below.refl _ _).alloc (Nat.le_refl _) x).alloc (by simp) y
  obtain ⟨ao, cap, rfl, hlc, hcm, hn0, hi, hao⟩ := hra
  obtain ⟨bo, bcap, rfl, hlc', hcm', hn0', hi', hbo⟩ := hrb
  have hml : (a.L.length : Int) ≤ 9223372036854775807 := by unfold maxLen at hcm; omega
  have HAO := hide' hao
  have HBO := hide' hbo
  clear hao hbo hlc hcm hlc' hcm' hi hi' hn0 hn0'
  have HDF : Hid (SameS a b ↔ a.kind = b.kind ∧ a.shut = b.shut ∧ a.eng = b.eng ∧ a.L = b.L) := Iff.rfl
  obtain ⟨ka, la, sa, ga⟩ := a
  obtain ⟨kb, lb, sb, gb⟩ := b
  simp only at *
  have hc : ((ka != kb) = true) ∨ ((ka != kb) = false ∧ (sa != sb) = true) ∨ ((ka != kb) = false ∧ (sa != sb) = false ∧ (ga != gb) = true) ∨ ((ka != kb) = false ∧ (sa != sb) = false ∧ (ga != gb) = false ∧ ((la.length : Int) != (lb.length : Int)) = true) ∨ ((ka != kb) = false ∧ (sa != sb) = false ∧ (ga != gb) = false ∧ ((la.length : Int) != (lb.length : Int)) = false) := by
    cases (ka != kb) <;> cases (sa != sb) <;> cases (ga != gb) <;> cases ((la.length : Int) != (lb.length : Int)) <;> simp
  rcases hc with h1 | ⟨h1, h2⟩ | ⟨h1, h2, h3⟩ | ⟨h1, h2, h3, h4⟩ | ⟨h1, h2, h3, h4⟩
  · have HD : Hid (decide (SameS ⟨ka, la, sa, ga⟩ ⟨kb, lb, sb, gb⟩) = false) := decide_eq_false (fun h => by rw [bne_iff_ne] at h1; exact h1 (HDF.out.1 h).1)
    go_enter Try.func35, Try.ntmps35
    go_wp2
    go_ret
    exact ⟨ret_b HD.out.symm, HBA.out _ _⟩
  · have HD : Hid (decide (SameS ⟨ka, la, sa, ga⟩ ⟨kb, lb, sb, gb⟩) = false) := decide_eq_false (fun h => by rw [bne_iff_ne] at h2; exact h2 (HDF.out.1 h).2.1)
    have h2' : (sa = true ∧ sb = false) ∨ (sa = false ∧ sb = true) := by
      cases sa <;> cases sb <;> simp at h2 ⊢
    clear h2
    rcases h2' with ⟨rfl, rfl⟩ | ⟨rfl, rfl⟩
    all_goals
      go_enter Try.func35, Try.ntmps35
      go_wp2
      go_ret
      exact ⟨ret_b HD.out.symm, HBA.out _ _⟩
  · have HD : Hid (decide (SameS ⟨ka, la, sa, ga⟩ ⟨kb, lb, sb, gb⟩) = false) := decide_eq_false (fun h => by rw [bne_iff_ne] at h3; exact h3 (HDF.out.1 h).2.2.1)
    obtain rfl : sa = sb := by simpa using h2
    clear h2
    cases sa
    all_goals
      go_enter Try.func35, Try.ntmps35
      go_wp2
      go_ret
      exact ⟨ret_b HD.out.symm, HBA.out _ _⟩
  · have HD : Hid (decide (SameS ⟨ka, la, sa, ga⟩ ⟨kb, lb, sb, gb⟩) = false) := decide_eq_false (fun h => by rw [bne_iff_ne] at h4; exact h4 (by rw [(HDF.out.1 h).2.2.2]))
    obtain rfl : sa = sb := by simpa using h2
    clear h2
    cases sa
    all_goals
      go_enter Try.func35, Try.ntmps35
      go_wp2
      go_ret
      exact ⟨ret_b HD.out.symm, HBA.out _ _⟩
  · have HE : Hid (ka = kb ∧ sa = sb ∧ ga = gb ∧ la.length = lb.length) := by
      rw [bne_eq_false_iff_eq] at h1 h2 h3 h4
      exact ⟨h1, h2, h3, by omega⟩
    obtain rfl : sa = sb := HE.out.2.1
    clear h2
    go_enter Try.func35, Try.ntmps35
    go_wp2
    go_loopw [5] (fun i wr => ∃ k : Nat, i = .int .i64 k ∧ k ≤ la.length ∧ Hid (∀ j, j < k → la.getD j 0 = lb.getD j 0) ∧ Hid (wr.cell? ⟨w.heap.size, 1, none⟩ = some (.slice ao la.length cap)) ∧ Hid (wr.cell? ⟨w.heap.size + 1, 1, none⟩ = some (.slice bo lb.length bcap)) ∧ Hid (Below w.heap.size w wr)) (fun i _ => la.length - (intOf i).toNat)
    case atStart =>
      refine ⟨0, rfl, by omega, fun j hj => by omega, ?_, ?_, HBA.out _ _⟩
      · show World.cell? _ _ = _
        simp
      · show World.cell? _ _ = _
        simp
    case round =>
      obtain ⟨k, rfl, hkl, hall, hbox, hbox2, hb⟩ := hrel
      have hbx := hbox.out
      have hbx2 := hbox2.out
      by_cases hlt : k < la.length
      · rcases HAO.out with hao | ⟨b1, o1, rfl, hc1⟩
        · subst hao; simp at hlt
        rcases HBO.out with hao | ⟨b2, o2, rfl, hc2⟩
        · have e0 : lb.length = 0 := by rw [hao]; rfl
          have := HE.out.2.2.2
          omega
        have hc0 : wr.cell? ⟨b1, o1 + k, none⟩ = some (.int .i64 (la.getD k 0)) := by
          rw [hb.out.cell (World.block_lt_of_cell? w ⟨b1, o1 + k, none⟩ (hc1 k hlt))]; exact hc1 k hlt
        have hc0' : wr.cell? ⟨b2, o2 + k, none⟩ = some (.int .i64 (lb.getD k 0)) := by
          rw [hb.out.cell (World.block_lt_of_cell? w ⟨b2, o2 + k, none⟩ (hc2 k (by have := HE.out.2.2.2; omega)))]; exact hc2 k (by have := HE.out.2.2.2; omega)
        obtain ⟨y, hy⟩ : ∃ y, y = la.getD k 0 := ⟨_, rfl⟩
        obtain ⟨z, hz⟩ : ∃ z, z = lb.getD k 0 := ⟨_, rfl⟩
        rw [← hy] at hc0
        rw [← hz] at hc0'
        have HY := hide' hy
        have HZ := hide' hz
        have hlb : (k : Int) < (lb.length : Int) := by have := HE.out.2.2.2; omega
        clear hc1 hc2 hy hz
        by_cases hq : y = z
        · have hqb : (y != z) = false := by rw [bne_eq_false_iff_eq]; exact hq
          have HQ := hide' hq
          clear hq
          go_wp2
          go_quiet (fail)
          go_wp2
          go_roundw
          case rel =>
            refine ⟨k + 1, by go_num, by omega, fun j hj => ?_, hbx, hbx2, below_drewN hb.out _⟩
            by_cases e : j = k
            · rw [e, ← HY.out, ← HZ.out]; exact HQ.out
            · exact hall.out j (by omega)
          case measure => simp [intOf]; omega
        · have hqb : (y != z) = true := by rw [bne_iff_ne]; exact hq
          have HQ := hide' hq
          clear hq
          go_wp2
          go_quiet (fail)
          go_wp2
          go_ret
          refine ⟨ret_b (decide_eq_false (fun h => HQ.out ?_)).symm, below_drewN hb.out _⟩
          rw [HY.out, HZ.out, (HDF.out.1 h).2.2.2]
      · go_wp2
        go_ret
        refine ⟨ret_b (decide_eq_true (HDF.out.2 ⟨HE.out.1, HE.out.2.1, HE.out.2.2.1, getD_ext_int la lb HE.out.2.2.2 (fun j hj => hall.out j (by omega))⟩)).symm, hb.out⟩

end Go.Proofs.Ytgpdbboieokldaa

/- Contracts of ferrymanref09: Table, May, Same. -/
namespace Go.Proofs.Ytgpdbboieokldaa
open Go.RowKit

set_option maxRecDepth 100000 in
set_option maxHeartbeats 4000000 in
theorem refTable_any (v : Value) (l : List Ent) (w : World) (hr : RdE w v l) :
    Calls Try.prog 58 #[v] w fun e w' => e = .returned (.bool (decide (TabOk l))) ∧ Below w.heap.size w w' := by
  obtain ⟨ao, cap, rfl, hlc, hcm, -, -, hao⟩ := hr
  have hml : (l.length : Int) ≤ 9223372036854775807 := by unfold maxLen at hcm; omega
  have HAO := hide hao
  clear hao hlc hcm
  obtain ⟨D, hD⟩ : ∃ D, D = decide (TabOk l) := ⟨_, rfl⟩
  rw [← hD]
  have HDT : Hid (TabTo l l.length → D = true) := fun h => by rw [hD]; exact decide_eq_true h
  have HDF : Hid (∀ k, k ≤ l.length → ¬ TabTo l k → D = false) := fun k hk h => by rw [hD]; exact decide_eq_false (fun hf => h (TabTo.mono hf hk))
  have HP0 := hide (TabTo.zero l)
  clear hD
  go_enter Try.func58, Try.ntmps58
  go_wp2
  go_loopw [3] (fun vi wr => ∃ k : Nat, vi = .int .i64 (k : Int) ∧ k ≤ l.length ∧ Hid (TabTo l k) ∧ Hid (Below w.heap.size w wr)) (fun vi _ => l.length - (intOf vi).toNat)
  case atStart => exact ⟨0, rfl, Nat.zero_le _, HP0, Below.refl _ _⟩
  case round =>
    obtain ⟨k, rfl, hk, hP, hB⟩ := hrel
    by_cases hlt : k < l.length
    case neg =>
      obtain rfl : k = l.length := by omega
      have HT := hide (HDT.out hP.out)
      go_wp2
      go_ret
      rw [HT.out]
      exact ⟨rfl, hB.out⟩
    rcases HAO.out with h0 | ⟨c, off, rfl, hc⟩
    · rw [h0] at hlt; simp at hlt
    have hck := hc k hlt
    have hkc := hck.keep (hB.out.block c hck.lt)
    have hne1 : c ≠ wr.heap.size := by have := hkc.lt; omega
    obtain ⟨c0, c1, c2⟩ := hkc
    have HPN := hide (TabTo.next (t := l) (k := k))
    have HPV : Hid (0 < k → EntAt wr c (off + (k - 1) * 3) (l.getD (k - 1) zeroE)) := hide (fun h => (hc (k - 1) (by omega)).keep (hB.out.block c (hc (k - 1) (by omega)).lt))
    have HBA : Hid (∀ X, Below w.heap.size w (wr.alloc X)) := fun X => hB.out.alloc hB.out.size X
    have HDK : Hid (¬ TabTo l (k + 1) → D = false) := hide (HDF.out (k + 1) (by omega))
    have HX : Hid (∀ cs, Be (wr.alloc (.cells cs 55)) wr.heap.size cs) := fun cs => heap_alloc_new wr _
    obtain ⟨r, hr⟩ : ∃ r, r = l.getD k zeroE := ⟨_, rfl⟩
    rw [← hr] at HPN c0 c1 c2
    clear hc hck hr HDF
    obtain ⟨P, S, X⟩ := r
    dsimp only at HPN c0 c1 c2
    unfold EntOk at HPN
    dsimp only at HPN
    by_cases hp0 : P < 0
    · have HD := hide (HDK.out (fun h => by have := (HPN.out.1 h).2.1; omega))
      clear HPN HDK
      go_upto_region 5 with fail
      go_quiet (fail)
      go_wp2
      go_ret
      rw [HD.out]
      exact ⟨rfl, below_drewN (HBA.out _) _⟩
    have hp0d : decide (P < 0) = false := decide_eq_false hp0
    by_cases hp1 : 64 < P
    · have HD := hide (HDK.out (fun h => by have := (HPN.out.1 h).2.1; omega))
      clear HPN HDK
      go_upto_region 5 with fail
      go_quiet (fail)
      go_wp2
      go_ret
      rw [HD.out]
      exact ⟨rfl, below_drewN (HBA.out _) _⟩
    have hp1d : decide (64 < P) = false := decide_eq_false hp1
    by_cases hs0 : S < 0
    · have HD := hide (HDK.out (fun h => by have := (HPN.out.1 h).2.1; omega))
      clear HPN HDK
      go_upto_region 5 with fail
      go_quiet (fail)
      go_wp2
      go_ret
      rw [HD.out]
      exact ⟨rfl, below_drewN (HBA.out _) _⟩
    have hs0d : decide (S < 0) = false := decide_eq_false hs0
    by_cases hs1 : 4611686018427387904 ≤ S
    · have HD := hide (HDK.out (fun h => by have := (HPN.out.1 h).2.1; omega))
      clear HPN HDK
      go_upto_region 5 with fail
      go_quiet (fail)
      go_wp2
      go_ret
      rw [HD.out]
      exact ⟨rfl, below_drewN (HBA.out _) _⟩
    have hs1d : decide (4611686018427387904 ≤ S) = false := decide_eq_false hs1
    by_cases hx0 : X < -1125899906842624
    · have HD := hide (HDK.out (fun h => by have := (HPN.out.1 h).2.1; omega))
      clear HPN HDK
      go_upto_region 5 with fail
      go_quiet (fail)
      go_wp2
      go_ret
      rw [HD.out]
      exact ⟨rfl, below_drewN (HBA.out _) _⟩
    have hx0d : decide (X < -1125899906842624) = false := decide_eq_false hx0
    by_cases hx1 : 1125899906842624 < X
    · have HD := hide (HDK.out (fun h => by have := (HPN.out.1 h).2.1; omega))
      clear HPN HDK
      go_upto_region 5 with fail
      go_quiet (fail)
      go_wp2
      go_ret
      rw [HD.out]
      exact ⟨rfl, below_drewN (HBA.out _) _⟩
    have hx1d : decide (1125899906842624 < X) = false := decide_eq_false hx1
    have HEO : Hid (0 ≤ P ∧ P ≤ 64 ∧ 0 ≤ S ∧ S < 4611686018427387904 ∧ -1125899906842624 ≤ X ∧ X ≤ 1125899906842624) := hide ⟨by omega, by omega, by omega, by omega, by omega, by omega⟩
    clear hp0 hp1 hs0 hs1 hx0 hx1
    by_cases hk0 : k = 0
    · have HP1 := hide (HPN.out.2 ⟨hP.out, HEO.out, fun h => absurd h (by omega)⟩)
      have hkd : decide (0 < k) = false := decide_eq_false (by omega)
      have hki : decide ((0 : Int) < (k : Int)) = false := decide_eq_false (by omega)
      clear HPN HDK HPV hk0
      go_upto_region 5 with fail
      go_quiet (fail)
      go_wp2
      go_roundw
      case rel => exact ⟨k + 1, by go_num, by omega, HP1, below_drewN (HBA.out _) _⟩
      case measure => simp [intOf]; omega
    · obtain ⟨q, rfl⟩ : ∃ q, k = q + 1 := ⟨k - 1, by omega⟩
      clear hk0
      have hpw := HPV.out (by omega)
      have hpv : ∀ X, (wr.alloc X).cell? ⟨c, off + (q + 1 - 1) * 3, none⟩ = some (.int .i64 (l.getD (q + 1 - 1) zeroE).proc) := fun X => (hpw.keep (Below.heap_alloc _ _ _ hpw.lt)).1
      clear hpw
      rw [Nat.add_sub_cancel] at hpv HPN
      have hqi : ((q + 1 : Nat) : Int) - 1 = (q : Int) := by omega
      have hql : (q : Int) < (l.length : Int) := by omega
      have hq0 : (0 : Int) < ((q + 1 : Nat) : Int) := by omega
      clear HPV
      generalize (l.getD q zeroE).proc = P0 at *
      by_cases hge : P ≤ P0
      · have HD := hide (HDK.out (fun h => by have := (HPN.out.1 h).2.2 (by omega); omega))
        clear HPN HDK
        go_upto_region 5 with fail
        go_quiet (fail)
        go_wp2
        go_ret
        rw [HD.out]
        exact ⟨rfl, below_drewN (HBA.out _) _⟩
      · have hged : decide (P ≤ P0) = false := decide_eq_false hge
        have HP1 := hide (HPN.out.2 ⟨hP.out, HEO.out, fun _ => by omega⟩)
        clear HPN HDK hge
        go_upto_region 5 with fail
        go_quiet (fail)
        go_wp2
        go_roundw
        case rel => exact ⟨q + 1 + 1, by go_num, by omega, HP1, below_drewN (HBA.out _) _⟩
        case measure => simp [intOf]; omega

end Go.Proofs.Ytgpdbboieokldaa

/- Entries held against each other, number by number. -/
namespace Go.Proofs.Ytgpdbboieokldaa
open Go.RowKit

/-- Two entries, number by number. -/
def eqEnt (r s : Ent) : Bool := r.proc == s.proc && r.seq == s.seq && r.resp == s.resp

theorem eql_ent (w : World) (r s : Ent) : (binOp .eql 55 (.agg #[.int .i64 r.proc, .int .i64 r.seq, .int .i64 r.resp]) (.agg #[.int .i64 s.proc, .int .i64 s.seq, .int .i64 s.resp])).run Try.prog w = .ok (.bool (eqEnt r s)) w := by
  have u3 := Try.underlying3
  have a3 := Try.isAgg3
  have z3 := Try.sizeOf3
  have hS : Try.prog.underlying 55 = some (.struct (Try.prog.fieldsOf 55)) := by kernel_rfl
  have hp : Try.prog.stoodInHeld 55 = false := by kernel_rfl
  unfold eqEnt
  rw [run_eql_struct, show (10000 : Nat) = 9999 + 1 from rfl, run_equalIn_agg w 9999 55 _ _ hS hp]
  simp only [Program.fieldsOf, Try.underlying55]
  go_simp
  repeat' split
  all_goals simp_all

theorem neq_ent (w : World) (r s : Ent) : (binOp .neq 55 (.agg #[.int .i64 r.proc, .int .i64 r.seq, .int .i64 r.resp]) (.agg #[.int .i64 s.proc, .int .i64 s.seq, .int .i64 s.resp])).run Try.prog w = .ok (.bool (!eqEnt r s)) w := by
  have u3 := Try.underlying3
  have a3 := Try.isAgg3
  have z3 := Try.sizeOf3
  have hS : Try.prog.underlying 55 = some (.struct (Try.prog.fieldsOf 55)) := by kernel_rfl
  have hp : Try.prog.stoodInHeld 55 = false := by kernel_rfl
  unfold eqEnt
  rw [run_neq_struct, show (10000 : Nat) = 9999 + 1 from rfl, run_equalIn_agg w 9999 55 _ _ hS hp]
  simp only [Program.fieldsOf, Try.underlying55]
  go_simp
  repeat' split
  all_goals simp_all

theorem guard_ent : Try.prog.eqGuardType Try.prog.depth 55 = false := by kernel_rfl

theorem eqEnt_iff (r s : Ent) : eqEnt r s = true ↔ r = s := by
  obtain ⟨i, p, q⟩ := r
  obtain ⟨i', p', q'⟩ := s
  simp [eqEnt]
  constructor
  · rintro ⟨⟨rfl, rfl⟩, rfl⟩
    simp
  · rintro ⟨rfl, rfl, rfl⟩
    simp

theorem eqEnt_self (r : Ent) : eqEnt r r = true := (eqEnt_iff r r).2 rfl

theorem eqEnt_not {r s : Ent} (h : r ≠ s) : eqEnt r s = false := by
  cases hq : eqEnt r s
  · rfl
  · exact absurd ((eqEnt_iff _ _).1 hq) h

end Go.Proofs.Ytgpdbboieokldaa

/- Contracts of ferrymanref09: May, Same. -/
namespace Go.Proofs.Ytgpdbboieokldaa
open Go.RowKit

/-- A box of a snapshot. -/
def Bn (w : World) (b : Nat) (cs : Array Value) : Prop := w.heap[b]? = some (.cells cs 27 (0, 0))

theorem Bn.lt {w : World} {b : Nat} {cs : Array Value} (h : Bn w b cs) : b < w.heap.size := (Array.getElem?_eq_some_iff.1 h).1

theorem Bn.below {w w' : World} {b B : Nat} {cs : Array Value} (h : Bn w b cs) (hb : Below B w w') (hB : w.heap.size ≤ B) : Bn w' b cs := (hb.block b (by have := h.lt; omega)).trans h

theorem Bn.cell {w : World} {b : Nat} {cs : Array Value} (h : Bn w b cs) (j : Nat) : w.cell? ⟨b, j, none⟩ = cs[j]? ∧ w.frozen? ⟨b, j, none⟩ = false := ⟨cell_of_row w b j _ _ _ h, frozen_of_row w b j _ _ h⟩

theorem mayN_parts (s : Snap) : MayN s ↔ MayS s.st ∧ TabOk s.tab ∧ 0 ≤ s.idx ∧ s.idx < 4611686018427387904 := by
  unfold MayN
  constructor
  · rintro ⟨⟨h1, h2⟩, h3, h4⟩
    exact ⟨h3, h4, h1, h2⟩
  · rintro ⟨h3, h4, h1, h2⟩
    exact ⟨⟨h1, h2⟩, h3, h4⟩

set_option maxRecDepth 100000 in
set_option maxHeartbeats 4000000 in
theorem refMayN_any (v : Value) (s : Snap) (w : World) (hs : SnV w v s) :
    Calls Try.prog 29 #[v] w fun e w' => e = .returned (.bool (decide (MayN s))) ∧ Below w.heap.size w w' := by
  obtain ⟨vl, vt, rfl, hl, hk, he, ht, hi⟩ := hs
  obtain ⟨la, lc, e1⟩ : ∃ la lc, vl = .slice la s.st.L.length lc := by
    obtain ⟨a, c, h, -⟩ := hl
    exact ⟨a, c, h⟩
  obtain ⟨ta, tc, e2⟩ := ht.shape
  subst e1 e2
  have HL := hide hl
  have HT := hide ht
  have HSV : Hid (∀ W, Below w.heap.size w W → StV W (.agg #[.int .i64 s.st.kind, .slice la s.st.L.length lc, .bool s.st.shut, .int .i64 s.st.eng]) s.st) := hide (fun W h => ⟨_, rfl, HL.out.below h (Nat.le_refl _), hk, he⟩)
  have HMS := hide (fun W h => refMay_any _ s.st W (HSV.out W h))
  have HMT := hide (fun W (h : Below w.heap.size w W) => refTable_any _ s.tab W (HT.out.below h (Nat.le_refl _)))
  have HB0 : Hid (∀ X, Below w.heap.size w (w.alloc X)) := fun X => (Below.refl _ _).alloc (Nat.le_refl _) X
  have HX0 : Hid (∀ cs, Bn (w.alloc (.cells cs 27)) w.heap.size cs) := fun cs => heap_alloc_new w _
  have HPA := hide (mayN_parts s)
  obtain ⟨D, hD⟩ : ∃ D, D = decide (MayN s) := ⟨_, rfl⟩
  rw [← hD]
  have HD1 : Hid (MayN s → D = true) := fun h => by rw [hD]; exact decide_eq_true h
  have HD0 : Hid (¬ MayN s → D = false) := fun h => by rw [hD]; exact decide_eq_false h
  obtain ⟨A, hA⟩ : ∃ A, A = decide (MayS s.st) := ⟨_, rfl⟩
  obtain ⟨T, hT⟩ : ∃ T, T = decide (TabOk s.tab) := ⟨_, rfl⟩
  rw [← hA] at HMS
  rw [← hT] at HMT
  have HA := hide hA
  have HTT := hide hT
  clear hA hT hD hl ht hk he hi
  obtain ⟨idx, ⟨kind, L, shut, eng⟩, tab⟩ := s
  dsimp only at *
  go_enter Try.func29, Try.ntmps29
  go_wp2_with fail
  refine (HMS.out _ (HB0.out _)).mono ?_
  rintro e W1 ⟨rfl, hb1⟩
  have hx1 : Bn W1 w.heap.size _ := (HX0.out _).below hb1 (Nat.le_refl _)
  have HX1 := hide hx1
  have HB1 := hide ((HB0.out _).trans (hb1.mono (HB0.out _).size))
  obtain ⟨p5, -⟩ := hx1.cell 5
  clear hb1 hx1
  go_wp2_with fail
  refine (HMT.out _ HB1.out).mono ?_
  rintro e W2 ⟨rfl, hb2⟩
  have hx2 : Bn W2 w.heap.size _ := HX1.out.below hb2 (Nat.le_refl _)
  have HB2 := hide (HB1.out.trans (hb2.mono HB1.out.size))
  obtain ⟨q0, -⟩ := hx2.cell 0
  clear hb2 hx2 p5
  cases A with
  | false =>
    have HE := hide (HD0.out (fun h => of_decide_eq_false HA.out.symm (HPA.out.1 h).1))
    go_wp2
    go_ret
    rw [HE.out]
    exact ⟨rfl, HB2.out⟩
  | true =>
    cases T with
    | false =>
      have HE := hide (HD0.out (fun h => of_decide_eq_false HTT.out.symm (HPA.out.1 h).2.1))
      go_wp2
      go_ret
      rw [HE.out]
      exact ⟨rfl, HB2.out⟩
    | true =>
      by_cases h0 : 0 ≤ idx
      case neg =>
        have h0d : decide (0 ≤ idx) = false := decide_eq_false h0
        have HE := hide (HD0.out (fun h => h0 (HPA.out.1 h).2.2.1))
        clear h0
        go_wp2
        go_ret
        rw [HE.out]
        exact ⟨rfl, HB2.out⟩
      by_cases h1 : idx < 4611686018427387904
      case neg =>
        have h1d : decide (idx < 4611686018427387904) = false := decide_eq_false h1
        have HE := hide (HD0.out (fun h => h1 (HPA.out.1 h).2.2.2))
        clear h1
        go_wp2
        go_ret
        rw [HE.out]
        exact ⟨rfl, HB2.out⟩
      have HE := hide (HD1.out (HPA.out.2 ⟨of_decide_eq_true HA.out.symm, of_decide_eq_true HTT.out.symm, h0, h1⟩))
      go_wp2
      go_ret
      rw [HE.out]
      exact ⟨rfl, HB2.out⟩

theorem new_two (w : World) (X Y : Obj) : ((w.alloc X).alloc Y).heap[w.heap.size + 1]? = some Y := by
  have h := heap_alloc_new (w.alloc X) Y
  have e : (w.alloc X).heap.size = w.heap.size + 1 := by simp
  rw [e] at h
  exact h

/-- Are two snapshots the same? -/
def SameN (a b : Snap) : Prop := SameS a.st b.st ∧ a.idx = b.idx ∧ a.tab = b.tab

instance (a b : Snap) : Decidable (SameN a b) := by unfold SameN; infer_instance

theorem takeE_snoc {l : List Ent} {q : Nat} (h : q < l.length) : l.take (q + 1) = l.take q ++ [l.getD q zeroE] := by
  rw [List.take_add_one]
  simp [List.getD, h]

set_option maxRecDepth 100000 in
set_option maxHeartbeats 4000000 in
theorem refSameN_any (va : Value) (a : Snap) (vb : Value) (b : Snap) (w : World) (ha : SnV w va a) (hb : SnV w vb b) :
    Calls Try.prog 16 #[va, vb] w fun e w' => e = .returned (.bool (decide (SameN a b))) ∧ Below w.heap.size w w' := by
  obtain ⟨vl, vt, rfl, hl, hk, he, ht, hi⟩ := ha
  obtain ⟨vl', vt', rfl, hl', hk', he', ht', hi'⟩ := hb
  obtain ⟨la, lc, e1⟩ : ∃ la lc, vl = .slice la a.st.L.length lc := by
    obtain ⟨a, c, h, -⟩ := hl
    exact ⟨a, c, h⟩
  obtain ⟨la', lc', e3⟩ : ∃ la lc, vl' = .slice la b.st.L.length lc := by
    obtain ⟨a, c, h, -⟩ := hl'
    exact ⟨a, c, h⟩
  obtain ⟨ta, tc, e2, htl, htm, -, -, hta⟩ := ht
  obtain ⟨ta', tc', e4, htl', htm', -, -, hta'⟩ := ht'
  subst e1 e2 e3 e4
  have hml : (a.tab.length : Int) ≤ 9223372036854775807 := by unfold maxLen at htm; omega
  have hml2 : (b.tab.length : Int) ≤ 9223372036854775807 := by unfold maxLen at htm'; omega
  have HAA := hide hta
  have HAB := hide hta'
  have HL := hide hl
  have HL' := hide hl'
  have HSV : Hid (∀ W, Below w.heap.size w W → StV W (.agg #[.int .i64 a.st.kind, .slice la a.st.L.length lc, .bool a.st.shut, .int .i64 a.st.eng]) a.st) := hide (fun W h => ⟨_, rfl, HL.out.below h (Nat.le_refl _), hk, he⟩)
  have HSV' : Hid (∀ W, Below w.heap.size w W → StV W (.agg #[.int .i64 b.st.kind, .slice la' b.st.L.length lc', .bool b.st.shut, .int .i64 b.st.eng]) b.st) := hide (fun W h => ⟨_, rfl, HL'.out.below h (Nat.le_refl _), hk', he'⟩)
  have HMS := hide (fun W h => refSameS_any _ a.st _ b.st W (HSV.out W h) (HSV'.out W h))
  have HB0 : Hid (∀ X Y, Below w.heap.size w ((w.alloc X).alloc Y)) := fun X Y => ((Below.refl _ _).alloc (Nat.le_refl _) X).alloc (by simp) Y
  have HX0 : Hid (∀ cs ds, Bn ((w.alloc (.cells cs 27)).alloc (.cells ds 27)) w.heap.size cs) := fun cs ds => (Below.heap_alloc _ _ _ (by simp)).trans (heap_alloc_new w _)
  have HY0 : Hid (∀ cs ds, Bn ((w.alloc (.cells cs 27)).alloc (.cells ds 27)) (w.heap.size + 1) ds) := fun cs ds => new_two w _ _
  have hgd := guard_ent
  obtain ⟨D, hD⟩ : ∃ D, D = decide (SameN a b) := ⟨_, rfl⟩
  rw [← hD]
  have HD1 : Hid (SameN a b → D = true) := fun h => by rw [hD]; exact decide_eq_true h
  have HD0 : Hid (¬ SameN a b → D = false) := fun h => by rw [hD]; exact decide_eq_false h
  obtain ⟨A, hA⟩ : ∃ A, A = decide (SameS a.st b.st) := ⟨_, rfl⟩
  rw [← hA] at HMS
  have HA := hide hA
  have HU : Hid (SameN a b ↔ SameS a.st b.st ∧ a.idx = b.idx ∧ a.tab = b.tab) := hide Iff.rfl
  clear hA hD hl hl' hta hta' hk he hi hk' he' hi' htm htm' htl htl' HSV HSV'
  obtain ⟨idx, ⟨kind, L, shut, eng⟩, tab⟩ := a
  obtain ⟨idx', ⟨kind', L', shut', eng'⟩, tab'⟩ := b
  dsimp only at *
  go_enter Try.func16, Try.ntmps16
  go_wp2_with fail
  refine (HMS.out _ (HB0.out _ _)).mono ?_
  rintro e W1 ⟨rfl, hb1⟩
  have hx1 : Bn W1 w.heap.size _ := (HX0.out _ _).below hb1 (Nat.le_refl _)
  have hy1 : Bn W1 (w.heap.size + 1) _ := (HY0.out _ _).below hb1 (Nat.le_refl _)
  have HX1 := hide hx1
  have HY1 := hide hy1
  have HB1 := hide ((HB0.out _ _).trans (hb1.mono (HB0.out _ _).size))
  obtain ⟨p0, -⟩ := hx1.cell 0
  obtain ⟨p5, -⟩ := hx1.cell 5
  obtain ⟨q0, -⟩ := hy1.cell 0
  obtain ⟨q5, -⟩ := hy1.cell 5
  clear hb1 hx1 hy1 HX0 HY0 HMS
  cases A with
  | false =>
    have HE := hide (HD0.out (fun h => of_decide_eq_false HA.out.symm (HU.out.1 h).1))
    go_wp2
    go_ret
    rw [HE.out]
    exact ⟨rfl, HB1.out⟩
  | true =>
    by_cases h0 : idx = idx'
    case neg =>
      have h0d : (idx != idx') = true := by rw [bne_iff_ne]; exact h0
      have HE := hide (HD0.out (fun h => h0 (HU.out.1 h).2.1))
      clear h0
      go_wp2
      go_ret
      rw [HE.out]
      exact ⟨rfl, HB1.out⟩
    have h0d : (idx != idx') = false := by rw [bne_eq_false_iff_eq]; exact h0
    have H0 := hide h0
    clear h0
    by_cases hlen : tab.length = tab'.length
    case neg =>
      have hne : ((tab.length : Int) != (tab'.length : Int)) = true := by rw [bne_iff_ne]; omega
      have HE := hide (HD0.out (fun h => hlen (by rw [(HU.out.1 h).2.2])))
      clear hlen
      go_wp2
      go_ret
      rw [HE.out]
      exact ⟨rfl, HB1.out⟩
    have hne : ((tab.length : Int) != (tab'.length : Int)) = false := by rw [bne_eq_false_iff_eq]; omega
    have HLEN := hide hlen
    have HDT : Hid (tab.take tab.length = tab'.take tab.length → D = true) := hide (fun h => HD1.out (HU.out.2 ⟨of_decide_eq_true HA.out.symm, H0.out, by
      rw [List.take_length, HLEN.out, List.take_length] at h
      exact h⟩))
    have HDF : Hid (∀ k, k < tab.length → tab.getD k zeroE ≠ tab'.getD k zeroE → D = false) := hide (fun k hk h => HD0.out (fun hs => h (by rw [(HU.out.1 hs).2.2])))
    clear hlen HU HD1 HD0 HA H0
    go_wp2
    go_loopw [6] (fun vi wr => ∃ k : Nat, vi = .int .i64 (k : Int) ∧ k ≤ tab.length ∧ Hid (tab.take k = tab'.take k) ∧ Hid (∃ n, wr = W1.drewN n)) (fun vi _ => tab.length - (intOf vi).toNat)
    case atStart => exact ⟨0, rfl, Nat.zero_le _, rfl, ⟨0, rfl⟩⟩
    case round =>
      obtain ⟨k, rfl, hk, hP, hW⟩ := hrel
      obtain ⟨nw, hwr⟩ := hW.out
      subst hwr
      by_cases hlt : k < tab.length
      case neg =>
        obtain rfl : k = tab.length := by omega
        have HT := hide (HDT.out hP.out)
        go_wp2
        go_ret
        rw [HT.out]
        exact ⟨rfl, below_drewN HB1.out _⟩
      rcases HAA.out with h0 | ⟨c, off, rfl, hc⟩
      · rw [h0] at hlt; simp at hlt
      rcases HAB.out with h0 | ⟨c', off', rfl, hc'⟩
      · have hlen := HLEN.out; rw [h0] at hlen; simp at hlen; rw [hlen] at hlt; simp at hlt
      have h1 := hc k hlt
      have h2 := hc' k (by have := HLEN.out; omega)
      obtain ⟨c0, c1, c2⟩ := h1.keep (HB1.out.block c h1.lt)
      obtain ⟨d0, d1, d2⟩ := h2.keep (HB1.out.block c' h2.lt)
      have hki : (k : Int) < (tab.length : Int) := by omega
      have hkj : (k : Int) < (tab'.length : Int) := by have := HLEN.out; omega
      have HNE := hide (HDF.out k hlt)
      have HPN : Hid (tab.getD k zeroE = tab'.getD k zeroE → tab.take (k + 1) = tab'.take (k + 1)) := fun h => by rw [takeE_snoc hlt, takeE_snoc (by have := HLEN.out; omega), hP.out, h]
      clear hc hc' h1 h2 HDT HDF
      generalize tab.getD k zeroE = r at *
      generalize tab'.getD k zeroE = s at *
      by_cases hrs : r = s
      · subst hrs
        have HP1 := hide (HPN.out rfl)
        have hneq := fun W => neq_ent W r r
        rw [eqEnt_self] at hneq
        clear HNE HPN
        go_upto_region 7 with fail
        go_quiet (fail)
        go_wp2
        go_roundw
        case rel => exact ⟨k + 1, by go_num, by omega, HP1, ⟨_, rfl⟩⟩
        case measure => simp [intOf]; omega
      · have HD := hide (HNE.out hrs)
        have hneq := fun W => neq_ent W r s
        rw [eqEnt_not hrs] at hneq
        clear HNE HPN hrs
        go_upto_region 7 with fail
        go_quiet (fail)
        go_wp2
        go_ret
        rw [HD.out]
        exact ⟨rfl, below_drewN (below_drewN HB1.out _) _⟩

end Go.Proofs.Ytgpdbboieokldaa

