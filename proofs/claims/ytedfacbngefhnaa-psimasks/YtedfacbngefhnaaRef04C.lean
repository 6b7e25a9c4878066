/- Contracts of ferrymanref04: May. -/
import Derived.Test.YtedfacbngefhnaaRef04B
namespace Go.Proofs.Ytedfacbngefhnaa
open Go.RowKit

set_option maxRecDepth 100000 in
set_option maxHeartbeats 2000000 in
theorem refMay_any (v : Value) (s : St) (w : World) (hs : StV w v s) :
    Calls Try.prog 11 #[v] w fun e w' => e = .returned (.bool (decide (MayS s))) ∧ Below w.heap.size w w' := by
  obtain ⟨vl, rfl, hr, _, _⟩ := hs
  have HR := hide' hr
  have HP := hide' (fun w1 least (h : RdI w1 vl s.L) => refPairs_any vl s.L least w1 h)
  have HBA : Hid (∀ o, Below w.heap.size w (w.alloc o)) := fun o => (Below.refl _ _).alloc (Nat.le_refl _) o
  obtain ⟨ao, cap, rfl, hlc, hcm, hn0, hi, hao⟩ := hr
  have hml : (s.L.length : Int) ≤ 9223372036854775807 := by unfold maxLen at hcm; omega
  have HAO := hide' hao
  have HI := hide' hi
  clear hao hlc hcm hi hn0
  have HM := hide' (may_bad1 (s := s))
  have HN := hide' (may_nums (s := s))
  obtain ⟨kind, l, shut, g⟩ := s
  simp only at *
  by_cases hbad : g < 0 ∨ 2 < g ∨ (shut = false ∧ g ≠ 0) ∨ kind < 0 ∨ 6 ≤ kind
  · have HF : Hid (decide (MayS ⟨kind, l, shut, g⟩) = false) := decide_eq_false (HM.out hbad)
    have hc : (g < 0) ∨ (0 ≤ g ∧ 2 < g) ∨ (0 ≤ g ∧ g ≤ 2 ∧ shut = false ∧ (g != 0) = true) ∨ (0 ≤ g ∧ g ≤ 2 ∧ (shut = false ∧ g = 0) ∧ kind < 0) ∨ (0 ≤ g ∧ g ≤ 2 ∧ shut = true ∧ kind < 0) ∨ (0 ≤ g ∧ g ≤ 2 ∧ (shut = false ∧ g = 0) ∧ 0 ≤ kind ∧ 6 ≤ kind) ∨ (0 ≤ g ∧ g ≤ 2 ∧ shut = true ∧ 0 ≤ kind ∧ 6 ≤ kind) := by
      cases shut <;> simp at hbad ⊢ <;> omega
    clear hbad HM HN HP HAO HR HI
    rcases hc with h | ⟨h1, h2⟩ | ⟨h1, h2, rfl, h3⟩ | ⟨h1, h2, ⟨rfl, rfl⟩, h3⟩ | ⟨h1, h2, rfl, h3⟩ | ⟨h1, h2, ⟨rfl, rfl⟩, h3, h4⟩ | ⟨h1, h2, rfl, h3, h4⟩
    all_goals
      go_enter Try.func11, Try.ntmps11
      go_wp2
      go_ret
      exact ⟨ret_b HF.out.symm, HBA.out _⟩
  · have HF : Hid (MayS ⟨kind, l, shut, g⟩ ↔ NumsOk kind l) := HN.out (by omega) (by omega) (fun h => by
      cases shut
      · simp at hbad; omega
      · simp at h) (by omega) (by omega)
    have hg : 0 ≤ g ∧ g ≤ 2 ∧ 0 ≤ kind ∧ kind < 6 := by omega
    have hc : (shut = false ∧ g = 0) ∨ shut = true := by
      cases shut <;> simp at hbad ⊢ <;> omega
    obtain ⟨h1, h2, h3, h4⟩ := hg
    clear hbad HM HN
    by_cases k4 : kind = 4
    · subst k4
      have HD : Hid (decide (MayS ⟨4, l, shut, g⟩) = decide (PairsOk (-1099511627776) l)) := by
        rw [decide_eq_decide]
        exact HF.out
      rcases hc with ⟨rfl, rfl⟩ | rfl
      all_goals
        go_enter Try.func11, Try.ntmps11
        go_wp2_with fail
        refine (HP.out _ _ (HR.out.below (HBA.out _) (Nat.le_refl _))).mono ?_
        rintro e w2 ⟨rfl, hb2⟩
        have HB2 := hide' ((HBA.out _).trans (hb2.mono (HBA.out _).size))
        clear hb2
        go_wp2
        go_ret
        exact ⟨ret_b HD.out.symm, HB2.out⟩
    · by_cases k5 : kind = 5
      · subst k5
        have HD : Hid (decide (MayS ⟨5, l, shut, g⟩) = decide (PairsOk 0 l)) := by
          rw [decide_eq_decide]
          exact HF.out
        rcases hc with ⟨rfl, rfl⟩ | rfl
        all_goals
          go_enter Try.func11, Try.ntmps11
          go_wp2_with fail
          refine (HP.out _ _ (HR.out.below (HBA.out _) (Nat.le_refl _))).mono ?_
          rintro e w2 ⟨rfl, hb2⟩
          have HB2 := hide' ((HBA.out _).trans (hb2.mono (HBA.out _).size))
          clear hb2
          go_wp2
          go_ret
          exact ⟨ret_b HD.out.symm, HB2.out⟩
      · have HFN : Hid (MayS ⟨kind, l, shut, g⟩ ↔ (l.length ≤ 64 ∧ (kind ≤ 1 → l.length = 1) ∧ InBounds l)) := by
          have h := HF.out
          unfold NumsOk at h
          rwa [if_neg k4, if_neg k5] at h
        have e4 : (kind == 4) = false := beq_eq_false_iff_ne.2 k4
        have e5 : (kind == 5) = false := beq_eq_false_iff_ne.2 k5
        clear k4 k5 HF HP
        by_cases hlen : (64 : Int) < l.length
        · have HD : Hid (decide (MayS ⟨kind, l, shut, g⟩) = false) := decide_eq_false (fun h => by have := (HFN.out.1 h).1; omega)
          rcases hc with ⟨rfl, rfl⟩ | rfl
          all_goals
            go_enter Try.func11, Try.ntmps11
            go_wp2
            go_ret
            exact ⟨ret_b HD.out.symm, HBA.out _⟩
        · by_cases hone : l.length = 1 ∨ 1 < kind
          · have HC : Hid (∀ n w, Calls Try.prog 27 #[.int .i64 n] w fun e w' => e = .returned (.int .i64 (cutZ n)) ∧ w' = w) := fun n w => refCut_any n w
            have h1c : ((l.length : Int) != 1) = false ∨ (((l.length : Int) != 1) = true ∧ 1 < kind) := by
              by_cases e : l.length = 1
              · left
                rw [bne_eq_false_iff_eq]
                omega
              · right
                refine ⟨?_, by omega⟩
                rw [bne_iff_ne]
                omega
            have HON := hide' hone
            clear hone
            rcases h1c with h1c | ⟨h1c, h1d⟩
            all_goals
              rcases hc with ⟨rfl, rfl⟩ | rfl
              all_goals
                go_enter Try.func11, Try.ntmps11
                go_wp2
                go_loopw [3] (fun i wr => ∃ k : Nat, i = .int .i64 k ∧ k ≤ l.length ∧ Hid (∀ j, j < k → -1099511627776 ≤ l.getD j 0 ∧ l.getD j 0 ≤ 1099511627776) ∧ Hid (wr.cell? ⟨w.heap.size, 1, none⟩ = some (.slice ao l.length cap)) ∧ Hid (Below w.heap.size w wr)) (fun i _ => l.length - (intOf i).toNat)
                case atStart => exact ⟨0, rfl, by omega, fun j hj => by omega, cell_of_row _ w.heap.size 1 _ _ (0, 0) (heap_alloc_new w _), HBA.out _⟩
                case round =>
                  obtain ⟨k, rfl, hkl, hall, hbox, hb⟩ := hrel
                  have hbx := hbox.out
                  by_cases hlt : k < l.length
                  · rcases HAO.out with hao | ⟨b, off, rfl, hc⟩
                    · subst hao; simp at hlt
                    have hc0 : wr.cell? ⟨b, off + k, none⟩ = some (.int .i64 (l.getD k 0)) := by
                      rw [hb.out.cell (World.block_lt_of_cell? w ⟨b, off + k, none⟩ (hc k hlt))]; exact hc k hlt
                    have HCE := hide' (cutZ_eq (l.getD k 0))
                    obtain ⟨y, hy⟩ : ∃ y, y = l.getD k 0 := ⟨_, rfl⟩
                    rw [← hy] at hc0 HCE
                    have HY := hide' hy
                    clear hc hy
                    by_cases hq : y = cutZ y
                    · have hqb : (y != cutZ y) = false := by rw [bne_eq_false_iff_eq]; exact hq
                      have HQ := hide' (HCE.out.1 hq)
                      clear hq
                      go_wp2
                      go_quiet ((go_at_call 27; exact Calls.quiet_of_same (HC.out _ _)))
                      go_wp2
                      go_roundw
                      case rel =>
                        refine ⟨k + 1, by go_num, by omega, fun j hj => ?_, hbx, below_drewN hb.out _⟩
                        by_cases e : j = k
                        · rw [e, ← HY.out]; exact HQ.out
                        · exact hall.out j (by omega)
                      case measure => simp [intOf]; omega
                    · have hqb : (y != cutZ y) = true := by rw [bne_iff_ne]; exact hq
                      have HQ : Hid (¬ (-1099511627776 ≤ y ∧ y ≤ 1099511627776)) := fun h => hq (HCE.out.2 h)
                      clear hq
                      go_wp2
                      go_quiet ((go_at_call 27; exact Calls.quiet_of_same (HC.out _ _)))
                      go_wp2
                      go_ret
                      refine ⟨ret_b (decide_eq_false (fun h => HQ.out ?_)).symm, below_drewN hb.out _⟩
                      have := (HFN.out.1 h).2.2 k hlt
                      rwa [← HY.out] at this
                  · go_wp2
                    go_ret
                    refine ⟨ret_b (decide_eq_true (HFN.out.2 ⟨by omega, fun h => ?_, fun j hj => hall.out j (by omega)⟩)).symm, hb.out⟩
                    rcases HON.out with h' | h'
                    · exact h'
                    · omega
          · have hk1 : kind ≤ 1 := by omega
            have h1c : ((l.length : Int) != 1) = true := by rw [bne_iff_ne]; omega
            have HD : Hid (decide (MayS ⟨kind, l, shut, g⟩) = false) := decide_eq_false (fun h => by have := (HFN.out.1 h).2.1; omega)
            clear hone
            rcases hc with ⟨rfl, rfl⟩ | rfl
            all_goals
              go_enter Try.func11, Try.ntmps11
              go_wp2
              go_ret
              exact ⟨ret_b HD.out.symm, HBA.out _⟩

end Go.Proofs.Ytedfacbngefhnaa
