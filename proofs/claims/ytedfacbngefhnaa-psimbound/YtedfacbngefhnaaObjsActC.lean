/- Contracts of objs: store. -/
import Derived.Test.YtedfacbngefhnaaObjsActB
namespace Go.Proofs.Ytedfacbngefhnaa
open Go.RowKit

set_option maxRecDepth 100000 in
set_option maxHeartbeats 1000000 in
theorem storeO_any (v : Value) (l : List Int) (o : Opn) (shut : Bool) (g : Int) (B : Nat) (w : World) (ho : OwnI w B v l) (hB : B ≤ w.heap.size) (hp : Pairs (-1099511627776) (-1) l) (hlim : l.length ≤ 128) :
    Calls Try.prog 66 #[v, opV o] w fun e w' => Acted B w v (storeO ⟨4, l, shut, g⟩ o).1.L (storeO ⟨4, l, shut, g⟩ o).2 e w' := by
  obtain ⟨code, a, b⟩ := o
  have hi := pairs_i64 (by decide) (by decide) hp
  have HO := hide' ho
  have HBA : Hid (∀ X, Mv w (w.alloc X) v v) := fun X => Mv.alloc w v X
  have HC := hide' (fun n w => cutO_any n w)
  have HW := hide' (fun p q W => within_any p q W)
  have HS := hide' (fun n l2 h2 a2 b2 W p1 p2 => is_any n l2 h2 a2 b2 W p1 p2)
  have HLK : Hid (∀ W, OwnI W B v l → Calls Try.prog 70 #[v, .int .i64 a] W fun e w' => e = .returned (.tuple #[.int .i64 ((getP a l).getD 0), .bool (hitP a l)]) ∧ Below W.heap.size W w') := fun W h => look_any v l a _ _ W (h.rd hi) hp (by omega)
  have HPT : Hid (∀ n W, OwnI W B v l → B ≤ W.heap.size → Calls Try.prog 73 #[v, .int .i64 a, .int .i64 n] W fun e w' => ∃ v', e = .returned v' ∧ OwnI w' B v' (withF a n false l) ∧ Mv W w' v v') := fun n W h1 h2 => putO_any v l a n _ _ B W h1 h2 hi hp (by omega)
  have HDR : Hid (∀ W, OwnI W B v l → B ≤ W.heap.size → Calls Try.prog 71 #[v, .int .i64 a] W fun e w' => ∃ v', e = .returned v' ∧ OwnI w' B v' (withoutF a l) ∧ Mv W w' v v') := fun W h1 _ => drop_any v l a _ _ B W h1 hi hp (by omega)
  obtain ⟨ao, cap, rfl⟩ := ho.shape
  have HFU : Hid (∀ W, Calls Try.prog 72 #[.slice ao l.length cap] W fun e w' => e = .returned (.bool (decide (l.length = 128))) ∧ w' = W) := fun W => full_any ao l.length cap W
  obtain ⟨L', n', hE⟩ : ∃ L' n', storeO ⟨4, l, shut, g⟩ ⟨code, a, b⟩ = (⟨4, L', shut, g⟩, n') := by
    unfold storeO
    repeat' split
    all_goals exact ⟨_, _, rfl⟩
  rw [hE]
  have HE := hide' hE
  clear hE ho hp hi
  show Calls Try.prog _ #[_, .agg #[.int .i64 code, .int .i64 a, .int .i64 b]] w fun e w' => Acted B w (.slice ao l.length cap) L' n' e w'
  by_cases hk : 0 ≤ a ∧ a ≤ 255
  · have HN := hide' (decide_eq_true hk)
    have HK : Hid (¬ (a < 0 ∨ 255 < a)) := by
      show ¬ (a < 0 ∨ 255 < a)
      omega
    clear hk
    cases hh : hitP a l
    · have HHF := hide' ((hit_find a l).2 hh)
      have HHD := hide' (had_miss hh)
      rw [hh] at HLK
      clear hh
      generalize (getP a l).getD 0 = y at *
      go_enter Try.func66, Try.ntmps66
      go_wp2_with fail
      refine (HW.out _ _ _).mono ?_
      rintro e W1 ⟨a1, b1, rfl, hc1, hc2, hb1⟩
      have hbx := (hb1.block w.heap.size (by simp)).trans (heap_alloc_new w _)
      have p1 := cell_of_row W1 w.heap.size 1 _ _ _ hbx
      have HX1 := hide' hbx
      have HB1 := hide' ((HBA.out _).trans (Mv.ofBelow hb1 _))
      have HO1 := hide' ((HO.out.alloc _).below hb1 (Nat.le_refl _))
      clear hb1 hbx
      go_wp2_with fail
      refine (HS.out _ _ _ _ _ _ hc1 hc2).mono ?_
      rintro e W2 ⟨rfl, rfl⟩
      rw [HN.out]
      clear hc1 hc2
      go_wp2_with fail
      refine (HLK.out _ HO1.out).mono ?_
      rintro e W2 ⟨rfl, hb2⟩
      have hbx := (hb2.block w.heap.size (Array.getElem?_eq_some_iff.1 HX1.out).1).trans HX1.out
      have p0 := cell_of_row W2 w.heap.size 0 _ _ _ hbx
      have q1 := cell_of_row W2 w.heap.size 1 _ _ _ hbx
      have q2 := cell_of_row W2 w.heap.size 2 _ _ _ hbx
      have HB2 := hide' (HB1.out.trans (Mv.ofBelow hb2 _))
      have HO2 := hide' (HO1.out.below hb2 (Nat.le_refl _))
      have hB2 : B ≤ W2.heap.size := Nat.le_trans hB HB2.out.size
      clear hb2 hbx HX1 HB1 HO1 p1
      by_cases c7 : code = 7
      · have HR : Hid (L' = l ∧ n' = -1) := by
          have h := HE.out
          unfold storeO at h
          rw [if_neg HK.out, if_neg (show ¬ (code ≠ 7 ∧ code ≠ 6 ∧ code ≠ 5) by omega), if_neg (show ¬ code = 6 by omega), if_neg (show ¬ code = 5 by omega), HHD.out] at h
          injection h with h1 h2
          injection h1 with _ h3
          exact ⟨h3.symm, h2.symm⟩
        have e7 : (code == 7) = true := beq_iff_eq.2 c7
        clear c7
        go_wp2
        go_ret2
        exact ⟨_, ret_vi HR.out.2.symm, by rw [HR.out.1]; exact HO2.out, HB2.out⟩
      · have e7 : (code == 7) = false := beq_eq_false_iff_ne.2 c7
        by_cases c6 : code = 6
        · have HR : Hid (L' = withoutF a l ∧ n' = -1) := by
            have h := HE.out
            unfold storeO at h
            rw [if_neg HK.out, if_neg (show ¬ (code ≠ 7 ∧ code ≠ 6 ∧ code ≠ 5) by omega), if_pos (show code = 6 by omega), HHD.out] at h
            injection h with h1 h2
            injection h1 with _ h3
            exact ⟨h3.symm, h2.symm⟩
          have e6 : (code == 6) = true := beq_iff_eq.2 c6
          clear c6 c7
          go_wp2_with fail
          refine (HDR.out _ HO2.out hB2).mono ?_
          rintro e W3 ⟨v3, rfl, ho3, hb3⟩
          have HB3 := hide' (HB2.out.trans hb3)
          have HO3 := hide' ho3
          clear ho3 hb3
          go_wp2
          go_ret2
          exact ⟨_, ret_vi HR.out.2.symm, by rw [HR.out.1]; exact HO3.out, HB3.out⟩
        · have e6 : (code == 6) = false := beq_eq_false_iff_ne.2 c6
          by_cases c5 : code = 5
          · have e5 : (code == 5) = true := beq_iff_eq.2 c5
            by_cases hf : l.length = 128
            · have HR : Hid (L' = l ∧ n' = -2) := by
                have h := HE.out
                unfold storeO at h
                rw [if_neg HK.out, if_neg (show ¬ (code ≠ 7 ∧ code ≠ 6 ∧ code ≠ 5) by omega), if_neg (show ¬ code = 6 by omega), if_pos c5, if_pos ⟨HHF.out, hf⟩] at h
                injection h with h1 h2
                injection h1 with _ h3
                exact ⟨h3.symm, h2.symm⟩
              have HFD := hide' (decide_eq_true hf)
              clear c5 c6 c7 hf
              go_wp2_with fail
              refine (HFU.out _).mono ?_
              rintro e W3 ⟨rfl, rfl⟩
              rw [HFD.out]
              go_wp2
              go_ret2
              exact ⟨_, ret_vi HR.out.2.symm, by rw [HR.out.1]; exact HO2.out, HB2.out⟩
            · have HR : Hid (L' = withF a (cutZ b) false l ∧ n' = -1) := by
                have h := HE.out
                unfold storeO at h
                rw [if_neg HK.out, if_neg (show ¬ (code ≠ 7 ∧ code ≠ 6 ∧ code ≠ 5) by omega), if_neg (show ¬ code = 6 by omega), if_pos c5, if_neg (fun h => hf h.2), HHD.out] at h
                injection h with h1 h2
                injection h1 with _ h3
                exact ⟨h3.symm, h2.symm⟩
              have HFD := hide' (decide_eq_false hf)
              clear hf
              clear c5 c6 c7
              go_wp2_with fail
              refine (HFU.out _).mono ?_
              rintro e W3 ⟨rfl, rfl⟩
              rw [HFD.out]
              go_wp2
              go_region_with
                (first
                  | (go_at_call 68; refine (HC.out _ _).mono ?_; rintro e w3 ⟨rfl, rfl⟩)
                  | (go_at_call 73; refine (HPT.out _ _ HO2.out.drew hB2).mono ?_; rintro e W3 ⟨v3, rfl, ho3, hb3⟩; have HB3 := hide' (HB2.out.drew.trans hb3); have HO3 := hide' ho3; clear ho3 hb3))
              all_goals
                go_wp2
                go_ret2
                exact ⟨_, ret_vi HR.out.2.symm, by rw [HR.out.1]; exact HO3.out, HB3.out⟩
              
          · have e5 : (code == 5) = false := beq_eq_false_iff_ne.2 c5
            have HR : Hid (L' = l ∧ n' = 0) := by
              have h := HE.out
              unfold storeO at h
              rw [if_neg HK.out, if_pos (show (code ≠ 7 ∧ code ≠ 6 ∧ code ≠ 5) by omega)] at h
              injection h with h1 h2
              injection h1 with _ h3
              exact ⟨h3.symm, h2.symm⟩
            clear c5 c6 c7
            go_wp2
            go_ret2
            exact ⟨_, ret_vi HR.out.2.symm, by rw [HR.out.1]; exact HO2.out, HB2.out⟩
    · have HHF : Hid (¬ findF a 0 l < 0) := fun h => by rw [(hit_find a l).1 h] at hh; cases hh
      have HHD := hide' (had_hit hh)
      rw [hh] at HLK
      clear hh
      generalize (getP a l).getD 0 = y at *
      go_enter Try.func66, Try.ntmps66
      go_wp2_with fail
      refine (HW.out _ _ _).mono ?_
      rintro e W1 ⟨a1, b1, rfl, hc1, hc2, hb1⟩
      have hbx := (hb1.block w.heap.size (by simp)).trans (heap_alloc_new w _)
      have p1 := cell_of_row W1 w.heap.size 1 _ _ _ hbx
      have HX1 := hide' hbx
      have HB1 := hide' ((HBA.out _).trans (Mv.ofBelow hb1 _))
      have HO1 := hide' ((HO.out.alloc _).below hb1 (Nat.le_refl _))
      clear hb1 hbx
      go_wp2_with fail
      refine (HS.out _ _ _ _ _ _ hc1 hc2).mono ?_
      rintro e W2 ⟨rfl, rfl⟩
      rw [HN.out]
      clear hc1 hc2
      go_wp2_with fail
      refine (HLK.out _ HO1.out).mono ?_
      rintro e W2 ⟨rfl, hb2⟩
      have hbx := (hb2.block w.heap.size (Array.getElem?_eq_some_iff.1 HX1.out).1).trans HX1.out
      have p0 := cell_of_row W2 w.heap.size 0 _ _ _ hbx
      have q1 := cell_of_row W2 w.heap.size 1 _ _ _ hbx
      have q2 := cell_of_row W2 w.heap.size 2 _ _ _ hbx
      have HB2 := hide' (HB1.out.trans (Mv.ofBelow hb2 _))
      have HO2 := hide' (HO1.out.below hb2 (Nat.le_refl _))
      have hB2 : B ≤ W2.heap.size := Nat.le_trans hB HB2.out.size
      clear hb2 hbx HX1 HB1 HO1 p1
      by_cases c7 : code = 7
      · have HR : Hid (L' = l ∧ n' = y) := by
          have h := HE.out
          unfold storeO at h
          rw [if_neg HK.out, if_neg (show ¬ (code ≠ 7 ∧ code ≠ 6 ∧ code ≠ 5) by omega), if_neg (show ¬ code = 6 by omega), if_neg (show ¬ code = 5 by omega), HHD.out] at h
          injection h with h1 h2
          injection h1 with _ h3
          exact ⟨h3.symm, h2.symm⟩
        have e7 : (code == 7) = true := beq_iff_eq.2 c7
        clear c7
        go_wp2
        go_ret2
        exact ⟨_, ret_vi HR.out.2.symm, by rw [HR.out.1]; exact HO2.out, HB2.out⟩
      · have e7 : (code == 7) = false := beq_eq_false_iff_ne.2 c7
        by_cases c6 : code = 6
        · have HR : Hid (L' = withoutF a l ∧ n' = y) := by
            have h := HE.out
            unfold storeO at h
            rw [if_neg HK.out, if_neg (show ¬ (code ≠ 7 ∧ code ≠ 6 ∧ code ≠ 5) by omega), if_pos (show code = 6 by omega), HHD.out] at h
            injection h with h1 h2
            injection h1 with _ h3
            exact ⟨h3.symm, h2.symm⟩
          have e6 : (code == 6) = true := beq_iff_eq.2 c6
          clear c6 c7
          go_wp2_with fail
          refine (HDR.out _ HO2.out hB2).mono ?_
          rintro e W3 ⟨v3, rfl, ho3, hb3⟩
          have HB3 := hide' (HB2.out.trans hb3)
          have HO3 := hide' ho3
          clear ho3 hb3
          go_wp2
          go_ret2
          exact ⟨_, ret_vi HR.out.2.symm, by rw [HR.out.1]; exact HO3.out, HB3.out⟩
        · have e6 : (code == 6) = false := beq_eq_false_iff_ne.2 c6
          by_cases c5 : code = 5
          · have e5 : (code == 5) = true := beq_iff_eq.2 c5
            have HR : Hid (L' = withF a (cutZ b) false l ∧ n' = y) := by
              have h := HE.out
              unfold storeO at h
              rw [if_neg HK.out, if_neg (show ¬ (code ≠ 7 ∧ code ≠ 6 ∧ code ≠ 5) by omega), if_neg (show ¬ code = 6 by omega), if_pos c5, if_neg (fun h => absurd (show findF a 0 l < 0 from h.1) (by have := HHF.out; omega)), HHD.out] at h
              injection h with h1 h2
              injection h1 with _ h3
              exact ⟨h3.symm, h2.symm⟩
            clear c5 c6 c7
            go_wp2
            go_region_with
              (first
                | (go_at_call 68; refine (HC.out _ _).mono ?_; rintro e w3 ⟨rfl, rfl⟩)
                | (go_at_call 73; refine (HPT.out _ _ HO2.out.drew hB2).mono ?_; rintro e W3 ⟨v3, rfl, ho3, hb3⟩; have HB3 := hide' (HB2.out.drew.trans hb3); have HO3 := hide' ho3; clear ho3 hb3))
            all_goals
              go_wp2
              go_ret2
              exact ⟨_, ret_vi HR.out.2.symm, by rw [HR.out.1]; exact HO3.out, HB3.out⟩
          · have e5 : (code == 5) = false := beq_eq_false_iff_ne.2 c5
            have HR : Hid (L' = l ∧ n' = 0) := by
              have h := HE.out
              unfold storeO at h
              rw [if_neg HK.out, if_pos (show (code ≠ 7 ∧ code ≠ 6 ∧ code ≠ 5) by omega)] at h
              injection h with h1 h2
              injection h1 with _ h3
              exact ⟨h3.symm, h2.symm⟩
            clear c5 c6 c7
            go_wp2
            go_ret2
            exact ⟨_, ret_vi HR.out.2.symm, by rw [HR.out.1]; exact HO2.out, HB2.out⟩
  · have HN := hide' (decide_eq_false hk)
    have HR : Hid (L' = l ∧ n' = -1) := by
      have h := HE.out
      unfold storeO at h
      rw [if_pos (show a < 0 ∨ 255 < a by omega)] at h
      injection h with h1 h2
      injection h1 with _ h3
      exact ⟨h3.symm, h2.symm⟩
    clear hk
    go_enter Try.func66, Try.ntmps66
    go_wp2_with fail
    refine (HW.out _ _ _).mono ?_
    rintro e W1 ⟨a1, b1, rfl, hc1, hc2, hb1⟩
    have hbx := (hb1.block w.heap.size (by simp)).trans (heap_alloc_new w _)
    have p1 := cell_of_row W1 w.heap.size 1 _ _ _ hbx
    have HX1 := hide' hbx
    have HB1 := hide' ((HBA.out _).trans (Mv.ofBelow hb1 _))
    have HO1 := hide' ((HO.out.alloc _).below hb1 (Nat.le_refl _))
    clear hb1 hbx
    go_wp2_with fail
    refine (HS.out _ _ _ _ _ _ hc1 hc2).mono ?_
    rintro e W2 ⟨rfl, rfl⟩
    rw [HN.out]
    clear hc1 hc2
    go_wp2
    go_ret2
    exact ⟨_, ret_vi HR.out.2.symm, by rw [HR.out.1]; exact HO1.out, HB1.out⟩

end Go.Proofs.Ytedfacbngefhnaa
