/- Contracts of objs: move. -/
import Derived.Test.YtedfacbngefhnaaObjsActB
namespace Go.Proofs.Ytedfacbngefhnaa
open Go.RowKit

set_option maxRecDepth 100000 in
set_option maxHeartbeats 1000000 in
theorem move_any (v : Value) (l : List Int) (code a b : Int) (shut : Bool) (g : Int) (B : Nat) (w : World) (ho : OwnI w B v l) (hB : B ≤ w.heap.size) (hp : Pairs 0 (-1) l) (hlim : l.length ≤ 128) :
    Calls Try.prog 75 #[v, .int .i64 a, .int .i64 b] w fun e w' => Acted B w v (moveS ⟨5, l, shut, g⟩ ⟨code, a, b⟩).1.L (moveS ⟨5, l, shut, g⟩ ⟨code, a, b⟩).2 e w' := by
  have hi := pairs_i64 (by decide) (by decide) hp
  have HO := hide' ho
  have HW := hide' (fun p q W => within_any p q W)
  have HS := hide' (fun n l2 h2 a2 b2 W p1 p2 => is_any n l2 h2 a2 b2 W p1 p2)
  have HLK : Hid (∀ k W, OwnI W B v l → Calls Try.prog 70 #[v, .int .i64 k] W fun e w' => e = .returned (.tuple #[.int .i64 (hasF k l), .bool (hitP k l)]) ∧ Below W.heap.size W w') := fun k W h => by
    rw [has_get]
    exact look_any v l k _ _ W (h.rd hi) hp (by omega)
  obtain ⟨ao, cap, rfl⟩ := ho.shape
  have HFU : Hid (∀ W, Calls Try.prog 72 #[.slice ao l.length cap] W fun e w' => e = .returned (.bool (decide (l.length = 128))) ∧ w' = W) := fun W => full_any ao l.length cap W
  obtain ⟨L', n', hE⟩ : ∃ L' n', moveS ⟨5, l, shut, g⟩ ⟨code, a, b⟩ = (⟨5, L', shut, g⟩, n') := by
    unfold moveS
    repeat' split
    all_goals exact ⟨_, _, rfl⟩
  rw [hE]
  have HE := hide' hE
  have HP := hide' hp
  have HI := hide' hi
  clear hE ho hp hi
  show Calls Try.prog _ _ w fun e w' => Acted B w (.slice ao l.length cap) L' n' e w'
  by_cases hk : 0 ≤ a ∧ a ≤ 65535
  · have HN := hide' (decide_eq_true hk)
    obtain ⟨hk0, hk1⟩ := hk
    by_cases hb : b < 0
    · have HR : Hid (L' = l ∧ n' = 0) := by
        have h := HE.out
        unfold moveS at h
        rw [if_pos (.inr (.inr hb))] at h
        injection h with h1 h2
        injection h1 with _ h3
        exact ⟨h3.symm, h2.symm⟩
      go_enter Try.func75, Try.ntmps75
      go_wp2_with fail
      refine (HW.out _ _ _).mono ?_
      rintro e W1 ⟨a1, b1, rfl, hc1, hc2, hb1⟩
      have HB1 := hide' (Mv.ofBelow hb1 (.slice ao l.length cap))
      have HO1 := hide' (HO.out.below hb1 (Nat.le_refl _))
      clear hb1
      go_wp2_with fail
      refine (HS.out _ _ _ _ _ _ hc1 hc2).mono ?_
      rintro e W2 ⟨rfl, rfl⟩
      rw [HN.out]
      go_wp2
      go_ret2
      exact ⟨_, ret_vi HR.out.2.symm, by rw [HR.out.1]; exact HO1.out, HB1.out⟩
    · have hb' : 0 ≤ b := by omega
      have HEQ : Hid ((if findF (a / 256) 0 l < 0 ∨ hasF (a / 256) l < b then ((⟨5, l, shut, g⟩ : St), (0 : Int)) else if a / 256 = a % 256 then (⟨5, l, shut, g⟩, 1) else if (findF (a % 256) 0 l < 0 ∧ l.length = 128) ∨ 1099511627776 < hasF (a % 256) l + b then (⟨5, l, shut, g⟩, 0) else (⟨5, withF (a % 256) (hasF (a % 256) l + b) false (withF (a / 256) (hasF (a / 256) l - b) false l), shut, g⟩, 1)) = (⟨5, L', shut, g⟩, n')) := by
        have h := HE.out
        unfold moveS at h
        rw [if_neg (by simp; omega)] at h
        exact h
      clear HE hb
      have HD1 : Hid (a.tdiv 256 = a / 256) := Int.tdiv_eq_ediv_of_nonneg hk0
      have HD2 : Hid (a.tmod 256 = a % 256) := Int.tmod_eq_emod_of_nonneg hk0
      have hF0 : 0 ≤ a / 256 := by omega
      have hF1 : a / 256 ≤ 255 := by omega
      have hT0 : 0 ≤ a % 256 := by omega
      have hT1 : a % 256 ≤ 255 := by omega
      have hbF := has_bounds HP.out (a / 256)
      have hbT := has_bounds HP.out (a % 256)
      obtain ⟨F, hF⟩ : ∃ F, F = a / 256 := ⟨_, rfl⟩
      obtain ⟨T, hT⟩ : ∃ T, T = a % 256 := ⟨_, rfl⟩
      rw [← hF] at HD1 HEQ hF0 hF1 hbF
      rw [← hT] at HD2 HEQ hT0 hT1 hbT
      clear hF hT
      have hd1 := HD1.out
      have hd2 := HD2.out
      go_enter Try.func75, Try.ntmps75
      go_wp2_with fail
      refine (HW.out _ _ _).mono ?_
      rintro e W1 ⟨a1, b1, rfl, hc1, hc2, hb1⟩
      have HB1 := hide' (Mv.ofBelow hb1 (.slice ao l.length cap))
      have HO1 := hide' (HO.out.below hb1 (Nat.le_refl _))
      clear hb1
      go_wp2_with fail
      refine (HS.out _ _ _ _ _ _ hc1 hc2).mono ?_
      rintro e W2 ⟨rfl, rfl⟩
      rw [HN.out]
      clear hc1 hc2
      go_wp2_with fail
      refine (HLK.out _ _ HO1.out).mono ?_
      rintro e W2 ⟨rfl, hb2⟩
      have HB2 := hide' (HB1.out.trans (Mv.ofBelow hb2 _))
      have HO2 := hide' (HO1.out.below hb2 (Nat.le_refl _))
      have hB2 : B ≤ W2.heap.size := Nat.le_trans hB HB2.out.size
      clear hb2 HB1 HO1
      cases hh : hitP F l
      · have HR : Hid (L' = l ∧ n' = 0) := by
          have h := HEQ.out
          rw [if_pos (.inl ((hit_find F l).2 hh))] at h
          injection h with h1 h2
          injection h1 with _ h3
          exact ⟨h3.symm, h2.symm⟩
        clear hh
        go_wp2
        go_ret2
        exact ⟨_, ret_vi HR.out.2.symm, by rw [HR.out.1]; exact HO2.out, HB2.out⟩
      · have HHF : Hid (¬ findF F 0 l < 0) := fun h => by rw [(hit_find F l).1 h] at hh; cases hh
        clear hh
        by_cases hlt : hasF F l < b
        · have HR : Hid (L' = l ∧ n' = 0) := by
            have h := HEQ.out
            rw [if_pos (.inr hlt)] at h
            injection h with h1 h2
            injection h1 with _ h3
            exact ⟨h3.symm, h2.symm⟩
          clear HHF
          go_wp2
          go_ret2
          exact ⟨_, ret_vi HR.out.2.symm, by rw [HR.out.1]; exact HO2.out, HB2.out⟩
        · by_cases hFT : F = T
          · have hq : (F == T) = true := beq_iff_eq.2 hFT
            have HR : Hid (L' = l ∧ n' = 1) := by
              have h := HEQ.out
              rw [if_neg (fun h => h.elim HHF.out hlt), if_pos hFT] at h
              injection h with h1 h2
              injection h1 with _ h3
              exact ⟨h3.symm, h2.symm⟩
            clear HHF hFT
            go_wp2
            go_ret2
            exact ⟨_, ret_vi HR.out.2.symm, by rw [HR.out.1]; exact HO2.out, HB2.out⟩
          · have hq : (F == T) = false := beq_eq_false_iff_ne.2 hFT
            have HNQ := hide' hFT
            have HLT := hide' hlt
            clear hFT
            go_wp2_with fail
            refine (HLK.out _ _ HO2.out).mono ?_
            rintro e W3 ⟨rfl, hb3⟩
            have HB3 := hide' (HB2.out.trans (Mv.ofBelow hb3 _))
            have HO3 := hide' (HO2.out.below hb3 (Nat.le_refl _))
            have hB3 : B ≤ W3.heap.size := Nat.le_trans hB HB3.out.size
            clear hb3 HB2 HO2 hB2
            by_cases hful : hitP T l = false ∧ l.length = 128
            · have HFD := hide' (decide_eq_true hful.2)
              have HR : Hid (L' = l ∧ n' = 0) := by
                have h := HEQ.out
                rw [if_neg (fun h => by have := HHF.out; have := HLT.out; omega), if_neg HNQ.out, if_pos (.inl ⟨(hit_find T l).2 hful.1, hful.2⟩)] at h
                injection h with h1 h2
                injection h1 with _ h3
                exact ⟨h3.symm, h2.symm⟩
              rw [hful.1]
              clear hful
              go_wp2_with fail
              refine (HFU.out _).mono ?_
              rintro e W4 ⟨rfl, rfl⟩
              rw [HFD.out]
              go_wp2
              go_ret2
              exact ⟨_, ret_vi HR.out.2.symm, by rw [HR.out.1]; exact HO3.out, HB3.out⟩
            · by_cases hbig : 1099511627776 < hasF T l + b
              · have HR : Hid (L' = l ∧ n' = 0) := by
                  have h := HEQ.out
                  rw [if_neg (fun h => by have := HHF.out; have := HLT.out; omega), if_neg HNQ.out, if_pos (.inr hbig)] at h
                  injection h with h1 h2
                  injection h1 with _ h3
                  exact ⟨h3.symm, h2.symm⟩
                cases hh : hitP T l
                · have HFD := hide' (decide_eq_false (fun h => hful ⟨hh, h⟩))
                  clear hful hh
                  go_wp2_with fail
                  refine (HFU.out _).mono ?_
                  rintro e W4 ⟨rfl, rfl⟩
                  rw [HFD.out]
                  go_wp2
                  go_ret2
                  exact ⟨_, ret_vi HR.out.2.symm, by rw [HR.out.1]; exact HO3.out, HB3.out⟩
                · clear hful hh
                  go_wp2
                  go_ret2
                  exact ⟨_, ret_vi HR.out.2.symm, by rw [HR.out.1]; exact HO3.out, HB3.out⟩
              · have HBIG := hide' hbig
                have HR : Hid (L' = withF T (hasF T l + b) false (withF F (hasF F l - b) false l) ∧ n' = 1) := by
                  have h := HEQ.out
                  rw [if_neg (fun h => by have := HHF.out; have := HLT.out; omega), if_neg HNQ.out, if_neg (fun h => h.elim (fun x => hful ⟨(hit_find T l).1 x.1, x.2⟩) (fun x => by have := HBIG.out; omega))] at h
                  injection h with h1 h2
                  injection h1 with _ h3
                  exact ⟨h3.symm, h2.symm⟩
                have HP1 : Hid (Pairs 0 (-1) (withF F (hasF F l - b) false l)) := withF_pairs F _ 0 (by omega) (by omega) hF1 l (-1) HP.out (by omega)
                have HL1 : Hid ((withF F (hasF F l - b) false l).length ≤ 1000000) := by
                  have := withF_length F (hasF F l - b) l false
                  show (withF F (hasF F l - b) false l).length ≤ 1000000
                  omega
                have HPA : Hid (∀ W, OwnI W B (.slice ao l.length cap) l → B ≤ W.heap.size → Calls Try.prog 73 #[.slice ao l.length cap, .int .i64 F, .int .i64 (hasF F l - b)] W fun e w' => ∃ v', e = .returned v' ∧ OwnI w' B v' (withF F (hasF F l - b) false l) ∧ Mv W w' (.slice ao l.length cap) v') := fun W h1 h2 => putO_any _ l F _ _ _ B W h1 h2 HI.out HP.out (by omega)
                have HPB : Hid (∀ v1 W, OwnI W B v1 (withF F (hasF F l - b) false l) → B ≤ W.heap.size → Calls Try.prog 73 #[v1, .int .i64 T, .int .i64 (hasF T l + b)] W fun e w' => ∃ v', e = .returned v' ∧ OwnI w' B v' (withF T (hasF T l + b) false (withF F (hasF F l - b) false l)) ∧ Mv W w' v1 v') := fun v1 W h1 h2 => putO_any v1 _ T _ _ _ B W h1 h2 (pairs_i64 (by decide) (by decide) HP1.out) HP1.out HL1.out
                generalize withF T (hasF T l + b) false (withF F (hasF F l - b) false l) = L2 at *
                generalize withF F (hasF F l - b) false l = L1 at *
                generalize hasF F l = y at *
                generalize hasF T l = z at *
                clear HP1 HL1 HEQ HLK
                cases hh : hitP T l
                · have HFD := hide' (decide_eq_false (fun h => hful ⟨hh, h⟩))
                  clear hful hh
                  go_wp2_with fail
                  refine (HFU.out _).mono ?_
                  rintro e W4 ⟨rfl, rfl⟩
                  rw [HFD.out]
                  go_wp2_with fail
                  refine (HPA.out _ HO3.out hB3).mono ?_
                  rintro e W5 ⟨v5, rfl, ho5, hb5⟩
                  have HB5 := hide' (HB3.out.trans hb5)
                  have HO5 := hide' ho5
                  have hB5 : B ≤ W5.heap.size := Nat.le_trans hB HB5.out.size
                  clear ho5 hb5
                  go_wp2_with fail
                  refine (HPB.out _ _ HO5.out hB5).mono ?_
                  rintro e W6 ⟨v6, rfl, ho6, hb6⟩
                  have HB6 := hide' (HB5.out.trans hb6)
                  have HO6 := hide' ho6
                  clear ho6 hb6
                  go_wp2
                  go_ret2
                  exact ⟨_, ret_vi HR.out.2.symm, by rw [HR.out.1]; exact HO6.out, HB6.out⟩
                · clear hful hh
                  go_wp2_with fail
                  refine (HPA.out _ HO3.out hB3).mono ?_
                  rintro e W5 ⟨v5, rfl, ho5, hb5⟩
                  have HB5 := hide' (HB3.out.trans hb5)
                  have HO5 := hide' ho5
                  have hB5 : B ≤ W5.heap.size := Nat.le_trans hB HB5.out.size
                  clear ho5 hb5
                  go_wp2_with fail
                  refine (HPB.out _ _ HO5.out hB5).mono ?_
                  rintro e W6 ⟨v6, rfl, ho6, hb6⟩
                  have HB6 := hide' (HB5.out.trans hb6)
                  have HO6 := hide' ho6
                  clear ho6 hb6
                  go_wp2
                  go_ret2
                  exact ⟨_, ret_vi HR.out.2.symm, by rw [HR.out.1]; exact HO6.out, HB6.out⟩
  · have HN := hide' (decide_eq_false hk)
    have HR : Hid (L' = l ∧ n' = 0) := by
      have h := HE.out
      unfold moveS at h
      rw [if_pos (show a < 0 ∨ 65535 < a ∨ b < 0 by omega)] at h
      injection h with h1 h2
      injection h1 with _ h3
      exact ⟨h3.symm, h2.symm⟩
    clear hk
    go_enter Try.func75, Try.ntmps75
    go_wp2_with fail
    refine (HW.out _ _ _).mono ?_
    rintro e W1 ⟨a1, b1, rfl, hc1, hc2, hb1⟩
    have HB1 := hide' (Mv.ofBelow hb1 (.slice ao l.length cap))
    have HO1 := hide' (HO.out.below hb1 (Nat.le_refl _))
    clear hb1
    go_wp2_with fail
    refine (HS.out _ _ _ _ _ _ hc1 hc2).mono ?_
    rintro e W2 ⟨rfl, rfl⟩
    rw [HN.out]
    go_wp2
    go_ret2
    exact ⟨_, ret_vi HR.out.2.symm, by rw [HR.out.1]; exact HO1.out, HB1.out⟩

end Go.Proofs.Ytedfacbngefhnaa
