/- Contracts of objs: deposit, move, ledger. -/
import Derived.Test.YtedfacbngefhnaaObjsActB
namespace Go.Proofs.Ytedfacbngefhnaa
open Go.RowKit

theorem has_hit (key : Int) (l : List Int) : hasF key l = (getP key l).getD 0 := has_get key l

set_option maxRecDepth 100000 in
set_option maxHeartbeats 1000000 in
theorem deposit_any (v : Value) (l : List Int) (a b : Int) (shut : Bool) (g : Int) (B : Nat) (w : World) (ho : OwnI w B v l) (hB : B ≤ w.heap.size) (hp : Pairs 0 (-1) l) (hlim : l.length ≤ 128) :
    Calls Try.prog 74 #[v, .int .i64 a, .int .i64 b] w fun e w' => Acted B w v (ledgerS ⟨5, l, shut, g⟩ ⟨8, a, b⟩).1.L (ledgerS ⟨5, l, shut, g⟩ ⟨8, a, b⟩).2 e w' := by
  have hi := pairs_i64 (by decide) (by decide) hp
  have HO := hide' ho
  have HC := hide' (fun n w => cutO_any n w)
  have HW := hide' (fun p q W => within_any p q W)
  have HS := hide' (fun n l2 h2 a2 b2 W p1 p2 => is_any n l2 h2 a2 b2 W p1 p2)
  have HLK : Hid (∀ W, OwnI W B v l → Calls Try.prog 70 #[v, .int .i64 a] W fun e w' => e = .returned (.tuple #[.int .i64 (hasF a l), .bool (hitP a l)]) ∧ Below W.heap.size W w') := fun W h => by
    rw [has_get]
    exact look_any v l a _ _ W (h.rd hi) hp (by omega)
  have HPT : Hid (∀ n W, OwnI W B v l → B ≤ W.heap.size → Calls Try.prog 73 #[v, .int .i64 a, .int .i64 n] W fun e w' => ∃ v', e = .returned v' ∧ OwnI w' B v' (withF a n false l) ∧ Mv W w' v v') := fun n W h1 h2 => putO_any v l a n _ _ B W h1 h2 hi hp (by omega)
  have hhb := has_bounds hp a
  obtain ⟨ao, cap, rfl⟩ := ho.shape
  have HFU : Hid (∀ W, Calls Try.prog 72 #[.slice ao l.length cap] W fun e w' => e = .returned (.bool (decide (l.length = 128))) ∧ w' = W) := fun W => full_any ao l.length cap W
  obtain ⟨L', n', hE⟩ : ∃ L' n', ledgerS ⟨5, l, shut, g⟩ ⟨8, a, b⟩ = (⟨5, L', shut, g⟩, n') := by
    unfold ledgerS
    rw [if_neg (by simp), if_neg (by simp)]
    repeat' split
    all_goals exact ⟨_, _, rfl⟩
  rw [hE]
  have HE0 := hide' hE
  have HE : Hid ((if a < 0 ∨ 255 < a then ((⟨5, l, shut, g⟩ : St), (-1 : Int)) else if b < 0 then (⟨5, l, shut, g⟩, -1) else if findF a 0 l < 0 ∧ l.length = 128 then (⟨5, l, shut, g⟩, -2) else (⟨5, withF a (cutZ (hasF a l + cutZ b)) false l, shut, g⟩, cutZ (hasF a l + cutZ b))) = (⟨5, L', shut, g⟩, n')) := by
    refine hide' ?_
    have h := HE0.out
    unfold ledgerS at h
    rw [if_neg (by simp), if_neg (by simp)] at h
    simpa using h
  clear hE ho hp hi HE0
  show Calls Try.prog _ _ w fun e w' => Acted B w (.slice ao l.length cap) L' n' e w'
  have hcb := cutZ_in b
  by_cases hk : 0 ≤ a ∧ a ≤ 255
  · have HN := hide' (decide_eq_true hk)
    have HK : Hid (¬ (a < 0 ∨ 255 < a)) := by
      show ¬ (a < 0 ∨ 255 < a)
      omega
    clear hk
    by_cases hb : b < 0
    · have HR : Hid (L' = l ∧ n' = -1) := by
        have h := HE.out
        rw [if_neg HK.out, if_pos hb] at h
        injection h with h1 h2
        injection h1 with _ h3
        exact ⟨h3.symm, h2.symm⟩
      go_enter Try.func74, Try.ntmps74
      go_wp2_with fail
      refine (HW.out _ _ _).mono ?_
      rintro e W1 ⟨a1, b1, rfl, hc1, hc2, hb1⟩
      have HB1 := hide' (Mv.ofBelow hb1 (.slice ao l.length cap))
      have HO1 := hide' (HO.out.below hb1 (Nat.le_refl _))
      clear hb1
      go_wp2_with fail
      refine (HS.out _ _ _ _ _ _ hc1 hc2).mono ?_
      rintro e W2 ⟨rfl, rfl⟩
      rw [HN.out]
      go_wp2
      go_ret2
      exact ⟨_, ret_vi HR.out.2.symm, by rw [HR.out.1]; exact HO1.out, HB1.out⟩
    · go_enter Try.func74, Try.ntmps74
      go_wp2_with fail
      refine (HW.out _ _ _).mono ?_
      rintro e W1 ⟨a1, b1, rfl, hc1, hc2, hb1⟩
      have HB1 := hide' (Mv.ofBelow hb1 (.slice ao l.length cap))
      have HO1 := hide' (HO.out.below hb1 (Nat.le_refl _))
      clear hb1
      go_wp2_with fail
      refine (HS.out _ _ _ _ _ _ hc1 hc2).mono ?_
      rintro e W2 ⟨rfl, rfl⟩
      rw [HN.out]
      clear hc1 hc2
      go_wp2_with fail
      refine (HLK.out _ HO1.out).mono ?_
      rintro e W2 ⟨rfl, hb2⟩
      have HB2 := hide' (HB1.out.trans (Mv.ofBelow hb2 _))
      have HO2 := hide' (HO1.out.below hb2 (Nat.le_refl _))
      have hB2 : B ≤ W2.heap.size := Nat.le_trans hB HB2.out.size
      clear hb2 HB1 HO1
      by_cases hfull : hitP a l = false ∧ l.length = 128
      · have HR : Hid (L' = l ∧ n' = -2) := by
          have h := HE.out
          rw [if_neg HK.out, if_neg (show ¬ b < 0 by omega), if_pos ⟨(hit_find a l).2 hfull.1, hfull.2⟩] at h
          injection h with h1 h2
          injection h1 with _ h3
          exact ⟨h3.symm, h2.symm⟩
        have HFD := hide' (decide_eq_true hfull.2)
        rw [hfull.1]
        clear hfull
        go_wp2_with fail
        refine (HFU.out _).mono ?_
        rintro e W3 ⟨rfl, rfl⟩
        rw [HFD.out]
        go_wp2
        go_ret2
        exact ⟨_, ret_vi HR.out.2.symm, by rw [HR.out.1]; exact HO2.out, HB2.out⟩
      · have HR : Hid (L' = withF a (cutZ (hasF a l + cutZ b)) false l ∧ n' = cutZ (hasF a l + cutZ b)) := by
          have h := HE.out
          rw [if_neg HK.out, if_neg (show ¬ b < 0 by omega), if_neg (fun h => hfull ⟨(hit_find a l).1 h.1, h.2⟩)] at h
          injection h with h1 h2
          injection h1 with _ h3
          exact ⟨h3.symm, h2.symm⟩
        generalize hasF a l = y at *
        cases hh : hitP a l
        · have HFD := hide' (decide_eq_false (fun h => hfull ⟨hh, h⟩))
          clear hfull hh
          go_wp2_with fail
          refine (HFU.out _).mono ?_
          rintro e W3 ⟨rfl, rfl⟩
          rw [HFD.out]
          go_wp2_with (first | (go_at_call 68; refine (HC.out _ _).mono ?_; rintro e w3 ⟨rfl, rfl⟩) | (go_at_call 73; refine (HPT.out _ _ HO2.out hB2).mono ?_; rintro e W3 ⟨v3, rfl, ho3, hb3⟩; have HB3 := hide' (HB2.out.trans hb3); have HO3 := hide' ho3; clear ho3 hb3))
          go_ret2
          exact ⟨_, ret_vi HR.out.2.symm, by rw [HR.out.1]; exact HO3.out, HB3.out⟩
        · clear hfull hh
          go_wp2_with (first | (go_at_call 68; refine (HC.out _ _).mono ?_; rintro e w3 ⟨rfl, rfl⟩) | (go_at_call 73; refine (HPT.out _ _ HO2.out hB2).mono ?_; rintro e W3 ⟨v3, rfl, ho3, hb3⟩; have HB3 := hide' (HB2.out.trans hb3); have HO3 := hide' ho3; clear ho3 hb3))
          go_ret2
          exact ⟨_, ret_vi HR.out.2.symm, by rw [HR.out.1]; exact HO3.out, HB3.out⟩
  · have HN := hide' (decide_eq_false hk)
    have HR : Hid (L' = l ∧ n' = -1) := by
      have h := HE.out
      rw [if_pos (show a < 0 ∨ 255 < a by omega)] at h
      injection h with h1 h2
      injection h1 with _ h3
      exact ⟨h3.symm, h2.symm⟩
    clear hk
    go_enter Try.func74, Try.ntmps74
    go_wp2_with fail
    refine (HW.out _ _ _).mono ?_
    rintro e W1 ⟨a1, b1, rfl, hc1, hc2, hb1⟩
    have HB1 := hide' (Mv.ofBelow hb1 (.slice ao l.length cap))
    have HO1 := hide' (HO.out.below hb1 (Nat.le_refl _))
    clear hb1
    go_wp2_with fail
    refine (HS.out _ _ _ _ _ _ hc1 hc2).mono ?_
    rintro e W2 ⟨rfl, rfl⟩
    rw [HN.out]
    go_wp2
    go_ret2
    exact ⟨_, ret_vi HR.out.2.symm, by rw [HR.out.1]; exact HO1.out, HB1.out⟩

end Go.Proofs.Ytedfacbngefhnaa
