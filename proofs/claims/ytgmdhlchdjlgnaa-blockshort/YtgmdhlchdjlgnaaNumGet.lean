/- Contracts of countGroups, getGroups, Get, GetSigned. -/
import Derived.Test.YtgmdhlchdjlgnaaPack1
namespace Go.Proofs.Ytgmdhlchdjlgnaa
open Go.RowKit

/-- c is how many groups the bytes begin with; 0: the last one lacks, or is beyond ten. -/
def Cnt (l : List UInt8) (c : Nat) : Prop :=
  (c = 0 ∧ ∀ j, j < 10 → j < l.length → 128 ≤ (l.getD j 0).toNat) ∨
  (1 ≤ c ∧ c ≤ 10 ∧ c ≤ l.length ∧ (∀ j, j + 1 < c → 128 ≤ (l.getD j 0).toNat) ∧ (l.getD (c - 1) 0).toNat < 128)

set_option maxRecDepth 100000 in
set_option maxHeartbeats 400000 in
theorem count_any (v : Value) (l : List UInt8) (w : World) (hr : Rd w v l) :
    Calls Try.prog 52 #[v] w fun e w' => ∃ c : Nat, e = .returned (.int .i64 (c : Int)) ∧ Cnt l c ∧ w' = w := by
  obtain ⟨ao, cap, rfl, hlc, hcm, hn0, hao⟩ := hr
  clear hn0
  have hml : (l.length : Int) ≤ 9223372036854775807 := by unfold maxLen at hcm; omega
  by_cases h10 : (l.length : Int) ≤ 10
  all_goals
    go_enter Try.func52, Try.ntmps52
    go_wp2
    go_loop [7] (fun i => ∃ k : Nat, i = .int .i64 k ∧ k ≤ 10 ∧ k ≤ l.length ∧ Hid (∀ j, j < k → 128 ≤ (l.getD j 0).toNat)) (fun i => 10 - (intOf i).toNat)
    case atStart => exact ⟨0, rfl, by omega, by omega, fun j hj => by omega⟩
    case round =>
      obtain ⟨k, rfl, hk10, hkl, hall⟩ := hrel
      by_cases hlt : k < 10 ∧ k < l.length
      · obtain ⟨hlt, hlt'⟩ := hlt
        rcases hao with hao | ⟨b, off, rfl, hc⟩
        · subst hao; simp at hlt'
        · have hck := hc k hlt'
          clear hc
          obtain ⟨y, hy⟩ : ∃ y, y = (l.getD k 0).toNat := ⟨_, rfl⟩
          rw [← hy] at hck
          have HY : Hid (y = (l.getD k 0).toNat) := hy
          clear hy
          by_cases hyb : (y : Int) < 128
          · go_wp2
            go_ret
            refine ⟨k + 1, ret_int (by omega), .inr ⟨by omega, by omega, by omega, fun j hj => hall.out j (by omega), ?_⟩, rfl⟩
            rw [Nat.add_sub_cancel, ← HY.out]
            omega
          · go_wp2
            go_round
            case rel =>
              refine ⟨k + 1, by go_num, by omega, by omega, fun j hj => ?_⟩
              by_cases e : j = k
              · rw [e, ← HY.out]; omega
              · exact hall.out j (by omega)
            case measure => simp [intOf]; omega
      · go_wp2
        go_ret
        exact ⟨0, rfl, .inl ⟨rfl, fun j h1 h2 => hall.out j (by omega)⟩, rfl⟩

theorem dec64_none {l : List UInt8} (h : Cnt l 0) : dec64 l = (0, 0) := by
  rcases h with ⟨_, h⟩ | h
  · unfold dec64
    rw [dec_miss 10 l h]
  · omega

theorem dec_cnt {l : List UInt8} {c : Nat} (h : Cnt l (c + 1)) : c < 10 ∧ c < l.length ∧ (l.getD c 0).toNat < 128 ∧
    dec 10 l = if 0 < c ∧ (l.getD c 0).toNat = 0 then none else some (val (l.take (c + 1)), c + 1) := by
  rcases h with h | ⟨h1, h2, h3, h4, h5⟩
  · omega
  · have h5' : (l.getD c 0).toNat < 128 := by simpa using h5
    exact ⟨by omega, by omega, h5', dec_hit c 10 l (by omega) (by omega) (fun j hj => h4 j (by omega)) h5'⟩

theorem val_take_lt (l : List UInt8) (k : Nat) (h : k ≤ l.length) : val (l.take k) < 128 ^ k := by
  have := val_lt (l.take k)
  rwa [List.length_take, Nat.min_eq_left h] at this

theorem dec64_ten {l : List UInt8} (h : Cnt l 10) (hy : (l.getD 9 0).toNat ≠ 1) : dec64 l = (0, 0) := by
  obtain ⟨h1, h2, h3, h4⟩ := dec_cnt h
  unfold dec64
  rw [h4]
  by_cases hz : (l.getD 9 0).toNat = 0
  · rw [if_pos ⟨by omega, hz⟩]
  · rw [if_neg (fun e => hz e.2)]
    have hv := val_take l 9 h2
    have hm : (l.getD 9 0).toNat % 128 = (l.getD 9 0).toNat := Nat.mod_eq_of_lt h3
    rw [hm] at hv
    have e9 : 128 ^ 9 = 9223372036854775808 := by decide
    rw [e9] at hv
    have : ¬ val (l.take (9 + 1)) < 18446744073709551616 := by omega
    simp only [this, if_false]

theorem dec64_last0 {l : List UInt8} {c : Nat} (h : Cnt l (c + 1)) (hc : 0 < c) (hy : (l.getD c 0).toNat = 0) : dec64 l = (0, 0) := by
  obtain ⟨h1, h2, h3, h4⟩ := dec_cnt h
  unfold dec64
  rw [h4, if_pos ⟨hc, hy⟩]

theorem dec64_good {l : List UInt8} {c : Nat} (h : Cnt l (c + 1)) (h10 : c = 9 → (l.getD c 0).toNat = 1) (h0 : 0 < c → (l.getD c 0).toNat ≠ 0) :
    dec64 l = (val (l.take (c + 1)), c + 1) ∧ val (l.take (c + 1)) < 18446744073709551616 := by
  obtain ⟨h1, h2, h3, h4⟩ := dec_cnt h
  have hlt : val (l.take (c + 1)) < 18446744073709551616 := by
    by_cases e : c = 9
    · subst e
      have hv := val_take l 9 h2
      have hv9 := val_take_lt l 9 (by omega)
      rw [h10 rfl] at hv
      have e9 : 128 ^ 9 = 9223372036854775808 := by decide
      rw [e9] at hv hv9
      omega
    · have hv := val_take_lt l (c + 1) (by omega)
      have hp : 128 ^ (c + 1) ≤ 128 ^ 9 := Nat.pow_le_pow_right (by decide) (by omega)
      have e9 : 128 ^ 9 = 9223372036854775808 := by decide
      omega
  refine ⟨?_, hlt⟩
  unfold dec64
  rw [h4, if_neg (fun e => h0 e.1 e.2)]
  simp only [hlt, if_true]

theorem or_low (k y x : Nat) (hk : k < 64) (hy : y < 2 ^ k) (hx : x * 2 ^ k < 18446744073709551616) :
    bits .or .u64 (y : Int) (IntKind.u64.wrap ((x : Int) * 2 ^ k)) = ((y + x * 2 ^ k : Nat) : Int) := by
  have e : ((x : Int) * 2 ^ k) = ((x * 2 ^ k : Nat) : Int) := by simp
  have hp : ((2 ^ k : Nat) : Int) = (2 : Int) ^ k := by simp
  have hk64 : (2 : Nat) ^ k ≤ 2 ^ 64 := Nat.pow_le_pow_right (by decide) (by omega)
  rw [e, wraps_u64 _ (by omega) (by omega), bits_join_low .u64 64 (by decide) wraps_u64 k (y : Int) ((x * 2 ^ k : Nat) : Int) (by omega) (by rw [← hp]; omega) (by omega) (by omega) (by rw [← hp]; simp) (by omega)]
  omega

theorem or_step (l : List UInt8) (k : Nat) (hk : k < l.length) (h10 : k < 10) (h9 : k = 9 → (l.getD k 0).toNat % 128 ≤ 1) :
    bits .or .u64 ((val (l.take k) : Nat) : Int) (IntKind.u64.wrap (((l.getD k 0).toNat : Int) % 128 * 2 ^ (7 * k))) = ((val (l.take (k + 1)) : Nat) : Int) := by
  have hv := val_take_lt l k (by omega)
  rw [val_take l k hk, ← pow7]
  rw [← pow7] at hv
  have e : (((l.getD k 0).toNat : Int) % 128) = (((l.getD k 0).toNat % 128 : Nat) : Int) := by omega
  rw [e]
  refine or_low (7 * k) _ _ (by omega) hv ?_
  by_cases hk9 : k = 9
  · have := h9 hk9
    subst hk9
    have e9 : 2 ^ (7 * 9) = 9223372036854775808 := by decide
    rw [e9]
    omega
  · have hp : 2 ^ (7 * k) ≤ 2 ^ 56 := Nat.pow_le_pow_right (by decide) (by omega)
    have hm : (l.getD k 0).toNat % 128 ≤ 127 := by omega
    have := Nat.mul_le_mul hm hp
    have e56 : 127 * 2 ^ 56 < 18446744073709551616 := by decide
    omega

set_option maxRecDepth 100000 in
set_option maxHeartbeats 400000 in
theorem groups_any (v : Value) (l : List UInt8) (w : World) (hr : Rd w v l) :
    Calls Try.prog 41 #[v] w fun e w' => e = .returned (.tuple #[.int .u64 ((dec64 l).1 : Nat), .int .i64 ((dec64 l).2 : Nat)]) ∧ w' = w := by
  have hcnt := count_any v l w hr
  obtain ⟨ao, cap, rfl, hlc, hcm, hn0, hao⟩ := hr
  clear hn0
  have HC := hide hcnt
  clear hcnt
  go_enter Try.func41, Try.ntmps41
  go_wp2_with fail
  refine HC.out.mono ?_
  rintro e w' ⟨c, rfl, hc, rfl⟩
  have hc : Hid (Cnt l c) := hc
  clear HC
  cases c with
  | zero =>
    have H : Hid (dec64 l = (0, 0)) := dec64_none hc.out
    go_wp2
    go_ret2
    exact ⟨by rw [H.out]; rfl, rfl⟩
  | succ c =>
    obtain ⟨hc10, hcl, hyl, hdec⟩ := dec_cnt hc.out
    clear hdec
    rcases hao with hao | ⟨b, off, rfl, hcell⟩
    · subst hao; simp at hcl
    have hck := hcell c hcl
    obtain ⟨y, hy⟩ : ∃ y, y = (l.getD c 0).toNat := ⟨_, rfl⟩
    rw [← hy] at hck hyl
    have HY : Hid (y = (l.getD c 0).toNat) := hy
    have HCELL := hide hcell
    clear hy hcell
    by_cases hbad : (c = 9 ∧ y ≠ 1) ∨ (0 < c ∧ y = 0)
    · have H : Hid (dec64 l = (0, 0)) := by
        rcases hbad with ⟨h9, hy1⟩ | ⟨h0, hy0⟩
        · subst h9
          exact dec64_ten hc.out (by rw [← HY.out]; exact hy1)
        · exact dec64_last0 hc.out h0 (by rw [← HY.out]; exact hy0)
      by_cases h9 : c = 9
      · have e9 : (((c : Int) + 1) == 10) = true := beq_iff_eq.2 (by omega)
        have hne : ((y : Int) != 1) = true := by rw [bne_iff_ne]; omega
        clear hbad h9
        go_wp2
        go_ret2
        exact ⟨by rw [H.out]; rfl, rfl⟩
      · have e9 : (((c : Int) + 1) == 10) = false := beq_eq_false_iff_ne.2 (by omega)
        have e1 : (1 : Int) < (c : Int) + 1 := by omega
        have e0 : ((y : Int) == 0) = true := beq_iff_eq.2 (by omega)
        clear hbad h9
        go_wp2
        go_ret2
        exact ⟨by rw [H.out]; rfl, rfl⟩
    · have H : Hid (dec64 l = (val (l.take (c + 1)), c + 1) ∧ val (l.take (c + 1)) < 18446744073709551616) := dec64_good hc.out (fun h => by rw [← HY.out]; omega) (fun h => by rw [← HY.out]; omega)
      have hw3 : (c = 9 ∧ y = 1) ∨ c = 0 ∨ (0 < c ∧ c < 9 ∧ y ≠ 0) := by omega
      have H9 : Hid (c = 9 → y = 1) := fun h => by omega
      clear hbad
      rcases hw3 with hw3 | hw3 | hw3
      all_goals
        first
          | (have e9 : (((c : Int) + 1) == 10) = true := beq_iff_eq.2 (by omega)
             have hne : ((y : Int) != 1) = false := by rw [bne_eq_false_iff_eq]; omega
             have e1 : (1 : Int) < (c : Int) + 1 := by omega
             have e0 : ((y : Int) == 0) = false := beq_eq_false_iff_ne.2 (by omega))
          | (have e9 : (((c : Int) + 1) == 10) = false := beq_eq_false_iff_ne.2 (by omega)
             have e1 : ¬ (1 : Int) < (c : Int) + 1 := by omega)
          | (have e9 : (((c : Int) + 1) == 10) = false := beq_eq_false_iff_ne.2 (by omega)
             have e1 : (1 : Int) < (c : Int) + 1 := by omega
             have e0 : ((y : Int) == 0) = false := beq_eq_false_iff_ne.2 (by omega))
        clear hw3
        have ez : (((c : Int) + 1) == 0) = false := beq_eq_false_iff_ne.2 (by omega)
        go_wp2
        go_loop [5, 35] (fun u i => ∃ k : Nat, k ≤ c + 1 ∧ i = .int .i64 k ∧ u = .int .u64 (val (l.take k) : Nat)) (fun _ i => c + 1 - (intOf i).toNat)
        case atStart => exact ⟨0, Nat.zero_le _, rfl, rfl⟩
        case round =>
          obtain ⟨k, hk, rfl, rfl⟩ := hrel
          by_cases hlt : k < c + 1
          · have hkc := HCELL.out k (by omega)
            obtain ⟨x, hx⟩ : ∃ x, x = (l.getD k 0).toNat := ⟨_, rfl⟩
            rw [← hx] at hkc
            have hx256 : x < 256 := by rw [hx]; exact UInt8.toNat_lt _
            have HX := hide hx
            clear hx
            obtain ⟨z, hz⟩ : ∃ z, z = val (l.take k) := ⟨_, rfl⟩
            rw [← hz]
            have HZ := hide hz
            clear hz hck
            go_wp2
            go_round
            case rel =>
              refine ⟨k + 1, by omega, by go_num, ?_⟩
              rw [HZ.out, HX.out, or_step l k (by omega) (by omega) (fun h => ?_)]
              have hc9 : c = k := by omega
              rw [← hc9, ← HY.out, H9.out (by omega)]
              decide
            case measure => simp [intOf]; omega
          · go_wp2
            go_ret2
            have ek : k = c + 1 := by omega
            rw [H.out.1, ek]
            exact ⟨rfl, rfl⟩

set_option maxRecDepth 100000 in
set_option maxHeartbeats 400000 in
theorem get_any (v : Value) (l : List UInt8) (w : World) (hr : Rd w v l) :
    Calls Try.prog 27 #[v] w fun e w' => e = .returned (.tuple #[.int .i64 ((dec62 l).1 : Nat), .int .i64 ((dec62 l).2 : Nat)]) ∧ w' = w := by
  have HC := hide (groups_any v l w hr)
  have H : Hid (dec62 l = if (dec64 l).1 < 4611686018427387904 then dec64 l else (0, 0)) := rfl
  generalize dec64 l = d at *
  obtain ⟨u, k⟩ := d
  obtain ⟨U, hU⟩ : ∃ U : Int, U = (u : Int) := ⟨_, rfl⟩
  simp only at HC H
  rw [← hU] at HC
  have hU0 : 0 ≤ U := by omega
  have HU := hide hU
  clear hU
  by_cases hu : U < 4611686018427387904
  · go_enter Try.func27, Try.ntmps27
    go_wp2_with fail
    refine HC.out.mono ?_
    rintro e w' ⟨rfl, rfl⟩
    go_wp2
    go_ret2
    have e := H.out
    have eu := HU.out
    rw [if_pos (by omega)] at e
    rw [e]
    exact ⟨by rw [eu]; rfl, rfl⟩
  · go_enter Try.func27, Try.ntmps27
    go_wp2_with fail
    refine HC.out.mono ?_
    rintro e w' ⟨rfl, rfl⟩
    go_wp2
    go_ret2
    have e := H.out
    have eu := HU.out
    rw [if_neg (by omega)] at e
    rw [e]
    exact ⟨rfl, rfl⟩

set_option maxRecDepth 100000 in
set_option maxHeartbeats 400000 in
theorem getSigned_any (v : Value) (l : List UInt8) (w : World) (hr : Rd w v l) :
    Calls Try.prog 42 #[v] w fun e w' => e = .returned (.tuple #[.int .i64 (zag (dec64 l).1), .int .i64 ((dec64 l).2 : Nat)]) ∧ w' = w := by
  have HC := hide (groups_any v l w hr)
  have hlt := dec64_lt l
  have hle := dec64_le l
  generalize dec64 l = d at *
  obtain ⟨u, k⟩ := d
  simp only at HC hlt hle
  go_enter Try.func42, Try.ntmps42
  go_wp2_with fail
  refine HC.out.mono ?_
  rintro e w' ⟨rfl, rfl⟩
  go_wp2_with fail
  refine (zag_any u _ hlt).mono ?_
  rintro e w1 ⟨rfl, rfl⟩
  go_wp2
  go_ret2
  exact ⟨rfl, rfl⟩

end Go.Proofs.Ytgmdhlchdjlgnaa
