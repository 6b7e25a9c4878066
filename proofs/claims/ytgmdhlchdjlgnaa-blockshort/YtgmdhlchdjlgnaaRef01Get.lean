/- Contracts of the document's answer for layer num, its readers: read, Get, GetSigned, Fixed, Zig, Zag. -/
import Derived.Test.YtgmdhlchdjlgnaaNumFix
namespace Go.Proofs.Ytgmdhlchdjlgnaa
open Go.RowKit

theorem zigzag_neg' (n : Int) (h : ¬ 0 ≤ n) : ((Lib.zigzag n : Nat) : Int) = -(n + 1) * 2 + 1 := by
  unfold Lib.zigzag
  rw [if_neg h]
  omega

set_option maxRecDepth 100000 in
set_option maxHeartbeats 400000 in
theorem refZig_any (n : Int) (w : World) (h0 : -9223372036854775808 ≤ n) (h1 : n ≤ 9223372036854775807) :
    Calls Try.prog 37 #[.int .i64 n] w fun e w' => e = .returned (.int .u64 (Lib.zigzag n : Nat)) ∧ w' = w := by
  by_cases h : 0 ≤ n
  · have HZ := hide (Lib.zigzag_nonneg h)
    go_enter Try.func37, Try.ntmps37
    go_wp2
    go_ret
    exact ⟨ret_int (by rw [HZ.out]), rfl⟩
  · have HZ := hide (zigzag_neg' n h)
    go_enter Try.func37, Try.ntmps37
    go_wp2
    go_ret
    exact ⟨ret_int (by rw [HZ.out]), rfl⟩

set_option maxRecDepth 100000 in
set_option maxHeartbeats 400000 in
theorem refZag_any (u : Nat) (w : World) (h : u < 18446744073709551616) :
    Calls Try.prog 55 #[.int .u64 (u : Int)] w fun e w' => e = .returned (.int .i64 (zag u)) ∧ w' = w := by
  have HZ : Hid (zag u = if u % 2 = 0 then ((u / 2 : Nat) : Int) else -((u / 2 : Nat) : Int) - 1) := rfl
  obtain ⟨U, hU⟩ : ∃ U : Int, U = (u : Int) := ⟨_, rfl⟩
  have hU0 : 0 ≤ U := by omega
  have hU1 : U < 18446744073709551616 := by omega
  rw [← hU]
  have HU := hide hU
  clear hU h
  by_cases hp : U % 2 = 0
  · have hq : (U % 2 == 0) = true := beq_iff_eq.2 hp
    have HQ := hide hp
    clear hp
    go_enter Try.func55, Try.ntmps55
    go_wp2
    go_ret
    have e := HU.out
    have e2 := HQ.out
    refine ⟨ret_int ?_, rfl⟩
    rw [HZ.out, if_pos (by omega)]
    omega
  · have hq : (U % 2 == 0) = false := beq_eq_false_iff_ne.2 hp
    have HQ := hide hp
    clear hp
    go_enter Try.func55, Try.ntmps55
    go_wp2
    go_ret
    have e := HU.out
    have e2 := HQ.out
    refine ⟨ret_int ?_, rfl⟩
    rw [HZ.out, if_neg (by omega)]
    omega

/-- 128^k modulo 2^64, as read reckons it. -/
def one128 (k : Nat) : Int := ((128 ^ k % 18446744073709551616 : Nat) : Int)

theorem one_step (k : Nat) : (one128 k * 128) % 18446744073709551616 = one128 (k + 1) := by
  unfold one128
  rw [Nat.pow_succ]
  omega

theorem read_step (l : List UInt8) (k : Nat) (hk : k < l.length) (h10 : k < 10) (h9 : k = 9 → ((l.getD k 0).toNat : Int) % 128 ≤ 1) :
    (((val (l.take k) : Nat) : Int) + (((l.getD k 0).toNat : Int) % 128 * one128 k) % 18446744073709551616) % 18446744073709551616 = ((val (l.take (k + 1)) : Nat) : Int) := by
  have hv := val_take_lt l k (by omega)
  have ho : one128 k = ((128 ^ k : Nat) : Int) := by
    unfold one128
    have : 128 ^ k ≤ 128 ^ 9 := Nat.pow_le_pow_right (by decide) (by omega)
    have e9 : 128 ^ 9 = 9223372036854775808 := by decide
    rw [Nat.mod_eq_of_lt (by omega)]
  rw [ho, val_take l k hk]
  have e : (((l.getD k 0).toNat : Int) % 128 * ((128 ^ k : Nat) : Int)) = (((l.getD k 0).toNat % 128 * 128 ^ k : Nat) : Int) := by
    rw [Int.natCast_mul]
    simp
  rw [e]
  have hb : (l.getD k 0).toNat % 128 * 128 ^ k < 9223372036854775809 := by
    by_cases hk9 : k = 9
    · have := h9 hk9
      subst hk9
      have e9 : 128 ^ 9 = 9223372036854775808 := by decide
      rw [e9]
      omega
    · have hp : 128 ^ k ≤ 128 ^ 8 := Nat.pow_le_pow_right (by decide) (by omega)
      have hm : (l.getD k 0).toNat % 128 ≤ 127 := by omega
      have := Nat.mul_le_mul hm hp
      have e8 : 127 * 128 ^ 8 < 9223372036854775809 := by decide
      omega
  have hv2 : val (l.take k) < 9223372036854775808 := by
    have : 128 ^ k ≤ 128 ^ 9 := Nat.pow_le_pow_right (by decide) (by omega)
    have e9 : 128 ^ 9 = 9223372036854775808 := by decide
    omega
  omega

set_option maxRecDepth 100000 in
set_option maxHeartbeats 1000000 in
theorem read_any (v : Value) (l : List UInt8) (w : World) (hr : Rd w v l) :
    Calls Try.prog 45 #[v] w fun e w' => e = .returned (.tuple #[.int .u64 ((dec64 l).1 : Nat), .int .i64 ((dec64 l).2 : Nat)]) ∧ w' = w := by
  obtain ⟨ao, cap, rfl, hlc, hcm, hn0, hao⟩ := hr
  clear hn0
  have hml : (l.length : Int) ≤ 9223372036854775807 := by unfold maxLen at hcm; omega
  go_enter Try.func45, Try.ntmps45
  go_wp2
  go_loop [4, 5, 6] (fun u one i => ∃ k : Nat, i = .int .i64 k ∧ k ≤ 10 ∧ k ≤ l.length ∧ Hid (∀ j, j < k → 128 ≤ (l.getD j 0).toNat) ∧ one = .int .u64 (one128 k) ∧ (k ≤ 9 → u = .int .u64 (val (l.take k) : Nat)) ∧ ∃ U : Int, u = .int .u64 U) (fun _ _ i => 10 - (intOf i).toNat)
  case atStart => exact ⟨0, rfl, by omega, by omega, fun j hj => by omega, rfl, fun _ => rfl, _, rfl⟩
  case round =>
    obtain ⟨k, rfl, hk10, hkl, hall, rfl, hu, U, rfl⟩ := hrel
    by_cases hlt : k < 10 ∧ k < l.length
    · obtain ⟨hlt, hlt'⟩ := hlt
      rcases hao with hao | ⟨b, off, rfl, hc⟩
      · subst hao; simp at hlt'
      · have hu' := hu (by omega)
        simp only [Value.int.injEq, true_and] at hu'
        subst hu'
        clear hu
        have hck := hc k hlt'
        clear hc
        obtain ⟨y, hy⟩ : ∃ y : Int, y = ((l.getD k 0).toNat : Int) := ⟨_, rfl⟩
        rw [← hy] at hck
        have hy0 : 0 ≤ y := by omega
        have hy1 : y < 256 := by have := (l.getD k 0).toNat_lt; omega
        have HY := hide hy
        clear hy
        have HR := hide (read_step l k hlt' hlt)
        have HO : Hid (one128 (k + 1) = (one128 k * 128) % 18446744073709551616) := (one_step k).symm
        have ho0 : 0 ≤ one128 k := by unfold one128; omega
        have ho1 : one128 k < 18446744073709551616 := by unfold one128; omega
        rw [← HY.out] at HR
        generalize one128 k = o at *
        obtain ⟨z, hz⟩ : ∃ z : Int, z = ((val (l.take k) : Nat) : Int) := ⟨_, rfl⟩
        rw [← hz] at HR ⊢
        clear hz
        by_cases hA : k = 9 ∧ 1 < y % 128
        · have H : Hid (dec64 l = (0, 0)) := by
            have e := HY.out
            obtain ⟨hk9, hd⟩ := hA
            subst hk9
            by_cases hy : y < 128
            · exact dec64_ten (.inr ⟨by omega, by omega, by omega, fun j hj => hall.out j (by omega), by show (l.getD 9 0).toNat < 128; omega⟩) (by omega)
            · exact dec64_none (.inl ⟨rfl, fun j h1 h2 => by
                by_cases ej : j = 9
                · subst ej; omega
                · exact hall.out j (by omega)⟩)
          have e9 : ((k : Int) == 9) = true := beq_iff_eq.2 (by omega)
          have hd := hA.2
          clear hA
          go_wp2
          go_ret2
          exact ⟨by rw [H.out]; rfl, rfl⟩
        · have HR2 := hide (HR.out (fun h => by omega))
          have HA := hide hA
          have h9 : (k = 9 ∧ ¬ 1 < y % 128) ∨ k ≠ 9 := by omega
          clear HR hA
          by_cases hy : y < 128
          · by_cases h0 : 0 < k ∧ y = 0
            · have H : Hid (dec64 l = (0, 0)) := by
                have e := HY.out
                exact dec64_last0 (.inr ⟨by omega, by omega, by omega, fun j hj => hall.out j (by omega), by show (l.getD k 0).toNat < 128; omega⟩) h0.1 (by omega)
              obtain ⟨hk0, hy00⟩ := h0
              have hk0' : (0 : Int) < (k : Int) := by omega
              have hd0 : (y % 128 == 0) = true := beq_iff_eq.2 (by omega)
              rcases h9 with ⟨e, hd⟩ | e
              · have e9 : ((k : Int) == 9) = true := beq_iff_eq.2 (by omega)
                clear e hy00
                go_wp2
                go_ret2
                exact ⟨by rw [H.out]; rfl, rfl⟩
              · have e9 : ((k : Int) == 9) = false := beq_eq_false_iff_ne.2 (by omega)
                clear e hy00
                go_wp2
                go_ret2
                exact ⟨by rw [H.out]; rfl, rfl⟩
            · have H : Hid (dec64 l = (val (l.take (k + 1)), k + 1)) := by
                have e := HY.out
                have h9' := HA.out
                exact (dec64_good (.inr ⟨by omega, by omega, by omega, fun j hj => hall.out j (by omega), by show (l.getD k 0).toNat < 128; omega⟩) (fun h => by omega) (fun h => by omega)).1
              have hw : (k = 9 ∧ ¬ 1 < y % 128 ∧ ¬ y % 128 = 0) ∨ (k ≠ 9 ∧ k = 0) ∨ (k ≠ 9 ∧ k ≠ 0 ∧ ¬ y % 128 = 0) := by omega
              clear h0 h9
              rcases hw with hw | hw | hw
              · have e9 : ((k : Int) == 9) = true := beq_iff_eq.2 (by omega)
                have hd := hw.2.1
                have hk0' : (0 : Int) < (k : Int) := by omega
                have hd0 : (y % 128 == 0) = false := beq_eq_false_iff_ne.2 (by omega)
                clear hw
                go_wp2
                go_ret2
                exact ⟨by rw [H.out]; simp only; rw [← HR2.out]; rfl, rfl⟩
              · have e9 : ((k : Int) == 9) = false := beq_eq_false_iff_ne.2 (by omega)
                have hk0' : ¬ (0 : Int) < (k : Int) := by omega
                clear hw
                go_wp2
                go_ret2
                exact ⟨by rw [H.out]; simp only; rw [← HR2.out]; rfl, rfl⟩
              · have e9 : ((k : Int) == 9) = false := beq_eq_false_iff_ne.2 (by omega)
                have hk0' : (0 : Int) < (k : Int) := by omega
                have hd0 : (y % 128 == 0) = false := beq_eq_false_iff_ne.2 (by omega)
                clear hw
                go_wp2
                go_ret2
                exact ⟨by rw [H.out]; simp only; rw [← HR2.out]; rfl, rfl⟩
          · have HJ : Hid (∀ j, j < k + 1 → 128 ≤ (l.getD j 0).toNat) := by
              have e := HY.out
              intro j hj
              by_cases ej : j = k
              · subst ej; omega
              · exact hall.out j (by omega)
            rcases h9 with ⟨e, hd⟩ | e
            · have e9 : ((k : Int) == 9) = true := beq_iff_eq.2 (by omega)
              clear e
              go_wp2
              go_round
              case rel => exact ⟨k + 1, by go_num, by omega, by omega, HJ, by rw [HO.out]; rfl, fun _ => by rw [← HR2.out]; rfl, _, rfl⟩
              case measure => simp [intOf]; omega
            · have e9 : ((k : Int) == 9) = false := beq_eq_false_iff_ne.2 (by omega)
              clear e
              go_wp2
              go_round
              case rel => exact ⟨k + 1, by go_num, by omega, by omega, HJ, by rw [HO.out]; rfl, fun _ => by rw [← HR2.out]; rfl, _, rfl⟩
              case measure => simp [intOf]; omega
    · have H : Hid (dec64 l = (0, 0)) := dec64_none (.inl ⟨rfl, fun j h1 h2 => hall.out j (by omega)⟩)
      by_cases hk : k < l.length
      all_goals
        go_wp2
        go_ret2
        exact ⟨by rw [H.out]; rfl, rfl⟩

set_option maxRecDepth 100000 in
set_option maxHeartbeats 400000 in
theorem refGet_any (v : Value) (l : List UInt8) (w : World) (hr : Rd w v l) :
    Calls Try.prog 29 #[v] w fun e w' => e = .returned (.tuple #[.int .i64 ((dec62 l).1 : Nat), .int .i64 ((dec62 l).2 : Nat)]) ∧ w' = w := by
  have HC := hide (read_any v l w hr)
  have H : Hid (dec62 l = if (dec64 l).1 < 4611686018427387904 then dec64 l else (0, 0)) := rfl
  have HD := hide (dec64_cases l)
  generalize dec64 l = d at *
  obtain ⟨u, k⟩ := d
  obtain ⟨U, hU⟩ : ∃ U : Int, U = (u : Int) := ⟨_, rfl⟩
  simp only at HC H HD
  rw [← hU] at HC
  have hU0 : 0 ≤ U := by omega
  have HU := hide hU
  clear hU
  by_cases hk : k = 0
  · have H2 : Hid (dec62 l = (0, 0)) := by
      have e := H.out
      rcases HD.out with h | h
      · have hu0 : u = 0 := congrArg Prod.fst h
        subst hu0 hk
        exact e
      · omega
    have hk0 : ((k : Int) == 0) = true := beq_iff_eq.2 (by omega)
    clear hk
    go_enter Try.func29, Try.ntmps29
    go_wp2_with fail
    refine HC.out.mono ?_
    rintro e w' ⟨rfl, rfl⟩
    go_wp2
    go_ret2
    rw [H2.out]
    exact ⟨rfl, rfl⟩
  · have hk0 : ((k : Int) == 0) = false := beq_eq_false_iff_ne.2 (by omega)
    clear hk
    by_cases hu : U < 4611686018427387904
    · go_enter Try.func29, Try.ntmps29
      go_wp2_with fail
      refine HC.out.mono ?_
      rintro e w' ⟨rfl, rfl⟩
      go_wp2
      go_ret2
      have e := H.out
      have eu := HU.out
      rw [if_pos (by omega)] at e
      rw [e]
      exact ⟨by rw [eu]; rfl, rfl⟩
    · go_enter Try.func29, Try.ntmps29
      go_wp2_with fail
      refine HC.out.mono ?_
      rintro e w' ⟨rfl, rfl⟩
      go_wp2
      go_ret2
      have e := H.out
      have eu := HU.out
      rw [if_neg (by omega)] at e
      rw [e]
      exact ⟨rfl, rfl⟩

set_option maxRecDepth 100000 in
set_option maxHeartbeats 400000 in
theorem refGetSigned_any (v : Value) (l : List UInt8) (w : World) (hr : Rd w v l) :
    Calls Try.prog 46 #[v] w fun e w' => e = .returned (.tuple #[.int .i64 (zag (dec64 l).1), .int .i64 ((dec64 l).2 : Nat)]) ∧ w' = w := by
  have HC := hide (read_any v l w hr)
  have hlt := dec64_lt l
  have HD := hide (dec64_cases l)
  generalize dec64 l = d at *
  obtain ⟨u, k⟩ := d
  simp only at HC hlt HD
  by_cases hk : k = 0
  · have hu : u = 0 := by
      rcases HD.out with h | h
      · exact congrArg Prod.fst h
      · omega
    subst hk hu
    clear HD
    go_enter Try.func46, Try.ntmps46
    go_wp2_with fail
    refine HC.out.mono ?_
    rintro e w' ⟨rfl, rfl⟩
    go_wp2
    go_ret2
    exact ⟨rfl, rfl⟩
  · have hk0 : ((k : Int) == 0) = false := beq_eq_false_iff_ne.2 (by omega)
    clear hk
    go_enter Try.func46, Try.ntmps46
    go_wp2_with fail
    refine HC.out.mono ?_
    rintro e w' ⟨rfl, rfl⟩
    go_wp2_with fail
    refine (refZag_any u _ hlt).mono ?_
    rintro e w1 ⟨rfl, rfl⟩
    go_wp2
    go_ret2
    exact ⟨rfl, rfl⟩

/-- The number of the bytes from the k-th on, of the first eight. -/
def leTail (l : List UInt8) (k : Nat) : Nat := Lib.leNat ((l.take 8).drop k)

theorem leTail_out (l : List UInt8) (k : Nat) (h : l.length ≤ k) : leTail l k = leTail l (k + 1) := by
  unfold leTail
  rw [List.drop_of_length_le (by simp; omega), List.drop_of_length_le (by simp; omega)]

theorem leTail_in (l : List UInt8) (k : Nat) (h : k < l.length) (h8 : k < 8) : leTail l k = (l.getD k 0).toNat + 256 * leTail l (k + 1) := by
  unfold leTail
  have hk : k < (l.take 8).length := by simp; omega
  rw [List.drop_eq_getElem_cons hk, Lib.leNat]
  simp [List.getD, h]

theorem leTail_lt (l : List UInt8) (k : Nat) (h8 : k ≤ 8) : leTail l k < 256 ^ (8 - k) := by
  unfold leTail
  have h := leNat_lt ((l.take 8).drop k)
  have h2 : ((l.take 8).drop k).length ≤ 8 - k := by simp; omega
  have h3 : 256 ^ ((l.take 8).drop k).length ≤ 256 ^ (8 - k) := Nat.pow_le_pow_right (by decide) h2
  omega

theorem fixed_step (l : List UInt8) (k : Nat) (h : k < l.length) (h8 : k < 8) :
    ((((leTail l (k + 1) : Nat) : Int) * 256) % 18446744073709551616 + ((l.getD k 0).toNat : Int)) % 18446744073709551616 = ((leTail l k : Nat) : Int) := by
  have h1 := leTail_in l k h h8
  have h2 := leTail_lt l (k + 1) (by omega)
  have h3 : 256 ^ (8 - (k + 1)) ≤ 256 ^ 7 := Nat.pow_le_pow_right (by decide) (by omega)
  have e7 : 256 ^ 7 = 72057594037927936 := by decide
  have hb := (l.getD k 0).toNat_lt
  omega

end Go.Proofs.Ytgmdhlchdjlgnaa
