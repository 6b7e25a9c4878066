/- Contracts of countGroups, getGroups, Get, GetSigned. -/
import Derived.Test.YtfhgjnfichgdiaaNumRead
namespace Go.Proofs.Ytfhgjnfichgdiaa
open Go.RowKit

/-- c is how many groups the bytes begin with; 0: the last one lacks, or is beyond ten. -/
def Cnt (l : List UInt8) (c : Nat) : Prop :=
  (c = 0 ∧ ∀ j, j < 10 → j < l.length → 128 ≤ (l.getD j 0).toNat) ∨
  (1 ≤ c ∧ c ≤ 10 ∧ c ≤ l.length ∧ (∀ j, j + 1 < c → 128 ≤ (l.getD j 0).toNat) ∧ (l.getD (c - 1) 0).toNat < 128)

theorem dec64_none {l : List UInt8} (h : Cnt l 0) : dec64 l = (0, 0) := by
  rcases h with ⟨_, h⟩ | h
  · unfold dec64
    rw [dec_miss 10 l h]
  · omega

theorem dec_cnt {l : List UInt8} {c : Nat} (h : Cnt l (c + 1)) : c < 10 ∧ c < l.length ∧ (l.getD c 0).toNat < 128 ∧
    dec 10 l = if 0 < c ∧ (l.getD c 0).toNat = 0 then none else some (val (l.take (c + 1)), c + 1) := by
  rcases h with h | ⟨h1, h2, h3, h4, h5⟩
  · omega
  · have h5' : (l.getD c 0).toNat < 128 := by simpa using h5
    exact ⟨by omega, by omega, h5', dec_hit c 10 l (by omega) (by omega) (fun j hj => h4 j (by omega)) h5'⟩

theorem val_take_lt (l : List UInt8) (k : Nat) (h : k ≤ l.length) : val (l.take k) < 128 ^ k := by
  have := val_lt (l.take k)
  rwa [List.length_take, Nat.min_eq_left h] at this

theorem dec64_ten {l : List UInt8} (h : Cnt l 10) (hy : (l.getD 9 0).toNat ≠ 1) : dec64 l = (0, 0) := by
  obtain ⟨h1, h2, h3, h4⟩ := dec_cnt h
  unfold dec64
  rw [h4]
  by_cases hz : (l.getD 9 0).toNat = 0
  · rw [if_pos ⟨by omega, hz⟩]
  · rw [if_neg (fun e => hz e.2)]
    have hv := val_take l 9 h2
    have hm : (l.getD 9 0).toNat % 128 = (l.getD 9 0).toNat := Nat.mod_eq_of_lt h3
    rw [hm] at hv
    have e9 : 128 ^ 9 = 9223372036854775808 := by decide
    rw [e9] at hv
    have : ¬ val (l.take (9 + 1)) < 18446744073709551616 := by omega
    simp only [this, if_false]

theorem dec64_last0 {l : List UInt8} {c : Nat} (h : Cnt l (c + 1)) (hc : 0 < c) (hy : (l.getD c 0).toNat = 0) : dec64 l = (0, 0) := by
  obtain ⟨h1, h2, h3, h4⟩ := dec_cnt h
  unfold dec64
  rw [h4, if_pos ⟨hc, hy⟩]

theorem dec64_good {l : List UInt8} {c : Nat} (h : Cnt l (c + 1)) (h10 : c = 9 → (l.getD c 0).toNat = 1) (h0 : 0 < c → (l.getD c 0).toNat ≠ 0) :
    dec64 l = (val (l.take (c + 1)), c + 1) ∧ val (l.take (c + 1)) < 18446744073709551616 := by
  obtain ⟨h1, h2, h3, h4⟩ := dec_cnt h
  have hlt : val (l.take (c + 1)) < 18446744073709551616 := by
    by_cases e : c = 9
    · subst e
      have hv := val_take l 9 h2
      have hv9 := val_take_lt l 9 (by omega)
      rw [h10 rfl] at hv
      have e9 : 128 ^ 9 = 9223372036854775808 := by decide
      rw [e9] at hv hv9
      omega
    · have hv := val_take_lt l (c + 1) (by omega)
      have hp : 128 ^ (c + 1) ≤ 128 ^ 9 := Nat.pow_le_pow_right (by decide) (by omega)
      have e9 : 128 ^ 9 = 9223372036854775808 := by decide
      omega
  refine ⟨?_, hlt⟩
  unfold dec64
  rw [h4, if_neg (fun e => h0 e.1 e.2)]
  simp only [hlt, if_true]

theorem or_low (k y x : Nat) (hk : k < 64) (hy : y < 2 ^ k) (hx : x * 2 ^ k < 18446744073709551616) :
    bits .or .u64 (y : Int) (IntKind.u64.wrap ((x : Int) * 2 ^ k)) = ((y + x * 2 ^ k : Nat) : Int) := by
  have e : ((x : Int) * 2 ^ k) = ((x * 2 ^ k : Nat) : Int) := by simp
  have hp : ((2 ^ k : Nat) : Int) = (2 : Int) ^ k := by simp
  have hk64 : (2 : Nat) ^ k ≤ 2 ^ 64 := Nat.pow_le_pow_right (by decide) (by omega)
  rw [e, wraps_u64 _ (by omega) (by omega), bits_join_low .u64 64 (by decide) wraps_u64 k (y : Int) ((x * 2 ^ k : Nat) : Int) (by omega) (by rw [← hp]; omega) (by omega) (by omega) (by rw [← hp]; simp) (by omega)]
  omega

theorem or_step (l : List UInt8) (k : Nat) (hk : k < l.length) (h10 : k < 10) (h9 : k = 9 → (l.getD k 0).toNat % 128 ≤ 1) :
    bits .or .u64 ((val (l.take k) : Nat) : Int) (IntKind.u64.wrap (((l.getD k 0).toNat : Int) % 128 * 2 ^ (7 * k))) = ((val (l.take (k + 1)) : Nat) : Int) := by
  have hv := val_take_lt l k (by omega)
  rw [val_take l k hk, ← pow7]
  rw [← pow7] at hv
  have e : (((l.getD k 0).toNat : Int) % 128) = (((l.getD k 0).toNat % 128 : Nat) : Int) := by omega
  rw [e]
  refine or_low (7 * k) _ _ (by omega) hv ?_
  by_cases hk9 : k = 9
  · have := h9 hk9
    subst hk9
    have e9 : 2 ^ (7 * 9) = 9223372036854775808 := by decide
    rw [e9]
    omega
  · have hp : 2 ^ (7 * k) ≤ 2 ^ 56 := Nat.pow_le_pow_right (by decide) (by omega)
    have hm : (l.getD k 0).toNat % 128 ≤ 127 := by omega
    have := Nat.mul_le_mul hm hp
    have e56 : 127 * 2 ^ 56 < 18446744073709551616 := by decide
    omega

end Go.Proofs.Ytfhgjnfichgdiaa
