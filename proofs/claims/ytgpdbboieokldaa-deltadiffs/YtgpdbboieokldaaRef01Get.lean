/- Contracts of the document's answer for layer num, its readers: read, Get, GetSigned, Fixed, Zig, Zag. -/
import Derived.Test.YtgpdbboieokldaaPack3
namespace Go.Proofs.Ytgpdbboieokldaa
open Go.RowKit

theorem zigzag_neg' (n : Int) (h : ¬ 0 ≤ n) : ((Lib.zigzag n : Nat) : Int) = -(n + 1) * 2 + 1 := by
  unfold Lib.zigzag
  rw [if_neg h]
  omega

/-- 128^k modulo 2^64, as read reckons it. -/
def one128 (k : Nat) : Int := ((128 ^ k % 18446744073709551616 : Nat) : Int)

theorem one_step (k : Nat) : (one128 k * 128) % 18446744073709551616 = one128 (k + 1) := by
  unfold one128
  rw [Nat.pow_succ]
  omega

theorem read_step (l : List UInt8) (k : Nat) (hk : k < l.length) (h10 : k < 10) (h9 : k = 9 → ((l.getD k 0).toNat : Int) % 128 ≤ 1) :
    (((val (l.take k) : Nat) : Int) + (((l.getD k 0).toNat : Int) % 128 * one128 k) % 18446744073709551616) % 18446744073709551616 = ((val (l.take (k + 1)) : Nat) : Int) := by
  have hv := val_take_lt l k (by omega)
  have ho : one128 k = ((128 ^ k : Nat) : Int) := by
    unfold one128
    have : 128 ^ k ≤ 128 ^ 9 := Nat.pow_le_pow_right (by decide) (by omega)
    have e9 : 128 ^ 9 = 9223372036854775808 := by decide
    rw [Nat.mod_eq_of_lt (by omega)]
  rw [ho, val_take l k hk]
  have e : (((l.getD k 0).toNat : Int) % 128 * ((128 ^ k : Nat) : Int)) = (((l.getD k 0).toNat % 128 * 128 ^ k : Nat) : Int) := by
    rw [Int.natCast_mul]
    simp
  rw [e]
  have hb : (l.getD k 0).toNat % 128 * 128 ^ k < 9223372036854775809 := by
    by_cases hk9 : k = 9
    · have := h9 hk9
      subst hk9
      have e9 : 128 ^ 9 = 9223372036854775808 := by decide
      rw [e9]
      omega
    · have hp : 128 ^ k ≤ 128 ^ 8 := Nat.pow_le_pow_right (by decide) (by omega)
      have hm : (l.getD k 0).toNat % 128 ≤ 127 := by omega
      have := Nat.mul_le_mul hm hp
      have e8 : 127 * 128 ^ 8 < 9223372036854775809 := by decide
      omega
  have hv2 : val (l.take k) < 9223372036854775808 := by
    have : 128 ^ k ≤ 128 ^ 9 := Nat.pow_le_pow_right (by decide) (by omega)
    have e9 : 128 ^ 9 = 9223372036854775808 := by decide
    omega
  omega

/-- The number of the bytes from the k-th on, of the first eight. -/
def leTail (l : List UInt8) (k : Nat) : Nat := Lib.leNat ((l.take 8).drop k)

theorem leTail_out (l : List UInt8) (k : Nat) (h : l.length ≤ k) : leTail l k = leTail l (k + 1) := by
  unfold leTail
  rw [List.drop_of_length_le (by simp; omega), List.drop_of_length_le (by simp; omega)]

theorem leTail_in (l : List UInt8) (k : Nat) (h : k < l.length) (h8 : k < 8) : leTail l k = (l.getD k 0).toNat + 256 * leTail l (k + 1) := by
  unfold leTail
  have hk : k < (l.take 8).length := by simp; omega
  rw [List.drop_eq_getElem_cons hk, Lib.leNat]
  simp [List.getD, h]

theorem leTail_lt (l : List UInt8) (k : Nat) (h8 : k ≤ 8) : leTail l k < 256 ^ (8 - k) := by
  unfold leTail
  have h := leNat_lt ((l.take 8).drop k)
  have h2 : ((l.take 8).drop k).length ≤ 8 - k := by simp; omega
  have h3 : 256 ^ ((l.take 8).drop k).length ≤ 256 ^ (8 - k) := Nat.pow_le_pow_right (by decide) h2
  omega

theorem fixed_step (l : List UInt8) (k : Nat) (h : k < l.length) (h8 : k < 8) :
    ((((leTail l (k + 1) : Nat) : Int) * 256) % 18446744073709551616 + ((l.getD k 0).toNat : Int)) % 18446744073709551616 = ((leTail l k : Nat) : Int) := by
  have h1 := leTail_in l k h h8
  have h2 := leTail_lt l (k + 1) (by omega)
  have h3 : 256 ^ (8 - (k + 1)) ≤ 256 ^ 7 := Nat.pow_le_pow_right (by decide) (by omega)
  have e7 : 256 ^ 7 = 72057594037927936 := by decide
  have hb := (l.getD k 0).toNat_lt
  omega

end Go.Proofs.Ytgpdbboieokldaa
