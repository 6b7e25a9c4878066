/- Plain facts for the law CrcLinear. -/
import Derived.Test.YthgcgpmdllcdhaaCrcAwake
namespace Go.Proofs.Ythgcgpmdllcdhaa.crcLinear
open Go.RowKit

/-- The first k bytes of a row, noughts behind them. -/
def rowAt (f : List UInt8) (k : Nat) : List UInt8 := f.take k ++ List.replicate (f.length - k) 0

theorem rowAt_zero (f : List UInt8) : Lib.byteCells (rowAt f 0) = List.replicate f.length (Value.int .u8 0) := by
  unfold rowAt
  rw [List.take_zero, List.nil_append, Nat.sub_zero]
  simp [Lib.byteCells]

theorem rowAt_full (f : List UInt8) : rowAt f f.length = f := by simp [rowAt]

theorem rowAt_length (f : List UInt8) (k : Nat) (h : k ≤ f.length) : (rowAt f k).length = f.length := by
  simp [rowAt]
  omega

theorem rowAt_set (f : List UInt8) (k : Nat) (h : k < f.length) : (Lib.byteCells (rowAt f k)).set k (.int .u8 ((f.getD k 0).toNat : Int)) = Lib.byteCells (rowAt f (k + 1)) := by
  have e : f.length - k = (f.length - (k + 1)) + 1 := by omega
  unfold rowAt
  rw [take_snoc f k h, e, List.replicate_succ]
  have hl : (Lib.byteCells (f.take k)).length = k := by rw [byteCells_length, List.length_take]; omega
  simp only [Lib.byteCells, List.map_append, List.map_cons, List.map_nil] at hl ⊢
  rw [List.set_append_right _ _ (by omega), hl]
  simp

/-- Bytes turned by others. -/
def both (a b : List UInt8) : List UInt8 := List.zipWith (fun x y => x ^^^ y) a b

theorem leNat_both : ∀ (a b : List UInt8), a.length = b.length → Lib.leNat (both a b) = Lib.leNat a ^^^ Lib.leNat b
  | [], [], _ => rfl
  | x :: a, y :: b, h => by
    have ih := leNat_both a b (by simpa using h)
    have e : both (x :: a) (y :: b) = (x ^^^ y) :: both a b := rfl
    rw [e, leNat_cons_xor, leNat_cons_xor, leNat_cons_xor, ih, UInt8.toNat_xor]
    apply Nat.eq_of_testBit_eq
    intro j
    simp only [Nat.testBit_xor, Nat.testBit_two_pow_mul]
    cases decide (8 ≤ j) <;> cases x.toNat.testBit j <;> cases y.toNat.testBit j <;> cases (Lib.leNat a).testBit (j - 8) <;> cases (Lib.leNat b).testBit (j - 8) <;> rfl
  | [], y :: b, h => by simp at h
  | x :: a, [], h => by simp at h

theorem leNat_zeros : ∀ n : Nat, Lib.leNat (List.replicate n 0) = 0
  | 0 => rfl
  | n + 1 => by
    rw [List.replicate_succ, Lib.leNat, leNat_zeros n]
    rfl

theorem linear_plain (a b : List UInt8) (h : a.length = b.length) : crcMore 0 (both a b) = crcMore 0 a ^^^ crcMore 0 b ^^^ crcMore 0 (List.replicate a.length 0) := by
  have hl : (both a b).length = a.length := by simp [both, h]
  unfold crcMore
  rw [crcReg_ticks, crcReg_ticks, crcReg_ticks, crcReg_ticks, hl, ← h, List.length_replicate, leNat_both a b h, leNat_zeros, Nat.xor_zero]
  generalize 0 ^^^ 4294967295 = F0
  simp only [ticks_xor]
  generalize ticks (8 * a.length) F0 = F
  generalize ticks (8 * a.length) (Lib.leNat a) = A
  generalize ticks (8 * a.length) (Lib.leNat b) = B
  apply Nat.eq_of_testBit_eq
  intro j
  simp only [Nat.testBit_xor]
  cases (Nat.testBit 4294967295 j) <;> cases F.testBit j <;> cases A.testBit j <;> cases B.testBit j <;> rfl

theorem xor_int (a b : Nat) (ha : a < 4294967296) (hb : b < 4294967296) : bits .xor .u32 (a : Int) (b : Int) = ((a ^^^ b : Nat) : Int) := xor_u32 a b ha hb

theorem take_getD (l : List UInt8) (k n : Nat) (h : k < n) : (l.take n).getD k 0 = l.getD k 0 := by
  simp [List.getD, h]

theorem both_get (a b : List UInt8) (k : Nat) (ha : k < a.length) (hb : k < b.length) : (both a b).getD k 0 = a.getD k 0 ^^^ b.getD k 0 := by
  simp [both, List.getD, List.getElem?_zipWith, ha, hb]

end Go.Proofs.Ythgcgpmdllcdhaa.crcLinear
