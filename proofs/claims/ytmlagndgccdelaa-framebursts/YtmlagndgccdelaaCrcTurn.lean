/- Turning bits of bytes: plain facts for the laws CrcBursts and CrcOdd. -/
import Derived.Test.YtmlagndgccdelaaCrcAwake
namespace Go.Proofs.Ytmlagndgccdelaa
open Go.RowKit

theorem pow_mul_xor (n x y : Nat) : 2 ^ n * (x ^^^ y) = 2 ^ n * x ^^^ 2 ^ n * y := by
  apply Nat.eq_of_testBit_eq
  intro j
  simp only [Nat.testBit_xor, Nat.testBit_two_pow_mul]
  cases decide (n ≤ j) <;> simp

/-- Bit number K of bytes is turned. -/
def turn (l : List UInt8) (K : Nat) : List UInt8 := l.set (K / 8) (l.getD (K / 8) 0 ^^^ UInt8.ofNat (2 ^ (K % 8)))

theorem turn_length (l : List UInt8) (K : Nat) : (turn l K).length = l.length := by simp [turn]

theorem pow8_lt (K : Nat) : 2 ^ (K % 8) < 256 := by
  have h : K % 8 ≤ 7 := by omega
  have := Nat.pow_le_pow_right (by decide : 0 < 2) h
  omega

theorem leNat_turn (l : List UInt8) (K : Nat) (h : K < 8 * l.length) : Lib.leNat (turn l K) = Lib.leNat l ^^^ 2 ^ K := by
  unfold turn
  rw [leNat_set l (K / 8) _ (by omega), UInt8.toNat_ofNat', Nat.mod_eq_of_lt (pow8_lt K), ← Nat.pow_add, Nat.div_add_mod]

/-- The cells of bytes of which one bit is turned. -/
theorem turn_cells (l : List UInt8) (K : Nat) {x : Int} (hx : x = bits .xor .u8 ((l.getD (K / 8) 0).toNat : Int) ((2 ^ (K % 8) : Nat) : Int)) : (Lib.byteCells l).set (K / 8) (.int .u8 x) = Lib.byteCells (turn l K) := by
  have hy : ((2 ^ (K % 8) : Nat) : Int) = (((UInt8.ofNat (2 ^ (K % 8))).toNat : Nat) : Int) := by
    rw [UInt8.toNat_ofNat', Nat.mod_eq_of_lt (pow8_lt K)]
  rw [hx, hy, xor_u8 _ _ (UInt8.toNat_lt _) (UInt8.toNat_lt _), ← UInt8.toNat_xor]
  unfold turn Lib.byteCells
  rw [List.map_set]

/-- Which of the bits are turned behind k rounds: those within the m that there are. -/
def cur (B m : Nat) : Nat → Nat
  | 0 => 0
  | k + 1 => if B / 2 ^ k % 2 = 1 ∧ k < m then cur B m k ^^^ 2 ^ k else cur B m k

theorem cur_lt (B m : Nat) : ∀ k : Nat, cur B m k < 2 ^ k
  | 0 => by simp [cur]
  | k + 1 => by
    have h := cur_lt B m k
    unfold cur
    have hp : 2 ^ k < 2 ^ (k + 1) := by rw [Nat.pow_succ]; have := Nat.pow_pos (n := k) (by decide : 0 < 2); omega
    split
    · exact Nat.xor_lt_two_pow (by omega) hp
    · omega

theorem cur_turned (B m k : Nat) (h : B / 2 ^ k % 2 = 1 ∧ k < m) : cur B m (k + 1) = cur B m k ^^^ 2 ^ k ∧ cur B m (k + 1) ≠ 0 := by
  have e : cur B m (k + 1) = cur B m k ^^^ 2 ^ k := by rw [cur, if_pos h]
  refine ⟨e, ?_⟩
  intro h0
  rw [e] at h0
  have := xor_zero_eq h0
  have := cur_lt B m k
  omega

theorem cur_stays (B m k : Nat) (h : ¬ (B / 2 ^ k % 2 = 1 ∧ k < m)) : cur B m (k + 1) = cur B m k := by rw [cur, if_neg h]

theorem sum_same (a b : List UInt8) (hl : a.length = b.length) : crcMore 0 a = crcMore 0 b ↔ ticks (8 * a.length) (Lib.leNat a ^^^ Lib.leNat b) = 0 := by
  have h := crcMore_diff 0 a b hl
  constructor
  · intro e
    rw [← h, e, Nat.xor_self]
  · intro e
    rw [e] at h
    exact xor_zero_eq h

theorem ticks_nought : ∀ k : Nat, ticks k 0 = 0
  | 0 => rfl
  | k + 1 => by
    rw [ticks]
    exact ticks_nought k

/-- Bits within 32 in a row are turned: the sums are two just if any is. -/
theorem burst_plain (b c : List UInt8) (at' X : Nat) (hl : c.length = b.length) (hat : at' ≤ 8 * b.length) (hX : X < 4294967296) (hc : Lib.leNat c = Lib.leNat b ^^^ 2 ^ at' * X) : crcMore 0 b = crcMore 0 c ↔ X = 0 := by
  rw [sum_same b c hl.symm, hc, ← Nat.xor_assoc, Nat.xor_self, Nat.zero_xor]
  have e : 8 * b.length = at' + (8 * b.length - at') := by omega
  rw [e]
  constructor
  · intro h
    apply Decidable.byContradiction
    intro h0
    exact burst_seen _ at' X h0 hX h
  · intro h
    rw [h, Nat.mul_zero]
    exact ticks_nought _

end Go.Proofs.Ytmlagndgccdelaa
