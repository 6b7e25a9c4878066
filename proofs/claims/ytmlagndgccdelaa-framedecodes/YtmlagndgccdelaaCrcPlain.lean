/- Plain mathematics of layer crc: one bit of the register, the sum of bytes as that bit's step repeated, and what follows. No program is named here. -/
import Derived.Lib.VarintMem
import Derived.Lib.Endian
namespace Go.Proofs.Ytmlagndgccdelaa

/-- One bit: half of it, exclusive or the polynomial, if it was odd. -/
def tick (x : Nat) : Nat := if x % 2 = 1 then x / 2 ^^^ 2197175160 else x / 2

/-- So many bits. -/
def ticks : Nat → Nat → Nat
  | 0, x => x
  | n + 1, x => ticks n (tick x)

/-- The table's entry. -/
def entry (c : Nat) : Nat := ticks 8 c

/-- One byte of a sum. -/
def crcByte (x c : Nat) : Nat := entry ((x ^^^ c) % 256) ^^^ x / 256

/-- The register behind bytes. -/
def crcReg : Nat → List UInt8 → Nat
  | x, [] => x
  | x, c :: r => crcReg (crcByte x c.toNat) r

/-- What More answers. -/
def crcMore (sum : Nat) (l : List UInt8) : Nat := crcReg (sum ^^^ 4294967295) l ^^^ 4294967295

theorem xor_mod2 (a b : Nat) : (a ^^^ b) % 2 = (a % 2 + b % 2) % 2 := by
  have h := @Nat.xor_mod_two_pow a b 1
  simp only [Nat.pow_one] at h
  rw [h]
  rcases Nat.mod_two_eq_zero_or_one a with ha | ha <;> rcases Nat.mod_two_eq_zero_or_one b with hb | hb <;> rw [ha, hb] <;> rfl

theorem xor_div2 (a b : Nat) : (a ^^^ b) / 2 = a / 2 ^^^ b / 2 := by
  have h := @Nat.shiftRight_xor_distrib 1 a b
  simpa [Nat.shiftRight_eq_div_pow] using h

theorem xor_cancel4 (a b p : Nat) : (a ^^^ p) ^^^ (b ^^^ p) = a ^^^ b := by
  rw [Nat.xor_comm b p, ← Nat.xor_assoc, Nat.xor_assoc a p p, Nat.xor_self, Nat.xor_zero]

theorem tick_xor (a b : Nat) : tick (a ^^^ b) = tick a ^^^ tick b := by
  unfold tick
  rw [xor_mod2, xor_div2]
  rcases Nat.mod_two_eq_zero_or_one a with ha | ha <;> rcases Nat.mod_two_eq_zero_or_one b with hb | hb <;> simp only [ha, hb]
  · rfl
  · simp [Nat.xor_assoc]
  · simp only [if_true, if_false, Nat.zero_ne_one]
    rw [Nat.xor_assoc, Nat.xor_assoc, Nat.xor_comm (b / 2)]
  · simp [xor_cancel4]

theorem ticks_xor : ∀ (n a b : Nat), ticks n (a ^^^ b) = ticks n a ^^^ ticks n b
  | 0, _, _ => rfl
  | n + 1, a, b => by
    simp only [ticks]
    rw [tick_xor, ticks_xor n]

theorem ticks_add : ∀ (m n x : Nat), ticks (m + n) x = ticks n (ticks m x)
  | 0, n, x => by rw [Nat.zero_add]; rfl
  | m + 1, n, x => by
    rw [Nat.add_right_comm]
    simp only [ticks]
    exact ticks_add m n (tick x)

theorem tick_even (x : Nat) : tick (2 * x) = x := by
  unfold tick
  rw [if_neg (by omega)]
  omega

theorem ticks_pow : ∀ (n x : Nat), ticks n (2 ^ n * x) = x
  | 0, x => by simp [ticks]
  | n + 1, x => by
    simp only [ticks]
    rw [Nat.pow_succ, Nat.mul_comm (2 ^ n) 2, Nat.mul_assoc, tick_even]
    exact ticks_pow n x

theorem tick_lt {n x : Nat} (hn : 32 ≤ n) (h : x < 2 ^ n) : tick x < 2 ^ n := by
  unfold tick
  have h2 : x / 2 < 2 ^ n := by omega
  split
  · refine Nat.xor_lt_two_pow h2 (Nat.lt_of_lt_of_le (by decide : 2197175160 < 2 ^ 32) (Nat.pow_le_pow_right (by decide) hn))
  · exact h2

theorem ticks_lt : ∀ (k : Nat) {n x : Nat}, 32 ≤ n → x < 2 ^ n → ticks k x < 2 ^ n
  | 0, _, _, _, h => h
  | k + 1, _, _, hn, h => ticks_lt k hn (tick_lt hn h)

theorem xor_zero_eq {a b : Nat} (h : a ^^^ b = 0) : a = b := by
  have e : (a ^^^ b) ^^^ b = 0 ^^^ b := by rw [h]
  rwa [Nat.xor_assoc, Nat.xor_self, Nat.xor_zero, Nat.zero_xor] at e

theorem xor_right {a b c : Nat} (h : a ^^^ c = b ^^^ c) : a = b := by
  have e : (a ^^^ c) ^^^ c = (b ^^^ c) ^^^ c := by rw [h]
  rwa [Nat.xor_assoc, Nat.xor_self, Nat.xor_zero, Nat.xor_assoc, Nat.xor_self, Nat.xor_zero] at e

theorem tick_zero {x : Nat} (hx : x < 4294967296) (h : tick x = 0) : x = 0 := by
  unfold tick at h
  split at h
  · have := xor_zero_eq h
    omega
  · omega

theorem ticks_zero : ∀ (k : Nat) {x : Nat}, x < 4294967296 → ticks k x = 0 → x = 0
  | 0, _, _, h => h
  | k + 1, x, hx, h => tick_zero hx (ticks_zero k (by have := tick_lt (n := 32) (Nat.le_refl _) (by omega : x < 2 ^ 32); omega) h)

theorem ticks_inj (k : Nat) {a b : Nat} (ha : a < 4294967296) (hb : b < 4294967296) (h : ticks k a = ticks k b) : a = b := by
  apply xor_zero_eq
  have hlt : a ^^^ b < 2 ^ 32 := Nat.xor_lt_two_pow (by omega) (by omega)
  apply ticks_zero k (by omega)
  rw [ticks_xor, h, Nat.xor_self]

/-- A number is its low bits, exclusive or what is above them. -/
theorem low_high (z n : Nat) : z = z % 2 ^ n ^^^ 2 ^ n * (z / 2 ^ n) := by
  apply Nat.eq_of_testBit_eq
  intro i
  rw [Nat.testBit_xor, Nat.testBit_mod_two_pow, Nat.testBit_two_pow_mul]
  by_cases h : i < n
  · have h2 : ¬ n ≤ i := by omega
    simp [h, h2]
  · have h2 : n ≤ i := by omega
    simp only [h, h2, decide_false, decide_true, Bool.false_and, Bool.true_and, Bool.false_xor, Nat.testBit_div_two_pow]
    rw [Nat.sub_add_cancel h2]

theorem crcByte_ticks (x c : Nat) (hc : c < 256) : crcByte x c = ticks 8 (x ^^^ c) := by
  have e : (x ^^^ c) / 256 = x / 256 := by
    have h := @Nat.shiftRight_xor_distrib 8 x c
    simp only [Nat.shiftRight_eq_div_pow] at h
    have h0 : c / 2 ^ 8 = 0 := by omega
    rw [h0, Nat.xor_zero] at h
    exact h
  have h := low_high (x ^^^ c) 8
  unfold crcByte entry
  conv => rhs; rw [h]
  rw [ticks_xor, ticks_pow]
  show _ = ticks 8 ((x ^^^ c) % 256) ^^^ (x ^^^ c) / 256
  rw [e]

theorem leNat_cons_xor (c : UInt8) (r : List UInt8) : Lib.leNat (c :: r) = c.toNat ^^^ 2 ^ 8 * Lib.leNat r := by
  have hc := c.toNat_lt
  have h := low_high (Lib.leNat (c :: r)) 8
  have e1 : Lib.leNat (c :: r) % 2 ^ 8 = c.toNat := by simp only [Lib.leNat]; omega
  have e2 : Lib.leNat (c :: r) / 2 ^ 8 = Lib.leNat r := by simp only [Lib.leNat]; omega
  rw [e1, e2] at h
  exact h

/-- The register behind bytes is that bit's step, eight times a byte, of the register and the bytes' number. -/
theorem crcReg_ticks : ∀ (l : List UInt8) (x : Nat), crcReg x l = ticks (8 * l.length) (x ^^^ Lib.leNat l)
  | [], x => by simp [crcReg, Lib.leNat, ticks]
  | c :: r, x => by
    have hc := c.toNat_lt
    rw [crcReg, crcReg_ticks r, crcByte_ticks x c.toNat (by omega), leNat_cons_xor, ← Nat.xor_assoc]
    have e : 8 * (c :: r).length = 8 + 8 * r.length := by simp; omega
    rw [e, ticks_add, ticks_xor 8 (x ^^^ c.toNat) (2 ^ 8 * Lib.leNat r), ticks_pow]

theorem crcReg_append : ∀ (a b : List UInt8) (x : Nat), crcReg x (a ++ b) = crcReg (crcReg x a) b
  | [], _, _ => rfl
  | c :: r, b, x => by
    rw [List.cons_append, crcReg, crcReg]
    exact crcReg_append r b _

theorem crcByte_lt {x c : Nat} (hx : x < 4294967296) (hc : c < 256) : crcByte x c < 4294967296 := by
  rw [crcByte_ticks x c hc]
  have h : x ^^^ c < 2 ^ 32 := Nat.xor_lt_two_pow (by omega) (by omega)
  have := ticks_lt 8 (Nat.le_refl 32) h
  omega

theorem crcReg_lt : ∀ (l : List UInt8) {x : Nat}, x < 4294967296 → crcReg x l < 4294967296
  | [], _, h => h
  | c :: r, x, h => crcReg_lt r (crcByte_lt h (by have := c.toNat_lt; omega))

theorem not_not (x : Nat) : (x ^^^ 4294967295) ^^^ 4294967295 = x := by rw [Nat.xor_assoc, Nat.xor_self, Nat.xor_zero]

theorem not_lt {x : Nat} (h : x < 4294967296) : x ^^^ 4294967295 < 4294967296 := by
  have := Nat.xor_lt_two_pow (n := 32) (by omega : x < 2 ^ 32) (by decide : 4294967295 < 2 ^ 32)
  omega

theorem not_inj {a b : Nat} (h : a ^^^ 4294967295 = b ^^^ 4294967295) : a = b := by
  rw [← not_not a, h, not_not]

theorem crcMore_lt {sum : Nat} (l : List UInt8) (h : sum < 4294967296) : crcMore sum l < 4294967296 := not_lt (crcReg_lt l (not_lt h))

theorem crcMore_append (sum : Nat) (a b : List UInt8) : crcMore sum (a ++ b) = crcMore (crcMore sum a) b := by
  unfold crcMore
  rw [crcReg_append, not_not]

theorem crcMore_nil (sum : Nat) : crcMore sum [] = sum := not_not sum

/-- Two sums that are not the same go on to two sums. -/
theorem crcMore_seeds {a b : Nat} (l : List UInt8) (ha : a < 4294967296) (hb : b < 4294967296) : crcMore a l = crcMore b l ↔ a = b := by
  constructor
  · intro h
    have h2 := not_inj h
    rw [crcReg_ticks, crcReg_ticks, ticks_xor _ (a ^^^ 4294967295), ticks_xor _ (b ^^^ 4294967295)] at h2
    exact not_inj (ticks_inj _ (not_lt ha) (not_lt hb) (xor_right h2))
  · intro h
    rw [h]

/-- Of two texts of one length: their sums' difference is that of their numbers. -/
theorem crcMore_diff (sum : Nat) (a b : List UInt8) (h : a.length = b.length) : crcMore sum a ^^^ crcMore sum b = ticks (8 * a.length) (Lib.leNat a ^^^ Lib.leNat b) := by
  unfold crcMore
  rw [xor_cancel4, crcReg_ticks, crcReg_ticks, ← h, ← ticks_xor, Nat.xor_comm _ (Lib.leNat a), Nat.xor_comm _ (Lib.leNat b), xor_cancel4]

/-- Whether the low n bits are an odd number of ones. -/
def odds : Nat → Nat → Bool
  | 0, _ => false
  | n + 1, x => (decide (x % 2 = 1)) ^^ odds n (x / 2)

theorem odds_xor : ∀ (n a b : Nat), odds n (a ^^^ b) = (odds n a ^^ odds n b)
  | 0, _, _ => rfl
  | n + 1, a, b => by
    simp only [odds]
    rw [xor_mod2, xor_div2, odds_xor n]
    have e : decide ((a % 2 + b % 2) % 2 = 1) = (decide (a % 2 = 1) ^^ decide (b % 2 = 1)) := by
      rcases Nat.mod_two_eq_zero_or_one a with ha | ha <;> rcases Nat.mod_two_eq_zero_or_one b with hb | hb <;> simp [ha, hb]
    rw [e]
    cases decide (a % 2 = 1) <;> cases decide (b % 2 = 1) <;> cases odds n (a / 2) <;> cases odds n (b / 2) <;> rfl

theorem odds_zero : ∀ n : Nat, odds n 0 = false
  | 0 => rfl
  | n + 1 => by simp [odds, odds_zero n]

/-- Bits beyond the number count nothing. -/
theorem odds_more : ∀ (n x : Nat), x < 2 ^ n → odds (n + 1) x = odds n x
  | 0, x, h => by
    have e : x = 0 := by simpa using h
    subst e
    rfl
  | n + 1, x, h => by
    rw [odds, odds_more n (x / 2) (by rw [Nat.pow_succ] at h; omega)]
    rfl

theorem odds_poly : ∀ n : Nat, odds (n + 32) 2197175160 = true
  | 0 => by decide
  | n + 1 => by
    have h : 2197175160 < 2 ^ (n + 32) := Nat.lt_of_lt_of_le (by decide : 2197175160 < 2 ^ 32) (Nat.pow_le_pow_right (by decide) (by omega))
    have e : n + 1 + 32 = n + 32 + 1 := by omega
    rw [e, odds_more _ _ h]
    exact odds_poly n

theorem odds_tick (n x : Nat) (h : x < 2 ^ (n + 32)) : odds (n + 32) (tick x) = odds (n + 32) x := by
  have e : odds (n + 32) x = (decide (x % 2 = 1) ^^ odds (n + 32) (x / 2)) := (odds_more (n + 32) x h).symm
  rw [e]
  generalize hm : n + 32 = m
  have hp : odds m 2197175160 = true := by rw [← hm]; exact odds_poly n
  unfold tick
  by_cases hx : x % 2 = 1
  · rw [if_pos hx, odds_xor, hp]
    simp [hx]
  · rw [if_neg hx]
    simp [hx]

theorem odds_ticks : ∀ (k n x : Nat), x < 2 ^ (n + 32) → odds (n + 32) (ticks k x) = odds (n + 32) x
  | 0, _, _, _ => rfl
  | k + 1, n, x, h => by
    rw [ticks, odds_ticks k n (tick x) (tick_lt (by omega) h), odds_tick n x h]

theorem odds_pow : ∀ (n k : Nat), k < n → odds n (2 ^ k) = true
  | 0, _, h => by omega
  | n + 1, 0, _ => by
    have e : (2 ^ 0) / 2 = 0 := by decide
    rw [odds, e, odds_zero]
    decide
  | n + 1, k + 1, h => by
    have e1 : 2 ^ (k + 1) % 2 = 0 := by rw [Nat.pow_succ]; omega
    have e2 : 2 ^ (k + 1) / 2 = 2 ^ k := by rw [Nat.pow_succ]; omega
    rw [odds, e1, e2, odds_pow n k (by omega)]
    rfl

/-- A difference of an odd number of bits is seen. -/
theorem odd_seen (n k x : Nat) (h : x < 2 ^ (n + 32)) (ho : odds (n + 32) x = true) : ticks k x ≠ 0 := by
  intro e
  have h2 := odds_ticks k n x h
  rw [e, odds_zero, ho] at h2
  cases h2

/-- A difference within 32 bits in a row is seen. -/
theorem burst_seen (k at' x : Nat) (h0 : x ≠ 0) (hx : x < 4294967296) : ticks (at' + k) (2 ^ at' * x) ≠ 0 := by
  rw [ticks_add, ticks_pow]
  exact fun e => h0 (ticks_zero k hx e)

theorem leNat_lt256 : ∀ l : List UInt8, Lib.leNat l < 2 ^ (8 * l.length)
  | [] => by simp [Lib.leNat]
  | c :: r => by
    have h := leNat_lt256 r
    have hc := c.toNat_lt
    have e : 8 * (c :: r).length = 8 * r.length + 8 := by simp; omega
    simp only [Lib.leNat]
    rw [e, Nat.pow_add]
    omega

/-- Turning bits of one byte turns bits of the number. -/
theorem leNat_set : ∀ (l : List UInt8) (i : Nat) (y : UInt8), i < l.length → Lib.leNat (l.set i (l.getD i 0 ^^^ y)) = Lib.leNat l ^^^ 2 ^ (8 * i) * y.toNat
  | c :: r, 0, y, _ => by
    have e : (c :: r).set 0 ((c :: r).getD 0 0 ^^^ y) = (c ^^^ y) :: r := by simp
    rw [e, leNat_cons_xor, leNat_cons_xor, UInt8.toNat_xor, Nat.xor_assoc, Nat.xor_assoc, Nat.xor_comm y.toNat]
    simp
  | c :: r, i + 1, y, h => by
    have e : (c :: r).set (i + 1) ((c :: r).getD (i + 1) 0 ^^^ y) = c :: r.set i (r.getD i 0 ^^^ y) := by simp
    rw [e, leNat_cons_xor, leNat_cons_xor, leNat_set r i y (by simpa using h)]
    have e2 : 2 ^ (8 * (i + 1)) * y.toNat = 2 ^ 8 * (2 ^ (8 * i) * y.toNat) := by rw [Nat.mul_add, Nat.pow_add, Nat.mul_one, Nat.mul_comm (2 ^ (8 * i)), Nat.mul_assoc]
    rw [e2, Nat.xor_assoc]
    congr 1
    apply Nat.eq_of_testBit_eq
    intro j
    simp only [Nat.testBit_xor, Nat.testBit_two_pow_mul]
    cases decide (8 ≤ j) <;> simp

end Go.Proofs.Ytmlagndgccdelaa
