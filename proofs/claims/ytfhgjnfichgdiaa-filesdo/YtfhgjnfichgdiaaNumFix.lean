/- Contracts of lowest, Fixed32, Fixed64, Fixed. -/
import Derived.Test.YtfhgjnfichgdiaaNumGet
namespace Go.Proofs.Ytfhgjnfichgdiaa
open Go.RowKit

theorem leBytes_snoc : ∀ (k v : Nat), Lib.leBytes (k + 1) v = Lib.leBytes k v ++ [(v / 256 ^ k % 256).toUInt8]
  | 0, v => by simp [Lib.leBytes]
  | k + 1, v => by
    have ih := leBytes_snoc k (v / 256)
    have e : v / 256 / 256 ^ k = v / 256 ^ (k + 1) := by rw [Nat.div_div_eq_div_mul, Nat.pow_succ, Nat.mul_comm]
    rw [Lib.leBytes, ih, e]
    simp [Lib.leBytes]

/-- What lies in the row of c bytes behind k rounds. -/
def leRow (c k v : Nat) : List UInt8 := Lib.leBytes k v ++ List.replicate (c - k) 0

theorem leRow_length (c k v : Nat) (h : k ≤ c) : (leRow c k v).length = c := by
  simp [leRow, Lib.leBytes_length]
  omega

theorem leRow_set (c k v : Nat) (h : k < c) : (Lib.byteCells (leRow c k v)).set k (.int .u8 ((v / 256 ^ k % 256 : Nat) : Int)) = Lib.byteCells (leRow c (k + 1) v) := by
  have e : c - k = (c - (k + 1)) + 1 := by omega
  unfold leRow
  rw [leBytes_snoc, e, List.replicate_succ]
  have hl : (Lib.byteCells (Lib.leBytes k v)).length = k := by rw [byteCells_length, Lib.leBytes_length]
  have h8 : ((v / 256 ^ k % 256).toUInt8).toNat = v / 256 ^ k % 256 := Lib.toUInt8_toNat (Nat.mod_lt _ (by decide))
  simp only [Lib.byteCells, List.map_append, List.map_cons, List.map_nil, h8] at hl ⊢
  rw [List.set_append_right _ _ (by omega), hl]
  simp

theorem pow8 (k : Nat) : 2 ^ (8 * k) = 256 ^ k := by rw [Nat.pow_mul]

theorem low_plain (v k : Nat) : ((v : Int) / 2 ^ (8 * k)) % 256 = ((v / 256 ^ k % 256 : Nat) : Int) := by
  rw [← pow8]
  simp

theorem leNat_lt : ∀ l : List UInt8, Lib.leNat l < 256 ^ l.length
  | [] => by simp [Lib.leNat]
  | c :: r => by
    have h := leNat_lt r
    have hc := c.toNat_lt
    simp only [Lib.leNat, List.length_cons, Nat.pow_succ]
    omega

theorem leNat_snoc : ∀ (l : List UInt8) (c : UInt8), Lib.leNat (l ++ [c]) = Lib.leNat l + c.toNat * 256 ^ l.length
  | [], c => by simp [Lib.leNat]
  | d :: r, c => by
    have h := leNat_snoc r c
    simp only [List.cons_append, Lib.leNat, List.length_cons, Nat.pow_succ, h]
    rw [Nat.mul_add, ← Nat.mul_assoc, Nat.mul_comm 256 c.toNat, Nat.mul_assoc, Nat.mul_comm 256 (256 ^ r.length)]
    omega

theorem leNat_take (l : List UInt8) (k : Nat) (h : k < l.length) : Lib.leNat (l.take (k + 1)) = Lib.leNat (l.take k) + (l.getD k 0).toNat * 256 ^ k := by
  rw [take_snoc l k h, leNat_snoc, List.length_take, Nat.min_eq_left (by omega)]

theorem leNat_take_lt (l : List UInt8) (k : Nat) (h : k ≤ l.length) : Lib.leNat (l.take k) < 256 ^ k := by
  have := leNat_lt (l.take k)
  rwa [List.length_take, Nat.min_eq_left h] at this

theorem or_step8 (l : List UInt8) (k : Nat) (hk : k < l.length) (h8 : k < 8) :
    bits .or .u64 ((Lib.leNat (l.take k) : Nat) : Int) (IntKind.u64.wrap (((l.getD k 0).toNat : Int) * 2 ^ (8 * k))) = ((Lib.leNat (l.take (k + 1)) : Nat) : Int) := by
  have hv := leNat_take_lt l k (by omega)
  rw [leNat_take l k hk, ← pow8]
  rw [← pow8] at hv
  refine or_low (8 * k) _ _ (by omega) hv ?_
  have hp : 2 ^ (8 * k) ≤ 2 ^ 56 := Nat.pow_le_pow_right (by decide) (by omega)
  have hb := (l.getD k 0).toNat_lt
  have hm : (l.getD k 0).toNat ≤ 255 := by omega
  have := Nat.mul_le_mul hm hp
  have e56 : 255 * 2 ^ 56 < 18446744073709551616 := by decide
  omega

end Go.Proofs.Ytfhgjnfichgdiaa
