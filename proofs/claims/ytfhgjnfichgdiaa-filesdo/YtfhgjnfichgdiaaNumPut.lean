/- Contracts of own, putGroups, Put, PutSigned: what the answer holds, that it is the call's own, and that nothing older has turned. -/
import Derived.Test.YtfhgjnfichgdiaaNumRead
namespace Go.Proofs.Ytfhgjnfichgdiaa
open Go.RowKit

theorem or128 (y : Nat) : bits .or .u8 ((y : Int) % 256) 128 = (y : Int) % 128 + 128 := by
  rw [Lib.u8_or128_any _ (by omega) (by omega)]
  omega

theorem Own.snoc {w : World} {B : Nat} {v : Value} (l pre : List UInt8) (a : Nat) (ha : a < 256) {n : Nat} {x : Int} (h : w.ownsRow B 5 1 v n (Lib.byteCells (l ++ pre) ++ [Value.int .u8 x])) (hn : n = l.length + pre.length + 1) (hx : x = (a : Int)) : Own w B v (l ++ (pre ++ [a.toUInt8])) := by
  subst hx
  refine Own.mk' h (by rw [hn]; simp; omega) ?_
  rw [← List.append_assoc, Lib.byteCells_snoc _ ha]

/-- What Put answers: the bytes, and behind them the groups, if the number may be. -/
def putOf (l : List UInt8) (n : Int) : List UInt8 := if 0 ≤ n ∧ n < 4611686018427387904 then l ++ Lib.uvarint n.toNat else l

end Go.Proofs.Ytfhgjnfichgdiaa
