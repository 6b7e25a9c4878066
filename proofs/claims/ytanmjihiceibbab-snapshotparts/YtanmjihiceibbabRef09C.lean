/- Contracts of ferrymanref09: whole. -/
import Derived.Test.YtanmjihiceibbabPack4
import Derived.Test.YtanmjihiceibbabRef05B
import Derived.Test.YtanmjihiceibbabPack2
namespace Go.Proofs.Ytanmjihiceibbab
open Go.RowKit

theorem entsL_snoc {t : List Ent} {k : Nat} (h : k < t.length) : entsL (t.take (k + 1)) = entsL (t.take k) ++ entL (t.getD k zeroE) := by
  rw [takeE_snoc h]
  unfold entsL
  rw [List.flatMap_append]
  simp

theorem uv10n {n : Nat} (h : n < 4611686018427387904) : (Lib.uvarint n).length ≤ 10 := Lib.uvarint_length64 (by omega)

end Go.Proofs.Ytanmjihiceibbab
