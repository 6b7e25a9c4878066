/- Contracts of ferrymanref03: Encode, Size, open, Decode. -/
import Derived.Test.YtgpdbboieokldaaPack2
import Derived.Test.YtgpdbboieokldaaFrameLists
import Derived.Test.YtgpdbboieokldaaPack5
import Derived.Test.YtgpdbboieokldaaCrcRef
namespace Go.Proofs.Ytgpdbboieokldaa
open Go.RowKit

/-- What Encode answers. -/
def encF (l : List UInt8) : List UInt8 × Nat := if l.length ≤ 1048576 then (frameOf l, 0) else ([], 5)

theorem ret_tup2 {v : Value} {k : IntKind} {a b : Int} (h : a = b) : Ending.returned (.tuple #[v, .int k a]) = .returned (.tuple #[v, .int k b]) := by rw [h]

theorem ret_tup3 {v : Value} {k k' : IntKind} {a b c d : Int} (h : a = b) (h' : c = d) : Ending.returned (.tuple #[v, .int k a, .int k' c]) = .returned (.tuple #[v, .int k b, .int k' d]) := by rw [h, h']

end Go.Proofs.Ytgpdbboieokldaa
