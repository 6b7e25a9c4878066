/- Contract of ferrymanref06: value. -/
import Derived.Test.YtonibpnhhdjklabDoorRef06A
import Derived.Test.YtonibpnhhdjklabDoorRef01Get
namespace Go.Proofs.YtonibpnhhdjklabDoor
open Go.RowKit

theorem Below.allocs {a w : World} (h : Below a.heap.size a w) (X : Obj) : Below a.heap.size a (w.alloc X) := h.alloc h.size X

end Go.Proofs.YtonibpnhhdjklabDoor
