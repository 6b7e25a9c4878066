/- Contracts of ferrymanref04: cut, find, without, with, pairs. -/
import Derived.Test.YtonibpnhhdjklabDoorObjsBase
namespace Go.Proofs.YtonibpnhhdjklabDoor
open Go.RowKit

end Go.Proofs.YtonibpnhhdjklabDoor
