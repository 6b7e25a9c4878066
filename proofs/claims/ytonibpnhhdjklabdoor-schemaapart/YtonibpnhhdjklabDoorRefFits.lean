/- Contract of ferrymanref04: Fits. -/
import Derived.Test.YtonibpnhhdjklabDoorRef04A
namespace Go.Proofs.YtonibpnhhdjklabDoor
open Go.RowKit

end Go.Proofs.YtonibpnhhdjklabDoor
