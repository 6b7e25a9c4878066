/- Contracts of the document's answer for layer num, what it puts: groups, Put, PutSigned, Fix. -/
import Derived.Test.YtonibpnhhdjklabDoorNumPut
import Derived.Test.YtonibpnhhdjklabDoorNumApp
import Derived.Test.YtonibpnhhdjklabDoorRef01Get
namespace Go.Proofs.YtonibpnhhdjklabDoor
open Go.RowKit

end Go.Proofs.YtonibpnhhdjklabDoor
