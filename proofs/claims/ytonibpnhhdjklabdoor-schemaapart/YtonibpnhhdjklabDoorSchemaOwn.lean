/- Contracts of schema: Decode (Fits and Upgrade: SchemaOwnA; Encode: SchemaOwnB). -/
import Derived.Test.YtonibpnhhdjklabDoorSchemaOwnD
namespace Go.Proofs.YtonibpnhhdjklabDoor
open Go.RowKit

end Go.Proofs.YtonibpnhhdjklabDoor
