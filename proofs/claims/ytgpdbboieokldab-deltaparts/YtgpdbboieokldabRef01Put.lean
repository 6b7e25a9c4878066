/- Contracts of the document's answer for layer num, what it puts: groups, Put, PutSigned, Fix. -/
import Derived.Test.YtgpdbboieokldabPack3
import Derived.Test.YtgpdbboieokldabRef01Get
namespace Go.Proofs.Ytgpdbboieokldab
open Go.RowKit

end Go.Proofs.Ytgpdbboieokldab
