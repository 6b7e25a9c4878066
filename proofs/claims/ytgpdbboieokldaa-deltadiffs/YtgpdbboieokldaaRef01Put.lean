/- Contracts of the document's answer for layer num, what it puts: groups, Put, PutSigned, Fix. -/
import Derived.Test.YtgpdbboieokldaaPack3
import Derived.Test.YtgpdbboieokldaaRef01Get
namespace Go.Proofs.Ytgpdbboieokldaa
open Go.RowKit

end Go.Proofs.Ytgpdbboieokldaa
