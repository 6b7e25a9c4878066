/- Contracts of the document's answer for layer num, what it puts: groups, Put, PutSigned, Fix. -/
import Derived.Test.YtmlagndgccdelabNumPut
import Derived.Test.YtmlagndgccdelabNumApp
import Derived.Test.YtmlagndgccdelabRef01Get
namespace Go.Proofs.Ytmlagndgccdelab
open Go.RowKit

end Go.Proofs.Ytmlagndgccdelab
