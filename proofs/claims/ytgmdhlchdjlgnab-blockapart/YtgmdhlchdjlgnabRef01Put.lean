/- Contracts of the document's answer for layer num, what it puts: groups, Put, PutSigned, Fix. -/
import Derived.Test.YtgmdhlchdjlgnabNumPut
import Derived.Test.YtgmdhlchdjlgnabNumApp
import Derived.Test.YtgmdhlchdjlgnabRef01Get
namespace Go.Proofs.Ytgmdhlchdjlgnab
open Go.RowKit

end Go.Proofs.Ytgmdhlchdjlgnab
