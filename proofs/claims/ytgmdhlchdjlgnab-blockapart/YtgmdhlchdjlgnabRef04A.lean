/- Contracts of ferrymanref04: cut, find, without, with, pairs. -/
import Derived.Test.YtgmdhlchdjlgnabObjsBase
namespace Go.Proofs.Ytgmdhlchdjlgnab
open Go.RowKit

end Go.Proofs.Ytgmdhlchdjlgnab
