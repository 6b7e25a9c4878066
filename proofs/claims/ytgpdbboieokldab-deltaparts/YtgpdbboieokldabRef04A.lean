/- Contracts of ferrymanref04: cut, find, without, with, pairs. -/
import Derived.Test.YtgpdbboieokldabPack1
namespace Go.Proofs.Ytgpdbboieokldab
open Go.RowKit

end Go.Proofs.Ytgpdbboieokldab
