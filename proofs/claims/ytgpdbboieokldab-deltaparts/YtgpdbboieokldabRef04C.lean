/- Contracts of ferrymanref04: May. -/
import Derived.Test.YtgpdbboieokldabRef04B
namespace Go.Proofs.Ytgpdbboieokldab
open Go.RowKit

end Go.Proofs.Ytgpdbboieokldab
