/- Contracts of ferrymanref04: Fits, Same. -/
import Derived.Test.YtgpdbboieokldabRef04C
import Derived.Test.YtgpdbboieokldabRefFits
namespace Go.Proofs.Ytgpdbboieokldab
open Go.RowKit

end Go.Proofs.Ytgpdbboieokldab
