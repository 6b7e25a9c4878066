/- Contract of ferrymanref04.pairs. -/
import Derived.Test.YtgpdbboieokldabRef04A
namespace Go.Proofs.Ytgpdbboieokldab
open Go.RowKit

end Go.Proofs.Ytgpdbboieokldab
