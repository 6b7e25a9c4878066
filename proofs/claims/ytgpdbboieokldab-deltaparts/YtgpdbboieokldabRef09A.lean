/- Contracts of ferrymanref09: Table, May, Same. -/
import Derived.Test.YtgpdbboieokldabPack3
import Derived.Test.YtgpdbboieokldabPack2
import Derived.Test.YtgpdbboieokldabRef04D
import Derived.Deep.QuietTactic
import Derived.BigQuiet
namespace Go.Proofs.Ytgpdbboieokldab
open Go.RowKit

end Go.Proofs.Ytgpdbboieokldab
