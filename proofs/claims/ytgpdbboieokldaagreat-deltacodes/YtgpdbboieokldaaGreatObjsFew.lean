/- Few: a state of at most 300 numbers. -/
import Derived.Test.YtgpdbboieokldaaGreatPack1
namespace Go.Proofs.YtgpdbboieokldaaGreat
open Go.RowKit

end Go.Proofs.YtgpdbboieokldaaGreat
