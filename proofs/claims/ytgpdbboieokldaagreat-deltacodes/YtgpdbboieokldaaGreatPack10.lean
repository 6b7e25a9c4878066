import Derived.Test.YtgpdbboieokldaaGreatPack1
import Derived.Test.YtgpdbboieokldaaGreatSnapBoxes
/- Few: a state of at most 300 numbers. -/
namespace Go.Proofs.YtgpdbboieokldaaGreat
open Go.RowKit

end Go.Proofs.YtgpdbboieokldaaGreat

/- The chapter's bound on how much a snapshot has: Few. -/
namespace Go.Proofs.YtgpdbboieokldaaGreat
open Go.RowKit

end Go.Proofs.YtgpdbboieokldaaGreat

