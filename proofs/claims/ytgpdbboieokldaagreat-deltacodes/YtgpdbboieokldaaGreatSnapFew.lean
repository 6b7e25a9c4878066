/- The chapter's bound on how much a snapshot has: Few. -/
import Derived.Test.YtgpdbboieokldaaGreatPack3
import Derived.Test.YtgpdbboieokldaaGreatObjsFew
namespace Go.Proofs.YtgpdbboieokldaaGreat
open Go.RowKit

end Go.Proofs.YtgpdbboieokldaaGreat
