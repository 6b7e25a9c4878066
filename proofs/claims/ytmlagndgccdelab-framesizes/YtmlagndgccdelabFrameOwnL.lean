/- Contracts of frame.begin, Whole, All. -/
import Derived.Test.YtmlagndgccdelabFrameOwnD
namespace Go.Proofs.Ytmlagndgccdelab
open Go.RowKit

end Go.Proofs.Ytmlagndgccdelab
