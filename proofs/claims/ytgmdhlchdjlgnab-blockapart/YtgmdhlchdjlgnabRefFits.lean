/- Contract of ferrymanref04: Fits. -/
import Derived.Test.YtgmdhlchdjlgnabRef04A
namespace Go.Proofs.Ytgmdhlchdjlgnab
open Go.RowKit

end Go.Proofs.Ytgmdhlchdjlgnab
