/- Contracts of block: Fits, Encode, Decode. -/
import Derived.Test.YtgmdhlchdjlgnabBlockDec
import Derived.Test.YtgmdhlchdjlgnabBlockEncB
import Derived.Test.YtgmdhlchdjlgnabRef07D
import Derived.Test.YtgmdhlchdjlgnabRef07S
namespace Go.Proofs.Ytgmdhlchdjlgnab
open Go.RowKit

theorem blockFits_any (v : Value) (l : List Rec) (w : World) (hr : RdR w v l) (_hlim : l.length ≤ 300) :
    Calls Try.prog 7 #[v] w fun e w' => e = .returned (.bool (decide (FitsB l))) ∧ Below w.heap.size w w' := blockFitsB_any v l w hr

theorem blockEncode_any (v : Value) (l : List Rec) (w : World) (hr : RdR w v l) (_hlim : l.length ≤ 300) :
    Calls Try.prog 5 #[v] w fun e w' => EncodedB w l e w' := blockEncodeB_any v l w hr

end Go.Proofs.Ytgmdhlchdjlgnab
