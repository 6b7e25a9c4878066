/- Contracts of block: Fits, Encode, Decode. -/
import Derived.Test.YtddhcohjmgdajaaDoorBlockDec
import Derived.Test.YtddhcohjmgdajaaDoorBlockEncB
import Derived.Test.YtddhcohjmgdajaaDoorPack5
import Derived.Test.YtddhcohjmgdajaaDoorRef07S
namespace Go.Proofs.YtddhcohjmgdajaaDoor
open Go.RowKit

theorem blockFits_any (v : Value) (l : List Rec) (w : World) (hr : RdR w v l) (_hlim : l.length ≤ 300) :
    Calls Tryd.prog 75 #[v] w fun e w' => e = .returned (.bool (decide (FitsB l))) ∧ Below w.heap.size w w' := blockFitsB_any v l w hr

theorem blockEncode_any (v : Value) (l : List Rec) (w : World) (hr : RdR w v l) (_hlim : l.length ≤ 300) :
    Calls Tryd.prog 62 #[v] w fun e w' => EncodedB w l e w' := blockEncodeB_any v l w hr

theorem blockDecode_any (vb : Value) (b : List UInt8) (w : World) (hr : Rd w vb b) (hlim : b.length ≤ 100000) :
    Calls Tryd.prog 72 #[vb] w fun e w' => DecodedB w b e w' := blockDecodeB_any vb b w hr (by omega)

end Go.Proofs.YtddhcohjmgdajaaDoor
