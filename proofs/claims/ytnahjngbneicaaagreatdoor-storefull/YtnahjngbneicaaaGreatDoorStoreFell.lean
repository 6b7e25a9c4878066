import Derived.Test.YtnahjngbneicaaaGreatDoorStoreStrS
import Derived.Test.YtnahjngbneicaaaGreatDoorStoreRunR
namespace Go.Proofs.YtnahjngbneicaaaGreatDoor
set_option linter.unusedSimpArgs false
open _root_.Go.Proofs.Tryz
set_option maxRecDepth 100000
open Go.RowKit
theorem ZAI {kind room:Int} (a:0<=kind) (b:kind<6) (l:List SOp) (c:l.length<=60):JI kind (ZyD kind room l).1 (ZyD kind room l).2 l.length:=by
 have:=JI.run a b l (x:=ZmI kind room) (n:=0) (ZAH room kind) (Zhr room kind a b) (by omega)
 rw[za9] at this;exact this
end Go.Proofs.YtnahjngbneicaaaGreatDoor
