/- Contracts of schema: isVersion, Upgrade. -/
import Derived.Test.YtddhcohjmgdajabDoorPack4
import Derived.Test.YtddhcohjmgdajabDoorPack5
namespace Go.Proofs.YtddhcohjmgdajabDoor
open Go.RowKit

set_option maxRecDepth 100000 in
set_option maxHeartbeats 1000000 in
theorem isVersion_any (v : Int) (B : Bool) (hB : B = decide (1 ≤ v ∧ v ≤ 3)) (w : World) :
    Calls Tryd.prog 53 #[.int .i64 v] w fun e w' => e = .returned (.bool B) ∧ w' = w := by
  have HW := hide (inR_any v 1 3 B hB w)
  clear hB
  go_enter Tryd.func53, Tryd.ntmps53
  go_wp2_with fail
  refine HW.out.mono ?_
  rintro e W1 ⟨rfl, rfl⟩
  go_wp2
  go_ret
  exact ⟨rfl, rfl⟩

end Go.Proofs.YtddhcohjmgdajabDoor
