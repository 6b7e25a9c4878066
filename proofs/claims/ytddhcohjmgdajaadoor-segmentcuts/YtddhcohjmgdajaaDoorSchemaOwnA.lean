/- Contracts of schema: isVersion, Upgrade. -/
import Derived.Test.YtddhcohjmgdajaaDoorPack5
import Derived.Test.YtddhcohjmgdajaaDoorPack6
namespace Go.Proofs.YtddhcohjmgdajaaDoor
open Go.RowKit

set_option maxRecDepth 100000 in
set_option maxHeartbeats 1000000 in
theorem isVersion_any (v : Int) (B : Bool) (hB : B = decide (1 ≤ v ∧ v ≤ 3)) (w : World) :
    Calls Tryd.prog 78 #[.int .i64 v] w fun e w' => e = .returned (.bool B) ∧ w' = w := by
  have HW := hide (inR_any v 1 3 B hB w)
  clear hB
  go_enter Tryd.func78, Tryd.ntmps78
  go_wp2_with fail
  refine HW.out.mono ?_
  rintro e W1 ⟨rfl, rfl⟩
  go_wp2
  go_ret
  exact ⟨rfl, rfl⟩

end Go.Proofs.YtddhcohjmgdajaaDoor
