/- Contracts of objs: May, Fits, Same, own, seal. -/
import Derived.Test.YtddhcohjmgdajaaDoorObjsMayB
namespace Go.Proofs.YtddhcohjmgdajaaDoor
open Go.RowKit

theorem may_split (kind : Int) (l : List Int) (shut : Bool) (g : Int) : MayS ⟨kind, l, shut, g⟩ ↔ (shut = false → g = 0) ∧ (0 ≤ g ∧ g ≤ 2) ∧ (0 ≤ kind ∧ kind < 6 ∧ NumsOk kind l) :=
  ⟨fun h => ⟨h.2.2.1, ⟨h.1, h.2.1⟩, h.2.2.2.1, h.2.2.2.2.1, h.2.2.2.2.2⟩, fun h => ⟨h.2.1.1, h.2.1.2, h.1, h.2.2.1, h.2.2.2.1, h.2.2.2.2⟩⟩

end Go.Proofs.YtddhcohjmgdajaaDoor
