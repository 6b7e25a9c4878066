/- Contracts of objs: mayNumbers, May. -/
import Derived.Test.YtddhcohjmgdajaaDoorObjsMayA
namespace Go.Proofs.YtddhcohjmgdajaaDoor
open Go.RowKit

theorem nums_one {kind : Int} (hk : kind = 0 ∨ kind = 1) (l : List Int) : (0 ≤ kind ∧ kind < 6 ∧ NumsOk kind l) ↔ l.length = 1 ∧ -1099511627776 ≤ l.getD 0 0 ∧ l.getD 0 0 ≤ 1099511627776 := by
  rw [numsOk_list (by omega) (by omega)]
  constructor
  · rintro ⟨_, _, _, h1, h2⟩
    exact ⟨h1 (by omega), h2 0 (by have := h1 (by omega); omega)⟩
  · rintro ⟨h1, h2⟩
    refine ⟨by omega, by omega, by omega, fun _ => h1, fun j hj => ?_⟩
    have e : j = 0 := by omega
    rw [e]
    exact h2

theorem nums_line {kind : Int} (hk : kind = 2 ∨ kind = 3) (l : List Int) : (0 ≤ kind ∧ kind < 6 ∧ NumsOk kind l) ↔ l.length ≤ 64 ∧ InBounds l := by
  rw [numsOk_list (by omega) (by omega)]
  constructor
  · rintro ⟨_, _, h1, _, h2⟩
    exact ⟨h1, h2⟩
  · rintro ⟨h1, h2⟩
    exact ⟨by omega, by omega, h1, fun h => by omega, h2⟩

theorem nums_store (l : List Int) : (0 ≤ (4 : Int) ∧ (4 : Int) < 6 ∧ NumsOk 4 l) ↔ PairsOk (-1099511627776) l := by
  unfold NumsOk
  rw [if_pos rfl]
  exact ⟨fun h => h.2.2, fun h => ⟨by decide, by decide, h⟩⟩

theorem nums_ledger (l : List Int) : (0 ≤ (5 : Int) ∧ (5 : Int) < 6 ∧ NumsOk 5 l) ↔ PairsOk 0 l := by
  unfold NumsOk
  rw [if_neg (by decide), if_pos rfl]
  exact ⟨fun h => h.2.2, fun h => ⟨by decide, by decide, h⟩⟩

end Go.Proofs.YtddhcohjmgdajaaDoor
