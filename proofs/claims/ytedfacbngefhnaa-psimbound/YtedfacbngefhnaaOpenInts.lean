/- Lists of numbers that came in. -/
import Derived.Test.YtedfacbngefhnaaPack1
import Derived.ChangeSlices
import Derived.Deep.Slices
import Derived.WideShapes
namespace Go.Proofs.Ytedfacbngefhnaa
open Go.RowKit Go.ChangeShapes

set_option maxRecDepth 100000 in
theorem cells_int : Try.prog.cellsOf 3 = 1 := by kernel_rfl

set_option maxRecDepth 100000 in
theorem cells_ints : Try.prog.cellsOf 22 = 1 := by kernel_rfl

set_option maxRecDepth 100000 in
theorem i64_of_wf {n : Int} (h : (Lit.int .i64 n).wf = true) : I64 n := by
  simpa [I64, Lit.wf, IntKind.min, IntKind.max, IntKind.signed, IntKind.bits] using h

section
variable {H : Type} {enc : TypeId × Value → H} {w : World} {base fuel : Nat} {held : Bool}

set_option maxRecDepth 100000 in
/-- Numbers that came in. -/
theorem open_rdI {cs : List Value} {x : DataW H × List MemPlace} (h : DataW.trod enc Try.prog w base (fun _ => true) held fuel 22 cs = some x) : ∃ v l, cs = [v] ∧ RdI w v l := by
  rcases open_ints Try.underlying22 Try.underlying3 (by kernel_rfl) h with ⟨hcs, _⟩ | ⟨y, l, c, zs, hcs, _, hl, hm, hz, _, hcell, hwz⟩
  · exact ⟨_, [], hcs, RdI.nil _⟩
  · exact ⟨_, _, hcs, RdI.ofRow hl hm (by simpa using hz) hcell hwz⟩

end

end Go.Proofs.Ytedfacbngefhnaa
