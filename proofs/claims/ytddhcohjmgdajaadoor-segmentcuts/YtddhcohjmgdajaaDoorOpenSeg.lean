/- Segments that came in. -/
import Derived.Test.YtddhcohjmgdajaaDoorOpenBlock
import Derived.Test.YtddhcohjmgdajaaDoorPack5
import Derived.Test.YtddhcohjmgdajaaDoorPack3
namespace Go.Proofs.YtddhcohjmgdajaaDoor
open Go.RowKit Go.ChangeShapes

set_option maxRecDepth 100000 in
theorem cells_seg : Tryd.prog.cellsOf 24 = 3 := by kernel_rfl

set_option maxRecDepth 100000 in
theorem cells_recs : Tryd.prog.cellsOf 22 = 1 := by kernel_rfl

set_option maxRecDepth 100000 in
/-- The cells of a segment. -/
theorem open_seg_cells {H : Type} {enc : TypeId × Value → H} {w : World} {base fuel : Nat} {held : Bool} {cs : List Value} {x : DataW H × List MemPlace} (h : DataW.trod enc Tryd.prog w base (fun _ => true) held fuel 24 cs = some x) :
    ∃ (s : Seg) (vl : Value), cs = [.int .i64 s.kind, .int .i64 s.first, vl] ∧ RdR w vl s.recs ∧ I64 s.kind ∧ I64 s.first := by
  obtain ⟨xs, n, _, _, hl, hxl, hf⟩ := DataW.trod_struct Tryd.underlying24 h
  rw [cells_seg] at hl
  match xs, hxl, cs, hl with
  | [y0, y1, y2], _, [c0, c1, c2], _ =>
    have g0 := hf 0 _ rfl
    have g1 := hf 1 _ rfl
    have g2 := hf 2 _ rfl
    simp [cells_int, cells_recs] at g0 g1 g2
    obtain ⟨k, hk, _, wk⟩ := DataW.trod_int Tryd.underlying3 g0
    obtain ⟨f, hfi, _, wf⟩ := DataW.trod_int Tryd.underlying3 g1
    obtain ⟨vl, l, hv, hr⟩ := open_recs g2
    simp only [List.cons.injEq, and_true] at hk hfi hv
    subst hk hfi hv
    exact ⟨⟨k, f, l⟩, _, rfl, hr, i64_of_wf wk, i64_of_wf wf⟩

set_option maxRecDepth 100000 in
/-- A segment that came in. -/
theorem open_seg {H : Type} {enc : TypeId × Value → H} {w : World} {base : Nat} {held : Bool} {r : Reach} {b0 : Nat} {v : Value} {d : DataW H} {p : List MemPlace} (hval : Value.okWide Tryd.prog w r b0 24 v) (h : DataW.Trod enc Tryd.prog w base (fun _ => true) held 24 v d p) : ∃ s, SgV w v s := by
  obtain ⟨cs, rfl, hsz⟩ := Go.WideShapes.okWide_struct Tryd.underlying24 hval
  obtain ⟨fuel, hf⟩ := h
  obtain ⟨s, vl, hcs, hr, hk, he⟩ := open_seg_cells hf
  refine ⟨s, vl, ?_, hr, hk, he⟩
  simp [Value.cells] at hcs
  exact congrArg Value.agg (Array.ext' hcs)

end Go.Proofs.YtddhcohjmgdajaaDoor
