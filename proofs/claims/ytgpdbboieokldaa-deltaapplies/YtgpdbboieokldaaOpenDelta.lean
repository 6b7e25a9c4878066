/- Deltas that came in. -/
import Derived.Test.YtgpdbboieokldaaOpenSnap
import Derived.Test.YtgpdbboieokldaaDeltaBase
namespace Go.Proofs.Ytgpdbboieokldaa
open Go.RowKit Go.ChangeShapes

set_option maxRecDepth 100000 in
theorem cells_delta : Try.prog.cellsOf 31 = 8 := by kernel_rfl

set_option maxRecDepth 100000 in
/-- The cells of a delta. -/
theorem open_delta_cells {H : Type} {enc : TypeId × Value → H} {w : World} {base fuel : Nat} {held : Bool} {cs : List Value} {x : DataW H × List MemPlace} (h : DataW.trod enc Try.prog w base (fun _ => true) held fuel 31 cs = some x) :
    ∃ (d : Delt) (vm vt : Value), cs = [.int .i64 d.frm, .int .i64 d.upto, .int .i64 d.ahead, .int .i64 d.behind, vm, .bool d.shut, .int .i64 d.eng, vt] ∧ RdI w vm d.mid ∧ RdE w vt d.tab ∧ DelI d := by
  obtain ⟨xs, n, _, _, hl, hxl, hf⟩ := DataW.trod_struct Try.underlying31 h
  rw [cells_delta] at hl
  match xs, hxl, cs, hl with
  | [y0, y1, y2, y3, y4, y5, y6, y7], _, [c0, c1, c2, c3, c4, c5, c6, c7], _ =>
    have g0 := hf 0 _ rfl
    have g1 := hf 1 _ rfl
    have g2 := hf 2 _ rfl
    have g3 := hf 3 _ rfl
    have g4 := hf 4 _ rfl
    have g5 := hf 5 _ rfl
    have g6 := hf 6 _ rfl
    have g7 := hf 7 _ rfl
    simp [cells_int, cells_ints, cells_bool, cells_ents] at g0 g1 g2 g3 g4 g5 g6 g7
    obtain ⟨k0, hk0, _, wk0⟩ := DataW.trod_int Try.underlying3 g0
    obtain ⟨k1, hk1, _, wk1⟩ := DataW.trod_int Try.underlying3 g1
    obtain ⟨k2, hk2, _, wk2⟩ := DataW.trod_int Try.underlying3 g2
    obtain ⟨k3, hk3, _, wk3⟩ := DataW.trod_int Try.underlying3 g3
    obtain ⟨vm, m, hv, hm⟩ := open_rdI g4
    obtain ⟨s, hs, _⟩ := DataW.trod_bool Try.underlying4 g5
    obtain ⟨k6, hk6, _, wk6⟩ := DataW.trod_int Try.underlying3 g6
    obtain ⟨vt, t, hv', ht⟩ := open_ents g7
    simp only [List.cons.injEq, and_true] at hk0 hk1 hk2 hk3 hv hs hk6 hv'
    subst hk0 hk1 hk2 hk3 hv hs hk6 hv'
    exact ⟨⟨k0, k1, k2, k3, m, s, k6, t⟩, _, _, rfl, hm, ht, i64_of_wf wk0, i64_of_wf wk1, i64_of_wf wk2, i64_of_wf wk3, i64_of_wf wk6⟩

set_option maxRecDepth 100000 in
/-- A delta that came in. -/
theorem open_delta {H : Type} {enc : TypeId × Value → H} {w : World} {base : Nat} {held : Bool} {r : Reach} {b0 : Nat} {v : Value} {d : DataW H} {p : List MemPlace} (hval : Value.okWide Try.prog w r b0 31 v) (h : DataW.Trod enc Try.prog w base (fun _ => true) held 31 v d p) : ∃ s, DlV w v s := by
  obtain ⟨cs, rfl, hsz⟩ := Go.WideShapes.okWide_struct Try.underlying31 hval
  obtain ⟨fuel, hf⟩ := h
  obtain ⟨s, vm, vt, hcs, hm, ht, hi⟩ := open_delta_cells hf
  refine ⟨s, vm, vt, ?_, hm, ht, hi⟩
  simp [Value.cells] at hcs
  exact congrArg Value.agg (Array.ext' hcs)

end Go.Proofs.Ytgpdbboieokldaa
