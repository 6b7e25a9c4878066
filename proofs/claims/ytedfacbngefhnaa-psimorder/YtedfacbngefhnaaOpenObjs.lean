/- States, operations, lists of operations and of numbers that came in. -/
import Derived.Test.YtedfacbngefhnaaPack1
import Derived.Test.YtedfacbngefhnaaOpenInts
import Derived.ChangeSlices
import Derived.Deep.Slices
import Derived.WideShapes
namespace Go.Proofs.Ytedfacbngefhnaa
open Go.RowKit Go.ChangeShapes

set_option maxRecDepth 100000 in
theorem cells_bool : Try.prog.cellsOf 4 = 1 := by kernel_rfl

set_option maxRecDepth 100000 in
theorem cells_state : Try.prog.cellsOf 24 = 4 := by kernel_rfl

set_option maxRecDepth 100000 in
theorem cells_op : Try.prog.cellsOf 26 = 3 := by kernel_rfl

section
variable {H : Type} {enc : TypeId × Value → H} {w : World} {base fuel : Nat} {held : Bool}

set_option maxRecDepth 100000 in
/-- The cells of a state. -/
theorem open_state_cells {cs : List Value} {x : DataW H × List MemPlace} (h : DataW.trod enc Try.prog w base (fun _ => true) held fuel 24 cs = some x) :
    ∃ (s : St) (vl : Value), cs = [.int .i64 s.kind, vl, .bool s.shut, .int .i64 s.eng] ∧ RdI w vl s.L ∧ I64 s.kind ∧ I64 s.eng := by
  obtain ⟨xs, n, _, _, hl, hxl, hf⟩ := DataW.trod_struct Try.underlying24 h
  rw [cells_state] at hl
  match xs, hxl, cs, hl with
  | [y0, y1, y2, y3], _, [c0, c1, c2, c3], _ =>
    have g0 := hf 0 _ rfl
    have g1 := hf 1 _ rfl
    have g2 := hf 2 _ rfl
    have g3 := hf 3 _ rfl
    simp [cells_int, cells_ints, cells_bool] at g0 g1 g2 g3
    obtain ⟨k, hk, _, wk⟩ := DataW.trod_int Try.underlying3 g0
    obtain ⟨vl, l, hv, hr⟩ := open_rdI g1
    obtain ⟨b, hb, _⟩ := DataW.trod_bool Try.underlying4 g2
    obtain ⟨e, he, _, we⟩ := DataW.trod_int Try.underlying3 g3
    simp only [List.cons.injEq, and_true] at hk hv hb he
    subst hk hv hb he
    exact ⟨⟨k, l, b, e⟩, _, rfl, hr, i64_of_wf wk, i64_of_wf we⟩

set_option maxRecDepth 100000 in
/-- A state that came in. -/
theorem open_state {r : Reach} {b0 : Nat} {v : Value} {d : DataW H} {p : List MemPlace} (hval : Value.okWide Try.prog w r b0 24 v) (h : DataW.Trod enc Try.prog w base (fun _ => true) held 24 v d p) : ∃ s, StV w v s := by
  obtain ⟨cs, rfl, hsz⟩ := Go.WideShapes.okWide_struct Try.underlying24 hval
  obtain ⟨fuel, hf⟩ := h
  obtain ⟨s, vl, hcs, hr, hk, he⟩ := open_state_cells hf
  refine ⟨s, vl, ?_, hr, hk, he⟩
  simp [Value.cells] at hcs
  exact congrArg Value.agg (Array.ext' hcs)

set_option maxRecDepth 100000 in
/-- The cells of an operation. -/
theorem open_op_cells {cs : List Value} {x : DataW H × List MemPlace} (h : DataW.trod enc Try.prog w base (fun _ => true) held fuel 26 cs = some x) :
    ∃ (o : Opn), cs = [.int .i64 o.code, .int .i64 o.a, .int .i64 o.b] ∧ OpOk o := by
  obtain ⟨xs, n, _, _, hl, hxl, hf⟩ := DataW.trod_struct Try.underlying26 h
  rw [cells_op] at hl
  match xs, hxl, cs, hl with
  | [y0, y1, y2], _, [c0, c1, c2], _ =>
    have g0 := hf 0 _ rfl
    have g1 := hf 1 _ rfl
    have g2 := hf 2 _ rfl
    simp [cells_int] at g0 g1 g2
    obtain ⟨k, hk, _, wk⟩ := DataW.trod_int Try.underlying3 g0
    obtain ⟨a, ha, _, wa⟩ := DataW.trod_int Try.underlying3 g1
    obtain ⟨b, hb, _, wb⟩ := DataW.trod_int Try.underlying3 g2
    simp only [List.cons.injEq, and_true] at hk ha hb
    subst hk ha hb
    exact ⟨⟨k, a, b⟩, rfl, i64_of_wf wk, i64_of_wf wa, i64_of_wf wb⟩

set_option maxRecDepth 100000 in
/-- An operation that came in. -/
theorem open_op {r : Reach} {b0 : Nat} {v : Value} {d : DataW H} {p : List MemPlace} (hval : Value.okWide Try.prog w r b0 26 v) (h : DataW.Trod enc Try.prog w base (fun _ => true) held 26 v d p) : ∃ o, v = opV o ∧ OpOk o := by
  obtain ⟨cs, rfl, hsz⟩ := Go.WideShapes.okWide_struct Try.underlying26 hval
  obtain ⟨fuel, hf⟩ := h
  obtain ⟨o, hcs, hok⟩ := open_op_cells hf
  refine ⟨o, ?_, hok⟩
  simp [Value.cells] at hcs
  exact congrArg Value.agg (Array.ext' hcs)

end

/-- The slice value v reads, in the world w, as the operations l. -/
def RdO (w : World) (v : Value) (l : List Opn) : Prop :=
  ∃ ao cap, v = .slice ao l.length cap ∧ l.length ≤ cap ∧ cap ≤ maxLen ∧ (ao = none → cap = 0) ∧ (∀ o ∈ l, OpOk o) ∧
    (l = [] ∨ ∃ b off, ao = some ⟨b, off, none⟩ ∧ ∀ j, j < l.length → w.cell? ⟨b, off + j * 3, none⟩ = some (.int .i64 (l.getD j ⟨0, 0, 0⟩).code) ∧ w.cell? ⟨b, off + j * 3 + 1, none⟩ = some (.int .i64 (l.getD j ⟨0, 0, 0⟩).a) ∧ w.cell? ⟨b, off + j * 3 + 2, none⟩ = some (.int .i64 (l.getD j ⟨0, 0, 0⟩).b))

set_option maxRecDepth 100000 in
theorem RdO.below {w w' : World} {v : Value} {l : List Opn} (h : RdO w v l) {B : Nat} (hb : Below B w w') (hB : w.heap.size ≤ B) : RdO w' v l := by
  obtain ⟨ao, cap, h1, h2, h3, hn, hw, h4⟩ := h
  refine ⟨ao, cap, h1, h2, h3, hn, hw, ?_⟩
  rcases h4 with h4 | ⟨b, off, h5, h6⟩
  · exact .inl h4
  · refine .inr ⟨b, off, h5, fun j hj => ?_⟩
    obtain ⟨c0, c1, c2⟩ := h6 j hj
    have hlt : b < w.heap.size := World.block_lt_of_cell? w ⟨b, off + j * 3, none⟩ c0
    refine ⟨?_, ?_, ?_⟩
    · rw [hb.cell (p := ⟨b, off + j * 3, none⟩) (by exact Nat.lt_of_lt_of_le hlt hB)]; exact c0
    · rw [hb.cell (p := ⟨b, off + j * 3 + 1, none⟩) (by exact Nat.lt_of_lt_of_le hlt hB)]; exact c1
    · rw [hb.cell (p := ⟨b, off + j * 3 + 2, none⟩) (by exact Nat.lt_of_lt_of_le hlt hB)]; exact c2

set_option maxRecDepth 100000 in
theorem choose_ops {m : Nat} {p : Nat → Opn → Prop} (h : ∀ i, i < m → ∃ o, p i o) : ∃ L : List Opn, L.length = m ∧ ∀ i, i < m → p i (L.getD i ⟨0, 0, 0⟩) := by
  induction m with
  | zero => exact ⟨[], rfl, fun i hi => by omega⟩
  | succ m ih =>
    obtain ⟨L, hL, hp⟩ := ih (fun i hi => h i (by omega))
    obtain ⟨o, ho⟩ := h m (by omega)
    refine ⟨L ++ [o], by simp [hL], fun i hi => ?_⟩
    by_cases e : i < m
    · have e2 : (L ++ [o]).getD i ⟨0, 0, 0⟩ = L.getD i ⟨0, 0, 0⟩ := by simp [List.getD, List.getElem?_append_left (show i < L.length by omega)]
      rw [e2]
      exact hp i e
    · have e3 : i = L.length := by omega
      subst e3
      have e2 : (L ++ [o]).getD L.length ⟨0, 0, 0⟩ = o := by simp [List.getD]
      rw [e2, hL]
      exact ho

set_option maxRecDepth 100000 in
/-- Operations that came in. -/
theorem open_ops {H : Type} {enc : TypeId × Value → H} {w : World} {base fuel : Nat} {held : Bool} {cs : List Value} {x : DataW H × List MemPlace} (h : DataW.trod enc Try.prog w base (fun _ => true) held fuel 74 cs = some x) : ∃ v l, cs = [v] ∧ RdO w v l := by
  rcases Go.Deep.open_slice Try.underlying74 h with ⟨hcs, _⟩ | ⟨a, len, cap, m, n, D, Pl, rfl, hb, hl, hm, hmm, _, hx⟩
  · exact ⟨_, [], hcs, none, 0, rfl, Nat.le_refl _, Nat.zero_le _, fun _ => rfl, (fun o h => by simp at h), .inl rfl⟩
  · have hmc : m = cap := by simpa using hmm
    subst hmc
    have each : ∀ i, i < len → ∃ o, OpOk o ∧ w.cell? (a.add (i * 3)) = some (.int .i64 o.code) ∧ w.cell? (a.add (i * 3 + 1)) = some (.int .i64 o.a) ∧ w.cell? (a.add (i * 3 + 2)) = some (.int .i64 o.b) := by
      intro i hi
      obtain ⟨cs', h1, h2⟩ := hx i (by omega)
      rw [cells_op] at h1
      obtain ⟨_, hlen, hcell⟩ := World.cells?_some h1
      obtain ⟨o, hcs, hok⟩ := open_op_cells h2
      subst hcs
      have e0 := hcell 0 (by omega)
      have e1 := hcell 1 (by omega)
      have e2 := hcell 2 (by omega)
      rw [Go.Deep.add_add] at e0 e1 e2
      exact ⟨o, hok, by simpa using e0, by simpa using e1, by simpa using e2⟩
    obtain ⟨L, hL, hp⟩ := choose_ops each
    refine ⟨_, L, rfl, some a, m, by rw [hL], by omega, hm, (fun e => by cases e), fun o ho => ?_, ?_⟩
    · obtain ⟨j, hj, rfl⟩ := List.getElem_of_mem ho
      have := (hp j (by omega)).1
      simpa [List.getD, hj] using this
    · by_cases h0 : L = []
      · exact .inl h0
      · right
        have h0' : 0 < L.length := List.length_pos_iff.2 h0
        obtain ⟨b, off, spot⟩ := a
        have hspot : spot = none := by
          have := (hp 0 (by omega)).2.1
          simpa [Addr.add] using World.cell?_spot this
        subst hspot
        refine ⟨b, off, rfl, fun j hj => ?_⟩
        obtain ⟨_, c0, c1, c2⟩ := hp j (by omega)
        rw [Addr.add_lit] at c0 c1 c2
        exact ⟨c0, c1, c2⟩

end Go.Proofs.Ytedfacbngefhnaa
