import Derived.Test.YtgpdbboieokldaaGreatPack1
import Derived.ChangeSlices
import Derived.Deep.Slices
import Derived.WideShapes
import Derived.Test.YtgpdbboieokldaaGreatPack3
import Derived.Test.YtgpdbboieokldaaGreatDeltaBase
import Derived.Deep.QuietTactic
import Derived.BigQuiet
/- States, operations, lists of operations and of numbers that came in. -/
namespace Go.Proofs.YtgpdbboieokldaaGreat
open Go.RowKit Go.ChangeShapes

set_option maxRecDepth 100000 in
theorem cells_int : Tryz.prog.cellsOf 3 = 1 := by kernel_rfl

set_option maxRecDepth 100000 in
theorem cells_ints : Tryz.prog.cellsOf 22 = 1 := by kernel_rfl

set_option maxRecDepth 100000 in
theorem cells_bool : Tryz.prog.cellsOf 4 = 1 := by kernel_rfl

set_option maxRecDepth 100000 in
theorem cells_state : Tryz.prog.cellsOf 37 = 4 := by kernel_rfl

set_option maxRecDepth 100000 in
theorem cells_op : Tryz.prog.cellsOf 97 = 3 := by kernel_rfl

set_option maxRecDepth 100000 in
theorem i64_of_wf {n : Int} (h : (Lit.int .i64 n).wf = true) : I64 n := by
  simpa [I64, Lit.wf, IntKind.min, IntKind.max, IntKind.signed, IntKind.bits] using h

section
variable {H : Type} {enc : TypeId × Value → H} {w : World} {base fuel : Nat} {held : Bool}

set_option maxRecDepth 100000 in
/-- Numbers that came in. -/
theorem open_rdI {cs : List Value} {x : DataW H × List MemPlace} (h : DataW.trod enc Tryz.prog w base (fun _ => true) held fuel 22 cs = some x) : ∃ v l, cs = [v] ∧ RdI w v l := by
  rcases open_ints Tryz.underlying22 Tryz.underlying3 (by kernel_rfl) h with ⟨hcs, _⟩ | ⟨y, l, c, zs, hcs, _, hl, hm, hz, _, hcell, hwz⟩
  · exact ⟨_, [], hcs, RdI.nil _⟩
  · exact ⟨_, _, hcs, RdI.ofRow hl hm (by simpa using hz) hcell hwz⟩

set_option maxRecDepth 100000 in
/-- The cells of a state. -/
theorem open_state_cells {cs : List Value} {x : DataW H × List MemPlace} (h : DataW.trod enc Tryz.prog w base (fun _ => true) held fuel 37 cs = some x) :
    ∃ (s : St) (vl : Value), cs = [.int .i64 s.kind, vl, .bool s.shut, .int .i64 s.eng] ∧ RdI w vl s.L ∧ I64 s.kind ∧ I64 s.eng := by
  obtain ⟨xs, n, _, _, hl, hxl, hf⟩ := DataW.trod_struct Tryz.underlying37 h
  rw [cells_state] at hl
  match xs, hxl, cs, hl with
  | [y0, y1, y2, y3], _, [c0, c1, c2, c3], _ =>
    have g0 := hf 0 _ rfl
    have g1 := hf 1 _ rfl
    have g2 := hf 2 _ rfl
    have g3 := hf 3 _ rfl
    simp [cells_int, cells_ints, cells_bool] at g0 g1 g2 g3
    obtain ⟨k, hk, _, wk⟩ := DataW.trod_int Tryz.underlying3 g0
    obtain ⟨vl, l, hv, hr⟩ := open_rdI g1
    obtain ⟨b, hb, _⟩ := DataW.trod_bool Tryz.underlying4 g2
    obtain ⟨e, he, _, we⟩ := DataW.trod_int Tryz.underlying3 g3
    simp only [List.cons.injEq, and_true] at hk hv hb he
    subst hk hv hb he
    exact ⟨⟨k, l, b, e⟩, _, rfl, hr, i64_of_wf wk, i64_of_wf we⟩

set_option maxRecDepth 100000 in
/-- A state that came in. -/
theorem open_state {r : Reach} {b0 : Nat} {v : Value} {d : DataW H} {p : List MemPlace} (hval : Value.okWide Tryz.prog w r b0 37 v) (h : DataW.Trod enc Tryz.prog w base (fun _ => true) held 37 v d p) : ∃ s, StV w v s := by
  obtain ⟨cs, rfl, hsz⟩ := Go.WideShapes.okWide_struct Tryz.underlying37 hval
  obtain ⟨fuel, hf⟩ := h
  obtain ⟨s, vl, hcs, hr, hk, he⟩ := open_state_cells hf
  refine ⟨s, vl, ?_, hr, hk, he⟩
  simp [Value.cells] at hcs
  exact congrArg Value.agg (Array.ext' hcs)

set_option maxRecDepth 100000 in
/-- The cells of an operation. -/
theorem open_op_cells {cs : List Value} {x : DataW H × List MemPlace} (h : DataW.trod enc Tryz.prog w base (fun _ => true) held fuel 97 cs = some x) :
    ∃ (o : Opn), cs = [.int .i64 o.code, .int .i64 o.a, .int .i64 o.b] ∧ OpOk o := by
  obtain ⟨xs, n, _, _, hl, hxl, hf⟩ := DataW.trod_struct Tryz.underlying97 h
  rw [cells_op] at hl
  match xs, hxl, cs, hl with
  | [y0, y1, y2], _, [c0, c1, c2], _ =>
    have g0 := hf 0 _ rfl
    have g1 := hf 1 _ rfl
    have g2 := hf 2 _ rfl
    simp [cells_int] at g0 g1 g2
    obtain ⟨k, hk, _, wk⟩ := DataW.trod_int Tryz.underlying3 g0
    obtain ⟨a, ha, _, wa⟩ := DataW.trod_int Tryz.underlying3 g1
    obtain ⟨b, hb, _, wb⟩ := DataW.trod_int Tryz.underlying3 g2
    simp only [List.cons.injEq, and_true] at hk ha hb
    subst hk ha hb
    exact ⟨⟨k, a, b⟩, rfl, i64_of_wf wk, i64_of_wf wa, i64_of_wf wb⟩

set_option maxRecDepth 100000 in
/-- An operation that came in. -/
theorem open_op {r : Reach} {b0 : Nat} {v : Value} {d : DataW H} {p : List MemPlace} (hval : Value.okWide Tryz.prog w r b0 97 v) (h : DataW.Trod enc Tryz.prog w base (fun _ => true) held 97 v d p) : ∃ o, v = opV o ∧ OpOk o := by
  obtain ⟨cs, rfl, hsz⟩ := Go.WideShapes.okWide_struct Tryz.underlying97 hval
  obtain ⟨fuel, hf⟩ := h
  obtain ⟨o, hcs, hok⟩ := open_op_cells hf
  refine ⟨o, ?_, hok⟩
  simp [Value.cells] at hcs
  exact congrArg Value.agg (Array.ext' hcs)

end

/-- The slice value v reads, in the world w, as the operations l. -/
def RdO (w : World) (v : Value) (l : List Opn) : Prop :=
  ∃ ao cap, v = .slice ao l.length cap ∧ l.length ≤ cap ∧ cap ≤ maxLen ∧ (ao = none → cap = 0) ∧ (∀ o ∈ l, OpOk o) ∧
    (l = [] ∨ ∃ b off, ao = some ⟨b, off, none⟩ ∧ ∀ j, j < l.length → w.cell? ⟨b, off + j * 3, none⟩ = some (.int .i64 (l.getD j ⟨0, 0, 0⟩).code) ∧ w.cell? ⟨b, off + j * 3 + 1, none⟩ = some (.int .i64 (l.getD j ⟨0, 0, 0⟩).a) ∧ w.cell? ⟨b, off + j * 3 + 2, none⟩ = some (.int .i64 (l.getD j ⟨0, 0, 0⟩).b))

set_option maxRecDepth 100000 in
theorem RdO.below {w w' : World} {v : Value} {l : List Opn} (h : RdO w v l) {B : Nat} (hb : Below B w w') (hB : w.heap.size ≤ B) : RdO w' v l := by
  obtain ⟨ao, cap, h1, h2, h3, hn, hw, h4⟩ := h
  refine ⟨ao, cap, h1, h2, h3, hn, hw, ?_⟩
  rcases h4 with h4 | ⟨b, off, h5, h6⟩
  · exact .inl h4
  · refine .inr ⟨b, off, h5, fun j hj => ?_⟩
    obtain ⟨c0, c1, c2⟩ := h6 j hj
    have hlt : b < w.heap.size := World.block_lt_of_cell? w ⟨b, off + j * 3, none⟩ c0
    refine ⟨?_, ?_, ?_⟩
    · rw [hb.cell (p := ⟨b, off + j * 3, none⟩) (by exact Nat.lt_of_lt_of_le hlt hB)]; exact c0
    · rw [hb.cell (p := ⟨b, off + j * 3 + 1, none⟩) (by exact Nat.lt_of_lt_of_le hlt hB)]; exact c1
    · rw [hb.cell (p := ⟨b, off + j * 3 + 2, none⟩) (by exact Nat.lt_of_lt_of_le hlt hB)]; exact c2

set_option maxRecDepth 100000 in
theorem choose_ops {m : Nat} {p : Nat → Opn → Prop} (h : ∀ i, i < m → ∃ o, p i o) : ∃ L : List Opn, L.length = m ∧ ∀ i, i < m → p i (L.getD i ⟨0, 0, 0⟩) := by
  induction m with
  | zero => exact ⟨[], rfl, fun i hi => by omega⟩
  | succ m ih =>
    obtain ⟨L, hL, hp⟩ := ih (fun i hi => h i (by omega))
    obtain ⟨o, ho⟩ := h m (by omega)
    refine ⟨L ++ [o], by simp [hL], fun i hi => ?_⟩
    by_cases e : i < m
    · have e2 : (L ++ [o]).getD i ⟨0, 0, 0⟩ = L.getD i ⟨0, 0, 0⟩ := by simp [List.getD, List.getElem?_append_left (show i < L.length by omega)]
      rw [e2]
      exact hp i e
    · have e3 : i = L.length := by omega
      subst e3
      have e2 : (L ++ [o]).getD L.length ⟨0, 0, 0⟩ = o := by simp [List.getD]
      rw [e2, hL]
      exact ho

end Go.Proofs.YtgpdbboieokldaaGreat

/- Snapshots, and entries, that came in. -/
namespace Go.Proofs.YtgpdbboieokldaaGreat
open Go.RowKit Go.ChangeShapes

set_option maxRecDepth 100000 in
theorem cells_ent : Tryz.prog.cellsOf 48 = 3 := by kernel_rfl

set_option maxRecDepth 100000 in
/-- The cells of an entry. -/
theorem open_ent_cells {H : Type} {enc : TypeId × Value → H} {w : World} {base fuel : Nat} {held : Bool} {cs : List Value} {x : DataW H × List MemPlace} (h : DataW.trod enc Tryz.prog w base (fun _ => true) held fuel 48 cs = some x) :
    ∃ (o : Ent), cs = [.int .i64 o.proc, .int .i64 o.seq, .int .i64 o.resp] ∧ EntI o := by
  obtain ⟨xs, n, _, _, hl, hxl, hf⟩ := DataW.trod_struct Tryz.underlying48 h
  rw [cells_ent] at hl
  match xs, hxl, cs, hl with
  | [y0, y1, y2], _, [c0, c1, c2], _ =>
    have g0 := hf 0 _ rfl
    have g1 := hf 1 _ rfl
    have g2 := hf 2 _ rfl
    simp [cells_int] at g0 g1 g2
    obtain ⟨k, hk, _, wk⟩ := DataW.trod_int Tryz.underlying3 g0
    obtain ⟨a, ha, _, wa⟩ := DataW.trod_int Tryz.underlying3 g1
    obtain ⟨b, hb, _, wb⟩ := DataW.trod_int Tryz.underlying3 g2
    simp only [List.cons.injEq, and_true] at hk ha hb
    subst hk ha hb
    exact ⟨⟨k, a, b⟩, rfl, i64_of_wf wk, i64_of_wf wa, i64_of_wf wb⟩

set_option maxRecDepth 100000 in
theorem choose_ents {m : Nat} {p : Nat → Ent → Prop} (h : ∀ i, i < m → ∃ o, p i o) : ∃ L : List Ent, L.length = m ∧ ∀ i, i < m → p i (L.getD i zeroE) := by
  induction m with
  | zero => exact ⟨[], rfl, fun i hi => by omega⟩
  | succ m ih =>
    obtain ⟨L, hL, hp⟩ := ih (fun i hi => h i (by omega))
    obtain ⟨o, ho⟩ := h m (by omega)
    refine ⟨L ++ [o], by simp [hL], fun i hi => ?_⟩
    by_cases e : i < m
    · have e2 : (L ++ [o]).getD i zeroE = L.getD i zeroE := by simp [List.getD, List.getElem?_append_left (show i < L.length by omega)]
      rw [e2]
      exact hp i e
    · have e3 : i = L.length := by omega
      subst e3
      have e2 : (L ++ [o]).getD L.length zeroE = o := by simp [List.getD]
      rw [e2, hL]
      exact ho

set_option maxRecDepth 100000 in
/-- Entries that came in. -/
theorem open_ents {H : Type} {enc : TypeId × Value → H} {w : World} {base fuel : Nat} {held : Bool} {cs : List Value} {x : DataW H × List MemPlace} (h : DataW.trod enc Tryz.prog w base (fun _ => true) held fuel 23 cs = some x) : ∃ v l, cs = [v] ∧ RdE w v l := by
  rcases Go.Deep.open_slice Tryz.underlying23 h with ⟨hcs, _⟩ | ⟨a, len, cap, m, n, D, Pl, rfl, hb, hl, hm, hmm, _, hx⟩
  · exact ⟨_, [], hcs, none, 0, rfl, Nat.le_refl _, Nat.zero_le _, fun _ => rfl, (fun o h => by simp at h), .inl rfl⟩
  · have hmc : m = cap := by simpa using hmm
    subst hmc
    have each : ∀ i, i < len → ∃ o, EntI o ∧ (∀ k, k < 3 → w.cell? (a.add (i * 3 + k)) = (entC o)[k]?) := by
      intro i hi
      obtain ⟨cs', h1, h2⟩ := hx i (by omega)
      rw [cells_ent] at h1
      obtain ⟨_, hlen, hcell⟩ := World.cells?_some h1
      obtain ⟨o, hcs, hok⟩ := open_ent_cells h2
      subst hcs
      refine ⟨o, hok, fun k hk => ?_⟩
      have e0 := hcell k (by omega)
      rw [Go.Deep.add_add] at e0
      rw [e0]
      match k, hk with
      | 0, _ => rfl
      | 1, _ => rfl
      | 2, _ => rfl
    obtain ⟨L, hL, hp⟩ := choose_ents each
    refine ⟨_, L, rfl, some a, m, by rw [hL], by omega, hm, (fun e => by cases e), fun o ho => ?_, ?_⟩
    · obtain ⟨j, hj, rfl⟩ := List.getElem_of_mem ho
      have := (hp j (by omega)).1
      simpa [List.getD, hj] using this
    · by_cases h0 : L = []
      · exact .inl h0
      · right
        have h0' : 0 < L.length := List.length_pos_iff.2 h0
        obtain ⟨b, off, spot⟩ := a
        have hspot : spot = none := by
          have := (hp 0 (by omega)).2 0 (by decide)
          have h2 : w.cell? ((⟨b, off, spot⟩ : Addr).add (0 * 3 + 0)) = some (.int .i64 (L.getD 0 zeroE).proc) := this
          simpa [Addr.add] using World.cell?_spot h2
        subst hspot
        refine ⟨b, off, rfl, fun j hj => ?_⟩
        obtain ⟨_, hc⟩ := hp j (by omega)
        simp only [Addr.add_lit] at hc
        have hc' : ∀ k, k < 3 → w.cell? ⟨b, off + j * 3 + k, none⟩ = (entC (L.getD j zeroE))[k]? := fun k hk => by
          rw [Nat.add_assoc]
          exact hc k hk
        exact ⟨hc' 0 (by decide), hc' 1 (by decide), hc' 2 (by decide)⟩

set_option maxRecDepth 100000 in
theorem cells_snap : Tryz.prog.cellsOf 39 = 6 := by kernel_rfl

set_option maxRecDepth 100000 in
theorem cells_ents : Tryz.prog.cellsOf 23 = 1 := by kernel_rfl

set_option maxRecDepth 100000 in
/-- The cells of a snapshot. -/
theorem open_snap_cells {H : Type} {enc : TypeId × Value → H} {w : World} {base fuel : Nat} {held : Bool} {cs : List Value} {x : DataW H × List MemPlace} (h : DataW.trod enc Tryz.prog w base (fun _ => true) held fuel 39 cs = some x) :
    ∃ (s : Snap) (vl vt : Value), cs = [.int .i64 s.idx, .int .i64 s.st.kind, vl, .bool s.st.shut, .int .i64 s.st.eng, vt] ∧ RdI w vl s.st.L ∧ I64 s.st.kind ∧ I64 s.st.eng ∧ RdE w vt s.tab ∧ I64 s.idx := by
  obtain ⟨xs, n, _, _, hl, hxl, hf⟩ := DataW.trod_struct Tryz.underlying39 h
  rw [cells_snap] at hl
  match xs, hxl, cs, hl with
  | [y0, y1, y2], _, [c0, c1, c2, c3, c4, c5], _ =>
    have g0 := hf 0 _ rfl
    have g1 := hf 1 _ rfl
    have g2 := hf 2 _ rfl
    simp [cells_int, cells_state, cells_ents] at g0 g1 g2
    obtain ⟨k, hk, _, wk⟩ := DataW.trod_int Tryz.underlying3 g0
    obtain ⟨s, vl, hs, hr, hsk, hse⟩ := open_state_cells g1
    obtain ⟨vt, t, hv, ht⟩ := open_ents g2
    simp only [List.cons.injEq, and_true] at hk hs hv
    obtain ⟨rfl, rfl, rfl, rfl⟩ := hs
    subst hk hv
    exact ⟨⟨k, s, t⟩, _, _, rfl, hr, hsk, hse, ht, i64_of_wf wk⟩

set_option maxRecDepth 100000 in
/-- A snapshot that came in. -/
theorem open_snap {H : Type} {enc : TypeId × Value → H} {w : World} {base : Nat} {held : Bool} {r : Reach} {b0 : Nat} {v : Value} {d : DataW H} {p : List MemPlace} (hval : Value.okWide Tryz.prog w r b0 39 v) (h : DataW.Trod enc Tryz.prog w base (fun _ => true) held 39 v d p) : ∃ s, SnV w v s := by
  obtain ⟨cs, rfl, hsz⟩ := Go.WideShapes.okWide_struct Tryz.underlying39 hval
  obtain ⟨fuel, hf⟩ := h
  obtain ⟨s, vl, vt, hcs, hr, hk, he, ht, hi⟩ := open_snap_cells hf
  refine ⟨s, vl, vt, ?_, hr, hk, he, ht, hi⟩
  simp [Value.cells] at hcs
  exact congrArg Value.agg (Array.ext' hcs)

end Go.Proofs.YtgpdbboieokldaaGreat

/- Deltas that came in. -/
namespace Go.Proofs.YtgpdbboieokldaaGreat
open Go.RowKit Go.ChangeShapes

set_option maxRecDepth 100000 in
theorem cells_delta : Tryz.prog.cellsOf 25 = 8 := by kernel_rfl

set_option maxRecDepth 100000 in
/-- The cells of a delta. -/
theorem open_delta_cells {H : Type} {enc : TypeId × Value → H} {w : World} {base fuel : Nat} {held : Bool} {cs : List Value} {x : DataW H × List MemPlace} (h : DataW.trod enc Tryz.prog w base (fun _ => true) held fuel 25 cs = some x) :
    ∃ (d : Delt) (vm vt : Value), cs = [.int .i64 d.frm, .int .i64 d.upto, .int .i64 d.ahead, .int .i64 d.behind, vm, .bool d.shut, .int .i64 d.eng, vt] ∧ RdI w vm d.mid ∧ RdE w vt d.tab ∧ DelI d := by
  obtain ⟨xs, n, _, _, hl, hxl, hf⟩ := DataW.trod_struct Tryz.underlying25 h
  rw [cells_delta] at hl
  match xs, hxl, cs, hl with
  | [y0, y1, y2, y3, y4, y5, y6, y7], _, [c0, c1, c2, c3, c4, c5, c6, c7], _ =>
    have g0 := hf 0 _ rfl
    have g1 := hf 1 _ rfl
    have g2 := hf 2 _ rfl
    have g3 := hf 3 _ rfl
    have g4 := hf 4 _ rfl
    have g5 := hf 5 _ rfl
    have g6 := hf 6 _ rfl
    have g7 := hf 7 _ rfl
    simp [cells_int, cells_ints, cells_bool, cells_ents] at g0 g1 g2 g3 g4 g5 g6 g7
    obtain ⟨k0, hk0, _, wk0⟩ := DataW.trod_int Tryz.underlying3 g0
    obtain ⟨k1, hk1, _, wk1⟩ := DataW.trod_int Tryz.underlying3 g1
    obtain ⟨k2, hk2, _, wk2⟩ := DataW.trod_int Tryz.underlying3 g2
    obtain ⟨k3, hk3, _, wk3⟩ := DataW.trod_int Tryz.underlying3 g3
    obtain ⟨vm, m, hv, hm⟩ := open_rdI g4
    obtain ⟨s, hs, _⟩ := DataW.trod_bool Tryz.underlying4 g5
    obtain ⟨k6, hk6, _, wk6⟩ := DataW.trod_int Tryz.underlying3 g6
    obtain ⟨vt, t, hv', ht⟩ := open_ents g7
    simp only [List.cons.injEq, and_true] at hk0 hk1 hk2 hk3 hv hs hk6 hv'
    subst hk0 hk1 hk2 hk3 hv hs hk6 hv'
    exact ⟨⟨k0, k1, k2, k3, m, s, k6, t⟩, _, _, rfl, hm, ht, i64_of_wf wk0, i64_of_wf wk1, i64_of_wf wk2, i64_of_wf wk3, i64_of_wf wk6⟩

set_option maxRecDepth 100000 in
/-- A delta that came in. -/
theorem open_delta {H : Type} {enc : TypeId × Value → H} {w : World} {base : Nat} {held : Bool} {r : Reach} {b0 : Nat} {v : Value} {d : DataW H} {p : List MemPlace} (hval : Value.okWide Tryz.prog w r b0 25 v) (h : DataW.Trod enc Tryz.prog w base (fun _ => true) held 25 v d p) : ∃ s, DlV w v s := by
  obtain ⟨cs, rfl, hsz⟩ := Go.WideShapes.okWide_struct Tryz.underlying25 hval
  obtain ⟨fuel, hf⟩ := h
  obtain ⟨s, vm, vt, hcs, hm, ht, hi⟩ := open_delta_cells hf
  refine ⟨s, vm, vt, ?_, hm, ht, hi⟩
  simp [Value.cells] at hcs
  exact congrArg Value.agg (Array.ext' hcs)

end Go.Proofs.YtgpdbboieokldaaGreat

/- A drawn region whose operations yield one value in every world of a class that is told by an index. -/
namespace Go.Proofs.YtgpdbboieokldaaGreat
open Go.RowKit

theorem wp_region_cls {P : Program} {ι : Type} (W : ι → World) (i0 : ι) {id : Nat} {Q : Exit → Act → World → Prop} {a : Act} {w : World} {l : List Oper} (hm : P.follows .mixedOrders = true) (hB : Region.lexB .any l.toArray = true) (h0 : W i0 = w.drew)
    (h : wpQuiet P l.toArray (fun w' => ∃ n, w' = W n) (fun a' => ∀ w', (∃ n, w' = W n) → Q .normal a' w') l a) : (Code.region id l.toArray true).wp P Q a w :=
  wp_region_quiet (C := fun w' => ∃ n, w' = W n) hm hB ⟨i0, h0.symm⟩ (by simpa using h)

/-- The worlds that are alike below a block, told by an index. -/
theorem below_cls (B : Nat) (w : World) : ∃ (ι : Type) (_ : Nonempty ι) (W : ι → World), (∀ i, Below B w (W i)) ∧ ∀ w', Below B w w' → ∃ i, w' = W i :=
  ⟨{ w' // Below B w w' }, ⟨⟨w, Below.refl _ _⟩⟩, Subtype.val, fun i => i.2, fun w' h => ⟨⟨w', h⟩, rfl⟩⟩

end Go.Proofs.YtgpdbboieokldaaGreat

