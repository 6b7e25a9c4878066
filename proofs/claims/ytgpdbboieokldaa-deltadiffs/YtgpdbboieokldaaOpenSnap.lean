/- Snapshots, and entries, that came in. -/
import Derived.Test.YtgpdbboieokldaaOpenObjs
import Derived.Test.YtgpdbboieokldaaPack3
import Derived.Deep.Slices
namespace Go.Proofs.Ytgpdbboieokldaa
open Go.RowKit Go.ChangeShapes

set_option maxRecDepth 100000 in
theorem cells_ent : Try.prog.cellsOf 55 = 3 := by kernel_rfl

set_option maxRecDepth 100000 in
/-- The cells of an entry. -/
theorem open_ent_cells {H : Type} {enc : TypeId × Value → H} {w : World} {base fuel : Nat} {held : Bool} {cs : List Value} {x : DataW H × List MemPlace} (h : DataW.trod enc Try.prog w base (fun _ => true) held fuel 55 cs = some x) :
    ∃ (o : Ent), cs = [.int .i64 o.proc, .int .i64 o.seq, .int .i64 o.resp] ∧ EntI o := by
  obtain ⟨xs, n, _, _, hl, hxl, hf⟩ := DataW.trod_struct Try.underlying55 h
  rw [cells_ent] at hl
  match xs, hxl, cs, hl with
  | [y0, y1, y2], _, [c0, c1, c2], _ =>
    have g0 := hf 0 _ rfl
    have g1 := hf 1 _ rfl
    have g2 := hf 2 _ rfl
    simp [cells_int] at g0 g1 g2
    obtain ⟨k, hk, _, wk⟩ := DataW.trod_int Try.underlying3 g0
    obtain ⟨a, ha, _, wa⟩ := DataW.trod_int Try.underlying3 g1
    obtain ⟨b, hb, _, wb⟩ := DataW.trod_int Try.underlying3 g2
    simp only [List.cons.injEq, and_true] at hk ha hb
    subst hk ha hb
    exact ⟨⟨k, a, b⟩, rfl, i64_of_wf wk, i64_of_wf wa, i64_of_wf wb⟩

set_option maxRecDepth 100000 in
theorem choose_ents {m : Nat} {p : Nat → Ent → Prop} (h : ∀ i, i < m → ∃ o, p i o) : ∃ L : List Ent, L.length = m ∧ ∀ i, i < m → p i (L.getD i zeroE) := by
  induction m with
  | zero => exact ⟨[], rfl, fun i hi => by omega⟩
  | succ m ih =>
    obtain ⟨L, hL, hp⟩ := ih (fun i hi => h i (by omega))
    obtain ⟨o, ho⟩ := h m (by omega)
    refine ⟨L ++ [o], by simp [hL], fun i hi => ?_⟩
    by_cases e : i < m
    · have e2 : (L ++ [o]).getD i zeroE = L.getD i zeroE := by simp [List.getD, List.getElem?_append_left (show i < L.length by omega)]
      rw [e2]
      exact hp i e
    · have e3 : i = L.length := by omega
      subst e3
      have e2 : (L ++ [o]).getD L.length zeroE = o := by simp [List.getD]
      rw [e2, hL]
      exact ho

set_option maxRecDepth 100000 in
/-- Entries that came in. -/
theorem open_ents {H : Type} {enc : TypeId × Value → H} {w : World} {base fuel : Nat} {held : Bool} {cs : List Value} {x : DataW H × List MemPlace} (h : DataW.trod enc Try.prog w base (fun _ => true) held fuel 25 cs = some x) : ∃ v l, cs = [v] ∧ RdE w v l := by
  rcases Go.Deep.open_slice Try.underlying25 h with ⟨hcs, _⟩ | ⟨a, len, cap, m, n, D, Pl, rfl, hb, hl, hm, hmm, _, hx⟩
  · exact ⟨_, [], hcs, none, 0, rfl, Nat.le_refl _, Nat.zero_le _, fun _ => rfl, (fun o h => by simp at h), .inl rfl⟩
  · have hmc : m = cap := by simpa using hmm
    subst hmc
    have each : ∀ i, i < len → ∃ o, EntI o ∧ (∀ k, k < 3 → w.cell? (a.add (i * 3 + k)) = (entC o)[k]?) := by
      intro i hi
      obtain ⟨cs', h1, h2⟩ := hx i (by omega)
      rw [cells_ent] at h1
      obtain ⟨_, hlen, hcell⟩ := World.cells?_some h1
      obtain ⟨o, hcs, hok⟩ := open_ent_cells h2
      subst hcs
      refine ⟨o, hok, fun k hk => ?_⟩
      have e0 := hcell k (by omega)
      rw [Go.Deep.add_add] at e0
      rw [e0]
      match k, hk with
      | 0, _ => rfl
      | 1, _ => rfl
      | 2, _ => rfl
    obtain ⟨L, hL, hp⟩ := choose_ents each
    refine ⟨_, L, rfl, some a, m, by rw [hL], by omega, hm, (fun e => by cases e), fun o ho => ?_, ?_⟩
    · obtain ⟨j, hj, rfl⟩ := List.getElem_of_mem ho
      have := (hp j (by omega)).1
      simpa [List.getD, hj] using this
    · by_cases h0 : L = []
      · exact .inl h0
      · right
        have h0' : 0 < L.length := List.length_pos_iff.2 h0
        obtain ⟨b, off, spot⟩ := a
        have hspot : spot = none := by
          have := (hp 0 (by omega)).2 0 (by decide)
          have h2 : w.cell? ((⟨b, off, spot⟩ : Addr).add (0 * 3 + 0)) = some (.int .i64 (L.getD 0 zeroE).proc) := this
          simpa [Addr.add] using World.cell?_spot h2
        subst hspot
        refine ⟨b, off, rfl, fun j hj => ?_⟩
        obtain ⟨_, hc⟩ := hp j (by omega)
        simp only [Addr.add_lit] at hc
        have hc' : ∀ k, k < 3 → w.cell? ⟨b, off + j * 3 + k, none⟩ = (entC (L.getD j zeroE))[k]? := fun k hk => by
          rw [Nat.add_assoc]
          exact hc k hk
        exact ⟨hc' 0 (by decide), hc' 1 (by decide), hc' 2 (by decide)⟩

set_option maxRecDepth 100000 in
theorem cells_snap : Try.prog.cellsOf 27 = 6 := by kernel_rfl

set_option maxRecDepth 100000 in
theorem cells_ents : Try.prog.cellsOf 25 = 1 := by kernel_rfl

set_option maxRecDepth 100000 in
/-- The cells of a snapshot. -/
theorem open_snap_cells {H : Type} {enc : TypeId × Value → H} {w : World} {base fuel : Nat} {held : Bool} {cs : List Value} {x : DataW H × List MemPlace} (h : DataW.trod enc Try.prog w base (fun _ => true) held fuel 27 cs = some x) :
    ∃ (s : Snap) (vl vt : Value), cs = [.int .i64 s.idx, .int .i64 s.st.kind, vl, .bool s.st.shut, .int .i64 s.st.eng, vt] ∧ RdI w vl s.st.L ∧ I64 s.st.kind ∧ I64 s.st.eng ∧ RdE w vt s.tab ∧ I64 s.idx := by
  obtain ⟨xs, n, _, _, hl, hxl, hf⟩ := DataW.trod_struct Try.underlying27 h
  rw [cells_snap] at hl
  match xs, hxl, cs, hl with
  | [y0, y1, y2], _, [c0, c1, c2, c3, c4, c5], _ =>
    have g0 := hf 0 _ rfl
    have g1 := hf 1 _ rfl
    have g2 := hf 2 _ rfl
    simp [cells_int, cells_state, cells_ents] at g0 g1 g2
    obtain ⟨k, hk, _, wk⟩ := DataW.trod_int Try.underlying3 g0
    obtain ⟨s, vl, hs, hr, hsk, hse⟩ := open_state_cells g1
    obtain ⟨vt, t, hv, ht⟩ := open_ents g2
    simp only [List.cons.injEq, and_true] at hk hs hv
    obtain ⟨rfl, rfl, rfl, rfl⟩ := hs
    subst hk hv
    exact ⟨⟨k, s, t⟩, _, _, rfl, hr, hsk, hse, ht, i64_of_wf wk⟩

set_option maxRecDepth 100000 in
/-- A snapshot that came in. -/
theorem open_snap {H : Type} {enc : TypeId × Value → H} {w : World} {base : Nat} {held : Bool} {r : Reach} {b0 : Nat} {v : Value} {d : DataW H} {p : List MemPlace} (hval : Value.okWide Try.prog w r b0 27 v) (h : DataW.Trod enc Try.prog w base (fun _ => true) held 27 v d p) : ∃ s, SnV w v s := by
  obtain ⟨cs, rfl, hsz⟩ := Go.WideShapes.okWide_struct Try.underlying27 hval
  obtain ⟨fuel, hf⟩ := h
  obtain ⟨s, vl, vt, hcs, hr, hk, he, ht, hi⟩ := open_snap_cells hf
  refine ⟨s, vl, vt, ?_, hr, hk, he, ht, hi⟩
  simp [Value.cells] at hcs
  exact congrArg Value.agg (Array.ext' hcs)

end Go.Proofs.Ytgpdbboieokldaa
