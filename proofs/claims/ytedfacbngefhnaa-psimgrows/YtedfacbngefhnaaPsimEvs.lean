/- Scripts of steps that came in. -/
import Derived.Test.YtedfacbngefhnaaOpenObjs
import Derived.Test.YtedfacbngefhnaaPack2
namespace Go.Proofs.Ytedfacbngefhnaa
open Go.RowKit Go.ChangeShapes

/-- A step's cells. -/
structure EAt (w : World) (b o : Nat) (x : EvP) : Prop where
  c0 : w.cell? ⟨b, o, none⟩ = some (.int .i64 x.kind)
  c1 : w.cell? ⟨b, o + 1, none⟩ = some (.int .i64 x.p)
  c2 : w.cell? ⟨b, o + 2, none⟩ = some (.int .i64 x.op.code)
  c3 : w.cell? ⟨b, o + 3, none⟩ = some (.int .i64 x.op.a)
  c4 : w.cell? ⟨b, o + 4, none⟩ = some (.int .i64 x.op.b)
  i0 : I64 x.kind
  i1 : I64 x.p
  i2 : I64 x.op.code
  i3 : I64 x.op.a
  i4 : I64 x.op.b

theorem cell_belowV {w w' : World} {B : Nat} {a : Addr} {v : Value} (h : w.cell? a = some v) (hb : Below B w w') (hB : w.heap.size ≤ B) : w'.cell? a = some v := by
  have hlt : a.block < w.heap.size := World.block_lt_of_cell? w a h
  rw [hb.cell (p := a) (by exact Nat.lt_of_lt_of_le hlt hB)]
  exact h

theorem EAt.below {w w' : World} {b o B : Nat} {x : EvP} (h : EAt w b o x) (hb : Below B w w') (hB : w.heap.size ≤ B) : EAt w' b o x :=
  ⟨cell_belowV h.c0 hb hB, cell_belowV h.c1 hb hB, cell_belowV h.c2 hb hB, cell_belowV h.c3 hb hB, cell_belowV h.c4 hb hB, h.i0, h.i1, h.i2, h.i3, h.i4⟩

/-- The slice value v reads, in the world w, as the calls l. -/
def RdV (w : World) (v : Value) (l : List EvP) : Prop :=
  ∃ ao cap, v = .slice ao l.length cap ∧ l.length ≤ cap ∧ cap ≤ maxLen ∧ (ao = none → cap = 0) ∧
    ∀ j x, l[j]? = some x → ∃ b off, ao = some ⟨b, off, none⟩ ∧ EAt w b (off + j * 5) x

theorem RdV.below {w w' : World} {v : Value} {l : List EvP} (h : RdV w v l) {B : Nat} (hb : Below B w w') (hB : w.heap.size ≤ B) : RdV w' v l := by
  obtain ⟨ao, cap, h1, h2, h3, h4, h5⟩ := h
  refine ⟨ao, cap, h1, h2, h3, h4, fun j x hj => ?_⟩
  obtain ⟨b, off, e, ho⟩ := h5 j x hj
  exact ⟨b, off, e, ho.below hb hB⟩

theorem RdV.at {w : World} {ao : Option Addr} {n cap : Nat} {l : List EvP} (h : RdV w (.slice ao n cap) l) {i : Nat} (hi : i < l.length) : ∃ x b off, l[i]? = some x ∧ ao = some ⟨b, off, none⟩ ∧ EAt w b (off + i * 5) x := by
  obtain ⟨ao', cap', hv, _, _, _, h5⟩ := h
  simp only [Value.slice.injEq] at hv
  obtain ⟨rfl, rfl, rfl⟩ := hv
  obtain ⟨b, off, e, ho⟩ := h5 i l[i] (List.getElem?_eq_getElem hi)
  exact ⟨l[i], b, off, List.getElem?_eq_getElem hi, e, ho⟩

theorem cells_ev : Try.prog.cellsOf 56 = 5 := by kernel_rfl

set_option maxRecDepth 100000 in
theorem open_ev_cells {H : Type} {enc : TypeId × Value → H} {w : World} {base fuel : Nat} {held : Bool} {cs : List Value} {x : DataW H × List MemPlace} (h : DataW.trod enc Try.prog w base (fun _ => true) held fuel 56 cs = some x) :
    ∃ (o : EvP), cs = [.int .i64 o.kind, .int .i64 o.p, .int .i64 o.op.code, .int .i64 o.op.a, .int .i64 o.op.b] ∧ I64 o.kind ∧ I64 o.p ∧ I64 o.op.code ∧ I64 o.op.a ∧ I64 o.op.b := by
  obtain ⟨xs, n, _, _, hl, hxl, hf⟩ := DataW.trod_struct Try.underlying56 h
  rw [cells_ev] at hl
  match xs, hxl, cs, hl with
  | [y0, y1, y2], _, [c0, c1, c2, c3, c4], _ =>
    have g0 := hf 0 _ rfl
    have g1 := hf 1 _ rfl
    have g2 := hf 2 _ rfl
    simp [cells_int, cells_op] at g0 g1 g2
    obtain ⟨k0, hk0, _, w0⟩ := DataW.trod_int Try.underlying3 g0
    obtain ⟨k1, hk1, _, w1⟩ := DataW.trod_int Try.underlying3 g1
    obtain ⟨o, ho, ok⟩ := open_op_cells g2
    simp only [List.cons.injEq, and_true] at hk0 hk1 ho
    obtain ⟨rfl, rfl, rfl⟩ := ho
    subst hk0 hk1
    exact ⟨⟨k0, k1, o⟩, rfl, i64_of_wf w0, i64_of_wf w1, ok.1, ok.2.1, ok.2.2⟩

theorem choose_evs {m : Nat} {p : Nat → EvP → Prop} (h : ∀ i, i < m → ∃ o, p i o) : ∃ L : List EvP, L.length = m ∧ ∀ i x, L[i]? = some x → p i x := by
  induction m with
  | zero => exact ⟨[], rfl, fun i x hx => by simp at hx⟩
  | succ m ih =>
    obtain ⟨L, hL, hp⟩ := ih fun i hi => h i (by omega)
    obtain ⟨o, ho⟩ := h m (by omega)
    refine ⟨L ++ [o], by simp [hL], fun i x hx => ?_⟩
    rw [List.getElem?_append] at hx
    by_cases e : i < L.length
    · rw [if_pos e] at hx
      exact hp i x hx
    · rw [if_neg e] at hx
      have : i - L.length = 0 := by
        have := (List.getElem?_eq_some_iff.1 hx).1
        simp at this
        omega
      rw [this] at hx
      simp only [List.getElem?_cons_zero, Option.some.injEq] at hx
      have hi : i = m := by omega
      rw [← hx, hi]
      exact ho

set_option maxRecDepth 100000 in
theorem open_evs {H : Type} {enc : TypeId × Value → H} {w : World} {base fuel : Nat} {held : Bool} {cs : List Value} {x : DataW H × List MemPlace} (h : DataW.trod enc Try.prog w base (fun _ => true) held fuel 44 cs = some x) : ∃ v l, cs = [v] ∧ RdV w v l := by
  rcases Go.Deep.open_slice Try.underlying44 h with ⟨hcs, _⟩ | ⟨a, len, cap, m, n, D, Pl, rfl, hb, hl, hm, hmm, _, hx⟩
  · exact ⟨_, [], hcs, none, 0, rfl, Nat.le_refl _, Nat.zero_le _, fun _ => rfl, (fun j x h => by simp at h)⟩
  · have hmc : m = cap := by simpa using hmm
    subst hmc
    by_cases hz : len = 0
    · subst hz
      exact ⟨_, [], rfl, some a, m, rfl, Nat.zero_le _, hm, (fun e => by cases e), (fun j x h => by simp at h)⟩
    obtain ⟨b, off, spot⟩ := a
    have hspot : spot = none := by
      obtain ⟨cs', h1, h2⟩ := hx 0 (by omega)
      rw [cells_ev] at h1
      obtain ⟨_, hlen, hcell⟩ := World.cells?_some h1
      obtain ⟨o, hcs, _⟩ := open_ev_cells h2
      subst hcs
      have e0 := hcell 0 (by omega)
      rw [Go.Deep.add_add] at e0
      simpa [Addr.add] using World.cell?_spot e0
    subst hspot
    have each : ∀ i, i < len → ∃ o, ∃ b' off', some (⟨b, off, none⟩ : Addr) = some (⟨b', off', none⟩ : Addr) ∧ EAt w b' (off' + i * 5) o := by
      intro i hi
      obtain ⟨cs', h1, h2⟩ := hx i (by omega)
      rw [cells_ev] at h1
      obtain ⟨_, hlen, hcell⟩ := World.cells?_some h1
      obtain ⟨o, hcs, i0, i1, i2, i3, i4⟩ := open_ev_cells h2
      subst hcs
      have e0 := hcell 0 (by omega)
      have e1 := hcell 1 (by omega)
      have e2 := hcell 2 (by omega)
      have e3 := hcell 3 (by omega)
      have e4 := hcell 4 (by omega)
      rw [Go.Deep.add_add] at e0 e1 e2 e3 e4
      rw [Addr.add_lit] at e0 e1 e2 e3 e4
      exact ⟨o, b, off, rfl, by simpa using e0, by simpa [Nat.add_assoc] using e1, by simpa [Nat.add_assoc] using e2, by simpa [Nat.add_assoc] using e3, by simpa [Nat.add_assoc] using e4, i0, i1, i2, i3, i4⟩
    obtain ⟨L, hL, hp⟩ := choose_evs each
    exact ⟨_, L, rfl, some ⟨b, off, none⟩, m, by rw [hL], by omega, hm, (fun e => by cases e), hp⟩

end Go.Proofs.Ytedfacbngefhnaa
