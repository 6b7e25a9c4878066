/- Calls of a machine that came in. -/
import Derived.Test.YtekkmflfhkdkoaaOpenInts
namespace Go.Proofs.Ytekkmflfhkdkoaa
open Go.RowKit Go.ChangeShapes

/-- A call: its kind, a process, a cell, two numbers. -/
structure MOp where
  kind : Int
  p : Int
  cell : Int
  n : Int
  m : Int

/-- A call's cells. -/
structure MAt (w : World) (b o : Nat) (x : MOp) : Prop where
  c0 : w.cell? ⟨b, o, none⟩ = some (.int .i64 x.kind)
  c1 : w.cell? ⟨b, o + 1, none⟩ = some (.int .i64 x.p)
  c2 : w.cell? ⟨b, o + 2, none⟩ = some (.int .i64 x.cell)
  c3 : w.cell? ⟨b, o + 3, none⟩ = some (.int .i64 x.n)
  c4 : w.cell? ⟨b, o + 4, none⟩ = some (.int .i64 x.m)
  i0 : I64 x.kind
  i1 : I64 x.p
  i2 : I64 x.cell
  i3 : I64 x.n
  i4 : I64 x.m

theorem cell_belowM {w w' : World} {B : Nat} {a : Addr} {v : Value} (h : w.cell? a = some v) (hb : Below B w w') (hB : w.heap.size ≤ B) : w'.cell? a = some v := by
  have hlt : a.block < w.heap.size := World.block_lt_of_cell? w a h
  rw [hb.cell (p := a) (by exact Nat.lt_of_lt_of_le hlt hB)]
  exact h

theorem MAt.below {w w' : World} {b o B : Nat} {x : MOp} (h : MAt w b o x) (hb : Below B w w') (hB : w.heap.size ≤ B) : MAt w' b o x :=
  ⟨cell_belowM h.c0 hb hB, cell_belowM h.c1 hb hB, cell_belowM h.c2 hb hB, cell_belowM h.c3 hb hB, cell_belowM h.c4 hb hB, h.i0, h.i1, h.i2, h.i3, h.i4⟩

/-- The slice value v reads, in the world w, as the calls l. -/
def RdM (w : World) (v : Value) (l : List MOp) : Prop :=
  ∃ ao cap, v = .slice ao l.length cap ∧ l.length ≤ cap ∧ cap ≤ maxLen ∧ (ao = none → cap = 0) ∧
    ∀ j x, l[j]? = some x → ∃ b off, ao = some ⟨b, off, none⟩ ∧ MAt w b (off + j * 5) x

theorem RdM.below {w w' : World} {v : Value} {l : List MOp} (h : RdM w v l) {B : Nat} (hb : Below B w w') (hB : w.heap.size ≤ B) : RdM w' v l := by
  obtain ⟨ao, cap, h1, h2, h3, h4, h5⟩ := h
  refine ⟨ao, cap, h1, h2, h3, h4, fun j x hj => ?_⟩
  obtain ⟨b, off, e, ho⟩ := h5 j x hj
  exact ⟨b, off, e, ho.below hb hB⟩

theorem RdM.at {w : World} {ao : Option Addr} {n cap : Nat} {l : List MOp} (h : RdM w (.slice ao n cap) l) {i : Nat} (hi : i < l.length) : ∃ x b off, l[i]? = some x ∧ ao = some ⟨b, off, none⟩ ∧ MAt w b (off + i * 5) x := by
  obtain ⟨ao', cap', hv, _, _, _, h5⟩ := h
  simp only [Value.slice.injEq] at hv
  obtain ⟨rfl, rfl, rfl⟩ := hv
  obtain ⟨b, off, e, ho⟩ := h5 i l[i] (List.getElem?_eq_getElem hi)
  exact ⟨l[i], b, off, List.getElem?_eq_getElem hi, e, ho⟩

theorem cells_mop : Try.prog.cellsOf 30 = 5 := by kernel_rfl

set_option maxRecDepth 100000 in
theorem open_mop_cells {H : Type} {enc : TypeId × Value → H} {w : World} {base fuel : Nat} {held : Bool} {cs : List Value} {x : DataW H × List MemPlace} (h : DataW.trod enc Try.prog w base (fun _ => true) held fuel 30 cs = some x) :
    ∃ (o : MOp), cs = [.int .i64 o.kind, .int .i64 o.p, .int .i64 o.cell, .int .i64 o.n, .int .i64 o.m] ∧ I64 o.kind ∧ I64 o.p ∧ I64 o.cell ∧ I64 o.n ∧ I64 o.m := by
  obtain ⟨xs, n, _, _, hl, hxl, hf⟩ := DataW.trod_struct Try.underlying30 h
  rw [cells_mop] at hl
  match xs, hxl, cs, hl with
  | [y0, y1, y2, y3, y4], _, [c0, c1, c2, c3, c4], _ =>
    have g0 := hf 0 _ rfl
    have g1 := hf 1 _ rfl
    have g2 := hf 2 _ rfl
    have g3 := hf 3 _ rfl
    have g4 := hf 4 _ rfl
    simp [cells_int] at g0 g1 g2 g3 g4
    obtain ⟨k0, hk0, _, w0⟩ := DataW.trod_int Try.underlying3 g0
    obtain ⟨k1, hk1, _, w1⟩ := DataW.trod_int Try.underlying3 g1
    obtain ⟨k2, hk2, _, w2⟩ := DataW.trod_int Try.underlying3 g2
    obtain ⟨k3, hk3, _, w3⟩ := DataW.trod_int Try.underlying3 g3
    obtain ⟨k4, hk4, _, w4⟩ := DataW.trod_int Try.underlying3 g4
    simp only [List.cons.injEq, and_true] at hk0 hk1 hk2 hk3 hk4
    subst hk0 hk1 hk2 hk3 hk4
    exact ⟨⟨k0, k1, k2, k3, k4⟩, rfl, i64_of_wf w0, i64_of_wf w1, i64_of_wf w2, i64_of_wf w3, i64_of_wf w4⟩

theorem choose_mops {m : Nat} {p : Nat → MOp → Prop} (h : ∀ i, i < m → ∃ o, p i o) : ∃ L : List MOp, L.length = m ∧ ∀ i x, L[i]? = some x → p i x := by
  induction m with
  | zero => exact ⟨[], rfl, fun i x hx => by simp at hx⟩
  | succ m ih =>
    obtain ⟨L, hL, hp⟩ := ih fun i hi => h i (by omega)
    obtain ⟨o, ho⟩ := h m (by omega)
    refine ⟨L ++ [o], by simp [hL], fun i x hx => ?_⟩
    rw [List.getElem?_append] at hx
    by_cases e : i < L.length
    · rw [if_pos e] at hx
      exact hp i x hx
    · rw [if_neg e] at hx
      have : i - L.length = 0 := by
        have := (List.getElem?_eq_some_iff.1 hx).1
        simp at this
        omega
      rw [this] at hx
      simp only [List.getElem?_cons_zero, Option.some.injEq] at hx
      have hi : i = m := by omega
      rw [← hx, hi]
      exact ho

set_option maxRecDepth 100000 in
theorem open_mops {H : Type} {enc : TypeId × Value → H} {w : World} {base fuel : Nat} {held : Bool} {cs : List Value} {x : DataW H × List MemPlace} (h : DataW.trod enc Try.prog w base (fun _ => true) held fuel 22 cs = some x) : ∃ v l, cs = [v] ∧ RdM w v l := by
  rcases Go.Deep.open_slice Try.underlying22 h with ⟨hcs, _⟩ | ⟨a, len, cap, m, n, D, Pl, rfl, hb, hl, hm, hmm, _, hx⟩
  · exact ⟨_, [], hcs, none, 0, rfl, Nat.le_refl _, Nat.zero_le _, fun _ => rfl, (fun j x h => by simp at h)⟩
  · have hmc : m = cap := by simpa using hmm
    subst hmc
    by_cases hz : len = 0
    · subst hz
      exact ⟨_, [], rfl, some a, m, rfl, Nat.zero_le _, hm, (fun e => by cases e), (fun j x h => by simp at h)⟩
    obtain ⟨b, off, spot⟩ := a
    have hspot : spot = none := by
      obtain ⟨cs', h1, h2⟩ := hx 0 (by omega)
      rw [cells_mop] at h1
      obtain ⟨_, hlen, hcell⟩ := World.cells?_some h1
      obtain ⟨o, hcs, _⟩ := open_mop_cells h2
      subst hcs
      have e0 := hcell 0 (by omega)
      rw [Go.Deep.add_add] at e0
      simpa [Addr.add] using World.cell?_spot e0
    subst hspot
    have each : ∀ i, i < len → ∃ o, ∃ b' off', some (⟨b, off, none⟩ : Addr) = some (⟨b', off', none⟩ : Addr) ∧ MAt w b' (off' + i * 5) o := by
      intro i hi
      obtain ⟨cs', h1, h2⟩ := hx i (by omega)
      rw [cells_mop] at h1
      obtain ⟨_, hlen, hcell⟩ := World.cells?_some h1
      obtain ⟨o, hcs, i0, i1, i2, i3, i4⟩ := open_mop_cells h2
      subst hcs
      have e0 := hcell 0 (by omega)
      have e1 := hcell 1 (by omega)
      have e2 := hcell 2 (by omega)
      have e3 := hcell 3 (by omega)
      have e4 := hcell 4 (by omega)
      rw [Go.Deep.add_add] at e0 e1 e2 e3 e4
      rw [Addr.add_lit] at e0 e1 e2 e3 e4
      exact ⟨o, b, off, rfl, by simpa using e0, by simpa [Nat.add_assoc] using e1, by simpa [Nat.add_assoc] using e2, by simpa [Nat.add_assoc] using e3, by simpa [Nat.add_assoc] using e4, i0, i1, i2, i3, i4⟩
    obtain ⟨L, hL, hp⟩ := choose_mops each
    exact ⟨_, L, rfl, some ⟨b, off, none⟩, m, by rw [hL], by omega, hm, (fun e => by cases e), hp⟩

end Go.Proofs.Ytekkmflfhkdkoaa
