/- Calls of a disk that came in. -/
import Derived.Test.YtfhgjnfichgdiaaOpenInts
import Derived.Test.YtfhgjnfichgdiaaNumBase
namespace Go.Proofs.Ytfhgjnfichgdiaa
open Go.RowKit Go.ChangeShapes

/-- A call: its kind, a name, a number, bytes, numbers. -/
structure FOp where
  kind : Int
  name : Int
  n : Int
  b : List UInt8
  keep : List Int

/-- A call's cells. -/
structure OpAt (w : World) (b o : Nat) (x : FOp) (vb vk : Value) : Prop where
  c0 : w.cell? ⟨b, o, none⟩ = some (.int .i64 x.kind)
  c1 : w.cell? ⟨b, o + 1, none⟩ = some (.int .i64 x.name)
  c2 : w.cell? ⟨b, o + 2, none⟩ = some (.int .i64 x.n)
  c3 : w.cell? ⟨b, o + 3, none⟩ = some vb
  c4 : w.cell? ⟨b, o + 4, none⟩ = some vk
  rb : Rd w vb x.b
  rk : RdI w vk x.keep
  i0 : I64 x.kind
  i1 : I64 x.name
  i2 : I64 x.n

theorem cell_below {w w' : World} {B : Nat} {a : Addr} {v : Value} (h : w.cell? a = some v) (hb : Below B w w') (hB : w.heap.size ≤ B) : w'.cell? a = some v := by
  have hlt : a.block < w.heap.size := World.block_lt_of_cell? w a h
  rw [hb.cell (p := a) (by exact Nat.lt_of_lt_of_le hlt hB)]
  exact h

theorem OpAt.below {w w' : World} {b o B : Nat} {x : FOp} {vb vk : Value} (h : OpAt w b o x vb vk) (hb : Below B w w') (hB : w.heap.size ≤ B) : OpAt w' b o x vb vk :=
  ⟨cell_below h.c0 hb hB, cell_below h.c1 hb hB, cell_below h.c2 hb hB, cell_below h.c3 hb hB, cell_below h.c4 hb hB, h.rb.below hb hB, h.rk.below hb hB, h.i0, h.i1, h.i2⟩

/-- The slice value v reads, in the world w, as the calls l. -/
def RdP (w : World) (v : Value) (l : List FOp) : Prop :=
  ∃ ao cap, v = .slice ao l.length cap ∧ l.length ≤ cap ∧ cap ≤ maxLen ∧ (ao = none → cap = 0) ∧
    ∀ j x, l[j]? = some x → ∃ b off vb vk, ao = some ⟨b, off, none⟩ ∧ OpAt w b (off + j * 5) x vb vk

theorem RdP.below {w w' : World} {v : Value} {l : List FOp} (h : RdP w v l) {B : Nat} (hb : Below B w w') (hB : w.heap.size ≤ B) : RdP w' v l := by
  obtain ⟨ao, cap, h1, h2, h3, h4, h5⟩ := h
  refine ⟨ao, cap, h1, h2, h3, h4, fun j x hj => ?_⟩
  obtain ⟨b, off, vb, vk, e, ho⟩ := h5 j x hj
  exact ⟨b, off, vb, vk, e, ho.below hb hB⟩

theorem cells_fop : Try.prog.cellsOf 33 = 5 := by kernel_rfl

theorem cells_bytes : Try.prog.cellsOf 30 = 1 := by kernel_rfl

theorem open_rdB {H : Type} {enc : TypeId × Value → H} {w : World} {base fuel : Nat} {held : Bool} {cs : List Value} {x : DataW H × List MemPlace} (h : DataW.trod enc Try.prog w base (fun _ => true) held fuel 30 cs = some x) : ∃ v l, cs = [v] ∧ Rd w v l := by
  rcases open_ints Try.underlying30 Try.underlying5 (by kernel_rfl) h with ⟨hcs, _⟩ | ⟨y, l, c, zs, hcs, _, hl, hm, hz, _, hcell, hwz⟩
  · exact ⟨_, [], hcs, Rd.nil _⟩
  · exact ⟨_, _, hcs, Rd.ofRow hl hm (by simpa using hz) hcell hwz⟩

set_option maxRecDepth 100000 in
theorem open_fop_cells {H : Type} {enc : TypeId × Value → H} {w : World} {base fuel : Nat} {held : Bool} {cs : List Value} {x : DataW H × List MemPlace} (h : DataW.trod enc Try.prog w base (fun _ => true) held fuel 33 cs = some x) :
    ∃ (o : FOp) (vb vk : Value), cs = [.int .i64 o.kind, .int .i64 o.name, .int .i64 o.n, vb, vk] ∧ Rd w vb o.b ∧ RdI w vk o.keep ∧ I64 o.kind ∧ I64 o.name ∧ I64 o.n := by
  obtain ⟨xs, n, _, _, hl, hxl, hf⟩ := DataW.trod_struct Try.underlying33 h
  rw [cells_fop] at hl
  match xs, hxl, cs, hl with
  | [y0, y1, y2, y3, y4], _, [c0, c1, c2, c3, c4], _ =>
    have g0 := hf 0 _ rfl
    have g1 := hf 1 _ rfl
    have g2 := hf 2 _ rfl
    have g3 := hf 3 _ rfl
    have g4 := hf 4 _ rfl
    simp [cells_int, cells_ints, cells_bytes] at g0 g1 g2 g3 g4
    obtain ⟨k0, hk0, _, w0⟩ := DataW.trod_int Try.underlying3 g0
    obtain ⟨k1, hk1, _, w1⟩ := DataW.trod_int Try.underlying3 g1
    obtain ⟨k2, hk2, _, w2⟩ := DataW.trod_int Try.underlying3 g2
    obtain ⟨vb, lb, hv, hr⟩ := open_rdB g3
    obtain ⟨vk, lk, hv2, hr2⟩ := open_rdI g4
    simp only [List.cons.injEq, and_true] at hk0 hk1 hk2 hv hv2
    subst hk0 hk1 hk2 hv hv2
    exact ⟨⟨k0, k1, k2, lb, lk⟩, _, _, rfl, hr, hr2, i64_of_wf w0, i64_of_wf w1, i64_of_wf w2⟩

theorem choose_fops {m : Nat} {p : Nat → FOp → Prop} (h : ∀ i, i < m → ∃ o, p i o) : ∃ L : List FOp, L.length = m ∧ ∀ i x, L[i]? = some x → p i x := by
  induction m with
  | zero => exact ⟨[], rfl, fun i x hx => by simp at hx⟩
  | succ m ih =>
    obtain ⟨L, hL, hp⟩ := ih fun i hi => h i (by omega)
    obtain ⟨o, ho⟩ := h m (by omega)
    refine ⟨L ++ [o], by simp [hL], fun i x hx => ?_⟩
    rw [List.getElem?_append] at hx
    by_cases e : i < L.length
    · rw [if_pos e] at hx
      exact hp i x hx
    · rw [if_neg e] at hx
      have : i - L.length = 0 := by
        have := (List.getElem?_eq_some_iff.1 hx).1
        simp at this
        omega
      rw [this] at hx
      simp only [List.getElem?_cons_zero, Option.some.injEq] at hx
      have hi : i = m := by omega
      rw [← hx, hi]
      exact ho

set_option maxRecDepth 100000 in
theorem open_fops {H : Type} {enc : TypeId × Value → H} {w : World} {base fuel : Nat} {held : Bool} {cs : List Value} {x : DataW H × List MemPlace} (h : DataW.trod enc Try.prog w base (fun _ => true) held fuel 22 cs = some x) : ∃ v l, cs = [v] ∧ RdP w v l := by
  rcases Go.Deep.open_slice Try.underlying22 h with ⟨hcs, _⟩ | ⟨a, len, cap, m, n, D, Pl, rfl, hb, hl, hm, hmm, _, hx⟩
  · exact ⟨_, [], hcs, none, 0, rfl, Nat.le_refl _, Nat.zero_le _, fun _ => rfl, (fun j x h => by simp at h)⟩
  · have hmc : m = cap := by simpa using hmm
    subst hmc
    by_cases hz : len = 0
    · subst hz
      exact ⟨_, [], rfl, some a, m, rfl, Nat.zero_le _, hm, (fun e => by cases e), (fun j x h => by simp at h)⟩
    obtain ⟨b, off, spot⟩ := a
    have hspot : spot = none := by
      obtain ⟨cs', h1, h2⟩ := hx 0 (by omega)
      rw [cells_fop] at h1
      obtain ⟨_, hlen, hcell⟩ := World.cells?_some h1
      obtain ⟨o, vb, vk, hcs, _⟩ := open_fop_cells h2
      subst hcs
      have e0 := hcell 0 (by omega)
      rw [Go.Deep.add_add] at e0
      simpa [Addr.add] using World.cell?_spot e0
    subst hspot
    have each : ∀ i, i < len → ∃ o, ∃ b' off' vb vk, some (⟨b, off, none⟩ : Addr) = some (⟨b', off', none⟩ : Addr) ∧ OpAt w b' (off' + i * 5) o vb vk := by
      intro i hi
      obtain ⟨cs', h1, h2⟩ := hx i (by omega)
      rw [cells_fop] at h1
      obtain ⟨_, hlen, hcell⟩ := World.cells?_some h1
      obtain ⟨o, vb, vk, hcs, hr, hr2, i0, i1, i2⟩ := open_fop_cells h2
      subst hcs
      have e0 := hcell 0 (by omega)
      have e1 := hcell 1 (by omega)
      have e2 := hcell 2 (by omega)
      have e3 := hcell 3 (by omega)
      have e4 := hcell 4 (by omega)
      rw [Go.Deep.add_add] at e0 e1 e2 e3 e4
      rw [Addr.add_lit] at e0 e1 e2 e3 e4
      exact ⟨o, b, off, vb, vk, rfl, by simpa using e0, by simpa [Nat.add_assoc] using e1, by simpa [Nat.add_assoc] using e2, by simpa [Nat.add_assoc] using e3, by simpa [Nat.add_assoc] using e4, hr, hr2, i0, i1, i2⟩
    obtain ⟨L, hL, hp⟩ := choose_fops each
    exact ⟨_, L, rfl, some ⟨b, off, none⟩, m, by rw [hL], by omega, hm, (fun e => by cases e), hp⟩

end Go.Proofs.Ytfhgjnfichgdiaa
