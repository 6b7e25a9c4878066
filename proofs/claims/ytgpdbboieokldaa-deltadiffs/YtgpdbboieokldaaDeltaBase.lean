/- Deltas in memory: values ('DlV'), boxes ('Bd'), what is answered ('GivenD'). -/
import Derived.Test.YtgpdbboieokldaaPack3
import Derived.Test.YtgpdbboieokldaaSnapBoxes
namespace Go.Proofs.Ytgpdbboieokldaa
open Go.RowKit

/-- A delta's plain numbers are ints. -/
def DelI (d : Delt) : Prop := I64 d.frm ∧ I64 d.upto ∧ I64 d.ahead ∧ I64 d.behind ∧ I64 d.eng

/-- The value v is, in the world w, the delta d. -/
def DlV (w : World) (v : Value) (d : Delt) : Prop :=
  ∃ vm vt, v = .agg #[.int .i64 d.frm, .int .i64 d.upto, .int .i64 d.ahead, .int .i64 d.behind, vm, .bool d.shut, .int .i64 d.eng, vt] ∧ RdI w vm d.mid ∧ RdE w vt d.tab ∧ DelI d

theorem DlV.below {w w' : World} {v : Value} {d : Delt} (h : DlV w v d) {B : Nat} (hb : Below B w w') (hB : w.heap.size ≤ B) : DlV w' v d := by
  obtain ⟨vm, vt, e, hm, ht, hi⟩ := h
  exact ⟨vm, vt, e, hm.below hb hB, ht.below hb hB, hi⟩

theorem RdI.shape {w : World} {v : Value} {l : List Int} (h : RdI w v l) : ∃ ao cap, v = .slice ao l.length cap := by
  obtain ⟨ao, cap, hv, _⟩ := h
  exact ⟨ao, cap, hv⟩

theorem DlV.shape {w : World} {v : Value} {d : Delt} (h : DlV w v d) : ∃ ma mc ta tc, v = .agg #[.int .i64 d.frm, .int .i64 d.upto, .int .i64 d.ahead, .int .i64 d.behind, .slice ma d.mid.length mc, .bool d.shut, .int .i64 d.eng, .slice ta d.tab.length tc] ∧ RdI w (.slice ma d.mid.length mc) d.mid ∧ RdE w (.slice ta d.tab.length tc) d.tab := by
  obtain ⟨vm, vt, e, hm, ht, hi⟩ := h
  obtain ⟨ma, mc, h1⟩ := hm.shape
  obtain ⟨ta, tc, h2⟩ := ht.shape
  subst h1 h2
  exact ⟨ma, mc, ta, tc, e, hm, ht⟩

/-- A box of a delta. -/
def Bd (w : World) (b : Nat) (cs : Array Value) : Prop := w.heap[b]? = some (.cells cs 31 (0, 0))

theorem Bd.lt {w : World} {b : Nat} {cs : Array Value} (h : Bd w b cs) : b < w.heap.size := (Array.getElem?_eq_some_iff.1 h).1

theorem Bd.below {w w' : World} {b B : Nat} {cs : Array Value} (h : Bd w b cs) (hb : Below B w w') (hB : w.heap.size ≤ B) : Bd w' b cs := (hb.block b (by have := h.lt; omega)).trans h

theorem Bd.cell {w : World} {b : Nat} {cs : Array Value} (h : Bd w b cs) (j : Nat) : w.cell? ⟨b, j, none⟩ = cs[j]? ∧ w.frozen? ⟨b, j, none⟩ = false := ⟨cell_of_row w b j _ _ _ h, frozen_of_row w b j _ _ h⟩

theorem Bd.set {w : World} {b : Nat} {cs : Array Value} (h : Bd w b cs) (j : Nat) (x : Value) : Bd (w.setCell ⟨b, j, none⟩ x) b (cs.setIfInBounds j x) := by
  have := heap_setCell_same w b j _ _ x h
  unfold Bd
  simpa using this

theorem Bd.other {w : World} {b c : Nat} {cs : Array Value} (h : Bd w b cs) (j : Nat) (x : Value) (hne : b ≠ c) : Bd (w.setCell ⟨c, j, none⟩ x) b cs := (Below.heap_setCell _ _ _ _ hne).trans h

/-- Eight cells of a block, written. -/
def eight (w : World) (R : Nat) (x0 x1 x2 x3 x4 x5 x6 x7 : Value) : World := (((((((w.setCell ⟨R, 0, none⟩ x0).setCell ⟨R, 1, none⟩ x1).setCell ⟨R, 2, none⟩ x2).setCell ⟨R, 3, none⟩ x3).setCell ⟨R, 4, none⟩ x4).setCell ⟨R, 5, none⟩ x5).setCell ⟨R, 6, none⟩ x6).setCell ⟨R, 7, none⟩ x7

theorem belowEight {C : Nat} {w0 w : World} (h : Below C w0 w) (R : Nat) (hR : C ≤ R) (x0 x1 x2 x3 x4 x5 x6 x7 : Value) : Below C w0 (eight w R x0 x1 x2 x3 x4 x5 x6 x7) :=
  (((((((h.setCell hR _).setCell hR _).setCell hR _).setCell hR _).setCell hR _).setCell hR _).setCell hR _).setCell hR _

theorem belowEightE {C : Nat} {w0 w : World} (h : Below C w0 w) (R : Nat) (hR : C ≤ R) (x0 x1 x2 x3 x4 x5 x6 x7 : Value) : Below C w0 ((((((((w.setCell ⟨R, 0, none⟩ x0).setCell ⟨R, 1, none⟩ x1).setCell ⟨R, 2, none⟩ x2).setCell ⟨R, 3, none⟩ x3).setCell ⟨R, 4, none⟩ x4).setCell ⟨R, 5, none⟩ x5).setCell ⟨R, 6, none⟩ x6).setCell ⟨R, 7, none⟩ x7) := belowEight h R hR x0 x1 x2 x3 x4 x5 x6 x7

theorem butEight (w : World) (R : Nat) (x0 x1 x2 x3 x4 x5 x6 x7 : Value) : But R R w (eight w R x0 x1 x2 x3 x4 x5 x6 x7) :=
  ((((((((But.refl R R w).set _ _ (.inl rfl) _).set _ _ (.inl rfl) _).set _ _ (.inl rfl) _).set _ _ (.inl rfl) _).set _ _ (.inl rfl) _).set _ _ (.inl rfl) _).set _ _ (.inl rfl) _).set _ _ (.inl rfl) _

/-- What is answered: a delta, and an error's number. -/
def GivenD (w : World) (r : Delt × Int) (e : Ending) (w' : World) : Prop :=
  ∃ vm vt, e = .returned (.tuple #[.agg #[.int .i64 r.1.frm, .int .i64 r.1.upto, .int .i64 r.1.ahead, .int .i64 r.1.behind, vm, .bool r.1.shut, .int .i64 r.1.eng, vt], .int .i64 r.2]) ∧ RdI w' vm r.1.mid ∧ RdE w' vt r.1.tab ∧ DelI r.1 ∧ (∀ b, vm.ownBlock = some b → w.heap.size ≤ b) ∧ (∀ b, vt.ownBlock = some b → w.heap.size ≤ b) ∧ Below w.heap.size w w'

theorem zeroD_i : DelI zeroD := ⟨i64_small (by decide) (by decide), i64_small (by decide) (by decide), i64_small (by decide) (by decide), i64_small (by decide) (by decide), i64_small (by decide) (by decide)⟩

theorem GivenD.zero {w w' : World} (n : Int) (hb : Below w.heap.size w w') : GivenD w (zeroD, n) (.returned (.tuple #[.agg #[.int .i64 0, .int .i64 0, .int .i64 0, .int .i64 0, .slice none 0 0, .bool false, .int .i64 0, .slice none 0 0], .int .i64 n])) w' :=
  ⟨_, _, rfl, RdI.nil _, RdE.nil _, zeroD_i, (fun b hb => by simp [Value.ownBlock] at hb), (fun b hb => by simp [Value.ownBlock] at hb), hb⟩

theorem GivenD.dl {w w' : World} {r : Delt × Int} {e : Ending} (h : GivenD w r e w') : ∃ v, e = .returned (.tuple #[v, .int .i64 r.2]) ∧ DlV w' v r.1 ∧ Below w.heap.size w w' := by
  obtain ⟨vm, vt, rfl, hm, ht, hi, -, -, hb⟩ := h
  exact ⟨_, rfl, ⟨vm, vt, rfl, hm, ht, hi⟩, hb⟩

/-- Are two deltas the same? -/
def SameD (a b : Delt) : Prop := a.frm = b.frm ∧ a.upto = b.upto ∧ a.ahead = b.ahead ∧ a.behind = b.behind ∧ a.mid = b.mid ∧ a.shut = b.shut ∧ a.eng = b.eng ∧ a.tab = b.tab

instance (a b : Delt) : Decidable (SameD a b) := by unfold SameD; infer_instance

theorem SameD.refl (a : Delt) : SameD a a := ⟨rfl, rfl, rfl, rfl, rfl, rfl, rfl, rfl⟩

theorem new_three (w : World) (x y z : Obj) : ((((w.alloc x).alloc y).alloc z).heap[w.heap.size]? = some x ∧ (((w.alloc x).alloc y).alloc z).heap[w.heap.size + 1]? = some y ∧ (((w.alloc x).alloc y).alloc z).heap[w.heap.size + 1 + 1]? = some z) := by
  refine ⟨?_, ?_, ?_⟩
  · exact ((Below.heap_alloc _ _ _ (by simp; omega)).trans (Below.heap_alloc _ _ _ (by simp))).trans (heap_alloc_new w x)
  · refine (Below.heap_alloc _ _ _ (by simp)).trans ?_
    have := heap_alloc_new (w.alloc x) y
    simpa using this
  · have := heap_alloc_new ((w.alloc x).alloc y) z
    simpa using this

theorem below_three (w : World) (x y z : Obj) : Below w.heap.size w (((w.alloc x).alloc y).alloc z) := (((Below.refl _ _).alloc (Nat.le_refl _) _).alloc (by simp) _).alloc (by simp; omega) _

/-- The cells of a delta's box, and that they may be written. -/
theorem Bd.all {w : World} {b : Nat} {x0 x1 x2 x3 x4 x5 x6 x7 : Value} (h : Bd w b #[x0, x1, x2, x3, x4, x5, x6, x7]) :
    (w.cell? ⟨b, 0, none⟩ = some x0 ∧ w.cell? ⟨b, 1, none⟩ = some x1 ∧ w.cell? ⟨b, 2, none⟩ = some x2 ∧ w.cell? ⟨b, 3, none⟩ = some x3 ∧ w.cell? ⟨b, 4, none⟩ = some x4 ∧ w.cell? ⟨b, 5, none⟩ = some x5 ∧ w.cell? ⟨b, 6, none⟩ = some x6 ∧ w.cell? ⟨b, 7, none⟩ = some x7) ∧
    w.frozen? ⟨b, 0, none⟩ = false ∧ w.frozen? ⟨b, 1, none⟩ = false ∧ w.frozen? ⟨b, 2, none⟩ = false ∧ w.frozen? ⟨b, 3, none⟩ = false ∧ w.frozen? ⟨b, 4, none⟩ = false ∧ w.frozen? ⟨b, 5, none⟩ = false ∧ w.frozen? ⟨b, 6, none⟩ = false ∧ w.frozen? ⟨b, 7, none⟩ = false :=
  ⟨⟨(h.cell 0).1, (h.cell 1).1, (h.cell 2).1, (h.cell 3).1, (h.cell 4).1, (h.cell 5).1, (h.cell 6).1, (h.cell 7).1⟩, (h.cell 0).2, (h.cell 1).2, (h.cell 2).2, (h.cell 3).2, (h.cell 4).2, (h.cell 5).2, (h.cell 6).2, (h.cell 7).2⟩

theorem Bn.all {w : World} {b : Nat} {x0 x1 x2 x3 x4 x5 : Value} (h : Bn w b #[x0, x1, x2, x3, x4, x5]) :
    (w.cell? ⟨b, 0, none⟩ = some x0 ∧ w.cell? ⟨b, 1, none⟩ = some x1 ∧ w.cell? ⟨b, 2, none⟩ = some x2 ∧ w.cell? ⟨b, 3, none⟩ = some x3 ∧ w.cell? ⟨b, 4, none⟩ = some x4 ∧ w.cell? ⟨b, 5, none⟩ = some x5) ∧
    w.frozen? ⟨b, 0, none⟩ = false ∧ w.frozen? ⟨b, 1, none⟩ = false ∧ w.frozen? ⟨b, 2, none⟩ = false ∧ w.frozen? ⟨b, 3, none⟩ = false ∧ w.frozen? ⟨b, 4, none⟩ = false ∧ w.frozen? ⟨b, 5, none⟩ = false :=
  ⟨⟨(h.cell 0).1, (h.cell 1).1, (h.cell 2).1, (h.cell 3).1, (h.cell 4).1, (h.cell 5).1⟩, (h.cell 0).2, (h.cell 1).2, (h.cell 2).2, (h.cell 3).2, (h.cell 4).2, (h.cell 5).2⟩

/-- A part of numbers from a place on, and up to one: cut in every world. -/
theorem cutI_from (ao : Option Addr) (l : List Int) (cap : Nat) (hlc : l.length ≤ cap) (d : Nat) (hd : d ≤ l.length) (m : List Int) (hm : m = l.drop d) :
    ∃ xa xc, (∀ W, (Instr.sliceAt 22 (.slice ao l.length cap) (some (.int .i64 (d : Int))) none none).run Try.prog W = .ok (.slice xa m.length xc) W) ∧ m.length ≤ xc ∧ ∀ W, RdI W (.slice ao l.length cap) l → RdI W (.slice xa m.length xc) m := by
  subst hm
  obtain ⟨xa, xc, hsl, hxc⟩ : ∃ xa xc, sliced ao d l.length cap 1 = .slice xa (l.length - d) xc ∧ xc = cap - d := by
    unfold sliced
    exact ⟨_, _, rfl, rfl⟩
  refine ⟨xa, xc, fun W => ?_, by rw [List.length_drop]; omega, fun W h => ?_⟩
  · rw [run_sliceAt_slice W 22 _ _ _ _ under_ints, run_slice_l W 22 ao l.length cap under_ints .i64 (d : Int) (by omega) (by omega), elem_ints, size_int, List.length_drop, ← hsl]
    rfl
  · rw [List.length_drop, ← hsl]
    have h2 := h.mid d l.length cap hd (Nat.le_refl _) hlc (Nat.le_refl _)
    rw [List.take_of_length_le (by simp)] at h2
    exact h2

theorem cutI_upto (ao : Option Addr) (l : List Int) (cap : Nat) (hlc : l.length ≤ cap) (d : Nat) (hd : d ≤ l.length) (m : List Int) (hm : m = l.take d) :
    ∃ xa xc, (∀ W, (Instr.sliceAt 22 (.slice ao l.length cap) none (some (.int .i64 (d : Int))) none).run Try.prog W = .ok (.slice xa m.length xc) W) ∧ ∀ W, RdI W (.slice ao l.length cap) l → RdI W (.slice xa m.length xc) m := by
  have hml : m.length = d := by rw [hm, List.length_take]; omega
  obtain ⟨xa, xc, hsl⟩ : ∃ xa xc, sliced ao 0 d cap 1 = .slice xa d xc := by
    unfold sliced
    exact ⟨_, _, rfl⟩
  refine ⟨xa, xc, fun W => ?_, fun W h => ?_⟩
  · rw [run_sliceAt_slice W 22 _ _ _ _ under_ints, run_slice_h W 22 ao l.length cap under_ints .i64 (d : Int) (by omega) (by omega), elem_ints, size_int, hml, ← hsl]
    rfl
  · rw [hml, ← hsl]
    have h2 := h.mid 0 d cap (by omega) hd (by omega) (Nat.le_refl _)
    rw [hm]
    simpa using h2

end Go.Proofs.Ytgpdbboieokldaa
