import Derived.Test.YtgpdbboieokldaaPack3
import Derived.Test.YtgpdbboieokldaaPack2
import Derived.Deep.QuietTactic
import Derived.BigQuiet
import Derived.Shelf.Abstract
import Derived.Test.YtgpdbboieokldaaPack1
import Derived.Lib.SliceRun
import Derived.Shelf.Slices.Equal
import Derived.Shelf.Slices.Empties2
import Derived.Shelf.Slices.Clone
import Derived.Shelf.Slices.Cells
import Derived.Shelf.Spec.SlicesInsert
import Derived.Shelf.Spec.SlicesInsertGrow
/- What is read stays while boxes are written: entries; a result that is a snapshot. -/
namespace Go.Proofs.Ytgpdbboieokldaa
open Go.RowKit

theorem RdE.but {w w' : World} {v : Value} {l : List Ent} (h : RdE w v l) {R T : Nat} (hb : But R T w w') (hn : l = [] ∨ ∀ b, v.ownBlock = some b → b ≠ R ∧ b ≠ T) : RdE w' v l := by
  obtain ⟨ao, cap, rfl, h2, h3, hn0, hw, h4⟩ := h
  refine ⟨ao, cap, rfl, h2, h3, hn0, hw, ?_⟩
  rcases h4 with h4 | ⟨b, off, h5, h6⟩
  · exact .inl h4
  · by_cases hl : l = []
    · exact .inl hl
    · refine .inr ⟨b, off, h5, fun j hj => ?_⟩
      have h7 := h6 j hj
      rcases hn with hn | hn
      · exact absurd hn hl
      · have h8 := hn b (by rw [h5]; rfl)
        exact h7.keep (hb.block b h7.lt h8.1 h8.2)

theorem RdE.block {w : World} {v : Value} {l : List Ent} (h : RdE w v l) : l = [] ∨ ∀ b, v.ownBlock = some b → b < w.heap.size := by
  obtain ⟨ao, cap, rfl, h2, h3, hn0, hw, h4⟩ := h
  rcases h4 with h4 | ⟨b, off, rfl, h6⟩
  · exact .inl h4
  · by_cases hl : l = []
    · exact .inl hl
    · refine .inr fun c hc => ?_
      have e : b = c := by simpa [Value.ownBlock] using hc
      rw [← e]
      exact (h6 0 (List.length_pos_iff.2 hl)).lt

theorem RdI.old {w : World} {v : Value} {l : List Int} (h : RdI w v l) : l = [] ∨ ∀ b, v.ownBlock = some b → b < w.heap.size := by
  rcases h.block with h | ⟨_, b, hb, hlt⟩
  · exact .inl h
  · refine .inr fun c hc => ?_
    rw [hb] at hc
    injection hc with hc
    omega

theorem OwnE.fresh {w : World} {B : Nat} {v : Value} {l : List Ent} (h : OwnE w B v l) : ∀ b, v.ownBlock = some b → B ≤ b := fun b hb => (World.ownsRow.lt h b hb).1

/-- What is decoded: a snapshot, and an error's number. -/
def DecodedN (w : World) (r : Snap × Int) (e : Ending) (w' : World) : Prop :=
  ∃ vl vt, e = .returned (.tuple #[.agg #[.int .i64 r.1.idx, .int .i64 r.1.st.kind, vl, .bool r.1.st.shut, .int .i64 r.1.st.eng, vt], .int .i64 r.2]) ∧ RdI w' vl r.1.st.L ∧ I64 r.1.st.kind ∧ I64 r.1.st.eng ∧ RdE w' vt r.1.tab ∧ I64 r.1.idx ∧ (∀ b, vl.ownBlock = some b → w.heap.size ≤ b) ∧ (∀ b, vt.ownBlock = some b → w.heap.size ≤ b) ∧ Below w.heap.size w w'

theorem DecodedN.zero {w w' : World} (n : Int) (hb : Below w.heap.size w w') : DecodedN w (zeroN, n) (.returned (.tuple #[.agg #[.int .i64 0, .int .i64 0, .slice none 0 0, .bool false, .int .i64 0, .slice none 0 0], .int .i64 n])) w' :=
  ⟨_, _, rfl, RdI.nil _, (i64_small (by decide) (by decide) : I64 0), (i64_small (by decide) (by decide) : I64 0), RdE.nil _, (i64_small (by decide) (by decide) : I64 0), fun b hb => by simp [Value.ownBlock] at hb, fun b hb => by simp [Value.ownBlock] at hb, hb⟩

theorem SnV.below {w w' : World} {v : Value} {s : Snap} (h : SnV w v s) {B : Nat} (hb : Below B w w') (hB : w.heap.size ≤ B) : SnV w' v s := by
  obtain ⟨vl, vt, e, hl, hk, he, ht, hi⟩ := h
  exact ⟨vl, vt, e, hl.below hb hB, hk, he, ht.below hb hB, hi⟩

theorem SnV.shape {w : World} {v : Value} {s : Snap} (h : SnV w v s) : ∃ la lc ta tc, v = .agg #[.int .i64 s.idx, .int .i64 s.st.kind, .slice la s.st.L.length lc, .bool s.st.shut, .int .i64 s.st.eng, .slice ta s.tab.length tc] := by
  obtain ⟨vl, vt, e, hl, hk, he, ht, hi⟩ := h
  obtain ⟨la, lc, h1, -⟩ := hl
  obtain ⟨ta, tc, h2⟩ := ht.shape
  subst h1 h2
  exact ⟨la, lc, ta, tc, e⟩

theorem DecodedN.sn {w w' : World} {r : Snap × Int} {e : Ending} (h : DecodedN w r e w') : ∃ v, e = .returned (.tuple #[v, .int .i64 r.2]) ∧ SnV w' v r.1 ∧ Below w.heap.size w w' := by
  obtain ⟨vl, vt, rfl, hl, hk, he, ht, hi, _, _, hb⟩ := h
  exact ⟨_, rfl, ⟨vl, vt, rfl, hl, hk, he, ht, hi⟩, hb⟩

/-- Six cells of a block, written. -/
def six (w : World) (R : Nat) (x0 x1 x2 x3 x4 x5 : Value) : World := (((((w.setCell ⟨R, 0, none⟩ x0).setCell ⟨R, 1, none⟩ x1).setCell ⟨R, 2, none⟩ x2).setCell ⟨R, 3, none⟩ x3).setCell ⟨R, 4, none⟩ x4).setCell ⟨R, 5, none⟩ x5

theorem belowSix {C : Nat} {w0 w : World} (h : Below C w0 w) (R : Nat) (hR : C ≤ R) (x0 x1 x2 x3 x4 x5 : Value) : Below C w0 (six w R x0 x1 x2 x3 x4 x5) :=
  (((((h.setCell hR _).setCell hR _).setCell hR _).setCell hR _).setCell hR _).setCell hR _

theorem belowSixE {C : Nat} {w0 w : World} (h : Below C w0 w) (R : Nat) (hR : C ≤ R) (x0 x1 x2 x3 x4 x5 : Value) : Below C w0 ((((((w.setCell ⟨R, 0, none⟩ x0).setCell ⟨R, 1, none⟩ x1).setCell ⟨R, 2, none⟩ x2).setCell ⟨R, 3, none⟩ x3).setCell ⟨R, 4, none⟩ x4).setCell ⟨R, 5, none⟩ x5) := belowSix h R hR x0 x1 x2 x3 x4 x5

theorem butSix (w : World) (R : Nat) (x0 x1 x2 x3 x4 x5 : Value) : But R R w (six w R x0 x1 x2 x3 x4 x5) :=
  ((((((But.refl R R w).set _ _ (.inl rfl) _).set _ _ (.inl rfl) _).set _ _ (.inl rfl) _).set _ _ (.inl rfl) _).set _ _ (.inl rfl) _).set _ _ (.inl rfl) _

theorem Bn.set {w : World} {b : Nat} {cs : Array Value} (h : Bn w b cs) (j : Nat) (x : Value) : Bn (w.setCell ⟨b, j, none⟩ x) b (cs.setIfInBounds j x) := by
  have := heap_setCell_same w b j _ _ x h
  unfold Bn
  simpa using this

theorem Bn.other {w : World} {b c : Nat} {cs : Array Value} (h : Bn w b cs) (j : Nat) (x : Value) (hne : b ≠ c) : Bn (w.setCell ⟨c, j, none⟩ x) b cs := (Below.heap_setCell _ _ _ _ hne).trans h

end Go.Proofs.Ytgpdbboieokldaa

/- Deltas in memory: values ('DlV'), boxes ('Bd'), what is answered ('GivenD'). -/
namespace Go.Proofs.Ytgpdbboieokldaa
open Go.RowKit

/-- A delta's plain numbers are ints. -/
def DelI (d : Delt) : Prop := I64 d.frm ∧ I64 d.upto ∧ I64 d.ahead ∧ I64 d.behind ∧ I64 d.eng

/-- The value v is, in the world w, the delta d. -/
def DlV (w : World) (v : Value) (d : Delt) : Prop :=
  ∃ vm vt, v = .agg #[.int .i64 d.frm, .int .i64 d.upto, .int .i64 d.ahead, .int .i64 d.behind, vm, .bool d.shut, .int .i64 d.eng, vt] ∧ RdI w vm d.mid ∧ RdE w vt d.tab ∧ DelI d

theorem DlV.below {w w' : World} {v : Value} {d : Delt} (h : DlV w v d) {B : Nat} (hb : Below B w w') (hB : w.heap.size ≤ B) : DlV w' v d := by
  obtain ⟨vm, vt, e, hm, ht, hi⟩ := h
  exact ⟨vm, vt, e, hm.below hb hB, ht.below hb hB, hi⟩

theorem RdI.shape {w : World} {v : Value} {l : List Int} (h : RdI w v l) : ∃ ao cap, v = .slice ao l.length cap := by
  obtain ⟨ao, cap, hv, _⟩ := h
  exact ⟨ao, cap, hv⟩

theorem DlV.shape {w : World} {v : Value} {d : Delt} (h : DlV w v d) : ∃ ma mc ta tc, v = .agg #[.int .i64 d.frm, .int .i64 d.upto, .int .i64 d.ahead, .int .i64 d.behind, .slice ma d.mid.length mc, .bool d.shut, .int .i64 d.eng, .slice ta d.tab.length tc] ∧ RdI w (.slice ma d.mid.length mc) d.mid ∧ RdE w (.slice ta d.tab.length tc) d.tab := by
  obtain ⟨vm, vt, e, hm, ht, hi⟩ := h
  obtain ⟨ma, mc, h1⟩ := hm.shape
  obtain ⟨ta, tc, h2⟩ := ht.shape
  subst h1 h2
  exact ⟨ma, mc, ta, tc, e, hm, ht⟩

/-- A box of a delta. -/
def Bd (w : World) (b : Nat) (cs : Array Value) : Prop := w.heap[b]? = some (.cells cs 31 (0, 0))

theorem Bd.lt {w : World} {b : Nat} {cs : Array Value} (h : Bd w b cs) : b < w.heap.size := (Array.getElem?_eq_some_iff.1 h).1

theorem Bd.below {w w' : World} {b B : Nat} {cs : Array Value} (h : Bd w b cs) (hb : Below B w w') (hB : w.heap.size ≤ B) : Bd w' b cs := (hb.block b (by have := h.lt; omega)).trans h

theorem Bd.cell {w : World} {b : Nat} {cs : Array Value} (h : Bd w b cs) (j : Nat) : w.cell? ⟨b, j, none⟩ = cs[j]? ∧ w.frozen? ⟨b, j, none⟩ = false := ⟨cell_of_row w b j _ _ _ h, frozen_of_row w b j _ _ h⟩

theorem Bd.set {w : World} {b : Nat} {cs : Array Value} (h : Bd w b cs) (j : Nat) (x : Value) : Bd (w.setCell ⟨b, j, none⟩ x) b (cs.setIfInBounds j x) := by
  have := heap_setCell_same w b j _ _ x h
  unfold Bd
  simpa using this

theorem Bd.other {w : World} {b c : Nat} {cs : Array Value} (h : Bd w b cs) (j : Nat) (x : Value) (hne : b ≠ c) : Bd (w.setCell ⟨c, j, none⟩ x) b cs := (Below.heap_setCell _ _ _ _ hne).trans h

/-- Eight cells of a block, written. -/
def eight (w : World) (R : Nat) (x0 x1 x2 x3 x4 x5 x6 x7 : Value) : World := (((((((w.setCell ⟨R, 0, none⟩ x0).setCell ⟨R, 1, none⟩ x1).setCell ⟨R, 2, none⟩ x2).setCell ⟨R, 3, none⟩ x3).setCell ⟨R, 4, none⟩ x4).setCell ⟨R, 5, none⟩ x5).setCell ⟨R, 6, none⟩ x6).setCell ⟨R, 7, none⟩ x7

theorem belowEight {C : Nat} {w0 w : World} (h : Below C w0 w) (R : Nat) (hR : C ≤ R) (x0 x1 x2 x3 x4 x5 x6 x7 : Value) : Below C w0 (eight w R x0 x1 x2 x3 x4 x5 x6 x7) :=
  (((((((h.setCell hR _).setCell hR _).setCell hR _).setCell hR _).setCell hR _).setCell hR _).setCell hR _).setCell hR _

theorem belowEightE {C : Nat} {w0 w : World} (h : Below C w0 w) (R : Nat) (hR : C ≤ R) (x0 x1 x2 x3 x4 x5 x6 x7 : Value) : Below C w0 ((((((((w.setCell ⟨R, 0, none⟩ x0).setCell ⟨R, 1, none⟩ x1).setCell ⟨R, 2, none⟩ x2).setCell ⟨R, 3, none⟩ x3).setCell ⟨R, 4, none⟩ x4).setCell ⟨R, 5, none⟩ x5).setCell ⟨R, 6, none⟩ x6).setCell ⟨R, 7, none⟩ x7) := belowEight h R hR x0 x1 x2 x3 x4 x5 x6 x7

theorem butEight (w : World) (R : Nat) (x0 x1 x2 x3 x4 x5 x6 x7 : Value) : But R R w (eight w R x0 x1 x2 x3 x4 x5 x6 x7) :=
  ((((((((But.refl R R w).set _ _ (.inl rfl) _).set _ _ (.inl rfl) _).set _ _ (.inl rfl) _).set _ _ (.inl rfl) _).set _ _ (.inl rfl) _).set _ _ (.inl rfl) _).set _ _ (.inl rfl) _).set _ _ (.inl rfl) _

/-- What is answered: a delta, and an error's number. -/
def GivenD (w : World) (r : Delt × Int) (e : Ending) (w' : World) : Prop :=
  ∃ vm vt, e = .returned (.tuple #[.agg #[.int .i64 r.1.frm, .int .i64 r.1.upto, .int .i64 r.1.ahead, .int .i64 r.1.behind, vm, .bool r.1.shut, .int .i64 r.1.eng, vt], .int .i64 r.2]) ∧ RdI w' vm r.1.mid ∧ RdE w' vt r.1.tab ∧ DelI r.1 ∧ (∀ b, vm.ownBlock = some b → w.heap.size ≤ b) ∧ (∀ b, vt.ownBlock = some b → w.heap.size ≤ b) ∧ Below w.heap.size w w'

theorem zeroD_i : DelI zeroD := ⟨i64_small (by decide) (by decide), i64_small (by decide) (by decide), i64_small (by decide) (by decide), i64_small (by decide) (by decide), i64_small (by decide) (by decide)⟩

theorem GivenD.zero {w w' : World} (n : Int) (hb : Below w.heap.size w w') : GivenD w (zeroD, n) (.returned (.tuple #[.agg #[.int .i64 0, .int .i64 0, .int .i64 0, .int .i64 0, .slice none 0 0, .bool false, .int .i64 0, .slice none 0 0], .int .i64 n])) w' :=
  ⟨_, _, rfl, RdI.nil _, RdE.nil _, zeroD_i, (fun b hb => by simp [Value.ownBlock] at hb), (fun b hb => by simp [Value.ownBlock] at hb), hb⟩

theorem GivenD.dl {w w' : World} {r : Delt × Int} {e : Ending} (h : GivenD w r e w') : ∃ v, e = .returned (.tuple #[v, .int .i64 r.2]) ∧ DlV w' v r.1 ∧ Below w.heap.size w w' := by
  obtain ⟨vm, vt, rfl, hm, ht, hi, -, -, hb⟩ := h
  exact ⟨_, rfl, ⟨vm, vt, rfl, hm, ht, hi⟩, hb⟩

/-- Are two deltas the same? -/
def SameD (a b : Delt) : Prop := a.frm = b.frm ∧ a.upto = b.upto ∧ a.ahead = b.ahead ∧ a.behind = b.behind ∧ a.mid = b.mid ∧ a.shut = b.shut ∧ a.eng = b.eng ∧ a.tab = b.tab

instance (a b : Delt) : Decidable (SameD a b) := by unfold SameD; infer_instance

theorem SameD.refl (a : Delt) : SameD a a := ⟨rfl, rfl, rfl, rfl, rfl, rfl, rfl, rfl⟩

theorem new_three (w : World) (x y z : Obj) : ((((w.alloc x).alloc y).alloc z).heap[w.heap.size]? = some x ∧ (((w.alloc x).alloc y).alloc z).heap[w.heap.size + 1]? = some y ∧ (((w.alloc x).alloc y).alloc z).heap[w.heap.size + 1 + 1]? = some z) := by
  refine ⟨?_, ?_, ?_⟩
  · exact ((Below.heap_alloc _ _ _ (by simp; omega)).trans (Below.heap_alloc _ _ _ (by simp))).trans (heap_alloc_new w x)
  · refine (Below.heap_alloc _ _ _ (by simp)).trans ?_
    have := heap_alloc_new (w.alloc x) y
    simpa using this
  · have := heap_alloc_new ((w.alloc x).alloc y) z
    simpa using this

theorem below_three (w : World) (x y z : Obj) : Below w.heap.size w (((w.alloc x).alloc y).alloc z) := (((Below.refl _ _).alloc (Nat.le_refl _) _).alloc (by simp) _).alloc (by simp; omega) _

/-- The cells of a delta's box, and that they may be written. -/
theorem Bd.all {w : World} {b : Nat} {x0 x1 x2 x3 x4 x5 x6 x7 : Value} (h : Bd w b #[x0, x1, x2, x3, x4, x5, x6, x7]) :
    (w.cell? ⟨b, 0, none⟩ = some x0 ∧ w.cell? ⟨b, 1, none⟩ = some x1 ∧ w.cell? ⟨b, 2, none⟩ = some x2 ∧ w.cell? ⟨b, 3, none⟩ = some x3 ∧ w.cell? ⟨b, 4, none⟩ = some x4 ∧ w.cell? ⟨b, 5, none⟩ = some x5 ∧ w.cell? ⟨b, 6, none⟩ = some x6 ∧ w.cell? ⟨b, 7, none⟩ = some x7) ∧
    w.frozen? ⟨b, 0, none⟩ = false ∧ w.frozen? ⟨b, 1, none⟩ = false ∧ w.frozen? ⟨b, 2, none⟩ = false ∧ w.frozen? ⟨b, 3, none⟩ = false ∧ w.frozen? ⟨b, 4, none⟩ = false ∧ w.frozen? ⟨b, 5, none⟩ = false ∧ w.frozen? ⟨b, 6, none⟩ = false ∧ w.frozen? ⟨b, 7, none⟩ = false :=
  ⟨⟨(h.cell 0).1, (h.cell 1).1, (h.cell 2).1, (h.cell 3).1, (h.cell 4).1, (h.cell 5).1, (h.cell 6).1, (h.cell 7).1⟩, (h.cell 0).2, (h.cell 1).2, (h.cell 2).2, (h.cell 3).2, (h.cell 4).2, (h.cell 5).2, (h.cell 6).2, (h.cell 7).2⟩

theorem Bn.all {w : World} {b : Nat} {x0 x1 x2 x3 x4 x5 : Value} (h : Bn w b #[x0, x1, x2, x3, x4, x5]) :
    (w.cell? ⟨b, 0, none⟩ = some x0 ∧ w.cell? ⟨b, 1, none⟩ = some x1 ∧ w.cell? ⟨b, 2, none⟩ = some x2 ∧ w.cell? ⟨b, 3, none⟩ = some x3 ∧ w.cell? ⟨b, 4, none⟩ = some x4 ∧ w.cell? ⟨b, 5, none⟩ = some x5) ∧
    w.frozen? ⟨b, 0, none⟩ = false ∧ w.frozen? ⟨b, 1, none⟩ = false ∧ w.frozen? ⟨b, 2, none⟩ = false ∧ w.frozen? ⟨b, 3, none⟩ = false ∧ w.frozen? ⟨b, 4, none⟩ = false ∧ w.frozen? ⟨b, 5, none⟩ = false :=
  ⟨⟨(h.cell 0).1, (h.cell 1).1, (h.cell 2).1, (h.cell 3).1, (h.cell 4).1, (h.cell 5).1⟩, (h.cell 0).2, (h.cell 1).2, (h.cell 2).2, (h.cell 3).2, (h.cell 4).2, (h.cell 5).2⟩

/-- A part of numbers from a place on, and up to one: cut in every world. -/
theorem cutI_from (ao : Option Addr) (l : List Int) (cap : Nat) (hlc : l.length ≤ cap) (d : Nat) (hd : d ≤ l.length) (m : List Int) (hm : m = l.drop d) :
    ∃ xa xc, (∀ W, (Instr.sliceAt 22 (.slice ao l.length cap) (some (.int .i64 (d : Int))) none none).run Try.prog W = .ok (.slice xa m.length xc) W) ∧ m.length ≤ xc ∧ ∀ W, RdI W (.slice ao l.length cap) l → RdI W (.slice xa m.length xc) m := by
  subst hm
  obtain ⟨xa, xc, hsl, hxc⟩ : ∃ xa xc, sliced ao d l.length cap 1 = .slice xa (l.length - d) xc ∧ xc = cap - d := by
    unfold sliced
    exact ⟨_, _, rfl, rfl⟩
  refine ⟨xa, xc, fun W => ?_, by rw [List.length_drop]; omega, fun W h => ?_⟩
  · rw [run_sliceAt_slice W 22 _ _ _ _ under_ints, run_slice_l W 22 ao l.length cap under_ints .i64 (d : Int) (by omega) (by omega), elem_ints, size_int, List.length_drop, ← hsl]
    rfl
  · rw [List.length_drop, ← hsl]
    have h2 := h.mid d l.length cap hd (Nat.le_refl _) hlc (Nat.le_refl _)
    rw [List.take_of_length_le (by simp)] at h2
    exact h2

theorem cutI_upto (ao : Option Addr) (l : List Int) (cap : Nat) (hlc : l.length ≤ cap) (d : Nat) (hd : d ≤ l.length) (m : List Int) (hm : m = l.take d) :
    ∃ xa xc, (∀ W, (Instr.sliceAt 22 (.slice ao l.length cap) none (some (.int .i64 (d : Int))) none).run Try.prog W = .ok (.slice xa m.length xc) W) ∧ ∀ W, RdI W (.slice ao l.length cap) l → RdI W (.slice xa m.length xc) m := by
  have hml : m.length = d := by rw [hm, List.length_take]; omega
  obtain ⟨xa, xc, hsl⟩ : ∃ xa xc, sliced ao 0 d cap 1 = .slice xa d xc := by
    unfold sliced
    exact ⟨_, _, rfl⟩
  refine ⟨xa, xc, fun W => ?_, fun W h => ?_⟩
  · rw [run_sliceAt_slice W 22 _ _ _ _ under_ints, run_slice_h W 22 ao l.length cap under_ints .i64 (d : Int) (by omega) (by omega), elem_ints, size_int, hml, ← hsl]
    rfl
  · rw [hml, ← hsl]
    have h2 := h.mid 0 d cap (by omega) hd (by omega) (Nat.le_refl _)
    rw [hm]
    simpa using h2

end Go.Proofs.Ytgpdbboieokldaa

/- Contracts of delta: run, and the two closures that it is handed. -/
namespace Go.Proofs.Ytgpdbboieokldaa
open Go.RowKit

/-- How many of the first n places are alike, one behind the other. -/
def RunTo (p : Nat → Bool) (n k : Nat) : Prop := k ≤ n ∧ (∀ j, j < k → p j = true) ∧ (k = n ∨ p k = false)

theorem preL_run : ∀ (a b : List Int) (k : Nat), k ≤ a.length → k ≤ b.length → (∀ j, j < k → a.getD j 0 = b.getD j 0) → (k = a.length ∨ k = b.length ∨ a.getD k 0 ≠ b.getD k 0) → k = preL a b
  | [], b, k, h1, _, _, _ => by simp at h1; simp [preL, h1]
  | x :: a, [], k, _, h2, _, _ => by simp at h2; simp [preL, h2]
  | x :: a, y :: b, 0, _, _, _, h4 => by
    rw [preL]
    rcases h4 with h | h | h
    · simp at h
    · simp at h
    · rw [if_neg (by simpa [List.getD] using h)]
  | x :: a, y :: b, k + 1, h1, h2, h3, h4 => by
    have e : x = y := by simpa [List.getD] using h3 0 (by omega)
    rw [preL, if_pos e, ← preL_run a b k (by simpa using h1) (by simpa using h2) (fun j hj => by simpa [List.getD] using h3 (j + 1) (by omega)) (by simpa [List.getD] using h4)]

theorem preL_runTo {a b : List Int} {n k : Nat} (hn : n = min a.length b.length) (h : RunTo (fun j => decide (a.getD j 0 = b.getD j 0)) n k) : k = preL a b := by
  obtain ⟨h1, h2, h3⟩ := h
  refine preL_run a b k (by omega) (by omega) (fun j hj => of_decide_eq_true (h2 j hj)) ?_
  rcases h3 with h | h
  · omega
  · exact .inr (.inr (of_decide_eq_false h))

theorem reverse_getD (a : List Int) (j : Nat) (h : j < a.length) : a.reverse.getD j 0 = a.getD (a.length - 1 - j) 0 := by
  have h2 : a.length - 1 - j < a.length := by omega
  simp [List.getD, h, h2]

theorem preL_runBack {a b : List Int} {n k : Nat} (hn : n = min a.length b.length) (h : RunTo (fun j => decide (a.getD (a.length - 1 - j) 0 = b.getD (b.length - 1 - j) 0)) n k) : k = preL a.reverse b.reverse := by
  obtain ⟨h1, h2, h3⟩ := h
  refine preL_run a.reverse b.reverse k (by rw [List.length_reverse]; omega) (by rw [List.length_reverse]; omega) (fun j hj => ?_) ?_
  · rw [reverse_getD _ _ (by omega), reverse_getD _ _ (by omega)]
    exact of_decide_eq_true (h2 j hj)
  · rw [List.length_reverse, List.length_reverse]
    by_cases e : k = n
    · omega
    · rcases h3 with h | h
      · exact absurd h e
      · right; right
        rw [reverse_getD _ _ (by omega), reverse_getD _ _ (by omega)]
        exact of_decide_eq_false h

set_option maxRecDepth 100000 in
set_option maxHeartbeats 2000000 in
theorem run_any (g R S : Nat) (p : Nat → Bool) (n : Nat) (hn : n ≤ 9223372036854775807) (w : World)
    (eg : ∀ args W, (callFunc g args).run Try.prog W = .ok (.enter g args) W)
    (hp : ∀ W j, j < n → Below w.heap.size w W → Calls Try.prog g #[.int .i64 (j : Int), .pointer (some ⟨R, 0, none⟩), .pointer (some ⟨S, 0, none⟩)] W fun x w' => x = .returned (.bool (p j)) ∧ Below W.heap.size W w') :
    Calls Try.prog 53 #[.int .i64 (n : Int), .func (.func g) #[] #[.pointer (some ⟨R, 0, none⟩), .pointer (some ⟨S, 0, none⟩)]] w fun x w' => ∃ k : Nat, x = .returned (.int .i64 (k : Int)) ∧ RunTo p n k ∧ Below w.heap.size w w' := by
  have HP := hide hp
  have hml : (n : Int) ≤ 9223372036854775807 := by omega
  clear hp
  go_enter Try.func53, Try.ntmps53
  go_wp2
  go_loopw [7] (fun vi wr => ∃ q : Nat, vi = .int .i64 (q : Int) ∧ q ≤ n ∧ Hid (∀ j, j < q → p j = true) ∧ Hid (Below w.heap.size w wr)) (fun vi _ => n - (intOf vi).toNat)
  case atStart => exact ⟨0, rfl, Nat.zero_le _, hide (fun j hj => absurd hj (Nat.not_lt_zero _)), Below.refl _ _⟩
  case round =>
    obtain ⟨q, rfl, hq, hN, hB⟩ := hrel
    by_cases hlt : q < n
    case neg =>
      obtain rfl : q = n := by omega
      go_wp2
      go_ret
      exact ⟨q, rfl, ⟨Nat.le_refl _, hN.out, .inl rfl⟩, hB.out⟩
    have hqi : (q : Int) < (n : Int) := by omega
    have HC := hide (HP.out wr q hlt hB.out)
    have HX : Hid (∀ j, j < q + 1 → j = q ∨ j < q) := hide (fun j hj => by omega)
    obtain ⟨pe, hpe⟩ : ∃ pe, pe = p q := ⟨_, rfl⟩
    rw [← hpe] at HC
    have HPE := hide hpe
    clear HP hpe
    go_wp2_with fail
    refine HC.out.mono ?_
    rintro x W1 ⟨rfl, hb1⟩
    have HB1 := hide (hB.out.trans (hb1.mono hB.out.size))
    clear hb1 HC
    cases pe with
    | false =>
      go_wp2
      go_ret
      exact ⟨q, rfl, ⟨hq, hN.out, .inr HPE.out.symm⟩, HB1.out⟩
    | true =>
      go_wp2
      go_roundw
      case rel => exact ⟨q + 1, by go_num, by omega, hide (fun j hj => by
        rcases HX.out j hj with h | h
        · rw [h]; exact HPE.out.symm
        · exact hN.out j h), HB1⟩
      case measure => simp [intOf]; omega

/-- A box of one slice of numbers. -/
def Bs (w : World) (b : Nat) (v : Value) : Prop := w.heap[b]? = some (.cells #[v] 22 (0, 0))

theorem Bs.lt {w : World} {b : Nat} {v : Value} (h : Bs w b v) : b < w.heap.size := (Array.getElem?_eq_some_iff.1 h).1

theorem Bs.below {w w' : World} {b B : Nat} {v : Value} (h : Bs w b v) (hb : Below B w w') (hB : w.heap.size ≤ B) : Bs w' b v := (hb.block b (by have := h.lt; omega)).trans h

theorem Bs.cell {w : World} {b : Nat} {v : Value} (h : Bs w b v) : w.cell? ⟨b, 0, none⟩ = some v := cell_of_row w b 0 _ _ _ h

set_option maxRecDepth 100000 in
set_option maxHeartbeats 2000000 in
theorem ahead1_any (va : Value) (a : List Int) (vb : Value) (b : List Int) (R S : Nat) (W : World) (ha : RdI W va a) (hb : RdI W vb b) (hR : Bs W R va) (hS : Bs W S vb) (j : Nat) (hja : j < a.length) (hjb : j < b.length) :
    Calls Try.prog 54 #[.int .i64 (j : Int), .pointer (some ⟨R, 0, none⟩), .pointer (some ⟨S, 0, none⟩)] W fun x w' => x = .returned (.bool (decide (a.getD j 0 = b.getD j 0))) ∧ Below W.heap.size W w' := by
  have q1 := hR.cell
  have q2 := hS.cell
  obtain ⟨aa, ac, rfl, -, -, -, -, hao⟩ := ha
  obtain ⟨ba, bc, rfl, -, -, -, -, hbo⟩ := hb
  rcases hao with h0 | ⟨c, off, rfl, hc⟩
  · rw [h0] at hja; simp at hja
  rcases hbo with h0 | ⟨c', off', rfl, hc'⟩
  · rw [h0] at hjb; simp at hjb
  have c1 := hc j hja
  have c2 := hc' j hjb
  have hai : (j : Int) < (a.length : Int) := by omega
  have hbi : (j : Int) < (b.length : Int) := by omega
  clear hc hc' hR hS
  generalize a.getD j 0 = x at *
  generalize b.getD j 0 = y at *
  by_cases h : x = y
  · have h' : (x == y) = true := beq_iff_eq.2 h
    have HE : Hid (decide (x = y) = true) := decide_eq_true h
    rw [HE.out]
    clear HE h
    go_enter Try.func54, Try.ntmps54
    go_upto_region 1 with fail
    go_quiet (fail)
    go_wp2
    go_ret
    exact ⟨rfl, below_drewN (Below.refl _ _) _⟩
  · have h' : (x == y) = false := beq_eq_false_iff_ne.2 h
    have HE : Hid (decide (x = y) = false) := decide_eq_false h
    rw [HE.out]
    clear HE h
    go_enter Try.func54, Try.ntmps54
    go_upto_region 1 with fail
    go_quiet (fail)
    go_wp2
    go_ret
    exact ⟨rfl, below_drewN (Below.refl _ _) _⟩

set_option maxRecDepth 100000 in
set_option maxHeartbeats 2000000 in
theorem behind1_any (va : Value) (a : List Int) (vb : Value) (b : List Int) (R S : Nat) (W : World) (ha : RdI W va a) (hb : RdI W vb b) (hR : Bs W R va) (hS : Bs W S vb) (j : Nat) (hja : j < a.length) (hjb : j < b.length) :
    Calls Try.prog 55 #[.int .i64 (j : Int), .pointer (some ⟨R, 0, none⟩), .pointer (some ⟨S, 0, none⟩)] W fun x w' => x = .returned (.bool (decide (a.getD (a.length - 1 - j) 0 = b.getD (b.length - 1 - j) 0))) ∧ Below W.heap.size W w' := by
  have q1 := hR.cell
  have q2 := hS.cell
  obtain ⟨aa, ac, rfl, ha1, ha2, -, -, hao⟩ := ha
  obtain ⟨ba, bc, rfl, hb1, hb2, -, -, hbo⟩ := hb
  rcases hao with h0 | ⟨c, off, rfl, hc⟩
  · rw [h0] at hja; simp at hja
  rcases hbo with h0 | ⟨c', off', rfl, hc'⟩
  · rw [h0] at hjb; simp at hjb
  unfold maxLen at ha2 hb2
  obtain ⟨i, hi⟩ : ∃ i, i = a.length - 1 - j := ⟨_, rfl⟩
  obtain ⟨k, hk⟩ : ∃ k, k = b.length - 1 - j := ⟨_, rfl⟩
  rw [← hi, ← hk]
  have c1 := hc i (by omega)
  have c2 := hc' k (by omega)
  have ei : (a.length : Int) - 1 - (j : Int) = (i : Int) := by omega
  have ek : (b.length : Int) - 1 - (j : Int) = (k : Int) := by omega
  have hai : (i : Int) < (a.length : Int) := by omega
  have hbi : (k : Int) < (b.length : Int) := by omega
  have hal : (a.length : Int) ≤ 9223372036854775807 := by omega
  have hbl : (b.length : Int) ≤ 9223372036854775807 := by omega
  clear hc hc' hR hS hi hk ha1 ha2 hb1 hb2
  generalize a.getD i 0 = x at *
  generalize b.getD k 0 = y at *
  by_cases h : x = y
  · have h' : (x == y) = true := beq_iff_eq.2 h
    have HE : Hid (decide (x = y) = true) := decide_eq_true h
    rw [HE.out]
    clear HE h
    go_enter Try.func55, Try.ntmps55
    go_upto_region 1 with fail
    go_quiet (fail)
    go_wp2
    go_ret
    exact ⟨rfl, below_drewN (Below.refl _ _) _⟩
  · have h' : (x == y) = false := beq_eq_false_iff_ne.2 h
    have HE : Hid (decide (x = y) = false) := decide_eq_false h
    rw [HE.out]
    clear HE h
    go_enter Try.func55, Try.ntmps55
    go_upto_region 1 with fail
    go_quiet (fail)
    go_wp2
    go_ret
    exact ⟨rfl, below_drewN (Below.refl _ _) _⟩

end Go.Proofs.Ytgpdbboieokldaa

/- Contracts of delta: alikeAhead, alikeBehind. -/
namespace Go.Proofs.Ytgpdbboieokldaa
open Go.RowKit

set_option maxRecDepth 100000 in
set_option maxHeartbeats 2000000 in
theorem alikeAhead_any (va : Value) (a : List Int) (vb : Value) (b : List Int) (w : World) (ha : RdI w va a) (hb : RdI w vb b) :
    Calls Try.prog 25 #[va, vb] w fun x w' => x = .returned (.int .i64 ((preL a b : Nat) : Int)) ∧ Below w.heap.size w w' := by
  obtain ⟨W0, hW0⟩ : ∃ W0, W0 = (w.alloc (.cells #[va] 22)).alloc (.cells #[vb] 22) := ⟨_, rfl⟩
  have hB0 : Below w.heap.size w W0 := by rw [hW0]; exact ((Below.refl _ _).alloc (Nat.le_refl _) _).alloc (by simp) _
  have hbR : Bs W0 w.heap.size va := by rw [hW0]; exact (Below.heap_alloc _ _ _ (by simp)).trans (heap_alloc_new w _)
  have hbS : Bs W0 (w.heap.size + 1) vb := by rw [hW0]; exact new_two w _ _
  have haW := ha.below hB0 (Nat.le_refl _)
  have hbW := hb.below hB0 (Nat.le_refl _)
  have eg : ∀ args W, (callFunc 54 args).run Try.prog W = .ok (.enter 54 args) W := enters_of Try.func54 (by kernel_rfl) rfl
  have hml : min a.length b.length ≤ 9223372036854775807 := by
    obtain ⟨_, c, _, h1, h2, _⟩ := ha
    unfold maxLen at h2
    omega
  have HRUN := hide (run_any 54 w.heap.size (w.heap.size + 1) (fun j => decide (a.getD j 0 = b.getD j 0)) (min a.length b.length) hml W0 eg (fun W j hj h => ahead1_any va a vb b w.heap.size (w.heap.size + 1) W (haW.below h (Nat.le_refl _)) (hbW.below h (Nat.le_refl _)) (hbR.below h (Nat.le_refl _)) (hbS.below h (Nat.le_refl _)) j (by omega) (by omega)))
  have HPL := hide (fun k h => preL_runTo (a := a) (b := b) (n := min a.length b.length) (k := k) rfl h)
  have HB0 := hide hB0
  have hmf : ∀ (fn : Fn) (first cap : Array Value) (w : World), (Instr.makeFunc fn first cap).run Try.prog w = .ok (.func fn first cap) w := fun _ _ _ _ => rfl
  obtain ⟨aa, ac, hva⟩ := ha.shape
  obtain ⟨ba, bc, hvb⟩ := hb.shape
  subst hva hvb
  have q1 := hbR.cell
  have q2 := hbS.cell
  have HW0 := hide hW0
  clear hB0 hbR hbS haW hbW eg hml ha hb hW0
  generalize preL a b = PL at *
  by_cases hlt : b.length < a.length
  · have hn : min a.length b.length = b.length := by omega
    have hlt2 : (b.length : Int) < (a.length : Int) := by omega
    rw [hn] at HRUN HPL
    clear hn
    go_enter Try.func25, Try.ntmps25
    go_upto_region 1 with fail
    rw [← HW0.out]
    clear HW0
    go_wp2_with fail
    refine HRUN.out.mono ?_
    rintro x W1 ⟨k, rfl, hk, hb1⟩
    have HK := hide (HPL.out k hk)
    have HB1 := hide (HB0.out.trans (hb1.mono HB0.out.size))
    clear hk hb1
    go_wp2
    go_ret
    rw [HK.out]
    exact ⟨rfl, HB1.out⟩
  · have hn : min a.length b.length = a.length := by omega
    have hlt2 : ¬ (b.length : Int) < (a.length : Int) := by omega
    rw [hn] at HRUN HPL
    clear hn
    go_enter Try.func25, Try.ntmps25
    go_upto_region 1 with fail
    rw [← HW0.out]
    clear HW0
    go_wp2_with fail
    refine HRUN.out.mono ?_
    rintro x W1 ⟨k, rfl, hk, hb1⟩
    have HK := hide (HPL.out k hk)
    have HB1 := hide (HB0.out.trans (hb1.mono HB0.out.size))
    clear hk hb1
    go_wp2
    go_ret
    rw [HK.out]
    exact ⟨rfl, HB1.out⟩

set_option maxRecDepth 100000 in
set_option maxHeartbeats 2000000 in
theorem alikeBehind_any (va : Value) (a : List Int) (vb : Value) (b : List Int) (w : World) (ha : RdI w va a) (hb : RdI w vb b) :
    Calls Try.prog 26 #[va, vb] w fun x w' => x = .returned (.int .i64 ((preL a.reverse b.reverse : Nat) : Int)) ∧ Below w.heap.size w w' := by
  obtain ⟨W0, hW0⟩ : ∃ W0, W0 = (w.alloc (.cells #[va] 22)).alloc (.cells #[vb] 22) := ⟨_, rfl⟩
  have hB0 : Below w.heap.size w W0 := by rw [hW0]; exact ((Below.refl _ _).alloc (Nat.le_refl _) _).alloc (by simp) _
  have hbR : Bs W0 w.heap.size va := by rw [hW0]; exact (Below.heap_alloc _ _ _ (by simp)).trans (heap_alloc_new w _)
  have hbS : Bs W0 (w.heap.size + 1) vb := by rw [hW0]; exact new_two w _ _
  have haW := ha.below hB0 (Nat.le_refl _)
  have hbW := hb.below hB0 (Nat.le_refl _)
  have eg : ∀ args W, (callFunc 55 args).run Try.prog W = .ok (.enter 55 args) W := enters_of Try.func55 (by kernel_rfl) rfl
  have hml : min a.length b.length ≤ 9223372036854775807 := by
    obtain ⟨_, c, _, h1, h2, _⟩ := ha
    unfold maxLen at h2
    omega
  have HRUN := hide (run_any 55 w.heap.size (w.heap.size + 1) (fun j => decide (a.getD (a.length - 1 - j) 0 = b.getD (b.length - 1 - j) 0)) (min a.length b.length) hml W0 eg (fun W j hj h => behind1_any va a vb b w.heap.size (w.heap.size + 1) W (haW.below h (Nat.le_refl _)) (hbW.below h (Nat.le_refl _)) (hbR.below h (Nat.le_refl _)) (hbS.below h (Nat.le_refl _)) j (by omega) (by omega)))
  have HPL := hide (fun k h => preL_runBack (a := a) (b := b) (n := min a.length b.length) (k := k) rfl h)
  have HB0 := hide hB0
  have hmf : ∀ (fn : Fn) (first cap : Array Value) (w : World), (Instr.makeFunc fn first cap).run Try.prog w = .ok (.func fn first cap) w := fun _ _ _ _ => rfl
  obtain ⟨aa, ac, hva⟩ := ha.shape
  obtain ⟨ba, bc, hvb⟩ := hb.shape
  subst hva hvb
  have q1 := hbR.cell
  have q2 := hbS.cell
  have HW0 := hide hW0
  clear hB0 hbR hbS haW hbW eg hml ha hb hW0
  generalize preL a.reverse b.reverse = PL at *
  by_cases hlt : b.length < a.length
  · have hn : min a.length b.length = b.length := by omega
    have hlt2 : (b.length : Int) < (a.length : Int) := by omega
    rw [hn] at HRUN HPL
    clear hn
    go_enter Try.func26, Try.ntmps26
    go_upto_region 1 with fail
    rw [← HW0.out]
    clear HW0
    go_wp2_with fail
    refine HRUN.out.mono ?_
    rintro x W1 ⟨k, rfl, hk, hb1⟩
    have HK := hide (HPL.out k hk)
    have HB1 := hide (HB0.out.trans (hb1.mono HB0.out.size))
    clear hk hb1
    go_wp2
    go_ret
    rw [HK.out]
    exact ⟨rfl, HB1.out⟩
  · have hn : min a.length b.length = a.length := by omega
    have hlt2 : ¬ (b.length : Int) < (a.length : Int) := by omega
    rw [hn] at HRUN HPL
    clear hn
    go_enter Try.func26, Try.ntmps26
    go_upto_region 1 with fail
    rw [← HW0.out]
    clear HW0
    go_wp2_with fail
    refine HRUN.out.mono ?_
    rintro x W1 ⟨k, rfl, hk, hb1⟩
    have HK := hide (HPL.out k hk)
    have HB1 := hide (HB0.out.trans (hb1.mono HB0.out.size))
    clear hk hb1
    go_wp2
    go_ret
    rw [HK.out]
    exact ⟨rfl, HB1.out⟩

end Go.Proofs.Ytgpdbboieokldaa

/- Objects: where a key's pair stands; what the landed step makes of a state. -/
namespace Go.Proofs.Ytgpdbboieokldaa

/-- Where a key's pair stands, or would stand. -/
def placeP (key : Int) : List Int → Nat
  | a :: _ :: r => if key ≤ a then 0 else placeP key r + 2
  | _ => 0

/-- A key has a pair. -/
def hitP (key : Int) (l : List Int) : Bool := (getP key l).isSome

theorem placeP_le (key : Int) : ∀ (l : List Int), l.length % 2 = 0 → placeP key l ≤ l.length ∧ placeP key l % 2 = 0
  | [], _ => ⟨Nat.le_refl _, rfl⟩
  | [_], h => by simp at h
  | a :: b :: r, h => by
    have ih := placeP_le key r (by simp at h; omega)
    unfold placeP
    split
    · simp
    · simp
      omega

/-- Ahead of the place all keys are less. -/
theorem placeP_drop (key : Int) : ∀ (l : List Int) (k : Nat), l.length % 2 = 0 → k % 2 = 0 → k ≤ l.length → (∀ j, j < k → j % 2 = 0 → l.getD j 0 < key) → placeP key l = k + placeP key (l.drop k)
  | [], k, _, _, hk, _ => by
    have : k = 0 := by simpa using hk
    subst this
    rfl
  | [_], _, h, _, _, _ => by simp at h
  | a :: b :: r, k, h, hk2, hk, hall => by
    by_cases h0 : k = 0
    · subst h0
      simp
    · obtain ⟨j, rfl⟩ : ∃ j, k = j + 2 := ⟨k - 2, by omega⟩
      have h1 := hall 0 (by omega) rfl
      have h1' : a < key := h1
      have ih := placeP_drop key r j (by simp at h; omega) (by omega) (by simp at hk; omega) (fun i hi hi2 => by
        have := hall (i + 2) (by omega) (by omega)
        exact this)
      conv => lhs; unfold placeP
      rw [if_neg (by omega), ih]
      show j + placeP key (r.drop j) + 2 = j + 2 + placeP key (r.drop j)
      omega

theorem placeP_stop (key : Int) (l : List Int) (k : Nat) (hk : k + 1 < l.length) (h : key ≤ l.getD k 0) : placeP key (l.drop k) = 0 := by
  rw [drop_pair l k hk, placeP, if_pos h]

theorem placeP_hit (key least : Int) : ∀ (l : List Int) (lo : Int), Pairs least lo l → hitP key l = decide (placeP key l < l.length ∧ l.getD (placeP key l) 0 = key) ∧ (hitP key l = true → getP key l = some (l.getD (placeP key l + 1) 0) ∧ placeP key l + 1 < l.length)
  | [], lo, _ => by simp [hitP, getP, placeP]
  | [_], lo, h => by simp [Pairs] at h
  | a :: b :: r, lo, h => by
    have hg := getP_above (least := least) (key := key) (l := r) (lo := a)
    unfold Pairs at h
    have ih := placeP_hit key least r a h.2.2.2.2
    by_cases h1 : key ≤ a
    · have e : placeP key (a :: b :: r) = 0 := by unfold placeP; rw [if_pos h1]
      rw [e]
      by_cases h2 : a = key
      · have e2 : getP key (a :: b :: r) = some b := by rw [getP_cons, if_pos h2]
        unfold hitP
        rw [e2]
        simp [h2]
      · have e2 : getP key (a :: b :: r) = none := by rw [getP_cons, if_neg h2, hg h.2.2.2.2 h1]
        unfold hitP
        rw [e2]
        simp [h2]
    · have e : placeP key (a :: b :: r) = placeP key r + 2 := by rw [placeP, if_neg h1]
      have e2 : getP key (a :: b :: r) = getP key r := by rw [getP_cons, if_neg (by omega)]
      have e3 : hitP key (a :: b :: r) = hitP key r := by unfold hitP; rw [e2]
      rw [e, e2, e3]
      refine ⟨?_, fun hh => ?_⟩
      · rw [ih.1]
        have e4 : (a :: b :: r).getD (placeP key r + 2) 0 = r.getD (placeP key r) 0 := rfl
        rw [e4]
        apply decide_eq_decide.2
        simp
      · have := ih.2 hh
        refine ⟨this.1, ?_⟩
        simp
        omega

theorem withF_insert (key n least : Int) : ∀ (l : List Int) (lo : Int), Pairs least lo l → hitP key l = false → withF key n false l = l.take (placeP key l) ++ ([key, n] ++ l.drop (placeP key l))
  | [], lo, _, _ => by simp [withF, placeP]
  | [_], lo, h, _ => by simp [Pairs] at h
  | a :: b :: r, lo, h, hm => by
    rw [withF_cons key n least a b r lo h]
    unfold Pairs at h
    have ih := withF_insert key n least r a h.2.2.2.2
    unfold hitP at hm
    rw [getP_cons] at hm
    by_cases h2 : a = key
    · rw [if_pos h2] at hm
      simp at hm
    · rw [if_neg h2] at hm
      by_cases h1 : key < a
      · rw [if_pos h1, placeP, if_pos (by omega)]
        rfl
      · rw [if_neg h1, if_neg (by omega), ih hm, placeP, if_neg (by omega)]
        rfl

theorem withF_set (key n least : Int) : ∀ (l : List Int) (lo : Int), Pairs least lo l → hitP key l = true → withF key n false l = l.set (placeP key l + 1) n
  | [], lo, _, h => by simp [hitP, getP] at h
  | [_], lo, h, _ => by simp [Pairs] at h
  | a :: b :: r, lo, h, hm => by
    rw [withF_cons key n least a b r lo h]
    have hg := getP_above (least := least) (key := key) (l := r) (lo := a)
    unfold Pairs at h
    have ih := withF_set key n least r a h.2.2.2.2
    unfold hitP at hm
    rw [getP_cons] at hm
    by_cases h2 : a = key
    · rw [if_neg (by omega), if_pos h2.symm, placeP, if_pos (by omega), h2]
      rfl
    · rw [if_neg h2] at hm
      by_cases h1 : key < a
      · rw [hg h.2.2.2.2 (by omega)] at hm
        simp at hm
      · rw [if_neg h1, if_neg (by omega), ih hm, placeP, if_neg (by omega)]
        rfl

theorem withoutF_above {least key : Int} : ∀ {l : List Int} {lo : Int}, Pairs least lo l → key ≤ lo → withoutF key l = l
  | [], _, _, _ => rfl
  | [_], _, h, _ => by simp [Pairs] at h
  | a :: b :: r, lo, h, hk => by
    unfold Pairs at h
    rw [withoutF_cons, if_pos (by omega), withoutF_above h.2.2.2.2 (by omega)]

theorem withoutF_not (key least : Int) : ∀ (l : List Int) (lo : Int), Pairs least lo l → hitP key l = false → withoutF key l = l
  | [], lo, _, _ => rfl
  | [_], lo, h, _ => by simp [Pairs] at h
  | a :: b :: r, lo, h, hm => by
    unfold Pairs at h
    have ih := withoutF_not key least r a h.2.2.2.2
    unfold hitP at hm
    rw [getP_cons] at hm
    by_cases h2 : a = key
    · rw [if_pos h2] at hm
      simp at hm
    · rw [if_neg h2] at hm
      rw [withoutF_cons, if_pos h2, ih hm]

theorem withoutF_cut (key least : Int) : ∀ (l : List Int) (lo : Int), Pairs least lo l → hitP key l = true → withoutF key l = l.take (placeP key l) ++ l.drop (placeP key l + 2)
  | [], lo, _, h => by simp [hitP, getP] at h
  | [_], lo, h, _ => by simp [Pairs] at h
  | a :: b :: r, lo, h, hm => by
    have hg := getP_above (least := least) (key := key) (l := r) (lo := a)
    unfold Pairs at h
    have ih := withoutF_cut key least r a h.2.2.2.2
    unfold hitP at hm
    rw [getP_cons] at hm
    rw [withoutF_cons]
    by_cases h2 : a = key
    · rw [if_neg (by omega), placeP, if_pos (by omega), withoutF_above h.2.2.2.2 (by omega)]
      rfl
    · rw [if_neg h2] at hm
      rw [if_pos h2]
      by_cases h1 : key ≤ a
      · rw [hg h.2.2.2.2 h1] at hm
        simp at hm
      · rw [ih hm, placeP, if_neg h1]
        rfl

/-- A store's step, as it landed: a key that may not be is told first. -/
def storeO (s : St) (o : Opn) : St × Int :=
  if o.a < 0 ∨ 255 < o.a then (s, -1) else
  if o.code ≠ 7 ∧ o.code ≠ 6 ∧ o.code ≠ 5 then (s, 0) else
  if o.code = 6 then (⟨s.kind, withoutF o.a s.L, s.shut, s.eng⟩, hadF o.a s.L) else
  if o.code = 5 then (if findF o.a 0 s.L < 0 ∧ s.L.length = 128 then (s, -2) else (⟨s.kind, withF o.a (cutZ o.b) false s.L, s.shut, s.eng⟩, hadF o.a s.L)) else
  (s, hadF o.a s.L)

/-- A state behind an operation, and what came of it, as it landed. -/
def stepO (s : St) (o : Opn) : St × Int :=
  if ¬ MayS s then (s, 0) else
  if s.shut = true then (s, -1125899906842624) else
  if o.code = 10 then (⟨s.kind, s.L, true, if 0 ≤ o.a ∧ o.a ≤ 2 then o.a else s.eng⟩, 0) else
  if s.kind ≤ 1 then oneS s o else if s.kind ≤ 3 then listS s o else if s.kind = 4 then storeO s o else ledgerS s o

/-- The state is what the document's step makes of it. -/
theorem storeO_state (s : St) (o : Opn) : (storeO s o).1 = (storeS s o).1 := by
  unfold storeO storeS
  by_cases h1 : o.a < 0 ∨ 255 < o.a
  · rw [if_pos h1]
    split
    · rfl
    · first | rfl | (rw [if_pos h1])
  · rw [if_neg h1, if_neg h1]

theorem stepO_state (s : St) (o : Opn) : (stepO s o).1 = (stepS s o).1 := by
  unfold stepO stepS
  split
  · rfl
  split
  · rfl
  split
  · rfl
  split
  · rfl
  split
  · rfl
  split
  · exact storeO_state s o
  · rfl

/-- So is the answer, but for operations that a store does not know, on what is no key. -/
theorem stepO_eq (s : St) (o : Opn) (h : s.kind ≠ 4 ∨ s.shut = true ∨ o.code = 10 ∨ o.code = 5 ∨ o.code = 6 ∨ o.code = 7 ∨ (0 ≤ o.a ∧ o.a ≤ 255)) : stepO s o = stepS s o := by
  unfold stepO stepS
  split
  · rfl
  split
  · rfl
  split
  · rfl
  split
  · rfl
  split
  · rfl
  split
  · rename_i hm hs hc _ _ hk
    unfold storeO storeS
    rcases h with h | h | h | h | h | h | h
    · exact absurd hk h
    · exact absurd h hs
    · exact absurd h hc
    · rw [if_neg (show ¬ (o.code ≠ 7 ∧ o.code ≠ 6 ∧ o.code ≠ 5) by omega), if_neg (show ¬ (o.code ≠ 7 ∧ o.code ≠ 6 ∧ o.code ≠ 5) by omega)]
    · rw [if_neg (show ¬ (o.code ≠ 7 ∧ o.code ≠ 6 ∧ o.code ≠ 5) by omega), if_neg (show ¬ (o.code ≠ 7 ∧ o.code ≠ 6 ∧ o.code ≠ 5) by omega)]
    · rw [if_neg (show ¬ (o.code ≠ 7 ∧ o.code ≠ 6 ∧ o.code ≠ 5) by omega), if_neg (show ¬ (o.code ≠ 7 ∧ o.code ≠ 6 ∧ o.code ≠ 5) by omega)]
    · rw [if_neg (show ¬ (o.a < 0 ∨ 255 < o.a) by omega), if_neg (show ¬ (o.a < 0 ∨ 255 < o.a) by omega)]
  · rfl

theorem stepO_not {s : St} (h : ¬ MayS s) (o : Opn) : stepO s o = (s, 0) := by
  unfold stepO
  rw [if_pos h]

theorem stepO_shut {s : St} (h : MayS s) (hs : s.shut = true) (o : Opn) : stepO s o = (s, -1125899906842624) := by
  unfold stepO
  rw [if_neg (fun e => e h), if_pos hs]

theorem stepO_may {s : St} (h : MayS s) (o : Opn) : MayS (stepO s o).1 := by rw [stepO_state]; exact step_may h o
theorem stepO_kind (s : St) (o : Opn) : (stepO s o).1.kind = s.kind := by rw [stepO_state]; exact step_kind s o
theorem stepO_shut' {s : St} (h : MayS s) (o : Opn) : (stepO s o).1.shut = (s.shut || decide (o.code = 10)) := by rw [stepO_state]; exact step_shut' h o

/-- A state behind operations, and what came of each, as it landed. -/
def foldO : St → List Opn → St × List Int
  | s, [] => (s, [])
  | s, o :: r => ((foldO (stepO s o).1 r).1, (stepO s o).2 :: (foldO (stepO s o).1 r).2)

theorem foldO_snoc : ∀ (l : List Opn) (s : St) (o : Opn), foldO s (l ++ [o]) = ((stepO (foldO s l).1 o).1, (foldO s l).2 ++ [(stepO (foldO s l).1 o).2])
  | [], _, _ => rfl
  | p :: r, s, o => by
    rw [List.cons_append, foldO, foldO_snoc r (stepO s p).1 o, foldO]
    rfl

end Go.Proofs.Ytgpdbboieokldaa

/- A snapshot behind records, over plain lists, and what follows. -/
namespace Go.Proofs.Ytgpdbboieokldaa

/-- A snapshot behind one record that fits. -/
def nextN (s : Snap) (r : Rec) : Snap := ⟨s.idx + 1, (stepO s.st r.op).1, noteL s.tab ⟨r.proc, r.seq, (stepO s.st r.op).2⟩⟩

/-- A snapshot behind records, or the first error. -/
def takeN : Snap → List Rec → Snap × Int
  | s, [] => (s, 0)
  | s, r :: l => if r.idx ≠ s.idx then (zeroN, 15) else if ¬ FitsR r then (zeroN, 1) else takeN (nextN s r) l

theorem takeN_err : ∀ (l : List Rec) (s : Snap), (takeN s l).2 ≠ 0 → takeN s l = (zeroN, (takeN s l).2)
  | [], s, h => absurd rfl h
  | r :: l, s, h => by
    rw [takeN] at h ⊢
    split
    · rfl
    · rename_i h1
      rw [if_neg h1] at h
      split
      · rfl
      · rename_i h2
        rw [if_neg h2] at h
        exact takeN_err l _ h

theorem takeN_app : ∀ (a b : List Rec) (s : Snap), takeN s (a ++ b) = if (takeN s a).2 = 0 then takeN (takeN s a).1 b else takeN s a
  | [], b, s => by simp [takeN]
  | r :: a, b, s => by
    rw [List.cons_append, takeN, takeN]
    by_cases h1 : r.idx ≠ s.idx
    · rw [if_pos h1, if_pos h1, if_neg (by simp)]
    · rw [if_neg h1, if_neg h1]
      by_cases h2 : ¬ FitsR r
      · rw [if_pos h2, if_pos h2, if_neg (by simp)]
      · rw [if_neg h2, if_neg h2]
        exact takeN_app a b _

theorem takeN_cut {s : Snap} {l : List Rec} (k : Nat) (h : (takeN s l).2 = 0) : (takeN s (l.take k)).2 = 0 ∧ takeN (takeN s (l.take k)).1 (l.drop k) = takeN s l := by
  have e := takeN_app (l.take k) (l.drop k) s
  rw [List.take_append_drop] at e
  by_cases h0 : (takeN s (l.take k)).2 = 0
  · rw [if_pos h0] at e
    exact ⟨h0, e.symm⟩
  · rw [if_neg h0] at e
    rw [e] at h
    exact absurd h h0

theorem takeN_cut_err {s : Snap} {l : List Rec} (k : Nat) : (takeN s (l.take k)).2 = 0 ∨ (takeN s (l.take k)).2 = (takeN s l).2 := by
  have e := takeN_app (l.take k) (l.drop k) s
  rw [List.take_append_drop] at e
  by_cases h0 : (takeN s (l.take k)).2 = 0
  · exact .inl h0
  · rw [if_neg h0] at e
    exact .inr (by rw [e])

theorem takeN_state : ∀ (l : List Rec) (s : Snap), (takeN s l).2 = 0 → (takeN s l).1.st = (foldO s.st (l.map (fun r => r.op))).1 ∧ (takeN s l).1.idx = s.idx + l.length
  | [], s, _ => by simp [takeN, foldO]
  | r :: l, s, h => by
    rw [takeN] at h ⊢
    by_cases h1 : r.idx ≠ s.idx
    · rw [if_pos h1] at h
      exact absurd h (by decide)
    rw [if_neg h1] at h ⊢
    by_cases h2 : ¬ FitsR r
    · rw [if_pos h2] at h
      exact absurd h (by decide)
    rw [if_neg h2] at h ⊢
    obtain ⟨i1, i2⟩ := takeN_state l (nextN s r) h
    rw [i1, i2, List.map_cons, foldO]
    refine ⟨rfl, ?_⟩
    show s.idx + 1 + _ = _
    rw [List.length_cons]
    omega

theorem takeN_few : ∀ (l : List Rec) (s : Snap), (takeN s l).2 = 0 → (takeN s l).1.tab.length ≤ s.tab.length + l.length
  | [], s, _ => by simp [takeN]
  | r :: l, s, h => by
    rw [takeN] at h ⊢
    by_cases h1 : r.idx ≠ s.idx
    · rw [if_pos h1] at h
      exact absurd h (by decide)
    rw [if_neg h1] at h ⊢
    by_cases h2 : ¬ FitsR r
    · rw [if_pos h2] at h
      exact absurd h (by decide)
    rw [if_neg h2] at h ⊢
    have i1 := takeN_few l (nextN s r) h
    have i2 := noteL_len s.tab ⟨r.proc, r.seq, (stepO s.st r.op).2⟩
    have e : (nextN s r).tab = noteL s.tab ⟨r.proc, r.seq, (stepO s.st r.op).2⟩ := rfl
    rw [e] at i1
    rw [List.length_cons]
    omega

end Go.Proofs.Ytgpdbboieokldaa

/- What changes a snapshot into a later one, over plain lists: told, and applied, it makes the later one. -/
namespace Go.Proofs.Ytgpdbboieokldaa

/-- Has the later table each process of the elder one? -/
def Covers (a b : List Ent) : Prop := ∀ x ∈ a, ∃ y ∈ b, y.proc = x.proc

instance (a b : List Ent) : Decidable (Covers a b) := by unfold Covers; infer_instance

def diffD (a b : Snap) : Delt × Int :=
  if ¬ MayN a ∨ ¬ MayN b ∨ a.st.kind ≠ b.st.kind then (zeroD, 1)
  else if b.idx < a.idx ∨ ¬ Covers a.tab b.tab then (zeroD, 15)
  else (⟨a.idx, b.idx, (preL a.st.L b.st.L : Nat), (sufL a.st.L b.st.L : Nat), midL a.st.L b.st.L, b.st.shut, b.st.eng, diffT a.tab b.tab⟩, 0)

/-- The snapshot that a delta makes, whether it may be or not. -/
def madeD (a : Snap) (d : Delt) : Snap := ⟨d.upto, ⟨a.st.kind, a.st.L.take d.ahead.toNat ++ (d.mid ++ a.st.L.drop (a.st.L.length - d.behind.toNat)), d.shut, d.eng⟩, d.tab.foldl noteL a.tab⟩

def applyD (a : Snap) (d : Delt) : Snap × Int :=
  if ¬ MayN a ∨ d.ahead < 0 ∨ d.behind < 0 ∨ (a.st.L.length : Int) < d.ahead + d.behind then (zeroN, 1)
  else if a.idx ≠ d.frm ∨ d.upto < d.frm then (zeroN, 15)
  else if MayN (madeD a d) then (madeD a d, 0) else (zeroN, 1)

theorem applyD_diff {a b : Snap} (h : (diffD a b).2 = 0) : applyD a (diffD a b).1 = (b, 0) := by
  unfold diffD at h ⊢
  by_cases h1 : ¬ MayN a ∨ ¬ MayN b ∨ a.st.kind ≠ b.st.kind
  · rw [if_pos h1] at h
    exact absurd h (by decide)
  rw [if_neg h1] at h ⊢
  by_cases h2 : b.idx < a.idx ∨ ¬ Covers a.tab b.tab
  · rw [if_pos h2] at h
    exact absurd h (by decide)
  rw [if_neg h2]
  have ha : MayN a := Classical.byContradiction fun h => h1 (.inl h)
  have hb : MayN b := Classical.byContradiction fun h => h1 (.inr (.inl h))
  have hk : a.st.kind = b.st.kind := Classical.byContradiction fun h => h1 (.inr (.inr h))
  have hc : Covers a.tab b.tab := Classical.byContradiction fun h => h2 (.inr h)
  have hs := sufL_le a.st.L b.st.L
  have hm : madeD a ⟨a.idx, b.idx, (preL a.st.L b.st.L : Nat), (sufL a.st.L b.st.L : Nat), midL a.st.L b.st.L, b.st.shut, b.st.eng, diffT a.tab b.tab⟩ = b := by
    unfold madeD
    simp only [Int.toNat_natCast]
    rw [diff_apply, diffT_apply ha.2.2.rises hb.2.2.rises hc, hk]
  unfold applyD
  rw [hm]
  simp only
  rw [if_neg, if_neg, if_pos hb]
  · rintro (h | h)
    · exact h rfl
    · exact h2 (.inl h)
  · rintro (h | h | h | h)
    · exact h ha
    · omega
    · omega
    · omega

theorem nums_in {s : St} (h : MayS s) : s.L.length ≤ 128 ∧ ∀ x ∈ s.L, -1099511627776 ≤ x ∧ x ≤ 1099511627776 := by
  obtain ⟨-, -, -, -, -, hn⟩ := h
  have pairs : ∀ {least : Int}, -1099511627776 ≤ least → PairsOk least s.L → s.L.length ≤ 128 ∧ ∀ x ∈ s.L, -1099511627776 ≤ x ∧ x ≤ 1099511627776 := fun hl hp => by
    obtain ⟨p1, p2, p3⟩ := hp
    refine ⟨p2, fun x hx => ?_⟩
    obtain ⟨j, hj, rfl⟩ := List.getElem_of_mem hx
    have e : s.L[j] = s.L.getD j 0 := by simp [List.getD, hj]
    rw [e]
    by_cases he : j % 2 = 0
    · obtain ⟨q1, q2, -⟩ := p3 j hj he
      omega
    · obtain ⟨-, -, -, q4, q5⟩ := p3 (j - 1) (by omega) (by omega)
      rw [show j - 1 + 1 = j by omega] at q4 q5
      omega
  unfold NumsOk at hn
  split at hn
  · exact pairs (Int.le_refl _) hn
  split at hn
  · exact pairs (by decide) hn
  · obtain ⟨q1, -, q3⟩ := hn
    refine ⟨by omega, fun x hx => ?_⟩
    obtain ⟨j, hj, rfl⟩ := List.getElem_of_mem hx
    have e : s.L[j] = s.L.getD j 0 := by simp [List.getD, hj]
    rw [e]
    exact q3 j hj

theorem rises_tabTo {t : List Ent} (hr : Rises t) (hm : ∀ e ∈ t, EntOk e) : TabOk t := by
  intro i hi
  have e1 : t.getD i zeroE = t[i] := by simp [List.getD, hi]
  refine ⟨by rw [e1]; exact hm _ (List.getElem_mem hi), fun h0 => ?_⟩
  have hi1 : i - 1 < t.length := by omega
  have e2 : t.getD (i - 1) zeroE = t[i - 1] := by simp [List.getD, hi1]
  rw [e1, e2]
  exact List.pairwise_iff_getElem.1 hr (i - 1) i hi1 hi (by omega)

theorem diffT_ok {a b : List Ent} (hb : TabOk b) : TabOk (diffT a b) :=
  rises_tabTo (List.Pairwise.filter _ hb.rises) (fun e he => hb.mem e (List.mem_filter.1 he).1)

/-- What is told may be. -/
theorem diffD_may {a b : Snap} (h : (diffD a b).2 = 0) : MayD (diffD a b).1 := by
  unfold diffD at h ⊢
  by_cases h1 : ¬ MayN a ∨ ¬ MayN b ∨ a.st.kind ≠ b.st.kind
  · rw [if_pos h1] at h
    exact absurd h (by decide)
  rw [if_neg h1] at h ⊢
  by_cases h2 : b.idx < a.idx ∨ ¬ Covers a.tab b.tab
  · rw [if_pos h2] at h
    exact absurd h (by decide)
  rw [if_neg h2]
  have ha : MayN a := Classical.byContradiction fun h => h1 (.inl h)
  have hb : MayN b := Classical.byContradiction fun h => h1 (.inr (.inl h))
  have hs := sufL_le a.st.L b.st.L
  obtain ⟨n1, n2⟩ := nums_in hb.2.1
  have hmem : ∀ x ∈ midL a.st.L b.st.L, x ∈ b.st.L := fun x hx => List.mem_of_mem_drop (List.mem_of_mem_take hx)
  have hlen : (midL a.st.L b.st.L).length ≤ b.st.L.length := by
    unfold midL
    rw [List.length_take, List.length_drop]
    omega
  refine ⟨ha.1, hb.1, ⟨by show (0 : Int) ≤ ((preL a.st.L b.st.L : Nat) : Int); omega, by show ((preL a.st.L b.st.L : Nat) : Int) < _; omega⟩, ⟨by show (0 : Int) ≤ ((sufL a.st.L b.st.L : Nat) : Int); omega, by show ((sufL a.st.L b.st.L : Nat) : Int) < _; omega⟩, Nat.le_trans hlen n1, fun x hx => n2 x (hmem x hx), ⟨hb.2.1.1, hb.2.1.2.1⟩, hb.2.1.2.2.1, diffT_ok hb.2.2⟩

/-- A delta to itself changes nothing. -/
theorem preL_self : ∀ a : List Int, preL a a = a.length
  | [] => rfl
  | x :: a => by rw [preL, if_pos rfl, preL_self a, List.length_cons]

theorem diffD_self {a : Snap} (h : MayN a) : diffD a a = (⟨a.idx, a.idx, (a.st.L.length : Nat), 0, [], a.st.shut, a.st.eng, []⟩, 0) := by
  unfold diffD
  rw [if_neg (by rintro (h1 | h1 | h1) <;> exact h1 (by first | exact h | rfl)), if_neg (by
    rintro (h1 | h1)
    · omega
    · exact h1 (fun x hx => ⟨x, hx, rfl⟩))]
  have e1 : sufL a.st.L a.st.L = 0 := by
    unfold sufL
    rw [preL_self, preL_self, List.drop_length]
    rfl
  have e2 : midL a.st.L a.st.L = [] := by
    unfold midL
    rw [preL_self, List.drop_length, List.take_nil]
  have e3 : diffT a.tab a.tab = [] := by
    unfold diffT
    rw [List.filter_eq_nil_iff]
    intro x hx
    simp [hx]
  rw [e1, e2, e3, preL_self]
  rfl

/-- Behind records each process that was noted is. -/
theorem takeN_covers : ∀ (l : List Rec) (s : Snap), (takeN s l).2 = 0 → Covers s.tab (takeN s l).1.tab
  | [], s, _ => fun x hx => ⟨x, hx, rfl⟩
  | r :: l, s, h => by
    rw [takeN] at h ⊢
    by_cases h1 : r.idx ≠ s.idx
    · rw [if_pos h1] at h
      exact absurd h (by decide)
    rw [if_neg h1] at h ⊢
    by_cases h2 : ¬ FitsR r
    · rw [if_pos h2] at h
      exact absurd h (by decide)
    rw [if_neg h2] at h ⊢
    intro x hx
    have ih := takeN_covers l (nextN s r) h
    by_cases hp : x.proc = r.proc
    · obtain ⟨y, hy, hyp⟩ := ih ⟨r.proc, r.seq, (stepO s.st r.op).2⟩ ((noteG_mem _ _ _ _).2 (.inl ⟨rfl, rfl⟩))
      exact ⟨y, hy, hyp.trans hp.symm⟩
    · exact ih x ((noteG_mem _ _ _ _).2 (.inr ⟨hx, hp⟩))

end Go.Proofs.Ytgpdbboieokldaa

/- copy and clear over elements of more than one cell. -/
namespace Go.Proofs.Ytgpdbboieokldaa

theorem run_copy_many {P : Program} (w : World) (dT sT ty elem : TypeId) (k : Nat) (b o dLen dCap : Nat) (a : Addr) (sLen sCap : Nat) (cs : List Value)
    (hu : P.underlying dT = some (.slice elem)) (hs : (P.info? elem).map (·.size) = some k) (hn : cs.length = Nat.min sLen dLen * k)
    (hsrc : ∀ j v, cs[j]? = some v → w.cell? (a.add j) = some v) (hc : ∀ j, j < cs.length → (w.cell? ⟨b, o + j, none⟩).isSome = true) (hf : ∀ j, j < cs.length → w.frozen? ⟨b, o + j, none⟩ = false) (h1 : ∀ v ∈ cs, v.oneCell' = true) :
    (Builtin.copy_ #[dT, sT] ty #[.slice (some ⟨b, o, none⟩) dLen dCap, .slice (some a) sLen sCap]).run P w = .ok (goInt (Nat.min sLen dLen)) (w.setCells b o cs) := by
  have hl := run_loadCells_list (P := P) w a cs hsrc
  have hst := run_storeCells_cells (P := P) b o cs 0 w (by simpa using hc) (by simpa using hf) h1
  cases hq : P.info? elem with
  | none => simp [hq] at hs
  | some i =>
    have hi : i.size = k := by simpa [hq] using hs
    rw [hn] at hl
    simp [Builtin.copy_, run_underlying hu, Builtin.lenOf, Builtin.firstCells, sizeOf, typeInfo, hq, hi, hl, hst]

/-- The zero cells of so many elements. -/
def zeros3 : Nat → List Value
  | 0 => []
  | n + 1 => .int .i64 0 :: .int .i64 0 :: .int .i64 0 :: zeros3 n

theorem zeros3_length : ∀ n, (zeros3 n).length = n * 3
  | 0 => rfl
  | n + 1 => by rw [zeros3, List.length_cons, List.length_cons, List.length_cons, zeros3_length n]; omega

theorem zeros3_mem : ∀ n, ∀ v ∈ zeros3 n, v = .int .i64 0
  | 0, v, h => by simp [zeros3] at h
  | n + 1, v, h => by
    rw [zeros3, List.mem_cons, List.mem_cons, List.mem_cons] at h
    rcases h with h | h | h | h
    · exact h
    · exact h
    · exact h
    · exact zeros3_mem n v h

theorem zeroCells3 (n : Nat) : (Builtin.zeroCells (Value.agg #[.int .i64 0, .int .i64 0, .int .i64 0]).cells n).toList = zeros3 n := by
  have hsz : (Value.agg #[.int .i64 0, .int .i64 0, .int .i64 0]).cells = #[.int .i64 0, .int .i64 0, .int .i64 0] := by rfl
  rw [hsz]
  apply List.ext_getElem?
  intro i
  by_cases h : i < n * 3
  · have h2 : i < (zeros3 n).length := by rw [zeros3_length]; exact h
    have h3 : (zeros3 n)[i]? = some (.int .i64 0) := by
      rw [List.getElem?_eq_getElem h2, zeros3_mem n _ (List.getElem_mem h2)]
    rw [h3]
    have hm : i % 3 = 0 ∨ i % 3 = 1 ∨ i % 3 = 2 := by omega
    simp only [Builtin.zeroCells, Array.getElem?_toList, Array.getElem?_map]
    have h4 : (Array.range (n * (#[Value.int .i64 0, .int .i64 0, .int .i64 0] : Array Value).size))[i]? = some i := by simp [h]
    rw [h4]
    have h5 : (#[Value.int .i64 0, .int .i64 0, .int .i64 0] : Array Value).size = 3 := rfl
    rw [h5]
    rcases hm with e | e | e <;> rw [Option.map_some, e] <;> rfl
  · rw [List.getElem?_eq_none (by simp [Builtin.zeroCells]; omega), List.getElem?_eq_none (by rw [zeros3_length]; omega)]

theorem run_clear_three {P : Program} (w : World) (t e ty : TypeId) (ht : P.underlying t = some (.slice e)) (hv : ∀ w, (zeroValue e).run P w = .ok (.agg #[.int .i64 0, .int .i64 0, .int .i64 0]) w) (b o n c : Nat) (hn : 0 < n)
    (hc : ∀ j, j < n * 3 → (w.cell? ⟨b, o + j, none⟩).isSome = true) (hf : ∀ j, j < n * 3 → w.frozen? ⟨b, o + j, none⟩ = false) :
    (Builtin.clear_ #[t] ty #[.slice (some ⟨b, o, none⟩) n c]).run P w = .ok (.tuple #[]) (w.setCells b o (zeros3 n)) := by
  have hst := run_storeCells_cells (P := P) b o (zeros3 n) 0 w (by rw [zeros3_length]; simpa using hc) (by rw [zeros3_length]; simpa using hf) (by intro v hv'; rw [zeros3_mem n v hv']; rfl)
  simp only [Nat.add_zero] at hst
  obtain ⟨m, rfl⟩ : ∃ m, n = m + 1 := ⟨n - 1, by omega⟩
  simp [Builtin.clear_, run_underlying ht, hv, zeroCells3, hst]

theorem run_clear_no {P : Program} (w : World) (t e ty : TypeId) (ht : P.underlying t = some (.slice e)) (a : Option Addr) (c : Nat) :
    (Builtin.clear_ #[t] ty #[.slice a 0 c]).run P w = .ok (.tuple #[]) w := by
  cases a <;> simp [Builtin.clear_, run_underlying ht]

end Go.Proofs.Ytgpdbboieokldaa

/- The library's slices.Equal, Clone, Delete, Insert over int, laid: their contracts hold of this program. -/
namespace Go.Proofs.Ytgpdbboieokldaa
open Go.RowKit Go.Shelf

def layE_ren : Go.Shelf.Ren := ⟨fun | 111 => 41 | n => n, fun | 28 => 22 | 3 => 3 | 4 => 4 | 0 => 0 | n => n, fun | n => n⟩

theorem layE : Go.Proofs.Lays.n111 Try.prog layE_ren := {
  mixed := by kernel_rfl
  f111 := Try.func41.trans (congrArg some (by kernel_rfl))
  t0 := Try.underlying0
  a0 := Try.isAgg0
  z0 := Try.sizeOf0
  v0 := Try.zeroValue0
  t3 := Try.underlying3
  a3 := Try.isAgg3
  z3 := Try.sizeOf3
  v3 := Try.zeroValue3
  t4 := Try.underlying4
  a4 := Try.isAgg4
  z4 := Try.sizeOf4
  v4 := Try.zeroValue4
  t28 := Try.underlying22
  a28 := Try.isAgg22
  z28 := Try.sizeOf22
  v28 := Try.zeroValue22 }

def layM15_ren : Go.Shelf.Ren := ⟨fun | 15 => 27 | n => n, fun | 22 => 22 | 3 => 3 | 4 => 4 | n => n, fun | n => n⟩

theorem layM15 : Go.Proofs.Lays2.n15 Try.prog layM15_ren := {
  mixed := by kernel_rfl
  f15 := Try.func27.trans (congrArg some (by kernel_rfl))
  t3 := Try.underlying3
  a3 := Try.isAgg3
  z3 := Try.sizeOf3
  v3 := Try.zeroValue3
  t4 := Try.underlying4
  a4 := Try.isAgg4
  z4 := Try.sizeOf4
  v4 := Try.zeroValue4
  t22 := Try.underlying22
  a22 := Try.isAgg22
  z22 := Try.sizeOf22
  v22 := Try.zeroValue22
  i3 := by kernel_rfl }

def layM23_ren : Go.Shelf.Ren := ⟨fun | 23 => 125 | n => n, fun | 22 => 22 | 3 => 3 | 4 => 4 | 0 => 0 | n => n, fun | n => n⟩

theorem layM23 : Go.Proofs.Lays2.n23 Try.prog layM23_ren := {
  mixed := by kernel_rfl
  f23 := Try.func125.trans (congrArg some (by kernel_rfl))
  t0 := Try.underlying0
  a0 := Try.isAgg0
  z0 := Try.sizeOf0
  v0 := Try.zeroValue0
  t3 := Try.underlying3
  a3 := Try.isAgg3
  z3 := Try.sizeOf3
  v3 := Try.zeroValue3
  t4 := Try.underlying4
  a4 := Try.isAgg4
  z4 := Try.sizeOf4
  v4 := Try.zeroValue4
  t22 := Try.underlying22
  a22 := Try.isAgg22
  z22 := Try.sizeOf22
  v22 := Try.zeroValue22
  i3 := by kernel_rfl }

def layM21_ren : Go.Shelf.Ren := ⟨fun | 21 => 127 | 27 => 129 | 28 => 130 | 35 => 131 | 39 => 132 | n => n, fun | 22 => 22 | 3 => 3 | 4 => 4 | 0 => 0 | n => n, fun | n => n⟩

theorem layM21 : Go.Proofs.Lays2.n21 Try.prog layM21_ren := {
  mixed := by kernel_rfl
  f21 := Try.func127.trans (congrArg some (by kernel_rfl))
  f27 := Try.func129.trans (congrArg some (by kernel_rfl))
  f28 := Try.func130.trans (congrArg some (by kernel_rfl))
  f35 := Try.func131.trans (congrArg some (by kernel_rfl))
  f39 := Try.func132.trans (congrArg some (by kernel_rfl))
  t0 := Try.underlying0
  a0 := Try.isAgg0
  z0 := Try.sizeOf0
  v0 := Try.zeroValue0
  t3 := Try.underlying3
  a3 := Try.isAgg3
  z3 := Try.sizeOf3
  v3 := Try.zeroValue3
  t4 := Try.underlying4
  a4 := Try.isAgg4
  z4 := Try.sizeOf4
  v4 := Try.zeroValue4
  t22 := Try.underlying22
  a22 := Try.isAgg22
  z22 := Try.sizeOf22
  v22 := Try.zeroValue22
  i3 := by kernel_rfl }

end Go.Proofs.Ytgpdbboieokldaa

/- Contracts over int of slices.Clone, Equal, Delete, Insert, in the words of RdI and OwnI; a number written into a row of one's own. -/
namespace Go.Proofs.Ytgpdbboieokldaa
open Go.RowKit

/-- Cells of a row, some of them written anew. -/
def layC (cur : Array Value) : Nat → List Value → Array Value
  | _, [] => cur
  | o, v :: r => layC (cur.setIfInBounds o v) (o + 1) r

theorem layC_size : ∀ (vs : List Value) (o : Nat) (cur : Array Value), (layC cur o vs).size = cur.size
  | [], _, _ => rfl
  | v :: r, o, cur => by rw [layC, layC_size r]; simp

theorem layC_get : ∀ (vs : List Value) (o : Nat) (cur : Array Value) (j : Nat), j < cur.size → (layC cur o vs)[j]? = if o ≤ j ∧ j < o + vs.length then vs[j - o]? else cur[j]?
  | [], o, cur, j, _ => by
    rw [layC, if_neg (by rw [List.length_nil]; omega)]
  | v :: r, o, cur, j, hj => by
    rw [layC, layC_get r (o + 1) _ j (by simpa using hj)]
    by_cases h : j = o
    · subst h
      rw [if_neg (by omega), if_pos (by simp)]
      simp [hj]
    · by_cases h2 : o + 1 ≤ j ∧ j < o + 1 + r.length
      · rw [if_pos h2, if_pos (by simp; omega)]
        rw [show j - o = (j - (o + 1)) + 1 by omega]
        simp
      · rw [if_neg h2, if_neg (by simp; omega)]
        simp [show ¬ o = j by omega]

theorem heap_setCells (g : Nat) (t : TypeId) : ∀ (vs : List Value) (o : Nat) (w : World) (cur : Array Value), w.heap[g]? = some (.cells cur t (0, 0)) → (w.setCells g o vs).heap[g]? = some (.cells (layC cur o vs) t (0, 0))
  | [], _, _, _, h => h
  | v :: r, o, w, cur, h => by
    rw [World.setCells, layC]
    exact heap_setCells g t r (o + 1) _ _ (heap_setCell_same w g o cur t v h)

theorem belowCells {B g : Nat} {a : World} (hg : B ≤ g) : ∀ (vs : List Value) (o : Nat) (w : World), Below B a w → Below B a (w.setCells g o vs)
  | [], _, _, h => h
  | v :: r, o, w, h => by
    rw [World.setCells]
    exact belowCells hg r (o + 1) _ (h.setCell hg v)

theorem belowDrew {B : Nat} {a w : World} (h : Below B a w) : Below B a w.drew := ⟨h.os, h.tape, h.output, h.size, h.block⟩

/-- Numbers of one's own, by their cells. -/
theorem OwnI.ofRow {w : World} {B g cap : Nat} {cur : Array Value} {l : List Int} (hB : B ≤ g) (hg : w.heap[g]? = some (.cells cur 3 (0, 0))) (hn : l.length ≤ cap) (hm : cap ≤ maxLen) (hs : cur.size = cap) (hc : ∀ j, j < l.length → cur[j]? = some (.int .i64 (l.getD j 0))) :
    OwnI w B (.slice (some ⟨g, 0, none⟩) l.length cap) l := by
  refine ⟨by rw [intCells_length, Nat.mul_one], .inr ⟨g, cap, cur, rfl, hB, hg, hn, hm, by rw [hs, Nat.mul_one], ?_⟩⟩
  apply List.ext_getElem?
  intro j
  rw [Nat.mul_one]
  by_cases hj : j < l.length
  · rw [List.getElem?_take_of_lt hj, intCells_get l j hj, Array.getElem?_toList]
    exact hc j hj
  · rw [List.getElem?_eq_none (by simp; omega), List.getElem?_eq_none (by rw [intCells_length]; omega)]

theorem OwnI.ofRowN {w : World} {B g cap n : Nat} {cur : Array Value} {l : List Int} (hnl : n = l.length) (hB : B ≤ g) (hg : w.heap[g]? = some (.cells cur 3 (0, 0))) (hn : l.length ≤ cap) (hm : cap ≤ maxLen) (hs : cur.size = cap) (hc : ∀ j, j < l.length → cur[j]? = some (.int .i64 (l.getD j 0))) :
    OwnI w B (.slice (some ⟨g, 0, none⟩) n cap) l := by
  subst hnl
  exact OwnI.ofRow hB hg hn hm hs hc

/-- The row of numbers of one's own. -/
theorem OwnI.row {w : World} {B : Nat} {v : Value} {l : List Int} (h : OwnI w B v l) : (v = .slice none 0 0 ∧ l = []) ∨ ∃ g cap cur, v = .slice (some ⟨g, 0, none⟩) l.length cap ∧ B ≤ g ∧ g < w.heap.size ∧ w.heap[g]? = some (.cells cur 3 (0, 0)) ∧ l.length ≤ cap ∧ cap ≤ maxLen ∧ cur.size = cap ∧ ∀ j, j < l.length → cur[j]? = some (.int .i64 (l.getD j 0)) := by
  rcases h.2 with ⟨h1, h2⟩ | ⟨g, cap, cur, h1, h2, h3, h4, h5, h6, h7⟩
  · exact .inl ⟨h1, List.eq_nil_of_length_eq_zero h2⟩
  · refine .inr ⟨g, cap, cur, h1, h2, (Array.getElem?_eq_some_iff.1 h3).1, h3, h4, h5, by rw [h6, Nat.mul_one], fun j hj => ?_⟩
    have e := intCells_get l j hj
    rw [← h7, Nat.mul_one, List.getElem?_take_of_lt hj, Array.getElem?_toList] at e
    exact e

theorem drewN_heap (w : World) (q : Nat) : (w.drewN q).heap = w.heap := by
  induction q generalizing w with
  | zero => rfl
  | succ n ih => exact ih _

theorem OwnI.drewN {w : World} {B : Nat} {v : Value} {l : List Int} (h : OwnI w B v l) (q : Nat) : OwnI (w.drewN q) B v l := by
  unfold OwnI World.ownsRow
  rw [drewN_heap]
  exact h

/-- From one world to another nothing that was there is changed but the row of v; v' lies in that row, or in a new one. -/
structure Mv (w w' : World) (v v' : Value) : Prop where
  grown : w.grownBy w' v.ownBlock
  lies : ∀ b, v'.ownBlock = some b → v.ownBlock = some b ∨ w.heap.size ≤ b

theorem Mv.size {w w' : World} {v v' : Value} (h : Mv w w' v v') : w.heap.size ≤ w'.heap.size := h.grown.size

theorem Mv.ofBelow {w w' : World} (h : Below w.heap.size w w') (v : Value) : Mv w w' v v := ⟨⟨h.os, h.tape, h.output, h.size, fun k hk _ => h.block k hk⟩, fun _ hb => .inl hb⟩

theorem Mv.refl (w : World) (v : Value) : Mv w w v v := Mv.ofBelow (Below.refl _ _) v

theorem Mv.alloc (w : World) (v : Value) (X : Obj) : Mv w (w.alloc X) v v := Mv.ofBelow ((Below.refl _ _).alloc (Nat.le_refl _) X) v

theorem Mv.trans {w w1 w2 : World} {v v1 v2 : Value} (h1 : Mv w w1 v v1) (h2 : Mv w1 w2 v1 v2) : Mv w w2 v v2 := by
  have hs := h1.size
  refine ⟨⟨h2.grown.os.trans h1.grown.os, h2.grown.tape.trans h1.grown.tape, h2.grown.output.trans h1.grown.output, Nat.le_trans hs h2.size, fun k hk hne => ?_⟩, fun b hb => ?_⟩
  · rw [h2.grown.block k (by omega) (fun e => ?_)]
    · exact h1.grown.block k hk hne
    · rcases h1.lies k e.symm with h | h
      · exact hne h.symm
      · omega
  · rcases h2.lies b hb with h | h
    · exact h1.lies b h
    · exact .inr (by omega)

theorem Mv.drew {w w' : World} {v v' : Value} (h : Mv w w' v v') : Mv w w'.drew v v' := ⟨⟨h.grown.os, h.grown.tape, h.grown.output, h.grown.size, h.grown.block⟩, h.lies⟩

theorem Mv.below {w w' : World} {v v' : Value} (h : Mv w w' v v') {B : Nat} {l : List Int} (ho : OwnI w B v l) (hB : B ≤ w.heap.size) : Below B w w' :=
  ⟨h.grown.os, h.grown.tape, h.grown.output, h.size, fun k hk => h.grown.block k (by omega) (fun e => by have := (World.ownsRow.lt ho k e.symm).1; omega)⟩

theorem Mv.app {w w' : World} {v v' : Value} {N : Nat} (h : w.grownBy w' v.ownBlock) (hN : w.heap.size = N) (h2 : v'.ownBlock = v.ownBlock ∨ ∃ g, v'.ownBlock = some g ∧ N ≤ g) : Mv w w' v v' := by
  refine ⟨h, fun b hb => ?_⟩
  rcases h2 with h2 | ⟨g, h2, h3⟩
  · exact .inl (by rw [← h2]; exact hb)
  · rw [h2] at hb
    injection hb with hb
    exact .inr (by omega)

theorem setCells_other (g : Nat) : ∀ (vs : List Value) (o : Nat) (w : World) (k : Nat), k ≠ g → (w.setCells g o vs).heap[k]? = w.heap[k]?
  | [], _, _, _, _ => rfl
  | v :: r, o, w, k, h => by
    rw [World.setCells, setCells_other g r (o + 1) _ k h]
    exact Below.heap_setCell _ _ _ _ h

/-- Cells of the row are written. -/
theorem Mv.cells {w w' : World} {v : Value} {g n c n' c' : Nat} (h : Mv w w' v (.slice (some ⟨g, 0, none⟩) n c)) (o : Nat) (vs : List Value) : Mv w (w'.setCells g o vs) v (.slice (some ⟨g, 0, none⟩) n' c') := by
  have hb := belowCells (B := 0) (g := g) (a := w') (Nat.zero_le _) vs o w' (Below.refl _ _)
  refine ⟨⟨hb.os.trans h.grown.os, hb.tape.trans h.grown.tape, hb.output.trans h.grown.output, Nat.le_trans h.size hb.size, fun k hk hne => ?_⟩, fun b hb => h.lies b hb⟩
  rw [setCells_other g vs o w' k (fun e => ?_)]
  · exact h.grown.block k hk hne
  · rcases h.lies g rfl with h' | h'
    · exact hne (by rw [e, h'])
    · omega

/-- A new row. -/
theorem Mv.made {w w' : World} {v v0 : Value} (h : Mv w w' v v0) (X : Obj) (n c : Nat) : Mv w (w'.alloc X) v (.slice (some ⟨w'.heap.size, 0, none⟩) n c) := by
  have hb := (Below.refl w'.heap.size w').alloc (Nat.le_refl _) X
  refine ⟨⟨hb.os.trans h.grown.os, hb.tape.trans h.grown.tape, hb.output.trans h.grown.output, Nat.le_trans h.size hb.size, fun k hk hne => ?_⟩, fun b hb => .inr ?_⟩
  · rw [hb.block k (by have := h.size; omega)]
    exact h.grown.block k hk hne
  · have := ownBlock_is hb
    have := h.size
    omega

theorem Mv.drewN {w w' : World} {v v' : Value} (h : Mv w w' v v') (q : Nat) : Mv w (w'.drewN q) v v' := by
  have hb := below_drewN (Below.refl 0 w') q
  exact ⟨⟨hb.os.trans h.grown.os, hb.tape.trans h.grown.tape, hb.output.trans h.grown.output, Nat.le_trans h.size hb.size, fun k hk hne => by rw [drewN_heap]; exact h.grown.block k hk hne⟩, h.lies⟩

/-- One of one's own numbers is written. -/
theorem OwnI.put {w : World} {B : Nat} {v : Value} {l : List Int} (h : OwnI w B v l) (j : Nat) (hj : j < l.length) (n : Int) :
    ∃ g cap, v = .slice (some ⟨g, 0, none⟩) l.length cap ∧ w.cell? ⟨g, j, none⟩ = some (.int .i64 (l.getD j 0)) ∧ w.frozen? ⟨g, j, none⟩ = false ∧ B ≤ g ∧ g < w.heap.size ∧ OwnI (w.setCell ⟨g, j, none⟩ (.int .i64 n)) B v (l.set j n) ∧ Mv w (w.setCell ⟨g, j, none⟩ (.int .i64 n)) v v := by
  rcases h.row with ⟨_, h2⟩ | ⟨g, cap, cur, rfl, h2, hlt, h3, h4, h5, h6, h7⟩
  · subst h2; simp at hj
  · refine ⟨g, cap, rfl, ?_, frozen_of_row w g j _ _ h3, h2, hlt, ?_, (Mv.refl w (.slice (some ⟨g, 0, none⟩) l.length cap)).cells j [_]⟩
    · rw [cell_of_row w g j _ _ _ h3]
      exact h7 j hj
    · have e : l.length = (l.set j n).length := by simp
      rw [e]
      refine OwnI.ofRow h2 (heap_setCell_same w g j _ _ _ h3) (by rw [← e]; exact h4) h5 (by simpa using h6) (fun i hi => ?_)
      rw [← e] at hi
      by_cases hij : i = j
      · subst hij
        have : i < cur.size := by omega
        simp [this, List.getD, hi]
      · have hne : ¬ j = i := fun h => hij h.symm
        have := h7 i hi
        simp [hne, this, List.getD]

/-- Clone. -/
theorem cloneI_any (v : Value) (l : List Int) (w : World) (hr : RdI w v l) (hlim : l.length ≤ 1000000) :
    Calls Try.prog 27 #[v] w fun e w' => ∃ v', e = .returned v' ∧ OwnI w' w.heap.size v' l ∧ Below w.heap.size w w' := by
  obtain ⟨ao, cap, rfl, hlc, hcm, hn0, hi, hao⟩ := hr
  cases ao with
  | none =>
    have hc := hn0 rfl
    have hl : l = [] := List.eq_nil_of_length_eq_zero (by omega)
    subst hl
    refine Calls.mono (Any.slices_Clone_int_nil layM15 _ cap w) ?_
    rintro e w' ⟨rfl, rfl⟩
    exact ⟨_, rfl, OwnI.nil _ _, Below.refl _ _⟩
  | some a =>
    by_cases hl : l = []
    · subst hl
      refine Calls.mono (Any.slices_Clone_int_zero layM15 a cap w) ?_
      rintro e w' ⟨v', rfl, ho, _, hb⟩
      exact ⟨v', rfl, ho, hb⟩
    · rcases hao with hao | ⟨b, off, hab, hc⟩
      · exact absurd hao hl
      · injection hab with hab
        subst hab
        refine Calls.mono (Any.slices_Clone_int layM15 b off l.length cap l w (Nat.le_refl _) (by omega) hc) ?_
        rintro e w' ⟨v', rfl, ho, _, hb⟩
        refine ⟨v', rfl, ?_, hb⟩
        rw [List.take_length] at ho
        exact ho

/-- Equal. -/
theorem equalI_any (va : Value) (A : List Int) (vb : Value) (B : List Int) (w : World) (ha : RdI w va A) (hb : RdI w vb B) :
    Calls Try.prog 41 #[va, vb] w fun e w' => e = .returned (.bool (decide (A = B))) ∧ Below w.heap.size w w' := by
  obtain ⟨ao, cap, rfl, hlc, hcm, hn0, hi, hao⟩ := ha
  obtain ⟨bo, bcap, rfl, hlc', hcm', hn0', hi', hbo⟩ := hb
  by_cases hl : A.length = B.length
  · by_cases h0 : A.length = 0
    · have hA : A = [] := List.eq_nil_of_length_eq_zero h0
      have hB : B = [] := List.eq_nil_of_length_eq_zero (by omega)
      subst hA
      subst hB
      refine Calls.mono (Any.slices_Equal_int_empty layE ao bo cap 0 bcap w (by omega)) ?_
      rintro e w' ⟨rfl, rfl⟩
      exact ⟨rfl, Below.refl _ _⟩
    · rcases hao with hao | ⟨b1, o1, rfl, hc1⟩
      · rw [hao] at h0; simp at h0
      rcases hbo with hbo | ⟨b2, o2, rfl, hc2⟩
      · have e0 : B.length = 0 := by rw [hbo]; rfl
        omega
      have hcm1 : cap ≤ 9223372036854775807 := by unfold maxLen at hcm; omega
      have hcm2 : bcap ≤ 9223372036854775807 := by unfold maxLen at hcm'; omega
      refine Calls.mono (Any.slices_Equal_int layE b1 o1 A.length cap b2 o2 B.length bcap A B w (Nat.le_refl _) (Nat.le_refl _) (by omega) (by omega) hc1 hc2) ?_
      rintro e w' ⟨rfl, q, rfl⟩
      refine ⟨?_, below_drewN (Below.refl _ _) q⟩
      rw [List.take_length, List.take_length]
      by_cases h : A = B
      · rw [decide_eq_true h, beq_iff_eq.2 h]
      · rw [decide_eq_false h, beq_eq_false_iff_ne.2 h]
  · refine Calls.mono (Any.slices_Equal_int_lens layE ao bo A.length cap B.length bcap w hl) ?_
    rintro e w' ⟨rfl, rfl⟩
    exact ⟨by rw [decide_eq_false (fun h => hl (by rw [h]))], Below.refl _ _⟩

/-- Delete, of numbers of one's own. -/
theorem deleteI_any (v : Value) (l : List Int) (B : Nat) (w : World) (ho : OwnI w B v l) (i j : Nat) (hij : i < j) (hj : j ≤ l.length) (I J : Int) (hI : I = i) (hJ : J = j) :
    Calls Try.prog 125 #[v, .int .i64 I, .int .i64 J] w fun e w' => ∃ v', e = .returned v' ∧ OwnI w' B v' (l.take i ++ l.drop j) ∧ Mv w w' v v' := by
  subst hI
  subst hJ
  rcases ho.row with ⟨_, h2⟩ | ⟨g, cap, cur, rfl, hB, hlt, hg, hn, hm, hs, hc⟩
  · subst h2; simp at hj; omega
  · unfold maxLen at hm
    refine Calls.mono (Any.slices_Delete_int_cells layM23 g 0 l.length cap i j l w (Nat.le_refl _) hn (by omega) (by omega) hj
      (fun k hk => by rw [Nat.zero_add, cell_of_row w g k _ _ _ hg]; exact hc k hk) (fun k hk => by rw [Nat.zero_add]; exact frozen_of_row w g k _ _ hg)) ?_
    rintro e w' ⟨rfl, q, rfl⟩
    refine ⟨_, rfl, ?_, ((Mv.refl w (.slice (some ⟨g, 0, none⟩) l.length cap)).drewN q).cells _ _⟩
    have hlen : (l.take i ++ l.drop j).length = l.length - (j - i) := by simp; omega
    rw [← hlen]
    refine OwnI.ofRow hB (heap_setCells g _ _ _ _ cur (by rw [drewN_heap]; exact hg)) (by omega) (by unfold maxLen; omega) (by rw [layC_size]; exact hs) (fun k hk => ?_)
    rw [layC_get _ _ _ _ (by omega), List.take_length, if_pos (by simp at hk ⊢; omega), Nat.sub_zero, List.map_append, List.getElem?_append_left (by simpa using hk)]
    exact intCells_get _ k hk

theorem get3 {α : Type} (A vs : List α) (i : Nat) (hi : i ≤ A.length) (j : Nat) : (A.take i ++ (vs ++ A.drop i))[j]? = if j < i then A[j]? else if j < i + vs.length then vs[j - i]? else A[j - vs.length]? := by
  have hl : (A.take i).length = i := by simp; omega
  by_cases h1 : j < i
  · rw [if_pos h1, List.getElem?_append_left (by omega), List.getElem?_take_of_lt h1]
  · rw [if_neg h1, List.getElem?_append_right (by omega), hl]
    by_cases h2 : j < i + vs.length
    · rw [if_pos h2, List.getElem?_append_left (by omega)]
    · rw [if_neg h2, List.getElem?_append_right (by omega), List.getElem?_drop]
      congr 1
      omega

theorem intCells_append (A B : List Int) : intCells (A ++ B) = intCells A ++ intCells B := by simp [intCells]
theorem intCells_take (A : List Int) (i : Nat) : intCells (A.take i) = (intCells A).take i := by simp [intCells]
theorem intCells_drop (A : List Int) (i : Nat) : intCells (A.drop i) = (intCells A).drop i := by simp [intCells]

theorem ins_cells (l : List Int) (i : Nat) (hi : i ≤ l.length) (x y : Int) (j : Nat) (hj : j < (l.take i ++ ([x, y] ++ l.drop i)).length) :
    some (.int .i64 ((l.take i ++ ([x, y] ++ l.drop i)).getD j 0)) = if j < i then (intCells l)[j]? else if j < i + 2 then [Value.int .i64 x, .int .i64 y][j - i]? else (intCells l)[j - 2]? := by
  rw [← intCells_get _ j hj, intCells_append, intCells_append, intCells_take, intCells_drop]
  exact get3 (intCells l) (intCells [x, y]) i (by rw [intCells_length]; exact hi) j

/-- Insert of two numbers, of numbers of one's own. -/
theorem insertI_any (v : Value) (l : List Int) (B : Nat) (w : World) (ho : OwnI w B v l) (hB : B ≤ w.heap.size) (hlim : l.length ≤ 1000000) (i : Nat) (hi : i ≤ l.length) (I : Int) (hI : I = i) (x y : Int) (N : Nat) (hN : N = w.heap.size) :
    Calls Try.prog 127 #[v, .int .i64 I, .slice (some ⟨N, 0, none⟩) 2 2] (w.alloc (.cells #[.int .i64 x, .int .i64 y] 3)) fun e w' => ∃ v', e = .returned v' ∧ OwnI w' B v' (l.take i ++ ([x, y] ++ l.drop i)) ∧ Mv w w' v v' := by
  subst hI
  subst hN
  have hm0 : Mv w (w.alloc (.cells #[.int .i64 x, .int .i64 y] 3)) v v := Mv.alloc w v _
  have hv := heap_alloc_new w (.cells #[.int .i64 x, .int .i64 y] 3)
  have hsz : (w.alloc (.cells #[.int .i64 x, .int .i64 y] 3)).heap.size = w.heap.size + 1 := by simp
  have hg0 : ∀ k, k < w.heap.size → (w.alloc (.cells #[.int .i64 x, .int .i64 y] 3)).heap[k]? = w.heap[k]? := fun k hk => Below.heap_alloc _ _ _ hk
  generalize w.alloc (.cells #[.int .i64 x, .int .i64 y] 3) = W at *
  have hlen : (l.take i ++ ([x, y] ++ l.drop i)).length = l.length + 2 := by simp; omega
  have hvs : ∀ j u, [Value.int .i64 x, .int .i64 y][j]? = some u → W.cell? ⟨w.heap.size, 0 + j, none⟩ = some u := fun j u hu => by
    rw [Nat.zero_add, cell_of_row W w.heap.size j _ _ _ hv]
    simpa using hu
  have h1v : ∀ u ∈ [Value.int .i64 x, .int .i64 y], u.oneCell' = true := fun u hu => by
    simp at hu
    rcases hu with rfl | rfl <;> rfl
  have hcl := intCells_length l
  have h1c := intCells_one l
  have hz : (Value.int .i64 0).cells.size = 1 := rfl
  have e3 : layM21_ren.t 3 = 3 := rfl
  rcases ho.row with ⟨rfl, rfl⟩ | ⟨g, cap, cur, rfl, hBg, hlt, hg, hn, hm, hs, hc⟩
  · have hi0 : i = 0 := by simpa using hi
    subst hi0
    refine Calls.mono (Any2.slices_Insert_int_end_grow layM21 none 0 0 w.heap.size 0 2 2 [] [.int .i64 x, .int .i64 y] W (by omega) (by omega) (by omega) (by omega) rfl rfl (fun _ => rfl) (fun a ha => by cases ha) hvs h1v) ?_
    rintro e w' ⟨rfl, rfl⟩
    rw [e3]
    have hge := grownCap_ge W (0 + 2) 0 3
    have hle := grownCap_le_maxLen W (0 + 2) 0 3 (by unfold maxLen; omega)
    refine ⟨_, rfl, ?_, hm0.drew.made _ _ _⟩
    have e2 : 0 + 2 = ([x, y] : List Int).length := rfl
    show OwnI _ B (.slice (some ⟨W.heap.size, 0, none⟩) (0 + 2) (grownCap W (0 + 2) 0 3)) [x, y]
    generalize grownCap W (0 + 2) 0 3 = gc at *
    exact OwnI.ofRow (by omega) (heap_alloc_new W.drew _) hge hle (by simp [size_zeroCells, hz]; omega) (fun j hj => by
      have hj' : j = 0 ∨ j = 1 := by simp at hj; omega
      rcases hj' with rfl | rfl <;> (rw [Array.getElem?_append_left (by simp)]; rfl))
  · have hgW : W.heap[g]? = some (.cells cur 3 (0, 0)) := (hg0 g hlt).trans hg
    have hcs : ∀ j u, (intCells l)[j]? = some u → W.cell? ⟨g, 0 + j, none⟩ = some u := fun j u hu => by
      have hj : j < l.length := by rw [← hcl]; exact (List.getElem?_eq_some_iff.1 hu).1
      rw [Nat.zero_add, cell_of_row W g j _ _ _ hgW, hc j hj, ← intCells_get l j hj, hu]
    have hcurj : ∀ j, j < l.length → cur[j]? = (intCells l)[j]? := fun j hj => by rw [hc j hj, intCells_get l j hj]
    have hm' : cap ≤ 9223372036854775807 := by unfold maxLen at hm; omega
    by_cases hroom : l.length + 2 ≤ cap
    · have hsp : ∀ j, j < l.length + 2 → (W.cell? ⟨g, 0 + j, none⟩).isSome = true := fun j hj => by
        rw [Nat.zero_add, cell_of_row W g j _ _ _ hgW, Array.getElem?_eq_getElem (by omega)]
        rfl
      have hfz : ∀ j, j < l.length + 2 → W.frozen? ⟨g, 0 + j, none⟩ = false := fun j hj => frozen_of_row W g _ _ _ hgW
      by_cases he : i = l.length
      · subst he
        refine Calls.mono (Any2.slices_Insert_int_end_room layM21 g 0 l.length cap w.heap.size 0 2 2 [.int .i64 x, .int .i64 y] W (by omega) hroom hm' rfl
          (fun j hj => by rw [Nat.add_assoc]; exact hsp _ (by omega)) (fun j hj => by rw [Nat.add_assoc]; exact hfz _ (by omega)) hvs h1v) ?_
        rintro e w' ⟨rfl, rfl⟩
        refine ⟨_, rfl, ?_, hm0.cells _ _⟩
        rw [← hlen]
        refine OwnI.ofRow hBg (heap_setCells g _ _ _ _ cur hgW) (by omega) hm (by rw [layC_size]; exact hs) (fun j hj => ?_)
        rw [layC_get _ _ _ _ (by omega), ins_cells l l.length (Nat.le_refl _) x y j hj, Nat.zero_add]
        rw [hlen] at hj
        by_cases h1 : j < l.length
        · rw [if_neg (by omega), if_pos h1, hcurj j h1]
        · rw [if_pos (by simp; omega), if_neg h1, if_pos (by omega)]
      · refine Calls.mono (Any2.slices_Insert_int_shift layM21 g 0 l.length cap i w.heap.size 0 2 2 (intCells l) [.int .i64 x, .int .i64 y] W (by omega) (by omega) hroom hm' (by omega) hcl rfl hcs hsp hfz hvs h1c h1v
          3 3 2 cap (by simp [World.shape?, hv]) (by simp [World.shape?, hgW, hs]) (by omega) (frozen_of_row W _ _ _ _ hv) (frozen_of_row W _ _ _ _ hv)) ?_
        rintro e w' ⟨rfl, rfl⟩
        refine ⟨_, rfl, ?_, (Mv.cells (n' := 0) (c' := 0) hm0.drew _ _).cells _ _⟩
        rw [← hlen]
        refine OwnI.ofRow hBg (heap_setCells g _ _ _ _ _ (heap_setCells g _ _ _ _ cur hgW)) (by omega) hm (by rw [layC_size, layC_size]; exact hs) (fun j hj => ?_)
        rw [layC_get _ _ _ _ (by rw [layC_size]; omega), layC_get _ _ _ _ (by omega), ins_cells l i hi x y j hj, Nat.zero_add, Nat.zero_add]
        rw [hlen] at hj
        have hdl : ((intCells l).drop i).length = l.length - i := by simp [intCells]
        rw [hdl]
        by_cases h1 : j < i
        · rw [if_neg (by omega), if_neg (by omega), if_pos h1, hcurj j (by omega)]
        · by_cases h2 : j < i + 2
          · rw [if_pos (by simp; omega), if_neg h1, if_pos h2]
          · rw [if_neg (by simp; omega), if_pos (by omega), if_neg h1, if_neg h2, List.getElem?_drop]
            congr 1
            omega
    · by_cases he : i = l.length
      · subst he
        refine Calls.mono (Any2.slices_Insert_int_end_grow layM21 (some ⟨g, 0, none⟩) l.length cap w.heap.size 0 2 2 (intCells l) [.int .i64 x, .int .i64 y] W (by omega) hn (by omega) (by omega) hcl rfl (fun h => by cases h)
          (fun a ha j u hu => by injection ha with ha; subst ha; rw [Addr.add_lit]; exact hcs j u hu) hvs h1v) ?_
        rintro e w' ⟨rfl, rfl⟩
        rw [e3]
        have hge := grownCap_ge W (l.length + 2) cap 3
        have hle := grownCap_le_maxLen W (l.length + 2) cap 3 (by unfold maxLen; omega)
        refine ⟨_, rfl, ?_, hm0.drew.made _ _ _⟩
        show OwnI _ B (.slice (some ⟨W.heap.size, 0, none⟩) (l.length + 2) (grownCap W (l.length + 2) cap 3)) _
        generalize grownCap W (l.length + 2) cap 3 = gc at *
        rw [← hlen]
        refine OwnI.ofRow (by omega) (heap_alloc_new W.drew _) (by omega) hle (by simp [size_zeroCells, hz, hcl]; omega) (fun j hj => ?_)
        rw [ins_cells l l.length (Nat.le_refl _) x y j hj]
        rw [hlen] at hj
        rw [Array.getElem?_append_left (by simp [hcl]; omega), List.getElem?_toArray]
        by_cases h1 : j < l.length
        · rw [if_pos h1, List.getElem?_append_left (by omega)]
        · rw [if_neg h1, if_pos (by omega), List.getElem?_append_right (by omega), hcl]
      · refine Calls.mono (Any2.slices_Insert_int_grow layM21 g 0 l.length cap i w.heap.size 0 2 2 (intCells l) [.int .i64 x, .int .i64 y] W (by omega) (by omega) hn (by omega) (by omega) hcl rfl hcs hvs h1c h1v) ?_
        rintro e w' ⟨rfl, rfl⟩
        rw [e3]
        have hge := grownCap_ge W (l.length + 2) cap 3
        have hle := grownCap_le_maxLen W (l.length + 2) cap 3 (by unfold maxLen; omega)
        refine ⟨_, rfl, ?_, ((hm0.made _ 0 0).drew.cells (n' := 0) (c' := 0) _ _).drew.cells _ _⟩
        show OwnI _ B (.slice (some ⟨W.heap.size, 0, none⟩) (l.length + 2) (grownCap W (l.length + 2) cap 3)) _
        generalize grownCap W (l.length + 2) cap 3 = gc at *
        have hti : ((intCells l).take i).length = i := by simp [hcl]; omega
        have hdl : ((intCells l).drop i).length = l.length - i := by simp [intCells]
        refine OwnI.ofRowN hlen.symm (cur := layC (layC (((intCells l).take i).toArray ++ Builtin.zeroCells (Value.int .i64 0).cells (l.length + 2 - i) ++ Builtin.zeroCells (Value.int .i64 0).cells (gc - (l.length + 2))) i [.int .i64 x, .int .i64 y]) (i + 2) ((intCells l).drop i)) (by omega) (heap_setCells _ _ _ _ _ _ (heap_setCells _ _ _ _ _ _ (heap_alloc_new W _))) (by omega) hle ?_ (fun j hj => ?_)
        · rw [layC_size, layC_size]
          simp [size_zeroCells, hz, hti]
          omega
        · rw [ins_cells l i hi x y j hj]
          rw [hlen] at hj
          have hcs1 : (((intCells l).take i).toArray ++ Builtin.zeroCells (Value.int .i64 0).cells (l.length + 2 - i) ++ Builtin.zeroCells (Value.int .i64 0).cells (gc - (l.length + 2))).size = gc := by
            simp [size_zeroCells, hz, hti]
            omega
          rw [layC_get _ _ _ _ (by rw [layC_size]; omega), layC_get _ _ _ _ (by omega), hdl]
          by_cases h1 : j < i
          · rw [if_neg (by omega), if_neg (by omega), if_pos h1, Array.getElem?_append_left (by simp [size_zeroCells, hz, hti]; omega), Array.getElem?_append_left (by simp [hti]; omega), List.getElem?_toArray, List.getElem?_take_of_lt h1]
          · by_cases h2 : j < i + 2
            · rw [if_neg (by omega), if_pos (by simp; omega), if_neg h1, if_pos h2]
            · rw [if_pos (by omega), if_neg h1, if_neg h2, List.getElem?_drop]
              congr 1
              omega

end Go.Proofs.Ytgpdbboieokldaa

/- Entries of one's own: written, cut, appended; contracts over entries of slices.Clone, Equal, IndexFunc, DeleteFunc. -/
namespace Go.Proofs.Ytgpdbboieokldaa
open Go.RowKit

/-- The row of entries of one's own. -/
theorem OwnE.row {w : World} {B : Nat} {v : Value} {l : List Ent} (h : OwnE w B v l) : (v = .slice none 0 0 ∧ l = []) ∨
    ∃ g cap cur, v = .slice (some ⟨g, 0, none⟩) l.length cap ∧ B ≤ g ∧ g < w.heap.size ∧ w.heap[g]? = some (.cells cur 55 (0, 0)) ∧ l.length ≤ cap ∧ cap ≤ maxLen ∧ cur.size = cap * 3 ∧ ∀ j, j < l.length * 3 → cur[j]? = (entCells l)[j]? := by
  rcases h.2 with ⟨hv, hn⟩ | ⟨g, cap, cur, hv, hb, hg, hnc, hcm, hcs, htake⟩
  · have e : l = [] := List.eq_nil_of_length_eq_zero hn
    subst e
    exact .inl ⟨hv, rfl⟩
  · refine .inr ⟨g, cap, cur, hv, hb, (Array.getElem?_eq_some_iff.1 hg).1, hg, hnc, hcm, hcs, fun j hj => ?_⟩
    rw [← htake, List.getElem?_take_of_lt hj, Array.getElem?_toList]

theorem OwnE.ofRow {w : World} {B g cap n : Nat} {cur : Array Value} {l : List Ent} (hn : n = l.length) (hB : B ≤ g) (hg : w.heap[g]? = some (.cells cur 55 (0, 0))) (hc : l.length ≤ cap) (hm : cap ≤ maxLen) (hs : cur.size = cap * 3) (hcell : ∀ j, j < l.length * 3 → cur[j]? = (entCells l)[j]?) :
    OwnE w B (.slice (some ⟨g, 0, none⟩) n cap) l := by
  subst hn
  refine ⟨by rw [entCells_length], .inr ⟨g, cap, cur, rfl, hB, hg, hc, hm, hs, ?_⟩⟩
  apply List.ext_getElem?
  intro j
  by_cases hj : j < l.length * 3
  · rw [List.getElem?_take_of_lt hj, Array.getElem?_toList]
    exact hcell j hj
  · rw [List.getElem?_eq_none (by simp; omega), List.getElem?_eq_none (by rw [entCells_length]; omega)]

theorem OwnE.empty (w : World) (B : Nat) (hB : B ≤ w.heap.size) : OwnE (w.alloc (.cells #[] 55)) B (.slice (some ⟨w.heap.size, 0, none⟩) 0 0) [] :=
  OwnE.ofRow (l := []) rfl hB (heap_alloc_new w _) (Nat.le_refl _) (Nat.zero_le _) rfl (fun j hj => absurd hj (by simp))

theorem entCells_take : ∀ (l : List Ent) (i : Nat), entCells (l.take i) = (entCells l).take (i * 3)
  | l, 0 => by simp [entCells]
  | [], i + 1 => by simp [entCells]
  | x :: t, i + 1 => by
    rw [List.take_succ_cons, show (i + 1) * 3 = i * 3 + 1 + 1 + 1 by omega]
    show Value.int .i64 x.proc :: .int .i64 x.seq :: .int .i64 x.resp :: entCells (t.take i) = (Value.int .i64 x.proc :: .int .i64 x.seq :: .int .i64 x.resp :: entCells t).take (i * 3 + 1 + 1 + 1)
    rw [entCells_take t i]
    rfl

theorem entCells_drop : ∀ (l : List Ent) (i : Nat), entCells (l.drop i) = (entCells l).drop (i * 3)
  | l, 0 => by simp
  | [], i + 1 => by simp [entCells]
  | x :: t, i + 1 => by
    rw [List.drop_succ_cons, show (i + 1) * 3 = i * 3 + 1 + 1 + 1 by omega]
    show entCells (t.drop i) = (Value.int .i64 x.proc :: .int .i64 x.seq :: .int .i64 x.resp :: entCells t).drop (i * 3 + 1 + 1 + 1)
    rw [entCells_drop t i]
    rfl

/-- A beginning of entries of one's own. -/
theorem OwnE.cut {w : World} {B g n cap : Nat} {l : List Ent} (h : OwnE w B (.slice (some ⟨g, 0, none⟩) n cap) l) (i : Nat) (hi : i ≤ l.length) : OwnE w B (.slice (some ⟨g, 0, none⟩) i cap) (l.take i) := by
  rcases h.row with ⟨h1, -⟩ | ⟨g', cap', cur, h1, hB, hlt, hg, hc, hm, hs, hcell⟩
  · cases h1
  · injection h1 with h1 h2 h3
    injection h1 with h1
    injection h1 with h1
    subst h1 h3
    exact OwnE.ofRow (by rw [List.length_take]; omega) hB hg (by rw [List.length_take]; omega) hm hs (fun j hj => by
      rw [List.length_take] at hj
      rw [hcell j (by omega), entCells_take, List.getElem?_take_of_lt (by omega)])

/-- Entries of one's own stay while cells behind them are written. -/
theorem OwnE.cells {w : World} {B g n cap : Nat} {l : List Ent} (h : OwnE w B (.slice (some ⟨g, 0, none⟩) n cap) l) (o : Nat) (ho : l.length * 3 ≤ o) (vs : List Value) : OwnE (w.setCells g o vs) B (.slice (some ⟨g, 0, none⟩) n cap) l := by
  rcases h.row with ⟨h1, -⟩ | ⟨g', cap', cur, h1, hB, hlt, hg, hc, hm, hs, hcell⟩
  · cases h1
  · injection h1 with h1 h2 h3
    injection h1 with h1
    injection h1 with h1
    subst h1 h3
    exact OwnE.ofRow h2 hB (heap_setCells g _ vs o w cur hg) hc hm (by rw [layC_size]; exact hs) (fun j hj => by
      rw [layC_get _ _ _ _ (by omega), if_neg (by omega)]
      exact hcell j hj)

/-- One entry written into a row of one's own. -/
theorem OwnE.put {w : World} {B g n cap : Nat} {l : List Ent} (h : OwnE w B (.slice (some ⟨g, 0, none⟩) n cap) l) (i : Nat) (hi : i < l.length) (e : Ent) : OwnE (w.setCells g (i * 3) (entCells [e])) B (.slice (some ⟨g, 0, none⟩) n cap) (l.set i e) := by
  rcases h.row with ⟨h1, -⟩ | ⟨g', cap', cur, h1, hB, hlt, hg, hc, hm, hs, hcell⟩
  · cases h1
  · injection h1 with h1 h2 h3
    injection h1 with h1
    injection h1 with h1
    subst h1 h3
    have hl3 : (entCells [e]).length = 3 := entCells_length [e]
    refine OwnE.ofRow (by rw [List.length_set]; exact h2) hB (heap_setCells g _ _ _ w cur hg) (by rw [List.length_set]; exact hc) hm (by rw [layC_size]; exact hs) (fun j hj => ?_)
    rw [List.length_set] at hj
    obtain ⟨q, k, hk, rfl⟩ : ∃ q k, k < 3 ∧ j = q * 3 + k := ⟨j / 3, j % 3, Nat.mod_lt _ (by decide), by omega⟩
    rw [layC_get _ _ _ _ (by omega), hl3, entCells_get (l.set i e) q k (by rw [List.length_set]; omega) hk]
    by_cases hq : q = i
    · subst hq
      rw [if_pos (by omega), show q * 3 + k - q * 3 = 0 * 3 + k by omega, entCells_get [e] 0 k (by simp) hk]
      congr 2
      simp [List.getD, hi]
    · rw [if_neg (by omega), hcell _ (by omega), entCells_get l q k (by omega) hk]
      congr 2
      have : ¬ i = q := fun h => hq h.symm
      simp [List.getD, this]

/-- The cells of entries that one reads. -/
theorem RdE.cells {w : World} {a : Addr} {n cap : Nat} {l : List Ent} (h : RdE w (.slice (some a) n cap) l) : ∀ j u, (entCells l)[j]? = some u → w.cell? (a.add j) = some u := by
  obtain ⟨ao, c, h1, h2, h3, hn, hw, h4⟩ := h
  injection h1 with h1 _ _
  subst h1
  intro j u hu
  have hj : j < l.length * 3 := by rw [← entCells_length]; exact (List.getElem?_eq_some_iff.1 hu).1
  rcases h4 with h4 | ⟨b, off, h5, h6⟩
  · rw [h4] at hj
    simp at hj
  · injection h5 with h5
    subst h5
    obtain ⟨q, k, hk, rfl⟩ : ∃ q k, k < 3 ∧ j = q * 3 + k := ⟨j / 3, j % 3, Nat.mod_lt _ (by decide), by omega⟩
    rw [entCells_get l q k (by omega) hk] at hu
    obtain ⟨c0, c1, c2⟩ := h6 q (by omega)
    rw [Addr.add_lit, ← Nat.add_assoc]
    match k, hk with
    | 0, _ => exact c0.trans hu
    | 1, _ => exact c1.trans hu
    | 2, _ => exact c2.trans hu

/-- Entries appended onto a row of one's own. -/
theorem run_append_ents (w : World) (ty : TypeId) (B : Nat) (v : Value) (l : List Ent) (h : OwnE w B v l) (vx : Value) (m : List Ent) (hr : RdE w vx m) (hlim : l.length + m.length ≤ 1000000) (hbase : B ≤ w.heap.size) :
    ∃ v' w', (Builtin.append_ #[25, 25] ty #[v, vx]).run Try.prog w = .ok v' w' ∧ OwnE w' B v' (l ++ m) ∧ Below B w w' := by
  obtain ⟨i0, hi, hz0, hz1, hz2⟩ := info_parts info_ent
  have hr' := hr
  obtain ⟨ao, cap, rfl, hlc, hcm, hn0, hw, hao⟩ := hr
  cases ao with
  | none =>
    have hc := hn0 rfl
    subst hc
    have hl : m = [] := List.eq_nil_of_length_eq_zero (by omega)
    subst hl
    have hrun := run_append_owned_none (P := Try.prog) w B 25 ty 55 i0 3 Try.underlying25 hi v l.length (entCells l) h
    exact ⟨v, w, hrun, by rw [List.append_nil]; exact h, Below.refl _ _⟩
  | some a =>
    obtain ⟨v', w', hrun, ho, hg, _⟩ := run_append_own (P := Try.prog) w B 25 ty 55 i0 _ 3 24 Try.underlying25 hi hz0 hz1 hz2 rfl (by decide) v l.length (entCells l) h
      a m.length cap (entCells m) (entCells_length m) hr'.cells (entCells_one m) (by unfold maxLen; omega) (by omega) hbase
    refine ⟨v', w', hrun, ?_, ?_⟩
    · unfold OwnE
      rw [List.length_append, entCells_app]
      exact ho
    · exact (Below.refl _ _).grown hg hbase (fun k hk => (World.ownsRow.lt h k hk).1)

theorem wpList_append_ents (w : World) {ops : Array Oper} {rest : List Oper} {o : Oper} {a : Act} {Q : Exit → Act → World → Prop} (hgd : o.guard = none) (s x : Operand)
    (ho : o.op = .call { callee := .builtin .append, args := #[s, x], argTypes := #[25, 25] })
    (B : Nat) (v : Value) (l : List Ent) (hs : a.eval s = v) (hown : OwnE w B v l) (vx : Value) (m : List Ent) (hx : a.eval x = vx) (hr : RdE w vx m)
    (hlim : l.length + m.length ≤ 1000000) (hbase : B ≤ w.heap.size)
    (h : ∀ v' w', OwnE w' B v' (l ++ m) → Below B w w' → wpList Try.prog ops Q rest (a.put o.dst v') w') : wpList Try.prog ops Q (o :: rest) a w :=
  wpList_plain hgd fun _ hK => by
    obtain ⟨v', w', hrun, h2, h3⟩ := run_append_ents w o.type B v l hown vx m hr hlim hbase
    unfold Oper.wp execOp
    simp only [ho, resolve, invoke, builtin, Sem.run_bind, Sem.run_pure, Result.andThen_ok, List.map_toArray, List.map_cons, List.map_nil, hs, hx, hrun]
    exact hK _ _ (h v' w' h2 h3)

set_option maxRecDepth 100000 in
set_option maxHeartbeats 1000000 in
theorem cloneE_any (v : Value) (l : List Ent) (w : World) (hr : RdE w v l) (hlim : l.length ≤ 1000000) :
    Calls Try.prog 46 #[v] w fun e w' => ∃ v', e = .returned v' ∧ OwnE w' w.heap.size v' l ∧ Below w.heap.size w w' := by
  have HR := hide hr
  obtain ⟨ao, cap, rfl, hlc, -, hn, -⟩ := hr
  cases ao with
  | none =>
    obtain rfl : cap = 0 := hn rfl
    obtain rfl : l = [] := List.eq_nil_of_length_eq_zero (by omega)
    clear hn hlc
    have hnil : ∀ w, (binOp .eql 25 (.slice none 0 0) (.slice none 0 0)).run Try.prog w = .ok (.bool true) w := fun w => run_eql_slice_nil w _ _ none 0 0 Try.underlying25
    go_enter Try.func46, Try.ntmps46
    go_wp2
    go_ret
    exact ⟨_, rfl, OwnE.nil _ _, Below.refl _ _⟩
  | some a =>
    clear hn
    have hnil : ∀ w, (binOp .eql 25 (.slice (some a) l.length cap) (.slice none 0 0)).run Try.prog w = .ok (.bool false) w := fun w => run_eql_slice_nil w _ _ (some a) _ _ Try.underlying25
    have HB0 : Hid (∀ X, Below w.heap.size w (w.alloc X)) := fun X => (Below.refl _ _).alloc (Nat.le_refl _) X
    have HO0 : Hid (OwnE (w.alloc (.cells #[] 55)) w.heap.size (.slice (some ⟨w.heap.size, 0, none⟩) 0 0) []) := hide (OwnE.empty w _ (Nat.le_refl _))
    go_enter Try.func46, Try.ntmps46
    go_wp2_with (at_builtin; refine wpList_append_ents _ rfl _ _ rfl w.heap.size _ [] rfl HO0.out _ l rfl (HR.out.below (HB0.out _) (Nat.le_refl _)) (by simp; omega) (by simp) ?_)
    intro v1 W1 ho1 hb1
    have HO1 := hide ho1
    have HB1 := hide ((HB0.out _).trans hb1)
    clear ho1 hb1
    go_wp2
    go_ret
    exact ⟨_, rfl, HO1.out, HB1.out⟩

/-- Where the first entry stands that p holds of, or -1. -/
def FoundE (p : Ent → Bool) (l : List Ent) (k : Int) : Prop := (k = -1 ∧ ∀ j, j < l.length → p (l.getD j zeroE) = false) ∨ ∃ i : Nat, k = (i : Int) ∧ i < l.length ∧ (∀ j, j < i → p (l.getD j zeroE) = false) ∧ p (l.getD i zeroE) = true

set_option maxRecDepth 100000 in
set_option maxHeartbeats 2000000 in
theorem indexFuncE_any (g R : Nat) (p : Ent → Bool) (v : Value) (l : List Ent) (w : World) (hr : RdE w v l)
    (eg : ∀ args W, (callFunc g args).run Try.prog W = .ok (.enter g args) W)
    (hp : ∀ W e, Below w.heap.size w W → Calls Try.prog g #[entV e, .pointer (some ⟨R, 0, none⟩)] W fun x w' => x = .returned (.bool (p e)) ∧ Below W.heap.size W w') :
    Calls Try.prog 87 #[v, .func (.func g) #[] #[.pointer (some ⟨R, 0, none⟩)]] w fun x w' => ∃ k : Int, x = .returned (.int .i64 k) ∧ FoundE p l k ∧ Below w.heap.size w w' := by
  have HR := hide hr
  have HP := hide hp
  obtain ⟨va, vc, rfl, hlc, hcm, -, -, hao⟩ := hr
  have HAO := hide hao
  have hml : (l.length : Int) ≤ 9223372036854775807 := by unfold maxLen at hcm; omega
  clear hp hlc hcm hao
  go_enter Try.func87, Try.ntmps87
  go_wp2
  go_loopw [8] (fun vi wr => ∃ q : Nat, vi = .int .i64 (q : Int) ∧ q ≤ l.length ∧ Hid (∀ j, j < q → p (l.getD j zeroE) = false) ∧ Hid (Below w.heap.size w wr)) (fun vi _ => l.length - (intOf vi).toNat)
  case atStart => exact ⟨0, rfl, Nat.zero_le _, hide (fun j hj => absurd hj (Nat.not_lt_zero _)), Below.refl _ _⟩
  case round =>
    obtain ⟨q, rfl, hq, hN, hB⟩ := hrel
    by_cases hlt : q < l.length
    case neg =>
      obtain rfl : q = l.length := by omega
      go_wp2
      go_ret
      exact ⟨-1, rfl, .inl ⟨rfl, hN.out⟩, hB.out⟩
    have hqi : (q : Int) < (l.length : Int) := by omega
    rcases HAO.out with h0 | ⟨b, off, rfl, hc⟩
    · rw [h0] at hlt; simp at hlt
    obtain ⟨c0, c1, c2⟩ := (hc q hlt).keep (hB.out.block b (hc q hlt).lt)
    have HC := hide (HP.out wr (l.getD q zeroE) hB.out)
    have HX : Hid (∀ j, j < q + 1 → j = q ∨ j < q) := hide (fun j hj => by omega)
    obtain ⟨e, he⟩ : ∃ e, e = l.getD q zeroE := ⟨_, rfl⟩
    rw [← he] at HC c0 c1 c2
    have HE := hide he
    obtain ⟨pe, hpe⟩ : ∃ pe, pe = p e := ⟨_, rfl⟩
    rw [← hpe] at HC
    have HPE := hide hpe
    clear he hc HP HAO HR hpe
    unfold entV at HC
    obtain ⟨ep, es, er⟩ := e
    simp only at HC c0 c1 c2
    go_wp2_with fail
    refine HC.out.mono ?_
    rintro x W1 ⟨rfl, hb1⟩
    have HB1 := hide (hB.out.trans (hb1.mono hB.out.size))
    clear hb1 HC
    cases pe with
    | true =>
      go_wp2
      go_ret
      exact ⟨(q : Int), rfl, .inr ⟨q, rfl, hlt, hN.out, by rw [← HE.out]; exact HPE.out.symm⟩, HB1.out⟩
    | false =>
      go_wp2
      go_roundw
      case rel => exact ⟨q + 1, by go_num, by omega, hide (fun j hj => by
        rcases HX.out j hj with h | h
        · rw [h, ← HE.out]; exact HPE.out.symm
        · exact hN.out j h), HB1⟩
      case measure => simp [intOf]; omega

end Go.Proofs.Ytgpdbboieokldaa

/- Contracts of delta: hasProcs, newEntries; over entries slices.ContainsFunc. -/
namespace Go.Proofs.Ytgpdbboieokldaa
open Go.RowKit

theorem found_any {p : Ent → Bool} {l : List Ent} {k : Int} (h : FoundE p l k) : decide (0 ≤ k) = l.any p := by
  rcases h with ⟨rfl, h⟩ | ⟨i, rfl, hi, -, h2⟩
  · have : l.any p = false := by
      rw [List.any_eq_false]
      intro x hx
      obtain ⟨j, hj, rfl⟩ := List.getElem_of_mem hx
      have := h j hj
      simpa [List.getD, hj] using this
    rw [this]
    decide
  · have : l.any p = true := by
      rw [List.any_eq_true]
      exact ⟨l[i], List.getElem_mem hi, by simpa [List.getD, hi] using h2⟩
    rw [this]
    exact decide_eq_true (by omega)

set_option maxRecDepth 100000 in
set_option maxHeartbeats 2000000 in
theorem containsFuncE_any (g R : Nat) (p : Ent → Bool) (v : Value) (l : List Ent) (w : World) (hr : RdE w v l)
    (eg : ∀ args W, (callFunc g args).run Try.prog W = .ok (.enter g args) W)
    (hp : ∀ W e, Below w.heap.size w W → Calls Try.prog g #[entV e, .pointer (some ⟨R, 0, none⟩)] W fun x w' => x = .returned (.bool (p e)) ∧ Below W.heap.size W w') :
    Calls Try.prog 52 #[v, .func (.func g) #[] #[.pointer (some ⟨R, 0, none⟩)]] w fun x w' => x = .returned (.bool (l.any p)) ∧ Below w.heap.size w w' := by
  have HIX := hide (indexFuncE_any g R p v l w hr eg hp)
  obtain ⟨va, vc, hv⟩ := hr.shape
  subst hv
  have HF := hide (fun k h => found_any (p := p) (l := l) (k := k) h)
  generalize l.any p = AN at *
  clear hr hp
  go_enter Try.func52, Try.ntmps52
  go_wp2_with fail
  refine HIX.out.mono ?_
  rintro x W1 ⟨k, rfl, hk, hb1⟩
  have HK := hide (HF.out k hk)
  have HB1 := hide hb1
  clear hk hb1 HIX
  go_wp2
  go_ret
  rw [← HK.out]
  exact ⟨rfl, HB1.out⟩

set_option maxRecDepth 100000 in
set_option maxHeartbeats 1000000 in
theorem procs11_any (e : Ent) (R : Nat) (o : Ent) (W : World) (hb : Be W R (entC e)) :
    Calls Try.prog 51 #[entV o, .pointer (some ⟨R, 0, none⟩)] W fun x w' => x = .returned (.bool (decide (o.proc = e.proc))) ∧ Below W.heap.size W w' := by
  have HB0 : Hid (∀ X, Below W.heap.size W (W.alloc X)) := fun X => (Below.refl _ _).alloc (Nat.le_refl _) X
  have hlt : R < W.heap.size := hb.lt
  have HC : Hid (∀ X, (W.alloc X).cell? ⟨R, 0, none⟩ = some (.int .i64 e.proc)) := hide (fun X => by
    rw [(HB0.out X).cell (p := ⟨R, 0, none⟩) hlt]
    exact cell_of_row W R 0 _ _ _ hb)
  obtain ⟨ep, es, er⟩ := o
  unfold entV
  simp only
  have hc := HC.out
  generalize e.proc = rp at *
  clear hb HC
  by_cases h : ep = rp
  · have HE : Hid (decide (ep = rp) = true) := decide_eq_true h
    have h' : (ep == rp) = true := beq_iff_eq.2 h
    rw [HE.out]
    clear HE h
    go_enter Try.func51, Try.ntmps51
    go_wp2
    go_ret
    exact ⟨rfl, HB0.out _⟩
  · have HE : Hid (decide (ep = rp) = false) := decide_eq_false h
    have h' : (ep == rp) = false := beq_eq_false_iff_ne.2 h
    rw [HE.out]
    clear HE h
    go_enter Try.func51, Try.ntmps51
    go_wp2
    go_ret
    exact ⟨rfl, HB0.out _⟩

/-- A box of one slice of entries. -/
def Bt (w : World) (b : Nat) (v : Value) : Prop := w.heap[b]? = some (.cells #[v] 25 (0, 0))

theorem Bt.lt {w : World} {b : Nat} {v : Value} (h : Bt w b v) : b < w.heap.size := (Array.getElem?_eq_some_iff.1 h).1

theorem Bt.below {w w' : World} {b B : Nat} {v : Value} (h : Bt w b v) (hb : Below B w w') (hB : w.heap.size ≤ B) : Bt w' b v := (hb.block b (by have := h.lt; omega)).trans h

theorem Bt.cell {w : World} {b : Nat} {v : Value} (h : Bt w b v) : w.cell? ⟨b, 0, none⟩ = some v := cell_of_row w b 0 _ _ _ h

set_option maxRecDepth 100000 in
set_option maxHeartbeats 1000000 in
theorem procs1_any (v : Value) (t : List Ent) (S : Nat) (e : Ent) (W : World) (ht : RdE W v t) (hS : Bt W S v) :
    Calls Try.prog 50 #[entV e, .pointer (some ⟨S, 0, none⟩)] W fun x w' => x = .returned (.bool (!(t.any fun o => decide (o.proc = e.proc)))) ∧ Below W.heap.size W w' := by
  obtain ⟨W0, hW0⟩ : ∃ W0, W0 = W.alloc (.cells (entC e) 55) := ⟨_, rfl⟩
  have hB0 : Below W.heap.size W W0 := by rw [hW0]; exact (Below.refl _ _).alloc (Nat.le_refl _) _
  have hE : Be W0 W.heap.size (entC e) := by rw [hW0]; exact heap_alloc_new W _
  have eg : ∀ args W, (callFunc 51 args).run Try.prog W = .ok (.enter 51 args) W := enters_of Try.func51 (by kernel_rfl) rfl
  have HCF := hide (containsFuncE_any 51 W.heap.size (fun o => decide (o.proc = e.proc)) v t W0 (ht.below hB0 (Nat.le_refl _)) eg (fun W' o h => procs11_any e W.heap.size o W' (hE.below h (Nat.le_refl _))))
  have hc := (hS.below hB0 (Nat.le_refl _)).cell
  have HB0 := hide hB0
  have HW0 := hide hW0
  have hmf : ∀ (fn : Fn) (first cap : Array Value) (w : World), (Instr.makeFunc fn first cap).run Try.prog w = .ok (.func fn first cap) w := fun _ _ _ _ => rfl
  obtain ⟨va, vc, hv⟩ := ht.shape
  subst hv
  generalize (t.any fun o => decide (o.proc = e.proc)) = AN at *
  clear hB0 hE eg hW0 hS ht
  obtain ⟨ep, es, er⟩ := e
  unfold entV
  unfold entC at HW0
  dsimp only at HW0 ⊢
  go_enter Try.func50, Try.ntmps50
  go_upto_region 1 with fail
  rw [← HW0.out]
  clear HW0
  go_wp2_with fail
  refine HCF.out.mono ?_
  rintro x W1 ⟨rfl, hb1⟩
  have HB1 := hide (HB0.out.trans (hb1.mono HB0.out.size))
  clear hb1 HCF
  go_wp2
  go_ret
  exact ⟨rfl, HB1.out⟩

theorem covers_any (now old : List Ent) : (!(old.any fun e => !(now.any fun o => decide (o.proc = e.proc)))) = decide (Covers old now) := by
  rw [Bool.eq_iff_iff, decide_eq_true_eq]
  unfold Covers
  simp

set_option maxRecDepth 100000 in
set_option maxHeartbeats 1000000 in
theorem hasProcs_any (vn : Value) (now : List Ent) (vo : Value) (old : List Ent) (w : World) (hn : RdE w vn now) (ho : RdE w vo old) :
    Calls Try.prog 24 #[vn, vo] w fun x w' => x = .returned (.bool (decide (Covers old now))) ∧ Below w.heap.size w w' := by
  obtain ⟨W0, hW0⟩ : ∃ W0, W0 = w.alloc (.cells #[vn] 25) := ⟨_, rfl⟩
  have hB0 : Below w.heap.size w W0 := by rw [hW0]; exact (Below.refl _ _).alloc (Nat.le_refl _) _
  have hS : Bt W0 w.heap.size vn := by rw [hW0]; exact heap_alloc_new w _
  have eg : ∀ args W, (callFunc 50 args).run Try.prog W = .ok (.enter 50 args) W := enters_of Try.func50 (by kernel_rfl) rfl
  have hnW := hn.below hB0 (Nat.le_refl _)
  have HCF := hide (containsFuncE_any 50 w.heap.size (fun e => !(now.any fun o => decide (o.proc = e.proc))) vo old W0 (ho.below hB0 (Nat.le_refl _)) eg (fun W' e h => procs1_any vn now w.heap.size e W' (hnW.below h (Nat.le_refl _)) (hS.below h (Nat.le_refl _))))
  have HB0 := hide hB0
  have HW0 := hide hW0
  have hmf : ∀ (fn : Fn) (first cap : Array Value) (w : World), (Instr.makeFunc fn first cap).run Try.prog w = .ok (.func fn first cap) w := fun _ _ _ _ => rfl
  have HD := hide (covers_any now old)
  obtain ⟨na, nc, hv⟩ := hn.shape
  subst hv
  obtain ⟨oa, oc, hv⟩ := ho.shape
  subst hv
  obtain ⟨D, hD⟩ : ∃ D, D = decide (Covers old now) := ⟨_, rfl⟩
  rw [← hD] at HD ⊢
  generalize (old.any fun e => !(now.any fun o => decide (o.proc = e.proc))) = AN at *
  clear hD hB0 hS eg hnW hn ho hW0
  go_enter Try.func24, Try.ntmps24
  go_upto_region 1 with fail
  rw [← HW0.out]
  clear HW0
  go_wp2_with fail
  refine HCF.out.mono ?_
  rintro x W1 ⟨rfl, hb1⟩
  have HB1 := hide (HB0.out.trans (hb1.mono HB0.out.size))
  clear hb1 HCF
  go_wp2
  go_ret
  rw [← HD.out]
  exact ⟨rfl, HB1.out⟩

set_option maxRecDepth 100000 in
set_option maxHeartbeats 1000000 in
theorem newEntries1_any (e : Ent) (R : Nat) (o : Ent) (W : World) (hb : Be W R (entC e)) :
    Calls Try.prog 56 #[entV o, .pointer (some ⟨R, 0, none⟩)] W fun x w' => x = .returned (.bool (eqEnt o e)) ∧ Below W.heap.size W w' := by
  have HB0 : Hid (∀ X, Below W.heap.size W (W.alloc X)) := fun X => (Below.refl _ _).alloc (Nat.le_refl _) X
  have HE : Hid (∀ X, Be (W.alloc X) R (entC e)) := hide (fun X => hb.below (HB0.out X) (Nat.le_refl _))
  have hgd := guard_ent
  have heq := fun W => eql_ent W o e
  have hc0 := fun X => ((HE.out X).cell 0).1
  have hc1 := fun X => ((HE.out X).cell 1).1
  have hc2 := fun X => ((HE.out X).cell 2).1
  generalize eqEnt o e = EQ at *
  clear hb HE
  obtain ⟨op, os, or⟩ := o
  obtain ⟨ep, es, er⟩ := e
  unfold entV
  unfold entC at hc0 hc1 hc2
  dsimp only at *
  go_enter Try.func56, Try.ntmps56
  go_wp2
  go_ret
  exact ⟨rfl, HB0.out _⟩

theorem diffT_snoc {a b : List Ent} {k : Nat} (h : k < b.length) : diffT a (b.take (k + 1)) = if b.getD k zeroE ∈ a then diffT a (b.take k) else diffT a (b.take k) ++ [b.getD k zeroE] := by
  rw [takeE_snoc h]
  unfold diffT
  rw [List.filter_append]
  generalize b.getD k zeroE = e
  by_cases hm : e ∈ a
  · rw [if_pos hm]
    simp [hm]
  · rw [if_neg hm]
    simp [hm]

theorem any_mem (a : List Ent) (e : Ent) : (a.any fun o => eqEnt o e) = decide (e ∈ a) := by
  rw [Bool.eq_iff_iff]
  simp only [List.any_eq_true, decide_eq_true_eq]
  constructor
  · rintro ⟨o, ho, h⟩
    rw [← (eqEnt_iff _ _).1 h]
    exact ho
  · intro h
    exact ⟨e, h, eqEnt_self e⟩

theorem diffT_len (a b : List Ent) : (diffT a b).length ≤ b.length := List.length_filter_le _ _

set_option maxRecDepth 100000 in
set_option maxHeartbeats 4000000 in
theorem newEntries_any (vo : Value) (old : List Ent) (vn : Value) (now : List Ent) (w : World) (ho : RdE w vo old) (hn : RdE w vn now) (hlim : now.length ≤ 1000000) :
    Calls Try.prog 28 #[vo, vn] w fun x w' => ∃ v', x = .returned v' ∧ OwnE w' w.heap.size v' (diffT old now) ∧ Below w.heap.size w w' := by
  have eg : ∀ args W, (callFunc 56 args).run Try.prog W = .ok (.enter 56 args) W := enters_of Try.func56 (by kernel_rfl) rfl
  have HCF : Hid (∀ W R e, RdE W vo old → Be W R (entC e) → Calls Try.prog 52 #[vo, .func (.func 56) #[] #[.pointer (some ⟨R, 0, none⟩)]] W fun x w' => x = .returned (.bool (decide (e ∈ old))) ∧ Below W.heap.size W w') := hide (fun W R e hr hb => by
    have h := containsFuncE_any 56 R (fun o => eqEnt o e) vo old W hr eg (fun W' o h => newEntries1_any e R o W' (hb.below h (Nat.le_refl _)))
    rw [any_mem] at h
    exact h)
  have HO := hide ho
  have hmf : ∀ (fn : Fn) (first cap : Array Value) (w : World), (Instr.makeFunc fn first cap).run Try.prog w = .ok (.func fn first cap) w := fun _ _ _ _ => rfl
  obtain ⟨oa, oc, hv⟩ := ho.shape
  subst hv
  obtain ⟨na, nc, rfl, -, hcm, -, -, hao⟩ := hn
  have HAO := hide hao
  have HDN := hide (fun k h => diffT_snoc (a := old) (b := now) (k := k) h)
  have HDL : Hid (∀ k, (diffT old (now.take k)).length ≤ now.length) := hide (fun k => Nat.le_trans (diffT_len _ _) (by rw [List.length_take]; omega))
  have HD0 : Hid (diffT old (now.take 0) = []) := hide rfl
  have HDE : Hid (∀ k, now.length ≤ k → diffT old (now.take k) = diffT old now) := hide (fun k h => by rw [List.take_of_length_le h])
  have hmi : (now.length : Int) ≤ 1000000 := by omega
  generalize diffT old now = DT at *
  clear eg ho hao hcm
  go_enter Try.func28, Try.ntmps28
  go_wp2
  go_loopw [5, 11] (fun vo vi wr => ∃ k : Nat, vi = .int .i64 (k : Int) ∧ k ≤ now.length ∧ Hid (OwnE wr w.heap.size vo (diffT old (now.take k))) ∧ Hid (Below w.heap.size w wr)) (fun _ vi _ => now.length - (intOf vi).toNat)
  case atStart => exact ⟨0, rfl, Nat.zero_le _, hide (by rw [HD0.out]; exact OwnE.nil _ _), Below.refl _ _⟩
  case round =>
    obtain ⟨k, rfl, hk, hO, hB⟩ := hrel
    by_cases hlt : k < now.length
    case neg =>
      have hni : ¬ (k : Int) < (now.length : Int) := by omega
      rw [HDE.out k (by omega)] at hO
      go_wp2
      go_ret
      exact ⟨_, rfl, hO.out, hB.out⟩
    have hki : (k : Int) < (now.length : Int) := by omega
    rcases HAO.out with h0 | ⟨c, off, rfl, hc⟩
    · rw [h0] at hlt; simp at hlt
    obtain ⟨c0, c1, c2⟩ := (hc k hlt).keep (hB.out.block c (hc k hlt).lt)
    have HNX := hide (HDN.out k hlt)
    have hDL := HDL.out k
    generalize diffT old (now.take k) = DK at *
    obtain ⟨va, vc, hv⟩ := hO.out.shape
    subst hv
    obtain ⟨e, he⟩ : ∃ e, e = now.getD k zeroE := ⟨_, rfl⟩
    rw [← he] at HNX c0 c1 c2
    obtain ⟨W0, hW0⟩ : ∃ W0, W0 = wr.alloc (.cells (entC e) 55) := ⟨_, rfl⟩
    have hB0 : Below wr.heap.size wr W0 := by rw [hW0]; exact (Below.refl _ _).alloc (Nat.le_refl _) _
    have hE : Be W0 wr.heap.size (entC e) := by rw [hW0]; exact heap_alloc_new wr _
    have HC := hide (HCF.out W0 wr.heap.size e ((HO.out.below hB.out (Nat.le_refl _)).below hB0 (Nat.le_refl _)) hE)
    have HE0 := hide hE
    have HB0 := hide (hB.out.trans (hB0.mono hB.out.size))
    have HO0 := hide (hO.out.below hB0 (Nat.le_refl _))
    have HW0 := hide hW0
    obtain ⟨m, hm⟩ : ∃ m, m = decide (e ∈ old) := ⟨_, rfl⟩
    rw [← hm] at HC
    have HM := hide hm
    clear he hc HAO HCF HDN HDL HD0 HDE hB0 hE hW0 hm hO HO
    obtain ⟨ep, es, er⟩ := e
    unfold entC at HW0 HE0
    dsimp only at *
    go_upto_region 5 with fail
    rw [← HW0.out]
    clear HW0
    go_wp2_with fail
    refine HC.out.mono ?_
    rintro x W1 ⟨rfl, hb1⟩
    have HB1 := hide (HB0.out.trans (hb1.mono HB0.out.size))
    have HE1 := hide (HE0.out.below hb1 (Nat.le_refl _))
    have HO1 := hide (HO0.out.below hb1 (Nat.le_refl _))
    clear hb1 HC HB0 HE0 HO0
    cases m with
    | true =>
      rw [if_pos (of_decide_eq_true HM.out.symm)] at HNX
      go_wp2
      go_roundw
      case rel => exact ⟨k + 1, by go_num, by omega, hide (by rw [HNX.out]; exact HO1.out), HB1⟩
      case measure => simp [intOf]; omega
    | false =>
      rw [if_neg (of_decide_eq_false HM.out.symm)] at HNX
      obtain ⟨q0, -⟩ := HE1.out.cell 0
      obtain ⟨q1, -⟩ := HE1.out.cell 1
      obtain ⟨q2, -⟩ := HE1.out.cell 2
      have hs1 := HB1.out.size
      go_wp2_with (at_builtin; refine wpList_append_ent _ rfl _ _ rfl w.heap.size _ DK rfl HO1.out ⟨ep, es, er⟩ rfl (by omega) hs1 ?_)
      intro v5 W5 ho5 hb5
      have HO5 := hide ho5
      have HB5 := hide (HB1.out.trans hb5)
      clear ho5 hb5
      go_wp2
      go_roundw
      case rel => exact ⟨k + 1, by go_num, by omega, hide (by rw [HNX.out]; exact HO5.out), HB5⟩
      case measure => simp [intOf]; omega

end Go.Proofs.Ytgpdbboieokldaa

/- Contracts of objs: within and what it answers, cut, full. -/
namespace Go.Proofs.Ytgpdbboieokldaa
open Go.RowKit

set_option maxRecDepth 100000 in
/-- What lies from lo to hi. -/
theorem is_any (n lo hi : Int) (a b : Nat) (w : World) (ha : w.cell? ⟨a, 0, none⟩ = some (.int .i64 lo)) (hb : w.cell? ⟨b, 0, none⟩ = some (.int .i64 hi)) :
    Calls Try.prog 102 #[.int .i64 n, .pointer (some ⟨a, 0, none⟩), .pointer (some ⟨b, 0, none⟩)] w fun e w' => e = .returned (.bool (decide (lo ≤ n ∧ n ≤ hi))) ∧ w' = w := by
  have HD : Hid ((decide (lo ≤ n) && decide (n ≤ hi)) = decide (lo ≤ n ∧ n ≤ hi)) := (Bool.decide_and _ _).symm
  have HT : Hid (lo ≤ n → decide (n ≤ hi) = decide (lo ≤ n ∧ n ≤ hi)) := fun h => by rw [← HD.out, decide_eq_true h, Bool.true_and]
  by_cases h1 : lo ≤ n
  · go_enter Try.func102, Try.ntmps102
    go_wp2
    go_ret
    exact ⟨ret_b (HT.out h1), rfl⟩
  · go_enter Try.func102, Try.ntmps102
    go_wp2
    go_ret
    exact ⟨ret_b (by rw [decide_eq_false (Int.not_le.2 h1), Bool.false_and]), rfl⟩

set_option maxRecDepth 100000 in
theorem within_any (lo hi : Int) (w : World) :
    Calls Try.prog 77 #[.int .i64 lo, .int .i64 hi] w fun e w' => ∃ a b, e = .returned (.func (.func 102) #[] #[.pointer (some ⟨a, 0, none⟩), .pointer (some ⟨b, 0, none⟩)]) ∧ w'.cell? ⟨a, 0, none⟩ = some (.int .i64 lo) ∧ w'.cell? ⟨b, 0, none⟩ = some (.int .i64 hi) ∧ Below w.heap.size w w' := by
  have hmf : ∀ (fn : Fn) (first cap : Array Value) (w : World), (Instr.makeFunc fn first cap).run Try.prog w = .ok (.func fn first cap) w := fun _ _ _ _ => rfl
  have HB : Hid (∀ x y, Below w.heap.size w ((w.alloc x).alloc y)) := fun x y => ((Below.refl _ _).alloc (Nat.le_refl _) x).alloc (by simp) y
  go_enter Try.func77, Try.ntmps77
  go_wp2
  go_ret
  refine ⟨_, _, rfl, ?_, ?_, HB.out _ _⟩
  · rw [World.cell?_alloc_past _ _ _ (by simp), World.cell?_alloc_at _ _ _ _ rfl]; rfl
  · rw [World.cell?_alloc_at _ _ _ _ (by simp)]; rfl

theorem cut_maxmin (n : Int) : max (-1099511627776) (min n 1099511627776) = cutZ n := by
  unfold cutZ
  split
  · omega
  · split <;> omega

set_option maxRecDepth 100000 in
theorem cutO_any (n : Int) (w : World) : Calls Try.prog 115 #[.int .i64 n] w fun e w' => e = .returned (.int .i64 (cutZ n)) ∧ w' = w := by
  by_cases h1 : 1099511627776 < n
  · go_enter Try.func115, Try.ntmps115
    go_wp2
    go_ret
    refine ⟨ret_i ?_, rfl⟩
    first
      | exact cut_maxmin n
      | (unfold cutZ; split <;> (try split) <;> omega)
  by_cases h2 : n ≤ -1099511627776
  · go_enter Try.func115, Try.ntmps115
    go_wp2
    go_ret
    refine ⟨ret_i ?_, rfl⟩
    first
      | exact cut_maxmin n
      | (unfold cutZ; split <;> (try split) <;> omega)
  · go_enter Try.func115, Try.ntmps115
    go_wp2
    go_ret
    refine ⟨ret_i ?_, rfl⟩
    first
      | exact cut_maxmin n
      | (unfold cutZ; split <;> (try split) <;> omega)

set_option maxRecDepth 100000 in
theorem full_any (ao : Option Addr) (n cap : Nat) (w : World) : Calls Try.prog 119 #[.slice ao n cap] w fun e w' => e = .returned (.bool (decide (n = 128))) ∧ w' = w := by
  by_cases h : n = 128
  · have HD : Hid (decide (n = 128) = true) := decide_eq_true h
    have hq : ((n : Int) == 128) = true := beq_iff_eq.2 (by omega)
    clear h
    go_enter Try.func119, Try.ntmps119
    go_wp2
    go_ret
    exact ⟨ret_b HD.out.symm, rfl⟩
  · have HD : Hid (decide (n = 128) = false) := decide_eq_false h
    have hq : ((n : Int) == 128) = false := beq_eq_false_iff_ne.2 (by omega)
    clear h
    go_enter Try.func119, Try.ntmps119
    go_wp2
    go_ret
    exact ⟨ret_b HD.out.symm, rfl⟩

end Go.Proofs.Ytgpdbboieokldaa

