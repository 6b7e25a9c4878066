/- Contracts over int of slices.Clone, Equal, Delete, Insert, in the words of RdI and OwnI; a number written into a row of one's own. -/
import Derived.Test.YtgpdbboieokldaaGreatPack6
namespace Go.Proofs.YtgpdbboieokldaaGreat
open Go.RowKit

/-- Cells of a row, some of them written anew. -/
def layC (cur : Array Value) : Nat → List Value → Array Value
  | _, [] => cur
  | o, v :: r => layC (cur.setIfInBounds o v) (o + 1) r

theorem layC_size : ∀ (vs : List Value) (o : Nat) (cur : Array Value), (layC cur o vs).size = cur.size
  | [], _, _ => rfl
  | v :: r, o, cur => by rw [layC, layC_size r]; simp

theorem layC_get : ∀ (vs : List Value) (o : Nat) (cur : Array Value) (j : Nat), j < cur.size → (layC cur o vs)[j]? = if o ≤ j ∧ j < o + vs.length then vs[j - o]? else cur[j]?
  | [], o, cur, j, _ => by
    rw [layC, if_neg (by rw [List.length_nil]; omega)]
  | v :: r, o, cur, j, hj => by
    rw [layC, layC_get r (o + 1) _ j (by simpa using hj)]
    by_cases h : j = o
    · subst h
      rw [if_neg (by omega), if_pos (by simp)]
      simp [hj]
    · by_cases h2 : o + 1 ≤ j ∧ j < o + 1 + r.length
      · rw [if_pos h2, if_pos (by simp; omega)]
        rw [show j - o = (j - (o + 1)) + 1 by omega]
        simp
      · rw [if_neg h2, if_neg (by simp; omega)]
        simp [show ¬ o = j by omega]

theorem heap_setCells (g : Nat) (t : TypeId) : ∀ (vs : List Value) (o : Nat) (w : World) (cur : Array Value), w.heap[g]? = some (.cells cur t (0, 0)) → (w.setCells g o vs).heap[g]? = some (.cells (layC cur o vs) t (0, 0))
  | [], _, _, _, h => h
  | v :: r, o, w, cur, h => by
    rw [World.setCells, layC]
    exact heap_setCells g t r (o + 1) _ _ (heap_setCell_same w g o cur t v h)

theorem belowCells {B g : Nat} {a : World} (hg : B ≤ g) : ∀ (vs : List Value) (o : Nat) (w : World), Below B a w → Below B a (w.setCells g o vs)
  | [], _, _, h => h
  | v :: r, o, w, h => by
    rw [World.setCells]
    exact belowCells hg r (o + 1) _ (h.setCell hg v)

theorem belowDrew {B : Nat} {a w : World} (h : Below B a w) : Below B a w.drew := ⟨h.os, h.tape, h.output, h.size, h.block⟩

/-- Numbers of one's own, by their cells. -/
theorem OwnI.ofRow {w : World} {B g cap : Nat} {cur : Array Value} {l : List Int} (hB : B ≤ g) (hg : w.heap[g]? = some (.cells cur 3 (0, 0))) (hn : l.length ≤ cap) (hm : cap ≤ maxLen) (hs : cur.size = cap) (hc : ∀ j, j < l.length → cur[j]? = some (.int .i64 (l.getD j 0))) :
    OwnI w B (.slice (some ⟨g, 0, none⟩) l.length cap) l := by
  refine ⟨by rw [intCells_length, Nat.mul_one], .inr ⟨g, cap, cur, rfl, hB, hg, hn, hm, by rw [hs, Nat.mul_one], ?_⟩⟩
  apply List.ext_getElem?
  intro j
  rw [Nat.mul_one]
  by_cases hj : j < l.length
  · rw [List.getElem?_take_of_lt hj, intCells_get l j hj, Array.getElem?_toList]
    exact hc j hj
  · rw [List.getElem?_eq_none (by simp; omega), List.getElem?_eq_none (by rw [intCells_length]; omega)]

theorem OwnI.ofRowN {w : World} {B g cap n : Nat} {cur : Array Value} {l : List Int} (hnl : n = l.length) (hB : B ≤ g) (hg : w.heap[g]? = some (.cells cur 3 (0, 0))) (hn : l.length ≤ cap) (hm : cap ≤ maxLen) (hs : cur.size = cap) (hc : ∀ j, j < l.length → cur[j]? = some (.int .i64 (l.getD j 0))) :
    OwnI w B (.slice (some ⟨g, 0, none⟩) n cap) l := by
  subst hnl
  exact OwnI.ofRow hB hg hn hm hs hc

/-- The row of numbers of one's own. -/
theorem OwnI.row {w : World} {B : Nat} {v : Value} {l : List Int} (h : OwnI w B v l) : (v = .slice none 0 0 ∧ l = []) ∨ ∃ g cap cur, v = .slice (some ⟨g, 0, none⟩) l.length cap ∧ B ≤ g ∧ g < w.heap.size ∧ w.heap[g]? = some (.cells cur 3 (0, 0)) ∧ l.length ≤ cap ∧ cap ≤ maxLen ∧ cur.size = cap ∧ ∀ j, j < l.length → cur[j]? = some (.int .i64 (l.getD j 0)) := by
  rcases h.2 with ⟨h1, h2⟩ | ⟨g, cap, cur, h1, h2, h3, h4, h5, h6, h7⟩
  · exact .inl ⟨h1, List.eq_nil_of_length_eq_zero h2⟩
  · refine .inr ⟨g, cap, cur, h1, h2, (Array.getElem?_eq_some_iff.1 h3).1, h3, h4, h5, by rw [h6, Nat.mul_one], fun j hj => ?_⟩
    have e := intCells_get l j hj
    rw [← h7, Nat.mul_one, List.getElem?_take_of_lt hj, Array.getElem?_toList] at e
    exact e

theorem drewN_heap (w : World) (q : Nat) : (w.drewN q).heap = w.heap := by
  induction q generalizing w with
  | zero => rfl
  | succ n ih => exact ih _

theorem OwnI.drewN {w : World} {B : Nat} {v : Value} {l : List Int} (h : OwnI w B v l) (q : Nat) : OwnI (w.drewN q) B v l := by
  unfold OwnI World.ownsRow
  rw [drewN_heap]
  exact h

/-- From one world to another nothing that was there is changed but the row of v; v' lies in that row, or in a new one. -/
structure Mv (w w' : World) (v v' : Value) : Prop where
  grown : w.grownBy w' v.ownBlock
  lies : ∀ b, v'.ownBlock = some b → v.ownBlock = some b ∨ w.heap.size ≤ b

theorem Mv.size {w w' : World} {v v' : Value} (h : Mv w w' v v') : w.heap.size ≤ w'.heap.size := h.grown.size

theorem Mv.ofBelow {w w' : World} (h : Below w.heap.size w w') (v : Value) : Mv w w' v v := ⟨⟨h.os, h.tape, h.output, h.size, fun k hk _ => h.block k hk⟩, fun _ hb => .inl hb⟩

theorem Mv.refl (w : World) (v : Value) : Mv w w v v := Mv.ofBelow (Below.refl _ _) v

theorem Mv.alloc (w : World) (v : Value) (X : Obj) : Mv w (w.alloc X) v v := Mv.ofBelow ((Below.refl _ _).alloc (Nat.le_refl _) X) v

theorem Mv.trans {w w1 w2 : World} {v v1 v2 : Value} (h1 : Mv w w1 v v1) (h2 : Mv w1 w2 v1 v2) : Mv w w2 v v2 := by
  have hs := h1.size
  refine ⟨⟨h2.grown.os.trans h1.grown.os, h2.grown.tape.trans h1.grown.tape, h2.grown.output.trans h1.grown.output, Nat.le_trans hs h2.size, fun k hk hne => ?_⟩, fun b hb => ?_⟩
  · rw [h2.grown.block k (by omega) (fun e => ?_)]
    · exact h1.grown.block k hk hne
    · rcases h1.lies k e.symm with h | h
      · exact hne h.symm
      · omega
  · rcases h2.lies b hb with h | h
    · exact h1.lies b h
    · exact .inr (by omega)

theorem Mv.drew {w w' : World} {v v' : Value} (h : Mv w w' v v') : Mv w w'.drew v v' := ⟨⟨h.grown.os, h.grown.tape, h.grown.output, h.grown.size, h.grown.block⟩, h.lies⟩

theorem Mv.below {w w' : World} {v v' : Value} (h : Mv w w' v v') {B : Nat} {l : List Int} (ho : OwnI w B v l) (hB : B ≤ w.heap.size) : Below B w w' :=
  ⟨h.grown.os, h.grown.tape, h.grown.output, h.size, fun k hk => h.grown.block k (by omega) (fun e => by have := (World.ownsRow.lt ho k e.symm).1; omega)⟩

theorem Mv.app {w w' : World} {v v' : Value} {N : Nat} (h : w.grownBy w' v.ownBlock) (hN : w.heap.size = N) (h2 : v'.ownBlock = v.ownBlock ∨ ∃ g, v'.ownBlock = some g ∧ N ≤ g) : Mv w w' v v' := by
  refine ⟨h, fun b hb => ?_⟩
  rcases h2 with h2 | ⟨g, h2, h3⟩
  · exact .inl (by rw [← h2]; exact hb)
  · rw [h2] at hb
    injection hb with hb
    exact .inr (by omega)

theorem setCells_other (g : Nat) : ∀ (vs : List Value) (o : Nat) (w : World) (k : Nat), k ≠ g → (w.setCells g o vs).heap[k]? = w.heap[k]?
  | [], _, _, _, _ => rfl
  | v :: r, o, w, k, h => by
    rw [World.setCells, setCells_other g r (o + 1) _ k h]
    exact Below.heap_setCell _ _ _ _ h

/-- Cells of the row are written. -/
theorem Mv.cells {w w' : World} {v : Value} {g n c n' c' : Nat} (h : Mv w w' v (.slice (some ⟨g, 0, none⟩) n c)) (o : Nat) (vs : List Value) : Mv w (w'.setCells g o vs) v (.slice (some ⟨g, 0, none⟩) n' c') := by
  have hb := belowCells (B := 0) (g := g) (a := w') (Nat.zero_le _) vs o w' (Below.refl _ _)
  refine ⟨⟨hb.os.trans h.grown.os, hb.tape.trans h.grown.tape, hb.output.trans h.grown.output, Nat.le_trans h.size hb.size, fun k hk hne => ?_⟩, fun b hb => h.lies b hb⟩
  rw [setCells_other g vs o w' k (fun e => ?_)]
  · exact h.grown.block k hk hne
  · rcases h.lies g rfl with h' | h'
    · exact hne (by rw [e, h'])
    · omega

/-- A new row. -/
theorem Mv.made {w w' : World} {v v0 : Value} (h : Mv w w' v v0) (X : Obj) (n c : Nat) : Mv w (w'.alloc X) v (.slice (some ⟨w'.heap.size, 0, none⟩) n c) := by
  have hb := (Below.refl w'.heap.size w').alloc (Nat.le_refl _) X
  refine ⟨⟨hb.os.trans h.grown.os, hb.tape.trans h.grown.tape, hb.output.trans h.grown.output, Nat.le_trans h.size hb.size, fun k hk hne => ?_⟩, fun b hb => .inr ?_⟩
  · rw [hb.block k (by have := h.size; omega)]
    exact h.grown.block k hk hne
  · have := ownBlock_is hb
    have := h.size
    omega

theorem Mv.drewN {w w' : World} {v v' : Value} (h : Mv w w' v v') (q : Nat) : Mv w (w'.drewN q) v v' := by
  have hb := below_drewN (Below.refl 0 w') q
  exact ⟨⟨hb.os.trans h.grown.os, hb.tape.trans h.grown.tape, hb.output.trans h.grown.output, Nat.le_trans h.size hb.size, fun k hk hne => by rw [drewN_heap]; exact h.grown.block k hk hne⟩, h.lies⟩

/-- One of one's own numbers is written. -/
theorem OwnI.put {w : World} {B : Nat} {v : Value} {l : List Int} (h : OwnI w B v l) (j : Nat) (hj : j < l.length) (n : Int) :
    ∃ g cap, v = .slice (some ⟨g, 0, none⟩) l.length cap ∧ w.cell? ⟨g, j, none⟩ = some (.int .i64 (l.getD j 0)) ∧ w.frozen? ⟨g, j, none⟩ = false ∧ B ≤ g ∧ g < w.heap.size ∧ OwnI (w.setCell ⟨g, j, none⟩ (.int .i64 n)) B v (l.set j n) ∧ Mv w (w.setCell ⟨g, j, none⟩ (.int .i64 n)) v v := by
  rcases h.row with ⟨_, h2⟩ | ⟨g, cap, cur, rfl, h2, hlt, h3, h4, h5, h6, h7⟩
  · subst h2; simp at hj
  · refine ⟨g, cap, rfl, ?_, frozen_of_row w g j _ _ h3, h2, hlt, ?_, (Mv.refl w (.slice (some ⟨g, 0, none⟩) l.length cap)).cells j [_]⟩
    · rw [cell_of_row w g j _ _ _ h3]
      exact h7 j hj
    · have e : l.length = (l.set j n).length := by simp
      rw [e]
      refine OwnI.ofRow h2 (heap_setCell_same w g j _ _ _ h3) (by rw [← e]; exact h4) h5 (by simpa using h6) (fun i hi => ?_)
      rw [← e] at hi
      by_cases hij : i = j
      · subst hij
        have : i < cur.size := by omega
        simp [this, List.getD, hi]
      · have hne : ¬ j = i := fun h => hij h.symm
        have := h7 i hi
        simp [hne, this, List.getD]

/-- Clone. -/
theorem cloneI_any (v : Value) (l : List Int) (w : World) (hr : RdI w v l) (hlim : l.length ≤ 1000000) :
    Calls Tryz.prog 32 #[v] w fun e w' => ∃ v', e = .returned v' ∧ OwnI w' w.heap.size v' l ∧ Below w.heap.size w w' := by
  obtain ⟨ao, cap, rfl, hlc, hcm, hn0, hi, hao⟩ := hr
  cases ao with
  | none =>
    have hc := hn0 rfl
    have hl : l = [] := List.eq_nil_of_length_eq_zero (by omega)
    subst hl
    refine Calls.mono (Any.slices_Clone_int_nil layM15 _ cap w) ?_
    rintro e w' ⟨rfl, rfl⟩
    exact ⟨_, rfl, OwnI.nil _ _, Below.refl _ _⟩
  | some a =>
    by_cases hl : l = []
    · subst hl
      refine Calls.mono (Any.slices_Clone_int_zero layM15 a cap w) ?_
      rintro e w' ⟨v', rfl, ho, _, hb⟩
      exact ⟨v', rfl, ho, hb⟩
    · rcases hao with hao | ⟨b, off, hab, hc⟩
      · exact absurd hao hl
      · injection hab with hab
        subst hab
        refine Calls.mono (Any.slices_Clone_int layM15 b off l.length cap l w (Nat.le_refl _) (by omega) hc) ?_
        rintro e w' ⟨v', rfl, ho, _, hb⟩
        refine ⟨v', rfl, ?_, hb⟩
        rw [List.take_length] at ho
        exact ho

/-- Equal. -/
theorem equalI_any (va : Value) (A : List Int) (vb : Value) (B : List Int) (w : World) (ha : RdI w va A) (hb : RdI w vb B) :
    Calls Tryz.prog 26 #[va, vb] w fun e w' => e = .returned (.bool (decide (A = B))) ∧ Below w.heap.size w w' := by
  obtain ⟨ao, cap, rfl, hlc, hcm, hn0, hi, hao⟩ := ha
  obtain ⟨bo, bcap, rfl, hlc', hcm', hn0', hi', hbo⟩ := hb
  by_cases hl : A.length = B.length
  · by_cases h0 : A.length = 0
    · have hA : A = [] := List.eq_nil_of_length_eq_zero h0
      have hB : B = [] := List.eq_nil_of_length_eq_zero (by omega)
      subst hA
      subst hB
      refine Calls.mono (Any.slices_Equal_int_empty layE ao bo cap 0 bcap w (by omega)) ?_
      rintro e w' ⟨rfl, rfl⟩
      exact ⟨rfl, Below.refl _ _⟩
    · rcases hao with hao | ⟨b1, o1, rfl, hc1⟩
      · rw [hao] at h0; simp at h0
      rcases hbo with hbo | ⟨b2, o2, rfl, hc2⟩
      · have e0 : B.length = 0 := by rw [hbo]; rfl
        omega
      have hcm1 : cap ≤ 9223372036854775807 := by unfold maxLen at hcm; omega
      have hcm2 : bcap ≤ 9223372036854775807 := by unfold maxLen at hcm'; omega
      refine Calls.mono (Any.slices_Equal_int layE b1 o1 A.length cap b2 o2 B.length bcap A B w (Nat.le_refl _) (Nat.le_refl _) (by omega) (by omega) hc1 hc2) ?_
      rintro e w' ⟨rfl, q, rfl⟩
      refine ⟨?_, below_drewN (Below.refl _ _) q⟩
      rw [List.take_length, List.take_length]
      by_cases h : A = B
      · rw [decide_eq_true h, beq_iff_eq.2 h]
      · rw [decide_eq_false h, beq_eq_false_iff_ne.2 h]
  · refine Calls.mono (Any.slices_Equal_int_lens layE ao bo A.length cap B.length bcap w hl) ?_
    rintro e w' ⟨rfl, rfl⟩
    exact ⟨by rw [decide_eq_false (fun h => hl (by rw [h]))], Below.refl _ _⟩

theorem get3 {α : Type} (A vs : List α) (i : Nat) (hi : i ≤ A.length) (j : Nat) : (A.take i ++ (vs ++ A.drop i))[j]? = if j < i then A[j]? else if j < i + vs.length then vs[j - i]? else A[j - vs.length]? := by
  have hl : (A.take i).length = i := by simp; omega
  by_cases h1 : j < i
  · rw [if_pos h1, List.getElem?_append_left (by omega), List.getElem?_take_of_lt h1]
  · rw [if_neg h1, List.getElem?_append_right (by omega), hl]
    by_cases h2 : j < i + vs.length
    · rw [if_pos h2, List.getElem?_append_left (by omega)]
    · rw [if_neg h2, List.getElem?_append_right (by omega), List.getElem?_drop]
      congr 1
      omega

theorem intCells_append (A B : List Int) : intCells (A ++ B) = intCells A ++ intCells B := by simp [intCells]
theorem intCells_take (A : List Int) (i : Nat) : intCells (A.take i) = (intCells A).take i := by simp [intCells]
theorem intCells_drop (A : List Int) (i : Nat) : intCells (A.drop i) = (intCells A).drop i := by simp [intCells]

theorem ins_cells (l : List Int) (i : Nat) (hi : i ≤ l.length) (x y : Int) (j : Nat) (hj : j < (l.take i ++ ([x, y] ++ l.drop i)).length) :
    some (.int .i64 ((l.take i ++ ([x, y] ++ l.drop i)).getD j 0)) = if j < i then (intCells l)[j]? else if j < i + 2 then [Value.int .i64 x, .int .i64 y][j - i]? else (intCells l)[j - 2]? := by
  rw [← intCells_get _ j hj, intCells_append, intCells_append, intCells_take, intCells_drop]
  exact get3 (intCells l) (intCells [x, y]) i (by rw [intCells_length]; exact hi) j

end Go.Proofs.YtgpdbboieokldaaGreat
