/- Contracts over int of slices.Clone, Equal, Delete, Insert, in the words of RdI and OwnI; a number written into a row of one's own. -/
import Derived.Test.YtedfacbngefhnaaObjsShelf
namespace Go.Proofs.Ytedfacbngefhnaa
open Go.RowKit

/-- Cells of a row, some of them written anew. -/
def layC (cur : Array Value) : Nat → List Value → Array Value
  | _, [] => cur
  | o, v :: r => layC (cur.setIfInBounds o v) (o + 1) r

theorem layC_size : ∀ (vs : List Value) (o : Nat) (cur : Array Value), (layC cur o vs).size = cur.size
  | [], _, _ => rfl
  | v :: r, o, cur => by rw [layC, layC_size r]; simp

theorem layC_get : ∀ (vs : List Value) (o : Nat) (cur : Array Value) (j : Nat), j < cur.size → (layC cur o vs)[j]? = if o ≤ j ∧ j < o + vs.length then vs[j - o]? else cur[j]?
  | [], o, cur, j, _ => by
    rw [layC, if_neg (by rw [List.length_nil]; omega)]
  | v :: r, o, cur, j, hj => by
    rw [layC, layC_get r (o + 1) _ j (by simpa using hj)]
    by_cases h : j = o
    · subst h
      rw [if_neg (by omega), if_pos (by simp)]
      simp [hj]
    · by_cases h2 : o + 1 ≤ j ∧ j < o + 1 + r.length
      · rw [if_pos h2, if_pos (by simp; omega)]
        rw [show j - o = (j - (o + 1)) + 1 by omega]
        simp
      · rw [if_neg h2, if_neg (by simp; omega)]
        simp [show ¬ o = j by omega]

theorem heap_setCells (g : Nat) (t : TypeId) : ∀ (vs : List Value) (o : Nat) (w : World) (cur : Array Value), w.heap[g]? = some (.cells cur t (0, 0)) → (w.setCells g o vs).heap[g]? = some (.cells (layC cur o vs) t (0, 0))
  | [], _, _, _, h => h
  | v :: r, o, w, cur, h => by
    rw [World.setCells, layC]
    exact heap_setCells g t r (o + 1) _ _ (heap_setCell_same w g o cur t v h)

theorem belowCells {B g : Nat} {a : World} (hg : B ≤ g) : ∀ (vs : List Value) (o : Nat) (w : World), Below B a w → Below B a (w.setCells g o vs)
  | [], _, _, h => h
  | v :: r, o, w, h => by
    rw [World.setCells]
    exact belowCells hg r (o + 1) _ (h.setCell hg v)

theorem belowDrew {B : Nat} {a w : World} (h : Below B a w) : Below B a w.drew := ⟨h.os, h.tape, h.output, h.size, h.block⟩

/-- Numbers of one's own, by their cells. -/
theorem OwnI.ofRow {w : World} {B g cap : Nat} {cur : Array Value} {l : List Int} (hB : B ≤ g) (hg : w.heap[g]? = some (.cells cur 3 (0, 0))) (hn : l.length ≤ cap) (hm : cap ≤ maxLen) (hs : cur.size = cap) (hc : ∀ j, j < l.length → cur[j]? = some (.int .i64 (l.getD j 0))) :
    OwnI w B (.slice (some ⟨g, 0, none⟩) l.length cap) l := by
  refine ⟨by rw [intCells_length, Nat.mul_one], .inr ⟨g, cap, cur, rfl, hB, hg, hn, hm, by rw [hs, Nat.mul_one], ?_⟩⟩
  apply List.ext_getElem?
  intro j
  rw [Nat.mul_one]
  by_cases hj : j < l.length
  · rw [List.getElem?_take_of_lt hj, intCells_get l j hj, Array.getElem?_toList]
    exact hc j hj
  · rw [List.getElem?_eq_none (by simp; omega), List.getElem?_eq_none (by rw [intCells_length]; omega)]

theorem OwnI.ofRowN {w : World} {B g cap n : Nat} {cur : Array Value} {l : List Int} (hnl : n = l.length) (hB : B ≤ g) (hg : w.heap[g]? = some (.cells cur 3 (0, 0))) (hn : l.length ≤ cap) (hm : cap ≤ maxLen) (hs : cur.size = cap) (hc : ∀ j, j < l.length → cur[j]? = some (.int .i64 (l.getD j 0))) :
    OwnI w B (.slice (some ⟨g, 0, none⟩) n cap) l := by
  subst hnl
  exact OwnI.ofRow hB hg hn hm hs hc

/-- The row of numbers of one's own. -/
theorem OwnI.row {w : World} {B : Nat} {v : Value} {l : List Int} (h : OwnI w B v l) : (v = .slice none 0 0 ∧ l = []) ∨ ∃ g cap cur, v = .slice (some ⟨g, 0, none⟩) l.length cap ∧ B ≤ g ∧ g < w.heap.size ∧ w.heap[g]? = some (.cells cur 3 (0, 0)) ∧ l.length ≤ cap ∧ cap ≤ maxLen ∧ cur.size = cap ∧ ∀ j, j < l.length → cur[j]? = some (.int .i64 (l.getD j 0)) := by
  rcases h.2 with ⟨h1, h2⟩ | ⟨g, cap, cur, h1, h2, h3, h4, h5, h6, h7⟩
  · exact .inl ⟨h1, List.eq_nil_of_length_eq_zero h2⟩
  · refine .inr ⟨g, cap, cur, h1, h2, (Array.getElem?_eq_some_iff.1 h3).1, h3, h4, h5, by rw [h6, Nat.mul_one], fun j hj => ?_⟩
    have e := intCells_get l j hj
    rw [← h7, Nat.mul_one, List.getElem?_take_of_lt hj, Array.getElem?_toList] at e
    exact e

theorem drewN_heap (w : World) (q : Nat) : (w.drewN q).heap = w.heap := by
  induction q generalizing w with
  | zero => rfl
  | succ n ih => exact ih _

theorem OwnI.drewN {w : World} {B : Nat} {v : Value} {l : List Int} (h : OwnI w B v l) (q : Nat) : OwnI (w.drewN q) B v l := by
  unfold OwnI World.ownsRow
  rw [drewN_heap]
  exact h

/-- From one world to another nothing that was there is changed but the row of v; v' lies in that row, or in a new one. -/
structure Mv (w w' : World) (v v' : Value) : Prop where
  grown : w.grownBy w' v.ownBlock
  lies : ∀ b, v'.ownBlock = some b → v.ownBlock = some b ∨ w.heap.size ≤ b

theorem Mv.size {w w' : World} {v v' : Value} (h : Mv w w' v v') : w.heap.size ≤ w'.heap.size := h.grown.size

theorem Mv.ofBelow {w w' : World} (h : Below w.heap.size w w') (v : Value) : Mv w w' v v := ⟨⟨h.os, h.tape, h.output, h.size, fun k hk _ => h.block k hk⟩, fun _ hb => .inl hb⟩

theorem Mv.refl (w : World) (v : Value) : Mv w w v v := Mv.ofBelow (Below.refl _ _) v

theorem Mv.alloc (w : World) (v : Value) (X : Obj) : Mv w (w.alloc X) v v := Mv.ofBelow ((Below.refl _ _).alloc (Nat.le_refl _) X) v

theorem Mv.trans {w w1 w2 : World} {v v1 v2 : Value} (h1 : Mv w w1 v v1) (h2 : Mv w1 w2 v1 v2) : Mv w w2 v v2 := by
  have hs := h1.size
  refine ⟨⟨h2.grown.os.trans h1.grown.os, h2.grown.tape.trans h1.grown.tape, h2.grown.output.trans h1.grown.output, Nat.le_trans hs h2.size, fun k hk hne => ?_⟩, fun b hb => ?_⟩
  · rw [h2.grown.block k (by omega) (fun e => ?_)]
    · exact h1.grown.block k hk hne
    · rcases h1.lies k e.symm with h | h
      · exact hne h.symm
      · omega
  · rcases h2.lies b hb with h | h
    · exact h1.lies b h
    · exact .inr (by omega)

theorem Mv.drew {w w' : World} {v v' : Value} (h : Mv w w' v v') : Mv w w'.drew v v' := ⟨⟨h.grown.os, h.grown.tape, h.grown.output, h.grown.size, h.grown.block⟩, h.lies⟩

theorem Mv.below {w w' : World} {v v' : Value} (h : Mv w w' v v') {B : Nat} {l : List Int} (ho : OwnI w B v l) (hB : B ≤ w.heap.size) : Below B w w' :=
  ⟨h.grown.os, h.grown.tape, h.grown.output, h.size, fun k hk => h.grown.block k (by omega) (fun e => by have := (World.ownsRow.lt ho k e.symm).1; omega)⟩

theorem Mv.app {w w' : World} {v v' : Value} {N : Nat} (h : w.grownBy w' v.ownBlock) (hN : w.heap.size = N) (h2 : v'.ownBlock = v.ownBlock ∨ ∃ g, v'.ownBlock = some g ∧ N ≤ g) : Mv w w' v v' := by
  refine ⟨h, fun b hb => ?_⟩
  rcases h2 with h2 | ⟨g, h2, h3⟩
  · exact .inl (by rw [← h2]; exact hb)
  · rw [h2] at hb
    injection hb with hb
    exact .inr (by omega)

theorem setCells_other (g : Nat) : ∀ (vs : List Value) (o : Nat) (w : World) (k : Nat), k ≠ g → (w.setCells g o vs).heap[k]? = w.heap[k]?
  | [], _, _, _, _ => rfl
  | v :: r, o, w, k, h => by
    rw [World.setCells, setCells_other g r (o + 1) _ k h]
    exact Below.heap_setCell _ _ _ _ h

/-- Cells of the row are written. -/
theorem Mv.cells {w w' : World} {v : Value} {g n c n' c' : Nat} (h : Mv w w' v (.slice (some ⟨g, 0, none⟩) n c)) (o : Nat) (vs : List Value) : Mv w (w'.setCells g o vs) v (.slice (some ⟨g, 0, none⟩) n' c') := by
  have hb := belowCells (B := 0) (g := g) (a := w') (Nat.zero_le _) vs o w' (Below.refl _ _)
  refine ⟨⟨hb.os.trans h.grown.os, hb.tape.trans h.grown.tape, hb.output.trans h.grown.output, Nat.le_trans h.size hb.size, fun k hk hne => ?_⟩, fun b hb => h.lies b hb⟩
  rw [setCells_other g vs o w' k (fun e => ?_)]
  · exact h.grown.block k hk hne
  · rcases h.lies g rfl with h' | h'
    · exact hne (by rw [e, h'])
    · omega

/-- A new row. -/
theorem Mv.made {w w' : World} {v v0 : Value} (h : Mv w w' v v0) (X : Obj) (n c : Nat) : Mv w (w'.alloc X) v (.slice (some ⟨w'.heap.size, 0, none⟩) n c) := by
  have hb := (Below.refl w'.heap.size w').alloc (Nat.le_refl _) X
  refine ⟨⟨hb.os.trans h.grown.os, hb.tape.trans h.grown.tape, hb.output.trans h.grown.output, Nat.le_trans h.size hb.size, fun k hk hne => ?_⟩, fun b hb => .inr ?_⟩
  · rw [hb.block k (by have := h.size; omega)]
    exact h.grown.block k hk hne
  · have := ownBlock_is hb
    have := h.size
    omega

theorem Mv.drewN {w w' : World} {v v' : Value} (h : Mv w w' v v') (q : Nat) : Mv w (w'.drewN q) v v' := by
  have hb := below_drewN (Below.refl 0 w') q
  exact ⟨⟨hb.os.trans h.grown.os, hb.tape.trans h.grown.tape, hb.output.trans h.grown.output, Nat.le_trans h.size hb.size, fun k hk hne => by rw [drewN_heap]; exact h.grown.block k hk hne⟩, h.lies⟩

/-- One of one's own numbers is written. -/
theorem OwnI.put {w : World} {B : Nat} {v : Value} {l : List Int} (h : OwnI w B v l) (j : Nat) (hj : j < l.length) (n : Int) :
    ∃ g cap, v = .slice (some ⟨g, 0, none⟩) l.length cap ∧ w.cell? ⟨g, j, none⟩ = some (.int .i64 (l.getD j 0)) ∧ w.frozen? ⟨g, j, none⟩ = false ∧ B ≤ g ∧ g < w.heap.size ∧ OwnI (w.setCell ⟨g, j, none⟩ (.int .i64 n)) B v (l.set j n) ∧ Mv w (w.setCell ⟨g, j, none⟩ (.int .i64 n)) v v := by
  rcases h.row with ⟨_, h2⟩ | ⟨g, cap, cur, rfl, h2, hlt, h3, h4, h5, h6, h7⟩
  · subst h2; simp at hj
  · refine ⟨g, cap, rfl, ?_, frozen_of_row w g j _ _ h3, h2, hlt, ?_, (Mv.refl w (.slice (some ⟨g, 0, none⟩) l.length cap)).cells j [_]⟩
    · rw [cell_of_row w g j _ _ _ h3]
      exact h7 j hj
    · have e : l.length = (l.set j n).length := by simp
      rw [e]
      refine OwnI.ofRow h2 (heap_setCell_same w g j _ _ _ h3) (by rw [← e]; exact h4) h5 (by simpa using h6) (fun i hi => ?_)
      rw [← e] at hi
      by_cases hij : i = j
      · subst hij
        have : i < cur.size := by omega
        simp [this, List.getD, hi]
      · have hne : ¬ j = i := fun h => hij h.symm
        have := h7 i hi
        simp [hne, this, List.getD]

/-- Clone. -/
theorem cloneI_any (v : Value) (l : List Int) (w : World) (hr : RdI w v l) (hlim : l.length ≤ 1000000) :
    Calls Try.prog 33 #[v] w fun e w' => ∃ v', e = .returned v' ∧ OwnI w' w.heap.size v' l ∧ Below w.heap.size w w' := by
  obtain ⟨ao, cap, rfl, hlc, hcm, hn0, hi, hao⟩ := hr
  cases ao with
  | none =>
    have hc := hn0 rfl
    have hl : l = [] := List.eq_nil_of_length_eq_zero (by omega)
    subst hl
    refine Calls.mono (Any.slices_Clone_int_nil layM15 _ cap w) ?_
    rintro e w' ⟨rfl, rfl⟩
    exact ⟨_, rfl, OwnI.nil _ _, Below.refl _ _⟩
  | some a =>
    by_cases hl : l = []
    · subst hl
      refine Calls.mono (Any.slices_Clone_int_zero layM15 a cap w) ?_
      rintro e w' ⟨v', rfl, ho, _, hb⟩
      exact ⟨v', rfl, ho, hb⟩
    · rcases hao with hao | ⟨b, off, hab, hc⟩
      · exact absurd hao hl
      · injection hab with hab
        subst hab
        refine Calls.mono (Any.slices_Clone_int layM15 b off l.length cap l w (Nat.le_refl _) (by omega) hc) ?_
        rintro e w' ⟨v', rfl, ho, _, hb⟩
        refine ⟨v', rfl, ?_, hb⟩
        rw [List.take_length] at ho
        exact ho

/-- Delete, of numbers of one's own. -/
theorem deleteI_any (v : Value) (l : List Int) (B : Nat) (w : World) (ho : OwnI w B v l) (i j : Nat) (hij : i < j) (hj : j ≤ l.length) (I J : Int) (hI : I = i) (hJ : J = j) :
    Calls Try.prog 76 #[v, .int .i64 I, .int .i64 J] w fun e w' => ∃ v', e = .returned v' ∧ OwnI w' B v' (l.take i ++ l.drop j) ∧ Mv w w' v v' := by
  subst hI
  subst hJ
  rcases ho.row with ⟨_, h2⟩ | ⟨g, cap, cur, rfl, hB, hlt, hg, hn, hm, hs, hc⟩
  · subst h2; simp at hj; omega
  · unfold maxLen at hm
    refine Calls.mono (Any.slices_Delete_int_cells layM23 g 0 l.length cap i j l w (Nat.le_refl _) hn (by omega) (by omega) hj
      (fun k hk => by rw [Nat.zero_add, cell_of_row w g k _ _ _ hg]; exact hc k hk) (fun k hk => by rw [Nat.zero_add]; exact frozen_of_row w g k _ _ hg)) ?_
    rintro e w' ⟨rfl, q, rfl⟩
    refine ⟨_, rfl, ?_, ((Mv.refl w (.slice (some ⟨g, 0, none⟩) l.length cap)).drewN q).cells _ _⟩
    have hlen : (l.take i ++ l.drop j).length = l.length - (j - i) := by simp; omega
    rw [← hlen]
    refine OwnI.ofRow hB (heap_setCells g _ _ _ _ cur (by rw [drewN_heap]; exact hg)) (by omega) (by unfold maxLen; omega) (by rw [layC_size]; exact hs) (fun k hk => ?_)
    rw [layC_get _ _ _ _ (by omega), List.take_length, if_pos (by simp at hk ⊢; omega), Nat.sub_zero, List.map_append, List.getElem?_append_left (by simpa using hk)]
    exact intCells_get _ k hk

theorem get3 {α : Type} (A vs : List α) (i : Nat) (hi : i ≤ A.length) (j : Nat) : (A.take i ++ (vs ++ A.drop i))[j]? = if j < i then A[j]? else if j < i + vs.length then vs[j - i]? else A[j - vs.length]? := by
  have hl : (A.take i).length = i := by simp; omega
  by_cases h1 : j < i
  · rw [if_pos h1, List.getElem?_append_left (by omega), List.getElem?_take_of_lt h1]
  · rw [if_neg h1, List.getElem?_append_right (by omega), hl]
    by_cases h2 : j < i + vs.length
    · rw [if_pos h2, List.getElem?_append_left (by omega)]
    · rw [if_neg h2, List.getElem?_append_right (by omega), List.getElem?_drop]
      congr 1
      omega

theorem intCells_append (A B : List Int) : intCells (A ++ B) = intCells A ++ intCells B := by simp [intCells]
theorem intCells_take (A : List Int) (i : Nat) : intCells (A.take i) = (intCells A).take i := by simp [intCells]
theorem intCells_drop (A : List Int) (i : Nat) : intCells (A.drop i) = (intCells A).drop i := by simp [intCells]

theorem ins_cells (l : List Int) (i : Nat) (hi : i ≤ l.length) (x y : Int) (j : Nat) (hj : j < (l.take i ++ ([x, y] ++ l.drop i)).length) :
    some (.int .i64 ((l.take i ++ ([x, y] ++ l.drop i)).getD j 0)) = if j < i then (intCells l)[j]? else if j < i + 2 then [Value.int .i64 x, .int .i64 y][j - i]? else (intCells l)[j - 2]? := by
  rw [← intCells_get _ j hj, intCells_append, intCells_append, intCells_take, intCells_drop]
  exact get3 (intCells l) (intCells [x, y]) i (by rw [intCells_length]; exact hi) j

/-- Insert of two numbers, of numbers of one's own. -/
theorem insertI_any (v : Value) (l : List Int) (B : Nat) (w : World) (ho : OwnI w B v l) (hB : B ≤ w.heap.size) (hlim : l.length ≤ 1000000) (i : Nat) (hi : i ≤ l.length) (I : Int) (hI : I = i) (x y : Int) (N : Nat) (hN : N = w.heap.size) :
    Calls Try.prog 78 #[v, .int .i64 I, .slice (some ⟨N, 0, none⟩) 2 2] (w.alloc (.cells #[.int .i64 x, .int .i64 y] 3)) fun e w' => ∃ v', e = .returned v' ∧ OwnI w' B v' (l.take i ++ ([x, y] ++ l.drop i)) ∧ Mv w w' v v' := by
  subst hI
  subst hN
  have hm0 : Mv w (w.alloc (.cells #[.int .i64 x, .int .i64 y] 3)) v v := Mv.alloc w v _
  have hv := heap_alloc_new w (.cells #[.int .i64 x, .int .i64 y] 3)
  have hsz : (w.alloc (.cells #[.int .i64 x, .int .i64 y] 3)).heap.size = w.heap.size + 1 := by simp
  have hg0 : ∀ k, k < w.heap.size → (w.alloc (.cells #[.int .i64 x, .int .i64 y] 3)).heap[k]? = w.heap[k]? := fun k hk => Below.heap_alloc _ _ _ hk
  generalize w.alloc (.cells #[.int .i64 x, .int .i64 y] 3) = W at *
  have hlen : (l.take i ++ ([x, y] ++ l.drop i)).length = l.length + 2 := by simp; omega
  have hvs : ∀ j u, [Value.int .i64 x, .int .i64 y][j]? = some u → W.cell? ⟨w.heap.size, 0 + j, none⟩ = some u := fun j u hu => by
    rw [Nat.zero_add, cell_of_row W w.heap.size j _ _ _ hv]
    simpa using hu
  have h1v : ∀ u ∈ [Value.int .i64 x, .int .i64 y], u.oneCell' = true := fun u hu => by
    simp at hu
    rcases hu with rfl | rfl <;> rfl
  have hcl := intCells_length l
  have h1c := intCells_one l
  have hz : (Value.int .i64 0).cells.size = 1 := rfl
  have e3 : layM21_ren.t 3 = 3 := rfl
  rcases ho.row with ⟨rfl, rfl⟩ | ⟨g, cap, cur, rfl, hBg, hlt, hg, hn, hm, hs, hc⟩
  · have hi0 : i = 0 := by simpa using hi
    subst hi0
    refine Calls.mono (Any2.slices_Insert_int_end_grow layM21 none 0 0 w.heap.size 0 2 2 [] [.int .i64 x, .int .i64 y] W (by omega) (by omega) (by omega) (by omega) rfl rfl (fun _ => rfl) (fun a ha => by cases ha) hvs h1v) ?_
    rintro e w' ⟨rfl, rfl⟩
    rw [e3]
    have hge := grownCap_ge W (0 + 2) 0 3
    have hle := grownCap_le_maxLen W (0 + 2) 0 3 (by unfold maxLen; omega)
    refine ⟨_, rfl, ?_, hm0.drew.made _ _ _⟩
    have e2 : 0 + 2 = ([x, y] : List Int).length := rfl
    show OwnI _ B (.slice (some ⟨W.heap.size, 0, none⟩) (0 + 2) (grownCap W (0 + 2) 0 3)) [x, y]
    generalize grownCap W (0 + 2) 0 3 = gc at *
    exact OwnI.ofRow (by omega) (heap_alloc_new W.drew _) hge hle (by simp [size_zeroCells, hz]; omega) (fun j hj => by
      have hj' : j = 0 ∨ j = 1 := by simp at hj; omega
      rcases hj' with rfl | rfl <;> (rw [Array.getElem?_append_left (by simp)]; rfl))
  · have hgW : W.heap[g]? = some (.cells cur 3 (0, 0)) := (hg0 g hlt).trans hg
    have hcs : ∀ j u, (intCells l)[j]? = some u → W.cell? ⟨g, 0 + j, none⟩ = some u := fun j u hu => by
      have hj : j < l.length := by rw [← hcl]; exact (List.getElem?_eq_some_iff.1 hu).1
      rw [Nat.zero_add, cell_of_row W g j _ _ _ hgW, hc j hj, ← intCells_get l j hj, hu]
    have hcurj : ∀ j, j < l.length → cur[j]? = (intCells l)[j]? := fun j hj => by rw [hc j hj, intCells_get l j hj]
    have hm' : cap ≤ 9223372036854775807 := by unfold maxLen at hm; omega
    by_cases hroom : l.length + 2 ≤ cap
    · have hsp : ∀ j, j < l.length + 2 → (W.cell? ⟨g, 0 + j, none⟩).isSome = true := fun j hj => by
        rw [Nat.zero_add, cell_of_row W g j _ _ _ hgW, Array.getElem?_eq_getElem (by omega)]
        rfl
      have hfz : ∀ j, j < l.length + 2 → W.frozen? ⟨g, 0 + j, none⟩ = false := fun j hj => frozen_of_row W g _ _ _ hgW
      by_cases he : i = l.length
      · subst he
        refine Calls.mono (Any2.slices_Insert_int_end_room layM21 g 0 l.length cap w.heap.size 0 2 2 [.int .i64 x, .int .i64 y] W (by omega) hroom hm' rfl
          (fun j hj => by rw [Nat.add_assoc]; exact hsp _ (by omega)) (fun j hj => by rw [Nat.add_assoc]; exact hfz _ (by omega)) hvs h1v) ?_
        rintro e w' ⟨rfl, rfl⟩
        refine ⟨_, rfl, ?_, hm0.cells _ _⟩
        rw [← hlen]
        refine OwnI.ofRow hBg (heap_setCells g _ _ _ _ cur hgW) (by omega) hm (by rw [layC_size]; exact hs) (fun j hj => ?_)
        rw [layC_get _ _ _ _ (by omega), ins_cells l l.length (Nat.le_refl _) x y j hj, Nat.zero_add]
        rw [hlen] at hj
        by_cases h1 : j < l.length
        · rw [if_neg (by omega), if_pos h1, hcurj j h1]
        · rw [if_pos (by simp; omega), if_neg h1, if_pos (by omega)]
      · refine Calls.mono (Any2.slices_Insert_int_shift layM21 g 0 l.length cap i w.heap.size 0 2 2 (intCells l) [.int .i64 x, .int .i64 y] W (by omega) (by omega) hroom hm' (by omega) hcl rfl hcs hsp hfz hvs h1c h1v
          3 3 2 cap (by simp [World.shape?, hv]) (by simp [World.shape?, hgW, hs]) (by omega) (frozen_of_row W _ _ _ _ hv) (frozen_of_row W _ _ _ _ hv)) ?_
        rintro e w' ⟨rfl, rfl⟩
        refine ⟨_, rfl, ?_, (Mv.cells (n' := 0) (c' := 0) hm0.drew _ _).cells _ _⟩
        rw [← hlen]
        refine OwnI.ofRow hBg (heap_setCells g _ _ _ _ _ (heap_setCells g _ _ _ _ cur hgW)) (by omega) hm (by rw [layC_size, layC_size]; exact hs) (fun j hj => ?_)
        rw [layC_get _ _ _ _ (by rw [layC_size]; omega), layC_get _ _ _ _ (by omega), ins_cells l i hi x y j hj, Nat.zero_add, Nat.zero_add]
        rw [hlen] at hj
        have hdl : ((intCells l).drop i).length = l.length - i := by simp [intCells]
        rw [hdl]
        by_cases h1 : j < i
        · rw [if_neg (by omega), if_neg (by omega), if_pos h1, hcurj j (by omega)]
        · by_cases h2 : j < i + 2
          · rw [if_pos (by simp; omega), if_neg h1, if_pos h2]
          · rw [if_neg (by simp; omega), if_pos (by omega), if_neg h1, if_neg h2, List.getElem?_drop]
            congr 1
            omega
    · by_cases he : i = l.length
      · subst he
        refine Calls.mono (Any2.slices_Insert_int_end_grow layM21 (some ⟨g, 0, none⟩) l.length cap w.heap.size 0 2 2 (intCells l) [.int .i64 x, .int .i64 y] W (by omega) hn (by omega) (by omega) hcl rfl (fun h => by cases h)
          (fun a ha j u hu => by injection ha with ha; subst ha; rw [Addr.add_lit]; exact hcs j u hu) hvs h1v) ?_
        rintro e w' ⟨rfl, rfl⟩
        rw [e3]
        have hge := grownCap_ge W (l.length + 2) cap 3
        have hle := grownCap_le_maxLen W (l.length + 2) cap 3 (by unfold maxLen; omega)
        refine ⟨_, rfl, ?_, hm0.drew.made _ _ _⟩
        show OwnI _ B (.slice (some ⟨W.heap.size, 0, none⟩) (l.length + 2) (grownCap W (l.length + 2) cap 3)) _
        generalize grownCap W (l.length + 2) cap 3 = gc at *
        rw [← hlen]
        refine OwnI.ofRow (by omega) (heap_alloc_new W.drew _) (by omega) hle (by simp [size_zeroCells, hz, hcl]; omega) (fun j hj => ?_)
        rw [ins_cells l l.length (Nat.le_refl _) x y j hj]
        rw [hlen] at hj
        rw [Array.getElem?_append_left (by simp [hcl]; omega), List.getElem?_toArray]
        by_cases h1 : j < l.length
        · rw [if_pos h1, List.getElem?_append_left (by omega)]
        · rw [if_neg h1, if_pos (by omega), List.getElem?_append_right (by omega), hcl]
      · refine Calls.mono (Any2.slices_Insert_int_grow layM21 g 0 l.length cap i w.heap.size 0 2 2 (intCells l) [.int .i64 x, .int .i64 y] W (by omega) (by omega) hn (by omega) (by omega) hcl rfl hcs hvs h1c h1v) ?_
        rintro e w' ⟨rfl, rfl⟩
        rw [e3]
        have hge := grownCap_ge W (l.length + 2) cap 3
        have hle := grownCap_le_maxLen W (l.length + 2) cap 3 (by unfold maxLen; omega)
        refine ⟨_, rfl, ?_, ((hm0.made _ 0 0).drew.cells (n' := 0) (c' := 0) _ _).drew.cells _ _⟩
        show OwnI _ B (.slice (some ⟨W.heap.size, 0, none⟩) (l.length + 2) (grownCap W (l.length + 2) cap 3)) _
        generalize grownCap W (l.length + 2) cap 3 = gc at *
        have hti : ((intCells l).take i).length = i := by simp [hcl]; omega
        have hdl : ((intCells l).drop i).length = l.length - i := by simp [intCells]
        refine OwnI.ofRowN hlen.symm (cur := layC (layC (((intCells l).take i).toArray ++ Builtin.zeroCells (Value.int .i64 0).cells (l.length + 2 - i) ++ Builtin.zeroCells (Value.int .i64 0).cells (gc - (l.length + 2))) i [.int .i64 x, .int .i64 y]) (i + 2) ((intCells l).drop i)) (by omega) (heap_setCells _ _ _ _ _ _ (heap_setCells _ _ _ _ _ _ (heap_alloc_new W _))) (by omega) hle ?_ (fun j hj => ?_)
        · rw [layC_size, layC_size]
          simp [size_zeroCells, hz, hti]
          omega
        · rw [ins_cells l i hi x y j hj]
          rw [hlen] at hj
          have hcs1 : (((intCells l).take i).toArray ++ Builtin.zeroCells (Value.int .i64 0).cells (l.length + 2 - i) ++ Builtin.zeroCells (Value.int .i64 0).cells (gc - (l.length + 2))).size = gc := by
            simp [size_zeroCells, hz, hti]
            omega
          rw [layC_get _ _ _ _ (by rw [layC_size]; omega), layC_get _ _ _ _ (by omega), hdl]
          by_cases h1 : j < i
          · rw [if_neg (by omega), if_neg (by omega), if_pos h1, Array.getElem?_append_left (by simp [size_zeroCells, hz, hti]; omega), Array.getElem?_append_left (by simp [hti]; omega), List.getElem?_toArray, List.getElem?_take_of_lt h1]
          · by_cases h2 : j < i + 2
            · rw [if_neg (by omega), if_pos (by simp; omega), if_neg h1, if_pos h2]
            · rw [if_pos (by omega), if_neg h1, if_neg h2, List.getElem?_drop]
              congr 1
              omega

end Go.Proofs.Ytedfacbngefhnaa
