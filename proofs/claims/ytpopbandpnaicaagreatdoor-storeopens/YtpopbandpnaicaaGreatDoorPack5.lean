import Derived.Test.YtpopbandpnaicaaGreatDoorPack4
import Derived.Laws.StructEq
import Derived.Shelf.Spec.SlicesInsertGrow
import Derived.Deep.DeepAppendWide
import Derived.Test.YtpopbandpnaicaaGreatDoorPack1
import Derived.Test.YtpopbandpnaicaaGreatDoorPack3
import Derived.Test.YtpopbandpnaicaaGreatDoorPack2
import Derived.Deep.QuietTactic
import Derived.BigQuiet
namespace Go.Proofs.YtpopbandpnaicaaGreatDoor
open Go.RowKit

def layC (cur : Array Value) : Nat -> List Value -> Array Value
 | _, [] => cur
 | o, v :: r => layC (cur.setIfInBounds o v) (o + 1) r

theorem layC_size : ∀ (vs : List Value) (o : Nat) (cur : Array Value), (layC cur o vs).size = cur.size
 | [], _, _ => rfl
 | v :: r, o, cur => by rw [layC, layC_size r]; simp

theorem layC_get : ∀ (vs : List Value) (o : Nat) (cur : Array Value) (j : Nat), j < cur.size -> (layC cur o vs)[j]? = if o <= j ∧ j < o + vs.length then vs[j - o]? else cur[j]?
 | [], o, cur, j, _ => by
   rw [layC, if_neg (by rw [List.length_nil]; omega)]
 | v :: r, o, cur, j, hj => by
   rw [layC, layC_get r (o + 1) _ j (by simpa using hj)]
   by_cases h : j = o
   · subst h
     rw [if_neg (by omega), if_pos (by simp)]
     simp [hj]
   · by_cases h2 : o + 1 <= j ∧ j < o + 1 + r.length
     · rw [if_pos h2, if_pos (by simp; omega)]
       rw [show j - o = (j - (o + 1)) + 1 by omega]
       simp
     · rw [if_neg h2, if_neg (by simp; omega)]
       simp [show ¬ o = j by omega]

theorem heap_setCells (g : Nat) (t : TypeId) : ∀ (vs : List Value) (o : Nat) (w : World) (cur : Array Value), w.heap[g]? = some (.cells cur t (0, 0)) -> (w.setCells g o vs).heap[g]? = some (.cells (layC cur o vs) t (0, 0))
 | [], _, _, _, h => h
 | v :: r, o, w, cur, h => by
   rw [World.setCells, layC]
   exact heap_setCells g t r (o + 1) _ _ (heap_setCell_same w g o cur t v h)

theorem belowCells {B g : Nat} {a : World} (hg : B <= g) : ∀ (vs : List Value) (o : Nat) (w : World), Below B a w -> Below B a (w.setCells g o vs)
 | [], _, _, h => h
 | v :: r, o, w, h => by
   rw [World.setCells]
   exact belowCells hg r (o + 1) _ (h.setCell hg v)

theorem belowDrew {B : Nat} {a w : World} (h : Below B a w) : Below B a w.drew := ⟨h.os, h.tape, h.output, h.size, h.block⟩

theorem OwnI.ofRow {w : World} {B g cap : Nat} {cur : Array Value} {l : List Int} (hB : B <= g) (hg : w.heap[g]? = some (.cells cur 3 (0, 0))) (hn : l.length <= cap) (hm : cap <= maxLen) (hs : cur.size = cap) (hc : ∀ j, j < l.length -> cur[j]? = some (.int .i64 (l.getD j 0))) :
   OwnI w B (.slice (some ⟨g, 0, none⟩) l.length cap) l := by
 refine ⟨by rw [intCells_length, Nat.mul_one], .inr ⟨g, cap, cur, rfl, hB, hg, hn, hm, by rw [hs, Nat.mul_one], ?_⟩⟩
 apply List.ext_getElem?
 intro j
 rw [Nat.mul_one]
 by_cases hj : j < l.length
 · rw [List.getElem?_take_of_lt hj, intCells_get l j hj, Array.getElem?_toList]
   exact hc j hj
 · rw [List.getElem?_eq_none (by simp; omega), List.getElem?_eq_none (by rw [intCells_length]; omega)]

theorem OwnI.ofRowN {w : World} {B g cap n : Nat} {cur : Array Value} {l : List Int} (hnl : n = l.length) (hB : B <= g) (hg : w.heap[g]? = some (.cells cur 3 (0, 0))) (hn : l.length <= cap) (hm : cap <= maxLen) (hs : cur.size = cap) (hc : ∀ j, j < l.length -> cur[j]? = some (.int .i64 (l.getD j 0))) :
   OwnI w B (.slice (some ⟨g, 0, none⟩) n cap) l := by
 subst hnl
 exact OwnI.ofRow hB hg hn hm hs hc

theorem OwnI.row {w : World} {B : Nat} {v : Value} {l : List Int} (h : OwnI w B v l) : (v = .slice none 0 0 ∧ l = []) ∨ ∃ g cap cur, v = .slice (some ⟨g, 0, none⟩) l.length cap ∧ B <= g ∧ g < w.heap.size ∧ w.heap[g]? = some (.cells cur 3 (0, 0)) ∧ l.length <= cap ∧ cap <= maxLen ∧ cur.size = cap ∧ ∀ j, j < l.length -> cur[j]? = some (.int .i64 (l.getD j 0)) := by
 rcases h.2 with ⟨h1, h2⟩ | ⟨g, cap, cur, h1, h2, h3, h4, h5, h6, h7⟩
 · exact .inl ⟨h1, List.eq_nil_of_length_eq_zero h2⟩
 · refine .inr ⟨g, cap, cur, h1, h2, (Array.getElem?_eq_some_iff.1 h3).1, h3, h4, h5, by rw [h6, Nat.mul_one], fun j hj => ?_⟩
   have e := intCells_get l j hj
   rw [<- h7, Nat.mul_one, List.getElem?_take_of_lt hj, Array.getElem?_toList] at e
   exact e

theorem drewN_heap (w : World) (q : Nat) : (w.drewN q).heap = w.heap := by
 induction q generalizing w with
 | zero => rfl
 | succ n ih => exact ih _

structure Mv (w w' : World) (v v' : Value) : Prop where
 grown : w.grownBy w' v.ownBlock
 lies : ∀ b, v'.ownBlock = some b -> v.ownBlock = some b ∨ w.heap.size <= b

theorem Mv.size {w w' : World} {v v' : Value} (h : Mv w w' v v') : w.heap.size <= w'.heap.size := h.grown.size

theorem Mv.ofBelow {w w' : World} (h : Below w.heap.size w w') (v : Value) : Mv w w' v v := ⟨⟨h.os, h.tape, h.output, h.size, fun k hk _ => h.block k hk⟩, fun _ hb => .inl hb⟩

theorem Mv.refl (w : World) (v : Value) : Mv w w v v := Mv.ofBelow (Below.refl _ _) v

theorem Mv.alloc (w : World) (v : Value) (X : Obj) : Mv w (w.alloc X) v v := Mv.ofBelow ((Below.refl _ _).alloc (Nat.le_refl _) X) v

theorem Mv.trans {w w1 w2 : World} {v v1 v2 : Value} (h1 : Mv w w1 v v1) (h2 : Mv w1 w2 v1 v2) : Mv w w2 v v2 := by
 have hs := h1.size
 refine ⟨⟨h2.grown.os.trans h1.grown.os, h2.grown.tape.trans h1.grown.tape, h2.grown.output.trans h1.grown.output, Nat.le_trans hs h2.size, fun k hk hne => ?_⟩, fun b hb => ?_⟩
 · rw [h2.grown.block k (by omega) (fun e => ?_)]
   · exact h1.grown.block k hk hne
   · rcases h1.lies k e.symm with h | h
     · exact hne h.symm
     · omega
 · rcases h2.lies b hb with h | h
   · exact h1.lies b h
   · exact .inr (by omega)

theorem Mv.drew {w w' : World} {v v' : Value} (h : Mv w w' v v') : Mv w w'.drew v v' := ⟨⟨h.grown.os, h.grown.tape, h.grown.output, h.grown.size, h.grown.block⟩, h.lies⟩

theorem Mv.below {w w' : World} {v v' : Value} (h : Mv w w' v v') {B : Nat} {l : List Int} (ho : OwnI w B v l) (hB : B <= w.heap.size) : Below B w w' :=
 ⟨h.grown.os, h.grown.tape, h.grown.output, h.size, fun k hk => h.grown.block k (by omega) (fun e => by have := (World.ownsRow.lt ho k e.symm).1; omega)⟩

theorem Mv.app {w w' : World} {v v' : Value} {N : Nat} (h : w.grownBy w' v.ownBlock) (hN : w.heap.size = N) (h2 : v'.ownBlock = v.ownBlock ∨ ∃ g, v'.ownBlock = some g ∧ N <= g) : Mv w w' v v' := by
 refine ⟨h, fun b hb => ?_⟩
 rcases h2 with h2 | ⟨g, h2, h3⟩
 · exact .inl (by rw [<- h2]; exact hb)
 · rw [h2] at hb
   injection hb with hb
   exact .inr (by omega)

theorem setCells_other (g : Nat) : ∀ (vs : List Value) (o : Nat) (w : World) (k : Nat), k ≠ g -> (w.setCells g o vs).heap[k]? = w.heap[k]?
 | [], _, _, _, _ => rfl
 | v :: r, o, w, k, h => by
   rw [World.setCells, setCells_other g r (o + 1) _ k h]
   exact Below.heap_setCell _ _ _ _ h

theorem Mv.cells {w w' : World} {v : Value} {g n c n' c' : Nat} (h : Mv w w' v (.slice (some ⟨g, 0, none⟩) n c)) (o : Nat) (vs : List Value) : Mv w (w'.setCells g o vs) v (.slice (some ⟨g, 0, none⟩) n' c') := by
 have hb := belowCells (B := 0) (g := g) (a := w') (Nat.zero_le _) vs o w' (Below.refl _ _)
 refine ⟨⟨hb.os.trans h.grown.os, hb.tape.trans h.grown.tape, hb.output.trans h.grown.output, Nat.le_trans h.size hb.size, fun k hk hne => ?_⟩, fun b hb => h.lies b hb⟩
 rw [setCells_other g vs o w' k (fun e => ?_)]
 · exact h.grown.block k hk hne
 · rcases h.lies g rfl with h' | h'
   · exact hne (by rw [e, h'])
   · omega

theorem Mv.made {w w' : World} {v v0 : Value} (h : Mv w w' v v0) (X : Obj) (n c : Nat) : Mv w (w'.alloc X) v (.slice (some ⟨w'.heap.size, 0, none⟩) n c) := by
 have hb := (Below.refl w'.heap.size w').alloc (Nat.le_refl _) X
 refine ⟨⟨hb.os.trans h.grown.os, hb.tape.trans h.grown.tape, hb.output.trans h.grown.output, Nat.le_trans h.size hb.size, fun k hk hne => ?_⟩, fun b hb => .inr ?_⟩
 · rw [hb.block k (by have := h.size; omega)]
   exact h.grown.block k hk hne
 · have := ownBlock_is hb
   have := h.size
   omega

theorem Mv.drewN {w w' : World} {v v' : Value} (h : Mv w w' v v') (q : Nat) : Mv w (w'.drewN q) v v' := by
 have hb := below_drewN (Below.refl 0 w') q
 exact ⟨⟨hb.os.trans h.grown.os, hb.tape.trans h.grown.tape, hb.output.trans h.grown.output, Nat.le_trans h.size hb.size, fun k hk hne => by rw [drewN_heap]; exact h.grown.block k hk hne⟩, h.lies⟩

theorem OwnI.put {w : World} {B : Nat} {v : Value} {l : List Int} (h : OwnI w B v l) (j : Nat) (hj : j < l.length) (n : Int) :
   ∃ g cap, v = .slice (some ⟨g, 0, none⟩) l.length cap ∧ w.cell? ⟨g, j, none⟩ = some (.int .i64 (l.getD j 0)) ∧ w.frozen? ⟨g, j, none⟩ = false ∧ B <= g ∧ g < w.heap.size ∧ OwnI (w.setCell ⟨g, j, none⟩ (.int .i64 n)) B v (l.set j n) ∧ Mv w (w.setCell ⟨g, j, none⟩ (.int .i64 n)) v v := by
 rcases h.row with ⟨_, h2⟩ | ⟨g, cap, cur, rfl, h2, hlt, h3, h4, h5, h6, h7⟩
 · subst h2; simp at hj
 · refine ⟨g, cap, rfl, ?_, frozen_of_row w g j _ _ h3, h2, hlt, ?_, (Mv.refl w (.slice (some ⟨g, 0, none⟩) l.length cap)).cells j [_]⟩
   · rw [cell_of_row w g j _ _ _ h3]
     exact h7 j hj
   · have e : l.length = (l.set j n).length := by simp
     rw [e]
     refine OwnI.ofRow h2 (heap_setCell_same w g j _ _ _ h3) (by rw [<- e]; exact h4) h5 (by simpa using h6) (fun i hi => ?_)
     rw [<- e] at hi
     by_cases hij : i = j
     · subst hij
       have : i < cur.size := by omega
       simp [this, List.getD, hi]
     · have hne : ¬ j = i := fun h => hij h.symm
       have := h7 i hi
       simp [hne, this, List.getD]

theorem cloneI_any (v : Value) (l : List Int) (w : World) (hr : RdI w v l) (hlim : l.length <= 1000000) :
   Calls Tryz.prog 43 #[v] w fun e w' => ∃ v', e = .returned v' ∧ OwnI w' w.heap.size v' l ∧ Below w.heap.size w w' := by
 obtain ⟨ao, cap, rfl, hlc, hcm, hn0, hi, hao⟩ := hr
 cases ao with
 | none =>
   have hc := hn0 rfl
   have hl : l = [] := List.eq_nil_of_length_eq_zero (by omega)
   subst hl
   refine Calls.mono (Any.slices_Clone_int_nil layM15 _ cap w) ?_
   rintro e w' ⟨rfl, rfl⟩
   exact ⟨_, rfl, OwnI.nil _ _, Below.refl _ _⟩
 | some a =>
   by_cases hl : l = []
   · subst hl
     refine Calls.mono (Any.slices_Clone_int_zero layM15 a cap w) ?_
     rintro e w' ⟨v', rfl, ho, _, hb⟩
     exact ⟨v', rfl, ho, hb⟩
   · rcases hao with hao | ⟨b, off, hab, hc⟩
     · exact absurd hao hl
     · injection hab with hab
       subst hab
       refine Calls.mono (Any.slices_Clone_int layM15 b off l.length cap l w (Nat.le_refl _) (by omega) hc) ?_
       rintro e w' ⟨v', rfl, ho, _, hb⟩
       refine ⟨v', rfl, ?_, hb⟩
       rw [List.take_length] at ho
       exact ho

theorem deleteI_any (v : Value) (l : List Int) (B : Nat) (w : World) (ho : OwnI w B v l) (i j : Nat) (hij : i < j) (hj : j <= l.length) (I J : Int) (hI : I = i) (hJ : J = j) :
   Calls Tryz.prog 213 #[v, .int .i64 I, .int .i64 J] w fun e w' => ∃ v', e = .returned v' ∧ OwnI w' B v' (l.take i ++ l.drop j) ∧ Mv w w' v v' := by
 subst hI
 subst hJ
 rcases ho.row with ⟨_, h2⟩ | ⟨g, cap, cur, rfl, hB, hlt, hg, hn, hm, hs, hc⟩
 · subst h2; simp at hj; omega
 · unfold maxLen at hm
   refine Calls.mono (Any.slices_Delete_int_cells layM23 g 0 l.length cap i j l w (Nat.le_refl _) hn (by omega) (by omega) hj
     (fun k hk => by rw [Nat.zero_add, cell_of_row w g k _ _ _ hg]; exact hc k hk) (fun k hk => by rw [Nat.zero_add]; exact frozen_of_row w g k _ _ hg)) ?_
   rintro e w' ⟨rfl, q, rfl⟩
   refine ⟨_, rfl, ?_, ((Mv.refl w (.slice (some ⟨g, 0, none⟩) l.length cap)).drewN q).cells _ _⟩
   have hlen : (l.take i ++ l.drop j).length = l.length - (j - i) := by simp; omega
   rw [<- hlen]
   refine OwnI.ofRow hB (heap_setCells g _ _ _ _ cur (by rw [drewN_heap]; exact hg)) (by omega) (by unfold maxLen; omega) (by rw [layC_size]; exact hs) (fun k hk => ?_)
   rw [layC_get _ _ _ _ (by omega), List.take_length, if_pos (by simp at hk ⊢; omega), Nat.sub_zero, List.map_append, List.getElem?_append_left (by simpa using hk)]
   exact intCells_get _ k hk

theorem get3 {α : Type} (A vs : List α) (i : Nat) (hi : i <= A.length) (j : Nat) : (A.take i ++ (vs ++ A.drop i))[j]? = if j < i then A[j]? else if j < i + vs.length then vs[j - i]? else A[j - vs.length]? := by
 have hl : (A.take i).length = i := by simp; omega
 by_cases h1 : j < i
 · rw [if_pos h1, List.getElem?_append_left (by omega), List.getElem?_take_of_lt h1]
 · rw [if_neg h1, List.getElem?_append_right (by omega), hl]
   by_cases h2 : j < i + vs.length
   · rw [if_pos h2, List.getElem?_append_left (by omega)]
   · rw [if_neg h2, List.getElem?_append_right (by omega), List.getElem?_drop]
     congr 1
     omega

theorem intCells_append (A B : List Int) : intCells (A ++ B) = intCells A ++ intCells B := by simp [intCells]
theorem intCells_take (A : List Int) (i : Nat) : intCells (A.take i) = (intCells A).take i := by simp [intCells]
theorem intCells_drop (A : List Int) (i : Nat) : intCells (A.drop i) = (intCells A).drop i := by simp [intCells]

theorem ins_cells (l : List Int) (i : Nat) (hi : i <= l.length) (x y : Int) (j : Nat) (hj : j < (l.take i ++ ([x, y] ++ l.drop i)).length) :
   some (.int .i64 ((l.take i ++ ([x, y] ++ l.drop i)).getD j 0)) = if j < i then (intCells l)[j]? else if j < i + 2 then [Value.int .i64 x, .int .i64 y][j - i]? else (intCells l)[j - 2]? := by
 rw [<- intCells_get _ j hj, intCells_append, intCells_append, intCells_take, intCells_drop]
 exact get3 (intCells l) (intCells [x, y]) i (by rw [intCells_length]; exact hi) j

theorem insertI_any (v : Value) (l : List Int) (B : Nat) (w : World) (ho : OwnI w B v l) (hB : B <= w.heap.size) (hlim : l.length <= 1000000) (i : Nat) (hi : i <= l.length) (I : Int) (hI : I = i) (x y : Int) (N : Nat) (hN : N = w.heap.size) :
   Calls Tryz.prog 215 #[v, .int .i64 I, .slice (some ⟨N, 0, none⟩) 2 2] (w.alloc (.cells #[.int .i64 x, .int .i64 y] 3)) fun e w' => ∃ v', e = .returned v' ∧ OwnI w' B v' (l.take i ++ ([x, y] ++ l.drop i)) ∧ Mv w w' v v' := by
 subst hI
 subst hN
 have hm0 : Mv w (w.alloc (.cells #[.int .i64 x, .int .i64 y] 3)) v v := Mv.alloc w v _
 have hv := heap_alloc_new w (.cells #[.int .i64 x, .int .i64 y] 3)
 have hsz : (w.alloc (.cells #[.int .i64 x, .int .i64 y] 3)).heap.size = w.heap.size + 1 := by simp
 have hg0 : ∀ k, k < w.heap.size -> (w.alloc (.cells #[.int .i64 x, .int .i64 y] 3)).heap[k]? = w.heap[k]? := fun k hk => Below.heap_alloc _ _ _ hk
 generalize w.alloc (.cells #[.int .i64 x, .int .i64 y] 3) = W at *
 have hlen : (l.take i ++ ([x, y] ++ l.drop i)).length = l.length + 2 := by simp; omega
 have hvs : ∀ j u, [Value.int .i64 x, .int .i64 y][j]? = some u -> W.cell? ⟨w.heap.size, 0 + j, none⟩ = some u := fun j u hu => by
   rw [Nat.zero_add, cell_of_row W w.heap.size j _ _ _ hv]
   simpa using hu
 have h1v : ∀ u ∈ [Value.int .i64 x, .int .i64 y], u.oneCell' = true := fun u hu => by
   simp at hu
   rcases hu with rfl | rfl <;> rfl
 have hcl := intCells_length l
 have h1c := intCells_one l
 have hz : (Value.int .i64 0).cells.size = 1 := rfl
 have e3 : layM21_ren.t 3 = 3 := rfl
 rcases ho.row with ⟨rfl, rfl⟩ | ⟨g, cap, cur, rfl, hBg, hlt, hg, hn, hm, hs, hc⟩
 · have hi0 : i = 0 := by simpa using hi
   subst hi0
   refine Calls.mono (Any2.slices_Insert_int_end_grow layM21 none 0 0 w.heap.size 0 2 2 [] [.int .i64 x, .int .i64 y] W (by omega) (by omega) (by omega) (by omega) rfl rfl (fun _ => rfl) (fun a ha => by cases ha) hvs h1v) ?_
   rintro e w' ⟨rfl, rfl⟩
   rw [e3]
   have hge := grownCap_ge W (0 + 2) 0 3
   have hle := grownCap_le_maxLen W (0 + 2) 0 3 (by unfold maxLen; omega)
   refine ⟨_, rfl, ?_, hm0.drew.made _ _ _⟩
   have e2 : 0 + 2 = ([x, y] : List Int).length := rfl
   show OwnI _ B (.slice (some ⟨W.heap.size, 0, none⟩) (0 + 2) (grownCap W (0 + 2) 0 3)) [x, y]
   generalize grownCap W (0 + 2) 0 3 = gc at *
   exact OwnI.ofRow (by omega) (heap_alloc_new W.drew _) hge hle (by simp [size_zeroCells, hz]; omega) (fun j hj => by
     have hj' : j = 0 ∨ j = 1 := by simp at hj; omega
     rcases hj' with rfl | rfl <;> (rw [Array.getElem?_append_left (by simp)]; rfl))
 · have hgW : W.heap[g]? = some (.cells cur 3 (0, 0)) := (hg0 g hlt).trans hg
   have hcs : ∀ j u, (intCells l)[j]? = some u -> W.cell? ⟨g, 0 + j, none⟩ = some u := fun j u hu => by
     have hj : j < l.length := by rw [<- hcl]; exact (List.getElem?_eq_some_iff.1 hu).1
     rw [Nat.zero_add, cell_of_row W g j _ _ _ hgW, hc j hj, <- intCells_get l j hj, hu]
   have hcurj : ∀ j, j < l.length -> cur[j]? = (intCells l)[j]? := fun j hj => by rw [hc j hj, intCells_get l j hj]
   have hm' : cap <= 9223372036854775807 := by unfold maxLen at hm; omega
   by_cases hroom : l.length + 2 <= cap
   · have hsp : ∀ j, j < l.length + 2 -> (W.cell? ⟨g, 0 + j, none⟩).isSome = true := fun j hj => by
       rw [Nat.zero_add, cell_of_row W g j _ _ _ hgW, Array.getElem?_eq_getElem (by omega)]
       rfl
     have hfz : ∀ j, j < l.length + 2 -> W.frozen? ⟨g, 0 + j, none⟩ = false := fun j hj => frozen_of_row W g _ _ _ hgW
     by_cases he : i = l.length
     · subst he
       refine Calls.mono (Any2.slices_Insert_int_end_room layM21 g 0 l.length cap w.heap.size 0 2 2 [.int .i64 x, .int .i64 y] W (by omega) hroom hm' rfl
         (fun j hj => by rw [Nat.add_assoc]; exact hsp _ (by omega)) (fun j hj => by rw [Nat.add_assoc]; exact hfz _ (by omega)) hvs h1v) ?_
       rintro e w' ⟨rfl, rfl⟩
       refine ⟨_, rfl, ?_, hm0.cells _ _⟩
       rw [<- hlen]
       refine OwnI.ofRow hBg (heap_setCells g _ _ _ _ cur hgW) (by omega) hm (by rw [layC_size]; exact hs) (fun j hj => ?_)
       rw [layC_get _ _ _ _ (by omega), ins_cells l l.length (Nat.le_refl _) x y j hj, Nat.zero_add]
       rw [hlen] at hj
       by_cases h1 : j < l.length
       · rw [if_neg (by omega), if_pos h1, hcurj j h1]
       · rw [if_pos (by simp; omega), if_neg h1, if_pos (by omega)]
     · refine Calls.mono (Any2.slices_Insert_int_shift layM21 g 0 l.length cap i w.heap.size 0 2 2 (intCells l) [.int .i64 x, .int .i64 y] W (by omega) (by omega) hroom hm' (by omega) hcl rfl hcs hsp hfz hvs h1c h1v
         3 3 2 cap (by simp [World.shape?, hv]) (by simp [World.shape?, hgW, hs]) (by omega) (frozen_of_row W _ _ _ _ hv) (frozen_of_row W _ _ _ _ hv)) ?_
       rintro e w' ⟨rfl, rfl⟩
       refine ⟨_, rfl, ?_, (Mv.cells (n' := 0) (c' := 0) hm0.drew _ _).cells _ _⟩
       rw [<- hlen]
       refine OwnI.ofRow hBg (heap_setCells g _ _ _ _ _ (heap_setCells g _ _ _ _ cur hgW)) (by omega) hm (by rw [layC_size, layC_size]; exact hs) (fun j hj => ?_)
       rw [layC_get _ _ _ _ (by rw [layC_size]; omega), layC_get _ _ _ _ (by omega), ins_cells l i hi x y j hj, Nat.zero_add, Nat.zero_add]
       rw [hlen] at hj
       have hdl : ((intCells l).drop i).length = l.length - i := by simp [intCells]
       rw [hdl]
       by_cases h1 : j < i
       · rw [if_neg (by omega), if_neg (by omega), if_pos h1, hcurj j (by omega)]
       · by_cases h2 : j < i + 2
         · rw [if_pos (by simp; omega), if_neg h1, if_pos h2]
         · rw [if_neg (by simp; omega), if_pos (by omega), if_neg h1, if_neg h2, List.getElem?_drop]
           congr 1
           omega
   · by_cases he : i = l.length
     · subst he
       refine Calls.mono (Any2.slices_Insert_int_end_grow layM21 (some ⟨g, 0, none⟩) l.length cap w.heap.size 0 2 2 (intCells l) [.int .i64 x, .int .i64 y] W (by omega) hn (by omega) (by omega) hcl rfl (fun h => by cases h)
         (fun a ha j u hu => by injection ha with ha; subst ha; rw [Addr.add_lit]; exact hcs j u hu) hvs h1v) ?_
       rintro e w' ⟨rfl, rfl⟩
       rw [e3]
       have hge := grownCap_ge W (l.length + 2) cap 3
       have hle := grownCap_le_maxLen W (l.length + 2) cap 3 (by unfold maxLen; omega)
       refine ⟨_, rfl, ?_, hm0.drew.made _ _ _⟩
       show OwnI _ B (.slice (some ⟨W.heap.size, 0, none⟩) (l.length + 2) (grownCap W (l.length + 2) cap 3)) _
       generalize grownCap W (l.length + 2) cap 3 = gc at *
       rw [<- hlen]
       refine OwnI.ofRow (by omega) (heap_alloc_new W.drew _) (by omega) hle (by simp [size_zeroCells, hz, hcl]; omega) (fun j hj => ?_)
       rw [ins_cells l l.length (Nat.le_refl _) x y j hj]
       rw [hlen] at hj
       rw [Array.getElem?_append_left (by simp [hcl]; omega), List.getElem?_toArray]
       by_cases h1 : j < l.length
       · rw [if_pos h1, List.getElem?_append_left (by omega)]
       · rw [if_neg h1, if_pos (by omega), List.getElem?_append_right (by omega), hcl]
     · refine Calls.mono (Any2.slices_Insert_int_grow layM21 g 0 l.length cap i w.heap.size 0 2 2 (intCells l) [.int .i64 x, .int .i64 y] W (by omega) (by omega) hn (by omega) (by omega) hcl rfl hcs hvs h1c h1v) ?_
       rintro e w' ⟨rfl, rfl⟩
       rw [e3]
       have hge := grownCap_ge W (l.length + 2) cap 3
       have hle := grownCap_le_maxLen W (l.length + 2) cap 3 (by unfold maxLen; omega)
       refine ⟨_, rfl, ?_, ((hm0.made _ 0 0).drew.cells (n' := 0) (c' := 0) _ _).drew.cells _ _⟩
       show OwnI _ B (.slice (some ⟨W.heap.size, 0, none⟩) (l.length + 2) (grownCap W (l.length + 2) cap 3)) _
       generalize grownCap W (l.length + 2) cap 3 = gc at *
       have hti : ((intCells l).take i).length = i := by simp [hcl]; omega
       have hdl : ((intCells l).drop i).length = l.length - i := by simp [intCells]
       refine OwnI.ofRowN hlen.symm (cur := layC (layC (((intCells l).take i).toArray ++ Builtin.zeroCells (Value.int .i64 0).cells (l.length + 2 - i) ++ Builtin.zeroCells (Value.int .i64 0).cells (gc - (l.length + 2))) i [.int .i64 x, .int .i64 y]) (i + 2) ((intCells l).drop i)) (by omega) (heap_setCells _ _ _ _ _ _ (heap_setCells _ _ _ _ _ _ (heap_alloc_new W _))) (by omega) hle ?_ (fun j hj => ?_)
       · rw [layC_size, layC_size]
         simp [size_zeroCells, hz, hti]
         omega
       · rw [ins_cells l i hi x y j hj]
         rw [hlen] at hj
         have hcs1 : (((intCells l).take i).toArray ++ Builtin.zeroCells (Value.int .i64 0).cells (l.length + 2 - i) ++ Builtin.zeroCells (Value.int .i64 0).cells (gc - (l.length + 2))).size = gc := by
           simp [size_zeroCells, hz, hti]
           omega
         rw [layC_get _ _ _ _ (by rw [layC_size]; omega), layC_get _ _ _ _ (by omega), hdl]
         by_cases h1 : j < i
         · rw [if_neg (by omega), if_neg (by omega), if_pos h1, Array.getElem?_append_left (by simp [size_zeroCells, hz, hti]; omega), Array.getElem?_append_left (by simp [hti]; omega), List.getElem?_toArray, List.getElem?_take_of_lt h1]
         · by_cases h2 : j < i + 2
           · rw [if_neg (by omega), if_pos (by simp; omega), if_neg h1, if_pos h2]
           · rw [if_pos (by omega), if_neg h1, if_neg h2, List.getElem?_drop]
             congr 1
             omega

set_option maxRecDepth 100000

theorem OwnE.row {w : World} {B : Nat} {v : Value} {l : List Ent} (h : OwnE w B v l) : (v = .slice none 0 0 ∧ l = []) ∨
   ∃ g cap cur, v = .slice (some ⟨g, 0, none⟩) l.length cap ∧ B <= g ∧ g < w.heap.size ∧ w.heap[g]? = some (.cells cur 88 (0, 0)) ∧ l.length <= cap ∧ cap <= maxLen ∧ cur.size = cap * 3 ∧ ∀ j, j < l.length * 3 -> cur[j]? = (entCells l)[j]? := by
 rcases h.2 with ⟨hv, hn⟩ | ⟨g, cap, cur, hv, hb, hg, hnc, hcm, hcs, htake⟩
 · have e : l = [] := List.eq_nil_of_length_eq_zero hn
   subst e
   exact .inl ⟨hv, rfl⟩
 · refine .inr ⟨g, cap, cur, hv, hb, (Array.getElem?_eq_some_iff.1 hg).1, hg, hnc, hcm, hcs, fun j hj => ?_⟩
   rw [<- htake, List.getElem?_take_of_lt hj, Array.getElem?_toList]

theorem OwnE.ofRow {w : World} {B g cap n : Nat} {cur : Array Value} {l : List Ent} (hn : n = l.length) (hB : B <= g) (hg : w.heap[g]? = some (.cells cur 88 (0, 0))) (hc : l.length <= cap) (hm : cap <= maxLen) (hs : cur.size = cap * 3) (hcell : ∀ j, j < l.length * 3 -> cur[j]? = (entCells l)[j]?) :
   OwnE w B (.slice (some ⟨g, 0, none⟩) n cap) l := by
 subst hn
 refine ⟨by rw [entCells_length], .inr ⟨g, cap, cur, rfl, hB, hg, hc, hm, hs, ?_⟩⟩
 apply List.ext_getElem?
 intro j
 by_cases hj : j < l.length * 3
 · rw [List.getElem?_take_of_lt hj, Array.getElem?_toList]
   exact hcell j hj
 · rw [List.getElem?_eq_none (by simp; omega), List.getElem?_eq_none (by rw [entCells_length]; omega)]

theorem OwnE.empty (w : World) (B : Nat) (hB : B <= w.heap.size) : OwnE (w.alloc (.cells #[] 88)) B (.slice (some ⟨w.heap.size, 0, none⟩) 0 0) [] :=
 OwnE.ofRow (l := []) rfl hB (heap_alloc_new w _) (Nat.le_refl _) (Nat.zero_le _) rfl (fun j hj => absurd hj (by simp))

theorem entCells_take : ∀ (l : List Ent) (i : Nat), entCells (l.take i) = (entCells l).take (i * 3)
 | l, 0 => by simp [entCells]
 | [], i + 1 => by simp [entCells]
 | x :: t, i + 1 => by
   rw [List.take_succ_cons, show (i + 1) * 3 = i * 3 + 1 + 1 + 1 by omega]
   show Value.int .i64 x.proc :: .int .i64 x.seq :: .int .i64 x.resp :: entCells (t.take i) = (Value.int .i64 x.proc :: .int .i64 x.seq :: .int .i64 x.resp :: entCells t).take (i * 3 + 1 + 1 + 1)
   rw [entCells_take t i]
   rfl

theorem entCells_drop : ∀ (l : List Ent) (i : Nat), entCells (l.drop i) = (entCells l).drop (i * 3)
 | l, 0 => by simp
 | [], i + 1 => by simp [entCells]
 | x :: t, i + 1 => by
   rw [List.drop_succ_cons, show (i + 1) * 3 = i * 3 + 1 + 1 + 1 by omega]
   show entCells (t.drop i) = (Value.int .i64 x.proc :: .int .i64 x.seq :: .int .i64 x.resp :: entCells t).drop (i * 3 + 1 + 1 + 1)
   rw [entCells_drop t i]
   rfl

theorem OwnE.cut {w : World} {B g n cap : Nat} {l : List Ent} (h : OwnE w B (.slice (some ⟨g, 0, none⟩) n cap) l) (i : Nat) (hi : i <= l.length) : OwnE w B (.slice (some ⟨g, 0, none⟩) i cap) (l.take i) := by
 rcases h.row with ⟨h1, -⟩ | ⟨g', cap', cur, h1, hB, hlt, hg, hc, hm, hs, hcell⟩
 · cases h1
 · injection h1 with h1 h2 h3
   injection h1 with h1
   injection h1 with h1
   subst h1 h3
   exact OwnE.ofRow (by rw [List.length_take]; omega) hB hg (by rw [List.length_take]; omega) hm hs (fun j hj => by
     rw [List.length_take] at hj
     rw [hcell j (by omega), entCells_take, List.getElem?_take_of_lt (by omega)])

theorem OwnE.cells {w : World} {B g n cap : Nat} {l : List Ent} (h : OwnE w B (.slice (some ⟨g, 0, none⟩) n cap) l) (o : Nat) (ho : l.length * 3 <= o) (vs : List Value) : OwnE (w.setCells g o vs) B (.slice (some ⟨g, 0, none⟩) n cap) l := by
 rcases h.row with ⟨h1, -⟩ | ⟨g', cap', cur, h1, hB, hlt, hg, hc, hm, hs, hcell⟩
 · cases h1
 · injection h1 with h1 h2 h3
   injection h1 with h1
   injection h1 with h1
   subst h1 h3
   exact OwnE.ofRow h2 hB (heap_setCells g _ vs o w cur hg) hc hm (by rw [layC_size]; exact hs) (fun j hj => by
     rw [layC_get _ _ _ _ (by omega), if_neg (by omega)]
     exact hcell j hj)

theorem OwnE.put {w : World} {B g n cap : Nat} {l : List Ent} (h : OwnE w B (.slice (some ⟨g, 0, none⟩) n cap) l) (i : Nat) (hi : i < l.length) (e : Ent) : OwnE (w.setCells g (i * 3) (entCells [e])) B (.slice (some ⟨g, 0, none⟩) n cap) (l.set i e) := by
 rcases h.row with ⟨h1, -⟩ | ⟨g', cap', cur, h1, hB, hlt, hg, hc, hm, hs, hcell⟩
 · cases h1
 · injection h1 with h1 h2 h3
   injection h1 with h1
   injection h1 with h1
   subst h1 h3
   have hl3 : (entCells [e]).length = 3 := entCells_length [e]
   refine OwnE.ofRow (by rw [List.length_set]; exact h2) hB (heap_setCells g _ _ _ w cur hg) (by rw [List.length_set]; exact hc) hm (by rw [layC_size]; exact hs) (fun j hj => ?_)
   rw [List.length_set] at hj
   obtain ⟨q, k, hk, rfl⟩ : ∃ q k, k < 3 ∧ j = q * 3 + k := ⟨j / 3, j % 3, Nat.mod_lt _ (by decide), by omega⟩
   rw [layC_get _ _ _ _ (by omega), hl3, entCells_get (l.set i e) q k (by rw [List.length_set]; omega) hk]
   by_cases hq : q = i
   · subst hq
     rw [if_pos (by omega), show q * 3 + k - q * 3 = 0 * 3 + k by omega, entCells_get [e] 0 k (by simp) hk]
     congr 2
     simp [List.getD, hi]
   · rw [if_neg (by omega), hcell _ (by omega), entCells_get l q k (by omega) hk]
     congr 2
     have : ¬ i = q := fun h => hq h.symm
     simp [List.getD, this]

theorem RdE.cells {w : World} {a : Addr} {n cap : Nat} {l : List Ent} (h : RdE w (.slice (some a) n cap) l) : ∀ j u, (entCells l)[j]? = some u -> w.cell? (a.add j) = some u := by
 obtain ⟨ao, c, h1, h2, h3, hn, hw, h4⟩ := h
 injection h1 with h1 _ _
 subst h1
 intro j u hu
 have hj : j < l.length * 3 := by rw [<- entCells_length]; exact (List.getElem?_eq_some_iff.1 hu).1
 rcases h4 with h4 | ⟨b, off, h5, h6⟩
 · rw [h4] at hj
   simp at hj
 · injection h5 with h5
   subst h5
   obtain ⟨q, k, hk, rfl⟩ : ∃ q k, k < 3 ∧ j = q * 3 + k := ⟨j / 3, j % 3, Nat.mod_lt _ (by decide), by omega⟩
   rw [entCells_get l q k (by omega) hk] at hu
   obtain ⟨c0, c1, c2⟩ := h6 q (by omega)
   rw [Addr.add_lit, <- Nat.add_assoc]
   match k, hk with
   | 0, _ => exact c0.trans hu
   | 1, _ => exact c1.trans hu
   | 2, _ => exact c2.trans hu

theorem run_append_ents (w : World) (ty : TypeId) (B : Nat) (v : Value) (l : List Ent) (h : OwnE w B v l) (vx : Value) (m : List Ent) (hr : RdE w vx m) (hlim : l.length + m.length <= 1000000) (hbase : B <= w.heap.size) :
   ∃ v' w', (Builtin.append_ #[39, 39] ty #[v, vx]).run Tryz.prog w = .ok v' w' ∧ OwnE w' B v' (l ++ m) ∧ Below B w w' := by
 obtain ⟨i0, hi, hz0, hz1, hz2⟩ := info_parts info_ent
 have hr' := hr
 obtain ⟨ao, cap, rfl, hlc, hcm, hn0, hw, hao⟩ := hr
 cases ao with
 | none =>
   have hc := hn0 rfl
   subst hc
   have hl : m = [] := List.eq_nil_of_length_eq_zero (by omega)
   subst hl
   have hrun := run_append_owned_none (P := Tryz.prog) w B 39 ty 88 i0 3 Tryz.underlying39 hi v l.length (entCells l) h
   exact ⟨v, w, hrun, by rw [List.append_nil]; exact h, Below.refl _ _⟩
 | some a =>
   obtain ⟨v', w', hrun, ho, hg, _⟩ := run_append_own (P := Tryz.prog) w B 39 ty 88 i0 _ 3 24 Tryz.underlying39 hi hz0 hz1 hz2 rfl (by decide) v l.length (entCells l) h
     a m.length cap (entCells m) (entCells_length m) hr'.cells (entCells_one m) (by unfold maxLen; omega) (by omega) hbase
   refine ⟨v', w', hrun, ?_, ?_⟩
   · unfold OwnE
     rw [List.length_append, entCells_app]
     exact ho
   · exact (Below.refl _ _).grown hg hbase (fun k hk => (World.ownsRow.lt h k hk).1)

theorem wpList_append_ents (w : World) {ops : Array Oper} {rest : List Oper} {o : Oper} {a : Act} {Q : Exit -> Act -> World -> Prop} (hgd : o.guard = none) (s x : Operand)
   (ho : o.op = .call { callee := .builtin .append, args := #[s, x], argTypes := #[39, 39] })
   (B : Nat) (v : Value) (l : List Ent) (hs : a.eval s = v) (hown : OwnE w B v l) (vx : Value) (m : List Ent) (hx : a.eval x = vx) (hr : RdE w vx m)
   (hlim : l.length + m.length <= 1000000) (hbase : B <= w.heap.size)
   (h : ∀ v' w', OwnE w' B v' (l ++ m) -> Below B w w' -> wpList Tryz.prog ops Q rest (a.put o.dst v') w') : wpList Tryz.prog ops Q (o :: rest) a w :=
 wpList_plain hgd fun _ hK => by
   obtain ⟨v', w', hrun, h2, h3⟩ := run_append_ents w o.type B v l hown vx m hr hlim hbase
   unfold Oper.wp execOp
   simp only [ho, resolve, invoke, builtin, Sem.run_bind, Sem.run_pure, Result.andThen_ok, List.map_toArray, List.map_cons, List.map_nil, hs, hx, hrun]
   exact hK _ _ (h v' w' h2 h3)

set_option maxHeartbeats 1000000 in
theorem cloneE_any (v : Value) (l : List Ent) (w : World) (hr : RdE w v l) (hlim : l.length <= 1000000) :
   Calls Tryz.prog 44 #[v] w fun e w' => ∃ v', e = .returned v' ∧ OwnE w' w.heap.size v' l ∧ Below w.heap.size w w' := by
 have HR := hide hr
 obtain ⟨ao, cap, rfl, hlc, -, hn, -⟩ := hr
 cases ao with
 | none =>
   obtain rfl : cap = 0 := hn rfl
   obtain rfl : l = [] := List.eq_nil_of_length_eq_zero (by omega)
   clear hn hlc
   have hnil : ∀ w, (binOp .eql 39 (.slice none 0 0) (.slice none 0 0)).run Tryz.prog w = .ok (.bool true) w := fun w => run_eql_slice_nil w _ _ none 0 0 Tryz.underlying39
   go_enter Tryz.func44, Tryz.ntmps44
   go_wp2
   go_ret
   exact ⟨_, rfl, OwnE.nil _ _, Below.refl _ _⟩
 | some a =>
   clear hn
   have hnil : ∀ w, (binOp .eql 39 (.slice (some a) l.length cap) (.slice none 0 0)).run Tryz.prog w = .ok (.bool false) w := fun w => run_eql_slice_nil w _ _ (some a) _ _ Tryz.underlying39
   have HB0 : Hid (∀ X, Below w.heap.size w (w.alloc X)) := fun X => (Below.refl _ _).alloc (Nat.le_refl _) X
   have HO0 : Hid (OwnE (w.alloc (.cells #[] 88)) w.heap.size (.slice (some ⟨w.heap.size, 0, none⟩) 0 0) []) := hide (OwnE.empty w _ (Nat.le_refl _))
   go_enter Tryz.func44, Tryz.ntmps44
   go_wp2_with (at_builtin; refine wpList_append_ents _ rfl _ _ rfl w.heap.size _ [] rfl HO0.out _ l rfl (HR.out.below (HB0.out _) (Nat.le_refl _)) (by simp; omega) (by simp) ?_)
   intro v1 W1 ho1 hb1
   have HO1 := hide ho1
   have HB1 := hide ((HB0.out _).trans hb1)
   clear ho1 hb1
   go_wp2
   go_ret
   exact ⟨_, rfl, HO1.out, HB1.out⟩

def FoundE (p : Ent -> Bool) (l : List Ent) (k : Int) : Prop := (k = -1 ∧ ∀ j, j < l.length -> p (l.getD j zeroE) = false) ∨ ∃ i : Nat, k = (i : Int) ∧ i < l.length ∧ (∀ j, j < i -> p (l.getD j zeroE) = false) ∧ p (l.getD i zeroE) = true

set_option maxHeartbeats 2000000 in
theorem indexFuncE_any (g R : Nat) (p : Ent -> Bool) (v : Value) (l : List Ent) (w : World) (hr : RdE w v l)
   (eg : ∀ args W, (callFunc g args).run Tryz.prog W = .ok (.enter g args) W)
   (hp : ∀ W e, Below w.heap.size w W -> Calls Tryz.prog g #[entV e, .pointer (some ⟨R, 0, none⟩)] W fun x w' => x = .returned (.bool (p e)) ∧ Below W.heap.size W w') :
   Calls Tryz.prog 94 #[v, .func (.func g) #[] #[.pointer (some ⟨R, 0, none⟩)]] w fun x w' => ∃ k : Int, x = .returned (.int .i64 k) ∧ FoundE p l k ∧ Below w.heap.size w w' := by
 have HR := hide hr
 have HP := hide hp
 obtain ⟨va, vc, rfl, hlc, hcm, -, -, hao⟩ := hr
 have HAO := hide hao
 have hml : (l.length : Int) <= 9223372036854775807 := by unfold maxLen at hcm; omega
 clear hp hlc hcm hao
 go_enter Tryz.func94, Tryz.ntmps94
 go_wp2
 go_loopw [8] (fun vi wr => ∃ q : Nat, vi = .int .i64 (q : Int) ∧ q <= l.length ∧ Hid (∀ j, j < q -> p (l.getD j zeroE) = false) ∧ Hid (Below w.heap.size w wr)) (fun vi _ => l.length - (intOf vi).toNat)
 case atStart => exact ⟨0, rfl, Nat.zero_le _, hide (fun j hj => absurd hj (Nat.not_lt_zero _)), Below.refl _ _⟩
 case round =>
   obtain ⟨q, rfl, hq, hN, hB⟩ := hrel
   by_cases hlt : q < l.length
   case neg =>
     obtain rfl : q = l.length := by omega
     go_wp2
     go_ret
     exact ⟨-1, rfl, .inl ⟨rfl, hN.out⟩, hB.out⟩
   have hqi : (q : Int) < (l.length : Int) := by omega
   rcases HAO.out with h0 | ⟨b, off, rfl, hc⟩
   · rw [h0] at hlt; simp at hlt
   obtain ⟨c0, c1, c2⟩ := (hc q hlt).keep (hB.out.block b (hc q hlt).lt)
   have HC := hide (HP.out wr (l.getD q zeroE) hB.out)
   have HX : Hid (∀ j, j < q + 1 -> j = q ∨ j < q) := hide (fun j hj => by omega)
   obtain ⟨e, he⟩ : ∃ e, e = l.getD q zeroE := ⟨_, rfl⟩
   rw [<- he] at HC c0 c1 c2
   have HE := hide he
   obtain ⟨pe, hpe⟩ : ∃ pe, pe = p e := ⟨_, rfl⟩
   rw [<- hpe] at HC
   have HPE := hide hpe
   clear he hc HP HAO HR hpe
   unfold entV at HC
   obtain ⟨ep, es, er⟩ := e
   simp only at HC c0 c1 c2
   go_wp2_with fail
   refine HC.out.mono ?_
   rintro x W1 ⟨rfl, hb1⟩
   have HB1 := hide (hB.out.trans (hb1.mono hB.out.size))
   clear hb1 HC
   cases pe with
   | true =>
     go_wp2
     go_ret
     exact ⟨(q : Int), rfl, .inr ⟨q, rfl, hlt, hN.out, by rw [<- HE.out]; exact HPE.out.symm⟩, HB1.out⟩
   | false =>
     go_wp2
     go_roundw
     case rel => exact ⟨q + 1, by go_num, by omega, hide (fun j hj => by
       rcases HX.out j hj with h | h
       · rw [h, <- HE.out]; exact HPE.out.symm
       · exact hN.out j h), HB1⟩
     case measure => simp [intOf]; omega

theorem filter_next (p : Ent -> Bool) (l : List Ent) (j : Nat) (hj : j < l.length) : (l.take (j + 1)).filter (fun e => !p e) = (l.take j).filter (fun e => !p e) ++ if p (l.getD j zeroE) = true then [] else [l.getD j zeroE] := by
 have e1 : l.take (j + 1) = l.take j ++ [l.getD j zeroE] := by
   rw [List.take_add_one, List.getElem?_eq_getElem hj]
   simp [List.getD, hj]
 rw [e1, List.filter_append]
 congr 1
 generalize l.getD j zeroE = x
 cases h : p x <;> simp [h]

theorem filter_none (p : Ent -> Bool) (l : List Ent) (i : Nat) (hi : i <= l.length) (h : ∀ j, j < i -> p (l.getD j zeroE) = false) : (l.take i).filter (fun e => !p e) = l.take i := by
 rw [List.filter_eq_self]
 intro e he
 obtain ⟨j, hj, rfl⟩ := List.getElem_of_mem he
 rw [List.length_take] at hj
 have := h j (by omega)
 rw [List.getElem_take]
 simp only [List.getD, List.getElem?_eq_getElem (show j < l.length by omega), Option.getD_some] at this
 simp [this]

def DelAt (p : Ent -> Bool) (l L : List Ent) (i j : Nat) : Prop := L.length = l.length ∧ L.take i = (l.take j).filter (fun e => !p e) ∧ L.drop j = l.drop j ∧ i < j

theorem DelAt.start {p : Ent -> Bool} {l : List Ent} {i : Nat} (hi : i < l.length) (h : ∀ j, j < i -> p (l.getD j zeroE) = false) (hp : p (l.getD i zeroE) = true) : DelAt p l l i (i + 1) := by
 refine ⟨rfl, ?_, rfl, Nat.lt_succ_self _⟩
 rw [filter_next p l i hi, if_pos hp, List.append_nil, filter_none p l i (by omega) h]

theorem DelAt.at {p : Ent -> Bool} {l L : List Ent} {i j : Nat} (h : DelAt p l L i j) : L.getD j zeroE = l.getD j zeroE := by
 obtain ⟨h1, h2, h3, h4⟩ := h
 have e1 : (L.drop j).getD 0 zeroE = L.getD j zeroE := by simp [List.getD]
 have e2 : (l.drop j).getD 0 zeroE = l.getD j zeroE := by simp [List.getD]
 rw [<- e1, <- e2, h3]

theorem drop_next {L l : List Ent} {j : Nat} (h : L.drop j = l.drop j) : L.drop (j + 1) = l.drop (j + 1) := by
 rw [<- List.drop_drop, <- List.drop_drop, h]

theorem DelAt.skip {p : Ent -> Bool} {l L : List Ent} {i j : Nat} (h : DelAt p l L i j) (hj : j < l.length) (hp : p (l.getD j zeroE) = true) : DelAt p l L i (j + 1) := by
 obtain ⟨h1, h2, h3, h4⟩ := h
 refine ⟨h1, ?_, drop_next h3, by omega⟩
 rw [filter_next p l j hj, if_pos hp, List.append_nil, h2]

theorem DelAt.keep {p : Ent -> Bool} {l L : List Ent} {i j : Nat} (h : DelAt p l L i j) (hj : j < l.length) (hp : p (l.getD j zeroE) = false) : DelAt p l (L.set i (l.getD j zeroE)) (i + 1) (j + 1) := by
 obtain ⟨h1, h2, h3, h4⟩ := h
 refine ⟨by rw [List.length_set, h1], ?_, ?_, by omega⟩
 · rw [filter_next p l j hj, if_neg (by rw [hp]; simp), <- h2, List.take_add_one, List.take_set_of_le (Nat.le_refl _)]
   congr 1
   rw [List.getElem?_set_self (by omega)]
   rfl
 · rw [List.drop_set_of_lt (by omega)]
   exact drop_next h3

theorem OwnE.put3 {w : World} {B g n cap : Nat} {l : List Ent} (h : OwnE w B (.slice (some ⟨g, 0, none⟩) n cap) l) (i : Nat) (hi : i < l.length) (p s r : Int) (o0 o1 o2 : Nat) (h0 : o0 = i * 3) (h1 : o1 = i * 3 + 1) (h2 : o2 = i * 3 + 2) :
   OwnE (((w.setCell ⟨g, o0, none⟩ (.int .i64 p)).setCell ⟨g, o1, none⟩ (.int .i64 s)).setCell ⟨g, o2, none⟩ (.int .i64 r)) B (.slice (some ⟨g, 0, none⟩) n cap) (l.set i ⟨p, s, r⟩) := by
 subst h0 h1 h2
 exact h.put i hi ⟨p, s, r⟩

theorem OwnE.ent {w : World} {B g n cap : Nat} {l : List Ent} (h : OwnE w B (.slice (some ⟨g, 0, none⟩) n cap) l) (i : Nat) (hi : i < l.length) : EntAt w g (i * 3) (l.getD i zeroE) ∧ (∀ k, w.frozen? ⟨g, k, none⟩ = false) ∧ B <= g ∧ l.length <= cap ∧ cap <= maxLen ∧ n = l.length := by
 rcases h.row with ⟨h1, -⟩ | ⟨g', cap', cur, h1, hB, hlt, hg, hc, hm, hs, hcell⟩
 · cases h1
 · injection h1 with h1 h2 h3
   injection h1 with h1
   injection h1 with h1
   subst h1 h3
   have hx : ∀ k, k < 3 -> w.cell? ⟨g, i * 3 + k, none⟩ = (entC (l.getD i zeroE))[k]? := fun k hk => by
     rw [cell_of_row w g (i * 3 + k) _ _ _ hg, hcell _ (by omega), entCells_get l i k hi hk]
   exact ⟨⟨hx 0 (by decide), hx 1 (by decide), hx 2 (by decide)⟩, fun k => frozen_of_row w g k _ _ hg, hB, hc, hm, h2⟩

theorem belowStore3 {C : Nat} {w0 w : World} (h : Below C w0 w) (R : Nat) (hR : C <= R) (o0 o1 o2 : Nat) (x0 x1 x2 : Value) : Below C w0 (((w.setCell ⟨R, o0, none⟩ x0).setCell ⟨R, o1, none⟩ x1).setCell ⟨R, o2, none⟩ x2) :=
 ((h.setCell hR _).setCell hR _).setCell hR _

theorem zeroValue_ent (w : World) : (zeroValue 88).run Tryz.prog w = .ok (.agg #[.int .i64 0, .int .i64 0, .int .i64 0]) w := Tryz.zeroValue88 w

set_option maxRecDepth 100000 in
set_option maxHeartbeats 4000000 in
theorem deleteFuncE_any (g R : Nat) (p : Ent -> Bool) (v : Value) (l : List Ent) (B : Nat) (w : World) (ho : OwnE w B v l) (hI : ∀ e ∈ l, EntI e) (hBw : B <= w.heap.size) (hlim : l.length <= 1000000)
   (eg : ∀ args W, (callFunc g args).run Tryz.prog W = .ok (.enter g args) W)
   (hp : ∀ W e, Below B w W -> Calls Tryz.prog g #[entV e, .pointer (some ⟨R, 0, none⟩)] W fun x w' => x = .returned (.bool (p e)) ∧ Below W.heap.size W w') :
   Calls Tryz.prog 93 #[v, .func (.func g) #[] #[.pointer (some ⟨R, 0, none⟩)]] w fun x w' => ∃ v', x = .returned v' ∧ OwnE w' B v' (l.filter (fun e => !p e)) ∧ Below B w w' := by
 have HO := hide ho
 have HP := hide hp
 have HIX := hide (indexFuncE_any g R p v l w (ho.rd hI) eg (fun W e h => hp W e (h.mono hBw)))
 obtain ⟨va, vc, hv⟩ := ho.shape
 subst hv
 clear ho hp
 go_enter Tryz.func93, Tryz.ntmps93
 go_wp2_with fail
 refine HIX.out.mono ?_
 rintro x W0 ⟨k, rfl, hf, hb0⟩
 have HB0 := hide (hb0.mono hBw)
 have HO0 := hide (HO.out.below hb0 (Nat.le_refl _))
 clear HIX hb0 HO
 rcases hf with ⟨rfl, hf⟩ | ⟨i0, rfl, hi0, hf, hpi⟩
 · have HE : Hid (l.filter (fun e => !p e) = l) := hide (by
     have := filter_none p l l.length (Nat.le_refl _) hf
     rwa [List.take_length] at this)
   clear hf
   go_wp2
   go_ret
   exact ⟨_, rfl, by rw [HE.out]; exact HO0.out, HB0.out⟩
 have HD0 := hide (DelAt.start hi0 hf hpi)
 clear hf hpi
 rcases HO0.out.row with ⟨-, h2⟩ | ⟨gr, cap, cur, h1, hBg, -, -, hlc, hcm, -, -⟩
 · rw [h2] at hi0; simp at hi0
 injection h1 with h1 _ h3
 subst h1 h3
 have hml : (l.length : Int) <= 1000000 := by omega
 clear cur hcm
 have ei : ((i0 : Int) == -1) = false := beq_eq_false_iff_ne.2 (by omega)
 go_wp2
 go_loopw [5, 6] (fun v5 v6 wr => ∃ (i j : Nat) (L : List Ent), v5 = .int .i64 (i : Int) ∧ v6 = .int .i64 (j : Int) ∧ i < j ∧ j <= l.length ∧ Hid (OwnE wr B (.slice (some ⟨gr, 0, none⟩) l.length vc) L) ∧ Hid (DelAt p l L i j) ∧ Hid (Below B w wr)) (fun _ v6 _ => l.length - (intOf v6).toNat)
 case atStart => exact ⟨i0, i0 + 1, l, rfl, by go_num, by omega, by omega, HO0, HD0, HB0⟩
 case round =>
   clear HO0 HD0 HB0 ei
   obtain ⟨i, j, L, rfl, rfl, hij, hjl, hO, hD, hB⟩ := hrel
   by_cases hlt : j < l.length
   case neg =>
     obtain rfl : j = l.length := by omega
     have hL : L.length = l.length := hD.out.1
     have HT : Hid (L.take i = l.filter (fun e => !p e)) := hide (by rw [hD.out.2.1, List.take_length])
     have hE := (hO.out.ent i (by omega)).2.1
     have HK : Hid (∀ ty, (Builtin.clear_ #[39] ty #[.slice (some ⟨gr, i * 3, none⟩) (l.length - i) (vc - i)]).run Tryz.prog wr = .ok (.tuple #[]) (wr.setCells gr (i * 3) (zeros3 (l.length - i)))) := hide (fun ty =>
       run_clear_three wr _ _ _ Tryz.underlying39 zeroValue_ent gr (i * 3) (l.length - i) (vc - i) (by omega) (fun k hk => by
         obtain ⟨q, r, hr, rfl⟩ : ∃ q r, r < 3 ∧ k = q * 3 + r := ⟨k / 3, k % 3, Nat.mod_lt _ (by decide), by omega⟩
         have := (hO.out.ent (i + q) (by omega)).1
         rw [show i * 3 + (q * 3 + r) = (i + q) * 3 + r by omega]
         match r, hr with
         | 0, _ => rw [show (i + q) * 3 + 0 = (i + q) * 3 from rfl, this.1]; rfl
         | 1, _ => rw [this.2.1]; rfl
         | 2, _ => rw [this.2.2]; rfl) (fun k _ => hE _))
     have HOC := hide ((hO.out.cut i (by omega)).cells (i * 3) (by rw [List.length_take]; omega) (zeros3 (l.length - i)))
     rw [HT.out] at HOC
     have HBC := hide (belowCells hBg (zeros3 (l.length - i)) (i * 3) wr hB.out)
     have hvi : ¬ (vc = i) := by omega
     have hb1 : (i : Int) <= (l.length : Int) := by omega
     have hb2 : (i : Int) <= (vc : Int) := by omega
     have hb3 : i <= l.length := by omega
     have hb4 : i <= vc := by omega
     clear hE
     have hK := HK.out
     go_wp2
     go_ret
     exact ⟨_, rfl, HOC.out, HBC.out⟩
   have hji : (j : Int) < (l.length : Int) := by omega
   have hLl : L.length = l.length := hD.out.1
   obtain ⟨⟨c0, c1, c2⟩, -, -⟩ := hO.out.ent j (by omega)
   rw [hD.out.at] at c0 c1 c2
   have HSK := hide (hD.out.skip hlt)
   have HKP := hide (hD.out.keep hlt)
   obtain ⟨e, he⟩ : ∃ e, e = l.getD j zeroE := ⟨_, rfl⟩
   rw [<- he] at c0 c1 c2 HSK HKP
   obtain ⟨pe, hpe⟩ : ∃ pe, pe = p e := ⟨_, rfl⟩
   have HC := hide (fun W h => HP.out W e h)
   rw [<- hpe] at HC HSK HKP
   obtain ⟨ep, es, er⟩ := e
   unfold entV at HC
   simp only at HC c0 c1 c2 HKP
   clear he hpe hD
   have HB2 : Hid (∀ X, Below B w (wr.alloc X)) := hide (fun X => hB.out.alloc (Nat.le_trans hBw hB.out.size) X)
   have HX : Hid (Be (wr.alloc (.cells #[.int .i64 ep, .int .i64 es, .int .i64 er] 88)) wr.heap.size #[.int .i64 ep, .int .i64 es, .int .i64 er]) := hide (heap_alloc_new wr _)
   have HOW : Hid (∀ X, OwnE (wr.alloc X) B (.slice (some ⟨gr, 0, none⟩) l.length vc) L) := hide (fun X => hO.out.below ((Below.refl _ _).alloc (Nat.le_refl _) X) (Nat.le_refl _))
   go_wp2_with fail
   refine (HC.out _ (HB2.out _)).mono ?_
   rintro x W1 ⟨rfl, hb1⟩
   have HB3 := hide ((HB2.out (.cells #[.int .i64 ep, .int .i64 es, .int .i64 er] 88)).trans (hb1.mono (by have := hB.out.size; simp; omega)))
   have HX3 := hide (HX.out.below hb1 (Nat.le_refl _))
   have HO3 := hide ((HOW.out (.cells #[.int .i64 ep, .int .i64 es, .int .i64 er] 88)).below hb1 (Nat.le_refl _))
   clear hb1 HC HB2 HX HOW c0 c1 c2 hO hB
   cases pe with
   | true =>
     go_wp2
     go_roundw
     case rel => exact ⟨i, j + 1, L, rfl, by go_num, by omega, by omega, HO3, hide (HSK.out (by simp)), HB3⟩
     case measure => simp [intOf]; omega
   | false =>
     obtain ⟨⟨d0, d1, d2⟩, hfz, hBg2, -⟩ := HO3.out.ent i (by omega)
     obtain ⟨b0, f0⟩ := HX3.out.cell 0
     obtain ⟨b1, f1⟩ := HX3.out.cell 1
     obtain ⟨b2, f2⟩ := HX3.out.cell 2
     have z0 := hfz (i * 3)
     have z1 := hfz (i * 3 + 1)
     have z2 := hfz (i * 3 + 2)
     have hii : (i : Int) < (l.length : Int) := by omega
     have hil : i < l.length := by omega
     clear hfz
     go_wp2
     go_roundw
     case rel => exact ⟨i + 1, j + 1, L.set i ⟨ep, es, er⟩, by go_num, by go_num, by omega, by omega, hide (HO3.out.put3 i (by omega) ep es er _ _ _ (by omega) (by omega) (by omega)), hide (HKP.out (by simp)), hide (belowStore3 HB3.out gr hBg _ _ _ _ _ _)⟩
     case measure => simp [intOf]; omega

theorem RdE.one (w : World) (e : Ent) (he : EntI e) : RdE (w.alloc (.cells (entC e) 88)) (.slice (some ⟨w.heap.size, 0, none⟩) 1 1) [e] := by
 have h := OwnE.ofRow (w := w.alloc (.cells (entC e) 88)) (B := w.heap.size) (g := w.heap.size) (cap := 1) (l := [e]) (n := 1) rfl (Nat.le_refl _) (heap_alloc_new w _) (Nat.le_refl _) (by unfold maxLen; decide) rfl (fun j hj => by
   rw [List.length_singleton] at hj
   match j, hj with
   | 0, _ => rfl
   | 1, _ => rfl
   | 2, _ => rfl)
 exact h.rd (fun x hx => by rw [List.mem_singleton.1 hx]; exact he)

theorem ins_cells3 (l : List Ent) (i : Nat) (hi : i <= l.length) (e : Ent) (f : Nat -> Option Value) (h1 : ∀ j, j < i * 3 -> f j = (entCells l)[j]?) (h2 : ∀ j, j < 3 -> f (i * 3 + j) = (entCells [e])[j]?)
   (h3 : ∀ j, j < (l.length - i) * 3 -> f ((i + 1) * 3 + j) = (entCells (l.drop i))[j]?) (j : Nat) (hj : j < (l.length + 1) * 3) : f j = (entCells (l.take i ++ (e :: l.drop i)))[j]? := by
 have e1 : l.take i ++ (e :: l.drop i) = l.take i ++ ([e] ++ l.drop i) := rfl
 have l1 : (entCells (l.take i)).length = i * 3 := by rw [entCells_length, List.length_take]; congr 1; omega
 have l2 : (entCells [e]).length = 3 := entCells_length [e]
 rw [e1, entCells_app, entCells_app]
 by_cases g1 : j < i * 3
 · rw [List.getElem?_append_left (by omega), h1 j g1, entCells_take, List.getElem?_take_of_lt g1]
 · rw [List.getElem?_append_right (by omega), l1]
   by_cases g2 : j < i * 3 + 3
   · rw [List.getElem?_append_left (by omega), <- h2 (j - i * 3) (by omega)]
     congr 1
     omega
   · rw [List.getElem?_append_right (by omega), l2, <- h3 (j - i * 3 - 3) (by omega)]
     congr 1
     omega

theorem ins_length (l : List Ent) (i : Nat) (hi : i <= l.length) (e : Ent) : (l.take i ++ (e :: l.drop i)).length = l.length + 1 := by simp; omega

def InsE (w : World) (B : Nat) (L : List Ent) (x : Ending) (w' : World) : Prop := ∃ v', x = .returned v' ∧ OwnE w' B v' L ∧ Below B w w'

set_option maxHeartbeats 2000000 in
theorem insertE_end (v : Value) (l : List Ent) (B : Nat) (w : World) (ho : OwnE w B v l) (hB : B <= w.heap.size) (hlim : l.length <= 100000) (e : Ent) (he : EntI e) (I : Int) (hI : I = (l.length : Nat)) (N : Nat) (hN : N = w.heap.size) :
   Calls Tryz.prog 95 #[v, .int .i64 I, .slice (some ⟨N, 0, none⟩) 1 1] (w.alloc (.cells (entC e) 88)) fun x w' => InsE w B (l.take l.length ++ (e :: l.drop l.length)) x w' := by
 subst hI hN
 have HE : Hid (l.take l.length ++ (e :: l.drop l.length) = l ++ [e]) := hide (by rw [List.take_length, List.drop_length])
 rw [HE.out]
 have HR := hide (RdE.one w e he)
 have HB0 : Hid (∀ X, Below B w (w.alloc X)) := fun X => (Below.refl _ _).alloc hB X
 have HO := hide (ho.below ((Below.refl w.heap.size w).alloc (Nat.le_refl _) (.cells (entC e) 88)) (Nat.le_refl _))
 have hsz : B <= (w.alloc (.cells (entC e) 88)).heap.size := by simp; omega
 rcases ho.row with ⟨rfl, rfl⟩ | ⟨g, cap, cur, rfl, hBg, hlt, hg, hn, hm, hs, hc⟩
 · clear ho HE
   go_enter Tryz.func95, Tryz.ntmps95
   go_wp2_with (at_builtin; refine wpList_append_ents _ rfl _ _ rfl B _ [] rfl HO.out _ [e] rfl HR.out (by simp) hsz ?_)
   intro v1 W1 ho1 hb1
   have HO1 := hide ho1
   have HB1 := hide ((HB0.out _).trans hb1)
   clear ho1 hb1
   go_wp2
   go_ret
   exact ⟨_, rfl, HO1.out, HB1.out⟩
 · have hmi : (cap : Int) <= 9223372036854775807 := by unfold maxLen at hm; omega
   have hni : (l.length : Int) <= (cap : Int) := by omega
   clear ho HE hc hg hs hm
   by_cases hcl : cap = l.length
   all_goals
     go_enter Tryz.func95, Tryz.ntmps95
     go_wp2_with (at_builtin; refine wpList_append_ents _ rfl _ _ rfl B _ l rfl HO.out _ [e] rfl HR.out (by simp; omega) hsz ?_)
     intro v1 W1 ho1 hb1
     have HO1 := hide ho1
     have HB1 := hide ((HB0.out _).trans hb1)
     clear ho1 hb1
     go_wp2
     go_ret
     exact ⟨_, rfl, HO1.out, HB1.out⟩

theorem ov_ent (w : World) (g N kA kB : Nat) (hne : N ≠ g) (la ca lb cb o : Nat) (hsa : w.shape? N = some (88, kA)) (hsb : w.shape? g = some (88, kB)) (hkB : kB ≠ 0) (hfa : ∀ k, w.frozen? ⟨N, k, none⟩ = false) :
   (callFunc 133 #[.slice (some ⟨N, 0, none⟩) la ca, .slice (some ⟨g, o, none⟩) lb cb]).run Tryz.prog w = .ok (.value (.bool false)) w := by
 rw [run_callFunc_extern Tryz.func133 (by kernel_rfl) (by kernel_rfl) (by kernel_rfl) (e := Extern.SlicesOverlaps.overlaps #[39, 39] #[4]) (by kernel_rfl),
   Lib.run_overlaps_apart w 39 4 88 Tryz.underlying39 3 Tryz.sizeOf88 ⟨N, 0, none⟩ ⟨g, o, none⟩ la ca lb cb hne _ _ kA kB hsa hsb hkB (hfa 0) (hfa kA)]
 rfl

theorem size_ent : (Tryz.prog.info? 88).map (·.size) = some 3 := by
 obtain ⟨i0, hi, hz0, hz1, hz2⟩ := info_parts info_ent
 rw [hi]
 simp [hz1]

set_option maxHeartbeats 4000000 in
theorem insertE_room (g cap : Nat) (l : List Ent) (B : Nat) (w : World) (ho : OwnE w B (.slice (some ⟨g, 0, none⟩) l.length cap) l) (hB : B <= w.heap.size) (i : Nat) (hi : i < l.length) (hroom : l.length + 1 <= cap) (e : Ent) (I : Int) (hI : I = (i : Nat)) (N : Nat) (hN : N = w.heap.size) :
   Calls Tryz.prog 95 #[.slice (some ⟨g, 0, none⟩) l.length cap, .int .i64 I, .slice (some ⟨N, 0, none⟩) 1 1] (w.alloc (.cells (entC e) 88)) fun x w' => InsE w B (l.take i ++ (e :: l.drop i)) x w' := by
 subst hI
 rcases ho.row with ⟨h1, -⟩ | ⟨g', cap', cur, h1, hBg, hlt, hg, hn, hm, hs, hc⟩
 · cases h1
 injection h1 with h1 _ h3
 injection h1 with h1
 injection h1 with h1
 subst h1 h3
 clear ho
 have hv : (w.alloc (.cells (entC e) 88)).heap[N]? = some (.cells (entC e) 88 (0, 0)) := by rw [hN]; exact heap_alloc_new w _
 have hg0 : (w.alloc (.cells (entC e) 88)).heap[g]? = some (.cells cur 88 (0, 0)) := (Below.heap_alloc _ _ _ hlt).trans hg
 have HB0 : Hid (Below B w (w.alloc (.cells (entC e) 88))) := (Below.refl _ _).alloc hB _
 generalize w.alloc (.cells (entC e) 88) = W at *
 have hne : N ≠ g := by omega
 have hm' : (cap : Int) <= 9223372036854775807 := by unfold maxLen at hm; omega
 have hfz : ∀ (j : Nat), W.frozen? ⟨g, j, none⟩ = false := fun j => frozen_of_row W g j _ _ hg0
 have hov : ∀ la ca lb cb o, (callFunc 133 #[.slice (some ⟨N, 0, none⟩) la ca, .slice (some ⟨g, o, none⟩) lb cb]).run Tryz.prog W = .ok (.value (.bool false)) W := fun la ca lb cb o =>
   ov_ent W g N 3 (cap * 3) hne la ca lb cb o (by simp [World.shape?, hv, entC]) (by simp [World.shape?, hg0, hs]) (by omega) (fun k => frozen_of_row W N k _ _ hv)
 have hdl : (entCells (l.drop i)).length = (l.length - i) * 3 := by rw [entCells_length, List.length_drop]
 have hsome : ∀ j, j < (l.length + 1) * 3 -> (W.cell? ⟨g, j, none⟩).isSome = true := fun j hj => by
   rw [cell_of_row W g j _ _ _ hg0, Array.getElem?_eq_getElem (by omega)]
   rfl
 have hcp1 : ∀ W', (∀ x, W'.cell? x = W.cell? x) -> (∀ x, W'.frozen? x = W.frozen? x) -> ∀ ty dc sc, (Builtin.copy_ #[39, 39] ty #[.slice (some ⟨g, (i + 1) * 3, none⟩) (l.length - i) dc, .slice (some ⟨g, i * 3, none⟩) (l.length + 1 - i) sc]).run Tryz.prog W' = .ok (goInt (Nat.min (l.length + 1 - i) (l.length - i))) (W'.setCells g ((i + 1) * 3) (entCells (l.drop i))) := fun W' hWc hWf ty dc sc =>
   run_copy_many W' _ _ ty 88 3 g ((i + 1) * 3) (l.length - i) dc ⟨g, i * 3, none⟩ (l.length + 1 - i) sc (entCells (l.drop i)) Tryz.underlying39 size_ent (by rw [hdl]; simp only [Nat.min_def]; split <;> omega)
     (fun j v hj => by
       have hj' : j < (l.length - i) * 3 := by rw [<- hdl]; exact (List.getElem?_eq_some_iff.1 hj).1
       rw [Addr.add_lit, hWc, cell_of_row W g _ _ _ _ hg0, hc _ (by omega)]
       rw [entCells_drop, List.getElem?_drop] at hj
       exact hj)
     (fun j hj => by rw [hWc]; exact hsome _ (by omega)) (fun j hj => by rw [hWf]; exact hfz _) (entCells_one _)
 obtain ⟨W1, hW1⟩ : ∃ W1, W1 = W.drew.setCells g ((i + 1) * 3) (entCells (l.drop i)) := ⟨_, rfl⟩
 have hg1 : W1.heap[g]? = some (.cells (layC cur ((i + 1) * 3) (entCells (l.drop i))) 88 (0, 0)) := by rw [hW1]; exact heap_setCells g _ _ _ W.drew cur hg0
 have hv1 : W1.heap[N]? = some (.cells (entC e) 88 (0, 0)) := by rw [hW1, setCells_other g _ _ _ N hne]; exact hv
 have hl3 : (entCells [e]).length = 3 := entCells_length [e]
 have hcp2 : ∀ W', (∀ x, W'.cell? x = W1.cell? x) -> (∀ x, W'.frozen? x = W1.frozen? x) -> ∀ ty dc, (Builtin.copy_ #[39, 39] ty #[.slice (some ⟨g, i * 3, none⟩) (l.length + 1 - i) dc, .slice (some ⟨N, 0, none⟩) 1 1]).run Tryz.prog W' = .ok (goInt (Nat.min 1 (l.length + 1 - i))) (W'.setCells g (i * 3) (entCells [e])) := fun W' hWc hWf ty dc =>
   run_copy_many W' _ _ ty 88 3 g (i * 3) (l.length + 1 - i) dc ⟨N, 0, none⟩ 1 1 (entCells [e]) Tryz.underlying39 size_ent (by rw [hl3]; simp only [Nat.min_def]; split <;> omega)
     (fun j v hj => by
       rw [Addr.add_lit, hWc, Nat.zero_add, cell_of_row W1 N _ _ _ _ hv1]
       have : (entCells [e])[j]? = (entC e)[j]? := by
         have hj' : j < 3 := by rw [<- hl3]; exact (List.getElem?_eq_some_iff.1 hj).1
         have := entCells_get [e] 0 j (by simp) hj'
         rwa [Nat.zero_mul, Nat.zero_add] at this
       rw [<- this]
       exact hj)
     (fun j hj => by
       rw [hWc, cell_of_row W1 g _ _ _ _ hg1, Array.getElem?_eq_getElem (by rw [layC_size]; omega)]
       rfl) (fun j hj => by rw [hWf]; exact frozen_of_row W1 g _ _ _ hg1) (entCells_one _)
 have HFIN : Hid (InsE w B (l.take i ++ (e :: l.drop i)) (.returned (.slice (some ⟨g, 0, none⟩) (l.length + 1) cap)) (W1.setCells g (i * 3) (entCells [e]))) := hide (by
   refine ⟨_, rfl, OwnE.ofRow (ins_length l i (by omega) e).symm hBg (heap_setCells g _ _ _ W1 _ hg1) (by rw [ins_length l i (by omega) e]; exact hroom) hm (by rw [layC_size, layC_size]; exact hs) (fun j hj => ?_), ?_⟩
   · rw [ins_length l i (by omega) e] at hj
     refine ins_cells3 l i (by omega) e (fun j => (layC (layC cur ((i + 1) * 3) (entCells (l.drop i))) (i * 3) (entCells [e]))[j]?) (fun k hk => ?_) (fun k hk => ?_) (fun k hk => ?_) j hj
     · show (layC (layC cur ((i + 1) * 3) (entCells (l.drop i))) (i * 3) (entCells [e]))[k]? = _
       rw [layC_get _ _ _ _ (by rw [layC_size]; omega), if_neg (by omega), layC_get _ _ _ _ (by omega), if_neg (by omega)]
       exact hc k (by omega)
     · show (layC (layC cur ((i + 1) * 3) (entCells (l.drop i))) (i * 3) (entCells [e]))[i * 3 + k]? = _
       rw [layC_get _ _ _ _ (by rw [layC_size]; omega), if_pos (by omega), Nat.add_sub_cancel_left]
     · show (layC (layC cur ((i + 1) * 3) (entCells (l.drop i))) (i * 3) (entCells [e]))[(i + 1) * 3 + k]? = _
       rw [layC_get _ _ _ _ (by rw [layC_size]; omega), if_neg (by omega), layC_get _ _ _ _ (by omega), if_pos (by omega), Nat.add_sub_cancel_left]
   · rw [hW1]
     exact belowCells hBg _ _ _ (belowCells hBg _ _ _ (belowDrew HB0.out)))
 have hcq1 := fun ty dc sc => hcp1 W.drew (fun _ => rfl) (fun _ => rfl) ty dc sc
 have hcq2 := fun ty dc => hcp2 W1 (fun _ => rfl) (fun _ => rfl) ty dc
 clear hcp1 hcp2
 rw [hW1] at HFIN hcq2
 clear hW1 hg1 hv1 hc hs hg hg0 hv hsome hfz hm HB0 hdl hl3 hN
 have mixed : Tryz.prog.follows .mixedOrders = true := by kernel_rfl
 have hz2 : ¬ ((i : Int) = (l.length : Int)) := by omega
 have hz3 : ((i : Int) == (l.length : Int)) = false := beq_eq_false_iff_ne.2 hz2
 have hw1 : IntKind.i64.wrap ((i : Int) + 1) = (i : Int) + 1 := by rw [IntKind.wrap_i64]; omega
 have hw2 : IntKind.i64.wrap ((l.length : Int) + 1) = (l.length : Int) + 1 := by rw [IntKind.wrap_i64]; omega
 have hb1 : (0 : Int) <= (i : Int) + 1 := by omega
 have hin : i <= l.length := by omega
 have hini : (i : Int) <= (l.length : Int) := by omega
 have htn : ((i : Int) + 1).toNat = i + 1 := by omega
 have htl : ((l.length : Int) + 1).toNat = l.length + 1 := by omega
 have hb2 : ¬ (cap = i + 1) := by omega
 have hb3 : (i : Int) <= (l.length : Int) + 1 := by omega
 have hb4 : ¬ (cap = i) := by omega
 have hb5 : ¬ ((cap : Int) < (l.length : Int) + 1) := by omega
 have hb6 : (l.length : Int) + 1 <= (cap : Int) := by omega
 have hb7 : (i : Int) + 1 <= (l.length : Int) + 1 := by omega
 generalize entCells (l.drop i) = dcs at *
 generalize entCells [e] = ecs at *
 generalize l.take i ++ (e :: l.drop i) = LL at *
 go_enter Tryz.func95, Tryz.ntmps95
 go_wp2_with (simp only [hov])
 go_region_law_o (refine step_copy_runI rfl _ _ 39 39 rfl _ _ (by simp [Act.eval, Act.put]) (by simp [Act.eval, Act.put]) (hcq1 _ _ _) ?_)
 go_wp2_with (at_builtin; refine wpList_copy_runI _ rfl _ _ 39 39 rfl _ _ rfl rfl (hcq2 _ _) ?_)
 go_wp2
 go_ret
 exact HFIN.out

set_option maxRecDepth 100000 in
set_option maxHeartbeats 4000000 in
theorem insertE_grow (g cap : Nat) (l : List Ent) (B : Nat) (w : World) (ho : OwnE w B (.slice (some ⟨g, 0, none⟩) l.length cap) l) (hB : B <= w.heap.size) (i : Nat) (hi : i < l.length) (hroom : cap < l.length + 1) (hlim : l.length <= 100000) (e : Ent) (I : Int) (hI : I = (i : Nat)) (N : Nat) (hN : N = w.heap.size) :
   Calls Tryz.prog 95 #[.slice (some ⟨g, 0, none⟩) l.length cap, .int .i64 I, .slice (some ⟨N, 0, none⟩) 1 1] (w.alloc (.cells (entC e) 88)) fun x w' => InsE w B (l.take i ++ (e :: l.drop i)) x w' := by
 subst hI
 rcases ho.row with ⟨h1, -⟩ | ⟨g', cap', cur, h1, hBg, hlt, hg, hn, hm, hs, hc⟩
 · cases h1
 injection h1 with h1 _ h3
 injection h1 with h1
 injection h1 with h1
 subst h1 h3
 clear ho
 obtain ⟨i0, hi0, hz0, hz1, hz2⟩ := info_parts info_ent
 have hv : (w.alloc (.cells (entC e) 88)).heap[N]? = some (.cells (entC e) 88 (0, 0)) := by rw [hN]; exact heap_alloc_new w _
 have hg0 : (w.alloc (.cells (entC e) 88)).heap[g]? = some (.cells cur 88 (0, 0)) := (Below.heap_alloc _ _ _ hlt).trans hg
 have HB0 : Hid (Below B w (w.alloc (.cells (entC e) 88))) := (Below.refl _ _).alloc hB _
 have hszW : (w.alloc (.cells (entC e) 88)).heap.size = w.heap.size + 1 := by simp
 generalize w.alloc (.cells (entC e) 88) = W at *
 have hl3 : (entCells [e]).length = 3 := entCells_length [e]
 have hdl : (entCells (l.drop i)).length = (l.length - i) * 3 := by rw [entCells_length, List.length_drop]
 have htl : ((entCells l).take (i * 3)).length = i * 3 := by rw [List.length_take, entCells_length]; omega
 have hold : (Builtin.firstCells i0.size i (.slice (some ⟨g, 0, none⟩) i cap)).run Tryz.prog W.drew = .ok ((entCells l).take (i * 3)).toArray W.drew := by
   rw [hz1]
   exact run_firstCells_some W.drew 3 i ⟨g, 0, none⟩ i cap ((entCells l).take (i * 3)) htl (fun j v hj => by
     have hj' : j < i * 3 := by rw [<- htl]; exact (List.getElem?_eq_some_iff.1 hj).1
     rw [List.getElem?_take_of_lt hj'] at hj
     rw [Addr.add_lit, Nat.zero_add, cell_of_row W.drew g j _ _ _ hg0, hc j (by omega)]
     exact hj)
 have hik : i + (l.length + 1 - i) = l.length + 1 := by omega
 have hkk : (l.length : Int) + 1 - (i : Int) = ((l.length + 1 - i : Nat) : Int) := by omega
 obtain ⟨G, hG⟩ : ∃ G, G = grownCap W (l.length + 1) cap 88 := ⟨_, rfl⟩
 obtain ⟨ROW, hROW⟩ : ∃ ROW, ROW = ((entCells l).take (i * 3)).toArray ++ Builtin.zeroCells (Value.agg #[.int .i64 0, .int .i64 0, .int .i64 0]).cells (l.length + 1 - i) ++ Builtin.zeroCells (Value.agg #[.int .i64 0, .int .i64 0, .int .i64 0]).cells (G - (l.length + 1)) := ⟨_, rfl⟩
 have hrz : ∀ ty, (Builtin.append_ #[39, 3] ty #[.slice (some ⟨g, 0, none⟩) i cap, .int .i64 ((l.length : Int) + 1 - (i : Int))]).run Tryz.prog W = .ok (.slice (some ⟨W.heap.size, 0, none⟩) (l.length + 1) G) ((W.alloc (.cells ROW 88)).drew) := fun ty => by
   have h := Lib.run_append_grow_zeros W 39 3 ty 88 i0 _ .i64 .i64 Tryz.underlying39 Tryz.underlying3 hi0 hz0 (some ⟨g, 0, none⟩) i cap _ hold (l.length + 1 - i) (by omega) (by omega) (by omega) (by omega) (by rw [hz2]; omega) (by rw [hz2, hik]; exact growslice_fits_wide hroom (by omega))
   rw [hik, <- hG, <- hROW, <- hkk] at h
   exact h
 have hGn : l.length + 1 <= G := by rw [hG]; exact grownCap_ge W _ _ _
 have hGm : G <= maxLen := by rw [hG]; exact grownCap_le_maxLen W (l.length + 1) cap 88 (by unfold maxLen; omega)
 have hz3s : ∀ n, (Builtin.zeroCells (Value.agg #[.int .i64 0, .int .i64 0, .int .i64 0]).cells n).size = n * 3 := fun n => by
   rw [<- Array.length_toList, zeroCells3, zeros3_length]
 have hRs : ROW.size = G * 3 := by
   rw [hROW, Array.size_append, Array.size_append, hz3s, hz3s, List.size_toArray, htl]
   omega
 have hRc : ∀ j, j < i * 3 -> ROW[j]? = (entCells l)[j]? := fun j hj => by
   rw [hROW, Array.append_assoc, Array.getElem?_append_left (by rw [List.size_toArray, htl]; exact hj), List.getElem?_toArray, List.getElem?_take_of_lt hj]
 have hrow : (W.alloc (.cells ROW 88)).drew.heap[W.heap.size]? = some (.cells ROW 88 (0, 0)) := heap_alloc_new W _
 have hvW : (W.alloc (.cells ROW 88)).drew.heap[N]? = some (.cells (entC e) 88 (0, 0)) := (Below.heap_alloc W _ N (by omega)).trans hv
 have hgW : (W.alloc (.cells ROW 88)).drew.heap[g]? = some (.cells cur 88 (0, 0)) := (Below.heap_alloc W _ g (by omega)).trans hg0
 have HB1 : Hid (Below B w (W.alloc (.cells ROW 88)).drew) := hide (belowDrew (HB0.out.alloc (by omega) _))
 have hBM : B <= W.heap.size := by omega
 have hNM : N ≠ W.heap.size := by omega
 have hgM : g ≠ W.heap.size := by omega
 obtain ⟨W2, hW2⟩ : ∃ W2, W2 = (W.alloc (.cells ROW 88)).drew := ⟨_, rfl⟩
 rw [<- hW2] at hrow hvW hgW HB1
 have hcq1 : ∀ ty dc, (Builtin.copy_ #[39, 39] ty #[.slice (some ⟨W.heap.size, i * 3, none⟩) (l.length + 1 - i) dc, .slice (some ⟨N, 0, none⟩) 1 1]).run Tryz.prog W2 = .ok (goInt (Nat.min 1 (l.length + 1 - i))) (W2.setCells W.heap.size (i * 3) (entCells [e])) := fun ty dc =>
   run_copy_many W2 _ _ ty 88 3 W.heap.size (i * 3) (l.length + 1 - i) dc ⟨N, 0, none⟩ 1 1 (entCells [e]) Tryz.underlying39 size_ent (by rw [hl3]; simp only [Nat.min_def]; split <;> omega)
     (fun j v hj => by
       rw [Addr.add_lit, Nat.zero_add, cell_of_row W2 N _ _ _ _ hvW]
       have : (entCells [e])[j]? = (entC e)[j]? := by
         have hj' : j < 3 := by rw [<- hl3]; exact (List.getElem?_eq_some_iff.1 hj).1
         have := entCells_get [e] 0 j (by simp) hj'
         rwa [Nat.zero_mul, Nat.zero_add] at this
       rw [<- this]
       exact hj)
     (fun j hj => by
       rw [cell_of_row W2 _ _ _ _ _ hrow, Array.getElem?_eq_getElem (by omega)]
       rfl) (fun j hj => frozen_of_row W2 _ _ _ _ hrow) (entCells_one _)
 obtain ⟨W3, hW3⟩ : ∃ W3, W3 = (W2.setCells W.heap.size (i * 3) (entCells [e])).drew := ⟨_, rfl⟩
 have hrow3 : W3.heap[W.heap.size]? = some (.cells (layC ROW (i * 3) (entCells [e])) 88 (0, 0)) := by rw [hW3]; exact heap_setCells _ _ _ _ W2 ROW hrow
 have hg3 : W3.heap[g]? = some (.cells cur 88 (0, 0)) := by
   rw [hW3]
   exact (setCells_other W.heap.size _ _ W2 g hgM).trans hgW
 have HB3 : Hid (Below B w W3) := hide (by rw [hW3]; exact belowDrew (belowCells hBM _ _ _ HB1.out))
 have hcq2 : ∀ ty dc sc, (Builtin.copy_ #[39, 39] ty #[.slice (some ⟨W.heap.size, (i + 1) * 3, none⟩) (l.length - i) dc, .slice (some ⟨g, i * 3, none⟩) (l.length - i) sc]).run Tryz.prog W3 = .ok (goInt (Nat.min (l.length - i) (l.length - i))) (W3.setCells W.heap.size ((i + 1) * 3) (entCells (l.drop i))) := fun ty dc sc =>
   run_copy_many W3 _ _ ty 88 3 W.heap.size ((i + 1) * 3) (l.length - i) dc ⟨g, i * 3, none⟩ (l.length - i) sc (entCells (l.drop i)) Tryz.underlying39 size_ent (by rw [hdl]; simp only [Nat.min_def]; split <;> omega)
     (fun j v hj => by
       have hj' : j < (l.length - i) * 3 := by rw [<- hdl]; exact (List.getElem?_eq_some_iff.1 hj).1
       rw [Addr.add_lit, cell_of_row W3 g _ _ _ _ hg3, hc _ (by omega)]
       rw [entCells_drop, List.getElem?_drop] at hj
       exact hj)
     (fun j hj => by
       rw [cell_of_row W3 _ _ _ _ _ hrow3, Array.getElem?_eq_getElem (by rw [layC_size]; omega)]
       rfl) (fun j hj => frozen_of_row W3 _ _ _ _ hrow3) (entCells_one _)
 have HFIN : Hid (InsE w B (l.take i ++ (e :: l.drop i)) (.returned (.slice (some ⟨W.heap.size, 0, none⟩) (l.length + 1) G)) (W3.setCells W.heap.size ((i + 1) * 3) (entCells (l.drop i)))) := hide (by
   refine ⟨_, rfl, OwnE.ofRow (ins_length l i (by omega) e).symm hBM (heap_setCells _ _ _ _ W3 _ hrow3) (by rw [ins_length l i (by omega) e]; exact hGn) hGm (by rw [layC_size, layC_size]; exact hRs) (fun j hj => ?_), ?_⟩
   · rw [ins_length l i (by omega) e] at hj
     refine ins_cells3 l i (by omega) e (fun j => (layC (layC ROW (i * 3) (entCells [e])) ((i + 1) * 3) (entCells (l.drop i)))[j]?) (fun k hk => ?_) (fun k hk => ?_) (fun k hk => ?_) j hj
     · show (layC (layC ROW (i * 3) (entCells [e])) ((i + 1) * 3) (entCells (l.drop i)))[k]? = _
       rw [layC_get _ _ _ _ (by rw [layC_size]; omega), if_neg (by omega), layC_get _ _ _ _ (by omega), if_neg (by omega)]
       exact hRc k hk
     · show (layC (layC ROW (i * 3) (entCells [e])) ((i + 1) * 3) (entCells (l.drop i)))[i * 3 + k]? = _
       rw [layC_get _ _ _ _ (by rw [layC_size]; omega), if_neg (by omega), layC_get _ _ _ _ (by omega), if_pos (by omega), Nat.add_sub_cancel_left]
     · show (layC (layC ROW (i * 3) (entCells [e])) ((i + 1) * 3) (entCells (l.drop i)))[(i + 1) * 3 + k]? = _
       rw [layC_get _ _ _ _ (by rw [layC_size]; omega), if_pos (by omega), Nat.add_sub_cancel_left]
   · exact belowCells hBM _ _ _ HB3.out)
 rw [hW3] at HFIN hcq2
 rw [hW2] at HFIN hcq2 hcq1
 clear hW3 hW2 hg3 hrow3 hrow hvW hgW hRs hRc hz3s HB3 HB1 hold hROW hc hs hg hg0 hv hm HB0 hdl hl3 htl hz2 hz1 hz0 hi0 hG hNM hgM hGm hkk hik hszW hN hBM
 have mixed : Tryz.prog.follows .mixedOrders = true := by kernel_rfl
 have hz2 : ¬ ((i : Int) = (l.length : Int)) := by omega
 have hz3 : ((i : Int) == (l.length : Int)) = false := beq_eq_false_iff_ne.2 hz2
 have hw1 : IntKind.i64.wrap ((i : Int) + 1) = (i : Int) + 1 := by rw [IntKind.wrap_i64]; omega
 have hw2 : IntKind.i64.wrap ((l.length : Int) + 1) = (l.length : Int) + 1 := by rw [IntKind.wrap_i64]; omega
 have hb1 : (0 : Int) <= (i : Int) + 1 := by omega
 have hin : i <= l.length := by omega
 have hini : (i : Int) <= (l.length : Int) := by omega
 have hinc : (i : Int) <= (cap : Int) := by omega
 have hicc : i <= cap := by omega
 have htn : ((i : Int) + 1).toNat = i + 1 := by omega
 have htl : ((l.length : Int) + 1).toNat = l.length + 1 := by omega
 have hb2 : ¬ (G = i + 1) := by omega
 have hb3 : (i : Int) <= (l.length : Int) + 1 := by omega
 have hb4 : ¬ (cap = i) := by omega
 have hb4' : ¬ (G = i) := by omega
 have hb5 : (cap : Int) < (l.length : Int) + 1 := by omega
 have hb7 : (i : Int) + 1 <= (l.length : Int) + 1 := by omega
 have hlb : (l.length : Int) <= 100000 := by omega
 have hw3 : IntKind.i64.wrap ((l.length : Int) + 1 - (i : Int)) = (l.length : Int) + 1 - (i : Int) := by rw [IntKind.wrap_i64]; omega
 clear hB hBg hlt hlim
 generalize entCells (l.drop i) = dcs at *
 generalize entCells [e] = ecs at *
 generalize l.take i ++ (e :: l.drop i) = LL at *
 go_enter Tryz.func95, Tryz.ntmps95
 go_wp2_with (first
   | (at_builtin; refine Lib.wpList_append_run _ rfl _ _ _ _ rfl _ _ rfl rfl _ _ (hrz _) ?_)
   | (at_builtin; refine wpList_copy_runI _ rfl _ _ 39 39 rfl _ _ rfl rfl (hcq1 _ _) ?_))
 go_region_law_o (refine step_copy_runI rfl _ _ 39 39 rfl _ _ (by simp [Act.eval, Act.put]) (by simp [Act.eval, Act.put]) (hcq2 _ _ _) ?_)
 go_wp2
 go_ret
 exact HFIN.out

theorem insertE_any (v : Value) (l : List Ent) (B : Nat) (w : World) (ho : OwnE w B v l) (hB : B <= w.heap.size) (hlim : l.length <= 100000) (i : Nat) (hi : i <= l.length) (e : Ent) (he : EntI e) (I : Int) (hI : I = (i : Nat)) (N : Nat) (hN : N = w.heap.size) :
   Calls Tryz.prog 95 #[v, .int .i64 I, .slice (some ⟨N, 0, none⟩) 1 1] (w.alloc (.cells (entC e) 88)) fun x w' => InsE w B (l.take i ++ (e :: l.drop i)) x w' := by
 by_cases h : i = l.length
 · subst h
   exact insertE_end v l B w ho hB hlim e he I hI N hN
 · rcases ho.row with ⟨-, rfl⟩ | ⟨g, cap, cur, rfl, -⟩
   · exact absurd (by simpa using hi) (by simpa using h)
   · by_cases hr : l.length + 1 <= cap
     · exact insertE_room g cap l B w ho hB i (by omega) hr e I hI N hN
     · exact insertE_grow g cap l B w ho hB i (by omega) (by omega) hlim e I hI N hN

theorem putOf_small {l : List UInt8} {n : Int} (h0 : 0 <= n) (h1 : n < 4611686018427387904) : putOf l n = l ++ Lib.uvarint n.toNat := if_pos ⟨h0, h1⟩

theorem uv10 {n : Int} (h : I64 n) : (Lib.uvarint (Lib.zigzag n)).length <= 10 := Lib.uvarint_length64 (zig_lt h)

theorem uv10' {n : Nat} (h : n < 4611686018427387904) : (Lib.uvarint n).length <= 10 := Lib.uvarint_length64 (by omega)

theorem two_new (w : World) (X Y : Obj) : ((w.alloc X).alloc Y).heap[w.heap.size + 1]? = some Y := by
 have h := heap_alloc_new (w.alloc X) Y
 have e : (w.alloc X).heap.size = w.heap.size + 1 := by simp
 rwa [e] at h

def Gotten (w : World) (l : List UInt8) (e : Ending) (w' : World) : Prop :=
 e = .returned (.tuple #[opV (getOpL l).1, .int .i64 ((getOpL l).2 : Nat)]) ∧ Below w.heap.size w w'

def recV (r : Rec) : Value := .agg #[.int .i64 r.idx, .int .i64 r.proc, .int .i64 r.seq, .int .i64 r.op.code, .int .i64 r.op.a, .int .i64 r.op.b, .int .i64 r.resp]

def recC (r : Rec) : Array Value := #[.int .i64 r.idx, .int .i64 r.proc, .int .i64 r.seq, .int .i64 r.op.code, .int .i64 r.op.a, .int .i64 r.op.b, .int .i64 r.resp]

def RecOk (r : Rec) : Prop := I64 r.idx ∧ I64 r.proc ∧ I64 r.seq ∧ OpOk r.op ∧ I64 r.resp

def Br (w : World) (b : Nat) (cs : Array Value) : Prop := w.heap[b]? = some (.cells cs 66 (0, 0))

theorem Br.lt {w : World} {b : Nat} {cs : Array Value} (h : Br w b cs) : b < w.heap.size := (Array.getElem?_eq_some_iff.1 h).1

theorem Br.below {w w' : World} {b B : Nat} {cs : Array Value} (h : Br w b cs) (hb : Below B w w') (hB : w.heap.size <= B) : Br w' b cs := (hb.block b (by have := h.lt; omega)).trans h

theorem Br.cell {w : World} {b : Nat} {cs : Array Value} (h : Br w b cs) (j : Nat) : w.cell? ⟨b, j, none⟩ = cs[j]? ∧ w.frozen? ⟨b, j, none⟩ = false := ⟨cell_of_row w b j _ _ _ h, frozen_of_row w b j _ _ h⟩

set_option maxHeartbeats 1000000 in
theorem note1_any (r : Rec) (R : Nat) (e : Ent) (W : World) (hb : Br W R (recC r)) :
   Calls Tryz.prog 91 #[entV e, .pointer (some ⟨R, 0, none⟩)] W fun x w' => x = .returned (.bool (decide (e.proc = r.proc))) ∧ Below W.heap.size W w' := by
 have HB0 : Hid (∀ X, Below W.heap.size W (W.alloc X)) := fun X => (Below.refl _ _).alloc (Nat.le_refl _) X
 have hlt : R < W.heap.size := (Array.getElem?_eq_some_iff.1 hb).1
 have HC : Hid (∀ X, (W.alloc X).cell? ⟨R, 1, none⟩ = some (.int .i64 r.proc)) := hide (fun X => by
   rw [(HB0.out X).cell (p := ⟨R, 1, none⟩) hlt]
   exact cell_of_row W R 1 _ _ _ hb)
 obtain ⟨ep, es, er⟩ := e
 unfold entV
 simp only
 have hc := HC.out
 generalize r.proc = rp at *
 clear hb HC
 by_cases h : ep = rp
 · have HE : Hid (decide (ep = rp) = true) := decide_eq_true h
   have h' : (ep == rp) = true := beq_iff_eq.2 h
   rw [HE.out]
   clear HE h
   go_enter Tryz.func91, Tryz.ntmps91
   go_wp2
   go_ret
   exact ⟨rfl, HB0.out _⟩
 · have HE : Hid (decide (ep = rp) = false) := decide_eq_false h
   have h' : (ep == rp) = false := beq_eq_false_iff_ne.2 h
   rw [HE.out]
   clear HE h
   go_enter Tryz.func91, Tryz.ntmps91
   go_wp2
   go_ret
   exact ⟨rfl, HB0.out _⟩

set_option maxHeartbeats 1000000 in
theorem note2_any (r : Rec) (R : Nat) (e : Ent) (W : World) (hb : Br W R (recC r)) :
   Calls Tryz.prog 92 #[entV e, .pointer (some ⟨R, 0, none⟩)] W fun x w' => x = .returned (.bool (decide (r.proc < e.proc))) ∧ Below W.heap.size W w' := by
 have HB0 : Hid (∀ X, Below W.heap.size W (W.alloc X)) := fun X => (Below.refl _ _).alloc (Nat.le_refl _) X
 have hlt : R < W.heap.size := (Array.getElem?_eq_some_iff.1 hb).1
 have HC : Hid (∀ X, (W.alloc X).cell? ⟨R, 1, none⟩ = some (.int .i64 r.proc)) := hide (fun X => by
   rw [(HB0.out X).cell (p := ⟨R, 1, none⟩) hlt]
   exact cell_of_row W R 1 _ _ _ hb)
 obtain ⟨ep, es, er⟩ := e
 unfold entV
 simp only
 have hc := HC.out
 generalize r.proc = rp at *
 clear hb HC
 by_cases h : rp < ep
 · have HE : Hid (decide (rp < ep) = true) := decide_eq_true h
   rw [HE.out]
   clear HE
   go_enter Tryz.func92, Tryz.ntmps92
   go_wp2
   go_ret
   exact ⟨rfl, HB0.out _⟩
 · have HE : Hid (decide (rp < ep) = false) := decide_eq_false h
   rw [HE.out]
   clear HE
   go_enter Tryz.func92, Tryz.ntmps92
   go_wp2
   go_ret
   exact ⟨rfl, HB0.out _⟩

theorem placeE_any {p : Int} {t : List Ent} {k : Int} (h : FoundE (fun e => decide (p < e.proc)) t k) : (k < 0 ∧ firstG p t = t.length) ∨ (0 <= k ∧ k = (firstG p t : Nat)) := by
 rcases h with ⟨rfl, h⟩ | ⟨i, rfl, hi, h1, h2⟩
 · exact .inl ⟨by omega, firstG_all (fun j hj => of_decide_eq_false (h j hj))⟩
 · refine .inr ⟨by omega, ?_⟩
   rw [firstG_at hi (fun j hj => of_decide_eq_false (h1 j hj)) (of_decide_eq_true h2)]

theorem butP_mem {p : Int} {t : List Ent} {P : Ent -> Prop} (h : ∀ e ∈ t, P e) : ∀ e ∈ butP p t, P e := fun e he => h e (List.mem_filter.1 he).1

set_option maxHeartbeats 4000000 in
theorem noteN_any (v : Value) (t : List Ent) (r : Rec) (w : World) (hr : RdE w v t) (hok : RecOk r) (hlim : t.length <= 2000) :
   Calls Tryz.prog 47 #[v, recV r] w fun e w' => ∃ v', e = .returned v' ∧ OwnE w' w.heap.size v' (noteL t ⟨r.proc, r.seq, r.resp⟩) ∧ Below w.heap.size w w' := by
 have hTI : ∀ e ∈ t, EntI e := hr.choose_spec.choose_spec.2.2.2.2.1
 have HTI := hide hTI
 have HX : Hid (Br (w.alloc (.cells (recC r) 66)) w.heap.size (recC r)) := hide (heap_alloc_new w _)
 have HB0 : Hid (Below w.heap.size w (w.alloc (.cells (recC r) 66))) := hide ((Below.refl _ _).alloc (Nat.le_refl _) _)
 have hsz : (w.alloc (.cells (recC r) 66)).heap.size = w.heap.size + 1 := by simp
 have HR := hide (hr.below HB0.out (Nat.le_refl _))
 have HEI : Hid (EntI ⟨r.proc, r.seq, r.resp⟩) := hide ⟨hok.2.1, hok.2.2.1, hok.2.2.2.2⟩
 have eg1 : ∀ args W, (callFunc 91 args).run Tryz.prog W = .ok (.enter 91 args) W := enters_of Tryz.func91 (by kernel_rfl) rfl
 have eg2 : ∀ args W, (callFunc 92 args).run Tryz.prog W = .ok (.enter 92 args) W := enters_of Tryz.func92 (by kernel_rfl) rfl
 have HEG1 := hide eg1
 have HEG2 := hide eg2
 have HNI : Hid (noteL t ⟨r.proc, r.seq, r.resp⟩ = (butP r.proc t).take (firstG r.proc (butP r.proc t)) ++ (⟨r.proc, r.seq, r.resp⟩ :: (butP r.proc t).drop (firstG r.proc (butP r.proc t)))) := hide (noteL_ins ⟨r.proc, r.seq, r.resp⟩ t)
 have HBT : Hid (t.filter (fun e => !decide (e.proc = r.proc)) = butP r.proc t) := hide (by unfold butP; simp)
 have HN1 := hide (fun W e h => note1_any r w.heap.size e W h)
 have HN2 := hide (fun W e h => note2_any r w.heap.size e W h)
 have HXB : Hid (∀ W, Below (w.heap.size + 1) (w.alloc (.cells (recC r) 66)) W -> Br W w.heap.size (recC r)) := hide (fun W h => (h.block w.heap.size (by omega)).trans HX.out)
 have hmf : ∀ (fn : Fn) (first cap : Array Value) (w : World), (Instr.makeFunc fn first cap).run Tryz.prog w = .ok (.func fn first cap) w := fun _ _ _ _ => rfl
 have HCL := hide (fun W v l h h2 => cloneE_any v l W h h2)
 clear eg1 eg2 hTI hok hr
 unfold recV recC at *
 go_enter Tryz.func47, Tryz.ntmps47
 go_wp2_with fail
 refine (HCL.out _ _ t HR.out (by omega)).mono ?_
 rintro x W1 ⟨v1, rfl, ho1, hb1⟩
 rw [hsz] at ho1 hb1
 have HO1 := hide ho1
 have HB1 := hide hb1
 clear ho1 hb1
 have HDE := hide (deleteFuncE_any 91 w.heap.size (fun e => decide (e.proc = r.proc)) v1 t (w.heap.size + 1) W1 HO1.out HTI.out (by have := HB1.out.size; omega) (by omega) HEG1.out (fun W e h => HN1.out W e (HXB.out W (HB1.out.trans h))))
 go_wp2_with fail
 refine HDE.out.mono ?_
 rintro x W2 ⟨v2, rfl, ho2, hb2⟩
 rw [HBT.out] at ho2
 have HO2 := hide ho2
 have HB2 := hide (HB1.out.trans hb2)
 have HT2 := hide (butP_mem (p := r.proc) HTI.out)
 have hl2 : (butP r.proc t).length <= 2000 := Nat.le_trans (butP_len _ _) hlim
 clear ho2 hb2 HDE HO1 HB1 HR HTI HBT
 obtain ⟨bt, hbt⟩ : ∃ bt, bt = butP r.proc t := ⟨_, rfl⟩
 rw [<- hbt] at HO2 HT2 HNI hl2
 clear hbt
 have HIX := hide (indexFuncE_any 92 w.heap.size (fun e => decide (r.proc < e.proc)) v2 bt W2 (HO2.out.rd HT2.out) HEG2.out (fun W e h => HN2.out W e (HXB.out W (HB2.out.trans (h.mono (by have := HB2.out.size; omega))))))
 obtain ⟨va, vc, hv2⟩ := HO2.out.shape
 subst hv2
 go_wp2_with fail
 refine HIX.out.mono ?_
 rintro x W3 ⟨k, rfl, hf, hb3⟩
 have HO3 := hide (HO2.out.below hb3 (Nat.le_refl _))
 have HB3 := hide (HB2.out.trans (hb3.mono (by have := HB2.out.size; omega)))
 have HX3 := hide (HXB.out W3 HB3.out)
 have HBW := hide (HB0.out.trans (HB3.out.mono (by omega)))
 have hs3 : w.heap.size + 1 <= W3.heap.size := by have := HB3.out.size; omega
 clear hb3 HIX HO2 HB2
 obtain ⟨q1, f1⟩ := HX3.out.cell 1
 obtain ⟨q2, f2⟩ := HX3.out.cell 2
 obtain ⟨q4, f4⟩ := HX3.out.cell 6
 have hfl := firstG_le r.proc bt
 have HIN := hide (fun I hI N hN => insertE_any (.slice va bt.length vc) bt (w.heap.size + 1) W3 HO3.out hs3 (by omega) (firstG r.proc bt) hfl ⟨r.proc, r.seq, r.resp⟩ HEI.out I hI N hN)
 rw [<- HNI.out] at HIN
 unfold entC at HIN
 have hbl : (bt.length : Int) <= 2000 := by omega
 rcases placeE_any hf with ⟨hk, hE⟩ | ⟨hk, hE⟩
 · clear hf
   have HE2 := hide hE
   clear hE hfl hl2 hlim
   go_wp2_with fail
   refine (HIN.out _ (by rw [HE2.out]) _ rfl).mono ?_
   rintro x W4 ⟨v4, rfl, ho4, hb4⟩
   have HO4 := hide (ho4.mono (B' := w.heap.size) (by omega))
   have HB4 := hide (HBW.out.trans (hb4.mono (by omega)))
   clear ho4 hb4
   go_wp2
   go_ret
   exact ⟨_, rfl, HO4.out, HB4.out⟩
 · clear hf
   have hkn : ¬ k < 0 := by omega
   have HE2 := hide hE
   clear hE hfl hl2 hlim
   go_wp2_with fail
   refine (HIN.out _ HE2.out _ rfl).mono ?_
   rintro x W4 ⟨v4, rfl, ho4, hb4⟩
   have HO4 := hide (ho4.mono (B' := w.heap.size) (by omega))
   have HB4 := hide (HBW.out.trans (hb4.mono (by omega)))
   clear ho4 hb4
   go_wp2
   go_ret
   exact ⟨_, rfl, HO4.out, HB4.out⟩

def Bn (w : World) (b : Nat) (cs : Array Value) : Prop := w.heap[b]? = some (.cells cs 41 (0, 0))

theorem Bn.lt {w : World} {b : Nat} {cs : Array Value} (h : Bn w b cs) : b < w.heap.size := (Array.getElem?_eq_some_iff.1 h).1

theorem Bn.below {w w' : World} {b B : Nat} {cs : Array Value} (h : Bn w b cs) (hb : Below B w w') (hB : w.heap.size <= B) : Bn w' b cs := (hb.block b (by have := h.lt; omega)).trans h

theorem Bn.cell {w : World} {b : Nat} {cs : Array Value} (h : Bn w b cs) (j : Nat) : w.cell? ⟨b, j, none⟩ = cs[j]? ∧ w.frozen? ⟨b, j, none⟩ = false := ⟨cell_of_row w b j _ _ _ h, frozen_of_row w b j _ _ h⟩

theorem new_two (w : World) (X Y : Obj) : ((w.alloc X).alloc Y).heap[w.heap.size + 1]? = some Y := by
 have h := heap_alloc_new (w.alloc X) Y
 have e : (w.alloc X).heap.size = w.heap.size + 1 := by simp
 rw [e] at h
 exact h

def SameN (a b : Snap) : Prop := SameS a.st b.st ∧ a.idx = b.idx ∧ a.tab = b.tab

instance (a b : Snap) : Decidable (SameN a b) := by unfold SameN; infer_instance

theorem RdE.but {w w' : World} {v : Value} {l : List Ent} (h : RdE w v l) {R T : Nat} (hb : But R T w w') (hn : l = [] ∨ ∀ b, v.ownBlock = some b -> b ≠ R ∧ b ≠ T) : RdE w' v l := by
 obtain ⟨ao, cap, rfl, h2, h3, hn0, hw, h4⟩ := h
 refine ⟨ao, cap, rfl, h2, h3, hn0, hw, ?_⟩
 rcases h4 with h4 | ⟨b, off, h5, h6⟩
 · exact .inl h4
 · by_cases hl : l = []
   · exact .inl hl
   · refine .inr ⟨b, off, h5, fun j hj => ?_⟩
     have h7 := h6 j hj
     rcases hn with hn | hn
     · exact absurd hn hl
     · have h8 := hn b (by rw [h5]; rfl)
       exact h7.keep (hb.block b h7.lt h8.1 h8.2)

theorem RdE.block {w : World} {v : Value} {l : List Ent} (h : RdE w v l) : l = [] ∨ ∀ b, v.ownBlock = some b -> b < w.heap.size := by
 obtain ⟨ao, cap, rfl, h2, h3, hn0, hw, h4⟩ := h
 rcases h4 with h4 | ⟨b, off, rfl, h6⟩
 · exact .inl h4
 · by_cases hl : l = []
   · exact .inl hl
   · refine .inr fun c hc => ?_
     have e : b = c := by simpa [Value.ownBlock] using hc
     rw [<- e]
     exact (h6 0 (List.length_pos_iff.2 hl)).lt

theorem RdI.old {w : World} {v : Value} {l : List Int} (h : RdI w v l) : l = [] ∨ ∀ b, v.ownBlock = some b -> b < w.heap.size := by
 rcases h.block with h | ⟨_, b, hb, hlt⟩
 · exact .inl h
 · refine .inr fun c hc => ?_
   rw [hb] at hc
   injection hc with hc
   omega

theorem OwnE.fresh {w : World} {B : Nat} {v : Value} {l : List Ent} (h : OwnE w B v l) : ∀ b, v.ownBlock = some b -> B <= b := fun b hb => (World.ownsRow.lt h b hb).1

def DecodedN (w : World) (r : Snap × Int) (e : Ending) (w' : World) : Prop :=
 ∃ vl vt, e = .returned (.tuple #[.agg #[.int .i64 r.1.idx, .int .i64 r.1.st.kind, vl, .bool r.1.st.shut, .int .i64 r.1.st.eng, vt], .int .i64 r.2]) ∧ RdI w' vl r.1.st.L ∧ I64 r.1.st.kind ∧ I64 r.1.st.eng ∧ RdE w' vt r.1.tab ∧ I64 r.1.idx ∧ (∀ b, vl.ownBlock = some b -> w.heap.size <= b) ∧ (∀ b, vt.ownBlock = some b -> w.heap.size <= b) ∧ Below w.heap.size w w'

theorem DecodedN.zero {w w' : World} (n : Int) (hb : Below w.heap.size w w') : DecodedN w (zeroN, n) (.returned (.tuple #[.agg #[.int .i64 0, .int .i64 0, .slice none 0 0, .bool false, .int .i64 0, .slice none 0 0], .int .i64 n])) w' :=
 ⟨_, _, rfl, RdI.nil _, (i64_small (by decide) (by decide) : I64 0), (i64_small (by decide) (by decide) : I64 0), RdE.nil _, (i64_small (by decide) (by decide) : I64 0), fun b hb => by simp [Value.ownBlock] at hb, fun b hb => by simp [Value.ownBlock] at hb, hb⟩

def six (w : World) (R : Nat) (x0 x1 x2 x3 x4 x5 : Value) : World := (((((w.setCell ⟨R, 0, none⟩ x0).setCell ⟨R, 1, none⟩ x1).setCell ⟨R, 2, none⟩ x2).setCell ⟨R, 3, none⟩ x3).setCell ⟨R, 4, none⟩ x4).setCell ⟨R, 5, none⟩ x5

theorem belowSix {C : Nat} {w0 w : World} (h : Below C w0 w) (R : Nat) (hR : C <= R) (x0 x1 x2 x3 x4 x5 : Value) : Below C w0 (six w R x0 x1 x2 x3 x4 x5) :=
 (((((h.setCell hR _).setCell hR _).setCell hR _).setCell hR _).setCell hR _).setCell hR _

theorem belowSixE {C : Nat} {w0 w : World} (h : Below C w0 w) (R : Nat) (hR : C <= R) (x0 x1 x2 x3 x4 x5 : Value) : Below C w0 ((((((w.setCell ⟨R, 0, none⟩ x0).setCell ⟨R, 1, none⟩ x1).setCell ⟨R, 2, none⟩ x2).setCell ⟨R, 3, none⟩ x3).setCell ⟨R, 4, none⟩ x4).setCell ⟨R, 5, none⟩ x5) := belowSix h R hR x0 x1 x2 x3 x4 x5

theorem butSix (w : World) (R : Nat) (x0 x1 x2 x3 x4 x5 : Value) : But R R w (six w R x0 x1 x2 x3 x4 x5) :=
 ((((((But.refl R R w).set _ _ (.inl rfl) _).set _ _ (.inl rfl) _).set _ _ (.inl rfl) _).set _ _ (.inl rfl) _).set _ _ (.inl rfl) _).set _ _ (.inl rfl) _

theorem Bn.set {w : World} {b : Nat} {cs : Array Value} (h : Bn w b cs) (j : Nat) (x : Value) : Bn (w.setCell ⟨b, j, none⟩ x) b (cs.setIfInBounds j x) := by
 have := heap_setCell_same w b j _ _ x h
 unfold Bn
 simpa using this

theorem Bn.other {w : World} {b c : Nat} {cs : Array Value} (h : Bn w b cs) (j : Nat) (x : Value) (hne : b ≠ c) : Bn (w.setCell ⟨c, j, none⟩ x) b cs := (Below.heap_setCell _ _ _ _ hne).trans h

def RecAt (w : World) (b o : Nat) (r : Rec) : Prop :=
 w.cell? ⟨b, o, none⟩ = some (.int .i64 r.idx) ∧ w.cell? ⟨b, o + 1, none⟩ = some (.int .i64 r.proc) ∧ w.cell? ⟨b, o + 2, none⟩ = some (.int .i64 r.seq) ∧ w.cell? ⟨b, o + 3, none⟩ = some (.int .i64 r.op.code) ∧ w.cell? ⟨b, o + 4, none⟩ = some (.int .i64 r.op.a) ∧ w.cell? ⟨b, o + 5, none⟩ = some (.int .i64 r.op.b) ∧ w.cell? ⟨b, o + 6, none⟩ = some (.int .i64 r.resp)

theorem RecAt.lt {w : World} {b o : Nat} {r : Rec} (h : RecAt w b o r) : b < w.heap.size := World.block_lt_of_cell? w ⟨b, o, none⟩ h.1

theorem RecAt.keep {w w' : World} {b o : Nat} {r : Rec} (h : RecAt w b o r) (hk : w'.heap[b]? = w.heap[b]?) : RecAt w' b o r := by
 have hc : ∀ i, w'.cell? ⟨b, i, none⟩ = w.cell? ⟨b, i, none⟩ := fun i => World.cell?_of_block (a := ⟨b, i, none⟩) hk
 unfold RecAt at h ⊢
 simp only [hc]
 exact h

def RdR (w : World) (v : Value) (l : List Rec) : Prop :=
 ∃ ao cap, v = .slice ao l.length cap ∧ l.length <= cap ∧ cap <= maxLen ∧ (ao = none -> cap = 0) ∧ (∀ r ∈ l, RecOk r) ∧
   (l = [] ∨ ∃ b off, ao = some ⟨b, off, none⟩ ∧ ∀ j, j < l.length -> RecAt w b (off + j * 7) (l.getD j zeroR))

theorem RdR.nil (w : World) : RdR w (.slice none 0 0) [] := ⟨none, 0, rfl, Nat.le_refl _, Nat.zero_le _, fun _ => rfl, (fun r h => by simp at h), .inl rfl⟩

theorem RdR.below {w w' : World} {v : Value} {l : List Rec} (h : RdR w v l) {B : Nat} (hb : Below B w w') (hB : w.heap.size <= B) : RdR w' v l := by
 obtain ⟨ao, cap, h1, h2, h3, hn, hw, h4⟩ := h
 refine ⟨ao, cap, h1, h2, h3, hn, hw, ?_⟩
 rcases h4 with h4 | ⟨b, off, h5, h6⟩
 · exact .inl h4
 · refine .inr ⟨b, off, h5, fun j hj => ?_⟩
   have h7 := h6 j hj
   exact h7.keep (hb.block b (by have := h7.lt; omega))

def recCells : List Rec -> List Value
 | [] => []
 | r :: t => (recC r).toList ++ recCells t

theorem recCells_length : ∀ l : List Rec, (recCells l).length = l.length * 7
 | [] => rfl
 | r :: t => by
   rw [recCells, List.length_append, recCells_length t, List.length_cons]
   simp [recC]
   omega

theorem recCells_app : ∀ a b : List Rec, recCells (a ++ b) = recCells a ++ recCells b
 | [], _ => rfl
 | r :: t, b => by rw [List.cons_append, recCells, recCells_app t b, recCells, List.append_assoc]

theorem recCells_get : ∀ (l : List Rec) (j k : Nat), j < l.length -> k < 7 -> (recCells l)[j * 7 + k]? = (recC (l.getD j zeroR))[k]?
 | r :: t, 0, k, _, hk => by
   rw [recCells, Nat.zero_mul, Nat.zero_add, List.getElem?_append_left (by simp [recC]; omega)]
   simp [List.getD]
 | r :: t, j + 1, k, hj, hk => by
   have e : (j + 1) * 7 + k = (recC r).toList.length + (j * 7 + k) := by simp [recC]; omega
   rw [recCells, e, List.getElem?_append_right (by omega), Nat.add_sub_cancel_left, recCells_get t j k (by simpa using hj) hk]
   simp [List.getD]

theorem recCells_one (l : List Rec) : ∀ u ∈ recCells l, u.oneCell' = true := by
 induction l with
 | nil => intro u hu; simp [recCells] at hu
 | cons r t ih =>
   intro u hu
   rw [recCells] at hu
   rcases List.mem_append.1 hu with h | h
   · simp [recC] at h
     rcases h with rfl | rfl | rfl | rfl | rfl | rfl | rfl <;> rfl
   · exact ih u h

def OwnR (w : World) (B : Nat) (v : Value) (l : List Rec) : Prop := w.ownsRow B 66 7 v l.length (recCells l)

theorem OwnR.nil (w : World) (B : Nat) : OwnR w B (.slice none 0 0) [] := World.ownsRow_nil w B 66 7

theorem OwnR.rd {w : World} {B : Nat} {v : Value} {l : List Rec} (h : OwnR w B v l) (hw : ∀ r ∈ l, RecOk r) : RdR w v l := by
 rcases h.2 with ⟨hv, hn⟩ | ⟨g, cap, cur, hv, hb, hg, hnc, hcm, hcs, htake⟩
 · exact ⟨none, 0, by rw [hv, hn], by omega, Nat.zero_le _, fun _ => rfl, hw, .inl (List.eq_nil_of_length_eq_zero hn)⟩
 · refine ⟨some ⟨g, 0, none⟩, cap, hv, hnc, hcm, (fun e => by cases e), hw, .inr ⟨g, 0, rfl, fun j hj => ?_⟩⟩
   have hc : ∀ k u, k < 7 -> (recC (l.getD j zeroR))[k]? = some u -> w.cell? ⟨g, 0 + j * 7 + k, none⟩ = some u := fun k u hk hu => by
     have := World.ownsRow.cells h (g := g) (by rw [hv]; rfl) (j * 7 + k) u ((recCells_get l j k hj hk).trans hu)
     rw [Addr.add_lit] at this
     rw [Nat.add_assoc]
     exact this
   exact ⟨hc 0 _ (by decide) rfl, hc 1 _ (by decide) rfl, hc 2 _ (by decide) rfl, hc 3 _ (by decide) rfl, hc 4 _ (by decide) rfl, hc 5 _ (by decide) rfl, hc 6 _ (by decide) rfl⟩

theorem OwnR.below {w w' : World} {B B' : Nat} {v : Value} {l : List Rec} (h : OwnR w B v l) (hb : Below B' w w') (hB : w.heap.size <= B') : OwnR w' B v l := by
 obtain ⟨h1, h2⟩ := h
 refine ⟨h1, ?_⟩
 rcases h2 with h2 | ⟨g, cap, cur, hv, hbg, hg, r⟩
 · exact .inl h2
 · have hlt : g < w.heap.size := (Array.getElem?_eq_some_iff.1 hg).1
   exact .inr ⟨g, cap, cur, hv, hbg, by rw [hb.block g (by omega)]; exact hg, r⟩

theorem OwnR.mono {w : World} {B B' : Nat} {v : Value} {l : List Rec} (h : OwnR w B v l) (hB : B' <= B) : OwnR w B' v l := by
 obtain ⟨h1, h2⟩ := h
 refine ⟨h1, ?_⟩
 rcases h2 with h2 | ⟨g, cap, cur, hv, hb, r⟩
 · exact .inl h2
 · exact .inr ⟨g, cap, cur, hv, by omega, r⟩

theorem OwnR.shape {w : World} {B : Nat} {v : Value} {l : List Rec} (h : OwnR w B v l) : ∃ ao cap, v = .slice ao l.length cap := by
 rcases h.2 with ⟨hv, hn⟩ | ⟨g, cap, cur, hv, _⟩
 · exact ⟨none, 0, by rw [hv, hn]⟩
 · exact ⟨_, _, hv⟩

theorem info_rec : (Tryz.prog.info? 66).map (fun i => (i.zero, i.size, i.bytes)) = some (some (.agg #[.int .i64 0, .int .i64 0, .int .i64 0, .int .i64 0, .int .i64 0, .int .i64 0, .int .i64 0]), 7, 56) := by kernel_rfl

theorem elem_recs : Tryz.prog.elem 29 = 66 := by kernel_rfl

theorem under_recs : Tryz.prog.underlying 29 = some (.slice (Tryz.prog.elem 29)) := by rw [elem_recs]; exact Tryz.underlying29

theorem size_rec (w : World) : (sizeOf 66).run Tryz.prog w = .ok 7 w := by
 obtain ⟨i0, hi, _, hz1, _⟩ := info_parts info_rec
 simp [sizeOf, typeInfo, hi, hz1]

theorem Br.set {w : World} {b : Nat} {cs : Array Value} (h : Br w b cs) (j : Nat) (x : Value) : Br (w.setCell ⟨b, j, none⟩ x) b (cs.setIfInBounds j x) := by
 have := heap_setCell_same w b j _ _ x h
 unfold Br
 simpa using this

theorem is_any (n lo hi : Int) (a b : Nat) (w : World) (ha : w.cell? ⟨a, 0, none⟩ = some (.int .i64 lo)) (hb : w.cell? ⟨b, 0, none⟩ = some (.int .i64 hi)) :
   Calls Tryz.prog 173 #[.int .i64 n, .pointer (some ⟨a, 0, none⟩), .pointer (some ⟨b, 0, none⟩)] w fun e w' => e = .returned (.bool (decide (lo <= n ∧ n <= hi))) ∧ w' = w := by
 have HD : Hid ((decide (lo <= n) && decide (n <= hi)) = decide (lo <= n ∧ n <= hi)) := (Bool.decide_and _ _).symm
 have HT : Hid (lo <= n -> decide (n <= hi) = decide (lo <= n ∧ n <= hi)) := fun h => by rw [<- HD.out, decide_eq_true h, Bool.true_and]
 by_cases h1 : lo <= n
 · go_enter Tryz.func173, Tryz.ntmps173
   go_wp2
   go_ret
   exact ⟨ret_b (HT.out h1), rfl⟩
 · go_enter Tryz.func173, Tryz.ntmps173
   go_wp2
   go_ret
   exact ⟨ret_b (by rw [decide_eq_false (Int.not_le.2 h1), Bool.false_and]), rfl⟩

theorem within_any (lo hi : Int) (w : World) :
   Calls Tryz.prog 125 #[.int .i64 lo, .int .i64 hi] w fun e w' => ∃ a b, e = .returned (.func (.func 173) #[] #[.pointer (some ⟨a, 0, none⟩), .pointer (some ⟨b, 0, none⟩)]) ∧ w'.cell? ⟨a, 0, none⟩ = some (.int .i64 lo) ∧ w'.cell? ⟨b, 0, none⟩ = some (.int .i64 hi) ∧ Below w.heap.size w w' := by
 have hmf : ∀ (fn : Fn) (first cap : Array Value) (w : World), (Instr.makeFunc fn first cap).run Tryz.prog w = .ok (.func fn first cap) w := fun _ _ _ _ => rfl
 have HB : Hid (∀ x y, Below w.heap.size w ((w.alloc x).alloc y)) := fun x y => ((Below.refl _ _).alloc (Nat.le_refl _) x).alloc (by simp) y
 go_enter Tryz.func125, Tryz.ntmps125
 go_wp2
 go_ret
 refine ⟨_, _, rfl, ?_, ?_, HB.out _ _⟩
 · rw [World.cell?_alloc_past _ _ _ (by simp), World.cell?_alloc_at _ _ _ _ rfl]; rfl
 · rw [World.cell?_alloc_at _ _ _ _ (by simp)]; rfl

theorem cut_maxmin (n : Int) : max (-1099511627776) (min n 1099511627776) = cutZ n := by
 unfold cutZ
 split
 · omega
 · split <;> omega

theorem cutO_any (n : Int) (w : World) : Calls Tryz.prog 176 #[.int .i64 n] w fun e w' => e = .returned (.int .i64 (cutZ n)) ∧ w' = w := by
 by_cases h1 : 1099511627776 < n
 · go_enter Tryz.func176, Tryz.ntmps176
   go_wp2
   go_ret
   refine ⟨ret_i ?_, rfl⟩
   first
     | exact cut_maxmin n
     | (unfold cutZ; split <;> (try split) <;> omega)
 by_cases h2 : n <= -1099511627776
 · go_enter Tryz.func176, Tryz.ntmps176
   go_wp2
   go_ret
   refine ⟨ret_i ?_, rfl⟩
   first
     | exact cut_maxmin n
     | (unfold cutZ; split <;> (try split) <;> omega)
 · go_enter Tryz.func176, Tryz.ntmps176
   go_wp2
   go_ret
   refine ⟨ret_i ?_, rfl⟩
   first
     | exact cut_maxmin n
     | (unfold cutZ; split <;> (try split) <;> omega)

theorem full_any (ao : Option Addr) (n cap : Nat) (w : World) : Calls Tryz.prog 180 #[.slice ao n cap] w fun e w' => e = .returned (.bool (decide (n = 128))) ∧ w' = w := by
 by_cases h : n = 128
 · have HD : Hid (decide (n = 128) = true) := decide_eq_true h
   have hq : ((n : Int) == 128) = true := beq_iff_eq.2 (by omega)
   clear h
   go_enter Tryz.func180, Tryz.ntmps180
   go_wp2
   go_ret
   exact ⟨ret_b HD.out.symm, rfl⟩
 · have HD : Hid (decide (n = 128) = false) := decide_eq_false h
   have hq : ((n : Int) == 128) = false := beq_eq_false_iff_ne.2 (by omega)
   clear h
   go_enter Tryz.func180, Tryz.ntmps180
   go_wp2
   go_ret
   exact ⟨ret_b HD.out.symm, rfl⟩

theorem ret_ib {a b : Int} {c d : Bool} (h : a = b) (h2 : c = d) : Ending.returned (.tuple #[.int .i64 a, .bool c]) = .returned (.tuple #[.int .i64 b, .bool d]) := by rw [h, h2]

set_option maxHeartbeats 1000000 in
theorem place_any (v : Value) (l : List Int) (key : Int) (w : World) (hr : RdI w v l) (he : l.length % 2 = 0) (hlim : l.length <= 1000000) :
   Calls Tryz.prog 214 #[v, .int .i64 key] w fun e w' => e = .returned (.tuple #[.int .i64 (placeP key l), .bool (decide (placeP key l < l.length ∧ l.getD (placeP key l) 0 = key))]) ∧ Below w.heap.size w w' := by
 obtain ⟨ao, cap, rfl, -, -, -, -, hao⟩ := hr
 have HAO := hide' hao
 clear hao
 obtain ⟨P, hP⟩ : ∃ P, P = placeP key l := ⟨_, rfl⟩
 obtain ⟨R, hR⟩ : ∃ R, R = decide (P < l.length ∧ l.getD P 0 = key) := ⟨_, rfl⟩
 rw [<- hP, <- hR]
 have HP := hide' hP
 have HR := hide' hR
 clear hP hR
 go_enter Tryz.func214, Tryz.ntmps214
 go_wp2
 go_loop [6] (fun i => ∃ k : Nat, i = .int .i64 k ∧ k <= l.length ∧ k % 2 = 0 ∧ Hid (∀ j, j < k -> j % 2 = 0 -> l.getD j 0 < key)) (fun i => l.length - (intOf i).toNat)
 case atStart => exact ⟨0, rfl, Nat.zero_le _, rfl, fun j hj => by omega⟩
 case round =>
   obtain ⟨k, rfl, hk, hk2, hall⟩ := hrel
   have HPK : Hid (P = k + placeP key (l.drop k)) := HP.out.trans (placeP_drop key l k he hk2 hk hall.out)
   by_cases hlt : k < l.length
   · rcases HAO.out with h0 | ⟨g, off, rfl, hc⟩
     · rw [h0] at hlt; simp at hlt
     have hck := hc k hlt
     clear hc
     obtain ⟨y, hy⟩ : ∃ y, y = l.getD k 0 := ⟨_, rfl⟩
     rw [<- hy] at hck
     have HY := hide' hy
     clear hy
     by_cases hge : key <= y
     · have HK : Hid (P = k) := HPK.out.trans (by rw [placeP_stop key l k (by omega) (by rw [<- HY.out]; exact hge)]; exact Nat.add_zero k)
       have HG : Hid (R = (y == key)) := by
         rw [HR.out, HK.out, <- HY.out]
         by_cases e : y = key
         · rw [beq_iff_eq.2 e]; exact decide_eq_true ⟨hlt, e⟩
         · rw [beq_eq_false_iff_ne.2 e]; exact decide_eq_false (fun h => e h.2)
       have hbk : (k : Int) < (l.length : Int) := by omega
       go_wp2
       go_quiet (fail)
       go_wp2
       go_ret2
       exact ⟨ret_ib (by rw [HK.out]) HG.out.symm, below_drewN (Below.refl _ _) _⟩
     · go_wp2
       go_round
       case rel =>
         refine ⟨k + 2, by go_num, by omega, by omega, fun j hj hj2 => ?_⟩
         by_cases e : j = k
         · rw [e, <- HY.out]; omega
         · exact hall.out j (by omega) hj2
       case measure => simp [intOf]; omega
   · have HK : Hid (P = l.length) := by
       have e : k = l.length := by omega
       rw [HPK.out, e, List.drop_length]
       exact rfl
     have HG : Hid (R = false) := HR.out.trans (decide_eq_false (fun h => by have := h.1; rw [HK.out] at this; omega))
     go_wp2
     go_ret2
     exact ⟨ret_ib (by rw [HK.out]) HG.out.symm, Below.refl _ _⟩

theorem placeH_any (v : Value) (l : List Int) (key least lo : Int) (w : World) (hr : RdI w v l) (hp : Pairs least lo l) (hlim : l.length <= 1000000) :
   Calls Tryz.prog 214 #[v, .int .i64 key] w fun e w' => e = .returned (.tuple #[.int .i64 (placeP key l), .bool (hitP key l)]) ∧ Below w.heap.size w w' := by
 rw [(placeP_hit key least l lo hp).1]
 exact place_any v l key w hr (pairs_even hp) hlim

theorem pairs_i64 {least : Int} : ∀ {l : List Int} {lo : Int}, -1099511627776 <= least -> -1 <= lo -> Pairs least lo l -> ∀ x ∈ l, I64 x
 | [], _, _, _, _, x, hx => by simp at hx
 | [_], _, _, _, h, _, _ => by simp [Pairs] at h
 | a :: b :: r, lo, hl, hlo, h, x, hx => by
   unfold Pairs at h
   have ih := pairs_i64 (l := r) (lo := a) hl (by omega) h.2.2.2.2 x
   simp at hx
   rcases hx with rfl | rfl | hx
   · exact i64_small (by omega) (by omega)
   · exact i64_small (by omega) (by omega)
   · exact ih hx

set_option maxHeartbeats 1000000 in
theorem look_any (v : Value) (l : List Int) (key least lo : Int) (w : World) (hr : RdI w v l) (hp : Pairs least lo l) (hlim : l.length <= 1000000) :
   Calls Tryz.prog 178 #[v, .int .i64 key] w fun e w' => e = .returned (.tuple #[.int .i64 ((getP key l).getD 0), .bool (hitP key l)]) ∧ Below w.heap.size w w' := by
 have HPL : Hid (Calls Tryz.prog 214 #[v, .int .i64 key] w fun e w' => e = .returned (.tuple #[.int .i64 (placeP key l), .bool (hitP key l)]) ∧ Below w.heap.size w w') := placeH_any v l key least lo w hr hp hlim
 have HH := hide' (placeP_hit key least l lo hp).2
 obtain ⟨ao, cap, rfl, -, -, -, -, hao⟩ := hr
 have HAO := hide' hao
 obtain ⟨G, hG⟩ : ∃ G, G = (getP key l).getD 0 := ⟨_, rfl⟩
 rw [<- hG]
 have HG := hide' hG
 clear hao hp hG
 cases hh : hitP key l
 · rw [hh] at HPL
   have HZ : Hid (0 = G) := by
     have : getP key l = none := by
       unfold hitP at hh
       cases h : getP key l with
       | none => rfl
       | some x => rw [h] at hh; simp at hh
     rw [HG.out, this]
     exact rfl
   clear hh HH
   go_enter Tryz.func178, Tryz.ntmps178
   go_wp2_with fail
   refine HPL.out.mono ?_
   rintro e W1 ⟨rfl, hb1⟩
   have HB1 := hide' hb1
   clear hb1
   go_wp2
   go_ret2
   exact ⟨ret_ib HZ.out rfl, HB1.out⟩
 · rw [hh] at HPL
   obtain ⟨h1, h2⟩ := HH.out hh
   have HZ : Hid (l.getD (placeP key l + 1) 0 = G) := by
     rw [HG.out, h1]
     exact rfl
   rcases HAO.out with h0 | ⟨g, off, rfl, hc⟩
   · rw [h0] at h2; simp at h2
   have HC : Hid (∀ W, Below w.heap.size w W -> W.cell? ⟨g, off + (placeP key l + 1), none⟩ = some (.int .i64 (l.getD (placeP key l + 1) 0))) := fun W h => (h.cell (World.block_lt_of_cell? w ⟨g, off + (placeP key l + 1), none⟩ (hc _ h2))).trans (hc _ h2)
   clear hh HH h1 HAO hc HG
   generalize l.getD (placeP key l + 1) 0 = y at *
   generalize placeP key l = P at *
   have hPl : (P : Int) + 1 < (l.length : Int) := by omega
   clear h2
   go_enter Tryz.func178, Tryz.ntmps178
   go_wp2_with fail
   refine HPL.out.mono ?_
   rintro e W1 ⟨rfl, hb1⟩
   have HB1 := hide' hb1
   have hg := HC.out _ hb1
   clear hb1
   go_wp2
   go_ret2
   exact ⟨ret_ib HZ.out rfl, HB1.out⟩

set_option maxHeartbeats 1000000 in
theorem putO_any (v : Value) (l : List Int) (key n least lo : Int) (B : Nat) (w : World) (ho : OwnI w B v l) (hB : B <= w.heap.size) (hi : ∀ x ∈ l, I64 x) (hp : Pairs least lo l) (hlim : l.length <= 1000000) :
   Calls Tryz.prog 181 #[v, .int .i64 key, .int .i64 n] w fun e w' => ∃ v', e = .returned v' ∧ OwnI w' B v' (withF key n false l) ∧ Mv w w' v v' := by
 have HPL : Hid (Calls Tryz.prog 214 #[v, .int .i64 key] w fun e w' => e = .returned (.tuple #[.int .i64 (placeP key l), .bool (hitP key l)]) ∧ Below w.heap.size w w') := placeH_any v l key least lo w (ho.rd hi) hp hlim
 have hle := (placeP_le key l (pairs_even hp)).1
 have HH := hide' (placeP_hit key least l lo hp).2
 have HO := hide' ho
 cases hh : hitP key l
 · rw [hh] at HPL
   have HW := hide' (withF_insert key n least l lo hp hh)
   have HI : Hid (∀ W, OwnI W B v l -> B <= W.heap.size -> Calls Tryz.prog 215 #[v, .int .i64 (placeP key l), .slice (some ⟨W.heap.size, 0, none⟩) 2 2] (W.alloc (.cells #[.int .i64 key, .int .i64 n] 3)) fun e w' => ∃ v', e = .returned v' ∧ OwnI w' B v' (l.take (placeP key l) ++ ([key, n] ++ l.drop (placeP key l))) ∧ Mv W w' v v') :=
     fun W h1 h2 => insertI_any v l B W h1 h2 hlim (placeP key l) hle _ rfl key n _ rfl
   obtain ⟨L', hL'⟩ : ∃ L', L' = withF key n false l := ⟨_, rfl⟩
   rw [<- hL']
   rw [<- hL'] at HW
   have HWS := hide' HW.out.symm
   rw [HWS.out] at HI
   clear hL' HW HWS ho hp HH hh hle
   generalize placeP key l = P at *
   go_enter Tryz.func181, Tryz.ntmps181
   go_wp2_with fail
   refine HPL.out.mono ?_
   rintro e W1 ⟨rfl, hb1⟩
   have HB1 := hide' hb1
   clear hb1
   go_wp2_with fail
   refine (HI.out W1 (HO.out.below HB1.out (Nat.le_refl _)) (Nat.le_trans hB HB1.out.size)).mono ?_
   rintro e W2 ⟨v2, rfl, ho2, hb2⟩
   have HB2 := hide' ((Mv.ofBelow HB1.out v).trans hb2)
   have HO2 := hide' ho2
   clear hb2 ho2
   go_wp2
   go_ret
   exact ⟨_, rfl, HO2.out, HB2.out⟩
 · rw [hh] at HPL
   have HW := hide' (withF_set key n least l lo hp hh)
   obtain ⟨h1, h2⟩ := HH.out hh
   obtain ⟨L', hL'⟩ : ∃ L', L' = withF key n false l := ⟨_, rfl⟩
   rw [<- hL']
   rw [<- hL'] at HW
   have hsh := ho.put _ h2 n
   obtain ⟨g, cap, rfl, -, -, hBg, hgl, -, -⟩ := hsh
   have HS : Hid (∀ W, Below w.heap.size w W -> W.cell? ⟨g, placeP key l + 1, none⟩ = some (.int .i64 (l.getD (placeP key l + 1) 0)) ∧ W.frozen? ⟨g, placeP key l + 1, none⟩ = false ∧ OwnI (W.setCell ⟨g, placeP key l + 1, none⟩ (.int .i64 n)) B (.slice (some ⟨g, 0, none⟩) l.length cap) L' ∧ Mv w (W.setCell ⟨g, placeP key l + 1, none⟩ (.int .i64 n)) (.slice (some ⟨g, 0, none⟩) l.length cap) (.slice (some ⟨g, 0, none⟩) l.length cap)) := fun W hb => by
     obtain ⟨g', cap', hv, h3, h4, h5, h6, h7, h8⟩ := (HO.out.below hb (Nat.le_refl _)).put _ h2 n
     simp only [Value.slice.injEq, Option.some.injEq, Addr.mk.injEq] at hv
     obtain ⟨⟨rfl, _⟩, _, rfl⟩ := hv
     exact ⟨h3, h4, by rw [HW.out]; exact h7, (Mv.ofBelow hb _).trans h8⟩
   clear hL' HW ho hp HH hh hle h1 HO hi
   generalize l.getD (placeP key l + 1) 0 = y at *
   generalize placeP key l = P at *
   have hPl : (P : Int) + 1 < (l.length : Int) := by omega
   clear h2
   go_enter Tryz.func181, Tryz.ntmps181
   go_wp2_with fail
   refine HPL.out.mono ?_
   rintro e W1 ⟨rfl, hb1⟩
   obtain ⟨c1, f1, o1, b1⟩ := HS.out _ hb1
   have HO1 := hide' o1
   have HB1 := hide' b1
   clear hb1 o1 b1
   go_wp2
   go_ret
   exact ⟨_, rfl, HO1.out, HB1.out⟩

set_option maxHeartbeats 1000000 in
theorem drop_any (v : Value) (l : List Int) (key least lo : Int) (B : Nat) (w : World) (ho : OwnI w B v l) (hi : ∀ x ∈ l, I64 x) (hp : Pairs least lo l) (hlim : l.length <= 1000000) :
   Calls Tryz.prog 179 #[v, .int .i64 key] w fun e w' => ∃ v', e = .returned v' ∧ OwnI w' B v' (withoutF key l) ∧ Mv w w' v v' := by
 have HPL : Hid (Calls Tryz.prog 214 #[v, .int .i64 key] w fun e w' => e = .returned (.tuple #[.int .i64 (placeP key l), .bool (hitP key l)]) ∧ Below w.heap.size w w') := placeH_any v l key least lo w (ho.rd hi) hp hlim
 have hle := (placeP_le key l (pairs_even hp)).1
 have HH := hide' (placeP_hit key least l lo hp).2
 have HO := hide' ho
 cases hh : hitP key l
 · rw [hh] at HPL
   have HW := hide' (withoutF_not key least l lo hp hh)
   rw [HW.out]
   clear HW ho hp HH hh hle hi
   generalize placeP key l = P at *
   go_enter Tryz.func179, Tryz.ntmps179
   go_wp2_with fail
   refine HPL.out.mono ?_
   rintro e W1 ⟨rfl, hb1⟩
   have HB1 := hide' hb1
   clear hb1
   go_wp2
   go_ret
   exact ⟨_, rfl, HO.out.below HB1.out (Nat.le_refl _), Mv.ofBelow HB1.out v⟩
 · rw [hh] at HPL
   have HW := hide' (withoutF_cut key least l lo hp hh)
   obtain ⟨h1, h2⟩ := HH.out hh
   have HD : Hid (∀ W J, OwnI W B v l -> J = ((placeP key l + 2 : Nat) : Int) -> Calls Tryz.prog 213 #[v, .int .i64 (placeP key l), .int .i64 J] W fun e w' => ∃ v', e = .returned v' ∧ OwnI w' B v' (l.take (placeP key l) ++ l.drop (placeP key l + 2)) ∧ Mv W w' v v') :=
     fun W J h3 h4 => deleteI_any v l B W h3 (placeP key l) (placeP key l + 2) (by omega) (by omega) _ _ rfl h4
   obtain ⟨L', hL'⟩ : ∃ L', L' = withoutF key l := ⟨_, rfl⟩
   rw [<- hL']
   rw [<- hL'] at HW
   have HWS := hide' HW.out.symm
   rw [HWS.out] at HD
   clear hL' HW HWS ho hp HH hh hle h1
   generalize placeP key l = P at *
   have hPl : (P : Int) + 1 < (l.length : Int) := by omega
   clear h2
   go_enter Tryz.func179, Tryz.ntmps179
   go_wp2_with fail
   refine HPL.out.mono ?_
   rintro e W1 ⟨rfl, hb1⟩
   have HB1 := hide' hb1
   clear hb1
   go_wp2_with fail
   refine (HD.out W1 _ (HO.out.below HB1.out (Nat.le_refl _)) (by omega)).mono ?_
   rintro e W2 ⟨v2, rfl, ho2, hb2⟩
   have HB2 := hide' ((Mv.ofBelow HB1.out v).trans hb2)
   have HO2 := hide' ho2
   clear hb2 ho2
   go_wp2
   go_ret
   exact ⟨_, rfl, HO2.out, HB2.out⟩

end Go.Proofs.YtpopbandpnaicaaGreatDoor

