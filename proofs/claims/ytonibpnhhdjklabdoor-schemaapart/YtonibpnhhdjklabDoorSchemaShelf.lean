/- Contracts over int of slices.Clone, Index, Contains, Delete, in the words of RdI and OwnI. -/
import Derived.Test.YtonibpnhhdjklabDoorObjsBase
import Derived.Test.YtonibpnhhdjklabDoorNumBase
import Derived.Lib.LazyBuf
import Derived.Shelf.Slices.Delete
import Derived.Lib.RowBridge
namespace Go.Proofs.YtonibpnhhdjklabDoor
open Go.RowKit Go.Shelf

/-- Cells of a row, some of them written anew. -/
def layC (cur : Array Value) : Nat → List Value → Array Value
  | _, [] => cur
  | o, v :: r => layC (cur.setIfInBounds o v) (o + 1) r

theorem layC_size : ∀ (vs : List Value) (o : Nat) (cur : Array Value), (layC cur o vs).size = cur.size
  | [], _, _ => rfl
  | v :: r, o, cur => by rw [layC, layC_size r]; simp

theorem layC_get : ∀ (vs : List Value) (o : Nat) (cur : Array Value) (j : Nat), j < cur.size → (layC cur o vs)[j]? = if o ≤ j ∧ j < o + vs.length then vs[j - o]? else cur[j]?
  | [], o, cur, j, _ => by
    rw [layC, if_neg (by rw [List.length_nil]; omega)]
  | v :: r, o, cur, j, hj => by
    rw [layC, layC_get r (o + 1) _ j (by simpa using hj)]
    by_cases h : j = o
    · subst h
      rw [if_neg (by omega), if_pos (by simp)]
      simp [hj]
    · by_cases h2 : o + 1 ≤ j ∧ j < o + 1 + r.length
      · rw [if_pos h2, if_pos (by simp; omega)]
        rw [show j - o = (j - (o + 1)) + 1 by omega]
        simp
      · rw [if_neg h2, if_neg (by simp; omega)]
        simp [show ¬ o = j by omega]

theorem heap_setCells (g : Nat) (t : TypeId) : ∀ (vs : List Value) (o : Nat) (w : World) (cur : Array Value), w.heap[g]? = some (.cells cur t (0, 0)) → (w.setCells g o vs).heap[g]? = some (.cells (layC cur o vs) t (0, 0))
  | [], _, _, _, h => h
  | v :: r, o, w, cur, h => by
    rw [World.setCells, layC]
    exact heap_setCells g t r (o + 1) _ _ (heap_setCell_same w g o cur t v h)

theorem belowCells {B g : Nat} {a : World} (hg : B ≤ g) : ∀ (vs : List Value) (o : Nat) (w : World), Below B a w → Below B a (w.setCells g o vs)
  | [], _, _, h => h
  | v :: r, o, w, h => by
    rw [World.setCells]
    exact belowCells hg r (o + 1) _ (h.setCell hg v)

/-- Numbers of one's own, by their cells. -/
theorem OwnI.ofRow {w : World} {B g cap : Nat} {cur : Array Value} {l : List Int} (hB : B ≤ g) (hg : w.heap[g]? = some (.cells cur 3 (0, 0))) (hn : l.length ≤ cap) (hm : cap ≤ maxLen) (hs : cur.size = cap) (hc : ∀ j, j < l.length → cur[j]? = some (.int .i64 (l.getD j 0))) :
    OwnI w B (.slice (some ⟨g, 0, none⟩) l.length cap) l := by
  refine ⟨by rw [intCells_length, Nat.mul_one], .inr ⟨g, cap, cur, rfl, hB, hg, hn, hm, by rw [hs, Nat.mul_one], ?_⟩⟩
  apply List.ext_getElem?
  intro j
  rw [Nat.mul_one]
  by_cases hj : j < l.length
  · rw [List.getElem?_take_of_lt hj, intCells_get l j hj, Array.getElem?_toList]
    exact hc j hj
  · rw [List.getElem?_eq_none (by simp; omega), List.getElem?_eq_none (by rw [intCells_length]; omega)]

/-- The row of numbers of one's own. -/
theorem OwnI.row {w : World} {B : Nat} {v : Value} {l : List Int} (h : OwnI w B v l) : (v = .slice none 0 0 ∧ l = []) ∨ ∃ g cap cur, v = .slice (some ⟨g, 0, none⟩) l.length cap ∧ B ≤ g ∧ g < w.heap.size ∧ w.heap[g]? = some (.cells cur 3 (0, 0)) ∧ l.length ≤ cap ∧ cap ≤ maxLen ∧ cur.size = cap ∧ ∀ j, j < l.length → cur[j]? = some (.int .i64 (l.getD j 0)) := by
  rcases h.2 with ⟨h1, h2⟩ | ⟨g, cap, cur, h1, h2, h3, h4, h5, h6, h7⟩
  · exact .inl ⟨h1, List.eq_nil_of_length_eq_zero h2⟩
  · refine .inr ⟨g, cap, cur, h1, h2, (Array.getElem?_eq_some_iff.1 h3).1, h3, h4, h5, by rw [h6, Nat.mul_one], fun j hj => ?_⟩
    have e := intCells_get l j hj
    rw [← h7, Nat.mul_one, List.getElem?_take_of_lt hj, Array.getElem?_toList] at e
    exact e

theorem drewN_heap (w : World) (q : Nat) : (w.drewN q).heap = w.heap := by
  induction q generalizing w with
  | zero => rfl
  | succ n ih => exact ih _

theorem OwnI.empty {w : World} {B : Nat} {X : Obj} {cur : Array Value} {N : Nat} (hN : w.heap.size = N) (hX : X = .cells cur 3 (0, 0)) (hB : B ≤ N) (cap : Nat) (hm : cap ≤ maxLen) (hs : cur.size = cap) : OwnI (w.alloc X) B (.slice (some ⟨N, 0, none⟩) 0 cap) [] := by
  subst hN hX
  have h := World.ownsRow_made (e := 3) (size := 1) (base := B) w cur cap hB hm (by omega)
  exact h

/-- Where a number stands first, or -1. -/
def placeN (x : Int) (l : List Int) : Int := if x ∈ l then (l.idxOf x : Int) else -1

theorem placeN_at {x : Int} {l : List Int} {k : Nat} (hk : k < l.length) (he : l.getD k 0 = x) (hall : ∀ j, j < k → l.getD j 0 ≠ x) : placeN x l = k := by
  have hx : l[k] = x := by simpa [List.getD, hk] using he
  have hm : x ∈ l := by rw [← hx]; exact List.getElem_mem hk
  unfold placeN
  rw [if_pos hm]
  have h1 : l.idxOf x < l.length := List.idxOf_lt_length_iff.2 hm
  have h2 : l[l.idxOf x] = x := List.getElem_idxOf h1
  have h3 : l.idxOf x ≤ k := by
    rcases Nat.lt_or_ge k (l.idxOf x) with h | h
    · have := List.not_of_lt_findIdx (p := (· == x)) (xs := l) (i := k) h
      simp [hx] at this
    · exact h
  have h4 : ¬ l.idxOf x < k := fun h => hall _ h (by simp [List.getD, h1])
  omega

theorem placeN_none {x : Int} {l : List Int} (hall : ∀ j, j < l.length → l.getD j 0 ≠ x) : placeN x l = -1 := by
  unfold placeN
  rw [if_neg]
  intro hm
  obtain ⟨j, hj, he⟩ := List.getElem_of_mem hm
  exact hall j hj (by simpa [List.getD, hj] using he)

set_option maxRecDepth 100000 in
set_option maxHeartbeats 1000000 in
/-- Index. -/
theorem indexN_any (v : Value) (l : List Int) (x : Int) (w : World) (hr : RdI w v l) :
    Calls Tryd.prog 19 #[v, .int .i64 x] w fun e w' => e = .returned (.int .i64 (placeN x l)) ∧ w' = w := by
  obtain ⟨ao, cap, rfl, hlc, hcm, -, -, hao⟩ := hr
  have hml : (l.length : Int) ≤ 9223372036854775807 := by unfold maxLen at hcm; omega
  obtain ⟨P, hP⟩ : ∃ P, P = placeN x l := ⟨_, rfl⟩
  rw [← hP]
  have HP := hide hP
  have HAO := hide hao
  clear hao hP hcm hlc
  go_enter Tryd.func19, Tryd.ntmps19
  go_wp2
  go_loop [8] (fun i => ∃ k : Nat, i = .int .i64 k ∧ k ≤ l.length ∧ Hid (∀ j, j < k → l.getD j 0 ≠ x)) (fun i => l.length - (intOf i).toNat)
  case atStart => exact ⟨0, rfl, Nat.zero_le _, fun j hj => by omega⟩
  case round =>
    obtain ⟨k, rfl, hk, hall⟩ := hrel
    by_cases hlt : k < l.length
    · rcases HAO.out with h0 | ⟨g, off, rfl, hc⟩
      · rw [h0] at hlt; simp at hlt
      have hck := hc k hlt
      clear hc
      obtain ⟨y, hy⟩ : ∃ y, y = l.getD k 0 := ⟨_, rfl⟩
      rw [← hy] at hck
      have HY := hide hy
      clear hy
      by_cases hin : x = y
      · have HN : Hid (P = (k : Int)) := hide (HP.out.trans (placeN_at hlt (by rw [← HY.out, hin]) hall.out))
        subst hin
        clear HP
        go_wp2
        go_ret
        rw [HN.out]
        exact ⟨rfl, rfl⟩
      · have hne : (x == y) = false := beq_eq_false_iff_ne.2 hin
        have HN := hide hin
        clear hin
        go_wp2
        go_round
        case rel =>
          refine ⟨k + 1, by go_num, by omega, fun j hj => ?_⟩
          by_cases e : j = k
          · rw [e, ← HY.out]; exact fun h => HN.out h.symm
          · exact hall.out j (by omega)
        case measure => simp [intOf]; omega
    · have HN : Hid (P = -1) := hide (HP.out.trans (placeN_none fun j hj => hall.out j (by omega)))
      clear HP
      go_wp2
      go_ret
      rw [HN.out]
      exact ⟨rfl, rfl⟩

set_option maxRecDepth 100000 in
set_option maxHeartbeats 1000000 in
/-- Contains. -/
theorem containsN_any (v : Value) (l : List Int) (x : Int) (b : Bool) (hb : b = decide (x ∈ l)) (w : World) (hr : RdI w v l) :
    Calls Tryd.prog 12 #[v, .int .i64 x] w fun e w' => e = .returned (.bool b) ∧ w' = w := by
  have HI := hide (indexN_any v l x w hr)
  have HP : Hid (decide (0 ≤ placeN x l) = b) := hide (by
    rw [hb]
    unfold placeN
    by_cases h : x ∈ l
    · rw [if_pos h, decide_eq_true h, decide_eq_true (by omega)]
    · rw [if_neg h, decide_eq_false h]; rfl)
  obtain ⟨ao, cap, rfl, -⟩ := hr
  generalize placeN x l = P at *
  clear hb
  go_enter Tryd.func12, Tryd.ntmps12
  go_wp2_with fail
  refine HI.out.mono ?_
  rintro e W1 ⟨rfl, rfl⟩
  clear HI
  go_wp2
  go_ret
  exact ⟨ret_b HP.out, rfl⟩

end Go.Proofs.YtonibpnhhdjklabDoor
