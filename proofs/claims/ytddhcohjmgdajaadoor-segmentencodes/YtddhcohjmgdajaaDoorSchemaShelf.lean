/- Contracts over int of slices.Clone, Index, Contains, Delete, in the words of RdI and OwnI. -/
import Derived.Test.YtddhcohjmgdajaaDoorPack1
import Derived.Lib.LazyBuf
import Derived.Shelf.Slices.Delete
import Derived.Lib.RowBridge
namespace Go.Proofs.YtddhcohjmgdajaaDoor
open Go.RowKit Go.Shelf

def layM23_ren : Go.Shelf.Ren := ⟨fun | 23 => 111 | n => n, fun | 22 => 109 | 3 => 3 | 4 => 4 | 0 => 0 | n => n, fun | n => n⟩

theorem layM23 : Go.Proofs.Lays2.n23 Tryd.prog layM23_ren := {
  mixed := by kernel_rfl
  f23 := Tryd.func111.trans (congrArg some (by kernel_rfl))
  t0 := Tryd.underlying0
  a0 := Tryd.isAgg0
  z0 := Tryd.sizeOf0
  v0 := Tryd.zeroValue0
  t3 := Tryd.underlying3
  a3 := Tryd.isAgg3
  z3 := Tryd.sizeOf3
  v3 := Tryd.zeroValue3
  t4 := Tryd.underlying4
  a4 := Tryd.isAgg4
  z4 := Tryd.sizeOf4
  v4 := Tryd.zeroValue4
  t22 := Tryd.underlying109
  a22 := Tryd.isAgg109
  z22 := Tryd.sizeOf109
  v22 := Tryd.zeroValue109
  i3 := by kernel_rfl }

/-- Cells of a row, some of them written anew. -/
def layC (cur : Array Value) : Nat → List Value → Array Value
  | _, [] => cur
  | o, v :: r => layC (cur.setIfInBounds o v) (o + 1) r

theorem layC_size : ∀ (vs : List Value) (o : Nat) (cur : Array Value), (layC cur o vs).size = cur.size
  | [], _, _ => rfl
  | v :: r, o, cur => by rw [layC, layC_size r]; simp

theorem layC_get : ∀ (vs : List Value) (o : Nat) (cur : Array Value) (j : Nat), j < cur.size → (layC cur o vs)[j]? = if o ≤ j ∧ j < o + vs.length then vs[j - o]? else cur[j]?
  | [], o, cur, j, _ => by
    rw [layC, if_neg (by rw [List.length_nil]; omega)]
  | v :: r, o, cur, j, hj => by
    rw [layC, layC_get r (o + 1) _ j (by simpa using hj)]
    by_cases h : j = o
    · subst h
      rw [if_neg (by omega), if_pos (by simp)]
      simp [hj]
    · by_cases h2 : o + 1 ≤ j ∧ j < o + 1 + r.length
      · rw [if_pos h2, if_pos (by simp; omega)]
        rw [show j - o = (j - (o + 1)) + 1 by omega]
        simp
      · rw [if_neg h2, if_neg (by simp; omega)]
        simp [show ¬ o = j by omega]

theorem heap_setCells (g : Nat) (t : TypeId) : ∀ (vs : List Value) (o : Nat) (w : World) (cur : Array Value), w.heap[g]? = some (.cells cur t (0, 0)) → (w.setCells g o vs).heap[g]? = some (.cells (layC cur o vs) t (0, 0))
  | [], _, _, _, h => h
  | v :: r, o, w, cur, h => by
    rw [World.setCells, layC]
    exact heap_setCells g t r (o + 1) _ _ (heap_setCell_same w g o cur t v h)

theorem belowCells {B g : Nat} {a : World} (hg : B ≤ g) : ∀ (vs : List Value) (o : Nat) (w : World), Below B a w → Below B a (w.setCells g o vs)
  | [], _, _, h => h
  | v :: r, o, w, h => by
    rw [World.setCells]
    exact belowCells hg r (o + 1) _ (h.setCell hg v)

/-- Numbers of one's own, by their cells. -/
theorem OwnI.ofRow {w : World} {B g cap : Nat} {cur : Array Value} {l : List Int} (hB : B ≤ g) (hg : w.heap[g]? = some (.cells cur 3 (0, 0))) (hn : l.length ≤ cap) (hm : cap ≤ maxLen) (hs : cur.size = cap) (hc : ∀ j, j < l.length → cur[j]? = some (.int .i64 (l.getD j 0))) :
    OwnI w B (.slice (some ⟨g, 0, none⟩) l.length cap) l := by
  refine ⟨by rw [intCells_length, Nat.mul_one], .inr ⟨g, cap, cur, rfl, hB, hg, hn, hm, by rw [hs, Nat.mul_one], ?_⟩⟩
  apply List.ext_getElem?
  intro j
  rw [Nat.mul_one]
  by_cases hj : j < l.length
  · rw [List.getElem?_take_of_lt hj, intCells_get l j hj, Array.getElem?_toList]
    exact hc j hj
  · rw [List.getElem?_eq_none (by simp; omega), List.getElem?_eq_none (by rw [intCells_length]; omega)]

/-- The row of numbers of one's own. -/
theorem OwnI.row {w : World} {B : Nat} {v : Value} {l : List Int} (h : OwnI w B v l) : (v = .slice none 0 0 ∧ l = []) ∨ ∃ g cap cur, v = .slice (some ⟨g, 0, none⟩) l.length cap ∧ B ≤ g ∧ g < w.heap.size ∧ w.heap[g]? = some (.cells cur 3 (0, 0)) ∧ l.length ≤ cap ∧ cap ≤ maxLen ∧ cur.size = cap ∧ ∀ j, j < l.length → cur[j]? = some (.int .i64 (l.getD j 0)) := by
  rcases h.2 with ⟨h1, h2⟩ | ⟨g, cap, cur, h1, h2, h3, h4, h5, h6, h7⟩
  · exact .inl ⟨h1, List.eq_nil_of_length_eq_zero h2⟩
  · refine .inr ⟨g, cap, cur, h1, h2, (Array.getElem?_eq_some_iff.1 h3).1, h3, h4, h5, by rw [h6, Nat.mul_one], fun j hj => ?_⟩
    have e := intCells_get l j hj
    rw [← h7, Nat.mul_one, List.getElem?_take_of_lt hj, Array.getElem?_toList] at e
    exact e

theorem drewN_heap (w : World) (q : Nat) : (w.drewN q).heap = w.heap := by
  induction q generalizing w with
  | zero => rfl
  | succ n ih => exact ih _

theorem OwnI.empty {w : World} {B : Nat} {X : Obj} {cur : Array Value} {N : Nat} (hN : w.heap.size = N) (hX : X = .cells cur 3 (0, 0)) (hB : B ≤ N) (cap : Nat) (hm : cap ≤ maxLen) (hs : cur.size = cap) : OwnI (w.alloc X) B (.slice (some ⟨N, 0, none⟩) 0 cap) [] := by
  subst hN hX
  have h := World.ownsRow_made (e := 3) (size := 1) (base := B) w cur cap hB hm (by omega)
  exact h

set_option maxRecDepth 100000 in
set_option maxHeartbeats 1000000 in
/-- Clone. -/
theorem cloneN_any (v : Value) (l : List Int) (w : World) (hr : RdI w v l) (hlim : l.length ≤ 1000000) :
    Calls Tryd.prog 108 #[v] w fun e w' => ∃ v', e = .returned v' ∧ OwnI w' w.heap.size v' l ∧ Below w.heap.size w w' := by
  have HR := hide hr
  obtain ⟨ao, cap, rfl, hlc, -, hn, -⟩ := hr
  cases ao with
  | none =>
    obtain rfl : cap = 0 := hn rfl
    obtain rfl : l = [] := List.eq_nil_of_length_eq_zero (by omega)
    clear hn hlc
    have hnil : ∀ w, (binOp .eql 109 (.slice none 0 0) (.slice none 0 0)).run Tryd.prog w = .ok (.bool true) w := fun w => run_eql_slice_nil w _ _ none 0 0 Tryd.underlying109
    go_enter Tryd.func108, Tryd.ntmps108
    go_wp2
    go_ret
    exact ⟨_, rfl, OwnI.nil _ _, Below.refl _ _⟩
  | some a =>
    clear hn
    have hnil : ∀ w, (binOp .eql 109 (.slice (some a) l.length cap) (.slice none 0 0)).run Tryd.prog w = .ok (.bool false) w := fun w => run_eql_slice_nil w _ _ (some a) _ _ Tryd.underlying109
    have HB0 : Hid (∀ X, Below w.heap.size w (w.alloc X)) := fun X => (Below.refl _ _).alloc (Nat.le_refl _) X
    have HO0 : Hid (OwnI (w.alloc (.cells #[] 3)) w.heap.size (.slice (some ⟨w.heap.size, 0, none⟩) 0 0) []) := hide (OwnI.empty rfl rfl (Nat.le_refl _) 0 (Nat.zero_le _) rfl)
    go_enter Tryd.func108, Tryd.ntmps108
    go_wp2_with (at_builtin; refine wpList_append_ints _ rfl _ _ rfl w.heap.size _ [] rfl HO0.out _ l rfl (HR.out.below (HB0.out _) (Nat.le_refl _)) (by simp; omega) (by simp) ?_)
    intro v1 W1 ho1 hb1
    have HO1 := hide ho1
    have HB1 := hide ((HB0.out _).trans hb1)
    clear ho1 hb1
    go_wp2
    go_ret
    exact ⟨_, rfl, HO1.out, HB1.out⟩

/-- Where a number stands first, or -1. -/
def placeN (x : Int) (l : List Int) : Int := if x ∈ l then (l.idxOf x : Int) else -1

theorem placeN_at {x : Int} {l : List Int} {k : Nat} (hk : k < l.length) (he : l.getD k 0 = x) (hall : ∀ j, j < k → l.getD j 0 ≠ x) : placeN x l = k := by
  have hx : l[k] = x := by simpa [List.getD, hk] using he
  have hm : x ∈ l := by rw [← hx]; exact List.getElem_mem hk
  unfold placeN
  rw [if_pos hm]
  have h1 : l.idxOf x < l.length := List.idxOf_lt_length_iff.2 hm
  have h2 : l[l.idxOf x] = x := List.getElem_idxOf h1
  have h3 : l.idxOf x ≤ k := by
    rcases Nat.lt_or_ge k (l.idxOf x) with h | h
    · have := List.not_of_lt_findIdx (p := (· == x)) (xs := l) (i := k) h
      simp [hx] at this
    · exact h
  have h4 : ¬ l.idxOf x < k := fun h => hall _ h (by simp [List.getD, h1])
  omega

theorem placeN_none {x : Int} {l : List Int} (hall : ∀ j, j < l.length → l.getD j 0 ≠ x) : placeN x l = -1 := by
  unfold placeN
  rw [if_neg]
  intro hm
  obtain ⟨j, hj, he⟩ := List.getElem_of_mem hm
  exact hall j hj (by simpa [List.getD, hj] using he)

set_option maxRecDepth 100000 in
set_option maxHeartbeats 1000000 in
/-- Index. -/
theorem indexN_any (v : Value) (l : List Int) (x : Int) (w : World) (hr : RdI w v l) :
    Calls Tryd.prog 109 #[v, .int .i64 x] w fun e w' => e = .returned (.int .i64 (placeN x l)) ∧ w' = w := by
  obtain ⟨ao, cap, rfl, hlc, hcm, -, -, hao⟩ := hr
  have hml : (l.length : Int) ≤ 9223372036854775807 := by unfold maxLen at hcm; omega
  obtain ⟨P, hP⟩ : ∃ P, P = placeN x l := ⟨_, rfl⟩
  rw [← hP]
  have HP := hide hP
  have HAO := hide hao
  clear hao hP hcm hlc
  go_enter Tryd.func109, Tryd.ntmps109
  go_wp2
  go_loop [8] (fun i => ∃ k : Nat, i = .int .i64 k ∧ k ≤ l.length ∧ Hid (∀ j, j < k → l.getD j 0 ≠ x)) (fun i => l.length - (intOf i).toNat)
  case atStart => exact ⟨0, rfl, Nat.zero_le _, fun j hj => by omega⟩
  case round =>
    obtain ⟨k, rfl, hk, hall⟩ := hrel
    by_cases hlt : k < l.length
    · rcases HAO.out with h0 | ⟨g, off, rfl, hc⟩
      · rw [h0] at hlt; simp at hlt
      have hck := hc k hlt
      clear hc
      obtain ⟨y, hy⟩ : ∃ y, y = l.getD k 0 := ⟨_, rfl⟩
      rw [← hy] at hck
      have HY := hide hy
      clear hy
      by_cases hin : x = y
      · have HN : Hid (P = (k : Int)) := hide (HP.out.trans (placeN_at hlt (by rw [← HY.out, hin]) hall.out))
        subst hin
        clear HP
        go_wp2
        go_ret
        rw [HN.out]
        exact ⟨rfl, rfl⟩
      · have hne : (x == y) = false := beq_eq_false_iff_ne.2 hin
        have HN := hide hin
        clear hin
        go_wp2
        go_round
        case rel =>
          refine ⟨k + 1, by go_num, by omega, fun j hj => ?_⟩
          by_cases e : j = k
          · rw [e, ← HY.out]; exact fun h => HN.out h.symm
          · exact hall.out j (by omega)
        case measure => simp [intOf]; omega
    · have HN : Hid (P = -1) := hide (HP.out.trans (placeN_none fun j hj => hall.out j (by omega)))
      clear HP
      go_wp2
      go_ret
      rw [HN.out]
      exact ⟨rfl, rfl⟩

/-- Delete, of numbers of one's own: nothing below their row is changed. -/
theorem deleteN_any (v : Value) (l : List Int) (B : Nat) (w : World) (ho : OwnI w B v l) (i j : Nat) (hij : i < j) (hj : j ≤ l.length) (I J : Int) (hI : I = i) (hJ : J = j) :
    Calls Tryd.prog 111 #[v, .int .i64 I, .int .i64 J] w fun e w' => ∃ v', e = .returned v' ∧ OwnI w' B v' (l.take i ++ l.drop j) ∧ Below B w w' := by
  subst hI
  subst hJ
  rcases ho.row with ⟨_, h2⟩ | ⟨g, cap, cur, rfl, hB, hlt, hg, hn, hm, hs, hc⟩
  · subst h2; simp at hj; omega
  · unfold maxLen at hm
    have hH := Lib.holds_of_ints (b := g) (off := 0) (n := l.length) (zs := l) (w := w) (Nat.le_refl _) (fun k hk => by rw [Nat.zero_add, cell_of_row w g k _ _ _ hg]; exact hc k hk) (fun k hk => by rw [Nat.zero_add]; exact frozen_of_row w g k _ _ hg)
    rw [List.take_length] at hH
    refine Calls.mono (Any.slices_Delete_int layM23 g 0 cap i j l w hH hn (by omega) (by omega) hj) ?_
    rintro e w' ⟨rfl, q, hw⟩
    rw [Lib.putRow_eq_setCells _ w g 0 _ _ q hH (by simp; omega)] at hw
    subst hw
    refine ⟨_, rfl, ?_, belowCells hB _ _ _ (below_drewN (Below.refl _ _) q)⟩
    have hlen : (l.take i ++ l.drop j).length = l.length - (j - i) := by simp; omega
    rw [← hlen]
    refine OwnI.ofRow hB (heap_setCells g _ _ _ _ cur (by rw [drewN_heap]; exact hg)) (by omega) (by unfold maxLen; omega) (by rw [layC_size]; exact hs) (fun k hk => ?_)
    rw [layC_get _ _ _ _ (by omega), if_pos (by simp at hk ⊢; omega), Nat.sub_zero, List.map_append, List.getElem?_append_left (by simpa using hk)]
    exact intCells_get _ k hk

end Go.Proofs.YtddhcohjmgdajaaDoor
