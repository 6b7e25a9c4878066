/- Entries of one's own: written, cut, appended; contracts over entries of slices.Clone, Equal, IndexFunc, DeleteFunc. -/
import Derived.Test.YtgpdbboieokldaaPack3
import Derived.Test.YtgpdbboieokldaaSnapCells
import Derived.Test.YtgpdbboieokldaaObjsLib
namespace Go.Proofs.Ytgpdbboieokldaa
open Go.RowKit

/-- The row of entries of one's own. -/
theorem OwnE.row {w : World} {B : Nat} {v : Value} {l : List Ent} (h : OwnE w B v l) : (v = .slice none 0 0 ∧ l = []) ∨
    ∃ g cap cur, v = .slice (some ⟨g, 0, none⟩) l.length cap ∧ B ≤ g ∧ g < w.heap.size ∧ w.heap[g]? = some (.cells cur 55 (0, 0)) ∧ l.length ≤ cap ∧ cap ≤ maxLen ∧ cur.size = cap * 3 ∧ ∀ j, j < l.length * 3 → cur[j]? = (entCells l)[j]? := by
  rcases h.2 with ⟨hv, hn⟩ | ⟨g, cap, cur, hv, hb, hg, hnc, hcm, hcs, htake⟩
  · have e : l = [] := List.eq_nil_of_length_eq_zero hn
    subst e
    exact .inl ⟨hv, rfl⟩
  · refine .inr ⟨g, cap, cur, hv, hb, (Array.getElem?_eq_some_iff.1 hg).1, hg, hnc, hcm, hcs, fun j hj => ?_⟩
    rw [← htake, List.getElem?_take_of_lt hj, Array.getElem?_toList]

theorem OwnE.ofRow {w : World} {B g cap n : Nat} {cur : Array Value} {l : List Ent} (hn : n = l.length) (hB : B ≤ g) (hg : w.heap[g]? = some (.cells cur 55 (0, 0))) (hc : l.length ≤ cap) (hm : cap ≤ maxLen) (hs : cur.size = cap * 3) (hcell : ∀ j, j < l.length * 3 → cur[j]? = (entCells l)[j]?) :
    OwnE w B (.slice (some ⟨g, 0, none⟩) n cap) l := by
  subst hn
  refine ⟨by rw [entCells_length], .inr ⟨g, cap, cur, rfl, hB, hg, hc, hm, hs, ?_⟩⟩
  apply List.ext_getElem?
  intro j
  by_cases hj : j < l.length * 3
  · rw [List.getElem?_take_of_lt hj, Array.getElem?_toList]
    exact hcell j hj
  · rw [List.getElem?_eq_none (by simp; omega), List.getElem?_eq_none (by rw [entCells_length]; omega)]

theorem OwnE.empty (w : World) (B : Nat) (hB : B ≤ w.heap.size) : OwnE (w.alloc (.cells #[] 55)) B (.slice (some ⟨w.heap.size, 0, none⟩) 0 0) [] :=
  OwnE.ofRow (l := []) rfl hB (heap_alloc_new w _) (Nat.le_refl _) (Nat.zero_le _) rfl (fun j hj => absurd hj (by simp))

theorem entCells_take : ∀ (l : List Ent) (i : Nat), entCells (l.take i) = (entCells l).take (i * 3)
  | l, 0 => by simp [entCells]
  | [], i + 1 => by simp [entCells]
  | x :: t, i + 1 => by
    rw [List.take_succ_cons, show (i + 1) * 3 = i * 3 + 1 + 1 + 1 by omega]
    show Value.int .i64 x.proc :: .int .i64 x.seq :: .int .i64 x.resp :: entCells (t.take i) = (Value.int .i64 x.proc :: .int .i64 x.seq :: .int .i64 x.resp :: entCells t).take (i * 3 + 1 + 1 + 1)
    rw [entCells_take t i]
    rfl

theorem entCells_drop : ∀ (l : List Ent) (i : Nat), entCells (l.drop i) = (entCells l).drop (i * 3)
  | l, 0 => by simp
  | [], i + 1 => by simp [entCells]
  | x :: t, i + 1 => by
    rw [List.drop_succ_cons, show (i + 1) * 3 = i * 3 + 1 + 1 + 1 by omega]
    show entCells (t.drop i) = (Value.int .i64 x.proc :: .int .i64 x.seq :: .int .i64 x.resp :: entCells t).drop (i * 3 + 1 + 1 + 1)
    rw [entCells_drop t i]
    rfl

/-- A beginning of entries of one's own. -/
theorem OwnE.cut {w : World} {B g n cap : Nat} {l : List Ent} (h : OwnE w B (.slice (some ⟨g, 0, none⟩) n cap) l) (i : Nat) (hi : i ≤ l.length) : OwnE w B (.slice (some ⟨g, 0, none⟩) i cap) (l.take i) := by
  rcases h.row with ⟨h1, -⟩ | ⟨g', cap', cur, h1, hB, hlt, hg, hc, hm, hs, hcell⟩
  · cases h1
  · injection h1 with h1 h2 h3
    injection h1 with h1
    injection h1 with h1
    subst h1 h3
    exact OwnE.ofRow (by rw [List.length_take]; omega) hB hg (by rw [List.length_take]; omega) hm hs (fun j hj => by
      rw [List.length_take] at hj
      rw [hcell j (by omega), entCells_take, List.getElem?_take_of_lt (by omega)])

/-- Entries of one's own stay while cells behind them are written. -/
theorem OwnE.cells {w : World} {B g n cap : Nat} {l : List Ent} (h : OwnE w B (.slice (some ⟨g, 0, none⟩) n cap) l) (o : Nat) (ho : l.length * 3 ≤ o) (vs : List Value) : OwnE (w.setCells g o vs) B (.slice (some ⟨g, 0, none⟩) n cap) l := by
  rcases h.row with ⟨h1, -⟩ | ⟨g', cap', cur, h1, hB, hlt, hg, hc, hm, hs, hcell⟩
  · cases h1
  · injection h1 with h1 h2 h3
    injection h1 with h1
    injection h1 with h1
    subst h1 h3
    exact OwnE.ofRow h2 hB (heap_setCells g _ vs o w cur hg) hc hm (by rw [layC_size]; exact hs) (fun j hj => by
      rw [layC_get _ _ _ _ (by omega), if_neg (by omega)]
      exact hcell j hj)

/-- One entry written into a row of one's own. -/
theorem OwnE.put {w : World} {B g n cap : Nat} {l : List Ent} (h : OwnE w B (.slice (some ⟨g, 0, none⟩) n cap) l) (i : Nat) (hi : i < l.length) (e : Ent) : OwnE (w.setCells g (i * 3) (entCells [e])) B (.slice (some ⟨g, 0, none⟩) n cap) (l.set i e) := by
  rcases h.row with ⟨h1, -⟩ | ⟨g', cap', cur, h1, hB, hlt, hg, hc, hm, hs, hcell⟩
  · cases h1
  · injection h1 with h1 h2 h3
    injection h1 with h1
    injection h1 with h1
    subst h1 h3
    have hl3 : (entCells [e]).length = 3 := entCells_length [e]
    refine OwnE.ofRow (by rw [List.length_set]; exact h2) hB (heap_setCells g _ _ _ w cur hg) (by rw [List.length_set]; exact hc) hm (by rw [layC_size]; exact hs) (fun j hj => ?_)
    rw [List.length_set] at hj
    obtain ⟨q, k, hk, rfl⟩ : ∃ q k, k < 3 ∧ j = q * 3 + k := ⟨j / 3, j % 3, Nat.mod_lt _ (by decide), by omega⟩
    rw [layC_get _ _ _ _ (by omega), hl3, entCells_get (l.set i e) q k (by rw [List.length_set]; omega) hk]
    by_cases hq : q = i
    · subst hq
      rw [if_pos (by omega), show q * 3 + k - q * 3 = 0 * 3 + k by omega, entCells_get [e] 0 k (by simp) hk]
      congr 2
      simp [List.getD, hi]
    · rw [if_neg (by omega), hcell _ (by omega), entCells_get l q k (by omega) hk]
      congr 2
      have : ¬ i = q := fun h => hq h.symm
      simp [List.getD, this]

/-- The cells of entries that one reads. -/
theorem RdE.cells {w : World} {a : Addr} {n cap : Nat} {l : List Ent} (h : RdE w (.slice (some a) n cap) l) : ∀ j u, (entCells l)[j]? = some u → w.cell? (a.add j) = some u := by
  obtain ⟨ao, c, h1, h2, h3, hn, hw, h4⟩ := h
  injection h1 with h1 _ _
  subst h1
  intro j u hu
  have hj : j < l.length * 3 := by rw [← entCells_length]; exact (List.getElem?_eq_some_iff.1 hu).1
  rcases h4 with h4 | ⟨b, off, h5, h6⟩
  · rw [h4] at hj
    simp at hj
  · injection h5 with h5
    subst h5
    obtain ⟨q, k, hk, rfl⟩ : ∃ q k, k < 3 ∧ j = q * 3 + k := ⟨j / 3, j % 3, Nat.mod_lt _ (by decide), by omega⟩
    rw [entCells_get l q k (by omega) hk] at hu
    obtain ⟨c0, c1, c2⟩ := h6 q (by omega)
    rw [Addr.add_lit, ← Nat.add_assoc]
    match k, hk with
    | 0, _ => exact c0.trans hu
    | 1, _ => exact c1.trans hu
    | 2, _ => exact c2.trans hu

/-- Entries appended onto a row of one's own. -/
theorem run_append_ents (w : World) (ty : TypeId) (B : Nat) (v : Value) (l : List Ent) (h : OwnE w B v l) (vx : Value) (m : List Ent) (hr : RdE w vx m) (hlim : l.length + m.length ≤ 1000000) (hbase : B ≤ w.heap.size) :
    ∃ v' w', (Builtin.append_ #[25, 25] ty #[v, vx]).run Try.prog w = .ok v' w' ∧ OwnE w' B v' (l ++ m) ∧ Below B w w' := by
  obtain ⟨i0, hi, hz0, hz1, hz2⟩ := info_parts info_ent
  have hr' := hr
  obtain ⟨ao, cap, rfl, hlc, hcm, hn0, hw, hao⟩ := hr
  cases ao with
  | none =>
    have hc := hn0 rfl
    subst hc
    have hl : m = [] := List.eq_nil_of_length_eq_zero (by omega)
    subst hl
    have hrun := run_append_owned_none (P := Try.prog) w B 25 ty 55 i0 3 Try.underlying25 hi v l.length (entCells l) h
    exact ⟨v, w, hrun, by rw [List.append_nil]; exact h, Below.refl _ _⟩
  | some a =>
    obtain ⟨v', w', hrun, ho, hg, _⟩ := run_append_own (P := Try.prog) w B 25 ty 55 i0 _ 3 24 Try.underlying25 hi hz0 hz1 hz2 rfl (by decide) v l.length (entCells l) h
      a m.length cap (entCells m) (entCells_length m) hr'.cells (entCells_one m) (by unfold maxLen; omega) (by omega) hbase
    refine ⟨v', w', hrun, ?_, ?_⟩
    · unfold OwnE
      rw [List.length_append, entCells_app]
      exact ho
    · exact (Below.refl _ _).grown hg hbase (fun k hk => (World.ownsRow.lt h k hk).1)

theorem wpList_append_ents (w : World) {ops : Array Oper} {rest : List Oper} {o : Oper} {a : Act} {Q : Exit → Act → World → Prop} (hgd : o.guard = none) (s x : Operand)
    (ho : o.op = .call { callee := .builtin .append, args := #[s, x], argTypes := #[25, 25] })
    (B : Nat) (v : Value) (l : List Ent) (hs : a.eval s = v) (hown : OwnE w B v l) (vx : Value) (m : List Ent) (hx : a.eval x = vx) (hr : RdE w vx m)
    (hlim : l.length + m.length ≤ 1000000) (hbase : B ≤ w.heap.size)
    (h : ∀ v' w', OwnE w' B v' (l ++ m) → Below B w w' → wpList Try.prog ops Q rest (a.put o.dst v') w') : wpList Try.prog ops Q (o :: rest) a w :=
  wpList_plain hgd fun _ hK => by
    obtain ⟨v', w', hrun, h2, h3⟩ := run_append_ents w o.type B v l hown vx m hr hlim hbase
    unfold Oper.wp execOp
    simp only [ho, resolve, invoke, builtin, Sem.run_bind, Sem.run_pure, Result.andThen_ok, List.map_toArray, List.map_cons, List.map_nil, hs, hx, hrun]
    exact hK _ _ (h v' w' h2 h3)

set_option maxRecDepth 100000 in
set_option maxHeartbeats 1000000 in
theorem cloneE_any (v : Value) (l : List Ent) (w : World) (hr : RdE w v l) (hlim : l.length ≤ 1000000) :
    Calls Try.prog 46 #[v] w fun e w' => ∃ v', e = .returned v' ∧ OwnE w' w.heap.size v' l ∧ Below w.heap.size w w' := by
  have HR := hide hr
  obtain ⟨ao, cap, rfl, hlc, -, hn, -⟩ := hr
  cases ao with
  | none =>
    obtain rfl : cap = 0 := hn rfl
    obtain rfl : l = [] := List.eq_nil_of_length_eq_zero (by omega)
    clear hn hlc
    have hnil : ∀ w, (binOp .eql 25 (.slice none 0 0) (.slice none 0 0)).run Try.prog w = .ok (.bool true) w := fun w => run_eql_slice_nil w _ _ none 0 0 Try.underlying25
    go_enter Try.func46, Try.ntmps46
    go_wp2
    go_ret
    exact ⟨_, rfl, OwnE.nil _ _, Below.refl _ _⟩
  | some a =>
    clear hn
    have hnil : ∀ w, (binOp .eql 25 (.slice (some a) l.length cap) (.slice none 0 0)).run Try.prog w = .ok (.bool false) w := fun w => run_eql_slice_nil w _ _ (some a) _ _ Try.underlying25
    have HB0 : Hid (∀ X, Below w.heap.size w (w.alloc X)) := fun X => (Below.refl _ _).alloc (Nat.le_refl _) X
    have HO0 : Hid (OwnE (w.alloc (.cells #[] 55)) w.heap.size (.slice (some ⟨w.heap.size, 0, none⟩) 0 0) []) := hide (OwnE.empty w _ (Nat.le_refl _))
    go_enter Try.func46, Try.ntmps46
    go_wp2_with (at_builtin; refine wpList_append_ents _ rfl _ _ rfl w.heap.size _ [] rfl HO0.out _ l rfl (HR.out.below (HB0.out _) (Nat.le_refl _)) (by simp; omega) (by simp) ?_)
    intro v1 W1 ho1 hb1
    have HO1 := hide ho1
    have HB1 := hide ((HB0.out _).trans hb1)
    clear ho1 hb1
    go_wp2
    go_ret
    exact ⟨_, rfl, HO1.out, HB1.out⟩

/-- Where the first entry stands that p holds of, or -1. -/
def FoundE (p : Ent → Bool) (l : List Ent) (k : Int) : Prop := (k = -1 ∧ ∀ j, j < l.length → p (l.getD j zeroE) = false) ∨ ∃ i : Nat, k = (i : Int) ∧ i < l.length ∧ (∀ j, j < i → p (l.getD j zeroE) = false) ∧ p (l.getD i zeroE) = true

set_option maxRecDepth 100000 in
set_option maxHeartbeats 2000000 in
theorem indexFuncE_any (g R : Nat) (p : Ent → Bool) (v : Value) (l : List Ent) (w : World) (hr : RdE w v l)
    (eg : ∀ args W, (callFunc g args).run Try.prog W = .ok (.enter g args) W)
    (hp : ∀ W e, Below w.heap.size w W → Calls Try.prog g #[entV e, .pointer (some ⟨R, 0, none⟩)] W fun x w' => x = .returned (.bool (p e)) ∧ Below W.heap.size W w') :
    Calls Try.prog 87 #[v, .func (.func g) #[] #[.pointer (some ⟨R, 0, none⟩)]] w fun x w' => ∃ k : Int, x = .returned (.int .i64 k) ∧ FoundE p l k ∧ Below w.heap.size w w' := by
  have HR := hide hr
  have HP := hide hp
  obtain ⟨va, vc, rfl, hlc, hcm, -, -, hao⟩ := hr
  have HAO := hide hao
  have hml : (l.length : Int) ≤ 9223372036854775807 := by unfold maxLen at hcm; omega
  clear hp hlc hcm hao
  go_enter Try.func87, Try.ntmps87
  go_wp2
  go_loopw [8] (fun vi wr => ∃ q : Nat, vi = .int .i64 (q : Int) ∧ q ≤ l.length ∧ Hid (∀ j, j < q → p (l.getD j zeroE) = false) ∧ Hid (Below w.heap.size w wr)) (fun vi _ => l.length - (intOf vi).toNat)
  case atStart => exact ⟨0, rfl, Nat.zero_le _, hide (fun j hj => absurd hj (Nat.not_lt_zero _)), Below.refl _ _⟩
  case round =>
    obtain ⟨q, rfl, hq, hN, hB⟩ := hrel
    by_cases hlt : q < l.length
    case neg =>
      obtain rfl : q = l.length := by omega
      go_wp2
      go_ret
      exact ⟨-1, rfl, .inl ⟨rfl, hN.out⟩, hB.out⟩
    have hqi : (q : Int) < (l.length : Int) := by omega
    rcases HAO.out with h0 | ⟨b, off, rfl, hc⟩
    · rw [h0] at hlt; simp at hlt
    obtain ⟨c0, c1, c2⟩ := (hc q hlt).keep (hB.out.block b (hc q hlt).lt)
    have HC := hide (HP.out wr (l.getD q zeroE) hB.out)
    have HX : Hid (∀ j, j < q + 1 → j = q ∨ j < q) := hide (fun j hj => by omega)
    obtain ⟨e, he⟩ : ∃ e, e = l.getD q zeroE := ⟨_, rfl⟩
    rw [← he] at HC c0 c1 c2
    have HE := hide he
    obtain ⟨pe, hpe⟩ : ∃ pe, pe = p e := ⟨_, rfl⟩
    rw [← hpe] at HC
    have HPE := hide hpe
    clear he hc HP HAO HR hpe
    unfold entV at HC
    obtain ⟨ep, es, er⟩ := e
    simp only at HC c0 c1 c2
    go_wp2_with fail
    refine HC.out.mono ?_
    rintro x W1 ⟨rfl, hb1⟩
    have HB1 := hide (hB.out.trans (hb1.mono hB.out.size))
    clear hb1 HC
    cases pe with
    | true =>
      go_wp2
      go_ret
      exact ⟨(q : Int), rfl, .inr ⟨q, rfl, hlt, hN.out, by rw [← HE.out]; exact HPE.out.symm⟩, HB1.out⟩
    | false =>
      go_wp2
      go_roundw
      case rel => exact ⟨q + 1, by go_num, by omega, hide (fun j hj => by
        rcases HX.out j hj with h | h
        · rw [h, ← HE.out]; exact HPE.out.symm
        · exact hN.out j h), HB1⟩
      case measure => simp [intOf]; omega

end Go.Proofs.Ytgpdbboieokldaa
