/- Contracts of delta: run, and the two closures that it is handed. -/
import Derived.Test.YtgpdbboieokldaaDeltaBase
import Derived.Deep.QuietTactic
import Derived.BigQuiet
import Derived.Shelf.Abstract
namespace Go.Proofs.Ytgpdbboieokldaa
open Go.RowKit

/-- How many of the first n places are alike, one behind the other. -/
def RunTo (p : Nat → Bool) (n k : Nat) : Prop := k ≤ n ∧ (∀ j, j < k → p j = true) ∧ (k = n ∨ p k = false)

theorem preL_run : ∀ (a b : List Int) (k : Nat), k ≤ a.length → k ≤ b.length → (∀ j, j < k → a.getD j 0 = b.getD j 0) → (k = a.length ∨ k = b.length ∨ a.getD k 0 ≠ b.getD k 0) → k = preL a b
  | [], b, k, h1, _, _, _ => by simp at h1; simp [preL, h1]
  | x :: a, [], k, _, h2, _, _ => by simp at h2; simp [preL, h2]
  | x :: a, y :: b, 0, _, _, _, h4 => by
    rw [preL]
    rcases h4 with h | h | h
    · simp at h
    · simp at h
    · rw [if_neg (by simpa [List.getD] using h)]
  | x :: a, y :: b, k + 1, h1, h2, h3, h4 => by
    have e : x = y := by simpa [List.getD] using h3 0 (by omega)
    rw [preL, if_pos e, ← preL_run a b k (by simpa using h1) (by simpa using h2) (fun j hj => by simpa [List.getD] using h3 (j + 1) (by omega)) (by simpa [List.getD] using h4)]

theorem preL_runTo {a b : List Int} {n k : Nat} (hn : n = min a.length b.length) (h : RunTo (fun j => decide (a.getD j 0 = b.getD j 0)) n k) : k = preL a b := by
  obtain ⟨h1, h2, h3⟩ := h
  refine preL_run a b k (by omega) (by omega) (fun j hj => of_decide_eq_true (h2 j hj)) ?_
  rcases h3 with h | h
  · omega
  · exact .inr (.inr (of_decide_eq_false h))

theorem reverse_getD (a : List Int) (j : Nat) (h : j < a.length) : a.reverse.getD j 0 = a.getD (a.length - 1 - j) 0 := by
  have h2 : a.length - 1 - j < a.length := by omega
  simp [List.getD, h, h2]

theorem preL_runBack {a b : List Int} {n k : Nat} (hn : n = min a.length b.length) (h : RunTo (fun j => decide (a.getD (a.length - 1 - j) 0 = b.getD (b.length - 1 - j) 0)) n k) : k = preL a.reverse b.reverse := by
  obtain ⟨h1, h2, h3⟩ := h
  refine preL_run a.reverse b.reverse k (by rw [List.length_reverse]; omega) (by rw [List.length_reverse]; omega) (fun j hj => ?_) ?_
  · rw [reverse_getD _ _ (by omega), reverse_getD _ _ (by omega)]
    exact of_decide_eq_true (h2 j hj)
  · rw [List.length_reverse, List.length_reverse]
    by_cases e : k = n
    · omega
    · rcases h3 with h | h
      · exact absurd h e
      · right; right
        rw [reverse_getD _ _ (by omega), reverse_getD _ _ (by omega)]
        exact of_decide_eq_false h

set_option maxRecDepth 100000 in
set_option maxHeartbeats 2000000 in
theorem run_any (g R S : Nat) (p : Nat → Bool) (n : Nat) (hn : n ≤ 9223372036854775807) (w : World)
    (eg : ∀ args W, (callFunc g args).run Try.prog W = .ok (.enter g args) W)
    (hp : ∀ W j, j < n → Below w.heap.size w W → Calls Try.prog g #[.int .i64 (j : Int), .pointer (some ⟨R, 0, none⟩), .pointer (some ⟨S, 0, none⟩)] W fun x w' => x = .returned (.bool (p j)) ∧ Below W.heap.size W w') :
    Calls Try.prog 53 #[.int .i64 (n : Int), .func (.func g) #[] #[.pointer (some ⟨R, 0, none⟩), .pointer (some ⟨S, 0, none⟩)]] w fun x w' => ∃ k : Nat, x = .returned (.int .i64 (k : Int)) ∧ RunTo p n k ∧ Below w.heap.size w w' := by
  have HP := hide hp
  have hml : (n : Int) ≤ 9223372036854775807 := by omega
  clear hp
  go_enter Try.func53, Try.ntmps53
  go_wp2
  go_loopw [7] (fun vi wr => ∃ q : Nat, vi = .int .i64 (q : Int) ∧ q ≤ n ∧ Hid (∀ j, j < q → p j = true) ∧ Hid (Below w.heap.size w wr)) (fun vi _ => n - (intOf vi).toNat)
  case atStart => exact ⟨0, rfl, Nat.zero_le _, hide (fun j hj => absurd hj (Nat.not_lt_zero _)), Below.refl _ _⟩
  case round =>
    obtain ⟨q, rfl, hq, hN, hB⟩ := hrel
    by_cases hlt : q < n
    case neg =>
      obtain rfl : q = n := by omega
      go_wp2
      go_ret
      exact ⟨q, rfl, ⟨Nat.le_refl _, hN.out, .inl rfl⟩, hB.out⟩
    have hqi : (q : Int) < (n : Int) := by omega
    have HC := hide (HP.out wr q hlt hB.out)
    have HX : Hid (∀ j, j < q + 1 → j = q ∨ j < q) := hide (fun j hj => by omega)
    obtain ⟨pe, hpe⟩ : ∃ pe, pe = p q := ⟨_, rfl⟩
    rw [← hpe] at HC
    have HPE := hide hpe
    clear HP hpe
    go_wp2_with fail
    refine HC.out.mono ?_
    rintro x W1 ⟨rfl, hb1⟩
    have HB1 := hide (hB.out.trans (hb1.mono hB.out.size))
    clear hb1 HC
    cases pe with
    | false =>
      go_wp2
      go_ret
      exact ⟨q, rfl, ⟨hq, hN.out, .inr HPE.out.symm⟩, HB1.out⟩
    | true =>
      go_wp2
      go_roundw
      case rel => exact ⟨q + 1, by go_num, by omega, hide (fun j hj => by
        rcases HX.out j hj with h | h
        · rw [h]; exact HPE.out.symm
        · exact hN.out j h), HB1⟩
      case measure => simp [intOf]; omega

/-- A box of one slice of numbers. -/
def Bs (w : World) (b : Nat) (v : Value) : Prop := w.heap[b]? = some (.cells #[v] 22 (0, 0))

theorem Bs.lt {w : World} {b : Nat} {v : Value} (h : Bs w b v) : b < w.heap.size := (Array.getElem?_eq_some_iff.1 h).1

theorem Bs.below {w w' : World} {b B : Nat} {v : Value} (h : Bs w b v) (hb : Below B w w') (hB : w.heap.size ≤ B) : Bs w' b v := (hb.block b (by have := h.lt; omega)).trans h

theorem Bs.cell {w : World} {b : Nat} {v : Value} (h : Bs w b v) : w.cell? ⟨b, 0, none⟩ = some v := cell_of_row w b 0 _ _ _ h

set_option maxRecDepth 100000 in
set_option maxHeartbeats 2000000 in
theorem ahead1_any (va : Value) (a : List Int) (vb : Value) (b : List Int) (R S : Nat) (W : World) (ha : RdI W va a) (hb : RdI W vb b) (hR : Bs W R va) (hS : Bs W S vb) (j : Nat) (hja : j < a.length) (hjb : j < b.length) :
    Calls Try.prog 54 #[.int .i64 (j : Int), .pointer (some ⟨R, 0, none⟩), .pointer (some ⟨S, 0, none⟩)] W fun x w' => x = .returned (.bool (decide (a.getD j 0 = b.getD j 0))) ∧ Below W.heap.size W w' := by
  have q1 := hR.cell
  have q2 := hS.cell
  obtain ⟨aa, ac, rfl, -, -, -, -, hao⟩ := ha
  obtain ⟨ba, bc, rfl, -, -, -, -, hbo⟩ := hb
  rcases hao with h0 | ⟨c, off, rfl, hc⟩
  · rw [h0] at hja; simp at hja
  rcases hbo with h0 | ⟨c', off', rfl, hc'⟩
  · rw [h0] at hjb; simp at hjb
  have c1 := hc j hja
  have c2 := hc' j hjb
  have hai : (j : Int) < (a.length : Int) := by omega
  have hbi : (j : Int) < (b.length : Int) := by omega
  clear hc hc' hR hS
  generalize a.getD j 0 = x at *
  generalize b.getD j 0 = y at *
  by_cases h : x = y
  · have h' : (x == y) = true := beq_iff_eq.2 h
    have HE : Hid (decide (x = y) = true) := decide_eq_true h
    rw [HE.out]
    clear HE h
    go_enter Try.func54, Try.ntmps54
    go_upto_region 1 with fail
    go_quiet (fail)
    go_wp2
    go_ret
    exact ⟨rfl, below_drewN (Below.refl _ _) _⟩
  · have h' : (x == y) = false := beq_eq_false_iff_ne.2 h
    have HE : Hid (decide (x = y) = false) := decide_eq_false h
    rw [HE.out]
    clear HE h
    go_enter Try.func54, Try.ntmps54
    go_upto_region 1 with fail
    go_quiet (fail)
    go_wp2
    go_ret
    exact ⟨rfl, below_drewN (Below.refl _ _) _⟩

set_option maxRecDepth 100000 in
set_option maxHeartbeats 2000000 in
theorem behind1_any (va : Value) (a : List Int) (vb : Value) (b : List Int) (R S : Nat) (W : World) (ha : RdI W va a) (hb : RdI W vb b) (hR : Bs W R va) (hS : Bs W S vb) (j : Nat) (hja : j < a.length) (hjb : j < b.length) :
    Calls Try.prog 55 #[.int .i64 (j : Int), .pointer (some ⟨R, 0, none⟩), .pointer (some ⟨S, 0, none⟩)] W fun x w' => x = .returned (.bool (decide (a.getD (a.length - 1 - j) 0 = b.getD (b.length - 1 - j) 0))) ∧ Below W.heap.size W w' := by
  have q1 := hR.cell
  have q2 := hS.cell
  obtain ⟨aa, ac, rfl, ha1, ha2, -, -, hao⟩ := ha
  obtain ⟨ba, bc, rfl, hb1, hb2, -, -, hbo⟩ := hb
  rcases hao with h0 | ⟨c, off, rfl, hc⟩
  · rw [h0] at hja; simp at hja
  rcases hbo with h0 | ⟨c', off', rfl, hc'⟩
  · rw [h0] at hjb; simp at hjb
  unfold maxLen at ha2 hb2
  obtain ⟨i, hi⟩ : ∃ i, i = a.length - 1 - j := ⟨_, rfl⟩
  obtain ⟨k, hk⟩ : ∃ k, k = b.length - 1 - j := ⟨_, rfl⟩
  rw [← hi, ← hk]
  have c1 := hc i (by omega)
  have c2 := hc' k (by omega)
  have ei : (a.length : Int) - 1 - (j : Int) = (i : Int) := by omega
  have ek : (b.length : Int) - 1 - (j : Int) = (k : Int) := by omega
  have hai : (i : Int) < (a.length : Int) := by omega
  have hbi : (k : Int) < (b.length : Int) := by omega
  have hal : (a.length : Int) ≤ 9223372036854775807 := by omega
  have hbl : (b.length : Int) ≤ 9223372036854775807 := by omega
  clear hc hc' hR hS hi hk ha1 ha2 hb1 hb2
  generalize a.getD i 0 = x at *
  generalize b.getD k 0 = y at *
  by_cases h : x = y
  · have h' : (x == y) = true := beq_iff_eq.2 h
    have HE : Hid (decide (x = y) = true) := decide_eq_true h
    rw [HE.out]
    clear HE h
    go_enter Try.func55, Try.ntmps55
    go_upto_region 1 with fail
    go_quiet (fail)
    go_wp2
    go_ret
    exact ⟨rfl, below_drewN (Below.refl _ _) _⟩
  · have h' : (x == y) = false := beq_eq_false_iff_ne.2 h
    have HE : Hid (decide (x = y) = false) := decide_eq_false h
    rw [HE.out]
    clear HE h
    go_enter Try.func55, Try.ntmps55
    go_upto_region 1 with fail
    go_quiet (fail)
    go_wp2
    go_ret
    exact ⟨rfl, below_drewN (Below.refl _ _) _⟩

end Go.Proofs.Ytgpdbboieokldaa
