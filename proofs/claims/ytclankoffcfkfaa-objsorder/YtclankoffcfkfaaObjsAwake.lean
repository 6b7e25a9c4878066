/- awake of layer objs answers true: the chapter's examples; Few, Ints. -/
import Derived.Test.YtclankoffcfkfaaObjsOwn
namespace Go.Proofs.Ytclankoffcfkfaa
open Go.RowKit

/-- Numbers that are read, where there are some. -/
theorem RdI.filled {w : World} {v : Value} {l : List Int} (h : RdI w v l) (hl : l ≠ []) : ∃ b off cap, v = .slice (some ⟨b, off, none⟩) l.length cap ∧ b < w.heap.size ∧ ∀ j, j < l.length → w.cell? ⟨b, off + j, none⟩ = some (.int .i64 (l.getD j 0)) := by
  obtain ⟨ao, cap, h1, h2, h3, hn, hi, h4⟩ := h
  rcases h4 with h4 | ⟨b, off, h5, h6⟩
  · exact absurd h4 hl
  · have h0 : 0 < l.length := List.length_pos_iff.2 hl
    exact ⟨b, off, cap, by rw [h1, h5], World.block_lt_of_cell? w ⟨b, off + 0, none⟩ (h6 0 h0), h6⟩

/-- The value and the answer of a step, opened. -/
theorem Stepped.open {w w' : World} {vl : Value} {L : List Int} {k g n : Int} {L' : List Int} {s : Bool} {e : Ending} (h : Stepped w vl L (⟨k, L', s, g⟩, n) e w') :
    ∃ ao cap, e = .returned (.tuple #[.agg #[.int .i64 k, .slice ao L'.length cap, .bool s, .int .i64 g], .int .i64 n]) ∧ RdI w' (.slice ao L'.length cap) L' ∧ I64 k ∧ I64 g ∧ Below w.heap.size w w' := by
  obtain ⟨v', he, hr, hk, hg, _, hb⟩ := h
  have hr' := hr
  obtain ⟨ao, cap, rfl, _⟩ := hr
  exact ⟨ao, cap, he, hr', hk, hg, hb⟩

/-- A state's box. -/
def Bx (w : World) (b : Nat) (cs : Array Value) : Prop := w.heap[b]? = some (.cells cs 24 (0, 0))

/-- An operation's box. -/
def Bo (w : World) (b : Nat) (cs : Array Value) : Prop := w.heap[b]? = some (.cells cs 26 (0, 0))

theorem Bx.lt {w : World} {b : Nat} {cs : Array Value} (h : Bx w b cs) : b < w.heap.size := (Array.getElem?_eq_some_iff.1 h).1

theorem Bx.below {w w' : World} {b B : Nat} {cs : Array Value} (h : Bx w b cs) (hb : Below B w w') (hB : w.heap.size ≤ B) : Bx w' b cs := (hb.block b (by have := h.lt; omega)).trans h

theorem Bx.cell {w : World} {b : Nat} {cs : Array Value} (h : Bx w b cs) (j : Nat) : w.cell? ⟨b, j, none⟩ = cs[j]? ∧ w.frozen? ⟨b, j, none⟩ = false := ⟨cell_of_row w b j _ _ _ h, frozen_of_row w b j _ _ h⟩

theorem Bo.lt {w : World} {b : Nat} {cs : Array Value} (h : Bo w b cs) : b < w.heap.size := (Array.getElem?_eq_some_iff.1 h).1

theorem Bo.below {w w' : World} {b B : Nat} {cs : Array Value} (h : Bo w b cs) (hb : Below B w w') (hB : w.heap.size ≤ B) : Bo w' b cs := (hb.block b (by have := h.lt; omega)).trans h

theorem Bo.cell {w : World} {b : Nat} {cs : Array Value} (h : Bo w b cs) (j : Nat) : w.cell? ⟨b, j, none⟩ = cs[j]? ∧ w.frozen? ⟨b, j, none⟩ = false := ⟨cell_of_row w b j _ _ _ h, frozen_of_row w b j _ _ h⟩

theorem sameS_refl (s : St) : SameS s s := ⟨rfl, rfl, rfl, rfl⟩

theorem ex1 : stepO ⟨0, [5], false, 0⟩ ⟨1, 3, 0⟩ = (⟨0, [8], false, 0⟩, 5) := by rfl
theorem ex2 : stepO ⟨2, [1, 2], false, 0⟩ ⟨4, 0, 0⟩ = (⟨2, [2], false, 0⟩, 1) := by rfl
theorem ex3 : stepO ⟨0, [5], true, 0⟩ ⟨0, 0, 0⟩ = (⟨0, [5], true, 0⟩, -1125899906842624) := by rfl
theorem ex4 : MayS (startS 5) := by decide

theorem RdI.two (w : World) (x y : Int) (hx : I64 x) (hy : I64 y) : RdI (w.alloc (.cells #[.int .i64 x, .int .i64 y] 3)) (.slice (some ⟨w.heap.size, 0, none⟩) 2 2) [x, y] := by
  refine ⟨some ⟨w.heap.size, 0, none⟩, 2, rfl, Nat.le_refl _, by decide, (fun e => by cases e), ?_, .inr ⟨w.heap.size, 0, rfl, fun j hj => ?_⟩⟩
  · intro n hn
    simp at hn
    rcases hn with rfl | rfl <;> assumption
  · have e : j = 0 ∨ j = 1 := by simp at hj; omega
    rw [Nat.zero_add]
    rcases e with rfl | rfl
    · rw [cell_of_row _ w.heap.size 0 #[.int .i64 x, .int .i64 y] 3 (0, 0) (heap_alloc_new w _)]
      rfl
    · rw [cell_of_row _ w.heap.size 1 #[.int .i64 x, .int .i64 y] 3 (0, 0) (heap_alloc_new w _)]
      rfl

set_option linter.unusedVariables false in
theorem awake1 : ∀ (w : World) (N : Nat), N = w.heap.size → Calls Try.prog 11 #[.agg #[.int .i64 0, .slice (some ⟨N, 0, none⟩) 1 1, .bool false, .int .i64 0], .agg #[.int .i64 1, .int .i64 3, .int .i64 0]] (w.alloc (.cells #[.int .i64 5] 3)) fun e w' => ∃ b off cap, e = .returned (.tuple #[.agg #[.int .i64 0, .slice (some ⟨b, off, none⟩) 1 cap, .bool false, .int .i64 0], .int .i64 5]) ∧ w'.cell? ⟨b, off, none⟩ = some (.int .i64 8) ∧ Below w.heap.size w w' := by
  have c0 : I64 0 := i64_small (by decide) (by decide)
  have c1 : I64 1 := i64_small (by decide) (by decide)
  have c2 : I64 2 := i64_small (by decide) (by decide)
  have c5 : I64 5 := i64_small (by decide) (by decide)
  intro w N hN
  subst hN
  refine (step_any (.agg #[.int .i64 0, .slice (some ⟨w.heap.size, 0, none⟩) 1 1, .bool false, .int .i64 0]) ⟨0, [5], false, 0⟩ ⟨1, 3, 0⟩ (w.alloc (.cells #[.int .i64 5] 3)) ⟨_, rfl, RdI.one w 5 c5, c0, c0⟩ (by simp)).mono ?_
  intro e w' h
  rw [ex1] at h
  obtain ⟨v', rfl, hr, _, _, _, hb⟩ := h
  obtain ⟨b, off, cap, rfl, _, hc⟩ := hr.filled (by simp)
  exact ⟨b, off, cap, rfl, hc 0 (by simp), ((Below.refl _ _).alloc (Nat.le_refl _) _).trans (hb.mono (by simp))⟩

set_option linter.unusedVariables false in
theorem awake2 : ∀ (w : World) (N : Nat), N = w.heap.size → Calls Try.prog 11 #[.agg #[.int .i64 2, .slice (some ⟨N, 0, none⟩) 2 2, .bool false, .int .i64 0], .agg #[.int .i64 4, .int .i64 0, .int .i64 0]] (w.alloc (.cells #[.int .i64 1, .int .i64 2] 3)) fun e w' => ∃ b off cap, e = .returned (.tuple #[.agg #[.int .i64 2, .slice (some ⟨b, off, none⟩) 1 cap, .bool false, .int .i64 0], .int .i64 1]) ∧ w'.cell? ⟨b, off, none⟩ = some (.int .i64 2) ∧ Below w.heap.size w w' := by
  have c0 : I64 0 := i64_small (by decide) (by decide)
  have c1 : I64 1 := i64_small (by decide) (by decide)
  have c2 : I64 2 := i64_small (by decide) (by decide)
  have c5 : I64 5 := i64_small (by decide) (by decide)
  intro w N hN
  subst hN
  refine (step_any (.agg #[.int .i64 2, .slice (some ⟨w.heap.size, 0, none⟩) 2 2, .bool false, .int .i64 0]) ⟨2, [1, 2], false, 0⟩ ⟨4, 0, 0⟩ (w.alloc (.cells #[.int .i64 1, .int .i64 2] 3)) ⟨_, rfl, RdI.two w 1 2 c1 c2, c2, c0⟩ (by simp)).mono ?_
  intro e w' h
  rw [ex2] at h
  obtain ⟨v', rfl, hr, _, _, _, hb⟩ := h
  obtain ⟨b, off, cap, rfl, _, hc⟩ := hr.filled (by simp)
  exact ⟨b, off, cap, rfl, hc 0 (by simp), ((Below.refl _ _).alloc (Nat.le_refl _) _).trans (hb.mono (by simp))⟩

set_option linter.unusedVariables false in
theorem awake3 : ∀ (w : World) (N : Nat), N = w.heap.size → Calls Try.prog 11 #[.agg #[.int .i64 0, .slice (some ⟨N, 0, none⟩) 1 1, .bool true, .int .i64 0], .agg #[.int .i64 0, .int .i64 0, .int .i64 0]] (w.alloc (.cells #[.int .i64 5] 3)) fun e w' => ∃ ao cap, e = .returned (.tuple #[.agg #[.int .i64 0, .slice ao 1 cap, .bool true, .int .i64 0], .int .i64 (-1125899906842624)]) ∧ Below w.heap.size w w' := by
  have c0 : I64 0 := i64_small (by decide) (by decide)
  have c1 : I64 1 := i64_small (by decide) (by decide)
  have c2 : I64 2 := i64_small (by decide) (by decide)
  have c5 : I64 5 := i64_small (by decide) (by decide)
  intro w N hN
  subst hN
  refine (step_any (.agg #[.int .i64 0, .slice (some ⟨w.heap.size, 0, none⟩) 1 1, .bool true, .int .i64 0]) ⟨0, [5], true, 0⟩ ⟨0, 0, 0⟩ (w.alloc (.cells #[.int .i64 5] 3)) ⟨_, rfl, RdI.one w 5 c5, c0, c0⟩ (by simp)).mono ?_
  intro e w' h
  rw [ex3] at h
  obtain ⟨ao, cap, rfl, _, _, _, hb⟩ := h.open
  exact ⟨ao, cap, rfl, ((Below.refl _ _).alloc (Nat.le_refl _) _).trans (hb.mono (by simp))⟩

set_option maxRecDepth 100000 in
set_option maxHeartbeats 2000000 in
theorem awakeO_any (w : World) : Calls Try.prog 9 #[] w fun e w' => e = .returned (.bool true) ∧ Below w.heap.size w w' := by
  have S1 := hide' awake1
  have S2 := hide' awake2
  have S3 := hide' awake3
  have S4 := hide' (fun w => start_any 5 w)
  have S5 : Hid (∀ v w, StV w v (startS 5) → Calls Try.prog 16 #[v] w fun e w' => e = .returned (.bool true) ∧ Below w.heap.size w w') := fun v w h => by
    have := may_any v (startS 5) w h
    rwa [decide_eq_true ex4] at this
  go_enter Try.func9, Try.ntmps9
  go_wp2_with fail
  refine (S1.out w _ rfl).mono ?_
  rintro e w1 ⟨b1, o1, p1, rfl, hc1, hb1⟩
  have HC1 := hide' hc1
  have HB1 := hide' hb1
  have HL1 := hide' (World.block_lt_of_cell? w1 _ hc1)
  clear hc1 hb1
  go_wp2_with fail
  refine (S2.out _ _ (by simp)).mono ?_
  rintro e w2 ⟨b2, o2, p2, rfl, hc2, hb2⟩
  have hs2 := hb2.size
  simp at hs2
  have HX1 : Hid (w2.heap[w1.heap.size]? = some (.cells #[.int .i64 0, .slice (some ⟨b1, o1, none⟩) 1 p1, .bool false, .int .i64 0] 24 (0, 0))) := (hb2.block _ (by simp)).trans (heap_alloc_new w1 _)
  have HC1' : Hid (w2.cell? ⟨b1, o1, none⟩ = some (.int .i64 8)) := (hb2.cell (p := ⟨b1, o1, none⟩) (by have := HL1.out; simp; omega)).trans ((((Below.refl w1.heap.size w1).alloc (Nat.le_refl _) _).cell (p := ⟨b1, o1, none⟩) HL1.out).trans HC1.out)
  have HB2 := hide' (HB1.out.trans (((Below.refl w1.heap.size w1).alloc (Nat.le_refl _) _).trans (hb2.mono (by simp)) |>.mono HB1.out.size))
  have HC2 := hide' hc2
  have HL2 := hide' (World.block_lt_of_cell? w2 _ hc2)
  have HL1' : Hid (b1 < w2.heap.size) := hide' (by have h : b1 < w1.heap.size := HL1.out; omega)
  clear hc2 hb2 HC1 HL1 HB1
  go_wp2_with fail
  refine (S3.out _ _ (by simp)).mono ?_
  rintro e w3 ⟨a3, p3, rfl, hb3⟩
  have hs3 := hb3.size
  simp at hs3
  have hb3' : Below w2.heap.size w2 w3 := ((Below.refl w2.heap.size w2).alloc (Nat.le_refl _) _).trans (hb3.mono (by simp))
  have hx1 := (hb3'.block _ (by omega)).trans HX1.out
  have hx2 : w3.heap[w2.heap.size]? = some (.cells #[.int .i64 2, .slice (some ⟨b2, o2, none⟩) 1 p2, .bool false, .int .i64 0] 24 (0, 0)) := (hb3.block _ (by simp)).trans (heap_alloc_new w2 _)
  have hc1 : w3.cell? ⟨b1, o1, none⟩ = some (.int .i64 8) := (hb3'.cell (p := ⟨b1, o1, none⟩) HL1'.out).trans HC1'.out
  have hc2 : w3.cell? ⟨b2, o2, none⟩ = some (.int .i64 2) := (hb3'.cell (p := ⟨b2, o2, none⟩) HL2.out).trans HC2.out
  have q1 := cell_of_row w3 w1.heap.size 1 _ _ _ hx1
  have q2 := cell_of_row w3 w2.heap.size 1 _ _ _ hx2
  have HB3 := hide' (HB2.out.trans (hb3'.mono HB2.out.size))
  have l1 : w1.heap.size < w3.heap.size := by omega
  have l2 : w2.heap.size < w3.heap.size := by omega
  have l3 : b1 < w3.heap.size := by have h : b1 < w2.heap.size := HL1'.out; omega
  have l4 : b2 < w3.heap.size := by have h : b2 < w2.heap.size := HL2.out; omega
  clear hb3 hb3' hx1 hx2 HX1 HC1' HC2 HB2 HL1' HL2
  go_wp2_with fail
  refine (S4.out _).mono ?_
  rintro e w4 ⟨v4, rfl, hs4, hb4⟩
  have HB4 := hide' ((HB3.out.alloc (by have := HB3.out.size; omega) _).trans (hb4.mono (by have := HB3.out.size; simp; omega)))
  have HS4 := hide' hs4
  clear hs4 hb4
  go_wp2_with fail
  refine (S5.out _ _ HS4.out).mono ?_
  rintro e w5 ⟨rfl, hb5⟩
  have HB5 := hide' (HB4.out.trans (hb5.mono HB4.out.size))
  clear hb5
  go_wp2
  go_ret
  exact ⟨rfl, HB5.out⟩

set_option maxRecDepth 100000 in
theorem few_any (v : Value) (s : St) (w : World) (hs : StV w v s) :
    Calls Try.prog 10 #[v] w fun e w' => e = .returned (.bool (decide ((s.L.length : Int) ≤ 300))) ∧ Below w.heap.size w w' := by
  obtain ⟨vl, rfl, hr, -, -⟩ := hs
  obtain ⟨ao, cap, rfl, hlc, hcm, -⟩ := hr
  have hml : (s.L.length : Int) ≤ 9223372036854775807 := by unfold maxLen at hcm; omega
  have H1 : Hid (∀ x, Below w.heap.size w (w.alloc x)) := fun x => (Below.refl _ _).alloc (Nat.le_refl _) x
  clear hlc hcm
  go_enter Try.func10, Try.ntmps10
  go_wp2
  go_ret
  exact ⟨rfl, H1.out _⟩

end Go.Proofs.Ytclankoffcfkfaa
