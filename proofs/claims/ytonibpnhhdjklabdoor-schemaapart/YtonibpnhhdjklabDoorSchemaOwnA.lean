/- Contracts of schema: within, isVersion, Fits, Upgrade. -/
import Derived.Test.YtonibpnhhdjklabDoorSchemaShelf
import Derived.Test.YtonibpnhhdjklabDoorSchemaTab
import Derived.Test.YtonibpnhhdjklabDoorObjsMayD
import Derived.Test.YtonibpnhhdjklabDoorRef06A
namespace Go.Proofs.YtonibpnhhdjklabDoor
open Go.RowKit

set_option maxRecDepth 100000 in
set_option maxHeartbeats 1000000 in
theorem inR_any (n a b : Int) (B : Bool) (hB : B = decide (a ≤ n ∧ n ≤ b)) (w : World) :
    Calls Tryd.prog 13 #[.int .i64 n, .int .i64 a, .int .i64 b] w fun e w' => e = .returned (.bool B) ∧ w' = w := by
  have HE := hide hB
  clear hB
  by_cases h1 : a ≤ n
  · by_cases h2 : n ≤ b
    · have HT : Hid (true = B) := hide (by rw [HE.out, decide_eq_true ⟨h1, h2⟩])
      clear HE
      go_enter Tryd.func13, Tryd.ntmps13
      go_wp2
      go_ret
      exact ⟨ret_b HT.out, rfl⟩
    · have HT : Hid (false = B) := hide (by rw [HE.out, decide_eq_false fun h => h2 h.2])
      clear HE
      go_enter Tryd.func13, Tryd.ntmps13
      go_wp2
      go_ret
      exact ⟨ret_b HT.out, rfl⟩
  · have HT : Hid (false = B) := hide (by rw [HE.out, decide_eq_false fun h => h1 h.1])
    clear HE
    go_enter Tryd.func13, Tryd.ntmps13
    go_wp2
    go_ret
    exact ⟨ret_b HT.out, rfl⟩

set_option maxRecDepth 100000 in
set_option maxHeartbeats 1000000 in
theorem isVersion_any (v : Int) (B : Bool) (hB : B = decide (1 ≤ v ∧ v ≤ 3)) (w : World) :
    Calls Tryd.prog 8 #[.int .i64 v] w fun e w' => e = .returned (.bool B) ∧ w' = w := by
  have HW := hide (inR_any v 1 3 B hB w)
  clear hB
  go_enter Tryd.func8, Tryd.ntmps8
  go_wp2_with fail
  refine HW.out.mono ?_
  rintro e W1 ⟨rfl, rfl⟩
  go_wp2
  go_ret
  exact ⟨rfl, rfl⟩

theorem belowSeven' {C : Nat} {w0 w : World} (h : Below C w0 w) (R : Nat) (hR : C ≤ R) (x0 x1 x2 x3 x4 x5 x6 : Value) : Below C w0 (((((((w.setCell ⟨R, 0, none⟩ x0).setCell ⟨R, 1, none⟩ x1).setCell ⟨R, 2, none⟩ x2).setCell ⟨R, 3, none⟩ x3).setCell ⟨R, 4, none⟩ x4).setCell ⟨R, 5, none⟩ x5).setCell ⟨R, 6, none⟩ x6) :=
  ((((((h.setCell hR _).setCell hR _).setCell hR _).setCell hR _).setCell hR _).setCell hR _).setCell hR _

theorem fitsR_parts (r : Rec) : FitsR r ↔ (0 ≤ r.idx ∧ r.idx ≤ 4611686018427387903) ∧ (0 ≤ r.proc ∧ r.proc ≤ 64) ∧ (0 ≤ r.seq ∧ r.seq ≤ 4611686018427387903) ∧ FitsO r.op ∧ (-1125899906842624 ≤ r.resp ∧ r.resp ≤ 1125899906842624) := by
  unfold FitsR
  constructor
  · rintro ⟨h1, h2, h3, h4, h5, h6, h7, h8, h9⟩
    exact ⟨⟨h2, by omega⟩, ⟨h6, h7⟩, ⟨h4, by omega⟩, h1, h8, h9⟩
  · rintro ⟨⟨h2, h3⟩, ⟨h6, h7⟩, ⟨h4, h5⟩, h1, h8, h9⟩
    exact ⟨h1, h2, by omega, h4, by omega, h6, h7, h8, h9⟩

set_option maxRecDepth 100000 in
set_option maxHeartbeats 2000000 in
theorem fitsR_any (r : Rec) (w : World) :
    Calls Tryd.prog 9 #[recV r] w fun e w' => e = .returned (.bool (decide (FitsR r))) ∧ Below w.heap.size w w' := by
  obtain ⟨B, hB⟩ : ∃ B, B = decide (FitsR r) := ⟨_, rfl⟩
  rw [← hB]
  have HP := hide (fitsR_parts r)
  have HF0 := hide (fun W => fits_any r.op W)
  have HB := hide hB
  clear hB
  obtain ⟨idx, proc, seq, ⟨code, a, b⟩, resp⟩ := r
  show Calls Tryd.prog _ #[.agg #[.int .i64 idx, .int .i64 proc, .int .i64 seq, .int .i64 code, .int .i64 a, .int .i64 b, .int .i64 resp]] w _
  have HB0 : Hid (∀ X, Below w.heap.size w (w.alloc X)) := fun X => (Below.refl _ _).alloc (Nat.le_refl _) X
  have X1 : Hid (∀ cs, Br (w.alloc (.cells cs 25)) w.heap.size cs) := fun cs => heap_alloc_new w _
  have HF : Hid (∀ W, Calls Tryd.prog 14 #[.agg #[.int .i64 code, .int .i64 a, .int .i64 b]] W fun e w' => e = .returned (.bool (decide (FitsO ⟨code, a, b⟩))) ∧ Below W.heap.size W w') := HF0.out
  clear HF0
  have HW := hide (fun n a b B hB W => inR_any n a b B hB W)
  by_cases h1 : 0 ≤ idx ∧ idx ≤ 4611686018427387903
  case neg =>
    have HT : Hid (false = B) := hide (by rw [HB.out, decide_eq_false fun h => h1 (HP.out.1 h).1])
    have HD := hide (decide_eq_false h1).symm
    clear HB HP h1 HF
    go_enter Tryd.func9, Tryd.ntmps9
    go_wp2_with fail
    refine (HW.out _ _ _ _ HD.out _).mono ?_
    rintro e W1 ⟨rfl, rfl⟩
    go_wp2
    go_ret
    exact ⟨ret_b HT.out, HB0.out _⟩
  have HD1 := hide (decide_eq_true h1).symm
  by_cases h2 : 0 ≤ proc ∧ proc ≤ 64
  case neg =>
    have HT : Hid (false = B) := hide (by rw [HB.out, decide_eq_false fun h => h2 (HP.out.1 h).2.1])
    have HD2 := hide (decide_eq_false h2).symm
    clear HB HP h1 h2 HF
    go_enter Tryd.func9, Tryd.ntmps9
    go_wp2_with fail
    refine (HW.out _ _ _ _ HD1.out _).mono ?_
    rintro e W1 ⟨rfl, rfl⟩
    go_wp2_with fail
    refine (HW.out _ _ _ _ HD2.out _).mono ?_
    rintro e W1 ⟨rfl, rfl⟩
    go_wp2
    go_ret
    exact ⟨ret_b HT.out, HB0.out _⟩
  have HD2 := hide (decide_eq_true h2).symm
  by_cases h3 : 0 ≤ seq ∧ seq ≤ 4611686018427387903
  case neg =>
    have HT : Hid (false = B) := hide (by rw [HB.out, decide_eq_false fun h => h3 (HP.out.1 h).2.2.1])
    have HD3 := hide (decide_eq_false h3).symm
    clear HB HP h1 h2 h3 HF
    go_enter Tryd.func9, Tryd.ntmps9
    go_wp2_with fail
    refine (HW.out _ _ _ _ HD1.out _).mono ?_
    rintro e W1 ⟨rfl, rfl⟩
    go_wp2_with fail
    refine (HW.out _ _ _ _ HD2.out _).mono ?_
    rintro e W1 ⟨rfl, rfl⟩
    go_wp2_with fail
    refine (HW.out _ _ _ _ HD3.out _).mono ?_
    rintro e W1 ⟨rfl, rfl⟩
    go_wp2
    go_ret
    exact ⟨ret_b HT.out, HB0.out _⟩
  have HD3 := hide (decide_eq_true h3).symm
  by_cases h4 : FitsO ⟨code, a, b⟩
  case neg =>
    have HT : Hid (false = B) := hide (by rw [HB.out, decide_eq_false fun h => h4 (HP.out.1 h).2.2.2.1])
    rw [decide_eq_false h4] at HF
    clear HB HP h1 h2 h3 h4
    go_enter Tryd.func9, Tryd.ntmps9
    go_wp2_with fail
    refine (HW.out _ _ _ _ HD1.out _).mono ?_
    rintro e W1 ⟨rfl, rfl⟩
    go_wp2_with fail
    refine (HW.out _ _ _ _ HD2.out _).mono ?_
    rintro e W1 ⟨rfl, rfl⟩
    go_wp2_with fail
    refine (HW.out _ _ _ _ HD3.out _).mono ?_
    rintro e W1 ⟨rfl, rfl⟩
    go_wp2_with fail
    refine (HF.out _).mono ?_
    rintro e W2 ⟨rfl, hb2⟩
    have HB2 := hide ((HB0.out _).trans (hb2.mono (HB0.out _).size))
    clear hb2
    go_wp2
    go_ret
    exact ⟨ret_b HT.out, HB2.out⟩
  rw [decide_eq_true h4] at HF
  by_cases h5 : -1125899906842624 ≤ resp ∧ resp ≤ 1125899906842624
  case neg =>
    have HT : Hid (false = B) := hide (by rw [HB.out, decide_eq_false fun h => h5 (HP.out.1 h).2.2.2.2])
    have HD5 := hide (decide_eq_false h5).symm
    clear HB HP h1 h2 h3 h4 h5
    go_enter Tryd.func9, Tryd.ntmps9
    go_wp2_with fail
    refine (HW.out _ _ _ _ HD1.out _).mono ?_
    rintro e W1 ⟨rfl, rfl⟩
    go_wp2_with fail
    refine (HW.out _ _ _ _ HD2.out _).mono ?_
    rintro e W1 ⟨rfl, rfl⟩
    go_wp2_with fail
    refine (HW.out _ _ _ _ HD3.out _).mono ?_
    rintro e W1 ⟨rfl, rfl⟩
    go_wp2_with fail
    refine (HF.out _).mono ?_
    rintro e W2 ⟨rfl, hb2⟩
    have hx2 := (X1.out _).below hb2 (Nat.le_refl _)
    have HB2 := hide ((HB0.out _).trans (hb2.mono (HB0.out _).size))
    obtain ⟨q6, -⟩ := hx2.cell 6
    clear hb2 hx2
    go_wp2_with fail
    refine (HW.out _ _ _ _ HD5.out _).mono ?_
    rintro e W3 ⟨rfl, rfl⟩
    go_wp2
    go_ret
    exact ⟨ret_b HT.out, HB2.out⟩
  have HT : Hid (true = B) := hide (by rw [HB.out, decide_eq_true (HP.out.2 ⟨h1, h2, h3, h4, h5⟩)])
  have HD5 := hide (decide_eq_true h5).symm
  clear HB HP h1 h2 h3 h4 h5
  go_enter Tryd.func9, Tryd.ntmps9
  go_wp2_with fail
  refine (HW.out _ _ _ _ HD1.out _).mono ?_
  rintro e W1 ⟨rfl, rfl⟩
  go_wp2_with fail
  refine (HW.out _ _ _ _ HD2.out _).mono ?_
  rintro e W1 ⟨rfl, rfl⟩
  go_wp2_with fail
  refine (HW.out _ _ _ _ HD3.out _).mono ?_
  rintro e W1 ⟨rfl, rfl⟩
  go_wp2_with fail
  refine (HF.out _).mono ?_
  rintro e W2 ⟨rfl, hb2⟩
  have hx2 := (X1.out _).below hb2 (Nat.le_refl _)
  have HB2 := hide ((HB0.out _).trans (hb2.mono (HB0.out _).size))
  obtain ⟨q6, -⟩ := hx2.cell 6
  clear hb2 hx2
  go_wp2_with fail
  refine (HW.out _ _ _ _ HD5.out _).mono ?_
  rintro e W3 ⟨rfl, rfl⟩
  go_wp2
  go_ret
  exact ⟨ret_b HT.out, HB2.out⟩

set_option maxRecDepth 100000 in
set_option maxHeartbeats 2000000 in
theorem upgrade_any (v : Int) (r : Rec) (w : World) (ht : TabF w) :
    Calls Tryd.prog 7 #[.int .i64 v, recV r] w fun e w' => e = .returned (.tuple #[recV (if 1 ≤ v ∧ v ≤ 3 then upgR v r else zeroR), .int .i64 (if 1 ≤ v ∧ v ≤ 3 then 0 else 6)]) ∧ Below w.heap.size w w' := by
  obtain ⟨idx, proc, seq, ⟨code, a, b⟩, resp⟩ := r
  show Calls Tryd.prog _ #[_, .agg #[.int .i64 idx, .int .i64 proc, .int .i64 seq, .int .i64 code, .int .i64 a, .int .i64 b, .int .i64 resp]] w _
  have HB0 : Hid (∀ X Y, Below w.heap.size w ((w.alloc X).alloc Y)) := fun X Y => ((Below.refl _ _).alloc (Nat.le_refl _) X).alloc (by simp) Y
  have HV := hide (fun B hB W => isVersion_any v B hB W)
  have h0 := ht.lt
  by_cases hv : 1 ≤ v ∧ v ≤ 3
  case neg =>
    have HD := hide (decide_eq_false hv).symm
    rw [if_neg hv, if_neg hv]
    clear hv ht
    go_enter Tryd.func7, Tryd.ntmps7
    go_wp2_with fail
    refine (HV.out _ HD.out _).mono ?_
    rintro e W1 ⟨rfl, rfl⟩
    go_wp2
    exact bodyPost_ret (v := .tuple #[.agg #[.int .i64 0, .int .i64 0, .int .i64 0, .int .i64 0, .int .i64 0, .int .i64 0, .int .i64 0], .int .i64 6]) (by simp [results, Tryd.results7, go_sem]) rfl ⟨rfl, HB0.out _ _⟩
  have HD := hide (decide_eq_true hv).symm
  rw [if_pos hv, if_pos hv]
  have hv3 : v = 1 ∨ v = 2 ∨ v = 3 := by omega
  clear hv
  rcases hv3 with rfl | rfl | rfl
  · obtain ⟨x, hx, hr⟩ := ht.one
    have HC3 := hide (fun W (hb : Below w.heap.size w W) => containsN_any x [1, 2, 4] 3 false (by decide) W (hr.below hb (Nat.le_refl _)))
    have HC5 := hide (fun W (hb : Below w.heap.size w W) => containsN_any x [1, 2, 4] 5 false (by decide) W (hr.below hb (Nat.le_refl _)))
    have HXC : Hid (∀ W, Below w.heap.size w W → W.cell? ⟨0, 1, none⟩ = some x) := hide (fun W hb => (hb.cell (p := ⟨0, 1, none⟩) h0).trans hx)
    clear hr ht hx
    go_enter Tryd.func7, Tryd.ntmps7
    go_wp2_with fail
    refine (HV.out _ HD.out _).mono ?_
    rintro e W1 ⟨rfl, hw⟩
    have HB1 : Hid (Below w.heap.size w W1) := hide (by rw [hw]; exact HB0.out _ _)
    have HX1 : Hid (Br W1 w.heap.size #[.int .i64 idx, .int .i64 proc, .int .i64 seq, .int .i64 code, .int .i64 a, .int .i64 b, .int .i64 resp]) := hide (by rw [hw]; exact (Below.heap_alloc _ _ _ (by simp)).trans (heap_alloc_new w _))
    have HX2 : Hid (Br W1 (w.heap.size + 1) #[.int .i64 0, .int .i64 0, .int .i64 0, .int .i64 0, .int .i64 0, .int .i64 0, .int .i64 0]) := hide (by rw [hw]; exact two_new w _ _)
    clear hw HV HD HB0
    have hx1 := HXC.out _ HB1.out
    obtain ⟨q0, f0⟩ := HX1.out.cell 0
    obtain ⟨q1, f1⟩ := HX1.out.cell 1
    obtain ⟨q2, f2⟩ := HX1.out.cell 2
    obtain ⟨q3, f3⟩ := HX1.out.cell 3
    obtain ⟨q4, f4⟩ := HX1.out.cell 4
    obtain ⟨q5, f5⟩ := HX1.out.cell 5
    obtain ⟨q6, f6⟩ := HX1.out.cell 6
    obtain ⟨s0, g0⟩ := HX2.out.cell 0
    obtain ⟨s1, g1⟩ := HX2.out.cell 1
    obtain ⟨s2, g2⟩ := HX2.out.cell 2
    obtain ⟨s3, g3⟩ := HX2.out.cell 3
    obtain ⟨s4, g4⟩ := HX2.out.cell 4
    obtain ⟨s5, g5⟩ := HX2.out.cell 5
    obtain ⟨s6, g6⟩ := HX2.out.cell 6
    go_wp2_with fail
    refine (HC3.out _ HB1.out).mono ?_
    rintro e W2 ⟨rfl, rfl⟩
    have HB2 := hide (HB1.out.setCell (p := ⟨w.heap.size, 2, none⟩) (Nat.le_refl _) (.int .i64 0))
    have hx2 := HXC.out _ HB2.out
    go_wp2_with fail
    refine (HC5.out _ HB2.out).mono ?_
    rintro e W3 ⟨rfl, rfl⟩
    go_wp2
    refine bodyPost_ret (v := .tuple #[.agg #[.int .i64 idx, .int .i64 proc, .int .i64 0, .int .i64 code, .int .i64 a, .int .i64 b, .int .i64 0], .int .i64 0]) (by simp [results, Tryd.results7, go_sem, s0, s1, s2, s3, s4, s5, s6]) rfl ⟨rfl, ?_⟩
    exact belowSeven' (HB2.out.setCell (p := ⟨w.heap.size, 6, none⟩) (Nat.le_refl _) (.int .i64 0)) _ (Nat.le_succ _) _ _ _ _ _ _ _
  · obtain ⟨x, hx, hr⟩ := ht.two
    have HC3 := hide (fun W (hb : Below w.heap.size w W) => containsN_any x [1, 2, 3, 4] 3 true (by decide) W (hr.below hb (Nat.le_refl _)))
    have HC5 := hide (fun W (hb : Below w.heap.size w W) => containsN_any x [1, 2, 3, 4] 5 false (by decide) W (hr.below hb (Nat.le_refl _)))
    have HXC : Hid (∀ W, Below w.heap.size w W → W.cell? ⟨0, 2, none⟩ = some x) := hide (fun W hb => (hb.cell (p := ⟨0, 2, none⟩) h0).trans hx)
    clear hr ht hx
    go_enter Tryd.func7, Tryd.ntmps7
    go_wp2_with fail
    refine (HV.out _ HD.out _).mono ?_
    rintro e W1 ⟨rfl, hw⟩
    have HB1 : Hid (Below w.heap.size w W1) := hide (by rw [hw]; exact HB0.out _ _)
    have HX1 : Hid (Br W1 w.heap.size #[.int .i64 idx, .int .i64 proc, .int .i64 seq, .int .i64 code, .int .i64 a, .int .i64 b, .int .i64 resp]) := hide (by rw [hw]; exact (Below.heap_alloc _ _ _ (by simp)).trans (heap_alloc_new w _))
    have HX2 : Hid (Br W1 (w.heap.size + 1) #[.int .i64 0, .int .i64 0, .int .i64 0, .int .i64 0, .int .i64 0, .int .i64 0, .int .i64 0]) := hide (by rw [hw]; exact two_new w _ _)
    clear hw HV HD HB0
    have hx1 := HXC.out _ HB1.out
    obtain ⟨q0, f0⟩ := HX1.out.cell 0
    obtain ⟨q1, f1⟩ := HX1.out.cell 1
    obtain ⟨q2, f2⟩ := HX1.out.cell 2
    obtain ⟨q3, f3⟩ := HX1.out.cell 3
    obtain ⟨q4, f4⟩ := HX1.out.cell 4
    obtain ⟨q5, f5⟩ := HX1.out.cell 5
    obtain ⟨q6, f6⟩ := HX1.out.cell 6
    obtain ⟨s0, g0⟩ := HX2.out.cell 0
    obtain ⟨s1, g1⟩ := HX2.out.cell 1
    obtain ⟨s2, g2⟩ := HX2.out.cell 2
    obtain ⟨s3, g3⟩ := HX2.out.cell 3
    obtain ⟨s4, g4⟩ := HX2.out.cell 4
    obtain ⟨s5, g5⟩ := HX2.out.cell 5
    obtain ⟨s6, g6⟩ := HX2.out.cell 6
    go_wp2_with fail
    refine (HC3.out _ HB1.out).mono ?_
    rintro e W2 ⟨rfl, rfl⟩
    go_wp2_with fail
    refine (HC5.out _ HB1.out).mono ?_
    rintro e W3 ⟨rfl, rfl⟩
    go_wp2
    refine bodyPost_ret (v := .tuple #[.agg #[.int .i64 idx, .int .i64 proc, .int .i64 seq, .int .i64 code, .int .i64 a, .int .i64 b, .int .i64 0], .int .i64 0]) (by simp [results, Tryd.results7, go_sem, s0, s1, s2, s3, s4, s5, s6]) rfl ⟨rfl, ?_⟩
    exact belowSeven' (HB1.out.setCell (p := ⟨w.heap.size, 6, none⟩) (Nat.le_refl _) (.int .i64 0)) _ (Nat.le_succ _) _ _ _ _ _ _ _
  · obtain ⟨x, hx, hr⟩ := ht.three
    have HC3 := hide (fun W (hb : Below w.heap.size w W) => containsN_any x [1, 2, 3, 4, 5] 3 true (by decide) W (hr.below hb (Nat.le_refl _)))
    have HC5 := hide (fun W (hb : Below w.heap.size w W) => containsN_any x [1, 2, 3, 4, 5] 5 true (by decide) W (hr.below hb (Nat.le_refl _)))
    have HXC : Hid (∀ W, Below w.heap.size w W → W.cell? ⟨0, 3, none⟩ = some x) := hide (fun W hb => (hb.cell (p := ⟨0, 3, none⟩) h0).trans hx)
    clear hr ht hx
    go_enter Tryd.func7, Tryd.ntmps7
    go_wp2_with fail
    refine (HV.out _ HD.out _).mono ?_
    rintro e W1 ⟨rfl, hw⟩
    have HB1 : Hid (Below w.heap.size w W1) := hide (by rw [hw]; exact HB0.out _ _)
    have HX1 : Hid (Br W1 w.heap.size #[.int .i64 idx, .int .i64 proc, .int .i64 seq, .int .i64 code, .int .i64 a, .int .i64 b, .int .i64 resp]) := hide (by rw [hw]; exact (Below.heap_alloc _ _ _ (by simp)).trans (heap_alloc_new w _))
    have HX2 : Hid (Br W1 (w.heap.size + 1) #[.int .i64 0, .int .i64 0, .int .i64 0, .int .i64 0, .int .i64 0, .int .i64 0, .int .i64 0]) := hide (by rw [hw]; exact two_new w _ _)
    clear hw HV HD HB0
    have hx1 := HXC.out _ HB1.out
    obtain ⟨q0, f0⟩ := HX1.out.cell 0
    obtain ⟨q1, f1⟩ := HX1.out.cell 1
    obtain ⟨q2, f2⟩ := HX1.out.cell 2
    obtain ⟨q3, f3⟩ := HX1.out.cell 3
    obtain ⟨q4, f4⟩ := HX1.out.cell 4
    obtain ⟨q5, f5⟩ := HX1.out.cell 5
    obtain ⟨q6, f6⟩ := HX1.out.cell 6
    obtain ⟨s0, g0⟩ := HX2.out.cell 0
    obtain ⟨s1, g1⟩ := HX2.out.cell 1
    obtain ⟨s2, g2⟩ := HX2.out.cell 2
    obtain ⟨s3, g3⟩ := HX2.out.cell 3
    obtain ⟨s4, g4⟩ := HX2.out.cell 4
    obtain ⟨s5, g5⟩ := HX2.out.cell 5
    obtain ⟨s6, g6⟩ := HX2.out.cell 6
    go_wp2_with fail
    refine (HC3.out _ HB1.out).mono ?_
    rintro e W2 ⟨rfl, rfl⟩
    go_wp2_with fail
    refine (HC5.out _ HB1.out).mono ?_
    rintro e W3 ⟨rfl, rfl⟩
    go_wp2
    refine bodyPost_ret (v := .tuple #[.agg #[.int .i64 idx, .int .i64 proc, .int .i64 seq, .int .i64 code, .int .i64 a, .int .i64 b, .int .i64 resp], .int .i64 0]) (by simp [results, Tryd.results7, go_sem, s0, s1, s2, s3, s4, s5, s6]) rfl ⟨rfl, ?_⟩
    exact belowSeven' HB1.out _ (Nat.le_succ _) _ _ _ _ _ _ _

end Go.Proofs.YtonibpnhhdjklabDoor
