/- Contracts of schema: within, Fits. -/
import Derived.Test.YtgpdbboieokldaaObjsMayD
import Derived.Test.YtgpdbboieokldaaRef06A
namespace Go.Proofs.Ytgpdbboieokldaa
open Go.RowKit

set_option maxRecDepth 100000 in
set_option maxHeartbeats 1000000 in
theorem inR_any (n a b : Int) (B : Bool) (hB : B = decide (a ≤ n ∧ n ≤ b)) (w : World) :
    Calls Try.prog 80 #[.int .i64 n, .int .i64 a, .int .i64 b] w fun e w' => e = .returned (.bool B) ∧ w' = w := by
  have HE := hide hB
  clear hB
  by_cases h1 : a ≤ n
  · by_cases h2 : n ≤ b
    · have HT : Hid (true = B) := hide (by rw [HE.out, decide_eq_true ⟨h1, h2⟩])
      clear HE
      go_enter Try.func80, Try.ntmps80
      go_wp2
      go_ret
      exact ⟨ret_b HT.out, rfl⟩
    · have HT : Hid (false = B) := hide (by rw [HE.out, decide_eq_false fun h => h2 h.2])
      clear HE
      go_enter Try.func80, Try.ntmps80
      go_wp2
      go_ret
      exact ⟨ret_b HT.out, rfl⟩
  · have HT : Hid (false = B) := hide (by rw [HE.out, decide_eq_false fun h => h1 h.1])
    clear HE
    go_enter Try.func80, Try.ntmps80
    go_wp2
    go_ret
    exact ⟨ret_b HT.out, rfl⟩

theorem belowSeven' {C : Nat} {w0 w : World} (h : Below C w0 w) (R : Nat) (hR : C ≤ R) (x0 x1 x2 x3 x4 x5 x6 : Value) : Below C w0 (((((((w.setCell ⟨R, 0, none⟩ x0).setCell ⟨R, 1, none⟩ x1).setCell ⟨R, 2, none⟩ x2).setCell ⟨R, 3, none⟩ x3).setCell ⟨R, 4, none⟩ x4).setCell ⟨R, 5, none⟩ x5).setCell ⟨R, 6, none⟩ x6) :=
  ((((((h.setCell hR _).setCell hR _).setCell hR _).setCell hR _).setCell hR _).setCell hR _).setCell hR _

theorem fitsR_parts (r : Rec) : FitsR r ↔ (0 ≤ r.idx ∧ r.idx ≤ 4611686018427387903) ∧ (0 ≤ r.proc ∧ r.proc ≤ 64) ∧ (0 ≤ r.seq ∧ r.seq ≤ 4611686018427387903) ∧ FitsO r.op ∧ (-1125899906842624 ≤ r.resp ∧ r.resp ≤ 1125899906842624) := by
  unfold FitsR
  constructor
  · rintro ⟨h1, h2, h3, h4, h5, h6, h7, h8, h9⟩
    exact ⟨⟨h2, by omega⟩, ⟨h6, h7⟩, ⟨h4, by omega⟩, h1, h8, h9⟩
  · rintro ⟨⟨h2, h3⟩, ⟨h6, h7⟩, ⟨h4, h5⟩, h1, h8, h9⟩
    exact ⟨h1, h2, by omega, h4, by omega, h6, h7, h8, h9⟩

set_option maxRecDepth 100000 in
set_option maxHeartbeats 2000000 in
theorem fitsR_any (r : Rec) (w : World) :
    Calls Try.prog 47 #[recV r] w fun e w' => e = .returned (.bool (decide (FitsR r))) ∧ Below w.heap.size w w' := by
  obtain ⟨B, hB⟩ : ∃ B, B = decide (FitsR r) := ⟨_, rfl⟩
  rw [← hB]
  have HP := hide (fitsR_parts r)
  have HF0 := hide (fun W => fits_any r.op W)
  have HB := hide hB
  clear hB
  obtain ⟨idx, proc, seq, ⟨code, a, b⟩, resp⟩ := r
  show Calls Try.prog _ #[.agg #[.int .i64 idx, .int .i64 proc, .int .i64 seq, .int .i64 code, .int .i64 a, .int .i64 b, .int .i64 resp]] w _
  have HB0 : Hid (∀ X, Below w.heap.size w (w.alloc X)) := fun X => (Below.refl _ _).alloc (Nat.le_refl _) X
  have X1 : Hid (∀ cs, Br (w.alloc (.cells cs 64)) w.heap.size cs) := fun cs => heap_alloc_new w _
  have HF : Hid (∀ W, Calls Try.prog 81 #[.agg #[.int .i64 code, .int .i64 a, .int .i64 b]] W fun e w' => e = .returned (.bool (decide (FitsO ⟨code, a, b⟩))) ∧ Below W.heap.size W w') := HF0.out
  clear HF0
  have HW := hide (fun n a b B hB W => inR_any n a b B hB W)
  by_cases h1 : 0 ≤ idx ∧ idx ≤ 4611686018427387903
  case neg =>
    have HT : Hid (false = B) := hide (by rw [HB.out, decide_eq_false fun h => h1 (HP.out.1 h).1])
    have HD := hide (decide_eq_false h1).symm
    clear HB HP h1 HF
    go_enter Try.func47, Try.ntmps47
    go_wp2_with fail
    refine (HW.out _ _ _ _ HD.out _).mono ?_
    rintro e W1 ⟨rfl, rfl⟩
    go_wp2
    go_ret
    exact ⟨ret_b HT.out, HB0.out _⟩
  have HD1 := hide (decide_eq_true h1).symm
  by_cases h2 : 0 ≤ proc ∧ proc ≤ 64
  case neg =>
    have HT : Hid (false = B) := hide (by rw [HB.out, decide_eq_false fun h => h2 (HP.out.1 h).2.1])
    have HD2 := hide (decide_eq_false h2).symm
    clear HB HP h1 h2 HF
    go_enter Try.func47, Try.ntmps47
    go_wp2_with fail
    refine (HW.out _ _ _ _ HD1.out _).mono ?_
    rintro e W1 ⟨rfl, rfl⟩
    go_wp2_with fail
    refine (HW.out _ _ _ _ HD2.out _).mono ?_
    rintro e W1 ⟨rfl, rfl⟩
    go_wp2
    go_ret
    exact ⟨ret_b HT.out, HB0.out _⟩
  have HD2 := hide (decide_eq_true h2).symm
  by_cases h3 : 0 ≤ seq ∧ seq ≤ 4611686018427387903
  case neg =>
    have HT : Hid (false = B) := hide (by rw [HB.out, decide_eq_false fun h => h3 (HP.out.1 h).2.2.1])
    have HD3 := hide (decide_eq_false h3).symm
    clear HB HP h1 h2 h3 HF
    go_enter Try.func47, Try.ntmps47
    go_wp2_with fail
    refine (HW.out _ _ _ _ HD1.out _).mono ?_
    rintro e W1 ⟨rfl, rfl⟩
    go_wp2_with fail
    refine (HW.out _ _ _ _ HD2.out _).mono ?_
    rintro e W1 ⟨rfl, rfl⟩
    go_wp2_with fail
    refine (HW.out _ _ _ _ HD3.out _).mono ?_
    rintro e W1 ⟨rfl, rfl⟩
    go_wp2
    go_ret
    exact ⟨ret_b HT.out, HB0.out _⟩
  have HD3 := hide (decide_eq_true h3).symm
  by_cases h4 : FitsO ⟨code, a, b⟩
  case neg =>
    have HT : Hid (false = B) := hide (by rw [HB.out, decide_eq_false fun h => h4 (HP.out.1 h).2.2.2.1])
    rw [decide_eq_false h4] at HF
    clear HB HP h1 h2 h3 h4
    go_enter Try.func47, Try.ntmps47
    go_wp2_with fail
    refine (HW.out _ _ _ _ HD1.out _).mono ?_
    rintro e W1 ⟨rfl, rfl⟩
    go_wp2_with fail
    refine (HW.out _ _ _ _ HD2.out _).mono ?_
    rintro e W1 ⟨rfl, rfl⟩
    go_wp2_with fail
    refine (HW.out _ _ _ _ HD3.out _).mono ?_
    rintro e W1 ⟨rfl, rfl⟩
    go_wp2_with fail
    refine (HF.out _).mono ?_
    rintro e W2 ⟨rfl, hb2⟩
    have HB2 := hide ((HB0.out _).trans (hb2.mono (HB0.out _).size))
    clear hb2
    go_wp2
    go_ret
    exact ⟨ret_b HT.out, HB2.out⟩
  rw [decide_eq_true h4] at HF
  by_cases h5 : -1125899906842624 ≤ resp ∧ resp ≤ 1125899906842624
  case neg =>
    have HT : Hid (false = B) := hide (by rw [HB.out, decide_eq_false fun h => h5 (HP.out.1 h).2.2.2.2])
    have HD5 := hide (decide_eq_false h5).symm
    clear HB HP h1 h2 h3 h4 h5
    go_enter Try.func47, Try.ntmps47
    go_wp2_with fail
    refine (HW.out _ _ _ _ HD1.out _).mono ?_
    rintro e W1 ⟨rfl, rfl⟩
    go_wp2_with fail
    refine (HW.out _ _ _ _ HD2.out _).mono ?_
    rintro e W1 ⟨rfl, rfl⟩
    go_wp2_with fail
    refine (HW.out _ _ _ _ HD3.out _).mono ?_
    rintro e W1 ⟨rfl, rfl⟩
    go_wp2_with fail
    refine (HF.out _).mono ?_
    rintro e W2 ⟨rfl, hb2⟩
    have hx2 := (X1.out _).below hb2 (Nat.le_refl _)
    have HB2 := hide ((HB0.out _).trans (hb2.mono (HB0.out _).size))
    obtain ⟨q6, -⟩ := hx2.cell 6
    clear hb2 hx2
    go_wp2_with fail
    refine (HW.out _ _ _ _ HD5.out _).mono ?_
    rintro e W3 ⟨rfl, rfl⟩
    go_wp2
    go_ret
    exact ⟨ret_b HT.out, HB2.out⟩
  have HT : Hid (true = B) := hide (by rw [HB.out, decide_eq_true (HP.out.2 ⟨h1, h2, h3, h4, h5⟩)])
  have HD5 := hide (decide_eq_true h5).symm
  clear HB HP h1 h2 h3 h4 h5
  go_enter Try.func47, Try.ntmps47
  go_wp2_with fail
  refine (HW.out _ _ _ _ HD1.out _).mono ?_
  rintro e W1 ⟨rfl, rfl⟩
  go_wp2_with fail
  refine (HW.out _ _ _ _ HD2.out _).mono ?_
  rintro e W1 ⟨rfl, rfl⟩
  go_wp2_with fail
  refine (HW.out _ _ _ _ HD3.out _).mono ?_
  rintro e W1 ⟨rfl, rfl⟩
  go_wp2_with fail
  refine (HF.out _).mono ?_
  rintro e W2 ⟨rfl, hb2⟩
  have hx2 := (X1.out _).below hb2 (Nat.le_refl _)
  have HB2 := hide ((HB0.out _).trans (hb2.mono (HB0.out _).size))
  obtain ⟨q6, -⟩ := hx2.cell 6
  clear hb2 hx2
  go_wp2_with fail
  refine (HW.out _ _ _ _ HD5.out _).mono ?_
  rintro e W3 ⟨rfl, rfl⟩
  go_wp2
  go_ret
  exact ⟨ret_b HT.out, HB2.out⟩

end Go.Proofs.Ytgpdbboieokldaa
