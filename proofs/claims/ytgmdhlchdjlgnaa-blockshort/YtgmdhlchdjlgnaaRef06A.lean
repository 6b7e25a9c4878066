/- Contracts of ferrymanref06: Fits, Upgrade, has. -/
import Derived.Test.YtgmdhlchdjlgnaaRef05A
import Derived.Test.YtgmdhlchdjlgnaaSchemaPlain
namespace Go.Proofs.Ytgmdhlchdjlgnaa
open Go.RowKit

/-- A record as a value. -/
def recV (r : Rec) : Value := .agg #[.int .i64 r.idx, .int .i64 r.proc, .int .i64 r.seq, .int .i64 r.op.code, .int .i64 r.op.a, .int .i64 r.op.b, .int .i64 r.resp]

/-- A record's cells. -/
def recC (r : Rec) : Array Value := #[.int .i64 r.idx, .int .i64 r.proc, .int .i64 r.seq, .int .i64 r.op.code, .int .i64 r.op.a, .int .i64 r.op.b, .int .i64 r.resp]

def RecOk (r : Rec) : Prop := I64 r.idx ∧ I64 r.proc ∧ I64 r.seq ∧ OpOk r.op ∧ I64 r.resp

/-- A record's box. -/
def Br (w : World) (b : Nat) (cs : Array Value) : Prop := w.heap[b]? = some (.cells cs 37 (0, 0))

theorem Br.lt {w : World} {b : Nat} {cs : Array Value} (h : Br w b cs) : b < w.heap.size := (Array.getElem?_eq_some_iff.1 h).1

theorem Br.below {w w' : World} {b B : Nat} {cs : Array Value} (h : Br w b cs) (hb : Below B w w') (hB : w.heap.size ≤ B) : Br w' b cs := (hb.block b (by have := h.lt; omega)).trans h

theorem Br.cell {w : World} {b : Nat} {cs : Array Value} (h : Br w b cs) (j : Nat) : w.cell? ⟨b, j, none⟩ = cs[j]? ∧ w.frozen? ⟨b, j, none⟩ = false := ⟨cell_of_row w b j _ _ _ h, frozen_of_row w b j _ _ h⟩

set_option maxRecDepth 100000 in
set_option maxHeartbeats 1000000 in
theorem refFitsR_any (r : Rec) (w : World) :
    Calls Try.prog 25 #[recV r] w fun e w' => e = .returned (.bool (decide (FitsR r))) ∧ Below w.heap.size w w' := by
  obtain ⟨idx, proc, seq, ⟨code, a, b⟩, resp⟩ := r
  have HB0 : Hid (∀ X, Below w.heap.size w (w.alloc X)) := fun X => (Below.refl _ _).alloc (Nat.le_refl _) X
  have S1 : Hid (∀ X, (w.alloc X).heap.size = w.heap.size + 1) := fun X => by simp
  have X1 : Hid (∀ cs, Br (w.alloc (.cells cs 37)) w.heap.size cs) := fun cs => heap_alloc_new w _
  have HF : Hid (∀ W, Calls Try.prog 38 #[.agg #[.int .i64 code, .int .i64 a, .int .i64 b]] W fun e w' => e = .returned (.bool (decide (FitsO ⟨code, a, b⟩))) ∧ Below W.heap.size W w') := fun W => refFits_any ⟨code, a, b⟩ W
  show Calls Try.prog _ #[.agg #[.int .i64 idx, .int .i64 proc, .int .i64 seq, .int .i64 code, .int .i64 a, .int .i64 b, .int .i64 resp]] w _
  obtain ⟨G, hG⟩ : ∃ G : Bool, G = decide (FitsR ⟨idx, proc, seq, ⟨code, a, b⟩, resp⟩) := ⟨_, rfl⟩
  obtain ⟨F, hF⟩ : ∃ F : Bool, F = decide (FitsO ⟨code, a, b⟩) := ⟨_, rfl⟩
  have HD : Hid (G = true ↔ F = true ∧ 0 ≤ idx ∧ idx < 4611686018427387904 ∧ 0 ≤ seq ∧ seq < 4611686018427387904 ∧ 0 ≤ proc ∧ proc ≤ 64 ∧ -1125899906842624 ≤ resp ∧ resp ≤ 1125899906842624) := hide (by
    rw [hG, hF, decide_eq_true_iff, decide_eq_true_iff]
    exact Iff.rfl)
  rw [← hG]
  rw [← hF] at HF
  clear hG hF
  go_enter Try.func25, Try.ntmps25
  go_wp2_with fail
  refine (HF.out _).mono ?_
  rintro e W1 ⟨rfl, hb1⟩
  have HX1 := hide ((X1.out _).below hb1 (Nat.le_refl _))
  have HB1 := hide ((HB0.out _).trans (hb1.mono (by rw [S1.out]; omega)))
  clear hb1 HF X1 HB0 S1
  obtain ⟨q0, -⟩ := HX1.out.cell 0
  obtain ⟨q1, -⟩ := HX1.out.cell 1
  obtain ⟨q2, -⟩ := HX1.out.cell 2
  obtain ⟨q6, -⟩ := HX1.out.cell 6
  have HNo : Hid (¬ (F = true ∧ 0 ≤ idx ∧ idx < 4611686018427387904 ∧ 0 ≤ seq ∧ seq < 4611686018427387904 ∧ 0 ≤ proc ∧ proc ≤ 64 ∧ -1125899906842624 ≤ resp ∧ resp ≤ 1125899906842624) → false = G) := fun h => by
    cases G
    · rfl
    · exact absurd (HD.out.1 rfl) h
  cases F
  case false =>
    go_wp2
    go_ret
    exact ⟨ret_bool (HNo.out (by simp)), HB1.out⟩
  by_cases h1 : 0 ≤ idx
  case neg =>
    go_wp2
    go_ret
    exact ⟨ret_bool (HNo.out (by omega)), HB1.out⟩
  by_cases h2 : idx < 4611686018427387904
  case neg =>
    go_wp2
    go_ret
    exact ⟨ret_bool (HNo.out (by omega)), HB1.out⟩
  by_cases h3 : 0 ≤ seq
  case neg =>
    go_wp2
    go_ret
    exact ⟨ret_bool (HNo.out (by omega)), HB1.out⟩
  by_cases h4 : seq < 4611686018427387904
  case neg =>
    go_wp2
    go_ret
    exact ⟨ret_bool (HNo.out (by omega)), HB1.out⟩
  by_cases h5 : 0 ≤ proc
  case neg =>
    go_wp2
    go_ret
    exact ⟨ret_bool (HNo.out (by omega)), HB1.out⟩
  by_cases h6 : proc ≤ 64
  case neg =>
    go_wp2
    go_ret
    exact ⟨ret_bool (HNo.out (by omega)), HB1.out⟩
  by_cases h7 : -1125899906842624 ≤ resp
  case neg =>
    go_wp2
    go_ret
    exact ⟨ret_bool (HNo.out (by omega)), HB1.out⟩
  by_cases h8 : resp ≤ 1125899906842624
  case neg =>
    go_wp2
    go_ret
    exact ⟨ret_bool ((decide_eq_false (by omega)).trans (HNo.out (by omega))), HB1.out⟩
  have hy := HD.out.2 ⟨rfl, h1, h2, h3, h4, h5, h6, h7, h8⟩
  go_wp2
  go_ret
  exact ⟨ret_bool hy.symm, HB1.out⟩

theorem hasB (v f : Nat) : (decide (hasV v f)) = ((f : Int) == 1 || (f : Int) == 2 || (f : Int) == 4 || ((f : Int) == 3 && decide ((2 : Int) ≤ v)) || ((f : Int) == 5 && (v : Int) == 3)) := by
  rw [Bool.eq_iff_iff]
  simp only [decide_eq_true_iff, Bool.or_eq_true, Bool.and_eq_true, beq_iff_eq]
  unfold hasV
  omega

end Go.Proofs.Ytgmdhlchdjlgnaa
