import Derived.Test.YtgpdbboieokldaaGreatPack2
import Derived.Test.YtgpdbboieokldaaGreatPack7
import Derived.Test.YtgpdbboieokldaaGreatPack3
import Derived.Test.YtgpdbboieokldaaGreatPack4
import Derived.Test.YtgpdbboieokldaaGreatObjsLib
/- Contracts of ferrymanref05: PutOp, GetOp. -/
namespace Go.Proofs.YtgpdbboieokldaaGreat
open Go.RowKit

/-- What is put: the bytes, and no error; or what was there, and ErrArg. -/
def Putted (w : World) (l : List UInt8) (o : Opn) (e : Ending) (w' : World) : Prop :=
  ∃ v', e = .returned (.tuple #[v', .int .i64 (if FitsO o then 0 else 1)]) ∧ Own w' w.heap.size v' (if FitsO o then l ++ putOpL o else l) ∧ Below w.heap.size w w'

theorem putOf_small {l : List UInt8} {n : Int} (h0 : 0 ≤ n) (h1 : n < 4611686018427387904) : putOf l n = l ++ Lib.uvarint n.toNat := if_pos ⟨h0, h1⟩

theorem uv10 {n : Int} (h : I64 n) : (Lib.uvarint (Lib.zigzag n)).length ≤ 10 := Lib.uvarint_length64 (zig_lt h)

theorem uv10' {n : Nat} (h : n < 4611686018427387904) : (Lib.uvarint n).length ≤ 10 := Lib.uvarint_length64 (by omega)

theorem two_new (w : World) (X Y : Obj) : ((w.alloc X).alloc Y).heap[w.heap.size + 1]? = some Y := by
  have h := heap_alloc_new (w.alloc X) Y
  have e : (w.alloc X).heap.size = w.heap.size + 1 := by simp
  rwa [e] at h

/-- What is got: the operation and how many bytes. -/
def Gotten (w : World) (l : List UInt8) (e : Ending) (w' : World) : Prop :=
  e = .returned (.tuple #[opV (getOpL l).1, .int .i64 ((getOpL l).2 : Nat)]) ∧ Below w.heap.size w w'

end Go.Proofs.YtgpdbboieokldaaGreat

/- Contracts of ferrymanref06: Fits, Upgrade, has. -/
namespace Go.Proofs.YtgpdbboieokldaaGreat
open Go.RowKit

/-- A record as a value. -/
def recV (r : Rec) : Value := .agg #[.int .i64 r.idx, .int .i64 r.proc, .int .i64 r.seq, .int .i64 r.op.code, .int .i64 r.op.a, .int .i64 r.op.b, .int .i64 r.resp]

/-- A record's cells. -/
def recC (r : Rec) : Array Value := #[.int .i64 r.idx, .int .i64 r.proc, .int .i64 r.seq, .int .i64 r.op.code, .int .i64 r.op.a, .int .i64 r.op.b, .int .i64 r.resp]

def RecOk (r : Rec) : Prop := I64 r.idx ∧ I64 r.proc ∧ I64 r.seq ∧ OpOk r.op ∧ I64 r.resp

/-- A record's box. -/
def Br (w : World) (b : Nat) (cs : Array Value) : Prop := w.heap[b]? = some (.cells cs 99 (0, 0))

theorem Br.lt {w : World} {b : Nat} {cs : Array Value} (h : Br w b cs) : b < w.heap.size := (Array.getElem?_eq_some_iff.1 h).1

theorem Br.below {w w' : World} {b B : Nat} {cs : Array Value} (h : Br w b cs) (hb : Below B w w') (hB : w.heap.size ≤ B) : Br w' b cs := (hb.block b (by have := h.lt; omega)).trans h

theorem Br.cell {w : World} {b : Nat} {cs : Array Value} (h : Br w b cs) (j : Nat) : w.cell? ⟨b, j, none⟩ = cs[j]? ∧ w.frozen? ⟨b, j, none⟩ = false := ⟨cell_of_row w b j _ _ _ h, frozen_of_row w b j _ _ h⟩

theorem hasB (v f : Nat) : (decide (hasV v f)) = ((f : Int) == 1 || (f : Int) == 2 || (f : Int) == 4 || ((f : Int) == 3 && decide ((2 : Int) ≤ v)) || ((f : Int) == 5 && (v : Int) == 3)) := by
  rw [Bool.eq_iff_iff]
  simp only [decide_eq_true_iff, Bool.or_eq_true, Bool.and_eq_true, beq_iff_eq]
  unfold hasV
  omega

end Go.Proofs.YtgpdbboieokldaaGreat

/- Contracts of schema: within, Fits. -/
namespace Go.Proofs.YtgpdbboieokldaaGreat
open Go.RowKit

set_option maxRecDepth 100000 in
set_option maxHeartbeats 1000000 in
theorem inR_any (n a b : Int) (B : Bool) (hB : B = decide (a ≤ n ∧ n ≤ b)) (w : World) :
    Calls Tryz.prog 111 #[.int .i64 n, .int .i64 a, .int .i64 b] w fun e w' => e = .returned (.bool B) ∧ w' = w := by
  have HE := hide hB
  clear hB
  by_cases h1 : a ≤ n
  · by_cases h2 : n ≤ b
    · have HT : Hid (true = B) := hide (by rw [HE.out, decide_eq_true ⟨h1, h2⟩])
      clear HE
      go_enter Tryz.func111, Tryz.ntmps111
      go_wp2
      go_ret
      exact ⟨ret_b HT.out, rfl⟩
    · have HT : Hid (false = B) := hide (by rw [HE.out, decide_eq_false fun h => h2 h.2])
      clear HE
      go_enter Tryz.func111, Tryz.ntmps111
      go_wp2
      go_ret
      exact ⟨ret_b HT.out, rfl⟩
  · have HT : Hid (false = B) := hide (by rw [HE.out, decide_eq_false fun h => h1 h.1])
    clear HE
    go_enter Tryz.func111, Tryz.ntmps111
    go_wp2
    go_ret
    exact ⟨ret_b HT.out, rfl⟩

theorem belowSeven' {C : Nat} {w0 w : World} (h : Below C w0 w) (R : Nat) (hR : C ≤ R) (x0 x1 x2 x3 x4 x5 x6 : Value) : Below C w0 (((((((w.setCell ⟨R, 0, none⟩ x0).setCell ⟨R, 1, none⟩ x1).setCell ⟨R, 2, none⟩ x2).setCell ⟨R, 3, none⟩ x3).setCell ⟨R, 4, none⟩ x4).setCell ⟨R, 5, none⟩ x5).setCell ⟨R, 6, none⟩ x6) :=
  ((((((h.setCell hR _).setCell hR _).setCell hR _).setCell hR _).setCell hR _).setCell hR _).setCell hR _

theorem fitsR_parts (r : Rec) : FitsR r ↔ (0 ≤ r.idx ∧ r.idx ≤ 4611686018427387903) ∧ (0 ≤ r.proc ∧ r.proc ≤ 64) ∧ (0 ≤ r.seq ∧ r.seq ≤ 4611686018427387903) ∧ FitsO r.op ∧ (-1125899906842624 ≤ r.resp ∧ r.resp ≤ 1125899906842624) := by
  unfold FitsR
  constructor
  · rintro ⟨h1, h2, h3, h4, h5, h6, h7, h8, h9⟩
    exact ⟨⟨h2, by omega⟩, ⟨h6, h7⟩, ⟨h4, by omega⟩, h1, h8, h9⟩
  · rintro ⟨⟨h2, h3⟩, ⟨h6, h7⟩, ⟨h4, h5⟩, h1, h8, h9⟩
    exact ⟨h1, h2, by omega, h4, by omega, h6, h7, h8, h9⟩

set_option maxRecDepth 100000 in
set_option maxHeartbeats 2000000 in
theorem fitsR_any (r : Rec) (w : World) :
    Calls Tryz.prog 107 #[recV r] w fun e w' => e = .returned (.bool (decide (FitsR r))) ∧ Below w.heap.size w w' := by
  obtain ⟨B, hB⟩ : ∃ B, B = decide (FitsR r) := ⟨_, rfl⟩
  rw [← hB]
  have HP := hide (fitsR_parts r)
  have HF0 := hide (fun W => fits_any r.op W)
  have HB := hide hB
  clear hB
  obtain ⟨idx, proc, seq, ⟨code, a, b⟩, resp⟩ := r
  show Calls Tryz.prog _ #[.agg #[.int .i64 idx, .int .i64 proc, .int .i64 seq, .int .i64 code, .int .i64 a, .int .i64 b, .int .i64 resp]] w _
  have HB0 : Hid (∀ X, Below w.heap.size w (w.alloc X)) := fun X => (Below.refl _ _).alloc (Nat.le_refl _) X
  have X1 : Hid (∀ cs, Br (w.alloc (.cells cs 99)) w.heap.size cs) := fun cs => heap_alloc_new w _
  have HF : Hid (∀ W, Calls Tryz.prog 112 #[.agg #[.int .i64 code, .int .i64 a, .int .i64 b]] W fun e w' => e = .returned (.bool (decide (FitsO ⟨code, a, b⟩))) ∧ Below W.heap.size W w') := HF0.out
  clear HF0
  have HW := hide (fun n a b B hB W => inR_any n a b B hB W)
  by_cases h1 : 0 ≤ idx ∧ idx ≤ 4611686018427387903
  case neg =>
    have HT : Hid (false = B) := hide (by rw [HB.out, decide_eq_false fun h => h1 (HP.out.1 h).1])
    have HD := hide (decide_eq_false h1).symm
    clear HB HP h1 HF
    go_enter Tryz.func107, Tryz.ntmps107
    go_wp2_with fail
    refine (HW.out _ _ _ _ HD.out _).mono ?_
    rintro e W1 ⟨rfl, rfl⟩
    go_wp2
    go_ret
    exact ⟨ret_b HT.out, HB0.out _⟩
  have HD1 := hide (decide_eq_true h1).symm
  by_cases h2 : 0 ≤ proc ∧ proc ≤ 64
  case neg =>
    have HT : Hid (false = B) := hide (by rw [HB.out, decide_eq_false fun h => h2 (HP.out.1 h).2.1])
    have HD2 := hide (decide_eq_false h2).symm
    clear HB HP h1 h2 HF
    go_enter Tryz.func107, Tryz.ntmps107
    go_wp2_with fail
    refine (HW.out _ _ _ _ HD1.out _).mono ?_
    rintro e W1 ⟨rfl, rfl⟩
    go_wp2_with fail
    refine (HW.out _ _ _ _ HD2.out _).mono ?_
    rintro e W1 ⟨rfl, rfl⟩
    go_wp2
    go_ret
    exact ⟨ret_b HT.out, HB0.out _⟩
  have HD2 := hide (decide_eq_true h2).symm
  by_cases h3 : 0 ≤ seq ∧ seq ≤ 4611686018427387903
  case neg =>
    have HT : Hid (false = B) := hide (by rw [HB.out, decide_eq_false fun h => h3 (HP.out.1 h).2.2.1])
    have HD3 := hide (decide_eq_false h3).symm
    clear HB HP h1 h2 h3 HF
    go_enter Tryz.func107, Tryz.ntmps107
    go_wp2_with fail
    refine (HW.out _ _ _ _ HD1.out _).mono ?_
    rintro e W1 ⟨rfl, rfl⟩
    go_wp2_with fail
    refine (HW.out _ _ _ _ HD2.out _).mono ?_
    rintro e W1 ⟨rfl, rfl⟩
    go_wp2_with fail
    refine (HW.out _ _ _ _ HD3.out _).mono ?_
    rintro e W1 ⟨rfl, rfl⟩
    go_wp2
    go_ret
    exact ⟨ret_b HT.out, HB0.out _⟩
  have HD3 := hide (decide_eq_true h3).symm
  by_cases h4 : FitsO ⟨code, a, b⟩
  case neg =>
    have HT : Hid (false = B) := hide (by rw [HB.out, decide_eq_false fun h => h4 (HP.out.1 h).2.2.2.1])
    rw [decide_eq_false h4] at HF
    clear HB HP h1 h2 h3 h4
    go_enter Tryz.func107, Tryz.ntmps107
    go_wp2_with fail
    refine (HW.out _ _ _ _ HD1.out _).mono ?_
    rintro e W1 ⟨rfl, rfl⟩
    go_wp2_with fail
    refine (HW.out _ _ _ _ HD2.out _).mono ?_
    rintro e W1 ⟨rfl, rfl⟩
    go_wp2_with fail
    refine (HW.out _ _ _ _ HD3.out _).mono ?_
    rintro e W1 ⟨rfl, rfl⟩
    go_wp2_with fail
    refine (HF.out _).mono ?_
    rintro e W2 ⟨rfl, hb2⟩
    have HB2 := hide ((HB0.out _).trans (hb2.mono (HB0.out _).size))
    clear hb2
    go_wp2
    go_ret
    exact ⟨ret_b HT.out, HB2.out⟩
  rw [decide_eq_true h4] at HF
  by_cases h5 : -1125899906842624 ≤ resp ∧ resp ≤ 1125899906842624
  case neg =>
    have HT : Hid (false = B) := hide (by rw [HB.out, decide_eq_false fun h => h5 (HP.out.1 h).2.2.2.2])
    have HD5 := hide (decide_eq_false h5).symm
    clear HB HP h1 h2 h3 h4 h5
    go_enter Tryz.func107, Tryz.ntmps107
    go_wp2_with fail
    refine (HW.out _ _ _ _ HD1.out _).mono ?_
    rintro e W1 ⟨rfl, rfl⟩
    go_wp2_with fail
    refine (HW.out _ _ _ _ HD2.out _).mono ?_
    rintro e W1 ⟨rfl, rfl⟩
    go_wp2_with fail
    refine (HW.out _ _ _ _ HD3.out _).mono ?_
    rintro e W1 ⟨rfl, rfl⟩
    go_wp2_with fail
    refine (HF.out _).mono ?_
    rintro e W2 ⟨rfl, hb2⟩
    have hx2 := (X1.out _).below hb2 (Nat.le_refl _)
    have HB2 := hide ((HB0.out _).trans (hb2.mono (HB0.out _).size))
    obtain ⟨q6, -⟩ := hx2.cell 6
    clear hb2 hx2
    go_wp2_with fail
    refine (HW.out _ _ _ _ HD5.out _).mono ?_
    rintro e W3 ⟨rfl, rfl⟩
    go_wp2
    go_ret
    exact ⟨ret_b HT.out, HB2.out⟩
  have HT : Hid (true = B) := hide (by rw [HB.out, decide_eq_true (HP.out.2 ⟨h1, h2, h3, h4, h5⟩)])
  have HD5 := hide (decide_eq_true h5).symm
  clear HB HP h1 h2 h3 h4 h5
  go_enter Tryz.func107, Tryz.ntmps107
  go_wp2_with fail
  refine (HW.out _ _ _ _ HD1.out _).mono ?_
  rintro e W1 ⟨rfl, rfl⟩
  go_wp2_with fail
  refine (HW.out _ _ _ _ HD2.out _).mono ?_
  rintro e W1 ⟨rfl, rfl⟩
  go_wp2_with fail
  refine (HW.out _ _ _ _ HD3.out _).mono ?_
  rintro e W1 ⟨rfl, rfl⟩
  go_wp2_with fail
  refine (HF.out _).mono ?_
  rintro e W2 ⟨rfl, hb2⟩
  have hx2 := (X1.out _).below hb2 (Nat.le_refl _)
  have HB2 := hide ((HB0.out _).trans (hb2.mono (HB0.out _).size))
  obtain ⟨q6, -⟩ := hx2.cell 6
  clear hb2 hx2
  go_wp2_with fail
  refine (HW.out _ _ _ _ HD5.out _).mono ?_
  rintro e W3 ⟨rfl, rfl⟩
  go_wp2
  go_ret
  exact ⟨ret_b HT.out, HB2.out⟩

end Go.Proofs.YtgpdbboieokldaaGreat

/- Contract of objs: Same. -/
namespace Go.Proofs.YtgpdbboieokldaaGreat
open Go.RowKit

set_option maxRecDepth 100000 in
set_option maxHeartbeats 1000000 in
theorem sameS_any (va : Value) (a : St) (vb : Value) (b : St) (w : World) (ha : StV w va a) (hb : StV w vb b) :
    Calls Tryz.prog 37 #[va, vb] w fun e w' => e = .returned (.bool (decide (SameS a b))) ∧ Below w.heap.size w w' := by
  obtain ⟨vl, rfl, hr, -, -⟩ := ha
  obtain ⟨vm, rfl, hm, -, -⟩ := hb
  obtain ⟨k1, l1, s1, g1⟩ := a
  obtain ⟨k2, l2, s2, g2⟩ := b
  simp only at hr hm ⊢
  have HE : Hid (∀ W, Below w.heap.size w W → Calls Tryz.prog 26 #[vl, vm] W fun e w' => e = .returned (.bool (decide (l1 = l2))) ∧ Below W.heap.size W w') := fun W h => equalI_any vl l1 vm l2 W (hr.below h (Nat.le_refl _)) (hm.below h (Nat.le_refl _))
  have HBA : Hid (∀ x y, Below w.heap.size w ((w.alloc x).alloc y)) := fun x y => ((Below.refl _ _).alloc (Nat.le_refl _) x).alloc (by simp) y
  obtain ⟨R, hR⟩ : ∃ R, R = decide (SameS ⟨k1, l1, s1, g1⟩ ⟨k2, l2, s2, g2⟩) := ⟨_, rfl⟩
  rw [← hR]
  have HR := hide' hR
  clear hR hr hm
  by_cases h1 : k1 = k2
  · have q1 : (k1 == k2) = true := beq_iff_eq.2 h1
    have H1 := hide' h1
    clear h1
    by_cases h2 : s1 = s2
    · have q2 : (s1 == s2) = true := beq_iff_eq.2 h2
      have H2 := hide' h2
      clear h2
      by_cases h3 : g1 = g2
      · have q3 : (g1 == g2) = true := beq_iff_eq.2 h3
        have H3 := hide' h3
        clear h3
        go_enter Tryz.func37, Tryz.ntmps37
        go_wp2_with fail
        refine (HE.out _ (HBA.out _ _)).mono ?_
        rintro e W1 ⟨rfl, hb1⟩
        have HB1 := hide' ((HBA.out _ _).trans (hb1.mono (HBA.out _ _).size))
        clear hb1
        go_wp2
        go_ret
        refine ⟨ret_b ?_, HB1.out⟩
        rw [HR.out]
        exact decide_eq_decide.2 ⟨fun h => ⟨H1.out, H2.out, H3.out, h⟩, fun h => h.2.2.2⟩
      · have q3 : (g1 == g2) = false := beq_eq_false_iff_ne.2 h3
        have HF : Hid (R = false) := HR.out.trans (decide_eq_false fun h => h3 h.2.2.1)
        clear h3
        go_enter Tryz.func37, Tryz.ntmps37
        go_wp2
        go_ret
        exact ⟨ret_b HF.out.symm, HBA.out _ _⟩
    · have q2 : (s1 == s2) = false := beq_eq_false_iff_ne.2 h2
      have HF : Hid (R = false) := HR.out.trans (decide_eq_false fun h => h2 h.2.1)
      clear h2
      go_enter Tryz.func37, Tryz.ntmps37
      go_wp2
      go_ret
      exact ⟨ret_b HF.out.symm, HBA.out _ _⟩
  · have q1 : (k1 == k2) = false := beq_eq_false_iff_ne.2 h1
    have HF : Hid (R = false) := HR.out.trans (decide_eq_false fun h => h1 h.1)
    clear h1
    go_enter Tryz.func37, Tryz.ntmps37
    go_wp2
    go_ret
    exact ⟨ret_b HF.out.symm, HBA.out _ _⟩

end Go.Proofs.YtgpdbboieokldaaGreat

