import Derived.Test.YtddhcohjmgdajaaDoorPack2
import Derived.Lib.VarintMem
import Derived.Lib.Endian
import Derived.Test.YtddhcohjmgdajaaDoorPack1
import Derived.Deep.RegionHeld
import Derived.Deep.DeepCutAuto
import Derived.ChangeSlices
/- Contract of ferrymanref04: Fits. -/
namespace Go.Proofs.YtddhcohjmgdajaaDoor
open Go.RowKit

set_option maxRecDepth 100000 in
set_option maxHeartbeats 2000000 in
theorem refFits_any (o : Opn) (w : World) :
    Calls Tryd.prog 69 #[opV o] w fun e w' => e = .returned (.bool (decide (FitsO o))) ∧ Below w.heap.size w w' := by
  have HBA : Hid (∀ x, Below w.heap.size w (w.alloc x)) := fun x => (Below.refl _ _).alloc (Nat.le_refl _) x
  have HC : Hid (∀ n w, Calls Tryd.prog 86 #[.int .i64 n] w fun e w' => e = .returned (.int .i64 (cutZ n)) ∧ w' = w) := fun n w => refCut_any n w
  obtain ⟨code, a, b⟩ := o
  have HA := hide' (cutZ_eq a)
  have HB := hide' (cutZ_eq b)
  have HF : Hid (FitsO ⟨code, a, b⟩ ↔ 0 ≤ code ∧ code ≤ 10 ∧ (-1099511627776 ≤ a ∧ a ≤ 1099511627776) ∧ (-1099511627776 ≤ b ∧ b ≤ 1099511627776)) := by
    unfold FitsO
    constructor
    · rintro ⟨h1, h2, h3, h4, h5, h6⟩; exact ⟨h1, h2, ⟨h3, h4⟩, h5, h6⟩
    · rintro ⟨h1, h2, ⟨h3, h4⟩, h5, h6⟩; exact ⟨h1, h2, h3, h4, h5, h6⟩
  show Calls Tryd.prog 69 #[.agg #[.int .i64 code, .int .i64 a, .int .i64 b]] w _
  by_cases h1 : 0 ≤ code
  · by_cases h2 : code ≤ 10
    · by_cases h3 : a = cutZ a
      · have e3 : (a == cutZ a) = true := beq_iff_eq.2 h3
        by_cases h4 : b = cutZ b
        · have e4 : (b == cutZ b) = true := beq_iff_eq.2 h4
          have HD : Hid (decide (FitsO ⟨code, a, b⟩) = true) := decide_eq_true (HF.out.2 ⟨h1, h2, HA.out.1 h3, HB.out.1 h4⟩)
          clear h3 h4
          go_enter Tryd.func69, Tryd.ntmps69
          go_wp2
          go_quiet ((go_at_call 86; exact Calls.quiet_of_same (HC.out _ _)))
          go_wp2
          go_ret
          exact ⟨ret_b HD.out.symm, below_drewN (HBA.out _) _⟩
        · have e4 : (b == cutZ b) = false := beq_eq_false_iff_ne.2 h4
          have HD : Hid (decide (FitsO ⟨code, a, b⟩) = false) := decide_eq_false (fun h => h4 (HB.out.2 (HF.out.1 h).2.2.2))
          clear h3 h4
          go_enter Tryd.func69, Tryd.ntmps69
          go_wp2
          go_quiet ((go_at_call 86; exact Calls.quiet_of_same (HC.out _ _)))
          go_wp2
          go_ret
          exact ⟨ret_b HD.out.symm, below_drewN (HBA.out _) _⟩
      · have e3 : (a == cutZ a) = false := beq_eq_false_iff_ne.2 h3
        have HD : Hid (decide (FitsO ⟨code, a, b⟩) = false) := decide_eq_false (fun h => h3 (HA.out.2 (HF.out.1 h).2.2.1))
        clear h3
        go_enter Tryd.func69, Tryd.ntmps69
        go_wp2
        go_quiet ((go_at_call 86; exact Calls.quiet_of_same (HC.out _ _)))
        go_wp2
        go_ret
        exact ⟨ret_b HD.out.symm, below_drewN (HBA.out _) _⟩
    · have d2 : decide (code ≤ 10) = false := decide_eq_false h2
      have HD : Hid (decide (FitsO ⟨code, a, b⟩) = false) := decide_eq_false (fun h => h2 (HF.out.1 h).2.1)
      go_enter Tryd.func69, Tryd.ntmps69
      go_wp2
      go_quiet ((go_at_call 86; exact Calls.quiet_of_same (HC.out _ _)))
      go_wp2
      go_ret
      exact ⟨ret_b HD.out.symm, below_drewN (HBA.out _) _⟩
  · have d1 : decide (0 ≤ code) = false := decide_eq_false h1
    have HD : Hid (decide (FitsO ⟨code, a, b⟩) = false) := decide_eq_false (fun h => h1 (HF.out.1 h).1)
    go_enter Tryd.func69, Tryd.ntmps69
    go_wp2
    go_quiet ((go_at_call 86; exact Calls.quiet_of_same (HC.out _ _)))
    go_wp2
    go_ret
    exact ⟨ret_b HD.out.symm, below_drewN (HBA.out _) _⟩

end Go.Proofs.YtddhcohjmgdajaaDoor

/- Contracts of ferrymanref05: PutOp, GetOp. -/
namespace Go.Proofs.YtddhcohjmgdajaaDoor
open Go.RowKit

/-- What is put: the bytes, and no error; or what was there, and ErrArg. -/
def Putted (w : World) (l : List UInt8) (o : Opn) (e : Ending) (w' : World) : Prop :=
  ∃ v', e = .returned (.tuple #[v', .int .i64 (if FitsO o then 0 else 1)]) ∧ Own w' w.heap.size v' (if FitsO o then l ++ putOpL o else l) ∧ Below w.heap.size w w'

theorem putOf_small {l : List UInt8} {n : Int} (h0 : 0 ≤ n) (h1 : n < 4611686018427387904) : putOf l n = l ++ Lib.uvarint n.toNat := if_pos ⟨h0, h1⟩

theorem uv10 {n : Int} (h : I64 n) : (Lib.uvarint (Lib.zigzag n)).length ≤ 10 := Lib.uvarint_length64 (zig_lt h)

theorem uv10' {n : Nat} (h : n < 4611686018427387904) : (Lib.uvarint n).length ≤ 10 := Lib.uvarint_length64 (by omega)

set_option maxRecDepth 100000 in
set_option maxHeartbeats 1000000 in
theorem refPutOp_any (v : Value) (l : List UInt8) (o : Opn) (w : World) (hr : Rd w v l) (hlim : l.length ≤ 90000) :
    Calls Tryd.prog 83 #[v, opV o] w fun e w' => Putted w l o e w' := by
  have HR := hide hr
  have HF := hide (fun w => refFits_any o w)
  have HP := hide (fun v l n w h hl => refPut_any v l n w h hl)
  have HS := hide (fun v l n w h hl (hi : I64 n) => refPutSigned_any v l n w h hl hi.1 hi.2)
  have HB0 : Hid (∀ X, Below w.heap.size w (w.alloc X)) := fun X => (Below.refl _ _).alloc (Nat.le_refl _) X
  obtain ⟨code, a, b⟩ := o
  clear hr
  show Calls Tryd.prog _ #[_, .agg #[.int .i64 code, .int .i64 a, .int .i64 b]] w _
  have HF' : Hid (∀ W, Calls Tryd.prog 69 #[.agg #[.int .i64 code, .int .i64 a, .int .i64 b]] W fun e w' => e = .returned (.bool (decide (FitsO ⟨code, a, b⟩))) ∧ Below W.heap.size W w') := HF.out
  clear HF
  unfold Putted
  by_cases hf : FitsO ⟨code, a, b⟩
  · simp only [if_pos hf]
    have HT := hide (decide_eq_true hf)
    have HIA : Hid (I64 a) := (fits_i64 hf).1
    have HIB : Hid (I64 b) := (fits_i64 hf).2
    have hc0 : 0 ≤ code := hf.1
    have hc1 : code ≤ 10 := hf.2.1
    have HE : Hid (l ++ putOpL ⟨code, a, b⟩ = ((l ++ Lib.uvarint code.toNat) ++ Lib.uvarint (Lib.zigzag a)) ++ Lib.uvarint (Lib.zigzag b)) := by
      refine hide ?_
      unfold putOpL
      simp [List.append_assoc]
    have hl1 := uv10' (n := code.toNat) (by omega)
    have hl2 := uv10 HIA.out
    have HL1 : Hid ((l ++ Lib.uvarint code.toNat).length ≤ 100000) := by
      refine hide ?_
      rw [List.length_append]
      omega
    have HL2 : Hid (((l ++ Lib.uvarint code.toNat) ++ Lib.uvarint (Lib.zigzag a)).length ≤ 100000) := by
      refine hide ?_
      rw [List.length_append, List.length_append]
      omega
    have HPC : Hid (putOf l code = l ++ Lib.uvarint code.toNat) := putOf_small hc0 (by omega)
    rw [HE.out]
    clear hf hl1 hl2 HE
    generalize hA : l ++ Lib.uvarint code.toNat = A at *
    generalize hAB : A ++ Lib.uvarint (Lib.zigzag a) = AB at *
    have HAB := hide hAB
    clear hA hAB
    go_enter Tryd.func83, Tryd.ntmps83
    go_wp2_with (at_builtin; refine wpList_append_rd _ rfl _ _ rfl (w.heap.size + 1) _ [] rfl (Own.nil _ _) _ l rfl (HR.out.below (HB0.out _) (Nat.le_refl _)) (by simp; omega) (by simp) ?_)
    intro v1 W1 ho1 hb1
    have hx1 := (hb1.block w.heap.size (by omega)).trans (heap_alloc_new w _)
    have HX1 := hide hx1
    have HB1 := hide ((HB0.out _).trans (hb1.mono (by omega)))
    have HO1 := hide ho1
    have p0 := cell_of_row W1 w.heap.size 0 _ _ _ hx1
    have p1 := cell_of_row W1 w.heap.size 1 _ _ _ hx1
    have p2 := cell_of_row W1 w.heap.size 2 _ _ _ hx1
    clear ho1 hb1 hx1
    go_wp2_with fail
    refine (HF'.out _).mono ?_
    rintro e W2 ⟨rfl, hb2⟩
    rw [HT.out]
    have hx2 := (hb2.block w.heap.size (Array.getElem?_eq_some_iff.1 HX1.out).1).trans HX1.out
    have HX2 := hide hx2
    have HB2 := hide (HB1.out.trans (hb2.mono HB1.out.size))
    have HO2 := hide (HO1.out.below hb2 (Nat.le_refl _))
    have q0 := cell_of_row W2 w.heap.size 0 _ _ _ hx2
    clear hb2 hx2 HX1 HB1 HO1 p0 p1 p2
    go_wp2_with fail
    refine (HP.out _ _ _ _ HO2.out.rd (by omega)).mono ?_
    rintro e W3 ⟨v3, rfl, ho3, hb3⟩
    rw [HPC.out] at ho3
    have hx3 := (hb3.block w.heap.size (Array.getElem?_eq_some_iff.1 HX2.out).1).trans HX2.out
    have HX3 := hide hx3
    have HB3 := hide (HB2.out.trans (hb3.mono HB2.out.size))
    have HO3 := hide ho3
    have q1 := cell_of_row W3 w.heap.size 1 _ _ _ hx3
    clear ho3 hb3 hx3 HX2 HB2 HO2 q0
    go_wp2_with fail
    refine (HS.out _ _ _ _ HO3.out.rd HL1.out HIA.out).mono ?_
    rintro e W4 ⟨v4, rfl, ho4, hb4⟩
    rw [HAB.out] at ho4
    have hx4 := (hb4.block w.heap.size (Array.getElem?_eq_some_iff.1 HX3.out).1).trans HX3.out
    have HB4 := hide (HB3.out.trans (hb4.mono HB3.out.size))
    have HO4 := hide ho4
    have q2 := cell_of_row W4 w.heap.size 2 _ _ _ hx4
    clear ho4 hb4 hx4 HX3 HB3 HO3 q1
    go_wp2_with fail
    refine (HS.out _ _ _ _ HO4.out.rd HL2.out HIB.out).mono ?_
    rintro e W5 ⟨v5, rfl, ho5, hb5⟩
    have HB5 := hide (HB4.out.trans (hb5.mono HB4.out.size))
    have HO5 := hide (ho5.mono HB4.out.size)
    clear ho5 hb5
    go_wp2
    go_ret2
    exact ⟨_, rfl, HO5.out, HB5.out⟩
  · simp only [if_neg hf]
    have HT := hide (decide_eq_false hf)
    clear hf
    go_enter Tryd.func83, Tryd.ntmps83
    go_wp2_with (at_builtin; refine wpList_append_rd _ rfl _ _ rfl (w.heap.size + 1) _ [] rfl (Own.nil _ _) _ l rfl (HR.out.below (HB0.out _) (Nat.le_refl _)) (by simp; omega) (by simp) ?_)
    intro v1 W1 ho1 hb1
    have hx1 := (hb1.block w.heap.size (by omega)).trans (heap_alloc_new w _)
    have HX1 := hide hx1
    have HB1 := hide ((HB0.out _).trans (hb1.mono (by omega)))
    have HO1 := hide ho1
    have p0 := cell_of_row W1 w.heap.size 0 _ _ _ hx1
    have p1 := cell_of_row W1 w.heap.size 1 _ _ _ hx1
    have p2 := cell_of_row W1 w.heap.size 2 _ _ _ hx1
    clear ho1 hb1 hx1
    go_wp2_with fail
    refine (HF'.out _).mono ?_
    rintro e W2 ⟨rfl, hb2⟩
    rw [HT.out]
    have hx2 := (hb2.block w.heap.size (Array.getElem?_eq_some_iff.1 HX1.out).1).trans HX1.out
    have HX2 := hide hx2
    have HB2 := hide (HB1.out.trans (hb2.mono HB1.out.size))
    have HO2 := hide (HO1.out.below hb2 (Nat.le_refl _))
    clear hb2 hx2 HX1 HX2 HB1 HO1 p0 p1 p2
    go_wp2
    go_ret2
    exact ⟨_, rfl, HO2.out.mono (by omega), HB2.out⟩

theorem two_new (w : World) (X Y : Obj) : ((w.alloc X).alloc Y).heap[w.heap.size + 1]? = some Y := by
  have h := heap_alloc_new (w.alloc X) Y
  have e : (w.alloc X).heap.size = w.heap.size + 1 := by simp
  rwa [e] at h

/-- What is got: the operation and how many bytes. -/
def Gotten (w : World) (l : List UInt8) (e : Ending) (w' : World) : Prop :=
  e = .returned (.tuple #[opV (getOpL l).1, .int .i64 ((getOpL l).2 : Nat)]) ∧ Below w.heap.size w w'

end Go.Proofs.YtddhcohjmgdajaaDoor

/- Contracts of ferrymanref06: Fits, Upgrade, has. -/
namespace Go.Proofs.YtddhcohjmgdajaaDoor
open Go.RowKit

/-- A record as a value. -/
def recV (r : Rec) : Value := .agg #[.int .i64 r.idx, .int .i64 r.proc, .int .i64 r.seq, .int .i64 r.op.code, .int .i64 r.op.a, .int .i64 r.op.b, .int .i64 r.resp]

/-- A record's cells. -/
def recC (r : Rec) : Array Value := #[.int .i64 r.idx, .int .i64 r.proc, .int .i64 r.seq, .int .i64 r.op.code, .int .i64 r.op.a, .int .i64 r.op.b, .int .i64 r.resp]

def RecOk (r : Rec) : Prop := I64 r.idx ∧ I64 r.proc ∧ I64 r.seq ∧ OpOk r.op ∧ I64 r.resp

/-- A record's box. -/
def Br (w : World) (b : Nat) (cs : Array Value) : Prop := w.heap[b]? = some (.cells cs 48 (0, 0))

theorem Br.lt {w : World} {b : Nat} {cs : Array Value} (h : Br w b cs) : b < w.heap.size := (Array.getElem?_eq_some_iff.1 h).1

theorem Br.below {w w' : World} {b B : Nat} {cs : Array Value} (h : Br w b cs) (hb : Below B w w') (hB : w.heap.size ≤ B) : Br w' b cs := (hb.block b (by have := h.lt; omega)).trans h

theorem Br.cell {w : World} {b : Nat} {cs : Array Value} (h : Br w b cs) (j : Nat) : w.cell? ⟨b, j, none⟩ = cs[j]? ∧ w.frozen? ⟨b, j, none⟩ = false := ⟨cell_of_row w b j _ _ _ h, frozen_of_row w b j _ _ h⟩

set_option maxRecDepth 100000 in
set_option maxHeartbeats 1000000 in
theorem refFitsR_any (r : Rec) (w : World) :
    Calls Tryd.prog 52 #[recV r] w fun e w' => e = .returned (.bool (decide (FitsR r))) ∧ Below w.heap.size w w' := by
  obtain ⟨idx, proc, seq, ⟨code, a, b⟩, resp⟩ := r
  have HB0 : Hid (∀ X, Below w.heap.size w (w.alloc X)) := fun X => (Below.refl _ _).alloc (Nat.le_refl _) X
  have S1 : Hid (∀ X, (w.alloc X).heap.size = w.heap.size + 1) := fun X => by simp
  have X1 : Hid (∀ cs, Br (w.alloc (.cells cs 48)) w.heap.size cs) := fun cs => heap_alloc_new w _
  have HF : Hid (∀ W, Calls Tryd.prog 69 #[.agg #[.int .i64 code, .int .i64 a, .int .i64 b]] W fun e w' => e = .returned (.bool (decide (FitsO ⟨code, a, b⟩))) ∧ Below W.heap.size W w') := fun W => refFits_any ⟨code, a, b⟩ W
  show Calls Tryd.prog _ #[.agg #[.int .i64 idx, .int .i64 proc, .int .i64 seq, .int .i64 code, .int .i64 a, .int .i64 b, .int .i64 resp]] w _
  obtain ⟨G, hG⟩ : ∃ G : Bool, G = decide (FitsR ⟨idx, proc, seq, ⟨code, a, b⟩, resp⟩) := ⟨_, rfl⟩
  obtain ⟨F, hF⟩ : ∃ F : Bool, F = decide (FitsO ⟨code, a, b⟩) := ⟨_, rfl⟩
  have HD : Hid (G = true ↔ F = true ∧ 0 ≤ idx ∧ idx < 4611686018427387904 ∧ 0 ≤ seq ∧ seq < 4611686018427387904 ∧ 0 ≤ proc ∧ proc ≤ 64 ∧ -1125899906842624 ≤ resp ∧ resp ≤ 1125899906842624) := hide (by
    rw [hG, hF, decide_eq_true_iff, decide_eq_true_iff]
    exact Iff.rfl)
  rw [← hG]
  rw [← hF] at HF
  clear hG hF
  go_enter Tryd.func52, Tryd.ntmps52
  go_wp2_with fail
  refine (HF.out _).mono ?_
  rintro e W1 ⟨rfl, hb1⟩
  have HX1 := hide ((X1.out _).below hb1 (Nat.le_refl _))
  have HB1 := hide ((HB0.out _).trans (hb1.mono (by rw [S1.out]; omega)))
  clear hb1 HF X1 HB0 S1
  obtain ⟨q0, -⟩ := HX1.out.cell 0
  obtain ⟨q1, -⟩ := HX1.out.cell 1
  obtain ⟨q2, -⟩ := HX1.out.cell 2
  obtain ⟨q6, -⟩ := HX1.out.cell 6
  have HNo : Hid (¬ (F = true ∧ 0 ≤ idx ∧ idx < 4611686018427387904 ∧ 0 ≤ seq ∧ seq < 4611686018427387904 ∧ 0 ≤ proc ∧ proc ≤ 64 ∧ -1125899906842624 ≤ resp ∧ resp ≤ 1125899906842624) → false = G) := fun h => by
    cases G
    · rfl
    · exact absurd (HD.out.1 rfl) h
  cases F
  case false =>
    go_wp2
    go_ret
    exact ⟨ret_bool (HNo.out (by simp)), HB1.out⟩
  by_cases h1 : 0 ≤ idx
  case neg =>
    go_wp2
    go_ret
    exact ⟨ret_bool (HNo.out (by omega)), HB1.out⟩
  by_cases h2 : idx < 4611686018427387904
  case neg =>
    go_wp2
    go_ret
    exact ⟨ret_bool (HNo.out (by omega)), HB1.out⟩
  by_cases h3 : 0 ≤ seq
  case neg =>
    go_wp2
    go_ret
    exact ⟨ret_bool (HNo.out (by omega)), HB1.out⟩
  by_cases h4 : seq < 4611686018427387904
  case neg =>
    go_wp2
    go_ret
    exact ⟨ret_bool (HNo.out (by omega)), HB1.out⟩
  by_cases h5 : 0 ≤ proc
  case neg =>
    go_wp2
    go_ret
    exact ⟨ret_bool (HNo.out (by omega)), HB1.out⟩
  by_cases h6 : proc ≤ 64
  case neg =>
    go_wp2
    go_ret
    exact ⟨ret_bool (HNo.out (by omega)), HB1.out⟩
  by_cases h7 : -1125899906842624 ≤ resp
  case neg =>
    go_wp2
    go_ret
    exact ⟨ret_bool (HNo.out (by omega)), HB1.out⟩
  by_cases h8 : resp ≤ 1125899906842624
  case neg =>
    go_wp2
    go_ret
    exact ⟨ret_bool ((decide_eq_false (by omega)).trans (HNo.out (by omega))), HB1.out⟩
  have hy := HD.out.2 ⟨rfl, h1, h2, h3, h4, h5, h6, h7, h8⟩
  go_wp2
  go_ret
  exact ⟨ret_bool hy.symm, HB1.out⟩

set_option maxRecDepth 100000 in
set_option maxHeartbeats 1000000 in
theorem refUpgrade_any (v : Int) (r : Rec) (w : World) :
    Calls Tryd.prog 35 #[.int .i64 v, recV r] w fun e w' => e = .returned (.tuple #[recV (if 1 ≤ v ∧ v ≤ 3 then upgR v r else zeroR), .int .i64 (if 1 ≤ v ∧ v ≤ 3 then 0 else 6)]) ∧ Below w.heap.size w w' := by
  obtain ⟨idx, proc, seq, ⟨code, a, b⟩, resp⟩ := r
  show Calls Tryd.prog _ #[_, .agg #[.int .i64 idx, .int .i64 proc, .int .i64 seq, .int .i64 code, .int .i64 a, .int .i64 b, .int .i64 resp]] w _
  have HB0 : Hid (∀ X Y, Below w.heap.size w ((w.alloc X).alloc Y)) := fun X Y => ((Below.refl _ _).alloc (Nat.le_refl _) X).alloc (by simp) Y
  by_cases h1 : 1 ≤ v
  · by_cases h3 : v ≤ 3
    · rw [if_pos ⟨h1, h3⟩, if_pos ⟨h1, h3⟩]
      have hv : v = 1 ∨ v = 2 ∨ v = 3 := by omega
      clear h1 h3
      rcases hv with rfl | rfl | rfl
      all_goals
        go_enter Tryd.func35, Tryd.ntmps35
        go_wp2
        first
          | exact bodyPost_ret (v := .tuple #[.agg #[.int .i64 idx, .int .i64 proc, .int .i64 0, .int .i64 code, .int .i64 a, .int .i64 b, .int .i64 0], .int .i64 0]) (by simp [results, Tryd.results35, go_sem]) rfl ⟨rfl, HB0.out _ _⟩
          | exact bodyPost_ret (v := .tuple #[.agg #[.int .i64 idx, .int .i64 proc, .int .i64 seq, .int .i64 code, .int .i64 a, .int .i64 b, .int .i64 0], .int .i64 0]) (by simp [results, Tryd.results35, go_sem]) rfl ⟨rfl, HB0.out _ _⟩
          | exact bodyPost_ret (v := .tuple #[.agg #[.int .i64 idx, .int .i64 proc, .int .i64 seq, .int .i64 code, .int .i64 a, .int .i64 b, .int .i64 resp], .int .i64 0]) (by simp [results, Tryd.results35, go_sem]) rfl ⟨rfl, HB0.out _ _⟩
    · rw [if_neg (fun h => h3 h.2), if_neg (fun h => h3 h.2)]
      go_enter Tryd.func35, Tryd.ntmps35
      go_wp2
      refine bodyPost_ret (v := .tuple #[.agg #[.int .i64 0, .int .i64 0, .int .i64 0, .int .i64 0, .int .i64 0, .int .i64 0, .int .i64 0], .int .i64 6]) (by simp [results, Tryd.results35, go_sem]) rfl ?_
      exact ⟨rfl, HB0.out _ _⟩
  · rw [if_neg (fun h => h1 h.1), if_neg (fun h => h1 h.1)]
    go_enter Tryd.func35, Tryd.ntmps35
    go_wp2
    refine bodyPost_ret (v := .tuple #[.agg #[.int .i64 0, .int .i64 0, .int .i64 0, .int .i64 0, .int .i64 0, .int .i64 0, .int .i64 0], .int .i64 6]) (by simp [results, Tryd.results35, go_sem]) rfl ?_
    exact ⟨rfl, HB0.out _ _⟩

theorem hasB (v f : Nat) : (decide (hasV v f)) = ((f : Int) == 1 || (f : Int) == 2 || (f : Int) == 4 || ((f : Int) == 3 && decide ((2 : Int) ≤ v)) || ((f : Int) == 5 && (v : Int) == 3)) := by
  rw [Bool.eq_iff_iff]
  simp only [decide_eq_true_iff, Bool.or_eq_true, Bool.and_eq_true, beq_iff_eq]
  unfold hasV
  omega

set_option maxRecDepth 100000 in
set_option maxHeartbeats 1000000 in
theorem refHas_any (v f : Nat) (w : World) :
    Calls Tryd.prog 84 #[.int .i64 (v : Int), .int .i64 (f : Int)] w fun e w' => e = .returned (.bool (decide (hasV v f))) ∧ w' = w := by
  have HH := hide (hasB v f)
  obtain ⟨G, hG⟩ : ∃ G : Bool, G = decide (hasV v f) := ⟨_, rfl⟩
  rw [← hG]
  rw [← hG] at HH
  clear hG
  generalize (v : Int) = V at *
  generalize (f : Int) = F at *
  go_enter Tryd.func84, Tryd.ntmps84
  by_cases h1 : F = 1
  · subst h1
    have hg : G = true := HH.out
    go_wp2
    go_ret
    first | exact ⟨ret_bool hg.symm, rfl⟩ | exact ⟨rfl, rfl⟩
  by_cases h2 : F = 2
  · subst h2
    have hg : G = true := HH.out
    go_wp2
    go_ret
    first | exact ⟨ret_bool hg.symm, rfl⟩ | exact ⟨rfl, rfl⟩
  by_cases h4 : F = 4
  · subst h4
    have hg : G = true := HH.out
    go_wp2
    go_ret
    first | exact ⟨ret_bool hg.symm, rfl⟩ | exact ⟨rfl, rfl⟩
  have e1 : (F == 1) = false := beq_eq_false_iff_ne.2 h1
  have e2 : (F == 2) = false := beq_eq_false_iff_ne.2 h2
  have e4 : (F == 4) = false := beq_eq_false_iff_ne.2 h4
  by_cases h3 : F = 3
  · subst h3
    by_cases hv : 2 ≤ V
    · have hg : G = true := by rw [HH.out]; simp [hv]
      go_wp2
      go_ret
      first | exact ⟨ret_bool hg.symm, rfl⟩ | exact ⟨rfl, rfl⟩
    · have hg : G = false := by rw [HH.out]; simp [hv]
      go_wp2
      go_ret
      first | exact ⟨ret_bool hg.symm, rfl⟩ | exact ⟨rfl, rfl⟩
  have e3 : (F == 3) = false := beq_eq_false_iff_ne.2 h3
  by_cases h5 : F = 5
  · subst h5
    by_cases hv : V = 3
    · subst hv
      have hg : G = true := HH.out
      go_wp2
      go_ret
      first | exact ⟨ret_bool hg.symm, rfl⟩ | exact ⟨rfl, rfl⟩
    · have ev : (V == 3) = false := beq_eq_false_iff_ne.2 hv
      have hg : G = false := by rw [HH.out]; simp [ev]
      go_wp2
      go_ret
      first | exact ⟨ret_bool hg.symm, rfl⟩ | exact ⟨rfl, rfl⟩
  have e5 : (F == 5) = false := beq_eq_false_iff_ne.2 h5
  have hg : G = false := by rw [HH.out]; simp [e1, e2, e4, e3, e5]
  go_wp2
  go_ret
  first | exact ⟨ret_bool hg.symm, rfl⟩ | exact ⟨rfl, rfl⟩

end Go.Proofs.YtddhcohjmgdajaaDoor

/- Slices of records in memory: what one reads ('RdR'), what a call owns ('OwnR'), and append onto them. -/
namespace Go.Proofs.YtddhcohjmgdajaaDoor
open Go.RowKit

/-- A record's seven cells. -/
def RecAt (w : World) (b o : Nat) (r : Rec) : Prop :=
  w.cell? ⟨b, o, none⟩ = some (.int .i64 r.idx) ∧ w.cell? ⟨b, o + 1, none⟩ = some (.int .i64 r.proc) ∧ w.cell? ⟨b, o + 2, none⟩ = some (.int .i64 r.seq) ∧ w.cell? ⟨b, o + 3, none⟩ = some (.int .i64 r.op.code) ∧ w.cell? ⟨b, o + 4, none⟩ = some (.int .i64 r.op.a) ∧ w.cell? ⟨b, o + 5, none⟩ = some (.int .i64 r.op.b) ∧ w.cell? ⟨b, o + 6, none⟩ = some (.int .i64 r.resp)

set_option maxRecDepth 100000 in
theorem RecAt.lt {w : World} {b o : Nat} {r : Rec} (h : RecAt w b o r) : b < w.heap.size := World.block_lt_of_cell? w ⟨b, o, none⟩ h.1

set_option maxRecDepth 100000 in
theorem RecAt.keep {w w' : World} {b o : Nat} {r : Rec} (h : RecAt w b o r) (hk : w'.heap[b]? = w.heap[b]?) : RecAt w' b o r := by
  have hc : ∀ i, w'.cell? ⟨b, i, none⟩ = w.cell? ⟨b, i, none⟩ := fun i => World.cell?_of_block (a := ⟨b, i, none⟩) hk
  unfold RecAt at h ⊢
  simp only [hc]
  exact h

/-- The slice value v reads, in the world w, as the records l. -/
def RdR (w : World) (v : Value) (l : List Rec) : Prop :=
  ∃ ao cap, v = .slice ao l.length cap ∧ l.length ≤ cap ∧ cap ≤ maxLen ∧ (ao = none → cap = 0) ∧ (∀ r ∈ l, RecOk r) ∧
    (l = [] ∨ ∃ b off, ao = some ⟨b, off, none⟩ ∧ ∀ j, j < l.length → RecAt w b (off + j * 7) (l.getD j zeroR))

set_option maxRecDepth 100000 in
theorem RdR.nil (w : World) : RdR w (.slice none 0 0) [] := ⟨none, 0, rfl, Nat.le_refl _, Nat.zero_le _, fun _ => rfl, (fun r h => by simp at h), .inl rfl⟩

set_option maxRecDepth 100000 in
theorem RdR.below {w w' : World} {v : Value} {l : List Rec} (h : RdR w v l) {B : Nat} (hb : Below B w w') (hB : w.heap.size ≤ B) : RdR w' v l := by
  obtain ⟨ao, cap, h1, h2, h3, hn, hw, h4⟩ := h
  refine ⟨ao, cap, h1, h2, h3, hn, hw, ?_⟩
  rcases h4 with h4 | ⟨b, off, h5, h6⟩
  · exact .inl h4
  · refine .inr ⟨b, off, h5, fun j hj => ?_⟩
    have h7 := h6 j hj
    exact h7.keep (hb.block b (by have := h7.lt; omega))

set_option maxRecDepth 100000 in
theorem RdR.front {w : World} {ao : Option Addr} {n cap : Nat} {l : List Rec} (h : RdR w (.slice ao n cap) l) (k : Nat) (hk : k ≤ l.length) : RdR w (.slice ao k cap) (l.take k) := by
  obtain ⟨ao', cap', hv, h1, h2, h3, hw, h4⟩ := h
  simp only [Value.slice.injEq] at hv
  obtain ⟨rfl, _, rfl⟩ := hv
  have hlen : (l.take k).length = k := by simp; omega
  refine ⟨ao, cap, by rw [hlen], by omega, h2, h3, fun r hr => hw r (List.mem_of_mem_take hr), ?_⟩
  rcases h4 with h4 | ⟨b, off, h5, h6⟩
  · exact .inl (by rw [h4]; simp)
  · refine .inr ⟨b, off, h5, fun j hj => ?_⟩
    have hj2 : j < k := by omega
    have e : (l.take k).getD j zeroR = l.getD j zeroR := by simp [List.getD, hj2]
    rw [e]
    exact h6 j (by omega)

/-- The cells of records. -/
def recCells : List Rec → List Value
  | [] => []
  | r :: t => (recC r).toList ++ recCells t

set_option maxRecDepth 100000 in
theorem recCells_length : ∀ l : List Rec, (recCells l).length = l.length * 7
  | [] => rfl
  | r :: t => by
    rw [recCells, List.length_append, recCells_length t, List.length_cons]
    simp [recC]
    omega

set_option maxRecDepth 100000 in
theorem recCells_app : ∀ a b : List Rec, recCells (a ++ b) = recCells a ++ recCells b
  | [], _ => rfl
  | r :: t, b => by rw [List.cons_append, recCells, recCells_app t b, recCells, List.append_assoc]

set_option maxRecDepth 100000 in
theorem recCells_get : ∀ (l : List Rec) (j k : Nat), j < l.length → k < 7 → (recCells l)[j * 7 + k]? = (recC (l.getD j zeroR))[k]?
  | r :: t, 0, k, _, hk => by
    rw [recCells, Nat.zero_mul, Nat.zero_add, List.getElem?_append_left (by simp [recC]; omega)]
    simp [List.getD]
  | r :: t, j + 1, k, hj, hk => by
    have e : (j + 1) * 7 + k = (recC r).toList.length + (j * 7 + k) := by simp [recC]; omega
    rw [recCells, e, List.getElem?_append_right (by omega), Nat.add_sub_cancel_left, recCells_get t j k (by simpa using hj) hk]
    simp [List.getD]

set_option maxRecDepth 100000 in
theorem recCells_one (l : List Rec) : ∀ u ∈ recCells l, u.oneCell' = true := by
  induction l with
  | nil => intro u hu; simp [recCells] at hu
  | cons r t ih =>
    intro u hu
    rw [recCells] at hu
    rcases List.mem_append.1 hu with h | h
    · simp [recC] at h
      rcases h with rfl | rfl | rfl | rfl | rfl | rfl | rfl <;> rfl
    · exact ih u h

/-- The slice value v lies at the head of a row of its own, from block B on, that holds the records l. -/
def OwnR (w : World) (B : Nat) (v : Value) (l : List Rec) : Prop := w.ownsRow B 48 7 v l.length (recCells l)

set_option maxRecDepth 100000 in
theorem OwnR.nil (w : World) (B : Nat) : OwnR w B (.slice none 0 0) [] := World.ownsRow_nil w B 48 7

set_option maxRecDepth 100000 in
theorem OwnR.rd {w : World} {B : Nat} {v : Value} {l : List Rec} (h : OwnR w B v l) (hw : ∀ r ∈ l, RecOk r) : RdR w v l := by
  rcases h.2 with ⟨hv, hn⟩ | ⟨g, cap, cur, hv, hb, hg, hnc, hcm, hcs, htake⟩
  · exact ⟨none, 0, by rw [hv, hn], by omega, Nat.zero_le _, fun _ => rfl, hw, .inl (List.eq_nil_of_length_eq_zero hn)⟩
  · refine ⟨some ⟨g, 0, none⟩, cap, hv, hnc, hcm, (fun e => by cases e), hw, .inr ⟨g, 0, rfl, fun j hj => ?_⟩⟩
    have hc : ∀ k u, k < 7 → (recC (l.getD j zeroR))[k]? = some u → w.cell? ⟨g, 0 + j * 7 + k, none⟩ = some u := fun k u hk hu => by
      have := World.ownsRow.cells h (g := g) (by rw [hv]; rfl) (j * 7 + k) u ((recCells_get l j k hj hk).trans hu)
      rw [Addr.add_lit] at this
      rw [Nat.add_assoc]
      exact this
    exact ⟨hc 0 _ (by decide) rfl, hc 1 _ (by decide) rfl, hc 2 _ (by decide) rfl, hc 3 _ (by decide) rfl, hc 4 _ (by decide) rfl, hc 5 _ (by decide) rfl, hc 6 _ (by decide) rfl⟩

set_option maxRecDepth 100000 in
theorem OwnR.below {w w' : World} {B B' : Nat} {v : Value} {l : List Rec} (h : OwnR w B v l) (hb : Below B' w w') (hB : w.heap.size ≤ B') : OwnR w' B v l := by
  obtain ⟨h1, h2⟩ := h
  refine ⟨h1, ?_⟩
  rcases h2 with h2 | ⟨g, cap, cur, hv, hbg, hg, r⟩
  · exact .inl h2
  · have hlt : g < w.heap.size := (Array.getElem?_eq_some_iff.1 hg).1
    exact .inr ⟨g, cap, cur, hv, hbg, by rw [hb.block g (by omega)]; exact hg, r⟩

set_option maxRecDepth 100000 in
theorem OwnR.mono {w : World} {B B' : Nat} {v : Value} {l : List Rec} (h : OwnR w B v l) (hB : B' ≤ B) : OwnR w B' v l := by
  obtain ⟨h1, h2⟩ := h
  refine ⟨h1, ?_⟩
  rcases h2 with h2 | ⟨g, cap, cur, hv, hb, r⟩
  · exact .inl h2
  · exact .inr ⟨g, cap, cur, hv, by omega, r⟩

set_option maxRecDepth 100000 in
theorem OwnR.shape {w : World} {B : Nat} {v : Value} {l : List Rec} (h : OwnR w B v l) : ∃ ao cap, v = .slice ao l.length cap := by
  rcases h.2 with ⟨hv, hn⟩ | ⟨g, cap, cur, hv, _⟩
  · exact ⟨none, 0, by rw [hv, hn]⟩
  · exact ⟨_, _, hv⟩

set_option maxRecDepth 100000 in
theorem info_rec : (Tryd.prog.info? 48).map (fun i => (i.zero, i.size, i.bytes)) = some (some (.agg #[.int .i64 0, .int .i64 0, .int .i64 0, .int .i64 0, .int .i64 0, .int .i64 0, .int .i64 0]), 7, 56) := by kernel_rfl

set_option maxRecDepth 100000 in
/-- One more record behind a row of one's own. -/
theorem run_append_rec (w : World) (ty : TypeId) (B : Nat) (v : Value) (l : List Rec) (h : OwnR w B v l) (r : Rec) (hlim : l.length ≤ 1000000) (hbase : B ≤ w.heap.size) :
    ∃ v' w', (Builtin.append_ #[22, 22] ty #[v, .slice (some ⟨w.heap.size, 0, none⟩) 1 1]).run Tryd.prog (w.alloc (.cells (recC r) 48)) = .ok v' w' ∧ OwnR w' B v' (l ++ [r]) ∧ Below B w w' := by
  obtain ⟨i0, hi, hz0, hz1, hz2⟩ := info_parts info_rec
  obtain ⟨v', w', hrun, ho, hg, _⟩ := run_append_own (P := Tryd.prog) (w.alloc (.cells (recC r) 48)) B 22 ty 48 i0 _ 7 56 Tryd.underlying22 hi hz0 hz1 hz2 rfl (by decide) v l.length (recCells l) (h.alloc _)
    ⟨w.heap.size, 0, none⟩ 1 1 (recCells [r]) (recCells_length [r]) (fun j u hj => by
      rw [Addr.add_lit, Nat.zero_add, cell_of_row _ w.heap.size j _ 48 (0, 0) (heap_alloc_new w _)]
      simpa [recCells] using hj) (recCells_one [r]) (by unfold maxLen; omega) (by omega) (by simp; omega)
  refine ⟨v', w', hrun, ?_, ?_⟩
  · unfold OwnR
    rw [List.length_append, recCells_app]
    exact ho
  · exact ((Below.refl _ _).alloc hbase _).grown hg (by simp; omega) (fun k hk => (World.ownsRow.lt h k hk).1)

set_option maxRecDepth 100000 in
theorem wpList_append_rec (w : World) {ops : Array Oper} {rest : List Oper} {o : Oper} {a : Act} {Q : Exit → Act → World → Prop} (hgd : o.guard = none) (s x : Operand)
    (ho : o.op = .call { callee := .builtin .append, args := #[s, x], argTypes := #[22, 22] })
    (B : Nat) (v : Value) (l : List Rec) (hs : a.eval s = v) (hown : OwnR w B v l) (r : Rec) (hx : a.eval x = .slice (some ⟨w.heap.size, 0, none⟩) 1 1)
    (hlim : l.length ≤ 1000000) (hbase : B ≤ w.heap.size)
    (h : ∀ v' w', OwnR w' B v' (l ++ [r]) → Below B w w' → wpList Tryd.prog ops Q rest (a.put o.dst v') w') : wpList Tryd.prog ops Q (o :: rest) a (w.alloc (.cells (recC r) 48)) :=
  wpList_plain hgd fun _ hK => by
    obtain ⟨v', w', hrun, h2, h3⟩ := run_append_rec w o.type B v l hown r hlim hbase
    unfold Oper.wp execOp
    simp only [ho, resolve, invoke, builtin, Sem.run_bind, Sem.run_pure, Result.andThen_ok, List.map_toArray, List.map_cons, List.map_nil, hs, hx, hrun]
    exact hK _ _ (h v' w' h2 h3)

set_option maxRecDepth 100000 in
theorem elem_recs : Tryd.prog.elem 22 = 48 := by kernel_rfl

set_option maxRecDepth 100000 in
theorem under_recs : Tryd.prog.underlying 22 = some (.slice (Tryd.prog.elem 22)) := by rw [elem_recs]; exact Tryd.underlying22

set_option maxRecDepth 100000 in
theorem size_rec (w : World) : (sizeOf 48).run Tryd.prog w = .ok 7 w := by
  obtain ⟨i0, hi, _, hz1, _⟩ := info_parts info_rec
  simp [sizeOf, typeInfo, hi, hz1]

set_option maxRecDepth 100000 in
/-- The first records of a slice. -/
theorem run_front_recs (W : World) (ao : Option Addr) (n cap : Nat) (i : Int) (k : Nat) (hi : i = (k : Int)) (hk : k ≤ cap) :
    (Instr.sliceAt 22 (.slice ao n cap) none (some (.int .i64 i)) none).run Tryd.prog W = .ok (.slice ao k cap) W := by
  subst hi
  rw [run_sliceAt_slice W 22 _ _ _ _ under_recs, run_slice_h W 22 ao n cap under_recs .i64 (k : Int) (by omega) (by omega), elem_recs, size_rec]
  have e : sliced ao 0 k cap 7 = .slice ao k cap := by
    unfold sliced
    cases ao <;> simp [Addr.add]
  simp [e]

end Go.Proofs.YtddhcohjmgdajaaDoor

/- Plain mathematics of layer crc: one bit of the register, the sum of bytes as that bit's step repeated, and what follows. No program is named here. -/
namespace Go.Proofs.YtddhcohjmgdajaaDoor

/-- One bit: half of it, exclusive or the polynomial, if it was odd. -/
def tick (x : Nat) : Nat := if x % 2 = 1 then x / 2 ^^^ 2197175160 else x / 2

/-- So many bits. -/
def ticks : Nat → Nat → Nat
  | 0, x => x
  | n + 1, x => ticks n (tick x)

/-- The table's entry. -/
def entry (c : Nat) : Nat := ticks 8 c

/-- One byte of a sum. -/
def crcByte (x c : Nat) : Nat := entry ((x ^^^ c) % 256) ^^^ x / 256

/-- The register behind bytes. -/
def crcReg : Nat → List UInt8 → Nat
  | x, [] => x
  | x, c :: r => crcReg (crcByte x c.toNat) r

/-- What More answers. -/
def crcMore (sum : Nat) (l : List UInt8) : Nat := crcReg (sum ^^^ 4294967295) l ^^^ 4294967295

theorem xor_mod2 (a b : Nat) : (a ^^^ b) % 2 = (a % 2 + b % 2) % 2 := by
  have h := @Nat.xor_mod_two_pow a b 1
  simp only [Nat.pow_one] at h
  rw [h]
  rcases Nat.mod_two_eq_zero_or_one a with ha | ha <;> rcases Nat.mod_two_eq_zero_or_one b with hb | hb <;> rw [ha, hb] <;> rfl

theorem xor_div2 (a b : Nat) : (a ^^^ b) / 2 = a / 2 ^^^ b / 2 := by
  have h := @Nat.shiftRight_xor_distrib 1 a b
  simpa [Nat.shiftRight_eq_div_pow] using h

theorem xor_cancel4 (a b p : Nat) : (a ^^^ p) ^^^ (b ^^^ p) = a ^^^ b := by
  rw [Nat.xor_comm b p, ← Nat.xor_assoc, Nat.xor_assoc a p p, Nat.xor_self, Nat.xor_zero]

theorem tick_xor (a b : Nat) : tick (a ^^^ b) = tick a ^^^ tick b := by
  unfold tick
  rw [xor_mod2, xor_div2]
  rcases Nat.mod_two_eq_zero_or_one a with ha | ha <;> rcases Nat.mod_two_eq_zero_or_one b with hb | hb <;> simp only [ha, hb]
  · rfl
  · simp [Nat.xor_assoc]
  · simp only [if_true, if_false, Nat.zero_ne_one]
    rw [Nat.xor_assoc, Nat.xor_assoc, Nat.xor_comm (b / 2)]
  · simp [xor_cancel4]

theorem ticks_xor : ∀ (n a b : Nat), ticks n (a ^^^ b) = ticks n a ^^^ ticks n b
  | 0, _, _ => rfl
  | n + 1, a, b => by
    simp only [ticks]
    rw [tick_xor, ticks_xor n]

theorem ticks_add : ∀ (m n x : Nat), ticks (m + n) x = ticks n (ticks m x)
  | 0, n, x => by rw [Nat.zero_add]; rfl
  | m + 1, n, x => by
    rw [Nat.add_right_comm]
    simp only [ticks]
    exact ticks_add m n (tick x)

theorem tick_even (x : Nat) : tick (2 * x) = x := by
  unfold tick
  rw [if_neg (by omega)]
  omega

theorem ticks_pow : ∀ (n x : Nat), ticks n (2 ^ n * x) = x
  | 0, x => by simp [ticks]
  | n + 1, x => by
    simp only [ticks]
    rw [Nat.pow_succ, Nat.mul_comm (2 ^ n) 2, Nat.mul_assoc, tick_even]
    exact ticks_pow n x

theorem tick_lt {n x : Nat} (hn : 32 ≤ n) (h : x < 2 ^ n) : tick x < 2 ^ n := by
  unfold tick
  have h2 : x / 2 < 2 ^ n := by omega
  split
  · refine Nat.xor_lt_two_pow h2 (Nat.lt_of_lt_of_le (by decide : 2197175160 < 2 ^ 32) (Nat.pow_le_pow_right (by decide) hn))
  · exact h2

theorem ticks_lt : ∀ (k : Nat) {n x : Nat}, 32 ≤ n → x < 2 ^ n → ticks k x < 2 ^ n
  | 0, _, _, _, h => h
  | k + 1, _, _, hn, h => ticks_lt k hn (tick_lt hn h)

theorem xor_zero_eq {a b : Nat} (h : a ^^^ b = 0) : a = b := by
  have e : (a ^^^ b) ^^^ b = 0 ^^^ b := by rw [h]
  rwa [Nat.xor_assoc, Nat.xor_self, Nat.xor_zero, Nat.zero_xor] at e

theorem xor_right {a b c : Nat} (h : a ^^^ c = b ^^^ c) : a = b := by
  have e : (a ^^^ c) ^^^ c = (b ^^^ c) ^^^ c := by rw [h]
  rwa [Nat.xor_assoc, Nat.xor_self, Nat.xor_zero, Nat.xor_assoc, Nat.xor_self, Nat.xor_zero] at e

theorem tick_zero {x : Nat} (hx : x < 4294967296) (h : tick x = 0) : x = 0 := by
  unfold tick at h
  split at h
  · have := xor_zero_eq h
    omega
  · omega

theorem ticks_zero : ∀ (k : Nat) {x : Nat}, x < 4294967296 → ticks k x = 0 → x = 0
  | 0, _, _, h => h
  | k + 1, x, hx, h => tick_zero hx (ticks_zero k (by have := tick_lt (n := 32) (Nat.le_refl _) (by omega : x < 2 ^ 32); omega) h)

theorem ticks_inj (k : Nat) {a b : Nat} (ha : a < 4294967296) (hb : b < 4294967296) (h : ticks k a = ticks k b) : a = b := by
  apply xor_zero_eq
  have hlt : a ^^^ b < 2 ^ 32 := Nat.xor_lt_two_pow (by omega) (by omega)
  apply ticks_zero k (by omega)
  rw [ticks_xor, h, Nat.xor_self]

/-- A number is its low bits, exclusive or what is above them. -/
theorem low_high (z n : Nat) : z = z % 2 ^ n ^^^ 2 ^ n * (z / 2 ^ n) := by
  apply Nat.eq_of_testBit_eq
  intro i
  rw [Nat.testBit_xor, Nat.testBit_mod_two_pow, Nat.testBit_two_pow_mul]
  by_cases h : i < n
  · have h2 : ¬ n ≤ i := by omega
    simp [h, h2]
  · have h2 : n ≤ i := by omega
    simp only [h, h2, decide_false, decide_true, Bool.false_and, Bool.true_and, Bool.false_xor, Nat.testBit_div_two_pow]
    rw [Nat.sub_add_cancel h2]

theorem crcByte_ticks (x c : Nat) (hc : c < 256) : crcByte x c = ticks 8 (x ^^^ c) := by
  have e : (x ^^^ c) / 256 = x / 256 := by
    have h := @Nat.shiftRight_xor_distrib 8 x c
    simp only [Nat.shiftRight_eq_div_pow] at h
    have h0 : c / 2 ^ 8 = 0 := by omega
    rw [h0, Nat.xor_zero] at h
    exact h
  have h := low_high (x ^^^ c) 8
  unfold crcByte entry
  conv => rhs; rw [h]
  rw [ticks_xor, ticks_pow]
  show _ = ticks 8 ((x ^^^ c) % 256) ^^^ (x ^^^ c) / 256
  rw [e]

theorem leNat_cons_xor (c : UInt8) (r : List UInt8) : Lib.leNat (c :: r) = c.toNat ^^^ 2 ^ 8 * Lib.leNat r := by
  have hc := c.toNat_lt
  have h := low_high (Lib.leNat (c :: r)) 8
  have e1 : Lib.leNat (c :: r) % 2 ^ 8 = c.toNat := by simp only [Lib.leNat]; omega
  have e2 : Lib.leNat (c :: r) / 2 ^ 8 = Lib.leNat r := by simp only [Lib.leNat]; omega
  rw [e1, e2] at h
  exact h

/-- The register behind bytes is that bit's step, eight times a byte, of the register and the bytes' number. -/
theorem crcReg_ticks : ∀ (l : List UInt8) (x : Nat), crcReg x l = ticks (8 * l.length) (x ^^^ Lib.leNat l)
  | [], x => by simp [crcReg, Lib.leNat, ticks]
  | c :: r, x => by
    have hc := c.toNat_lt
    rw [crcReg, crcReg_ticks r, crcByte_ticks x c.toNat (by omega), leNat_cons_xor, ← Nat.xor_assoc]
    have e : 8 * (c :: r).length = 8 + 8 * r.length := by simp; omega
    rw [e, ticks_add, ticks_xor 8 (x ^^^ c.toNat) (2 ^ 8 * Lib.leNat r), ticks_pow]

theorem crcReg_append : ∀ (a b : List UInt8) (x : Nat), crcReg x (a ++ b) = crcReg (crcReg x a) b
  | [], _, _ => rfl
  | c :: r, b, x => by
    rw [List.cons_append, crcReg, crcReg]
    exact crcReg_append r b _

theorem crcByte_lt {x c : Nat} (hx : x < 4294967296) (hc : c < 256) : crcByte x c < 4294967296 := by
  rw [crcByte_ticks x c hc]
  have h : x ^^^ c < 2 ^ 32 := Nat.xor_lt_two_pow (by omega) (by omega)
  have := ticks_lt 8 (Nat.le_refl 32) h
  omega

theorem crcReg_lt : ∀ (l : List UInt8) {x : Nat}, x < 4294967296 → crcReg x l < 4294967296
  | [], _, h => h
  | c :: r, x, h => crcReg_lt r (crcByte_lt h (by have := c.toNat_lt; omega))

theorem not_not (x : Nat) : (x ^^^ 4294967295) ^^^ 4294967295 = x := by rw [Nat.xor_assoc, Nat.xor_self, Nat.xor_zero]

theorem not_lt {x : Nat} (h : x < 4294967296) : x ^^^ 4294967295 < 4294967296 := by
  have := Nat.xor_lt_two_pow (n := 32) (by omega : x < 2 ^ 32) (by decide : 4294967295 < 2 ^ 32)
  omega

theorem not_inj {a b : Nat} (h : a ^^^ 4294967295 = b ^^^ 4294967295) : a = b := by
  rw [← not_not a, h, not_not]

theorem crcMore_lt {sum : Nat} (l : List UInt8) (h : sum < 4294967296) : crcMore sum l < 4294967296 := not_lt (crcReg_lt l (not_lt h))

theorem crcMore_append (sum : Nat) (a b : List UInt8) : crcMore sum (a ++ b) = crcMore (crcMore sum a) b := by
  unfold crcMore
  rw [crcReg_append, not_not]

theorem crcMore_nil (sum : Nat) : crcMore sum [] = sum := not_not sum

/-- Two sums that are not the same go on to two sums. -/
theorem crcMore_seeds {a b : Nat} (l : List UInt8) (ha : a < 4294967296) (hb : b < 4294967296) : crcMore a l = crcMore b l ↔ a = b := by
  constructor
  · intro h
    have h2 := not_inj h
    rw [crcReg_ticks, crcReg_ticks, ticks_xor _ (a ^^^ 4294967295), ticks_xor _ (b ^^^ 4294967295)] at h2
    exact not_inj (ticks_inj _ (not_lt ha) (not_lt hb) (xor_right h2))
  · intro h
    rw [h]

/-- Of two texts of one length: their sums' difference is that of their numbers. -/
theorem crcMore_diff (sum : Nat) (a b : List UInt8) (h : a.length = b.length) : crcMore sum a ^^^ crcMore sum b = ticks (8 * a.length) (Lib.leNat a ^^^ Lib.leNat b) := by
  unfold crcMore
  rw [xor_cancel4, crcReg_ticks, crcReg_ticks, ← h, ← ticks_xor, Nat.xor_comm _ (Lib.leNat a), Nat.xor_comm _ (Lib.leNat b), xor_cancel4]

/-- Whether the low n bits are an odd number of ones. -/
def odds : Nat → Nat → Bool
  | 0, _ => false
  | n + 1, x => (decide (x % 2 = 1)) ^^ odds n (x / 2)

theorem odds_xor : ∀ (n a b : Nat), odds n (a ^^^ b) = (odds n a ^^ odds n b)
  | 0, _, _ => rfl
  | n + 1, a, b => by
    simp only [odds]
    rw [xor_mod2, xor_div2, odds_xor n]
    have e : decide ((a % 2 + b % 2) % 2 = 1) = (decide (a % 2 = 1) ^^ decide (b % 2 = 1)) := by
      rcases Nat.mod_two_eq_zero_or_one a with ha | ha <;> rcases Nat.mod_two_eq_zero_or_one b with hb | hb <;> simp [ha, hb]
    rw [e]
    cases decide (a % 2 = 1) <;> cases decide (b % 2 = 1) <;> cases odds n (a / 2) <;> cases odds n (b / 2) <;> rfl

theorem odds_zero : ∀ n : Nat, odds n 0 = false
  | 0 => rfl
  | n + 1 => by simp [odds, odds_zero n]

/-- Bits beyond the number count nothing. -/
theorem odds_more : ∀ (n x : Nat), x < 2 ^ n → odds (n + 1) x = odds n x
  | 0, x, h => by
    have e : x = 0 := by simpa using h
    subst e
    rfl
  | n + 1, x, h => by
    rw [odds, odds_more n (x / 2) (by rw [Nat.pow_succ] at h; omega)]
    rfl

theorem odds_poly : ∀ n : Nat, odds (n + 32) 2197175160 = true
  | 0 => by decide
  | n + 1 => by
    have h : 2197175160 < 2 ^ (n + 32) := Nat.lt_of_lt_of_le (by decide : 2197175160 < 2 ^ 32) (Nat.pow_le_pow_right (by decide) (by omega))
    have e : n + 1 + 32 = n + 32 + 1 := by omega
    rw [e, odds_more _ _ h]
    exact odds_poly n

theorem odds_tick (n x : Nat) (h : x < 2 ^ (n + 32)) : odds (n + 32) (tick x) = odds (n + 32) x := by
  have e : odds (n + 32) x = (decide (x % 2 = 1) ^^ odds (n + 32) (x / 2)) := (odds_more (n + 32) x h).symm
  rw [e]
  generalize hm : n + 32 = m
  have hp : odds m 2197175160 = true := by rw [← hm]; exact odds_poly n
  unfold tick
  by_cases hx : x % 2 = 1
  · rw [if_pos hx, odds_xor, hp]
    simp [hx]
  · rw [if_neg hx]
    simp [hx]

theorem odds_ticks : ∀ (k n x : Nat), x < 2 ^ (n + 32) → odds (n + 32) (ticks k x) = odds (n + 32) x
  | 0, _, _, _ => rfl
  | k + 1, n, x, h => by
    rw [ticks, odds_ticks k n (tick x) (tick_lt (by omega) h), odds_tick n x h]

theorem odds_pow : ∀ (n k : Nat), k < n → odds n (2 ^ k) = true
  | 0, _, h => by omega
  | n + 1, 0, _ => by
    have e : (2 ^ 0) / 2 = 0 := by decide
    rw [odds, e, odds_zero]
    decide
  | n + 1, k + 1, h => by
    have e1 : 2 ^ (k + 1) % 2 = 0 := by rw [Nat.pow_succ]; omega
    have e2 : 2 ^ (k + 1) / 2 = 2 ^ k := by rw [Nat.pow_succ]; omega
    rw [odds, e1, e2, odds_pow n k (by omega)]
    rfl

/-- A difference of an odd number of bits is seen. -/
theorem odd_seen (n k x : Nat) (h : x < 2 ^ (n + 32)) (ho : odds (n + 32) x = true) : ticks k x ≠ 0 := by
  intro e
  have h2 := odds_ticks k n x h
  rw [e, odds_zero, ho] at h2
  cases h2

/-- A difference within 32 bits in a row is seen. -/
theorem burst_seen (k at' x : Nat) (h0 : x ≠ 0) (hx : x < 4294967296) : ticks (at' + k) (2 ^ at' * x) ≠ 0 := by
  rw [ticks_add, ticks_pow]
  exact fun e => h0 (ticks_zero k hx e)

theorem leNat_lt256 : ∀ l : List UInt8, Lib.leNat l < 2 ^ (8 * l.length)
  | [] => by simp [Lib.leNat]
  | c :: r => by
    have h := leNat_lt256 r
    have hc := c.toNat_lt
    have e : 8 * (c :: r).length = 8 * r.length + 8 := by simp; omega
    simp only [Lib.leNat]
    rw [e, Nat.pow_add]
    omega

/-- Turning bits of one byte turns bits of the number. -/
theorem leNat_set : ∀ (l : List UInt8) (i : Nat) (y : UInt8), i < l.length → Lib.leNat (l.set i (l.getD i 0 ^^^ y)) = Lib.leNat l ^^^ 2 ^ (8 * i) * y.toNat
  | c :: r, 0, y, _ => by
    have e : (c :: r).set 0 ((c :: r).getD 0 0 ^^^ y) = (c ^^^ y) :: r := by simp
    rw [e, leNat_cons_xor, leNat_cons_xor, UInt8.toNat_xor, Nat.xor_assoc, Nat.xor_assoc, Nat.xor_comm y.toNat]
    simp
  | c :: r, i + 1, y, h => by
    have e : (c :: r).set (i + 1) ((c :: r).getD (i + 1) 0 ^^^ y) = c :: r.set i (r.getD i 0 ^^^ y) := by simp
    rw [e, leNat_cons_xor, leNat_cons_xor, leNat_set r i y (by simpa using h)]
    have e2 : 2 ^ (8 * (i + 1)) * y.toNat = 2 ^ 8 * (2 ^ (8 * i) * y.toNat) := by rw [Nat.mul_add, Nat.pow_add, Nat.mul_one, Nat.mul_comm (2 ^ (8 * i)), Nat.mul_assoc]
    rw [e2, Nat.xor_assoc]
    congr 1
    apply Nat.eq_of_testBit_eq
    intro j
    simp only [Nat.testBit_xor, Nat.testBit_two_pow_mul]
    cases decide (8 ≤ j) <;> simp

end Go.Proofs.YtddhcohjmgdajaaDoor

/- Frames: the mathematics of layer frame. -/
namespace Go.Proofs.YtddhcohjmgdajaaDoor

/-- The length and the data. -/
def headOf (l : List UInt8) : List UInt8 := Lib.uvarint l.length ++ l

/-- The frame of data. -/
def frameOf (l : List UInt8) : List UInt8 := headOf l ++ Lib.leBytes 4 (crcMore 0 (headOf l))

/-- Bytes that may be the beginning of a length. -/
def isOpen (l : List UInt8) : Prop := l.length < 10 ∧ ∀ j, j < l.length → 128 ≤ (l.getD j 0).toNat

instance (l : List UInt8) : Decidable (isOpen l) := by unfold isOpen; infer_instance

/-- What Decode answers: the data, how many bytes the frame has, the error. -/
def decF (l : List UInt8) : List UInt8 × Nat × Nat :=
  if isOpen l then ([], 0, 2) else
  if (dec62 l).2 = 0 then ([], 0, 3) else
  if 1048576 < (dec62 l).1 then ([], 0, 5) else
  if l.length < (dec62 l).2 + 4 + (dec62 l).1 then ([], 0, 2) else
  if Lib.leNat ((l.drop ((dec62 l).2 + (dec62 l).1)).take 4) ≠ crcMore 0 (l.take ((dec62 l).2 + (dec62 l).1)) then ([], 0, 4) else
  ((l.drop (dec62 l).2).take (dec62 l).1, (dec62 l).2 + 4 + (dec62 l).1, 0)

theorem crc_lt (l : List UInt8) : crcMore 0 l < 4294967296 := crcMore_lt l (by decide)

theorem frameOf_length (l : List UInt8) : (frameOf l).length = (Lib.uvarint l.length).length + l.length + 4 := by
  simp [frameOf, headOf, Lib.leBytes_length]
  omega

theorem len3 {n : Nat} (h : n ≤ 1048576) : (Lib.uvarint n).length ≤ 3 := Lib.uvarint_length 2 n (Nat.lt_of_le_of_lt h (by decide))

theorem open_dec {l : List UInt8} (h : isOpen l) : dec62 l = (0, 0) := by
  have e : dec64 l = (0, 0) := by
    unfold dec64
    rw [dec_miss 10 l (fun j _ hj => h.2 j hj)]
  unfold dec62
  rw [e]
  rfl

theorem dec62_head (x t : List UInt8) (h : x.length ≤ 1048576) : dec62 (Lib.uvarint x.length ++ t) = (x.length, (Lib.uvarint x.length).length) := dec62_uvarint _ _ (by omega)

theorem leBytes_leNat : ∀ (l : List UInt8), Lib.leBytes l.length (Lib.leNat l) = l
  | [] => rfl
  | c :: r => by
    have ih := leBytes_leNat r
    have hc := c.toNat_lt
    have e1 : (c.toNat + 256 * Lib.leNat r) % 256 = c.toNat := by omega
    have e2 : (c.toNat + 256 * Lib.leNat r) / 256 = Lib.leNat r := by omega
    simp only [List.length_cons, Lib.leNat, Lib.leBytes, e1, e2, ih]
    simp

/-- What was encoded is decoded, whatever stands behind it. -/
theorem decF_frame (x t : List UInt8) (h : x.length ≤ 1048576) : decF (frameOf x ++ t) = (x, (frameOf x).length, 0) := by
  have hd : dec62 (frameOf x ++ t) = (x.length, (Lib.uvarint x.length).length) := by
    have e : frameOf x ++ t = Lib.uvarint x.length ++ (x ++ Lib.leBytes 4 (crcMore 0 (headOf x)) ++ t) := by simp [frameOf, headOf]
    rw [e]
    exact dec62_head x _ h
  have hp := Lib.uvarint_pos x.length
  have ho : ¬ isOpen (frameOf x ++ t) := fun ho => by
    have := open_dec ho
    rw [hd, Prod.mk.injEq] at this
    omega
  have hl : (frameOf x ++ t).length = (Lib.uvarint x.length).length + x.length + 4 + t.length := by rw [List.length_append, frameOf_length]
  have hh : (headOf x).length = (Lib.uvarint x.length).length + x.length := by simp [headOf]
  have e1 : (frameOf x ++ t).take ((Lib.uvarint x.length).length + x.length) = headOf x := by
    rw [← hh, frameOf, List.append_assoc, List.take_left]
  have e2 : ((frameOf x ++ t).drop ((Lib.uvarint x.length).length + x.length)).take 4 = Lib.leBytes 4 (crcMore 0 (headOf x)) := by
    rw [← hh, frameOf, List.append_assoc, List.drop_left, List.take_append_of_le_length (by rw [Lib.leBytes_length]; exact Nat.le_refl _), List.take_of_length_le (by rw [Lib.leBytes_length]; exact Nat.le_refl _)]
  have e3 : ((frameOf x ++ t).drop (Lib.uvarint x.length).length).take x.length = x := by
    have e : frameOf x ++ t = Lib.uvarint x.length ++ (x ++ (Lib.leBytes 4 (crcMore 0 (headOf x)) ++ t)) := by simp [frameOf, headOf]
    rw [e, List.drop_left, List.take_left]
  unfold decF
  rw [if_neg ho]
  simp only [hd]
  rw [if_neg (by omega), if_neg (by omega), if_neg (by omega), if_neg (by rw [e1, e2, Lib.leNat_leBytes 4 _ (crc_lt _)]; simp), e3, frameOf_length]
  congr 2
  omega

/-- What is decoded is of a frame. -/
theorem decF_ok {l : List UInt8} (h : (decF l).2.2 = 0) :
    (decF l).1.length ≤ 1048576 ∧ (decF l).2.1 = (frameOf (decF l).1).length ∧ (decF l).2.1 ≤ l.length ∧ l.take (decF l).2.1 = frameOf (decF l).1 := by
  unfold decF at h ⊢
  by_cases c1 : isOpen l
  · rw [if_pos c1] at h; simp at h
  rw [if_neg c1] at h ⊢
  by_cases c2 : (dec62 l).2 = 0
  · rw [if_pos c2] at h; simp at h
  rw [if_neg c2] at h ⊢
  by_cases c3 : 1048576 < (dec62 l).1
  · rw [if_pos c3] at h; simp at h
  rw [if_neg c3] at h ⊢
  by_cases c4 : l.length < (dec62 l).2 + 4 + (dec62 l).1
  · rw [if_pos c4] at h; simp at h
  rw [if_neg c4] at h ⊢
  by_cases c5 : Lib.leNat ((l.drop ((dec62 l).2 + (dec62 l).1)).take 4) ≠ crcMore 0 (l.take ((dec62 l).2 + (dec62 l).1))
  · rw [if_pos c5] at h; simp at h
  rw [if_neg c5]
  clear h
  rcases dec62_cases l with hc | ⟨h1, h2, h3, h4⟩
  · rw [hc] at c2; simp at c2
  generalize (dec62 l).1 = n at *
  generalize (dec62 l).2 = k at *
  have hx : ((l.drop k).take n).length = n := by simp; omega
  have hk : (Lib.uvarint n).length = k := by rw [← h4]; simp; omega
  have hhead : headOf ((l.drop k).take n) = l.take (k + n) := by
    unfold headOf
    rw [hx, ← h4, List.take_add]
  have htail : (l.drop (k + n)).take 4 = Lib.leBytes 4 (crcMore 0 (l.take (k + n))) := by
    have e := leBytes_leNat ((l.drop (k + n)).take 4)
    have e4 : ((l.drop (k + n)).take 4).length = 4 := by simp; omega
    rw [e4] at e
    rw [← Decidable.not_not.1 c5, e]
  refine ⟨by show ((l.drop k).take n).length ≤ _; omega, ?_, by show k + 4 + n ≤ _; omega, ?_⟩
  · show k + 4 + n = _
    rw [frameOf_length, hx, hk]
    omega
  · show l.take (k + 4 + n) = frameOf ((l.drop k).take n)
    unfold frameOf
    rw [hhead, ← htail, show k + 4 + n = (k + n) + 4 by omega, List.take_add]

theorem decF_err {l : List UInt8} (h : (decF l).2.2 ≠ 0) : (decF l).1 = [] ∧ (decF l).2.1 = 0 := by
  unfold decF at h ⊢
  split
  · exact ⟨rfl, rfl⟩
  split
  · exact ⟨rfl, rfl⟩
  split
  · exact ⟨rfl, rfl⟩
  split
  · exact ⟨rfl, rfl⟩
  split
  · exact ⟨rfl, rfl⟩
  · rename_i c1 c2 c3 c4 c5
    rw [if_neg c1, if_neg c2, if_neg c3, if_neg c4, if_neg c5] at h
    simp at h

theorem decF_codes (l : List UInt8) : (decF l).2.2 < 6 := by
  unfold decF
  repeat' split
  all_goals simp

theorem decF_five {l : List UInt8} (h : (decF l).2.2 = 0) : 5 ≤ (decF l).2.1 := by
  obtain ⟨_, h2, _, _⟩ := decF_ok h
  rw [h2, frameOf_length]
  have := Lib.uvarint_pos (decF l).1.length
  omega

theorem decF_le (l : List UInt8) : (decF l).2.1 ≤ l.length := by
  by_cases h : (decF l).2.2 = 0
  · exact (decF_ok h).2.2.1
  · rw [(decF_err h).2]; omega

theorem decF_data_le (l : List UInt8) : (decF l).1.length ≤ l.length := by
  by_cases h : (decF l).2.2 = 0
  · obtain ⟨_, h2, h3, _⟩ := decF_ok h
    rw [h2, frameOf_length] at h3
    omega
  · rw [(decF_err h).1]; simp

/-- A frame that is cut off. -/
theorem decF_cut (x : List UInt8) (m : Nat) (h : x.length ≤ 1048576) (hm : m < (frameOf x).length) : decF ((frameOf x).take m) = ([], 0, 2) := by
  have h3 := len3 h
  by_cases hk : m < (Lib.uvarint x.length).length
  · have ho : isOpen ((frameOf x).take m) := by
      have e : (frameOf x).take m = (Lib.uvarint x.length).take m := by
        rw [frameOf, headOf, List.append_assoc, List.take_append_of_le_length (by omega)]
      rw [e]
      refine ⟨by simp; omega, fun j hj => ?_⟩
      have hj' : j < m := by simp at hj; omega
      have e2 : ((Lib.uvarint x.length).take m).getD j 0 = (Lib.uvarint x.length).getD j 0 := by simp [List.getD, hj']
      rw [e2]
      exact uvarint_open _ _ j (Nat.le_refl _) (by omega)
    unfold decF
    rw [if_pos ho]
  · have hlen : ((frameOf x).take m).length = m := by simp; omega
    have hd : dec62 ((frameOf x).take m) = (x.length, (Lib.uvarint x.length).length) := by
      have e : (frameOf x).take m = Lib.uvarint x.length ++ (x ++ Lib.leBytes 4 (crcMore 0 (headOf x))).take (m - (Lib.uvarint x.length).length) := by
        rw [frameOf, headOf, List.append_assoc, List.take_append, List.take_of_length_le (by omega)]
      rw [e]
      exact dec62_head x _ h
    have hp := Lib.uvarint_pos x.length
    have ho : ¬ isOpen ((frameOf x).take m) := fun ho => by
      have := open_dec ho
      rw [hd, Prod.mk.injEq] at this
      omega
    rw [frameOf_length] at hm
    unfold decF
    rw [if_neg ho]
    simp only [hd, hlen]
    rw [if_neg (by omega), if_neg (by omega), if_pos (by omega)]

/-- Whole frames with their sum have one sum all. -/
theorem frame_sum (x : List UInt8) : crcMore 0 (frameOf x) = ticks 32 4294967295 ^^^ 4294967295 := by
  unfold frameOf
  have hl := crc_lt (headOf x)
  rw [crcMore_append]
  generalize crcMore 0 (headOf x) = s at *
  unfold crcMore
  rw [crcReg_ticks, Lib.leBytes_length, Lib.leNat_leBytes 4 s hl]
  congr 2
  rw [Nat.xor_comm s, Nat.xor_assoc, Nat.xor_self, Nat.xor_zero]

/-- All whole frames, by a number of rounds. -/
def wholeG : Nat → List UInt8 → List (List UInt8) × Nat × Nat
  | 0, _ => ([], 0, 0)
  | f + 1, l => if l = [] then ([], 0, 0) else if (decF l).2.2 ≠ 0 then ([], 0, (decF l).2.2) else
      ((decF l).1 :: (wholeG f (l.drop (decF l).2.1)).1, (decF l).2.1 + (wholeG f (l.drop (decF l).2.1)).2.1, (wholeG f (l.drop (decF l).2.1)).2.2)

/-- All whole frames, how many bytes these have, and the error that ends them. -/
def wholeF (l : List UInt8) : List (List UInt8) × Nat × Nat := wholeG l.length l

theorem wholeG_more : ∀ (f g : Nat) (l : List UInt8), l.length ≤ f → l.length ≤ g → wholeG f l = wholeG g l
  | 0, g, l, h, _ => by
    have e : l = [] := List.eq_nil_of_length_eq_zero (by omega)
    subst e
    cases g <;> simp [wholeG]
  | f + 1, 0, l, _, h => by
    have e : l = [] := List.eq_nil_of_length_eq_zero (by omega)
    subst e
    simp [wholeG]
  | f + 1, g + 1, l, hf, hg => by
    unfold wholeG
    by_cases e : l = []
    · rw [if_pos e, if_pos e]
    rw [if_neg e, if_neg e]
    by_cases e2 : (decF l).2.2 ≠ 0
    · rw [if_pos e2, if_pos e2]
    rw [if_neg e2, if_neg e2]
    have h5 := decF_five (Decidable.not_not.1 e2)
    rw [wholeG_more f g (l.drop (decF l).2.1) (by simp; omega) (by simp; omega)]

theorem wholeF_nil : wholeF [] = ([], 0, 0) := rfl

theorem wholeF_stop {l : List UInt8} (h0 : l ≠ []) (h : (decF l).2.2 ≠ 0) : wholeF l = ([], 0, (decF l).2.2) := by
  unfold wholeF
  cases l with
  | nil => exact absurd rfl h0
  | cons c r =>
    rw [List.length_cons, wholeG, if_neg h0, if_pos h]

theorem wholeF_step {l : List UInt8} (h0 : l ≠ []) (h : (decF l).2.2 = 0) :
    wholeF l = ((decF l).1 :: (wholeF (l.drop (decF l).2.1)).1, (decF l).2.1 + (wholeF (l.drop (decF l).2.1)).2.1, (wholeF (l.drop (decF l).2.1)).2.2) := by
  have h5 := decF_five h
  unfold wholeF
  cases l with
  | nil => exact absurd rfl h0
  | cons c r =>
    rw [List.length_cons, wholeG, if_neg h0, if_neg (Decidable.not_not.2 h), wholeG_more r.length ((c :: r).drop (decF (c :: r)).2.1).length _ (by simp; omega) (Nat.le_refl _)]

/-- Frames, one behind the other. -/
def framesOf (L : List (List UInt8)) : List UInt8 := L.flatMap frameOf

/-- Where the frames end that are whole within so many bytes, and how many they are. -/
def wholes : List (List UInt8) → Nat → Nat × Nat
  | [], _ => (0, 0)
  | x :: L, m => if (frameOf x).length ≤ m then ((wholes L (m - (frameOf x).length)).1 + 1, (wholes L (m - (frameOf x).length)).2 + (frameOf x).length) else (0, 0)

theorem wholes_le : ∀ (L : List (List UInt8)) (m : Nat), (wholes L m).1 ≤ L.length ∧ (wholes L m).2 ≤ m
  | [], m => by simp [wholes]
  | x :: L, m => by
    have ih := wholes_le L (m - (frameOf x).length)
    unfold wholes
    split
    · simp; omega
    · simp

theorem wholeF_cut : ∀ (L : List (List UInt8)) (m : Nat), (∀ x ∈ L, x.length ≤ 1048576) → m ≤ (framesOf L).length →
    wholeF ((framesOf L).take m) = (L.take (wholes L m).1, (wholes L m).2, if (wholes L m).2 = m then 0 else 2)
  | [], m, _, hm => by
    have e : m = 0 := by simp [framesOf] at hm; omega
    subst e
    rfl
  | x :: L, m, hx, hm => by
    have hx1 := hx x (by simp)
    have hpos : 5 ≤ (frameOf x).length := by
      rw [frameOf_length]
      have := Lib.uvarint_pos x.length
      omega
    have eF : framesOf (x :: L) = frameOf x ++ framesOf L := by simp [framesOf]
    rw [eF] at hm ⊢
    rw [List.length_append] at hm
    by_cases hf : (frameOf x).length ≤ m
    · have et : (frameOf x ++ framesOf L).take m = frameOf x ++ (framesOf L).take (m - (frameOf x).length) := by
        rw [List.take_append, List.take_of_length_le hf]
      have ih := wholeF_cut L (m - (frameOf x).length) (fun y hy => hx y (by simp [hy])) (by omega)
      have hd := decF_frame x ((framesOf L).take (m - (frameOf x).length)) hx1
      have hne : frameOf x ++ (framesOf L).take (m - (frameOf x).length) ≠ [] := fun e => by
        have := congrArg List.length e
        rw [List.length_append, List.length_nil] at this
        omega
      rw [et, wholeF_step hne (by rw [hd]), hd]
      simp only [List.drop_left]
      have hw := (wholes_le L (m - (frameOf x).length)).2
      rw [ih, wholes, if_pos hf]
      simp only [List.take_succ_cons, Prod.mk.injEq, true_and]
      refine ⟨by omega, ?_⟩
      by_cases e : (wholes L (m - (frameOf x).length)).2 = m - (frameOf x).length
      · rw [if_pos e, if_pos (by omega)]
      · rw [if_neg e, if_neg (by omega)]
    · have et : (frameOf x ++ framesOf L).take m = (frameOf x).take m := by
        rw [List.take_append_of_le_length (by omega)]
      have hd := decF_cut x m hx1 (by omega)
      rw [et, wholes, if_neg hf]
      by_cases h0 : m = 0
      · subst h0
        rfl
      · have hne : (frameOf x).take m ≠ [] := fun e => by
          have := congrArg List.length e
          rw [List.length_take, List.length_nil] at this
          omega
        rw [wholeF_stop hne (by rw [hd]; decide), hd]
        simp only [List.take_zero, Prod.mk.injEq, true_and]
        rw [if_neg (by omega)]

/-- What Size answers. -/
def sizeF (n : Int) : Nat := if 0 ≤ n ∧ n ≤ 1048576 then (Lib.uvarint n.toNat).length + 4 + n.toNat else 0

/-- Where the search for the whole frames ends. -/
theorem wholes_at : ∀ (L : List (List UInt8)) (m k : Nat), k ≤ L.length → (framesOf (L.take k)).length ≤ m → (k = L.length ∨ m < (framesOf (L.take (k + 1))).length) → wholes L m = (k, (framesOf (L.take k)).length)
  | [], m, k, hk, _, _ => by
    have e : k = 0 := by simpa using hk
    subst e
    rfl
  | x :: L, m, 0, _, h1, h2 => by
    have e : (framesOf ((x :: L).take 1)).length = (frameOf x).length := by simp [framesOf]
    rcases h2 with h2 | h2
    · simp at h2
    · rw [e] at h2
      rw [wholes, if_neg (by omega)]
      rfl
  | x :: L, m, k + 1, hk, h1, h2 => by
    have ef : ∀ j, (framesOf ((x :: L).take (j + 1))).length = (frameOf x).length + (framesOf (L.take j)).length := by
      intro j
      simp [framesOf]
    rw [ef] at h1 h2
    have ih := wholes_at L (m - (frameOf x).length) k (by simpa using hk) (by omega) (by
      rcases h2 with h2 | h2
      · left; simpa using h2
      · right; omega)
    rw [wholes, if_pos (by omega), ih, ef]
    simp
    omega

end Go.Proofs.YtddhcohjmgdajaaDoor

/- Slices of slices of bytes: what one reads ('RdL'), what a call makes ('OwnL'), and that one more is put behind them. -/
namespace Go.Proofs.YtddhcohjmgdajaaDoor
open Go.RowKit

/-- The slice value v reads as these lists of bytes. -/
def RdL (w : World) (v : Value) (L : List (List UInt8)) : Prop :=
  ∃ ao cap, v = .slice ao L.length cap ∧ L.length ≤ cap ∧ cap ≤ maxLen ∧ (ao = none → cap = 0) ∧
    (L = [] ∨ ∃ b off, ao = some ⟨b, off, none⟩ ∧ ∀ j, j < L.length → ∃ x, w.cell? ⟨b, off + j, none⟩ = some x ∧ Rd w x (L.getD j []))

/-- The slice value v lies in a row of its own, from block B on, of slices that lie each in a row of its own. -/
def OwnL (w : World) (B : Nat) (v : Value) (L : List (List UInt8)) : Prop :=
  ∃ xs : List Value, w.ownsRow B 26 1 v L.length xs ∧ ∀ j, j < L.length → ∃ x, xs[j]? = some x ∧ Own w B x (L.getD j [])

theorem RdL.nil (w : World) : RdL w (.slice none 0 0) [] := ⟨none, 0, rfl, Nat.le_refl _, Nat.zero_le _, fun _ => rfl, .inl rfl⟩

theorem OwnL.nil (w : World) (B : Nat) : OwnL w B (.slice none 0 0) [] := ⟨[], World.ownsRow_nil w B 26 1, fun j hj => by simp at hj⟩

theorem RdL.below {w w' : World} {v : Value} {L : List (List UInt8)} (h : RdL w v L) {B : Nat} (hb : Below B w w') (hB : w.heap.size ≤ B) : RdL w' v L := by
  obtain ⟨ao, cap, h1, h2, h3, hn, h4⟩ := h
  refine ⟨ao, cap, h1, h2, h3, hn, ?_⟩
  rcases h4 with h4 | ⟨b, off, h5, h6⟩
  · exact .inl h4
  · refine .inr ⟨b, off, h5, fun j hj => ?_⟩
    obtain ⟨x, hc, hr⟩ := h6 j hj
    have hlt : b < w.heap.size := World.block_lt_of_cell? w ⟨b, off + j, none⟩ hc
    refine ⟨x, ?_, hr.below hb hB⟩
    rw [hb.cell (p := ⟨b, off + j, none⟩) (by exact Nat.lt_of_lt_of_le hlt hB)]
    exact hc

theorem RdL.front {w : World} {ao : Option Addr} {n cap : Nat} {L : List (List UInt8)} (h : RdL w (.slice ao n cap) L) (k : Nat) (hk : k ≤ L.length) : RdL w (.slice ao k cap) (L.take k) := by
  obtain ⟨ao', cap', hv, h1, h2, h3, h4⟩ := h
  simp only [Value.slice.injEq] at hv
  obtain ⟨rfl, _, rfl⟩ := hv
  have hlen : (L.take k).length = k := by simp; omega
  refine ⟨ao, cap, by rw [hlen], by omega, h2, h3, ?_⟩
  rcases h4 with h4 | ⟨b, off, h5, h6⟩
  · exact .inl (by rw [h4]; simp)
  · refine .inr ⟨b, off, h5, fun j hj => ?_⟩
    have hj2 : j < k := by omega
    obtain ⟨x, hc, hr⟩ := h6 j (by omega)
    refine ⟨x, hc, ?_⟩
    have e : (L.take k).getD j [] = L.getD j [] := by simp [List.getD, hj2]
    rw [e]
    exact hr

theorem OwnL.rd {w : World} {B : Nat} {v : Value} {L : List (List UInt8)} (h : OwnL w B v L) : RdL w v L := by
  obtain ⟨xs, h1, h2⟩ := h
  rcases h1.2 with ⟨hv, hn⟩ | ⟨g, cap, cur, hv, hb, hg, hnc, hcm, hcs, htake⟩
  · exact ⟨none, 0, by rw [hv, hn], by omega, Nat.zero_le _, fun _ => rfl, .inl (List.eq_nil_of_length_eq_zero hn)⟩
  · refine ⟨some ⟨g, 0, none⟩, cap, hv, hnc, hcm, (fun e => by cases e), .inr ⟨g, 0, rfl, fun j hj => ?_⟩⟩
    obtain ⟨x, hx, ho⟩ := h2 j hj
    have := World.ownsRow.cells h1 (g := g) (by rw [hv]; rfl) j _ hx
    rw [Addr.add_lit] at this
    exact ⟨x, this, ho.rd⟩

theorem OwnL.mono {w : World} {B B' : Nat} {v : Value} {L : List (List UInt8)} (h : OwnL w B v L) (hB : B' ≤ B) : OwnL w B' v L := by
  obtain ⟨xs, ⟨h1, h2⟩, h3⟩ := h
  refine ⟨xs, ⟨h1, ?_⟩, fun j hj => ?_⟩
  · rcases h2 with h2 | ⟨g, cap, cur, hv, hb, r⟩
    · exact .inl h2
    · exact .inr ⟨g, cap, cur, hv, by omega, r⟩
  · obtain ⟨x, hx, ho⟩ := h3 j hj
    exact ⟨x, hx, ho.mono hB⟩

theorem OwnL.below {w w' : World} {B B' : Nat} {v : Value} {L : List (List UInt8)} (h : OwnL w B v L) (hb : Below B' w w') (hB : w.heap.size ≤ B') : OwnL w' B v L := by
  obtain ⟨xs, ⟨h1, h2⟩, h3⟩ := h
  refine ⟨xs, ⟨h1, ?_⟩, fun j hj => ?_⟩
  · rcases h2 with h2 | ⟨g, cap, cur, hv, hbg, hg, r⟩
    · exact .inl h2
    · have hlt : g < w.heap.size := (Array.getElem?_eq_some_iff.1 hg).1
      exact .inr ⟨g, cap, cur, hv, hbg, by rw [hb.block g (by omega)]; exact hg, r⟩
  · obtain ⟨x, hx, ho⟩ := h3 j hj
    exact ⟨x, hx, ho.below hb hB⟩

theorem info_bytes : (Tryd.prog.info? 26).map (fun i => (i.zero, i.size, i.bytes)) = some (some (.slice none 0 0), 1, 24) := by kernel_rfl

/-- A row of bytes is no row of slices. -/
theorem own_apart {w : World} {B B' : Nat} {v x : Value} {n : Nat} {xs : List Value} {l : List UInt8} (h1 : w.ownsRow B 26 1 v n xs) (h2 : Own w B' x l) : x.ownBlock = none ∨ x.ownBlock ≠ v.ownBlock := by
  rcases h2.2 with ⟨hv, _⟩ | ⟨g, cap, cur, hv, _, hg, _⟩
  · exact .inl (by rw [hv]; rfl)
  · right
    rcases h1.2 with ⟨hv', _⟩ | ⟨g', cap', cur', hv', _, hg', _⟩
    · rw [hv, hv']
      exact fun e => by cases e
    · rw [hv, hv']
      intro e
      have e' : g = g' := by simpa [Value.ownBlock] using e
      rw [e', hg'] at hg
      have h3 : (26 : Nat) = 5 := by
        injection hg with hg
        injection hg
      exact absurd h3 (by decide)

theorem run_append_snoc (w : World) (ty : TypeId) (B : Nat) (v : Value) (L : List (List UInt8)) (h : OwnL w B v L) (x : Value) (d : List UInt8) (hx : Own w B x d) (hlim : L.length ≤ 1000000) (hbase : B ≤ w.heap.size) :
    ∃ v' w', (Builtin.append_ #[49, 49] ty #[v, .slice (some ⟨w.heap.size, 0, none⟩) 1 1]).run Tryd.prog (w.alloc (.cells #[x] 26)) = .ok v' w' ∧ OwnL w' B v' (L ++ [d]) ∧ Below B w w' := by
  obtain ⟨i0, hi, hz0, hz1, hz2⟩ := info_parts info_bytes
  obtain ⟨xs, h1, h3⟩ := h
  have hx1 : x.oneCell' = true := by
    rcases hx.2 with ⟨hv, _⟩ | ⟨g, cap, cur, hv, _⟩ <;> rw [hv] <;> rfl
  obtain ⟨v', w', hrun, ho, hg, _⟩ := run_append_own (P := Tryd.prog) (w.alloc (.cells #[x] 26)) B 49 ty 26 i0 (.slice none 0 0) 1 24 Tryd.underlying49 hi hz0 hz1 hz2 rfl (by decide) v L.length xs (h1.alloc _)
    ⟨w.heap.size, 0, none⟩ 1 1 [x] rfl (fun j u hj => by
      match j, hj with
      | 0, hj => simp at hj; subst hj; simp [Addr.add]) (fun u hu => by simp at hu; subst hu; exact hx1) (by unfold maxLen; omega) (by omega) (by simp; omega)
  have hl : xs.length = L.length := by rw [h1.1, Nat.mul_one]
  refine ⟨v', w', hrun, ⟨xs ++ [x], by rw [List.length_append]; exact ho, fun j hj => ?_⟩, ?_⟩
  · by_cases hj' : j < L.length
    · obtain ⟨y, hy, hoy⟩ := h3 j hj'
      refine ⟨y, by rw [List.getElem?_append_left (by omega)]; exact hy, ?_⟩
      have e : (L ++ [d]).getD j [] = L.getD j [] := by simp [List.getD, List.getElem?_append_left hj']
      rw [e]
      exact World.ownsRow.kept (World.ownsRow.alloc hoy _) hg (own_apart h1 hoy)
    · have ej : j = L.length := by simp at hj; omega
      subst ej
      refine ⟨x, by rw [List.getElem?_append_right (by omega), hl]; simp, ?_⟩
      have e : (L ++ [d]).getD L.length [] = d := by simp [List.getD]
      rw [e]
      exact World.ownsRow.kept (World.ownsRow.alloc hx _) hg (own_apart h1 hx)
  · exact ((Below.refl _ _).alloc hbase _).grown hg (by simp; omega) (fun k hk => (World.ownsRow.lt h1 k hk).1)

theorem wpList_append_snoc (w : World) {ops : Array Oper} {rest : List Oper} {o : Oper} {a : Act} {Q : Exit → Act → World → Prop} (hgd : o.guard = none) (s x : Operand)
    (ho : o.op = .call { callee := .builtin .append, args := #[s, x], argTypes := #[49, 49] })
    (B : Nat) (v : Value) (L : List (List UInt8)) (hs : a.eval s = v) (hown : OwnL w B v L) (y : Value) (d : List UInt8) (hx : a.eval x = .slice (some ⟨w.heap.size, 0, none⟩) 1 1) (hy : Own w B y d)
    (hlim : L.length ≤ 1000000) (hbase : B ≤ w.heap.size)
    (h : ∀ v' w', OwnL w' B v' (L ++ [d]) → Below B w w' → wpList Tryd.prog ops Q rest (a.put o.dst v') w') : wpList Tryd.prog ops Q (o :: rest) a (w.alloc (.cells #[y] 26)) :=
  wpList_plain hgd fun _ hK => by
    obtain ⟨v', w', hrun, h2, h3⟩ := run_append_snoc w o.type B v L hown y d hy hlim hbase
    unfold Oper.wp execOp
    simp only [ho, resolve, invoke, builtin, Sem.run_bind, Sem.run_pure, Result.andThen_ok, List.map_toArray, List.map_cons, List.map_nil, hs, hx, hrun]
    exact hK _ _ (h v' w' h2 h3)

end Go.Proofs.YtddhcohjmgdajaaDoor

/- Contracts of the document's answer for layer crc: Entry, More, Sum. -/
namespace Go.Proofs.YtddhcohjmgdajaaDoor
open Go.RowKit

theorem xor_u32 (a b : Nat) (ha : a < 4294967296) (hb : b < 4294967296) : bits .xor .u32 (a : Int) (b : Int) = ((a ^^^ b : Nat) : Int) := by
  have hx : a ^^^ b < 2 ^ 32 := Nat.xor_lt_two_pow (by omega) (by omega)
  have h1 : (BitVec.ofInt 32 (a : Int)).toNat = a := by
    rw [BitVec.ofInt_natCast, BitVec.toNat_ofNat]; exact Nat.mod_eq_of_lt (by omega)
  have h2 : (BitVec.ofInt 32 (b : Int)).toNat = b := by
    rw [BitVec.ofInt_natCast, BitVec.toNat_ofNat]; exact Nat.mod_eq_of_lt (by omega)
  show IntKind.u32.wrap ((BitVec.ofInt 32 (a : Int) ^^^ BitVec.ofInt 32 (b : Int)).toNat : Int) = _
  rw [BitVec.toNat_xor, h1, h2, IntKind.wrap_u32]
  omega

theorem xor_u8 (a b : Nat) (ha : a < 256) (hb : b < 256) : bits .xor .u8 (a : Int) (b : Int) = ((a ^^^ b : Nat) : Int) := by
  have hx : a ^^^ b < 2 ^ 8 := Nat.xor_lt_two_pow (by omega) (by omega)
  have h1 : (BitVec.ofInt 8 (a : Int)).toNat = a := by
    rw [BitVec.ofInt_natCast, BitVec.toNat_ofNat]; exact Nat.mod_eq_of_lt (by omega)
  have h2 : (BitVec.ofInt 8 (b : Int)).toNat = b := by
    rw [BitVec.ofInt_natCast, BitVec.toNat_ofNat]; exact Nat.mod_eq_of_lt (by omega)
  show IntKind.u8.wrap ((BitVec.ofInt 8 (a : Int) ^^^ BitVec.ofInt 8 (b : Int)).toNat : Int) = _
  rw [BitVec.toNat_xor, h1, h2, IntKind.wrap_u8]
  omega

theorem ticks_succ (k x : Nat) : ticks (k + 1) x = tick (ticks k x) := by
  rw [ticks_add k 1]
  rfl

theorem ticks32 (k : Nat) {x : Nat} (h : x < 4294967296) : ticks k x < 4294967296 := by
  have := ticks_lt k (Nat.le_refl 32) (by omega : x < 2 ^ 32)
  omega

set_option maxRecDepth 100000 in
set_option maxHeartbeats 400000 in
theorem refEntry_any (c : Nat) (w : World) (hc : c < 256) :
    Calls Tryd.prog 66 #[.int .u8 (c : Int)] w fun e w' => e = .returned (.int .u32 (entry c : Nat)) ∧ w' = w := by
  go_enter Tryd.func66, Tryd.ntmps66
  go_wp2
  go_loop [3, 4] (fun x i => ∃ k : Nat, k ≤ 8 ∧ i = .int .i64 k ∧ x = .int .u32 (ticks k c : Nat)) (fun _ i => 8 - (intOf i).toNat)
  case atStart => exact ⟨0, Nat.zero_le _, rfl, rfl⟩
  case round =>
    obtain ⟨k, hk, rfl, rfl⟩ := hrel
    by_cases hlt : k < 8
    · have HS := hide (ticks_succ k c)
      have hb : ticks k c < 4294967296 := ticks32 k (by omega)
      generalize ticks k c = y at *
      obtain ⟨Y, hY⟩ : ∃ Y : Int, Y = (y : Int) := ⟨_, rfl⟩
      rw [← hY]
      have hY0 : 0 ≤ Y := by omega
      have hY1 : Y < 4294967296 := by omega
      have HY := hide hY
      have HB := hide hb
      clear hY hb
      by_cases ho : Y % 2 = 1
      · have hob : (Y % 2 == 1) = true := beq_iff_eq.2 ho
        have HO := hide ho
        clear ho
        go_wp2
        go_round
        case rel =>
          have e := HY.out
          have eo := HO.out
          refine ⟨k + 1, by omega, by go_num, ?_⟩
          have e2 : Y / 2 = ((y / 2 : Nat) : Int) := by omega
          have e3 : (2197175160 : Int) = ((2197175160 : Nat) : Int) := rfl
          have ht : tick y = y / 2 ^^^ 2197175160 := if_pos (by omega)
          rw [HS.out, ht, e2, e3, xor_u32 _ _ (by have := HB.out; omega) (by decide)]
        case measure => simp [intOf]; omega
      · have hob : (Y % 2 == 1) = false := beq_eq_false_iff_ne.2 ho
        have HO := hide ho
        clear ho
        go_wp2
        go_round
        case rel =>
          have e := HY.out
          have eo := HO.out
          refine ⟨k + 1, by omega, by go_num, ?_⟩
          have e2 : Y / 2 = ((y / 2 : Nat) : Int) := by omega
          have ht : tick y = y / 2 := if_neg (by omega)
          rw [HS.out, ht, e2]
        case measure => simp [intOf]; omega
    · go_wp2
      go_ret
      obtain rfl : k = 8 := by omega
      exact ⟨rfl, rfl⟩

theorem crcReg_snoc (l : List UInt8) (x k : Nat) (h : k < l.length) : crcReg x (l.take (k + 1)) = crcByte (crcReg x (l.take k)) (l.getD k 0).toNat := by
  rw [take_snoc l k h, crcReg_append]
  rfl

theorem low_byte (x c : Nat) (hc : c < 256) : (x ^^^ c) % 256 = x % 256 ^^^ c := by
  have h := @Nat.xor_mod_two_pow x c 8
  have e : c % 2 ^ 8 = c := Nat.mod_eq_of_lt (by omega)
  rw [e] at h
  exact h

theorem byte_lt (x c : Nat) (hc : c < 256) : x % 256 ^^^ c < 256 := by
  have : x % 256 ^^^ c < 2 ^ 8 := Nat.xor_lt_two_pow (by omega) (by omega)
  omega

theorem entry_lt (c : Nat) (h : c < 256) : entry c < 4294967296 := ticks32 8 (by omega)

theorem not_u32 (s : Nat) (h : s < 4294967296) : bits .xor .u32 IntKind.u32.max (s : Int) = ((s ^^^ 4294967295 : Nat) : Int) := by
  have e : IntKind.u32.max = ((4294967295 : Nat) : Int) := by decide
  rw [e, xor_u32 _ _ (by decide) h, Nat.xor_comm]

set_option maxRecDepth 100000 in
set_option maxHeartbeats 400000 in
theorem refMore_any (s : Nat) (v : Value) (l : List UInt8) (w : World) (hr : Rd w v l) (hs : s < 4294967296) :
    Calls Tryd.prog 46 #[.int .u32 (s : Int), v] w fun e w' => e = .returned (.int .u32 (crcMore s l : Nat)) ∧ w' = w := by
  obtain ⟨ao, cap, rfl, hlc, hcm, hn0, hao⟩ := hr
  clear hn0
  have hml : (l.length : Int) ≤ 9223372036854775807 := by unfold maxLen at hcm; omega
  have HN := hide (not_u32 s hs)
  have HL : Hid (∀ k, crcReg (s ^^^ 4294967295) (l.take k) < 4294967296) := fun k => crcReg_lt _ (not_lt hs)
  have HE : Hid (crcMore s l = crcReg (s ^^^ 4294967295) l ^^^ 4294967295) := rfl
  generalize s ^^^ 4294967295 = x0 at *
  clear hs
  go_enter Tryd.func46, Tryd.ntmps46
  go_wp2
  go_loop [5, 6] (fun x i => ∃ k : Nat, k ≤ l.length ∧ i = .int .i64 k ∧ x = .int .u32 (crcReg x0 (l.take k) : Nat)) (fun _ i => l.length - (intOf i).toNat)
  case atStart =>
    refine ⟨0, Nat.zero_le _, rfl, ?_⟩
    rw [HN.out]
    rfl
  case round =>
    obtain ⟨k, hk, rfl, rfl⟩ := hrel
    have hy := HL.out k
    by_cases hlt : k < l.length
    · have HS := hide (crcReg_snoc l x0 k hlt)
      rcases hao with hao | ⟨b, off, rfl, hc⟩
      · subst hao; simp at hlt
      have hck := hc k hlt
      have hc256 : (l.getD k 0).toNat < 256 := UInt8.toNat_lt _
      clear hc
      generalize crcReg x0 (l.take k) = y at *
      generalize (l.getD k 0).toNat = c at *
      have hlb := byte_lt y c hc256
      have HX : Hid (bits .xor .u8 ((y : Int) % 256) (c : Int) = ((y % 256 ^^^ c : Nat) : Int)) := by
        have e : (y : Int) % 256 = ((y % 256 : Nat) : Int) := by omega
        rw [e]
        exact xor_u8 _ _ (by omega) hc256
      have HF : Hid (bits .xor .u32 ((entry (y % 256 ^^^ c) : Nat) : Int) ((y : Int) / 256) = ((crcByte y c : Nat) : Int)) := by
        have e : (y : Int) / 256 = ((y / 256 : Nat) : Int) := by omega
        rw [e, xor_u32 _ _ (entry_lt _ hlb) (by omega)]
        unfold crcByte
        rw [low_byte y c hc256]
        exact rfl
      have HC := hide (fun w => refEntry_any (y % 256 ^^^ c) w hlb)
      go_wp2_with fail
      rw [HX.out]
      refine (HC.out _).mono ?_
      rintro e w' ⟨rfl, rfl⟩
      go_wp2
      go_round
      case rel => exact ⟨k + 1, by omega, by go_num, by rw [HS.out, ← HF.out]⟩
      case measure => simp [intOf]; omega
    · go_wp2
      go_ret
      refine ⟨ret_int ?_, rfl⟩
      rw [HE.out, not_u32 _ hy, List.take_of_length_le (by omega)]

set_option maxRecDepth 100000 in
theorem refSum_any (v : Value) (l : List UInt8) (w : World) (hr : Rd w v l) :
    Calls Tryd.prog 47 #[v] w fun e w' => e = .returned (.int .u32 (crcMore 0 l : Nat)) ∧ w' = w := by
  have HC : Hid (Calls Tryd.prog 46 #[.int .u32 0, v] w fun e w' => e = .returned (.int .u32 (crcMore 0 l : Nat)) ∧ w' = w) := refMore_any 0 v l w hr (by decide)
  generalize crcMore 0 l = m at *
  clear hr
  go_enter Tryd.func47, Tryd.ntmps47
  go_wp2_with fail
  refine HC.out.mono ?_
  rintro e w' ⟨rfl, rfl⟩
  go_wp2
  go_ret
  exact ⟨rfl, rfl⟩

end Go.Proofs.YtddhcohjmgdajaaDoor

/- Contracts of ferrymanref03: Encode, Size, open, Decode. -/
namespace Go.Proofs.YtddhcohjmgdajaaDoor
open Go.RowKit

/-- What Encode answers. -/
def encF (l : List UInt8) : List UInt8 × Nat := if l.length ≤ 1048576 then (frameOf l, 0) else ([], 5)

theorem ret_tup2 {v : Value} {k : IntKind} {a b : Int} (h : a = b) : Ending.returned (.tuple #[v, .int k a]) = .returned (.tuple #[v, .int k b]) := by rw [h]

theorem ret_tup3 {v : Value} {k k' : IntKind} {a b c d : Int} (h : a = b) (h' : c = d) : Ending.returned (.tuple #[v, .int k a, .int k' c]) = .returned (.tuple #[v, .int k b, .int k' d]) := by rw [h, h']

set_option maxRecDepth 100000 in
set_option maxHeartbeats 1000000 in
theorem refEncode_any (v : Value) (l : List UInt8) (w : World) (hr : Rd w v l) :
    Calls Tryd.prog 26 #[v] w fun e w' => ∃ v', e = .returned (.tuple #[v', .int .i64 ((encF l).2 : Nat)]) ∧ Own w' w.heap.size v' (encF l).1 ∧ Below w.heap.size w w' := by
  have HR := hide hr
  obtain ⟨ao, cap, rfl, hlc, hcm, hn0, hao⟩ := hr
  clear hn0 hao
  have hml : (l.length : Int) ≤ 9223372036854775807 := by unfold maxLen at hcm; omega
  by_cases h : (l.length : Int) ≤ 1048576
  · have HE : Hid (encF l = (headOf l ++ Lib.leBytes 4 (crcMore 0 (headOf l)), 0)) := if_pos (by omega)
    have HP : Hid (∀ w, Calls Tryd.prog 30 #[.slice none 0 0, .int .i64 (l.length : Int)] w fun e w' => ∃ v', e = .returned v' ∧ Own w' w.heap.size v' (Lib.uvarint l.length) ∧ Below w.heap.size w w') := by
      intro w
      have := refPut_any (.slice none 0 0) [] (l.length : Int) w (Rd.nil _) (by simp)
      have e : putOf [] (l.length : Int) = Lib.uvarint l.length := if_pos ⟨by omega, by omega⟩
      rwa [e] at this
    have HS : Hid (∀ v w, Rd w v (Lib.uvarint l.length) → Calls Tryd.prog 47 #[v] w fun e w' => e = .returned (.int .u32 (crcMore 0 (Lib.uvarint l.length) : Nat)) ∧ w' = w) := fun v w h => refSum_any v _ w h
    have HM : Hid (∀ w1, Below w.heap.size w w1 → Calls Tryd.prog 46 #[.int .u32 (crcMore 0 (Lib.uvarint l.length) : Nat), .slice ao l.length cap] w1 fun e w' => e = .returned (.int .u32 (crcMore 0 (headOf l) : Nat)) ∧ w' = w1) := by
      intro w1 hb
      have e : crcMore 0 (headOf l) = crcMore (crcMore 0 (Lib.uvarint l.length)) l := crcMore_append 0 _ _
      rw [e]
      exact refMore_any _ _ l w1 (HR.out.below hb (Nat.le_refl _)) (crc_lt _)
    have HF : Hid (∀ w, Calls Tryd.prog 48 #[.int .u64 (crcMore 0 (headOf l) : Nat), .int .i64 4] w fun e w' => ∃ v', e = .returned v' ∧ Own w' w.heap.size v' (Lib.leBytes 4 (crcMore 0 (headOf l))) ∧ Below w.heap.size w w') := by
      intro w
      have hl := crc_lt (headOf l)
      exact fix_any _ 4 w (by decide) (by omega)
    have hl4 := crc_lt (headOf l)
    have HH : Hid (headOf l = Lib.uvarint l.length ++ l) := rfl
    have HL4 : Hid ((Lib.leBytes 4 (crcMore 0 (headOf l))).length = 4) := Lib.leBytes_length 4 _
    have HL3 : Hid ((Lib.uvarint l.length).length ≤ 3) := len3 (by omega)
    generalize crcMore 0 (headOf l) = s at *
    obtain ⟨S, hS⟩ : ∃ S : Int, S = (s : Int) := ⟨_, rfl⟩
    have hS0 : 0 ≤ S := by omega
    have hS1 : S < 4294967296 := by omega
    rw [← hS] at HM HF
    clear hS hl4
    generalize Lib.leBytes 4 s = q at *
    generalize crcMore 0 (Lib.uvarint l.length) = s0 at *
    generalize Lib.uvarint l.length = u at *
    go_enter Tryd.func26, Tryd.ntmps26
    go_wp2_with fail
    refine (HP.out _).mono ?_
    rintro e w1 ⟨v1, rfl, ho1, hb1⟩
    have HB1 := hide hb1
    have HR1 := hide ho1.rd
    clear ho1 hb1 HP
    go_wp2_with fail
    refine (HS.out _ _ HR1.out).mono ?_
    rintro e w2 ⟨rfl, rfl⟩
    clear HS
    go_wp2_with fail
    refine (HM.out _ HB1.out).mono ?_
    rintro e w3 ⟨rfl, rfl⟩
    clear HM
    have hs1 := HB1.out.size
    go_wp2_with (at_builtin; refine wpList_append_rd _ rfl _ _ rfl w3.heap.size _ [] rfl (Own.nil _ _) _ u rfl HR1.out (by have := HL3.out; simp; omega) (Nat.le_refl _) ?_)
    intro v4 w4 ho4 hb4
    have HB4 := hide (HB1.out.trans (hb4.mono hs1))
    have HO4 : Hid (Own w4 w3.heap.size v4 u) := ho4
    have hs4 := hb4.size
    clear ho4 hb4
    go_wp2_with (at_builtin; refine wpList_append_rd _ rfl _ _ rfl w3.heap.size _ u rfl HO4.out _ l rfl (HR.out.below HB4.out (Nat.le_refl _)) (by have := HL3.out; omega) (by omega) ?_)
    intro v5 w5 ho5 hb5
    have HB5 := hide (HB4.out.trans (hb5.mono hs1))
    have HO5 : Hid (Own w5 w3.heap.size v5 (u ++ l)) := ho5
    have hs5 := hb5.size
    clear ho5 hb5
    go_wp2_with fail
    refine (HF.out _).mono ?_
    rintro e w6 ⟨v6, rfl, ho6, hb6⟩
    have HB6 := hide (HB5.out.trans (hb6.mono HB5.out.size))
    have HR6 := hide ho6.rd
    have HO6 : Hid (Own w6 w3.heap.size v5 (u ++ l)) := HO5.out.below hb6 (Nat.le_refl _)
    have hs6 := hb6.size
    clear ho6 hb6
    go_wp2_with (at_builtin; refine wpList_append_rd _ rfl _ _ rfl w3.heap.size _ (u ++ l) rfl HO6.out _ q rfl HR6.out (by have := HL3.out; have := HL4.out; simp; omega) (by omega) ?_)
    intro v7 w7 ho7 hb7
    have HB7 := hide (HB6.out.trans (hb7.mono hs1))
    have HO7 := hide (ho7.mono hs1)
    clear ho7 hb7
    go_wp2
    go_ret2
    refine ⟨v7, by rw [HE.out]; rfl, ?_, HB7.out⟩
    rw [HE.out, HH.out]
    show Own _ _ _ (u ++ l ++ q)
    rw [List.append_assoc]
    exact HO7.out
  · have HE : Hid (encF l = ([], 5)) := if_neg (by omega)
    go_enter Tryd.func26, Tryd.ntmps26
    go_wp2
    go_ret2
    exact ⟨_, by rw [HE.out]; rfl, by rw [HE.out]; exact Own.nil _ _, Below.refl _ _⟩

end Go.Proofs.YtddhcohjmgdajaaDoor

/- Contracts of ferrymanref03: Decode, Whole, All. -/
namespace Go.Proofs.YtddhcohjmgdajaaDoor
open Go.RowKit

theorem decF_1 {l : List UInt8} (h : isOpen l) : decF l = ([], 0, 2) := by unfold decF; rw [if_pos h]

theorem decF_2 {l : List UInt8} (h : ¬ isOpen l) (h2 : (dec62 l).2 = 0) : decF l = ([], 0, 3) := by unfold decF; rw [if_neg h, if_pos h2]

theorem decF_3 {l : List UInt8} (h : ¬ isOpen l) (h2 : (dec62 l).2 ≠ 0) (h3 : 1048576 < (dec62 l).1) : decF l = ([], 0, 5) := by unfold decF; rw [if_neg h, if_neg h2, if_pos h3]

theorem decF_4 {l : List UInt8} (h : ¬ isOpen l) (h2 : (dec62 l).2 ≠ 0) (h3 : ¬ 1048576 < (dec62 l).1) (h4 : l.length < (dec62 l).2 + 4 + (dec62 l).1) : decF l = ([], 0, 2) := by
  unfold decF; rw [if_neg h, if_neg h2, if_neg h3, if_pos h4]

theorem decF_5 {l : List UInt8} (h : ¬ isOpen l) (h2 : (dec62 l).2 ≠ 0) (h3 : ¬ 1048576 < (dec62 l).1) (h4 : ¬ l.length < (dec62 l).2 + 4 + (dec62 l).1)
    (h5 : Lib.leNat ((l.drop ((dec62 l).2 + (dec62 l).1)).take 4) ≠ crcMore 0 (l.take ((dec62 l).2 + (dec62 l).1))) : decF l = ([], 0, 4) := by
  unfold decF; rw [if_neg h, if_neg h2, if_neg h3, if_neg h4, if_pos h5]

theorem decF_6 {l : List UInt8} (h : ¬ isOpen l) (h2 : (dec62 l).2 ≠ 0) (h3 : ¬ 1048576 < (dec62 l).1) (h4 : ¬ l.length < (dec62 l).2 + 4 + (dec62 l).1)
    (h5 : Lib.leNat ((l.drop ((dec62 l).2 + (dec62 l).1)).take 4) = crcMore 0 (l.take ((dec62 l).2 + (dec62 l).1))) : decF l = ((l.drop (dec62 l).2).take (dec62 l).1, (dec62 l).2 + 4 + (dec62 l).1, 0) := by
  unfold decF; rw [if_neg h, if_neg h2, if_neg h3, if_neg h4, if_neg (by rw [h5]; simp)]

theorem dec62_nine (l : List UInt8) : (dec62 l).2 ≤ 9 := by
  rcases dec62_cases l with h | ⟨h1, h2, h3, h4⟩
  · rw [h]; decide
  · have h5 : (Lib.uvarint (dec62 l).1).length ≤ 9 := Lib.uvarint_length 8 _ (Nat.lt_of_lt_of_le h1 (by decide))
    rw [← h4, List.length_take] at h5
    omega

/-- What Decode's answer is, of which value. -/
def Decoded (w : World) (l : List UInt8) (e : Ending) (w' : World) : Prop :=
  ∃ v', e = .returned (.tuple #[v', .int .i64 ((decF l).2.1 : Nat), .int .i64 ((decF l).2.2 : Nat)]) ∧ Own w' w.heap.size v' (decF l).1 ∧ Below w.heap.size w w'

theorem Decoded.refused {w : World} {l : List UInt8} {c : Nat} (h : decF l = ([], 0, c)) : Decoded w l (.returned (.tuple #[.slice none 0 0, .int .i64 0, .int .i64 (c : Int)])) w := by
  refine ⟨.slice none 0 0, ?_, ?_, Below.refl _ _⟩
  · rw [h]; rfl
  · rw [h]; exact Own.nil _ _

end Go.Proofs.YtddhcohjmgdajaaDoor

/- Contracts of ferrymanref03: Whole, All, Same. -/
namespace Go.Proofs.YtddhcohjmgdajaaDoor
open Go.RowKit

/-- So many bytes are whole frames, whose data are L, and what is behind them tells the rest. -/
def Upto (l : List UInt8) (A : Nat) (L : List (List UInt8)) : Prop :=
  wholeF l = (L ++ (wholeF (l.drop A)).1, A + (wholeF (l.drop A)).2.1, (wholeF (l.drop A)).2.2) ∧ 5 * L.length ≤ A ∧ A ≤ l.length

theorem Upto.start (l : List UInt8) : Upto l 0 [] := ⟨by simp, by simp, by omega⟩

theorem Upto.stop {l : List UInt8} {A : Nat} {L : List (List UInt8)} (h : Upto l A L) (hA : A < l.length) (he : (decF (l.drop A)).2.2 ≠ 0) : wholeF l = (L, A, (decF (l.drop A)).2.2) := by
  have hne : l.drop A ≠ [] := fun e => by
    have := congrArg List.length e
    rw [List.length_drop, List.length_nil] at this
    omega
  rw [h.1, wholeF_stop hne he]
  simp

theorem Upto.whole {l : List UInt8} {A : Nat} {L : List (List UInt8)} (h : Upto l A L) (hA : ¬ A < l.length) : wholeF l = (L, A, 0) := by
  have e : l.drop A = [] := List.drop_of_length_le (by omega)
  rw [h.1, e, wholeF_nil]
  simp

theorem Upto.step {l : List UInt8} {A : Nat} {L : List (List UInt8)} (h : Upto l A L) (hA : A < l.length) (he : (decF (l.drop A)).2.2 = 0) : Upto l (A + (decF (l.drop A)).2.1) (L ++ [(decF (l.drop A)).1]) := by
  have hne : l.drop A ≠ [] := fun e => by
    have := congrArg List.length e
    rw [List.length_drop, List.length_nil] at this
    omega
  have h5 := decF_five he
  have hle := decF_le (l.drop A)
  rw [List.length_drop] at hle
  refine ⟨?_, ?_, by omega⟩
  · rw [h.1, wholeF_step hne he, List.drop_drop]
    simp [Nat.add_assoc]
  · have := h.2.1
    simp
    omega

/-- What All answers. -/
def allF (l : List UInt8) : List (List UInt8) × Nat := if (wholeF l).2.2 = 0 then ((wholeF l).1, 0) else ([], (wholeF l).2.2)

end Go.Proofs.YtddhcohjmgdajaaDoor

/- Contract of ferrymanref03.Same. -/
namespace Go.Proofs.YtddhcohjmgdajaaDoor
open Go.RowKit

theorem getD_ext {α : Type} (d : α) (A B : List α) (hl : A.length = B.length) (h : ∀ j, j < A.length → A.getD j d = B.getD j d) : A = B := by
  apply List.ext_getElem hl
  intro j h1 h2
  have := h j h1
  simpa [List.getD, h1, h2] using this

end Go.Proofs.YtddhcohjmgdajaaDoor

/- append of bytes that tells which row alone it may change. -/
namespace Go.Proofs.YtddhcohjmgdajaaDoor
open Go.RowKit

/-- append of bytes onto bytes of the call's own, telling which row alone it may change. -/
theorem run_append_rdg (w : World) (ty : TypeId) (B : Nat) (v : Value) (l0 : List UInt8) (hown : Own w B v l0) (vx : Value) (l : List UInt8) (hr : Rd w vx l)
    (hlim : l0.length + l.length ≤ 70368744177664) (hbase : B ≤ w.heap.size) :
    ∃ v' w', (Builtin.append_ #[26, 26] ty #[v, vx]).run Tryd.prog w = .ok v' w' ∧ Own w' B v' (l0 ++ l) ∧ w.grownBy w' v.ownBlock := by
  obtain ⟨i0, hi, hz0, hz1, hz2⟩ := info_parts info8
  obtain ⟨ao, cap, rfl, hlc, hcm, hn0, hao⟩ := hr
  cases ao with
  | none =>
    have hc := hn0 rfl
    subst hc
    have hl : l = [] := List.eq_nil_of_length_eq_zero (by omega)
    subst hl
    have hrun := run_append_owned_none (P := Tryd.prog) w B 26 ty 5 i0 1 Tryd.underlying26 hi v l0.length (Lib.byteCells l0) hown
    exact ⟨v, w, hrun, by rw [List.append_nil]; exact hown, ⟨rfl, rfl, rfl, Nat.le_refl _, fun _ _ _ => rfl⟩⟩
  | some a =>
    obtain ⟨v', w', hrun, ho, hg, _⟩ := run_append_own (P := Tryd.prog) w B 26 ty 5 i0 (.int .u8 0) 1 1 Tryd.underlying26 hi hz0 hz1 hz2 rfl (by decide) v l0.length (Lib.byteCells l0) hown a l.length cap (Lib.byteCells l)
      (by rw [byteCells_length, Nat.mul_one]) (Rd.cells hao a rfl) (byteCells_one l) (by unfold maxLen; omega) (by omega) hbase
    exact ⟨v', w', hrun, Own.mk' ho (by simp) (by simp [Lib.byteCells]), hg⟩

theorem wpList_append_rdg (w : World) {ops : Array Oper} {rest : List Oper} {o : Oper} {a : Act} {Q : Exit → Act → World → Prop} (hgd : o.guard = none) (s x : Operand)
    (ho : o.op = .call { callee := .builtin .append, args := #[s, x], argTypes := #[26, 26] })
    (B : Nat) (v : Value) (l0 : List UInt8) (hs : a.eval s = v) (hown : Own w B v l0) (vx : Value) (l : List UInt8) (hx : a.eval x = vx) (hr : Rd w vx l)
    (hlim : l0.length + l.length ≤ 70368744177664) (hbase : B ≤ w.heap.size)
    (h : ∀ v' w', Own w' B v' (l0 ++ l) → w.grownBy w' v.ownBlock → wpList Tryd.prog ops Q rest (a.put o.dst v') w') : wpList Tryd.prog ops Q (o :: rest) a w :=
  wpList_plain hgd fun _ hK => by
    obtain ⟨v', w', hrun, h2, h3⟩ := run_append_rdg w o.type B v l0 hown vx l hr hlim hbase
    unfold Oper.wp execOp
    simp only [ho, resolve, invoke, builtin, Sem.run_bind, Sem.run_pure, Result.andThen_ok, List.map_toArray, List.map_cons, List.map_nil, hs, hx, hrun]
    exact hK _ _ (h v' w' h2 h3)

end Go.Proofs.YtddhcohjmgdajaaDoor

/- More of rows: two rows of one call kept apart; a cut of a slice of slices; a slice of slices that came in. -/
namespace Go.Proofs.YtddhcohjmgdajaaDoor
open Go.RowKit Go.ChangeShapes

/-- Rows of two types lie apart. -/
theorem rows_apart {w : World} {B B' : Nat} {e1 e2 : TypeId} {v x : Value} {n m : Nat} {xs ys : List Value} (hne : e1 ≠ e2) (h1 : w.ownsRow B e1 1 v n xs) (h2 : w.ownsRow B' e2 1 x m ys) : x.ownBlock = none ∨ x.ownBlock ≠ v.ownBlock := by
  rcases h2.2 with ⟨hv, _⟩ | ⟨g, cap, cur, hv, _, hg, _⟩
  · exact .inl (by rw [hv]; rfl)
  · right
    rcases h1.2 with ⟨hv', _⟩ | ⟨g', cap', cur', hv', _, hg', _⟩
    · rw [hv, hv']
      exact fun e => by cases e
    · rw [hv, hv']
      intro e
      have e' : g = g' := by simpa [Value.ownBlock] using e
      rw [e', hg'] at hg
      have h3 : e1 = e2 := by
        injection hg with hg
        injection hg
      exact hne h3

theorem elem_rows : Tryd.prog.elem 49 = 26 := by kernel_rfl

theorem size_bytes (w : World) : (sizeOf 26).run Tryd.prog w = .ok 1 w := by
  obtain ⟨i0, hi, _, hz1, _⟩ := info_parts info_bytes
  simp [sizeOf, typeInfo, hi, hz1]

theorem under_rows : Tryd.prog.underlying 49 = some (.slice (Tryd.prog.elem 49)) := by rw [elem_rows]; exact Tryd.underlying49

theorem run_cutL_h (w : World) (v : Value) (L : List (List UInt8)) (hr : RdL w v L) (k : IntKind) (j : Int) (h0 : 0 ≤ j) (h2 : j ≤ L.length) :
    ∃ v', (Instr.sliceAt 49 v none (some (.int k j)) none).run Tryd.prog w = .ok v' w ∧ RdL w v' (L.take j.toNat) := by
  have h := hr
  obtain ⟨ao, cap, rfl, hlc, _⟩ := hr
  refine ⟨.slice ao j.toNat cap, ?_, h.front j.toNat (by omega)⟩
  rw [run_sliceAt_slice w 49 _ _ _ _ under_rows, run_slice_h w 49 ao L.length cap under_rows k j h0 (by omega), elem_rows, size_bytes]
  show Result.ok (sliced ao 0 j.toNat cap 1) w = _
  unfold sliced
  have e : (if cap = 0 then ao else ao.map (·.add (0 * 1))) = ao := by
    split
    · rfl
    · cases ao <;> simp [Addr.add]
  rw [e, Nat.sub_zero, Nat.sub_zero]

theorem wpList_cutL (w : World) {ops : Array Oper} {rest : List Oper} {o : Oper} {a : Act} {Q : Exit → Act → World → Prop} (hgd : o.guard = none) (x : Operand) (lo hi mx : Option Operand)
    (ho : o.op = .slice 49 x lo hi mx) (L : List (List UInt8))
    (hrun : ∃ v', (Instr.sliceAt 49 (a.eval x) (lo.map a.eval) (hi.map a.eval) (mx.map a.eval)).run Tryd.prog w = .ok v' w ∧ RdL w v' L)
    (h : ∀ v', RdL w v' L → wpList Tryd.prog ops Q rest (a.put o.dst v') w) : wpList Tryd.prog ops Q (o :: rest) a w :=
  wpList_plain hgd fun _ hK => by
    obtain ⟨v', hrun, hr⟩ := hrun
    unfold Oper.wp execOp
    simp only [ho, hrun, Sem.run_bind, Sem.run_pure, Result.andThen_ok]
    exact hK _ _ (h v' hr)

theorem list_of {α : Type} (d : α) (P : Nat → α → Prop) : ∀ n : Nat, (∀ i, i < n → ∃ x, P i x) → ∃ L : List α, L.length = n ∧ ∀ i, i < n → P i (L.getD i d)
  | 0, _ => ⟨[], rfl, fun i hi => by omega⟩
  | n + 1, h => by
    obtain ⟨L, h1, h2⟩ := list_of d P n (fun i hi => h i (by omega))
    obtain ⟨x, hx⟩ := h n (by omega)
    refine ⟨L ++ [x], by simp [h1], fun i hi => ?_⟩
    by_cases e : i = n
    · subst e
      have e2 : (L ++ [x]).getD i d = x := by simp [List.getD, ← h1]
      rw [e2]
      exact hx
    · have e2 : (L ++ [x]).getD i d = L.getD i d := by
        simp [List.getD, List.getElem?_append_left (show i < L.length by omega)]
      rw [e2]
      exact h2 i (by omega)

/-- A slice of slices of bytes that came in, opened. -/
theorem open_rows {H : Type} {enc : TypeId × Value → H} {w : World} {held : Bool} {fuel : Nat} {a : Option Addr} {len cap : Nat} {x : DataW H × List MemPlace} (h : DataW.trod enc Tryd.prog w 0 (fun _ => true) held fuel 49 [.slice a len cap] = some x) :
    ∃ L, RdL w (.slice a len cap) L := by
  have hc1 : Tryd.prog.cellsOf 26 = 1 := by kernel_rfl
  have hc2 : Tryd.prog.cellsOf 5 = 1 := by kernel_rfl
  rcases DataW.trod_slice Tryd.underlying49 h with h0 | ⟨ad, len', cap', elems, rest, n, _, hcs, _, hb, hl, hm, hlen, hel, _⟩
  · have := h0.1
    simp at this
    obtain ⟨rfl, rfl, rfl⟩ := this
    exact ⟨[], RdL.nil _⟩
  · simp at hcs
    obtain ⟨rfl, rfl, rfl⟩ := hcs
    have each : ∀ i, i < len → ∃ l : List UInt8, ∃ y, w.cell? (ad.add i) = some y ∧ Rd w y l := by
      intro i hi
      have he := hel i hi
      rw [List.getElem?_eq_getElem (by omega), hc1, Nat.mul_one, Option.bind_eq_some_iff] at he
      obtain ⟨cs, hcs, hy⟩ := he
      rcases open_ints Tryd.underlying26 Tryd.underlying5 hc2 hy with ⟨rfl, _⟩ | ⟨x, l, c, zs, rfl, _, hl, hm, hz, _, hcell, hwz⟩
      · exact ⟨[], _, cell_of_cells?_one hcs, Rd.nil _⟩
      · exact ⟨_, _, cell_of_cells?_one hcs, Rd.ofRow hl hm (by simpa using hz) hcell hwz⟩
    obtain ⟨L, h1, h2⟩ := list_of [] _ len each
    refine ⟨L, some ad, cap, by rw [h1], by omega, hm, (fun e => by cases e), ?_⟩
    by_cases h0 : len = 0
    · exact .inl (List.eq_nil_of_length_eq_zero (by omega))
    · obtain ⟨b, off, spot⟩ := ad
      obtain ⟨y, hy, _⟩ := h2 0 (by omega)
      have hspot : spot = none := by simpa [Addr.add] using World.cell?_spot hy
      subst hspot
      refine .inr ⟨b, off, rfl, fun j hj => ?_⟩
      obtain ⟨y, hy, hr⟩ := h2 j (by omega)
      rw [Addr.add_lit] at hy
      exact ⟨y, hy, hr⟩

end Go.Proofs.YtddhcohjmgdajaaDoor

/- Segments as bytes, over plain lists, and what follows. -/
namespace Go.Proofs.YtddhcohjmgdajaaDoor

/-- A segment. -/
structure Seg where
  kind : Int
  first : Int
  recs : List Rec

def zeroG : Seg := ⟨0, 0, []⟩

/-- Records, one by one, as a block tells them. -/
def parseRs : Nat → Int → List Rec → List UInt8 → List Rec
  | 0, _, pre, _ => pre
  | n + 1, i, pre, b => parseRs n i (pre ++ [{ (oneL pre b).1 with idx := i + pre.length }]) (b.drop (oneL pre b).2)

/-- The records of which bytes may be a block. -/
def parseB (b : List UInt8) : List Rec := parseRs (dec62 (b.drop (dec62 b).2)).1 (dec62 b).1 [] (b.drop ((dec62 b).2 + (dec62 (b.drop (dec62 b).2)).2))

/-- The records of which bytes are a block. -/
def decBo (b : List UInt8) : Option (List Rec) := if FitsB (parseB b) ∧ encB (parseB b) = b then some (parseB b) else none

theorem parseRs_enc : ∀ (l pre : List Rec) (i : Int) (t : List UInt8), (∀ r ∈ pre, FitsR r) → (∀ r ∈ l, FitsR r) → chainR (i + pre.length) l → parseRs l.length i pre (encRs pre l ++ t) = pre ++ l
  | [], pre, i, t, _, _, _ => by simp [parseRs]
  | r :: l, pre, i, t, hp, hl, hc => by
    obtain ⟨hi, hc⟩ := hc
    have hr := hl r (by simp)
    have e := one_enc hp hr (encRs (pre ++ [r]) l ++ t)
    rw [List.length_cons, parseRs, encRs, List.append_assoc, e]
    have er : ({ ({ r with idx := 0 } : Rec) with idx := i + pre.length } : Rec) = r := by rw [← hi]
    simp only [er, List.drop_left]
    rw [parseRs_enc l (pre ++ [r]) i t (fun s hs => by
      rcases List.mem_append.1 hs with h | h
      · exact hp s h
      · rw [List.mem_singleton.1 h]; exact hr) (fun s hs => hl s (by simp [hs])) (by
      have e2 : i + ((pre ++ [r]).length : Int) = i + (pre.length : Int) + 1 := by simp; omega
      rw [e2]; exact hc)]
    simp

theorem headD_fits {l : List Rec} (h : FitsB l) : FitsR (l.headD zeroR) := by
  cases l with
  | nil => exact absurd h.1 (by simp)
  | cons r t => exact h.2.2.1 r (by simp)

theorem parseB_enc {l : List Rec} (h : FitsB l) : parseB (encB l) = l := by
  have hh := headD_fits h
  obtain ⟨h1, h2, h3, h4⟩ := h
  obtain ⟨_, i0, i1, _⟩ := hh
  have d1 : dec62 (encB l) = ((l.headD zeroR).idx.toNat, (Lib.uvarint (l.headD zeroR).idx.toNat).length) := by
    unfold encB
    exact dec62_uvarint _ _ (by omega)
  have e1 : (encB l).drop (Lib.uvarint (l.headD zeroR).idx.toNat).length = Lib.uvarint l.length ++ encRs [] l := by
    unfold encB
    rw [List.drop_left]
  have d2 : dec62 (Lib.uvarint l.length ++ encRs [] l) = (l.length, (Lib.uvarint l.length).length) := dec62_uvarint _ _ (by omega)
  unfold parseB
  rw [d1]
  simp only
  rw [← List.drop_drop, e1, d2]
  simp only [List.drop_left]
  have h := parseRs_enc l [] ((l.headD zeroR).idx.toNat : Nat) [] (by simp) h3 (by
    have e : (((l.headD zeroR).idx.toNat : Nat) : Int) + (([] : List Rec).length : Int) = (l.headD zeroR).idx := by rw [List.length_nil]; omega
    rw [e]
    exact h4)
  rw [List.append_nil] at h
  exact h

theorem decBo_enc {l : List Rec} (h : FitsB l) : decBo (encB l) = some l := by
  unfold decBo
  rw [parseB_enc h, if_pos ⟨h, rfl⟩]

theorem decBo_some {b : List UInt8} {l : List Rec} (h : decBo b = some l) : FitsB l ∧ encB l = b := by
  unfold decBo at h
  split at h
  · rename_i hh
    injection h with h
    rw [← h]
    exact hh
  · cases h

theorem decBo_none {b : List UInt8} (h : ∀ l, FitsB l → encB l ≠ b) : decBo b = none := by
  cases hd : decBo b with
  | none => rfl
  | some l => exact absurd (decBo_some hd).2 (h l (decBo_some hd).1)

theorem decBo_rel {b : List UInt8} {l : List Rec} {e : Int} (h : DecB b l e) : (e = 0 ∧ decBo b = some l ∧ FitsB l) ∨ (e = 3 ∧ l = [] ∧ decBo b = none) := by
  rcases h with ⟨h1, h2, h3⟩ | ⟨h1, h2, h3⟩
  · exact .inl ⟨h1, by rw [← h3]; exact decBo_enc h2, h2⟩
  · exact .inr ⟨h1, h2, decBo_none h3⟩

set_option linter.unusedVariables false in
/-- Records of an elder version, one by one, each behind its length. -/
def elderL (v : Nat) (d : List UInt8) : Option (List Rec) :=
  if hd : d = [] then some []
  else if hk : (dec62 d).2 = 0 ∨ d.length < (dec62 d).2 + (dec62 d).1 ∨ (dec62 d).1 < 1 ∨ (d.getD (dec62 d).2 0).toNat ≠ v then none
  else if (decR ((d.drop (dec62 d).2).take (dec62 d).1)).2 ≠ 0 then none
  else (elderL v (d.drop ((dec62 d).2 + (dec62 d).1))).map (fun t => (decR ((d.drop (dec62 d).2).take (dec62 d).1)).1 :: t)
termination_by d.length
decreasing_by
  have h1 : d.length ≠ 0 := by simpa using hd
  rw [List.length_drop]
  omega

/-- One record of an elder version. -/
def elderE (v : Nat) (r : Rec) : List UInt8 := Lib.uvarint (encR v r).length ++ encR v r

/-- A block's data. -/
def dataV (v : Nat) (l : List Rec) : List UInt8 := if v = 3 then encB l else l.flatMap (elderE v)

/-- The records, sixteen by sixteen. -/
def chunks (l : List Rec) : List (List Rec) := if l = [] then [] else l.take 16 :: chunks (l.drop 16)
termination_by l.length
decreasing_by
  rename_i h
  have h1 : l.length ≠ 0 := by simpa using h
  rw [List.length_drop]
  omega

/-- The data of the head. -/
def headS (v k f : Nat) : List UInt8 := 108 :: (Lib.uvarint v ++ (Lib.uvarint k ++ Lib.uvarint f))

/-- The data of the blocks. -/
def blocksS (v : Nat) (l : List Rec) : List (List UInt8) := (chunks l).map (dataV v)

/-- How far the blocks' frames stand from each other. -/
def offsS : Nat → List (List UInt8) → List UInt8
  | _, [] => []
  | d, x :: xs => Lib.uvarint d ++ offsS (frameOf x).length xs

/-- The data of the footer. -/
def footS (H : List UInt8) (B : List (List UInt8)) : List UInt8 := Lib.uvarint B.length ++ offsS (frameOf H).length B

/-- May records stand there from an index on? -/
def RecsOk (l : List Rec) (first : Int) : Prop := l.length ≤ 4096 ∧ (∀ r ∈ l, FitsR r) ∧ chainR first l

instance (l : List Rec) (first : Int) : Decidable (RecsOk l first) := by unfold RecsOk; infer_instance

/-- May a segment be? -/
def MayG (s : Seg) : Prop := (0 ≤ s.kind ∧ s.kind < 6 ∧ 0 ≤ s.first ∧ s.first < 4611686018427387904) ∧ RecsOk s.recs s.first

instance (s : Seg) : Decidable (MayG s) := by unfold MayG; infer_instance

/-- A segment's data, frame by frame. -/
def partsS (v : Nat) (s : Seg) : List (List UInt8) := headS v s.kind.toNat s.first.toNat :: (blocksS v s.recs ++ [footS (headS v s.kind.toNat s.first.toNat) (blocksS v s.recs)])

/-- A segment's bytes. -/
def encS8 (v : Nat) (s : Seg) : List UInt8 := framesOf (partsS v s)

/-- What a head's data tell: version, kind, first index, or the error. -/
def readH (d : List UInt8) : Except Int (Nat × Nat × Nat) :=
  let i := (dec62 (d.drop 1)).2
  let j := (dec62 (d.drop (1 + i))).2
  let m := (dec62 (d.drop (1 + i + j))).2
  if d = [] ∨ d.getD 0 0 ≠ 108 then .error 3
  else if i = 0 ∨ j = 0 ∨ m = 0 ∨ 1 + i + j + m ≠ d.length then .error 3
  else if (dec62 (d.drop 1)).1 < 1 ∨ 3 < (dec62 (d.drop 1)).1 then .error 6
  else if 6 ≤ (dec62 (d.drop (1 + i))).1 then .error 1
  else .ok ((dec62 (d.drop 1)).1, (dec62 (d.drop (1 + i))).1, (dec62 (d.drop (1 + i + j))).1)

/-- A block of 1 to 16 records that goes on: just what is written of them. -/
def readBk (v : Nat) (d : List UInt8) (next : Int) : Option (List Rec) :=
  match (if v < 3 then elderL v d else decBo d) with
  | none => none
  | some l => if ((1 ≤ l.length ∧ l.length ≤ 16) ∧ RecsOk l next) ∧ dataV v l = d then some l else none

/-- The blocks, one by one: the records, how many blocks they are, and the error that ends them. -/
def walkB (v : Nat) (first : Int) : List (List UInt8) → List Rec → Nat → List Rec × Nat × Int
  | [], acc, _ => (acc, 0, 0)
  | d :: ds, acc, last =>
    match readBk v d (first + acc.length) with
    | none => (acc, 0, 3)
    | some r => if last < 16 then (acc, 0, 3) else if 4096 < acc.length + r.length then (acc, 0, 5)
        else ((walkB v first ds (acc ++ r) r.length).1, (walkB v first ds (acc ++ r) r.length).2.1 + 1, (walkB v first ds (acc ++ r) r.length).2.2)

/-- What data, frame by frame, are: a segment, or the error. -/
def decL8 (L : List (List UInt8)) : Seg × Int :=
  if L.length < 2 then (zeroG, 16)
  else match readH (L.headD []) with
    | .error e => (zeroG, e)
    | .ok (v, k, f) =>
      if (walkB v f (L.tail.dropLast) [] 16).2.2 ≠ 0 then (zeroG, (walkB v f (L.tail.dropLast) [] 16).2.2)
      else if footS (L.headD []) L.tail.dropLast = L.getLastD [] then (⟨k, f, (walkB v f (L.tail.dropLast) [] 16).1⟩, 0) else (zeroG, 16)

/-- What bytes are: a segment, or the error. -/
def decS8 (b : List UInt8) : Seg × Int := if (wholeF b).2.2 ≠ 0 then (zeroG, ((wholeF b).2.2 : Int)) else decL8 (wholeF b).1

/-- What is whole of a segment. -/
def recL8 (L : List (List UInt8)) : Seg × Nat × Bool :=
  if L = [] then (zeroG, 0, false)
  else match readH (L.headD []) with
    | .error _ => (zeroG, 0, false)
    | .ok (v, k, f) => (⟨k, f, (walkB v f L.tail [] 16).1⟩, (framesOf (L.take (1 + (walkB v f L.tail [] 16).2.1))).length, true)

def recS8 (b : List UInt8) : Seg × Nat × Bool := recL8 (wholeF b).1

/-- Where the block of an index stands. -/
def findS8 (b : List UInt8) (index : Int) : Nat × Int :=
  if (decS8 b).2 ≠ 0 then (0, (decS8 b).2)
  else if index < (decS8 b).1.first ∨ (decS8 b).1.first + (decS8 b).1.recs.length ≤ index then (0, 8)
  else ((framesOf ((wholeF b).1.take (1 + (index - (decS8 b).1.first).toNat / 16))).length, 0)

/-- A segment's records, upgraded. -/
def upgG (v : Nat) (s : Seg) : Seg := ⟨s.kind, s.first, s.recs.map (upgR v)⟩

end Go.Proofs.YtddhcohjmgdajaaDoor

/- Slices of records cut in the midst, put behind others; slices of slices of bytes cut; a segment's value and its box. -/
namespace Go.Proofs.YtddhcohjmgdajaaDoor
open Go.RowKit

set_option maxRecDepth 100000 in
theorem RdR.mid {w : World} {ao : Option Addr} {n cap : Nat} {l : List Rec} (h : RdR w (.slice ao n cap) l) (i j m : Nat) (hij : i ≤ j) (hj : j ≤ l.length) (hm : j ≤ m) (hmc : m ≤ cap) : RdR w (sliced ao i j m 7) ((l.drop i).take (j - i)) := by
  obtain ⟨ao', cap', hv, h1, h2, h3, hi, h4⟩ := h
  simp only [Value.slice.injEq] at hv
  obtain ⟨rfl, rfl, rfl⟩ := hv
  have hlen : ((l.drop i).take (j - i)).length = j - i := by simp; omega
  have hi' : ∀ n ∈ (l.drop i).take (j - i), RecOk n := fun n hn => hi n (List.mem_of_mem_drop (List.mem_of_mem_take hn))
  unfold sliced
  by_cases hmi : m = i
  · rw [if_pos hmi]
    have e : j - i = 0 := by omega
    refine ⟨ao, m - i, by rw [hlen], by omega, by omega, fun hn => by have := h3 hn; omega, hi', .inl ?_⟩
    rw [e]
    simp
  · rw [if_neg hmi]
    refine ⟨ao.map (·.add (i * 7)), m - i, by rw [hlen], by omega, by omega, fun hn => ?_, hi', ?_⟩
    · have hn' : ao = none := by simpa using hn
      have := h3 hn'
      omega
    · rcases h4 with h4 | ⟨b, off, h5, h6⟩
      · exact .inl (by rw [h4]; simp)
      · refine .inr ⟨b, off + i * 7, ?_, fun k hk => ?_⟩
        · rw [h5, Option.map_some, Addr.add_lit]
        · rw [hlen] at hk
          have h7 := h6 (i + k) (by omega)
          have e1 : off + i * 7 + k * 7 = off + (i + k) * 7 := by omega
          have e2 : ((l.drop i).take (j - i)).getD k zeroR = l.getD (i + k) zeroR := by simp [List.getD, hk]
          rw [e1, e2]
          exact h7

set_option maxRecDepth 100000 in
theorem run_cutR_lh (w : World) (v : Value) (l : List Rec) (hr : RdR w v l) (k k' : IntKind) (i j : Int) (h0 : 0 ≤ i) (h1 : i ≤ j) (h2 : j ≤ l.length) :
    ∃ v', (Instr.sliceAt 22 v (some (.int k i)) (some (.int k' j)) none).run Tryd.prog w = .ok v' w ∧ RdR w v' ((l.drop i.toNat).take (j.toNat - i.toNat)) := by
  have h := hr
  obtain ⟨ao, cap, rfl, hlc, _⟩ := hr
  refine ⟨sliced ao i.toNat j.toNat cap 7, ?_, h.mid i.toNat j.toNat cap (by omega) (by omega) (by omega) (Nat.le_refl _)⟩
  rw [run_sliceAt_slice w 22 _ _ _ _ under_recs, run_slice_lh w 22 ao l.length cap under_recs k k' i j h0 h1 (by omega), elem_recs, size_rec]
  rfl

set_option maxRecDepth 100000 in
theorem run_cutR_h (w : World) (v : Value) (l : List Rec) (hr : RdR w v l) (k : IntKind) (j : Int) (h0 : 0 ≤ j) (h2 : j ≤ l.length) :
    ∃ v', (Instr.sliceAt 22 v none (some (.int k j)) none).run Tryd.prog w = .ok v' w ∧ RdR w v' (l.take j.toNat) := by
  have h := hr
  obtain ⟨ao, cap, rfl, hlc, _⟩ := hr
  refine ⟨sliced ao 0 j.toNat cap 7, ?_, ?_⟩
  · rw [run_sliceAt_slice w 22 _ _ _ _ under_recs, run_slice_h w 22 ao l.length cap under_recs k j h0 (by omega), elem_recs, size_rec]
    rfl
  · have := h.mid 0 j.toNat cap (by omega) (by omega) (by omega) (Nat.le_refl _)
    rw [List.drop_zero, Nat.sub_zero] at this
    exact this

set_option maxRecDepth 100000 in
theorem run_cutR_l (w : World) (v : Value) (l : List Rec) (hr : RdR w v l) (k : IntKind) (i : Int) (h0 : 0 ≤ i) (h2 : i ≤ l.length) :
    ∃ v', (Instr.sliceAt 22 v (some (.int k i)) none none).run Tryd.prog w = .ok v' w ∧ RdR w v' (l.drop i.toNat) := by
  have h := hr
  obtain ⟨ao, cap, rfl, hlc, _⟩ := hr
  refine ⟨sliced ao i.toNat l.length cap 7, ?_, ?_⟩
  · rw [run_sliceAt_slice w 22 _ _ _ _ under_recs, run_slice_l w 22 ao l.length cap under_recs k i h0 (by omega), elem_recs, size_rec]
    rfl
  · have := h.mid i.toNat l.length cap (by omega) (Nat.le_refl _) hlc (Nat.le_refl _)
    rw [List.take_of_length_le (by rw [List.length_drop]; omega)] at this
    exact this

set_option maxRecDepth 100000 in
theorem wpList_cutR (w : World) {ops : Array Oper} {rest : List Oper} {o : Oper} {a : Act} {Q : Exit → Act → World → Prop} (hgd : o.guard = none) (x : Operand) (lo hi mx : Option Operand)
    (ho : o.op = .slice 22 x lo hi mx) (l : List Rec)
    (hrun : ∃ v', (Instr.sliceAt 22 (a.eval x) (lo.map a.eval) (hi.map a.eval) (mx.map a.eval)).run Tryd.prog w = .ok v' w ∧ RdR w v' l)
    (h : ∀ v', RdR w v' l → wpList Tryd.prog ops Q rest (a.put o.dst v') w) : wpList Tryd.prog ops Q (o :: rest) a w :=
  wpList_plain hgd fun _ hK => by
    obtain ⟨v', hrun, hr⟩ := hrun
    unfold Oper.wp execOp
    simp only [ho, hrun, Sem.run_bind, Sem.run_pure, Result.andThen_ok]
    exact hK _ _ (h v' hr)

set_option maxRecDepth 100000 in
theorem RdL.mid {w : World} {ao : Option Addr} {n cap : Nat} {l : List (List UInt8)} (h : RdL w (.slice ao n cap) l) (i j m : Nat) (hij : i ≤ j) (hj : j ≤ l.length) (hm : j ≤ m) (hmc : m ≤ cap) : RdL w (sliced ao i j m 1) ((l.drop i).take (j - i)) := by
  obtain ⟨ao', cap', hv, h1, h2, h3, h4⟩ := h
  simp only [Value.slice.injEq] at hv
  obtain ⟨rfl, rfl, rfl⟩ := hv
  have hlen : ((l.drop i).take (j - i)).length = j - i := by simp; omega
  unfold sliced
  by_cases hmi : m = i
  · rw [if_pos hmi]
    have e : j - i = 0 := by omega
    refine ⟨ao, m - i, by rw [hlen], by omega, by omega, fun hn => by have := h3 hn; omega, .inl ?_⟩
    rw [e]
    simp
  · rw [if_neg hmi]
    refine ⟨ao.map (·.add (i * 1)), m - i, by rw [hlen], by omega, by omega, fun hn => ?_, ?_⟩
    · have hn' : ao = none := by simpa using hn
      have := h3 hn'
      omega
    · rcases h4 with h4 | ⟨b, off, h5, h6⟩
      · exact .inl (by rw [h4]; simp)
      · refine .inr ⟨b, off + i, ?_, fun k hk => ?_⟩
        · rw [h5, Nat.mul_one, Option.map_some, Addr.add_lit]
        · rw [hlen] at hk
          obtain ⟨x, hx, hxr⟩ := h6 (i + k) (by omega)
          refine ⟨x, by rw [Nat.add_assoc]; exact hx, ?_⟩
          have e2 : ((l.drop i).take (j - i)).getD k [] = l.getD (i + k) [] := by simp [List.getD, hk]
          rw [e2]
          exact hxr

set_option maxRecDepth 100000 in
theorem run_cutL_l (w : World) (v : Value) (L : List (List UInt8)) (hr : RdL w v L) (k : IntKind) (i : Int) (h0 : 0 ≤ i) (h2 : i ≤ L.length) :
    ∃ v', (Instr.sliceAt 49 v (some (.int k i)) none none).run Tryd.prog w = .ok v' w ∧ RdL w v' (L.drop i.toNat) := by
  have h := hr
  obtain ⟨ao, cap, rfl, hlc, _⟩ := hr
  refine ⟨sliced ao i.toNat L.length cap 1, ?_, ?_⟩
  · rw [run_sliceAt_slice w 49 _ _ _ _ under_rows, run_slice_l w 49 ao L.length cap under_rows k i h0 (by omega), elem_rows, size_bytes]
    rfl
  · have := h.mid i.toNat L.length cap (by omega) (Nat.le_refl _) hlc (Nat.le_refl _)
    rw [List.take_of_length_le (by rw [List.length_drop]; omega)] at this
    exact this

set_option maxRecDepth 100000 in
/-- The cells of records that are read. -/
theorem RdR.cells {w : World} {ao : Option Addr} {l : List Rec} (h : l = [] ∨ ∃ b off, ao = some ⟨b, off, none⟩ ∧ ∀ j, j < l.length → RecAt w b (off + j * 7) (l.getD j zeroR)) (a : Addr) (ha : ao = some a) :
    ∀ j u, (recCells l)[j]? = some u → w.cell? (a.add j) = some u := by
  intro j u hu
  rcases h with h | ⟨b, off, h5, h6⟩
  · rw [h] at hu
    simp [recCells] at hu
  · rw [h5] at ha
    injection ha with ha
    subst ha
    have hj : j < (recCells l).length := (List.getElem?_eq_some_iff.1 hu).1
    rw [recCells_length] at hj
    have hdiv : j = j / 7 * 7 + j % 7 := by omega
    have hg := recCells_get l (j / 7) (j % 7) (by omega) (by omega)
    rw [← hdiv, hu] at hg
    obtain ⟨c0, c1, c2, c3, c4, c5, c6⟩ := h6 (j / 7) (by omega)
    have e : ∀ k, k < 7 → off + (j / 7 * 7 + k) = off + j / 7 * 7 + k := fun k _ => by omega
    rw [Addr.add_lit, hdiv, e (j % 7) (by omega)]
    have hk : j % 7 = 0 ∨ j % 7 = 1 ∨ j % 7 = 2 ∨ j % 7 = 3 ∨ j % 7 = 4 ∨ j % 7 = 5 ∨ j % 7 = 6 := by omega
    rcases hk with hk | hk | hk | hk | hk | hk | hk
    all_goals
      rw [hk] at hg ⊢
      rw [hg]
      first | exact c0 | exact c1 | exact c2 | exact c3 | exact c4 | exact c5 | exact c6

set_option maxRecDepth 100000 in
/-- Records behind a row of one's own. -/
theorem run_append_recs (w : World) (ty : TypeId) (B : Nat) (v : Value) (l0 : List Rec) (hown : OwnR w B v l0) (vx : Value) (l : List Rec) (hr : RdR w vx l)
    (hlim : l0.length + l.length ≤ 1000000) (hbase : B ≤ w.heap.size) :
    ∃ v' w', (Builtin.append_ #[22, 22] ty #[v, vx]).run Tryd.prog w = .ok v' w' ∧ OwnR w' B v' (l0 ++ l) ∧ Below B w w' := by
  obtain ⟨i0, hi, hz0, hz1, hz2⟩ := info_parts info_rec
  obtain ⟨ao, cap, rfl, hlc, hcm, hn0, _, hao⟩ := hr
  cases ao with
  | none =>
    have hc := hn0 rfl
    subst hc
    have hl : l = [] := List.eq_nil_of_length_eq_zero (by omega)
    subst hl
    have hrun := run_append_owned_none (P := Tryd.prog) w B 22 ty 48 i0 7 Tryd.underlying22 hi v l0.length (recCells l0) hown
    exact ⟨v, w, hrun, by rw [List.append_nil]; exact hown, Below.refl _ _⟩
  | some a =>
    obtain ⟨v', w', hrun, ho, hg, _⟩ := run_append_own (P := Tryd.prog) w B 22 ty 48 i0 _ 7 56 Tryd.underlying22 hi hz0 hz1 hz2 rfl (by decide) v l0.length (recCells l0) hown a l.length cap (recCells l)
      (recCells_length l) (RdR.cells hao a rfl) (recCells_one l) (by unfold maxLen; omega) (by omega) hbase
    refine ⟨v', w', hrun, ?_, ?_⟩
    · unfold OwnR
      rw [List.length_append, recCells_app]
      exact ho
    · exact (Below.refl _ _).grown hg hbase (fun k hk => (World.ownsRow.lt hown k hk).1)

set_option maxRecDepth 100000 in
theorem wpList_append_recs (w : World) {ops : Array Oper} {rest : List Oper} {o : Oper} {a : Act} {Q : Exit → Act → World → Prop} (hgd : o.guard = none) (s x : Operand)
    (ho : o.op = .call { callee := .builtin .append, args := #[s, x], argTypes := #[22, 22] })
    (B : Nat) (v : Value) (l0 : List Rec) (hs : a.eval s = v) (hown : OwnR w B v l0) (vx : Value) (l : List Rec) (hx : a.eval x = vx) (hr : RdR w vx l)
    (hlim : l0.length + l.length ≤ 1000000) (hbase : B ≤ w.heap.size)
    (h : ∀ v' w', OwnR w' B v' (l0 ++ l) → Below B w w' → wpList Tryd.prog ops Q rest (a.put o.dst v') w') : wpList Tryd.prog ops Q (o :: rest) a w :=
  wpList_plain hgd fun _ hK => by
    obtain ⟨v', w', hrun, h2, h3⟩ := run_append_recs w o.type B v l0 hown vx l hr hlim hbase
    unfold Oper.wp execOp
    simp only [ho, resolve, invoke, builtin, Sem.run_bind, Sem.run_pure, Result.andThen_ok, List.map_toArray, List.map_cons, List.map_nil, hs, hx, hrun]
    exact hK _ _ (h v' w' h2 h3)

/-- The length of a slice value. -/
def lenV8 : Value → Nat
  | .slice _ n _ => n
  | _ => 0

/-- A segment's value. -/
def SgV (w : World) (v : Value) (s : Seg) : Prop := ∃ vl, v = .agg #[.int .i64 s.kind, .int .i64 s.first, vl] ∧ RdR w vl s.recs ∧ I64 s.kind ∧ I64 s.first

set_option maxRecDepth 100000 in
theorem SgV.below {w w' : World} {v : Value} {s : Seg} (h : SgV w v s) {B : Nat} (hb : Below B w w') (hB : w.heap.size ≤ B) : SgV w' v s := by
  obtain ⟨vl, h1, h2, h3⟩ := h
  exact ⟨vl, h1, h2.below hb hB, h3⟩

/-- A segment's box. -/
def Bsg (w : World) (b : Nat) (cs : Array Value) : Prop := w.heap[b]? = some (.cells cs 24 (0, 0))

set_option maxRecDepth 100000 in
theorem Bsg.lt {w : World} {b : Nat} {cs : Array Value} (h : Bsg w b cs) : b < w.heap.size := (Array.getElem?_eq_some_iff.1 h).1

set_option maxRecDepth 100000 in
theorem Bsg.below {w w' : World} {b B : Nat} {cs : Array Value} (h : Bsg w b cs) (hb : Below B w w') (hB : w.heap.size ≤ B) : Bsg w' b cs := (hb.block b (by have := h.lt; omega)).trans h

set_option maxRecDepth 100000 in
theorem Bsg.cell {w : World} {b : Nat} {cs : Array Value} (h : Bsg w b cs) (j : Nat) : w.cell? ⟨b, j, none⟩ = cs[j]? ∧ w.frozen? ⟨b, j, none⟩ = false := ⟨cell_of_row w b j _ _ _ h, frozen_of_row w b j _ _ h⟩

end Go.Proofs.YtddhcohjmgdajaaDoor

