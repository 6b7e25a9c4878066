/- Contract of ferrymanref06: Decode. -/
import Derived.Test.YtonibpnhhdjklaaDoorRef06C
import Derived.Deep.RegionHeld
namespace Go.Proofs.YtonibpnhhdjklaaDoor
open Go.RowKit

/-- What is decoded: a record and no error, or none and the error. -/
def DecodedR (w : World) (l : List UInt8) (e : Ending) (w' : World) : Prop :=
  e = .returned (.tuple #[recV (decR l).1, .int .i64 (decR l).2]) ∧ Below w.heap.size w w'

def finR (v : Nat) : Except Int (Rec × Nat) → Rec × Int
  | .error e => (zeroR, e)
  | .ok (r, found) => if found ≠ v + 2 then (zeroR, 7) else if FitsR r then (r, 0) else (zeroR, 1)

theorem decR_fin {l : List UInt8} (h : l ≠ []) (hk : (dec62 l).2 ≠ 0) (h1 : 1 ≤ (dec62 l).1) (h3 : (dec62 l).1 ≤ 3) : decR l = finR (dec62 l).1 (walkV (dec62 l).1 (l.drop (dec62 l).2) (-1) 0 zeroR) := by
  unfold decR
  rw [if_neg h, if_neg hk, if_neg (by omega)]
  rfl

/-- The boxes within Decode's loop. -/
structure DecIR (w wr : World) (r : Rec) : Prop where
  res : Br wr w.heap.size #[.int .i64 0, .int .i64 0, .int .i64 0, .int .i64 0, .int .i64 0, .int .i64 0, .int .i64 0]
  none : Br wr (w.heap.size + 1) #[.int .i64 0, .int .i64 0, .int .i64 0, .int .i64 0, .int .i64 0, .int .i64 0, .int .i64 0]
  box : Br wr (w.heap.size + 1 + 1) #[.int .i64 r.idx, .int .i64 r.proc, .int .i64 r.seq, .int .i64 r.op.code, .int .i64 r.op.a, .int .i64 r.op.b, .int .i64 r.resp]
  below : Below w.heap.size w wr

theorem belowSeven {C : Nat} {w0 w : World} (h : Below C w0 w) (R : Nat) (hR : C ≤ R) (x0 x1 x2 x3 x4 x5 x6 : Value) : Below C w0 (((((((w.setCell ⟨R, 0, none⟩ x0).setCell ⟨R, 1, none⟩ x1).setCell ⟨R, 2, none⟩ x2).setCell ⟨R, 3, none⟩ x3).setCell ⟨R, 4, none⟩ x4).setCell ⟨R, 5, none⟩ x5).setCell ⟨R, 6, none⟩ x6) :=
  ((((((h.setCell hR _).setCell hR _).setCell hR _).setCell hR _).setCell hR _).setCell hR _).setCell hR _

theorem DecodedR.fail {w w' : World} {l : List UInt8} {n : Int} (h : decR l = (zeroR, n)) (hb : Below w.heap.size w w') : DecodedR w l (.returned (.tuple #[.agg #[.int .i64 0, .int .i64 0, .int .i64 0, .int .i64 0, .int .i64 0, .int .i64 0, .int .i64 0], .int .i64 n])) w' := by
  refine ⟨?_, hb⟩
  rw [h]
  rfl

theorem DecIR.on {w wr W : World} {r : Rec} (h : DecIR w wr r) (hb : Below wr.heap.size wr W) : DecIR w W r :=
  ⟨h.res.below hb (Nat.le_refl _), h.none.below hb (Nat.le_refl _), h.box.below hb (Nat.le_refl _), h.below.trans (hb.mono h.below.size)⟩

theorem dec62_lt (l : List UInt8) : (dec62 l).1 < 4611686018427387904 := by
  rcases dec62_cases l with h | h
  · rw [h]; decide
  · exact h.1

theorem valueF_le (r : Rec) (f : Nat) (l : List UInt8) : (valueF r f l).2 ≤ l.length := by
  have h1 := dec62_le l
  have h2 := dec64_le l
  have h3 := getOp_le l
  unfold valueF
  repeat' split
  all_goals assumption

theorem cut_form (W : World) (ao : Option Addr) (cap : Nat) (l : List UInt8) (hr : Rd W (.slice ao l.length cap) l) (n : Nat) (hn : n ≤ l.length) : Rd W (.slice (if cap = n then ao else Option.map (fun x => x.add n) ao) (l.length - n) (cap - n)) (l.drop n) := by
  have hlc : l.length ≤ cap := by
    obtain ⟨a, c, e, h, -⟩ := hr
    simp only [Value.slice.injEq] at e
    omega
  have h := hr.mid n l.length cap (by omega) (by omega) (by omega) (by omega)
  rw [List.take_of_length_le (by rw [List.length_drop]; omega)] at h
  simpa [sliced] using h

/-- One field, its number read. -/
def stepV (v : Nat) (l : List UInt8) (last : Int) (found : Nat) (r : Rec) (f k : Nat) : Except Int (Rec × Nat) :=
  if k = 0 ∨ (f : Int) ≤ last then .error 3
  else if hasV v f then (if (valueF r f (l.drop k)).2 = 0 then .error 3 else walkV v (l.drop (k + (valueF r f (l.drop k)).2)) f (found + 1) (valueF r f (l.drop k)).1)
  else if f < 16 ∨ v = 3 then .error 7
  else if (dec62 (l.drop k)).2 = 0 ∨ l.length < k + (dec62 (l.drop k)).2 + (dec62 (l.drop k)).1 then .error 3
  else walkV v (l.drop (k + (dec62 (l.drop k)).2 + (dec62 (l.drop k)).1)) f found r

theorem walk_cons (v : Nat) (l : List UInt8) (last : Int) (found : Nat) (r : Rec) (hl : l ≠ []) : walkV v l last found r = stepV v l last found r (dec62 l).1 (dec62 l).2 := by
  rw [walkV, dif_neg hl]
  rfl

theorem DecIR.made (w : World) : DecIR w (((w.alloc (.cells #[.int .i64 0, .int .i64 0, .int .i64 0, .int .i64 0, .int .i64 0, .int .i64 0, .int .i64 0] 25)).alloc (.cells #[.int .i64 0, .int .i64 0, .int .i64 0, .int .i64 0, .int .i64 0, .int .i64 0, .int .i64 0] 25)).alloc (.cells #[.int .i64 0, .int .i64 0, .int .i64 0, .int .i64 0, .int .i64 0, .int .i64 0, .int .i64 0] 25)) zeroR := by
  refine ⟨?_, ?_, ?_, ?_⟩
  · exact (Below.heap_alloc _ _ _ (by simp; omega)).trans ((Below.heap_alloc _ _ _ (by simp)).trans (heap_alloc_new w _))
  · exact (Below.heap_alloc _ _ _ (by simp)).trans (two_new w _ _)
  · have h := two_new (w.alloc (.cells #[.int .i64 0, .int .i64 0, .int .i64 0, .int .i64 0, .int .i64 0, .int .i64 0, .int .i64 0] 25)) (.cells #[.int .i64 0, .int .i64 0, .int .i64 0, .int .i64 0, .int .i64 0, .int .i64 0, .int .i64 0] 25) (.cells #[.int .i64 0, .int .i64 0, .int .i64 0, .int .i64 0, .int .i64 0, .int .i64 0, .int .i64 0] 25)
    have e : ∀ X, (w.alloc X).heap.size = w.heap.size + 1 := fun X => by simp
    rw [e] at h
    exact h
  · exact Below.allocs (Below.allocs (Below.allocs (Below.refl _ _) _) _) _

/-- A cut of bytes answers the same in every world. -/
theorem run_cut_all (W : World) (ao : Option Addr) (l : List UInt8) (cap : Nat) (_hlc : l.length ≤ cap) (i : Int) (n : Nat) (hi : i = (n : Int)) (hn : n ≤ l.length) :
    (Instr.sliceAt 27 (.slice ao l.length cap) (some (.int .i64 i)) none none).run Tryd.prog W = .ok (sliced ao n l.length cap 1) W := by
  subst hi
  rw [run_sliceAt_slice W 27 _ _ _ _ under_bytes, run_slice_l W 27 ao l.length cap under_bytes .i64 (n : Int) (by omega) (by omega), elem_bytes, size_u8]
  rfl

theorem heap_seven (W : World) (b : Nat) (c0 c1 c2 c3 c4 c5 c6 : Value) (h : Br W b #[c0, c1, c2, c3, c4, c5, c6]) (x0 x1 x2 x3 x4 x5 x6 : Value) :
    Br (((((((W.setCell ⟨b, 0, none⟩ x0).setCell ⟨b, 1, none⟩ x1).setCell ⟨b, 2, none⟩ x2).setCell ⟨b, 3, none⟩ x3).setCell ⟨b, 4, none⟩ x4).setCell ⟨b, 5, none⟩ x5).setCell ⟨b, 6, none⟩ x6) b #[x0, x1, x2, x3, x4, x5, x6] := by
  have h0 := heap_setCell_same W b 0 _ _ x0 h
  have h1 := heap_setCell_same _ b 1 _ _ x1 h0
  have h2 := heap_setCell_same _ b 2 _ _ x2 h1
  have h3 := heap_setCell_same _ b 3 _ _ x3 h2
  have h4 := heap_setCell_same _ b 4 _ _ x4 h3
  have h5 := heap_setCell_same _ b 5 _ _ x5 h4
  have h6 := heap_setCell_same _ b 6 _ _ x6 h5
  unfold Br
  simpa using h6

theorem heap_seven_else (W : World) (b c : Nat) (hbc : c ≠ b) (x0 x1 x2 x3 x4 x5 x6 : Value) :
    (((((((W.setCell ⟨b, 0, none⟩ x0).setCell ⟨b, 1, none⟩ x1).setCell ⟨b, 2, none⟩ x2).setCell ⟨b, 3, none⟩ x3).setCell ⟨b, 4, none⟩ x4).setCell ⟨b, 5, none⟩ x5).setCell ⟨b, 6, none⟩ x6).heap[c]? = W.heap[c]? := by
  rw [Below.heap_setCell _ _ _ _ hbc, Below.heap_setCell _ _ _ _ hbc, Below.heap_setCell _ _ _ _ hbc, Below.heap_setCell _ _ _ _ hbc, Below.heap_setCell _ _ _ _ hbc, Below.heap_setCell _ _ _ _ hbc, Below.heap_setCell _ _ _ _ hbc]

theorem decIR_set {w W : World} {r X : Rec} (h : DecIR w W r) : DecIR w (((((((W.setCell ⟨w.heap.size + 1 + 1, 0, none⟩ (.int .i64 X.idx)).setCell ⟨w.heap.size + 1 + 1, 1, none⟩ (.int .i64 X.proc)).setCell ⟨w.heap.size + 1 + 1, 2, none⟩ (.int .i64 X.seq)).setCell ⟨w.heap.size + 1 + 1, 3, none⟩ (.int .i64 X.op.code)).setCell ⟨w.heap.size + 1 + 1, 4, none⟩ (.int .i64 X.op.a)).setCell ⟨w.heap.size + 1 + 1, 5, none⟩ (.int .i64 X.op.b)).setCell ⟨w.heap.size + 1 + 1, 6, none⟩ (.int .i64 X.resp)) X := by
  refine ⟨?_, ?_, heap_seven W _ _ _ _ _ _ _ _ h.box _ _ _ _ _ _ _, belowSeven h.below _ (by omega) _ _ _ _ _ _ _⟩
  · exact (heap_seven_else W (w.heap.size + 1 + 1) w.heap.size (by omega) _ _ _ _ _ _ _).trans h.res
  · exact (heap_seven_else W (w.heap.size + 1 + 1) (w.heap.size + 1) (by omega) _ _ _ _ _ _ _).trans h.none

set_option maxRecDepth 100000 in
set_option maxHeartbeats 4000000 in
theorem refDecodeR_any (vb : Value) (l : List UInt8) (w : World) (hr : Rd w vb l) :
    Calls Tryd.prog 17 #[vb] w fun e w' => DecodedR w l e w' := by
  have HR := hide hr
  obtain ⟨ao, cap, rfl, hlc, hcm, -⟩ := hr
  have hml : (l.length : Int) ≤ 9223372036854775807 := by unfold maxLen at hcm; omega
  have HLC := hide hlc
  clear hlc hcm
  have HB1 : Hid (∀ X Y, Below w.heap.size w ((w.alloc X).alloc Y)) := fun X Y => Below.allocs (Below.allocs (Below.refl _ _) X) Y
  have HRW := hide (fun X Y => HR.out.below (HB1.out X Y) (Nat.le_refl _))
  have HG1 : Hid (∀ W, Rd W (.slice ao l.length cap) l → Calls Tryd.prog 31 #[.slice ao l.length cap] W fun e w' => e = .returned (.tuple #[.int .i64 ((dec62 l).1 : Nat), .int .i64 ((dec62 l).2 : Nat)]) ∧ w' = W) := fun W h => refGet_any _ l W h
  by_cases hl : l = []
  · have HN : Hid (decR l = (zeroR, 2)) := by rw [hl]; exact decR_nil
    have hl0 : l.length = 0 := by rw [hl]; rfl
    rw [hl0]
    clear hl hl0
    go_enter Tryd.func17, Tryd.ntmps17
    go_wp2
    refine bodyPost_ret (v := .tuple #[.agg #[.int .i64 0, .int .i64 0, .int .i64 0, .int .i64 0, .int .i64 0, .int .i64 0, .int .i64 0], .int .i64 2]) (by simp [results, Tryd.results17, go_sem]) rfl ?_
    exact DecodedR.fail HN.out (HB1.out _ _)
  have hpos0 : l.length ≠ 0 := by simpa using hl
  have hpos : ((l.length : Int) == 0) = false := beq_eq_false_iff_ne.2 (by omega)
  have b1 := dec62_le l
  by_cases hk : (dec62 l).2 = 0
  · have HN : Hid (decR l = (zeroR, 3)) := by unfold decR; rw [if_neg hl, if_pos hk]; exact hide rfl
    rw [hk] at HG1
    generalize (dec62 l).1 = v at *
    clear hl hk b1
    go_enter Tryd.func17, Tryd.ntmps17
    go_wp2_with fail
    refine (HG1.out _ (HRW.out _ _)).mono ?_
    rintro e W1 ⟨rfl, rfl⟩
    go_wp2
    refine bodyPost_ret (v := .tuple #[.agg #[.int .i64 0, .int .i64 0, .int .i64 0, .int .i64 0, .int .i64 0, .int .i64 0, .int .i64 0], .int .i64 3]) (by simp [results, Tryd.results17, go_sem]) rfl ?_
    exact DecodedR.fail HN.out (HB1.out _ _)
  have ek : (((dec62 l).2 : Int) == 0) = false := beq_eq_false_iff_ne.2 (by omega)
  by_cases h1 : 1 ≤ (dec62 l).1
  case neg =>
    have HN : Hid (decR l = (zeroR, 6)) := by unfold decR; rw [if_neg hl, if_neg hk, if_pos (by omega)]; exact hide rfl
    have h1' : ((dec62 l).1 : Int) < 1 := by omega
    generalize (dec62 l).1 = v at *
    generalize (dec62 l).2 = k at *
    clear hl hk b1 h1
    go_enter Tryd.func17, Tryd.ntmps17
    go_wp2_with fail
    refine (HG1.out _ (HRW.out _ _)).mono ?_
    rintro e W1 ⟨rfl, rfl⟩
    go_wp2
    refine bodyPost_ret (v := .tuple #[.agg #[.int .i64 0, .int .i64 0, .int .i64 0, .int .i64 0, .int .i64 0, .int .i64 0, .int .i64 0], .int .i64 6]) (by simp [results, Tryd.results17, go_sem]) rfl ?_
    exact DecodedR.fail HN.out (HB1.out _ _)
  by_cases h3 : (dec62 l).1 ≤ 3
  case neg =>
    have HN : Hid (decR l = (zeroR, 6)) := by unfold decR; rw [if_neg hl, if_neg hk, if_pos (by omega)]; exact hide rfl
    have h1' : ¬ ((dec62 l).1 : Int) < 1 := by omega
    have h3' : 3 < ((dec62 l).1 : Int) := by omega
    generalize (dec62 l).1 = v at *
    generalize (dec62 l).2 = k at *
    clear hl hk b1 h1 h3
    go_enter Tryd.func17, Tryd.ntmps17
    go_wp2_with fail
    refine (HG1.out _ (HRW.out _ _)).mono ?_
    rintro e W1 ⟨rfl, rfl⟩
    go_wp2
    refine bodyPost_ret (v := .tuple #[.agg #[.int .i64 0, .int .i64 0, .int .i64 0, .int .i64 0, .int .i64 0, .int .i64 0, .int .i64 0], .int .i64 6]) (by simp [results, Tryd.results17, go_sem]) rfl ?_
    exact DecodedR.fail HN.out (HB1.out _ _)
  have HN := hide (decR_fin hl hk h1 h3)
  have h1' : ¬ ((dec62 l).1 : Int) < 1 := by omega
  have h3' : ¬ 3 < ((dec62 l).1 : Int) := by omega
  have HST := hide (DecIR.made w)
  unfold DecodedR
  generalize decR l = D at *
  generalize (dec62 l).1 = v at *
  generalize (dec62 l).2 = k at *
  clear hl hk
  go_enter Tryd.func17, Tryd.ntmps17
  go_wp2_with fail
  refine (HG1.out _ (HRW.out _ _)).mono ?_
  rintro e W1 ⟨rfl, rfl⟩
  clear HG1 HRW HB1
  go_wp2
  go_loopw [6, 8, 9] (fun ta la fo wr => ∃ (A : Nat) (L : Int) (F : Nat) (r : Rec), ta = .int .i64 (A : Int) ∧ la = .int .i64 L ∧ fo = .int .i64 (F : Int) ∧ A ≤ l.length ∧ F ≤ A ∧ Hid (D = finR v (walkV v (l.drop A) L F r)) ∧ Hid (DecIR w wr r)) (fun ta _ _ _ => l.length - (intOf ta).toNat)
  case atStart => exact ⟨k, -1, 0, zeroR, rfl, rfl, rfl, b1, Nat.zero_le _, HN, HST⟩
  case round =>
    obtain ⟨A, L, F, r, rfl, rfl, rfl, hA, hF, hw, hat⟩ := hrel
    by_cases hlt : A < l.length
    case neg =>
      have hlt' : ¬ (A : Int) < (l.length : Int) := by omega
      have HW : Hid (D = finR v (.ok (r, F))) := by
        refine hide ?_
        rw [hw.out, List.drop_of_length_le (by omega), walk_nil]
      clear hw HN
      by_cases hf : F = v + 2
      case neg =>
        have hne : ((F : Int) != (v : Int) + 2) = true := by rw [bne_iff_ne]; omega
        have HE : Hid (D = (zeroR, 7)) := by
          refine hide ?_
          rw [HW.out]
          exact if_pos hf
        clear hf
        obtain ⟨n0, -⟩ := hat.out.none.cell 0
        obtain ⟨n1, -⟩ := hat.out.none.cell 1
        obtain ⟨n2, -⟩ := hat.out.none.cell 2
        obtain ⟨n3, -⟩ := hat.out.none.cell 3
        obtain ⟨n4, -⟩ := hat.out.none.cell 4
        obtain ⟨n5, -⟩ := hat.out.none.cell 5
        obtain ⟨n6, -⟩ := hat.out.none.cell 6
        obtain ⟨r0, f0⟩ := hat.out.res.cell 0
        obtain ⟨r1, f1⟩ := hat.out.res.cell 1
        obtain ⟨r2, f2⟩ := hat.out.res.cell 2
        obtain ⟨r3, f3⟩ := hat.out.res.cell 3
        obtain ⟨r4, f4⟩ := hat.out.res.cell 4
        obtain ⟨r5, f5⟩ := hat.out.res.cell 5
        obtain ⟨r6, f6⟩ := hat.out.res.cell 6
        go_wp2
        refine bodyPost_ret (v := .tuple #[.agg #[.int .i64 0, .int .i64 0, .int .i64 0, .int .i64 0, .int .i64 0, .int .i64 0, .int .i64 0], .int .i64 7]) (by simp [results, Tryd.results17, go_sem, r0, r1, r2, r3, r4, r5, r6]) rfl ?_
        rw [HE.out]
        exact ⟨rfl, belowSeven hat.out.below w.heap.size (Nat.le_refl _) _ _ _ _ _ _ _⟩
      have hne : ((F : Int) != (v : Int) + 2) = false := by rw [bne_eq_false_iff_eq]; omega
      have HW2 : Hid (D = if FitsR r then (r, 0) else (zeroR, 1)) := by
        refine hide ?_
        rw [HW.out]
        exact if_neg (fun h => h hf)
      clear HW hf
      have HFR := hide (fun W => refFitsR_any r W)
      by_cases hfr : FitsR r
      · rw [if_pos hfr] at HW2
        rw [decide_eq_true hfr] at HFR
        clear hfr
        have HFR' : Hid (∀ W, Calls Tryd.prog 15 #[.agg #[.int .i64 r.idx, .int .i64 r.proc, .int .i64 r.seq, .int .i64 r.op.code, .int .i64 r.op.a, .int .i64 r.op.b, .int .i64 r.resp]] W fun e w' => e = .returned (.bool true) ∧ Below W.heap.size W w') := HFR.out
        clear HFR
        obtain ⟨b0, -⟩ := hat.out.box.cell 0
        obtain ⟨b1, -⟩ := hat.out.box.cell 1
        obtain ⟨b2, -⟩ := hat.out.box.cell 2
        obtain ⟨b3, -⟩ := hat.out.box.cell 3
        obtain ⟨b4, -⟩ := hat.out.box.cell 4
        obtain ⟨b5, -⟩ := hat.out.box.cell 5
        obtain ⟨b6, -⟩ := hat.out.box.cell 6
        go_wp2_with fail
        refine (HFR'.out _).mono ?_
        rintro e W7 ⟨rfl, hb7⟩
        have HAT := hide (hat.out.on hb7)
        clear hb7 b0 b1 b2 b3 b4 b5 b6 hat
        obtain ⟨b0, -⟩ := HAT.out.box.cell 0
        obtain ⟨b1, -⟩ := HAT.out.box.cell 1
        obtain ⟨b2, -⟩ := HAT.out.box.cell 2
        obtain ⟨b3, -⟩ := HAT.out.box.cell 3
        obtain ⟨b4, -⟩ := HAT.out.box.cell 4
        obtain ⟨b5, -⟩ := HAT.out.box.cell 5
        obtain ⟨b6, -⟩ := HAT.out.box.cell 6
        obtain ⟨r0, f0⟩ := HAT.out.res.cell 0
        obtain ⟨r1, f1⟩ := HAT.out.res.cell 1
        obtain ⟨r2, f2⟩ := HAT.out.res.cell 2
        obtain ⟨r3, f3⟩ := HAT.out.res.cell 3
        obtain ⟨r4, f4⟩ := HAT.out.res.cell 4
        obtain ⟨r5, f5⟩ := HAT.out.res.cell 5
        obtain ⟨r6, f6⟩ := HAT.out.res.cell 6
        go_wp2
        refine bodyPost_ret (v := .tuple #[.agg #[.int .i64 r.idx, .int .i64 r.proc, .int .i64 r.seq, .int .i64 r.op.code, .int .i64 r.op.a, .int .i64 r.op.b, .int .i64 r.resp], .int .i64 0]) (by simp [results, Tryd.results17, go_sem, r0, r1, r2, r3, r4, r5, r6]) rfl ?_
        rw [HW2.out]
        exact ⟨rfl, belowSeven HAT.out.below w.heap.size (Nat.le_refl _) _ _ _ _ _ _ _⟩
      · rw [if_neg hfr] at HW2
        rw [decide_eq_false hfr] at HFR
        clear hfr
        have HFR' : Hid (∀ W, Calls Tryd.prog 15 #[.agg #[.int .i64 r.idx, .int .i64 r.proc, .int .i64 r.seq, .int .i64 r.op.code, .int .i64 r.op.a, .int .i64 r.op.b, .int .i64 r.resp]] W fun e w' => e = .returned (.bool false) ∧ Below W.heap.size W w') := HFR.out
        clear HFR
        obtain ⟨b0, -⟩ := hat.out.box.cell 0
        obtain ⟨b1, -⟩ := hat.out.box.cell 1
        obtain ⟨b2, -⟩ := hat.out.box.cell 2
        obtain ⟨b3, -⟩ := hat.out.box.cell 3
        obtain ⟨b4, -⟩ := hat.out.box.cell 4
        obtain ⟨b5, -⟩ := hat.out.box.cell 5
        obtain ⟨b6, -⟩ := hat.out.box.cell 6
        go_wp2_with fail
        refine (HFR'.out _).mono ?_
        rintro e W7 ⟨rfl, hb7⟩
        have HAT := hide (hat.out.on hb7)
        clear hb7 b0 b1 b2 b3 b4 b5 b6 hat
        obtain ⟨n0, -⟩ := HAT.out.none.cell 0
        obtain ⟨n1, -⟩ := HAT.out.none.cell 1
        obtain ⟨n2, -⟩ := HAT.out.none.cell 2
        obtain ⟨n3, -⟩ := HAT.out.none.cell 3
        obtain ⟨n4, -⟩ := HAT.out.none.cell 4
        obtain ⟨n5, -⟩ := HAT.out.none.cell 5
        obtain ⟨n6, -⟩ := HAT.out.none.cell 6
        obtain ⟨r0, f0⟩ := HAT.out.res.cell 0
        obtain ⟨r1, f1⟩ := HAT.out.res.cell 1
        obtain ⟨r2, f2⟩ := HAT.out.res.cell 2
        obtain ⟨r3, f3⟩ := HAT.out.res.cell 3
        obtain ⟨r4, f4⟩ := HAT.out.res.cell 4
        obtain ⟨r5, f5⟩ := HAT.out.res.cell 5
        obtain ⟨r6, f6⟩ := HAT.out.res.cell 6
        go_wp2
        refine bodyPost_ret (v := .tuple #[.agg #[.int .i64 0, .int .i64 0, .int .i64 0, .int .i64 0, .int .i64 0, .int .i64 0, .int .i64 0], .int .i64 1]) (by simp [results, Tryd.results17, go_sem, r0, r1, r2, r3, r4, r5, r6]) rfl ?_
        rw [HW2.out]
        exact ⟨rfl, belowSeven HAT.out.below w.heap.size (Nat.le_refl _) _ _ _ _ _ _ _⟩
    have hlt' : (A : Int) < (l.length : Int) := by omega
    have HYE := hide (walk_cons v (l.drop A) L F r (by intro e; have := congrArg List.length e; rw [List.length_drop] at this; simp at this; omega))
    have HC := hide (run_cut_l wr _ l (HR.out.below hat.out.below (Nat.le_refl _)) .i64 (A : Int) (by omega) (by omega))
    rw [Int.toNat_natCast] at HC
    have HLE := hide (dec62_le (l.drop A))
    go_wp2_with (refine wpList_cut _ rfl _ _ _ _ rfl _ HC.out ?_)
    intro v5 hr5
    have HGS := hide (refGet_any v5 _ wr hr5)
    obtain ⟨f, hf⟩ : ∃ f, f = (dec62 (l.drop A)).1 := ⟨_, rfl⟩
    obtain ⟨d, hd⟩ : ∃ d, d = (dec62 (l.drop A)).2 := ⟨_, rfl⟩
    rw [← hf, ← hd] at HGS HYE
    rw [← hd] at HLE
    have hf62 : f < 4611686018427387904 := by rw [hf]; exact dec62_lt _
    have hdl : A + d ≤ l.length := by
      have := HLE.out
      rw [List.length_drop] at this
      omega
    have HW : Hid (D = finR v (stepV v (l.drop A) L F r f d)) := by
      refine hide ?_
      rw [hw.out, HYE.out]
    clear hr5 hf hd HC HLE HYE
    go_wp2_with fail
    refine HGS.out.mono ?_
    rintro e W1 ⟨rfl, hw1⟩
    rw [hw1]
    clear HGS hw1 W1
    by_cases hd0 : d = 0
    · have HE : Hid (D = (zeroR, 3)) := by
        refine hide ?_
        rw [HW.out]
        unfold stepV
        rw [if_pos (.inl hd0)]
        rfl
      subst hd0
      obtain ⟨n0, -⟩ := hat.out.none.cell 0
      obtain ⟨n1, -⟩ := hat.out.none.cell 1
      obtain ⟨n2, -⟩ := hat.out.none.cell 2
      obtain ⟨n3, -⟩ := hat.out.none.cell 3
      obtain ⟨n4, -⟩ := hat.out.none.cell 4
      obtain ⟨n5, -⟩ := hat.out.none.cell 5
      obtain ⟨n6, -⟩ := hat.out.none.cell 6
      obtain ⟨r0, f0⟩ := hat.out.res.cell 0
      obtain ⟨r1, f1⟩ := hat.out.res.cell 1
      obtain ⟨r2, f2⟩ := hat.out.res.cell 2
      obtain ⟨r3, f3⟩ := hat.out.res.cell 3
      obtain ⟨r4, f4⟩ := hat.out.res.cell 4
      obtain ⟨r5, f5⟩ := hat.out.res.cell 5
      obtain ⟨r6, f6⟩ := hat.out.res.cell 6
      go_wp2
      refine bodyPost_ret (v := .tuple #[.agg #[.int .i64 0, .int .i64 0, .int .i64 0, .int .i64 0, .int .i64 0, .int .i64 0, .int .i64 0], .int .i64 3]) (by simp [results, Tryd.results17, go_sem, r0, r1, r2, r3, r4, r5, r6]) rfl ?_
      rw [HE.out]
      exact ⟨rfl, belowSeven hat.out.below w.heap.size (Nat.le_refl _) _ _ _ _ _ _ _⟩
    have ed : ((d : Int) == 0) = false := beq_eq_false_iff_ne.2 (by omega)
    by_cases hfl : (f : Int) ≤ L
    · have HE : Hid (D = (zeroR, 3)) := by
        refine hide ?_
        rw [HW.out]
        unfold stepV
        rw [if_pos (.inr hfl)]
        rfl
      obtain ⟨n0, -⟩ := hat.out.none.cell 0
      obtain ⟨n1, -⟩ := hat.out.none.cell 1
      obtain ⟨n2, -⟩ := hat.out.none.cell 2
      obtain ⟨n3, -⟩ := hat.out.none.cell 3
      obtain ⟨n4, -⟩ := hat.out.none.cell 4
      obtain ⟨n5, -⟩ := hat.out.none.cell 5
      obtain ⟨n6, -⟩ := hat.out.none.cell 6
      obtain ⟨r0, f0⟩ := hat.out.res.cell 0
      obtain ⟨r1, f1⟩ := hat.out.res.cell 1
      obtain ⟨r2, f2⟩ := hat.out.res.cell 2
      obtain ⟨r3, f3⟩ := hat.out.res.cell 3
      obtain ⟨r4, f4⟩ := hat.out.res.cell 4
      obtain ⟨r5, f5⟩ := hat.out.res.cell 5
      obtain ⟨r6, f6⟩ := hat.out.res.cell 6
      go_wp2
      refine bodyPost_ret (v := .tuple #[.agg #[.int .i64 0, .int .i64 0, .int .i64 0, .int .i64 0, .int .i64 0, .int .i64 0, .int .i64 0], .int .i64 3]) (by simp [results, Tryd.results17, go_sem, r0, r1, r2, r3, r4, r5, r6]) rfl ?_
      rw [HE.out]
      exact ⟨rfl, belowSeven hat.out.below w.heap.size (Nat.le_refl _) _ _ _ _ _ _ _⟩
    have HW1 : Hid (stepV v (l.drop A) L F r f d = if hasV v f then (if (valueF r f ((l.drop A).drop d)).2 = 0 then .error 3 else walkV v ((l.drop A).drop (d + (valueF r f ((l.drop A).drop d)).2)) f (F + 1) (valueF r f ((l.drop A).drop d)).1) else if f < 16 ∨ v = 3 then .error 7 else if (dec62 ((l.drop A).drop d)).2 = 0 ∨ (l.drop A).length < d + (dec62 ((l.drop A).drop d)).2 + (dec62 ((l.drop A).drop d)).1 then .error 3 else walkV v ((l.drop A).drop (d + (dec62 ((l.drop A).drop d)).2 + (dec62 ((l.drop A).drop d)).1)) f F r) := by
      refine hide ?_
      unfold stepV
      rw [if_neg (by omega)]
    rw [HW1.out] at HW
    simp only [List.drop_drop] at HW
    obtain ⟨Y, hY⟩ : ∃ Y, Y = l.drop (A + d) := ⟨_, rfl⟩
    rw [← hY] at HW
    have hYl : Y.length = l.length - (A + d) := by rw [hY, List.length_drop]
    have HY := hide hY
    clear hY
    have hsum : (A : Int) + (d : Int) ≤ 9223372036854775807 := by omega
    have HHS := hide (refHas_any v f wr)
    by_cases hh : hasV v f
    · rw [decide_eq_true hh] at HHS
      rw [if_pos hh] at HW
      have hb5 := small_f hh
      clear hh HW1
      go_wp2_with fail
      refine HHS.out.mono ?_
      rintro e W1 ⟨rfl, hw1⟩
      rw [hw1]
      clear HHS hw1 W1
      have HVAL : Hid (∀ v6 W, Rd W v6 Y → Calls Tryd.prog 32 #[.agg #[.int .i64 r.idx, .int .i64 r.proc, .int .i64 r.seq, .int .i64 r.op.code, .int .i64 r.op.a, .int .i64 r.op.b, .int .i64 r.resp], .int .i64 (f : Int), v6] W fun e w' => e = .returned (.tuple #[recV (valueF r f Y).1, .int .i64 ((valueF r f Y).2 : Nat)]) ∧ Below W.heap.size W w') := fun v6 W h => refValue_any r f hb5 v6 Y W h
      have HVL := hide (valueF_le r f Y)
      generalize (valueF r f Y).2 = m at *
      generalize (valueF r f Y).1 = X at *
      have HVAL' : Hid (∀ v6 W, Rd W v6 Y → Calls Tryd.prog 32 #[.agg #[.int .i64 r.idx, .int .i64 r.proc, .int .i64 r.seq, .int .i64 r.op.code, .int .i64 r.op.a, .int .i64 r.op.b, .int .i64 r.resp], .int .i64 (f : Int), v6] W fun e w' => e = .returned (.tuple #[.agg #[.int .i64 X.idx, .int .i64 X.proc, .int .i64 X.seq, .int .i64 X.op.code, .int .i64 X.op.a, .int .i64 X.op.b, .int .i64 X.resp], .int .i64 (m : Int)]) ∧ Below W.heap.size W w') := HVAL.out
      clear HVAL
      have hml2 : A + d + m ≤ l.length := by
        have := HVL.out
        omega
      clear HVL
      have hAd0 : 0 ≤ (A : Int) + (d : Int) := by omega
      have hAd1 : (A : Int) + (d : Int) ≤ (l.length : Int) := by omega
      obtain ⟨a6, n6, c6, hv6⟩ : ∃ a6 n6 c6, sliced ao (A + d) l.length cap 1 = .slice a6 n6 c6 := by
        unfold sliced
        exact ⟨_, _, _, rfl⟩
      have hcut : ∀ W, (Instr.sliceAt 27 (.slice ao l.length cap) (some (.int .i64 ((A : Int) + (d : Int)))) none none).run Tryd.prog W = .ok (.slice a6 n6 c6) W := fun W => by
        rw [← hv6]
        exact run_cut_all W ao l cap HLC.out ((A : Int) + (d : Int)) (A + d) (by omega) (by omega)
      have HR6 : Hid (∀ W, Below w.heap.size w W → Rd W (.slice a6 n6 c6) Y) := hide (fun W h => by
        have h2 := (HR.out.below h (Nat.le_refl _)).mid (A + d) l.length cap (by omega) (by omega) HLC.out (by omega)
        rw [List.take_of_length_le (by rw [List.length_drop]; omega), hv6, ← HY.out] at h2
        exact h2)
      have hwS := hat.out.box.lt
      have nb : wr.heap.size ≠ w.heap.size + 1 + 1 := by omega
      have nb' : w.heap.size + 1 + 1 ≠ wr.heap.size := by omega
      obtain ⟨b0, -⟩ := hat.out.box.cell 0
      obtain ⟨b1, -⟩ := hat.out.box.cell 1
      obtain ⟨b2, -⟩ := hat.out.box.cell 2
      obtain ⟨b3, -⟩ := hat.out.box.cell 3
      obtain ⟨b4, -⟩ := hat.out.box.cell 4
      obtain ⟨b5, -⟩ := hat.out.box.cell 5
      obtain ⟨b6, -⟩ := hat.out.box.cell 6
      have HBW := hide hat.out.below
      go_wp2
      go_region_held (fun w' => w'.cell? ⟨w.heap.size + 1 + 1, 0, none⟩ = some (.int .i64 r.idx) ∧ w'.cell? ⟨w.heap.size + 1 + 1, 1, none⟩ = some (.int .i64 r.proc) ∧ w'.cell? ⟨w.heap.size + 1 + 1, 2, none⟩ = some (.int .i64 r.seq) ∧ w'.cell? ⟨w.heap.size + 1 + 1, 3, none⟩ = some (.int .i64 r.op.code) ∧ w'.cell? ⟨w.heap.size + 1 + 1, 4, none⟩ = some (.int .i64 r.op.a) ∧ w'.cell? ⟨w.heap.size + 1 + 1, 5, none⟩ = some (.int .i64 r.op.b) ∧ w'.cell? ⟨w.heap.size + 1 + 1, 6, none⟩ = some (.int .i64 r.resp)) (go_keep)
        (first
          | (go_at_call 32; refine (HVAL'.out _ wr.drew (HR6.out _ (HBW.out.trans ((Below.refl _ _).drew)))).mono ?_; rintro e wA ⟨rfl, hb2⟩; have hb2' : Below wr.heap.size wr wA := ((Below.refl _ _).drew).trans hb2; have hs2 : wr.heap.size ≤ wA.heap.size := hb2.size; have l0 : w.heap.size + 1 + 1 < wA.heap.size := (by omega); have HA := hide (hat.out.on hb2'); obtain ⟨p0, -⟩ := HA.out.box.cell 0; obtain ⟨p1, -⟩ := HA.out.box.cell 1; obtain ⟨p2, -⟩ := HA.out.box.cell 2; obtain ⟨p3, -⟩ := HA.out.box.cell 3; obtain ⟨p4, -⟩ := HA.out.box.cell 4; obtain ⟨p5, -⟩ := HA.out.box.cell 5; obtain ⟨p6, -⟩ := HA.out.box.cell 6; clear hb2 hb2')
          | (go_at_call 32; refine (HVAL'.out _ (wr.alloc (.cells #[.int .i64 0, .int .i64 0, .int .i64 0, .int .i64 0, .int .i64 0, .int .i64 0, .int .i64 0] 25)).drew (HR6.out _ ((HBW.out.trans (((Below.refl wr.heap.size wr).alloc (Nat.le_refl _) _).mono HBW.out.size)).drew))).mono ?_; rintro e wA ⟨rfl, hb2⟩; have hb2' : Below wr.heap.size wr wA := (((Below.refl wr.heap.size wr).alloc (Nat.le_refl _) _).drew).trans (hb2.mono (by simp [World.drew])); have hs2 : wr.heap.size + 1 ≤ wA.heap.size := (by simpa [World.drew] using hb2.size); have hT : Br wA wr.heap.size #[.int .i64 0, .int .i64 0, .int .i64 0, .int .i64 0, .int .i64 0, .int .i64 0, .int .i64 0] := (hb2.block wr.heap.size (by simp [World.drew])).trans (heap_alloc_new wr _); have HTA := hide hT; have l0 : w.heap.size + 1 + 1 < wA.heap.size := (by omega); have HA := hide (hat.out.on hb2'); obtain ⟨p0, -⟩ := HA.out.box.cell 0; obtain ⟨p1, -⟩ := HA.out.box.cell 1; obtain ⟨p2, -⟩ := HA.out.box.cell 2; obtain ⟨p3, -⟩ := HA.out.box.cell 3; obtain ⟨p4, -⟩ := HA.out.box.cell 4; obtain ⟨p5, -⟩ := HA.out.box.cell 5; obtain ⟨p6, -⟩ := HA.out.box.cell 6; obtain ⟨m0, k0⟩ := hT.cell 0; obtain ⟨m1, k1⟩ := hT.cell 1; obtain ⟨m2, k2⟩ := hT.cell 2; obtain ⟨m3, k3⟩ := hT.cell 3; obtain ⟨m4, k4⟩ := hT.cell 4; obtain ⟨m5, k5⟩ := hT.cell 5; obtain ⟨m6, k6⟩ := hT.cell 6; clear hb2 hb2' hT))
      all_goals
        first
          | (
          obtain ⟨TA, hTe⟩ : ∃ TA, TA = wA.heap.size := ⟨_, rfl⟩
          obtain ⟨WA, hWe⟩ : ∃ WA, WA = wA.alloc (.cells #[.int .i64 X.idx, .int .i64 X.proc, .int .i64 X.seq, .int .i64 X.op.code, .int .i64 X.op.a, .int .i64 X.op.b, .int .i64 X.resp] 25) := ⟨_, rfl⟩
          have HXA : Hid (Br WA TA #[.int .i64 X.idx, .int .i64 X.proc, .int .i64 X.seq, .int .i64 X.op.code, .int .i64 X.op.a, .int .i64 X.op.b, .int .i64 X.resp]) := hide (by rw [hWe, hTe]; exact heap_alloc_new wA _)
          have HDA : Hid (DecIR w WA r) := hide (by rw [hWe]; exact HA.out.on ((Below.refl _ _).alloc (Nat.le_refl _) _))
          have hTA : w.heap.size + 1 + 1 < TA := by omega
          rw [← hWe, ← hTe]
          clear b0 b1 b2 b3 b4 b5 b6 p0 p1 p2 p3 p4 p5 p6 hs2 l0 nb nb' hwS HVAL' HR6 HBW hcut hat hWe hTe HA)
          | (
          obtain ⟨TA, hTe⟩ : ∃ TA, TA = wr.heap.size := ⟨_, rfl⟩
          obtain ⟨WA, hWe⟩ : ∃ WA, WA = (((((((wA.setCell ⟨wr.heap.size, 0, none⟩ (.int .i64 X.idx)).setCell ⟨wr.heap.size, 1, none⟩ (.int .i64 X.proc)).setCell ⟨wr.heap.size, 2, none⟩ (.int .i64 X.seq)).setCell ⟨wr.heap.size, 3, none⟩ (.int .i64 X.op.code)).setCell ⟨wr.heap.size, 4, none⟩ (.int .i64 X.op.a)).setCell ⟨wr.heap.size, 5, none⟩ (.int .i64 X.op.b)).setCell ⟨wr.heap.size, 6, none⟩ (.int .i64 X.resp)) := ⟨_, rfl⟩
          have HXA : Hid (Br WA TA #[.int .i64 X.idx, .int .i64 X.proc, .int .i64 X.seq, .int .i64 X.op.code, .int .i64 X.op.a, .int .i64 X.op.b, .int .i64 X.resp]) := hide (by rw [hWe, hTe]; exact heap_seven wA _ _ _ _ _ _ _ _ HTA.out _ _ _ _ _ _ _)
          have HDA : Hid (DecIR w WA r) := hide (by rw [hWe]; exact ⟨(heap_seven_else wA wr.heap.size w.heap.size (by omega) _ _ _ _ _ _ _).trans HA.out.res, (heap_seven_else wA wr.heap.size (w.heap.size + 1) (by omega) _ _ _ _ _ _ _).trans HA.out.none, (heap_seven_else wA wr.heap.size (w.heap.size + 1 + 1) (by omega) _ _ _ _ _ _ _).trans HA.out.box, belowSeven HA.out.below _ (by omega) _ _ _ _ _ _ _⟩)
          have hTA : w.heap.size + 1 + 1 < TA := by omega
          rw [← hWe, ← hTe]
          clear b0 b1 b2 b3 b4 b5 b6 p0 p1 p2 p3 p4 p5 p6 hs2 l0 nb nb' hwS HVAL' HR6 HBW hcut hat hWe hTe HA HTA m0 k0 m1 k1 m2 k2 m3 k3 m4 k4 m5 k5 m6 k6)
      all_goals
        by_cases hm0 : m = 0
        · have HE : Hid (D = (zeroR, 3)) := by
            refine hide ?_
            rw [HW.out, if_pos hm0]
            rfl
          subst hm0
          obtain ⟨n0, -⟩ := HDA.out.none.cell 0
          obtain ⟨n1, -⟩ := HDA.out.none.cell 1
          obtain ⟨n2, -⟩ := HDA.out.none.cell 2
          obtain ⟨n3, -⟩ := HDA.out.none.cell 3
          obtain ⟨n4, -⟩ := HDA.out.none.cell 4
          obtain ⟨n5, -⟩ := HDA.out.none.cell 5
          obtain ⟨n6, -⟩ := HDA.out.none.cell 6
          obtain ⟨r0, f0⟩ := HDA.out.res.cell 0
          obtain ⟨r1, f1⟩ := HDA.out.res.cell 1
          obtain ⟨r2, f2⟩ := HDA.out.res.cell 2
          obtain ⟨r3, f3⟩ := HDA.out.res.cell 3
          obtain ⟨r4, f4⟩ := HDA.out.res.cell 4
          obtain ⟨r5, f5⟩ := HDA.out.res.cell 5
          obtain ⟨r6, f6⟩ := HDA.out.res.cell 6
          go_wp2
          refine bodyPost_ret (v := .tuple #[.agg #[.int .i64 0, .int .i64 0, .int .i64 0, .int .i64 0, .int .i64 0, .int .i64 0, .int .i64 0], .int .i64 3]) (by simp [results, Tryd.results17, go_sem, r0, r1, r2, r3, r4, r5, r6]) rfl ?_
          rw [HE.out]
          exact ⟨rfl, belowSeven HDA.out.below w.heap.size (Nat.le_refl _) _ _ _ _ _ _ _⟩
        · have em : ((m : Int) == 0) = false := beq_eq_false_iff_ne.2 (by omega)
          have HW3 : Hid (D = finR v (walkV v (l.drop (A + (d + m))) (f : Int) (F + 1) X)) := by
            refine hide ?_
            rw [HW.out, if_neg hm0]
          have HD3 := hide (decIR_set (X := X) HDA.out)
          obtain ⟨t0, -⟩ := HXA.out.cell 0
          obtain ⟨t1, -⟩ := HXA.out.cell 1
          obtain ⟨t2, -⟩ := HXA.out.cell 2
          obtain ⟨t3, -⟩ := HXA.out.cell 3
          obtain ⟨t4, -⟩ := HXA.out.cell 4
          obtain ⟨t5, -⟩ := HXA.out.cell 5
          obtain ⟨t6, -⟩ := HXA.out.cell 6
          obtain ⟨b0, g0⟩ := HDA.out.box.cell 0
          obtain ⟨b1, g1⟩ := HDA.out.box.cell 1
          obtain ⟨b2, g2⟩ := HDA.out.box.cell 2
          obtain ⟨b3, g3⟩ := HDA.out.box.cell 3
          obtain ⟨b4, g4⟩ := HDA.out.box.cell 4
          obtain ⟨b5, g5⟩ := HDA.out.box.cell 5
          obtain ⟨b6, g6⟩ := HDA.out.box.cell 6
          clear hm0 HW
          go_wp2
          go_roundw
          case rel => exact ⟨A + (d + m), f, F + 1, X, by go_num, rfl, by go_num, by omega, by omega, HW3, HD3⟩
          case measure => simp [intOf]; omega
    · rw [decide_eq_false hh] at HHS
      rw [if_neg hh] at HW
      clear hh HW1
      go_wp2_with fail
      refine HHS.out.mono ?_
      rintro e W1 ⟨rfl, hw1⟩
      rw [hw1]
      clear HHS hw1 W1
      by_cases h16 : f < 16
      · rw [if_pos (.inl h16)] at HW
        have HE : Hid (D = (zeroR, 7)) := HW.out
        have h16' : (f : Int) < 16 := by omega
        clear h16
        obtain ⟨n0, -⟩ := hat.out.none.cell 0
        obtain ⟨n1, -⟩ := hat.out.none.cell 1
        obtain ⟨n2, -⟩ := hat.out.none.cell 2
        obtain ⟨n3, -⟩ := hat.out.none.cell 3
        obtain ⟨n4, -⟩ := hat.out.none.cell 4
        obtain ⟨n5, -⟩ := hat.out.none.cell 5
        obtain ⟨n6, -⟩ := hat.out.none.cell 6
        obtain ⟨r0, f0⟩ := hat.out.res.cell 0
        obtain ⟨r1, f1⟩ := hat.out.res.cell 1
        obtain ⟨r2, f2⟩ := hat.out.res.cell 2
        obtain ⟨r3, f3⟩ := hat.out.res.cell 3
        obtain ⟨r4, f4⟩ := hat.out.res.cell 4
        obtain ⟨r5, f5⟩ := hat.out.res.cell 5
        obtain ⟨r6, f6⟩ := hat.out.res.cell 6
        go_wp2
        refine bodyPost_ret (v := .tuple #[.agg #[.int .i64 0, .int .i64 0, .int .i64 0, .int .i64 0, .int .i64 0, .int .i64 0, .int .i64 0], .int .i64 7]) (by simp [results, Tryd.results17, go_sem, r0, r1, r2, r3, r4, r5, r6]) rfl ?_
        rw [HE.out]
        exact ⟨rfl, belowSeven hat.out.below w.heap.size (Nat.le_refl _) _ _ _ _ _ _ _⟩
      have h16' : ¬ (f : Int) < 16 := by omega
      by_cases hv3 : v = 3
      · rw [if_pos (.inr hv3)] at HW
        have HE : Hid (D = (zeroR, 7)) := HW.out
        subst hv3
        clear h16
        obtain ⟨n0, -⟩ := hat.out.none.cell 0
        obtain ⟨n1, -⟩ := hat.out.none.cell 1
        obtain ⟨n2, -⟩ := hat.out.none.cell 2
        obtain ⟨n3, -⟩ := hat.out.none.cell 3
        obtain ⟨n4, -⟩ := hat.out.none.cell 4
        obtain ⟨n5, -⟩ := hat.out.none.cell 5
        obtain ⟨n6, -⟩ := hat.out.none.cell 6
        obtain ⟨r0, f0⟩ := hat.out.res.cell 0
        obtain ⟨r1, f1⟩ := hat.out.res.cell 1
        obtain ⟨r2, f2⟩ := hat.out.res.cell 2
        obtain ⟨r3, f3⟩ := hat.out.res.cell 3
        obtain ⟨r4, f4⟩ := hat.out.res.cell 4
        obtain ⟨r5, f5⟩ := hat.out.res.cell 5
        obtain ⟨r6, f6⟩ := hat.out.res.cell 6
        go_wp2
        refine bodyPost_ret (v := .tuple #[.agg #[.int .i64 0, .int .i64 0, .int .i64 0, .int .i64 0, .int .i64 0, .int .i64 0, .int .i64 0], .int .i64 7]) (by simp [results, Tryd.results17, go_sem, r0, r1, r2, r3, r4, r5, r6]) rfl ?_
        rw [HE.out]
        exact ⟨rfl, belowSeven hat.out.below w.heap.size (Nat.le_refl _) _ _ _ _ _ _ _⟩
      have ev3 : ((v : Int) == 3) = false := beq_eq_false_iff_ne.2 (by omega)
      rw [if_neg (by omega)] at HW
      clear h16
      have HC2 := hide (run_cut_l wr _ l (HR.out.below hat.out.below (Nat.le_refl _)) .i64 ((A : Int) + (d : Int)) (by omega) (by omega))
      have eAd : ((A : Int) + (d : Int)).toNat = A + d := by omega
      rw [eAd, ← HY.out] at HC2
      have HLE2 := hide (dec62_le Y)
      clear eAd
      go_wp2_with (refine wpList_cut _ rfl _ _ _ _ rfl _ HC2.out ?_)
      intro v6 hr6
      have HGS := hide (refGet_any v6 _ wr hr6)
      obtain ⟨c, hc⟩ : ∃ c, c = (dec62 Y).1 := ⟨_, rfl⟩
      obtain ⟨m, hm⟩ : ∃ m, m = (dec62 Y).2 := ⟨_, rfl⟩
      rw [← hc, ← hm] at HGS HW
      rw [← hm] at HLE2
      have hc62 : c < 4611686018427387904 := by rw [hc]; exact dec62_lt _
      have hml2 : A + d + m ≤ l.length := by
        have := HLE2.out
        omega
      clear hr6 hc hm HC2 HLE2
      go_wp2_with fail
      refine HGS.out.mono ?_
      rintro e W1 ⟨rfl, hw1⟩
      rw [hw1]
      clear HGS hw1 W1
      by_cases hm0 : m = 0
      · rw [if_pos (.inl hm0)] at HW
        have HE : Hid (D = (zeroR, 3)) := HW.out
        subst hm0
        obtain ⟨n0, -⟩ := hat.out.none.cell 0
        obtain ⟨n1, -⟩ := hat.out.none.cell 1
        obtain ⟨n2, -⟩ := hat.out.none.cell 2
        obtain ⟨n3, -⟩ := hat.out.none.cell 3
        obtain ⟨n4, -⟩ := hat.out.none.cell 4
        obtain ⟨n5, -⟩ := hat.out.none.cell 5
        obtain ⟨n6, -⟩ := hat.out.none.cell 6
        obtain ⟨r0, f0⟩ := hat.out.res.cell 0
        obtain ⟨r1, f1⟩ := hat.out.res.cell 1
        obtain ⟨r2, f2⟩ := hat.out.res.cell 2
        obtain ⟨r3, f3⟩ := hat.out.res.cell 3
        obtain ⟨r4, f4⟩ := hat.out.res.cell 4
        obtain ⟨r5, f5⟩ := hat.out.res.cell 5
        obtain ⟨r6, f6⟩ := hat.out.res.cell 6
        go_wp2
        refine bodyPost_ret (v := .tuple #[.agg #[.int .i64 0, .int .i64 0, .int .i64 0, .int .i64 0, .int .i64 0, .int .i64 0, .int .i64 0], .int .i64 3]) (by simp [results, Tryd.results17, go_sem, r0, r1, r2, r3, r4, r5, r6]) rfl ?_
        rw [HE.out]
        exact ⟨rfl, belowSeven hat.out.below w.heap.size (Nat.le_refl _) _ _ _ _ _ _ _⟩
      have em : ((m : Int) == 0) = false := beq_eq_false_iff_ne.2 (by omega)
      by_cases hcl : l.length < A + d + m + c
      · rw [if_pos (.inr (by rw [List.length_drop]; omega))] at HW
        have HE : Hid (D = (zeroR, 3)) := HW.out
        have hcl' : (l.length : Int) - ((A : Int) + (d : Int)) - (m : Int) < (c : Int) := by omega
        obtain ⟨n0, -⟩ := hat.out.none.cell 0
        obtain ⟨n1, -⟩ := hat.out.none.cell 1
        obtain ⟨n2, -⟩ := hat.out.none.cell 2
        obtain ⟨n3, -⟩ := hat.out.none.cell 3
        obtain ⟨n4, -⟩ := hat.out.none.cell 4
        obtain ⟨n5, -⟩ := hat.out.none.cell 5
        obtain ⟨n6, -⟩ := hat.out.none.cell 6
        obtain ⟨r0, f0⟩ := hat.out.res.cell 0
        obtain ⟨r1, f1⟩ := hat.out.res.cell 1
        obtain ⟨r2, f2⟩ := hat.out.res.cell 2
        obtain ⟨r3, f3⟩ := hat.out.res.cell 3
        obtain ⟨r4, f4⟩ := hat.out.res.cell 4
        obtain ⟨r5, f5⟩ := hat.out.res.cell 5
        obtain ⟨r6, f6⟩ := hat.out.res.cell 6
        go_wp2
        refine bodyPost_ret (v := .tuple #[.agg #[.int .i64 0, .int .i64 0, .int .i64 0, .int .i64 0, .int .i64 0, .int .i64 0, .int .i64 0], .int .i64 3]) (by simp [results, Tryd.results17, go_sem, r0, r1, r2, r3, r4, r5, r6]) rfl ?_
        rw [HE.out]
        exact ⟨rfl, belowSeven hat.out.below w.heap.size (Nat.le_refl _) _ _ _ _ _ _ _⟩
      rw [if_neg (by rw [List.length_drop]; omega)] at HW
      have hcl' : ¬ (l.length : Int) - ((A : Int) + (d : Int)) - (m : Int) < (c : Int) := by omega
      have hs1 : (A : Int) + (d : Int) + (m : Int) ≤ 9223372036854775807 := by omega
      have hs2 : (A : Int) + (d : Int) + (m : Int) + (c : Int) ≤ 9223372036854775807 := by omega
      have HW9 : Hid (D = finR v (walkV v (l.drop (A + d + m + c)) f F r)) := by
        have h := HW.out
        rw [show A + (d + m + c) = A + d + m + c by omega] at h
        exact h
      clear HW
      go_wp2
      go_roundw
      case rel => exact ⟨A + d + m + c, f, F, r, by go_num, rfl, rfl, by omega, by omega, HW9, hat⟩
      case measure => simp [intOf]; omega

end Go.Proofs.YtonibpnhhdjklaaDoor
