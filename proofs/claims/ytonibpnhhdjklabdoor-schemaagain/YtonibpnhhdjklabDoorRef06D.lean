/- Contract of ferrymanref06: Decode. -/
import Derived.Test.YtonibpnhhdjklabDoorRef06C
import Derived.Deep.RegionHeld
namespace Go.Proofs.YtonibpnhhdjklabDoor
open Go.RowKit

/-- What is decoded: a record and no error, or none and the error. -/
def DecodedR (w : World) (l : List UInt8) (e : Ending) (w' : World) : Prop :=
  e = .returned (.tuple #[recV (decR l).1, .int .i64 (decR l).2]) ∧ Below w.heap.size w w'

def finR (v : Nat) : Except Int (Rec × Nat) → Rec × Int
  | .error e => (zeroR, e)
  | .ok (r, found) => if found ≠ v + 2 then (zeroR, 7) else if FitsR r then (r, 0) else (zeroR, 1)

theorem decR_fin {l : List UInt8} (h : l ≠ []) (hk : (dec62 l).2 ≠ 0) (h1 : 1 ≤ (dec62 l).1) (h3 : (dec62 l).1 ≤ 3) : decR l = finR (dec62 l).1 (walkV (dec62 l).1 (l.drop (dec62 l).2) (-1) 0 zeroR) := by
  unfold decR
  rw [if_neg h, if_neg hk, if_neg (by omega)]
  rfl

/-- The boxes within Decode's loop. -/
structure DecIR (w wr : World) (r : Rec) : Prop where
  res : Br wr w.heap.size #[.int .i64 0, .int .i64 0, .int .i64 0, .int .i64 0, .int .i64 0, .int .i64 0, .int .i64 0]
  none : Br wr (w.heap.size + 1) #[.int .i64 0, .int .i64 0, .int .i64 0, .int .i64 0, .int .i64 0, .int .i64 0, .int .i64 0]
  box : Br wr (w.heap.size + 1 + 1) #[.int .i64 r.idx, .int .i64 r.proc, .int .i64 r.seq, .int .i64 r.op.code, .int .i64 r.op.a, .int .i64 r.op.b, .int .i64 r.resp]
  below : Below w.heap.size w wr

theorem belowSeven {C : Nat} {w0 w : World} (h : Below C w0 w) (R : Nat) (hR : C ≤ R) (x0 x1 x2 x3 x4 x5 x6 : Value) : Below C w0 (((((((w.setCell ⟨R, 0, none⟩ x0).setCell ⟨R, 1, none⟩ x1).setCell ⟨R, 2, none⟩ x2).setCell ⟨R, 3, none⟩ x3).setCell ⟨R, 4, none⟩ x4).setCell ⟨R, 5, none⟩ x5).setCell ⟨R, 6, none⟩ x6) :=
  ((((((h.setCell hR _).setCell hR _).setCell hR _).setCell hR _).setCell hR _).setCell hR _).setCell hR _

theorem DecodedR.fail {w w' : World} {l : List UInt8} {n : Int} (h : decR l = (zeroR, n)) (hb : Below w.heap.size w w') : DecodedR w l (.returned (.tuple #[.agg #[.int .i64 0, .int .i64 0, .int .i64 0, .int .i64 0, .int .i64 0, .int .i64 0, .int .i64 0], .int .i64 n])) w' := by
  refine ⟨?_, hb⟩
  rw [h]
  rfl

theorem DecIR.on {w wr W : World} {r : Rec} (h : DecIR w wr r) (hb : Below wr.heap.size wr W) : DecIR w W r :=
  ⟨h.res.below hb (Nat.le_refl _), h.none.below hb (Nat.le_refl _), h.box.below hb (Nat.le_refl _), h.below.trans (hb.mono h.below.size)⟩

theorem dec62_lt (l : List UInt8) : (dec62 l).1 < 4611686018427387904 := by
  rcases dec62_cases l with h | h
  · rw [h]; decide
  · exact h.1

theorem valueF_le (r : Rec) (f : Nat) (l : List UInt8) : (valueF r f l).2 ≤ l.length := by
  have h1 := dec62_le l
  have h2 := dec64_le l
  have h3 := getOp_le l
  unfold valueF
  repeat' split
  all_goals assumption

theorem cut_form (W : World) (ao : Option Addr) (cap : Nat) (l : List UInt8) (hr : Rd W (.slice ao l.length cap) l) (n : Nat) (hn : n ≤ l.length) : Rd W (.slice (if cap = n then ao else Option.map (fun x => x.add n) ao) (l.length - n) (cap - n)) (l.drop n) := by
  have hlc : l.length ≤ cap := by
    obtain ⟨a, c, e, h, -⟩ := hr
    simp only [Value.slice.injEq] at e
    omega
  have h := hr.mid n l.length cap (by omega) (by omega) (by omega) (by omega)
  rw [List.take_of_length_le (by rw [List.length_drop]; omega)] at h
  simpa [sliced] using h

/-- One field, its number read. -/
def stepV (v : Nat) (l : List UInt8) (last : Int) (found : Nat) (r : Rec) (f k : Nat) : Except Int (Rec × Nat) :=
  if k = 0 ∨ (f : Int) ≤ last then .error 3
  else if hasV v f then (if (valueF r f (l.drop k)).2 = 0 then .error 3 else walkV v (l.drop (k + (valueF r f (l.drop k)).2)) f (found + 1) (valueF r f (l.drop k)).1)
  else if f < 16 ∨ v = 3 then .error 7
  else if (dec62 (l.drop k)).2 = 0 ∨ l.length < k + (dec62 (l.drop k)).2 + (dec62 (l.drop k)).1 then .error 3
  else walkV v (l.drop (k + (dec62 (l.drop k)).2 + (dec62 (l.drop k)).1)) f found r

theorem walk_cons (v : Nat) (l : List UInt8) (last : Int) (found : Nat) (r : Rec) (hl : l ≠ []) : walkV v l last found r = stepV v l last found r (dec62 l).1 (dec62 l).2 := by
  rw [walkV, dif_neg hl]
  rfl

theorem DecIR.made (w : World) : DecIR w (((w.alloc (.cells #[.int .i64 0, .int .i64 0, .int .i64 0, .int .i64 0, .int .i64 0, .int .i64 0, .int .i64 0] 25)).alloc (.cells #[.int .i64 0, .int .i64 0, .int .i64 0, .int .i64 0, .int .i64 0, .int .i64 0, .int .i64 0] 25)).alloc (.cells #[.int .i64 0, .int .i64 0, .int .i64 0, .int .i64 0, .int .i64 0, .int .i64 0, .int .i64 0] 25)) zeroR := by
  refine ⟨?_, ?_, ?_, ?_⟩
  · exact (Below.heap_alloc _ _ _ (by simp; omega)).trans ((Below.heap_alloc _ _ _ (by simp)).trans (heap_alloc_new w _))
  · exact (Below.heap_alloc _ _ _ (by simp)).trans (two_new w _ _)
  · have h := two_new (w.alloc (.cells #[.int .i64 0, .int .i64 0, .int .i64 0, .int .i64 0, .int .i64 0, .int .i64 0, .int .i64 0] 25)) (.cells #[.int .i64 0, .int .i64 0, .int .i64 0, .int .i64 0, .int .i64 0, .int .i64 0, .int .i64 0] 25) (.cells #[.int .i64 0, .int .i64 0, .int .i64 0, .int .i64 0, .int .i64 0, .int .i64 0, .int .i64 0] 25)
    have e : ∀ X, (w.alloc X).heap.size = w.heap.size + 1 := fun X => by simp
    rw [e] at h
    exact h
  · exact Below.allocs (Below.allocs (Below.allocs (Below.refl _ _) _) _) _

/-- A cut of bytes answers the same in every world. -/
theorem run_cut_all (W : World) (ao : Option Addr) (l : List UInt8) (cap : Nat) (_hlc : l.length ≤ cap) (i : Int) (n : Nat) (hi : i = (n : Int)) (hn : n ≤ l.length) :
    (Instr.sliceAt 27 (.slice ao l.length cap) (some (.int .i64 i)) none none).run Tryd.prog W = .ok (sliced ao n l.length cap 1) W := by
  subst hi
  rw [run_sliceAt_slice W 27 _ _ _ _ under_bytes, run_slice_l W 27 ao l.length cap under_bytes .i64 (n : Int) (by omega) (by omega), elem_bytes, size_u8]
  rfl

theorem heap_seven (W : World) (b : Nat) (c0 c1 c2 c3 c4 c5 c6 : Value) (h : Br W b #[c0, c1, c2, c3, c4, c5, c6]) (x0 x1 x2 x3 x4 x5 x6 : Value) :
    Br (((((((W.setCell ⟨b, 0, none⟩ x0).setCell ⟨b, 1, none⟩ x1).setCell ⟨b, 2, none⟩ x2).setCell ⟨b, 3, none⟩ x3).setCell ⟨b, 4, none⟩ x4).setCell ⟨b, 5, none⟩ x5).setCell ⟨b, 6, none⟩ x6) b #[x0, x1, x2, x3, x4, x5, x6] := by
  have h0 := heap_setCell_same W b 0 _ _ x0 h
  have h1 := heap_setCell_same _ b 1 _ _ x1 h0
  have h2 := heap_setCell_same _ b 2 _ _ x2 h1
  have h3 := heap_setCell_same _ b 3 _ _ x3 h2
  have h4 := heap_setCell_same _ b 4 _ _ x4 h3
  have h5 := heap_setCell_same _ b 5 _ _ x5 h4
  have h6 := heap_setCell_same _ b 6 _ _ x6 h5
  unfold Br
  simpa using h6

theorem heap_seven_else (W : World) (b c : Nat) (hbc : c ≠ b) (x0 x1 x2 x3 x4 x5 x6 : Value) :
    (((((((W.setCell ⟨b, 0, none⟩ x0).setCell ⟨b, 1, none⟩ x1).setCell ⟨b, 2, none⟩ x2).setCell ⟨b, 3, none⟩ x3).setCell ⟨b, 4, none⟩ x4).setCell ⟨b, 5, none⟩ x5).setCell ⟨b, 6, none⟩ x6).heap[c]? = W.heap[c]? := by
  rw [Below.heap_setCell _ _ _ _ hbc, Below.heap_setCell _ _ _ _ hbc, Below.heap_setCell _ _ _ _ hbc, Below.heap_setCell _ _ _ _ hbc, Below.heap_setCell _ _ _ _ hbc, Below.heap_setCell _ _ _ _ hbc, Below.heap_setCell _ _ _ _ hbc]

theorem decIR_set {w W : World} {r X : Rec} (h : DecIR w W r) : DecIR w (((((((W.setCell ⟨w.heap.size + 1 + 1, 0, none⟩ (.int .i64 X.idx)).setCell ⟨w.heap.size + 1 + 1, 1, none⟩ (.int .i64 X.proc)).setCell ⟨w.heap.size + 1 + 1, 2, none⟩ (.int .i64 X.seq)).setCell ⟨w.heap.size + 1 + 1, 3, none⟩ (.int .i64 X.op.code)).setCell ⟨w.heap.size + 1 + 1, 4, none⟩ (.int .i64 X.op.a)).setCell ⟨w.heap.size + 1 + 1, 5, none⟩ (.int .i64 X.op.b)).setCell ⟨w.heap.size + 1 + 1, 6, none⟩ (.int .i64 X.resp)) X := by
  refine ⟨?_, ?_, heap_seven W _ _ _ _ _ _ _ _ h.box _ _ _ _ _ _ _, belowSeven h.below _ (by omega) _ _ _ _ _ _ _⟩
  · exact (heap_seven_else W (w.heap.size + 1 + 1) w.heap.size (by omega) _ _ _ _ _ _ _).trans h.res
  · exact (heap_seven_else W (w.heap.size + 1 + 1) (w.heap.size + 1) (by omega) _ _ _ _ _ _ _).trans h.none

end Go.Proofs.YtonibpnhhdjklabDoor
