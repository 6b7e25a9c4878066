/- The reader of ferrymanref10: where it stands, what it answers; reading with it, as mathematics. -/
import Derived.Test.YtgpdbboieokldaaGreatDeltaRead
import Derived.Test.YtgpdbboieokldaaGreatPack4
namespace Go.Proofs.YtgpdbboieokldaaGreat
open Go.RowKit

/-- A reader's box: the bytes, and whether all went well. -/
def Rdr (w : World) (R : Nat) (v : Value) (f : Bool) : Prop := w.heap[R]? = some (.cells #[v, .bool f] 88 (0, 0))

theorem Rdr.lt {w : World} {R : Nat} {v : Value} {f : Bool} (h : Rdr w R v f) : R < w.heap.size := (Array.getElem?_eq_some_iff.1 h).1

theorem Rdr.all {w : World} {R : Nat} {v : Value} {f : Bool} (h : Rdr w R v f) : (w.cell? ⟨R, 0, none⟩ = some v ∧ w.cell? ⟨R, 1, none⟩ = some (.bool f)) ∧ w.frozen? ⟨R, 0, none⟩ = false ∧ w.frozen? ⟨R, 1, none⟩ = false :=
  ⟨⟨(cell_of_row w R 0 _ _ _ h).trans rfl, (cell_of_row w R 1 _ _ _ h).trans rfl⟩, frozen_of_row w R 0 _ _ h, frozen_of_row w R 1 _ _ h⟩

theorem rdr_set {w : World} {R : Nat} {cs : Array Value} (h : w.heap[R]? = some (.cells cs 88 (0, 0))) (j : Nat) (x : Value) : (w.setCell ⟨R, j, none⟩ x).heap[R]? = some (.cells (cs.setIfInBounds j x) 88 (0, 0)) := by
  have := heap_setCell_same w R j _ _ x h
  simpa using this

theorem Rdr.eightD {W : World} {D R : Nat} {v : Value} {f : Bool} (h : Rdr W D v f) (hk : D ≠ R) (x0 x1 x2 x3 x4 x5 x6 x7 : Value) : Rdr (((((((((W.setCell ⟨R, 0, none⟩ x0).setCell ⟨R, 1, none⟩ x1).setCell ⟨R, 2, none⟩ x2).setCell ⟨R, 3, none⟩ x3).setCell ⟨R, 4, none⟩ x4).setCell ⟨R, 5, none⟩ x5).setCell ⟨R, 6, none⟩ x6).setCell ⟨R, 7, none⟩ x7).drew) D v f := (heap_eightD W R D hk x0 x1 x2 x3 x4 x5 x6 x7).trans h

set_option maxRecDepth 100000 in
set_option maxHeartbeats 2000000 in
theorem getR_any (R : Nat) (v : Value) (b : List UInt8) (f : Bool) (w : World) (h : Rdr w R v f) (hr : Rd w v b) :
    Calls Tryz.prog 65 #[.pointer (some ⟨R, 0, none⟩)] w fun e w' => ∃ v', e = .returned (.int .i64 (((dec62 b).1 : Nat))) ∧ (∀ X, Rd X v b → Rd X v' (b.drop (dec62 b).2)) ∧ Rdr w' R v' (f && decide (0 < (dec62 b).2)) ∧ AlikeB R w w' := by
  have HG := hide (refGet_any v b w hr)
  have HH := hide h
  have hdl := dec62_le b
  obtain ⟨va, vc, hv, hvc, -⟩ := id hr
  subst hv
  obtain ⟨xa, xc, hcut, hcr⟩ := cut_from va b vc hvc _ hdl
  have HCR := hide hcr
  obtain ⟨⟨p0, p1⟩, f0, f1⟩ := h.all
  have HFF : Hid (∀ k : Nat, (decide (0 < k) = true ↔ (0 : Int) < (k : Int))) := hide (fun k => by rw [decide_eq_true_iff]; omega)
  obtain ⟨NN, hNN⟩ : ∃ NN : Int, NN = ((dec62 b).1 : Nat) := ⟨_, rfl⟩
  rw [← hNN] at HG ⊢
  clear hNN hcr h hr
  generalize (dec62 b).2 = k at *
  generalize b.drop k = b2 at *
  have hb2 : b2.length = b2.length := rfl
  by_cases hk : k = 0
  · have hki : ¬ (k : Int) > 0 := by omega
    have HD : Hid (decide (0 < k) = false) := hide (decide_eq_false (by omega))
    clear hk
    cases f with
    | true =>
      go_enter Tryz.func65, Tryz.ntmps65
      go_wp2_with fail
      refine HG.out.mono ?_
      rintro e W1 ⟨rfl, hw1⟩
      rw [hw1]
      clear hw1 W1
      go_wp2
      go_ret
      rw [HD.out]
      exact ⟨_, rfl, HCR.out, rdr_set (rdr_set HH.out 1 _) 0 _, ((AlikeB.refl R w).own 1 _).own 0 _⟩
    | false =>
      go_enter Tryz.func65, Tryz.ntmps65
      go_wp2_with fail
      refine HG.out.mono ?_
      rintro e W1 ⟨rfl, hw1⟩
      rw [hw1]
      clear hw1 W1
      go_wp2
      go_ret
      rw [HD.out]
      exact ⟨_, rfl, HCR.out, rdr_set (rdr_set HH.out 1 _) 0 _, ((AlikeB.refl R w).own 1 _).own 0 _⟩
  · have hki : (k : Int) > 0 := by omega
    have HD : Hid (decide (0 < k) = true) := hide (decide_eq_true (by omega))
    clear hk
    cases f with
    | true =>
      go_enter Tryz.func65, Tryz.ntmps65
      go_wp2_with fail
      refine HG.out.mono ?_
      rintro e W1 ⟨rfl, hw1⟩
      rw [hw1]
      clear hw1 W1
      go_wp2
      go_ret
      rw [HD.out]
      exact ⟨_, rfl, HCR.out, rdr_set (rdr_set HH.out 1 _) 0 _, ((AlikeB.refl R w).own 1 _).own 0 _⟩
    | false =>
      go_enter Tryz.func65, Tryz.ntmps65
      go_wp2_with fail
      refine HG.out.mono ?_
      rintro e W1 ⟨rfl, hw1⟩
      rw [hw1]
      clear hw1 W1
      go_wp2
      go_ret
      rw [HD.out]
      exact ⟨_, rfl, HCR.out, rdr_set (rdr_set HH.out 1 _) 0 _, ((AlikeB.refl R w).own 1 _).own 0 _⟩

set_option maxRecDepth 100000 in
set_option maxHeartbeats 2000000 in
theorem signedR_any (R : Nat) (v : Value) (b : List UInt8) (f : Bool) (w : World) (h : Rdr w R v f) (hr : Rd w v b) :
    Calls Tryz.prog 66 #[.pointer (some ⟨R, 0, none⟩)] w fun e w' => ∃ v', e = .returned (.int .i64 (zag (dec64 b).1)) ∧ (∀ X, Rd X v b → Rd X v' (b.drop (dec64 b).2)) ∧ Rdr w' R v' (f && decide (0 < (dec64 b).2)) ∧ AlikeB R w w' := by
  have HG := hide (refGetSigned_any v b w hr)
  have HH := hide h
  have hdl := dec64_le b
  obtain ⟨va, vc, hv, hvc, -⟩ := id hr
  subst hv
  obtain ⟨xa, xc, hcut, hcr⟩ := cut_from va b vc hvc _ hdl
  have HCR := hide hcr
  obtain ⟨⟨p0, p1⟩, f0, f1⟩ := h.all
  have HFF : Hid (∀ k : Nat, (decide (0 < k) = true ↔ (0 : Int) < (k : Int))) := hide (fun k => by rw [decide_eq_true_iff]; omega)
  obtain ⟨NN, hNN⟩ : ∃ NN : Int, NN = zag (dec64 b).1 := ⟨_, rfl⟩
  rw [← hNN] at HG ⊢
  clear hNN hcr h hr
  generalize (dec64 b).2 = k at *
  generalize b.drop k = b2 at *
  have hb2 : b2.length = b2.length := rfl
  by_cases hk : k = 0
  · have hki : ¬ (k : Int) > 0 := by omega
    have HD : Hid (decide (0 < k) = false) := hide (decide_eq_false (by omega))
    clear hk
    cases f with
    | true =>
      go_enter Tryz.func66, Tryz.ntmps66
      go_wp2_with fail
      refine HG.out.mono ?_
      rintro e W1 ⟨rfl, hw1⟩
      rw [hw1]
      clear hw1 W1
      go_wp2
      go_ret
      rw [HD.out]
      exact ⟨_, rfl, HCR.out, rdr_set (rdr_set HH.out 1 _) 0 _, ((AlikeB.refl R w).own 1 _).own 0 _⟩
    | false =>
      go_enter Tryz.func66, Tryz.ntmps66
      go_wp2_with fail
      refine HG.out.mono ?_
      rintro e W1 ⟨rfl, hw1⟩
      rw [hw1]
      clear hw1 W1
      go_wp2
      go_ret
      rw [HD.out]
      exact ⟨_, rfl, HCR.out, rdr_set (rdr_set HH.out 1 _) 0 _, ((AlikeB.refl R w).own 1 _).own 0 _⟩
  · have hki : (k : Int) > 0 := by omega
    have HD : Hid (decide (0 < k) = true) := hide (decide_eq_true (by omega))
    clear hk
    cases f with
    | true =>
      go_enter Tryz.func66, Tryz.ntmps66
      go_wp2_with fail
      refine HG.out.mono ?_
      rintro e W1 ⟨rfl, hw1⟩
      rw [hw1]
      clear hw1 W1
      go_wp2
      go_ret
      rw [HD.out]
      exact ⟨_, rfl, HCR.out, rdr_set (rdr_set HH.out 1 _) 0 _, ((AlikeB.refl R w).own 1 _).own 0 _⟩
    | false =>
      go_enter Tryz.func66, Tryz.ntmps66
      go_wp2_with fail
      refine HG.out.mono ?_
      rintro e W1 ⟨rfl, hw1⟩
      rw [hw1]
      clear hw1 W1
      go_wp2
      go_ret
      rw [HD.out]
      exact ⟨_, rfl, HCR.out, rdr_set (rdr_set HH.out 1 _) 0 _, ((AlikeB.refl R w).own 1 _).own 0 _⟩

/-- Where read stands: the answer's box at N, then the reader's, then the delta's. -/
structure RIn (w W : World) (cs : Array Value) (vb : Value) (f : Bool) : Prop where
  res : Bd W w.heap.size #[.int .i64 0, .int .i64 0, .int .i64 0, .int .i64 0, .slice none 0 0, .bool false, .int .i64 0, .slice none 0 0]
  rdr : Rdr W (w.heap.size + 1) vb f
  box : Bd W (w.heap.size + 1 + 1) cs
  below : Below w.heap.size w W

theorem RIn.moreB {w W W' : World} {cs : Array Value} {vb : Value} {f : Bool} (h : RIn w W cs vb f) {B : Nat} (hB : w.heap.size + 1 + 1 < B) (hb : Below B W W') : RIn w W' cs vb f :=
  ⟨(hb.block _ (by omega)).trans h.res, (hb.block _ (by omega)).trans h.rdr, (hb.block _ (by omega)).trans h.box, h.below.trans (hb.mono (by omega))⟩

theorem RIn.setBox {w W : World} {cs : Array Value} {vb : Value} {f : Bool} (h : RIn w W cs vb f) (j : Nat) (x : Value) : RIn w (W.setCell ⟨w.heap.size + 1 + 1, j, none⟩ x) (cs.setIfInBounds j x) vb f :=
  ⟨h.res.other _ _ (by omega), (Below.heap_setCell _ _ _ _ (by show _ ≠ w.heap.size + 1 + 1; omega)).trans h.rdr, h.box.set j x, h.below.setCell (by show _ ≤ w.heap.size + 1 + 1; omega) _⟩

theorem RIn.alike {w W W' : World} {cs : Array Value} {vb v' : Value} {f f' : Bool} (h : RIn w W cs vb f) (ha : AlikeB (w.heap.size + 1) W W') (hv : Rdr W' (w.heap.size + 1) v' f') : RIn w W' cs v' f' :=
  ⟨(ha.block _ (by omega)).trans h.res, hv, (ha.block _ (by omega)).trans h.box, ha.below (by omega) h.below⟩

/-- What the reader answers, where read stands. -/
def GotR (w W : World) (cs : Array Value) (f : Bool) (v : Value) (b lk : List UInt8) (n : Int) (k : Nat) (e : Ending) (W' : World) : Prop :=
  ∃ (a : Option Addr) (c : Nat), e = .returned (.int .i64 n) ∧ (∀ X, Rd X v b → Rd X (.slice a (lk.drop k).length c) (lk.drop k)) ∧ RIn w W' cs (.slice a (lk.drop k).length c) (f && decide (0 < k)) ∧ AlikeB (w.heap.size + 1) W W'

theorem getAt {w W : World} {cs : Array Value} {vb : Value} {f : Bool} (h : RIn w W cs vb f) {v : Value} {b lk : List UInt8} (hv : Rd w v b) (hV : ∀ X, Rd X v b → Rd X vb lk) :
    Calls Tryz.prog 65 #[.pointer (some ⟨w.heap.size + 1, 0, none⟩)] W fun e W' => GotR w W cs f v b lk ((dec62 lk).1 : Nat) (dec62 lk).2 e W' := by
  have hw := hv.below h.below (Nat.le_refl _)
  refine (getR_any _ vb lk f W h.rdr (hV W hw)).mono ?_
  rintro e W' ⟨v', rfl, h1, h2, h3⟩
  obtain ⟨a, c, hh, -⟩ := h1 W (hV W hw)
  subst hh
  exact ⟨a, c, rfl, fun X hX => h1 X (hV X hX), h.alike h3 h2, h3⟩

theorem signedAt {w W : World} {cs : Array Value} {vb : Value} {f : Bool} (h : RIn w W cs vb f) {v : Value} {b lk : List UInt8} (hv : Rd w v b) (hV : ∀ X, Rd X v b → Rd X vb lk) :
    Calls Tryz.prog 66 #[.pointer (some ⟨w.heap.size + 1, 0, none⟩)] W fun e W' => GotR w W cs f v b lk (dgS lk).1 (dgS lk).2 e W' := by
  have hw := hv.below h.below (Nat.le_refl _)
  refine (signedR_any _ vb lk f W h.rdr (hV W hw)).mono ?_
  rintro e W' ⟨v', rfl, h1, h2, h3⟩
  obtain ⟨a, c, hh, -⟩ := h1 W (hV W hw)
  subst hh
  exact ⟨a, c, rfl, fun X hX => h1 X (hV X hX), h.alike h3 h2, h3⟩

theorem rin_start (w : World) (v : Value) (X C : Obj) (hX : X = .cells #[.int .i64 0, .int .i64 0, .int .i64 0, .int .i64 0, .slice none 0 0, .bool false, .int .i64 0, .slice none 0 0] 25 (0, 0)) (hC : C = .cells #[v, .bool true] 88 (0, 0)) :
    RIn w (((w.alloc X).alloc C).alloc X) #[.int .i64 0, .int .i64 0, .int .i64 0, .int .i64 0, .slice none 0 0, .bool false, .int .i64 0, .slice none 0 0] v true := by
  subst hX hC
  obtain ⟨h1, h2, h3⟩ := new_three w (.cells #[.int .i64 0, .int .i64 0, .int .i64 0, .int .i64 0, .slice none 0 0, .bool false, .int .i64 0, .slice none 0 0] 25 (0, 0)) (.cells #[v, .bool true] 88 (0, 0)) (.cells #[.int .i64 0, .int .i64 0, .int .i64 0, .int .i64 0, .slice none 0 0, .bool false, .int .i64 0, .slice none 0 0] 25 (0, 0))
  exact ⟨h1, h2, h3, below_three w _ _ _⟩

/-- One number more, all being well so far or not. -/
theorem fine_step {α : Type} {n : Nat} {l : List UInt8} {f : Bool} {RES : Option α} {G : List Nat → List UInt8 → Option α} (h1 : f = true → RES = (getsL (n + 1) l).bind (fun r => G r.1 r.2)) (h0 : f = false → RES = none) :
    ((f && decide (0 < (dec62 l).2)) = true → RES = (getsL n (l.drop (dec62 l).2)).bind (fun r => G ((dec62 l).1 :: r.1) r.2)) ∧ ((f && decide (0 < (dec62 l).2)) = false → RES = none) := by
  constructor
  · intro h
    rw [Bool.and_eq_true, decide_eq_true_iff] at h
    rw [h1 h.1, getsL, if_neg (by omega)]
    cases getsL n (l.drop (dec62 l).2) <;> rfl
  · intro h
    rw [Bool.and_eq_false_iff, decide_eq_false_iff_not] at h
    cases f with
    | false => exact h0 rfl
    | true =>
      have : (dec62 l).2 = 0 := by rcases h with h | h; · cases h
                                   · omega
      rw [h1 rfl, getsL, if_pos this]
      rfl

theorem fineS_step {α : Type} {n : Nat} {l : List UInt8} {f : Bool} {RES : Option α} {xs : List Int} {G : List Int → List UInt8 → Option α} (h1 : f = true → RES = (getsG dgS (n + 1) l).bind (fun r => G (xs ++ r.1) r.2)) (h0 : f = false → RES = none) :
    ((f && decide (0 < (dgS l).2)) = true → RES = (getsG dgS n (l.drop (dgS l).2)).bind (fun r => G ((xs ++ [(dgS l).1]) ++ r.1) r.2)) ∧ ((f && decide (0 < (dgS l).2)) = false → RES = none) := by
  constructor
  · intro h
    rw [Bool.and_eq_true, decide_eq_true_iff] at h
    rw [h1 h.1, getsG, if_neg (by omega)]
    cases getsG dgS n (l.drop (dgS l).2) with
    | none => rfl
    | some r => simp
  · intro h
    rw [Bool.and_eq_false_iff, decide_eq_false_iff_not] at h
    cases f with
    | false => exact h0 rfl
    | true =>
      have : (dgS l).2 = 0 := by rcases h with h | h; · cases h
                                 · omega
      rw [h1 rfl, getsG, if_pos this]
      rfl

/-- One entry more, all having been well. -/
theorem fineE_step {α : Type} {n : Nat} {l l1 l2 l3 : List UInt8} {p s : Nat} {x : Int} {f1 f2 f3 : Bool} {RES : Option α} {t : List Ent} {G : List Ent → List UInt8 → Option α}
    (hp : p = (dec62 l).1) (hl1 : l1 = l.drop (dec62 l).2) (hf1 : f1 = (true && decide (0 < (dec62 l).2))) (hs : s = (dec62 l1).1) (hl2 : l2 = l1.drop (dec62 l1).2) (hf2 : f2 = (f1 && decide (0 < (dec62 l1).2))) (hx : x = (dgS l2).1) (hl3 : l3 = l2.drop (dgS l2).2) (hf3 : f3 = (f2 && decide (0 < (dgS l2).2)))
    (h1 : RES = (readE (n + 1) l).bind (fun r => G (t ++ r.1) r.2)) :
    (f3 = true → RES = (readE n l3).bind (fun r => G ((t ++ [(⟨p, s, x⟩ : Ent)]) ++ r.1) r.2)) ∧ (f3 = false → RES = none) ∧ (f3 = true → l3.length + 1 ≤ l.length) := by
  have e2 : l.drop ((dec62 l).2 + (dec62 (l.drop (dec62 l).2)).2) = l2 := by rw [hl2, hl1, List.drop_drop]
  have e3 : l.drop ((dec62 l).2 + (dec62 (l.drop (dec62 l).2)).2 + (dec64 l2).2) = l3 := by
    rw [hl3, ← e2, List.drop_drop]
    rfl
  have hR := readE_eq n l
  rw [e2, e3, ← hl1] at hR
  have hx' : zag (dec64 l2).1 = x := hx.symm
  rw [hx', ← hp, ← hs] at hR
  have k1 : l1.length = l.length - (dec62 l).2 := by rw [hl1, List.length_drop]
  have k2 : l2.length = l1.length - (dec62 l1).2 := by rw [hl2, List.length_drop]
  have k3 : l3.length = l2.length - (dgS l2).2 := by rw [hl3, List.length_drop]
  have hd : (dgS l2).2 = (dec64 l2).2 := rfl
  refine ⟨fun h => ?_, fun h => ?_, fun h => ?_⟩
  · rw [hf3, hf2, hf1] at h
    simp only [Bool.and_eq_true, decide_eq_true_iff, true_and] at h
    obtain ⟨⟨a1, a2⟩, a3⟩ := h
    rw [h1, hR, if_neg (by rintro (h | h | h) <;> omega)]
    cases readE n l3 with
    | none => rfl
    | some r => simp
  · rw [hf3, hf2, hf1] at h
    have : (dec62 l).2 = 0 ∨ (dec62 l1).2 = 0 ∨ (dec64 l2).2 = 0 := by
      by_cases a1 : 0 < (dec62 l).2
      · by_cases a2 : 0 < (dec62 l1).2
        · by_cases a3 : 0 < (dgS l2).2
          · simp [a1, a2, a3] at h
          · exact .inr (.inr (by omega))
        · exact .inr (.inl (by omega))
      · exact .inl (by omega)
    rw [h1, hR, if_pos this]
    rfl
  · rw [hf3, hf2, hf1] at h
    simp only [Bool.and_eq_true, decide_eq_true_iff, true_and] at h
    have := dec62_le l
    omega

theorem dec62_lt' (l : List UInt8) : (dec62 l).1 < 4611686018427387904 := by
  rcases dec62_cases l with h | h
  · rw [h]; decide
  · exact h.1

end Go.Proofs.YtgpdbboieokldaaGreat
