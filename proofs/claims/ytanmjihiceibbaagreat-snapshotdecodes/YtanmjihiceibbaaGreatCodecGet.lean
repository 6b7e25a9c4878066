/- Contract of codec: GetOp. -/
import Derived.Test.YtanmjihiceibbaaGreatCodecNext
import Derived.Test.YtanmjihiceibbaaGreatPack6
import Derived.Test.YtanmjihiceibbaaGreatPack4
import Derived.Deep.RegionHeld
namespace Go.Proofs.YtanmjihiceibbaaGreat
open Go.RowKit

theorem dec64_nil : dec64 [] = (0, 0) := by
  rcases dec64_cases [] with h | h
  · exact h
  · have h1 := h.2.1
    have h2 := h.2.2.1
    simp at h2
    omega

theorem dec62_nil : dec62 [] = (0, 0) := by
  rcases dec62_cases [] with h | h
  · exact h
  · have h1 := h.2.1
    have h2 := h.2.2.1
    simp at h2
    omega

theorem dec62_zero {l : List UInt8} (h : (dec62 l).2 = 0) : (dec62 l).1 = 0 := by
  rcases dec62_cases l with e | e
  · rw [e]
  · omega

theorem dec64_zero {l : List UInt8} (h : (dec64 l).2 = 0) : zag (dec64 l).1 = 0 := by
  rcases dec64_cases l with e | e
  · rw [e]; rfl
  · omega

theorem behind_zero (l : List UInt8) : behind 0 l = [] := rfl

theorem behind_pos {d : Nat} (h : d ≠ 0) (l : List UInt8) : behind d l = l.drop d := if_neg h

theorem behind_le (d : Nat) (l : List UInt8) : (behind d l).length ≤ l.length := by
  unfold behind
  split
  · simp
  · simp

/-- The operation that bytes begin with, number by number. -/
theorem getOp_behind (l : List UInt8) :
    ((dec64 (behind (dec64 (behind (dec62 l).2 l)).2 (behind (dec62 l).2 l))).2 = 0 → getOpL l = (⟨0, 0, 0⟩, 0)) ∧
    ((dec64 (behind (dec64 (behind (dec62 l).2 l)).2 (behind (dec62 l).2 l))).2 ≠ 0 → getOpL l = if FitsO ⟨((dec62 l).1 : Int), zag (dec64 (behind (dec62 l).2 l)).1, zag (dec64 (behind (dec64 (behind (dec62 l).2 l)).2 (behind (dec62 l).2 l))).1⟩ then (⟨((dec62 l).1 : Int), zag (dec64 (behind (dec62 l).2 l)).1, zag (dec64 (behind (dec64 (behind (dec62 l).2 l)).2 (behind (dec62 l).2 l))).1⟩, l.length - (behind (dec64 (behind (dec64 (behind (dec62 l).2 l)).2 (behind (dec62 l).2 l))).2 (behind (dec64 (behind (dec62 l).2 l)).2 (behind (dec62 l).2 l))).length) else (⟨0, 0, 0⟩, 0)) := by
  by_cases hi : (dec62 l).2 = 0
  · have e : behind (dec62 l).2 l = [] := by rw [hi]; rfl
    rw [e, dec64_nil]
    simp only [behind_zero, dec64_nil, ne_eq, not_true_eq_false, false_imp_iff, and_true, true_imp_iff]
    unfold getOpL
    rw [if_pos (.inl hi)]
  · have e : behind (dec62 l).2 l = l.drop (dec62 l).2 := behind_pos hi l
    rw [e]
    by_cases hj : (dec64 (l.drop (dec62 l).2)).2 = 0
    · have e2 : behind (dec64 (l.drop (dec62 l).2)).2 (l.drop (dec62 l).2) = [] := by rw [hj]; rfl
      rw [e2, dec64_nil]
      simp only [ne_eq, not_true_eq_false, false_imp_iff, and_true, true_imp_iff]
      unfold getOpL
      rw [if_pos (.inr (.inl hj))]
    · have e2 : behind (dec64 (l.drop (dec62 l).2)).2 (l.drop (dec62 l).2) = l.drop ((dec62 l).2 + (dec64 (l.drop (dec62 l).2)).2) := by rw [behind_pos hj, List.drop_drop]
      rw [e2]
      refine ⟨fun hk => ?_, fun hk => ?_⟩
      · unfold getOpL
        rw [if_pos (.inr (.inr (.inl hk)))]
      · have h1 := dec62_le l
        have h2 := dec64_le (l.drop (dec62 l).2)
        have h3 := dec64_le (l.drop ((dec62 l).2 + (dec64 (l.drop (dec62 l).2)).2))
        simp only [List.length_drop] at h2 h3
        rw [behind_pos hk, List.drop_drop, List.length_drop]
        unfold getOpL
        generalize (dec64 (l.drop ((dec62 l).2 + (dec64 (l.drop (dec62 l).2)).2))).2 = k at *
        generalize zag (dec64 (l.drop ((dec62 l).2 + (dec64 (l.drop (dec62 l).2)).2))).1 = y at *
        generalize (dec64 (l.drop (dec62 l).2)).2 = j at *
        generalize zag (dec64 (l.drop (dec62 l).2)).1 = x at *
        generalize (dec62 l).2 = i at *
        generalize (dec62 l).1 = c at *
        by_cases hf : FitsO ⟨(c : Int), x, y⟩
        · rw [if_neg (by rintro (h | h | h | h); exact hi h; exact hj h; exact hk h; exact h hf), if_pos hf]
          congr 1
          omega
        · rw [if_pos (.inr (.inr (.inr hf))), if_neg hf]

/-- Where GetOp stands: the answer's box at N, the operation's behind it, and the reader's behind that. -/
structure GIn (w W : World) (c a b : Int) (vb : Value) (m : List UInt8) : Prop where
  res : Bo W w.heap.size #[.int .i64 0, .int .i64 0, .int .i64 0]
  box : Bo W (w.heap.size + 1) #[.int .i64 c, .int .i64 a, .int .i64 b]
  cap : Bb W (w.heap.size + 1 + 1) vb
  rd : Rd W vb m
  below : Below w.heap.size w W

theorem GIn.next {w W W' : World} {c a b : Int} {vb v' : Value} {m m' : List UInt8} (h : GIn w W c a b vb m) (hb : But (w.heap.size + 1 + 1) (w.heap.size + 1 + 1) W W') (hc : Bb W' (w.heap.size + 1 + 1) v') (hr : Rd W' v' m') : GIn w W' c a b v' m' := by
  have hl := h.cap.lt
  exact ⟨(hb.block _ (by omega) (by omega) (by omega)).trans h.res, (hb.block _ (by omega) (by omega) (by omega)).trans h.box, hc, hr, below_but h.below hb (by omega) (by omega) (by omega)⟩

/-- What is read stays while a number is written elsewhere. -/
theorem Rd.setInt {w : World} {v x : Value} {m : List UInt8} (h : Rd w v m) {b j : Nat} {n : Int} (hb : w.cell? ⟨b, j, none⟩ = some (.int .i64 n)) : Rd (w.setCell ⟨b, j, none⟩ x) v m := by
  obtain ⟨va, vc, h1, h2, h3, hn, h4⟩ := h
  refine ⟨va, vc, h1, h2, h3, hn, ?_⟩
  rcases h4 with h4 | ⟨c, off, h5, h6⟩
  · exact .inl h4
  · refine .inr ⟨c, off, h5, fun k hk => ?_⟩
    have hc := h6 k hk
    rw [World.cell?_setCell_other w ⟨b, j, none⟩ ⟨c, off + k, none⟩ x (fun e => by
      rw [e, hc] at hb
      simp at hb)]
    exact hc

theorem GIn.store {w W : World} {c a b c' a' b' : Int} {vb : Value} {m : List UInt8} (h : GIn w W c a b vb m) (j : Nat) (x : Int) {n : Int} (hn : (#[Value.int .i64 c, .int .i64 a, .int .i64 b] : Array Value)[j]? = some (.int .i64 n)) (he : (#[Value.int .i64 c, .int .i64 a, .int .i64 b] : Array Value).setIfInBounds j (.int .i64 x) = #[.int .i64 c', .int .i64 a', .int .i64 b']) :
    GIn w (W.setCell ⟨w.heap.size + 1, j, none⟩ (.int .i64 x)) c' a' b' vb m := by
  have hl := h.cap.lt
  refine ⟨(Below.heap_setCell _ _ _ _ (by show w.heap.size ≠ w.heap.size + 1; omega)).trans h.res, ?_, (Below.heap_setCell _ _ _ _ (by show w.heap.size + 1 + 1 ≠ w.heap.size + 1; omega)).trans h.cap, h.rd.setInt (((h.box.cell j).1).trans hn), h.below.setCell (by show w.heap.size ≤ w.heap.size + 1; omega) _⟩
  have := heap_setCell_same W (w.heap.size + 1) j _ _ (.int .i64 x) h.box
  unfold Bo
  rw [← he]
  simpa using this

theorem GIn.more {w W W' : World} {c a b : Int} {vb : Value} {m : List UInt8} (h : GIn w W c a b vb m) (hb : Below W.heap.size W W') : GIn w W' c a b vb m := by
  have hl := h.cap.lt
  exact ⟨(hb.block _ (by omega)).trans h.res, (hb.block _ (by omega)).trans h.box, (hb.block _ (by omega)).trans h.cap, h.rd.below hb (Nat.le_refl _), h.below.trans (hb.mono h.below.size)⟩

theorem cell_three (W : World) (b : Nat) (x0 x1 x2 : Value) (c i : Nat) (h : b ≠ c) : (((W.setCell ⟨b, 0, none⟩ x0).setCell ⟨b, 1, none⟩ x1).setCell ⟨b, 2, none⟩ x2).drew.cell? ⟨c, i, none⟩ = W.cell? ⟨c, i, none⟩ := by
  show (((W.setCell ⟨b, 0, none⟩ x0).setCell ⟨b, 1, none⟩ x1).setCell ⟨b, 2, none⟩ x2).cell? ⟨c, i, none⟩ = _
  rw [World.cell?_setCell_far _ _ _ _ h, World.cell?_setCell_far _ _ _ _ h, World.cell?_setCell_far _ _ _ _ h]

end Go.Proofs.YtanmjihiceibbaaGreat
