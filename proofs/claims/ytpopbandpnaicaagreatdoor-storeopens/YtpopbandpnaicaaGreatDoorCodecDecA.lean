import Derived.Test.YtpopbandpnaicaaGreatDoorCodecGet
import Derived.Test.YtpopbandpnaicaaGreatDoorPack6
import Derived.Test.YtpopbandpnaicaaGreatDoorRef05C
namespace Go.Proofs.YtpopbandpnaicaaGreatDoor
set_option maxRecDepth 100000
open Go.RowKit

theorem decS_behind (l : List UInt8) :
   ((dec62 (behind (dec62 (behind (dec62 l).2 l)).2 (behind (dec62 l).2 l))).2 = 0 ∨ 3 < (dec62 (behind (dec62 l).2 l)).1 ∨ 128 < (dec62 (behind (dec62 (behind (dec62 l).2 l)).2 (behind (dec62 l).2 l))).1 -> decS l = (zeroS, 3)) ∧
   (¬ ((dec62 (behind (dec62 (behind (dec62 l).2 l)).2 (behind (dec62 l).2 l))).2 = 0 ∨ 3 < (dec62 (behind (dec62 l).2 l)).1 ∨ 128 < (dec62 (behind (dec62 (behind (dec62 l).2 l)).2 (behind (dec62 l).2 l))).1) ->
     decS l = restS (dec62 l).1 (dec62 (behind (dec62 l).2 l)).1 (dec62 (behind (dec62 (behind (dec62 l).2 l)).2 (behind (dec62 l).2 l))).1 (behind (dec62 (behind (dec62 (behind (dec62 l).2 l)).2 (behind (dec62 l).2 l))).2 (behind (dec62 (behind (dec62 l).2 l)).2 (behind (dec62 l).2 l)))) := by
 by_cases hi : (dec62 l).2 = 0
 · have e : behind (dec62 l).2 l = [] := by rw [hi]; rfl
   rw [e, dec62_nil]
   simp only [behind_zero, dec62_nil]
   refine ⟨fun _ => ?_, fun h => absurd (Or.inl trivial) h⟩
   unfold decS
   rw [if_pos (.inl hi)]
 · have e : behind (dec62 l).2 l = l.drop (dec62 l).2 := behind_pos hi l
   rw [e]
   by_cases hj : (dec62 (l.drop (dec62 l).2)).2 = 0
   · have e2 : behind (dec62 (l.drop (dec62 l).2)).2 (l.drop (dec62 l).2) = [] := by rw [hj]; rfl
     rw [e2, dec62_nil]
     refine ⟨fun _ => ?_, fun h => absurd (Or.inl rfl) h⟩
     unfold decS
     rw [if_pos (.inr (.inl hj))]
   · have e2 : behind (dec62 (l.drop (dec62 l).2)).2 (l.drop (dec62 l).2) = l.drop ((dec62 l).2 + (dec62 (l.drop (dec62 l).2)).2) := by rw [behind_pos hj, List.drop_drop]
     rw [e2]
     refine ⟨fun hb => ?_, fun hb => ?_⟩
     · unfold decS
       rw [if_pos (.inr (.inr hb))]
     · have hk : (dec62 (l.drop ((dec62 l).2 + (dec62 (l.drop (dec62 l).2)).2))).2 ≠ 0 := fun h => hb (.inl h)
       unfold decS
       rw [if_neg (by rintro (h | h | h); exact hi h; exact hj h; exact hb h), behind_pos hk, List.drop_drop]

structure SIn (w W : World) (kd : Int) (vl : Value) (sh : Bool) (g : Int) (vb : Value) (m : List UInt8) : Prop where
 res : Bx W w.heap.size #[.int .i64 0, .slice none 0 0, .bool false, .int .i64 0]
 box : Bx W (w.heap.size + 1) #[.int .i64 kd, vl, .bool sh, .int .i64 g]
 cap : Bb W (w.heap.size + 1 + 1) vb
 rd : Rd W vb m
 below : Below w.heap.size w W

theorem SIn.next {w W W' : World} {kd g : Int} {sh : Bool} {vl vb v' : Value} {m m' : List UInt8} (h : SIn w W kd vl sh g vb m) (hb : But (w.heap.size + 1 + 1) (w.heap.size + 1 + 1) W W') (hc : Bb W' (w.heap.size + 1 + 1) v') (hr : Rd W' v' m') : SIn w W' kd vl sh g v' m' := by
 have hl := h.cap.lt
 exact ⟨(hb.block _ (by omega) (by omega) (by omega)).trans h.res, (hb.block _ (by omega) (by omega) (by omega)).trans h.box, hc, hr, below_but h.below hb (by omega) (by omega) (by omega)⟩

theorem SIn.more {w W W' : World} {kd g : Int} {sh : Bool} {vl vb : Value} {m : List UInt8} (h : SIn w W kd vl sh g vb m) (hb : Below W.heap.size W W') : SIn w W' kd vl sh g vb m := by
 have hl := h.cap.lt
 exact ⟨(hb.block _ (by omega)).trans h.res, (hb.block _ (by omega)).trans h.box, (hb.block _ (by omega)).trans h.cap, h.rd.below hb (Nat.le_refl _), h.below.trans (hb.mono h.below.size)⟩

theorem Rd.setElse {w : World} {v x y : Value} {m : List UInt8} (h : Rd w v m) {b j : Nat} (hb : w.cell? ⟨b, j, none⟩ = some y) (hy : ∀ n, y ≠ .int .u8 n) : Rd (w.setCell ⟨b, j, none⟩ x) v m := by
 obtain ⟨va, vc, h1, h2, h3, hn, h4⟩ := h
 refine ⟨va, vc, h1, h2, h3, hn, ?_⟩
 rcases h4 with h4 | ⟨c, off, h5, h6⟩
 · exact .inl h4
 · refine .inr ⟨c, off, h5, fun k hk => ?_⟩
   have hc := h6 k hk
   rw [World.cell?_setCell_other w ⟨b, j, none⟩ ⟨c, off + k, none⟩ x (fun e => by
     rw [e, hc] at hb
     exact hy _ (Option.some.inj hb).symm)]
   exact hc

theorem SIn.store {w W : World} {kd g kd' g' : Int} {sh sh' : Bool} {vl vl' vb : Value} {m : List UInt8} (h : SIn w W kd vl sh g vb m) (j : Nat) (x y : Value) (hn : (#[Value.int .i64 kd, vl, .bool sh, .int .i64 g] : Array Value)[j]? = some y) (hy : ∀ n, y ≠ .int .u8 n) (he : (#[Value.int .i64 kd, vl, .bool sh, .int .i64 g] : Array Value).setIfInBounds j x = #[.int .i64 kd', vl', .bool sh', .int .i64 g']) :
   SIn w (W.setCell ⟨w.heap.size + 1, j, none⟩ x) kd' vl' sh' g' vb m := by
 have hl := h.cap.lt
 refine ⟨(Below.heap_setCell _ _ _ _ (by show w.heap.size ≠ w.heap.size + 1; omega)).trans h.res, ?_, (Below.heap_setCell _ _ _ _ (by show w.heap.size + 1 + 1 ≠ w.heap.size + 1; omega)).trans h.cap, h.rd.setElse (((h.box.cell j).1).trans hn) hy, h.below.setCell (by show w.heap.size <= w.heap.size + 1; omega) _⟩
 have := heap_setCell_same W (w.heap.size + 1) j _ _ x h.box
 unfold Bx
 rw [<- he]
 simpa using this

structure DIn (w W : World) (kd g : Int) (sh : Bool) (R : List UInt8) (cnt G k : Nat) (vb : Value) (m : List UInt8) (ys : List Int) (th : Bool) : Prop where
 sin : SIn w W kd (.slice (some ⟨G, 0, none⟩) cnt cnt) sh g vb m
 row : W.heap[G]? = some (.cells (intCells ys).toArray 3 (0, 0))
 len : ys.length = cnt
 far : w.heap.size + 1 + 1 < G
 st : (th = true ∧ ∃ u, readL k R = some (ys.take k, u) ∧ m = R.drop u) ∨ (th = false ∧ readL k R = none ∧ m = [])

theorem readL_none {k : Nat} {R : List UInt8} (h : readL k R = none) : readL (k + 1) R = none := by
 rw [readL_add, h]
 rfl

theorem take_set (ys : List Int) (k : Nat) (x : Int) (hk : k < ys.length) : (ys.set k x).take (k + 1) = ys.take k ++ [x] := by
 rw [List.take_add_one, List.take_set_of_le (Nat.le_refl _)]
 simp [hk]

theorem DIn.step {w W W' : World} {kd g : Int} {sh : Bool} {R : List UInt8} {cnt G k : Nat} {vb v' : Value} {m : List UInt8} {ys : List Int} {th : Bool} (h : DIn w W kd g sh R cnt G k vb m ys th) (hk : k < cnt) (hb : But (w.heap.size + 1 + 1) (w.heap.size + 1 + 1) W W') (hc : Bb W' (w.heap.size + 1 + 1) v') (hr : Rd W' v' (behind (dec64 m).2 m)) :
   DIn w (W'.setCell ⟨G, k, none⟩ (.int .i64 (zag (dec64 m).1))) kd g sh R cnt G (k + 1) v' (behind (dec64 m).2 m) (ys.set k (zag (dec64 m).1)) (decide ((dec64 m).2 ≠ 0)) := by
 have hf := h.far
 have hG : G < W.heap.size := (Array.getElem?_eq_some_iff.1 h.row).1
 have hrow' : W'.heap[G]? = some (.cells (intCells ys).toArray 3 (0, 0)) := (hb.block G hG (by omega) (by omega)).trans h.row
 have hS := h.sin.next hb hc hr
 have hck : W'.cell? ⟨G, k, none⟩ = some (.int .i64 (ys.getD k 0)) := by
   rw [cell_of_row W' G k _ _ _ hrow']
   have := intCells_get ys k (by have := h.len; omega)
   simpa using this
 refine ⟨⟨?_, ?_, ?_, hS.rd.setElse hck (fun n e => by simp at e), hS.below.setCell (by show w.heap.size <= G; omega) _⟩, ?_, by rw [List.length_set]; exact h.len, hf, ?_⟩
 · exact (Below.heap_setCell _ _ _ _ (by show w.heap.size ≠ G; omega)).trans hS.res
 · exact (Below.heap_setCell _ _ _ _ (by show w.heap.size + 1 ≠ G; omega)).trans hS.box
 · exact (Below.heap_setCell _ _ _ _ (by show w.heap.size + 1 + 1 ≠ G; omega)).trans hS.cap
 · rw [heap_setCell_same W' G k _ _ _ hrow']
   congr 2
   unfold intCells
   apply Array.ext'
   simp [List.map_set]
 · have hl := h.len
   rcases h.st with ⟨rfl, u, h1, rfl⟩ | ⟨rfl, h1, rfl⟩
   · by_cases hd : (dec64 (R.drop u)).2 = 0
     · right
       refine ⟨decide_eq_false (fun h => h hd), readL_stop h1 hd (by omega), ?_⟩
       rw [hd]
       rfl
     · left
       refine ⟨decide_eq_true hd, u + (dec64 (R.drop u)).2, ?_, ?_⟩
       · rw [readL_next h1 hd, take_set ys k _ (by omega)]
       · rw [behind_pos hd, List.drop_drop]
   · right
     rw [dec64_nil]
     exact ⟨rfl, readL_none h1, rfl⟩

theorem DIn.own {w W : World} {kd g : Int} {sh : Bool} {R : List UInt8} {cnt G k : Nat} {vb : Value} {m : List UInt8} {ys : List Int} {th : Bool} (h : DIn w W kd g sh R cnt G k vb m ys th) (hc : cnt <= maxLen) : OwnI W (w.heap.size + 1 + 1 + 1) (.slice (some ⟨G, 0, none⟩) cnt cnt) ys := by
 have hl := h.len
 have hf := h.far
 refine ⟨by rw [intCells_length, Nat.mul_one], .inr ⟨G, cnt, (intCells ys).toArray, by rw [hl], by omega, h.row, by omega, hc, ?_, ?_⟩⟩
 · simp [intCells_length, hl]
 · rw [List.take_of_length_le]
   simp [intCells_length]

theorem run_make_ints (w : World) (n : Nat) (hn : n <= 1000000) : (Instr.makeSlice 23 (.int .i64 (n : Int)) (.int .i64 (n : Int))).run Tryz.prog w = .ok (.slice (some ⟨w.heap.size, 0, none⟩) n n) (w.alloc (.cells (intCells (List.replicate n 0)).toArray 3)) := by
 obtain ⟨i0, hi, hz0, hz1, hz2⟩ := info_parts info_i64
 have h := run_make (P := Tryz.prog) w 23 3 i0 (.int .i64 0) Tryz.underlying23 hi hz0 .i64 .i64 (n : Int) (n : Int) (by omega) (Int.le_refl _) (by rw [hz2]; omega) (by omega)
 rw [Int.toNat_natCast, hz1, Nat.mul_one] at h
 rw [h]
 congr 3
 apply Array.ext'
 show (madeCells #[Value.int .i64 0] n).toList = _
 rw [toList_madeCells_one]
 simp [intCells]

theorem But.ofDrew {R T : Nat} {w w' : World} (h : But R T w.drew w') : But R T w w' := ⟨h.os, h.tape, h.output, h.size, h.block⟩

theorem DIn.start {w W : World} {kd g : Int} {sh : Bool} {vb : Value} {R : List UInt8} (h : SIn w W kd (.slice none 0 0) sh g vb R) (many : Nat) :
   DIn w ((W.alloc (.cells (intCells (List.replicate many 0)).toArray 3)).setCell ⟨w.heap.size + 1, 1, none⟩ (.slice (some ⟨W.heap.size, 0, none⟩) many many)) kd g sh R many W.heap.size 0 vb R (List.replicate many 0) true := by
 have hl := h.cap.lt
 have h1 := h.more ((Below.refl _ _).alloc (Nat.le_refl _) (.cells (intCells (List.replicate many 0)).toArray 3))
 refine ⟨h1.store 1 _ _ rfl (fun n e => by simp at e) rfl, ?_, by simp, hl, .inl ⟨rfl, 0, rfl, by simp⟩⟩
 exact (Below.heap_setCell _ _ _ _ (by show W.heap.size ≠ w.heap.size + 1; omega)).trans (heap_alloc_new W _)

theorem DIn.spot {w W W' : World} {kd g : Int} {sh : Bool} {R : List UInt8} {cnt G k : Nat} {vb : Value} {m : List UInt8} {ys : List Int} {th : Bool} (h : DIn w W kd g sh R cnt G k vb m ys th) (hk : k < cnt) (hb : But (w.heap.size + 1 + 1) (w.heap.size + 1 + 1) W W') :
   W'.cell? ⟨G, k, none⟩ = some (.int .i64 (ys.getD k 0)) ∧ W'.frozen? ⟨G, k, none⟩ = false := by
 have hf := h.far
 have hG : G < W.heap.size := (Array.getElem?_eq_some_iff.1 h.row).1
 have hrow' : W'.heap[G]? = some (.cells (intCells ys).toArray 3 (0, 0)) := (hb.block G hG (by omega) (by omega)).trans h.row
 refine ⟨?_, frozen_of_row W' G k _ _ hrow'⟩
 rw [cell_of_row W' G k _ _ _ hrow']
 have := intCells_get ys k (by have := h.len; omega)
 simpa using this

end Go.Proofs.YtpopbandpnaicaaGreatDoor
