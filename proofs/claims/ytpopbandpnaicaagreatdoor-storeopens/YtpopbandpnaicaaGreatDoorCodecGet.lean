import Derived.Test.YtpopbandpnaicaaGreatDoorCodecNext
import Derived.Test.YtpopbandpnaicaaGreatDoorPack6
import Derived.Test.YtpopbandpnaicaaGreatDoorPack5
import Derived.Deep.RegionHeld
namespace Go.Proofs.YtpopbandpnaicaaGreatDoor
open Go.RowKit

theorem dec64_nil : dec64 [] = (0, 0) := by
 rcases dec64_cases [] with h | h
 · exact h
 · have h1 := h.2.1
   have h2 := h.2.2.1
   simp at h2
   omega

theorem dec62_nil : dec62 [] = (0, 0) := by
 rcases dec62_cases [] with h | h
 · exact h
 · have h1 := h.2.1
   have h2 := h.2.2.1
   simp at h2
   omega

theorem dec62_zero {l : List UInt8} (h : (dec62 l).2 = 0) : (dec62 l).1 = 0 := by
 rcases dec62_cases l with e | e
 · rw [e]
 · omega

theorem dec64_zero {l : List UInt8} (h : (dec64 l).2 = 0) : zag (dec64 l).1 = 0 := by
 rcases dec64_cases l with e | e
 · rw [e]; rfl
 · omega

theorem behind_zero (l : List UInt8) : behind 0 l = [] := rfl

theorem behind_pos {d : Nat} (h : d ≠ 0) (l : List UInt8) : behind d l = l.drop d := if_neg h

theorem behind_le (d : Nat) (l : List UInt8) : (behind d l).length <= l.length := by
 unfold behind
 split
 · simp
 · simp

theorem getOp_behind (l : List UInt8) :
   ((dec64 (behind (dec64 (behind (dec62 l).2 l)).2 (behind (dec62 l).2 l))).2 = 0 -> getOpL l = (⟨0, 0, 0⟩, 0)) ∧
   ((dec64 (behind (dec64 (behind (dec62 l).2 l)).2 (behind (dec62 l).2 l))).2 ≠ 0 -> getOpL l = if FitsO ⟨((dec62 l).1 : Int), zag (dec64 (behind (dec62 l).2 l)).1, zag (dec64 (behind (dec64 (behind (dec62 l).2 l)).2 (behind (dec62 l).2 l))).1⟩ then (⟨((dec62 l).1 : Int), zag (dec64 (behind (dec62 l).2 l)).1, zag (dec64 (behind (dec64 (behind (dec62 l).2 l)).2 (behind (dec62 l).2 l))).1⟩, l.length - (behind (dec64 (behind (dec64 (behind (dec62 l).2 l)).2 (behind (dec62 l).2 l))).2 (behind (dec64 (behind (dec62 l).2 l)).2 (behind (dec62 l).2 l))).length) else (⟨0, 0, 0⟩, 0)) := by
 by_cases hi : (dec62 l).2 = 0
 · have e : behind (dec62 l).2 l = [] := by rw [hi]; rfl
   rw [e, dec64_nil]
   simp only [behind_zero, dec64_nil, ne_eq, not_true_eq_false, false_imp_iff, and_true, true_imp_iff]
   unfold getOpL
   rw [if_pos (.inl hi)]
 · have e : behind (dec62 l).2 l = l.drop (dec62 l).2 := behind_pos hi l
   rw [e]
   by_cases hj : (dec64 (l.drop (dec62 l).2)).2 = 0
   · have e2 : behind (dec64 (l.drop (dec62 l).2)).2 (l.drop (dec62 l).2) = [] := by rw [hj]; rfl
     rw [e2, dec64_nil]
     simp only [ne_eq, not_true_eq_false, false_imp_iff, and_true, true_imp_iff]
     unfold getOpL
     rw [if_pos (.inr (.inl hj))]
   · have e2 : behind (dec64 (l.drop (dec62 l).2)).2 (l.drop (dec62 l).2) = l.drop ((dec62 l).2 + (dec64 (l.drop (dec62 l).2)).2) := by rw [behind_pos hj, List.drop_drop]
     rw [e2]
     refine ⟨fun hk => ?_, fun hk => ?_⟩
     · unfold getOpL
       rw [if_pos (.inr (.inr (.inl hk)))]
     · have h1 := dec62_le l
       have h2 := dec64_le (l.drop (dec62 l).2)
       have h3 := dec64_le (l.drop ((dec62 l).2 + (dec64 (l.drop (dec62 l).2)).2))
       simp only [List.length_drop] at h2 h3
       rw [behind_pos hk, List.drop_drop, List.length_drop]
       unfold getOpL
       generalize (dec64 (l.drop ((dec62 l).2 + (dec64 (l.drop (dec62 l).2)).2))).2 = k at *
       generalize zag (dec64 (l.drop ((dec62 l).2 + (dec64 (l.drop (dec62 l).2)).2))).1 = y at *
       generalize (dec64 (l.drop (dec62 l).2)).2 = j at *
       generalize zag (dec64 (l.drop (dec62 l).2)).1 = x at *
       generalize (dec62 l).2 = i at *
       generalize (dec62 l).1 = c at *
       by_cases hf : FitsO ⟨(c : Int), x, y⟩
       · rw [if_neg (by rintro (h | h | h | h); exact hi h; exact hj h; exact hk h; exact h hf), if_pos hf]
         congr 1
         omega
       · rw [if_pos (.inr (.inr (.inr hf))), if_neg hf]

structure GIn (w W : World) (c a b : Int) (vb : Value) (m : List UInt8) : Prop where
 res : Bo W w.heap.size #[.int .i64 0, .int .i64 0, .int .i64 0]
 box : Bo W (w.heap.size + 1) #[.int .i64 c, .int .i64 a, .int .i64 b]
 cap : Bb W (w.heap.size + 1 + 1) vb
 rd : Rd W vb m
 below : Below w.heap.size w W

theorem GIn.next {w W W' : World} {c a b : Int} {vb v' : Value} {m m' : List UInt8} (h : GIn w W c a b vb m) (hb : But (w.heap.size + 1 + 1) (w.heap.size + 1 + 1) W W') (hc : Bb W' (w.heap.size + 1 + 1) v') (hr : Rd W' v' m') : GIn w W' c a b v' m' := by
 have hl := h.cap.lt
 exact ⟨(hb.block _ (by omega) (by omega) (by omega)).trans h.res, (hb.block _ (by omega) (by omega) (by omega)).trans h.box, hc, hr, below_but h.below hb (by omega) (by omega) (by omega)⟩

theorem Rd.setInt {w : World} {v x : Value} {m : List UInt8} (h : Rd w v m) {b j : Nat} {n : Int} (hb : w.cell? ⟨b, j, none⟩ = some (.int .i64 n)) : Rd (w.setCell ⟨b, j, none⟩ x) v m := by
 obtain ⟨va, vc, h1, h2, h3, hn, h4⟩ := h
 refine ⟨va, vc, h1, h2, h3, hn, ?_⟩
 rcases h4 with h4 | ⟨c, off, h5, h6⟩
 · exact .inl h4
 · refine .inr ⟨c, off, h5, fun k hk => ?_⟩
   have hc := h6 k hk
   rw [World.cell?_setCell_other w ⟨b, j, none⟩ ⟨c, off + k, none⟩ x (fun e => by
     rw [e, hc] at hb
     simp at hb)]
   exact hc

theorem GIn.store {w W : World} {c a b c' a' b' : Int} {vb : Value} {m : List UInt8} (h : GIn w W c a b vb m) (j : Nat) (x : Int) {n : Int} (hn : (#[Value.int .i64 c, .int .i64 a, .int .i64 b] : Array Value)[j]? = some (.int .i64 n)) (he : (#[Value.int .i64 c, .int .i64 a, .int .i64 b] : Array Value).setIfInBounds j (.int .i64 x) = #[.int .i64 c', .int .i64 a', .int .i64 b']) :
   GIn w (W.setCell ⟨w.heap.size + 1, j, none⟩ (.int .i64 x)) c' a' b' vb m := by
 have hl := h.cap.lt
 refine ⟨(Below.heap_setCell _ _ _ _ (by show w.heap.size ≠ w.heap.size + 1; omega)).trans h.res, ?_, (Below.heap_setCell _ _ _ _ (by show w.heap.size + 1 + 1 ≠ w.heap.size + 1; omega)).trans h.cap, h.rd.setInt (((h.box.cell j).1).trans hn), h.below.setCell (by show w.heap.size <= w.heap.size + 1; omega) _⟩
 have := heap_setCell_same W (w.heap.size + 1) j _ _ (.int .i64 x) h.box
 unfold Bo
 rw [<- he]
 simpa using this

theorem GIn.more {w W W' : World} {c a b : Int} {vb : Value} {m : List UInt8} (h : GIn w W c a b vb m) (hb : Below W.heap.size W W') : GIn w W' c a b vb m := by
 have hl := h.cap.lt
 exact ⟨(hb.block _ (by omega)).trans h.res, (hb.block _ (by omega)).trans h.box, (hb.block _ (by omega)).trans h.cap, h.rd.below hb (Nat.le_refl _), h.below.trans (hb.mono h.below.size)⟩

theorem cell_three (W : World) (b : Nat) (x0 x1 x2 : Value) (c i : Nat) (h : b ≠ c) : (((W.setCell ⟨b, 0, none⟩ x0).setCell ⟨b, 1, none⟩ x1).setCell ⟨b, 2, none⟩ x2).drew.cell? ⟨c, i, none⟩ = W.cell? ⟨c, i, none⟩ := by
 show (((W.setCell ⟨b, 0, none⟩ x0).setCell ⟨b, 1, none⟩ x1).setCell ⟨b, 2, none⟩ x2).cell? ⟨c, i, none⟩ = _
 rw [World.cell?_setCell_far _ _ _ _ h, World.cell?_setCell_far _ _ _ _ h, World.cell?_setCell_far _ _ _ _ h]

set_option maxRecDepth 100000 in
set_option maxHeartbeats 2000000 in
theorem getOp_any (v : Value) (l : List UInt8) (w : World) (hr : Rd w v l) (hlim : l.length <= 1000000) :
   Calls Tryz.prog 212 #[v] w fun e w' => Gotten w l e w' := by
 obtain ⟨va, vc, rfl⟩ : ∃ va vc, v = .slice va l.length vc := by
   obtain ⟨va, vc, rfl, _⟩ := hr
   exact ⟨va, vc, rfl⟩
 have HR := hide hr
 clear hr
 have HN1 : Hid (∀ W vb, Bb W (w.heap.size + 1 + 1) vb -> Rd W vb l -> Calls Tryz.prog 221 #[.func (.func 171) #[] #[], .pointer (some ⟨w.heap.size + 1 + 1, 0, none⟩)] W fun e w' => ∃ v', e = .returned (.tuple #[.int .i64 ((dec62 l).1 : Nat), .bool (decide ((dec62 l).2 ≠ 0))]) ∧ Bb w' (w.heap.size + 1 + 1) v' ∧ Rd w' v' (behind (dec62 l).2 l) ∧ But (w.heap.size + 1 + 1) (w.heap.size + 1 + 1) W w') := fun W vb h1 h2 => next_get _ _ _ _ _ W h1 h2 (dec62_le l) (fun h => by rw [dec62_zero h]; rfl) (get_any vb l W h2)
 have HNS : Hid (∀ m W vb, Bb W (w.heap.size + 1 + 1) vb -> Rd W vb m -> Calls Tryz.prog 221 #[.func (.func 204) #[] #[], .pointer (some ⟨w.heap.size + 1 + 1, 0, none⟩)] W fun e w' => ∃ v', e = .returned (.tuple #[.int .i64 (zag (dec64 m).1), .bool (decide ((dec64 m).2 ≠ 0))]) ∧ Bb w' (w.heap.size + 1 + 1) v' ∧ Rd w' v' (behind (dec64 m).2 m) ∧ But (w.heap.size + 1 + 1) (w.heap.size + 1 + 1) W w') := fun m W vb h1 h2 => next_signed _ _ _ _ _ W h1 h2 (dec64_le m) dec64_zero (getSigned_any vb m W h2)
 have HG := hide (getOp_behind l)
 have HLE1 := hide (behind_le (dec62 l).2 l)
 obtain ⟨m1, hm1⟩ : ∃ m1, m1 = behind (dec62 l).2 l := ⟨_, rfl⟩
 rw [<- hm1] at HG HN1 HLE1
 have HS1 := hide (HNS.out m1)
 have HLE2 := hide (behind_le (dec64 m1).2 m1)
 obtain ⟨m2, hm2⟩ : ∃ m2, m2 = behind (dec64 m1).2 m1 := ⟨_, rfl⟩
 rw [<- hm2] at HG HS1 HLE2
 have HS2 := hide (HNS.out m2)
 have HLE3 := hide (behind_le (dec64 m2).2 m2)
 obtain ⟨m3, hm3⟩ : ∃ m3, m3 = behind (dec64 m2).2 m2 := ⟨_, rfl⟩
 rw [<- hm3] at HG HS2 HLE3
 have hl3 : m3.length <= l.length := Nat.le_trans HLE3.out (Nat.le_trans HLE2.out HLE1.out)
 clear hm1 hm2 hm3 HNS HLE1 HLE2 HLE3
 unfold Gotten
 generalize getOpL l = R at *
 generalize (dec62 l).1 = c at *
 generalize (dec62 l).2 = i at *
 generalize zag (dec64 m1).1 = x at *
 generalize (dec64 m1).2 = j at *
 generalize zag (dec64 m2).1 = y at *
 generalize (dec64 m2).2 = k at *
 obtain ⟨C, hC⟩ : ∃ C : Int, C = (c : Int) := ⟨_, rfl⟩
 rw [<- hC] at HN1 HG
 have HF : Hid (∀ W, Calls Tryz.prog 87 #[.agg #[.int .i64 C, .int .i64 x, .int .i64 y]] W fun e w' => e = .returned (.bool (decide (FitsO ⟨C, x, y⟩))) ∧ Below W.heap.size W w') := fun W => fits_any ⟨C, x, y⟩ W
 have HNU := hide (fun W => numbers_any va l.length vc W)
 have HST : Hid (∀ W X Y, X = .cells #[.int .i64 0, .int .i64 0, .int .i64 0] 52 -> Y = .cells #[.int .i64 0, .int .i64 0, .int .i64 0] 52 -> W = ((w.alloc X).alloc Y).alloc (.cells #[.slice va l.length vc] 53) -> GIn w W 0 0 0 (.slice va l.length vc) l) := fun W X Y hX hY hW => by
   subst hX hY hW
   have b1 : Below w.heap.size w (((w.alloc (.cells #[.int .i64 0, .int .i64 0, .int .i64 0] 52)).alloc (.cells #[.int .i64 0, .int .i64 0, .int .i64 0] 52)).alloc (.cells #[.slice va l.length vc] 53)) := (((Below.refl _ _).alloc (Nat.le_refl _) _).alloc (by simp) _).alloc (by simp; omega) _
   refine ⟨?_, ?_, ?_, HR.out.below b1 (Nat.le_refl _), b1⟩
   · exact (Below.heap_alloc _ _ _ (by simp; omega)).trans ((Below.heap_alloc _ _ _ (by simp)).trans (heap_alloc_new w _))
   · exact (Below.heap_alloc _ _ _ (by simp)).trans (two_new w _ _)
   · have h := heap_alloc_new ((w.alloc (.cells #[.int .i64 0, .int .i64 0, .int .i64 0] 52)).alloc (.cells #[.int .i64 0, .int .i64 0, .int .i64 0] 52)) (.cells #[.slice va l.length vc] 53)
     have e : ((w.alloc (.cells #[.int .i64 0, .int .i64 0, .int .i64 0] 52)).alloc (.cells #[.int .i64 0, .int .i64 0, .int .i64 0] 52)).heap.size = w.heap.size + 1 + 1 := by simp
     rw [e] at h
     exact h
 clear hC
 go_enter Tryz.func212, Tryz.ntmps212
 go_wp2_with fail
 refine (HNU.out _).mono ?_
 rintro e W1 ⟨rfl, hw1⟩
 have G1 := hide (HST.out W1 _ _ rfl rfl hw1)
 clear hw1 HST HNU
 go_wp2_with fail
 refine (HN1.out _ _ G1.out.cap G1.out.rd).mono ?_
 rintro e W2 ⟨v2, rfl, hb2, hr2, hk2⟩
 have G2 := hide (G1.out.next hk2 hb2 hr2)
 obtain ⟨p0, f0⟩ := G2.out.box.cell 0
 clear hb2 hr2 hk2 G1 HN1
 have HT2 := hide (G2.out.store (c' := C) (a' := 0) (b' := 0) 0 C rfl rfl)
 go_wp2_with fail
 refine (HS1.out _ _ HT2.out.cap HT2.out.rd).mono ?_
 rintro e W3 ⟨v3, rfl, hb3, hr3, hk3⟩
 have G3 := hide (HT2.out.next hk3 hb3 hr3)
 obtain ⟨p1, f1⟩ := G3.out.box.cell 1
 clear hb3 hr3 hk3 G2 HT2 HS1 p0 f0
 have HT3 := hide (G3.out.store (c' := C) (a' := x) (b' := 0) 1 x rfl rfl)
 go_wp2_with fail
 refine (HS2.out _ _ HT3.out.cap HT3.out.rd).mono ?_
 rintro e W4 ⟨v4, rfl, hb4, hr4, hk4⟩
 have G4 := hide (HT3.out.next hk4 hb4 hr4)
 obtain ⟨p2, f2⟩ := G4.out.box.cell 2
 clear hb4 hr4 hk4 G3 HT3 HS2 p1 f1
 have HT4 := hide (G4.out.store (c' := C) (a' := x) (b' := y) 2 y rfl rfl)
 by_cases hk : k = 0
 · have HN : Hid (R = (⟨0, 0, 0⟩, 0)) := HG.out.1 hk
   rw [decide_eq_false (fun h => h hk)]
   obtain ⟨r0, g0⟩ := HT4.out.res.cell 0
   obtain ⟨r1, g1⟩ := HT4.out.res.cell 1
   obtain ⟨r2, g2⟩ := HT4.out.res.cell 2
   have HBL := hide HT4.out.below
   clear hk G4
   go_wp2
   refine bodyPost_ret (v := .tuple #[.agg #[.int .i64 0, .int .i64 0, .int .i64 0], .int .i64 0]) (by simp [results, Tryz.results212, go_sem, r0, r1, r2]) rfl ?_
   rw [HN.out]
   exact ⟨rfl, ((HBL.out.setCell (Nat.le_refl _) _).setCell (Nat.le_refl _) _).setCell (Nat.le_refl _) _⟩
 · have HN := hide (HG.out.2 hk)
   rw [decide_eq_true hk]
   obtain ⟨q0, -⟩ := HT4.out.box.cell 0
   obtain ⟨q1, -⟩ := HT4.out.box.cell 1
   obtain ⟨q2, -⟩ := HT4.out.box.cell 2
   clear hk HG
   go_wp2_with fail
   refine (HF.out _).mono ?_
   rintro e W5 ⟨rfl, hb5⟩
   have G5 := hide (HT4.out.more hb5)
   clear hb5 HT4 G4 q0 q1 q2 p2 f2
   obtain ⟨r0, g0⟩ := G5.out.res.cell 0
   obtain ⟨r1, g1⟩ := G5.out.res.cell 1
   obtain ⟨r2, g2⟩ := G5.out.res.cell 2
   have HBL := hide G5.out.below
   by_cases hf : FitsO ⟨C, x, y⟩
   · rw [decide_eq_true hf]
     rw [if_pos hf] at HN
     obtain ⟨q0, -⟩ := G5.out.box.cell 0
     obtain ⟨q1, -⟩ := G5.out.box.cell 1
     obtain ⟨q2, -⟩ := G5.out.box.cell 2
     have hc := G5.out.cap.cell.1
     obtain ⟨a4, c4, rfl, -⟩ := G5.out.rd
     have HL := hide (fun W h => left_any (w.heap.size + 1 + 1) a4 m3.length c4 W h)
     have hsub : IntKind.i64.wrap ((l.length : Int) - (m3.length : Int)) = ((l.length - m3.length : Nat) : Int) := by rw [IntKind.wrap_i64]; omega
     have HSB := hide hsub
     have HK1 := hide (⟨q0, q1, q2, hc⟩ : W5.drew.cell? ⟨w.heap.size + 1, 0, none⟩ = some (.int .i64 C) ∧ W5.drew.cell? ⟨w.heap.size + 1, 1, none⟩ = some (.int .i64 x) ∧ W5.drew.cell? ⟨w.heap.size + 1, 2, none⟩ = some (.int .i64 y) ∧ W5.drew.cell? ⟨w.heap.size + 1 + 1, 0, none⟩ = some (.slice a4 m3.length c4))
     have HK2 := hide (⟨(cell_three W5 w.heap.size (.int .i64 C) (.int .i64 x) (.int .i64 y) _ _ (by omega)).trans q0, (cell_three W5 w.heap.size (.int .i64 C) (.int .i64 x) (.int .i64 y) _ _ (by omega)).trans q1, (cell_three W5 w.heap.size (.int .i64 C) (.int .i64 x) (.int .i64 y) _ _ (by omega)).trans q2, (cell_three W5 w.heap.size (.int .i64 C) (.int .i64 x) (.int .i64 y) (w.heap.size + 1 + 1) 0 (by omega)).trans hc⟩ : _ ∧ _ ∧ _ ∧ _)
     clear hf G5 hsub HF
     go_wp2
     go_region_held (fun w' => w'.cell? ⟨w.heap.size + 1, 0, none⟩ = some (.int .i64 C) ∧ w'.cell? ⟨w.heap.size + 1, 1, none⟩ = some (.int .i64 x) ∧ w'.cell? ⟨w.heap.size + 1, 2, none⟩ = some (.int .i64 y) ∧ w'.cell? ⟨w.heap.size + 1 + 1, 0, none⟩ = some (.slice a4 m3.length c4)) (first | exact HK1.out | exact HK2.out)
       (first
         | (go_at_call 222; refine (HL.out _ (by first | exact HK1.out.2.2.2 | exact HK2.out.2.2.2)).mono ?_; rintro e w' ⟨rfl, rfl⟩))
     all_goals
       go_wp2
       refine bodyPost_ret (v := .tuple #[.agg #[.int .i64 C, .int .i64 x, .int .i64 y], .int .i64 (IntKind.i64.wrap ((l.length : Int) - (m3.length : Int)))]) (by simp [results, Tryz.results212, go_sem, r0, r1, r2]) rfl ?_
       rw [HN.out, HSB.out]
       exact ⟨rfl, ((((HBL.out.setCell (Nat.le_refl _) _).setCell (Nat.le_refl _) _).setCell (Nat.le_refl _) _)).drew⟩
   · rw [decide_eq_false hf]
     rw [if_neg hf] at HN
     clear hf G5
     go_wp2
     refine bodyPost_ret (v := .tuple #[.agg #[.int .i64 0, .int .i64 0, .int .i64 0], .int .i64 0]) (by simp [results, Tryz.results212, go_sem, r0, r1, r2]) rfl ?_
     rw [HN.out]
     exact ⟨rfl, ((HBL.out.setCell (Nat.le_refl _) _).setCell (Nat.le_refl _) _).setCell (Nat.le_refl _) _⟩

end Go.Proofs.YtpopbandpnaicaaGreatDoor
