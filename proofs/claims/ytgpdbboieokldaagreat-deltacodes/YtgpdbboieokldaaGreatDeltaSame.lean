/- Contract of delta: Same. -/
import Derived.Test.YtgpdbboieokldaaGreatPack3
import Derived.Test.YtgpdbboieokldaaGreatPack5
namespace Go.Proofs.YtgpdbboieokldaaGreat
open Go.RowKit

set_option maxRecDepth 100000 in
set_option maxHeartbeats 4000000 in
theorem sameD_any (va : Value) (a : Delt) (vb : Value) (b : Delt) (w : World) (ha : DlV w va a) (hb : DlV w vb b) :
    Calls Tryz.prog 11 #[va, vb] w fun x w' => x = .returned (.bool (decide (SameD a b))) ∧ Below w.heap.size w w' := by
  obtain ⟨ma, mc, ta, tc, rfl, hm, ht⟩ := ha.shape
  obtain ⟨ma', mc', ta', tc', rfl, hm', ht'⟩ := hb.shape
  have HEI : Hid (∀ W, Below w.heap.size w W → Calls Tryz.prog 26 #[.slice ma a.mid.length mc, .slice ma' b.mid.length mc'] W fun e w' => e = .returned (.bool (decide (a.mid = b.mid))) ∧ Below W.heap.size W w') := hide (fun W h => equalI_any _ a.mid _ b.mid W (hm.below h (Nat.le_refl _)) (hm'.below h (Nat.le_refl _)))
  have HEE : Hid (∀ W, Below w.heap.size w W → Calls Tryz.prog 27 #[.slice ta a.tab.length tc, .slice ta' b.tab.length tc'] W fun e w' => e = .returned (.bool (decide (a.tab = b.tab))) ∧ Below W.heap.size W w') := hide (fun W h => equalE_any _ a.tab _ b.tab W (ht.below h (Nat.le_refl _)) (ht'.below h (Nat.le_refl _)))
  obtain ⟨D, hD⟩ : ∃ D, D = decide (SameD a b) := ⟨_, rfl⟩
  rw [← hD]
  have HU : Hid (SameD a b ↔ a.frm = b.frm ∧ a.upto = b.upto ∧ a.ahead = b.ahead ∧ a.behind = b.behind ∧ a.mid = b.mid ∧ a.shut = b.shut ∧ a.eng = b.eng ∧ a.tab = b.tab) := hide Iff.rfl
  have HD0 : Hid (¬ SameD a b → D = false) := hide (fun h => by rw [hD]; exact decide_eq_false h)
  have HD1 : Hid (SameD a b → D = true) := hide (fun h => by rw [hD]; exact decide_eq_true h)
  obtain ⟨W0, hW0⟩ : ∃ W0, W0 = (w.alloc (.cells #[.int .i64 a.frm, .int .i64 a.upto, .int .i64 a.ahead, .int .i64 a.behind, .slice ma a.mid.length mc, .bool a.shut, .int .i64 a.eng, .slice ta a.tab.length tc] 25)).alloc (.cells #[.int .i64 b.frm, .int .i64 b.upto, .int .i64 b.ahead, .int .i64 b.behind, .slice ma' b.mid.length mc', .bool b.shut, .int .i64 b.eng, .slice ta' b.tab.length tc'] 25) := ⟨_, rfl⟩
  have HX0 : Hid (Bd W0 w.heap.size #[.int .i64 a.frm, .int .i64 a.upto, .int .i64 a.ahead, .int .i64 a.behind, .slice ma a.mid.length mc, .bool a.shut, .int .i64 a.eng, .slice ta a.tab.length tc]) := hide (by rw [hW0]; exact (Below.heap_alloc _ _ _ (by simp)).trans (heap_alloc_new w _))
  have HY0 : Hid (Bd W0 (w.heap.size + 1) #[.int .i64 b.frm, .int .i64 b.upto, .int .i64 b.ahead, .int .i64 b.behind, .slice ma' b.mid.length mc', .bool b.shut, .int .i64 b.eng, .slice ta' b.tab.length tc']) := hide (by rw [hW0]; exact new_two w _ _)
  have HB0 : Hid (Below w.heap.size w W0) := hide (by rw [hW0]; exact ((Below.refl _ _).alloc (Nat.le_refl _) _).alloc (by simp) _)
  have HW0 := hide hW0
  obtain ⟨me, hme⟩ : ∃ m, m = decide (a.mid = b.mid) := ⟨_, rfl⟩
  obtain ⟨te, hte⟩ : ∃ m, m = decide (a.tab = b.tab) := ⟨_, rfl⟩
  rw [← hme] at HEI
  rw [← hte] at HEE
  have HME := hide hme
  have HTE := hide hte
  clear hme hte hD hW0 hm ht hm' ht' ha hb
  obtain ⟨fr, up, ah, bh, mid, sh, en, tab⟩ := a
  obtain ⟨fr', up', ah', bh', mid', sh', en', tab'⟩ := b
  dsimp only at *
  obtain ⟨⟨p0, p1, p2, p3, p4, p5, p6, p7⟩, -⟩ := HX0.out.all
  obtain ⟨⟨q0, q1, q2, q3, q4, q5, q6, q7⟩, -⟩ := HY0.out.all
  go_enter Tryz.func11, Tryz.ntmps11
  go_upto_region 1 with fail
  rw [← HW0.out]
  clear HW0
  by_cases h0 : fr = fr'
  case neg =>
    have h0d : (fr == fr') = false := beq_eq_false_iff_ne.2 h0
    have HF := hide (HD0.out (fun h => h0 (HU.out.1 h).1))
    clear h0
    go_wp2
    go_ret
    rw [HF.out]
    exact ⟨rfl, HB0.out⟩
  have h0d : (fr == fr') = true := beq_iff_eq.2 h0
  by_cases h1 : up = up'
  case neg =>
    have h1d : (up == up') = false := beq_eq_false_iff_ne.2 h1
    have HF := hide (HD0.out (fun h => h1 (HU.out.1 h).2.1))
    clear h0 h1
    go_wp2
    go_ret
    rw [HF.out]
    exact ⟨rfl, HB0.out⟩
  have h1d : (up == up') = true := beq_iff_eq.2 h1
  by_cases h2 : ah = ah'
  case neg =>
    have h2d : (ah == ah') = false := beq_eq_false_iff_ne.2 h2
    have HF := hide (HD0.out (fun h => h2 (HU.out.1 h).2.2.1))
    clear h0 h1 h2
    go_wp2
    go_ret
    rw [HF.out]
    exact ⟨rfl, HB0.out⟩
  have h2d : (ah == ah') = true := beq_iff_eq.2 h2
  by_cases h3 : bh = bh'
  case neg =>
    have h3d : (bh == bh') = false := beq_eq_false_iff_ne.2 h3
    have HF := hide (HD0.out (fun h => h3 (HU.out.1 h).2.2.2.1))
    clear h0 h1 h2 h3
    go_wp2
    go_ret
    rw [HF.out]
    exact ⟨rfl, HB0.out⟩
  have h3d : (bh == bh') = true := beq_iff_eq.2 h3
  have H03 := hide (And.intro h0 (And.intro h1 (And.intro h2 h3)))
  clear h0 h1 h2 h3
  go_wp2_with fail
  refine (HEI.out _ HB0.out).mono ?_
  rintro x W1 ⟨rfl, hb1⟩
  have HX1 := hide (HX0.out.below hb1 (Nat.le_refl _))
  have HY1 := hide (HY0.out.below hb1 (Nat.le_refl _))
  have HB1 := hide (HB0.out.trans (hb1.mono HB0.out.size))
  clear hb1 HEI HX0 HY0 HB0 p0 p1 p2 p3 p4 p5 p6 p7 q0 q1 q2 q3 q4 q5 q6 q7
  obtain ⟨⟨p0, p1, p2, p3, p4, p5, p6, p7⟩, -⟩ := HX1.out.all
  obtain ⟨⟨q0, q1, q2, q3, q4, q5, q6, q7⟩, -⟩ := HY1.out.all
  cases me with
  | false =>
    have HF := hide (HD0.out (fun h => of_decide_eq_false HME.out.symm (HU.out.1 h).2.2.2.2.1))
    go_wp2
    go_ret
    rw [HF.out]
    exact ⟨rfl, HB1.out⟩
  | true =>
  by_cases h5 : sh = sh'
  case neg =>
    have h5d : (sh == sh') = false := beq_eq_false_iff_ne.2 h5
    have HF := hide (HD0.out (fun h => h5 (HU.out.1 h).2.2.2.2.2.1))
    clear h5
    go_wp2
    go_ret
    rw [HF.out]
    exact ⟨rfl, HB1.out⟩
  have h5d : (sh == sh') = true := beq_iff_eq.2 h5
  by_cases h6 : en = en'
  case neg =>
    have h6d : (en == en') = false := beq_eq_false_iff_ne.2 h6
    have HF := hide (HD0.out (fun h => h6 (HU.out.1 h).2.2.2.2.2.2.1))
    clear h5 h6
    go_wp2
    go_ret
    rw [HF.out]
    exact ⟨rfl, HB1.out⟩
  have h6d : (en == en') = true := beq_iff_eq.2 h6
  have H56 := hide (And.intro h5 h6)
  clear h5 h6
  go_wp2_with fail
  refine (HEE.out _ HB1.out).mono ?_
  rintro x W2 ⟨rfl, hb2⟩
  have HB2 := hide (HB1.out.trans (hb2.mono HB1.out.size))
  have HF : Hid (D = te) := hide (by
    cases te with
    | false => exact HD0.out (fun h => of_decide_eq_false HTE.out.symm (HU.out.1 h).2.2.2.2.2.2.2)
    | true => exact HD1.out (HU.out.2 ⟨H03.out.1, H03.out.2.1, H03.out.2.2.1, H03.out.2.2.2, of_decide_eq_true HME.out.symm, H56.out.1, H56.out.2, of_decide_eq_true HTE.out.symm⟩))
  clear hb2 HEE
  go_wp2
  go_ret
  rw [HF.out]
  exact ⟨rfl, HB2.out⟩

end Go.Proofs.YtgpdbboieokldaaGreat
