/- Proved: for all inputs the law DeltaDiffs answers true (and the call leaves all older memory as it was). No condition. -/
import Derived.Test.YtgpdbboieokldaaDeltaTwo
import Derived.Test.YtgpdbboieokldaaOpenSnap
import Derived.Test.YtgpdbboieokldaaRef10H
import Derived.Test.YtgpdbboieokldaaRef10S
import Derived.OpenShut
import Derived.ChangeOld
namespace Go.Proofs.Ytgpdbboieokldaa.deltaDiffs
open Go.ChangeShapes Go.WideShapes Go.ChangeAt Go.RowKit

set_option maxRecDepth 100000 in
set_option maxHeartbeats 8000000 in
theorem walk (va : Value) (a : Snap) (vb : Value) (b : Snap) (w : World) (ha : SnV w va a) (hb : SnV w vb b) :
    Calls Try.prog 3 #[va, vb] w fun e w' => e = .returned (.bool true) ∧ Below w.heap.size w w' := by
  have HFA : Hid (∀ W, Below w.heap.size w W → Calls Try.prog 9 #[va] W fun e w' => e = .returned (.bool (decide (a.st.L.length ≤ 300 ∧ a.tab.length ≤ 100))) ∧ Below W.heap.size W w') := hide (fun W h => fewN_any va a W (ha.below h (Nat.le_refl _)))
  have HFB : Hid (∀ W, Below w.heap.size w W → Calls Try.prog 9 #[vb] W fun e w' => e = .returned (.bool (decide (b.st.L.length ≤ 300 ∧ b.tab.length ≤ 100))) ∧ Below W.heap.size W w') := hide (fun W h => fewN_any vb b W (hb.below h (Nat.le_refl _)))
  have HVA : Hid (∀ W, Below w.heap.size w W → SnV W va a) := hide (fun W h => ha.below h (Nat.le_refl _))
  have HVB : Hid (∀ W, Below w.heap.size w W → SnV W vb b) := hide (fun W h => hb.below h (Nat.le_refl _))
  have HDI : Hid (∀ W, Below w.heap.size w W → Calls Try.prog 10 #[va, vb] W fun e w' => GivenD W (diffD a b) e w') := hide (fun W h => diff_any va a vb b W (ha.below h (Nat.le_refl _)) (hb.below h (Nat.le_refl _)))
  have HDR : Hid (∀ W, Below w.heap.size w W → Calls Try.prog 11 #[va, vb] W fun e w' => GivenD W (diffD a b) e w') := hide (fun W h => refDiff_any va a vb b W (ha.below h (Nat.le_refl _)) (hb.below h (Nat.le_refl _)))
  have HS2 := hide (fun va a vb b w h1 h2 => refSameD_any va a vb b w h1 h2)
  have HAW := hide (fun W => awake10_any W)
  obtain ⟨la, lc, ta, tc, hv⟩ := ha.shape
  subst hv
  obtain ⟨la', lc', ta', tc', hv⟩ := hb.shape
  subst hv
  obtain ⟨W0, hW0⟩ : ∃ W0, W0 = (w.alloc (.cells #[.int .i64 a.idx, .int .i64 a.st.kind, .slice la a.st.L.length lc, .bool a.st.shut, .int .i64 a.st.eng, .slice ta a.tab.length tc] 27)).alloc (.cells #[.int .i64 b.idx, .int .i64 b.st.kind, .slice la' b.st.L.length lc', .bool b.st.shut, .int .i64 b.st.eng, .slice ta' b.tab.length tc'] 27) := ⟨_, rfl⟩
  have HX0 : Hid (Bn W0 w.heap.size #[.int .i64 a.idx, .int .i64 a.st.kind, .slice la a.st.L.length lc, .bool a.st.shut, .int .i64 a.st.eng, .slice ta a.tab.length tc]) := hide (by rw [hW0]; exact first_new w _ _)
  have HY0 : Hid (Bn W0 (w.heap.size + 1) #[.int .i64 b.idx, .int .i64 b.st.kind, .slice la' b.st.L.length lc', .bool b.st.shut, .int .i64 b.st.eng, .slice ta' b.tab.length tc']) := hide (by rw [hW0]; exact new_two w _ _)
  have HB0 : Hid (Below w.heap.size w W0) := hide (by rw [hW0]; exact below_two w _ _)
  have HW0 := hide hW0
  obtain ⟨fa, hfa⟩ : ∃ f, f = decide (a.st.L.length ≤ 300 ∧ a.tab.length ≤ 100) := ⟨_, rfl⟩
  obtain ⟨fb, hfb⟩ : ∃ f, f = decide (b.st.L.length ≤ 300 ∧ b.tab.length ≤ 100) := ⟨_, rfl⟩
  rw [← hfa] at HFA
  rw [← hfb] at HFB
  have HNA := hide hfa
  have HNB := hide hfb
  clear hW0 hfa hfb ha hb
  generalize hDN : diffD a b = DN at *
  obtain ⟨ai, ⟨ak, aL, ash, ae⟩, aT⟩ := a
  obtain ⟨bi, ⟨bk, bL, bsh, be⟩, bT⟩ := b
  dsimp only at *
  go_enter Try.func3, Try.ntmps3
  go_upto_region 1 with fail
  rw [← HW0.out]
  clear HW0
  go_wp2_with fail
  refine (HAW.out _).mono ?_
  rintro e W1 ⟨rfl, hb1⟩
  have HX1 := hide (HX0.out.below hb1 (Nat.le_refl _))
  have HY1 := hide (HY0.out.below hb1 (Nat.le_refl _))
  have HB1 := hide (HB0.out.trans (hb1.mono HB0.out.size))
  clear hb1 HAW HX0 HY0 HB0
  obtain ⟨⟨p0, p1, p2, p3, p4, p5⟩, -⟩ := HX1.out.all
  go_wp2_with fail
  refine (HFA.out _ HB1.out).mono ?_
  rintro e W2 ⟨rfl, hb2⟩
  have HX2 := hide (HX1.out.below hb2 (Nat.le_refl _))
  have HY2 := hide (HY1.out.below hb2 (Nat.le_refl _))
  have HB2 := hide (HB1.out.trans (hb2.mono HB1.out.size))
  clear hb2 HFA HX1 HY1 HB1 p0 p1 p2 p3 p4 p5
  obtain ⟨⟨p0, p1, p2, p3, p4, p5⟩, -⟩ := HY2.out.all
  go_wp2_with fail
  refine (HFB.out _ HB2.out).mono ?_
  rintro e W3 ⟨rfl, hb3⟩
  have HX3 := hide (HX2.out.below hb3 (Nat.le_refl _))
  have HY3 := hide (HY2.out.below hb3 (Nat.le_refl _))
  have HB3 := hide (HB2.out.trans (hb3.mono HB2.out.size))
  clear hb3 HFB HX2 HY2 HB2 p0 p1 p2 p3 p4 p5
  cases fa with
  | false =>
    go_wp2
    go_ret
    exact ⟨rfl, HB3.out⟩
  | true =>
  cases fb with
  | false =>
    go_wp2
    go_ret
    exact ⟨rfl, HB3.out⟩
  | true =>
  obtain ⟨hfa1, hfa2⟩ := of_decide_eq_true HNA.out.symm
  obtain ⟨hfb1, hfb2⟩ := of_decide_eq_true HNB.out.symm
  clear HNA HNB
  obtain ⟨⟨p0, p1, p2, p3, p4, p5⟩, -⟩ := HX3.out.all
  obtain ⟨⟨q0, q1, q2, q3, q4, q5⟩, -⟩ := HY3.out.all
  go_wp2_with fail
  refine (HDI.out _ HB3.out).mono ?_
  rintro e W4 ⟨vm, vt, rfl, hm4, ht4, hi4, -, -, hb4⟩
  obtain ⟨D, er⟩ := DN
  dsimp only at hm4 ht4 hi4 ⊢
  have HD4 : Hid (∀ W, Below W4.heap.size W4 W → DlV W (.agg #[.int .i64 D.frm, .int .i64 D.upto, .int .i64 D.ahead, .int .i64 D.behind, vm, .bool D.shut, .int .i64 D.eng, vt]) D) := hide (fun W h => ⟨vm, vt, rfl, hm4.below h (Nat.le_refl _), ht4.below h (Nat.le_refl _), hi4⟩)
  obtain ⟨ma, mc, hv⟩ := hm4.shape
  subst hv
  obtain ⟨da, dc, hv⟩ := ht4.shape
  subst hv
  have HX4 := hide (HX3.out.below hb4 (Nat.le_refl _))
  have HY4 := hide (HY3.out.below hb4 (Nat.le_refl _))
  have HB4 := hide (HB3.out.trans (hb4.mono HB3.out.size))
  obtain ⟨W5, hW5⟩ : ∃ W5, W5 = W4.alloc (.cells #[.int .i64 D.frm, .int .i64 D.upto, .int .i64 D.ahead, .int .i64 D.behind, .slice ma D.mid.length mc, .bool D.shut, .int .i64 D.eng, .slice da D.tab.length dc] 31) := ⟨_, rfl⟩
  obtain ⟨QD, hQD⟩ : ∃ QD, QD = W4.heap.size := ⟨_, rfl⟩
  have hA5 : Below W4.heap.size W4 W5 := by rw [hW5]; exact (Below.refl _ _).alloc (Nat.le_refl _) _
  have HZ5 : Hid (Bd W5 QD #[.int .i64 D.frm, .int .i64 D.upto, .int .i64 D.ahead, .int .i64 D.behind, .slice ma D.mid.length mc, .bool D.shut, .int .i64 D.eng, .slice da D.tab.length dc]) := hide (by rw [hW5, hQD]; exact heap_alloc_new W4 _)
  have HX5 := hide (HX4.out.below hA5 (Nat.le_refl _))
  have HY5 := hide (HY4.out.below hA5 (Nat.le_refl _))
  have HB5 := hide (HB4.out.trans (hA5.mono HB4.out.size))
  have HD5 : Hid (∀ W, Below W5.heap.size W5 W → DlV W (.agg #[.int .i64 D.frm, .int .i64 D.upto, .int .i64 D.ahead, .int .i64 D.behind, .slice ma D.mid.length mc, .bool D.shut, .int .i64 D.eng, .slice da D.tab.length dc]) D) := hide (fun W h => HD4.out W (hA5.trans (h.mono hA5.size)))
  have HW5 := hide hW5
  clear hb4 hm4 ht4 hi4 HDI hW5 hA5 HX3 HY3 HB3 HX4 HY4 HB4 HD4 p0 p1 p2 p3 p4 p5 q0 q1 q2 q3 q4 q5
  go_upto_region 7 with fail
  rw [← HW5.out, ← hQD]
  clear HW5 hQD
  obtain ⟨⟨p0, p1, p2, p3, p4, p5⟩, -⟩ := HX5.out.all
  obtain ⟨⟨q0, q1, q2, q3, q4, q5⟩, -⟩ := HY5.out.all
  go_wp2_with fail
  refine (HDR.out _ HB5.out).mono ?_
  rintro e W6 ⟨vm, vt, rfl, hm6, ht6, hi6, -, -, hb6⟩
  dsimp only at hm6 ht6 hi6 ⊢
  obtain ⟨na, nc, hv⟩ := hm6.shape
  subst hv
  obtain ⟨ea, ec, hv⟩ := ht6.shape
  subst hv
  have HE6 : Hid (DlV W6 (.agg #[.int .i64 D.frm, .int .i64 D.upto, .int .i64 D.ahead, .int .i64 D.behind, .slice na D.mid.length nc, .bool D.shut, .int .i64 D.eng, .slice ea D.tab.length ec]) D) := hide ⟨_, _, rfl, hm6, ht6, hi6⟩
  obtain ⟨W7, hW7⟩ : ∃ W7, W7 = W6.alloc (.cells #[.int .i64 D.frm, .int .i64 D.upto, .int .i64 D.ahead, .int .i64 D.behind, .slice na D.mid.length nc, .bool D.shut, .int .i64 D.eng, .slice ea D.tab.length ec] 31) := ⟨_, rfl⟩
  obtain ⟨QE, hQE⟩ : ∃ QE, QE = W6.heap.size := ⟨_, rfl⟩
  have hA7 : Below W6.heap.size W6 W7 := by rw [hW7]; exact (Below.refl _ _).alloc (Nat.le_refl _) _
  have hA57 : Below W5.heap.size W5 W7 := hb6.trans (hA7.mono hb6.size)
  have HU7 : Hid (Bd W7 QE #[.int .i64 D.frm, .int .i64 D.upto, .int .i64 D.ahead, .int .i64 D.behind, .slice na D.mid.length nc, .bool D.shut, .int .i64 D.eng, .slice ea D.tab.length ec]) := hide (by rw [hW7, hQE]; exact heap_alloc_new W6 _)
  have HE7 := hide (HE6.out.below hA7 (Nat.le_refl _))
  have HD7 := hide (HD5.out W7 hA57)
  have HZ7 := hide (HZ5.out.below hA57 (Nat.le_refl _))
  have HB7 := hide (HB5.out.trans (hA57.mono HB5.out.size))
  have HW7 := hide hW7
  clear hm6 ht6 hi6 hb6 hA7 hA57 hW7 HDR HX5 HY5 HB5 HD5 HZ5 HE6 p0 p1 p2 p3 p4 p5 q0 q1 q2 q3 q4 q5
  go_upto_region 8 with fail
  rw [← HW7.out, ← hQE]
  clear HW7 hQE
  obtain ⟨⟨p0, p1, p2, p3, p4, p5, p6, p7⟩, -⟩ := HZ7.out.all
  obtain ⟨⟨q0, q1, q2, q3, q4, q5, q6, q7⟩, -⟩ := HU7.out.all
  have hrf : decide (SameD D D) = true := decide_eq_true (SameD.refl D)
  have HCS := hide (HS2.out _ _ _ _ W7 HD7.out HE7.out)
  rw [hrf] at HCS
  clear hrf
  go_wp2_with fail
  refine HCS.out.mono ?_
  rintro e W8 ⟨rfl, hb8⟩
  have HB8 := hide (HB7.out.trans (hb8.mono HB7.out.size))
  clear hb8 HCS HS2 HB7 HU7 HE7 HD7 HZ7
  go_wp2
  go_ret
  exact ⟨rfl, HB8.out⟩

theorem own : ownKnob Try.prog.godebug = none := by kernel_rfl
theorem laidOut : laidOutB Try.prog = true := by kernel_rfl

set_option linter.unusedVariables false in
set_option maxRecDepth 100000 in
theorem lifted (os : Os) (started : os.Started) (H : Type) (enc : TypeId × Value → H) :
    ReturnsInHanded {} Try.checked os 3 .any (Rows.deltaDiffsSpec.pre6 enc Try.prog Try.f3 Rows.deltaDiffsRow.domain false) (Rows.deltaDiffsSpec.post enc Try.prog Try.f3 false true false false) := by
  refine returnsInHanded_of_change (C := Try.checked) own started (by kernel_rfl) Try.func3
    (ChangeSpec.witness6 (enc := enc) (C := Try.checked) false ⟨#[], #[.agg #[.int .i64 0, .int .i64 0, .slice none 0 0, .bool false, .int .i64 0, .slice none 0 0], .agg #[.int .i64 0, .int .i64 0, .slice none 0 0, .bool false, .int .i64 0, .slice none 0 0]], []⟩ 8 (by kernel_rfl) (by kernel_rfl) (by kernel_rfl) (by kernel_rfl)) ?_
  intro W base args ds gs before hval0 hW hcnd _
  have hval : ∀ (j : Nat) t v, Try.f3.params[j]? = some t → args[j]? = some v → Value.okWide Try.prog W .any base t v := hval0
  have hW' := hW
  obtain ⟨p, q, hA0, hV, rfl, hfz, hnd⟩ := hW
  have hA : DataW.TrodAll enc Try.prog W 0 (fun _ => true) true Try.f3.params.toList args.toList ds p := hA0
  rw [Try.params3] at hA hval
  obtain ⟨v0, vs0, d0, ds0, p0, q0, hargs, rfl, rfl, h0, r0⟩ := trodAll_cons hA
  obtain ⟨v1, vs1, d1, ds1, p1, q1, rfl, rfl, rfl, h1, r1⟩ := trodAll_cons r0
  obtain ⟨rfl, rfl, rfl⟩ := trodAll_nil r1
  obtain rfl : args = #[v0, v1] := by cases args; simp_all
  obtain ⟨rfl, rfl⟩ := trodVars_none hV
  have k0 := h0
  have lt0 : ∀ x ∈ p0, x.block < W.heap.size := by obtain ⟨m, hm⟩ := k0; exact DataW.trod_lt m _ _ _ hm
  obtain ⟨s0, w0⟩ := open_snap (hval 0 27 v0 rfl rfl) h0
  have k1 := h1
  have lt1 : ∀ x ∈ p1, x.block < W.heap.size := by obtain ⟨m, hm⟩ := k1; exact DataW.trod_lt m _ _ _ hm
  obtain ⟨s1, w1⟩ := open_snap (hval 1 27 v1 rfl rfl) h1
  clear hA0 hval0
  refine (walk _ s0 _ s1 W w0 w1).mono fun e W' ⟨he, bel⟩ => ?_
  subst he
  exact ⟨_, rfl, _, _, _, [], _, [], hW', trodAll_mk1 (shut_bool Try.underlying4 _), (trodAll_cons_mk (Below.trod laidOut (by kernel_rfl) (of_decide_eq_true (by kernel_rfl)) k0 bel lt0) (trodAll_cons_mk (Below.trod laidOut (by kernel_rfl) (of_decide_eq_true (by kernel_rfl)) k1 bel lt1) trodAll_mk0)), rfl, bel.frame _, fun h => by cases h⟩

theorem over : Rows.deltaDiffsRow.holds Try.pinned (OpenSpec.ofChange Rows.deltaDiffsSpec) :=
  OpenClaim.holds_of_wide 3 Try.f3 rfl rfl rfl rfl rfl rfl rfl ⟨rfl, rfl, rfl, rfl, rfl⟩ rfl rfl rfl rfl rfl (by kernel_rfl) Try.func3 (by kernel_rfl)
    (of_decide_eq_true (by kernel_rfl)) (by unfold Func.isWrapper; first | (rw [if_pos (by decide +kernel)]; kernel_rfl) | (rw [if_neg (by decide +kernel)]; exact ⟨rfl, rfl⟩))
    (fun os started H enc _ => lifted os started H enc)

end Go.Proofs.Ytgpdbboieokldaa.deltaDiffs
namespace Go.Proofs.Ytgpdbboieokldaa

theorem deltaDiffs_holds : Rows.DeltaDiffsSaid := deltaDiffs.over

end Go.Proofs.Ytgpdbboieokldaa
