/- Contract of delta: Apply. -/
import Derived.Test.YtgpdbboieokldaaDeltaState
import Derived.Test.YtgpdbboieokldaaSnapOwnA
namespace Go.Proofs.Ytgpdbboieokldaa
open Go.RowKit

theorem applyD_bad {a : Snap} {d : Delt} (h : ¬ MayN a ∨ ¬ CutD d (a.st.L.length : Int)) : applyD a d = (zeroN, 1) := by
  unfold applyD
  rw [if_pos]
  rcases h with h | h
  · exact .inl h
  · by_cases h1 : d.ahead < 0
    · exact .inr (.inl h1)
    by_cases h2 : d.behind < 0
    · exact .inr (.inr (.inl h2))
    by_cases h3 : (a.st.L.length : Int) < d.ahead + d.behind
    · exact .inr (.inr (.inr h3))
    · exact absurd (show CutD d (a.st.L.length : Int) from ⟨by omega, by omega, by omega⟩) h

theorem applyD_gap {a : Snap} {d : Delt} (h1 : MayN a) (h2 : CutD d (a.st.L.length : Int)) (h : a.idx ≠ d.frm ∨ d.upto < d.frm) : applyD a d = (zeroN, 15) := by
  unfold applyD
  obtain ⟨c0, c1, c2⟩ := h2
  rw [if_neg (by rintro (h | h | h | h) <;> first | exact h h1 | omega), if_pos h]

theorem applyD_end {a : Snap} {d : Delt} (h1 : MayN a) (h2 : CutD d (a.st.L.length : Int)) (h3 : a.idx = d.frm) (h4 : ¬ d.upto < d.frm) :
    applyD a d = if MayN ⟨d.upto, ⟨a.st.kind, cutL a.st.L d, d.shut, d.eng⟩, noteTo a.tab d.tab⟩ then (⟨d.upto, ⟨a.st.kind, cutL a.st.L d, d.shut, d.eng⟩, noteTo a.tab d.tab⟩, 0) else (zeroN, 1) := by
  unfold applyD
  obtain ⟨c0, c1, c2⟩ := h2
  rw [if_neg (by rintro (h | h | h | h) <;> first | exact h h1 | omega), if_neg (by rintro (h | h) <;> first | exact h h3 | exact h4 h)]
  obtain ⟨t1, t2⟩ := tabOk_noteTo (D := d.tab) h1.2.2.rises
  by_cases hm : MayN ⟨d.upto, ⟨a.st.kind, cutL a.st.L d, d.shut, d.eng⟩, noteTo a.tab d.tab⟩
  · have e := t2 hm.2.2
    have hm2 : MayN (madeD a d) := by
      unfold madeD
      rw [← e]
      exact hm
    rw [if_pos hm, if_pos hm2]
    unfold madeD cutL
    rw [← e]
  · have hm2 : ¬ MayN (madeD a d) := fun h => by
      have h5 := t1.2 h.2.2
      have e := t2 h5
      refine hm ?_
      unfold madeD at h
      rw [← e] at h
      exact h
    rw [if_neg hm, if_neg hm2]

set_option maxRecDepth 100000 in
set_option maxHeartbeats 40000000 in
theorem apply_any (va : Value) (a : Snap) (vd : Value) (d : Delt) (w : World) (ha : SnV w va a) (hd : DlV w vd d) (hlim : d.mid.length ≤ 100000) :
    Calls Try.prog 14 #[va, vd] w fun e w' => DecodedN w (applyD a d) e w' := by
  have HMA : Hid (∀ W, Below w.heap.size w W → Calls Try.prog 21 #[va] W fun e w' => e = .returned (.bool (decide (MayN a))) ∧ Below W.heap.size W w') := hide (fun W h => mayN_any va a W (ha.below h (Nat.le_refl _)))
  have HFEW : Hid (MayN a → a.st.L.length ≤ 128 ∧ a.tab.length ≤ 65) := hide (fun h => ⟨(nums_in h.2.1).1, tabOk_few h.2.2⟩)
  have HCU : Hid (∀ W, MayN a → Below w.heap.size w W → Calls Try.prog 31 #[vd, .int .i64 (a.st.L.length : Int)] W fun e w' => e = .returned (.bool (decide (CutD d (a.st.L.length : Int)))) ∧ Below W.heap.size W w') := hide (fun W hm h => isCut_any vd d _ W (hd.below h (Nat.le_refl _)) (by omega) (by have := (HFEW.out hm).1; omega))
  have HBAD := hide (applyD_bad (a := a) (d := d))
  have HGAP := hide (applyD_gap (a := a) (d := d))
  have HEND := hide (applyD_end (a := a) (d := d))
  have HDV := hide hd
  obtain ⟨vl, vt, rfl, hl, hk, he, ht, hi⟩ := ha
  obtain ⟨ma, mc, da, dc, rfl, hm, htd⟩ := hd.shape
  obtain ⟨-, -, -, -, -, -, hup, -, -, hen⟩ := hd
  obtain ⟨la, lc, e1⟩ := hl.shape
  obtain ⟨ta, tc, e2⟩ := ht.shape
  subst e1 e2
  have HCS0 : Hid (∀ W, MayN a → CutD d (a.st.L.length : Int) → Below w.heap.size w W → Calls Try.prog 32 #[.agg #[.int .i64 a.st.kind, .slice la a.st.L.length lc, .bool a.st.shut, .int .i64 a.st.eng], .agg #[.int .i64 d.frm, .int .i64 d.upto, .int .i64 d.ahead, .int .i64 d.behind, .slice ma d.mid.length mc, .bool d.shut, .int .i64 d.eng, .slice da d.tab.length dc]] W fun e w' => ∃ v', e = .returned v' ∧ ∃ vl, v' = .agg #[.int .i64 a.st.kind, vl, .bool d.shut, .int .i64 d.eng] ∧ RdI w' vl (cutL a.st.L d) ∧ (∀ k, vl.ownBlock = some k → W.heap.size ≤ k) ∧ Below W.heap.size W w') := hide (fun W h1 h2 h => by
    refine (changeState_any _ a.st _ d W ⟨_, rfl, hl.below h (Nat.le_refl _), hk, he⟩ (HDV.out.below h (Nat.le_refl _)) h2 (by have := (HFEW.out h1).1; omega) hlim).mono ?_
    rintro e w' ⟨v, rfl, h3, h4, h5⟩
    exact ⟨_, rfl, v, rfl, h3, h4, h5⟩)
  have HNA0 : Hid (∀ W, MayN a → Below w.heap.size w W → Calls Try.prog 33 #[.slice ta a.tab.length tc, .slice da d.tab.length dc] W fun e w' => ∃ v', e = .returned v' ∧ OwnE w' W.heap.size v' (noteTo a.tab d.tab) ∧ (∀ e ∈ noteTo a.tab d.tab, EntI e) ∧ Below W.heap.size W w') := hide (fun W h1 h => noteAll_any _ a.tab _ d.tab W (ht.below h (Nat.le_refl _)) (htd.below h (Nat.le_refl _)) (by have := (HFEW.out h1).2; omega))
  have HI := hide (And.intro hup (And.intro hk hen))
  obtain ⟨W0, hW0⟩ : ∃ W0, W0 = ((w.alloc (.cells #[.int .i64 a.idx, .int .i64 a.st.kind, .slice la a.st.L.length lc, .bool a.st.shut, .int .i64 a.st.eng, .slice ta a.tab.length tc] 27)).alloc (.cells #[.int .i64 d.frm, .int .i64 d.upto, .int .i64 d.ahead, .int .i64 d.behind, .slice ma d.mid.length mc, .bool d.shut, .int .i64 d.eng, .slice da d.tab.length dc] 31)).alloc (.cells #[.int .i64 0, .int .i64 0, .slice none 0 0, .bool false, .int .i64 0, .slice none 0 0] 27) := ⟨_, rfl⟩
  have h3 := new_three w (.cells #[.int .i64 a.idx, .int .i64 a.st.kind, .slice la a.st.L.length lc, .bool a.st.shut, .int .i64 a.st.eng, .slice ta a.tab.length tc] 27) (.cells #[.int .i64 d.frm, .int .i64 d.upto, .int .i64 d.ahead, .int .i64 d.behind, .slice ma d.mid.length mc, .bool d.shut, .int .i64 d.eng, .slice da d.tab.length dc] 31) (.cells #[.int .i64 0, .int .i64 0, .slice none 0 0, .bool false, .int .i64 0, .slice none 0 0] 27)
  rw [← hW0] at h3
  obtain ⟨hx, hy, hz⟩ := h3
  have HB0 : Hid (Below w.heap.size w W0) := hide (by rw [hW0]; exact below_three w _ _ _)
  have HX0 : Hid (Bn W0 w.heap.size #[.int .i64 a.idx, .int .i64 a.st.kind, .slice la a.st.L.length lc, .bool a.st.shut, .int .i64 a.st.eng, .slice ta a.tab.length tc]) := hide hx
  have HY0 : Hid (Bd W0 (w.heap.size + 1) #[.int .i64 d.frm, .int .i64 d.upto, .int .i64 d.ahead, .int .i64 d.behind, .slice ma d.mid.length mc, .bool d.shut, .int .i64 d.eng, .slice da d.tab.length dc]) := hide hy
  have HZ0 : Hid (Bn W0 (w.heap.size + 1 + 1) #[.int .i64 0, .int .i64 0, .slice none 0 0, .bool false, .int .i64 0, .slice none 0 0]) := hide hz
  have HW0 := hide hW0
  obtain ⟨DN, hDN⟩ : ∃ DN, DN = applyD a d := ⟨_, rfl⟩
  rw [← hDN] at HBAD HGAP HEND ⊢
  have HZR : Hid (∀ (W : World) (n : Int), Below w.heap.size w W → DN = (zeroN, n) → DecodedN w DN (.returned (.tuple #[.agg #[.int .i64 0, .int .i64 0, .slice none 0 0, .bool false, .int .i64 0, .slice none 0 0], .int .i64 n])) ((((((W.setCell ⟨w.heap.size + 1 + 1, 0, none⟩ (.int .i64 0)).setCell ⟨w.heap.size + 1 + 1, 1, none⟩ (.int .i64 0)).setCell ⟨w.heap.size + 1 + 1, 2, none⟩ (.slice none 0 0)).setCell ⟨w.heap.size + 1 + 1, 3, none⟩ (.bool false)).setCell ⟨w.heap.size + 1 + 1, 4, none⟩ (.int .i64 0)).setCell ⟨w.heap.size + 1 + 1, 5, none⟩ (.slice none 0 0))) := hide (fun W n h e => by
    rw [e]
    exact DecodedN.zero _ (belowSixE h _ (by omega) _ _ _ _ _ _))
  have HMY0 : Hid (∀ W v, SnV W v ⟨d.upto, ⟨a.st.kind, cutL a.st.L d, d.shut, d.eng⟩, noteTo a.tab d.tab⟩ → Calls Try.prog 21 #[v] W fun e w' => e = .returned (.bool (decide (MayN ⟨d.upto, ⟨a.st.kind, cutL a.st.L d, d.shut, d.eng⟩, noteTo a.tab d.tab⟩))) ∧ Below W.heap.size W w') := hide (fun W v h => mayN_any v _ W h)
  obtain ⟨m1, hm1⟩ : ∃ m, m = decide (MayN a) := ⟨_, rfl⟩
  obtain ⟨m2, hm2⟩ : ∃ m, m = decide (CutD d (a.st.L.length : Int)) := ⟨_, rfl⟩
  rw [← hm1] at HMA
  rw [← hm2] at HCU
  have HM1 := hide hm1
  have HM2 := hide hm2
  clear hm1 hm2 hDN hx hy hz hW0 hl ht hk he hi hm htd hup hen HDV hlim
  generalize hCL : cutL a.st.L d = CL at *
  generalize hNT : noteTo a.tab d.tab = NT at *
  clear hCL hNT
  obtain ⟨ai, ⟨ak, aL, ash, ae⟩, aT⟩ := a
  obtain ⟨fr, up, ah, bh, mid, sh, en, tab⟩ := d
  dsimp only at *
  obtain ⟨⟨p0, p1, p2, p3, p4, p5⟩, -⟩ := HX0.out.all
  go_enter Try.func14, Try.ntmps14
  go_upto_region 1 with fail
  rw [← HW0.out]
  clear HW0
  go_wp2_with fail
  refine (HMA.out _ HB0.out).mono ?_
  rintro x W1 ⟨rfl, hb1⟩
  have HX1 := hide (HX0.out.below hb1 (Nat.le_refl _))
  have HY1 := hide (HY0.out.below hb1 (Nat.le_refl _))
  have HZ1 := hide (HZ0.out.below hb1 (Nat.le_refl _))
  have HB1 := hide (HB0.out.trans (hb1.mono HB0.out.size))
  clear hb1 HMA HX0 HY0 HZ0 HB0 p0 p1 p2 p3 p4 p5
  cases m1 with
  | false =>
    have HF : Hid (DN = (zeroN, 1)) := hide (HBAD.out (.inl (of_decide_eq_false HM1.out.symm)))
    obtain ⟨⟨z0, z1, z2, z3, z4, z5⟩, y0, y1, y2, y3, y4, y5⟩ := HZ1.out.all
    go_wp2
    refine bodyPost_ret (v := .tuple #[.agg #[.int .i64 0, .int .i64 0, .slice none 0 0, .bool false, .int .i64 0, .slice none 0 0], .int .i64 1]) (by simp [results, Try.results14, go_sem, z0, z1, z2, z3, z4, z5]) rfl ?_
    exact HZR.out _ _ HB1.out HF.out
  | true =>
  have hMA := of_decide_eq_true HM1.out.symm
  obtain ⟨hL128, hT65⟩ := HFEW.out hMA
  have HCU2 := hide (fun W h => HCU.out W hMA h)
  have HNA := hide (fun W h => HNA0.out W hMA h)
  have HCS1 := hide (fun W hc h => HCS0.out W hMA hc h)
  have HGAP2 := hide (HGAP.out hMA)
  have HEND2 := hide (HEND.out hMA)
  have HBAD2 := hide (fun h => HBAD.out (.inr h))
  clear hMA HCU HNA0 HCS0 HGAP HEND HBAD HFEW HM1
  obtain ⟨⟨p0, p1, p2, p3, p4, p5⟩, -⟩ := HX1.out.all
  obtain ⟨⟨q0, q1, q2, q3, q4, q5, q6, q7⟩, -⟩ := HY1.out.all
  go_wp2_with fail
  refine (HCU2.out _ HB1.out).mono ?_
  rintro x W2 ⟨rfl, hb2⟩
  have HX2 := hide (HX1.out.below hb2 (Nat.le_refl _))
  have HY2 := hide (HY1.out.below hb2 (Nat.le_refl _))
  have HZ2 := hide (HZ1.out.below hb2 (Nat.le_refl _))
  have HB2 := hide (HB1.out.trans (hb2.mono HB1.out.size))
  clear hb2 HCU2 HX1 HY1 HZ1 HB1 p0 p1 p2 p3 p4 p5 q0 q1 q2 q3 q4 q5 q6 q7
  cases m2 with
  | false =>
    have HF : Hid (DN = (zeroN, 1)) := hide (HBAD2.out (of_decide_eq_false HM2.out.symm))
    obtain ⟨⟨z0, z1, z2, z3, z4, z5⟩, y0, y1, y2, y3, y4, y5⟩ := HZ2.out.all
    go_wp2
    refine bodyPost_ret (v := .tuple #[.agg #[.int .i64 0, .int .i64 0, .slice none 0 0, .bool false, .int .i64 0, .slice none 0 0], .int .i64 1]) (by simp [results, Try.results14, go_sem, z0, z1, z2, z3, z4, z5]) rfl ?_
    exact HZR.out _ _ HB2.out HF.out
  | true =>
  have HGAP3 := hide (HGAP2.out (of_decide_eq_true HM2.out.symm))
  have HEND3 := hide (HEND2.out (of_decide_eq_true HM2.out.symm))
  have HCS2 := hide (fun W h => HCS1.out W (of_decide_eq_true HM2.out.symm) h)
  clear HGAP2 HEND2 HCS1 HBAD2 HM2
  obtain ⟨⟨p0, p1, p2, p3, p4, p5⟩, -⟩ := HX2.out.all
  obtain ⟨⟨q0, q1, q2, q3, q4, q5, q6, q7⟩, -⟩ := HY2.out.all
  by_cases h15 : ai = fr
  case neg =>
    have HF : Hid (DN = (zeroN, 15)) := hide (HGAP3.out (.inl h15))
    have h15d : (ai != fr) = true := by rw [bne_iff_ne]; exact h15
    obtain ⟨⟨z0, z1, z2, z3, z4, z5⟩, y0, y1, y2, y3, y4, y5⟩ := HZ2.out.all
    clear h15
    go_wp2
    refine bodyPost_ret (v := .tuple #[.agg #[.int .i64 0, .int .i64 0, .slice none 0 0, .bool false, .int .i64 0, .slice none 0 0], .int .i64 15]) (by simp [results, Try.results14, go_sem, z0, z1, z2, z3, z4, z5]) rfl ?_
    exact HZR.out _ _ HB2.out HF.out
  have h15d : (ai != fr) = false := by rw [bne_eq_false_iff_eq]; exact h15
  have HEND4 := hide (HEND3.out h15)
  clear h15
  by_cases hup : up < fr
  case pos =>
    have HF : Hid (DN = (zeroN, 15)) := hide (HGAP3.out (.inr hup))
    obtain ⟨⟨z0, z1, z2, z3, z4, z5⟩, y0, y1, y2, y3, y4, y5⟩ := HZ2.out.all
    go_wp2
    refine bodyPost_ret (v := .tuple #[.agg #[.int .i64 0, .int .i64 0, .slice none 0 0, .bool false, .int .i64 0, .slice none 0 0], .int .i64 15]) (by simp [results, Try.results14, go_sem, z0, z1, z2, z3, z4, z5]) rfl ?_
    exact HZR.out _ _ HB2.out HF.out
  have HD := hide (HEND4.out (by omega))
  clear HEND3 HEND4 HGAP3
  go_upto_region 5 with fail
  clear p0 p1 p2 p3 p4 p5 q0 q1 q2 q3 q4 q5 q6 q7 h15d hup
  obtain ⟨W4, hW4⟩ : ∃ W4, W4 = W2 := ⟨_, rfl⟩
  subst hW4
  have HK : Hid (∀ W, Below W4.heap.size W4 W → W.cell? ⟨w.heap.size, 1, none⟩ = some (.int .i64 ak) ∧ W.cell? ⟨w.heap.size, 2, none⟩ = some (.slice la aL.length lc) ∧ W.cell? ⟨w.heap.size, 3, none⟩ = some (.bool ash) ∧ W.cell? ⟨w.heap.size, 4, none⟩ = some (.int .i64 ae) ∧ W.cell? ⟨w.heap.size, 5, none⟩ = some (.slice ta aT.length tc) ∧ W.cell? ⟨w.heap.size + 1, 0, none⟩ = some (.int .i64 fr) ∧ W.cell? ⟨w.heap.size + 1, 1, none⟩ = some (.int .i64 up) ∧ W.cell? ⟨w.heap.size + 1, 2, none⟩ = some (.int .i64 ah) ∧ W.cell? ⟨w.heap.size + 1, 3, none⟩ = some (.int .i64 bh) ∧ W.cell? ⟨w.heap.size + 1, 4, none⟩ = some (.slice ma mid.length mc) ∧ W.cell? ⟨w.heap.size + 1, 5, none⟩ = some (.bool sh) ∧ W.cell? ⟨w.heap.size + 1, 6, none⟩ = some (.int .i64 en) ∧ W.cell? ⟨w.heap.size + 1, 7, none⟩ = some (.slice da tab.length dc)) := hide (fun W h => by
    have h1 := (HX2.out.below h (Nat.le_refl _)).all.1
    have h2 := (HY2.out.below h (Nat.le_refl _)).all.1
    exact ⟨h1.2.1, h1.2.2.1, h1.2.2.2.1, h1.2.2.2.2.1, h1.2.2.2.2.2, h2⟩)
  have HS0 : Hid (Below W4.heap.size W4 W4.drew) := hide ((Below.refl _ _).drew)
  have HS1 : Hid (∀ X, Below W4.heap.size W4 (W4.alloc X).drew) := hide (fun X => ((Below.refl _ _).alloc (Nat.le_refl _) X).drew)
  have HZ : Hid (∀ W X, Below W4.heap.size W4 W → Below W4.heap.size W4 (W.alloc X)) := hide (fun W X h => h.alloc h.size X)
  have HQA : Hid (Bn (W4.alloc (.cells #[.int .i64 0, .int .i64 0, .slice none 0 0, .bool false, .int .i64 0, .slice none 0 0] 27)).drew W4.heap.size #[.int .i64 0, .int .i64 0, .slice none 0 0, .bool false, .int .i64 0, .slice none 0 0]) := hide (heap_alloc_new W4 _)
  have HW : Hid (∀ W, Below W4.heap.size W4 W → Below w.heap.size w W) := hide (fun W h => HB2.out.trans (h.mono HB2.out.size))
  have HCS : Hid (∀ W, Below W4.heap.size W4 W → Calls Try.prog 32 #[.agg #[.int .i64 ak, .slice la aL.length lc, .bool ash, .int .i64 ae], .agg #[.int .i64 fr, .int .i64 up, .int .i64 ah, .int .i64 bh, .slice ma mid.length mc, .bool sh, .int .i64 en, .slice da tab.length dc]] W fun e w' => ∃ v', e = .returned v' ∧ ∃ vl, v' = .agg #[.int .i64 ak, vl, .bool sh, .int .i64 en] ∧ RdI w' vl CL ∧ (∀ k, vl.ownBlock = some k → W.heap.size ≤ k) ∧ Below W.heap.size W w') := hide (fun W h => HCS2.out W (HW.out W h))
  have HNA : Hid (∀ W, Below W4.heap.size W4 W → Calls Try.prog 33 #[.slice ta aT.length tc, .slice da tab.length dc] W fun e w' => ∃ v', e = .returned v' ∧ OwnE w' W.heap.size v' NT ∧ (∀ e ∈ NT, EntI e) ∧ Below W.heap.size W w') := hide (fun W h => HNA.out W (HW.out W h))
  have hZlt := HZ2.out.lt
  have HE1 : Hid (∀ args w, (callFunc 32 args).run Try.prog w = .ok (.enter 32 args) w) := hide (enters_of Try.func32 (by kernel_rfl) rfl)
  have HE2 : Hid (∀ args w, (callFunc 33 args).run Try.prog w = .ok (.enter 33 args) w) := hide (enters_of Try.func33 (by kernel_rfl) rfl)
  clear HCS2
  go_cut [6] (fun x6 wc => ∃ (QB : Nat) (a1 : Option Addr) (c1 : Nat) (a2 : Option Addr) (c2 : Nat), x6 = .pointer (some ⟨QB, 0, none⟩) ∧ Hid (Bn wc QB #[.int .i64 up, .int .i64 ak, .slice a1 CL.length c1, .bool sh, .int .i64 en, .slice a2 NT.length c2]) ∧ Hid (RdI wc (.slice a1 CL.length c1) CL) ∧ Hid (RdE wc (.slice a2 NT.length c2) NT) ∧ Hid (∀ k, (Value.slice a1 CL.length c1).ownBlock = some k → W4.heap.size ≤ k) ∧ Hid (∀ k, (Value.slice a2 NT.length c2).ownBlock = some k → W4.heap.size ≤ k) ∧ Hid (Below W4.heap.size W4 wc))
  case first =>
    go_region_held2 (fun W => W.cell? ⟨w.heap.size, 1, none⟩ = some (.int .i64 ak) ∧ W.cell? ⟨w.heap.size, 2, none⟩ = some (.slice la aL.length lc) ∧ W.cell? ⟨w.heap.size, 3, none⟩ = some (.bool ash) ∧ W.cell? ⟨w.heap.size, 4, none⟩ = some (.int .i64 ae) ∧ W.cell? ⟨w.heap.size, 5, none⟩ = some (.slice ta aT.length tc) ∧ W.cell? ⟨w.heap.size + 1, 0, none⟩ = some (.int .i64 fr) ∧ W.cell? ⟨w.heap.size + 1, 1, none⟩ = some (.int .i64 up) ∧ W.cell? ⟨w.heap.size + 1, 2, none⟩ = some (.int .i64 ah) ∧ W.cell? ⟨w.heap.size + 1, 3, none⟩ = some (.int .i64 bh) ∧ W.cell? ⟨w.heap.size + 1, 4, none⟩ = some (.slice ma mid.length mc) ∧ W.cell? ⟨w.heap.size + 1, 5, none⟩ = some (.bool sh) ∧ W.cell? ⟨w.heap.size + 1, 6, none⟩ = some (.int .i64 en) ∧ W.cell? ⟨w.heap.size + 1, 7, none⟩ = some (.slice da tab.length dc))
      (first | (with_reducible exact HK.out _ HS0.out) | (with_reducible exact HK.out _ (HS1.out _)) | (with_reducible exact HK.out _ hbk2) | (with_reducible exact HK.out _ hbk1) | (with_reducible exact HK.out _ (HZ.out _ _ hbk1)) | (with_reducible exact HK.out _ (HZ.out _ _ hbk2)) | (exact HK.out _ (belowSixE hbk2 _ (by first | exact Nat.le_refl _ | exact hbk1.size | exact hbk2.size) _ _ _ _ _ _)) | (exact HK.out _ (belowSixE (HZ.out _ _ hbk2) _ (by first | exact Nat.le_refl _ | exact hbk1.size | exact hbk2.size) _ _ _ _ _ _)))
      (first
        | ((with_reducible refine step_call 32 _ _ rfl rfl #[.agg #[.int .i64 ak, .slice la aL.length lc, .bool ash, .int .i64 ae], .agg #[.int .i64 fr, .int .i64 up, .int .i64 ah, .int .i64 bh, .slice ma mid.length mc, .bool sh, .int .i64 en, .slice da tab.length dc]] (by simp [Act.eval]) HE1.out (HCS.out (W4.drew) HS0.out) ?_); rintro v1 W5 ⟨vl, rfl, hr, hf, hb⟩; have hbk1 : Below W4.heap.size W4 W5 := HS0.out.trans (hb.mono HS0.out.size); have HL5 := hide hr; have HF5 := hide (show ∀ k, vl.ownBlock = some k → W4.heap.size ≤ k from fun k hk => Nat.le_trans HS0.out.size (hf k hk)); obtain ⟨a1, c1, hv⟩ := hr.shape; subst hv; clear hr hf hb)
        | ((with_reducible refine step_call 32 _ _ rfl rfl #[.agg #[.int .i64 ak, .slice la aL.length lc, .bool ash, .int .i64 ae], .agg #[.int .i64 fr, .int .i64 up, .int .i64 ah, .int .i64 bh, .slice ma mid.length mc, .bool sh, .int .i64 en, .slice da tab.length dc]] (by simp [Act.eval]) HE1.out (HCS.out ((W4.alloc (.cells #[.int .i64 0, .int .i64 0, .slice none 0 0, .bool false, .int .i64 0, .slice none 0 0] 27)).drew) (HS1.out _)) ?_); rintro v1 W5 ⟨vl, rfl, hr, hf, hb⟩; have hbk1 : Below W4.heap.size W4 W5 := (HS1.out _).trans (hb.mono (HS1.out _).size); have HQ5 := hide ((HQA.out).below hb (Nat.le_refl _)); have HL5 := hide hr; have HF5 := hide (show ∀ k, vl.ownBlock = some k → W4.heap.size ≤ k from fun k hk => Nat.le_trans (HS1.out _).size (hf k hk)); have HN5 := hide (show ∀ k, vl.ownBlock = some k → W4.heap.size < k from fun k hk => Nat.lt_of_lt_of_le (by simp) (hf k hk)); obtain ⟨a1, c1, hv⟩ := hr.shape; subst hv; clear hr hf hb)
        | (have hq := HQ5.out; (with_reducible refine step_call 33 _ _ rfl rfl #[.slice ta aT.length tc, .slice da tab.length dc] (by simp [Act.eval]) HE2.out (HNA.out (W5) hbk1) ?_); rintro v2 W6 ⟨ho, hi, hb⟩; have hst : Below W5.heap.size W5 W6 := hb; have hbk2 : Below W4.heap.size W4 W6 := hbk1.trans (hst.mono hbk1.size); have HQ6 := hide (hq.below hst (Nat.le_refl _)); clear hq; have HL6 := hide (HL5.out.below hst (Nat.le_refl _)); have HT6 := hide (ho.rd hi); have HF6 := hide HF5.out; have HG6 := hide (show ∀ k, v2.ownBlock = some k → W4.heap.size ≤ k from fun k hk => Nat.le_trans hbk1.size (ho.fresh k hk)); have HU6 := hide (show ∀ k, v2.ownBlock = some k → W5.heap.size < k ∨ (W5.heap.size ≤ k) from fun k hk => .inr (Nat.le_trans (by simp) (ho.fresh k hk))); obtain ⟨a2, c2, hv⟩ := ho.shape; subst hv; obtain ⟨⟨z0, z1, z2, z3, z4, z5⟩, y0, y1, y2, y3, y4, y5⟩ := HQ6.out.all; clear ho hi hb hst)
        | ((with_reducible refine step_call 33 _ _ rfl rfl #[.slice ta aT.length tc, .slice da tab.length dc] (by simp [Act.eval]) HE2.out (HNA.out (W5) hbk1) ?_); rintro v2 W6 ⟨ho, hi, hb⟩; have hst : Below W5.heap.size W5 W6 := hb; have hbk2 : Below W4.heap.size W4 W6 := hbk1.trans (hst.mono hbk1.size); have HL6 := hide (HL5.out.below hst (Nat.le_refl _)); have HT6 := hide (ho.rd hi); have HF6 := hide HF5.out; have HG6 := hide (show ∀ k, v2.ownBlock = some k → W4.heap.size ≤ k from fun k hk => Nat.le_trans hbk1.size (ho.fresh k hk)); have HU6 := hide (show ∀ k, v2.ownBlock = some k → W5.heap.size < k ∨ (W5.heap.size ≤ k) from fun k hk => .inr (Nat.le_trans (by simp) (ho.fresh k hk))); obtain ⟨a2, c2, hv⟩ := ho.shape; subst hv; clear ho hi hb hst)
        | ((with_reducible refine step_call 33 _ _ rfl rfl #[.slice ta aT.length tc, .slice da tab.length dc] (by simp [Act.eval]) HE2.out (HNA.out (W5.alloc (.cells #[.int .i64 0, .int .i64 0, .slice none 0 0, .bool false, .int .i64 0, .slice none 0 0] 27)) (HZ.out _ _ hbk1)) ?_); rintro v2 W6 ⟨ho, hi, hb⟩; have hst : Below W5.heap.size W5 W6 := ((Below.refl _ _).alloc (Nat.le_refl _) _).trans (hb.mono (by simp)); have hbk2 : Below W4.heap.size W4 W6 := hbk1.trans (hst.mono hbk1.size); have HQ6 : Hid (Bn W6 W5.heap.size #[.int .i64 0, .int .i64 0, .slice none 0 0, .bool false, .int .i64 0, .slice none 0 0]) := hide (Bn.below (heap_alloc_new W5 _) hb (Nat.le_refl _)); have HL6 := hide (HL5.out.below hst (Nat.le_refl _)); have HT6 := hide (ho.rd hi); have HF6 := hide HF5.out; have HG6 := hide (show ∀ k, v2.ownBlock = some k → W4.heap.size ≤ k from fun k hk => Nat.le_trans (HZ.out _ _ hbk1).size (ho.fresh k hk)); have HU6 := hide (show ∀ k, v2.ownBlock = some k → W5.heap.size < k ∨ (W5.heap.size ≤ k) from fun k hk => .inr (Nat.le_trans (by simp) (ho.fresh k hk))); have HV6 := hide (show ∀ k, v2.ownBlock = some k → W5.heap.size < k from fun k hk => Nat.lt_of_lt_of_le (by simp) (ho.fresh k hk)); obtain ⟨a2, c2, hv⟩ := ho.shape; subst hv; obtain ⟨⟨z0, z1, z2, z3, z4, z5⟩, y0, y1, y2, y3, y4, y5⟩ := HQ6.out.all; clear ho hi hb hst))
    all_goals
      go_wp2_with fail
      go_meet
      first
      | (have hn5 := HN5.out
         have hbt := butSix W6 W4.heap.size (.int .i64 up) (.int .i64 ak) (.slice a1 CL.length c1) (.bool sh) (.int .i64 en) (.slice a2 NT.length c2)
         have hq5 := HQ5.out.lt
         exact ⟨W4.heap.size, a1, c1, a2, c2, rfl, hide ((((((HQ6.out.set 0 _).set 1 _).set 2 _).set 3 _).set 4 _).set 5 _), hide (HL6.out.but hbt (.inr fun k hk => by have := hn5 k hk; omega)), hide (HT6.out.but hbt (.inr fun k hk => by have := HU6.out k hk; omega)), HF6, HG6, hide (belowSix hbk2 _ (Nat.le_refl _) _ _ _ _ _ _)⟩)
      | (have hv6 := HV6.out
         have hbt := butSix W6 W5.heap.size (.int .i64 up) (.int .i64 ak) (.slice a1 CL.length c1) (.bool sh) (.int .i64 en) (.slice a2 NT.length c2)
         exact ⟨W5.heap.size, a1, c1, a2, c2, rfl, hide ((((((HQ6.out.set 0 _).set 1 _).set 2 _).set 3 _).set 4 _).set 5 _), hide (HL6.out.but hbt (HL5.out.old.imp id (fun h k hk => by have := h k hk; omega))), hide (HT6.out.but hbt (.inr fun k hk => by have := hv6 k hk; omega)), HF6, HG6, hide (belowSix hbk2 _ hbk1.size _ _ _ _ _ _)⟩)
      | exact ⟨W6.heap.size, a1, c1, a2, c2, rfl, hide (heap_alloc_new W6 _), hide (HL6.out.below ((Below.refl _ _).alloc (Nat.le_refl _) _) (Nat.le_refl _)), hide (HT6.out.below ((Below.refl _ _).alloc (Nat.le_refl _) _) (Nat.le_refl _)), HF6, HG6, hide (HZ.out _ _ hbk2)⟩
  case rest =>
    obtain ⟨WC, rfl⟩ : ∃ W, W = wc := ⟨_, rfl⟩
    obtain ⟨QB, a1, c1, a2, c2, rfl, HQ, HL, HT, HF1, HF2, HBC⟩ := hcut
    have HZC := hide (HZ2.out.below HBC.out (Nat.le_refl _))
    have HBW := hide (HW.out _ HBC.out)
    have HMQ := hide (HMY0.out WC (.agg #[.int .i64 up, .int .i64 ak, .slice a1 CL.length c1, .bool sh, .int .i64 en, .slice a2 NT.length c2]) ⟨_, _, rfl, HL.out, HI.out.2.1, HI.out.2.2, HT.out, HI.out.1⟩)
    have HFR : Hid ((∀ k, (Value.slice a1 CL.length c1).ownBlock = some k → w.heap.size + 1 + 1 < k) ∧ (∀ k, (Value.slice a2 NT.length c2).ownBlock = some k → w.heap.size + 1 + 1 < k)) := hide ⟨fun k hk => Nat.lt_of_lt_of_le hZlt (HF1.out k hk), fun k hk => Nat.lt_of_lt_of_le hZlt (HF2.out k hk)⟩
    obtain ⟨my, hmy⟩ : ∃ my, my = decide (MayN ⟨up, ⟨ak, CL, sh, en⟩, NT⟩) := ⟨_, rfl⟩
    rw [← hmy] at HMQ
    have HMM := hide hmy
    clear hmy HK HS0 HS1 HZ HQA HCS HNA HE1 HE2 HF1 HF2 HMY0 HX2 HY2 HZ2 HB2
    obtain ⟨⟨q0, q1, q2, q3, q4, q5⟩, -⟩ := HQ.out.all
    go_wp2_with fail
    refine HMQ.out.mono ?_
    rintro x W8 ⟨rfl, hb8⟩
    have HZ8 := hide (HZC.out.below hb8 (Nat.le_refl _))
    have HQ8 := hide (HQ.out.below hb8 (Nat.le_refl _))
    have HL8 := hide (HL.out.below hb8 (Nat.le_refl _))
    have HT8 := hide (HT.out.below hb8 (Nat.le_refl _))
    have HB8 := hide (HBW.out.trans (hb8.mono HBW.out.size))
    obtain ⟨⟨z0, z1, z2, z3, z4, z5⟩, y0, y1, y2, y3, y4, y5⟩ := HZ8.out.all
    clear hb8 HMQ HZC HQ HL HT HBC HBW q0 q1 q2 q3 q4 q5
    cases my with
    | false =>
      have HF : Hid (DN = (zeroN, 1)) := hide (by rw [HD.out, if_neg (of_decide_eq_false HMM.out.symm)])
      go_wp2
      refine bodyPost_ret (v := .tuple #[.agg #[.int .i64 0, .int .i64 0, .slice none 0 0, .bool false, .int .i64 0, .slice none 0 0], .int .i64 1]) (by simp [results, Try.results14, go_sem, z0, z1, z2, z3, z4, z5]) rfl ?_
      exact HZR.out _ _ HB8.out HF.out
    | true =>
      have HF : Hid (DN = (⟨up, ⟨ak, CL, sh, en⟩, NT⟩, 0)) := hide (by rw [HD.out, if_pos (of_decide_eq_true HMM.out.symm)])
      obtain ⟨⟨q0, q1, q2, q3, q4, q5⟩, -⟩ := HQ8.out.all
      go_wp2
      refine bodyPost_ret (v := .tuple #[.agg #[.int .i64 up, .int .i64 ak, .slice a1 CL.length c1, .bool sh, .int .i64 en, .slice a2 NT.length c2], .int .i64 0]) (by simp [results, Try.results14, go_sem, z0, z1, z2, z3, z4, z5]) rfl ?_
      rw [HF.out]
      have hbt := butSix W8 (w.heap.size + 1 + 1) (.int .i64 up) (.int .i64 ak) (.slice a1 CL.length c1) (.bool sh) (.int .i64 en) (.slice a2 NT.length c2)
      exact ⟨_, _, rfl, HL8.out.but hbt (.inr fun k hk => by have := HFR.out.1 k hk; omega), HI.out.2.1, HI.out.2.2, HT8.out.but hbt (.inr fun k hk => by have := HFR.out.2 k hk; omega), HI.out.1, (fun k hk => by have := HFR.out.1 k hk; omega), (fun k hk => by have := HFR.out.2 k hk; omega), belowSix HB8.out _ (by omega) _ _ _ _ _ _⟩

end Go.Proofs.Ytgpdbboieokldaa
