/- Proved: for all inputs the law DeltaBack answers true (and the call leaves all older memory as it was). No condition. -/
import Derived.Test.YtgpdbboieokldaaDeltaTwo
import Derived.Test.YtgpdbboieokldaaOpenSnap
import Derived.Test.YtgpdbboieokldaaDeltaDec
import Derived.Test.YtgpdbboieokldaaDeltaEnc
import Derived.Test.YtgpdbboieokldaaDeltaSame
import Derived.OpenShut
import Derived.ChangeOld
namespace Go.Proofs.Ytgpdbboieokldaa.deltaBack
open Go.ChangeShapes Go.WideShapes Go.ChangeAt Go.RowKit

set_option maxRecDepth 100000 in
set_option maxHeartbeats 8000000 in
theorem walk (va : Value) (a : Snap) (vb : Value) (b : Snap) (w : World) (ha : SnV w va a) (hb : SnV w vb b) :
    Calls Try.prog 5 #[va, vb] w fun e w' => e = .returned (.bool true) ∧ Below w.heap.size w w' := by
  have HFA : Hid (∀ W, Below w.heap.size w W → Calls Try.prog 9 #[va] W fun e w' => e = .returned (.bool (decide (a.st.L.length ≤ 300 ∧ a.tab.length ≤ 100))) ∧ Below W.heap.size W w') := hide (fun W h => fewN_any va a W (ha.below h (Nat.le_refl _)))
  have HFB : Hid (∀ W, Below w.heap.size w W → Calls Try.prog 9 #[vb] W fun e w' => e = .returned (.bool (decide (b.st.L.length ≤ 300 ∧ b.tab.length ≤ 100))) ∧ Below W.heap.size W w') := hide (fun W h => fewN_any vb b W (hb.below h (Nat.le_refl _)))
  have HVA : Hid (∀ W, Below w.heap.size w W → SnV W va a) := hide (fun W h => ha.below h (Nat.le_refl _))
  have HVB : Hid (∀ W, Below w.heap.size w W → SnV W vb b) := hide (fun W h => hb.below h (Nat.le_refl _))
  have HDI : Hid (∀ W, Below w.heap.size w W → Calls Try.prog 10 #[va, vb] W fun e w' => GivenD W (diffD a b) e w') := hide (fun W h => diff_any va a vb b W (ha.below h (Nat.le_refl _)) (hb.below h (Nat.le_refl _)))
  have HAW := hide (fun W => awake10_any W)
  obtain ⟨la, lc, ta, tc, hv⟩ := ha.shape
  subst hv
  obtain ⟨la', lc', ta', tc', hv⟩ := hb.shape
  subst hv
  obtain ⟨W0, hW0⟩ : ∃ W0, W0 = (w.alloc (.cells #[.int .i64 a.idx, .int .i64 a.st.kind, .slice la a.st.L.length lc, .bool a.st.shut, .int .i64 a.st.eng, .slice ta a.tab.length tc] 27)).alloc (.cells #[.int .i64 b.idx, .int .i64 b.st.kind, .slice la' b.st.L.length lc', .bool b.st.shut, .int .i64 b.st.eng, .slice ta' b.tab.length tc'] 27) := ⟨_, rfl⟩
  have HX0 : Hid (Bn W0 w.heap.size #[.int .i64 a.idx, .int .i64 a.st.kind, .slice la a.st.L.length lc, .bool a.st.shut, .int .i64 a.st.eng, .slice ta a.tab.length tc]) := hide (by rw [hW0]; exact first_new w _ _)
  have HY0 : Hid (Bn W0 (w.heap.size + 1) #[.int .i64 b.idx, .int .i64 b.st.kind, .slice la' b.st.L.length lc', .bool b.st.shut, .int .i64 b.st.eng, .slice ta' b.tab.length tc']) := hide (by rw [hW0]; exact new_two w _ _)
  have HB0 : Hid (Below w.heap.size w W0) := hide (by rw [hW0]; exact below_two w _ _)
  have HW0 := hide hW0
  obtain ⟨fa, hfa⟩ : ∃ f, f = decide (a.st.L.length ≤ 300 ∧ a.tab.length ≤ 100) := ⟨_, rfl⟩
  obtain ⟨fb, hfb⟩ : ∃ f, f = decide (b.st.L.length ≤ 300 ∧ b.tab.length ≤ 100) := ⟨_, rfl⟩
  rw [← hfa] at HFA
  rw [← hfb] at HFB
  have HNA := hide hfa
  have HNB := hide hfb
  have HMD : Hid ((diffD a b).2 = 0 → MayD (diffD a b).1) := hide diffD_may
  have HAD : Hid ((diffD a b).2 = 0 → applyD a (diffD a b).1 = (b, 0)) := hide applyD_diff
  have HAP : Hid (∀ W vd d, Below w.heap.size w W → DlV W vd d → d.mid.length ≤ 100000 → Calls Try.prog 14 #[.agg #[.int .i64 a.idx, .int .i64 a.st.kind, .slice la a.st.L.length lc, .bool a.st.shut, .int .i64 a.st.eng, .slice ta a.tab.length tc], vd] W fun e w' => DecodedN W (applyD a d) e w') := hide (fun W vd d h h2 h3 => apply_any _ a vd d W (ha.below h (Nat.le_refl _)) h2 h3)
  have HSM : Hid (∀ W v, Below w.heap.size w W → SnV W v b → Calls Try.prog 20 #[v, .agg #[.int .i64 b.idx, .int .i64 b.st.kind, .slice la' b.st.L.length lc', .bool b.st.shut, .int .i64 b.st.eng, .slice ta' b.tab.length tc']] W fun e w' => e = .returned (.bool true) ∧ Below W.heap.size W w') := hide (fun W v h h2 => by
    have h3 := sameN_any v b _ b W h2 (hb.below h (Nat.le_refl _))
    rw [decide_eq_true (show SameN b b from ⟨⟨rfl, rfl, rfl, rfl⟩, rfl, rfl⟩)] at h3
    exact h3)
  clear hW0 hfa hfb ha hb
  generalize hDN : diffD a b = DN at *
  obtain ⟨ai, ⟨ak, aL, ash, ae⟩, aT⟩ := a
  obtain ⟨bi, ⟨bk, bL, bsh, be⟩, bT⟩ := b
  dsimp only at *
  go_enter Try.func5, Try.ntmps5
  go_upto_region 1 with fail
  rw [← HW0.out]
  clear HW0
  go_wp2_with fail
  refine (HAW.out _).mono ?_
  rintro e W1 ⟨rfl, hb1⟩
  have HX1 := hide (HX0.out.below hb1 (Nat.le_refl _))
  have HY1 := hide (HY0.out.below hb1 (Nat.le_refl _))
  have HB1 := hide (HB0.out.trans (hb1.mono HB0.out.size))
  clear hb1 HAW HX0 HY0 HB0
  obtain ⟨⟨p0, p1, p2, p3, p4, p5⟩, -⟩ := HX1.out.all
  go_wp2_with fail
  refine (HFA.out _ HB1.out).mono ?_
  rintro e W2 ⟨rfl, hb2⟩
  have HX2 := hide (HX1.out.below hb2 (Nat.le_refl _))
  have HY2 := hide (HY1.out.below hb2 (Nat.le_refl _))
  have HB2 := hide (HB1.out.trans (hb2.mono HB1.out.size))
  clear hb2 HFA HX1 HY1 HB1 p0 p1 p2 p3 p4 p5
  obtain ⟨⟨p0, p1, p2, p3, p4, p5⟩, -⟩ := HY2.out.all
  go_wp2_with fail
  refine (HFB.out _ HB2.out).mono ?_
  rintro e W3 ⟨rfl, hb3⟩
  have HX3 := hide (HX2.out.below hb3 (Nat.le_refl _))
  have HY3 := hide (HY2.out.below hb3 (Nat.le_refl _))
  have HB3 := hide (HB2.out.trans (hb3.mono HB2.out.size))
  clear hb3 HFB HX2 HY2 HB2 p0 p1 p2 p3 p4 p5
  cases fa with
  | false =>
    go_wp2
    go_ret
    exact ⟨rfl, HB3.out⟩
  | true =>
  cases fb with
  | false =>
    go_wp2
    go_ret
    exact ⟨rfl, HB3.out⟩
  | true =>
  obtain ⟨hfa1, hfa2⟩ := of_decide_eq_true HNA.out.symm
  obtain ⟨hfb1, hfb2⟩ := of_decide_eq_true HNB.out.symm
  clear HNA HNB
  obtain ⟨⟨p0, p1, p2, p3, p4, p5⟩, -⟩ := HX3.out.all
  obtain ⟨⟨q0, q1, q2, q3, q4, q5⟩, -⟩ := HY3.out.all
  go_wp2_with fail
  refine (HDI.out _ HB3.out).mono ?_
  rintro e W4 ⟨vm, vt, rfl, hm4, ht4, hi4, -, -, hb4⟩
  obtain ⟨D, er⟩ := DN
  dsimp only at hm4 ht4 hi4 ⊢
  have HD4 : Hid (∀ W, Below W4.heap.size W4 W → DlV W (.agg #[.int .i64 D.frm, .int .i64 D.upto, .int .i64 D.ahead, .int .i64 D.behind, vm, .bool D.shut, .int .i64 D.eng, vt]) D) := hide (fun W h => ⟨vm, vt, rfl, hm4.below h (Nat.le_refl _), ht4.below h (Nat.le_refl _), hi4⟩)
  obtain ⟨ma, mc, hv⟩ := hm4.shape
  subst hv
  obtain ⟨da, dc, hv⟩ := ht4.shape
  subst hv
  have HX4 := hide (HX3.out.below hb4 (Nat.le_refl _))
  have HY4 := hide (HY3.out.below hb4 (Nat.le_refl _))
  have HB4 := hide (HB3.out.trans (hb4.mono HB3.out.size))
  obtain ⟨W5, hW5⟩ : ∃ W5, W5 = W4.alloc (.cells #[.int .i64 D.frm, .int .i64 D.upto, .int .i64 D.ahead, .int .i64 D.behind, .slice ma D.mid.length mc, .bool D.shut, .int .i64 D.eng, .slice da D.tab.length dc] 31) := ⟨_, rfl⟩
  obtain ⟨QD, hQD⟩ : ∃ QD, QD = W4.heap.size := ⟨_, rfl⟩
  have hA5 : Below W4.heap.size W4 W5 := by rw [hW5]; exact (Below.refl _ _).alloc (Nat.le_refl _) _
  have HZ5 : Hid (Bd W5 QD #[.int .i64 D.frm, .int .i64 D.upto, .int .i64 D.ahead, .int .i64 D.behind, .slice ma D.mid.length mc, .bool D.shut, .int .i64 D.eng, .slice da D.tab.length dc]) := hide (by rw [hW5, hQD]; exact heap_alloc_new W4 _)
  have HX5 := hide (HX4.out.below hA5 (Nat.le_refl _))
  have HY5 := hide (HY4.out.below hA5 (Nat.le_refl _))
  have HB5 := hide (HB4.out.trans (hA5.mono HB4.out.size))
  have HD5 : Hid (∀ W, Below W5.heap.size W5 W → DlV W (.agg #[.int .i64 D.frm, .int .i64 D.upto, .int .i64 D.ahead, .int .i64 D.behind, .slice ma D.mid.length mc, .bool D.shut, .int .i64 D.eng, .slice da D.tab.length dc]) D) := hide (fun W h => HD4.out W (hA5.trans (h.mono hA5.size)))
  have HW5 := hide hW5
  clear hb4 hm4 ht4 hi4 HDI hW5 hA5 HX3 HY3 HB3 HX4 HY4 HB4 HD4 p0 p1 p2 p3 p4 p5 q0 q1 q2 q3 q4 q5
  go_upto_region 7 with fail
  rw [← HW5.out, ← hQD]
  clear HW5 hQD
  by_cases her : er = 0
  case neg =>
    have hne : (er != 0) = true := by rw [bne_iff_ne]; exact her
    clear her HMD HAD HAP HSM HD5
    go_wp2
    go_ret
    exact ⟨rfl, HB5.out⟩
  have hne : (er != 0) = false := by rw [bne_eq_false_iff_eq]; exact her
  have hmd : MayD D := HMD.out her
  have had : applyD _ D = _ := HAD.out her
  have hml : D.mid.length ≤ 100000 := by have := hmd.2.2.2.2.1; omega
  have HEN := hide (fun v W h => encodeD_any v D W h)
  unfold EncodedD at HEN
  simp only [if_pos hmd] at HEN
  have hdl : (encD D).length ≤ 100000 := by
    have h1 := encD_len hmd
    have h2 := frameOf_len6 (d := dataD D) (by omega)
    unfold encD
    omega
  have HDE := hide (fun v W h => decodeD_any v (encD D) W h hdl)
  rw [decD_enc hmd] at HDE
  unfold GivenD at HDE
  have HSD : Hid (∀ W va vb, DlV W va D → DlV W vb D → Calls Try.prog 19 #[va, vb] W fun x w' => x = .returned (.bool true) ∧ Below W.heap.size W w') := hide (fun W va vb h1 h2 => by
    have h3 := sameD_any va D vb D W h1 h2
    rw [decide_eq_true (SameD.refl D)] at h3
    exact h3)
  have HAQ := hide (fun W vd h h2 => HAP.out W vd D h h2 hml)
  rw [had] at HAQ
  unfold DecodedN at HAQ
  dsimp only at HDE HAQ
  generalize encD D = ED at *
  clear her hmd had hml hdl HMD HAD HAP
  obtain ⟨⟨d0, d1, d2, d3, d4, d5, d6, d7⟩, -⟩ := HZ5.out.all
  go_wp2_with fail
  refine (HEN.out _ _ (HD5.out W5 (Below.refl _ _))).mono ?_
  rintro e W6 ⟨v6, rfl, ho6, hb6⟩
  obtain ⟨a6, c6, hv⟩ : ∃ a c, v6 = .slice a ED.length c := by obtain ⟨a, c, h, -⟩ := ho6.rd; exact ⟨a, c, h⟩
  subst hv
  have HR6 := hide ho6.rd
  have HX6 := hide (HX5.out.below hb6 (Nat.le_refl _))
  have HY6 := hide (HY5.out.below hb6 (Nat.le_refl _))
  have HZ6 := hide (HZ5.out.below hb6 (Nat.le_refl _))
  have HB6 := hide (HB5.out.trans (hb6.mono HB5.out.size))
  have HS6 := hide hb6
  clear ho6 hb6 HEN HX5 HY5 HZ5 HB5 d0 d1 d2 d3 d4 d5 d6 d7
  go_wp2_with fail
  refine (HDE.out _ _ HR6.out).mono ?_
  rintro e W7 ⟨vm7, vt7, rfl, hm7, ht7, hi7, -, -, hb7⟩
  have HD7 : Hid (∀ W, Below W7.heap.size W7 W → DlV W (.agg #[.int .i64 D.frm, .int .i64 D.upto, .int .i64 D.ahead, .int .i64 D.behind, vm7, .bool D.shut, .int .i64 D.eng, vt7]) D) := hide (fun W h => ⟨vm7, vt7, rfl, hm7.below h (Nat.le_refl _), ht7.below h (Nat.le_refl _), hi7⟩)
  obtain ⟨xa, xc, hv⟩ := hm7.shape
  subst hv
  obtain ⟨ya, yc, hv⟩ := ht7.shape
  subst hv
  obtain ⟨W8, hW8⟩ : ∃ W8, W8 = W7.alloc (.cells #[.int .i64 D.frm, .int .i64 D.upto, .int .i64 D.ahead, .int .i64 D.behind, .slice xa D.mid.length xc, .bool D.shut, .int .i64 D.eng, .slice ya D.tab.length yc] 31) := ⟨_, rfl⟩
  obtain ⟨QX, hQX⟩ : ∃ QX, QX = W7.heap.size := ⟨_, rfl⟩
  have hA8 : Below W7.heap.size W7 W8 := by rw [hW8]; exact (Below.refl _ _).alloc (Nat.le_refl _) _
  have hA68 : Below W6.heap.size W6 W8 := hb7.trans (hA8.mono hb7.size)
  have HU8 : Hid (Bd W8 QX #[.int .i64 D.frm, .int .i64 D.upto, .int .i64 D.ahead, .int .i64 D.behind, .slice xa D.mid.length xc, .bool D.shut, .int .i64 D.eng, .slice ya D.tab.length yc]) := hide (by rw [hW8, hQX]; exact heap_alloc_new W7 _)
  have HX8 := hide (HX6.out.below hA68 (Nat.le_refl _))
  have HY8 := hide (HY6.out.below hA68 (Nat.le_refl _))
  have HZ8 := hide (HZ6.out.below hA68 (Nat.le_refl _))
  have HB8 := hide (HB6.out.trans (hA68.mono HB6.out.size))
  have HS8 := hide (HS6.out.trans (hA68.mono HS6.out.size))
  have HD8 := hide (fun W (h : Below W8.heap.size W8 W) => HD7.out W (hA8.trans (h.mono hA8.size)))
  have HW8 := hide hW8
  clear hm7 ht7 hi7 hb7 hW8 hA8 hA68 HDE HR6 HX6 HY6 HZ6 HB6 HS6 HD7
  go_upto_region 11 with fail
  rw [← HW8.out, ← hQX]
  clear HW8 hQX
  obtain ⟨⟨p0, p1, p2, p3, p4, p5⟩, -⟩ := HX8.out.all
  obtain ⟨⟨d0, d1, d2, d3, d4, d5, d6, d7⟩, -⟩ := HU8.out.all
  go_wp2_with fail
  refine (HAQ.out _ _ HB8.out (HD8.out W8 (Below.refl _ _))).mono ?_
  rintro e W9 ⟨vl9, vt9, rfl, hl9, hk9, he9, ht9, hi9, -, -, hb9⟩
  have HS9 : Hid (∀ W, Below W9.heap.size W9 W → SnV W (.agg #[.int .i64 bi, .int .i64 bk, vl9, .bool bsh, .int .i64 be, vt9]) ⟨bi, ⟨bk, bL, bsh, be⟩, bT⟩) := hide (fun W h => ⟨vl9, vt9, rfl, hl9.below h (Nat.le_refl _), hk9, he9, ht9.below h (Nat.le_refl _), hi9⟩)
  obtain ⟨sa, sc, hv⟩ := hl9.shape
  subst hv
  obtain ⟨sb, sd, hv⟩ := ht9.shape
  subst hv
  obtain ⟨W10, hW10⟩ : ∃ W10, W10 = W9.alloc (.cells #[.int .i64 bi, .int .i64 bk, .slice sa bL.length sc, .bool bsh, .int .i64 be, .slice sb bT.length sd] 27) := ⟨_, rfl⟩
  obtain ⟨QS, hQS⟩ : ∃ QS, QS = W9.heap.size := ⟨_, rfl⟩
  have hA10 : Below W9.heap.size W9 W10 := by rw [hW10]; exact (Below.refl _ _).alloc (Nat.le_refl _) _
  have hA810 : Below W8.heap.size W8 W10 := hb9.trans (hA10.mono hb9.size)
  have HT10 : Hid (Bn W10 QS #[.int .i64 bi, .int .i64 bk, .slice sa bL.length sc, .bool bsh, .int .i64 be, .slice sb bT.length sd]) := hide (by rw [hW10, hQS]; exact heap_alloc_new W9 _)
  have HY10 := hide (HY8.out.below hA810 (Nat.le_refl _))
  have HZ10 := hide (HZ8.out.below hA810 (Nat.le_refl _))
  have HU10 := hide (HU8.out.below hA810 (Nat.le_refl _))
  have HB10 := hide (HB8.out.trans (hA810.mono HB8.out.size))
  have HDA10 := hide (fun W (h : Below W10.heap.size W10 W) => HD5.out W ((HS8.out.trans (hA810.mono HS8.out.size)).trans (h.mono (Nat.le_trans HS8.out.size hA810.size))))
  have HDB10 := hide (fun W (h : Below W10.heap.size W10 W) => HD8.out W (hA810.trans (h.mono hA810.size)))
  have HSN10 := hide (fun W (h : Below W10.heap.size W10 W) => HS9.out W (hA10.trans (h.mono hA10.size)))
  have HW10 := hide hW10
  clear hl9 hk9 he9 ht9 hi9 hb9 hW10 hA10 hA810 HAQ HX8 HY8 HZ8 HU8 HB8 HS8 HD8 HD5 HS9 p0 p1 p2 p3 p4 p5 d0 d1 d2 d3 d4 d5 d6 d7
  go_upto_region 12 with fail
  rw [← HW10.out, ← hQS]
  clear HW10 hQS
  obtain ⟨⟨d0, d1, d2, d3, d4, d5, d6, d7⟩, -⟩ := HZ10.out.all
  obtain ⟨⟨c0, c1, c2, c3, c4, c5, c6', c7⟩, -⟩ := HU10.out.all
  go_wp2_with fail
  refine (HSD.out _ _ _ (HDA10.out W10 (Below.refl _ _)) (HDB10.out W10 (Below.refl _ _))).mono ?_
  rintro e W11 ⟨rfl, hb11⟩
  have HY11 := hide (HY10.out.below hb11 (Nat.le_refl _))
  have HT11 := hide (HT10.out.below hb11 (Nat.le_refl _))
  have HB11 := hide (HB10.out.trans (hb11.mono HB10.out.size))
  have HSN11 := hide (HSN10.out W11 hb11)
  clear hb11 HSD HY10 HZ10 HU10 HT10 HB10 HDA10 HDB10 HSN10 d0 d1 d2 d3 d4 d5 d6 d7 c0 c1 c2 c3 c4 c5 c6' c7
  obtain ⟨⟨p0, p1, p2, p3, p4, p5⟩, -⟩ := HT11.out.all
  obtain ⟨⟨q0, q1, q2, q3, q4, q5⟩, -⟩ := HY11.out.all
  go_wp2_with fail
  refine (HSM.out _ _ HB11.out HSN11.out).mono ?_
  rintro e W12 ⟨rfl, hb12⟩
  have HB12 := hide (HB11.out.trans (hb12.mono HB11.out.size))
  clear hb12
  go_wp2
  go_ret
  exact ⟨rfl, HB12.out⟩

theorem own : ownKnob Try.prog.godebug = none := by kernel_rfl
theorem laidOut : laidOutB Try.prog = true := by kernel_rfl

set_option linter.unusedVariables false in
set_option maxRecDepth 100000 in
theorem lifted (os : Os) (started : os.Started) (H : Type) (enc : TypeId × Value → H) :
    ReturnsInHanded {} Try.checked os 5 .any (Rows.deltaBackSpec.pre6 enc Try.prog Try.f5 Rows.deltaBackRow.domain false) (Rows.deltaBackSpec.post enc Try.prog Try.f5 false true false false) := by
  refine returnsInHanded_of_change (C := Try.checked) own started (by kernel_rfl) Try.func5
    (ChangeSpec.witness6 (enc := enc) (C := Try.checked) false ⟨#[], #[.agg #[.int .i64 0, .int .i64 0, .slice none 0 0, .bool false, .int .i64 0, .slice none 0 0], .agg #[.int .i64 0, .int .i64 0, .slice none 0 0, .bool false, .int .i64 0, .slice none 0 0]], []⟩ 8 (by kernel_rfl) (by kernel_rfl) (by kernel_rfl) (by kernel_rfl)) ?_
  intro W base args ds gs before hval0 hW hcnd _
  have hval : ∀ (j : Nat) t v, Try.f5.params[j]? = some t → args[j]? = some v → Value.okWide Try.prog W .any base t v := hval0
  have hW' := hW
  obtain ⟨p, q, hA0, hV, rfl, hfz, hnd⟩ := hW
  have hA : DataW.TrodAll enc Try.prog W 0 (fun _ => true) true Try.f5.params.toList args.toList ds p := hA0
  rw [Try.params5] at hA hval
  obtain ⟨v0, vs0, d0, ds0, p0, q0, hargs, rfl, rfl, h0, r0⟩ := trodAll_cons hA
  obtain ⟨v1, vs1, d1, ds1, p1, q1, rfl, rfl, rfl, h1, r1⟩ := trodAll_cons r0
  obtain ⟨rfl, rfl, rfl⟩ := trodAll_nil r1
  obtain rfl : args = #[v0, v1] := by cases args; simp_all
  obtain ⟨rfl, rfl⟩ := trodVars_none hV
  have k0 := h0
  have lt0 : ∀ x ∈ p0, x.block < W.heap.size := by obtain ⟨m, hm⟩ := k0; exact DataW.trod_lt m _ _ _ hm
  obtain ⟨s0, w0⟩ := open_snap (hval 0 27 v0 rfl rfl) h0
  have k1 := h1
  have lt1 : ∀ x ∈ p1, x.block < W.heap.size := by obtain ⟨m, hm⟩ := k1; exact DataW.trod_lt m _ _ _ hm
  obtain ⟨s1, w1⟩ := open_snap (hval 1 27 v1 rfl rfl) h1
  clear hA0 hval0
  refine (walk _ s0 _ s1 W w0 w1).mono fun e W' ⟨he, bel⟩ => ?_
  subst he
  exact ⟨_, rfl, _, _, _, [], _, [], hW', trodAll_mk1 (shut_bool Try.underlying4 _), (trodAll_cons_mk (Below.trod laidOut (by kernel_rfl) (of_decide_eq_true (by kernel_rfl)) k0 bel lt0) (trodAll_cons_mk (Below.trod laidOut (by kernel_rfl) (of_decide_eq_true (by kernel_rfl)) k1 bel lt1) trodAll_mk0)), rfl, bel.frame _, fun h => by cases h⟩

theorem over : Rows.deltaBackRow.holds Try.pinned (OpenSpec.ofChange Rows.deltaBackSpec) :=
  OpenClaim.holds_of_wide 5 Try.f5 rfl rfl rfl rfl rfl rfl rfl ⟨rfl, rfl, rfl, rfl, rfl⟩ rfl rfl rfl rfl rfl (by kernel_rfl) Try.func5 (by kernel_rfl)
    (of_decide_eq_true (by kernel_rfl)) (by unfold Func.isWrapper; first | (rw [if_pos (by decide +kernel)]; kernel_rfl) | (rw [if_neg (by decide +kernel)]; exact ⟨rfl, rfl⟩))
    (fun os started H enc _ => lifted os started H enc)

end Go.Proofs.Ytgpdbboieokldaa.deltaBack
namespace Go.Proofs.Ytgpdbboieokldaa

theorem deltaBack_holds : Rows.DeltaBackSaid := deltaBack.over

end Go.Proofs.Ytgpdbboieokldaa
