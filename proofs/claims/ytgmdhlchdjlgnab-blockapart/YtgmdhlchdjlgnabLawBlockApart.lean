/- Proved: for all pairs of lists of records the law BlockApart answers true (and the call leaves all older memory as it was). No condition. -/
import Derived.Test.YtgmdhlchdjlgnabBlockAwake
import Derived.Test.YtgmdhlchdjlgnabOpenBlock
import Derived.OpenShut
import Derived.ChangeOld
namespace Go.Proofs.Ytgmdhlchdjlgnab.blockApart
open Go.ChangeShapes Go.WideShapes Go.ChangeAt Go.RowKit

set_option maxRecDepth 100000 in
set_option maxHeartbeats 2000000 in
theorem walk (va : Value) (a : List Rec) (vb : Value) (b : List Rec) (w : World) (hra : RdR w va a) (hrb : RdR w vb b) :
    Calls Try.prog 3 #[va, vb] w fun e w' => e = .returned (.bool true) ∧ Below w.heap.size w w' := by
  have HA := hide (fun w => awake7_any w)
  have HRA := hide hra
  have HRB := hide hrb
  obtain ⟨aa, ca, rfl, hlc, hcm, -⟩ := hra
  have hmlaa : (a.length : Int) ≤ 9223372036854775807 := by unfold maxLen at hcm; omega
  clear hlc hcm
  obtain ⟨ab, cb, rfl, hlc, hcm, -⟩ := hrb
  have hmlab : (b.length : Int) ≤ 9223372036854775807 := by unfold maxLen at hcm; omega
  clear hlc hcm
  by_cases hln : (a.length : Int) ≤ 300
  case neg =>
    have hln' : 300 < (a.length : Int) := by omega
    clear hln
    go_enter Try.func3, Try.ntmps3
    go_wp2_with fail
    refine (HA.out _).mono ?_
    rintro e W1 ⟨rfl, hb1⟩
    have HB1 := hide hb1
    clear hb1 HA
    go_wp2
    go_ret
    exact ⟨rfl, HB1.out⟩
  have hln' : ¬ (300 < (a.length : Int)) := by omega
  by_cases hlm : (b.length : Int) ≤ 300
  case neg =>
    have hlm' : 300 < (b.length : Int) := by omega
    clear hlm
    go_enter Try.func3, Try.ntmps3
    go_wp2_with fail
    refine (HA.out _).mono ?_
    rintro e W1 ⟨rfl, hb1⟩
    have HB1 := hide hb1
    clear hb1 HA
    go_wp2
    go_ret
    exact ⟨rfl, HB1.out⟩
  have hlm' : ¬ (300 < (b.length : Int)) := by omega
  have HEA := hide (fun W (h : RdR W (.slice aa a.length ca) a) => blockEncode_any _ a W h (by omega))
  have HEB := hide (fun W (h : RdR W (.slice ab b.length cb) b) => blockEncode_any _ b W h (by omega))
  have HSA := hide (fun W h1 h2 => refSameR_any (.slice aa a.length ca) a (.slice ab b.length cb) b W h1 h2)
  unfold EncodedB at HEA HEB
  clear hln hlm
  by_cases hfa : FitsB a
  case neg =>
    simp only [if_neg hfa] at HEA
    clear hfa
    generalize (if FitsB b then (0 : Int) else 1) = eb at *
    generalize (if FitsB b then encB b else []) = EB at *
    go_enter Try.func3, Try.ntmps3
    go_wp2_with fail
    refine (HA.out _).mono ?_
    rintro e W1 ⟨rfl, hb1⟩
    have HB1 := hide hb1
    clear hb1 HA
    go_wp2_with fail
    refine (HEA.out _ (HRA.out.below HB1.out (Nat.le_refl _))).mono ?_
    rintro e W2 ⟨v2, rfl, ho2, hb2⟩
    have HO2 := hide ho2.rd
    have HB2 := hide (HB1.out.trans (hb2.mono HB1.out.size))
    clear ho2 hb2 HB1 HEA
    go_wp2_with fail
    refine (HEB.out _ (HRB.out.below HB2.out (Nat.le_refl _))).mono ?_
    rintro e W3 ⟨v3, rfl, ho3, hb3⟩
    have HO23 := hide (HO2.out.below hb3 (Nat.le_refl _))
    have HO3 := hide ho3.rd
    have HB3 := hide (HB2.out.trans (hb3.mono HB2.out.size))
    clear ho3 hb3 HB2 HEB HO2
    go_wp2
    go_ret
    exact ⟨rfl, HB3.out⟩
  by_cases hfb : FitsB b
  case neg =>
    simp only [if_pos hfa] at HEA
    simp only [if_neg hfb] at HEB
    clear hfa hfb
    generalize encB a = EA at *
    go_enter Try.func3, Try.ntmps3
    go_wp2_with fail
    refine (HA.out _).mono ?_
    rintro e W1 ⟨rfl, hb1⟩
    have HB1 := hide hb1
    clear hb1 HA
    go_wp2_with fail
    refine (HEA.out _ (HRA.out.below HB1.out (Nat.le_refl _))).mono ?_
    rintro e W2 ⟨v2, rfl, ho2, hb2⟩
    have HO2 := hide ho2.rd
    have HB2 := hide (HB1.out.trans (hb2.mono HB1.out.size))
    clear ho2 hb2 HB1 HEA
    go_wp2_with fail
    refine (HEB.out _ (HRB.out.below HB2.out (Nat.le_refl _))).mono ?_
    rintro e W3 ⟨v3, rfl, ho3, hb3⟩
    have HO23 := hide (HO2.out.below hb3 (Nat.le_refl _))
    have HO3 := hide ho3.rd
    have HB3 := hide (HB2.out.trans (hb3.mono HB2.out.size))
    clear ho3 hb3 HB2 HEB HO2
    go_wp2
    go_ret
    exact ⟨rfl, HB3.out⟩
  simp only [if_pos hfa] at HEA
  simp only [if_pos hfb] at HEB
  have hse : ((bs (encB a)).toList == (bs (encB b)).toList) = decide (a = b) := by
    rw [bs_eq]
    by_cases h : a = b
    · rw [decide_eq_true h, beq_iff_eq, h]
    · rw [decide_eq_false h, beq_eq_false_iff_ne]
      exact fun e => h ((encB_apart hfa hfb).1 e)
  have HSE := hide hse
  clear hfa hfb hse
  generalize encB a = EA at *
  generalize encB b = EB at *
  generalize decide (a = b) = D at *
  go_enter Try.func3, Try.ntmps3
  go_wp2_with fail
  refine (HA.out _).mono ?_
  rintro e W1 ⟨rfl, hb1⟩
  have HB1 := hide hb1
  clear hb1 HA
  go_wp2_with fail
  refine (HEA.out _ (HRA.out.below HB1.out (Nat.le_refl _))).mono ?_
  rintro e W2 ⟨v2, rfl, ho2, hb2⟩
  have HO2 := hide ho2.rd
  have HB2 := hide (HB1.out.trans (hb2.mono HB1.out.size))
  clear ho2 hb2 HB1 HEA
  go_wp2_with fail
  refine (HEB.out _ (HRB.out.below HB2.out (Nat.le_refl _))).mono ?_
  rintro e W3 ⟨v3, rfl, ho3, hb3⟩
  have HO23 := hide (HO2.out.below hb3 (Nat.le_refl _))
  have HO3 := hide ho3.rd
  have HB3 := hide (HB2.out.trans (hb3.mono HB2.out.size))
  clear ho3 hb3 HB2 HEB HO2
  go_wp2_with fail
  refine (HSA.out _ (HRA.out.below HB3.out (Nat.le_refl _)) (HRB.out.below HB3.out (Nat.le_refl _))).mono ?_
  rintro e W4 ⟨rfl, hb4⟩
  have hs2 := (HO23.out.below hb4 (Nat.le_refl _)).str
  have hs3 := (HO3.out.below hb4 (Nat.le_refl _)).str
  have HB4 := hide (HB3.out.trans (hb4.mono HB3.out.size))
  have hse := HSE.out
  clear hb4 HB3 HO23 HO3 HSA
  go_wp2
  go_ret
  exact ⟨rfl, HB4.out⟩

theorem own : ownKnob Try.prog.godebug = none := by kernel_rfl
theorem laidOut : laidOutB Try.prog = true := by kernel_rfl

set_option linter.unusedVariables false in
set_option maxRecDepth 100000 in
theorem lifted (os : Os) (started : os.Started) (H : Type) (enc : TypeId × Value → H) :
    ReturnsInHanded {} Try.checked os 3 .any (Rows.blockApartSpec.pre6 enc Try.prog Try.f3 Rows.blockApartRow.domain false) (Rows.blockApartSpec.post enc Try.prog Try.f3 false true false false) := by
  refine returnsInHanded_of_change (C := Try.checked) own started (by kernel_rfl) Try.func3
    (ChangeSpec.witness6 (enc := enc) (C := Try.checked) false ⟨#[], #[.slice none 0 0, .slice none 0 0], []⟩ 8 (by kernel_rfl) (by kernel_rfl) (by kernel_rfl) (by kernel_rfl)) ?_
  intro W base args ds gs before hval0 hW hcnd _
  have hval : ∀ (j : Nat) t v, Try.f3.params[j]? = some t → args[j]? = some v → Value.okWide Try.prog W .any base t v := hval0
  have hW' := hW
  obtain ⟨p, q, hA0, hV, rfl, hfz, hnd⟩ := hW
  have hA : DataW.TrodAll enc Try.prog W 0 (fun _ => true) true Try.f3.params.toList args.toList ds p := hA0
  rw [Try.params3] at hA hval
  obtain ⟨v0, vs0, d0, ds0, p0, q0, hargs, rfl, rfl, h0, r0⟩ := trodAll_cons hA
  obtain ⟨v1, vs1, d1, ds1, p1, q1, rfl, rfl, rfl, h1, r1⟩ := trodAll_cons r0
  obtain ⟨rfl, rfl, rfl⟩ := trodAll_nil r1
  obtain rfl : args = #[v0, v1] := by cases args; simp_all
  obtain ⟨rfl, rfl⟩ := trodVars_none hV
  obtain ⟨a0, len0, cap0, rfl⟩ := okWide_slice Try.underlying22 (hval 0 22 v0 rfl rfl)
  have k0 := h0
  have lt0 : ∀ x ∈ p0, x.block < W.heap.size := by obtain ⟨m, hm⟩ := k0; exact DataW.trod_lt m _ _ _ hm
  obtain ⟨l0, w0⟩ : ∃ l, RdR W (.slice a0 len0 cap0) l := by
    obtain ⟨fuel, hf⟩ := h0
    obtain ⟨v, l, hcs, hr⟩ := open_recs hf
    simp [Value.cells] at hcs
    subst hcs
    exact ⟨l, hr⟩
  obtain ⟨a1, len1, cap1, rfl⟩ := okWide_slice Try.underlying22 (hval 1 22 v1 rfl rfl)
  have k1 := h1
  have lt1 : ∀ x ∈ p1, x.block < W.heap.size := by obtain ⟨m, hm⟩ := k1; exact DataW.trod_lt m _ _ _ hm
  obtain ⟨l1, w1⟩ : ∃ l, RdR W (.slice a1 len1 cap1) l := by
    obtain ⟨fuel, hf⟩ := h1
    obtain ⟨v, l, hcs, hr⟩ := open_recs hf
    simp [Value.cells] at hcs
    subst hcs
    exact ⟨l, hr⟩
  clear hA0 hval0
  refine (walk _ l0 _ l1 W w0 w1).mono fun e W' ⟨he, bel⟩ => ?_
  subst he
  exact ⟨_, rfl, _, _, _, [], _, [], hW', trodAll_mk1 (shut_bool Try.underlying4 _), (trodAll_cons_mk (Below.trod laidOut (by kernel_rfl) (of_decide_eq_true (by kernel_rfl)) k0 bel lt0) (trodAll_cons_mk (Below.trod laidOut (by kernel_rfl) (of_decide_eq_true (by kernel_rfl)) k1 bel lt1) trodAll_mk0)), rfl, bel.frame _, fun h => by cases h⟩

theorem over : Rows.blockApartRow.holds Try.pinned (OpenSpec.ofChange Rows.blockApartSpec) :=
  OpenClaim.holds_of_wide 3 Try.f3 rfl rfl rfl rfl rfl rfl rfl ⟨rfl, rfl, rfl, rfl, rfl⟩ rfl rfl rfl rfl rfl (by kernel_rfl) Try.func3 (by kernel_rfl)
    (of_decide_eq_true (by kernel_rfl)) (by unfold Func.isWrapper; first | (rw [if_pos (by decide +kernel)]; kernel_rfl) | (rw [if_neg (by decide +kernel)]; exact ⟨rfl, rfl⟩))
    (fun os started H enc _ => lifted os started H enc)

end Go.Proofs.Ytgmdhlchdjlgnab.blockApart
namespace Go.Proofs.Ytgmdhlchdjlgnab

theorem blockApart_holds : Rows.BlockApartSaid := blockApart.over

end Go.Proofs.Ytgmdhlchdjlgnab
