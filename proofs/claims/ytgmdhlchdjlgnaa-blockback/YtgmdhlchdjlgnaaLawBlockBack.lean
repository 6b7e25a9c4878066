/- Proved: for all lists of records the law BlockBack answers true (and the call leaves all older memory as it was). No condition. -/
import Derived.Test.YtgmdhlchdjlgnaaBlockAwake
import Derived.Test.YtgmdhlchdjlgnaaOpenBlock
import Derived.OpenShut
import Derived.ChangeOld
namespace Go.Proofs.Ytgmdhlchdjlgnaa.blockBack
open Go.ChangeShapes Go.WideShapes Go.ChangeAt Go.RowKit

set_option maxRecDepth 100000 in
set_option maxHeartbeats 2000000 in
theorem walk (v : Value) (l : List Rec) (w : World) (hr : RdR w v l) :
    Calls Try.prog 5 #[v] w fun e w' => e = .returned (.bool true) ∧ Below w.heap.size w w' := by
  have HA := hide (fun w => awake7_any w)
  have HR := hide hr
  obtain ⟨ao, cap, rfl, hlc, hcm, -⟩ := hr
  have hmlao : (l.length : Int) ≤ 9223372036854775807 := by unfold maxLen at hcm; omega
  clear hlc hcm
  by_cases hln : (l.length : Int) ≤ 300
  case neg =>
    have hln' : 300 < (l.length : Int) := by omega
    clear hln
    go_enter Try.func5, Try.ntmps5
    go_wp2_with fail
    refine (HA.out _).mono ?_
    rintro e W1 ⟨rfl, hb1⟩
    have HB1 := hide hb1
    clear hb1 HA
    go_wp2
    go_ret
    exact ⟨rfl, HB1.out⟩
  have hln' : ¬ (300 < (l.length : Int)) := by omega
  have HEN := hide (fun W (h : RdR W (.slice ao l.length cap) l) => blockEncode_any _ l W h (by omega))
  have HF1 := hide (fun W (h : RdR W (.slice ao l.length cap) l) => blockFits_any _ l W h (by omega))
  have HSA := hide (fun va a vb b w h1 h2 => refSameR_any va a vb b w h1 h2)
  unfold EncodedB at HEN
  have HDE := hide (fun W v1 E (h : Rd W v1 E) (hl : E.length ≤ 100000) => blockDecode_any v1 E W h hl)
  unfold DecodedB at HDE
  clear hln
  by_cases hf : FitsB l
  · simp only [if_pos hf] at HEN
    rw [decide_eq_true hf] at HF1
    have HLE : Hid ((encB l).length ≤ 100000) := hide (encB_len hf)
    have HUN : Hid (∀ x n, DecB (encB l) x n → x = l ∧ n = 0) := hide (fun x n h => h.unique (.inl ⟨rfl, hf, rfl⟩))
    clear hf
    generalize encB l = E at *
    go_enter Try.func5, Try.ntmps5
    go_wp2_with fail
    refine (HA.out _).mono ?_
    rintro e W1 ⟨rfl, hb1⟩
    have HB1 := hide hb1
    clear hb1 HA
    go_wp2_with fail
    refine (HEN.out _ (HR.out.below HB1.out (Nat.le_refl _))).mono ?_
    rintro e W2 ⟨v2, rfl, ho2, hb2⟩
    have HO2 := hide ho2.rd
    obtain ⟨a2, c2, rfl, -⟩ := ho2.rd
    have HB2 := hide (HB1.out.trans (hb2.mono HB1.out.size))
    clear ho2 hb2 HB1 HEN
    go_wp2_with fail
    refine (HDE.out _ _ _ HO2.out HLE.out).mono ?_
    rintro e W3 ⟨v3, l3, n3, rfl, hr3, hd3, hb3⟩
    obtain ⟨hl, hn⟩ := HUN.out _ _ hd3
    subst hl hn
    have HR3 := hide hr3
    obtain ⟨a3, c3, rfl, -⟩ := hr3
    have HB3 := hide (HB2.out.trans (hb3.mono HB2.out.size))
    have HSS := hide (HSA.out _ _ _ _ W3 HR3.out (HR.out.below HB3.out (Nat.le_refl _)))
    rw [decide_eq_true rfl] at HSS
    clear hb3 HB2 hd3 HR3 HO2 HDE
    go_wp2_with fail
    refine HSS.out.mono ?_
    rintro e W4 ⟨rfl, hb4⟩
    have HB4 := hide (HB3.out.trans (hb4.mono HB3.out.size))
    clear hb4 HB3 HSS
    go_wp2_with fail
    refine (HF1.out _ (HR.out.below HB4.out (Nat.le_refl _))).mono ?_
    rintro e W5 ⟨rfl, hb5⟩
    have HB5 := hide (HB4.out.trans (hb5.mono HB4.out.size))
    clear hb5 HB4 HF1
    go_wp2
    go_ret
    exact ⟨rfl, HB5.out⟩
  · simp only [if_neg hf] at HEN
    have HUN : Hid (∀ x n, DecB [] x n → x = [] ∧ n = 3) := hide (fun x n h => h.unique (.inr ⟨rfl, rfl, fun l' _ h => encB_ne h⟩))
    clear hf
    go_enter Try.func5, Try.ntmps5
    go_wp2_with fail
    refine (HA.out _).mono ?_
    rintro e W1 ⟨rfl, hb1⟩
    have HB1 := hide hb1
    clear hb1 HA
    go_wp2_with fail
    refine (HEN.out _ (HR.out.below HB1.out (Nat.le_refl _))).mono ?_
    rintro e W2 ⟨v2, rfl, ho2, hb2⟩
    have HO2 := hide ho2.rd
    obtain ⟨a2, c2, rfl, -⟩ := ho2.rd
    have HB2 := hide (HB1.out.trans (hb2.mono HB1.out.size))
    clear ho2 hb2 HB1 HEN
    go_wp2_with fail
    refine (HDE.out _ _ [] HO2.out (by simp)).mono ?_
    rintro e W3 ⟨v3, l3, n3, rfl, hr3, hd3, hb3⟩
    obtain ⟨hl, hn⟩ := HUN.out _ _ hd3
    subst hl hn
    have HR3 := hide hr3
    obtain ⟨a3, c3, rfl, -⟩ := hr3
    have HB3 := hide (HB2.out.trans (hb3.mono HB2.out.size))
    have HSS := hide (HSA.out _ _ _ _ W3 HR3.out (HR.out.below HB3.out (Nat.le_refl _)))
    clear hb3 HB2 hd3 HR3 HO2 HDE
    generalize decide ([] = l) = bb at *
    go_wp2_with fail
    refine HSS.out.mono ?_
    rintro e W4 ⟨rfl, hb4⟩
    have HB4 := hide (HB3.out.trans (hb4.mono HB3.out.size))
    clear hb4 HB3 HSS
    go_wp2
    go_ret
    exact ⟨rfl, HB4.out⟩

theorem own : ownKnob Try.prog.godebug = none := by kernel_rfl
theorem laidOut : laidOutB Try.prog = true := by kernel_rfl

set_option linter.unusedVariables false in
set_option maxRecDepth 100000 in
theorem lifted (os : Os) (started : os.Started) (H : Type) (enc : TypeId × Value → H) :
    ReturnsInHanded {} Try.checked os 5 .any (Rows.blockBackSpec.pre6 enc Try.prog Try.f5 Rows.blockBackRow.domain false) (Rows.blockBackSpec.post enc Try.prog Try.f5 false true false false) := by
  refine returnsInHanded_of_change (C := Try.checked) own started (by kernel_rfl) Try.func5
    (ChangeSpec.witness6 (enc := enc) (C := Try.checked) false ⟨#[], #[.slice none 0 0], []⟩ 8 (by kernel_rfl) (by kernel_rfl) (by kernel_rfl) (by kernel_rfl)) ?_
  intro W base args ds gs before hval0 hW hcnd _
  have hval : ∀ (j : Nat) t v, Try.f5.params[j]? = some t → args[j]? = some v → Value.okWide Try.prog W .any base t v := hval0
  have hW' := hW
  obtain ⟨p, q, hA0, hV, rfl, hfz, hnd⟩ := hW
  have hA : DataW.TrodAll enc Try.prog W 0 (fun _ => true) true Try.f5.params.toList args.toList ds p := hA0
  rw [Try.params5] at hA hval
  obtain ⟨v0, vs0, d0, ds0, p0, q0, hargs, rfl, rfl, h0, r0⟩ := trodAll_cons hA
  obtain ⟨rfl, rfl, rfl⟩ := trodAll_nil r0
  obtain rfl : args = #[v0] := by cases args; simp_all
  obtain ⟨rfl, rfl⟩ := trodVars_none hV
  obtain ⟨a0, len0, cap0, rfl⟩ := okWide_slice Try.underlying22 (hval 0 22 v0 rfl rfl)
  have k0 := h0
  have lt0 : ∀ x ∈ p0, x.block < W.heap.size := by obtain ⟨m, hm⟩ := k0; exact DataW.trod_lt m _ _ _ hm
  obtain ⟨l0, w0⟩ : ∃ l, RdR W (.slice a0 len0 cap0) l := by
    obtain ⟨fuel, hf⟩ := h0
    obtain ⟨v, l, hcs, hr⟩ := open_recs hf
    simp [Value.cells] at hcs
    subst hcs
    exact ⟨l, hr⟩
  clear hA0 hval0
  refine (walk _ l0 W w0).mono fun e W' ⟨he, bel⟩ => ?_
  subst he
  exact ⟨_, rfl, _, _, _, [], _, [], hW', trodAll_mk1 (shut_bool Try.underlying4 _), (trodAll_cons_mk (Below.trod laidOut (by kernel_rfl) (of_decide_eq_true (by kernel_rfl)) k0 bel lt0) trodAll_mk0), rfl, bel.frame _, fun h => by cases h⟩

theorem over : Rows.blockBackRow.holds Try.pinned (OpenSpec.ofChange Rows.blockBackSpec) :=
  OpenClaim.holds_of_wide 5 Try.f5 rfl rfl rfl rfl rfl rfl rfl ⟨rfl, rfl, rfl, rfl, rfl⟩ rfl rfl rfl rfl rfl (by kernel_rfl) Try.func5 (by kernel_rfl)
    (of_decide_eq_true (by kernel_rfl)) (by unfold Func.isWrapper; first | (rw [if_pos (by decide +kernel)]; kernel_rfl) | (rw [if_neg (by decide +kernel)]; exact ⟨rfl, rfl⟩))
    (fun os started H enc _ => lifted os started H enc)

end Go.Proofs.Ytgmdhlchdjlgnaa.blockBack
namespace Go.Proofs.Ytgmdhlchdjlgnaa

theorem blockBack_holds : Rows.BlockBackSaid := blockBack.over

end Go.Proofs.Ytgmdhlchdjlgnaa
