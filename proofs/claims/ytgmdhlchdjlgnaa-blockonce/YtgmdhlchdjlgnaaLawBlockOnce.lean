/- Proved: for all bytes the law BlockOnce answers true (and the call leaves all older memory as it was). No condition. -/
import Derived.Test.YtgmdhlchdjlgnaaBlockAwake
import Derived.Test.YtgmdhlchdjlgnaaOpenBlock
import Derived.OpenShut
import Derived.ChangeOld
namespace Go.Proofs.Ytgmdhlchdjlgnaa.blockOnce
open Go.ChangeShapes Go.WideShapes Go.ChangeAt Go.RowKit

set_option maxRecDepth 100000 in
set_option maxHeartbeats 2000000 in
theorem walk (v : Value) (l : List UInt8) (w : World) (hr : Rd w v l) :
    Calls Try.prog 6 #[v] w fun e w' => e = .returned (.bool true) ∧ Below w.heap.size w w' := by
  have HA := hide (fun w => awake7_any w)
  have HR := hide hr
  obtain ⟨ao, cap, rfl, hlc, hcm, -⟩ := hr
  have hmlao : (l.length : Int) ≤ 9223372036854775807 := by unfold maxLen at hcm; omega
  clear hlc hcm
  by_cases hln : (l.length : Int) ≤ 3000
  case neg =>
    have hln' : 3000 < (l.length : Int) := by omega
    clear hln
    go_enter Try.func6, Try.ntmps6
    go_wp2_with fail
    refine (HA.out _).mono ?_
    rintro e W1 ⟨rfl, hb1⟩
    have HB1 := hide hb1
    clear hb1 HA
    go_wp2
    go_ret
    exact ⟨rfl, HB1.out⟩
  have hln' : ¬ (3000 < (l.length : Int)) := by omega
  have HDE := hide (fun W (h : Rd W (.slice ao l.length cap) l) => blockDecode_any _ l W h (by omega))
  have HEN := hide (fun v1 x W (h : RdR W v1 x) (hl : x.length ≤ 300) => blockEncode_any v1 x W h hl)
  have HF1 := hide (fun v1 x W (h : RdR W v1 x) (hl : x.length ≤ 300) => blockFits_any v1 x W h hl)
  unfold DecodedB at HDE
  unfold EncodedB at HEN
  clear hln
  go_enter Try.func6, Try.ntmps6
  go_wp2_with fail
  refine (HA.out _).mono ?_
  rintro e W1 ⟨rfl, hb1⟩
  have HB1 := hide hb1
  clear hb1 HA
  go_wp2_with fail
  refine (HDE.out _ (HR.out.below HB1.out (Nat.le_refl _))).mono ?_
  rintro e W2 ⟨v2, x, n2, rfl, hr2, hd2, hb2⟩
  have HR2 := hide hr2
  obtain ⟨a2, c2, rfl, -⟩ := hr2
  have HB2 := hide (HB1.out.trans (hb2.mono HB1.out.size))
  clear hb2 HB1 HDE
  rcases hd2 with ⟨rfl, hf, he⟩ | ⟨rfl, rfl, -⟩
  · have HLX : Hid (x.length ≤ 300) := hide (by have := hf.2.1; omega)
    have HE2 := hide (HEN.out _ x W2 HR2.out HLX.out)
    have HF2 := hide (fun v1 W h => HF1.out v1 x W h HLX.out)
    simp only [if_pos hf, he] at HE2
    rw [decide_eq_true hf] at HF2
    clear hf he HEN HF1
    go_wp2_with fail
    refine HE2.out.mono ?_
    rintro e W3 ⟨v3, rfl, ho3, hb3⟩
    have hs3 := ho3.rd.str
    have HR3 := hide (HR2.out.below hb3 (Nat.le_refl _))
    have HB3 := hide (HB2.out.trans (hb3.mono HB2.out.size))
    have hs0 := (HR.out.below HB3.out (Nat.le_refl _)).str
    clear ho3 hb3 HB2 HR2 HE2
    go_wp2_with fail
    refine (HF2.out _ _ HR3.out).mono ?_
    rintro e W4 ⟨rfl, hb4⟩
    have HB4 := hide (HB3.out.trans (hb4.mono HB3.out.size))
    clear hb4 HB3 HR3 HF2 hs0 hs3
    go_wp2
    go_ret
    exact ⟨rfl, HB4.out⟩
  · clear HEN HF1 HR2
    go_wp2
    go_ret
    exact ⟨rfl, HB2.out⟩

theorem own : ownKnob Try.prog.godebug = none := by kernel_rfl
theorem laidOut : laidOutB Try.prog = true := by kernel_rfl

set_option linter.unusedVariables false in
set_option maxRecDepth 100000 in
theorem lifted (os : Os) (started : os.Started) (H : Type) (enc : TypeId × Value → H) :
    ReturnsInHanded {} Try.checked os 6 .any (Rows.blockOnceSpec.pre6 enc Try.prog Try.f6 Rows.blockOnceRow.domain false) (Rows.blockOnceSpec.post enc Try.prog Try.f6 false true false false) := by
  refine returnsInHanded_of_change (C := Try.checked) own started (by kernel_rfl) Try.func6
    (ChangeSpec.witness6 (enc := enc) (C := Try.checked) false ⟨#[], #[.slice none 0 0], []⟩ 8 (by kernel_rfl) (by kernel_rfl) (by kernel_rfl) (by kernel_rfl)) ?_
  intro W base args ds gs before hval0 hW hcnd _
  have hval : ∀ (j : Nat) t v, Try.f6.params[j]? = some t → args[j]? = some v → Value.okWide Try.prog W .any base t v := hval0
  have hW' := hW
  obtain ⟨p, q, hA0, hV, rfl, hfz, hnd⟩ := hW
  have hA : DataW.TrodAll enc Try.prog W 0 (fun _ => true) true Try.f6.params.toList args.toList ds p := hA0
  rw [Try.params6] at hA hval
  obtain ⟨v0, vs0, d0, ds0, p0, q0, hargs, rfl, rfl, h0, r0⟩ := trodAll_cons hA
  obtain ⟨rfl, rfl, rfl⟩ := trodAll_nil r0
  obtain rfl : args = #[v0] := by cases args; simp_all
  obtain ⟨rfl, rfl⟩ := trodVars_none hV
  obtain ⟨a0, len0, cap0, rfl⟩ := okWide_slice Try.underlying24 (hval 0 24 v0 rfl rfl)
  have k0 := h0
  have lt0 : ∀ x ∈ p0, x.block < W.heap.size := by obtain ⟨m, hm⟩ := k0; exact DataW.trod_lt m _ _ _ hm
  obtain ⟨l0, w0⟩ : ∃ l, Rd W (.slice a0 len0 cap0) l := by
    obtain ⟨fuel, hf⟩ := h0
    rcases open_ints Try.underlying24 Try.underlying5 (by kernel_rfl) hf with ⟨hcs, _⟩ | ⟨x, l, c, zs, hcs, _, hl, hm, hz, _, hcell, hwz⟩
    · simp [Value.cells] at hcs
      obtain ⟨rfl, rfl, rfl⟩ := hcs
      exact ⟨[], Rd.nil _⟩
    · simp [Value.cells] at hcs
      obtain ⟨rfl, rfl, rfl⟩ := hcs
      exact ⟨_, Rd.ofRow hl hm (by simpa using hz) hcell hwz⟩
  clear hA0 hval0
  refine (walk _ l0 W w0).mono fun e W' ⟨he, bel⟩ => ?_
  subst he
  exact ⟨_, rfl, _, _, _, [], _, [], hW', trodAll_mk1 (shut_bool Try.underlying4 _), (trodAll_cons_mk (Below.trod laidOut (by kernel_rfl) (of_decide_eq_true (by kernel_rfl)) k0 bel lt0) trodAll_mk0), rfl, bel.frame _, fun h => by cases h⟩

theorem over : Rows.blockOnceRow.holds Try.pinned (OpenSpec.ofChange Rows.blockOnceSpec) :=
  OpenClaim.holds_of_wide 6 Try.f6 rfl rfl rfl rfl rfl rfl rfl ⟨rfl, rfl, rfl, rfl, rfl⟩ rfl rfl rfl rfl rfl (by kernel_rfl) Try.func6 (by kernel_rfl)
    (of_decide_eq_true (by kernel_rfl)) (by unfold Func.isWrapper; first | (rw [if_pos (by decide +kernel)]; kernel_rfl) | (rw [if_neg (by decide +kernel)]; exact ⟨rfl, rfl⟩))
    (fun os started H enc _ => lifted os started H enc)

end Go.Proofs.Ytgmdhlchdjlgnaa.blockOnce
namespace Go.Proofs.Ytgmdhlchdjlgnaa

theorem blockOnce_holds : Rows.BlockOnceSaid := blockOnce.over

end Go.Proofs.Ytgmdhlchdjlgnaa
