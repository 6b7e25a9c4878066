/- Proved: for all lists of records, cuts and bytes the law BlockCuts answers true (and the call leaves all older memory as it was). No condition. -/
import Derived.Test.YtgmdhlchdjlgnaaBlockAwake
import Derived.Test.YtgmdhlchdjlgnaaOpenBlock
import Derived.OpenShut
import Derived.ChangeOld
namespace Go.Proofs.Ytgmdhlchdjlgnaa.blockCuts
open Go.ChangeShapes Go.WideShapes Go.ChangeAt Go.RowKit

set_option maxRecDepth 100000 in
set_option maxHeartbeats 2000000 in
theorem walk (v : Value) (l : List Rec) (c : Int) (vm : Value) (M : List UInt8) (w : World) (hr : RdR w v l) (_hc : (Lit.int .i64 c).wf = true) (hm : Rd w vm M) :
    Calls Try.prog 7 #[v, .int .i64 c, vm] w fun e w' => e = .returned (.bool true) ∧ Below w.heap.size w w' := by
  have HA := hide (fun w => awake7_any w)
  have HR := hide hr
  have HM := hide hm
  obtain ⟨ao, cap, rfl, hlc, hcm, -⟩ := hr
  have hmlao : (l.length : Int) ≤ 9223372036854775807 := by unfold maxLen at hcm; omega
  clear hlc hcm
  obtain ⟨am, cm, rfl, hlc, hcm, -⟩ := hm
  have hmlam : (M.length : Int) ≤ 9223372036854775807 := by unfold maxLen at hcm; omega
  clear hlc hcm
  by_cases hln : (l.length : Int) ≤ 300
  case neg =>
    have hln' : 300 < (l.length : Int) := by omega
    clear hln
    go_enter Try.func7, Try.ntmps7
    go_wp2_with fail
    refine (HA.out _).mono ?_
    rintro e W1 ⟨rfl, hb1⟩
    have HB1 := hide hb1
    clear hb1 HA
    go_wp2
    go_ret
    exact ⟨rfl, HB1.out⟩
  have hln' : ¬ (300 < (l.length : Int)) := by omega
  by_cases hlm : (M.length : Int) ≤ 100
  case neg =>
    have hlm' : 100 < (M.length : Int) := by omega
    clear hlm
    go_enter Try.func7, Try.ntmps7
    go_wp2_with fail
    refine (HA.out _).mono ?_
    rintro e W1 ⟨rfl, hb1⟩
    have HB1 := hide hb1
    clear hb1 HA
    go_wp2
    go_ret
    exact ⟨rfl, HB1.out⟩
  have hlm' : ¬ (100 < (M.length : Int)) := by omega
  have HEN := hide (fun W (h : RdR W (.slice ao l.length cap) l) => blockEncode_any _ l W h (by omega))
  have HDE := hide (fun W v1 E (h : Rd W v1 E) (hl : E.length ≤ 100000) => blockDecode_any v1 E W h hl)
  unfold EncodedB at HEN
  unfold DecodedB at HDE
  clear hln
  by_cases hf : FitsB l
  case neg =>
    simp only [if_neg hf] at HEN
    clear hf
    go_enter Try.func7, Try.ntmps7
    go_wp2_with fail
    refine (HA.out _).mono ?_
    rintro e W1 ⟨rfl, hb1⟩
    have HB1 := hide hb1
    clear hb1 HA
    go_wp2_with fail
    refine (HEN.out _ (HR.out.below HB1.out (Nat.le_refl _))).mono ?_
    rintro e W2 ⟨v2, rfl, ho2, hb2⟩
    have HB2 := hide (HB1.out.trans (hb2.mono HB1.out.size))
    clear ho2 hb2 HB1 HEN
    go_wp2
    go_ret
    exact ⟨rfl, HB2.out⟩
  simp only [if_pos hf] at HEN
  have hEl : (encB l).length ≤ 20000 := encB_len2 hf
  have HMO : Hid (∀ x n, DecB (encB l ++ M) x n → (n == 0) = decide (M.length = 0)) := hide (fun x n h => by
    by_cases hM : M = []
    · rw [hM, List.append_nil] at h
      obtain ⟨-, rfl⟩ := h.unique (.inl ⟨rfl, hf, rfl⟩)
      rw [hM]
      rfl
    · obtain ⟨-, rfl⟩ := h.unique (.inr ⟨rfl, rfl, fun l' h1 h2 => encB_more hf h1 hM h2⟩)
      have : M.length ≠ 0 := by simpa using hM
      rw [decide_eq_false this]
      rfl)
  have HCU : Hid (0 ≤ c → c < ((encB l).length : Int) → ∀ x n, DecB ((encB l).take c.toNat) x n → n = 3) := hide (fun h0 h1 x n h => (h.unique (.inr ⟨rfl, rfl, fun l' h2 h3 => encB_cut hf h2 (by omega) h3⟩)).2)
  clear hf
  generalize encB l = E at *
  go_enter Try.func7, Try.ntmps7
  go_wp2_with fail
  refine (HA.out _).mono ?_
  rintro e W1 ⟨rfl, hb1⟩
  have HB1 := hide hb1
  clear hb1 HA
  go_wp2_with fail
  refine (HEN.out _ (HR.out.below HB1.out (Nat.le_refl _))).mono ?_
  rintro e W2 ⟨v2, rfl, ho2, hb2⟩
  have HO2 := hide ho2.rd
  obtain ⟨a2, c2, rfl, -⟩ := ho2.rd
  have HB2 := hide (HB1.out.trans (hb2.mono HB1.out.size))
  clear ho2 hb2 HB1 HEN
  go_wp2_with (at_builtin; refine wpList_append_rd _ rfl _ _ rfl W2.heap.size _ [] rfl (Own.nil _ _) _ E rfl HO2.out (by simp; omega) (by simp) ?_)
  intro v4 W4 ho4 hb4
  have HO4 : Hid (Own W4 W2.heap.size v4 E) := ho4
  have HB4 := hide (HB2.out.trans (hb4.mono HB2.out.size))
  have HM4 := hide (HM.out.below HB4.out (Nat.le_refl _))
  have HS4 : Hid (W2.heap.size ≤ W4.heap.size) := hide hb4.size
  have HBX := hide hb4
  clear ho4 hb4
  go_wp2_with (at_builtin; refine wpList_append_rd _ rfl _ _ rfl W2.heap.size _ E rfl HO4.out _ M rfl HM4.out (by omega) HS4.out ?_)
  intro v5 W5 ho5 hb5
  have HO5 : Hid (Rd W5 v5 (E ++ M)) := hide ho5.rd
  have HE5 := hide (HO2.out.below (Below.trans (B := W2.heap.size) HBX.out hb5) (Nat.le_refl _))
  have HB5 := hide (HB4.out.trans (hb5.mono HB2.out.size))
  clear ho5 hb5 HO4 HBX HM4
  have HLM : Hid ((E ++ M).length ≤ 100000) := hide (by rw [List.length_append]; omega)
  go_wp2_with fail
  refine (HDE.out _ _ _ HO5.out HLM.out).mono ?_
  rintro e W6 ⟨v6, x6, n6, rfl, hr6, hd6, hb6⟩
  have hn6 := HMO.out _ _ hd6
  have HE6 := hide (HE5.out.below hb6 (Nat.le_refl _))
  have HB6 := hide (HB5.out.trans (hb6.mono HB5.out.size))
  clear hr6 hd6 hb6 HO5 HB5 HE5 HLM HMO
  have hMM : ((M.length : Int) == 0) = decide (M.length = 0) := by
    by_cases h : M.length = 0
    · rw [h]; rfl
    · rw [decide_eq_false h, beq_eq_false_iff_ne]; omega
  generalize decide (M.length = 0) = bM at *
  cases bM
  · skip
    by_cases h0 : 0 ≤ c
    case neg =>
      have h0' : c < 0 := by omega
      go_wp2
      go_ret
      exact ⟨rfl, HB6.out⟩
    by_cases h1 : c < (E.length : Int)
    case neg =>
      have h1' : (E.length : Int) ≤ c := by omega
      go_wp2
      go_ret
      exact ⟨rfl, HB6.out⟩
    have HC := hide (run_cut_h W6 _ E HE6.out .i64 c h0 (by omega))
    have HC3 := hide (HCU.out h0 h1)
    go_wp2_with (refine wpList_cut _ rfl _ _ _ _ rfl _ HC.out ?_)
    intro v7 hr7
    have HR7 := hide hr7
    clear hr7
    have HL7 : Hid ((E.take c.toNat).length ≤ 100000) := hide (by rw [List.length_take]; omega)
    go_wp2_with fail
    refine (HDE.out _ _ _ HR7.out HL7.out).mono ?_
    rintro e W8 ⟨v8, x8, n8, rfl, hr8, hd8, hb8⟩
    obtain rfl := HC3.out _ _ hd8
    have HB8 := hide (HB6.out.trans (hb8.mono HB6.out.size))
    clear hr8 hd8 hb8
    go_wp2
    go_ret
    exact ⟨rfl, HB8.out⟩
  · skip
    by_cases h0 : 0 ≤ c
    case neg =>
      have h0' : c < 0 := by omega
      go_wp2
      go_ret
      exact ⟨rfl, HB6.out⟩
    by_cases h1 : c < (E.length : Int)
    case neg =>
      have h1' : (E.length : Int) ≤ c := by omega
      go_wp2
      go_ret
      exact ⟨rfl, HB6.out⟩
    have HC := hide (run_cut_h W6 _ E HE6.out .i64 c h0 (by omega))
    have HC3 := hide (HCU.out h0 h1)
    go_wp2_with (refine wpList_cut _ rfl _ _ _ _ rfl _ HC.out ?_)
    intro v7 hr7
    have HR7 := hide hr7
    clear hr7
    have HL7 : Hid ((E.take c.toNat).length ≤ 100000) := hide (by rw [List.length_take]; omega)
    go_wp2_with fail
    refine (HDE.out _ _ _ HR7.out HL7.out).mono ?_
    rintro e W8 ⟨v8, x8, n8, rfl, hr8, hd8, hb8⟩
    obtain rfl := HC3.out _ _ hd8
    have HB8 := hide (HB6.out.trans (hb8.mono HB6.out.size))
    clear hr8 hd8 hb8
    go_wp2
    go_ret
    exact ⟨rfl, HB8.out⟩

theorem own : ownKnob Try.prog.godebug = none := by kernel_rfl
theorem laidOut : laidOutB Try.prog = true := by kernel_rfl

set_option linter.unusedVariables false in
set_option maxRecDepth 100000 in
theorem lifted (os : Os) (started : os.Started) (H : Type) (enc : TypeId × Value → H) :
    ReturnsInHanded {} Try.checked os 7 .any (Rows.blockCutsSpec.pre6 enc Try.prog Try.f7 Rows.blockCutsRow.domain false) (Rows.blockCutsSpec.post enc Try.prog Try.f7 false true false false) := by
  refine returnsInHanded_of_change (C := Try.checked) own started (by kernel_rfl) Try.func7
    (ChangeSpec.witness6 (enc := enc) (C := Try.checked) false ⟨#[], #[.slice none 0 0, .int .i64 0, .slice none 0 0], []⟩ 8 (by kernel_rfl) (by kernel_rfl) (by kernel_rfl) (by kernel_rfl)) ?_
  intro W base args ds gs before hval0 hW hcnd _
  have hval : ∀ (j : Nat) t v, Try.f7.params[j]? = some t → args[j]? = some v → Value.okWide Try.prog W .any base t v := hval0
  have hW' := hW
  obtain ⟨p, q, hA0, hV, rfl, hfz, hnd⟩ := hW
  have hA : DataW.TrodAll enc Try.prog W 0 (fun _ => true) true Try.f7.params.toList args.toList ds p := hA0
  rw [Try.params7] at hA hval
  obtain ⟨v0, vs0, d0, ds0, p0, q0, hargs, rfl, rfl, h0, r0⟩ := trodAll_cons hA
  obtain ⟨v1, vs1, d1, ds1, p1, q1, rfl, rfl, rfl, h1, r1⟩ := trodAll_cons r0
  obtain ⟨v2, vs2, d2, ds2, p2, q2, rfl, rfl, rfl, h2, r2⟩ := trodAll_cons r1
  obtain ⟨rfl, rfl, rfl⟩ := trodAll_nil r2
  obtain rfl : args = #[v0, v1, v2] := by cases args; simp_all
  obtain ⟨rfl, rfl⟩ := trodVars_none hV
  obtain ⟨a0, len0, cap0, rfl⟩ := okWide_slice Try.underlying22 (hval 0 22 v0 rfl rfl)
  have k0 := h0
  have lt0 : ∀ x ∈ p0, x.block < W.heap.size := by obtain ⟨m, hm⟩ := k0; exact DataW.trod_lt m _ _ _ hm
  obtain ⟨l0, w0⟩ : ∃ l, RdR W (.slice a0 len0 cap0) l := by
    obtain ⟨fuel, hf⟩ := h0
    obtain ⟨v, l, hcs, hr⟩ := open_recs hf
    simp [Value.cells] at hcs
    subst hcs
    exact ⟨l, hr⟩
  obtain ⟨a1, rfl, rfl, rfl, w1⟩ := open_int Try.underlying3 (hval 1 3 v1 rfl rfl) h1
  obtain ⟨a2, len2, cap2, rfl⟩ := okWide_slice Try.underlying24 (hval 2 24 v2 rfl rfl)
  have k2 := h2
  have lt2 : ∀ x ∈ p2, x.block < W.heap.size := by obtain ⟨m, hm⟩ := k2; exact DataW.trod_lt m _ _ _ hm
  obtain ⟨l2, w2⟩ : ∃ l, Rd W (.slice a2 len2 cap2) l := by
    obtain ⟨fuel, hf⟩ := h2
    rcases open_ints Try.underlying24 Try.underlying5 (by kernel_rfl) hf with ⟨hcs, _⟩ | ⟨x, l, c, zs, hcs, _, hl, hm, hz, _, hcell, hwz⟩
    · simp [Value.cells] at hcs
      obtain ⟨rfl, rfl, rfl⟩ := hcs
      exact ⟨[], Rd.nil _⟩
    · simp [Value.cells] at hcs
      obtain ⟨rfl, rfl, rfl⟩ := hcs
      exact ⟨_, Rd.ofRow hl hm (by simpa using hz) hcell hwz⟩
  clear hA0 hval0
  refine (walk _ l0 a1 _ l2 W w0 w1 w2).mono fun e W' ⟨he, bel⟩ => ?_
  subst he
  exact ⟨_, rfl, _, _, _, [], _, [], hW', trodAll_mk1 (shut_bool Try.underlying4 _), (trodAll_cons_mk (Below.trod laidOut (by kernel_rfl) (of_decide_eq_true (by kernel_rfl)) k0 bel lt0) (trodAll_cons_mk (shut_int Try.underlying3 w1) (trodAll_cons_mk (Below.trod laidOut (by kernel_rfl) (of_decide_eq_true (by kernel_rfl)) k2 bel lt2) trodAll_mk0))), rfl, bel.frame _, fun h => by cases h⟩

theorem over : Rows.blockCutsRow.holds Try.pinned (OpenSpec.ofChange Rows.blockCutsSpec) :=
  OpenClaim.holds_of_wide 7 Try.f7 rfl rfl rfl rfl rfl rfl rfl ⟨rfl, rfl, rfl, rfl, rfl⟩ rfl rfl rfl rfl rfl (by kernel_rfl) Try.func7 (by kernel_rfl)
    (of_decide_eq_true (by kernel_rfl)) (by unfold Func.isWrapper; first | (rw [if_pos (by decide +kernel)]; kernel_rfl) | (rw [if_neg (by decide +kernel)]; exact ⟨rfl, rfl⟩))
    (fun os started H enc _ => lifted os started H enc)

end Go.Proofs.Ytgmdhlchdjlgnaa.blockCuts
namespace Go.Proofs.Ytgmdhlchdjlgnaa

theorem blockCuts_holds : Rows.BlockCutsSaid := blockCuts.over

end Go.Proofs.Ytgmdhlchdjlgnaa
