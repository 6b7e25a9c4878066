/- Proved: for all bytes the law FrameDecodes answers true (and the call leaves all older memory as it was). No condition. -/
import Derived.Test.YtmlagndgccdelaaFrameAwake
import Derived.OpenShut
import Derived.ChangeOld
namespace Go.Proofs.Ytmlagndgccdelaa.frameDecodes
open Go.ChangeShapes Go.WideShapes Go.ChangeAt Go.RowKit

set_option maxRecDepth 100000 in
set_option maxHeartbeats 1000000 in
theorem walk (va : Value) (a : List UInt8) (w : World) (hra : Rd w va a) :
    Calls Try.prog 4 #[va] w fun e w' => e = .returned (.bool true) ∧ Below w.heap.size w w' := by
  have HA := hide (awake_any w)
  have HRA := hide hra
  obtain ⟨aa, capa, rfl, _, hcma, _, _⟩ := hra
  by_cases hl : (a.length : Int) ≤ 5000
  · have C1 := hide (fun w1 (hb : Below w.heap.size w w1) => decode_any _ a w1 (HRA.out.below hb (Nat.le_refl _)))
    have C2 := hide (fun w1 (hb : Below w.heap.size w w1) => refDecode_any _ a w1 (HRA.out.below hb (Nat.le_refl _)))
    have C3 := hide (fun w1 (hb : Below w.heap.size w w1) => all_any _ a w1 (HRA.out.below hb (Nat.le_refl _)) (by omega))
    have C4 := hide (fun w1 (hb : Below w.heap.size w w1) => refAll_any _ a w1 (HRA.out.below hb (Nat.le_refl _)) (by omega))
    have C5 := hide (fun w1 (hb : Below w.heap.size w w1) => whole_any _ a w1 (HRA.out.below hb (Nat.le_refl _)) (by omega))
    have C6 := hide (fun w1 (hb : Below w.heap.size w w1) => refWhole_any _ a w1 (HRA.out.below hb (Nat.le_refl _)) (by omega))
    have C7 : Hid (∀ (L : List (List UInt8)) va vb w, RdL w va L → RdL w vb L → Calls Try.prog 20 #[va, vb] w fun e w' => e = .returned (.bool true) ∧ Below w.heap.size w w') := by
      intro L va vb w h1 h2
      have := refSame_any va L vb L w h1 h2
      rwa [decide_eq_true rfl] at this
    go_enter Try.func4, Try.ntmps4
    go_wp2_with fail
    refine HA.out.mono ?_
    rintro e w1 ⟨rfl, hb⟩
    have HB1 := hide hb
    clear hb HA
    go_wp2_with fail
    refine (C1.out _ HB1.out).mono ?_
    rintro e w2 ⟨v2, rfl, ho2, hb2⟩
    have HB2 := hide (HB1.out.trans (hb2.mono HB1.out.size))
    have HR2 := hide ho2.rd
    clear hb2 ho2 C1
    go_wp2_with fail
    refine (C2.out _ HB2.out).mono ?_
    rintro e w3 ⟨v3, rfl, ho3, hb3⟩
    have HB3 := hide (HB2.out.trans (hb3.mono HB2.out.size))
    have HR23 := hide (HR2.out.below hb3 (Nat.le_refl _))
    have HR3 := hide ho3.rd
    clear hb3 ho3 C2 HR2
    generalize (decF a).1 = x at *
    generalize (decF a).2.1 = n at *
    generalize (decF a).2.2 = c at *
    go_wp2_with fail
    refine (C3.out _ HB3.out).mono ?_
    rintro e w4 ⟨v4, rfl, ho4, hb4⟩
    have HB4 := hide (HB3.out.trans (hb4.mono HB3.out.size))
    have HR24 := hide (HR23.out.below hb4 (Nat.le_refl _))
    have HR34 := hide (HR3.out.below hb4 (Nat.le_refl _))
    have HL4 := hide ho4
    clear hb4 ho4 C3 HR23 HR3
    go_wp2_with fail
    refine (C4.out _ HB4.out).mono ?_
    rintro e w5 ⟨v5, rfl, ho5, hb5⟩
    have HB5 := hide (HB4.out.trans (hb5.mono HB4.out.size))
    have HR25 := hide (HR24.out.below hb5 (Nat.le_refl _))
    have HR35 := hide (HR34.out.below hb5 (Nat.le_refl _))
    have HL45 := hide (HL4.out.below hb5 (Nat.le_refl _))
    have HL5 := hide ho5.rd
    clear hb5 ho5 C4 HR24 HR34 HL4
    generalize (allF a).1 = L at *
    generalize (allF a).2 = d at *
    go_wp2_with fail
    refine (C5.out _ HB5.out).mono ?_
    rintro e w6 ⟨v6, rfl, ho6, hb6⟩
    have HB6 := hide (HB5.out.trans (hb6.mono HB5.out.size))
    have HR26 := hide (HR25.out.below hb6 (Nat.le_refl _))
    have HR36 := hide (HR35.out.below hb6 (Nat.le_refl _))
    have HL46 := hide (HL45.out.below hb6 (Nat.le_refl _))
    have HL56 := hide (HL5.out.below hb6 (Nat.le_refl _))
    have HL6 := hide ho6
    clear hb6 ho6 C5 HR25 HR35 HL45 HL5
    go_wp2_with fail
    refine (C6.out _ HB6.out).mono ?_
    rintro e w7 ⟨v7, rfl, ho7, hb7⟩
    have HB7 := hide (HB6.out.trans (hb7.mono HB6.out.size))
    have HR27 := hide (HR26.out.below hb7 (Nat.le_refl _))
    have HR37 := hide (HR36.out.below hb7 (Nat.le_refl _))
    have HL47 := hide (HL46.out.below hb7 (Nat.le_refl _))
    have HL57 := hide (HL56.out.below hb7 (Nat.le_refl _))
    have HL67 := hide (HL6.out.below hb7 (Nat.le_refl _))
    have HL7 := hide ho7.rd
    clear hb7 ho7 C6 HR26 HR36 HL46 HL56 HL6
    generalize (wholeF a).1 = M at *
    generalize (wholeF a).2.1 = q at *
    generalize (wholeF a).2.2 = r at *
    go_wp2_with fail
    refine (C7.out L _ _ _ HL47.out HL57.out).mono ?_
    rintro e w8 ⟨rfl, hb8⟩
    have HB8 := hide (HB7.out.trans (hb8.mono HB7.out.size))
    have HR28 := hide (HR27.out.below hb8 (Nat.le_refl _))
    have HR38 := hide (HR37.out.below hb8 (Nat.le_refl _))
    have HL68 := hide (HL67.out.below hb8 (Nat.le_refl _))
    have HL78 := hide (HL7.out.below hb8 (Nat.le_refl _))
    clear hb8 HR27 HR37 HL47 HL57 HL67 HL7
    go_wp2_with fail
    refine (C7.out M _ _ _ HL68.out HL78.out).mono ?_
    rintro e w9 ⟨rfl, hb9⟩
    have HB9 := hide (HB8.out.trans (hb9.mono HB8.out.size))
    have hc2 := (HR28.out.below hb9 (Nat.le_refl _)).str
    have hc3 := (HR38.out.below hb9 (Nat.le_refl _)).str
    clear hb9 HR28 HR38 HL68 HL78 C7
    go_wp2
    go_ret
    exact ⟨rfl, HB9.out⟩
  · go_enter Try.func4, Try.ntmps4
    go_wp2_with fail
    refine HA.out.mono ?_
    rintro e w1 ⟨rfl, hb⟩
    have HB1 := hide hb
    clear hb HA
    go_wp2
    go_ret
    exact ⟨rfl, HB1.out⟩

theorem own : ownKnob Try.prog.godebug = none := by kernel_rfl
theorem laidOut : laidOutB Try.prog = true := by kernel_rfl

set_option linter.unusedVariables false in
set_option maxRecDepth 100000 in
theorem lifted (os : Os) (started : os.Started) (H : Type) (enc : TypeId × Value → H) :
    ReturnsInHanded {} Try.checked os 4 .any (Rows.frameDecodesSpec.pre6 enc Try.prog Try.f4 Rows.frameDecodesRow.domain false) (Rows.frameDecodesSpec.post enc Try.prog Try.f4 false true false false) := by
  refine returnsInHanded_of_change (C := Try.checked) own started (by kernel_rfl) Try.func4
    (ChangeSpec.witness6 (enc := enc) (C := Try.checked) false ⟨#[], #[.slice none 0 0], []⟩ 8 (by kernel_rfl) (by kernel_rfl) (by kernel_rfl) (by kernel_rfl)) ?_
  intro W base args ds gs before hval0 hW hcnd _
  have hval : ∀ (j : Nat) t v, Try.f4.params[j]? = some t → args[j]? = some v → Value.okWide Try.prog W .any base t v := hval0
  have hW' := hW
  obtain ⟨p, q, hA0, hV, rfl, hfz, hnd⟩ := hW
  have hA : DataW.TrodAll enc Try.prog W 0 (fun _ => true) true Try.f4.params.toList args.toList ds p := hA0
  rw [Try.params4] at hA hval
  obtain ⟨v0, vs0, d0, ds0, p0, q0, hargs, rfl, rfl, h0, r0⟩ := trodAll_cons hA
  obtain ⟨rfl, rfl, rfl⟩ := trodAll_nil r0
  obtain rfl : args = #[v0] := by cases args; simp_all
  obtain ⟨rfl, rfl⟩ := trodVars_none hV
  obtain ⟨a0, len0, cap0, rfl⟩ := okWide_slice Try.underlying22 (hval 0 22 v0 rfl rfl)
  have k0 := h0
  have lt0 : ∀ x ∈ p0, x.block < W.heap.size := by obtain ⟨m, hm⟩ := k0; exact DataW.trod_lt m _ _ _ hm
  obtain ⟨l0, w0⟩ : ∃ l, Rd W (.slice a0 len0 cap0) l := by
    obtain ⟨fuel, hf⟩ := h0
    rcases open_ints Try.underlying22 Try.underlying5 (by kernel_rfl) hf with ⟨hcs, _⟩ | ⟨x, l, c, zs, hcs, _, hl, hm, hz, _, hcell, hwz⟩
    · simp [Value.cells] at hcs
      obtain ⟨rfl, rfl, rfl⟩ := hcs
      exact ⟨[], Rd.nil _⟩
    · simp [Value.cells] at hcs
      obtain ⟨rfl, rfl, rfl⟩ := hcs
      exact ⟨_, Rd.ofRow hl hm (by simpa using hz) hcell hwz⟩
  clear hA0 hval0
  refine (walk _ l0 W w0).mono fun e W' ⟨he, bel⟩ => ?_
  subst he
  exact ⟨_, rfl, _, _, _, [], _, [], hW', trodAll_mk1 (shut_bool Try.underlying4 _), (trodAll_cons_mk (Below.trod laidOut (by kernel_rfl) (of_decide_eq_true (by kernel_rfl)) k0 bel lt0) trodAll_mk0), rfl, bel.frame _, fun h => by cases h⟩

theorem over : Rows.frameDecodesRow.holds Try.pinned (OpenSpec.ofChange Rows.frameDecodesSpec) :=
  OpenClaim.holds_of_wide 4 Try.f4 rfl rfl rfl rfl rfl rfl rfl ⟨rfl, rfl, rfl, rfl, rfl⟩ rfl rfl rfl rfl rfl (by kernel_rfl) Try.func4 (by kernel_rfl)
    (of_decide_eq_true (by kernel_rfl)) (by unfold Func.isWrapper; first | (rw [if_pos (by decide +kernel)]; kernel_rfl) | (rw [if_neg (by decide +kernel)]; exact ⟨rfl, rfl⟩))
    (fun os started H enc _ => lifted os started H enc)

end Go.Proofs.Ytmlagndgccdelaa.frameDecodes
namespace Go.Proofs.Ytmlagndgccdelaa

theorem frameDecodes_holds : Rows.FrameDecodesSaid := frameDecodes.over

end Go.Proofs.Ytmlagndgccdelaa
