/- Proved: for all inputs the law DeltaOnce answers true (and the call leaves all older memory as it was). No condition. -/
import Derived.Test.YtgpdbboieokldaaDeltaTwo
import Derived.Test.YtgpdbboieokldaaDeltaDec
import Derived.Test.YtgpdbboieokldaaDeltaEnc
import Derived.OpenShut
import Derived.ChangeOld
namespace Go.Proofs.Ytgpdbboieokldaa.deltaOnce
open Go.ChangeShapes Go.WideShapes Go.ChangeAt Go.RowKit

set_option maxRecDepth 100000 in
set_option maxHeartbeats 4000000 in
theorem walk (v : Value) (l : List UInt8) (w : World) (hr : Rd w v l) :
    Calls Try.prog 6 #[v] w fun e w' => e = .returned (.bool true) ∧ Below w.heap.size w w' := by
  have HA := hide (fun w => awake10_any w)
  have HR := hide hr
  obtain ⟨ao, cap, rfl, hlc, hcm, -⟩ := hr
  have hmlao : (l.length : Int) ≤ 9223372036854775807 := by unfold maxLen at hcm; omega
  clear hlc hcm
  by_cases hln : (l.length : Int) ≤ 3000
  case neg =>
    have hln' : 3000 < (l.length : Int) := by omega
    clear hln
    go_enter Try.func6, Try.ntmps6
    go_wp2_with fail
    refine (HA.out _).mono ?_
    rintro e W1 ⟨rfl, hb1⟩
    have HB1 := hide hb1
    clear hb1 HA
    go_wp2
    go_ret
    exact ⟨rfl, HB1.out⟩
  have hln' : ¬ (3000 < (l.length : Int)) := by omega
  have HDE := hide (fun W (h : Rd W (.slice ao l.length cap) l) => (decodeD_any _ l W h (by omega)).mono fun _ _ h => h.dl)
  have HSO := hide (decD_sound (b := l))
  have HEN := hide (fun v s W h => encodeD_any v s W h)
  unfold EncodedD at HEN
  generalize decD l = R at *
  obtain ⟨s, er⟩ := R
  dsimp only at HDE HSO
  clear hln
  go_enter Try.func6, Try.ntmps6
  go_wp2_with fail
  refine (HA.out _).mono ?_
  rintro e W1 ⟨rfl, hb1⟩
  have HB1 := hide hb1
  clear hb1 HA
  go_wp2_with fail
  refine (HDE.out _ (HR.out.below HB1.out (Nat.le_refl _))).mono ?_
  rintro e W2 ⟨v2, rfl, hs2, hb2⟩
  obtain ⟨la2, lc2, ta2, tc2, hv2, -, -⟩ := hs2.shape
  subst hv2
  have HS2 := hide hs2
  have HB2 := hide (HB1.out.trans (hb2.mono HB1.out.size))
  have HBA : Hid (∀ X, Below W2.heap.size W2 (W2.alloc X)) := fun X => (Below.refl _ _).alloc (Nat.le_refl _) X
  clear hs2 hb2 HB1 HDE
  by_cases h0 : er = 0
  case neg =>
    have hne : (er != 0) = true := by rw [bne_iff_ne]; exact h0
    have HBF := hide (fun X => HB2.out.trans ((HBA.out X).mono HB2.out.size))
    clear h0 HSO HBA
    go_wp2
    go_ret
    exact ⟨rfl, HBF.out _⟩
  subst h0
  obtain ⟨hm, he⟩ := HSO.out rfl
  have HE2 := hide (fun v W h => HEN.out v s W h)
  simp only [if_pos hm, he] at HE2
  clear hm he HSO HEN
  go_wp2_with fail
  refine (HE2.out _ _ (HS2.out.below (HBA.out _) (Nat.le_refl _))).mono ?_
  rintro e W3 ⟨v3, rfl, ho3, hb3⟩
  have hs3 := ho3.rd.str
  have hb23 : Below W2.heap.size W2 W3 := (HBA.out _).trans (hb3.mono (HBA.out _).size)
  have HB3 := hide (HB2.out.trans (hb23.mono HB2.out.size))
  have hs0 := (HR.out.below HB3.out (Nat.le_refl _)).str
  clear ho3 hb3 hb23 HB2 HS2 HE2 HBA
  go_wp2
  go_ret
  exact ⟨rfl, HB3.out⟩

theorem own : ownKnob Try.prog.godebug = none := by kernel_rfl
theorem laidOut : laidOutB Try.prog = true := by kernel_rfl

set_option linter.unusedVariables false in
set_option maxRecDepth 100000 in
theorem lifted (os : Os) (started : os.Started) (H : Type) (enc : TypeId × Value → H) :
    ReturnsInHanded {} Try.checked os 6 .any (Rows.deltaOnceSpec.pre6 enc Try.prog Try.f6 Rows.deltaOnceRow.domain false) (Rows.deltaOnceSpec.post enc Try.prog Try.f6 false true false false) := by
  refine returnsInHanded_of_change (C := Try.checked) own started (by kernel_rfl) Try.func6
    (ChangeSpec.witness6 (enc := enc) (C := Try.checked) false ⟨#[], #[.slice none 0 0], []⟩ 8 (by kernel_rfl) (by kernel_rfl) (by kernel_rfl) (by kernel_rfl)) ?_
  intro W base args ds gs before hval0 hW hcnd _
  have hval : ∀ (j : Nat) t v, Try.f6.params[j]? = some t → args[j]? = some v → Value.okWide Try.prog W .any base t v := hval0
  have hW' := hW
  obtain ⟨p, q, hA0, hV, rfl, hfz, hnd⟩ := hW
  have hA : DataW.TrodAll enc Try.prog W 0 (fun _ => true) true Try.f6.params.toList args.toList ds p := hA0
  rw [Try.params6] at hA hval
  obtain ⟨v0, vs0, d0, ds0, p0, q0, hargs, rfl, rfl, h0, r0⟩ := trodAll_cons hA
  obtain ⟨rfl, rfl, rfl⟩ := trodAll_nil r0
  obtain rfl : args = #[v0] := by cases args; simp_all
  obtain ⟨rfl, rfl⟩ := trodVars_none hV
  obtain ⟨a0, len0, cap0, rfl⟩ := okWide_slice Try.underlying41 (hval 0 41 v0 rfl rfl)
  have k0 := h0
  have lt0 : ∀ x ∈ p0, x.block < W.heap.size := by obtain ⟨m, hm⟩ := k0; exact DataW.trod_lt m _ _ _ hm
  obtain ⟨l0, w0⟩ : ∃ l, Rd W (.slice a0 len0 cap0) l := by
    obtain ⟨fuel, hf⟩ := h0
    rcases open_ints Try.underlying41 Try.underlying5 (by kernel_rfl) hf with ⟨hcs, _⟩ | ⟨x, l, c, zs, hcs, _, hl, hm, hz, _, hcell, hwz⟩
    · simp [Value.cells] at hcs
      obtain ⟨rfl, rfl, rfl⟩ := hcs
      exact ⟨[], Rd.nil _⟩
    · simp [Value.cells] at hcs
      obtain ⟨rfl, rfl, rfl⟩ := hcs
      exact ⟨_, Rd.ofRow hl hm (by simpa using hz) hcell hwz⟩
  clear hA0 hval0
  refine (walk _ l0 W w0).mono fun e W' ⟨he, bel⟩ => ?_
  subst he
  exact ⟨_, rfl, _, _, _, [], _, [], hW', trodAll_mk1 (shut_bool Try.underlying4 _), (trodAll_cons_mk (Below.trod laidOut (by kernel_rfl) (of_decide_eq_true (by kernel_rfl)) k0 bel lt0) trodAll_mk0), rfl, bel.frame _, fun h => by cases h⟩

theorem over : Rows.deltaOnceRow.holds Try.pinned (OpenSpec.ofChange Rows.deltaOnceSpec) :=
  OpenClaim.holds_of_wide 6 Try.f6 rfl rfl rfl rfl rfl rfl rfl ⟨rfl, rfl, rfl, rfl, rfl⟩ rfl rfl rfl rfl rfl (by kernel_rfl) Try.func6 (by kernel_rfl)
    (of_decide_eq_true (by kernel_rfl)) (by unfold Func.isWrapper; first | (rw [if_pos (by decide +kernel)]; kernel_rfl) | (rw [if_neg (by decide +kernel)]; exact ⟨rfl, rfl⟩))
    (fun os started H enc _ => lifted os started H enc)

end Go.Proofs.Ytgpdbboieokldaa.deltaOnce
namespace Go.Proofs.Ytgpdbboieokldaa

theorem deltaOnce_holds : Rows.DeltaOnceSaid := deltaOnce.over

end Go.Proofs.Ytgpdbboieokldaa
