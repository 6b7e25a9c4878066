/- Proved: for every two numbers the law NumZigs answers true (and the call leaves all older memory as it was). No condition. -/
import Derived.Test.YtblfmhkpogjokabNumAwake
import Derived.OpenShut
import Derived.ChangeOld
namespace Go.Proofs.Ytblfmhkpogjokab.numZigs
open Go.ChangeShapes Go.WideShapes Go.ChangeAt Go.RowKit

theorem i64_bd {n : Int} (h : (Lit.int .i64 n).wf = true) : -9223372036854775808 ≤ n ∧ n ≤ 9223372036854775807 := by
  simpa [Lit.wf, IntKind.min, IntKind.max, IntKind.signed, IntKind.bits] using h

theorem zig_some (n : Int) (h0 : -9223372036854775808 ≤ n) (h1 : n ≤ 9223372036854775807) :
    ∃ Z : Int, 0 ≤ Z ∧ Z < 18446744073709551616 ∧ Hid (Z = ((Lib.zigzag n : Nat) : Int)) ∧ Hid (∀ w : World, Calls Try.prog 5 #[.int .i64 n] w fun e w' => e = .returned (.int .u64 Z) ∧ w' = w) :=
  ⟨_, by omega, by have := Lib.zigzag_lt h0 h1; omega, rfl, fun w => zig_any n w h0 h1⟩

theorem zz_neg (a : Int) (h : 0 ≤ a) : ((Lib.zigzag (-a - 1) : Nat) : Int) = ((Lib.zigzag a : Nat) : Int) + 1 := by
  unfold Lib.zigzag
  rw [if_neg (by omega), if_pos h]
  omega

theorem zz_inj (a b : Int) : ((Lib.zigzag a : Nat) : Int) = ((Lib.zigzag b : Nat) : Int) ↔ a = b := by
  unfold Lib.zigzag
  constructor
  · intro h
    split at h <;> split at h <;> omega
  · intro h
    rw [h]

theorem zz_odd (a : Int) : ((Lib.zigzag a : Nat) : Int) % 2 = 1 ↔ a < 0 := by
  unfold Lib.zigzag
  split <;> omega

set_option maxRecDepth 100000 in
set_option maxHeartbeats 1000000 in
theorem walk (a b : Int) (w : World) (w0 : (Lit.int .i64 a).wf = true) (w1 : (Lit.int .i64 b).wf = true) :
    Calls Try.prog 3 #[.int .i64 a, .int .i64 b] w fun e w' => e = .returned (.bool true) ∧ Below w.heap.size w w' := by
  obtain ⟨ha0, ha1⟩ := i64_bd w0
  obtain ⟨hb0, hb1⟩ := i64_bd w1
  clear w0 w1
  have HA := hide (awake_any w)
  obtain ⟨Z, hZ0, hZ1, EZ, HZ⟩ := zig_some a ha0 ha1
  obtain ⟨Y, hY0, hY1, EY, HY⟩ := zig_some b hb0 hb1
  have hinj : (Z == Y) = (a == b) := by
    have h := zz_inj a b
    rw [← EZ.out, ← EY.out] at h
    rw [Bool.eq_iff_iff]
    simpa using h
  have hodd : (Z % 2 == 1) = decide (a < 0) := by
    have h := zz_odd a
    rw [← EZ.out] at h
    rw [Bool.eq_iff_iff]
    simpa using h
  by_cases h : 0 ≤ a
  · obtain ⟨X, hX0, hX1, EX, HX⟩ := zig_some (-a - 1) (by omega) (by omega)
    have hX : X = Z + 1 := by rw [EX.out, EZ.out]; exact zz_neg a h
    subst hX
    go_enter Try.func3, Try.ntmps3
    go_wp2_with fail
    refine HA.out.mono ?_
    rintro e w1 ⟨rfl, hb⟩
    have HB := hide hb
    clear hb HA
    go_wp2_with fail
    refine (HX.out _).mono ?_
    rintro e w2 ⟨rfl, rfl⟩
    go_wp2_with fail
    refine (HZ.out _).mono ?_
    rintro e w3 ⟨rfl, rfl⟩
    go_wp2_with fail
    refine (HZ.out _).mono ?_
    rintro e w4 ⟨rfl, rfl⟩
    go_wp2_with fail
    refine (HY.out _).mono ?_
    rintro e w5 ⟨rfl, rfl⟩
    go_wp2_with fail
    refine (HZ.out _).mono ?_
    rintro e w6 ⟨rfl, rfl⟩
    go_wp2
    go_ret
    exact ⟨rfl, HB.out⟩
  · go_enter Try.func3, Try.ntmps3
    go_wp2_with fail
    refine HA.out.mono ?_
    rintro e w1 ⟨rfl, hb⟩
    have HB := hide hb
    clear hb HA
    go_wp2_with fail
    refine (HZ.out _).mono ?_
    rintro e w4 ⟨rfl, rfl⟩
    go_wp2_with fail
    refine (HY.out _).mono ?_
    rintro e w5 ⟨rfl, rfl⟩
    go_wp2_with fail
    refine (HZ.out _).mono ?_
    rintro e w6 ⟨rfl, rfl⟩
    go_wp2
    go_ret
    exact ⟨rfl, HB.out⟩

theorem own : ownKnob Try.prog.godebug = none := by kernel_rfl
theorem laidOut : laidOutB Try.prog = true := by kernel_rfl

set_option linter.unusedVariables false in
set_option maxRecDepth 100000 in
theorem lifted (os : Os) (started : os.Started) (H : Type) (enc : TypeId × Value → H) :
    ReturnsInHanded {} Try.checked os 3 .any (Rows.numZigsSpec.pre6 enc Try.prog Try.f3 Rows.numZigsRow.domain false) (Rows.numZigsSpec.post enc Try.prog Try.f3 false true false false) := by
  refine returnsInHanded_of_change (C := Try.checked) own started (by kernel_rfl) Try.func3
    (ChangeSpec.witness6 (enc := enc) (C := Try.checked) false ⟨#[], #[.int .i64 0, .int .i64 0], []⟩ 8 (by kernel_rfl) (by kernel_rfl) (by kernel_rfl) (by kernel_rfl)) ?_
  intro W base args ds gs before hval0 hW hcnd _
  have hval : ∀ (j : Nat) t v, Try.f3.params[j]? = some t → args[j]? = some v → Value.okWide Try.prog W .any base t v := hval0
  have hW' := hW
  obtain ⟨p, q, hA0, hV, rfl, hfz, hnd⟩ := hW
  have hA : DataW.TrodAll enc Try.prog W 0 (fun _ => true) true Try.f3.params.toList args.toList ds p := hA0
  rw [Try.params3] at hA hval
  obtain ⟨v0, vs0, d0, ds0, p0, q0, hargs, rfl, rfl, h0, r0⟩ := trodAll_cons hA
  obtain ⟨v1, vs1, d1, ds1, p1, q1, rfl, rfl, rfl, h1, r1⟩ := trodAll_cons r0
  obtain ⟨rfl, rfl, rfl⟩ := trodAll_nil r1
  obtain rfl : args = #[v0, v1] := by cases args; simp_all
  obtain ⟨rfl, rfl⟩ := trodVars_none hV
  obtain ⟨a0, rfl, rfl, rfl, w0⟩ := open_int Try.underlying3 (hval 0 3 v0 rfl rfl) h0
  obtain ⟨a1, rfl, rfl, rfl, w1⟩ := open_int Try.underlying3 (hval 1 3 v1 rfl rfl) h1
  clear hA0 hval0
  refine (walk a0 a1 W w0 w1).mono fun e W' ⟨he, bel⟩ => ?_
  subst he
  exact ⟨_, rfl, _, _, _, [], _, [], hW', trodAll_mk1 (shut_bool Try.underlying4 _), (trodAll_cons_mk (shut_int Try.underlying3 w0) (trodAll_cons_mk (shut_int Try.underlying3 w1) trodAll_mk0)), rfl, bel.frame _, fun h => by cases h⟩

theorem over : Rows.numZigsRow.holds Try.pinned (OpenSpec.ofChange Rows.numZigsSpec) :=
  OpenClaim.holds_of_wide 3 Try.f3 rfl rfl rfl rfl rfl rfl rfl ⟨rfl, rfl, rfl, rfl, rfl⟩ rfl rfl rfl rfl rfl (by kernel_rfl) Try.func3 (by kernel_rfl)
    (of_decide_eq_true (by kernel_rfl)) (by unfold Func.isWrapper; first | (rw [if_pos (by decide +kernel)]; kernel_rfl) | (rw [if_neg (by decide +kernel)]; exact ⟨rfl, rfl⟩))
    (fun os started H enc _ => lifted os started H enc)

end Go.Proofs.Ytblfmhkpogjokab.numZigs
namespace Go.Proofs.Ytblfmhkpogjokab

theorem numZigs_holds : Rows.NumZigsSaid := numZigs.over

end Go.Proofs.Ytblfmhkpogjokab
