/- Proved: for every two numbers the law NumApart answers true (and the call leaves all older memory as it was). No condition. -/
import Derived.Test.YtblfmhkpogjokaaNumAwake
import Derived.OpenShut
import Derived.ChangeOld
namespace Go.Proofs.Ytblfmhkpogjokaa.numApart
open Go.ChangeShapes Go.WideShapes Go.ChangeAt Go.RowKit

theorem apart_plain (la lb : List UInt8) (h : ∀ t, lb ≠ la ++ t) : (!((bs lb).extract 0 (bs la).size).toList == (bs la).toList) = true := by
  rw [bs_take, bs_list, bs_size]
  have : (lb.take la.length == la) = false := by
    rw [beq_eq_false_iff_ne]
    intro e
    apply h (lb.drop la.length)
    conv => rhs; lhs; rw [← e]
    exact (List.take_append_drop _ _).symm
  rw [this]
  rfl

theorem apart_zig (a b : Int) (ha0 : -9223372036854775808 ≤ a) (ha1 : a ≤ 9223372036854775807) (hb0 : -9223372036854775808 ≤ b) (hb1 : b ≤ 9223372036854775807) (h : ¬ a = b) :
    ∀ t, Lib.uvarint (Lib.zigzag b) ≠ Lib.uvarint (Lib.zigzag a) ++ t := by
  intro t e
  have e2 := uvarint_apart _ _ t (Lib.zigzag_lt ha0 ha1) e (Lib.zigzag_lt hb0 hb1)
  apply h
  rw [← zag_zigzag a ha0 ha1, ← zag_zigzag b hb0 hb1, e2]

set_option maxRecDepth 100000 in
set_option maxHeartbeats 1000000 in
theorem walk (a b : Int) (w : World) (w0 : (Lit.int .i64 a).wf = true) (w1 : (Lit.int .i64 b).wf = true) :
    Calls Try.prog 7 #[.int .i64 a, .int .i64 b] w fun e w' => e = .returned (.bool true) ∧ Below w.heap.size w w' := by
  obtain ⟨ha0, ha1⟩ := i64_bd w0
  obtain ⟨hb0, hb1⟩ := i64_bd w1
  clear w0 w1
  have HA := hide (awake_any w)
  have HP : Hid (∀ (n : Int) (w : World), -9223372036854775808 ≤ n → n ≤ 9223372036854775807 → Calls Try.prog 12 #[.slice none 0 0, .int .i64 n] w fun e w' => ∃ v', e = .returned v' ∧ Own w' w.heap.size v' (Lib.uvarint (Lib.zigzag n)) ∧ Below w.heap.size w w') :=
    fun n w h0 h1 => putSigned_any _ [] n w (Rd.nil _) (by decide) h0 h1
  go_enter Try.func7, Try.ntmps7
  go_wp2_with fail
  refine HA.out.mono ?_
  rintro e w1 ⟨rfl, hb⟩
  have HB := hide hb
  clear hb HA
  go_wp2_with fail
  refine (HP.out a _ ha0 ha1).mono ?_
  rintro e w2 ⟨v2, rfl, ho2, hb2⟩
  have hcv2 := ho2.rd.str
  have HB2 := hide (HB.out.trans (hb2.mono HB.out.size))
  clear ho2 hb2
  go_wp2_with fail
  refine (HP.out b _ hb0 hb1).mono ?_
  rintro e w3 ⟨v3, rfl, ho3, hb3⟩
  have hcv3 := ho3.rd.str
  have HB3 := hide (HB2.out.trans (hb3.mono HB2.out.size))
  clear ho3 hb3 hcv2
  by_cases hab : a = b
  · subst hab
    go_wp2
    go_ret
    exact ⟨rfl, HB3.out⟩
  · have hne : (a == b) = false := beq_eq_false_iff_ne.2 hab
    have H1 := hide (apart_plain _ _ (apart_zig a b ha0 ha1 hb0 hb1 hab))
    have H2 := hide (apart_plain _ _ (apart_zig b a hb0 hb1 ha0 ha1 (fun e => hab e.symm)))
    generalize Lib.uvarint (Lib.zigzag a) = la at *
    generalize Lib.uvarint (Lib.zigzag b) = lb at *
    go_wp2
    all_goals
      go_ret
      first
        | exact ⟨ret_bool H1.out, HB3.out⟩
        | exact ⟨ret_bool H2.out, HB3.out⟩

theorem own : ownKnob Try.prog.godebug = none := by kernel_rfl
theorem laidOut : laidOutB Try.prog = true := by kernel_rfl

set_option linter.unusedVariables false in
set_option maxRecDepth 100000 in
theorem lifted (os : Os) (started : os.Started) (H : Type) (enc : TypeId × Value → H) :
    ReturnsInHanded {} Try.checked os 7 .any (Rows.numApartSpec.pre6 enc Try.prog Try.f7 Rows.numApartRow.domain false) (Rows.numApartSpec.post enc Try.prog Try.f7 false true false false) := by
  refine returnsInHanded_of_change (C := Try.checked) own started (by kernel_rfl) Try.func7
    (ChangeSpec.witness6 (enc := enc) (C := Try.checked) false ⟨#[], #[.int .i64 0, .int .i64 0], []⟩ 8 (by kernel_rfl) (by kernel_rfl) (by kernel_rfl) (by kernel_rfl)) ?_
  intro W base args ds gs before hval0 hW hcnd _
  have hval : ∀ (j : Nat) t v, Try.f7.params[j]? = some t → args[j]? = some v → Value.okWide Try.prog W .any base t v := hval0
  have hW' := hW
  obtain ⟨p, q, hA0, hV, rfl, hfz, hnd⟩ := hW
  have hA : DataW.TrodAll enc Try.prog W 0 (fun _ => true) true Try.f7.params.toList args.toList ds p := hA0
  rw [Try.params7] at hA hval
  obtain ⟨v0, vs0, d0, ds0, p0, q0, hargs, rfl, rfl, h0, r0⟩ := trodAll_cons hA
  obtain ⟨v1, vs1, d1, ds1, p1, q1, rfl, rfl, rfl, h1, r1⟩ := trodAll_cons r0
  obtain ⟨rfl, rfl, rfl⟩ := trodAll_nil r1
  obtain rfl : args = #[v0, v1] := by cases args; simp_all
  obtain ⟨rfl, rfl⟩ := trodVars_none hV
  obtain ⟨a0, rfl, rfl, rfl, w0⟩ := open_int Try.underlying3 (hval 0 3 v0 rfl rfl) h0
  obtain ⟨a1, rfl, rfl, rfl, w1⟩ := open_int Try.underlying3 (hval 1 3 v1 rfl rfl) h1
  clear hA0 hval0
  refine (walk a0 a1 W w0 w1).mono fun e W' ⟨he, bel⟩ => ?_
  subst he
  exact ⟨_, rfl, _, _, _, [], _, [], hW', trodAll_mk1 (shut_bool Try.underlying4 _), (trodAll_cons_mk (shut_int Try.underlying3 w0) (trodAll_cons_mk (shut_int Try.underlying3 w1) trodAll_mk0)), rfl, bel.frame _, fun h => by cases h⟩

theorem over : Rows.numApartRow.holds Try.pinned (OpenSpec.ofChange Rows.numApartSpec) :=
  OpenClaim.holds_of_wide 7 Try.f7 rfl rfl rfl rfl rfl rfl rfl ⟨rfl, rfl, rfl, rfl, rfl⟩ rfl rfl rfl rfl rfl (by kernel_rfl) Try.func7 (by kernel_rfl)
    (of_decide_eq_true (by kernel_rfl)) (by unfold Func.isWrapper; first | (rw [if_pos (by decide +kernel)]; kernel_rfl) | (rw [if_neg (by decide +kernel)]; exact ⟨rfl, rfl⟩))
    (fun os started H enc _ => lifted os started H enc)

end Go.Proofs.Ytblfmhkpogjokaa.numApart
namespace Go.Proofs.Ytblfmhkpogjokaa

theorem numApart_holds : Rows.NumApartSaid := numApart.over

end Go.Proofs.Ytblfmhkpogjokaa
