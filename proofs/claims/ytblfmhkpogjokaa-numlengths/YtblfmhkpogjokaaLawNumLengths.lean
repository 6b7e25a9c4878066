/- Proved: for every two numbers the law NumLengths answers true (and the call leaves all older memory as it was). No condition. -/
import Derived.Test.YtblfmhkpogjokaaNumAwake
import Derived.OpenShut
import Derived.ChangeOld
namespace Go.Proofs.Ytblfmhkpogjokaa.numLengths
open Go.ChangeShapes Go.WideShapes Go.ChangeAt Go.RowKit

theorem len_mono : ∀ (n a b : Nat), (Lib.uvarint b).length ≤ n → a ≤ b → (Lib.uvarint a).length ≤ (Lib.uvarint b).length
  | 0, _, b, h, _ => by have := Lib.uvarint_pos b; omega
  | n + 1, a, b, h, hab => by
    by_cases hb : b < 128
    · rw [Lib.uvarint_small hb, Lib.uvarint_small (show a < 128 by omega)]
      exact Nat.le_refl _
    · by_cases ha : a < 128
      · rw [Lib.uvarint_small ha]
        exact Lib.uvarint_pos b
      · rw [Lib.uvarint_big (by omega)] at h
        rw [Lib.uvarint_big (show 128 ≤ a by omega), Lib.uvarint_big (show 128 ≤ b by omega), List.length_cons, List.length_cons]
        have := len_mono n (a / 128) (b / 128) (by simpa using h) (by omega)
        omega

theorem len9 {b : Nat} (h : b < 4611686018427387904) : (Lib.uvarint b).length ≤ 9 :=
  Lib.uvarint_length 8 b (Nat.lt_of_lt_of_le h (by decide))

set_option maxRecDepth 100000 in
set_option maxHeartbeats 1000000 in
theorem walk (a b : Int) (w : World) (w0 : (Lit.int .i64 a).wf = true) (w1 : (Lit.int .i64 b).wf = true) :
    Calls Try.prog 8 #[.int .i64 a, .int .i64 b] w fun e w' => e = .returned (.bool true) ∧ Below w.heap.size w w' := by
  obtain ⟨ha0, ha1⟩ := i64_bd w0
  obtain ⟨hb0, hb1⟩ := i64_bd w1
  clear w0 w1
  have HA := hide (awake_any w)
  by_cases h : 0 ≤ a ∧ a ≤ b ∧ b < 4611686018427387904
  · obtain ⟨h1, h2, h3⟩ := h
    have HL : Hid ((Lib.uvarint a.toNat).length ≤ (Lib.uvarint b.toNat).length) := len_mono _ _ _ (Nat.le_refl _) (by omega)
    have H9 : Hid ((Lib.uvarint b.toNat).length ≤ 9) := len9 (by omega)
    have HP : Hid (∀ (n : Int) (w : World), 0 ≤ n → n < 4611686018427387904 → Calls Try.prog 10 #[.slice none 0 0, .int .i64 n] w fun e w' => ∃ ao cap, e = .returned (.slice ao (Lib.uvarint n.toNat).length cap) ∧ Below w.heap.size w w') := by
      intro n w h0 h1
      refine (put_any _ [] n w (Rd.nil _) (by decide)).mono ?_
      rintro e w' ⟨v', rfl, ho, hb⟩
      have e : putOf [] n = Lib.uvarint n.toNat := if_pos ⟨h0, h1⟩
      rw [e] at ho
      obtain ⟨ao, cap, rfl, _⟩ := ho.rd
      exact ⟨ao, cap, rfl, hb⟩
    go_enter Try.func8, Try.ntmps8
    go_wp2_with fail
    refine HA.out.mono ?_
    rintro e w1 ⟨rfl, hb⟩
    have HB := hide hb
    clear hb HA
    go_wp2
    go_loop [6, 7] (fun n x => ∃ (k : Nat) (y : Int), 0 ≤ y ∧ y ≤ a ∧ n = .int .i64 (k : Int) ∧ x = .int .i64 y ∧ k + (Lib.uvarint y.toNat).length = (Lib.uvarint a.toNat).length + 1) (fun _ x => (intOf x).toNat)
    case atStart => exact ⟨1, a, h1, Int.le_refl _, rfl, rfl, by omega⟩
    case round =>
      obtain ⟨k, y, hy0, hya, rfl, rfl, hk⟩ := hrel
      have HK := hide hk
      have hk2 : k ≤ 9 := by have := Lib.uvarint_pos y.toNat; have := HL.out; have := H9.out; omega
      clear hk
      by_cases hy : 127 < y
      · go_wp2
        go_round
        case rel =>
          refine ⟨k + 1, y / 128, by omega, by omega, by go_num, rfl, ?_⟩
          have e := HK.out
          rw [Lib.uvarint_big (show 128 ≤ y.toNat by omega), List.length_cons] at e
          have e2 : (y / 128).toNat = y.toNat / 128 := by omega
          rw [e2]
          omega
        case measure => simp [intOf]; omega
      · have hk' : k = (Lib.uvarint a.toNat).length := by
          have e := HK.out
          rw [Lib.uvarint_small (show y.toNat < 128 by omega), List.length_singleton] at e
          omega
        subst hk'
        clear HK hk2
        have hL := HL.out
        have h9 := H9.out
        have PA := hide (fun w => HP.out a w (by omega) (by omega))
        have PB := hide (fun w => HP.out b w (by omega) (by omega))
        clear HP HL H9
        generalize (Lib.uvarint a.toNat).length = la at *
        generalize (Lib.uvarint b.toNat).length = lb at *
        go_wp2_with fail
        refine (PA.out _).mono ?_
        rintro e w2 ⟨ao2, cap2, rfl, hb2⟩
        have HB2 := hide (HB.out.trans (hb2.mono HB.out.size))
        clear hb2
        go_wp2_with fail
        refine (PB.out _).mono ?_
        rintro e w3 ⟨ao3, cap3, rfl, hb3⟩
        have HB3 := hide (HB2.out.trans (hb3.mono HB2.out.size))
        clear hb3
        go_wp2_with fail
        refine (PB.out _).mono ?_
        rintro e w4 ⟨ao4, cap4, rfl, hb4⟩
        have HB4 := hide (HB3.out.trans (hb4.mono HB3.out.size))
        clear hb4
        go_wp2
        go_ret
        exact ⟨ret_bool (decide_eq_true (by omega)), HB4.out⟩
  · by_cases h1 : a < 0
    · clear h
      go_enter Try.func8, Try.ntmps8
      go_wp2_with fail
      refine HA.out.mono ?_
      rintro e w1 ⟨rfl, hb⟩
      have HB := hide hb
      clear hb HA
      go_wp2
      go_ret
      exact ⟨rfl, HB.out⟩
    · by_cases h2 : b < a
      all_goals
        have h3 : a ≤ b → 4611686018427387904 ≤ b := by omega
        clear h
        go_enter Try.func8, Try.ntmps8
        go_wp2_with fail
        refine HA.out.mono ?_
        rintro e w1 ⟨rfl, hb⟩
        have HB := hide hb
        clear hb HA
        go_wp2
        go_ret
        exact ⟨rfl, HB.out⟩

theorem own : ownKnob Try.prog.godebug = none := by kernel_rfl
theorem laidOut : laidOutB Try.prog = true := by kernel_rfl

set_option linter.unusedVariables false in
set_option maxRecDepth 100000 in
theorem lifted (os : Os) (started : os.Started) (H : Type) (enc : TypeId × Value → H) :
    ReturnsInHanded {} Try.checked os 8 .any (Rows.numLengthsSpec.pre6 enc Try.prog Try.f8 Rows.numLengthsRow.domain false) (Rows.numLengthsSpec.post enc Try.prog Try.f8 false true false false) := by
  refine returnsInHanded_of_change (C := Try.checked) own started (by kernel_rfl) Try.func8
    (ChangeSpec.witness6 (enc := enc) (C := Try.checked) false ⟨#[], #[.int .i64 0, .int .i64 0], []⟩ 8 (by kernel_rfl) (by kernel_rfl) (by kernel_rfl) (by kernel_rfl)) ?_
  intro W base args ds gs before hval0 hW hcnd _
  have hval : ∀ (j : Nat) t v, Try.f8.params[j]? = some t → args[j]? = some v → Value.okWide Try.prog W .any base t v := hval0
  have hW' := hW
  obtain ⟨p, q, hA0, hV, rfl, hfz, hnd⟩ := hW
  have hA : DataW.TrodAll enc Try.prog W 0 (fun _ => true) true Try.f8.params.toList args.toList ds p := hA0
  rw [Try.params8] at hA hval
  obtain ⟨v0, vs0, d0, ds0, p0, q0, hargs, rfl, rfl, h0, r0⟩ := trodAll_cons hA
  obtain ⟨v1, vs1, d1, ds1, p1, q1, rfl, rfl, rfl, h1, r1⟩ := trodAll_cons r0
  obtain ⟨rfl, rfl, rfl⟩ := trodAll_nil r1
  obtain rfl : args = #[v0, v1] := by cases args; simp_all
  obtain ⟨rfl, rfl⟩ := trodVars_none hV
  obtain ⟨a0, rfl, rfl, rfl, w0⟩ := open_int Try.underlying3 (hval 0 3 v0 rfl rfl) h0
  obtain ⟨a1, rfl, rfl, rfl, w1⟩ := open_int Try.underlying3 (hval 1 3 v1 rfl rfl) h1
  clear hA0 hval0
  refine (walk a0 a1 W w0 w1).mono fun e W' ⟨he, bel⟩ => ?_
  subst he
  exact ⟨_, rfl, _, _, _, [], _, [], hW', trodAll_mk1 (shut_bool Try.underlying4 _), (trodAll_cons_mk (shut_int Try.underlying3 w0) (trodAll_cons_mk (shut_int Try.underlying3 w1) trodAll_mk0)), rfl, bel.frame _, fun h => by cases h⟩

theorem over : Rows.numLengthsRow.holds Try.pinned (OpenSpec.ofChange Rows.numLengthsSpec) :=
  OpenClaim.holds_of_wide 8 Try.f8 rfl rfl rfl rfl rfl rfl rfl ⟨rfl, rfl, rfl, rfl, rfl⟩ rfl rfl rfl rfl rfl (by kernel_rfl) Try.func8 (by kernel_rfl)
    (of_decide_eq_true (by kernel_rfl)) (by unfold Func.isWrapper; first | (rw [if_pos (by decide +kernel)]; kernel_rfl) | (rw [if_neg (by decide +kernel)]; exact ⟨rfl, rfl⟩))
    (fun os started H enc _ => lifted os started H enc)

end Go.Proofs.Ytblfmhkpogjokaa.numLengths
namespace Go.Proofs.Ytblfmhkpogjokaa

theorem numLengths_holds : Rows.NumLengthsSaid := numLengths.over

end Go.Proofs.Ytblfmhkpogjokaa
