/- Proved: for every two numbers the law FrameSizes answers true (and the call leaves all older memory as it was). No condition. -/
import Derived.Test.YtmlagndgccdelabFrameAwake
import Derived.OpenShut
import Derived.ChangeOld
namespace Go.Proofs.Ytmlagndgccdelab.frameSizes
open Go.ChangeShapes Go.WideShapes Go.ChangeAt Go.RowKit

theorem len_mono : ∀ (n a b : Nat), (Lib.uvarint b).length ≤ n → a ≤ b → (Lib.uvarint a).length ≤ (Lib.uvarint b).length
  | 0, _, b, h, _ => by have := Lib.uvarint_pos b; omega
  | n + 1, a, b, h, hab => by
    by_cases hb : b < 128
    · rw [Lib.uvarint_small hb, Lib.uvarint_small (show a < 128 by omega)]
      exact Nat.le_refl _
    · by_cases ha : a < 128
      · rw [Lib.uvarint_small ha]
        exact Lib.uvarint_pos b
      · rw [Lib.uvarint_big (by omega)] at h
        rw [Lib.uvarint_big (show 128 ≤ a by omega), Lib.uvarint_big (show 128 ≤ b by omega), List.length_cons, List.length_cons]
        rw [List.length_cons] at h
        have := len_mono n (a / 128) (b / 128) (by omega) (by omega)
        omega

theorem size_in (n : Int) (h0 : 0 ≤ n) (h1 : n ≤ 1048576) : n + 5 ≤ (sizeF n : Int) ∧ (sizeF n : Int) ≤ n + 7 := by
  unfold sizeF
  rw [if_pos ⟨h0, h1⟩]
  have h3 : (Lib.uvarint n.toNat).length ≤ 3 := len3 (by omega)
  have hp := Lib.uvarint_pos n.toNat
  omega

theorem size_more (n m : Int) (h0 : 0 ≤ n) (h1 : n < m) (h2 : m ≤ 1048576) : (sizeF n : Int) < (sizeF m : Int) := by
  unfold sizeF
  rw [if_pos ⟨h0, by omega⟩, if_pos ⟨by omega, h2⟩]
  have := len_mono _ n.toNat m.toNat (Nat.le_refl _) (by omega)
  omega

set_option maxRecDepth 100000 in
set_option maxHeartbeats 1000000 in
theorem walk (n m : Int) (w : World) (hn : (Lit.int .i64 n).wf = true) (hm : (Lit.int .i64 m).wf = true) :
    Calls Try.prog 3 #[.int .i64 n, .int .i64 m] w fun e w' => e = .returned (.bool true) ∧ Below w.heap.size w w' := by
  have HA := hide (awake_any w)
  have hn' := i64_bd hn
  have hm' := i64_bd hm
  clear hn hm
  by_cases h1 : 0 ≤ n
  · by_cases h2 : n ≤ 1048576
    · by_cases h3 : 1 ≤ m
      · by_cases h4 : m ≤ 1048576
        · have C1 := hide (fun w1 => size_any n w1 hn'.1 hn'.2)
          have C2 := hide (fun w1 => size_any (n + m) w1 (by omega) (by omega))
          obtain ⟨hs1, hs2⟩ := size_in n h1 h2
          by_cases h5 : 1048576 < n + m
          · have e0 : sizeF (n + m) = 0 := if_neg (by omega)
            rw [e0] at C2
            clear e0
            obtain ⟨S, hS⟩ : ∃ S : Int, S = (sizeF n : Int) := ⟨_, rfl⟩
            rw [← hS] at C1 hs1 hs2
            clear hS
            go_enter Try.func3, Try.ntmps3
            go_wp2_with fail
            refine HA.out.mono ?_
            rintro e w1 ⟨rfl, hb⟩
            have HB1 := hide hb
            clear hb HA
            go_wp2_with fail
            refine (C1.out _).mono ?_
            rintro e w2 ⟨rfl, hb⟩
            have HB2 := hide (HB1.out.trans (hb.mono HB1.out.size))
            clear hb
            go_wp2_with fail
            refine (C2.out _).mono ?_
            rintro e w3 ⟨rfl, hb⟩
            have HB3 := hide (HB2.out.trans (hb.mono HB2.out.size))
            clear hb
            go_wp2
            go_ret
            exact ⟨rfl, HB3.out⟩
          · have hs3 := size_more n (n + m) h1 (by omega) (by omega)
            obtain ⟨hs4, hs5⟩ := size_in (n + m) (by omega) (by omega)
            obtain ⟨S, hS⟩ : ∃ S : Int, S = (sizeF n : Int) := ⟨_, rfl⟩
            obtain ⟨T, hT⟩ : ∃ T : Int, T = (sizeF (n + m) : Int) := ⟨_, rfl⟩
            rw [← hS] at C1 hs1 hs2 hs3
            rw [← hT] at C2 hs3 hs4 hs5
            clear hS hT
            go_enter Try.func3, Try.ntmps3
            go_wp2_with fail
            refine HA.out.mono ?_
            rintro e w1 ⟨rfl, hb⟩
            have HB1 := hide hb
            clear hb HA
            go_wp2_with fail
            refine (C1.out _).mono ?_
            rintro e w2 ⟨rfl, hb⟩
            have HB2 := hide (HB1.out.trans (hb.mono HB1.out.size))
            clear hb
            go_wp2_with fail
            refine (C2.out _).mono ?_
            rintro e w3 ⟨rfl, hb⟩
            have HB3 := hide (HB2.out.trans (hb.mono HB2.out.size))
            clear hb
            go_wp2_with fail
            refine (C1.out _).mono ?_
            rintro e w4 ⟨rfl, hb⟩
            have HB4 := hide (HB3.out.trans (hb.mono HB3.out.size))
            clear hb
            go_wp2
            go_ret
            exact ⟨rfl, HB4.out⟩
        · go_enter Try.func3, Try.ntmps3
          go_wp2_with fail
          refine HA.out.mono ?_
          rintro e w1 ⟨rfl, hb⟩
          have HB1 := hide hb
          clear hb HA
          go_wp2
          go_ret
          exact ⟨rfl, HB1.out⟩
      · go_enter Try.func3, Try.ntmps3
        go_wp2_with fail
        refine HA.out.mono ?_
        rintro e w1 ⟨rfl, hb⟩
        have HB1 := hide hb
        clear hb HA
        go_wp2
        go_ret
        exact ⟨rfl, HB1.out⟩
    · go_enter Try.func3, Try.ntmps3
      go_wp2_with fail
      refine HA.out.mono ?_
      rintro e w1 ⟨rfl, hb⟩
      have HB1 := hide hb
      clear hb HA
      go_wp2
      go_ret
      exact ⟨rfl, HB1.out⟩
  · go_enter Try.func3, Try.ntmps3
    go_wp2_with fail
    refine HA.out.mono ?_
    rintro e w1 ⟨rfl, hb⟩
    have HB1 := hide hb
    clear hb HA
    go_wp2
    go_ret
    exact ⟨rfl, HB1.out⟩

theorem own : ownKnob Try.prog.godebug = none := by kernel_rfl
theorem laidOut : laidOutB Try.prog = true := by kernel_rfl

set_option linter.unusedVariables false in
set_option maxRecDepth 100000 in
theorem lifted (os : Os) (started : os.Started) (H : Type) (enc : TypeId × Value → H) :
    ReturnsInHanded {} Try.checked os 3 .any (Rows.frameSizesSpec.pre6 enc Try.prog Try.f3 Rows.frameSizesRow.domain false) (Rows.frameSizesSpec.post enc Try.prog Try.f3 false true false false) := by
  refine returnsInHanded_of_change (C := Try.checked) own started (by kernel_rfl) Try.func3
    (ChangeSpec.witness6 (enc := enc) (C := Try.checked) false ⟨#[], #[.int .i64 0, .int .i64 0], []⟩ 8 (by kernel_rfl) (by kernel_rfl) (by kernel_rfl) (by kernel_rfl)) ?_
  intro W base args ds gs before hval0 hW hcnd _
  have hval : ∀ (j : Nat) t v, Try.f3.params[j]? = some t → args[j]? = some v → Value.okWide Try.prog W .any base t v := hval0
  have hW' := hW
  obtain ⟨p, q, hA0, hV, rfl, hfz, hnd⟩ := hW
  have hA : DataW.TrodAll enc Try.prog W 0 (fun _ => true) true Try.f3.params.toList args.toList ds p := hA0
  rw [Try.params3] at hA hval
  obtain ⟨v0, vs0, d0, ds0, p0, q0, hargs, rfl, rfl, h0, r0⟩ := trodAll_cons hA
  obtain ⟨v1, vs1, d1, ds1, p1, q1, rfl, rfl, rfl, h1, r1⟩ := trodAll_cons r0
  obtain ⟨rfl, rfl, rfl⟩ := trodAll_nil r1
  obtain rfl : args = #[v0, v1] := by cases args; simp_all
  obtain ⟨rfl, rfl⟩ := trodVars_none hV
  obtain ⟨a0, rfl, rfl, rfl, w0⟩ := open_int Try.underlying3 (hval 0 3 v0 rfl rfl) h0
  obtain ⟨a1, rfl, rfl, rfl, w1⟩ := open_int Try.underlying3 (hval 1 3 v1 rfl rfl) h1
  clear hA0 hval0
  refine (walk a0 a1 W w0 w1).mono fun e W' ⟨he, bel⟩ => ?_
  subst he
  exact ⟨_, rfl, _, _, _, [], _, [], hW', trodAll_mk1 (shut_bool Try.underlying4 _), (trodAll_cons_mk (shut_int Try.underlying3 w0) (trodAll_cons_mk (shut_int Try.underlying3 w1) trodAll_mk0)), rfl, bel.frame _, fun h => by cases h⟩

theorem over : Rows.frameSizesRow.holds Try.pinned (OpenSpec.ofChange Rows.frameSizesSpec) :=
  OpenClaim.holds_of_wide 3 Try.f3 rfl rfl rfl rfl rfl rfl rfl ⟨rfl, rfl, rfl, rfl, rfl⟩ rfl rfl rfl rfl rfl (by kernel_rfl) Try.func3 (by kernel_rfl)
    (of_decide_eq_true (by kernel_rfl)) (by unfold Func.isWrapper; first | (rw [if_pos (by decide +kernel)]; kernel_rfl) | (rw [if_neg (by decide +kernel)]; exact ⟨rfl, rfl⟩))
    (fun os started H enc _ => lifted os started H enc)

end Go.Proofs.Ytmlagndgccdelab.frameSizes
namespace Go.Proofs.Ytmlagndgccdelab

theorem frameSizes_holds : Rows.FrameSizesSaid := frameSizes.over

end Go.Proofs.Ytmlagndgccdelab
