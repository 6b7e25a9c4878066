/- Proved: for all data and every number the law FrameEncodes answers true (and the call leaves all older memory as it was). No condition. -/
import Derived.Test.YtmlagndgccdelaaFrameAwake
import Derived.OpenShut
import Derived.ChangeOld
namespace Go.Proofs.Ytmlagndgccdelaa.frameEncodes
open Go.ChangeShapes Go.WideShapes Go.ChangeAt Go.RowKit

theorem size_len (l : List UInt8) (h : l.length ≤ 5000) : sizeF (l.length : Int) = (encF l).1.length := by
  unfold sizeF encF
  rw [if_pos (by omega), if_pos (by omega), frameOf_length, Int.toNat_natCast]
  omega

set_option maxRecDepth 100000 in
set_option maxHeartbeats 1000000 in
theorem walk (va : Value) (a : List UInt8) (n : Int) (w : World) (hra : Rd w va a) (hn : (Lit.int .i64 n).wf = true) :
    Calls Try.prog 3 #[va, .int .i64 n] w fun e w' => e = .returned (.bool true) ∧ Below w.heap.size w w' := by
  have HA := hide (awake_any w)
  have HRA := hide hra
  obtain ⟨aa, capa, rfl, _, hcma, _, _⟩ := hra
  have hn' := i64_bd hn
  clear hn
  by_cases hl : (a.length : Int) ≤ 5000
  · have C1 := hide (fun w1 (hb : Below w.heap.size w w1) => encode_any _ a w1 (HRA.out.below hb (Nat.le_refl _)))
    have C2 := hide (fun w1 (hb : Below w.heap.size w w1) => refEncode_any _ a w1 (HRA.out.below hb (Nat.le_refl _)))
    have C3 := hide (fun w1 => size_any n w1 hn'.1 hn'.2)
    have C4 := hide (fun w1 => refSize_any n w1 hn'.1 hn'.2)
    have C5 := hide (fun w1 => size_any (a.length : Int) w1 (by omega) (by omega))
    have HL := hide (size_len a (by omega))
    have HLX : Hid ((encF a).1.length ≤ 6000) := by
      have h3 : (Lib.uvarint a.length).length ≤ 3 := len3 (by omega)
      have := size_len a (by omega)
      rw [← this]
      show sizeF _ ≤ 6000
      unfold sizeF
      rw [if_pos (by omega), Int.toNat_natCast]
      omega
    generalize (encF a).1 = x at *
    generalize (encF a).2 = c at *
    generalize sizeF n = s at *
    go_enter Try.func3, Try.ntmps3
    go_wp2_with fail
    refine HA.out.mono ?_
    rintro e w1 ⟨rfl, hb⟩
    have HB1 := hide hb
    clear hb HA
    go_wp2_with fail
    refine (C1.out _ HB1.out).mono ?_
    rintro e w2 ⟨v2, rfl, ho2, hb2⟩
    have HB2 := hide (HB1.out.trans (hb2.mono HB1.out.size))
    have HR2 := hide ho2.rd
    clear hb2 ho2 C1
    go_wp2_with fail
    refine (C2.out _ HB2.out).mono ?_
    rintro e w3 ⟨v3, rfl, ho3, hb3⟩
    have HB3 := hide (HB2.out.trans (hb3.mono HB2.out.size))
    have hc2 := (HR2.out.below hb3 (Nat.le_refl _)).str
    have hc3 := ho3.rd.str
    obtain ⟨a2, p2, rfl, _⟩ := HR2.out
    clear hb3 ho3 C2
    go_wp2_with fail
    refine (C3.out _).mono ?_
    rintro e w4 ⟨rfl, hb⟩
    have HB4 := hide (HB3.out.trans (hb.mono HB3.out.size))
    clear hb hc2 hc3 C3
    go_wp2_with fail
    refine (C4.out _).mono ?_
    rintro e w5 ⟨rfl, hb⟩
    have HB5 := hide (HB4.out.trans (hb.mono HB4.out.size))
    clear hb C4
    go_wp2_with fail
    refine (C5.out _).mono ?_
    rintro e w6 ⟨rfl, hb⟩
    have HB6 := hide (HB5.out.trans (hb.mono HB5.out.size))
    clear hb C5
    rw [HL.out]
    go_wp2
    go_ret
    exact ⟨rfl, HB6.out⟩
  · go_enter Try.func3, Try.ntmps3
    go_wp2_with fail
    refine HA.out.mono ?_
    rintro e w1 ⟨rfl, hb⟩
    have HB1 := hide hb
    clear hb HA
    go_wp2
    go_ret
    exact ⟨rfl, HB1.out⟩

theorem own : ownKnob Try.prog.godebug = none := by kernel_rfl
theorem laidOut : laidOutB Try.prog = true := by kernel_rfl

set_option linter.unusedVariables false in
set_option maxRecDepth 100000 in
theorem lifted (os : Os) (started : os.Started) (H : Type) (enc : TypeId × Value → H) :
    ReturnsInHanded {} Try.checked os 3 .any (Rows.frameEncodesSpec.pre6 enc Try.prog Try.f3 Rows.frameEncodesRow.domain false) (Rows.frameEncodesSpec.post enc Try.prog Try.f3 false true false false) := by
  refine returnsInHanded_of_change (C := Try.checked) own started (by kernel_rfl) Try.func3
    (ChangeSpec.witness6 (enc := enc) (C := Try.checked) false ⟨#[], #[.slice none 0 0, .int .i64 0], []⟩ 8 (by kernel_rfl) (by kernel_rfl) (by kernel_rfl) (by kernel_rfl)) ?_
  intro W base args ds gs before hval0 hW hcnd _
  have hval : ∀ (j : Nat) t v, Try.f3.params[j]? = some t → args[j]? = some v → Value.okWide Try.prog W .any base t v := hval0
  have hW' := hW
  obtain ⟨p, q, hA0, hV, rfl, hfz, hnd⟩ := hW
  have hA : DataW.TrodAll enc Try.prog W 0 (fun _ => true) true Try.f3.params.toList args.toList ds p := hA0
  rw [Try.params3] at hA hval
  obtain ⟨v0, vs0, d0, ds0, p0, q0, hargs, rfl, rfl, h0, r0⟩ := trodAll_cons hA
  obtain ⟨v1, vs1, d1, ds1, p1, q1, rfl, rfl, rfl, h1, r1⟩ := trodAll_cons r0
  obtain ⟨rfl, rfl, rfl⟩ := trodAll_nil r1
  obtain rfl : args = #[v0, v1] := by cases args; simp_all
  obtain ⟨rfl, rfl⟩ := trodVars_none hV
  obtain ⟨a0, len0, cap0, rfl⟩ := okWide_slice Try.underlying22 (hval 0 22 v0 rfl rfl)
  have k0 := h0
  have lt0 : ∀ x ∈ p0, x.block < W.heap.size := by obtain ⟨m, hm⟩ := k0; exact DataW.trod_lt m _ _ _ hm
  obtain ⟨l0, w0⟩ : ∃ l, Rd W (.slice a0 len0 cap0) l := by
    obtain ⟨fuel, hf⟩ := h0
    rcases open_ints Try.underlying22 Try.underlying5 (by kernel_rfl) hf with ⟨hcs, _⟩ | ⟨x, l, c, zs, hcs, _, hl, hm, hz, _, hcell, hwz⟩
    · simp [Value.cells] at hcs
      obtain ⟨rfl, rfl, rfl⟩ := hcs
      exact ⟨[], Rd.nil _⟩
    · simp [Value.cells] at hcs
      obtain ⟨rfl, rfl, rfl⟩ := hcs
      exact ⟨_, Rd.ofRow hl hm (by simpa using hz) hcell hwz⟩
  obtain ⟨a1, rfl, rfl, rfl, w1⟩ := open_int Try.underlying3 (hval 1 3 v1 rfl rfl) h1
  clear hA0 hval0
  refine (walk _ l0 a1 W w0 w1).mono fun e W' ⟨he, bel⟩ => ?_
  subst he
  exact ⟨_, rfl, _, _, _, [], _, [], hW', trodAll_mk1 (shut_bool Try.underlying4 _), (trodAll_cons_mk (Below.trod laidOut (by kernel_rfl) (of_decide_eq_true (by kernel_rfl)) k0 bel lt0) (trodAll_cons_mk (shut_int Try.underlying3 w1) trodAll_mk0)), rfl, bel.frame _, fun h => by cases h⟩

theorem over : Rows.frameEncodesRow.holds Try.pinned (OpenSpec.ofChange Rows.frameEncodesSpec) :=
  OpenClaim.holds_of_wide 3 Try.f3 rfl rfl rfl rfl rfl rfl rfl ⟨rfl, rfl, rfl, rfl, rfl⟩ rfl rfl rfl rfl rfl (by kernel_rfl) Try.func3 (by kernel_rfl)
    (of_decide_eq_true (by kernel_rfl)) (by unfold Func.isWrapper; first | (rw [if_pos (by decide +kernel)]; kernel_rfl) | (rw [if_neg (by decide +kernel)]; exact ⟨rfl, rfl⟩))
    (fun os started H enc _ => lifted os started H enc)

end Go.Proofs.Ytmlagndgccdelaa.frameEncodes
namespace Go.Proofs.Ytmlagndgccdelaa

theorem frameEncodes_holds : Rows.FrameEncodesSaid := frameEncodes.over

end Go.Proofs.Ytmlagndgccdelaa
