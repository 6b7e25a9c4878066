/- Proved: for all states and bytes the law CodecStates answers true (and the call leaves all older memory as it was). No condition. -/
import Derived.Test.YtcaalklpjpefjaaCodecAwake
import Derived.Test.YtcaalklpjpefjaaOpenObjs
import Derived.Test.YtcaalklpjpefjaaObjsFew
import Derived.OpenShut
import Derived.ChangeOld
namespace Go.Proofs.Ytcaalklpjpefjaa.codecStates
open Go.ChangeShapes Go.WideShapes Go.ChangeAt Go.RowKit

set_option maxRecDepth 100000 in
set_option maxHeartbeats 2000000 in
theorem walk (v : Value) (s : St) (vb : Value) (l : List UInt8) (w : World) (hs : StV w v s) (hr : Rd w vb l) :
    Calls Try.prog 4 #[v, vb] w fun e w' => e = .returned (.bool true) ∧ Below w.heap.size w w' := by
  have HA := hide (fun w => awake5_any w)
  have HFW := hide (fun w h => few_any v s w h)
  have HSV := hide hs
  have HR := hide hr
  obtain ⟨vl, rfl, -, -, -⟩ := hs
  obtain ⟨ao, cap, rfl, hlc, hcm, -⟩ := hr
  have hml : (l.length : Int) ≤ 9223372036854775807 := by unfold maxLen at hcm; omega
  clear hlc hcm
  have HB0 : Hid (∀ X, Below w.heap.size w (w.alloc X)) := fun X => (Below.refl _ _).alloc (Nat.le_refl _) X
  have S1 : Hid (∀ X, (w.alloc X).heap.size = w.heap.size + 1) := fun X => by simp
  have X1 : Hid (∀ cs, Bx (w.alloc (.cells cs 34)) w.heap.size cs) := fun cs => heap_alloc_new w _
  have HSL : Hid (∀ W va vb c, StV W va c → StV W vb c → Calls Try.prog 19 #[va, vb] W fun e w' => e = .returned (.bool true) ∧ Below W.heap.size W w') := fun W va vb c h1 h2 => by
    have h := refSameS_any va c vb c W h1 h2
    rw [decide_eq_true (sameS_refl c)] at h
    exact h
  by_cases hl : (s.L.length : Int) ≤ 300
  case neg =>
    rw [decide_eq_false hl] at HFW
    clear hl
    go_enter Try.func4, Try.ntmps4
    go_wp2_with fail
    refine (HA.out _).mono ?_
    rintro e W1 ⟨rfl, hb1⟩
    have HX1 := hide ((X1.out _).below hb1 (Nat.le_refl _))
    have HB1 := hide ((HB0.out _).trans (hb1.mono (by rw [S1.out]; omega)))
    clear hb1 HA X1
    obtain ⟨q0, -⟩ := HX1.out.cell 0
    obtain ⟨q1, -⟩ := HX1.out.cell 1
    obtain ⟨q2, -⟩ := HX1.out.cell 2
    obtain ⟨q3, -⟩ := HX1.out.cell 3
    go_wp2_with fail
    refine (HFW.out _ (HSV.out.below HB1.out (Nat.le_refl _))).mono ?_
    rintro e W2 ⟨rfl, hb2⟩
    have HB2 := hide (HB1.out.trans (hb2.mono HB1.out.size))
    clear hb2 HX1 HB1 q0 q1 q2 q3
    go_wp2
    go_ret
    exact ⟨rfl, HB2.out⟩
  rw [decide_eq_true hl] at HFW
  have HEN := hide (fun W v1 (h : StV W v1 s) => encodeState_any v1 s W h (by omega))
  have HRE := hide (fun W v1 (h : StV W v1 s) => refEncodeState_any v1 s W h)
  clear hl
  obtain ⟨kind, L, shut, g⟩ := s
  simp only at *
  unfold EncR at HEN
  unfold Encoded at HRE
  generalize (if MayS ⟨kind, L, shut, g⟩ then (0 : Int) else 1) = er at *
  generalize (if MayS ⟨kind, L, shut, g⟩ then encS ⟨kind, L, shut, g⟩ else []) = E at *
  by_cases hb : (l.length : Int) ≤ 3000
  case neg =>
    have hb' : 3000 < (l.length : Int) := by omega
    clear hb
    go_enter Try.func4, Try.ntmps4
    go_wp2_with fail
    refine (HA.out _).mono ?_
    rintro e W1 ⟨rfl, hb1⟩
    have HX1 := hide ((X1.out _).below hb1 (Nat.le_refl _))
    have HB1 := hide ((HB0.out _).trans (hb1.mono (by rw [S1.out]; omega)))
    clear hb1 HA X1
    obtain ⟨q0, -⟩ := HX1.out.cell 0
    obtain ⟨q1, -⟩ := HX1.out.cell 1
    obtain ⟨q2, -⟩ := HX1.out.cell 2
    obtain ⟨q3, -⟩ := HX1.out.cell 3
    go_wp2_with fail
    refine (HFW.out _ (HSV.out.below HB1.out (Nat.le_refl _))).mono ?_
    rintro e W2 ⟨rfl, hb2⟩
    have HB2 := hide (HB1.out.trans (hb2.mono HB1.out.size))
    clear hb2 HX1 HB1 q0 q1 q2 q3
    go_wp2
    go_ret
    exact ⟨rfl, HB2.out⟩
  have hb' : ¬ (3000 < (l.length : Int)) := by omega
  have HDE := hide (fun W (h : Rd W (.slice ao l.length cap) l) => decodeState_any _ l W h (by omega))
  have HRD := hide (fun W (h : Rd W (.slice ao l.length cap) l) => refDecodeState_any _ l W h)
  unfold Decoded at HDE HRD
  obtain ⟨⟨⟨dk, dL, ds, dg⟩, de⟩, hd⟩ : ∃ r, decS l = r := ⟨_, rfl⟩
  rw [hd] at HDE HRD
  clear hd hb
  simp only at *
  go_enter Try.func4, Try.ntmps4
  go_wp2_with fail
  refine (HA.out _).mono ?_
  rintro e W1 ⟨rfl, hb1⟩
  have HX1 := hide ((X1.out _).below hb1 (Nat.le_refl _))
  have HB1 := hide ((HB0.out _).trans (hb1.mono (by rw [S1.out]; omega)))
  clear hb1 HA X1
  obtain ⟨q0, -⟩ := HX1.out.cell 0
  obtain ⟨q1, -⟩ := HX1.out.cell 1
  obtain ⟨q2, -⟩ := HX1.out.cell 2
  obtain ⟨q3, -⟩ := HX1.out.cell 3
  go_wp2_with fail
  refine (HFW.out _ (HSV.out.below HB1.out (Nat.le_refl _))).mono ?_
  rintro e W2 ⟨rfl, hb2⟩
  have HX2 := hide (HX1.out.below hb2 (Nat.le_refl _))
  have HB2 := hide (HB1.out.trans (hb2.mono HB1.out.size))
  clear hb2 HX1 HB1 q0 q1 q2 q3
  obtain ⟨q0, -⟩ := HX2.out.cell 0
  obtain ⟨q1, -⟩ := HX2.out.cell 1
  obtain ⟨q2, -⟩ := HX2.out.cell 2
  obtain ⟨q3, -⟩ := HX2.out.cell 3
  go_wp2_with fail
  refine (HEN.out _ _ (HSV.out.below HB2.out (Nat.le_refl _))).mono ?_
  rintro e W3 ⟨v3, rfl, hr3, hb3⟩
  have HR3 := hide hr3
  have HX3 := hide (HX2.out.below hb3 (Nat.le_refl _))
  have HB3 := hide (HB2.out.trans (hb3.mono HB2.out.size))
  clear hr3 hb3 HX2 HB2 q0 q1 q2 q3
  obtain ⟨q0, -⟩ := HX3.out.cell 0
  obtain ⟨q1, -⟩ := HX3.out.cell 1
  obtain ⟨q2, -⟩ := HX3.out.cell 2
  obtain ⟨q3, -⟩ := HX3.out.cell 3
  go_wp2_with fail
  refine (HRE.out _ _ (HSV.out.below HB3.out (Nat.le_refl _))).mono ?_
  rintro e W4 ⟨v4, rfl, hr4, hb4⟩
  have HR4 := hide hr4.rd
  have HR34 := hide (HR3.out.below hb4 (Nat.le_refl _))
  have HB4 := hide (HB3.out.trans (hb4.mono HB3.out.size))
  clear hr4 hb4 HX3 HR3 HB3 q0 q1 q2 q3
  go_wp2_with fail
  refine (HDE.out _ (HR.out.below HB4.out (Nat.le_refl _))).mono ?_
  rintro e W5 ⟨v5, rfl, hr5, hk5, hg5, -, hb5⟩
  have HKI := hide hk5
  have HGI := hide hg5
  have HI5 := hide hr5
  obtain ⟨a5, c5, rfl, -⟩ := hr5
  have HR5 := hide (HR4.out.below hb5 (Nat.le_refl _))
  have HR35 := hide (HR34.out.below hb5 (Nat.le_refl _))
  have HB5 := hide (HB4.out.trans (hb5.mono HB4.out.size))
  clear hb5 HR4 HR34 HB4 hk5 hg5
  have HA5 : Hid (∀ X, Below W5.heap.size W5 (W5.alloc X)) := fun X => (Below.refl _ _).alloc (Nat.le_refl _) X
  have HBA : Hid (∀ X, Below w.heap.size w (W5.alloc X)) := fun X => HB5.out.trans ((HA5.out X).mono HB5.out.size)
  have X5 : Hid (∀ cs, Bx (W5.alloc (.cells cs 34)) W5.heap.size cs) := fun cs => heap_alloc_new W5 _
  go_wp2_with fail
  refine (HRD.out _ (HR.out.below (HBA.out _) (Nat.le_refl _))).mono ?_
  rintro e W6 ⟨v6, rfl, hr6, -, -, -, hb6⟩
  have HX6 := hide ((X5.out _).below hb6 (Nat.le_refl _))
  have hb56 := (HA5.out _).trans (hb6.mono (HA5.out _).size)
  have HB6 := hide (HB5.out.trans (hb56.mono HB5.out.size))
  have HA6 : Hid (∀ X, Below W6.heap.size W6 (W6.alloc X)) := fun X => (Below.refl _ _).alloc (Nat.le_refl _) X
  have X6 : Hid (∀ cs, Bx (W6.alloc (.cells cs 34)) W6.heap.size cs) := fun cs => heap_alloc_new W6 _
  have HI6 := hide hr6
  obtain ⟨a6, c6, rfl, -⟩ := hr6
  have HI56 := hide (HI5.out.below hb56 (Nat.le_refl _))
  have HR6 := hide (HR5.out.below hb56 (Nat.le_refl _))
  have HR36 := hide (HR35.out.below hb56 (Nat.le_refl _))
  clear hb6 hb56 HI5 HR5 HR35 HB5 HBA X5
  obtain ⟨q0, -⟩ := HX6.out.cell 0
  obtain ⟨q1, -⟩ := HX6.out.cell 1
  obtain ⟨q2, -⟩ := HX6.out.cell 2
  obtain ⟨q3, -⟩ := HX6.out.cell 3
  have l6 := HX6.out.lt
  go_wp2_with fail
  refine (HSL.out _ _ _ ⟨dk, dL, ds, dg⟩ ⟨_, rfl, HI56.out.below (HA6.out _) (Nat.le_refl _), HKI.out, HGI.out⟩ ⟨_, rfl, HI6.out.below (HA6.out _) (Nat.le_refl _), HKI.out, HGI.out⟩).mono ?_
  rintro e W7 ⟨rfl, hb7⟩
  have hb67 := (HA6.out _).trans (hb7.mono (HA6.out _).size)
  have c1 : (convert 22 9 v3).run Try.prog W7 = .ok (.string (bs E)) W7 := (HR36.out.below hb67 (Nat.le_refl _)).str
  have c2 : (convert 22 9 v4).run Try.prog W7 = .ok (.string (bs E)) W7 := (HR6.out.below hb67 (Nat.le_refl _)).str
  have HB7 := hide (HB6.out.trans (hb67.mono HB6.out.size))
  clear hb7 hb67 HR36 HR6 HB6 HA6 X6 HI6 HI56 q0 q1 q2 q3 HX6
  go_wp2
  go_ret
  exact ⟨rfl, HB7.out⟩

theorem own : ownKnob Try.prog.godebug = none := by kernel_rfl
theorem laidOut : laidOutB Try.prog = true := by kernel_rfl

set_option linter.unusedVariables false in
set_option maxRecDepth 100000 in
theorem lifted (os : Os) (started : os.Started) (H : Type) (enc : TypeId × Value → H) :
    ReturnsInHanded {} Try.checked os 4 .any (Rows.codecStatesSpec.pre6 enc Try.prog Try.f4 Rows.codecStatesRow.domain false) (Rows.codecStatesSpec.post enc Try.prog Try.f4 false true false false) := by
  refine returnsInHanded_of_change (C := Try.checked) own started (by kernel_rfl) Try.func4
    (ChangeSpec.witness6 (enc := enc) (C := Try.checked) false ⟨#[], #[.agg #[.int .i64 0, .slice none 0 0, .bool false, .int .i64 0], .slice none 0 0], []⟩ 8 (by kernel_rfl) (by kernel_rfl) (by kernel_rfl) (by kernel_rfl)) ?_
  intro W base args ds gs before hval0 hW hcnd _
  have hval : ∀ (j : Nat) t v, Try.f4.params[j]? = some t → args[j]? = some v → Value.okWide Try.prog W .any base t v := hval0
  have hW' := hW
  obtain ⟨p, q, hA0, hV, rfl, hfz, hnd⟩ := hW
  have hA : DataW.TrodAll enc Try.prog W 0 (fun _ => true) true Try.f4.params.toList args.toList ds p := hA0
  rw [Try.params4] at hA hval
  obtain ⟨v0, vs0, d0, ds0, p0, q0, hargs, rfl, rfl, h0, r0⟩ := trodAll_cons hA
  obtain ⟨v1, vs1, d1, ds1, p1, q1, rfl, rfl, rfl, h1, r1⟩ := trodAll_cons r0
  obtain ⟨rfl, rfl, rfl⟩ := trodAll_nil r1
  obtain rfl : args = #[v0, v1] := by cases args; simp_all
  obtain ⟨rfl, rfl⟩ := trodVars_none hV
  have k0 := h0
  have lt0 : ∀ x ∈ p0, x.block < W.heap.size := by obtain ⟨m, hm⟩ := k0; exact DataW.trod_lt m _ _ _ hm
  obtain ⟨s0, w0⟩ := open_state (hval 0 34 v0 rfl rfl) h0
  obtain ⟨a1, len1, cap1, rfl⟩ := okWide_slice Try.underlying22 (hval 1 22 v1 rfl rfl)
  have k1 := h1
  have lt1 : ∀ x ∈ p1, x.block < W.heap.size := by obtain ⟨m, hm⟩ := k1; exact DataW.trod_lt m _ _ _ hm
  obtain ⟨l1, w1⟩ : ∃ l, Rd W (.slice a1 len1 cap1) l := by
    obtain ⟨fuel, hf⟩ := h1
    rcases open_ints Try.underlying22 Try.underlying5 (by kernel_rfl) hf with ⟨hcs, _⟩ | ⟨x, l, c, zs, hcs, _, hl, hm, hz, _, hcell, hwz⟩
    · simp [Value.cells] at hcs
      obtain ⟨rfl, rfl, rfl⟩ := hcs
      exact ⟨[], Rd.nil _⟩
    · simp [Value.cells] at hcs
      obtain ⟨rfl, rfl, rfl⟩ := hcs
      exact ⟨_, Rd.ofRow hl hm (by simpa using hz) hcell hwz⟩
  clear hA0 hval0
  refine (walk _ s0 _ l1 W w0 w1).mono fun e W' ⟨he, bel⟩ => ?_
  subst he
  exact ⟨_, rfl, _, _, _, [], _, [], hW', trodAll_mk1 (shut_bool Try.underlying4 _), (trodAll_cons_mk (Below.trod laidOut (by kernel_rfl) (of_decide_eq_true (by kernel_rfl)) k0 bel lt0) (trodAll_cons_mk (Below.trod laidOut (by kernel_rfl) (of_decide_eq_true (by kernel_rfl)) k1 bel lt1) trodAll_mk0)), rfl, bel.frame _, fun h => by cases h⟩

theorem over : Rows.codecStatesRow.holds Try.pinned (OpenSpec.ofChange Rows.codecStatesSpec) :=
  OpenClaim.holds_of_wide 4 Try.f4 rfl rfl rfl rfl rfl rfl rfl ⟨rfl, rfl, rfl, rfl, rfl⟩ rfl rfl rfl rfl rfl (by kernel_rfl) Try.func4 (by kernel_rfl)
    (of_decide_eq_true (by kernel_rfl)) (by unfold Func.isWrapper; first | (rw [if_pos (by decide +kernel)]; kernel_rfl) | (rw [if_neg (by decide +kernel)]; exact ⟨rfl, rfl⟩))
    (fun os started H enc _ => lifted os started H enc)

end Go.Proofs.Ytcaalklpjpefjaa.codecStates
namespace Go.Proofs.Ytcaalklpjpefjaa

theorem codecStates_holds : Rows.CodecStatesSaid := codecStates.over

end Go.Proofs.Ytcaalklpjpefjaa
