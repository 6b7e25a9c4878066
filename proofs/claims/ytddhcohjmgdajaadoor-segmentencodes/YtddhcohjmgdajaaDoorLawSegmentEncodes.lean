/- Proved: for all versions and segments the law SegmentEncodes answers true (and the call leaves all older memory as it was). Its condition: what schema's table holds, where the card lists it. -/
import Derived.Test.YtddhcohjmgdajaaDoorSegAwake
import Derived.Test.YtddhcohjmgdajaaDoorOpenSeg
import Derived.Deep.RegionHeld
import Derived.OpenShut
import Derived.ChangeOld
namespace Go.Proofs.YtddhcohjmgdajaaDoor.segmentEncodes
open Go.ChangeShapes Go.WideShapes Go.ChangeAt Go.RowKit

set_option maxRecDepth 100000 in
set_option maxHeartbeats 4000000 in
theorem walk (v : Int) (vs : Value) (s : Seg) (w : World) (_hv : (Lit.int .i64 v).wf = true) (hs : SgV w vs s) (ht : TabF w) :
    Calls Tryd.prog 3 #[.int .i64 v, vs] w fun e w' => e = .returned (.bool true) ∧ Below w.heap.size w w' := by
  have HA := hide (fun W (hb : Below w.heap.size w W) => awake8_any W (ht.below hb (Nat.le_refl _)))
  have HB0 : Hid (∀ X, Below w.heap.size w (w.alloc X)) := fun X => (Below.refl _ _).alloc (Nat.le_refl _) X
  have X1 : Hid (∀ cs, Bsg (w.alloc (.cells cs 24)) w.heap.size cs) := fun cs => heap_alloc_new w _
  have HSV := hide hs
  obtain ⟨vl, rfl, hr, -, -⟩ := hs
  have HR := hide hr
  obtain ⟨al, cl, rfl, -⟩ := hr
  by_cases hb : (s.recs.length : Int) ≤ 100
  case neg =>
    have hb' : 100 < (s.recs.length : Int) := by omega
    clear hb
    go_enter Tryd.func3, Tryd.ntmps3
    go_wp2_with fail
    refine (HA.out _ (HB0.out _)).mono ?_
    rintro e W1 ⟨rfl, hb1⟩
    have HX1 := hide ((X1.out _).below hb1 (Nat.le_refl _))
    have HB1 := hide ((HB0.out _).trans (hb1.mono (HB0.out _).size))
    obtain ⟨q2, -⟩ := HX1.out.cell 2
    clear hb1
    go_wp2
    go_ret
    exact ⟨rfl, HB1.out⟩
  have hb' : ¬ 100 < (s.recs.length : Int) := by omega
  have HEN := hide (fun W (hb : Below w.heap.size w W) => encodeG_any v _ s W (HSV.out.below hb (Nat.le_refl _)) (by omega) (ht.below hb (Nat.le_refl _)))
  have HRE := hide (fun W (hb : Below w.heap.size w W) => refEncodeG_any v _ s W (HSV.out.below hb (Nat.le_refl _)))
  have HHE := hide (fun W (hb : Below w.heap.size w W) => headG_any v s.kind s.first W (ht.below hb (Nat.le_refl _)))
  have HRH := hide (fun W => refHead_any v s.kind s.first W)
  have HBO := hide (fun W (hb : Below w.heap.size w W) => bodyG_any v _ s.recs W (HR.out.below hb (Nat.le_refl _)) (by omega) (ht.below hb (Nat.le_refl _)))
  have HRB := hide (fun W (hb : Below w.heap.size w W) => refBody_any v _ s.recs W (HR.out.below hb (Nat.le_refl _)))
  unfold EncodedG at HEN HRE
  unfold Headed at HHE HRH
  unfold Bodied at HBO HRB
  generalize segErr v s = e1 at *
  generalize segL v s = E at *
  generalize headErr v s.kind s.first = e2 at *
  generalize headL v s.kind s.first = H at *
  generalize bodyErr v s.recs = e3 at *
  generalize bodyL v s.recs = B at *
  obtain ⟨kind, first, recs⟩ := s
  simp only at *
  clear hb
  go_enter Tryd.func3, Tryd.ntmps3
  go_wp2_with fail
  refine (HA.out _ (HB0.out _)).mono ?_
  rintro e W1 ⟨rfl, hb1⟩
  have HX1 := hide ((X1.out _).below hb1 (Nat.le_refl _))
  have HB1 := hide ((HB0.out _).trans (hb1.mono (HB0.out _).size))
  clear hb1 HA X1 HB0
  obtain ⟨q0, -⟩ := HX1.out.cell 0
  obtain ⟨q1, -⟩ := HX1.out.cell 1
  obtain ⟨q2, -⟩ := HX1.out.cell 2
  go_wp2_with fail
  refine (HEN.out _ HB1.out).mono ?_
  rintro e W2 ⟨v2, rfl, ho2, hb2⟩
  have HO2_2 := hide ho2.rd
  have HX2 := hide (HX1.out.below hb2 (Nat.le_refl _))
  have HB2 := hide (HB1.out.trans (hb2.mono HB1.out.size))
  clear ho2 hb2 HX1 HB1 HEN q0 q1 q2
  obtain ⟨q0, -⟩ := HX2.out.cell 0
  obtain ⟨q1, -⟩ := HX2.out.cell 1
  obtain ⟨q2, -⟩ := HX2.out.cell 2
  go_wp2_with fail
  refine (HRE.out _ HB2.out).mono ?_
  rintro e W3 ⟨v3, rfl, ho3, hb3⟩
  have HO2_3 := hide (HO2_2.out.below hb3 (Nat.le_refl _))
  have HO3_3 := hide ho3.rd
  have HX3 := hide (HX2.out.below hb3 (Nat.le_refl _))
  have HB3 := hide (HB2.out.trans (hb3.mono HB2.out.size))
  clear ho3 hb3 HX2 HB2 HRE q0 q1 q2
  clear HO2_2
  obtain ⟨q0, -⟩ := HX3.out.cell 0
  obtain ⟨q1, -⟩ := HX3.out.cell 1
  go_wp2_with fail
  refine (HHE.out _ HB3.out).mono ?_
  rintro e W4 ⟨v4, rfl, ho4, hb4⟩
  have HO2_4 := hide (HO2_3.out.below hb4 (Nat.le_refl _))
  have HO3_4 := hide (HO3_3.out.below hb4 (Nat.le_refl _))
  have HO4_4 := hide ho4.rd
  have HX4 := hide (HX3.out.below hb4 (Nat.le_refl _))
  have HB4 := hide (HB3.out.trans (hb4.mono HB3.out.size))
  clear ho4 hb4 HX3 HB3 HHE q0 q1
  clear HO2_3 HO3_3
  obtain ⟨q0, -⟩ := HX4.out.cell 0
  obtain ⟨q1, -⟩ := HX4.out.cell 1
  go_wp2_with fail
  refine (HRH.out _).mono ?_
  rintro e W5 ⟨v5, rfl, ho5, hb5⟩
  have HO2_5 := hide (HO2_4.out.below hb5 (Nat.le_refl _))
  have HO3_5 := hide (HO3_4.out.below hb5 (Nat.le_refl _))
  have HO4_5 := hide (HO4_4.out.below hb5 (Nat.le_refl _))
  have HO5_5 := hide ho5.rd
  have HX5 := hide (HX4.out.below hb5 (Nat.le_refl _))
  have HB5 := hide (HB4.out.trans (hb5.mono HB4.out.size))
  clear ho5 hb5 HX4 HB4 HRH q0 q1
  clear HO2_4 HO3_4 HO4_4
  obtain ⟨q2, -⟩ := HX5.out.cell 2
  go_wp2_with fail
  refine (HBO.out _ HB5.out).mono ?_
  rintro e W6 ⟨v6, rfl, ho6, hb6⟩
  have HO2_6 := hide (HO2_5.out.below hb6 (Nat.le_refl _))
  have HO3_6 := hide (HO3_5.out.below hb6 (Nat.le_refl _))
  have HO4_6 := hide (HO4_5.out.below hb6 (Nat.le_refl _))
  have HO5_6 := hide (HO5_5.out.below hb6 (Nat.le_refl _))
  have HO6_6 := hide ho6.rd
  have HX6 := hide (HX5.out.below hb6 (Nat.le_refl _))
  have HB6 := hide (HB5.out.trans (hb6.mono HB5.out.size))
  clear ho6 hb6 HX5 HB5 HBO q2
  clear HO2_5 HO3_5 HO4_5 HO5_5
  obtain ⟨q2, -⟩ := HX6.out.cell 2
  go_wp2_with fail
  refine (HRB.out _ HB6.out).mono ?_
  rintro e W7 ⟨v7, rfl, ho7, hb7⟩
  have HO2_7 := hide (HO2_6.out.below hb7 (Nat.le_refl _))
  have HO3_7 := hide (HO3_6.out.below hb7 (Nat.le_refl _))
  have HO4_7 := hide (HO4_6.out.below hb7 (Nat.le_refl _))
  have HO5_7 := hide (HO5_6.out.below hb7 (Nat.le_refl _))
  have HO6_7 := hide (HO6_6.out.below hb7 (Nat.le_refl _))
  have HO7_7 := hide ho7.rd
  have HX7 := hide (HX6.out.below hb7 (Nat.le_refl _))
  have HB7 := hide (HB6.out.trans (hb7.mono HB6.out.size))
  clear ho7 hb7 HX6 HB6 HRB q2
  clear HO2_6 HO3_6 HO4_6 HO5_6 HO6_6
  have s2 := HO2_7.out.str
  have s3 := HO3_7.out.str
  have s4 := HO4_7.out.str
  have s5 := HO5_7.out.str
  have s6 := HO6_7.out.str
  have s7 := HO7_7.out.str
  go_wp2
  go_ret
  exact ⟨rfl, HB7.out⟩

theorem own : ownKnob Tryd.prog.godebug = none := by kernel_rfl
theorem laidOut : laidOutB Tryd.prog = true := by kernel_rfl

set_option linter.unusedVariables false in
set_option maxRecDepth 100000 in
theorem lifted (os : Os) (started : os.Started) (H : Type) (enc : TypeId × Value → H) :
    ReturnsInHanded {} Tryd.checked os 3 .any (fun w args => (Rows.segmentEncodesSpec.pre enc Tryd.prog Tryd.f3 Rows.segmentEncodesRow.domain false w args ∧ laidMetH Tryd.prog Rows.segmentEncodesRow.laid w) ∧ sizedMet enc Tryd.prog Tryd.f3 (OpenSpec.ofChange Rows.segmentEncodesSpec) false w args) (Rows.segmentEncodesSpec.post enc Tryd.prog Tryd.f3 false true false false) := by
  refine returnsInHanded_of_change_and (C := Tryd.checked) (X := fun w _ => laidMetH Tryd.prog Rows.segmentEncodesRow.laid w) (fun _ _ _ hh h => h.of_heap hh) own started (by kernel_rfl) Tryd.func3
    (ChangeSpec.witness_shaped (enc := enc) (C := Tryd.checked) (os := os) (X := fun w _ => laidMetH Tryd.prog Rows.segmentEncodesRow.laid w) false (World.doorLaid Tryd.prog 400 os) #[.int .i64 0, .agg #[.int .i64 0, .int .i64 0, .slice none 0 0]] 8 rfl (World.shaped_of_RefB (by kernel_rfl) (by kernel_rfl)) (by kernel_rfl) (by kernel_rfl) (by kernel_rfl) (door_met os _)) ?_
  intro W base args ds gs before hval0 hW hcnd _ hL _
  have hval : ∀ (j : Nat) t v, Tryd.f3.params[j]? = some t → args[j]? = some v → Value.okWide Tryd.prog W .any base t v := hval0
  have hW' := hW
  obtain ⟨p, q, hA0, hV, rfl, hfz, hnd⟩ := hW
  have hA : DataW.TrodAll enc Tryd.prog W 0 (fun _ => true) true Tryd.f3.params.toList args.toList ds p := hA0
  rw [Tryd.params3] at hA hval
  obtain ⟨v0, vs0, d0, ds0, p0, q0, hargs, rfl, rfl, h0, r0⟩ := trodAll_cons hA
  obtain ⟨v1, vs1, d1, ds1, p1, q1, rfl, rfl, rfl, h1, r1⟩ := trodAll_cons r0
  obtain ⟨rfl, rfl, rfl⟩ := trodAll_nil r1
  obtain rfl : args = #[v0, v1] := by cases args; simp_all
  obtain ⟨rfl, rfl⟩ := trodVars_none hV
  obtain ⟨a0, rfl, rfl, rfl, w0⟩ := open_int Tryd.underlying3 (hval 0 3 v0 rfl rfl) h0
  have k1 := h1
  have lt1 : ∀ x ∈ p1, x.block < W.heap.size := by obtain ⟨m, hm⟩ := k1; exact DataW.trod_lt m _ _ _ hm
  obtain ⟨s1, w1⟩ := open_seg (hval 1 24 v1 rfl rfl) h1
  clear hA0 hval0
  refine (walk a0 _ s1 W w0 w1 (tabs hL)).mono fun e W' ⟨he, bel⟩ => ?_
  subst he
  exact ⟨_, rfl, _, _, _, [], _, [], hW', trodAll_mk1 (shut_bool Tryd.underlying4 _), (trodAll_cons_mk (shut_int Tryd.underlying3 w0) (trodAll_cons_mk (Below.trod laidOut (by kernel_rfl) (of_decide_eq_true (by kernel_rfl)) k1 bel lt1) trodAll_mk0)), rfl, bel.frame _, fun h => by cases h⟩

theorem over : Rows.segmentEncodesRow.holds Tryd.pinned (OpenSpec.ofChange Rows.segmentEncodesSpec) :=
  OpenClaim.holds_of_wide 3 Tryd.f3 rfl rfl rfl rfl rfl rfl rfl ⟨rfl, rfl, rfl, rfl, rfl⟩ rfl rfl rfl rfl rfl (by kernel_rfl) Tryd.func3 (by kernel_rfl)
    (of_decide_eq_true (by kernel_rfl)) (by unfold Func.isWrapper; first | (rw [if_pos (by decide +kernel)]; kernel_rfl) | (rw [if_neg (by decide +kernel)]; exact ⟨rfl, rfl⟩))
    (fun os started H enc _ => lifted os started H enc)

end Go.Proofs.YtddhcohjmgdajaaDoor.segmentEncodes
namespace Go.Proofs.YtddhcohjmgdajaaDoor

set_option maxRecDepth 100000 in
theorem segmentEncodes_holds : Rows.SegmentEncodesCardSaid :=
  Claim7.holds_tied_plain_at .later [] _ _ _ _ segmentEncodes.over (fun _ h => by cases h) (by kernel_rfl) (fun _ h => by cases h) segmentEncodes_row_tie rfl ⟨rfl, rfl⟩ (by kernel_rfl) rfl
    (fun f fn hf hfn => by
      obtain rfl : f = 3 := Option.some.inj ((show Tryd.prog.funcNamed "ferryman/ferrymanlaw08.SegmentEncodes" = some 3 by kernel_rfl).symm.trans hf) |>.symm
      obtain rfl : fn = Tryd.f3 := (Option.some.inj (Tryd.func3.symm.trans hfn)).symm
      exact ⟨by kernel_rfl, fun j t ht => by
        rw [Tryd.params3] at ht
        have hm : t ∈ [3, 24] := by simpa using Array.mem_of_getElem? ht
        have hall : ([3, 24].all fun u => !Tryd.prog.wantsStandIn u) = true := by kernel_rfl
        exact (show Tryd.prog.wantsStandIn t = false by simpa using List.all_eq_true.1 hall t hm)⟩)
    (by kernel_rfl)

end Go.Proofs.YtddhcohjmgdajaaDoor
