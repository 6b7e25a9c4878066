/- Proved: for all versions, segments and numbers of blocks the law SegmentParts answers true (and the call leaves all older memory as it was). Its condition: what schema's table holds, where the card lists it. -/
import Derived.Test.YtddhcohjmgdajabDoorSegAwake
import Derived.Test.YtddhcohjmgdajabDoorOpenSeg
import Derived.Test.YtddhcohjmgdajabDoorSegGrow
import Derived.Deep.RegionHeld
import Derived.OpenShut
import Derived.ChangeOld
namespace Go.Proofs.YtddhcohjmgdajabDoor.segmentParts
open Go.ChangeShapes Go.WideShapes Go.ChangeAt Go.RowKit

set_option maxRecDepth 100000 in
set_option maxHeartbeats 16000000 in
theorem walk (v : Int) (vs : Value) (s : Seg) (k : Int) (w : World) (_hv : (Lit.int .i64 v).wf = true) (hs : SgV w vs s) (_hc : (Lit.int .i64 k).wf = true) (ht : TabF w) :
    Calls Tryd.prog 4 #[.int .i64 v, vs, .int .i64 k] w fun e w' => e = .returned (.bool true) ∧ Below w.heap.size w w' := by
  have HA := hide (fun W (hb : Below w.heap.size w W) => awake8_any W (ht.below hb (Nat.le_refl _)))
  have HB0 : Hid (∀ X, Below w.heap.size w (w.alloc X)) := fun X => (Below.refl _ _).alloc (Nat.le_refl _) X
  have X1 : Hid (∀ cs, Bsg (w.alloc (.cells cs 24)) w.heap.size cs) := fun cs => heap_alloc_new w _
  have HSV := hide hs
  obtain ⟨vl, rfl, hr, -, -⟩ := hs
  have HRR := hide hr
  obtain ⟨al, cl, rfl, hcap, -⟩ := hr
  have HCAP := hide hcap
  clear hcap
  by_cases hb : (s.recs.length : Int) ≤ 100
  case neg =>
    have hb' : 100 < (s.recs.length : Int) := by omega
    clear hb
    go_enter Tryd.func4, Tryd.ntmps4
    go_wp2_with fail
    refine (HA.out _ (HB0.out _)).mono ?_
    rintro e W1 ⟨rfl, hb1⟩
    have HX1 := hide ((X1.out _).below hb1 (Nat.le_refl _))
    have HB1 := hide ((HB0.out _).trans (hb1.mono (HB0.out _).size))
    obtain ⟨q2, -⟩ := HX1.out.cell 2
    clear hb1
    go_wp2
    go_ret
    exact ⟨rfl, HB1.out⟩
  have hb' : ¬ 100 < (s.recs.length : Int) := by omega
  by_cases hk0 : k < 0
  · clear hb
    go_enter Tryd.func4, Tryd.ntmps4
    go_wp2_with fail
    refine (HA.out _ (HB0.out _)).mono ?_
    rintro e W1 ⟨rfl, hb1⟩
    have HX1 := hide ((X1.out _).below hb1 (Nat.le_refl _))
    have HB1 := hide ((HB0.out _).trans (hb1.mono (HB0.out _).size))
    obtain ⟨q2, -⟩ := HX1.out.cell 2
    clear hb1
    go_wp2
    go_ret
    exact ⟨rfl, HB1.out⟩
  by_cases hk1 : 10 < k
  · clear hb
    go_enter Tryd.func4, Tryd.ntmps4
    go_wp2_with fail
    refine (HA.out _ (HB0.out _)).mono ?_
    rintro e W1 ⟨rfl, hb1⟩
    have HX1 := hide ((X1.out _).below hb1 (Nat.le_refl _))
    have HB1 := hide ((HB0.out _).trans (hb1.mono (HB0.out _).size))
    obtain ⟨q2, -⟩ := HX1.out.cell 2
    clear hb1
    go_wp2
    go_ret
    exact ⟨rfl, HB1.out⟩
  have hk2 : 0 ≤ k ∧ k ≤ 10 := by omega
  by_cases hk3 : (s.recs.length : Int) < k * 16
  · clear hb
    go_enter Tryd.func4, Tryd.ntmps4
    go_wp2_with fail
    refine (HA.out _ (HB0.out _)).mono ?_
    rintro e W1 ⟨rfl, hb1⟩
    have HX1 := hide ((X1.out _).below hb1 (Nat.le_refl _))
    have HB1 := hide ((HB0.out _).trans (hb1.mono (HB0.out _).size))
    obtain ⟨q2, -⟩ := HX1.out.cell 2
    clear hb1
    go_wp2
    go_ret
    exact ⟨rfl, HB1.out⟩
  obtain ⟨m, rfl⟩ : ∃ m : Nat, k = (m : Int) := ⟨k.toNat, by omega⟩
  have hml : 16 * m ≤ s.recs.length := by omega
  have HCF : Hid (∀ W, Below w.heap.size w W → ∃ v', (Instr.sliceAt 22 (.slice al s.recs.length cl) none (some (.int .i64 ((m : Int) * 16))) none).run Tryd.prog W = .ok v' W ∧ RdR W v' (s.recs.take (16 * m))) := hide (fun W hb => by
    have h := run_cutR_h W _ s.recs (HRR.out.below hb (Nat.le_refl _)) .i64 ((m : Int) * 16) (by omega) (by omega)
    have e : ((m : Int) * 16).toNat = 16 * m := by omega
    rw [e] at h
    exact h)
  have HCB : Hid (∀ W, Below w.heap.size w W → ∃ v', (Instr.sliceAt 22 (.slice al s.recs.length cl) (some (.int .i64 ((m : Int) * 16))) none none).run Tryd.prog W = .ok v' W ∧ RdR W v' (s.recs.drop (16 * m))) := hide (fun W hb => by
    have h := run_cutR_l W _ s.recs (HRR.out.below hb (Nat.le_refl _)) .i64 ((m : Int) * 16) (by omega) (by omega)
    have e : ((m : Int) * 16).toNat = 16 * m := by omega
    rw [e] at h
    exact h)
  have HBD := hide (fun v1 l W (h : RdR W v1 l) (hl : l.length ≤ 100) (hb : Below w.heap.size w W) => bodyG_any v v1 l W h (by omega) (ht.below hb (Nat.le_refl _)))
  unfold Bodied at HBD
  have HL1 : Hid ((s.recs.take (16 * m)).length ≤ 100) := hide (by rw [List.length_take]; omega)
  have HL2 : Hid ((s.recs.drop (16 * m)).length ≤ 100) := hide (by rw [List.length_drop]; omega)
  have HL3 : Hid (s.recs.length ≤ 100) := hide (by omega)
  have HBA := hide (fun v1 W h hb => HBD.out v1 _ W h HL1.out hb)
  have HBB := hide (fun v1 W h hb => HBD.out v1 _ W h HL2.out hb)
  have HBC := hide (fun v1 W h hb => HBD.out v1 _ W h HL3.out hb)
  have HFIN : Hid (bodyErr v s.recs ≠ 0 ∨ bodyErr v s.recs = 0 ∧ bodyErr v (s.recs.take (16 * m)) = 0 ∧ bodyErr v (s.recs.drop (16 * m)) = 0 ∧ bodyL v s.recs = bodyL v (s.recs.take (16 * m)) ++ bodyL v (s.recs.drop (16 * m))) := hide (by
    rcases body_cases v s.recs with h | ⟨n, rfl, hn1, hn3, hok⟩
    · exact .inl h
    · obtain ⟨o1, o2⟩ := recsOk_two hok m hml
      have b0 := body_of hn1 hn3 hok
      have b1 := body_of hn1 hn3 o1
      have b2 := body_of hn1 hn3 o2
      refine .inr ⟨b0.1, b1.1, b2.1, ?_⟩
      rw [b0.2, b1.2, b2.2]
      exact frames_two n s.recs m hml)
  clear HL1 HL2 HL3 HBD hb hml
  generalize bodyErr v s.recs = eC at *
  generalize bodyErr v (s.recs.take (16 * m)) = eA at *
  generalize bodyErr v (s.recs.drop (16 * m)) = eB at *
  generalize bodyL v s.recs = lC at *
  generalize bodyL v (s.recs.take (16 * m)) = lA at *
  generalize bodyL v (s.recs.drop (16 * m)) = lB at *
  obtain ⟨kind, first, recs⟩ := s
  simp only at *
  go_enter Tryd.func4, Tryd.ntmps4
  go_wp2_with fail
  refine (HA.out _ (HB0.out _)).mono ?_
  rintro e W1 ⟨rfl, hb1⟩
  have HX1 := hide ((X1.out _).below hb1 (Nat.le_refl _))
  have HB1 := hide ((HB0.out _).trans (hb1.mono (HB0.out _).size))
  obtain ⟨q2, -⟩ := HX1.out.cell 2
  clear hb1
  have HC1 := hide (HCF.out W1 HB1.out)
  go_wp2_with (refine wpList_cutR _ rfl _ _ _ _ rfl _ HC1.out ?_)
  intro va hra
  have HRA := hide hra
  clear hra HC1
  go_wp2_with fail
  refine (HBA.out _ _ HRA.out HB1.out).mono ?_
  rintro e W2 ⟨v2, rfl, ho2, hb2⟩
  have HO2 := hide ho2.rd
  have HX2 := hide (HX1.out.below hb2 (Nat.le_refl _))
  have HB2 := hide (HB1.out.trans (hb2.mono HB1.out.size))
  clear ho2 hb2 q2 HX1 HB1 HRA
  obtain ⟨q2, -⟩ := HX2.out.cell 2
  have HC2 := hide (HCB.out W2 HB2.out)
  go_wp2_with (refine wpList_cutR _ rfl _ _ _ _ rfl _ HC2.out ?_)
  intro vb hrb
  have HRB := hide hrb
  clear hrb HC2
  go_wp2_with fail
  refine (HBB.out _ _ HRB.out HB2.out).mono ?_
  rintro e W3 ⟨v3, rfl, ho3, hb3⟩
  have HO3 := hide ho3.rd
  have HO23 := hide (HO2.out.below hb3 (Nat.le_refl _))
  have HX3 := hide (HX2.out.below hb3 (Nat.le_refl _))
  have HB3 := hide (HB2.out.trans (hb3.mono HB2.out.size))
  clear ho3 hb3 q2 HX2 HB2 HRB HO2
  obtain ⟨q2, -⟩ := HX3.out.cell 2
  have HRC := hide (HRR.out.below HB3.out (Nat.le_refl _))
  go_wp2_with fail
  refine (HBC.out _ _ HRC.out HB3.out).mono ?_
  rintro e W4 ⟨v4, rfl, ho4, hb4⟩
  have HO4 := hide ho4.rd
  have HO24 := hide (HO23.out.below hb4 (Nat.le_refl _))
  have HO34 := hide (HO3.out.below hb4 (Nat.le_refl _))
  have HB4 := hide (HB3.out.trans (hb4.mono HB3.out.size))
  clear ho4 hb4 q2 HX3 HB3 HO23 HO3 HRC
  have hfin := HFIN.out
  clear HFIN
  rcases hfin with he | ⟨rfl, rfl, rfl, hcat⟩
  · have he' : (eC != 0) = true := by rw [bne_iff_ne]; exact he
    clear he
    go_wp2
    go_ret
    exact ⟨rfl, HB4.out⟩
  have d1 := HO4.out.str
  have d2 := HO24.out.str
  have d3 := HO34.out.str
  have hsz : ¬ 9223372036854775807 < (bs lA).size + (bs lB).size := by
    rw [bs_size, bs_size]
    obtain ⟨_, _, _, h1, h2, _⟩ := HO4.out
    unfold maxLen at h2
    have h3 := congrArg List.length hcat
    rw [List.length_append] at h3
    omega
  have hse : ((bs lC).toList == (bs lA ++ bs lB).toList) = true := by
    rw [bs_app, beq_iff_eq, hcat]
  clear hcat
  go_wp2
  go_ret
  exact ⟨rfl, HB4.out⟩

theorem own : ownKnob Tryd.prog.godebug = none := by kernel_rfl
theorem laidOut : laidOutB Tryd.prog = true := by kernel_rfl

set_option linter.unusedVariables false in
set_option maxRecDepth 100000 in
theorem lifted (os : Os) (started : os.Started) (H : Type) (enc : TypeId × Value → H) :
    ReturnsInHanded {} Tryd.checked os 4 .any (fun w args => (Rows.segmentPartsSpec.pre enc Tryd.prog Tryd.f4 Rows.segmentPartsRow.domain false w args ∧ laidMetH Tryd.prog Rows.segmentPartsRow.laid w) ∧ sizedMet enc Tryd.prog Tryd.f4 (OpenSpec.ofChange Rows.segmentPartsSpec) false w args) (Rows.segmentPartsSpec.post enc Tryd.prog Tryd.f4 false true false false) := by
  refine returnsInHanded_of_change_and (C := Tryd.checked) (X := fun w _ => laidMetH Tryd.prog Rows.segmentPartsRow.laid w) (fun _ _ _ hh h => h.of_heap hh) own started (by kernel_rfl) Tryd.func4
    (ChangeSpec.witness_shaped (enc := enc) (C := Tryd.checked) (os := os) (X := fun w _ => laidMetH Tryd.prog Rows.segmentPartsRow.laid w) false (World.doorLaid Tryd.prog 400 os) #[.int .i64 0, .agg #[.int .i64 0, .int .i64 0, .slice none 0 0], .int .i64 0] 8 rfl (World.shaped_of_RefB (by kernel_rfl) (by kernel_rfl)) (by kernel_rfl) (by kernel_rfl) (by kernel_rfl) (door_met os _)) ?_
  intro W base args ds gs before hval0 hW hcnd _ hL _
  have hval : ∀ (j : Nat) t v, Tryd.f4.params[j]? = some t → args[j]? = some v → Value.okWide Tryd.prog W .any base t v := hval0
  have hW' := hW
  obtain ⟨p, q, hA0, hV, rfl, hfz, hnd⟩ := hW
  have hA : DataW.TrodAll enc Tryd.prog W 0 (fun _ => true) true Tryd.f4.params.toList args.toList ds p := hA0
  rw [Tryd.params4] at hA hval
  obtain ⟨v0, vs0, d0, ds0, p0, q0, hargs, rfl, rfl, h0, r0⟩ := trodAll_cons hA
  obtain ⟨v1, vs1, d1, ds1, p1, q1, rfl, rfl, rfl, h1, r1⟩ := trodAll_cons r0
  obtain ⟨v2, vs2, d2, ds2, p2, q2, rfl, rfl, rfl, h2, r2⟩ := trodAll_cons r1
  obtain ⟨rfl, rfl, rfl⟩ := trodAll_nil r2
  obtain rfl : args = #[v0, v1, v2] := by cases args; simp_all
  obtain ⟨rfl, rfl⟩ := trodVars_none hV
  obtain ⟨a0, rfl, rfl, rfl, w0⟩ := open_int Tryd.underlying3 (hval 0 3 v0 rfl rfl) h0
  have k1 := h1
  have lt1 : ∀ x ∈ p1, x.block < W.heap.size := by obtain ⟨m, hm⟩ := k1; exact DataW.trod_lt m _ _ _ hm
  obtain ⟨s1, w1⟩ := open_seg (hval 1 24 v1 rfl rfl) h1
  obtain ⟨a2, rfl, rfl, rfl, w2⟩ := open_int Tryd.underlying3 (hval 2 3 v2 rfl rfl) h2
  clear hA0 hval0
  refine (walk a0 _ s1 a2 W w0 w1 w2 (tabs hL)).mono fun e W' ⟨he, bel⟩ => ?_
  subst he
  exact ⟨_, rfl, _, _, _, [], _, [], hW', trodAll_mk1 (shut_bool Tryd.underlying4 _), (trodAll_cons_mk (shut_int Tryd.underlying3 w0) (trodAll_cons_mk (Below.trod laidOut (by kernel_rfl) (of_decide_eq_true (by kernel_rfl)) k1 bel lt1) (trodAll_cons_mk (shut_int Tryd.underlying3 w2) trodAll_mk0))), rfl, bel.frame _, fun h => by cases h⟩

theorem over : Rows.segmentPartsRow.holds Tryd.pinned (OpenSpec.ofChange Rows.segmentPartsSpec) :=
  OpenClaim.holds_of_wide 4 Tryd.f4 rfl rfl rfl rfl rfl rfl rfl ⟨rfl, rfl, rfl, rfl, rfl⟩ rfl rfl rfl rfl rfl (by kernel_rfl) Tryd.func4 (by kernel_rfl)
    (of_decide_eq_true (by kernel_rfl)) (by unfold Func.isWrapper; first | (rw [if_pos (by decide +kernel)]; kernel_rfl) | (rw [if_neg (by decide +kernel)]; exact ⟨rfl, rfl⟩))
    (fun os started H enc _ => lifted os started H enc)

end Go.Proofs.YtddhcohjmgdajabDoor.segmentParts
namespace Go.Proofs.YtddhcohjmgdajabDoor

set_option maxRecDepth 100000 in
theorem segmentParts_holds : Rows.SegmentPartsCardSaid :=
  Claim7.holds_tied_plain_at .later [] _ _ _ _ segmentParts.over (fun _ h => by cases h) (by kernel_rfl) (fun _ h => by cases h) segmentParts_row_tie rfl ⟨rfl, rfl⟩ (by kernel_rfl) rfl
    (fun f fn hf hfn => by
      obtain rfl : f = 4 := Option.some.inj ((show Tryd.prog.funcNamed "ferryman/ferrymanlaw08.SegmentParts" = some 4 by kernel_rfl).symm.trans hf) |>.symm
      obtain rfl : fn = Tryd.f4 := (Option.some.inj (Tryd.func4.symm.trans hfn)).symm
      exact ⟨by kernel_rfl, fun j t ht => by
        rw [Tryd.params4] at ht
        have hm : t ∈ [3, 24, 3] := by simpa using Array.mem_of_getElem? ht
        have hall : ([3, 24, 3].all fun u => !Tryd.prog.wantsStandIn u) = true := by kernel_rfl
        exact (show Tryd.prog.wantsStandIn t = false by simpa using List.all_eq_true.1 hall t hm)⟩)
    (by kernel_rfl)

end Go.Proofs.YtddhcohjmgdajabDoor
