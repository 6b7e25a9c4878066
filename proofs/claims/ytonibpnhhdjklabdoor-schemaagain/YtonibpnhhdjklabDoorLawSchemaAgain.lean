/- Proved: for all versions and records the law SchemaAgain answers true (and the call leaves all older memory as it was). Its condition: the package-level variable schema.fieldsOf starts as the program's text lays it (the card ties it to that text, by the deep look, over the pruned copy). -/
import Derived.Test.YtonibpnhhdjklabDoorSchemaAwake
import Derived.Test.YtonibpnhhdjklabDoorOpenSchema
import Derived.OpenShut
import Derived.ChangeOld
namespace Go.Proofs.YtonibpnhhdjklabDoor.schemaAgain
open Go.ChangeShapes Go.WideShapes Go.ChangeAt Go.RowKit

set_option maxRecDepth 100000 in
set_option maxHeartbeats 2000000 in
theorem walk (v : Int) (r : Rec) (w : World) (_hv : (Lit.int .i64 v).wf = true) (_hr : RecOk r) (ht : TabF w) :
    Calls Tryd.prog 4 #[.int .i64 v, recV r] w fun e w' => e = .returned (.bool true) ∧ Below w.heap.size w w' := by
  have HA := hide (fun W (hb : Below w.heap.size w W) => awake6_any W (ht.below hb (Nat.le_refl _)))
  have HB0 : Hid (∀ X, Below w.heap.size w (w.alloc X)) := fun X => (Below.refl _ _).alloc (Nat.le_refl _) X
  have S1 : Hid (∀ X, (w.alloc X).heap.size = w.heap.size + 1) := fun X => by simp
  have X1 : Hid (∀ cs, Br (w.alloc (.cells cs 25)) w.heap.size cs) := fun cs => heap_alloc_new w _
  have hgd := guard_rec
  have HUP := hide (fun W (hb : Below w.heap.size w W) => upgrade_any v r W (ht.below hb (Nat.le_refl _)))
  unfold recV at HUP ⊢
  by_cases hv : 1 ≤ v ∧ v ≤ 3
  case neg =>
    rw [if_neg hv, if_neg hv] at HUP
    generalize zeroR = X at *
    clear hv
    go_enter Tryd.func4, Tryd.ntmps4
    go_wp2_with fail
    refine (HA.out _ (HB0.out _)).mono ?_
    rintro e W1 ⟨rfl, hb1⟩
    have HX1 := hide ((X1.out _).below hb1 (Nat.le_refl _))
    have HB1 := hide ((HB0.out _).trans (hb1.mono (by rw [S1.out]; omega)))
    clear hb1 HA X1
    obtain ⟨q0, -⟩ := HX1.out.cell 0
    obtain ⟨q1, -⟩ := HX1.out.cell 1
    obtain ⟨q2, -⟩ := HX1.out.cell 2
    obtain ⟨q3, -⟩ := HX1.out.cell 3
    obtain ⟨q4, -⟩ := HX1.out.cell 4
    obtain ⟨q5, -⟩ := HX1.out.cell 5
    obtain ⟨q6, -⟩ := HX1.out.cell 6
    go_wp2_with fail
    refine (HUP.out _ HB1.out).mono ?_
    rintro e W2 ⟨rfl, hb2⟩
    have HB2 := hide (HB1.out.trans (hb2.mono HB1.out.size))
    clear hb2 HX1 HB1 HUP q0 q1 q2 q3 q4 q5 q6
    go_wp2
    go_ret
    exact ⟨rfl, HB2.out.alloc HB2.out.size _⟩
  rw [if_pos hv, if_pos hv] at HUP
  have HEN := hide (fun W (hb : Below w.heap.size w W) => encodeR_any v r W (ht.below hb (Nat.le_refl _)))
  have HEX := hide (fun W (hb : Below w.heap.size w W) => encodeR_any v (upgR v r) W (ht.below hb (Nat.le_refl _)))
  have HUX := hide (fun W (hb : Below w.heap.size w W) => upgrade_any v (upgR v r) W (ht.below hb (Nat.le_refl _)))
  have HU3 := hide (fun W (hb : Below w.heap.size w W) => upgrade_any 3 (upgR v r) W (ht.below hb (Nat.le_refl _)))
  rw [if_pos hv, if_pos hv, upg_upg] at HUX
  rw [if_pos (by decide), if_pos (by decide), upg_three] at HU3
  unfold EncodedR at HEN HEX
  unfold recV at HEN HEX HUX HU3
  obtain ⟨er, E, ex, E2, hcase, he1, hE1, he2, hE2⟩ : ∃ (er : Int) (E : List UInt8) (ex : Int) (E2 : List UInt8), ((er != 0) = true ∨ (er = 0 ∧ ex = 0 ∧ E2 = E)) ∧ encErr v r = er ∧ encL v r = E ∧ encErr v (upgR v r) = ex ∧ encL v (upgR v r) = E2 := by
    refine ⟨_, _, _, _, ?_, rfl, rfl, rfl, rfl⟩
    by_cases hf : FitsR r
    · right
      unfold encErr encL
      rw [if_pos hv, if_pos hv, if_pos hv, if_pos hv, if_pos hf, if_pos hf, if_pos (upg_fits hf), if_pos (upg_fits hf), encR_upg hv.1 hv.2]
      exact ⟨rfl, rfl, rfl⟩
    · left
      unfold encErr
      rw [if_pos hv, if_neg hf]
      rfl
  rw [he1, hE1] at HEN
  rw [he2, hE2] at HEX
  clear he1 hE1 he2 hE2 hv
  generalize upgR v r = X at *
  have hneq := fun W => neq_rec W X X
  rw [eqRec_self] at hneq
  have HCS := hide hcase
  clear hcase
  go_enter Tryd.func4, Tryd.ntmps4
  go_wp2_with fail
  refine (HA.out _ (HB0.out _)).mono ?_
  rintro e W1 ⟨rfl, hb1⟩
  have HX1 := hide ((X1.out _).below hb1 (Nat.le_refl _))
  have HB1 := hide ((HB0.out _).trans (hb1.mono (by rw [S1.out]; omega)))
  clear hb1 HA X1
  obtain ⟨q0, -⟩ := HX1.out.cell 0
  obtain ⟨q1, -⟩ := HX1.out.cell 1
  obtain ⟨q2, -⟩ := HX1.out.cell 2
  obtain ⟨q3, -⟩ := HX1.out.cell 3
  obtain ⟨q4, -⟩ := HX1.out.cell 4
  obtain ⟨q5, -⟩ := HX1.out.cell 5
  obtain ⟨q6, -⟩ := HX1.out.cell 6
  go_wp2_with fail
  refine (HUP.out _ HB1.out).mono ?_
  rintro e W2 ⟨rfl, hb2⟩
  have HX2 := hide (HX1.out.below hb2 (Nat.le_refl _))
  have HB2 := hide (HB1.out.trans (hb2.mono HB1.out.size))
  clear hb2 HX1 HB1 HUP q0 q1 q2 q3 q4 q5 q6
  obtain ⟨NA, hNA⟩ : ∃ N, N = W2.heap.size := ⟨_, rfl⟩
  obtain ⟨WA, hWA⟩ : ∃ V, V = W2.alloc (.cells #[.int .i64 X.idx, .int .i64 X.proc, .int .i64 X.seq, .int .i64 X.op.code, .int .i64 X.op.a, .int .i64 X.op.b, .int .i64 X.resp] 25) := ⟨_, rfl⟩
  have hbA : Below W2.heap.size W2 WA := by rw [hWA]; exact (Below.refl _ _).alloc (Nat.le_refl _) _
  have HXA := hide (HX2.out.below hbA (Nat.le_refl _))
  have HYA : Hid (Br WA NA #[.int .i64 X.idx, .int .i64 X.proc, .int .i64 X.seq, .int .i64 X.op.code, .int .i64 X.op.a, .int .i64 X.op.b, .int .i64 X.resp]) := hide (by rw [hWA, hNA]; exact heap_alloc_new W2 _)
  have HBA := hide (HB2.out.trans (hbA.mono HB2.out.size))
  go_upto_region 3 with fail
  rw [← hWA, ← hNA]
  clear hWA hNA hbA HX2 HB2
  obtain ⟨q0, -⟩ := HXA.out.cell 0
  obtain ⟨q1, -⟩ := HXA.out.cell 1
  obtain ⟨q2, -⟩ := HXA.out.cell 2
  obtain ⟨q3, -⟩ := HXA.out.cell 3
  obtain ⟨q4, -⟩ := HXA.out.cell 4
  obtain ⟨q5, -⟩ := HXA.out.cell 5
  obtain ⟨q6, -⟩ := HXA.out.cell 6
  go_wp2_with fail
  refine (HEN.out _ HBA.out).mono ?_
  rintro e W3 ⟨v3, rfl, ho3, hb3⟩
  have HO3 := hide ho3.rd
  have HX3 := hide (HXA.out.below hb3 (Nat.le_refl _))
  have HY3 := hide (HYA.out.below hb3 (Nat.le_refl _))
  have HB3 := hide (HBA.out.trans (hb3.mono HBA.out.size))
  clear ho3 hb3 HXA HYA HBA HEN q0 q1 q2 q3 q4 q5 q6
  obtain ⟨q0, -⟩ := HY3.out.cell 0
  obtain ⟨q1, -⟩ := HY3.out.cell 1
  obtain ⟨q2, -⟩ := HY3.out.cell 2
  obtain ⟨q3, -⟩ := HY3.out.cell 3
  obtain ⟨q4, -⟩ := HY3.out.cell 4
  obtain ⟨q5, -⟩ := HY3.out.cell 5
  obtain ⟨q6, -⟩ := HY3.out.cell 6
  go_wp2_with fail
  refine (HEX.out _ HB3.out).mono ?_
  rintro e W4 ⟨v4, rfl, ho4, hb4⟩
  have HO34 := hide (HO3.out.below hb4 (Nat.le_refl _))
  have HO4 := hide ho4.rd
  have HY4 := hide (HY3.out.below hb4 (Nat.le_refl _))
  have HB4 := hide (HB3.out.trans (hb4.mono HB3.out.size))
  clear ho4 hb4 HX3 HY3 HB3 HO3 HEX q0 q1 q2 q3 q4 q5 q6
  obtain ⟨q0, -⟩ := HY4.out.cell 0
  obtain ⟨q1, -⟩ := HY4.out.cell 1
  obtain ⟨q2, -⟩ := HY4.out.cell 2
  obtain ⟨q3, -⟩ := HY4.out.cell 3
  obtain ⟨q4, -⟩ := HY4.out.cell 4
  obtain ⟨q5, -⟩ := HY4.out.cell 5
  obtain ⟨q6, -⟩ := HY4.out.cell 6
  go_wp2_with fail
  refine (HUX.out _ HB4.out).mono ?_
  rintro e W5 ⟨rfl, hb5⟩
  have HO35 := hide (HO34.out.below hb5 (Nat.le_refl _))
  have HO45 := hide (HO4.out.below hb5 (Nat.le_refl _))
  have HY5 := hide (HY4.out.below hb5 (Nat.le_refl _))
  have HB5 := hide (HB4.out.trans (hb5.mono HB4.out.size))
  clear hb5 HY4 HB4 HO34 HO4 HUX q0 q1 q2 q3 q4 q5 q6
  obtain ⟨NC, hNC⟩ : ∃ N, N = W5.heap.size := ⟨_, rfl⟩
  obtain ⟨WC, hWC⟩ : ∃ V, V = W5.alloc (.cells #[.int .i64 X.idx, .int .i64 X.proc, .int .i64 X.seq, .int .i64 X.op.code, .int .i64 X.op.a, .int .i64 X.op.b, .int .i64 X.resp] 25) := ⟨_, rfl⟩
  have hbC : Below W5.heap.size W5 WC := by rw [hWC]; exact (Below.refl _ _).alloc (Nat.le_refl _) _
  have HYC := hide (HY5.out.below hbC (Nat.le_refl _))
  have HZC : Hid (Br WC NC #[.int .i64 X.idx, .int .i64 X.proc, .int .i64 X.seq, .int .i64 X.op.code, .int .i64 X.op.a, .int .i64 X.op.b, .int .i64 X.resp]) := hide (by rw [hWC, hNC]; exact heap_alloc_new W5 _)
  have HBC := hide (HB5.out.trans (hbC.mono HB5.out.size))
  have HO3C := hide (HO35.out.below hbC (Nat.le_refl _))
  have HO4C := hide (HO45.out.below hbC (Nat.le_refl _))
  go_upto_region 8 with fail
  rw [← hWC, ← hNC]
  clear hWC hNC hbC HY5 HB5 HO35 HO45
  obtain ⟨q0, -⟩ := HYC.out.cell 0
  obtain ⟨q1, -⟩ := HYC.out.cell 1
  obtain ⟨q2, -⟩ := HYC.out.cell 2
  obtain ⟨q3, -⟩ := HYC.out.cell 3
  obtain ⟨q4, -⟩ := HYC.out.cell 4
  obtain ⟨q5, -⟩ := HYC.out.cell 5
  obtain ⟨q6, -⟩ := HYC.out.cell 6
  go_wp2_with fail
  refine (HU3.out _ HBC.out).mono ?_
  rintro e W6 ⟨rfl, hb6⟩
  have HO36 := hide (HO3C.out.below hb6 (Nat.le_refl _))
  have HO46 := hide (HO4C.out.below hb6 (Nat.le_refl _))
  have HY6 := hide (HYC.out.below hb6 (Nat.le_refl _))
  have HZ6 := hide (HZC.out.below hb6 (Nat.le_refl _))
  have HB6 := hide (HBC.out.trans (hb6.mono HBC.out.size))
  clear hb6 HYC HZC HBC HO3C HO4C HU3 q0 q1 q2 q3 q4 q5 q6
  obtain ⟨ND, hND⟩ : ∃ N, N = W6.heap.size := ⟨_, rfl⟩
  obtain ⟨WD, hWD⟩ : ∃ V, V = W6.alloc (.cells #[.int .i64 X.idx, .int .i64 X.proc, .int .i64 X.seq, .int .i64 X.op.code, .int .i64 X.op.a, .int .i64 X.op.b, .int .i64 X.resp] 25) := ⟨_, rfl⟩
  have hbD : Below W6.heap.size W6 WD := by rw [hWD]; exact (Below.refl _ _).alloc (Nat.le_refl _) _
  have HYD := hide (HY6.out.below hbD (Nat.le_refl _))
  have HZD := hide (HZ6.out.below hbD (Nat.le_refl _))
  have HVD : Hid (Br WD ND #[.int .i64 X.idx, .int .i64 X.proc, .int .i64 X.seq, .int .i64 X.op.code, .int .i64 X.op.a, .int .i64 X.op.b, .int .i64 X.resp]) := hide (by rw [hWD, hND]; exact heap_alloc_new W6 _)
  have HBD := hide (HB6.out.trans (hbD.mono HB6.out.size))
  have hs3 := (HO36.out.below hbD (Nat.le_refl _)).str
  have hs4 := (HO46.out.below hbD (Nat.le_refl _)).str
  go_upto_region 9 with fail
  rw [← hWD, ← hND]
  clear hWD hND hbD HY6 HZ6 HB6 HO36 HO46
  obtain ⟨q0, -⟩ := HYD.out.cell 0
  obtain ⟨q1, -⟩ := HYD.out.cell 1
  obtain ⟨q2, -⟩ := HYD.out.cell 2
  obtain ⟨q3, -⟩ := HYD.out.cell 3
  obtain ⟨q4, -⟩ := HYD.out.cell 4
  obtain ⟨q5, -⟩ := HYD.out.cell 5
  obtain ⟨q6, -⟩ := HYD.out.cell 6
  obtain ⟨s0, -⟩ := HZD.out.cell 0
  obtain ⟨s1, -⟩ := HZD.out.cell 1
  obtain ⟨s2, -⟩ := HZD.out.cell 2
  obtain ⟨s3, -⟩ := HZD.out.cell 3
  obtain ⟨s4, -⟩ := HZD.out.cell 4
  obtain ⟨s5, -⟩ := HZD.out.cell 5
  obtain ⟨s6, -⟩ := HZD.out.cell 6
  obtain ⟨t0, -⟩ := HVD.out.cell 0
  obtain ⟨t1, -⟩ := HVD.out.cell 1
  obtain ⟨t2, -⟩ := HVD.out.cell 2
  obtain ⟨t3, -⟩ := HVD.out.cell 3
  obtain ⟨t4, -⟩ := HVD.out.cell 4
  obtain ⟨t5, -⟩ := HVD.out.cell 5
  obtain ⟨t6, -⟩ := HVD.out.cell 6
  rcases HCS.out with her | ⟨rfl, rfl, rfl⟩
  · go_wp2
    go_ret
    exact ⟨rfl, HBD.out⟩
  · go_wp2
    go_ret
    exact ⟨rfl, HBD.out⟩

theorem own : ownKnob Tryd.prog.godebug = none := by kernel_rfl
theorem laidOut : laidOutB Tryd.prog = true := by kernel_rfl

set_option linter.unusedVariables false in
set_option maxRecDepth 100000 in
theorem lifted (os : Os) (started : os.Started) (H : Type) (enc : TypeId × Value → H) :
    ReturnsInHanded {} Tryd.checked os 4 .any (fun w args => (Rows.schemaAgainSpec.pre enc Tryd.prog Tryd.f4 Rows.schemaAgainRow.domain false w args ∧ laidMetH Tryd.prog Rows.schemaAgainRow.laid w) ∧ sizedMet enc Tryd.prog Tryd.f4 (OpenSpec.ofChange Rows.schemaAgainSpec) false w args) (Rows.schemaAgainSpec.post enc Tryd.prog Tryd.f4 false true false false) := by
  refine returnsInHanded_of_change_and (C := Tryd.checked) (X := fun w _ => laidMetH Tryd.prog Rows.schemaAgainRow.laid w) (fun _ _ _ hh h => h.of_heap hh) own started (by kernel_rfl) Tryd.func4
    (ChangeSpec.witness_shaped (enc := enc) (C := Tryd.checked) (os := os) (X := fun w _ => laidMetH Tryd.prog Rows.schemaAgainRow.laid w) false (World.doorLaid Tryd.prog 400 os) #[.int .i64 0, .agg #[.int .i64 0, .int .i64 0, .int .i64 0, .int .i64 0, .int .i64 0, .int .i64 0, .int .i64 0]] 8 rfl (World.shaped_of_RefB (by kernel_rfl) (by kernel_rfl)) (by kernel_rfl) (by kernel_rfl) (by kernel_rfl) (door_met os _)) ?_
  intro W base args ds gs before hval0 hW hcnd _ hL _
  have hval : ∀ (j : Nat) t v, Tryd.f4.params[j]? = some t → args[j]? = some v → Value.okWide Tryd.prog W .any base t v := hval0
  have hW' := hW
  obtain ⟨p, q, hA0, hV, rfl, hfz, hnd⟩ := hW
  have hA : DataW.TrodAll enc Tryd.prog W 0 (fun _ => true) true Tryd.f4.params.toList args.toList ds p := hA0
  rw [Tryd.params4] at hA hval
  obtain ⟨v0, vs0, d0, ds0, p0, q0, hargs, rfl, rfl, h0, r0⟩ := trodAll_cons hA
  obtain ⟨v1, vs1, d1, ds1, p1, q1, rfl, rfl, rfl, h1, r1⟩ := trodAll_cons r0
  obtain ⟨rfl, rfl, rfl⟩ := trodAll_nil r1
  obtain rfl : args = #[v0, v1] := by cases args; simp_all
  obtain ⟨rfl, rfl⟩ := trodVars_none hV
  obtain ⟨a0, rfl, rfl, rfl, w0⟩ := open_int Tryd.underlying3 (hval 0 3 v0 rfl rfl) h0
  have lt1 : ∀ x ∈ p1, x.block < W.heap.size := by obtain ⟨m, hm⟩ := h1; exact DataW.trod_lt m _ _ _ hm
  obtain ⟨s1, e1, w1⟩ := open_rec (hval 1 25 v1 rfl rfl) h1
  subst e1
  have k1 := h1
  clear hA0 hval0
  refine (walk a0 s1 W w0 w1 (tabs hL)).mono fun e W' ⟨he, bel⟩ => ?_
  subst he
  exact ⟨_, rfl, _, _, _, [], _, [], hW', trodAll_mk1 (shut_bool Tryd.underlying4 _), (trodAll_cons_mk (shut_int Tryd.underlying3 w0) (trodAll_cons_mk (Below.trod laidOut (by kernel_rfl) (of_decide_eq_true (by kernel_rfl)) k1 bel lt1) trodAll_mk0)), rfl, bel.frame _, fun h => by cases h⟩

theorem over : Rows.schemaAgainRow.holds Tryd.pinned (OpenSpec.ofChange Rows.schemaAgainSpec) :=
  OpenClaim.holds_of_wide 4 Tryd.f4 rfl rfl rfl rfl rfl rfl rfl ⟨rfl, rfl, rfl, rfl, rfl⟩ rfl rfl rfl rfl rfl (by kernel_rfl) Tryd.func4 (by kernel_rfl)
    (of_decide_eq_true (by kernel_rfl)) (by unfold Func.isWrapper; first | (rw [if_pos (by decide +kernel)]; kernel_rfl) | (rw [if_neg (by decide +kernel)]; exact ⟨rfl, rfl⟩))
    (fun os started H enc _ => lifted os started H enc)

end Go.Proofs.YtonibpnhhdjklabDoor.schemaAgain
namespace Go.Proofs.YtonibpnhhdjklabDoor

set_option maxRecDepth 100000 in
theorem schemaAgain_holds : Rows.SchemaAgainCardSaid :=
  Claim7.holds_tied_plain_at .later [] _ _ _ _ schemaAgain.over (fun _ h => by cases h) (by kernel_rfl) (fun _ h => by cases h) schemaAgain_row_tie rfl ⟨rfl, rfl⟩ (by kernel_rfl) rfl
    (fun f fn hf hfn => by
      obtain rfl : f = 4 := Option.some.inj ((show Tryd.prog.funcNamed "ferryman/ferrymanlaw06.SchemaAgain" = some 4 by kernel_rfl).symm.trans hf) |>.symm
      obtain rfl : fn = Tryd.f4 := (Option.some.inj (Tryd.func4.symm.trans hfn)).symm
      exact ⟨by kernel_rfl, fun j t ht => by
        rw [Tryd.params4] at ht
        have hm : t ∈ [3, 25] := by simpa using Array.mem_of_getElem? ht
        have hall : ([3, 25].all fun u => !Tryd.prog.wantsStandIn u) = true := by kernel_rfl
        exact (show Tryd.prog.wantsStandIn t = false by simpa using List.all_eq_true.1 hall t hm)⟩)
    (by kernel_rfl)

end Go.Proofs.YtonibpnhhdjklabDoor
