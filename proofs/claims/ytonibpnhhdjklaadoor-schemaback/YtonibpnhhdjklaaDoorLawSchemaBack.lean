/- Proved: for all versions and records the law SchemaBack answers true (and the call leaves all older memory as it was). Its condition: the package-level variable schema.fieldsOf starts as the program's text lays it (the card ties it to that text, by the deep look, over the pruned copy). -/
import Derived.Test.YtonibpnhhdjklaaDoorSchemaAwake
import Derived.Test.YtonibpnhhdjklaaDoorOpenSchema
import Derived.OpenShut
import Derived.ChangeOld
namespace Go.Proofs.YtonibpnhhdjklaaDoor.schemaBack
open Go.ChangeShapes Go.WideShapes Go.ChangeAt Go.RowKit

set_option maxRecDepth 100000 in
set_option maxHeartbeats 2000000 in
theorem walk (v : Int) (r : Rec) (w : World) (_hv : (Lit.int .i64 v).wf = true) (_hr : RecOk r) (ht : TabF w) :
    Calls Tryd.prog 5 #[.int .i64 v, recV r] w fun e w' => e = .returned (.bool true) ∧ Below w.heap.size w w' := by
  have HA := hide (fun W (hb : Below w.heap.size w W) => awake6_any W (ht.below hb (Nat.le_refl _)))
  have HB0 : Hid (∀ X, Below w.heap.size w (w.alloc X)) := fun X => (Below.refl _ _).alloc (Nat.le_refl _) X
  have S1 : Hid (∀ X, (w.alloc X).heap.size = w.heap.size + 1) := fun X => by simp
  have X1 : Hid (∀ cs, Br (w.alloc (.cells cs 25)) w.heap.size cs) := fun cs => heap_alloc_new w _
  have hgd := guard_rec
  have HEN := hide (fun W (hb : Below w.heap.size w W) => encodeR_any v r W (ht.below hb (Nat.le_refl _)))
  have HUP := hide (fun W (hb : Below w.heap.size w W) => upgrade_any v r W (ht.below hb (Nat.le_refl _)))
  unfold EncodedR at HEN
  unfold recV at HEN HUP ⊢
  by_cases hok : (1 ≤ v ∧ v ≤ 3) ∧ FitsR r
  · have e1 : encErr v r = 0 := by unfold encErr; rw [if_pos hok.1, if_pos hok.2]
    have e2 : encL v r = encR v r := by unfold encL; rw [if_pos hok.1, if_pos hok.2]
    have hlen := encR_length hok.1.1 hok.1.2 hok.2
    have HDE := hide (fun W v1 (h : Rd W v1 (encR v r)) (hb : Below w.heap.size w W) => decodeR_any v1 _ W h (by omega) (ht.below hb (Nat.le_refl _)))
    unfold DecodedR recV at HDE
    rw [decR_enc hok.1.1 hok.1.2 hok.2] at HDE
    rw [if_pos hok.1, if_pos hok.1] at HUP
    rw [e1, e2] at HEN
    have HU3 : Hid (v = 3 → upgR v r = r) := fun h => by rw [h]; exact upg_three r
    clear hok e1 e2 hlen
    generalize encR v r = E at *
    generalize upgR v r = X at *
    have heq := fun W => eql_rec W X X
    rw [eqRec_self] at heq
    by_cases h3 : v = 3
    · have hX := HU3.out h3
      subst hX
      have hn3 : (v != 3) = false := by rw [h3]; rfl
      clear HU3 h3
      go_enter Tryd.func5, Tryd.ntmps5
      go_wp2_with fail
      refine (HA.out _ (HB0.out _)).mono ?_
      rintro e W1 ⟨rfl, hb1⟩
      have HX1 := hide ((X1.out _).below hb1 (Nat.le_refl _))
      have HB1 := hide ((HB0.out _).trans (hb1.mono (by rw [S1.out]; omega)))
      clear hb1 HA X1
      obtain ⟨q0, -⟩ := HX1.out.cell 0
      obtain ⟨q1, -⟩ := HX1.out.cell 1
      obtain ⟨q2, -⟩ := HX1.out.cell 2
      obtain ⟨q3, -⟩ := HX1.out.cell 3
      obtain ⟨q4, -⟩ := HX1.out.cell 4
      obtain ⟨q5, -⟩ := HX1.out.cell 5
      obtain ⟨q6, -⟩ := HX1.out.cell 6
      go_wp2_with fail
      refine (HEN.out _ HB1.out).mono ?_
      rintro e W2 ⟨v2, rfl, ho2, hb2⟩
      have HO2 := hide ho2.rd
      obtain ⟨a2, c2, rfl, -⟩ := ho2.rd
      have HX2 := hide (HX1.out.below hb2 (Nat.le_refl _))
      have HB2 := hide (HB1.out.trans (hb2.mono HB1.out.size))
      clear ho2 hb2 HX1 HB1 q0 q1 q2 q3 q4 q5 q6
      go_wp2_with fail
      refine (HDE.out _ _ HO2.out HB2.out).mono ?_
      rintro e W3 ⟨rfl, hb3⟩
      have HX3 := hide (HX2.out.below hb3 (Nat.le_refl _))
      have HB3 := hide (HB2.out.trans (hb3.mono HB2.out.size))
      clear hb3 HX2 HB2 HO2
      have HX3A := hide (fun Z => HX3.out.below ((Below.refl _ _).alloc (Nat.le_refl _) Z) (Nat.le_refl _))
      have HBA : Hid (∀ Z, Below w.heap.size w (W3.alloc Z)) := fun Z => HB3.out.alloc HB3.out.size Z
      have X3 : Hid (∀ cs, Br (W3.alloc (.cells cs 25)) W3.heap.size cs) := fun cs => heap_alloc_new W3 _
      have hN3 := HX3.out.lt
      obtain ⟨q0, -⟩ := HX3.out.cell 0
      obtain ⟨q1, -⟩ := HX3.out.cell 1
      obtain ⟨q2, -⟩ := HX3.out.cell 2
      obtain ⟨q3, -⟩ := HX3.out.cell 3
      obtain ⟨q4, -⟩ := HX3.out.cell 4
      obtain ⟨q5, -⟩ := HX3.out.cell 5
      obtain ⟨q6, -⟩ := HX3.out.cell 6
      go_wp2_with fail
      refine (HUP.out _ (HBA.out _)).mono ?_
      rintro e W4 ⟨rfl, hb4⟩
      have HX4 := hide ((HX3A.out _).below hb4 (Nat.le_refl _))
      have HY4 := hide ((X3.out _).below hb4 (Nat.le_refl _))
      have HB4 := hide ((HBA.out _).trans (hb4.mono (HBA.out _).size))
      clear hb4 HX3 HX3A HB3 HBA X3 q0 q1 q2 q3 q4 q5 q6
      obtain ⟨q0, -⟩ := HX4.out.cell 0
      obtain ⟨q1, -⟩ := HX4.out.cell 1
      obtain ⟨q2, -⟩ := HX4.out.cell 2
      obtain ⟨q3, -⟩ := HX4.out.cell 3
      obtain ⟨q4, -⟩ := HX4.out.cell 4
      obtain ⟨q5, -⟩ := HX4.out.cell 5
      obtain ⟨q6, -⟩ := HX4.out.cell 6
      obtain ⟨t0, -⟩ := HY4.out.cell 0
      obtain ⟨t1, -⟩ := HY4.out.cell 1
      obtain ⟨t2, -⟩ := HY4.out.cell 2
      obtain ⟨t3, -⟩ := HY4.out.cell 3
      obtain ⟨t4, -⟩ := HY4.out.cell 4
      obtain ⟨t5, -⟩ := HY4.out.cell 5
      obtain ⟨t6, -⟩ := HY4.out.cell 6
      have hN4 := HX4.out.lt
      have hM4 := HY4.out.lt
      go_wp2
      go_ret
      exact ⟨rfl, HB4.out.alloc HB4.out.size _⟩
    · have hn3 : (v != 3) = true := by rw [bne_iff_ne]; exact h3
      clear HU3 h3
      go_enter Tryd.func5, Tryd.ntmps5
      go_wp2_with fail
      refine (HA.out _ (HB0.out _)).mono ?_
      rintro e W1 ⟨rfl, hb1⟩
      have HX1 := hide ((X1.out _).below hb1 (Nat.le_refl _))
      have HB1 := hide ((HB0.out _).trans (hb1.mono (by rw [S1.out]; omega)))
      clear hb1 HA X1
      obtain ⟨q0, -⟩ := HX1.out.cell 0
      obtain ⟨q1, -⟩ := HX1.out.cell 1
      obtain ⟨q2, -⟩ := HX1.out.cell 2
      obtain ⟨q3, -⟩ := HX1.out.cell 3
      obtain ⟨q4, -⟩ := HX1.out.cell 4
      obtain ⟨q5, -⟩ := HX1.out.cell 5
      obtain ⟨q6, -⟩ := HX1.out.cell 6
      go_wp2_with fail
      refine (HEN.out _ HB1.out).mono ?_
      rintro e W2 ⟨v2, rfl, ho2, hb2⟩
      have HO2 := hide ho2.rd
      obtain ⟨a2, c2, rfl, -⟩ := ho2.rd
      have HX2 := hide (HX1.out.below hb2 (Nat.le_refl _))
      have HB2 := hide (HB1.out.trans (hb2.mono HB1.out.size))
      clear ho2 hb2 HX1 HB1 q0 q1 q2 q3 q4 q5 q6
      go_wp2_with fail
      refine (HDE.out _ _ HO2.out HB2.out).mono ?_
      rintro e W3 ⟨rfl, hb3⟩
      have HX3 := hide (HX2.out.below hb3 (Nat.le_refl _))
      have HB3 := hide (HB2.out.trans (hb3.mono HB2.out.size))
      clear hb3 HX2 HB2 HO2
      have HX3A := hide (fun Z => HX3.out.below ((Below.refl _ _).alloc (Nat.le_refl _) Z) (Nat.le_refl _))
      have HBA : Hid (∀ Z, Below w.heap.size w (W3.alloc Z)) := fun Z => HB3.out.alloc HB3.out.size Z
      have X3 : Hid (∀ cs, Br (W3.alloc (.cells cs 25)) W3.heap.size cs) := fun cs => heap_alloc_new W3 _
      have hN3 := HX3.out.lt
      obtain ⟨q0, -⟩ := HX3.out.cell 0
      obtain ⟨q1, -⟩ := HX3.out.cell 1
      obtain ⟨q2, -⟩ := HX3.out.cell 2
      obtain ⟨q3, -⟩ := HX3.out.cell 3
      obtain ⟨q4, -⟩ := HX3.out.cell 4
      obtain ⟨q5, -⟩ := HX3.out.cell 5
      obtain ⟨q6, -⟩ := HX3.out.cell 6
      go_wp2_with fail
      refine (HUP.out _ (HBA.out _)).mono ?_
      rintro e W4 ⟨rfl, hb4⟩
      have HX4 := hide ((HX3A.out _).below hb4 (Nat.le_refl _))
      have HY4 := hide ((X3.out _).below hb4 (Nat.le_refl _))
      have HB4 := hide ((HBA.out _).trans (hb4.mono (HBA.out _).size))
      clear hb4 HX3 HX3A HB3 HBA X3 q0 q1 q2 q3 q4 q5 q6
      obtain ⟨q0, -⟩ := HX4.out.cell 0
      obtain ⟨q1, -⟩ := HX4.out.cell 1
      obtain ⟨q2, -⟩ := HX4.out.cell 2
      obtain ⟨q3, -⟩ := HX4.out.cell 3
      obtain ⟨q4, -⟩ := HX4.out.cell 4
      obtain ⟨q5, -⟩ := HX4.out.cell 5
      obtain ⟨q6, -⟩ := HX4.out.cell 6
      obtain ⟨t0, -⟩ := HY4.out.cell 0
      obtain ⟨t1, -⟩ := HY4.out.cell 1
      obtain ⟨t2, -⟩ := HY4.out.cell 2
      obtain ⟨t3, -⟩ := HY4.out.cell 3
      obtain ⟨t4, -⟩ := HY4.out.cell 4
      obtain ⟨t5, -⟩ := HY4.out.cell 5
      obtain ⟨t6, -⟩ := HY4.out.cell 6
      have hN4 := HX4.out.lt
      have hM4 := HY4.out.lt
      go_wp2
      go_ret
      exact ⟨rfl, HB4.out.alloc HB4.out.size _⟩
  · have e1 : encErr v r ≠ 0 := by
      unfold encErr
      by_cases h1 : 1 ≤ v ∧ v ≤ 3
      · rw [if_pos h1, if_neg (fun h => hok ⟨h1, h⟩)]; decide
      · rw [if_neg h1]; decide
    have e2 : encL v r = [] := by
      unfold encL
      by_cases h1 : 1 ≤ v ∧ v ≤ 3
      · rw [if_pos h1, if_neg (fun h => hok ⟨h1, h⟩)]
      · rw [if_neg h1]
    have HDE := hide (fun W v1 (h : Rd W v1 []) (hb : Below w.heap.size w W) => decodeR_any v1 _ W h (by simp) (ht.below hb (Nat.le_refl _)))
    unfold DecodedR recV at HDE
    rw [decR_nil] at HDE
    rw [e2] at HEN
    have he : (encErr v r != 0) = true := by rw [bne_iff_ne]; exact e1
    clear hok e2
    generalize encErr v r = er at *
    generalize (if 1 ≤ v ∧ v ≤ 3 then upgR v r else zeroR) = X at *
    generalize (if 1 ≤ v ∧ v ≤ 3 then (0 : Int) else 6) = eu at *
    go_enter Tryd.func5, Tryd.ntmps5
    go_wp2_with fail
    refine (HA.out _ (HB0.out _)).mono ?_
    rintro e W1 ⟨rfl, hb1⟩
    have HX1 := hide ((X1.out _).below hb1 (Nat.le_refl _))
    have HB1 := hide ((HB0.out _).trans (hb1.mono (by rw [S1.out]; omega)))
    clear hb1 HA X1
    obtain ⟨q0, -⟩ := HX1.out.cell 0
    obtain ⟨q1, -⟩ := HX1.out.cell 1
    obtain ⟨q2, -⟩ := HX1.out.cell 2
    obtain ⟨q3, -⟩ := HX1.out.cell 3
    obtain ⟨q4, -⟩ := HX1.out.cell 4
    obtain ⟨q5, -⟩ := HX1.out.cell 5
    obtain ⟨q6, -⟩ := HX1.out.cell 6
    go_wp2_with fail
    refine (HEN.out _ HB1.out).mono ?_
    rintro e W2 ⟨v2, rfl, ho2, hb2⟩
    have HO2 := hide ho2.rd
    obtain ⟨a2, c2, rfl, -⟩ := ho2.rd
    have HX2 := hide (HX1.out.below hb2 (Nat.le_refl _))
    have HB2 := hide (HB1.out.trans (hb2.mono HB1.out.size))
    clear ho2 hb2 HX1 HB1 q0 q1 q2 q3 q4 q5 q6
    go_wp2_with fail
    refine (HDE.out _ _ HO2.out HB2.out).mono ?_
    rintro e W3 ⟨rfl, hb3⟩
    have HX3 := hide (HX2.out.below hb3 (Nat.le_refl _))
    have HB3 := hide (HB2.out.trans (hb3.mono HB2.out.size))
    clear hb3 HX2 HB2 HO2
    have HX3A := hide (fun Z => HX3.out.below ((Below.refl _ _).alloc (Nat.le_refl _) Z) (Nat.le_refl _))
    have HBA : Hid (∀ Z, Below w.heap.size w (W3.alloc Z)) := fun Z => HB3.out.alloc HB3.out.size Z
    have X3 : Hid (∀ cs, Br (W3.alloc (.cells cs 25)) W3.heap.size cs) := fun cs => heap_alloc_new W3 _
    have hN3 := HX3.out.lt
    obtain ⟨q0, -⟩ := HX3.out.cell 0
    obtain ⟨q1, -⟩ := HX3.out.cell 1
    obtain ⟨q2, -⟩ := HX3.out.cell 2
    obtain ⟨q3, -⟩ := HX3.out.cell 3
    obtain ⟨q4, -⟩ := HX3.out.cell 4
    obtain ⟨q5, -⟩ := HX3.out.cell 5
    obtain ⟨q6, -⟩ := HX3.out.cell 6
    go_wp2_with fail
    refine (HUP.out _ (HBA.out _)).mono ?_
    rintro e W4 ⟨rfl, hb4⟩
    have HX4 := hide ((HX3A.out _).below hb4 (Nat.le_refl _))
    have HY4 := hide ((X3.out _).below hb4 (Nat.le_refl _))
    have HB4 := hide ((HBA.out _).trans (hb4.mono (HBA.out _).size))
    clear hb4 HX3 HX3A HB3 HBA X3 q0 q1 q2 q3 q4 q5 q6
    obtain ⟨q0, -⟩ := HX4.out.cell 0
    obtain ⟨q1, -⟩ := HX4.out.cell 1
    obtain ⟨q2, -⟩ := HX4.out.cell 2
    obtain ⟨q3, -⟩ := HX4.out.cell 3
    obtain ⟨q4, -⟩ := HX4.out.cell 4
    obtain ⟨q5, -⟩ := HX4.out.cell 5
    obtain ⟨q6, -⟩ := HX4.out.cell 6
    obtain ⟨t0, -⟩ := HY4.out.cell 0
    obtain ⟨t1, -⟩ := HY4.out.cell 1
    obtain ⟨t2, -⟩ := HY4.out.cell 2
    obtain ⟨t3, -⟩ := HY4.out.cell 3
    obtain ⟨t4, -⟩ := HY4.out.cell 4
    obtain ⟨t5, -⟩ := HY4.out.cell 5
    obtain ⟨t6, -⟩ := HY4.out.cell 6
    have hN4 := HX4.out.lt
    have hM4 := HY4.out.lt
    go_wp2
    go_ret
    exact ⟨rfl, HB4.out.alloc HB4.out.size _⟩

theorem own : ownKnob Tryd.prog.godebug = none := by kernel_rfl
theorem laidOut : laidOutB Tryd.prog = true := by kernel_rfl

set_option linter.unusedVariables false in
set_option maxRecDepth 100000 in
theorem lifted (os : Os) (started : os.Started) (H : Type) (enc : TypeId × Value → H) :
    ReturnsInHanded {} Tryd.checked os 5 .any (fun w args => (Rows.schemaBackSpec.pre enc Tryd.prog Tryd.f5 Rows.schemaBackRow.domain false w args ∧ laidMetH Tryd.prog Rows.schemaBackRow.laid w) ∧ sizedMet enc Tryd.prog Tryd.f5 (OpenSpec.ofChange Rows.schemaBackSpec) false w args) (Rows.schemaBackSpec.post enc Tryd.prog Tryd.f5 false true false false) := by
  refine returnsInHanded_of_change_and (C := Tryd.checked) (X := fun w _ => laidMetH Tryd.prog Rows.schemaBackRow.laid w) (fun _ _ _ hh h => h.of_heap hh) own started (by kernel_rfl) Tryd.func5
    (ChangeSpec.witness_shaped (enc := enc) (C := Tryd.checked) (os := os) (X := fun w _ => laidMetH Tryd.prog Rows.schemaBackRow.laid w) false (World.doorLaid Tryd.prog 400 os) #[.int .i64 0, .agg #[.int .i64 0, .int .i64 0, .int .i64 0, .int .i64 0, .int .i64 0, .int .i64 0, .int .i64 0]] 8 rfl (World.shaped_of_RefB (by kernel_rfl) (by kernel_rfl)) (by kernel_rfl) (by kernel_rfl) (by kernel_rfl) (door_met os _)) ?_
  intro W base args ds gs before hval0 hW hcnd _ hL _
  have hval : ∀ (j : Nat) t v, Tryd.f5.params[j]? = some t → args[j]? = some v → Value.okWide Tryd.prog W .any base t v := hval0
  have hW' := hW
  obtain ⟨p, q, hA0, hV, rfl, hfz, hnd⟩ := hW
  have hA : DataW.TrodAll enc Tryd.prog W 0 (fun _ => true) true Tryd.f5.params.toList args.toList ds p := hA0
  rw [Tryd.params5] at hA hval
  obtain ⟨v0, vs0, d0, ds0, p0, q0, hargs, rfl, rfl, h0, r0⟩ := trodAll_cons hA
  obtain ⟨v1, vs1, d1, ds1, p1, q1, rfl, rfl, rfl, h1, r1⟩ := trodAll_cons r0
  obtain ⟨rfl, rfl, rfl⟩ := trodAll_nil r1
  obtain rfl : args = #[v0, v1] := by cases args; simp_all
  obtain ⟨rfl, rfl⟩ := trodVars_none hV
  obtain ⟨a0, rfl, rfl, rfl, w0⟩ := open_int Tryd.underlying3 (hval 0 3 v0 rfl rfl) h0
  have lt1 : ∀ x ∈ p1, x.block < W.heap.size := by obtain ⟨m, hm⟩ := h1; exact DataW.trod_lt m _ _ _ hm
  obtain ⟨s1, e1, w1⟩ := open_rec (hval 1 25 v1 rfl rfl) h1
  subst e1
  have k1 := h1
  clear hA0 hval0
  refine (walk a0 s1 W w0 w1 (tabs hL)).mono fun e W' ⟨he, bel⟩ => ?_
  subst he
  exact ⟨_, rfl, _, _, _, [], _, [], hW', trodAll_mk1 (shut_bool Tryd.underlying4 _), (trodAll_cons_mk (shut_int Tryd.underlying3 w0) (trodAll_cons_mk (Below.trod laidOut (by kernel_rfl) (of_decide_eq_true (by kernel_rfl)) k1 bel lt1) trodAll_mk0)), rfl, bel.frame _, fun h => by cases h⟩

theorem over : Rows.schemaBackRow.holds Tryd.pinned (OpenSpec.ofChange Rows.schemaBackSpec) :=
  OpenClaim.holds_of_wide 5 Tryd.f5 rfl rfl rfl rfl rfl rfl rfl ⟨rfl, rfl, rfl, rfl, rfl⟩ rfl rfl rfl rfl rfl (by kernel_rfl) Tryd.func5 (by kernel_rfl)
    (of_decide_eq_true (by kernel_rfl)) (by unfold Func.isWrapper; first | (rw [if_pos (by decide +kernel)]; kernel_rfl) | (rw [if_neg (by decide +kernel)]; exact ⟨rfl, rfl⟩))
    (fun os started H enc _ => lifted os started H enc)

end Go.Proofs.YtonibpnhhdjklaaDoor.schemaBack
namespace Go.Proofs.YtonibpnhhdjklaaDoor

set_option maxRecDepth 100000 in
theorem schemaBack_holds : Rows.SchemaBackCardSaid :=
  Claim7.holds_tied_plain_at .later [] _ _ _ _ schemaBack.over (fun _ h => by cases h) (by kernel_rfl) (fun _ h => by cases h) schemaBack_row_tie rfl ⟨rfl, rfl⟩ (by kernel_rfl) rfl
    (fun f fn hf hfn => by
      obtain rfl : f = 5 := Option.some.inj ((show Tryd.prog.funcNamed "ferryman/ferrymanlaw06.SchemaBack" = some 5 by kernel_rfl).symm.trans hf) |>.symm
      obtain rfl : fn = Tryd.f5 := (Option.some.inj (Tryd.func5.symm.trans hfn)).symm
      exact ⟨by kernel_rfl, fun j t ht => by
        rw [Tryd.params5] at ht
        have hm : t ∈ [3, 25] := by simpa using Array.mem_of_getElem? ht
        have hall : ([3, 25].all fun u => !Tryd.prog.wantsStandIn u) = true := by kernel_rfl
        exact (show Tryd.prog.wantsStandIn t = false by simpa using List.all_eq_true.1 hall t hm)⟩)
    (by kernel_rfl)

end Go.Proofs.YtonibpnhhdjklaaDoor
