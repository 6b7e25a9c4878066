/- Proved: for all versions and records the law SchemaEncodes answers true (and the call leaves all older memory as it was). Its condition: the package-level variable schema.fieldsOf starts as the program's text lays it (the card ties it to that text, by the deep look, over the pruned copy). -/
import Derived.Test.YtonibpnhhdjklaaDoorSchemaAwake
import Derived.Test.YtonibpnhhdjklaaDoorOpenSchema
import Derived.Deep.RegionHeld
import Derived.OpenShut
import Derived.ChangeOld
namespace Go.Proofs.YtonibpnhhdjklaaDoor.schemaEncodes
open Go.ChangeShapes Go.WideShapes Go.ChangeAt Go.RowKit

/-- The boxes and the bytes, as they stand. -/
def StillE (w : World) (N1 N2 : Nat) (r X : Rec) (V1 V2 : Value) (E : List UInt8) (W : World) : Prop :=
  Below w.heap.size w W ∧ Br W w.heap.size #[.int .i64 r.idx, .int .i64 r.proc, .int .i64 r.seq, .int .i64 r.op.code, .int .i64 r.op.a, .int .i64 r.op.b, .int .i64 r.resp] ∧ Br W N1 #[.int .i64 X.idx, .int .i64 X.proc, .int .i64 X.seq, .int .i64 X.op.code, .int .i64 X.op.a, .int .i64 X.op.b, .int .i64 X.resp] ∧ Br W N2 #[.int .i64 X.idx, .int .i64 X.proc, .int .i64 X.seq, .int .i64 X.op.code, .int .i64 X.op.a, .int .i64 X.op.b, .int .i64 X.resp] ∧ Rd W V1 E ∧ Rd W V2 E

theorem StillE.below {w : World} {N1 N2 : Nat} {r X : Rec} {V1 V2 : Value} {E : List UInt8} {W W' : World} (h : StillE w N1 N2 r X V1 V2 E W) (hb : Below W.heap.size W W') : StillE w N1 N2 r X V1 V2 E W' :=
  ⟨h.1.trans (hb.mono h.1.size), h.2.1.below hb (Nat.le_refl _), h.2.2.1.below hb (Nat.le_refl _), h.2.2.2.1.below hb (Nat.le_refl _), h.2.2.2.2.1.below hb (Nat.le_refl _), h.2.2.2.2.2.below hb (Nat.le_refl _)⟩

/-- What the region of reads holds on to. -/
def HeldE (w : World) (N1 N2 : Nat) (r X : Rec) (V1 V2 : Value) (E : List UInt8) (W : World) : Prop :=
  StillE w N1 N2 r X V1 V2 E W ∧ W.cell? ⟨w.heap.size, 0, none⟩ = some (.int .i64 r.idx) ∧ W.cell? ⟨w.heap.size, 1, none⟩ = some (.int .i64 r.proc) ∧ W.cell? ⟨w.heap.size, 2, none⟩ = some (.int .i64 r.seq) ∧ W.cell? ⟨w.heap.size, 3, none⟩ = some (.int .i64 r.op.code) ∧ W.cell? ⟨w.heap.size, 4, none⟩ = some (.int .i64 r.op.a) ∧ W.cell? ⟨w.heap.size, 5, none⟩ = some (.int .i64 r.op.b) ∧ W.cell? ⟨w.heap.size, 6, none⟩ = some (.int .i64 r.resp) ∧ W.cell? ⟨N1, 0, none⟩ = some (.int .i64 X.idx) ∧ W.cell? ⟨N1, 1, none⟩ = some (.int .i64 X.proc) ∧ W.cell? ⟨N1, 2, none⟩ = some (.int .i64 X.seq) ∧ W.cell? ⟨N1, 3, none⟩ = some (.int .i64 X.op.code) ∧ W.cell? ⟨N1, 4, none⟩ = some (.int .i64 X.op.a) ∧ W.cell? ⟨N1, 5, none⟩ = some (.int .i64 X.op.b) ∧ W.cell? ⟨N1, 6, none⟩ = some (.int .i64 X.resp) ∧ W.cell? ⟨N2, 0, none⟩ = some (.int .i64 X.idx) ∧ W.cell? ⟨N2, 1, none⟩ = some (.int .i64 X.proc) ∧ W.cell? ⟨N2, 2, none⟩ = some (.int .i64 X.seq) ∧ W.cell? ⟨N2, 3, none⟩ = some (.int .i64 X.op.code) ∧ W.cell? ⟨N2, 4, none⟩ = some (.int .i64 X.op.a) ∧ W.cell? ⟨N2, 5, none⟩ = some (.int .i64 X.op.b) ∧ W.cell? ⟨N2, 6, none⟩ = some (.int .i64 X.resp) ∧ (convert 27 9 V1).run Tryd.prog W = .ok (.string (bs E)) W ∧ (convert 27 9 V2).run Tryd.prog W = .ok (.string (bs E)) W

theorem StillE.held {w : World} {N1 N2 : Nat} {r X : Rec} {V1 V2 : Value} {E : List UInt8} {W : World} (h : StillE w N1 N2 r X V1 V2 E W) : HeldE w N1 N2 r X V1 V2 E W := by
  obtain ⟨_, hc, hd, he, h1, h2⟩ := id h
  exact ⟨h, (hc.cell 0).1, (hc.cell 1).1, (hc.cell 2).1, (hc.cell 3).1, (hc.cell 4).1, (hc.cell 5).1, (hc.cell 6).1, (hd.cell 0).1, (hd.cell 1).1, (hd.cell 2).1, (hd.cell 3).1, (hd.cell 4).1, (hd.cell 5).1, (hd.cell 6).1, (he.cell 0).1, (he.cell 1).1, (he.cell 2).1, (he.cell 3).1, (he.cell 4).1, (he.cell 5).1, (he.cell 6).1, h1.str, h2.str⟩

set_option maxRecDepth 100000 in
set_option maxHeartbeats 8000000 in
theorem walk (v : Int) (r : Rec) (w : World) (_hv : (Lit.int .i64 v).wf = true) (_hr : RecOk r) (ht : TabF w) :
    Calls Tryd.prog 3 #[.int .i64 v, recV r] w fun e w' => e = .returned (.bool true) ∧ Below w.heap.size w w' := by
  have HA := hide (fun W (hb : Below w.heap.size w W) => awake6_any W (ht.below hb (Nat.le_refl _)))
  have HB0 : Hid (∀ X, Below w.heap.size w (w.alloc X)) := fun X => (Below.refl _ _).alloc (Nat.le_refl _) X
  have S1 : Hid (∀ X, (w.alloc X).heap.size = w.heap.size + 1) := fun X => by simp
  have X1 : Hid (∀ cs, Br (w.alloc (.cells cs 25)) w.heap.size cs) := fun cs => heap_alloc_new w _
  have hgd := guard_rec
  have HEN := hide (fun W (hb : Below w.heap.size w W) => encodeR_any v r W (ht.below hb (Nat.le_refl _)))
  have HRE := hide (fun W => refEncodeR_any v r W)
  have HUP := hide (fun W (hb : Below w.heap.size w W) => upgrade_any v r W (ht.below hb (Nat.le_refl _)))
  have HRU := hide (fun W => refUpgrade_any v r W)
  have HF1 := hide (fun W => fitsR_any r W)
  have HF2 := hide (fun W => refFitsR_any r W)
  unfold EncodedR at HEN HRE
  unfold recV at HEN HRE HUP HRU HF1 HF2 ⊢
  generalize encErr v r = er at *
  generalize encL v r = E at *
  generalize (if 1 ≤ v ∧ v ≤ 3 then upgR v r else zeroR) = X at *
  generalize (if 1 ≤ v ∧ v ≤ 3 then (0 : Int) else 6) = eu at *
  generalize decide (FitsR r) = bf at *
  have heq := fun W => eql_rec W X X
  rw [eqRec_self] at heq
  go_enter Tryd.func3, Tryd.ntmps3
  go_wp2_with fail
  refine (HA.out _ (HB0.out _)).mono ?_
  rintro e W1 ⟨rfl, hb1⟩
  have HX1 := hide ((X1.out _).below hb1 (Nat.le_refl _))
  have HB1 := hide ((HB0.out _).trans (hb1.mono (by rw [S1.out]; omega)))
  clear hb1 HA X1
  obtain ⟨q0, -⟩ := HX1.out.cell 0
  obtain ⟨q1, -⟩ := HX1.out.cell 1
  obtain ⟨q2, -⟩ := HX1.out.cell 2
  obtain ⟨q3, -⟩ := HX1.out.cell 3
  obtain ⟨q4, -⟩ := HX1.out.cell 4
  obtain ⟨q5, -⟩ := HX1.out.cell 5
  obtain ⟨q6, -⟩ := HX1.out.cell 6
  go_wp2_with fail
  refine (HEN.out _ HB1.out).mono ?_
  rintro e W2 ⟨v2, rfl, ho2, hb2⟩
  have HO2 := hide ho2.rd
  have HX2 := hide (HX1.out.below hb2 (Nat.le_refl _))
  have HB2 := hide (HB1.out.trans (hb2.mono HB1.out.size))
  clear ho2 hb2 HX1 HB1 HEN q0 q1 q2 q3 q4 q5 q6
  obtain ⟨q0, -⟩ := HX2.out.cell 0
  obtain ⟨q1, -⟩ := HX2.out.cell 1
  obtain ⟨q2, -⟩ := HX2.out.cell 2
  obtain ⟨q3, -⟩ := HX2.out.cell 3
  obtain ⟨q4, -⟩ := HX2.out.cell 4
  obtain ⟨q5, -⟩ := HX2.out.cell 5
  obtain ⟨q6, -⟩ := HX2.out.cell 6
  go_wp2_with fail
  refine (HRE.out _).mono ?_
  rintro e W3 ⟨v3, rfl, ho3, hb3⟩
  have HO23 := hide (HO2.out.below hb3 (Nat.le_refl _))
  have HO3 := hide ho3.rd
  have HX3 := hide (HX2.out.below hb3 (Nat.le_refl _))
  have HB3 := hide (HB2.out.trans (hb3.mono HB2.out.size))
  clear ho3 hb3 HX2 HB2 HRE HO2 q0 q1 q2 q3 q4 q5 q6
  obtain ⟨q0, -⟩ := HX3.out.cell 0
  obtain ⟨q1, -⟩ := HX3.out.cell 1
  obtain ⟨q2, -⟩ := HX3.out.cell 2
  obtain ⟨q3, -⟩ := HX3.out.cell 3
  obtain ⟨q4, -⟩ := HX3.out.cell 4
  obtain ⟨q5, -⟩ := HX3.out.cell 5
  obtain ⟨q6, -⟩ := HX3.out.cell 6
  go_wp2_with fail
  refine (HUP.out _ HB3.out).mono ?_
  rintro e W4 ⟨rfl, hb4⟩
  have HO24 := hide (HO23.out.below hb4 (Nat.le_refl _))
  have HO34 := hide (HO3.out.below hb4 (Nat.le_refl _))
  have HX4 := hide (HX3.out.below hb4 (Nat.le_refl _))
  have HB4 := hide (HB3.out.trans (hb4.mono HB3.out.size))
  clear hb4 HX3 HB3 HUP HO23 HO3 q0 q1 q2 q3 q4 q5 q6
  obtain ⟨N1, hN1⟩ : ∃ N, N = W4.heap.size := ⟨_, rfl⟩
  obtain ⟨WA, hWA⟩ : ∃ WA, WA = W4.alloc (.cells #[.int .i64 X.idx, .int .i64 X.proc, .int .i64 X.seq, .int .i64 X.op.code, .int .i64 X.op.a, .int .i64 X.op.b, .int .i64 X.resp] 25) := ⟨_, rfl⟩
  have hbA : Below W4.heap.size W4 WA := by rw [hWA]; exact (Below.refl _ _).alloc (Nat.le_refl _) _
  have HO2A := hide (HO24.out.below hbA (Nat.le_refl _))
  have HO3A := hide (HO34.out.below hbA (Nat.le_refl _))
  have HXA := hide (HX4.out.below hbA (Nat.le_refl _))
  have HYA : Hid (Br WA N1 #[.int .i64 X.idx, .int .i64 X.proc, .int .i64 X.seq, .int .i64 X.op.code, .int .i64 X.op.a, .int .i64 X.op.b, .int .i64 X.resp]) := hide (by rw [hWA, hN1]; exact heap_alloc_new W4 _)
  have HBA := hide (HB4.out.trans (hbA.mono HB4.out.size))
  go_upto_region 5 with fail
  rw [← hWA, ← hN1]
  clear hWA hN1 hbA HX4 HB4 HO24 HO34
  obtain ⟨q0, -⟩ := HXA.out.cell 0
  obtain ⟨q1, -⟩ := HXA.out.cell 1
  obtain ⟨q2, -⟩ := HXA.out.cell 2
  obtain ⟨q3, -⟩ := HXA.out.cell 3
  obtain ⟨q4, -⟩ := HXA.out.cell 4
  obtain ⟨q5, -⟩ := HXA.out.cell 5
  obtain ⟨q6, -⟩ := HXA.out.cell 6
  go_wp2_with fail
  refine (HRU.out _).mono ?_
  rintro e W5 ⟨rfl, hb5⟩
  have HO25 := hide (HO2A.out.below hb5 (Nat.le_refl _))
  have HO35 := hide (HO3A.out.below hb5 (Nat.le_refl _))
  have HX5 := hide (HXA.out.below hb5 (Nat.le_refl _))
  have HY5 := hide (HYA.out.below hb5 (Nat.le_refl _))
  have HB5 := hide (HBA.out.trans (hb5.mono HBA.out.size))
  clear hb5 HXA HYA HBA HRU HO2A HO3A q0 q1 q2 q3 q4 q5 q6
  obtain ⟨N2, hN2⟩ : ∃ N, N = W5.heap.size := ⟨_, rfl⟩
  obtain ⟨WB, hWB⟩ : ∃ WB, WB = W5.alloc (.cells #[.int .i64 X.idx, .int .i64 X.proc, .int .i64 X.seq, .int .i64 X.op.code, .int .i64 X.op.a, .int .i64 X.op.b, .int .i64 X.resp] 25) := ⟨_, rfl⟩
  have hbB : Below W5.heap.size W5 WB := by rw [hWB]; exact (Below.refl _ _).alloc (Nat.le_refl _) _
  have HSB : Hid (StillE w N1 N2 r X v2 v3 E WB) := hide ⟨HB5.out.trans (hbB.mono HB5.out.size), HX5.out.below hbB (Nat.le_refl _), HY5.out.below hbB (Nat.le_refl _), (by rw [hWB, hN2]; exact heap_alloc_new W5 _), HO25.out.below hbB (Nat.le_refl _), HO35.out.below hbB (Nat.le_refl _)⟩
  go_upto_region 6 with fail
  rw [← hWB, ← hN2]
  clear hWB hN2 hbB HX5 HY5 HB5 HO25 HO35
  have hS' : HeldE w N1 N2 r X v2 v3 E WB.drew := (HSB.out.below ((Below.refl _ _).drew)).held
  have C1 : Hid (∀ W, HeldE w N1 N2 r X v2 v3 E W → Calls Tryd.prog 14 #[.agg #[.int .i64 r.idx, .int .i64 r.proc, .int .i64 r.seq, .int .i64 r.op.code, .int .i64 r.op.a, .int .i64 r.op.b, .int .i64 r.resp]] W fun e w' => e = .returned (.bool bf) ∧ HeldE w N1 N2 r X v2 v3 E w') := fun W h => (HF1.out W).mono (fun e w' hh => ⟨hh.1, (h.1.below hh.2).held⟩)
  have C2 : Hid (∀ W, HeldE w N1 N2 r X v2 v3 E W → Calls Tryd.prog 15 #[.agg #[.int .i64 r.idx, .int .i64 r.proc, .int .i64 r.seq, .int .i64 r.op.code, .int .i64 r.op.a, .int .i64 r.op.b, .int .i64 r.resp]] W fun e w' => e = .returned (.bool bf) ∧ HeldE w N1 N2 r X v2 v3 E w') := fun W h => (HF2.out W).mono (fun e w' hh => ⟨hh.1, (h.1.below hh.2).held⟩)
  clear HF1 HF2 HSB
  go_region_held (fun w' => StillE w N1 N2 r X v2 v3 E w' ∧ w'.cell? ⟨w.heap.size, 0, none⟩ = some (.int .i64 r.idx) ∧ w'.cell? ⟨w.heap.size, 1, none⟩ = some (.int .i64 r.proc) ∧ w'.cell? ⟨w.heap.size, 2, none⟩ = some (.int .i64 r.seq) ∧ w'.cell? ⟨w.heap.size, 3, none⟩ = some (.int .i64 r.op.code) ∧ w'.cell? ⟨w.heap.size, 4, none⟩ = some (.int .i64 r.op.a) ∧ w'.cell? ⟨w.heap.size, 5, none⟩ = some (.int .i64 r.op.b) ∧ w'.cell? ⟨w.heap.size, 6, none⟩ = some (.int .i64 r.resp) ∧ w'.cell? ⟨N1, 0, none⟩ = some (.int .i64 X.idx) ∧ w'.cell? ⟨N1, 1, none⟩ = some (.int .i64 X.proc) ∧ w'.cell? ⟨N1, 2, none⟩ = some (.int .i64 X.seq) ∧ w'.cell? ⟨N1, 3, none⟩ = some (.int .i64 X.op.code) ∧ w'.cell? ⟨N1, 4, none⟩ = some (.int .i64 X.op.a) ∧ w'.cell? ⟨N1, 5, none⟩ = some (.int .i64 X.op.b) ∧ w'.cell? ⟨N1, 6, none⟩ = some (.int .i64 X.resp) ∧ w'.cell? ⟨N2, 0, none⟩ = some (.int .i64 X.idx) ∧ w'.cell? ⟨N2, 1, none⟩ = some (.int .i64 X.proc) ∧ w'.cell? ⟨N2, 2, none⟩ = some (.int .i64 X.seq) ∧ w'.cell? ⟨N2, 3, none⟩ = some (.int .i64 X.op.code) ∧ w'.cell? ⟨N2, 4, none⟩ = some (.int .i64 X.op.a) ∧ w'.cell? ⟨N2, 5, none⟩ = some (.int .i64 X.op.b) ∧ w'.cell? ⟨N2, 6, none⟩ = some (.int .i64 X.resp) ∧ (convert 27 9 v2).run Tryd.prog w' = .ok (.string (bs E)) w' ∧ (convert 27 9 v3).run Tryd.prog w' = .ok (.string (bs E)) w') (exact hS')
    (first
      | (go_at_call 14; refine (C1.out _ (by assumption)).mono ?_; rintro e w' ⟨rfl, hS'⟩)
      | (go_at_call 15; refine (C2.out _ (by assumption)).mono ?_; rintro e w' ⟨rfl, hS'⟩))
  all_goals
    go_wp2
    go_ret
    exact ⟨rfl, hS'.1.1⟩

theorem own : ownKnob Tryd.prog.godebug = none := by kernel_rfl
theorem laidOut : laidOutB Tryd.prog = true := by kernel_rfl

set_option linter.unusedVariables false in
set_option maxRecDepth 100000 in
theorem lifted (os : Os) (started : os.Started) (H : Type) (enc : TypeId × Value → H) :
    ReturnsInHanded {} Tryd.checked os 3 .any (fun w args => (Rows.schemaEncodesSpec.pre enc Tryd.prog Tryd.f3 Rows.schemaEncodesRow.domain false w args ∧ laidMetH Tryd.prog Rows.schemaEncodesRow.laid w) ∧ sizedMet enc Tryd.prog Tryd.f3 (OpenSpec.ofChange Rows.schemaEncodesSpec) false w args) (Rows.schemaEncodesSpec.post enc Tryd.prog Tryd.f3 false true false false) := by
  refine returnsInHanded_of_change_and (C := Tryd.checked) (X := fun w _ => laidMetH Tryd.prog Rows.schemaEncodesRow.laid w) (fun _ _ _ hh h => h.of_heap hh) own started (by kernel_rfl) Tryd.func3
    (ChangeSpec.witness_shaped (enc := enc) (C := Tryd.checked) (os := os) (X := fun w _ => laidMetH Tryd.prog Rows.schemaEncodesRow.laid w) false (World.doorLaid Tryd.prog 400 os) #[.int .i64 0, .agg #[.int .i64 0, .int .i64 0, .int .i64 0, .int .i64 0, .int .i64 0, .int .i64 0, .int .i64 0]] 8 rfl (World.shaped_of_RefB (by kernel_rfl) (by kernel_rfl)) (by kernel_rfl) (by kernel_rfl) (by kernel_rfl) (door_met os _)) ?_
  intro W base args ds gs before hval0 hW hcnd _ hL _
  have hval : ∀ (j : Nat) t v, Tryd.f3.params[j]? = some t → args[j]? = some v → Value.okWide Tryd.prog W .any base t v := hval0
  have hW' := hW
  obtain ⟨p, q, hA0, hV, rfl, hfz, hnd⟩ := hW
  have hA : DataW.TrodAll enc Tryd.prog W 0 (fun _ => true) true Tryd.f3.params.toList args.toList ds p := hA0
  rw [Tryd.params3] at hA hval
  obtain ⟨v0, vs0, d0, ds0, p0, q0, hargs, rfl, rfl, h0, r0⟩ := trodAll_cons hA
  obtain ⟨v1, vs1, d1, ds1, p1, q1, rfl, rfl, rfl, h1, r1⟩ := trodAll_cons r0
  obtain ⟨rfl, rfl, rfl⟩ := trodAll_nil r1
  obtain rfl : args = #[v0, v1] := by cases args; simp_all
  obtain ⟨rfl, rfl⟩ := trodVars_none hV
  obtain ⟨a0, rfl, rfl, rfl, w0⟩ := open_int Tryd.underlying3 (hval 0 3 v0 rfl rfl) h0
  have lt1 : ∀ x ∈ p1, x.block < W.heap.size := by obtain ⟨m, hm⟩ := h1; exact DataW.trod_lt m _ _ _ hm
  obtain ⟨s1, e1, w1⟩ := open_rec (hval 1 25 v1 rfl rfl) h1
  subst e1
  have k1 := h1
  clear hA0 hval0
  refine (walk a0 s1 W w0 w1 (tabs hL)).mono fun e W' ⟨he, bel⟩ => ?_
  subst he
  exact ⟨_, rfl, _, _, _, [], _, [], hW', trodAll_mk1 (shut_bool Tryd.underlying4 _), (trodAll_cons_mk (shut_int Tryd.underlying3 w0) (trodAll_cons_mk (Below.trod laidOut (by kernel_rfl) (of_decide_eq_true (by kernel_rfl)) k1 bel lt1) trodAll_mk0)), rfl, bel.frame _, fun h => by cases h⟩

theorem over : Rows.schemaEncodesRow.holds Tryd.pinned (OpenSpec.ofChange Rows.schemaEncodesSpec) :=
  OpenClaim.holds_of_wide 3 Tryd.f3 rfl rfl rfl rfl rfl rfl rfl ⟨rfl, rfl, rfl, rfl, rfl⟩ rfl rfl rfl rfl rfl (by kernel_rfl) Tryd.func3 (by kernel_rfl)
    (of_decide_eq_true (by kernel_rfl)) (by unfold Func.isWrapper; first | (rw [if_pos (by decide +kernel)]; kernel_rfl) | (rw [if_neg (by decide +kernel)]; exact ⟨rfl, rfl⟩))
    (fun os started H enc _ => lifted os started H enc)

end Go.Proofs.YtonibpnhhdjklaaDoor.schemaEncodes
namespace Go.Proofs.YtonibpnhhdjklaaDoor

set_option maxRecDepth 100000 in
theorem schemaEncodes_holds : Rows.SchemaEncodesCardSaid :=
  Claim7.holds_tied_plain_at .later [] _ _ _ _ schemaEncodes.over (fun _ h => by cases h) (by kernel_rfl) (fun _ h => by cases h) schemaEncodes_row_tie rfl ⟨rfl, rfl⟩ (by kernel_rfl) rfl
    (fun f fn hf hfn => by
      obtain rfl : f = 3 := Option.some.inj ((show Tryd.prog.funcNamed "ferryman/ferrymanlaw06.SchemaEncodes" = some 3 by kernel_rfl).symm.trans hf) |>.symm
      obtain rfl : fn = Tryd.f3 := (Option.some.inj (Tryd.func3.symm.trans hfn)).symm
      exact ⟨by kernel_rfl, fun j t ht => by
        rw [Tryd.params3] at ht
        have hm : t ∈ [3, 25] := by simpa using Array.mem_of_getElem? ht
        have hall : ([3, 25].all fun u => !Tryd.prog.wantsStandIn u) = true := by kernel_rfl
        exact (show Tryd.prog.wantsStandIn t = false by simpa using List.all_eq_true.1 hall t hm)⟩)
    (by kernel_rfl)

end Go.Proofs.YtonibpnhhdjklaaDoor
