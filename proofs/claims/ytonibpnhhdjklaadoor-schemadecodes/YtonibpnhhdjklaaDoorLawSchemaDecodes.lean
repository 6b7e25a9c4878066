/- Proved: for all bytes the law SchemaDecodes answers true (and the call leaves all older memory as it was). Its condition: the package-level variable schema.fieldsOf starts as the program's text lays it (the card ties it to that text, by the deep look, over the pruned copy). -/
import Derived.Test.YtonibpnhhdjklaaDoorSchemaAwake
import Derived.Test.YtonibpnhhdjklaaDoorOpenSchema
import Derived.OpenShut
import Derived.ChangeOld
namespace Go.Proofs.YtonibpnhhdjklaaDoor.schemaDecodes
open Go.ChangeShapes Go.WideShapes Go.ChangeAt Go.RowKit

set_option maxRecDepth 100000 in
set_option maxHeartbeats 2000000 in
theorem walk (vb : Value) (l : List UInt8) (w : World) (hr : Rd w vb l) (ht : TabF w) :
    Calls Tryd.prog 4 #[vb] w fun e w' => e = .returned (.bool true) ∧ Below w.heap.size w w' := by
  have HA := hide (fun W (hb : Below w.heap.size w W) => awake6_any W (ht.below hb (Nat.le_refl _)))
  have HR := hide hr
  obtain ⟨ao, cap, rfl, hlc, hcm, -⟩ := hr
  have hml : (l.length : Int) ≤ 9223372036854775807 := by unfold maxLen at hcm; omega
  clear hlc hcm
  by_cases hb : (l.length : Int) ≤ 3000
  case neg =>
    have hb' : 3000 < (l.length : Int) := by omega
    clear hb
    go_enter Tryd.func4, Tryd.ntmps4
    go_wp2_with fail
    refine (HA.out _ (Below.refl _ _)).mono ?_
    rintro e W1 ⟨rfl, hb1⟩
    have HB1 := hide hb1
    clear hb1 HA
    go_wp2
    go_ret
    exact ⟨rfl, HB1.out⟩
  have hb' : ¬ (3000 < (l.length : Int)) := by omega
  have HDE := hide (fun W (h : Rd W (.slice ao l.length cap) l) (hb : Below w.heap.size w W) => decodeR_any _ l W h (by omega) (ht.below hb (Nat.le_refl _)))
  have HRD := hide (fun W (h : Rd W (.slice ao l.length cap) l) => refDecodeR_any _ l W h)
  unfold DecodedR at HDE HRD
  obtain ⟨⟨X, de⟩, hd⟩ : ∃ r, decR l = r := ⟨_, rfl⟩
  rw [hd] at HDE HRD
  clear hd hb
  unfold recV at HDE HRD
  have heq := fun W => eql_rec W X X
  rw [eqRec_self] at heq
  have hgd := guard_rec
  go_enter Tryd.func4, Tryd.ntmps4
  go_wp2_with fail
  refine (HA.out _ (Below.refl _ _)).mono ?_
  rintro e W1 ⟨rfl, hb1⟩
  have HB1 := hide hb1
  clear hb1 HA
  go_wp2_with fail
  refine (HDE.out _ (HR.out.below HB1.out (Nat.le_refl _)) HB1.out).mono ?_
  rintro e W2 ⟨rfl, hb2⟩
  have HB2 := hide (HB1.out.trans (hb2.mono HB1.out.size))
  clear hb2 HB1 HDE
  have HBA : Hid (∀ Z, Below w.heap.size w (W2.alloc Z)) := fun Z => HB2.out.alloc HB2.out.size Z
  have X2 : Hid (∀ cs, Br (W2.alloc (.cells cs 25)) W2.heap.size cs) := fun cs => heap_alloc_new W2 _
  go_wp2_with fail
  refine (HRD.out _ (HR.out.below (HBA.out _) (Nat.le_refl _))).mono ?_
  rintro e W3 ⟨rfl, hb3⟩
  have hx3 := (X2.out _).below hb3 (Nat.le_refl _)
  have HB3 := hide ((HBA.out _).trans (hb3.mono (HBA.out _).size))
  have HX3 := hide hx3
  obtain ⟨q0, -⟩ := hx3.cell 0
  obtain ⟨q1, -⟩ := hx3.cell 1
  obtain ⟨q2, -⟩ := hx3.cell 2
  obtain ⟨q3, -⟩ := hx3.cell 3
  obtain ⟨q4, -⟩ := hx3.cell 4
  obtain ⟨q5, -⟩ := hx3.cell 5
  obtain ⟨q6, -⟩ := hx3.cell 6
  have hlt := HX3.out.lt
  clear hb3 hx3 HRD HB2
  go_wp2
  go_ret
  exact ⟨rfl, HB3.out.alloc HB3.out.size _⟩

theorem own : ownKnob Tryd.prog.godebug = none := by kernel_rfl
theorem laidOut : laidOutB Tryd.prog = true := by kernel_rfl

set_option linter.unusedVariables false in
set_option maxRecDepth 100000 in
theorem lifted (os : Os) (started : os.Started) (H : Type) (enc : TypeId × Value → H) :
    ReturnsInHanded {} Tryd.checked os 4 .any (fun w args => (Rows.schemaDecodesSpec.pre enc Tryd.prog Tryd.f4 Rows.schemaDecodesRow.domain false w args ∧ laidMetH Tryd.prog Rows.schemaDecodesRow.laid w) ∧ sizedMet enc Tryd.prog Tryd.f4 (OpenSpec.ofChange Rows.schemaDecodesSpec) false w args) (Rows.schemaDecodesSpec.post enc Tryd.prog Tryd.f4 false true false false) := by
  refine returnsInHanded_of_change_and (C := Tryd.checked) (X := fun w _ => laidMetH Tryd.prog Rows.schemaDecodesRow.laid w) (fun _ _ _ hh h => h.of_heap hh) own started (by kernel_rfl) Tryd.func4
    (ChangeSpec.witness_shaped (enc := enc) (C := Tryd.checked) (os := os) (X := fun w _ => laidMetH Tryd.prog Rows.schemaDecodesRow.laid w) false (World.doorLaid Tryd.prog 400 os) #[.slice none 0 0] 8 rfl (World.shaped_of_RefB (by kernel_rfl) (by kernel_rfl)) (by kernel_rfl) (by kernel_rfl) (by kernel_rfl) (door_met os _)) ?_
  intro W base args ds gs before hval0 hW hcnd _ hL _
  have hval : ∀ (j : Nat) t v, Tryd.f4.params[j]? = some t → args[j]? = some v → Value.okWide Tryd.prog W .any base t v := hval0
  have hW' := hW
  obtain ⟨p, q, hA0, hV, rfl, hfz, hnd⟩ := hW
  have hA : DataW.TrodAll enc Tryd.prog W 0 (fun _ => true) true Tryd.f4.params.toList args.toList ds p := hA0
  rw [Tryd.params4] at hA hval
  obtain ⟨v0, vs0, d0, ds0, p0, q0, hargs, rfl, rfl, h0, r0⟩ := trodAll_cons hA
  obtain ⟨rfl, rfl, rfl⟩ := trodAll_nil r0
  obtain rfl : args = #[v0] := by cases args; simp_all
  obtain ⟨rfl, rfl⟩ := trodVars_none hV
  obtain ⟨a0, len0, cap0, rfl⟩ := okWide_slice Tryd.underlying27 (hval 0 27 v0 rfl rfl)
  have k0 := h0
  have lt0 : ∀ x ∈ p0, x.block < W.heap.size := by obtain ⟨m, hm⟩ := k0; exact DataW.trod_lt m _ _ _ hm
  obtain ⟨l0, w0⟩ : ∃ l, Rd W (.slice a0 len0 cap0) l := by
    obtain ⟨fuel, hf⟩ := h0
    rcases open_ints Tryd.underlying27 Tryd.underlying5 (by kernel_rfl) hf with ⟨hcs, _⟩ | ⟨x, l, c, zs, hcs, _, hl, hm, hz, _, hcell, hwz⟩
    · simp [Value.cells] at hcs
      obtain ⟨rfl, rfl, rfl⟩ := hcs
      exact ⟨[], Rd.nil _⟩
    · simp [Value.cells] at hcs
      obtain ⟨rfl, rfl, rfl⟩ := hcs
      exact ⟨_, Rd.ofRow hl hm (by simpa using hz) hcell hwz⟩
  clear hA0 hval0
  refine (walk _ l0 W w0 (tabs hL)).mono fun e W' ⟨he, bel⟩ => ?_
  subst he
  exact ⟨_, rfl, _, _, _, [], _, [], hW', trodAll_mk1 (shut_bool Tryd.underlying4 _), (trodAll_cons_mk (Below.trod laidOut (by kernel_rfl) (of_decide_eq_true (by kernel_rfl)) k0 bel lt0) trodAll_mk0), rfl, bel.frame _, fun h => by cases h⟩

theorem over : Rows.schemaDecodesRow.holds Tryd.pinned (OpenSpec.ofChange Rows.schemaDecodesSpec) :=
  OpenClaim.holds_of_wide 4 Tryd.f4 rfl rfl rfl rfl rfl rfl rfl ⟨rfl, rfl, rfl, rfl, rfl⟩ rfl rfl rfl rfl rfl (by kernel_rfl) Tryd.func4 (by kernel_rfl)
    (of_decide_eq_true (by kernel_rfl)) (by unfold Func.isWrapper; first | (rw [if_pos (by decide +kernel)]; kernel_rfl) | (rw [if_neg (by decide +kernel)]; exact ⟨rfl, rfl⟩))
    (fun os started H enc _ => lifted os started H enc)

end Go.Proofs.YtonibpnhhdjklaaDoor.schemaDecodes
namespace Go.Proofs.YtonibpnhhdjklaaDoor

set_option maxRecDepth 100000 in
theorem schemaDecodes_holds : Rows.SchemaDecodesCardSaid :=
  Claim7.holds_tied_plain_at .later [] _ _ _ _ schemaDecodes.over (fun _ h => by cases h) (by kernel_rfl) (fun _ h => by cases h) schemaDecodes_row_tie rfl ⟨rfl, rfl⟩ (by kernel_rfl) rfl
    (fun f fn hf hfn => by
      obtain rfl : f = 4 := Option.some.inj ((show Tryd.prog.funcNamed "ferryman/ferrymanlaw06.SchemaDecodes" = some 4 by kernel_rfl).symm.trans hf) |>.symm
      obtain rfl : fn = Tryd.f4 := (Option.some.inj (Tryd.func4.symm.trans hfn)).symm
      exact ⟨by kernel_rfl, fun j t ht => by
        rw [Tryd.params4] at ht
        have hm : t ∈ [27] := by simpa using Array.mem_of_getElem? ht
        have hall : ([27].all fun u => !Tryd.prog.wantsStandIn u) = true := by kernel_rfl
        exact (show Tryd.prog.wantsStandIn t = false by simpa using List.all_eq_true.1 hall t hm)⟩)
    (by kernel_rfl)

end Go.Proofs.YtonibpnhhdjklaaDoor
