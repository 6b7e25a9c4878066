/- Proved: for all bytes the law SchemaOnce answers true (and the call leaves all older memory as it was). Its condition: the package-level variable schema.fieldsOf starts as the program's text lays it (the card ties it to that text, by the deep look, over the pruned copy). -/
import Derived.Test.YtonibpnhhdjklaaDoorSchemaAwake
import Derived.Test.YtonibpnhhdjklaaDoorOpenSchema
import Derived.OpenShut
import Derived.ChangeOld
namespace Go.Proofs.YtonibpnhhdjklaaDoor.schemaOnce
open Go.ChangeShapes Go.WideShapes Go.ChangeAt Go.RowKit

set_option maxRecDepth 100000 in
set_option maxHeartbeats 2000000 in
theorem walk (vb : Value) (l : List UInt8) (w : World) (hr : Rd w vb l) (ht : TabF w) :
    Calls Tryd.prog 6 #[vb] w fun e w' => e = .returned (.bool true) ∧ Below w.heap.size w w' := by
  have HA := hide (fun W (hb : Below w.heap.size w W) => awake6_any W (ht.below hb (Nat.le_refl _)))
  have HR := hide hr
  obtain ⟨ao, cap, rfl, hlc, hcm, -, hao⟩ := hr
  have hml : (l.length : Int) ≤ 9223372036854775807 := by unfold maxLen at hcm; omega
  have HAO := hide hao
  clear hlc hcm hao
  have hgd := guard_rec
  by_cases hb : (l.length : Int) ≤ 3000
  case neg =>
    have hb' : 3000 < (l.length : Int) := by omega
    clear hb
    go_enter Tryd.func6, Tryd.ntmps6
    go_wp2_with fail
    refine (HA.out _ (Below.refl _ _)).mono ?_
    rintro e W1 ⟨rfl, hb1⟩
    have HB1 := hide hb1
    clear hb1 HA
    go_wp2
    go_ret
    exact ⟨rfl, HB1.out⟩
  have hb' : ¬ (3000 < (l.length : Int)) := by omega
  have HDE := hide (fun W (h : Rd W (.slice ao l.length cap) l) (hb : Below w.heap.size w W) => decodeR_any _ l W h (by omega) (ht.below hb (Nat.le_refl _)))
  unfold DecodedR recV at HDE
  have HDC := hide (decR_codes l)
  have HNE : Hid ((decR l).2 = 0 → l ≠ []) := fun h e => by rw [e, decR_nil] at h; exact absurd h (by decide)
  have HSD : Hid ((decR l).2 = 0 → ∀ t, l = 3 :: t → encR 3 (decR l).1 = l) := fun h t e => by
    rw [e] at h ⊢
    exact decR_sound h
  obtain ⟨⟨X, de⟩, hd⟩ : ∃ r, decR l = r := ⟨_, rfl⟩
  rw [hd] at HDE HDC HNE HSD
  clear hd hb
  simp only at HDC HNE HSD
  rcases HDC.out with ⟨rfl, hf⟩ | ⟨hde, hX⟩
  case inr =>
    have hn : (de != 0) = true := by rw [bne_iff_ne]; exact hde
    subst hX
    have HDE' : Hid (∀ W, Rd W (.slice ao l.length cap) l → Below w.heap.size w W → Calls Tryd.prog 16 #[.slice ao l.length cap] W fun e w' => e = .returned (.tuple #[.agg #[.int .i64 0, .int .i64 0, .int .i64 0, .int .i64 0, .int .i64 0, .int .i64 0, .int .i64 0], .int .i64 de]) ∧ Below W.heap.size W w') := HDE.out
    have heq : ∀ W, (binOp .eql 25 (.agg #[.int .i64 0, .int .i64 0, .int .i64 0, .int .i64 0, .int .i64 0, .int .i64 0, .int .i64 0]) (.agg #[.int .i64 0, .int .i64 0, .int .i64 0, .int .i64 0, .int .i64 0, .int .i64 0, .int .i64 0])).run Tryd.prog W = .ok (.bool true) W := fun W => by
      have h := eql_rec W zeroR zeroR
      rw [eqRec_self] at h
      exact h
    clear HDE HDC HNE HSD hde
    go_enter Tryd.func6, Tryd.ntmps6
    go_wp2_with fail
    refine (HA.out _ (Below.refl _ _)).mono ?_
    rintro e W1 ⟨rfl, hb1⟩
    have HB1 := hide hb1
    clear hb1 HA
    go_wp2_with fail
    refine (HDE'.out _ (HR.out.below HB1.out (Nat.le_refl _)) HB1.out).mono ?_
    rintro e W2 ⟨rfl, hb2⟩
    have HB2 := hide (HB1.out.trans (hb2.mono HB1.out.size))
    clear hb2 HB1 HDE'
    go_wp2
    go_ret
    exact ⟨rfl, HB2.out.alloc HB2.out.size _⟩
  have HEN := hide (fun W (hb : Below w.heap.size w W) => encodeR_any 3 X W (ht.below hb (Nat.le_refl _)))
  unfold EncodedR recV at HEN
  have e1 : encErr 3 X = 0 := by unfold encErr; rw [if_pos (by decide), if_pos hf]
  have e2 : encL 3 X = encR 3 X := by unfold encL; rw [if_pos (by decide), if_pos hf]
  rw [e1, e2] at HEN
  have HFI := hide (fun W => fitsR_any X W)
  rw [decide_eq_true hf] at HFI
  unfold recV at HFI
  have hne := HNE.out rfl
  rcases HAO.out with h0 | ⟨bb, off, rfl, hc⟩
  · exact absurd h0 hne
  obtain ⟨y, t, rfl⟩ := List.exists_cons_of_ne_nil hne
  have HC0 : Hid (∀ W, Below w.heap.size w W → W.cell? ⟨bb, off, none⟩ = some (.int .u8 y.toNat)) := hide (fun W h => by
    have h0 := hc 0 (by simp)
    rw [Nat.add_zero] at h0
    exact (h.cell (World.block_lt_of_cell? w ⟨bb, off, none⟩ h0)).trans (by simpa using h0))
  have HSD2 : Hid (y = 3 → encR 3 X = 3 :: t) := fun h => by
    have := HSD.out rfl t (by rw [h])
    rw [this, h]
  have hpos : 0 < ((y :: t).length : Int) := by simp
  clear hf e1 e2 HDC HNE HSD hne hc HAO
  generalize encR 3 X = E at *
  by_cases hy : y = 3
  · have hE := HSD2.out hy
    subst hy hE
    clear HSD2
    generalize hl : (3 :: t : List UInt8) = l at *
    clear hl
    go_enter Tryd.func6, Tryd.ntmps6
    go_wp2_with fail
    refine (HA.out _ (Below.refl _ _)).mono ?_
    rintro e W1 ⟨rfl, hb1⟩
    have HB1 := hide hb1
    clear hb1 HA
    go_wp2_with fail
    refine (HDE.out _ (HR.out.below HB1.out (Nat.le_refl _)) HB1.out).mono ?_
    rintro e W2 ⟨rfl, hb2⟩
    have HB2 := hide (HB1.out.trans (hb2.mono HB1.out.size))
    have HBA : Hid (∀ Z, Below w.heap.size w (W2.alloc Z)) := fun Z => HB2.out.alloc HB2.out.size Z
    have X2 : Hid (∀ cs, Br (W2.alloc (.cells cs 25)) W2.heap.size cs) := fun cs => heap_alloc_new W2 _
    clear hb2 HB1 HDE
    go_wp2_with fail
    refine (HEN.out _ (HBA.out _)).mono ?_
    rintro e W3 ⟨v3, rfl, ho3, hb3⟩
    have HB3 := hide ((HBA.out _).trans (hb3.mono (HBA.out _).size))
    have HX3 := hide ((X2.out _).below hb3 (Nat.le_refl _))
    have HO3 := hide ho3.rd
    clear ho3 hb3 HBA X2 HB2 HEN
    obtain ⟨q0, -⟩ := HX3.out.cell 0
    obtain ⟨q1, -⟩ := HX3.out.cell 1
    obtain ⟨q2, -⟩ := HX3.out.cell 2
    obtain ⟨q3, -⟩ := HX3.out.cell 3
    obtain ⟨q4, -⟩ := HX3.out.cell 4
    obtain ⟨q5, -⟩ := HX3.out.cell 5
    obtain ⟨q6, -⟩ := HX3.out.cell 6
    go_wp2_with fail
    refine (HFI.out _).mono ?_
    rintro e W4 ⟨rfl, hb4⟩
    have HB4 := hide (HB3.out.trans (hb4.mono HB3.out.size))
    have hs1 := (HO3.out.below hb4 (Nat.le_refl _)).str
    have hs2 := (HR.out.below HB4.out (Nat.le_refl _)).str
    have hc0 := HC0.out W4 HB4.out
    clear hb4 HB3 HX3 HO3 HFI q0 q1 q2 q3 q4 q5 q6
    go_wp2
    go_ret
    exact ⟨rfl, HB4.out⟩
  · have hy' : (((y.toNat : Nat) : Int) != 3) = true := by
      rw [bne_iff_ne]
      intro h
      exact hy (by
        have h2 : y.toNat = 3 := by omega
        exact UInt8.toNat_inj.1 h2)
    clear HSD2 hy
    generalize hl : (y :: t : List UInt8) = l at *
    clear hl
    go_enter Tryd.func6, Tryd.ntmps6
    go_wp2_with fail
    refine (HA.out _ (Below.refl _ _)).mono ?_
    rintro e W1 ⟨rfl, hb1⟩
    have HB1 := hide hb1
    clear hb1 HA
    go_wp2_with fail
    refine (HDE.out _ (HR.out.below HB1.out (Nat.le_refl _)) HB1.out).mono ?_
    rintro e W2 ⟨rfl, hb2⟩
    have HB2 := hide (HB1.out.trans (hb2.mono HB1.out.size))
    have HBA : Hid (∀ Z, Below w.heap.size w (W2.alloc Z)) := fun Z => HB2.out.alloc HB2.out.size Z
    have X2 : Hid (∀ cs, Br (W2.alloc (.cells cs 25)) W2.heap.size cs) := fun cs => heap_alloc_new W2 _
    clear hb2 HB1 HDE
    go_wp2_with fail
    refine (HEN.out _ (HBA.out _)).mono ?_
    rintro e W3 ⟨v3, rfl, ho3, hb3⟩
    have HB3 := hide ((HBA.out _).trans (hb3.mono (HBA.out _).size))
    have HX3 := hide ((X2.out _).below hb3 (Nat.le_refl _))
    have HO3 := hide ho3.rd
    clear ho3 hb3 HBA X2 HB2 HEN
    obtain ⟨q0, -⟩ := HX3.out.cell 0
    obtain ⟨q1, -⟩ := HX3.out.cell 1
    obtain ⟨q2, -⟩ := HX3.out.cell 2
    obtain ⟨q3, -⟩ := HX3.out.cell 3
    obtain ⟨q4, -⟩ := HX3.out.cell 4
    obtain ⟨q5, -⟩ := HX3.out.cell 5
    obtain ⟨q6, -⟩ := HX3.out.cell 6
    go_wp2_with fail
    refine (HFI.out _).mono ?_
    rintro e W4 ⟨rfl, hb4⟩
    have HB4 := hide (HB3.out.trans (hb4.mono HB3.out.size))
    have hs1 := (HO3.out.below hb4 (Nat.le_refl _)).str
    have hs2 := (HR.out.below HB4.out (Nat.le_refl _)).str
    have hc0 := HC0.out W4 HB4.out
    clear hb4 HB3 HX3 HO3 HFI q0 q1 q2 q3 q4 q5 q6
    go_wp2
    go_ret
    exact ⟨rfl, HB4.out⟩

theorem own : ownKnob Tryd.prog.godebug = none := by kernel_rfl
theorem laidOut : laidOutB Tryd.prog = true := by kernel_rfl

set_option linter.unusedVariables false in
set_option maxRecDepth 100000 in
theorem lifted (os : Os) (started : os.Started) (H : Type) (enc : TypeId × Value → H) :
    ReturnsInHanded {} Tryd.checked os 6 .any (fun w args => (Rows.schemaOnceSpec.pre enc Tryd.prog Tryd.f6 Rows.schemaOnceRow.domain false w args ∧ laidMetH Tryd.prog Rows.schemaOnceRow.laid w) ∧ sizedMet enc Tryd.prog Tryd.f6 (OpenSpec.ofChange Rows.schemaOnceSpec) false w args) (Rows.schemaOnceSpec.post enc Tryd.prog Tryd.f6 false true false false) := by
  refine returnsInHanded_of_change_and (C := Tryd.checked) (X := fun w _ => laidMetH Tryd.prog Rows.schemaOnceRow.laid w) (fun _ _ _ hh h => h.of_heap hh) own started (by kernel_rfl) Tryd.func6
    (ChangeSpec.witness_shaped (enc := enc) (C := Tryd.checked) (os := os) (X := fun w _ => laidMetH Tryd.prog Rows.schemaOnceRow.laid w) false (World.doorLaid Tryd.prog 400 os) #[.slice none 0 0] 8 rfl (World.shaped_of_RefB (by kernel_rfl) (by kernel_rfl)) (by kernel_rfl) (by kernel_rfl) (by kernel_rfl) (door_met os _)) ?_
  intro W base args ds gs before hval0 hW hcnd _ hL _
  have hval : ∀ (j : Nat) t v, Tryd.f6.params[j]? = some t → args[j]? = some v → Value.okWide Tryd.prog W .any base t v := hval0
  have hW' := hW
  obtain ⟨p, q, hA0, hV, rfl, hfz, hnd⟩ := hW
  have hA : DataW.TrodAll enc Tryd.prog W 0 (fun _ => true) true Tryd.f6.params.toList args.toList ds p := hA0
  rw [Tryd.params6] at hA hval
  obtain ⟨v0, vs0, d0, ds0, p0, q0, hargs, rfl, rfl, h0, r0⟩ := trodAll_cons hA
  obtain ⟨rfl, rfl, rfl⟩ := trodAll_nil r0
  obtain rfl : args = #[v0] := by cases args; simp_all
  obtain ⟨rfl, rfl⟩ := trodVars_none hV
  obtain ⟨a0, len0, cap0, rfl⟩ := okWide_slice Tryd.underlying27 (hval 0 27 v0 rfl rfl)
  have k0 := h0
  have lt0 : ∀ x ∈ p0, x.block < W.heap.size := by obtain ⟨m, hm⟩ := k0; exact DataW.trod_lt m _ _ _ hm
  obtain ⟨l0, w0⟩ : ∃ l, Rd W (.slice a0 len0 cap0) l := by
    obtain ⟨fuel, hf⟩ := h0
    rcases open_ints Tryd.underlying27 Tryd.underlying5 (by kernel_rfl) hf with ⟨hcs, _⟩ | ⟨x, l, c, zs, hcs, _, hl, hm, hz, _, hcell, hwz⟩
    · simp [Value.cells] at hcs
      obtain ⟨rfl, rfl, rfl⟩ := hcs
      exact ⟨[], Rd.nil _⟩
    · simp [Value.cells] at hcs
      obtain ⟨rfl, rfl, rfl⟩ := hcs
      exact ⟨_, Rd.ofRow hl hm (by simpa using hz) hcell hwz⟩
  clear hA0 hval0
  refine (walk _ l0 W w0 (tabs hL)).mono fun e W' ⟨he, bel⟩ => ?_
  subst he
  exact ⟨_, rfl, _, _, _, [], _, [], hW', trodAll_mk1 (shut_bool Tryd.underlying4 _), (trodAll_cons_mk (Below.trod laidOut (by kernel_rfl) (of_decide_eq_true (by kernel_rfl)) k0 bel lt0) trodAll_mk0), rfl, bel.frame _, fun h => by cases h⟩

theorem over : Rows.schemaOnceRow.holds Tryd.pinned (OpenSpec.ofChange Rows.schemaOnceSpec) :=
  OpenClaim.holds_of_wide 6 Tryd.f6 rfl rfl rfl rfl rfl rfl rfl ⟨rfl, rfl, rfl, rfl, rfl⟩ rfl rfl rfl rfl rfl (by kernel_rfl) Tryd.func6 (by kernel_rfl)
    (of_decide_eq_true (by kernel_rfl)) (by unfold Func.isWrapper; first | (rw [if_pos (by decide +kernel)]; kernel_rfl) | (rw [if_neg (by decide +kernel)]; exact ⟨rfl, rfl⟩))
    (fun os started H enc _ => lifted os started H enc)

end Go.Proofs.YtonibpnhhdjklaaDoor.schemaOnce
namespace Go.Proofs.YtonibpnhhdjklaaDoor

set_option maxRecDepth 100000 in
theorem schemaOnce_holds : Rows.SchemaOnceCardSaid :=
  Claim7.holds_tied_plain_at .later [] _ _ _ _ schemaOnce.over (fun _ h => by cases h) (by kernel_rfl) (fun _ h => by cases h) schemaOnce_row_tie rfl ⟨rfl, rfl⟩ (by kernel_rfl) rfl
    (fun f fn hf hfn => by
      obtain rfl : f = 6 := Option.some.inj ((show Tryd.prog.funcNamed "ferryman/ferrymanlaw06.SchemaOnce" = some 6 by kernel_rfl).symm.trans hf) |>.symm
      obtain rfl : fn = Tryd.f6 := (Option.some.inj (Tryd.func6.symm.trans hfn)).symm
      exact ⟨by kernel_rfl, fun j t ht => by
        rw [Tryd.params6] at ht
        have hm : t ∈ [27] := by simpa using Array.mem_of_getElem? ht
        have hall : ([27].all fun u => !Tryd.prog.wantsStandIn u) = true := by kernel_rfl
        exact (show Tryd.prog.wantsStandIn t = false by simpa using List.all_eq_true.1 hall t hm)⟩)
    (by kernel_rfl)

end Go.Proofs.YtonibpnhhdjklaaDoor
