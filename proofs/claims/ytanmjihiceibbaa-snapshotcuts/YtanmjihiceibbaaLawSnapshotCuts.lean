/- Proved: for all inputs the law SnapshotCuts answers true (and the call leaves all older memory as it was). No condition. -/
import Derived.Test.YtanmjihiceibbaaSnapAwake
import Derived.Test.YtanmjihiceibbaaPack7
import Derived.Test.YtanmjihiceibbaaOpenSnap
import Derived.OpenShut
import Derived.ChangeOld
namespace Go.Proofs.Ytanmjihiceibbaa.snapshotCuts
open Go.ChangeShapes Go.WideShapes Go.ChangeAt Go.RowKit

set_option maxRecDepth 100000 in
set_option maxHeartbeats 4000000 in
theorem walk (v : Value) (s : Snap) (c : Int) (vm : Value) (M : List UInt8) (w : World) (hs : SnV w v s) (_hc : (Lit.int .i64 c).wf = true) (hm : Rd w vm M) :
    Calls Try.prog 6 #[v, .int .i64 c, vm] w fun e w' => e = .returned (.bool true) ∧ Below w.heap.size w w' := by
  have HA := hide (fun w => awake9_any w)
  have HFW := hide (fun v W h => fewN_any v s W h)
  have HEN := hide (fun v W h => encodeN_any v s W h)
  have HDE := hide (fun v b W h hl => (decodeN_any v b W h hl).mono fun _ _ h => h.sn)
  unfold EncodedN at HEN
  have HM := hide hm
  obtain ⟨ma, mc, rfl, hmlc, hmcm, -⟩ := hm
  have hmlm : (M.length : Int) ≤ 9223372036854775807 := by unfold maxLen at hmcm; omega
  clear hmlc hmcm
  obtain ⟨la, lc, ta, tc, hv⟩ := hs.shape
  subst hv
  have HS := hide hs
  have HB0 : Hid (∀ X, Below w.heap.size w (w.alloc X)) := fun X => (Below.refl _ _).alloc (Nat.le_refl _) X
  have HX0 : Hid (∀ cs, Bn (w.alloc (.cells cs 27)) w.heap.size cs) := fun cs => heap_alloc_new w _
  clear hs
  go_enter Try.func6, Try.ntmps6
  go_wp2_with fail
  refine (HA.out _).mono ?_
  rintro e W1 ⟨rfl, hb1⟩
  have hx1 : Bn W1 w.heap.size _ := (HX0.out _).below hb1 (Nat.le_refl _)
  have HX1 := hide hx1
  have HB1 := hide ((HB0.out _).trans (hb1.mono (HB0.out _).size))
  obtain ⟨p0, -⟩ := hx1.cell 0
  obtain ⟨p1, -⟩ := hx1.cell 1
  obtain ⟨p2, -⟩ := hx1.cell 2
  obtain ⟨p3, -⟩ := hx1.cell 3
  obtain ⟨p4, -⟩ := hx1.cell 4
  obtain ⟨p5, -⟩ := hx1.cell 5
  clear hb1 hx1 HA HX0
  go_wp2_with fail
  refine (HFW.out _ _ (HS.out.below HB1.out (Nat.le_refl _))).mono ?_
  rintro e W2 ⟨rfl, hb2⟩
  have hx2 : Bn W2 w.heap.size _ := HX1.out.below hb2 (Nat.le_refl _)
  have HX2 := hide hx2
  have HB2 := hide (HB1.out.trans (hb2.mono HB1.out.size))
  obtain ⟨q0, -⟩ := hx2.cell 0
  obtain ⟨q1, -⟩ := hx2.cell 1
  obtain ⟨q2, -⟩ := hx2.cell 2
  obtain ⟨q3, -⟩ := hx2.cell 3
  obtain ⟨q4, -⟩ := hx2.cell 4
  obtain ⟨q5, -⟩ := hx2.cell 5
  clear hb2 hx2 HX1 HB1 p0 p1 p2 p3 p4 p5 HFW
  by_cases hf : s.st.L.length ≤ 300 ∧ s.tab.length ≤ 100
  case neg =>
    rw [decide_eq_false hf]
    clear hf
    go_wp2
    go_ret
    exact ⟨rfl, HB2.out⟩
  rw [decide_eq_true hf]
  have HF := hide hf
  clear hf
  by_cases hM : (M.length : Int) ≤ 100
  case neg =>
    have hM' : 100 < (M.length : Int) := by omega
    clear hM
    go_wp2
    go_ret
    exact ⟨rfl, HB2.out⟩
  have hMd : decide (100 < (M.length : Int)) = false := decide_eq_false (by omega)
  by_cases hm : MayN s
  case neg =>
    simp only [if_neg hm] at HEN
    clear hm
    go_wp2_with fail
    refine (HEN.out _ _ (HS.out.below HB2.out (Nat.le_refl _))).mono ?_
    rintro e W3 ⟨v3, rfl, ho3, hb3⟩
    have HB3 := hide (HB2.out.trans (hb3.mono HB2.out.size))
    clear ho3 hb3 HEN
    go_wp2
    go_ret
    exact ⟨rfl, HB3.out⟩
  simp only [if_pos hm] at HEN
  have hEl : (encN s).length ≤ 80000 := encN_len hm
  have HMO : Hid (((decN (encN s ++ M)).2 == 0) = decide (M.length = 0)) := hide (by
    by_cases hM : M = []
    · rw [hM, List.append_nil, decN_enc hm]
      rfl
    · have h1 := decN_more hm hM
      have h2 : M.length ≠ 0 := by simpa using hM
      rw [decide_eq_false h2]
      exact beq_eq_false_iff_ne.2 h1)
  have HCU : Hid (0 ≤ c → c < ((encN s).length : Int) → (decN ((encN s).take c.toNat)).2 ≠ 0) := hide (fun h0 h1 => decN_cut hm (by omega))
  clear hm HF
  generalize encN s = E at *
  go_wp2_with fail
  refine (HEN.out _ _ (HS.out.below HB2.out (Nat.le_refl _))).mono ?_
  rintro e W3 ⟨v3, rfl, ho3, hb3⟩
  have HB3 := hide (HB2.out.trans (hb3.mono HB2.out.size))
  obtain ⟨a3, c3, hv3, -⟩ := id ho3.rd
  subst hv3
  have HO3 := hide ho3.rd
  clear ho3 hb3 HX2 HB2 HEN q0 q1 q2 q3 q4 q5
  go_wp2_with (at_builtin; refine wpList_append_rd _ rfl _ _ rfl W3.heap.size _ [] rfl (Own.nil _ _) _ E rfl HO3.out (by simp; omega) (by simp) ?_)
  intro v4 W4 ho4 hb4
  have HO4 : Hid (Own W4 W3.heap.size v4 E) := ho4
  have HB4 := hide (HB3.out.trans (hb4.mono HB3.out.size))
  have HM4 := hide (HM.out.below HB4.out (Nat.le_refl _))
  have HS4 : Hid (W3.heap.size ≤ W4.heap.size) := hide hb4.size
  have HBX := hide hb4
  clear ho4 hb4
  go_wp2_with (at_builtin; refine wpList_append_rd _ rfl _ _ rfl W3.heap.size _ E rfl HO4.out _ M rfl HM4.out (by omega) HS4.out ?_)
  intro v5 W5 ho5 hb5
  have HO5 : Hid (Rd W5 v5 (E ++ M)) := hide ho5.rd
  have HE5 := hide (HO3.out.below (Below.trans (B := W3.heap.size) HBX.out hb5) (Nat.le_refl _))
  have HB5 := hide (HB4.out.trans (hb5.mono HB3.out.size))
  clear ho5 hb5 HO4 HBX HM4 HO3 HB4 HS4
  have HLM : Hid ((E ++ M).length ≤ 100000) := hide (by rw [List.length_append]; omega)
  have HDX := hide (HDE.out v5 (E ++ M) W5 HO5.out HLM.out)
  obtain ⟨⟨d6, n6⟩, hDX⟩ : ∃ x, x = decN (E ++ M) := ⟨_, rfl⟩
  rw [← hDX] at HDX HMO
  dsimp only at HDX HMO
  have hn6 := HMO.out
  clear hDX HMO
  go_wp2_with fail
  refine HDX.out.mono ?_
  rintro e W6 ⟨v6, rfl, hs6, hb6⟩
  obtain ⟨la6, lc6, ta6, tc6, hv6⟩ := hs6.shape
  subst hv6
  have HE6 := hide (HE5.out.below hb6 (Nat.le_refl _))
  have HB6 := hide (HB5.out.trans (hb6.mono HB5.out.size))
  have HBC : Hid (∀ X, Below W6.heap.size W6 (W6.alloc X)) := fun X => (Below.refl _ _).alloc (Nat.le_refl _) X
  have HBF := hide (fun X => HB6.out.trans ((HBC.out X).mono HB6.out.size))
  clear hs6 hb6 HO5 HB5 HE5 HLM HDX
  have hMM : ((M.length : Int) == 0) = decide (M.length = 0) := by
    by_cases h : M.length = 0
    · rw [h]; rfl
    · rw [decide_eq_false h, beq_eq_false_iff_ne]; omega
  generalize decide (M.length = 0) = bM at *
  cases bM
  · skip
    by_cases h0 : 0 ≤ c
    case neg =>
      have h0' : c < 0 := by omega
      go_wp2
      go_ret
      exact ⟨rfl, HBF.out _⟩
    have h0d : decide (c < 0) = false := decide_eq_false (by omega)
    by_cases h1 : c < (E.length : Int)
    case neg =>
      have h1' : (E.length : Int) ≤ c := by omega
      go_wp2
      go_ret
      exact ⟨rfl, HBF.out _⟩
    have h1d : decide ((E.length : Int) ≤ c) = false := decide_eq_false (by omega)
    have HN := hide (HCU.out h0 h1)
    have HCT := hide (fun X => run_cut_h (W6.alloc X) _ E (HE6.out.below (HBC.out X) (Nat.le_refl _)) .i64 c h0 (by omega))
    have HLT : Hid ((E.take c.toNat).length ≤ 100000) := hide (by rw [List.length_take]; omega)
    clear HCU
    generalize E.take c.toNat = ET at *
    go_wp2_with (refine wpList_cut _ rfl _ _ _ _ rfl _ (HCT.out _) ?_)
    intro v7 hr7
    have HR7 := hide hr7
    clear hr7 HCT
    generalize hDD : decN ET = DD at *
    obtain ⟨d7, n7⟩ := DD
    have HDF := hide (HDE.out v7 ET _ HR7.out HLT.out)
    rw [hDD] at HDF
    have hn7 : (n7 != 0) = true := by
      rw [bne_iff_ne]
      exact HN.out
    clear hDD HN HDE
    dsimp only at HDF
    go_wp2_with fail
    refine HDF.out.mono ?_
    rintro e W8 ⟨v8, rfl, hs8, hb8⟩
    obtain ⟨la8, lc8, ta8, tc8, hv8⟩ := hs8.shape
    subst hv8
    have HB8 := hide ((HBF.out _).trans (hb8.mono (HBF.out _).size))
    have HBG := hide (fun X => HB8.out.trans (((Below.refl W8.heap.size W8).alloc (Nat.le_refl _) X).mono HB8.out.size))
    clear hs8 hb8 HDF
    go_wp2
    go_ret
    exact ⟨rfl, HBG.out _⟩
  · skip
    by_cases h0 : 0 ≤ c
    case neg =>
      have h0' : c < 0 := by omega
      go_wp2
      go_ret
      exact ⟨rfl, HBF.out _⟩
    have h0d : decide (c < 0) = false := decide_eq_false (by omega)
    by_cases h1 : c < (E.length : Int)
    case neg =>
      have h1' : (E.length : Int) ≤ c := by omega
      go_wp2
      go_ret
      exact ⟨rfl, HBF.out _⟩
    have h1d : decide ((E.length : Int) ≤ c) = false := decide_eq_false (by omega)
    have HN := hide (HCU.out h0 h1)
    have HCT := hide (fun X => run_cut_h (W6.alloc X) _ E (HE6.out.below (HBC.out X) (Nat.le_refl _)) .i64 c h0 (by omega))
    have HLT : Hid ((E.take c.toNat).length ≤ 100000) := hide (by rw [List.length_take]; omega)
    clear HCU
    generalize E.take c.toNat = ET at *
    go_wp2_with (refine wpList_cut _ rfl _ _ _ _ rfl _ (HCT.out _) ?_)
    intro v7 hr7
    have HR7 := hide hr7
    clear hr7 HCT
    generalize hDD : decN ET = DD at *
    obtain ⟨d7, n7⟩ := DD
    have HDF := hide (HDE.out v7 ET _ HR7.out HLT.out)
    rw [hDD] at HDF
    have hn7 : (n7 != 0) = true := by
      rw [bne_iff_ne]
      exact HN.out
    clear hDD HN HDE
    dsimp only at HDF
    go_wp2_with fail
    refine HDF.out.mono ?_
    rintro e W8 ⟨v8, rfl, hs8, hb8⟩
    obtain ⟨la8, lc8, ta8, tc8, hv8⟩ := hs8.shape
    subst hv8
    have HB8 := hide ((HBF.out _).trans (hb8.mono (HBF.out _).size))
    have HBG := hide (fun X => HB8.out.trans (((Below.refl W8.heap.size W8).alloc (Nat.le_refl _) X).mono HB8.out.size))
    clear hs8 hb8 HDF
    go_wp2
    go_ret
    exact ⟨rfl, HBG.out _⟩

theorem own : ownKnob Try.prog.godebug = none := by kernel_rfl
theorem laidOut : laidOutB Try.prog = true := by kernel_rfl

set_option linter.unusedVariables false in
set_option maxRecDepth 100000 in
theorem lifted (os : Os) (started : os.Started) (H : Type) (enc : TypeId × Value → H) :
    ReturnsInHanded {} Try.checked os 6 .any (Rows.snapshotCutsSpec.pre6 enc Try.prog Try.f6 Rows.snapshotCutsRow.domain false) (Rows.snapshotCutsSpec.post enc Try.prog Try.f6 false true false false) := by
  refine returnsInHanded_of_change (C := Try.checked) own started (by kernel_rfl) Try.func6
    (ChangeSpec.witness6 (enc := enc) (C := Try.checked) false ⟨#[], #[.agg #[.int .i64 0, .int .i64 0, .slice none 0 0, .bool false, .int .i64 0, .slice none 0 0], .int .i64 0, .slice none 0 0], []⟩ 8 (by kernel_rfl) (by kernel_rfl) (by kernel_rfl) (by kernel_rfl)) ?_
  intro W base args ds gs before hval0 hW hcnd _
  have hval : ∀ (j : Nat) t v, Try.f6.params[j]? = some t → args[j]? = some v → Value.okWide Try.prog W .any base t v := hval0
  have hW' := hW
  obtain ⟨p, q, hA0, hV, rfl, hfz, hnd⟩ := hW
  have hA : DataW.TrodAll enc Try.prog W 0 (fun _ => true) true Try.f6.params.toList args.toList ds p := hA0
  rw [Try.params6] at hA hval
  obtain ⟨v0, vs0, d0, ds0, p0, q0, hargs, rfl, rfl, h0, r0⟩ := trodAll_cons hA
  obtain ⟨v1, vs1, d1, ds1, p1, q1, rfl, rfl, rfl, h1, r1⟩ := trodAll_cons r0
  obtain ⟨v2, vs2, d2, ds2, p2, q2, rfl, rfl, rfl, h2, r2⟩ := trodAll_cons r1
  obtain ⟨rfl, rfl, rfl⟩ := trodAll_nil r2
  obtain rfl : args = #[v0, v1, v2] := by cases args; simp_all
  obtain ⟨rfl, rfl⟩ := trodVars_none hV
  have k0 := h0
  have lt0 : ∀ x ∈ p0, x.block < W.heap.size := by obtain ⟨m, hm⟩ := k0; exact DataW.trod_lt m _ _ _ hm
  obtain ⟨s0, w0⟩ := open_snap (hval 0 27 v0 rfl rfl) h0
  obtain ⟨a1, rfl, rfl, rfl, w1⟩ := open_int Try.underlying3 (hval 1 3 v1 rfl rfl) h1
  obtain ⟨a2, len2, cap2, rfl⟩ := okWide_slice Try.underlying30 (hval 2 30 v2 rfl rfl)
  have k2 := h2
  have lt2 : ∀ x ∈ p2, x.block < W.heap.size := by obtain ⟨m, hm⟩ := k2; exact DataW.trod_lt m _ _ _ hm
  obtain ⟨l2, w2⟩ : ∃ l, Rd W (.slice a2 len2 cap2) l := by
    obtain ⟨fuel, hf⟩ := h2
    rcases open_ints Try.underlying30 Try.underlying5 (by kernel_rfl) hf with ⟨hcs, _⟩ | ⟨x, l, c, zs, hcs, _, hl, hm, hz, _, hcell, hwz⟩
    · simp [Value.cells] at hcs
      obtain ⟨rfl, rfl, rfl⟩ := hcs
      exact ⟨[], Rd.nil _⟩
    · simp [Value.cells] at hcs
      obtain ⟨rfl, rfl, rfl⟩ := hcs
      exact ⟨_, Rd.ofRow hl hm (by simpa using hz) hcell hwz⟩
  clear hA0 hval0
  refine (walk _ s0 a1 _ l2 W w0 w1 w2).mono fun e W' ⟨he, bel⟩ => ?_
  subst he
  exact ⟨_, rfl, _, _, _, [], _, [], hW', trodAll_mk1 (shut_bool Try.underlying4 _), (trodAll_cons_mk (Below.trod laidOut (by kernel_rfl) (of_decide_eq_true (by kernel_rfl)) k0 bel lt0) (trodAll_cons_mk (shut_int Try.underlying3 w1) (trodAll_cons_mk (Below.trod laidOut (by kernel_rfl) (of_decide_eq_true (by kernel_rfl)) k2 bel lt2) trodAll_mk0))), rfl, bel.frame _, fun h => by cases h⟩

theorem over : Rows.snapshotCutsRow.holds Try.pinned (OpenSpec.ofChange Rows.snapshotCutsSpec) :=
  OpenClaim.holds_of_wide 6 Try.f6 rfl rfl rfl rfl rfl rfl rfl ⟨rfl, rfl, rfl, rfl, rfl⟩ rfl rfl rfl rfl rfl (by kernel_rfl) Try.func6 (by kernel_rfl)
    (of_decide_eq_true (by kernel_rfl)) (by unfold Func.isWrapper; first | (rw [if_pos (by decide +kernel)]; kernel_rfl) | (rw [if_neg (by decide +kernel)]; exact ⟨rfl, rfl⟩))
    (fun os started H enc _ => lifted os started H enc)

end Go.Proofs.Ytanmjihiceibbaa.snapshotCuts
namespace Go.Proofs.Ytanmjihiceibbaa

theorem snapshotCuts_holds : Rows.SnapshotCutsSaid := snapshotCuts.over

end Go.Proofs.Ytanmjihiceibbaa
