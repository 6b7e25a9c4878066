/- Proved: for all inputs the law SnapshotEncodes answers true (and the call leaves all older memory as it was). No condition. -/
import Derived.Test.YtanmjihiceibbaaSnapAwake
import Derived.Test.YtanmjihiceibbaaOpenSnap
import Derived.Test.YtanmjihiceibbaaQuietCls
import Derived.Test.YtanmjihiceibbaaRef09D
import Derived.OpenShut
import Derived.ChangeOld
namespace Go.Proofs.Ytanmjihiceibbaa.snapshotEncodes
open Go.ChangeShapes Go.WideShapes Go.ChangeAt Go.RowKit

set_option maxRecDepth 100000 in
set_option maxHeartbeats 4000000 in
theorem walk (v : Value) (s : Snap) (v' : Value) (t : Snap) (w : World) (hs : SnV w v s) (ht : SnV w v' t) :
    Calls Try.prog 3 #[v, v'] w fun e w' => e = .returned (.bool true) ∧ Below w.heap.size w w' := by
  have HA := hide (fun w => awake9_any w)
  have HF1 := hide (fun v W h => fewN_any v s W h)
  have HF2 := hide (fun v W h => fewN_any v t W h)
  generalize decide (s.st.L.length ≤ 300 ∧ s.tab.length ≤ 100) = fs at *
  generalize decide (t.st.L.length ≤ 300 ∧ t.tab.length ≤ 100) = ft at *
  have HEN := hide (fun v W h => encodeN_any v s W h)
  have HER := hide (fun v W h => refEncodeN_any v s W h)
  unfold EncodedN at HEN HER
  have HM1 := hide (fun v W h => mayN_any v s W h)
  have HM2 := hide (fun v W h => refMayN_any v s W h)
  have HS1 := hide (fun va a vb b w h1 h2 => sameN_any va a vb b w h1 h2)
  have HS2 := hide (fun va a vb b w h1 h2 => refSameN_any va a vb b w h1 h2)
  obtain ⟨la, lc, ta, tc, hv⟩ := hs.shape
  obtain ⟨la', lc', ta', tc', hv'⟩ := ht.shape
  subst hv hv'
  have HS := hide hs
  have HT := hide ht
  have HB0 : Hid (∀ X Y, Below w.heap.size w ((w.alloc X).alloc Y)) := fun X Y => ((Below.refl _ _).alloc (Nat.le_refl _) X).alloc (by simp) Y
  have HX0 : Hid (∀ cs ds, Bn ((w.alloc (.cells cs 27)).alloc (.cells ds 27)) w.heap.size cs) := fun cs ds => (Below.heap_alloc _ _ _ (by simp)).trans (heap_alloc_new w _)
  have HY0 : Hid (∀ cs ds, Bn ((w.alloc (.cells cs 27)).alloc (.cells ds 27)) (w.heap.size + 1) ds) := fun cs ds => new_two w _ _
  clear hs ht
  go_enter Try.func3, Try.ntmps3
  go_wp2_with fail
  refine (HA.out _).mono ?_
  rintro e W1 ⟨rfl, hb1⟩
  have hx1 : Bn W1 w.heap.size _ := (HX0.out _ _).below hb1 (Nat.le_refl _)
  have HX1 := hide hx1
  have HY1 : Hid (Bn W1 (w.heap.size + 1) _) := hide ((HY0.out _ _).below hb1 (Nat.le_refl _))
  have HB1 := hide ((HB0.out _ _).trans (hb1.mono (HB0.out _ _).size))
  obtain ⟨p0, -⟩ := hx1.cell 0
  obtain ⟨p1, -⟩ := hx1.cell 1
  obtain ⟨p2, -⟩ := hx1.cell 2
  obtain ⟨p3, -⟩ := hx1.cell 3
  obtain ⟨p4, -⟩ := hx1.cell 4
  obtain ⟨p5, -⟩ := hx1.cell 5
  clear hb1 hx1 HA HX0 HY0
  go_wp2_with fail
  refine (HF1.out _ _ (HS.out.below HB1.out (Nat.le_refl _))).mono ?_
  rintro e W2 ⟨rfl, hb2⟩
  have HX2 : Hid (Bn W2 w.heap.size _) := hide (HX1.out.below hb2 (Nat.le_refl _))
  have hy2 : Bn W2 (w.heap.size + 1) _ := HY1.out.below hb2 (Nat.le_refl _)
  have HY2 := hide hy2
  have HB2 := hide (HB1.out.trans (hb2.mono HB1.out.size))
  obtain ⟨q0, -⟩ := hy2.cell 0
  obtain ⟨q1, -⟩ := hy2.cell 1
  obtain ⟨q2, -⟩ := hy2.cell 2
  obtain ⟨q3, -⟩ := hy2.cell 3
  obtain ⟨q4, -⟩ := hy2.cell 4
  obtain ⟨q5, -⟩ := hy2.cell 5
  clear hb2 hy2 HX1 HY1 HB1 p0 p1 p2 p3 p4 p5
  go_wp2_with fail
  refine (HF2.out _ _ (HT.out.below HB2.out (Nat.le_refl _))).mono ?_
  rintro e W3 ⟨rfl, hb3⟩
  have hx3 : Bn W3 w.heap.size _ := HX2.out.below hb3 (Nat.le_refl _)
  have HX3 := hide hx3
  have HY3 : Hid (Bn W3 (w.heap.size + 1) _) := hide (HY2.out.below hb3 (Nat.le_refl _))
  have HB3 := hide (HB2.out.trans (hb3.mono HB2.out.size))
  obtain ⟨p0, -⟩ := hx3.cell 0
  obtain ⟨p1, -⟩ := hx3.cell 1
  obtain ⟨p2, -⟩ := hx3.cell 2
  obtain ⟨p3, -⟩ := hx3.cell 3
  obtain ⟨p4, -⟩ := hx3.cell 4
  obtain ⟨p5, -⟩ := hx3.cell 5
  clear hb3 hx3 HX2 HY2 HB2 q0 q1 q2 q3 q4 q5 HF1 HF2
  cases fs with
  | false =>
    go_wp2
    go_ret
    exact ⟨rfl, HB3.out⟩
  | true =>
  cases ft with
  | false =>
    go_wp2
    go_ret
    exact ⟨rfl, HB3.out⟩
  | true =>
  generalize hEN : (if MayN s then encN s else []) = EN at *
  generalize hER : (if MayN s then (0 : Int) else 1) = er at *
  clear hEN hER
  go_wp2_with fail
  refine (HEN.out _ _ (HS.out.below HB3.out (Nat.le_refl _))).mono ?_
  rintro e W4 ⟨v4, rfl, ho4, hb4⟩
  have hx4 : Bn W4 w.heap.size _ := HX3.out.below hb4 (Nat.le_refl _)
  have HX4 := hide hx4
  have HY4 : Hid (Bn W4 (w.heap.size + 1) _) := hide (HY3.out.below hb4 (Nat.le_refl _))
  have HB4 := hide (HB3.out.trans (hb4.mono HB3.out.size))
  have HR4 := hide ho4.rd
  obtain ⟨q0, -⟩ := hx4.cell 0
  obtain ⟨q1, -⟩ := hx4.cell 1
  obtain ⟨q2, -⟩ := hx4.cell 2
  obtain ⟨q3, -⟩ := hx4.cell 3
  obtain ⟨q4, -⟩ := hx4.cell 4
  obtain ⟨q5, -⟩ := hx4.cell 5
  clear ho4 hb4 hx4 HX3 HY3 HB3 HEN p0 p1 p2 p3 p4 p5
  go_wp2_with fail
  refine (HER.out _ _ (HS.out.below HB4.out (Nat.le_refl _))).mono ?_
  rintro e W5 ⟨v5, rfl, ho5, hb5⟩
  have HX5 : Hid (Bn W5 w.heap.size _) := hide (HX4.out.below hb5 (Nat.le_refl _))
  have HY5 : Hid (Bn W5 (w.heap.size + 1) _) := hide (HY4.out.below hb5 (Nat.le_refl _))
  have HB5 := hide (HB4.out.trans (hb5.mono HB4.out.size))
  have HR45 := hide (HR4.out.below hb5 (Nat.le_refl _))
  have HR5 := hide ho5.rd
  clear ho5 hb5 HX4 HY4 HB4 HR4 HER q0 q1 q2 q3 q4 q5
  obtain ⟨ι, hne, V, hV, hmem⟩ := below_cls W5.heap.size W5
  have HV := hide hV
  have HM := hide hmem
  obtain ⟨i0, hi0⟩ := hmem W5.drew (Below.refl _ _).drew
  have HBV : Hid (∀ i, Below w.heap.size w (V i)) := hide (fun i => HB5.out.trans ((HV.out i).mono HB5.out.size))
  have hx : ∀ i, Bn (V i) w.heap.size _ := fun i => HX5.out.below (HV.out i) (Nat.le_refl _)
  have hy : ∀ i, Bn (V i) (w.heap.size + 1) _ := fun i => HY5.out.below (HV.out i) (Nat.le_refl _)
  have hs4 : ∀ i, (convert 30 9 v4).run Try.prog (V i) = .ok (.string (bs EN)) (V i) := fun i => (HR45.out.below (HV.out i) (Nat.le_refl _)).str
  have hs5 : ∀ i, (convert 30 9 v5).run Try.prog (V i) = .ok (.string (bs EN)) (V i) := fun i => (HR5.out.below (HV.out i) (Nat.le_refl _)).str
  have p0 : ∀ i, (V i).cell? ⟨w.heap.size, 0, none⟩ = some (.int .i64 s.idx) := fun i => ((hx i).cell 0).1
  have p1 : ∀ i, (V i).cell? ⟨w.heap.size, 1, none⟩ = some (.int .i64 s.st.kind) := fun i => ((hx i).cell 1).1
  have p2 : ∀ i, (V i).cell? ⟨w.heap.size, 2, none⟩ = some (.slice la s.st.L.length lc) := fun i => ((hx i).cell 2).1
  have p3 : ∀ i, (V i).cell? ⟨w.heap.size, 3, none⟩ = some (.bool s.st.shut) := fun i => ((hx i).cell 3).1
  have p4 : ∀ i, (V i).cell? ⟨w.heap.size, 4, none⟩ = some (.int .i64 s.st.eng) := fun i => ((hx i).cell 4).1
  have p5 : ∀ i, (V i).cell? ⟨w.heap.size, 5, none⟩ = some (.slice ta s.tab.length tc) := fun i => ((hx i).cell 5).1
  have q0 : ∀ i, (V i).cell? ⟨w.heap.size + 1, 0, none⟩ = some (.int .i64 t.idx) := fun i => ((hy i).cell 0).1
  have q1 : ∀ i, (V i).cell? ⟨w.heap.size + 1, 1, none⟩ = some (.int .i64 t.st.kind) := fun i => ((hy i).cell 1).1
  have q2 : ∀ i, (V i).cell? ⟨w.heap.size + 1, 2, none⟩ = some (.slice la' t.st.L.length lc') := fun i => ((hy i).cell 2).1
  have q3 : ∀ i, (V i).cell? ⟨w.heap.size + 1, 3, none⟩ = some (.bool t.st.shut) := fun i => ((hy i).cell 3).1
  have q4 : ∀ i, (V i).cell? ⟨w.heap.size + 1, 4, none⟩ = some (.int .i64 t.st.eng) := fun i => ((hy i).cell 4).1
  have q5 : ∀ i, (V i).cell? ⟨w.heap.size + 1, 5, none⟩ = some (.slice ta' t.tab.length tc') := fun i => ((hy i).cell 5).1
  have lift : ∀ (f : Nat) (args : Array Value) (x : Bool) (i : ι), (Calls Try.prog f args (V i) fun e w' => e = .returned (.bool x) ∧ Below (V i).heap.size (V i) w') → Calls Try.prog f args (V i) fun e w' => e = .returned (.bool x) ∧ ∃ m, w' = V m := fun f args x i h => h.mono fun e w' h => ⟨h.1, HM.out w' ((HV.out i).trans (h.2.mono (HV.out i).size))⟩
  have HLI := hide lift
  have C1 := hide (fun i => HLI.out _ _ _ i (HM1.out (.agg #[.int .i64 s.idx, .int .i64 s.st.kind, .slice la s.st.L.length lc, .bool s.st.shut, .int .i64 s.st.eng, .slice ta s.tab.length tc]) (V i) (HS.out.below (HBV.out i) (Nat.le_refl _))))
  have C2 := hide (fun i => HLI.out _ _ _ i (HM2.out (.agg #[.int .i64 s.idx, .int .i64 s.st.kind, .slice la s.st.L.length lc, .bool s.st.shut, .int .i64 s.st.eng, .slice ta s.tab.length tc]) (V i) (HS.out.below (HBV.out i) (Nat.le_refl _))))
  have C3 := hide (fun i => HLI.out _ _ _ i (HS1.out (.agg #[.int .i64 s.idx, .int .i64 s.st.kind, .slice la s.st.L.length lc, .bool s.st.shut, .int .i64 s.st.eng, .slice ta s.tab.length tc]) s (.agg #[.int .i64 t.idx, .int .i64 t.st.kind, .slice la' t.st.L.length lc', .bool t.st.shut, .int .i64 t.st.eng, .slice ta' t.tab.length tc']) t (V i) (HS.out.below (HBV.out i) (Nat.le_refl _)) (HT.out.below (HBV.out i) (Nat.le_refl _))))
  have C4 := hide (fun i => HLI.out _ _ _ i (HS2.out (.agg #[.int .i64 s.idx, .int .i64 s.st.kind, .slice la s.st.L.length lc, .bool s.st.shut, .int .i64 s.st.eng, .slice ta s.tab.length tc]) s (.agg #[.int .i64 t.idx, .int .i64 t.st.kind, .slice la' t.st.L.length lc', .bool t.st.shut, .int .i64 t.st.eng, .slice ta' t.tab.length tc']) t (V i) (HS.out.below (HBV.out i) (Nat.le_refl _)) (HT.out.below (HBV.out i) (Nat.le_refl _))))
  have C5 := hide (fun i => HLI.out _ _ _ i (HS1.out (.agg #[.int .i64 s.idx, .int .i64 s.st.kind, .slice la s.st.L.length lc, .bool s.st.shut, .int .i64 s.st.eng, .slice ta s.tab.length tc]) s (.agg #[.int .i64 s.idx, .int .i64 s.st.kind, .slice la s.st.L.length lc, .bool s.st.shut, .int .i64 s.st.eng, .slice ta s.tab.length tc]) s (V i) (HS.out.below (HBV.out i) (Nat.le_refl _)) (HS.out.below (HBV.out i) (Nat.le_refl _))))
  have hrf : decide (SameN s s) = true := decide_eq_true ⟨⟨rfl, rfl, rfl, rfl⟩, rfl, rfl⟩
  rw [hrf] at C5
  generalize decide (MayN s) = bm at *
  generalize decide (SameN s t) = bs' at *
  clear lift hx hy hV hmem hrf
  cases bm <;> cases bs'
  all_goals
    go_upto_region 8 with fail
    refine wp_region_cls V i0 (by kernel_rfl) (by kernel_rfl) hi0.symm ?_
    repeat (go_big_quiet_step ((first | (go_at_call 11; exact C1.out _) | (go_at_call 12; exact C2.out _) | (go_at_call_of 13 (Value.agg #[.int .i64 t.idx, .int .i64 t.st.kind, .slice la' t.st.L.length lc', .bool t.st.shut, .int .i64 t.st.eng, .slice ta' t.tab.length tc']); exact C3.out _) | (go_at_call 14; exact C4.out _) | (go_at_call 13; exact C5.out _))))
    refine wpQuiet_nil ?_
    intro _ hw'
    obtain ⟨nq, hw''⟩ := hw'
    subst hw''
    go_wp2
    go_ret
    exact ⟨rfl, HBV.out _⟩

theorem own : ownKnob Try.prog.godebug = none := by kernel_rfl
theorem laidOut : laidOutB Try.prog = true := by kernel_rfl

set_option linter.unusedVariables false in
set_option maxRecDepth 100000 in
theorem lifted (os : Os) (started : os.Started) (H : Type) (enc : TypeId × Value → H) :
    ReturnsInHanded {} Try.checked os 3 .any (Rows.snapshotEncodesSpec.pre6 enc Try.prog Try.f3 Rows.snapshotEncodesRow.domain false) (Rows.snapshotEncodesSpec.post enc Try.prog Try.f3 false true false false) := by
  refine returnsInHanded_of_change (C := Try.checked) own started (by kernel_rfl) Try.func3
    (ChangeSpec.witness6 (enc := enc) (C := Try.checked) false ⟨#[], #[.agg #[.int .i64 0, .int .i64 0, .slice none 0 0, .bool false, .int .i64 0, .slice none 0 0], .agg #[.int .i64 0, .int .i64 0, .slice none 0 0, .bool false, .int .i64 0, .slice none 0 0]], []⟩ 8 (by kernel_rfl) (by kernel_rfl) (by kernel_rfl) (by kernel_rfl)) ?_
  intro W base args ds gs before hval0 hW hcnd _
  have hval : ∀ (j : Nat) t v, Try.f3.params[j]? = some t → args[j]? = some v → Value.okWide Try.prog W .any base t v := hval0
  have hW' := hW
  obtain ⟨p, q, hA0, hV, rfl, hfz, hnd⟩ := hW
  have hA : DataW.TrodAll enc Try.prog W 0 (fun _ => true) true Try.f3.params.toList args.toList ds p := hA0
  rw [Try.params3] at hA hval
  obtain ⟨v0, vs0, d0, ds0, p0, q0, hargs, rfl, rfl, h0, r0⟩ := trodAll_cons hA
  obtain ⟨v1, vs1, d1, ds1, p1, q1, rfl, rfl, rfl, h1, r1⟩ := trodAll_cons r0
  obtain ⟨rfl, rfl, rfl⟩ := trodAll_nil r1
  obtain rfl : args = #[v0, v1] := by cases args; simp_all
  obtain ⟨rfl, rfl⟩ := trodVars_none hV
  have k0 := h0
  have lt0 : ∀ x ∈ p0, x.block < W.heap.size := by obtain ⟨m, hm⟩ := k0; exact DataW.trod_lt m _ _ _ hm
  obtain ⟨s0, w0⟩ := open_snap (hval 0 27 v0 rfl rfl) h0
  have k1 := h1
  have lt1 : ∀ x ∈ p1, x.block < W.heap.size := by obtain ⟨m, hm⟩ := k1; exact DataW.trod_lt m _ _ _ hm
  obtain ⟨s1, w1⟩ := open_snap (hval 1 27 v1 rfl rfl) h1
  clear hA0 hval0
  refine (walk _ s0 _ s1 W w0 w1).mono fun e W' ⟨he, bel⟩ => ?_
  subst he
  exact ⟨_, rfl, _, _, _, [], _, [], hW', trodAll_mk1 (shut_bool Try.underlying4 _), (trodAll_cons_mk (Below.trod laidOut (by kernel_rfl) (of_decide_eq_true (by kernel_rfl)) k0 bel lt0) (trodAll_cons_mk (Below.trod laidOut (by kernel_rfl) (of_decide_eq_true (by kernel_rfl)) k1 bel lt1) trodAll_mk0)), rfl, bel.frame _, fun h => by cases h⟩

theorem over : Rows.snapshotEncodesRow.holds Try.pinned (OpenSpec.ofChange Rows.snapshotEncodesSpec) :=
  OpenClaim.holds_of_wide 3 Try.f3 rfl rfl rfl rfl rfl rfl rfl ⟨rfl, rfl, rfl, rfl, rfl⟩ rfl rfl rfl rfl rfl (by kernel_rfl) Try.func3 (by kernel_rfl)
    (of_decide_eq_true (by kernel_rfl)) (by unfold Func.isWrapper; first | (rw [if_pos (by decide +kernel)]; kernel_rfl) | (rw [if_neg (by decide +kernel)]; exact ⟨rfl, rfl⟩))
    (fun os started H enc _ => lifted os started H enc)

end Go.Proofs.Ytanmjihiceibbaa.snapshotEncodes
namespace Go.Proofs.Ytanmjihiceibbaa

theorem snapshotEncodes_holds : Rows.SnapshotEncodesSaid := snapshotEncodes.over

end Go.Proofs.Ytanmjihiceibbaa
