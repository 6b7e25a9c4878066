/- Proved: for all inputs the law DeltaCodes answers true (and the call leaves all older memory as it was). No condition. -/
import Derived.Test.YtgpdbboieokldaaGreatDeltaTwo
import Derived.Test.YtgpdbboieokldaaGreatOpenDelta
import Derived.Test.YtgpdbboieokldaaGreatQuietCls
import Derived.Test.YtgpdbboieokldaaGreatDeltaEnc
import Derived.Test.YtgpdbboieokldaaGreatDeltaSame
import Derived.Test.YtgpdbboieokldaaGreatRef10B
import Derived.Test.YtgpdbboieokldaaGreatRef10E
import Derived.Test.YtgpdbboieokldaaGreatRef10S
import Derived.OpenShut
import Derived.ChangeOld
namespace Go.Proofs.YtgpdbboieokldaaGreat.deltaCodes
open Go.ChangeShapes Go.WideShapes Go.ChangeAt Go.RowKit

set_option maxRecDepth 100000 in
set_option maxHeartbeats 8000000 in
theorem walk (v : Value) (d : Delt) (vb : Value) (b : List UInt8) (w : World) (hd : DlV w v d) (hr : Rd w vb b) :
    Calls Tryz.prog 3 #[v, vb] w fun e w' => e = .returned (.bool true) ∧ Below w.heap.size w w' := by
  have HA := hide (fun w => awake10_any w)
  have HF1 := hide (fun v W h => few10_any v d W h)
  generalize fewL d = fd at *
  have HEN := hide (fun v W h => encodeD_any v d W h)
  have HER := hide (fun v W h => refEncodeD_any v d W h)
  unfold EncodedD at HEN HER
  have HDN := hide (fun (hl : b.length ≤ 100000) v W h => decodeD_any v b W h hl)
  have HDR := hide (fun (hl : b.length ≤ 100000) v W h => refDecodeD_any v b W h hl)
  unfold GivenD at HDN HDR
  have HS1 := hide (fun va a vb b w h1 h2 => sameD_any va a vb b w h1 h2)
  have HS2 := hide (fun va a vb b w h1 h2 => refSameD_any va a vb b w h1 h2)
  generalize (decD b).1 = P at *
  generalize (decD b).2 = er2 at *
  obtain ⟨ma, mc, ta, tc, hv, -, -⟩ := hd.shape
  subst hv
  obtain ⟨ba, bc, hv⟩ : ∃ a c, vb = .slice a b.length c := by obtain ⟨a, c, h, -⟩ := hr; exact ⟨a, c, h⟩
  subst hv
  have HD := hide hd
  have HR := hide hr
  have HB0 : Hid (∀ X, Below w.heap.size w (w.alloc X)) := fun X => (Below.refl _ _).alloc (Nat.le_refl _) X
  have HX0 : Hid (∀ cs, Bd (w.alloc (.cells cs 25)) w.heap.size cs) := fun cs => heap_alloc_new w _
  clear hd hr
  go_enter Tryz.func3, Tryz.ntmps3
  go_wp2_with fail
  refine (HA.out _).mono ?_
  rintro e W1 ⟨rfl, hb1⟩
  have HX1 := hide ((HX0.out #[.int .i64 d.frm, .int .i64 d.upto, .int .i64 d.ahead, .int .i64 d.behind, .slice ma d.mid.length mc, .bool d.shut, .int .i64 d.eng, .slice ta d.tab.length tc]).below hb1 (Nat.le_refl _))
  have HB1 := hide ((HB0.out _).trans (hb1.mono (HB0.out _).size))
  clear hb1 HA HX0
  obtain ⟨⟨p0, p1, p2, p3, p4, p5, p6, p7⟩, -⟩ := HX1.out.all
  go_wp2_with fail
  refine (HF1.out _ _ (HD.out.below HB1.out (Nat.le_refl _))).mono ?_
  rintro e W2 ⟨rfl, hb2⟩
  have HX2 := hide (HX1.out.below hb2 (Nat.le_refl _))
  have HB2 := hide (HB1.out.trans (hb2.mono HB1.out.size))
  clear hb2 HX1 HB1 HF1 p0 p1 p2 p3 p4 p5 p6 p7
  obtain ⟨⟨p0, p1, p2, p3, p4, p5, p6, p7⟩, -⟩ := HX2.out.all
  cases fd with
  | false =>
    go_wp2
    go_ret
    exact ⟨rfl, HB2.out⟩
  | true =>
  by_cases hbl : b.length > 3000
  case pos =>
    have hbi : (b.length : Int) > 3000 := by omega
    go_wp2
    go_ret
    exact ⟨rfl, HB2.out⟩
  have hbi : ¬ (b.length : Int) > 3000 := by omega
  have HDN := hide (HDN.out (by omega))
  have HDR := hide (HDR.out (by omega))
  generalize (if MayD d then encD d else []) = EN at *
  generalize (if MayD d then (0 : Int) else 1) = er at *
  clear hbl
  go_wp2_with fail
  refine (HEN.out _ _ (HD.out.below HB2.out (Nat.le_refl _))).mono ?_
  rintro e W4 ⟨v4, rfl, ho4, hb4⟩
  have HX4 := hide (HX2.out.below hb4 (Nat.le_refl _))
  have HB4 := hide (HB2.out.trans (hb4.mono HB2.out.size))
  have HR4 := hide ho4.rd
  clear ho4 hb4 HX2 HB2 HEN p0 p1 p2 p3 p4 p5 p6 p7 hbi
  obtain ⟨⟨p0, p1, p2, p3, p4, p5, p6, p7⟩, -⟩ := HX4.out.all
  go_wp2_with fail
  refine (HER.out _ _ (HD.out.below HB4.out (Nat.le_refl _))).mono ?_
  rintro e W5 ⟨v5, rfl, ho5, hb5⟩
  have HX5 := hide (HX4.out.below hb5 (Nat.le_refl _))
  have HB5 := hide (HB4.out.trans (hb5.mono HB4.out.size))
  have HR45 := hide (HR4.out.below hb5 (Nat.le_refl _))
  have HR5 := hide ho5.rd
  clear ho5 hb5 HX4 HB4 HR4 HER p0 p1 p2 p3 p4 p5 p6 p7
  go_wp2_with fail
  refine (HDN.out _ _ (HR.out.below HB5.out (Nat.le_refl _))).mono ?_
  rintro e W6 ⟨vm, vt, rfl, hm6, ht6, hi6, -, -, hb6⟩
  obtain ⟨pa, pc, hv⟩ := hm6.shape
  subst hv
  obtain ⟨xa, xc, hv⟩ := ht6.shape
  subst hv
  have HP6 : Hid (DlV W6 (.agg #[.int .i64 P.frm, .int .i64 P.upto, .int .i64 P.ahead, .int .i64 P.behind, .slice pa P.mid.length pc, .bool P.shut, .int .i64 P.eng, .slice xa P.tab.length xc]) P) := hide ⟨_, _, rfl, hm6, ht6, hi6⟩
  have HX6 := hide (HX5.out.below hb6 (Nat.le_refl _))
  have HB6 := hide (HB5.out.trans (hb6.mono HB5.out.size))
  have HR46 := hide (HR45.out.below hb6 (Nat.le_refl _))
  have HR56 := hide (HR5.out.below hb6 (Nat.le_refl _))
  obtain ⟨W7, hW7⟩ : ∃ W7, W7 = W6.alloc (.cells #[.int .i64 P.frm, .int .i64 P.upto, .int .i64 P.ahead, .int .i64 P.behind, .slice pa P.mid.length pc, .bool P.shut, .int .i64 P.eng, .slice xa P.tab.length xc] 25) := ⟨_, rfl⟩
  obtain ⟨QP, hQP⟩ : ∃ QP, QP = W6.heap.size := ⟨_, rfl⟩
  have hA7 : Below W6.heap.size W6 W7 := by rw [hW7]; exact (Below.refl _ _).alloc (Nat.le_refl _) _
  have HQ7 : Hid (Bd W7 QP #[.int .i64 P.frm, .int .i64 P.upto, .int .i64 P.ahead, .int .i64 P.behind, .slice pa P.mid.length pc, .bool P.shut, .int .i64 P.eng, .slice xa P.tab.length xc]) := hide (by rw [hW7, hQP]; exact heap_alloc_new W6 _)
  have HP7 := hide (HP6.out.below hA7 (Nat.le_refl _))
  have HX7 := hide (HX6.out.below hA7 (Nat.le_refl _))
  have HB7 := hide (HB6.out.trans (hA7.mono HB6.out.size))
  have HR47 := hide (HR46.out.below hA7 (Nat.le_refl _))
  have HR57 := hide (HR56.out.below hA7 (Nat.le_refl _))
  have HW7 := hide hW7
  clear hm6 ht6 hi6 hb6 hA7 hW7 HDN HX5 HB5 HR45 HR5 HX6 HB6 HR46 HR56 HP6
  go_upto_region 8 with fail
  rw [← HW7.out, ← hQP]
  clear HW7 hQP
  go_wp2_with fail
  refine (HDR.out _ _ (HR.out.below HB7.out (Nat.le_refl _))).mono ?_
  rintro e W8 ⟨vm, vt, rfl, hm8, ht8, hi8, -, -, hb8⟩
  obtain ⟨qa, qc, hv⟩ := hm8.shape
  subst hv
  obtain ⟨ya, yc, hv⟩ := ht8.shape
  subst hv
  have HU8 : Hid (DlV W8 (.agg #[.int .i64 P.frm, .int .i64 P.upto, .int .i64 P.ahead, .int .i64 P.behind, .slice qa P.mid.length qc, .bool P.shut, .int .i64 P.eng, .slice ya P.tab.length yc]) P) := hide ⟨_, _, rfl, hm8, ht8, hi8⟩
  obtain ⟨W9, hW9⟩ : ∃ W9, W9 = W8.alloc (.cells #[.int .i64 P.frm, .int .i64 P.upto, .int .i64 P.ahead, .int .i64 P.behind, .slice qa P.mid.length qc, .bool P.shut, .int .i64 P.eng, .slice ya P.tab.length yc] 25) := ⟨_, rfl⟩
  obtain ⟨QQ, hQQ⟩ : ∃ QQ, QQ = W8.heap.size := ⟨_, rfl⟩
  have hA9 : Below W8.heap.size W8 W9 := by rw [hW9]; exact (Below.refl _ _).alloc (Nat.le_refl _) _
  have hA79 : Below W7.heap.size W7 W9 := hb8.trans (hA9.mono hb8.size)
  have HU9 : Hid (Bd W9 QQ #[.int .i64 P.frm, .int .i64 P.upto, .int .i64 P.ahead, .int .i64 P.behind, .slice qa P.mid.length qc, .bool P.shut, .int .i64 P.eng, .slice ya P.tab.length yc]) := hide (by rw [hW9, hQQ]; exact heap_alloc_new W8 _)
  have HV9 := hide (HU8.out.below hA9 (Nat.le_refl _))
  have HQ9 := hide (HQ7.out.below hA79 (Nat.le_refl _))
  have HP9 := hide (HP7.out.below hA79 (Nat.le_refl _))
  have HX9 := hide (HX7.out.below hA79 (Nat.le_refl _))
  have HB9 := hide (HB7.out.trans (hA79.mono HB7.out.size))
  have HR49 := hide (HR47.out.below hA79 (Nat.le_refl _))
  have HR59 := hide (HR57.out.below hA79 (Nat.le_refl _))
  have HW9 := hide hW9
  clear hm8 ht8 hi8 hb8 hA9 hA79 hW9 HDR HX7 HB7 HR47 HR57 HP7 HQ7 HU8
  go_upto_region 9 with fail
  rw [← HW9.out, ← hQQ]
  clear HW9 hQQ
  obtain ⟨⟨p0, p1, p2, p3, p4, p5, p6, p7⟩, -⟩ := HQ9.out.all
  obtain ⟨⟨q0, q1, q2, q3, q4, q5, q6, q7⟩, -⟩ := HU9.out.all
  have hrf : decide (SameD P P) = true := decide_eq_true (SameD.refl P)
  have HCS := hide (HS2.out _ _ _ _ W9 HP9.out HV9.out)
  rw [hrf] at HCS
  go_wp2_with fail
  refine HCS.out.mono ?_
  rintro e W10 ⟨rfl, hb10⟩
  have HU10 := hide (HU9.out.below hb10 (Nat.le_refl _))
  have HV10 := hide (HV9.out.below hb10 (Nat.le_refl _))
  have HQ10 := hide (HQ9.out.below hb10 (Nat.le_refl _))
  have HP10 := hide (HP9.out.below hb10 (Nat.le_refl _))
  have HX10 := hide (HX9.out.below hb10 (Nat.le_refl _))
  have HB10 := hide (HB9.out.trans (hb10.mono HB9.out.size))
  have HR410 := hide (HR49.out.below hb10 (Nat.le_refl _))
  have HR510 := hide (HR59.out.below hb10 (Nat.le_refl _))
  clear hb10 HCS HU9 HV9 HQ9 HP9 HX9 HB9 HR49 HR59 p0 p1 p2 p3 p4 p5 p6 p7 q0 q1 q2 q3 q4 q5 q6 q7
  obtain ⟨ι, hne, V, hV, hmem⟩ := below_cls W10.heap.size W10
  have HV := hide hV
  have HM := hide hmem
  obtain ⟨i0, hi0⟩ := hmem W10.drew (Below.refl _ _).drew
  have HBV : Hid (∀ i, Below w.heap.size w (V i)) := hide (fun i => HB10.out.trans ((HV.out i).mono HB10.out.size))
  have hx : ∀ i, Bd (V i) w.heap.size _ := fun i => HX10.out.below (HV.out i) (Nat.le_refl _)
  have hy : ∀ i, Bd (V i) QP _ := fun i => HQ10.out.below (HV.out i) (Nat.le_refl _)
  have hz : ∀ i, Bd (V i) QQ _ := fun i => HU10.out.below (HV.out i) (Nat.le_refl _)
  have hs4 : ∀ i, (convert 26 9 v4).run Tryz.prog (V i) = .ok (.string (bs EN)) (V i) := fun i => (HR410.out.below (HV.out i) (Nat.le_refl _)).str
  have hs5 : ∀ i, (convert 26 9 v5).run Tryz.prog (V i) = .ok (.string (bs EN)) (V i) := fun i => (HR510.out.below (HV.out i) (Nat.le_refl _)).str
  have p0 : ∀ i, (V i).cell? ⟨w.heap.size, 0, none⟩ = some (.int .i64 d.frm) := fun i => ((hx i).cell 0).1
  have p1 : ∀ i, (V i).cell? ⟨w.heap.size, 1, none⟩ = some (.int .i64 d.upto) := fun i => ((hx i).cell 1).1
  have p2 : ∀ i, (V i).cell? ⟨w.heap.size, 2, none⟩ = some (.int .i64 d.ahead) := fun i => ((hx i).cell 2).1
  have p3 : ∀ i, (V i).cell? ⟨w.heap.size, 3, none⟩ = some (.int .i64 d.behind) := fun i => ((hx i).cell 3).1
  have p4 : ∀ i, (V i).cell? ⟨w.heap.size, 4, none⟩ = some (.slice ma d.mid.length mc) := fun i => ((hx i).cell 4).1
  have p5 : ∀ i, (V i).cell? ⟨w.heap.size, 5, none⟩ = some (.bool d.shut) := fun i => ((hx i).cell 5).1
  have p6 : ∀ i, (V i).cell? ⟨w.heap.size, 6, none⟩ = some (.int .i64 d.eng) := fun i => ((hx i).cell 6).1
  have p7 : ∀ i, (V i).cell? ⟨w.heap.size, 7, none⟩ = some (.slice ta d.tab.length tc) := fun i => ((hx i).cell 7).1
  have q0 : ∀ i, (V i).cell? ⟨QP, 0, none⟩ = some (.int .i64 P.frm) := fun i => ((hy i).cell 0).1
  have q1 : ∀ i, (V i).cell? ⟨QP, 1, none⟩ = some (.int .i64 P.upto) := fun i => ((hy i).cell 1).1
  have q2 : ∀ i, (V i).cell? ⟨QP, 2, none⟩ = some (.int .i64 P.ahead) := fun i => ((hy i).cell 2).1
  have q3 : ∀ i, (V i).cell? ⟨QP, 3, none⟩ = some (.int .i64 P.behind) := fun i => ((hy i).cell 3).1
  have q4 : ∀ i, (V i).cell? ⟨QP, 4, none⟩ = some (.slice pa P.mid.length pc) := fun i => ((hy i).cell 4).1
  have q5 : ∀ i, (V i).cell? ⟨QP, 5, none⟩ = some (.bool P.shut) := fun i => ((hy i).cell 5).1
  have q6 : ∀ i, (V i).cell? ⟨QP, 6, none⟩ = some (.int .i64 P.eng) := fun i => ((hy i).cell 6).1
  have q7 : ∀ i, (V i).cell? ⟨QP, 7, none⟩ = some (.slice xa P.tab.length xc) := fun i => ((hy i).cell 7).1
  have r0 : ∀ i, (V i).cell? ⟨QQ, 0, none⟩ = some (.int .i64 P.frm) := fun i => ((hz i).cell 0).1
  have r1 : ∀ i, (V i).cell? ⟨QQ, 1, none⟩ = some (.int .i64 P.upto) := fun i => ((hz i).cell 1).1
  have r2 : ∀ i, (V i).cell? ⟨QQ, 2, none⟩ = some (.int .i64 P.ahead) := fun i => ((hz i).cell 2).1
  have r3 : ∀ i, (V i).cell? ⟨QQ, 3, none⟩ = some (.int .i64 P.behind) := fun i => ((hz i).cell 3).1
  have r4 : ∀ i, (V i).cell? ⟨QQ, 4, none⟩ = some (.slice qa P.mid.length qc) := fun i => ((hz i).cell 4).1
  have r5 : ∀ i, (V i).cell? ⟨QQ, 5, none⟩ = some (.bool P.shut) := fun i => ((hz i).cell 5).1
  have r6 : ∀ i, (V i).cell? ⟨QQ, 6, none⟩ = some (.int .i64 P.eng) := fun i => ((hz i).cell 6).1
  have r7 : ∀ i, (V i).cell? ⟨QQ, 7, none⟩ = some (.slice ya P.tab.length yc) := fun i => ((hz i).cell 7).1
  have lift : ∀ (f : Nat) (args : Array Value) (x : Bool) (i : ι), (Calls Tryz.prog f args (V i) fun e w' => e = .returned (.bool x) ∧ Below (V i).heap.size (V i) w') → Calls Tryz.prog f args (V i) fun e w' => e = .returned (.bool x) ∧ ∃ m, w' = V m := fun f args x i h => h.mono fun e w' h => ⟨h.1, HM.out w' ((HV.out i).trans (h.2.mono (HV.out i).size))⟩
  have HLI := hide lift
  have C1 := hide (fun i => HLI.out _ _ _ i (HS1.out (.agg #[.int .i64 P.frm, .int .i64 P.upto, .int .i64 P.ahead, .int .i64 P.behind, .slice pa P.mid.length pc, .bool P.shut, .int .i64 P.eng, .slice xa P.tab.length xc]) P (.agg #[.int .i64 P.frm, .int .i64 P.upto, .int .i64 P.ahead, .int .i64 P.behind, .slice qa P.mid.length qc, .bool P.shut, .int .i64 P.eng, .slice ya P.tab.length yc]) P (V i) (HP10.out.below (HV.out i) (Nat.le_refl _)) (HV10.out.below (HV.out i) (Nat.le_refl _))))
  have C2 := hide (fun i => HLI.out _ _ _ i (HS1.out (.agg #[.int .i64 d.frm, .int .i64 d.upto, .int .i64 d.ahead, .int .i64 d.behind, .slice ma d.mid.length mc, .bool d.shut, .int .i64 d.eng, .slice ta d.tab.length tc]) d (.agg #[.int .i64 P.frm, .int .i64 P.upto, .int .i64 P.ahead, .int .i64 P.behind, .slice pa P.mid.length pc, .bool P.shut, .int .i64 P.eng, .slice xa P.tab.length xc]) P (V i) (HD.out.below (HBV.out i) (Nat.le_refl _)) (HP10.out.below (HV.out i) (Nat.le_refl _))))
  have C3 := hide (fun i => HLI.out _ _ _ i (HS2.out (.agg #[.int .i64 d.frm, .int .i64 d.upto, .int .i64 d.ahead, .int .i64 d.behind, .slice ma d.mid.length mc, .bool d.shut, .int .i64 d.eng, .slice ta d.tab.length tc]) d (.agg #[.int .i64 P.frm, .int .i64 P.upto, .int .i64 P.ahead, .int .i64 P.behind, .slice pa P.mid.length pc, .bool P.shut, .int .i64 P.eng, .slice xa P.tab.length xc]) P (V i) (HD.out.below (HBV.out i) (Nat.le_refl _)) (HP10.out.below (HV.out i) (Nat.le_refl _))))
  rw [hrf] at C1
  generalize decide (SameD d P) = bd at *
  clear lift hx hy hz hV hmem hrf HS1 HS2
  cases bd
  all_goals
    go_upto_region 10 with fail
    refine wp_region_cls V i0 (by kernel_rfl) (by kernel_rfl) hi0.symm ?_
    repeat (go_big_quiet_step ((first | (go_at_call_of 11 (Value.agg #[.int .i64 P.frm, .int .i64 P.upto, .int .i64 P.ahead, .int .i64 P.behind, .slice qa P.mid.length qc, .bool P.shut, .int .i64 P.eng, .slice ya P.tab.length yc]); exact C1.out _) | (go_at_call 11; exact C2.out _) | (go_at_call 10; exact C3.out _))))
    refine wpQuiet_nil ?_
    intro _ hw'
    obtain ⟨nq, hw''⟩ := hw'
    subst hw''
    go_wp2
    go_ret
    exact ⟨rfl, HBV.out _⟩

theorem own : ownKnob Tryz.prog.godebug = none := by kernel_rfl
theorem laidOut : laidOutB Tryz.prog = true := by kernel_rfl

set_option linter.unusedVariables false in
set_option maxRecDepth 100000 in
theorem lifted (os : Os) (started : os.Started) (H : Type) (enc : TypeId × Value → H) :
    ReturnsInHanded {} Tryz.checked os 3 .any (Rows.deltaCodesSpec.pre6 enc Tryz.prog Tryz.f3 Rows.deltaCodesRow.domain false) (Rows.deltaCodesSpec.post enc Tryz.prog Tryz.f3 false true false false) := by
  refine returnsInHanded_of_change (C := Tryz.checked) own started (by kernel_rfl) Tryz.func3
    (ChangeSpec.witness6 (enc := enc) (C := Tryz.checked) false ⟨#[], #[.agg #[.int .i64 0, .int .i64 0, .int .i64 0, .int .i64 0, .slice none 0 0, .bool false, .int .i64 0, .slice none 0 0], .slice none 0 0], []⟩ 8 (by kernel_rfl) (by kernel_rfl) (by kernel_rfl) (by kernel_rfl)) ?_
  intro W base args ds gs before hval0 hW hcnd _
  have hval : ∀ (j : Nat) t v, Tryz.f3.params[j]? = some t → args[j]? = some v → Value.okWide Tryz.prog W .any base t v := hval0
  have hW' := hW
  obtain ⟨p, q, hA0, hV, rfl, hfz, hnd⟩ := hW
  have hA : DataW.TrodAll enc Tryz.prog W 0 (fun _ => true) true Tryz.f3.params.toList args.toList ds p := hA0
  rw [Tryz.params3] at hA hval
  obtain ⟨v0, vs0, d0, ds0, p0, q0, hargs, rfl, rfl, h0, r0⟩ := trodAll_cons hA
  obtain ⟨v1, vs1, d1, ds1, p1, q1, rfl, rfl, rfl, h1, r1⟩ := trodAll_cons r0
  obtain ⟨rfl, rfl, rfl⟩ := trodAll_nil r1
  obtain rfl : args = #[v0, v1] := by cases args; simp_all
  obtain ⟨rfl, rfl⟩ := trodVars_none hV
  have k0 := h0
  have lt0 : ∀ x ∈ p0, x.block < W.heap.size := by obtain ⟨m, hm⟩ := k0; exact DataW.trod_lt m _ _ _ hm
  obtain ⟨s0, w0⟩ := open_delta (hval 0 25 v0 rfl rfl) h0
  obtain ⟨a1, len1, cap1, rfl⟩ := okWide_slice Tryz.underlying26 (hval 1 26 v1 rfl rfl)
  have k1 := h1
  have lt1 : ∀ x ∈ p1, x.block < W.heap.size := by obtain ⟨m, hm⟩ := k1; exact DataW.trod_lt m _ _ _ hm
  obtain ⟨l1, w1⟩ : ∃ l, Rd W (.slice a1 len1 cap1) l := by
    obtain ⟨fuel, hf⟩ := h1
    rcases open_ints Tryz.underlying26 Tryz.underlying5 (by kernel_rfl) hf with ⟨hcs, _⟩ | ⟨x, l, c, zs, hcs, _, hl, hm, hz, _, hcell, hwz⟩
    · simp [Value.cells] at hcs
      obtain ⟨rfl, rfl, rfl⟩ := hcs
      exact ⟨[], Rd.nil _⟩
    · simp [Value.cells] at hcs
      obtain ⟨rfl, rfl, rfl⟩ := hcs
      exact ⟨_, Rd.ofRow hl hm (by simpa using hz) hcell hwz⟩
  clear hA0 hval0
  refine (walk _ s0 _ l1 W w0 w1).mono fun e W' ⟨he, bel⟩ => ?_
  subst he
  exact ⟨_, rfl, _, _, _, [], _, [], hW', trodAll_mk1 (shut_bool Tryz.underlying4 _), (trodAll_cons_mk (Below.trod laidOut (by kernel_rfl) (of_decide_eq_true (by kernel_rfl)) k0 bel lt0) (trodAll_cons_mk (Below.trod laidOut (by kernel_rfl) (of_decide_eq_true (by kernel_rfl)) k1 bel lt1) trodAll_mk0)), rfl, bel.frame _, fun h => by cases h⟩

theorem over : Rows.deltaCodesRow.holds Tryz.pinned (OpenSpec.ofChange Rows.deltaCodesSpec) :=
  OpenClaim.holds_of_wide 3 Tryz.f3 rfl rfl rfl rfl rfl rfl rfl ⟨rfl, rfl, rfl, rfl, rfl⟩ rfl rfl rfl rfl rfl (by kernel_rfl) Tryz.func3 (by kernel_rfl)
    (of_decide_eq_true (by kernel_rfl)) (by unfold Func.isWrapper; first | (rw [if_pos (by decide +kernel)]; kernel_rfl) | (rw [if_neg (by decide +kernel)]; exact ⟨rfl, rfl⟩))
    (fun os started H enc _ => lifted os started H enc)

end Go.Proofs.YtgpdbboieokldaaGreat.deltaCodes
namespace Go.Proofs.YtgpdbboieokldaaGreat

theorem deltaCodes_holds : Rows.DeltaCodesSaid := deltaCodes.over

end Go.Proofs.YtgpdbboieokldaaGreat
