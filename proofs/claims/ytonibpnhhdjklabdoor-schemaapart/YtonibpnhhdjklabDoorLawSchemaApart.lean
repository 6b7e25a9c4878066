/- Proved: for all versions and pairs of records the law SchemaApart answers true (and the call leaves all older memory as it was). Its condition: the package-level variable schema.fieldsOf starts as the program's text lays it (the card ties it to that text, by the deep look, over the pruned copy). -/
import Derived.Test.YtonibpnhhdjklabDoorSchemaAwake
import Derived.Test.YtonibpnhhdjklabDoorOpenSchema
import Derived.OpenShut
import Derived.ChangeOld
namespace Go.Proofs.YtonibpnhhdjklabDoor.schemaApart
open Go.ChangeShapes Go.WideShapes Go.ChangeAt Go.RowKit

set_option maxRecDepth 100000 in
set_option maxHeartbeats 2000000 in
theorem walk (v : Int) (a : Rec) (b : Rec) (w : World) (_hv : (Lit.int .i64 v).wf = true) (_ha : RecOk a) (_hb : RecOk b) (ht : TabF w) :
    Calls Tryd.prog 3 #[.int .i64 v, recV a, recV b] w fun e w' => e = .returned (.bool true) ∧ Below w.heap.size w w' := by
  have HA := hide (fun W (hb : Below w.heap.size w W) => awake6_any W (ht.below hb (Nat.le_refl _)))
  have HB0 : Hid (∀ X Y, Below w.heap.size w ((w.alloc X).alloc Y)) := fun X Y => ((Below.refl _ _).alloc (Nat.le_refl _) X).alloc (by simp) Y
  have S1 : Hid (∀ X Y, ((w.alloc X).alloc Y).heap.size = w.heap.size + 1 + 1) := fun X Y => by simp
  have X1 : Hid (∀ cs Y, Br ((w.alloc (.cells cs 25)).alloc Y) w.heap.size cs) := fun cs Y => (Below.heap_alloc _ _ _ (by simp)).trans (heap_alloc_new w _)
  have X2 : Hid (∀ X cs, Br ((w.alloc X).alloc (.cells cs 25)) (w.heap.size + 1) cs) := fun X cs => two_new w _ _
  have hgd := guard_rec
  have HEA := hide (fun W (hb : Below w.heap.size w W) => encodeR_any v a W (ht.below hb (Nat.le_refl _)))
  have HEB := hide (fun W (hb : Below w.heap.size w W) => encodeR_any v b W (ht.below hb (Nat.le_refl _)))
  have HUA := hide (fun W (hb : Below w.heap.size w W) => upgrade_any v a W (ht.below hb (Nat.le_refl _)))
  have HUB := hide (fun W (hb : Below w.heap.size w W) => upgrade_any v b W (ht.below hb (Nat.le_refl _)))
  unfold EncodedR at HEA HEB
  unfold recV at HEA HEB HUA HUB ⊢
  have hbad : ∀ x : Rec, ¬ ((1 ≤ v ∧ v ≤ 3) ∧ FitsR x) → (encErr v x != 0) = true := fun x hx => by
    rw [bne_iff_ne]
    unfold encErr
    by_cases h1 : 1 ≤ v ∧ v ≤ 3
    · rw [if_pos h1, if_neg (fun h => hx ⟨h1, h⟩)]; decide
    · rw [if_neg h1]; decide
  by_cases hoa : (1 ≤ v ∧ v ≤ 3) ∧ FitsR a
  case neg =>
    have he := hbad a hoa
    clear hbad hoa HUA HUB
    generalize encErr v a = ea at *
    generalize encErr v b = eb at *
    generalize encL v a = EA at *
    generalize encL v b = EB at *
    go_enter Tryd.func3, Tryd.ntmps3
    go_wp2_with fail
    refine (HA.out _ (HB0.out _ _)).mono ?_
    rintro e W1 ⟨rfl, hb1⟩
    have HP1 := hide ((X1.out _ _).below hb1 (Nat.le_refl _))
    have HQ1 := hide ((X2.out _ _).below hb1 (Nat.le_refl _))
    have HB1 := hide ((HB0.out _ _).trans (hb1.mono (by rw [S1.out]; omega)))
    clear hb1 HA X1 X2
    obtain ⟨q0, -⟩ := HP1.out.cell 0
    obtain ⟨q1, -⟩ := HP1.out.cell 1
    obtain ⟨q2, -⟩ := HP1.out.cell 2
    obtain ⟨q3, -⟩ := HP1.out.cell 3
    obtain ⟨q4, -⟩ := HP1.out.cell 4
    obtain ⟨q5, -⟩ := HP1.out.cell 5
    obtain ⟨q6, -⟩ := HP1.out.cell 6
    go_wp2_with fail
    refine (HEA.out _ HB1.out).mono ?_
    rintro e W2 ⟨v2, rfl, ho2, hb2⟩
    have HO2 := hide ho2.rd
    have HP2 := hide (HP1.out.below hb2 (Nat.le_refl _))
    have HQ2 := hide (HQ1.out.below hb2 (Nat.le_refl _))
    have HB2 := hide (HB1.out.trans (hb2.mono HB1.out.size))
    clear ho2 hb2 HP1 HQ1 HB1 HEA q0 q1 q2 q3 q4 q5 q6
    obtain ⟨q0, -⟩ := HQ2.out.cell 0
    obtain ⟨q1, -⟩ := HQ2.out.cell 1
    obtain ⟨q2, -⟩ := HQ2.out.cell 2
    obtain ⟨q3, -⟩ := HQ2.out.cell 3
    obtain ⟨q4, -⟩ := HQ2.out.cell 4
    obtain ⟨q5, -⟩ := HQ2.out.cell 5
    obtain ⟨q6, -⟩ := HQ2.out.cell 6
    go_wp2_with fail
    refine (HEB.out _ HB2.out).mono ?_
    rintro e W3 ⟨v3, rfl, ho3, hb3⟩
    have HO23 := hide (HO2.out.below hb3 (Nat.le_refl _))
    have HO3 := hide ho3.rd
    have HP3 := hide (HP2.out.below hb3 (Nat.le_refl _))
    have HQ3 := hide (HQ2.out.below hb3 (Nat.le_refl _))
    have HB3 := hide (HB2.out.trans (hb3.mono HB2.out.size))
    clear ho3 hb3 HP2 HQ2 HB2 HO2 HEB q0 q1 q2 q3 q4 q5 q6
    go_wp2
    go_ret
    exact ⟨rfl, HB3.out⟩
  have e1 : encErr v a = 0 := by unfold encErr; rw [if_pos hoa.1, if_pos hoa.2]
  have e2 : encL v a = encR v a := by unfold encL; rw [if_pos hoa.1, if_pos hoa.2]
  rw [e1, e2] at HEA
  by_cases hob : FitsR b
  case neg =>
    have he := hbad b (fun h => hob h.2)
    clear hbad hoa hob HUA HUB e1 e2
    generalize encErr v b = eb at *
    generalize encR v a = EA at *
    generalize encL v b = EB at *
    go_enter Tryd.func3, Tryd.ntmps3
    go_wp2_with fail
    refine (HA.out _ (HB0.out _ _)).mono ?_
    rintro e W1 ⟨rfl, hb1⟩
    have HP1 := hide ((X1.out _ _).below hb1 (Nat.le_refl _))
    have HQ1 := hide ((X2.out _ _).below hb1 (Nat.le_refl _))
    have HB1 := hide ((HB0.out _ _).trans (hb1.mono (by rw [S1.out]; omega)))
    clear hb1 HA X1 X2
    obtain ⟨q0, -⟩ := HP1.out.cell 0
    obtain ⟨q1, -⟩ := HP1.out.cell 1
    obtain ⟨q2, -⟩ := HP1.out.cell 2
    obtain ⟨q3, -⟩ := HP1.out.cell 3
    obtain ⟨q4, -⟩ := HP1.out.cell 4
    obtain ⟨q5, -⟩ := HP1.out.cell 5
    obtain ⟨q6, -⟩ := HP1.out.cell 6
    go_wp2_with fail
    refine (HEA.out _ HB1.out).mono ?_
    rintro e W2 ⟨v2, rfl, ho2, hb2⟩
    have HO2 := hide ho2.rd
    have HP2 := hide (HP1.out.below hb2 (Nat.le_refl _))
    have HQ2 := hide (HQ1.out.below hb2 (Nat.le_refl _))
    have HB2 := hide (HB1.out.trans (hb2.mono HB1.out.size))
    clear ho2 hb2 HP1 HQ1 HB1 HEA q0 q1 q2 q3 q4 q5 q6
    obtain ⟨q0, -⟩ := HQ2.out.cell 0
    obtain ⟨q1, -⟩ := HQ2.out.cell 1
    obtain ⟨q2, -⟩ := HQ2.out.cell 2
    obtain ⟨q3, -⟩ := HQ2.out.cell 3
    obtain ⟨q4, -⟩ := HQ2.out.cell 4
    obtain ⟨q5, -⟩ := HQ2.out.cell 5
    obtain ⟨q6, -⟩ := HQ2.out.cell 6
    go_wp2_with fail
    refine (HEB.out _ HB2.out).mono ?_
    rintro e W3 ⟨v3, rfl, ho3, hb3⟩
    have HO23 := hide (HO2.out.below hb3 (Nat.le_refl _))
    have HO3 := hide ho3.rd
    have HP3 := hide (HP2.out.below hb3 (Nat.le_refl _))
    have HQ3 := hide (HQ2.out.below hb3 (Nat.le_refl _))
    have HB3 := hide (HB2.out.trans (hb3.mono HB2.out.size))
    clear ho3 hb3 HP2 HQ2 HB2 HO2 HEB q0 q1 q2 q3 q4 q5 q6
    go_wp2
    go_ret
    exact ⟨rfl, HB3.out⟩
  have e3 : encErr v b = 0 := by unfold encErr; rw [if_pos hoa.1, if_pos hob]
  have e4 : encL v b = encR v b := by unfold encL; rw [if_pos hoa.1, if_pos hob]
  rw [e3, e4] at HEB
  rw [if_pos hoa.1, if_pos hoa.1] at HUA HUB
  have hinj := encR_inj hoa.1.1 hoa.1.2 hoa.2 hob
  have hua : v = 3 → upgR v a = a := fun h => by rw [h]; exact upg_three a
  have hub : v = 3 → upgR v b = b := fun h => by rw [h]; exact upg_three b
  obtain ⟨β, hβ⟩ : ∃ β, β = eqRec (upgR v a) (upgR v b) := ⟨_, rfl⟩
  have hse : ((bs (encR v a)).toList == (bs (encR v b)).toList) = β := by
    rw [bs_eq, hβ]
    by_cases h : upgR v a = upgR v b
    · rw [(eqRec_iff _ _).2 h, beq_iff_eq]
      exact hinj.2 h
    · have h2 : eqRec (upgR v a) (upgR v b) = false := by
        cases hq : eqRec (upgR v a) (upgR v b)
        · rfl
        · exact absurd ((eqRec_iff _ _).1 hq) h
      rw [h2, beq_eq_false_iff_ne]
      exact fun e => h (hinj.1 e)
  have heq : ∀ W, (binOp .eql 25 (.agg #[.int .i64 (upgR v a).idx, .int .i64 (upgR v a).proc, .int .i64 (upgR v a).seq, .int .i64 (upgR v a).op.code, .int .i64 (upgR v a).op.a, .int .i64 (upgR v a).op.b, .int .i64 (upgR v a).resp]) (.agg #[.int .i64 (upgR v b).idx, .int .i64 (upgR v b).proc, .int .i64 (upgR v b).seq, .int .i64 (upgR v b).op.code, .int .i64 (upgR v b).op.a, .int .i64 (upgR v b).op.b, .int .i64 (upgR v b).resp])).run Tryd.prog W = .ok (.bool β) W := fun W => by
    rw [hβ]
    exact eql_rec W (upgR v a) (upgR v b)
  have HSE := hide hse
  have HEQ := hide heq
  clear hbad hoa hob e1 e2 e3 e4 hinj hse heq hβ
  generalize encR v a = EA at *
  generalize encR v b = EB at *
  by_cases h3 : v = 3
  · have h3a := hua h3
    have h3b := hub h3
    rw [h3a] at HUA HEQ
    rw [h3b] at HUB HEQ
    have hn3 : (v != 3) = false := by rw [h3]; rfl
    clear hua hub h3 h3a h3b
    go_enter Tryd.func3, Tryd.ntmps3
    go_wp2_with fail
    refine (HA.out _ (HB0.out _ _)).mono ?_
    rintro e W1 ⟨rfl, hb1⟩
    have HP1 := hide ((X1.out _ _).below hb1 (Nat.le_refl _))
    have HQ1 := hide ((X2.out _ _).below hb1 (Nat.le_refl _))
    have HB1 := hide ((HB0.out _ _).trans (hb1.mono (by rw [S1.out]; omega)))
    clear hb1 HA X1 X2
    obtain ⟨q0, -⟩ := HP1.out.cell 0
    obtain ⟨q1, -⟩ := HP1.out.cell 1
    obtain ⟨q2, -⟩ := HP1.out.cell 2
    obtain ⟨q3, -⟩ := HP1.out.cell 3
    obtain ⟨q4, -⟩ := HP1.out.cell 4
    obtain ⟨q5, -⟩ := HP1.out.cell 5
    obtain ⟨q6, -⟩ := HP1.out.cell 6
    go_wp2_with fail
    refine (HEA.out _ HB1.out).mono ?_
    rintro e W2 ⟨v2, rfl, ho2, hb2⟩
    have HO2 := hide ho2.rd
    have HP2 := hide (HP1.out.below hb2 (Nat.le_refl _))
    have HQ2 := hide (HQ1.out.below hb2 (Nat.le_refl _))
    have HB2 := hide (HB1.out.trans (hb2.mono HB1.out.size))
    clear ho2 hb2 HP1 HQ1 HB1 HEA q0 q1 q2 q3 q4 q5 q6
    obtain ⟨q0, -⟩ := HQ2.out.cell 0
    obtain ⟨q1, -⟩ := HQ2.out.cell 1
    obtain ⟨q2, -⟩ := HQ2.out.cell 2
    obtain ⟨q3, -⟩ := HQ2.out.cell 3
    obtain ⟨q4, -⟩ := HQ2.out.cell 4
    obtain ⟨q5, -⟩ := HQ2.out.cell 5
    obtain ⟨q6, -⟩ := HQ2.out.cell 6
    go_wp2_with fail
    refine (HEB.out _ HB2.out).mono ?_
    rintro e W3 ⟨v3, rfl, ho3, hb3⟩
    have HO23 := hide (HO2.out.below hb3 (Nat.le_refl _))
    have HO3 := hide ho3.rd
    have HP3 := hide (HP2.out.below hb3 (Nat.le_refl _))
    have HQ3 := hide (HQ2.out.below hb3 (Nat.le_refl _))
    have HB3 := hide (HB2.out.trans (hb3.mono HB2.out.size))
    clear ho3 hb3 HP2 HQ2 HB2 HO2 HEB q0 q1 q2 q3 q4 q5 q6
    obtain ⟨q0, -⟩ := HP3.out.cell 0
    obtain ⟨q1, -⟩ := HP3.out.cell 1
    obtain ⟨q2, -⟩ := HP3.out.cell 2
    obtain ⟨q3, -⟩ := HP3.out.cell 3
    obtain ⟨q4, -⟩ := HP3.out.cell 4
    obtain ⟨q5, -⟩ := HP3.out.cell 5
    obtain ⟨q6, -⟩ := HP3.out.cell 6
    go_wp2_with fail
    refine (HUA.out _ HB3.out).mono ?_
    rintro e W4 ⟨rfl, hb4⟩
    have HO24 := hide (HO23.out.below hb4 (Nat.le_refl _))
    have HO34 := hide (HO3.out.below hb4 (Nat.le_refl _))
    have HP4 := hide (HP3.out.below hb4 (Nat.le_refl _))
    have HQ4 := hide (HQ3.out.below hb4 (Nat.le_refl _))
    have HB4 := hide (HB3.out.trans (hb4.mono HB3.out.size))
    clear hb4 HP3 HQ3 HB3 HO23 HO3 HUA q0 q1 q2 q3 q4 q5 q6
    obtain ⟨NA, hNA⟩ : ∃ N, N = W4.heap.size := ⟨_, rfl⟩
    obtain ⟨WA, hWA⟩ : ∃ V, V = W4.alloc (.cells #[.int .i64 a.idx, .int .i64 a.proc, .int .i64 a.seq, .int .i64 a.op.code, .int .i64 a.op.a, .int .i64 a.op.b, .int .i64 a.resp] 25) := ⟨_, rfl⟩
    have hbA : Below W4.heap.size W4 WA := by rw [hWA]; exact (Below.refl _ _).alloc (Nat.le_refl _) _
    have HPA := hide (HP4.out.below hbA (Nat.le_refl _))
    have HQA := hide (HQ4.out.below hbA (Nat.le_refl _))
    have HYA : Hid (Br WA NA #[.int .i64 a.idx, .int .i64 a.proc, .int .i64 a.seq, .int .i64 a.op.code, .int .i64 a.op.a, .int .i64 a.op.b, .int .i64 a.resp]) := hide (by rw [hWA, hNA]; exact heap_alloc_new W4 _)
    have HBA := hide (HB4.out.trans (hbA.mono HB4.out.size))
    have HO2A := hide (HO24.out.below hbA (Nat.le_refl _))
    have HO3A := hide (HO34.out.below hbA (Nat.le_refl _))
    go_upto_region 7 with fail
    rw [← hWA, ← hNA]
    clear hWA hNA hbA HP4 HQ4 HB4 HO24 HO34
    obtain ⟨q0, -⟩ := HQA.out.cell 0
    obtain ⟨q1, -⟩ := HQA.out.cell 1
    obtain ⟨q2, -⟩ := HQA.out.cell 2
    obtain ⟨q3, -⟩ := HQA.out.cell 3
    obtain ⟨q4, -⟩ := HQA.out.cell 4
    obtain ⟨q5, -⟩ := HQA.out.cell 5
    obtain ⟨q6, -⟩ := HQA.out.cell 6
    go_wp2_with fail
    refine (HUB.out _ HBA.out).mono ?_
    rintro e W5 ⟨rfl, hb5⟩
    have HO25 := hide (HO2A.out.below hb5 (Nat.le_refl _))
    have HO35 := hide (HO3A.out.below hb5 (Nat.le_refl _))
    have HP5 := hide (HPA.out.below hb5 (Nat.le_refl _))
    have HQ5 := hide (HQA.out.below hb5 (Nat.le_refl _))
    have HY5 := hide (HYA.out.below hb5 (Nat.le_refl _))
    have HB5 := hide (HBA.out.trans (hb5.mono HBA.out.size))
    clear hb5 HPA HQA HYA HBA HO2A HO3A HUB q0 q1 q2 q3 q4 q5 q6
    obtain ⟨NB, hNB⟩ : ∃ N, N = W5.heap.size := ⟨_, rfl⟩
    obtain ⟨WB, hWB⟩ : ∃ V, V = W5.alloc (.cells #[.int .i64 b.idx, .int .i64 b.proc, .int .i64 b.seq, .int .i64 b.op.code, .int .i64 b.op.a, .int .i64 b.op.b, .int .i64 b.resp] 25) := ⟨_, rfl⟩
    have hbB : Below W5.heap.size W5 WB := by rw [hWB]; exact (Below.refl _ _).alloc (Nat.le_refl _) _
    have HPB := hide (HP5.out.below hbB (Nat.le_refl _))
    have HQB := hide (HQ5.out.below hbB (Nat.le_refl _))
    have HYB := hide (HY5.out.below hbB (Nat.le_refl _))
    have HZB : Hid (Br WB NB #[.int .i64 b.idx, .int .i64 b.proc, .int .i64 b.seq, .int .i64 b.op.code, .int .i64 b.op.a, .int .i64 b.op.b, .int .i64 b.resp]) := hide (by rw [hWB, hNB]; exact heap_alloc_new W5 _)
    have HBB := hide (HB5.out.trans (hbB.mono HB5.out.size))
    have HO2B := hide (HO25.out.below hbB (Nat.le_refl _))
    have HO3B := hide (HO35.out.below hbB (Nat.le_refl _))
    go_upto_region 8 with fail
    rw [← hWB, ← hNB]
    clear hWB hNB hbB HP5 HQ5 HY5 HB5 HO25 HO35
    obtain ⟨p0, -⟩ := HPB.out.cell 0
    obtain ⟨p1, -⟩ := HPB.out.cell 1
    obtain ⟨p2, -⟩ := HPB.out.cell 2
    obtain ⟨p3, -⟩ := HPB.out.cell 3
    obtain ⟨p4, -⟩ := HPB.out.cell 4
    obtain ⟨p5, -⟩ := HPB.out.cell 5
    obtain ⟨p6, -⟩ := HPB.out.cell 6
    obtain ⟨q0, -⟩ := HQB.out.cell 0
    obtain ⟨q1, -⟩ := HQB.out.cell 1
    obtain ⟨q2, -⟩ := HQB.out.cell 2
    obtain ⟨q3, -⟩ := HQB.out.cell 3
    obtain ⟨q4, -⟩ := HQB.out.cell 4
    obtain ⟨q5, -⟩ := HQB.out.cell 5
    obtain ⟨q6, -⟩ := HQB.out.cell 6
    obtain ⟨s0, -⟩ := HYB.out.cell 0
    obtain ⟨s1, -⟩ := HYB.out.cell 1
    obtain ⟨s2, -⟩ := HYB.out.cell 2
    obtain ⟨s3, -⟩ := HYB.out.cell 3
    obtain ⟨s4, -⟩ := HYB.out.cell 4
    obtain ⟨s5, -⟩ := HYB.out.cell 5
    obtain ⟨s6, -⟩ := HYB.out.cell 6
    obtain ⟨t0, -⟩ := HZB.out.cell 0
    obtain ⟨t1, -⟩ := HZB.out.cell 1
    obtain ⟨t2, -⟩ := HZB.out.cell 2
    obtain ⟨t3, -⟩ := HZB.out.cell 3
    obtain ⟨t4, -⟩ := HZB.out.cell 4
    obtain ⟨t5, -⟩ := HZB.out.cell 5
    obtain ⟨t6, -⟩ := HZB.out.cell 6
    have d1 : ∀ q, (convert 27 9 v2).run Tryd.prog (WB.drewN q) = .ok (.string (bs EA)) (WB.drewN q) := fun q => (HO2B.out.below (below_drewN (Below.refl _ WB) q) (Nat.le_refl _)).str
    have d2 : ∀ q, (convert 27 9 v3).run Tryd.prog (WB.drewN q) = .ok (.string (bs EB)) (WB.drewN q) := fun q => (HO3B.out.below (below_drewN (Below.refl _ WB) q) (Nat.le_refl _)).str
    have hse := HSE.out
    have heq := HEQ.out
    have heqa := fun W => eql_rec W a a
    rw [eqRec_self] at heqa
    have heqb := fun W => eql_rec W b b
    rw [eqRec_self] at heqb
    clear HPB HQB HYB HZB HO2B HO3B HSE HEQ
    go_quiet (fail)
    go_wp2
    go_ret
    exact ⟨rfl, below_drewN HBB.out _⟩
  · have hn3 : (v != 3) = true := by rw [bne_iff_ne]; exact h3
    clear hua hub h3
    generalize upgR v a = XA at *
    generalize upgR v b = XB at *
    go_enter Tryd.func3, Tryd.ntmps3
    go_wp2_with fail
    refine (HA.out _ (HB0.out _ _)).mono ?_
    rintro e W1 ⟨rfl, hb1⟩
    have HP1 := hide ((X1.out _ _).below hb1 (Nat.le_refl _))
    have HQ1 := hide ((X2.out _ _).below hb1 (Nat.le_refl _))
    have HB1 := hide ((HB0.out _ _).trans (hb1.mono (by rw [S1.out]; omega)))
    clear hb1 HA X1 X2
    obtain ⟨q0, -⟩ := HP1.out.cell 0
    obtain ⟨q1, -⟩ := HP1.out.cell 1
    obtain ⟨q2, -⟩ := HP1.out.cell 2
    obtain ⟨q3, -⟩ := HP1.out.cell 3
    obtain ⟨q4, -⟩ := HP1.out.cell 4
    obtain ⟨q5, -⟩ := HP1.out.cell 5
    obtain ⟨q6, -⟩ := HP1.out.cell 6
    go_wp2_with fail
    refine (HEA.out _ HB1.out).mono ?_
    rintro e W2 ⟨v2, rfl, ho2, hb2⟩
    have HO2 := hide ho2.rd
    have HP2 := hide (HP1.out.below hb2 (Nat.le_refl _))
    have HQ2 := hide (HQ1.out.below hb2 (Nat.le_refl _))
    have HB2 := hide (HB1.out.trans (hb2.mono HB1.out.size))
    clear ho2 hb2 HP1 HQ1 HB1 HEA q0 q1 q2 q3 q4 q5 q6
    obtain ⟨q0, -⟩ := HQ2.out.cell 0
    obtain ⟨q1, -⟩ := HQ2.out.cell 1
    obtain ⟨q2, -⟩ := HQ2.out.cell 2
    obtain ⟨q3, -⟩ := HQ2.out.cell 3
    obtain ⟨q4, -⟩ := HQ2.out.cell 4
    obtain ⟨q5, -⟩ := HQ2.out.cell 5
    obtain ⟨q6, -⟩ := HQ2.out.cell 6
    go_wp2_with fail
    refine (HEB.out _ HB2.out).mono ?_
    rintro e W3 ⟨v3, rfl, ho3, hb3⟩
    have HO23 := hide (HO2.out.below hb3 (Nat.le_refl _))
    have HO3 := hide ho3.rd
    have HP3 := hide (HP2.out.below hb3 (Nat.le_refl _))
    have HQ3 := hide (HQ2.out.below hb3 (Nat.le_refl _))
    have HB3 := hide (HB2.out.trans (hb3.mono HB2.out.size))
    clear ho3 hb3 HP2 HQ2 HB2 HO2 HEB q0 q1 q2 q3 q4 q5 q6
    obtain ⟨q0, -⟩ := HP3.out.cell 0
    obtain ⟨q1, -⟩ := HP3.out.cell 1
    obtain ⟨q2, -⟩ := HP3.out.cell 2
    obtain ⟨q3, -⟩ := HP3.out.cell 3
    obtain ⟨q4, -⟩ := HP3.out.cell 4
    obtain ⟨q5, -⟩ := HP3.out.cell 5
    obtain ⟨q6, -⟩ := HP3.out.cell 6
    go_wp2_with fail
    refine (HUA.out _ HB3.out).mono ?_
    rintro e W4 ⟨rfl, hb4⟩
    have HO24 := hide (HO23.out.below hb4 (Nat.le_refl _))
    have HO34 := hide (HO3.out.below hb4 (Nat.le_refl _))
    have HP4 := hide (HP3.out.below hb4 (Nat.le_refl _))
    have HQ4 := hide (HQ3.out.below hb4 (Nat.le_refl _))
    have HB4 := hide (HB3.out.trans (hb4.mono HB3.out.size))
    clear hb4 HP3 HQ3 HB3 HO23 HO3 HUA q0 q1 q2 q3 q4 q5 q6
    obtain ⟨NA, hNA⟩ : ∃ N, N = W4.heap.size := ⟨_, rfl⟩
    obtain ⟨WA, hWA⟩ : ∃ V, V = W4.alloc (.cells #[.int .i64 XA.idx, .int .i64 XA.proc, .int .i64 XA.seq, .int .i64 XA.op.code, .int .i64 XA.op.a, .int .i64 XA.op.b, .int .i64 XA.resp] 25) := ⟨_, rfl⟩
    have hbA : Below W4.heap.size W4 WA := by rw [hWA]; exact (Below.refl _ _).alloc (Nat.le_refl _) _
    have HPA := hide (HP4.out.below hbA (Nat.le_refl _))
    have HQA := hide (HQ4.out.below hbA (Nat.le_refl _))
    have HYA : Hid (Br WA NA #[.int .i64 XA.idx, .int .i64 XA.proc, .int .i64 XA.seq, .int .i64 XA.op.code, .int .i64 XA.op.a, .int .i64 XA.op.b, .int .i64 XA.resp]) := hide (by rw [hWA, hNA]; exact heap_alloc_new W4 _)
    have HBA := hide (HB4.out.trans (hbA.mono HB4.out.size))
    have HO2A := hide (HO24.out.below hbA (Nat.le_refl _))
    have HO3A := hide (HO34.out.below hbA (Nat.le_refl _))
    go_upto_region 7 with fail
    rw [← hWA, ← hNA]
    clear hWA hNA hbA HP4 HQ4 HB4 HO24 HO34
    obtain ⟨q0, -⟩ := HQA.out.cell 0
    obtain ⟨q1, -⟩ := HQA.out.cell 1
    obtain ⟨q2, -⟩ := HQA.out.cell 2
    obtain ⟨q3, -⟩ := HQA.out.cell 3
    obtain ⟨q4, -⟩ := HQA.out.cell 4
    obtain ⟨q5, -⟩ := HQA.out.cell 5
    obtain ⟨q6, -⟩ := HQA.out.cell 6
    go_wp2_with fail
    refine (HUB.out _ HBA.out).mono ?_
    rintro e W5 ⟨rfl, hb5⟩
    have HO25 := hide (HO2A.out.below hb5 (Nat.le_refl _))
    have HO35 := hide (HO3A.out.below hb5 (Nat.le_refl _))
    have HP5 := hide (HPA.out.below hb5 (Nat.le_refl _))
    have HQ5 := hide (HQA.out.below hb5 (Nat.le_refl _))
    have HY5 := hide (HYA.out.below hb5 (Nat.le_refl _))
    have HB5 := hide (HBA.out.trans (hb5.mono HBA.out.size))
    clear hb5 HPA HQA HYA HBA HO2A HO3A HUB q0 q1 q2 q3 q4 q5 q6
    obtain ⟨NB, hNB⟩ : ∃ N, N = W5.heap.size := ⟨_, rfl⟩
    obtain ⟨WB, hWB⟩ : ∃ V, V = W5.alloc (.cells #[.int .i64 XB.idx, .int .i64 XB.proc, .int .i64 XB.seq, .int .i64 XB.op.code, .int .i64 XB.op.a, .int .i64 XB.op.b, .int .i64 XB.resp] 25) := ⟨_, rfl⟩
    have hbB : Below W5.heap.size W5 WB := by rw [hWB]; exact (Below.refl _ _).alloc (Nat.le_refl _) _
    have HPB := hide (HP5.out.below hbB (Nat.le_refl _))
    have HQB := hide (HQ5.out.below hbB (Nat.le_refl _))
    have HYB := hide (HY5.out.below hbB (Nat.le_refl _))
    have HZB : Hid (Br WB NB #[.int .i64 XB.idx, .int .i64 XB.proc, .int .i64 XB.seq, .int .i64 XB.op.code, .int .i64 XB.op.a, .int .i64 XB.op.b, .int .i64 XB.resp]) := hide (by rw [hWB, hNB]; exact heap_alloc_new W5 _)
    have HBB := hide (HB5.out.trans (hbB.mono HB5.out.size))
    have HO2B := hide (HO25.out.below hbB (Nat.le_refl _))
    have HO3B := hide (HO35.out.below hbB (Nat.le_refl _))
    go_upto_region 8 with fail
    rw [← hWB, ← hNB]
    clear hWB hNB hbB HP5 HQ5 HY5 HB5 HO25 HO35
    obtain ⟨p0, -⟩ := HPB.out.cell 0
    obtain ⟨p1, -⟩ := HPB.out.cell 1
    obtain ⟨p2, -⟩ := HPB.out.cell 2
    obtain ⟨p3, -⟩ := HPB.out.cell 3
    obtain ⟨p4, -⟩ := HPB.out.cell 4
    obtain ⟨p5, -⟩ := HPB.out.cell 5
    obtain ⟨p6, -⟩ := HPB.out.cell 6
    obtain ⟨q0, -⟩ := HQB.out.cell 0
    obtain ⟨q1, -⟩ := HQB.out.cell 1
    obtain ⟨q2, -⟩ := HQB.out.cell 2
    obtain ⟨q3, -⟩ := HQB.out.cell 3
    obtain ⟨q4, -⟩ := HQB.out.cell 4
    obtain ⟨q5, -⟩ := HQB.out.cell 5
    obtain ⟨q6, -⟩ := HQB.out.cell 6
    obtain ⟨s0, -⟩ := HYB.out.cell 0
    obtain ⟨s1, -⟩ := HYB.out.cell 1
    obtain ⟨s2, -⟩ := HYB.out.cell 2
    obtain ⟨s3, -⟩ := HYB.out.cell 3
    obtain ⟨s4, -⟩ := HYB.out.cell 4
    obtain ⟨s5, -⟩ := HYB.out.cell 5
    obtain ⟨s6, -⟩ := HYB.out.cell 6
    obtain ⟨t0, -⟩ := HZB.out.cell 0
    obtain ⟨t1, -⟩ := HZB.out.cell 1
    obtain ⟨t2, -⟩ := HZB.out.cell 2
    obtain ⟨t3, -⟩ := HZB.out.cell 3
    obtain ⟨t4, -⟩ := HZB.out.cell 4
    obtain ⟨t5, -⟩ := HZB.out.cell 5
    obtain ⟨t6, -⟩ := HZB.out.cell 6
    have d1 : ∀ q, (convert 27 9 v2).run Tryd.prog (WB.drewN q) = .ok (.string (bs EA)) (WB.drewN q) := fun q => (HO2B.out.below (below_drewN (Below.refl _ WB) q) (Nat.le_refl _)).str
    have d2 : ∀ q, (convert 27 9 v3).run Tryd.prog (WB.drewN q) = .ok (.string (bs EB)) (WB.drewN q) := fun q => (HO3B.out.below (below_drewN (Below.refl _ WB) q) (Nat.le_refl _)).str
    have hse := HSE.out
    have heq := HEQ.out
    clear HPB HQB HYB HZB HO2B HO3B HSE HEQ
    go_quiet (fail)
    go_wp2
    go_ret
    exact ⟨rfl, below_drewN HBB.out _⟩

theorem own : ownKnob Tryd.prog.godebug = none := by kernel_rfl
theorem laidOut : laidOutB Tryd.prog = true := by kernel_rfl

set_option linter.unusedVariables false in
set_option maxRecDepth 100000 in
theorem lifted (os : Os) (started : os.Started) (H : Type) (enc : TypeId × Value → H) :
    ReturnsInHanded {} Tryd.checked os 3 .any (fun w args => (Rows.schemaApartSpec.pre enc Tryd.prog Tryd.f3 Rows.schemaApartRow.domain false w args ∧ laidMetH Tryd.prog Rows.schemaApartRow.laid w) ∧ sizedMet enc Tryd.prog Tryd.f3 (OpenSpec.ofChange Rows.schemaApartSpec) false w args) (Rows.schemaApartSpec.post enc Tryd.prog Tryd.f3 false true false false) := by
  refine returnsInHanded_of_change_and (C := Tryd.checked) (X := fun w _ => laidMetH Tryd.prog Rows.schemaApartRow.laid w) (fun _ _ _ hh h => h.of_heap hh) own started (by kernel_rfl) Tryd.func3
    (ChangeSpec.witness_shaped (enc := enc) (C := Tryd.checked) (os := os) (X := fun w _ => laidMetH Tryd.prog Rows.schemaApartRow.laid w) false (World.doorLaid Tryd.prog 400 os) #[.int .i64 0, .agg #[.int .i64 0, .int .i64 0, .int .i64 0, .int .i64 0, .int .i64 0, .int .i64 0, .int .i64 0], .agg #[.int .i64 0, .int .i64 0, .int .i64 0, .int .i64 0, .int .i64 0, .int .i64 0, .int .i64 0]] 8 rfl (World.shaped_of_RefB (by kernel_rfl) (by kernel_rfl)) (by kernel_rfl) (by kernel_rfl) (by kernel_rfl) (door_met os _)) ?_
  intro W base args ds gs before hval0 hW hcnd _ hL _
  have hval : ∀ (j : Nat) t v, Tryd.f3.params[j]? = some t → args[j]? = some v → Value.okWide Tryd.prog W .any base t v := hval0
  have hW' := hW
  obtain ⟨p, q, hA0, hV, rfl, hfz, hnd⟩ := hW
  have hA : DataW.TrodAll enc Tryd.prog W 0 (fun _ => true) true Tryd.f3.params.toList args.toList ds p := hA0
  rw [Tryd.params3] at hA hval
  obtain ⟨v0, vs0, d0, ds0, p0, q0, hargs, rfl, rfl, h0, r0⟩ := trodAll_cons hA
  obtain ⟨v1, vs1, d1, ds1, p1, q1, rfl, rfl, rfl, h1, r1⟩ := trodAll_cons r0
  obtain ⟨v2, vs2, d2, ds2, p2, q2, rfl, rfl, rfl, h2, r2⟩ := trodAll_cons r1
  obtain ⟨rfl, rfl, rfl⟩ := trodAll_nil r2
  obtain rfl : args = #[v0, v1, v2] := by cases args; simp_all
  obtain ⟨rfl, rfl⟩ := trodVars_none hV
  obtain ⟨a0, rfl, rfl, rfl, w0⟩ := open_int Tryd.underlying3 (hval 0 3 v0 rfl rfl) h0
  have lt1 : ∀ x ∈ p1, x.block < W.heap.size := by obtain ⟨m, hm⟩ := h1; exact DataW.trod_lt m _ _ _ hm
  obtain ⟨s1, e1, w1⟩ := open_rec (hval 1 25 v1 rfl rfl) h1
  subst e1
  have k1 := h1
  have lt2 : ∀ x ∈ p2, x.block < W.heap.size := by obtain ⟨m, hm⟩ := h2; exact DataW.trod_lt m _ _ _ hm
  obtain ⟨s2, e2, w2⟩ := open_rec (hval 2 25 v2 rfl rfl) h2
  subst e2
  have k2 := h2
  clear hA0 hval0
  refine (walk a0 s1 s2 W w0 w1 w2 (tabs hL)).mono fun e W' ⟨he, bel⟩ => ?_
  subst he
  exact ⟨_, rfl, _, _, _, [], _, [], hW', trodAll_mk1 (shut_bool Tryd.underlying4 _), (trodAll_cons_mk (shut_int Tryd.underlying3 w0) (trodAll_cons_mk (Below.trod laidOut (by kernel_rfl) (of_decide_eq_true (by kernel_rfl)) k1 bel lt1) (trodAll_cons_mk (Below.trod laidOut (by kernel_rfl) (of_decide_eq_true (by kernel_rfl)) k2 bel lt2) trodAll_mk0))), rfl, bel.frame _, fun h => by cases h⟩

theorem over : Rows.schemaApartRow.holds Tryd.pinned (OpenSpec.ofChange Rows.schemaApartSpec) :=
  OpenClaim.holds_of_wide 3 Tryd.f3 rfl rfl rfl rfl rfl rfl rfl ⟨rfl, rfl, rfl, rfl, rfl⟩ rfl rfl rfl rfl rfl (by kernel_rfl) Tryd.func3 (by kernel_rfl)
    (of_decide_eq_true (by kernel_rfl)) (by unfold Func.isWrapper; first | (rw [if_pos (by decide +kernel)]; kernel_rfl) | (rw [if_neg (by decide +kernel)]; exact ⟨rfl, rfl⟩))
    (fun os started H enc _ => lifted os started H enc)

end Go.Proofs.YtonibpnhhdjklabDoor.schemaApart
namespace Go.Proofs.YtonibpnhhdjklabDoor

set_option maxRecDepth 100000 in
theorem schemaApart_holds : Rows.SchemaApartCardSaid :=
  Claim7.holds_tied_plain_at .later [] _ _ _ _ schemaApart.over (fun _ h => by cases h) (by kernel_rfl) (fun _ h => by cases h) schemaApart_row_tie rfl ⟨rfl, rfl⟩ (by kernel_rfl) rfl
    (fun f fn hf hfn => by
      obtain rfl : f = 3 := Option.some.inj ((show Tryd.prog.funcNamed "ferryman/ferrymanlaw06.SchemaApart" = some 3 by kernel_rfl).symm.trans hf) |>.symm
      obtain rfl : fn = Tryd.f3 := (Option.some.inj (Tryd.func3.symm.trans hfn)).symm
      exact ⟨by kernel_rfl, fun j t ht => by
        rw [Tryd.params3] at ht
        have hm : t ∈ [3, 25, 25] := by simpa using Array.mem_of_getElem? ht
        have hall : ([3, 25, 25].all fun u => !Tryd.prog.wantsStandIn u) = true := by kernel_rfl
        exact (show Tryd.prog.wantsStandIn t = false by simpa using List.all_eq_true.1 hall t hm)⟩)
    (by kernel_rfl)

end Go.Proofs.YtonibpnhhdjklabDoor
