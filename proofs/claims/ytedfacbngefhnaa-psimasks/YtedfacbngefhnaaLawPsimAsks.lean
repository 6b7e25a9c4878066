/- Proved: for every state, all numbers and every operation the law PsimAsks answers true (and the call leaves all older memory as it was). No condition. -/
import Derived.Test.YtedfacbngefhnaaPsimLaw
import Derived.Test.YtedfacbngefhnaaPack3
import Derived.Test.YtedfacbngefhnaaRef04C
import Derived.Test.YtedfacbngefhnaaRef04D
import Derived.OpenShut
import Derived.ChangeOld
namespace Go.Proofs.Ytedfacbngefhnaa.psimAsks
open Go.ChangeShapes Go.WideShapes Go.ChangeAt Go.RowKit

theorem new_idle (s : St) (n : Nat) (p : Int) : herlM.isBusy (newEg s n) p = false := by
  unfold Mod.isBusy
  rw [Bool.and_eq_false_iff]
  exact .inr rfl

theorem new_steps (s : St) (n : Nat) (p : Int) : herlM.stepsOf (newEg s n) p = 0 := by
  unfold Mod.stepsOf
  split
  · rfl
  · rfl

theorem inv_not {s : St} {n : Nat} {p : Int} {o : Opn} (h : ¬ (0 ≤ p ∧ p < (n : Int)) ∨ ¬ FitsO o) : herlM.invoke (newEg s n) p o = (newEg s n, 1) := if_pos h

theorem inv_ok {s : St} {n : Nat} {p : Int} {o : Opn} (h : 0 ≤ p ∧ p < (n : Int)) (hf : FitsO o) : ∃ e, herlM.invoke (newEg s n) p o = (e, 0) ∧ e.st = s ∧ herlM.isBusy e p = true ∧ (herlM.invoke e p o).2 = 14 := by
  obtain ⟨q, rfl⟩ : ∃ q : Nat, p = (q : Int) := ⟨p.toNat, by omega⟩
  have hq : q < n := by omega
  have hn : ¬ (¬ herlM.has (newEg s n) (q : Int) ∨ ¬ FitsO o) := by
    rintro (a | a)
    · exact a h
    · exact a hf
  have hb : herlM.isBusy (beginE (newEg s n) q o) (q : Int) = true := by
    rw [herlM.isBusy_nat (show q < herlM.n (beginE (newEg s n) q o) from hq)]
    refine herlM_busy.2 ?_
    show ((beginE (newEg s n) q o).ps q).nx ≠ .rest
    unfold beginE
    dsimp only
    rw [putN_same]
    simp
  refine ⟨beginE (newEg s n) q o, ?_, rfl, hb, ?_⟩
  · unfold Mod.invoke
    rw [if_neg hn, if_neg (by rw [new_idle]; decide), Int.toNat_natCast]
    rfl
  · have hn2 : ¬ (¬ herlM.has (beginE (newEg s n) q o) (q : Int) ∨ ¬ FitsO o) := hn
    show (herlM.invoke (beginE (newEg s n) q o) (q : Int) o).2 = 14
    unfold Mod.invoke
    rw [if_neg hn2, if_pos hb]

set_option maxRecDepth 100000 in
set_option maxHeartbeats 8000000 in
theorem walk (v : Value) (s : St) (procs p : Int) (o : Opn) (w : World) (hs : StV w v s) (_hprm : (Lit.int .i64 procs).wf = true) (_hp : (Lit.int .i64 p).wf = true) (_ho : OpOk o) :
    Calls Try.prog 3 #[v, .int .i64 procs, .int .i64 p, opV o] w fun e w' => e = .returned (.bool true) ∧ Below w.heap.size w w' := by
  have HS := hide hs
  obtain ⟨vs, rfl, hr, hki, hei⟩ := hs
  have HI64 : Hid ((∀ x ∈ s.L, I64 x) ∧ I64 s.kind ∧ I64 s.eng) := hide (by
    obtain ⟨_, _, _, _, _, _, h, _⟩ := hr
    exact ⟨h, hki, hei⟩)
  clear hr hki hei
  obtain ⟨co, xa, xb⟩ := o
  have HFO := hide (fun w => refFits_any ⟨co, xa, xb⟩ w)
  have HINV := hide (fun (w : World) (eb : Nat) (e : Eg) (N : Nat) (K : Nat → Prop) (h : EgM K w eb e N) (hKw : ∀ k, K k → k < w.heap.size) (hN : N ≤ 150000) => invoke_any h hKw hN p ⟨co, xa, xb⟩)
  obtain ⟨FT, hFT⟩ : ∃ FT, FT = decide (FitsO ⟨co, xa, xb⟩) := ⟨_, rfl⟩
  rw [← hFT] at HFO
  have HFT := hide hFT
  clear hFT
  unfold opV Invoked at HINV
  unfold opV at HFO
  show Calls Try.prog 3 #[.agg #[.int .i64 s.kind, vs, .bool s.shut, .int .i64 s.eng], .int .i64 procs, .int .i64 p, .agg #[.int .i64 co, .int .i64 xa, .int .i64 xb]] w _
  dsimp only at HINV HFO
  have HB0 : Hid (Below w.heap.size w ((w.alloc (.cells #[.int .i64 s.kind, vs, .bool s.shut, .int .i64 s.eng] 24)).alloc (.cells #[.int .i64 co, .int .i64 xa, .int .i64 xb] 26))) := hide (((Below.refl _ _).alloc (Nat.le_refl _) _).alloc (by simp) _)
  have HX0 : Hid (Bk 24 ((w.alloc (.cells #[.int .i64 s.kind, vs, .bool s.shut, .int .i64 s.eng] 24)).alloc (.cells #[.int .i64 co, .int .i64 xa, .int .i64 xb] 26)) w.heap.size #[.int .i64 s.kind, vs, .bool s.shut, .int .i64 s.eng] ∧ Bk 26 ((w.alloc (.cells #[.int .i64 s.kind, vs, .bool s.shut, .int .i64 s.eng] 24)).alloc (.cells #[.int .i64 co, .int .i64 xa, .int .i64 xb] 26)) (w.heap.size + 1) #[.int .i64 co, .int .i64 xa, .int .i64 xb]) := hide (by
    have e1 : (w.alloc (.cells #[.int .i64 s.kind, vs, .bool s.shut, .int .i64 s.eng] 24)).heap.size = w.heap.size + 1 := by simp
    refine ⟨?_, ?_⟩
    · have h1 : Bk 24 (w.alloc (.cells #[.int .i64 s.kind, vs, .bool s.shut, .int .i64 s.eng] 24)) w.heap.size #[.int .i64 s.kind, vs, .bool s.shut, .int .i64 s.eng] := heap_alloc_new _ _
      exact h1.keep (((Below.refl (w.alloc (.cells #[.int .i64 s.kind, vs, .bool s.shut, .int .i64 s.eng] 24)).heap.size _).alloc (Nat.le_refl _) _).block _ h1.lt)
    · have h2 : Bk 26 ((w.alloc (.cells #[.int .i64 s.kind, vs, .bool s.shut, .int .i64 s.eng] 24)).alloc (.cells #[.int .i64 co, .int .i64 xa, .int .i64 xb] 26)) (w.alloc (.cells #[.int .i64 s.kind, vs, .bool s.shut, .int .i64 s.eng] 24)).heap.size #[.int .i64 co, .int .i64 xa, .int .i64 xb] := heap_alloc_new _ _
      rw [e1] at h2
      exact h2)
  go_enter Try.func3, Try.ntmps3
  go_wp2_with fail
  refine (awakeH_any _).mono ?_
  rintro e W1 ⟨rfl, hb1⟩
  have HX1 : Hid (Bk 24 W1 w.heap.size #[.int .i64 s.kind, vs, .bool s.shut, .int .i64 s.eng] ∧ Bk 26 W1 (w.heap.size + 1) #[.int .i64 co, .int .i64 xa, .int .i64 xb]) := hide ⟨HX0.out.1.keep (hb1.block _ HX0.out.1.lt), HX0.out.2.keep (hb1.block _ HX0.out.2.lt)⟩
  have HB1 := hide (HB0.out.trans (hb1.mono HB0.out.size))
  clear hb1 HX0 HB0
  obtain ⟨q0, -⟩ := HX1.out.1.cell 0 rfl
  obtain ⟨q1, -⟩ := HX1.out.1.cell 1 rfl
  obtain ⟨q2, -⟩ := HX1.out.1.cell 2 rfl
  obtain ⟨q3, -⟩ := HX1.out.1.cell 3 rfl
  go_wp2_with fail
  refine (few_any _ s _ (HS.out.below HB1.out (Nat.le_refl _))).mono ?_
  rintro e W2 ⟨rfl, hb2⟩
  have HX2 : Hid (Bk 24 W2 w.heap.size #[.int .i64 s.kind, vs, .bool s.shut, .int .i64 s.eng] ∧ Bk 26 W2 (w.heap.size + 1) #[.int .i64 co, .int .i64 xa, .int .i64 xb]) := hide ⟨HX1.out.1.keep (hb2.block _ HX1.out.1.lt), HX1.out.2.keep (hb2.block _ HX1.out.2.lt)⟩
  have HB2 := hide (HB1.out.trans (hb2.mono HB1.out.size))
  clear hb2 HX1 HB1 q0 q1 q2 q3
  by_cases hl : (s.L.length : Int) ≤ 300
  case neg =>
    rw [decide_eq_false hl]
    go_wp2
    go_ret
    exact ⟨rfl, HB2.out⟩
  rw [decide_eq_true hl]
  clear hl
  have HXG : Hid (w.heap.size < W2.heap.size ∧ w.heap.size + 1 < W2.heap.size) := hide ⟨HX2.out.1.lt, HX2.out.2.lt⟩
  obtain ⟨q0, -⟩ := HX2.out.1.cell 0 rfl
  obtain ⟨q1, -⟩ := HX2.out.1.cell 1 rfl
  obtain ⟨q2, -⟩ := HX2.out.1.cell 2 rfl
  obtain ⟨q3, -⟩ := HX2.out.1.cell 3 rfl
  go_wp2_with fail
  refine (newE_any (HS.out.below HB2.out (Nat.le_refl _)) procs).mono ?_
  rintro r3 W3 ⟨hb3, hr3⟩
  have HX3 : Hid (Bk 24 W3 w.heap.size #[.int .i64 s.kind, vs, .bool s.shut, .int .i64 s.eng] ∧ Bk 26 W3 (w.heap.size + 1) #[.int .i64 co, .int .i64 xa, .int .i64 xb]) := hide ⟨HX2.out.1.keep (hb3.block _ HX2.out.1.lt), HX2.out.2.keep (hb3.block _ HX2.out.2.lt)⟩
  have HB3 := hide (HB2.out.trans (hb3.mono HB2.out.size))
  have HS3 := hide hb3.size
  have HB2S := hide HB2.out.size
  clear hb3 HX2 HB2 q0 q1 q2 q3
  have HMY := hide (refMay_any _ s W3 (HS.out.below HB3.out (Nat.le_refl _)))
  obtain ⟨MY, hMY⟩ : ∃ MY, MY = decide (MayS s) := ⟨_, rfl⟩
  rw [← hMY] at HMY
  have HMYE := hide hMY
  clear hMY
  obtain ⟨q0, -⟩ := HX3.out.1.cell 0 rfl
  obtain ⟨q1, -⟩ := HX3.out.1.cell 1 rfl
  obtain ⟨q2, -⟩ := HX3.out.1.cell 2 rfl
  obtain ⟨q3, -⟩ := HX3.out.1.cell 3 rfl
  by_cases hmay : MayS s ∧ 1 ≤ procs ∧ procs ≤ 64
  case neg =>
    rw [if_neg hmay] at hr3
    subst hr3
    have HMC : Hid (MY = true → 1 ≤ procs → ¬ procs ≤ 64) := hide fun h1 h2 h3 => hmay ⟨by rw [HMYE.out] at h1; exact of_decide_eq_true h1, h2, h3⟩
    clear hmay
    go_wp2_with fail
    refine HMY.out.mono ?_
    rintro e W4 ⟨rfl, hb4⟩
    have HB4 := hide (HB3.out.trans (hb4.mono HB3.out.size))
    clear hb4 q0 q1 q2 q3
    cases MY with
    | false =>
      go_wp2
      go_ret
      exact ⟨rfl, HB4.out⟩
    | true =>
      by_cases h1 : 1 ≤ procs
      · have h3 := HMC.out rfl h1
        have d1 : decide (procs ≥ 1) = true := decide_eq_true h1
        have d2 : decide (procs ≤ 64) = false := decide_eq_false (by omega)
        go_wp2
        go_ret
        exact ⟨rfl, HB4.out⟩
      · have d1 : decide (procs ≥ 1) = false := decide_eq_false h1
        go_wp2
        go_ret
        exact ⟨rfl, HB4.out⟩
  rw [if_pos hmay] at hr3
  obtain ⟨eb, rfl, hE⟩ := hr3
  obtain ⟨n, rfl⟩ : ∃ n : Nat, procs = (n : Int) := ⟨procs.toNat, by omega⟩
  rw [Int.toNat_natCast] at hE
  have hMT : MY = true := by rw [HMYE.out]; exact decide_eq_true hmay.1
  subst hMT
  have d1 : decide ((n : Int) ≥ 1) = true := decide_eq_true hmay.2.1
  have d2 : decide ((n : Int) ≤ 64) = true := decide_eq_true hmay.2.2
  have hn1 := hmay.2.1
  have hn2 := hmay.2.2
  have HE := hide hE
  clear hE hmay HMYE
  go_wp2_with fail
  refine HMY.out.mono ?_
  rintro e W4 ⟨rfl, hb4⟩
  have HX4 : Hid (Bk 24 W4 w.heap.size #[.int .i64 s.kind, vs, .bool s.shut, .int .i64 s.eng] ∧ Bk 26 W4 (w.heap.size + 1) #[.int .i64 co, .int .i64 xa, .int .i64 xb]) := hide ⟨HX3.out.1.keep (hb4.block _ HX3.out.1.lt), HX3.out.2.keep (hb4.block _ HX3.out.2.lt)⟩
  have HB4 := hide (HB3.out.trans (hb4.mono HB3.out.size))
  have HE4 := hide (HE.out.below hb4)
  have HS4 : Hid (W2.heap.size ≤ W4.heap.size) := hide (Nat.le_trans HS3.out hb4.size)
  have HI := hide (step_anyE HE4.out (fun k hk => Nat.lt_of_lt_of_le hk HS4.out) (by omega) p)
  unfold Stept at HI
  rw [herlM.step_idle (new_idle s n p)] at HI
  dsimp only at HI
  clear hb4 q0 q1 q2 q3 HX3 HB3 HE HMY
  go_wp2_with fail
  refine HI.out.mono ?_
  rintro e W5 ⟨rfl, hm5, ho5⟩
  have hb5 := onlyBH ho5 HS4.out
  have HX5 : Hid (Bk 24 W5 w.heap.size #[.int .i64 s.kind, vs, .bool s.shut, .int .i64 s.eng] ∧ Bk 26 W5 (w.heap.size + 1) #[.int .i64 co, .int .i64 xa, .int .i64 xb]) := hide ⟨HX4.out.1.keep (hb5.block _ HXG.out.1), HX4.out.2.keep (hb5.block _ HXG.out.2)⟩
  have HB5 := hide (HB4.out.trans (hb5.mono HB2S.out))
  have HE5 := hide hm5
  have HS5 : Hid (W2.heap.size ≤ W5.heap.size) := hide (Nat.le_trans HS4.out ho5.size)
  have HBU := hide (busy_any HE5.out p)
  have HSP := hide (steps_any HE5.out (by omega) p)
  rw [new_idle] at HBU
  rw [new_steps] at HSP
  clear hb5 ho5 hm5 HI HX4 HB4 HE4 HS4
  go_wp2_with fail
  refine HBU.out.mono ?_
  rintro e W5' ⟨rfl, rfl⟩
  go_wp2_with fail
  refine HSP.out.mono ?_
  rintro e W6 ⟨rfl, hb6⟩
  have HE6 := hide (HE5.out.below hb6)
  have HLG := hide (log_any HE6.out (by omega))
  have HS6 : Hid (W2.heap.size ≤ W6.heap.size) := hide (Nat.le_trans HS5.out hb6.size)
  have HX6 : Hid (Bk 24 W6 w.heap.size #[.int .i64 s.kind, vs, .bool s.shut, .int .i64 s.eng] ∧ Bk 26 W6 (w.heap.size + 1) #[.int .i64 co, .int .i64 xa, .int .i64 xb]) := hide ⟨HX5.out.1.keep (hb6.block _ HX5.out.1.lt), HX5.out.2.keep (hb6.block _ HX5.out.2.lt)⟩
  have HB6 := hide (HB5.out.trans (hb6.mono HB5.out.size))
  clear hb6 HBU HSP HX5 HB5 HE5
  go_wp2_with fail
  refine HLG.out.mono ?_
  rintro e W7 ⟨vg, rfl, ho7, hb7⟩
  obtain ⟨ga, gc, hvg⟩ := row_form ho7
  have hvg' : vg = .slice ga 0 gc := hvg
  subst hvg'
  have HE7 := hide (HE6.out.below hb7)
  have HS7 : Hid (W2.heap.size ≤ W7.heap.size) := hide (Nat.le_trans HS6.out hb7.size)
  have HX7 : Hid (Bk 24 W7 w.heap.size #[.int .i64 s.kind, vs, .bool s.shut, .int .i64 s.eng] ∧ Bk 26 W7 (w.heap.size + 1) #[.int .i64 co, .int .i64 xa, .int .i64 xb]) := hide ⟨HX6.out.1.keep (hb7.block _ HX6.out.1.lt), HX6.out.2.keep (hb7.block _ HX6.out.2.lt)⟩
  have HB7 := hide (HB6.out.trans (hb7.mono HB6.out.size))
  have HI := hide (HINV.out W7 eb _ 2 (fun k => k < W2.heap.size) HE7.out (fun k hk => Nat.lt_of_lt_of_le hk HS7.out) (by omega))
  clear hb7 ho7 hvg HLG HX6 HB6 HE6 HS6 HS5
  obtain ⟨o0, -⟩ := HX7.out.2.cell 0 rfl
  obtain ⟨o1, -⟩ := HX7.out.2.cell 1 rfl
  obtain ⟨o2, -⟩ := HX7.out.2.cell 2 rfl
  by_cases h0 : 0 ≤ p
  case neg =>
    have hnw : ¬ (0 ≤ p ∧ p < (n : Int)) ∨ ¬ FitsO ⟨co, xa, xb⟩ := .inl (fun h => h0 h.1)
    have dp : decide (p ≥ 0) = false := decide_eq_false h0
    rw [inv_not hnw] at HI
    dsimp only at HI
    have HBZ := hide (new_idle s n p)
    have HST : Hid ((newEg s n).st = s) := hide rfl
    clear hnw
    go_wp2_with fail
    refine HI.out.mono ?_
    rintro e W8 ⟨rfl, hm8, ho8⟩
    have hb8 := onlyBH ho8 HS7.out
    have HX8 : Hid (Bk 24 W8 w.heap.size #[.int .i64 s.kind, vs, .bool s.shut, .int .i64 s.eng] ∧ Bk 26 W8 (w.heap.size + 1) #[.int .i64 co, .int .i64 xa, .int .i64 xb]) := hide ⟨HX7.out.1.keep (hb8.block _ HXG.out.1), HX7.out.2.keep (hb8.block _ HXG.out.2)⟩
    have HB8 := hide (HB7.out.trans (hb8.mono HB2S.out))
    have HE8 := hide hm8
    have HS8 : Hid (W2.heap.size ≤ W8.heap.size) := hide (Nat.le_trans HS7.out ho8.size)
    clear hb8 ho8 hm8 HI HX7 HB7 HE7 HS7 o0 o1 o2
    obtain ⟨o0, -⟩ := HX8.out.2.cell 0 rfl
    obtain ⟨o1, -⟩ := HX8.out.2.cell 1 rfl
    obtain ⟨o2, -⟩ := HX8.out.2.cell 2 rfl
    go_wp2_with fail
    refine (HFO.out W8).mono ?_
    rintro e W9 ⟨rfl, hb9⟩
    have HX9 : Hid (Bk 24 W9 w.heap.size #[.int .i64 s.kind, vs, .bool s.shut, .int .i64 s.eng] ∧ Bk 26 W9 (w.heap.size + 1) #[.int .i64 co, .int .i64 xa, .int .i64 xb]) := hide ⟨HX8.out.1.keep (hb9.block _ HX8.out.1.lt), HX8.out.2.keep (hb9.block _ HX8.out.2.lt)⟩
    have HB9 := hide (HB8.out.trans (hb9.mono HB8.out.size))
    have HE9 := hide (HE8.out.below hb9)
    have HS9 : Hid (W2.heap.size ≤ W9.heap.size) := hide (Nat.le_trans HS8.out hb9.size)
    have HBU := hide (busy_any HE9.out p)
    rw [HBZ.out] at HBU
    clear hb9 HX8 HB8 HE8 HS8 o0 o1 o2
    go_wp2_with fail
    refine HBU.out.mono ?_
    rintro e W9 ⟨rfl, rfl⟩
    have HSTT := hide (fun W (h : Below W9.heap.size W9 W) => state_any (HE9.out.below h))
    rw [HST.out] at HSTT
    have HSAM : Hid (∀ W v', Below w.heap.size w W → OwnI W W9.heap.size v' s.L → Calls Try.prog 18 #[.agg #[.int .i64 s.kind, v', .bool s.shut, .int .i64 s.eng], .agg #[.int .i64 s.kind, vs, .bool s.shut, .int .i64 s.eng]] W fun e w' => e = .returned (.bool true) ∧ Below W.heap.size W w') := hide fun W v' h1 h2 => by
      have h := refSameS_any _ s _ s W ⟨v', rfl, h2.rd HI64.out.1, HI64.out.2⟩ (HS.out.below h1 (Nat.le_refl _))
      rw [decide_eq_true (sameS_refl s)] at h
      exact h
    have HXK : Hid (∀ W, Below W9.heap.size W9 W → (Bk 24 W w.heap.size #[.int .i64 s.kind, vs, .bool s.shut, .int .i64 s.eng] ∧ Bk 26 W (w.heap.size + 1) #[.int .i64 co, .int .i64 xa, .int .i64 xb])) := hide fun W h => ⟨HX9.out.1.keep (h.block _ HX9.out.1.lt), HX9.out.2.keep (h.block _ HX9.out.2.lt)⟩
    have HCL : Hid (∀ W, Below W9.heap.size W9 W → W.cell? ⟨w.heap.size, 0, none⟩ = some (.int .i64 s.kind) ∧ W.cell? ⟨w.heap.size, 1, none⟩ = some vs ∧ W.cell? ⟨w.heap.size, 2, none⟩ = some (.bool s.shut) ∧ W.cell? ⟨w.heap.size, 3, none⟩ = some (.int .i64 s.eng)) := hide fun W h => ⟨((HXK.out W h).1.cell 0 rfl).1, ((HXK.out W h).1.cell 1 rfl).1, ((HXK.out W h).1.cell 2 rfl).1, ((HXK.out W h).1.cell 3 rfl).1⟩
    have HR9 := hide (Below.refl W9.heap.size W9)
    obtain ⟨q0, q1, q2, q3⟩ := HCL.out W9 HR9.out
    clear HBU
    go_upto_region 18 with fail
    go_region_held (fun W => W.cell? ⟨w.heap.size, 0, none⟩ = some (.int .i64 s.kind) ∧ W.cell? ⟨w.heap.size, 1, none⟩ = some vs ∧ W.cell? ⟨w.heap.size, 2, none⟩ = some (.bool s.shut) ∧ W.cell? ⟨w.heap.size, 3, none⟩ = some (.int .i64 s.eng))
      (first | (with_reducible refine HCL.out _ ?_; first | (with_reducible exact HR9.out) | (with_reducible exact HR9.out.drew) | (with_reducible exact HB10.out) | (with_reducible exact HB11.out)))
      (first | (go_at_call 19; refine (HSTT.out _ HR9.out.drew).mono ?_; rintro r W10 ⟨vl', rfl, ho10, hb10⟩; have HO10 := hide ho10; have HB10 := hide (HR9.out.drew.trans hb10); clear ho10 hb10) | (go_at_call 18; refine (HSAM.out _ _ (HB9.out.trans (HB10.out.mono HB9.out.size)) HO10.out).mono ?_; rintro r W11 ⟨rfl, hb11⟩; have HB11 := hide (HB10.out.trans (hb11.mono HB10.out.size)); clear hb11))
    all_goals
      have HBE := hide (HB9.out.trans (HB11.out.mono HB9.out.size))
      go_wp2
      go_ret
      exact ⟨rfl, HBE.out⟩
  have dp : decide (p ≥ 0) = true := decide_eq_true h0
  by_cases hpn : p < (n : Int)
  case neg =>
    have hnw : ¬ (0 ≤ p ∧ p < (n : Int)) ∨ ¬ FitsO ⟨co, xa, xb⟩ := .inl (fun h => hpn h.2)
    have dn : decide (p < (n : Int)) = false := decide_eq_false hpn
    rw [inv_not hnw] at HI
    dsimp only at HI
    have HBZ := hide (new_idle s n p)
    have HST : Hid ((newEg s n).st = s) := hide rfl
    clear hnw
    go_wp2_with fail
    refine HI.out.mono ?_
    rintro e W8 ⟨rfl, hm8, ho8⟩
    have hb8 := onlyBH ho8 HS7.out
    have HX8 : Hid (Bk 24 W8 w.heap.size #[.int .i64 s.kind, vs, .bool s.shut, .int .i64 s.eng] ∧ Bk 26 W8 (w.heap.size + 1) #[.int .i64 co, .int .i64 xa, .int .i64 xb]) := hide ⟨HX7.out.1.keep (hb8.block _ HXG.out.1), HX7.out.2.keep (hb8.block _ HXG.out.2)⟩
    have HB8 := hide (HB7.out.trans (hb8.mono HB2S.out))
    have HE8 := hide hm8
    have HS8 : Hid (W2.heap.size ≤ W8.heap.size) := hide (Nat.le_trans HS7.out ho8.size)
    clear hb8 ho8 hm8 HI HX7 HB7 HE7 HS7 o0 o1 o2
    obtain ⟨o0, -⟩ := HX8.out.2.cell 0 rfl
    obtain ⟨o1, -⟩ := HX8.out.2.cell 1 rfl
    obtain ⟨o2, -⟩ := HX8.out.2.cell 2 rfl
    go_wp2_with fail
    refine (HFO.out W8).mono ?_
    rintro e W9 ⟨rfl, hb9⟩
    have HX9 : Hid (Bk 24 W9 w.heap.size #[.int .i64 s.kind, vs, .bool s.shut, .int .i64 s.eng] ∧ Bk 26 W9 (w.heap.size + 1) #[.int .i64 co, .int .i64 xa, .int .i64 xb]) := hide ⟨HX8.out.1.keep (hb9.block _ HX8.out.1.lt), HX8.out.2.keep (hb9.block _ HX8.out.2.lt)⟩
    have HB9 := hide (HB8.out.trans (hb9.mono HB8.out.size))
    have HE9 := hide (HE8.out.below hb9)
    have HS9 : Hid (W2.heap.size ≤ W9.heap.size) := hide (Nat.le_trans HS8.out hb9.size)
    have HBU := hide (busy_any HE9.out p)
    rw [HBZ.out] at HBU
    clear hb9 HX8 HB8 HE8 HS8 o0 o1 o2
    go_wp2_with fail
    refine HBU.out.mono ?_
    rintro e W9 ⟨rfl, rfl⟩
    have HSTT := hide (fun W (h : Below W9.heap.size W9 W) => state_any (HE9.out.below h))
    rw [HST.out] at HSTT
    have HSAM : Hid (∀ W v', Below w.heap.size w W → OwnI W W9.heap.size v' s.L → Calls Try.prog 18 #[.agg #[.int .i64 s.kind, v', .bool s.shut, .int .i64 s.eng], .agg #[.int .i64 s.kind, vs, .bool s.shut, .int .i64 s.eng]] W fun e w' => e = .returned (.bool true) ∧ Below W.heap.size W w') := hide fun W v' h1 h2 => by
      have h := refSameS_any _ s _ s W ⟨v', rfl, h2.rd HI64.out.1, HI64.out.2⟩ (HS.out.below h1 (Nat.le_refl _))
      rw [decide_eq_true (sameS_refl s)] at h
      exact h
    have HXK : Hid (∀ W, Below W9.heap.size W9 W → (Bk 24 W w.heap.size #[.int .i64 s.kind, vs, .bool s.shut, .int .i64 s.eng] ∧ Bk 26 W (w.heap.size + 1) #[.int .i64 co, .int .i64 xa, .int .i64 xb])) := hide fun W h => ⟨HX9.out.1.keep (h.block _ HX9.out.1.lt), HX9.out.2.keep (h.block _ HX9.out.2.lt)⟩
    have HCL : Hid (∀ W, Below W9.heap.size W9 W → W.cell? ⟨w.heap.size, 0, none⟩ = some (.int .i64 s.kind) ∧ W.cell? ⟨w.heap.size, 1, none⟩ = some vs ∧ W.cell? ⟨w.heap.size, 2, none⟩ = some (.bool s.shut) ∧ W.cell? ⟨w.heap.size, 3, none⟩ = some (.int .i64 s.eng)) := hide fun W h => ⟨((HXK.out W h).1.cell 0 rfl).1, ((HXK.out W h).1.cell 1 rfl).1, ((HXK.out W h).1.cell 2 rfl).1, ((HXK.out W h).1.cell 3 rfl).1⟩
    have HR9 := hide (Below.refl W9.heap.size W9)
    obtain ⟨q0, q1, q2, q3⟩ := HCL.out W9 HR9.out
    clear HBU
    go_upto_region 18 with fail
    go_region_held (fun W => W.cell? ⟨w.heap.size, 0, none⟩ = some (.int .i64 s.kind) ∧ W.cell? ⟨w.heap.size, 1, none⟩ = some vs ∧ W.cell? ⟨w.heap.size, 2, none⟩ = some (.bool s.shut) ∧ W.cell? ⟨w.heap.size, 3, none⟩ = some (.int .i64 s.eng))
      (first | (with_reducible refine HCL.out _ ?_; first | (with_reducible exact HR9.out) | (with_reducible exact HR9.out.drew) | (with_reducible exact HB10.out) | (with_reducible exact HB11.out)))
      (first | (go_at_call 19; refine (HSTT.out _ HR9.out.drew).mono ?_; rintro r W10 ⟨vl', rfl, ho10, hb10⟩; have HO10 := hide ho10; have HB10 := hide (HR9.out.drew.trans hb10); clear ho10 hb10) | (go_at_call 18; refine (HSAM.out _ _ (HB9.out.trans (HB10.out.mono HB9.out.size)) HO10.out).mono ?_; rintro r W11 ⟨rfl, hb11⟩; have HB11 := hide (HB10.out.trans (hb11.mono HB10.out.size)); clear hb11))
    all_goals
      have HBE := hide (HB9.out.trans (HB11.out.mono HB9.out.size))
      go_wp2
      go_ret
      exact ⟨rfl, HBE.out⟩
  have dn : decide (p < (n : Int)) = true := decide_eq_true hpn
  cases FT with
  | false =>
    have hnw : ¬ (0 ≤ p ∧ p < (n : Int)) ∨ ¬ FitsO ⟨co, xa, xb⟩ := .inr (of_decide_eq_false HFT.out.symm)
    rw [inv_not hnw] at HI
    dsimp only at HI
    have HBZ := hide (new_idle s n p)
    have HST : Hid ((newEg s n).st = s) := hide rfl
    clear hnw
    go_wp2_with fail
    refine HI.out.mono ?_
    rintro e W8 ⟨rfl, hm8, ho8⟩
    have hb8 := onlyBH ho8 HS7.out
    have HX8 : Hid (Bk 24 W8 w.heap.size #[.int .i64 s.kind, vs, .bool s.shut, .int .i64 s.eng] ∧ Bk 26 W8 (w.heap.size + 1) #[.int .i64 co, .int .i64 xa, .int .i64 xb]) := hide ⟨HX7.out.1.keep (hb8.block _ HXG.out.1), HX7.out.2.keep (hb8.block _ HXG.out.2)⟩
    have HB8 := hide (HB7.out.trans (hb8.mono HB2S.out))
    have HE8 := hide hm8
    have HS8 : Hid (W2.heap.size ≤ W8.heap.size) := hide (Nat.le_trans HS7.out ho8.size)
    clear hb8 ho8 hm8 HI HX7 HB7 HE7 HS7 o0 o1 o2
    obtain ⟨o0, -⟩ := HX8.out.2.cell 0 rfl
    obtain ⟨o1, -⟩ := HX8.out.2.cell 1 rfl
    obtain ⟨o2, -⟩ := HX8.out.2.cell 2 rfl
    go_wp2_with fail
    refine (HFO.out W8).mono ?_
    rintro e W9 ⟨rfl, hb9⟩
    have HX9 : Hid (Bk 24 W9 w.heap.size #[.int .i64 s.kind, vs, .bool s.shut, .int .i64 s.eng] ∧ Bk 26 W9 (w.heap.size + 1) #[.int .i64 co, .int .i64 xa, .int .i64 xb]) := hide ⟨HX8.out.1.keep (hb9.block _ HX8.out.1.lt), HX8.out.2.keep (hb9.block _ HX8.out.2.lt)⟩
    have HB9 := hide (HB8.out.trans (hb9.mono HB8.out.size))
    have HE9 := hide (HE8.out.below hb9)
    have HS9 : Hid (W2.heap.size ≤ W9.heap.size) := hide (Nat.le_trans HS8.out hb9.size)
    have HBU := hide (busy_any HE9.out p)
    rw [HBZ.out] at HBU
    clear hb9 HX8 HB8 HE8 HS8 o0 o1 o2
    go_wp2_with fail
    refine HBU.out.mono ?_
    rintro e W9 ⟨rfl, rfl⟩
    have HSTT := hide (fun W (h : Below W9.heap.size W9 W) => state_any (HE9.out.below h))
    rw [HST.out] at HSTT
    have HSAM : Hid (∀ W v', Below w.heap.size w W → OwnI W W9.heap.size v' s.L → Calls Try.prog 18 #[.agg #[.int .i64 s.kind, v', .bool s.shut, .int .i64 s.eng], .agg #[.int .i64 s.kind, vs, .bool s.shut, .int .i64 s.eng]] W fun e w' => e = .returned (.bool true) ∧ Below W.heap.size W w') := hide fun W v' h1 h2 => by
      have h := refSameS_any _ s _ s W ⟨v', rfl, h2.rd HI64.out.1, HI64.out.2⟩ (HS.out.below h1 (Nat.le_refl _))
      rw [decide_eq_true (sameS_refl s)] at h
      exact h
    have HXK : Hid (∀ W, Below W9.heap.size W9 W → (Bk 24 W w.heap.size #[.int .i64 s.kind, vs, .bool s.shut, .int .i64 s.eng] ∧ Bk 26 W (w.heap.size + 1) #[.int .i64 co, .int .i64 xa, .int .i64 xb])) := hide fun W h => ⟨HX9.out.1.keep (h.block _ HX9.out.1.lt), HX9.out.2.keep (h.block _ HX9.out.2.lt)⟩
    have HCL : Hid (∀ W, Below W9.heap.size W9 W → W.cell? ⟨w.heap.size, 0, none⟩ = some (.int .i64 s.kind) ∧ W.cell? ⟨w.heap.size, 1, none⟩ = some vs ∧ W.cell? ⟨w.heap.size, 2, none⟩ = some (.bool s.shut) ∧ W.cell? ⟨w.heap.size, 3, none⟩ = some (.int .i64 s.eng)) := hide fun W h => ⟨((HXK.out W h).1.cell 0 rfl).1, ((HXK.out W h).1.cell 1 rfl).1, ((HXK.out W h).1.cell 2 rfl).1, ((HXK.out W h).1.cell 3 rfl).1⟩
    have HR9 := hide (Below.refl W9.heap.size W9)
    obtain ⟨q0, q1, q2, q3⟩ := HCL.out W9 HR9.out
    clear HBU
    go_upto_region 18 with fail
    go_region_held (fun W => W.cell? ⟨w.heap.size, 0, none⟩ = some (.int .i64 s.kind) ∧ W.cell? ⟨w.heap.size, 1, none⟩ = some vs ∧ W.cell? ⟨w.heap.size, 2, none⟩ = some (.bool s.shut) ∧ W.cell? ⟨w.heap.size, 3, none⟩ = some (.int .i64 s.eng))
      (first | (with_reducible refine HCL.out _ ?_; first | (with_reducible exact HR9.out) | (with_reducible exact HR9.out.drew) | (with_reducible exact HB10.out) | (with_reducible exact HB11.out)))
      (first | (go_at_call 19; refine (HSTT.out _ HR9.out.drew).mono ?_; rintro r W10 ⟨vl', rfl, ho10, hb10⟩; have HO10 := hide ho10; have HB10 := hide (HR9.out.drew.trans hb10); clear ho10 hb10) | (go_at_call 18; refine (HSAM.out _ _ (HB9.out.trans (HB10.out.mono HB9.out.size)) HO10.out).mono ?_; rintro r W11 ⟨rfl, hb11⟩; have HB11 := hide (HB10.out.trans (hb11.mono HB10.out.size)); clear hb11))
    all_goals
      have HBE := hide (HB9.out.trans (HB11.out.mono HB9.out.size))
      go_wp2
      go_ret
      exact ⟨rfl, HBE.out⟩
  | true =>
    obtain ⟨e1, hi1, hst1, hbz1, hag⟩ := inv_ok (s := s) (n := n) (p := p) ⟨h0, hpn⟩ (of_decide_eq_true HFT.out.symm)
    rw [hi1] at HI
    dsimp only at HI
    have HBZ := hide hbz1
    have HST := hide hst1
    have HAG := hide hag
    clear hi1 hst1 hbz1 hag
    go_wp2_with fail
    refine HI.out.mono ?_
    rintro e W8 ⟨rfl, hm8, ho8⟩
    have hb8 := onlyBH ho8 HS7.out
    have HX8 : Hid (Bk 24 W8 w.heap.size #[.int .i64 s.kind, vs, .bool s.shut, .int .i64 s.eng] ∧ Bk 26 W8 (w.heap.size + 1) #[.int .i64 co, .int .i64 xa, .int .i64 xb]) := hide ⟨HX7.out.1.keep (hb8.block _ HXG.out.1), HX7.out.2.keep (hb8.block _ HXG.out.2)⟩
    have HB8 := hide (HB7.out.trans (hb8.mono HB2S.out))
    have HE8 := hide hm8
    have HS8 : Hid (W2.heap.size ≤ W8.heap.size) := hide (Nat.le_trans HS7.out ho8.size)
    clear hb8 ho8 hm8 HI HX7 HB7 HE7 HS7 o0 o1 o2
    obtain ⟨o0, -⟩ := HX8.out.2.cell 0 rfl
    obtain ⟨o1, -⟩ := HX8.out.2.cell 1 rfl
    obtain ⟨o2, -⟩ := HX8.out.2.cell 2 rfl
    go_wp2_with fail
    refine (HFO.out W8).mono ?_
    rintro e W9 ⟨rfl, hb9⟩
    have HX9 : Hid (Bk 24 W9 w.heap.size #[.int .i64 s.kind, vs, .bool s.shut, .int .i64 s.eng] ∧ Bk 26 W9 (w.heap.size + 1) #[.int .i64 co, .int .i64 xa, .int .i64 xb]) := hide ⟨HX8.out.1.keep (hb9.block _ HX8.out.1.lt), HX8.out.2.keep (hb9.block _ HX8.out.2.lt)⟩
    have HB9 := hide (HB8.out.trans (hb9.mono HB8.out.size))
    have HE9 := hide (HE8.out.below hb9)
    have HS9 : Hid (W2.heap.size ≤ W9.heap.size) := hide (Nat.le_trans HS8.out hb9.size)
    have HBU := hide (busy_any HE9.out p)
    rw [HBZ.out] at HBU
    clear hb9 HX8 HB8 HE8 HS8 o0 o1 o2
    go_wp2_with fail
    refine HBU.out.mono ?_
    rintro e W9 ⟨rfl, rfl⟩
    have HSTT := hide (fun W (h : Below W9.heap.size W9 W) => state_any (HE9.out.below h))
    rw [HST.out] at HSTT
    have HSAM : Hid (∀ W v', Below w.heap.size w W → OwnI W W9.heap.size v' s.L → Calls Try.prog 18 #[.agg #[.int .i64 s.kind, v', .bool s.shut, .int .i64 s.eng], .agg #[.int .i64 s.kind, vs, .bool s.shut, .int .i64 s.eng]] W fun e w' => e = .returned (.bool true) ∧ Below W.heap.size W w') := hide fun W v' h1 h2 => by
      have h := refSameS_any _ s _ s W ⟨v', rfl, h2.rd HI64.out.1, HI64.out.2⟩ (HS.out.below h1 (Nat.le_refl _))
      rw [decide_eq_true (sameS_refl s)] at h
      exact h
    have HXK : Hid (∀ W, Below W9.heap.size W9 W → (Bk 24 W w.heap.size #[.int .i64 s.kind, vs, .bool s.shut, .int .i64 s.eng] ∧ Bk 26 W (w.heap.size + 1) #[.int .i64 co, .int .i64 xa, .int .i64 xb])) := hide fun W h => ⟨HX9.out.1.keep (h.block _ HX9.out.1.lt), HX9.out.2.keep (h.block _ HX9.out.2.lt)⟩
    have HCL : Hid (∀ W, Below W9.heap.size W9 W → W.cell? ⟨w.heap.size, 0, none⟩ = some (.int .i64 s.kind) ∧ W.cell? ⟨w.heap.size, 1, none⟩ = some vs ∧ W.cell? ⟨w.heap.size, 2, none⟩ = some (.bool s.shut) ∧ W.cell? ⟨w.heap.size, 3, none⟩ = some (.int .i64 s.eng)) := hide fun W h => ⟨((HXK.out W h).1.cell 0 rfl).1, ((HXK.out W h).1.cell 1 rfl).1, ((HXK.out W h).1.cell 2 rfl).1, ((HXK.out W h).1.cell 3 rfl).1⟩
    have HR9 := hide (Below.refl W9.heap.size W9)
    obtain ⟨q0, q1, q2, q3⟩ := HCL.out W9 HR9.out
    clear HBU
    go_upto_region 18 with fail
    go_region_held (fun W => W.cell? ⟨w.heap.size, 0, none⟩ = some (.int .i64 s.kind) ∧ W.cell? ⟨w.heap.size, 1, none⟩ = some vs ∧ W.cell? ⟨w.heap.size, 2, none⟩ = some (.bool s.shut) ∧ W.cell? ⟨w.heap.size, 3, none⟩ = some (.int .i64 s.eng))
      (first | (with_reducible refine HCL.out _ ?_; first | (with_reducible exact HR9.out) | (with_reducible exact HR9.out.drew) | (with_reducible exact HB10.out) | (with_reducible exact HB11.out)))
      (first | (go_at_call 19; refine (HSTT.out _ HR9.out.drew).mono ?_; rintro r W10 ⟨vl', rfl, ho10, hb10⟩; have HO10 := hide ho10; have HB10 := hide (HR9.out.drew.trans hb10); clear ho10 hb10) | (go_at_call 18; refine (HSAM.out _ _ (HB9.out.trans (HB10.out.mono HB9.out.size)) HO10.out).mono ?_; rintro r W11 ⟨rfl, hb11⟩; have HB11 := hide (HB10.out.trans (hb11.mono HB10.out.size)); clear hb11))
    all_goals
      have HBE := hide (HB9.out.trans (HB11.out.mono HB9.out.size))
      have HI2 := hide (HINV.out W11 eb _ 4 (fun k => k < W2.heap.size) (HE9.out.below HB11.out) (fun k hk => Nat.lt_of_lt_of_le hk (Nat.le_trans HS9.out HB11.out.size)) (by omega))
      rw [HAG.out] at HI2
      have hx11 := (HXK.out W11 HB11.out).2
      obtain ⟨o0, -⟩ := hx11.cell 0 rfl
      obtain ⟨o1, -⟩ := hx11.cell 1 rfl
      obtain ⟨o2, -⟩ := hx11.cell 2 rfl
      have HSB : Hid (W2.heap.size ≤ W11.heap.size) := hide (Nat.le_trans HS9.out HB11.out.size)
      clear hx11
      go_wp2_with fail
      refine HI2.out.mono ?_
      rintro e W12 ⟨rfl, hm12, ho12⟩
      have HBF := hide (HBE.out.trans ((onlyBH ho12 HSB.out).mono HB2S.out))
      clear hm12 ho12
      go_wp2
      go_ret
      exact ⟨rfl, HBF.out⟩

theorem own : ownKnob Try.prog.godebug = none := by kernel_rfl
theorem laidOut : laidOutB Try.prog = true := by kernel_rfl

set_option linter.unusedVariables false in
set_option maxRecDepth 100000 in
theorem lifted (os : Os) (started : os.Started) (H : Type) (enc : TypeId × Value → H) :
    ReturnsInHanded {} Try.checked os 3 .any (Rows.psimAsksSpec.pre6 enc Try.prog Try.f3 Rows.psimAsksRow.domain false) (Rows.psimAsksSpec.post enc Try.prog Try.f3 false true false false) := by
  refine returnsInHanded_of_change (C := Try.checked) own started (by kernel_rfl) Try.func3
    (ChangeSpec.witness6 (enc := enc) (C := Try.checked) false ⟨#[], #[.agg #[.int .i64 0, .slice none 0 0, .bool false, .int .i64 0], .int .i64 0, .int .i64 0, .agg #[.int .i64 0, .int .i64 0, .int .i64 0]], []⟩ 8 (by kernel_rfl) (by kernel_rfl) (by kernel_rfl) (by kernel_rfl)) ?_
  intro W base args ds gs before hval0 hW hcnd _
  have hval : ∀ (j : Nat) t v, Try.f3.params[j]? = some t → args[j]? = some v → Value.okWide Try.prog W .any base t v := hval0
  have hW' := hW
  obtain ⟨p, q, hA0, hV, rfl, hfz, hnd⟩ := hW
  have hA : DataW.TrodAll enc Try.prog W 0 (fun _ => true) true Try.f3.params.toList args.toList ds p := hA0
  rw [Try.params3] at hA hval
  obtain ⟨v0, vs0, d0, ds0, p0, q0, hargs, rfl, rfl, h0, r0⟩ := trodAll_cons hA
  obtain ⟨v1, vs1, d1, ds1, p1, q1, rfl, rfl, rfl, h1, r1⟩ := trodAll_cons r0
  obtain ⟨v2, vs2, d2, ds2, p2, q2, rfl, rfl, rfl, h2, r2⟩ := trodAll_cons r1
  obtain ⟨v3, vs3, d3, ds3, p3, q3, rfl, rfl, rfl, h3, r3⟩ := trodAll_cons r2
  obtain ⟨rfl, rfl, rfl⟩ := trodAll_nil r3
  obtain rfl : args = #[v0, v1, v2, v3] := by cases args; simp_all
  obtain ⟨rfl, rfl⟩ := trodVars_none hV
  have k0 := h0
  have lt0 : ∀ x ∈ p0, x.block < W.heap.size := by obtain ⟨m, hm⟩ := k0; exact DataW.trod_lt m _ _ _ hm
  obtain ⟨s0, w0⟩ := open_state (hval 0 24 v0 rfl rfl) h0
  obtain ⟨a1, rfl, rfl, rfl, w1⟩ := open_int Try.underlying3 (hval 1 3 v1 rfl rfl) h1
  obtain ⟨a2, rfl, rfl, rfl, w2⟩ := open_int Try.underlying3 (hval 2 3 v2 rfl rfl) h2
  have lt3 : ∀ x ∈ p3, x.block < W.heap.size := by obtain ⟨m, hm⟩ := h3; exact DataW.trod_lt m _ _ _ hm
  obtain ⟨s3, e3, w3⟩ := open_op (hval 3 26 v3 rfl rfl) h3
  subst e3
  have k3 := h3
  clear hA0 hval0
  refine (walk _ s0 a1 a2 s3 W w0 w1 w2 w3).mono fun e W' ⟨he, bel⟩ => ?_
  subst he
  exact ⟨_, rfl, _, _, _, [], _, [], hW', trodAll_mk1 (shut_bool Try.underlying4 _), (trodAll_cons_mk (Below.trod laidOut (by kernel_rfl) (of_decide_eq_true (by kernel_rfl)) k0 bel lt0) (trodAll_cons_mk (shut_int Try.underlying3 w1) (trodAll_cons_mk (shut_int Try.underlying3 w2) (trodAll_cons_mk (Below.trod laidOut (by kernel_rfl) (of_decide_eq_true (by kernel_rfl)) k3 bel lt3) trodAll_mk0)))), rfl, bel.frame _, fun h => by cases h⟩

theorem over : Rows.psimAsksRow.holds Try.pinned (OpenSpec.ofChange Rows.psimAsksSpec) :=
  OpenClaim.holds_of_wide 3 Try.f3 rfl rfl rfl rfl rfl rfl rfl ⟨rfl, rfl, rfl, rfl, rfl⟩ rfl rfl rfl rfl rfl (by kernel_rfl) Try.func3 (by kernel_rfl)
    (of_decide_eq_true (by kernel_rfl)) (by unfold Func.isWrapper; first | (rw [if_pos (by decide +kernel)]; kernel_rfl) | (rw [if_neg (by decide +kernel)]; exact ⟨rfl, rfl⟩))
    (fun os started H enc _ => lifted os started H enc)

end Go.Proofs.Ytedfacbngefhnaa.psimAsks
namespace Go.Proofs.Ytedfacbngefhnaa

theorem psimAsks_holds : Rows.PsimAsksSaid := psimAsks.over

end Go.Proofs.Ytedfacbngefhnaa
