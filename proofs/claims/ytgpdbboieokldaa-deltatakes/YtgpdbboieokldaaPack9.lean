import Derived.Test.YtgpdbboieokldaaPack8
import Derived.Test.YtgpdbboieokldaaPack6
import Derived.Test.YtgpdbboieokldaaOpenObjs
import Derived.Test.YtgpdbboieokldaaObjsFew
import Derived.Test.YtgpdbboieokldaaSnapTakeA
import Derived.Test.YtgpdbboieokldaaSnapBoxes
import Derived.Test.YtgpdbboieokldaaPack5
import Derived.Test.YtgpdbboieokldaaSchemaFits
import Derived.Deep.DeepCutAuto
/- Contracts of objs: act, Step. -/
namespace Go.Proofs.Ytgpdbboieokldaa
open Go.RowKit

/-- The numbers of a state that may be are numbers of 64 bits. -/
theorem may_i64 {s : St} (h : MayS s) : ∀ x ∈ s.L, I64 x := by
  have h0 := h.2.2.2.1
  have h6 := h.2.2.2.2.1
  have hn := h.2.2.2.2.2
  by_cases h4 : s.kind = 4
  · rw [h4, numsOk_4] at hn
    exact pairs_i64 (by decide) (by decide) hn.2
  · by_cases h5 : s.kind = 5
    · rw [h5, numsOk_5] at hn
      exact pairs_i64 (by decide) (by decide) hn.2
    · have hb := (inBounds_iff _).1 ((numsOk_list h4 h5).1 hn).2.2
      intro x hx
      have := hb x hx
      exact i64_small (by omega) (by omega)

theorem may_len {s : St} (h : MayS s) : s.L.length ≤ 128 := by
  have h0 := h.2.2.2.1
  have h6 := h.2.2.2.2.1
  have hn := h.2.2.2.2.2
  by_cases h4 : s.kind = 4
  · rw [h4, numsOk_4] at hn
    exact hn.1
  · by_cases h5 : s.kind = 5
    · rw [h5, numsOk_5] at hn
      exact hn.1
    · have := ((numsOk_list h4 h5).1 hn).1
      omega

theorem stepO_seal {s : St} (h : MayS s) (hs : s.shut = false) (o : Opn) (hc : o.code = 10) : stepO s o = (⟨s.kind, s.L, true, if 0 ≤ o.a ∧ o.a ≤ 2 then o.a else s.eng⟩, 0) := by
  unfold stepO
  rw [if_neg (fun e => e h), if_neg (by simp [hs]), if_pos hc]

theorem stepO_open {s : St} (h : MayS s) (hs : s.shut = false) (o : Opn) (hc : o.code ≠ 10) : stepO s o = if s.kind ≤ 1 then oneS s o else if s.kind ≤ 3 then listS s o else if s.kind = 4 then storeO s o else ledgerS s o := by
  unfold stepO
  rw [if_neg (fun e => e h), if_neg (by simp [hs]), if_neg hc]

theorem storeO_kind (s : St) (o : Opn) : (storeO s o).1.kind = s.kind ∧ (storeO s o).1.shut = s.shut ∧ (storeO s o).1.eng = s.eng := by
  rw [storeO_state]
  exact store_kind s o

/-- An answer that leaves kind, seal and engine. -/
theorem split_r {r : St × Int} {k g : Int} {s : Bool} (h : r.1.kind = k ∧ r.1.shut = s ∧ r.1.eng = g) : r = (⟨k, r.1.L, s, g⟩, r.2) := by
  obtain ⟨⟨k1, l1, s1, g1⟩, n1⟩ := r
  obtain ⟨h1, h2, h3⟩ := h
  simp only at h1 h2 h3
  rw [h1, h2, h3]

theorem act_any (s : St) (v : Value) (o : Opn) (B : Nat) (w : World) (ho : OwnI w B v s.L) (hB : B ≤ w.heap.size) (hm : MayS s) :
    Calls Try.prog 83 #[.agg #[.int .i64 s.kind, v, .bool s.shut, .int .i64 s.eng], opV o] w fun e w' => Did B w v (stepO s o) e w' := by
  obtain ⟨kind, l, shut, g⟩ := s
  cases shut with
  | true =>
    rw [stepO_shut hm rfl]
    exact actShut_any kind g l v o B w ho
  | false =>
    have h0 : 0 ≤ kind := hm.2.2.2.1
    have h6 : kind < 6 := hm.2.2.2.2.1
    have hn := hm.2.2.2.2.2
    obtain ⟨code, a, b⟩ := o
    by_cases hc : code = 10
    · rw [stepO_seal hm rfl _ hc]
      subst hc
      exact actSeal_any kind g a b l v B w ho
    · rw [stepO_open hm rfl _ hc]
      by_cases k1 : kind ≤ 1
      · rw [if_pos k1]
        obtain ⟨h1, h2, h3⟩ := nums1 hm k1
        exact actOne_any kind g (by omega) l v ⟨code, a, b⟩ hc B w ho h1 h2 h3
      · rw [if_neg k1]
        by_cases k3 : kind ≤ 3
        · rw [if_pos k3, split_r (list_kind ⟨kind, l, false, g⟩ ⟨code, a, b⟩)]
          exact actLine_any kind g (by omega) l _ _ v code a b hc B w ho (fun W h1 h2 => line_any kind (by omega) v l ⟨code, a, b⟩ false g B W h1 h2 (may_i64 hm) (nums2 hm k3)) hB
        · rw [if_neg k3]
          by_cases k4 : kind = 4
          · rw [if_pos k4, split_r (storeO_kind ⟨kind, l, false, g⟩ ⟨code, a, b⟩)]
            subst k4
            have hn' := (numsOk_4 l).1 hn
            exact actStore_any 4 g rfl l _ _ v code a b hc B w ho (fun W h1 h2 => storeO_any v l ⟨code, a, b⟩ false g B W h1 h2 hn'.2 hn'.1) hB
          · rw [if_neg k4, split_r (ledger_kind ⟨kind, l, false, g⟩ ⟨code, a, b⟩)]
            have k5 : kind = 5 := by omega
            subst k5
            have hn' := (numsOk_5 l).1 hn
            exact actLedger_any 5 g rfl l _ _ v code a b hc B w ho (fun W h1 h2 => ledgerO_any v l ⟨code, a, b⟩ false g B W h1 h2 hn'.2 hn'.1) hB

set_option maxRecDepth 100000 in
set_option maxHeartbeats 2000000 in
theorem step_any (v : Value) (s : St) (o : Opn) (w : World) (hs : StV w v s) (hlim : s.L.length ≤ 1000000) :
    Calls Try.prog 48 #[v, opV o] w fun e w' => Stepped w (lval v) s.L (stepO s o) e w' := by
  obtain ⟨vl, rfl, hr, hki, hei⟩ := hs
  rw [lval_agg]
  obtain ⟨kind, l, shut, g⟩ := s
  simp only at hr hki hei hlim ⊢
  have HI := hide' hr.i64
  have HOWN : Hid (∀ W, Below w.heap.size w W → Calls Try.prog 82 #[.agg #[.int .i64 kind, vl, .bool shut, .int .i64 g]] W fun e w' => ∃ vl', e = .returned (.agg #[.int .i64 kind, vl', .bool shut, .int .i64 g]) ∧ OwnI w' W.heap.size vl' l ∧ Below W.heap.size W w') := fun W h => ownS_any _ ⟨kind, l, shut, g⟩ W ⟨vl, rfl, hr.below h (Nat.le_refl _), hki, hei⟩ hlim
  have HMAY : Hid (∀ v1 W, RdI W v1 l → Calls Try.prog 44 #[.agg #[.int .i64 kind, v1, .bool shut, .int .i64 g]] W fun e w' => e = .returned (.bool (decide (MayS ⟨kind, l, shut, g⟩))) ∧ Below W.heap.size W w') := fun v1 W h => may_any _ ⟨kind, l, shut, g⟩ W ⟨v1, rfl, h, hki, hei⟩
  have HB3 : Hid (∀ x y z, Below w.heap.size w (((w.alloc x).alloc y).alloc z)) := fun x y z => (three_boxes w x y z).1
  have HZ3 : Hid (∀ x y z, (((w.alloc x).alloc y).alloc z).heap.size = w.heap.size + 1 + 1 + 1) := fun x y z => size3 w x y z
  have HKI := hide' hki
  have HEI := hide' hei
  obtain ⟨code, a, b⟩ := o
  clear hr hki hei hlim
  show Calls Try.prog _ #[_, .agg #[.int .i64 code, .int .i64 a, .int .i64 b]] w _
  by_cases hm : MayS ⟨kind, l, shut, g⟩
  · have HMT := hide' (decide_eq_true hm)
    have HACT : Hid (∀ v1 B W, OwnI W B v1 l → B ≤ W.heap.size → Calls Try.prog 83 #[.agg #[.int .i64 kind, v1, .bool shut, .int .i64 g], .agg #[.int .i64 code, .int .i64 a, .int .i64 b]] W fun e w' => Did B W v1 (stepO ⟨kind, l, shut, g⟩ ⟨code, a, b⟩) e w') := fun v1 B W h1 h2 => act_any ⟨kind, l, shut, g⟩ v1 ⟨code, a, b⟩ B W h1 h2 hm
    have hm' := stepO_may hm ⟨code, a, b⟩
    have HI' := hide' (may_i64 hm')
    have HKI' : Hid (I64 (stepO ⟨kind, l, shut, g⟩ ⟨code, a, b⟩).1.kind) := i64_small (by have := hm'.2.2.2.1; omega) (by have := hm'.2.2.2.2.1; omega)
    have HEI' : Hid (I64 (stepO ⟨kind, l, shut, g⟩ ⟨code, a, b⟩).1.eng) := i64_small (by have := hm'.1; omega) (by have := hm'.2.1; omega)
    obtain ⟨⟨⟨k', L', s', g'⟩, n'⟩, hr'⟩ : ∃ r, r = stepO ⟨kind, l, shut, g⟩ ⟨code, a, b⟩ := ⟨_, rfl⟩
    rw [← hr'] at HACT HI' HKI' HEI' ⊢
    clear hm hm' hr'
    go_enter Try.func48, Try.ntmps48
    go_wp2_with fail
    refine (HOWN.out _ (HB3.out _ _ _)).mono ?_
    rintro e W1 ⟨v1, rfl, ho1, hb1⟩
    rw [HZ3.out] at ho1
    have HX1 := hide' ((Boxes.made w _ _ _).below hb1 (by simp))
    have HB1 := hide' ((HB3.out _ _ _).trans (hb1.mono (HB3.out _ _ _).size))
    have HO1 := hide' ho1
    have hs1 := hb1.size
    rw [HZ3.out] at hs1
    obtain ⟨ao, cap, rfl⟩ := ho1.shape
    clear hb1 ho1
    go_wp2_with fail
    refine (HMAY.out _ _ ((HO1.out.alloc _).rd HI.out)).mono ?_
    rintro e W2 ⟨rfl, hb2⟩
    rw [HMT.out]
    have HB2 := hide' ((HB1.out.alloc HB1.out.size _).trans (hb2.mono (by have := HB1.out.size; simp; omega)))
    have HO2 := hide' ((HO1.out.alloc _).below hb2 (Nat.le_refl _))
    have hs2 := hb2.size
    have hx := (HX1.out.below ((Below.refl W1.heap.size W1).alloc (Nat.le_refl _) _) (by omega)).below hb2 (by simp; omega)
    have hbx := (hb2.block W1.heap.size (by simp)).trans (heap_alloc_new W1 _)
    have HX2 := hide' hx
    obtain ⟨p0, -⟩ := hx.o 0
    obtain ⟨p1, -⟩ := hx.o 1
    obtain ⟨p2, -⟩ := hx.o 2
    have q0 := cell_of_row W2 W1.heap.size 0 _ _ _ hbx
    have q1 := cell_of_row W2 W1.heap.size 1 _ _ _ hbx
    have q2 := cell_of_row W2 W1.heap.size 2 _ _ _ hbx
    have q3 := cell_of_row W2 W1.heap.size 3 _ _ _ hbx
    have hB2 : w.heap.size + 1 + 1 + 1 ≤ W2.heap.size := by simp at hs2; omega
    clear hb2 hx hbx HX1
    go_wp2_with fail
    refine (HACT.out _ _ _ HO2.out hB2).mono ?_
    rintro e W3 ⟨v3, rfl, ho3, hm3⟩
    have hb3 := hm3.below HO2.out hB2
    have hx := HX2.out.below hb3 (Nat.le_refl _)
    obtain ⟨r0, t0⟩ := hx.r 0
    obtain ⟨r1, t1⟩ := hx.r 1
    obtain ⟨r2, t2⟩ := hx.r 2
    obtain ⟨r3, t3⟩ := hx.r 3
    have HB3' := hide' (HB2.out.trans (hb3.mono (by omega)))
    have HO3 := hide' ho3
    obtain ⟨ao3, cap3, rfl⟩ := ho3.shape
    clear hb3 hm3 hx ho3
    go_wp2
    refine bodyPost_ret (v := .tuple #[.agg #[.int .i64 k', .slice ao3 L'.length cap3, .bool s', .int .i64 g'], .int .i64 n']) (by simp [results, Try.results48, go_sem, r0, r1, r2, r3]) rfl ?_
    refine Stepped.fresh ((HO3.out.four (w.heap.size + 1 + 1) (by omega) _ _ _ _).rd HI'.out) HKI'.out HEI'.out n' (fun b hb => ?_) (belowFour HB3'.out (w.heap.size + 1 + 1) (by omega) _ _ _ _)
    have := HO3.out.fresh b hb
    omega
  · have HMT := hide' (decide_eq_false hm)
    have HR := hide' (stepO_not hm ⟨code, a, b⟩)
    rw [HR.out]
    clear hm
    go_enter Try.func48, Try.ntmps48
    go_wp2_with fail
    refine (HOWN.out _ (HB3.out _ _ _)).mono ?_
    rintro e W1 ⟨v1, rfl, ho1, hb1⟩
    rw [HZ3.out] at ho1
    have HX1 := hide' ((Boxes.made w _ _ _).below hb1 (by simp))
    have HB1 := hide' ((HB3.out _ _ _).trans (hb1.mono (HB3.out _ _ _).size))
    have HO1 := hide' ho1
    have hs1 := hb1.size
    rw [HZ3.out] at hs1
    obtain ⟨ao, cap, rfl⟩ := ho1.shape
    clear hb1 ho1
    go_wp2_with fail
    refine (HMAY.out _ _ ((HO1.out.alloc _).rd HI.out)).mono ?_
    rintro e W2 ⟨rfl, hb2⟩
    rw [HMT.out]
    have HB2 := hide' ((HB1.out.alloc HB1.out.size _).trans (hb2.mono (by have := HB1.out.size; simp; omega)))
    have HO2 := hide' ((HO1.out.alloc _).below hb2 (Nat.le_refl _))
    have hx := (HX1.out.below ((Below.refl W1.heap.size W1).alloc (Nat.le_refl _) _) (by omega)).below hb2 (by simp; omega)
    have hbx := (hb2.block W1.heap.size (by simp)).trans (heap_alloc_new W1 _)
    obtain ⟨r0, t0⟩ := hx.r 0
    obtain ⟨r1, t1⟩ := hx.r 1
    obtain ⟨r2, t2⟩ := hx.r 2
    obtain ⟨r3, t3⟩ := hx.r 3
    have q0 := cell_of_row W2 W1.heap.size 0 _ _ _ hbx
    have q1 := cell_of_row W2 W1.heap.size 1 _ _ _ hbx
    have q2 := cell_of_row W2 W1.heap.size 2 _ _ _ hbx
    have q3 := cell_of_row W2 W1.heap.size 3 _ _ _ hbx
    clear hb2 hx hbx HX1
    go_wp2
    refine bodyPost_ret (v := .tuple #[.agg #[.int .i64 kind, .slice ao l.length cap, .bool shut, .int .i64 g], .int .i64 0]) (by simp [results, Try.results48, go_sem, r0, r1, r2, r3]) rfl ?_
    refine Stepped.fresh ((HO2.out.four (w.heap.size + 1 + 1) (by omega) _ _ _ _).rd HI.out) HKI.out HEI.out 0 (fun b hb => ?_) (belowFour HB2.out (w.heap.size + 1 + 1) (by omega) _ _ _ _)
    have := HO2.out.fresh b hb
    omega

/-- Step, where it is what the document's step is. -/
theorem step_plain (v : Value) (s : St) (o : Opn) (w : World) (hs : StV w v s) (hk : s.kind ≠ 4) (hlim : s.L.length ≤ 1000000) :
    Calls Try.prog 48 #[v, opV o] w fun e w' => Stepped w (lval v) s.L (stepS s o) e w' := by
  rw [← stepO_eq s o (.inl hk)]
  exact step_any v s o w hs hlim

end Go.Proofs.Ytgpdbboieokldaa

/- awake of layer objs answers true: the chapter's examples; Few, Ints. -/
namespace Go.Proofs.Ytgpdbboieokldaa
open Go.RowKit

theorem ex1 : stepO ⟨0, [5], false, 0⟩ ⟨1, 3, 0⟩ = (⟨0, [8], false, 0⟩, 5) := by rfl
theorem ex2 : stepO ⟨2, [1, 2], false, 0⟩ ⟨4, 0, 0⟩ = (⟨2, [2], false, 0⟩, 1) := by rfl
theorem ex3 : stepO ⟨0, [5], true, 0⟩ ⟨0, 0, 0⟩ = (⟨0, [5], true, 0⟩, -1125899906842624) := by rfl
theorem ex4 : MayS (startS 5) := by decide

theorem RdI.two (w : World) (x y : Int) (hx : I64 x) (hy : I64 y) : RdI (w.alloc (.cells #[.int .i64 x, .int .i64 y] 3)) (.slice (some ⟨w.heap.size, 0, none⟩) 2 2) [x, y] := by
  refine ⟨some ⟨w.heap.size, 0, none⟩, 2, rfl, Nat.le_refl _, by decide, (fun e => by cases e), ?_, .inr ⟨w.heap.size, 0, rfl, fun j hj => ?_⟩⟩
  · intro n hn
    simp at hn
    rcases hn with rfl | rfl <;> assumption
  · have e : j = 0 ∨ j = 1 := by simp at hj; omega
    rw [Nat.zero_add]
    rcases e with rfl | rfl
    · rw [cell_of_row _ w.heap.size 0 #[.int .i64 x, .int .i64 y] 3 (0, 0) (heap_alloc_new w _)]
      rfl
    · rw [cell_of_row _ w.heap.size 1 #[.int .i64 x, .int .i64 y] 3 (0, 0) (heap_alloc_new w _)]
      rfl

set_option linter.unusedVariables false in
theorem awake1 : ∀ (w : World) (N : Nat), N = w.heap.size → Calls Try.prog 48 #[.agg #[.int .i64 0, .slice (some ⟨N, 0, none⟩) 1 1, .bool false, .int .i64 0], .agg #[.int .i64 1, .int .i64 3, .int .i64 0]] (w.alloc (.cells #[.int .i64 5] 3)) fun e w' => ∃ b off cap, e = .returned (.tuple #[.agg #[.int .i64 0, .slice (some ⟨b, off, none⟩) 1 cap, .bool false, .int .i64 0], .int .i64 5]) ∧ w'.cell? ⟨b, off, none⟩ = some (.int .i64 8) ∧ Below w.heap.size w w' := by
  have c0 : I64 0 := i64_small (by decide) (by decide)
  have c1 : I64 1 := i64_small (by decide) (by decide)
  have c2 : I64 2 := i64_small (by decide) (by decide)
  have c5 : I64 5 := i64_small (by decide) (by decide)
  intro w N hN
  subst hN
  refine (step_any (.agg #[.int .i64 0, .slice (some ⟨w.heap.size, 0, none⟩) 1 1, .bool false, .int .i64 0]) ⟨0, [5], false, 0⟩ ⟨1, 3, 0⟩ (w.alloc (.cells #[.int .i64 5] 3)) ⟨_, rfl, RdI.one w 5 c5, c0, c0⟩ (by simp)).mono ?_
  intro e w' h
  rw [ex1] at h
  obtain ⟨v', rfl, hr, _, _, _, hb⟩ := h
  obtain ⟨b, off, cap, rfl, _, hc⟩ := hr.filled (by simp)
  exact ⟨b, off, cap, rfl, hc 0 (by simp), ((Below.refl _ _).alloc (Nat.le_refl _) _).trans (hb.mono (by simp))⟩

set_option linter.unusedVariables false in
theorem awake2 : ∀ (w : World) (N : Nat), N = w.heap.size → Calls Try.prog 48 #[.agg #[.int .i64 2, .slice (some ⟨N, 0, none⟩) 2 2, .bool false, .int .i64 0], .agg #[.int .i64 4, .int .i64 0, .int .i64 0]] (w.alloc (.cells #[.int .i64 1, .int .i64 2] 3)) fun e w' => ∃ b off cap, e = .returned (.tuple #[.agg #[.int .i64 2, .slice (some ⟨b, off, none⟩) 1 cap, .bool false, .int .i64 0], .int .i64 1]) ∧ w'.cell? ⟨b, off, none⟩ = some (.int .i64 2) ∧ Below w.heap.size w w' := by
  have c0 : I64 0 := i64_small (by decide) (by decide)
  have c1 : I64 1 := i64_small (by decide) (by decide)
  have c2 : I64 2 := i64_small (by decide) (by decide)
  have c5 : I64 5 := i64_small (by decide) (by decide)
  intro w N hN
  subst hN
  refine (step_any (.agg #[.int .i64 2, .slice (some ⟨w.heap.size, 0, none⟩) 2 2, .bool false, .int .i64 0]) ⟨2, [1, 2], false, 0⟩ ⟨4, 0, 0⟩ (w.alloc (.cells #[.int .i64 1, .int .i64 2] 3)) ⟨_, rfl, RdI.two w 1 2 c1 c2, c2, c0⟩ (by simp)).mono ?_
  intro e w' h
  rw [ex2] at h
  obtain ⟨v', rfl, hr, _, _, _, hb⟩ := h
  obtain ⟨b, off, cap, rfl, _, hc⟩ := hr.filled (by simp)
  exact ⟨b, off, cap, rfl, hc 0 (by simp), ((Below.refl _ _).alloc (Nat.le_refl _) _).trans (hb.mono (by simp))⟩

set_option linter.unusedVariables false in
theorem awake3 : ∀ (w : World) (N : Nat), N = w.heap.size → Calls Try.prog 48 #[.agg #[.int .i64 0, .slice (some ⟨N, 0, none⟩) 1 1, .bool true, .int .i64 0], .agg #[.int .i64 0, .int .i64 0, .int .i64 0]] (w.alloc (.cells #[.int .i64 5] 3)) fun e w' => ∃ ao cap, e = .returned (.tuple #[.agg #[.int .i64 0, .slice ao 1 cap, .bool true, .int .i64 0], .int .i64 (-1125899906842624)]) ∧ Below w.heap.size w w' := by
  have c0 : I64 0 := i64_small (by decide) (by decide)
  have c1 : I64 1 := i64_small (by decide) (by decide)
  have c2 : I64 2 := i64_small (by decide) (by decide)
  have c5 : I64 5 := i64_small (by decide) (by decide)
  intro w N hN
  subst hN
  refine (step_any (.agg #[.int .i64 0, .slice (some ⟨w.heap.size, 0, none⟩) 1 1, .bool true, .int .i64 0]) ⟨0, [5], true, 0⟩ ⟨0, 0, 0⟩ (w.alloc (.cells #[.int .i64 5] 3)) ⟨_, rfl, RdI.one w 5 c5, c0, c0⟩ (by simp)).mono ?_
  intro e w' h
  rw [ex3] at h
  obtain ⟨ao, cap, rfl, _, _, _, hb⟩ := h.open
  exact ⟨ao, cap, rfl, ((Below.refl _ _).alloc (Nat.le_refl _) _).trans (hb.mono (by simp))⟩

end Go.Proofs.Ytgpdbboieokldaa

/- Contract of objs: Fold. -/
namespace Go.Proofs.Ytgpdbboieokldaa
open Go.RowKit

theorem stepO_resp (s : St) (o : Opn) : I64 (stepO s o).2 := by
  by_cases h : s.kind ≠ 4 ∨ s.shut = true ∨ o.code = 10 ∨ o.code = 5 ∨ o.code = 6 ∨ o.code = 7 ∨ (0 ≤ o.a ∧ o.a ≤ 255)
  · rw [stepO_eq s o h]
    exact step_resp s o
  · by_cases hm : MayS s
    · have hk : s.kind = 4 := by
        by_cases hk : s.kind = 4
        · exact hk
        · exact absurd (.inl hk) h
      have hs : s.shut = false := by
        cases hs : s.shut
        · rfl
        · exact absurd (.inr (.inl hs)) h
      have hc : o.code ≠ 10 := fun e => h (.inr (.inr (.inl e)))
      have ha : ¬ (0 ≤ o.a ∧ o.a ≤ 255) := fun e => h (.inr (.inr (.inr (.inr (.inr (.inr e))))))
      rw [stepO_open hm hs o hc, if_neg (by omega), if_neg (by omega), if_pos hk]
      unfold storeO
      rw [if_pos (by omega)]
      exact (i64_small (by decide) (by decide) : I64 (-1))
    · rw [stepO_not hm]
      exact (i64_small (by decide) (by decide) : I64 0)

theorem foldO_not {s : St} (h : ¬ MayS s) : ∀ l : List Opn, foldO s l = (s, List.replicate l.length 0)
  | [] => rfl
  | o :: r => by
    rw [foldO, stepO_not h]
    simp only
    rw [foldO_not h r]
    rfl

theorem foldO_take (s : St) (ops : List Opn) (k : Nat) (hk : k < ops.length) {sk : St} {outs : List Int} (h : foldO s (ops.take k) = (sk, outs)) :
    foldO s (ops.take (k + 1)) = ((stepO sk (ops.getD k ⟨0, 0, 0⟩)).1, outs ++ [(stepO sk (ops.getD k ⟨0, 0, 0⟩)).2]) := by
  have e : ops.take (k + 1) = ops.take k ++ [ops.getD k ⟨0, 0, 0⟩] := by
    rw [List.take_add_one]
    simp [List.getD, hk]
  rw [e, foldO_snoc, h]

/-- Numbers in a row of their own length. -/
theorem RdI.ofCells {w : World} {Y : Nat} {L : List Int} {n : Nat} (hn : n = L.length) (h : w.heap[Y]? = some (.cells (intCells L).toArray 3 (0, 0))) (hl : L.length ≤ 1000000) (hi : ∀ x ∈ L, I64 x) : RdI w (.slice (some ⟨Y, 0, none⟩) n n) L := by
  subst hn
  refine ⟨some ⟨Y, 0, none⟩, L.length, rfl, Nat.le_refl _, by unfold maxLen; omega, (fun e => by cases e), hi, .inr ⟨Y, 0, rfl, fun j hj => ?_⟩⟩
  rw [Nat.zero_add, cell_of_row w Y j _ _ _ h, List.getElem?_toArray]
  exact intCells_get L j hj

theorem set_rep (outs : List Int) (n k : Nat) (x : Int) (ho : outs.length = k) (hk : k < n) : (outs ++ List.replicate (n - k) 0).set k x = (outs ++ [x]) ++ List.replicate (n - (k + 1)) 0 := by
  obtain ⟨m, hm⟩ : ∃ m, n - k = m + 1 := ⟨n - k - 1, by omega⟩
  have e : n - (k + 1) = m := by omega
  rw [hm, e, List.replicate_succ, List.set_append_right _ _ (by omega), ho, Nat.sub_self]
  simp

/-- Where a fold stands: the answer's box behind w, the state's box at X, the answers' row at Y. -/
structure FoldIn (w : World) (X Y : Nat) (s0 : St) (ops : List Opn) (k : Nat) (wr : World) (vk : Value) (sk : St) (outs : List Int) : Prop where
  fold : foldO s0 (ops.take k) = (sk, outs)
  may : MayS sk
  len : outs.length = k
  resp : ∀ n ∈ outs, I64 n
  res : Bx wr (w.heap.size + 1) #[.int .i64 0, .slice none 0 0, .bool false, .int .i64 0]
  box : Bx wr X #[.int .i64 sk.kind, vk, .bool sk.shut, .int .i64 sk.eng]
  own : OwnI wr (w.heap.size + 1 + 1) vk sk.L
  row : wr.heap[Y]? = some (.cells (intCells (outs ++ List.replicate (ops.length - k) 0)).toArray 3 (0, 0))
  apart : ∀ b, vk.ownBlock = some b → b ≠ X ∧ b ≠ Y
  oldX : w.heap.size + 1 + 1 ≤ X
  oldY : w.heap.size + 1 + 1 ≤ Y
  ne : X ≠ Y
  below : Below w.heap.size w wr

/-- One step on. -/
theorem FoldIn.next {w wr W2 : World} {X Y : Nat} {s0 : St} {ops : List Opn} {k : Nat} {vk v2 : Value} {sk : St} {outs : List Int} (h : FoldIn w X Y s0 ops k wr vk sk outs) (hk : k < ops.length) (Z : Obj)
    {k' g' : Int} {L' : List Int} {s' : Bool} {n' : Int} (hst : stepO sk (ops.getD k ⟨0, 0, 0⟩) = (⟨k', L', s', g'⟩, n')) (ho : OwnI W2 (w.heap.size + 1 + 1) v2 L') (hm : Mv (wr.alloc Z) W2 vk v2) :
    FoldIn w X Y s0 ops (k + 1) (((((W2.setCell ⟨X, 0, none⟩ (.int .i64 k')).setCell ⟨X, 1, none⟩ v2).setCell ⟨X, 2, none⟩ (.bool s')).setCell ⟨X, 3, none⟩ (.int .i64 g')).setCell ⟨Y, k, none⟩ (.int .i64 n')) v2 ⟨k', L', s', g'⟩ (outs ++ [n']) := by
  have lX := h.box.lt
  have lY : Y < wr.heap.size := (Array.getElem?_eq_some_iff.1 h.row).1
  have lR := h.res.lt
  have hsz : (wr.alloc Z).heap.size = wr.heap.size + 1 := by simp
  have keep : ∀ b, b < wr.heap.size → some b ≠ vk.ownBlock → W2.heap[b]? = wr.heap[b]? := fun b hb hne => by
    rw [hm.grown.block b (by omega) hne]
    exact Below.heap_alloc _ _ _ hb
  have hvk : ∀ b, vk.ownBlock = some b → w.heap.size + 1 + 1 ≤ b := h.own.fresh
  have hbut : But X Y W2 (((((W2.setCell ⟨X, 0, none⟩ (.int .i64 k')).setCell ⟨X, 1, none⟩ v2).setCell ⟨X, 2, none⟩ (.bool s')).setCell ⟨X, 3, none⟩ (.int .i64 g')).setCell ⟨Y, k, none⟩ (.int .i64 n')) := ((But.refl _ _ _).four _ (.inl rfl) _ _ _ _).set _ _ (.inr rfl) _
  have hap : ∀ b, v2.ownBlock = some b → b ≠ X ∧ b ≠ Y := fun b hb => by
    rcases hm.lies b hb with h' | h'
    · exact h.apart b h'
    · rw [hsz] at h'
      omega
  have hX2 : W2.heap[X]? = some (.cells #[.int .i64 sk.kind, vk, .bool sk.shut, .int .i64 sk.eng] 24 (0, 0)) := (keep X lX (fun e => (h.apart X e.symm).1 rfl)).trans h.box
  have hY2 := (keep Y lY (fun e => (h.apart Y e.symm).2 rfl)).trans h.row
  have hs2 : wr.heap.size ≤ W2.heap.size := by have := hm.size; omega
  refine ⟨?_, ?_, by simp [h.len], ?_, ?_, ?_, ho.but hbut hap, ?_, hap, h.oldX, h.oldY, h.ne, ?_⟩
  · rw [foldO_take s0 ops k hk h.fold, hst]
  · have := stepO_may h.may (ops.getD k ⟨0, 0, 0⟩)
    rw [hst] at this
    exact this
  · intro n hn
    rcases List.mem_append.1 hn with hn | hn
    · exact h.resp n hn
    · rw [List.mem_singleton.1 hn]
      have := stepO_resp sk (ops.getD k ⟨0, 0, 0⟩)
      rw [hst] at this
      exact this
  · refine (hbut.block _ (by omega) (by have := h.oldX; omega) (by have := h.oldY; omega)).trans ((keep _ lR (fun e => ?_)).trans h.res)
    have := hvk _ e.symm
    omega
  · refine (Below.heap_setCell _ _ _ _ (by exact h.ne)).trans ?_
    exact heap_four W2 X _ _ _ _ _ hX2 _ _ _ _
  · have hY3 : ((((W2.setCell ⟨X, 0, none⟩ (.int .i64 k')).setCell ⟨X, 1, none⟩ v2).setCell ⟨X, 2, none⟩ (.bool s')).setCell ⟨X, 3, none⟩ (.int .i64 g')).heap[Y]? = some (.cells (intCells (outs ++ List.replicate (ops.length - k) 0)).toArray 3 (0, 0)) := by
      rw [Below.heap_setCell _ _ _ _ (by exact Ne.symm h.ne), Below.heap_setCell _ _ _ _ (by exact Ne.symm h.ne), Below.heap_setCell _ _ _ _ (by exact Ne.symm h.ne), Below.heap_setCell _ _ _ _ (by exact Ne.symm h.ne)]
      exact hY2
    rw [heap_setCell_same _ Y k _ _ _ hY3, ← set_rep outs ops.length k n' h.len hk]
    congr 2
    simp [intCells, List.map_set]
  · have hb := h.below
    have hbs := hb.size
    refine ⟨hbut.os.trans (hm.grown.os.trans hb.os), hbut.tape.trans (hm.grown.tape.trans hb.tape), hbut.output.trans (hm.grown.output.trans hb.output), by have := hbut.size; omega, fun j hj => ?_⟩
    rw [hbut.block j (by omega) (by have := h.oldX; omega) (by have := h.oldY; omega), keep j (by omega) (fun e => by have := hvk j e.symm; omega)]
    exact hb.block j hj

theorem made_ints (n : Nat) (hn : n ≤ 1000) (w : World) : (Instr.makeSlice 22 (.int .i64 (n : Int)) (.int .i64 (n : Int))).run Try.prog w = .ok (.slice (some ⟨w.heap.size, 0, none⟩) n n) (w.alloc (.cells (intCells (List.replicate n 0)).toArray 3)) := by
  obtain ⟨i0, hi, hz0, hz1, hz2⟩ := info_parts info_i64
  rw [run_make w 22 3 i0 (.int .i64 0) Try.underlying22 hi hz0 .i64 .i64 n n (by omega) (Int.le_refl _) (by rw [hz2]; omega) (by omega), hz1]
  have e : madeCells (Value.int .i64 0).cells ((n : Int).toNat * 1) = (intCells (List.replicate n 0)).toArray := by
    apply Array.ext
    · simp [madeCells, intCells]
    · intro i h1 h2
      simp [madeCells, intCells, Nat.mod_one, Value.cells]
  rw [e]
  simp

end Go.Proofs.Ytgpdbboieokldaa

/- Contract of snapshot: Take, its beginning. -/
namespace Go.Proofs.Ytgpdbboieokldaa
open Go.RowKit

/-- What comes of Take: the state's numbers may be those that came in; the table is the call's own, if there are records. -/
def TakenN (w : World) (vl0 vt0 : Value) (l : List Rec) (r : Snap × Int) (e : Ending) (w' : World) : Prop :=
  ∃ vl vt, e = .returned (.tuple #[.agg #[.int .i64 r.1.idx, .int .i64 r.1.st.kind, vl, .bool r.1.st.shut, .int .i64 r.1.st.eng, vt], .int .i64 r.2]) ∧ RdI w' vl r.1.st.L ∧ I64 r.1.st.kind ∧ I64 r.1.st.eng ∧ RdE w' vt r.1.tab ∧ I64 r.1.idx ∧
    (vl = vl0 ∨ ∀ b, vl.ownBlock = some b → w.heap.size ≤ b) ∧ ((l = [] ∧ vt = vt0) ∨ OwnE w' w.heap.size vt r.1.tab) ∧ Below w.heap.size w w'

/-- Behind some records: the box of the snapshot, what it reads. -/
def TakeIn (w : World) (S : Snap) (wr : World) : Prop :=
  ∃ la lc ta tc, Bn wr w.heap.size #[.int .i64 S.idx, .int .i64 S.st.kind, .slice la S.st.L.length lc, .bool S.st.shut, .int .i64 S.st.eng, .slice ta S.tab.length tc] ∧
    Bn wr (w.heap.size + 1) #[.int .i64 0, .int .i64 0, .slice none 0 0, .bool false, .int .i64 0, .slice none 0 0] ∧
    RdI wr (.slice la S.st.L.length lc) S.st.L ∧ (∀ b, (Value.slice la S.st.L.length lc).ownBlock = some b → w.heap.size + 2 ≤ b) ∧
    OwnE wr (w.heap.size + 2) (.slice ta S.tab.length tc) S.tab ∧ (∀ e ∈ S.tab, EntI e) ∧ I64 S.idx ∧ I64 S.st.kind ∧ I64 S.st.eng ∧ Below w.heap.size w wr

theorem OwnI.freshI {w : World} {B : Nat} {v : Value} {l : List Int} (h : OwnI w B v l) : ∀ b, v.ownBlock = some b → B ≤ b := fun b hb => (World.ownsRow.lt h b hb).1

theorem OwnE.butN {w w' : World} {B R T : Nat} {v : Value} {l : List Ent} (h : OwnE w B v l) (hb : But R T w w') (hn' : ∀ b, v.ownBlock = some b → b ≠ R ∧ b ≠ T) : OwnE w' B v l := by
  rcases h.row with ⟨rfl, rfl⟩ | ⟨g, cap, cur, rfl, hBg, hlt, hg, hn, hm, hs, hc⟩
  · exact OwnE.nil _ _
  · have := hn' g rfl
    exact OwnE.ofRow rfl hBg ((hb.block g hlt this.1 this.2).trans hg) hn hm hs hc

theorem OwnE.but {w w' : World} {B R T : Nat} {v : Value} {l : List Ent} (h : OwnE w B v l) (hb : But R T w w') (hR : R < B) (hT : T < B) : OwnE w' B v l :=
  h.butN hb (fun b hb => by have := h.fresh b hb; omega)

theorem takeIn_make {w W : World} {idx kind eng : Int} {shut : Bool} {x2 x5 : Value} {L : List Int} {tab : List Ent} {a1 a2 : Option Addr} {c1 c2 : Nat}
    (hX : Bn W w.heap.size #[.int .i64 idx, .int .i64 kind, x2, .bool shut, .int .i64 eng, x5]) (hY : Bn W (w.heap.size + 1) #[.int .i64 0, .int .i64 0, .slice none 0 0, .bool false, .int .i64 0, .slice none 0 0])
    (hl : OwnI W (w.heap.size + 2) (.slice a1 L.length c1) L) (hli : ∀ n ∈ L, I64 n) (hE : OwnE W (w.heap.size + 2) (.slice a2 tab.length c2) tab) (hEI : ∀ e ∈ tab, EntI e) (hi : I64 idx) (hk : I64 kind) (he : I64 eng) (hB : Below w.heap.size w W) :
    TakeIn w ⟨idx, ⟨kind, L, shut, eng⟩, tab⟩ ((W.setCell ⟨w.heap.size, 2, none⟩ (.slice a1 L.length c1)).setCell ⟨w.heap.size, 5, none⟩ (.slice a2 tab.length c2)) := by
  have hb : But w.heap.size w.heap.size W ((W.setCell ⟨w.heap.size, 2, none⟩ (.slice a1 L.length c1)).setCell ⟨w.heap.size, 5, none⟩ (.slice a2 tab.length c2)) := ((But.refl _ _ _).set _ _ (.inl rfl) _).set _ _ (.inl rfl) _
  refine ⟨a1, c1, a2, c2, (hX.set 2 _).set 5 _, (hY.other 2 _ (by omega)).other 5 _ (by omega), (hl.rd hli).but hb (.inr fun b h => ?_), hl.freshI, hE.but hb (by omega) (by omega), hEI, hi, hk, he, below_but hB hb (by have := hX.lt; omega) (Nat.le_refl _) (Nat.le_refl _)⟩
  have := hl.freshI b h
  omega

/-- The numbers of a state stay few. -/
theorem stepO_few {s : St} (o : Opn) (h : s.L.length ≤ 1000) : (stepO s o).1.L.length ≤ 1000 := by
  by_cases hm : MayS s
  · have := (may_small (stepO_may hm o)).2.1
    omega
  · rw [stepO_not hm]
    exact h

theorem takeN_drop {s : Snap} {l : List Rec} {q : Nat} (hq : q < l.length) : takeN s (l.drop q) = if (l.getD q zeroR).idx ≠ s.idx then (zeroN, 15) else if ¬ FitsR (l.getD q zeroR) then (zeroN, 1) else takeN (nextN s (l.getD q zeroR)) (l.drop (q + 1)) := by
  have e : l.drop q = l.getD q zeroR :: l.drop (q + 1) := by
    rw [List.drop_eq_getElem_cons hq]
    simp [List.getD, hq]
  rw [e, takeN]

/-- Behind a step: the state's four cells written, the record's response. -/
def stepped (W : World) (R Q : Nat) (k : Int) (v : Value) (sh : Bool) (g n : Int) : World :=
  ((((W.setCell ⟨R, 1, none⟩ (.int .i64 k)).setCell ⟨R, 2, none⟩ v).setCell ⟨R, 3, none⟩ (.bool sh)).setCell ⟨R, 4, none⟩ (.int .i64 g)).setCell ⟨Q, 6, none⟩ (.int .i64 n)

theorem Br.set {w : World} {b : Nat} {cs : Array Value} (h : Br w b cs) (j : Nat) (x : Value) : Br (w.setCell ⟨b, j, none⟩ x) b (cs.setIfInBounds j x) := by
  have := heap_setCell_same w b j _ _ x h
  unfold Br
  simpa using this

theorem Br.other {w : World} {b c : Nat} {cs : Array Value} (h : Br w b cs) (j : Nat) (x : Value) (hne : b ≠ c) : Br (w.setCell ⟨c, j, none⟩ x) b cs := (Below.heap_setCell _ _ _ _ hne).trans h

theorem but_stepped (W : World) (R Q : Nat) (k : Int) (v : Value) (sh : Bool) (g n : Int) : But R Q W (stepped W R Q k v sh g n) :=
  (((((But.refl R Q W).set _ _ (.inl rfl) _).set _ _ (.inl rfl) _).set _ _ (.inl rfl) _).set _ _ (.inl rfl) _).set _ _ (.inr rfl) _

theorem bn_stepped {W : World} {R Q : Nat} (hne : R ≠ Q) {x0 x1 x2 x3 x4 x5 : Value} (h : Bn W R #[x0, x1, x2, x3, x4, x5]) (k : Int) (v : Value) (sh : Bool) (g n : Int) : Bn (stepped W R Q k v sh g n) R #[x0, .int .i64 k, v, .bool sh, .int .i64 g, x5] :=
  ((((h.set 1 _).set 2 _).set 3 _).set 4 _).other 6 _ hne

theorem br_stepped {W : World} {R Q : Nat} (hne : Q ≠ R) {x0 x1 x2 x3 x4 x5 x6 : Value} (h : Br W Q #[x0, x1, x2, x3, x4, x5, x6]) (k : Int) (v : Value) (sh : Bool) (g n : Int) : Br (stepped W R Q k v sh g n) Q #[x0, x1, x2, x3, x4, x5, .int .i64 n] :=
  ((((h.other 1 _ hne).other 2 _ hne).other 3 _ hne).other 4 _ hne).set 6 _

theorem bnc_stepped {W : World} {R Q C : Nat} (h1 : C ≠ R) (h2 : C ≠ Q) {cs : Array Value} (h : Bn W C cs) (k : Int) (v : Value) (sh : Bool) (g n : Int) : Bn (stepped W R Q k v sh g n) C cs :=
  ((((h.other 1 _ h1).other 2 _ h1).other 3 _ h1).other 4 _ h1).other 6 _ h2

theorem takeIn_next {w W : World} {idx kind eng : Int} {shut : Bool} {x5 : Value} {L : List Int} {tab : List Ent} {a1 a2 : Option Addr} {c1 c2 : Nat}
    (hX : Bn W w.heap.size #[.int .i64 idx, .int .i64 kind, .slice a1 L.length c1, .bool shut, .int .i64 eng, x5]) (hY : Bn W (w.heap.size + 1) #[.int .i64 0, .int .i64 0, .slice none 0 0, .bool false, .int .i64 0, .slice none 0 0])
    (hl : RdI W (.slice a1 L.length c1) L) (hlf : ∀ b, (Value.slice a1 L.length c1).ownBlock = some b → w.heap.size + 2 ≤ b) (hE : OwnE W (w.heap.size + 2) (.slice a2 tab.length c2) tab) (hEI : ∀ e ∈ tab, EntI e) (hi : I64 (idx + 1)) (hk : I64 kind) (he : I64 eng) (hB : Below w.heap.size w W) :
    TakeIn w ⟨idx + 1, ⟨kind, L, shut, eng⟩, tab⟩ ((W.setCell ⟨w.heap.size, 5, none⟩ (.slice a2 tab.length c2)).setCell ⟨w.heap.size, 0, none⟩ (.int .i64 (idx + 1))) := by
  have hb : But w.heap.size w.heap.size W ((W.setCell ⟨w.heap.size, 5, none⟩ (.slice a2 tab.length c2)).setCell ⟨w.heap.size, 0, none⟩ (.int .i64 (idx + 1))) := ((But.refl _ _ _).set _ _ (.inl rfl) _).set _ _ (.inl rfl) _
  refine ⟨a1, c1, a2, c2, (hX.set 5 _).set 0 _, (hY.other 5 _ (by omega)).other 0 _ (by omega), hl.but hb (.inr fun b h => ?_), hlf, hE.but hb (by omega) (by omega), hEI, hi, hk, he, below_but hB hb (by have := hX.lt; omega) (Nat.le_refl _) (Nat.le_refl _)⟩
  have := hlf b h
  omega

theorem TakenN.zero {w w' : World} (vl0 vt0 : Value) (l : List Rec) (n : Int) (hb : Below w.heap.size w w') : TakenN w vl0 vt0 l (zeroN, n) (.returned (.tuple #[.agg #[.int .i64 0, .int .i64 0, .slice none 0 0, .bool false, .int .i64 0, .slice none 0 0], .int .i64 n])) w' :=
  ⟨_, _, rfl, RdI.nil _, (i64_small (by decide) (by decide) : I64 0), (i64_small (by decide) (by decide) : I64 0), RdE.nil _, (i64_small (by decide) (by decide) : I64 0), .inr (fun b hb => by simp [Value.ownBlock] at hb), .inr (OwnE.nil _ _), hb⟩

end Go.Proofs.Ytgpdbboieokldaa

/- Contract of snapshot: Take. -/
namespace Go.Proofs.Ytgpdbboieokldaa
open Go.RowKit

set_option maxRecDepth 100000 in
set_option maxHeartbeats 4000000 in
theorem takeN_any (idx kind : Int) (vl : Value) (shut : Bool) (eng : Int) (vt : Value) (s : Snap) (vr : Value) (l : List Rec) (w : World) (hs : SnV w (.agg #[.int .i64 idx, .int .i64 kind, vl, .bool shut, .int .i64 eng, vt]) s) (hr : RdR w vr l) (hlim : s.st.L.length ≤ 1000) (hlim2 : s.tab.length ≤ 1000) (hlim3 : l.length ≤ 100) :
    Calls Try.prog 22 #[.agg #[.int .i64 idx, .int .i64 kind, vl, .bool shut, .int .i64 eng, vt], vr] w fun e w' => TakenN w vl vt l (takeN s l) e w' := by
  obtain ⟨vl', vt', heq, hl, hk, he, ht, hi⟩ := hs
  injection heq with heq
  injection heq with heq
  simp only [List.cons.injEq, Value.int.injEq, Value.bool.injEq, and_true, true_and] at heq
  obtain ⟨rfl, rfl, rfl, rfl, rfl, rfl⟩ := heq
  obtain ⟨la, lc, hvl, -⟩ := id hl
  obtain ⟨ta, tc, hvt⟩ := ht.shape
  subst hvl hvt
  obtain ⟨ra, rc, rfl, hrl, hrm, -, hrok, hrao⟩ := hr
  have HRA := hide hrao
  have HROK := hide hrok
  obtain ⟨idx, ⟨kind, L, shut, eng⟩, tab⟩ := s
  dsimp only at *
  obtain ⟨TT, hTT⟩ : ∃ TT, TT = takeN ⟨idx, ⟨kind, L, shut, eng⟩, tab⟩ l := ⟨_, rfl⟩
  rw [← hTT]
  have HTT := hide hTT
  have HTK : Hid (∀ (S : Snap) (q : Nat), q < l.length → takeN S (l.drop q) = if (l.getD q zeroR).idx ≠ S.idx then (zeroN, 15) else if ¬ FitsR (l.getD q zeroR) then (zeroN, 1) else takeN (nextN S (l.getD q zeroR)) (l.drop (q + 1))) := hide (fun S q hq => takeN_drop hq)
  clear hTT hrao hrok hrl hrm
  have HCI := hide (fun W (h : Below w.heap.size w W) => cloneI_any _ L W (hl.below h (Nat.le_refl _)) (by omega))
  have HCE := hide (fun W (h : Below w.heap.size w W) => cloneE_any _ tab W (ht.below h (Nat.le_refl _)) (by omega))
  have HLI := hide hl.i64
  have hTI : ∀ e ∈ tab, EntI e := ht.choose_spec.choose_spec.2.2.2.2.1
  have HTI := hide hTI
  have HB0 : Hid (∀ X Y, Below w.heap.size w ((w.alloc X).alloc Y)) := fun X Y => ((Below.refl _ _).alloc (Nat.le_refl _) X).alloc (by simp) Y
  have HX0 : Hid (∀ cs ds, Bn ((w.alloc (.cells cs 27)).alloc (.cells ds 27)) w.heap.size cs) := fun cs ds => (Below.heap_alloc _ _ _ (by simp)).trans (heap_alloc_new w _)
  have HY0 : Hid (∀ cs ds, Bn ((w.alloc (.cells cs 27)).alloc (.cells ds 27)) (w.heap.size + 1) ds) := fun cs ds => new_two w _ _
  clear hl ht hTI
  go_enter Try.func22, Try.ntmps22
  go_upto_region 1 with fail
  obtain ⟨W0, hW0⟩ : ∃ W0, W0 = (w.alloc (.cells #[.int .i64 idx, .int .i64 kind, .slice la L.length lc, .bool shut, .int .i64 eng, .slice ta tab.length tc] 27)).alloc (.cells #[.int .i64 0, .int .i64 0, .slice none 0 0, .bool false, .int .i64 0, .slice none 0 0] 27) := ⟨_, rfl⟩
  have HBW : Hid (Below w.heap.size w W0) := hide (by rw [hW0]; exact HB0.out _ _)
  have HXW : Hid (Bn W0 w.heap.size #[.int .i64 idx, .int .i64 kind, .slice la L.length lc, .bool shut, .int .i64 eng, .slice ta tab.length tc]) := hide (by rw [hW0]; exact HX0.out _ _)
  have HYW : Hid (Bn W0 (w.heap.size + 1) #[.int .i64 0, .int .i64 0, .slice none 0 0, .bool false, .int .i64 0, .slice none 0 0]) := hide (by rw [hW0]; exact HY0.out _ _)
  have hs0 : W0.heap.size = w.heap.size + 2 := by rw [hW0]; simp
  rw [← hW0]
  clear hW0 HB0 HX0 HY0
  obtain ⟨p2, g2⟩ := HXW.out.cell 2
  obtain ⟨p5, g5⟩ := HXW.out.cell 5
  go_cut [] (fun wc => Hid (TakeIn w ⟨idx, ⟨kind, L, shut, eng⟩, tab⟩ wc))
  case first =>
    go_region_with
      (first
        | (go_at_call 27; refine (HCI.out _ (by first | exact HBW.out.drew | exact HBW.out)).mono ?_; rintro e W1 ⟨v1, rfl, ho1, hb1⟩; have hbk1 : Below W0.heap.size W0 W1 := (by first | exact ((Below.refl _ _).drew).trans hb1 | exact hb1); have HO1 := hide ho1; have HB1 := hide hbk1; obtain ⟨a1, c1, hv1⟩ : ∃ a c, v1 = .slice a L.length c := (by obtain ⟨a, c, h, -⟩ := ho1.rd HLI.out; exact ⟨a, c, h⟩); subst hv1; obtain ⟨q2, k2⟩ := (HXW.out.below hbk1 (Nat.le_refl _)).cell 2; obtain ⟨q5, k5⟩ := (HXW.out.below hbk1 (Nat.le_refl _)).cell 5; clear ho1 hb1 hbk1)
        | (go_at_call 46; refine (HCE.out _ (HBW.out.trans (HB1.out.mono HBW.out.size))).mono ?_; rintro e W2 ⟨v2, rfl, ho2, hb2⟩; have HO2 := hide ho2; have HB2 := hide (HB1.out.trans (hb2.mono HB1.out.size)); have HO12 := hide (HO1.out.below hb2 (Nat.le_refl _)); obtain ⟨a2, c2, hv2⟩ := ho2.shape; subst hv2; obtain ⟨r2, j2⟩ := (HXW.out.below HB2.out (Nat.le_refl _)).cell 2; obtain ⟨r5, j5⟩ := (HXW.out.below HB2.out (Nat.le_refl _)).cell 5; clear ho2 hb2))
    all_goals
      go_wp2_with fail
      go_meet
      exact hide (takeIn_make (HXW.out.below HB2.out (Nat.le_refl _)) (HYW.out.below HB2.out (Nat.le_refl _)) (HO12.out.mono (by first | omega | (show w.heap.size + 2 ≤ W0.heap.size; omega))) HLI.out (HO2.out.mono (by have := HB1.out.size; omega)) HTI.out hi hk he (HBW.out.trans (HB2.out.mono HBW.out.size)))
  case rest =>
    have HT0 := hcut
    clear hcut HBW HXW HYW hs0 p2 g2 p5 g5 HCI HCE HLI HTI W0 hk he hi
    go_wp2
    go_loopw [20] (fun vi wr => ∃ (q : Nat) (S : Snap), vi = .int .i64 (q : Int) ∧ q ≤ l.length ∧ Hid (TakeIn w S wr) ∧ Hid (TT = takeN S (l.drop q)) ∧ Hid (S.st.L.length ≤ 1000) ∧ Hid (S.tab.length ≤ 1000 + q)) (fun vi _ => l.length - (intOf vi).toNat)
    case atStart => exact ⟨0, _, rfl, Nat.zero_le _, HT0, HTT, hide hlim, hide (by omega)⟩
    case round =>
      clear HT0 HTT hlim hlim2
      obtain ⟨q, S, rfl, hq, hT, hTS, hSL, hST⟩ := hrel
      obtain ⟨sa, sc, ea, ec, hX, hY, hL, hLf, hE, hEI, hi, hk, he, hB⟩ := hT.out
      clear hT
      have HX := hide hX
      have HY := hide hY
      have HL := hide hL
      have HLF := hide hLf
      have HE := hide hE
      have HEI := hide hEI
      have HIK := hide (And.intro hi (And.intro hk he))
      have HB := hide hB
      have HLT := hide hY.lt
      obtain ⟨p0, g0⟩ := hX.cell 0
      obtain ⟨p1, g1⟩ := hX.cell 1
      obtain ⟨p2, g2⟩ := hX.cell 2
      obtain ⟨p3, g3⟩ := hX.cell 3
      obtain ⟨p4, g4⟩ := hX.cell 4
      obtain ⟨p5, g5⟩ := hX.cell 5
      obtain ⟨z0, y0⟩ := hY.cell 0
      obtain ⟨z1, y1⟩ := hY.cell 1
      obtain ⟨z2, y2⟩ := hY.cell 2
      obtain ⟨z3, y3⟩ := hY.cell 3
      obtain ⟨z4, y4⟩ := hY.cell 4
      obtain ⟨z5, y5⟩ := hY.cell 5
      clear hX hY hL hLf hE hEI hi hk he hB
      by_cases hlt : q < l.length
      case neg =>
        obtain rfl : q = l.length := by omega
        have HF : Hid (TT = (S, 0)) := hide (by rw [hTS.out, List.drop_length]; rfl)
        clear hTS
        have hne1 : ¬ (w.heap.size = w.heap.size + 1) := by omega
        go_wp2
        refine bodyPost_ret (v := .tuple #[.agg #[.int .i64 S.idx, .int .i64 S.st.kind, .slice sa S.st.L.length sc, .bool S.st.shut, .int .i64 S.st.eng, .slice ea S.tab.length ec], .int .i64 0]) (by simp [results, Try.results22, go_sem, z0, z1, z2, z3, z4, z5]) rfl ?_
        rw [HF.out]
        have hbt := butSix wr (w.heap.size + 1) (.int .i64 S.idx) (.int .i64 S.st.kind) (.slice sa S.st.L.length sc) (.bool S.st.shut) (.int .i64 S.st.eng) (.slice ea S.tab.length ec)
        exact ⟨_, _, rfl, HL.out.but hbt (.inr fun b h => by have := HLF.out b h; omega), HIK.out.2.1, HIK.out.2.2, (HE.out.rd HEI.out).but hbt (.inr fun b h => by have := HE.out.fresh b h; omega), HIK.out.1, .inr (fun b h => by have := HLF.out b h; omega), .inr ((HE.out.but hbt (by omega) (by omega)).mono (by omega)), belowSix HB.out _ (by omega) _ _ _ _ _ _⟩
      have hqi : (q : Int) < (l.length : Int) := by omega
      rcases HRA.out with h0 | ⟨c, off, rfl, hc⟩
      · rw [h0] at hlt; simp at hlt
      obtain ⟨c0, c1, c2, c3, c4, c5, c6⟩ := (hc q hlt).keep (HB.out.block c (hc q hlt).lt)
      have HTQ := hide (HTK.out S q hlt)
      rw [← hTS.out] at HTQ
      have HFR := hide (fun W => fitsR_any (l.getD q zeroR) W)
      have HRO : Hid (RecOk (l.getD q zeroR)) := hide (HROK.out _ (by rw [show l.getD q zeroR = l[q] by simp [List.getD, hlt]]; exact List.getElem_mem hlt))
      obtain ⟨r, hr⟩ : ∃ r, r = l.getD q zeroR := ⟨_, rfl⟩
      rw [← hr] at HTQ HFR HRO c0 c1 c2 c3 c4 c5 c6
      clear hr hc HTK HRA HROK hTS
      obtain ⟨bf, hbf⟩ : ∃ bf, bf = decide (FitsR r) := ⟨_, rfl⟩
      rw [← hbf] at HFR
      have HBF := hide hbf
      clear hbf
      have hsz := HLT.out
      clear p0 p1 p2 p3 p4 p5 g0 g1 g2 g3 g4 g5 z0 z1 z2 z3 z4 z5 y0 y1 y2 y3 y4 y5
      go_upto_region 5 with fail
      obtain ⟨W0, hW0⟩ : ∃ W0, W0 = wr.alloc (.cells (recC r) 64) := ⟨_, rfl⟩
      have HB0 : Hid (Below wr.heap.size wr W0) := hide (by rw [hW0]; exact (Below.refl _ _).alloc (Nat.le_refl _) _)
      have HR0 : Hid (Br W0 wr.heap.size (recC r)) := hide (by rw [hW0]; exact heap_alloc_new wr _)
      unfold recC at hW0
      rw [← hW0]
      clear hW0 c0 c1 c2 c3 c4 c5 c6
      unfold recC at HR0
      unfold recV at HFR
      obtain ⟨QB, hQB⟩ : ∃ QB, QB = wr.heap.size := ⟨_, rfl⟩
      have HX0 := hide (HX.out.below HB0.out (Nat.le_refl _))
      have HY0 := hide (HY.out.below HB0.out (Nat.le_refl _))
      have HBW0 := hide (HB.out.trans (HB0.out.mono HB.out.size))
      rw [← hQB] at HR0 ⊢
      obtain ⟨p0, g0⟩ := HX0.out.cell 0
      obtain ⟨k0, -⟩ := HR0.out.cell 0
      obtain ⟨k1, -⟩ := HR0.out.cell 1
      obtain ⟨k2, -⟩ := HR0.out.cell 2
      obtain ⟨k3, -⟩ := HR0.out.cell 3
      obtain ⟨k4, -⟩ := HR0.out.cell 4
      obtain ⟨k5, -⟩ := HR0.out.cell 5
      obtain ⟨k6, -⟩ := HR0.out.cell 6
      by_cases hix : r.idx = S.idx
      case neg =>
        have HF : Hid (TT = (zeroN, 15)) := hide (by rw [HTQ.out, if_pos hix])
        have hix' : (r.idx != S.idx) = true := by rw [bne_iff_ne]; exact hix
        obtain ⟨z0, y0⟩ := HY0.out.cell 0
        obtain ⟨z1, y1⟩ := HY0.out.cell 1
        obtain ⟨z2, y2⟩ := HY0.out.cell 2
        obtain ⟨z3, y3⟩ := HY0.out.cell 3
        obtain ⟨z4, y4⟩ := HY0.out.cell 4
        obtain ⟨z5, y5⟩ := HY0.out.cell 5
        clear hix HTQ hQB
        go_wp2
        refine bodyPost_ret (v := .tuple #[.agg #[.int .i64 0, .int .i64 0, .slice none 0 0, .bool false, .int .i64 0, .slice none 0 0], .int .i64 15]) (by simp [results, Try.results22, go_sem, z0, z1, z2, z3, z4, z5]) rfl ?_
        rw [HF.out]
        exact TakenN.zero _ _ _ _ (belowSixE HBW0.out _ (by omega) _ _ _ _ _ _)
      have hix' : (r.idx != S.idx) = false := by rw [bne_eq_false_iff_eq]; exact hix
      have HIX := hide hix
      have HQB := hide hQB
      clear hix hQB
      go_wp2_with fail
      refine (HFR.out _).mono ?_
      rintro x W1 ⟨rfl, hb1⟩
      have HB1 := hide (HB0.out.trans (hb1.mono HB0.out.size))
      have HBW1 := hide (HBW0.out.trans (hb1.mono HBW0.out.size))
      have HX1 := hide (HX0.out.below hb1 (Nat.le_refl _))
      have HY1 := hide (HY0.out.below hb1 (Nat.le_refl _))
      have HR1 := hide (HR0.out.below hb1 (Nat.le_refl _))
      clear hb1 HB0 HBW0 HX0 HY0 HR0 HFR p0 g0 k0 k1 k2 k3 k4 k5 k6
      cases bf with
      | false =>
        have HF : Hid (TT = (zeroN, 1)) := hide (by rw [HTQ.out, if_neg (by rw [HIX.out]; simp), if_pos (of_decide_eq_false HBF.out.symm)])
        obtain ⟨z0, y0⟩ := HY1.out.cell 0
        obtain ⟨z1, y1⟩ := HY1.out.cell 1
        obtain ⟨z2, y2⟩ := HY1.out.cell 2
        obtain ⟨z3, y3⟩ := HY1.out.cell 3
        obtain ⟨z4, y4⟩ := HY1.out.cell 4
        obtain ⟨z5, y5⟩ := HY1.out.cell 5
        clear HTQ
        go_wp2
        refine bodyPost_ret (v := .tuple #[.agg #[.int .i64 0, .int .i64 0, .slice none 0 0, .bool false, .int .i64 0, .slice none 0 0], .int .i64 1]) (by simp [results, Try.results22, go_sem, z0, z1, z2, z3, z4, z5]) rfl ?_
        rw [HF.out]
        exact TakenN.zero _ _ _ _ (belowSixE HBW1.out _ (by omega) _ _ _ _ _ _)
      | true =>
        have HFT : Hid (FitsR r) := hide (of_decide_eq_true HBF.out.symm)
        have HF : Hid (TT = takeN (nextN S r) (l.drop (q + 1))) := hide (by rw [HTQ.out, if_neg (by rw [HIX.out]; simp), if_neg (fun h => h HFT.out)])
        have HSTEP := hide (step_any (.agg #[.int .i64 S.st.kind, .slice sa S.st.L.length sc, .bool S.st.shut, .int .i64 S.st.eng]) S.st r.op W1 ⟨_, rfl, HL.out.below HB1.out (Nat.le_refl _), HIK.out.2.1, HIK.out.2.2⟩ (by have := hSL.out; omega))
        rw [lval_agg] at HSTEP
        have HSF := hide (stepO_few r.op hSL.out)
        have HSR := hide (stepO_resp S.st r.op)
        have HNX : Hid (nextN S r = ⟨S.idx + 1, (stepO S.st r.op).1, noteL S.tab ⟨r.proc, r.seq, (stepO S.st r.op).2⟩⟩) := hide rfl
        have HNT := hide (noteL_len S.tab ⟨r.proc, r.seq, (stepO S.st r.op).2⟩)
        obtain ⟨so, hso⟩ : ∃ so, so = stepO S.st r.op := ⟨_, rfl⟩
        rw [← hso] at HSTEP HSF HSR HNX HNT
        clear hso HTQ HBF
        obtain ⟨⟨k', L', sh', g'⟩, n'⟩ := so
        dsimp only at HSTEP HSF HSR HNX HNT
        unfold opV at HSTEP
        unfold Stepped at HSTEP
        dsimp only at HSTEP
        obtain ⟨p1, g1⟩ := HX1.out.cell 1
        obtain ⟨p2, g2⟩ := HX1.out.cell 2
        obtain ⟨p3, g3⟩ := HX1.out.cell 3
        obtain ⟨p4, g4⟩ := HX1.out.cell 4
        obtain ⟨k3, -⟩ := HR1.out.cell 3
        obtain ⟨k4, -⟩ := HR1.out.cell 4
        obtain ⟨k5, -⟩ := HR1.out.cell 5
        go_wp2_with fail
        refine HSTEP.out.mono ?_
        rintro x W2 ⟨v2, rfl, hl2, hk2, he2, hf2, hb2⟩
        clear HSTEP p1 g1 p2 g2 p3 g3 p4 g4 k3 k4 k5
        have HX2 := hide (HX1.out.below hb2 (Nat.le_refl _))
        have HY2 := hide (HY1.out.below hb2 (Nat.le_refl _))
        have HR2 := hide (HR1.out.below hb2 (Nat.le_refl _))
        have HBW2 := hide (HBW1.out.trans (hb2.mono HBW1.out.size))
        have HE2 := hide ((HE.out.below HB1.out (Nat.le_refl _)).below hb2 (Nat.le_refl _))
        obtain ⟨a2, n2, hv2⟩ : ∃ a c, v2 = .slice a L'.length c := by obtain ⟨a, c, h, -⟩ := hl2; exact ⟨a, c, h⟩
        subst hv2
        have hQs : QB < W1.heap.size := HR1.out.lt
        have HFB : Hid (L' = [] ∨ ∀ b, (Value.slice a2 L'.length n2).ownBlock = some b → b ≠ w.heap.size ∧ b ≠ QB) := hide (by
          rcases hf2 with ⟨h1, h2⟩ | h
          · rw [h1, h2]
            rcases HL.out.old with h3 | h3
            · exact .inl h3
            · exact .inr fun b hb => by
                have h4 := h3 b hb
                have h5 := HLF.out b hb
                have h6 := HQB.out
                omega
          · exact .inr fun b hb => by
              have h4 := h b hb
              have h5 := HY1.out.lt
              omega)
        have HFF : Hid (∀ b, (Value.slice a2 L'.length n2).ownBlock = some b → w.heap.size + 2 ≤ b) := hide (fun b hb => by
          rcases hf2 with ⟨h1, h2⟩ | h
          · rw [h1] at hb
            exact HLF.out b hb
          · have h4 := h b hb
            have h5 := HY1.out.lt
            omega)
        have HEB : Hid (∀ b, (Value.slice ea S.tab.length ec).ownBlock = some b → b ≠ w.heap.size ∧ b ≠ QB) := hide (fun b hb => by
          have h1 := World.ownsRow.lt HE.out b hb
          have h2 := HQB.out
          omega)
        have hne : w.heap.size ≠ QB := by have := HQB.out; omega
        have hne2 : QB ≠ w.heap.size := fun h => hne h.symm
        have hne3 : w.heap.size + 1 ≠ QB := by have := HQB.out; omega
        have HL2 := hide hl2
        have HKE := hide (And.intro hk2 he2)
        clear hl2 hk2 he2 hf2 hb2
        obtain ⟨W4, hW4⟩ : ∃ W4, W4 = stepped W2 w.heap.size QB k' (.slice a2 L'.length n2) sh' g' n' := ⟨_, rfl⟩
        have HX4 : Hid (Bn W4 w.heap.size #[.int .i64 S.idx, .int .i64 k', .slice a2 L'.length n2, .bool sh', .int .i64 g', .slice ea S.tab.length ec]) := hide (by rw [hW4]; exact bn_stepped hne HX2.out _ _ _ _ _)
        have HR4 : Hid (Br W4 QB #[.int .i64 r.idx, .int .i64 r.proc, .int .i64 r.seq, .int .i64 r.op.code, .int .i64 r.op.a, .int .i64 r.op.b, .int .i64 n']) := hide (by rw [hW4]; exact br_stepped hne2 HR2.out _ _ _ _ _)
        have HY4 : Hid (Bn W4 (w.heap.size + 1) #[.int .i64 0, .int .i64 0, .slice none 0 0, .bool false, .int .i64 0, .slice none 0 0]) := hide (by rw [hW4]; exact bnc_stepped (by omega) hne3 HY2.out _ _ _ _ _)
        have HBT : Hid (But w.heap.size QB W2 W4) := hide (by rw [hW4]; exact but_stepped _ _ _ _ _ _ _ _)
        have HL4 := hide (HL2.out.but HBT.out HFB.out)
        have HE4 := hide (HE2.out.butN HBT.out HEB.out)
        have HBW4 := hide (below_but HBW2.out HBT.out HBW2.out.size (Nat.le_refl _) (by have := HQB.out; omega))
        have HNOTE := hide (noteN_any (.slice ea S.tab.length ec) S.tab ⟨r.idx, r.proc, r.seq, r.op, n'⟩ W4 (HE4.out.rd HEI.out) ⟨HRO.out.1, HRO.out.2.1, HRO.out.2.2.1, HRO.out.2.2.2.1, HSR.out⟩ (by have := hST.out; omega))
        unfold recV at HNOTE
        dsimp only at HNOTE
        have hW4' := hW4
        unfold stepped at hW4'
        have s1 := (HX2.out.cell 1)
        have s2 := (HX2.out.cell 2)
        have s3 := (HX2.out.cell 3)
        have s4 := (HX2.out.cell 4)
        have s5 := (HX2.out.cell 5)
        obtain ⟨s1, u1⟩ := s1
        obtain ⟨s2, u2⟩ := s2
        obtain ⟨s3, u3⟩ := s3
        obtain ⟨s4, u4⟩ := s4
        obtain ⟨s5, u5⟩ := s5
        obtain ⟨t0, m0⟩ := HR2.out.cell 0
        obtain ⟨t1, m1⟩ := HR2.out.cell 1
        obtain ⟨t2, m2⟩ := HR2.out.cell 2
        obtain ⟨t3, m3⟩ := HR2.out.cell 3
        obtain ⟨t4, m4⟩ := HR2.out.cell 4
        obtain ⟨t5, m5⟩ := HR2.out.cell 5
        obtain ⟨t6, m6⟩ := HR2.out.cell 6
        clear hW4
        go_wp2_with fail
        rw [← hW4']
        refine HNOTE.out.mono ?_
        rintro x W5 ⟨v5, rfl, ho5, hb5⟩
        clear hW4' s1 s2 s3 s4 s5 u1 u2 u3 u4 u5 t0 t1 t2 t3 t4 t5 t6 m0 m1 m2 m3 m4 m5 m6 HNOTE
        have HX5 := hide (HX4.out.below hb5 (Nat.le_refl _))
        have HY5 := hide (HY4.out.below hb5 (Nat.le_refl _))
        have HL5 := hide (HL4.out.below hb5 (Nat.le_refl _))
        have HBW5 := hide (HBW4.out.trans (hb5.mono HBW4.out.size))
        have HE5 := hide (ho5.mono (B' := w.heap.size + 2) (by have := HY4.out.lt; omega))
        obtain ⟨a5, c5, hv5⟩ := ho5.shape
        subst hv5
        have HEI5 : Hid (∀ e ∈ noteL S.tab ⟨r.proc, r.seq, n'⟩, EntI e) := hide (fun e he => by
          unfold noteL at he
          rcases (noteG_mem _ _ _ _).1 he with ⟨-, h⟩ | ⟨h, -⟩
          · rw [h]
            exact ⟨HRO.out.2.1, HRO.out.2.2.1, HSR.out⟩
          · exact HEI.out e h)
        have HI5 : Hid (I64 (S.idx + 1)) := hide (by
          have h1 := HFT.out
          unfold FitsR at h1
          have h2 := HIX.out
          exact ⟨by omega, by omega⟩)
        have hw5 : IntKind.i64.wrap (S.idx + 1) = S.idx + 1 := by
          have := HI5.out
          rw [IntKind.wrap_i64]
          obtain ⟨h1, h2⟩ := this
          omega
        obtain ⟨p0, g0⟩ := HX5.out.cell 0
        obtain ⟨p5, g5⟩ := HX5.out.cell 5
        clear ho5 hb5
        have hb0 : -9223372036854775808 ≤ S.idx + 1 ∧ S.idx + 1 ≤ 9223372036854775807 := HI5.out
        obtain ⟨hb0, hb1⟩ := hb0
        go_wp2
        go_roundw
        case rel =>
          exact ⟨q + 1, nextN S r, by go_num, by omega, hide (by rw [HNX.out]; exact takeIn_next HX5.out HY5.out HL5.out HFF.out HE5.out HEI5.out HI5.out HKE.out.1 HKE.out.2 HBW5.out), HF, hide (by rw [HNX.out]; exact HSF.out), hide (by rw [HNX.out]; have := HNT.out; have := hST.out; show (noteL S.tab ⟨r.proc, r.seq, n'⟩).length ≤ _; omega)⟩
        case measure => simp [intOf]; omega

end Go.Proofs.Ytgpdbboieokldaa

