/- Contracts of objs: act, Step. -/
import Derived.Test.YtedfacbngefhnaaObjsActG
import Derived.Test.YtedfacbngefhnaaObjsMayD
import Derived.Test.YtedfacbngefhnaaObjsMayE
import Derived.Test.YtedfacbngefhnaaOpenObjs
namespace Go.Proofs.Ytedfacbngefhnaa
open Go.RowKit

/-- The numbers of a state that may be are numbers of 64 bits. -/
theorem may_i64 {s : St} (h : MayS s) : ∀ x ∈ s.L, I64 x := by
  have h0 := h.2.2.2.1
  have h6 := h.2.2.2.2.1
  have hn := h.2.2.2.2.2
  by_cases h4 : s.kind = 4
  · rw [h4, numsOk_4] at hn
    exact pairs_i64 (by decide) (by decide) hn.2
  · by_cases h5 : s.kind = 5
    · rw [h5, numsOk_5] at hn
      exact pairs_i64 (by decide) (by decide) hn.2
    · have hb := (inBounds_iff _).1 ((numsOk_list h4 h5).1 hn).2.2
      intro x hx
      have := hb x hx
      exact i64_small (by omega) (by omega)

theorem may_len {s : St} (h : MayS s) : s.L.length ≤ 128 := by
  have h0 := h.2.2.2.1
  have h6 := h.2.2.2.2.1
  have hn := h.2.2.2.2.2
  by_cases h4 : s.kind = 4
  · rw [h4, numsOk_4] at hn
    exact hn.1
  · by_cases h5 : s.kind = 5
    · rw [h5, numsOk_5] at hn
      exact hn.1
    · have := ((numsOk_list h4 h5).1 hn).1
      omega

theorem stepO_seal {s : St} (h : MayS s) (hs : s.shut = false) (o : Opn) (hc : o.code = 10) : stepO s o = (⟨s.kind, s.L, true, if 0 ≤ o.a ∧ o.a ≤ 2 then o.a else s.eng⟩, 0) := by
  unfold stepO
  rw [if_neg (fun e => e h), if_neg (by simp [hs]), if_pos hc]

theorem stepO_open {s : St} (h : MayS s) (hs : s.shut = false) (o : Opn) (hc : o.code ≠ 10) : stepO s o = if s.kind ≤ 1 then oneS s o else if s.kind ≤ 3 then listS s o else if s.kind = 4 then storeO s o else ledgerS s o := by
  unfold stepO
  rw [if_neg (fun e => e h), if_neg (by simp [hs]), if_neg hc]

theorem storeO_kind (s : St) (o : Opn) : (storeO s o).1.kind = s.kind ∧ (storeO s o).1.shut = s.shut ∧ (storeO s o).1.eng = s.eng := by
  rw [storeO_state]
  exact store_kind s o

/-- An answer that leaves kind, seal and engine. -/
theorem split_r {r : St × Int} {k g : Int} {s : Bool} (h : r.1.kind = k ∧ r.1.shut = s ∧ r.1.eng = g) : r = (⟨k, r.1.L, s, g⟩, r.2) := by
  obtain ⟨⟨k1, l1, s1, g1⟩, n1⟩ := r
  obtain ⟨h1, h2, h3⟩ := h
  simp only at h1 h2 h3
  rw [h1, h2, h3]

theorem act_any (s : St) (v : Value) (o : Opn) (B : Nat) (w : World) (ho : OwnI w B v s.L) (hB : B ≤ w.heap.size) (hm : MayS s) :
    Calls Try.prog 60 #[.agg #[.int .i64 s.kind, v, .bool s.shut, .int .i64 s.eng], opV o] w fun e w' => Did B w v (stepO s o) e w' := by
  obtain ⟨kind, l, shut, g⟩ := s
  cases shut with
  | true =>
    rw [stepO_shut hm rfl]
    exact actShut_any kind g l v o B w ho
  | false =>
    have h0 : 0 ≤ kind := hm.2.2.2.1
    have h6 : kind < 6 := hm.2.2.2.2.1
    have hn := hm.2.2.2.2.2
    obtain ⟨code, a, b⟩ := o
    by_cases hc : code = 10
    · rw [stepO_seal hm rfl _ hc]
      subst hc
      exact actSeal_any kind g a b l v B w ho
    · rw [stepO_open hm rfl _ hc]
      by_cases k1 : kind ≤ 1
      · rw [if_pos k1]
        obtain ⟨h1, h2, h3⟩ := nums1 hm k1
        exact actOne_any kind g (by omega) l v ⟨code, a, b⟩ hc B w ho h1 h2 h3
      · rw [if_neg k1]
        by_cases k3 : kind ≤ 3
        · rw [if_pos k3, split_r (list_kind ⟨kind, l, false, g⟩ ⟨code, a, b⟩)]
          exact actLine_any kind g (by omega) l _ _ v code a b hc B w ho (fun W h1 h2 => line_any kind (by omega) v l ⟨code, a, b⟩ false g B W h1 h2 (may_i64 hm) (nums2 hm k3)) hB
        · rw [if_neg k3]
          by_cases k4 : kind = 4
          · rw [if_pos k4, split_r (storeO_kind ⟨kind, l, false, g⟩ ⟨code, a, b⟩)]
            subst k4
            have hn' := (numsOk_4 l).1 hn
            exact actStore_any 4 g rfl l _ _ v code a b hc B w ho (fun W h1 h2 => storeO_any v l ⟨code, a, b⟩ false g B W h1 h2 hn'.2 hn'.1) hB
          · rw [if_neg k4, split_r (ledger_kind ⟨kind, l, false, g⟩ ⟨code, a, b⟩)]
            have k5 : kind = 5 := by omega
            subst k5
            have hn' := (numsOk_5 l).1 hn
            exact actLedger_any 5 g rfl l _ _ v code a b hc B w ho (fun W h1 h2 => ledgerO_any v l ⟨code, a, b⟩ false g B W h1 h2 hn'.2 hn'.1) hB

set_option maxRecDepth 100000 in
set_option maxHeartbeats 2000000 in
theorem step_any (v : Value) (s : St) (o : Opn) (w : World) (hs : StV w v s) (hlim : s.L.length ≤ 1000000) :
    Calls Try.prog 56 #[v, opV o] w fun e w' => Stepped w (lval v) s.L (stepO s o) e w' := by
  obtain ⟨vl, rfl, hr, hki, hei⟩ := hs
  rw [lval_agg]
  obtain ⟨kind, l, shut, g⟩ := s
  simp only at hr hki hei hlim ⊢
  have HI := hide' hr.i64
  have HOWN : Hid (∀ W, Below w.heap.size w W → Calls Try.prog 59 #[.agg #[.int .i64 kind, vl, .bool shut, .int .i64 g]] W fun e w' => ∃ vl', e = .returned (.agg #[.int .i64 kind, vl', .bool shut, .int .i64 g]) ∧ OwnI w' W.heap.size vl' l ∧ Below W.heap.size W w') := fun W h => ownS_any _ ⟨kind, l, shut, g⟩ W ⟨vl, rfl, hr.below h (Nat.le_refl _), hki, hei⟩ hlim
  have HMAY : Hid (∀ v1 W, RdI W v1 l → Calls Try.prog 24 #[.agg #[.int .i64 kind, v1, .bool shut, .int .i64 g]] W fun e w' => e = .returned (.bool (decide (MayS ⟨kind, l, shut, g⟩))) ∧ Below W.heap.size W w') := fun v1 W h => may_any _ ⟨kind, l, shut, g⟩ W ⟨v1, rfl, h, hki, hei⟩
  have HB3 : Hid (∀ x y z, Below w.heap.size w (((w.alloc x).alloc y).alloc z)) := fun x y z => (three_boxes w x y z).1
  have HZ3 : Hid (∀ x y z, (((w.alloc x).alloc y).alloc z).heap.size = w.heap.size + 1 + 1 + 1) := fun x y z => size3 w x y z
  have HKI := hide' hki
  have HEI := hide' hei
  obtain ⟨code, a, b⟩ := o
  clear hr hki hei hlim
  show Calls Try.prog _ #[_, .agg #[.int .i64 code, .int .i64 a, .int .i64 b]] w _
  by_cases hm : MayS ⟨kind, l, shut, g⟩
  · have HMT := hide' (decide_eq_true hm)
    have HACT : Hid (∀ v1 B W, OwnI W B v1 l → B ≤ W.heap.size → Calls Try.prog 60 #[.agg #[.int .i64 kind, v1, .bool shut, .int .i64 g], .agg #[.int .i64 code, .int .i64 a, .int .i64 b]] W fun e w' => Did B W v1 (stepO ⟨kind, l, shut, g⟩ ⟨code, a, b⟩) e w') := fun v1 B W h1 h2 => act_any ⟨kind, l, shut, g⟩ v1 ⟨code, a, b⟩ B W h1 h2 hm
    have hm' := stepO_may hm ⟨code, a, b⟩
    have HI' := hide' (may_i64 hm')
    have HKI' : Hid (I64 (stepO ⟨kind, l, shut, g⟩ ⟨code, a, b⟩).1.kind) := i64_small (by have := hm'.2.2.2.1; omega) (by have := hm'.2.2.2.2.1; omega)
    have HEI' : Hid (I64 (stepO ⟨kind, l, shut, g⟩ ⟨code, a, b⟩).1.eng) := i64_small (by have := hm'.1; omega) (by have := hm'.2.1; omega)
    obtain ⟨⟨⟨k', L', s', g'⟩, n'⟩, hr'⟩ : ∃ r, r = stepO ⟨kind, l, shut, g⟩ ⟨code, a, b⟩ := ⟨_, rfl⟩
    rw [← hr'] at HACT HI' HKI' HEI' ⊢
    clear hm hm' hr'
    go_enter Try.func56, Try.ntmps56
    go_wp2_with fail
    refine (HOWN.out _ (HB3.out _ _ _)).mono ?_
    rintro e W1 ⟨v1, rfl, ho1, hb1⟩
    rw [HZ3.out] at ho1
    have HX1 := hide' ((Boxes.made w _ _ _).below hb1 (by simp))
    have HB1 := hide' ((HB3.out _ _ _).trans (hb1.mono (HB3.out _ _ _).size))
    have HO1 := hide' ho1
    have hs1 := hb1.size
    rw [HZ3.out] at hs1
    obtain ⟨ao, cap, rfl⟩ := ho1.shape
    clear hb1 ho1
    go_wp2_with fail
    refine (HMAY.out _ _ ((HO1.out.alloc _).rd HI.out)).mono ?_
    rintro e W2 ⟨rfl, hb2⟩
    rw [HMT.out]
    have HB2 := hide' ((HB1.out.alloc HB1.out.size _).trans (hb2.mono (by have := HB1.out.size; simp; omega)))
    have HO2 := hide' ((HO1.out.alloc _).below hb2 (Nat.le_refl _))
    have hs2 := hb2.size
    have hx := (HX1.out.below ((Below.refl W1.heap.size W1).alloc (Nat.le_refl _) _) (by omega)).below hb2 (by simp; omega)
    have hbx := (hb2.block W1.heap.size (by simp)).trans (heap_alloc_new W1 _)
    have HX2 := hide' hx
    obtain ⟨p0, -⟩ := hx.o 0
    obtain ⟨p1, -⟩ := hx.o 1
    obtain ⟨p2, -⟩ := hx.o 2
    have q0 := cell_of_row W2 W1.heap.size 0 _ _ _ hbx
    have q1 := cell_of_row W2 W1.heap.size 1 _ _ _ hbx
    have q2 := cell_of_row W2 W1.heap.size 2 _ _ _ hbx
    have q3 := cell_of_row W2 W1.heap.size 3 _ _ _ hbx
    have hB2 : w.heap.size + 1 + 1 + 1 ≤ W2.heap.size := by simp at hs2; omega
    clear hb2 hx hbx HX1
    go_wp2_with fail
    refine (HACT.out _ _ _ HO2.out hB2).mono ?_
    rintro e W3 ⟨v3, rfl, ho3, hm3⟩
    have hb3 := hm3.below HO2.out hB2
    have hx := HX2.out.below hb3 (Nat.le_refl _)
    obtain ⟨r0, t0⟩ := hx.r 0
    obtain ⟨r1, t1⟩ := hx.r 1
    obtain ⟨r2, t2⟩ := hx.r 2
    obtain ⟨r3, t3⟩ := hx.r 3
    have HB3' := hide' (HB2.out.trans (hb3.mono (by omega)))
    have HO3 := hide' ho3
    obtain ⟨ao3, cap3, rfl⟩ := ho3.shape
    clear hb3 hm3 hx ho3
    go_wp2
    refine bodyPost_ret (v := .tuple #[.agg #[.int .i64 k', .slice ao3 L'.length cap3, .bool s', .int .i64 g'], .int .i64 n']) (by simp [results, Try.results56, go_sem, r0, r1, r2, r3]) rfl ?_
    refine Stepped.fresh ((HO3.out.four (w.heap.size + 1 + 1) (by omega) _ _ _ _).rd HI'.out) HKI'.out HEI'.out n' (fun b hb => ?_) (belowFour HB3'.out (w.heap.size + 1 + 1) (by omega) _ _ _ _)
    have := HO3.out.fresh b hb
    omega
  · have HMT := hide' (decide_eq_false hm)
    have HR := hide' (stepO_not hm ⟨code, a, b⟩)
    rw [HR.out]
    clear hm
    go_enter Try.func56, Try.ntmps56
    go_wp2_with fail
    refine (HOWN.out _ (HB3.out _ _ _)).mono ?_
    rintro e W1 ⟨v1, rfl, ho1, hb1⟩
    rw [HZ3.out] at ho1
    have HX1 := hide' ((Boxes.made w _ _ _).below hb1 (by simp))
    have HB1 := hide' ((HB3.out _ _ _).trans (hb1.mono (HB3.out _ _ _).size))
    have HO1 := hide' ho1
    have hs1 := hb1.size
    rw [HZ3.out] at hs1
    obtain ⟨ao, cap, rfl⟩ := ho1.shape
    clear hb1 ho1
    go_wp2_with fail
    refine (HMAY.out _ _ ((HO1.out.alloc _).rd HI.out)).mono ?_
    rintro e W2 ⟨rfl, hb2⟩
    rw [HMT.out]
    have HB2 := hide' ((HB1.out.alloc HB1.out.size _).trans (hb2.mono (by have := HB1.out.size; simp; omega)))
    have HO2 := hide' ((HO1.out.alloc _).below hb2 (Nat.le_refl _))
    have hx := (HX1.out.below ((Below.refl W1.heap.size W1).alloc (Nat.le_refl _) _) (by omega)).below hb2 (by simp; omega)
    have hbx := (hb2.block W1.heap.size (by simp)).trans (heap_alloc_new W1 _)
    obtain ⟨r0, t0⟩ := hx.r 0
    obtain ⟨r1, t1⟩ := hx.r 1
    obtain ⟨r2, t2⟩ := hx.r 2
    obtain ⟨r3, t3⟩ := hx.r 3
    have q0 := cell_of_row W2 W1.heap.size 0 _ _ _ hbx
    have q1 := cell_of_row W2 W1.heap.size 1 _ _ _ hbx
    have q2 := cell_of_row W2 W1.heap.size 2 _ _ _ hbx
    have q3 := cell_of_row W2 W1.heap.size 3 _ _ _ hbx
    clear hb2 hx hbx HX1
    go_wp2
    refine bodyPost_ret (v := .tuple #[.agg #[.int .i64 kind, .slice ao l.length cap, .bool shut, .int .i64 g], .int .i64 0]) (by simp [results, Try.results56, go_sem, r0, r1, r2, r3]) rfl ?_
    refine Stepped.fresh ((HO2.out.four (w.heap.size + 1 + 1) (by omega) _ _ _ _).rd HI.out) HKI.out HEI.out 0 (fun b hb => ?_) (belowFour HB2.out (w.heap.size + 1 + 1) (by omega) _ _ _ _)
    have := HO2.out.fresh b hb
    omega

/-- Step, where it is what the document's step is. -/
theorem step_plain (v : Value) (s : St) (o : Opn) (w : World) (hs : StV w v s) (hk : s.kind ≠ 4) (hlim : s.L.length ≤ 1000000) :
    Calls Try.prog 56 #[v, opV o] w fun e w' => Stepped w (lval v) s.L (stepS s o) e w' := by
  rw [← stepO_eq s o (.inl hk)]
  exact step_any v s o w hs hlim

end Go.Proofs.Ytedfacbngefhnaa
