/- Proved: for all states, numbers and operations the law ObjsSeals answers true (and the call leaves all older memory as it was). No condition. -/
import Derived.Test.YtclankoffcfkfabObjsInts
import Derived.Test.YtclankoffcfkfabObjsFold
import Derived.OpenShut
import Derived.ChangeOld
namespace Go.Proofs.Ytclankoffcfkfab.objsSeals
open Go.ChangeShapes Go.WideShapes Go.ChangeAt Go.RowKit

theorem fold_shut {s : St} (h : MayS s) (hs : s.shut = true) : ∀ l : List Opn, foldO s l = (s, List.replicate l.length (-1125899906842624))
  | [] => rfl
  | o :: r => by
    rw [foldO, stepO_shut h hs]
    simp only
    rw [fold_shut h hs r]
    rfl

set_option maxRecDepth 100000 in
set_option maxHeartbeats 4000000 in
theorem walk (v : Value) (s : St) (to' : Int) (vo : Value) (ops : List Opn) (w : World) (hs : StV w v s) (hto : (Lit.int .i64 to').wf = true) (ho : RdO w vo ops) :
    Calls Try.prog 4 #[v, .int .i64 to', vo] w fun e w' => e = .returned (.bool true) ∧ Below w.heap.size w w' := by
  have HA := hide' (fun w => awakeO_any w)
  have HFW := hide' (fun w h => few_any v s w h)
  have HMY := hide' (fun w h => may_any v s w h)
  have HTO := hide' (i64_of_wf hto)
  have HSV := hide' hs
  have HRO := hide' ho
  obtain ⟨vl, rfl, hr, hki, hei⟩ := hs
  have HR := hide' hr
  obtain ⟨ao, cap, rfl, -⟩ := hr
  obtain ⟨oa, ocap, rfl, hoc, hocm, -⟩ := ho
  have hol : (ops.length : Int) ≤ 9223372036854775807 := by unfold maxLen at hocm; omega
  have H1 : Hid (∀ x, Below w.heap.size w (w.alloc x)) := fun x => (Below.refl _ _).alloc (Nat.le_refl _) x
  have S1 : Hid (∀ x, (w.alloc x).heap.size = w.heap.size + 1) := fun x => by simp
  have X1 : Hid (∀ cs, Bx (w.alloc (.cells cs 25)) w.heap.size cs) := fun cs => heap_alloc_new w _
  have HST := hide' (fun w1 v1 o1 (h : StV w1 v1 s) hl => step_any v1 s o1 w1 h hl)
  have HFO : Hid (ops.length ≤ 1000 → ∀ w1 v1 s1 v2, StV w1 v1 s1 → RdO w1 v2 ops → s1.L.length ≤ 1000000 → Calls Try.prog 10 #[v1, v2] w1 fun e w' => Folded w1 (foldO s1 ops) e w') := fun hl w1 v1 s1 v2 h h2 h3 => fold_any v1 s1 v2 ops w1 h h2 hl h3
  have HSM := hide' (fun w1 va a vb b h1 h2 => sameS_any va a vb b w1 h1 h2)
  have HIN := hide' (fun w1 va a vb b h1 h2 => ints_any va a vb b w1 h1 h2)
  obtain ⟨kind, l, shut, g⟩ := s
  simp only at *
  have HKI := hide' hki
  have HEI := hide' hei
  clear hki hei hocm hoc hto
  go_enter Try.func4, Try.ntmps4
  go_wp2_with fail
  refine (HA.out _).mono ?_
  rintro e w1 ⟨rfl, hb1⟩
  have hs1 := hb1.size
  rw [S1.out] at hs1
  have HX1 := hide' ((X1.out _).below hb1 (Nat.le_refl _))
  have HB1 := hide' ((H1.out _).trans (hb1.mono (by rw [S1.out]; omega)))
  clear hb1 HA X1
  obtain ⟨q0, q0'⟩ := HX1.out.cell 0
  obtain ⟨q1, q1'⟩ := HX1.out.cell 1
  obtain ⟨q2, q2'⟩ := HX1.out.cell 2
  obtain ⟨q3, q3'⟩ := HX1.out.cell 3
  go_wp2_with fail
  refine (HFW.out _ (HSV.out.below HB1.out (Nat.le_refl _))).mono ?_
  rintro e w2 ⟨rfl, hb2⟩
  have hs2 := hb2.size
  have HY1 := hide' (HX1.out.below hb2 (Nat.le_refl _))
  have HB2 := hide' (HB1.out.trans (hb2.mono HB1.out.size))
  clear hb2 HX1 q0 q1 q2 q3 q0' q1' q2' q3'
  obtain ⟨q0, q0'⟩ := HY1.out.cell 0
  obtain ⟨q1, q1'⟩ := HY1.out.cell 1
  obtain ⟨q2, q2'⟩ := HY1.out.cell 2
  obtain ⟨q3, q3'⟩ := HY1.out.cell 3
  by_cases hl : (l.length : Int) ≤ 300
  · rw [decide_eq_true hl]
    cases shut with
    | true =>
      go_wp2
      go_ret
      exact ⟨rfl, HB2.out⟩
    | false =>
      by_cases ht0 : 0 ≤ to'
      · by_cases ht2 : to' ≤ 2
        · by_cases ho2 : (ops.length : Int) ≤ 200
          · have hlo : ops.length ≤ 1000 := by omega
            have HFO' := hide' (HFO.out hlo)
            clear HFO hlo
            go_wp2_with fail
            refine (HMY.out _ (HSV.out.below HB2.out (Nat.le_refl _))).mono ?_
            rintro e w3 ⟨rfl, hb3⟩
            have hs3 := hb3.size
            have HZ1 := hide' (HY1.out.below hb3 (Nat.le_refl _))
            have HB3 := hide' (HB2.out.trans (hb3.mono HB2.out.size))
            clear hb3 HY1 q0 q1 q2 q3 q0' q1' q2' q3' HMY HFW
            by_cases hm : MayS ⟨kind, l, false, g⟩
            · rw [decide_eq_true hm]
              have HSEAL : Hid (stepO ⟨kind, l, false, g⟩ ⟨10, to', 0⟩ = (⟨kind, l, true, to'⟩, 0)) := hide' (by
                rw [stepO_seal hm rfl _ rfl, if_pos ⟨ht0, ht2⟩])
              have HM2 : Hid (MayS ⟨kind, l, true, to'⟩) := by
                have h := stepO_may hm ⟨10, to', 0⟩
                rw [HSEAL.out] at h
                exact h
              have HFE := hide' (fold_shut HM2.out rfl ops)
              have HSTP : Hid (∀ W, Below w.heap.size w W → Calls Try.prog 7 #[.agg #[.int .i64 kind, .slice ao l.length cap, .bool false, .int .i64 g], .agg #[.int .i64 10, .int .i64 to', .int .i64 0]] W fun e w' => Stepped W (.slice ao l.length cap) l (⟨kind, l, true, to'⟩, 0) e w') := fun W hW => by
                have h := HST.out W (.agg #[.int .i64 kind, .slice ao l.length cap, .bool false, .int .i64 g]) ⟨10, to', 0⟩ (HSV.out.below hW (Nat.le_refl _)) (Nat.le_trans (may_len hm) (by decide))
                rw [HSEAL.out] at h
                exact h
              obtain ⟨q0, q0'⟩ := HZ1.out.cell 0
              obtain ⟨q1, q1'⟩ := HZ1.out.cell 1
              obtain ⟨q2, q2'⟩ := HZ1.out.cell 2
              obtain ⟨q3, q3'⟩ := HZ1.out.cell 3
              clear hm
              go_wp2_with fail
              refine (HSTP.out _ HB3.out).mono ?_
              intro e w4 h4
              obtain ⟨a4, c4, rfl, hr4, hk4, hg4, hb4⟩ := h4.open
              have hs4 := hb4.size
              have HZ4 := hide' (HZ1.out.below hb4 (Nat.le_refl _))
              have HB4 := hide' (HB3.out.trans (hb4.mono HB3.out.size))
              have HR4 := hide' hr4
              clear h4 hr4 hk4 hg4 hb4 q0 q1 q2 q3 q0' q1' q2' q3' HZ1 HSTP
              have A4 : Hid (∀ X, Below w4.heap.size w4 (w4.alloc X)) := fun X => (Below.refl _ _).alloc (Nat.le_refl _) X
              go_wp2_with fail
              refine (HFO'.out _ _ ⟨kind, l, true, to'⟩ _ ⟨_, rfl, HR4.out.below (A4.out _) (Nat.le_refl _), HKI.out, HTO.out⟩ (HRO.out.below (HB4.out.alloc (by omega) _) (Nat.le_refl _)) (Nat.le_trans (may_len HM2.out) (by decide))).mono ?_
              intro e w5 h5
              rw [HFE.out] at h5
              obtain ⟨a5, c5, x5, y5, rfl, hr5, hk5, hg5, hx5, hb5⟩ := h5.open
              have hs5 : w4.heap.size + 1 ≤ w5.heap.size := by have h := hb5.size; simpa using h
              have hb5' : Below w4.heap.size w4 w5 := (A4.out _).trans (hb5.mono (by simp))
              have HT9 : Hid (Bx w5 w4.heap.size #[.int .i64 kind, .slice a4 l.length c4, .bool true, .int .i64 to']) := (hb5.block _ (by simp)).trans (heap_alloc_new w4 _)
              have HZ5 := hide' (HZ4.out.below hb5' (Nat.le_refl _))
              have HR45 := hide' (HR4.out.below hb5' (Nat.le_refl _))
              have HB5 := hide' (HB4.out.trans (hb5'.mono (by omega)))
              have HR5 := hide' hr5
              have HLO := hide' (show (List.replicate ops.length (-1125899906842624 : Int)).length = ops.length by simp)
              have HXO : Hid (∀ X j, j < ops.length → ∃ b off, x5 = some ⟨b, off, none⟩ ∧ (w5.alloc X).cell? ⟨b, off + j, none⟩ = some (.int .i64 (-1125899906842624))) := fun X j hj => by
                obtain ⟨xo, ycap, hv, _, _, _, _, h4⟩ := hx5
                simp only [Value.slice.injEq] at hv
                obtain ⟨rfl, _, rfl⟩ := hv
                rcases h4 with h4 | ⟨b, off, h5, h6⟩
                · have := congrArg List.length h4
                  rw [HLO.out, List.length_nil] at this
                  omega
                · refine ⟨b, off, h5, ?_⟩
                  have h := h6 j (by rw [HLO.out]; exact hj)
                  rw [((Below.refl w5.heap.size w5).alloc (Nat.le_refl _) X).cell (p := ⟨b, off + j, none⟩) (World.block_lt_of_cell? w5 ⟨b, off + j, none⟩ h), h]
                  simp [List.getD, hj]
              rw [HLO.out]
              clear h5 hr5 hk5 hg5 hb5 hb5' hx5 HZ4 HR4 HB4 A4
              obtain ⟨q0, q0'⟩ := HT9.out.cell 0
              obtain ⟨q1, q1'⟩ := HT9.out.cell 1
              obtain ⟨q2, q2'⟩ := HT9.out.cell 2
              obtain ⟨q3, q3'⟩ := HT9.out.cell 3
              have m2 : w4.heap.size < w5.heap.size := by omega
              have m0 : w.heap.size < w5.heap.size := by omega
              have A5 : Hid (∀ X, Below w5.heap.size w5 (w5.alloc X)) := fun X => (Below.refl _ _).alloc (Nat.le_refl _) X
              go_wp2
              go_loop [13] (fun i => ∃ k : Nat, i = .int .i64 (k : Int) ∧ k ≤ ops.length) (fun i => ops.length - (intOf i).toNat)
              case atStart => exact ⟨0, rfl, Nat.zero_le _⟩
              case round =>
                obtain ⟨k, rfl, hkl⟩ := hrel
                by_cases hlt : k < ops.length
                · obtain ⟨b, off, rfl, _⟩ := HXO.out (.cells #[] 0) k hlt
                  have hcell : ∀ X, (w5.alloc X).cell? ⟨b, off + k, none⟩ = some (.int .i64 (-1125899906842624)) := fun X => by
                    obtain ⟨b', off', he, hc⟩ := HXO.out X k hlt
                    injection he with he
                    injection he with e1 e2 e3
                    subst e1 e2
                    exact hc
                  go_wp2
                  go_round
                  case rel => exact ⟨k + 1, by go_num, by omega⟩
                  case measure => simp [intOf]; omega
                · obtain ⟨t1, t1'⟩ := HZ5.out.cell 1
                  go_wp2_with fail
                  refine (HIN.out _ _ l _ l (HR45.out.below (A5.out _) (Nat.le_refl _)) (HR.out.below (HB5.out.alloc (by omega) _) (Nat.le_refl _))).mono ?_
                  rintro e w6 ⟨rfl, hb6⟩
                  rw [decide_eq_true rfl]
                  have hs6 : w5.heap.size + 1 ≤ w6.heap.size := by have h := hb6.size; simpa using h
                  have hb6' : Below w5.heap.size w5 w6 := (A5.out _).trans (hb6.mono (by simp))
                  have HT6 := hide' (HT9.out.below hb6' (Nat.le_refl _))
                  have HU6 : Hid (Bx w6 w5.heap.size #[.int .i64 kind, .slice a5 l.length c5, .bool true, .int .i64 to']) := (hb6.block _ (by simp)).trans (heap_alloc_new w5 _)
                  have HRA := hide' (HR45.out.below hb6' (Nat.le_refl _))
                  have HRB := hide' (HR5.out.below hb6' (Nat.le_refl _))
                  have HB6 := hide' (HB5.out.trans (hb6'.mono (by omega)))
                  clear hb6 hb6' q0 q1 q2 q3 q0' q1' q2' q3' t1 t1' HR45 HR5 HT9 HZ5 HB5 A5
                  obtain ⟨q0, q0'⟩ := HT6.out.cell 0
                  obtain ⟨q1, q1'⟩ := HT6.out.cell 1
                  obtain ⟨q2, q2'⟩ := HT6.out.cell 2
                  obtain ⟨q3, q3'⟩ := HT6.out.cell 3
                  obtain ⟨u0, u0'⟩ := HU6.out.cell 0
                  obtain ⟨u1, u1'⟩ := HU6.out.cell 1
                  obtain ⟨u2, u2'⟩ := HU6.out.cell 2
                  obtain ⟨u3, u3'⟩ := HU6.out.cell 3
                  go_wp2_with fail
                  refine (HSM.out _ _ ⟨kind, l, true, to'⟩ _ ⟨kind, l, true, to'⟩ ⟨_, rfl, HRA.out, HKI.out, HTO.out⟩ ⟨_, rfl, HRB.out, HKI.out, HTO.out⟩).mono ?_
                  rintro e w7 ⟨rfl, hb7⟩
                  rw [decide_eq_true (sameS_refl _)]
                  have HB7 := hide' (HB6.out.trans (hb7.mono HB6.out.size))
                  clear hb7
                  go_wp2
                  go_ret
                  exact ⟨rfl, HB7.out⟩
            · rw [decide_eq_false hm]
              go_wp2
              go_ret
              exact ⟨rfl, HB3.out⟩
          · go_wp2
            go_ret
            exact ⟨rfl, HB2.out⟩
        · go_wp2
          go_ret
          exact ⟨rfl, HB2.out⟩
      · go_wp2
        go_ret
        exact ⟨rfl, HB2.out⟩
  · rw [decide_eq_false hl]
    go_wp2
    go_ret
    exact ⟨rfl, HB2.out⟩

theorem own : ownKnob Try.prog.godebug = none := by kernel_rfl
theorem laidOut : laidOutB Try.prog = true := by kernel_rfl

set_option linter.unusedVariables false in
set_option maxRecDepth 100000 in
theorem lifted (os : Os) (started : os.Started) (H : Type) (enc : TypeId × Value → H) :
    ReturnsInHanded {} Try.checked os 4 .any (Rows.objsSealsSpec.pre6 enc Try.prog Try.f4 Rows.objsSealsRow.domain false) (Rows.objsSealsSpec.post enc Try.prog Try.f4 false true false false) := by
  refine returnsInHanded_of_change (C := Try.checked) own started (by kernel_rfl) Try.func4
    (ChangeSpec.witness6 (enc := enc) (C := Try.checked) false ⟨#[], #[.agg #[.int .i64 0, .slice none 0 0, .bool false, .int .i64 0], .int .i64 0, .slice none 0 0], []⟩ 8 (by kernel_rfl) (by kernel_rfl) (by kernel_rfl) (by kernel_rfl)) ?_
  intro W base args ds gs before hval0 hW hcnd _
  have hval : ∀ (j : Nat) t v, Try.f4.params[j]? = some t → args[j]? = some v → Value.okWide Try.prog W .any base t v := hval0
  have hW' := hW
  obtain ⟨p, q, hA0, hV, rfl, hfz, hnd⟩ := hW
  have hA : DataW.TrodAll enc Try.prog W 0 (fun _ => true) true Try.f4.params.toList args.toList ds p := hA0
  rw [Try.params4] at hA hval
  obtain ⟨v0, vs0, d0, ds0, p0, q0, hargs, rfl, rfl, h0, r0⟩ := trodAll_cons hA
  obtain ⟨v1, vs1, d1, ds1, p1, q1, rfl, rfl, rfl, h1, r1⟩ := trodAll_cons r0
  obtain ⟨v2, vs2, d2, ds2, p2, q2, rfl, rfl, rfl, h2, r2⟩ := trodAll_cons r1
  obtain ⟨rfl, rfl, rfl⟩ := trodAll_nil r2
  obtain rfl : args = #[v0, v1, v2] := by cases args; simp_all
  obtain ⟨rfl, rfl⟩ := trodVars_none hV
  have k0 := h0
  have lt0 : ∀ x ∈ p0, x.block < W.heap.size := by obtain ⟨m, hm⟩ := k0; exact DataW.trod_lt m _ _ _ hm
  obtain ⟨s0, w0⟩ := open_state (hval 0 25 v0 rfl rfl) h0
  obtain ⟨a1, rfl, rfl, rfl, w1⟩ := open_int Try.underlying3 (hval 1 3 v1 rfl rfl) h1
  obtain ⟨a2, len2, cap2, rfl⟩ := okWide_slice Try.underlying32 (hval 2 32 v2 rfl rfl)
  have k2 := h2
  have lt2 : ∀ x ∈ p2, x.block < W.heap.size := by obtain ⟨m, hm⟩ := k2; exact DataW.trod_lt m _ _ _ hm
  obtain ⟨l2, w2⟩ : ∃ l, RdO W (.slice a2 len2 cap2) l := by
    obtain ⟨fuel, hf⟩ := h2
    obtain ⟨v, l, hcs, hr⟩ := open_ops hf
    simp [Value.cells] at hcs
    subst hcs
    exact ⟨l, hr⟩
  clear hA0 hval0
  refine (walk _ s0 a1 _ l2 W w0 w1 w2).mono fun e W' ⟨he, bel⟩ => ?_
  subst he
  exact ⟨_, rfl, _, _, _, [], _, [], hW', trodAll_mk1 (shut_bool Try.underlying4 _), (trodAll_cons_mk (Below.trod laidOut (by kernel_rfl) (of_decide_eq_true (by kernel_rfl)) k0 bel lt0) (trodAll_cons_mk (shut_int Try.underlying3 w1) (trodAll_cons_mk (Below.trod laidOut (by kernel_rfl) (of_decide_eq_true (by kernel_rfl)) k2 bel lt2) trodAll_mk0))), rfl, bel.frame _, fun h => by cases h⟩

theorem over : Rows.objsSealsRow.holds Try.pinned (OpenSpec.ofChange Rows.objsSealsSpec) :=
  OpenClaim.holds_of_wide 4 Try.f4 rfl rfl rfl rfl rfl rfl rfl ⟨rfl, rfl, rfl, rfl, rfl⟩ rfl rfl rfl rfl rfl (by kernel_rfl) Try.func4 (by kernel_rfl)
    (of_decide_eq_true (by kernel_rfl)) (by unfold Func.isWrapper; first | (rw [if_pos (by decide +kernel)]; kernel_rfl) | (rw [if_neg (by decide +kernel)]; exact ⟨rfl, rfl⟩))
    (fun os started H enc _ => lifted os started H enc)

end Go.Proofs.Ytclankoffcfkfab.objsSeals
namespace Go.Proofs.Ytclankoffcfkfab

theorem objsSeals_holds : Rows.ObjsSealsSaid := objsSeals.over

end Go.Proofs.Ytclankoffcfkfab
