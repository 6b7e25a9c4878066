/- Proved: for all versions and segments the law SegmentBack answers true (and the call leaves all older memory as it was). Its condition: what schema's table holds, where the card lists it. -/
import Derived.Test.YtddhcohjmgdajaaDoorSegAwake
import Derived.Test.YtddhcohjmgdajaaDoorSegOwn
import Derived.Test.YtddhcohjmgdajaaDoorOpenSeg
import Derived.Test.YtddhcohjmgdajaaDoorSegSmall
import Derived.Deep.RegionHeld
import Derived.OpenShut
import Derived.ChangeOld
namespace Go.Proofs.YtddhcohjmgdajaaDoor.segmentBack
open Go.ChangeShapes Go.WideShapes Go.ChangeAt Go.RowKit

set_option maxRecDepth 100000 in
set_option maxHeartbeats 8000000 in
theorem walk (v : Int) (vs : Value) (s : Seg) (w : World) (_hv : (Lit.int .i64 v).wf = true) (hs : SgV w vs s) (ht : TabF w) :
    Calls Tryd.prog 4 #[.int .i64 v, vs] w fun e w' => e = .returned (.bool true) ∧ Below w.heap.size w w' := by
  have HA := hide (fun W (hb : Below w.heap.size w W) => awake8_any W (ht.below hb (Nat.le_refl _)))
  have HB0 : Hid (∀ X, Below w.heap.size w (w.alloc X)) := fun X => (Below.refl _ _).alloc (Nat.le_refl _) X
  have X1 : Hid (∀ cs, Bsg (w.alloc (.cells cs 24)) w.heap.size cs) := fun cs => heap_alloc_new w _
  have HSV := hide hs
  obtain ⟨vl, rfl, hr, -, -⟩ := hs
  obtain ⟨al, cl, rfl, -⟩ := hr
  by_cases hb : (s.recs.length : Int) ≤ 100
  case neg =>
    have hb' : 100 < (s.recs.length : Int) := by omega
    clear hb
    go_enter Tryd.func4, Tryd.ntmps4
    go_wp2_with fail
    refine (HA.out _ (HB0.out _)).mono ?_
    rintro e W1 ⟨rfl, hb1⟩
    have HX1 := hide ((X1.out _).below hb1 (Nat.le_refl _))
    have HB1 := hide ((HB0.out _).trans (hb1.mono (HB0.out _).size))
    obtain ⟨q2, -⟩ := HX1.out.cell 2
    clear hb1
    go_wp2
    go_ret
    exact ⟨rfl, HB1.out⟩
  have hb' : ¬ 100 < (s.recs.length : Int) := by omega
  have HEN := hide (fun W (hb : Below w.heap.size w W) => encodeG_any v _ s W (HSV.out.below hb (Nat.le_refl _)) (by omega) (ht.below hb (Nat.le_refl _)))
  unfold EncodedG at HEN
  rcases seg_cases v s with ⟨he, hl⟩ | ⟨n, rfl, hn1, hn3, hm, he, hl⟩
  · rw [hl] at HEN
    have he' : (segErr v s != 0) = true := by rw [bne_iff_ne]; exact he
    generalize segErr v s = er at *
    obtain ⟨kind, first, recs⟩ := s
    simp only at *
    clear he hl hb
    go_enter Tryd.func4, Tryd.ntmps4
    go_wp2_with fail
    refine (HA.out _ (HB0.out _)).mono ?_
    rintro e W1 ⟨rfl, hb1⟩
    have HX1 := hide ((X1.out _).below hb1 (Nat.le_refl _))
    have HB1 := hide ((HB0.out _).trans (hb1.mono (HB0.out _).size))
    obtain ⟨q0, -⟩ := HX1.out.cell 0
    obtain ⟨q1, -⟩ := HX1.out.cell 1
    obtain ⟨q2, -⟩ := HX1.out.cell 2
    clear hb1
    go_wp2_with fail
    refine (HEN.out _ HB1.out).mono ?_
    rintro e W2 ⟨v2, rfl, ho2, hb2⟩
    have HB2 := hide (HB1.out.trans (hb2.mono HB1.out.size))
    obtain ⟨a2, c2, rfl, -⟩ := ho2.rd
    clear ho2 hb2 q0 q1 q2
    go_wp2
    go_ret
    exact ⟨rfl, HB2.out⟩
  rw [he, hl] at HEN
  have hlen := encS8_len hn1 hn3 hm (by omega)
  have HDE := hide (fun v1 W (h : Rd W v1 (encS8 n s)) (hb : Below w.heap.size w W) => decodeG_any v1 _ W h (by omega) (ht.below hb (Nat.le_refl _)))
  unfold DecodedG at HDE
  rw [decS8_enc hn1 hn3 hm] at HDE
  simp only at HDE
  have HUP := hide (fun W (hb : Below w.heap.size w W) => refUpgradedG_any n hn1 hn3 _ s W (HSV.out.below hb (Nat.le_refl _)) (by omega))
  unfold UpgradedG at HUP
  have hi64 := upg_i64 (v := n) hm
  have HSA : Hid (∀ v1 v2 W, RdR W v1 (upgG n s).recs → RdR W v2 (upgG n s).recs → Calls Tryd.prog 15 #[.agg #[.int .i64 (upgG n s).kind, .int .i64 (upgG n s).first, v1], .agg #[.int .i64 (upgG n s).kind, .int .i64 (upgG n s).first, v2]] W fun e w' => e = .returned (.bool true) ∧ Below W.heap.size W w') := hide (fun v1 v2 W h1 h2 => by
    have h := refSameG_any _ (upgG n s) _ (upgG n s) W ⟨v1, rfl, h1, hi64⟩ ⟨v2, rfl, h2, hi64⟩
    rw [sameG_self] at h
    exact h)
  generalize encS8 n s = E at *
  generalize upgG n s = U at *
  obtain ⟨uk, uf, ul⟩ := U
  obtain ⟨kind, first, recs⟩ := s
  simp only at *
  clear he hl hb hlen hm hi64
  go_enter Tryd.func4, Tryd.ntmps4
  go_wp2_with fail
  refine (HA.out _ (HB0.out _)).mono ?_
  rintro e W1 ⟨rfl, hb1⟩
  have HX1 := hide ((X1.out _).below hb1 (Nat.le_refl _))
  have HB1 := hide ((HB0.out _).trans (hb1.mono (HB0.out _).size))
  obtain ⟨q0, -⟩ := HX1.out.cell 0
  obtain ⟨q1, -⟩ := HX1.out.cell 1
  obtain ⟨q2, -⟩ := HX1.out.cell 2
  clear hb1 HA X1 HB0
  go_wp2_with fail
  refine (HEN.out _ HB1.out).mono ?_
  rintro e W2 ⟨v2, rfl, ho2, hb2⟩
  have HO2 := hide ho2.rd
  have HX2 := hide (HX1.out.below hb2 (Nat.le_refl _))
  have HB2 := hide (HB1.out.trans (hb2.mono HB1.out.size))
  clear ho2 hb2 q0 q1 q2 HEN HX1 HB1
  go_wp2_with fail
  refine (HDE.out _ _ HO2.out HB2.out).mono ?_
  rintro e W3 ⟨v3, rfl, hr3, hb3⟩
  have HX3 := hide (HX2.out.below hb3 (Nat.le_refl _))
  have HB3 := hide (HB2.out.trans (hb3.mono HB2.out.size))
  have HR3 := hide hr3
  obtain ⟨a3, c3, rfl, -⟩ := id hr3
  clear hr3 hb3 HDE HX2 HB2 HO2
  obtain ⟨NA, hNA⟩ : ∃ N, N = W3.heap.size := ⟨_, rfl⟩
  obtain ⟨WA, hWA⟩ : ∃ V, V = W3.alloc (.cells #[.int .i64 uk, .int .i64 uf, .slice a3 ul.length c3] 24) := ⟨_, rfl⟩
  have hbA : Below W3.heap.size W3 WA := by rw [hWA]; exact (Below.refl _ _).alloc (Nat.le_refl _) _
  have HYA : Hid (Bsg WA NA #[.int .i64 uk, .int .i64 uf, .slice a3 ul.length c3]) := hide (by rw [hWA, hNA]; exact heap_alloc_new W3 _)
  have HXA := hide (HX3.out.below hbA (Nat.le_refl _))
  have HLA := hide (HR3.out.below hbA (Nat.le_refl _))
  have HBA := hide (HB3.out.trans (hbA.mono HB3.out.size))
  go_upto_region 8 with fail
  rw [← hWA, ← hNA]
  clear hWA hNA hbA HX3 HB3 HR3
  have HBD : Hid (Below WA.heap.size WA WA.drew) := hide ((Below.refl _ _).drew)
  have HBW : Hid (Below w.heap.size w WA.drew) := hide HBA.out.drew
  have HKA : Hid (∀ W, Below WA.heap.size WA W → W.cell? ⟨NA, 0, none⟩ = some (.int .i64 uk) ∧ W.cell? ⟨NA, 1, none⟩ = some (.int .i64 uf) ∧ W.cell? ⟨NA, 2, none⟩ = some (.slice a3 ul.length c3) ∧ W.cell? ⟨w.heap.size, 0, none⟩ = some (.int .i64 kind) ∧ W.cell? ⟨w.heap.size, 1, none⟩ = some (.int .i64 first) ∧ W.cell? ⟨w.heap.size, 2, none⟩ = some (.slice al recs.length cl)) := hide (fun W hb => by
    have h := HYA.out.below hb (Nat.le_refl _)
    have h' := HXA.out.below hb (Nat.le_refl _)
    exact ⟨(h.cell 0).1, (h.cell 1).1, (h.cell 2).1, (h'.cell 0).1, (h'.cell 1).1, (h'.cell 2).1⟩)
  have HK0 := hide (HKA.out _ HBD.out)
  go_cut [10] (fun x wc => x = .bool true ∧ Hid (Below w.heap.size w wc))
  case first =>
    go_region_held (fun w' => w'.cell? ⟨NA, 0, none⟩ = some (.int .i64 uk) ∧ w'.cell? ⟨NA, 1, none⟩ = some (.int .i64 uf) ∧ w'.cell? ⟨NA, 2, none⟩ = some (.slice a3 ul.length c3) ∧ w'.cell? ⟨w.heap.size, 0, none⟩ = some (.int .i64 kind) ∧ w'.cell? ⟨w.heap.size, 1, none⟩ = some (.int .i64 first) ∧ w'.cell? ⟨w.heap.size, 2, none⟩ = some (.slice al recs.length cl)) (first | exact HK0.out | exact HK5.out | exact HK6.out)
      (first
        | (go_at_call 16; refine (HUP.out WA.drew HBW.out).mono ?_; rintro e W5 ⟨v5, rfl, hr5, hb5⟩; have HB5 := hide (HBD.out.trans hb5); have HK5 := hide (HKA.out W5 HB5.out); have HL5 := hide hr5; have HLA5 := hide (HLA.out.below HB5.out (Nat.le_refl _)); obtain ⟨a5, c5, rfl, -⟩ := id hr5; clear hr5 hb5)
        | (go_at_call 15; refine (HSA.out _ _ W5 HLA5.out HL5.out).mono ?_; rintro e W6 ⟨rfl, hb6⟩; have HB6 := hide (HB5.out.trans (hb6.mono HB5.out.size)); have HK6 := hide (HKA.out W6 HB6.out); have HBB := hide (HBA.out.trans (HB6.out.mono HBA.out.size)); clear hb6))
    all_goals
      go_wp2_with fail
      go_meet
      exact ⟨rfl, HBB⟩
  case rest =>
    obtain ⟨rfl, HB7⟩ := hcut
    go_wp2
    go_ret
    exact ⟨rfl, HB7.out⟩

theorem own : ownKnob Tryd.prog.godebug = none := by kernel_rfl
theorem laidOut : laidOutB Tryd.prog = true := by kernel_rfl

set_option linter.unusedVariables false in
set_option maxRecDepth 100000 in
theorem lifted (os : Os) (started : os.Started) (H : Type) (enc : TypeId × Value → H) :
    ReturnsInHanded {} Tryd.checked os 4 .any (fun w args => (Rows.segmentBackSpec.pre enc Tryd.prog Tryd.f4 Rows.segmentBackRow.domain false w args ∧ laidMetH Tryd.prog Rows.segmentBackRow.laid w) ∧ sizedMet enc Tryd.prog Tryd.f4 (OpenSpec.ofChange Rows.segmentBackSpec) false w args) (Rows.segmentBackSpec.post enc Tryd.prog Tryd.f4 false true false false) := by
  refine returnsInHanded_of_change_and (C := Tryd.checked) (X := fun w _ => laidMetH Tryd.prog Rows.segmentBackRow.laid w) (fun _ _ _ hh h => h.of_heap hh) own started (by kernel_rfl) Tryd.func4
    (ChangeSpec.witness_shaped (enc := enc) (C := Tryd.checked) (os := os) (X := fun w _ => laidMetH Tryd.prog Rows.segmentBackRow.laid w) false (World.doorLaid Tryd.prog 400 os) #[.int .i64 0, .agg #[.int .i64 0, .int .i64 0, .slice none 0 0]] 8 rfl (World.shaped_of_RefB (by kernel_rfl) (by kernel_rfl)) (by kernel_rfl) (by kernel_rfl) (by kernel_rfl) (door_met os _)) ?_
  intro W base args ds gs before hval0 hW hcnd _ hL _
  have hval : ∀ (j : Nat) t v, Tryd.f4.params[j]? = some t → args[j]? = some v → Value.okWide Tryd.prog W .any base t v := hval0
  have hW' := hW
  obtain ⟨p, q, hA0, hV, rfl, hfz, hnd⟩ := hW
  have hA : DataW.TrodAll enc Tryd.prog W 0 (fun _ => true) true Tryd.f4.params.toList args.toList ds p := hA0
  rw [Tryd.params4] at hA hval
  obtain ⟨v0, vs0, d0, ds0, p0, q0, hargs, rfl, rfl, h0, r0⟩ := trodAll_cons hA
  obtain ⟨v1, vs1, d1, ds1, p1, q1, rfl, rfl, rfl, h1, r1⟩ := trodAll_cons r0
  obtain ⟨rfl, rfl, rfl⟩ := trodAll_nil r1
  obtain rfl : args = #[v0, v1] := by cases args; simp_all
  obtain ⟨rfl, rfl⟩ := trodVars_none hV
  obtain ⟨a0, rfl, rfl, rfl, w0⟩ := open_int Tryd.underlying3 (hval 0 3 v0 rfl rfl) h0
  have k1 := h1
  have lt1 : ∀ x ∈ p1, x.block < W.heap.size := by obtain ⟨m, hm⟩ := k1; exact DataW.trod_lt m _ _ _ hm
  obtain ⟨s1, w1⟩ := open_seg (hval 1 24 v1 rfl rfl) h1
  clear hA0 hval0
  refine (walk a0 _ s1 W w0 w1 (tabs hL)).mono fun e W' ⟨he, bel⟩ => ?_
  subst he
  exact ⟨_, rfl, _, _, _, [], _, [], hW', trodAll_mk1 (shut_bool Tryd.underlying4 _), (trodAll_cons_mk (shut_int Tryd.underlying3 w0) (trodAll_cons_mk (Below.trod laidOut (by kernel_rfl) (of_decide_eq_true (by kernel_rfl)) k1 bel lt1) trodAll_mk0)), rfl, bel.frame _, fun h => by cases h⟩

theorem over : Rows.segmentBackRow.holds Tryd.pinned (OpenSpec.ofChange Rows.segmentBackSpec) :=
  OpenClaim.holds_of_wide 4 Tryd.f4 rfl rfl rfl rfl rfl rfl rfl ⟨rfl, rfl, rfl, rfl, rfl⟩ rfl rfl rfl rfl rfl (by kernel_rfl) Tryd.func4 (by kernel_rfl)
    (of_decide_eq_true (by kernel_rfl)) (by unfold Func.isWrapper; first | (rw [if_pos (by decide +kernel)]; kernel_rfl) | (rw [if_neg (by decide +kernel)]; exact ⟨rfl, rfl⟩))
    (fun os started H enc _ => lifted os started H enc)

end Go.Proofs.YtddhcohjmgdajaaDoor.segmentBack
namespace Go.Proofs.YtddhcohjmgdajaaDoor

set_option maxRecDepth 100000 in
theorem segmentBack_holds : Rows.SegmentBackCardSaid :=
  Claim7.holds_tied_plain_at .later [] _ _ _ _ segmentBack.over (fun _ h => by cases h) (by kernel_rfl) (fun _ h => by cases h) segmentBack_row_tie rfl ⟨rfl, rfl⟩ (by kernel_rfl) rfl
    (fun f fn hf hfn => by
      obtain rfl : f = 4 := Option.some.inj ((show Tryd.prog.funcNamed "ferryman/ferrymanlaw08.SegmentBack" = some 4 by kernel_rfl).symm.trans hf) |>.symm
      obtain rfl : fn = Tryd.f4 := (Option.some.inj (Tryd.func4.symm.trans hfn)).symm
      exact ⟨by kernel_rfl, fun j t ht => by
        rw [Tryd.params4] at ht
        have hm : t ∈ [3, 24] := by simpa using Array.mem_of_getElem? ht
        have hall : ([3, 24].all fun u => !Tryd.prog.wantsStandIn u) = true := by kernel_rfl
        exact (show Tryd.prog.wantsStandIn t = false by simpa using List.all_eq_true.1 hall t hm)⟩)
    (by kernel_rfl)

end Go.Proofs.YtddhcohjmgdajaaDoor
