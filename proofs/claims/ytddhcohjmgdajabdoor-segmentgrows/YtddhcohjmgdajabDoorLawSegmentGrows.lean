/- Proved: for all versions, segments and numbers of blocks the law SegmentGrows answers true (and the call leaves all older memory as it was). Its condition: what schema's table holds, where the card lists it. -/
import Derived.Test.YtddhcohjmgdajabDoorSegAwake
import Derived.Test.YtddhcohjmgdajabDoorSegRec
import Derived.Test.YtddhcohjmgdajabDoorOpenSeg
import Derived.Test.YtddhcohjmgdajabDoorSegGrow
import Derived.Deep.RegionHeld
import Derived.OpenShut
import Derived.ChangeOld
namespace Go.Proofs.YtddhcohjmgdajabDoor.segmentGrows
open Go.ChangeShapes Go.WideShapes Go.ChangeAt Go.RowKit

set_option maxRecDepth 100000 in
set_option maxHeartbeats 16000000 in
theorem walk (v : Int) (vs : Value) (s : Seg) (k : Int) (w : World) (_hv : (Lit.int .i64 v).wf = true) (hs : SgV w vs s) (_hc : (Lit.int .i64 k).wf = true) (ht : TabF w) :
    Calls Tryd.prog 3 #[.int .i64 v, vs, .int .i64 k] w fun e w' => e = .returned (.bool true) ∧ Below w.heap.size w w' := by
  have HA := hide (fun W (hb : Below w.heap.size w W) => awake8_any W (ht.below hb (Nat.le_refl _)))
  have HB0 : Hid (∀ X, Below w.heap.size w (w.alloc X)) := fun X => (Below.refl _ _).alloc (Nat.le_refl _) X
  have X1 : Hid (∀ cs, Bsg (w.alloc (.cells cs 24)) w.heap.size cs) := fun cs => heap_alloc_new w _
  have HSV := hide hs
  obtain ⟨vl, rfl, hr, -, -⟩ := hs
  have HRR := hide hr
  obtain ⟨al, cl, rfl, hcap, -⟩ := hr
  have HCAP := hide hcap
  clear hcap
  by_cases hb : (s.recs.length : Int) ≤ 100
  case neg =>
    have hb' : 100 < (s.recs.length : Int) := by omega
    clear hb
    go_enter Tryd.func3, Tryd.ntmps3
    go_wp2_with fail
    refine (HA.out _ (HB0.out _)).mono ?_
    rintro e W1 ⟨rfl, hb1⟩
    have HX1 := hide ((X1.out _).below hb1 (Nat.le_refl _))
    have HB1 := hide ((HB0.out _).trans (hb1.mono (HB0.out _).size))
    obtain ⟨q2, -⟩ := HX1.out.cell 2
    clear hb1
    go_wp2
    go_ret
    exact ⟨rfl, HB1.out⟩
  have hb' : ¬ 100 < (s.recs.length : Int) := by omega
  by_cases hk0 : k < 0
  · clear hb
    go_enter Tryd.func3, Tryd.ntmps3
    go_wp2_with fail
    refine (HA.out _ (HB0.out _)).mono ?_
    rintro e W1 ⟨rfl, hb1⟩
    have HX1 := hide ((X1.out _).below hb1 (Nat.le_refl _))
    have HB1 := hide ((HB0.out _).trans (hb1.mono (HB0.out _).size))
    obtain ⟨q2, -⟩ := HX1.out.cell 2
    clear hb1
    go_wp2
    go_ret
    exact ⟨rfl, HB1.out⟩
  by_cases hk1 : 10 < k
  · clear hb
    go_enter Tryd.func3, Tryd.ntmps3
    go_wp2_with fail
    refine (HA.out _ (HB0.out _)).mono ?_
    rintro e W1 ⟨rfl, hb1⟩
    have HX1 := hide ((X1.out _).below hb1 (Nat.le_refl _))
    have HB1 := hide ((HB0.out _).trans (hb1.mono (HB0.out _).size))
    obtain ⟨q2, -⟩ := HX1.out.cell 2
    clear hb1
    go_wp2
    go_ret
    exact ⟨rfl, HB1.out⟩
  have hk2 : 0 ≤ k ∧ k ≤ 10 := by omega
  by_cases hk3 : (s.recs.length : Int) < k * 16
  · clear hb
    go_enter Tryd.func3, Tryd.ntmps3
    go_wp2_with fail
    refine (HA.out _ (HB0.out _)).mono ?_
    rintro e W1 ⟨rfl, hb1⟩
    have HX1 := hide ((X1.out _).below hb1 (Nat.le_refl _))
    have HB1 := hide ((HB0.out _).trans (hb1.mono (HB0.out _).size))
    obtain ⟨q2, -⟩ := HX1.out.cell 2
    clear hb1
    go_wp2
    go_ret
    exact ⟨rfl, HB1.out⟩
  obtain ⟨m, rfl⟩ : ∃ m : Nat, k = (m : Int) := ⟨k.toNat, by omega⟩
  have hml : 16 * m ≤ s.recs.length := by omega
  have HCF : Hid (∀ W, Below w.heap.size w W → ∃ v', (Instr.sliceAt 22 (.slice al s.recs.length cl) none (some (.int .i64 ((m : Int) * 16))) none).run Tryd.prog W = .ok v' W ∧ RdR W v' (s.recs.take (16 * m))) := hide (fun W hb => by
    have h := run_cutR_h W _ s.recs (HRR.out.below hb (Nat.le_refl _)) .i64 ((m : Int) * 16) (by omega) (by omega)
    have e : ((m : Int) * 16).toNat = 16 * m := by omega
    rw [e] at h
    exact h)
  have HCB : Hid (∀ W, Below w.heap.size w W → ∃ v', (Instr.sliceAt 22 (.slice al s.recs.length cl) (some (.int .i64 ((m : Int) * 16))) none none).run Tryd.prog W = .ok v' W ∧ RdR W v' (s.recs.drop (16 * m))) := hide (fun W hb => by
    have h := run_cutR_l W _ s.recs (HRR.out.below hb (Nat.le_refl _)) .i64 ((m : Int) * 16) (by omega) (by omega)
    have e : ((m : Int) * 16).toNat = 16 * m := by omega
    rw [e] at h
    exact h)
  have HEN := hide (fun W (hb : Below w.heap.size w W) => encodeG_any v _ s W (HSV.out.below hb (Nat.le_refl _)) (by omega) (ht.below hb (Nat.le_refl _)))
  unfold EncodedG at HEN
  rcases seg_cases v s with ⟨he, hl⟩ | ⟨n, rfl, hn1, hn3, hm, he, hl⟩
  · rw [hl] at HEN
    have he' : (segErr v s != 0) = true := by rw [bne_iff_ne]; exact he
    generalize segErr v s = er at *
    obtain ⟨kind, first, recs⟩ := s
    simp only at *
    clear he hl hb hml HCF HCB
    go_enter Tryd.func3, Tryd.ntmps3
    go_wp2_with fail
    refine (HA.out _ (HB0.out _)).mono ?_
    rintro e W1 ⟨rfl, hb1⟩
    have HX1 := hide ((X1.out _).below hb1 (Nat.le_refl _))
    have HB1 := hide ((HB0.out _).trans (hb1.mono (HB0.out _).size))
    obtain ⟨q0, -⟩ := HX1.out.cell 0
    obtain ⟨q1, -⟩ := HX1.out.cell 1
    obtain ⟨q2, -⟩ := HX1.out.cell 2
    clear hb1
    go_wp2_with fail
    refine (HEN.out _ HB1.out).mono ?_
    rintro e W2 ⟨v2, rfl, ho2, hb2⟩
    have HB2 := hide (HB1.out.trans (hb2.mono HB1.out.size))
    obtain ⟨a2, c2, rfl, -⟩ := ho2.rd
    clear ho2 hb2 q0 q1 q2
    go_wp2
    go_ret
    exact ⟨rfl, HB2.out⟩
  rw [he, hl] at HEN
  have hlen := encS8_len hn1 hn3 hm (by omega)
  have hgl := grow_len (v := n) m hml
  have hki : I64 s.kind ∧ I64 s.first := upg_i64 (v := n) hm
  have HHE : Hid (∀ W, Below w.heap.size w W → Calls Tryd.prog 7 #[.int .i64 (n : Int), .int .i64 s.kind, .int .i64 s.first] W fun e w' => ∃ v', e = .returned (.tuple #[v', .int .i64 0]) ∧ Own w' W.heap.size v' (frameOf (headS n s.kind.toNat s.first.toNat)) ∧ Below W.heap.size W w') := hide (fun W hb => by
    have h := headG_any (n : Int) s.kind s.first W (ht.below hb (Nat.le_refl _))
    unfold Headed headErr headL at h
    have hv : 1 ≤ (n : Int) ∧ (n : Int) ≤ 3 := ⟨by omega, by omega⟩
    have hh : HeadOk s.kind s.first := hm.1
    rw [if_pos hv, if_pos hv, if_pos hh, if_pos hh, Int.toNat_natCast] at h
    exact h)
  have HBA : Hid (∀ v1 W, RdR W v1 (s.recs.take (16 * m)) → Below w.heap.size w W → Calls Tryd.prog 8 #[.int .i64 (n : Int), v1] W fun e w' => ∃ v', e = .returned (.tuple #[v', .int .i64 0]) ∧ Own w' W.heap.size v' (framesOf (blocksS n (s.recs.take (16 * m)))) ∧ Below W.heap.size W w') := hide (fun v1 W h hb => by
    have h := bodyG_any (n : Int) v1 _ W h (by rw [List.length_take]; omega) (ht.below hb (Nat.le_refl _))
    have b := body_of hn1 hn3 (recsOk_two hm.2 m hml).1
    unfold Bodied at h
    rw [b.1, b.2] at h
    exact h)
  have HBB : Hid (∀ v1 W, RdR W v1 (s.recs.drop (16 * m)) → Below w.heap.size w W → Calls Tryd.prog 8 #[.int .i64 (n : Int), v1] W fun e w' => ∃ v', e = .returned (.tuple #[v', .int .i64 0]) ∧ Own w' W.heap.size v' (framesOf (blocksS n (s.recs.drop (16 * m)))) ∧ Below W.heap.size W w') := hide (fun v1 W h hb => by
    have h := bodyG_any (n : Int) v1 _ W h (by rw [List.length_drop]; omega) (ht.below hb (Nat.le_refl _))
    have b := body_of hn1 hn3 (recsOk_two hm.2 m hml).2
    unfold Bodied at h
    rw [b.1, b.2] at h
    exact h)
  have HRX := hide (fun v1 W (h : Rd W v1 (frameOf (headS n s.kind.toNat s.first.toNat) ++ framesOf (blocksS n (s.recs.take (16 * m))))) (hb : Below w.heap.size w W) => recoverG_any v1 _ W h (by rw [List.length_append]; omega) (ht.below hb (Nat.le_refl _)))
  have HRY := hide (fun v1 W (h : Rd W v1 (frameOf (headS n s.kind.toNat s.first.toNat) ++ framesOf (blocksS n (s.recs.take (16 * m))) ++ framesOf (blocksS n (s.recs.drop (16 * m))))) (hb : Below w.heap.size w W) => recoverG_any v1 _ W h (by rw [List.length_append, List.length_append]; omega) (ht.below hb (Nat.le_refl _)))
  unfold RecoveredG at HRX HRY
  rw [rec_grow hn1 hn3 hm m] at HRX
  rw [rec_whole hn1 hn3 hm m hml] at HRY
  have HUX := hide (fun W (hb : Below w.heap.size w W) => refUpgradedG_any n hn1 hn3 (.agg #[.int .i64 s.kind, .int .i64 s.first, .slice al (16 * m) cl]) ⟨s.kind, s.first, s.recs.take (16 * m)⟩ W ⟨_, rfl, (HRR.out.below hb (Nat.le_refl _)).front (16 * m) hml, hki⟩ (by show (s.recs.take (16 * m)).length ≤ 10000; rw [List.length_take]; omega))
  have HUY := hide (fun W (hb : Below w.heap.size w W) => refUpgradedG_any n hn1 hn3 _ s W (HSV.out.below hb (Nat.le_refl _)) (by omega))
  unfold UpgradedG at HUX HUY
  unfold upgG at HRX HRY HUX HUY
  simp only at HRX HRY HUX HUY
  have HSA : Hid (∀ l v1 v2 W, RdR W v1 l → RdR W v2 l → Calls Tryd.prog 10 #[.agg #[.int .i64 s.kind, .int .i64 s.first, v1], .agg #[.int .i64 s.kind, .int .i64 s.first, v2]] W fun e w' => e = .returned (.bool true) ∧ Below W.heap.size W w') := hide (fun l v1 v2 W h1 h2 => by
    have h := refSameG_any _ ⟨s.kind, s.first, l⟩ _ ⟨s.kind, s.first, l⟩ W ⟨v1, rfl, h1, hki⟩ ⟨v2, rfl, h2, hki⟩
    rw [sameG_self] at h
    exact h)
  have kfr : Hid (∀ W, (Instr.sliceAt 22 (.slice al s.recs.length cl) none (some (.int .i64 ((m : Int) * 16))) none).run Tryd.prog W = .ok (.slice al (16 * m) cl) W) := hide (fun W => run_front_recs W al s.recs.length cl ((m : Int) * 16) (16 * m) (by omega) (by have := HCAP.out; omega))
  obtain ⟨FH, hFH⟩ : ∃ F, F = frameOf (headS n s.kind.toNat s.first.toNat) := ⟨_, rfl⟩
  obtain ⟨FA, hFA⟩ : ∃ F, F = framesOf (blocksS n (s.recs.take (16 * m))) := ⟨_, rfl⟩
  obtain ⟨FB, hFB⟩ : ∃ F, F = framesOf (blocksS n (s.recs.drop (16 * m))) := ⟨_, rfl⟩
  rw [← hFH, ← hFA, ← hFB] at hgl HRY
  rw [← hFH, ← hFA] at HRX
  rw [← hFH] at HHE
  rw [← hFA] at HBA
  rw [← hFB] at HBB
  have hl3 : FH.length + FA.length + FB.length ≤ 90000 := by omega
  obtain ⟨iX, hiX⟩ : ∃ i : Nat, i = FH.length + FA.length := ⟨_, rfl⟩
  rw [← hiX] at HRX HRY
  obtain ⟨kY, hkY⟩ : ∃ i : Nat, i = iX + FB.length := ⟨_, rfl⟩
  rw [← hkY] at HRY
  have hxe : ((iX : Int) == (FH.length : Int) + (FA.length : Int)) = true := by rw [beq_iff_eq]; omega
  have hye : ((kY : Int) == (iX : Int) + (FB.length : Int)) = true := by rw [beq_iff_eq]; omega
  have hl1 : (FH.length : Int) + (FA.length : Int) ≤ 90000 := by omega
  have hl2 : (iX : Int) + (FB.length : Int) ≤ 90000 := by omega
  have HM16 : Hid (16 * m ≤ s.recs.length) := hide hml
  generalize encS8 n s = E at *
  generalize (s.recs.take (16 * m)).map (upgR n) = UX at *
  generalize s.recs.map (upgR n) = UY at *
  generalize 16 * m = m16 at *
  obtain ⟨kind, first, recs⟩ := s
  simp only at *
  clear he hl hb hlen hgl hki hml hm hFH hFA hFB hiX hkY hn1 hn3
  go_enter Tryd.func3, Tryd.ntmps3
  go_wp2_with fail
  refine (HA.out _ (HB0.out _)).mono ?_
  rintro e W1 ⟨rfl, hb1⟩
  have HX1 := hide ((X1.out _).below hb1 (Nat.le_refl _))
  have HB1 := hide ((HB0.out _).trans (hb1.mono (HB0.out _).size))
  obtain ⟨q0, -⟩ := HX1.out.cell 0
  obtain ⟨q1, -⟩ := HX1.out.cell 1
  obtain ⟨q2, -⟩ := HX1.out.cell 2
  clear hb1 HA X1 HB0
  go_wp2_with fail
  refine (HEN.out _ HB1.out).mono ?_
  rintro e W2 ⟨v2, rfl, ho2, hb2⟩
  obtain ⟨a2, c2, rfl, -⟩ := ho2.rd
  have HX2 := hide (HX1.out.below hb2 (Nat.le_refl _))
  have HB2 := hide (HB1.out.trans (hb2.mono HB1.out.size))
  clear ho2 hb2 q0 q1 q2 HEN HX1 HB1
  obtain ⟨q0, -⟩ := HX2.out.cell 0
  obtain ⟨q1, -⟩ := HX2.out.cell 1
  go_wp2_with fail
  refine (HHE.out _ HB2.out).mono ?_
  rintro e W3 ⟨v3, rfl, ho3, hb3⟩
  have HH3 := hide ho3.rd
  obtain ⟨a3, c3, rfl, -⟩ := ho3.rd
  have HX3 := hide (HX2.out.below hb3 (Nat.le_refl _))
  have HB3 := hide (HB2.out.trans (hb3.mono HB2.out.size))
  clear ho3 hb3 q0 q1 HX2 HB2 HHE
  obtain ⟨q2, -⟩ := HX3.out.cell 2
  have HC1 := hide (HCF.out W3 HB3.out)
  go_wp2_with (refine wpList_cutR _ rfl _ _ _ _ rfl _ HC1.out ?_)
  intro va hra
  have HRA := hide hra
  clear hra HC1
  go_wp2_with fail
  refine (HBA.out _ _ HRA.out HB3.out).mono ?_
  rintro e W4 ⟨v4, rfl, ho4, hb4⟩
  have HA4 := hide ho4.rd
  obtain ⟨a4, c4, rfl, -⟩ := ho4.rd
  have HH4 := hide (HH3.out.below hb4 (Nat.le_refl _))
  have HX4 := hide (HX3.out.below hb4 (Nat.le_refl _))
  have HB4 := hide (HB3.out.trans (hb4.mono HB3.out.size))
  clear ho4 hb4 q2 HX3 HB3 HH3 HRA HBA HCF
  obtain ⟨q2, -⟩ := HX4.out.cell 2
  have HC2 := hide (HCB.out W4 HB4.out)
  go_wp2_with (refine wpList_cutR _ rfl _ _ _ _ rfl _ HC2.out ?_)
  intro vb hrb
  have HRB := hide hrb
  clear hrb HC2
  go_wp2_with fail
  refine (HBB.out _ _ HRB.out HB4.out).mono ?_
  rintro e W5 ⟨v5, rfl, ho5, hb5⟩
  have HD5 := hide ho5.rd
  obtain ⟨a5, c5, rfl, -⟩ := ho5.rd
  have HH5 := hide (HH4.out.below hb5 (Nat.le_refl _))
  have HA5 := hide (HA4.out.below hb5 (Nat.le_refl _))
  have HX5 := hide (HX4.out.below hb5 (Nat.le_refl _))
  have HB5 := hide (HB4.out.trans (hb5.mono HB4.out.size))
  clear ho5 hb5 q2 HX4 HB4 HH4 HA4 HRB HBB HCB
  go_wp2_with (at_builtin; refine wpList_append_rd _ rfl _ _ rfl W5.heap.size _ [] rfl (Own.nil _ _) _ FH rfl HH5.out (by simp; omega) (Nat.le_refl _) ?_)
  intro v6 W6 ho6 hb6
  have HO6 : Hid (Own W6 W5.heap.size v6 FH) := hide ho6
  have HBx6 := hide hb6
  clear ho6 hb6
  go_wp2_with (at_builtin; refine wpList_append_rd _ rfl _ _ rfl W5.heap.size _ FH rfl HO6.out _ FA rfl (HA5.out.below HBx6.out (Nat.le_refl _)) (by omega) HBx6.out.size ?_)
  intro v7 W7 ho7 hb7
  have HR7 := hide ho7.rd
  have hb57 := HBx6.out.trans hb7
  have HH7 := hide (HH5.out.below hb57 (Nat.le_refl _))
  have HA7 := hide (HA5.out.below hb57 (Nat.le_refl _))
  have HD7 := hide (HD5.out.below hb57 (Nat.le_refl _))
  have HX7 := hide (HX5.out.below hb57 (Nat.le_refl _))
  have HB7 := hide (HB5.out.trans (hb57.mono HB5.out.size))
  clear ho7 hb7 hb57 HO6 HBx6 HH5 HA5 HD5 HX5 HB5
  go_wp2_with fail
  refine (HRX.out _ _ HR7.out HB7.out).mono ?_
  rintro e W8 ⟨v8, rfl, hr8, hb8⟩
  have HL8 := hide hr8
  obtain ⟨a8, c8, rfl, -⟩ := id hr8
  obtain ⟨NA, hNA⟩ : ∃ N, N = W8.heap.size := ⟨_, rfl⟩
  obtain ⟨WA, hWA⟩ : ∃ V, V = W8.alloc (.cells #[.int .i64 kind, .int .i64 first, .slice a8 UX.length c8] 24) := ⟨_, rfl⟩
  have hbA : Below W8.heap.size W8 WA := by rw [hWA]; exact (Below.refl _ _).alloc (Nat.le_refl _) _
  have HYA : Hid (Bsg WA NA #[.int .i64 kind, .int .i64 first, .slice a8 UX.length c8]) := hide (by rw [hWA, hNA]; exact heap_alloc_new W8 _)
  have HLA := hide (HL8.out.below hbA (Nat.le_refl _))
  have hbA2 : Below W7.heap.size W7 WA := hb8.trans (hbA.mono hb8.size)
  have HHA := hide (HH7.out.below hbA2 (Nat.le_refl _))
  have HAA := hide (HA7.out.below hbA2 (Nat.le_refl _))
  have HDA := hide (HD7.out.below hbA2 (Nat.le_refl _))
  have HXA := hide (HX7.out.below hbA2 (Nat.le_refl _))
  have HBA := hide (HB7.out.trans (hbA2.mono HB7.out.size))
  go_upto_region 14 with fail
  rw [← hWA, ← hNA]
  clear hWA hNA hbA hbA2 hb8 hr8 HL8 HR7 HH7 HA7 HD7 HX7 HB7 HRX
  go_wp2_with (at_builtin; refine wpList_append_rd _ rfl _ _ rfl WA.heap.size _ [] rfl (Own.nil _ _) _ FH rfl HHA.out (by simp; omega) (Nat.le_refl _) ?_)
  intro v9 W9 ho9 hb9
  have HO9 : Hid (Own W9 WA.heap.size v9 FH) := hide ho9
  have HBx9 := hide hb9
  clear ho9 hb9
  go_wp2_with (at_builtin; refine wpList_append_rd _ rfl _ _ rfl WA.heap.size _ FH rfl HO9.out _ FA rfl (HAA.out.below HBx9.out (Nat.le_refl _)) (by omega) HBx9.out.size ?_)
  intro v10 W10 ho10 hb10
  have HO10 := hide ho10
  have HBx10 := hide (HBx9.out.trans hb10)
  clear ho10 hb10 HO9 HBx9
  go_wp2_with (at_builtin; refine wpList_append_rd _ rfl _ _ rfl WA.heap.size _ (FH ++ FA) rfl HO10.out _ FB rfl (HDA.out.below HBx10.out (Nat.le_refl _)) (by rw [List.length_append]; omega) HBx10.out.size ?_)
  intro v11 W11 ho11 hb11
  have HR11 : Hid (Rd W11 v11 (FH ++ FA ++ FB)) := hide (by have h := ho11.rd; simpa only [List.append_assoc] using h)
  have hbA11 := HBx10.out.trans hb11
  have HX11 := hide (HXA.out.below hbA11 (Nat.le_refl _))
  have HY11 := hide (HYA.out.below hbA11 (Nat.le_refl _))
  have HL11 := hide (HLA.out.below hbA11 (Nat.le_refl _))
  have HB11 := hide (HBA.out.trans (hbA11.mono HBA.out.size))
  clear ho11 hb11 hbA11 HO10 HBx10 HHA HAA HDA HXA HYA HLA HBA
  go_wp2_with fail
  refine (HRY.out _ _ HR11.out HB11.out).mono ?_
  rintro e W12 ⟨v12, rfl, hr12, hb12⟩
  have HL12 := hide hr12
  obtain ⟨a12, c12, rfl, -⟩ := id hr12
  obtain ⟨NB, hNB⟩ : ∃ N, N = W12.heap.size := ⟨_, rfl⟩
  obtain ⟨WB, hWB⟩ : ∃ V, V = W12.alloc (.cells #[.int .i64 kind, .int .i64 first, .slice a12 UY.length c12] 24) := ⟨_, rfl⟩
  have hbB : Below W12.heap.size W12 WB := by rw [hWB]; exact (Below.refl _ _).alloc (Nat.le_refl _) _
  have HZB : Hid (Bsg WB NB #[.int .i64 kind, .int .i64 first, .slice a12 UY.length c12]) := hide (by rw [hWB, hNB]; exact heap_alloc_new W12 _)
  have HMB := hide (HL12.out.below hbB (Nat.le_refl _))
  have hbB2 : Below W11.heap.size W11 WB := hb12.trans (hbB.mono hb12.size)
  have HXB := hide (HX11.out.below hbB2 (Nat.le_refl _))
  have HYB := hide (HY11.out.below hbB2 (Nat.le_refl _))
  have HLB := hide (HL11.out.below hbB2 (Nat.le_refl _))
  have HBB := hide (HB11.out.trans (hbB2.mono HB11.out.size))
  go_upto_region 15 with fail
  rw [← hWB, ← hNB]
  clear hWB hNB hbB hbB2 hb12 hr12 HL12 HR11 HX11 HY11 HL11 HB11 HRY
  obtain ⟨q0, -⟩ := HXB.out.cell 0
  obtain ⟨q1, -⟩ := HXB.out.cell 1
  obtain ⟨q2, -⟩ := HXB.out.cell 2
  have hxl := HXB.out.lt
  have kf := kfr.out
  go_cut [23] (fun x wc => ∃ N, x = .pointer (some ⟨N, 0, none⟩) ∧ Hid (Bsg wc N #[.int .i64 kind, .int .i64 first, .slice al m16 cl]) ∧ Hid (Below WB.heap.size WB wc))
  case first =>
    go_region
    all_goals
      go_wp2_with fail
      go_meet
      first
        | exact ⟨_, rfl, hide (heap_alloc_new WB _), hide (((Below.refl _ _).alloc (Nat.le_refl _) _).drew)⟩
        | exact ⟨_, rfl, hide (heap_alloc_new WB.drew _), hide (((Below.refl _ _).drew).trans ((Below.refl _ _).alloc (Nat.le_refl _) _))⟩
  case rest =>
    obtain ⟨NW, rfl, HYW, HBW⟩ := hcut
    have HXR := hide (HXB.out.below HBW.out (Nat.le_refl _))
    have HYR := hide (HYB.out.below HBW.out (Nat.le_refl _))
    have HZR := hide (HZB.out.below HBW.out (Nat.le_refl _))
    have HLR := hide (HLB.out.below HBW.out (Nat.le_refl _))
    have HMR := hide (HMB.out.below HBW.out (Nat.le_refl _))
    have HBR := hide (HBB.out.trans (HBW.out.mono HBB.out.size))
    clear q0 q1 q2 kf kfr hxl HXB HYB HZB HLB HMB HBB HBW
    have HBD : Hid (Below wc.heap.size wc wc.drew) := hide ((Below.refl _ _).drew)
    have HBWD : Hid (Below w.heap.size w wc.drew) := hide HBR.out.drew
    have HKA : Hid (∀ W, Below wc.heap.size wc W → W.cell? ⟨NA, 0, none⟩ = some (.int .i64 kind) ∧ W.cell? ⟨NA, 1, none⟩ = some (.int .i64 first) ∧ W.cell? ⟨NA, 2, none⟩ = some (.slice a8 UX.length c8) ∧ W.cell? ⟨NW, 0, none⟩ = some (.int .i64 kind) ∧ W.cell? ⟨NW, 1, none⟩ = some (.int .i64 first) ∧ W.cell? ⟨NW, 2, none⟩ = some (.slice al m16 cl)) := hide (fun W hb => by
      have h := HYR.out.below hb (Nat.le_refl _)
      have h' := HYW.out.below hb (Nat.le_refl _)
      exact ⟨(h.cell 0).1, (h.cell 1).1, (h.cell 2).1, (h'.cell 0).1, (h'.cell 1).1, (h'.cell 2).1⟩)
    have HK0 := hide (HKA.out _ HBD.out)
    go_wp2
    go_cut [24] (fun x w2 => x = .bool true ∧ Hid (Below wc.heap.size wc w2))
    case first =>
      go_region_held (fun W => W.cell? ⟨NA, 0, none⟩ = some (.int .i64 kind) ∧ W.cell? ⟨NA, 1, none⟩ = some (.int .i64 first) ∧ W.cell? ⟨NA, 2, none⟩ = some (.slice a8 UX.length c8) ∧ W.cell? ⟨NW, 0, none⟩ = some (.int .i64 kind) ∧ W.cell? ⟨NW, 1, none⟩ = some (.int .i64 first) ∧ W.cell? ⟨NW, 2, none⟩ = some (.slice al m16 cl)) (first | exact HK0.out | exact HK13.out | exact HK14.out)
        (first
          | (go_at_call 11; refine (HUX.out wc.drew HBWD.out).mono ?_; rintro e W13 ⟨v13, rfl, hr13, hb13⟩; have HB13 := hide (HBD.out.trans hb13); have HK13 := hide (HKA.out W13 HB13.out); have HL13 := hide hr13; have HLR13 := hide (HLR.out.below HB13.out (Nat.le_refl _)); obtain ⟨a13, c13, rfl, -⟩ := id hr13; clear hr13 hb13)
          | (go_at_call 10; refine (HSA.out _ _ _ W13 HLR13.out HL13.out).mono ?_; rintro e W14 ⟨rfl, hb14⟩; have HB14 := hide (HB13.out.trans (hb14.mono HB13.out.size)); have HK14 := hide (HKA.out W14 HB14.out); clear hb14))
      all_goals
        go_wp2_with fail
        go_meet
        exact ⟨rfl, HB14⟩
    case rest =>
      obtain ⟨rfl, HB15⟩ := hcut
      have HXS := hide (HXR.out.below HB15.out (Nat.le_refl _))
      have HZS := hide (HZR.out.below HB15.out (Nat.le_refl _))
      have HMS := hide (HMR.out.below HB15.out (Nat.le_refl _))
      have HBS := hide (HBR.out.trans (HB15.out.mono HBR.out.size))
      clear HXR HYR HZR HLR HMR HBR HB15 HBD HBWD HKA HK0 HYW HUX
      have HBD : Hid (Below wc.heap.size wc wc.drew) := hide ((Below.refl _ _).drew)
      have HBWD : Hid (Below w.heap.size w wc.drew) := hide HBS.out.drew
      have HKA : Hid (∀ W, Below wc.heap.size wc W → W.cell? ⟨NB, 0, none⟩ = some (.int .i64 kind) ∧ W.cell? ⟨NB, 1, none⟩ = some (.int .i64 first) ∧ W.cell? ⟨NB, 2, none⟩ = some (.slice a12 UY.length c12) ∧ W.cell? ⟨w.heap.size, 0, none⟩ = some (.int .i64 kind) ∧ W.cell? ⟨w.heap.size, 1, none⟩ = some (.int .i64 first) ∧ W.cell? ⟨w.heap.size, 2, none⟩ = some (.slice al recs.length cl)) := hide (fun W hb => by
        have h := HZS.out.below hb (Nat.le_refl _)
        have h' := HXS.out.below hb (Nat.le_refl _)
        exact ⟨(h.cell 0).1, (h.cell 1).1, (h.cell 2).1, (h'.cell 0).1, (h'.cell 1).1, (h'.cell 2).1⟩)
      have HK0 := hide (HKA.out _ HBD.out)
      go_wp2
      go_cut [25] (fun x we => x = .bool true ∧ Hid (Below w.heap.size w we))
      case first =>
        go_region_held (fun W => W.cell? ⟨NB, 0, none⟩ = some (.int .i64 kind) ∧ W.cell? ⟨NB, 1, none⟩ = some (.int .i64 first) ∧ W.cell? ⟨NB, 2, none⟩ = some (.slice a12 UY.length c12) ∧ W.cell? ⟨w.heap.size, 0, none⟩ = some (.int .i64 kind) ∧ W.cell? ⟨w.heap.size, 1, none⟩ = some (.int .i64 first) ∧ W.cell? ⟨w.heap.size, 2, none⟩ = some (.slice al recs.length cl)) (first | exact HK0.out | exact HK16.out | exact HK17.out)
          (first
            | (go_at_call 11; refine (HUY.out wc.drew HBWD.out).mono ?_; rintro e W16 ⟨v16, rfl, hr16, hb16⟩; have HB16 := hide (HBD.out.trans hb16); have HK16 := hide (HKA.out W16 HB16.out); have HL16 := hide hr16; have HMS16 := hide (HMS.out.below HB16.out (Nat.le_refl _)); obtain ⟨a16, c16, rfl, -⟩ := id hr16; clear hr16 hb16)
            | (go_at_call 10; refine (HSA.out _ _ _ W16 HMS16.out HL16.out).mono ?_; rintro e W17 ⟨rfl, hb17⟩; have HB17 := hide (HB16.out.trans (hb17.mono HB16.out.size)); have HK17 := hide (HKA.out W17 HB17.out); have HBF := hide (HBS.out.trans (HB17.out.mono HBS.out.size)); clear hb17))
        all_goals
          go_wp2_with fail
          go_meet
          exact ⟨rfl, HBF⟩
      case rest =>
        obtain ⟨rfl, HB18⟩ := hcut
        go_wp2
        go_ret
        exact ⟨rfl, HB18.out⟩

theorem own : ownKnob Tryd.prog.godebug = none := by kernel_rfl
theorem laidOut : laidOutB Tryd.prog = true := by kernel_rfl

set_option linter.unusedVariables false in
set_option maxRecDepth 100000 in
theorem lifted (os : Os) (started : os.Started) (H : Type) (enc : TypeId × Value → H) :
    ReturnsInHanded {} Tryd.checked os 3 .any (fun w args => (Rows.segmentGrowsSpec.pre enc Tryd.prog Tryd.f3 Rows.segmentGrowsRow.domain false w args ∧ laidMetH Tryd.prog Rows.segmentGrowsRow.laid w) ∧ sizedMet enc Tryd.prog Tryd.f3 (OpenSpec.ofChange Rows.segmentGrowsSpec) false w args) (Rows.segmentGrowsSpec.post enc Tryd.prog Tryd.f3 false true false false) := by
  refine returnsInHanded_of_change_and (C := Tryd.checked) (X := fun w _ => laidMetH Tryd.prog Rows.segmentGrowsRow.laid w) (fun _ _ _ hh h => h.of_heap hh) own started (by kernel_rfl) Tryd.func3
    (ChangeSpec.witness_shaped (enc := enc) (C := Tryd.checked) (os := os) (X := fun w _ => laidMetH Tryd.prog Rows.segmentGrowsRow.laid w) false (World.doorLaid Tryd.prog 400 os) #[.int .i64 0, .agg #[.int .i64 0, .int .i64 0, .slice none 0 0], .int .i64 0] 8 rfl (World.shaped_of_RefB (by kernel_rfl) (by kernel_rfl)) (by kernel_rfl) (by kernel_rfl) (by kernel_rfl) (door_met os _)) ?_
  intro W base args ds gs before hval0 hW hcnd _ hL _
  have hval : ∀ (j : Nat) t v, Tryd.f3.params[j]? = some t → args[j]? = some v → Value.okWide Tryd.prog W .any base t v := hval0
  have hW' := hW
  obtain ⟨p, q, hA0, hV, rfl, hfz, hnd⟩ := hW
  have hA : DataW.TrodAll enc Tryd.prog W 0 (fun _ => true) true Tryd.f3.params.toList args.toList ds p := hA0
  rw [Tryd.params3] at hA hval
  obtain ⟨v0, vs0, d0, ds0, p0, q0, hargs, rfl, rfl, h0, r0⟩ := trodAll_cons hA
  obtain ⟨v1, vs1, d1, ds1, p1, q1, rfl, rfl, rfl, h1, r1⟩ := trodAll_cons r0
  obtain ⟨v2, vs2, d2, ds2, p2, q2, rfl, rfl, rfl, h2, r2⟩ := trodAll_cons r1
  obtain ⟨rfl, rfl, rfl⟩ := trodAll_nil r2
  obtain rfl : args = #[v0, v1, v2] := by cases args; simp_all
  obtain ⟨rfl, rfl⟩ := trodVars_none hV
  obtain ⟨a0, rfl, rfl, rfl, w0⟩ := open_int Tryd.underlying3 (hval 0 3 v0 rfl rfl) h0
  have k1 := h1
  have lt1 : ∀ x ∈ p1, x.block < W.heap.size := by obtain ⟨m, hm⟩ := k1; exact DataW.trod_lt m _ _ _ hm
  obtain ⟨s1, w1⟩ := open_seg (hval 1 24 v1 rfl rfl) h1
  obtain ⟨a2, rfl, rfl, rfl, w2⟩ := open_int Tryd.underlying3 (hval 2 3 v2 rfl rfl) h2
  clear hA0 hval0
  refine (walk a0 _ s1 a2 W w0 w1 w2 (tabs hL)).mono fun e W' ⟨he, bel⟩ => ?_
  subst he
  exact ⟨_, rfl, _, _, _, [], _, [], hW', trodAll_mk1 (shut_bool Tryd.underlying4 _), (trodAll_cons_mk (shut_int Tryd.underlying3 w0) (trodAll_cons_mk (Below.trod laidOut (by kernel_rfl) (of_decide_eq_true (by kernel_rfl)) k1 bel lt1) (trodAll_cons_mk (shut_int Tryd.underlying3 w2) trodAll_mk0))), rfl, bel.frame _, fun h => by cases h⟩

theorem over : Rows.segmentGrowsRow.holds Tryd.pinned (OpenSpec.ofChange Rows.segmentGrowsSpec) :=
  OpenClaim.holds_of_wide 3 Tryd.f3 rfl rfl rfl rfl rfl rfl rfl ⟨rfl, rfl, rfl, rfl, rfl⟩ rfl rfl rfl rfl rfl (by kernel_rfl) Tryd.func3 (by kernel_rfl)
    (of_decide_eq_true (by kernel_rfl)) (by unfold Func.isWrapper; first | (rw [if_pos (by decide +kernel)]; kernel_rfl) | (rw [if_neg (by decide +kernel)]; exact ⟨rfl, rfl⟩))
    (fun os started H enc _ => lifted os started H enc)

end Go.Proofs.YtddhcohjmgdajabDoor.segmentGrows
namespace Go.Proofs.YtddhcohjmgdajabDoor

set_option maxRecDepth 100000 in
theorem segmentGrows_holds : Rows.SegmentGrowsCardSaid :=
  Claim7.holds_tied_plain_at .later [] _ _ _ _ segmentGrows.over (fun _ h => by cases h) (by kernel_rfl) (fun _ h => by cases h) segmentGrows_row_tie rfl ⟨rfl, rfl⟩ (by kernel_rfl) rfl
    (fun f fn hf hfn => by
      obtain rfl : f = 3 := Option.some.inj ((show Tryd.prog.funcNamed "ferryman/ferrymanlaw08.SegmentGrows" = some 3 by kernel_rfl).symm.trans hf) |>.symm
      obtain rfl : fn = Tryd.f3 := (Option.some.inj (Tryd.func3.symm.trans hfn)).symm
      exact ⟨by kernel_rfl, fun j t ht => by
        rw [Tryd.params3] at ht
        have hm : t ∈ [3, 24, 3] := by simpa using Array.mem_of_getElem? ht
        have hall : ([3, 24, 3].all fun u => !Tryd.prog.wantsStandIn u) = true := by kernel_rfl
        exact (show Tryd.prog.wantsStandIn t = false by simpa using List.all_eq_true.1 hall t hm)⟩)
    (by kernel_rfl)

end Go.Proofs.YtddhcohjmgdajabDoor
