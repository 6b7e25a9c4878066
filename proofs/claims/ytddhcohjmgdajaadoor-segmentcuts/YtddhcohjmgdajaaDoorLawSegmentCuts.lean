/- Proved: for all versions, segments and places the law SegmentCuts answers true (and the call leaves all older memory as it was). Its condition: what schema's table holds, where the card lists it. -/
import Derived.Test.YtddhcohjmgdajaaDoorSegAwake
import Derived.Test.YtddhcohjmgdajaaDoorSegRec
import Derived.Test.YtddhcohjmgdajaaDoorOpenSeg
import Derived.Test.YtddhcohjmgdajaaDoorSegSmall
import Derived.Deep.RegionHeld
import Derived.OpenShut
import Derived.ChangeOld
namespace Go.Proofs.YtddhcohjmgdajaaDoor.segmentCuts
open Go.ChangeShapes Go.WideShapes Go.ChangeAt Go.RowKit

set_option maxRecDepth 100000 in
set_option maxHeartbeats 16000000 in
theorem walk (v : Int) (vs : Value) (s : Seg) (cut : Int) (w : World) (_hv : (Lit.int .i64 v).wf = true) (hs : SgV w vs s) (_hc : (Lit.int .i64 cut).wf = true) (ht : TabF w) :
    Calls Tryd.prog 6 #[.int .i64 v, vs, .int .i64 cut] w fun e w' => e = .returned (.bool true) ∧ Below w.heap.size w w' := by
  have HA := hide (fun W (hb : Below w.heap.size w W) => awake8_any W (ht.below hb (Nat.le_refl _)))
  have HB0 : Hid (∀ X, Below w.heap.size w (w.alloc X)) := fun X => (Below.refl _ _).alloc (Nat.le_refl _) X
  have X1 : Hid (∀ cs, Bsg (w.alloc (.cells cs 24)) w.heap.size cs) := fun cs => heap_alloc_new w _
  have HSV := hide hs
  obtain ⟨vl, rfl, hr, -, -⟩ := hs
  have HRR := hide hr
  obtain ⟨al, cl, rfl, hcap, -⟩ := hr
  have HCAP := hide hcap
  clear hcap
  by_cases hb : (s.recs.length : Int) ≤ 100
  case neg =>
    have hb' : 100 < (s.recs.length : Int) := by omega
    clear hb
    go_enter Tryd.func6, Tryd.ntmps6
    go_wp2_with fail
    refine (HA.out _ (HB0.out _)).mono ?_
    rintro e W1 ⟨rfl, hb1⟩
    have HX1 := hide ((X1.out _).below hb1 (Nat.le_refl _))
    have HB1 := hide ((HB0.out _).trans (hb1.mono (HB0.out _).size))
    obtain ⟨q2, -⟩ := HX1.out.cell 2
    clear hb1
    go_wp2
    go_ret
    exact ⟨rfl, HB1.out⟩
  have hb' : ¬ 100 < (s.recs.length : Int) := by omega
  by_cases hc0 : cut < 0
  · clear hb
    go_enter Tryd.func6, Tryd.ntmps6
    go_wp2_with fail
    refine (HA.out _ (HB0.out _)).mono ?_
    rintro e W1 ⟨rfl, hb1⟩
    have HX1 := hide ((X1.out _).below hb1 (Nat.le_refl _))
    have HB1 := hide ((HB0.out _).trans (hb1.mono (HB0.out _).size))
    obtain ⟨q2, -⟩ := HX1.out.cell 2
    clear hb1
    go_wp2
    go_ret
    exact ⟨rfl, HB1.out⟩
  have HEN := hide (fun W (hb : Below w.heap.size w W) => encodeG_any v _ s W (HSV.out.below hb (Nat.le_refl _)) (by omega) (ht.below hb (Nat.le_refl _)))
  unfold EncodedG at HEN
  rcases seg_cases v s with ⟨he, hl⟩ | ⟨n, rfl, hn1, hn3, hm, he, hl⟩
  · rw [hl] at HEN
    have he' : (segErr v s != 0) = true := by rw [bne_iff_ne]; exact he
    generalize segErr v s = er at *
    obtain ⟨kind, first, recs⟩ := s
    simp only at *
    clear he hl hb
    go_enter Tryd.func6, Tryd.ntmps6
    go_wp2_with fail
    refine (HA.out _ (HB0.out _)).mono ?_
    rintro e W1 ⟨rfl, hb1⟩
    have HX1 := hide ((X1.out _).below hb1 (Nat.le_refl _))
    have HB1 := hide ((HB0.out _).trans (hb1.mono (HB0.out _).size))
    obtain ⟨q0, -⟩ := HX1.out.cell 0
    obtain ⟨q1, -⟩ := HX1.out.cell 1
    obtain ⟨q2, -⟩ := HX1.out.cell 2
    clear hb1
    go_wp2_with fail
    refine (HEN.out _ HB1.out).mono ?_
    rintro e W2 ⟨v2, rfl, ho2, hb2⟩
    have HB2 := hide (HB1.out.trans (hb2.mono HB1.out.size))
    obtain ⟨a2, c2, rfl, -⟩ := ho2.rd
    clear ho2 hb2 q0 q1 q2
    go_wp2
    go_ret
    exact ⟨rfl, HB2.out⟩
  rw [he, hl] at HEN
  have hlen := encS8_len hn1 hn3 hm (by omega)
  obtain ⟨c, rfl⟩ : ∃ c : Nat, cut = (c : Int) := ⟨cut.toNat, by omega⟩
  by_cases hcl : c < (encS8 n s).length
  case neg =>
    have hcl' : ((encS8 n s).length : Int) ≤ (c : Int) := by omega
    generalize encS8 n s = E at *
    obtain ⟨kind, first, recs⟩ := s
    simp only at *
    clear he hl hb hm hcl hlen
    go_enter Tryd.func6, Tryd.ntmps6
    go_wp2_with fail
    refine (HA.out _ (HB0.out _)).mono ?_
    rintro e W1 ⟨rfl, hb1⟩
    have HX1 := hide ((X1.out _).below hb1 (Nat.le_refl _))
    have HB1 := hide ((HB0.out _).trans (hb1.mono (HB0.out _).size))
    obtain ⟨q0, -⟩ := HX1.out.cell 0
    obtain ⟨q1, -⟩ := HX1.out.cell 1
    obtain ⟨q2, -⟩ := HX1.out.cell 2
    clear hb1
    go_wp2_with fail
    refine (HEN.out _ HB1.out).mono ?_
    rintro e W2 ⟨v2, rfl, ho2, hb2⟩
    have HB2 := hide (HB1.out.trans (hb2.mono HB1.out.size))
    obtain ⟨a2, c2, rfl, -⟩ := ho2.rd
    clear ho2 hb2 q0 q1 q2
    go_wp2
    go_ret
    exact ⟨rfl, HB2.out⟩
  have hcl' : ¬ ((encS8 n s).length : Int) ≤ (c : Int) := by omega
  have hdc := decS8_cut hn1 hn3 hm c hcl
  have HDE := hide (fun v1 W (h : Rd W v1 ((encS8 n s).take c)) (hb : Below w.heap.size w W) => decodeG_any v1 _ W h (by rw [List.length_take]; omega) (ht.below hb (Nat.le_refl _)))
  have HRE := hide (fun v1 W (h : Rd W v1 ((encS8 n s).take c)) (hb : Below w.heap.size w W) => recoverG_any v1 _ W h (by rw [List.length_take]; omega) (ht.below hb (Nat.le_refl _)))
  unfold DecodedG at HDE
  unfold RecoveredG at HRE
  have HHE : Hid (∀ W, Below w.heap.size w W → Calls Tryd.prog 10 #[.int .i64 (n : Int), .int .i64 s.kind, .int .i64 s.first] W fun e w' => ∃ v', e = .returned (.tuple #[v', .int .i64 0]) ∧ Own w' W.heap.size v' (frameOf (headS n s.kind.toNat s.first.toNat)) ∧ Below W.heap.size W w') := hide (fun W hb => by
    have h := headG_any (n : Int) s.kind s.first W (ht.below hb (Nat.le_refl _))
    unfold Headed headErr headL at h
    have hv : 1 ≤ (n : Int) ∧ (n : Int) ≤ 3 := ⟨by omega, by omega⟩
    have hh : HeadOk s.kind s.first := hm.1
    rw [if_pos hv, if_pos hv, if_pos hh, if_pos hh, Int.toNat_natCast] at h
    exact h)
  have hfh : (frameOf (headS n s.kind.toNat s.first.toNat)).length = atS n s 0 := (atS_zero n s).symm
  have ha0 := atS_le (v := n) (s := s) 0
  generalize (decS8 ((encS8 n s).take c)) = DD at *
  obtain ⟨⟨dk, df, dl⟩, de⟩ := DD
  simp only at hdc HDE
  have hde : (de == 0) = false := beq_eq_false_iff_ne.2 hdc
  have HRC0 := hide (recS8_none hn1 hn3 hm c)
  have HRC1 := hide (fun q => recS8_cut hn1 hn3 hm c hcl q)
  have HBD1 := hide (fun q hq => body_one hn1 hn3 hm q hq)
  have HUP := hide (fun (m : Nat) (hmle : m ≤ s.recs.length) W (hb : Below w.heap.size w W) => refUpgradedG_any n hn1 hn3 (.agg #[.int .i64 s.kind, .int .i64 s.first, .slice al m cl]) ⟨s.kind, s.first, s.recs.take m⟩ W ⟨_, rfl, (HRR.out.below hb (Nat.le_refl _)).front m hmle, (upg_i64 (v := n) hm)⟩ (by show (s.recs.take m).length ≤ 10000; rw [List.length_take]; omega))
  unfold UpgradedG upgG at HUP
  simp only at HUP
  have HBO : Hid (∀ q, q < (blocksS n s.recs).length → ∀ v1 W, RdR W v1 ((s.recs.drop (16 * q)).take 16) → Below w.heap.size w W → Calls Tryd.prog 12 #[.int .i64 (n : Int), v1] W fun e w' => ∃ v', e = .returned (.tuple #[v', .int .i64 0]) ∧ Own w' W.heap.size v' (frameOf ((blocksS n s.recs).getD q [])) ∧ Below W.heap.size W w') := hide (fun q hq v1 W h hb => by
    have h := bodyG_any (n : Int) v1 _ W h (by rw [List.length_take]; omega) (ht.below hb (Nat.le_refl _))
    unfold Bodied at h
    rw [(HBD1.out q hq).1, (HBD1.out q hq).2] at h
    exact h)
  have hi64 := upg_i64 (v := n) hm
  have hki : I64 s.kind ∧ I64 s.first := hi64
  have HATS := hide (fun q hq => atS_succ n s q hq)
  have HATL : Hid (∀ q, atS n s q ≤ 90000) := hide (fun q => Nat.le_trans (atS_le q) hlen)
  have hbn := blocksS_len (v := n) s.recs
  by_cases hA : c < atS n s 0
  · have hR := HRC0.out (by rw [hfh]; exact hA)
    rw [hR] at HRE
    have hA' : ¬ (((frameOf (headS n s.kind.toNat s.first.toNat)).length : Nat) : Int) ≤ (c : Int) := by rw [hfh]; omega
    obtain ⟨rk, hrk⟩ : ∃ rk, rk = zeroG.kind := ⟨_, rfl⟩
    obtain ⟨rf, hrf⟩ : ∃ rf, rf = zeroG.first := ⟨_, rfl⟩
    obtain ⟨rl, hrl⟩ : ∃ rl, rl = zeroG.recs := ⟨_, rfl⟩
    have hrl0 : (rl.length : Int) = 0 := by rw [hrl]; rfl
    simp only at HRE
    rw [← hrk, ← hrf, ← hrl] at HRE
    generalize frameOf (headS n s.kind.toNat s.first.toNat) = FH at *
    generalize encS8 n s = E at *
    obtain ⟨kind, first, recs⟩ := s
    simp only at *
    clear he hl hb hm hlen hdc ha0 hR HRC0 HRC1 HBD1 HUP HBO hi64 hki HATS HATL hbn hA hfh hrk hrf hrl
    go_enter Tryd.func6, Tryd.ntmps6
    go_wp2_with fail
    refine (HA.out _ (HB0.out _)).mono ?_
    rintro e W1 ⟨rfl, hb1⟩
    have HX1 := hide ((X1.out _).below hb1 (Nat.le_refl _))
    have HB1 := hide ((HB0.out _).trans (hb1.mono (HB0.out _).size))
    clear hb1 HA X1 HB0
    obtain ⟨q0, -⟩ := HX1.out.cell 0
    obtain ⟨q1, -⟩ := HX1.out.cell 1
    obtain ⟨q2, -⟩ := HX1.out.cell 2
    go_wp2_with fail
    refine (HEN.out _ HB1.out).mono ?_
    rintro e W2 ⟨v2, rfl, ho2, hb2⟩
    have HO2 := hide ho2.rd
    obtain ⟨a2, c2, rfl, -⟩ := ho2.rd
    have HX2 := hide (HX1.out.below hb2 (Nat.le_refl _))
    have HB2 := hide (HB1.out.trans (hb2.mono HB1.out.size))
    obtain ⟨hrf, hcf⟩ := cutB_front W2 a2 E c2 HO2.out c (by omega)
    have kf := hcf (c : Int) rfl
    have HRF := hide hrf
    clear ho2 hb2 q0 q1 q2 HEN HX1 HB1 hrf hcf
    go_wp2_with fail
    refine (HDE.out _ _ HRF.out HB2.out).mono ?_
    rintro e W3 ⟨v3, rfl, hr3, hb3⟩
    obtain ⟨a3, c3, rfl, -⟩ := hr3
    obtain ⟨NA, hNA⟩ : ∃ N, N = W3.heap.size := ⟨_, rfl⟩
    obtain ⟨WA, hWA⟩ : ∃ V, V = W3.alloc (.cells #[.int .i64 dk, .int .i64 df, .slice a3 dl.length c3] 24) := ⟨_, rfl⟩
    have hbA : Below W3.heap.size W3 WA := by rw [hWA]; exact (Below.refl _ _).alloc (Nat.le_refl _) _
    have hbA2 : Below W2.heap.size W2 WA := hb3.trans (hbA.mono hb3.size)
    have HXA := hide (HX2.out.below hbA2 (Nat.le_refl _))
    have HRA := hide (HRF.out.below hbA2 (Nat.le_refl _))
    have HBA := hide (HB2.out.trans (hbA2.mono HB2.out.size))
    go_upto_region 8 with fail
    rw [← hWA, ← hNA]
    clear hWA hNA hbA hbA2 hb3 HX2 HB2 HDE HRF
    go_wp2_with fail
    refine (HRE.out _ _ HRA.out HBA.out).mono ?_
    rintro e W4 ⟨v4, rfl, hr4, hb4⟩
    have HR4 := hide hr4
    obtain ⟨a4, c4, rfl, -⟩ := id hr4
    obtain ⟨NB, hNB⟩ : ∃ N, N = W4.heap.size := ⟨_, rfl⟩
    obtain ⟨WB, hWB⟩ : ∃ V, V = W4.alloc (.cells #[.int .i64 rk, .int .i64 rf, .slice a4 rl.length c4] 24) := ⟨_, rfl⟩
    have hbB : Below W4.heap.size W4 WB := by rw [hWB]; exact (Below.refl _ _).alloc (Nat.le_refl _) _
    have HYB : Hid (Bsg WB NB #[.int .i64 rk, .int .i64 rf, .slice a4 rl.length c4]) := hide (by rw [hWB, hNB]; exact heap_alloc_new W4 _)
    have HLB := hide (HR4.out.below hbB (Nat.le_refl _))
    have hbB2 : Below WA.heap.size WA WB := hb4.trans (hbB.mono hb4.size)
    have HXB := hide (HXA.out.below hbB2 (Nat.le_refl _))
    have HBB := hide (HBA.out.trans (hbB2.mono HBA.out.size))
    go_upto_region 9 with fail
    rw [← hWB, ← hNB]
    clear hWB hNB hbB hbB2 hb4 hr4 HR4 HXA HBA HRE HRA kf
    obtain ⟨q0, -⟩ := HXB.out.cell 0
    obtain ⟨q1, -⟩ := HXB.out.cell 1
    go_wp2_with fail
    refine (HHE.out _ HBB.out).mono ?_
    rintro e W5 ⟨v5, rfl, ho5, hb5⟩
    obtain ⟨a5, c5, rfl, -⟩ := ho5.rd
    have HX5 := hide (HXB.out.below hb5 (Nat.le_refl _))
    have HY5 := hide (HYB.out.below hb5 (Nat.le_refl _))
    have HL5 := hide (HLB.out.below hb5 (Nat.le_refl _))
    have HB5 := hide (HBB.out.trans (hb5.mono HBB.out.size))
    clear ho5 hb5 q0 q1 HXB HYB HLB HBB HHE
    obtain ⟨p2, -⟩ := HY5.out.cell 2
    have hrl1 : ((rl.length : Int) == 0) = true := by rw [beq_iff_eq]; exact hrl0
    clear hrl0
    go_wp2
    go_ret
    exact ⟨rfl, HB5.out⟩
  have hA' : (((frameOf (headS n s.kind.toNat s.first.toNat)).length : Nat) : Int) ≤ (c : Int) := by rw [hfh]; omega
  obtain ⟨q00, hq1, hq2, hq3⟩ := exists_q (atS n s) c (by omega) (blocksS n s.recs).length
  have hR := HRC1.out q00 hq1 hq2 hq3
  obtain ⟨RR, hRR⟩ : ∃ RR, RR = recS8 ((encS8 n s).take c) := ⟨_, rfl⟩
  rw [← hRR] at HRE hR
  have HREC0 : Hid (∀ q, q ≤ (blocksS n s.recs).length → atS n s q ≤ c → (q = (blocksS n s.recs).length ∨ c < atS n s (q + 1)) → RR.1.recs = (s.recs.take (16 * q)).map (upgR n) ∧ RR.2.1 = atS n s q) := hide (fun q h1 h2 h3 => by
    have h := HRC1.out q h1 h2 h3
    rw [← hRR] at h
    rw [h]
    exact ⟨rfl, rfl⟩)
  have hRk : RR.1.kind = s.kind ∧ RR.1.first = s.first ∧ RR.2.2 = true := by
    rw [hR]
    exact ⟨rfl, rfl, rfl⟩
  obtain ⟨⟨rk, rf, rl⟩, rn, ris⟩ := RR
  simp only at HRE HREC0 hRk
  obtain ⟨hrk, hrf, hris⟩ := hRk
  subst hrk hrf hris
  have HSA : Hid (∀ v1 v2 W, RdR W v1 rl → RdR W v2 rl → Calls Tryd.prog 15 #[.agg #[.int .i64 s.kind, .int .i64 s.first, v1], .agg #[.int .i64 s.kind, .int .i64 s.first, v2]] W fun e w' => e = .returned (.bool true) ∧ Below W.heap.size W w') := hide (fun v1 v2 W h1 h2 => by
    have h := refSameG_any _ ⟨s.kind, s.first, rl⟩ _ ⟨s.kind, s.first, rl⟩ W ⟨v1, rfl, h1, hki⟩ ⟨v2, rfl, h2, hki⟩
    rw [sameG_self] at h
    exact h)
  clear hR hRR hq1 hq2 hq3 HRC0 HRC1 HBD1 hdc ha0 hi64 hki
  have hA0 : atS n s 0 ≤ c := by omega
  have HA0 : Hid ((frameOf (headS n s.kind.toNat s.first.toNat)).length = atS n s 0) := hide hfh
  obtain ⟨BN, hBN⟩ : ∃ BN, BN = (blocksS n s.recs).length := ⟨_, rfl⟩
  rw [← hBN] at HREC0 HBO HATS hbn
  generalize hBB : (blocksS n s.recs) = BL at *
  generalize frameOf (headS n s.kind.toNat s.first.toNat) = FH at *
  generalize encS8 n s = E at *
  generalize atS n s = AT at *
  obtain ⟨kind, first, recs⟩ := s
  simp only at *
  have HREC : Hid (∀ q, q ≤ BN → AT q ≤ c → (q = BN ∨ c < AT (q + 1)) → rl = (recs.take (16 * q)).map (upgR n) ∧ rn = AT q) := HREC0
  obtain ⟨IQ, hIQ⟩ : ∃ IQ : Nat → Nat, IQ = fun q => 16 * q := ⟨_, rfl⟩
  have HIQ : Hid (∀ q, IQ q = 16 * q) := hide (fun q => by rw [hIQ])
  obtain ⟨MQ, hMQ⟩ : ∃ MQ : Nat → Nat, MQ = fun q => min (16 * q) recs.length := ⟨_, rfl⟩
  have HMQ : Hid (∀ q, MQ q = min (16 * q) recs.length) := hide (fun q => by rw [hMQ])
  clear he hl hb hm hlen hA hfh hIQ hMQ hBN hBB HREC0
  go_enter Tryd.func6, Tryd.ntmps6
  go_wp2_with fail
  refine (HA.out _ (HB0.out _)).mono ?_
  rintro e W1 ⟨rfl, hb1⟩
  have HX1 := hide ((X1.out _).below hb1 (Nat.le_refl _))
  have HB1 := hide ((HB0.out _).trans (hb1.mono (HB0.out _).size))
  clear hb1 HA X1 HB0
  obtain ⟨q0, -⟩ := HX1.out.cell 0
  obtain ⟨q1, -⟩ := HX1.out.cell 1
  obtain ⟨q2, -⟩ := HX1.out.cell 2
  go_wp2_with fail
  refine (HEN.out _ HB1.out).mono ?_
  rintro e W2 ⟨v2, rfl, ho2, hb2⟩
  have HO2 := hide ho2.rd
  obtain ⟨a2, c2, rfl, -⟩ := ho2.rd
  have HX2 := hide (HX1.out.below hb2 (Nat.le_refl _))
  have HB2 := hide (HB1.out.trans (hb2.mono HB1.out.size))
  obtain ⟨hrf, hcf⟩ := cutB_front W2 a2 E c2 HO2.out c (by omega)
  have kf := hcf (c : Int) rfl
  have HRF := hide hrf
  clear ho2 hb2 q0 q1 q2 HEN HX1 HB1 hrf hcf
  go_wp2_with fail
  refine (HDE.out _ _ HRF.out HB2.out).mono ?_
  rintro e W3 ⟨v3, rfl, hr3, hb3⟩
  obtain ⟨a3, c3, rfl, -⟩ := hr3
  obtain ⟨NA, hNA⟩ : ∃ N, N = W3.heap.size := ⟨_, rfl⟩
  obtain ⟨WA, hWA⟩ : ∃ V, V = W3.alloc (.cells #[.int .i64 dk, .int .i64 df, .slice a3 dl.length c3] 24) := ⟨_, rfl⟩
  have hbA : Below W3.heap.size W3 WA := by rw [hWA]; exact (Below.refl _ _).alloc (Nat.le_refl _) _
  have hbA2 : Below W2.heap.size W2 WA := hb3.trans (hbA.mono hb3.size)
  have HXA := hide (HX2.out.below hbA2 (Nat.le_refl _))
  have HRA := hide (HRF.out.below hbA2 (Nat.le_refl _))
  have HBA := hide (HB2.out.trans (hbA2.mono HB2.out.size))
  go_upto_region 8 with fail
  rw [← hWA, ← hNA]
  clear hWA hNA hbA hbA2 hb3 HX2 HB2 HDE HRF
  go_wp2_with fail
  refine (HRE.out _ _ HRA.out HBA.out).mono ?_
  rintro e W4 ⟨v4, rfl, hr4, hb4⟩
  have HR4 := hide hr4
  obtain ⟨a4, c4, rfl, -⟩ := id hr4
  obtain ⟨NB, hNB⟩ : ∃ N, N = W4.heap.size := ⟨_, rfl⟩
  obtain ⟨WB, hWB⟩ : ∃ V, V = W4.alloc (.cells #[.int .i64 kind, .int .i64 first, .slice a4 rl.length c4] 24) := ⟨_, rfl⟩
  have hbB : Below W4.heap.size W4 WB := by rw [hWB]; exact (Below.refl _ _).alloc (Nat.le_refl _) _
  have HYB : Hid (Bsg WB NB #[.int .i64 kind, .int .i64 first, .slice a4 rl.length c4]) := hide (by rw [hWB, hNB]; exact heap_alloc_new W4 _)
  have HLB := hide (HR4.out.below hbB (Nat.le_refl _))
  have hbB2 : Below WA.heap.size WA WB := hb4.trans (hbB.mono hb4.size)
  have HXB := hide (HXA.out.below hbB2 (Nat.le_refl _))
  have HBB := hide (HBA.out.trans (hbB2.mono HBA.out.size))
  go_upto_region 9 with fail
  rw [← hWB, ← hNB]
  clear hWB hNB hbB hbB2 hb4 hr4 HR4 HXA HBA HRE HRA kf
  obtain ⟨q0, -⟩ := HXB.out.cell 0
  obtain ⟨q1, -⟩ := HXB.out.cell 1
  go_wp2_with fail
  refine (HHE.out _ HBB.out).mono ?_
  rintro e W5 ⟨v5, rfl, ho5, hb5⟩
  obtain ⟨a5, c5, rfl, -⟩ := ho5.rd
  have HX5 := hide (HXB.out.below hb5 (Nat.le_refl _))
  have HY5 := hide (HYB.out.below hb5 (Nat.le_refl _))
  have HL5 := hide (HLB.out.below hb5 (Nat.le_refl _))
  have HB5 := hide (HBB.out.trans (hb5.mono HBB.out.size))
  clear ho5 hb5 q0 q1 HXB HYB HLB HBB HHE
  have HEND : Hid True := hide trivial
  have hrl5 : FH.length = AT 0 := HA0.out
  rw [hrl5] at hA' ⊢
  clear hrl5 HA0
  go_wp2
  go_loopw [17, 18, 19] (fun tm ta ti wr => ∃ q : Nat, ti = .int .i64 (IQ q : Int) ∧ tm = .int .i64 (MQ q : Int) ∧ ta = .int .i64 (AT q : Int) ∧ q ≤ BN ∧ AT q ≤ c ∧ Hid (Bsg wr w.heap.size #[.int .i64 kind, .int .i64 first, .slice al recs.length cl]) ∧ Hid (Bsg wr NB #[.int .i64 kind, .int .i64 first, .slice a4 rl.length c4]) ∧ Hid (RdR wr (.slice a4 rl.length c4) rl) ∧ Hid (Below w.heap.size w wr)) (fun _ _ ti _ => 16 * BN + 16 - (intOf ti).toNat)
  case atStart =>
    have e1 : IQ 0 = 0 := HIQ.out 0
    have e2 : MQ 0 = 0 := by have := HMQ.out 0; omega
    exact ⟨0, by rw [e1]; rfl, by rw [e2]; rfl, rfl, Nat.zero_le _, hA0, HX5, HY5, HL5, HB5⟩
  case round =>
    obtain ⟨q, rfl, rfl, rfl, hq, hqa, HXI0, HYI0, HLI0, HBI0⟩ := hrel
    clear HX5 HY5 HL5 HB5
    obtain ⟨p2, -⟩ := HXI0.out.cell 2
    by_cases hlt : q < BN
    case neg =>
      have hge : ¬ (IQ q : Int) < (recs.length : Int) := by have := HIQ.out q; omega
      have hqe : q = BN := by omega
      have HQE := hide hqe
      have HXI := HXI0
      have HYI := HYI0
      have HLI := HLI0
      have HBI := HBI0
      clear HXI0 HYI0 HLI0 HBI0 p2 hqe
      have HMl := hide (HMQ.out q)
      have hmle : MQ q ≤ recs.length := by have := HMl.out; omega
      have HTK : Hid (recs.take (MQ q) = recs.take (16 * q)) := hide (by
        rw [HMl.out]
        rcases Nat.le_total (16 * q) recs.length with h | h
        · rw [Nat.min_eq_left h]
        · rw [Nat.min_eq_right h, List.take_of_length_le h, List.take_length])
      obtain ⟨hrl, hrn⟩ := HREC.out q hq hqa (.inl HQE.out)
      have HUPq : Hid (∀ W, Below w.heap.size w W → Calls Tryd.prog 16 #[.int .i64 (n : Int), .agg #[.int .i64 kind, .int .i64 first, .slice al (MQ q) cl]] W fun e w' => ∃ vl, e = .returned (.agg #[.int .i64 kind, .int .i64 first, vl]) ∧ RdR w' vl rl ∧ Below W.heap.size W w') := hide (fun W hb => by
        have h := HUP.out (MQ q) hmle W hb
        rw [HTK.out, ← hrl] at h
        exact h)
      have kfr := fun W => run_front_recs W al recs.length cl (MQ q : Int) (MQ q) rfl (by have := HCAP.out; omega)
      have hrn' : ((rn : Int) == (AT q : Int)) = true := by rw [beq_iff_eq, hrn]
      obtain ⟨q0, -⟩ := HXI.out.cell 0
      obtain ⟨q1, -⟩ := HXI.out.cell 1
      obtain ⟨q2, -⟩ := HXI.out.cell 2
      have hxl := HXI.out.lt
      clear HMl HTK hrl hrn HREC HUP HIQ HMQ HATS HBO HATL HEND
      generalize MQ q = mq at *
      generalize AT q = aq at *
      go_wp2
      go_cut [23] (fun x wc => ∃ N, x = .pointer (some ⟨N, 0, none⟩) ∧ Hid (Bsg wc N #[.int .i64 kind, .int .i64 first, .slice al mq cl]) ∧ Hid (Below wr.heap.size wr wc))
      case first =>
        go_region
        all_goals
          go_wp2_with fail
          go_meet
          first
            | exact ⟨_, rfl, hide (heap_alloc_new wr _), hide (((Below.refl _ _).alloc (Nat.le_refl _) _).drew)⟩
            | exact ⟨_, rfl, hide (heap_alloc_new wr.drew _), hide (((Below.refl _ _).drew).trans ((Below.refl _ _).alloc (Nat.le_refl _) _))⟩
      case rest =>
        obtain ⟨NW, rfl, HYW, HBW⟩ := hcut
        have HYR := hide (HYI.out.below HBW.out (Nat.le_refl _))
        have HLR := hide (HLI.out.below HBW.out (Nat.le_refl _))
        have HBR := hide (HBI.out.trans (HBW.out.mono HBI.out.size))
        clear q0 q1 q2 kfr HYI HLI HBI HXI HBW
        have HBD : Hid (Below wc.heap.size wc wc.drew) := hide ((Below.refl _ _).drew)
        have HBWD : Hid (Below w.heap.size w wc.drew) := hide HBR.out.drew
        have HKA : Hid (∀ W, Below wc.heap.size wc W → W.cell? ⟨NB, 0, none⟩ = some (.int .i64 kind) ∧ W.cell? ⟨NB, 1, none⟩ = some (.int .i64 first) ∧ W.cell? ⟨NB, 2, none⟩ = some (.slice a4 rl.length c4) ∧ W.cell? ⟨NW, 0, none⟩ = some (.int .i64 kind) ∧ W.cell? ⟨NW, 1, none⟩ = some (.int .i64 first) ∧ W.cell? ⟨NW, 2, none⟩ = some (.slice al mq cl)) := hide (fun W hb => by
          have h := HYR.out.below hb (Nat.le_refl _)
          have h' := HYW.out.below hb (Nat.le_refl _)
          exact ⟨(h.cell 0).1, (h.cell 1).1, (h.cell 2).1, (h'.cell 0).1, (h'.cell 1).1, (h'.cell 2).1⟩)
        have HK0 := hide (HKA.out _ HBD.out)
        go_wp2
        go_cut [24] (fun x wd => x = .bool true ∧ Hid (Below w.heap.size w wd))
        case first =>
          go_region_held (fun w' => w'.cell? ⟨NB, 0, none⟩ = some (.int .i64 kind) ∧ w'.cell? ⟨NB, 1, none⟩ = some (.int .i64 first) ∧ w'.cell? ⟨NB, 2, none⟩ = some (.slice a4 rl.length c4) ∧ w'.cell? ⟨NW, 0, none⟩ = some (.int .i64 kind) ∧ w'.cell? ⟨NW, 1, none⟩ = some (.int .i64 first) ∧ w'.cell? ⟨NW, 2, none⟩ = some (.slice al mq cl)) (first | exact HK0.out | exact HK7.out | exact HK8.out)
            (first
              | (go_at_call 16; refine (HUPq.out wc.drew HBWD.out).mono ?_; rintro e W7 ⟨v7, rfl, hr7, hb7⟩; have HB7 := hide (HBD.out.trans hb7); have HK7 := hide (HKA.out W7 HB7.out); have HL7 := hide hr7; have HLR7 := hide (HLR.out.below HB7.out (Nat.le_refl _)); obtain ⟨a7, c7, rfl, -⟩ := id hr7; clear hr7 hb7)
              | (go_at_call 15; refine (HSA.out _ _ W7 HLR7.out HL7.out).mono ?_; rintro e W8 ⟨rfl, hb8⟩; have HB8 := hide (HB7.out.trans (hb8.mono HB7.out.size)); have HK8 := hide (HKA.out W8 HB8.out); have HBF := hide (HBR.out.trans (HB8.out.mono HBR.out.size)); clear hb8))
          all_goals
            go_wp2_with fail
            go_meet
            exact ⟨rfl, HBF⟩
        case rest =>
          obtain ⟨rfl, HB9⟩ := hcut
          go_wp2
          go_ret
          exact ⟨rfl, HB9.out⟩
    have hge : (IQ q : Int) < (recs.length : Int) := by have := HIQ.out q; omega
    have HBk := hide (HBO.out q hlt)
    have HAk := hide (HATS.out q hlt)
    generalize frameOf (BL.getD q []) = FQ at *
    obtain ⟨fl, hfl⟩ : ∃ fl, fl = FQ.length := ⟨_, rfl⟩
    rw [← hfl] at HAk
    have hflb : fl ≤ 90000 := by have := HATL.out (q + 1); have := HAk.out; omega
    have hqab : (AT q : Int) ≤ 90000 := by have := HATL.out q; omega
    have hi0 : (IQ q : Int) + 16 ≤ 1000 := by omega
    have hto'0 : True := trivial
    have HCUT : Hid (∀ j : Int, j = min ((IQ q : Int) + 16) (recs.length : Int) → ∃ v', (Instr.sliceAt 22 (.slice al recs.length cl) (some (.int .i64 (IQ q : Int))) (some (.int .i64 j)) none).run Tryd.prog wr = .ok v' wr ∧ RdR wr v' ((recs.drop (16 * q)).take 16)) := hide (fun j hj => by
      have hiq := HIQ.out q
      have h := run_cutR_lh wr _ recs (HRR.out.below HBI0.out (Nat.le_refl _)) .i64 .i64 (IQ q : Int) j (by omega) (by omega) (by omega)
      rw [Int.toNat_natCast, hiq] at h
      obtain ⟨v', h1, h2⟩ := h
      refine ⟨v', by rw [hiq]; exact h1, ?_⟩
      by_cases hc : 16 * q + 16 ≤ recs.length
      · have e : j.toNat - 16 * q = 16 := by omega
        rw [e] at h2
        exact h2
      · have e : (recs.drop (16 * q)).take (j.toNat - 16 * q) = (recs.drop (16 * q)).take 16 := by
          rw [List.take_of_length_le (by rw [List.length_drop]; omega), List.take_of_length_le (by rw [List.length_drop]; omega)]
        rw [e] at h2
        exact h2)
    by_cases hen : (recs.length : Int) < (IQ q : Int) + 16
    · have HC := hide (HCUT.out (recs.length : Int) (by omega))
      clear HCUT
      go_wp2_with (refine wpList_cutR _ rfl _ _ _ _ rfl _ HC.out ?_)
      intro v6 hr6
      have HR6 := hide hr6
      clear hr6 HC
      go_wp2_with fail
      refine (HBk.out _ _ HR6.out HBI0.out).mono ?_
      rintro e W6 ⟨v6', rfl, ho6, hb6⟩
      obtain ⟨a6, c6, rfl, -⟩ := ho6.rd
      have HXI := hide (HXI0.out.below hb6 (Nat.le_refl _))
      have HYI := hide (HYI0.out.below hb6 (Nat.le_refl _))
      have HLI := hide (HLI0.out.below hb6 (Nat.le_refl _))
      have HBI := hide (HBI0.out.trans (hb6.mono HBI0.out.size))
      clear ho6 hb6 HR6 p2 HXI0 HYI0 HLI0 HBI0
      by_cases hto : c < AT (q + 1)
      · have hto' : (c : Int) < (AT q : Int) + (fl : Int) := by rw [HAk.out] at hto; omega
        clear hto'0
        have HMl := hide (HMQ.out q)
        have hmle : MQ q ≤ recs.length := by have := HMl.out; omega
        have HTK : Hid (recs.take (MQ q) = recs.take (16 * q)) := hide (by
          rw [HMl.out]
          rcases Nat.le_total (16 * q) recs.length with h | h
          · rw [Nat.min_eq_left h]
          · rw [Nat.min_eq_right h, List.take_of_length_le h, List.take_length])
        obtain ⟨hrl, hrn⟩ := HREC.out q (by omega) hqa (.inr hto)
        have HUPq : Hid (∀ W, Below w.heap.size w W → Calls Tryd.prog 16 #[.int .i64 (n : Int), .agg #[.int .i64 kind, .int .i64 first, .slice al (MQ q) cl]] W fun e w' => ∃ vl, e = .returned (.agg #[.int .i64 kind, .int .i64 first, vl]) ∧ RdR w' vl rl ∧ Below W.heap.size W w') := hide (fun W hb => by
          have h := HUP.out (MQ q) hmle W hb
          rw [HTK.out, ← hrl] at h
          exact h)
        have kfr := fun W => run_front_recs W al recs.length cl (MQ q : Int) (MQ q) rfl (by have := HCAP.out; omega)
        have hrn' : ((rn : Int) == (AT q : Int)) = true := by rw [beq_iff_eq, hrn]
        obtain ⟨q0, -⟩ := HXI.out.cell 0
        obtain ⟨q1, -⟩ := HXI.out.cell 1
        obtain ⟨q2, -⟩ := HXI.out.cell 2
        have hxl := HXI.out.lt
        clear HMl HTK hrl hrn HREC HUP HIQ HMQ HATS HBO HATL HEND
        generalize MQ q = mq at *
        generalize AT q = aq at *
        go_wp2
        go_cut [23] (fun x wc => ∃ N, x = .pointer (some ⟨N, 0, none⟩) ∧ Hid (Bsg wc N #[.int .i64 kind, .int .i64 first, .slice al mq cl]) ∧ Hid (Below W6.heap.size W6 wc))
        case first =>
          go_region
          all_goals
            go_wp2_with fail
            go_meet
            first
              | exact ⟨_, rfl, hide (heap_alloc_new W6 _), hide (((Below.refl _ _).alloc (Nat.le_refl _) _).drew)⟩
              | exact ⟨_, rfl, hide (heap_alloc_new W6.drew _), hide (((Below.refl _ _).drew).trans ((Below.refl _ _).alloc (Nat.le_refl _) _))⟩
        case rest =>
          obtain ⟨NW, rfl, HYW, HBW⟩ := hcut
          have HYR := hide (HYI.out.below HBW.out (Nat.le_refl _))
          have HLR := hide (HLI.out.below HBW.out (Nat.le_refl _))
          have HBR := hide (HBI.out.trans (HBW.out.mono HBI.out.size))
          clear q0 q1 q2 kfr HYI HLI HBI HXI HBW
          have HBD : Hid (Below wc.heap.size wc wc.drew) := hide ((Below.refl _ _).drew)
          have HBWD : Hid (Below w.heap.size w wc.drew) := hide HBR.out.drew
          have HKA : Hid (∀ W, Below wc.heap.size wc W → W.cell? ⟨NB, 0, none⟩ = some (.int .i64 kind) ∧ W.cell? ⟨NB, 1, none⟩ = some (.int .i64 first) ∧ W.cell? ⟨NB, 2, none⟩ = some (.slice a4 rl.length c4) ∧ W.cell? ⟨NW, 0, none⟩ = some (.int .i64 kind) ∧ W.cell? ⟨NW, 1, none⟩ = some (.int .i64 first) ∧ W.cell? ⟨NW, 2, none⟩ = some (.slice al mq cl)) := hide (fun W hb => by
            have h := HYR.out.below hb (Nat.le_refl _)
            have h' := HYW.out.below hb (Nat.le_refl _)
            exact ⟨(h.cell 0).1, (h.cell 1).1, (h.cell 2).1, (h'.cell 0).1, (h'.cell 1).1, (h'.cell 2).1⟩)
          have HK0 := hide (HKA.out _ HBD.out)
          go_wp2
          go_cut [24] (fun x wd => x = .bool true ∧ Hid (Below w.heap.size w wd))
          case first =>
            go_region_held (fun w' => w'.cell? ⟨NB, 0, none⟩ = some (.int .i64 kind) ∧ w'.cell? ⟨NB, 1, none⟩ = some (.int .i64 first) ∧ w'.cell? ⟨NB, 2, none⟩ = some (.slice a4 rl.length c4) ∧ w'.cell? ⟨NW, 0, none⟩ = some (.int .i64 kind) ∧ w'.cell? ⟨NW, 1, none⟩ = some (.int .i64 first) ∧ w'.cell? ⟨NW, 2, none⟩ = some (.slice al mq cl)) (first | exact HK0.out | exact HK7.out | exact HK8.out)
              (first
                | (go_at_call 16; refine (HUPq.out wc.drew HBWD.out).mono ?_; rintro e W7 ⟨v7, rfl, hr7, hb7⟩; have HB7 := hide (HBD.out.trans hb7); have HK7 := hide (HKA.out W7 HB7.out); have HL7 := hide hr7; have HLR7 := hide (HLR.out.below HB7.out (Nat.le_refl _)); obtain ⟨a7, c7, rfl, -⟩ := id hr7; clear hr7 hb7)
                | (go_at_call 15; refine (HSA.out _ _ W7 HLR7.out HL7.out).mono ?_; rintro e W8 ⟨rfl, hb8⟩; have HB8 := hide (HB7.out.trans (hb8.mono HB7.out.size)); have HK8 := hide (HKA.out W8 HB8.out); have HBF := hide (HBR.out.trans (HB8.out.mono HBR.out.size)); clear hb8))
            all_goals
              go_wp2_with fail
              go_meet
              exact ⟨rfl, HBF⟩
          case rest =>
            obtain ⟨rfl, HB9⟩ := hcut
            go_wp2
            go_ret
            exact ⟨rfl, HB9.out⟩
      · have hto' : ¬ (c : Int) < (AT q : Int) + (fl : Int) := by rw [HAk.out] at hto; omega
        have hat : (AT q : Int) + (fl : Int) = (AT (q + 1) : Int) := by rw [HAk.out]; omega
        have HM1 : Hid ((recs.length : Int) = (MQ (q + 1) : Int)) := hide (by have := HMQ.out (q + 1); have := HIQ.out q; omega)
        have hiq : (IQ q : Int) + 16 = (IQ (q + 1) : Int) := by have := HIQ.out q; have := HIQ.out (q + 1); omega
        have hiq0 : 0 ≤ (IQ q : Int) := by omega
        have hib : IQ q + 16 ≤ 16 * BN := by have := HIQ.out q; omega
        have hiq1 : (IQ q : Int) ≤ 100 := by omega
        have hms : 16 * BN + 16 - IQ (q + 1) < 16 * BN + 16 - IQ q := by have := HIQ.out q; have := HIQ.out (q + 1); omega
        have hal : (AT q : Int) + (fl : Int) ≤ 90000 := by rw [hat]; have := HATL.out (q + 1); omega
        go_wp2
        go_roundw
        case rel =>
          have hmq := HM1.out
          first
            | (refine ⟨q + 1, ?_, ?_, ?_, by omega, by omega, HXI, HYI, HLI, HBI⟩ <;> exact congrArg (Value.int .i64) (by omega))
            | fail "here"
        case measure =>
          first
            | (show (16 * BN + 16 - ((IQ q : Int) + 16).toNat < 16 * BN + 16 - ((IQ q : Int)).toNat); omega)
            | (show (16 * BN + 16 - ((MQ (q + 1) : Int)).toNat < 16 * BN + 16 - ((IQ q : Int)).toNat); omega)
            | (show (16 * BN + 16 - ((IQ (q + 1) : Int)).toNat < 16 * BN + 16 - ((IQ q : Int)).toNat); omega)
            | (simp only [intOf]; omega)
    · have HC := hide (HCUT.out ((IQ q : Int) + 16) (by omega))
      clear HCUT
      go_wp2_with (refine wpList_cutR _ rfl _ _ _ _ rfl _ HC.out ?_)
      intro v6 hr6
      have HR6 := hide hr6
      clear hr6 HC
      go_wp2_with fail
      refine (HBk.out _ _ HR6.out HBI0.out).mono ?_
      rintro e W6 ⟨v6', rfl, ho6, hb6⟩
      obtain ⟨a6, c6, rfl, -⟩ := ho6.rd
      have HXI := hide (HXI0.out.below hb6 (Nat.le_refl _))
      have HYI := hide (HYI0.out.below hb6 (Nat.le_refl _))
      have HLI := hide (HLI0.out.below hb6 (Nat.le_refl _))
      have HBI := hide (HBI0.out.trans (hb6.mono HBI0.out.size))
      clear ho6 hb6 HR6 p2 HXI0 HYI0 HLI0 HBI0
      by_cases hto : c < AT (q + 1)
      · have hto' : (c : Int) < (AT q : Int) + (fl : Int) := by rw [HAk.out] at hto; omega
        clear hto'0
        have HMl := hide (HMQ.out q)
        have hmle : MQ q ≤ recs.length := by have := HMl.out; omega
        have HTK : Hid (recs.take (MQ q) = recs.take (16 * q)) := hide (by
          rw [HMl.out]
          rcases Nat.le_total (16 * q) recs.length with h | h
          · rw [Nat.min_eq_left h]
          · rw [Nat.min_eq_right h, List.take_of_length_le h, List.take_length])
        obtain ⟨hrl, hrn⟩ := HREC.out q (by omega) hqa (.inr hto)
        have HUPq : Hid (∀ W, Below w.heap.size w W → Calls Tryd.prog 16 #[.int .i64 (n : Int), .agg #[.int .i64 kind, .int .i64 first, .slice al (MQ q) cl]] W fun e w' => ∃ vl, e = .returned (.agg #[.int .i64 kind, .int .i64 first, vl]) ∧ RdR w' vl rl ∧ Below W.heap.size W w') := hide (fun W hb => by
          have h := HUP.out (MQ q) hmle W hb
          rw [HTK.out, ← hrl] at h
          exact h)
        have kfr := fun W => run_front_recs W al recs.length cl (MQ q : Int) (MQ q) rfl (by have := HCAP.out; omega)
        have hrn' : ((rn : Int) == (AT q : Int)) = true := by rw [beq_iff_eq, hrn]
        obtain ⟨q0, -⟩ := HXI.out.cell 0
        obtain ⟨q1, -⟩ := HXI.out.cell 1
        obtain ⟨q2, -⟩ := HXI.out.cell 2
        have hxl := HXI.out.lt
        clear HMl HTK hrl hrn HREC HUP HIQ HMQ HATS HBO HATL HEND
        generalize MQ q = mq at *
        generalize AT q = aq at *
        go_wp2
        go_cut [23] (fun x wc => ∃ N, x = .pointer (some ⟨N, 0, none⟩) ∧ Hid (Bsg wc N #[.int .i64 kind, .int .i64 first, .slice al mq cl]) ∧ Hid (Below W6.heap.size W6 wc))
        case first =>
          go_region
          all_goals
            go_wp2_with fail
            go_meet
            first
              | exact ⟨_, rfl, hide (heap_alloc_new W6 _), hide (((Below.refl _ _).alloc (Nat.le_refl _) _).drew)⟩
              | exact ⟨_, rfl, hide (heap_alloc_new W6.drew _), hide (((Below.refl _ _).drew).trans ((Below.refl _ _).alloc (Nat.le_refl _) _))⟩
        case rest =>
          obtain ⟨NW, rfl, HYW, HBW⟩ := hcut
          have HYR := hide (HYI.out.below HBW.out (Nat.le_refl _))
          have HLR := hide (HLI.out.below HBW.out (Nat.le_refl _))
          have HBR := hide (HBI.out.trans (HBW.out.mono HBI.out.size))
          clear q0 q1 q2 kfr HYI HLI HBI HXI HBW
          have HBD : Hid (Below wc.heap.size wc wc.drew) := hide ((Below.refl _ _).drew)
          have HBWD : Hid (Below w.heap.size w wc.drew) := hide HBR.out.drew
          have HKA : Hid (∀ W, Below wc.heap.size wc W → W.cell? ⟨NB, 0, none⟩ = some (.int .i64 kind) ∧ W.cell? ⟨NB, 1, none⟩ = some (.int .i64 first) ∧ W.cell? ⟨NB, 2, none⟩ = some (.slice a4 rl.length c4) ∧ W.cell? ⟨NW, 0, none⟩ = some (.int .i64 kind) ∧ W.cell? ⟨NW, 1, none⟩ = some (.int .i64 first) ∧ W.cell? ⟨NW, 2, none⟩ = some (.slice al mq cl)) := hide (fun W hb => by
            have h := HYR.out.below hb (Nat.le_refl _)
            have h' := HYW.out.below hb (Nat.le_refl _)
            exact ⟨(h.cell 0).1, (h.cell 1).1, (h.cell 2).1, (h'.cell 0).1, (h'.cell 1).1, (h'.cell 2).1⟩)
          have HK0 := hide (HKA.out _ HBD.out)
          go_wp2
          go_cut [24] (fun x wd => x = .bool true ∧ Hid (Below w.heap.size w wd))
          case first =>
            go_region_held (fun w' => w'.cell? ⟨NB, 0, none⟩ = some (.int .i64 kind) ∧ w'.cell? ⟨NB, 1, none⟩ = some (.int .i64 first) ∧ w'.cell? ⟨NB, 2, none⟩ = some (.slice a4 rl.length c4) ∧ w'.cell? ⟨NW, 0, none⟩ = some (.int .i64 kind) ∧ w'.cell? ⟨NW, 1, none⟩ = some (.int .i64 first) ∧ w'.cell? ⟨NW, 2, none⟩ = some (.slice al mq cl)) (first | exact HK0.out | exact HK7.out | exact HK8.out)
              (first
                | (go_at_call 16; refine (HUPq.out wc.drew HBWD.out).mono ?_; rintro e W7 ⟨v7, rfl, hr7, hb7⟩; have HB7 := hide (HBD.out.trans hb7); have HK7 := hide (HKA.out W7 HB7.out); have HL7 := hide hr7; have HLR7 := hide (HLR.out.below HB7.out (Nat.le_refl _)); obtain ⟨a7, c7, rfl, -⟩ := id hr7; clear hr7 hb7)
                | (go_at_call 15; refine (HSA.out _ _ W7 HLR7.out HL7.out).mono ?_; rintro e W8 ⟨rfl, hb8⟩; have HB8 := hide (HB7.out.trans (hb8.mono HB7.out.size)); have HK8 := hide (HKA.out W8 HB8.out); have HBF := hide (HBR.out.trans (HB8.out.mono HBR.out.size)); clear hb8))
            all_goals
              go_wp2_with fail
              go_meet
              exact ⟨rfl, HBF⟩
          case rest =>
            obtain ⟨rfl, HB9⟩ := hcut
            go_wp2
            go_ret
            exact ⟨rfl, HB9.out⟩
      · have hto' : ¬ (c : Int) < (AT q : Int) + (fl : Int) := by rw [HAk.out] at hto; omega
        have hat : (AT q : Int) + (fl : Int) = (AT (q + 1) : Int) := by rw [HAk.out]; omega
        have HM1 : Hid ((IQ q : Int) + 16 = (MQ (q + 1) : Int)) := hide (by have := HMQ.out (q + 1); have := HIQ.out q; omega)
        have hiq : (IQ q : Int) + 16 = (IQ (q + 1) : Int) := by have := HIQ.out q; have := HIQ.out (q + 1); omega
        have hiq0 : 0 ≤ (IQ q : Int) := by omega
        have hib : IQ q + 16 ≤ 16 * BN := by have := HIQ.out q; omega
        have hiq1 : (IQ q : Int) ≤ 100 := by omega
        have hms : 16 * BN + 16 - IQ (q + 1) < 16 * BN + 16 - IQ q := by have := HIQ.out q; have := HIQ.out (q + 1); omega
        have hal : (AT q : Int) + (fl : Int) ≤ 90000 := by rw [hat]; have := HATL.out (q + 1); omega
        go_wp2
        go_roundw
        case rel =>
          have hmq := HM1.out
          first
            | (refine ⟨q + 1, ?_, ?_, ?_, by omega, by omega, HXI, HYI, HLI, HBI⟩ <;> exact congrArg (Value.int .i64) (by omega))
            | fail "here"
        case measure =>
          first
            | (show (16 * BN + 16 - ((IQ q : Int) + 16).toNat < 16 * BN + 16 - ((IQ q : Int)).toNat); omega)
            | (show (16 * BN + 16 - ((MQ (q + 1) : Int)).toNat < 16 * BN + 16 - ((IQ q : Int)).toNat); omega)
            | (show (16 * BN + 16 - ((IQ (q + 1) : Int)).toNat < 16 * BN + 16 - ((IQ q : Int)).toNat); omega)
            | (simp only [intOf]; omega)

theorem own : ownKnob Tryd.prog.godebug = none := by kernel_rfl
theorem laidOut : laidOutB Tryd.prog = true := by kernel_rfl

set_option linter.unusedVariables false in
set_option maxRecDepth 100000 in
theorem lifted (os : Os) (started : os.Started) (H : Type) (enc : TypeId × Value → H) :
    ReturnsInHanded {} Tryd.checked os 6 .any (fun w args => (Rows.segmentCutsSpec.pre enc Tryd.prog Tryd.f6 Rows.segmentCutsRow.domain false w args ∧ laidMetH Tryd.prog Rows.segmentCutsRow.laid w) ∧ sizedMet enc Tryd.prog Tryd.f6 (OpenSpec.ofChange Rows.segmentCutsSpec) false w args) (Rows.segmentCutsSpec.post enc Tryd.prog Tryd.f6 false true false false) := by
  refine returnsInHanded_of_change_and (C := Tryd.checked) (X := fun w _ => laidMetH Tryd.prog Rows.segmentCutsRow.laid w) (fun _ _ _ hh h => h.of_heap hh) own started (by kernel_rfl) Tryd.func6
    (ChangeSpec.witness_shaped (enc := enc) (C := Tryd.checked) (os := os) (X := fun w _ => laidMetH Tryd.prog Rows.segmentCutsRow.laid w) false (World.doorLaid Tryd.prog 400 os) #[.int .i64 0, .agg #[.int .i64 0, .int .i64 0, .slice none 0 0], .int .i64 0] 8 rfl (World.shaped_of_RefB (by kernel_rfl) (by kernel_rfl)) (by kernel_rfl) (by kernel_rfl) (by kernel_rfl) (door_met os _)) ?_
  intro W base args ds gs before hval0 hW hcnd _ hL _
  have hval : ∀ (j : Nat) t v, Tryd.f6.params[j]? = some t → args[j]? = some v → Value.okWide Tryd.prog W .any base t v := hval0
  have hW' := hW
  obtain ⟨p, q, hA0, hV, rfl, hfz, hnd⟩ := hW
  have hA : DataW.TrodAll enc Tryd.prog W 0 (fun _ => true) true Tryd.f6.params.toList args.toList ds p := hA0
  rw [Tryd.params6] at hA hval
  obtain ⟨v0, vs0, d0, ds0, p0, q0, hargs, rfl, rfl, h0, r0⟩ := trodAll_cons hA
  obtain ⟨v1, vs1, d1, ds1, p1, q1, rfl, rfl, rfl, h1, r1⟩ := trodAll_cons r0
  obtain ⟨v2, vs2, d2, ds2, p2, q2, rfl, rfl, rfl, h2, r2⟩ := trodAll_cons r1
  obtain ⟨rfl, rfl, rfl⟩ := trodAll_nil r2
  obtain rfl : args = #[v0, v1, v2] := by cases args; simp_all
  obtain ⟨rfl, rfl⟩ := trodVars_none hV
  obtain ⟨a0, rfl, rfl, rfl, w0⟩ := open_int Tryd.underlying3 (hval 0 3 v0 rfl rfl) h0
  have k1 := h1
  have lt1 : ∀ x ∈ p1, x.block < W.heap.size := by obtain ⟨m, hm⟩ := k1; exact DataW.trod_lt m _ _ _ hm
  obtain ⟨s1, w1⟩ := open_seg (hval 1 24 v1 rfl rfl) h1
  obtain ⟨a2, rfl, rfl, rfl, w2⟩ := open_int Tryd.underlying3 (hval 2 3 v2 rfl rfl) h2
  clear hA0 hval0
  refine (walk a0 _ s1 a2 W w0 w1 w2 (tabs hL)).mono fun e W' ⟨he, bel⟩ => ?_
  subst he
  exact ⟨_, rfl, _, _, _, [], _, [], hW', trodAll_mk1 (shut_bool Tryd.underlying4 _), (trodAll_cons_mk (shut_int Tryd.underlying3 w0) (trodAll_cons_mk (Below.trod laidOut (by kernel_rfl) (of_decide_eq_true (by kernel_rfl)) k1 bel lt1) (trodAll_cons_mk (shut_int Tryd.underlying3 w2) trodAll_mk0))), rfl, bel.frame _, fun h => by cases h⟩

theorem over : Rows.segmentCutsRow.holds Tryd.pinned (OpenSpec.ofChange Rows.segmentCutsSpec) :=
  OpenClaim.holds_of_wide 6 Tryd.f6 rfl rfl rfl rfl rfl rfl rfl ⟨rfl, rfl, rfl, rfl, rfl⟩ rfl rfl rfl rfl rfl (by kernel_rfl) Tryd.func6 (by kernel_rfl)
    (of_decide_eq_true (by kernel_rfl)) (by unfold Func.isWrapper; first | (rw [if_pos (by decide +kernel)]; kernel_rfl) | (rw [if_neg (by decide +kernel)]; exact ⟨rfl, rfl⟩))
    (fun os started H enc _ => lifted os started H enc)

end Go.Proofs.YtddhcohjmgdajaaDoor.segmentCuts
namespace Go.Proofs.YtddhcohjmgdajaaDoor

set_option maxRecDepth 100000 in
theorem segmentCuts_holds : Rows.SegmentCutsCardSaid :=
  Claim7.holds_tied_plain_at .later [] _ _ _ _ segmentCuts.over (fun _ h => by cases h) (by kernel_rfl) (fun _ h => by cases h) segmentCuts_row_tie rfl ⟨rfl, rfl⟩ (by kernel_rfl) rfl
    (fun f fn hf hfn => by
      obtain rfl : f = 6 := Option.some.inj ((show Tryd.prog.funcNamed "ferryman/ferrymanlaw08.SegmentCuts" = some 6 by kernel_rfl).symm.trans hf) |>.symm
      obtain rfl : fn = Tryd.f6 := (Option.some.inj (Tryd.func6.symm.trans hfn)).symm
      exact ⟨by kernel_rfl, fun j t ht => by
        rw [Tryd.params6] at ht
        have hm : t ∈ [3, 24, 3] := by simpa using Array.mem_of_getElem? ht
        have hall : ([3, 24, 3].all fun u => !Tryd.prog.wantsStandIn u) = true := by kernel_rfl
        exact (show Tryd.prog.wantsStandIn t = false by simpa using List.all_eq_true.1 hall t hm)⟩)
    (by kernel_rfl)

end Go.Proofs.YtddhcohjmgdajaaDoor
