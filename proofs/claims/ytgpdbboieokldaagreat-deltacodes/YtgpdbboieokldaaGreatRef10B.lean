/- Contract of ferrymanref10: Encode. -/
import Derived.Test.YtgpdbboieokldaaGreatRef10A
import Derived.Test.YtgpdbboieokldaaGreatDeltaData
import Derived.Test.YtgpdbboieokldaaGreatDeltaEnc
import Derived.Test.YtgpdbboieokldaaGreatRef03Enc
namespace Go.Proofs.YtgpdbboieokldaaGreat
open Go.RowKit

set_option maxRecDepth 100000 in
set_option maxHeartbeats 8000000 in
theorem refEncodeD_any (v : Value) (d : Delt) (w : World) (hd : DlV w v d) :
    Calls Tryz.prog 7 #[v] w fun e w' => EncodedD w d e w' := by
  have HMY := hide (fun W (h : Below w.heap.size w W) => refMayD_any v d W (hd.below h (Nat.le_refl _)))
  obtain ⟨ma, mc, ta, tc, rfl, hmid, htab⟩ := hd.shape
  have HB0 : Hid (∀ X, Below w.heap.size w (w.alloc X)) := fun X => (Below.refl _ _).alloc (Nat.le_refl _) X
  have HX0 : Hid (∀ cs, Bd (w.alloc (.cells cs 25)) w.heap.size cs) := fun cs => heap_alloc_new w _
  unfold EncodedD
  by_cases hm : MayD d
  case neg =>
    simp only [if_neg hm]
    rw [decide_eq_false hm] at HMY
    clear hm hmid htab hd
    obtain ⟨fr, up, ah, bh, mid, sh, en, tab⟩ := d
    dsimp only at *
    go_enter Tryz.func7, Tryz.ntmps7
    go_wp2_with fail
    refine (HMY.out _ (HB0.out _)).mono ?_
    rintro e W1 ⟨rfl, hb1⟩
    have HB1 := hide ((HB0.out _).trans (hb1.mono (HB0.out _).size))
    clear hb1
    go_wp2
    go_ret2
    exact ⟨_, rfl, Own.nil _ _, HB1.out⟩
  simp only [if_pos hm]
  rw [decide_eq_true hm] at HMY
  have hln := encD_len hm
  have hDD := dataD_parts d _ _ _ rfl rfl rfl
  obtain ⟨k1, k2, k3, k4, k5, k6, ⟨k7, k8⟩, k9, k10⟩ := hm
  have hfew := tabOk_few k10
  have HEN := hide k10.mem
  have hsl : sealD d ≤ 3 := by unfold sealD; split <;> omega
  have HPU : Hid (∀ n v1 A W, IdxOk n → A.length ≤ 5000 → Rd W v1 A → Calls Tryz.prog 19 #[v1, .int .i64 n] W fun e w' => ∃ v', e = .returned v' ∧ Own w' W.heap.size v' (A ++ fP n) ∧ Below W.heap.size W w') := hide (fun n v1 A W hn hA h => by
    have h := refPut_any v1 A n W h (by omega)
    rw [putOf_small hn.1 hn.2] at h
    exact h)
  have HPS : Hid (∀ n v1 A W, I64 n → A.length ≤ 5000 → Rd W v1 A → Calls Tryz.prog 20 #[v1, .int .i64 n] W fun e w' => ∃ v', e = .returned v' ∧ Own w' W.heap.size v' (A ++ fS n) ∧ Below W.heap.size W w') := hide (fun n v1 A W hn hA h => refPutSigned_any v1 A n W h (by omega) hn.1 hn.2)
  have fl : ∀ n, IdxOk n → (fP n).length ≤ 10 := fun n h => uv10' (by unfold IdxOk at h; omega)
  have fsl : ∀ n, I64 n → (fS n).length ≤ 10 := fun n h => uv10 h
  have FSL := hide fsl
  obtain ⟨A1, eA1⟩ : ∃ A, A = [] ++ fP d.frm := ⟨_, rfl⟩
  obtain ⟨A2, eA2⟩ : ∃ A, A = A1 ++ fP d.upto := ⟨_, rfl⟩
  obtain ⟨A3, eA3⟩ : ∃ A, A = A2 ++ fP d.ahead := ⟨_, rfl⟩
  obtain ⟨A4, eA4⟩ : ∃ A, A = A3 ++ fP d.behind := ⟨_, rfl⟩
  obtain ⟨A5, eA5⟩ : ∃ A, A = A4 ++ fP (d.mid.length : Int) := ⟨_, rfl⟩
  obtain ⟨A6, eA6⟩ : ∃ A, A = A5 ++ putsL fS d.mid := ⟨_, rfl⟩
  obtain ⟨A7, eA7⟩ : ∃ A, A = A6 ++ fP ((sealD d : Nat) : Int) := ⟨_, rfl⟩
  obtain ⟨A8, eA8⟩ : ∃ A, A = A7 ++ fP (d.tab.length : Int) := ⟨_, rfl⟩
  have okm : IdxOk (d.mid.length : Int) := ⟨by omega, by omega⟩
  have okt : IdxOk (d.tab.length : Int) := ⟨by omega, by omega⟩
  have oks : IdxOk ((sealD d : Nat) : Int) := ⟨by omega, by omega⟩
  have hall : dataD d = A8 ++ entsL d.tab := by
    rw [hDD, eA8, eA7, eA6, eA5, eA4, eA3, eA2, eA1]
    unfold putsL
    simp
  have l1 : A1.length ≤ 10 := by rw [eA1, List.nil_append]; exact fl _ k1
  have l2 : A2.length ≤ 20 := by rw [eA2, List.length_append]; have := fl _ k2; omega
  have l3 : A3.length ≤ 30 := by rw [eA3, List.length_append]; have := fl _ k3; omega
  have l4 : A4.length ≤ 40 := by rw [eA4, List.length_append]; have := fl _ k4; omega
  have l5 : A5.length ≤ 50 := by rw [eA5, List.length_append]; have := fl _ okm; omega
  have HM6 : Hid (∀ k, (putsL fS (d.mid.take k)).length ≤ 1280) := hide (fun k => by
    have h := putsL_len (f := fS) (ns := d.mid.take k) (fun n hn => fsl n (hmid.i64 n (List.mem_of_mem_take hn)))
    rw [List.length_take] at h
    omega)
  have l6 : A6.length ≤ 1330 := by
    have h := HM6.out d.mid.length
    rw [List.take_length] at h
    rw [eA6, List.length_append]
    omega
  have l7 : A7.length ≤ 1340 := by rw [eA7, List.length_append]; have := fl _ oks; omega
  have l8 : A8.length ≤ 1350 := by rw [eA8, List.length_append]; have := fl _ okt; omega
  have HC1 := hide (fun W => HPU.out d.frm (.slice none 0 0) [] W k1 (by simp) (Rd.nil W))
  have HC2 := hide (fun v W h => HPU.out d.upto v A1 W k2 (by omega) h)
  have HC3 := hide (fun v W h => HPU.out d.ahead v A2 W k3 (by omega) h)
  have HC4 := hide (fun v W h => HPU.out d.behind v A3 W k4 (by omega) h)
  have HC5 := hide (fun v W h => HPU.out (d.mid.length : Int) v A4 W okm (by omega) h)
  have HC7 := hide (fun v W h => HPU.out ((sealD d : Nat) : Int) v A6 W oks (by omega) h)
  have HC8 := hide (fun v W h => HPU.out (d.tab.length : Int) v A7 W okt (by omega) h)
  rw [← eA1] at HC1
  rw [← eA2] at HC2
  rw [← eA3] at HC3
  rw [← eA4] at HC4
  rw [← eA5] at HC5
  rw [← eA7] at HC7
  rw [← eA8] at HC8
  have HSM : Hid (∀ k, k < d.mid.length → putsL fS (d.mid.take (k + 1)) = putsL fS (d.mid.take k) ++ fS (d.mid.getD k 0)) := hide (fun k h => putsL_snoc fS h)
  have HE6 : Hid (A6 = A5 ++ putsL fS (d.mid.take d.mid.length)) := hide (by rw [List.take_length]; exact eA6)
  have HES : Hid (∀ k, k < d.tab.length → ∀ P, P = A8 ++ entsL (d.tab.take k) → ((P ++ fP (d.tab.getD k zeroE).proc) ++ fP (d.tab.getD k zeroE).seq) ++ fS (d.tab.getD k zeroE).resp = A8 ++ entsL (d.tab.take (k + 1))) := hide (fun k hk P hP => by
    rw [entsL_snocD hk, hP]
    unfold entL fP fS
    simp)
  have HEL : Hid (∀ k, (entsL (d.tab.take k)).length ≤ 1950) := hide (fun k => by
    have h := entsL_le (d.tab.take k) (fun e he => HEN.out e (List.mem_of_mem_take he))
    rw [List.length_take] at h
    omega)
  have HEF := hide (fun v W h => refEncode_any v (dataD d) W h)
  have hef : encF (dataD d) = (frameOf (dataD d), 0) := by
    unfold encF
    rw [if_pos (by omega)]
  rw [hef, hall] at HEF
  have HFE : Hid (encD d = frameOf (A8 ++ entsL d.tab)) := hide (by unfold encD; rw [hall])
  rw [HFE.out]
  generalize frameOf (A8 ++ entsL d.tab) = FR at *
  have hmi64 := hmid.i64
  have HMI := hide hmi64
  obtain ⟨_, _, hmv, hmc, hmm, -, -, hmo⟩ := id hmid
  simp only [Value.slice.injEq] at hmv
  obtain ⟨rfl, -, rfl⟩ := hmv
  obtain ⟨_, _, htv, htl, htm, -, -, hto⟩ := id htab
  simp only [Value.slice.injEq] at htv
  obtain ⟨rfl, -, rfl⟩ := htv
  have HMO := hide hmo
  have HTO := hide hto
  have hti : (d.tab.length : Int) ≤ 65 := by omega
  have hmi : (d.mid.length : Int) ≤ 128 := by omega
  have hSE : (sealD d : Int) = if d.shut = true then d.eng + 1 else 0 := by
    unfold sealD
    cases d.shut with
    | true => simp; omega
    | false => rfl
  have HSE := hide hSE
  clear hSE hDD eA1 eA2 eA3 eA4 eA5 eA6 eA7 eA8 hall hef hmid htab hmo hto hmc hmm htl htm k1 k2 k3 k4 k5 k6 k9 k10 okm okt oks fl fsl hln hd hmi64 HFE l1 l2 l3 l4
  generalize sealD d = SN at *
  obtain ⟨fr, up, ah, bh, mid, sh, en, tab⟩ := d
  dsimp only at *
  go_enter Tryz.func7, Tryz.ntmps7
  go_wp2_with fail
  refine (HMY.out _ (HB0.out _)).mono ?_
  rintro e W1 ⟨rfl, hb1⟩
  have HX := hide ((HX0.out _).below hb1 (Nat.le_refl _))
  have HB := hide ((HB0.out _).trans (hb1.mono (HB0.out _).size))
  clear hb1 HMY HX0 HB0
  obtain ⟨⟨p0, p1, p2, p3, p4, p5, p6, p7⟩, -⟩ := HX.out.all
  go_wp2_with fail
  refine (HC1.out _).mono ?_
  rintro e V1 ⟨v1, rfl, ho, hb⟩
  have HX := hide (HX.out.below hb (Nat.le_refl _))
  have HO := hide (ho.mono HB.out.size)
  have HB := hide (HB.out.trans (hb.mono HB.out.size))
  have HR := hide ho.rd
  obtain ⟨a1, c1, hv⟩ : ∃ a c, v1 = .slice a A1.length c := by obtain ⟨a, c, h, -⟩ := ho.rd; exact ⟨a, c, h⟩
  subst hv
  clear ho hb HC1 p0 p1 p2 p3 p4 p5 p6 p7
  obtain ⟨⟨p0, p1, p2, p3, p4, p5, p6, p7⟩, -⟩ := HX.out.all
  go_wp2_with fail
  refine (HC2.out _ _ HR.out).mono ?_
  rintro e V2 ⟨v2, rfl, ho, hb⟩
  have HX := hide (HX.out.below hb (Nat.le_refl _))
  have HO := hide (ho.mono HB.out.size)
  have HB := hide (HB.out.trans (hb.mono HB.out.size))
  have HR := hide ho.rd
  obtain ⟨a2, c2, hv⟩ : ∃ a c, v2 = .slice a A2.length c := by obtain ⟨a, c, h, -⟩ := ho.rd; exact ⟨a, c, h⟩
  subst hv
  clear ho hb HC2 p0 p1 p2 p3 p4 p5 p6 p7
  obtain ⟨⟨p0, p1, p2, p3, p4, p5, p6, p7⟩, -⟩ := HX.out.all
  go_wp2_with fail
  refine (HC3.out _ _ HR.out).mono ?_
  rintro e V3 ⟨v3, rfl, ho, hb⟩
  have HX := hide (HX.out.below hb (Nat.le_refl _))
  have HO := hide (ho.mono HB.out.size)
  have HB := hide (HB.out.trans (hb.mono HB.out.size))
  have HR := hide ho.rd
  obtain ⟨a3, c3, hv⟩ : ∃ a c, v3 = .slice a A3.length c := by obtain ⟨a, c, h, -⟩ := ho.rd; exact ⟨a, c, h⟩
  subst hv
  clear ho hb HC3 p0 p1 p2 p3 p4 p5 p6 p7
  obtain ⟨⟨p0, p1, p2, p3, p4, p5, p6, p7⟩, -⟩ := HX.out.all
  go_wp2_with fail
  refine (HC4.out _ _ HR.out).mono ?_
  rintro e V4 ⟨v4, rfl, ho, hb⟩
  have HX := hide (HX.out.below hb (Nat.le_refl _))
  have HO := hide (ho.mono HB.out.size)
  have HB := hide (HB.out.trans (hb.mono HB.out.size))
  have HR := hide ho.rd
  obtain ⟨a4, c4, hv⟩ : ∃ a c, v4 = .slice a A4.length c := by obtain ⟨a, c, h, -⟩ := ho.rd; exact ⟨a, c, h⟩
  subst hv
  clear ho hb HC4 p0 p1 p2 p3 p4 p5 p6 p7
  obtain ⟨⟨p0, p1, p2, p3, p4, p5, p6, p7⟩, -⟩ := HX.out.all
  go_wp2_with fail
  refine (HC5.out _ _ HR.out).mono ?_
  rintro e V5 ⟨v5, rfl, ho, hb⟩
  have HX := hide (HX.out.below hb (Nat.le_refl _))
  have HO := hide (ho.mono HB.out.size)
  have HB := hide (HB.out.trans (hb.mono HB.out.size))
  have HR := hide ho.rd
  obtain ⟨a5, c5, hv⟩ : ∃ a c, v5 = .slice a A5.length c := by obtain ⟨a, c, h, -⟩ := ho.rd; exact ⟨a, c, h⟩
  subst hv
  clear ho hb HC5 p0 p1 p2 p3 p4 p5 p6 p7
  obtain ⟨⟨p0, p1, p2, p3, p4, p5, p6, p7⟩, -⟩ := HX.out.all
  clear HR
  go_wp2
  go_loopw [5, 6] (fun vo vi wr => ∃ (k : Nat) (P : List UInt8), vi = .int .i64 (k : Int) ∧ k ≤ mid.length ∧ Hid (P = A5 ++ putsL fS (mid.take k)) ∧ Hid (Own wr w.heap.size vo P) ∧ Hid (Bd wr w.heap.size #[.int .i64 fr, .int .i64 up, .int .i64 ah, .int .i64 bh, .slice ma mid.length mc, .bool sh, .int .i64 en, .slice ta tab.length tc]) ∧ Hid (Below w.heap.size w wr)) (fun _ vi _ => mid.length - (intOf vi).toNat)
  case atStart => exact ⟨0, A5, rfl, Nat.zero_le _, hide (by simp [putsL]), HO, HX, HB⟩
  case round =>
    clear HO HX HB p0 p1 p2 p3 p4 p5 p6 p7
    obtain ⟨k, P, rfl, hk, hP, hO, HX, HB⟩ := hrel
    obtain ⟨⟨p0, p1, p2, p3, p4, p5, p6, p7⟩, -⟩ := HX.out.all
    obtain ⟨oa, oc, hv⟩ : ∃ a c, u5 = .slice a P.length c := by obtain ⟨a, c, h, -⟩ := hO.out.rd; exact ⟨a, c, h⟩
    subst hv
    by_cases hlt : k < mid.length
    case pos =>
      have hki : (k : Int) < (mid.length : Int) := by omega
      rcases HMO.out with h0 | ⟨c, off, rfl, hc⟩
      · rw [h0] at hlt; simp at hlt
      have c0 := (HB.out.cell (World.block_lt_of_cell? _ _ (hc k hlt))).trans (hc k hlt)
      have hPl : P.length ≤ 5000 := by rw [hP.out, List.length_append]; have := HM6.out k; omega
      have hxi : I64 (mid.getD k 0) := HMI.out _ (by simp [List.getD, hlt])
      have HPN : Hid (P ++ fS (mid.getD k 0) = A5 ++ putsL fS (mid.take (k + 1))) := hide (by rw [hP.out, HSM.out k hlt, List.append_assoc])
      have HC := hide (HPS.out (mid.getD k 0) _ P wr hxi hPl hO.out.rd)
      generalize mid.getD k 0 = x at *
      generalize P ++ fS x = P2 at *
      clear hc hP hPl hxi
      go_wp2_with fail
      refine HC.out.mono ?_
      rintro e W2 ⟨v2, rfl, ho2, hb2⟩
      have HO2 := hide (ho2.mono HB.out.size)
      have HX2 := hide (HX.out.below hb2 (Nat.le_refl _))
      have HB2 := hide (HB.out.trans (hb2.mono HB.out.size))
      clear ho2 hb2 HC p0 p1 p2 p3 p4 p5 p6 p7
      go_wp2
      go_roundw
      case rel => exact ⟨k + 1, P2, by go_num, by omega, HPN, HO2, HX2, HB2⟩
      case measure => simp [intOf]; omega
    case neg =>
      have hni : ¬ (k : Int) < (mid.length : Int) := by omega
      obtain rfl : k = mid.length := by omega
      have hPA : P = A6 := by rw [hP.out, HE6.out]
      subst hPA
      have HCQ := hide (HC7.out _ _ hO.out.rd)
      clear hP HM6 HE6 HSM HC7 HMO HMI
      cases sh with
      | true =>
        have hsn : (SN : Int) = en + 1 := by rw [HSE.out]; rfl
        rw [hsn] at HCQ
        go_wp2_with fail
        refine HCQ.out.mono ?_
        rintro e V7 ⟨v7, rfl, ho, hb⟩
        have HX := hide (HX.out.below hb (Nat.le_refl _))
        have HB := hide (HB.out.trans (hb.mono HB.out.size))
        have HR := hide ho.rd
        obtain ⟨a7, c7, hv⟩ : ∃ a c, v7 = .slice a A7.length c := by obtain ⟨a, c, h, -⟩ := ho.rd; exact ⟨a, c, h⟩
        subst hv
        clear ho hb HCQ p0 p1 p2 p3 p4 p5 p6 p7
        obtain ⟨⟨p0, p1, p2, p3, p4, p5, p6, p7⟩, -⟩ := HX.out.all
        go_wp2_with fail
        refine (HC8.out _ _ HR.out).mono ?_
        rintro e V8 ⟨v8, rfl, ho, hb⟩
        have HX := hide (HX.out.below hb (Nat.le_refl _))
        have HO := hide (ho.mono HB.out.size)
        have HB := hide (HB.out.trans (hb.mono HB.out.size))
        obtain ⟨a8, c8, hv⟩ : ∃ a c, v8 = .slice a A8.length c := by obtain ⟨a, c, h, -⟩ := ho.rd; exact ⟨a, c, h⟩
        subst hv
        clear ho hb HC8 HR p0 p1 p2 p3 p4 p5 p6 p7
        obtain ⟨⟨p0, p1, p2, p3, p4, p5, p6, p7⟩, -⟩ := HX.out.all
        go_wp2
        go_loopw [5, 8] (fun vo vi wr => ∃ (k : Nat) (P : List UInt8), vi = .int .i64 (k : Int) ∧ k ≤ tab.length ∧ Hid (P = A8 ++ entsL (tab.take k)) ∧ Hid (Own wr w.heap.size vo P) ∧ Hid (Bd wr w.heap.size #[.int .i64 fr, .int .i64 up, .int .i64 ah, .int .i64 bh, .slice ma mid.length mc, .bool true, .int .i64 en, .slice ta tab.length tc]) ∧ Hid (Below w.heap.size w wr)) (fun _ vi _ => tab.length - (intOf vi).toNat)
        case atStart => exact ⟨0, A8, rfl, Nat.zero_le _, hide (by simp [entsL]), HO, HX, HB⟩
        case round =>
          clear HO HX HB p0 p1 p2 p3 p4 p5 p6 p7
          obtain ⟨k, P, rfl, hk, hP, hO, HX, HB⟩ := hrel
          obtain ⟨⟨p0, p1, p2, p3, p4, p5, p6, p7⟩, -⟩ := HX.out.all
          obtain ⟨oa, oc, hv⟩ : ∃ a c, u5 = .slice a P.length c := by obtain ⟨a, c, h, -⟩ := hO.out.rd; exact ⟨a, c, h⟩
          subst hv
          by_cases hlt : k < tab.length
          case pos =>
            have hki : (k : Int) < (tab.length : Int) := by omega
            rcases HTO.out with h0 | ⟨c, off, rfl, hc⟩
            · rw [h0] at hlt; simp at hlt
            have HAT : Hid (∀ W, Below w.heap.size w W → EntAt W c (off + k * 3) (tab.getD k zeroE)) := hide (fun W h => (hc k hlt).keep (h.block c (hc k hlt).lt))
            have hoe : EntOk (tab.getD k zeroE) := HEN.out _ (by simp [List.getD, hlt])
            have HNX := hide (HES.out k hlt P hP.out)
            have hPl : P.length ≤ 4000 := by rw [hP.out, List.length_append]; have := HEL.out k; omega
            obtain ⟨e, he⟩ : ∃ e, e = tab.getD k zeroE := ⟨_, rfl⟩
            rw [← he] at HAT hoe HNX
            obtain ⟨s1, s2, s3, -, -⟩ := entOk_small hoe
            obtain ⟨g1, g2, g3, g4, -⟩ := hoe
            have q1 : (fP e.proc).length ≤ 10 := uv10' s1
            have q2 : (fP e.seq).length ≤ 10 := uv10' s2
            obtain ⟨B1, eB1⟩ : ∃ B, B = P ++ fP e.proc := ⟨_, rfl⟩
            obtain ⟨B2, eB2⟩ : ∃ B, B = B1 ++ fP e.seq := ⟨_, rfl⟩
            have m1 : B1.length ≤ 4010 := by rw [eB1, List.length_append]; omega
            have m2 : B2.length ≤ 4020 := by rw [eB2, List.length_append]; omega
            have HA1 := hide (HPU.out e.proc _ P wr ⟨g1, by omega⟩ (by omega) hO.out.rd)
            have HA2 := hide (fun v W h => HPU.out e.seq v B1 W ⟨g3, g4⟩ (by omega) h)
            have HA3 := hide (fun v W h => HPS.out e.resp v B2 W s3 (by omega) h)
            rw [← eB1] at HA1 HNX
            rw [← eB2] at HA2 HNX
            generalize hP3 : B2 ++ fS e.resp = P3 at *
            clear he hc hP hPl s1 s2 s3 g1 g2 g3 g4 q1 q2 eB1 eB2 m1 m2 hP3
            obtain ⟨c0, -, -⟩ := HAT.out wr HB.out
            obtain ⟨ep, es, er⟩ := e
            dsimp only at *
            go_wp2_with fail
            refine HA1.out.mono ?_
            rintro e V9 ⟨v9, rfl, ho, hb⟩
            have HX := hide (HX.out.below hb (Nat.le_refl _))
            have HB := hide (HB.out.trans (hb.mono HB.out.size))
            have HR := hide ho.rd
            obtain ⟨a9, c9, hv⟩ : ∃ a c, v9 = .slice a B1.length c := by obtain ⟨a, c, h, -⟩ := ho.rd; exact ⟨a, c, h⟩
            subst hv
            clear ho hb HA1 c0 p0 p1 p2 p3 p4 p5 p6 p7
            obtain ⟨⟨p0, p1, p2, p3, p4, p5, p6, p7⟩, -⟩ := HX.out.all
            obtain ⟨-, c1, -⟩ := HAT.out V9 HB.out
            go_wp2_with fail
            refine (HA2.out _ _ HR.out).mono ?_
            rintro e V10 ⟨v10, rfl, ho, hb⟩
            have HX := hide (HX.out.below hb (Nat.le_refl _))
            have HB := hide (HB.out.trans (hb.mono HB.out.size))
            have HR := hide ho.rd
            obtain ⟨a10, c10, hv⟩ : ∃ a c, v10 = .slice a B2.length c := by obtain ⟨a, c, h, -⟩ := ho.rd; exact ⟨a, c, h⟩
            subst hv
            clear ho hb HA2 c1 p0 p1 p2 p3 p4 p5 p6 p7
            obtain ⟨⟨p0, p1, p2, p3, p4, p5, p6, p7⟩, -⟩ := HX.out.all
            obtain ⟨-, -, c2⟩ := HAT.out V10 HB.out
            go_wp2_with fail
            refine (HA3.out _ _ HR.out).mono ?_
            rintro e V11 ⟨v11, rfl, ho, hb⟩
            have HX2 := hide (HX.out.below hb (Nat.le_refl _))
            have HO2 := hide (ho.mono HB.out.size)
            have HB2 := hide (HB.out.trans (hb.mono HB.out.size))
            clear ho hb HA3 c2 p0 p1 p2 p3 p4 p5 p6 p7
            go_wp2
            go_roundw
            case rel => exact ⟨k + 1, P3, by go_num, by omega, HNX, HO2, HX2, HB2⟩
            case measure => simp [intOf]; omega
          case neg =>
            have hni : ¬ (k : Int) < (tab.length : Int) := by omega
            have hPA : P = A8 ++ entsL tab := by rw [hP.out, List.take_of_length_le (by omega)]
            rw [← hPA] at HEF
            clear hP hPA
            go_wp2_with fail
            refine (HEF.out _ _ hO.out.rd).mono ?_
            rintro e V12 ⟨v12, rfl, ho, hb⟩
            have HO2 := hide (ho.mono HB.out.size)
            have HB2 := hide (HB.out.trans (hb.mono HB.out.size))
            clear ho hb
            go_wp2
            go_ret2
            exact ⟨_, rfl, HO2.out, HB2.out⟩
      | false =>
        have hsn : (SN : Int) = 0 := by rw [HSE.out]; rfl
        rw [hsn] at HCQ
        go_wp2_with fail
        refine HCQ.out.mono ?_
        rintro e V7 ⟨v7, rfl, ho, hb⟩
        have HX := hide (HX.out.below hb (Nat.le_refl _))
        have HB := hide (HB.out.trans (hb.mono HB.out.size))
        have HR := hide ho.rd
        obtain ⟨a7, c7, hv⟩ : ∃ a c, v7 = .slice a A7.length c := by obtain ⟨a, c, h, -⟩ := ho.rd; exact ⟨a, c, h⟩
        subst hv
        clear ho hb HCQ p0 p1 p2 p3 p4 p5 p6 p7
        obtain ⟨⟨p0, p1, p2, p3, p4, p5, p6, p7⟩, -⟩ := HX.out.all
        go_wp2_with fail
        refine (HC8.out _ _ HR.out).mono ?_
        rintro e V8 ⟨v8, rfl, ho, hb⟩
        have HX := hide (HX.out.below hb (Nat.le_refl _))
        have HO := hide (ho.mono HB.out.size)
        have HB := hide (HB.out.trans (hb.mono HB.out.size))
        obtain ⟨a8, c8, hv⟩ : ∃ a c, v8 = .slice a A8.length c := by obtain ⟨a, c, h, -⟩ := ho.rd; exact ⟨a, c, h⟩
        subst hv
        clear ho hb HC8 HR p0 p1 p2 p3 p4 p5 p6 p7
        obtain ⟨⟨p0, p1, p2, p3, p4, p5, p6, p7⟩, -⟩ := HX.out.all
        go_wp2
        go_loopw [5, 8] (fun vo vi wr => ∃ (k : Nat) (P : List UInt8), vi = .int .i64 (k : Int) ∧ k ≤ tab.length ∧ Hid (P = A8 ++ entsL (tab.take k)) ∧ Hid (Own wr w.heap.size vo P) ∧ Hid (Bd wr w.heap.size #[.int .i64 fr, .int .i64 up, .int .i64 ah, .int .i64 bh, .slice ma mid.length mc, .bool false, .int .i64 en, .slice ta tab.length tc]) ∧ Hid (Below w.heap.size w wr)) (fun _ vi _ => tab.length - (intOf vi).toNat)
        case atStart => exact ⟨0, A8, rfl, Nat.zero_le _, hide (by simp [entsL]), HO, HX, HB⟩
        case round =>
          clear HO HX HB p0 p1 p2 p3 p4 p5 p6 p7
          obtain ⟨k, P, rfl, hk, hP, hO, HX, HB⟩ := hrel
          obtain ⟨⟨p0, p1, p2, p3, p4, p5, p6, p7⟩, -⟩ := HX.out.all
          obtain ⟨oa, oc, hv⟩ : ∃ a c, u5 = .slice a P.length c := by obtain ⟨a, c, h, -⟩ := hO.out.rd; exact ⟨a, c, h⟩
          subst hv
          by_cases hlt : k < tab.length
          case pos =>
            have hki : (k : Int) < (tab.length : Int) := by omega
            rcases HTO.out with h0 | ⟨c, off, rfl, hc⟩
            · rw [h0] at hlt; simp at hlt
            have HAT : Hid (∀ W, Below w.heap.size w W → EntAt W c (off + k * 3) (tab.getD k zeroE)) := hide (fun W h => (hc k hlt).keep (h.block c (hc k hlt).lt))
            have hoe : EntOk (tab.getD k zeroE) := HEN.out _ (by simp [List.getD, hlt])
            have HNX := hide (HES.out k hlt P hP.out)
            have hPl : P.length ≤ 4000 := by rw [hP.out, List.length_append]; have := HEL.out k; omega
            obtain ⟨e, he⟩ : ∃ e, e = tab.getD k zeroE := ⟨_, rfl⟩
            rw [← he] at HAT hoe HNX
            obtain ⟨s1, s2, s3, -, -⟩ := entOk_small hoe
            obtain ⟨g1, g2, g3, g4, -⟩ := hoe
            have q1 : (fP e.proc).length ≤ 10 := uv10' s1
            have q2 : (fP e.seq).length ≤ 10 := uv10' s2
            obtain ⟨B1, eB1⟩ : ∃ B, B = P ++ fP e.proc := ⟨_, rfl⟩
            obtain ⟨B2, eB2⟩ : ∃ B, B = B1 ++ fP e.seq := ⟨_, rfl⟩
            have m1 : B1.length ≤ 4010 := by rw [eB1, List.length_append]; omega
            have m2 : B2.length ≤ 4020 := by rw [eB2, List.length_append]; omega
            have HA1 := hide (HPU.out e.proc _ P wr ⟨g1, by omega⟩ (by omega) hO.out.rd)
            have HA2 := hide (fun v W h => HPU.out e.seq v B1 W ⟨g3, g4⟩ (by omega) h)
            have HA3 := hide (fun v W h => HPS.out e.resp v B2 W s3 (by omega) h)
            rw [← eB1] at HA1 HNX
            rw [← eB2] at HA2 HNX
            generalize hP3 : B2 ++ fS e.resp = P3 at *
            clear he hc hP hPl s1 s2 s3 g1 g2 g3 g4 q1 q2 eB1 eB2 m1 m2 hP3
            obtain ⟨c0, -, -⟩ := HAT.out wr HB.out
            obtain ⟨ep, es, er⟩ := e
            dsimp only at *
            go_wp2_with fail
            refine HA1.out.mono ?_
            rintro e V9 ⟨v9, rfl, ho, hb⟩
            have HX := hide (HX.out.below hb (Nat.le_refl _))
            have HB := hide (HB.out.trans (hb.mono HB.out.size))
            have HR := hide ho.rd
            obtain ⟨a9, c9, hv⟩ : ∃ a c, v9 = .slice a B1.length c := by obtain ⟨a, c, h, -⟩ := ho.rd; exact ⟨a, c, h⟩
            subst hv
            clear ho hb HA1 c0 p0 p1 p2 p3 p4 p5 p6 p7
            obtain ⟨⟨p0, p1, p2, p3, p4, p5, p6, p7⟩, -⟩ := HX.out.all
            obtain ⟨-, c1, -⟩ := HAT.out V9 HB.out
            go_wp2_with fail
            refine (HA2.out _ _ HR.out).mono ?_
            rintro e V10 ⟨v10, rfl, ho, hb⟩
            have HX := hide (HX.out.below hb (Nat.le_refl _))
            have HB := hide (HB.out.trans (hb.mono HB.out.size))
            have HR := hide ho.rd
            obtain ⟨a10, c10, hv⟩ : ∃ a c, v10 = .slice a B2.length c := by obtain ⟨a, c, h, -⟩ := ho.rd; exact ⟨a, c, h⟩
            subst hv
            clear ho hb HA2 c1 p0 p1 p2 p3 p4 p5 p6 p7
            obtain ⟨⟨p0, p1, p2, p3, p4, p5, p6, p7⟩, -⟩ := HX.out.all
            obtain ⟨-, -, c2⟩ := HAT.out V10 HB.out
            go_wp2_with fail
            refine (HA3.out _ _ HR.out).mono ?_
            rintro e V11 ⟨v11, rfl, ho, hb⟩
            have HX2 := hide (HX.out.below hb (Nat.le_refl _))
            have HO2 := hide (ho.mono HB.out.size)
            have HB2 := hide (HB.out.trans (hb.mono HB.out.size))
            clear ho hb HA3 c2 p0 p1 p2 p3 p4 p5 p6 p7
            go_wp2
            go_roundw
            case rel => exact ⟨k + 1, P3, by go_num, by omega, HNX, HO2, HX2, HB2⟩
            case measure => simp [intOf]; omega
          case neg =>
            have hni : ¬ (k : Int) < (tab.length : Int) := by omega
            have hPA : P = A8 ++ entsL tab := by rw [hP.out, List.take_of_length_le (by omega)]
            rw [← hPA] at HEF
            clear hP hPA
            go_wp2_with fail
            refine (HEF.out _ _ hO.out.rd).mono ?_
            rintro e V12 ⟨v12, rfl, ho, hb⟩
            have HO2 := hide (ho.mono HB.out.size)
            have HB2 := hide (HB.out.trans (hb.mono HB.out.size))
            clear ho hb
            go_wp2
            go_ret2
            exact ⟨_, rfl, HO2.out, HB2.out⟩

end Go.Proofs.YtgpdbboieokldaaGreat
