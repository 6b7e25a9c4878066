/- Contract of delta: Decode. -/
import Derived.Test.YtgpdbboieokldaaGreatDeltaRead
import Derived.Test.YtgpdbboieokldaaGreatDeltaMay
import Derived.Test.YtgpdbboieokldaaGreatFrameOwnD
namespace Go.Proofs.YtgpdbboieokldaaGreat
open Go.RowKit

theorem decF_short {b : List UInt8} (h : (decF b).2.2 = 0) : (decF b).1.length ≤ b.length := by
  obtain ⟨-, h2, h3, -⟩ := decF_ok h
  rw [h2, frameOf_length] at h3
  omega

set_option maxRecDepth 100000 in
set_option maxHeartbeats 8000000 in
theorem decodeD_any (v : Value) (b : List UInt8) (w : World) (hr : Rd w v b) (hlim : b.length ≤ 100000) :
    Calls Tryz.prog 8 #[v] w fun e w' => GivenD w (decD b) e w' := by
  obtain ⟨W0, hW0⟩ : ∃ W0, W0 = w.alloc (.cells #[.int .i64 0, .int .i64 0, .int .i64 0, .int .i64 0, .slice none 0 0, .bool false, .int .i64 0, .slice none 0 0] 25) := ⟨_, rfl⟩
  have HB0 : Hid (Below w.heap.size w W0) := hide (by rw [hW0]; exact (Below.refl _ _).alloc (Nat.le_refl _) _)
  have HX0 : Hid (Bd W0 w.heap.size #[.int .i64 0, .int .i64 0, .int .i64 0, .int .i64 0, .slice none 0 0, .bool false, .int .i64 0, .slice none 0 0]) := hide (by rw [hW0]; exact heap_alloc_new w _)
  have HDF := hide (decode_any v b W0 (hr.below HB0.out (Nat.le_refl _)))
  unfold Decoded at HDF
  obtain ⟨va, vc, hv⟩ : ∃ a c, v = .slice a b.length c := by obtain ⟨a, c, h, -⟩ := hr; exact ⟨a, c, h⟩
  subst hv
  obtain ⟨DN, hDN⟩ : ∃ DN, DN = decD b := ⟨_, rfl⟩
  rw [← hDN]
  have HRD := hide (fun v W (h : Rd W v (decF b).1) (hl : (decF b).1.length ≤ 900000) => readData_any v (decF b).1 W h hl)
  have hle := decF_le b
  have HSH := hide (decF_short (b := b))
  have HZR : Hid (∀ (W : World) (n : Int), Below w.heap.size w W → DN = (zeroD, n) → GivenD w DN (.returned (.tuple #[.agg #[.int .i64 0, .int .i64 0, .int .i64 0, .int .i64 0, .slice none 0 0, .bool false, .int .i64 0, .slice none 0 0], .int .i64 n])) ((((((((W.setCell ⟨w.heap.size, 0, none⟩ (.int .i64 0)).setCell ⟨w.heap.size, 1, none⟩ (.int .i64 0)).setCell ⟨w.heap.size, 2, none⟩ (.int .i64 0)).setCell ⟨w.heap.size, 3, none⟩ (.int .i64 0)).setCell ⟨w.heap.size, 4, none⟩ (.slice none 0 0)).setCell ⟨w.heap.size, 5, none⟩ (.bool false)).setCell ⟨w.heap.size, 6, none⟩ (.int .i64 0)).setCell ⟨w.heap.size, 7, none⟩ (.slice none 0 0))) := hide (fun W n h e => by
    rw [e]
    exact GivenD.zero _ (belowEightE h _ (Nat.le_refl _) _ _ _ _ _ _ _ _))
  unfold decD at hDN
  have HDN := hide hDN
  have HW0 := hide hW0
  clear hDN hW0 hr
  generalize (decF b).2.2 = er at *
  generalize (decF b).2.1 = sz at *
  generalize (decF b).1 = dt at *
  go_enter Tryz.func8, Tryz.ntmps8
  go_upto_region 1 with fail
  rw [← HW0.out]
  clear HW0
  go_wp2_with fail
  refine HDF.out.mono ?_
  rintro e W1 ⟨v1, rfl, ho1, hb1⟩
  have HX1 := hide (HX0.out.below hb1 (Nat.le_refl _))
  have HB1 := hide (HB0.out.trans (hb1.mono HB0.out.size))
  have HR1 := hide ho1.rd
  obtain ⟨a1, c1, hv⟩ : ∃ a c, v1 = .slice a dt.length c := by obtain ⟨a, c, h, -⟩ := ho1.rd; exact ⟨a, c, h⟩
  subst hv
  clear ho1 hb1 HDF HX0 HB0
  by_cases her : er = 0
  case neg =>
    have hne : ((er : Int) != 0) = true := by rw [bne_iff_ne]; omega
    have HF : Hid (DN = (zeroD, (er : Int))) := hide (by rw [HDN.out, if_pos her])
    obtain ⟨⟨z0, z1, z2, z3, z4, z5, z6, z7⟩, y0, y1, y2, y3, y4, y5, y6, y7⟩ := HX1.out.all
    obtain ⟨E, hE⟩ : ∃ E : Int, E = (er : Int) := ⟨_, rfl⟩
    rw [← hE] at HF hne ⊢
    clear her hE
    go_wp2
    refine bodyPost_ret (v := .tuple #[.agg #[.int .i64 0, .int .i64 0, .int .i64 0, .int .i64 0, .slice none 0 0, .bool false, .int .i64 0, .slice none 0 0], .int .i64 E]) (by simp [results, Tryz.results8, go_sem, z0, z1, z2, z3, z4, z5, z6, z7]) rfl ?_
    exact HZR.out _ _ HB1.out HF.out
  subst her
  have hsh := HSH.out rfl
  by_cases hsz : sz = b.length
  case neg =>
    have hszi : (sz : Int) < (b.length : Int) := by omega
    have HF : Hid (DN = (zeroD, 16)) := hide (by rw [HDN.out, if_neg (fun h => h rfl), if_pos hsz])
    obtain ⟨⟨z0, z1, z2, z3, z4, z5, z6, z7⟩, y0, y1, y2, y3, y4, y5, y6, y7⟩ := HX1.out.all
    clear hsz
    go_wp2
    refine bodyPost_ret (v := .tuple #[.agg #[.int .i64 0, .int .i64 0, .int .i64 0, .int .i64 0, .slice none 0 0, .bool false, .int .i64 0, .slice none 0 0], .int .i64 16]) (by simp [results, Tryz.results8, go_sem, z0, z1, z2, z3, z4, z5, z6, z7]) rfl ?_
    exact HZR.out _ _ HB1.out HF.out
  have HD2 : Hid (DN = match readD dt with | none => (zeroD, 3) | some d => if MayD d then (d, 0) else (zeroD, 1)) := hide (by
    rw [HDN.out, if_neg (fun h => h rfl), if_neg (fun h => h hsz)]
    cases readD dt <;> rfl)
  have hszi : ¬ (sz : Int) < (b.length : Int) := by omega
  have HRQ := hide (HRD.out _ _ HR1.out (by omega))
  clear hsz HDN HRD HSH hsh hle HR1
  unfold ReadDl at HRQ
  generalize readD dt = RD at *
  go_wp2_with fail
  refine HRQ.out.mono ?_
  rintro e W2 ⟨D, vm, vt, rfl, hm2, ht2, hi2, hd2, hf2, hg2, hb2⟩
  obtain ⟨ma, mc, hv⟩ := hm2.shape
  subst hv
  obtain ⟨ta, tc, hv⟩ := ht2.shape
  subst hv
  obtain ⟨W3, hW3⟩ : ∃ W3, W3 = W2.alloc (.cells #[.int .i64 D.frm, .int .i64 D.upto, .int .i64 D.ahead, .int .i64 D.behind, .slice ma D.mid.length mc, .bool D.shut, .int .i64 D.eng, .slice ta D.tab.length tc] 25) := ⟨_, rfl⟩
  obtain ⟨QD, hQD⟩ : ∃ QD, QD = W2.heap.size := ⟨_, rfl⟩
  have hA3 : Below W2.heap.size W2 W3 := by rw [hW3]; exact (Below.refl _ _).alloc (Nat.le_refl _) _
  have HQ3 : Hid (Bd W3 QD #[.int .i64 D.frm, .int .i64 D.upto, .int .i64 D.ahead, .int .i64 D.behind, .slice ma D.mid.length mc, .bool D.shut, .int .i64 D.eng, .slice ta D.tab.length tc]) := hide (by rw [hW3, hQD]; exact heap_alloc_new W2 _)
  have HX3 := hide ((HX1.out.below hb2 (Nat.le_refl _)).below hA3 (Nat.le_refl _))
  have HB2 := hide (HB1.out.trans (hb2.mono HB1.out.size))
  have HB3 := hide (HB2.out.trans (hA3.mono HB2.out.size))
  have HM3 := hide (hm2.below hA3 (Nat.le_refl _))
  have HT3 := hide (ht2.below hA3 (Nat.le_refl _))
  have HI3 := hide hi2
  have HFR : Hid ((∀ k, (Value.slice ma D.mid.length mc).ownBlock = some k → w.heap.size < k) ∧ (∀ k, (Value.slice ta D.tab.length tc).ownBlock = some k → w.heap.size < k)) := hide ⟨fun k hk => Nat.lt_of_lt_of_le HX1.out.lt (hf2 k hk), fun k hk => Nat.lt_of_lt_of_le HX1.out.lt (hg2 k hk)⟩
  have HSD := hide hd2
  have HMY := hide (mayD_any (.agg #[.int .i64 D.frm, .int .i64 D.upto, .int .i64 D.ahead, .int .i64 D.behind, .slice ma D.mid.length mc, .bool D.shut, .int .i64 D.eng, .slice ta D.tab.length tc]) D W3 ⟨_, _, rfl, HM3.out, HT3.out, hi2⟩)
  have HW3 := hide hW3
  clear hm2 ht2 hi2 hd2 hf2 hg2 hb2 hA3 hW3 HRQ HX1 HB1 HB2
  go_upto_region 7 with fail
  rw [← HW3.out, ← hQD]
  clear HW3 hQD
  cases RD with
  | none =>
    have HF : Hid (DN = (zeroD, 3)) := hide HD2.out
    obtain ⟨⟨z0, z1, z2, z3, z4, z5, z6, z7⟩, y0, y1, y2, y3, y4, y5, y6, y7⟩ := HX3.out.all
    go_wp2
    refine bodyPost_ret (v := .tuple #[.agg #[.int .i64 0, .int .i64 0, .int .i64 0, .int .i64 0, .slice none 0 0, .bool false, .int .i64 0, .slice none 0 0], .int .i64 3]) (by simp [results, Tryz.results8, go_sem, z0, z1, z2, z3, z4, z5, z6, z7]) rfl ?_
    exact HZR.out _ _ HB3.out HF.out
  | some d =>
  have hdD := HSD.out d rfl
  subst hdD
  have HD3 : Hid (DN = if MayD d then (d, 0) else (zeroD, 1)) := hide HD2.out
  obtain ⟨my, hmy⟩ : ∃ my, my = decide (MayD d) := ⟨_, rfl⟩
  rw [← hmy] at HMY
  have HMM := hide hmy
  obtain ⟨⟨q0, q1, q2, q3, q4, q5, q6, q7⟩, -⟩ := HQ3.out.all
  clear hmy HSD HD2
  go_wp2_with fail
  refine HMY.out.mono ?_
  rintro e W4 ⟨rfl, hb4⟩
  have HX4 := hide (HX3.out.below hb4 (Nat.le_refl _))
  have HQ4 := hide (HQ3.out.below hb4 (Nat.le_refl _))
  have HM4 := hide (HM3.out.below hb4 (Nat.le_refl _))
  have HT4 := hide (HT3.out.below hb4 (Nat.le_refl _))
  have HB4 := hide (HB3.out.trans (hb4.mono HB3.out.size))
  obtain ⟨⟨z0, z1, z2, z3, z4, z5, z6, z7⟩, y0, y1, y2, y3, y4, y5, y6, y7⟩ := HX4.out.all
  clear hb4 HMY HX3 HQ3 HM3 HT3 HB3 q0 q1 q2 q3 q4 q5 q6 q7
  cases my with
  | false =>
    have HF : Hid (DN = (zeroD, 1)) := hide (by rw [HD3.out, if_neg (of_decide_eq_false HMM.out.symm)])
    go_wp2
    refine bodyPost_ret (v := .tuple #[.agg #[.int .i64 0, .int .i64 0, .int .i64 0, .int .i64 0, .slice none 0 0, .bool false, .int .i64 0, .slice none 0 0], .int .i64 1]) (by simp [results, Tryz.results8, go_sem, z0, z1, z2, z3, z4, z5, z6, z7]) rfl ?_
    exact HZR.out _ _ HB4.out HF.out
  | true =>
    have HF : Hid (DN = (d, 0)) := hide (by rw [HD3.out, if_pos (of_decide_eq_true HMM.out.symm)])
    obtain ⟨⟨q0, q1, q2, q3, q4, q5, q6, q7⟩, -⟩ := HQ4.out.all
    go_wp2
    refine bodyPost_ret (v := .tuple #[.agg #[.int .i64 d.frm, .int .i64 d.upto, .int .i64 d.ahead, .int .i64 d.behind, .slice ma d.mid.length mc, .bool d.shut, .int .i64 d.eng, .slice ta d.tab.length tc], .int .i64 0]) (by simp [results, Tryz.results8, go_sem, z0, z1, z2, z3, z4, z5, z6, z7]) rfl ?_
    rw [HF.out]
    have hbt := butEight W4 w.heap.size (.int .i64 d.frm) (.int .i64 d.upto) (.int .i64 d.ahead) (.int .i64 d.behind) (.slice ma d.mid.length mc) (.bool d.shut) (.int .i64 d.eng) (.slice ta d.tab.length tc)
    exact ⟨_, _, rfl, HM4.out.but hbt (.inr fun k hk => by have := HFR.out.1 k hk; omega), HT4.out.but hbt (.inr fun k hk => by have := HFR.out.2 k hk; omega), HI3.out, (fun k hk => by have := HFR.out.1 k hk; omega), (fun k hk => by have := HFR.out.2 k hk; omega), belowEight HB4.out _ (Nat.le_refl _) _ _ _ _ _ _ _ _⟩

end Go.Proofs.YtgpdbboieokldaaGreat
