/- Contract of ferrymanref10: Diff. -/
import Derived.Test.YtgpdbboieokldaaRef10G
import Derived.Deep.LoopGhost
import Derived.Deep.RegionHeld2
import Derived.Deep.RegionLaw
import Derived.Deep.DeepCutAuto
import Derived.Deep.QuietTactic
import Derived.BigQuiet
namespace Go.Proofs.Ytgpdbboieokldaa
open Go.RowKit

set_option maxRecDepth 100000 in
set_option maxHeartbeats 8000000 in
theorem refDiff_any (va : Value) (a : Snap) (vb : Value) (b : Snap) (w : World) (ha : SnV w va a) (hb : SnV w vb b) :
    Calls Try.prog 11 #[va, vb] w fun e w' => GivenD w (diffD a b) e w' := by
  have HMA : Hid (∀ W, Below w.heap.size w W → Calls Try.prog 29 #[va] W fun e w' => e = .returned (.bool (decide (MayN a))) ∧ Below W.heap.size W w') := hide (fun W h => refMayN_any va a W (ha.below h (Nat.le_refl _)))
  have HMB : Hid (∀ W, Below w.heap.size w W → Calls Try.prog 29 #[vb] W fun e w' => e = .returned (.bool (decide (MayN b))) ∧ Below W.heap.size W w') := hide (fun W h => refMayN_any vb b W (hb.below h (Nat.le_refl _)))
  obtain ⟨vl, vt, rfl, hl, hk, he, ht, hi⟩ := ha
  obtain ⟨vl', vt', rfl, hl', hk', he', ht', hi'⟩ := hb
  have HEB : Hid (∀ W p F x, Below w.heap.size w W → F = (findE b.tab p).isSome → x = (findE b.tab p).getD zeroE → Calls Try.prog 30 #[vt', .int .i64 p] W fun e w' => ∃ v', e = .returned v' ∧ v' = .tuple #[.agg #[.int .i64 x.proc, .int .i64 x.seq, .int .i64 x.resp], .bool F] ∧ Below W.heap.size W w') := hide (fun W p F x h h1 h2 => entry_one vt' b.tab p F x h1 h2 W (ht'.below h (Nat.le_refl _)))
  have HEA : Hid (∀ W p F x, Below w.heap.size w W → F = (findE a.tab p).isSome → x = (findE a.tab p).getD zeroE → Calls Try.prog 30 #[vt, .int .i64 p] W fun e w' => ∃ v', e = .returned v' ∧ v' = .tuple #[.agg #[.int .i64 x.proc, .int .i64 x.seq, .int .i64 x.resp], .bool F] ∧ Below W.heap.size W w') := hide (fun W p F x h h1 h2 => entry_one vt a.tab p F x h1 h2 W (ht.below h (Nat.le_refl _)))
  have HLI := hide (midL_i64 (a := a.st.L) hl'.i64)
  have HTI := hide (diffT_i (a := a.tab) ht'.i)
  have HLA := hide hl
  have HLB := hide hl'
  have HTA := hide ht
  have HTB := hide ht'
  obtain ⟨la, lc, e1⟩ := hl.shape
  obtain ⟨la', lc', e2⟩ := hl'.shape
  obtain ⟨ta, tc, e3⟩ := ht.shape
  obtain ⟨ta', tc', e4⟩ := ht'.shape
  subst e1 e2 e3 e4
  have HI := hide (And.intro hi (And.intro hi' he'))
  obtain ⟨A, hA⟩ : ∃ A : Array Value, A = #[.int .i64 a.idx, .int .i64 a.st.kind, .slice la a.st.L.length lc, .bool a.st.shut, .int .i64 a.st.eng, .slice ta a.tab.length tc] := ⟨_, rfl⟩
  obtain ⟨B, hB⟩ : ∃ B : Array Value, B = #[.int .i64 b.idx, .int .i64 b.st.kind, .slice la' b.st.L.length lc', .bool b.st.shut, .int .i64 b.st.eng, .slice ta' b.tab.length tc'] := ⟨_, rfl⟩
  obtain ⟨W0, hW0⟩ : ∃ W0, W0 = ((w.alloc (.cells #[.int .i64 a.idx, .int .i64 a.st.kind, .slice la a.st.L.length lc, .bool a.st.shut, .int .i64 a.st.eng, .slice ta a.tab.length tc] 27)).alloc (.cells #[.int .i64 b.idx, .int .i64 b.st.kind, .slice la' b.st.L.length lc', .bool b.st.shut, .int .i64 b.st.eng, .slice ta' b.tab.length tc'] 27)).alloc (.cells #[.int .i64 0, .int .i64 0, .int .i64 0, .int .i64 0, .slice none 0 0, .bool false, .int .i64 0, .slice none 0 0] 31) := ⟨_, rfl⟩
  have HB0 : Hid (DfA w W0 A B) := hide (by rw [hW0, hA, hB]; exact DfA.start w _ _)
  have HKA : Hid (∀ W, DfA w W A B → (W.cell? ⟨w.heap.size, 0, none⟩ = some (.int .i64 a.idx) ∧ W.cell? ⟨w.heap.size, 1, none⟩ = some (.int .i64 a.st.kind) ∧ W.cell? ⟨w.heap.size, 2, none⟩ = some (.slice la a.st.L.length lc) ∧ W.cell? ⟨w.heap.size, 3, none⟩ = some (.bool a.st.shut) ∧ W.cell? ⟨w.heap.size, 4, none⟩ = some (.int .i64 a.st.eng) ∧ W.cell? ⟨w.heap.size, 5, none⟩ = some (.slice ta a.tab.length tc)) ∧ W.cell? ⟨w.heap.size + 1, 0, none⟩ = some (.int .i64 b.idx) ∧ W.cell? ⟨w.heap.size + 1, 1, none⟩ = some (.int .i64 b.st.kind) ∧ W.cell? ⟨w.heap.size + 1, 2, none⟩ = some (.slice la' b.st.L.length lc') ∧ W.cell? ⟨w.heap.size + 1, 3, none⟩ = some (.bool b.st.shut) ∧ W.cell? ⟨w.heap.size + 1, 4, none⟩ = some (.int .i64 b.st.eng) ∧ W.cell? ⟨w.heap.size + 1, 5, none⟩ = some (.slice ta' b.tab.length tc')) := hide (fun W h => by
    have h1 := h.fst
    have h2 := h.snd
    rw [hA] at h1
    rw [hB] at h2
    exact ⟨h1.all.1, h2.all.1⟩)
  have HW0 := hide hW0
  have HBAD := hide (diffD_bad (a := a) (b := b))
  have HGAP := hide (diffD_gap (a := a) (b := b))
  have HOK := hide (diffD_ok (a := a) (b := b))
  have HFEW : Hid (MayN b → b.st.L.length ≤ 128 ∧ b.tab.length ≤ 65) := hide (fun h => ⟨(nums_in h.2.1).1, tabOk_few h.2.2⟩)
  have HFEWA : Hid (MayN a → a.st.L.length ≤ 128 ∧ a.tab.length ≤ 65 ∧ Rises a.tab) := hide (fun h => ⟨(nums_in h.2.1).1, tabOk_few h.2.2, h.2.2.rises⟩)
  obtain ⟨DN, hDN⟩ : ∃ DN, DN = diffD a b := ⟨_, rfl⟩
  rw [← hDN] at HBAD HGAP HOK ⊢
  have HZR : Hid (∀ (W : World) (n : Int), Below w.heap.size w W → DN = (zeroD, n) → GivenD w DN (.returned (.tuple #[.agg #[.int .i64 0, .int .i64 0, .int .i64 0, .int .i64 0, .slice none 0 0, .bool false, .int .i64 0, .slice none 0 0], .int .i64 n])) ((((((((W.setCell ⟨w.heap.size + 1 + 1, 0, none⟩ (.int .i64 0)).setCell ⟨w.heap.size + 1 + 1, 1, none⟩ (.int .i64 0)).setCell ⟨w.heap.size + 1 + 1, 2, none⟩ (.int .i64 0)).setCell ⟨w.heap.size + 1 + 1, 3, none⟩ (.int .i64 0)).setCell ⟨w.heap.size + 1 + 1, 4, none⟩ (.slice none 0 0)).setCell ⟨w.heap.size + 1 + 1, 5, none⟩ (.bool false)).setCell ⟨w.heap.size + 1 + 1, 6, none⟩ (.int .i64 0)).setCell ⟨w.heap.size + 1 + 1, 7, none⟩ (.slice none 0 0))) := hide (fun W n h e => by
    rw [e]
    exact GivenD.zero _ (belowEightE h _ (by omega) _ _ _ _ _ _ _ _))
  obtain ⟨m1, hm1⟩ : ∃ m, m = decide (MayN a) := ⟨_, rfl⟩
  obtain ⟨m2, hm2⟩ : ∃ m, m = decide (MayN b) := ⟨_, rfl⟩
  rw [← hm1] at HMA
  rw [← hm2] at HMB
  have HM1 := hide hm1
  have HM2 := hide hm2
  clear hm1 hm2 hDN hA hB hW0 hl hl' ht ht' hk hk' he he' hi hi'
  obtain ⟨ai, ⟨ak, aL, ash, ae⟩, aT⟩ := a
  obtain ⟨bi, ⟨bk, bL, bsh, be⟩, bT⟩ := b
  dsimp only at *
  obtain ⟨⟨p0, p1, p2, p3, p4, p5⟩, -⟩ := HKA.out _ HB0.out
  go_enter Try.func11, Try.ntmps11
  go_upto_region 1 with fail
  rw [← HW0.out]
  clear HW0
  go_wp2_with fail
  refine (HMA.out _ HB0.out.below).mono ?_
  rintro x W1 ⟨rfl, hb1⟩
  have HB1 := hide (HB0.out.more hb1)
  clear hb1 HMA HB0 p0 p1 p2 p3 p4 p5
  obtain ⟨-, q0, q1, q2, q3, q4, q5⟩ := HKA.out _ HB1.out
  go_wp2_with fail
  refine (HMB.out _ HB1.out.below).mono ?_
  rintro x W2 ⟨rfl, hb2⟩
  have HB2 := hide (HB1.out.more hb2)
  clear hb2 HMB HB1 q0 q1 q2 q3 q4 q5
  cases m1 with
  | false =>
    have HF : Hid (DN = (zeroD, 1)) := hide (HBAD.out (.inl (of_decide_eq_false HM1.out.symm)))
    obtain ⟨⟨z0, z1, z2, z3, z4, z5, z6, z7⟩, y0, y1, y2, y3, y4, y5, y6, y7⟩ := HB2.out.res.all
    go_wp2
    refine bodyPost_ret (v := .tuple #[.agg #[.int .i64 0, .int .i64 0, .int .i64 0, .int .i64 0, .slice none 0 0, .bool false, .int .i64 0, .slice none 0 0], .int .i64 1]) (by simp [results, Try.results11, go_sem, z0, z1, z2, z3, z4, z5, z6, z7]) rfl ?_
    exact HZR.out _ _ HB2.out.below HF.out
  | true =>
  cases m2 with
  | false =>
    have HF : Hid (DN = (zeroD, 1)) := hide (HBAD.out (.inr (.inl (of_decide_eq_false HM2.out.symm))))
    obtain ⟨⟨z0, z1, z2, z3, z4, z5, z6, z7⟩, y0, y1, y2, y3, y4, y5, y6, y7⟩ := HB2.out.res.all
    go_wp2
    refine bodyPost_ret (v := .tuple #[.agg #[.int .i64 0, .int .i64 0, .int .i64 0, .int .i64 0, .slice none 0 0, .bool false, .int .i64 0, .slice none 0 0], .int .i64 1]) (by simp [results, Try.results11, go_sem, z0, z1, z2, z3, z4, z5, z6, z7]) rfl ?_
    exact HZR.out _ _ HB2.out.below HF.out
  | true =>
  by_cases hkk : ak = bk
  case neg =>
    have HF : Hid (DN = (zeroD, 1)) := hide (HBAD.out (.inr (.inr hkk)))
    have hkd : (ak != bk) = true := by rw [bne_iff_ne]; exact hkk
    obtain ⟨⟨p0, p1, p2, p3, p4, p5⟩, q0, q1, q2, q3, q4, q5⟩ := HKA.out _ HB2.out
    obtain ⟨⟨z0, z1, z2, z3, z4, z5, z6, z7⟩, y0, y1, y2, y3, y4, y5, y6, y7⟩ := HB2.out.res.all
    clear hkk
    go_wp2
    refine bodyPost_ret (v := .tuple #[.agg #[.int .i64 0, .int .i64 0, .int .i64 0, .int .i64 0, .slice none 0 0, .bool false, .int .i64 0, .slice none 0 0], .int .i64 1]) (by simp [results, Try.results11, go_sem, z0, z1, z2, z3, z4, z5, z6, z7]) rfl ?_
    exact HZR.out _ _ HB2.out.below HF.out
  have hkd : (ak != bk) = false := by rw [bne_eq_false_iff_eq]; exact hkk
  have HGAP2 := hide (HGAP.out (of_decide_eq_true HM1.out.symm) (of_decide_eq_true HM2.out.symm) hkk)
  have HOK2 := hide (HOK.out (of_decide_eq_true HM1.out.symm) (of_decide_eq_true HM2.out.symm) hkk)
  obtain ⟨hL128, hT65⟩ := HFEW.out (of_decide_eq_true HM2.out.symm)
  obtain ⟨hA128, hU65, hri⟩ := HFEWA.out (of_decide_eq_true HM1.out.symm)
  have HRI := hide hri
  clear hri hkk HBAD HGAP HOK HFEW HFEWA HM1 HM2
  obtain ⟨⟨p0, p1, p2, p3, p4, p5⟩, q0, q1, q2, q3, q4, q5⟩ := HKA.out _ HB2.out
  go_wp2
  clear p0 p1 p2 p3 p4 p5 q0 q1 q2 q3 q4 q5 hkd
  go_loopw [8] (fun vi wr => ∃ k : Nat, vi = .int .i64 (k : Int) ∧ k ≤ aT.length ∧ Hid (∀ j, j < k → (findE bT (aT.getD j zeroE).proc).isSome = true) ∧ Hid (DfA w wr A B)) (fun vi _ => aT.length - (intOf vi).toNat)
  case atStart => exact ⟨0, rfl, Nat.zero_le _, hide (fun j hj => absurd hj (Nat.not_lt_zero _)), HB2⟩
  case round =>
    clear HB2
    obtain ⟨k, rfl, hk, hP, HB3⟩ := hrel
    obtain ⟨⟨p0, p1, p2, p3, p4, p5⟩, q0, q1, q2, q3, q4, q5⟩ := HKA.out _ HB3.out
    by_cases hlt : k < aT.length
    case pos =>
      have hki : (k : Int) < (aT.length : Int) := by omega
      have HNO : Hid ((findE bT (aT.getD k zeroE).proc).isSome = false → DN = (zeroD, 15)) := hide (fun h => HGAP2.out (.inr (covers_not hlt h)))
      have HYE : Hid ((findE bT (aT.getD k zeroE).proc).isSome = true → ∀ j, j < k + 1 → (findE bT (aT.getD j zeroE).proc).isSome = true) := hide (fun h j hj => by
        by_cases e : j = k
        · rw [e]; exact h
        · exact hP.out j (by omega))
      obtain ⟨c, off, rfl, hc⟩ : ∃ c off, ta = some ⟨c, off, none⟩ ∧ EntAt w c (off + k * 3) (aT.getD k zeroE) := by
        obtain ⟨ao, cap, hv, -, -, -, -, h0 | ⟨c, off, h1, h2⟩⟩ := HTA.out
        · rw [h0] at hlt; simp at hlt
        · injection hv with hv
          exact ⟨c, off, hv.trans h1, h2 k hlt⟩
      have HC := hide hc
      generalize aT.getD k zeroE = x at *
      obtain ⟨xp, xs, xr⟩ := x
      dsimp only at *
      obtain ⟨F, hF⟩ : ∃ F, F = (findE bT xp).isSome := ⟨_, rfl⟩
      obtain ⟨⟨fp, fq, fr⟩, hf⟩ : ∃ f, f = (findE bT xp).getD zeroE := ⟨_, rfl⟩
      rw [← hF] at HNO HYE
      have HK : Hid (∀ W, Below wr.heap.size wr W → W.cell? ⟨w.heap.size + 1, 5, none⟩ = some (.slice ta' bT.length tc') ∧ W.cell? ⟨w.heap.size, 5, none⟩ = some (.slice (some ⟨c, off, none⟩) aT.length tc) ∧ W.cell? ⟨c, off + k * 3, none⟩ = some (.int .i64 xp)) := hide (fun W h => by
        have h1 := HB3.out.more h
        obtain ⟨⟨-, -, -, -, -, g1⟩, -, -, -, -, -, g2⟩ := HKA.out _ h1
        exact ⟨g2, g1, (HC.out.keep (h1.below.block c HC.out.lt)).1⟩)
      have HCE : Hid (∀ W, Below wr.heap.size wr W → Calls Try.prog 30 #[.slice ta' bT.length tc', .int .i64 xp] W fun e w' => ∃ v', e = .returned v' ∧ v' = .tuple #[.agg #[.int .i64 fp, .int .i64 fq, .int .i64 fr], .bool F] ∧ Below W.heap.size W w') := hide (fun W h => HEB.out W xp F ⟨fp, fq, fr⟩ (HB3.out.more h).below hF hf)
      have HS0 : Hid (Below wr.heap.size wr wr.drew) := hide ((Below.refl _ _).drew)
      have HS1 : Hid (∀ X, Below wr.heap.size wr (wr.alloc X).drew) := hide (fun X => ((Below.refl _ _).alloc (Nat.le_refl _) X).drew)
      have HZ : Hid (∀ W X, Below wr.heap.size wr W → Below wr.heap.size wr (W.alloc X)) := hide (fun W X h => h.alloc h.size X)
      have HE1 : Hid (∀ args w, (callFunc 30 args).run Try.prog w = .ok (.enter 30 args) w) := hide (enters_of Try.func30 (by kernel_rfl) rfl)
      have HQA : Hid (Be (wr.alloc (.cells #[.int .i64 0, .int .i64 0, .int .i64 0] 55)).drew wr.heap.size #[.int .i64 0, .int .i64 0, .int .i64 0]) := hide (heap_alloc_new wr _)
      clear hF hf hc
      clear p0 p1 p2 p3 p4 q0 q1 q2 q3 q4 p5 q5
      obtain ⟨g2, g1, g3⟩ := HK.out _ (Below.refl _ _)
      go_upto_region 8 with fail
      clear g1 g2 g3
      go_cut [10] (fun x10 wc => x10 = .bool F ∧ Hid (Below wr.heap.size wr wc))
      case first =>
        go_region_held2 (fun W => W.cell? ⟨w.heap.size + 1, 5, none⟩ = some (.slice ta' bT.length tc') ∧ W.cell? ⟨w.heap.size, 5, none⟩ = some (.slice (some ⟨c, off, none⟩) aT.length tc) ∧ W.cell? ⟨c, off + k * 3, none⟩ = some (.int .i64 xp))
          (first | (with_reducible exact HK.out _ HS0.out) | (with_reducible exact HK.out _ (HS1.out _)) | (with_reducible exact HK.out _ hbk1) | (with_reducible exact HK.out _ (HZ.out _ _ hbk1)) | (exact HK.out _ (((hbk1.setCell (Nat.le_refl _) _).setCell (Nat.le_refl _) _).setCell (Nat.le_refl _) _)) | (exact HK.out _ ((((HZ.out _ _ hbk1).setCell hbk1.size _).setCell hbk1.size _).setCell hbk1.size _)))
          (first
            | ((with_reducible refine step_call 30 _ _ rfl rfl #[.slice ta' bT.length tc', .int .i64 xp] (by simp [Act.eval]) HE1.out (HCE.out (wr.drew) HS0.out) ?_); rintro v1 W5 ⟨rfl, hb⟩; have hbk1 : Below wr.heap.size wr W5 := HS0.out.trans (hb.mono HS0.out.size); clear hb)
            | ((with_reducible refine step_call 30 _ _ rfl rfl #[.slice ta' bT.length tc', .int .i64 xp] (by simp [Act.eval]) HE1.out (HCE.out ((wr.alloc (.cells #[.int .i64 0, .int .i64 0, .int .i64 0] 55)).drew) (HS1.out _)) ?_); rintro v1 W5 ⟨rfl, hb⟩; have hbk1 : Below wr.heap.size wr W5 := (HS1.out _).trans (hb.mono (HS1.out _).size); have HQ5 := hide (HQA.out.below hb (Nat.le_refl _)); obtain ⟨z0, y0⟩ := HQ5.out.cell 0; obtain ⟨z1, y1⟩ := HQ5.out.cell 1; obtain ⟨z2, y2⟩ := HQ5.out.cell 2; clear hb))
        all_goals
          go_wp2_with fail
          go_meet
          first
          | exact ⟨rfl, hide (HZ.out _ _ hbk1)⟩
          | exact ⟨rfl, hide (((hbk1.setCell (Nat.le_refl _) _).setCell (Nat.le_refl _) _).setCell (Nat.le_refl _) _)⟩
      case rest =>
        clear HK HCE HS0 HS1 HZ HE1 HQA HC
        obtain ⟨W4, rfl⟩ : ∃ W, W = wc := ⟨_, rfl⟩
        obtain ⟨rfl, hb4⟩ := hcut
        have HB4 := hide (HB3.out.more hb4.out)
        clear hb4 HB3
        cases F with
        | false =>
          have HF := hide (HNO.out rfl)
          obtain ⟨⟨z0, z1, z2, z3, z4, z5, z6, z7⟩, y0, y1, y2, y3, y4, y5, y6, y7⟩ := HB4.out.res.all
          go_wp2
          refine bodyPost_ret (v := .tuple #[.agg #[.int .i64 0, .int .i64 0, .int .i64 0, .int .i64 0, .slice none 0 0, .bool false, .int .i64 0, .slice none 0 0], .int .i64 15]) (by simp [results, Try.results11, go_sem, z0, z1, z2, z3, z4, z5, z6, z7]) rfl ?_
          exact HZR.out _ _ HB4.out.below HF.out
        | true =>
          have HP1 := hide (HYE.out rfl)
          go_wp2
          go_roundw
          case rel => exact ⟨k + 1, by go_num, by omega, HP1, HB4⟩
          case measure => simp [intOf]; omega
    case neg =>
      have hni : ¬ (k : Int) < (aT.length : Int) := by omega
      have HCV : Hid (Covers aT bT) := hide (covers_getD (fun j hj => hP.out j (by omega)))
      clear hk hP hlt
      by_cases hidx : bi < ai
      case pos =>
        have HF : Hid (DN = (zeroD, 15)) := hide (HGAP2.out (.inl hidx))
        obtain ⟨⟨z0, z1, z2, z3, z4, z5, z6, z7⟩, y0, y1, y2, y3, y4, y5, y6, y7⟩ := HB3.out.res.all
        go_wp2
        refine bodyPost_ret (v := .tuple #[.agg #[.int .i64 0, .int .i64 0, .int .i64 0, .int .i64 0, .slice none 0 0, .bool false, .int .i64 0, .slice none 0 0], .int .i64 15]) (by simp [results, Try.results11, go_sem, z0, z1, z2, z3, z4, z5, z6, z7]) rfl ?_
        exact HZR.out _ _ HB3.out.below HF.out
      have HF := hide (HOK2.out (by omega) HCV.out)
      obtain ⟨W5, hW5⟩ : ∃ W5, W5 = wr.alloc (.cells #[.int .i64 ai, .int .i64 bi, .int .i64 0, .int .i64 0, .slice none 0 0, .bool bsh, .int .i64 be, .slice none 0 0] 31) := ⟨_, rfl⟩
      obtain ⟨D, hD⟩ : ∃ D, D = wr.heap.size := ⟨_, rfl⟩
      have HB5 : Hid (DfB w W5 A B D #[.int .i64 ai, .int .i64 bi, .int .i64 0, .int .i64 0, .slice none 0 0, .bool bsh, .int .i64 be, .slice none 0 0]) := hide (by rw [hW5, hD]; exact HB3.out.box _)
      have HW5 := hide hW5
      clear hW5
      go_upto_region 14 with fail
      rw [← HW5.out, ← hD]
      clear HW5 hD HB3 HCV HOK2 HGAP2 p0 p1 p2 p3 p4 p5 q0 q1 q2 q3 q4 q5 hni hidx
      obtain ⟨⟨p0, p1, p2, p3, p4, p5⟩, q0, q1, q2, q3, q4, q5⟩ := HKA.out _ HB5.out.base
      go_wp2
      clear p0 p1 p2 p3 p4 p5 q0 q1 q2 q3 q4 q5
      go_loopg [] bL.length (fun g wr => ∃ k : Nat, g = bL.length - k ∧ k ≤ aL.length ∧ k ≤ bL.length ∧ Hid (∀ j, j < k → aL.getD j 0 = bL.getD j 0) ∧ Hid (DfB w wr A B D #[.int .i64 ai, .int .i64 bi, .int .i64 (k : Int), .int .i64 0, .slice none 0 0, .bool bsh, .int .i64 be, .slice none 0 0]))
      case atStart => exact ⟨0, rfl, Nat.zero_le _, Nat.zero_le _, hide (fun j hj => absurd hj (Nat.not_lt_zero _)), HB5⟩
      case round =>
        clear HB5
        obtain ⟨k, hg, hka, hkb, hP, HB5⟩ := hrel
        obtain ⟨⟨d0, d1, d2, d3, d4, d5, d6, d7⟩, y0, y1, y2, y3, y4, y5, y6, y7⟩ := HB5.out.box.all
        have hkl : (k : Int) ≤ 128 := by omega
        go_upto_region 16 with fail
        obtain ⟨G, hG⟩ : ∃ G, G = decide (k < aL.length ∧ k < bL.length ∧ aL.getD k 0 = bL.getD k 0) := ⟨_, rfl⟩
        have HG := hide hG
        clear hG
        go_cut [106] (fun x wc => x = .bool G ∧ Hid (∃ n, wc = wr.drewN n))
        case first =>
          by_cases h1 : k < aL.length
          case neg =>
            have HE : Hid (false = G) := hide (by rw [HG.out]; exact (decide_eq_false (fun h => h1 h.1)).symm)
            have h1d : decide ((k : Int) < (aL.length : Int)) = false := decide_eq_false (by omega)
            have h1e : decide (k < aL.length) = false := decide_eq_false h1
            clear h1
            go_quiet (fail)
            go_wp2
            go_meet
            exact ⟨by rw [HE.out], hide ⟨_, rfl⟩⟩
          have h1i : (k : Int) < (aL.length : Int) := by omega
          by_cases h2 : k < bL.length
          case neg =>
            have HE : Hid (false = G) := hide (by rw [HG.out]; exact (decide_eq_false (fun h => h2 h.2.1)).symm)
            have h2d : decide ((k : Int) < (bL.length : Int)) = false := decide_eq_false (by omega)
            have h2e : decide (k < bL.length) = false := decide_eq_false h2
            clear h2
            go_quiet (fail)
            go_wp2
            go_meet
            exact ⟨by rw [HE.out], hide ⟨_, rfl⟩⟩
          have h2i : (k : Int) < (bL.length : Int) := by omega
          obtain ⟨c, off, rfl, hc⟩ : ∃ c off, la = some ⟨c, off, none⟩ ∧ wr.cell? ⟨c, off + k, none⟩ = some (.int .i64 (aL.getD k 0)) := by
            obtain ⟨ao, cap, hv, -, -, -, -, h0 | ⟨c, off, h3, h4⟩⟩ := HLA.out.below HB5.out.base.below (Nat.le_refl _)
            · rw [h0] at h1; simp at h1
            · injection hv with hv
              exact ⟨c, off, hv.trans h3, h4 k h1⟩
          obtain ⟨c', off', rfl, hc'⟩ : ∃ c off, la' = some ⟨c, off, none⟩ ∧ wr.cell? ⟨c, off + k, none⟩ = some (.int .i64 (bL.getD k 0)) := by
            obtain ⟨ao, cap, hv, -, -, -, -, h0 | ⟨c, off, h3, h4⟩⟩ := HLB.out.below HB5.out.base.below (Nat.le_refl _)
            · rw [h0] at h2; simp at h2
            · injection hv with hv
              exact ⟨c, off, hv.trans h3, h4 k h2⟩
          have HX := hide (And.intro h1 h2)
          by_cases h3 : aL.getD k 0 = bL.getD k 0
          · have HE : Hid (true = G) := hide (by rw [HG.out]; exact (decide_eq_true ⟨HX.out.1, HX.out.2, h3⟩).symm)
            have h3b : (aL.getD k 0 == bL.getD k 0) = true := beq_iff_eq.2 h3
            clear h3 HG hP
            generalize aL.getD k 0 = x at *
            generalize bL.getD k 0 = y at *
            go_quiet (fail)
            go_wp2
            go_meet
            exact ⟨by rw [HE.out], hide ⟨_, rfl⟩⟩
          · have HE : Hid (false = G) := hide (by rw [HG.out]; exact (decide_eq_false (fun h => h3 h.2.2)).symm)
            have h3b : (aL.getD k 0 == bL.getD k 0) = false := beq_eq_false_iff_ne.2 h3
            clear h3 HG hP
            generalize aL.getD k 0 = x at *
            generalize bL.getD k 0 = y at *
            go_quiet (fail)
            go_wp2
            go_meet
            exact ⟨by rw [HE.out], hide ⟨_, rfl⟩⟩
        case rest =>
          obtain ⟨W6, rfl⟩ : ∃ W, W = wc := ⟨_, rfl⟩
          obtain ⟨rfl, hw6⟩ := hcut
          obtain ⟨n6, hn6⟩ := hw6.out
          have HB6 : Hid (DfB w W6 A B D #[.int .i64 ai, .int .i64 bi, .int .i64 (k : Int), .int .i64 0, .slice none 0 0, .bool bsh, .int .i64 be, .slice none 0 0]) := hide (by rw [hn6]; exact HB5.out.drewN n6)
          clear hw6 hn6 HB5 d0 d1 d2 d3 d4 d5 d6 d7 y0 y1 y2 y3 y4 y5 y6 y7
          cases G with
          | true =>
            have HGT := hide (of_decide_eq_true HG.out.symm)
            obtain ⟨d2, y2⟩ := HB6.out.box.cell 2
            have HB7 : Hid (DfB w (W6.setCell ⟨D, 2, none⟩ (.int .i64 ((k : Int) + 1))) A B D #[.int .i64 ai, .int .i64 bi, .int .i64 ((k : Int) + 1), .int .i64 0, .slice none 0 0, .bool bsh, .int .i64 be, .slice none 0 0]) := hide (HB6.out.setBox 2 _)
            go_wp2
            go_roundg (gk - 1)
            case measure => have := HGT.out; omega
            case rel => exact ⟨k + 1, by have := HGT.out; omega, by have := HGT.out; omega, by have := HGT.out; omega, hide (fun j hj => by
              by_cases e : j = k
              · rw [e]; exact HGT.out.2.2
              · exact hP.out j (by omega)), HB7⟩
          | false =>
            have HPK : Hid (k = preL aL bL) := hide (preL_run aL bL k hka hkb hP.out (by
              have h := of_decide_eq_false HG.out.symm
              by_cases e1 : k = aL.length
              · exact .inl e1
              by_cases e2 : k = bL.length
              · exact .inr (.inl e2)
              · exact .inr (.inr (fun e => h ⟨by omega, by omega, e⟩))))
            clear HG hP hg
            have hsl := sufL_le aL bL
            obtain ⟨LA, hLA⟩ : ∃ LA, LA = aL.drop k := ⟨_, rfl⟩
            obtain ⟨LB, hLB⟩ : ∃ LB, LB = bL.drop k := ⟨_, rfl⟩
            obtain ⟨M, hM⟩ : ∃ M, M = midL aL bL := ⟨_, rfl⟩
            obtain ⟨S, hS⟩ : ∃ S, S = sufL aL bL := ⟨_, rfl⟩
            have HSU : Hid (S = preL LA.reverse LB.reverse) := hide (by rw [hS, hLA, hLB, HPK.out]; rfl)
            obtain ⟨xa, xc, hcutA, hcapA, hrdA⟩ := cutI_from la aL lc HLA.out.cap k hka LA hLA
            obtain ⟨xb, xd, hcutB, hcapB, hrdB⟩ := cutI_from la' bL lc' HLB.out.cap k hkb LB hLB
            have hMt : M = LB.take (LB.length - S) := by rw [hM, hLB, hS, HPK.out]; rfl
            have hLBl : LB.length = bL.length - k := by rw [hLB, List.length_drop]
            have hLAl : LA.length = aL.length - k := by rw [hLA, List.length_drop]
            have hSB : S ≤ LB.length := by have h := HPK.out; rw [← h, ← hS] at hsl; omega
            have hMl : M.length = LB.length - S := by rw [hMt, List.length_take]; omega
            obtain ⟨xm, xe, hcutM, hrdM⟩ := cutI_upto xb LB xd hcapB M.length (by omega) M (by rw [hMl]; exact hMt)
            have HRA : Hid (∀ W, Below w.heap.size w W → RdI W (.slice xa LA.length xc) LA) := hide (fun W h => hrdA W (HLA.out.below h (Nat.le_refl _)))
            have HRB : Hid (∀ W, Below w.heap.size w W → RdI W (.slice xb LB.length xd) LB) := hide (fun W h => hrdB W (HLB.out.below h (Nat.le_refl _)))
            have HRM : Hid (∀ W, Below w.heap.size w W → RdI W (.slice xm M.length xe) M) := hide (fun W h => hrdM W (hrdB W (HLB.out.below h (Nat.le_refl _))))
            have hwr : IntKind.i64.wrap ((LB.length : Int) - (S : Int)) = (M.length : Int) := by rw [i64wrap_in _ (by omega) (by omega)]; omega
            have HCM := hide hcutM
            have HWR := hide hwr
            have HDI : Hid (DelI ⟨ai, bi, (k : Int), (S : Int), M, bsh, be, diffT aT bT⟩) := hide ⟨HI.out.1, HI.out.2.1, i64_small (by show (_ : Int) ≤ (k : Int); omega) (by show (k : Int) ≤ _; omega), i64_small (by show (_ : Int) ≤ (S : Int); omega) (by show (S : Int) ≤ _; omega), HI.out.2.2⟩
            rw [← HPK.out, ← hS, ← hM] at HF
            rw [← hM] at HLI
            have hLA1 : LA.length ≤ 128 := by omega
            have hLB1 : LB.length ≤ 128 := by omega
            have hM1 : M.length ≤ 128 := by omega
            clear hcutM hwr hMt hLBl hLAl hMl hM hLA hLB hS hrdA hrdB hrdM hcapA hcapB HLA HLB HI hsl hka hkb HPK hSB
            obtain ⟨d2, -⟩ := HB6.out.box.cell 2
            go_wp2
            clear d2 hcutA hcutB
            go_loopg [] LB.length (fun g wr => ∃ q : Nat, g = LB.length - q ∧ q ≤ LA.length ∧ q ≤ LB.length ∧ Hid (∀ j, j < q → LA.getD (LA.length - 1 - j) 0 = LB.getD (LB.length - 1 - j) 0) ∧ Hid (DfB w wr A B D #[.int .i64 ai, .int .i64 bi, .int .i64 (k : Int), .int .i64 (q : Int), .slice none 0 0, .bool bsh, .int .i64 be, .slice none 0 0]))
            case atStart => exact ⟨0, rfl, Nat.zero_le _, Nat.zero_le _, hide (fun j hj => absurd hj (Nat.not_lt_zero _)), HB6⟩
            case round =>
              clear HB6
              obtain ⟨q, hg, hqa, hqb, hP, HB6⟩ := hrel
              obtain ⟨⟨d0, d1, d2, d3, d4, d5, d6, d7⟩, y0, y1, y2, y3, y4, y5, y6, y7⟩ := HB6.out.box.all
              have hql : (q : Int) ≤ 128 := by omega
              go_upto_region 20 with fail
              obtain ⟨G, hG⟩ : ∃ G, G = decide (q < LA.length ∧ q < LB.length ∧ LA.getD (LA.length - 1 - q) 0 = LB.getD (LB.length - 1 - q) 0) := ⟨_, rfl⟩
              have HG := hide hG
              clear hG
              go_cut [151] (fun x wc => x = .bool G ∧ Hid (∃ n, wc = wr.drewN n))
              case first =>
                by_cases h1 : q < LA.length
                case neg =>
                  have HE : Hid (false = G) := hide (by rw [HG.out]; exact (decide_eq_false (fun h => h1 h.1)).symm)
                  have h1d : decide ((q : Int) < (LA.length : Int)) = false := decide_eq_false (by omega)
                  have h1e : decide (q < LA.length) = false := decide_eq_false h1
                  clear h1
                  go_quiet (fail)
                  go_wp2
                  go_meet
                  exact ⟨by rw [HE.out], hide ⟨_, rfl⟩⟩
                have h1i : (q : Int) < (LA.length : Int) := by omega
                by_cases h2 : q < LB.length
                case neg =>
                  have HE : Hid (false = G) := hide (by rw [HG.out]; exact (decide_eq_false (fun h => h2 h.2.1)).symm)
                  have h2d : decide ((q : Int) < (LB.length : Int)) = false := decide_eq_false (by omega)
                  have h2e : decide (q < LB.length) = false := decide_eq_false h2
                  clear h2
                  go_quiet (fail)
                  go_wp2
                  go_meet
                  exact ⟨by rw [HE.out], hide ⟨_, rfl⟩⟩
                have h2i : (q : Int) < (LB.length : Int) := by omega
                obtain ⟨i, hi⟩ : ∃ i, i = LA.length - 1 - q := ⟨_, rfl⟩
                obtain ⟨j, hj⟩ : ∃ j, j = LB.length - 1 - q := ⟨_, rfl⟩
                rw [← hi, ← hj] at HG
                have hil : i < LA.length := by omega
                have hjl : j < LB.length := by omega
                obtain ⟨c, off, rfl, hc⟩ : ∃ c off, xa = some ⟨c, off, none⟩ ∧ wr.cell? ⟨c, off + i, none⟩ = some (.int .i64 (LA.getD i 0)) := by
                  obtain ⟨ao, cap, hv, -, -, -, -, h0 | ⟨c, off, h3, h4⟩⟩ := HRA.out _ HB6.out.base.below
                  · rw [h0] at h1; simp at h1
                  · injection hv with hv
                    exact ⟨c, off, hv.trans h3, h4 i hil⟩
                obtain ⟨c', off', rfl, hc'⟩ : ∃ c off, xb = some ⟨c, off, none⟩ ∧ wr.cell? ⟨c, off + j, none⟩ = some (.int .i64 (LB.getD j 0)) := by
                  obtain ⟨ao, cap, hv, -, -, -, -, h0 | ⟨c, off, h3, h4⟩⟩ := HRB.out _ HB6.out.base.below
                  · rw [h0] at h2; simp at h2
                  · injection hv with hv
                    exact ⟨c, off, hv.trans h3, h4 j hjl⟩
                have ei : (LA.length : Int) - 1 - (q : Int) = (i : Int) := by omega
                have ej : (LB.length : Int) - 1 - (q : Int) = (j : Int) := by omega
                have hii : (i : Int) < (LA.length : Int) := by omega
                have hji : (j : Int) < (LB.length : Int) := by omega
                have HX := hide (And.intro h1 h2)
                clear hi hj
                by_cases h3 : LA.getD i 0 = LB.getD j 0
                · have HE : Hid (true = G) := hide (by rw [HG.out]; exact (decide_eq_true ⟨HX.out.1, HX.out.2, h3⟩).symm)
                  have h3b : (LA.getD i 0 == LB.getD j 0) = true := beq_iff_eq.2 h3
                  clear h3 HG hP
                  generalize LA.getD i 0 = x at *
                  generalize LB.getD j 0 = y at *
                  go_quiet (fail)
                  go_wp2
                  go_meet
                  exact ⟨by rw [HE.out], hide ⟨_, rfl⟩⟩
                · have HE : Hid (false = G) := hide (by rw [HG.out]; exact (decide_eq_false (fun h => h3 h.2.2)).symm)
                  have h3b : (LA.getD i 0 == LB.getD j 0) = false := beq_eq_false_iff_ne.2 h3
                  clear h3 HG hP
                  generalize LA.getD i 0 = x at *
                  generalize LB.getD j 0 = y at *
                  go_quiet (fail)
                  go_wp2
                  go_meet
                  exact ⟨by rw [HE.out], hide ⟨_, rfl⟩⟩
              case rest =>
                obtain ⟨W7, rfl⟩ : ∃ W, W = wc := ⟨_, rfl⟩
                obtain ⟨rfl, hw7⟩ := hcut
                obtain ⟨n7, hn7⟩ := hw7.out
                have HB7 : Hid (DfB w W7 A B D #[.int .i64 ai, .int .i64 bi, .int .i64 (k : Int), .int .i64 (q : Int), .slice none 0 0, .bool bsh, .int .i64 be, .slice none 0 0]) := hide (by rw [hn7]; exact HB6.out.drewN n7)
                clear hw7 hn7 HB6 d0 d1 d2 d3 d4 d5 d6 d7 y0 y1 y2 y3 y4 y5 y6 y7
                cases G with
                | true =>
                  have HGT := hide (of_decide_eq_true HG.out.symm)
                  obtain ⟨d3, y3⟩ := HB7.out.box.cell 3
                  have HB8 : Hid (DfB w (W7.setCell ⟨D, 3, none⟩ (.int .i64 ((q : Int) + 1))) A B D #[.int .i64 ai, .int .i64 bi, .int .i64 (k : Int), .int .i64 ((q : Int) + 1), .slice none 0 0, .bool bsh, .int .i64 be, .slice none 0 0]) := hide (HB7.out.setBox 3 _)
                  go_wp2
                  go_roundg (gk - 1)
                  case measure => have := HGT.out; omega
                  case rel => exact ⟨q + 1, by have := HGT.out; omega, by have := HGT.out; omega, by have := HGT.out; omega, hide (fun j hj => by
                    by_cases e : j = q
                    · rw [e]; exact HGT.out.2.2
                    · exact hP.out j (by omega)), HB8⟩
                | false =>
                  have HQS : Hid (q = S) := hide (by
                    rw [HSU.out]
                    refine preL_runBack (n := min LA.length LB.length) rfl ⟨by omega, fun j hj => decide_eq_true (hP.out j hj), ?_⟩
                    have h := of_decide_eq_false HG.out.symm
                    by_cases e1 : q = min LA.length LB.length
                    · exact .inl e1
                    · exact .inr (decide_eq_false (fun e => h ⟨by omega, by omega, e⟩)))
                  have hqs := HQS.out
                  subst hqs
                  clear HQS HSU HG hP hg HRA HRB
                  have hcutM := HCM.out
                  have hwr := HWR.out
                  have hwq : (LB.length : Int) - (q : Int) = (M.length : Int) := by
                    have h := hwr
                    rw [i64wrap_in _ (by omega) (by omega)] at h
                    exact h
                  obtain ⟨d3, -⟩ := HB7.out.box.cell 3
                  have hs7 : D < W7.heap.size := HB7.out.box.lt
                  clear HCM HWR
                  go_wp2_with (at_builtin; refine wpList_append_ints _ rfl _ _ rfl W7.heap.size _ [] rfl (OwnI.nil _ _) _ M rfl (HRM.out _ HB7.out.base.below) (by simp; omega) (Nat.le_refl _) ?_)
                  intro v8 W8 ho8 hb8
                  have HF8 : Hid (∀ g, v8.ownBlock = some g → W7.heap.size ≤ g ∧ g < W8.heap.size) := hide (fun g hg => World.ownsRow.lt ho8 g hg)
                  have HR8 := hide (ho8.rd HLI.out)
                  obtain ⟨a8, c8, hv⟩ := ho8.shape
                  subst hv
                  have HB8 := hide (HB7.out.more hb8)
                  have HB9 : Hid (DfB w (W8.setCell ⟨D, 4, none⟩ (.slice a8 M.length c8)) A B D #[.int .i64 ai, .int .i64 bi, .int .i64 (k : Int), .int .i64 (q : Int), .slice a8 M.length c8, .bool bsh, .int .i64 be, .slice none 0 0]) := hide (HB8.out.setBox 4 _)
                  have HR9 : Hid (RdI (W8.setCell ⟨D, 4, none⟩ (.slice a8 M.length c8)) (.slice a8 M.length c8) M) := hide (HR8.out.keepG (fun g hg => Below.heap_setCell _ _ _ _ (by have h := (HF8.out g hg).1; show g ≠ D; omega)))
                  obtain ⟨MM, hMM⟩ : ∃ MM, MM = W8.heap.size := ⟨_, rfl⟩
                  have HOX : Hid (∀ g, (Value.slice a8 M.length c8).ownBlock = some g → D < g ∧ g < MM) := hide (fun g hg => by have := HF8.out g hg; omega)
                  have hDM : D < MM := by have := hb8.size; omega
                  have HS9 : Hid ((W8.setCell ⟨D, 4, none⟩ (.slice a8 M.length c8)).heap.size = MM) := hide (by rw [hMM]; simp [World.setCell])
                  obtain ⟨d4, y4⟩ := HB8.out.box.cell 4
                  clear ho8 hb8 HF8 HR8 HB7 HRM hMM hcutM hwr hwq d3 hs7 HLI
                  go_wp2
                  clear d4 y4 HB8
                  go_loopw [14] (fun vi wr => ∃ (j : Nat) (DT : List Ent) (ya : Option Addr) (yc : Nat), vi = .int .i64 (j : Int) ∧ j ≤ bT.length ∧ Hid (DT = diffT aT (bT.take j)) ∧ Hid (DfB w wr A B D #[.int .i64 ai, .int .i64 bi, .int .i64 (k : Int), .int .i64 (q : Int), .slice a8 M.length c8, .bool bsh, .int .i64 be, .slice ya DT.length yc]) ∧ Hid (OwnE wr MM (.slice ya DT.length yc) DT) ∧ Hid (RdI wr (.slice a8 M.length c8) M) ∧ Hid (MM ≤ wr.heap.size)) (fun vi _ => bT.length - (intOf vi).toNat)
                  case atStart => exact ⟨0, [], none, 0, rfl, Nat.zero_le _, hide rfl, HB9, hide (OwnE.nil _ _), HR9, hide (by rw [HS9.out]; exact Nat.le_refl _)⟩
                  case round =>
                    clear HB9 HR9 HS9
                    obtain ⟨j, DT, ya, yc, rfl, hj, hDT, HB9, HO9, HR9, HS9⟩ := hrel
                    obtain ⟨⟨p0, p1, p2, p3, p4, p5⟩, q0, q1, q2, q3, q4, q5⟩ := HKA.out _ HB9.out.base
                    by_cases hlt : j < bT.length
                    case pos =>
                      have hji : (j : Int) < (bT.length : Int) := by omega
                      have HSN := hide (diffT_snoc (a := aT) (b := bT) hlt)
                      rw [← hDT.out] at HSN
                      have HDL : Hid (DT.length ≤ 65) := hide (by
                        have h := diffT_len aT (bT.take j)
                        rw [← hDT.out, List.length_take] at h
                        omega)
                      have HFE := hide (findE_eq HRI.out (bT.getD j zeroE))
                      obtain ⟨c, off, rfl, hc⟩ : ∃ c off, ta' = some ⟨c, off, none⟩ ∧ EntAt w c (off + j * 3) (bT.getD j zeroE) := by
                        obtain ⟨ao, cap, hv, -, -, -, -, h0 | ⟨c, off, h1, h2⟩⟩ := HTB.out
                        · rw [h0] at hlt; simp at hlt
                        · injection hv with hv
                          exact ⟨c, off, hv.trans h1, h2 j hlt⟩
                      have HC := hide hc
                      generalize bT.getD j zeroE = x at *
                      obtain ⟨xp, xs, xr⟩ := x
                      dsimp only at *
                      obtain ⟨F, hF⟩ : ∃ F, F = (findE aT xp).isSome := ⟨_, rfl⟩
                      obtain ⟨⟨fp, fq, fr⟩, hf⟩ : ∃ f, f = (findE aT xp).getD zeroE := ⟨_, rfl⟩
                      have HK0 : Hid (∀ W, Below w.heap.size w W → W.cell? ⟨c, off + j * 3, none⟩ = some (.int .i64 xp) ∧ W.cell? ⟨c, off + j * 3 + 1, none⟩ = some (.int .i64 xs) ∧ W.cell? ⟨c, off + j * 3 + 2, none⟩ = some (.int .i64 xr)) := hide (fun W h => HC.out.keep (h.block c HC.out.lt))
                      have HK : Hid (∀ W, Below wr.heap.size wr W → W.cell? ⟨w.heap.size, 5, none⟩ = some (.slice ta aT.length tc) ∧ W.cell? ⟨w.heap.size + 1, 5, none⟩ = some (.slice (some ⟨c, off, none⟩) bT.length tc') ∧ W.cell? ⟨c, off + j * 3, none⟩ = some (.int .i64 xp)) := hide (fun W h => by
                        have h1 := (HB9.out.more h).base
                        obtain ⟨⟨-, -, -, -, -, g1⟩, -, -, -, -, -, g2⟩ := HKA.out _ h1
                        exact ⟨g1, g2, (HC.out.keep (h1.below.block c HC.out.lt)).1⟩)
                      have HCE : Hid (∀ W, Below wr.heap.size wr W → Calls Try.prog 30 #[.slice ta aT.length tc, .int .i64 xp] W fun e w' => ∃ v', e = .returned v' ∧ v' = .tuple #[.agg #[.int .i64 fp, .int .i64 fq, .int .i64 fr], .bool F] ∧ Below W.heap.size W w') := hide (fun W h => HEA.out W xp F ⟨fp, fq, fr⟩ (HB9.out.more h).base.below hF hf)
                      have HS0 : Hid (Below wr.heap.size wr wr.drew) := hide ((Below.refl _ _).drew)
                      have HS1 : Hid (∀ X, Below wr.heap.size wr (wr.alloc X).drew) := hide (fun X => ((Below.refl _ _).alloc (Nat.le_refl _) X).drew)
                      have HZ : Hid (∀ W X, Below wr.heap.size wr W → Below wr.heap.size wr (W.alloc X)) := hide (fun W X h => h.alloc h.size X)
                      have HE1 : Hid (∀ args w, (callFunc 30 args).run Try.prog w = .ok (.enter 30 args) w) := hide (enters_of Try.func30 (by kernel_rfl) rfl)
                      have HQA : Hid (Be (wr.alloc (.cells #[.int .i64 0, .int .i64 0, .int .i64 0] 55)).drew wr.heap.size #[.int .i64 0, .int .i64 0, .int .i64 0]) := hide (heap_alloc_new wr _)
                      obtain ⟨G, hG⟩ : ∃ G, G = decide ((⟨xp, xs, xr⟩ : Ent) ∉ aT) := ⟨_, rfl⟩
                      have HG := hide hG
                      have HG0 : Hid (F = false → true = G) := hide (fun h => by
                        rw [hG]
                        have hn : (⟨xp, xs, xr⟩ : Ent) ∉ aT := by
                          intro hm
                          rw [hF, HFE.out.2 hm] at h
                          cases h
                        exact (decide_eq_true hn).symm)
                      have HG1 : Hid (F = true → eqEnt ⟨fp, fq, fr⟩ ⟨xp, xs, xr⟩ = !G) := hide (fun h => by
                        rw [hF] at h
                        obtain ⟨y, hy⟩ := Option.isSome_iff_exists.1 h
                        rw [hy] at hf
                        have e : (⟨fp, fq, fr⟩ : Ent) = y := hf
                        rw [e, hG]
                        by_cases hm : (⟨xp, xs, xr⟩ : Ent) ∈ aT
                        · have h2 := HFE.out.2 hm
                          rw [hy] at h2
                          injection h2 with h2
                          rw [h2, eqEnt_self, decide_eq_false (fun h => h hm)]
                          rfl
                        · rw [decide_eq_true hm, eqEnt_not (fun h2 => hm (HFE.out.1 (by rw [hy, h2])))]
                          rfl)
                      clear hG hF hf hc HFE hDT
                      clear p0 p1 p2 p3 p4 q0 q1 q2 q3 q4 p5 q5
                      obtain ⟨g1, g2, g3⟩ := HK.out _ (Below.refl _ _)
                      go_upto_region 26 with fail
                      clear g1 g2 g3
                      go_cut [15, 16] (fun x15 x16 wc => ∃ EB : Nat, x15 = .pointer (some ⟨EB, 0, none⟩) ∧ x16 = .bool F ∧ Hid (Be wc EB #[.int .i64 fp, .int .i64 fq, .int .i64 fr]) ∧ Hid (Below wr.heap.size wr wc))
                      case first =>
                        go_region_held2 (fun W => W.cell? ⟨w.heap.size, 5, none⟩ = some (.slice ta aT.length tc) ∧ W.cell? ⟨w.heap.size + 1, 5, none⟩ = some (.slice (some ⟨c, off, none⟩) bT.length tc') ∧ W.cell? ⟨c, off + j * 3, none⟩ = some (.int .i64 xp))
                          (first | (with_reducible exact HK.out _ HS0.out) | (with_reducible exact HK.out _ (HS1.out _)) | (with_reducible exact HK.out _ hbk1) | (with_reducible exact HK.out _ (HZ.out _ _ hbk1)) | (exact HK.out _ (((hbk1.setCell (Nat.le_refl _) _).setCell (Nat.le_refl _) _).setCell (Nat.le_refl _) _)) | (exact HK.out _ ((((HZ.out _ _ hbk1).setCell hbk1.size _).setCell hbk1.size _).setCell hbk1.size _)))
                          (first
                            | ((with_reducible refine step_call 30 _ _ rfl rfl #[.slice ta aT.length tc, .int .i64 xp] (by simp [Act.eval]) HE1.out (HCE.out (wr.drew) HS0.out) ?_); rintro v1 W5 ⟨rfl, hb⟩; have hbk1 : Below wr.heap.size wr W5 := HS0.out.trans (hb.mono HS0.out.size); clear hb)
                            | ((with_reducible refine step_call 30 _ _ rfl rfl #[.slice ta aT.length tc, .int .i64 xp] (by simp [Act.eval]) HE1.out (HCE.out ((wr.alloc (.cells #[.int .i64 0, .int .i64 0, .int .i64 0] 55)).drew) (HS1.out _)) ?_); rintro v1 W5 ⟨rfl, hb⟩; have hbk1 : Below wr.heap.size wr W5 := (HS1.out _).trans (hb.mono (HS1.out _).size); have HQ5 := hide (HQA.out.below hb (Nat.le_refl _)); obtain ⟨z0, y0⟩ := HQ5.out.cell 0; obtain ⟨z1, y1⟩ := HQ5.out.cell 1; obtain ⟨z2, y2⟩ := HQ5.out.cell 2; clear hb))
                        all_goals
                          go_wp2_with fail
                          go_meet
                          first
                          | exact ⟨W5.heap.size, rfl, rfl, hide (heap_alloc_new W5 _), hide (HZ.out _ _ hbk1)⟩
                          | exact ⟨wr.heap.size, rfl, rfl, hide (((HQ5.out.set3 0 _).set3 1 _).set3 2 _), hide (((hbk1.setCell (Nat.le_refl _) _).setCell (Nat.le_refl _) _).setCell (Nat.le_refl _) _)⟩
                      case rest =>
                        clear HK HCE HS0 HS1 HZ HE1 HQA HC
                        obtain ⟨WA, rfl⟩ : ∃ W, W = wc := ⟨_, rfl⟩
                        obtain ⟨EB, rfl, rfl, HE, hbA⟩ := hcut
                        have HBA := hide (HB9.out.more hbA.out)
                        have HOA := hide (HO9.out.below hbA.out (Nat.le_refl _))
                        have HRR := hide (HR9.out.below hbA.out (Nat.le_refl _))
                        have HSA : Hid (MM ≤ WA.heap.size) := hide (by have h1 := HS9.out; have h2 := hbA.out.size; omega)
                        clear hbA HB9 HO9 HR9 HS9
                        obtain ⟨-, q0, q1, q2, q3, q4, q5⟩ := HKA.out _ HBA.out.base
                        obtain ⟨c0, c1, c2⟩ := HK0.out _ HBA.out.base.below
                        obtain ⟨e0, -⟩ := HE.out.cell 0
                        obtain ⟨e1, -⟩ := HE.out.cell 1
                        obtain ⟨e2, -⟩ := HE.out.cell 2
                        clear q0 q1 q2 q3 q4
                        go_upto_region 27 with fail
                        go_cut [194] (fun x wc => x = .bool G ∧ Hid (∃ n, wc = WA.drewN n))
                        case first =>
                          cases F with
                          | false =>
                            have HEG := hide (HG0.out rfl)
                            go_quiet (fail)
                            go_wp2
                            go_meet
                            exact ⟨by rw [HEG.out], hide ⟨_, rfl⟩⟩
                          | true =>
                            have hgd := guard_ent
                            have hneq := fun W => neq_ent W ⟨fp, fq, fr⟩ ⟨xp, xs, xr⟩
                            rw [HG1.out rfl] at hneq
                            cases G with
                            | true =>
                              go_quiet (fail)
                              go_wp2
                              go_meet
                              exact ⟨rfl, hide ⟨_, rfl⟩⟩
                            | false =>
                              go_quiet (fail)
                              go_wp2
                              go_meet
                              exact ⟨rfl, hide ⟨_, rfl⟩⟩
                        case rest =>
                          clear HG0 HG1 HE e0 e1 e2 c0 c1 c2 q5
                          obtain ⟨WB, rfl⟩ : ∃ W, W = wc := ⟨_, rfl⟩
                          obtain ⟨rfl, hwB⟩ := hcut
                          obtain ⟨nB, hnB⟩ := hwB.out
                          have hbB : Below WA.heap.size WA WB := by rw [hnB]; exact below_drewN (Below.refl _ _) nB
                          have HBB := hide (HBA.out.more hbB)
                          have HOB := hide (HOA.out.below hbB (Nat.le_refl _))
                          have HRB := hide (HRR.out.below hbB (Nat.le_refl _))
                          have HSB : Hid (MM ≤ WB.heap.size) := hide (by have h1 := HSA.out; have h2 := hbB.size; omega)
                          clear hwB hnB hbB HBA HOA HRR HSA WA
                          cases G with
                          | false =>
                            have HDT : Hid (DT = diffT aT (bT.take (j + 1))) := hide (by
                              have hm : (⟨xp, xs, xr⟩ : Ent) ∈ aT := Classical.byContradiction (fun h => of_decide_eq_false HG.out.symm h)
                              rw [HSN.out, if_pos hm])
                            go_wp2
                            go_roundw
                            case rel => exact ⟨j + 1, DT, ya, yc, by go_num, by omega, HDT, HBB, HOB, HRB, HSB⟩
                            case measure => simp [intOf]; omega
                          | true =>
                            obtain ⟨X2, hX2⟩ : ∃ X2 : List Ent, X2 = DT ++ [⟨xp, xs, xr⟩] := ⟨_, rfl⟩
                            have HDT : Hid (X2 = diffT aT (bT.take (j + 1))) := hide (by
                              have hm : (⟨xp, xs, xr⟩ : Ent) ∉ aT := of_decide_eq_true HG.out.symm
                              rw [HSN.out, if_neg hm, hX2])
                            have HX2 := hide hX2
                            clear hX2
                            clear HG HSN
                            obtain ⟨-, q0, q1, q2, q3, q4, q5⟩ := HKA.out _ HBB.out.base
                            obtain ⟨c0, c1, c2⟩ := HK0.out _ HBB.out.base.below
                            obtain ⟨d7, y7⟩ := HBB.out.box.cell 7
                            clear q0 q1 q2 q3 q4
                            have HOD : Hid (OwnE WB.drew MM (.slice ya DT.length yc) DT) := hide (HOB.out.below ((Below.refl WB.heap.size WB).drew) (Nat.le_refl _))
                            have hdl : DT.length ≤ 1000000 := by have := HDL.out; omega
                            have HSD : Hid (MM ≤ WB.drew.heap.size) := hide HSB.out
                            have h7a : ∀ X, (WB.alloc X).cell? ⟨D, 7, none⟩ = some (.slice ya DT.length yc) := fun X => ((HBB.out.box.below ((Below.refl WB.heap.size WB).alloc (Nat.le_refl _) X) (Nat.le_refl _)).cell 7).1
                            go_upto_region 28 with fail
                            go_region_law (refine step_append_ent (by rfl) _ _ (by rfl) MM _ DT (by rfl) ⟨xp, xs, xr⟩ WB.drew (by rfl) HOD.out (by rfl) hdl HSD.out ?_; intro v9 W9 ho9 hb9; rw [← HX2.out] at ho9; have hbb : Below MM WB W9 := ((Below.refl MM WB).drew).trans hb9; have HBC := hide (HBB.out.moreB hDM hbb); have HO9 := hide ho9; have HR9 := hide (HRB.out.keepG (fun g hg => hbb.block g (HOX.out g hg).2)); have HS9 : Hid (MM ≤ W9.heap.size) := hide (Nat.le_trans HSB.out hbb.size); obtain ⟨za, zc, hv⟩ := ho9.shape; subst hv; obtain ⟨t7, u7⟩ := HBC.out.box.cell 7; clear ho9 hb9 hbb)
                            all_goals
                              go_wp2
                              go_roundw
                              case rel => exact ⟨j + 1, X2, za, zc, by go_num, by omega, HDT, hide (HBC.out.setBox 7 _), hide (ownE_keepG HO9.out (fun g hg => Below.heap_setCell _ _ _ _ (by have h := (World.ownsRow.lt HO9.out g hg).1; show g ≠ D; omega))), hide (HR9.out.keepG (fun g hg => Below.heap_setCell _ _ _ _ (by have h := (HOX.out g hg).1; show g ≠ D; omega))), hide (by simpa [World.setCell] using HS9.out)⟩
                              case measure => simp [intOf]; omega
                    case neg =>
                      have hni : ¬ (j : Int) < (bT.length : Int) := by omega
                      have HDT : Hid (DT = diffT aT bT) := hide (by rw [hDT.out, List.take_of_length_le (by omega)])
                      have HRT := hide (HO9.out.rd (by rw [HDT.out]; exact HTI.out))
                      have HTX := hide (fun g hg => (World.ownsRow.lt HO9.out g hg).1)
                      obtain ⟨⟨d0, d1, d2, d3, d4, d5, d6, d7⟩, -⟩ := HB9.out.box.all
                      obtain ⟨⟨z0, z1, z2, z3, z4, z5, z6, z7⟩, y0, y1, y2, y3, y4, y5, y6, y7⟩ := HB9.out.base.res.all
                      have hfar := HB9.out.far
                      rw [← HDT.out] at HF HDI
                      clear hDT HDT hlt hj
                      go_wp2
                      refine bodyPost_ret (v := .tuple #[.agg #[.int .i64 ai, .int .i64 bi, .int .i64 (k : Int), .int .i64 (q : Int), .slice a8 M.length c8, .bool bsh, .int .i64 be, .slice ya DT.length yc], .int .i64 0]) (by simp [results, Try.results11, go_sem, z0, z1, z2, z3, z4, z5, z6, z7]) rfl ?_
                      rw [HF.out]
                      have hbt := butEight wr (w.heap.size + 1 + 1) (.int .i64 ai) (.int .i64 bi) (.int .i64 (k : Int)) (.int .i64 (q : Int)) (.slice a8 M.length c8) (.bool bsh) (.int .i64 be) (.slice ya DT.length yc)
                      exact ⟨_, _, rfl, HR9.out.but hbt (.inr fun g hg => by have := HOX.out g hg; omega), HRT.out.but hbt (.inr fun g hg => by have := HTX.out g hg; omega), HDI.out, (fun g hg => by have := HOX.out g hg; omega), (fun g hg => by have := HTX.out g hg; omega), belowEight HB9.out.base.below _ (by omega) _ _ _ _ _ _ _ _⟩

end Go.Proofs.Ytgpdbboieokldaa
