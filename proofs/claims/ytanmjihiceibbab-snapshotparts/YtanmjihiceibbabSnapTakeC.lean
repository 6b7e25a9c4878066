/- Contract of snapshot: Take. -/
import Derived.Test.YtanmjihiceibbabSnapTakeB
namespace Go.Proofs.Ytanmjihiceibbab
open Go.RowKit

set_option maxRecDepth 100000 in
set_option maxHeartbeats 4000000 in
theorem takeN_any (idx kind : Int) (vl : Value) (shut : Bool) (eng : Int) (vt : Value) (s : Snap) (vr : Value) (l : List Rec) (w : World) (hs : SnV w (.agg #[.int .i64 idx, .int .i64 kind, vl, .bool shut, .int .i64 eng, vt]) s) (hr : RdR w vr l) (hlim : s.st.L.length ≤ 1000) (hlim2 : s.tab.length ≤ 1000) (hlim3 : l.length ≤ 100) :
    Calls Try.prog 8 #[.agg #[.int .i64 idx, .int .i64 kind, vl, .bool shut, .int .i64 eng, vt], vr] w fun e w' => TakenN w vl vt l (takeN s l) e w' := by
  obtain ⟨vl', vt', heq, hl, hk, he, ht, hi⟩ := hs
  injection heq with heq
  injection heq with heq
  simp only [List.cons.injEq, Value.int.injEq, Value.bool.injEq, and_true, true_and] at heq
  obtain ⟨rfl, rfl, rfl, rfl, rfl, rfl⟩ := heq
  obtain ⟨la, lc, hvl, -⟩ := id hl
  obtain ⟨ta, tc, hvt⟩ := ht.shape
  subst hvl hvt
  obtain ⟨ra, rc, rfl, hrl, hrm, -, hrok, hrao⟩ := hr
  have HRA := hide hrao
  have HROK := hide hrok
  obtain ⟨idx, ⟨kind, L, shut, eng⟩, tab⟩ := s
  dsimp only at *
  obtain ⟨TT, hTT⟩ : ∃ TT, TT = takeN ⟨idx, ⟨kind, L, shut, eng⟩, tab⟩ l := ⟨_, rfl⟩
  rw [← hTT]
  have HTT := hide hTT
  have HTK : Hid (∀ (S : Snap) (q : Nat), q < l.length → takeN S (l.drop q) = if (l.getD q zeroR).idx ≠ S.idx then (zeroN, 15) else if ¬ FitsR (l.getD q zeroR) then (zeroN, 1) else takeN (nextN S (l.getD q zeroR)) (l.drop (q + 1))) := hide (fun S q hq => takeN_drop hq)
  clear hTT hrao hrok hrl hrm
  have HCI := hide (fun W (h : Below w.heap.size w W) => cloneI_any _ L W (hl.below h (Nat.le_refl _)) (by omega))
  have HCE := hide (fun W (h : Below w.heap.size w W) => cloneE_any _ tab W (ht.below h (Nat.le_refl _)) (by omega))
  have HLI := hide hl.i64
  have hTI : ∀ e ∈ tab, EntI e := ht.choose_spec.choose_spec.2.2.2.2.1
  have HTI := hide hTI
  have HB0 : Hid (∀ X Y, Below w.heap.size w ((w.alloc X).alloc Y)) := fun X Y => ((Below.refl _ _).alloc (Nat.le_refl _) X).alloc (by simp) Y
  have HX0 : Hid (∀ cs ds, Bn ((w.alloc (.cells cs 27)).alloc (.cells ds 27)) w.heap.size cs) := fun cs ds => (Below.heap_alloc _ _ _ (by simp)).trans (heap_alloc_new w _)
  have HY0 : Hid (∀ cs ds, Bn ((w.alloc (.cells cs 27)).alloc (.cells ds 27)) (w.heap.size + 1) ds) := fun cs ds => new_two w _ _
  clear hl ht hTI
  go_enter Try.func8, Try.ntmps8
  go_upto_region 1 with fail
  obtain ⟨W0, hW0⟩ : ∃ W0, W0 = (w.alloc (.cells #[.int .i64 idx, .int .i64 kind, .slice la L.length lc, .bool shut, .int .i64 eng, .slice ta tab.length tc] 27)).alloc (.cells #[.int .i64 0, .int .i64 0, .slice none 0 0, .bool false, .int .i64 0, .slice none 0 0] 27) := ⟨_, rfl⟩
  have HBW : Hid (Below w.heap.size w W0) := hide (by rw [hW0]; exact HB0.out _ _)
  have HXW : Hid (Bn W0 w.heap.size #[.int .i64 idx, .int .i64 kind, .slice la L.length lc, .bool shut, .int .i64 eng, .slice ta tab.length tc]) := hide (by rw [hW0]; exact HX0.out _ _)
  have HYW : Hid (Bn W0 (w.heap.size + 1) #[.int .i64 0, .int .i64 0, .slice none 0 0, .bool false, .int .i64 0, .slice none 0 0]) := hide (by rw [hW0]; exact HY0.out _ _)
  have hs0 : W0.heap.size = w.heap.size + 2 := by rw [hW0]; simp
  rw [← hW0]
  clear hW0 HB0 HX0 HY0
  obtain ⟨p2, g2⟩ := HXW.out.cell 2
  obtain ⟨p5, g5⟩ := HXW.out.cell 5
  go_cut [] (fun wc => Hid (TakeIn w ⟨idx, ⟨kind, L, shut, eng⟩, tab⟩ wc))
  case first =>
    go_region_with
      (first
        | (go_at_call 16; refine (HCI.out _ (by first | exact HBW.out.drew | exact HBW.out)).mono ?_; rintro e W1 ⟨v1, rfl, ho1, hb1⟩; have hbk1 : Below W0.heap.size W0 W1 := (by first | exact ((Below.refl _ _).drew).trans hb1 | exact hb1); have HO1 := hide ho1; have HB1 := hide hbk1; obtain ⟨a1, c1, hv1⟩ : ∃ a c, v1 = .slice a L.length c := (by obtain ⟨a, c, h, -⟩ := ho1.rd HLI.out; exact ⟨a, c, h⟩); subst hv1; obtain ⟨q2, k2⟩ := (HXW.out.below hbk1 (Nat.le_refl _)).cell 2; obtain ⟨q5, k5⟩ := (HXW.out.below hbk1 (Nat.le_refl _)).cell 5; clear ho1 hb1 hbk1)
        | (go_at_call 17; refine (HCE.out _ (HBW.out.trans (HB1.out.mono HBW.out.size))).mono ?_; rintro e W2 ⟨v2, rfl, ho2, hb2⟩; have HO2 := hide ho2; have HB2 := hide (HB1.out.trans (hb2.mono HB1.out.size)); have HO12 := hide (HO1.out.below hb2 (Nat.le_refl _)); obtain ⟨a2, c2, hv2⟩ := ho2.shape; subst hv2; obtain ⟨r2, j2⟩ := (HXW.out.below HB2.out (Nat.le_refl _)).cell 2; obtain ⟨r5, j5⟩ := (HXW.out.below HB2.out (Nat.le_refl _)).cell 5; clear ho2 hb2))
    all_goals
      go_wp2_with fail
      go_meet
      exact hide (takeIn_make (HXW.out.below HB2.out (Nat.le_refl _)) (HYW.out.below HB2.out (Nat.le_refl _)) (HO12.out.mono (by first | omega | (show w.heap.size + 2 ≤ W0.heap.size; omega))) HLI.out (HO2.out.mono (by have := HB1.out.size; omega)) HTI.out hi hk he (HBW.out.trans (HB2.out.mono HBW.out.size)))
  case rest =>
    have HT0 := hcut
    clear hcut HBW HXW HYW hs0 p2 g2 p5 g5 HCI HCE HLI HTI W0 hk he hi
    go_wp2
    go_loopw [20] (fun vi wr => ∃ (q : Nat) (S : Snap), vi = .int .i64 (q : Int) ∧ q ≤ l.length ∧ Hid (TakeIn w S wr) ∧ Hid (TT = takeN S (l.drop q)) ∧ Hid (S.st.L.length ≤ 1000) ∧ Hid (S.tab.length ≤ 1000 + q)) (fun vi _ => l.length - (intOf vi).toNat)
    case atStart => exact ⟨0, _, rfl, Nat.zero_le _, HT0, HTT, hide hlim, hide (by omega)⟩
    case round =>
      clear HT0 HTT hlim hlim2
      obtain ⟨q, S, rfl, hq, hT, hTS, hSL, hST⟩ := hrel
      obtain ⟨sa, sc, ea, ec, hX, hY, hL, hLf, hE, hEI, hi, hk, he, hB⟩ := hT.out
      clear hT
      have HX := hide hX
      have HY := hide hY
      have HL := hide hL
      have HLF := hide hLf
      have HE := hide hE
      have HEI := hide hEI
      have HIK := hide (And.intro hi (And.intro hk he))
      have HB := hide hB
      have HLT := hide hY.lt
      obtain ⟨p0, g0⟩ := hX.cell 0
      obtain ⟨p1, g1⟩ := hX.cell 1
      obtain ⟨p2, g2⟩ := hX.cell 2
      obtain ⟨p3, g3⟩ := hX.cell 3
      obtain ⟨p4, g4⟩ := hX.cell 4
      obtain ⟨p5, g5⟩ := hX.cell 5
      obtain ⟨z0, y0⟩ := hY.cell 0
      obtain ⟨z1, y1⟩ := hY.cell 1
      obtain ⟨z2, y2⟩ := hY.cell 2
      obtain ⟨z3, y3⟩ := hY.cell 3
      obtain ⟨z4, y4⟩ := hY.cell 4
      obtain ⟨z5, y5⟩ := hY.cell 5
      clear hX hY hL hLf hE hEI hi hk he hB
      by_cases hlt : q < l.length
      case neg =>
        obtain rfl : q = l.length := by omega
        have HF : Hid (TT = (S, 0)) := hide (by rw [hTS.out, List.drop_length]; rfl)
        clear hTS
        have hne1 : ¬ (w.heap.size = w.heap.size + 1) := by omega
        go_wp2
        refine bodyPost_ret (v := .tuple #[.agg #[.int .i64 S.idx, .int .i64 S.st.kind, .slice sa S.st.L.length sc, .bool S.st.shut, .int .i64 S.st.eng, .slice ea S.tab.length ec], .int .i64 0]) (by simp [results, Try.results8, go_sem, z0, z1, z2, z3, z4, z5]) rfl ?_
        rw [HF.out]
        have hbt := butSix wr (w.heap.size + 1) (.int .i64 S.idx) (.int .i64 S.st.kind) (.slice sa S.st.L.length sc) (.bool S.st.shut) (.int .i64 S.st.eng) (.slice ea S.tab.length ec)
        exact ⟨_, _, rfl, HL.out.but hbt (.inr fun b h => by have := HLF.out b h; omega), HIK.out.2.1, HIK.out.2.2, (HE.out.rd HEI.out).but hbt (.inr fun b h => by have := HE.out.fresh b h; omega), HIK.out.1, .inr (fun b h => by have := HLF.out b h; omega), .inr ((HE.out.but hbt (by omega) (by omega)).mono (by omega)), belowSix HB.out _ (by omega) _ _ _ _ _ _⟩
      have hqi : (q : Int) < (l.length : Int) := by omega
      rcases HRA.out with h0 | ⟨c, off, rfl, hc⟩
      · rw [h0] at hlt; simp at hlt
      obtain ⟨c0, c1, c2, c3, c4, c5, c6⟩ := (hc q hlt).keep (HB.out.block c (hc q hlt).lt)
      have HTQ := hide (HTK.out S q hlt)
      rw [← hTS.out] at HTQ
      have HFR := hide (fun W => fitsR_any (l.getD q zeroR) W)
      have HRO : Hid (RecOk (l.getD q zeroR)) := hide (HROK.out _ (by rw [show l.getD q zeroR = l[q] by simp [List.getD, hlt]]; exact List.getElem_mem hlt))
      obtain ⟨r, hr⟩ : ∃ r, r = l.getD q zeroR := ⟨_, rfl⟩
      rw [← hr] at HTQ HFR HRO c0 c1 c2 c3 c4 c5 c6
      clear hr hc HTK HRA HROK hTS
      obtain ⟨bf, hbf⟩ : ∃ bf, bf = decide (FitsR r) := ⟨_, rfl⟩
      rw [← hbf] at HFR
      have HBF := hide hbf
      clear hbf
      have hsz := HLT.out
      clear p0 p1 p2 p3 p4 p5 g0 g1 g2 g3 g4 g5 z0 z1 z2 z3 z4 z5 y0 y1 y2 y3 y4 y5
      go_upto_region 5 with fail
      obtain ⟨W0, hW0⟩ : ∃ W0, W0 = wr.alloc (.cells (recC r) 38) := ⟨_, rfl⟩
      have HB0 : Hid (Below wr.heap.size wr W0) := hide (by rw [hW0]; exact (Below.refl _ _).alloc (Nat.le_refl _) _)
      have HR0 : Hid (Br W0 wr.heap.size (recC r)) := hide (by rw [hW0]; exact heap_alloc_new wr _)
      unfold recC at hW0
      rw [← hW0]
      clear hW0 c0 c1 c2 c3 c4 c5 c6
      unfold recC at HR0
      unfold recV at HFR
      obtain ⟨QB, hQB⟩ : ∃ QB, QB = wr.heap.size := ⟨_, rfl⟩
      have HX0 := hide (HX.out.below HB0.out (Nat.le_refl _))
      have HY0 := hide (HY.out.below HB0.out (Nat.le_refl _))
      have HBW0 := hide (HB.out.trans (HB0.out.mono HB.out.size))
      rw [← hQB] at HR0 ⊢
      obtain ⟨p0, g0⟩ := HX0.out.cell 0
      obtain ⟨k0, -⟩ := HR0.out.cell 0
      obtain ⟨k1, -⟩ := HR0.out.cell 1
      obtain ⟨k2, -⟩ := HR0.out.cell 2
      obtain ⟨k3, -⟩ := HR0.out.cell 3
      obtain ⟨k4, -⟩ := HR0.out.cell 4
      obtain ⟨k5, -⟩ := HR0.out.cell 5
      obtain ⟨k6, -⟩ := HR0.out.cell 6
      by_cases hix : r.idx = S.idx
      case neg =>
        have HF : Hid (TT = (zeroN, 15)) := hide (by rw [HTQ.out, if_pos hix])
        have hix' : (r.idx != S.idx) = true := by rw [bne_iff_ne]; exact hix
        obtain ⟨z0, y0⟩ := HY0.out.cell 0
        obtain ⟨z1, y1⟩ := HY0.out.cell 1
        obtain ⟨z2, y2⟩ := HY0.out.cell 2
        obtain ⟨z3, y3⟩ := HY0.out.cell 3
        obtain ⟨z4, y4⟩ := HY0.out.cell 4
        obtain ⟨z5, y5⟩ := HY0.out.cell 5
        clear hix HTQ hQB
        go_wp2
        refine bodyPost_ret (v := .tuple #[.agg #[.int .i64 0, .int .i64 0, .slice none 0 0, .bool false, .int .i64 0, .slice none 0 0], .int .i64 15]) (by simp [results, Try.results8, go_sem, z0, z1, z2, z3, z4, z5]) rfl ?_
        rw [HF.out]
        exact TakenN.zero _ _ _ _ (belowSixE HBW0.out _ (by omega) _ _ _ _ _ _)
      have hix' : (r.idx != S.idx) = false := by rw [bne_eq_false_iff_eq]; exact hix
      have HIX := hide hix
      have HQB := hide hQB
      clear hix hQB
      go_wp2_with fail
      refine (HFR.out _).mono ?_
      rintro x W1 ⟨rfl, hb1⟩
      have HB1 := hide (HB0.out.trans (hb1.mono HB0.out.size))
      have HBW1 := hide (HBW0.out.trans (hb1.mono HBW0.out.size))
      have HX1 := hide (HX0.out.below hb1 (Nat.le_refl _))
      have HY1 := hide (HY0.out.below hb1 (Nat.le_refl _))
      have HR1 := hide (HR0.out.below hb1 (Nat.le_refl _))
      clear hb1 HB0 HBW0 HX0 HY0 HR0 HFR p0 g0 k0 k1 k2 k3 k4 k5 k6
      cases bf with
      | false =>
        have HF : Hid (TT = (zeroN, 1)) := hide (by rw [HTQ.out, if_neg (by rw [HIX.out]; simp), if_pos (of_decide_eq_false HBF.out.symm)])
        obtain ⟨z0, y0⟩ := HY1.out.cell 0
        obtain ⟨z1, y1⟩ := HY1.out.cell 1
        obtain ⟨z2, y2⟩ := HY1.out.cell 2
        obtain ⟨z3, y3⟩ := HY1.out.cell 3
        obtain ⟨z4, y4⟩ := HY1.out.cell 4
        obtain ⟨z5, y5⟩ := HY1.out.cell 5
        clear HTQ
        go_wp2
        refine bodyPost_ret (v := .tuple #[.agg #[.int .i64 0, .int .i64 0, .slice none 0 0, .bool false, .int .i64 0, .slice none 0 0], .int .i64 1]) (by simp [results, Try.results8, go_sem, z0, z1, z2, z3, z4, z5]) rfl ?_
        rw [HF.out]
        exact TakenN.zero _ _ _ _ (belowSixE HBW1.out _ (by omega) _ _ _ _ _ _)
      | true =>
        have HFT : Hid (FitsR r) := hide (of_decide_eq_true HBF.out.symm)
        have HF : Hid (TT = takeN (nextN S r) (l.drop (q + 1))) := hide (by rw [HTQ.out, if_neg (by rw [HIX.out]; simp), if_neg (fun h => h HFT.out)])
        have HSTEP := hide (step_any (.agg #[.int .i64 S.st.kind, .slice sa S.st.L.length sc, .bool S.st.shut, .int .i64 S.st.eng]) S.st r.op W1 ⟨_, rfl, HL.out.below HB1.out (Nat.le_refl _), HIK.out.2.1, HIK.out.2.2⟩ (by have := hSL.out; omega))
        rw [lval_agg] at HSTEP
        have HSF := hide (stepO_few r.op hSL.out)
        have HSR := hide (stepO_resp S.st r.op)
        have HNX : Hid (nextN S r = ⟨S.idx + 1, (stepO S.st r.op).1, noteL S.tab ⟨r.proc, r.seq, (stepO S.st r.op).2⟩⟩) := hide rfl
        have HNT := hide (noteL_len S.tab ⟨r.proc, r.seq, (stepO S.st r.op).2⟩)
        obtain ⟨so, hso⟩ : ∃ so, so = stepO S.st r.op := ⟨_, rfl⟩
        rw [← hso] at HSTEP HSF HSR HNX HNT
        clear hso HTQ HBF
        obtain ⟨⟨k', L', sh', g'⟩, n'⟩ := so
        dsimp only at HSTEP HSF HSR HNX HNT
        unfold opV at HSTEP
        unfold Stepped at HSTEP
        dsimp only at HSTEP
        obtain ⟨p1, g1⟩ := HX1.out.cell 1
        obtain ⟨p2, g2⟩ := HX1.out.cell 2
        obtain ⟨p3, g3⟩ := HX1.out.cell 3
        obtain ⟨p4, g4⟩ := HX1.out.cell 4
        obtain ⟨k3, -⟩ := HR1.out.cell 3
        obtain ⟨k4, -⟩ := HR1.out.cell 4
        obtain ⟨k5, -⟩ := HR1.out.cell 5
        go_wp2_with fail
        refine HSTEP.out.mono ?_
        rintro x W2 ⟨v2, rfl, hl2, hk2, he2, hf2, hb2⟩
        clear HSTEP p1 g1 p2 g2 p3 g3 p4 g4 k3 k4 k5
        have HX2 := hide (HX1.out.below hb2 (Nat.le_refl _))
        have HY2 := hide (HY1.out.below hb2 (Nat.le_refl _))
        have HR2 := hide (HR1.out.below hb2 (Nat.le_refl _))
        have HBW2 := hide (HBW1.out.trans (hb2.mono HBW1.out.size))
        have HE2 := hide ((HE.out.below HB1.out (Nat.le_refl _)).below hb2 (Nat.le_refl _))
        obtain ⟨a2, n2, hv2⟩ : ∃ a c, v2 = .slice a L'.length c := by obtain ⟨a, c, h, -⟩ := hl2; exact ⟨a, c, h⟩
        subst hv2
        have hQs : QB < W1.heap.size := HR1.out.lt
        have HFB : Hid (L' = [] ∨ ∀ b, (Value.slice a2 L'.length n2).ownBlock = some b → b ≠ w.heap.size ∧ b ≠ QB) := hide (by
          rcases hf2 with ⟨h1, h2⟩ | h
          · rw [h1, h2]
            rcases HL.out.old with h3 | h3
            · exact .inl h3
            · exact .inr fun b hb => by
                have h4 := h3 b hb
                have h5 := HLF.out b hb
                have h6 := HQB.out
                omega
          · exact .inr fun b hb => by
              have h4 := h b hb
              have h5 := HY1.out.lt
              omega)
        have HFF : Hid (∀ b, (Value.slice a2 L'.length n2).ownBlock = some b → w.heap.size + 2 ≤ b) := hide (fun b hb => by
          rcases hf2 with ⟨h1, h2⟩ | h
          · rw [h1] at hb
            exact HLF.out b hb
          · have h4 := h b hb
            have h5 := HY1.out.lt
            omega)
        have HEB : Hid (∀ b, (Value.slice ea S.tab.length ec).ownBlock = some b → b ≠ w.heap.size ∧ b ≠ QB) := hide (fun b hb => by
          have h1 := World.ownsRow.lt HE.out b hb
          have h2 := HQB.out
          omega)
        have hne : w.heap.size ≠ QB := by have := HQB.out; omega
        have hne2 : QB ≠ w.heap.size := fun h => hne h.symm
        have hne3 : w.heap.size + 1 ≠ QB := by have := HQB.out; omega
        have HL2 := hide hl2
        have HKE := hide (And.intro hk2 he2)
        clear hl2 hk2 he2 hf2 hb2
        obtain ⟨W4, hW4⟩ : ∃ W4, W4 = stepped W2 w.heap.size QB k' (.slice a2 L'.length n2) sh' g' n' := ⟨_, rfl⟩
        have HX4 : Hid (Bn W4 w.heap.size #[.int .i64 S.idx, .int .i64 k', .slice a2 L'.length n2, .bool sh', .int .i64 g', .slice ea S.tab.length ec]) := hide (by rw [hW4]; exact bn_stepped hne HX2.out _ _ _ _ _)
        have HR4 : Hid (Br W4 QB #[.int .i64 r.idx, .int .i64 r.proc, .int .i64 r.seq, .int .i64 r.op.code, .int .i64 r.op.a, .int .i64 r.op.b, .int .i64 n']) := hide (by rw [hW4]; exact br_stepped hne2 HR2.out _ _ _ _ _)
        have HY4 : Hid (Bn W4 (w.heap.size + 1) #[.int .i64 0, .int .i64 0, .slice none 0 0, .bool false, .int .i64 0, .slice none 0 0]) := hide (by rw [hW4]; exact bnc_stepped (by omega) hne3 HY2.out _ _ _ _ _)
        have HBT : Hid (But w.heap.size QB W2 W4) := hide (by rw [hW4]; exact but_stepped _ _ _ _ _ _ _ _)
        have HL4 := hide (HL2.out.but HBT.out HFB.out)
        have HE4 := hide (HE2.out.butN HBT.out HEB.out)
        have HBW4 := hide (below_but HBW2.out HBT.out HBW2.out.size (Nat.le_refl _) (by have := HQB.out; omega))
        have HNOTE := hide (noteN_any (.slice ea S.tab.length ec) S.tab ⟨r.idx, r.proc, r.seq, r.op, n'⟩ W4 (HE4.out.rd HEI.out) ⟨HRO.out.1, HRO.out.2.1, HRO.out.2.2.1, HRO.out.2.2.2.1, HSR.out⟩ (by have := hST.out; omega))
        unfold recV at HNOTE
        dsimp only at HNOTE
        have hW4' := hW4
        unfold stepped at hW4'
        have s1 := (HX2.out.cell 1)
        have s2 := (HX2.out.cell 2)
        have s3 := (HX2.out.cell 3)
        have s4 := (HX2.out.cell 4)
        have s5 := (HX2.out.cell 5)
        obtain ⟨s1, u1⟩ := s1
        obtain ⟨s2, u2⟩ := s2
        obtain ⟨s3, u3⟩ := s3
        obtain ⟨s4, u4⟩ := s4
        obtain ⟨s5, u5⟩ := s5
        obtain ⟨t0, m0⟩ := HR2.out.cell 0
        obtain ⟨t1, m1⟩ := HR2.out.cell 1
        obtain ⟨t2, m2⟩ := HR2.out.cell 2
        obtain ⟨t3, m3⟩ := HR2.out.cell 3
        obtain ⟨t4, m4⟩ := HR2.out.cell 4
        obtain ⟨t5, m5⟩ := HR2.out.cell 5
        obtain ⟨t6, m6⟩ := HR2.out.cell 6
        clear hW4
        go_wp2_with fail
        rw [← hW4']
        refine HNOTE.out.mono ?_
        rintro x W5 ⟨v5, rfl, ho5, hb5⟩
        clear hW4' s1 s2 s3 s4 s5 u1 u2 u3 u4 u5 t0 t1 t2 t3 t4 t5 t6 m0 m1 m2 m3 m4 m5 m6 HNOTE
        have HX5 := hide (HX4.out.below hb5 (Nat.le_refl _))
        have HY5 := hide (HY4.out.below hb5 (Nat.le_refl _))
        have HL5 := hide (HL4.out.below hb5 (Nat.le_refl _))
        have HBW5 := hide (HBW4.out.trans (hb5.mono HBW4.out.size))
        have HE5 := hide (ho5.mono (B' := w.heap.size + 2) (by have := HY4.out.lt; omega))
        obtain ⟨a5, c5, hv5⟩ := ho5.shape
        subst hv5
        have HEI5 : Hid (∀ e ∈ noteL S.tab ⟨r.proc, r.seq, n'⟩, EntI e) := hide (fun e he => by
          unfold noteL at he
          rcases (noteG_mem _ _ _ _).1 he with ⟨-, h⟩ | ⟨h, -⟩
          · rw [h]
            exact ⟨HRO.out.2.1, HRO.out.2.2.1, HSR.out⟩
          · exact HEI.out e h)
        have HI5 : Hid (I64 (S.idx + 1)) := hide (by
          have h1 := HFT.out
          unfold FitsR at h1
          have h2 := HIX.out
          exact ⟨by omega, by omega⟩)
        have hw5 : IntKind.i64.wrap (S.idx + 1) = S.idx + 1 := by
          have := HI5.out
          rw [IntKind.wrap_i64]
          obtain ⟨h1, h2⟩ := this
          omega
        obtain ⟨p0, g0⟩ := HX5.out.cell 0
        obtain ⟨p5, g5⟩ := HX5.out.cell 5
        clear ho5 hb5
        have hb0 : -9223372036854775808 ≤ S.idx + 1 ∧ S.idx + 1 ≤ 9223372036854775807 := HI5.out
        obtain ⟨hb0, hb1⟩ := hb0
        go_wp2
        go_roundw
        case rel =>
          exact ⟨q + 1, nextN S r, by go_num, by omega, hide (by rw [HNX.out]; exact takeIn_next HX5.out HY5.out HL5.out HFF.out HE5.out HEI5.out HI5.out HKE.out.1 HKE.out.2 HBW5.out), HF, hide (by rw [HNX.out]; exact HSF.out), hide (by rw [HNX.out]; have := HNT.out; have := hST.out; show (noteL S.tab ⟨r.proc, r.seq, n'⟩).length ≤ _; omega)⟩
        case measure => simp [intOf]; omega

end Go.Proofs.Ytanmjihiceibbab
