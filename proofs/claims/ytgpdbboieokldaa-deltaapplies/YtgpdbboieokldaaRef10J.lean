/- Contract of ferrymanref10: Apply. -/
import Derived.Test.YtgpdbboieokldaaRef10I
namespace Go.Proofs.Ytgpdbboieokldaa
open Go.RowKit

set_option maxRecDepth 100000 in
set_option maxHeartbeats 8000000 in
theorem refApply_any (va : Value) (a : Snap) (vd : Value) (d : Delt) (w : World) (ha : SnV w va a) (hd : DlV w vd d) (hlim : d.mid.length ≤ 100000) (hlit : d.tab.length ≤ 1000) :
    Calls Try.prog 15 #[va, vd] w fun e w' => GivenN w (applyD a d) e w' := by
  have HMA : Hid (∀ W, Below w.heap.size w W → Calls Try.prog 29 #[va] W fun e w' => e = .returned (.bool (decide (MayN a))) ∧ Below W.heap.size W w') := hide (fun W h => refMayN_any va a W (ha.below h (Nat.le_refl _)))
  have HFEW : Hid (MayN a → a.st.L.length ≤ 128 ∧ a.tab.length ≤ 65) := hide (fun h => ⟨(nums_in h.2.1).1, tabOk_few h.2.2⟩)
  have HBAD := hide (applyD_bad (a := a) (d := d))
  have HGAP := hide (applyD_gap (a := a) (d := d))
  have HEND := hide (applyD_made (a := a) (d := d))
  have HNT : Hid (∀ W vt t p s r, RdE W vt t → t.length ≤ 2000 → Calls Try.prog 34 #[vt, .agg #[.int .i64 0, .int .i64 p, .int .i64 s, .int .i64 0, .int .i64 0, .int .i64 0, .int .i64 r]] W fun e w' => ∃ v', e = .returned v' ∧ OwnE w' W.heap.size v' (noteL t ⟨p, s, r⟩) ∧ Below W.heap.size W w') := hide (fun W vt t p s r h1 h2 => refNoteN_any vt t ⟨0, p, s, ⟨0, 0, 0⟩, r⟩ W h1 h2)
  obtain ⟨vl, vt, rfl, hl, hk, he, ht, hi⟩ := ha
  obtain ⟨ma, mc, da, dc, rfl, hm, htd⟩ := hd.shape
  obtain ⟨-, -, -, -, -, -, hup, -, -, hen⟩ := hd
  obtain ⟨la, lc, e1⟩ := hl.shape
  obtain ⟨ta, tc, e2⟩ := ht.shape
  subst e1 e2
  have HL := hide hl
  have HT := hide ht
  have HM := hide hm
  have HTD := hide htd
  have HI := hide (And.intro hup (And.intro hk hen))
  obtain ⟨A, hA⟩ : ∃ A : Array Value, A = #[.int .i64 a.idx, .int .i64 a.st.kind, .slice la a.st.L.length lc, .bool a.st.shut, .int .i64 a.st.eng, .slice ta a.tab.length tc] := ⟨_, rfl⟩
  obtain ⟨B, hB⟩ : ∃ B : Array Value, B = #[.int .i64 d.frm, .int .i64 d.upto, .int .i64 d.ahead, .int .i64 d.behind, .slice ma d.mid.length mc, .bool d.shut, .int .i64 d.eng, .slice da d.tab.length dc] := ⟨_, rfl⟩
  obtain ⟨W0, hW0⟩ : ∃ W0, W0 = (((w.alloc (.cells #[.int .i64 a.idx, .int .i64 a.st.kind, .slice la a.st.L.length lc, .bool a.st.shut, .int .i64 a.st.eng, .slice ta a.tab.length tc] 27)).alloc (.cells #[.int .i64 d.frm, .int .i64 d.upto, .int .i64 d.ahead, .int .i64 d.behind, .slice ma d.mid.length mc, .bool d.shut, .int .i64 d.eng, .slice da d.tab.length dc] 31)).alloc (.cells #[.int .i64 0, .int .i64 0, .slice none 0 0, .bool false, .int .i64 0, .slice none 0 0] 27)).alloc (.cells #[.int .i64 0, .int .i64 0, .slice none 0 0, .bool false, .int .i64 0, .slice none 0 0] 27) := ⟨_, rfl⟩
  have HB0 : Hid (ApA w W0 A B) := hide (by rw [hW0, hA, hB]; exact ApA.start w _ _)
  have HKA : Hid (∀ W, ApA w W A B → (W.cell? ⟨w.heap.size, 0, none⟩ = some (.int .i64 a.idx) ∧ W.cell? ⟨w.heap.size, 1, none⟩ = some (.int .i64 a.st.kind) ∧ W.cell? ⟨w.heap.size, 2, none⟩ = some (.slice la a.st.L.length lc) ∧ W.cell? ⟨w.heap.size, 3, none⟩ = some (.bool a.st.shut) ∧ W.cell? ⟨w.heap.size, 4, none⟩ = some (.int .i64 a.st.eng) ∧ W.cell? ⟨w.heap.size, 5, none⟩ = some (.slice ta a.tab.length tc)) ∧ W.cell? ⟨w.heap.size + 1, 0, none⟩ = some (.int .i64 d.frm) ∧ W.cell? ⟨w.heap.size + 1, 1, none⟩ = some (.int .i64 d.upto) ∧ W.cell? ⟨w.heap.size + 1, 2, none⟩ = some (.int .i64 d.ahead) ∧ W.cell? ⟨w.heap.size + 1, 3, none⟩ = some (.int .i64 d.behind) ∧ W.cell? ⟨w.heap.size + 1, 4, none⟩ = some (.slice ma d.mid.length mc) ∧ W.cell? ⟨w.heap.size + 1, 5, none⟩ = some (.bool d.shut) ∧ W.cell? ⟨w.heap.size + 1, 6, none⟩ = some (.int .i64 d.eng) ∧ W.cell? ⟨w.heap.size + 1, 7, none⟩ = some (.slice da d.tab.length dc)) := hide (fun W h => by
    have h1 := h.fst
    have h2 := h.snd
    rw [hA] at h1
    rw [hB] at h2
    exact ⟨h1.all.1, h2.all.1⟩)
  have HW0 := hide hW0
  obtain ⟨DN, hDN⟩ : ∃ DN, DN = applyD a d := ⟨_, rfl⟩
  rw [← hDN] at HBAD HGAP HEND ⊢
  have HZR : Hid (∀ (W : World) (n : Int), Below w.heap.size w W → DN = (zeroN, n) → GivenN w DN (.returned (.tuple #[.agg #[.int .i64 0, .int .i64 0, .slice none 0 0, .bool false, .int .i64 0, .slice none 0 0], .int .i64 n])) ((((((W.setCell ⟨w.heap.size + 1 + 1, 0, none⟩ (.int .i64 0)).setCell ⟨w.heap.size + 1 + 1, 1, none⟩ (.int .i64 0)).setCell ⟨w.heap.size + 1 + 1, 2, none⟩ (.slice none 0 0)).setCell ⟨w.heap.size + 1 + 1, 3, none⟩ (.bool false)).setCell ⟨w.heap.size + 1 + 1, 4, none⟩ (.int .i64 0)).setCell ⟨w.heap.size + 1 + 1, 5, none⟩ (.slice none 0 0))) := hide (fun W n h e => by
    rw [e]
    exact (DecodedN.zero n (belowSixE h _ (by omega) _ _ _ _ _ _)).sn)
  obtain ⟨m1, hm1⟩ : ∃ m, m = decide (MayN a) := ⟨_, rfl⟩
  rw [← hm1] at HMA
  have HM1 := hide hm1
  have HMD : Hid (madeD a d = ⟨d.upto, ⟨a.st.kind, a.st.L.take d.ahead.toNat ++ (d.mid ++ a.st.L.drop (a.st.L.length - d.behind.toNat)), d.shut, d.eng⟩, d.tab.foldl noteL a.tab⟩) := hide rfl
  have HRM := hide (fun v s W h => refMayN_any v s W h)
  clear hm1 hDN hA hB hW0 hl ht hk he hi hm htd hup hen
  generalize madeD a d = MD at *
  obtain ⟨ai, ⟨ak, aL, ash, ae⟩, aT⟩ := a
  obtain ⟨fr, up, ah, bh, mid, sh, en, tab⟩ := d
  dsimp only at *
  obtain ⟨⟨p0, p1, p2, p3, p4, p5⟩, -⟩ := HKA.out _ HB0.out
  go_enter Try.func15, Try.ntmps15
  go_upto_region 2 with fail
  rw [← HW0.out]
  clear HW0
  go_wp2_with fail
  refine (HMA.out _ HB0.out.below).mono ?_
  rintro x W1 ⟨rfl, hb1⟩
  have HB1 := hide (HB0.out.more hb1)
  clear hb1 HMA HB0 p0 p1 p2 p3 p4 p5
  obtain ⟨⟨p0, p1, p2, p3, p4, p5⟩, q0, q1, q2, q3, q4, q5, q6, q7⟩ := HKA.out _ HB1.out
  cases m1 with
  | false =>
    have HF : Hid (DN = (zeroN, 1)) := hide (HBAD.out (.inl (of_decide_eq_false HM1.out.symm)))
    obtain ⟨⟨z0, z1, z2, z3, z4, z5⟩, y0, y1, y2, y3, y4, y5⟩ := HB1.out.res.all
    obtain ⟨⟨n0, n1, n2, n3, n4, n5⟩, -⟩ := HB1.out.non.all
    go_wp2
    refine bodyPost_ret (v := .tuple #[.agg #[.int .i64 0, .int .i64 0, .slice none 0 0, .bool false, .int .i64 0, .slice none 0 0], .int .i64 1]) (by simp [results, Try.results15, go_sem, z0, z1, z2, z3, z4, z5]) rfl ?_
    exact HZR.out _ _ HB1.out.below HF.out
  | true =>
  have hMA := of_decide_eq_true HM1.out.symm
  obtain ⟨hL128, hT65⟩ := HFEW.out hMA
  have HGAP2 := hide (HGAP.out hMA)
  have HEND2 := hide (HEND.out hMA)
  have HBAD2 := hide (fun h => HBAD.out (.inr h))
  clear hMA HGAP HEND HBAD HFEW HM1
  unfold CutD at HBAD2 HGAP2 HEND2
  dsimp only at HBAD2 HGAP2 HEND2
  by_cases hc1 : ah < 0
  · have HF : Hid (DN = (zeroN, 1)) := hide (HBAD2.out (by omega))
    obtain ⟨⟨z0, z1, z2, z3, z4, z5⟩, y0, y1, y2, y3, y4, y5⟩ := HB1.out.res.all
    obtain ⟨⟨n0, n1, n2, n3, n4, n5⟩, -⟩ := HB1.out.non.all
    go_wp2
    refine bodyPost_ret (v := .tuple #[.agg #[.int .i64 0, .int .i64 0, .slice none 0 0, .bool false, .int .i64 0, .slice none 0 0], .int .i64 1]) (by simp [results, Try.results15, go_sem, z0, z1, z2, z3, z4, z5]) rfl ?_
    exact HZR.out _ _ HB1.out.below HF.out
  by_cases hc2 : bh < 0
  · have HF : Hid (DN = (zeroN, 1)) := hide (HBAD2.out (by omega))
    obtain ⟨⟨z0, z1, z2, z3, z4, z5⟩, y0, y1, y2, y3, y4, y5⟩ := HB1.out.res.all
    obtain ⟨⟨n0, n1, n2, n3, n4, n5⟩, -⟩ := HB1.out.non.all
    go_wp2
    refine bodyPost_ret (v := .tuple #[.agg #[.int .i64 0, .int .i64 0, .slice none 0 0, .bool false, .int .i64 0, .slice none 0 0], .int .i64 1]) (by simp [results, Try.results15, go_sem, z0, z1, z2, z3, z4, z5]) rfl ?_
    exact HZR.out _ _ HB1.out.below HF.out
  by_cases hc3 : ah > (aL.length : Int)
  · have HF : Hid (DN = (zeroN, 1)) := hide (HBAD2.out (by omega))
    obtain ⟨⟨z0, z1, z2, z3, z4, z5⟩, y0, y1, y2, y3, y4, y5⟩ := HB1.out.res.all
    obtain ⟨⟨n0, n1, n2, n3, n4, n5⟩, -⟩ := HB1.out.non.all
    go_wp2
    refine bodyPost_ret (v := .tuple #[.agg #[.int .i64 0, .int .i64 0, .slice none 0 0, .bool false, .int .i64 0, .slice none 0 0], .int .i64 1]) (by simp [results, Try.results15, go_sem, z0, z1, z2, z3, z4, z5]) rfl ?_
    exact HZR.out _ _ HB1.out.below HF.out
  by_cases hc4 : bh > (aL.length : Int) - ah
  · have HF : Hid (DN = (zeroN, 1)) := hide (HBAD2.out (by omega))
    obtain ⟨⟨z0, z1, z2, z3, z4, z5⟩, y0, y1, y2, y3, y4, y5⟩ := HB1.out.res.all
    obtain ⟨⟨n0, n1, n2, n3, n4, n5⟩, -⟩ := HB1.out.non.all
    go_wp2
    refine bodyPost_ret (v := .tuple #[.agg #[.int .i64 0, .int .i64 0, .slice none 0 0, .bool false, .int .i64 0, .slice none 0 0], .int .i64 1]) (by simp [results, Try.results15, go_sem, z0, z1, z2, z3, z4, z5]) rfl ?_
    exact HZR.out _ _ HB1.out.below HF.out
  have HGAP3 := hide (HGAP2.out (by omega))
  have HEND3 := hide (HEND2.out (by omega))
  clear HGAP2 HEND2 HBAD2
  by_cases h15 : ai = fr
  case neg =>
    have HF : Hid (DN = (zeroN, 15)) := hide (HGAP3.out (.inl h15))
    have h15d : (ai != fr) = true := by rw [bne_iff_ne]; exact h15
    clear h15
    obtain ⟨⟨z0, z1, z2, z3, z4, z5⟩, y0, y1, y2, y3, y4, y5⟩ := HB1.out.res.all
    obtain ⟨⟨n0, n1, n2, n3, n4, n5⟩, -⟩ := HB1.out.non.all
    go_wp2
    refine bodyPost_ret (v := .tuple #[.agg #[.int .i64 0, .int .i64 0, .slice none 0 0, .bool false, .int .i64 0, .slice none 0 0], .int .i64 15]) (by simp [results, Try.results15, go_sem, z0, z1, z2, z3, z4, z5]) rfl ?_
    exact HZR.out _ _ HB1.out.below HF.out
  have h15d : (ai != fr) = false := by rw [bne_eq_false_iff_eq]; exact h15
  have HEND4 := hide (HEND3.out h15)
  clear h15 HEND3
  by_cases hup : up < fr
  case pos =>
    have HF : Hid (DN = (zeroN, 15)) := hide (HGAP3.out (.inr hup))
    obtain ⟨⟨z0, z1, z2, z3, z4, z5⟩, y0, y1, y2, y3, y4, y5⟩ := HB1.out.res.all
    obtain ⟨⟨n0, n1, n2, n3, n4, n5⟩, -⟩ := HB1.out.non.all
    go_wp2
    refine bodyPost_ret (v := .tuple #[.agg #[.int .i64 0, .int .i64 0, .slice none 0 0, .bool false, .int .i64 0, .slice none 0 0], .int .i64 15]) (by simp [results, Try.results15, go_sem, z0, z1, z2, z3, z4, z5]) rfl ?_
    exact HZR.out _ _ HB1.out.below HF.out
  have HD := hide (HEND4.out (by omega))
  clear HEND4 HGAP3
  obtain ⟨W8, hW8⟩ : ∃ W8, W8 = W1.alloc (.cells #[.int .i64 up, .int .i64 ak, .slice none 0 0, .bool sh, .int .i64 en, .slice none 0 0] 27) := ⟨_, rfl⟩
  obtain ⟨O, hO⟩ : ∃ O, O = W1.heap.size := ⟨_, rfl⟩
  have HB8 : Hid (ApB w W8 A B O #[.int .i64 up, .int .i64 ak, .slice none 0 0, .bool sh, .int .i64 en, .slice none 0 0]) := hide (by rw [hW8, hO]; exact HB1.out.box _)
  have HW8 := hide hW8
  clear hW8
  go_upto_region 9 with fail
  rw [← HW8.out, ← hO]
  clear HW8 hO HB1 p0 p1 p2 p3 p4 p5 q0 q1 q2 q3 q4 q5 q6 q7 h15d hup
  obtain ⟨P, rfl⟩ : ∃ P : Nat, ah = P := ⟨ah.toNat, by omega⟩
  obtain ⟨S, rfl⟩ : ∃ S : Nat, bh = S := ⟨bh.toNat, by omega⟩
  obtain ⟨N3, hK⟩ : ∃ N3, N3 = aL.length - S := ⟨_, rfl⟩
  obtain ⟨X1, hX1⟩ : ∃ X1, X1 = aL.take P := ⟨_, rfl⟩
  obtain ⟨X3, hX3⟩ : ∃ X3, X3 = aL.drop N3 := ⟨_, rfl⟩
  obtain ⟨X, hX⟩ : ∃ X, X = X1 ++ mid ++ X3 := ⟨_, rfl⟩
  have HME : Hid (MD = ⟨up, ⟨ak, X, sh, en⟩, tab.foldl noteL aT⟩) := hide (by rw [HMD.out, hX, hX1, hX3, hK, Int.toNat_natCast, Int.toNat_natCast, List.append_assoc])
  obtain ⟨xa, xc, hcut1, hrd1⟩ := cutI_upto la aL lc HL.out.cap P (by omega) X1 hX1
  obtain ⟨xb, xd, hcut3, -, hrd3⟩ := cutI_from la aL lc HL.out.cap N3 (by omega) X3 hX3
  have hX1l : X1.length ≤ 128 := by rw [hX1, List.length_take]; omega
  have hX3l : X3.length ≤ 128 := by rw [hX3, List.length_drop]; omega
  have HR1 : Hid (∀ W, Below w.heap.size w W → RdI W (.slice xa X1.length xc) X1) := hide (fun W h => hrd1 W (HL.out.below h (Nat.le_refl _)))
  have HR3 : Hid (∀ W, Below w.heap.size w W → RdI W (.slice xb X3.length xd) X3) := hide (fun W h => hrd3 W (HL.out.below h (Nat.le_refl _)))
  have HXI : Hid (∀ n ∈ X, I64 n) := hide (fun n hn => by
    have h1 := HL.out.i64
    have h2 := HM.out.i64
    rw [hX, List.mem_append, List.mem_append] at hn
    rcases hn with (hn | hn) | hn
    · rw [hX1] at hn; exact h1 n (List.mem_of_mem_take hn)
    · exact h2 n hn
    · rw [hX3] at hn; exact h1 n (List.mem_of_mem_drop hn))
  have e3 : (aL.length : Int) - (S : Int) = (N3 : Int) := by omega
  obtain ⟨X2, hX2⟩ : ∃ X2, X2 = X1 ++ mid := ⟨_, rfl⟩
  have hX2l : X2.length ≤ 100128 := by rw [hX2, List.length_append]; omega
  rw [← hX2] at hX
  have HX2 := hide hX2
  have HX := hide hX
  have HC3 := hide hcut3
  clear hX1 hX3 hX hX2 hrd1 hrd3 hK HMD hcut3 hc1 hc2 hc3 hc4
  obtain ⟨⟨p0, p1, p2, p3, p4, p5⟩, q0, q1, q2, q3, q4, q5, q6, q7⟩ := HKA.out _ HB8.out.base
  go_wp2_with (at_builtin; refine wpList_append_ints _ rfl _ _ rfl W8.heap.size _ [] rfl (OwnI.nil _ _) _ X1 rfl (HR1.out _ HB8.out.base.below) (by simp; omega) (Nat.le_refl _) ?_)
  intro v9 W9 ho9 hb9
  have ho9' : OwnI W9 W8.heap.size v9 X1 := by simpa using ho9
  obtain ⟨a9, c9, hv⟩ := ho9'.shape
  subst hv
  have HO9 := hide ho9'
  have HB9 := hide (HB8.out.more hb9)
  have HS9 : Hid (W8.heap.size ≤ W9.heap.size) := hide hb9.size
  have hO8 : O < W8.heap.size := HB8.out.box.lt
  clear ho9 ho9' hb9 HB8 HR1 hcut1 p0 p1 p2 p3 p4 p5 q0 q1 q2 q3 q4 q5 q6 q7
  obtain ⟨⟨p0, p1, p2, p3, p4, p5⟩, q0, q1, q2, q3, q4, q5, q6, q7⟩ := HKA.out _ HB9.out.base
  go_wp2_with (at_builtin; refine wpList_append_ints _ rfl _ _ rfl W8.heap.size _ X1 rfl HO9.out _ mid rfl (HM.out.below HB9.out.base.below (Nat.le_refl _)) (by omega) HS9.out ?_)
  intro v10 W10 ho10 hb10
  rw [← HX2.out] at ho10
  obtain ⟨a10, c10, hv⟩ := ho10.shape
  subst hv
  have HO10 := hide ho10
  have HB10 := hide (HB9.out.moreB hO8 hb10)
  have HS10 : Hid (W8.heap.size ≤ W10.heap.size) := hide (Nat.le_trans HS9.out hb10.size)
  clear ho10 hb10 HB9 HO9 HS9 p0 p1 p2 p3 p4 p5 q0 q1 q2 q3 q4 q5 q6 q7
  obtain ⟨⟨p0, p1, p2, p3, p4, p5⟩, q0, q1, q2, q3, q4, q5, q6, q7⟩ := HKA.out _ HB10.out.base
  have hcut3 := HC3.out
  go_wp2_with (at_builtin; refine wpList_append_ints _ rfl _ _ rfl W8.heap.size _ X2 rfl HO10.out _ X3 rfl (HR3.out _ HB10.out.base.below) (by omega) HS10.out ?_)
  intro v11 W11 ho11 hb11
  rw [← HX.out] at ho11
  obtain ⟨a11, c11, hv⟩ := ho11.shape
  subst hv
  have HLX : Hid (∀ g, (Value.slice a11 X.length c11).ownBlock = some g → O < g) := hide (fun g hg => Nat.lt_of_lt_of_le hO8 (World.ownsRow.lt ho11 g hg).1)
  have HRX := hide (ho11.rd HXI.out)
  have HB11 := hide (HB10.out.moreB hO8 hb11)
  clear ho11 hb11 HB10 HO10 HS10 HXI HX HX2 HC3 hcut3 HR3 hX1l hX2l hX3l e3 HM HL p0 p1 p2 p3 p4 p5 q0 q1 q2 q3 q4 q5 q6 q7
  obtain ⟨W12, hW12⟩ : ∃ W12, W12 = W11.setCell ⟨O, 2, none⟩ (.slice a11 X.length c11) := ⟨_, rfl⟩
  have HB12 : Hid (ApB w W12 A B O #[.int .i64 up, .int .i64 ak, .slice a11 X.length c11, .bool sh, .int .i64 en, .slice none 0 0]) := hide (by rw [hW12]; exact HB11.out.setBox 2 _)
  have HRX12 : Hid (RdI W12 (.slice a11 X.length c11) X) := hide (by rw [hW12]; exact HRX.out.keepG (fun g hg => Below.heap_setCell _ _ _ _ (by have h := HLX.out g hg; show g ≠ O; omega)))
  have HW12 := hide hW12
  obtain ⟨⟨o0, o1, o2, o3, o4, o5⟩, y0, y1, y2, y3, y4, y5⟩ := HB11.out.box.all
  clear hW12
  go_upto_region 13 with fail
  rw [← HW12.out]
  clear HW12 HB11 HRX o0 o1 o2 o3 o4 o5 y0 y1 y2 y3 y4 y5
  obtain ⟨W13, hW13⟩ : ∃ W13, W13 = W12.setCell ⟨O, 5, none⟩ (.slice ta aT.length tc) := ⟨_, rfl⟩
  have HB13 : Hid (ApB w W13 A B O #[.int .i64 up, .int .i64 ak, .slice a11 X.length c11, .bool sh, .int .i64 en, .slice ta aT.length tc]) := hide (by rw [hW13]; exact HB12.out.setBox 5 _)
  have HRX13 : Hid (RdI W13 (.slice a11 X.length c11) X) := hide (by rw [hW13]; exact HRX12.out.keepG (fun g hg => Below.heap_setCell _ _ _ _ (by have h := HLX.out g hg; show g ≠ O; omega)))
  have HW13 := hide hW13
  obtain ⟨⟨o0, o1, o2, o3, o4, o5⟩, y0, y1, y2, y3, y4, y5⟩ := HB12.out.box.all
  obtain ⟨⟨p0, p1, p2, p3, p4, p5⟩, q0, q1, q2, q3, q4, q5, q6, q7⟩ := HKA.out _ HB12.out.base
  clear hW13
  go_upto_region 14 with fail
  rw [← HW13.out]
  clear HW13 HB12 HRX12 o0 o1 o2 o3 o4 o5 y0 y1 y2 y3 y4 y5 p0 p1 p2 p3 p4 p5 q0 q1 q2 q3 q4 q5 q6 q7
  go_wp2
  go_loopw [11] (fun vi wr => ∃ (k : Nat) (t : List Ent) (ya : Option Addr) (yc : Nat), vi = .int .i64 (k : Int) ∧ k ≤ tab.length ∧ Hid (t = (tab.take k).foldl noteL aT) ∧ Hid (ApB w wr A B O #[.int .i64 up, .int .i64 ak, .slice a11 X.length c11, .bool sh, .int .i64 en, .slice ya t.length yc]) ∧ Hid (RdE wr (.slice ya t.length yc) t) ∧ Hid (t = [] ∨ ∀ g, (Value.slice ya t.length yc).ownBlock = some g → g < w.heap.size ∨ O < g) ∧ Hid (RdI wr (.slice a11 X.length c11) X)) (fun vi _ => tab.length - (intOf vi).toNat)
  case atStart => exact ⟨0, aT, ta, tc, rfl, Nat.zero_le _, hide rfl, HB13, hide (HT.out.below HB13.out.base.below (Nat.le_refl _)), hide (HT.out.block.imp id (fun h g hg => .inl (h g hg))), HRX13⟩
  case round =>
    clear HB13 HRX13
    obtain ⟨k, t, ya, yc, rfl, hk, hT, HB, HRT, HTX, HRX⟩ := hrel
    have hfar := HB.out.far
    by_cases hlt : k < tab.length
    case pos =>
      have hki : (k : Int) < (tab.length : Int) := by omega
      have HTN := hide (foldE_snoc (t := aT) hlt)
      rw [← hT.out] at HTN
      have htl : t.length ≤ 2000 := by
        have h := foldE_len (t := aT) (tab.take k)
        rw [← hT.out, List.length_take] at h
        omega
      obtain ⟨c, off, rfl, hc⟩ : ∃ c off, da = some ⟨c, off, none⟩ ∧ EntAt w c (off + k * 3) (tab.getD k zeroE) := by
        obtain ⟨ao, cap, hv, -, -, -, -, h0 | ⟨c, off, h1, h2⟩⟩ := HTD.out
        · rw [h0] at hlt; simp at hlt
        · injection hv with hv
          exact ⟨c, off, hv.trans h1, h2 k hlt⟩
      have HXE : Hid (EntI (tab.getD k zeroE)) := hide (HTD.out.i _ (by simp [List.getD, hlt]))
      obtain ⟨c0, c1, c2⟩ := hc.keep (HB.out.base.below.block c hc.lt)
      clear hc
      generalize tab.getD k zeroE = x at *
      obtain ⟨xp, xs, xr⟩ := x
      dsimp only at *
      obtain ⟨WE, hWE⟩ : ∃ WE, WE = wr.alloc (.cells #[.int .i64 xp, .int .i64 xs, .int .i64 xr] 55) := ⟨_, rfl⟩
      obtain ⟨EB, hEB⟩ : ∃ EB, EB = wr.heap.size := ⟨_, rfl⟩
      have hbE : Below wr.heap.size wr WE := by rw [hWE]; exact (Below.refl _ _).alloc (Nat.le_refl _) _
      have HEE : Hid (Be WE EB #[.int .i64 xp, .int .i64 xs, .int .i64 xr]) := hide (by rw [hWE, hEB]; exact heap_alloc_new wr _)
      have HBE := hide (HB.out.more hbE)
      have HRE := hide (HRT.out.below hbE (Nat.le_refl _))
      have HRXE := hide (HRX.out.below hbE (Nat.le_refl _))
      have HWE := hide hWE
      obtain ⟨-, q0, q1, q2, q3, q4, q5, q6, q7⟩ := HKA.out _ HB.out.base
      clear hWE hbE
      go_upto_region 18 with fail
      rw [← HWE.out, ← hEB]
      clear HWE hEB HB HRT HRX c0 c1 c2 q0 q1 q2 q3 q4 q5 q6 q7 hT
      obtain ⟨e0, -⟩ := HEE.out.cell 0
      obtain ⟨e1, -⟩ := HEE.out.cell 1
      obtain ⟨e2, -⟩ := HEE.out.cell 2
      obtain ⟨o5, -⟩ := HBE.out.box.cell 5
      have HCN := hide (HNT.out WE _ t xp xs xr HRE.out htl)
      obtain ⟨T2, hT2⟩ : ∃ T2, T2 = noteL t ⟨xp, xs, xr⟩ := ⟨_, rfl⟩
      have HI2 : Hid (∀ e ∈ T2, EntI e) := hide (fun e he => by
        rw [hT2, noteL_mem] at he
        rcases he with rfl | ⟨he, -⟩
        · exact HXE.out
        · exact HRE.out.i e he)
      rw [← hT2] at HTN HCN
      have hOE : O < WE.heap.size := HBE.out.box.lt
      clear hT2 htl
      go_wp2_with fail
      refine HCN.out.mono ?_
      rintro x W2 ⟨v2, rfl, ho2, hb2⟩
      have HT2X : Hid (∀ g, v2.ownBlock = some g → O < g) := hide (fun g hg => Nat.lt_of_lt_of_le hOE (World.ownsRow.lt ho2 g hg).1)
      have HR2 := hide (ho2.rd HI2.out)
      obtain ⟨a2, c2, hv⟩ := ho2.shape
      subst hv
      have HB2 := hide (HBE.out.more hb2)
      have HRX2 := hide (HRXE.out.below hb2 (Nat.le_refl _))
      have HB3 : Hid (ApB w (W2.setCell ⟨O, 5, none⟩ (.slice a2 T2.length c2)) A B O #[.int .i64 up, .int .i64 ak, .slice a11 X.length c11, .bool sh, .int .i64 en, .slice a2 T2.length c2]) := hide (HB2.out.setBox 5 _)
      have HR3 : Hid (RdE (W2.setCell ⟨O, 5, none⟩ (.slice a2 T2.length c2)) (.slice a2 T2.length c2) T2) := hide (HR2.out.keepG (.inr (fun g hg => Below.heap_setCell _ _ _ _ (by have h := HT2X.out g hg; show g ≠ O; omega))))
      have HRX3 : Hid (RdI (W2.setCell ⟨O, 5, none⟩ (.slice a2 T2.length c2)) (.slice a11 X.length c11) X) := hide (HRX2.out.keepG (fun g hg => Below.heap_setCell _ _ _ _ (by have h := HLX.out g hg; show g ≠ O; omega)))
      obtain ⟨o5', y5⟩ := HB2.out.box.cell 5
      clear ho2 hb2 HCN HBE HRE HRXE HB2 HRX2 HR2 e0 e1 e2 o5 HEE
      go_wp2
      go_roundw
      case rel => exact ⟨k + 1, T2, a2, c2, by go_num, by omega, hide HTN.out.symm, HB3, HR3, hide (.inr (fun g hg => .inr (HT2X.out g hg))), HRX3⟩
      case measure => simp [intOf]; omega
    case neg =>
      have hni : ¬ (k : Int) < (tab.length : Int) := by omega
      have HTE : Hid (MD = ⟨up, ⟨ak, X, sh, en⟩, t⟩) := hide (by rw [HME.out, hT.out, List.take_of_length_le (by omega)])
      have HSN : Hid (SnV wr (.agg #[.int .i64 up, .int .i64 ak, .slice a11 X.length c11, .bool sh, .int .i64 en, .slice ya t.length yc]) MD) := hide (by rw [HTE.out]; exact ⟨_, _, rfl, HRX.out, HI.out.2.1, HI.out.2.2, HRT.out, HI.out.1⟩)
      have HCM := hide (HRM.out _ MD wr HSN.out)
      obtain ⟨my, hmy⟩ : ∃ my, my = decide (MayN MD) := ⟨_, rfl⟩
      rw [← hmy] at HCM
      have HMY := hide hmy
      obtain ⟨⟨o0, o1, o2, o3, o4, o5⟩, -⟩ := HB.out.box.all
      obtain ⟨-, q0, q1, q2, q3, q4, q5, q6, q7⟩ := HKA.out _ HB.out.base
      clear hmy HSN HRM hT hk hlt
      go_wp2_with fail
      refine HCM.out.mono ?_
      rintro x W14 ⟨rfl, hb14⟩
      have HB14 := hide (HB.out.more hb14)
      have HA14 := hide HB14.out.base
      have HRT14 := hide (HRT.out.below hb14 (Nat.le_refl _))
      have HRX14 := hide (HRX.out.below hb14 (Nat.le_refl _))
      clear hb14 HCM HB HRT HRX o0 o1 o2 o3 o4 o5 q0 q1 q2 q3 q4 q5 q6 q7
      cases my with
      | false =>
        have HF : Hid (DN = (zeroN, 1)) := hide (by rw [HD.out, if_neg (of_decide_eq_false HMY.out.symm)])
        obtain ⟨⟨z0, z1, z2, z3, z4, z5⟩, y0, y1, y2, y3, y4, y5⟩ := HA14.out.res.all
        obtain ⟨⟨n0, n1, n2, n3, n4, n5⟩, -⟩ := HA14.out.non.all
        go_wp2
        refine bodyPost_ret (v := .tuple #[.agg #[.int .i64 0, .int .i64 0, .slice none 0 0, .bool false, .int .i64 0, .slice none 0 0], .int .i64 1]) (by simp [results, Try.results15, go_sem, z0, z1, z2, z3, z4, z5]) rfl ?_
        exact HZR.out _ _ HA14.out.below HF.out
      | true =>
        have HF : Hid (DN = (⟨up, ⟨ak, X, sh, en⟩, t⟩, 0)) := hide (by rw [HD.out, if_pos (of_decide_eq_true HMY.out.symm), HTE.out])
        obtain ⟨⟨z0, z1, z2, z3, z4, z5⟩, y0, y1, y2, y3, y4, y5⟩ := HA14.out.res.all
        obtain ⟨⟨o0, o1, o2, o3, o4, o5⟩, -⟩ := HB14.out.box.all
        go_wp2
        refine bodyPost_ret (v := .tuple #[.agg #[.int .i64 up, .int .i64 ak, .slice a11 X.length c11, .bool sh, .int .i64 en, .slice ya t.length yc], .int .i64 0]) (by simp [results, Try.results15, go_sem, z0, z1, z2, z3, z4, z5]) rfl ?_
        rw [HF.out]
        have hbt := butSix W14 (w.heap.size + 1 + 1) (.int .i64 up) (.int .i64 ak) (.slice a11 X.length c11) (.bool sh) (.int .i64 en) (.slice ya t.length yc)
        exact ⟨_, rfl, ⟨_, _, rfl, HRX14.out.but hbt (.inr fun g hg => by have := HLX.out g hg; omega), HI.out.2.1, HI.out.2.2, HRT14.out.but hbt (HTX.out.imp id (fun h g hg => by have := h g hg; omega)), HI.out.1⟩, belowSix HA14.out.below _ (by omega) _ _ _ _ _ _⟩

end Go.Proofs.Ytgpdbboieokldaa
