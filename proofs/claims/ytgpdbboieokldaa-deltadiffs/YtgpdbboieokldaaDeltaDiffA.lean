/- Contract of delta: Diff. -/
import Derived.Test.YtgpdbboieokldaaDeltaAlike
import Derived.Test.YtgpdbboieokldaaDeltaProcs
import Derived.Test.YtgpdbboieokldaaSnapOwnA
import Derived.Test.YtgpdbboieokldaaStepCall
import Derived.Deep.RegionHeld2
namespace Go.Proofs.Ytgpdbboieokldaa
open Go.RowKit

theorem diffD_bad {a b : Snap} (h : ¬ MayN a ∨ ¬ MayN b ∨ a.st.kind ≠ b.st.kind) : diffD a b = (zeroD, 1) := by unfold diffD; rw [if_pos h]

theorem diffD_gap {a b : Snap} (h1 : MayN a) (h2 : MayN b) (h3 : a.st.kind = b.st.kind) (h : b.idx < a.idx ∨ ¬ Covers a.tab b.tab) : diffD a b = (zeroD, 15) := by
  unfold diffD
  rw [if_neg (by rintro (h | h | h) <;> first | exact h h1 | exact h h2 | exact h h3), if_pos h]

theorem diffD_ok {a b : Snap} (h1 : MayN a) (h2 : MayN b) (h3 : a.st.kind = b.st.kind) (h4 : ¬ b.idx < a.idx) (h5 : Covers a.tab b.tab) :
    diffD a b = (⟨a.idx, b.idx, (preL a.st.L b.st.L : Nat), (sufL a.st.L b.st.L : Nat), midL a.st.L b.st.L, b.st.shut, b.st.eng, diffT a.tab b.tab⟩, 0) := by
  unfold diffD
  rw [if_neg (by rintro (h | h | h) <;> first | exact h h1 | exact h h2 | exact h h3), if_neg (by rintro (h | h) <;> first | exact h4 h | exact h h5)]

theorem midL_i64 {a b : List Int} (h : ∀ n ∈ b, I64 n) : ∀ n ∈ midL a b, I64 n := fun n hn => h n (List.mem_of_mem_drop (List.mem_of_mem_take hn))

theorem diffT_i {a b : List Ent} (h : ∀ e ∈ b, EntI e) : ∀ e ∈ diffT a b, EntI e := fun e he => h e (List.mem_filter.1 he).1

theorem RdE.i {w : World} {v : Value} {l : List Ent} (h : RdE w v l) : ∀ e ∈ l, EntI e := by
  obtain ⟨_, _, _, _, _, _, hw, _⟩ := h
  exact hw

theorem RdI.cap {w : World} {ao : Option Addr} {n cap : Nat} {l : List Int} (h : RdI w (.slice ao n cap) l) : l.length ≤ cap := by
  obtain ⟨ao', cap', hv, h1, _⟩ := h
  simp only [Value.slice.injEq] at hv
  omega

set_option maxRecDepth 100000 in
set_option maxHeartbeats 8000000 in
theorem diff_any (va : Value) (a : Snap) (vb : Value) (b : Snap) (w : World) (ha : SnV w va a) (hb : SnV w vb b) :
    Calls Try.prog 10 #[va, vb] w fun e w' => GivenD w (diffD a b) e w' := by
  have HMA : Hid (∀ W, Below w.heap.size w W → Calls Try.prog 21 #[va] W fun e w' => e = .returned (.bool (decide (MayN a))) ∧ Below W.heap.size W w') := hide (fun W h => mayN_any va a W (ha.below h (Nat.le_refl _)))
  have HMB : Hid (∀ W, Below w.heap.size w W → Calls Try.prog 21 #[vb] W fun e w' => e = .returned (.bool (decide (MayN b))) ∧ Below W.heap.size W w') := hide (fun W h => mayN_any vb b W (hb.below h (Nat.le_refl _)))
  obtain ⟨vl, vt, rfl, hl, hk, he, ht, hi⟩ := ha
  obtain ⟨vl', vt', rfl, hl', hk', he', ht', hi'⟩ := hb
  have HPR : Hid (∀ W, Below w.heap.size w W → Calls Try.prog 24 #[vt', vt] W fun e w' => e = .returned (.bool (decide (Covers a.tab b.tab))) ∧ Below W.heap.size W w') := hide (fun W h => hasProcs_any vt' b.tab vt a.tab W (ht'.below h (Nat.le_refl _)) (ht.below h (Nat.le_refl _)))
  have HAH : Hid (∀ W, Below w.heap.size w W → Calls Try.prog 25 #[vl, vl'] W fun e w' => e = .returned (.int .i64 ((preL a.st.L b.st.L : Nat) : Int)) ∧ Below W.heap.size W w') := hide (fun W h => alikeAhead_any vl a.st.L vl' b.st.L W (hl.below h (Nat.le_refl _)) (hl'.below h (Nat.le_refl _)))
  have HNE : Hid (∀ W, b.tab.length ≤ 1000000 → Below w.heap.size w W → Calls Try.prog 28 #[vt, vt'] W fun e w' => ∃ v', e = .returned v' ∧ OwnE w' W.heap.size v' (diffT a.tab b.tab) ∧ Below W.heap.size W w') := hide (fun W h0 h => newEntries_any vt a.tab vt' b.tab W (ht.below h (Nat.le_refl _)) (ht'.below h (Nat.le_refl _)) h0)
  have HLI := hide (midL_i64 (a := a.st.L) hl'.i64)
  have HTI := hide (diffT_i (a := a.tab) ht'.i)
  obtain ⟨la, lc, e1⟩ := hl.shape
  obtain ⟨la', lc', e2⟩ := hl'.shape
  obtain ⟨ta, tc, e3⟩ := ht.shape
  obtain ⟨ta', tc', e4⟩ := ht'.shape
  subst e1 e2 e3 e4
  have HLA := hide hl
  have HLB := hide hl'
  have HI := hide (And.intro hi (And.intro hi' he'))
  obtain ⟨W0, hW0⟩ : ∃ W0, W0 = ((w.alloc (.cells #[.int .i64 a.idx, .int .i64 a.st.kind, .slice la a.st.L.length lc, .bool a.st.shut, .int .i64 a.st.eng, .slice ta a.tab.length tc] 27)).alloc (.cells #[.int .i64 b.idx, .int .i64 b.st.kind, .slice la' b.st.L.length lc', .bool b.st.shut, .int .i64 b.st.eng, .slice ta' b.tab.length tc'] 27)).alloc (.cells #[.int .i64 0, .int .i64 0, .int .i64 0, .int .i64 0, .slice none 0 0, .bool false, .int .i64 0, .slice none 0 0] 31) := ⟨_, rfl⟩
  have h3 := new_three w (.cells #[.int .i64 a.idx, .int .i64 a.st.kind, .slice la a.st.L.length lc, .bool a.st.shut, .int .i64 a.st.eng, .slice ta a.tab.length tc] 27) (.cells #[.int .i64 b.idx, .int .i64 b.st.kind, .slice la' b.st.L.length lc', .bool b.st.shut, .int .i64 b.st.eng, .slice ta' b.tab.length tc'] 27) (.cells #[.int .i64 0, .int .i64 0, .int .i64 0, .int .i64 0, .slice none 0 0, .bool false, .int .i64 0, .slice none 0 0] 31)
  rw [← hW0] at h3
  obtain ⟨hA, hB, hC⟩ := h3
  have HB0 : Hid (Below w.heap.size w W0) := hide (by rw [hW0]; exact below_three w _ _ _)
  have HX0 : Hid (Bn W0 w.heap.size #[.int .i64 a.idx, .int .i64 a.st.kind, .slice la a.st.L.length lc, .bool a.st.shut, .int .i64 a.st.eng, .slice ta a.tab.length tc]) := hide hA
  have HY0 : Hid (Bn W0 (w.heap.size + 1) #[.int .i64 b.idx, .int .i64 b.st.kind, .slice la' b.st.L.length lc', .bool b.st.shut, .int .i64 b.st.eng, .slice ta' b.tab.length tc']) := hide hB
  have HZ0 : Hid (Bd W0 (w.heap.size + 1 + 1) #[.int .i64 0, .int .i64 0, .int .i64 0, .int .i64 0, .slice none 0 0, .bool false, .int .i64 0, .slice none 0 0]) := hide hC
  have HW0 := hide hW0
  have HBAD := hide (diffD_bad (a := a) (b := b))
  have HGAP := hide (diffD_gap (a := a) (b := b))
  have HOK := hide (diffD_ok (a := a) (b := b))
  have HFEW : Hid (MayN b → b.st.L.length ≤ 128 ∧ b.tab.length ≤ 65) := hide (fun h => ⟨(nums_in h.2.1).1, tabOk_few h.2.2⟩)
  obtain ⟨DN, hDN⟩ : ∃ DN, DN = diffD a b := ⟨_, rfl⟩
  rw [← hDN] at HBAD HGAP HOK ⊢
  have HZR : Hid (∀ (W : World) (n : Int), Below w.heap.size w W → DN = (zeroD, n) → GivenD w DN (.returned (.tuple #[.agg #[.int .i64 0, .int .i64 0, .int .i64 0, .int .i64 0, .slice none 0 0, .bool false, .int .i64 0, .slice none 0 0], .int .i64 n])) ((((((((W.setCell ⟨w.heap.size + 1 + 1, 0, none⟩ (.int .i64 0)).setCell ⟨w.heap.size + 1 + 1, 1, none⟩ (.int .i64 0)).setCell ⟨w.heap.size + 1 + 1, 2, none⟩ (.int .i64 0)).setCell ⟨w.heap.size + 1 + 1, 3, none⟩ (.int .i64 0)).setCell ⟨w.heap.size + 1 + 1, 4, none⟩ (.slice none 0 0)).setCell ⟨w.heap.size + 1 + 1, 5, none⟩ (.bool false)).setCell ⟨w.heap.size + 1 + 1, 6, none⟩ (.int .i64 0)).setCell ⟨w.heap.size + 1 + 1, 7, none⟩ (.slice none 0 0))) := hide (fun W n h e => by
    rw [e]
    exact GivenD.zero _ (belowEightE h _ (by omega) _ _ _ _ _ _ _ _))
  obtain ⟨m1, hm1⟩ : ∃ m, m = decide (MayN a) := ⟨_, rfl⟩
  obtain ⟨m2, hm2⟩ : ∃ m, m = decide (MayN b) := ⟨_, rfl⟩
  obtain ⟨m3, hm3⟩ : ∃ m, m = decide (Covers a.tab b.tab) := ⟨_, rfl⟩
  rw [← hm1] at HMA
  rw [← hm2] at HMB
  rw [← hm3] at HPR
  have HM1 := hide hm1
  have HM2 := hide hm2
  have HM3 := hide hm3
  clear hm1 hm2 hm3 hDN hA hB hC hW0 hl hl' ht ht' hk hk' he he' hi hi'
  obtain ⟨ai, ⟨ak, aL, ash, ae⟩, aT⟩ := a
  obtain ⟨bi, ⟨bk, bL, bsh, be⟩, bT⟩ := b
  dsimp only at *
  obtain ⟨⟨p0, p1, p2, p3, p4, p5⟩, -⟩ := HX0.out.all
  go_enter Try.func10, Try.ntmps10
  go_upto_region 1 with fail
  rw [← HW0.out]
  clear HW0
  go_wp2_with fail
  refine (HMA.out _ HB0.out).mono ?_
  rintro x W1 ⟨rfl, hb1⟩
  have HX1 := hide (HX0.out.below hb1 (Nat.le_refl _))
  have HY1 := hide (HY0.out.below hb1 (Nat.le_refl _))
  have HZ1 := hide (HZ0.out.below hb1 (Nat.le_refl _))
  have HB1 := hide (HB0.out.trans (hb1.mono HB0.out.size))
  clear hb1 HMA HX0 HY0 HZ0 HB0 p0 p1 p2 p3 p4 p5
  cases m1 with
  | false =>
    have HF : Hid (DN = (zeroD, 1)) := hide (HBAD.out (.inl (of_decide_eq_false HM1.out.symm)))
    obtain ⟨⟨z0, z1, z2, z3, z4, z5, z6, z7⟩, y0, y1, y2, y3, y4, y5, y6, y7⟩ := HZ1.out.all
    go_wp2
    refine bodyPost_ret (v := .tuple #[.agg #[.int .i64 0, .int .i64 0, .int .i64 0, .int .i64 0, .slice none 0 0, .bool false, .int .i64 0, .slice none 0 0], .int .i64 1]) (by simp [results, Try.results10, go_sem, z0, z1, z2, z3, z4, z5, z6, z7]) rfl ?_
    exact HZR.out _ _ HB1.out HF.out
  | true =>
  obtain ⟨⟨p0, p1, p2, p3, p4, p5⟩, -⟩ := HY1.out.all
  go_wp2_with fail
  refine (HMB.out _ HB1.out).mono ?_
  rintro x W2 ⟨rfl, hb2⟩
  have HX2 := hide (HX1.out.below hb2 (Nat.le_refl _))
  have HY2 := hide (HY1.out.below hb2 (Nat.le_refl _))
  have HZ2 := hide (HZ1.out.below hb2 (Nat.le_refl _))
  have HB2 := hide (HB1.out.trans (hb2.mono HB1.out.size))
  clear hb2 HMB HX1 HY1 HZ1 HB1 p0 p1 p2 p3 p4 p5
  cases m2 with
  | false =>
    have HF : Hid (DN = (zeroD, 1)) := hide (HBAD.out (.inr (.inl (of_decide_eq_false HM2.out.symm))))
    obtain ⟨⟨z0, z1, z2, z3, z4, z5, z6, z7⟩, y0, y1, y2, y3, y4, y5, y6, y7⟩ := HZ2.out.all
    go_wp2
    refine bodyPost_ret (v := .tuple #[.agg #[.int .i64 0, .int .i64 0, .int .i64 0, .int .i64 0, .slice none 0 0, .bool false, .int .i64 0, .slice none 0 0], .int .i64 1]) (by simp [results, Try.results10, go_sem, z0, z1, z2, z3, z4, z5, z6, z7]) rfl ?_
    exact HZR.out _ _ HB2.out HF.out
  | true =>
  obtain ⟨⟨p0, p1, p2, p3, p4, p5⟩, -⟩ := HX2.out.all
  obtain ⟨⟨q0, q1, q2, q3, q4, q5⟩, -⟩ := HY2.out.all
  by_cases hkk : ak = bk
  case neg =>
    have HF : Hid (DN = (zeroD, 1)) := hide (HBAD.out (.inr (.inr hkk)))
    have hkd : (ak != bk) = true := by rw [bne_iff_ne]; exact hkk
    obtain ⟨⟨z0, z1, z2, z3, z4, z5, z6, z7⟩, y0, y1, y2, y3, y4, y5, y6, y7⟩ := HZ2.out.all
    clear hkk
    go_wp2
    refine bodyPost_ret (v := .tuple #[.agg #[.int .i64 0, .int .i64 0, .int .i64 0, .int .i64 0, .slice none 0 0, .bool false, .int .i64 0, .slice none 0 0], .int .i64 1]) (by simp [results, Try.results10, go_sem, z0, z1, z2, z3, z4, z5, z6, z7]) rfl ?_
    exact HZR.out _ _ HB2.out HF.out
  have hkd : (ak != bk) = false := by rw [bne_eq_false_iff_eq]; exact hkk
  have HGAP2 := hide (HGAP.out (of_decide_eq_true HM1.out.symm) (of_decide_eq_true HM2.out.symm) hkk)
  have HOK2 := hide (HOK.out (of_decide_eq_true HM1.out.symm) (of_decide_eq_true HM2.out.symm) hkk)
  obtain ⟨hL128, hT65⟩ := HFEW.out (of_decide_eq_true HM2.out.symm)
  clear hkk HBAD HGAP HOK HFEW HM1 HM2
  by_cases hidx : bi < ai
  case pos =>
    have HF : Hid (DN = (zeroD, 15)) := hide (HGAP2.out (.inl hidx))
    obtain ⟨⟨z0, z1, z2, z3, z4, z5, z6, z7⟩, y0, y1, y2, y3, y4, y5, y6, y7⟩ := HZ2.out.all
    go_wp2
    refine bodyPost_ret (v := .tuple #[.agg #[.int .i64 0, .int .i64 0, .int .i64 0, .int .i64 0, .slice none 0 0, .bool false, .int .i64 0, .slice none 0 0], .int .i64 15]) (by simp [results, Try.results10, go_sem, z0, z1, z2, z3, z4, z5, z6, z7]) rfl ?_
    exact HZR.out _ _ HB2.out HF.out
  go_wp2_with fail
  refine (HPR.out _ HB2.out).mono ?_
  rintro x W3 ⟨rfl, hb3⟩
  have HX3 := hide (HX2.out.below hb3 (Nat.le_refl _))
  have HY3 := hide (HY2.out.below hb3 (Nat.le_refl _))
  have HZ3 := hide (HZ2.out.below hb3 (Nat.le_refl _))
  have HB3 := hide (HB2.out.trans (hb3.mono HB2.out.size))
  clear hb3 HPR HX2 HY2 HZ2 HB2 p0 p1 p2 p3 p4 p5 q0 q1 q2 q3 q4 q5
  cases m3 with
  | false =>
    have HF : Hid (DN = (zeroD, 15)) := hide (HGAP2.out (.inr (of_decide_eq_false HM3.out.symm)))
    obtain ⟨⟨z0, z1, z2, z3, z4, z5, z6, z7⟩, y0, y1, y2, y3, y4, y5, y6, y7⟩ := HZ3.out.all
    go_wp2
    refine bodyPost_ret (v := .tuple #[.agg #[.int .i64 0, .int .i64 0, .int .i64 0, .int .i64 0, .slice none 0 0, .bool false, .int .i64 0, .slice none 0 0], .int .i64 15]) (by simp [results, Try.results10, go_sem, z0, z1, z2, z3, z4, z5, z6, z7]) rfl ?_
    exact HZR.out _ _ HB3.out HF.out
  | true =>
  have HF := hide (HOK2.out hidx (of_decide_eq_true HM3.out.symm))
  have hsl := sufL_le aL bL
  have hpa : preL aL bL ≤ aL.length := by omega
  have hpb : preL aL bL ≤ bL.length := by omega
  obtain ⟨LA, hLA⟩ : ∃ LA, LA = aL.drop (preL aL bL) := ⟨_, rfl⟩
  obtain ⟨LB, hLB⟩ : ∃ LB, LB = bL.drop (preL aL bL) := ⟨_, rfl⟩
  obtain ⟨M, hM⟩ : ∃ M, M = midL aL bL := ⟨_, rfl⟩
  obtain ⟨xa, xc, hcutA, -, hrdA⟩ := cutI_from la aL lc HLA.out.cap (preL aL bL) hpa LA hLA
  obtain ⟨xb, xd, hcutB, hcapB, hrdB⟩ := cutI_from la' bL lc' HLB.out.cap (preL aL bL) hpb LB hLB
  have hMt : M = LB.take (LB.length - sufL aL bL) := by rw [hM, hLB]; rfl
  have hLBl : LB.length = bL.length - preL aL bL := by rw [hLB, List.length_drop]
  have hMl : M.length = LB.length - sufL aL bL := by rw [hMt, List.length_take]; omega
  obtain ⟨xm, xe, hcutM, hrdM⟩ := cutI_upto xb LB xd hcapB M.length (by omega) M (by rw [hMl]; exact hMt)
  have HRM : Hid (∀ W, Below w.heap.size w W → RdI W (.slice xm M.length xe) M) := hide (fun W h => hrdM W (hrdB W (HLB.out.below h (Nat.le_refl _))))
  have HBH : Hid (∀ W, Below w.heap.size w W → Calls Try.prog 26 #[.slice xa LA.length xc, .slice xb LB.length xd] W fun e w' => e = .returned (.int .i64 ((sufL aL bL : Nat) : Int)) ∧ Below W.heap.size W w') := hide (fun W h => by
    have h2 := alikeBehind_any (.slice xa LA.length xc) LA (.slice xb LB.length xd) LB W (hrdA W (HLA.out.below h (Nat.le_refl _))) (hrdB W (HLB.out.below h (Nat.le_refl _)))
    rw [hLA, hLB] at h2 ⊢
    exact h2)
  have HCL : Hid (∀ W, Below w.heap.size w W → Calls Try.prog 27 #[.slice xm M.length xe] W fun e w' => ∃ v', e = .returned v' ∧ OwnI w' W.heap.size v' M ∧ Below W.heap.size W w') := hide (fun W h => cloneI_any _ M W (HRM.out W h) (by omega))
  have HNE2 : Hid (∀ W, Below w.heap.size w W → Calls Try.prog 28 #[.slice ta aT.length tc, .slice ta' bT.length tc'] W fun e w' => ∃ v', e = .returned v' ∧ OwnE w' W.heap.size v' (diffT aT bT) ∧ Below W.heap.size W w') := hide (fun W h => HNE.out W (by omega) h)
  have hwr : IntKind.i64.wrap ((LB.length : Int) - ((sufL aL bL : Nat) : Int)) = (M.length : Int) := by rw [i64wrap_in _ (by omega) (by omega)]; omega
  have hDI : DelI ⟨ai, bi, (preL aL bL : Nat), (sufL aL bL : Nat), M, bsh, be, diffT aT bT⟩ := ⟨HI.out.1, HI.out.2.1, i64_small (by show (_ : Int) ≤ ((preL aL bL : Nat) : Int); omega) (by show ((preL aL bL : Nat) : Int) ≤ _; omega), i64_small (by show (_ : Int) ≤ ((sufL aL bL : Nat) : Int); omega) (by show ((sufL aL bL : Nat) : Int) ≤ _; omega), HI.out.2.2⟩
  have HDI := hide hDI
  rw [← hM] at HF HLI
  clear hDI hMt hLBl hMl hM hLA hLB hrdA hrdB hrdM hcapB HLA HLB HNE HOK2 HGAP2 HM3 HI hsl hpa hpb
  generalize preL aL bL = PL at *
  generalize sufL aL bL = SL at *
  generalize diffT aT bT = DT at *
  obtain ⟨⟨p0, p1, p2, p3, p4, p5⟩, -⟩ := HX3.out.all
  obtain ⟨⟨q0, q1, q2, q3, q4, q5⟩, -⟩ := HY3.out.all
  go_wp2_with fail
  refine (HAH.out _ HB3.out).mono ?_
  rintro x W4 ⟨rfl, hb4⟩
  have HX4 := hide (HX3.out.below hb4 (Nat.le_refl _))
  have HY4 := hide (HY3.out.below hb4 (Nat.le_refl _))
  have HZ4 := hide (HZ3.out.below hb4 (Nat.le_refl _))
  have HB4 := hide (HB3.out.trans (hb4.mono HB3.out.size))
  clear hb4 HAH HX3 HY3 HZ3 HB3 p0 p1 p2 p3 p4 p5 q0 q1 q2 q3 q4 q5
  obtain ⟨⟨p0, p1, p2, p3, p4, p5⟩, -⟩ := HX4.out.all
  obtain ⟨⟨q0, q1, q2, q3, q4, q5⟩, -⟩ := HY4.out.all
  go_wp2_with fail
  refine (HBH.out _ HB4.out).mono ?_
  rintro x W5 ⟨rfl, hb5⟩
  have HX5 := hide (HX4.out.below hb5 (Nat.le_refl _))
  have HY5 := hide (HY4.out.below hb5 (Nat.le_refl _))
  have HZ5 := hide (HZ4.out.below hb5 (Nat.le_refl _))
  have HB5 := hide (HB4.out.trans (hb5.mono HB4.out.size))
  clear hb5 HBH HX4 HY4 HZ4 HB4 p0 p1 p2 p3 p4 p5 q0 q1 q2 q3 q4 q5 hcutA
  have HK : Hid (∀ W, Below W5.heap.size W5 W → W.cell? ⟨w.heap.size, 0, none⟩ = some (.int .i64 ai) ∧ W.cell? ⟨w.heap.size, 5, none⟩ = some (.slice ta aT.length tc) ∧ W.cell? ⟨w.heap.size + 1, 0, none⟩ = some (.int .i64 bi) ∧ W.cell? ⟨w.heap.size + 1, 3, none⟩ = some (.bool bsh) ∧ W.cell? ⟨w.heap.size + 1, 4, none⟩ = some (.int .i64 be) ∧ W.cell? ⟨w.heap.size + 1, 5, none⟩ = some (.slice ta' bT.length tc')) := hide (fun W h => by
    have h1 := (HX5.out.below h (Nat.le_refl _)).all.1
    have h2 := (HY5.out.below h (Nat.le_refl _)).all.1
    exact ⟨h1.1, h1.2.2.2.2.2, h2.1, h2.2.2.2.1, h2.2.2.2.2.1, h2.2.2.2.2.2⟩)
  have HK2 : Hid (∀ (W : World) (x0 x1 x2 x3 x4 x5 x6 x7 : Value), Below W5.heap.size W5 W → (fun w' : World => w'.cell? ⟨w.heap.size, 0, none⟩ = some (.int .i64 ai) ∧ w'.cell? ⟨w.heap.size, 5, none⟩ = some (.slice ta aT.length tc) ∧ w'.cell? ⟨w.heap.size + 1, 0, none⟩ = some (.int .i64 bi) ∧ w'.cell? ⟨w.heap.size + 1, 3, none⟩ = some (.bool bsh) ∧ w'.cell? ⟨w.heap.size + 1, 4, none⟩ = some (.int .i64 be) ∧ w'.cell? ⟨w.heap.size + 1, 5, none⟩ = some (.slice ta' bT.length tc')) ((((((((W.setCell ⟨w.heap.size + 1 + 1, 0, none⟩ x0).setCell ⟨w.heap.size + 1 + 1, 1, none⟩ x1).setCell ⟨w.heap.size + 1 + 1, 2, none⟩ x2).setCell ⟨w.heap.size + 1 + 1, 3, none⟩ x3).setCell ⟨w.heap.size + 1 + 1, 4, none⟩ x4).setCell ⟨w.heap.size + 1 + 1, 5, none⟩ x5).setCell ⟨w.heap.size + 1 + 1, 6, none⟩ x6).setCell ⟨w.heap.size + 1 + 1, 7, none⟩ x7)) := hide (fun W x0 x1 x2 x3 x4 x5 x6 x7 h => by
    have hb := butEight W (w.heap.size + 1 + 1) x0 x1 x2 x3 x4 x5 x6 x7
    have hx := HX5.out.below h (Nat.le_refl _)
    have hy := HY5.out.below h (Nat.le_refl _)
    have h1 : Bn (eight W (w.heap.size + 1 + 1) x0 x1 x2 x3 x4 x5 x6 x7) w.heap.size _ := (hb.block w.heap.size hx.lt (by omega) (by omega)).trans hx
    have h2 : Bn (eight W (w.heap.size + 1 + 1) x0 x1 x2 x3 x4 x5 x6 x7) (w.heap.size + 1) _ := (hb.block (w.heap.size + 1) hy.lt (by omega) (by omega)).trans hy
    have h1 := h1.all.1
    have h2 := h2.all.1
    exact ⟨h1.1, h1.2.2.2.2.2, h2.1, h2.2.2.2.1, h2.2.2.2.2.1, h2.2.2.2.2.2⟩)
  have HZK : Hid (∀ W, Below W5.heap.size W5 W → Bd W (w.heap.size + 1 + 1) #[.int .i64 0, .int .i64 0, .int .i64 0, .int .i64 0, .slice none 0 0, .bool false, .int .i64 0, .slice none 0 0]) := hide (fun W h => HZ5.out.below h (Nat.le_refl _))
  have HS0 : Hid (Below W5.heap.size W5 W5.drew) := hide ((Below.refl _ _).drew)
  have HW : Hid (∀ W, Below W5.heap.size W5 W → Below w.heap.size w W) := hide (fun W h => HB5.out.trans (h.mono HB5.out.size))
  have hZlt := HZ5.out.lt
  have HE1 : Hid (∀ args w, (callFunc 27 args).run Try.prog w = .ok (.enter 27 args) w) := hide (enters_of Try.func27 (by kernel_rfl) rfl)
  have HE2 : Hid (∀ args w, (callFunc 28 args).run Try.prog w = .ok (.enter 28 args) w) := hide (enters_of Try.func28 (by kernel_rfl) rfl)
  go_upto_region 8 with fail
  go_region_held2 (fun w' => w'.cell? ⟨w.heap.size, 0, none⟩ = some (.int .i64 ai) ∧ w'.cell? ⟨w.heap.size, 5, none⟩ = some (.slice ta aT.length tc) ∧ w'.cell? ⟨w.heap.size + 1, 0, none⟩ = some (.int .i64 bi) ∧ w'.cell? ⟨w.heap.size + 1, 3, none⟩ = some (.bool bsh) ∧ w'.cell? ⟨w.heap.size + 1, 4, none⟩ = some (.int .i64 be) ∧ w'.cell? ⟨w.heap.size + 1, 5, none⟩ = some (.slice ta' bT.length tc'))
    (first | (with_reducible exact HK.out _ HS0.out) | (with_reducible exact HK.out _ hbk2) | (with_reducible exact HK.out _ hbk1) | (exact HK2.out W7 _ _ _ _ _ _ _ _ hbk2))
    (first
      | ((with_reducible refine step_call 27 _ _ rfl rfl #[.slice xm M.length xe] (by simp [Act.eval]) HE1.out (HCL.out W5.drew (HW.out _ HS0.out)) ?_); rintro v1 W6 ⟨ho1, hb1⟩; have hbk1 : Below W5.heap.size W5 W6 := HS0.out.trans hb1; have HO6 := hide (ho1.rd HLI.out); have HF6 := hide (show ∀ k, v1.ownBlock = some k → w.heap.size + 1 + 1 < k from fun k hk => Nat.lt_of_lt_of_le hZlt (ho1.fresh k hk)); obtain ⟨a1, c1, hv⟩ := ho1.shape; subst hv; clear ho1 hb1)
      | ((with_reducible refine step_call 28 _ _ rfl rfl #[.slice ta aT.length tc, .slice ta' bT.length tc'] (by simp [Act.eval]) HE2.out (HNE2.out W6 (HW.out _ hbk1)) ?_); rintro v2 W7 ⟨ho2, hb2⟩; have hbk2 : Below W5.heap.size W5 W7 := hbk1.trans (hb2.mono hbk1.size); have HP7 := hide (HO6.out.below hb2 (Nat.le_refl _)); have HQ7 := hide (ho2.rd HTI.out); have HG7 := hide (show ∀ k, v2.ownBlock = some k → w.heap.size + 1 + 1 < k from fun k hk => Nat.lt_of_lt_of_le hZlt (Nat.le_trans hbk1.size (ho2.fresh k hk))); obtain ⟨a2, c2, hv⟩ := ho2.shape; subst hv; obtain ⟨⟨z0, z1, z2, z3, z4, z5, z6, z7⟩, y0, y1, y2, y3, y4, y5, y6, y7⟩ := (HZK.out _ hbk2).all; clear ho2 hb2)
      | ((with_reducible refine step_call 28 _ _ rfl rfl #[.slice ta aT.length tc, .slice ta' bT.length tc'] (by simp [Act.eval]) HE2.out (HNE2.out W5.drew (HW.out _ HS0.out)) ?_); rintro v2 W6 ⟨ho2, hb2⟩; have hbk1 : Below W5.heap.size W5 W6 := HS0.out.trans hb2; have HQ6 := hide (ho2.rd HTI.out); have HG7 := hide (show ∀ k, v2.ownBlock = some k → w.heap.size + 1 + 1 < k from fun k hk => Nat.lt_of_lt_of_le hZlt (ho2.fresh k hk)); obtain ⟨a2, c2, hv⟩ := ho2.shape; subst hv; clear ho2 hb2)
      | ((with_reducible refine step_call 27 _ _ rfl rfl #[.slice xm M.length xe] (by simp [Act.eval]) HE1.out (HCL.out W6 (HW.out _ hbk1)) ?_); rintro v1 W7 ⟨ho1, hb1⟩; have hbk2 : Below W5.heap.size W5 W7 := hbk1.trans (hb1.mono hbk1.size); have HP7 := hide (ho1.rd HLI.out); have HQ7 := hide (HQ6.out.below hb1 (Nat.le_refl _)); have HF6 := hide (show ∀ k, v1.ownBlock = some k → w.heap.size + 1 + 1 < k from fun k hk => Nat.lt_of_lt_of_le hZlt (Nat.le_trans hbk1.size (ho1.fresh k hk))); obtain ⟨a1, c1, hv⟩ := ho1.shape; subst hv; obtain ⟨⟨z0, z1, z2, z3, z4, z5, z6, z7⟩, y0, y1, y2, y3, y4, y5, y6, y7⟩ := (HZK.out _ hbk2).all; clear ho1 hb1))
  all_goals
    go_wp2
    refine bodyPost_ret (v := .tuple #[.agg #[.int .i64 ai, .int .i64 bi, .int .i64 (PL : Int), .int .i64 (SL : Int), .slice a1 M.length c1, .bool bsh, .int .i64 be, .slice a2 DT.length c2], .int .i64 0]) (by simp [results, Try.results10, go_sem, z0, z1, z2, z3, z4, z5, z6, z7]) rfl ?_
    rw [HF.out]
    have hbt := butEight W7 (w.heap.size + 1 + 1) (.int .i64 ai) (.int .i64 bi) (.int .i64 (PL : Int)) (.int .i64 (SL : Int)) (.slice a1 M.length c1) (.bool bsh) (.int .i64 be) (.slice a2 DT.length c2)
    exact ⟨_, _, rfl, HP7.out.but hbt (.inr fun k hk => by have := HF6.out k hk; omega), HQ7.out.but hbt (.inr fun k hk => by have := HG7.out k hk; omega), HDI.out, (fun k hk => by have := HF6.out k hk; omega), (fun k hk => by have := HG7.out k hk; omega), belowEight (HW.out _ hbk2) _ (by omega) _ _ _ _ _ _ _ _⟩

end Go.Proofs.Ytgpdbboieokldaa
