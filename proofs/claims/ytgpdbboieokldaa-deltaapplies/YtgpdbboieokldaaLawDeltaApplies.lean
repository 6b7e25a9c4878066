/- Proved: for all inputs the law DeltaApplies answers true (and the call leaves all older memory as it was). No condition. -/
import Derived.Test.YtgpdbboieokldaaDeltaTwo
import Derived.Test.YtgpdbboieokldaaOpenDelta
import Derived.Test.YtgpdbboieokldaaOpenSnap
import Derived.Test.YtgpdbboieokldaaRef10J
import Derived.Test.YtgpdbboieokldaaRef10S
import Derived.OpenShut
import Derived.ChangeOld
namespace Go.Proofs.Ytgpdbboieokldaa.deltaApplies
open Go.ChangeShapes Go.WideShapes Go.ChangeAt Go.RowKit

set_option maxRecDepth 100000 in
set_option maxHeartbeats 8000000 in
theorem walk (va : Value) (a : Snap) (vd : Value) (d : Delt) (w : World) (ha : SnV w va a) (hd : DlV w vd d) :
    Calls Try.prog 4 #[va, vd] w fun e w' => e = .returned (.bool true) ∧ Below w.heap.size w w' := by
  have HFA : Hid (∀ W, Below w.heap.size w W → Calls Try.prog 9 #[va] W fun e w' => e = .returned (.bool (decide (a.st.L.length ≤ 300 ∧ a.tab.length ≤ 100))) ∧ Below W.heap.size W w') := hide (fun W h => fewN_any va a W (ha.below h (Nat.le_refl _)))
  have HFD : Hid (∀ W, Below w.heap.size w W → Calls Try.prog 13 #[vd] W fun e w' => e = .returned (.bool (fewL d)) ∧ Below W.heap.size W w') := hide (fun W h => few10_any vd d W (hd.below h (Nat.le_refl _)))
  have HAP : Hid (∀ W v, d.mid.length ≤ 300 → SnV W v a → Below w.heap.size w W → Calls Try.prog 14 #[v, vd] W fun e w' => DecodedN W (applyD a d) e w') := hide (fun W v h1 h2 h => apply_any v a vd d W h2 (hd.below h (Nat.le_refl _)) (by omega))
  have HRP : Hid (∀ W, d.mid.length ≤ 300 → d.tab.length ≤ 100 → Below w.heap.size w W → Calls Try.prog 15 #[va, vd] W fun e w' => GivenN W (applyD a d) e w') := hide (fun W h1 h2 h => refApply_any va a vd d W (ha.below h (Nat.le_refl _)) (hd.below h (Nat.le_refl _)) (by omega) (by omega))
  have HVA : Hid (∀ W, Below w.heap.size w W → SnV W va a) := hide (fun W h => ha.below h (Nat.le_refl _))
  have HSM : Hid (∀ va vb s W, SnV W va s → SnV W vb s → Calls Try.prog 16 #[va, vb] W fun e w' => e = .returned (.bool true) ∧ Below W.heap.size W w') := hide (fun va vb s W h1 h2 => by
    have h := refSameN_any va s vb s W h1 h2
    rw [decide_eq_true (show SameN s s from ⟨⟨rfl, rfl, rfl, rfl⟩, rfl, rfl⟩)] at h
    exact h)
  have HAW := hide (fun W => awake10_any W)
  obtain ⟨vl, vt, rfl, hl, hk, he, ht, hi⟩ := ha
  obtain ⟨la, lc, e1⟩ := hl.shape
  obtain ⟨ta, tc, e2⟩ := ht.shape
  subst e1 e2
  have HL := hide hl
  have HT := hide ht
  have HI := hide (And.intro hi (And.intro hk he))
  obtain ⟨ma, mc, da, dc, hv, -, -⟩ := hd.shape
  subst hv
  obtain ⟨W0, hW0⟩ : ∃ W0, W0 = (w.alloc (.cells #[.int .i64 a.idx, .int .i64 a.st.kind, .slice la a.st.L.length lc, .bool a.st.shut, .int .i64 a.st.eng, .slice ta a.tab.length tc] 27)).alloc (.cells #[.int .i64 d.frm, .int .i64 d.upto, .int .i64 d.ahead, .int .i64 d.behind, .slice ma d.mid.length mc, .bool d.shut, .int .i64 d.eng, .slice da d.tab.length dc] 31) := ⟨_, rfl⟩
  have HX0 : Hid (Bn W0 w.heap.size #[.int .i64 a.idx, .int .i64 a.st.kind, .slice la a.st.L.length lc, .bool a.st.shut, .int .i64 a.st.eng, .slice ta a.tab.length tc]) := hide (by rw [hW0]; exact first_new w _ _)
  have HY0 : Hid (Bd W0 (w.heap.size + 1) #[.int .i64 d.frm, .int .i64 d.upto, .int .i64 d.ahead, .int .i64 d.behind, .slice ma d.mid.length mc, .bool d.shut, .int .i64 d.eng, .slice da d.tab.length dc]) := hide (by rw [hW0]; exact new_two w _ _)
  have HB0 : Hid (Below w.heap.size w W0) := hide (by rw [hW0]; exact below_two w _ _)
  have HW0 := hide hW0
  obtain ⟨fa, hfa⟩ : ∃ f, f = decide (a.st.L.length ≤ 300 ∧ a.tab.length ≤ 100) := ⟨_, rfl⟩
  obtain ⟨fd, hfd⟩ : ∃ f, f = fewL d := ⟨_, rfl⟩
  rw [← hfa] at HFA
  rw [← hfd] at HFD
  have HNA := hide hfa
  have HND := hide hfd
  unfold fewL at HND
  clear hW0 hfa hfd hd hl ht hk he hi
  generalize applyD a d = DN at *
  obtain ⟨N, er⟩ := DN
  obtain ⟨ai, ⟨ak, aL, ash, ae⟩, aT⟩ := a
  dsimp only at *
  go_enter Try.func4, Try.ntmps4
  go_upto_region 1 with fail
  rw [← HW0.out]
  clear HW0
  go_wp2_with fail
  refine (HAW.out _).mono ?_
  rintro e W1 ⟨rfl, hb1⟩
  have HX1 := hide (HX0.out.below hb1 (Nat.le_refl _))
  have HY1 := hide (HY0.out.below hb1 (Nat.le_refl _))
  have HB1 := hide (HB0.out.trans (hb1.mono HB0.out.size))
  clear hb1 HAW HX0 HY0 HB0
  obtain ⟨⟨p0, p1, p2, p3, p4, p5⟩, -⟩ := HX1.out.all
  go_wp2_with fail
  refine (HFA.out _ HB1.out).mono ?_
  rintro e W2 ⟨rfl, hb2⟩
  have HX2 := hide (HX1.out.below hb2 (Nat.le_refl _))
  have HY2 := hide (HY1.out.below hb2 (Nat.le_refl _))
  have HB2 := hide (HB1.out.trans (hb2.mono HB1.out.size))
  clear hb2 HFA HX1 HY1 HB1 p0 p1 p2 p3 p4 p5
  obtain ⟨⟨p0, p1, p2, p3, p4, p5, p6, p7⟩, -⟩ := HY2.out.all
  go_wp2_with fail
  refine (HFD.out _ HB2.out).mono ?_
  rintro e W3 ⟨rfl, hb3⟩
  have HX3 := hide (HX2.out.below hb3 (Nat.le_refl _))
  have HY3 := hide (HY2.out.below hb3 (Nat.le_refl _))
  have HB3 := hide (HB2.out.trans (hb3.mono HB2.out.size))
  clear hb3 HFD HX2 HY2 HB2 p0 p1 p2 p3 p4 p5 p6 p7
  cases fa with
  | false =>
    go_wp2
    go_ret
    exact ⟨rfl, HB3.out⟩
  | true =>
  cases fd with
  | false =>
    go_wp2
    go_ret
    exact ⟨rfl, HB3.out⟩
  | true =>
  obtain ⟨hfa1, hfa2⟩ := of_decide_eq_true HNA.out.symm
  obtain ⟨hfd1, hfd2⟩ := of_decide_eq_true HND.out.symm
  have HAP2 := hide (fun W v h => HAP.out W v hfd1 h)
  have HRP2 := hide (fun W h => HRP.out W hfd1 hfd2 h)
  clear HNA HND HAP HRP hfd1 hfd2
  obtain ⟨⟨p0, p1, p2, p3, p4, p5⟩, -⟩ := HX3.out.all
  obtain ⟨W4, hW4⟩ : ∃ W4, W4 = W3.alloc (.cells #[.int .i64 ai, .int .i64 ak, .slice la aL.length lc, .bool ash, .int .i64 ae, .slice ta aT.length tc] 27) := ⟨_, rfl⟩
  obtain ⟨OW, hOW⟩ : ∃ OW, OW = W3.heap.size := ⟨_, rfl⟩
  have hA4 : Below W3.heap.size W3 W4 := by rw [hW4]; exact (Below.refl _ _).alloc (Nat.le_refl _) _
  have HZ4 : Hid (Bn W4 OW #[.int .i64 ai, .int .i64 ak, .slice la aL.length lc, .bool ash, .int .i64 ae, .slice ta aT.length tc]) := hide (by rw [hW4, hOW]; exact heap_alloc_new W3 _)
  have HX4 := hide (HX3.out.below hA4 (Nat.le_refl _))
  have HY4 := hide (HY3.out.below hA4 (Nat.le_refl _))
  have HB4 := hide (HB3.out.trans (hA4.mono HB3.out.size))
  have hOX : w.heap.size + 1 < OW := by rw [hOW]; exact HY3.out.lt
  have HW4 := hide hW4
  clear hW4 hA4
  go_upto_region 7 with fail
  rw [← HW4.out, ← hOW]
  clear HW4 hOW HX3 HY3 HB3 p0 p1 p2 p3 p4 p5
  obtain ⟨⟨p0, p1, p2, p3, p4, p5⟩, -⟩ := HX4.out.all
  have hO4 : OW < W4.heap.size := HZ4.out.lt
  go_wp2_with (at_builtin; refine wpList_append_ents _ rfl _ _ rfl W4.heap.size _ [] rfl (OwnE.nil _ _) _ aT rfl (HT.out.below HB4.out (Nat.le_refl _)) (by simp; omega) (Nat.le_refl _) ?_)
  intro v5 W5 ho5 hb5
  have ho5' : OwnE W5 W4.heap.size v5 aT := by simpa using ho5
  obtain ⟨t5, c5, hv⟩ := ho5'.shape
  subst hv
  have HF5 : Hid (∀ g, (Value.slice t5 aT.length c5).ownBlock = some g → OW < g ∧ g < W5.heap.size) := hide (fun g hg => by have := World.ownsRow.lt ho5' g hg; omega)
  have HR5 := hide (ho5'.rd HT.out.i)
  have HX5 := hide (HX4.out.below hb5 (Nat.le_refl _))
  have HY5 := hide (HY4.out.below hb5 (Nat.le_refl _))
  have HZ5 := hide (HZ4.out.below hb5 (Nat.le_refl _))
  have HB5 := hide (HB4.out.trans (hb5.mono HB4.out.size))
  obtain ⟨W6, hW6⟩ : ∃ W6, W6 = W5.setCell ⟨OW, 5, none⟩ (.slice t5 aT.length c5) := ⟨_, rfl⟩
  have hs6 : W6.heap.size = W5.heap.size := by rw [hW6]; simp [World.setCell]
  have HZ6 : Hid (Bn W6 OW #[.int .i64 ai, .int .i64 ak, .slice la aL.length lc, .bool ash, .int .i64 ae, .slice t5 aT.length c5]) := hide (by rw [hW6]; exact HZ5.out.set 5 _)
  have HX6 : Hid (Bn W6 w.heap.size #[.int .i64 ai, .int .i64 ak, .slice la aL.length lc, .bool ash, .int .i64 ae, .slice ta aT.length tc]) := hide (by rw [hW6]; exact HX5.out.other _ _ (by omega))
  have HY6 : Hid (Bd W6 (w.heap.size + 1) #[.int .i64 d.frm, .int .i64 d.upto, .int .i64 d.ahead, .int .i64 d.behind, .slice ma d.mid.length mc, .bool d.shut, .int .i64 d.eng, .slice da d.tab.length dc]) := hide (by rw [hW6]; exact HY5.out.other _ _ (by omega))
  have HB6 : Hid (Below w.heap.size w W6) := hide (by rw [hW6]; exact HB5.out.setCell (show w.heap.size ≤ OW by omega) _)
  have HR6 : Hid (RdE W6 (.slice t5 aT.length c5) aT) := hide (by rw [hW6]; exact HR5.out.keepG (.inr fun g hg => Below.heap_setCell _ _ _ _ (by have h := (HF5.out g hg).1; show g ≠ OW; omega)))
  have HF6 : Hid (∀ g, (Value.slice t5 aT.length c5).ownBlock = some g → OW < g ∧ g < W6.heap.size) := hide (by rw [hs6]; exact HF5.out)
  have hO6 : OW < W6.heap.size := HZ6.out.lt
  have HW6 := hide hW6
  obtain ⟨⟨o0, o1, o2, o3, o4, o5⟩, y0, y1, y2, y3, y4, y5⟩ := HZ5.out.all
  clear hW6 hs6 ho5 ho5' hb5 HF5 HR5 HX5 HY5 HB5 HX4 HY4 HZ4 HB4 hO4 p0 p1 p2 p3 p4 p5
  go_upto_region 8 with fail
  rw [← HW6.out]
  clear HW6 HZ5 o0 o1 o2 o3 o4 o5 y0 y1 y2 y3 y4 y5
  obtain ⟨⟨p0, p1, p2, p3, p4, p5⟩, -⟩ := HX6.out.all
  go_wp2_with (at_builtin; refine wpList_append_ints _ rfl _ _ rfl W6.heap.size _ [] rfl (OwnI.nil _ _) _ aL rfl (HL.out.below HB6.out (Nat.le_refl _)) (by simp; omega) (Nat.le_refl _) ?_)
  intro v7 W7 ho7 hb7
  have ho7' : OwnI W7 W6.heap.size v7 aL := by simpa using ho7
  obtain ⟨l7, c7, hv⟩ := ho7'.shape
  subst hv
  have HF7 : Hid (∀ g, (Value.slice l7 aL.length c7).ownBlock = some g → OW < g) := hide (fun g hg => by have := World.ownsRow.lt ho7' g hg; omega)
  have HR7 := hide (ho7'.rd HL.out.i64)
  have HRT7 := hide (HR6.out.below hb7 (Nat.le_refl _))
  have HX7 := hide (HX6.out.below hb7 (Nat.le_refl _))
  have HY7 := hide (HY6.out.below hb7 (Nat.le_refl _))
  have HZ7 := hide (HZ6.out.below hb7 (Nat.le_refl _))
  have HB7 := hide (HB6.out.trans (hb7.mono HB6.out.size))
  obtain ⟨W8, hW8⟩ : ∃ W8, W8 = W7.setCell ⟨OW, 2, none⟩ (.slice l7 aL.length c7) := ⟨_, rfl⟩
  have HZ8 : Hid (Bn W8 OW #[.int .i64 ai, .int .i64 ak, .slice l7 aL.length c7, .bool ash, .int .i64 ae, .slice t5 aT.length c5]) := hide (by rw [hW8]; exact HZ7.out.set 2 _)
  have HX8 : Hid (Bn W8 w.heap.size #[.int .i64 ai, .int .i64 ak, .slice la aL.length lc, .bool ash, .int .i64 ae, .slice ta aT.length tc]) := hide (by rw [hW8]; exact HX7.out.other _ _ (by omega))
  have HY8 : Hid (Bd W8 (w.heap.size + 1) #[.int .i64 d.frm, .int .i64 d.upto, .int .i64 d.ahead, .int .i64 d.behind, .slice ma d.mid.length mc, .bool d.shut, .int .i64 d.eng, .slice da d.tab.length dc]) := hide (by rw [hW8]; exact HY7.out.other _ _ (by omega))
  have HB8 : Hid (Below w.heap.size w W8) := hide (by rw [hW8]; exact HB7.out.setCell (show w.heap.size ≤ OW by omega) _)
  have HSO : Hid (SnV W8 (.agg #[.int .i64 ai, .int .i64 ak, .slice l7 aL.length c7, .bool ash, .int .i64 ae, .slice t5 aT.length c5]) ⟨ai, ⟨ak, aL, ash, ae⟩, aT⟩) := hide (by
    rw [hW8]
    exact ⟨_, _, rfl, HR7.out.keepG (fun g hg => Below.heap_setCell _ _ _ _ (by have h := HF7.out g hg; show g ≠ OW; omega)), HI.out.2.1, HI.out.2.2, HRT7.out.keepG (.inr fun g hg => Below.heap_setCell _ _ _ _ (by have h := (HF6.out g hg).1; show g ≠ OW; omega)), HI.out.1⟩)
  have HW8 := hide hW8
  obtain ⟨⟨o0, o1, o2, o3, o4, o5⟩, y0, y1, y2, y3, y4, y5⟩ := HZ7.out.all
  clear hW8 ho7 ho7' hb7 HF7 HR7 HRT7 HX7 HY7 HB7 HX6 HY6 HZ6 HB6 HR6 HF6 hO6 HI HL HT p0 p1 p2 p3 p4 p5
  go_upto_region 9 with fail
  rw [← HW8.out]
  clear HW8 HZ7 o0 o1 o2 o3 o4 o5 y0 y1 y2 y3 y4 y5
  obtain ⟨⟨o0, o1, o2, o3, o4, o5⟩, -⟩ := HZ8.out.all
  obtain ⟨⟨q0, q1, q2, q3, q4, q5, q6, q7⟩, -⟩ := HY8.out.all
  go_wp2_with fail
  refine (HAP2.out _ _ HSO.out HB8.out).mono ?_
  rintro e W9 ⟨vl, vt, rfl, hl9, hk9, he9, ht9, hi9, -, -, hb9⟩
  dsimp only at hl9 hk9 he9 ht9 hi9 ⊢
  obtain ⟨xa, xc, hv⟩ := hl9.shape
  subst hv
  obtain ⟨xt, xe, hv⟩ := ht9.shape
  subst hv
  have HP9 : Hid (SnV W9 (.agg #[.int .i64 N.idx, .int .i64 N.st.kind, .slice xa N.st.L.length xc, .bool N.st.shut, .int .i64 N.st.eng, .slice xt N.tab.length xe]) N) := hide ⟨_, _, rfl, hl9, hk9, he9, ht9, hi9⟩
  obtain ⟨W10, hW10⟩ : ∃ W10, W10 = W9.alloc (.cells #[.int .i64 N.idx, .int .i64 N.st.kind, .slice xa N.st.L.length xc, .bool N.st.shut, .int .i64 N.st.eng, .slice xt N.tab.length xe] 27) := ⟨_, rfl⟩
  obtain ⟨QX, hQX⟩ : ∃ QX, QX = W9.heap.size := ⟨_, rfl⟩
  have hA10 : Below W9.heap.size W9 W10 := by rw [hW10]; exact (Below.refl _ _).alloc (Nat.le_refl _) _
  have hA810 : Below W8.heap.size W8 W10 := hb9.trans (hA10.mono hb9.size)
  have HQ10 : Hid (Bn W10 QX #[.int .i64 N.idx, .int .i64 N.st.kind, .slice xa N.st.L.length xc, .bool N.st.shut, .int .i64 N.st.eng, .slice xt N.tab.length xe]) := hide (by rw [hW10, hQX]; exact heap_alloc_new W9 _)
  have HP10 := hide (HP9.out.below hA10 (Nat.le_refl _))
  have HX10 := hide (HX8.out.below hA810 (Nat.le_refl _))
  have HY10 := hide (HY8.out.below hA810 (Nat.le_refl _))
  have HZ10 := hide (HZ8.out.below hA810 (Nat.le_refl _))
  have HO10 := hide (HSO.out.below hA810 (Nat.le_refl _))
  have HB10 := hide (HB8.out.trans (hA810.mono HB8.out.size))
  have HW10 := hide hW10
  clear hl9 hk9 he9 ht9 hi9 hb9 hA10 hA810 hW10 HAP2 HX8 HY8 HZ8 HSO HB8 HP9 o0 o1 o2 o3 o4 o5 q0 q1 q2 q3 q4 q5 q6 q7
  go_upto_region 10 with fail
  rw [← HW10.out, ← hQX]
  clear HW10 hQX
  obtain ⟨⟨p0, p1, p2, p3, p4, p5⟩, -⟩ := HX10.out.all
  obtain ⟨⟨q0, q1, q2, q3, q4, q5, q6, q7⟩, -⟩ := HY10.out.all
  go_wp2_with fail
  refine (HRP2.out _ HB10.out).mono ?_
  rintro e W11 ⟨v, rfl, hs11, hb11⟩
  dsimp only at hs11 ⊢
  obtain ⟨ya, yc, yt, ye, hv⟩ := hs11.shape
  subst hv
  obtain ⟨W12, hW12⟩ : ∃ W12, W12 = W11.alloc (.cells #[.int .i64 N.idx, .int .i64 N.st.kind, .slice ya N.st.L.length yc, .bool N.st.shut, .int .i64 N.st.eng, .slice yt N.tab.length ye] 27) := ⟨_, rfl⟩
  obtain ⟨QY, hQY⟩ : ∃ QY, QY = W11.heap.size := ⟨_, rfl⟩
  have hA12 : Below W11.heap.size W11 W12 := by rw [hW12]; exact (Below.refl _ _).alloc (Nat.le_refl _) _
  have hA1012 : Below W10.heap.size W10 W12 := hb11.trans (hA12.mono hb11.size)
  have HU12 : Hid (Bn W12 QY #[.int .i64 N.idx, .int .i64 N.st.kind, .slice ya N.st.L.length yc, .bool N.st.shut, .int .i64 N.st.eng, .slice yt N.tab.length ye]) := hide (by rw [hW12, hQY]; exact heap_alloc_new W11 _)
  have HV12 := hide (hs11.below hA12 (Nat.le_refl _))
  have HQ12 := hide (HQ10.out.below hA1012 (Nat.le_refl _))
  have HP12 := hide (HP10.out.below hA1012 (Nat.le_refl _))
  have HX12 := hide (HX10.out.below hA1012 (Nat.le_refl _))
  have HZ12 := hide (HZ10.out.below hA1012 (Nat.le_refl _))
  have HO12 := hide (HO10.out.below hA1012 (Nat.le_refl _))
  have HB12 := hide (HB10.out.trans (hA1012.mono HB10.out.size))
  have HW12 := hide hW12
  clear hs11 hb11 hA12 hA1012 hW12 HRP2 HX10 HY10 HZ10 HO10 HB10 HQ10 HP10 p0 p1 p2 p3 p4 p5 q0 q1 q2 q3 q4 q5 q6 q7
  go_upto_region 11 with fail
  rw [← HW12.out, ← hQY]
  clear HW12 hQY
  obtain ⟨⟨p0, p1, p2, p3, p4, p5⟩, -⟩ := HQ12.out.all
  obtain ⟨⟨q0, q1, q2, q3, q4, q5⟩, -⟩ := HU12.out.all
  have HC1 := hide (HSM.out _ _ N W12 HP12.out HV12.out)
  go_wp2_with fail
  refine HC1.out.mono ?_
  rintro e W13 ⟨rfl, hb13⟩
  have HX13 := hide (HX12.out.below hb13 (Nat.le_refl _))
  have HZ13 := hide (HZ12.out.below hb13 (Nat.le_refl _))
  have HO13 := hide (HO12.out.below hb13 (Nat.le_refl _))
  have HB13 := hide (HB12.out.trans (hb13.mono HB12.out.size))
  clear hb13 HC1 HX12 HZ12 HO12 HB12 HQ12 HP12 HU12 HV12 p0 p1 p2 p3 p4 p5 q0 q1 q2 q3 q4 q5
  obtain ⟨⟨p0, p1, p2, p3, p4, p5⟩, -⟩ := HZ13.out.all
  obtain ⟨⟨q0, q1, q2, q3, q4, q5⟩, -⟩ := HX13.out.all
  have HC2 := hide (HSM.out _ _ _ W13 HO13.out (HVA.out W13 HB13.out))
  go_wp2_with fail
  refine HC2.out.mono ?_
  rintro e W14 ⟨rfl, hb14⟩
  have HB14 := hide (HB13.out.trans (hb14.mono HB13.out.size))
  clear hb14 HC2 HX13 HZ13 HO13 HB13 HSM HVA p0 p1 p2 p3 p4 p5 q0 q1 q2 q3 q4 q5
  go_wp2
  go_ret
  exact ⟨rfl, HB14.out⟩

theorem own : ownKnob Try.prog.godebug = none := by kernel_rfl
theorem laidOut : laidOutB Try.prog = true := by kernel_rfl

set_option linter.unusedVariables false in
set_option maxRecDepth 100000 in
theorem lifted (os : Os) (started : os.Started) (H : Type) (enc : TypeId × Value → H) :
    ReturnsInHanded {} Try.checked os 4 .any (Rows.deltaAppliesSpec.pre6 enc Try.prog Try.f4 Rows.deltaAppliesRow.domain false) (Rows.deltaAppliesSpec.post enc Try.prog Try.f4 false true false false) := by
  refine returnsInHanded_of_change (C := Try.checked) own started (by kernel_rfl) Try.func4
    (ChangeSpec.witness6 (enc := enc) (C := Try.checked) false ⟨#[], #[.agg #[.int .i64 0, .int .i64 0, .slice none 0 0, .bool false, .int .i64 0, .slice none 0 0], .agg #[.int .i64 0, .int .i64 0, .int .i64 0, .int .i64 0, .slice none 0 0, .bool false, .int .i64 0, .slice none 0 0]], []⟩ 8 (by kernel_rfl) (by kernel_rfl) (by kernel_rfl) (by kernel_rfl)) ?_
  intro W base args ds gs before hval0 hW hcnd _
  have hval : ∀ (j : Nat) t v, Try.f4.params[j]? = some t → args[j]? = some v → Value.okWide Try.prog W .any base t v := hval0
  have hW' := hW
  obtain ⟨p, q, hA0, hV, rfl, hfz, hnd⟩ := hW
  have hA : DataW.TrodAll enc Try.prog W 0 (fun _ => true) true Try.f4.params.toList args.toList ds p := hA0
  rw [Try.params4] at hA hval
  obtain ⟨v0, vs0, d0, ds0, p0, q0, hargs, rfl, rfl, h0, r0⟩ := trodAll_cons hA
  obtain ⟨v1, vs1, d1, ds1, p1, q1, rfl, rfl, rfl, h1, r1⟩ := trodAll_cons r0
  obtain ⟨rfl, rfl, rfl⟩ := trodAll_nil r1
  obtain rfl : args = #[v0, v1] := by cases args; simp_all
  obtain ⟨rfl, rfl⟩ := trodVars_none hV
  have k0 := h0
  have lt0 : ∀ x ∈ p0, x.block < W.heap.size := by obtain ⟨m, hm⟩ := k0; exact DataW.trod_lt m _ _ _ hm
  obtain ⟨s0, w0⟩ := open_snap (hval 0 27 v0 rfl rfl) h0
  have k1 := h1
  have lt1 : ∀ x ∈ p1, x.block < W.heap.size := by obtain ⟨m, hm⟩ := k1; exact DataW.trod_lt m _ _ _ hm
  obtain ⟨s1, w1⟩ := open_delta (hval 1 31 v1 rfl rfl) h1
  clear hA0 hval0
  refine (walk _ s0 _ s1 W w0 w1).mono fun e W' ⟨he, bel⟩ => ?_
  subst he
  exact ⟨_, rfl, _, _, _, [], _, [], hW', trodAll_mk1 (shut_bool Try.underlying4 _), (trodAll_cons_mk (Below.trod laidOut (by kernel_rfl) (of_decide_eq_true (by kernel_rfl)) k0 bel lt0) (trodAll_cons_mk (Below.trod laidOut (by kernel_rfl) (of_decide_eq_true (by kernel_rfl)) k1 bel lt1) trodAll_mk0)), rfl, bel.frame _, fun h => by cases h⟩

theorem over : Rows.deltaAppliesRow.holds Try.pinned (OpenSpec.ofChange Rows.deltaAppliesSpec) :=
  OpenClaim.holds_of_wide 4 Try.f4 rfl rfl rfl rfl rfl rfl rfl ⟨rfl, rfl, rfl, rfl, rfl⟩ rfl rfl rfl rfl rfl (by kernel_rfl) Try.func4 (by kernel_rfl)
    (of_decide_eq_true (by kernel_rfl)) (by unfold Func.isWrapper; first | (rw [if_pos (by decide +kernel)]; kernel_rfl) | (rw [if_neg (by decide +kernel)]; exact ⟨rfl, rfl⟩))
    (fun os started H enc _ => lifted os started H enc)

end Go.Proofs.Ytgpdbboieokldaa.deltaApplies
namespace Go.Proofs.Ytgpdbboieokldaa

theorem deltaApplies_holds : Rows.DeltaAppliesSaid := deltaApplies.over

end Go.Proofs.Ytgpdbboieokldaa
