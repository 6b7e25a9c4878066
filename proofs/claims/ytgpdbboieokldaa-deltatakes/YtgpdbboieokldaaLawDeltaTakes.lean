/- Proved: for all inputs the law DeltaTakes answers true (and the call leaves all older memory as it was). No condition. -/
import Derived.Test.YtgpdbboieokldaaDeltaTwo
import Derived.Test.YtgpdbboieokldaaOpenSnap
import Derived.Test.YtgpdbboieokldaaPack8
import Derived.Test.YtgpdbboieokldaaPack9
import Derived.OpenShut
import Derived.ChangeOld
namespace Go.Proofs.Ytgpdbboieokldaa.deltaTakes
open Go.ChangeShapes Go.WideShapes Go.ChangeAt Go.RowKit

theorem takeN_kind : ∀ (l : List Rec) (s : Snap), (takeN s l).2 = 0 → (takeN s l).1.st.kind = s.st.kind
  | [], s, _ => rfl
  | r :: l, s, h => by
    rw [takeN] at h ⊢
    by_cases h1 : r.idx ≠ s.idx
    · rw [if_pos h1] at h
      exact absurd h (by decide)
    rw [if_neg h1] at h ⊢
    by_cases h2 : ¬ FitsR r
    · rw [if_pos h2] at h
      exact absurd h (by decide)
    rw [if_neg h2] at h ⊢
    rw [takeN_kind l (nextN s r) h]
    show (stepO s.st r.op).1.kind = _
    rw [stepO_state]
    exact step_kind s.st r.op

theorem takes_diff {s : Snap} {l : List Rec} (h0 : MayN s) (h1 : (takeN s l).2 = 0) (h2 : MayN (takeN s l).1) : (diffD s (takeN s l).1).2 = 0 := by
  rw [diffD_ok h0 h2 (takeN_kind l s h1).symm (by have := (takeN_state l s h1).2; omega) (takeN_covers l s h1)]

set_option maxRecDepth 100000 in
set_option maxHeartbeats 8000000 in
theorem walk (vs : Value) (s : Snap) (vr : Value) (l : List Rec) (w : World) (hs : SnV w vs s) (hr : RdR w vr l) :
    Calls Try.prog 7 #[vs, vr] w fun e w' => e = .returned (.bool true) ∧ Below w.heap.size w w' := by
  have HFS : Hid (∀ W, Below w.heap.size w W → Calls Try.prog 9 #[vs] W fun e w' => e = .returned (.bool (decide (s.st.L.length ≤ 300 ∧ s.tab.length ≤ 100))) ∧ Below W.heap.size W w') := hide (fun W h => fewN_any vs s W (hs.below h (Nat.le_refl _)))
  have HVS : Hid (∀ W, Below w.heap.size w W → SnV W vs s) := hide (fun W h => hs.below h (Nat.le_refl _))
  have HMS : Hid (∀ W, Below w.heap.size w W → Calls Try.prog 21 #[vs] W fun e w' => e = .returned (.bool (decide (MayN s))) ∧ Below W.heap.size W w') := hide (fun W h => mayN_any vs s W (hs.below h (Nat.le_refl _)))
  have HAW := hide (fun W => awake10_any W)
  have HRR := hide hr
  obtain ⟨la, lc, ta, tc, hv⟩ := hs.shape
  subst hv
  have HTK : Hid (∀ W, s.st.L.length ≤ 300 → s.tab.length ≤ 100 → l.length ≤ 60 → Below w.heap.size w W → Calls Try.prog 22 #[.agg #[.int .i64 s.idx, .int .i64 s.st.kind, .slice la s.st.L.length lc, .bool s.st.shut, .int .i64 s.st.eng, .slice ta s.tab.length tc], vr] W fun e w' => TakenN W (.slice la s.st.L.length lc) (.slice ta s.tab.length tc) l (takeN s l) e w') := hide (fun W h1 h2 h3 h => takeN_any _ _ _ _ _ _ s vr l W (hs.below h (Nat.le_refl _)) (hr.below h (Nat.le_refl _)) (by omega) (by omega) (by omega))
  obtain ⟨ra, rc, hv⟩ : ∃ a c, vr = .slice a l.length c := by obtain ⟨a, c, h, -⟩ := hr; exact ⟨a, c, h⟩
  subst hv
  have hml : (l.length : Int) ≤ 9223372036854775807 := by
    obtain ⟨_, c, _, h1, h2, _⟩ := hr
    unfold maxLen at h2
    omega
  obtain ⟨W0, hW0⟩ : ∃ W0, W0 = w.alloc (.cells #[.int .i64 s.idx, .int .i64 s.st.kind, .slice la s.st.L.length lc, .bool s.st.shut, .int .i64 s.st.eng, .slice ta s.tab.length tc] 27) := ⟨_, rfl⟩
  have HX : Hid (Bn W0 w.heap.size #[.int .i64 s.idx, .int .i64 s.st.kind, .slice la s.st.L.length lc, .bool s.st.shut, .int .i64 s.st.eng, .slice ta s.tab.length tc]) := hide (by rw [hW0]; exact heap_alloc_new w _)
  have HBW : Hid (Below w.heap.size w W0) := hide (by rw [hW0]; exact (Below.refl _ _).alloc (Nat.le_refl _) _)
  have HW0 := hide hW0
  obtain ⟨fs, hfs⟩ : ∃ f, f = decide (s.st.L.length ≤ 300 ∧ s.tab.length ≤ 100) := ⟨_, rfl⟩
  rw [← hfs] at HFS
  have HNS := hide hfs
  obtain ⟨ms, hms⟩ : ∃ f, f = decide (MayN s) := ⟨_, rfl⟩
  rw [← hms] at HMS
  have HNM := hide hms
  have HTD := hide (fun h0 h1 h2 => takes_diff (s := s) (l := l) h0 h1 h2)
  generalize takeN s l = TT at *
  obtain ⟨T, er⟩ := TT
  dsimp only at HTD
  have HSS : Hid (∀ W v, Below w.heap.size w W → SnV W v s → Calls Try.prog 20 #[v, .agg #[.int .i64 s.idx, .int .i64 s.st.kind, .slice la s.st.L.length lc, .bool s.st.shut, .int .i64 s.st.eng, .slice ta s.tab.length tc]] W fun e w' => e = .returned (.bool true) ∧ Below W.heap.size W w') := hide (fun W v h h2 => by
    have h3 := sameN_any v s _ s W h2 (hs.below h (Nat.le_refl _))
    rw [decide_eq_true (show SameN s s from ⟨⟨rfl, rfl, rfl, rfl⟩, rfl, rfl⟩)] at h3
    exact h3)
  have HST : Hid (∀ W v v', SnV W v T → SnV W v' T → Calls Try.prog 20 #[v, v'] W fun e w' => e = .returned (.bool true) ∧ Below W.heap.size W w') := hide (fun W v v' h h2 => by
    have h3 := sameN_any v T v' T W h h2
    rw [decide_eq_true (show SameN T T from ⟨⟨rfl, rfl, rfl, rfl⟩, rfl, rfl⟩)] at h3
    exact h3)
  clear hW0 hfs hms hs hr
  go_enter Try.func7, Try.ntmps7
  go_upto_region 1 with fail
  rw [← HW0.out]
  clear HW0
  go_wp2_with fail
  refine (HAW.out _).mono ?_
  rintro e W1 ⟨rfl, hcW1⟩
  have HX := hide (HX.out.below hcW1 (Nat.le_refl _))
  have HBW := hide (HBW.out.trans (hcW1.mono HBW.out.size))
  clear hcW1
  clear HAW
  obtain ⟨⟨p0, p1, p2, p3, p4, p5⟩, -⟩ := HX.out.all
  go_wp2_with fail
  refine (HFS.out _ HBW.out).mono ?_
  rintro e W2 ⟨rfl, hcW2⟩
  clear p0 p1 p2 p3 p4 p5
  have HX := hide (HX.out.below hcW2 (Nat.le_refl _))
  have HBW := hide (HBW.out.trans (hcW2.mono HBW.out.size))
  clear hcW2
  clear HFS
  cases fs with
  | false =>
    go_wp2
    go_ret
    exact ⟨rfl, HBW.out⟩
  | true =>
  obtain ⟨hfs1, hfs2⟩ := of_decide_eq_true HNS.out.symm
  by_cases hl60 : l.length ≤ 60
  case neg =>
    have hli : (60 : Int) < (l.length : Int) := by omega
    go_wp2
    go_ret
    exact ⟨rfl, HBW.out⟩
  have hli : ¬ (60 : Int) < (l.length : Int) := by omega
  have HTQ := hide (fun W h => HTK.out W hfs1 hfs2 hl60 h)
  clear HNS HTK hfs1 hfs2 hl60
  obtain ⟨⟨p0, p1, p2, p3, p4, p5⟩, -⟩ := HX.out.all
  go_wp2_with fail
  refine (HMS.out _ HBW.out).mono ?_
  rintro e W3 ⟨rfl, hcW3⟩
  clear p0 p1 p2 p3 p4 p5
  have HX := hide (HX.out.below hcW3 (Nat.le_refl _))
  have HBW := hide (HBW.out.trans (hcW3.mono HBW.out.size))
  clear hcW3
  clear HMS
  cases ms with
  | false =>
    go_wp2
    go_ret
    exact ⟨rfl, HBW.out⟩
  | true =>
  have hMS := of_decide_eq_true HNM.out.symm
  have HTD2 := hide (HTD.out hMS)
  have hself := diffD_self hMS
  have hselfA := applyD_diff (a := s) (b := s) (by rw [hself])
  rw [hself] at hselfA
  dsimp only at hselfA
  obtain ⟨Z, hZ⟩ : ∃ Z : Delt, Z = ⟨s.idx, s.idx, (s.st.L.length : Nat), 0, [], s.st.shut, s.st.eng, []⟩ := ⟨_, rfl⟩
  rw [← hZ] at hself hselfA
  have HDS : Hid (∀ W, Below w.heap.size w W → Calls Try.prog 10 #[.agg #[.int .i64 s.idx, .int .i64 s.st.kind, .slice la s.st.L.length lc, .bool s.st.shut, .int .i64 s.st.eng, .slice ta s.tab.length tc], .agg #[.int .i64 s.idx, .int .i64 s.st.kind, .slice la s.st.L.length lc, .bool s.st.shut, .int .i64 s.st.eng, .slice ta s.tab.length tc]] W fun e w' => GivenD W (Z, 0) e w') := hide (fun W h => by
    have h2 := diff_any _ s _ s W (HVS.out W h) (HVS.out W h)
    rw [hself] at h2
    exact h2)
  have HZA : Hid (∀ W vd, Below w.heap.size w W → DlV W vd Z → Calls Try.prog 14 #[.agg #[.int .i64 s.idx, .int .i64 s.st.kind, .slice la s.st.L.length lc, .bool s.st.shut, .int .i64 s.st.eng, .slice ta s.tab.length tc], vd] W fun e w' => DecodedN W (s, 0) e w') := hide (fun W vd h h2 => by
    have h3 := apply_any _ s vd Z W (HVS.out W h) h2 (by rw [hZ]; exact Nat.zero_le _)
    rw [hselfA] at h3
    exact h3)
  have HZM : Hid (Z.mid.length = 0 ∧ Z.tab.length = 0) := hide (by rw [hZ]; exact ⟨rfl, rfl⟩)
  unfold GivenD at HDS
  unfold DecodedN at HZA
  dsimp only at HDS HZA
  clear HNM HTD hMS hself hselfA hZ
  obtain ⟨⟨p0, p1, p2, p3, p4, p5⟩, -⟩ := HX.out.all
  unfold TakenN at HTQ
  dsimp only at HTQ
  go_wp2_with fail
  refine (HTQ.out _ HBW.out).mono ?_
  rintro e W4 ⟨vl4, vt4, rfl, hl4, hk4, he4, ht4, hi4, -, -, hb4⟩
  have HVT : Hid (∀ W, Below W4.heap.size W4 W → SnV W (.agg #[.int .i64 T.idx, .int .i64 T.st.kind, vl4, .bool T.st.shut, .int .i64 T.st.eng, vt4]) T) := hide (fun W h => ⟨vl4, vt4, rfl, hl4.below h (Nat.le_refl _), hk4, he4, ht4.below h (Nat.le_refl _), hi4⟩)
  obtain ⟨sa, sc, hv⟩ := hl4.shape
  subst hv
  obtain ⟨sb, sd, hv⟩ := ht4.shape
  subst hv
  obtain ⟨W5, hW5⟩ : ∃ W5, W5 = W4.alloc (.cells #[.int .i64 T.idx, .int .i64 T.st.kind, .slice sa T.st.L.length sc, .bool T.st.shut, .int .i64 T.st.eng, .slice sb T.tab.length sd] 27) := ⟨_, rfl⟩
  obtain ⟨QT, hQT⟩ : ∃ QT, QT = W4.heap.size := ⟨_, rfl⟩
  have hAW5 : Below W4.heap.size W4 W5 := by rw [hW5]; exact (Below.refl _ _).alloc (Nat.le_refl _) _
  have HQT : Hid (Bn W5 QT #[.int .i64 T.idx, .int .i64 T.st.kind, .slice sa T.st.L.length sc, .bool T.st.shut, .int .i64 T.st.eng, .slice sb T.tab.length sd]) := hide (by rw [hW5, hQT]; exact heap_alloc_new W4 _)
  have HW5 := hide hW5
  have hcW5 : Below W3.heap.size W3 W5 := hb4.trans (hAW5.mono hb4.size)
  have HVT := hide (fun W (h : Below W5.heap.size W5 W) => HVT.out W (hAW5.trans (h.mono hAW5.size)))
  clear hl4 hk4 he4 ht4 hi4 hb4 hW5 hAW5 HTQ p0 p1 p2 p3 p4 p5
  go_upto_region 8 with fail
  rw [← HW5.out, ← hQT]
  clear HW5 hQT
  have HX := hide (HX.out.below hcW5 (Nat.le_refl _))
  have HBW := hide (HBW.out.trans (hcW5.mono HBW.out.size))
  clear hcW5
  by_cases her : er = 0
  case neg =>
    have hne : (er != 0) = true := by rw [bne_iff_ne]; exact her
    clear her
    go_wp2
    go_ret
    exact ⟨rfl, HBW.out⟩
  have hne : (er != 0) = false := by rw [bne_eq_false_iff_eq]; exact her
  have HMT := hide (fun W v h => mayN_any v T W h)
  obtain ⟨mt, hmt⟩ : ∃ f, f = decide (MayN T) := ⟨_, rfl⟩
  rw [← hmt] at HMT
  have HNT := hide hmt
  have HTD3 := hide (HTD2.out her)
  clear hmt her HTD2
  obtain ⟨⟨p0, p1, p2, p3, p4, p5⟩, -⟩ := HQT.out.all
  go_wp2_with fail
  refine (HMT.out _ _ (HVT.out W5 (Below.refl _ _))).mono ?_
  rintro e W6 ⟨rfl, hcW6⟩
  clear p0 p1 p2 p3 p4 p5
  have HX := hide (HX.out.below hcW6 (Nat.le_refl _))
  have HQT := hide (HQT.out.below hcW6 (Nat.le_refl _))
  have HVT := hide (fun W (h : Below W6.heap.size W6 W) => HVT.out W (hcW6.trans (h.mono hcW6.size)))
  have HBW := hide (HBW.out.trans (hcW6.mono HBW.out.size))
  clear hcW6
  clear HMT
  cases mt with
  | false =>
    go_wp2
    go_ret
    exact ⟨rfl, HBW.out⟩
  | true =>
  have hd0 : (diffD s T).2 = 0 := HTD3.out (of_decide_eq_true HNT.out.symm)
  have hmd := diffD_may hd0
  have had := applyD_diff hd0
  obtain ⟨D, hDD⟩ : ∃ D, D = (diffD s T).1 := ⟨_, rfl⟩
  have hdd : diffD s T = (D, 0) := by
    have h1 : diffD s T = ((diffD s T).1, (diffD s T).2) := rfl
    rw [h1, hd0, ← hDD]
  rw [← hDD] at hmd had
  have HDD : Hid (∀ W v, Below w.heap.size w W → SnV W v T → Calls Try.prog 10 #[.agg #[.int .i64 s.idx, .int .i64 s.st.kind, .slice la s.st.L.length lc, .bool s.st.shut, .int .i64 s.st.eng, .slice ta s.tab.length tc], v] W fun e w' => GivenD W (D, 0) e w') := hide (fun W v h h2 => by
    have h3 := diff_any _ s _ T W (HVS.out W h) h2
    rw [hdd] at h3
    exact h3)
  have HDA : Hid (∀ W vd, Below w.heap.size w W → DlV W vd D → Calls Try.prog 14 #[.agg #[.int .i64 s.idx, .int .i64 s.st.kind, .slice la s.st.L.length lc, .bool s.st.shut, .int .i64 s.st.eng, .slice ta s.tab.length tc], vd] W fun e w' => DecodedN W (T, 0) e w') := hide (fun W vd h h2 => by
    have h3 := apply_any _ s vd D W (HVS.out W h) h2 (by have := hmd.2.2.2.2.1; omega)
    rw [had] at h3
    exact h3)
  unfold GivenD at HDD
  unfold DecodedN at HDA
  dsimp only at HDD HDA
  clear hd0 hmd had hDD hdd HTD3 HNT
  obtain ⟨⟨p0, p1, p2, p3, p4, p5⟩, -⟩ := HX.out.all
  obtain ⟨⟨q0, q1, q2, q3, q4, q5⟩, -⟩ := HQT.out.all
  go_wp2_with fail
  refine (HDD.out _ _ HBW.out (HVT.out W6 (Below.refl _ _))).mono ?_
  rintro e W7 ⟨vmD, vtD, rfl, hmD, htD, hiD, -, -, hbD⟩
  have HVD : Hid (∀ W, Below W7.heap.size W7 W → DlV W (.agg #[.int .i64 D.frm, .int .i64 D.upto, .int .i64 D.ahead, .int .i64 D.behind, vmD, .bool D.shut, .int .i64 D.eng, vtD]) D) := hide (fun W h => ⟨vmD, vtD, rfl, hmD.below h (Nat.le_refl _), htD.below h (Nat.le_refl _), hiD⟩)
  obtain ⟨maD, mcD, hv⟩ := hmD.shape
  subst hv
  obtain ⟨taD, tcD, hv⟩ := htD.shape
  subst hv
  obtain ⟨W8, hW8⟩ : ∃ W8, W8 = W7.alloc (.cells #[.int .i64 D.frm, .int .i64 D.upto, .int .i64 D.ahead, .int .i64 D.behind, .slice maD D.mid.length mcD, .bool D.shut, .int .i64 D.eng, .slice taD D.tab.length tcD] 31) := ⟨_, rfl⟩
  obtain ⟨QD, hQD⟩ : ∃ QD, QD = W7.heap.size := ⟨_, rfl⟩
  have hAW8 : Below W7.heap.size W7 W8 := by rw [hW8]; exact (Below.refl _ _).alloc (Nat.le_refl _) _
  have HQD : Hid (Bd W8 QD #[.int .i64 D.frm, .int .i64 D.upto, .int .i64 D.ahead, .int .i64 D.behind, .slice maD D.mid.length mcD, .bool D.shut, .int .i64 D.eng, .slice taD D.tab.length tcD]) := hide (by rw [hW8, hQD]; exact heap_alloc_new W7 _)
  have HW8 := hide hW8
  have hcW8 : Below W6.heap.size W6 W8 := hbD.trans (hAW8.mono hbD.size)
  have HUD := hide (fun W (h : Below W8.heap.size W8 W) => HVD.out W (hAW8.trans (h.mono hAW8.size)))
  clear hmD htD hiD hbD HVD hW8 hAW8
  go_upto_region 11 with fail
  rw [← HW8.out, ← hQD]
  clear HW8 hQD
  clear p0 p1 p2 p3 p4 p5 q0 q1 q2 q3 q4 q5
  have HX := hide (HX.out.below hcW8 (Nat.le_refl _))
  have HQT := hide (HQT.out.below hcW8 (Nat.le_refl _))
  have HVT := hide (fun W (h : Below W8.heap.size W8 W) => HVT.out W (hcW8.trans (h.mono hcW8.size)))
  have HBW := hide (HBW.out.trans (hcW8.mono HBW.out.size))
  clear hcW8
  clear HDD
  obtain ⟨⟨p0, p1, p2, p3, p4, p5⟩, -⟩ := HX.out.all
  obtain ⟨⟨d0, d1, d2, d3, d4, d5, d6, d7⟩, -⟩ := HQD.out.all
  go_wp2_with fail
  refine (HDA.out _ _ HBW.out (HUD.out W8 (Below.refl _ _))).mono ?_
  rintro e W9 ⟨vlu8, vtu8, rfl, hlu8, hku8, heu8, htu8, hiu8, -, -, hbu8⟩
  have HVu8 : Hid (∀ W, Below W9.heap.size W9 W → SnV W (.agg #[.int .i64 T.idx, .int .i64 T.st.kind, vlu8, .bool T.st.shut, .int .i64 T.st.eng, vtu8]) T) := hide (fun W h => ⟨vlu8, vtu8, rfl, hlu8.below h (Nat.le_refl _), hku8, heu8, htu8.below h (Nat.le_refl _), hiu8⟩)
  obtain ⟨lau8, lcu8, hv⟩ := hlu8.shape
  subst hv
  obtain ⟨tau8, tcu8, hv⟩ := htu8.shape
  subst hv
  obtain ⟨W10, hW10⟩ : ∃ W10, W10 = W9.alloc (.cells #[.int .i64 T.idx, .int .i64 T.st.kind, .slice lau8 T.st.L.length lcu8, .bool T.st.shut, .int .i64 T.st.eng, .slice tau8 T.tab.length tcu8] 27) := ⟨_, rfl⟩
  obtain ⟨Qu8, hQu8⟩ : ∃ Qu8, Qu8 = W9.heap.size := ⟨_, rfl⟩
  have hAW10 : Below W9.heap.size W9 W10 := by rw [hW10]; exact (Below.refl _ _).alloc (Nat.le_refl _) _
  have HQu8 : Hid (Bn W10 Qu8 #[.int .i64 T.idx, .int .i64 T.st.kind, .slice lau8 T.st.L.length lcu8, .bool T.st.shut, .int .i64 T.st.eng, .slice tau8 T.tab.length tcu8]) := hide (by rw [hW10, hQu8]; exact heap_alloc_new W9 _)
  have HW10 := hide hW10
  have hcW10 : Below W8.heap.size W8 W10 := hbu8.trans (hAW10.mono hbu8.size)
  have HUu8 := hide (fun W (h : Below W10.heap.size W10 W) => HVu8.out W (hAW10.trans (h.mono hAW10.size)))
  clear hlu8 hku8 heu8 htu8 hiu8 hbu8 HVu8 hW10 hAW10
  go_upto_region 12 with fail
  rw [← HW10.out, ← hQu8]
  clear HW10 hQu8
  clear p0 p1 p2 p3 p4 p5 d0 d1 d2 d3 d4 d5 d6 d7
  have HX := hide (HX.out.below hcW10 (Nat.le_refl _))
  have HQT := hide (HQT.out.below hcW10 (Nat.le_refl _))
  have HVT := hide (fun W (h : Below W10.heap.size W10 W) => HVT.out W (hcW10.trans (h.mono hcW10.size)))
  have HBW := hide (HBW.out.trans (hcW10.mono HBW.out.size))
  clear hcW10
  clear HDA HUD HQD
  obtain ⟨⟨p0, p1, p2, p3, p4, p5⟩, -⟩ := HX.out.all
  go_wp2_with fail
  refine (HDS.out _ HBW.out).mono ?_
  rintro e W11 ⟨vmZ, vtZ, rfl, hmZ, htZ, hiZ, -, -, hbZ⟩
  have HVZ : Hid (∀ W, Below W11.heap.size W11 W → DlV W (.agg #[.int .i64 Z.frm, .int .i64 Z.upto, .int .i64 Z.ahead, .int .i64 Z.behind, vmZ, .bool Z.shut, .int .i64 Z.eng, vtZ]) Z) := hide (fun W h => ⟨vmZ, vtZ, rfl, hmZ.below h (Nat.le_refl _), htZ.below h (Nat.le_refl _), hiZ⟩)
  obtain ⟨maZ, mcZ, hv⟩ := hmZ.shape
  subst hv
  obtain ⟨taZ, tcZ, hv⟩ := htZ.shape
  subst hv
  obtain ⟨W12, hW12⟩ : ∃ W12, W12 = W11.alloc (.cells #[.int .i64 Z.frm, .int .i64 Z.upto, .int .i64 Z.ahead, .int .i64 Z.behind, .slice maZ Z.mid.length mcZ, .bool Z.shut, .int .i64 Z.eng, .slice taZ Z.tab.length tcZ] 31) := ⟨_, rfl⟩
  obtain ⟨QZ, hQZ⟩ : ∃ QZ, QZ = W11.heap.size := ⟨_, rfl⟩
  have hAW12 : Below W11.heap.size W11 W12 := by rw [hW12]; exact (Below.refl _ _).alloc (Nat.le_refl _) _
  have HQZ : Hid (Bd W12 QZ #[.int .i64 Z.frm, .int .i64 Z.upto, .int .i64 Z.ahead, .int .i64 Z.behind, .slice maZ Z.mid.length mcZ, .bool Z.shut, .int .i64 Z.eng, .slice taZ Z.tab.length tcZ]) := hide (by rw [hW12, hQZ]; exact heap_alloc_new W11 _)
  have HW12 := hide hW12
  have hcW12 : Below W10.heap.size W10 W12 := hbZ.trans (hAW12.mono hbZ.size)
  have HUZ := hide (fun W (h : Below W12.heap.size W12 W) => HVZ.out W (hAW12.trans (h.mono hAW12.size)))
  clear hmZ htZ hiZ hbZ HVZ hW12 hAW12
  go_upto_region 13 with fail
  rw [← HW12.out, ← hQZ]
  clear HW12 hQZ
  clear p0 p1 p2 p3 p4 p5
  have HX := hide (HX.out.below hcW12 (Nat.le_refl _))
  have HQT := hide (HQT.out.below hcW12 (Nat.le_refl _))
  have HQu8 := hide (HQu8.out.below hcW12 (Nat.le_refl _))
  have HVT := hide (fun W (h : Below W12.heap.size W12 W) => HVT.out W (hcW12.trans (h.mono hcW12.size)))
  have HUu8 := hide (fun W (h : Below W12.heap.size W12 W) => HUu8.out W (hcW12.trans (h.mono hcW12.size)))
  have HBW := hide (HBW.out.trans (hcW12.mono HBW.out.size))
  clear hcW12
  clear HDS
  obtain ⟨⟨p0, p1, p2, p3, p4, p5⟩, -⟩ := HX.out.all
  obtain ⟨⟨d0, d1, d2, d3, d4, d5, d6, d7⟩, -⟩ := HQZ.out.all
  go_wp2_with fail
  refine (HZA.out _ _ HBW.out (HUZ.out W12 (Below.refl _ _))).mono ?_
  rintro e W13 ⟨vlu12, vtu12, rfl, hlu12, hku12, heu12, htu12, hiu12, -, -, hbu12⟩
  have HVu12 : Hid (∀ W, Below W13.heap.size W13 W → SnV W (.agg #[.int .i64 s.idx, .int .i64 s.st.kind, vlu12, .bool s.st.shut, .int .i64 s.st.eng, vtu12]) s) := hide (fun W h => ⟨vlu12, vtu12, rfl, hlu12.below h (Nat.le_refl _), hku12, heu12, htu12.below h (Nat.le_refl _), hiu12⟩)
  obtain ⟨lau12, lcu12, hv⟩ := hlu12.shape
  subst hv
  obtain ⟨tau12, tcu12, hv⟩ := htu12.shape
  subst hv
  obtain ⟨W14, hW14⟩ : ∃ W14, W14 = W13.alloc (.cells #[.int .i64 s.idx, .int .i64 s.st.kind, .slice lau12 s.st.L.length lcu12, .bool s.st.shut, .int .i64 s.st.eng, .slice tau12 s.tab.length tcu12] 27) := ⟨_, rfl⟩
  obtain ⟨Qu12, hQu12⟩ : ∃ Qu12, Qu12 = W13.heap.size := ⟨_, rfl⟩
  have hAW14 : Below W13.heap.size W13 W14 := by rw [hW14]; exact (Below.refl _ _).alloc (Nat.le_refl _) _
  have HQu12 : Hid (Bn W14 Qu12 #[.int .i64 s.idx, .int .i64 s.st.kind, .slice lau12 s.st.L.length lcu12, .bool s.st.shut, .int .i64 s.st.eng, .slice tau12 s.tab.length tcu12]) := hide (by rw [hW14, hQu12]; exact heap_alloc_new W13 _)
  have HW14 := hide hW14
  have hcW14 : Below W12.heap.size W12 W14 := hbu12.trans (hAW14.mono hbu12.size)
  have HUu12 := hide (fun W (h : Below W14.heap.size W14 W) => HVu12.out W (hAW14.trans (h.mono hAW14.size)))
  clear hlu12 hku12 heu12 htu12 hiu12 hbu12 HVu12 hW14 hAW14
  go_upto_region 14 with fail
  rw [← HW14.out, ← hQu12]
  clear HW14 hQu12
  clear p0 p1 p2 p3 p4 p5 d0 d1 d2 d3 d4 d5 d6 d7
  have HX := hide (HX.out.below hcW14 (Nat.le_refl _))
  have HQT := hide (HQT.out.below hcW14 (Nat.le_refl _))
  have HQu8 := hide (HQu8.out.below hcW14 (Nat.le_refl _))
  have HQZ := hide (HQZ.out.below hcW14 (Nat.le_refl _))
  have HVT := hide (fun W (h : Below W14.heap.size W14 W) => HVT.out W (hcW14.trans (h.mono hcW14.size)))
  have HUu8 := hide (fun W (h : Below W14.heap.size W14 W) => HUu8.out W (hcW14.trans (h.mono hcW14.size)))
  have HBW := hide (HBW.out.trans (hcW14.mono HBW.out.size))
  clear hcW14
  clear HZA HUZ
  obtain ⟨hz1, hz2⟩ := HZM.out
  rw [hz1, hz2] at HQZ
  clear hz1 hz2 HZM
  obtain ⟨⟨p0, p1, p2, p3, p4, p5⟩, -⟩ := HQu8.out.all
  obtain ⟨⟨q0, q1, q2, q3, q4, q5⟩, -⟩ := HQT.out.all
  go_wp2_with fail
  refine (HST.out _ _ _ (HUu8.out W14 (Below.refl _ _)) (HVT.out W14 (Below.refl _ _))).mono ?_
  rintro e W15 ⟨rfl, hcW15⟩
  clear p0 p1 p2 p3 p4 p5 q0 q1 q2 q3 q4 q5
  have HX := hide (HX.out.below hcW15 (Nat.le_refl _))
  have HQu12 := hide (HQu12.out.below hcW15 (Nat.le_refl _))
  have HQZ := hide (HQZ.out.below hcW15 (Nat.le_refl _))
  have HUu12 := hide (fun W (h : Below W15.heap.size W15 W) => HUu12.out W (hcW15.trans (h.mono hcW15.size)))
  have HBW := hide (HBW.out.trans (hcW15.mono HBW.out.size))
  clear hcW15
  obtain ⟨⟨p0, p1, p2, p3, p4, p5⟩, -⟩ := HQu12.out.all
  obtain ⟨⟨q0, q1, q2, q3, q4, q5⟩, -⟩ := HX.out.all
  go_wp2_with fail
  refine (HSS.out _ _ HBW.out (HUu12.out W15 (Below.refl _ _))).mono ?_
  rintro e W16 ⟨rfl, hcW16⟩
  clear p0 p1 p2 p3 p4 p5 q0 q1 q2 q3 q4 q5
  have HQZ := hide (HQZ.out.below hcW16 (Nat.le_refl _))
  have HBW := hide (HBW.out.trans (hcW16.mono HBW.out.size))
  clear hcW16
  obtain ⟨⟨d0, d1, d2, d3, d4, d5, d6, d7⟩, -⟩ := HQZ.out.all
  go_wp2
  go_ret
  exact ⟨rfl, HBW.out⟩

theorem own : ownKnob Try.prog.godebug = none := by kernel_rfl
theorem laidOut : laidOutB Try.prog = true := by kernel_rfl

set_option linter.unusedVariables false in
set_option maxRecDepth 100000 in
theorem lifted (os : Os) (started : os.Started) (H : Type) (enc : TypeId × Value → H) :
    ReturnsInHanded {} Try.checked os 7 .any (Rows.deltaTakesSpec.pre6 enc Try.prog Try.f7 Rows.deltaTakesRow.domain false) (Rows.deltaTakesSpec.post enc Try.prog Try.f7 false true false false) := by
  refine returnsInHanded_of_change (C := Try.checked) own started (by kernel_rfl) Try.func7
    (ChangeSpec.witness6 (enc := enc) (C := Try.checked) false ⟨#[], #[.agg #[.int .i64 0, .int .i64 0, .slice none 0 0, .bool false, .int .i64 0, .slice none 0 0], .slice none 0 0], []⟩ 8 (by kernel_rfl) (by kernel_rfl) (by kernel_rfl) (by kernel_rfl)) ?_
  intro W base args ds gs before hval0 hW hcnd _
  have hval : ∀ (j : Nat) t v, Try.f7.params[j]? = some t → args[j]? = some v → Value.okWide Try.prog W .any base t v := hval0
  have hW' := hW
  obtain ⟨p, q, hA0, hV, rfl, hfz, hnd⟩ := hW
  have hA : DataW.TrodAll enc Try.prog W 0 (fun _ => true) true Try.f7.params.toList args.toList ds p := hA0
  rw [Try.params7] at hA hval
  obtain ⟨v0, vs0, d0, ds0, p0, q0, hargs, rfl, rfl, h0, r0⟩ := trodAll_cons hA
  obtain ⟨v1, vs1, d1, ds1, p1, q1, rfl, rfl, rfl, h1, r1⟩ := trodAll_cons r0
  obtain ⟨rfl, rfl, rfl⟩ := trodAll_nil r1
  obtain rfl : args = #[v0, v1] := by cases args; simp_all
  obtain ⟨rfl, rfl⟩ := trodVars_none hV
  have k0 := h0
  have lt0 : ∀ x ∈ p0, x.block < W.heap.size := by obtain ⟨m, hm⟩ := k0; exact DataW.trod_lt m _ _ _ hm
  obtain ⟨s0, w0⟩ := open_snap (hval 0 27 v0 rfl rfl) h0
  obtain ⟨a1, len1, cap1, rfl⟩ := okWide_slice Try.underlying46 (hval 1 46 v1 rfl rfl)
  have k1 := h1
  have lt1 : ∀ x ∈ p1, x.block < W.heap.size := by obtain ⟨m, hm⟩ := k1; exact DataW.trod_lt m _ _ _ hm
  obtain ⟨l1, w1⟩ : ∃ l, RdR W (.slice a1 len1 cap1) l := by
    obtain ⟨fuel, hf⟩ := h1
    obtain ⟨v, l, hcs, hr⟩ := open_recs hf
    simp [Value.cells] at hcs
    subst hcs
    exact ⟨l, hr⟩
  clear hA0 hval0
  refine (walk _ s0 _ l1 W w0 w1).mono fun e W' ⟨he, bel⟩ => ?_
  subst he
  exact ⟨_, rfl, _, _, _, [], _, [], hW', trodAll_mk1 (shut_bool Try.underlying4 _), (trodAll_cons_mk (Below.trod laidOut (by kernel_rfl) (of_decide_eq_true (by kernel_rfl)) k0 bel lt0) (trodAll_cons_mk (Below.trod laidOut (by kernel_rfl) (of_decide_eq_true (by kernel_rfl)) k1 bel lt1) trodAll_mk0)), rfl, bel.frame _, fun h => by cases h⟩

theorem over : Rows.deltaTakesRow.holds Try.pinned (OpenSpec.ofChange Rows.deltaTakesSpec) :=
  OpenClaim.holds_of_wide 7 Try.f7 rfl rfl rfl rfl rfl rfl rfl ⟨rfl, rfl, rfl, rfl, rfl⟩ rfl rfl rfl rfl rfl (by kernel_rfl) Try.func7 (by kernel_rfl)
    (of_decide_eq_true (by kernel_rfl)) (by unfold Func.isWrapper; first | (rw [if_pos (by decide +kernel)]; kernel_rfl) | (rw [if_neg (by decide +kernel)]; exact ⟨rfl, rfl⟩))
    (fun os started H enc _ => lifted os started H enc)

end Go.Proofs.Ytgpdbboieokldaa.deltaTakes
namespace Go.Proofs.Ytgpdbboieokldaa

theorem deltaTakes_holds : Rows.DeltaTakesSaid := deltaTakes.over

end Go.Proofs.Ytgpdbboieokldaa
