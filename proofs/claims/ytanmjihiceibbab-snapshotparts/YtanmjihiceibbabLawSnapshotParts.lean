/- Proved: for all inputs the law SnapshotParts answers true (and the call leaves all older memory as it was). No condition. -/
import Derived.Test.YtanmjihiceibbabSnapAwake
import Derived.Test.YtanmjihiceibbabOpenSnap
import Derived.Test.YtanmjihiceibbabSnapParts
import Derived.Test.YtanmjihiceibbabObjsSame
import Derived.Test.YtanmjihiceibbabOpenBlock
import Derived.Deep.RegionHeld
import Derived.Deep.DeepCutAuto
import Derived.OpenShut
import Derived.ChangeOld
namespace Go.Proofs.Ytanmjihiceibbab.snapshotParts
open Go.ChangeShapes Go.WideShapes Go.ChangeAt Go.RowKit

set_option maxRecDepth 100000 in
set_option maxHeartbeats 4000000 in
theorem walk (v : Value) (s : Snap) (vr : Value) (l : List Rec) (k : Int) (w : World) (hs : SnV w v s) (hr : RdR w vr l) (_hk : (Lit.int .i64 k).wf = true) :
    Calls Try.prog 3 #[v, vr, .int .i64 k] w fun e w' => e = .returned (.bool true) ∧ Below w.heap.size w w' := by
  have HA := hide (fun w => awake9_any w)
  have HFW := hide (fun v W h => fewN_any v s W h)
  have HSA := hide (fun va a vb b w h1 h2 => sameN_any va a vb b w h1 h2)
  have HR := hide hr
  have hmr : (l.length : Int) ≤ 9223372036854775807 := by
    obtain ⟨_, c, _, h1, h2, _⟩ := hr
    unfold maxLen at h2
    omega
  obtain ⟨ra, rc, hvr, hrc⟩ : ∃ ra rc, vr = .slice ra l.length rc ∧ l.length ≤ rc := by
    obtain ⟨a, c, h, h2, -⟩ := hr
    exact ⟨a, c, h, h2⟩
  subst hvr
  obtain ⟨la, lc, ta, tc, hv⟩ := hs.shape
  subst hv
  have HS := hide hs
  have HTK := hide (fun (idx kind : Int) vl (shut : Bool) (eng : Int) vt S vr L W h1 h2 h3 h4 h5 => takeN_any idx kind vl shut eng vt S vr L W h1 h2 h3 h4 h5)
  have HB0 : Hid (∀ X, Below w.heap.size w (w.alloc X)) := fun X => (Below.refl _ _).alloc (Nat.le_refl _) X
  have HX0 : Hid (∀ cs, Bn (w.alloc (.cells cs 27)) w.heap.size cs) := fun cs => heap_alloc_new w _
  clear hs hr
  go_enter Try.func3, Try.ntmps3
  go_wp2_with fail
  refine (HA.out _).mono ?_
  rintro e W1 ⟨rfl, hb1⟩
  have hx1 : Bn W1 w.heap.size _ := (HX0.out _).below hb1 (Nat.le_refl _)
  have HX1 := hide hx1
  have HB1 := hide ((HB0.out _).trans (hb1.mono (HB0.out _).size))
  obtain ⟨p0, -⟩ := hx1.cell 0
  obtain ⟨p1, -⟩ := hx1.cell 1
  obtain ⟨p2, -⟩ := hx1.cell 2
  obtain ⟨p3, -⟩ := hx1.cell 3
  obtain ⟨p4, -⟩ := hx1.cell 4
  obtain ⟨p5, -⟩ := hx1.cell 5
  clear hb1 hx1 HA HX0
  go_wp2_with fail
  refine (HFW.out _ _ (HS.out.below HB1.out (Nat.le_refl _))).mono ?_
  rintro e W2 ⟨rfl, hb2⟩
  have hx2 : Bn W2 w.heap.size _ := HX1.out.below hb2 (Nat.le_refl _)
  have HX2 := hide hx2
  have HB2 := hide (HB1.out.trans (hb2.mono HB1.out.size))
  obtain ⟨q0, -⟩ := hx2.cell 0
  obtain ⟨q1, -⟩ := hx2.cell 1
  obtain ⟨q2, -⟩ := hx2.cell 2
  obtain ⟨q3, -⟩ := hx2.cell 3
  obtain ⟨q4, -⟩ := hx2.cell 4
  obtain ⟨q5, -⟩ := hx2.cell 5
  clear hb2 hx2 HX1 HB1 p0 p1 p2 p3 p4 p5 HFW
  by_cases hf : s.st.L.length ≤ 300 ∧ s.tab.length ≤ 100
  case neg =>
    rw [decide_eq_false hf]
    clear hf
    go_wp2
    go_ret
    exact ⟨rfl, HB2.out⟩
  rw [decide_eq_true hf]
  have HF := hide hf
  clear hf
  by_cases hM : (l.length : Int) ≤ 60
  case neg =>
    have hM' : 60 < (l.length : Int) := by omega
    clear hM
    go_wp2
    go_ret
    exact ⟨rfl, HB2.out⟩
  have hMd : decide (60 < (l.length : Int)) = false := decide_eq_false (by omega)
  have hMn : decide (60 < l.length) = false := decide_eq_false (by omega)
  by_cases h0 : 0 ≤ k
  case neg =>
    have h0' : k < 0 := by omega
    clear h0
    go_wp2
    go_ret
    exact ⟨rfl, HB2.out⟩
  have h0d : decide (k < 0) = false := decide_eq_false (by omega)
  by_cases h1 : k ≤ (l.length : Int)
  case neg =>
    have h1' : (l.length : Int) < k := by omega
    clear h1
    go_wp2
    go_ret
    exact ⟨rfl, HB2.out⟩
  have h1d : decide ((l.length : Int) < k) = false := decide_eq_false (by omega)
  obtain ⟨K, rfl⟩ : ∃ K : Nat, k = (K : Int) := ⟨k.toNat, by omega⟩
  have h1n : decide (l.length < K) = false := decide_eq_false (by omega)
  have hK : K ≤ l.length := by omega
  by_cases h2 : s.idx = 9223372036854775807
  · have h2' : (s.idx == 9223372036854775807) = true := beq_iff_eq.2 h2
    clear h2
    go_wp2
    go_ret
    exact ⟨rfl, HB2.out⟩
  have h2' : (s.idx == 9223372036854775807) = false := beq_eq_false_iff_ne.2 h2
  obtain ⟨f1, f2⟩ := HF.out
  have HT1 : Hid (∀ W, Below w.heap.size w W → Calls Try.prog 8 #[.agg #[.int .i64 s.idx, .int .i64 s.st.kind, .slice la s.st.L.length lc, .bool s.st.shut, .int .i64 s.st.eng, .slice ta s.tab.length tc], .slice ra l.length rc] W fun e w' => TakenN W (.slice la s.st.L.length lc) (.slice ta s.tab.length tc) l (takeN s l) e w') := hide (fun W h => HTK.out _ _ _ _ _ _ s _ l W (HS.out.below h (Nat.le_refl _)) (HR.out.below h (Nat.le_refl _)) (by omega) (by omega) (by omega))
  have HT2 : Hid (∀ W, Below w.heap.size w W → Calls Try.prog 8 #[.agg #[.int .i64 s.idx, .int .i64 s.st.kind, .slice la s.st.L.length lc, .bool s.st.shut, .int .i64 s.st.eng, .slice ta s.tab.length tc], .slice ra K rc] W fun e w' => TakenN W (.slice la s.st.L.length lc) (.slice ta s.tab.length tc) (l.take K) (takeN s (l.take K)) e w') := hide (fun W h => HTK.out _ _ _ _ _ _ s _ (l.take K) W (HS.out.below h (Nat.le_refl _)) ((HR.out.below h (Nat.le_refl _)).front K hK) (by omega) (by omega) (by rw [List.length_take]; omega))
  have hcut : ∀ W, (Instr.sliceAt 28 (.slice ra l.length rc) none (some (.int .i64 (K : Int))) none).run Try.prog W = .ok (.slice ra K rc) W := fun W => run_front_recs W ra l.length rc (K : Int) K rfl (by omega)
  obtain ⟨⟨X, ex⟩, hX⟩ : ∃ x, x = takeN s l := ⟨_, rfl⟩
  obtain ⟨⟨Y, ey⟩, hY⟩ : ∃ x, x = takeN s (l.take K) := ⟨_, rfl⟩
  rw [← hX] at HT1
  rw [← hY] at HT2
  unfold TakenN at HT1 HT2
  dsimp only at HT1 HT2
  have HXE := hide hX
  have HYE := hide hY
  clear hX hY h2
  go_wp2_with fail
  refine (HT1.out _ HB2.out).mono ?_
  rintro e W3 ⟨xl, xt, rfl, hl3, hk3, he3, ht3, hi3, hf3, hg3, hb3⟩
  obtain ⟨xla, xlc, hxl⟩ : ∃ a c, xl = .slice a X.st.L.length c := by
    obtain ⟨a, c, h, -⟩ := hl3
    exact ⟨a, c, h⟩
  obtain ⟨xta, xtc, hxt⟩ := ht3.shape
  subst hxl hxt
  have HSX3 : Hid (SnV W3 (.agg #[.int .i64 X.idx, .int .i64 X.st.kind, .slice xla X.st.L.length xlc, .bool X.st.shut, .int .i64 X.st.eng, .slice xta X.tab.length xtc]) X) := hide ⟨_, _, rfl, hl3, hk3, he3, ht3, hi3⟩
  have HX3 := hide (HX2.out.below hb3 (Nat.le_refl _))
  have HB3 := hide (HB2.out.trans (hb3.mono HB2.out.size))
  clear hl3 ht3 hf3 hg3 hb3 hk3 he3 hi3 HX2 HB2 q0 q1 q2 q3 q4 q5 HT1
  obtain ⟨W4, hW4⟩ : ∃ W4, W4 = W3.alloc (.cells #[.int .i64 X.idx, .int .i64 X.st.kind, .slice xla X.st.L.length xlc, .bool X.st.shut, .int .i64 X.st.eng, .slice xta X.tab.length xtc] 27) := ⟨_, rfl⟩
  have hb34 : Below W3.heap.size W3 W4 := by rw [hW4]; exact (Below.refl _ _).alloc (Nat.le_refl _) _
  have HBX4 : Hid (Bn W4 W3.heap.size #[.int .i64 X.idx, .int .i64 X.st.kind, .slice xla X.st.L.length xlc, .bool X.st.shut, .int .i64 X.st.eng, .slice xta X.tab.length xtc]) := hide (by rw [hW4]; exact heap_alloc_new W3 _)
  have HX4 : Hid (Bn W4 w.heap.size #[.int .i64 s.idx, .int .i64 s.st.kind, .slice la s.st.L.length lc, .bool s.st.shut, .int .i64 s.st.eng, .slice ta s.tab.length tc]) := hide (HX3.out.below hb34 (Nat.le_refl _))
  have HSX4 := hide (HSX3.out.below hb34 (Nat.le_refl _))
  have HB4 := hide (HB3.out.trans (hb34.mono HB3.out.size))
  have HW4 := hide hW4
  clear hb34 hW4 HX3 HSX3 HB3
  have HSK : Hid (∀ W, Below W4.heap.size W4 W → W.cell? ⟨w.heap.size, 0, none⟩ = some (.int .i64 s.idx) ∧ W.cell? ⟨w.heap.size, 1, none⟩ = some (.int .i64 s.st.kind) ∧ W.cell? ⟨w.heap.size, 2, none⟩ = some (.slice la s.st.L.length lc) ∧ W.cell? ⟨w.heap.size, 3, none⟩ = some (.bool s.st.shut) ∧ W.cell? ⟨w.heap.size, 4, none⟩ = some (.int .i64 s.st.eng) ∧ W.cell? ⟨w.heap.size, 5, none⟩ = some (.slice ta s.tab.length tc)) := hide (fun W h => by
    have hx := HX4.out.below h (Nat.le_refl _)
    exact ⟨(hx.cell 0).1, (hx.cell 1).1, (hx.cell 2).1, (hx.cell 3).1, (hx.cell 4).1, (hx.cell 5).1⟩)
  go_upto_region 6 with fail
  rw [← HW4.out]
  go_cut [11, 12] (fun vb vf wc => ∃ N yla ylc yta ytc, vb = .pointer (some ⟨N, 0, none⟩) ∧ vf = .int .i64 ey ∧ Hid (Bn wc N #[.int .i64 Y.idx, .int .i64 Y.st.kind, .slice yla Y.st.L.length ylc, .bool Y.st.shut, .int .i64 Y.st.eng, .slice yta Y.tab.length ytc]) ∧ Hid (SnV wc (.agg #[.int .i64 Y.idx, .int .i64 Y.st.kind, .slice yla Y.st.L.length ylc, .bool Y.st.shut, .int .i64 Y.st.eng, .slice yta Y.tab.length ytc]) Y) ∧ Hid (Bn wc w.heap.size #[.int .i64 s.idx, .int .i64 s.st.kind, .slice la s.st.L.length lc, .bool s.st.shut, .int .i64 s.st.eng, .slice ta s.tab.length tc]) ∧ Hid (Bn wc W3.heap.size #[.int .i64 X.idx, .int .i64 X.st.kind, .slice xla X.st.L.length xlc, .bool X.st.shut, .int .i64 X.st.eng, .slice xta X.tab.length xtc]) ∧ Hid (SnV wc (.agg #[.int .i64 X.idx, .int .i64 X.st.kind, .slice xla X.st.L.length xlc, .bool X.st.shut, .int .i64 X.st.eng, .slice xta X.tab.length xtc]) X) ∧ Hid (Below w.heap.size w wc))
  case first =>
    go_region_held (fun w' => w'.cell? ⟨w.heap.size, 0, none⟩ = some (.int .i64 s.idx) ∧ w'.cell? ⟨w.heap.size, 1, none⟩ = some (.int .i64 s.st.kind) ∧ w'.cell? ⟨w.heap.size, 2, none⟩ = some (.slice la s.st.L.length lc) ∧ w'.cell? ⟨w.heap.size, 3, none⟩ = some (.bool s.st.shut) ∧ w'.cell? ⟨w.heap.size, 4, none⟩ = some (.int .i64 s.st.eng) ∧ w'.cell? ⟨w.heap.size, 5, none⟩ = some (.slice ta s.tab.length tc)) (first | (refine HSK.out _ ?_; first | assumption | (with_reducible exact (Below.refl _ _).drew) | (with_reducible exact ((Below.refl _ _).alloc (Nat.le_refl _) _).drew) | (with_reducible exact hbk.alloc hbk.size _) | (with_reducible exact belowSixE hbk _ (Nat.le_refl _) _ _ _ _ _ _)))
      (first
        | (go_at_call 8; refine (HT2.out _ (by first | (with_reducible exact HB4.out.drew) | (with_reducible exact (HB4.out.alloc HB4.out.size _).drew))).mono ?_; rintro e W5 ⟨yl, yt, rfl, hl5, hk5, he5, ht5, hi5, hf5, hg5, hb5⟩; obtain ⟨yla, ylc, hyl⟩ : ∃ a c, yl = .slice a Y.st.L.length c := (by obtain ⟨a, c, h, -⟩ := hl5; exact ⟨a, c, h⟩); obtain ⟨yta, ytc, hyt⟩ := ht5.shape; subst hyl hyt; have hbk : Below W4.heap.size W4 W5 := (by first | exact ((Below.refl _ _).drew).trans hb5 | exact (((Below.refl _ _).alloc (Nat.le_refl _) _).drew).trans (hb5.mono (Nat.le_of_lt (by simp [World.drew])))); (try (have hz := (show Bn (W4.alloc (.cells #[.int .i64 0, .int .i64 0, .slice none 0 0, .bool false, .int .i64 0, .slice none 0 0] 27)).drew W4.heap.size #[.int .i64 0, .int .i64 0, .slice none 0 0, .bool false, .int .i64 0, .slice none 0 0] from heap_alloc_new W4 _).below hb5 (Nat.le_refl _); obtain ⟨z0, g0⟩ := hz.cell 0; obtain ⟨z1, g1⟩ := hz.cell 1; obtain ⟨z2, g2⟩ := hz.cell 2; obtain ⟨z3, g3⟩ := hz.cell 3; obtain ⟨z4, g4⟩ := hz.cell 4; obtain ⟨z5, g5⟩ := hz.cell 5))))
    all_goals
      have hp4 := (HS.out.below HB4.out (Nat.le_refl _)).parts
      go_wp2_with fail
      go_meet
      first
        | (have hzz := hz
           have hsz : (W4.alloc (.cells #[.int .i64 0, .int .i64 0, .slice none 0 0, .bool false, .int .i64 0, .slice none 0 0] 27)).drew.heap.size = W4.heap.size + 1 := by simp [World.drew]
           rw [hsz] at hf5 hg5
           obtain ⟨h7, h8, h6⟩ := taken_six hp4.1 hp4.2 hl5 hk5 he5 ht5 hi5 hf5 hg5 hz hbk
           exact ⟨W4.heap.size, yla, ylc, yta, ytc, rfl, rfl, hide h7, hide h8, hide (HX4.out.below h6 (Nat.le_refl _)), hide (HBX4.out.below h6 (Nat.le_refl _)), hide (HSX4.out.below h6 (Nat.le_refl _)), hide (HB4.out.trans (h6.mono HB4.out.size))⟩)
        | (have h6 : Below W4.heap.size W4 (W5.alloc (.cells #[.int .i64 Y.idx, .int .i64 Y.st.kind, .slice yla Y.st.L.length ylc, .bool Y.st.shut, .int .i64 Y.st.eng, .slice yta Y.tab.length ytc] 27)) := hbk.alloc hbk.size _
           exact ⟨W5.heap.size, yla, ylc, yta, ytc, rfl, rfl, hide (heap_alloc_new W5 _), hide ((show SnV W5 (.agg #[.int .i64 Y.idx, .int .i64 Y.st.kind, .slice yla Y.st.L.length ylc, .bool Y.st.shut, .int .i64 Y.st.eng, .slice yta Y.tab.length ytc]) Y from ⟨_, _, rfl, hl5, hk5, he5, ht5, hi5⟩).below ((Below.refl _ _).alloc (Nat.le_refl _) _) (Nat.le_refl _)), hide (HX4.out.below h6 (Nat.le_refl _)), hide (HBX4.out.below h6 (Nat.le_refl _)), hide (HSX4.out.below h6 (Nat.le_refl _)), hide (HB4.out.trans (h6.mono HB4.out.size))⟩)
  case rest =>
    obtain ⟨N, yla, ylc, yta, ytc, rfl, rfl, HYB, HYS, HXS, HXB, HXV, HBC⟩ := hcut
    clear HW4 HX4 HBX4 HSX4 HB4 HSK
    by_cases hex : ex = 0
    case neg =>
      have hex' : (ex == 0) = false := beq_eq_false_iff_ne.2 hex
      have hce := @takeN_cut_err s l K
      rw [← HXE.out, ← HYE.out] at hce
      dsimp only at hce
      by_cases hey : ey = 0
      case pos =>
        have hey' : (ey == 0) = true := beq_iff_eq.2 hey
        clear hce hex hey
        go_wp2
        go_ret
        exact ⟨rfl, HBC.out⟩
      have hey' : (ey == 0) = false := beq_eq_false_iff_ne.2 hey
      have hee : (ey == ex) = true := beq_iff_eq.2 (hce.resolve_left hey)
      clear hce hex hey
      go_wp2
      go_ret
      exact ⟨rfl, HBC.out⟩
    subst hex
    obtain ⟨WC, rfl⟩ : ∃ W, W = wc := ⟨_, rfl⟩
    have hcutT := takeN_cut (s := s) (l := l) K (by rw [← HXE.out])
    have hst := takeN_state l s (by rw [← HXE.out])
    rw [← HXE.out, ← HYE.out] at hcutT
    rw [← HXE.out] at hst
    dsimp only at hcutT hst
    obtain ⟨hey, hYX⟩ := hcutT
    subst hey
    have hfewL := takeN_fewL (s := s) (l := l.take K) f1 (by rw [← HYE.out])
    have hfewT := takeN_few (l.take K) s (by rw [← HYE.out])
    rw [← HYE.out] at hfewL hfewT
    dsimp only at hfewL hfewT
    rw [List.length_take] at hfewT
    have HST := hide hst
    have hback := fun W (h : Below w.heap.size w W) => (HR.out.below h (Nat.le_refl _)).back K hK
    have kb0 := fun W => run_back_recs W ra l.length rc K hK
    obtain ⟨LK, hLK⟩ : ∃ LK, LK = l.drop K := ⟨_, rfl⟩
    rw [← hLK] at hback hYX
    have hLKl : LK.length ≤ 60 := by rw [hLK, List.length_drop]; omega
    obtain ⟨ba, bc, hbe⟩ : ∃ ba bc, sliced ra K l.length rc 7 = .slice ba LK.length bc := by
      obtain ⟨a, c, h, -⟩ := hback w (Below.refl _ _)
      exact ⟨a, c, h⟩
    rw [hbe] at hback kb0
    have HBK := hide hback
    have HT3 : Hid (∀ W, Below w.heap.size w W → SnV W (.agg #[.int .i64 Y.idx, .int .i64 Y.st.kind, .slice yla Y.st.L.length ylc, .bool Y.st.shut, .int .i64 Y.st.eng, .slice yta Y.tab.length ytc]) Y → Calls Try.prog 8 #[.agg #[.int .i64 Y.idx, .int .i64 Y.st.kind, .slice yla Y.st.L.length ylc, .bool Y.st.shut, .int .i64 Y.st.eng, .slice yta Y.tab.length ytc], .slice ba LK.length bc] W fun e w' => TakenN W (.slice yla Y.st.L.length ylc) (.slice yta Y.tab.length ytc) LK (X, 0) e w') := hide (fun W h hy => by
      have ht := HTK.out _ _ _ _ _ _ Y _ LK W hy (HBK.out W h) (by omega) (by omega) (by omega)
      rw [hYX] at ht
      exact ht)
    unfold TakenN at HT3
    dsimp only at HT3
    have HSK : Hid (∀ W, Below WC.heap.size WC W → W.cell? ⟨N, 0, none⟩ = some (.int .i64 Y.idx) ∧ W.cell? ⟨N, 1, none⟩ = some (.int .i64 Y.st.kind) ∧ W.cell? ⟨N, 2, none⟩ = some (.slice yla Y.st.L.length ylc) ∧ W.cell? ⟨N, 3, none⟩ = some (.bool Y.st.shut) ∧ W.cell? ⟨N, 4, none⟩ = some (.int .i64 Y.st.eng) ∧ W.cell? ⟨N, 5, none⟩ = some (.slice yta Y.tab.length ytc)) := hide (fun W h => by
      have hx := HYB.out.below h (Nat.le_refl _)
      exact ⟨(hx.cell 0).1, (hx.cell 1).1, (hx.cell 2).1, (hx.cell 3).1, (hx.cell 4).1, (hx.cell 5).1⟩)
    have HWB : Hid (∀ W, Below WC.heap.size WC W → Below w.heap.size w W ∧ SnV W (.agg #[.int .i64 Y.idx, .int .i64 Y.st.kind, .slice yla Y.st.L.length ylc, .bool Y.st.shut, .int .i64 Y.st.eng, .slice yta Y.tab.length ytc]) Y) := hide (fun W h => ⟨HBC.out.trans (h.mono HBC.out.size), HYS.out.below h (Nat.le_refl _)⟩)
    clear hback hbe hLK hYX hst HT2 hcut
    go_upto_region 9 with fail
    go_cut [13, 14] (fun vb vg wd => ∃ M zla zlc zta ztc, vb = .pointer (some ⟨M, 0, none⟩) ∧ vg = .int .i64 0 ∧ Hid (Bn wd M #[.int .i64 X.idx, .int .i64 X.st.kind, .slice zla X.st.L.length zlc, .bool X.st.shut, .int .i64 X.st.eng, .slice zta X.tab.length ztc]) ∧ Hid (SnV wd (.agg #[.int .i64 X.idx, .int .i64 X.st.kind, .slice zla X.st.L.length zlc, .bool X.st.shut, .int .i64 X.st.eng, .slice zta X.tab.length ztc]) X) ∧ Hid (Below WC.heap.size WC wd))
    case first =>
      go_region_held (fun w' => w'.cell? ⟨N, 0, none⟩ = some (.int .i64 Y.idx) ∧ w'.cell? ⟨N, 1, none⟩ = some (.int .i64 Y.st.kind) ∧ w'.cell? ⟨N, 2, none⟩ = some (.slice yla Y.st.L.length ylc) ∧ w'.cell? ⟨N, 3, none⟩ = some (.bool Y.st.shut) ∧ w'.cell? ⟨N, 4, none⟩ = some (.int .i64 Y.st.eng) ∧ w'.cell? ⟨N, 5, none⟩ = some (.slice yta Y.tab.length ytc)) (first | (refine HSK.out _ ?_; first | assumption | (with_reducible exact (Below.refl _ _).drew) | (with_reducible exact ((Below.refl _ _).alloc (Nat.le_refl _) _).drew) | (with_reducible exact hbk.alloc hbk.size _) | (with_reducible exact belowSixE hbk _ (Nat.le_refl _) _ _ _ _ _ _)))
        (first
          | (go_at_call 8; refine (HT3.out _ (HWB.out _ (by first | (with_reducible exact (Below.refl _ _).drew) | (with_reducible exact ((Below.refl _ _).alloc (Nat.le_refl _) _).drew))).1 (HWB.out _ (by first | (with_reducible exact (Below.refl _ _).drew) | (with_reducible exact ((Below.refl _ _).alloc (Nat.le_refl _) _).drew))).2).mono ?_; rintro e W5 ⟨yl, yt, rfl, hl5, hk5, he5, ht5, hi5, hf5, hg5, hb5⟩; obtain ⟨zla, zlc, hyl⟩ : ∃ a c, yl = .slice a X.st.L.length c := (by obtain ⟨a, c, h, -⟩ := hl5; exact ⟨a, c, h⟩); obtain ⟨zta, ztc, hyt⟩ := ht5.shape; subst hyl hyt; have hbk : Below WC.heap.size WC W5 := (by first | exact ((Below.refl _ _).drew).trans hb5 | exact (((Below.refl _ _).alloc (Nat.le_refl _) _).drew).trans (hb5.mono (Nat.le_of_lt (by simp [World.drew])))); (try (have hz := (show Bn (WC.alloc (.cells #[.int .i64 0, .int .i64 0, .slice none 0 0, .bool false, .int .i64 0, .slice none 0 0] 27)).drew WC.heap.size #[.int .i64 0, .int .i64 0, .slice none 0 0, .bool false, .int .i64 0, .slice none 0 0] from heap_alloc_new WC _).below hb5 (Nat.le_refl _); obtain ⟨z0, g0⟩ := hz.cell 0; obtain ⟨z1, g1⟩ := hz.cell 1; obtain ⟨z2, g2⟩ := hz.cell 2; obtain ⟨z3, g3⟩ := hz.cell 3; obtain ⟨z4, g4⟩ := hz.cell 4; obtain ⟨z5, g5⟩ := hz.cell 5))))
      all_goals
        have hp4 := HYS.out.parts
        go_wp2_with fail
        go_meet
        first
          | (have hzz := hz
             have hsz : (WC.alloc (.cells #[.int .i64 0, .int .i64 0, .slice none 0 0, .bool false, .int .i64 0, .slice none 0 0] 27)).drew.heap.size = WC.heap.size + 1 := by simp [World.drew]
             rw [hsz] at hf5 hg5
             obtain ⟨h7, h8, h6⟩ := taken_six hp4.1 hp4.2 hl5 hk5 he5 ht5 hi5 hf5 hg5 hz hbk
             exact ⟨WC.heap.size, zla, zlc, zta, ztc, rfl, rfl, hide h7, hide h8, hide h6⟩)
          | (have h6 : Below WC.heap.size WC (W5.alloc (.cells #[.int .i64 X.idx, .int .i64 X.st.kind, .slice zla X.st.L.length zlc, .bool X.st.shut, .int .i64 X.st.eng, .slice zta X.tab.length ztc] 27)) := hbk.alloc hbk.size _
             exact ⟨W5.heap.size, zla, zlc, zta, ztc, rfl, rfl, hide (heap_alloc_new W5 _), hide ((show SnV W5 (.agg #[.int .i64 X.idx, .int .i64 X.st.kind, .slice zla X.st.L.length zlc, .bool X.st.shut, .int .i64 X.st.eng, .slice zta X.tab.length ztc]) X from ⟨_, _, rfl, hl5, hk5, he5, ht5, hi5⟩).below ((Below.refl _ _).alloc (Nat.le_refl _) _) (Nat.le_refl _)), hide h6⟩)
    case rest =>
      obtain ⟨M, zla, zlc, zta, ztc, rfl, rfl, HZB, HZS, HBD⟩ := hcut
      obtain ⟨WD, rfl⟩ : ∃ W, W = wc := ⟨_, rfl⟩
      have HXSD := hide (HXS.out.below HBD.out (Nat.le_refl _))
      have HXBD := hide (HXB.out.below HBD.out (Nat.le_refl _))
      have HXVD := hide (HXV.out.below HBD.out (Nat.le_refl _))
      have HWD := hide (HBC.out.trans (HBD.out.mono HBC.out.size))
      clear HYB HYS HXS HXB HXV HBC HBD HSK HWB HT3 HTK HBK kb0
      obtain ⟨hrok, hao⟩ : (∀ r ∈ l, RecOk r) ∧ (l = [] ∨ ∃ b off, ra = some ⟨b, off, none⟩ ∧ ∀ j, j < l.length → RecAt w b (off + j * 7) (l.getD j zeroR)) := by
        obtain ⟨ao, cap, e, _, _, _, h1, h2⟩ := HR.out
        simp only [Value.slice.injEq] at e
        rw [← e.1] at h2
        exact ⟨h1, h2⟩
      have HROK := hide hrok
      have HAO := hide hao
      have HSNO : Hid (∀ i, i < l.length → (l.take (i + 1)).map (fun r => r.op) = (l.take i).map (fun r => r.op) ++ [(l.getD i zeroR).op]) := hide (fun i hi => ops_snoc hi)
      have HWW : Hid (∀ W, Below WD.heap.size WD W → Below w.heap.size w W) := hide (fun W h => HWD.out.trans (h.mono HWD.out.size))
      have hok9 : I64 X.idx := by
        obtain ⟨_, _, _, _, _, _, _, h⟩ := HXVD.out
        exact h
      have hsum := HST.out.2
      have hb1 : s.idx + (l.length : Int) ≤ 9223372036854775807 := by rw [← hsum]; exact hok9.2
      have hb0 : -9223372036854775808 ≤ s.idx + (l.length : Int) := by rw [← hsum]; exact hok9.1
      have hide9 : (X.idx == s.idx + (l.length : Int)) = true := beq_iff_eq.2 hsum
      clear hrok hao hok9 hsum
      go_wp2
      go_loopw [15, 16] (fun vo vi wr => ∃ i : Nat, vi = .int .i64 (i : Int) ∧ i ≤ l.length ∧ Hid (OwnO wr WD.heap.size vo ((l.take i).map (fun r => r.op))) ∧ Hid (Below WD.heap.size WD wr)) (fun _ vi _ => l.length - (intOf vi).toNat)
      case atStart => exact ⟨0, rfl, Nat.zero_le _, OwnO.nil _ _, Below.refl _ _⟩
      case round =>
        obtain ⟨i, rfl, hi, hO, hBr⟩ := hrel
        by_cases hlt : i < l.length
        case pos =>
          rcases HAO.out with h0 | ⟨c, off, hra, hc⟩
          · rw [h0] at hlt; simp at hlt
          subst hra
          have hck := hc i hlt
          obtain ⟨-, -, -, c3, c4, c5, -⟩ := hck.keep ((HWW.out _ hBr.out).block c hck.lt)
          have HSk := hide (HSNO.out i hlt)
          have hPl : ((l.take i).map (fun r => r.op)).length ≤ 1000000 := by rw [List.length_map, List.length_take]; omega
          have hsz := hBr.out.size
          obtain ⟨P2, hP2⟩ : ∃ P2, P2 = (l.take (i + 1)).map (fun r => r.op) := ⟨_, rfl⟩
          rw [← hP2] at HSk
          have HP2 := hide hP2
          generalize (l.take i).map (fun r => r.op) = P at *
          generalize l.getD i zeroR = r at *
          have hlt' : (i : Int) < (l.length : Int) := by omega
          clear hc hck hP2
          go_wp2_with (at_builtin; refine wpList_append_opn _ rfl _ _ rfl WD.heap.size _ P rfl hO.out r.op rfl hPl hsz ?_)
          intro v4 W4 ho4 hb4
          rw [← HSk.out] at ho4
          have HO4 := hide ho4
          have HB4 := hide (hBr.out.trans hb4)
          clear ho4 hb4
          go_wp2
          go_roundw
          case rel => exact ⟨i + 1, by go_num, by omega, hide (by rw [← HP2.out]; exact HO4.out), HB4⟩
          case measure => simp [intOf]; omega
        have hlt' : ¬ (i : Int) < (l.length : Int) := by omega
        have eil : l.take i = l := List.take_of_length_le (by omega)
        rw [eil] at hO
        have HOK : Hid (∀ o ∈ l.map (fun r => r.op), OpOk o) := hide (fun o ho => by
          obtain ⟨r, hr, rfl⟩ := List.mem_map.1 ho
          exact (HROK.out r hr).2.2.2.1)
        have HRO := hide (hO.out.rd HOK.out)
        obtain ⟨oa, oc, hoe⟩ := hO.out.shape
        subst hoe
        have HFD : Hid (∀ W v1, RdO W v1 (l.map (fun r => r.op)) → StV W (.agg #[.int .i64 s.st.kind, .slice la s.st.L.length lc, .bool s.st.shut, .int .i64 s.st.eng]) s.st → Calls Try.prog 9 #[.agg #[.int .i64 s.st.kind, .slice la s.st.L.length lc, .bool s.st.shut, .int .i64 s.st.eng], v1] W fun e w' => Folded W (foldO s.st (l.map (fun r => r.op))) e w') := hide (fun W v1 h1 h2 => fold_any _ s.st v1 _ W h2 h1 (by rw [List.length_map]; omega) (by omega))
        have HSV : Hid (∀ W, Below w.heap.size w W → StV W (.agg #[.int .i64 s.st.kind, .slice la s.st.L.length lc, .bool s.st.shut, .int .i64 s.st.eng]) s.st) := hide (fun W h => (HS.out.below h (Nat.le_refl _)).state)
        have HTX : Hid ((foldO s.st (l.map (fun r => r.op))).1 = X.st) := hide HST.out.1.symm
        unfold Folded at HFD
        rw [HTX.out] at HFD
        have hol : (l.map (fun r => r.op)).length = l.length := List.length_map _
        rw [hol] at HRO hO ⊢
        generalize (foldO s.st (l.map (fun r => r.op))).2 = outs at *
        generalize l.map (fun r => r.op) = OPS at *
        have HXSR := hide (HXSD.out.below hBr.out (Nat.le_refl _))
        have HXBR := hide (HXBD.out.below hBr.out (Nat.le_refl _))
        have HXVR := hide (HXVD.out.below hBr.out (Nat.le_refl _))
        have HZBR := hide (HZB.out.below hBr.out (Nat.le_refl _))
        have HZSR := hide (HZS.out.below hBr.out (Nat.le_refl _))
        have HWR := hide (HWW.out _ hBr.out)
        clear HXSD HXBD HXVD HZB HZS hBr hO HOK hol eil HTX
        obtain ⟨p1, -⟩ := HXSR.out.cell 1
        obtain ⟨p2, -⟩ := HXSR.out.cell 2
        obtain ⟨p3, -⟩ := HXSR.out.cell 3
        obtain ⟨p4, -⟩ := HXSR.out.cell 4
        go_wp2_with fail
        refine (HFD.out _ _ HRO.out (HSV.out _ HWR.out)).mono ?_
        rintro e W6 ⟨tl, vo6, rfl, htl, htk, hte, hto, hb6⟩
        obtain ⟨tla, tlc, htle⟩ : ∃ a c, tl = .slice a X.st.L.length c := by
          obtain ⟨a, c, h, -⟩ := htl
          exact ⟨a, c, h⟩
        subst htle
        obtain ⟨NT, hNT⟩ : ∃ N, N = W6.heap.size := ⟨_, rfl⟩
        obtain ⟨WA, hWA⟩ : ∃ V, V = W6.alloc (.cells #[.int .i64 X.st.kind, .slice tla X.st.L.length tlc, .bool X.st.shut, .int .i64 X.st.eng] 24) := ⟨_, rfl⟩
        have hbA : Below W6.heap.size W6 WA := by rw [hWA]; exact (Below.refl _ _).alloc (Nat.le_refl _) _
        have hb6A := hb6.trans (hbA.mono hb6.size)
        have HTB : Hid (WA.heap[NT]? = some (.cells #[.int .i64 X.st.kind, .slice tla X.st.L.length tlc, .bool X.st.shut, .int .i64 X.st.eng] 24 (0, 0))) := hide (by rw [hWA, hNT]; exact heap_alloc_new W6 _)
        have HTV : Hid (StV WA (.agg #[.int .i64 X.st.kind, .slice tla X.st.L.length tlc, .bool X.st.shut, .int .i64 X.st.eng]) X.st) := hide ⟨_, rfl, htl.below hbA (Nat.le_refl _), htk, hte⟩
        have HXSA := hide (HXSR.out.below hb6A (Nat.le_refl _))
        have HXBA := hide (HXBR.out.below hb6A (Nat.le_refl _))
        have HXVA := hide (HXVR.out.below hb6A (Nat.le_refl _))
        have HZBA := hide (HZBR.out.below hb6A (Nat.le_refl _))
        have HZSA := hide (HZSR.out.below hb6A (Nat.le_refl _))
        have HWA := hide (HWR.out.trans (hb6A.mono HWR.out.size))
        have hNlt : NT < WA.heap.size := (Array.getElem?_eq_some_iff.1 HTB.out).1
        go_upto_region 16 with fail
        rw [← hWA, ← hNT]
        clear hWA hNT hbA hb6A hb6 htl htk hte hto p1 p2 p3 p4 HXSR HXBR HXVR HZBR HZSR HWR HFD HSV
        have HSN : Hid (∀ va vb W, SnV W va X → SnV W vb X → Calls Try.prog 10 #[va, vb] W fun e w' => e = .returned (.bool true) ∧ Below W.heap.size W w') := hide (fun va vb W h1 h2 => by
          have h := HSA.out va X vb X W h1 h2
          rw [decide_eq_true (show SameN X X from ⟨⟨rfl, rfl, rfl, rfl⟩, rfl, rfl⟩)] at h
          exact h)
        have HSS : Hid (∀ va vb W, StV W va X.st → StV W vb X.st → Calls Try.prog 11 #[va, vb] W fun e w' => e = .returned (.bool true) ∧ Below W.heap.size W w') := hide (fun va vb W h1 h2 => by
          have h := sameS_any va X.st vb X.st W h1 h2
          rw [decide_eq_true (show SameS X.st X.st from ⟨rfl, rfl, rfl, rfl⟩)] at h
          exact h)
        obtain ⟨x0, -⟩ := HXBA.out.cell 0
        obtain ⟨x1, -⟩ := HXBA.out.cell 1
        obtain ⟨x2, -⟩ := HXBA.out.cell 2
        obtain ⟨x3, -⟩ := HXBA.out.cell 3
        obtain ⟨x4, -⟩ := HXBA.out.cell 4
        obtain ⟨x5, -⟩ := HXBA.out.cell 5
        obtain ⟨y0, -⟩ := HZBA.out.cell 0
        obtain ⟨y1, -⟩ := HZBA.out.cell 1
        obtain ⟨y2, -⟩ := HZBA.out.cell 2
        obtain ⟨y3, -⟩ := HZBA.out.cell 3
        obtain ⟨y4, -⟩ := HZBA.out.cell 4
        obtain ⟨y5, -⟩ := HZBA.out.cell 5
        clear HSA HST
        go_wp2_with fail
        refine (HSN.out _ _ _ HXVA.out HZSA.out).mono ?_
        rintro e W7 ⟨rfl, hb7⟩
        have HXB7 := hide (HXBA.out.below hb7 (Nat.le_refl _))
        have HXS7 := hide (HXSA.out.below hb7 (Nat.le_refl _))
        have HXV7 := hide (HXVA.out.below hb7 (Nat.le_refl _))
        have HTV7 := hide (HTV.out.below hb7 (Nat.le_refl _))
        have ht7 := (hb7.block NT hNlt).trans HTB.out
        have HW7 := hide (HWA.out.trans (hb7.mono HWA.out.size))
        clear hb7 x0 x1 x2 x3 x4 x5 y0 y1 y2 y3 y4 y5 HXBA HXSA HXVA HZBA HZSA HTV HTB HWA
        obtain ⟨x1, -⟩ := HXB7.out.cell 1
        obtain ⟨x2, -⟩ := HXB7.out.cell 2
        obtain ⟨x3, -⟩ := HXB7.out.cell 3
        obtain ⟨x4, -⟩ := HXB7.out.cell 4
        have t0 : W7.cell? ⟨NT, 0, none⟩ = some (.int .i64 X.st.kind) := cell_of_row _ _ 0 _ _ _ ht7
        have t1 : W7.cell? ⟨NT, 1, none⟩ = some (.slice tla X.st.L.length tlc) := cell_of_row _ _ 1 _ _ _ ht7
        have t2 : W7.cell? ⟨NT, 2, none⟩ = some (.bool X.st.shut) := cell_of_row _ _ 2 _ _ _ ht7
        have t3 : W7.cell? ⟨NT, 3, none⟩ = some (.int .i64 X.st.eng) := cell_of_row _ _ 3 _ _ _ ht7
        clear ht7
        go_wp2_with fail
        refine (HSS.out _ _ _ HXV7.out.state HTV7.out).mono ?_
        rintro e W8 ⟨rfl, hb8⟩
        obtain ⟨z0, -⟩ := (HXB7.out.below hb8 (Nat.le_refl _)).cell 0
        obtain ⟨s0, -⟩ := (HXS7.out.below hb8 (Nat.le_refl _)).cell 0
        have HW8 := hide (HW7.out.trans (hb8.mono HW7.out.size))
        clear hb8 x1 x2 x3 x4 t0 t1 t2 t3
        go_wp2
        go_ret
        exact ⟨rfl, HW8.out⟩

theorem own : ownKnob Try.prog.godebug = none := by kernel_rfl
theorem laidOut : laidOutB Try.prog = true := by kernel_rfl

set_option linter.unusedVariables false in
set_option maxRecDepth 100000 in
theorem lifted (os : Os) (started : os.Started) (H : Type) (enc : TypeId × Value → H) :
    ReturnsInHanded {} Try.checked os 3 .any (Rows.snapshotPartsSpec.pre6 enc Try.prog Try.f3 Rows.snapshotPartsRow.domain false) (Rows.snapshotPartsSpec.post enc Try.prog Try.f3 false true false false) := by
  refine returnsInHanded_of_change (C := Try.checked) own started (by kernel_rfl) Try.func3
    (ChangeSpec.witness6 (enc := enc) (C := Try.checked) false ⟨#[], #[.agg #[.int .i64 0, .int .i64 0, .slice none 0 0, .bool false, .int .i64 0, .slice none 0 0], .slice none 0 0, .int .i64 0], []⟩ 8 (by kernel_rfl) (by kernel_rfl) (by kernel_rfl) (by kernel_rfl)) ?_
  intro W base args ds gs before hval0 hW hcnd _
  have hval : ∀ (j : Nat) t v, Try.f3.params[j]? = some t → args[j]? = some v → Value.okWide Try.prog W .any base t v := hval0
  have hW' := hW
  obtain ⟨p, q, hA0, hV, rfl, hfz, hnd⟩ := hW
  have hA : DataW.TrodAll enc Try.prog W 0 (fun _ => true) true Try.f3.params.toList args.toList ds p := hA0
  rw [Try.params3] at hA hval
  obtain ⟨v0, vs0, d0, ds0, p0, q0, hargs, rfl, rfl, h0, r0⟩ := trodAll_cons hA
  obtain ⟨v1, vs1, d1, ds1, p1, q1, rfl, rfl, rfl, h1, r1⟩ := trodAll_cons r0
  obtain ⟨v2, vs2, d2, ds2, p2, q2, rfl, rfl, rfl, h2, r2⟩ := trodAll_cons r1
  obtain ⟨rfl, rfl, rfl⟩ := trodAll_nil r2
  obtain rfl : args = #[v0, v1, v2] := by cases args; simp_all
  obtain ⟨rfl, rfl⟩ := trodVars_none hV
  have k0 := h0
  have lt0 : ∀ x ∈ p0, x.block < W.heap.size := by obtain ⟨m, hm⟩ := k0; exact DataW.trod_lt m _ _ _ hm
  obtain ⟨s0, w0⟩ := open_snap (hval 0 27 v0 rfl rfl) h0
  obtain ⟨a1, len1, cap1, rfl⟩ := okWide_slice Try.underlying28 (hval 1 28 v1 rfl rfl)
  have k1 := h1
  have lt1 : ∀ x ∈ p1, x.block < W.heap.size := by obtain ⟨m, hm⟩ := k1; exact DataW.trod_lt m _ _ _ hm
  obtain ⟨l1, w1⟩ : ∃ l, RdR W (.slice a1 len1 cap1) l := by
    obtain ⟨fuel, hf⟩ := h1
    obtain ⟨v, l, hcs, hr⟩ := open_recs hf
    simp [Value.cells] at hcs
    subst hcs
    exact ⟨l, hr⟩
  obtain ⟨a2, rfl, rfl, rfl, w2⟩ := open_int Try.underlying3 (hval 2 3 v2 rfl rfl) h2
  clear hA0 hval0
  refine (walk _ s0 _ l1 a2 W w0 w1 w2).mono fun e W' ⟨he, bel⟩ => ?_
  subst he
  exact ⟨_, rfl, _, _, _, [], _, [], hW', trodAll_mk1 (shut_bool Try.underlying4 _), (trodAll_cons_mk (Below.trod laidOut (by kernel_rfl) (of_decide_eq_true (by kernel_rfl)) k0 bel lt0) (trodAll_cons_mk (Below.trod laidOut (by kernel_rfl) (of_decide_eq_true (by kernel_rfl)) k1 bel lt1) (trodAll_cons_mk (shut_int Try.underlying3 w2) trodAll_mk0))), rfl, bel.frame _, fun h => by cases h⟩

theorem over : Rows.snapshotPartsRow.holds Try.pinned (OpenSpec.ofChange Rows.snapshotPartsSpec) :=
  OpenClaim.holds_of_wide 3 Try.f3 rfl rfl rfl rfl rfl rfl rfl ⟨rfl, rfl, rfl, rfl, rfl⟩ rfl rfl rfl rfl rfl (by kernel_rfl) Try.func3 (by kernel_rfl)
    (of_decide_eq_true (by kernel_rfl)) (by unfold Func.isWrapper; first | (rw [if_pos (by decide +kernel)]; kernel_rfl) | (rw [if_neg (by decide +kernel)]; exact ⟨rfl, rfl⟩))
    (fun os started H enc _ => lifted os started H enc)

end Go.Proofs.Ytanmjihiceibbab.snapshotParts
namespace Go.Proofs.Ytanmjihiceibbab

theorem snapshotParts_holds : Rows.SnapshotPartsSaid := snapshotParts.over

end Go.Proofs.Ytanmjihiceibbab
