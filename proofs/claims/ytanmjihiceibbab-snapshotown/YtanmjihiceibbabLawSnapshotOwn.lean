/- Proved: for all inputs the law SnapshotOwn answers true (and the call leaves all older memory as it was). No condition. -/
import Derived.Test.YtanmjihiceibbabSnapAwake
import Derived.Test.YtanmjihiceibbabOpenSnap
import Derived.Test.YtanmjihiceibbabOpenBlock
import Derived.OpenShut
import Derived.ChangeOld
namespace Go.Proofs.Ytanmjihiceibbab.snapshotOwn
open Go.ChangeShapes Go.WideShapes Go.ChangeAt Go.RowKit

theorem takeN_tab : ∀ (l : List Rec) (s : Snap), l ≠ [] → (takeN s l).2 = 0 → (takeN s l).1.tab ≠ []
  | [], _, h, _ => absurd rfl h
  | r :: l, s, _, h => by
    rw [takeN] at h ⊢
    by_cases h1 : r.idx ≠ s.idx
    · rw [if_pos h1] at h
      exact absurd h (by decide)
    rw [if_neg h1] at h ⊢
    by_cases h2 : ¬ FitsR r
    · rw [if_pos h2] at h
      exact absurd h (by decide)
    rw [if_neg h2] at h ⊢
    by_cases hl : l = []
    · subst hl
      rw [takeN]
      intro e
      have : (⟨r.proc, r.seq, (stepO s.st r.op).2⟩ : Ent) ∈ noteL s.tab ⟨r.proc, r.seq, (stepO s.st r.op).2⟩ := (noteL_mem _ _ _).2 (.inl rfl)
      have e2 : noteL s.tab ⟨r.proc, r.seq, (stepO s.st r.op).2⟩ = [] := e
      rw [e2] at this
      simp at this
    · exact takeN_tab l _ hl h

/-- A row of entries that has room. -/
def RowE (w : World) (g n : Nat) : Prop := ∃ cur, w.heap[g]? = some (.cells cur 47 (0, 0)) ∧ n * 3 ≤ cur.size

theorem RowE.lt {w : World} {g n : Nat} (h : RowE w g n) : g < w.heap.size := by
  obtain ⟨cur, h, _⟩ := h
  exact (Array.getElem?_eq_some_iff.1 h).1

theorem RowE.cell {w : World} {g n : Nat} (h : RowE w g n) {k : Nat} (hk : k < n) : ∃ x, w.cell? ⟨g, k * 3 + 1, none⟩ = some x ∧ w.frozen? ⟨g, k * 3 + 1, none⟩ = false := by
  obtain ⟨cur, h1, h2⟩ := h
  refine ⟨cur[k * 3 + 1]'(by omega), ?_, frozen_of_row w g _ _ _ h1⟩
  rw [cell_of_row w g (k * 3 + 1) _ _ _ h1, Array.getElem?_eq_getElem]

theorem RowE.set {w : World} {g n : Nat} (h : RowE w g n) (j : Nat) (x : Value) : RowE (w.setCell ⟨g, j, none⟩ x) g n := by
  obtain ⟨cur, h1, h2⟩ := h
  have := heap_setCell_same w g j _ _ x h1
  exact ⟨_, this, by simpa using h2⟩

theorem RowE.below {w w' : World} {g n B : Nat} (h : RowE w g n) (hb : Below B w w') (hB : w.heap.size ≤ B) : RowE w' g n := by
  have hl := h.lt
  obtain ⟨cur, h1, h2⟩ := h
  exact ⟨cur, (hb.block g (by omega)).trans h1, h2⟩

theorem ownE_row {w : World} {B : Nat} {ao : Option Addr} {n cap : Nat} {l : List Ent} (h : OwnE w B (.slice ao n cap) l) (hl : l ≠ []) : ∃ g, ao = some ⟨g, 0, none⟩ ∧ B ≤ g ∧ RowE w g l.length := by
  rcases h.2 with ⟨hv, hn⟩ | ⟨g, cap, cur, hv, hb, hg, hnc, hcm, hcs, htake⟩
  · exact absurd (List.eq_nil_of_length_eq_zero hn) hl
  · simp only [Value.slice.injEq] at hv
    exact ⟨g, hv.1, hb, cur, hg, by rw [hcs]; omega⟩

set_option maxRecDepth 100000 in
set_option maxHeartbeats 4000000 in
theorem walk (v : Value) (s : Snap) (vr : Value) (l : List Rec) (w : World) (hs : SnV w v s) (hr : RdR w vr l) :
    Calls Try.prog 5 #[v, vr] w fun e w' => e = .returned (.bool true) ∧ Below w.heap.size w w' := by
  have HA := hide (fun w => awake9_any w)
  have HFW := hide (fun v W h => fewN_any v s W h)
  have HSA := hide (fun va a vb b w h1 h2 => sameN_any va a vb b w h1 h2)
  have HR := hide hr
  have hmr : (l.length : Int) ≤ 9223372036854775807 := by
    obtain ⟨_, c, _, h1, h2, _⟩ := hr
    unfold maxLen at h2
    omega
  obtain ⟨ra, rc, hvr⟩ : ∃ ra rc, vr = .slice ra l.length rc := by
    obtain ⟨a, c, h, -⟩ := hr
    exact ⟨a, c, h⟩
  subst hvr
  obtain ⟨la, lc, ta, tc, hv⟩ := hs.shape
  subst hv
  have HLO : Hid (s.st.L = [] ∨ ∀ b, (Value.slice la s.st.L.length lc).ownBlock = some b → b < w.heap.size) := hide (by
    obtain ⟨vl, vt, e, hl, -⟩ := hs
    have e' : vl = .slice la s.st.L.length lc := by
      injection e with e
      have := congrArg (fun a : Array Value => a[2]?) e
      simpa using this.symm
    rw [← e']
    exact hl.old)
  have HS := hide hs
  have HTK : Hid (s.st.L.length ≤ 300 ∧ s.tab.length ≤ 100 → l.length ≤ 60 → ∀ W, Below w.heap.size w W → Calls Try.prog 8 #[.agg #[.int .i64 s.idx, .int .i64 s.st.kind, .slice la s.st.L.length lc, .bool s.st.shut, .int .i64 s.st.eng, .slice ta s.tab.length tc], .slice ra l.length rc] W fun e w' => TakenN W (.slice la s.st.L.length lc) (.slice ta s.tab.length tc) l (takeN s l) e w') := hide (fun h1 h2 W h => takeN_any _ _ _ _ _ _ s _ l W (HS.out.below h (Nat.le_refl _)) (HR.out.below h (Nat.le_refl _)) (by omega) (by omega) (by omega))
  have HTT := hide (takeN_tab l s)
  have HB0 : Hid (∀ X, Below w.heap.size w (w.alloc X)) := fun X => (Below.refl _ _).alloc (Nat.le_refl _) X
  have HX0 : Hid (∀ cs, Bn (w.alloc (.cells cs 27)) w.heap.size cs) := fun cs => heap_alloc_new w _
  clear hs hr
  obtain ⟨⟨T, er⟩, hTN⟩ : ∃ x, x = takeN s l := ⟨_, rfl⟩
  rw [← hTN] at HTK HTT
  dsimp only at HTT
  unfold TakenN at HTK
  dsimp only at HTK
  clear hTN
  go_enter Try.func5, Try.ntmps5
  go_wp2_with fail
  refine (HA.out _).mono ?_
  rintro e W1 ⟨rfl, hb1⟩
  have hx1 : Bn W1 w.heap.size _ := (HX0.out _).below hb1 (Nat.le_refl _)
  have HX1 := hide hx1
  have HB1 := hide ((HB0.out _).trans (hb1.mono (HB0.out _).size))
  obtain ⟨p0, -⟩ := hx1.cell 0
  obtain ⟨p1, -⟩ := hx1.cell 1
  obtain ⟨p2, -⟩ := hx1.cell 2
  obtain ⟨p3, -⟩ := hx1.cell 3
  obtain ⟨p4, -⟩ := hx1.cell 4
  obtain ⟨p5, -⟩ := hx1.cell 5
  clear hb1 hx1 HA HX0
  go_wp2_with fail
  refine (HFW.out _ _ (HS.out.below HB1.out (Nat.le_refl _))).mono ?_
  rintro e W2 ⟨rfl, hb2⟩
  have hx2 : Bn W2 w.heap.size _ := HX1.out.below hb2 (Nat.le_refl _)
  have HX2 := hide hx2
  have HB2 := hide (HB1.out.trans (hb2.mono HB1.out.size))
  obtain ⟨q0, -⟩ := hx2.cell 0
  obtain ⟨q1, -⟩ := hx2.cell 1
  obtain ⟨q2, -⟩ := hx2.cell 2
  obtain ⟨q3, -⟩ := hx2.cell 3
  obtain ⟨q4, -⟩ := hx2.cell 4
  obtain ⟨q5, -⟩ := hx2.cell 5
  clear hb2 hx2 HX1 HB1 p0 p1 p2 p3 p4 p5 HFW
  by_cases hf : s.st.L.length ≤ 300 ∧ s.tab.length ≤ 100
  case neg =>
    rw [decide_eq_false hf]
    clear hf
    go_wp2
    go_ret
    exact ⟨rfl, HB2.out⟩
  rw [decide_eq_true hf]
  have HF := hide hf
  clear hf
  by_cases hM : (l.length : Int) ≤ 60
  case neg =>
    have hM' : 60 < (l.length : Int) := by omega
    clear hM
    go_wp2
    go_ret
    exact ⟨rfl, HB2.out⟩
  have hMd : decide (60 < (l.length : Int)) = false := decide_eq_false (by omega)
  have hMn : decide (60 < l.length) = false := decide_eq_false (by omega)
  have HT1 := hide (HTK.out HF.out (by omega))
  clear HTK HF
  go_wp2_with fail
  refine (HT1.out _ HB2.out).mono ?_
  rintro e W3 ⟨xl, xt, rfl, hl3, hk3, he3, ht3, hi3, hf3, hg3, hb3⟩
  obtain ⟨xla, xlc, hxl⟩ : ∃ a c, xl = .slice a T.st.L.length c := by
    obtain ⟨a, c, h, -⟩ := hl3
    exact ⟨a, c, h⟩
  obtain ⟨xta, xtc, hxt⟩ := ht3.shape
  subst hxl hxt
  have HXL := hide HX2.out.lt
  have HX3 := hide (HX2.out.below hb3 (Nat.le_refl _))
  have HB3 := hide (HB2.out.trans (hb3.mono HB2.out.size))
  have HG3 := hide hg3
  have HZ23 := hide hb3.size
  clear hl3 ht3 hf3 hg3 hb3 HX2 q0 q1 q2 q3 q4 q5
  have HBA : Hid (∀ X, Below W3.heap.size W3 (W3.alloc X)) := fun X => (Below.refl _ _).alloc (Nat.le_refl _) X
  have HXS : Hid (∀ cs, Bn (W3.alloc (.cells cs 27)) W3.heap.size cs) := fun cs => heap_alloc_new W3 _
  obtain ⟨W4, hW4⟩ : ∃ W4, W4 = W3.alloc (.cells #[.int .i64 T.idx, .int .i64 T.st.kind, .slice xla T.st.L.length xlc, .bool T.st.shut, .int .i64 T.st.eng, .slice xta T.tab.length xtc] 27) := ⟨_, rfl⟩
  have hb34 := HBA.out (.cells #[.int .i64 T.idx, .int .i64 T.st.kind, .slice xla T.st.L.length xlc, .bool T.st.shut, .int .i64 T.st.eng, .slice xta T.tab.length xtc] 27)
  have hxs := HXS.out #[.int .i64 T.idx, .int .i64 T.st.kind, .slice xla T.st.L.length xlc, .bool T.st.shut, .int .i64 T.st.eng, .slice xta T.tab.length xtc]
  rw [← hW4] at hb34 hxs
  have HS4 : Hid (W4.heap.size = W3.heap.size + 1) := hide (by rw [hW4]; simp)
  have HBX4 := hide hxs
  have hx4 : Bn W4 w.heap.size _ := HX3.out.below hb34 (Nat.le_refl _)
  have HX4 := hide hx4
  have HB4 := hide (HB3.out.trans (hb34.mono HB3.out.size))
  have HB34 := hide hb34
  have HW4 := hide hW4
  obtain ⟨p0, -⟩ := hx4.cell 0
  obtain ⟨p1, -⟩ := hx4.cell 1
  obtain ⟨p2, -⟩ := hx4.cell 2
  obtain ⟨p3, -⟩ := hx4.cell 3
  obtain ⟨p4, -⟩ := hx4.cell 4
  obtain ⟨p5, -⟩ := hx4.cell 5
  clear hb34 hxs hx4 hW4 HXS HBA HX3
  go_upto_region 6 with fail
  rw [← HW4.out]
  go_wp2_with fail
  refine (HT1.out _ HB4.out).mono ?_
  rintro e W5 ⟨yl, yt, rfl, hl5, hk5, he5, ht5, hi5, hf5, hg5, hb5⟩
  obtain ⟨yla, ylc, hyl⟩ : ∃ a c, yl = .slice a T.st.L.length c := by
    obtain ⟨a, c, h, -⟩ := hl5
    exact ⟨a, c, h⟩
  obtain ⟨yta, ytc, hyt⟩ := ht5.shape
  subst hyl hyt
  have HX5 := hide (HX4.out.below hb5 (Nat.le_refl _))
  have HBX5 := hide (HBX4.out.below hb5 (Nat.le_refl _))
  have HB5 := hide (HB4.out.trans (hb5.mono HB4.out.size))
  have HB35 := hide (HB34.out.trans (hb5.mono (by have := HS4.out; omega)))
  have HL5 := hide hl5
  have HT5 := hide ht5
  have HF5 := hide hf5
  have HG5 := hide hg5
  have HK5 := hide hk5
  have HE5 := hide he5
  have HI5 := hide hi5
  have HZ45 := hide hb5.size
  clear hl5 ht5 hf5 hg5 hb5 HX4 HBX4 HB4 p0 p1 p2 p3 p4 p5 hk3 he3 hi3 hk5 he5 hi5
  have HBA : Hid (∀ X, Below W5.heap.size W5 (W5.alloc X)) := fun X => (Below.refl _ _).alloc (Nat.le_refl _) X
  have hnee : (er != er) = false := by rw [bne_eq_false_iff_eq]
  by_cases h0 : er = 0
  case neg =>
    have hne : (er != 0) = true := by rw [bne_iff_ne]; exact h0
    have HBF := hide (fun X => HB5.out.trans ((HBA.out X).mono HB5.out.size))
    clear h0
    go_wp2
    go_ret
    exact ⟨rfl, HBF.out _⟩
  subst h0
  by_cases hl0 : l = []
  · have hlen : l.length = 0 := by rw [hl0]; rfl
    have hlz : ((l.length : Int) == 0) = true := by rw [hlen]; rfl
    have HBF := hide (fun X => HB5.out.trans ((HBA.out X).mono HB5.out.size))
    clear hl0 hlen
    go_wp2
    go_ret
    exact ⟨rfl, HBF.out _⟩
  have hlp : l.length ≠ 0 := fun e => hl0 (List.eq_nil_of_length_eq_zero e)
  have hlz : ((l.length : Int) == 0) = false := beq_eq_false_iff_ne.2 (by omega)
  have HTN := hide (HTT.out hl0 rfl)
  have HOX : Hid (OwnE W3 W2.heap.size (.slice xta T.tab.length xtc) T.tab) := hide (by
    rcases HG3.out with ⟨h, _⟩ | h
    · exact absurd h hl0
    · exact h)
  have HOY : Hid (OwnE W5 W4.heap.size (.slice yta T.tab.length ytc) T.tab) := hide (by
    rcases HG5.out with ⟨h, _⟩ | h
    · exact absurd h hl0
    · exact h)
  obtain ⟨g, hg, hBg, hRow⟩ := ownE_row HOX.out HTN.out
  subst hg
  have HGL : Hid (W2.heap.size ≤ g) := hide hBg
  have HGU : Hid (g < W3.heap.size) := hide hRow.lt
  have HRW := hide (hRow.below HB35.out (Nat.le_refl _))
  have HTM : Hid ((T.tab.length : Int) ≤ 9223372036854775807) := hide (by
    obtain ⟨_, c, _, h1, h2, _⟩ := HT5.out
    unfold maxLen at h2
    omega)
  clear hBg hRow hl0 hlp HTT HOX HG3 HG5
  obtain ⟨W6, hW6⟩ : ∃ W6, W6 = W5.alloc (.cells #[.int .i64 T.idx, .int .i64 T.st.kind, .slice yla T.st.L.length ylc, .bool T.st.shut, .int .i64 T.st.eng, .slice yta T.tab.length ytc] 27) := ⟨_, rfl⟩
  have hb56 : Below W5.heap.size W5 W6 := by rw [hW6]; exact HBA.out _
  have HBY6 : Hid (Bn W6 W5.heap.size #[.int .i64 T.idx, .int .i64 T.st.kind, .slice yla T.st.L.length ylc, .bool T.st.shut, .int .i64 T.st.eng, .slice yta T.tab.length ytc]) := hide (by rw [hW6]; exact heap_alloc_new W5 _)
  have HX6 := hide (HX5.out.below hb56 (Nat.le_refl _))
  have HBX6 := hide (HBX5.out.below hb56 (Nat.le_refl _))
  have HB6 := hide (HB5.out.trans (hb56.mono HB5.out.size))
  have HL6 := hide (HL5.out.below hb56 (Nat.le_refl _))
  have HT6 := hide (HT5.out.below hb56 (Nat.le_refl _))
  have HRW6 := hide (HRW.out.below hb56 (Nat.le_refl _))
  have HYF := hide HOY.out.fresh
  have HW6 := hide hW6
  have htm := HTM.out
  clear hb56 hW6 HBA HX5 HBX5 HL5 HT5 HRW
  go_upto_region 7 with fail
  rw [← HW6.out]
  go_wp2
  go_loopw [11] (fun vi wr => ∃ k : Nat, vi = .int .i64 (k : Int) ∧ k ≤ T.tab.length ∧ Hid (RowE wr g T.tab.length) ∧ Hid (But g g W6 wr)) (fun vi _ => T.tab.length - (intOf vi).toNat)
  case atStart => exact ⟨0, rfl, Nat.zero_le _, HRW6, But.refl _ _ _⟩
  case round =>
    obtain ⟨k, rfl, hk, hRw, hBt⟩ := hrel
    have hne3 : W3.heap.size ≠ g := by have := HGU.out; omega
    have hbx : Bn wr W3.heap.size _ := (hBt.out.block _ HBX6.out.lt hne3 hne3).trans HBX6.out
    obtain ⟨b5, -⟩ := hbx.cell 5
    by_cases hlt : k < T.tab.length
    · have hki : (k : Int) < (T.tab.length : Int) := by omega
      obtain ⟨x, kc, kf⟩ := hRw.out.cell hlt
      have HR2 := hide (hRw.out.set (k * 3 + 1) (.int .i64 77))
      have HB2' := hide (hBt.out.set g (k * 3 + 1) (.inl rfl) (.int .i64 77))
      clear hbx
      go_wp2
      go_roundw
      case rel => exact ⟨k + 1, by go_num, by omega, HR2, HB2'⟩
      case measure => simp [intOf]; omega
    have hnlt : ¬ (k : Int) < (T.tab.length : Int) := by omega
    have hnw : w.heap.size ≠ g := by have := HX6.out.lt; have := HGL.out; have := HB2.out.size; have := HXL.out; omega
    have hn5 : W5.heap.size ≠ g := by have := HGU.out; have := HZ45.out; have := HS4.out; omega
    have hxw : Bn wr w.heap.size _ := (hBt.out.block _ HX6.out.lt hnw hnw).trans HX6.out
    have HBY := hide ((hBt.out.block _ HBY6.out.lt hn5 hn5).trans HBY6.out)
    have HGW : Hid (w.heap.size ≤ g) := hide (by have := HGL.out; have := HB2.out.size; omega)
    have HBW := hide (below_but HB6.out hBt.out HB6.out.size HGW.out HGW.out)
    have HLW := hide (HL6.out.but hBt.out (by
      rcases HF5.out with h | h
      · rcases HLO.out with h2 | h2
        · left
          have h3 : T.st.L.length = s.st.L.length := by
            simp only [Value.slice.injEq] at h
            exact h.2.1
          rw [h2] at h3
          exact List.eq_nil_of_length_eq_zero h3
        · right
          intro b hb
          rw [h] at hb
          have := h2 b hb
          have := HGW.out
          omega
      · right
        intro b hb
        have := h b hb
        have := HGU.out
        have := HS4.out
        omega))
    have HTW := hide (HT6.out.but hBt.out (.inr fun b hb => by
      have := HYF.out b hb
      have := HGU.out
      have := HS4.out
      omega))
    have HSY : Hid (SnV wr (.agg #[.int .i64 T.idx, .int .i64 T.st.kind, .slice yla T.st.L.length ylc, .bool T.st.shut, .int .i64 T.st.eng, .slice yta T.tab.length ytc]) T) := hide ⟨_, _, rfl, HLW.out, HK5.out, HE5.out, HTW.out, HI5.out⟩
    have hrf : decide (SameN T T) = true := decide_eq_true ⟨⟨rfl, rfl, rfl, rfl⟩, rfl, rfl⟩
    have HSS0 := hide (fun va vb W h1 h2 => HSA.out va T vb T W h1 h2)
    rw [hrf] at HSS0
    obtain ⟨p0, -⟩ := hxw.cell 0
    obtain ⟨p1, -⟩ := hxw.cell 1
    obtain ⟨p2, -⟩ := hxw.cell 2
    obtain ⟨p3, -⟩ := hxw.cell 3
    obtain ⟨p4, -⟩ := hxw.cell 4
    obtain ⟨p5, -⟩ := hxw.cell 5
    clear hbx hxw hRw hBt HX6 HBX6 HBY6 HB6 HL6 HT6 HLW HTW hrf
    go_wp2_with fail
    refine (HT1.out _ HBW.out).mono ?_
    rintro e W7 ⟨zl, zt, rfl, hl7, hk7, he7, ht7, hi7, -, -, hb7⟩
    obtain ⟨zla, zlc, hzl⟩ : ∃ a c, zl = .slice a T.st.L.length c := by
      obtain ⟨a, c, h, -⟩ := hl7
      exact ⟨a, c, h⟩
    obtain ⟨zta, ztc, hzt⟩ := ht7.shape
    subst hzl hzt
    have HSZ : Hid (SnV W7 (.agg #[.int .i64 T.idx, .int .i64 T.st.kind, .slice zla T.st.L.length zlc, .bool T.st.shut, .int .i64 T.st.eng, .slice zta T.tab.length ztc]) T) := hide ⟨_, _, rfl, hl7, hk7, he7, ht7, hi7⟩
    have HSY7 := hide (HSY.out.below hb7 (Nat.le_refl _))
    have hby7 : Bn W7 W5.heap.size #[.int .i64 T.idx, .int .i64 T.st.kind, .slice yla T.st.L.length ylc, .bool T.st.shut, .int .i64 T.st.eng, .slice yta T.tab.length ytc] := (hb7.block _ (World.block_lt_of_cell? _ _ ((show Bn wr W5.heap.size _ from HBY.out).cell 0).1)).trans HBY.out
    have HB7 := hide (HBW.out.trans (hb7.mono HBW.out.size))
    have HBC : Hid (∀ X, Below W7.heap.size W7 (W7.alloc X)) := fun X => (Below.refl _ _).alloc (Nat.le_refl _) X
    have hpk : ∀ X j y, W7.cell? ⟨W5.heap.size, j, none⟩ = some y → (W7.alloc X).cell? ⟨W5.heap.size, j, none⟩ = some y := fun X j y h => (World.cell?_alloc_lt _ _ _ (World.block_lt_of_cell? _ _ h)).trans h
    obtain ⟨q0, -⟩ := hby7.cell 0
    obtain ⟨q1, -⟩ := hby7.cell 1
    obtain ⟨q2, -⟩ := hby7.cell 2
    obtain ⟨q3, -⟩ := hby7.cell 3
    obtain ⟨q4, -⟩ := hby7.cell 4
    obtain ⟨q5, -⟩ := hby7.cell 5
    have r0 := fun X => hpk X 0 _ q0
    have r1 := fun X => hpk X 1 _ q1
    have r2 := fun X => hpk X 2 _ q2
    have r3 := fun X => hpk X 3 _ q3
    have r4 := fun X => hpk X 4 _ q4
    have r5 := fun X => hpk X 5 _ q5
    have HSS := hide (fun X => HSS0.out _ _ _ (HSY7.out.below (HBC.out X) (Nat.le_refl _)) (HSZ.out.below (HBC.out X) (Nat.le_refl _)))
    clear hl7 ht7 hk7 he7 hi7 hb7 hby7 hpk q0 q1 q2 q3 q4 q5 p0 p1 p2 p3 p4 p5 HSZ HSY7 HSY HBY HBW HSS0
    go_wp2_with fail
    refine (HSS.out _).mono ?_
    rintro e W8 ⟨rfl, hb8⟩
    have HB8 := hide (HB7.out.trans (((HBC.out _).trans (hb8.mono (HBC.out _).size)).mono HB7.out.size))
    clear hb8 HB7 HSS
    go_wp2
    go_ret
    exact ⟨rfl, HB8.out⟩

theorem own : ownKnob Try.prog.godebug = none := by kernel_rfl
theorem laidOut : laidOutB Try.prog = true := by kernel_rfl

set_option linter.unusedVariables false in
set_option maxRecDepth 100000 in
theorem lifted (os : Os) (started : os.Started) (H : Type) (enc : TypeId × Value → H) :
    ReturnsInHanded {} Try.checked os 5 .any (Rows.snapshotOwnSpec.pre6 enc Try.prog Try.f5 Rows.snapshotOwnRow.domain false) (Rows.snapshotOwnSpec.post enc Try.prog Try.f5 false true false false) := by
  refine returnsInHanded_of_change (C := Try.checked) own started (by kernel_rfl) Try.func5
    (ChangeSpec.witness6 (enc := enc) (C := Try.checked) false ⟨#[], #[.agg #[.int .i64 0, .int .i64 0, .slice none 0 0, .bool false, .int .i64 0, .slice none 0 0], .slice none 0 0], []⟩ 8 (by kernel_rfl) (by kernel_rfl) (by kernel_rfl) (by kernel_rfl)) ?_
  intro W base args ds gs before hval0 hW hcnd _
  have hval : ∀ (j : Nat) t v, Try.f5.params[j]? = some t → args[j]? = some v → Value.okWide Try.prog W .any base t v := hval0
  have hW' := hW
  obtain ⟨p, q, hA0, hV, rfl, hfz, hnd⟩ := hW
  have hA : DataW.TrodAll enc Try.prog W 0 (fun _ => true) true Try.f5.params.toList args.toList ds p := hA0
  rw [Try.params5] at hA hval
  obtain ⟨v0, vs0, d0, ds0, p0, q0, hargs, rfl, rfl, h0, r0⟩ := trodAll_cons hA
  obtain ⟨v1, vs1, d1, ds1, p1, q1, rfl, rfl, rfl, h1, r1⟩ := trodAll_cons r0
  obtain ⟨rfl, rfl, rfl⟩ := trodAll_nil r1
  obtain rfl : args = #[v0, v1] := by cases args; simp_all
  obtain ⟨rfl, rfl⟩ := trodVars_none hV
  have k0 := h0
  have lt0 : ∀ x ∈ p0, x.block < W.heap.size := by obtain ⟨m, hm⟩ := k0; exact DataW.trod_lt m _ _ _ hm
  obtain ⟨s0, w0⟩ := open_snap (hval 0 27 v0 rfl rfl) h0
  obtain ⟨a1, len1, cap1, rfl⟩ := okWide_slice Try.underlying28 (hval 1 28 v1 rfl rfl)
  have k1 := h1
  have lt1 : ∀ x ∈ p1, x.block < W.heap.size := by obtain ⟨m, hm⟩ := k1; exact DataW.trod_lt m _ _ _ hm
  obtain ⟨l1, w1⟩ : ∃ l, RdR W (.slice a1 len1 cap1) l := by
    obtain ⟨fuel, hf⟩ := h1
    obtain ⟨v, l, hcs, hr⟩ := open_recs hf
    simp [Value.cells] at hcs
    subst hcs
    exact ⟨l, hr⟩
  clear hA0 hval0
  refine (walk _ s0 _ l1 W w0 w1).mono fun e W' ⟨he, bel⟩ => ?_
  subst he
  exact ⟨_, rfl, _, _, _, [], _, [], hW', trodAll_mk1 (shut_bool Try.underlying4 _), (trodAll_cons_mk (Below.trod laidOut (by kernel_rfl) (of_decide_eq_true (by kernel_rfl)) k0 bel lt0) (trodAll_cons_mk (Below.trod laidOut (by kernel_rfl) (of_decide_eq_true (by kernel_rfl)) k1 bel lt1) trodAll_mk0)), rfl, bel.frame _, fun h => by cases h⟩

theorem over : Rows.snapshotOwnRow.holds Try.pinned (OpenSpec.ofChange Rows.snapshotOwnSpec) :=
  OpenClaim.holds_of_wide 5 Try.f5 rfl rfl rfl rfl rfl rfl rfl ⟨rfl, rfl, rfl, rfl, rfl⟩ rfl rfl rfl rfl rfl (by kernel_rfl) Try.func5 (by kernel_rfl)
    (of_decide_eq_true (by kernel_rfl)) (by unfold Func.isWrapper; first | (rw [if_pos (by decide +kernel)]; kernel_rfl) | (rw [if_neg (by decide +kernel)]; exact ⟨rfl, rfl⟩))
    (fun os started H enc _ => lifted os started H enc)

end Go.Proofs.Ytanmjihiceibbab.snapshotOwn
namespace Go.Proofs.Ytanmjihiceibbab

theorem snapshotOwn_holds : Rows.SnapshotOwnSaid := snapshotOwn.over

end Go.Proofs.Ytanmjihiceibbab
