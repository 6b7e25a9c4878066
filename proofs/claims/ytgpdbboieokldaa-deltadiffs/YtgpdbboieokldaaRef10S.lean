/- Contracts of ferrymanref10: Same; and of ferrymanlaw10: few. -/
import Derived.Test.YtgpdbboieokldaaDeltaBase
import Derived.Test.YtgpdbboieokldaaPack3
namespace Go.Proofs.Ytgpdbboieokldaa
open Go.RowKit

/-- Has a delta at most 300 numbers, and 100 entries? -/
def fewL (d : Delt) : Bool := decide (d.mid.length ≤ 300 ∧ d.tab.length ≤ 100)

set_option maxRecDepth 100000 in
theorem few10_any (v : Value) (d : Delt) (w : World) (hd : DlV w v d) :
    Calls Try.prog 13 #[v] w fun x w' => x = .returned (.bool (fewL d)) ∧ Below w.heap.size w w' := by
  obtain ⟨ma, mc, ta, tc, rfl, hm, ht⟩ := hd.shape
  obtain ⟨D, hD⟩ : ∃ D, D = fewL d := ⟨_, rfl⟩
  rw [← hD]
  have HB : Hid (∀ X, Below w.heap.size w (w.alloc X)) := hide (fun X => (Below.refl _ _).alloc (Nat.le_refl _) X)
  obtain ⟨fr, up, ah, bh, mid, sh, en, tab⟩ := d
  dsimp only at *
  by_cases h1 : mid.length ≤ 300
  case neg =>
    have h1i : ¬ (mid.length : Int) ≤ 300 := by omega
    have HF : Hid (D = false) := hide (by rw [hD]; exact decide_eq_false (fun h => h1 h.1))
    clear hD h1 hm ht hd
    go_enter Try.func13, Try.ntmps13
    go_wp2
    go_ret
    rw [HF.out]
    exact ⟨rfl, HB.out _⟩
  have h1i : (mid.length : Int) ≤ 300 := by omega
  by_cases h2 : tab.length ≤ 100
  · have h2i : (tab.length : Int) ≤ 100 := by omega
    have HF : Hid (D = true) := hide (by rw [hD]; exact decide_eq_true ⟨h1, h2⟩)
    clear hD h1 h2 hm ht hd
    go_enter Try.func13, Try.ntmps13
    go_wp2
    go_ret
    rw [HF.out]
    exact ⟨rfl, HB.out _⟩
  · have h2i : ¬ (tab.length : Int) ≤ 100 := by omega
    have HF : Hid (D = false) := hide (by rw [hD]; exact decide_eq_false (fun h => h2 h.2))
    clear hD h1 h2 hm ht hd
    go_enter Try.func13, Try.ntmps13
    go_wp2
    go_ret
    rw [HF.out]
    exact ⟨rfl, HB.out _⟩

set_option maxRecDepth 100000 in
set_option maxHeartbeats 8000000 in
theorem refSameD_any (va : Value) (a : Delt) (vb : Value) (b : Delt) (w : World) (ha : DlV w va a) (hb : DlV w vb b) :
    Calls Try.prog 12 #[va, vb] w fun x w' => x = .returned (.bool (decide (SameD a b))) ∧ Below w.heap.size w w' := by
  obtain ⟨ma, mc, ta, tc, rfl, hm, ht⟩ := ha.shape
  obtain ⟨ma', mc', ta', tc', rfl, hm', ht'⟩ := hb.shape
  obtain ⟨_, _, e1, j1, hm1, -, -, hmo⟩ := hm
  obtain ⟨_, _, e2, j2, hm2, -, -, hmo'⟩ := hm'
  obtain ⟨_, _, e3, j3, ht1, -, -, hto⟩ := ht
  obtain ⟨_, _, e4, j4, ht2, -, -, hto'⟩ := ht'
  simp only [Value.slice.injEq] at e1 e2 e3 e4
  obtain ⟨rfl, -, rfl⟩ := e1
  obtain ⟨rfl, -, rfl⟩ := e2
  obtain ⟨rfl, -, rfl⟩ := e3
  obtain ⟨rfl, -, rfl⟩ := e4
  have k1 : (a.mid.length : Int) ≤ 9223372036854775807 := by unfold maxLen at hm1; omega
  have k2 : (b.mid.length : Int) ≤ 9223372036854775807 := by unfold maxLen at hm2; omega
  have k3 : (a.tab.length : Int) ≤ 9223372036854775807 := by unfold maxLen at ht1; omega
  have k4 : (b.tab.length : Int) ≤ 9223372036854775807 := by unfold maxLen at ht2; omega
  have HMA := hide hmo
  have HMB := hide hmo'
  have HTA := hide hto
  have HTB := hide hto'
  have hgd := guard_ent
  obtain ⟨D, hD⟩ : ∃ D, D = decide (SameD a b) := ⟨_, rfl⟩
  rw [← hD]
  have HU : Hid (SameD a b ↔ a.frm = b.frm ∧ a.upto = b.upto ∧ a.ahead = b.ahead ∧ a.behind = b.behind ∧ a.mid = b.mid ∧ a.shut = b.shut ∧ a.eng = b.eng ∧ a.tab = b.tab) := hide Iff.rfl
  have HD0 : Hid (¬ SameD a b → D = false) := hide (fun h => by rw [hD]; exact decide_eq_false h)
  have HD1 : Hid (SameD a b → D = true) := hide (fun h => by rw [hD]; exact decide_eq_true h)
  obtain ⟨W0, hW0⟩ : ∃ W0, W0 = (w.alloc (.cells #[.int .i64 a.frm, .int .i64 a.upto, .int .i64 a.ahead, .int .i64 a.behind, .slice ma a.mid.length mc, .bool a.shut, .int .i64 a.eng, .slice ta a.tab.length tc] 31)).alloc (.cells #[.int .i64 b.frm, .int .i64 b.upto, .int .i64 b.ahead, .int .i64 b.behind, .slice ma' b.mid.length mc', .bool b.shut, .int .i64 b.eng, .slice ta' b.tab.length tc'] 31) := ⟨_, rfl⟩
  have HX0 : Hid (Bd W0 w.heap.size #[.int .i64 a.frm, .int .i64 a.upto, .int .i64 a.ahead, .int .i64 a.behind, .slice ma a.mid.length mc, .bool a.shut, .int .i64 a.eng, .slice ta a.tab.length tc]) := hide (by rw [hW0]; exact (Below.heap_alloc _ _ _ (by simp)).trans (heap_alloc_new w _))
  have HY0 : Hid (Bd W0 (w.heap.size + 1) #[.int .i64 b.frm, .int .i64 b.upto, .int .i64 b.ahead, .int .i64 b.behind, .slice ma' b.mid.length mc', .bool b.shut, .int .i64 b.eng, .slice ta' b.tab.length tc']) := hide (by rw [hW0]; exact new_two w _ _)
  have HB0 : Hid (Below w.heap.size w W0) := hide (by rw [hW0]; exact ((Below.refl _ _).alloc (Nat.le_refl _) _).alloc (by simp) _)
  have HW0 := hide hW0
  clear hD hW0 hmo hmo' hto hto' hm1 hm2 ht1 ht2 j1 j2 j3 j4 ha hb
  obtain ⟨fr, up, ah, bh, mid, sh, en, tab⟩ := a
  obtain ⟨fr', up', ah', bh', mid', sh', en', tab'⟩ := b
  dsimp only at *
  obtain ⟨⟨p0, p1, p2, p3, p4, p5, p6, p7⟩, -⟩ := HX0.out.all
  obtain ⟨⟨q0, q1, q2, q3, q4, q5, q6, q7⟩, -⟩ := HY0.out.all
  go_enter Try.func12, Try.ntmps12
  go_upto_region 1 with fail
  rw [← HW0.out]
  clear HW0
  by_cases h0 : fr = fr'
  case neg =>
    have h0d : (fr != fr') = true := by rw [bne_iff_ne]; exact h0
    have HF := hide (HD0.out (fun h => h0 (HU.out.1 h).1))
    clear h0
    go_wp2
    go_ret
    rw [HF.out]
    exact ⟨rfl, HB0.out⟩
  have h0d : (fr != fr') = false := by rw [bne_eq_false_iff_eq]; exact h0
  have Hh0 := hide h0
  clear h0
  by_cases h1 : up = up'
  case neg =>
    have h1d : (up != up') = true := by rw [bne_iff_ne]; exact h1
    have HF := hide (HD0.out (fun h => h1 (HU.out.1 h).2.1))
    clear h1
    go_wp2
    go_ret
    rw [HF.out]
    exact ⟨rfl, HB0.out⟩
  have h1d : (up != up') = false := by rw [bne_eq_false_iff_eq]; exact h1
  have Hh1 := hide h1
  clear h1
  by_cases h2 : ah = ah'
  case neg =>
    have h2d : (ah != ah') = true := by rw [bne_iff_ne]; exact h2
    have HF := hide (HD0.out (fun h => h2 (HU.out.1 h).2.2.1))
    clear h2
    go_wp2
    go_ret
    rw [HF.out]
    exact ⟨rfl, HB0.out⟩
  have h2d : (ah != ah') = false := by rw [bne_eq_false_iff_eq]; exact h2
  have Hh2 := hide h2
  clear h2
  by_cases h3 : bh = bh'
  case neg =>
    have h3d : (bh != bh') = true := by rw [bne_iff_ne]; exact h3
    have HF := hide (HD0.out (fun h => h3 (HU.out.1 h).2.2.2.1))
    clear h3
    go_wp2
    go_ret
    rw [HF.out]
    exact ⟨rfl, HB0.out⟩
  have h3d : (bh != bh') = false := by rw [bne_eq_false_iff_eq]; exact h3
  have Hh3 := hide h3
  clear h3
  by_cases h5 : sh = sh'
  case neg =>
    have HF := hide (HD0.out (fun h => h5 (HU.out.1 h).2.2.2.2.2.1))
    have h5e : sh' = !sh := by cases sh <;> cases sh' <;> first | rfl | exact absurd rfl h5
    subst h5e
    clear h5
    cases sh with
    | true =>
      go_wp2
      go_ret
      rw [HF.out]
      exact ⟨rfl, HB0.out⟩
    | false =>
      go_wp2
      go_ret
      rw [HF.out]
      exact ⟨rfl, HB0.out⟩
  have h5d : (sh != sh') = false := by rw [bne_eq_false_iff_eq]; exact h5
  have Hh5 := hide h5
  clear h5
  by_cases h6 : en = en'
  case neg =>
    have h6d : (en != en') = true := by rw [bne_iff_ne]; exact h6
    have HF := hide (HD0.out (fun h => h6 (HU.out.1 h).2.2.2.2.2.2.1))
    clear h6
    go_wp2
    go_ret
    rw [HF.out]
    exact ⟨rfl, HB0.out⟩
  have h6d : (en != en') = false := by rw [bne_eq_false_iff_eq]; exact h6
  have Hh6 := hide h6
  clear h6
  by_cases h4 : mid.length = mid'.length
  case neg =>
    have h4d : ((mid.length : Int) != (mid'.length : Int)) = true := by rw [bne_iff_ne]; omega
    have HF := hide (HD0.out (fun h => h4 (by rw [(HU.out.1 h).2.2.2.2.1])))
    clear h4
    go_wp2
    go_ret
    rw [HF.out]
    exact ⟨rfl, HB0.out⟩
  have h4d : ((mid.length : Int) != (mid'.length : Int)) = false := by rw [bne_eq_false_iff_eq]; omega
  have Hh4 := hide h4
  clear h4
  by_cases h7 : tab.length = tab'.length
  case neg =>
    have h7d : ((tab.length : Int) != (tab'.length : Int)) = true := by rw [bne_iff_ne]; omega
    have HF := hide (HD0.out (fun h => h7 (by rw [(HU.out.1 h).2.2.2.2.2.2.2])))
    clear h7
    go_wp2
    go_ret
    rw [HF.out]
    exact ⟨rfl, HB0.out⟩
  have h7d : ((tab.length : Int) != (tab'.length : Int)) = false := by rw [bne_eq_false_iff_eq]; omega
  have Hh7 := hide h7
  clear h7
  have HDT : Hid (mid = mid' → tab = tab' → D = true) := hide (fun hm ht => HD1.out (HU.out.2 ⟨Hh0.out, Hh1.out, Hh2.out, Hh3.out, hm, Hh5.out, Hh6.out, ht⟩))
  have HDF : Hid (¬ (mid = mid' ∧ tab = tab') → D = false) := hide (fun h => HD0.out (fun hs => h ⟨(HU.out.1 hs).2.2.2.2.1, (HU.out.1 hs).2.2.2.2.2.2.2⟩))
  have Hh5' := Hh5
  clear HU HD0 HD1 Hh0 Hh1 Hh2 Hh3 Hh5 Hh6
  obtain rfl : sh = sh' := Hh5'.out
  clear h5d Hh5'
  cases sh with
  | true =>
    go_wp2
    go_loopw [5] (fun vi wr => ∃ k : Nat, vi = .int .i64 (k : Int) ∧ k ≤ mid.length ∧ Hid (∀ j, j < k → mid.getD j 0 = mid'.getD j 0) ∧ Hid (∃ n, wr = W0.drewN n)) (fun vi _ => mid.length - (intOf vi).toNat)
    case atStart => exact ⟨0, rfl, Nat.zero_le _, hide (fun j hj => by omega), ⟨0, rfl⟩⟩
    case round =>
      obtain ⟨k, rfl, hk, hP, hW⟩ := hrel
      obtain ⟨nw, hwr⟩ := hW.out
      subst hwr
      by_cases hlt : k < mid.length
      case pos =>
        rcases HMA.out with h0 | ⟨c, off, rfl, hc⟩
        · rw [h0] at hlt; simp at hlt
        rcases HMB.out with h0 | ⟨c', off', rfl, hc'⟩
        · have hlen := Hh4.out; rw [h0] at hlen; simp at hlen; rw [hlen] at hlt; simp at hlt
        have c0 : W0.cell? ⟨c, off + k, none⟩ = some (.int .i64 (mid.getD k 0)) := (HB0.out.cell (World.block_lt_of_cell? w ⟨c, off + k, none⟩ (hc k hlt))).trans (hc k hlt)
        have hk2 : k < mid'.length := by have := Hh4.out; omega
        have d0 : W0.cell? ⟨c', off' + k, none⟩ = some (.int .i64 (mid'.getD k 0)) := (HB0.out.cell (World.block_lt_of_cell? w ⟨c', off' + k, none⟩ (hc' k hk2))).trans (hc' k hk2)
        have hki : (k : Int) < (mid.length : Int) := by omega
        have hkj : (k : Int) < (mid'.length : Int) := by omega
        have HNE : Hid (mid.getD k 0 ≠ mid'.getD k 0 → D = false) := hide (fun h => HDF.out (fun e => h (by rw [e.1])))
        have HPN : Hid (mid.getD k 0 = mid'.getD k 0 → ∀ j, j < k + 1 → mid.getD j 0 = mid'.getD j 0) := hide (fun h j hj => by
          by_cases e : j = k
          · rw [e]; exact h
          · exact hP.out j (by omega))
        clear hc hc' hP hk2
        generalize mid.getD k 0 = y at *
        generalize mid'.getD k 0 = z at *
        by_cases hq : y = z
        · have hqb : (y != z) = false := by rw [bne_eq_false_iff_eq]; exact hq
          have HP1 := hide (HPN.out hq)
          clear hq HNE HPN
          go_upto_region 6 with fail
          go_quiet (fail)
          go_wp2
          go_roundw
          case rel => exact ⟨k + 1, by go_num, by omega, HP1, ⟨_, rfl⟩⟩
          case measure => simp [intOf]; omega
        · have hqb : (y != z) = true := by rw [bne_iff_ne]; exact hq
          have HF := hide (HNE.out hq)
          clear hq HNE HPN
          go_upto_region 6 with fail
          go_quiet (fail)
          go_wp2
          go_ret
          rw [HF.out]
          exact ⟨rfl, below_drewN (below_drewN HB0.out _) _⟩
      have hni : ¬ (k : Int) < (mid.length : Int) := by omega
      have HMM : Hid (mid = mid') := hide (getD_ext_int mid mid' Hh4.out (fun j hj => hP.out j (by omega)))
      have HDT2 : Hid (tab.take tab.length = tab'.take tab.length → D = true) := hide (fun h => HDT.out HMM.out (by
        rw [List.take_length, Hh7.out, List.take_length] at h
        exact h))
      have HDF2 : Hid (∀ k, k < tab.length → tab.getD k zeroE ≠ tab'.getD k zeroE → D = false) := hide (fun k hk h => HDF.out (fun hs => h (by rw [hs.2])))
      clear hP hk hlt HDT HDF HMM hW
      go_wp2
      go_loopw [6] (fun vi wr => ∃ k : Nat, vi = .int .i64 (k : Int) ∧ k ≤ tab.length ∧ Hid (tab.take k = tab'.take k) ∧ Hid (∃ n, wr = W0.drewN n)) (fun vi _ => tab.length - (intOf vi).toNat)
      case atStart => exact ⟨0, rfl, Nat.zero_le _, rfl, ⟨_, rfl⟩⟩
      case round =>
        clear hni
        obtain ⟨k, rfl, hk, hP, hW⟩ := hrel
        obtain ⟨nw, hwr⟩ := hW.out
        subst hwr
        by_cases hlt : k < tab.length
        case neg =>
          obtain rfl : k = tab.length := by omega
          have HT := hide (HDT2.out hP.out)
          go_wp2
          go_ret
          rw [HT.out]
          exact ⟨rfl, below_drewN HB0.out _⟩
        rcases HTA.out with h0 | ⟨c, off, rfl, hc⟩
        · rw [h0] at hlt; simp at hlt
        rcases HTB.out with h0 | ⟨c', off', rfl, hc'⟩
        · have hlen := Hh7.out; rw [h0] at hlen; simp at hlen; rw [hlen] at hlt; simp at hlt
        have h1 := hc k hlt
        have h2 := hc' k (by have := Hh7.out; omega)
        obtain ⟨c0, c1, c2⟩ := h1.keep (HB0.out.block c h1.lt)
        obtain ⟨d0, d1, d2⟩ := h2.keep (HB0.out.block c' h2.lt)
        have hki : (k : Int) < (tab.length : Int) := by omega
        have hkj : (k : Int) < (tab'.length : Int) := by have := Hh7.out; omega
        have HNE := hide (HDF2.out k hlt)
        have HPN : Hid (tab.getD k zeroE = tab'.getD k zeroE → tab.take (k + 1) = tab'.take (k + 1)) := fun h => by rw [takeE_snoc hlt, takeE_snoc (by have := Hh7.out; omega), hP.out, h]
        clear hc hc' h1 h2 HDT2 HDF2
        generalize tab.getD k zeroE = r at *
        generalize tab'.getD k zeroE = s at *
        by_cases hrs : r = s
        · subst hrs
          have HP1 := hide (HPN.out rfl)
          have hneq := fun W => neq_ent W r r
          rw [eqEnt_self] at hneq
          clear HNE HPN
          go_upto_region 11 with fail
          go_quiet (fail)
          go_wp2
          go_roundw
          case rel => exact ⟨k + 1, by go_num, by omega, HP1, ⟨_, rfl⟩⟩
          case measure => simp [intOf]; omega
        · have HD := hide (HNE.out hrs)
          have hneq := fun W => neq_ent W r s
          rw [eqEnt_not hrs] at hneq
          clear HNE HPN hrs
          go_upto_region 11 with fail
          go_quiet (fail)
          go_wp2
          go_ret
          rw [HD.out]
          exact ⟨rfl, below_drewN (below_drewN HB0.out _) _⟩
  | false =>
    go_wp2
    go_loopw [5] (fun vi wr => ∃ k : Nat, vi = .int .i64 (k : Int) ∧ k ≤ mid.length ∧ Hid (∀ j, j < k → mid.getD j 0 = mid'.getD j 0) ∧ Hid (∃ n, wr = W0.drewN n)) (fun vi _ => mid.length - (intOf vi).toNat)
    case atStart => exact ⟨0, rfl, Nat.zero_le _, hide (fun j hj => by omega), ⟨0, rfl⟩⟩
    case round =>
      obtain ⟨k, rfl, hk, hP, hW⟩ := hrel
      obtain ⟨nw, hwr⟩ := hW.out
      subst hwr
      by_cases hlt : k < mid.length
      case pos =>
        rcases HMA.out with h0 | ⟨c, off, rfl, hc⟩
        · rw [h0] at hlt; simp at hlt
        rcases HMB.out with h0 | ⟨c', off', rfl, hc'⟩
        · have hlen := Hh4.out; rw [h0] at hlen; simp at hlen; rw [hlen] at hlt; simp at hlt
        have c0 : W0.cell? ⟨c, off + k, none⟩ = some (.int .i64 (mid.getD k 0)) := (HB0.out.cell (World.block_lt_of_cell? w ⟨c, off + k, none⟩ (hc k hlt))).trans (hc k hlt)
        have hk2 : k < mid'.length := by have := Hh4.out; omega
        have d0 : W0.cell? ⟨c', off' + k, none⟩ = some (.int .i64 (mid'.getD k 0)) := (HB0.out.cell (World.block_lt_of_cell? w ⟨c', off' + k, none⟩ (hc' k hk2))).trans (hc' k hk2)
        have hki : (k : Int) < (mid.length : Int) := by omega
        have hkj : (k : Int) < (mid'.length : Int) := by omega
        have HNE : Hid (mid.getD k 0 ≠ mid'.getD k 0 → D = false) := hide (fun h => HDF.out (fun e => h (by rw [e.1])))
        have HPN : Hid (mid.getD k 0 = mid'.getD k 0 → ∀ j, j < k + 1 → mid.getD j 0 = mid'.getD j 0) := hide (fun h j hj => by
          by_cases e : j = k
          · rw [e]; exact h
          · exact hP.out j (by omega))
        clear hc hc' hP hk2
        generalize mid.getD k 0 = y at *
        generalize mid'.getD k 0 = z at *
        by_cases hq : y = z
        · have hqb : (y != z) = false := by rw [bne_eq_false_iff_eq]; exact hq
          have HP1 := hide (HPN.out hq)
          clear hq HNE HPN
          go_upto_region 6 with fail
          go_quiet (fail)
          go_wp2
          go_roundw
          case rel => exact ⟨k + 1, by go_num, by omega, HP1, ⟨_, rfl⟩⟩
          case measure => simp [intOf]; omega
        · have hqb : (y != z) = true := by rw [bne_iff_ne]; exact hq
          have HF := hide (HNE.out hq)
          clear hq HNE HPN
          go_upto_region 6 with fail
          go_quiet (fail)
          go_wp2
          go_ret
          rw [HF.out]
          exact ⟨rfl, below_drewN (below_drewN HB0.out _) _⟩
      have hni : ¬ (k : Int) < (mid.length : Int) := by omega
      have HMM : Hid (mid = mid') := hide (getD_ext_int mid mid' Hh4.out (fun j hj => hP.out j (by omega)))
      have HDT2 : Hid (tab.take tab.length = tab'.take tab.length → D = true) := hide (fun h => HDT.out HMM.out (by
        rw [List.take_length, Hh7.out, List.take_length] at h
        exact h))
      have HDF2 : Hid (∀ k, k < tab.length → tab.getD k zeroE ≠ tab'.getD k zeroE → D = false) := hide (fun k hk h => HDF.out (fun hs => h (by rw [hs.2])))
      clear hP hk hlt HDT HDF HMM hW
      go_wp2
      go_loopw [6] (fun vi wr => ∃ k : Nat, vi = .int .i64 (k : Int) ∧ k ≤ tab.length ∧ Hid (tab.take k = tab'.take k) ∧ Hid (∃ n, wr = W0.drewN n)) (fun vi _ => tab.length - (intOf vi).toNat)
      case atStart => exact ⟨0, rfl, Nat.zero_le _, rfl, ⟨_, rfl⟩⟩
      case round =>
        clear hni
        obtain ⟨k, rfl, hk, hP, hW⟩ := hrel
        obtain ⟨nw, hwr⟩ := hW.out
        subst hwr
        by_cases hlt : k < tab.length
        case neg =>
          obtain rfl : k = tab.length := by omega
          have HT := hide (HDT2.out hP.out)
          go_wp2
          go_ret
          rw [HT.out]
          exact ⟨rfl, below_drewN HB0.out _⟩
        rcases HTA.out with h0 | ⟨c, off, rfl, hc⟩
        · rw [h0] at hlt; simp at hlt
        rcases HTB.out with h0 | ⟨c', off', rfl, hc'⟩
        · have hlen := Hh7.out; rw [h0] at hlen; simp at hlen; rw [hlen] at hlt; simp at hlt
        have h1 := hc k hlt
        have h2 := hc' k (by have := Hh7.out; omega)
        obtain ⟨c0, c1, c2⟩ := h1.keep (HB0.out.block c h1.lt)
        obtain ⟨d0, d1, d2⟩ := h2.keep (HB0.out.block c' h2.lt)
        have hki : (k : Int) < (tab.length : Int) := by omega
        have hkj : (k : Int) < (tab'.length : Int) := by have := Hh7.out; omega
        have HNE := hide (HDF2.out k hlt)
        have HPN : Hid (tab.getD k zeroE = tab'.getD k zeroE → tab.take (k + 1) = tab'.take (k + 1)) := fun h => by rw [takeE_snoc hlt, takeE_snoc (by have := Hh7.out; omega), hP.out, h]
        clear hc hc' h1 h2 HDT2 HDF2
        generalize tab.getD k zeroE = r at *
        generalize tab'.getD k zeroE = s at *
        by_cases hrs : r = s
        · subst hrs
          have HP1 := hide (HPN.out rfl)
          have hneq := fun W => neq_ent W r r
          rw [eqEnt_self] at hneq
          clear HNE HPN
          go_upto_region 11 with fail
          go_quiet (fail)
          go_wp2
          go_roundw
          case rel => exact ⟨k + 1, by go_num, by omega, HP1, ⟨_, rfl⟩⟩
          case measure => simp [intOf]; omega
        · have HD := hide (HNE.out hrs)
          have hneq := fun W => neq_ent W r s
          rw [eqEnt_not hrs] at hneq
          clear HNE HPN hrs
          go_upto_region 11 with fail
          go_quiet (fail)
          go_wp2
          go_ret
          rw [HD.out]
          exact ⟨rfl, below_drewN (below_drewN HB0.out _) _⟩

end Go.Proofs.Ytgpdbboieokldaa
