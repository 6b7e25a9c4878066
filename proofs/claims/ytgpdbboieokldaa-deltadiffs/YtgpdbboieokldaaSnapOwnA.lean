/- Contracts of snapshot: mayEntry, mayTable, May, Same; over entries slices.Equal. -/
import Derived.Test.YtgpdbboieokldaaSnapShelf
import Derived.Test.YtgpdbboieokldaaSnapBoxes
import Derived.Test.YtgpdbboieokldaaSchemaFits
import Derived.Test.YtgpdbboieokldaaObjsSame
import Derived.BigQuiet
namespace Go.Proofs.Ytgpdbboieokldaa
open Go.RowKit

set_option maxRecDepth 100000 in
set_option maxHeartbeats 1000000 in
theorem mayEntry_any (e : Ent) (w : World) :
    Calls Try.prog 79 #[entV e] w fun x w' => x = .returned (.bool (decide (EntOk e))) ∧ Below w.heap.size w w' := by
  have HF := hide (fun W => fitsR_any ⟨0, e.proc, e.seq, ⟨0, 0, 0⟩, e.resp⟩ W)
  have hd : decide (FitsR ⟨0, e.proc, e.seq, ⟨0, 0, 0⟩, e.resp⟩) = decide (EntOk e) := decide_eq_decide.2 (entOk_rec e)
  rw [hd] at HF
  clear hd
  generalize decide (EntOk e) = D at *
  obtain ⟨p, s, r⟩ := e
  unfold entV recV at *
  dsimp only at *
  have HB0 : Hid (∀ X, Below w.heap.size w (w.alloc X)) := fun X => (Below.refl _ _).alloc (Nat.le_refl _) X
  go_enter Try.func79, Try.ntmps79
  go_wp2_with fail
  refine (HF.out _).mono ?_
  rintro x W1 ⟨rfl, hb1⟩
  have HB1 := hide ((HB0.out _).trans (hb1.mono (HB0.out _).size))
  clear hb1
  go_wp2
  go_ret
  exact ⟨rfl, HB1.out⟩

set_option maxRecDepth 100000 in
set_option maxHeartbeats 2000000 in
theorem mayTable_any (v : Value) (t : List Ent) (w : World) (hr : RdE w v t) :
    Calls Try.prog 45 #[v] w fun x w' => x = .returned (.bool (decide (TabOk t))) ∧ Below w.heap.size w w' := by
  obtain ⟨va, vc, rfl, hlc, hcm, -, hw, hao⟩ := hr
  have HAO := hide hao
  have hml : (t.length : Int) ≤ 9223372036854775807 := by unfold maxLen at hcm; omega
  obtain ⟨D, hD⟩ : ∃ D, D = decide (TabOk t) := ⟨_, rfl⟩
  rw [← hD]
  have HD1 : Hid (TabTo t t.length → D = true) := hide (fun h => by rw [hD]; exact decide_eq_true h)
  have HD0 : Hid (∀ k, k < t.length → ¬ TabTo t (k + 1) → D = false) := hide (fun k hk h => by rw [hD]; exact decide_eq_false (fun h2 => h (TabTo.mono h2 hk)))
  have HM := hide (fun e W => mayEntry_any e W)
  have HL0 : Hid (leastP t 0 = 0) := hide rfl
  have HL1 : Hid (∀ k, leastP t (k + 1) = (t.getD k zeroE).proc + 1) := hide (fun k => rfl)
  have HN : Hid (∀ k, TabTo t (k + 1) ↔ TabTo t k ∧ EntOk (t.getD k zeroE) ∧ leastP t k ≤ (t.getD k zeroE).proc) := hide (fun k => tabTo_least)
  clear hD hcm hlc hao hw
  go_enter Try.func45, Try.ntmps45
  go_wp2
  go_loopw [3, 8] (fun vl vi wr => ∃ (k : Nat) (ls : Int), vi = .int .i64 (k : Int) ∧ vl = .int .i64 ls ∧ k ≤ t.length ∧ Hid (ls = leastP t k) ∧ Hid (TabTo t k) ∧ Hid (Below w.heap.size w wr)) (fun _ vi _ => t.length - (intOf vi).toNat)
  case atStart => exact ⟨0, 0, rfl, rfl, Nat.zero_le _, hide HL0.out.symm, hide (TabTo.zero t), Below.refl _ _⟩
  case round =>
    obtain ⟨k, ls, rfl, rfl, hk, hLS, hT, hB⟩ := hrel
    by_cases hlt : k < t.length
    case neg =>
      obtain rfl : k = t.length := by omega
      have HT := hide (HD1.out hT.out)
      go_wp2
      go_ret
      rw [HT.out]
      exact ⟨rfl, hB.out⟩
    have hki : (k : Int) < (t.length : Int) := by omega
    rcases HAO.out with h0 | ⟨c, off, rfl, hc⟩
    · rw [h0] at hlt; simp at hlt
    obtain ⟨c0, c1, c2⟩ := (hc k hlt).keep (hB.out.block c (hc k hlt).lt)
    have HNK := hide (HN.out k)
    have HDK := hide (HD0.out k hlt)
    have HL1K := hide (HL1.out k)
    have HMK := hide (fun W => HM.out (t.getD k zeroE) W)
    rw [← hLS.out] at HNK
    obtain ⟨e, he⟩ : ∃ e, e = t.getD k zeroE := ⟨_, rfl⟩
    rw [← he] at c0 c1 c2 HNK HL1K HMK
    clear he hc HM HN HD0 HD1 HL1 HL0 HAO
    obtain ⟨dk, hdk⟩ : ∃ dk, dk = decide (EntOk e) := ⟨_, rfl⟩
    rw [← hdk] at HMK
    have HDD := hide hdk
    have HB2 : Hid (∀ X, Below w.heap.size w (wr.alloc X)) := hide (fun X => hB.out.alloc hB.out.size X)
    have HX : Hid (∀ cs, Be (wr.alloc (.cells cs 55)) wr.heap.size cs) := hide (fun cs => heap_alloc_new wr _)
    clear hdk
    unfold entV at HMK
    have HPB : Hid (dk = true → 0 ≤ e.proc ∧ e.proc ≤ 64) := hide (fun h => by
      have : EntOk e := of_decide_eq_true (HDD.out.symm.trans h)
      exact ⟨this.1, this.2.1⟩)
    by_cases hls : e.proc < ls
    · have HF := hide (HDK.out (fun h => by have := (HNK.out.1 h).2.2; omega))
      obtain ⟨p, s, r⟩ := e
      dsimp only at *
      clear HNK HDK HMK HDD
      go_wp2
      go_ret
      rw [HF.out]
      exact ⟨rfl, HB2.out _⟩
    · have hnl : ls ≤ e.proc := by omega
      have HNK2 : Hid (dk = true → TabTo t (k + 1)) := hide (fun h => HNK.out.2 ⟨hT.out, of_decide_eq_true (HDD.out.symm.trans h), hnl⟩)
      have HNF : Hid (dk = false → D = false) := hide (fun h => HDK.out (fun h2 => by
        have h3 := (HNK.out.1 h2).2.1
        have h4 : dk = true := HDD.out.trans (decide_eq_true h3)
        rw [h] at h4
        cases h4))
      obtain ⟨p, s, r⟩ := e
      dsimp only at *
      clear HNK HDK HDD
      go_wp2_with fail
      refine (HMK.out _).mono ?_
      rintro x W1 ⟨rfl, hb1⟩
      have HB3 := hide ((HB2.out _).trans (hb1.mono (HB2.out _).size))
      have HX3 := hide ((HX.out _).below hb1 (Nat.le_refl _))
      obtain ⟨q0, f0⟩ := HX3.out.cell 0
      clear hb1 HMK
      cases dk with
      | false =>
        have HF := hide (HNF.out rfl)
        go_wp2
        go_ret
        rw [HF.out]
        exact ⟨rfl, HB3.out⟩
      | true =>
        obtain ⟨hp0, hp1⟩ := HPB.out rfl
        have hT2 := hide (HNK2.out rfl)
        go_wp2
        go_roundw
        case rel => exact ⟨k + 1, p + 1, by go_num, by go_num, by omega, hide HL1K.out.symm, hT2, HB3⟩
        case measure => simp [intOf]; omega

set_option maxRecDepth 100000 in
set_option maxHeartbeats 2000000 in
theorem mayN_any (v : Value) (s : Snap) (w : World) (hs : SnV w v s) :
    Calls Try.prog 21 #[v] w fun e w' => e = .returned (.bool (decide (MayN s))) ∧ Below w.heap.size w w' := by
  obtain ⟨vl, vt, rfl, hl, hk, he, ht, hi⟩ := hs
  have HB0 : Hid (∀ X, Below w.heap.size w (w.alloc X)) := fun X => (Below.refl _ _).alloc (Nat.le_refl _) X
  have HX : Hid (∀ cs, Bn (w.alloc (.cells cs 27)) w.heap.size cs) := hide (fun cs => heap_alloc_new w _)
  have HM := hide (fun W (h : Below w.heap.size w W) => may_any (.agg #[.int .i64 s.st.kind, vl, .bool s.st.shut, .int .i64 s.st.eng]) s.st W ⟨vl, rfl, hl.below h (Nat.le_refl _), hk, he⟩)
  have HT := hide (fun W (h : Below w.heap.size w W) => mayTable_any vt s.tab W (ht.below h (Nat.le_refl _)))
  obtain ⟨la, lc, hvl, -⟩ := hl
  obtain ⟨ta, tc, hvt⟩ := ht.shape
  subst hvl hvt
  clear ht
  obtain ⟨D, hD⟩ : ∃ D, D = decide (MayN s) := ⟨_, rfl⟩
  rw [← hD]
  have HD : Hid (D = decide (MayN s)) := hide hD
  have HU : Hid (MayN s ↔ (0 ≤ s.idx ∧ s.idx < 4611686018427387904) ∧ MayS s.st ∧ TabOk s.tab) := hide Iff.rfl
  obtain ⟨m, hm⟩ : ∃ m, m = decide (MayS s.st) := ⟨_, rfl⟩
  obtain ⟨n, hn⟩ : ∃ n, n = decide (TabOk s.tab) := ⟨_, rfl⟩
  rw [← hm] at HM
  rw [← hn] at HT
  have HMM := hide hm
  have HNN := hide hn
  clear hD hm hn hk he hi
  obtain ⟨idx, ⟨kind, L, shut, eng⟩, tab⟩ := s
  dsimp only at *
  by_cases h0 : 0 ≤ idx
  case neg =>
    have HF : Hid (D = false) := hide (by rw [HD.out]; exact decide_eq_false (fun h => h0 (HU.out.1 h).1.1))
    go_enter Try.func21, Try.ntmps21
    go_wp2
    go_ret
    rw [HF.out]
    exact ⟨rfl, HB0.out _⟩
  by_cases h1 : idx < 4611686018427387904
  case neg =>
    have HF : Hid (D = false) := hide (by rw [HD.out]; exact decide_eq_false (fun h => h1 (HU.out.1 h).1.2))
    go_enter Try.func21, Try.ntmps21
    go_wp2
    go_ret
    rw [HF.out]
    exact ⟨rfl, HB0.out _⟩
  have HDD : Hid (D = (m && n)) := hide (by
    rw [HD.out, HMM.out, HNN.out, ← Bool.decide_and]
    exact decide_eq_decide.2 (HU.out.trans ⟨fun h => h.2, fun h => ⟨⟨h0, h1⟩, h⟩⟩))
  clear HD HU HMM HNN
  go_enter Try.func21, Try.ntmps21
  go_wp2_with fail
  refine (HM.out _ (HB0.out _)).mono ?_
  rintro x W1 ⟨rfl, hb1⟩
  have HB1 := hide ((HB0.out _).trans (hb1.mono (HB0.out _).size))
  have HX1 := hide ((HX.out _).below hb1 (Nat.le_refl _))
  obtain ⟨q5, f5⟩ := HX1.out.cell 5
  clear hb1 HM
  cases m with
  | false =>
    go_wp2
    go_ret
    rw [HDD.out]
    exact ⟨rfl, HB1.out⟩
  | true =>
    go_wp2_with fail
    refine (HT.out _ HB1.out).mono ?_
    rintro x W2 ⟨rfl, hb2⟩
    have HB2 := hide (HB1.out.trans (hb2.mono HB1.out.size))
    clear hb2 HT
    go_wp2
    go_ret
    rw [HDD.out]
    exact ⟨rfl, HB2.out⟩

set_option maxRecDepth 100000 in
set_option maxHeartbeats 2000000 in
theorem equalE_any (va : Value) (A : List Ent) (vb : Value) (B : List Ent) (w : World) (ha : RdE w va A) (hb : RdE w vb B) :
    Calls Try.prog 42 #[va, vb] w fun e w' => e = .returned (.bool (decide (A = B))) ∧ Below w.heap.size w w' := by
  obtain ⟨aa, ac, rfl, hlc, hcm, -, -, haa⟩ := ha
  obtain ⟨ba, bc, rfl, -, hcm', -, -, hab⟩ := hb
  have HAA := hide haa
  have HAB := hide hab
  obtain ⟨D, hD⟩ : ∃ D, D = decide (A = B) := ⟨_, rfl⟩
  rw [← hD]
  have HD1 : Hid (A = B → D = true) := fun h => by rw [hD]; exact decide_eq_true h
  have HD0 : Hid (¬ A = B → D = false) := fun h => by rw [hD]; exact decide_eq_false h
  have hgd := guard_ent
  have hml : (A.length : Int) ≤ 9223372036854775807 := by unfold maxLen at hcm; omega
  clear hD haa hab hcm hcm'
  by_cases hlen : A.length = B.length
  case neg =>
    have hne : ((A.length : Int) != (B.length : Int)) = true := by rw [bne_iff_ne]; omega
    have HE := hide (HD0.out (fun h => hlen (by rw [h])))
    clear hlen
    go_enter Try.func42, Try.ntmps42
    go_wp2
    go_ret
    rw [HE.out]
    exact ⟨rfl, Below.refl _ _⟩
  have hne : ((A.length : Int) != (B.length : Int)) = false := by rw [bne_eq_false_iff_eq]; omega
  have HLEN := hide hlen
  have HDT : Hid (A.take A.length = B.take A.length → D = true) := hide (fun h => HD1.out (by
    rw [List.take_length, HLEN.out, List.take_length] at h
    exact h))
  have HDF : Hid (∀ k, k < A.length → A.getD k zeroE ≠ B.getD k zeroE → D = false) := hide (fun k hk h => HD0.out (fun hs => h (by rw [hs])))
  clear hlen HD1 HD0
  go_enter Try.func42, Try.ntmps42
  go_wp2
  go_loopw [13] (fun vi wr => ∃ k : Nat, vi = .int .i64 (k : Int) ∧ k ≤ A.length ∧ Hid (A.take k = B.take k) ∧ Hid (∃ n, wr = w.drewN n)) (fun vi _ => A.length - (intOf vi).toNat)
  case atStart => exact ⟨0, rfl, Nat.zero_le _, rfl, ⟨0, rfl⟩⟩
  case round =>
    obtain ⟨k, rfl, hk, hP, hW⟩ := hrel
    obtain ⟨nw, hwr⟩ := hW.out
    subst hwr
    by_cases hlt : k < A.length
    case neg =>
      obtain rfl : k = A.length := by omega
      have HT := hide (HDT.out hP.out)
      go_wp2
      go_ret
      rw [HT.out]
      exact ⟨rfl, below_drewN (Below.refl _ _) _⟩
    rcases HAA.out with h0 | ⟨c, off, rfl, hc⟩
    · rw [h0] at hlt; simp at hlt
    rcases HAB.out with h0 | ⟨c', off', rfl, hc'⟩
    · have hlen := HLEN.out; rw [h0] at hlen; simp at hlen; rw [hlen] at hlt; simp at hlt
    obtain ⟨c0, c1, c2⟩ := hc k hlt
    obtain ⟨d0, d1, d2⟩ := hc' k (by have := HLEN.out; omega)
    have hki : (k : Int) < (A.length : Int) := by omega
    have hkj : (k : Int) < (B.length : Int) := by have := HLEN.out; omega
    have HNE := hide (HDF.out k hlt)
    have HPN : Hid (A.getD k zeroE = B.getD k zeroE → A.take (k + 1) = B.take (k + 1)) := fun h => by rw [takeE_snoc hlt, takeE_snoc (by have := HLEN.out; omega), hP.out, h]
    clear hc hc' HDT HDF
    generalize A.getD k zeroE = r at *
    generalize B.getD k zeroE = s at *
    by_cases hrs : r = s
    · subst hrs
      have HP1 := hide (HPN.out rfl)
      have hneq := fun W => neq_ent W r r
      rw [eqEnt_self] at hneq
      clear HNE HPN
      go_upto_region 6 with fail
      go_quiet (fail)
      go_wp2
      go_roundw
      case rel => exact ⟨k + 1, by go_num, by omega, HP1, ⟨_, rfl⟩⟩
      case measure => simp [intOf]; omega
    · have HD := hide (HNE.out hrs)
      have hneq := fun W => neq_ent W r s
      rw [eqEnt_not hrs] at hneq
      clear HNE HPN hrs
      go_upto_region 6 with fail
      go_quiet (fail)
      go_wp2
      go_ret
      rw [HD.out]
      exact ⟨rfl, below_drewN (below_drewN (Below.refl _ _) _) _⟩

set_option maxRecDepth 100000 in
set_option maxHeartbeats 2000000 in
theorem sameN_any (va : Value) (a : Snap) (vb : Value) (b : Snap) (w : World) (ha : SnV w va a) (hb : SnV w vb b) :
    Calls Try.prog 20 #[va, vb] w fun e w' => e = .returned (.bool (decide (SameN a b))) ∧ Below w.heap.size w w' := by
  obtain ⟨vl, vt, rfl, hl, hk, he, ht, hi⟩ := ha
  obtain ⟨vl', vt', rfl, hl', hk', he', ht', hi'⟩ := hb
  have HB0 : Hid (∀ X Y, Below w.heap.size w ((w.alloc X).alloc Y)) := fun X Y => ((Below.refl _ _).alloc (Nat.le_refl _) X).alloc (by simp) Y
  have HX0 : Hid (∀ cs ds, Bn ((w.alloc (.cells cs 27)).alloc (.cells ds 27)) w.heap.size cs) := fun cs ds => (Below.heap_alloc _ _ _ (by simp)).trans (heap_alloc_new w _)
  have HY0 : Hid (∀ cs ds, Bn ((w.alloc (.cells cs 27)).alloc (.cells ds 27)) (w.heap.size + 1) ds) := fun cs ds => new_two w _ _
  have HM := hide (fun W (h : Below w.heap.size w W) => sameS_any (.agg #[.int .i64 a.st.kind, vl, .bool a.st.shut, .int .i64 a.st.eng]) a.st (.agg #[.int .i64 b.st.kind, vl', .bool b.st.shut, .int .i64 b.st.eng]) b.st W ⟨vl, rfl, hl.below h (Nat.le_refl _), hk, he⟩ ⟨vl', rfl, hl'.below h (Nat.le_refl _), hk', he'⟩)
  have HT := hide (fun W (h : Below w.heap.size w W) => equalE_any vt a.tab vt' b.tab W (ht.below h (Nat.le_refl _)) (ht'.below h (Nat.le_refl _)))
  obtain ⟨la, lc, hvl, -⟩ := hl
  obtain ⟨la', lc', hvl', -⟩ := hl'
  obtain ⟨ta, tc, hvt⟩ := ht.shape
  obtain ⟨ta', tc', hvt'⟩ := ht'.shape
  subst hvl hvt hvl' hvt'
  obtain ⟨D, hD⟩ : ∃ D, D = decide (SameN a b) := ⟨_, rfl⟩
  rw [← hD]
  have HD : Hid (D = decide (SameN a b)) := hide hD
  have HU : Hid (SameN a b ↔ SameS a.st b.st ∧ a.idx = b.idx ∧ a.tab = b.tab) := hide Iff.rfl
  obtain ⟨m, hm⟩ : ∃ m, m = decide (SameS a.st b.st) := ⟨_, rfl⟩
  obtain ⟨n, hn⟩ : ∃ n, n = decide (a.tab = b.tab) := ⟨_, rfl⟩
  rw [← hm] at HM
  rw [← hn] at HT
  have HMM := hide hm
  have HNN := hide hn
  clear hD hm hn hk he hi hk' he' hi' ht ht'
  obtain ⟨idx, ⟨kind, L, shut, eng⟩, tab⟩ := a
  obtain ⟨idx', ⟨kind', L', shut', eng'⟩, tab'⟩ := b
  dsimp only at *
  by_cases h0 : idx = idx'
  case neg =>
    have h0d : (idx == idx') = false := beq_eq_false_iff_ne.2 h0
    have HF : Hid (D = false) := hide (by rw [HD.out]; exact decide_eq_false (fun h => h0 (HU.out.1 h).2.1))
    clear h0
    go_enter Try.func20, Try.ntmps20
    go_wp2
    go_ret
    rw [HF.out]
    exact ⟨rfl, HB0.out _ _⟩
  have h0d : (idx == idx') = true := beq_iff_eq.2 h0
  have HDD : Hid (D = (m && n)) := hide (by
    rw [HD.out, HMM.out, HNN.out, ← Bool.decide_and]
    exact decide_eq_decide.2 (HU.out.trans ⟨fun h => ⟨h.1, h.2.2⟩, fun h => ⟨h.1, h0, h.2⟩⟩))
  clear HD HU HMM HNN h0
  go_enter Try.func20, Try.ntmps20
  go_wp2_with fail
  refine (HM.out _ (HB0.out _ _)).mono ?_
  rintro x W1 ⟨rfl, hb1⟩
  have HB1 := hide ((HB0.out _ _).trans (hb1.mono (HB0.out _ _).size))
  have HX1 := hide ((HX0.out _ _).below hb1 (Nat.le_refl _))
  have HY1 := hide ((HY0.out _ _).below hb1 (Nat.le_refl _))
  obtain ⟨q5, f5⟩ := HX1.out.cell 5
  obtain ⟨r5, g5⟩ := HY1.out.cell 5
  clear hb1 HM
  cases m with
  | false =>
    go_wp2
    go_ret
    rw [HDD.out]
    exact ⟨rfl, HB1.out⟩
  | true =>
    go_wp2_with fail
    refine (HT.out _ HB1.out).mono ?_
    rintro x W2 ⟨rfl, hb2⟩
    have HB2 := hide (HB1.out.trans (hb2.mono HB1.out.size))
    clear hb2 HT
    go_wp2
    go_ret
    rw [HDD.out]
    exact ⟨rfl, HB2.out⟩

end Go.Proofs.Ytgpdbboieokldaa
