/- Contracts of ferrymanref09: May, Same. -/
import Derived.Test.YtgpdbboieokldaaPack3
namespace Go.Proofs.Ytgpdbboieokldaa
open Go.RowKit

/-- A box of a snapshot. -/
def Bn (w : World) (b : Nat) (cs : Array Value) : Prop := w.heap[b]? = some (.cells cs 27 (0, 0))

theorem Bn.lt {w : World} {b : Nat} {cs : Array Value} (h : Bn w b cs) : b < w.heap.size := (Array.getElem?_eq_some_iff.1 h).1

theorem Bn.below {w w' : World} {b B : Nat} {cs : Array Value} (h : Bn w b cs) (hb : Below B w w') (hB : w.heap.size ≤ B) : Bn w' b cs := (hb.block b (by have := h.lt; omega)).trans h

theorem Bn.cell {w : World} {b : Nat} {cs : Array Value} (h : Bn w b cs) (j : Nat) : w.cell? ⟨b, j, none⟩ = cs[j]? ∧ w.frozen? ⟨b, j, none⟩ = false := ⟨cell_of_row w b j _ _ _ h, frozen_of_row w b j _ _ h⟩

theorem mayN_parts (s : Snap) : MayN s ↔ MayS s.st ∧ TabOk s.tab ∧ 0 ≤ s.idx ∧ s.idx < 4611686018427387904 := by
  unfold MayN
  constructor
  · rintro ⟨⟨h1, h2⟩, h3, h4⟩
    exact ⟨h3, h4, h1, h2⟩
  · rintro ⟨h3, h4, h1, h2⟩
    exact ⟨⟨h1, h2⟩, h3, h4⟩

set_option maxRecDepth 100000 in
set_option maxHeartbeats 4000000 in
theorem refMayN_any (v : Value) (s : Snap) (w : World) (hs : SnV w v s) :
    Calls Try.prog 29 #[v] w fun e w' => e = .returned (.bool (decide (MayN s))) ∧ Below w.heap.size w w' := by
  obtain ⟨vl, vt, rfl, hl, hk, he, ht, hi⟩ := hs
  obtain ⟨la, lc, e1⟩ : ∃ la lc, vl = .slice la s.st.L.length lc := by
    obtain ⟨a, c, h, -⟩ := hl
    exact ⟨a, c, h⟩
  obtain ⟨ta, tc, e2⟩ := ht.shape
  subst e1 e2
  have HL := hide hl
  have HT := hide ht
  have HSV : Hid (∀ W, Below w.heap.size w W → StV W (.agg #[.int .i64 s.st.kind, .slice la s.st.L.length lc, .bool s.st.shut, .int .i64 s.st.eng]) s.st) := hide (fun W h => ⟨_, rfl, HL.out.below h (Nat.le_refl _), hk, he⟩)
  have HMS := hide (fun W h => refMay_any _ s.st W (HSV.out W h))
  have HMT := hide (fun W (h : Below w.heap.size w W) => refTable_any _ s.tab W (HT.out.below h (Nat.le_refl _)))
  have HB0 : Hid (∀ X, Below w.heap.size w (w.alloc X)) := fun X => (Below.refl _ _).alloc (Nat.le_refl _) X
  have HX0 : Hid (∀ cs, Bn (w.alloc (.cells cs 27)) w.heap.size cs) := fun cs => heap_alloc_new w _
  have HPA := hide (mayN_parts s)
  obtain ⟨D, hD⟩ : ∃ D, D = decide (MayN s) := ⟨_, rfl⟩
  rw [← hD]
  have HD1 : Hid (MayN s → D = true) := fun h => by rw [hD]; exact decide_eq_true h
  have HD0 : Hid (¬ MayN s → D = false) := fun h => by rw [hD]; exact decide_eq_false h
  obtain ⟨A, hA⟩ : ∃ A, A = decide (MayS s.st) := ⟨_, rfl⟩
  obtain ⟨T, hT⟩ : ∃ T, T = decide (TabOk s.tab) := ⟨_, rfl⟩
  rw [← hA] at HMS
  rw [← hT] at HMT
  have HA := hide hA
  have HTT := hide hT
  clear hA hT hD hl ht hk he hi
  obtain ⟨idx, ⟨kind, L, shut, eng⟩, tab⟩ := s
  dsimp only at *
  go_enter Try.func29, Try.ntmps29
  go_wp2_with fail
  refine (HMS.out _ (HB0.out _)).mono ?_
  rintro e W1 ⟨rfl, hb1⟩
  have hx1 : Bn W1 w.heap.size _ := (HX0.out _).below hb1 (Nat.le_refl _)
  have HX1 := hide hx1
  have HB1 := hide ((HB0.out _).trans (hb1.mono (HB0.out _).size))
  obtain ⟨p5, -⟩ := hx1.cell 5
  clear hb1 hx1
  go_wp2_with fail
  refine (HMT.out _ HB1.out).mono ?_
  rintro e W2 ⟨rfl, hb2⟩
  have hx2 : Bn W2 w.heap.size _ := HX1.out.below hb2 (Nat.le_refl _)
  have HB2 := hide (HB1.out.trans (hb2.mono HB1.out.size))
  obtain ⟨q0, -⟩ := hx2.cell 0
  clear hb2 hx2 p5
  cases A with
  | false =>
    have HE := hide (HD0.out (fun h => of_decide_eq_false HA.out.symm (HPA.out.1 h).1))
    go_wp2
    go_ret
    rw [HE.out]
    exact ⟨rfl, HB2.out⟩
  | true =>
    cases T with
    | false =>
      have HE := hide (HD0.out (fun h => of_decide_eq_false HTT.out.symm (HPA.out.1 h).2.1))
      go_wp2
      go_ret
      rw [HE.out]
      exact ⟨rfl, HB2.out⟩
    | true =>
      by_cases h0 : 0 ≤ idx
      case neg =>
        have h0d : decide (0 ≤ idx) = false := decide_eq_false h0
        have HE := hide (HD0.out (fun h => h0 (HPA.out.1 h).2.2.1))
        clear h0
        go_wp2
        go_ret
        rw [HE.out]
        exact ⟨rfl, HB2.out⟩
      by_cases h1 : idx < 4611686018427387904
      case neg =>
        have h1d : decide (idx < 4611686018427387904) = false := decide_eq_false h1
        have HE := hide (HD0.out (fun h => h1 (HPA.out.1 h).2.2.2))
        clear h1
        go_wp2
        go_ret
        rw [HE.out]
        exact ⟨rfl, HB2.out⟩
      have HE := hide (HD1.out (HPA.out.2 ⟨of_decide_eq_true HA.out.symm, of_decide_eq_true HTT.out.symm, h0, h1⟩))
      go_wp2
      go_ret
      rw [HE.out]
      exact ⟨rfl, HB2.out⟩

theorem new_two (w : World) (X Y : Obj) : ((w.alloc X).alloc Y).heap[w.heap.size + 1]? = some Y := by
  have h := heap_alloc_new (w.alloc X) Y
  have e : (w.alloc X).heap.size = w.heap.size + 1 := by simp
  rw [e] at h
  exact h

/-- Are two snapshots the same? -/
def SameN (a b : Snap) : Prop := SameS a.st b.st ∧ a.idx = b.idx ∧ a.tab = b.tab

instance (a b : Snap) : Decidable (SameN a b) := by unfold SameN; infer_instance

theorem takeE_snoc {l : List Ent} {q : Nat} (h : q < l.length) : l.take (q + 1) = l.take q ++ [l.getD q zeroE] := by
  rw [List.take_add_one]
  simp [List.getD, h]

set_option maxRecDepth 100000 in
set_option maxHeartbeats 4000000 in
theorem refSameN_any (va : Value) (a : Snap) (vb : Value) (b : Snap) (w : World) (ha : SnV w va a) (hb : SnV w vb b) :
    Calls Try.prog 16 #[va, vb] w fun e w' => e = .returned (.bool (decide (SameN a b))) ∧ Below w.heap.size w w' := by
  obtain ⟨vl, vt, rfl, hl, hk, he, ht, hi⟩ := ha
  obtain ⟨vl', vt', rfl, hl', hk', he', ht', hi'⟩ := hb
  obtain ⟨la, lc, e1⟩ : ∃ la lc, vl = .slice la a.st.L.length lc := by
    obtain ⟨a, c, h, -⟩ := hl
    exact ⟨a, c, h⟩
  obtain ⟨la', lc', e3⟩ : ∃ la lc, vl' = .slice la b.st.L.length lc := by
    obtain ⟨a, c, h, -⟩ := hl'
    exact ⟨a, c, h⟩
  obtain ⟨ta, tc, e2, htl, htm, -, -, hta⟩ := ht
  obtain ⟨ta', tc', e4, htl', htm', -, -, hta'⟩ := ht'
  subst e1 e2 e3 e4
  have hml : (a.tab.length : Int) ≤ 9223372036854775807 := by unfold maxLen at htm; omega
  have hml2 : (b.tab.length : Int) ≤ 9223372036854775807 := by unfold maxLen at htm'; omega
  have HAA := hide hta
  have HAB := hide hta'
  have HL := hide hl
  have HL' := hide hl'
  have HSV : Hid (∀ W, Below w.heap.size w W → StV W (.agg #[.int .i64 a.st.kind, .slice la a.st.L.length lc, .bool a.st.shut, .int .i64 a.st.eng]) a.st) := hide (fun W h => ⟨_, rfl, HL.out.below h (Nat.le_refl _), hk, he⟩)
  have HSV' : Hid (∀ W, Below w.heap.size w W → StV W (.agg #[.int .i64 b.st.kind, .slice la' b.st.L.length lc', .bool b.st.shut, .int .i64 b.st.eng]) b.st) := hide (fun W h => ⟨_, rfl, HL'.out.below h (Nat.le_refl _), hk', he'⟩)
  have HMS := hide (fun W h => refSameS_any _ a.st _ b.st W (HSV.out W h) (HSV'.out W h))
  have HB0 : Hid (∀ X Y, Below w.heap.size w ((w.alloc X).alloc Y)) := fun X Y => ((Below.refl _ _).alloc (Nat.le_refl _) X).alloc (by simp) Y
  have HX0 : Hid (∀ cs ds, Bn ((w.alloc (.cells cs 27)).alloc (.cells ds 27)) w.heap.size cs) := fun cs ds => (Below.heap_alloc _ _ _ (by simp)).trans (heap_alloc_new w _)
  have HY0 : Hid (∀ cs ds, Bn ((w.alloc (.cells cs 27)).alloc (.cells ds 27)) (w.heap.size + 1) ds) := fun cs ds => new_two w _ _
  have hgd := guard_ent
  obtain ⟨D, hD⟩ : ∃ D, D = decide (SameN a b) := ⟨_, rfl⟩
  rw [← hD]
  have HD1 : Hid (SameN a b → D = true) := fun h => by rw [hD]; exact decide_eq_true h
  have HD0 : Hid (¬ SameN a b → D = false) := fun h => by rw [hD]; exact decide_eq_false h
  obtain ⟨A, hA⟩ : ∃ A, A = decide (SameS a.st b.st) := ⟨_, rfl⟩
  rw [← hA] at HMS
  have HA := hide hA
  have HU : Hid (SameN a b ↔ SameS a.st b.st ∧ a.idx = b.idx ∧ a.tab = b.tab) := hide Iff.rfl
  clear hA hD hl hl' hta hta' hk he hi hk' he' hi' htm htm' htl htl' HSV HSV'
  obtain ⟨idx, ⟨kind, L, shut, eng⟩, tab⟩ := a
  obtain ⟨idx', ⟨kind', L', shut', eng'⟩, tab'⟩ := b
  dsimp only at *
  go_enter Try.func16, Try.ntmps16
  go_wp2_with fail
  refine (HMS.out _ (HB0.out _ _)).mono ?_
  rintro e W1 ⟨rfl, hb1⟩
  have hx1 : Bn W1 w.heap.size _ := (HX0.out _ _).below hb1 (Nat.le_refl _)
  have hy1 : Bn W1 (w.heap.size + 1) _ := (HY0.out _ _).below hb1 (Nat.le_refl _)
  have HX1 := hide hx1
  have HY1 := hide hy1
  have HB1 := hide ((HB0.out _ _).trans (hb1.mono (HB0.out _ _).size))
  obtain ⟨p0, -⟩ := hx1.cell 0
  obtain ⟨p5, -⟩ := hx1.cell 5
  obtain ⟨q0, -⟩ := hy1.cell 0
  obtain ⟨q5, -⟩ := hy1.cell 5
  clear hb1 hx1 hy1 HX0 HY0 HMS
  cases A with
  | false =>
    have HE := hide (HD0.out (fun h => of_decide_eq_false HA.out.symm (HU.out.1 h).1))
    go_wp2
    go_ret
    rw [HE.out]
    exact ⟨rfl, HB1.out⟩
  | true =>
    by_cases h0 : idx = idx'
    case neg =>
      have h0d : (idx != idx') = true := by rw [bne_iff_ne]; exact h0
      have HE := hide (HD0.out (fun h => h0 (HU.out.1 h).2.1))
      clear h0
      go_wp2
      go_ret
      rw [HE.out]
      exact ⟨rfl, HB1.out⟩
    have h0d : (idx != idx') = false := by rw [bne_eq_false_iff_eq]; exact h0
    have H0 := hide h0
    clear h0
    by_cases hlen : tab.length = tab'.length
    case neg =>
      have hne : ((tab.length : Int) != (tab'.length : Int)) = true := by rw [bne_iff_ne]; omega
      have HE := hide (HD0.out (fun h => hlen (by rw [(HU.out.1 h).2.2])))
      clear hlen
      go_wp2
      go_ret
      rw [HE.out]
      exact ⟨rfl, HB1.out⟩
    have hne : ((tab.length : Int) != (tab'.length : Int)) = false := by rw [bne_eq_false_iff_eq]; omega
    have HLEN := hide hlen
    have HDT : Hid (tab.take tab.length = tab'.take tab.length → D = true) := hide (fun h => HD1.out (HU.out.2 ⟨of_decide_eq_true HA.out.symm, H0.out, by
      rw [List.take_length, HLEN.out, List.take_length] at h
      exact h⟩))
    have HDF : Hid (∀ k, k < tab.length → tab.getD k zeroE ≠ tab'.getD k zeroE → D = false) := hide (fun k hk h => HD0.out (fun hs => h (by rw [(HU.out.1 hs).2.2])))
    clear hlen HU HD1 HD0 HA H0
    go_wp2
    go_loopw [6] (fun vi wr => ∃ k : Nat, vi = .int .i64 (k : Int) ∧ k ≤ tab.length ∧ Hid (tab.take k = tab'.take k) ∧ Hid (∃ n, wr = W1.drewN n)) (fun vi _ => tab.length - (intOf vi).toNat)
    case atStart => exact ⟨0, rfl, Nat.zero_le _, rfl, ⟨0, rfl⟩⟩
    case round =>
      obtain ⟨k, rfl, hk, hP, hW⟩ := hrel
      obtain ⟨nw, hwr⟩ := hW.out
      subst hwr
      by_cases hlt : k < tab.length
      case neg =>
        obtain rfl : k = tab.length := by omega
        have HT := hide (HDT.out hP.out)
        go_wp2
        go_ret
        rw [HT.out]
        exact ⟨rfl, below_drewN HB1.out _⟩
      rcases HAA.out with h0 | ⟨c, off, rfl, hc⟩
      · rw [h0] at hlt; simp at hlt
      rcases HAB.out with h0 | ⟨c', off', rfl, hc'⟩
      · have hlen := HLEN.out; rw [h0] at hlen; simp at hlen; rw [hlen] at hlt; simp at hlt
      have h1 := hc k hlt
      have h2 := hc' k (by have := HLEN.out; omega)
      obtain ⟨c0, c1, c2⟩ := h1.keep (HB1.out.block c h1.lt)
      obtain ⟨d0, d1, d2⟩ := h2.keep (HB1.out.block c' h2.lt)
      have hki : (k : Int) < (tab.length : Int) := by omega
      have hkj : (k : Int) < (tab'.length : Int) := by have := HLEN.out; omega
      have HNE := hide (HDF.out k hlt)
      have HPN : Hid (tab.getD k zeroE = tab'.getD k zeroE → tab.take (k + 1) = tab'.take (k + 1)) := fun h => by rw [takeE_snoc hlt, takeE_snoc (by have := HLEN.out; omega), hP.out, h]
      clear hc hc' h1 h2 HDT HDF
      generalize tab.getD k zeroE = r at *
      generalize tab'.getD k zeroE = s at *
      by_cases hrs : r = s
      · subst hrs
        have HP1 := hide (HPN.out rfl)
        have hneq := fun W => neq_ent W r r
        rw [eqEnt_self] at hneq
        clear HNE HPN
        go_upto_region 7 with fail
        go_quiet (fail)
        go_wp2
        go_roundw
        case rel => exact ⟨k + 1, by go_num, by omega, HP1, ⟨_, rfl⟩⟩
        case measure => simp [intOf]; omega
      · have HD := hide (HNE.out hrs)
        have hneq := fun W => neq_ent W r s
        rw [eqEnt_not hrs] at hneq
        clear HNE HPN hrs
        go_upto_region 7 with fail
        go_quiet (fail)
        go_wp2
        go_ret
        rw [HD.out]
        exact ⟨rfl, below_drewN (below_drewN HB1.out _) _⟩

end Go.Proofs.Ytgpdbboieokldaa
