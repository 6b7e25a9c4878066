import Derived.Test.YtanmjihiceibbaaPack4
import Derived.Test.YtanmjihiceibbaaPack3
import Derived.Test.YtanmjihiceibbaaPack1
import Derived.Test.YtanmjihiceibbaaPack2
/- Contracts of ferrymanref09: May, Same. -/
namespace Go.Proofs.Ytanmjihiceibbaa
open Go.RowKit

/-- A box of a snapshot. -/
def Bn (w : World) (b : Nat) (cs : Array Value) : Prop := w.heap[b]? = some (.cells cs 27 (0, 0))

theorem Bn.lt {w : World} {b : Nat} {cs : Array Value} (h : Bn w b cs) : b < w.heap.size := (Array.getElem?_eq_some_iff.1 h).1

theorem Bn.below {w w' : World} {b B : Nat} {cs : Array Value} (h : Bn w b cs) (hb : Below B w w') (hB : w.heap.size ≤ B) : Bn w' b cs := (hb.block b (by have := h.lt; omega)).trans h

theorem Bn.cell {w : World} {b : Nat} {cs : Array Value} (h : Bn w b cs) (j : Nat) : w.cell? ⟨b, j, none⟩ = cs[j]? ∧ w.frozen? ⟨b, j, none⟩ = false := ⟨cell_of_row w b j _ _ _ h, frozen_of_row w b j _ _ h⟩

theorem mayN_parts (s : Snap) : MayN s ↔ MayS s.st ∧ TabOk s.tab ∧ 0 ≤ s.idx ∧ s.idx < 4611686018427387904 := by
  unfold MayN
  constructor
  · rintro ⟨⟨h1, h2⟩, h3, h4⟩
    exact ⟨h3, h4, h1, h2⟩
  · rintro ⟨h3, h4, h1, h2⟩
    exact ⟨⟨h1, h2⟩, h3, h4⟩

set_option maxRecDepth 100000 in
set_option maxHeartbeats 4000000 in
theorem refMayN_any (v : Value) (s : Snap) (w : World) (hs : SnV w v s) :
    Calls Try.prog 12 #[v] w fun e w' => e = .returned (.bool (decide (MayN s))) ∧ Below w.heap.size w w' := by
  obtain ⟨vl, vt, rfl, hl, hk, he, ht, hi⟩ := hs
  obtain ⟨la, lc, e1⟩ : ∃ la lc, vl = .slice la s.st.L.length lc := by
    obtain ⟨a, c, h, -⟩ := hl
    exact ⟨a, c, h⟩
  obtain ⟨ta, tc, e2⟩ := ht.shape
  subst e1 e2
  have HL := hide hl
  have HT := hide ht
  have HSV : Hid (∀ W, Below w.heap.size w W → StV W (.agg #[.int .i64 s.st.kind, .slice la s.st.L.length lc, .bool s.st.shut, .int .i64 s.st.eng]) s.st) := hide (fun W h => ⟨_, rfl, HL.out.below h (Nat.le_refl _), hk, he⟩)
  have HMS := hide (fun W h => refMay_any _ s.st W (HSV.out W h))
  have HMT := hide (fun W (h : Below w.heap.size w W) => refTable_any _ s.tab W (HT.out.below h (Nat.le_refl _)))
  have HB0 : Hid (∀ X, Below w.heap.size w (w.alloc X)) := fun X => (Below.refl _ _).alloc (Nat.le_refl _) X
  have HX0 : Hid (∀ cs, Bn (w.alloc (.cells cs 27)) w.heap.size cs) := fun cs => heap_alloc_new w _
  have HPA := hide (mayN_parts s)
  obtain ⟨D, hD⟩ : ∃ D, D = decide (MayN s) := ⟨_, rfl⟩
  rw [← hD]
  have HD1 : Hid (MayN s → D = true) := fun h => by rw [hD]; exact decide_eq_true h
  have HD0 : Hid (¬ MayN s → D = false) := fun h => by rw [hD]; exact decide_eq_false h
  obtain ⟨A, hA⟩ : ∃ A, A = decide (MayS s.st) := ⟨_, rfl⟩
  obtain ⟨T, hT⟩ : ∃ T, T = decide (TabOk s.tab) := ⟨_, rfl⟩
  rw [← hA] at HMS
  rw [← hT] at HMT
  have HA := hide hA
  have HTT := hide hT
  clear hA hT hD hl ht hk he hi
  obtain ⟨idx, ⟨kind, L, shut, eng⟩, tab⟩ := s
  dsimp only at *
  go_enter Try.func12, Try.ntmps12
  go_wp2_with fail
  refine (HMS.out _ (HB0.out _)).mono ?_
  rintro e W1 ⟨rfl, hb1⟩
  have hx1 : Bn W1 w.heap.size _ := (HX0.out _).below hb1 (Nat.le_refl _)
  have HX1 := hide hx1
  have HB1 := hide ((HB0.out _).trans (hb1.mono (HB0.out _).size))
  obtain ⟨p5, -⟩ := hx1.cell 5
  clear hb1 hx1
  go_wp2_with fail
  refine (HMT.out _ HB1.out).mono ?_
  rintro e W2 ⟨rfl, hb2⟩
  have hx2 : Bn W2 w.heap.size _ := HX1.out.below hb2 (Nat.le_refl _)
  have HB2 := hide (HB1.out.trans (hb2.mono HB1.out.size))
  obtain ⟨q0, -⟩ := hx2.cell 0
  clear hb2 hx2 p5
  cases A with
  | false =>
    have HE := hide (HD0.out (fun h => of_decide_eq_false HA.out.symm (HPA.out.1 h).1))
    go_wp2
    go_ret
    rw [HE.out]
    exact ⟨rfl, HB2.out⟩
  | true =>
    cases T with
    | false =>
      have HE := hide (HD0.out (fun h => of_decide_eq_false HTT.out.symm (HPA.out.1 h).2.1))
      go_wp2
      go_ret
      rw [HE.out]
      exact ⟨rfl, HB2.out⟩
    | true =>
      by_cases h0 : 0 ≤ idx
      case neg =>
        have h0d : decide (0 ≤ idx) = false := decide_eq_false h0
        have HE := hide (HD0.out (fun h => h0 (HPA.out.1 h).2.2.1))
        clear h0
        go_wp2
        go_ret
        rw [HE.out]
        exact ⟨rfl, HB2.out⟩
      by_cases h1 : idx < 4611686018427387904
      case neg =>
        have h1d : decide (idx < 4611686018427387904) = false := decide_eq_false h1
        have HE := hide (HD0.out (fun h => h1 (HPA.out.1 h).2.2.2))
        clear h1
        go_wp2
        go_ret
        rw [HE.out]
        exact ⟨rfl, HB2.out⟩
      have HE := hide (HD1.out (HPA.out.2 ⟨of_decide_eq_true HA.out.symm, of_decide_eq_true HTT.out.symm, h0, h1⟩))
      go_wp2
      go_ret
      rw [HE.out]
      exact ⟨rfl, HB2.out⟩

theorem new_two (w : World) (X Y : Obj) : ((w.alloc X).alloc Y).heap[w.heap.size + 1]? = some Y := by
  have h := heap_alloc_new (w.alloc X) Y
  have e : (w.alloc X).heap.size = w.heap.size + 1 := by simp
  rw [e] at h
  exact h

/-- Are two snapshots the same? -/
def SameN (a b : Snap) : Prop := SameS a.st b.st ∧ a.idx = b.idx ∧ a.tab = b.tab

instance (a b : Snap) : Decidable (SameN a b) := by unfold SameN; infer_instance

theorem takeE_snoc {l : List Ent} {q : Nat} (h : q < l.length) : l.take (q + 1) = l.take q ++ [l.getD q zeroE] := by
  rw [List.take_add_one]
  simp [List.getD, h]

set_option maxRecDepth 100000 in
set_option maxHeartbeats 4000000 in
theorem refSameN_any (va : Value) (a : Snap) (vb : Value) (b : Snap) (w : World) (ha : SnV w va a) (hb : SnV w vb b) :
    Calls Try.prog 14 #[va, vb] w fun e w' => e = .returned (.bool (decide (SameN a b))) ∧ Below w.heap.size w w' := by
  obtain ⟨vl, vt, rfl, hl, hk, he, ht, hi⟩ := ha
  obtain ⟨vl', vt', rfl, hl', hk', he', ht', hi'⟩ := hb
  obtain ⟨la, lc, e1⟩ : ∃ la lc, vl = .slice la a.st.L.length lc := by
    obtain ⟨a, c, h, -⟩ := hl
    exact ⟨a, c, h⟩
  obtain ⟨la', lc', e3⟩ : ∃ la lc, vl' = .slice la b.st.L.length lc := by
    obtain ⟨a, c, h, -⟩ := hl'
    exact ⟨a, c, h⟩
  obtain ⟨ta, tc, e2, htl, htm, -, -, hta⟩ := ht
  obtain ⟨ta', tc', e4, htl', htm', -, -, hta'⟩ := ht'
  subst e1 e2 e3 e4
  have hml : (a.tab.length : Int) ≤ 9223372036854775807 := by unfold maxLen at htm; omega
  have hml2 : (b.tab.length : Int) ≤ 9223372036854775807 := by unfold maxLen at htm'; omega
  have HAA := hide hta
  have HAB := hide hta'
  have HL := hide hl
  have HL' := hide hl'
  have HSV : Hid (∀ W, Below w.heap.size w W → StV W (.agg #[.int .i64 a.st.kind, .slice la a.st.L.length lc, .bool a.st.shut, .int .i64 a.st.eng]) a.st) := hide (fun W h => ⟨_, rfl, HL.out.below h (Nat.le_refl _), hk, he⟩)
  have HSV' : Hid (∀ W, Below w.heap.size w W → StV W (.agg #[.int .i64 b.st.kind, .slice la' b.st.L.length lc', .bool b.st.shut, .int .i64 b.st.eng]) b.st) := hide (fun W h => ⟨_, rfl, HL'.out.below h (Nat.le_refl _), hk', he'⟩)
  have HMS := hide (fun W h => refSameS_any _ a.st _ b.st W (HSV.out W h) (HSV'.out W h))
  have HB0 : Hid (∀ X Y, Below w.heap.size w ((w.alloc X).alloc Y)) := fun X Y => ((Below.refl _ _).alloc (Nat.le_refl _) X).alloc (by simp) Y
  have HX0 : Hid (∀ cs ds, Bn ((w.alloc (.cells cs 27)).alloc (.cells ds 27)) w.heap.size cs) := fun cs ds => (Below.heap_alloc _ _ _ (by simp)).trans (heap_alloc_new w _)
  have HY0 : Hid (∀ cs ds, Bn ((w.alloc (.cells cs 27)).alloc (.cells ds 27)) (w.heap.size + 1) ds) := fun cs ds => new_two w _ _
  have hgd := guard_ent
  obtain ⟨D, hD⟩ : ∃ D, D = decide (SameN a b) := ⟨_, rfl⟩
  rw [← hD]
  have HD1 : Hid (SameN a b → D = true) := fun h => by rw [hD]; exact decide_eq_true h
  have HD0 : Hid (¬ SameN a b → D = false) := fun h => by rw [hD]; exact decide_eq_false h
  obtain ⟨A, hA⟩ : ∃ A, A = decide (SameS a.st b.st) := ⟨_, rfl⟩
  rw [← hA] at HMS
  have HA := hide hA
  have HU : Hid (SameN a b ↔ SameS a.st b.st ∧ a.idx = b.idx ∧ a.tab = b.tab) := hide Iff.rfl
  clear hA hD hl hl' hta hta' hk he hi hk' he' hi' htm htm' htl htl' HSV HSV'
  obtain ⟨idx, ⟨kind, L, shut, eng⟩, tab⟩ := a
  obtain ⟨idx', ⟨kind', L', shut', eng'⟩, tab'⟩ := b
  dsimp only at *
  go_enter Try.func14, Try.ntmps14
  go_wp2_with fail
  refine (HMS.out _ (HB0.out _ _)).mono ?_
  rintro e W1 ⟨rfl, hb1⟩
  have hx1 : Bn W1 w.heap.size _ := (HX0.out _ _).below hb1 (Nat.le_refl _)
  have hy1 : Bn W1 (w.heap.size + 1) _ := (HY0.out _ _).below hb1 (Nat.le_refl _)
  have HX1 := hide hx1
  have HY1 := hide hy1
  have HB1 := hide ((HB0.out _ _).trans (hb1.mono (HB0.out _ _).size))
  obtain ⟨p0, -⟩ := hx1.cell 0
  obtain ⟨p5, -⟩ := hx1.cell 5
  obtain ⟨q0, -⟩ := hy1.cell 0
  obtain ⟨q5, -⟩ := hy1.cell 5
  clear hb1 hx1 hy1 HX0 HY0 HMS
  cases A with
  | false =>
    have HE := hide (HD0.out (fun h => of_decide_eq_false HA.out.symm (HU.out.1 h).1))
    go_wp2
    go_ret
    rw [HE.out]
    exact ⟨rfl, HB1.out⟩
  | true =>
    by_cases h0 : idx = idx'
    case neg =>
      have h0d : (idx != idx') = true := by rw [bne_iff_ne]; exact h0
      have HE := hide (HD0.out (fun h => h0 (HU.out.1 h).2.1))
      clear h0
      go_wp2
      go_ret
      rw [HE.out]
      exact ⟨rfl, HB1.out⟩
    have h0d : (idx != idx') = false := by rw [bne_eq_false_iff_eq]; exact h0
    have H0 := hide h0
    clear h0
    by_cases hlen : tab.length = tab'.length
    case neg =>
      have hne : ((tab.length : Int) != (tab'.length : Int)) = true := by rw [bne_iff_ne]; omega
      have HE := hide (HD0.out (fun h => hlen (by rw [(HU.out.1 h).2.2])))
      clear hlen
      go_wp2
      go_ret
      rw [HE.out]
      exact ⟨rfl, HB1.out⟩
    have hne : ((tab.length : Int) != (tab'.length : Int)) = false := by rw [bne_eq_false_iff_eq]; omega
    have HLEN := hide hlen
    have HDT : Hid (tab.take tab.length = tab'.take tab.length → D = true) := hide (fun h => HD1.out (HU.out.2 ⟨of_decide_eq_true HA.out.symm, H0.out, by
      rw [List.take_length, HLEN.out, List.take_length] at h
      exact h⟩))
    have HDF : Hid (∀ k, k < tab.length → tab.getD k zeroE ≠ tab'.getD k zeroE → D = false) := hide (fun k hk h => HD0.out (fun hs => h (by rw [(HU.out.1 hs).2.2])))
    clear hlen HU HD1 HD0 HA H0
    go_wp2
    go_loopw [6] (fun vi wr => ∃ k : Nat, vi = .int .i64 (k : Int) ∧ k ≤ tab.length ∧ Hid (tab.take k = tab'.take k) ∧ Hid (∃ n, wr = W1.drewN n)) (fun vi _ => tab.length - (intOf vi).toNat)
    case atStart => exact ⟨0, rfl, Nat.zero_le _, rfl, ⟨0, rfl⟩⟩
    case round =>
      obtain ⟨k, rfl, hk, hP, hW⟩ := hrel
      obtain ⟨nw, hwr⟩ := hW.out
      subst hwr
      by_cases hlt : k < tab.length
      case neg =>
        obtain rfl : k = tab.length := by omega
        have HT := hide (HDT.out hP.out)
        go_wp2
        go_ret
        rw [HT.out]
        exact ⟨rfl, below_drewN HB1.out _⟩
      rcases HAA.out with h0 | ⟨c, off, rfl, hc⟩
      · rw [h0] at hlt; simp at hlt
      rcases HAB.out with h0 | ⟨c', off', rfl, hc'⟩
      · have hlen := HLEN.out; rw [h0] at hlen; simp at hlen; rw [hlen] at hlt; simp at hlt
      have h1 := hc k hlt
      have h2 := hc' k (by have := HLEN.out; omega)
      obtain ⟨c0, c1, c2⟩ := h1.keep (HB1.out.block c h1.lt)
      obtain ⟨d0, d1, d2⟩ := h2.keep (HB1.out.block c' h2.lt)
      have hki : (k : Int) < (tab.length : Int) := by omega
      have hkj : (k : Int) < (tab'.length : Int) := by have := HLEN.out; omega
      have HNE := hide (HDF.out k hlt)
      have HPN : Hid (tab.getD k zeroE = tab'.getD k zeroE → tab.take (k + 1) = tab'.take (k + 1)) := fun h => by rw [takeE_snoc hlt, takeE_snoc (by have := HLEN.out; omega), hP.out, h]
      clear hc hc' h1 h2 HDT HDF
      generalize tab.getD k zeroE = r at *
      generalize tab'.getD k zeroE = s at *
      by_cases hrs : r = s
      · subst hrs
        have HP1 := hide (HPN.out rfl)
        have hneq := fun W => neq_ent W r r
        rw [eqEnt_self] at hneq
        clear HNE HPN
        go_upto_region 7 with fail
        go_quiet (fail)
        go_wp2
        go_roundw
        case rel => exact ⟨k + 1, by go_num, by omega, HP1, ⟨_, rfl⟩⟩
        case measure => simp [intOf]; omega
      · have HD := hide (HNE.out hrs)
        have hneq := fun W => neq_ent W r s
        rw [eqEnt_not hrs] at hneq
        clear HNE HPN hrs
        go_upto_region 7 with fail
        go_quiet (fail)
        go_wp2
        go_ret
        rw [HD.out]
        exact ⟨rfl, below_drewN (below_drewN HB1.out _) _⟩

end Go.Proofs.Ytanmjihiceibbaa

/- What is read stays while boxes are written: entries; a result that is a snapshot. -/
namespace Go.Proofs.Ytanmjihiceibbaa
open Go.RowKit

theorem RdE.but {w w' : World} {v : Value} {l : List Ent} (h : RdE w v l) {R T : Nat} (hb : But R T w w') (hn : l = [] ∨ ∀ b, v.ownBlock = some b → b ≠ R ∧ b ≠ T) : RdE w' v l := by
  obtain ⟨ao, cap, rfl, h2, h3, hn0, hw, h4⟩ := h
  refine ⟨ao, cap, rfl, h2, h3, hn0, hw, ?_⟩
  rcases h4 with h4 | ⟨b, off, h5, h6⟩
  · exact .inl h4
  · by_cases hl : l = []
    · exact .inl hl
    · refine .inr ⟨b, off, h5, fun j hj => ?_⟩
      have h7 := h6 j hj
      rcases hn with hn | hn
      · exact absurd hn hl
      · have h8 := hn b (by rw [h5]; rfl)
        exact h7.keep (hb.block b h7.lt h8.1 h8.2)

theorem RdE.block {w : World} {v : Value} {l : List Ent} (h : RdE w v l) : l = [] ∨ ∀ b, v.ownBlock = some b → b < w.heap.size := by
  obtain ⟨ao, cap, rfl, h2, h3, hn0, hw, h4⟩ := h
  rcases h4 with h4 | ⟨b, off, rfl, h6⟩
  · exact .inl h4
  · by_cases hl : l = []
    · exact .inl hl
    · refine .inr fun c hc => ?_
      have e : b = c := by simpa [Value.ownBlock] using hc
      rw [← e]
      exact (h6 0 (List.length_pos_iff.2 hl)).lt

theorem RdI.old {w : World} {v : Value} {l : List Int} (h : RdI w v l) : l = [] ∨ ∀ b, v.ownBlock = some b → b < w.heap.size := by
  rcases h.block with h | ⟨_, b, hb, hlt⟩
  · exact .inl h
  · refine .inr fun c hc => ?_
    rw [hb] at hc
    injection hc with hc
    omega

theorem OwnE.fresh {w : World} {B : Nat} {v : Value} {l : List Ent} (h : OwnE w B v l) : ∀ b, v.ownBlock = some b → B ≤ b := fun b hb => (World.ownsRow.lt h b hb).1

/-- What is decoded: a snapshot, and an error's number. -/
def DecodedN (w : World) (r : Snap × Int) (e : Ending) (w' : World) : Prop :=
  ∃ vl vt, e = .returned (.tuple #[.agg #[.int .i64 r.1.idx, .int .i64 r.1.st.kind, vl, .bool r.1.st.shut, .int .i64 r.1.st.eng, vt], .int .i64 r.2]) ∧ RdI w' vl r.1.st.L ∧ I64 r.1.st.kind ∧ I64 r.1.st.eng ∧ RdE w' vt r.1.tab ∧ I64 r.1.idx ∧ (∀ b, vl.ownBlock = some b → w.heap.size ≤ b) ∧ (∀ b, vt.ownBlock = some b → w.heap.size ≤ b) ∧ Below w.heap.size w w'

theorem DecodedN.zero {w w' : World} (n : Int) (hb : Below w.heap.size w w') : DecodedN w (zeroN, n) (.returned (.tuple #[.agg #[.int .i64 0, .int .i64 0, .slice none 0 0, .bool false, .int .i64 0, .slice none 0 0], .int .i64 n])) w' :=
  ⟨_, _, rfl, RdI.nil _, (i64_small (by decide) (by decide) : I64 0), (i64_small (by decide) (by decide) : I64 0), RdE.nil _, (i64_small (by decide) (by decide) : I64 0), fun b hb => by simp [Value.ownBlock] at hb, fun b hb => by simp [Value.ownBlock] at hb, hb⟩

theorem SnV.below {w w' : World} {v : Value} {s : Snap} (h : SnV w v s) {B : Nat} (hb : Below B w w') (hB : w.heap.size ≤ B) : SnV w' v s := by
  obtain ⟨vl, vt, e, hl, hk, he, ht, hi⟩ := h
  exact ⟨vl, vt, e, hl.below hb hB, hk, he, ht.below hb hB, hi⟩

theorem SnV.shape {w : World} {v : Value} {s : Snap} (h : SnV w v s) : ∃ la lc ta tc, v = .agg #[.int .i64 s.idx, .int .i64 s.st.kind, .slice la s.st.L.length lc, .bool s.st.shut, .int .i64 s.st.eng, .slice ta s.tab.length tc] := by
  obtain ⟨vl, vt, e, hl, hk, he, ht, hi⟩ := h
  obtain ⟨la, lc, h1, -⟩ := hl
  obtain ⟨ta, tc, h2⟩ := ht.shape
  subst h1 h2
  exact ⟨la, lc, ta, tc, e⟩

theorem DecodedN.sn {w w' : World} {r : Snap × Int} {e : Ending} (h : DecodedN w r e w') : ∃ v, e = .returned (.tuple #[v, .int .i64 r.2]) ∧ SnV w' v r.1 ∧ Below w.heap.size w w' := by
  obtain ⟨vl, vt, rfl, hl, hk, he, ht, hi, _, _, hb⟩ := h
  exact ⟨_, rfl, ⟨vl, vt, rfl, hl, hk, he, ht, hi⟩, hb⟩

/-- Six cells of a block, written. -/
def six (w : World) (R : Nat) (x0 x1 x2 x3 x4 x5 : Value) : World := (((((w.setCell ⟨R, 0, none⟩ x0).setCell ⟨R, 1, none⟩ x1).setCell ⟨R, 2, none⟩ x2).setCell ⟨R, 3, none⟩ x3).setCell ⟨R, 4, none⟩ x4).setCell ⟨R, 5, none⟩ x5

theorem belowSix {C : Nat} {w0 w : World} (h : Below C w0 w) (R : Nat) (hR : C ≤ R) (x0 x1 x2 x3 x4 x5 : Value) : Below C w0 (six w R x0 x1 x2 x3 x4 x5) :=
  (((((h.setCell hR _).setCell hR _).setCell hR _).setCell hR _).setCell hR _).setCell hR _

theorem belowSixE {C : Nat} {w0 w : World} (h : Below C w0 w) (R : Nat) (hR : C ≤ R) (x0 x1 x2 x3 x4 x5 : Value) : Below C w0 ((((((w.setCell ⟨R, 0, none⟩ x0).setCell ⟨R, 1, none⟩ x1).setCell ⟨R, 2, none⟩ x2).setCell ⟨R, 3, none⟩ x3).setCell ⟨R, 4, none⟩ x4).setCell ⟨R, 5, none⟩ x5) := belowSix h R hR x0 x1 x2 x3 x4 x5

theorem butSix (w : World) (R : Nat) (x0 x1 x2 x3 x4 x5 : Value) : But R R w (six w R x0 x1 x2 x3 x4 x5) :=
  ((((((But.refl R R w).set _ _ (.inl rfl) _).set _ _ (.inl rfl) _).set _ _ (.inl rfl) _).set _ _ (.inl rfl) _).set _ _ (.inl rfl) _).set _ _ (.inl rfl) _

theorem Bn.set {w : World} {b : Nat} {cs : Array Value} (h : Bn w b cs) (j : Nat) (x : Value) : Bn (w.setCell ⟨b, j, none⟩ x) b (cs.setIfInBounds j x) := by
  have := heap_setCell_same w b j _ _ x h
  unfold Bn
  simpa using this

theorem Bn.other {w : World} {b c : Nat} {cs : Array Value} (h : Bn w b cs) (j : Nat) (x : Value) (hne : b ≠ c) : Bn (w.setCell ⟨c, j, none⟩ x) b cs := (Below.heap_setCell _ _ _ _ hne).trans h

end Go.Proofs.Ytanmjihiceibbaa

/- Objects: where a key's pair stands; what the landed step makes of a state. -/
namespace Go.Proofs.Ytanmjihiceibbaa

/-- Where a key's pair stands, or would stand. -/
def placeP (key : Int) : List Int → Nat
  | a :: _ :: r => if key ≤ a then 0 else placeP key r + 2
  | _ => 0

/-- A key has a pair. -/
def hitP (key : Int) (l : List Int) : Bool := (getP key l).isSome

theorem placeP_le (key : Int) : ∀ (l : List Int), l.length % 2 = 0 → placeP key l ≤ l.length ∧ placeP key l % 2 = 0
  | [], _ => ⟨Nat.le_refl _, rfl⟩
  | [_], h => by simp at h
  | a :: b :: r, h => by
    have ih := placeP_le key r (by simp at h; omega)
    unfold placeP
    split
    · simp
    · simp
      omega

/-- Ahead of the place all keys are less. -/
theorem placeP_drop (key : Int) : ∀ (l : List Int) (k : Nat), l.length % 2 = 0 → k % 2 = 0 → k ≤ l.length → (∀ j, j < k → j % 2 = 0 → l.getD j 0 < key) → placeP key l = k + placeP key (l.drop k)
  | [], k, _, _, hk, _ => by
    have : k = 0 := by simpa using hk
    subst this
    rfl
  | [_], _, h, _, _, _ => by simp at h
  | a :: b :: r, k, h, hk2, hk, hall => by
    by_cases h0 : k = 0
    · subst h0
      simp
    · obtain ⟨j, rfl⟩ : ∃ j, k = j + 2 := ⟨k - 2, by omega⟩
      have h1 := hall 0 (by omega) rfl
      have h1' : a < key := h1
      have ih := placeP_drop key r j (by simp at h; omega) (by omega) (by simp at hk; omega) (fun i hi hi2 => by
        have := hall (i + 2) (by omega) (by omega)
        exact this)
      conv => lhs; unfold placeP
      rw [if_neg (by omega), ih]
      show j + placeP key (r.drop j) + 2 = j + 2 + placeP key (r.drop j)
      omega

theorem placeP_stop (key : Int) (l : List Int) (k : Nat) (hk : k + 1 < l.length) (h : key ≤ l.getD k 0) : placeP key (l.drop k) = 0 := by
  rw [drop_pair l k hk, placeP, if_pos h]

theorem placeP_hit (key least : Int) : ∀ (l : List Int) (lo : Int), Pairs least lo l → hitP key l = decide (placeP key l < l.length ∧ l.getD (placeP key l) 0 = key) ∧ (hitP key l = true → getP key l = some (l.getD (placeP key l + 1) 0) ∧ placeP key l + 1 < l.length)
  | [], lo, _ => by simp [hitP, getP, placeP]
  | [_], lo, h => by simp [Pairs] at h
  | a :: b :: r, lo, h => by
    have hg := getP_above (least := least) (key := key) (l := r) (lo := a)
    unfold Pairs at h
    have ih := placeP_hit key least r a h.2.2.2.2
    by_cases h1 : key ≤ a
    · have e : placeP key (a :: b :: r) = 0 := by unfold placeP; rw [if_pos h1]
      rw [e]
      by_cases h2 : a = key
      · have e2 : getP key (a :: b :: r) = some b := by rw [getP_cons, if_pos h2]
        unfold hitP
        rw [e2]
        simp [h2]
      · have e2 : getP key (a :: b :: r) = none := by rw [getP_cons, if_neg h2, hg h.2.2.2.2 h1]
        unfold hitP
        rw [e2]
        simp [h2]
    · have e : placeP key (a :: b :: r) = placeP key r + 2 := by rw [placeP, if_neg h1]
      have e2 : getP key (a :: b :: r) = getP key r := by rw [getP_cons, if_neg (by omega)]
      have e3 : hitP key (a :: b :: r) = hitP key r := by unfold hitP; rw [e2]
      rw [e, e2, e3]
      refine ⟨?_, fun hh => ?_⟩
      · rw [ih.1]
        have e4 : (a :: b :: r).getD (placeP key r + 2) 0 = r.getD (placeP key r) 0 := rfl
        rw [e4]
        apply decide_eq_decide.2
        simp
      · have := ih.2 hh
        refine ⟨this.1, ?_⟩
        simp
        omega

theorem withF_insert (key n least : Int) : ∀ (l : List Int) (lo : Int), Pairs least lo l → hitP key l = false → withF key n false l = l.take (placeP key l) ++ ([key, n] ++ l.drop (placeP key l))
  | [], lo, _, _ => by simp [withF, placeP]
  | [_], lo, h, _ => by simp [Pairs] at h
  | a :: b :: r, lo, h, hm => by
    rw [withF_cons key n least a b r lo h]
    unfold Pairs at h
    have ih := withF_insert key n least r a h.2.2.2.2
    unfold hitP at hm
    rw [getP_cons] at hm
    by_cases h2 : a = key
    · rw [if_pos h2] at hm
      simp at hm
    · rw [if_neg h2] at hm
      by_cases h1 : key < a
      · rw [if_pos h1, placeP, if_pos (by omega)]
        rfl
      · rw [if_neg h1, if_neg (by omega), ih hm, placeP, if_neg (by omega)]
        rfl

theorem withF_set (key n least : Int) : ∀ (l : List Int) (lo : Int), Pairs least lo l → hitP key l = true → withF key n false l = l.set (placeP key l + 1) n
  | [], lo, _, h => by simp [hitP, getP] at h
  | [_], lo, h, _ => by simp [Pairs] at h
  | a :: b :: r, lo, h, hm => by
    rw [withF_cons key n least a b r lo h]
    have hg := getP_above (least := least) (key := key) (l := r) (lo := a)
    unfold Pairs at h
    have ih := withF_set key n least r a h.2.2.2.2
    unfold hitP at hm
    rw [getP_cons] at hm
    by_cases h2 : a = key
    · rw [if_neg (by omega), if_pos h2.symm, placeP, if_pos (by omega), h2]
      rfl
    · rw [if_neg h2] at hm
      by_cases h1 : key < a
      · rw [hg h.2.2.2.2 (by omega)] at hm
        simp at hm
      · rw [if_neg h1, if_neg (by omega), ih hm, placeP, if_neg (by omega)]
        rfl

theorem withoutF_above {least key : Int} : ∀ {l : List Int} {lo : Int}, Pairs least lo l → key ≤ lo → withoutF key l = l
  | [], _, _, _ => rfl
  | [_], _, h, _ => by simp [Pairs] at h
  | a :: b :: r, lo, h, hk => by
    unfold Pairs at h
    rw [withoutF_cons, if_pos (by omega), withoutF_above h.2.2.2.2 (by omega)]

theorem withoutF_not (key least : Int) : ∀ (l : List Int) (lo : Int), Pairs least lo l → hitP key l = false → withoutF key l = l
  | [], lo, _, _ => rfl
  | [_], lo, h, _ => by simp [Pairs] at h
  | a :: b :: r, lo, h, hm => by
    unfold Pairs at h
    have ih := withoutF_not key least r a h.2.2.2.2
    unfold hitP at hm
    rw [getP_cons] at hm
    by_cases h2 : a = key
    · rw [if_pos h2] at hm
      simp at hm
    · rw [if_neg h2] at hm
      rw [withoutF_cons, if_pos h2, ih hm]

theorem withoutF_cut (key least : Int) : ∀ (l : List Int) (lo : Int), Pairs least lo l → hitP key l = true → withoutF key l = l.take (placeP key l) ++ l.drop (placeP key l + 2)
  | [], lo, _, h => by simp [hitP, getP] at h
  | [_], lo, h, _ => by simp [Pairs] at h
  | a :: b :: r, lo, h, hm => by
    have hg := getP_above (least := least) (key := key) (l := r) (lo := a)
    unfold Pairs at h
    have ih := withoutF_cut key least r a h.2.2.2.2
    unfold hitP at hm
    rw [getP_cons] at hm
    rw [withoutF_cons]
    by_cases h2 : a = key
    · rw [if_neg (by omega), placeP, if_pos (by omega), withoutF_above h.2.2.2.2 (by omega)]
      rfl
    · rw [if_neg h2] at hm
      rw [if_pos h2]
      by_cases h1 : key ≤ a
      · rw [hg h.2.2.2.2 h1] at hm
        simp at hm
      · rw [ih hm, placeP, if_neg h1]
        rfl

/-- A store's step, as it landed: a key that may not be is told first. -/
def storeO (s : St) (o : Opn) : St × Int :=
  if o.a < 0 ∨ 255 < o.a then (s, -1) else
  if o.code ≠ 7 ∧ o.code ≠ 6 ∧ o.code ≠ 5 then (s, 0) else
  if o.code = 6 then (⟨s.kind, withoutF o.a s.L, s.shut, s.eng⟩, hadF o.a s.L) else
  if o.code = 5 then (if findF o.a 0 s.L < 0 ∧ s.L.length = 128 then (s, -2) else (⟨s.kind, withF o.a (cutZ o.b) false s.L, s.shut, s.eng⟩, hadF o.a s.L)) else
  (s, hadF o.a s.L)

/-- A state behind an operation, and what came of it, as it landed. -/
def stepO (s : St) (o : Opn) : St × Int :=
  if ¬ MayS s then (s, 0) else
  if s.shut = true then (s, -1125899906842624) else
  if o.code = 10 then (⟨s.kind, s.L, true, if 0 ≤ o.a ∧ o.a ≤ 2 then o.a else s.eng⟩, 0) else
  if s.kind ≤ 1 then oneS s o else if s.kind ≤ 3 then listS s o else if s.kind = 4 then storeO s o else ledgerS s o

/-- The state is what the document's step makes of it. -/
theorem storeO_state (s : St) (o : Opn) : (storeO s o).1 = (storeS s o).1 := by
  unfold storeO storeS
  by_cases h1 : o.a < 0 ∨ 255 < o.a
  · rw [if_pos h1]
    split
    · rfl
    · first | rfl | (rw [if_pos h1])
  · rw [if_neg h1, if_neg h1]

theorem stepO_state (s : St) (o : Opn) : (stepO s o).1 = (stepS s o).1 := by
  unfold stepO stepS
  split
  · rfl
  split
  · rfl
  split
  · rfl
  split
  · rfl
  split
  · rfl
  split
  · exact storeO_state s o
  · rfl

/-- So is the answer, but for operations that a store does not know, on what is no key. -/
theorem stepO_eq (s : St) (o : Opn) (h : s.kind ≠ 4 ∨ s.shut = true ∨ o.code = 10 ∨ o.code = 5 ∨ o.code = 6 ∨ o.code = 7 ∨ (0 ≤ o.a ∧ o.a ≤ 255)) : stepO s o = stepS s o := by
  unfold stepO stepS
  split
  · rfl
  split
  · rfl
  split
  · rfl
  split
  · rfl
  split
  · rfl
  split
  · rename_i hm hs hc _ _ hk
    unfold storeO storeS
    rcases h with h | h | h | h | h | h | h
    · exact absurd hk h
    · exact absurd h hs
    · exact absurd h hc
    · rw [if_neg (show ¬ (o.code ≠ 7 ∧ o.code ≠ 6 ∧ o.code ≠ 5) by omega), if_neg (show ¬ (o.code ≠ 7 ∧ o.code ≠ 6 ∧ o.code ≠ 5) by omega)]
    · rw [if_neg (show ¬ (o.code ≠ 7 ∧ o.code ≠ 6 ∧ o.code ≠ 5) by omega), if_neg (show ¬ (o.code ≠ 7 ∧ o.code ≠ 6 ∧ o.code ≠ 5) by omega)]
    · rw [if_neg (show ¬ (o.code ≠ 7 ∧ o.code ≠ 6 ∧ o.code ≠ 5) by omega), if_neg (show ¬ (o.code ≠ 7 ∧ o.code ≠ 6 ∧ o.code ≠ 5) by omega)]
    · rw [if_neg (show ¬ (o.a < 0 ∨ 255 < o.a) by omega), if_neg (show ¬ (o.a < 0 ∨ 255 < o.a) by omega)]
  · rfl

theorem stepO_not {s : St} (h : ¬ MayS s) (o : Opn) : stepO s o = (s, 0) := by
  unfold stepO
  rw [if_pos h]

theorem stepO_shut {s : St} (h : MayS s) (hs : s.shut = true) (o : Opn) : stepO s o = (s, -1125899906842624) := by
  unfold stepO
  rw [if_neg (fun e => e h), if_pos hs]

theorem stepO_may {s : St} (h : MayS s) (o : Opn) : MayS (stepO s o).1 := by rw [stepO_state]; exact step_may h o
theorem stepO_kind (s : St) (o : Opn) : (stepO s o).1.kind = s.kind := by rw [stepO_state]; exact step_kind s o
theorem stepO_shut' {s : St} (h : MayS s) (o : Opn) : (stepO s o).1.shut = (s.shut || decide (o.code = 10)) := by rw [stepO_state]; exact step_shut' h o

/-- A state behind operations, and what came of each, as it landed. -/
def foldO : St → List Opn → St × List Int
  | s, [] => (s, [])
  | s, o :: r => ((foldO (stepO s o).1 r).1, (stepO s o).2 :: (foldO (stepO s o).1 r).2)

theorem foldO_snoc : ∀ (l : List Opn) (s : St) (o : Opn), foldO s (l ++ [o]) = ((stepO (foldO s l).1 o).1, (foldO s l).2 ++ [(stepO (foldO s l).1 o).2])
  | [], _, _ => rfl
  | p :: r, s, o => by
    rw [List.cons_append, foldO, foldO_snoc r (stepO s p).1 o, foldO]
    rfl

end Go.Proofs.Ytanmjihiceibbaa

/- A snapshot behind records, over plain lists, and what follows. -/
namespace Go.Proofs.Ytanmjihiceibbaa

/-- A snapshot behind one record that fits. -/
def nextN (s : Snap) (r : Rec) : Snap := ⟨s.idx + 1, (stepO s.st r.op).1, noteL s.tab ⟨r.proc, r.seq, (stepO s.st r.op).2⟩⟩

/-- A snapshot behind records, or the first error. -/
def takeN : Snap → List Rec → Snap × Int
  | s, [] => (s, 0)
  | s, r :: l => if r.idx ≠ s.idx then (zeroN, 15) else if ¬ FitsR r then (zeroN, 1) else takeN (nextN s r) l

theorem takeN_err : ∀ (l : List Rec) (s : Snap), (takeN s l).2 ≠ 0 → takeN s l = (zeroN, (takeN s l).2)
  | [], s, h => absurd rfl h
  | r :: l, s, h => by
    rw [takeN] at h ⊢
    split
    · rfl
    · rename_i h1
      rw [if_neg h1] at h
      split
      · rfl
      · rename_i h2
        rw [if_neg h2] at h
        exact takeN_err l _ h

theorem takeN_app : ∀ (a b : List Rec) (s : Snap), takeN s (a ++ b) = if (takeN s a).2 = 0 then takeN (takeN s a).1 b else takeN s a
  | [], b, s => by simp [takeN]
  | r :: a, b, s => by
    rw [List.cons_append, takeN, takeN]
    by_cases h1 : r.idx ≠ s.idx
    · rw [if_pos h1, if_pos h1, if_neg (by simp)]
    · rw [if_neg h1, if_neg h1]
      by_cases h2 : ¬ FitsR r
      · rw [if_pos h2, if_pos h2, if_neg (by simp)]
      · rw [if_neg h2, if_neg h2]
        exact takeN_app a b _

theorem takeN_cut {s : Snap} {l : List Rec} (k : Nat) (h : (takeN s l).2 = 0) : (takeN s (l.take k)).2 = 0 ∧ takeN (takeN s (l.take k)).1 (l.drop k) = takeN s l := by
  have e := takeN_app (l.take k) (l.drop k) s
  rw [List.take_append_drop] at e
  by_cases h0 : (takeN s (l.take k)).2 = 0
  · rw [if_pos h0] at e
    exact ⟨h0, e.symm⟩
  · rw [if_neg h0] at e
    rw [e] at h
    exact absurd h h0

theorem takeN_cut_err {s : Snap} {l : List Rec} (k : Nat) : (takeN s (l.take k)).2 = 0 ∨ (takeN s (l.take k)).2 = (takeN s l).2 := by
  have e := takeN_app (l.take k) (l.drop k) s
  rw [List.take_append_drop] at e
  by_cases h0 : (takeN s (l.take k)).2 = 0
  · exact .inl h0
  · rw [if_neg h0] at e
    exact .inr (by rw [e])

theorem takeN_state : ∀ (l : List Rec) (s : Snap), (takeN s l).2 = 0 → (takeN s l).1.st = (foldO s.st (l.map (fun r => r.op))).1 ∧ (takeN s l).1.idx = s.idx + l.length
  | [], s, _ => by simp [takeN, foldO]
  | r :: l, s, h => by
    rw [takeN] at h ⊢
    by_cases h1 : r.idx ≠ s.idx
    · rw [if_pos h1] at h
      exact absurd h (by decide)
    rw [if_neg h1] at h ⊢
    by_cases h2 : ¬ FitsR r
    · rw [if_pos h2] at h
      exact absurd h (by decide)
    rw [if_neg h2] at h ⊢
    obtain ⟨i1, i2⟩ := takeN_state l (nextN s r) h
    rw [i1, i2, List.map_cons, foldO]
    refine ⟨rfl, ?_⟩
    show s.idx + 1 + _ = _
    rw [List.length_cons]
    omega

theorem takeN_few : ∀ (l : List Rec) (s : Snap), (takeN s l).2 = 0 → (takeN s l).1.tab.length ≤ s.tab.length + l.length
  | [], s, _ => by simp [takeN]
  | r :: l, s, h => by
    rw [takeN] at h ⊢
    by_cases h1 : r.idx ≠ s.idx
    · rw [if_pos h1] at h
      exact absurd h (by decide)
    rw [if_neg h1] at h ⊢
    by_cases h2 : ¬ FitsR r
    · rw [if_pos h2] at h
      exact absurd h (by decide)
    rw [if_neg h2] at h ⊢
    have i1 := takeN_few l (nextN s r) h
    have i2 := noteL_len s.tab ⟨r.proc, r.seq, (stepO s.st r.op).2⟩
    have e : (nextN s r).tab = noteL s.tab ⟨r.proc, r.seq, (stepO s.st r.op).2⟩ := rfl
    rw [e] at i1
    rw [List.length_cons]
    omega

end Go.Proofs.Ytanmjihiceibbaa

/- Blocks of records as bytes, over plain lists, and what follows. -/
namespace Go.Proofs.Ytanmjihiceibbaa

/-- The Seq of the last record that has a process; 0: there is none. -/
def lastSeq (l : List Rec) (p : Int) : Int := l.foldl (fun a r => if r.proc = p then r.seq else a) 0

theorem lastSeq_snoc (l : List Rec) (r : Rec) (p : Int) : lastSeq (l ++ [r]) p = if r.proc = p then r.seq else lastSeq l p := by
  unfold lastSeq
  rw [List.foldl_append]
  rfl

theorem lastSeq_nil (p : Int) : lastSeq [] p = 0 := rfl

theorem lastSeq_bd {l : List Rec} (p : Int) : (∀ r ∈ l, FitsR r) → 0 ≤ lastSeq l p ∧ lastSeq l p < 4611686018427387904 := by
  unfold lastSeq
  suffices h : ∀ (l : List Rec) (a : Int), (∀ r ∈ l, FitsR r) → 0 ≤ a → a < 4611686018427387904 → 0 ≤ l.foldl (fun a r => if r.proc = p then r.seq else a) a ∧ l.foldl (fun a r => if r.proc = p then r.seq else a) a < 4611686018427387904 by
    exact fun hl => h l 0 hl (by decide) (by decide)
  intro l
  induction l with
  | nil => intro a _ h0 h1; exact ⟨h0, h1⟩
  | cons r t ih =>
    intro a hf h0 h1
    rw [List.foldl_cons]
    have hr := hf r (by simp)
    obtain ⟨_, _, _, hs0, hs1, _⟩ := hr
    by_cases hp : r.proc = p
    · rw [if_pos hp]
      exact ih _ (fun s hs => hf s (by simp [hs])) hs0 hs1
    · rw [if_neg hp]
      exact ih _ (fun s hs => hf s (by simp [hs])) h0 h1

/-- A record behind others, as bytes. -/
def encOne (pre : List Rec) (r : Rec) : List UInt8 :=
  Lib.uvarint r.proc.toNat ++ (Lib.uvarint (Lib.zigzag (r.seq - lastSeq pre r.proc)) ++ (putOpL r.op ++ Lib.uvarint (Lib.zigzag r.resp)))

/-- Records behind others, as bytes. -/
def encRs (pre : List Rec) : List Rec → List UInt8
  | [] => []
  | r :: t => encOne pre r ++ encRs (pre ++ [r]) t

/-- A block's bytes. -/
def encB (l : List Rec) : List UInt8 := Lib.uvarint (l.headD zeroR).idx.toNat ++ (Lib.uvarint l.length ++ encRs [] l)

/-- Is each Index one more than the one ahead? -/
def chainR : Int → List Rec → Prop
  | _, [] => True
  | i, r :: t => r.idx = i ∧ chainR (i + 1) t

instance chainR_dec : ∀ (i : Int) (l : List Rec), Decidable (chainR i l)
  | _, [] => .isTrue trivial
  | i, r :: t => by
    unfold chainR
    exact @instDecidableAnd _ _ _ (chainR_dec (i + 1) t)

/-- May records stand in a block? -/
def FitsB (l : List Rec) : Prop := 1 ≤ l.length ∧ l.length ≤ 256 ∧ (∀ r ∈ l, FitsR r) ∧ chainR (l.headD zeroR).idx l

instance (l : List Rec) : Decidable (FitsB l) := by unfold FitsB; infer_instance

theorem encRs_app : ∀ (a b pre : List Rec), encRs pre (a ++ b) = encRs pre a ++ encRs (pre ++ a) b
  | [], b, pre => by simp [encRs]
  | r :: t, b, pre => by
    have e : pre ++ [r] ++ t = pre ++ r :: t := by simp
    rw [List.cons_append, encRs, encRs_app t b, e, encRs]
    exact (List.append_assoc _ _ _).symm

theorem encRs_snoc (l : List Rec) (k : Nat) (hk : k < l.length) : encRs [] (l.take (k + 1)) = encRs [] (l.take k) ++ encOne (l.take k) (l.getD k zeroR) := by
  have e : l.take (k + 1) = l.take k ++ [l.getD k zeroR] := by
    rw [List.take_add_one]
    simp [List.getD, hk]
  rw [e, encRs_app]
  simp [encRs]

/-- The record that bytes begin with, behind others, and how many bytes it has. -/
def oneL (pre : List Rec) (b : List UInt8) : Rec × Nat :=
  let i := (dec62 b).2
  let j := (dec64 (b.drop i)).2
  let k := (getOpL (b.drop (i + j))).2
  let m := (dec64 (b.drop (i + j + k))).2
  if i = 0 ∨ j = 0 ∨ k = 0 ∨ m = 0 then (zeroR, 0)
  else (⟨0, (dec62 b).1, IntKind.i64.wrap (lastSeq pre (dec62 b).1 + zag (dec64 (b.drop i)).1), (getOpL (b.drop (i + j))).1, zag (dec64 (b.drop (i + j + k))).1⟩, i + j + k + m)

theorem wrap_id {n : Int} (h : I64 n) : IntKind.i64.wrap n = n := by
  obtain ⟨h0, h1⟩ := h
  rw [IntKind.wrap_i64]
  omega

theorem diff_i64 {l : List Rec} (hl : ∀ r ∈ l, FitsR r) {r : Rec} (hr : FitsR r) : I64 (r.seq - lastSeq l r.proc) := by
  obtain ⟨h0, h1⟩ := lastSeq_bd r.proc hl
  obtain ⟨_, _, _, hs0, hs1, _⟩ := hr
  exact ⟨by omega, by omega⟩

theorem one_enc {pre : List Rec} (hl : ∀ r ∈ pre, FitsR r) {r : Rec} (hr : FitsR r) (t : List UInt8) : oneL pre (encOne pre r ++ t) = ({ r with idx := 0 }, (encOne pre r).length) := by
  have hd := diff_i64 hl hr
  have hresp := fitsR_resp hr
  obtain ⟨ho, _, _, hs0, hs1, hp0, hp1, _⟩ := id hr
  have E : encOne pre r ++ t = Lib.uvarint r.proc.toNat ++ (Lib.uvarint (Lib.zigzag (r.seq - lastSeq pre r.proc)) ++ (putOpL r.op ++ (Lib.uvarint (Lib.zigzag r.resp) ++ t))) := by
    unfold encOne
    simp only [List.append_assoc]
  have d1 := dec62_uvarint r.proc.toNat (Lib.uvarint (Lib.zigzag (r.seq - lastSeq pre r.proc)) ++ (putOpL r.op ++ (Lib.uvarint (Lib.zigzag r.resp) ++ t))) (by omega)
  rw [← E] at d1
  have e1 : (encOne pre r ++ t).drop (Lib.uvarint r.proc.toNat).length = Lib.uvarint (Lib.zigzag (r.seq - lastSeq pre r.proc)) ++ (putOpL r.op ++ (Lib.uvarint (Lib.zigzag r.resp) ++ t)) := by rw [E, List.drop_left]
  have d2 := dec64_uvarint (Lib.zigzag (r.seq - lastSeq pre r.proc)) (putOpL r.op ++ (Lib.uvarint (Lib.zigzag r.resp) ++ t)) (zig_lt hd)
  have e2 : (encOne pre r ++ t).drop ((Lib.uvarint r.proc.toNat).length + (Lib.uvarint (Lib.zigzag (r.seq - lastSeq pre r.proc))).length) = putOpL r.op ++ (Lib.uvarint (Lib.zigzag r.resp) ++ t) := by rw [← List.drop_drop, e1, List.drop_left]
  have d3 := getOp_put r.op ho (Lib.uvarint (Lib.zigzag r.resp) ++ t)
  have e3 : (encOne pre r ++ t).drop ((Lib.uvarint r.proc.toNat).length + (Lib.uvarint (Lib.zigzag (r.seq - lastSeq pre r.proc))).length + (putOpL r.op).length) = Lib.uvarint (Lib.zigzag r.resp) ++ t := by rw [← List.drop_drop, e2, List.drop_left]
  have d4 := dec64_uvarint (Lib.zigzag r.resp) t (zig_lt hresp)
  have n1 := uv_ne r.proc.toNat
  have n2 := uv_ne (Lib.zigzag (r.seq - lastSeq pre r.proc))
  have n4 := uv_ne (Lib.zigzag r.resp)
  have n3 : (putOpL r.op).length ≠ 0 := by
    unfold putOpL
    have := uv_ne r.op.code.toNat
    rw [List.length_append]
    omega
  unfold oneL
  simp only [d1, e1, d2, e2, d3, e3, d4]
  rw [if_neg (by rintro (h | h | h | h); exact n1 h; exact n2 h; exact n3 h; exact n4 h)]
  have hpn : ((r.proc.toNat : Nat) : Int) = r.proc := by omega
  rw [hpn, zag_zigzag _ hd.1 hd.2, zag_zigzag _ hresp.1 hresp.2]
  have hw : lastSeq pre r.proc + (r.seq - lastSeq pre r.proc) = r.seq := by omega
  rw [hw, wrap_id ⟨by omega, by omega⟩]
  congr 1
  unfold encOne
  simp only [List.length_append]
  omega

theorem uv_inj62 {a b : Nat} (ha : a < 4611686018427387904) (hb : b < 4611686018427387904) {x y : List UInt8} (h : Lib.uvarint a ++ x = Lib.uvarint b ++ y) : a = b ∧ x = y := by
  have d1 := dec62_uvarint a x ha
  have d2 := dec62_uvarint b y hb
  rw [h, d2] at d1
  have e := (Prod.mk.injEq ..).mp d1
  have hab : a = b := e.1.symm
  subst hab
  exact ⟨rfl, List.append_cancel_left h⟩

/-- Of two lists neither's bytes begin the other's. -/
theorem encRs_inj : ∀ (l l' pre : List Rec) (i : Int) (t : List UInt8), l.length = l'.length → chainR i l → chainR i l' → (∀ r ∈ pre, FitsR r) → (∀ r ∈ l, FitsR r) → (∀ r ∈ l', FitsR r) → encRs pre l' = encRs pre l ++ t → l' = l ∧ t = []
  | [], [], pre, i, t, _, _, _, _, _, _, h => ⟨rfl, by simpa [encRs] using h.symm⟩
  | r :: u, r' :: u', pre, i, t, hlen, hc, hc', hp, hf, hf', h => by
    have hr := hf r (by simp)
    have hr' := hf' r' (by simp)
    have h1 := one_enc hp hr (encRs (pre ++ [r]) u ++ t)
    have h2 := one_enc hp hr' (encRs (pre ++ [r']) u')
    have hh : encOne pre r' ++ encRs (pre ++ [r']) u' = encOne pre r ++ (encRs (pre ++ [r]) u ++ t) := by
      rw [encRs, encRs] at h
      rw [h, List.append_assoc]
    rw [hh, h1] at h2
    have hs := ((Prod.mk.injEq ..).mp h2).1
    have hri : r.idx = r'.idx := by rw [hc.1, hc'.1]
    have hrr : r' = r := by
      obtain ⟨i1, p1, s1, o1, e1⟩ := r
      obtain ⟨i2, p2, s2, o2, e2⟩ := r'
      simp only [Rec.mk.injEq, true_and] at hs hri ⊢
      obtain ⟨h1, h2, h3, h4⟩ := hs
      exact ⟨hri.symm, h1.symm, h2.symm, h3.symm, h4.symm⟩
    subst hrr
    have hrest : encRs (pre ++ [r']) u' = encRs (pre ++ [r']) u ++ t := List.append_cancel_left hh
    obtain ⟨q1, q2⟩ := encRs_inj u u' (pre ++ [r']) (i + 1) t (by simpa using hlen) hc.2 hc'.2 (fun s hs => by
      rcases List.mem_append.1 hs with h | h
      · exact hp s h
      · simp at h; rw [h]; exact hr) (fun s hs => hf s (by simp [hs])) (fun s hs => hf' s (by simp [hs])) hrest
    exact ⟨by rw [q1], q2⟩

theorem encB_inj {l l' : List Rec} (hl : FitsB l) (hl' : FitsB l') {t : List UInt8} (h : encB l' = encB l ++ t) : l' = l ∧ t = [] := by
  obtain ⟨n1, n2, hf, hc⟩ := hl
  obtain ⟨n1', n2', hf', hc'⟩ := hl'
  unfold encB at h
  simp only [List.append_assoc] at h
  have hm : ∀ l : List Rec, 1 ≤ l.length → l.headD zeroR ∈ l := fun l h => by
    match l, h with
    | r :: u, _ => simp
  obtain ⟨_, i0, i1, _⟩ := hf _ (hm l n1)
  obtain ⟨_, j0, j1, _⟩ := hf' _ (hm l' n1')
  obtain ⟨k1, k2⟩ := uv_inj62 (by omega) (by omega) h
  obtain ⟨k3, k4⟩ := uv_inj62 (by omega) (by omega) k2
  have hidx : (l.headD zeroR).idx = (l'.headD zeroR).idx := by omega
  rw [← hidx] at hc'
  exact encRs_inj l l' [] _ t (by omega) hc hc' (fun r hr => by simp at hr) hf hf' k4

theorem encB_apart {l l' : List Rec} (hl : FitsB l) (hl' : FitsB l') : encB l = encB l' ↔ l = l' := by
  constructor
  · intro h
    exact (encB_inj hl' hl (t := []) (by rw [List.append_nil]; exact h)).1
  · intro h
    rw [h]

theorem encB_cut {l l' : List Rec} (hl : FitsB l) (hl' : FitsB l') {n : Nat} (hn : n < (encB l).length) : encB l' ≠ (encB l).take n := by
  intro h
  have h2 : encB l = encB l' ++ (encB l).drop n := by rw [h, List.take_append_drop]
  obtain ⟨_, h3⟩ := encB_inj hl' hl h2
  have h4 := congrArg List.length h3
  rw [List.length_drop] at h4
  simp at h4
  omega

theorem encB_more {l l' : List Rec} (hl : FitsB l) (hl' : FitsB l') {t : List UInt8} (ht : t ≠ []) : encB l' ≠ encB l ++ t := fun h => ht (encB_inj hl hl' h).2

theorem encB_ne {l : List Rec} : encB l ≠ [] := by
  unfold encB
  intro h
  have := congrArg List.length h
  have h2 := uv_ne (l.headD zeroR).idx.toNat
  simp only [List.length_append, List.length_nil] at this
  omega

/-- What bytes are: the records of which they are the bytes, or none and ErrForm. -/
def DecB (b : List UInt8) (l : List Rec) (e : Int) : Prop := (e = 0 ∧ FitsB l ∧ encB l = b) ∨ (e = 3 ∧ l = [] ∧ ∀ l', FitsB l' → encB l' ≠ b)

theorem DecB.unique {b : List UInt8} {l l' : List Rec} {e e' : Int} (h : DecB b l e) (h' : DecB b l' e') : l = l' ∧ e = e' := by
  rcases h with ⟨h1, h2, h3⟩ | ⟨h1, h2, h3⟩
  · rcases h' with ⟨k1, k2, k3⟩ | ⟨k1, k2, k3⟩
    · exact ⟨(encB_apart h2 k2).1 (h3.trans k3.symm), by omega⟩
    · exact absurd h3 (k3 l h2)
  · rcases h' with ⟨k1, k2, k3⟩ | ⟨k1, k2, k3⟩
    · exact absurd k3 (h3 l' k2)
    · exact ⟨by rw [h2, k2], by omega⟩

end Go.Proofs.Ytanmjihiceibbaa

/- Slices of records in memory: what one reads ('RdR'), what a call owns ('OwnR'), and append onto them. -/
namespace Go.Proofs.Ytanmjihiceibbaa
open Go.RowKit

/-- A record's seven cells. -/
def RecAt (w : World) (b o : Nat) (r : Rec) : Prop :=
  w.cell? ⟨b, o, none⟩ = some (.int .i64 r.idx) ∧ w.cell? ⟨b, o + 1, none⟩ = some (.int .i64 r.proc) ∧ w.cell? ⟨b, o + 2, none⟩ = some (.int .i64 r.seq) ∧ w.cell? ⟨b, o + 3, none⟩ = some (.int .i64 r.op.code) ∧ w.cell? ⟨b, o + 4, none⟩ = some (.int .i64 r.op.a) ∧ w.cell? ⟨b, o + 5, none⟩ = some (.int .i64 r.op.b) ∧ w.cell? ⟨b, o + 6, none⟩ = some (.int .i64 r.resp)

set_option maxRecDepth 100000 in
theorem RecAt.lt {w : World} {b o : Nat} {r : Rec} (h : RecAt w b o r) : b < w.heap.size := World.block_lt_of_cell? w ⟨b, o, none⟩ h.1

set_option maxRecDepth 100000 in
theorem RecAt.keep {w w' : World} {b o : Nat} {r : Rec} (h : RecAt w b o r) (hk : w'.heap[b]? = w.heap[b]?) : RecAt w' b o r := by
  have hc : ∀ i, w'.cell? ⟨b, i, none⟩ = w.cell? ⟨b, i, none⟩ := fun i => World.cell?_of_block (a := ⟨b, i, none⟩) hk
  unfold RecAt at h ⊢
  simp only [hc]
  exact h

/-- The slice value v reads, in the world w, as the records l. -/
def RdR (w : World) (v : Value) (l : List Rec) : Prop :=
  ∃ ao cap, v = .slice ao l.length cap ∧ l.length ≤ cap ∧ cap ≤ maxLen ∧ (ao = none → cap = 0) ∧ (∀ r ∈ l, RecOk r) ∧
    (l = [] ∨ ∃ b off, ao = some ⟨b, off, none⟩ ∧ ∀ j, j < l.length → RecAt w b (off + j * 7) (l.getD j zeroR))

set_option maxRecDepth 100000 in
theorem RdR.nil (w : World) : RdR w (.slice none 0 0) [] := ⟨none, 0, rfl, Nat.le_refl _, Nat.zero_le _, fun _ => rfl, (fun r h => by simp at h), .inl rfl⟩

set_option maxRecDepth 100000 in
theorem RdR.below {w w' : World} {v : Value} {l : List Rec} (h : RdR w v l) {B : Nat} (hb : Below B w w') (hB : w.heap.size ≤ B) : RdR w' v l := by
  obtain ⟨ao, cap, h1, h2, h3, hn, hw, h4⟩ := h
  refine ⟨ao, cap, h1, h2, h3, hn, hw, ?_⟩
  rcases h4 with h4 | ⟨b, off, h5, h6⟩
  · exact .inl h4
  · refine .inr ⟨b, off, h5, fun j hj => ?_⟩
    have h7 := h6 j hj
    exact h7.keep (hb.block b (by have := h7.lt; omega))

set_option maxRecDepth 100000 in
theorem RdR.front {w : World} {ao : Option Addr} {n cap : Nat} {l : List Rec} (h : RdR w (.slice ao n cap) l) (k : Nat) (hk : k ≤ l.length) : RdR w (.slice ao k cap) (l.take k) := by
  obtain ⟨ao', cap', hv, h1, h2, h3, hw, h4⟩ := h
  simp only [Value.slice.injEq] at hv
  obtain ⟨rfl, _, rfl⟩ := hv
  have hlen : (l.take k).length = k := by simp; omega
  refine ⟨ao, cap, by rw [hlen], by omega, h2, h3, fun r hr => hw r (List.mem_of_mem_take hr), ?_⟩
  rcases h4 with h4 | ⟨b, off, h5, h6⟩
  · exact .inl (by rw [h4]; simp)
  · refine .inr ⟨b, off, h5, fun j hj => ?_⟩
    have hj2 : j < k := by omega
    have e : (l.take k).getD j zeroR = l.getD j zeroR := by simp [List.getD, hj2]
    rw [e]
    exact h6 j (by omega)

/-- The cells of records. -/
def recCells : List Rec → List Value
  | [] => []
  | r :: t => (recC r).toList ++ recCells t

set_option maxRecDepth 100000 in
theorem recCells_length : ∀ l : List Rec, (recCells l).length = l.length * 7
  | [] => rfl
  | r :: t => by
    rw [recCells, List.length_append, recCells_length t, List.length_cons]
    simp [recC]
    omega

set_option maxRecDepth 100000 in
theorem recCells_app : ∀ a b : List Rec, recCells (a ++ b) = recCells a ++ recCells b
  | [], _ => rfl
  | r :: t, b => by rw [List.cons_append, recCells, recCells_app t b, recCells, List.append_assoc]

set_option maxRecDepth 100000 in
theorem recCells_get : ∀ (l : List Rec) (j k : Nat), j < l.length → k < 7 → (recCells l)[j * 7 + k]? = (recC (l.getD j zeroR))[k]?
  | r :: t, 0, k, _, hk => by
    rw [recCells, Nat.zero_mul, Nat.zero_add, List.getElem?_append_left (by simp [recC]; omega)]
    simp [List.getD]
  | r :: t, j + 1, k, hj, hk => by
    have e : (j + 1) * 7 + k = (recC r).toList.length + (j * 7 + k) := by simp [recC]; omega
    rw [recCells, e, List.getElem?_append_right (by omega), Nat.add_sub_cancel_left, recCells_get t j k (by simpa using hj) hk]
    simp [List.getD]

set_option maxRecDepth 100000 in
theorem recCells_one (l : List Rec) : ∀ u ∈ recCells l, u.oneCell' = true := by
  induction l with
  | nil => intro u hu; simp [recCells] at hu
  | cons r t ih =>
    intro u hu
    rw [recCells] at hu
    rcases List.mem_append.1 hu with h | h
    · simp [recC] at h
      rcases h with rfl | rfl | rfl | rfl | rfl | rfl | rfl <;> rfl
    · exact ih u h

/-- The slice value v lies at the head of a row of its own, from block B on, that holds the records l. -/
def OwnR (w : World) (B : Nat) (v : Value) (l : List Rec) : Prop := w.ownsRow B 39 7 v l.length (recCells l)

set_option maxRecDepth 100000 in
theorem OwnR.nil (w : World) (B : Nat) : OwnR w B (.slice none 0 0) [] := World.ownsRow_nil w B 39 7

set_option maxRecDepth 100000 in
theorem OwnR.rd {w : World} {B : Nat} {v : Value} {l : List Rec} (h : OwnR w B v l) (hw : ∀ r ∈ l, RecOk r) : RdR w v l := by
  rcases h.2 with ⟨hv, hn⟩ | ⟨g, cap, cur, hv, hb, hg, hnc, hcm, hcs, htake⟩
  · exact ⟨none, 0, by rw [hv, hn], by omega, Nat.zero_le _, fun _ => rfl, hw, .inl (List.eq_nil_of_length_eq_zero hn)⟩
  · refine ⟨some ⟨g, 0, none⟩, cap, hv, hnc, hcm, (fun e => by cases e), hw, .inr ⟨g, 0, rfl, fun j hj => ?_⟩⟩
    have hc : ∀ k u, k < 7 → (recC (l.getD j zeroR))[k]? = some u → w.cell? ⟨g, 0 + j * 7 + k, none⟩ = some u := fun k u hk hu => by
      have := World.ownsRow.cells h (g := g) (by rw [hv]; rfl) (j * 7 + k) u ((recCells_get l j k hj hk).trans hu)
      rw [Addr.add_lit] at this
      rw [Nat.add_assoc]
      exact this
    exact ⟨hc 0 _ (by decide) rfl, hc 1 _ (by decide) rfl, hc 2 _ (by decide) rfl, hc 3 _ (by decide) rfl, hc 4 _ (by decide) rfl, hc 5 _ (by decide) rfl, hc 6 _ (by decide) rfl⟩

set_option maxRecDepth 100000 in
theorem OwnR.below {w w' : World} {B B' : Nat} {v : Value} {l : List Rec} (h : OwnR w B v l) (hb : Below B' w w') (hB : w.heap.size ≤ B') : OwnR w' B v l := by
  obtain ⟨h1, h2⟩ := h
  refine ⟨h1, ?_⟩
  rcases h2 with h2 | ⟨g, cap, cur, hv, hbg, hg, r⟩
  · exact .inl h2
  · have hlt : g < w.heap.size := (Array.getElem?_eq_some_iff.1 hg).1
    exact .inr ⟨g, cap, cur, hv, hbg, by rw [hb.block g (by omega)]; exact hg, r⟩

set_option maxRecDepth 100000 in
theorem OwnR.mono {w : World} {B B' : Nat} {v : Value} {l : List Rec} (h : OwnR w B v l) (hB : B' ≤ B) : OwnR w B' v l := by
  obtain ⟨h1, h2⟩ := h
  refine ⟨h1, ?_⟩
  rcases h2 with h2 | ⟨g, cap, cur, hv, hb, r⟩
  · exact .inl h2
  · exact .inr ⟨g, cap, cur, hv, by omega, r⟩

set_option maxRecDepth 100000 in
theorem OwnR.shape {w : World} {B : Nat} {v : Value} {l : List Rec} (h : OwnR w B v l) : ∃ ao cap, v = .slice ao l.length cap := by
  rcases h.2 with ⟨hv, hn⟩ | ⟨g, cap, cur, hv, _⟩
  · exact ⟨none, 0, by rw [hv, hn]⟩
  · exact ⟨_, _, hv⟩

set_option maxRecDepth 100000 in
theorem info_rec : (Try.prog.info? 39).map (fun i => (i.zero, i.size, i.bytes)) = some (some (.agg #[.int .i64 0, .int .i64 0, .int .i64 0, .int .i64 0, .int .i64 0, .int .i64 0, .int .i64 0]), 7, 56) := by kernel_rfl

set_option maxRecDepth 100000 in
/-- One more record behind a row of one's own. -/
theorem run_append_rec (w : World) (ty : TypeId) (B : Nat) (v : Value) (l : List Rec) (h : OwnR w B v l) (r : Rec) (hlim : l.length ≤ 1000000) (hbase : B ≤ w.heap.size) :
    ∃ v' w', (Builtin.append_ #[35, 35] ty #[v, .slice (some ⟨w.heap.size, 0, none⟩) 1 1]).run Try.prog (w.alloc (.cells (recC r) 39)) = .ok v' w' ∧ OwnR w' B v' (l ++ [r]) ∧ Below B w w' := by
  obtain ⟨i0, hi, hz0, hz1, hz2⟩ := info_parts info_rec
  obtain ⟨v', w', hrun, ho, hg, _⟩ := run_append_own (P := Try.prog) (w.alloc (.cells (recC r) 39)) B 35 ty 39 i0 _ 7 56 Try.underlying35 hi hz0 hz1 hz2 rfl (by decide) v l.length (recCells l) (h.alloc _)
    ⟨w.heap.size, 0, none⟩ 1 1 (recCells [r]) (recCells_length [r]) (fun j u hj => by
      rw [Addr.add_lit, Nat.zero_add, cell_of_row _ w.heap.size j _ 39 (0, 0) (heap_alloc_new w _)]
      simpa [recCells] using hj) (recCells_one [r]) (by unfold maxLen; omega) (by omega) (by simp; omega)
  refine ⟨v', w', hrun, ?_, ?_⟩
  · unfold OwnR
    rw [List.length_append, recCells_app]
    exact ho
  · exact ((Below.refl _ _).alloc hbase _).grown hg (by simp; omega) (fun k hk => (World.ownsRow.lt h k hk).1)

set_option maxRecDepth 100000 in
theorem wpList_append_rec (w : World) {ops : Array Oper} {rest : List Oper} {o : Oper} {a : Act} {Q : Exit → Act → World → Prop} (hgd : o.guard = none) (s x : Operand)
    (ho : o.op = .call { callee := .builtin .append, args := #[s, x], argTypes := #[35, 35] })
    (B : Nat) (v : Value) (l : List Rec) (hs : a.eval s = v) (hown : OwnR w B v l) (r : Rec) (hx : a.eval x = .slice (some ⟨w.heap.size, 0, none⟩) 1 1)
    (hlim : l.length ≤ 1000000) (hbase : B ≤ w.heap.size)
    (h : ∀ v' w', OwnR w' B v' (l ++ [r]) → Below B w w' → wpList Try.prog ops Q rest (a.put o.dst v') w') : wpList Try.prog ops Q (o :: rest) a (w.alloc (.cells (recC r) 39)) :=
  wpList_plain hgd fun _ hK => by
    obtain ⟨v', w', hrun, h2, h3⟩ := run_append_rec w o.type B v l hown r hlim hbase
    unfold Oper.wp execOp
    simp only [ho, resolve, invoke, builtin, Sem.run_bind, Sem.run_pure, Result.andThen_ok, List.map_toArray, List.map_cons, List.map_nil, hs, hx, hrun]
    exact hK _ _ (h v' w' h2 h3)

set_option maxRecDepth 100000 in
theorem elem_recs : Try.prog.elem 35 = 39 := by kernel_rfl

set_option maxRecDepth 100000 in
theorem under_recs : Try.prog.underlying 35 = some (.slice (Try.prog.elem 35)) := by rw [elem_recs]; exact Try.underlying35

set_option maxRecDepth 100000 in
theorem size_rec (w : World) : (sizeOf 39).run Try.prog w = .ok 7 w := by
  obtain ⟨i0, hi, _, hz1, _⟩ := info_parts info_rec
  simp [sizeOf, typeInfo, hi, hz1]

set_option maxRecDepth 100000 in
/-- The first records of a slice. -/
theorem run_front_recs (W : World) (ao : Option Addr) (n cap : Nat) (i : Int) (k : Nat) (hi : i = (k : Int)) (hk : k ≤ cap) :
    (Instr.sliceAt 35 (.slice ao n cap) none (some (.int .i64 i)) none).run Try.prog W = .ok (.slice ao k cap) W := by
  subst hi
  rw [run_sliceAt_slice W 35 _ _ _ _ under_recs, run_slice_h W 35 ao n cap under_recs .i64 (k : Int) (by omega) (by omega), elem_recs, size_rec]
  have e : sliced ao 0 k cap 7 = .slice ao k cap := by
    unfold sliced
    cases ao <;> simp [Addr.add]
  simp [e]

end Go.Proofs.Ytanmjihiceibbaa

/- Contracts of objs: within and what it answers, cut, full. -/
namespace Go.Proofs.Ytanmjihiceibbaa
open Go.RowKit

set_option maxRecDepth 100000 in
/-- What lies from lo to hi. -/
theorem is_any (n lo hi : Int) (a b : Nat) (w : World) (ha : w.cell? ⟨a, 0, none⟩ = some (.int .i64 lo)) (hb : w.cell? ⟨b, 0, none⟩ = some (.int .i64 hi)) :
    Calls Try.prog 97 #[.int .i64 n, .pointer (some ⟨a, 0, none⟩), .pointer (some ⟨b, 0, none⟩)] w fun e w' => e = .returned (.bool (decide (lo ≤ n ∧ n ≤ hi))) ∧ w' = w := by
  have HD : Hid ((decide (lo ≤ n) && decide (n ≤ hi)) = decide (lo ≤ n ∧ n ≤ hi)) := (Bool.decide_and _ _).symm
  have HT : Hid (lo ≤ n → decide (n ≤ hi) = decide (lo ≤ n ∧ n ≤ hi)) := fun h => by rw [← HD.out, decide_eq_true h, Bool.true_and]
  by_cases h1 : lo ≤ n
  · go_enter Try.func97, Try.ntmps97
    go_wp2
    go_ret
    exact ⟨ret_b (HT.out h1), rfl⟩
  · go_enter Try.func97, Try.ntmps97
    go_wp2
    go_ret
    exact ⟨ret_b (by rw [decide_eq_false (Int.not_le.2 h1), Bool.false_and]), rfl⟩

set_option maxRecDepth 100000 in
theorem within_any (lo hi : Int) (w : World) :
    Calls Try.prog 64 #[.int .i64 lo, .int .i64 hi] w fun e w' => ∃ a b, e = .returned (.func (.func 97) #[] #[.pointer (some ⟨a, 0, none⟩), .pointer (some ⟨b, 0, none⟩)]) ∧ w'.cell? ⟨a, 0, none⟩ = some (.int .i64 lo) ∧ w'.cell? ⟨b, 0, none⟩ = some (.int .i64 hi) ∧ Below w.heap.size w w' := by
  have hmf : ∀ (fn : Fn) (first cap : Array Value) (w : World), (Instr.makeFunc fn first cap).run Try.prog w = .ok (.func fn first cap) w := fun _ _ _ _ => rfl
  have HB : Hid (∀ x y, Below w.heap.size w ((w.alloc x).alloc y)) := fun x y => ((Below.refl _ _).alloc (Nat.le_refl _) x).alloc (by simp) y
  go_enter Try.func64, Try.ntmps64
  go_wp2
  go_ret
  refine ⟨_, _, rfl, ?_, ?_, HB.out _ _⟩
  · rw [World.cell?_alloc_past _ _ _ (by simp), World.cell?_alloc_at _ _ _ _ rfl]; rfl
  · rw [World.cell?_alloc_at _ _ _ _ (by simp)]; rfl

theorem cut_maxmin (n : Int) : max (-1099511627776) (min n 1099511627776) = cutZ n := by
  unfold cutZ
  split
  · omega
  · split <;> omega

set_option maxRecDepth 100000 in
theorem cutO_any (n : Int) (w : World) : Calls Try.prog 117 #[.int .i64 n] w fun e w' => e = .returned (.int .i64 (cutZ n)) ∧ w' = w := by
  by_cases h1 : 1099511627776 < n
  · go_enter Try.func117, Try.ntmps117
    go_wp2
    go_ret
    refine ⟨ret_i ?_, rfl⟩
    first
      | exact cut_maxmin n
      | (unfold cutZ; split <;> (try split) <;> omega)
  by_cases h2 : n ≤ -1099511627776
  · go_enter Try.func117, Try.ntmps117
    go_wp2
    go_ret
    refine ⟨ret_i ?_, rfl⟩
    first
      | exact cut_maxmin n
      | (unfold cutZ; split <;> (try split) <;> omega)
  · go_enter Try.func117, Try.ntmps117
    go_wp2
    go_ret
    refine ⟨ret_i ?_, rfl⟩
    first
      | exact cut_maxmin n
      | (unfold cutZ; split <;> (try split) <;> omega)

set_option maxRecDepth 100000 in
theorem full_any (ao : Option Addr) (n cap : Nat) (w : World) : Calls Try.prog 121 #[.slice ao n cap] w fun e w' => e = .returned (.bool (decide (n = 128))) ∧ w' = w := by
  by_cases h : n = 128
  · have HD : Hid (decide (n = 128) = true) := decide_eq_true h
    have hq : ((n : Int) == 128) = true := beq_iff_eq.2 (by omega)
    clear h
    go_enter Try.func121, Try.ntmps121
    go_wp2
    go_ret
    exact ⟨ret_b HD.out.symm, rfl⟩
  · have HD : Hid (decide (n = 128) = false) := decide_eq_false h
    have hq : ((n : Int) == 128) = false := beq_eq_false_iff_ne.2 (by omega)
    clear h
    go_enter Try.func121, Try.ntmps121
    go_wp2
    go_ret
    exact ⟨ret_b HD.out.symm, rfl⟩

end Go.Proofs.Ytanmjihiceibbaa

