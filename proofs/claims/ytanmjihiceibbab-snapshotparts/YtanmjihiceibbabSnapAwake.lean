/- The chapter's example of snapshots; Few. -/
import Derived.Test.YtanmjihiceibbabSnapOwn
import Derived.Test.YtanmjihiceibbabPack3
import Derived.Test.YtanmjihiceibbabObjsFew
namespace Go.Proofs.Ytanmjihiceibbab
open Go.RowKit

theorem maniN_pos (i : Nat) (w : List UInt8) : 8 ≤ (maniN i w).length := by
  have h1 := uv_ne 3
  have h2 := uv_ne i
  have h3 := uv_ne w.length
  unfold maniN
  rw [List.length_cons, List.length_append, List.length_append, List.length_append, Lib.leBytes_length]
  omega

theorem encN_pos (s : Snap) : 10 < (encN s).length := by
  have h1 := maniN_pos s.idx.toNat (wholeN s)
  have h2 := uv_ne (maniN s.idx.toNat (wholeN s)).length
  unfold encN partsN
  rw [framesOf_cons, List.length_append, frameOf_length]
  omega

def awakeS : Snap := ⟨1, ⟨0, [5], false, 0⟩, [⟨2, 1, 0⟩]⟩

def awakeR : Rec := ⟨0, 2, 1, ⟨1, 5, 0⟩, 0⟩

theorem awake_take : takeN ⟨0, ⟨0, [0], false, 0⟩, []⟩ [awakeR] = (awakeS, 0) := by
  have h1 : FitsR awakeR := by decide
  have h2 : stepO ⟨0, [0], false, 0⟩ ⟨1, 5, 0⟩ = (⟨0, [5], false, 0⟩, 0) := by kernel_rfl
  rw [takeN, if_neg (by decide), if_neg (fun h => h h1), takeN]
  unfold nextN
  show (((⟨0 + 1, (stepO ⟨0, [0], false, 0⟩ ⟨1, 5, 0⟩).1, noteL [] ⟨2, 1, (stepO ⟨0, [0], false, 0⟩ ⟨1, 5, 0⟩).2⟩⟩ : Snap), (0 : Int))) = _
  rw [h2]
  rfl

theorem awake_may : MayN awakeS := by decide

theorem i64_lit {n : Int} (h0 : -1000 ≤ n) (h1 : n ≤ 1000) : I64 n := ⟨by omega, by omega⟩

theorem RdI.lit1 (W : World) (x : Int) (hx : I64 x) : RdI (W.alloc (.cells #[.int .i64 x] 3)) (.slice (some ⟨W.heap.size, 0, none⟩) 1 1) [x] := RdI.one W x hx

theorem RdR.lit1 (W : World) (N : Nat) (hN : N = W.heap.size) (r : Rec) (hr : RecOk r) : RdR (W.alloc (.cells (recC r) 38)) (.slice (some ⟨N, 0, none⟩) 1 1) [r] := by
  subst hN
  refine ⟨_, 1, rfl, Nat.le_refl _, by decide, (fun e => by cases e), (fun s hs => by simp at hs; rw [hs]; exact hr), .inr ⟨W.heap.size, 0, rfl, fun j hj => ?_⟩⟩
  have hj0 : j = 0 := by simp at hj; omega
  subst hj0
  have hc : ∀ k, (W.alloc (.cells (recC r) 38)).cell? ⟨W.heap.size, k, none⟩ = (recC r)[k]? := fun k => cell_of_row _ W.heap.size k _ 38 (0, 0) (heap_alloc_new W _)
  exact ⟨hc 0, hc 1, hc 2, hc 3, hc 4, hc 5, hc 6⟩

set_option maxRecDepth 100000 in
set_option maxHeartbeats 4000000 in
theorem awake9_any (w : World) :
    Calls Try.prog 6 #[] w fun e w' => e = .returned (.bool true) ∧ Below w.heap.size w w' := by
  have h00 : I64 0 := i64_lit (by decide) (by decide)
  obtain ⟨W2, hW2⟩ : ∃ W2, W2 = (w.alloc (.cells #[.int .i64 0] 3)).alloc (.cells #[.int .i64 0, .int .i64 2, .int .i64 1, .int .i64 1, .int .i64 5, .int .i64 0, .int .i64 0] 38) := ⟨_, rfl⟩
  have hb2 : Below w.heap.size w W2 := by rw [hW2]; exact ((Below.refl _ _).alloc (Nat.le_refl _) _).alloc (by simp) _
  have hsv : SnV W2 (.agg #[.int .i64 0, .int .i64 0, .slice (some ⟨w.heap.size, 0, none⟩) 1 1, .bool false, .int .i64 0, .slice none 0 0]) ⟨0, ⟨0, [0], false, 0⟩, []⟩ :=
    ⟨_, _, rfl, by rw [hW2]; exact (RdI.lit1 w 0 h00).below ((Below.refl _ _).alloc (Nat.le_refl _) _) (Nat.le_refl _), h00, h00, RdE.nil _, h00⟩
  have hrr : RdR W2 (.slice (some ⟨w.heap.size + 1, 0, none⟩) 1 1) [awakeR] := by
    rw [hW2]
    exact RdR.lit1 (w.alloc (.cells #[.int .i64 0] 3)) (w.heap.size + 1) (by simp) awakeR ⟨h00, i64_lit (by decide) (by decide), i64_lit (by decide) (by decide), ⟨i64_lit (by decide) (by decide), i64_lit (by decide) (by decide), h00⟩, h00⟩
  have HTK := hide (takeN_any 0 0 (.slice (some ⟨w.heap.size, 0, none⟩) 1 1) false 0 (.slice none 0 0) _ _ _ W2 hsv hrr (by decide) (by decide) (by decide))
  rw [awake_take] at HTK
  unfold TakenN awakeS at HTK
  dsimp only at HTK
  have HW2 := hide hW2
  have HB2 := hide hb2
  have HEN := hide (fun v W h => encodeN_any v awakeS W h)
  unfold EncodedN at HEN
  simp only [if_pos awake_may] at HEN
  have HPO := hide (encN_pos awakeS)
  generalize encN awakeS = EN at *
  have hgd := guard_ent
  clear hW2 hb2 hsv hrr
  go_enter Try.func6, Try.ntmps6
  go_wp2_with fail
  rw [← HW2.out]
  refine HTK.out.mono ?_
  rintro e W3 ⟨vl, vt, rfl, hl3, -, -, ht3, -, -, -, hb3⟩
  have HB3 := hide (HB2.out.trans (hb3.mono HB2.out.size))
  obtain ⟨la, lc, hvl, -, -, -, -, hlo⟩ := id hl3
  obtain ⟨ta, tc, hvt, -, -, -, -, hto⟩ := id ht3
  subst hvl hvt
  rcases hlo with h | ⟨cb, co, rfl, hlo⟩
  · cases h
  rcases hto with h | ⟨db, dof, rfl, hto⟩
  · cases h
  have HL3 := hide hl3
  have HT3 := hide ht3
  have hq := hlo 0 (by decide)
  have hp := hto 0 (by decide)
  have HQ := hide hq
  have HP := hide hp
  clear hb3 hl3 ht3 hlo hto hq hp HTK HW2 HB2
  have HBA : Hid (∀ X, Below W3.heap.size W3 (W3.alloc X)) := fun X => (Below.refl _ _).alloc (Nat.le_refl _) X
  have HXS : Hid (∀ cs, Bn (W3.alloc (.cells cs 27)) W3.heap.size cs) := fun cs => heap_alloc_new W3 _
  have HSV : Hid (∀ W, Below W3.heap.size W3 W → SnV W (.agg #[.int .i64 1, .int .i64 0, .slice (some ⟨cb, co, none⟩) 1 lc, .bool false, .int .i64 0, .slice (some ⟨db, dof, none⟩) 1 tc]) awakeS) := hide (fun W h => ⟨_, _, rfl, HL3.out.below h (Nat.le_refl _), h00, h00, HT3.out.below h (Nat.le_refl _), i64_lit (by decide) (by decide)⟩)
  have hl1 : ([5] : List Int).length = 1 := rfl
  have hl2 : ([⟨2, 1, 0⟩] : List Ent).length = 1 := rfl
  rw [hl1, hl2]
  go_wp2_with fail
  refine (HEN.out _ _ (HSV.out _ (HBA.out _))).mono ?_
  rintro e W4 ⟨v4, rfl, ho4, hb4⟩
  have hb34 : Below W3.heap.size W3 W4 := (HBA.out _).trans (hb4.mono (HBA.out _).size)
  have hx4 : Bn W4 W3.heap.size _ := (HXS.out _).below hb4 (Nat.le_refl _)
  have HB4 := hide (HB3.out.trans (hb34.mono HB3.out.size))
  obtain ⟨a4, c4, h4, -⟩ := id ho4.rd
  subst h4
  obtain ⟨p0, -⟩ := hx4.cell 0
  obtain ⟨p2, -⟩ := hx4.cell 2
  obtain ⟨p5, -⟩ := hx4.cell 5
  have q0 : W4.cell? ⟨cb, co, none⟩ = some (.int .i64 5) := by
    have h := (hb34.cell (World.block_lt_of_cell? _ _ HQ.out)).trans HQ.out
    rwa [Nat.add_zero] at h
  have hk := HP.out.keep (hb34.block db HP.out.lt)
  rw [Nat.zero_mul, Nat.add_zero] at hk
  obtain ⟨e0, e1, e2⟩ := hk
  have heq := fun W => eql_ent W ⟨2, 1, 0⟩ ⟨2, 1, 0⟩
  rw [eqEnt_self] at heq
  dsimp only at heq
  have hlen : (10 : Int) < (EN.length : Int) := by have := HPO.out; omega
  have hlenN : 10 < EN.length := HPO.out
  clear ho4 hb4 hb34 hx4 HL3 HT3 HSV HEN HQ HP HXS HBA
  go_wp2
  go_ret
  exact ⟨rfl, HB4.out⟩

set_option maxRecDepth 100000 in
theorem fewN_any (v : Value) (s : Snap) (w : World) (hs : SnV w v s) :
    Calls Try.prog 7 #[v] w fun e w' => e = .returned (.bool (decide (s.st.L.length ≤ 300 ∧ s.tab.length ≤ 100))) ∧ Below w.heap.size w w' := by
  obtain ⟨vl, vt, rfl, hl, hk, he, ht, hi⟩ := hs
  obtain ⟨la, lc, e1⟩ : ∃ la lc, vl = .slice la s.st.L.length lc := by
    obtain ⟨a, c, h, -⟩ := hl
    exact ⟨a, c, h⟩
  have hml : (s.tab.length : Int) ≤ 9223372036854775807 := by
    obtain ⟨_, c, _, h1, h2, _⟩ := ht
    unfold maxLen at h2
    omega
  obtain ⟨ta, tc, e2⟩ := ht.shape
  subst e1 e2
  have HB0 : Hid (∀ X, Below w.heap.size w (w.alloc X)) := fun X => (Below.refl _ _).alloc (Nat.le_refl _) X
  have HX0 : Hid (∀ cs, Bn (w.alloc (.cells cs 27)) w.heap.size cs) := fun cs => heap_alloc_new w _
  have HFW : Hid (∀ W, Below w.heap.size w W → Calls Try.prog 15 #[.agg #[.int .i64 s.st.kind, .slice la s.st.L.length lc, .bool s.st.shut, .int .i64 s.st.eng]] W fun e w' => e = .returned (.bool (decide ((s.st.L.length : Int) ≤ 300))) ∧ Below W.heap.size W w') := hide (fun W h => few_any _ s.st W ⟨_, rfl, hl.below h (Nat.le_refl _), hk, he⟩)
  obtain ⟨idx, ⟨kind, L, shut, eng⟩, tab⟩ := s
  dsimp only at *
  obtain ⟨D, hD⟩ : ∃ D, D = decide (L.length ≤ 300 ∧ tab.length ≤ 100) := ⟨_, rfl⟩
  rw [← hD]
  have HD := hide hD
  clear hD hl ht hk he hi
  by_cases h1 : L.length ≤ 300
  · have e1 : decide ((L.length : Int) ≤ 300) = true := decide_eq_true (by omega)
    rw [e1] at HFW
    by_cases h2 : tab.length ≤ 100
    · have HE : Hid (D = true) := hide (by rw [HD.out]; exact decide_eq_true ⟨h1, h2⟩)
      have h2' : (tab.length : Int) ≤ 100 := by omega
      clear h1 h2 HD e1
      go_enter Try.func7, Try.ntmps7
      go_wp2_with fail
      refine (HFW.out _ (HB0.out _)).mono ?_
      rintro e W1 ⟨rfl, hb1⟩
      have hx1 : Bn W1 w.heap.size _ := (HX0.out _).below hb1 (Nat.le_refl _)
      have HB1 := hide ((HB0.out _).trans (hb1.mono (HB0.out _).size))
      obtain ⟨p5, -⟩ := hx1.cell 5
      clear hb1 hx1
      go_wp2
      go_ret
      rw [HE.out]
      exact ⟨rfl, HB1.out⟩
    · have HE : Hid (D = false) := hide (by rw [HD.out]; exact decide_eq_false (fun h => h2 h.2))
      have h2' : decide ((tab.length : Int) ≤ 100) = false := decide_eq_false (by omega)
      have h2n : decide (tab.length ≤ 100) = false := decide_eq_false h2
      clear h1 h2 HD e1
      go_enter Try.func7, Try.ntmps7
      go_wp2_with fail
      refine (HFW.out _ (HB0.out _)).mono ?_
      rintro e W1 ⟨rfl, hb1⟩
      have hx1 : Bn W1 w.heap.size _ := (HX0.out _).below hb1 (Nat.le_refl _)
      have HB1 := hide ((HB0.out _).trans (hb1.mono (HB0.out _).size))
      obtain ⟨p5, -⟩ := hx1.cell 5
      clear hb1 hx1
      go_wp2
      go_ret
      rw [HE.out]
      refine ⟨?_, HB1.out⟩
      first | rfl | simp_all
  · have e1 : decide ((L.length : Int) ≤ 300) = false := decide_eq_false (by omega)
    have HE : Hid (D = false) := hide (by rw [HD.out]; exact decide_eq_false (fun h => h1 h.1))
    rw [e1] at HFW
    clear h1 HD e1
    go_enter Try.func7, Try.ntmps7
    go_wp2_with fail
    refine (HFW.out _ (HB0.out _)).mono ?_
    rintro e W1 ⟨rfl, hb1⟩
    have HB1 := hide ((HB0.out _).trans (hb1.mono (HB0.out _).size))
    clear hb1
    go_wp2
    go_ret
    rw [HE.out]
    exact ⟨rfl, HB1.out⟩

end Go.Proofs.Ytanmjihiceibbab
