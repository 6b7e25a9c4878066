/- The calls of a machine no block of which is in K. -/
import Derived.Test.YtekkmflfhkdkoaaMachC
namespace Go.Proofs.Ytekkmflfhkdkoaa
open Go.RowKit Go.Maps

theorem onlyK {K : Nat → Prop} {w w' : World} {mc ms : Nat} (h : Only (fun k => k = mc ∨ k = ms) w w') (h1 : ¬ K mc) (h2 : ¬ K ms) : Only (fun k => ¬ K k) w w' :=
  h.mono fun k hk => by rcases hk with rfl | rfl; exact h1; exact h2

theorem readK {K : Nat → Prop} {w : World} {p N : Nat} {M : Mc} (h : Mac K w p M N) (hN : N ≤ 100000000000) (q cell : Int) (hq : I64 q) (hc : I64 cell) :
    Calls Try.prog 13 #[ptr p, .int .i64 q, .int .i64 cell] w fun e w' => e = .returned (.int .i64 (M.c cell)) ∧ Mac K w' p (readM M q) (N + 2) ∧ Only (fun k => ¬ K k) w w' := by
  obtain ⟨mc, ms, h, k1, k2, k3⟩ := h
  exact (read_any h hN q cell hq hc).mono fun e w' ⟨he, hm, ho⟩ => ⟨he, ⟨mc, ms, hm, k1, k2, k3⟩, onlyK ho k2 k3⟩

theorem writeK {K : Nat → Prop} {w : World} {p N : Nat} {M : Mc} (h : Mac K w p M N) (hN : N ≤ 100000000000) (q cell n : Int) (hq : I64 q) (hc : I64 cell) (hn : I64 n) :
    Calls Try.prog 15 #[ptr p, .int .i64 q, .int .i64 cell, .int .i64 n] w fun e w' => e = .returned (.tuple #[]) ∧ Mac K w' p (writeM M q cell n) (N + 2) ∧ Only (fun k => ¬ K k) w w' := by
  obtain ⟨mc, ms, h, k1, k2, k3⟩ := h
  exact (write_any h hN q cell n hq hc hn).mono fun e w' ⟨he, hm, ho⟩ => ⟨he, ⟨mc, ms, hm, k1, k2, k3⟩, onlyK ho k2 k3⟩

theorem addK {K : Nat → Prop} {w : World} {p N : Nat} {M : Mc} (h : Mac K w p M N) (hN : N ≤ 100000000000) (q cell n : Int) (hq : I64 q) (hc : I64 cell) :
    Calls Try.prog 19 #[ptr p, .int .i64 q, .int .i64 cell, .int .i64 n] w fun e w' => e = .returned (.int .i64 (M.c cell)) ∧ Mac K w' p (addM M q cell n) (N + 2) ∧ Only (fun k => ¬ K k) w w' := by
  obtain ⟨mc, ms, h, k1, k2, k3⟩ := h
  exact (add_any h hN q cell n hq hc).mono fun e w' ⟨he, hm, ho⟩ => ⟨he, ⟨mc, ms, hm, k1, k2, k3⟩, onlyK ho k2 k3⟩

theorem swapK {K : Nat → Prop} {w : World} {p N : Nat} {M : Mc} (h : Mac K w p M N) (hN : N ≤ 100000000000) (q cell old new : Int) (hq : I64 q) (hc : I64 cell) (hn : I64 new) :
    Calls Try.prog 17 #[ptr p, .int .i64 q, .int .i64 cell, .int .i64 old, .int .i64 new] w fun e w' => e = .returned (.bool (inM cell M.len && decide (M.c cell = old))) ∧ Mac K w' p (swapM M q cell old new) (N + 2) ∧ Only (fun k => ¬ K k) w w' := by
  obtain ⟨mc, ms, h, k1, k2, k3⟩ := h
  exact (swap_any h hN q cell old new hq hc hn).mono fun e w' ⟨he, hm, ho⟩ => ⟨he, ⟨mc, ms, hm, k1, k2, k3⟩, onlyK ho k2 k3⟩

theorem cellsK {K : Nat → Prop} {w : World} {p N : Nat} {M : Mc} (h : Mac K w p M N) (n : Int) (hl : M.len + n.toNat ≤ 1000000000000000) :
    Calls Try.prog 11 #[ptr p, .int .i64 n] w fun e w' => e = .returned (.int .i64 (M.len : Int)) ∧ Mac K w' p (cellsM M n) N ∧ Only (fun k => ¬ K k) w w' := by
  obtain ⟨mc, ms, h, k1, k2, k3⟩ := h
  exact (cellsM_any h n hl).mono fun e w' ⟨he, hm, ho⟩ => ⟨he, ⟨mc, ms, hm, k1, k2, k3⟩, ho.mono fun k hk => by rw [hk]; exact k1⟩

theorem lenK {K : Nat → Prop} {w : World} {p N : Nat} {M : Mc} (h : Mac K w p M N) :
    Calls Try.prog 21 #[ptr p] w fun e w' => e = .returned (.int .i64 (M.len : Int)) ∧ w' = w := by
  obtain ⟨mc, ms, h, k1, k2, k3⟩ := h
  exact lenM_any h

theorem stepsK {K : Nat → Prop} {w : World} {p N : Nat} {M : Mc} (h : Mac K w p M N) (q : Int) (hq : I64 q) :
    Calls Try.prog 22 #[ptr p, .int .i64 q] w fun e w' => e = .returned (.int .i64 (M.s q)) ∧ w' = w := by
  obtain ⟨mc, ms, h, k1, k2, k3⟩ := h
  exact stepsM_any h q hq

/-- A machine all blocks of which lie from B on. -/
abbrev MacB (B : Nat) := Mac fun k => k < B

theorem onlyB {B : Nat} {w w' : World} (h : Only (fun k => ¬ k < B) w w') (hB : B ≤ w.heap.size) : Below B w w' := h.below hB fun k hk => by omega

theorem MacB.below {B : Nat} {w w' : World} {p N : Nat} {M : Mc} (h : MacB B w p M N) (hb : Below w.heap.size w w') : MacB B w' p M N := Mac.below h hb

theorem inM_true {n count : Int} (h : 0 ≤ n ∧ n < count) : inM n count = true := decide_eq_true h

set_option maxRecDepth 100000 in
set_option maxHeartbeats 1000000 in
theorem awakeM_any (w : World) :
    Calls Try.prog 7 #[] w fun e w' => e = .returned (.bool true) ∧ Below w.heap.size w w' := by
  have HN := hide (newM_any 2 w ⟨by decide, by decide⟩)
  obtain ⟨B, hB⟩ : ∃ B, B = w.heap.size := ⟨_, rfl⟩
  have HBW : Hid (B ≤ w.heap.size) := hide (by omega)
  rw [← hB] at HN ⊢
  clear hB
  have hS : ∀ {W : World}, Below B w W → B ≤ W.heap.size := fun h => Nat.le_trans HBW.out h.size
  go_enter Try.func7, Try.ntmps7
  go_wp2_with fail
  refine HN.out.mono ?_
  rintro e w1 ⟨p, rfl, hp, hm1, hb1⟩
  have HB1 := hide hb1
  have HC := hide (cellsK hm1 2 (by decide))
  clear HN hm1 hb1 hp
  obtain ⟨M1, hM1⟩ : ∃ M1, M1 = cellsM (newM 2) 2 := ⟨_, rfl⟩
  have H1 : Hid (M1.c 1 = 0 ∧ M1.len = 2) := hide (by rw [hM1]; exact ⟨rfl, rfl⟩)
  have H1' := hide hM1
  rw [← hM1] at HC
  clear hM1
  go_wp2_with fail
  refine HC.out.mono ?_
  rintro e w2 ⟨rfl, hm2, ho2⟩
  have HB2 := hide (HB1.out.trans (onlyB ho2 (hS HB1.out)))
  have HC2 := hide (addK hm2 (by decide) 0 1 5 ⟨by decide, by decide⟩ ⟨by decide, by decide⟩)
  rw [H1.out.1] at HC2
  obtain ⟨M2, hM2⟩ : ∃ M2, M2 = addM M1 0 1 5 := ⟨_, rfl⟩
  have H2 : Hid ((inM 1 (M2.len : Int) && decide (M2.c 1 = 5)) = true) := hide (by rw [hM2, H1'.out]; decide +kernel)
  have H2' := hide hM2
  rw [← hM2] at HC2
  clear hM2 hm2 ho2 HC HB1
  go_wp2_with fail
  refine HC2.out.mono ?_
  rintro e w3 ⟨rfl, hm3, ho3⟩
  have HB3 := hide (HB2.out.trans (onlyB ho3 (hS HB2.out)))
  have HC3 := hide (swapK hm3 (by decide) 1 1 5 7 ⟨by decide, by decide⟩ ⟨by decide, by decide⟩ ⟨by decide, by decide⟩)
  rw [H2.out] at HC3
  obtain ⟨M3, hM3⟩ : ∃ M3, M3 = swapM M2 1 1 5 7 := ⟨_, rfl⟩
  have H3 : Hid (M3.c 1 = 7) := hide (by rw [hM3, H2'.out, H1'.out]; decide +kernel)
  have H3' := hide hM3
  rw [← hM3] at HC3
  clear hM3 hm3 ho3 HC2 HB2
  go_wp2_with fail
  refine HC3.out.mono ?_
  rintro e w4 ⟨rfl, hm4, ho4⟩
  have HB4 := hide (HB3.out.trans (onlyB ho4 (hS HB3.out)))
  have HC4 := hide (readK hm4 (by decide) 0 1 ⟨by decide, by decide⟩ ⟨by decide, by decide⟩)
  rw [H3.out] at HC4
  obtain ⟨M4, hM4⟩ : ∃ M4, M4 = readM M3 0 := ⟨_, rfl⟩
  have H4 : Hid (M4.s 0 = 2 ∧ M4.len = 2) := hide (by rw [hM4, H3'.out, H2'.out, H1'.out]; exact ⟨by decide +kernel, by decide +kernel⟩)
  rw [← hM4] at HC4
  clear hM4 hm4 ho4 HC3 HB3
  go_wp2_with fail
  refine HC4.out.mono ?_
  rintro e w5 ⟨rfl, hm5, ho5⟩
  have HB5 := hide (HB4.out.trans (onlyB ho5 (hS HB4.out)))
  have HC5 := hide (stepsK hm5 0 ⟨by decide, by decide⟩)
  have HC6 := hide (lenK hm5)
  rw [H4.out.1] at HC5
  rw [H4.out.2] at HC6
  have h0 : (newM 2).len = 0 := rfl
  clear hm5 ho5 HC4 HB4 H1 H1' H2 H2' H3 H3' H4
  go_wp2_with fail
  refine HC5.out.mono ?_
  rintro e w6 ⟨rfl, rfl⟩
  go_wp2_with fail
  refine HC6.out.mono ?_
  rintro e w7 ⟨rfl, rfl⟩
  go_wp2
  go_ret
  exact ⟨rfl, HB5.out⟩

theorem takeI_next {l : List Int} {k : Nat} (h : k < l.length) : l.take (k + 1) = l.take k ++ [l.getD k 0] := by
  rw [List.take_add_one]
  simp [List.getD, h]

theorem RdI.atI {w : World} {ao : Option Addr} {cap : Nat} {l : List Int} (h : RdI w (.slice ao l.length cap) l) {k : Nat} (hk : k < l.length) : ∃ b off, ao = some ⟨b, off, none⟩ ∧ w.cell? ⟨b, off + k, none⟩ = some (.int .i64 (l.getD k 0)) ∧ I64 (l.getD k 0) := by
  have hi := getD_i64 h.i64 k
  obtain ⟨ao', cap', hv, _, _, _, _, h4⟩ := h
  simp only [Value.slice.injEq, true_and] at hv
  obtain ⟨rfl, rfl⟩ := hv
  rcases h4 with h4 | ⟨b, off, h5, h6⟩
  · rw [h4] at hk; simp at hk
  · exact ⟨b, off, h5, h6 k hk, hi⟩

end Go.Proofs.Ytekkmflfhkdkoaa
