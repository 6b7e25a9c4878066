/- Read, Write, Swap, Add and Steps of the document's machine. -/
import Derived.Test.YtekkmflfhkdkoaaRefMachB
namespace Go.Proofs.Ytekkmflfhkdkoaa
open Go.RowKit Go.Maps

/-- A cell that there is: where it lies. -/
theorem Rfm.cell {K : Nat → Prop} {w : World} {p : Nat} {C P : List Int} (h : Rfm K w p C P) {c : Int} (hc : inM c C.length = true) :
    ∃ (g cap Q : Nat), c = (Q : Int) ∧ Q < C.length ∧ w.cell? ⟨p, 0, none⟩ = some (.slice (some ⟨g, 0, none⟩) C.length cap) ∧ w.cell? ⟨g, Q, none⟩ = some (.int .i64 (C.getD Q 0)) ∧ w.frozen? ⟨g, Q, none⟩ = false ∧ ¬ K g ∧
      (∀ x, I64 x → Rfm K (w.setCell ⟨g, Q, none⟩ (.int .i64 x)) p (C.set Q x) P) := by
  obtain ⟨cv, pv, h⟩ := h
  have hc' : 0 ≤ c ∧ c < (C.length : Int) := of_decide_eq_true hc
  obtain ⟨Q, rfl⟩ : ∃ Q : Nat, c = (Q : Int) := ⟨c.toNat, by omega⟩
  have hQ : Q < C.length := by omega
  obtain ⟨g, cap, hv, hlt, cq, fq⟩ := h.c.form hQ
  subst hv
  exact ⟨g, cap, Q, rfl, hQ, (h.head.cell 0 rfl).1, cq, fq, h.kc g rfl, fun x hx => ⟨_, _, h.setC Q hx⟩⟩

theorem Rfm.headC {K : Nat → Prop} {w : World} {p : Nat} {C P : List Int} (h : Rfm K w p C P) : ∃ a cap, w.cell? ⟨p, 0, none⟩ = some (.slice a C.length cap) := by
  obtain ⟨cv, pv, h⟩ := h
  obtain ⟨a, cap, hv⟩ := h.c.shapeM
  exact ⟨a, cap, by rw [← hv]; exact (h.head.cell 0 rfl).1⟩

theorem putR_in {C : List Int} {Q : Nat} (h : Q < C.length) (x : Int) : putR C (Q : Int) x = C.set Q x := by
  unfold putR
  rw [if_pos (inM_true ⟨by omega, by omega⟩), Int.toNat_natCast]

theorem putR_out {C : List Int} {c : Int} (h : inM c C.length = false) (x : Int) : putR C c x = C := by
  unfold putR
  rw [h]
  rfl

def getR (C : List Int) (c : Int) : Int := if inM c C.length = true then C.getD c.toNat 0 else 0

theorem getR_in {C : List Int} {Q : Nat} (h : Q < C.length) : getR C (Q : Int) = C.getD Q 0 := by
  unfold getR
  rw [if_pos (inM_true ⟨by omega, by omega⟩), Int.toNat_natCast]

theorem getR_out {C : List Int} {c : Int} (h : inM c C.length = false) : getR C c = 0 := by
  unfold getR
  rw [h]
  rfl

set_option maxRecDepth 100000 in
set_option maxHeartbeats 1000000 in
theorem refReadM_any {K : Nat → Prop} {w : World} {p : Nat} {C P : List Int} (h : Rfm K w p C P) (q cell : Int) (hC : C.length ≤ 1000000) :
    Calls Try.prog 14 #[ptr p, .int .i64 q, .int .i64 cell] w fun e w' => e = .returned (.int .i64 (getR C cell)) ∧ Rfm K w' p C (stepR P q) ∧ Only (fun k => ¬ K k) w w' := by
  have HI := hide (refIsM_any h q cell)
  have hCi : (C.length : Int) ≤ 1000000 := by omega
  clear h hC
  obtain ⟨G, hG⟩ : ∃ G, G = getR C cell := ⟨_, rfl⟩
  obtain ⟨b, hb⟩ : ∃ b, b = inM cell C.length := ⟨_, rfl⟩
  rw [← hb] at HI
  rw [← hG]
  cases b with
  | false =>
    obtain rfl : G = 0 := by rw [hG, getR_out hb.symm]
    clear hG hb
    go_enter Try.func14, Try.ntmps14
    go_wp2_with fail
    refine HI.out.mono ?_
    rintro e w1 ⟨rfl, h1, ho⟩
    have HE := hide (And.intro h1 ho)
    clear HI h1 ho
    go_wp2
    go_ret
    exact ⟨rfl, HE.out⟩
  | true =>
    have HB := hide hb.symm
    have HG := hide hG
    clear hG hb
    go_enter Try.func14, Try.ntmps14
    go_wp2_with fail
    refine HI.out.mono ?_
    rintro e w1 ⟨rfl, h1, ho⟩
    have HE := hide (And.intro h1 ho)
    obtain ⟨g, cap, Q, rfl, hQ, c0, cq, -, -, -⟩ := h1.cell HB.out
    rw [← getR_in hQ, ← HG.out] at cq
    obtain ⟨L, hL⟩ : ∃ L, L = C.length := ⟨_, rfl⟩
    rw [← hL] at c0 hQ hCi
    clear HI h1 ho hL
    go_wp2
    go_ret
    exact ⟨rfl, HE.out⟩

set_option maxRecDepth 100000 in
set_option maxHeartbeats 1000000 in
theorem refWriteM_any {K : Nat → Prop} {w : World} {p : Nat} {C P : List Int} (h : Rfm K w p C P) (q cell n : Int) (hn : I64 n) (hC : C.length ≤ 1000000) :
    Calls Try.prog 16 #[ptr p, .int .i64 q, .int .i64 cell, .int .i64 n] w fun e w' => e = .returned (.tuple #[]) ∧ Rfm K w' p (putR C cell n) (stepR P q) ∧ Only (fun k => ¬ K k) w w' := by
  have HI := hide (refIsM_any h q cell)
  have HN := hide hn
  have hCi : (C.length : Int) ≤ 1000000 := by omega
  clear h hC hn
  obtain ⟨b, hb⟩ : ∃ b, b = inM cell C.length := ⟨_, rfl⟩
  rw [← hb] at HI
  cases b with
  | false =>
    have HE0 := hide (putR_out hb.symm n)
    clear hb
    go_enter Try.func16, Try.ntmps16
    go_wp2_with fail
    refine HI.out.mono ?_
    rintro e w1 ⟨rfl, h1, ho⟩
    have HE := hide (And.intro h1 ho)
    clear HI h1 ho
    go_wp2
    go_end0
    exact ⟨rfl, by rw [HE0.out]; exact HE.out⟩
  | true =>
    have HB := hide hb.symm
    clear hb
    go_enter Try.func16, Try.ntmps16
    go_wp2_with fail
    refine HI.out.mono ?_
    rintro e w1 ⟨rfl, h1, ho⟩
    obtain ⟨g, cap, Q, rfl, hQ, c0, cq, fq, hg, hs⟩ := h1.cell HB.out
    have HE : Hid (Rfm K (w1.setCell ⟨g, Q, none⟩ (.int .i64 n)) p (putR C (Q : Int) n) (stepR P q) ∧ Only (fun k => ¬ K k) w (w1.setCell ⟨g, Q, none⟩ (.int .i64 n))) := hide ⟨by rw [putR_in hQ]; exact hs n HN.out, ho.setCell Q (fun _ => hg) _⟩
    obtain ⟨L, hL⟩ : ∃ L, L = C.length := ⟨_, rfl⟩
    rw [← hL] at c0 hQ hCi
    clear HI h1 ho hL hs hg
    go_wp2
    go_end0
    exact ⟨rfl, HE.out⟩

set_option maxRecDepth 100000 in
set_option maxHeartbeats 1000000 in
theorem refAddM_any {K : Nat → Prop} {w : World} {p : Nat} {C P : List Int} (h : Rfm K w p C P) (q cell n : Int) (hC : C.length ≤ 1000000) :
    Calls Try.prog 20 #[ptr p, .int .i64 q, .int .i64 cell, .int .i64 n] w fun e w' => e = .returned (.int .i64 (getR C cell)) ∧ Rfm K w' p (putR C cell (wrap64 (getR C cell + n))) (stepR P q) ∧ Only (fun k => ¬ K k) w w' := by
  have HI := hide (refIsM_any h q cell)
  have hCi : (C.length : Int) ≤ 1000000 := by omega
  clear h hC
  obtain ⟨G, hG⟩ : ∃ G, G = getR C cell := ⟨_, rfl⟩
  obtain ⟨b, hb⟩ : ∃ b, b = inM cell C.length := ⟨_, rfl⟩
  rw [← hb] at HI
  rw [← hG]
  cases b with
  | false =>
    obtain rfl : G = 0 := by rw [hG, getR_out hb.symm]
    have HE0 := hide (putR_out hb.symm (wrap64 (0 + n)))
    clear hG hb
    go_enter Try.func20, Try.ntmps20
    go_wp2_with fail
    refine HI.out.mono ?_
    rintro e w1 ⟨rfl, h1, ho⟩
    have HE := hide (And.intro h1 ho)
    clear HI h1 ho
    go_wp2
    go_ret
    exact ⟨rfl, by rw [HE0.out]; exact HE.out⟩
  | true =>
    have HB := hide hb.symm
    have HG := hide hG
    clear hG hb
    go_enter Try.func20, Try.ntmps20
    go_wp2_with fail
    refine HI.out.mono ?_
    rintro e w1 ⟨rfl, h1, ho⟩
    obtain ⟨g, cap, Q, rfl, hQ, c0, cq, fq, hg, hs⟩ := h1.cell HB.out
    rw [← getR_in hQ, ← HG.out] at cq
    have HE : Hid (Rfm K (w1.setCell ⟨g, Q, none⟩ (.int .i64 (wrap64 (G + n)))) p (putR C (Q : Int) (wrap64 (G + n))) (stepR P q) ∧ Only (fun k => ¬ K k) w (w1.setCell ⟨g, Q, none⟩ (.int .i64 (wrap64 (G + n))))) := hide ⟨by rw [putR_in hQ]; exact hs _ (i64_wrap64 _), ho.setCell Q (fun _ => hg) _⟩
    obtain ⟨L, hL⟩ : ∃ L, L = C.length := ⟨_, rfl⟩
    rw [← hL] at c0 hQ hCi
    clear HI h1 ho hL hs hg
    go_wp2
    go_ret
    exact ⟨rfl, HE.out⟩

set_option maxRecDepth 100000 in
set_option maxHeartbeats 1000000 in
theorem refSwapM_any {K : Nat → Prop} {w : World} {p : Nat} {C P : List Int} (h : Rfm K w p C P) (q cell old new : Int) (hnw : I64 new) (hC : C.length ≤ 1000000) :
    Calls Try.prog 18 #[ptr p, .int .i64 q, .int .i64 cell, .int .i64 old, .int .i64 new] w fun e w' => e = .returned (.bool (inM cell C.length && decide (getR C cell = old))) ∧ Rfm K w' p (putR C cell (if getR C cell = old then new else getR C cell)) (stepR P q) ∧ Only (fun k => ¬ K k) w w' := by
  have HI := hide (refIsM_any h q cell)
  have HN := hide hnw
  have hCi : (C.length : Int) ≤ 1000000 := by omega
  clear h hC hnw
  obtain ⟨G, hG⟩ : ∃ G, G = getR C cell := ⟨_, rfl⟩
  obtain ⟨b, hb⟩ : ∃ b, b = inM cell C.length := ⟨_, rfl⟩
  rw [← hb] at HI
  rw [← hG, ← hb]
  cases b with
  | false =>
    obtain rfl : G = 0 := by rw [hG, getR_out hb.symm]
    have HE0 := hide (putR_out hb.symm (if (0 : Int) = old then new else 0))
    clear hG hb
    rw [HE0.out]
    clear HE0
    obtain ⟨z, hz⟩ : ∃ z, z = (false && decide ((0 : Int) = old)) := ⟨_, rfl⟩
    rw [← hz]
    have HZ : Hid (z = false) := hz
    clear hz
    go_enter Try.func18, Try.ntmps18
    go_wp2_with fail
    refine HI.out.mono ?_
    rintro e w1 ⟨rfl, h1, ho⟩
    have HE := hide (And.intro h1 ho)
    clear HI h1 ho
    go_wp2
    go_ret
    exact ⟨ret_bool HZ.out.symm, HE.out⟩
  | true =>
    have HB := hide hb.symm
    have HG := hide hG
    clear hG hb
    by_cases ho' : G = old
    · have hne : (G != old) = false := by simp [ho']
      rw [if_pos ho']
      obtain ⟨z, hz⟩ : ∃ z, z = (true && decide (G = old)) := ⟨_, rfl⟩
      rw [← hz]
      have HZ : Hid (z = true) := hide (by rw [hz]; simp [ho'])
      clear hz ho'
      go_enter Try.func18, Try.ntmps18
      go_wp2_with fail
      refine HI.out.mono ?_
      rintro e w1 ⟨rfl, h1, ho⟩
      obtain ⟨g, cap, Q, rfl, hQ, c0, cq, fq, hg, hs⟩ := h1.cell HB.out
      rw [← getR_in hQ, ← HG.out] at cq
      have HE : Hid (Rfm K (w1.setCell ⟨g, Q, none⟩ (.int .i64 new)) p (putR C (Q : Int) new) (stepR P q) ∧ Only (fun k => ¬ K k) w (w1.setCell ⟨g, Q, none⟩ (.int .i64 new))) := hide ⟨by rw [putR_in hQ]; exact hs _ HN.out, ho.setCell Q (fun _ => hg) _⟩
      obtain ⟨L, hL⟩ : ∃ L, L = C.length := ⟨_, rfl⟩
      rw [← hL] at c0 hQ hCi
      clear HI h1 ho hL hs hg
      go_wp2
      go_ret
      exact ⟨ret_bool HZ.out.symm, HE.out⟩
    · have hne : (G != old) = true := by simp [ho']
      rw [if_neg ho']
      obtain ⟨z, hz⟩ : ∃ z, z = (true && decide (G = old)) := ⟨_, rfl⟩
      rw [← hz]
      have HZ : Hid (z = false) := hide (by rw [hz]; simp [ho'])
      clear hz ho'
      go_enter Try.func18, Try.ntmps18
      go_wp2_with fail
      refine HI.out.mono ?_
      rintro e w1 ⟨rfl, h1, ho⟩
      obtain ⟨g, cap, Q, rfl, hQ, c0, cq, fq, hg, hs⟩ := h1.cell HB.out
      have HE : Hid (Rfm K w1 p (putR C (Q : Int) G) (stepR P q) ∧ Only (fun k => ¬ K k) w w1) := hide ⟨by
        rw [putR_in hQ, HG.out, getR_in hQ]
        have : C.set Q (C.getD Q 0) = C := by
          apply List.ext_getElem (by simp)
          intro i h1 h2
          rw [List.getElem_set]
          split
          · rename_i e; subst e; simp [List.getD, h2]
          · rfl
        rw [this]; exact h1, ho⟩
      rw [← getR_in hQ, ← HG.out] at cq
      obtain ⟨L, hL⟩ : ∃ L, L = C.length := ⟨_, rfl⟩
      rw [← hL] at c0 hQ hCi
      clear HI h1 ho hL hs hg
      go_wp2
      go_ret
      exact ⟨ret_bool HZ.out.symm, HE.out⟩

set_option maxRecDepth 100000 in
set_option maxHeartbeats 1000000 in
theorem refStepsM_any {K : Nat → Prop} {w : World} {p : Nat} {C P : List Int} (h : Rfm K w p C P) (q : Int) :
    Calls Try.prog 23 #[ptr p, .int .i64 q] w fun e w' => e = .returned (.int .i64 (getR P q)) ∧ w' = w := by
  obtain ⟨cv, pv, h⟩ := h
  obtain ⟨G, hG⟩ : ∃ G, G = getR P q := ⟨_, rfl⟩
  rw [← hG]
  obtain ⟨bo, bap, hpv⟩ := h.s.shapeM
  have c1 := (h.head.cell 1 rfl).1
  rw [hpv] at c1
  have c1' : w.cell? ⟨p, 1, none⟩ = some (.slice bo P.length bap) := c1
  clear c1
  by_cases hq : 0 ≤ q ∧ q < (P.length : Int)
  · obtain ⟨Q, rfl⟩ : ∃ Q : Nat, q = (Q : Int) := ⟨q.toNat, by omega⟩
    have hQ : Q < P.length := by omega
    obtain ⟨g, bap', hpv', hglt, cq, fq⟩ := h.s.form hQ
    rw [hpv'] at hpv
    simp only [Value.slice.injEq, true_and] at hpv
    obtain ⟨rfl, rfl⟩ := hpv
    rw [← getR_in hQ, ← hG] at cq
    obtain ⟨L, hL⟩ : ∃ L, L = P.length := ⟨_, rfl⟩
    rw [← hL] at c1' hQ
    clear h hG hq hL hpv' hglt fq
    go_enter Try.func23, Try.ntmps23
    go_wp2
    go_ret
    exact ⟨rfl, rfl⟩
  · obtain rfl : G = 0 := by rw [hG, getR_out (by unfold inM; simp; omega)]
    obtain ⟨L, hL⟩ : ∃ L, L = P.length := ⟨_, rfl⟩
    rw [← hL] at c1' hq
    clear h hG hL hpv
    go_enter Try.func23, Try.ntmps23
    by_cases h0 : 0 ≤ q
    · have h1 : ¬ q < (L : Int) := fun h => hq ⟨h0, h⟩
      clear hq
      go_wp2
      go_ret
      exact ⟨rfl, rfl⟩
    · clear hq
      go_wp2
      go_ret
      exact ⟨rfl, rfl⟩

end Go.Proofs.Ytekkmflfhkdkoaa
