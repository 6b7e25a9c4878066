/- The calls of the document's machine: Cells, an access, Steps. -/
import Derived.Test.YtekkmflfhkdkoaaRefMachA
namespace Go.Proofs.Ytekkmflfhkdkoaa
open Go.RowKit Go.Maps

set_option maxRecDepth 100000 in
set_option maxHeartbeats 1000000 in
theorem refCellsM_any {K : Nat → Prop} {w : World} {p : Nat} {C P : List Int} (h : Rfm K w p C P) (hK : ∀ k, K k → k < w.heap.size) (n : Int) (hn : n ≤ 1000) (hC : C.length ≤ 900000) :
    Calls Try.prog 12 #[ptr p, .int .i64 n] w fun e w' => e = .returned (.int .i64 (C.length : Int)) ∧ Rfm K w' p (C ++ List.replicate n.toNat 0) P ∧ Only (fun k => ¬ K k) w w' := by
  obtain ⟨cv, pv, h⟩ := h
  obtain ⟨ao, cap, hcv⟩ := h.c.shapeM
  have c0 := (h.head.cell 0 rfl).1
  rw [hcv] at c0
  have c0' : w.cell? ⟨p, 0, none⟩ = some (.slice ao C.length cap) := c0
  have H0 : Hid (RefM K w p cv pv (C ++ List.replicate 0 0) P) := by rw [List.replicate_zero, List.append_nil]; exact h
  have HK := hide hK
  obtain ⟨L, hL⟩ : ∃ L, L = C.length := ⟨_, rfl⟩
  have HL := hide hL
  rw [← hL] at c0' hC
  rw [← hL]
  have hLi : (L : Int) ≤ 900000 := by omega
  clear h hK hcv c0 hL
  go_enter Try.func12, Try.ntmps12
  go_wp2
  go_loopw [6] (fun vi wr => ∃ (i : Nat) (cv : Value), vi = .int .i64 (i : Int) ∧ (i : Int) ≤ max n 0 ∧ Hid (RefM K wr p cv pv (C ++ List.replicate i 0) P) ∧ Hid (Only (fun k => ¬ K k) w wr)) (fun vi _ => n.toNat - (intOf vi).toNat)
  case atStart => exact ⟨0, cv, rfl, by omega, H0, hide (Only.refl _ _)⟩
  case round =>
    clear H0 c0'
    obtain ⟨i, cv, rfl, hi, H, HB⟩ := hrel
    by_cases hlt : (i : Int) < n
    case neg =>
      have HE : Hid (i = n.toNat) := hide (by omega)
      go_wp2
      go_ret
      exact ⟨rfl, ⟨_, _, by rw [← HE.out]; exact H.out⟩, HB.out⟩
    have hii : (i : Int) ≤ 1000 := by omega
    obtain ⟨ao, cap, rfl⟩ := H.out.c.shapeM
    have c1 := (H.out.head.cell 0 rfl).1
    have f1 := (H.out.head.cell 0 rfl).2
    obtain ⟨R, hR⟩ : ∃ R, R = C ++ List.replicate i (0 : Int) := ⟨_, rfl⟩
    have HRL : Hid (R.length ≤ 901000) := hide (by rw [hR, List.length_append, List.length_replicate, ← HL.out]; omega)
    have HRN : Hid (C ++ List.replicate (i + 1) (0 : Int) = R ++ [0]) := by rw [hR, replicate_next i, List.append_assoc]; exact rfl
    rw [← hR] at H c1
    obtain ⟨m, hm⟩ : ∃ m, m = R.length := ⟨_, rfl⟩
    have HNE := hide hm
    rw [← hm] at H c1
    have c1' : wr.cell? ⟨p, 0, none⟩ = some (.slice ao m cap) := c1
    have HI := hide hlt
    have HSZ : Hid (∀ k, K k → k < wr.heap.size) := hide fun k hk => by have := HK.out k hk; have := HB.out.size; omega
    clear c1 hi hR hm
    go_wp2_with (at_builtin; refine wpList_append_intM _ rfl _ _ rfl _ _ rfl H.out.c 0 rfl (by have := HRL.out; omega) ?_)
    intro v2 w2 ho2 hg2 hl2
    obtain ⟨hr, hon, c2, f2⟩ := H.out.appC HSZ.out ⟨by decide, by decide⟩ ho2 hg2 hl2
    obtain ⟨a2, n2, p2, rfl⟩ : ∃ a n c, v2 = Value.slice a n c := by
      obtain ⟨a, c, h⟩ := ho2.shapeM
      exact ⟨a, _, c, h⟩
    have HR := hide hr
    have HON := hide (HB.out.trans hon fun k _ h => h)
    clear hr hon ho2 hg2 hl2 c1' f1
    go_wp2
    go_roundw
    case rel => exact ⟨i + 1, _, by go_num, by have := HI.out; omega, by rw [HRN.out]; exact HR, HON⟩
    case measure => have := HI.out; simp [intOf]; omega

theorem RefM.setS {K : Nat → Prop} {w : World} {p g n cap : Nat} {cv : Value} {C P : List Int} (h : RefM K w p cv (.slice (some ⟨g, 0, none⟩) n cap) C P) (j : Nat) {x : Int} (hx : I64 x) :
    RefM K (w.setCell ⟨g, j, none⟩ (.int .i64 x)) p cv (.slice (some ⟨g, 0, none⟩) n cap) C (P.set j x) := by
  have hgp : g ≠ p := h.neS g rfl
  have hset : ∀ k, k ≠ g → (w.setCell ⟨g, j, none⟩ (.int .i64 x)).heap[k]? = w.heap[k]? := fun k hk => Below.heap_setCell _ _ _ _ hk
  exact ⟨h.head.keep (hset p hgp.symm), ownsRow_keep h.c fun k hk => hset k (by rintro rfl; exact h.ne _ hk rfl), h.s.store j x, h.ne, h.ic, set_i64 h.ip hx j, h.kp, h.kc, h.ks⟩

theorem RefM.setC {K : Nat → Prop} {w : World} {p g n cap : Nat} {pv : Value} {C P : List Int} (h : RefM K w p (.slice (some ⟨g, 0, none⟩) n cap) pv C P) (j : Nat) {x : Int} (hx : I64 x) :
    RefM K (w.setCell ⟨g, j, none⟩ (.int .i64 x)) p (.slice (some ⟨g, 0, none⟩) n cap) pv (C.set j x) P := by
  have hgp : g ≠ p := h.neC g rfl
  have hset : ∀ k, k ≠ g → (w.setCell ⟨g, j, none⟩ (.int .i64 x)).heap[k]? = w.heap[k]? := fun k hk => Below.heap_setCell _ _ _ _ hk
  exact ⟨h.head.keep (hset p hgp.symm), h.c.store j x, ownsRow_keep h.s fun k hk => hset k (by rintro rfl; exact h.ne _ rfl hk), h.ne, set_i64 h.ic hx j, h.ip, h.kp, h.kc, h.ks⟩

set_option maxRecDepth 100000 in
set_option maxHeartbeats 1000000 in
theorem refIsM_any {K : Nat → Prop} {w : World} {p : Nat} {C P : List Int} (h : Rfm K w p C P) (q cell : Int) :
    Calls Try.prog 26 #[ptr p, .int .i64 q, .int .i64 cell] w fun e w' => e = .returned (.bool (inM cell C.length)) ∧ Rfm K w' p C (stepR P q) ∧ Only (fun k => ¬ K k) w w' := by
  obtain ⟨cv, pv, h⟩ := h
  obtain ⟨ao, cap, hcv⟩ := h.c.shapeM
  obtain ⟨bo, bap, hpv⟩ := h.s.shapeM
  have c0 := (h.head.cell 0 rfl).1
  have c1 := (h.head.cell 1 rfl).1
  rw [hcv] at c0
  rw [hpv] at c1
  have c0' : w.cell? ⟨p, 0, none⟩ = some (.slice ao C.length cap) := c0
  have c1' : w.cell? ⟨p, 1, none⟩ = some (.slice bo P.length bap) := c1
  obtain ⟨r, hr⟩ : ∃ r, r = inM cell C.length := ⟨_, rfl⟩
  have HR : Hid (r = decide (0 ≤ cell ∧ cell < (C.length : Int))) := hr
  rw [← hr]
  have hCm : (C.length : Int) ≤ 9223372036854775807 := by
    rcases h.c.2 with ⟨_, hn⟩ | ⟨g, cp, cur, hv, _, hg, hnc, hcm, _⟩
    · omega
    · unfold maxLen at hcm; omega
  have hend : ∀ b : Bool, (0 ≤ cell → b = decide (cell < (C.length : Int))) → (¬ 0 ≤ cell → b = false) → b = r := fun b h1 h2 => by
    rw [hr]
    unfold inM
    by_cases h0 : 0 ≤ cell
    · rw [h1 h0]; simp [h0]
    · rw [h2 h0]; simp [h0]
  have HEND := hide hend
  obtain ⟨LC, hLC⟩ : ∃ LC, LC = C.length := ⟨_, rfl⟩
  rw [← hLC] at c0' hCm HEND
  clear c0 c1 hr hend hcv
  by_cases hq : 0 ≤ q ∧ q < (P.length : Int)
  · obtain ⟨g, bap', hpv', hglt, cq, fq⟩ := h.s.form (j := q.toNat) (by omega)
    rw [hpv'] at hpv
    simp only [Value.slice.injEq, true_and] at hpv
    obtain ⟨rfl, rfl⟩ := hpv
    rw [hpv'] at h
    obtain ⟨X, hX⟩ : ∃ X, X = P.getD q.toNat 0 := ⟨_, rfl⟩
    rw [← hX] at cq
    have HE : Hid (stepR P q = P.set q.toNat (wrap64 (X + 1))) := hide (by unfold stepR; rw [if_pos (inM_true hq), hX])
    have hs := h.setS q.toNat (i64_wrap64 (X + 1))
    have HS := hide hs
    have HG : Hid (¬ K g) := hide (h.ks g rfl)
    have c0n : (w.setCell ⟨g, q.toNat, none⟩ (.int .i64 (wrap64 (X + 1)))).cell? ⟨p, 0, none⟩ = some (.slice ao LC cap) := by
      rw [World.cell?_of_block (a := ⟨p, 0, none⟩) (Below.heap_setCell _ _ _ _ (h.neS g rfl).symm)]
      exact c0'
    obtain ⟨LP, hLP⟩ : ∃ LP, LP = P.length := ⟨_, rfl⟩
    rw [← hLP] at c1' hq
    obtain ⟨Q, hQ⟩ : ∃ Q, Q = q.toNat := ⟨_, rfl⟩
    have hq1 := hq.1
    have hq2 := hq.2
    rw [← hQ] at cq fq c0n HS HE
    have hqq : q = (Q : Int) := by omega
    subst hqq
    have hQL : Q < LP := by omega
    clear h hs hX hLP hpv' hQ hq hLC c0' hglt hq1 hq2
    go_enter Try.func26, Try.ntmps26
    by_cases h0 : 0 ≤ cell
    · go_wp2
      go_ret
      exact ⟨ret_bool (HEND.out _ (fun _ => by simp) (fun h => by omega)), ⟨_, _, by rw [HE.out]; exact HS.out⟩, (Only.refl (fun k => ¬ K k) _).setCell Q (fun _ => HG.out) _⟩
    · go_wp2
      go_ret
      exact ⟨ret_bool (HEND.out _ (fun h => by omega) (fun _ => by simp)), ⟨_, _, by rw [HE.out]; exact HS.out⟩, (Only.refl (fun k => ¬ K k) _).setCell Q (fun _ => HG.out) _⟩
  · have HE : Hid (stepR P q = P) := hide (if_neg (by unfold inM; simp; omega))
    have HH := hide h
    obtain ⟨LP, hLP⟩ : ∃ LP, LP = P.length := ⟨_, rfl⟩
    rw [← hLP] at c1' hq
    clear h hLP hLC hpv
    go_enter Try.func26, Try.ntmps26
    by_cases hq0 : 0 ≤ q
    · have hq1 : ¬ q < (LP : Int) := fun h => hq ⟨hq0, h⟩
      clear hq
      by_cases h0 : 0 ≤ cell
      · go_wp2
        go_ret
        exact ⟨ret_bool (HEND.out _ (fun _ => by simp) (fun h => by omega)), ⟨_, _, by rw [HE.out]; exact HH.out⟩, Only.refl _ _⟩
      · go_wp2
        go_ret
        exact ⟨ret_bool (HEND.out _ (fun h => by omega) (fun _ => by simp)), ⟨_, _, by rw [HE.out]; exact HH.out⟩, Only.refl _ _⟩
    · clear hq
      by_cases h0 : 0 ≤ cell
      · go_wp2
        go_ret
        exact ⟨ret_bool (HEND.out _ (fun _ => by simp) (fun h => by omega)), ⟨_, _, by rw [HE.out]; exact HH.out⟩, Only.refl _ _⟩
      · go_wp2
        go_ret
        exact ⟨ret_bool (HEND.out _ (fun h => by omega) (fun _ => by simp)), ⟨_, _, by rw [HE.out]; exact HH.out⟩, Only.refl _ _⟩

end Go.Proofs.Ytekkmflfhkdkoaa
