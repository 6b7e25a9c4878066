/- Contracts of ferrymanref04: Fits, Same. -/
import Derived.Test.YtedfacbngefhnaaRef04C
import Derived.Test.YtedfacbngefhnaaPack3
namespace Go.Proofs.Ytedfacbngefhnaa
open Go.RowKit

set_option maxRecDepth 100000 in
set_option maxHeartbeats 2000000 in
theorem refSameS_any (va : Value) (a : St) (vb : Value) (b : St) (w : World) (ha : StV w va a) (hb : StV w vb b) :
    Calls Try.prog 18 #[va, vb] w fun e w' => e = .returned (.bool (decide (SameS a b))) ∧ Below w.heap.size w w' := by
  obtain ⟨vla, rfl, hra, _, _⟩ := ha
  obtain ⟨vlb, rfl, hrb, _, _⟩ := hb
  have HBA : Hid (∀ x y, Below w.heap.size w ((w.alloc x).alloc y)) := fun x y => ((Below.refl _ _).alloc (Nat.le_refl _) x).alloc (by simp) y
  obtain ⟨ao, cap, rfl, hlc, hcm, hn0, hi, hao⟩ := hra
  obtain ⟨bo, bcap, rfl, hlc', hcm', hn0', hi', hbo⟩ := hrb
  have hml : (a.L.length : Int) ≤ 9223372036854775807 := by unfold maxLen at hcm; omega
  have HAO := hide' hao
  have HBO := hide' hbo
  clear hao hbo hlc hcm hlc' hcm' hi hi' hn0 hn0'
  have HDF : Hid (SameS a b ↔ a.kind = b.kind ∧ a.shut = b.shut ∧ a.eng = b.eng ∧ a.L = b.L) := Iff.rfl
  obtain ⟨ka, la, sa, ga⟩ := a
  obtain ⟨kb, lb, sb, gb⟩ := b
  simp only at *
  have hc : ((ka != kb) = true) ∨ ((ka != kb) = false ∧ (sa != sb) = true) ∨ ((ka != kb) = false ∧ (sa != sb) = false ∧ (ga != gb) = true) ∨ ((ka != kb) = false ∧ (sa != sb) = false ∧ (ga != gb) = false ∧ ((la.length : Int) != (lb.length : Int)) = true) ∨ ((ka != kb) = false ∧ (sa != sb) = false ∧ (ga != gb) = false ∧ ((la.length : Int) != (lb.length : Int)) = false) := by
    cases (ka != kb) <;> cases (sa != sb) <;> cases (ga != gb) <;> cases ((la.length : Int) != (lb.length : Int)) <;> simp
  rcases hc with h1 | ⟨h1, h2⟩ | ⟨h1, h2, h3⟩ | ⟨h1, h2, h3, h4⟩ | ⟨h1, h2, h3, h4⟩
  · have HD : Hid (decide (SameS ⟨ka, la, sa, ga⟩ ⟨kb, lb, sb, gb⟩) = false) := decide_eq_false (fun h => by rw [bne_iff_ne] at h1; exact h1 (HDF.out.1 h).1)
    go_enter Try.func18, Try.ntmps18
    go_wp2
    go_ret
    exact ⟨ret_b HD.out.symm, HBA.out _ _⟩
  · have HD : Hid (decide (SameS ⟨ka, la, sa, ga⟩ ⟨kb, lb, sb, gb⟩) = false) := decide_eq_false (fun h => by rw [bne_iff_ne] at h2; exact h2 (HDF.out.1 h).2.1)
    have h2' : (sa = true ∧ sb = false) ∨ (sa = false ∧ sb = true) := by
      cases sa <;> cases sb <;> simp at h2 ⊢
    clear h2
    rcases h2' with ⟨rfl, rfl⟩ | ⟨rfl, rfl⟩
    all_goals
      go_enter Try.func18, Try.ntmps18
      go_wp2
      go_ret
      exact ⟨ret_b HD.out.symm, HBA.out _ _⟩
  · have HD : Hid (decide (SameS ⟨ka, la, sa, ga⟩ ⟨kb, lb, sb, gb⟩) = false) := decide_eq_false (fun h => by rw [bne_iff_ne] at h3; exact h3 (HDF.out.1 h).2.2.1)
    obtain rfl : sa = sb := by simpa using h2
    clear h2
    cases sa
    all_goals
      go_enter Try.func18, Try.ntmps18
      go_wp2
      go_ret
      exact ⟨ret_b HD.out.symm, HBA.out _ _⟩
  · have HD : Hid (decide (SameS ⟨ka, la, sa, ga⟩ ⟨kb, lb, sb, gb⟩) = false) := decide_eq_false (fun h => by rw [bne_iff_ne] at h4; exact h4 (by rw [(HDF.out.1 h).2.2.2]))
    obtain rfl : sa = sb := by simpa using h2
    clear h2
    cases sa
    all_goals
      go_enter Try.func18, Try.ntmps18
      go_wp2
      go_ret
      exact ⟨ret_b HD.out.symm, HBA.out _ _⟩
  · have HE : Hid (ka = kb ∧ sa = sb ∧ ga = gb ∧ la.length = lb.length) := by
      rw [bne_eq_false_iff_eq] at h1 h2 h3 h4
      exact ⟨h1, h2, h3, by omega⟩
    obtain rfl : sa = sb := HE.out.2.1
    clear h2
    go_enter Try.func18, Try.ntmps18
    go_wp2
    go_loopw [5] (fun i wr => ∃ k : Nat, i = .int .i64 k ∧ k ≤ la.length ∧ Hid (∀ j, j < k → la.getD j 0 = lb.getD j 0) ∧ Hid (wr.cell? ⟨w.heap.size, 1, none⟩ = some (.slice ao la.length cap)) ∧ Hid (wr.cell? ⟨w.heap.size + 1, 1, none⟩ = some (.slice bo lb.length bcap)) ∧ Hid (Below w.heap.size w wr)) (fun i _ => la.length - (intOf i).toNat)
    case atStart =>
      refine ⟨0, rfl, by omega, fun j hj => by omega, ?_, ?_, HBA.out _ _⟩
      · show World.cell? _ _ = _
        simp
      · show World.cell? _ _ = _
        simp
    case round =>
      obtain ⟨k, rfl, hkl, hall, hbox, hbox2, hb⟩ := hrel
      have hbx := hbox.out
      have hbx2 := hbox2.out
      by_cases hlt : k < la.length
      · rcases HAO.out with hao | ⟨b1, o1, rfl, hc1⟩
        · subst hao; simp at hlt
        rcases HBO.out with hao | ⟨b2, o2, rfl, hc2⟩
        · have e0 : lb.length = 0 := by rw [hao]; rfl
          have := HE.out.2.2.2
          omega
        have hc0 : wr.cell? ⟨b1, o1 + k, none⟩ = some (.int .i64 (la.getD k 0)) := by
          rw [hb.out.cell (World.block_lt_of_cell? w ⟨b1, o1 + k, none⟩ (hc1 k hlt))]; exact hc1 k hlt
        have hc0' : wr.cell? ⟨b2, o2 + k, none⟩ = some (.int .i64 (lb.getD k 0)) := by
          rw [hb.out.cell (World.block_lt_of_cell? w ⟨b2, o2 + k, none⟩ (hc2 k (by have := HE.out.2.2.2; omega)))]; exact hc2 k (by have := HE.out.2.2.2; omega)
        obtain ⟨y, hy⟩ : ∃ y, y = la.getD k 0 := ⟨_, rfl⟩
        obtain ⟨z, hz⟩ : ∃ z, z = lb.getD k 0 := ⟨_, rfl⟩
        rw [← hy] at hc0
        rw [← hz] at hc0'
        have HY := hide' hy
        have HZ := hide' hz
        have hlb : (k : Int) < (lb.length : Int) := by have := HE.out.2.2.2; omega
        clear hc1 hc2 hy hz
        by_cases hq : y = z
        · have hqb : (y != z) = false := by rw [bne_eq_false_iff_eq]; exact hq
          have HQ := hide' hq
          clear hq
          go_wp2
          go_quiet (fail)
          go_wp2
          go_roundw
          case rel =>
            refine ⟨k + 1, by go_num, by omega, fun j hj => ?_, hbx, hbx2, below_drewN hb.out _⟩
            by_cases e : j = k
            · rw [e, ← HY.out, ← HZ.out]; exact HQ.out
            · exact hall.out j (by omega)
          case measure => simp [intOf]; omega
        · have hqb : (y != z) = true := by rw [bne_iff_ne]; exact hq
          have HQ := hide' hq
          clear hq
          go_wp2
          go_quiet (fail)
          go_wp2
          go_ret
          refine ⟨ret_b (decide_eq_false (fun h => HQ.out ?_)).symm, below_drewN hb.out _⟩
          rw [HY.out, HZ.out, (HDF.out.1 h).2.2.2]
      · go_wp2
        go_ret
        refine ⟨ret_b (decide_eq_true (HDF.out.2 ⟨HE.out.1, HE.out.2.1, HE.out.2.2.1, getD_ext_int la lb HE.out.2.2.2 (fun j hj => hall.out j (by omega))⟩)).symm, hb.out⟩

end Go.Proofs.Ytedfacbngefhnaa
