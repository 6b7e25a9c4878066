/- Contracts of ferrymanlaw04: Ints; a fold's answer, opened. -/
import Derived.Test.YtclankoffcfkfaaObjsAwake
namespace Go.Proofs.Ytclankoffcfkfaa
open Go.RowKit

theorem Folded.open {w w' : World} {k g : Int} {L' O : List Int} {s : Bool} {e : Ending} (h : Folded w (⟨k, L', s, g⟩, O) e w') :
    ∃ ao cap oo ocap, e = .returned (.tuple #[.agg #[.int .i64 k, .slice ao L'.length cap, .bool s, .int .i64 g], .slice oo O.length ocap]) ∧ RdI w' (.slice ao L'.length cap) L' ∧ I64 k ∧ I64 g ∧ RdI w' (.slice oo O.length ocap) O ∧ Below w.heap.size w w' := by
  obtain ⟨v', vo, he, hr, hk, hg, ho, hb⟩ := h
  have hr' := hr
  have ho' := ho
  obtain ⟨ao, cap, rfl, _⟩ := hr
  obtain ⟨oo, ocap, rfl, _⟩ := ho
  exact ⟨ao, cap, oo, ocap, he, hr', hk, hg, ho', hb⟩

set_option maxRecDepth 100000 in
set_option maxHeartbeats 1000000 in
theorem ints_any (va : Value) (A : List Int) (vb : Value) (B : List Int) (w : World) (ha : RdI w va A) (hb : RdI w vb B) :
    Calls Try.prog 23 #[va, vb] w fun e w' => e = .returned (.bool (decide (A = B))) ∧ Below w.heap.size w w' := by
  obtain ⟨ao, cap, rfl, hlc, hcm, -, -, hao⟩ := ha
  obtain ⟨bo, bcap, rfl, -, -, -, -, hbo⟩ := hb
  have hml : (A.length : Int) ≤ 9223372036854775807 := by unfold maxLen at hcm; omega
  have HAO := hide' hao
  have HBO := hide' hbo
  clear hao hbo hcm hlc
  by_cases hl : A.length = B.length
  · have hlq : ((A.length : Int) != (B.length : Int)) = false := by rw [bne_eq_false_iff_eq]; omega
    have HL := hide' hl
    clear hl
    go_enter Try.func23, Try.ntmps23
    go_wp2
    go_loopw [5] (fun i wr => ∃ k : Nat, i = .int .i64 k ∧ k ≤ A.length ∧ Hid (∀ j, j < k → A.getD j 0 = B.getD j 0) ∧ Hid (Below w.heap.size w wr)) (fun i _ => A.length - (intOf i).toNat)
    case atStart => exact ⟨0, rfl, Nat.zero_le _, fun j hj => by omega, Below.refl _ _⟩
    case round =>
      obtain ⟨k, rfl, hkl, hall, hb⟩ := hrel
      by_cases hlt : k < A.length
      · rcases HAO.out with hao | ⟨b1, o1, rfl, hc1⟩
        · subst hao; simp at hlt
        rcases HBO.out with hao | ⟨b2, o2, rfl, hc2⟩
        · have e0 : B.length = 0 := by rw [hao]; rfl
          have := HL.out
          omega
        have hlb : k < B.length := by have := HL.out; omega
        have hc0 : wr.cell? ⟨b1, o1 + k, none⟩ = some (.int .i64 (A.getD k 0)) := by
          rw [hb.out.cell (World.block_lt_of_cell? w ⟨b1, o1 + k, none⟩ (hc1 k hlt))]; exact hc1 k hlt
        have hc0' : wr.cell? ⟨b2, o2 + k, none⟩ = some (.int .i64 (B.getD k 0)) := by
          rw [hb.out.cell (World.block_lt_of_cell? w ⟨b2, o2 + k, none⟩ (hc2 k hlb))]; exact hc2 k hlb
        obtain ⟨y, hy⟩ : ∃ y, y = A.getD k 0 := ⟨_, rfl⟩
        obtain ⟨z, hz⟩ : ∃ z, z = B.getD k 0 := ⟨_, rfl⟩
        rw [← hy] at hc0
        rw [← hz] at hc0'
        have HY := hide' hy
        have HZ := hide' hz
        have hlb' : (k : Int) < (B.length : Int) := by omega
        clear hc1 hc2 hy hz
        by_cases hq : y = z
        · have hqb : (y != z) = false := by rw [bne_eq_false_iff_eq]; exact hq
          have HQ := hide' hq
          clear hq
          go_wp2
          go_quiet (fail)
          go_wp2
          go_roundw
          case rel =>
            refine ⟨k + 1, by go_num, by omega, fun j hj => ?_, below_drewN hb.out _⟩
            by_cases e : j = k
            · rw [e, ← HY.out, ← HZ.out]; exact HQ.out
            · exact hall.out j (by omega)
          case measure => simp [intOf]; omega
        · have hqb : (y != z) = true := by rw [bne_iff_ne]; exact hq
          have HQ := hide' hq
          clear hq
          go_wp2
          go_quiet (fail)
          go_wp2
          go_ret
          refine ⟨ret_b (decide_eq_false (fun h => HQ.out ?_)).symm, below_drewN hb.out _⟩
          rw [HY.out, HZ.out, h]
      · go_wp2
        go_ret
        refine ⟨ret_b (decide_eq_true (getD_ext_int A B HL.out (fun j hj => hall.out j (by omega)))).symm, hb.out⟩
  · have hlq : ((A.length : Int) != (B.length : Int)) = true := by rw [bne_iff_ne]; omega
    have HL := hide' hl
    clear hl
    go_enter Try.func23, Try.ntmps23
    go_wp2
    go_ret
    exact ⟨ret_b (decide_eq_false (fun h => HL.out (by rw [h]))).symm, Below.refl _ _⟩

end Go.Proofs.Ytclankoffcfkfaa
