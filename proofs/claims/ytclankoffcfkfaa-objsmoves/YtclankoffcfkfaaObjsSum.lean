/- Contract of ferrymanlaw04: sum. -/
import Derived.Test.YtclankoffcfkfaaObjsInts
namespace Go.Proofs.Ytclankoffcfkfaa
open Go.RowKit

set_option maxRecDepth 100000 in
set_option maxHeartbeats 1000000 in
theorem sumO_any (v : Value) (s : St) (w : World) (hs : StV w v s) (he : s.L.length % 2 = 0) (h64 : s.L.length ≤ 128) (hbd : ∀ x ∈ s.L, 0 ≤ x ∧ x ≤ 1099511627776) :
    Calls Try.prog 24 #[v] w fun e w' => e = .returned (.int .i64 (sumP s.L)) ∧ Below w.heap.size w w' := by
  obtain ⟨vl, rfl, hr, -, -⟩ := hs
  obtain ⟨kind, l, shut, g⟩ := s
  simp only at *
  have HR := hide' hr
  obtain ⟨ao, cap, rfl, -, -, -, -, hao⟩ := hr
  have HAO := hide' hao
  have HBD := hide' hbd
  have H1 : Hid (∀ x, Below w.heap.size w (w.alloc x)) := fun x => (Below.refl _ _).alloc (Nat.le_refl _) x
  clear hao hbd
  go_enter Try.func24, Try.ntmps24
  go_wp2
  go_loop [3, 4] (fun n i => ∃ (j : Nat) (A : Int), n = .int .i64 A ∧ i = .int .i64 ((2 * j + 1 : Nat) : Int) ∧ 2 * j ≤ l.length ∧ 0 ≤ A ∧ A ≤ (j : Int) * 1099511627776 ∧ Hid (sumP l = A + sumP (l.drop (2 * j)))) (fun _ i => l.length + 2 - (intOf i).toNat)
  case atStart => exact ⟨0, 0, rfl, rfl, by omega, by omega, by omega, hide' (by simp)⟩
  case round =>
    obtain ⟨j, A, rfl, rfl, hj, hA0, hA1, hsum⟩ := hrel
    by_cases hlt : 2 * j < l.length
    · rcases HAO.out with hao | ⟨b, off, rfl, hc⟩
      · subst hao; simp at hlt
      have hck : ∀ X, (w.alloc X).cell? ⟨b, off + (2 * j + 1), none⟩ = some (.int .i64 (l.getD (2 * j + 1) 0)) := fun X => by
        have h := hc (2 * j + 1) (by omega)
        rw [(H1.out X).cell (p := ⟨b, off + (2 * j + 1), none⟩) (World.block_lt_of_cell? w ⟨b, off + (2 * j + 1), none⟩ h)]
        exact h
      have hm := HBD.out _ (show l.getD (2 * j + 1) 0 ∈ l by simp [List.getD, show 2 * j + 1 < l.length by omega])
      have HS : Hid (sumP (l.drop (2 * j)) = l.getD (2 * j + 1) 0 + sumP (l.drop (2 * (j + 1)))) := by
        rw [drop_pair l (2 * j) (by omega)]
        exact rfl
      generalize l.getD (2 * j + 1) 0 = y at *
      have hj64 : (j : Int) ≤ 64 := by omega
      clear hc
      obtain ⟨M, hM⟩ : ∃ M : Nat, M = 2 * j + 1 := ⟨_, rfl⟩
      rw [← hM] at hck ⊢
      have hMl : (M : Int) < (l.length : Int) := by omega
      have HM := hide' hM
      clear hM
      go_wp2
      go_round
      case rel =>
        have eM := HM.out
        refine ⟨j + 1, A + y, rfl, by rw [eM]; go_num, by omega, by omega, by omega, hide' ?_⟩
        rw [hsum.out, HS.out]
        omega
      case measure =>
        have eM := HM.out
        simp [intOf]
        omega
    · have e0 : l.drop (2 * j) = [] := List.drop_of_length_le (by omega)
      have HE : Hid (sumP l = A) := hide' (by rw [hsum.out, e0]; simp [sumP])
      have hMl : ¬ (((2 * j + 1 : Nat) : Int) < (l.length : Int)) := by omega
      generalize 2 * j + 1 = M at *
      clear e0 hsum
      go_wp2
      go_ret
      exact ⟨ret_i HE.out.symm, H1.out _⟩

end Go.Proofs.Ytclankoffcfkfaa
