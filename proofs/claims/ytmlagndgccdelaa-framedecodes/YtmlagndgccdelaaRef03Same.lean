/- Contract of ferrymanref03.Same. -/
import Derived.Test.YtmlagndgccdelaaRef03List
namespace Go.Proofs.Ytmlagndgccdelaa
open Go.RowKit

theorem getD_ext {α : Type} (d : α) (A B : List α) (hl : A.length = B.length) (h : ∀ j, j < A.length → A.getD j d = B.getD j d) : A = B := by
  apply List.ext_getElem hl
  intro j h1 h2
  have := h j h1
  simpa [List.getD, h1, h2] using this

set_option maxRecDepth 100000 in
set_option maxHeartbeats 1000000 in
theorem refSame_any (va : Value) (A : List (List UInt8)) (vb : Value) (B : List (List UInt8)) (w : World) (hra : RdL w va A) (hrb : RdL w vb B) :
    Calls Try.prog 20 #[va, vb] w fun e w' => e = .returned (.bool (decide (A = B))) ∧ Below w.heap.size w w' := by
  have HRA := hide hra
  have HRB := hide hrb
  obtain ⟨aa, ca, rfl, hla, hma, _, hca⟩ := hra
  obtain ⟨ab, cb, rfl, hlb, hmb, _, hcb⟩ := hrb
  have hmla : (A.length : Int) ≤ 9223372036854775807 := by unfold maxLen at hma; omega
  have hmlb : (B.length : Int) ≤ 9223372036854775807 := by unfold maxLen at hmb; omega
  have HCA := hide hca
  have HCB := hide hcb
  clear hca hcb hma hmb
  by_cases hl : (A.length : Int) = B.length
  · have hlq : ((A.length : Int) != (B.length : Int)) = false := by rw [bne_eq_false_iff_eq]; exact hl
    go_enter Try.func20, Try.ntmps20
    go_wp2
    go_loopw [5] (fun i wr => ∃ k : Nat, k ≤ A.length ∧ i = .int .i64 (k : Int) ∧ Hid (∀ j, j < k → A.getD j [] = B.getD j []) ∧ Hid (Below w.heap.size w wr)) (fun i _ => A.length - (intOf i).toNat)
    case atStart => exact ⟨0, Nat.zero_le _, rfl, fun j hj => by omega, Below.refl _ _⟩
    case round =>
      obtain ⟨k, hk, rfl, hall, hb⟩ := hrel
      by_cases hlt : k < A.length
      · rcases HCA.out with hn | ⟨b1, o1, rfl, hc1⟩
        · subst hn; simp at hlt
        rcases HCB.out with hn | ⟨b2, o2, rfl, hc2⟩
        · have e0 : B.length = 0 := by rw [hn]; rfl
          omega
        obtain ⟨x, hx, hrx⟩ := hc1 k hlt
        obtain ⟨y, hy, hry⟩ := hc2 k (by omega)
        clear hc1 hc2
        have hx2 : ∀ w', Below w.heap.size w w' → w'.cell? ⟨b1, o1 + k, none⟩ = some x := fun w' h => by
          rw [h.cell (World.block_lt_of_cell? w ⟨b1, o1 + k, none⟩ hx)]; exact hx
        have hy2 : ∀ w', Below w.heap.size w w' → w'.cell? ⟨b2, o2 + k, none⟩ = some y := fun w' h => by
          rw [h.cell (World.block_lt_of_cell? w ⟨b2, o2 + k, none⟩ hy)]; exact hy
        have hx3 : ∀ w', Below w.heap.size w w' → (convert 22 9 x).run Try.prog w' = .ok (.string (bs (A.getD k []))) w' := fun w' h => (hrx.below h (Nat.le_refl _)).str
        have hy3 : ∀ w', Below w.heap.size w w' → (convert 22 9 y).run Try.prog w' = .ok (.string (bs (B.getD k []))) w' := fun w' h => (hry.below h (Nat.le_refl _)).str
        have HK : Hid (∀ w', Below w.heap.size w w' → (w'.cell? ⟨b1, o1 + k, none⟩ = some x ∧ w'.cell? ⟨b2, o2 + k, none⟩ = some y ∧ (convert 22 9 x).run Try.prog w' = .ok (.string (bs (A.getD k []))) w' ∧ (convert 22 9 y).run Try.prog w' = .ok (.string (bs (B.getD k []))) w')) :=
          fun w' h => ⟨hx2 w' h, hy2 w' h, hx3 w' h, hy3 w' h⟩
        clear hx hrx hy hry hx2 hy2 hx3 hy3
        have HQ := hide (show ((bs (A.getD k [])).toList == (bs (B.getD k [])).toList) = decide (A.getD k [] = B.getD k []) by
          rw [bs_eq]
          rw [Bool.eq_iff_iff, beq_iff_eq, decide_eq_true_iff])
        obtain ⟨P, hP⟩ : ∃ P, P = A.getD k [] := ⟨_, rfl⟩
        obtain ⟨Q, hQ⟩ : ∃ Q, Q = B.getD k [] := ⟨_, rfl⟩
        rw [← hP, ← hQ] at HK HQ
        have HP := hide hP
        have HQQ := hide hQ
        clear hP hQ
        go_upto_region 6 with fail
        go_cut [27] (fun x wc => x = .bool (!decide (P = Q)) ∧ Hid (Below w.heap.size w wc))
        case first =>
          have HBd : Hid (Below w.heap.size w wr.drew) := hb.out.drew
          go_region_held (fun w' => w'.cell? ⟨b1, o1 + k, none⟩ = some x ∧ w'.cell? ⟨b2, o2 + k, none⟩ = some y ∧ (convert 22 9 x).run Try.prog w' = .ok (.string (bs P)) w' ∧ (convert 22 9 y).run Try.prog w' = .ok (.string (bs Q)) w')
            (first | exact HK.out _ HBd.out | exact HK.out _ hb.out) (fail)
          all_goals (go_wp2_with fail; go_meet; refine ⟨?_, HBd⟩; rw [← HQ.out])
        case rest =>
        obtain ⟨rfl, HB6⟩ := hcut
        by_cases he : P = Q
        · have hd : decide (P = Q) = true := decide_eq_true he
          have HE := hide he
          rw [hd]
          clear he hd HK HQ
          go_wp2
          go_roundw
          case rel =>
            refine ⟨k + 1, by omega, by go_num, fun j hj => ?_, HB6⟩
            by_cases e : j = k
            · rw [e, ← HP.out, ← HQQ.out]; exact HE.out
            · exact hall.out j (by omega)
          case measure => simp [intOf]; omega
        · have hd : decide (P = Q) = false := decide_eq_false he
          have HE := hide he
          rw [hd]
          clear he hd HK HQ
          go_wp2
          go_ret
          refine ⟨ret_bool ?_, HB6.out⟩
          symm
          refine decide_eq_false fun e => HE.out ?_
          rw [HP.out, HQQ.out, e]
      · go_wp2
        go_ret
        refine ⟨ret_bool ?_, hb.out⟩
        symm
        exact decide_eq_true (getD_ext [] A B (by omega) (fun j hj => hall.out j (by omega)))
  · have hlq : ((A.length : Int) != (B.length : Int)) = true := by rw [bne_iff_ne]; exact hl
    go_enter Try.func20, Try.ntmps20
    go_wp2
    go_ret
    refine ⟨ret_bool ?_, Below.refl _ _⟩
    symm
    refine decide_eq_false fun e => hl ?_
    rw [e]

end Go.Proofs.Ytmlagndgccdelaa
