/- Contracts of objs: Fits, Same, Start, own, seal. -/
import Derived.Test.YtedfacbngefhnaaObjsMayC
namespace Go.Proofs.Ytedfacbngefhnaa
open Go.RowKit

set_option maxRecDepth 100000 in
set_option maxHeartbeats 1000000 in
theorem fits_any (o : Opn) (w : World) :
    Calls Try.prog 31 #[opV o] w fun e w' => e = .returned (.bool (decide (FitsO o))) ∧ Below w.heap.size w w' := by
  obtain ⟨code, a, b⟩ := o
  have HW := hide' (fun p q W => within_any p q W)
  have HS := hide' (fun n l2 h2 a2 b2 W p1 p2 => is_any n l2 h2 a2 b2 W p1 p2)
  have HM : Hid (FitsO ⟨code, a, b⟩ ↔ (0 ≤ code ∧ code ≤ 10) ∧ (-1099511627776 ≤ a ∧ a ≤ 1099511627776) ∧ (-1099511627776 ≤ b ∧ b ≤ 1099511627776)) :=
    ⟨fun h => ⟨⟨h.1, h.2.1⟩, ⟨h.2.2.1, h.2.2.2.1⟩, h.2.2.2.2⟩, fun h => ⟨h.1.1, h.1.2, h.2.1.1, h.2.1.2, h.2.2⟩⟩
  obtain ⟨R, hR⟩ : ∃ R, R = decide (FitsO ⟨code, a, b⟩) := ⟨_, rfl⟩
  rw [← hR]
  have HR := hide' hR
  have HBA : Hid (∀ x, Below w.heap.size w (w.alloc x)) := fun x => (Below.refl _ _).alloc (Nat.le_refl _) x
  clear hR
  have go : ∀ t1 t2 t3, Hid (decide (0 ≤ code ∧ code ≤ 10) = t1) → Hid (decide (-1099511627776 ≤ a ∧ a ≤ 1099511627776) = t2) → Hid (decide (-1099511627776 ≤ b ∧ b ≤ 1099511627776) = t3) → Hid ((t1 && t2 && t3) = R) →
      Calls Try.prog 31 #[.agg #[.int .i64 code, .int .i64 a, .int .i64 b]] w fun e w' => e = .returned (.bool R) ∧ Below w.heap.size w w' := by
    intro t1 t2 t3 H1 H2 H3 HF
    go_enter Try.func31, Try.ntmps31
    go_wp2_with fail
    refine (HW.out _ _ _).mono ?_
    rintro e W1 ⟨a1, b1, rfl, hc1, hc2, hb1⟩
    have HB1 := hide' ((HBA.out _).trans (hb1.mono (HBA.out _).size))
    have HX1 := hide' ((hb1.block w.heap.size (by simp)).trans (heap_alloc_new w _))
    have HC1 := hide' hc1
    have HC2 := hide' hc2
    clear hb1 hc1 hc2
    go_wp2_with fail
    refine (HW.out _ _ _).mono ?_
    rintro e W2 ⟨a2, b2, rfl, hd1, hd2, hb2⟩
    have hx := (hb2.block w.heap.size (Array.getElem?_eq_some_iff.1 HX1.out).1).trans HX1.out
    have q0 := cell_of_row W2 w.heap.size 0 _ _ _ hx
    have q1 := cell_of_row W2 w.heap.size 1 _ _ _ hx
    have q2 := cell_of_row W2 w.heap.size 2 _ _ _ hx
    have hc1 := (hb2.cell (World.block_lt_of_cell? W1 ⟨a1, 0, none⟩ HC1.out)).trans HC1.out
    have hc2 := (hb2.cell (World.block_lt_of_cell? W1 ⟨b1, 0, none⟩ HC2.out)).trans HC2.out
    have HB2 := hide' (HB1.out.trans (hb2.mono HB1.out.size))
    have HC1' := hide' hc1
    have HC2' := hide' hc2
    have HD1' := hide' hd1
    have HD2' := hide' hd2
    clear hb2 hx HX1 HC1 HC2 hc1 hc2 hd1 hd2
    go_wp2_with fail
    refine (HS.out _ _ _ _ _ _ HC1'.out HC2'.out).mono ?_
    rintro e W3 ⟨rfl, rfl⟩
    rw [H1.out]
    cases t1
    · go_wp2
      go_ret
      exact ⟨ret_b (by rw [← HF.out]; rfl), HB2.out⟩
    · go_wp2_with fail
      refine (HS.out _ _ _ _ _ _ HD1'.out HD2'.out).mono ?_
      rintro e W3 ⟨rfl, rfl⟩
      rw [H2.out]
      cases t2
      · go_wp2
        go_ret
        exact ⟨ret_b (by rw [← HF.out]; rfl), HB2.out⟩
      · go_wp2_with fail
        refine (HS.out _ _ _ _ _ _ HD1'.out HD2'.out).mono ?_
        rintro e W3 ⟨rfl, rfl⟩
        rw [H3.out]
        go_wp2
        go_ret
        exact ⟨ret_b (by rw [← HF.out]; rfl), HB2.out⟩
  refine go _ _ _ rfl rfl rfl (hide' ?_)
  rw [HR.out, ← Bool.decide_and, ← Bool.decide_and]
  exact decide_eq_decide.2 ⟨fun h => HM.out.2 ⟨h.1.1, h.1.2, h.2⟩, fun h => ⟨⟨(HM.out.1 h).1, (HM.out.1 h).2.1⟩, (HM.out.1 h).2.2⟩⟩

end Go.Proofs.Ytedfacbngefhnaa
