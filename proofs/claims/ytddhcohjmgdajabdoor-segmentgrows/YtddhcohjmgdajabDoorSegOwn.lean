/- Contracts of segment: heading.segment, read, Decode. -/
import Derived.Test.YtddhcohjmgdajabDoorSegOwnH
import Derived.Deep.RegionHeld2
namespace Go.Proofs.YtddhcohjmgdajabDoor
open Go.RowKit

set_option maxRecDepth 100000 in
theorem headSeg_any (v k f : Int) (a : Option Addr) (n c : Nat) (w : World) :
    Calls Tryd.prog 23 #[.agg #[.int .i64 v, .int .i64 k, .int .i64 f], .slice a n c] w fun e w' => e = .returned (.agg #[.int .i64 k, .int .i64 f, .slice a n c]) ∧ Below w.heap.size w w' := by
  have HB2 : Hid (∀ X Y, Below w.heap.size w ((w.alloc X).alloc Y)) := fun X Y => Below.allocs (Below.allocs (Below.refl _ _) X) Y
  go_enter Tryd.func23, Tryd.ntmps23
  go_wp2
  refine bodyPost_ret (v := .agg #[.int .i64 k, .int .i64 f, .slice a n c]) (by simp [results, Tryd.results23, go_sem]) rfl ⟨rfl, ?_⟩
  exact HB2.out _ _

/-- A cut of slices of bytes at both ends. -/
theorem cutL2_at (w : World) (ao : Option Addr) (L : List (List UInt8)) (m cap : Nat) (hm : m = L.length) (hr : RdL w (.slice ao m cap) L) (i n : Nat) (hn : i + n ≤ L.length) :
    ∃ a c, RdL w (.slice a ((L.drop i).take n).length c) ((L.drop i).take n) ∧ ∀ I J : Int, I = (i : Int) → J = ((i + n : Nat) : Int) → ∀ W, (Instr.sliceAt 45 (.slice ao m cap) (some (.int .i64 I)) (some (.int .i64 J)) none).run Tryd.prog W = .ok (.slice a ((L.drop i).take n).length c) W := by
  subst hm
  have hlc : L.length ≤ cap := by
    obtain ⟨a, c, e, h, -⟩ := hr
    simp only [Value.slice.injEq] at e
    omega
  have h := hr.mid i (i + n) cap (by omega) (by omega) (by omega) (Nat.le_refl _)
  have e1 : i + n - i = n := by omega
  have e2 : ((L.drop i).take n).length = n := by rw [List.length_take, List.length_drop]; omega
  rw [e1] at h
  unfold sliced at h
  rw [e1] at h
  refine ⟨_, _, by rw [e2]; exact h, fun I J hI hJ W => ?_⟩
  subst hI hJ
  rw [run_sliceAt_slice W 45 _ _ _ _ under_rows, run_slice_lh W 45 ao L.length cap under_rows .i64 .i64 (i : Int) ((i + n : Nat) : Int) (by omega) (by omega) (by omega), elem_rows, size_bytes]
  simp only [Int.toNat_natCast, e2]
  unfold sliced
  rw [e1]
  rfl

theorem mid_parts {L : List (List UInt8)} {n : Nat} (hn : L.length = n + 1) (h1 : 1 ≤ n) : (L.drop 1).take (n - 1) = L.tail.dropLast ∧ L.take n = L.headD [] :: L.tail.dropLast ∧ L.getLastD [] = L.getD n [] ∧ L.getD 0 [] = L.headD [] := by
  have e : L.length - 1 = n := by omega
  obtain ⟨e1, e2, e3, e4⟩ := tail_init (L := L) (by omega)
  rw [e] at e1 e2 e3 e4
  refine ⟨?_, ?_, e3, by cases L <;> rfl⟩
  · rw [List.drop_one, List.dropLast_eq_take, List.length_tail]
    congr 1
    omega
  · have hne : L.take n ≠ [] := fun h => by
      have := congrArg List.length h
      rw [List.length_take, List.length_nil] at this
      omega
    cases hx : L.take n with
    | nil => exact absurd hx hne
    | cons x t =>
      rw [hx] at e1 e2
      rw [← e1, ← e2]
      rfl

/-- Records that are read stay while a segment's box is written: they do not lie in it. -/
theorem RdR.bsg {w : World} {v : Value} {l : List Rec} (h : RdR w v l) {R : Nat} {cs : Array Value} (hb : Bsg w R cs) (hs : cs.size = 3) (x0 x1 x2 : Value) : RdR (((w.setCell ⟨R, 0, none⟩ x0).setCell ⟨R, 1, none⟩ x1).setCell ⟨R, 2, none⟩ x2) v l := by
  obtain ⟨ao, cap, h1, h2, h3, hn, hw, h4⟩ := h
  refine ⟨ao, cap, h1, h2, h3, hn, hw, ?_⟩
  rcases h4 with h4 | ⟨c, off, h5, h6⟩
  · exact .inl h4
  · refine .inr ⟨c, off, h5, fun j hj => ?_⟩
    have hc := h6 j hj
    have hne : c ≠ R := fun e => by
      obtain ⟨_, _, _, _, _, _, c6⟩ := hc
      rw [e, (hb.cell _).1] at c6
      rw [Array.getElem?_eq_none (by omega)] at c6
      cases c6
    exact hc.keep (((Below.heap_setCell _ _ _ _ hne).trans (Below.heap_setCell _ _ _ _ hne)).trans (Below.heap_setCell _ _ _ _ hne))

/-- What read answers. -/
def ReadG (w : World) (b : List UInt8) (e : Ending) (w' : World) : Prop :=
  ∃ (al : Option Addr) (nl cl : Nat) (ap : Option Addr) (np cp : Nat), e = .returned (.tuple #[.agg #[.int .i64 (decS8 b).1.kind, .int .i64 (decS8 b).1.first, .slice al nl cl], .slice ap np cp, .int .i64 (decS8 b).2]) ∧ RdR w' (.slice al nl cl) (decS8 b).1.recs ∧ Below w.heap.size w w'

theorem ReadG.fail {w w' : World} {b : List UInt8} {n : Int} (h : decS8 b = (zeroG, n)) (hb : Below w.heap.size w w') : ReadG w b (.returned (.tuple #[.agg #[.int .i64 0, .int .i64 0, .slice none 0 0], .slice none 0 0, .int .i64 n])) w' := by
  refine ⟨none, 0, 0, none, 0, 0, ?_, ?_, hb⟩
  · rw [h]
    rfl
  · rw [h]
    exact RdR.nil _

end Go.Proofs.YtddhcohjmgdajabDoor
