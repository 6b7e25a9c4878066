/- What the laws read of a run's rows. -/
import Derived.Test.YtiofhmlkgieclaaHerlZ
import Derived.Laws.StructEq
namespace Go.Proofs.Ytiofhmlkgieclaa
open Go.RowKit Go.Maps

theorem onlyBH {B : Nat} {w w' : World} (h : Only (fun k => ¬ k < B) w w') (hB : B ≤ w.heap.size) : Below B w w' := h.below hB fun k hk => by omega

/-- An operation's cells. -/
structure CAt (w : World) (b o : Nat) (c : Cal) : Prop where
  c0 : w.cell? ⟨b, o, none⟩ = some (.int .i64 c.p)
  c1 : w.cell? ⟨b, o + 1, none⟩ = some (.int .i64 c.seq)
  c2 : w.cell? ⟨b, o + 2, none⟩ = some (.int .i64 c.from_)
  c3 : w.cell? ⟨b, o + 3, none⟩ = some (.int .i64 c.to_)
  c4 : w.cell? ⟨b, o + 4, none⟩ = some (.int .i64 c.resp)
  c5 : w.cell? ⟨b, o + 5, none⟩ = some (.int .i64 c.op.code)
  c6 : w.cell? ⟨b, o + 6, none⟩ = some (.int .i64 c.op.a)
  c7 : w.cell? ⟨b, o + 7, none⟩ = some (.int .i64 c.op.b)

/-- The slice value v reads, in the world w, as the operations l. -/
def RdC (w : World) (v : Value) (l : List Cal) : Prop := ∃ a cap, v = .slice a l.length cap ∧ ∀ i, i < l.length → ∃ g, a = some ⟨g, 0, none⟩ ∧ CAt w g (i * 8) (l.getD i noCal)

theorem OwnC.rd {w : World} {v : Value} {l : List Cal} (h : OwnC w v l) : RdC w v l := by
  obtain ⟨a, c, hv⟩ := row_form h
  refine ⟨a, c, hv, fun i hi => ?_⟩
  obtain ⟨g, c', hv', hc⟩ := row_at h (by omega)
  rw [hv] at hv'
  simp only [Value.slice.injEq, true_and] at hv'
  obtain ⟨rfl, rfl⟩ := hv'
  have e := fun k (hk : k < 8) => calCells_get l i k hi hk
  exact ⟨g, rfl, hc _ _ (e 0 (by decide)), hc _ _ (e 1 (by decide)), hc _ _ (e 2 (by decide)), hc _ _ (e 3 (by decide)), hc _ _ (e 4 (by decide)), hc _ _ (e 5 (by decide)), hc _ _ (e 6 (by decide)), hc _ _ (e 7 (by decide))⟩

theorem CAt.below {w w' : World} {b o B : Nat} {x : Cal} (h : CAt w b o x) (hb : Below B w w') (hB : w.heap.size ≤ B) : CAt w' b o x :=
  ⟨cell_belowV h.c0 hb hB, cell_belowV h.c1 hb hB, cell_belowV h.c2 hb hB, cell_belowV h.c3 hb hB, cell_belowV h.c4 hb hB, cell_belowV h.c5 hb hB, cell_belowV h.c6 hb hB, cell_belowV h.c7 hb hB⟩

theorem RdC.below {w w' : World} {v : Value} {l : List Cal} (h : RdC w v l) {B : Nat} (hb : Below B w w') (hB : w.heap.size ≤ B) : RdC w' v l := by
  obtain ⟨a, c, hv, hc⟩ := h
  refine ⟨a, c, hv, fun i hi => ?_⟩
  obtain ⟨g, e, h8⟩ := hc i hi
  exact ⟨g, e, h8.below hb hB⟩

theorem RdC.at {w : World} {a : Option Addr} {n c : Nat} {l : List Cal} (h : RdC w (.slice a n c) l) {i : Nat} (hi : i < l.length) : ∃ g, a = some ⟨g, 0, none⟩ ∧ CAt w g (i * 8) (l.getD i noCal) := by
  obtain ⟨a', c', hv, hc⟩ := h
  simp only [Value.slice.injEq] at hv
  obtain ⟨rfl, -, rfl⟩ := hv
  exact hc i hi

theorem RdR.at' {w : World} {a : Option Addr} {n c : Nat} {l : List Rec} (h : RdR w (.slice a n c) l) {i : Nat} (hi : i < l.length) : ∃ b off, a = some ⟨b, off, none⟩ ∧ RecAt w b (off + i * 7) (l.getD i zeroR) := by
  obtain ⟨a', c', hv, _, _, _, _, h4⟩ := h
  simp only [Value.slice.injEq] at hv
  obtain ⟨rfl, -, rfl⟩ := hv
  rcases h4 with h4 | ⟨b, off, rfl, h5⟩
  · rw [h4] at hi; simp at hi
  · exact ⟨b, off, rfl, h5 i hi⟩

theorem EgM.logs {K : Nat → Prop} {w : World} {eb : Nat} {e : Eg} {N : Nat} (h : EgM K w eb e N) : e.log.length ≤ N ∧ ∀ r ∈ e.log, RecOk r := by
  obtain ⟨L, M, g, h1, h2, h3, -⟩ := h
  exact ⟨h3.log, h3.recs⟩

theorem neq_opH (w : World) (a b c d e f : Int) : (binOp .neq 26 (.agg #[.int .i64 a, .int .i64 b, .int .i64 c]) (.agg #[.int .i64 d, .int .i64 e, .int .i64 f])).run Try.prog w = .ok (.bool (!(a == d && b == e && c == f))) w := by
  have u3 := Try.underlying3
  have a3 := Try.isAgg3
  have z3 := Try.sizeOf3
  have hS : Try.prog.underlying 26 = some (.struct (Try.prog.fieldsOf 26)) := by kernel_rfl
  have hp : Try.prog.stoodInHeld 26 = false := by kernel_rfl
  rw [run_neq_struct, show (10000 : Nat) = 9999 + 1 from rfl, run_equalIn_agg w 9999 26 _ _ hS hp]
  simp only [Program.fieldsOf, Try.underlying26]
  go_simp
  by_cases h1 : a = d <;> by_cases h2 : b = e <;> by_cases h3 : c = f <;> simp [h1, h2, h3]

/-- What Once, Order and so on need of a run that came back. -/
theorem ran_one {n : Nat} {e0 : Eg} (hf : Fresh herlM n e0) (l : List EvP) {i : Nat} (hi : i < (runK n e0 l l.length).out.length) :
    let R := runK n e0 l l.length
    let c := R.out.getD i noCal
    (atC R.e.log c = (-1, 0) ∧ c.to_ < 0) ∨ ∃ j : Nat, j < R.e.log.length ∧ atC R.e.log c = ((j : Int), 1) ∧ (R.e.log.getD j zeroR).op = c.op ∧ (0 ≤ c.to_ → (R.e.log.getD j zeroR).resp = c.resp) := by
  have h := runK_inv hf l l.length (Nat.le_refl _)
  have hm : (runK n e0 l l.length).out.getD i noCal ∈ (runK n e0 l l.length).out := by
    rw [List.getD_eq_getElem?_getD, List.getElem?_eq_getElem hi, Option.getD_some]
    exact List.getElem_mem hi
  rcases h.one hm with h1 | ⟨j, r, h1, h2, h3, h4, h5⟩
  · exact .inl h1
  · have hg : (herlM.log (runK n e0 l l.length).e).getD j zeroR = r := by
      rw [List.getD_eq_getElem?_getD, h1]
      rfl
    refine .inr ⟨j, (List.getElem?_eq_some_iff.1 h1).1, h3, ?_, ?_⟩
    · show ((herlM.log (runK n e0 l l.length).e).getD j zeroR).op = _
      rw [hg]
      exact h4
    · show _ → ((herlM.log (runK n e0 l l.length).e).getD j zeroR).resp = _
      rw [hg]
      exact h5

end Go.Proofs.Ytiofhmlkgieclaa
