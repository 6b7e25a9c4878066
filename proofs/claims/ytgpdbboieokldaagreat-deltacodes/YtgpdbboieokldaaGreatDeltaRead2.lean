/- Rows of numbers that are filled; what readData answers. -/
import Derived.Test.YtgpdbboieokldaaGreatDeltaRead1
import Derived.Test.YtgpdbboieokldaaGreatSnapDecC
namespace Go.Proofs.YtgpdbboieokldaaGreat
open Go.RowKit

/-- A row of numbers. -/
def RowI (W : World) (M : Nat) (L : List Int) : Prop := W.heap[M]? = some (.cells (intCells L).toArray 3 (0, 0))

theorem RowI.lt {W : World} {M : Nat} {L : List Int} (h : RowI W M L) : M < W.heap.size := (Array.getElem?_eq_some_iff.1 h).1

theorem RowI.set {W : World} {M : Nat} {L : List Int} (h : RowI W M L) (j : Nat) (n : Int) : RowI (W.setCell ⟨M, j, none⟩ (.int .i64 n)) M (L.set j n) := by
  have h2 := heap_setCell_same W M j _ _ (.int .i64 n) h
  have e : (intCells L).toArray.setIfInBounds j (.int .i64 n) = (intCells (L.set j n)).toArray := by
    apply Array.ext'
    simp [intCells, List.map_set]
  unfold RowI
  rw [← e]
  simpa using h2

theorem RowI.keep {W W' : World} {M : Nat} {L : List Int} (h : RowI W M L) (hk : W'.heap[M]? = W.heap[M]?) : RowI W' M L := hk.trans h

theorem RowI.cell {W : World} {M : Nat} {L : List Int} (h : RowI W M L) (j : Nat) (hj : j < L.length) : W.cell? ⟨M, j, none⟩ = some (.int .i64 (L.getD j 0)) ∧ W.frozen? ⟨M, j, none⟩ = false := by
  refine ⟨?_, frozen_of_row W M j _ _ h⟩
  rw [cell_of_row W M j _ _ _ h, List.getElem?_toArray]
  exact intCells_get L j hj

theorem RowI.num {W : World} {M : Nat} {L : List Int} (h : RowI W M L) (j : Nat) (hj : j < L.length) : NumAt W (M, j) := ⟨⟨_, (h.cell j hj).1⟩, (h.cell j hj).2⟩

theorem RowI.rd {W : World} {M : Nat} {L : List Int} (h : RowI W M L) (hi : ∀ x ∈ L, I64 x) (hl : L.length ≤ 1000) (n : Nat) (hn : n = L.length) : RdI W (.slice (some ⟨M, 0, none⟩) n n) L := by
  subst hn
  refine ⟨some ⟨M, 0, none⟩, L.length, rfl, Nat.le_refl _, by unfold maxLen; omega, (fun e => by cases e), hi, .inr ⟨M, 0, rfl, fun j hj => ?_⟩⟩
  rw [Nat.zero_add]
  exact (h.cell j hj).1

theorem fill_step (xs : List Int) (n k : Nat) (x : Int) (hk : xs.length = k) (hn : k < n) : (xs ++ List.replicate (n - k) 0).set k x = (xs ++ [x]) ++ List.replicate (n - (k + 1)) 0 := by
  have e : n - k = (n - (k + 1)) + 1 := by omega
  rw [e, List.replicate_succ, List.set_append_right _ _ (by omega), hk, Nat.sub_self, List.set_cons_zero, List.append_assoc]
  rfl

set_option maxRecDepth 100000 in
theorem run_makeI (w : World) (n : Nat) (hn : n ≤ 1000000) : (Instr.makeSlice 22 (.int .i64 (n : Int)) (.int .i64 (n : Int))).run Tryz.prog w = .ok (.slice (some ⟨w.heap.size, 0, none⟩) n n) (w.alloc (.cells (intCells (List.replicate n 0)).toArray 3)) := by
  obtain ⟨i0, hi, hz0, hz1, hz2⟩ := info_parts info_i64
  have h := run_make (P := Tryz.prog) w 22 3 i0 (.int .i64 0) Tryz.underlying22 hi hz0 .i64 .i64 (n : Int) (n : Int) (by omega) (Int.le_refl _) (by rw [hz2]; omega) (by omega)
  rw [Int.toNat_natCast, hz1, Nat.mul_one] at h
  rw [h]
  congr 3
  apply Array.ext'
  show (madeCells #[Value.int .i64 0] n).toList = _
  rw [toList_madeCells_one]
  simp [intCells]

theorem OwnE.same {w w' : World} {B : Nat} {v : Value} {l : List Ent} (h : OwnE w B v l) (hk : ∀ g, v.ownBlock = some g → w'.heap[g]? = w.heap[g]?) : OwnE w' B v l := by
  obtain ⟨h1, h2⟩ := h
  refine ⟨h1, ?_⟩
  rcases h2 with h2 | ⟨g, cap, cur, hv, hbg, hg, r⟩
  · exact .inl h2
  · exact .inr ⟨g, cap, cur, hv, hbg, (hk g (by rw [hv]; rfl)).trans hg, r⟩

/-- What readData answers. -/
def ReadDl (w : World) (r : Option Delt) (e : Ending) (w' : World) : Prop :=
  ∃ (D : Delt) (vm vt : Value), e = .returned (.tuple #[.agg #[.int .i64 D.frm, .int .i64 D.upto, .int .i64 D.ahead, .int .i64 D.behind, vm, .bool D.shut, .int .i64 D.eng, vt], .bool r.isSome]) ∧ RdI w' vm D.mid ∧ RdE w' vt D.tab ∧ DelI D ∧ (∀ d, r = some d → d = D) ∧ (∀ k, vm.ownBlock = some k → w.heap.size ≤ k) ∧ (∀ k, vt.ownBlock = some k → w.heap.size ≤ k) ∧ Below w.heap.size w w'

theorem ReadDl.none {w w' : World} {r : Option Delt} (hr : r = Option.none) (hb : Below w.heap.size w w') : ReadDl w r (.returned (.tuple #[.agg #[.int .i64 0, .int .i64 0, .int .i64 0, .int .i64 0, .slice Option.none 0 0, .bool false, .int .i64 0, .slice Option.none 0 0], .bool false])) w' := by
  subst hr
  exact ⟨zeroD, _, _, rfl, RdI.nil _, RdE.nil _, zeroD_i, (fun d h => by cases h), (fun b hb => by simp [Value.ownBlock] at hb), (fun b hb => by simp [Value.ownBlock] at hb), hb⟩

/-- How much is left to read, where the reader's box lies. -/
def leftW (bb : Nat) (v : Value) (W : World) : Nat :=
  match v with
  | .bool true => (match W.cell? ⟨bb, 0, none⟩ with | some (.slice _ n _) => n + 1 | _ => 0)
  | _ => 0

theorem five_allocs (w : World) (x y z u t : Obj) : (((((w.alloc x).alloc y).alloc z).alloc u).alloc t).heap.size = w.heap.size + 1 + 1 + 1 + 1 + 1 := by simp

theorem heap_new_at (W : World) (N : Nat) (hN : N = W.heap.size) (x : Obj) : (W.alloc x).heap[N]? = some x := by rw [hN]; exact heap_alloc_new W x

theorem din_start (w : World) (v : Value) (X Z C : Obj) (hX : X = .cells #[.int .i64 0, .int .i64 0, .int .i64 0, .int .i64 0, .slice none 0 0, .bool false, .int .i64 0, .slice none 0 0] 25 (0, 0)) (hZ : Z = .cells #[.int .i64 0] 3 (0, 0)) (hC : C = .cells #[v] 26 (0, 0)) :
    DIn w ((((((w.alloc X).alloc X).alloc Z).alloc Z).alloc Z).alloc C) #[.int .i64 0, .int .i64 0, .int .i64 0, .int .i64 0, .slice none 0 0, .bool false, .int .i64 0, .slice none 0 0] 0 0 0 v := by
  subst hX hZ hC
  refine ⟨?_, ?_, ?_, ?_, ?_, ?_, ?_⟩
  · unfold Bd
    rw [Below.heap_alloc _ _ _ (by simp <;> omega), Below.heap_alloc _ _ _ (by simp <;> omega), Below.heap_alloc _ _ _ (by simp <;> omega), Below.heap_alloc _ _ _ (by simp <;> omega), Below.heap_alloc _ _ _ (by simp)]
    exact heap_new_at _ _ rfl _
  · unfold Bd
    rw [Below.heap_alloc _ _ _ (by simp <;> omega), Below.heap_alloc _ _ _ (by simp <;> omega), Below.heap_alloc _ _ _ (by simp <;> omega), Below.heap_alloc _ _ _ (by simp)]
    exact heap_new_at _ _ (by simp) _
  · unfold Bi
    rw [Below.heap_alloc _ _ _ (by simp <;> omega), Below.heap_alloc _ _ _ (by simp <;> omega), Below.heap_alloc _ _ _ (by simp)]
    exact heap_new_at _ _ (by simp) _
  · unfold Bi
    rw [Below.heap_alloc _ _ _ (by simp <;> omega), Below.heap_alloc _ _ _ (by simp)]
    exact heap_new_at _ _ (by simp) _
  · unfold Bi
    rw [Below.heap_alloc _ _ _ (by simp)]
    exact heap_new_at _ _ (by simp) _
  · exact heap_new_at _ _ (by simp) _
  · exact ((((((Below.refl _ _).alloc (Nat.le_refl _) _).alloc (by simp) _).alloc (by simp; omega) _).alloc (by simp; omega) _).alloc (by simp; omega) _).alloc (by simp; omega) _

end Go.Proofs.YtgpdbboieokldaaGreat
