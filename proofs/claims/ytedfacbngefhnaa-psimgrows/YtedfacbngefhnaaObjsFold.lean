/- Contract of objs: Fold. -/
import Derived.Test.YtedfacbngefhnaaObjsAwake
namespace Go.Proofs.Ytedfacbngefhnaa
open Go.RowKit

theorem stepO_resp (s : St) (o : Opn) : I64 (stepO s o).2 := by
  by_cases h : s.kind ≠ 4 ∨ s.shut = true ∨ o.code = 10 ∨ o.code = 5 ∨ o.code = 6 ∨ o.code = 7 ∨ (0 ≤ o.a ∧ o.a ≤ 255)
  · rw [stepO_eq s o h]
    exact step_resp s o
  · by_cases hm : MayS s
    · have hk : s.kind = 4 := by
        by_cases hk : s.kind = 4
        · exact hk
        · exact absurd (.inl hk) h
      have hs : s.shut = false := by
        cases hs : s.shut
        · rfl
        · exact absurd (.inr (.inl hs)) h
      have hc : o.code ≠ 10 := fun e => h (.inr (.inr (.inl e)))
      have ha : ¬ (0 ≤ o.a ∧ o.a ≤ 255) := fun e => h (.inr (.inr (.inr (.inr (.inr (.inr e))))))
      rw [stepO_open hm hs o hc, if_neg (by omega), if_neg (by omega), if_pos hk]
      unfold storeO
      rw [if_pos (by omega)]
      exact (i64_small (by decide) (by decide) : I64 (-1))
    · rw [stepO_not hm]
      exact (i64_small (by decide) (by decide) : I64 0)

theorem foldO_not {s : St} (h : ¬ MayS s) : ∀ l : List Opn, foldO s l = (s, List.replicate l.length 0)
  | [] => rfl
  | o :: r => by
    rw [foldO, stepO_not h]
    simp only
    rw [foldO_not h r]
    rfl

theorem foldO_take (s : St) (ops : List Opn) (k : Nat) (hk : k < ops.length) {sk : St} {outs : List Int} (h : foldO s (ops.take k) = (sk, outs)) :
    foldO s (ops.take (k + 1)) = ((stepO sk (ops.getD k ⟨0, 0, 0⟩)).1, outs ++ [(stepO sk (ops.getD k ⟨0, 0, 0⟩)).2]) := by
  have e : ops.take (k + 1) = ops.take k ++ [ops.getD k ⟨0, 0, 0⟩] := by
    rw [List.take_add_one]
    simp [List.getD, hk]
  rw [e, foldO_snoc, h]

/-- Numbers in a row of their own length. -/
theorem RdI.ofCells {w : World} {Y : Nat} {L : List Int} {n : Nat} (hn : n = L.length) (h : w.heap[Y]? = some (.cells (intCells L).toArray 3 (0, 0))) (hl : L.length ≤ 1000000) (hi : ∀ x ∈ L, I64 x) : RdI w (.slice (some ⟨Y, 0, none⟩) n n) L := by
  subst hn
  refine ⟨some ⟨Y, 0, none⟩, L.length, rfl, Nat.le_refl _, by unfold maxLen; omega, (fun e => by cases e), hi, .inr ⟨Y, 0, rfl, fun j hj => ?_⟩⟩
  rw [Nat.zero_add, cell_of_row w Y j _ _ _ h, List.getElem?_toArray]
  exact intCells_get L j hj

theorem set_rep (outs : List Int) (n k : Nat) (x : Int) (ho : outs.length = k) (hk : k < n) : (outs ++ List.replicate (n - k) 0).set k x = (outs ++ [x]) ++ List.replicate (n - (k + 1)) 0 := by
  obtain ⟨m, hm⟩ : ∃ m, n - k = m + 1 := ⟨n - k - 1, by omega⟩
  have e : n - (k + 1) = m := by omega
  rw [hm, e, List.replicate_succ, List.set_append_right _ _ (by omega), ho, Nat.sub_self]
  simp

/-- Where a fold stands: the answer's box behind w, the state's box at X, the answers' row at Y. -/
structure FoldIn (w : World) (X Y : Nat) (s0 : St) (ops : List Opn) (k : Nat) (wr : World) (vk : Value) (sk : St) (outs : List Int) : Prop where
  fold : foldO s0 (ops.take k) = (sk, outs)
  may : MayS sk
  len : outs.length = k
  resp : ∀ n ∈ outs, I64 n
  res : Bx wr (w.heap.size + 1) #[.int .i64 0, .slice none 0 0, .bool false, .int .i64 0]
  box : Bx wr X #[.int .i64 sk.kind, vk, .bool sk.shut, .int .i64 sk.eng]
  own : OwnI wr (w.heap.size + 1 + 1) vk sk.L
  row : wr.heap[Y]? = some (.cells (intCells (outs ++ List.replicate (ops.length - k) 0)).toArray 3 (0, 0))
  apart : ∀ b, vk.ownBlock = some b → b ≠ X ∧ b ≠ Y
  oldX : w.heap.size + 1 + 1 ≤ X
  oldY : w.heap.size + 1 + 1 ≤ Y
  ne : X ≠ Y
  below : Below w.heap.size w wr

/-- One step on. -/
theorem FoldIn.next {w wr W2 : World} {X Y : Nat} {s0 : St} {ops : List Opn} {k : Nat} {vk v2 : Value} {sk : St} {outs : List Int} (h : FoldIn w X Y s0 ops k wr vk sk outs) (hk : k < ops.length) (Z : Obj)
    {k' g' : Int} {L' : List Int} {s' : Bool} {n' : Int} (hst : stepO sk (ops.getD k ⟨0, 0, 0⟩) = (⟨k', L', s', g'⟩, n')) (ho : OwnI W2 (w.heap.size + 1 + 1) v2 L') (hm : Mv (wr.alloc Z) W2 vk v2) :
    FoldIn w X Y s0 ops (k + 1) (((((W2.setCell ⟨X, 0, none⟩ (.int .i64 k')).setCell ⟨X, 1, none⟩ v2).setCell ⟨X, 2, none⟩ (.bool s')).setCell ⟨X, 3, none⟩ (.int .i64 g')).setCell ⟨Y, k, none⟩ (.int .i64 n')) v2 ⟨k', L', s', g'⟩ (outs ++ [n']) := by
  have lX := h.box.lt
  have lY : Y < wr.heap.size := (Array.getElem?_eq_some_iff.1 h.row).1
  have lR := h.res.lt
  have hsz : (wr.alloc Z).heap.size = wr.heap.size + 1 := by simp
  have keep : ∀ b, b < wr.heap.size → some b ≠ vk.ownBlock → W2.heap[b]? = wr.heap[b]? := fun b hb hne => by
    rw [hm.grown.block b (by omega) hne]
    exact Below.heap_alloc _ _ _ hb
  have hvk : ∀ b, vk.ownBlock = some b → w.heap.size + 1 + 1 ≤ b := h.own.fresh
  have hbut : But X Y W2 (((((W2.setCell ⟨X, 0, none⟩ (.int .i64 k')).setCell ⟨X, 1, none⟩ v2).setCell ⟨X, 2, none⟩ (.bool s')).setCell ⟨X, 3, none⟩ (.int .i64 g')).setCell ⟨Y, k, none⟩ (.int .i64 n')) := ((But.refl _ _ _).four _ (.inl rfl) _ _ _ _).set _ _ (.inr rfl) _
  have hap : ∀ b, v2.ownBlock = some b → b ≠ X ∧ b ≠ Y := fun b hb => by
    rcases hm.lies b hb with h' | h'
    · exact h.apart b h'
    · rw [hsz] at h'
      omega
  have hX2 : W2.heap[X]? = some (.cells #[.int .i64 sk.kind, vk, .bool sk.shut, .int .i64 sk.eng] 24 (0, 0)) := (keep X lX (fun e => (h.apart X e.symm).1 rfl)).trans h.box
  have hY2 := (keep Y lY (fun e => (h.apart Y e.symm).2 rfl)).trans h.row
  have hs2 : wr.heap.size ≤ W2.heap.size := by have := hm.size; omega
  refine ⟨?_, ?_, by simp [h.len], ?_, ?_, ?_, ho.but hbut hap, ?_, hap, h.oldX, h.oldY, h.ne, ?_⟩
  · rw [foldO_take s0 ops k hk h.fold, hst]
  · have := stepO_may h.may (ops.getD k ⟨0, 0, 0⟩)
    rw [hst] at this
    exact this
  · intro n hn
    rcases List.mem_append.1 hn with hn | hn
    · exact h.resp n hn
    · rw [List.mem_singleton.1 hn]
      have := stepO_resp sk (ops.getD k ⟨0, 0, 0⟩)
      rw [hst] at this
      exact this
  · refine (hbut.block _ (by omega) (by have := h.oldX; omega) (by have := h.oldY; omega)).trans ((keep _ lR (fun e => ?_)).trans h.res)
    have := hvk _ e.symm
    omega
  · refine (Below.heap_setCell _ _ _ _ (by exact h.ne)).trans ?_
    exact heap_four W2 X _ _ _ _ _ hX2 _ _ _ _
  · have hY3 : ((((W2.setCell ⟨X, 0, none⟩ (.int .i64 k')).setCell ⟨X, 1, none⟩ v2).setCell ⟨X, 2, none⟩ (.bool s')).setCell ⟨X, 3, none⟩ (.int .i64 g')).heap[Y]? = some (.cells (intCells (outs ++ List.replicate (ops.length - k) 0)).toArray 3 (0, 0)) := by
      rw [Below.heap_setCell _ _ _ _ (by exact Ne.symm h.ne), Below.heap_setCell _ _ _ _ (by exact Ne.symm h.ne), Below.heap_setCell _ _ _ _ (by exact Ne.symm h.ne), Below.heap_setCell _ _ _ _ (by exact Ne.symm h.ne)]
      exact hY2
    rw [heap_setCell_same _ Y k _ _ _ hY3, ← set_rep outs ops.length k n' h.len hk]
    congr 2
    simp [intCells, List.map_set]
  · have hb := h.below
    have hbs := hb.size
    refine ⟨hbut.os.trans (hm.grown.os.trans hb.os), hbut.tape.trans (hm.grown.tape.trans hb.tape), hbut.output.trans (hm.grown.output.trans hb.output), by have := hbut.size; omega, fun j hj => ?_⟩
    rw [hbut.block j (by omega) (by have := h.oldX; omega) (by have := h.oldY; omega), keep j (by omega) (fun e => by have := hvk j e.symm; omega)]
    exact hb.block j hj

theorem made_ints (n : Nat) (hn : n ≤ 1000) (w : World) : (Instr.makeSlice 22 (.int .i64 (n : Int)) (.int .i64 (n : Int))).run Try.prog w = .ok (.slice (some ⟨w.heap.size, 0, none⟩) n n) (w.alloc (.cells (intCells (List.replicate n 0)).toArray 3)) := by
  obtain ⟨i0, hi, hz0, hz1, hz2⟩ := info_parts info_i64
  rw [run_make w 22 3 i0 (.int .i64 0) Try.underlying22 hi hz0 .i64 .i64 n n (by omega) (Int.le_refl _) (by rw [hz2]; omega) (by omega), hz1]
  have e : madeCells (Value.int .i64 0).cells ((n : Int).toNat * 1) = (intCells (List.replicate n 0)).toArray := by
    apply Array.ext
    · simp [madeCells, intCells]
    · intro i h1 h2
      simp [madeCells, intCells, Nat.mod_one, Value.cells]
  rw [e]
  simp

end Go.Proofs.Ytedfacbngefhnaa
