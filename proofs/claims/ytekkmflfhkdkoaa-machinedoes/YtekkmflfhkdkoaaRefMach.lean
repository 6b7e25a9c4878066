/- The document's machine in memory: two slices of numbers. -/
import Derived.Test.YtekkmflfhkdkoaaMachD
import Derived.Laws.OwnMore
import Derived.Maps.AppendAt
namespace Go.Proofs.Ytekkmflfhkdkoaa
open Go.RowKit Go.Maps

/-- One number more behind numbers of the call's own: which row alone may change, and where the numbers lie then. -/
theorem run_append_intM (w : World) (ty : TypeId) (v : Value) (l : List Int) (h : OwnI w 0 v l) (n : Int) (hlim : l.length ≤ 1000000) :
    ∃ v' w', (Builtin.append_ #[37, 37] ty #[v, .slice (some ⟨w.heap.size, 0, none⟩) 1 1]).run Try.prog (w.alloc (.cells #[.int .i64 n] 3)) = .ok v' w' ∧ OwnI w' 0 v' (l ++ [n]) ∧ (w.alloc (.cells #[.int .i64 n] 3)).grownBy w' v.ownBlock ∧ (v'.ownBlock = v.ownBlock ∨ v'.ownBlock = some (w.heap.size + 1)) := by
  obtain ⟨i0, hi, hz0, hz1, hz2⟩ := info_parts info_i64
  obtain ⟨v', w', hrun, ho, hg, _, hl⟩ := run_append_own_at (P := Try.prog) (w.alloc (.cells #[.int .i64 n] 3)) 0 37 ty 3 i0 (.int .i64 0) 1 8 Try.underlying37 hi hz0 hz1 hz2 rfl (by decide) v l.length (intCells l) (World.ownsRow.alloc h _)
    ⟨w.heap.size, 0, none⟩ 1 1 [.int .i64 n] rfl (fun j u hj => by
      match j, hj with
      | 0, hj => simp at hj; subst hj; simp [Addr.add]) (fun u hu => by simp at hu; subst hu; rfl) (by unfold maxLen; omega) (by omega) (Nat.zero_le _)
  refine ⟨v', w', hrun, ?_, hg, ?_⟩
  · unfold OwnI
    have e1 : (l ++ [n]).length = l.length + 1 := by simp
    have e2 : intCells (l ++ [n]) = intCells l ++ [.int .i64 n] := by simp [intCells]
    rw [e1, e2]
    exact ho
  · have e : (w.alloc (.cells #[.int .i64 n] 3)).heap.size = w.heap.size + 1 := by simp
    rw [e] at hl
    exact hl

theorem wpList_append_intM (w : World) {ops : Array Oper} {rest : List Oper} {o : Oper} {a : Act} {Q : Exit → Act → World → Prop} (hgd : o.guard = none) (s x : Operand)
    (ho : o.op = .call { callee := .builtin .append, args := #[s, x], argTypes := #[37, 37] })
    (v : Value) (l : List Int) (hs : a.eval s = v) (hown : OwnI w 0 v l) (n : Int) (hx : a.eval x = .slice (some ⟨w.heap.size, 0, none⟩) 1 1)
    (hlim : l.length ≤ 1000000)
    (h : ∀ v' w', OwnI w' 0 v' (l ++ [n]) → (w.alloc (.cells #[.int .i64 n] 3)).grownBy w' v.ownBlock → (v'.ownBlock = v.ownBlock ∨ v'.ownBlock = some (w.heap.size + 1)) → wpList Try.prog ops Q rest (a.put o.dst v') w') : wpList Try.prog ops Q (o :: rest) a (w.alloc (.cells #[.int .i64 n] 3)) :=
  wpList_plain hgd fun _ hK => by
    obtain ⟨v', w', hrun, h2, h3, h4⟩ := run_append_intM w o.type v l hown n hlim
    unfold Oper.wp execOp
    simp only [ho, resolve, invoke, builtin, Sem.run_bind, Sem.run_pure, Result.andThen_ok, List.map_toArray, List.map_cons, List.map_nil, hs, hx, hrun]
    exact hK _ _ (h v' w' h2 h3 h4)

/-- The document's machine at p: its slices lie in no block of K. -/
structure RefM (K : Nat → Prop) (w : World) (p : Nat) (cv pv : Value) (C P : List Int) : Prop where
  head : Bk 39 w p #[cv, pv]
  c : OwnI w 0 cv C
  s : OwnI w 0 pv P
  ne : ∀ g, cv.ownBlock = some g → pv.ownBlock ≠ some g
  ic : ∀ x ∈ C, I64 x
  ip : ∀ x ∈ P, I64 x
  kp : ¬ K p
  kc : ∀ g, cv.ownBlock = some g → ¬ K g
  ks : ∀ g, pv.ownBlock = some g → ¬ K g

def Rfm (K : Nat → Prop) (w : World) (p : Nat) (C P : List Int) : Prop := ∃ cv pv, RefM K w p cv pv C P

theorem RefM.neC {K : Nat → Prop} {w : World} {p : Nat} {cv pv : Value} {C P : List Int} (h : RefM K w p cv pv C P) : ∀ g, cv.ownBlock = some g → g ≠ p := fun g hg => by
  obtain ⟨cs, hb⟩ := ownBk h.c hg
  exact hb.ne h.head (by decide)

theorem RefM.neS {K : Nat → Prop} {w : World} {p : Nat} {cv pv : Value} {C P : List Int} (h : RefM K w p cv pv C P) : ∀ g, pv.ownBlock = some g → g ≠ p := fun g hg => by
  obtain ⟨cs, hb⟩ := ownBk h.s hg
  exact hb.ne h.head (by decide)

theorem RefM.keep {K : Nat → Prop} {w w' : World} {p : Nat} {cv pv : Value} {C P : List Int} (h : RefM K w p cv pv C P) (h1 : w'.heap[p]? = w.heap[p]?) (h2 : ∀ g, cv.ownBlock = some g → w'.heap[g]? = w.heap[g]?) (h3 : ∀ g, pv.ownBlock = some g → w'.heap[g]? = w.heap[g]?) : RefM K w' p cv pv C P :=
  ⟨h.head.keep h1, ownsRow_keep h.c h2, ownsRow_keep h.s h3, h.ne, h.ic, h.ip, h.kp, h.kc, h.ks⟩

theorem RefM.only {K G : Nat → Prop} {w w' : World} {p : Nat} {cv pv : Value} {C P : List Int} (h : RefM K w p cv pv C P) (ho : Only G w w') (hG : ∀ k, k < w.heap.size → G k → K k) : RefM K w' p cv pv C P :=
  h.keep (ho.block _ h.head.lt fun g => h.kp (hG _ h.head.lt g)) (fun g hg => ho.block _ (World.ownsRow.lt h.c g hg).2 fun g' => h.kc g hg (hG _ (World.ownsRow.lt h.c g hg).2 g'))
    (fun g hg => ho.block _ (World.ownsRow.lt h.s g hg).2 fun g' => h.ks g hg (hG _ (World.ownsRow.lt h.s g hg).2 g'))

theorem Rfm.only {K G : Nat → Prop} {w w' : World} {p : Nat} {C P : List Int} (h : Rfm K w p C P) (ho : Only G w w') (hG : ∀ k, k < w.heap.size → G k → K k) : Rfm K w' p C P := by
  obtain ⟨cv, pv, h⟩ := h
  exact ⟨cv, pv, h.only ho hG⟩

/-- K may lose what does not lie there, and gain what lies behind. -/
theorem Rfm.weaken {K K' : Nat → Prop} {w : World} {p : Nat} {C P : List Int} (h : Rfm K w p C P) (hK : ∀ k, k < w.heap.size → K' k → K k) : Rfm K' w p C P := by
  obtain ⟨cv, pv, h⟩ := h
  exact ⟨cv, pv, h.head, h.c, h.s, h.ne, h.ic, h.ip, fun g => h.kp (hK _ h.head.lt g), fun g hg k => h.kc g hg (hK _ (World.ownsRow.lt h.c g hg).2 k), fun g hg k => h.ks g hg (hK _ (World.ownsRow.lt h.s g hg).2 k)⟩

/-- A number that is stored. -/
theorem OwnI.store {w : World} {g n cap : Nat} {l : List Int} (h : OwnI w 0 (.slice (some ⟨g, 0, none⟩) n cap) l) (j : Nat) (x : Int) : OwnI (w.setCell ⟨g, j, none⟩ (.int .i64 x)) 0 (.slice (some ⟨g, 0, none⟩) n cap) (l.set j x) := by
  have hn : n = l.length := by
    rcases h.2 with ⟨hv, _⟩ | ⟨_, _, _, hv, _⟩
    · simp at hv
    · simp only [Value.slice.injEq] at hv
      exact hv.2.1
  subst hn
  have := (World.ownsRow.stored h j (.int .i64 x)).1
  unfold OwnI
  rw [List.length_set]
  have e : intCells (l.set j x) = (intCells l).set j (.int .i64 x) := by simp [intCells, List.map_set]
  rw [e]
  exact this

theorem OwnI.form {w : World} {v : Value} {l : List Int} (h : OwnI w 0 v l) {j : Nat} (hj : j < l.length) : ∃ g cap, v = .slice (some ⟨g, 0, none⟩) l.length cap ∧ g < w.heap.size ∧ w.cell? ⟨g, j, none⟩ = some (.int .i64 (l.getD j 0)) ∧ w.frozen? ⟨g, j, none⟩ = false := by
  rcases h.2 with ⟨_, hn⟩ | ⟨g, cap, cur, hv, _, hg, _⟩
  · omega
  · refine ⟨g, cap, hv, (Array.getElem?_eq_some_iff.1 hg).1, ?_, frozen_of_row w g j cur _ hg⟩
    rw [hv] at h
    rw [World.ownsRow.cellAt h j (by omega), intCells_get l j hj]

theorem OwnI.shapeM {w : World} {v : Value} {l : List Int} (h : OwnI w 0 v l) : ∃ ao cap, v = .slice ao l.length cap := by
  rcases h.2 with ⟨hv, hn⟩ | ⟨g, cap, cur, hv, _⟩
  · exact ⟨none, 0, by rw [hv, hn]⟩
  · exact ⟨_, cap, hv⟩

theorem set_i64 {l : List Int} (h : ∀ x ∈ l, I64 x) {x : Int} (hx : I64 x) (j : Nat) : ∀ y ∈ l.set j x, I64 y := fun y hy => by
  rcases List.mem_or_eq_of_mem_set hy with h' | rfl
  · exact h y h'
  · exact hx

/-- A process's step is counted. -/
def stepR (P : List Int) (q : Int) : List Int := if inM q P.length = true then P.set q.toNat (wrap64 (P.getD q.toNat 0 + 1)) else P

/-- A cell is changed. -/
def putR (C : List Int) (cell x : Int) : List Int := if inM cell C.length = true then C.set cell.toNat x else C

end Go.Proofs.Ytekkmflfhkdkoaa
