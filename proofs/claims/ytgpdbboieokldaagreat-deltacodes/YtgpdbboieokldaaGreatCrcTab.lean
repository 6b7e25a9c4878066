/- The table in memory: what the walk asks of an array of 256 cells. -/
import Derived.Test.YtgpdbboieokldaaGreatCrcRef
import Derived.Deep.WholeRow
namespace Go.Proofs.YtgpdbboieokldaaGreat
open Go.RowKit

/-- The table's cells. -/
def tabCells : Array Value := ((List.range 256).map fun c => Value.int .u32 ((entry c : Nat) : Int)).toArray

/-- The table as it is made: noughts. -/
def zeroTab : Array Value := (List.replicate 256 (Value.int .u32 0)).toArray

theorem tab_zero : (Tryz.prog.info? 115).map (fun i => (i.zero, i.size)) = some (some (.agg zeroTab), 256) := by kernel_rfl

theorem tabCells_size : tabCells.size = 256 := by simp [tabCells]

theorem zeroTab_size : zeroTab.size = 256 := by
  unfold zeroTab
  rw [List.size_toArray, List.length_replicate]

theorem tabCells_one : tabCells.all (·.oneCell') = true := by
  rw [Array.all_eq_true]
  intro i hi
  simp [tabCells, Value.oneCell']

theorem tabCells_at (k : Nat) (h : k < 256) : tabCells[k]? = some (.int .u32 ((entry k : Nat) : Int)) := by
  simp [tabCells, h]

theorem store_tab (w : World) : (Instr.storeAt 115 (.pointer (some ⟨w.heap.size, 0, none⟩)) (.agg tabCells)).run Tryz.prog (w.alloc (.cells zeroTab 115)) = .ok () (w.alloc (.cells tabCells 115)) :=
  run_storeAt_new w 115 zeroTab tabCells (by rw [tabCells_size]; exact (zero_of_info tab_zero).2) (by rw [tabCells_size, zeroTab_size]) tabCells_one

/-- The table lies in block b. -/
def TabAt (w : World) (b : Nat) : Prop := ∀ k, k < 256 → w.cell? ⟨b, k, none⟩ = some (.int .u32 ((entry k : Nat) : Int))

theorem TabAt.below {w w' : World} {b B : Nat} (h : TabAt w b) (hb : Below B w w') (hB : w.heap.size ≤ B) : TabAt w' b := by
  intro k hk
  have hc := h k hk
  have hlt : b < w.heap.size := World.block_lt_of_cell? w ⟨b, k, none⟩ hc
  rw [hb.cell (p := ⟨b, k, none⟩) (by exact Nat.lt_of_lt_of_le hlt hB)]
  exact hc

theorem TabAt.made (w : World) : TabAt (w.alloc (.cells tabCells 115)) w.heap.size := by
  intro k hk
  rw [cell_of_row _ w.heap.size k tabCells 115 (0, 0) (heap_alloc_last w _)]
  exact tabCells_at k hk

/-- The table, laid down in a variable of its own. -/
theorem wpList_keep_tab (w : World) {ops : Array Oper} {rest : List Oper} {o : Oper} {a : Act} {Q : Exit → Act → World → Prop} (hgd : o.guard = none) (x y : Operand) (ho : o.op = .store 115 x y)
    (hx : a.eval x = .pointer (some ⟨w.heap.size, 0, none⟩)) (hy : a.eval y = .agg tabCells)
    (h : ∀ w', Below w.heap.size w w' → TabAt w' w.heap.size → wpList Tryz.prog ops Q rest (a.put o.dst undef) w') : wpList Tryz.prog ops Q (o :: rest) a (w.alloc (.cells zeroTab 115)) :=
  wpList_plain hgd fun _ hK => by
    have hrun := store_tab w
    unfold Oper.wp execOp
    simp only [ho, hx, hy, hrun, Sem.run_bind, Sem.run_pure, Result.andThen_ok]
    exact hK _ _ (h _ ((Below.refl _ _).alloc (Nat.le_refl _) _) (TabAt.made w))

/-- The table of which k entries are reckoned. -/
def tabAt (k : Nat) : Array Value := ((List.range 256).map fun c => if c < k then Value.int .u32 ((entry c : Nat) : Int) else Value.int .u32 0).toArray

theorem tabAt_size (k : Nat) : (tabAt k).size = 256 := by simp [tabAt]

theorem tabAt_get (k i : Nat) (h : i < 256) : (tabAt k)[i]? = some (if i < k then Value.int .u32 ((entry i : Nat) : Int) else Value.int .u32 0) := by
  simp [tabAt, h]

theorem tabAt_zero : tabAt 0 = zeroTab := by
  apply Array.ext_getElem?
  intro i
  by_cases h : i < 256
  · rw [tabAt_get 0 i h]
    unfold zeroTab
    rw [List.getElem?_toArray, List.getElem?_replicate_of_lt h]
    simp
  · rw [Array.getElem?_eq_none (by rw [tabAt_size]; omega), Array.getElem?_eq_none (by rw [zeroTab_size]; omega)]

theorem tabAt_full : tabAt 256 = tabCells := by
  apply Array.ext_getElem?
  intro i
  by_cases h : i < 256
  · rw [tabAt_get 256 i h, if_pos h, tabCells_at i h]
  · rw [Array.getElem?_eq_none (by rw [tabAt_size]; omega), Array.getElem?_eq_none (by rw [tabCells_size]; omega)]

theorem tabAt_set (k : Nat) (hk : k < 256) : (tabAt k).setIfInBounds k (Value.int .u32 ((entry k : Nat) : Int)) = tabAt (k + 1) := by
  apply Array.ext_getElem?
  intro i
  rw [Array.getElem?_setIfInBounds]
  by_cases h : i < 256
  · rw [tabAt_get (k + 1) i h, tabAt_get k i h, tabAt_size]
    by_cases hi : k = i
    · subst hi
      simp [hk]
    · rw [if_neg hi]
      have e : (i < k + 1) = (i < k) := by
        apply propext
        omega
      simp only [e]
  · have hi : ¬ k = i := by omega
    rw [if_neg hi, Array.getElem?_eq_none (by rw [tabAt_size]; omega), Array.getElem?_eq_none (by rw [tabAt_size]; omega)]

theorem tab_info {C : Array Value} (h : C.size = 256) : (Tryz.prog.info? 115).map (·.size) = some C.size := by
  rw [h]
  exact (zero_of_info tab_zero).2

/-- A whole table, loaded. -/
theorem wpList_load_tab (w : World) {ops : Array Oper} {rest : List Oper} {o : Oper} {a : Act} {Q : Exit → Act → World → Prop} (hgd : o.guard = none) (x : Operand) (ho : o.op = .load 115 x)
    (g : Nat) (C : Array Value) (fr : Nat × Nat) (hx : a.eval x = .pointer (some ⟨g, 0, none⟩)) (hg : w.heap[g]? = some (.cells C 115 fr)) (hC : C.size = 256)
    (h : wpList Tryz.prog ops Q rest (a.put o.dst (.agg C)) w) : wpList Tryz.prog ops Q (o :: rest) a w :=
  wpList_plain hgd fun _ hK => by
    have hrun := run_loadVar_row (P := Tryz.prog) w g 115 115 C fr _ hg Tryz.underlying115 rfl (tab_info hC)
    unfold Oper.wp execOp
    simp only [ho, hx, Instr.loadAt, Instr.sureAddr, Sem.run_bind, Sem.run_pure, Result.andThen_ok, hrun]
    exact hK _ _ h

/-- A whole table, stored. -/
theorem wpList_store_tab (w : World) {ops : Array Oper} {rest : List Oper} {o : Oper} {a : Act} {Q : Exit → Act → World → Prop} (hgd : o.guard = none) (x y : Operand) (ho : o.op = .store 115 x y)
    (g : Nat) (C D : Array Value) (hx : a.eval x = .pointer (some ⟨g, 0, none⟩)) (hy : a.eval y = .agg D) (hg : w.heap[g]? = some (.cells C 115 (0, 0))) (hC : C.size = 256) (hD : D.size = 256) (h1 : D.all (·.oneCell') = true)
    (h : wpList Tryz.prog ops Q rest (a.put o.dst undef) (w.setRow g D)) : wpList Tryz.prog ops Q (o :: rest) a w :=
  wpList_plain hgd fun _ hK => by
    have hrun := run_storeVar_row (P := Tryz.prog) w g 115 115 C D hg (tab_info hD) (by rw [hC, hD]) h1
    unfold Oper.wp execOp
    simp only [ho, hx, hy, Instr.storeAt, Instr.sureAddr, Sem.run_bind, Sem.run_pure, Result.andThen_ok, hrun]
    exact hK _ _ h

end Go.Proofs.YtgpdbboieokldaaGreat
