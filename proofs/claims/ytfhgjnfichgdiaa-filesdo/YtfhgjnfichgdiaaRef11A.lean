/- The document's disk: slices of names in memory: what one reads ('RdN'), what a call owns ('OwnN'), append onto them; set. -/
import Derived.Test.YtfhgjnfichgdiaaFilesBase
import Derived.Deep.LoopGhost
namespace Go.Proofs.Ytfhgjnfichgdiaa
open Go.RowKit

/-- A name's cells. -/
def nmC (e : Int × Nat) : Array Value := #[.int .i64 e.1, .int .i64 (e.2 : Int)]

def NmI (e : Int × Nat) : Prop := I64 e.1 ∧ e.2 ≤ 1000000000

/-- A name's two cells. -/
def NmAt (w : World) (b o : Nat) (e  : Int × Nat) : Prop :=
  w.cell? ⟨b, o, none⟩ = some (.int .i64 e.1) ∧ w.cell? ⟨b, o + 1, none⟩ = some (.int .i64 (e.2 : Int))

theorem NmAt.lt {w : World} {b o : Nat} {e : Int × Nat} (h : NmAt w b o e) : b < w.heap.size := World.block_lt_of_cell? w ⟨b, o, none⟩ h.1

theorem NmAt.keep {w w' : World} {b o : Nat} {e : Int × Nat} (h : NmAt w b o e) (hk : w'.heap[b]? = w.heap[b]?) : NmAt w' b o e := by
  have hc : ∀ i, w'.cell? ⟨b, i, none⟩ = w.cell? ⟨b, i, none⟩ := fun i => World.cell?_of_block (a := ⟨b, i, none⟩) hk
  unfold NmAt at h ⊢
  simp only [hc]
  exact h

/-- The slice value v reads, in the world w, as the names l. -/
def RdN (w : World) (v : Value) (l : Dir) : Prop :=
  ∃ ao cap, v = .slice ao l.length cap ∧ l.length ≤ cap ∧ cap ≤ maxLen ∧ (ao = none → cap = 0) ∧ (∀ e ∈ l, NmI e) ∧
    (l = [] ∨ ∃ b off, ao = some ⟨b, off, none⟩ ∧ ∀ j, j < l.length → NmAt w b (off + j * 2) (l.getD j ((0 : Int), (0 : Nat))))

theorem RdN.nil (w : World) : RdN w (.slice none 0 0) [] := ⟨none, 0, rfl, Nat.le_refl _, Nat.zero_le _, fun _ => rfl, (fun r h => by simp at h), .inl rfl⟩

theorem RdN.below {w w' : World} {v : Value} {l : Dir} (h : RdN w v l) {B : Nat} (hb : Below B w w') (hB : w.heap.size ≤ B) : RdN w' v l := by
  obtain ⟨ao, cap, h1, h2, h3, hn, hw, h4⟩ := h
  refine ⟨ao, cap, h1, h2, h3, hn, hw, ?_⟩
  rcases h4 with h4 | ⟨b, off, h5, h6⟩
  · exact .inl h4
  · refine .inr ⟨b, off, h5, fun j hj => ?_⟩
    have h7 := h6 j hj
    exact h7.keep (hb.block b (by have := h7.lt; omega))

/-- The cells of names. -/
def nmCells : Dir → List Value
  | [] => []
  | r :: t => (nmC r).toList ++ nmCells t

theorem nmCells_length : ∀ l : Dir, (nmCells l).length = l.length * 2
  | [] => rfl
  | r :: t => by
    rw [nmCells, List.length_append, nmCells_length t, List.length_cons]
    simp [nmC]
    omega

theorem nmCells_app : ∀ a b : Dir, nmCells (a ++ b) = nmCells a ++ nmCells b
  | [], _ => rfl
  | r :: t, b => by rw [List.cons_append, nmCells, nmCells_app t b, nmCells, List.append_assoc]

theorem nmCells_get : ∀ (l : Dir) (j k : Nat), j < l.length → k < 2 → (nmCells l)[j * 2 + k]? = (nmC (l.getD j ((0 : Int), (0 : Nat))))[k]?
  | r :: t, 0, k, _, hk => by
    rw [nmCells, Nat.zero_mul, Nat.zero_add, List.getElem?_append_left (by simp [nmC]; omega)]
    simp [List.getD]
  | r :: t, j + 1, k, hj, hk => by
    have e : (j + 1) * 2 + k = (nmC r).toList.length + (j * 2 + k) := by simp [nmC]; omega
    rw [nmCells, e, List.getElem?_append_right (by omega), Nat.add_sub_cancel_left, nmCells_get t j k (by simpa using hj) hk]
    simp [List.getD]

theorem nmCells_one (l : Dir) : ∀ u ∈ nmCells l, u.oneCell' = true := by
  induction l with
  | nil => intro u hu; simp [nmCells] at hu
  | cons r t ih =>
    intro u hu
    rw [nmCells] at hu
    rcases List.mem_append.1 hu with h | h
    · simp [nmC] at h
      rcases h with rfl | rfl <;> rfl
    · exact ih u h

/-- The slice value v lies at the head of a row of its own, from block B on, that holds the names l. -/
def OwnN (w : World) (B : Nat) (v : Value) (l : Dir) : Prop := w.ownsRow B 60 2 v l.length (nmCells l)

theorem OwnN.nil (w : World) (B : Nat) : OwnN w B (.slice none 0 0) [] := World.ownsRow_nil w B 60 2

theorem OwnN.rd {w : World} {B : Nat} {v : Value} {l : Dir} (h : OwnN w B v l) (hw : ∀ r ∈ l, NmI r) : RdN w v l := by
  rcases h.2 with ⟨hv, hn⟩ | ⟨g, cap, cur, hv, hb, hg, hnc, hcm, hcs, htake⟩
  · exact ⟨none, 0, by rw [hv, hn], by omega, Nat.zero_le _, fun _ => rfl, hw, .inl (List.eq_nil_of_length_eq_zero hn)⟩
  · refine ⟨some ⟨g, 0, none⟩, cap, hv, hnc, hcm, (fun e => by cases e), hw, .inr ⟨g, 0, rfl, fun j hj => ?_⟩⟩
    have hc : ∀ k u, k < 2 → (nmC (l.getD j ((0 : Int), (0 : Nat))))[k]? = some u → w.cell? ⟨g, 0 + j * 2 + k, none⟩ = some u := fun k u hk hu => by
      have := World.ownsRow.cells h (g := g) (by rw [hv]; rfl) (j * 2 + k) u ((nmCells_get l j k hj hk).trans hu)
      rw [Addr.add_lit] at this
      rw [Nat.add_assoc]
      exact this
    exact ⟨hc 0 _ (by decide) rfl, hc 1 _ (by decide) rfl⟩

theorem OwnN.below {w w' : World} {B B' : Nat} {v : Value} {l : Dir} (h : OwnN w B v l) (hb : Below B' w w') (hB : w.heap.size ≤ B') : OwnN w' B v l := by
  obtain ⟨h1, h2⟩ := h
  refine ⟨h1, ?_⟩
  rcases h2 with h2 | ⟨g, cap, cur, hv, hbg, hg, r⟩
  · exact .inl h2
  · have hlt : g < w.heap.size := (Array.getElem?_eq_some_iff.1 hg).1
    exact .inr ⟨g, cap, cur, hv, hbg, by rw [hb.block g (by omega)]; exact hg, r⟩

theorem OwnN.mono {w : World} {B B' : Nat} {v : Value} {l : Dir} (h : OwnN w B v l) (hB : B' ≤ B) : OwnN w B' v l := by
  obtain ⟨h1, h2⟩ := h
  refine ⟨h1, ?_⟩
  rcases h2 with h2 | ⟨g, cap, cur, hv, hb, r⟩
  · exact .inl h2
  · exact .inr ⟨g, cap, cur, hv, by omega, r⟩

theorem OwnN.shape {w : World} {B : Nat} {v : Value} {l : Dir} (h : OwnN w B v l) : ∃ ao cap, v = .slice ao l.length cap := by
  rcases h.2 with ⟨hv, hn⟩ | ⟨g, cap, cur, hv, _⟩
  · exact ⟨none, 0, by rw [hv, hn]⟩
  · exact ⟨_, _, hv⟩

theorem RdN.shape {w : World} {v : Value} {l : Dir} (h : RdN w v l) : ∃ ao cap, v = .slice ao l.length cap := by
  obtain ⟨ao, cap, hv, _⟩ := h
  exact ⟨ao, cap, hv⟩

theorem info_nm : (Try.prog.info? 60).map (fun i => (i.zero, i.size, i.bytes)) = some (some (.agg #[.int .i64 0, .int .i64 0]), 2, 16) := by kernel_rfl

/-- One more name behind a row of one's own. -/
theorem run_append_nm (w : World) (ty : TypeId) (B : Nat) (v : Value) (l : Dir) (h : OwnN w B v l) (r  : Int × Nat) (hlim : l.length ≤ 1000000) (hbase : B ≤ w.heap.size) :
    ∃ v' w', (Builtin.append_ #[36, 36] ty #[v, .slice (some ⟨w.heap.size, 0, none⟩) 1 1]).run Try.prog (w.alloc (.cells (nmC r) 60)) = .ok v' w' ∧ OwnN w' B v' (l ++ [r]) ∧ Below B w w' := by
  obtain ⟨i0, hi, hz0, hz1, hz2⟩ := info_parts info_nm
  obtain ⟨v', w', hrun, ho, hg, _⟩ := run_append_own (P := Try.prog) (w.alloc (.cells (nmC r) 60)) B 36 ty 60 i0 _ 2 16 Try.underlying36 hi hz0 hz1 hz2 rfl (by decide) v l.length (nmCells l) (h.alloc _)
    ⟨w.heap.size, 0, none⟩ 1 1 (nmCells [r]) (nmCells_length [r]) (fun j u hj => by
      rw [Addr.add_lit, Nat.zero_add, cell_of_row _ w.heap.size j _ 60 (0, 0) (heap_alloc_new w _)]
      simpa [nmCells] using hj) (nmCells_one [r]) (by unfold maxLen; omega) (by omega) (by simp; omega)
  refine ⟨v', w', hrun, ?_, ?_⟩
  · unfold OwnN
    rw [List.length_append, nmCells_app]
    exact ho
  · exact ((Below.refl _ _).alloc hbase _).grown hg (by simp; omega) (fun k hk => (World.ownsRow.lt h k hk).1)

theorem wpList_append_nm (w : World) {ops : Array Oper} {rest : List Oper} {o : Oper} {a : Act} {Q : Exit → Act → World → Prop} (hgd : o.guard = none) (s x : Operand)
    (ho : o.op = .call { callee := .builtin .append, args := #[s, x], argTypes := #[36, 36] })
    (B : Nat) (v : Value) (l : Dir) (hs : a.eval s = v) (hown : OwnN w B v l) (r  : Int × Nat) (hx : a.eval x = .slice (some ⟨w.heap.size, 0, none⟩) 1 1)
    (hlim : l.length ≤ 1000000) (hbase : B ≤ w.heap.size)
    (h : ∀ v' w', OwnN w' B v' (l ++ [r]) → Below B w w' → wpList Try.prog ops Q rest (a.put o.dst v') w') : wpList Try.prog ops Q (o :: rest) a (w.alloc (.cells (nmC r) 60)) :=
  wpList_plain hgd fun _ hK => by
    obtain ⟨v', w', hrun, h2, h3⟩ := run_append_nm w o.type B v l hown r hlim hbase
    unfold Oper.wp execOp
    simp only [ho, resolve, invoke, builtin, Sem.run_bind, Sem.run_pure, Result.andThen_ok, List.map_toArray, List.map_cons, List.map_nil, hs, hx, hrun]
    exact hK _ _ (h v' w' h2 h3)

theorem RdN.keepG {w w' : World} {v : Value} {l : Dir} (h : RdN w v l) (hk : l = [] ∨ ∀ g, v.ownBlock = some g → w'.heap[g]? = w.heap[g]?) : RdN w' v l := by
  obtain ⟨ao, cap, rfl, h2, h3, hn, hw, h4⟩ := h
  refine ⟨ao, cap, rfl, h2, h3, hn, hw, ?_⟩
  rcases h4 with h4 | ⟨b, off, rfl, h6⟩
  · exact .inl h4
  rcases hk with hk | hk
  · exact .inl hk
  · exact .inr ⟨b, off, rfl, fun j hj => (h6 j hj).keep (hk b rfl)⟩

/-- A file's number as the document tells it. -/
def fNum : Option Nat → Int
  | some f => (f : Int)
  | none => -1

theorem setG_snocs (n : Int) (f : Nat) (done : Bool) (p : Int × Nat) (l : Dir) : setG n f done (p :: l) = (if !done && decide (p.1 > n) then [(n, f)] else []) ++ ((if p.1 ≠ n then [p] else []) ++ setG n f (done || decide (p.1 > n)) l) := rfl

/-- What is made ahead of the k-th name, and whether it is told. -/
def setDone (n : Int) (done : Bool) (l : Dir) : Bool := l.foldl (fun b p => b || decide (p.1 > n)) done

def setOut (n : Int) (f : Nat) : Bool → Dir → Dir
  | _, [] => []
  | done, p :: l => (if !done && decide (p.1 > n) then [(n, f)] else []) ++ ((if p.1 ≠ n then [p] else []) ++ setOut n f (done || decide (p.1 > n)) l)

theorem setOut_snoc (n : Int) (f : Nat) : ∀ (l : Dir) (done : Bool) (p : Int × Nat), setOut n f done (l ++ [p]) = setOut n f done l ++ ((if !(setDone n done l) && decide (p.1 > n) then [(n, f)] else []) ++ (if p.1 ≠ n then [p] else []))
  | [], done, p => by simp [setOut, setDone]
  | q :: l, done, p => by
    rw [List.cons_append, setOut, setOut, setOut_snoc n f l]
    simp only [List.append_assoc]
    rfl

theorem setDone_snoc (n : Int) (done : Bool) (l : Dir) (p : Int × Nat) : setDone n done (l ++ [p]) = (setDone n done l || decide (p.1 > n)) := by
  unfold setDone
  rw [List.foldl_append]
  rfl

theorem setG_out (n : Int) (f : Nat) : ∀ (l : Dir) (done : Bool), setG n f done l = setOut n f done l ++ (if setDone n done l then [] else [(n, f)])
  | [], done => by cases done <;> rfl
  | q :: l, done => by
    rw [setG, setG_out n f l, setOut]
    simp only [List.append_assoc]
    rfl

end Go.Proofs.Ytfhgjnfichgdiaa
