import Derived.Test.YtiofhmlkgieclaaPack3
import Derived.Test.YtiofhmlkgieclaaPack1
/- Slices of records in memory: what one reads ('RdR'), what a call owns ('OwnR'), and append onto them. -/
namespace Go.Proofs.Ytiofhmlkgieclaa
open Go.RowKit

/-- A record's seven cells. -/
def RecAt (w : World) (b o : Nat) (r : Rec) : Prop :=
  w.cell? ⟨b, o, none⟩ = some (.int .i64 r.idx) ∧ w.cell? ⟨b, o + 1, none⟩ = some (.int .i64 r.proc) ∧ w.cell? ⟨b, o + 2, none⟩ = some (.int .i64 r.seq) ∧ w.cell? ⟨b, o + 3, none⟩ = some (.int .i64 r.op.code) ∧ w.cell? ⟨b, o + 4, none⟩ = some (.int .i64 r.op.a) ∧ w.cell? ⟨b, o + 5, none⟩ = some (.int .i64 r.op.b) ∧ w.cell? ⟨b, o + 6, none⟩ = some (.int .i64 r.resp)

set_option maxRecDepth 100000 in
theorem RecAt.lt {w : World} {b o : Nat} {r : Rec} (h : RecAt w b o r) : b < w.heap.size := World.block_lt_of_cell? w ⟨b, o, none⟩ h.1

set_option maxRecDepth 100000 in
theorem RecAt.keep {w w' : World} {b o : Nat} {r : Rec} (h : RecAt w b o r) (hk : w'.heap[b]? = w.heap[b]?) : RecAt w' b o r := by
  have hc : ∀ i, w'.cell? ⟨b, i, none⟩ = w.cell? ⟨b, i, none⟩ := fun i => World.cell?_of_block (a := ⟨b, i, none⟩) hk
  unfold RecAt at h ⊢
  simp only [hc]
  exact h

/-- The slice value v reads, in the world w, as the records l. -/
def RdR (w : World) (v : Value) (l : List Rec) : Prop :=
  ∃ ao cap, v = .slice ao l.length cap ∧ l.length ≤ cap ∧ cap ≤ maxLen ∧ (ao = none → cap = 0) ∧ (∀ r ∈ l, RecOk r) ∧
    (l = [] ∨ ∃ b off, ao = some ⟨b, off, none⟩ ∧ ∀ j, j < l.length → RecAt w b (off + j * 7) (l.getD j zeroR))

set_option maxRecDepth 100000 in
theorem RdR.nil (w : World) : RdR w (.slice none 0 0) [] := ⟨none, 0, rfl, Nat.le_refl _, Nat.zero_le _, fun _ => rfl, (fun r h => by simp at h), .inl rfl⟩

set_option maxRecDepth 100000 in
theorem RdR.below {w w' : World} {v : Value} {l : List Rec} (h : RdR w v l) {B : Nat} (hb : Below B w w') (hB : w.heap.size ≤ B) : RdR w' v l := by
  obtain ⟨ao, cap, h1, h2, h3, hn, hw, h4⟩ := h
  refine ⟨ao, cap, h1, h2, h3, hn, hw, ?_⟩
  rcases h4 with h4 | ⟨b, off, h5, h6⟩
  · exact .inl h4
  · refine .inr ⟨b, off, h5, fun j hj => ?_⟩
    have h7 := h6 j hj
    exact h7.keep (hb.block b (by have := h7.lt; omega))

set_option maxRecDepth 100000 in
theorem RdR.front {w : World} {ao : Option Addr} {n cap : Nat} {l : List Rec} (h : RdR w (.slice ao n cap) l) (k : Nat) (hk : k ≤ l.length) : RdR w (.slice ao k cap) (l.take k) := by
  obtain ⟨ao', cap', hv, h1, h2, h3, hw, h4⟩ := h
  simp only [Value.slice.injEq] at hv
  obtain ⟨rfl, _, rfl⟩ := hv
  have hlen : (l.take k).length = k := by simp; omega
  refine ⟨ao, cap, by rw [hlen], by omega, h2, h3, fun r hr => hw r (List.mem_of_mem_take hr), ?_⟩
  rcases h4 with h4 | ⟨b, off, h5, h6⟩
  · exact .inl (by rw [h4]; simp)
  · refine .inr ⟨b, off, h5, fun j hj => ?_⟩
    have hj2 : j < k := by omega
    have e : (l.take k).getD j zeroR = l.getD j zeroR := by simp [List.getD, hj2]
    rw [e]
    exact h6 j (by omega)

/-- The cells of records. -/
def recCells : List Rec → List Value
  | [] => []
  | r :: t => (recC r).toList ++ recCells t

set_option maxRecDepth 100000 in
theorem recCells_length : ∀ l : List Rec, (recCells l).length = l.length * 7
  | [] => rfl
  | r :: t => by
    rw [recCells, List.length_append, recCells_length t, List.length_cons]
    simp [recC]
    omega

set_option maxRecDepth 100000 in
theorem recCells_app : ∀ a b : List Rec, recCells (a ++ b) = recCells a ++ recCells b
  | [], _ => rfl
  | r :: t, b => by rw [List.cons_append, recCells, recCells_app t b, recCells, List.append_assoc]

set_option maxRecDepth 100000 in
theorem recCells_get : ∀ (l : List Rec) (j k : Nat), j < l.length → k < 7 → (recCells l)[j * 7 + k]? = (recC (l.getD j zeroR))[k]?
  | r :: t, 0, k, _, hk => by
    rw [recCells, Nat.zero_mul, Nat.zero_add, List.getElem?_append_left (by simp [recC]; omega)]
    simp [List.getD]
  | r :: t, j + 1, k, hj, hk => by
    have e : (j + 1) * 7 + k = (recC r).toList.length + (j * 7 + k) := by simp [recC]; omega
    rw [recCells, e, List.getElem?_append_right (by omega), Nat.add_sub_cancel_left, recCells_get t j k (by simpa using hj) hk]
    simp [List.getD]

set_option maxRecDepth 100000 in
theorem recCells_one (l : List Rec) : ∀ u ∈ recCells l, u.oneCell' = true := by
  induction l with
  | nil => intro u hu; simp [recCells] at hu
  | cons r t ih =>
    intro u hu
    rw [recCells] at hu
    rcases List.mem_append.1 hu with h | h
    · simp [recC] at h
      rcases h with rfl | rfl | rfl | rfl | rfl | rfl | rfl <;> rfl
    · exact ih u h

/-- The slice value v lies at the head of a row of its own, from block B on, that holds the records l. -/
def OwnR (w : World) (B : Nat) (v : Value) (l : List Rec) : Prop := w.ownsRow B 53 7 v l.length (recCells l)

set_option maxRecDepth 100000 in
theorem OwnR.nil (w : World) (B : Nat) : OwnR w B (.slice none 0 0) [] := World.ownsRow_nil w B 53 7

set_option maxRecDepth 100000 in
theorem OwnR.rd {w : World} {B : Nat} {v : Value} {l : List Rec} (h : OwnR w B v l) (hw : ∀ r ∈ l, RecOk r) : RdR w v l := by
  rcases h.2 with ⟨hv, hn⟩ | ⟨g, cap, cur, hv, hb, hg, hnc, hcm, hcs, htake⟩
  · exact ⟨none, 0, by rw [hv, hn], by omega, Nat.zero_le _, fun _ => rfl, hw, .inl (List.eq_nil_of_length_eq_zero hn)⟩
  · refine ⟨some ⟨g, 0, none⟩, cap, hv, hnc, hcm, (fun e => by cases e), hw, .inr ⟨g, 0, rfl, fun j hj => ?_⟩⟩
    have hc : ∀ k u, k < 7 → (recC (l.getD j zeroR))[k]? = some u → w.cell? ⟨g, 0 + j * 7 + k, none⟩ = some u := fun k u hk hu => by
      have := World.ownsRow.cells h (g := g) (by rw [hv]; rfl) (j * 7 + k) u ((recCells_get l j k hj hk).trans hu)
      rw [Addr.add_lit] at this
      rw [Nat.add_assoc]
      exact this
    exact ⟨hc 0 _ (by decide) rfl, hc 1 _ (by decide) rfl, hc 2 _ (by decide) rfl, hc 3 _ (by decide) rfl, hc 4 _ (by decide) rfl, hc 5 _ (by decide) rfl, hc 6 _ (by decide) rfl⟩

set_option maxRecDepth 100000 in
theorem OwnR.below {w w' : World} {B B' : Nat} {v : Value} {l : List Rec} (h : OwnR w B v l) (hb : Below B' w w') (hB : w.heap.size ≤ B') : OwnR w' B v l := by
  obtain ⟨h1, h2⟩ := h
  refine ⟨h1, ?_⟩
  rcases h2 with h2 | ⟨g, cap, cur, hv, hbg, hg, r⟩
  · exact .inl h2
  · have hlt : g < w.heap.size := (Array.getElem?_eq_some_iff.1 hg).1
    exact .inr ⟨g, cap, cur, hv, hbg, by rw [hb.block g (by omega)]; exact hg, r⟩

set_option maxRecDepth 100000 in
theorem OwnR.mono {w : World} {B B' : Nat} {v : Value} {l : List Rec} (h : OwnR w B v l) (hB : B' ≤ B) : OwnR w B' v l := by
  obtain ⟨h1, h2⟩ := h
  refine ⟨h1, ?_⟩
  rcases h2 with h2 | ⟨g, cap, cur, hv, hb, r⟩
  · exact .inl h2
  · exact .inr ⟨g, cap, cur, hv, by omega, r⟩

set_option maxRecDepth 100000 in
theorem OwnR.shape {w : World} {B : Nat} {v : Value} {l : List Rec} (h : OwnR w B v l) : ∃ ao cap, v = .slice ao l.length cap := by
  rcases h.2 with ⟨hv, hn⟩ | ⟨g, cap, cur, hv, _⟩
  · exact ⟨none, 0, by rw [hv, hn]⟩
  · exact ⟨_, _, hv⟩

set_option maxRecDepth 100000 in
theorem info_rec : (Try.prog.info? 53).map (fun i => (i.zero, i.size, i.bytes)) = some (some (.agg #[.int .i64 0, .int .i64 0, .int .i64 0, .int .i64 0, .int .i64 0, .int .i64 0, .int .i64 0]), 7, 56) := by kernel_rfl

set_option maxRecDepth 100000 in
/-- One more record behind a row of one's own. -/
theorem run_append_rec (w : World) (ty : TypeId) (B : Nat) (v : Value) (l : List Rec) (h : OwnR w B v l) (r : Rec) (hlim : l.length ≤ 1000000) (hbase : B ≤ w.heap.size) :
    ∃ v' w', (Builtin.append_ #[37, 37] ty #[v, .slice (some ⟨w.heap.size, 0, none⟩) 1 1]).run Try.prog (w.alloc (.cells (recC r) 53)) = .ok v' w' ∧ OwnR w' B v' (l ++ [r]) ∧ Below B w w' := by
  obtain ⟨i0, hi, hz0, hz1, hz2⟩ := info_parts info_rec
  obtain ⟨v', w', hrun, ho, hg, _⟩ := run_append_own (P := Try.prog) (w.alloc (.cells (recC r) 53)) B 37 ty 53 i0 _ 7 56 Try.underlying37 hi hz0 hz1 hz2 rfl (by decide) v l.length (recCells l) (h.alloc _)
    ⟨w.heap.size, 0, none⟩ 1 1 (recCells [r]) (recCells_length [r]) (fun j u hj => by
      rw [Addr.add_lit, Nat.zero_add, cell_of_row _ w.heap.size j _ 53 (0, 0) (heap_alloc_new w _)]
      simpa [recCells] using hj) (recCells_one [r]) (by unfold maxLen; omega) (by omega) (by simp; omega)
  refine ⟨v', w', hrun, ?_, ?_⟩
  · unfold OwnR
    rw [List.length_append, recCells_app]
    exact ho
  · exact ((Below.refl _ _).alloc hbase _).grown hg (by simp; omega) (fun k hk => (World.ownsRow.lt h k hk).1)

set_option maxRecDepth 100000 in
theorem wpList_append_rec (w : World) {ops : Array Oper} {rest : List Oper} {o : Oper} {a : Act} {Q : Exit → Act → World → Prop} (hgd : o.guard = none) (s x : Operand)
    (ho : o.op = .call { callee := .builtin .append, args := #[s, x], argTypes := #[37, 37] })
    (B : Nat) (v : Value) (l : List Rec) (hs : a.eval s = v) (hown : OwnR w B v l) (r : Rec) (hx : a.eval x = .slice (some ⟨w.heap.size, 0, none⟩) 1 1)
    (hlim : l.length ≤ 1000000) (hbase : B ≤ w.heap.size)
    (h : ∀ v' w', OwnR w' B v' (l ++ [r]) → Below B w w' → wpList Try.prog ops Q rest (a.put o.dst v') w') : wpList Try.prog ops Q (o :: rest) a (w.alloc (.cells (recC r) 53)) :=
  wpList_plain hgd fun _ hK => by
    obtain ⟨v', w', hrun, h2, h3⟩ := run_append_rec w o.type B v l hown r hlim hbase
    unfold Oper.wp execOp
    simp only [ho, resolve, invoke, builtin, Sem.run_bind, Sem.run_pure, Result.andThen_ok, List.map_toArray, List.map_cons, List.map_nil, hs, hx, hrun]
    exact hK _ _ (h v' w' h2 h3)

set_option maxRecDepth 100000 in
theorem elem_recs : Try.prog.elem 37 = 53 := by kernel_rfl

set_option maxRecDepth 100000 in
theorem under_recs : Try.prog.underlying 37 = some (.slice (Try.prog.elem 37)) := by rw [elem_recs]; exact Try.underlying37

set_option maxRecDepth 100000 in
theorem size_rec (w : World) : (sizeOf 53).run Try.prog w = .ok 7 w := by
  obtain ⟨i0, hi, _, hz1, _⟩ := info_parts info_rec
  simp [sizeOf, typeInfo, hi, hz1]

set_option maxRecDepth 100000 in
/-- The first records of a slice. -/
theorem run_front_recs (W : World) (ao : Option Addr) (n cap : Nat) (i : Int) (k : Nat) (hi : i = (k : Int)) (hk : k ≤ cap) :
    (Instr.sliceAt 37 (.slice ao n cap) none (some (.int .i64 i)) none).run Try.prog W = .ok (.slice ao k cap) W := by
  subst hi
  rw [run_sliceAt_slice W 37 _ _ _ _ under_recs, run_slice_h W 37 ao n cap under_recs .i64 (k : Int) (by omega) (by omega), elem_recs, size_rec]
  have e : sliced ao 0 k cap 7 = .slice ao k cap := by
    unfold sliced
    cases ao <;> simp [Addr.add]
  simp [e]

set_option maxRecDepth 100000 in
theorem Br.set {w : World} {b : Nat} {cs : Array Value} (h : Br w b cs) (j : Nat) (x : Value) : Br (w.setCell ⟨b, j, none⟩ x) b (cs.setIfInBounds j x) := by
  have := heap_setCell_same w b j _ _ x h
  unfold Br
  simpa using this

end Go.Proofs.Ytiofhmlkgieclaa

/- Herlihy's engine of the landed text in memory. -/
namespace Go.Proofs.Ytiofhmlkgieclaa
open Go.RowKit Go.Maps

/-- The function that is a process's next step. -/
def fnOf : Nx → Nat
  | .rest => 0
  | .announce => 39
  | .readHead => 44
  | .readPlace => 47
  | .readOwn => 51
  | .readTurn => 54
  | .readTurns => 56
  | .decide => 55
  | .readNext => 58
  | .tellPlace => 60
  | .tellHead => 63

/-- A process's next step, as a value. -/
def nxV (q : Nat) (x : Nx) : Value := if x = .rest then .nilFunc else .func (.func (fnOf x)) #[ptr q] #[]

def pcC (l p : Nat) (x : Value) (q : Pc) : Array Value :=
  #[.int .i64 (p : Int), ptr l, x, .int .i64 (q.began : Int), .int .i64 (q.seq : Int), .int .i64 q.resp, .int .i64 (q.own : Int), .int .i64 (q.ato : Int), .int .i64 (q.place : Int), .int .i64 (q.asked : Int), .int .i64 (q.other : Int), .int .i64 (q.wanted : Int)]

/-- What a list has but its nodes, its log, its state's numbers. -/
def lsC (n m : Nat) (nv lv sv : Value) (s : St) : Array Value :=
  #[.int .i64 (n : Int), ptr m, .int .i64 0, .int .i64 (n : Int), nv, lv, .int .i64 s.kind, sv, .bool s.shut, .int .i64 s.eng]

def ndC (n k : Nat) (d : Nd) : Array Value :=
  #[.int .i64 (d.proc : Int), .int .i64 (d.seq : Int), .int .i64 d.op.code, .int .i64 d.op.a, .int .i64 d.op.b, .int .i64 (2 * (n : Int) + 2 * (k : Int)), .int .i64 (2 * (n : Int) + 2 * (k : Int) + 1)]

def ndCells (n : Nat) : Nat → List Nd → List Value
  | _, [] => []
  | i, d :: r => (ndC n i d).toList ++ ndCells n (i + 1) r

theorem ndCells_length (n : Nat) : ∀ (i : Nat) (l : List Nd), (ndCells n i l).length = l.length * 7
  | _, [] => rfl
  | i, d :: r => by
    rw [ndCells, List.length_append, ndCells_length n (i + 1) r, List.length_cons]
    simp [ndC]
    omega

theorem ndCells_app (n : Nat) : ∀ (i : Nat) (a b : List Nd), ndCells n i (a ++ b) = ndCells n i a ++ ndCells n (i + a.length) b
  | _, [], b => rfl
  | i, d :: r, b => by
    rw [List.cons_append, ndCells, ndCells_app n (i + 1) r b, ndCells, List.append_assoc, List.length_cons]
    congr 3
    omega

theorem ndCells_get (n : Nat) : ∀ (i : Nat) (l : List Nd) (j k : Nat), j < l.length → k < 7 → (ndCells n i l)[j * 7 + k]? = (ndC n (i + j) (l.getD j nd0))[k]?
  | i, d :: r, 0, k, _, hk => by
    rw [ndCells, Nat.zero_mul, Nat.zero_add, List.getElem?_append_left (by simpa [ndC] using hk)]
    simp [List.getD]
  | i, d :: r, j + 1, k, hj, hk => by
    have e : (j + 1) * 7 + k = (ndC n i d).toList.length + (j * 7 + k) := by simp [ndC]; omega
    rw [ndCells, e, List.getElem?_append_right (Nat.le_add_right _ _), Nat.add_sub_cancel_left, ndCells_get n (i + 1) r j k (by simpa using hj) hk]
    have e2 : i + 1 + j = i + (j + 1) := by omega
    rw [e2]
    simp [List.getD]

theorem ndCells_one (n : Nat) : ∀ (i : Nat) (l : List Nd), ∀ u ∈ ndCells n i l, u.oneCell' = true
  | _, [], u, hu => by simp [ndCells] at hu
  | i, d :: r, u, hu => by
    rw [ndCells] at hu
    rcases List.mem_append.1 hu with h | h
    · simp [ndC] at h
      rcases h with rfl | rfl | rfl | rfl | rfl | rfl | rfl <;> rfl
    · exact ndCells_one n (i + 1) r u h

def ptrsC (qs : Nat → Nat) (n : Nat) : List Value := (List.range n).map fun i => ptr (qs i)

theorem ptrsC_get (qs : Nat → Nat) (n i : Nat) (hi : i < n) : (ptrsC qs n)[i]? = some (ptr (qs i)) := by
  unfold ptrsC
  simp [hi]

theorem ptrsC_length (qs : Nat → Nat) (n : Nat) : (ptrsC qs n).length = n := by simp [ptrsC]

/-- Where an engine lies. -/
structure HL where
  l : Nat
  m : Nat
  mc : Nat
  ms : Nat
  qs : Nat → Nat
  nv : Value
  lv : Value
  pv : Value
  sv : Value

/-- Its blocks, but that of its state's numbers. -/
def HasE (eb : Nat) (L : HL) (n : Nat) (k : Nat) : Prop :=
  k = eb ∨ k = L.l ∨ k = L.m ∨ k = L.mc ∨ k = L.ms ∨ (∃ p, p < n ∧ k = L.qs p) ∨ L.nv.ownBlock = some k ∨ L.lv.ownBlock = some k ∨ L.pv.ownBlock = some k

/-- What the machine has of it. -/
structure HRel (e : Eg) (M : Mc) : Prop where
  procs : M.procs = e.n
  len : M.len = 2 * e.n + 2 * e.nodes.length
  ann : ∀ p, p < e.n → M.c (p : Int) = e.ann p
  head : ∀ p, p < e.n → M.c ((e.n : Int) + (p : Int)) = e.head p
  nxt : ∀ k, k < e.nodes.length → M.c (2 * (e.n : Int) + 2 * (k : Int)) = e.nxt k
  plc : ∀ k, k < e.nodes.length → M.c (2 * (e.n : Int) + 2 * (k : Int) + 1) = e.plc k
  s : ∀ p, p < e.n → M.s (p : Int) = (e.ps p).did

structure EgL (w : World) (eb : Nat) (L : HL) (x : Nat → Value) (e : Eg) (M : Mc) (N : Nat) : Prop where
  head : Bk 63 w eb #[ptr L.l, L.pv]
  procs : w.ownsRow 0 64 1 L.pv e.n (ptrsC L.qs e.n)
  list : Bk 73 w L.l (lsC e.n L.m L.nv L.lv L.sv e.st)
  nodes : w.ownsRow 0 86 7 L.nv e.nodes.length (ndCells e.n 0 e.nodes)
  log : OwnR w 0 L.lv e.log
  st : RdI w L.sv e.st.L
  mac : MacL w L.m L.mc L.ms M N
  pr : ∀ p, p < e.n → Bk 68 w (L.qs p) (pcC L.l p (x p) (e.ps p))
  inj : ∀ p q, p < e.n → q < e.n → L.qs p = L.qs q → p = q
  stn : e.st.L = [] ∨ ∀ g, L.sv.ownBlock = some g → ¬ HasE eb L e.n g
  rel : HRel e M

/-- Within which bounds all of it is. -/
structure FitE (e : Eg) (N : Nat) : Prop where
  n : e.n ≤ 64
  nodes : e.nodes.length ≤ N + 1
  log : e.log.length ≤ N
  seq : ∀ p, p < e.n → (e.ps p).seq ≤ N
  recs : ∀ r ∈ e.log, RecOk r
  resp : ∀ p, p < e.n → I64 (e.ps p).resp
  ops : ∀ d ∈ e.nodes, OpOk d.op

theorem row_bk {w : World} {base n s : Nat} {t : TypeId} {v : Value} {xs : List Value} (h : w.ownsRow base t s v n xs) {g : Nat} (hg : v.ownBlock = some g) : ∃ cs, Bk t w g cs := by
  rcases h.2 with ⟨hv, _⟩ | ⟨g', cap, cur, hv, _, hb, _⟩
  · rw [hv] at hg; cases hg
  · rw [hv] at hg
    obtain rfl : g' = g := by simpa [Value.ownBlock] using hg
    exact ⟨_, hb⟩

theorem row_form {w : World} {base n s : Nat} {t : TypeId} {v : Value} {xs : List Value} (h : w.ownsRow base t s v n xs) : ∃ a c, v = .slice a n c := by
  rcases h.2 with ⟨hv, hn⟩ | ⟨g', cap, cur, hv, _⟩
  · exact ⟨_, _, by rw [hv, hn]⟩
  · exact ⟨_, _, hv⟩

theorem row_at {w : World} {n s : Nat} {t : TypeId} {v : Value} {xs : List Value} (h : w.ownsRow 0 t s v n xs) (hn : 0 < n) : ∃ g c, v = .slice (some ⟨g, 0, none⟩) n c ∧ ∀ (j : Nat) (u : Value), xs[j]? = some u → w.cell? ⟨g, j, none⟩ = some u := by
  rcases h.2 with ⟨hv, h0⟩ | ⟨g, cap, cur, hv, _⟩
  · omega
  · refine ⟨g, cap, hv, fun j u hu => ?_⟩
    have := World.ownsRow.cells h (g := g) (by rw [hv]; rfl) j u hu
    rw [Addr.add_lit, Nat.zero_add] at this
    exact this

/-- Which block is which. -/
structure Apt (w : World) (eb : Nat) (L : HL) (n : Nat) : Prop where
  eb_ : ∀ k, k = L.mc ∨ k = L.ms ∨ (∃ p, p < n ∧ k = L.qs p) → k ≠ eb ∧ L.pv.ownBlock ≠ some k ∧ k ≠ L.l ∧ L.nv.ownBlock ≠ some k ∧ L.lv.ownBlock ≠ some k
  m_ : ∀ p, p < n → L.qs p ≠ L.m ∧ L.qs p ≠ L.mc ∧ L.qs p ≠ L.ms
  l_ : L.l ≠ eb ∧ L.pv.ownBlock ≠ some L.l ∧ L.nv.ownBlock ≠ some L.l ∧ L.lv.ownBlock ≠ some L.l ∧ L.l ≠ L.m ∧ L.l ≠ L.mc ∧ L.l ≠ L.ms
  lv_ : ∀ g, L.lv.ownBlock = some g → g ≠ eb ∧ L.pv.ownBlock ≠ some g ∧ L.nv.ownBlock ≠ some g ∧ g ≠ L.l ∧ g ≠ L.m ∧ g ≠ L.mc ∧ g ≠ L.ms ∧ ∀ p, p < n → g ≠ L.qs p
  nv_ : ∀ g, L.nv.ownBlock = some g → g ≠ eb ∧ L.pv.ownBlock ≠ some g ∧ L.lv.ownBlock ≠ some g ∧ g ≠ L.l ∧ g ≠ L.m ∧ g ≠ L.mc ∧ g ≠ L.ms ∧ ∀ p, p < n → g ≠ L.qs p
  lt : ∀ k, HasE eb L n k → k < w.heap.size

theorem EgL.apt {w : World} {eb : Nat} {L : HL} {x : Nat → Value} {e : Eg} {M : Mc} {N : Nat} (h : EgL w eb L x e M N) : Apt w eb L e.n := by
  have pvb : ∀ g, L.pv.ownBlock = some g → ∃ cs, Bk 64 w g cs := fun g => row_bk h.procs
  have nvb : ∀ g, L.nv.ownBlock = some g → ∃ cs, Bk 86 w g cs := fun g => row_bk h.nodes
  have lvb : ∀ g, L.lv.ownBlock = some g → ∃ cs, Bk 53 w g cs := fun g => row_bk h.log
  have mm := h.mac.head
  have nomap : ∀ {t : TypeId} {b : Nat} {cs : Array Value}, Bk t w b cs → b ≠ L.mc ∧ b ≠ L.ms := fun hb => ⟨h.mac.cells.apart hb, h.mac.steps.apart hb⟩
  refine ⟨?_, ?_, ?_, ?_, ?_, ?_⟩
  · rintro k (rfl | rfl | ⟨p, hp, rfl⟩)
    · exact ⟨fun e => (nomap h.head).1 e.symm, fun e => (nomap (pvb _ e).choose_spec).1 rfl, fun e => (nomap h.list).1 e.symm, fun e => (nomap (nvb _ e).choose_spec).1 rfl, fun e => (nomap (lvb _ e).choose_spec).1 rfl⟩
    · exact ⟨fun e => (nomap h.head).2 e.symm, fun e => (nomap (pvb _ e).choose_spec).2 rfl, fun e => (nomap h.list).2 e.symm, fun e => (nomap (nvb _ e).choose_spec).2 rfl, fun e => (nomap (lvb _ e).choose_spec).2 rfl⟩
    · have hq := h.pr p hp
      exact ⟨hq.ne h.head (by decide), fun e => (hq.ne (pvb _ e).choose_spec (by decide)) rfl, hq.ne h.list (by decide), fun e => (hq.ne (nvb _ e).choose_spec (by decide)) rfl, fun e => (hq.ne (lvb _ e).choose_spec (by decide)) rfl⟩
  · intro p hp
    have hq := h.pr p hp
    exact ⟨hq.ne mm (by decide), (nomap hq).1, (nomap hq).2⟩
  · have hl := h.list
    exact ⟨hl.ne h.head (by decide), fun e => (hl.ne (pvb _ e).choose_spec (by decide)) rfl, fun e => (hl.ne (nvb _ e).choose_spec (by decide)) rfl, fun e => (hl.ne (lvb _ e).choose_spec (by decide)) rfl, hl.ne mm (by decide), (nomap hl).1, (nomap hl).2⟩
  · intro g hg
    obtain ⟨cs, hb⟩ := lvb g hg
    exact ⟨hb.ne h.head (by decide), fun e => (hb.ne (pvb _ e).choose_spec (by decide)) rfl, fun e => (hb.ne (nvb _ e).choose_spec (by decide)) rfl, hb.ne h.list (by decide), hb.ne mm (by decide), (nomap hb).1, (nomap hb).2, fun p hp => hb.ne (h.pr p hp) (by decide)⟩
  · intro g hg
    obtain ⟨cs, hb⟩ := nvb g hg
    exact ⟨hb.ne h.head (by decide), fun e => (hb.ne (pvb _ e).choose_spec (by decide)) rfl, fun e => (hb.ne (lvb _ e).choose_spec (by decide)) rfl, hb.ne h.list (by decide), hb.ne mm (by decide), (nomap hb).1, (nomap hb).2, fun p hp => hb.ne (h.pr p hp) (by decide)⟩
  · rintro k (rfl | rfl | rfl | rfl | rfl | ⟨p, hp, rfl⟩ | hk | hk | hk)
    · exact h.head.lt
    · exact h.list.lt
    · exact mm.lt
    · exact h.mac.cells.lt
    · exact h.mac.steps.lt
    · exact (h.pr p hp).lt
    · exact (nvb _ hk).choose_spec.lt
    · exact (lvb _ hk).choose_spec.lt
    · exact (pvb _ hk).choose_spec.lt

/-- What changes none of its blocks leaves it. -/
theorem EgL.only {w w' : World} {eb : Nat} {L : HL} {x : Nat → Value} {e : Eg} {M : Mc} {N : Nat} (h : EgL w eb L x e M N) {G : Nat → Prop} (ho : Only G w w') (hG : ∀ k, HasE eb L e.n k → ¬ G k)
    (hs : e.st.L = [] ∨ ∀ k, L.sv.ownBlock = some k → ¬ G k) : EgL w' eb L x e M N := by
  have kb : ∀ {t : TypeId} {b : Nat} {cs : Array Value}, Bk t w b cs → HasE eb L e.n b → Bk t w' b cs := fun hb hk => hb.keep (ho.block _ hb.lt (hG _ hk))
  refine ⟨kb h.head (.inl rfl), ownsRow_keep h.procs fun g hg => ?_, kb h.list (.inr (.inl rfl)), ownsRow_keep h.nodes fun g hg => ?_, ownsRow_keep h.log fun g hg => ?_, h.st.onlyE ho hs, h.mac.keep ?_ ?_ ?_, fun p hp => kb (h.pr p hp) ?_, h.inj, h.stn, h.rel⟩
  · have hk : HasE eb L e.n g := by unfold HasE; simp [hg]
    exact ho.block _ (h.apt.lt _ hk) (hG _ hk)
  · have hk : HasE eb L e.n g := by unfold HasE; simp [hg]
    exact ho.block _ (h.apt.lt _ hk) (hG _ hk)
  · have hk : HasE eb L e.n g := by unfold HasE; simp [hg]
    exact ho.block _ (h.apt.lt _ hk) (hG _ hk)
  · have hk : HasE eb L e.n L.m := by unfold HasE; simp
    exact ho.block _ (h.apt.lt _ hk) (hG _ hk)
  · have hk : HasE eb L e.n L.mc := by unfold HasE; simp
    exact ho.block _ (h.apt.lt _ hk) (hG _ hk)
  · have hk : HasE eb L e.n L.ms := by unfold HasE; simp
    exact ho.block _ (h.apt.lt _ hk) (hG _ hk)
  · exact .inr (.inr (.inr (.inr (.inr (.inl ⟨p, hp, rfl⟩)))))

theorem EgL.below {w w' : World} {eb : Nat} {L : HL} {x : Nat → Value} {e : Eg} {M : Mc} {N : Nat} (h : EgL w eb L x e M N) (hb : Below w.heap.size w w') : EgL w' eb L x e M N :=
  h.only (G := fun _ => False) (Only.ofBelow hb) (fun _ _ g => g) (.inr fun _ _ g => g)

/-- The blocks that a process's step changes, but for what takes effect. -/
def StepF (L : HL) (p : Nat) (k : Nat) : Prop := k = L.mc ∨ k = L.ms ∨ k = L.qs p

/-- A process's step that changes its own cells and the machine alone. -/
theorem EgL.own {w W : World} {eb : Nat} {L : HL} {x x' : Nat → Value} {e e' : Eg} {M M' : Mc} {N N' : Nat} {p : Nat} {q' : Pc} (h : EgL w eb L x e M N) (hp : p < e.n) (ho : Only (StepF L p) w W) (hm : MacL W L.m L.mc L.ms M' N')
    (hq : Bk 68 W (L.qs p) (pcC L.l p (x' p) q')) (hx : ∀ r, r ≠ p → x' r = x r)
    (h1 : e'.n = e.n) (h2 : e'.nodes = e.nodes) (h3 : e'.log = e.log) (h4 : e'.st = e.st) (h5 : e'.ps = putN e.ps p q') (hr : HRel e' M') : EgL W eb L x' e' M' N' := by
  have A := h.apt
  have hF : ∀ k, StepF L p k → k = L.mc ∨ k = L.ms ∨ (∃ p, p < e.n ∧ k = L.qs p) := fun k hk => by
    rcases hk with hk | hk | hk
    · exact .inl hk
    · exact .inr (.inl hk)
    · exact .inr (.inr ⟨p, hp, hk⟩)
  refine ⟨h.head.only ho fun g => (A.eb_ _ (hF _ g)).1 rfl, ?_, ?_, ?_, ?_, ?_, hm, fun r hr' => ?_, by rw [h1]; exact h.inj, by rw [h4, h1]; exact h.stn, hr⟩
  · rw [h1]
    exact ownsRow_keep h.procs fun g hg => ho.block _ (row_bk h.procs hg).choose_spec.lt fun k => (A.eb_ _ (hF _ k)).2.1 hg
  · rw [h1, h4]
    exact h.list.only ho fun g => (A.eb_ _ (hF _ g)).2.2.1 rfl
  · rw [h1, h2]
    exact ownsRow_keep h.nodes fun g hg => ho.block _ (row_bk h.nodes hg).choose_spec.lt fun k => (A.eb_ _ (hF _ k)).2.2.2.1 hg
  · rw [h3]
    exact ownsRow_keep h.log fun g hg => ho.block _ (row_bk h.log hg).choose_spec.lt fun k => (A.eb_ _ (hF _ k)).2.2.2.2 hg
  · rw [h4]
    refine h.st.onlyE ho (h.stn.imp id fun k g hg hf => k g hg ?_)
    unfold HasE
    rcases hf with hf | hf | hf
    · simp [hf]
    · simp [hf]
    · exact .inr (.inr (.inr (.inr (.inr (.inl ⟨p, hp, hf⟩)))))
  · rw [h1] at hr'
    rw [h5]
    by_cases a : r = p
    · subst a
      rw [putN_same]
      exact hq
    · rw [putN_other _ _ a, hx r a]
      refine (h.pr r hr').only ho ?_
      rintro (k | k | k)
      · exact (A.m_ r hr').2.1 k
      · exact (A.m_ r hr').2.2 k
      · exact a (h.inj _ _ hr' hp k)

/-! ### The machine's cells -/

theorem inM_nat {k n : Nat} (h : k < n) : inM (k : Int) (n : Int) = true := decide_eq_true ⟨by omega, by omega⟩

/-- One more access is counted. -/
theorem HRel.step {e e' : Eg} {M : Mc} {p : Nat} (h : HRel e M) (hp : p < e.n) (h1 : e'.n = e.n) (h2 : e'.nodes = e.nodes) (h3 : e'.ann = e.ann) (h4 : e'.head = e.head) (h5 : e'.nxt = e.nxt) (h6 : e'.plc = e.plc)
    (h7 : ∀ r, r ≠ p → (e'.ps r).did = (e.ps r).did) (h8 : (e'.ps p).did = (e.ps p).did + 1) : HRel e' (readM M (p : Int)) := by
  have hin : inM (p : Int) M.procs = true := by rw [h.procs]; exact inM_nat hp
  refine ⟨by rw [h1]; exact h.procs, by rw [h1, h2]; exact h.len, by rw [h1, h3]; exact h.ann, by rw [h1, h4]; exact h.head, by rw [h1, h2, h5]; exact h.nxt, by rw [h1, h2, h6]; exact h.plc, fun r hr => ?_⟩
  rw [h1] at hr
  show stepM M (p : Int) (r : Int) = _
  unfold stepM putF
  rw [if_pos hin]
  by_cases a : r = p
  · subst a
    rw [if_pos rfl, h8, h.s r hr]
    omega
  · rw [if_neg (by omega), h7 r a]
    exact h.s r hr

/-- One access more, and a cell is told anew. -/
theorem HRel.put {e e' : Eg} {M : Mc} {p : Nat} {c v : Int} (h : HRel e M) (hp : p < e.n) (hc : inM c M.len = true) (h1 : e'.n = e.n) (h2 : e'.nodes = e.nodes)
    (h3 : ∀ r, r < e.n → (e'.ann r : Int) = if c = (r : Int) then v else (e.ann r : Int)) (h4 : ∀ r, r < e.n → (e'.head r : Int) = if c = (e.n : Int) + (r : Int) then v else (e.head r : Int))
    (h5 : ∀ k, k < e.nodes.length → (e'.nxt k : Int) = if c = 2 * (e.n : Int) + 2 * (k : Int) then v else (e.nxt k : Int)) (h6 : ∀ k, k < e.nodes.length → (e'.plc k : Int) = if c = 2 * (e.n : Int) + 2 * (k : Int) + 1 then v else (e.plc k : Int))
    (h7 : ∀ r, r ≠ p → (e'.ps r).did = (e.ps r).did) (h8 : (e'.ps p).did = (e.ps p).did + 1) (g : Int → Int) (hg : g (M.c c) = v) : HRel e' (accM M (p : Int) c g) := by
  have hin : inM (p : Int) M.procs = true := by rw [h.procs]; exact inM_nat hp
  rw [accM_in hc, hg]
  refine ⟨by rw [h1]; exact h.procs, by rw [h1, h2]; exact h.len, fun r hr => ?_, fun r hr => ?_, fun k hk => ?_, fun k hk => ?_, fun r hr => ?_⟩
  · rw [h1] at hr
    rw [h3 r hr, ← h.ann r hr]
    rfl
  · rw [h1] at hr ⊢
    rw [h4 r hr, ← h.head r hr]
    rfl
  · rw [h2] at hk
    rw [h1, h5 k hk, ← h.nxt k hk]
    rfl
  · rw [h2] at hk
    rw [h1, h6 k hk, ← h.plc k hk]
    rfl
  · rw [h1] at hr
    show stepM M (p : Int) (r : Int) = _
    unfold stepM putF
    rw [if_pos hin]
    by_cases a : r = p
    · subst a
      rw [if_pos rfl, h8, h.s r hr]
      omega
    · rw [if_neg (by omega), h7 r a]
      exact h.s r hr

end Go.Proofs.Ytiofhmlkgieclaa

