/- What SnapshotParts leans on: records behind some, rows of operations, how great a state becomes. -/
import Derived.Test.YtanmjihiceibbabSnapAwake
import Derived.Test.YtanmjihiceibbabOpenObjs
import Derived.Test.YtanmjihiceibbabObjsFold
import Derived.Test.YtanmjihiceibbabObjsSame
namespace Go.Proofs.Ytanmjihiceibbab
open Go.RowKit

theorem RdR.back {w : World} {ao : Option Addr} {n cap : Nat} {l : List Rec} (h : RdR w (.slice ao n cap) l) (k : Nat) (hk : k ≤ l.length) : RdR w (sliced ao k n cap 7) (l.drop k) := by
  obtain ⟨ao', cap', hv, h1, h2, h3, hw, h4⟩ := h
  simp only [Value.slice.injEq] at hv
  obtain ⟨rfl, rfl, rfl⟩ := hv
  have hlen : (l.drop k).length = l.length - k := List.length_drop
  refine ⟨if cap = k then ao else ao.map (·.add (k * 7)), cap - k, by unfold sliced; rw [hlen], by omega, by omega, ?_, fun r hr => hw r (List.mem_of_mem_drop hr), ?_⟩
  · intro h
    split at h
    · have := h3 h
      omega
    · cases ao with
      | none => have := h3 rfl; omega
      | some a => cases h
  · by_cases hd : l.drop k = []
    · exact .inl hd
    · have h0 : 0 < (l.drop k).length := List.length_pos_iff.2 hd
      rcases h4 with h4 | ⟨b, off, rfl, h6⟩
      · rw [h4] at hd
        simp at hd
      · refine .inr ⟨b, off + k * 7, by rw [if_neg (by omega)]; simp [Addr.add], fun j hj => ?_⟩
        have h7 := h6 (k + j) (by omega)
        have e1 : off + (k + j) * 7 = off + k * 7 + j * 7 := by omega
        have e2 : (l.drop k).getD j zeroR = l.getD (k + j) zeroR := by simp [List.getD, List.getElem?_drop]
        rw [e2, ← e1]
        exact h7

theorem run_back_recs (W : World) (ao : Option Addr) (n cap : Nat) (k : Nat) (hk : k ≤ n) :
    (Instr.sliceAt 28 (.slice ao n cap) (some (.int .i64 (k : Int))) none none).run Try.prog W = .ok (sliced ao k n cap 7) W := by
  rw [run_sliceAt_slice W 28 _ _ _ _ under_recs, run_slice_l W 28 ao n cap under_recs .i64 (k : Int) (by omega) (by omega), elem_recs, size_rec]
  show Result.ok (sliced ao ((k : Int)).toNat n cap 7) W = _
  rw [Int.toNat_natCast]

def zeroO : Opn := ⟨0, 0, 0⟩

def opC (o : Opn) : Array Value := #[.int .i64 o.code, .int .i64 o.a, .int .i64 o.b]

def opCells : List Opn → List Value
  | [] => []
  | r :: t => (opC r).toList ++ opCells t

theorem opCells_length : ∀ l : List Opn, (opCells l).length = l.length * 3
  | [] => rfl
  | r :: t => by
    rw [opCells, List.length_append, opCells_length t, List.length_cons]
    simp [opC]
    omega

theorem opCells_app : ∀ a b : List Opn, opCells (a ++ b) = opCells a ++ opCells b
  | [], _ => rfl
  | r :: t, b => by rw [List.cons_append, opCells, opCells_app t b, opCells, List.append_assoc]

theorem opCells_get : ∀ (l : List Opn) (j k : Nat), j < l.length → k < 3 → (opCells l)[j * 3 + k]? = (opC (l.getD j ⟨0, 0, 0⟩))[k]?
  | r :: t, 0, k, _, hk => by
    rw [opCells, Nat.zero_mul, Nat.zero_add, List.getElem?_append_left (by simp [opC]; omega)]
    simp [List.getD]
  | r :: t, j + 1, k, hj, hk => by
    have e : (j + 1) * 3 + k = (opC r).toList.length + (j * 3 + k) := by simp [opC]; omega
    rw [opCells, e, List.getElem?_append_right (by omega), Nat.add_sub_cancel_left, opCells_get t j k (by simpa using hj) hk]
    simp [List.getD]

theorem opCells_one (l : List Opn) : ∀ u ∈ opCells l, u.oneCell' = true := by
  induction l with
  | nil => intro u hu; simp [opCells] at hu
  | cons r t ih =>
    intro u hu
    rw [opCells] at hu
    rcases List.mem_append.1 hu with h | h
    · simp [opC] at h
      rcases h with rfl | rfl | rfl <;> rfl
    · exact ih u h

/-- The slice value v lies at the head of a row of its own, from block B on, that holds the operations l. -/
def OwnO (w : World) (B : Nat) (v : Value) (l : List Opn) : Prop := w.ownsRow B 36 3 v l.length (opCells l)

theorem OwnO.nil (w : World) (B : Nat) : OwnO w B (.slice none 0 0) [] := World.ownsRow_nil w B 36 3

theorem OwnO.rd {w : World} {B : Nat} {v : Value} {l : List Opn} (h : OwnO w B v l) (hw : ∀ r ∈ l, OpOk r) : RdO w v l := by
  rcases h.2 with ⟨hv, hn⟩ | ⟨g, cap, cur, hv, hb, hg, hnc, hcm, hcs, htake⟩
  · exact ⟨none, 0, by rw [hv, hn], by omega, Nat.zero_le _, fun _ => rfl, hw, .inl (List.eq_nil_of_length_eq_zero hn)⟩
  · refine ⟨some ⟨g, 0, none⟩, cap, hv, hnc, hcm, (fun e => by cases e), hw, .inr ⟨g, 0, rfl, fun j hj => ?_⟩⟩
    have hc : ∀ k u, k < 3 → (opC (l.getD j ⟨0, 0, 0⟩))[k]? = some u → w.cell? ⟨g, 0 + j * 3 + k, none⟩ = some u := fun k u hk hu => by
      have := World.ownsRow.cells h (g := g) (by rw [hv]; rfl) (j * 3 + k) u ((opCells_get l j k hj hk).trans hu)
      rw [Addr.add_lit] at this
      rw [Nat.add_assoc]
      exact this
    exact ⟨hc 0 _ (by decide) rfl, hc 1 _ (by decide) rfl, hc 2 _ (by decide) rfl⟩

theorem OwnO.shape {w : World} {B : Nat} {v : Value} {l : List Opn} (h : OwnO w B v l) : ∃ ao cap, v = .slice ao l.length cap := by
  rcases h.2 with ⟨hv, hn⟩ | ⟨g, cap, cur, hv, _⟩
  · exact ⟨none, 0, by rw [hv, hn]⟩
  · exact ⟨_, _, hv⟩

theorem info_op3 : (Try.prog.info? 36).map (fun i => (i.zero, i.size, i.bytes)) = some (some (.agg #[.int .i64 0, .int .i64 0, .int .i64 0]), 3, 24) := by kernel_rfl

/-- One more operation behind a row of one's own. -/
theorem run_append_opn (w : World) (ty : TypeId) (B : Nat) (v : Value) (l : List Opn) (h : OwnO w B v l) (r : Opn) (hlim : l.length ≤ 1000000) (hbase : B ≤ w.heap.size) :
    ∃ v' w', (Builtin.append_ #[34, 34] ty #[v, .slice (some ⟨w.heap.size, 0, none⟩) 1 1]).run Try.prog (w.alloc (.cells (opC r) 36)) = .ok v' w' ∧ OwnO w' B v' (l ++ [r]) ∧ Below B w w' := by
  obtain ⟨i0, hi, hz0, hz1, hz2⟩ := info_parts info_op3
  obtain ⟨v', w', hrun, ho, hg, _⟩ := run_append_own (P := Try.prog) (w.alloc (.cells (opC r) 36)) B 34 ty 36 i0 _ 3 24 Try.underlying34 hi hz0 hz1 hz2 rfl (by decide) v l.length (opCells l) (h.alloc _)
    ⟨w.heap.size, 0, none⟩ 1 1 (opCells [r]) (opCells_length [r]) (fun j u hj => by
      rw [Addr.add_lit, Nat.zero_add, cell_of_row _ w.heap.size j _ 36 (0, 0) (heap_alloc_new w _)]
      simpa [opCells] using hj) (opCells_one [r]) (by unfold maxLen; omega) (by omega) (by simp; omega)
  refine ⟨v', w', hrun, ?_, ?_⟩
  · unfold OwnO
    rw [List.length_append, opCells_app]
    exact ho
  · exact ((Below.refl _ _).alloc hbase _).grown hg (by simp; omega) (fun k hk => (World.ownsRow.lt h k hk).1)

theorem wpList_append_opn (w : World) {ops : Array Oper} {rest : List Oper} {o : Oper} {a : Act} {Q : Exit → Act → World → Prop} (hgd : o.guard = none) (s x : Operand)
    (ho : o.op = .call { callee := .builtin .append, args := #[s, x], argTypes := #[34, 34] })
    (B : Nat) (v : Value) (l : List Opn) (hs : a.eval s = v) (hown : OwnO w B v l) (r : Opn) (hx : a.eval x = .slice (some ⟨w.heap.size, 0, none⟩) 1 1)
    (hlim : l.length ≤ 1000000) (hbase : B ≤ w.heap.size)
    (h : ∀ v' w', OwnO w' B v' (l ++ [r]) → Below B w w' → wpList Try.prog ops Q rest (a.put o.dst v') w') : wpList Try.prog ops Q (o :: rest) a (w.alloc (.cells (opC r) 36)) :=
  wpList_plain hgd fun _ hK => by
    obtain ⟨v', w', hrun, h2, h3⟩ := run_append_opn w o.type B v l hown r hlim hbase
    unfold Oper.wp execOp
    simp only [ho, resolve, invoke, builtin, Sem.run_bind, Sem.run_pure, Result.andThen_ok, List.map_toArray, List.map_cons, List.map_nil, hs, hx, hrun]
    exact hK _ _ (h v' w' h2 h3)

theorem foldO_may {s : St} (h : MayS s) : ∀ l : List Opn, MayS (foldO s l).1
  | [] => h
  | o :: l => by
    rw [foldO]
    exact foldO_may (stepO_may h o) l

theorem foldO_few {s : St} (h : s.L.length ≤ 300) (l : List Opn) : (foldO s l).1.L.length ≤ 300 := by
  by_cases hm : MayS s
  · have := (may_small (foldO_may hm l)).2.1
    omega
  · rw [foldO_not hm]
    exact h

theorem takeN_fewL {s : Snap} {l : List Rec} (h : s.st.L.length ≤ 300) (h0 : (takeN s l).2 = 0) : (takeN s l).1.st.L.length ≤ 300 := by
  rw [(takeN_state l s h0).1]
  exact foldO_few h _

/-- What Take answers, written into a box that was made ahead of the call. -/
theorem taken_six {W0 W5 : World} {vl vt vl0 vt0 : Value} {s0 Y : Snap} {L : List Rec} (h0 : RdI W0 vl0 s0.st.L) (h1 : RdE W0 vt0 s0.tab)
    (hl : RdI W5 vl Y.st.L) (hk : I64 Y.st.kind) (he : I64 Y.st.eng) (ht : RdE W5 vt Y.tab) (hi : I64 Y.idx)
    (hf : vl = vl0 ∨ ∀ b, vl.ownBlock = some b → W0.heap.size < b) (hg : L = [] ∧ vt = vt0 ∨ OwnE W5 (W0.heap.size + 1) vt Y.tab)
    (hz : Bn W5 W0.heap.size #[.int .i64 0, .int .i64 0, .slice none 0 0, .bool false, .int .i64 0, .slice none 0 0]) (hb : Below W0.heap.size W0 W5) :
    Bn (six W5 W0.heap.size (.int .i64 Y.idx) (.int .i64 Y.st.kind) vl (.bool Y.st.shut) (.int .i64 Y.st.eng) vt) W0.heap.size #[.int .i64 Y.idx, .int .i64 Y.st.kind, vl, .bool Y.st.shut, .int .i64 Y.st.eng, vt] ∧
    SnV (six W5 W0.heap.size (.int .i64 Y.idx) (.int .i64 Y.st.kind) vl (.bool Y.st.shut) (.int .i64 Y.st.eng) vt) (.agg #[.int .i64 Y.idx, .int .i64 Y.st.kind, vl, .bool Y.st.shut, .int .i64 Y.st.eng, vt]) Y ∧
    Below W0.heap.size W0 (six W5 W0.heap.size (.int .i64 Y.idx) (.int .i64 Y.st.kind) vl (.bool Y.st.shut) (.int .i64 Y.st.eng) vt) := by
  refine ⟨?_, ⟨vl, vt, rfl, hl.but (butSix W5 W0.heap.size _ _ _ _ _ _) ?_, hk, he, ht.but (butSix W5 W0.heap.size _ _ _ _ _ _) ?_, hi⟩, belowSix hb _ (Nat.le_refl _) _ _ _ _ _ _⟩
  · have := (((((hz.set 0 (.int .i64 Y.idx)).set 1 (.int .i64 Y.st.kind)).set 2 vl).set 3 (.bool Y.st.shut)).set 4 (.int .i64 Y.st.eng)).set 5 vt
    unfold six
    simpa using this
  · rcases hf with rfl | hf
    · rcases h0.old with h | h
      · left
        obtain ⟨_, _, e1, -⟩ := h0
        obtain ⟨_, _, e2, -⟩ := hl
        rw [e1] at e2
        simp only [Value.slice.injEq] at e2
        rw [h] at e2
        exact List.eq_nil_of_length_eq_zero e2.2.1.symm
      · right
        intro b hb
        have := h b hb
        omega
    · right
      intro b hb
      have := hf b hb
      omega
  · rcases hg with ⟨-, rfl⟩ | hg
    · rcases h1.block with h | h
      · left
        obtain ⟨_, _, e1⟩ := h1.shape
        obtain ⟨_, _, e2⟩ := ht.shape
        rw [e1] at e2
        simp only [Value.slice.injEq] at e2
        rw [h] at e2
        exact List.eq_nil_of_length_eq_zero e2.2.1.symm
      · right
        intro b hb
        have := h b hb
        omega
    · right
      intro b hb
      have := hg.fresh b hb
      omega

theorem SnV.parts {w : World} {a b c d vl vt : Value} {s : Snap} (h : SnV w (.agg #[a, b, vl, c, d, vt]) s) : RdI w vl s.st.L ∧ RdE w vt s.tab := by
  obtain ⟨vl', vt', e, hl, _, _, ht, _⟩ := h
  injection e with e
  simp at e
  obtain ⟨-, -, rfl, -, -, rfl⟩ := e
  exact ⟨hl, ht⟩

theorem ops_snoc {l : List Rec} {i : Nat} (hi : i < l.length) : (l.take (i + 1)).map (fun r => r.op) = (l.take i).map (fun r => r.op) ++ [(l.getD i zeroR).op] := by
  have e : l.take (i + 1) = l.take i ++ [l.getD i zeroR] := by
    rw [List.take_add_one]
    simp [List.getD, hi]
  rw [e, List.map_append]
  rfl

/-- The state of a snapshot's value. -/
theorem SnV.state {w : World} {a b c d vl vt : Value} {s : Snap} (h : SnV w (.agg #[a, b, vl, c, d, vt]) s) : StV w (.agg #[b, vl, c, d]) s.st := by
  obtain ⟨vl', vt', e, h1, h2, h3, _, _⟩ := h
  simp only [Value.agg.injEq, Array.mk.injEq, List.cons.injEq, and_true] at e
  obtain ⟨rfl, rfl, rfl, rfl, rfl, rfl⟩ := e
  exact ⟨_, rfl, h1, h2, h3⟩

end Go.Proofs.Ytanmjihiceibbab
