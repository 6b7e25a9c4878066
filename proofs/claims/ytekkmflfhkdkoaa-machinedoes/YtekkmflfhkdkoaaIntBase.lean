/- Slices of numbers in memory: what one reads ('RdI'), what a call owns ('OwnI'), and append onto them. -/
import Derived.Test.YtekkmflfhkdkoaaRows
import Derived.WalkKit
import Derived.ProofKit
import Derived.ChangeSlices
import Derived.Test.YtekkmflfhkdkoaaBase0
namespace Go.Proofs.Ytekkmflfhkdkoaa
open Go.RowKit

theorem hide' {p : Prop} (h : p) : Hid p := h

/-- A number of 64 bits. -/
def I64 (n : Int) : Prop := -9223372036854775808 ≤ n ∧ n ≤ 9223372036854775807

/-- The slice value v reads, in the world w, as the numbers l. -/
def RdI (w : World) (v : Value) (l : List Int) : Prop :=
  ∃ ao cap, v = .slice ao l.length cap ∧ l.length ≤ cap ∧ cap ≤ maxLen ∧ (ao = none → cap = 0) ∧ (∀ n ∈ l, I64 n) ∧
    (l = [] ∨ ∃ b off, ao = some ⟨b, off, none⟩ ∧ ∀ j, j < l.length → w.cell? ⟨b, off + j, none⟩ = some (.int .i64 (l.getD j 0)))

/-- The cells of numbers. -/
def intCells (l : List Int) : List Value := l.map (Value.int .i64)

/-- The slice value v lies at the head of a row of its own, from block B on, that holds the numbers l. -/
def OwnI (w : World) (B : Nat) (v : Value) (l : List Int) : Prop := w.ownsRow B 3 1 v l.length (intCells l)

theorem intCells_length (l : List Int) : (intCells l).length = l.length := by simp [intCells]

theorem intCells_get (l : List Int) (j : Nat) (h : j < l.length) : (intCells l)[j]? = some (.int .i64 (l.getD j 0)) := by
  simp [intCells, List.getD, h]

theorem intCells_one (l : List Int) : ∀ u ∈ intCells l, u.oneCell' = true := by
  intro u hu
  obtain ⟨_, _, rfl⟩ := List.mem_map.1 hu
  rfl

theorem RdI.nil (w : World) : RdI w (.slice none 0 0) [] := ⟨none, 0, rfl, Nat.le_refl _, Nat.zero_le _, fun _ => rfl, (fun n h => by simp at h), .inl rfl⟩

theorem OwnI.nil (w : World) (B : Nat) : OwnI w B (.slice none 0 0) [] := World.ownsRow_nil w B 3 1

theorem RdI.i64 {w : World} {v : Value} {l : List Int} (h : RdI w v l) : ∀ n ∈ l, I64 n := by
  obtain ⟨_, _, _, _, _, _, h, _⟩ := h
  exact h

theorem getD_i64 {l : List Int} (h : ∀ n ∈ l, I64 n) (j : Nat) : I64 (l.getD j 0) := by
  by_cases hj : j < l.length
  · have e : l.getD j 0 = l[j] := by simp [List.getD, hj]
    rw [e]
    exact h _ (List.getElem_mem hj)
  · have e : l.getD j 0 = 0 := by simp [List.getD, hj]
    rw [e]
    exact ⟨by decide, by decide⟩

theorem RdI.below {w w' : World} {v : Value} {l : List Int} (h : RdI w v l) {B : Nat} (hb : Below B w w') (hB : w.heap.size ≤ B) : RdI w' v l := by
  obtain ⟨ao, cap, h1, h2, h3, hn, hw, h4⟩ := h
  refine ⟨ao, cap, h1, h2, h3, hn, hw, ?_⟩
  rcases h4 with h4 | ⟨b, off, h5, h6⟩
  · exact .inl h4
  · refine .inr ⟨b, off, h5, fun j hj => ?_⟩
    have hc := h6 j hj
    have hlt : b < w.heap.size := World.block_lt_of_cell? w ⟨b, off + j, none⟩ hc
    rw [hb.cell (p := ⟨b, off + j, none⟩) (by exact Nat.lt_of_lt_of_le hlt hB)]
    exact hc

/-- A row of numbers that came in. -/
theorem RdI.ofRow {w : World} {x : Addr} {len cap : Nat} {zs : List Int} (hl : len ≤ cap) (hm : cap ≤ maxLen) (hz : zs.length = cap) (hcell : ∀ i, i < zs.length → w.cell? (x.add i) = some (.int .i64 (zs.getD i 0))) (hwz : ∀ n ∈ zs, (Lit.int .i64 n).wf = true) :
    RdI w (.slice (some x) len cap) (zs.take len) := by
  have hlen : (zs.take len).length = len := by simp; omega
  refine ⟨some x, cap, by rw [hlen], by omega, hm, (fun e => by cases e), fun n hn => ?_, ?_⟩
  · have := hwz n (List.mem_of_mem_take hn)
    simpa [I64, Lit.wf, IntKind.min, IntKind.max, IntKind.signed, IntKind.bits] using this
  · by_cases h0 : len = 0
    · exact .inl (by rw [h0]; rfl)
    · obtain ⟨b, off, spot⟩ := x
      have hc := hcell 0 (by omega)
      have hspot : spot = none := by simpa [Addr.add] using World.cell?_spot hc
      subst hspot
      refine .inr ⟨b, off, rfl, fun j hj => ?_⟩
      have hcj := hcell j (by omega)
      rw [Addr.add_lit] at hcj
      rw [hcj]
      have hj' : j < len := by omega
      simp [List.getD, hj']

theorem OwnI.rd {w : World} {B : Nat} {v : Value} {l : List Int} (h : OwnI w B v l) (hw : ∀ n ∈ l, I64 n) : RdI w v l := by
  rcases h.2 with ⟨hv, hn⟩ | ⟨g, cap, cur, hv, hb, hg, hnc, hcm, hcs, htake⟩
  · exact ⟨none, 0, by rw [hv, hn], by omega, Nat.zero_le _, fun _ => rfl, hw, .inl (List.eq_nil_of_length_eq_zero hn)⟩
  · refine ⟨some ⟨g, 0, none⟩, cap, hv, hnc, hcm, (fun e => by cases e), hw, .inr ⟨g, 0, rfl, fun j hj => ?_⟩⟩
    have := World.ownsRow.cells h (g := g) (by rw [hv]; rfl) j _ (intCells_get l j hj)
    rw [Addr.add_lit] at this
    exact this

theorem OwnI.mono {w : World} {B B' : Nat} {v : Value} {l : List Int} (h : OwnI w B v l) (hB : B' ≤ B) : OwnI w B' v l := by
  obtain ⟨h1, h2⟩ := h
  refine ⟨h1, ?_⟩
  rcases h2 with h2 | ⟨g, cap, cur, hv, hb, r⟩
  · exact .inl h2
  · exact .inr ⟨g, cap, cur, hv, by omega, r⟩

theorem OwnI.below {w w' : World} {B B' : Nat} {v : Value} {l : List Int} (h : OwnI w B v l) (hb : Below B' w w') (hB : w.heap.size ≤ B') : OwnI w' B v l := by
  obtain ⟨h1, h2⟩ := h
  refine ⟨h1, ?_⟩
  rcases h2 with h2 | ⟨g, cap, cur, hv, hbg, hg, r⟩
  · exact .inl h2
  · have hlt : g < w.heap.size := (Array.getElem?_eq_some_iff.1 hg).1
    exact .inr ⟨g, cap, cur, hv, hbg, by rw [hb.block g (by omega)]; exact hg, r⟩

theorem info_i64 : (Try.prog.info? 3).map (fun i => (i.zero, i.size, i.bytes)) = some (some (.int .i64 0), 1, 8) := by kernel_rfl

/-- The cells of what is read, for an append of them. -/
theorem RdI.cells {w : World} {ao : Option Addr} {l : List Int} (h : l = [] ∨ ∃ b off, ao = some ⟨b, off, none⟩ ∧ ∀ j, j < l.length → w.cell? ⟨b, off + j, none⟩ = some (.int .i64 (l.getD j 0))) :
    ∀ ad, ao = some ad → ∀ j u, (intCells l)[j]? = some u → w.cell? (ad.add j) = some u := by
  intro ad had j u hu
  have hj : j < l.length := by
    have := (List.getElem?_eq_some_iff.1 hu).1
    simpa [intCells] using this
  rcases h with rfl | ⟨b, off, h5, h6⟩
  · simp at hj
  · rw [h5] at had
    obtain rfl := Option.some.inj had
    rw [Addr.add_lit, h6 j hj, ← intCells_get l j hj, hu]

/-- One number more behind numbers of the call's own. -/
theorem run_append_int (w : World) (ty : TypeId) (B : Nat) (v : Value) (l : List Int) (h : OwnI w B v l) (n : Int) (hlim : l.length ≤ 1000000) (hbase : B ≤ w.heap.size) :
    ∃ v' w', (Builtin.append_ #[37, 37] ty #[v, .slice (some ⟨w.heap.size, 0, none⟩) 1 1]).run Try.prog (w.alloc (.cells #[.int .i64 n] 3)) = .ok v' w' ∧ OwnI w' B v' (l ++ [n]) ∧ Below B w w' := by
  obtain ⟨i0, hi, hz0, hz1, hz2⟩ := info_parts info_i64
  obtain ⟨v', w', hrun, ho, hg, _⟩ := run_append_own (P := Try.prog) (w.alloc (.cells #[.int .i64 n] 3)) B 37 ty 3 i0 (.int .i64 0) 1 8 Try.underlying37 hi hz0 hz1 hz2 rfl (by decide) v l.length (intCells l) (World.ownsRow.alloc h _)
    ⟨w.heap.size, 0, none⟩ 1 1 [.int .i64 n] rfl (fun j u hj => by
      match j, hj with
      | 0, hj => simp at hj; subst hj; simp [Addr.add]) (fun u hu => by simp at hu; subst hu; rfl) (by unfold maxLen; omega) (by omega) (by simp; omega)
  refine ⟨v', w', hrun, ?_, ?_⟩
  · unfold OwnI
    have e1 : (l ++ [n]).length = l.length + 1 := by simp
    have e2 : intCells (l ++ [n]) = intCells l ++ [.int .i64 n] := by simp [intCells]
    rw [e1, e2]
    exact ho
  · exact ((Below.refl _ _).alloc hbase _).grown hg (by simp; omega) (fun k hk => (World.ownsRow.lt h k hk).1)

theorem wpList_append_int (w : World) {ops : Array Oper} {rest : List Oper} {o : Oper} {a : Act} {Q : Exit → Act → World → Prop} (hgd : o.guard = none) (s x : Operand)
    (ho : o.op = .call { callee := .builtin .append, args := #[s, x], argTypes := #[37, 37] })
    (B : Nat) (v : Value) (l : List Int) (hs : a.eval s = v) (hown : OwnI w B v l) (n : Int) (hx : a.eval x = .slice (some ⟨w.heap.size, 0, none⟩) 1 1)
    (hlim : l.length ≤ 1000000) (hbase : B ≤ w.heap.size)
    (h : ∀ v' w', OwnI w' B v' (l ++ [n]) → Below B w w' → wpList Try.prog ops Q rest (a.put o.dst v') w') : wpList Try.prog ops Q (o :: rest) a (w.alloc (.cells #[.int .i64 n] 3)) :=
  wpList_plain hgd fun _ hK => by
    obtain ⟨v', w', hrun, h2, h3⟩ := run_append_int w o.type B v l hown n hlim hbase
    unfold Oper.wp execOp
    simp only [ho, resolve, invoke, builtin, Sem.run_bind, Sem.run_pure, Result.andThen_ok, List.map_toArray, List.map_cons, List.map_nil, hs, hx, hrun]
    exact hK _ _ (h v' w' h2 h3)

/-- Numbers behind numbers of the call's own. -/
theorem run_append_ints (w : World) (ty : TypeId) (B : Nat) (v : Value) (l0 : List Int) (hown : OwnI w B v l0) (vx : Value) (l : List Int) (hr : RdI w vx l)
    (hlim : l0.length + l.length ≤ 1000000) (hbase : B ≤ w.heap.size) :
    ∃ v' w', (Builtin.append_ #[37, 37] ty #[v, vx]).run Try.prog w = .ok v' w' ∧ OwnI w' B v' (l0 ++ l) ∧ Below B w w' := by
  obtain ⟨i0, hi, hz0, hz1, hz2⟩ := info_parts info_i64
  obtain ⟨ao, cap, rfl, hlc, hcm, hn0, _, hao⟩ := hr
  cases ao with
  | none =>
    have hc := hn0 rfl
    subst hc
    have hl : l = [] := List.eq_nil_of_length_eq_zero (by omega)
    subst hl
    have hrun := run_append_owned_none (P := Try.prog) w B 37 ty 3 i0 1 Try.underlying37 hi v l0.length (intCells l0) hown
    exact ⟨v, w, hrun, by rw [List.append_nil]; exact hown, Below.refl _ _⟩
  | some a =>
    obtain ⟨v', w', hrun, ho, hg, _⟩ := run_append_own (P := Try.prog) w B 37 ty 3 i0 (.int .i64 0) 1 8 Try.underlying37 hi hz0 hz1 hz2 rfl (by decide) v l0.length (intCells l0) hown a l.length cap (intCells l)
      (by rw [intCells_length, Nat.mul_one]) (RdI.cells hao a rfl) (intCells_one l) (by unfold maxLen; omega) (by omega) hbase
    refine ⟨v', w', hrun, ?_, ?_⟩
    · unfold OwnI
      have e1 : (l0 ++ l).length = l0.length + l.length := by simp
      have e2 : intCells (l0 ++ l) = intCells l0 ++ intCells l := by simp [intCells]
      rw [e1, e2]
      exact ho
    · exact (Below.refl _ _).grown hg hbase (fun k hk => (World.ownsRow.lt hown k hk).1)

theorem wpList_append_ints (w : World) {ops : Array Oper} {rest : List Oper} {o : Oper} {a : Act} {Q : Exit → Act → World → Prop} (hgd : o.guard = none) (s x : Operand)
    (ho : o.op = .call { callee := .builtin .append, args := #[s, x], argTypes := #[37, 37] })
    (B : Nat) (v : Value) (l0 : List Int) (hs : a.eval s = v) (hown : OwnI w B v l0) (vx : Value) (l : List Int) (hx : a.eval x = vx) (hr : RdI w vx l)
    (hlim : l0.length + l.length ≤ 1000000) (hbase : B ≤ w.heap.size)
    (h : ∀ v' w', OwnI w' B v' (l0 ++ l) → Below B w w' → wpList Try.prog ops Q rest (a.put o.dst v') w') : wpList Try.prog ops Q (o :: rest) a w :=
  wpList_plain hgd fun _ hK => by
    obtain ⟨v', w', hrun, h2, h3⟩ := run_append_ints w o.type B v l0 hown vx l hr hlim hbase
    unfold Oper.wp execOp
    simp only [ho, resolve, invoke, builtin, Sem.run_bind, Sem.run_pure, Result.andThen_ok, List.map_toArray, List.map_cons, List.map_nil, hs, hx, hrun]
    exact hK _ _ (h v' w' h2 h3)

end Go.Proofs.Ytekkmflfhkdkoaa
