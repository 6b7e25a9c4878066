/- More of rows: two rows of one call kept apart; a cut of a slice of slices; a slice of slices that came in. -/
import Derived.Test.YtmlagndgccdelaaRef03Same
import Derived.ChangeSlices
namespace Go.Proofs.Ytmlagndgccdelaa
open Go.RowKit Go.ChangeShapes

/-- Rows of two types lie apart. -/
theorem rows_apart {w : World} {B B' : Nat} {e1 e2 : TypeId} {v x : Value} {n m : Nat} {xs ys : List Value} (hne : e1 ≠ e2) (h1 : w.ownsRow B e1 1 v n xs) (h2 : w.ownsRow B' e2 1 x m ys) : x.ownBlock = none ∨ x.ownBlock ≠ v.ownBlock := by
  rcases h2.2 with ⟨hv, _⟩ | ⟨g, cap, cur, hv, _, hg, _⟩
  · exact .inl (by rw [hv]; rfl)
  · right
    rcases h1.2 with ⟨hv', _⟩ | ⟨g', cap', cur', hv', _, hg', _⟩
    · rw [hv, hv']
      exact fun e => by cases e
    · rw [hv, hv']
      intro e
      have e' : g = g' := by simpa [Value.ownBlock] using e
      rw [e', hg'] at hg
      have h3 : e1 = e2 := by
        injection hg with hg
        injection hg
      exact hne h3

/-- append of bytes onto bytes of the call's own, telling which row alone it may change. -/
theorem run_append_rdg (w : World) (ty : TypeId) (B : Nat) (v : Value) (l0 : List UInt8) (hown : Own w B v l0) (vx : Value) (l : List UInt8) (hr : Rd w vx l)
    (hlim : l0.length + l.length ≤ 70368744177664) (hbase : B ≤ w.heap.size) :
    ∃ v' w', (Builtin.append_ #[22, 22] ty #[v, vx]).run Try.prog w = .ok v' w' ∧ Own w' B v' (l0 ++ l) ∧ w.grownBy w' v.ownBlock := by
  obtain ⟨i0, hi, hz0, hz1, hz2⟩ := info_parts info8
  obtain ⟨ao, cap, rfl, hlc, hcm, hn0, hao⟩ := hr
  cases ao with
  | none =>
    have hc := hn0 rfl
    subst hc
    have hl : l = [] := List.eq_nil_of_length_eq_zero (by omega)
    subst hl
    have hrun := run_append_owned_none (P := Try.prog) w B 22 ty 5 i0 1 Try.underlying22 hi v l0.length (Lib.byteCells l0) hown
    exact ⟨v, w, hrun, by rw [List.append_nil]; exact hown, ⟨rfl, rfl, rfl, Nat.le_refl _, fun _ _ _ => rfl⟩⟩
  | some a =>
    obtain ⟨v', w', hrun, ho, hg, _⟩ := run_append_own (P := Try.prog) w B 22 ty 5 i0 (.int .u8 0) 1 1 Try.underlying22 hi hz0 hz1 hz2 rfl (by decide) v l0.length (Lib.byteCells l0) hown a l.length cap (Lib.byteCells l)
      (by rw [byteCells_length, Nat.mul_one]) (Rd.cells hao a rfl) (byteCells_one l) (by unfold maxLen; omega) (by omega) hbase
    exact ⟨v', w', hrun, Own.mk' ho (by simp) (by simp [Lib.byteCells]), hg⟩

theorem wpList_append_rdg (w : World) {ops : Array Oper} {rest : List Oper} {o : Oper} {a : Act} {Q : Exit → Act → World → Prop} (hgd : o.guard = none) (s x : Operand)
    (ho : o.op = .call { callee := .builtin .append, args := #[s, x], argTypes := #[22, 22] })
    (B : Nat) (v : Value) (l0 : List UInt8) (hs : a.eval s = v) (hown : Own w B v l0) (vx : Value) (l : List UInt8) (hx : a.eval x = vx) (hr : Rd w vx l)
    (hlim : l0.length + l.length ≤ 70368744177664) (hbase : B ≤ w.heap.size)
    (h : ∀ v' w', Own w' B v' (l0 ++ l) → w.grownBy w' v.ownBlock → wpList Try.prog ops Q rest (a.put o.dst v') w') : wpList Try.prog ops Q (o :: rest) a w :=
  wpList_plain hgd fun _ hK => by
    obtain ⟨v', w', hrun, h2, h3⟩ := run_append_rdg w o.type B v l0 hown vx l hr hlim hbase
    unfold Oper.wp execOp
    simp only [ho, resolve, invoke, builtin, Sem.run_bind, Sem.run_pure, Result.andThen_ok, List.map_toArray, List.map_cons, List.map_nil, hs, hx, hrun]
    exact hK _ _ (h v' w' h2 h3)

theorem elem_rows : Try.prog.elem 31 = 22 := by kernel_rfl

theorem size_bytes (w : World) : (sizeOf 22).run Try.prog w = .ok 1 w := by
  obtain ⟨i0, hi, _, hz1, _⟩ := info_parts info_bytes
  simp [sizeOf, typeInfo, hi, hz1]

theorem under_rows : Try.prog.underlying 31 = some (.slice (Try.prog.elem 31)) := by rw [elem_rows]; exact Try.underlying31

theorem run_cutL_h (w : World) (v : Value) (L : List (List UInt8)) (hr : RdL w v L) (k : IntKind) (j : Int) (h0 : 0 ≤ j) (h2 : j ≤ L.length) :
    ∃ v', (Instr.sliceAt 31 v none (some (.int k j)) none).run Try.prog w = .ok v' w ∧ RdL w v' (L.take j.toNat) := by
  have h := hr
  obtain ⟨ao, cap, rfl, hlc, _⟩ := hr
  refine ⟨.slice ao j.toNat cap, ?_, h.front j.toNat (by omega)⟩
  rw [run_sliceAt_slice w 31 _ _ _ _ under_rows, run_slice_h w 31 ao L.length cap under_rows k j h0 (by omega), elem_rows, size_bytes]
  show Result.ok (sliced ao 0 j.toNat cap 1) w = _
  unfold sliced
  have e : (if cap = 0 then ao else ao.map (·.add (0 * 1))) = ao := by
    split
    · rfl
    · cases ao <;> simp [Addr.add]
  rw [e, Nat.sub_zero, Nat.sub_zero]

theorem wpList_cutL (w : World) {ops : Array Oper} {rest : List Oper} {o : Oper} {a : Act} {Q : Exit → Act → World → Prop} (hgd : o.guard = none) (x : Operand) (lo hi mx : Option Operand)
    (ho : o.op = .slice 31 x lo hi mx) (L : List (List UInt8))
    (hrun : ∃ v', (Instr.sliceAt 31 (a.eval x) (lo.map a.eval) (hi.map a.eval) (mx.map a.eval)).run Try.prog w = .ok v' w ∧ RdL w v' L)
    (h : ∀ v', RdL w v' L → wpList Try.prog ops Q rest (a.put o.dst v') w) : wpList Try.prog ops Q (o :: rest) a w :=
  wpList_plain hgd fun _ hK => by
    obtain ⟨v', hrun, hr⟩ := hrun
    unfold Oper.wp execOp
    simp only [ho, hrun, Sem.run_bind, Sem.run_pure, Result.andThen_ok]
    exact hK _ _ (h v' hr)

theorem list_of {α : Type} (d : α) (P : Nat → α → Prop) : ∀ n : Nat, (∀ i, i < n → ∃ x, P i x) → ∃ L : List α, L.length = n ∧ ∀ i, i < n → P i (L.getD i d)
  | 0, _ => ⟨[], rfl, fun i hi => by omega⟩
  | n + 1, h => by
    obtain ⟨L, h1, h2⟩ := list_of d P n (fun i hi => h i (by omega))
    obtain ⟨x, hx⟩ := h n (by omega)
    refine ⟨L ++ [x], by simp [h1], fun i hi => ?_⟩
    by_cases e : i = n
    · subst e
      have e2 : (L ++ [x]).getD i d = x := by simp [List.getD, ← h1]
      rw [e2]
      exact hx
    · have e2 : (L ++ [x]).getD i d = L.getD i d := by
        simp [List.getD, List.getElem?_append_left (show i < L.length by omega)]
      rw [e2]
      exact h2 i (by omega)

/-- A slice of slices of bytes that came in, opened. -/
theorem open_rows {H : Type} {enc : TypeId × Value → H} {w : World} {held : Bool} {fuel : Nat} {a : Option Addr} {len cap : Nat} {x : DataW H × List MemPlace} (h : DataW.trod enc Try.prog w 0 (fun _ => true) held fuel 31 [.slice a len cap] = some x) :
    ∃ L, RdL w (.slice a len cap) L := by
  have hc1 : Try.prog.cellsOf 22 = 1 := by kernel_rfl
  have hc2 : Try.prog.cellsOf 5 = 1 := by kernel_rfl
  rcases DataW.trod_slice Try.underlying31 h with h0 | ⟨ad, len', cap', elems, rest, n, _, hcs, _, hb, hl, hm, hlen, hel, _⟩
  · have := h0.1
    simp at this
    obtain ⟨rfl, rfl, rfl⟩ := this
    exact ⟨[], RdL.nil _⟩
  · simp at hcs
    obtain ⟨rfl, rfl, rfl⟩ := hcs
    have each : ∀ i, i < len → ∃ l : List UInt8, ∃ y, w.cell? (ad.add i) = some y ∧ Rd w y l := by
      intro i hi
      have he := hel i hi
      rw [List.getElem?_eq_getElem (by omega), hc1, Nat.mul_one, Option.bind_eq_some_iff] at he
      obtain ⟨cs, hcs, hy⟩ := he
      rcases open_ints Try.underlying22 Try.underlying5 hc2 hy with ⟨rfl, _⟩ | ⟨x, l, c, zs, rfl, _, hl, hm, hz, _, hcell, hwz⟩
      · exact ⟨[], _, cell_of_cells?_one hcs, Rd.nil _⟩
      · exact ⟨_, _, cell_of_cells?_one hcs, Rd.ofRow hl hm (by simpa using hz) hcell hwz⟩
    obtain ⟨L, h1, h2⟩ := list_of [] _ len each
    refine ⟨L, some ad, cap, by rw [h1], by omega, hm, (fun e => by cases e), ?_⟩
    by_cases h0 : len = 0
    · exact .inl (List.eq_nil_of_length_eq_zero (by omega))
    · obtain ⟨b, off, spot⟩ := ad
      obtain ⟨y, hy, _⟩ := h2 0 (by omega)
      have hspot : spot = none := by simpa [Addr.add] using World.cell?_spot hy
      subst hspot
      refine .inr ⟨b, off, rfl, fun j hj => ?_⟩
      obtain ⟨y, hy, hr⟩ := h2 j (by omega)
      rw [Addr.add_lit] at hy
      exact ⟨y, hy, hr⟩

/-- Where the search for the whole frames ends. -/
theorem wholes_at : ∀ (L : List (List UInt8)) (m k : Nat), k ≤ L.length → (framesOf (L.take k)).length ≤ m → (k = L.length ∨ m < (framesOf (L.take (k + 1))).length) → wholes L m = (k, (framesOf (L.take k)).length)
  | [], m, k, hk, _, _ => by
    have e : k = 0 := by simpa using hk
    subst e
    rfl
  | x :: L, m, 0, _, h1, h2 => by
    have e : (framesOf ((x :: L).take 1)).length = (frameOf x).length := by simp [framesOf]
    rcases h2 with h2 | h2
    · simp at h2
    · rw [e] at h2
      rw [wholes, if_neg (by omega)]
      rfl
  | x :: L, m, k + 1, hk, h1, h2 => by
    have ef : ∀ j, (framesOf ((x :: L).take (j + 1))).length = (frameOf x).length + (framesOf (L.take j)).length := by
      intro j
      simp [framesOf]
    rw [ef] at h1 h2
    have ih := wholes_at L (m - (frameOf x).length) k (by simpa using hk) (by omega) (by
      rcases h2 with h2 | h2
      · left; simpa using h2
      · right; omega)
    rw [wholes, if_pos (by omega), ih, ef]
    simp
    omega

end Go.Proofs.Ytmlagndgccdelaa
