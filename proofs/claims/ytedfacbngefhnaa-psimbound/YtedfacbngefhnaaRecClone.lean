/- Clone of records, where little else is wanted. -/
import Derived.Test.YtedfacbngefhnaaBlockBase
import Derived.Lib.LazyBuf
namespace Go.Proofs.Ytedfacbngefhnaa
open Go.RowKit

set_option maxRecDepth 100000 in
/-- The cells of records that are read. -/
theorem RdR.cellsE {w : World} {ao : Option Addr} {l : List Rec} (h : l = [] ∨ ∃ b off, ao = some ⟨b, off, none⟩ ∧ ∀ j, j < l.length → RecAt w b (off + j * 7) (l.getD j zeroR)) (a : Addr) (ha : ao = some a) :
    ∀ j u, (recCells l)[j]? = some u → w.cell? (a.add j) = some u := by
  intro j u hu
  rcases h with h | ⟨b, off, h5, h6⟩
  · rw [h] at hu
    simp [recCells] at hu
  · rw [h5] at ha
    injection ha with ha
    subst ha
    have hj : j < (recCells l).length := (List.getElem?_eq_some_iff.1 hu).1
    rw [recCells_length] at hj
    have hdiv : j = j / 7 * 7 + j % 7 := by omega
    have hg := recCells_get l (j / 7) (j % 7) (by omega) (by omega)
    rw [← hdiv, hu] at hg
    obtain ⟨c0, c1, c2, c3, c4, c5, c6⟩ := h6 (j / 7) (by omega)
    have e : ∀ k, k < 7 → off + (j / 7 * 7 + k) = off + j / 7 * 7 + k := fun k _ => by omega
    rw [Addr.add_lit, hdiv, e (j % 7) (by omega)]
    have hk : j % 7 = 0 ∨ j % 7 = 1 ∨ j % 7 = 2 ∨ j % 7 = 3 ∨ j % 7 = 4 ∨ j % 7 = 5 ∨ j % 7 = 6 := by omega
    rcases hk with hk | hk | hk | hk | hk | hk | hk
    all_goals
      rw [hk] at hg ⊢
      rw [hg]
      first | exact c0 | exact c1 | exact c2 | exact c3 | exact c4 | exact c5 | exact c6

set_option maxRecDepth 100000 in
/-- Records behind a row of one's own. -/
theorem run_append_recsE (w : World) (ty : TypeId) (B : Nat) (v : Value) (l0 : List Rec) (hown : OwnR w B v l0) (vx : Value) (l : List Rec) (hr : RdR w vx l)
    (hlim : l0.length + l.length ≤ 1000000) (hbase : B ≤ w.heap.size) :
    ∃ v' w', (Builtin.append_ #[37, 37] ty #[v, vx]).run Try.prog w = .ok v' w' ∧ OwnR w' B v' (l0 ++ l) ∧ Below B w w' := by
  obtain ⟨i0, hi, hz0, hz1, hz2⟩ := info_parts info_rec
  obtain ⟨ao, cap, rfl, hlc, hcm, hn0, _, hao⟩ := hr
  cases ao with
  | none =>
    have hc := hn0 rfl
    subst hc
    have hl : l = [] := List.eq_nil_of_length_eq_zero (by omega)
    subst hl
    have hrun := run_append_owned_none (P := Try.prog) w B 37 ty 53 i0 7 Try.underlying37 hi v l0.length (recCells l0) hown
    exact ⟨v, w, hrun, by rw [List.append_nil]; exact hown, Below.refl _ _⟩
  | some a =>
    obtain ⟨v', w', hrun, ho, hg, _⟩ := run_append_own (P := Try.prog) w B 37 ty 53 i0 _ 7 56 Try.underlying37 hi hz0 hz1 hz2 rfl (by decide) v l0.length (recCells l0) hown a l.length cap (recCells l)
      (recCells_length l) (RdR.cellsE hao a rfl) (recCells_one l) (by unfold maxLen; omega) (by omega) hbase
    refine ⟨v', w', hrun, ?_, ?_⟩
    · unfold OwnR
      rw [List.length_append, recCells_app]
      exact ho
    · exact (Below.refl _ _).grown hg hbase (fun k hk => (World.ownsRow.lt hown k hk).1)

set_option maxRecDepth 100000 in
theorem wpList_append_recsE (w : World) {ops : Array Oper} {rest : List Oper} {o : Oper} {a : Act} {Q : Exit → Act → World → Prop} (hgd : o.guard = none) (s x : Operand)
    (ho : o.op = .call { callee := .builtin .append, args := #[s, x], argTypes := #[37, 37] })
    (B : Nat) (v : Value) (l0 : List Rec) (hs : a.eval s = v) (hown : OwnR w B v l0) (vx : Value) (l : List Rec) (hx : a.eval x = vx) (hr : RdR w vx l)
    (hlim : l0.length + l.length ≤ 1000000) (hbase : B ≤ w.heap.size)
    (h : ∀ v' w', OwnR w' B v' (l0 ++ l) → Below B w w' → wpList Try.prog ops Q rest (a.put o.dst v') w') : wpList Try.prog ops Q (o :: rest) a w :=
  wpList_plain hgd fun _ hK => by
    obtain ⟨v', w', hrun, h2, h3⟩ := run_append_recsE w o.type B v l0 hown vx l hr hlim hbase
    unfold Oper.wp execOp
    simp only [ho, resolve, invoke, builtin, Sem.run_bind, Sem.run_pure, Result.andThen_ok, List.map_toArray, List.map_cons, List.map_nil, hs, hx, hrun]
    exact hK _ _ (h v' w' h2 h3)

theorem OwnR.emptyE (w : World) (B : Nat) (hB : B ≤ w.heap.size) : OwnR (w.alloc (.cells #[] 53)) B (.slice (some ⟨w.heap.size, 0, none⟩) 0 0) [] :=
  ⟨rfl, .inr ⟨w.heap.size, 0, #[], rfl, hB, heap_alloc_new w _, Nat.le_refl _, Nat.zero_le _, rfl, rfl⟩⟩

set_option maxRecDepth 100000 in
set_option maxHeartbeats 1000000 in
theorem cloneR_anyE (v : Value) (l : List Rec) (w : World) (hr : RdR w v l) (hlim : l.length ≤ 1000000) :
    Calls Try.prog 30 #[v] w fun e w' => ∃ v', e = .returned v' ∧ OwnR w' w.heap.size v' l ∧ Below w.heap.size w w' := by
  have HR := hide hr
  obtain ⟨ao, cap, rfl, hlc, -, hn, -⟩ := hr
  cases ao with
  | none =>
    obtain rfl : cap = 0 := hn rfl
    obtain rfl : l = [] := List.eq_nil_of_length_eq_zero (by omega)
    clear hn hlc
    have hnil : ∀ w, (binOp .eql 37 (.slice none 0 0) (.slice none 0 0)).run Try.prog w = .ok (.bool true) w := fun w => run_eql_slice_nil w _ _ none 0 0 Try.underlying37
    go_enter Try.func30, Try.ntmps30
    go_wp2
    go_ret
    exact ⟨_, rfl, OwnR.nil _ _, Below.refl _ _⟩
  | some a =>
    clear hn
    have hnil : ∀ w, (binOp .eql 37 (.slice (some a) l.length cap) (.slice none 0 0)).run Try.prog w = .ok (.bool false) w := fun w => run_eql_slice_nil w _ _ (some a) _ _ Try.underlying37
    have HB0 : Hid (∀ X, Below w.heap.size w (w.alloc X)) := fun X => (Below.refl _ _).alloc (Nat.le_refl _) X
    have HO0 : Hid (OwnR (w.alloc (.cells #[] 53)) w.heap.size (.slice (some ⟨w.heap.size, 0, none⟩) 0 0) []) := hide (OwnR.emptyE w _ (Nat.le_refl _))
    go_enter Try.func30, Try.ntmps30
    go_wp2_with (at_builtin; refine wpList_append_recsE _ rfl _ _ rfl w.heap.size _ [] rfl HO0.out _ l rfl (HR.out.below (HB0.out _) (Nat.le_refl _)) (by simp; omega) (by simp) ?_)
    intro v1 W1 ho1 hb1
    have HO1 := hide ho1
    have HB1 := hide ((HB0.out _).trans hb1)
    clear ho1 hb1
    go_wp2
    go_ret
    exact ⟨_, rfl, HO1.out, HB1.out⟩

end Go.Proofs.Ytedfacbngefhnaa
