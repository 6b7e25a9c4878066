/- append of bytes that tells which row alone it may change. -/
import Derived.Test.YtgmdhlchdjlgnabNumApp
namespace Go.Proofs.Ytgmdhlchdjlgnab
open Go.RowKit

/-- append of bytes onto bytes of the call's own, telling which row alone it may change. -/
theorem run_append_rdg (w : World) (ty : TypeId) (B : Nat) (v : Value) (l0 : List UInt8) (hown : Own w B v l0) (vx : Value) (l : List UInt8) (hr : Rd w vx l)
    (hlim : l0.length + l.length ≤ 70368744177664) (hbase : B ≤ w.heap.size) :
    ∃ v' w', (Builtin.append_ #[24, 24] ty #[v, vx]).run Try.prog w = .ok v' w' ∧ Own w' B v' (l0 ++ l) ∧ w.grownBy w' v.ownBlock := by
  obtain ⟨i0, hi, hz0, hz1, hz2⟩ := info_parts info8
  obtain ⟨ao, cap, rfl, hlc, hcm, hn0, hao⟩ := hr
  cases ao with
  | none =>
    have hc := hn0 rfl
    subst hc
    have hl : l = [] := List.eq_nil_of_length_eq_zero (by omega)
    subst hl
    have hrun := run_append_owned_none (P := Try.prog) w B 24 ty 5 i0 1 Try.underlying24 hi v l0.length (Lib.byteCells l0) hown
    exact ⟨v, w, hrun, by rw [List.append_nil]; exact hown, ⟨rfl, rfl, rfl, Nat.le_refl _, fun _ _ _ => rfl⟩⟩
  | some a =>
    obtain ⟨v', w', hrun, ho, hg, _⟩ := run_append_own (P := Try.prog) w B 24 ty 5 i0 (.int .u8 0) 1 1 Try.underlying24 hi hz0 hz1 hz2 rfl (by decide) v l0.length (Lib.byteCells l0) hown a l.length cap (Lib.byteCells l)
      (by rw [byteCells_length, Nat.mul_one]) (Rd.cells hao a rfl) (byteCells_one l) (by unfold maxLen; omega) (by omega) hbase
    exact ⟨v', w', hrun, Own.mk' ho (by simp) (by simp [Lib.byteCells]), hg⟩

theorem wpList_append_rdg (w : World) {ops : Array Oper} {rest : List Oper} {o : Oper} {a : Act} {Q : Exit → Act → World → Prop} (hgd : o.guard = none) (s x : Operand)
    (ho : o.op = .call { callee := .builtin .append, args := #[s, x], argTypes := #[24, 24] })
    (B : Nat) (v : Value) (l0 : List UInt8) (hs : a.eval s = v) (hown : Own w B v l0) (vx : Value) (l : List UInt8) (hx : a.eval x = vx) (hr : Rd w vx l)
    (hlim : l0.length + l.length ≤ 70368744177664) (hbase : B ≤ w.heap.size)
    (h : ∀ v' w', Own w' B v' (l0 ++ l) → w.grownBy w' v.ownBlock → wpList Try.prog ops Q rest (a.put o.dst v') w') : wpList Try.prog ops Q (o :: rest) a w :=
  wpList_plain hgd fun _ hK => by
    obtain ⟨v', w', hrun, h2, h3⟩ := run_append_rdg w o.type B v l0 hown vx l hr hlim hbase
    unfold Oper.wp execOp
    simp only [ho, resolve, invoke, builtin, Sem.run_bind, Sem.run_pure, Result.andThen_ok, List.map_toArray, List.map_cons, List.map_nil, hs, hx, hrun]
    exact hK _ _ (h v' w' h2 h3)

end Go.Proofs.Ytgmdhlchdjlgnab
