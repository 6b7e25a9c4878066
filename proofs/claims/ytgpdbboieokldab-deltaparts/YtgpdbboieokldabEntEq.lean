/- Entries held against each other, number by number. -/
import Derived.Test.YtgpdbboieokldabPack3
import Derived.Laws.StructEq
namespace Go.Proofs.Ytgpdbboieokldab
open Go.RowKit

/-- Two entries, number by number. -/
def eqEnt (r s : Ent) : Bool := r.proc == s.proc && r.seq == s.seq && r.resp == s.resp

theorem eql_ent (w : World) (r s : Ent) : (binOp .eql 47 (.agg #[.int .i64 r.proc, .int .i64 r.seq, .int .i64 r.resp]) (.agg #[.int .i64 s.proc, .int .i64 s.seq, .int .i64 s.resp])).run Try.prog w = .ok (.bool (eqEnt r s)) w := by
  have u3 := Try.underlying3
  have a3 := Try.isAgg3
  have z3 := Try.sizeOf3
  have hS : Try.prog.underlying 47 = some (.struct (Try.prog.fieldsOf 47)) := by kernel_rfl
  have hp : Try.prog.stoodInHeld 47 = false := by kernel_rfl
  unfold eqEnt
  rw [run_eql_struct, show (10000 : Nat) = 9999 + 1 from rfl, run_equalIn_agg w 9999 47 _ _ hS hp]
  simp only [Program.fieldsOf, Try.underlying47]
  go_simp
  repeat' split
  all_goals simp_all

theorem neq_ent (w : World) (r s : Ent) : (binOp .neq 47 (.agg #[.int .i64 r.proc, .int .i64 r.seq, .int .i64 r.resp]) (.agg #[.int .i64 s.proc, .int .i64 s.seq, .int .i64 s.resp])).run Try.prog w = .ok (.bool (!eqEnt r s)) w := by
  have u3 := Try.underlying3
  have a3 := Try.isAgg3
  have z3 := Try.sizeOf3
  have hS : Try.prog.underlying 47 = some (.struct (Try.prog.fieldsOf 47)) := by kernel_rfl
  have hp : Try.prog.stoodInHeld 47 = false := by kernel_rfl
  unfold eqEnt
  rw [run_neq_struct, show (10000 : Nat) = 9999 + 1 from rfl, run_equalIn_agg w 9999 47 _ _ hS hp]
  simp only [Program.fieldsOf, Try.underlying47]
  go_simp
  repeat' split
  all_goals simp_all

theorem guard_ent : Try.prog.eqGuardType Try.prog.depth 47 = false := by kernel_rfl

theorem eqEnt_iff (r s : Ent) : eqEnt r s = true ↔ r = s := by
  obtain ⟨i, p, q⟩ := r
  obtain ⟨i', p', q'⟩ := s
  simp [eqEnt]
  constructor
  · rintro ⟨⟨rfl, rfl⟩, rfl⟩
    simp
  · rintro ⟨rfl, rfl, rfl⟩
    simp

theorem eqEnt_self (r : Ent) : eqEnt r r = true := (eqEnt_iff r r).2 rfl

theorem eqEnt_not {r s : Ent} (h : r ≠ s) : eqEnt r s = false := by
  cases hq : eqEnt r s
  · rfl
  · exact absurd ((eqEnt_iff _ _).1 hq) h

end Go.Proofs.Ytgpdbboieokldab
