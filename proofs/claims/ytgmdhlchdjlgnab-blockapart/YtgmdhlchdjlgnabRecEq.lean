/- Records held against each other, number by number. -/
import Derived.Test.YtgmdhlchdjlgnabRef06A
import Derived.Laws.StructEq
namespace Go.Proofs.Ytgmdhlchdjlgnab
open Go.RowKit

/-- Two records, number by number. -/
def eqRec (r s : Rec) : Bool := r.idx == s.idx && r.proc == s.proc && r.seq == s.seq && (r.op.code == s.op.code && r.op.a == s.op.a && r.op.b == s.op.b) && r.resp == s.resp

theorem eql_rec (w : World) (r s : Rec) : (binOp .eql 32 (.agg #[.int .i64 r.idx, .int .i64 r.proc, .int .i64 r.seq, .int .i64 r.op.code, .int .i64 r.op.a, .int .i64 r.op.b, .int .i64 r.resp]) (.agg #[.int .i64 s.idx, .int .i64 s.proc, .int .i64 s.seq, .int .i64 s.op.code, .int .i64 s.op.a, .int .i64 s.op.b, .int .i64 s.resp])).run Try.prog w = .ok (.bool (eqRec r s)) w := by
  have u3 := Try.underlying3
  have a3 := Try.isAgg3
  have z3 := Try.sizeOf3
  have u4 := Try.underlying30
  have a4 := Try.isAgg30
  have z4 := Try.sizeOf30
  have hS : Try.prog.underlying 32 = some (.struct (Try.prog.fieldsOf 32)) := by kernel_rfl
  have hp : Try.prog.stoodInHeld 32 = false := by kernel_rfl
  have hS4 : Try.prog.underlying 30 = some (.struct (Try.prog.fieldsOf 30)) := by kernel_rfl
  have hp4 : Try.prog.stoodInHeld 30 = false := by kernel_rfl
  unfold eqRec
  rw [run_eql_struct, show (10000 : Nat) = 9999 + 1 from rfl, run_equalIn_agg w 9999 32 _ _ hS hp]
  simp only [Program.fieldsOf, Try.underlying32]
  go_simp
  repeat' split
  all_goals simp_all

theorem neq_rec (w : World) (r s : Rec) : (binOp .neq 32 (.agg #[.int .i64 r.idx, .int .i64 r.proc, .int .i64 r.seq, .int .i64 r.op.code, .int .i64 r.op.a, .int .i64 r.op.b, .int .i64 r.resp]) (.agg #[.int .i64 s.idx, .int .i64 s.proc, .int .i64 s.seq, .int .i64 s.op.code, .int .i64 s.op.a, .int .i64 s.op.b, .int .i64 s.resp])).run Try.prog w = .ok (.bool (!eqRec r s)) w := by
  have u3 := Try.underlying3
  have a3 := Try.isAgg3
  have z3 := Try.sizeOf3
  have u4 := Try.underlying30
  have a4 := Try.isAgg30
  have z4 := Try.sizeOf30
  have hS : Try.prog.underlying 32 = some (.struct (Try.prog.fieldsOf 32)) := by kernel_rfl
  have hp : Try.prog.stoodInHeld 32 = false := by kernel_rfl
  have hS4 : Try.prog.underlying 30 = some (.struct (Try.prog.fieldsOf 30)) := by kernel_rfl
  have hp4 : Try.prog.stoodInHeld 30 = false := by kernel_rfl
  unfold eqRec
  rw [run_neq_struct, show (10000 : Nat) = 9999 + 1 from rfl, run_equalIn_agg w 9999 32 _ _ hS hp]
  simp only [Program.fieldsOf, Try.underlying32]
  go_simp
  repeat' split
  all_goals simp_all

theorem guard_rec : Try.prog.eqGuardType Try.prog.depth 32 = false := by kernel_rfl

theorem eqRec_iff (r s : Rec) : eqRec r s = true ↔ r = s := by
  obtain ⟨i, p, q, ⟨c, a, b⟩, e⟩ := r
  obtain ⟨i', p', q', ⟨c', a', b'⟩, e'⟩ := s
  simp [eqRec]
  constructor
  · rintro ⟨⟨⟨⟨rfl, rfl⟩, rfl⟩, ⟨rfl, rfl⟩, rfl⟩, rfl⟩
    simp
  · rintro ⟨rfl, rfl, rfl, ⟨rfl, rfl, rfl⟩, rfl⟩
    simp

theorem eqRec_self (r : Rec) : eqRec r r = true := (eqRec_iff r r).2 rfl

instance : DecidableEq Rec := fun r s => decidable_of_iff (eqRec r s = true) (eqRec_iff r s)

end Go.Proofs.Ytgmdhlchdjlgnab
