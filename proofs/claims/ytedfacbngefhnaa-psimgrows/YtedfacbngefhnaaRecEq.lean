/- Records held against each other, number by number. -/
import Derived.Test.YtedfacbngefhnaaRef06A
import Derived.Laws.StructEq
namespace Go.Proofs.Ytedfacbngefhnaa
open Go.RowKit

/-- Two records, number by number. -/
def eqRec (r s : Rec) : Bool := r.idx == s.idx && r.proc == s.proc && r.seq == s.seq && (r.op.code == s.op.code && r.op.a == s.op.a && r.op.b == s.op.b) && r.resp == s.resp

theorem eql_rec (w : World) (r s : Rec) : (binOp .eql 53 (.agg #[.int .i64 r.idx, .int .i64 r.proc, .int .i64 r.seq, .int .i64 r.op.code, .int .i64 r.op.a, .int .i64 r.op.b, .int .i64 r.resp]) (.agg #[.int .i64 s.idx, .int .i64 s.proc, .int .i64 s.seq, .int .i64 s.op.code, .int .i64 s.op.a, .int .i64 s.op.b, .int .i64 s.resp])).run Try.prog w = .ok (.bool (eqRec r s)) w := by
  have u3 := Try.underlying3
  have a3 := Try.isAgg3
  have z3 := Try.sizeOf3
  have u4 := Try.underlying26
  have a4 := Try.isAgg26
  have z4 := Try.sizeOf26
  have hS : Try.prog.underlying 53 = some (.struct (Try.prog.fieldsOf 53)) := by kernel_rfl
  have hp : Try.prog.stoodInHeld 53 = false := by kernel_rfl
  have hS4 : Try.prog.underlying 26 = some (.struct (Try.prog.fieldsOf 26)) := by kernel_rfl
  have hp4 : Try.prog.stoodInHeld 26 = false := by kernel_rfl
  unfold eqRec
  rw [run_eql_struct, show (10000 : Nat) = 9999 + 1 from rfl, run_equalIn_agg w 9999 53 _ _ hS hp]
  simp only [Program.fieldsOf, Try.underlying53]
  go_simp
  repeat' split
  all_goals simp_all

theorem neq_rec (w : World) (r s : Rec) : (binOp .neq 53 (.agg #[.int .i64 r.idx, .int .i64 r.proc, .int .i64 r.seq, .int .i64 r.op.code, .int .i64 r.op.a, .int .i64 r.op.b, .int .i64 r.resp]) (.agg #[.int .i64 s.idx, .int .i64 s.proc, .int .i64 s.seq, .int .i64 s.op.code, .int .i64 s.op.a, .int .i64 s.op.b, .int .i64 s.resp])).run Try.prog w = .ok (.bool (!eqRec r s)) w := by
  have u3 := Try.underlying3
  have a3 := Try.isAgg3
  have z3 := Try.sizeOf3
  have u4 := Try.underlying26
  have a4 := Try.isAgg26
  have z4 := Try.sizeOf26
  have hS : Try.prog.underlying 53 = some (.struct (Try.prog.fieldsOf 53)) := by kernel_rfl
  have hp : Try.prog.stoodInHeld 53 = false := by kernel_rfl
  have hS4 : Try.prog.underlying 26 = some (.struct (Try.prog.fieldsOf 26)) := by kernel_rfl
  have hp4 : Try.prog.stoodInHeld 26 = false := by kernel_rfl
  unfold eqRec
  rw [run_neq_struct, show (10000 : Nat) = 9999 + 1 from rfl, run_equalIn_agg w 9999 53 _ _ hS hp]
  simp only [Program.fieldsOf, Try.underlying53]
  go_simp
  repeat' split
  all_goals simp_all

theorem guard_rec : Try.prog.eqGuardType Try.prog.depth 53 = false := by kernel_rfl

theorem eqRec_iff (r s : Rec) : eqRec r s = true ↔ r = s := by
  obtain ⟨i, p, q, ⟨c, a, b⟩, e⟩ := r
  obtain ⟨i', p', q', ⟨c', a', b'⟩, e'⟩ := s
  simp [eqRec]
  constructor
  · rintro ⟨⟨⟨⟨rfl, rfl⟩, rfl⟩, ⟨rfl, rfl⟩, rfl⟩, rfl⟩
    simp
  · rintro ⟨rfl, rfl, rfl, ⟨rfl, rfl, rfl⟩, rfl⟩
    simp

theorem eqRec_self (r : Rec) : eqRec r r = true := (eqRec_iff r r).2 rfl

instance : DecidableEq Rec := fun r s => decidable_of_iff (eqRec r s = true) (eqRec_iff r s)

end Go.Proofs.Ytedfacbngefhnaa
