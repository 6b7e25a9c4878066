/- Operations held against each other. -/
import Derived.Test.YtcaalklpjpefjaaCodecAwake
import Derived.Laws.StructEq
namespace Go.Proofs.Ytcaalklpjpefjaa
open Go.RowKit

theorem eql_op (w : World) (a b c d e f : Int) : (binOp .eql 24 (.agg #[.int .i64 a, .int .i64 b, .int .i64 c]) (.agg #[.int .i64 d, .int .i64 e, .int .i64 f])).run Try.prog w = .ok (.bool (a == d && b == e && c == f)) w := by
  have u3 := Try.underlying3
  have a3 := Try.isAgg3
  have z3 := Try.sizeOf3
  have hS : Try.prog.underlying 24 = some (.struct (Try.prog.fieldsOf 24)) := by kernel_rfl
  have hp : Try.prog.stoodInHeld 24 = false := by kernel_rfl
  rw [run_eql_struct, show (10000 : Nat) = 9999 + 1 from rfl, run_equalIn_agg w 9999 24 _ _ hS hp]
  simp only [Program.fieldsOf, Try.underlying24]
  go_simp
  by_cases h1 : a = d <;> by_cases h2 : b = e <;> by_cases h3 : c = f <;> simp [h1, h2, h3]

theorem neq_op (w : World) (a b c d e f : Int) : (binOp .neq 24 (.agg #[.int .i64 a, .int .i64 b, .int .i64 c]) (.agg #[.int .i64 d, .int .i64 e, .int .i64 f])).run Try.prog w = .ok (.bool (!(a == d && b == e && c == f))) w := by
  have u3 := Try.underlying3
  have a3 := Try.isAgg3
  have z3 := Try.sizeOf3
  have hS : Try.prog.underlying 24 = some (.struct (Try.prog.fieldsOf 24)) := by kernel_rfl
  have hp : Try.prog.stoodInHeld 24 = false := by kernel_rfl
  rw [run_neq_struct, show (10000 : Nat) = 9999 + 1 from rfl, run_equalIn_agg w 9999 24 _ _ hS hp]
  simp only [Program.fieldsOf, Try.underlying24]
  go_simp
  by_cases h1 : a = d <;> by_cases h2 : b = e <;> by_cases h3 : c = f <;> simp [h1, h2, h3]

theorem guard_op : Try.prog.eqGuardType Try.prog.depth 24 = false := by kernel_rfl

theorem putOpL_length {o : Opn} (h : FitsO o) : (putOpL o).length ≤ 30 := by
  have h1 := uv10 (fits_i64 h).1
  have h2 := uv10 (fits_i64 h).2
  have hc0 : 0 ≤ o.code := h.1
  have hc1 : o.code ≤ 10 := h.2.1
  have h3 := uv10' (n := o.code.toNat) (by omega)
  unfold putOpL
  rw [List.length_append, List.length_append]
  omega

theorem encS_length {s : St} (h : MayS s) : (encS s).length ≤ 2000 := by
  obtain ⟨hk, hL, hi⟩ := may_small h
  have h1 := uv10' (n := s.kind.toNat) (by omega)
  have h2 := uv10' (n := sealN s) (by have := sealN_le h; omega)
  have h3 := uv10' (n := s.L.length) (by omega)
  have h4 := numsL_length s.L hi
  unfold encS
  rw [List.length_append, List.length_append, List.length_append]
  omega

end Go.Proofs.Ytcaalklpjpefjaa
