/- Contracts of objs: within and what it answers, cut, full. -/
import Derived.Test.YtedfacbngefhnaaPack1
namespace Go.Proofs.Ytedfacbngefhnaa
open Go.RowKit

set_option maxRecDepth 100000 in
/-- What lies from lo to hi. -/
theorem is_any (n lo hi : Int) (a b : Nat) (w : World) (ha : w.cell? ⟨a, 0, none⟩ = some (.int .i64 lo)) (hb : w.cell? ⟨b, 0, none⟩ = some (.int .i64 hi)) :
    Calls Try.prog 39 #[.int .i64 n, .pointer (some ⟨a, 0, none⟩), .pointer (some ⟨b, 0, none⟩)] w fun e w' => e = .returned (.bool (decide (lo ≤ n ∧ n ≤ hi))) ∧ w' = w := by
  have HD : Hid ((decide (lo ≤ n) && decide (n ≤ hi)) = decide (lo ≤ n ∧ n ≤ hi)) := (Bool.decide_and _ _).symm
  have HT : Hid (lo ≤ n → decide (n ≤ hi) = decide (lo ≤ n ∧ n ≤ hi)) := fun h => by rw [← HD.out, decide_eq_true h, Bool.true_and]
  by_cases h1 : lo ≤ n
  · go_enter Try.func39, Try.ntmps39
    go_wp2
    go_ret
    exact ⟨ret_b (HT.out h1), rfl⟩
  · go_enter Try.func39, Try.ntmps39
    go_wp2
    go_ret
    exact ⟨ret_b (by rw [decide_eq_false (Int.not_le.2 h1), Bool.false_and]), rfl⟩

set_option maxRecDepth 100000 in
theorem within_any (lo hi : Int) (w : World) :
    Calls Try.prog 34 #[.int .i64 lo, .int .i64 hi] w fun e w' => ∃ a b, e = .returned (.func (.func 39) #[] #[.pointer (some ⟨a, 0, none⟩), .pointer (some ⟨b, 0, none⟩)]) ∧ w'.cell? ⟨a, 0, none⟩ = some (.int .i64 lo) ∧ w'.cell? ⟨b, 0, none⟩ = some (.int .i64 hi) ∧ Below w.heap.size w w' := by
  have hmf : ∀ (fn : Fn) (first cap : Array Value) (w : World), (Instr.makeFunc fn first cap).run Try.prog w = .ok (.func fn first cap) w := fun _ _ _ _ => rfl
  have HB : Hid (∀ x y, Below w.heap.size w ((w.alloc x).alloc y)) := fun x y => ((Below.refl _ _).alloc (Nat.le_refl _) x).alloc (by simp) y
  go_enter Try.func34, Try.ntmps34
  go_wp2
  go_ret
  refine ⟨_, _, rfl, ?_, ?_, HB.out _ _⟩
  · rw [World.cell?_alloc_past _ _ _ (by simp), World.cell?_alloc_at _ _ _ _ rfl]; rfl
  · rw [World.cell?_alloc_at _ _ _ _ (by simp)]; rfl

theorem cut_maxmin (n : Int) : max (-1099511627776) (min n 1099511627776) = cutZ n := by
  unfold cutZ
  split
  · omega
  · split <;> omega

set_option maxRecDepth 100000 in
theorem cutO_any (n : Int) (w : World) : Calls Try.prog 68 #[.int .i64 n] w fun e w' => e = .returned (.int .i64 (cutZ n)) ∧ w' = w := by
  by_cases h1 : 1099511627776 < n
  · go_enter Try.func68, Try.ntmps68
    go_wp2
    go_ret
    refine ⟨ret_i ?_, rfl⟩
    first
      | exact cut_maxmin n
      | (unfold cutZ; split <;> (try split) <;> omega)
  by_cases h2 : n ≤ -1099511627776
  · go_enter Try.func68, Try.ntmps68
    go_wp2
    go_ret
    refine ⟨ret_i ?_, rfl⟩
    first
      | exact cut_maxmin n
      | (unfold cutZ; split <;> (try split) <;> omega)
  · go_enter Try.func68, Try.ntmps68
    go_wp2
    go_ret
    refine ⟨ret_i ?_, rfl⟩
    first
      | exact cut_maxmin n
      | (unfold cutZ; split <;> (try split) <;> omega)

set_option maxRecDepth 100000 in
theorem full_any (ao : Option Addr) (n cap : Nat) (w : World) : Calls Try.prog 72 #[.slice ao n cap] w fun e w' => e = .returned (.bool (decide (n = 128))) ∧ w' = w := by
  by_cases h : n = 128
  · have HD : Hid (decide (n = 128) = true) := decide_eq_true h
    have hq : ((n : Int) == 128) = true := beq_iff_eq.2 (by omega)
    clear h
    go_enter Try.func72, Try.ntmps72
    go_wp2
    go_ret
    exact ⟨ret_b HD.out.symm, rfl⟩
  · have HD : Hid (decide (n = 128) = false) := decide_eq_false h
    have hq : ((n : Int) == 128) = false := beq_eq_false_iff_ne.2 (by omega)
    clear h
    go_enter Try.func72, Try.ntmps72
    go_wp2
    go_ret
    exact ⟨ret_b HD.out.symm, rfl⟩

end Go.Proofs.Ytedfacbngefhnaa
