/- Contracts of objs: within and what it answers, cut, full. -/
import Derived.Test.YtgpdbboieokldabPack1
namespace Go.Proofs.Ytgpdbboieokldab
open Go.RowKit

set_option maxRecDepth 100000 in
/-- What lies from lo to hi. -/
theorem is_any (n lo hi : Int) (a b : Nat) (w : World) (ha : w.cell? ⟨a, 0, none⟩ = some (.int .i64 lo)) (hb : w.cell? ⟨b, 0, none⟩ = some (.int .i64 hi)) :
    Calls Try.prog 43 #[.int .i64 n, .pointer (some ⟨a, 0, none⟩), .pointer (some ⟨b, 0, none⟩)] w fun e w' => e = .returned (.bool (decide (lo ≤ n ∧ n ≤ hi))) ∧ w' = w := by
  have HD : Hid ((decide (lo ≤ n) && decide (n ≤ hi)) = decide (lo ≤ n ∧ n ≤ hi)) := (Bool.decide_and _ _).symm
  have HT : Hid (lo ≤ n → decide (n ≤ hi) = decide (lo ≤ n ∧ n ≤ hi)) := fun h => by rw [← HD.out, decide_eq_true h, Bool.true_and]
  by_cases h1 : lo ≤ n
  · go_enter Try.func43, Try.ntmps43
    go_wp2
    go_ret
    exact ⟨ret_b (HT.out h1), rfl⟩
  · go_enter Try.func43, Try.ntmps43
    go_wp2
    go_ret
    exact ⟨ret_b (by rw [decide_eq_false (Int.not_le.2 h1), Bool.false_and]), rfl⟩

set_option maxRecDepth 100000 in
theorem within_any (lo hi : Int) (w : World) :
    Calls Try.prog 34 #[.int .i64 lo, .int .i64 hi] w fun e w' => ∃ a b, e = .returned (.func (.func 43) #[] #[.pointer (some ⟨a, 0, none⟩), .pointer (some ⟨b, 0, none⟩)]) ∧ w'.cell? ⟨a, 0, none⟩ = some (.int .i64 lo) ∧ w'.cell? ⟨b, 0, none⟩ = some (.int .i64 hi) ∧ Below w.heap.size w w' := by
  have hmf : ∀ (fn : Fn) (first cap : Array Value) (w : World), (Instr.makeFunc fn first cap).run Try.prog w = .ok (.func fn first cap) w := fun _ _ _ _ => rfl
  have HB : Hid (∀ x y, Below w.heap.size w ((w.alloc x).alloc y)) := fun x y => ((Below.refl _ _).alloc (Nat.le_refl _) x).alloc (by simp) y
  go_enter Try.func34, Try.ntmps34
  go_wp2
  go_ret
  refine ⟨_, _, rfl, ?_, ?_, HB.out _ _⟩
  · rw [World.cell?_alloc_past _ _ _ (by simp), World.cell?_alloc_at _ _ _ _ rfl]; rfl
  · rw [World.cell?_alloc_at _ _ _ _ (by simp)]; rfl

theorem cut_maxmin (n : Int) : max (-1099511627776) (min n 1099511627776) = cutZ n := by
  unfold cutZ
  split
  · omega
  · split <;> omega

end Go.Proofs.Ytgpdbboieokldab
