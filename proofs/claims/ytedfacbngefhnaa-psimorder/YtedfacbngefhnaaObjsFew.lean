/- Few: a state of at most 300 numbers. -/
import Derived.Test.YtedfacbngefhnaaPack1
namespace Go.Proofs.Ytedfacbngefhnaa
open Go.RowKit

set_option maxRecDepth 100000 in
theorem few_any (v : Value) (s : St) (w : World) (hs : StV w v s) :
    Calls Try.prog 9 #[v] w fun e w' => e = .returned (.bool (decide ((s.L.length : Int) ≤ 300))) ∧ Below w.heap.size w w' := by
  obtain ⟨vl, rfl, hr, -, -⟩ := hs
  obtain ⟨ao, cap, rfl, hlc, hcm, -⟩ := hr
  have hml : (s.L.length : Int) ≤ 9223372036854775807 := by unfold maxLen at hcm; omega
  have H1 : Hid (∀ x, Below w.heap.size w (w.alloc x)) := fun x => (Below.refl _ _).alloc (Nat.le_refl _) x
  clear hlc hcm
  go_enter Try.func9, Try.ntmps9
  go_wp2
  go_ret
  exact ⟨rfl, H1.out _⟩

end Go.Proofs.Ytedfacbngefhnaa
