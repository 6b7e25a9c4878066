/- The law NumOnce, case by case: which of the two numbers the bytes begin with. -/
import Derived.Test.YtblfmhkpogjokaaNumAwake
import Derived.Test.YtblfmhkpogjokaaNumApp
import Derived.Deep.RegionHeld
import Derived.Deep.DeepCutAuto
import Derived.Deep.QuietTactic
import Derived.BigQuiet
import Derived.WalkSmall
namespace Go.Proofs.Ytblfmhkpogjokaa.numOnce
open Go.ChangeShapes Go.WideShapes Go.ChangeAt Go.RowKit

set_option maxRecDepth 100000 in
set_option maxHeartbeats 2000000 in
theorem none_none (ao : Option Addr) (n cap : Nat) (hn : (n : Int) ≤ 1000) (AA Z : Int) (hAA : AA = 0) (hZ : Z = 0) (I K : Nat) (hI : I = 0) (hK : K = 0) (w : World) (HA : Hid (Calls Try.prog 9 #[] w fun e w' => e = .returned (.bool true) ∧ Below w.heap.size w w'))
    (HG : Hid (∀ w1, Below w.heap.size w w1 → Calls Try.prog 21 #[.slice ao n cap] w1 fun e w' => e = .returned (.tuple #[.int .i64 AA, .int .i64 (I : Nat)]) ∧ w' = w1))
    (HS : Hid (∀ w1, Below w.heap.size w w1 → Calls Try.prog 23 #[.slice ao n cap] w1 fun e w' => e = .returned (.tuple #[.int .i64 Z, .int .i64 (K : Nat)]) ∧ w' = w1)) :
    Calls Try.prog 6 #[.slice ao n cap] w fun e w' => e = .returned (.bool true) ∧ Below w.heap.size w w' := by
  subst hAA hZ hI hK
  go_enter Try.func6, Try.ntmps6
  go_wp2_with fail
  refine HA.out.mono ?_
  rintro e w1 ⟨rfl, hb⟩
  have HB := hide hb
  clear hb HA
  go_wp2_with fail
  refine (HG.out _ HB.out).mono ?_
  rintro e w2 ⟨rfl, rfl⟩
  go_wp2_with fail
  refine (HS.out _ HB.out).mono ?_
  rintro e w3 ⟨rfl, rfl⟩
  go_wp2_with fail
  go_quiet (fail)
  go_wp2
  go_ret
  exact ⟨rfl, below_drewN HB.out _⟩

end Go.Proofs.Ytblfmhkpogjokaa.numOnce
