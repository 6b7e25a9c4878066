/- The law NumOnce, case by case: which of the two numbers the bytes begin with. -/
import Derived.Test.YtblfmhkpogjokaaNumAwake
import Derived.Test.YtblfmhkpogjokaaNumApp
import Derived.Deep.RegionHeld
import Derived.Deep.DeepCutAuto
import Derived.Deep.QuietTactic
import Derived.BigQuiet
import Derived.WalkSmall
namespace Go.Proofs.Ytblfmhkpogjokaa.numOnce
open Go.ChangeShapes Go.WideShapes Go.ChangeAt Go.RowKit

set_option maxRecDepth 100000 in
set_option maxHeartbeats 2000000 in
theorem some_some (b off : Nat) (n cap : Nat) (hn : (n : Int) ≤ 1000) (hlc : n ≤ cap) (AA Z : Int) (I K : Nat) (LA LU : List UInt8) (w : World) (HA : Hid (Calls Try.prog 9 #[] w fun e w' => e = .returned (.bool true) ∧ Below w.heap.size w w'))
    (HG : Hid (∀ w1, Below w.heap.size w w1 → Calls Try.prog 21 #[.slice (some ⟨b, off, none⟩) n cap] w1 fun e w' => e = .returned (.tuple #[.int .i64 AA, .int .i64 (I : Nat)]) ∧ w' = w1))
    (HS : Hid (∀ w1, Below w.heap.size w w1 → Calls Try.prog 23 #[.slice (some ⟨b, off, none⟩) n cap] w1 fun e w' => e = .returned (.tuple #[.int .i64 Z, .int .i64 (K : Nat)]) ∧ w' = w1))
    (P1 : Hid (∀ w1, Calls Try.prog 10 #[.slice none 0 0, .int .i64 AA] w1 fun e w' => ∃ v', e = .returned v' ∧ Rd w' v' LA ∧ Below w1.heap.size w1 w'))
    (P2 : Hid (∀ w1, Calls Try.prog 12 #[.slice none 0 0, .int .i64 Z] w1 fun e w' => ∃ v', e = .returned v' ∧ Rd w' v' LU ∧ Below w1.heap.size w1 w'))
    (HTI : Hid (∀ w1, Below w.heap.size w w1 → (convert 22 9 (.slice (some ⟨b, off, none⟩) I cap)).run Try.prog w1 = .ok (.string (bs LA)) w1)) (hI1 : 1 ≤ I) (hIl : I ≤ n)
    (HTK : Hid (∀ w1, Below w.heap.size w w1 → (convert 22 9 (.slice (some ⟨b, off, none⟩) K cap)).run Try.prog w1 = .ok (.string (bs LU)) w1)) (hK1 : 1 ≤ K) (hKl : K ≤ n) :
    Calls Try.prog 6 #[.slice (some ⟨b, off, none⟩) n cap] w fun e w' => e = .returned (.bool true) ∧ Below w.heap.size w w' := by
  have eI : ((I : Int) == 0) = false := beq_eq_false_iff_ne.2 (by omega)
  have bI : (I : Int) ≤ (n : Int) := by omega
  have bI2 : (I : Int) ≤ (cap : Int) := by omega
  have eK : ((K : Int) == 0) = false := beq_eq_false_iff_ne.2 (by omega)
  have bK : (K : Int) ≤ (n : Int) := by omega
  have bK2 : (K : Int) ≤ (cap : Int) := by omega
  go_enter Try.func6, Try.ntmps6
  go_wp2_with fail
  refine HA.out.mono ?_
  rintro e w1 ⟨rfl, hb⟩
  have HB := hide hb
  clear hb HA
  go_wp2_with fail
  refine (HG.out _ HB.out).mono ?_
  rintro e w2 ⟨rfl, rfl⟩
  go_wp2_with fail
  refine (HS.out _ HB.out).mono ?_
  rintro e w3 ⟨rfl, rfl⟩
  go_upto_region 8 with fail
  go_cut [2] (fun x wc => x = .bool true ∧ Hid (Below w.heap.size w wc))
  case first =>
    have HBd : Hid (Below w.heap.size w w3.drew) := HB.out.drew
    clear HG HS
    go_region_held (fun w' => (convert 22 9 (.slice (some ⟨b, off, none⟩) I cap)).run Try.prog w' = .ok (.string (bs LA)) w' ∧ (convert 22 9 (.slice (some ⟨b, off, none⟩) K cap)).run Try.prog w' = .ok (.string (bs LU)) w')
      (first
        | exact ⟨HTI.out _ HB5.out, HTK.out _ HB5.out⟩
        | exact ⟨HTI.out _ HB4.out, HTK.out _ HB4.out⟩
        | exact ⟨HTI.out _ HBd.out, HTK.out _ HBd.out⟩
        | exact ⟨HTI.out _ HB.out, HTK.out _ HB.out⟩)
      (first
        | (go_at_call 10; refine (P1.out _).mono ?_; rintro e w4 ⟨v4, rfl, hr4, hb4⟩; have HB4 := hide (HBd.out.trans (hb4.mono HBd.out.size)); have hcv4 := hr4.str; clear hr4 hb4)
        | (go_at_call 12; refine (P2.out _).mono ?_; rintro e w5 ⟨v5, rfl, hr5, hb5⟩; have HB5 := hide (HB4.out.trans (hb5.mono HB4.out.size)); have hcv5 := hr5.str; clear hr5 hb5))
    all_goals (go_wp2_with fail; go_meet; exact ⟨rfl, HB5⟩)
  case rest =>
  obtain ⟨rfl, HB6⟩ := hcut
  go_wp2
  go_ret
  exact ⟨rfl, HB6.out⟩

end Go.Proofs.Ytblfmhkpogjokaa.numOnce
