/- Contracts of delta: alikeAhead, alikeBehind. -/
import Derived.Test.YtgpdbboieokldaaDeltaRun
namespace Go.Proofs.Ytgpdbboieokldaa
open Go.RowKit

set_option maxRecDepth 100000 in
set_option maxHeartbeats 2000000 in
theorem alikeAhead_any (va : Value) (a : List Int) (vb : Value) (b : List Int) (w : World) (ha : RdI w va a) (hb : RdI w vb b) :
    Calls Try.prog 25 #[va, vb] w fun x w' => x = .returned (.int .i64 ((preL a b : Nat) : Int)) ∧ Below w.heap.size w w' := by
  obtain ⟨W0, hW0⟩ : ∃ W0, W0 = (w.alloc (.cells #[va] 22)).alloc (.cells #[vb] 22) := ⟨_, rfl⟩
  have hB0 : Below w.heap.size w W0 := by rw [hW0]; exact ((Below.refl _ _).alloc (Nat.le_refl _) _).alloc (by simp) _
  have hbR : Bs W0 w.heap.size va := by rw [hW0]; exact (Below.heap_alloc _ _ _ (by simp)).trans (heap_alloc_new w _)
  have hbS : Bs W0 (w.heap.size + 1) vb := by rw [hW0]; exact new_two w _ _
  have haW := ha.below hB0 (Nat.le_refl _)
  have hbW := hb.below hB0 (Nat.le_refl _)
  have eg : ∀ args W, (callFunc 54 args).run Try.prog W = .ok (.enter 54 args) W := enters_of Try.func54 (by kernel_rfl) rfl
  have hml : min a.length b.length ≤ 9223372036854775807 := by
    obtain ⟨_, c, _, h1, h2, _⟩ := ha
    unfold maxLen at h2
    omega
  have HRUN := hide (run_any 54 w.heap.size (w.heap.size + 1) (fun j => decide (a.getD j 0 = b.getD j 0)) (min a.length b.length) hml W0 eg (fun W j hj h => ahead1_any va a vb b w.heap.size (w.heap.size + 1) W (haW.below h (Nat.le_refl _)) (hbW.below h (Nat.le_refl _)) (hbR.below h (Nat.le_refl _)) (hbS.below h (Nat.le_refl _)) j (by omega) (by omega)))
  have HPL := hide (fun k h => preL_runTo (a := a) (b := b) (n := min a.length b.length) (k := k) rfl h)
  have HB0 := hide hB0
  have hmf : ∀ (fn : Fn) (first cap : Array Value) (w : World), (Instr.makeFunc fn first cap).run Try.prog w = .ok (.func fn first cap) w := fun _ _ _ _ => rfl
  obtain ⟨aa, ac, hva⟩ := ha.shape
  obtain ⟨ba, bc, hvb⟩ := hb.shape
  subst hva hvb
  have q1 := hbR.cell
  have q2 := hbS.cell
  have HW0 := hide hW0
  clear hB0 hbR hbS haW hbW eg hml ha hb hW0
  generalize preL a b = PL at *
  by_cases hlt : b.length < a.length
  · have hn : min a.length b.length = b.length := by omega
    have hlt2 : (b.length : Int) < (a.length : Int) := by omega
    rw [hn] at HRUN HPL
    clear hn
    go_enter Try.func25, Try.ntmps25
    go_upto_region 1 with fail
    rw [← HW0.out]
    clear HW0
    go_wp2_with fail
    refine HRUN.out.mono ?_
    rintro x W1 ⟨k, rfl, hk, hb1⟩
    have HK := hide (HPL.out k hk)
    have HB1 := hide (HB0.out.trans (hb1.mono HB0.out.size))
    clear hk hb1
    go_wp2
    go_ret
    rw [HK.out]
    exact ⟨rfl, HB1.out⟩
  · have hn : min a.length b.length = a.length := by omega
    have hlt2 : ¬ (b.length : Int) < (a.length : Int) := by omega
    rw [hn] at HRUN HPL
    clear hn
    go_enter Try.func25, Try.ntmps25
    go_upto_region 1 with fail
    rw [← HW0.out]
    clear HW0
    go_wp2_with fail
    refine HRUN.out.mono ?_
    rintro x W1 ⟨k, rfl, hk, hb1⟩
    have HK := hide (HPL.out k hk)
    have HB1 := hide (HB0.out.trans (hb1.mono HB0.out.size))
    clear hk hb1
    go_wp2
    go_ret
    rw [HK.out]
    exact ⟨rfl, HB1.out⟩

set_option maxRecDepth 100000 in
set_option maxHeartbeats 2000000 in
theorem alikeBehind_any (va : Value) (a : List Int) (vb : Value) (b : List Int) (w : World) (ha : RdI w va a) (hb : RdI w vb b) :
    Calls Try.prog 26 #[va, vb] w fun x w' => x = .returned (.int .i64 ((preL a.reverse b.reverse : Nat) : Int)) ∧ Below w.heap.size w w' := by
  obtain ⟨W0, hW0⟩ : ∃ W0, W0 = (w.alloc (.cells #[va] 22)).alloc (.cells #[vb] 22) := ⟨_, rfl⟩
  have hB0 : Below w.heap.size w W0 := by rw [hW0]; exact ((Below.refl _ _).alloc (Nat.le_refl _) _).alloc (by simp) _
  have hbR : Bs W0 w.heap.size va := by rw [hW0]; exact (Below.heap_alloc _ _ _ (by simp)).trans (heap_alloc_new w _)
  have hbS : Bs W0 (w.heap.size + 1) vb := by rw [hW0]; exact new_two w _ _
  have haW := ha.below hB0 (Nat.le_refl _)
  have hbW := hb.below hB0 (Nat.le_refl _)
  have eg : ∀ args W, (callFunc 55 args).run Try.prog W = .ok (.enter 55 args) W := enters_of Try.func55 (by kernel_rfl) rfl
  have hml : min a.length b.length ≤ 9223372036854775807 := by
    obtain ⟨_, c, _, h1, h2, _⟩ := ha
    unfold maxLen at h2
    omega
  have HRUN := hide (run_any 55 w.heap.size (w.heap.size + 1) (fun j => decide (a.getD (a.length - 1 - j) 0 = b.getD (b.length - 1 - j) 0)) (min a.length b.length) hml W0 eg (fun W j hj h => behind1_any va a vb b w.heap.size (w.heap.size + 1) W (haW.below h (Nat.le_refl _)) (hbW.below h (Nat.le_refl _)) (hbR.below h (Nat.le_refl _)) (hbS.below h (Nat.le_refl _)) j (by omega) (by omega)))
  have HPL := hide (fun k h => preL_runBack (a := a) (b := b) (n := min a.length b.length) (k := k) rfl h)
  have HB0 := hide hB0
  have hmf : ∀ (fn : Fn) (first cap : Array Value) (w : World), (Instr.makeFunc fn first cap).run Try.prog w = .ok (.func fn first cap) w := fun _ _ _ _ => rfl
  obtain ⟨aa, ac, hva⟩ := ha.shape
  obtain ⟨ba, bc, hvb⟩ := hb.shape
  subst hva hvb
  have q1 := hbR.cell
  have q2 := hbS.cell
  have HW0 := hide hW0
  clear hB0 hbR hbS haW hbW eg hml ha hb hW0
  generalize preL a.reverse b.reverse = PL at *
  by_cases hlt : b.length < a.length
  · have hn : min a.length b.length = b.length := by omega
    have hlt2 : (b.length : Int) < (a.length : Int) := by omega
    rw [hn] at HRUN HPL
    clear hn
    go_enter Try.func26, Try.ntmps26
    go_upto_region 1 with fail
    rw [← HW0.out]
    clear HW0
    go_wp2_with fail
    refine HRUN.out.mono ?_
    rintro x W1 ⟨k, rfl, hk, hb1⟩
    have HK := hide (HPL.out k hk)
    have HB1 := hide (HB0.out.trans (hb1.mono HB0.out.size))
    clear hk hb1
    go_wp2
    go_ret
    rw [HK.out]
    exact ⟨rfl, HB1.out⟩
  · have hn : min a.length b.length = a.length := by omega
    have hlt2 : ¬ (b.length : Int) < (a.length : Int) := by omega
    rw [hn] at HRUN HPL
    clear hn
    go_enter Try.func26, Try.ntmps26
    go_upto_region 1 with fail
    rw [← HW0.out]
    clear HW0
    go_wp2_with fail
    refine HRUN.out.mono ?_
    rintro x W1 ⟨k, rfl, hk, hb1⟩
    have HK := hide (HPL.out k hk)
    have HB1 := hide (HB0.out.trans (hb1.mono HB0.out.size))
    clear hk hb1
    go_wp2
    go_ret
    rw [HK.out]
    exact ⟨rfl, HB1.out⟩

end Go.Proofs.Ytgpdbboieokldaa
