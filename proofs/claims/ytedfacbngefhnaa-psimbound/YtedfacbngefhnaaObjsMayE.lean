/- Contracts of objs: Start, own, seal. -/
import Derived.Test.YtedfacbngefhnaaObjsMayC
import Derived.Test.YtedfacbngefhnaaObjsLib
namespace Go.Proofs.Ytedfacbngefhnaa
open Go.RowKit

set_option maxRecDepth 100000 in
set_option maxHeartbeats 2000000 in
theorem ownS_any (v : Value) (s : St) (w : World) (hs : StV w v s) (hlim : s.L.length ≤ 1000000) :
    Calls Try.prog 59 #[v] w fun e w' => ∃ vl', e = .returned (.agg #[.int .i64 s.kind, vl', .bool s.shut, .int .i64 s.eng]) ∧ OwnI w' w.heap.size vl' s.L ∧ Below w.heap.size w w' := by
  obtain ⟨vl, rfl, hr, -, -⟩ := hs
  obtain ⟨kind, l, shut, g⟩ := s
  simp only at hr hlim ⊢
  have HC : Hid (∀ W, Below w.heap.size w W → Calls Try.prog 33 #[vl] W fun e w' => ∃ v', e = .returned v' ∧ OwnI w' W.heap.size v' l ∧ Below W.heap.size W w') := fun W h => cloneI_any vl l W (hr.below h (Nat.le_refl _)) hlim
  have HBA : Hid (∀ x y, Below w.heap.size w ((w.alloc x).alloc y)) := fun x y => ((Below.refl _ _).alloc (Nat.le_refl _) x).alloc (by simp) y
  clear hr hlim
  go_enter Try.func59, Try.ntmps59
  go_wp2_with fail
  refine (HC.out _ (HBA.out _ _)).mono ?_
  rintro e W1 ⟨v1, rfl, ho, hb1⟩
  have hbx : Box2 W1 w.heap.size _ _ := (Box2.made w _ _).below hb1 (by simp)
  have q0 := (hbx.s 0).1
  have q1 := (hbx.s 1).1
  have q2 := (hbx.s 2).1
  have q3 := (hbx.s 3).1
  have f1 := (hbx.s 1).2
  have r0 := (hbx.r 0).1
  have r1 := (hbx.r 1).1
  have r2 := (hbx.r 2).1
  have r3 := (hbx.r 3).1
  have s0 := (hbx.r 0).2
  have s1 := (hbx.r 1).2
  have s2 := (hbx.r 2).2
  have s3 := (hbx.r 3).2
  have HB1 := hide' ((HBA.out _ _).trans (hb1.mono (HBA.out _ _).size))
  have ho2 : OwnI W1 (w.heap.size + 1 + 1) v1 l := by
    have e : ∀ x y, ((w.alloc x).alloc y).heap.size = w.heap.size + 1 + 1 := fun x y => by simp
    rwa [e] at ho
  have HO := hide' ho2
  obtain ⟨ao, cap, rfl⟩ := ho2.shape
  clear hb1 hbx ho ho2
  go_wp2
  refine bodyPost_ret (v := .agg #[.int .i64 kind, .slice ao l.length cap, .bool shut, .int .i64 g]) (by simp [results, Try.results59, go_sem, r0, r1, r2, r3]) rfl ?_
  exact ⟨_, rfl, (HO.out.five w.heap.size (w.heap.size + 1) (by omega) (by omega) _ _ _ _ _).mono (by omega), belowFive HB1.out w.heap.size (w.heap.size + 1) (Nat.le_refl _) (by omega) _ _ _ _ _⟩

end Go.Proofs.Ytedfacbngefhnaa
