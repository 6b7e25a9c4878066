/- Contracts of objs: Start, own, seal. -/
import Derived.Test.YtclankoffcfkfaaObjsMayC
namespace Go.Proofs.Ytclankoffcfkfaa
open Go.RowKit

set_option maxRecDepth 100000 in
set_option maxHeartbeats 2000000 in
theorem start_any (kind : Int) (w : World) : Calls Try.prog 14 #[.int .i64 kind] w fun e w' => Started w (startS kind) e w' := by
  have c0 : I64 0 := i64_small (by decide) (by decide)
  have H1 : Hid (∀ x, Below w.heap.size w (w.alloc x)) := fun x => (Below.refl _ _).alloc (Nat.le_refl _) x
  have H2 : Hid (∀ x y, Below w.heap.size w ((w.alloc x).alloc y)) := fun x y => (H1.out x).alloc (by simp) y
  have C0 := hide' c0
  clear c0
  by_cases hbad : kind < 0 ∨ 6 ≤ kind
  · have HE : Hid (startS kind = ⟨0, [], false, 0⟩) := if_pos hbad
    rw [HE.out]
    have e0 : (kind == 0) = false := beq_eq_false_iff_ne.2 (by omega)
    have e1 : (kind == 1) = false := beq_eq_false_iff_ne.2 (by omega)
    have e2 : (kind == 2) = false := beq_eq_false_iff_ne.2 (by omega)
    have e3 : (kind == 3) = false := beq_eq_false_iff_ne.2 (by omega)
    have e4 : (kind == 4) = false := beq_eq_false_iff_ne.2 (by omega)
    have e5 : (kind == 5) = false := beq_eq_false_iff_ne.2 (by omega)
    clear hbad HE
    go_enter Try.func14, Try.ntmps14
    go_wp2
    refine bodyPost_ret (v := .agg #[.int .i64 0, .slice none 0 0, .bool false, .int .i64 0]) (by simp [results, Try.results14, go_sem]) rfl ?_
    exact ⟨_, rfl, ⟨_, rfl, RdI.nil _, C0.out, C0.out⟩, H1.out _⟩
  · have HKI : Hid (I64 kind) := i64_small (by omega) (by omega)
    by_cases h1 : kind ≤ 1
    · have HE : Hid (startS kind = ⟨kind, [0], false, 0⟩) := by
        unfold startS
        rw [if_neg hbad, if_pos h1]
        exact rfl
      rw [HE.out]
      have hk : kind = 0 ∨ kind = 1 := by omega
      clear hbad h1 HE
      have HRD : Hid (∀ x, RdI ((w.alloc x).alloc (.cells #[.int .i64 0] 3)) (.slice (some ⟨w.heap.size + 1, 0, none⟩) 1 1) [0]) := fun x => by
        have h := RdI.one (w.alloc x) 0 C0.out
        have e : (w.alloc x).heap.size = w.heap.size + 1 := by simp
        rwa [e] at h
      rcases hk with rfl | rfl
      · go_enter Try.func14, Try.ntmps14
        go_wp2
        refine bodyPost_ret (v := .agg #[.int .i64 0, .slice (some ⟨w.heap.size + 1, 0, none⟩) 1 1, .bool false, .int .i64 0]) (by simp [results, Try.results14, go_sem]) rfl ?_
        exact ⟨_, rfl, ⟨_, rfl, HRD.out _, HKI.out, C0.out⟩, H2.out _ _⟩
      · go_enter Try.func14, Try.ntmps14
        go_wp2
        refine bodyPost_ret (v := .agg #[.int .i64 1, .slice (some ⟨w.heap.size + 1, 0, none⟩) 1 1, .bool false, .int .i64 0]) (by simp [results, Try.results14, go_sem]) rfl ?_
        exact ⟨_, rfl, ⟨_, rfl, HRD.out _, HKI.out, C0.out⟩, H2.out _ _⟩
    · have HE : Hid (startS kind = ⟨kind, [], false, 0⟩) := by
        unfold startS
        rw [if_neg hbad, if_neg h1]
        exact rfl
      rw [HE.out]
      have hk : kind = 2 ∨ kind = 3 ∨ kind = 4 ∨ kind = 5 := by omega
      clear hbad h1 HE
      rcases hk with rfl | rfl | rfl | rfl
      · go_enter Try.func14, Try.ntmps14
        go_wp2
        refine bodyPost_ret (v := .agg #[.int .i64 2, .slice none 0 0, .bool false, .int .i64 0]) (by simp [results, Try.results14, go_sem]) rfl ?_
        exact ⟨_, rfl, ⟨_, rfl, RdI.nil _, HKI.out, C0.out⟩, H1.out _⟩
      · go_enter Try.func14, Try.ntmps14
        go_wp2
        refine bodyPost_ret (v := .agg #[.int .i64 3, .slice none 0 0, .bool false, .int .i64 0]) (by simp [results, Try.results14, go_sem]) rfl ?_
        exact ⟨_, rfl, ⟨_, rfl, RdI.nil _, HKI.out, C0.out⟩, H1.out _⟩
      · go_enter Try.func14, Try.ntmps14
        go_wp2
        refine bodyPost_ret (v := .agg #[.int .i64 4, .slice none 0 0, .bool false, .int .i64 0]) (by simp [results, Try.results14, go_sem]) rfl ?_
        exact ⟨_, rfl, ⟨_, rfl, RdI.nil _, HKI.out, C0.out⟩, H1.out _⟩
      · go_enter Try.func14, Try.ntmps14
        go_wp2
        refine bodyPost_ret (v := .agg #[.int .i64 5, .slice none 0 0, .bool false, .int .i64 0]) (by simp [results, Try.results14, go_sem]) rfl ?_
        exact ⟨_, rfl, ⟨_, rfl, RdI.nil _, HKI.out, C0.out⟩, H1.out _⟩

set_option maxRecDepth 100000 in
set_option maxHeartbeats 2000000 in
theorem own_any (v : Value) (s : St) (w : World) (hs : StV w v s) (hlim : s.L.length ≤ 1000000) :
    Calls Try.prog 25 #[v] w fun e w' => ∃ vl', e = .returned (.agg #[.int .i64 s.kind, vl', .bool s.shut, .int .i64 s.eng]) ∧ OwnI w' w.heap.size vl' s.L ∧ Below w.heap.size w w' := by
  obtain ⟨vl, rfl, hr, -, -⟩ := hs
  obtain ⟨kind, l, shut, g⟩ := s
  simp only at hr hlim ⊢
  have HC : Hid (∀ W, Below w.heap.size w W → Calls Try.prog 36 #[vl] W fun e w' => ∃ v', e = .returned v' ∧ OwnI w' W.heap.size v' l ∧ Below W.heap.size W w') := fun W h => cloneI_any vl l W (hr.below h (Nat.le_refl _)) hlim
  have HBA : Hid (∀ x y, Below w.heap.size w ((w.alloc x).alloc y)) := fun x y => ((Below.refl _ _).alloc (Nat.le_refl _) x).alloc (by simp) y
  clear hr hlim
  go_enter Try.func25, Try.ntmps25
  go_wp2_with fail
  refine (HC.out _ (HBA.out _ _)).mono ?_
  rintro e W1 ⟨v1, rfl, ho, hb1⟩
  have hbx : Box2 W1 w.heap.size _ _ := (Box2.made w _ _).below hb1 (by simp)
  have q0 := (hbx.s 0).1
  have q1 := (hbx.s 1).1
  have q2 := (hbx.s 2).1
  have q3 := (hbx.s 3).1
  have f1 := (hbx.s 1).2
  have r0 := (hbx.r 0).1
  have r1 := (hbx.r 1).1
  have r2 := (hbx.r 2).1
  have r3 := (hbx.r 3).1
  have s0 := (hbx.r 0).2
  have s1 := (hbx.r 1).2
  have s2 := (hbx.r 2).2
  have s3 := (hbx.r 3).2
  have HB1 := hide' ((HBA.out _ _).trans (hb1.mono (HBA.out _ _).size))
  have ho2 : OwnI W1 (w.heap.size + 1 + 1) v1 l := by
    have e : ∀ x y, ((w.alloc x).alloc y).heap.size = w.heap.size + 1 + 1 := fun x y => by simp
    rwa [e] at ho
  have HO := hide' ho2
  obtain ⟨ao, cap, rfl⟩ := ho2.shape
  clear hb1 hbx ho ho2
  go_wp2
  refine bodyPost_ret (v := .agg #[.int .i64 kind, .slice ao l.length cap, .bool shut, .int .i64 g]) (by simp [results, Try.results25, go_sem, r0, r1, r2, r3]) rfl ?_
  exact ⟨_, rfl, (HO.out.five w.heap.size (w.heap.size + 1) (by omega) (by omega) _ _ _ _ _).mono (by omega), belowFive HB1.out w.heap.size (w.heap.size + 1) (Nat.le_refl _) (by omega) _ _ _ _ _⟩

end Go.Proofs.Ytclankoffcfkfaa
