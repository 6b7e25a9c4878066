/- Read, Write, Swap and Add of a machine. -/
import Derived.Test.YtekkmflfhkdkoaaMachB
import Derived.Shelf.Abstract
namespace Go.Proofs.Ytekkmflfhkdkoaa
open Go.RowKit Go.Maps Go.Shelf

theorem only_back {w w1 w2 : World} {mc ms : Nat} {F : Nat → Prop} (h1 : Below w.heap.size w w1) (h2 : Only (fun k => k = mc ∨ k = ms ∨ F k) w1 w2) (hF : ∀ k, F k → w.heap.size ≤ k) : Only (fun k => k = mc ∨ k = ms) w w2 :=
  (Only.ofBelow (F := fun k => k = mc ∨ k = ms) h1).trans h2 fun k hk h => h.elim .inl fun h => h.elim .inr fun h => absurd (hF k h) (by omega)

set_option maxRecDepth 100000 in
set_option maxHeartbeats 1000000 in
theorem read_any {w : World} {p mc ms N : Nat} {M : Mc} (h : MacL w p mc ms M N) (hN : N ≤ 100000000000) (q cell : Int) (hq : I64 q) (hc : I64 cell) :
    Calls Try.prog 13 #[ptr p, .int .i64 q, .int .i64 cell] w fun e w' => e = .returned (.int .i64 (M.c cell)) ∧ MacL w' p mc ms (readM M q) (N + 2) ∧ Only (fun k => k = mc ∨ k = ms) w w' := by
  have hmf : ∀ (fn : Fn) (first cap : Array Value) (w : World), (Instr.makeFunc fn first cap).run Try.prog w = .ok (.func fn first cap) w := fun _ _ _ _ => rfl
  have h1 := h.alloc (.cells #[.int .i64 0] 3)
  have hpl := h.head.lt
  have hcl := h.cells.lt
  have hsl := h.steps.lt
  have hbx : Bk 3 (w.alloc (.cells #[.int .i64 0] 3)) w.heap.size #[.int .i64 0] := heap_alloc_new _ _
  have HA := hide (access_any h1 hN q cell hq hc (fun x => x) (h.ok.c cell) 25 #[ptr w.heap.size] (enters_of Try.func25 (by kernel_rfl) rfl)
    (fun k => k = w.heap.size) (by omega) (by omega) (by omega) (fun W => Bk 3 W w.heap.size #[.int .i64 0]) (fun W => Bk 3 W w.heap.size #[.int .i64 (M.c cell)]) hbx
    (fun W W' ho hb => hb.only ho (by omega)) (fun W W' ho hb => hb.only ho (by omega)) (fun W hb => readF_box _ _ _ W hb))
  have HC0 := hide (h.ok.c0 cell)
  have HE : Hid (accM M q cell (fun x => x) = readM M q) := accM_id rfl
  rw [HE.out] at HA
  have HB0 := hide ((Below.refl w.heap.size w).alloc (Nat.le_refl _) (.cells #[.int .i64 0] 3))
  obtain ⟨X, hX⟩ : ∃ X, X = M.c cell := ⟨_, rfl⟩
  rw [← hX] at HA HC0
  rw [← hX]
  clear h h1 hpl hcl hsl hbx HE hX hq hc
  go_enter Try.func13, Try.ntmps13
  go_wp2_with fail
  refine HA.out.mono ?_
  rintro e w2 ⟨rfl, hm2, ho2, hp1, hp0⟩
  have HEND := hide (And.intro hm2 (only_back HB0.out ho2 fun k hk => Nat.le_of_eq hk.symm))
  clear HA hm2 ho2
  have hcell : w2.cell? ⟨w.heap.size, 0, none⟩ = some (.int .i64 X) := by
    cases hi : inM cell M.len with
    | true => exact ((hp1 hi).cell 0 rfl).1
    | false => rw [HC0.out hi]; exact ((hp0 hi).cell 0 rfl).1
  clear hp1 hp0
  go_wp2
  go_ret
  exact ⟨rfl, HEND.out⟩

set_option maxRecDepth 100000 in
set_option maxHeartbeats 1000000 in
theorem write_any {w : World} {p mc ms N : Nat} {M : Mc} (h : MacL w p mc ms M N) (hN : N ≤ 100000000000) (q cell n : Int) (hq : I64 q) (hc : I64 cell) (hn : I64 n) :
    Calls Try.prog 15 #[ptr p, .int .i64 q, .int .i64 cell, .int .i64 n] w fun e w' => e = .returned (.tuple #[]) ∧ MacL w' p mc ms (writeM M q cell n) (N + 2) ∧ Only (fun k => k = mc ∨ k = ms) w w' := by
  have hmf : ∀ (fn : Fn) (first cap : Array Value) (w : World), (Instr.makeFunc fn first cap).run Try.prog w = .ok (.func fn first cap) w := fun _ _ _ _ => rfl
  have h1 := h.alloc (.cells #[.int .i64 n] 3)
  have hpl := h.head.lt
  have hcl := h.cells.lt
  have hsl := h.steps.lt
  have hbx : Bk 3 (w.alloc (.cells #[.int .i64 n] 3)) w.heap.size #[.int .i64 n] := heap_alloc_new _ _
  have HA := hide (access_any h1 hN q cell hq hc (fun _ => n) hn 27 #[ptr w.heap.size] (enters_of Try.func27 (by kernel_rfl) rfl)
    (fun k => k = w.heap.size) (by omega) (by omega) (by omega) (fun W => Bk 3 W w.heap.size #[.int .i64 n]) (fun W => Bk 3 W w.heap.size #[.int .i64 n]) hbx
    (fun W W' ho hb => hb.only ho (by omega)) (fun W W' ho hb => hb.only ho (by omega)) (fun W hb => (writeF_box _ _ _ W hb).mono fun e w' ⟨he, hw⟩ => ⟨he, by rw [hw]; exact hb, by rw [hw]; exact Only.refl _ _⟩))
  have HB0 := hide ((Below.refl w.heap.size w).alloc (Nat.le_refl _) (.cells #[.int .i64 n] 3))
  have HE : Hid (accM M q cell (fun _ => n) = writeM M q cell n) := rfl
  rw [HE.out] at HA
  clear h h1 hpl hcl hsl hbx hq hc hn HE
  go_enter Try.func15, Try.ntmps15
  go_wp2_with fail
  refine HA.out.mono ?_
  rintro e w2 ⟨rfl, hm2, ho2, -, -⟩
  have HEND := hide (And.intro hm2 (only_back HB0.out ho2 fun k hk => Nat.le_of_eq hk.symm))
  clear HA hm2 ho2
  go_wp2
  go_end0
  exact ⟨rfl, HEND.out⟩

set_option maxRecDepth 100000 in
set_option maxHeartbeats 1000000 in
theorem add_any {w : World} {p mc ms N : Nat} {M : Mc} (h : MacL w p mc ms M N) (hN : N ≤ 100000000000) (q cell n : Int) (hq : I64 q) (hc : I64 cell) :
    Calls Try.prog 19 #[ptr p, .int .i64 q, .int .i64 cell, .int .i64 n] w fun e w' => e = .returned (.int .i64 (M.c cell)) ∧ MacL w' p mc ms (addM M q cell n) (N + 2) ∧ Only (fun k => k = mc ∨ k = ms) w w' := by
  have hmf : ∀ (fn : Fn) (first cap : Array Value) (w : World), (Instr.makeFunc fn first cap).run Try.prog w = .ok (.func fn first cap) w := fun _ _ _ _ => rfl
  obtain ⟨w1, hw1⟩ : ∃ w1, w1 = w.alloc (.cells #[.int .i64 n] 3) := ⟨_, rfl⟩
  have hs1 : w1.heap.size = w.heap.size + 1 := by rw [hw1]; simp
  have hn1 : Bk 3 w1 w.heap.size #[.int .i64 n] := by rw [hw1]; exact heap_alloc_new _ _
  have h1 : MacL w1 p mc ms M N := by rw [hw1]; exact h.alloc _
  have h2 := h1.alloc (.cells #[.int .i64 0] 3)
  have hpl := h.head.lt
  have hcl := h.cells.lt
  have hsl := h.steps.lt
  have hn2 : Bk 3 (w1.alloc (.cells #[.int .i64 0] 3)) w.heap.size #[.int .i64 n] := hn1.keep (Below.heap_alloc _ _ _ (by omega))
  have hbx : Bk 3 (w1.alloc (.cells #[.int .i64 0] 3)) (w.heap.size + 1) #[.int .i64 0] := by rw [← hs1]; exact heap_alloc_new _ _
  have HA := hide (access_any h2 hN q cell hq hc (fun x => wrap64 (x + n)) (i64_wrap64 _) 29 #[ptr (w.heap.size + 1), ptr w.heap.size] (enters_of Try.func29 (by kernel_rfl) rfl)
    (fun k => k = w.heap.size + 1) (by omega) (by omega) (by omega) (fun W => Bk 3 W (w.heap.size + 1) #[.int .i64 0] ∧ Bk 3 W w.heap.size #[.int .i64 n]) (fun W => Bk 3 W (w.heap.size + 1) #[.int .i64 (M.c cell)]) ⟨hbx, hn2⟩
    (fun W W' ho hb => ⟨hb.1.only ho (by omega), hb.2.only ho (by omega)⟩) (fun W W' ho hb => hb.only ho (by omega)) (fun W hb => addF_box _ _ _ _ _ W hb.1 hb.2 (by omega)))
  have HC0 := hide (h.ok.c0 cell)
  have HB0 : Hid (Below w.heap.size w (w1.alloc (.cells #[.int .i64 0] 3))) := by rw [hw1]; exact ((Below.refl w.heap.size w).alloc (Nat.le_refl _) _).alloc (by simp) _
  have HE : Hid (accM M q cell (fun x => wrap64 (x + n)) = addM M q cell n) := rfl
  rw [HE.out] at HA
  obtain ⟨X, hX⟩ : ∃ X, X = M.c cell := ⟨_, rfl⟩
  rw [← hX] at HA HC0
  rw [← hX]
  rw [hw1] at HA HB0
  clear h h1 h2 hn1 hn2 hpl hcl hsl hbx HE hX hq hc hs1 hw1
  go_enter Try.func19, Try.ntmps19
  go_wp2_with fail
  refine HA.out.mono ?_
  rintro e w2 ⟨rfl, hm2, ho2, hp1, hp0⟩
  have HEND := hide (And.intro hm2 (only_back HB0.out ho2 fun k hk => by omega))
  have hcell : w2.cell? ⟨w.heap.size + 1, 0, none⟩ = some (.int .i64 X) := by
    cases hi : inM cell M.len with
    | true => exact ((hp1 hi).cell 0 rfl).1
    | false => rw [HC0.out hi]; exact ((hp0 hi).1.cell 0 rfl).1
  clear HA hm2 ho2 hp1 hp0
  go_wp2
  go_ret
  exact ⟨rfl, HEND.out⟩

set_option maxRecDepth 100000 in
set_option maxHeartbeats 1000000 in
theorem swap_any {w : World} {p mc ms N : Nat} {M : Mc} (h : MacL w p mc ms M N) (hN : N ≤ 100000000000) (q cell old new : Int) (hq : I64 q) (hc : I64 cell) (hnw : I64 new) :
    Calls Try.prog 17 #[ptr p, .int .i64 q, .int .i64 cell, .int .i64 old, .int .i64 new] w fun e w' => e = .returned (.bool (inM cell M.len && decide (M.c cell = old))) ∧ MacL w' p mc ms (swapM M q cell old new) (N + 2) ∧ Only (fun k => k = mc ∨ k = ms) w w' := by
  have hmf : ∀ (fn : Fn) (first cap : Array Value) (w : World), (Instr.makeFunc fn first cap).run Try.prog w = .ok (.func fn first cap) w := fun _ _ _ _ => rfl
  obtain ⟨w1, hw1⟩ : ∃ w1, w1 = w.alloc (.cells #[.int .i64 old] 3) := ⟨_, rfl⟩
  have hs1 : w1.heap.size = w.heap.size + 1 := by rw [hw1]; simp
  have ho1 : Bk 3 w1 w.heap.size #[.int .i64 old] := by rw [hw1]; exact heap_alloc_new _ _
  have h1 : MacL w1 p mc ms M N := by rw [hw1]; exact h.alloc _
  obtain ⟨w2, hw2⟩ : ∃ w2, w2 = w1.alloc (.cells #[.int .i64 new] 3) := ⟨_, rfl⟩
  have hs2 : w2.heap.size = w.heap.size + 1 + 1 := by rw [hw2]; simp [hs1]
  have hn2 : Bk 3 w2 (w.heap.size + 1) #[.int .i64 new] := by rw [hw2, ← hs1]; exact heap_alloc_new _ _
  have ho2 : Bk 3 w2 w.heap.size #[.int .i64 old] := by rw [hw2]; exact ho1.keep (Below.heap_alloc _ _ _ (by omega))
  have h2 : MacL w2 p mc ms M N := by rw [hw2]; exact h1.alloc _
  have h3 := h2.alloc (.cells #[.bool false] 4)
  have hpl := h.head.lt
  have hcl := h.cells.lt
  have hsl := h.steps.lt
  have hn3 : Bk 3 (w2.alloc (.cells #[.bool false] 4)) (w.heap.size + 1) #[.int .i64 new] := hn2.keep (Below.heap_alloc _ _ _ (by omega))
  have ho3 : Bk 3 (w2.alloc (.cells #[.bool false] 4)) w.heap.size #[.int .i64 old] := ho2.keep (Below.heap_alloc _ _ _ (by omega))
  have hbx : Bk 4 (w2.alloc (.cells #[.bool false] 4)) (w.heap.size + 1 + 1) #[.bool false] := by rw [← hs2]; exact heap_alloc_new _ _
  have hgi : I64 (if M.c cell = old then new else M.c cell) := by split; exact hnw; exact h.ok.c cell
  have HA := hide (access_any h3 hN q cell hq hc (fun x => if x = old then new else x) hgi 28 #[ptr w.heap.size, ptr (w.heap.size + 1 + 1), ptr (w.heap.size + 1)] (enters_of Try.func28 (by kernel_rfl) rfl)
    (fun k => k = w.heap.size + 1 + 1) (by omega) (by omega) (by omega) (fun W => Bk 3 W w.heap.size #[.int .i64 old] ∧ Bk 4 W (w.heap.size + 1 + 1) #[.bool false] ∧ Bk 3 W (w.heap.size + 1) #[.int .i64 new]) (fun W => Bk 4 W (w.heap.size + 1 + 1) #[.bool (if M.c cell = old then true else false)]) ⟨ho3, hbx, hn3⟩
    (fun W W' ho hb => ⟨hb.1.only ho (by omega), hb.2.1.only ho (by omega), hb.2.2.only ho (by omega)⟩) (fun W W' ho hb => hb.only ho (by omega)) (fun W hb => swapF_box _ _ _ _ _ _ _ W hb.1 hb.2.1 hb.2.2))
  have HB0 : Hid (Below w.heap.size w (w2.alloc (.cells #[.bool false] 4))) := by rw [hw2, hw1]; exact (((Below.refl w.heap.size w).alloc (Nat.le_refl _) _).alloc (by simp) _).alloc (by simp; omega) _
  have HE : Hid (accM M q cell (fun x => if x = old then new else x) = swapM M q cell old new) := rfl
  rw [HE.out] at HA
  obtain ⟨X, hX⟩ : ∃ X, X = (inM cell M.len && decide (M.c cell = old)) := ⟨_, rfl⟩
  have HX := hide hX
  rw [← hX]
  rw [hw2, hw1] at HA HB0
  clear h h1 h2 h3 hn2 hn3 ho1 ho2 ho3 hpl hcl hsl hbx HE hX hq hc hs1 hs2 hw1 hw2 hnw hgi
  go_enter Try.func17, Try.ntmps17
  go_wp2_with fail
  refine HA.out.mono ?_
  rintro e w3 ⟨rfl, hm2, ho2, hp1, hp0⟩
  have HEND := hide (And.intro hm2 (only_back HB0.out ho2 fun k hk => by omega))
  have hcell : w3.cell? ⟨w.heap.size + 1 + 1, 0, none⟩ = some (.bool X) := by
    rw [HX.out]
    cases hi : inM cell M.len with
    | true =>
      rw [((hp1 hi).cell 0 rfl).1]
      by_cases e : M.c cell = old
      · simp [e]
      · simp [e]
    | false => exact ((hp0 hi).2.1.cell 0 rfl).1
  clear HA hm2 ho2 hp1 hp0
  go_wp2
  go_ret
  exact ⟨rfl, HEND.out⟩

end Go.Proofs.Ytekkmflfhkdkoaa
