/- The calls of a machine: what each answers, and what it leaves. -/
import Derived.Test.YtekkmflfhkdkoaaMachBase
namespace Go.Proofs.Ytekkmflfhkdkoaa
open Go.RowKit Go.Maps

theorem mwrap (n : Int) (h0 : -2251799813685248 ≤ n) (h1 : n ≤ 2251799813685248) : IntKind.i64.wrap n = n := by
  rw [IntKind.wrap_i64]
  omega

set_option maxRecDepth 100000 in
theorem isOf_any (n count : Int) (w : World) :
    Calls Try.prog 30 #[.int .i64 n, .int .i64 count] w fun e w' => e = .returned (.bool (inM n count)) ∧ w' = w := by
  obtain ⟨r, hr⟩ : ∃ r, r = inM n count := ⟨_, rfl⟩
  rw [← hr]
  unfold inM at hr
  have HR := hide hr
  clear hr
  go_enter Try.func30, Try.ntmps30
  by_cases h0 : 0 ≤ n
  · go_wp2
    go_ret
    exact ⟨by rw [HR.out]; congr 3; simp [h0], rfl⟩
  · go_wp2
    go_ret
    exact ⟨by rw [HR.out]; congr 3; simp; omega, rfl⟩

theorem newMac (w : World) (procs : Int) (hp : I64 procs) :
    MacL (((w.alloc (.map #[] 0)).alloc (.map #[] 0)).alloc (.cells (headM w.heap.size (w.heap.size + 1) (newM procs)) 45)) (w.heap.size + 2) w.heap.size (w.heap.size + 1) (newM procs) 0 := by
  have k1 := MapI.made w
  have k2 := MapI.made (w.alloc (.map #[] 0))
  have b1 : Below (w.heap.size + 1) (w.alloc (.map #[] 0)) (((w.alloc (.map #[] 0)).alloc (.map #[] 0)).alloc (.cells (headM w.heap.size (w.heap.size + 1) (newM procs)) 45)) :=
    ((Below.refl _ _).alloc (by simp) _).alloc (by simp) _
  have b2 : Below (w.heap.size + 2) ((w.alloc (.map #[] 0)).alloc (.map #[] 0)) (((w.alloc (.map #[] 0)).alloc (.map #[] 0)).alloc (.cells (headM w.heap.size (w.heap.size + 1) (newM procs)) 45)) :=
    (Below.refl _ _).alloc (by simp) _
  refine ⟨?_, k1.below b1 (by simp), ?_, by omega, OkM.new hp⟩
  · have := heap_alloc_new ((w.alloc (.map #[] 0)).alloc (.map #[] 0)) (.cells (headM w.heap.size (w.heap.size + 1) (newM procs)) 45)
    have e : ((w.alloc (.map #[] 0)).alloc (.map #[] 0)).heap.size = w.heap.size + 2 := by simp
    rw [e] at this
    exact this
  · have e : (w.alloc (.map #[] 0)).heap.size = w.heap.size + 1 := by simp
    rw [e] at k2
    exact k2.below b2 (by simp)

set_option maxRecDepth 100000 in
theorem newM_any (procs : Int) (w : World) (hp : I64 procs) :
    Calls Try.prog 9 #[.int .i64 procs] w fun e w' => ∃ p, e = .returned (ptr p) ∧ w.heap.size ≤ p ∧ Mac (fun k => k < w.heap.size) w' p (newM procs) 0 ∧ Below w.heap.size w w' := by
  have HP := hide (newMac w procs hp)
  have hmm := @run_makeMap Try.prog
  clear hp
  go_enter Try.func9, Try.ntmps9
  go_wp2
  go_ret
  exact ⟨w.heap.size + 2, rfl, by omega, ⟨_, _, HP.out, by omega, by omega, by omega⟩, (((Below.refl _ w).alloc (Nat.le_refl _) _).alloc (by simp) _).alloc (by simp; omega) _⟩

set_option maxRecDepth 100000 in
theorem lenM_any {w : World} {p mc ms N : Nat} {M : Mc} (h : MacL w p mc ms M N) :
    Calls Try.prog 21 #[ptr p] w fun e w' => e = .returned (.int .i64 (M.len : Int)) ∧ w' = w := by
  have c1 : w.cell? ⟨p, 1, none⟩ = some (.int .i64 (M.len : Int)) := (h.head.cell 1 rfl).1
  clear h
  go_enter Try.func21, Try.ntmps21
  go_wp2
  go_ret
  exact ⟨rfl, rfl⟩

set_option maxRecDepth 100000 in
theorem stepsM_any {w : World} {p mc ms N : Nat} {M : Mc} (h : MacL w p mc ms M N) (q : Int) (hq : I64 q) :
    Calls Try.prog 22 #[ptr p, .int .i64 q] w fun e w' => e = .returned (.int .i64 (M.s q)) ∧ w' = w := by
  have c3 : w.cell? ⟨p, 3, none⟩ = some (.map (some ms)) := (h.head.cell 3 rfl).1
  have hl := h.steps.look hq
  clear h hq
  go_enter Try.func22, Try.ntmps22
  go_wp2
  go_ret
  exact ⟨rfl, rfl⟩

theorem MacL.setLen {w : World} {p mc ms N : Nat} {M : Mc} (h : MacL w p mc ms M N) (n : Nat) (hok : OkM { M with len := n } N) : MacL (w.setCell ⟨p, 1, none⟩ (.int .i64 (n : Int))) p mc ms { M with len := n } N := by
  have hp1 : mc ≠ p := (h.cells.apart h.head).symm
  have hp2 : ms ≠ p := (h.steps.apart h.head).symm
  exact ⟨h.head.set 1 _, h.cells.keep (Below.heap_setCell _ _ _ _ hp1), h.steps.keep (Below.heap_setCell _ _ _ _ hp2), h.ne, hok⟩

set_option maxRecDepth 100000 in
theorem cellsM_any {w : World} {p mc ms N : Nat} {M : Mc} (h : MacL w p mc ms M N) (n : Int) (hl : M.len + n.toNat ≤ 1000000000000000) :
    Calls Try.prog 11 #[ptr p, .int .i64 n] w fun e w' => e = .returned (.int .i64 (M.len : Int)) ∧ MacL w' p mc ms (cellsM M n) N ∧ Only (fun k => k = p) w w' := by
  obtain ⟨c1, f1⟩ := h.head.cell 1 rfl
  have HM := hide h
  have HOK := hide (h.ok.cells n hl)
  obtain ⟨L, hL⟩ : ∃ L : Int, L = (M.len : Int) := ⟨_, rfl⟩
  have hL0 : 0 ≤ L ∧ L + n ≤ 1000000000000000 := by omega
  have HL := hide hL
  have c1' : w.cell? ⟨p, 1, none⟩ = some (.int .i64 L) := by rw [hL]; exact c1
  rw [← hL]
  clear h hl hL c1
  by_cases h1 : 1 ≤ n
  · by_cases h2 : n ≤ 1048576
    · have HE : Hid (cellsM M n = { M with len := M.len + n.toNat }) := if_pos ⟨h1, h2⟩
      have HK := hide h1
      go_enter Try.func11, Try.ntmps11
      go_wp2
      go_ret
      have e : ((M.len + n.toNat : Nat) : Int) = L + n := by have := HK.out; rw [HL.out]; omega
      refine ⟨rfl, ?_, (Only.refl (fun k => k = p) _).setCell 1 (fun _ => rfl) _⟩
      have hk := HOK.out
      rw [HE.out] at hk ⊢
      have := HM.out.setLen _ hk
      rw [e] at this
      exact this
    · have HE : Hid (cellsM M n = M) := if_neg (by omega)
      go_enter Try.func11, Try.ntmps11
      go_wp2
      go_ret
      exact ⟨rfl, by rw [HE.out]; exact HM.out, Only.refl _ _⟩
  · have HE : Hid (cellsM M n = M) := if_neg (by omega)
    go_enter Try.func11, Try.ntmps11
    go_wp2
    go_ret
    exact ⟨rfl, by rw [HE.out]; exact HM.out, Only.refl _ _⟩

end Go.Proofs.Ytekkmflfhkdkoaa
