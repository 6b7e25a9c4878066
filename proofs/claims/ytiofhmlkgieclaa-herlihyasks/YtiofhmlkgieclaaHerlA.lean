/- Herlihy's engine: a process's accesses. -/
import Derived.Test.YtiofhmlkgieclaaPack4
import Derived.Deep.RegionHeld
import Derived.Deep.RegionHeld2
import Derived.Deep.QuietTactic
import Derived.BigQuiet
namespace Go.Proofs.Ytiofhmlkgieclaa
open Go.RowKit Go.Maps

/-- The machine's own blocks. -/
abbrev MachF (L : HL) (k : Nat) : Prop := k = L.mc ∨ k = L.ms

theorem only_drew (F : Nat → Prop) (w : World) : Only F w w.drew := Only.ofBelow ((Below.refl _ w).drew)

/-- What the machine's calls leave. -/
theorem EgL.mach {w W : World} {eb : Nat} {L : HL} {x : Nat → Value} {e : Eg} {M : Mc} {N : Nat} (h : EgL w eb L x e M N) (ho : Only (MachF L) w W) :
    Bk 63 W eb #[ptr L.l, L.pv] ∧ Bk 73 W L.l (lsC e.n L.m L.nv L.lv L.sv e.st) ∧ (∀ p, p < e.n → Bk 68 W (L.qs p) (pcC L.l p (x p) (e.ps p))) := by
  have A := h.apt
  refine ⟨h.head.only ho fun g => ?_, h.list.only ho fun g => ?_, fun p hp => (h.pr p hp).only ho fun g => ?_⟩
  · exact (A.eb_ eb (g.imp id .inl)).1 rfl
  · exact (A.eb_ L.l (g.imp id .inl)).2.2.1 rfl
  · exact g.elim (A.m_ p hp).2.1 (A.m_ p hp).2.2

theorem i64_nat {n : Nat} (h : n ≤ 1000000000000) : I64 (n : Int) := ⟨by omega, by omega⟩

set_option maxRecDepth 100000 in
set_option maxHeartbeats 1000000 in
theorem readP_any {w : World} {eb : Nat} {L : HL} {x : Nat → Value} {e : Eg} {M : Mc} {N p : Nat} (h : EgL w eb L x e M N) (hp : p < e.n) (hn : e.n ≤ 64) (hN : N ≤ 1000000) (cell X : Int) (hc : I64 cell) (hX : M.c cell = X) :
    Calls Try.prog 46 #[ptr (L.qs p), .int .i64 cell] w fun r w' => r = .returned (.int .i64 X) ∧ MacL w' L.m L.mc L.ms (readM M (p : Int)) (N + 2) ∧ Only (MachF L) w w' := by
  subst hX
  have hpi : I64 (p : Int) := i64_nat (by omega)
  obtain ⟨P, hP⟩ : ∃ P : Int, P = (p : Int) := ⟨_, rfl⟩
  rw [← hP] at hpi ⊢
  obtain ⟨q, hq⟩ : ∃ q, q = L.qs p := ⟨_, rfl⟩
  rw [← hq]
  have HC : Hid (∀ W, Below w.heap.size w W → Calls Try.prog 50 #[ptr L.m, .int .i64 P, .int .i64 cell] W fun e w' => e = .returned (.int .i64 (M.c cell)) ∧ MacL w' L.m L.mc L.ms (readM M P) (N + 2) ∧ Only (MachF L) W w') :=
    hide fun W hb => read_any ((h.below hb).mac) (by omega) P cell hpi hc
  have HK : Hid (∀ W, Only (MachF L) w W → W.cell? ⟨q, 0, none⟩ = some (.int .i64 P) ∧ W.cell? ⟨q, 1, none⟩ = some (ptr L.l) ∧ W.cell? ⟨L.l, 1, none⟩ = some (ptr L.m)) := hide fun W ho => by
    obtain ⟨_, h2, h3⟩ := h.mach ho
    have h3 := h3 p hp
    rw [← hq] at h3
    exact ⟨by rw [hP]; exact (h3.cell 0 rfl).1, (h3.cell 1 rfl).1, (h2.cell 1 rfl).1⟩
  obtain ⟨l, hl⟩ : ∃ l, l = L.l := ⟨_, rfl⟩
  obtain ⟨m, hm⟩ : ∃ m, m = L.m := ⟨_, rfl⟩
  rw [← hl, ← hm] at HK
  rw [← hm] at HC ⊢
  generalize M.c cell = X at *
  have HO0 := hide (only_drew (MachF L) w)
  have HB0 := hide ((Below.refl w.heap.size w).drew)
  obtain ⟨c0, c1, c2⟩ := HK.out w (Only.refl _ _)
  clear h hp hn hN hc hpi hP hq hl hm
  go_enter Try.func46, Try.ntmps46
  go_wp2
  go_region_held (fun W => W.cell? ⟨q, 0, none⟩ = some (.int .i64 P) ∧ W.cell? ⟨q, 1, none⟩ = some (ptr l) ∧ W.cell? ⟨l, 1, none⟩ = some (ptr m))
    (first | (with_reducible exact HK.out _ HO0.out) | (with_reducible exact HK.out _ HO1.out))
    (first | (go_at_call 50; refine (HC.out _ HB0.out).mono ?_; rintro e W1 ⟨rfl, hm1, ho1⟩; have HM1 := hide hm1; have HO1 := hide (HO0.out.trans ho1 fun _ _ h => h); clear hm1 ho1))
  all_goals
    go_wp2
    go_ret
    exact ⟨rfl, HM1.out, HO1.out⟩

set_option maxRecDepth 100000 in
set_option maxHeartbeats 1000000 in
theorem writeP_any {w : World} {eb : Nat} {L : HL} {x : Nat → Value} {e : Eg} {M : Mc} {N p : Nat} (h : EgL w eb L x e M N) (hp : p < e.n) (hn : e.n ≤ 64) (hN : N ≤ 1000000) (cell v : Int) (hc : I64 cell) (hv : I64 v) :
    Calls Try.prog 43 #[ptr (L.qs p), .int .i64 cell, .int .i64 v] w fun r w' => r = .returned (.tuple #[]) ∧ MacL w' L.m L.mc L.ms (writeM M (p : Int) cell v) (N + 2) ∧ Only (MachF L) w w' := by
  have hpi : I64 (p : Int) := i64_nat (by omega)
  obtain ⟨P, hP⟩ : ∃ P : Int, P = (p : Int) := ⟨_, rfl⟩
  rw [← hP] at hpi ⊢
  obtain ⟨q, hq⟩ : ∃ q, q = L.qs p := ⟨_, rfl⟩
  rw [← hq]
  have HC : Hid (∀ W, Below w.heap.size w W → Calls Try.prog 45 #[ptr L.m, .int .i64 P, .int .i64 cell, .int .i64 v] W fun e w' => e = .returned (.tuple #[]) ∧ MacL w' L.m L.mc L.ms (writeM M P cell v) (N + 2) ∧ Only (MachF L) W w') :=
    hide fun W hb => write_any ((h.below hb).mac) (by omega) P cell v hpi hc hv
  have HK : Hid (∀ W, Only (MachF L) w W → W.cell? ⟨q, 0, none⟩ = some (.int .i64 P) ∧ W.cell? ⟨q, 1, none⟩ = some (ptr L.l) ∧ W.cell? ⟨L.l, 1, none⟩ = some (ptr L.m)) := hide fun W ho => by
    obtain ⟨_, h2, h3⟩ := h.mach ho
    have h3 := h3 p hp
    rw [← hq] at h3
    exact ⟨by rw [hP]; exact (h3.cell 0 rfl).1, (h3.cell 1 rfl).1, (h2.cell 1 rfl).1⟩
  obtain ⟨l, hl⟩ : ∃ l, l = L.l := ⟨_, rfl⟩
  obtain ⟨m, hm⟩ : ∃ m, m = L.m := ⟨_, rfl⟩
  rw [← hl, ← hm] at HK
  rw [← hm] at HC ⊢
  have HO0 := hide (only_drew (MachF L) w)
  have HB0 := hide ((Below.refl w.heap.size w).drew)
  obtain ⟨c0, c1, c2⟩ := HK.out w (Only.refl _ _)
  clear h hp hn hN hc hv hpi hP hq hl hm
  go_enter Try.func43, Try.ntmps43
  go_wp2
  go_region_held (fun W => W.cell? ⟨q, 0, none⟩ = some (.int .i64 P) ∧ W.cell? ⟨q, 1, none⟩ = some (ptr l) ∧ W.cell? ⟨l, 1, none⟩ = some (ptr m))
    (first | (with_reducible exact HK.out _ HO0.out) | (with_reducible exact HK.out _ HO1.out))
    (first | (go_at_call 45; refine (HC.out _ HB0.out).mono ?_; rintro e W1 ⟨rfl, hm1, ho1⟩; have HM1 := hide hm1; have HO1 := hide (HO0.out.trans ho1 fun _ _ h => h); clear hm1 ho1))
  all_goals
    go_wp2
    go_end0
    exact ⟨rfl, HM1.out, HO1.out⟩

end Go.Proofs.Ytiofhmlkgieclaa
