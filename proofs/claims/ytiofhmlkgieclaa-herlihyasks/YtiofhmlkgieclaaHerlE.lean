/- Herlihy's engine: whose turn it is; the next node; what is told. -/
import Derived.Test.YtiofhmlkgieclaaHerlD
namespace Go.Proofs.Ytiofhmlkgieclaa
open Go.RowKit Go.Maps

/-- A process stores into a cell of its own. -/
theorem EgL.store {w : World} {eb : Nat} {L : HL} {x : Nat → Value} {e : Eg} {M : Mc} {N p : Nat} (h : EgL w eb L x e M N) (hp : p < e.n) (j : Nat) (v : Value) (q' : Pc) (hq : (pcC L.l p (x p) (e.ps p)).setIfInBounds j v = pcC L.l p (x p) q') (hd : q'.did = (e.ps p).did) :
    EgL (w.setCell ⟨L.qs p, j, none⟩ v) eb L x { e with ps := putN e.ps p q' } M N ∧ Only (StepF L p) w (w.setCell ⟨L.qs p, j, none⟩ v) := by
  have A := h.apt
  have m := A.m_ p hp
  have o1 : Only (StepF L p) w (w.setCell ⟨L.qs p, j, none⟩ v) := (Only.refl (StepF L p) w).setCell j (fun _ => .inr (.inr rfl)) v
  refine ⟨h.own hp o1 (h.mac.keep (Below.heap_setCell _ _ _ _ m.1.symm) (Below.heap_setCell _ _ _ _ m.2.1.symm) (Below.heap_setCell _ _ _ _ m.2.2.symm)) (by rw [← hq]; exact (h.pr p hp).set j v) (fun _ _ => rfl) rfl rfl rfl rfl rfl ⟨h.rel.procs, h.rel.len, h.rel.ann, h.rel.head, h.rel.nxt, h.rel.plc, fun r hr => ?_⟩, o1⟩
  rw [h.rel.s r hr]
  show ((e.ps r).did : Int) = (putN e.ps p q' r).did
  by_cases a : r = p
  · rw [a, putN_same, hd]
  · rw [putN_other _ _ a]

theorem StepDid.behind {w w1 : World} {eb : Nat} {L : HL} {x : Nat → Value} {e' : Eg} {N p : Nat} {r : Ending} {w' : World} (ho : Only (StepF L p) w w1) (h : StepDid w1 eb L x e' N p r w') : StepDid w eb L x e' N p r w' := by
  obtain ⟨M', h1, h2, h3⟩ := h
  exact ⟨M', h1, h2, ho.trans h3 fun _ _ k => k⟩

theorem putN_putN {α : Type} (f : Nat → α) (k : Nat) (u v : α) : putN (putN f k u) k v = putN f k v := by
  funext j
  unfold putN
  by_cases a : j = k
  · rw [if_pos a, if_pos a]
  · rw [if_neg a, if_neg a, if_neg a]

set_option maxRecDepth 100000 in
set_option maxHeartbeats 2000000 in
theorem readTurnP_any {w : World} {eb : Nat} {L : HL} {x : Nat → Value} {e : Eg} {g : Gh} {M : Mc} {N p : Nat} (h : EgL w eb L x e M N) (I : Inv e g) (hp : p < e.n) (F : FitE e N) (hN : N ≤ 1000000) :
    Calls Try.prog 54 #[ptr (L.qs p)] w fun r w' => StepDid w eb L x (readTurnE e p) N p r w' := by
  have hmf : ∀ (fn : Fn) (first cap : Array Value) (w : World), (Instr.makeFunc fn first cap).run Try.prog w = .ok (.func fn first cap) w := fun _ _ _ _ => rfl
  have hn := F.n
  have hn1 := I.G.n1
  have hpl := (I.P p hp).pl
  have hlg := F.log
  have hLL := I.G.len
  have hm : (e.ps p).place % e.n < e.n := Nat.mod_lt _ hn1
  obtain ⟨O, hO⟩ : ∃ O : Int, O = ((e.ps p).own : Int) := ⟨_, rfl⟩
  obtain ⟨w0, hw0⟩ : ∃ w0, w0 = w.setCell ⟨L.qs p, 11, none⟩ (.int .i64 O) := ⟨_, rfl⟩
  obtain ⟨h0, ho0⟩ := h.store hp 11 (.int .i64 ((e.ps p).own : Int)) { e.ps p with wanted := (e.ps p).own } rfl rfl
  rw [← hO, ← hw0] at h0 ho0
  obtain ⟨C, hC⟩ : ∃ C : Int, C = (e.n : Int) := ⟨_, rfl⟩
  obtain ⟨D, hD⟩ : ∃ D : Int, D = ((e.ps p).place : Int) := ⟨_, rfl⟩
  obtain ⟨m, hmm⟩ : ∃ m, m = (e.ps p).place % e.n := ⟨_, rfl⟩
  obtain ⟨Y, hY⟩ : ∃ Y : Int, Y = (m : Int) := ⟨_, rfl⟩
  obtain ⟨X, hX⟩ : ∃ X : Int, X = (e.ann m : Int) := ⟨_, rfl⟩
  rw [← hmm] at hm
  have HC : Hid (∀ W, Below w0.heap.size w0 W → Calls Try.prog 46 #[ptr (L.qs p), .int .i64 Y] W fun r w' => r = .returned (.int .i64 X) ∧ MacL w' L.m L.mc L.ms (readM M (p : Int)) (N + 2) ∧ Only (MachF L) W w') := hide fun W hb =>
    readP_any (h0.below hb) hp hn hN _ _ ⟨by omega, by omega⟩ (by rw [hY, hX]; exact h.rel.ann m hm)
  have HKK : ∀ W W' : World, (∀ j, (∃ v, (pcC L.l p (x p) { e.ps p with wanted := (e.ps p).own })[j]? = some v) → j ≠ 10 → W'.cell? ⟨L.qs p, j, none⟩ = W.cell? ⟨L.qs p, j, none⟩) → Bk 73 W' L.l (lsC e.n L.m L.nv L.lv L.sv e.st) → Bk 68 W (L.qs p) (pcC L.l p (x p) { e.ps p with wanted := (e.ps p).own }) →
      W'.cell? ⟨L.qs p, 1, none⟩ = some (ptr L.l) ∧ W'.cell? ⟨L.l, 2, none⟩ = some (.int .i64 0) ∧ W'.cell? ⟨L.qs p, 8, none⟩ = some (.int .i64 D) ∧ W'.cell? ⟨L.l, 0, none⟩ = some (.int .i64 C) := fun W W' hj hl hq => by
    rw [hD, hC]
    exact ⟨(hj 1 ⟨_, rfl⟩ (by omega)).trans (hq.cell 1 rfl).1, (hl.cell 2 rfl).1, (hj 8 ⟨_, rfl⟩ (by omega)).trans (hq.cell 8 rfl).1, (hl.cell 0 rfl).1⟩
  have hps0 : ∀ W, Only (MachF L) w0 W → Bk 68 W (L.qs p) (pcC L.l p (x p) { e.ps p with wanted := (e.ps p).own }) := fun W ho => by
    have := (h0.cells hp ho).1
    dsimp only at this
    rw [putN_same] at this
    exact this
  have HK : Hid (∀ W, Only (MachF L) w0 W → W.cell? ⟨L.qs p, 1, none⟩ = some (ptr L.l) ∧ W.cell? ⟨L.l, 2, none⟩ = some (.int .i64 0) ∧ W.cell? ⟨L.qs p, 8, none⟩ = some (.int .i64 D) ∧ W.cell? ⟨L.l, 0, none⟩ = some (.int .i64 C)) := hide fun W ho =>
    HKK W W (fun _ _ _ => rfl) (h0.cells hp ho).2 (hps0 W ho)
  have HK2 : Hid (∀ W v, Only (MachF L) w0 W → (W.setCell ⟨L.qs p, 10, none⟩ v).cell? ⟨L.qs p, 1, none⟩ = some (ptr L.l) ∧ (W.setCell ⟨L.qs p, 10, none⟩ v).cell? ⟨L.l, 2, none⟩ = some (.int .i64 0) ∧ (W.setCell ⟨L.qs p, 10, none⟩ v).cell? ⟨L.qs p, 8, none⟩ = some (.int .i64 D) ∧ (W.setCell ⟨L.qs p, 10, none⟩ v).cell? ⟨L.l, 0, none⟩ = some (.int .i64 C)) := hide fun W v ho => by
    have h1 := hps0 W ho
    have h2 := (h0.cells hp ho).2
    have h2 := h2.other (L.qs p) 10 v (h2.ne h1 (by decide))
    have h1 := h1.set 10 v
    rw [hD, hC]
    exact ⟨(h1.cell 1 rfl).1, (h2.cell 2 rfl).1, (h1.cell 8 rfl).1, (h2.cell 0 rfl).1⟩
  have HV : Hid (∀ W, Only (MachF L) w0 W → (∃ v, W.cell? ⟨L.qs p, 10, none⟩ = some v) ∧ W.frozen? ⟨L.qs p, 10, none⟩ = false ∧ (W.setCell ⟨L.qs p, 10, none⟩ (.int .i64 X)).cell? ⟨L.qs p, 10, none⟩ = some (.int .i64 X)) := hide fun W ho => by
    have h1 := hps0 W ho
    exact ⟨⟨_, (h1.cell 10 rfl).1⟩, (h1.cell 10 rfl).2, ((h1.set 10 (.int .i64 X)).cell 10 rfl).1⟩
  have HEND : Hid (∀ W r, MacL W L.m L.mc L.ms (readM M (p : Int)) (N + 2) → Only (MachF L) w0 W → (X = 0 → r = .returned (.func (.func 55) #[ptr (L.qs p)] #[])) → (X ≠ 0 → r = .returned (.func (.func 56) #[ptr (L.qs p)] #[])) → StepDid w eb L x (readTurnE e p) N p r (W.setCell ⟨L.qs p, 10, none⟩ (.int .i64 X))) := hide fun W r hm ho hr1 hr2 => by
    refine StepDid.behind ho0 ?_
    rw [hX]
    refine StepDid.of (q' := { e.ps p with nx := if e.ann m = 0 then .decide else .readTurns, did := (e.ps p).did + 1, other := e.ann m, wanted := (e.ps p).own }) h0 hp hm ho ((Only.refl (fun k => k = L.qs p) W).setCell 10 (fun _ => rfl) _) ((hps0 W ho).set 10 _) rfl rfl rfl rfl ?_ ?_ ?_
    · unfold readTurnE
      dsimp only
      rw [putN_putN, ← hmm]
    · have hh := did_step (q' := { e.ps p with nx := if e.ann m = 0 then .decide else .readTurns, did := (e.ps p).did + 1, other := e.ann m, wanted := (e.ps p).own }) h.rel hp rfl
      unfold readTurnE
      rw [← hmm]
      exact hh
    · dsimp only
      by_cases a : e.ann m = 0
      · rw [if_pos a, hr1 (by omega), nxV_ne _ (by nofun)]; rfl
      · rw [if_neg a, hr2 (by omega), nxV_ne _ (by nofun)]; rfl
  have hc6 : w.cell? ⟨L.qs p, 6, none⟩ = some (.int .i64 O) := by rw [hO]; exact ((h.pr p hp).cell 6 rfl).1
  have hc11 : ∃ v, w.cell? ⟨L.qs p, 11, none⟩ = some v := ⟨_, ((h.pr p hp).cell 11 rfl).1⟩
  have hf11 : w.frozen? ⟨L.qs p, 11, none⟩ = false := ((h.pr p hp).cell 11 rfl).2
  obtain ⟨v11, hv11⟩ := hc11
  have htm : D.tmod C = Y := by rw [hD, hC, hY, hmm]; exact (Int.ofNat_tmod _ _).symm
  have hC0 : C ≠ 0 := by omega
  have hC1 : (C == 0) = false := by simp; omega
  have hY0 : IntKind.i64.wrap Y = Y := wrap_lit _ (by omega) (by omega)
  have hY1 : IntKind.i64.wrap (0 + Y) = Y := by rw [Int.zero_add]; exact hY0
  have hY2 : IntKind.i64.wrap (0 + D.tmod C) = Y := by rw [htm]; exact hY1
  obtain ⟨c1, d2, c8, d0⟩ := HK.out w0 (Only.refl _ _)
  have HO0 := hide (only_drew (MachF L) w0)
  have HB0 := hide ((Below.refl w0.heap.size w0).drew)
  have HW0 := hide hw0
  generalize L.qs p = q at *
  generalize L.l = l at *
  clear h I F hn hn1 hpl hlg hLL hm hO hw0 h0 ho0 hC hD hmm hY hX HKK hps0
  go_enter Try.func54, Try.ntmps54
  go_upto_region 2 with fail
  rw [← HW0.out]
  clear HW0 hc6 hv11 hf11
  go_region_held (fun W => W.cell? ⟨q, 1, none⟩ = some (ptr l) ∧ W.cell? ⟨l, 2, none⟩ = some (.int .i64 0) ∧ W.cell? ⟨q, 8, none⟩ = some (.int .i64 D) ∧ W.cell? ⟨l, 0, none⟩ = some (.int .i64 C))
    (first | (with_reducible exact HK.out _ HO0.out) | (with_reducible exact HK.out _ HO1.out) | (with_reducible exact HK2.out _ _ HO1.out))
    (first | (go_at_call 46; refine (HC.out _ HB0.out).mono ?_; rintro r W1 ⟨rfl, hm1, ho1⟩; have HM1 := hide hm1; have HO1 := hide (HO0.out.trans ho1 fun _ _ h => h); obtain ⟨⟨v10, z10⟩, y10, t10⟩ := HV.out _ HO1.out; clear hm1 ho1))
  all_goals
    by_cases h0 : X = 0
    · have hX0 : decide (X = 0) = true := decide_eq_true h0
      have hX1 : (X == 0) = true := by simp; omega
      have HE := hide (fun r => HEND.out W1 r HM1.out HO1.out)
      have H0 := hide h0
      clear h0
      go_wp2
      go_ret
      exact HE.out _ (fun _ => rfl) (fun a => absurd H0.out a)
    · have hX0 : decide (X = 0) = false := decide_eq_false h0
      have hX1 : (X == 0) = false := by simp; omega
      have HE := hide (fun r => HEND.out W1 r HM1.out HO1.out)
      have H0 := hide h0
      clear h0
      go_wp2
      go_ret
      exact HE.out _ (fun a => absurd a H0.out) (fun _ => rfl)

end Go.Proofs.Ytiofhmlkgieclaa
