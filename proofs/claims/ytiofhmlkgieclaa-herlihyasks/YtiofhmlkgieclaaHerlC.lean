/- Herlihy's engine: the steps that read a node's place. -/
import Derived.Test.YtiofhmlkgieclaaHerlB
namespace Go.Proofs.Ytiofhmlkgieclaa
open Go.RowKit Go.Maps

theorem StepDid.drewN {w : World} {eb : Nat} {L : HL} {x : Nat → Value} {e' : Eg} {N p : Nat} {r : Ending} {w' : World} (h : StepDid w eb L x e' N p r w') (n : Nat) : StepDid w eb L x e' N p r (w'.drewN n) := by
  obtain ⟨M', h1, h2, h3⟩ := h
  exact ⟨M', h1, h2.below (below_drewN (Below.refl _ _) n), h3.drewN n⟩

/-- A node's place is read by a process. -/
theorem EgL.readPlc {w W : World} {eb : Nat} {L : HL} {x : Nat → Value} {e : Eg} {M : Mc} {N p k : Nat} (h : EgL w eb L x e M N) (hp : p < e.n) (hn : e.n ≤ 64) (hnl : e.nodes.length ≤ N + 1) (hN : N ≤ 1000000) (hk : k < e.nodes.length) (hb : Below w.heap.size w W) (Y X : Int) (hY : Y = 2 * (e.n : Int) + 2 * (k : Int) + 1) (hX : X = (e.plc k : Int)) :
    Calls Try.prog 46 #[ptr (L.qs p), .int .i64 Y] W fun r w' => r = .returned (.int .i64 X) ∧ MacL w' L.m L.mc L.ms (readM M (p : Int)) (N + 2) ∧ Only (MachF L) W w' :=
  readP_any (h.below hb) hp hn hN _ _ ⟨by omega, by omega⟩ (by rw [hY, hX]; exact h.rel.plc k hk)

set_option maxRecDepth 100000 in
set_option maxHeartbeats 2000000 in
theorem readPlaceP_any {w : World} {eb : Nat} {L : HL} {x : Nat → Value} {e : Eg} {g : Gh} {M : Mc} {N p : Nat} (h : EgL w eb L x e M N) (I : Inv e g) (hp : p < e.n) (F : FitE e N) (hN : N ≤ 1000000) (hx : (e.ps p).nx = .readPlace) :
    Calls Try.prog 47 #[ptr (L.qs p)] w fun r w' => StepDid w eb L x (readPlaceE e p) N p r w' := by
  have hmf : ∀ (fn : Fn) (first cap : Array Value) (w : World), (Instr.makeFunc fn first cap).run Try.prog w = .ok (.func fn first cap) w := fun _ _ _ _ => rfl
  have PP := I.P p hp
  have hak := PP.asked (.inr hx)
  have hn := F.n
  have hnl := F.nodes
  have hlg := F.log
  have hLL := I.G.len
  have hpl := PP.pl
  obtain ⟨i, hiL, ti, h1, -⟩ := PP.other hx
  have hkl : (e.ps p).other < e.nodes.length := by rw [h1]; exact I.G.lt i hiL
  have hplc : e.plc (e.ps p).other = i := by rw [h1]; exact told_eq ti
  obtain ⟨k, hk⟩ : ∃ k, k = (e.ps p).other := ⟨_, rfl⟩
  obtain ⟨C, hC⟩ : ∃ C : Int, C = (e.n : Int) := ⟨_, rfl⟩
  obtain ⟨A, hA⟩ : ∃ A : Int, A = ((e.ps p).asked : Int) := ⟨_, rfl⟩
  obtain ⟨D, hD⟩ : ∃ D : Int, D = ((e.ps p).place : Int) := ⟨_, rfl⟩
  obtain ⟨X, hX⟩ : ∃ X : Int, X = (e.plc k : Int) := ⟨_, rfl⟩
  obtain ⟨Y, hY⟩ : ∃ Y : Int, Y = 2 * (e.n : Int) + 2 * (k : Int) + 1 := ⟨_, rfl⟩
  rw [← hk] at hkl hplc
  have HC : Hid (∀ W, Below w.heap.size w W → Calls Try.prog 46 #[ptr (L.qs p), .int .i64 Y] W fun r w' => r = .returned (.int .i64 X) ∧ MacL w' L.m L.mc L.ms (readM M (p : Int)) (N + 2) ∧ Only (MachF L) W w') := hide fun W hb => h.readPlc hp hn hnl hN hkl hb Y X hY hX
  obtain ⟨nb, nc, hnv, -⟩ := h.node hkl (Only.refl _ _)
  have HK : Hid (∀ W, Only (MachF L) w W → W.cell? ⟨L.qs p, 1, none⟩ = some (ptr L.l) ∧ W.cell? ⟨L.qs p, 10, none⟩ = some (.int .i64 (k : Int)) ∧ W.cell? ⟨L.l, 4, none⟩ = some (.slice (some ⟨nb, 0, none⟩) e.nodes.length nc) ∧ W.cell? ⟨nb, k * 7 + 6, none⟩ = some (.int .i64 Y)) := hide fun W ho => by
    obtain ⟨h1, h2⟩ := h.cells hp ho
    obtain ⟨nb', nc', hnv', -, h3⟩ := h.node hkl ho
    rw [hnv] at hnv'
    cases hnv'
    rw [hk, hY, ← hnv]
    exact ⟨(h1.cell 1 rfl).1, (h1.cell 10 rfl).1, (h2.cell 4 rfl).1, by rw [← hk]; exact h3⟩
  have HV : Hid (∀ W, Only (MachF L) w W → (W.cell? ⟨L.qs p, 7, none⟩ = some (.int .i64 ((e.ps p).ato : Int)) ∧ W.frozen? ⟨L.qs p, 7, none⟩ = false) ∧ (W.cell? ⟨L.qs p, 8, none⟩ = some (.int .i64 D) ∧ W.frozen? ⟨L.qs p, 8, none⟩ = false) ∧ (W.cell? ⟨L.qs p, 9, none⟩ = some (.int .i64 A) ∧ W.frozen? ⟨L.qs p, 9, none⟩ = false) ∧ W.cell? ⟨L.l, 0, none⟩ = some (.int .i64 C)) := hide fun W ho => by
    obtain ⟨h1, h2⟩ := h.cells hp ho
    rw [hD, hA, hC]
    exact ⟨h1.cell 7 rfl, h1.cell 8 rfl, h1.cell 9 rfl, (h2.cell 0 rfl).1⟩
  have HW : Hid (∀ (W : World) (v : Value) (o : Nat), W.cell? ⟨L.l, 0, none⟩ = some (.int .i64 C) → (W.setCell ⟨L.qs p, o, none⟩ v).cell? ⟨L.l, 0, none⟩ = some (.int .i64 C)) := hide fun W v o hc => by
    have hne : L.l ≠ L.qs p := h.list.ne (h.pr p hp) (by decide)
    rw [World.cell?_of_block (a := ⟨L.l, 0, none⟩) (Below.heap_setCell _ _ _ _ hne)]
    exact hc
  have HV2 : Hid (∀ W v v', Only (MachF L) w W → ((W.setCell ⟨L.qs p, 7, none⟩ v).setCell ⟨L.qs p, 8, none⟩ v').cell? ⟨L.qs p, 9, none⟩ = some (.int .i64 A) ∧ ((W.setCell ⟨L.qs p, 7, none⟩ v).setCell ⟨L.qs p, 8, none⟩ v').frozen? ⟨L.qs p, 9, none⟩ = false ∧
      (((W.setCell ⟨L.qs p, 7, none⟩ v).setCell ⟨L.qs p, 8, none⟩ v').setCell ⟨L.qs p, 9, none⟩ (.int .i64 (A + 1))).cell? ⟨L.qs p, 9, none⟩ = some (.int .i64 (A + 1)) ∧ (W.setCell ⟨L.qs p, 9, none⟩ (.int .i64 (A + 1))).cell? ⟨L.qs p, 9, none⟩ = some (.int .i64 (A + 1)) ∧
      (((W.setCell ⟨L.qs p, 7, none⟩ v).setCell ⟨L.qs p, 8, none⟩ v').setCell ⟨L.qs p, 9, none⟩ (.int .i64 (A + 1))).cell? ⟨L.qs p, 1, none⟩ = some (ptr L.l) ∧ (W.setCell ⟨L.qs p, 9, none⟩ (.int .i64 (A + 1))).cell? ⟨L.qs p, 1, none⟩ = some (ptr L.l)) := hide fun W v v' ho => by
    have h1 := (h.cells hp ho).1
    have h2 := (h1.set 7 v).set 8 v'
    rw [hA]
    exact ⟨(h2.cell 9 rfl).1, (h2.cell 9 rfl).2, ((h2.set 9 (.int .i64 (((e.ps p).asked : Int) + 1))).cell 9 rfl).1, ((h1.set 9 (.int .i64 (((e.ps p).asked : Int) + 1))).cell 9 rfl).1, ((h2.set 9 (.int .i64 (((e.ps p).asked : Int) + 1))).cell 1 rfl).1, ((h1.set 9 (.int .i64 (((e.ps p).asked : Int) + 1))).cell 1 rfl).1⟩
  have HREL : Hid (HRel (readPlaceE e p) (readM M (p : Int))) := hide (by
    refine h.rel.step (e' := readPlaceE e p) hp rfl rfl rfl rfl rfl rfl (fun r hr => ?_) ?_
    · show (putN e.ps p _ r).did = _
      rw [putN_other _ _ hr]
    · show (putN e.ps p _ p).did = _
      rw [putN_same])
  have HEND : Hid (∀ W W' r, MacL W L.m L.mc L.ms (readM M (p : Int)) (N + 2) → Only (MachF L) w W → (D < X → W' = ((W.setCell ⟨L.qs p, 7, none⟩ (.int .i64 (k : Int))).setCell ⟨L.qs p, 8, none⟩ (.int .i64 X)).setCell ⟨L.qs p, 9, none⟩ (.int .i64 (A + 1))) →
      (¬ D < X → W' = W.setCell ⟨L.qs p, 9, none⟩ (.int .i64 (A + 1))) →
      (A + 1 < C → r = .returned (.func (.func 44) #[ptr (L.qs p)] #[])) → (¬ A + 1 < C → r = .returned (.func (.func 51) #[ptr (L.qs p)] #[])) → StepDid w eb L x (readPlaceE e p) N p r W') := hide fun W W' r hm ho hw1 hw2 hr1 hr2 => by
    have hq := (h.cells hp ho).1
    have hret : r = .returned (nxV (L.qs p) (if (e.ps p).asked + 1 < e.n then .readHead else .readOwn)) := by
      by_cases a : (e.ps p).asked + 1 < e.n
      · rw [if_pos a, hr1 (by omega), nxV_ne _ (by nofun)]; rfl
      · rw [if_neg a, hr2 (by omega), nxV_ne _ (by nofun)]; rfl
    have h9 : (A + 1 : Int) = (((e.ps p).asked + 1 : Nat) : Int) := by omega
    rw [h9] at hw1 hw2
    by_cases a : D < X
    · have hlt : (e.ps p).place < e.plc (e.ps p).other := by rw [← hk]; omega
      rw [hw1 a, hX, hk]
      refine StepDid.of (q' := ((readPlaceE e p).ps p)) h hp hm ho ((((Only.refl (fun k => k = L.qs p) W).setCell 7 (fun _ => rfl) _).setCell 8 (fun _ => rfl) _).setCell 9 (fun _ => rfl) _) ?_ rfl rfl rfl rfl (by unfold readPlaceE; dsimp only; rw [putN_same]) HREL.out (by unfold readPlaceE; dsimp only; rw [putN_same]; exact hret)
      unfold readPlaceE
      dsimp only
      rw [putN_same, if_pos hlt, if_pos hlt]
      exact ((hq.set 7 _).set 8 _).set 9 _
    · have hlt : ¬ (e.ps p).place < e.plc (e.ps p).other := by rw [← hk]; omega
      rw [hw2 a]
      refine StepDid.of (q' := ((readPlaceE e p).ps p)) h hp hm ho ((Only.refl (fun k => k = L.qs p) W).setCell 9 (fun _ => rfl) _) ?_ rfl rfl rfl rfl (by unfold readPlaceE; dsimp only; rw [putN_same]) HREL.out (by unfold readPlaceE; dsimp only; rw [putN_same]; exact hret)
      unfold readPlaceE
      dsimp only
      rw [putN_same, if_neg hlt, if_neg hlt]
      exact hq.set 9 _
  have hw : IntKind.i64.wrap (A + 1) = A + 1 := wrap_lit _ (by omega) (by omega)
  have hki : (k : Int) < (e.nodes.length : Int) := by omega
  obtain ⟨c1, c10, d4, n6⟩ := HK.out w (Only.refl _ _)
  have HO0 := hide (only_drew (MachF L) w)
  have HB0 := hide ((Below.refl w.heap.size w).drew)
  generalize L.qs p = q at *
  generalize L.l = l at *
  generalize e.nodes.length = T at *
  generalize ((e.ps p).ato : Int) = Z at *
  clear h I F PP hn hnl hlg hLL hpl hak hC hA hD hX hY hx hk hkl hplc hnv hiL ti h1 HREL
  go_enter Try.func47, Try.ntmps47
  go_wp2
  go_region_held (fun W => W.cell? ⟨q, 1, none⟩ = some (ptr l) ∧ W.cell? ⟨q, 10, none⟩ = some (.int .i64 (k : Int)) ∧ W.cell? ⟨l, 4, none⟩ = some (.slice (some ⟨nb, 0, none⟩) T nc) ∧ W.cell? ⟨nb, k * 7 + 6, none⟩ = some (.int .i64 Y))
    (first | (with_reducible exact HK.out _ HO0.out) | (with_reducible exact HK.out _ HO1.out))
    (first | (go_at_call 46; refine (HC.out _ HB0.out).mono ?_; rintro r W1 ⟨rfl, hm1, ho1⟩; have HM1 := hide hm1; have HO1 := hide (HO0.out.trans ho1 fun _ _ h => h); clear hm1 ho1))
  all_goals
    obtain ⟨⟨v7, y7⟩, ⟨v8, y8⟩, ⟨v9, y9⟩, v0⟩ := HV.out _ HO1.out
    obtain ⟨-, v10, -, -⟩ := HK.out _ HO1.out
    clear c1 c10 d4 n6
    by_cases hc : D < X
    · have hc' : decide (D < X) = true := decide_eq_true hc
      go_upto_region 4 with fail
      obtain ⟨z9, t9, u9, -, z1, -⟩ := HV2.out W1 (.int .i64 (k : Int)) (.int .i64 X) HO1.out
      have z0 := HW.out _ (.int .i64 (A + 1)) 9 (HW.out _ (.int .i64 X) 8 (HW.out _ (.int .i64 (k : Int)) 7 v0))
      obtain ⟨W2, hW2⟩ : ∃ W2, W2 = (W1.setCell ⟨q, 7, none⟩ (.int .i64 (k : Int))).setCell ⟨q, 8, none⟩ (.int .i64 X) := ⟨_, rfl⟩
      rw [← hW2] at z9 t9 u9 z0 z1 ⊢
      have HW2 := hide hW2
      clear hW2 v7 y7 v8 y8 v9 y9 v0 v10
      go_upto_region 5 with fail
      obtain ⟨W3, hW3⟩ : ∃ W3, W3 = W2.setCell ⟨q, 9, none⟩ (.int .i64 (A + 1)) := ⟨_, rfl⟩
      rw [← hW3] at u9 z0 z1 ⊢
      have HE3 := hide (fun r => HEND.out W1 W3 r HM1.out HO1.out (fun _ => by rw [hW3, HW2.out]) (fun a => absurd hc (by omega)))
      clear hW3 HW2 z9 t9
      by_cases ha : A + 1 < C
      · have ha' : decide (A + 1 < C) = true := decide_eq_true ha
        go_quiet (fail)
        go_wp2
        go_ret
        exact (HE3.out _ (fun _ => rfl) (fun a => absurd ha (by omega))).drewN _
      · have ha' : decide (A + 1 < C) = false := decide_eq_false ha
        go_quiet (fail)
        go_wp2
        go_ret
        exact (HE3.out _ (fun a => absurd a (by omega)) (fun _ => rfl)).drewN _
    · have hc' : decide (D < X) = false := decide_eq_false hc
      go_upto_region 5 with fail
      obtain ⟨-, -, -, u9, -, z1⟩ := HV2.out W1 (.int .i64 (k : Int)) (.int .i64 X) HO1.out
      have z0 := HW.out _ (.int .i64 (A + 1)) 9 v0
      obtain ⟨W3, hW3⟩ : ∃ W3, W3 = W1.setCell ⟨q, 9, none⟩ (.int .i64 (A + 1)) := ⟨_, rfl⟩
      rw [← hW3] at u9 z0 z1 ⊢
      have HE3 := hide (fun r => HEND.out W1 W3 r HM1.out HO1.out (fun a => absurd a (by omega)) (fun _ => hW3))
      clear hW3 v7 y7 v8 y8 v9 y9 v0 v10
      by_cases ha : A + 1 < C
      · have ha' : decide (A + 1 < C) = true := decide_eq_true ha
        go_quiet (fail)
        go_wp2
        go_ret
        exact (HE3.out _ (fun _ => rfl) (fun a => absurd ha (by omega))).drewN _
      · have ha' : decide (A + 1 < C) = false := decide_eq_false ha
        go_quiet (fail)
        go_wp2
        go_ret
        exact (HE3.out _ (fun a => absurd a (by omega)) (fun _ => rfl)).drewN _

end Go.Proofs.Ytiofhmlkgieclaa
