/- Herlihy's engine: its own place, whose turn it is. -/
import Derived.Test.YtiofhmlkgieclaaHerlC
namespace Go.Proofs.Ytiofhmlkgieclaa
open Go.RowKit Go.Maps

theorem did_step {e : Eg} {M : Mc} {p : Nat} {q' : Pc} (h : HRel e M) (hp : p < e.n) (hd : q'.did = (e.ps p).did + 1) : HRel { e with ps := putN e.ps p q' } (readM M (p : Int)) := by
  refine h.step hp rfl rfl rfl rfl rfl rfl (fun r hr => ?_) ?_
  · show (putN e.ps p _ r).did = _
    rw [putN_other _ _ hr]
  · show (putN e.ps p _ p).did = _
    rw [putN_same]
    exact hd

/-- A log's entry. -/
theorem EgL.entry {w W : World} {eb : Nat} {L : HL} {x : Nat → Value} {e : Eg} {M : Mc} {N k : Nat} (h : EgL w eb L x e M N) (hk : k < e.log.length) (ho : Only (MachF L) w W) :
    ∃ g c, L.lv = .slice (some ⟨g, 0, none⟩) e.log.length c ∧ W.cell? ⟨g, k * 7 + 6, none⟩ = some (.int .i64 (e.log.getD k zeroR).resp) := by
  have A := h.apt
  have hn : W.ownsRow 0 53 7 L.lv e.log.length (recCells e.log) := ownsRow_keep h.log fun g hg => ho.block _ (row_bk h.log hg).choose_spec.lt fun f => (A.eb_ g (f.imp id .inl)).2.2.2.2 hg
  obtain ⟨g, c, hv, hc⟩ := row_at hn (by omega)
  refine ⟨g, c, hv, hc _ _ ?_⟩
  rw [recCells_get e.log k 6 hk (by omega)]
  rfl

set_option maxRecDepth 100000 in
set_option maxHeartbeats 2000000 in
theorem readOwnP_any {w : World} {eb : Nat} {L : HL} {x : Nat → Value} {e : Eg} {g : Gh} {M : Mc} {N p : Nat} (h : EgL w eb L x e M N) (I : Inv e g) (hp : p < e.n) (F : FitE e N) (hN : N ≤ 1000000) (hx : (e.ps p).nx = .readOwn) :
    Calls Try.prog 51 #[ptr (L.qs p)] w fun r w' => StepDid w eb L x (readOwnE e p) N p r w' := by
  have hmf : ∀ (fn : Fn) (first cap : Array Value) (w : World), (Instr.makeFunc fn first cap).run Try.prog w = .ok (.func fn first cap) w := fun _ _ _ _ => rfl
  have hn := F.n
  have hnl := F.nodes
  have hlg := F.log
  have hLL := I.G.len
  have hkl := (I.N.own p hp (by rw [hx]; nofun)).2.1
  obtain ⟨k, hk⟩ : ∃ k, k = (e.ps p).own := ⟨_, rfl⟩
  rw [← hk] at hkl
  have hplc : e.plc k ≤ g.L := by
    by_cases a : e.plc k = 0
    · omega
    · obtain ⟨i, hi, hpa⟩ := path_of I.G a
      rcases I.G.plc i hi with b | b <;> rw [hpa] at b <;> omega
  obtain ⟨X, hX⟩ : ∃ X : Int, X = (e.plc k : Int) := ⟨_, rfl⟩
  obtain ⟨Y, hY⟩ : ∃ Y : Int, Y = 2 * (e.n : Int) + 2 * (k : Int) + 1 := ⟨_, rfl⟩
  have HC : Hid (∀ W, Below w.heap.size w W → Calls Try.prog 46 #[ptr (L.qs p), .int .i64 Y] W fun r w' => r = .returned (.int .i64 X) ∧ MacL w' L.m L.mc L.ms (readM M (p : Int)) (N + 2) ∧ Only (MachF L) W w') := hide fun W hb => h.readPlc hp hn hnl hN hkl hb Y X hY hX
  obtain ⟨nb, nc, hnv, -⟩ := h.node hkl (Only.refl _ _)
  have HK : Hid (∀ W, Only (MachF L) w W → W.cell? ⟨L.qs p, 1, none⟩ = some (ptr L.l) ∧ W.cell? ⟨L.qs p, 6, none⟩ = some (.int .i64 (k : Int)) ∧ W.cell? ⟨L.l, 4, none⟩ = some (.slice (some ⟨nb, 0, none⟩) e.nodes.length nc) ∧ W.cell? ⟨nb, k * 7 + 6, none⟩ = some (.int .i64 Y)) := hide fun W ho => by
    obtain ⟨h1, h2⟩ := h.cells hp ho
    obtain ⟨nb', nc', hnv', -, h3⟩ := h.node hkl ho
    rw [hnv] at hnv'
    cases hnv'
    rw [hk, hY, ← hnv]
    exact ⟨(h1.cell 1 rfl).1, (h1.cell 6 rfl).1, (h2.cell 4 rfl).1, by rw [← hk]; exact h3⟩
  have hki : (k : Int) < (e.nodes.length : Int) := by omega
  obtain ⟨c1, c6, d4, n6⟩ := HK.out w (Only.refl _ _)
  have HO0 := hide (only_drew (MachF L) w)
  have HB0 := hide ((Below.refl w.heap.size w).drew)
  by_cases h0 : e.plc k = 0
  · have HEND : Hid (∀ W r, MacL W L.m L.mc L.ms (readM M (p : Int)) (N + 2) → Only (MachF L) w W → r = .returned (.func (.func 54) #[ptr (L.qs p)] #[]) → StepDid w eb L x (readOwnE e p) N p r W) := hide fun W r hm ho hr => by
      unfold readOwnE
      rw [← hk, if_pos h0]
      exact StepDid.of (q' := { e.ps p with nx := .readTurn, did := (e.ps p).did + 1 }) h hp hm ho (Only.refl _ _) ((h.cells hp ho).1) rfl rfl rfl rfl rfl (did_step h.rel hp rfl) (by rw [hr, nxV_ne _ (by nofun)]; rfl)
    have hX0 : decide (X = 0) = true := decide_eq_true (by omega)
    have hX1 : (X == 0) = true := by simp; omega
    generalize L.qs p = q at *
    generalize L.l = l at *
    generalize e.nodes.length = T at *
    clear h I F hn hnl hlg hLL hX hY hx hk hkl hplc hnv h0
    go_enter Try.func51, Try.ntmps51
    go_wp2
    go_region_held (fun W => W.cell? ⟨q, 1, none⟩ = some (ptr l) ∧ W.cell? ⟨q, 6, none⟩ = some (.int .i64 (k : Int)) ∧ W.cell? ⟨l, 4, none⟩ = some (.slice (some ⟨nb, 0, none⟩) T nc) ∧ W.cell? ⟨nb, k * 7 + 6, none⟩ = some (.int .i64 Y))
      (first | (with_reducible exact HK.out _ HO0.out) | (with_reducible exact HK.out _ HO1.out))
      (first | (go_at_call 46; refine (HC.out _ HB0.out).mono ?_; rintro r W1 ⟨rfl, hm1, ho1⟩; have HM1 := hide hm1; have HO1 := hide (HO0.out.trans ho1 fun _ _ h => h); clear hm1 ho1))
    all_goals
      go_wp2
      go_ret
      exact HEND.out _ _ HM1.out HO1.out rfl
  · obtain ⟨K, hK⟩ : ∃ K, K = e.plc k - 1 := ⟨_, rfl⟩
    have hKl : K < e.log.length := by omega
    obtain ⟨lb, lc, hlv, -⟩ := h.entry hKl (Only.refl _ _)
    obtain ⟨R, hR⟩ : ∃ R, R = (e.log.getD K zeroR).resp := ⟨_, rfl⟩
    have HV : Hid (∀ W, Only (MachF L) w W → (W.cell? ⟨L.qs p, 1, none⟩ = some (ptr L.l) ∧ W.cell? ⟨L.l, 5, none⟩ = some (.slice (some ⟨lb, 0, none⟩) e.log.length lc) ∧ W.cell? ⟨lb, K * 7 + 6, none⟩ = some (.int .i64 R)) ∧ (∃ v, W.cell? ⟨L.qs p, 5, none⟩ = some v) ∧ W.frozen? ⟨L.qs p, 5, none⟩ = false) := hide fun W ho => by
      obtain ⟨h1, h2⟩ := h.cells hp ho
      obtain ⟨lb', lc', hlv', h3⟩ := h.entry hKl ho
      rw [hlv] at hlv'
      cases hlv'
      rw [hR, ← hlv]
      exact ⟨⟨(h1.cell 1 rfl).1, (h2.cell 5 rfl).1, h3⟩, ⟨_, (h1.cell 5 rfl).1⟩, (h1.cell 5 rfl).2⟩
    have HEND : Hid (∀ W r, MacL W L.m L.mc L.ms (readM M (p : Int)) (N + 2) → Only (MachF L) w W → r = .returned .nilFunc → StepDid w eb L x (readOwnE e p) N p r (W.setCell ⟨L.qs p, 5, none⟩ (.int .i64 R))) := hide fun W r hm ho hr => by
      unfold readOwnE
      rw [← hk, if_neg h0, ← hK, ← hR]
      exact StepDid.of (q' := { e.ps p with nx := .rest, did := (e.ps p).did + 1, resp := R }) h hp hm ho ((Only.refl (fun k => k = L.qs p) W).setCell 5 (fun _ => rfl) _) ((h.cells hp ho).1.set 5 _) rfl rfl rfl rfl rfl (did_step h.rel hp rfl) (by rw [hr, nxV_rest])
    have hX0 : decide (X = 0) = false := decide_eq_false (by omega)
    have hX1 : (X == 0) = false := by simp; omega
    have hw : IntKind.i64.wrap (X - 1) = (K : Int) := by rw [wrap_lit _ (by omega) (by omega)]; omega
    have hKi : (K : Int) < (e.log.length : Int) := by omega
    generalize L.qs p = q at *
    generalize L.l = l at *
    generalize e.nodes.length = T at *
    generalize e.log.length = U at *
    clear h I F hn hnl hlg hLL hX hY hx hk hkl hplc hnv h0 hK hKl hlv hR
    go_enter Try.func51, Try.ntmps51
    go_wp2
    go_region_held (fun W => W.cell? ⟨q, 1, none⟩ = some (ptr l) ∧ W.cell? ⟨q, 6, none⟩ = some (.int .i64 (k : Int)) ∧ W.cell? ⟨l, 4, none⟩ = some (.slice (some ⟨nb, 0, none⟩) T nc) ∧ W.cell? ⟨nb, k * 7 + 6, none⟩ = some (.int .i64 Y))
      (first | (with_reducible exact HK.out _ HO0.out) | (with_reducible exact HK.out _ HO1.out))
      (first | (go_at_call 46; refine (HC.out _ HB0.out).mono ?_; rintro r W1 ⟨rfl, hm1, ho1⟩; have HM1 := hide hm1; have HO1 := hide (HO0.out.trans ho1 fun _ _ h => h); clear hm1 ho1))
    all_goals
      obtain ⟨⟨v1, v5, vk⟩, ⟨vv, vq⟩, vf⟩ := HV.out _ HO1.out
      clear c1 c6 d4 n6
      go_wp2
      go_ret
      exact HEND.out _ _ HM1.out HO1.out rfl

set_option maxRecDepth 100000 in
set_option maxHeartbeats 2000000 in
theorem readTurnsP_any {w : World} {eb : Nat} {L : HL} {x : Nat → Value} {e : Eg} {g : Gh} {M : Mc} {N p : Nat} (h : EgL w eb L x e M N) (I : Inv e g) (hp : p < e.n) (F : FitE e N) (hN : N ≤ 1000000) (hx : (e.ps p).nx = .readTurns) :
    Calls Try.prog 56 #[ptr (L.qs p)] w fun r w' => StepDid w eb L x (readTurnsE e p) N p r w' := by
  have hmf : ∀ (fn : Fn) (first cap : Array Value) (w : World), (Instr.makeFunc fn first cap).run Try.prog w = .ok (.func fn first cap) w := fun _ _ _ _ => rfl
  have hn := F.n
  have hnl := F.nodes
  have hkl := ((I.P p hp).turns hx).2.1
  obtain ⟨k, hk⟩ : ∃ k, k = (e.ps p).other := ⟨_, rfl⟩
  rw [← hk] at hkl
  obtain ⟨X, hX⟩ : ∃ X : Int, X = (e.plc k : Int) := ⟨_, rfl⟩
  obtain ⟨Y, hY⟩ : ∃ Y : Int, Y = 2 * (e.n : Int) + 2 * (k : Int) + 1 := ⟨_, rfl⟩
  have HC : Hid (∀ W, Below w.heap.size w W → Calls Try.prog 46 #[ptr (L.qs p), .int .i64 Y] W fun r w' => r = .returned (.int .i64 X) ∧ MacL w' L.m L.mc L.ms (readM M (p : Int)) (N + 2) ∧ Only (MachF L) W w') := hide fun W hb => h.readPlc hp hn hnl hN hkl hb Y X hY hX
  obtain ⟨nb, nc, hnv, -⟩ := h.node hkl (Only.refl _ _)
  have HK : Hid (∀ W, Only (MachF L) w W → W.cell? ⟨L.qs p, 1, none⟩ = some (ptr L.l) ∧ W.cell? ⟨L.qs p, 10, none⟩ = some (.int .i64 (k : Int)) ∧ W.cell? ⟨L.l, 4, none⟩ = some (.slice (some ⟨nb, 0, none⟩) e.nodes.length nc) ∧ W.cell? ⟨nb, k * 7 + 6, none⟩ = some (.int .i64 Y)) := hide fun W ho => by
    obtain ⟨h1, h2⟩ := h.cells hp ho
    obtain ⟨nb', nc', hnv', -, h3⟩ := h.node hkl ho
    rw [hnv] at hnv'
    cases hnv'
    rw [hk, hY, ← hnv]
    exact ⟨(h1.cell 1 rfl).1, (h1.cell 10 rfl).1, (h2.cell 4 rfl).1, by rw [← hk]; exact h3⟩
  have hki : (k : Int) < (e.nodes.length : Int) := by omega
  obtain ⟨c1, c10, d4, n6⟩ := HK.out w (Only.refl _ _)
  have HO0 := hide (only_drew (MachF L) w)
  have HB0 := hide ((Below.refl w.heap.size w).drew)
  have HV : Hid (∀ W, Only (MachF L) w W → W.cell? ⟨L.qs p, 10, none⟩ = some (.int .i64 (k : Int)) ∧ (∃ v, W.cell? ⟨L.qs p, 11, none⟩ = some v) ∧ W.frozen? ⟨L.qs p, 11, none⟩ = false) := hide fun W ho => by
    obtain ⟨h1, h2⟩ := h.cells hp ho
    rw [hk]
    exact ⟨(h1.cell 10 rfl).1, ⟨_, (h1.cell 11 rfl).1⟩, (h1.cell 11 rfl).2⟩
  have HEND : Hid (∀ W W' r, MacL W L.m L.mc L.ms (readM M (p : Int)) (N + 2) → Only (MachF L) w W → (X = 0 → W' = W.setCell ⟨L.qs p, 11, none⟩ (.int .i64 (k : Int))) → (X ≠ 0 → W' = W) → r = .returned (.func (.func 55) #[ptr (L.qs p)] #[]) → StepDid w eb L x (readTurnsE e p) N p r W') := hide fun W W' r hm ho hw1 hw2 hr => by
    unfold readTurnsE
    by_cases a : e.plc (e.ps p).other = 0
    · rw [hw1 (by rw [hX, hk, a]; rfl), hk]
      exact StepDid.of (q' := { e.ps p with nx := .decide, did := (e.ps p).did + 1, wanted := if e.plc (e.ps p).other = 0 then (e.ps p).other else (e.ps p).wanted }) h hp hm ho ((Only.refl (fun k => k = L.qs p) W).setCell 11 (fun _ => rfl) _) (by rw [if_pos a]; exact (h.cells hp ho).1.set 11 _) rfl rfl rfl rfl rfl (did_step h.rel hp rfl) (by rw [hr, nxV_ne _ (by nofun)]; rfl)
    · rw [hw2 (by rw [hX, hk]; omega)]
      exact StepDid.of (q' := { e.ps p with nx := .decide, did := (e.ps p).did + 1, wanted := if e.plc (e.ps p).other = 0 then (e.ps p).other else (e.ps p).wanted }) h hp hm ho (Only.refl _ _) (by rw [if_neg a]; exact (h.cells hp ho).1) rfl rfl rfl rfl rfl (did_step h.rel hp rfl) (by rw [hr, nxV_ne _ (by nofun)]; rfl)
  generalize L.qs p = q at *
  generalize L.l = l at *
  generalize e.nodes.length = T at *
  clear h I F hn hnl hX hY hx hk hkl hnv
  go_enter Try.func56, Try.ntmps56
  go_wp2
  go_region_held (fun W => W.cell? ⟨q, 1, none⟩ = some (ptr l) ∧ W.cell? ⟨q, 10, none⟩ = some (.int .i64 (k : Int)) ∧ W.cell? ⟨l, 4, none⟩ = some (.slice (some ⟨nb, 0, none⟩) T nc) ∧ W.cell? ⟨nb, k * 7 + 6, none⟩ = some (.int .i64 Y))
    (first | (with_reducible exact HK.out _ HO0.out) | (with_reducible exact HK.out _ HO1.out))
    (first | (go_at_call 46; refine (HC.out _ HB0.out).mono ?_; rintro r W1 ⟨rfl, hm1, ho1⟩; have HM1 := hide hm1; have HO1 := hide (HO0.out.trans ho1 fun _ _ h => h); clear hm1 ho1))
  all_goals
    obtain ⟨v10, ⟨v11, z11⟩, y11⟩ := HV.out _ HO1.out
    clear c1 c10 d4 n6
    by_cases h0 : X = 0
    · have hX0 : decide (X = 0) = true := decide_eq_true h0
      have hX1 : (X == 0) = true := by simp; omega
      have HE := hide (fun r => HEND.out W1 _ r HM1.out HO1.out (fun _ => rfl) (fun a => absurd h0 a))
      clear h0
      go_wp2
      go_ret
      exact HE.out _ rfl
    · have hX0 : decide (X = 0) = false := decide_eq_false h0
      have hX1 : (X == 0) = false := by simp; omega
      have HE := hide (fun r => HEND.out W1 _ r HM1.out HO1.out (fun a => absurd a h0) (fun _ => rfl))
      clear h0
      go_wp2
      go_ret
      exact HE.out _ rfl

end Go.Proofs.Ytiofhmlkgieclaa
