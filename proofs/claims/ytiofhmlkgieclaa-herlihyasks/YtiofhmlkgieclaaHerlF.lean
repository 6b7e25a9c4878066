/- Herlihy's engine: the next node; what is told of a place, and of a head. -/
import Derived.Test.YtiofhmlkgieclaaHerlE
import Derived.Deep.RegionWith
namespace Go.Proofs.Ytiofhmlkgieclaa
open Go.RowKit Go.Maps

set_option maxRecDepth 100000 in
set_option maxHeartbeats 2000000 in
theorem tellHeadP_any {w : World} {eb : Nat} {L : HL} {x : Nat → Value} {e : Eg} {g : Gh} {M : Mc} {N p : Nat} (h : EgL w eb L x e M N) (I : Inv e g) (hp : p < e.n) (F : FitE e N) (hN : N ≤ 1000000) (hx : (e.ps p).nx = .tellHead) :
    Calls Try.prog 63 #[ptr (L.qs p)] w fun r w' => StepDid w eb L x (tellHeadE e p) N p r w' := by
  have hmf : ∀ (fn : Fn) (first cap : Array Value) (w : World), (Instr.makeFunc fn first cap).run Try.prog w = .ok (.func fn first cap) w := fun _ _ _ _ => rfl
  have PP := I.P p hp
  have hato := PP.at1 (by rw [hx]; nofun)
  have hlt := I.G.lt _ PP.pl
  rw [← hato] at hlt
  have hn := F.n
  have hnl := F.nodes
  obtain ⟨P, hP⟩ : ∃ P : Int, P = (p : Int) := ⟨_, rfl⟩
  obtain ⟨C, hC⟩ : ∃ C : Int, C = (e.n : Int) := ⟨_, rfl⟩
  obtain ⟨O, hO⟩ : ∃ O : Int, O = ((e.ps p).ato : Int) := ⟨_, rfl⟩
  have HC : Hid (∀ W, Below w.heap.size w W → Calls Try.prog 43 #[ptr (L.qs p), .int .i64 (C + P), .int .i64 O] W fun r w' => r = .returned (.tuple #[]) ∧ MacL w' L.m L.mc L.ms (writeM M P (C + P) O) (N + 2) ∧ Only (MachF L) W w') := hide fun W hb => by
    rw [hP, hO]
    exact writeP_any (h.below hb) hp hn hN _ _ ⟨by omega, by omega⟩ (i64_nat (by omega))
  have HK : Hid (∀ W, Only (MachF L) w W → W.cell? ⟨L.qs p, 0, none⟩ = some (.int .i64 P) ∧ W.cell? ⟨L.qs p, 1, none⟩ = some (ptr L.l) ∧ W.cell? ⟨L.qs p, 7, none⟩ = some (.int .i64 O) ∧ W.cell? ⟨L.l, 3, none⟩ = some (.int .i64 C)) := hide fun W ho => by
    obtain ⟨h1, h2⟩ := h.cells hp ho
    rw [hP, hO, hC]
    exact ⟨(h1.cell 0 rfl).1, (h1.cell 1 rfl).1, (h1.cell 7 rfl).1, (h2.cell 3 rfl).1⟩
  have HEND : Hid (∀ W r, MacL W L.m L.mc L.ms (writeM M P (C + P) O) (N + 2) → Only (MachF L) w W → r = .returned (.func (.func 51) #[ptr (L.qs p)] #[]) → StepDid w eb L x (tellHeadE e p) N p r W) := hide fun W r hm ho hr => by
    refine StepDid.of (q' := { e.ps p with nx := .readOwn, did := (e.ps p).did + 1 }) h hp hm ho (Only.refl _ _) (h.cells hp ho).1 rfl rfl rfl rfl rfl ?_ (by rw [hr, nxV_ne _ (by nofun)]; rfl)
    rw [hP, hC]
    refine h.rel.put (e' := tellHeadE e p) (c := (e.n : Int) + (p : Int)) (v := O) hp (decide_eq_true (by have := h.rel.len; omega)) rfl rfl (fun r hr => by rw [if_neg (by omega)]; rfl) (fun r hr => ?_) (fun k hk => by rw [if_neg (by omega)]; rfl) (fun k hk => by rw [if_neg (by omega)]; rfl) (fun r hr => ?_) ?_ (fun _ => O) rfl
    · show ((putN e.head p (e.ps p).ato r : Nat) : Int) = _
      by_cases a : r = p
      · rw [a, putN_same, if_pos rfl, hO]
      · rw [putN_other _ _ a, if_neg (by omega)]
    · show (putN e.ps p _ r).did = _
      rw [putN_other _ _ hr]
    · show (putN e.ps p _ p).did = _
      rw [putN_same]
  have hw : IntKind.i64.wrap (C + P) = C + P := wrap_lit _ (by omega) (by omega)
  obtain ⟨c0, c1, c7, d3⟩ := HK.out w (Only.refl _ _)
  have HO0 := hide (only_drew (MachF L) w)
  have HB0 := hide ((Below.refl w.heap.size w).drew)
  generalize L.qs p = q at *
  generalize L.l = l at *
  clear h I F PP hato hlt hn hnl hP hC hO hx
  go_enter Try.func63, Try.ntmps63
  go_wp2
  go_region_held (fun W => W.cell? ⟨q, 0, none⟩ = some (.int .i64 P) ∧ W.cell? ⟨q, 1, none⟩ = some (ptr l) ∧ W.cell? ⟨q, 7, none⟩ = some (.int .i64 O) ∧ W.cell? ⟨l, 3, none⟩ = some (.int .i64 C))
    (first | (with_reducible exact HK.out _ HO0.out) | (with_reducible exact HK.out _ HO1.out))
    (first | (go_at_call 43; refine (HC.out _ HB0.out).mono ?_; rintro r W1 ⟨rfl, hm1, ho1⟩; have HM1 := hide hm1; have HO1 := hide (HO0.out.trans ho1 fun _ _ h => h); clear hm1 ho1))
  all_goals
    go_wp2
    go_ret
    exact HEND.out _ _ HM1.out HO1.out rfl

set_option maxRecDepth 100000 in
set_option maxHeartbeats 2000000 in
theorem tellPlaceP_any {w : World} {eb : Nat} {L : HL} {x : Nat → Value} {e : Eg} {g : Gh} {M : Mc} {N p : Nat} (h : EgL w eb L x e M N) (I : Inv e g) (hp : p < e.n) (F : FitE e N) (hN : N ≤ 1000000) (hx : (e.ps p).nx = .tellPlace) :
    Calls Try.prog 60 #[ptr (L.qs p)] w fun r w' => StepDid w eb L x (tellPlaceE e p) N p r w' := by
  have hmf : ∀ (fn : Fn) (first cap : Array Value) (w : World), (Instr.makeFunc fn first cap).run Try.prog w = .ok (.func fn first cap) w := fun _ _ _ _ => rfl
  have PP := I.P p hp
  obtain ⟨hpL, hato⟩ := PP.at2 hx
  have hkl := I.G.lt _ hpL
  rw [← hato] at hkl
  have hn := F.n
  have hnl := F.nodes
  have hlg := F.log
  have hLL := I.G.len
  obtain ⟨D, hD⟩ : ∃ D : Int, D = ((e.ps p).place : Int) := ⟨_, rfl⟩
  obtain ⟨w0, hw0⟩ : ∃ w0, w0 = w.setCell ⟨L.qs p, 8, none⟩ (.int .i64 (D + 1)) := ⟨_, rfl⟩
  obtain ⟨h0, ho0⟩ := h.store hp 8 (.int .i64 (((e.ps p).place + 1 : Nat) : Int)) { e.ps p with place := (e.ps p).place + 1 } rfl rfl
  have hD1 : (((e.ps p).place + 1 : Nat) : Int) = D + 1 := by omega
  rw [hD1, ← hw0] at h0 ho0
  obtain ⟨k, hk⟩ : ∃ k, k = (e.ps p).ato := ⟨_, rfl⟩
  rw [← hk] at hkl
  obtain ⟨P, hP⟩ : ∃ P : Int, P = (p : Int) := ⟨_, rfl⟩
  obtain ⟨Y, hY⟩ : ∃ Y : Int, Y = 2 * (e.n : Int) + 2 * (k : Int) + 1 := ⟨_, rfl⟩
  have HC : Hid (∀ W, Below w0.heap.size w0 W → Calls Try.prog 43 #[ptr (L.qs p), .int .i64 Y, .int .i64 (D + 1)] W fun r w' => r = .returned (.tuple #[]) ∧ MacL w' L.m L.mc L.ms (writeM M P Y (D + 1)) (N + 2) ∧ Only (MachF L) W w') := hide fun W hb => by
    rw [hP]
    exact writeP_any (h0.below hb) hp hn hN _ _ ⟨by omega, by omega⟩ ⟨by omega, by omega⟩
  have hps0 : ∀ W, Only (MachF L) w0 W → Bk 68 W (L.qs p) (pcC L.l p (x p) { e.ps p with place := (e.ps p).place + 1 }) := fun W ho => by
    have := (h0.cells hp ho).1
    dsimp only at this
    rw [putN_same] at this
    exact this
  obtain ⟨nb, nc, hnv, -⟩ := h0.node (k := k) hkl (Only.refl _ _)
  have HK : Hid (∀ W, Only (MachF L) w0 W → W.cell? ⟨L.qs p, 1, none⟩ = some (ptr L.l) ∧ W.cell? ⟨L.qs p, 7, none⟩ = some (.int .i64 (k : Int)) ∧ W.cell? ⟨L.qs p, 8, none⟩ = some (.int .i64 (D + 1)) ∧ W.cell? ⟨L.l, 4, none⟩ = some (.slice (some ⟨nb, 0, none⟩) e.nodes.length nc) ∧ W.cell? ⟨nb, k * 7 + 6, none⟩ = some (.int .i64 Y)) := hide fun W ho => by
    have h1 := hps0 W ho
    have h2 := (h0.cells hp ho).2
    obtain ⟨nb', nc', hnv', -, h3⟩ := h0.node (k := k) hkl ho
    rw [hnv] at hnv'
    cases hnv'
    have h8 : W.cell? ⟨L.qs p, 8, none⟩ = some (.int .i64 (((e.ps p).place + 1 : Nat) : Int)) := (h1.cell 8 rfl).1
    rw [hD1] at h8
    rw [hk, hY]
    refine ⟨(h1.cell 1 rfl).1, (h1.cell 7 rfl).1, h8, ?_, by rw [← hk]; exact h3⟩
    have h4 : W.cell? ⟨L.l, 4, none⟩ = some L.nv := (h2.cell 4 rfl).1
    rw [hnv] at h4
    exact h4
  have HEND : Hid (∀ W r, MacL W L.m L.mc L.ms (writeM M P Y (D + 1)) (N + 2) → Only (MachF L) w0 W → r = .returned (.func (.func 63) #[ptr (L.qs p)] #[]) → StepDid w eb L x (tellPlaceE e p) N p r W) := hide fun W r hm ho hr => by
    refine StepDid.behind ho0 (StepDid.of (q' := { e.ps p with nx := .tellHead, did := (e.ps p).did + 1, place := (e.ps p).place + 1 }) h0 hp hm ho (Only.refl _ _) (hps0 W ho) rfl rfl rfl rfl (by unfold tellPlaceE; dsimp only; rw [putN_putN]) ?_ (by rw [hr, nxV_ne _ (by nofun)]; rfl))
    rw [hP, hY]
    refine h.rel.put (e' := tellPlaceE e p) (c := 2 * (e.n : Int) + 2 * (k : Int) + 1) (v := D + 1) hp (decide_eq_true (by have := h.rel.len; omega)) rfl rfl (fun r hr => by rw [if_neg (by omega)]; rfl) (fun r hr => by rw [if_neg (by omega)]; rfl) (fun j hj => by rw [if_neg (by omega)]; rfl) (fun j hj => ?_) (fun r hr => ?_) ?_ (fun _ => D + 1) rfl
    · show ((putN e.plc (e.ps p).ato ((e.ps p).place + 1) j : Nat) : Int) = _
      rw [← hk]
      by_cases a : j = k
      · rw [a, putN_same, if_pos rfl, hD1]
      · rw [putN_other _ _ a, if_neg (by omega)]
    · show (putN e.ps p _ r).did = _
      rw [putN_other _ _ hr]
    · show (putN e.ps p _ p).did = _
      rw [putN_same]
  have hc8 : w.cell? ⟨L.qs p, 8, none⟩ = some (.int .i64 D) := by rw [hD]; exact ((h.pr p hp).cell 8 rfl).1
  have hf8 : w.frozen? ⟨L.qs p, 8, none⟩ = false := ((h.pr p hp).cell 8 rfl).2
  have hw : IntKind.i64.wrap (D + 1) = D + 1 := wrap_lit _ (by omega) (by omega)
  have hki : (k : Int) < (e.nodes.length : Int) := by omega
  obtain ⟨c1, c7, c8, d4, n6⟩ := HK.out w0 (Only.refl _ _)
  have HO0 := hide (only_drew (MachF L) w0)
  have HB0 := hide ((Below.refl w0.heap.size w0).drew)
  have HW0 := hide hw0
  generalize L.qs p = q at *
  generalize L.l = l at *
  generalize e.nodes.length = T at *
  clear h I F PP hato hn hnl hlg hLL hD hw0 h0 ho0 hD1 hk hkl hP hY hps0 hnv hpL hx
  go_enter Try.func60, Try.ntmps60
  go_upto_region 2 with fail
  rw [← HW0.out]
  clear HW0 hc8 hf8
  go_region_held (fun W => W.cell? ⟨q, 1, none⟩ = some (ptr l) ∧ W.cell? ⟨q, 7, none⟩ = some (.int .i64 (k : Int)) ∧ W.cell? ⟨q, 8, none⟩ = some (.int .i64 (D + 1)) ∧ W.cell? ⟨l, 4, none⟩ = some (.slice (some ⟨nb, 0, none⟩) T nc) ∧ W.cell? ⟨nb, k * 7 + 6, none⟩ = some (.int .i64 Y))
    (first | (with_reducible exact HK.out _ HO0.out) | (with_reducible exact HK.out _ HO1.out))
    (first | (go_at_call 43; refine (HC.out _ HB0.out).mono ?_; rintro r W1 ⟨rfl, hm1, ho1⟩; have HM1 := hide hm1; have HO1 := hide (HO0.out.trans ho1 fun _ _ h => h); clear hm1 ho1))
  all_goals
    go_wp2
    go_ret
    exact HEND.out _ _ HM1.out HO1.out rfl

set_option maxRecDepth 100000 in
set_option maxHeartbeats 2000000 in
theorem readNextP_any {w : World} {eb : Nat} {L : HL} {x : Nat → Value} {e : Eg} {g : Gh} {M : Mc} {N p : Nat} (h : EgL w eb L x e M N) (I : Inv e g) (hp : p < e.n) (F : FitE e N) (hN : N ≤ 1000000) (hx : (e.ps p).nx = .readNext) :
    Calls Try.prog 58 #[ptr (L.qs p)] w fun r w' => StepDid w eb L x (readNextE e p) N p r w' := by
  have hmf : ∀ (fn : Fn) (first cap : Array Value) (w : World), (Instr.makeFunc fn first cap).run Try.prog w = .ok (.func fn first cap) w := fun _ _ _ _ => rfl
  have PP := I.P p hp
  have hato := PP.at1 (by rw [hx]; nofun)
  have hkl := I.G.lt _ PP.pl
  rw [← hato] at hkl
  have hn := F.n
  have hnl := F.nodes
  obtain ⟨k, hk⟩ : ∃ k, k = (e.ps p).ato := ⟨_, rfl⟩
  rw [← hk] at hkl
  obtain ⟨X, hX⟩ : ∃ X : Int, X = (e.nxt k : Int) := ⟨_, rfl⟩
  obtain ⟨Y, hY⟩ : ∃ Y : Int, Y = 2 * (e.n : Int) + 2 * (k : Int) := ⟨_, rfl⟩
  have HC : Hid (∀ W, Below w.heap.size w W → Calls Try.prog 46 #[ptr (L.qs p), .int .i64 Y] W fun r w' => r = .returned (.int .i64 X) ∧ MacL w' L.m L.mc L.ms (readM M (p : Int)) (N + 2) ∧ Only (MachF L) W w') := hide fun W hb =>
    readP_any (h.below hb) hp hn hN _ _ ⟨by omega, by omega⟩ (by rw [hY, hX]; exact h.rel.nxt k hkl)
  obtain ⟨nb, nc, hnv, -⟩ := h.node hkl (Only.refl _ _)
  have HK : Hid (∀ W, Only (MachF L) w W → W.cell? ⟨L.qs p, 1, none⟩ = some (ptr L.l) ∧ W.cell? ⟨L.qs p, 7, none⟩ = some (.int .i64 (k : Int)) ∧ W.cell? ⟨L.l, 4, none⟩ = some (.slice (some ⟨nb, 0, none⟩) e.nodes.length nc) ∧ W.cell? ⟨nb, k * 7 + 5, none⟩ = some (.int .i64 Y)) := hide fun W ho => by
    obtain ⟨h1, h2⟩ := h.cells hp ho
    obtain ⟨nb', nc', hnv', h3, -⟩ := h.node hkl ho
    rw [hnv] at hnv'
    cases hnv'
    rw [hk, hY, ← hnv]
    exact ⟨(h1.cell 1 rfl).1, (h1.cell 7 rfl).1, (h2.cell 4 rfl).1, by rw [← hk]; exact h3⟩
  have HV : Hid (∀ W, Only (MachF L) w W → (∃ v, W.cell? ⟨L.qs p, 7, none⟩ = some v) ∧ W.frozen? ⟨L.qs p, 7, none⟩ = false) := hide fun W ho => by
    have h1 := (h.cells hp ho).1
    exact ⟨⟨_, (h1.cell 7 rfl).1⟩, (h1.cell 7 rfl).2⟩
  have HEND : Hid (∀ W r, MacL W L.m L.mc L.ms (readM M (p : Int)) (N + 2) → Only (MachF L) w W → r = .returned (.func (.func 60) #[ptr (L.qs p)] #[]) → StepDid w eb L x (readNextE e p) N p r (W.setCell ⟨L.qs p, 7, none⟩ (.int .i64 X))) := hide fun W r hm ho hr => by
    rw [hX, hk]
    exact StepDid.of (q' := { e.ps p with nx := .tellPlace, did := (e.ps p).did + 1, ato := e.nxt (e.ps p).ato }) h hp hm ho ((Only.refl (fun k => k = L.qs p) W).setCell 7 (fun _ => rfl) _) ((h.cells hp ho).1.set 7 _) rfl rfl rfl rfl rfl (did_step h.rel hp rfl) (by rw [hr, nxV_ne _ (by nofun)]; rfl)
  have hki : (k : Int) < (e.nodes.length : Int) := by omega
  have HO0 := hide (only_drew (MachF L) w)
  have HB0 := hide ((Below.refl w.heap.size w).drew)
  obtain ⟨c1, c7, d4, n5⟩ := HK.out w (Only.refl _ _)
  obtain ⟨c1', c7', d4', n5'⟩ := HK.out w.drew HO0.out
  generalize L.qs p = q at *
  generalize L.l = l at *
  generalize e.nodes.length = T at *
  clear h I F PP hato hn hnl hX hY hx hk hkl hnv
  go_enter Try.func58, Try.ntmps58
  go_upto_region 1 with fail
  go_region_with
    (first | (go_at_call 46; refine (HC.out _ HB0.out).mono ?_; rintro r W1 ⟨rfl, hm1, ho1⟩; have HM1 := hide hm1; have HO1 := hide (HO0.out.trans ho1 fun _ _ h => h); obtain ⟨⟨v7, z7⟩, y7⟩ := HV.out _ HO1.out; clear hm1 ho1))
  all_goals
    go_wp2
    go_ret
    exact HEND.out _ _ HM1.out HO1.out rfl

end Go.Proofs.Ytiofhmlkgieclaa
