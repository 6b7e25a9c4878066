/- Herlihy's engine: who is next is decided; a process's next step, whichever it is. -/
import Derived.Test.YtiofhmlkgieclaaHerlG
namespace Go.Proofs.Ytiofhmlkgieclaa
open Go.RowKit Go.Maps

/-- What a step leaves. -/
def GoDid (w : World) (eb : Nat) (L : HL) (x : Nat → Value) (e e' : Eg) (N p : Nat) (r : Ending) (w' : World) : Prop :=
  ∃ L' M', r = .returned (nxV (L.qs p) (e'.ps p).nx) ∧ EgL w' eb L' x e' M' (N + 2) ∧ L'.qs = L.qs ∧ Only (HasE eb L e.n) w w' ∧ (∀ k, HasE eb L' e.n k → HasE eb L e.n k ∨ w.heap.size ≤ k) ∧
    ((L'.sv = L.sv ∧ e'.st.L = e.st.L) ∨ ∀ j, L'.sv.ownBlock = some j → w.heap.size ≤ j)

theorem StepF.has {eb n p : Nat} {L : HL} (hp : p < n) : ∀ k, StepF L p k → HasE eb L n k := fun k hk => by
  unfold HasE
  rcases hk with hk | hk | hk
  · simp [hk]
  · simp [hk]
  · exact .inr (.inr (.inr (.inr (.inr (.inl ⟨p, hp, hk⟩)))))

theorem StepDid.go {w : World} {eb : Nat} {L : HL} {x : Nat → Value} {e e' : Eg} {N p : Nat} {r : Ending} {w' : World} (h : StepDid w eb L x e' N p r w') (hp : p < e.n) (hst : e'.st = e.st) : GoDid w eb L x e e' N p r w' := by
  obtain ⟨M', h1, h2, h3⟩ := h
  exact ⟨L, M', h1, h2, rfl, h3.mono (StepF.has hp), fun k hk => .inl hk, .inl ⟨rfl, by rw [hst]⟩⟩

set_option maxRecDepth 100000 in
set_option maxHeartbeats 2000000 in
theorem decideP_any {w : World} {eb : Nat} {L : HL} {x : Nat → Value} {e : Eg} {g : Gh} {M : Mc} {N p : Nat} (h : EgL w eb L x e M N) (I : Inv e g) (hp : p < e.n) (F : FitE e N) (hN : N ≤ 1000000) (hx : (e.ps p).nx = .decide) :
    Calls Try.prog 55 #[ptr (L.qs p)] w fun r w' => GoDid w eb L x e (decideE e p) N p r w' := by
  have hmf : ∀ (fn : Fn) (first cap : Array Value) (w : World), (Instr.makeFunc fn first cap).run Try.prog w = .ok (.func fn first cap) w := fun _ _ _ _ => rfl
  have PP := I.P p hp
  have hato := PP.at1 (by rw [hx]; nofun)
  have hkl := I.G.lt _ PP.pl
  rw [← hato] at hkl
  have hwl := (PP.dec hx).2.1
  have hn := F.n
  have hnl := F.nodes
  have hlg := F.log
  have A := h.apt
  obtain ⟨k, hk⟩ : ∃ k, k = (e.ps p).ato := ⟨_, rfl⟩
  obtain ⟨v, hv⟩ : ∃ v, v = (e.ps p).wanted := ⟨_, rfl⟩
  rw [← hk] at hkl
  rw [← hv] at hwl
  obtain ⟨P, hP⟩ : ∃ P : Int, P = (p : Int) := ⟨_, rfl⟩
  obtain ⟨Y, hY⟩ : ∃ Y : Int, Y = 2 * (e.n : Int) + 2 * (k : Int) := ⟨_, rfl⟩
  have hcY : M.c Y = (e.nxt k : Int) := by rw [hY]; exact h.rel.nxt k hkl
  have hinY : inM Y M.len = true := decide_eq_true (by have := h.rel.len; omega)
  have HC : Hid (∀ W, Below w.heap.size w W → Calls Try.prog 57 #[ptr L.m, .int .i64 P, .int .i64 Y, .int .i64 0, .int .i64 (v : Int)] W fun r w' => r = .returned (.bool (decide (e.nxt k = 0))) ∧ MacL w' L.m L.mc L.ms (swapM M P Y 0 (v : Int)) (N + 2) ∧ Only (MachF L) W w') := hide fun W hb => by
    refine (swap_any (h.below hb).mac (by omega) P Y 0 (v : Int) ⟨by omega, by omega⟩ ⟨by omega, by omega⟩ (i64_nat (by omega))).mono fun r w' ⟨h1, h2, h3⟩ => ⟨?_, h2, h3⟩
    rw [h1, hinY, hcY, Bool.true_and]
    congr 2
    exact decide_eq_decide.2 (by omega)
  obtain ⟨nb, nc, hnv, -⟩ := h.node hkl (Only.refl _ _)
  have HK : Hid (∀ W, Only (MachF L) w W → W.cell? ⟨L.qs p, 0, none⟩ = some (.int .i64 P) ∧ W.cell? ⟨L.qs p, 1, none⟩ = some (ptr L.l) ∧ W.cell? ⟨L.qs p, 7, none⟩ = some (.int .i64 (k : Int)) ∧ W.cell? ⟨L.qs p, 11, none⟩ = some (.int .i64 (v : Int)) ∧ W.cell? ⟨L.l, 1, none⟩ = some (ptr L.m) ∧ W.cell? ⟨L.l, 4, none⟩ = some (.slice (some ⟨nb, 0, none⟩) e.nodes.length nc) ∧ W.cell? ⟨nb, k * 7 + 5, none⟩ = some (.int .i64 Y)) := hide fun W ho => by
    obtain ⟨h1, h2⟩ := h.cells hp ho
    obtain ⟨nb', nc', hnv', h3, -⟩ := h.node hkl ho
    rw [hnv] at hnv'
    cases hnv'
    rw [hk, hY, hP, hv, ← hnv]
    exact ⟨(h1.cell 0 rfl).1, (h1.cell 1 rfl).1, (h1.cell 7 rfl).1, (h1.cell 11 rfl).1, (h2.cell 1 rfl).1, (h2.cell 4 rfl).1, by rw [← hk]; exact h3⟩
  have hki : (k : Int) < (e.nodes.length : Int) := by omega
  obtain ⟨c0, c1, c7, c11, d1, d4, n5⟩ := HK.out w (Only.refl _ _)
  have HO0 := hide (only_drew (MachF L) w)
  have HB0 := hide ((Below.refl w.heap.size w).drew)
  by_cases h0 : e.nxt k = 0
  · have hM0 := hcY
    rw [h0] at hM0
    obtain ⟨e1, he1⟩ : ∃ e1 : Eg, e1 = { e with nxt := putN e.nxt k v, ps := putN e.ps p { e.ps p with did := (e.ps p).did + 1 } } := ⟨_, rfl⟩
    have HW1 : Hid (∀ W, MacL W L.m L.mc L.ms (swapM M P Y 0 (v : Int)) (N + 2) → Only (MachF L) w W → EgL W eb L x e1 (swapM M P Y 0 (v : Int)) (N + 2) ∧ Only (StepF L p) w W) := hide fun W hm ho => by
      have o1 : Only (StepF L p) w W := ho.mono fun k hk => hk.elim .inl fun h => .inr (.inl h)
      refine ⟨h.own (q' := { e.ps p with did := (e.ps p).did + 1 }) hp o1 hm (h.cells hp ho).1 (fun _ _ => rfl) (by rw [he1]) (by rw [he1]) (by rw [he1]) (by rw [he1]) (by rw [he1]) ?_, o1⟩
      rw [hP]
      refine h.rel.put (e' := e1) (c := Y) (v := (v : Int)) hp hinY (by rw [he1]) (by rw [he1]) (fun r hr => by rw [if_neg (by omega), he1]) (fun r hr => by rw [if_neg (by omega), he1]) (fun j hj => ?_) (fun j hj => by rw [if_neg (by omega), he1]) (fun r hr => by rw [he1]; show (putN e.ps p _ r).did = _; rw [putN_other _ _ hr]) (by rw [he1]; show (putN e.ps p _ p).did = _; rw [putN_same]) (fun z => if z = 0 then (v : Int) else z) (by show (if M.c Y = 0 then (v : Int) else M.c Y) = _; rw [hM0]; rfl)
      rw [he1]
      show ((putN e.nxt k v j : Nat) : Int) = _
      by_cases a : j = k
      · rw [a, putN_same, if_pos hY]
      · rw [putN_other _ _ a, if_neg (by omega)]
    have HE : Hid (∀ W, EgL W eb L x e1 (swapM M P Y 0 (v : Int)) (N + 2) → Calls Try.prog 59 #[ptr L.l, .int .i64 (v : Int)] W fun r w' => r = .returned (.tuple #[]) ∧ EffDid W eb L x e1 (swapM M P Y 0 (v : Int)) (N + 2) v w') := hide fun W hW => effect_any hW (by rw [he1]; exact hwl) (by rw [he1]; exact I.G.st) (by rw [he1]; show e.log.length ≤ _; omega)
    have HEND : Hid (∀ W W2 r, Only (StepF L p) w W → EffDid W eb L x e1 (swapM M P Y 0 (v : Int)) (N + 2) v W2 → r = .returned (.func (.func 60) #[ptr (L.qs p)] #[]) →
        (W2.cell? ⟨L.qs p, 11, none⟩ = some (.int .i64 (v : Int)) ∧ (∃ z, W2.cell? ⟨L.qs p, 7, none⟩ = some z) ∧ W2.frozen? ⟨L.qs p, 7, none⟩ = false) ∧ GoDid w eb L x e (decideE e p) N p r (W2.setCell ⟨L.qs p, 7, none⟩ (.int .i64 (v : Int)))) := hide fun W W2 r ho hd hr => by
      obtain ⟨lv', sv', g1, g2, g3, g4⟩ := hd
      have hp1 : p < (effectE e1 v).n := by rw [he1]; exact hp
      have hq := g1.pr p hp1
      have eps : (effectE e1 v).ps p = { e.ps p with did := (e.ps p).did + 1 } := by rw [he1]; exact putN_same _ _ _
      have c7' := hq.cell 7 rfl
      have c11' : W2.cell? ⟨L.qs p, 11, none⟩ = some (.int .i64 (v : Int)) := by
        have := (hq.cell 11 rfl).1
        rw [eps] at this
        rw [hv]
        exact this
      obtain ⟨k1, k2⟩ := g1.store (p := p) hp1 7 (.int .i64 (v : Int)) { (effectE e1 v).ps p with nx := .tellPlace, ato := v } rfl rfl
      refine ⟨⟨c11', ⟨_, c7'.1⟩, c7'.2⟩, { L with lv := lv', sv := sv' }, swapM M P Y 0 (v : Int), ?_, ?_, rfl, ?_, ?_, ?_⟩
      · rw [hr]
        unfold decideE
        rw [if_pos (by rw [← hk]; exact h0)]
        dsimp only
        rw [putN_same, nxV_ne _ (by nofun)]
        rfl
      · have e2 : decideE e p = { effectE e1 v with ps := putN (effectE e1 v).ps p { (effectE e1 v).ps p with nx := .tellPlace, ato := v } } := by
          unfold decideE
          rw [if_pos (by rw [← hk]; exact h0), eps, he1, ← hk, ← hv]
          unfold effectE
          dsimp only
          rw [putN_putN]
          rfl
        rw [e2]
        exact k1
      · have o2 : Only (HasE eb L e.n) w W := ho.mono (StepF.has hp)
        have o3 : Only (HasE eb L e.n) W W2 := g2.mono fun j hj => by
          unfold HasE
          rcases hj with hj | hj
          · simp [hj]
          · simp [hj]
        exact (o2.trans o3 fun _ _ a => a).setCell 7 (fun _ => StepF.has hp _ (.inr (.inr rfl))) _
      · intro j hj
        have hs := ho.size
        unfold HasE at hj ⊢
        rcases hj with hj | hj | hj | hj | hj | hj | hj | hj | hj
        · exact .inl (.inl hj)
        · exact .inl (.inr (.inl hj))
        · exact .inl (.inr (.inr (.inl hj)))
        · exact .inl (.inr (.inr (.inr (.inl hj))))
        · exact .inl (.inr (.inr (.inr (.inr (.inl hj)))))
        · exact .inl (.inr (.inr (.inr (.inr (.inr (.inl hj))))))
        · exact .inl (.inr (.inr (.inr (.inr (.inr (.inr (.inl hj)))))))
        · rcases g3 j hj with a | a
          · exact .inl (.inr (.inr (.inr (.inr (.inr (.inr (.inr (.inl a))))))))
          · exact .inr (by omega)
        · exact .inl (.inr (.inr (.inr (.inr (.inr (.inr (.inr (.inr hj))))))))
      · have hs := ho.size
        rcases g4 with ⟨a, b⟩ | a
        · left
          refine ⟨a, ?_⟩
          have e3 : (decideE e p).st = (effectE e1 v).st := by
            unfold decideE
            rw [if_pos (by rw [← hk]; exact h0), he1, ← hv]
            rfl
          rw [e3, b, he1]
        · exact .inr fun j hj => by have := a j hj; omega
    have HQ1 : Hid (∀ W W2, EffDid W eb L x e1 (swapM M P Y 0 (v : Int)) (N + 2) v W2 → W2.cell? ⟨L.qs p, 1, none⟩ = some (ptr L.l)) := hide fun W W2 hd => by
      obtain ⟨lv', sv', g1, -⟩ := hd
      exact ((g1.pr p (by rw [he1]; exact hp)).cell 1 rfl).1
    have hB : decide (e.nxt k = 0) = true := decide_eq_true h0
    rw [hB] at HC
    generalize L.qs p = q at *
    generalize L.l = l at *
    generalize L.m = m at *
    generalize e.nodes.length = T at *
    generalize ((v : Nat) : Int) = V at *
    clear h I F PP A hato hn hnl hlg hY hP hx hk hkl hnv h0 hM0 hcY hinY he1 hv hwl hB
    go_enter Try.func55, Try.ntmps55
    go_wp2
    go_region_held (fun W => W.cell? ⟨q, 0, none⟩ = some (.int .i64 P) ∧ W.cell? ⟨q, 1, none⟩ = some (ptr l) ∧ W.cell? ⟨q, 7, none⟩ = some (.int .i64 (k : Int)) ∧ W.cell? ⟨q, 11, none⟩ = some (.int .i64 V) ∧ W.cell? ⟨l, 1, none⟩ = some (ptr m) ∧ W.cell? ⟨l, 4, none⟩ = some (.slice (some ⟨nb, 0, none⟩) T nc) ∧ W.cell? ⟨nb, k * 7 + 5, none⟩ = some (.int .i64 Y))
      (first | (with_reducible exact HK.out _ HO0.out) | (with_reducible exact HK.out _ HO1.out))
      (first | (go_at_call 57; refine (HC.out _ HB0.out).mono ?_; rintro r W1 ⟨rfl, hm1, ho1⟩; have HM1 := hide hm1; have HO1 := hide (HO0.out.trans ho1 fun _ _ h => h); clear hm1 ho1))
    all_goals
      clear c0 c1 c7 c11 d1 d4 n5
      obtain ⟨hE1, hS1⟩ := HW1.out _ HM1.out HO1.out
      have HE1 := hide hE1
      have HS1 := hide hS1
      have HCE : Hid (∀ W, Below W1.heap.size W1 W → Calls Try.prog 59 #[ptr l, .int .i64 V] W fun r w' => r = .returned (.tuple #[]) ∧ EffDid W eb L x e1 (swapM M P Y 0 V) (N + 2) v w') := hide fun W hb => HE.out W (HE1.out.below hb)
      obtain ⟨-, k1, -, k11, -, -, -⟩ := HK.out _ HO1.out
      have HSD := hide (hS1.drewN 1)
      clear hE1 hS1
      go_upto_region 3 with fail
      go_region_held (fun W => W.cell? ⟨q, 1, none⟩ = some (ptr l) ∧ W.cell? ⟨q, 11, none⟩ = some (.int .i64 V))
        (first | exact ⟨k1, k11⟩ | exact trivial | exact ⟨s1, s11⟩)
        (first | (go_at_call 59; refine (HCE.out _ ((Below.refl _ W1).drew)).mono ?_; rintro r W2 ⟨rfl, hd2⟩; have HD2 := hide (fun r hr => HEND.out _ _ r HSD.out hd2 hr); obtain ⟨⟨s11, ⟨z7, hz7⟩, y7⟩, -⟩ := HD2.out _ rfl; have s1 : W2.cell? ⟨q, 1, none⟩ = some (ptr l) := HQ1.out _ _ hd2; clear hd2))
      all_goals
        go_wp2
        go_ret
        exact (HD2.out _ rfl).2
  · have HEND : Hid (∀ W r, MacL W L.m L.mc L.ms (swapM M P Y 0 (v : Int)) (N + 2) → Only (MachF L) w W → r = .returned (.func (.func 58) #[ptr (L.qs p)] #[]) → GoDid w eb L x e (decideE e p) N p r W) := hide fun W r hm ho hr => by
      have hsw : swapM M P Y 0 (v : Int) = readM M P := accM_id (by show (if M.c Y = 0 then (v : Int) else M.c Y) = M.c Y; rw [if_neg (by omega)])
      rw [hsw, hP] at hm
      unfold decideE
      rw [← hk, if_neg h0]
      exact StepDid.go (StepDid.of (q' := { e.ps p with nx := .readNext, did := (e.ps p).did + 1 }) h hp hm ho (Only.refl _ _) (h.cells hp ho).1 rfl rfl rfl rfl rfl (did_step h.rel hp rfl) (by rw [hr, nxV_ne _ (by nofun)]; rfl)) hp rfl
    have hB : decide (e.nxt k = 0) = false := decide_eq_false h0
    rw [hB] at HC
    generalize L.qs p = q at *
    generalize L.l = l at *
    generalize L.m = m at *
    generalize e.nodes.length = T at *
    generalize ((v : Nat) : Int) = V at *
    clear h I F PP A hato hn hnl hlg hY hP hx hk hkl hnv h0 hcY hinY hv hwl hB
    go_enter Try.func55, Try.ntmps55
    go_wp2
    go_region_held (fun W => W.cell? ⟨q, 0, none⟩ = some (.int .i64 P) ∧ W.cell? ⟨q, 1, none⟩ = some (ptr l) ∧ W.cell? ⟨q, 7, none⟩ = some (.int .i64 (k : Int)) ∧ W.cell? ⟨q, 11, none⟩ = some (.int .i64 V) ∧ W.cell? ⟨l, 1, none⟩ = some (ptr m) ∧ W.cell? ⟨l, 4, none⟩ = some (.slice (some ⟨nb, 0, none⟩) T nc) ∧ W.cell? ⟨nb, k * 7 + 5, none⟩ = some (.int .i64 Y))
      (first | (with_reducible exact HK.out _ HO0.out) | (with_reducible exact HK.out _ HO1.out))
      (first | (go_at_call 57; refine (HC.out _ HB0.out).mono ?_; rintro r W1 ⟨rfl, hm1, ho1⟩; have HM1 := hide hm1; have HO1 := hide (HO0.out.trans ho1 fun _ _ h => h); clear hm1 ho1))
    all_goals
      go_wp2
      go_ret
      exact HEND.out _ _ HM1.out HO1.out rfl

/-- A process's next step, whichever it is. -/
theorem goP_any {w : World} {eb : Nat} {L : HL} {x : Nat → Value} {e : Eg} {g : Gh} {M : Mc} {N p : Nat} (h : EgL w eb L x e M N) (I : Inv e g) (hp : p < e.n) (F : FitE e N) (hN : N ≤ 1000000) (hx : (e.ps p).nx ≠ .rest) :
    Calls Try.prog (fnOf (e.ps p).nx) #[ptr (L.qs p)] w fun r w' => GoDid w eb L x e (goE e p) N p r w' := by
  unfold goE
  split <;> rename_i hx'
  · exact absurd hx' hx
  · rw [hx']; exact (announceP_any h I hp F hN hx').mono fun r w' hd => hd.go hp rfl
  · rw [hx']; exact (readHeadP_any h I hp F hN hx').mono fun r w' hd => hd.go hp rfl
  · rw [hx']; exact (readPlaceP_any h I hp F hN hx').mono fun r w' hd => hd.go hp rfl
  · rw [hx']; exact (readOwnP_any h I hp F hN hx').mono fun r w' hd => hd.go hp (by unfold readOwnE; split <;> rfl)
  · rw [hx']; exact (readTurnP_any h I hp F hN).mono fun r w' hd => hd.go hp rfl
  · rw [hx']; exact (readTurnsP_any h I hp F hN hx').mono fun r w' hd => hd.go hp rfl
  · rw [hx']; exact decideP_any h I hp F hN hx'
  · rw [hx']; exact (readNextP_any h I hp F hN hx').mono fun r w' hd => hd.go hp rfl
  · rw [hx']; exact (tellPlaceP_any h I hp F hN hx').mono fun r w' hd => hd.go hp rfl
  · rw [hx']; exact (tellHeadP_any h I hp F hN hx').mono fun r w' hd => hd.go hp rfl

end Go.Proofs.Ytiofhmlkgieclaa
