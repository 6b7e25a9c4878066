/- The engine that copies: a process looks at an announcement. -/
import Derived.Test.YtedfacbngefhnaaPsimE
namespace Go.Proofs.Ytedfacbngefhnaa
open Go.RowKit Go.Maps

set_option maxRecDepth 100000 in
set_option maxHeartbeats 4000000 in
theorem readAnnP_any {w : World} {eb : Nat} {L : HL} {x : Nat → Value} {e : Eg} {g : Nat → Nat} {M : Mc} {N p : Nat} (h : EgL w eb L x e M N) (I : Inv e g) (hp : p < e.n) (F : FitE e N) (hN : N ≤ 150000) (hx : (e.ps p).nx = .readAnn) (hcp : L.cp p) :
    Calls Try.prog 49 #[ptr (L.qs p)] w fun r w' => ∃ L' M', GoDid w eb L x e (readAnnE e p) N p r w' L' M' := by
  have hmf : ∀ (fn : Fn) (first cap : Array Value) (w : World), (Instr.makeFunc fn first cap).run Try.prog w = .ok (.func fn first cap) w := fun _ _ _ _ => rfl
  have hn := F.n
  have IM := I.M p hp (.inl hx)
  have ha := IM.asked hx
  have hlen := IM.len
  obtain ⟨a, hae⟩ : ∃ a, a = (e.ps p).asked := ⟨_, rfl⟩
  rw [← hae] at ha hlen
  obtain ⟨A, hA⟩ : ∃ A : Int, A = (a : Int) := ⟨_, rfl⟩
  obtain ⟨X, hX⟩ : ∃ X : Int, X = (e.ann a : Int) := ⟨_, rfl⟩
  obtain ⟨Z, hZ⟩ : ∃ Z : Int, Z = (((e.ps p).mlast a).seq : Int) := ⟨_, rfl⟩
  obtain ⟨co, oa, ob, hop⟩ : ∃ co oa ob, e.ops a = ⟨co, oa, ob⟩ := ⟨_, _, _, rfl⟩
  have hA1 : ((a + 1 : Nat) : Int) = A + 1 := by omega
  obtain ⟨q1, hq1⟩ : ∃ q1 : Pc, q1 = { e.ps p with did := (e.ps p).did + 1 } := ⟨_, rfl⟩
  have C := h.cop p hp hcp
  obtain ⟨ga, gc, hma, -⟩ := row_at C.last (by omega)
  obtain ⟨ka, kc, hov, -⟩ := row_at h.ops (by omega)
  have HC : Hid (∀ W, Below w.heap.size w W → Calls Try.prog 46 #[ptr (L.qs p), .int .i64 (1 + A)] W fun r w' => r = .returned (.int .i64 X) ∧ MacL w' L.m L.mc L.ms (readM M (p : Int)) (N + 2) ∧ Only (MachF L) W w') := hide fun W hb =>
    readP_any (h.below hb) hp hn hN _ _ ⟨by omega, by omega⟩ (by rw [hA, hX]; exact h.rel.ann a ha)
  have HK : Hid (∀ W, Only (MachF L) w W → W.cell? ⟨L.qs p, 1, none⟩ = some (ptr L.l) ∧ W.cell? ⟨L.qs p, 16, none⟩ = some (.int .i64 A) ∧ W.cell? ⟨L.l, 3, none⟩ = some (.int .i64 1)) := hide fun W ho => by
    obtain ⟨h1, h2⟩ := h.cells hp ho
    rw [hA, hae]
    exact ⟨(h1.cell 1 rfl).1, (h1.cell 16 rfl).1, (h2.cell 3 rfl).1⟩
  have H1 : Hid (∀ W V, MacL W L.m L.mc L.ms (readM M (p : Int)) (N + 2) → Only (MachF L) w W → Below W.heap.size W V → EgL V eb L x { e with ps := putN e.ps p q1 } (readM M (p : Int)) (N + 2) ∧ Only (HasE eb L e.n) w V) := hide fun W V hm ho hb =>
    ⟨(h.macp ho hm (did_step h.rel hp (by rw [hq1])) (fun _ _ _ _ => by rw [hq1]; rfl) (by rw [hq1]) (by rw [hq1]) (by rw [hq1])).below hb, (ho.mono MachF.has).trans (Only.ofBelow (F := HasE eb L e.n) hb) fun _ _ k => k⟩
  obtain ⟨NX, hNX⟩ : ∃ NX : Nx, NX = if a + 1 < e.n then .readAnn else .swapIn := ⟨_, rfl⟩
  have HFIN : Hid (∀ W (L1 : HL) (q2 : Pc) r, EgL W eb L1 x { e with ps := putN e.ps p q2 } (readM M (p : Int)) (N + 2) → L1.qs = L.qs → L1.l = L.l → (∀ k, HasE eb L1 e.n k → HasE eb L e.n k ∨ w.heap.size ≤ k) → (∀ k, L1.S k → L.S k ∨ w.heap.size ≤ k) → (∀ r, r ≠ p → L.cp r → L1.cp r) → L1.cp p → Only (HasE eb L e.n) w W →
      { q2 with nx := NX, asked := a + 1 } = (readAnnE e p).ps p → (A + 1 < (e.n : Int) → r = .returned (.func (.func 49) #[ptr (L.qs p)] #[])) → (¬ A + 1 < (e.n : Int) → r = .returned (.func (.func 54) #[ptr (L.qs p)] #[])) →
      ∃ L' M', GoDid w eb L x e (readAnnE e p) N p r (W.setCell ⟨L.qs p, 16, none⟩ (.int .i64 (A + 1))) L' M') := hide fun W L1 q2 r hW hqs hl hk hs hc hc1 ho he hr1 hr2 => by
    obtain ⟨g6, o6⟩ := hW.store (p := p) hp 16 (.int .i64 ((a + 1 : Nat) : Int)) { q2 with nx := NX, asked := a + 1 } (by dsimp only; rw [putN_same]; rfl) (by dsimp only; rw [putN_same]) (by dsimp only; rw [putN_same]) (by dsimp only; rw [putN_same]) (by dsimp only; rw [putN_same])
    dsimp only at g6
    rw [putN_putN] at g6
    rw [hA1, hqs] at g6 o6
    have e1 : ({ e with ps := putN e.ps p { q2 with nx := NX, asked := a + 1 } } : Eg) = readAnnE e p := by
      rw [he]
      unfold readAnnE
      dsimp only
      rw [putN_same]
    rw [e1] at g6
    have e2 : ((readAnnE e p).ps p).nx = NX := by rw [← he]
    refine ⟨L1, readM M (p : Int), ⟨?_, g6, hqs, ho.trans o6 fun k _ hk => by rw [hk]; exact has_q eb L hp, hk, hs, fun r _ hn hcr => hc r hn hcr, fun _ => hc1⟩⟩
    rw [e2, hNX]
    by_cases b : a + 1 < e.n
    · rw [if_pos b, hr1 (by omega), nxV_ne _ (by nofun)]; rfl
    · rw [if_neg b, hr2 (by omega), nxV_ne _ (by nofun)]; rfl
  have HV : Hid (∀ V (L1 : HL) (q2 : Pc), EgL V eb L1 x { e with ps := putN e.ps p q2 } (readM M (p : Int)) (N + 2) → L1.qs = L.qs → L1.l = L.l → L1.ma p = L.ma p → q2.asked = a → V.cell? ⟨L.qs p, 1, none⟩ = some (ptr L.l) ∧ V.cell? ⟨L.qs p, 14, none⟩ = some (.slice (some ⟨ga, 0, none⟩) e.n gc) ∧ (V.cell? ⟨L.qs p, 16, none⟩ = some (.int .i64 A) ∧ V.frozen? ⟨L.qs p, 16, none⟩ = false) ∧
      (V.setCell ⟨L.qs p, 16, none⟩ (.int .i64 (A + 1))).cell? ⟨L.qs p, 16, none⟩ = some (.int .i64 (A + 1)) ∧ (V.setCell ⟨L.qs p, 16, none⟩ (.int .i64 (A + 1))).cell? ⟨L.qs p, 1, none⟩ = some (ptr L.l) ∧ (V.setCell ⟨L.qs p, 16, none⟩ (.int .i64 (A + 1))).cell? ⟨L.l, 0, none⟩ = some (.int .i64 (e.n : Int))) := hide fun V L1 q2 hV hqs hl hm has => by
    have a1 := hV.pr p hp
    have a2 := hV.list
    rw [hqs] at a1
    rw [hl] at a2
    dsimp only at a1
    rw [putN_same, hl, hm, hma] at a1
    have a3 := a2.other (L.qs p) 16 (.int .i64 (A + 1)) (a2.ne a1 (by decide))
    have a4 := a1.set 16 (.int .i64 (A + 1))
    have hAq : A = (q2.asked : Int) := by rw [has, hA]
    refine ⟨(a1.cell 1 rfl).1, (a1.cell 14 rfl).1, ⟨?_, (a1.cell 16 rfl).2⟩, (a4.cell 16 rfl).1, (a4.cell 1 rfl).1, (a3.cell 0 rfl).1⟩
    rw [hAq]
    exact (a1.cell 16 rfl).1
  have HOP : Hid (∀ V (L1 : HL) (q2 : Pc), EgL V eb L1 x { e with ps := putN e.ps p q2 } (readM M (p : Int)) (N + 2) → L1.l = L.l → L1.ov = L.ov → V.cell? ⟨L.l, 10, none⟩ = some (.slice (some ⟨ka, 0, none⟩) e.n kc) ∧ V.cell? ⟨ka, a * 3, none⟩ = some (.int .i64 co) ∧ V.cell? ⟨ka, a * 3 + 1, none⟩ = some (.int .i64 oa) ∧ V.cell? ⟨ka, a * 3 + 2, none⟩ = some (.int .i64 ob)) := hide fun V L1 q2 hV hl hv => by
    have r2 := hV.ops
    have a2 := hV.list
    dsimp only at r2
    rw [hv, hov] at r2
    rw [hl] at a2
    obtain ⟨b0, b1, b2⟩ := opC_get e.ops ha
    have d0 := World.ownsRow.cells r2 (g := ka) rfl _ _ b0
    have d1 := World.ownsRow.cells r2 (g := ka) rfl _ _ b1
    have d2 := World.ownsRow.cells r2 (g := ka) rfl _ _ b2
    rw [Addr.add_lit, Nat.zero_add] at d0 d1 d2
    rw [hop] at d0 d1 d2
    exact ⟨by rw [← hov, ← hv]; exact (a2.cell 10 rfl).1, d0, d1, d2⟩
  have HR : Hid (∀ V, EgL V eb L x { e with ps := putN e.ps p q1 } (readM M (p : Int)) (N + 2) → V.cell? ⟨ga, a * 2, none⟩ = some (.int .i64 Z) ∧ V.cell? ⟨L.l, 10, none⟩ = some (.slice (some ⟨ka, 0, none⟩) e.n kc) ∧ V.cell? ⟨ka, a * 3, none⟩ = some (.int .i64 co) ∧ V.cell? ⟨ka, a * 3 + 1, none⟩ = some (.int .i64 oa) ∧ V.cell? ⟨ka, a * 3 + 2, none⟩ = some (.int .i64 ob)) := hide fun V hV => by
    have r1 := (hV.cop p hp hcp).last
    have r2 := hV.ops
    dsimp only at r1 r2
    rw [putN_same, hma, hq1] at r1
    rw [hov] at r2
    have c1 := World.ownsRow.cells r1 (g := ga) rfl _ _ (anC_get (e.ps p).mlast ha).1
    obtain ⟨b0, b1, b2⟩ := opC_get e.ops ha
    have d0 := World.ownsRow.cells r2 (g := ka) rfl _ _ b0
    have d1 := World.ownsRow.cells r2 (g := ka) rfl _ _ b1
    have d2 := World.ownsRow.cells r2 (g := ka) rfl _ _ b2
    rw [Addr.add_lit, Nat.zero_add] at c1 d0 d1 d2
    rw [hop] at d0 d1 d2
    have hl := hV.list
    rw [hZ]
    exact ⟨c1, by rw [← hov]; exact (hl.cell 10 rfl).1, d0, d1, d2⟩
  -- what is done
  have HD : Hid (∀ V, EgL V eb L x { e with ps := putN e.ps p q1 } (readM M (p : Int)) (N + 2) → Calls Try.prog 53 #[.pointer (some ⟨L.qs p, 10, none⟩), .int .i64 A, .int .i64 X, .agg #[.int .i64 co, .int .i64 oa, .int .i64 ob]] V fun r V' => r = .returned (.tuple #[]) ∧
      ∃ L1, EgL V' eb L1 x { e with ps := putN e.ps p (doneP q1 (e.ann a) ⟨co, oa, ob⟩) } (readM M (p : Int)) (N + 2) ∧ L1.qs = L.qs ∧ L1.l = L.l ∧ L1.ma p = L.ma p ∧ L1.ov = L.ov ∧ (∀ r, r ≠ p → L.cp r → L1.cp r) ∧ L1.cp p ∧ (∀ k, HasE eb L1 e.n k → HasE eb L e.n k ∨ V.heap.size ≤ k) ∧ (∀ k, L1.S k → L.S k ∨ V.heap.size ≤ k) ∧ Only (HasE eb L e.n) V V') := hide fun V hV => by
    have C1 := hV.cop p hp hcp
    have b1 := hV.pr p hp
    dsimp only at C1 b1
    rw [putN_same] at C1 b1
    have l1 := C1.last
    rw [hma] at b1 l1
    have has : q1.asked = a := by rw [hq1, hae]
    have hd := do_any (sq := e.ann a) b1 (by rw [hq1]; exact IM.may) C1.st l1 C1.fresh (by rw [hq1]; show (e.ps p).fresh.length ≤ _; omega) (by rw [has]; exact ha) ⟨co, oa, ob⟩ (C1.stn.imp id fun k b hb => by
      have hSb := k b hb
      have hE := fun t => hV.hS b t
      refine ⟨fun e1 => hE (by rw [e1]; exact has_q eb L hp) hSb, fun e1 => hE (has_cp hp hcp (.inr (by rw [hma, e1]; rfl))) hSb, fun e1 => hE (has_cp hp hcp (.inl e1)) hSb⟩)
    rw [has] at hd
    rw [hA, hX]
    refine hd.mono ?_
    rintro r V' ⟨h1, sv', fv', h2, h3, h4, h5, h6, h7, h8, h9⟩
    refine ⟨h1, ?_⟩
    obtain ⟨L1, k1, k2⟩ := hV.doneC (p := p) (q' := doneP q1 (e.ann a) ⟨co, oa, ob⟩) (W := V') hp hcp hma (by dsimp only; rw [putN_same]; rfl) h2 h3 (by dsimp only; rw [putN_same]; exact h4) h5 h6 h7 h8 h9
    dsimp only at k1
    rw [putN_putN] at k1
    exact ⟨L1, k1, k2⟩
  have HLK1 : Hid ({ ({ e.ps p with did := (e.ps p).did + 1 } : Pc) with nx := NX, asked := a + 1 } = (readAnnE e p).ps p ∨ Z < X) := hide (by
    by_cases b : Z < X
    · exact .inr b
    · left
      unfold readAnnE lookP
      dsimp only
      rw [putN_same, ← hae, if_neg (show ¬ ((e.ps p).mlast a).seq < e.ann a by omega), hNX])
  have HLK2 : Hid (Z < X → { doneP q1 (e.ann a) ⟨co, oa, ob⟩ with nx := NX, asked := a + 1 } = (readAnnE e p).ps p) := hide fun b => by
    unfold readAnnE lookP
    dsimp only
    rw [putN_same, ← hae, if_pos (show ((e.ps p).mlast a).seq < e.ann a by omega), hNX, hop, hq1]
    unfold doneP
    dsimp only
  rw [← hq1] at HLK1
  have has1 : q1.asked = a := by rw [hq1, hae]
  have HAS : Hid (q1.asked = a ∧ (doneP q1 (e.ann a) ⟨co, oa, ob⟩).asked = a) := ⟨has1, has1⟩
  have hak : (a : Int) < (e.n : Int) := by omega
  have hw1 : IntKind.i64.wrap (1 + A) = 1 + A := wrap_lit _ (by omega) (by omega)
  have hw2 : IntKind.i64.wrap (A + 1) = A + 1 := wrap_lit _ (by omega) (by omega)
  have HHC : Hid (L.cp p ∧ (∀ k, HasE eb L e.n k → HasE eb L e.n k ∨ w.heap.size ≤ k)) := ⟨hcp, fun _ k => .inl k⟩
  have HO0 := hide (only_drew (MachF L) w)
  have HB0 := hide ((Below.refl w.heap.size w).drew)
  obtain ⟨c1, c16, d3⟩ := HK.out w (Only.refl _ _)
  have HRF : Hid (∀ W : World, Below W.heap.size W W) := fun W => Below.refl _ W
  generalize L.qs p = q at *
  generalize hlL : L.l = l at *
  have HLL := hide hlL
  clear hlL h I F hn IM ha hlen hae hX hZ hop hA1 hq1 C hma hov hNX has1 hx hcp hN
  subst hA
  generalize e.n = n at *
  go_enter Try.func49, Try.ntmps49
  go_wp2
  go_region_held (fun W => W.cell? ⟨q, 1, none⟩ = some (ptr l) ∧ W.cell? ⟨q, 16, none⟩ = some (.int .i64 (a : Int)) ∧ W.cell? ⟨l, 3, none⟩ = some (.int .i64 1))
    (first | (with_reducible exact HK.out _ HO0.out) | (with_reducible exact HK.out _ HO1.out))
    (first | (go_at_call 46; refine (HC.out _ HB0.out).mono ?_; rintro r W1 ⟨rfl, hm1, ho1⟩; have HM1 := hide hm1; have HO1 := hide (HO0.out.trans ho1 fun _ _ h => h); clear hm1 ho1))
  all_goals
    clear c1 c16 d3
    have HE1 := hide (H1.out W1 W1 HM1.out HO1.out (HRF.out W1))
    obtain ⟨k1, k14, ⟨k16, f16⟩, -⟩ := HV.out W1 L q1 HE1.out.1 rfl HLL.out rfl HAS.out.1
    obtain ⟨kz, -⟩ := HR.out W1 HE1.out.1
    by_cases hz : Z < X
    · have HZ := hide hz
      have hdz : decide (Z < X) = true := decide_eq_true hz
      clear hz
      go_upto_region 2 with fail
      go_quiet (fail)
      go_upto_region 3 with fail
      obtain ⟨V, hV⟩ : ∃ V, V = W1.drewN nq := ⟨_, rfl⟩
      rw [← hV]
      have HEV := hide (H1.out W1 V HM1.out HO1.out (by rw [hV]; exact below_drewN (Below.refl _ _) _))
      have HED := hide (HEV.out.1.below ((Below.refl _ V).drew))
      clear k1 k14 k16 f16 kz hV
      obtain ⟨v1, -, ⟨v16, -⟩, -⟩ := HV.out V L q1 HEV.out.1 rfl HLL.out rfl HAS.out.1
      obtain ⟨-, v10, o0, o1, o2⟩ := HR.out V HEV.out.1
      have HSD : Hid (V.drew.cell? ⟨q, 1, none⟩ = some (ptr l) ∧ V.drew.cell? ⟨q, 16, none⟩ = some (.int .i64 (a : Int)) ∧ V.drew.cell? ⟨l, 10, none⟩ = some (.slice (some ⟨ka, 0, none⟩) n kc) ∧ V.drew.cell? ⟨ka, a * 3, none⟩ = some (.int .i64 co) ∧ V.drew.cell? ⟨ka, a * 3 + 1, none⟩ = some (.int .i64 oa) ∧ V.drew.cell? ⟨ka, a * 3 + 2, none⟩ = some (.int .i64 ob)) := ⟨v1, v16, v10, o0, o1, o2⟩
      have HO1V : Hid (w.heap.size ≤ V.drew.heap.size) := hide HEV.out.2.size
      go_region_held (fun W => W.cell? ⟨q, 1, none⟩ = some (ptr l) ∧ W.cell? ⟨q, 16, none⟩ = some (.int .i64 (a : Int)) ∧ W.cell? ⟨l, 10, none⟩ = some (.slice (some ⟨ka, 0, none⟩) n kc) ∧ W.cell? ⟨ka, a * 3, none⟩ = some (.int .i64 co) ∧ W.cell? ⟨ka, a * 3 + 1, none⟩ = some (.int .i64 oa) ∧ W.cell? ⟨ka, a * 3 + 2, none⟩ = some (.int .i64 ob))
        (first | (with_reducible exact HSD.out) | (with_reducible exact HS2.out))
        (first | (go_at_call 53; refine (HD.out _ HED.out).mono ?_; rintro r V2 ⟨rfl, L1, hE2, hqs, hl, hma, hov2, hc, hc1, hk, hs, ho⟩; have HE2 := hide hE2; have HQS := hide (And.intro hqs (And.intro hl (And.intro hma hov2))); have HCC := hide (And.intro hc hc1); have HKS := hide (And.intro hk hs); have HO2 := hide ho; have HS2 : Hid (V2.cell? ⟨q, 1, none⟩ = some (ptr l) ∧ V2.cell? ⟨q, 16, none⟩ = some (.int .i64 (a : Int)) ∧ V2.cell? ⟨l, 10, none⟩ = some (.slice (some ⟨ka, 0, none⟩) n kc) ∧ V2.cell? ⟨ka, a * 3, none⟩ = some (.int .i64 co) ∧ V2.cell? ⟨ka, a * 3 + 1, none⟩ = some (.int .i64 oa) ∧ V2.cell? ⟨ka, a * 3 + 2, none⟩ = some (.int .i64 ob)) := ⟨(HV.out V2 L1 (doneP q1 (e.ann a) ⟨co, oa, ob⟩) HE2.out HQS.out.1 HQS.out.2.1 HQS.out.2.2.1 HAS.out.2).1, (HV.out V2 L1 (doneP q1 (e.ann a) ⟨co, oa, ob⟩) HE2.out HQS.out.1 HQS.out.2.1 HQS.out.2.2.1 HAS.out.2).2.2.1.1, HOP.out V2 L1 (doneP q1 (e.ann a) ⟨co, oa, ob⟩) HE2.out HQS.out.2.1 HQS.out.2.2.2⟩; clear hE2 hqs hl hma hov2 hc hc1 hk hs ho))
      all_goals
        clear v1 v16 v10 o0 o1 o2
        obtain ⟨m1, -, ⟨m16, h16⟩, n16, n1, n0⟩ := HV.out V2 L1 (doneP q1 (e.ann a) ⟨co, oa, ob⟩) HE2.out HQS.out.1 HQS.out.2.1 HQS.out.2.2.1 HAS.out.2
        have HFW : Hid (∀ r, ((a : Int) + 1 < (n : Int) → r = .returned (.func (.func 49) #[ptr q] #[])) → (¬ (a : Int) + 1 < (n : Int) → r = .returned (.func (.func 54) #[ptr q] #[])) → ∃ L' M', GoDid w eb L x e (readAnnE e p) N p r (V2.setCell ⟨q, 16, none⟩ (.int .i64 ((a : Int) + 1))) L' M') := hide fun r b1 b2 => HFIN.out V2 L1 (doneP q1 (e.ann a) ⟨co, oa, ob⟩) r HE2.out HQS.out.1 HQS.out.2.1 (fun k hk => (HKS.out.1 k hk).imp id fun b => Nat.le_trans HO1V.out b) (fun k hk => (HKS.out.2 k hk).imp id fun b => Nat.le_trans HO1V.out b) HCC.out.1 HCC.out.2 ((HEV.out.2.drewN 1).trans HO2.out fun _ _ k => k) (HLK2.out HZ.out) b1 (fun b => b2 (by omega))
        go_upto_region 5 with fail
        obtain ⟨W5, hW5⟩ : ∃ W5, W5 = V2.setCell ⟨q, 16, none⟩ (.int .i64 ((a : Int) + 1)) := ⟨_, rfl⟩
        rw [← hW5] at n16 n1 n0 HFW ⊢
        clear hW5 m1 m16 h16
        by_cases hlt : (a : Int) + 1 < (n : Int)
        · have hdl : decide ((a : Int) + 1 < (n : Int)) = true := decide_eq_true hlt
          go_quiet (fail)
          go_wp2
          go_ret
          obtain ⟨L', M', hgd⟩ := HFW.out _ (fun _ => rfl) (fun b => absurd hlt (by omega))
          exact ⟨L', M', hgd.drewN _⟩
        · have hdl : decide ((a : Int) + 1 < (n : Int)) = false := decide_eq_false hlt
          go_quiet (fail)
          go_wp2
          go_ret
          obtain ⟨L', M', hgd⟩ := HFW.out _ (fun b => absurd b (by omega)) (fun _ => rfl)
          exact ⟨L', M', hgd.drewN _⟩
    · have HZ := hide hz
      have hdz : decide (Z < X) = false := decide_eq_false hz
      clear hz
      go_upto_region 2 with fail
      go_quiet (fail)
      go_upto_region 4 with fail
      obtain ⟨V, hV⟩ : ∃ V, V = W1.drewN nq := ⟨_, rfl⟩
      rw [← hV]
      have HEV := hide (H1.out W1 V HM1.out HO1.out (by rw [hV]; exact below_drewN (Below.refl _ _) _))
      have HEV1 := hide HEV.out.1
      clear k1 k14 k16 f16 kz hV
      obtain ⟨m1, -, ⟨m16, h16⟩, n16, n1, n0⟩ := HV.out V L q1 HEV1.out rfl HLL.out rfl HAS.out.1
      have HFW : Hid (∀ r, ((a : Int) + 1 < (n : Int) → r = .returned (.func (.func 49) #[ptr q] #[])) → (¬ (a : Int) + 1 < (n : Int) → r = .returned (.func (.func 54) #[ptr q] #[])) → ∃ L' M', GoDid w eb L x e (readAnnE e p) N p r (V.setCell ⟨q, 16, none⟩ (.int .i64 ((a : Int) + 1))) L' M') := hide fun r b1 b2 => HFIN.out V L q1 r HEV1.out rfl HLL.out (fun k hk => .inl hk) (fun k hk => .inl hk) (fun _ _ k => k) HHC.out.1 HEV.out.2 (HLK1.out.resolve_right HZ.out) b1 (fun b => b2 (by omega))
      go_upto_region 5 with fail
      obtain ⟨W5, hW5⟩ : ∃ W5, W5 = V.setCell ⟨q, 16, none⟩ (.int .i64 ((a : Int) + 1)) := ⟨_, rfl⟩
      rw [← hW5] at n16 n1 n0 HFW ⊢
      clear hW5 m1 m16 h16
      by_cases hlt : (a : Int) + 1 < (n : Int)
      · have hdl : decide ((a : Int) + 1 < (n : Int)) = true := decide_eq_true hlt
        go_quiet (fail)
        go_wp2
        go_ret
        obtain ⟨L', M', hgd⟩ := HFW.out _ (fun _ => rfl) (fun b => absurd hlt (by omega))
        exact ⟨L', M', hgd.drewN _⟩
      · have hdl : decide ((a : Int) + 1 < (n : Int)) = false := decide_eq_false hlt
        go_quiet (fail)
        go_wp2
        go_ret
        obtain ⟨L', M', hgd⟩ := HFW.out _ (fun b => absurd b (by omega)) (fun _ => rfl)
        exact ⟨L', M', hgd.drewN _⟩

end Go.Proofs.Ytedfacbngefhnaa
