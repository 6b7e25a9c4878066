/- The engine that copies: a process swaps its copy in; a process's next step, whichever it is. -/
import Derived.Test.YtedfacbngefhnaaPsimG
namespace Go.Proofs.Ytedfacbngefhnaa
open Go.RowKit Go.Maps

/-- A process's copy is the object now. -/
theorem EgL.effectd {w W : World} {eb : Nat} {L : HL} {x : Nat → Value} {e : Eg} {M : Mc} {N p fn fc : Nat} {fa : Option Addr} {lv' : Value} {log' : List Rec} (h : EgL w eb L x e M N) (hp : p < e.n) (hc : L.cp p)
    (hl : Bk 76 W L.l (lsC e.n L.m (L.mv p) (L.ma p) (.slice fa fn fc) L.ov lv' (e.ps p).mst)) (hg : OwnR W 0 lv' log') (ho : Only (fun k => k = L.l ∨ L.lv.ownBlock = some k) w W) (hv : ∀ j, lv'.ownBlock = some j → L.lv.ownBlock = some j ∨ w.heap.size ≤ j) :
    EgL W eb { L with lv := lv', sv := L.mv p, av := L.ma p, fa := fa, fn := fn, fc := fc, cp := putN L.cp p False } x { e with log := log', st := (e.ps p).mst, last := (e.ps p).mlast } M N ∧
      (∀ k, HasE eb { L with lv := lv', sv := L.mv p, av := L.ma p, fa := fa, fn := fn, fc := fc, cp := putN L.cp p False } e.n k → HasE eb L e.n k ∨ w.heap.size ≤ k) := by
  have C := h.cop p hp hc
  have K := h.keeps (T := fun t => t = 1 ∨ t = 8) ho fun k g => .inl (g.elim (fun g => ⟨1, .inl rfl, g⟩) fun g => ⟨8, .inr rfl, .inl g⟩)
  have hcp : ∀ r, putN L.cp p False r → r ≠ p ∧ L.cp r := fun r hr => by
    by_cases a : r = p
    · rw [a, putN_same] at hr; exact hr.elim
    · rw [putN_other _ _ a] at hr; exact ⟨a, hr⟩
  have kn : ∀ k, HasE eb { L with lv := lv', sv := L.mv p, av := L.ma p, fa := fa, fn := fn, fc := fc, cp := putN L.cp p False } e.n k → HasE eb L e.n k ∨ w.heap.size ≤ k :=
    HasE.of rfl rfl rfl rfl rfl rfl rfl (fun k hk => (hv k hk).imp has_lv id) (fun k hk => .inl (has_cp hp hc (.inr hk))) fun r hr hcr k hk => .inl (has_cp hr (hcp r hcr).2 hk)
  refine ⟨⟨K.head (by decide), K.procs (by decide), hl, K.ops (by decide), K.clast (by decide) p hp hc, hg, K.cst p hp hc, K.mac (by decide) (by decide) (by decide), K.pr (by decide), h.inj, C.stn, fun r hr hcr => ?_, fun k hk => Nat.lt_of_lt_of_le (h.sz k hk) ho.size, fun k hk hS => ?_, ⟨h.rel.procs, h.rel.len, h.rel.cnt, h.rel.ann, h.rel.s⟩⟩, kn⟩
  · obtain ⟨hn, hcr⟩ := hcp r hcr
    have R := h.cop r hr hcr
    refine ⟨K.clast (by decide) r hr hcr, ?_, K.cst r hr hcr, R.stn, fun g hg => ⟨(R.sepA g hg).2 p hp (Ne.symm hn) hc, fun s hs hns hcs => (R.sepA g hg).2 s hs hns (hcp s hcs).2⟩, fun g hg => ⟨fun a => ?_, fun s hs hns hcs => (R.sepF g hg).2 s hs hns (hcp s hcs).2⟩⟩
    · refine ownsRow_keep R.fresh fun g hg => ho.block g (row_bk R.fresh hg).choose_spec.lt ?_
      rintro (a | a)
      · obtain ⟨c, hb⟩ := row_bk R.fresh hg
        exact hb.ne h.list (by decide) a
      · exact (R.sepF g hg).1 a
    · rcases hv g a with b | b
      · exact (R.sepF g hg).1 b
      · have := (row_bk R.fresh hg).choose_spec.lt
        omega
  · rcases kn k hk with a | a
    · exact h.hS k a hS
    · have := h.sz k hS
      omega

set_option maxRecDepth 100000 in
set_option maxHeartbeats 4000000 in
theorem swapP_any {w : World} {eb : Nat} {L : HL} {x : Nat → Value} {e : Eg} {g : Nat → Nat} {M : Mc} {N p : Nat} (h : EgL w eb L x e M N) (I : Inv e g) (hp : p < e.n) (F : FitE e N) (hN : N ≤ 150000) (hx : (e.ps p).nx = .swapIn) (hcp : L.cp p) :
    Calls Try.prog 54 #[ptr (L.qs p)] w fun r w' => ∃ L' M', GoDid w eb L x e (swapE e p) N p r w' L' M' := by
  have hmf : ∀ (fn : Fn) (first cap : Array Value) (w : World), (Instr.makeFunc fn first cap).run Try.prog w = .ok (.func fn first cap) w := fun _ _ _ _ => rfl
  have hn := F.n
  have IM := I.M p hp (.inr hx)
  have hlen := IM.len
  have hall := IM.all hx
  have hfrm := IM.frm
  have hcn := I.G.count
  have hlg := F.log
  have C := h.cop p hp hcp
  obtain ⟨ga, gc, hma, -⟩ := row_at C.last (by omega)
  obtain ⟨fa, fc, hmf2⟩ := row_form C.fresh
  obtain ⟨la, lc, hlv⟩ := row_form h.log
  obtain ⟨sa, sc, hmv⟩ : ∃ a c, L.mv p = .slice a (e.ps p).mst.L.length c := by
    obtain ⟨a, c, hv, _⟩ := C.st
    exact ⟨a, c, hv⟩
  obtain ⟨P, hP⟩ : ∃ P : Int, P = (p : Int) := ⟨_, rfl⟩
  obtain ⟨B, hB⟩ : ∃ B : Int, B = ((e.ps p).frm : Int) := ⟨_, rfl⟩
  obtain ⟨T, hT⟩ : ∃ T, T = (e.ps p).fresh.length := ⟨_, rfl⟩
  obtain ⟨R, hR⟩ : ∃ R : Int, R = ((e.ps p).mlast p).resp := ⟨_, rfl⟩
  rw [← hT] at hmf2 hlen
  obtain ⟨ok, hok⟩ : ∃ ok, ok = decide (e.count = (e.ps p).frm) := ⟨_, rfl⟩
  have hin0 : inM 0 M.len = true := decide_eq_true (by have := h.rel.len; omega)
  have HC : Hid (∀ W, Below w.heap.size w W → Calls Try.prog 57 #[ptr L.m, .int .i64 P, .int .i64 0, .int .i64 B, .int .i64 (B + (T : Int))] W fun r w' => r = .returned (.bool ok) ∧ MacL w' L.m L.mc L.ms (swapM M P 0 B (B + (T : Int))) (N + 2) ∧ Only (MachF L) W w') := hide fun W hb => by
    refine (swap_any (h.below hb).mac (by omega) P 0 B (B + (T : Int)) ⟨by omega, by omega⟩ ⟨by omega, by omega⟩ ⟨by omega, by omega⟩).mono fun r w' ⟨h1, h2, h3⟩ => ⟨?_, h2, h3⟩
    rw [h1, hin0, h.rel.cnt, Bool.true_and, hok]
    congr 2
    exact decide_eq_decide.2 (by omega)
  have HK : Hid (∀ W, Only (MachF L) w W → W.cell? ⟨L.qs p, 0, none⟩ = some (.int .i64 P) ∧ W.cell? ⟨L.qs p, 1, none⟩ = some (ptr L.l) ∧ W.cell? ⟨L.qs p, 9, none⟩ = some (.int .i64 B) ∧ W.cell? ⟨L.l, 1, none⟩ = some (ptr L.m) ∧ W.cell? ⟨L.l, 2, none⟩ = some (.int .i64 0)) := hide fun W ho => by
    obtain ⟨h1, h2⟩ := h.cells hp ho
    rw [hP, hB]
    exact ⟨(h1.cell 0 rfl).1, (h1.cell 1 rfl).1, (h1.cell 9 rfl).1, (h2.cell 1 rfl).1, (h2.cell 2 rfl).1⟩
  have HV : Hid (∀ W, Only (MachF L) w W → W.cell? ⟨L.qs p, 10, none⟩ = some (.int .i64 (e.ps p).mst.kind) ∧ W.cell? ⟨L.qs p, 11, none⟩ = some (.slice sa (e.ps p).mst.L.length sc) ∧ W.cell? ⟨L.qs p, 12, none⟩ = some (.bool (e.ps p).mst.shut) ∧ W.cell? ⟨L.qs p, 13, none⟩ = some (.int .i64 (e.ps p).mst.eng) ∧ W.cell? ⟨L.qs p, 14, none⟩ = some (.slice (some ⟨ga, 0, none⟩) e.n gc) ∧ W.cell? ⟨L.qs p, 15, none⟩ = some (.slice fa T fc)) := hide fun W ho => by
    have h1 := (h.cells hp ho).1
    rw [← hmv, ← hma, ← hmf2]
    exact ⟨(h1.cell 10 rfl).1, (h1.cell 11 rfl).1, (h1.cell 12 rfl).1, (h1.cell 13 rfl).1, (h1.cell 14 rfl).1, (h1.cell 15 rfl).1⟩
  have hw : IntKind.i64.wrap (B + (T : Int)) = B + (T : Int) := wrap_lit _ (by omega) (by omega)
  have HOW : Hid (∀ (F : Nat → Prop) (n : Nat), Only F w (w.drewN n)) := fun F n => (Only.refl F w).drewN n
  have HFAIL : Hid (ok = false → ∀ W r, MacL W L.m L.mc L.ms (swapM M P 0 B (B + (T : Int))) (N + 2) → Only (MachF L) w W → r = .returned (.func (.func 43) #[ptr (L.qs p)] #[]) → ∃ L' M', GoDid w eb L x e (swapE e p) N p r W L' M') := hide fun hf W r hm ho hr => by
    have hne : e.count ≠ (e.ps p).frm := by rw [hok] at hf; exact of_decide_eq_false hf
    have hsw : swapM M P 0 B (B + (T : Int)) = readM M (p : Int) := by
      rw [hP]
      exact accM_id (by show (if M.c 0 = B then B + (T : Int) else M.c 0) = M.c 0; rw [if_neg (by rw [h.rel.cnt, hB]; omega)])
    rw [hsw] at hm
    have e1 : swapE e p = { e with ps := putN e.ps p { e.ps p with nx := .copy, did := (e.ps p).did + 1 } } := by unfold swapE; rw [if_neg hne]
    have e2 : (swapE e p).ps p = { e.ps p with nx := .copy, did := (e.ps p).did + 1 } := by rw [e1]; exact putN_same _ _ _
    have g1 := h.macp (q' := { e.ps p with nx := .copy, did := (e.ps p).did + 1 }) ho hm (did_step h.rel hp rfl) (fun _ _ _ _ => rfl) rfl rfl rfl
    rw [← e1] at g1
    exact ⟨L, readM M (p : Int), ⟨by rw [hr, e2, nxV_ne _ (by nofun)]; rfl, g1, rfl, ho.mono MachF.has, fun k hk => .inl hk, fun k hk => .inl hk, fun _ _ _ hc => hc, by rw [e2]; nofun⟩⟩
  obtain ⟨q1, hq1⟩ : ∃ q1 : Pc, q1 = { e.ps p with did := (e.ps p).did + 1 } := ⟨_, rfl⟩
  obtain ⟨e1, he1⟩ : ∃ e1 : Eg, e1 = { e with count := (e.ps p).frm + T, ps := putN e.ps p q1 } := ⟨_, rfl⟩
  obtain ⟨e2, he2⟩ : ∃ e2 : Eg, e2 = { e with count := (e.ps p).frm + T, log := e.log ++ numb e.log.length (e.ps p).fresh, st := (e.ps p).mst, last := (e.ps p).mlast, ps := putN e.ps p q1 } := ⟨_, rfl⟩
  have H1 : Hid (ok = true → ∀ W V, MacL W L.m L.mc L.ms (swapM M P 0 B (B + (T : Int))) (N + 2) → Only (MachF L) w W → Below W.heap.size W V → EgL V eb L x e1 (swapM M P 0 B (B + (T : Int))) (N + 2) ∧ Only (HasE eb L e.n) w V) := hide fun ht W V hm ho hb => by
    have heq : e.count = (e.ps p).frm := by rw [hok] at ht; exact of_decide_eq_true ht
    refine ⟨?_, (ho.mono MachF.has).trans (Only.ofBelow (F := HasE eb L e.n) hb) fun _ _ k => k⟩
    rw [he1]
    refine (h.macd (e' := { e with count := (e.ps p).frm + T, ps := putN e.ps p q1 }) ho hm rfl rfl rfl rfl rfl (fun r hr => ?_) ?_).below hb
    · dsimp only
      by_cases a : r = p
      · subst a
        rw [putN_same, hq1]
        exact ⟨fun _ _ _ _ => rfl, rfl, rfl, rfl⟩
      · rw [putN_other _ _ a]
        exact ⟨fun _ _ _ _ => rfl, rfl, rfl, rfl⟩
    · rw [hP]
      refine h.rel.put (e' := { e with count := (e.ps p).frm + T, ps := putN e.ps p q1 }) (c := 0) (v := B + (T : Int)) hp hin0 rfl (by rw [if_pos rfl, hB]; show (((e.ps p).frm + T : Nat) : Int) = _; omega) (fun r hr => by rw [if_neg (by omega)]) (fun r hr => ?_) ?_ (fun z => if z = B then B + (T : Int) else z) (by rw [if_pos (by rw [h.rel.cnt, hB]; omega)])
      · show (putN e.ps p q1 r).did = _
        rw [putN_other _ _ hr]
      · show (putN e.ps p q1 p).did = _
        rw [putN_same, hq1]
  have e1p : e1.ps p = q1 := by rw [he1]; exact putN_same _ _ _
  have e1n : e1.n = e.n := by rw [he1]
  have e1l : e1.log = e.log := by rw [he1]
  have q1s : q1.mst = (e.ps p).mst ∧ q1.mlast = (e.ps p).mlast ∧ q1.fresh = (e.ps p).fresh := by rw [hq1]; exact ⟨rfl, rfl, rfl⟩
  have HE : Hid (∀ V, EgL V eb L x e1 (swapM M P 0 B (B + (T : Int))) (N + 2) → Calls Try.prog 58 #[ptr L.l, .agg #[.int .i64 (e.ps p).mst.kind, .slice sa (e.ps p).mst.L.length sc, .bool (e.ps p).mst.shut, .int .i64 (e.ps p).mst.eng, .slice (some ⟨ga, 0, none⟩) e.n gc, .slice fa T fc]] V fun r V2 => r = .returned (.tuple #[]) ∧
      ∃ L', EgL V2 eb L' x e2 (swapM M P 0 B (B + (T : Int))) (N + 2) ∧ L'.qs = L.qs ∧ L'.l = L.l ∧ L'.ma p = L.ma p ∧ L'.av = L.ma p ∧ (∀ r, r ≠ p → L.cp r → L'.cp r) ∧ (∀ k, HasE eb L' e.n k → HasE eb L e.n k ∨ V.heap.size ≤ k) ∧ (∀ k, L'.S k → L.S k) ∧ Only (HasE eb L e.n) V V2) := hide fun V hV => by
    have hlV := hV.list
    have hgV := hV.log
    have CV := hV.cop p (by rw [e1n]; exact hp) hcp
    have hTV := CV.fresh
    rw [hlv] at hlV hgV
    rw [hmf2, e1p, q1s.2.2] at hTV
    rw [e1l] at hgV
    refine (effect_raw (s' := (e.ps p).mst) (sa := sa) (sn := (e.ps p).mst.L.length) (sc := sc) (aa := some ⟨ga, 0, none⟩) (an := e.n) (ac := gc) hlV hgV rfl hTV hT (fun g hg => by
      have := (CV.sepF g (by rw [hmf2]; exact hg)).1
      rw [hlv] at this
      exact this) (by omega)).mono ?_
    rintro r V2 ⟨h1, lv', h2, h3, h4, h5⟩
    refine ⟨h1, ?_⟩
    obtain ⟨k1, k2⟩ := hV.effectd (p := p) (W := V2) (lv' := lv') (fa := fa) (fn := T) (fc := fc) (log' := e.log ++ numb e.log.length (e.ps p).fresh) (by rw [e1n]; exact hp) hcp (by rw [e1p, q1s.1, hmv, hma]; rw [e1n] at h2 ⊢; exact h2) h3 (by rw [hlv]; exact h4) (by rw [hlv]; exact h5)
    have e12 : ({ e1 with log := e.log ++ numb e.log.length (e.ps p).fresh, st := (e1.ps p).mst, last := (e1.ps p).mlast } : Eg) = e2 := by
      rw [e1p, q1s.1, q1s.2.1, he1, he2]
    rw [e12] at k1
    rw [e1n] at k2
    refine ⟨_, k1, rfl, rfl, rfl, rfl, fun r hr hc => ?_, k2, fun k hk => hk, h4.mono fun k hk => ?_⟩
    · dsimp only
      rw [putN_other _ _ hr]
      exact hc
    · rcases hk with hk | hk
      · rw [hk]; exact has_l eb L e.n
      · exact has_lv (by rw [hlv]; exact hk)
  have e2p : e2.ps p = q1 := by rw [he2]; exact putN_same _ _ _
  have HEN : Hid (∀ V2 L', EgL V2 eb L' x e2 (swapM M P 0 B (B + (T : Int))) (N + 2) → L'.qs = L.qs → L'.ma p = L.ma p → L'.av = L.ma p → Calls Try.prog 48 #[ptr (L.qs p)] V2 fun r w' => r = .returned .nilFunc ∧ ∃ k, w' = (V2.setCell ⟨L.qs p, 8, none⟩ (.int .i64 R)).drewN k) := hide fun V2 L' hV hqs h2 h3 => by
    have hq := hV.pr p (by rw [he2]; exact hp)
    rw [hqs, h2, hma] at hq
    have hr := hV.last
    rw [h3, hma] at hr
    have hc := World.ownsRow.cells hr (g := ga) rfl _ _ (anC_get e2.last (by rw [he2]; exact hp)).2
    rw [Addr.add_lit, Nat.zero_add] at hc
    have hR2 : (e2.last p).resp = R := by rw [he2, hR]
    rw [hR2] at hc
    exact endP_any hq rfl rfl hp _ rfl R hc
  have HF : Hid (ok = true → ∀ V V2 L' k r, Only (HasE eb L e.n) w V → EgL V2 eb L' x e2 (swapM M P 0 B (B + (T : Int))) (N + 2) → L'.qs = L.qs → (∀ r, r ≠ p → L.cp r → L'.cp r) → (∀ k, HasE eb L' e.n k → HasE eb L e.n k ∨ V.heap.size ≤ k) → (∀ k, L'.S k → L.S k) → Only (HasE eb L e.n) V V2 → r = .returned .nilFunc →
      ∃ L' M', GoDid w eb L x e (swapE e p) N p r ((V2.setCell ⟨L.qs p, 8, none⟩ (.int .i64 R)).drewN k) L' M') := hide fun ht V V2 L' k r o1 hV hqs hc hk hs o2 hr => by
    have heq : e.count = (e.ps p).frm := by rw [hok] at ht; exact of_decide_eq_true ht
    obtain ⟨g6, o6⟩ := hV.store (p := p) (by rw [he2]; exact hp) 8 (.int .i64 R) { q1 with nx := .rest, resp := R } (by rw [e2p]; rfl) (by rw [e2p]) (by rw [e2p]) (by rw [e2p]) (by rw [e2p])
    rw [hqs] at g6 o6
    have e3 : ({ e2 with ps := putN e2.ps p { q1 with nx := .rest, resp := R } } : Eg) = swapE e p := by
      unfold swapE
      rw [if_pos heq, he2, hq1, hR, hT]
      dsimp only
      rw [putN_putN]
    rw [e3] at g6
    have e4 : (swapE e p).ps p = { q1 with nx := .rest, resp := R } := by rw [← e3]; exact putN_same _ _ _
    have hg : GoDid w eb L x e (swapE e p) N p r (V2.setCell ⟨L.qs p, 8, none⟩ (.int .i64 R)) L' (swapM M P 0 B (B + (T : Int))) :=
      ⟨by rw [hr, e4, nxV_rest], g6, hqs, (o1.trans o2 fun _ _ k => k).trans o6 fun k _ hk => by rw [hk]; exact has_q eb L hp, fun k a => (hk k a).imp id fun b => Nat.le_trans o1.size b, fun k a => .inl (hs k a), fun r _ hn hcr => hc r hn hcr, by rw [e4]; nofun⟩
    exact ⟨L', _, hg.drewN k⟩
  obtain ⟨c0, c1, c9, d1, d2⟩ := HK.out w (Only.refl _ _)
  obtain ⟨v10, v11, v12, v13, v14, v15⟩ := HV.out w (Only.refl _ _)
  have HRF : Hid (∀ W : World, Below W.heap.size W W.drew) := fun W => (Below.refl _ W).drew
  generalize L.qs p = q at *
  generalize L.l = l at *
  generalize L.m = m at *
  clear h I F hn IM hlen hall hfrm hcn hlg C hma hmf2 hlv hmv hB hT hR hok hin0 hx hcp hN hq1 he1 he2 e1p e1n e1l q1s e2p
  generalize (e.ps p).mst = st at *
  generalize e.n = n at *
  subst hP
  go_enter Try.func54, Try.ntmps54
  go_upto_region 1 with fail
  go_quiet (fail)
  go_upto_region 2 with fail
  obtain ⟨V0, hV0⟩ : ∃ V0, V0 = w.drewN nq := ⟨_, rfl⟩
  have HO0 : Hid (Only (MachF L) w V0.drew) := hide (by rw [hV0]; exact ((HOW.out (MachF L) nq).drewN 1))
  have HB0 : Hid (Below w.heap.size w V0.drew) := hide (by rw [hV0]; exact (below_drewN (Below.refl _ w) nq).drew)
  have HO00 : Hid (Only (MachF L) w V0) := hide (by rw [hV0]; exact HOW.out (MachF L) nq)
  rw [← hV0]
  clear c0 c1 c9 d1 d2 v10 v11 v12 v13 v14 v15 hV0
  obtain ⟨c0, c1, c9, d1, d2⟩ := HK.out V0 HO00.out
  go_region_held (fun W => W.cell? ⟨q, 0, none⟩ = some (.int .i64 (p : Int)) ∧ W.cell? ⟨q, 1, none⟩ = some (ptr l) ∧ W.cell? ⟨q, 9, none⟩ = some (.int .i64 B) ∧ W.cell? ⟨l, 1, none⟩ = some (ptr m) ∧ W.cell? ⟨l, 2, none⟩ = some (.int .i64 0))
    (first | (with_reducible exact HK.out _ HO0.out) | (with_reducible exact HK.out _ HO1.out))
    (first | (go_at_call 57; refine (HC.out _ HB0.out).mono ?_; rintro r W1 ⟨rfl, hm1, ho1⟩; have HM1 := hide hm1; have HO1 := hide (HO0.out.trans ho1 fun _ _ h => h); clear hm1 ho1))
  all_goals
    clear c0 c1 c9 d1 d2
    cases ok with
    | false =>
      go_wp2
      go_ret
      exact HFAIL.out (by first | rfl | trivial) _ _ HM1.out HO1.out rfl
    | true =>
      have HE1 := hide (H1.out rfl W1 W1.drew HM1.out HO1.out (HRF.out W1))
      obtain ⟨-, k1, -, -, -⟩ := HK.out _ HO1.out
      obtain ⟨v10, v11, v12, v13, v14, v15⟩ := HV.out _ HO1.out
      go_upto_region 4 with fail
      go_region_with
        (first | (go_at_call 58; refine (HE.out _ HE1.out.1).mono ?_; rintro r V2 ⟨rfl, L', hV2, hqs, hl2, hma2, hav2, hc2, hk2, hs2, ho2⟩; have HV2 := hide hV2; have HX2 := hide (And.intro hqs (And.intro hma2 hav2)); have HY2 := hide (And.intro hc2 (And.intro hk2 (And.intro hs2 ho2))); clear hV2 hqs hl2 hma2 hav2 hc2 hk2 hs2 ho2))
      all_goals
        go_wp2_with fail
        refine Calls.mono (HEN.out _ L' HV2.out HX2.out.1 HX2.out.2.1 HX2.out.2.2) ?_
        rintro r w' ⟨rfl, k, rfl⟩
        go_wp2
        go_ret
        exact HF.out (by first | rfl | trivial) W1.drew V2 L' k _ HE1.out.2 HV2.out HX2.out.1 HY2.out.1 HY2.out.2.1 HY2.out.2.2.1 HY2.out.2.2.2 rfl

/-- A process's next step, whichever it is. -/
theorem goP_any {w : World} {eb : Nat} {L : HL} {x : Nat → Value} {e : Eg} {g : Nat → Nat} {M : Mc} {N p : Nat} (h : EgL w eb L x e M N) (I : Inv e g) (hp : p < e.n) (F : FitE e N) (hN : N ≤ 150000) (hx : (e.ps p).nx ≠ .rest) (hc : (e.ps p).nx = .readAnn ∨ (e.ps p).nx = .swapIn → L.cp p) :
    Calls Try.prog (fnOf (e.ps p).nx) #[ptr (L.qs p)] w fun r w' => ∃ L' M', GoDid w eb L x e (goE e p) N p r w' L' M' := by
  unfold goE
  split <;> rename_i hx'
  · exact absurd hx' hx
  · rw [hx']; exact announceP_any h I hp F hN hx'
  · rw [hx']; exact copyP_any h I hp F hN
  · rw [hx']; exact readAnnP_any h I hp F hN hx' (hc (.inl hx'))
  · rw [hx']; exact swapP_any h I hp F hN hx' (hc (.inr hx'))

end Go.Proofs.Ytedfacbngefhnaa
