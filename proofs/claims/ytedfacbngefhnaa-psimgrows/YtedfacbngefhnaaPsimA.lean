/- The engine that copies: a process's accesses; it announces. -/
import Derived.Test.YtedfacbngefhnaaPsimBase
import Derived.Deep.RegionHeld
import Derived.Deep.RegionHeld2
import Derived.Deep.QuietTactic
import Derived.BigQuiet
import Derived.BigRegion
import Derived.Deep.RegionWith
namespace Go.Proofs.Ytedfacbngefhnaa
open Go.RowKit Go.Maps

/-- The machine's own blocks. -/
abbrev MachF (L : HL) (k : Nat) : Prop := k = L.mc ∨ k = L.ms

theorem has_l (eb : Nat) (L : HL) (n : Nat) : HasE eb L n L.l := ⟨1, rfl⟩

theorem has_q (eb : Nat) (L : HL) {n p : Nat} (hp : p < n) : HasE eb L n (L.qs p) := ⟨5, p, hp, rfl⟩

theorem MachF.has {eb n : Nat} {L : HL} : ∀ k, MachF L k → HasE eb L n k := fun _ hk => hk.elim (fun h => ⟨3, h⟩) fun h => ⟨4, h⟩

/-- What the machine's calls leave. -/
theorem EgL.mach {w W : World} {eb : Nat} {L : HL} {x : Nat → Value} {e : Eg} {M : Mc} {N : Nat} (h : EgL w eb L x e M N) (ho : Only (MachF L) w W) : Kept (fun t => t = 3 ∨ t = 4) W eb L x e M N :=
  h.keeps ho fun _ g => .inl (g.elim (fun g => ⟨3, .inl rfl, g⟩) fun g => ⟨4, .inr rfl, g⟩)

theorem EgL.cells {w W : World} {eb : Nat} {L : HL} {x : Nat → Value} {e : Eg} {M : Mc} {N p : Nat} (h : EgL w eb L x e M N) (hp : p < e.n) (ho : Only (MachF L) w W) :
    Bk 71 W (L.qs p) (pcC L.l p (x p) (L.mv p) (L.ma p) (L.mf p) (e.ps p)) ∧ Bk 76 W L.l (lsC e.n L.m L.sv L.av L.fv L.ov L.lv e.st) :=
  ⟨(h.mach ho).pr (by decide) p hp, (h.mach ho).list (by decide)⟩

set_option maxRecDepth 100000 in
set_option maxHeartbeats 1000000 in
theorem readP_any {w : World} {eb : Nat} {L : HL} {x : Nat → Value} {e : Eg} {M : Mc} {N p : Nat} (h : EgL w eb L x e M N) (hp : p < e.n) (hn : e.n ≤ 64) (hN : N ≤ 150000) (cell X : Int) (hc : I64 cell) (hX : M.c cell = X) :
    Calls Try.prog 46 #[ptr (L.qs p), .int .i64 cell] w fun r w' => r = .returned (.int .i64 X) ∧ MacL w' L.m L.mc L.ms (readM M (p : Int)) (N + 2) ∧ Only (MachF L) w w' := by
  subst hX
  have hpi : I64 (p : Int) := i64_nat (by omega)
  obtain ⟨P, hP⟩ : ∃ P : Int, P = (p : Int) := ⟨_, rfl⟩
  rw [← hP] at hpi ⊢
  obtain ⟨q, hq⟩ : ∃ q, q = L.qs p := ⟨_, rfl⟩
  rw [← hq]
  have HC : Hid (∀ W, Below w.heap.size w W → Calls Try.prog 51 #[ptr L.m, .int .i64 P, .int .i64 cell] W fun e w' => e = .returned (.int .i64 (M.c cell)) ∧ MacL w' L.m L.mc L.ms (readM M P) (N + 2) ∧ Only (MachF L) W w') :=
    hide fun W hb => read_any ((h.below hb).mac) (by omega) P cell hpi hc
  have HK : Hid (∀ W, Only (MachF L) w W → W.cell? ⟨q, 0, none⟩ = some (.int .i64 P) ∧ W.cell? ⟨q, 1, none⟩ = some (ptr L.l) ∧ W.cell? ⟨L.l, 1, none⟩ = some (ptr L.m)) := hide fun W ho => by
    obtain ⟨h3, h2⟩ := h.cells hp ho
    rw [← hq] at h3
    exact ⟨by rw [hP]; exact (h3.cell 0 rfl).1, (h3.cell 1 rfl).1, (h2.cell 1 rfl).1⟩
  obtain ⟨l, hl⟩ : ∃ l, l = L.l := ⟨_, rfl⟩
  obtain ⟨m, hm⟩ : ∃ m, m = L.m := ⟨_, rfl⟩
  rw [← hl, ← hm] at HK
  rw [← hm] at HC ⊢
  generalize M.c cell = X at *
  have HO0 := hide (only_drew (MachF L) w)
  have HB0 := hide ((Below.refl w.heap.size w).drew)
  obtain ⟨c0, c1, c2⟩ := HK.out w (Only.refl _ _)
  clear h hp hn hN hc hpi hP hq hl hm
  go_enter Try.func46, Try.ntmps46
  go_wp2
  go_region_held (fun W => W.cell? ⟨q, 0, none⟩ = some (.int .i64 P) ∧ W.cell? ⟨q, 1, none⟩ = some (ptr l) ∧ W.cell? ⟨l, 1, none⟩ = some (ptr m))
    (first | (with_reducible exact HK.out _ HO0.out) | (with_reducible exact HK.out _ HO1.out))
    (first | (go_at_call 51; refine (HC.out _ HB0.out).mono ?_; rintro e W1 ⟨rfl, hm1, ho1⟩; have HM1 := hide hm1; have HO1 := hide (HO0.out.trans ho1 fun _ _ h => h); clear hm1 ho1))
  all_goals
    go_wp2
    go_ret
    exact ⟨rfl, HM1.out, HO1.out⟩

/-- What a step leaves. -/
structure GoDid (w : World) (eb : Nat) (L : HL) (x : Nat → Value) (e e' : Eg) (N p : Nat) (r : Ending) (w' : World) (L' : HL) (M' : Mc) : Prop where
  ret : r = .returned (nxV (L.qs p) (e'.ps p).nx)
  eng : EgL w' eb L' x e' M' (N + 2)
  qs : L'.qs = L.qs
  only : Only (HasE eb L e.n) w w'
  has : ∀ k, HasE eb L' e.n k → HasE eb L e.n k ∨ w.heap.size ≤ k
  num : ∀ k, L'.S k → L.S k ∨ w.heap.size ≤ k
  cp : ∀ r, r < e.n → r ≠ p → L.cp r → L'.cp r
  own : (e'.ps p).nx = .readAnn ∨ (e'.ps p).nx = .swapIn → L'.cp p

theorem GoDid.drewN {w : World} {eb : Nat} {L : HL} {x : Nat → Value} {e e' : Eg} {N p : Nat} {r : Ending} {w' : World} {L' : HL} {M' : Mc} (h : GoDid w eb L x e e' N p r w' L' M') (n : Nat) : GoDid w eb L x e e' N p r (w'.drewN n) L' M' :=
  ⟨h.ret, h.eng.below (below_drewN (Below.refl _ _) n), h.qs, h.only.drewN n, h.has, h.num, h.cp, h.own⟩

/-- The row of operations. -/
theorem EgL.opsd {w : World} {eb : Nat} {L : HL} {x : Nat → Value} {e : Eg} {M : Mc} {N p : Nat} (h : EgL w eb L x e M N) (hp : p < e.n) (o : Opn) {g c : Nat} (hov : L.ov = .slice (some ⟨g, 0, none⟩) e.n c) :
    EgL (((w.setCell ⟨g, p * 3, none⟩ (.int .i64 o.code)).setCell ⟨g, p * 3 + 1, none⟩ (.int .i64 o.a)).setCell ⟨g, p * 3 + 2, none⟩ (.int .i64 o.b)) eb L x { e with ops := putN e.ops p o } M N ∧
      Only (HasE eb L e.n) w (((w.setCell ⟨g, p * 3, none⟩ (.int .i64 o.code)).setCell ⟨g, p * 3 + 1, none⟩ (.int .i64 o.a)).setCell ⟨g, p * 3 + 2, none⟩ (.int .i64 o.b)) := by
  have hg : Kd eb L e.n 7 g := by show L.ov.ownBlock = some g; rw [hov]; rfl
  have ho : Only (fun k => k = g) w (((w.setCell ⟨g, p * 3, none⟩ (.int .i64 o.code)).setCell ⟨g, p * 3 + 1, none⟩ (.int .i64 o.a)).setCell ⟨g, p * 3 + 2, none⟩ (.int .i64 o.b)) :=
    (((Only.refl (fun k => k = g) w).setCell _ (fun _ => rfl) _).setCell _ (fun _ => rfl) _).setCell _ (fun _ => rfl) _
  have K := h.keeps (T := fun t => t = 7) ho fun k a => .inl ⟨7, rfl, by rw [show k = g from a]; exact hg⟩
  refine ⟨⟨K.head (by decide), K.procs (by decide), K.list (by decide), ?_, K.last (by decide), K.log (by decide), K.st, K.mac (by decide) (by decide) (by decide), K.pr (by decide), h.inj, h.stn, fun p hp hc => ⟨K.clast (by decide) p hp hc, K.cfresh (by decide) p hp hc, K.cst p hp hc, (h.cop p hp hc).stn, (h.cop p hp hc).sepA, (h.cop p hp hc).sepF⟩, fun k hk => Nat.lt_of_lt_of_le (h.sz k hk) ho.size, h.hS, ⟨h.rel.procs, h.rel.len, h.rel.cnt, h.rel.ann, h.rel.s⟩⟩, ho.mono fun k a => ⟨7, by rw [show k = g from a]; exact hg⟩⟩
  have h0 := h.ops
  rw [hov] at h0
  have h1 := ((((World.ownsRow.stored h0 (p * 3) (.int .i64 o.code)).1).stored (p * 3 + 1) (.int .i64 o.a)).1.stored (p * 3 + 2) (.int .i64 o.b)).1
  dsimp only
  rw [← opC_set e.ops hp o, hov]
  exact h1

set_option maxRecDepth 100000 in
set_option maxHeartbeats 2000000 in
theorem announceP_any {w : World} {eb : Nat} {L : HL} {x : Nat → Value} {e : Eg} {g : Nat → Nat} {M : Mc} {N p : Nat} (h : EgL w eb L x e M N) (_I : Inv e g) (hp : p < e.n) (F : FitE e N) (hN : N ≤ 150000) (hx : (e.ps p).nx = .announce) :
    Calls Try.prog 38 #[ptr (L.qs p)] w fun r w' => ∃ L' M', GoDid w eb L x e (announceE e p) N p r w' L' M' := by
  have hmf : ∀ (fn : Fn) (first cap : Array Value) (w : World), (Instr.makeFunc fn first cap).run Try.prog w = .ok (.func fn first cap) w := fun _ _ _ _ => rfl
  have hn := F.n
  have hsq := F.seq p hp
  obtain ⟨P, hP⟩ : ∃ P : Int, P = (p : Int) := ⟨_, rfl⟩
  obtain ⟨T, hT⟩ : ∃ T : Int, T = ((e.ps p).seq : Int) := ⟨_, rfl⟩
  obtain ⟨co, oa, ob, hop⟩ : ∃ co oa ob, (e.ps p).op = ⟨co, oa, ob⟩ := ⟨_, _, _, rfl⟩
  have hpi : I64 P := by rw [hP]; exact i64_nat (by omega)
  have HC : Hid (∀ W, Below w.heap.size w W → Calls Try.prog 42 #[ptr L.m, .int .i64 P, .int .i64 (1 + P), .int .i64 T] W fun r w' => r = .returned (.tuple #[]) ∧ MacL w' L.m L.mc L.ms (writeM M P (1 + P) T) (N + 2) ∧ Only (MachF L) W w') := hide fun W hb =>
    write_any ((h.below hb).mac) (by omega) P (1 + P) T hpi ⟨by omega, by omega⟩ (by rw [hT]; exact i64_nat (by omega))
  obtain ⟨ga, gc, hov, hoc⟩ := row_at h.ops (by omega)
  have HK : Hid (∀ W, Only (MachF L) w W → W.cell? ⟨L.qs p, 0, none⟩ = some (.int .i64 P) ∧ W.cell? ⟨L.qs p, 1, none⟩ = some (ptr L.l) ∧ W.cell? ⟨L.qs p, 4, none⟩ = some (.int .i64 T) ∧ W.cell? ⟨L.l, 1, none⟩ = some (ptr L.m) ∧ W.cell? ⟨L.l, 3, none⟩ = some (.int .i64 1)) := hide fun W ho => by
    obtain ⟨h1, h2⟩ := h.cells hp ho
    rw [hP, hT]
    exact ⟨(h1.cell 0 rfl).1, (h1.cell 1 rfl).1, (h1.cell 4 rfl).1, (h2.cell 1 rfl).1, (h2.cell 3 rfl).1⟩
  have HV : Hid (∀ W, Only (MachF L) w W → W.cell? ⟨L.qs p, 5, none⟩ = some (.int .i64 co) ∧ W.cell? ⟨L.qs p, 6, none⟩ = some (.int .i64 oa) ∧ W.cell? ⟨L.qs p, 7, none⟩ = some (.int .i64 ob) ∧ W.cell? ⟨L.l, 10, none⟩ = some (.slice (some ⟨ga, 0, none⟩) e.n gc) ∧
      (W.frozen? ⟨ga, p * 3, none⟩ = false ∧ ∃ z, W.cell? ⟨ga, p * 3, none⟩ = some z) ∧ (W.frozen? ⟨ga, p * 3 + 1, none⟩ = false ∧ ∃ z, W.cell? ⟨ga, p * 3 + 1, none⟩ = some z) ∧ (W.frozen? ⟨ga, p * 3 + 2, none⟩ = false ∧ ∃ z, W.cell? ⟨ga, p * 3 + 2, none⟩ = some z)) := hide fun W ho => by
    obtain ⟨h1, h2⟩ := h.cells hp ho
    have h3 := (h.mach ho).ops (by decide)
    obtain ⟨a0, a1, a2⟩ := opC_get e.ops hp
    rw [hov] at h3
    obtain ⟨cs, hb⟩ := row_bk h3 (g := ga) rfl
    have hc := World.ownsRow.cells h3 (g := ga) rfl
    have fr : ∀ j, W.frozen? ⟨ga, j, none⟩ = false := fun j => frozen_of_row W ga j _ _ hb
    have ce : ∀ j u, (opC e.ops e.n)[j]? = some u → ∃ z, W.cell? ⟨ga, j, none⟩ = some z := fun j u hu => ⟨u, by have := hc j u hu; rw [Addr.add_lit, Nat.zero_add] at this; exact this⟩
    refine ⟨(h1.cell 5 (by show some (Value.int .i64 (e.ps p).op.code) = _; rw [hop])).1, (h1.cell 6 (by show some (Value.int .i64 (e.ps p).op.a) = _; rw [hop])).1, (h1.cell 7 (by show some (Value.int .i64 (e.ps p).op.b) = _; rw [hop])).1, by rw [← hov]; exact (h2.cell 10 rfl).1, ⟨fr _, ce _ _ a0⟩, ⟨fr _, ce _ _ a1⟩, ⟨fr _, ce _ _ a2⟩⟩
  have HEND : Hid (∀ W r, MacL W L.m L.mc L.ms (writeM M P (1 + P) T) (N + 2) → Only (MachF L) w W → r = .returned (.func (.func 43) #[ptr (L.qs p)] #[]) →
      ∃ L' M', GoDid w eb L x e (announceE e p) N p r (((W.setCell ⟨ga, p * 3, none⟩ (.int .i64 co)).setCell ⟨ga, p * 3 + 1, none⟩ (.int .i64 oa)).setCell ⟨ga, p * 3 + 2, none⟩ (.int .i64 ob)) L' M') := hide fun W r hm ho hr => by
    have hrel : HRel ({ announceE e p with ops := e.ops } : Eg) (writeM M P (1 + P) T) := by
      rw [hP]
      refine h.rel.put (e' := { announceE e p with ops := e.ops }) (c := 1 + (p : Int)) (v := T) hp (decide_eq_true (by have := h.rel.len; omega)) rfl (by rw [if_neg (by omega)]; rfl) (fun r hr => ?_) (fun r hr => ?_) ?_ (fun _ => T) rfl
      · show ((putN e.ann p (e.ps p).seq r : Nat) : Int) = _
        by_cases a : r = p
        · rw [a, putN_same, if_pos rfl, hT]
        · rw [putN_other _ _ a, if_neg (by omega)]
      · show (putN e.ps p _ r).did = _
        rw [putN_other _ _ hr]
      · show (putN e.ps p _ p).did = _
        rw [putN_same]
    have h1 := h.macd (e' := { announceE e p with ops := e.ops }) ho hm rfl rfl rfl rfl rfl (fun r hr' => by
      show (∀ y mv av fv, pcC L.l r y mv av fv (putN e.ps p _ r) = _) ∧ (putN e.ps p _ r).mlast = _ ∧ (putN e.ps p _ r).fresh = _ ∧ (putN e.ps p _ r).mst = _
      by_cases a : r = p
      · subst a
        rw [putN_same]
        exact ⟨fun _ _ _ _ => rfl, rfl, rfl, rfl⟩
      · rw [putN_other _ _ a]
        exact ⟨fun _ _ _ _ => rfl, rfl, rfl, rfl⟩) hrel
    obtain ⟨h2, o2⟩ := h1.opsd (p := p) hp ⟨co, oa, ob⟩ hov
    refine ⟨L, writeM M P (1 + P) T, ⟨?_, ?_, rfl, (ho.mono MachF.has).trans o2 fun _ _ k => k, fun k hk => .inl hk, fun k hk => .inl hk, fun _ _ _ hc => hc, ?_⟩⟩
    · rw [hr]
      show _ = Ending.returned (nxV (L.qs p) (putN e.ps p _ p).nx)
      rw [putN_same, nxV_ne _ (by nofun)]
      rfl
    · have e1 : ({ ({ announceE e p with ops := e.ops } : Eg) with ops := putN ({ announceE e p with ops := e.ops } : Eg).ops p ⟨co, oa, ob⟩ } : Eg) = announceE e p := by
        unfold announceE
        rw [hop]
      rw [e1] at h2
      exact h2
    · show (putN e.ps p _ p).nx = _ ∨ (putN e.ps p _ p).nx = _ → _
      rw [putN_same]
      nofun
  have hpk : P < (e.n : Int) := by omega
  have hw : IntKind.i64.wrap (1 + P) = 1 + P := wrap_lit _ (by omega) (by omega)
  obtain ⟨c0, c1, c4, d1, d3⟩ := HK.out w (Only.refl _ _)
  have HO0 := hide (only_drew (MachF L) w)
  have HB0 := hide ((Below.refl w.heap.size w).drew)
  generalize L.qs p = q at *
  generalize L.l = l at *
  generalize L.m = m at *
  generalize e.n = n at *
  clear h F hn hsq hT hop hpi hov hoc hx
  subst hP
  go_enter Try.func38, Try.ntmps38
  go_wp2
  go_region_held (fun W => W.cell? ⟨q, 0, none⟩ = some (.int .i64 (p : Int)) ∧ W.cell? ⟨q, 1, none⟩ = some (ptr l) ∧ W.cell? ⟨q, 4, none⟩ = some (.int .i64 T) ∧ W.cell? ⟨l, 1, none⟩ = some (ptr m) ∧ W.cell? ⟨l, 3, none⟩ = some (.int .i64 1))
    (first | (with_reducible exact HK.out _ HO0.out) | (with_reducible exact HK.out _ HO1.out))
    (first | (go_at_call 42; refine (HC.out _ HB0.out).mono ?_; rintro r W1 ⟨rfl, hm1, ho1⟩; have HM1 := hide hm1; have HO1 := hide (HO0.out.trans ho1 fun _ _ h => h); clear hm1 ho1))
  all_goals
    clear c0 c1 c4 d1 d3
    obtain ⟨k0, k1, -, -, -⟩ := HK.out _ HO1.out
    obtain ⟨k5, k6, k7, k10, ⟨f0, z0, hz0⟩, ⟨f1, z1, hz1⟩, f2, z2, hz2⟩ := HV.out _ HO1.out
    go_upto_region 2 with fail
    go_region
    all_goals
      go_wp2
      go_ret
      obtain ⟨L', M', hd⟩ := HEND.out _ _ HM1.out HO1.out rfl
      exact ⟨L', M', hd.drewN 1⟩

end Go.Proofs.Ytedfacbngefhnaa
