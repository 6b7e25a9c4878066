/- Herlihy's engine: the steps that tell what the process itself has, and what it reads. -/
import Derived.Test.YtiofhmlkgieclaaHerlA
namespace Go.Proofs.Ytiofhmlkgieclaa
open Go.RowKit Go.Maps

theorem nxV_ne (q : Nat) {x : Nx} (h : x ≠ .rest) : nxV q x = .func (.func (fnOf x)) #[ptr q] #[] := if_neg h

theorem nxV_rest (q : Nat) : nxV q .rest = .nilFunc := if_pos rfl

/-- What a process's step leaves, ahead of telling what comes next. -/
def StepDid (w : World) (eb : Nat) (L : HL) (x : Nat → Value) (e' : Eg) (N p : Nat) (r : Ending) (w' : World) : Prop :=
  ∃ M', r = .returned (nxV (L.qs p) (e'.ps p).nx) ∧ EgL w' eb L x e' M' (N + 2) ∧ Only (StepF L p) w w'

theorem StepDid.of {w W W' : World} {eb : Nat} {L : HL} {x : Nat → Value} {e e' : Eg} {M M' : Mc} {N p : Nat} {q' : Pc} {r : Ending} (h : EgL w eb L x e M N) (hp : p < e.n) (hm : MacL W L.m L.mc L.ms M' (N + 2)) (ho : Only (MachF L) w W)
    (hW : Only (fun k => k = L.qs p) W W') (hq : Bk 68 W' (L.qs p) (pcC L.l p (x p) q')) (h1 : e'.n = e.n) (h2 : e'.nodes = e.nodes) (h3 : e'.log = e.log) (h4 : e'.st = e.st) (h5 : e'.ps = putN e.ps p q')
    (hr : HRel e' M') (hret : r = .returned (nxV (L.qs p) q'.nx)) : StepDid w eb L x e' N p r W' := by
  have A := h.apt
  have o1 : Only (StepF L p) w W' := (ho.mono fun k hk => hk.elim .inl fun h => .inr (.inl h)).trans hW fun k _ hk => .inr (.inr hk)
  have m := A.m_ p hp
  refine ⟨M', by rw [h5, putN_same]; exact hret, h.own hp o1 (hm.keep (hW.block _ hm.head.lt m.1.symm) (hW.block _ hm.cells.lt m.2.1.symm) (hW.block _ hm.steps.lt m.2.2.symm)) hq (fun _ _ => rfl) h1 h2 h3 h4 h5 hr, o1⟩

theorem EgL.cells {w W : World} {eb : Nat} {L : HL} {x : Nat → Value} {e : Eg} {M : Mc} {N p : Nat} (h : EgL w eb L x e M N) (hp : p < e.n) (ho : Only (MachF L) w W) : Bk 68 W (L.qs p) (pcC L.l p (x p) (e.ps p)) ∧ Bk 73 W L.l (lsC e.n L.m L.nv L.lv L.sv e.st) :=
  ⟨(h.mach ho).2.2 p hp, (h.mach ho).2.1⟩

/-- A node's cells. -/
theorem EgL.node {w W : World} {eb : Nat} {L : HL} {x : Nat → Value} {e : Eg} {M : Mc} {N k : Nat} (h : EgL w eb L x e M N) (hk : k < e.nodes.length) (ho : Only (MachF L) w W) :
    ∃ g c, L.nv = .slice (some ⟨g, 0, none⟩) e.nodes.length c ∧ W.cell? ⟨g, k * 7 + 5, none⟩ = some (.int .i64 (2 * (e.n : Int) + 2 * (k : Int))) ∧ W.cell? ⟨g, k * 7 + 6, none⟩ = some (.int .i64 (2 * (e.n : Int) + 2 * (k : Int) + 1)) := by
  have A := h.apt
  have hn : W.ownsRow 0 86 7 L.nv e.nodes.length (ndCells e.n 0 e.nodes) := ownsRow_keep h.nodes fun g hg => ho.block _ (row_bk h.nodes hg).choose_spec.lt fun f => (A.eb_ g (f.imp id .inl)).2.2.2.1 hg
  obtain ⟨g, c, hv, hc⟩ := row_at hn (by omega)
  refine ⟨g, c, hv, hc _ _ ?_, hc _ _ ?_⟩
  · rw [ndCells_get e.n 0 e.nodes k 5 hk (by omega), Nat.zero_add]
    rfl
  · rw [ndCells_get e.n 0 e.nodes k 6 hk (by omega), Nat.zero_add]
    rfl

theorem wrap_lit (n : Int) (h0 : 0 ≤ n) (h1 : n ≤ 1000000000) : IntKind.i64.wrap n = n := mwrap n (by omega) (by omega)

set_option maxRecDepth 100000 in
set_option maxHeartbeats 1000000 in
theorem announceP_any {w : World} {eb : Nat} {L : HL} {x : Nat → Value} {e : Eg} {g : Gh} {M : Mc} {N p : Nat} (h : EgL w eb L x e M N) (I : Inv e g) (hp : p < e.n) (F : FitE e N) (hN : N ≤ 1000000) (hx : (e.ps p).nx = .announce) :
    Calls Try.prog 39 #[ptr (L.qs p)] w fun r w' => StepDid w eb L x (announceE e p) N p r w' := by
  have hmf : ∀ (fn : Fn) (first cap : Array Value) (w : World), (Instr.makeFunc fn first cap).run Try.prog w = .ok (.func fn first cap) w := fun _ _ _ _ => rfl
  have hown := (I.N.own p hp (by rw [hx]; nofun)).2.1
  have hn := F.n
  have hnl := F.nodes
  obtain ⟨P, hP⟩ : ∃ P : Int, P = (p : Int) := ⟨_, rfl⟩
  obtain ⟨O, hO⟩ : ∃ O : Int, O = ((e.ps p).own : Int) := ⟨_, rfl⟩
  have HC : Hid (∀ W, Below w.heap.size w W → Calls Try.prog 43 #[ptr (L.qs p), .int .i64 P, .int .i64 O] W fun r w' => r = .returned (.tuple #[]) ∧ MacL w' L.m L.mc L.ms (writeM M P P O) (N + 2) ∧ Only (MachF L) W w') := hide fun W hb => by
    rw [hP, hO]
    exact writeP_any (h.below hb) hp hn hN _ _ (i64_nat (by omega)) (i64_nat (by omega))
  have HQ : Hid (∀ W, Only (MachF L) w W → Bk 68 W (L.qs p) (pcC L.l p (x p) (e.ps p))) := hide fun W ho => (h.cells hp ho).1
  have HK : Hid (∀ W, Only (MachF L) w W → W.cell? ⟨L.qs p, 0, none⟩ = some (.int .i64 P) ∧ W.cell? ⟨L.qs p, 1, none⟩ = some (ptr L.l) ∧ W.cell? ⟨L.qs p, 6, none⟩ = some (.int .i64 O) ∧ W.cell? ⟨L.l, 2, none⟩ = some (.int .i64 0)) := hide fun W ho => by
    obtain ⟨h1, h2⟩ := h.cells hp ho
    rw [hP, hO]
    exact ⟨(h1.cell 0 rfl).1, (h1.cell 1 rfl).1, (h1.cell 6 rfl).1, (h2.cell 2 rfl).1⟩
  have HEND : Hid (∀ W r, MacL W L.m L.mc L.ms (writeM M P P O) (N + 2) → Only (MachF L) w W → r = .returned (.func (.func 44) #[ptr (L.qs p)] #[]) → StepDid w eb L x (announceE e p) N p r (W.setCell ⟨L.qs p, 9, none⟩ (.int .i64 0))) := hide fun W r hm ho hr => by
    refine StepDid.of h hp hm ho ((Only.refl (fun k => k = L.qs p) W).setCell 9 (fun _ => rfl) _) ((h.cells hp ho).1.set 9 _) rfl rfl rfl rfl rfl ?_ (by rw [hr, nxV_ne _ (by nofun)]; rfl)
    rw [hP]
    refine h.rel.put (e' := announceE e p) (c := (p : Int)) (v := O) hp (decide_eq_true (by have := h.rel.len; omega)) rfl rfl (fun r hr => ?_) (fun r hr => by rw [if_neg (by omega)]; rfl) (fun k hk => by rw [if_neg (by omega)]; rfl) (fun k hk => by rw [if_neg (by omega)]; rfl) (fun r hr => ?_) ?_ (fun _ => O) rfl
    · show ((putN e.ann p (e.ps p).own r : Nat) : Int) = _
      by_cases a : r = p
      · rw [a, putN_same, if_pos rfl, hO]
      · rw [putN_other _ _ a, if_neg (by omega)]
    · show (putN e.ps p _ r).did = _
      rw [putN_other _ _ hr]
    · show (putN e.ps p _ p).did = _
      rw [putN_same]
  have hw0 : IntKind.i64.wrap P = P := wrap_lit P (by omega) (by omega)
  have hw : IntKind.i64.wrap (0 + P) = P := by rw [Int.zero_add]; exact hw0
  obtain ⟨c0, c1, c6, d2⟩ := HK.out w (Only.refl _ _)
  have HO0 := hide (only_drew (MachF L) w)
  have HB0 := hide ((Below.refl w.heap.size w).drew)
  generalize L.qs p = q at *
  generalize L.l = l at *
  clear h I F hown hn hnl hP hO hx
  go_enter Try.func39, Try.ntmps39
  go_wp2
  go_region_held (fun W => W.cell? ⟨q, 0, none⟩ = some (.int .i64 P) ∧ W.cell? ⟨q, 1, none⟩ = some (ptr l) ∧ W.cell? ⟨q, 6, none⟩ = some (.int .i64 O) ∧ W.cell? ⟨l, 2, none⟩ = some (.int .i64 0))
    (first | (with_reducible exact HK.out _ HO0.out) | (with_reducible exact HK.out _ HO1.out))
    (first | (go_at_call 43; refine (HC.out _ HB0.out).mono ?_; rintro r W1 ⟨rfl, hm1, ho1⟩; have HM1 := hide hm1; have HO1 := hide (HO0.out.trans ho1 fun _ _ h => h); clear hm1 ho1))
  all_goals
    obtain ⟨k9, y9⟩ := (HQ.out _ HO1.out).cell 9 rfl
    go_wp2
    go_ret
    exact HEND.out _ _ HM1.out HO1.out rfl

set_option maxRecDepth 100000 in
set_option maxHeartbeats 1000000 in
theorem readHeadP_any {w : World} {eb : Nat} {L : HL} {x : Nat → Value} {e : Eg} {g : Gh} {M : Mc} {N p : Nat} (h : EgL w eb L x e M N) (I : Inv e g) (hp : p < e.n) (F : FitE e N) (hN : N ≤ 1000000) (hx : (e.ps p).nx = .readHead) :
    Calls Try.prog 44 #[ptr (L.qs p)] w fun r w' => StepDid w eb L x (readHeadE e p) N p r w' := by
  have hmf : ∀ (fn : Fn) (first cap : Array Value) (w : World), (Instr.makeFunc fn first cap).run Try.prog w = .ok (.func fn first cap) w := fun _ _ _ _ => rfl
  have hak := (I.P p hp).asked (.inl hx)
  have hn := F.n
  obtain ⟨C, hC⟩ : ∃ C : Int, C = (e.n : Int) := ⟨_, rfl⟩
  obtain ⟨A, hA⟩ : ∃ A : Int, A = ((e.ps p).asked : Int) := ⟨_, rfl⟩
  obtain ⟨O, hO⟩ : ∃ O : Int, O = (e.head (e.ps p).asked : Int) := ⟨_, rfl⟩
  have HC : Hid (∀ W, Below w.heap.size w W → Calls Try.prog 46 #[ptr (L.qs p), .int .i64 (C + A)] W fun r w' => r = .returned (.int .i64 O) ∧ MacL w' L.m L.mc L.ms (readM M (p : Int)) (N + 2) ∧ Only (MachF L) W w') := hide fun W hb =>
    readP_any (h.below hb) hp hn hN _ _ ⟨by omega, by omega⟩ (by rw [hC, hA, hO]; exact h.rel.head _ hak)
  have HQ : Hid (∀ W, Only (MachF L) w W → Bk 68 W (L.qs p) (pcC L.l p (x p) (e.ps p))) := hide fun W ho => (h.cells hp ho).1
  have HK : Hid (∀ W, Only (MachF L) w W → W.cell? ⟨L.qs p, 1, none⟩ = some (ptr L.l) ∧ W.cell? ⟨L.qs p, 9, none⟩ = some (.int .i64 A) ∧ W.cell? ⟨L.l, 3, none⟩ = some (.int .i64 C)) := hide fun W ho => by
    obtain ⟨h1, h2⟩ := h.cells hp ho
    rw [hC, hA]
    exact ⟨(h1.cell 1 rfl).1, (h1.cell 9 rfl).1, (h2.cell 3 rfl).1⟩
  have HEND : Hid (∀ W r, MacL W L.m L.mc L.ms (readM M (p : Int)) (N + 2) → Only (MachF L) w W → r = .returned (.func (.func 47) #[ptr (L.qs p)] #[]) → StepDid w eb L x (readHeadE e p) N p r (W.setCell ⟨L.qs p, 10, none⟩ (.int .i64 O))) := hide fun W r hm ho hr => by
    rw [hO]
    refine StepDid.of h hp hm ho ((Only.refl (fun k => k = L.qs p) W).setCell 10 (fun _ => rfl) _) ((h.cells hp ho).1.set 10 _) rfl rfl rfl rfl rfl ?_ (by rw [hr, nxV_ne _ (by nofun)]; rfl)
    refine h.rel.step (e' := readHeadE e p) hp rfl rfl rfl rfl rfl rfl (fun r hr => ?_) ?_
    · show (putN e.ps p _ r).did = _
      rw [putN_other _ _ hr]
    · show (putN e.ps p _ p).did = _
      rw [putN_same]
  have hw : IntKind.i64.wrap (C + A) = C + A := wrap_lit _ (by omega) (by omega)
  obtain ⟨c1, c9, d3⟩ := HK.out w (Only.refl _ _)
  have HO0 := hide (only_drew (MachF L) w)
  have HB0 := hide ((Below.refl w.heap.size w).drew)
  have HK2 : Hid (∀ W v, Only (MachF L) w W → (W.setCell ⟨L.qs p, 10, none⟩ v).cell? ⟨L.qs p, 1, none⟩ = some (ptr L.l) ∧ (W.setCell ⟨L.qs p, 10, none⟩ v).cell? ⟨L.qs p, 9, none⟩ = some (.int .i64 A) ∧ (W.setCell ⟨L.qs p, 10, none⟩ v).cell? ⟨L.l, 3, none⟩ = some (.int .i64 C)) := hide fun W v ho => by
    obtain ⟨h1, h2⟩ := h.cells hp ho
    have h2 := h2.other (L.qs p) 10 v (h2.ne h1 (by decide))
    have h1 := h1.set 10 v
    rw [hC, hA]
    exact ⟨(h1.cell 1 rfl).1, (h1.cell 9 rfl).1, (h2.cell 3 rfl).1⟩
  have HS0 : Hid (∀ W, Only (MachF L) w W → W.frozen? ⟨L.qs p, 10, none⟩ = false ∧ ∃ v, W.cell? ⟨L.qs p, 10, none⟩ = some v) := hide fun W ho => ⟨((h.cells hp ho).1.cell 10 rfl).2, _, ((h.cells hp ho).1.cell 10 rfl).1⟩
  generalize L.qs p = q at *
  generalize L.l = l at *
  clear h I F hn hak hC hA hO hx
  go_enter Try.func44, Try.ntmps44
  go_wp2
  go_region_held (fun W => W.cell? ⟨q, 1, none⟩ = some (ptr l) ∧ W.cell? ⟨q, 9, none⟩ = some (.int .i64 A) ∧ W.cell? ⟨l, 3, none⟩ = some (.int .i64 C))
    (first | (with_reducible exact HK.out _ HO0.out) | (with_reducible exact HK.out _ HO1.out) | (with_reducible exact HK2.out _ _ HO1.out))
    (first | (go_at_call 46; refine (HC.out _ HB0.out).mono ?_; rintro r W1 ⟨rfl, hm1, ho1⟩; have HM1 := hide hm1; have HO1 := hide (HO0.out.trans ho1 fun _ _ h => h); obtain ⟨y10, v10, k10⟩ := HS0.out _ HO1.out; obtain ⟨s1, s9, s3⟩ := HK.out _ HO1.out; clear hm1 ho1))
  all_goals
    go_wp2
    go_ret
    exact HEND.out _ _ HM1.out HO1.out rfl

end Go.Proofs.Ytiofhmlkgieclaa
