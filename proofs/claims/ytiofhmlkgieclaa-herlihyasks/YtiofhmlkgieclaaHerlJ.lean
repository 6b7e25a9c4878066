/- Herlihy's engine: an operation begins. -/
import Derived.Test.YtiofhmlkgieclaaHerlI
namespace Go.Proofs.Ytiofhmlkgieclaa
open Go.RowKit Go.Maps

/-- A process's next step is stored. -/
theorem EgL.storeX {w : World} {eb : Nat} {L : HL} {x : Nat → Value} {e : Eg} {M : Mc} {N p : Nat} (h : EgL w eb L x e M N) (hp : p < e.n) (v : Value) :
    EgL (w.setCell ⟨L.qs p, 2, none⟩ v) eb L (putN x p v) e M N ∧ Only (StepF L p) w (w.setCell ⟨L.qs p, 2, none⟩ v) := by
  have A := h.apt
  have m := A.m_ p hp
  have o1 : Only (StepF L p) w (w.setCell ⟨L.qs p, 2, none⟩ v) := (Only.refl (StepF L p) w).setCell 2 (fun _ => .inr (.inr rfl)) v
  have e1 : putN e.ps p (e.ps p) = e.ps := by
    funext j
    unfold putN
    split
    · rename_i a; rw [a]
    · rfl
  exact ⟨h.own hp o1 (h.mac.keep (Below.heap_setCell _ _ _ _ m.1.symm) (Below.heap_setCell _ _ _ _ m.2.1.symm) (Below.heap_setCell _ _ _ _ m.2.2.symm)) (q' := e.ps p) (by rw [putN_same]; exact (h.pr p hp).set 2 v) (fun r hr => putN_other _ _ hr) rfl rfl rfl rfl e1.symm h.rel, o1⟩

/-- What a beginning leaves. -/
def BegDid (w : World) (eb : Nat) (L : HL) (x : Nat → Value) (e : Eg) (p : Nat) (o : Opn) (N : Nat) (w' : World) : Prop :=
  ∃ nv' M', EgL w' eb { L with nv := nv' } (putN x p (nxV (L.qs p) .announce)) (beginE e p o) M' N ∧ Only (HasE eb L e.n) w w' ∧ (∀ j, nv'.ownBlock = some j → L.nv.ownBlock = some j ∨ w.heap.size ≤ j)

theorem has_l (eb : Nat) (L : HL) (n : Nat) : HasE eb L n L.l := .inr (.inl rfl)

theorem has_q (eb : Nat) (L : HL) {n p : Nat} (hp : p < n) : HasE eb L n (L.qs p) := .inr (.inr (.inr (.inr (.inr (.inl ⟨p, hp, rfl⟩)))))

theorem run_store_func (w : World) (a : Addr) (fn : Fn) (c0 c1 : Array Value) (m : Mode) : (store a (.func fn c0 c1) m).run Try.prog w = stored Try.prog w a (.func fn c0 c1) m := run_store Try.prog w a _ m rfl

theorem run_store_nilFunc (w : World) (a : Addr) (m : Mode) : (store a .nilFunc m).run Try.prog w = stored Try.prog w a .nilFunc m := run_store Try.prog w a _ m rfl

set_option maxRecDepth 100000 in
set_option maxHeartbeats 4000000 in
theorem beginP_any {w : World} {eb : Nat} {L : HL} {x : Nat → Value} {e : Eg} {g : Gh} {M : Mc} {N p : Nat} (h : EgL w eb L x e M N) (I : Inv e g) (hp : p < e.n) (F : FitE e N) (hN : N ≤ 1000000) (o : Opn) :
    Calls Try.prog 32 #[ptr (L.qs p), opV o] w fun r w' => r = .returned (.tuple #[]) ∧ BegDid w eb L x e p o N w' := by
  have hmf : ∀ (fn : Fn) (first cap : Array Value) (w : World), (Instr.makeFunc fn first cap).run Try.prog w = .ok (.func fn first cap) w := fun _ _ _ _ => rfl
  have hsf := run_store_func
  have hn := F.n
  have hnl := F.nodes
  have hsq := F.seq p hp
  have hnot : ¬ InPath g e.nodes.length := fun ⟨i, hi, h1⟩ => by have := I.G.lt i hi; omega
  have hx0 := I.G.nxt0 _ hnot
  have hp0 := I.G.plc0 _ hnot
  obtain ⟨co, oa, ob⟩ := o
  obtain ⟨P, hP⟩ : ∃ P : Int, P = (p : Int) := ⟨_, rfl⟩
  obtain ⟨S, hS⟩ : ∃ S : Int, S = ((e.ps p).seq : Int) := ⟨_, rfl⟩
  obtain ⟨D, hD⟩ : ∃ D : Int, D = ((e.ps p).did : Int) := ⟨_, rfl⟩
  obtain ⟨T, hT⟩ : ∃ T : Int, T = (e.nodes.length : Int) := ⟨_, rfl⟩
  have hS1 : (((e.ps p).seq + 1 : Nat) : Int) = S + 1 := by omega
  -- the worlds
  have hbx : Below w.heap.size w (w.alloc (.cells #[.int .i64 co, .int .i64 oa, .int .i64 ob] 26)) := (Below.refl _ _).alloc (Nat.le_refl _) _
  obtain ⟨W0, hW0⟩ : ∃ W0, W0 = w.alloc (.cells #[.int .i64 co, .int .i64 oa, .int .i64 ob] 26) := ⟨_, rfl⟩
  have hxb : Bk 26 W0 w.heap.size #[.int .i64 co, .int .i64 oa, .int .i64 ob] := by rw [hW0]; exact heap_alloc_new _ _
  rw [← hW0] at hbx
  have hqB : L.qs p ≠ w.heap.size := by have := (h.pr p hp).lt; omega
  have h0 := h.below hbx
  obtain ⟨h1, o1⟩ := h0.store hp 4 (.int .i64 (((e.ps p).seq + 1 : Nat) : Int)) { e.ps p with seq := (e.ps p).seq + 1 } rfl rfl
  rw [hS1] at h1 o1
  obtain ⟨W1, hW1⟩ : ∃ W1, W1 = W0.setCell ⟨L.qs p, 4, none⟩ (.int .i64 (S + 1)) := ⟨_, rfl⟩
  have hx1 : Bk 26 W1 w.heap.size #[.int .i64 co, .int .i64 oa, .int .i64 ob] := by rw [hW1]; exact hxb.other _ _ _ hqB.symm
  rw [← hW1] at h1 o1
  have hp1 : p < ({ e with ps := putN e.ps p { e.ps p with seq := (e.ps p).seq + 1 } } : Eg).n := hp
  have d1 := h1.below ((Below.refl _ W1).drew)
  have eps1 : ({ e with ps := putN e.ps p { e.ps p with seq := (e.ps p).seq + 1 } } : Eg).ps p = { e.ps p with seq := (e.ps p).seq + 1 } := putN_same _ _ _
  obtain ⟨h2, o2⟩ := d1.store hp1 3 (.int .i64 ((e.ps p).did : Int)) { e.ps p with seq := (e.ps p).seq + 1, began := (e.ps p).did } (by rw [eps1]; rfl) (by rw [eps1])
  rw [← hD] at h2 o2
  obtain ⟨W2, hW2⟩ : ∃ W2, W2 = W1.drew.setCell ⟨L.qs p, 3, none⟩ (.int .i64 D) := ⟨_, rfl⟩
  have hx2 : Bk 26 W2 w.heap.size #[.int .i64 co, .int .i64 oa, .int .i64 ob] := by rw [hW2]; exact Bk.other (Bk.keep (w' := W1.drew) hx1 rfl) _ _ _ hqB.symm
  rw [← hW2] at h2 o2
  dsimp only at h2
  rw [putN_putN] at h2
  obtain ⟨e2, he2⟩ : ∃ e2 : Eg, e2 = { e with ps := putN e.ps p { e.ps p with seq := (e.ps p).seq + 1, began := (e.ps p).did } } := ⟨_, rfl⟩
  rw [← he2] at h2
  have hp2 : p < e2.n := by rw [he2]; exact hp
  have eps2 : e2.ps p = { e.ps p with seq := (e.ps p).seq + 1, began := (e.ps p).did } := by rw [he2]; exact putN_same _ _ _
  have o12 : Only (HasE eb L e.n) w W2 := by
    have a0 : Only (HasE eb L e.n) w W0 := Only.ofBelow hbx
    have a1 : Only (HasE eb L e.n) w W1 := a0.trans (o1.mono (StepF.has hp)) fun _ _ k => k
    exact (a1.drewN 1).trans (o2.mono (StepF.has hp)) fun _ _ k => k
  have HC1 : Hid (Calls Try.prog 29 #[ptr L.m, .int .i64 P] W1.drew fun r w' => r = .returned (.int .i64 D) ∧ w' = W1.drew) := hide (by
    have := stepsM_any d1.mac (p : Int) (i64_nat (by omega))
    rw [h.rel.s p hp, ← hP, ← hD] at this
    exact this)
  have HC2 : Hid (∀ W, Below W2.heap.size W2 W → Calls Try.prog 38 #[ptr L.l, .int .i64 P, .int .i64 (S + 1), .agg #[.int .i64 co, .int .i64 oa, .int .i64 ob]] W fun r w' => r = .returned (.int .i64 T) ∧ NodeDid W eb L x e2 N ⟨p, (e.ps p).seq + 1, ⟨co, oa, ob⟩⟩ w') := hide fun W hb => by
    have := newNode_any (h2.below hb) (by rw [he2]; show e.nodes.length ≤ _; omega) (by rw [he2]; exact hn) (by rw [he2]; exact hx0) (by rw [he2]; exact hp0) p ((e.ps p).seq + 1) ⟨co, oa, ob⟩
    rw [hP, ← hS1, hT]
    rw [he2] at this ⊢
    exact this
  have HEND : Hid (∀ W W3, Only (fun _ => False) W2 W → NodeDid W eb L x e2 N ⟨p, (e.ps p).seq + 1, ⟨co, oa, ob⟩⟩ W3 →
      (Bk 68 W3 (L.qs p) (pcC L.l p (x p) (e2.ps p)) ∧ Bk 26 W3 w.heap.size #[.int .i64 co, .int .i64 oa, .int .i64 ob]) ∧
      BegDid w eb L x e p ⟨co, oa, ob⟩ N ((W3.setCell ⟨L.qs p, 6, none⟩ (.int .i64 T)).setCell ⟨L.qs p, 2, none⟩ (.func (.func 39) #[ptr (L.qs p)] #[]))) := hide fun W W3 hb hd => by
    obtain ⟨nv', M', g1, g2, g3⟩ := hd
    have hp3 : p < (nodeE e2 ⟨p, (e.ps p).seq + 1, ⟨co, oa, ob⟩⟩).n := hp2
    have eps3 : (nodeE e2 ⟨p, (e.ps p).seq + 1, ⟨co, oa, ob⟩⟩).ps p = e2.ps p := rfl
    have hq3 := g1.pr p hp3
    have hWs : W2.heap.size ≤ W.heap.size := hb.size
    have hs2 : w.heap.size ≤ W2.heap.size := o12.size
    have hxW : Bk 26 W w.heap.size #[.int .i64 co, .int .i64 oa, .int .i64 ob] := hx2.only hb id
    have A2 := h2.apt
    have hxne : ∀ j, (j = L.l ∨ L.nv.ownBlock = some j ∨ j = L.m) → j < w.heap.size := fun j hj => by
      have := h.apt.lt
      rcases hj with hj | hj | hj
      · exact this j (by unfold HasE; simp [hj])
      · exact this j (by unfold HasE; simp [hj])
      · exact this j (by unfold HasE; simp [hj])
    have hx3 : Bk 26 W3 w.heap.size #[.int .i64 co, .int .i64 oa, .int .i64 ob] := hxW.only g2 fun e1 => by have := hxne _ e1; omega
    refine ⟨⟨hq3, hx3⟩, ?_⟩
    obtain ⟨k1, k2⟩ := g1.store hp3 6 (.int .i64 (e.nodes.length : Int)) { e2.ps p with nx := .announce, own := e.nodes.length } (by rw [eps3]; rfl) (by rw [eps3])
    rw [← hT] at k1 k2
    obtain ⟨j1, j2⟩ := k1.storeX (p := p) hp3 (nxV (L.qs p) .announce)
    have e4 : ({ nodeE e2 ⟨p, (e.ps p).seq + 1, ⟨co, oa, ob⟩⟩ with ps := putN (nodeE e2 ⟨p, (e.ps p).seq + 1, ⟨co, oa, ob⟩⟩).ps p { e2.ps p with nx := .announce, own := e.nodes.length } } : Eg) = beginE e p ⟨co, oa, ob⟩ := by
      unfold nodeE beginE
      dsimp only
      rw [eps2, he2]
      dsimp only
      rw [putN_putN]
    rw [e4] at j1
    have hnx : nxV (L.qs p) .announce = .func (.func 39) #[ptr (L.qs p)] #[] := by rw [nxV_ne _ (by nofun)]; rfl
    rw [hnx] at j1 j2
    refine ⟨nv', M', by rw [hnx]; exact j1, ?_, fun j hj => (g3 j hj).imp id fun a => by omega⟩
    have a1 : Only (HasE eb L e.n) w W := o12.trans hb fun _ _ k => k.elim
    have a2 : Only (HasE eb L e.n) w W3 := a1.trans g2 fun j _ hj => by
      unfold HasE
      rcases hj with hj | hj | hj
      · simp [hj]
      · simp [hj]
      · simp [hj]
    exact (a2.setCell 6 (fun _ => has_q eb L hp) _).setCell 2 (fun _ => has_q eb L hp) _
  -- cells
  have hq0 := h0.pr p hp
  have c4 : W0.cell? ⟨L.qs p, 4, none⟩ = some (.int .i64 S) := by rw [hS]; exact (hq0.cell 4 rfl).1
  have f4 : W0.frozen? ⟨L.qs p, 4, none⟩ = false := (hq0.cell 4 rfl).2
  have HK1 : Hid (∀ W, EgL W eb L x ({ e with ps := putN e.ps p { e.ps p with seq := (e.ps p).seq + 1 } } : Eg) M N → W.cell? ⟨L.qs p, 1, none⟩ = some (ptr L.l) ∧ W.cell? ⟨L.qs p, 0, none⟩ = some (.int .i64 P) ∧ W.cell? ⟨L.l, 1, none⟩ = some (ptr L.m)) := hide fun W hW => by
    have a := hW.pr p hp
    rw [hP]
    exact ⟨(a.cell 1 rfl).1, (a.cell 0 rfl).1, (hW.list.cell 1 rfl).1⟩
  have HS1 : Hid (W1.cell? ⟨L.qs p, 1, none⟩ = some (ptr L.l) ∧ W1.cell? ⟨L.qs p, 0, none⟩ = some (.int .i64 P) ∧ W1.cell? ⟨L.l, 1, none⟩ = some (ptr L.m)) := hide (HK1.out _ h1)
  have HS1d : Hid (W1.drew.cell? ⟨L.qs p, 1, none⟩ = some (ptr L.l) ∧ W1.drew.cell? ⟨L.qs p, 0, none⟩ = some (.int .i64 P) ∧ W1.drew.cell? ⟨L.l, 1, none⟩ = some (ptr L.m)) := hide (HK1.out _ d1)
  have HS2 : Hid (W2.cell? ⟨L.qs p, 1, none⟩ = some (ptr L.l) ∧ W2.cell? ⟨L.qs p, 0, none⟩ = some (.int .i64 P) ∧ W2.cell? ⟨L.l, 1, none⟩ = some (ptr L.m)) := hide (by
    have a := h2.pr p hp2
    rw [hP]
    exact ⟨(a.cell 1 rfl).1, (a.cell 0 rfl).1, (h2.list.cell 1 rfl).1⟩)
  have HS2' : Hid ((W1.drew.setCell ⟨L.qs p, 3, none⟩ (.int .i64 D)).cell? ⟨L.qs p, 1, none⟩ = some (ptr L.l) ∧ (W1.drew.setCell ⟨L.qs p, 3, none⟩ (.int .i64 D)).cell? ⟨L.qs p, 0, none⟩ = some (.int .i64 P) ∧ (W1.drew.setCell ⟨L.qs p, 3, none⟩ (.int .i64 D)).cell? ⟨L.l, 1, none⟩ = some (ptr L.m)) := by rw [← hW2]; exact HS2
  have hq1 := d1.pr p hp1
  have f3 : W1.drew.frozen? ⟨L.qs p, 3, none⟩ = false := (hq1.cell 3 rfl).2
  have hc3 : ∃ z, W1.drew.cell? ⟨L.qs p, 3, none⟩ = some z := ⟨_, (hq1.cell 3 rfl).1⟩
  obtain ⟨z3, c3⟩ := hc3
  have HQ : Hid (∀ W, Bk 68 W (L.qs p) (pcC L.l p (x p) (e2.ps p)) ∧ Bk 26 W w.heap.size #[.int .i64 co, .int .i64 oa, .int .i64 ob] →
      (W.cell? ⟨L.qs p, 1, none⟩ = some (ptr L.l) ∧ W.cell? ⟨L.qs p, 0, none⟩ = some (.int .i64 P) ∧ W.cell? ⟨L.qs p, 4, none⟩ = some (.int .i64 (S + 1)) ∧ W.cell? ⟨w.heap.size, 0, none⟩ = some (.int .i64 co) ∧ W.cell? ⟨w.heap.size, 1, none⟩ = some (.int .i64 oa) ∧ W.cell? ⟨w.heap.size, 2, none⟩ = some (.int .i64 ob)) ∧
      (W.frozen? ⟨L.qs p, 6, none⟩ = false ∧ ∃ z, W.cell? ⟨L.qs p, 6, none⟩ = some z) ∧
      ((W.setCell ⟨L.qs p, 6, none⟩ (.int .i64 T)).frozen? ⟨L.qs p, 2, none⟩ = false ∧ ∃ z, (W.setCell ⟨L.qs p, 6, none⟩ (.int .i64 T)).cell? ⟨L.qs p, 2, none⟩ = some z) ∧
      ((W.setCell ⟨L.qs p, 6, none⟩ (.int .i64 T)).cell? ⟨L.qs p, 1, none⟩ = some (ptr L.l) ∧ (W.setCell ⟨L.qs p, 6, none⟩ (.int .i64 T)).cell? ⟨L.qs p, 0, none⟩ = some (.int .i64 P) ∧ (W.setCell ⟨L.qs p, 6, none⟩ (.int .i64 T)).cell? ⟨L.qs p, 4, none⟩ = some (.int .i64 (S + 1)) ∧ (W.setCell ⟨L.qs p, 6, none⟩ (.int .i64 T)).cell? ⟨w.heap.size, 0, none⟩ = some (.int .i64 co) ∧ (W.setCell ⟨L.qs p, 6, none⟩ (.int .i64 T)).cell? ⟨w.heap.size, 1, none⟩ = some (.int .i64 oa) ∧ (W.setCell ⟨L.qs p, 6, none⟩ (.int .i64 T)).cell? ⟨w.heap.size, 2, none⟩ = some (.int .i64 ob))) := hide fun W ⟨a, b⟩ => by
    rw [eps2] at a
    have a6 := a.set 6 (.int .i64 T)
    have b6 := b.other (L.qs p) 6 (.int .i64 T) hqB.symm
    rw [hP, ← hS1]
    exact ⟨⟨(a.cell 1 rfl).1, (a.cell 0 rfl).1, (a.cell 4 rfl).1, (b.cell 0 rfl).1, (b.cell 1 rfl).1, (b.cell 2 rfl).1⟩, ⟨(a.cell 6 rfl).2, _, (a.cell 6 rfl).1⟩, ⟨(a6.cell 2 rfl).2, _, (a6.cell 2 rfl).1⟩, (a6.cell 1 rfl).1, (a6.cell 0 rfl).1, (a6.cell 4 rfl).1, (b6.cell 0 rfl).1, (b6.cell 1 rfl).1, (b6.cell 2 rfl).1⟩
  have HQ2 := hide (And.intro (h2.pr p hp2) hx2)
  have hw : IntKind.i64.wrap (S + 1) = S + 1 := wrap_lit _ (by omega) (by omega)
  have HW0 := hide hW0
  have HW1 := hide hW1
  have HW2 := hide hW2
  obtain ⟨s1, s0, sl⟩ := HS1.out
  generalize L.qs p = q at *
  generalize L.l = l at *
  generalize L.m = m at *
  unfold opV
  clear h I F hn hnl hsq hnot hx0 hp0 hP hS hD hT hS1 hbx hW0 hxb hqB h0 h1 o1 hW1 hx1 d1 h2 o2 hW2 hx2 he2 eps2 o12 hq0 hq1 hp1 hp2 eps1
  go_enter Try.func32, Try.ntmps32
  go_upto_region 1 with fail
  rw [← HW0.out]
  go_upto_region 2 with fail
  rw [← HW1.out]
  go_region_held (fun W => W.cell? ⟨q, 1, none⟩ = some (ptr l) ∧ W.cell? ⟨q, 0, none⟩ = some (.int .i64 P) ∧ W.cell? ⟨l, 1, none⟩ = some (ptr m))
    (first | (with_reducible exact HS1d.out) | (with_reducible exact HS2'.out) | exact HS2'.out)
    (first | (go_at_call 29; refine (HC1.out).mono ?_; rintro r W' ⟨rfl, rfl⟩))
  all_goals
    go_upto_region 3 with fail
    have HW2b : Hid ((W1.setCell ⟨q, 3, none⟩ (.int .i64 D)).drew = W2) := hide (by rw [HW2.out]; rfl)
    rw [HW2b.out]
    clear c4 f4 f3 c3 s1 s0 sl
    obtain ⟨⟨t1, t0, t4, b0, b1, b2⟩, -⟩ := HQ.out _ HQ2.out
    have HQD : Hid (W2.drew.cell? ⟨q, 1, none⟩ = some (ptr l) ∧ W2.drew.cell? ⟨q, 0, none⟩ = some (.int .i64 P) ∧ W2.drew.cell? ⟨q, 4, none⟩ = some (.int .i64 (S + 1)) ∧ W2.drew.cell? ⟨w.heap.size, 0, none⟩ = some (.int .i64 co) ∧ W2.drew.cell? ⟨w.heap.size, 1, none⟩ = some (.int .i64 oa) ∧ W2.drew.cell? ⟨w.heap.size, 2, none⟩ = some (.int .i64 ob)) := ⟨t1, t0, t4, b0, b1, b2⟩
    have HBD := hide ((Below.refl W2.heap.size W2).drew)
    have HOD := hide (only_drew (fun _ => False) W2)
    go_region_held (fun W => W.cell? ⟨q, 1, none⟩ = some (ptr l) ∧ W.cell? ⟨q, 0, none⟩ = some (.int .i64 P) ∧ W.cell? ⟨q, 4, none⟩ = some (.int .i64 (S + 1)) ∧ W.cell? ⟨w.heap.size, 0, none⟩ = some (.int .i64 co) ∧ W.cell? ⟨w.heap.size, 1, none⟩ = some (.int .i64 oa) ∧ W.cell? ⟨w.heap.size, 2, none⟩ = some (.int .i64 ob))
      (first | (with_reducible exact HQD.out) | (with_reducible exact HA3.out) | (with_reducible exact HA6.out))
      (first | (go_at_call 38; refine (HC2.out _ HBD.out).mono ?_; rintro r W3 ⟨rfl, hd3⟩; obtain ⟨hb3, hg3⟩ := HEND.out _ _ HOD.out hd3; have HG3 := hide hg3; obtain ⟨a3, ⟨y6, z6, hz6⟩, f2, a6⟩ := HQ.out _ hb3; have HF2 := hide f2; have HA3 := hide a3; have HA6 := hide a6; clear hd3 hb3 hg3 a3 a6 f2))
    all_goals
      go_upto_region 4 with fail
      obtain ⟨W4, hW4⟩ : ∃ W4, W4 = W3.setCell ⟨q, 6, none⟩ (.int .i64 T) := ⟨_, rfl⟩
      rw [← hW4] at HG3 HF2 ⊢
      obtain ⟨r2, u2, hu2⟩ := HF2.out
      clear hW4
      go_wp2
      go_end0
      exact ⟨rfl, HG3.out⟩

end Go.Proofs.Ytiofhmlkgieclaa
