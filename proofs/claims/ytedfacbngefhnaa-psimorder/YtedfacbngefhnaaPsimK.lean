/- The engine that copies: who there is, who is busy, how many steps; the log and the state. -/
import Derived.Test.YtedfacbngefhnaaPsimJ
import Derived.Test.YtedfacbngefhnaaRecClone
import Derived.Test.YtedfacbngefhnaaObjsAwake
namespace Go.Proofs.Ytedfacbngefhnaa
open Go.RowKit Go.Maps

/-- An engine no block of which is in K. -/
def EgM (K : Nat → Prop) (w : World) (eb : Nat) (e : Eg) (N : Nat) : Prop :=
  ∃ L M g, EgL w eb L (fun p => nxV (L.qs p) (e.ps p).nx) e M N ∧ Inv e g ∧ FitE e N ∧ (∀ k, HasE eb L e.n k → ¬ K k) ∧ (∀ k, L.S k → ¬ K k) ∧ (∀ p, p < e.n → (e.ps p).nx = .readAnn ∨ (e.ps p).nx = .swapIn → L.cp p)

theorem EgL.mono {w : World} {eb : Nat} {L : HL} {x : Nat → Value} {e : Eg} {M : Mc} {N N' : Nat} (h : EgL w eb L x e M N) (hN : N ≤ N') : EgL w eb L x e M N' :=
  ⟨h.head, h.procs, h.list, h.ops, h.last, h.log, h.st, h.mac.mono hN, h.pr, h.inj, h.stn, h.cop, h.sz, h.hS, h.rel⟩

theorem EgM.only {K G : Nat → Prop} {w w' : World} {eb : Nat} {e : Eg} {N : Nat} (h : EgM K w eb e N) (ho : Only G w w') (hG : ∀ k, G k → K k) : EgM K w' eb e N := by
  obtain ⟨L, M, g, h1, h2, h3, h4, h5, h6⟩ := h
  exact ⟨L, M, g, h1.only ho (fun k hk hg => h4 k hk (hG k hg)) (fun k hk hg => h5 k hk (hG k hg)), h2, h3, h4, h5, h6⟩

theorem EgM.below {K : Nat → Prop} {w w' : World} {eb : Nat} {e : Eg} {N : Nat} (h : EgM K w eb e N) (hb : Below w.heap.size w w') : EgM K w' eb e N :=
  h.only (G := fun _ => False) (Only.ofBelow hb) fun _ k => k.elim

theorem EgM.mod {K : Nat → Prop} {w : World} {eb : Nat} {e : Eg} {N : Nat} (h : EgM K w eb e N) : herlM.ok e := by
  obtain ⟨L, M, g, h1, h2, h3⟩ := h
  exact ⟨g, h2⟩

theorem FitE.mono {e : Eg} {N N' : Nat} (h : FitE e N) (hN : N ≤ N') : FitE e N' :=
  ⟨h.n, by have := h.log; omega, fun p hp => by have := h.seq p hp; omega, h.recs, h.resp, h.ops, h.last, h.fresh, h.mlast⟩

theorem EgM.mono {K : Nat → Prop} {w : World} {eb : Nat} {e : Eg} {N N' : Nat} (h : EgM K w eb e N) (hN : N ≤ N') : EgM K w eb e N' := by
  obtain ⟨L, M, g, h1, h2, h3, h4, h5, h6⟩ := h
  exact ⟨L, M, g, h1.mono hN, h2, h3.mono hN, h4, h5, h6⟩

/-- What lies not yet may be kept too. -/
theorem EgM.fresh {K : Nat → Prop} {w : World} {eb : Nat} {e : Eg} {N : Nat} (h : EgM K w eb e N) : EgM (fun k => K k ∨ w.heap.size ≤ k) w eb e N := by
  obtain ⟨L, M, g, h1, h2, h3, h4, h5, h6⟩ := h
  exact ⟨L, M, g, h1, h2, h3, fun k hk a => a.elim (h4 k hk) fun a => by have := h1.lt hk; omega, fun k hk a => a.elim (h5 k hk) fun a => by have := h1.sz k hk; omega, h6⟩

/-- Each process's box, by the engine's row. -/
theorem EgL.proc {w : World} {eb : Nat} {L : HL} {x : Nat → Value} {e : Eg} {M : Mc} {N : Nat} (h : EgL w eb L x e M N) (hn : 1 ≤ e.n) :
    ∃ g c, L.pv = .slice (some ⟨g, 0, none⟩) e.n c ∧ w.cell? ⟨eb, 0, none⟩ = some (ptr L.l) ∧ w.cell? ⟨eb, 1, none⟩ = some (.slice (some ⟨g, 0, none⟩) e.n c) ∧ ∀ p, p < e.n → w.cell? ⟨g, p, none⟩ = some (ptr (L.qs p)) := by
  obtain ⟨g, c, hv, hc⟩ := row_at h.procs (by omega)
  exact ⟨g, c, hv, (h.head.cell 0 rfl).1, by rw [← hv]; exact (h.head.cell 1 rfl).1, fun p hp => hc p _ (ptrsC_get _ _ _ hp)⟩

set_option maxRecDepth 100000 in
theorem has_any {K : Nat → Prop} {w : World} {eb : Nat} {e : Eg} {N : Nat} (h : EgM K w eb e N) (p : Int) :
    Calls Try.prog 28 #[ptr eb, .int .i64 p] w fun r w' => r = .returned (.bool (decide (herlM.has e p))) ∧ w' = w := by
  obtain ⟨L, M, g, h1, h2, -⟩ := h
  obtain ⟨pb, pc, -, c0, c1, -⟩ := h1.proc h2.G.n1
  have hh : herlM.has e p ↔ 0 ≤ p ∧ p < e.n := Iff.rfl
  obtain ⟨b, hb⟩ : ∃ b, b = decide (herlM.has e p) := ⟨_, rfl⟩
  rw [← hb]
  by_cases hp : 0 ≤ p
  · by_cases hq : p < (e.n : Int)
    · have HB : Hid (b = true) := hide (by rw [hb]; exact decide_eq_true (hh.2 ⟨hp, hq⟩))
      clear hb hh h1 h2
      go_enter Try.func28, Try.ntmps28
      go_wp2
      go_ret
      exact ⟨by rw [HB.out]; simp, rfl⟩
    · have HB : Hid (b = false) := hide (by rw [hb]; exact decide_eq_false fun a => hq (hh.1 a).2)
      clear hb hh h1 h2
      go_enter Try.func28, Try.ntmps28
      go_wp2
      go_ret
      exact ⟨by rw [HB.out]; simp, rfl⟩
  · have HB : Hid (b = false) := hide (by rw [hb]; exact decide_eq_false fun a => hp (hh.1 a).1)
    clear hb hh h1 h2
    go_enter Try.func28, Try.ntmps28
    go_wp2
    go_ret
    exact ⟨by rw [HB.out]; simp, rfl⟩

theorem isBusy_nat {e : Eg} {q : Nat} (hq : q < e.n) : herlM.isBusy e (q : Int) = decide ((e.ps q).nx ≠ .rest) := herlM.isBusy_nat hq

set_option maxRecDepth 100000 in
theorem busy_any {K : Nat → Prop} {w : World} {eb : Nat} {e : Eg} {N : Nat} (h : EgM K w eb e N) (p : Int) :
    Calls Try.prog 13 #[ptr eb, .int .i64 p] w fun r w' => r = .returned (.bool (herlM.isBusy e p)) ∧ w' = w := by
  have HH := hide (has_any h p)
  obtain ⟨L, M, g, h1, h2, -⟩ := h
  obtain ⟨pb, pc, -, c0, c1, cp⟩ := h1.proc h2.G.n1
  by_cases hp : herlM.has e p
  · obtain ⟨q, rfl, -, hq⟩ := herlM.has_nat hp
    have hq : q < e.n := hq
    rw [isBusy_nat hq]
    rw [decide_eq_true hp] at HH
    have cq := cp q hq
    have c2 : w.cell? ⟨L.qs q, 2, none⟩ = some (nxV (L.qs q) (e.ps q).nx) := ((h1.pr q hq).cell 2 rfl).1
    have hqi : (q : Int) < (e.n : Int) := by omega
    by_cases hx : (e.ps q).nx = .rest
    · have HB : Hid (decide ((e.ps q).nx ≠ .rest) = false) := hide (by rw [hx]; rfl)
      rw [hx, nxV_rest] at c2
      rw [HB.out]
      have hnf : ∀ w, (binOp .neq 66 .nilFunc .nilFunc).run Try.prog w = .ok (.bool false) w := fun w => by kernel_rfl
      clear hp cp h1 h2 hx HB hq
      go_enter Try.func13, Try.ntmps13
      go_wp2_with fail
      refine HH.out.mono ?_
      rintro r w' ⟨rfl, rfl⟩
      go_wp2
      go_ret
      exact ⟨rfl, rfl⟩
    · have HB : Hid (decide ((e.ps q).nx ≠ .rest) = true) := hide (decide_eq_true hx)
      rw [nxV_ne _ hx] at c2
      rw [HB.out]
      generalize fnOf (e.ps q).nx = fn at c2
      have hnf : ∀ w, (binOp .neq 66 (.func (.func fn) #[ptr (L.qs q)] #[]) .nilFunc).run Try.prog w = .ok (.bool true) w := fun w => by kernel_rfl
      clear hp cp h1 h2 hx HB hq
      go_enter Try.func13, Try.ntmps13
      go_wp2_with fail
      refine HH.out.mono ?_
      rintro r w' ⟨rfl, rfl⟩
      go_wp2
      go_ret
      exact ⟨rfl, rfl⟩
  · have hb : herlM.isBusy e p = false := by unfold Mod.isBusy; rw [decide_eq_false hp]; rfl
    rw [hb]
    rw [decide_eq_false hp] at HH
    clear hp cp h1 h2 hb
    go_enter Try.func13, Try.ntmps13
    go_wp2_with fail
    refine HH.out.mono ?_
    rintro r w' ⟨rfl, rfl⟩
    go_wp2
    go_ret
    exact ⟨rfl, rfl⟩

end Go.Proofs.Ytedfacbngefhnaa
