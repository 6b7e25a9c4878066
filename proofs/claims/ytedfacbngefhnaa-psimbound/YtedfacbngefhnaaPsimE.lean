/- The engine that copies: a process looks at an announcement. -/
import Derived.Test.YtedfacbngefhnaaPsimD
namespace Go.Proofs.Ytedfacbngefhnaa
open Go.RowKit Go.Maps

/-- An operation has been done on a copy. -/
theorem EgL.doneC {w W : World} {eb : Nat} {L : HL} {x : Nat → Value} {e : Eg} {M : Mc} {N p ga gc : Nat} {q' : Pc} {sv' fv' : Value} (h : EgL w eb L x e M N) (hp : p < e.n) (hc : L.cp p) (hma : L.ma p = .slice (some ⟨ga, 0, none⟩) e.n gc) (hd : q'.did = (e.ps p).did)
    (hq : Bk 71 W (L.qs p) (pcC L.l p (x p) sv' (.slice (some ⟨ga, 0, none⟩) e.n gc) fv' q')) (hr : RdI W sv' q'.mst.L) (hv : (sv' = L.mv p ∧ q'.mst.L = (e.ps p).mst.L) ∨ ∀ j, sv'.ownBlock = some j → w.heap.size ≤ j)
    (hrow : W.ownsRow 0 91 2 (.slice (some ⟨ga, 0, none⟩) e.n gc) e.n (anC q'.mlast e.n)) (hfr : OwnR W 0 fv' q'.fresh) (hf : fv'.ownBlock = (L.mf p).ownBlock ∨ ∃ j, fv'.ownBlock = some j ∧ w.heap.size ≤ j)
    (hne : q'.mst.L = [] ∨ ∀ j, sv'.ownBlock = some j → fv'.ownBlock ≠ some j) (ho : Only (fun k => k = L.qs p ∨ k = ga ∨ (L.mf p).ownBlock = some k) w W) :
    ∃ L', EgL W eb L' x { e with ps := putN e.ps p q' } M N ∧ L'.qs = L.qs ∧ L'.l = L.l ∧ L'.ma p = L.ma p ∧ L'.ov = L.ov ∧ (∀ r, r ≠ p → L.cp r → L'.cp r) ∧ L'.cp p ∧ (∀ k, HasE eb L' e.n k → HasE eb L e.n k ∨ w.heap.size ≤ k) ∧ (∀ k, L'.S k → L.S k ∨ w.heap.size ≤ k) ∧ Only (HasE eb L e.n) w W := by
  have C := h.cop p hp hc
  have hga : (L.ma p).ownBlock = some ga := by rw [hma]; rfl
  have h0 := h.drop p
  have ko : ∀ k, HasE eb { L with cp := putN L.cp p False } e.n k → HasE eb L e.n k := fun k hk => (HasE.of (L := L) (L' := { L with cp := putN L.cp p False }) (B := k + 1) rfl rfl rfl rfl rfl rfl rfl (fun k hk => .inl (has_lv hk)) (fun k hk => .inl (has_av hk)) (fun r hr hcr k hk => by
    dsimp only at hcr hk
    by_cases a : r = p
    · rw [a, putN_same] at hcr; exact hcr.elim
    · rw [putN_other _ _ a] at hcr; exact .inl (has_cp hr hcr hk)) k hk).resolve_right (by omega)
  -- the copy's own blocks are none of the rest's
  have own : ∀ k, (L.ma p).ownBlock = some k ∨ (L.mf p).ownBlock = some k → ¬ HasE eb { L with cp := putN L.cp p False } e.n k := by
    rintro k hk ⟨t, ht⟩
    have hkL : ∃ s, (s = 8 ∨ s = 9) ∧ Kd eb L e.n s k ∧ (s = 9 → (L.ma p).ownBlock = some k) ∧ (s = 8 → (L.mf p).ownBlock = some k) := by
      rcases hk with hk | hk
      · exact ⟨9, .inr rfl, .inr ⟨p, hp, hc, hk⟩, fun _ => hk, by omega⟩
      · exact ⟨8, .inl rfl, .inr ⟨p, hp, hc, hk⟩, by omega, fun _ => hk⟩
    obtain ⟨s, hs, hsk, h9, h8⟩ := hkL
    have hcp : ∀ r, putN L.cp p False r → r ≠ p ∧ L.cp r := fun r hr => by
      by_cases a : r = p
      · rw [a, putN_same] at hr; exact hr.elim
      · rw [putN_other _ _ a] at hr; exact ⟨a, hr⟩
    have tk : Kd eb L e.n t k := by
      have key : Kd eb { L with cp := putN L.cp p False } e.n t k → Kd eb L e.n t k := fun hk => by
        match t, hk with
        | 0, hk => exact hk
        | 1, hk => exact hk
        | 2, hk => exact hk
        | 3, hk => exact hk
        | 4, hk => exact hk
        | 5, hk => exact hk
        | 6, hk => exact hk
        | 7, hk => exact hk
        | 8, hk => exact hk.imp id fun ⟨r, hr, hcr, hk⟩ => ⟨r, hr, (hcp r hcr).2, hk⟩
        | 9, hk => exact hk.imp id fun ⟨r, hr, hcr, hk⟩ => ⟨r, hr, (hcp r hcr).2, hk⟩
        | _ + 10, hk => exact hk.elim
      exact key ht
    have est := h.kd hsk tk
    subst est
    rcases hs with rfl | rfl
    · have S := C.sepF k (h8 rfl)
      rcases ht with a | ⟨r, hr, hcr, a⟩
      · exact S.1 a
      · exact S.2 r hr (hcp r hcr).1 (hcp r hcr).2 a
    · have S := C.sepA k (h9 rfl)
      rcases ht with a | ⟨r, hr, hcr, a⟩
      · exact S.1 a
      · exact S.2 r hr (hcp r hcr).1 (hcp r hcr).2 a
  have hS0 : ∀ k, (L.ma p).ownBlock = some k ∨ (L.mf p).ownBlock = some k → ¬ L.S k ∧ k < w.heap.size := fun k hk => by
    have := has_cp (eb := eb) hp hc hk.symm
    exact ⟨h.hS k this, h.lt this⟩
  have h1 := h0.procd (p := p) (x' := x) (q' := q') (mv' := putN L.mv p sv') (ma' := L.ma) (mf' := putN L.mf p fv') hp ho (fun k hk => by
    rcases hk with hk | hk | hk
    · exact .inl hk
    · exact .inr ⟨own k (.inl (by rw [hk]; exact hga)), (hS0 k (.inl (by rw [hk]; exact hga))).1⟩
    · exact .inr ⟨own k (.inr hk), (hS0 k (.inr hk)).1⟩) (by rw [putN_same, putN_same]; dsimp only; rw [hma]; exact hq) (fun _ _ => rfl) (fun r hr => ⟨putN_other _ _ hr, rfl, putN_other _ _ hr⟩) hd (fun a => by dsimp only at a; rw [putN_same] at a; exact a.elim)
  have hfo : ∀ k, fv'.ownBlock = some k → (L.mf p).ownBlock = some k ∨ w.heap.size ≤ k := fun k hk => hf.elim (fun e1 => .inl (by rw [← e1]; exact hk)) fun ⟨j, hj, hj2⟩ => .inr (by rw [hj] at hk; have := Option.some.inj hk; omega)
  have kn : ∀ (cp' S' : Nat → Prop), (∀ r, r ≠ p → cp' r → L.cp r) → ∀ k, HasE eb { L with cp := cp', mv := putN L.mv p sv', ma := L.ma, mf := putN L.mf p fv', S := S' } e.n k → HasE eb L e.n k ∨ w.heap.size ≤ k := fun cp' S' hcp =>
    HasE.of rfl rfl rfl rfl rfl rfl rfl (fun k hk => .inl (has_lv hk)) (fun k hk => .inl (has_av hk)) fun r hr hcr k hk => by
      dsimp only at hcr hk
      by_cases a : r = p
      · subst a
        rw [putN_same] at hk
        rcases hk with hk | hk
        · exact (hfo k hk).imp (fun a => has_cp hr hc (.inl a)) id
        · exact .inl (has_cp hr hc (.inr hk))
      · rw [putN_other _ _ a] at hk
        exact .inl (has_cp hr (hcp r a hcr) hk)
  have hcp0 : ∀ r, r ≠ p → putN L.cp p False r → L.cp r := fun r hr hc => by rw [putN_other _ _ hr] at hc; exact hc
  have hs := ho.size
  have h2 := h1.take (p := p) (S' := fun k => L.S k ∨ (sv'.ownBlock = some k ∧ w.heap.size ≤ k ∧ k < W.heap.size ∧ q'.mst.L ≠ [])) (by dsimp only; rw [putN_same]; exact id) (fun k hk => .inl hk)
    (by dsimp only; rw [putN_same, hma]; exact hrow) (by dsimp only; rw [putN_same, putN_same]; exact hfr) (by dsimp only; rw [putN_same, putN_same]; exact hr)
    (by
      dsimp only
      rw [putN_same, putN_same]
      by_cases hn : q'.mst.L = []
      · exact .inl hn
      · refine .inr fun g hg => ?_
        rcases hv with ⟨a, b⟩ | a
        · rw [a] at hg
          rw [b] at hn
          exact .inl (C.stn.resolve_left hn g hg)
        · exact .inr ⟨hg, a g hg, hr.blk.resolve_left hn g hg, hn⟩)
    (fun k hk => by
      dsimp only at hk ⊢
      refine ⟨(C.sepA k hk).1, fun r hr' hn hcr => ?_⟩
      rw [putN_other _ _ hn] at hcr
      exact (C.sepA k hk).2 r hr' hn hcr)
    (fun k hk => by
      dsimp only at hk ⊢
      rw [putN_same] at hk
      refine ⟨fun a => ?_, fun r hr' hn hcr => ?_⟩
      · rcases hfo k hk with b | b
        · exact (C.sepF k b).1 a
        · have := h.lt (has_lv (eb := eb) (n := e.n) a)
          omega
      · rw [putN_other _ _ hn] at hcr ⊢
        intro a
        rcases hfo k hk with b | b
        · exact (C.sepF k b).2 r hr' hn hcr a
        · have := h.lt (has_cp (eb := eb) hr' hcr (.inl a))
          omega)
    (fun k hk hS => by
      dsimp only at hk
      rw [putN_same] at hk
      rcases hk with hk | hk
      · have a := hS0 k (.inl hk)
        rcases hS with hS | hS
        · exact a.1 hS
        · omega
      · rcases hS with hS | ⟨hS, hS2, hS3, hS4⟩
        · rcases hfo k hk with b | b
          · exact (hS0 k (.inr b)).1 hS
          · have := h.sz k hS
            omega
        · exact hne.resolve_left hS4 k hS hk)
    (fun k hk => by
      rcases hk with hk | hk
      · exact Nat.lt_of_lt_of_le (h.sz k hk) hs
      · exact hk.2.2.1)
    (fun k hk hS => by
      rcases hS with hS | hS
      · exact h1.hS k hk hS
      · -- a block that was there ahead of it
        have key : HasE eb { L with cp := putN L.cp p False } e.n k := by
          refine (HasE.of (L := { L with cp := putN L.cp p False }) (L' := { L with cp := putN L.cp p False, mv := putN L.mv p sv', ma := L.ma, mf := putN L.mf p fv' }) (B := k + 1) rfl rfl rfl rfl rfl rfl rfl (fun k hk => .inl (has_lv hk)) (fun k hk => .inl (has_av hk)) (fun r hr' hcr k hk => ?_) k hk).resolve_right (by omega)
          dsimp only at hcr hk
          by_cases a : r = p
          · rw [a, putN_same] at hcr
            exact hcr.elim
          · rw [putN_other _ _ a] at hk
            exact .inl (has_cp (L := { L with cp := putN L.cp p False }) hr' hcr hk)
        have := h.lt (ko k key)
        omega)
  refine ⟨_, h2, rfl, rfl, rfl, rfl, fun r hr' hcr => ?_, ?_, kn _ _ (fun r hr' hcr => ?_), fun k hk => ?_, ho.mono fun k hk => ?_⟩
  · dsimp only
    rw [putN_other _ _ hr', putN_other _ _ hr']
    exact hcr
  · dsimp only
    rw [putN_same]
    trivial
  · have hcr2 : putN (putN L.cp p False) p True r := hcr
    rw [putN_other _ _ hr', putN_other _ _ hr'] at hcr2
    exact hcr2
  · exact hk.imp id fun a => a.2.1
  · rcases hk with hk | hk | hk
    · rw [hk]; exact has_q eb L hp
    · exact has_cp hp hc (.inr (by rw [hk]; exact hga))
    · exact has_cp hp hc (.inl hk)

end Go.Proofs.Ytedfacbngefhnaa
