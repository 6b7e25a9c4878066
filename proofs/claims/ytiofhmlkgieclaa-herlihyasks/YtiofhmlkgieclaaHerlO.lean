/- Herlihy's engine: Step. -/
import Derived.Test.YtiofhmlkgieclaaHerlN
import Derived.Test.YtiofhmlkgieclaaObjsFold
namespace Go.Proofs.Ytiofhmlkgieclaa
open Go.RowKit Go.Maps

theorem go_log2 {e : Eg} {g : Gh} {p : Nat} (h : Inv e g) (hp : p < e.n) :
    (goE e p).log = e.log ∨ ∃ k, k < e.nodes.length ∧ 1 ≤ k ∧ (goE e p).log = e.log ++ [⟨e.log.length, (e.nd k).proc, (e.nd k).seq, (e.nd k).op, (stepO e.st (e.nd k).op).2⟩] := by
  unfold goE
  split <;> rename_i hx
  all_goals try exact .inl rfl
  · left
    unfold readOwnE
    split <;> rfl
  · obtain ⟨d1, d2, _⟩ := (h.P p hp).dec hx
    unfold decideE
    split
    · exact .inr ⟨(e.ps p).wanted, d2, d1, rfl⟩
    · exact .inl rfl

theorem go_resp {e : Eg} {p : Nat} (hr : I64 (e.ps p).resp) (hl : ∀ r ∈ e.log, RecOk r) : I64 ((goE e p).ps p).resp := by
  have hg : ∀ k, I64 (e.log.getD k zeroR).resp := fun k => by
    rcases Nat.lt_or_ge k e.log.length with a | a
    · have hm : e.log.getD k zeroR ∈ e.log := by simp [List.getD, a]
      exact (hl _ hm).2.2.2.2
    · have : e.log.getD k zeroR = zeroR := by simp [List.getD, a]
      rw [this]
      exact ⟨by decide, by decide⟩
  unfold goE
  split
  · exact hr
  · unfold announceE; dsimp only; rw [putN_same]; exact hr
  · unfold readHeadE; dsimp only; rw [putN_same]; exact hr
  · unfold readPlaceE; dsimp only; rw [putN_same]; exact hr
  · unfold readOwnE
    split
    · dsimp only; rw [putN_same]; exact hr
    · dsimp only; rw [putN_same]; exact hg _
  · unfold readTurnE; dsimp only; rw [putN_same]; exact hr
  · unfold readTurnsE; dsimp only; rw [putN_same]; exact hr
  · unfold decideE
    split
    · dsimp only; rw [putN_same]; exact hr
    · dsimp only; rw [putN_same]; exact hr
  · unfold readNextE; dsimp only; rw [putN_same]; exact hr
  · unfold tellPlaceE; dsimp only; rw [putN_same]; exact hr
  · unfold tellHeadE; dsimp only; rw [putN_same]; exact hr

theorem go_fit {e : Eg} {g : Gh} {p N : Nat} (h : Inv e g) (F : FitE e N) (hp : p < e.n) (hN : N ≤ 1000000) (hx : (e.ps p).nx ≠ .rest) : FitE (goE e p) (N + 2) := by
  have G := go_gone hx
  have hl := go_log2 h hp
  refine ⟨by rw [G.n]; exact F.n, by rw [G.nodes]; have := F.nodes; omega, ?_, fun q hq => ?_, ?_, fun q hq => ?_, by rw [G.nodes]; exact F.ops⟩
  · have := F.log
    rcases hl with hl | ⟨k, _, _, hl⟩
    · rw [hl]; omega
    · rw [hl]; simp; omega
  · rw [G.n] at hq
    have := F.seq q hq
    by_cases a : q = p
    · rw [a, G.seq]
      have := F.seq p hp
      omega
    · rw [G.other q a]; omega
  · rcases hl with hl | ⟨k, k1, k2, hl⟩
    · rw [hl]; exact F.recs
    · rw [hl]
      intro r hr
      rcases List.mem_append.1 hr with hr | hr
      · exact F.recs r hr
      · obtain rfl := List.mem_singleton.1 hr
        have pr := h.N.proc k k2 k1
        have sq := F.seq _ pr.1
        have hn := F.n
        have hlg := F.log
        have hm : e.nd k ∈ e.nodes := by unfold Eg.nd; simp [List.getD, k1]
        exact ⟨⟨by dsimp only; omega, by dsimp only; omega⟩, ⟨by dsimp only; omega, by dsimp only; omega⟩, ⟨by dsimp only; omega, by dsimp only; omega⟩, F.ops _ hm, stepO_resp _ _⟩
  · rw [G.n] at hq
    by_cases a : q = p
    · rw [a]
      exact go_resp (F.resp p hp) F.recs
    · rw [G.other q a]
      exact F.resp q hq

/-- A process has gone on, and its next step is stored. -/
theorem EgM.gone {K : Nat → Prop} {w W : World} {eb : Nat} {L : HL} {e : Eg} {g : Gh} {N p : Nat} {r : Ending} (I : Inv e g) (F : FitE e N) (hN : N ≤ 1000000) (hK : ∀ k, HasE eb L e.n k → ¬ K k) (hS : e.st.L = [] ∨ ∀ j, L.sv.ownBlock = some j → ¬ K j) (hKw : ∀ k, K k → k < w.heap.size)
    (hp : p < e.n) (hx : (e.ps p).nx ≠ .rest) (hd : GoDid w eb L (fun p => nxV (L.qs p) (e.ps p).nx) e (goE e p) N p r W) :
    r = .returned (nxV (L.qs p) ((goE e p).ps p).nx) ∧ (W.frozen? ⟨L.qs p, 2, none⟩ = false ∧ ∃ z, W.cell? ⟨L.qs p, 2, none⟩ = some z) ∧
      (EgM K (W.setCell ⟨L.qs p, 2, none⟩ (nxV (L.qs p) ((goE e p).ps p).nx)) eb (goE e p) (N + 2) ∧ Only (fun k => ¬ K k) w (W.setCell ⟨L.qs p, 2, none⟩ (nxV (L.qs p) ((goE e p).ps p).nx)) ∧
      (W.setCell ⟨L.qs p, 2, none⟩ (nxV (L.qs p) ((goE e p).ps p).nx)).cell? ⟨L.qs p, 5, none⟩ = some (.int .i64 ((goE e p).ps p).resp)) := by
  obtain ⟨L', M', g1, g2, g3, g4, g5, g6⟩ := hd
  have G := go_gone hx
  have hp' : p < (goE e p).n := by rw [G.n]; exact hp
  have hq := g2.pr p hp'
  have hc2 := hq.cell 2 rfl
  rw [g3] at hc2
  refine ⟨g1, ⟨hc2.2, _, hc2.1⟩, ?_⟩
  obtain ⟨k1, k2⟩ := g2.storeX hp' (nxV (L.qs p) ((goE e p).ps p).nx)
  rw [g3] at k1 k2
  have e1 : (putN (fun p => nxV (L.qs p) (e.ps p).nx) p (nxV (L.qs p) ((goE e p).ps p).nx)) = fun q => nxV (L'.qs q) ((goE e p).ps q).nx := by
    funext q
    rw [g3]
    by_cases a : q = p
    · rw [a, putN_same]
    · rw [putN_other _ _ a, G.other q a]
  rw [e1] at k1
  obtain ⟨g', hI⟩ := go_inv I hp
  have hk5 := (k1.pr p hp').cell 5 rfl
  rw [g3] at hk5
  refine ⟨⟨L', M', g', k1, hI, go_fit I F hp hN hx, ?_, ?_⟩, ?_, hk5.1⟩
  · intro k hk
    rw [G.n] at hk
    rcases g5 k hk with a | a
    · exact hK k a
    · exact fun b => by have := hKw k b; omega
  · rcases g6 with ⟨a, b⟩ | a
    · rw [a, b]; exact hS
    · exact .inr fun j hj b => by have := a j hj; have := hKw j b; omega
  · exact (g4.mono hK).setCell 2 (fun _ => hK _ (has_q eb L hp)) _

theorem enters_nx {x : Nx} (hx : x ≠ .rest) : ∀ args W, (callFunc (fnOf x) args).run Try.prog W = .ok (.enter (fnOf x) args) W := by
  cases x with
  | rest => exact absurd rfl hx
  | announce => exact enters_of Try.func39 (by kernel_rfl) rfl
  | readHead => exact enters_of Try.func44 (by kernel_rfl) rfl
  | readPlace => exact enters_of Try.func47 (by kernel_rfl) rfl
  | readOwn => exact enters_of Try.func51 (by kernel_rfl) rfl
  | readTurn => exact enters_of Try.func54 (by kernel_rfl) rfl
  | readTurns => exact enters_of Try.func56 (by kernel_rfl) rfl
  | decide => exact enters_of Try.func55 (by kernel_rfl) rfl
  | readNext => exact enters_of Try.func58 (by kernel_rfl) rfl
  | tellPlace => exact enters_of Try.func60 (by kernel_rfl) rfl
  | tellHead => exact enters_of Try.func63 (by kernel_rfl) rfl

/-- What Step answers, and leaves. -/
def Stept (K : Nat → Prop) (w : World) (eb : Nat) (e : Eg) (N : Nat) (p : Int) (r : Ending) (w' : World) : Prop :=
  r = .returned (.tuple #[.int .i64 (herlM.step e p).2.1, .bool (herlM.step e p).2.2]) ∧ EgM K w' eb (herlM.step e p).1 (N + 2) ∧ Only (fun k => ¬ K k) w w'

set_option maxRecDepth 100000 in
set_option maxHeartbeats 1000000 in
theorem step_anyE {K : Nat → Prop} {w : World} {eb : Nat} {e : Eg} {N : Nat} (h : EgM K w eb e N) (hKw : ∀ k, K k → k < w.heap.size) (hN : N ≤ 1000000) (p : Int) :
    Calls Try.prog 12 #[ptr eb, .int .i64 p] w fun r w' => Stept K w eb e N p r w' := by
  have hsf := run_store_func
  have hsn := run_store_nilFunc
  have HB := hide (busy_any h p)
  cases hbu : herlM.isBusy e p with
  | false =>
    rw [hbu] at HB
    have HE : Hid (∀ r, r = .returned (.tuple #[.int .i64 0, .bool false]) → Stept K w eb e N p r w) := hide fun r hr => by
      unfold Stept
      rw [herlM.step_idle hbu]
      exact ⟨hr, h.mono (by omega), Only.refl _ _⟩
    clear h hKw hN hbu
    go_enter Try.func12, Try.ntmps12
    go_wp2_with fail
    refine HB.out.mono ?_
    rintro r w' ⟨rfl, rfl⟩
    go_wp2
    refine bodyPost_ret (v := .tuple #[.int .i64 0, .bool false]) (by simp [results, Try.results12, go_sem]) rfl ?_
    exact HE.out _ rfl
  | true =>
    rw [hbu] at HB
    obtain ⟨q, rfl, hq0, hq, hbq⟩ := herlM.isBusy_has hbu
    have hq : q < e.n := hq
    have hx := herlM_busy.1 hbq
    have hstep : herlM.step e (q : Int) = if herlM.isBusy (goE e q) (q : Int) = true then (goE e q, 0, false) else (goE e q, ((goE e q).ps q).resp, true) := by
      unfold Mod.step
      rw [if_pos hbu, hq0]
      rfl
    obtain ⟨L, M, g, h1, h2, h3, h4, h5⟩ := id h
    obtain ⟨pb, pc, -, c0, c1, cp⟩ := h1.proc h2.G.n1
    have cq := cp q hq
    have c2 : w.cell? ⟨L.qs q, 2, none⟩ = some (.func (.func (fnOf (e.ps q).nx)) #[ptr (L.qs q)] #[]) := by rw [← nxV_ne _ hx]; exact ((h1.pr q hq).cell 2 rfl).1
    have HC : Hid (Calls Try.prog (fnOf (e.ps q).nx) #[ptr (L.qs q)] w fun r W => r = .returned (nxV (L.qs q) ((goE e q).ps q).nx) ∧ (W.frozen? ⟨L.qs q, 2, none⟩ = false ∧ ∃ z, W.cell? ⟨L.qs q, 2, none⟩ = some z) ∧
        (EgM K (W.setCell ⟨L.qs q, 2, none⟩ (nxV (L.qs q) ((goE e q).ps q).nx)) eb (goE e q) (N + 2) ∧ Only (fun k => ¬ K k) w (W.setCell ⟨L.qs q, 2, none⟩ (nxV (L.qs q) ((goE e q).ps q).nx)) ∧ (W.setCell ⟨L.qs q, 2, none⟩ (nxV (L.qs q) ((goE e q).ps q).nx)).cell? ⟨L.qs q, 5, none⟩ = some (.int .i64 ((goE e q).ps q).resp))) :=
      hide ((goP_any h1 h2 hq h3 hN hx).mono fun r W hd => EgM.gone h2 h3 hN h4 h5 hKw hq hx hd)
    have eg := enters_nx hx
    have HBS : Hid (∀ W, EgM K W eb (goE e q) (N + 2) → Calls Try.prog 13 #[ptr eb, .int .i64 (q : Int)] W fun r w' => r = .returned (.bool (herlM.isBusy (goE e q) (q : Int))) ∧ w' = W) := hide fun W hW => busy_any hW _
    have hqi : (q : Int) < (e.n : Int) := by omega
    have hnb : herlM.isBusy (goE e q) (q : Int) = decide (((goE e q).ps q).nx ≠ .rest) := isBusy_nat (by rw [(go_gone hx).n]; exact hq)
    by_cases hrest : ((goE e q).ps q).nx = .rest
    · have hbf : herlM.isBusy (goE e q) (q : Int) = false := by rw [hnb, hrest]; rfl
      rw [hbf] at hstep HBS
      rw [hrest, nxV_rest] at HC
      have HE : Hid (∀ W r, EgM K W eb (goE e q) (N + 2) → Only (fun k => ¬ K k) w W → r = .returned (.tuple #[.int .i64 ((goE e q).ps q).resp, .bool true]) → Stept K w eb e N (q : Int) r W) := hide fun W r a1 a2 a3 => by
        unfold Stept
        rw [hstep]
        exact ⟨a3, a1, a2⟩
      generalize fnOf (e.ps q).nx = fn at *
      generalize L.qs q = qb at *
      generalize ((goE e q).ps q).resp = R at *
      clear h hKw hN hbu hq0 hq hbq hx hstep h1 h2 h3 h4 h5 c0 cp hnb hrest hbf
      go_enter Try.func12, Try.ntmps12
      go_wp2_with fail
      refine HB.out.mono ?_
      rintro r w' ⟨rfl, rfl⟩
      go_wp2_with fail
      refine HC.out.mono ?_
      rintro r W1 ⟨rfl, ⟨f2, z2, hz2⟩, hm, ho, h5⟩
      obtain ⟨W2, hW2⟩ : ∃ W2, W2 = W1.setCell ⟨qb, 2, none⟩ .nilFunc := ⟨_, rfl⟩
      go_upto_region 5 with fail
      rw [← hW2] at hm ho h5 ⊢
      have HM := hide hm
      have HO := hide ho
      clear hm ho hW2
      go_wp2_with fail
      refine (HBS.out _ HM.out).mono ?_
      rintro r w' ⟨rfl, rfl⟩
      go_wp2
      refine bodyPost_ret (v := .tuple #[.int .i64 R, .bool true]) (by simp [results, Try.results12, go_sem]) rfl ?_
      exact HE.out _ _ HM.out HO.out rfl
    · have hbf : herlM.isBusy (goE e q) (q : Int) = true := by rw [hnb]; exact decide_eq_true hrest
      rw [hbf] at hstep HBS
      rw [nxV_ne _ hrest] at HC
      have HE : Hid (∀ W r, EgM K W eb (goE e q) (N + 2) → Only (fun k => ¬ K k) w W → r = .returned (.tuple #[.int .i64 0, .bool false]) → Stept K w eb e N (q : Int) r W) := hide fun W r a1 a2 a3 => by
        unfold Stept
        rw [hstep]
        exact ⟨a3, a1, a2⟩
      generalize fnOf (e.ps q).nx = fn at *
      generalize fnOf ((goE e q).ps q).nx = fn2 at *
      generalize L.qs q = qb at *
      clear h hKw hN hbu hq0 hq hbq hx hstep h1 h2 h3 h4 h5 c0 cp hnb hrest hbf
      go_enter Try.func12, Try.ntmps12
      go_wp2_with fail
      refine HB.out.mono ?_
      rintro r w' ⟨rfl, rfl⟩
      go_wp2_with fail
      refine HC.out.mono ?_
      rintro r W1 ⟨rfl, ⟨f2, z2, hz2⟩, hm, ho, -⟩
      obtain ⟨W2, hW2⟩ : ∃ W2, W2 = W1.setCell ⟨qb, 2, none⟩ (.func (.func fn2) #[ptr qb] #[]) := ⟨_, rfl⟩
      go_upto_region 5 with fail
      rw [← hW2] at hm ho ⊢
      have HM := hide hm
      have HO := hide ho
      clear hm ho hW2
      go_wp2_with fail
      refine (HBS.out _ HM.out).mono ?_
      rintro r w' ⟨rfl, rfl⟩
      go_wp2
      refine bodyPost_ret (v := .tuple #[.int .i64 0, .bool false]) (by simp [results, Try.results12, go_sem]) rfl ?_
      exact HE.out _ _ HM.out HO.out rfl

end Go.Proofs.Ytiofhmlkgieclaa
