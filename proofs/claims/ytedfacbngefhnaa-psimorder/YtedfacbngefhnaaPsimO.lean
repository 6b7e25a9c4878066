/- The engine that copies: Step. -/
import Derived.Test.YtedfacbngefhnaaPsimN
import Derived.Test.YtedfacbngefhnaaObjsFold
namespace Go.Proofs.Ytedfacbngefhnaa
open Go.RowKit Go.Maps

theorem numb_ok : ∀ (l : List Rec) (k : Nat), (∀ r ∈ l, RecOk r) → k + l.length ≤ 1000000000 → ∀ r ∈ numb k l, RecOk r
  | [], _, _, _, r, hr => by simp [numb] at hr
  | s :: t, k, h, hk, r, hr => by
    unfold numb at hr
    rw [List.length_cons] at hk
    rcases List.mem_cons.1 hr with rfl | hr
    · have := h s List.mem_cons_self
      exact ⟨⟨by dsimp only; omega, by dsimp only; omega⟩, this.2⟩
    · exact numb_ok t (k + 1) (fun r hr => h r (List.mem_cons_of_mem _ hr)) (by omega) r hr

theorem FitE.next {e e' : Eg} {p N : Nat} {q' : Pc} (F : FitE e N) (hn : e'.n = e.n) (hps : e'.ps = putN e.ps p q') (hseq : q'.seq = (e.ps p).seq) (hop : q'.op = (e.ps p).op) (hlog : e'.log.length ≤ e.log.length + 128) (hrecs : ∀ r ∈ e'.log, RecOk r) (hresp : I64 q'.resp)
    (hops : ∀ a, a < e.n → OpOk (e'.ops a)) (hlast : ∀ a, a < e.n → I64 (e'.last a).resp) (hfr : ∀ r ∈ q'.fresh, RecOk r) (hml : ∀ a, a < e.n → I64 (q'.mlast a).resp) : FitE e' (N + 2) := by
  have key : ∀ (P : Pc → Prop), P q' → (∀ q, q < e.n → P (e.ps q)) → ∀ q, q < e.n → P (e'.ps q) := fun P h1 h2 q hq => by
    rw [hps]
    by_cases a : q = p
    · rw [a, putN_same]; exact h1
    · rw [putN_other _ _ a]; exact h2 q hq
  have hseq2 : ∀ q, (e'.ps q).seq = (e.ps q).seq ∧ (e'.ps q).op = (e.ps q).op := fun q => by
    rw [hps]
    by_cases a : q = p
    · rw [a, putN_same]; exact ⟨hseq, hop⟩
    · rw [putN_other _ _ a]; exact ⟨rfl, rfl⟩
  refine ⟨by rw [hn]; exact F.n, by have := F.log; omega, fun q hq => ?_, hrecs, fun q hq => ?_, fun q hq => ?_, fun a ha => ?_, fun q hq => ?_, fun q hq => ?_⟩
  · rw [hn] at hq
    rw [(hseq2 q).1]
    have := F.seq q hq
    omega
  · rw [hn] at hq
    exact key (fun q => I64 q.resp) hresp F.resp q hq
  · rw [hn] at hq
    rw [(hseq2 q).2]
    exact ⟨hops q hq, (F.ops q hq).2⟩
  · rw [hn] at ha
    exact hlast a ha
  · rw [hn] at hq
    exact key (fun q => ∀ r ∈ q.fresh, RecOk r) hfr F.fresh q hq
  · rw [hn] at hq ⊢
    exact key (fun q => ∀ a, a < e.n → I64 (q.mlast a).resp) hml F.mlast q hq

theorem go_fit {e : Eg} {g : Nat → Nat} {p N : Nat} (h : Inv e g) (F : FitE e N) (hp : p < e.n) (hN : N ≤ 150000) (hx : (e.ps p).nx ≠ .rest) : FitE (goE e p) (N + 2) := by
  have hops : ∀ a, a < e.n → OpOk (e.ops a) := fun a ha => (F.ops a ha).1
  unfold goE
  split <;> rename_i hx'
  · exact absurd hx' hx
  · refine F.next rfl rfl rfl rfl (by show e.log.length ≤ _; omega) F.recs (F.resp p hp) (fun a ha => ?_) F.last (F.fresh p hp) (F.mlast p hp)
    show OpOk (putN e.ops p (e.ps p).op a)
    by_cases b : a = p
    · rw [b, putN_same]; exact (F.ops p hp).2
    · rw [putN_other _ _ b]; exact hops a ha
  · unfold copyE
    split
    · exact F.next rfl rfl rfl rfl (by dsimp only; omega) F.recs (F.last p hp) hops F.last nofun F.last
    · exact F.next rfl rfl rfl rfl (by dsimp only; omega) F.recs (F.resp p hp) hops F.last nofun F.last
  · have ha := (h.M p hp (.inl hx')).asked hx'
    have PA := h.P _ ha
    have sA := F.seq _ ha
    have hn := F.n
    have hann : e.ann (e.ps p).asked ≤ N := by
      by_cases b : (e.ps (e.ps p).asked).nx = .rest
      · rw [(PA.rest b).1]; exact sA
      · by_cases c : (e.ps (e.ps p).asked).nx = .announce
        · have := (PA.wait c).1; have := PA.le; omega
        · rw [(PA.ann b c).1]; exact sA
    have lo := look_same e (e.ps p)
    have lr : (lookP e (e.ps p)).resp = (e.ps p).resp := by unfold lookP; split <;> rfl
    refine F.next (q' := { lookP e (e.ps p) with nx := if (e.ps p).asked + 1 < e.n then .readAnn else .swapIn, did := (e.ps p).did + 1, asked := (e.ps p).asked + 1 }) rfl rfl lo.1 lo.2.1 (by show e.log.length ≤ _; omega) F.recs (by show I64 (lookP e (e.ps p)).resp; rw [lr]; exact F.resp p hp) hops F.last ?_ ?_
    · show ∀ r ∈ (lookP e (e.ps p)).fresh, RecOk r
      unfold lookP
      split
      · intro r hr
        have hr : r ∈ (e.ps p).fresh ++ _ := hr
        rcases List.mem_append.1 hr with hr | hr
        · exact F.fresh p hp r hr
        · obtain rfl := List.mem_singleton.1 hr
          exact ⟨⟨by dsimp only; omega, by dsimp only; omega⟩, ⟨by dsimp only; omega, by dsimp only; omega⟩, ⟨by dsimp only; omega, by dsimp only; omega⟩, hops _ ha, stepO_resp _ _⟩
      · exact F.fresh p hp
    · show ∀ a, a < e.n → I64 ((lookP e (e.ps p)).mlast a).resp
      intro a ha2
      by_cases b : a = (e.ps p).asked
      · unfold lookP
        split
        · show I64 (putN (e.ps p).mlast (e.ps p).asked (⟨e.ann (e.ps p).asked, (stepO (e.ps p).mst (e.ops (e.ps p).asked)).2⟩ : An) a).resp
          rw [b, putN_same]
          exact stepO_resp _ _
        · exact F.mlast p hp a ha2
      · rw [look_mlast b]
        exact F.mlast p hp a ha2
  · have M := h.M p hp (.inr hx')
    have hl := M.len
    have hall := M.all hx'
    have hn := F.n
    have hlg := F.log
    unfold swapE
    split
    · refine F.next rfl rfl rfl rfl ?_ (fun r hr => ?_) (F.mlast p hp p hp) hops (F.mlast p hp) (F.fresh p hp) (F.mlast p hp)
      · dsimp only
        rw [List.length_append, numb_length]
        omega
      · rcases List.mem_append.1 hr with hr | hr
        · exact F.recs r hr
        · exact numb_ok _ _ (F.fresh p hp) (by omega) r hr
    · exact F.next rfl rfl rfl rfl (by dsimp only; omega) F.recs (F.resp p hp) hops F.last (F.fresh p hp) (F.mlast p hp)

/-- A process has gone on, and its next step is stored. -/
theorem EgM.gone {K : Nat → Prop} {w W : World} {eb : Nat} {L : HL} {e : Eg} {g : Nat → Nat} {N p : Nat} {r : Ending} (I : Inv e g) (F : FitE e N) (hN : N ≤ 150000) (hK : ∀ k, HasE eb L e.n k → ¬ K k) (hS : ∀ k, L.S k → ¬ K k) (hC : ∀ p, p < e.n → (e.ps p).nx = .readAnn ∨ (e.ps p).nx = .swapIn → L.cp p) (hKw : ∀ k, K k → k < w.heap.size)
    (hp : p < e.n) (hx : (e.ps p).nx ≠ .rest) (hd : ∃ L' M', GoDid w eb L (fun p => nxV (L.qs p) (e.ps p).nx) e (goE e p) N p r W L' M') :
    r = .returned (nxV (L.qs p) ((goE e p).ps p).nx) ∧ (W.frozen? ⟨L.qs p, 2, none⟩ = false ∧ ∃ z, W.cell? ⟨L.qs p, 2, none⟩ = some z) ∧
      (EgM K (W.setCell ⟨L.qs p, 2, none⟩ (nxV (L.qs p) ((goE e p).ps p).nx)) eb (goE e p) (N + 2) ∧ Only (fun k => ¬ K k) w (W.setCell ⟨L.qs p, 2, none⟩ (nxV (L.qs p) ((goE e p).ps p).nx)) ∧
      (W.setCell ⟨L.qs p, 2, none⟩ (nxV (L.qs p) ((goE e p).ps p).nx)).cell? ⟨L.qs p, 8, none⟩ = some (.int .i64 ((goE e p).ps p).resp)) := by
  obtain ⟨L', M', d⟩ := hd
  have G := go_gone hx
  have hp' : p < (goE e p).n := by rw [G.n]; exact hp
  have hq := d.eng.pr p hp'
  have hc2 := hq.cell 2 rfl
  rw [d.qs] at hc2
  refine ⟨d.ret, ⟨hc2.2, _, hc2.1⟩, ?_⟩
  obtain ⟨k1, k2⟩ := d.eng.storeX hp' (nxV (L.qs p) ((goE e p).ps p).nx)
  rw [d.qs] at k1 k2
  have e1 : (putN (fun p => nxV (L.qs p) (e.ps p).nx) p (nxV (L.qs p) ((goE e p).ps p).nx)) = fun q => nxV (L'.qs q) ((goE e p).ps q).nx := by
    funext q
    rw [d.qs]
    by_cases a : q = p
    · rw [a, putN_same]
    · rw [putN_other _ _ a, G.other q a]
  rw [e1] at k1
  obtain ⟨g', hI⟩ := go_inv I hp
  have hk5 := (k1.pr p hp').cell 8 rfl
  rw [d.qs] at hk5
  refine ⟨⟨L', M', g', k1, hI, go_fit I F hp hN hx, fun k hk => ?_, fun k hk => ?_, fun q hq hn => ?_⟩, (d.only.mono hK).setCell 2 (fun _ => hK _ (has_q eb L hp)) _, hk5.1⟩
  · rw [G.n] at hk
    rcases d.has k hk with a | a
    · exact hK k a
    · exact fun b => by have := hKw k b; omega
  · rcases d.num k hk with a | a
    · exact hS k a
    · exact fun b => by have := hKw k b; omega
  · rw [G.n] at hq
    by_cases a : q = p
    · rw [a] at hn ⊢
      exact d.own hn
    · rw [G.other q a] at hn
      exact d.cp q hq a (hC q hq hn)

theorem enters_nx {x : Nx} (hx : x ≠ .rest) : ∀ args W, (callFunc (fnOf x) args).run Try.prog W = .ok (.enter (fnOf x) args) W := by
  cases x with
  | rest => exact absurd rfl hx
  | announce => exact enters_of Try.func38 (by kernel_rfl) rfl
  | copy => exact enters_of Try.func43 (by kernel_rfl) rfl
  | readAnn => exact enters_of Try.func49 (by kernel_rfl) rfl
  | swapIn => exact enters_of Try.func54 (by kernel_rfl) rfl

/-- What Step answers, and leaves. -/
def Stept (K : Nat → Prop) (w : World) (eb : Nat) (e : Eg) (N : Nat) (p : Int) (r : Ending) (w' : World) : Prop :=
  r = .returned (.tuple #[.int .i64 (herlM.step e p).2.1, .bool (herlM.step e p).2.2]) ∧ EgM K w' eb (herlM.step e p).1 (N + 2) ∧ Only (fun k => ¬ K k) w w'

set_option maxRecDepth 100000 in
set_option maxHeartbeats 1000000 in
theorem step_anyE {K : Nat → Prop} {w : World} {eb : Nat} {e : Eg} {N : Nat} (h : EgM K w eb e N) (hKw : ∀ k, K k → k < w.heap.size) (hN : N ≤ 150000) (p : Int) :
    Calls Try.prog 12 #[ptr eb, .int .i64 p] w fun r w' => Stept K w eb e N p r w' := by
  have hsf := run_store_func
  have hsn := run_store_nilFunc
  have HB := hide (busy_any h p)
  cases hbu : herlM.isBusy e p with
  | false =>
    rw [hbu] at HB
    have HE : Hid (∀ r, r = .returned (.tuple #[.int .i64 0, .bool false]) → Stept K w eb e N p r w) := hide fun r hr => by
      unfold Stept
      rw [herlM.step_idle hbu]
      exact ⟨hr, h.mono (by omega), Only.refl _ _⟩
    clear h hKw hN hbu
    go_enter Try.func12, Try.ntmps12
    go_wp2_with fail
    refine HB.out.mono ?_
    rintro r w' ⟨rfl, rfl⟩
    go_wp2
    refine bodyPost_ret (v := .tuple #[.int .i64 0, .bool false]) (by simp [results, Try.results12, go_sem]) rfl ?_
    exact HE.out _ rfl
  | true =>
    rw [hbu] at HB
    obtain ⟨q, rfl, hq0, hq, hbq⟩ := herlM.isBusy_has hbu
    have hq : q < e.n := hq
    have hx := herlM_busy.1 hbq
    have hstep : herlM.step e (q : Int) = if herlM.isBusy (goE e q) (q : Int) = true then (goE e q, 0, false) else (goE e q, ((goE e q).ps q).resp, true) := by
      unfold Mod.step
      rw [if_pos hbu, hq0]
      rfl
    obtain ⟨L, M, g, h1, h2, h3, h4, h5, h6⟩ := id h
    obtain ⟨pb, pc, -, c0, c1, cp⟩ := h1.proc h2.G.n1
    have cq := cp q hq
    have c2 : w.cell? ⟨L.qs q, 2, none⟩ = some (.func (.func (fnOf (e.ps q).nx)) #[ptr (L.qs q)] #[]) := by rw [← nxV_ne _ hx]; exact ((h1.pr q hq).cell 2 rfl).1
    have HC : Hid (Calls Try.prog (fnOf (e.ps q).nx) #[ptr (L.qs q)] w fun r W => r = .returned (nxV (L.qs q) ((goE e q).ps q).nx) ∧ (W.frozen? ⟨L.qs q, 2, none⟩ = false ∧ ∃ z, W.cell? ⟨L.qs q, 2, none⟩ = some z) ∧
        (EgM K (W.setCell ⟨L.qs q, 2, none⟩ (nxV (L.qs q) ((goE e q).ps q).nx)) eb (goE e q) (N + 2) ∧ Only (fun k => ¬ K k) w (W.setCell ⟨L.qs q, 2, none⟩ (nxV (L.qs q) ((goE e q).ps q).nx)) ∧ (W.setCell ⟨L.qs q, 2, none⟩ (nxV (L.qs q) ((goE e q).ps q).nx)).cell? ⟨L.qs q, 8, none⟩ = some (.int .i64 ((goE e q).ps q).resp))) :=
      hide ((goP_any h1 h2 hq h3 hN hx (h6 q hq)).mono fun r W hd => EgM.gone h2 h3 hN h4 h5 h6 hKw hq hx hd)
    have eg := enters_nx hx
    have HBS : Hid (∀ W, EgM K W eb (goE e q) (N + 2) → Calls Try.prog 13 #[ptr eb, .int .i64 (q : Int)] W fun r w' => r = .returned (.bool (herlM.isBusy (goE e q) (q : Int))) ∧ w' = W) := hide fun W hW => busy_any hW _
    have hqi : (q : Int) < (e.n : Int) := by omega
    have hnb : herlM.isBusy (goE e q) (q : Int) = decide (((goE e q).ps q).nx ≠ .rest) := isBusy_nat (by rw [(go_gone hx).n]; exact hq)
    by_cases hrest : ((goE e q).ps q).nx = .rest
    · have hbf : herlM.isBusy (goE e q) (q : Int) = false := by rw [hnb, hrest]; rfl
      rw [hbf] at hstep HBS
      rw [hrest, nxV_rest] at HC
      have HE : Hid (∀ W r, EgM K W eb (goE e q) (N + 2) → Only (fun k => ¬ K k) w W → r = .returned (.tuple #[.int .i64 ((goE e q).ps q).resp, .bool true]) → Stept K w eb e N (q : Int) r W) := hide fun W r a1 a2 a3 => by
        unfold Stept
        rw [hstep]
        exact ⟨a3, a1, a2⟩
      generalize fnOf (e.ps q).nx = fn at *
      generalize L.qs q = qb at *
      generalize ((goE e q).ps q).resp = R at *
      clear h hKw hN hbu hq0 hq hbq hx hstep h1 h2 h3 h4 h5 h6 c0 cp hnb hrest hbf
      go_enter Try.func12, Try.ntmps12
      go_wp2_with fail
      refine HB.out.mono ?_
      rintro r w' ⟨rfl, rfl⟩
      go_wp2_with fail
      refine HC.out.mono ?_
      rintro r W1 ⟨rfl, ⟨f2, z2, hz2⟩, hm, ho, h5⟩
      obtain ⟨W2, hW2⟩ : ∃ W2, W2 = W1.setCell ⟨qb, 2, none⟩ .nilFunc := ⟨_, rfl⟩
      go_upto_region 5 with fail
      rw [← hW2] at hm ho h5 ⊢
      have HM := hide hm
      have HO := hide ho
      clear hm ho hW2
      go_wp2_with fail
      refine (HBS.out _ HM.out).mono ?_
      rintro r w' ⟨rfl, rfl⟩
      go_wp2
      refine bodyPost_ret (v := .tuple #[.int .i64 R, .bool true]) (by simp [results, Try.results12, go_sem]) rfl ?_
      exact HE.out _ _ HM.out HO.out rfl
    · have hbf : herlM.isBusy (goE e q) (q : Int) = true := by rw [hnb]; exact decide_eq_true hrest
      rw [hbf] at hstep HBS
      rw [nxV_ne _ hrest] at HC
      have HE : Hid (∀ W r, EgM K W eb (goE e q) (N + 2) → Only (fun k => ¬ K k) w W → r = .returned (.tuple #[.int .i64 0, .bool false]) → Stept K w eb e N (q : Int) r W) := hide fun W r a1 a2 a3 => by
        unfold Stept
        rw [hstep]
        exact ⟨a3, a1, a2⟩
      generalize fnOf (e.ps q).nx = fn at *
      generalize fnOf ((goE e q).ps q).nx = fn2 at *
      generalize L.qs q = qb at *
      clear h hKw hN hbu hq0 hq hbq hx hstep h1 h2 h3 h4 h5 h6 c0 cp hnb hrest hbf
      go_enter Try.func12, Try.ntmps12
      go_wp2_with fail
      refine HB.out.mono ?_
      rintro r w' ⟨rfl, rfl⟩
      go_wp2_with fail
      refine HC.out.mono ?_
      rintro r W1 ⟨rfl, ⟨f2, z2, hz2⟩, hm, ho, -⟩
      obtain ⟨W2, hW2⟩ : ∃ W2, W2 = W1.setCell ⟨qb, 2, none⟩ (.func (.func fn2) #[ptr qb] #[]) := ⟨_, rfl⟩
      go_upto_region 5 with fail
      rw [← hW2] at hm ho ⊢
      have HM := hide hm
      have HO := hide ho
      clear hm ho hW2
      go_wp2_with fail
      refine (HBS.out _ HM.out).mono ?_
      rintro r w' ⟨rfl, rfl⟩
      go_wp2
      refine bodyPost_ret (v := .tuple #[.int .i64 0, .bool false]) (by simp [results, Try.results12, go_sem]) rfl ?_
      exact HE.out _ _ HM.out HO.out rfl

end Go.Proofs.Ytedfacbngefhnaa
