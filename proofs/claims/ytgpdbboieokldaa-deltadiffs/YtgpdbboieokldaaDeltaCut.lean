/- Contracts of delta: isCut, noteAll. -/
import Derived.Test.YtgpdbboieokldaaDeltaBase
import Derived.Test.YtgpdbboieokldaaDeltaDiff
import Derived.Test.YtgpdbboieokldaaSnapTakeA
namespace Go.Proofs.Ytgpdbboieokldaa
open Go.RowKit

/-- Can so many numbers be cut by a delta? -/
def CutD (d : Delt) (n : Int) : Prop := 0 ≤ d.ahead ∧ 0 ≤ d.behind ∧ d.ahead + d.behind ≤ n

instance (d : Delt) (n : Int) : Decidable (CutD d n) := by unfold CutD; infer_instance

set_option maxRecDepth 100000 in
set_option maxHeartbeats 2000000 in
theorem isCut_any (v : Value) (d : Delt) (n : Int) (w : World) (hd : DlV w v d) (hn0 : 0 ≤ n) (hn1 : n ≤ 4611686018427387904) :
    Calls Try.prog 31 #[v, .int .i64 n] w fun x w' => x = .returned (.bool (decide (CutD d n))) ∧ Below w.heap.size w w' := by
  obtain ⟨ma, mc, ta, tc, rfl, -, -⟩ := hd.shape
  have HB0 : Hid (∀ X, Below w.heap.size w (w.alloc X)) := fun X => (Below.refl _ _).alloc (Nat.le_refl _) X
  obtain ⟨-, -, -, -, -, -, -, hia, hib, -⟩ := hd
  obtain ⟨D, hD⟩ : ∃ D, D = decide (CutD d n) := ⟨_, rfl⟩
  rw [← hD]
  have HU : Hid (CutD d n ↔ 0 ≤ d.ahead ∧ 0 ≤ d.behind ∧ d.ahead + d.behind ≤ n) := hide Iff.rfl
  have HD1 : Hid (CutD d n → D = true) := fun h => by rw [hD]; exact decide_eq_true h
  have HD0 : Hid (¬ CutD d n → D = false) := fun h => by rw [hD]; exact decide_eq_false h
  obtain ⟨fr, to_, ah, bh, mid, sh, en, tab⟩ := d
  dsimp only at *
  obtain ⟨ia0, ia1⟩ := hia
  obtain ⟨ib0, ib1⟩ := hib
  clear hD
  by_cases h1 : 0 ≤ ah
  case neg =>
    have HE := hide (HD0.out (fun h => h1 (HU.out.1 h).1))
    clear HD0 HD1 HU
    go_enter Try.func31, Try.ntmps31
    go_wp2
    go_ret
    rw [HE.out]
    exact ⟨rfl, HB0.out _⟩
  by_cases h2 : 0 ≤ bh
  case neg =>
    have HE := hide (HD0.out (fun h => h2 (HU.out.1 h).2.1))
    clear HD0 HD1 HU
    go_enter Try.func31, Try.ntmps31
    go_wp2
    go_ret
    rw [HE.out]
    exact ⟨rfl, HB0.out _⟩
  by_cases h3 : ah ≤ n
  case neg =>
    have HE := hide (HD0.out (fun h => by have := (HU.out.1 h).2.2; omega))
    clear HD0 HD1 HU
    go_enter Try.func31, Try.ntmps31
    go_wp2
    go_ret
    rw [HE.out]
    exact ⟨rfl, HB0.out _⟩
  by_cases h4 : bh ≤ n - ah
  · have HE := hide (HD1.out (HU.out.2 ⟨h1, h2, by omega⟩))
    clear HD0 HD1 HU
    go_enter Try.func31, Try.ntmps31
    go_wp2
    go_ret
    rw [HE.out]
    exact ⟨rfl, HB0.out _⟩
  · have HE := hide (HD0.out (fun h => by have := (HU.out.1 h).2.2; omega))
    have h4d : decide (bh ≤ n - ah) = false := decide_eq_false h4
    clear HD0 HD1 HU
    go_enter Try.func31, Try.ntmps31
    go_wp2
    go_ret
    rw [HE.out]
    exact ⟨rfl, HB0.out _⟩

/-- A table behind entries, as long as it is not too long. -/
def noteTo (t : List Ent) : List Ent → List Ent
  | [] => t
  | e :: D => if 65 < t.length then t else noteTo (noteL t e) D

theorem noteTo_stop {t : List Ent} (h : 65 < t.length) : ∀ D, noteTo t D = t
  | [] => rfl
  | _ :: _ => by rw [noteTo, if_pos h]

theorem noteTo_next {t : List Ent} (h : ¬ 65 < t.length) (e : Ent) (D : List Ent) : noteTo t (e :: D) = noteTo (noteL t e) D := by rw [noteTo, if_neg h]

theorem but_once (p : Int) : ∀ t : List Ent, t.length = (butP p t).length + (t.filter (fun x => decide (x.proc = p))).length
  | [] => rfl
  | x :: t => by
    have ih := but_once p t
    unfold butP at ih ⊢
    by_cases h : x.proc = p
    · simp [h] at ih ⊢
      omega
    · simp [h] at ih ⊢
      omega

theorem rises_once (p : Int) : ∀ {t : List Ent}, Rises t → (t.filter (fun x => decide (x.proc = p))).length ≤ 1
  | [], _ => by simp
  | z :: t, h => by
    have hz := (List.pairwise_cons.1 h).1
    have ih := rises_once p (List.pairwise_cons.1 h).2
    by_cases e : z.proc = p
    · have hn : t.filter (fun x => decide (x.proc = p)) = [] := by
        rw [List.filter_eq_nil_iff]
        intro x hx
        have := hz x hx
        rw [decide_eq_true_eq]
        omega
      rw [List.filter_cons, if_pos (decide_eq_true e), hn]
      simp
    · rw [List.filter_cons, if_neg (by simp [e])]
      exact ih

theorem noteL_grows {t : List Ent} (h : Rises t) (e : Ent) : t.length ≤ (noteL t e).length := by
  have h1 := but_once e.proc t
  have h2 := rises_once e.proc h
  have h3 := firstG_le e.proc (butP e.proc t)
  rw [noteL_ins, List.length_append, List.length_take, List.length_cons, List.length_drop]
  omega

theorem fold_grows : ∀ (D : List Ent) {t : List Ent}, Rises t → t.length ≤ (D.foldl noteL t).length
  | [], _, _ => Nat.le_refl _
  | e :: D, _, h => Nat.le_trans (noteL_grows h e) (fold_grows D (noteL_rises h))

theorem noteTo_fold : ∀ (D : List Ent) {t : List Ent}, Rises t → noteTo t D = D.foldl noteL t ∨ (65 < (noteTo t D).length ∧ 65 < (D.foldl noteL t).length)
  | [], _, _ => .inl rfl
  | e :: D, t, h => by
    by_cases hl : 65 < t.length
    · right
      rw [noteTo_stop hl]
      exact ⟨hl, Nat.lt_of_lt_of_le hl (fold_grows (e :: D) h)⟩
    · rw [noteTo_next hl, List.foldl_cons]
      exact noteTo_fold D (noteL_rises h)

theorem tabOk_noteTo {D t : List Ent} (h : Rises t) : (TabOk (noteTo t D) ↔ TabOk (D.foldl noteL t)) ∧ (TabOk (noteTo t D) → noteTo t D = D.foldl noteL t) := by
  rcases noteTo_fold D h with e | ⟨h1, h2⟩
  · rw [e]
    exact ⟨Iff.rfl, fun _ => rfl⟩
  · refine ⟨⟨fun hh => ?_, fun hh => ?_⟩, fun hh => ?_⟩
    · have := tabOk_few hh
      omega
    · have := tabOk_few hh
      omega
    · have := tabOk_few hh
      omega

theorem noteL_i {t : List Ent} {e : Ent} (h : ∀ x ∈ t, EntI x) (he : EntI e) : ∀ x ∈ noteL t e, EntI x := fun x hx => by
  rcases (noteL_mem t e x).1 hx with h1 | ⟨h1, -⟩
  · rw [h1]; exact he
  · exact h x h1

set_option maxRecDepth 100000 in
set_option maxHeartbeats 4000000 in
theorem noteAll_any (vt : Value) (t : List Ent) (vd : Value) (D : List Ent) (w : World) (ht : RdE w vt t) (hd : RdE w vd D) (hlim : t.length ≤ 1000) :
    Calls Try.prog 33 #[vt, vd] w fun x w' => ∃ v', x = .returned v' ∧ OwnE w' w.heap.size v' (noteTo t D) ∧ (∀ e ∈ noteTo t D, EntI e) ∧ Below w.heap.size w w' := by
  have HCL := hide (cloneE_any vt t w ht (by omega))
  have HNT : Hid (∀ W v T r, RdE W v T → RecOk r → T.length ≤ 2000 → Calls Try.prog 49 #[v, recV r] W fun e w' => ∃ v', e = .returned v' ∧ OwnE w' W.heap.size v' (noteL T ⟨r.proc, r.seq, r.resp⟩) ∧ Below W.heap.size W w') := hide (fun W v T r h1 h2 h3 => noteN_any v T r W h1 h2 h3)
  have hTI : ∀ e ∈ t, EntI e := ht.choose_spec.choose_spec.2.2.2.2.1
  have HTI := hide hTI
  obtain ⟨ta, tc, hv⟩ := ht.shape
  subst hv
  obtain ⟨da, dc, rfl, hlc, hcm, -, hDI, hao⟩ := hd
  have HAO := hide hao
  have HDI := hide hDI
  have hmi : (D.length : Int) ≤ 9223372036854775807 := by unfold maxLen at hcm; omega
  obtain ⟨NT, hNT⟩ : ∃ NT, NT = noteTo t D := ⟨_, rfl⟩
  rw [← hNT]
  have HN0 : Hid (NT = noteTo t (D.drop 0)) := hide (by rw [hNT, List.drop_zero])
  have HDR : Hid (∀ k, k < D.length → D.drop k = D.getD k zeroE :: D.drop (k + 1)) := hide (fun k hk => by
    rw [List.drop_eq_getElem_cons hk]
    simp [List.getD, hk])
  have HDE : Hid (∀ k, D.length ≤ k → D.drop k = []) := hide (fun k h => List.drop_eq_nil_of_le h)
  clear hNT hTI hao hDI hcm ht hlc
  go_enter Try.func33, Try.ntmps33
  go_wp2_with fail
  refine HCL.out.mono ?_
  rintro x W1 ⟨v1, rfl, ho1, hb1⟩
  have HO1 := hide ho1
  have HB1 := hide hb1
  clear ho1 hb1 HCL
  go_wp2
  go_loopw [5, 12] (fun vo vi wr => ∃ (k : Nat) (T : List Ent), vi = .int .i64 (k : Int) ∧ k ≤ D.length ∧ T.length ≤ 1000 ∧ Hid (NT = noteTo T (D.drop k)) ∧ Hid (OwnE wr w.heap.size vo T) ∧ Hid (∀ e ∈ T, EntI e) ∧ Hid (Below w.heap.size w wr)) (fun _ vi _ => D.length - (intOf vi).toNat)
  case atStart => exact ⟨0, t, rfl, Nat.zero_le _, hlim, HN0, HO1, HTI, HB1⟩
  case round =>
    clear HN0 HO1 HB1 HTI
    obtain ⟨k, T, rfl, hk, hT, hN, hO, hI, hB⟩ := hrel
    obtain ⟨va, vc, hv⟩ := hO.out.shape
    subst hv
    by_cases hlt : k < D.length
    case neg =>
      have hni : ¬ (k : Int) < (D.length : Int) := by omega
      have HE : Hid (NT = T) := hide (by rw [hN.out, HDE.out k (by omega)]; rfl)
      go_wp2
      go_ret
      rw [HE.out]
      exact ⟨_, rfl, hO.out, hI.out, hB.out⟩
    have hki : (k : Int) < (D.length : Int) := by omega
    rcases HAO.out with h0 | ⟨c, off, rfl, hc⟩
    · rw [h0] at hlt; simp at hlt
    obtain ⟨c0, c1, c2⟩ := (hc k hlt).keep (hB.out.block c (hc k hlt).lt)
    have HDK := hide (HDR.out k hlt)
    have hEI : EntI (D.getD k zeroE) := HDI.out _ (by simp [List.getD, hlt])
    obtain ⟨e, he⟩ : ∃ e, e = D.getD k zeroE := ⟨_, rfl⟩
    rw [← he] at HDK c0 c1 c2 hEI
    have HEI := hide hEI
    have HBA : Hid (∀ X, Below w.heap.size w (wr.alloc X)) := hide (fun X => hB.out.alloc hB.out.size X)
    have HOA : Hid (∀ X, OwnE (wr.alloc X) w.heap.size (.slice va T.length vc) T) := hide (fun X => hO.out.below ((Below.refl _ _).alloc (Nat.le_refl _) X) (Nat.le_refl _))
    clear he hc HAO HDR HDE HDI hEI
    by_cases hl : 65 < T.length
    · have HE : Hid (NT = T) := hide (by rw [hN.out]; exact noteTo_stop hl _)
      have hli : (65 : Int) < (T.length : Int) := by omega
      obtain ⟨ep, es, er⟩ := e
      dsimp only at *
      go_wp2
      go_ret
      rw [HE.out]
      exact ⟨_, rfl, HOA.out _, hI.out, HBA.out _⟩
    · have HN2 : Hid (NT = noteTo (noteL T e) (D.drop (k + 1))) := hide (by rw [hN.out, HDK.out]; exact noteTo_next hl _ _)
      have hnl := noteL_len T e
      have i00 : I64 0 := i64_small (by decide) (by decide)
      have HI2 := hide (noteL_i hI.out HEI.out)
      have HNQ : Hid (∀ X, Calls Try.prog 49 #[.slice va T.length vc, recV ⟨0, e.proc, e.seq, ⟨0, 0, 0⟩, e.resp⟩] (wr.alloc X) fun x w' => ∃ v', x = .returned v' ∧ OwnE w' (wr.alloc X).heap.size v' (noteL T e) ∧ Below (wr.alloc X).heap.size (wr.alloc X) w') := hide (fun X => HNT.out (wr.alloc X) _ T ⟨0, e.proc, e.seq, ⟨0, 0, 0⟩, e.resp⟩ ((HOA.out X).rd hI.out) ⟨i00, HEI.out.1, HEI.out.2.1, ⟨i00, i00, i00⟩, HEI.out.2.2⟩ (by omega))
      have hli : ¬ (65 : Int) < (T.length : Int) := by omega
      generalize noteL T e = T2 at *
      obtain ⟨ep, es, er⟩ := e
      unfold recV at HNQ
      dsimp only at *
      clear HNT HDK hN
      go_wp2_with fail
      refine (HNQ.out _).mono ?_
      rintro x W2 ⟨v2, rfl, ho2, hb2⟩
      have HO2 := hide (ho2.mono (B' := w.heap.size) (HBA.out _).size)
      have HB2 := hide ((HBA.out _).trans (hb2.mono (HBA.out _).size))
      clear ho2 hb2 HNQ
      go_wp2
      go_roundw
      case rel => exact ⟨k + 1, T2, by go_num, by omega, by omega, HN2, HO2, HI2, HB2⟩
      case measure => simp [intOf]; omega

end Go.Proofs.Ytgpdbboieokldaa
