/- Contracts of ferrymanref07: last, Fits. -/
import Derived.Test.YtgmdhlchdjlgnaaBlockBase
namespace Go.Proofs.Ytgmdhlchdjlgnaa
open Go.RowKit

theorem takeR_snoc {l : List Rec} {q : Nat} (h : q < l.length) : l.take (q + 1) = l.take q ++ [l.getD q zeroR] := by
  rw [List.take_add_one]
  simp [List.getD, h]

set_option maxRecDepth 100000 in
set_option maxHeartbeats 1000000 in
theorem refLast_any (v : Value) (l : List Rec) (p : Int) (w : World) (hr : RdR w v l) :
    Calls Try.prog 22 #[v, .int .i64 p] w fun e w' => e = .returned (.int .i64 (lastSeq l p)) ∧ w' = w := by
  obtain ⟨ao, cap, rfl, hlc, hcm, -, -, hao⟩ := hr
  have hml : (l.length : Int) ≤ 9223372036854775807 := by unfold maxLen at hcm; omega
  have HAO := hide hao
  obtain ⟨R, hR⟩ : ∃ R, R = lastSeq l p := ⟨_, rfl⟩
  rw [← hR]
  have H0 : Hid (R = lastSeq (l.take l.length) p) := hide (by rw [List.take_length]; exact hR)
  clear hao hlc hcm hR
  go_enter Try.func22, Try.ntmps22
  go_wp2
  go_loopw [5] (fun vi wr => ∃ (i : Int) (k : Nat), vi = .int .i64 i ∧ i = (k : Int) - 1 ∧ k ≤ l.length ∧ Hid (R = lastSeq (l.take k) p) ∧ wr = w) (fun vi _ => (intOf vi + 1).toNat)
  case atStart => exact ⟨_, l.length, rfl, rfl, Nat.le_refl _, H0, rfl⟩
  case round =>
    obtain ⟨i, k, rfl, hi, hk, hL, hwr⟩ := hrel
    have hwr2 := hwr.symm
    subst hwr2
    clear hwr
    cases k with
    | zero =>
      have hneg : ¬ (0 ≤ i) := by omega
      have HE : Hid (R = 0) := hL.out
      clear hi hL
      go_wp2
      go_ret
      rw [HE.out]
      exact ⟨rfl, rfl⟩
    | succ q =>
      have hpos : 0 ≤ i := by omega
      obtain rfl : i = (q : Int) := by omega
      have hq : q < l.length := by omega
      rcases HAO.out with h0 | ⟨c, off, rfl, hc⟩
      · rw [h0] at hq; simp at hq
      obtain ⟨-, c1, c2, -⟩ := hc q hq
      have hE := hL.out
      rw [takeR_snoc hq, lastSeq_snoc] at hE
      have HE := hide hE
      clear hE hL hc hi hpos H0
      generalize l.getD q zeroR = r at *
      by_cases hp : r.proc = p
      · have hpe : (r.proc == p) = true := beq_iff_eq.2 hp
        have hE := HE.out
        rw [if_pos hp] at hE
        have HE2 := hide hE
        clear HE hp hE
        go_wp2
        go_ret
        rw [HE2.out]
        exact ⟨rfl, rfl⟩
      · have hpe : (r.proc == p) = false := beq_eq_false_iff_ne.2 hp
        have hE := HE.out
        rw [if_neg hp] at hE
        have HE2 := hide hE
        clear HE hp hE
        go_wp2
        go_roundw
        case rel => exact ⟨_, q, rfl, rfl, by omega, HE2, trivial⟩
        case measure => simp [intOf]

theorem chain_get : ∀ (l : List Rec) (i : Int) (j : Nat), chainR i l → j < l.length → (l.getD j zeroR).idx = i + j
  | r :: t, i, 0, h, _ => by
    have := h.1
    simp [List.getD, this]
  | r :: t, i, j + 1, h, hj => by
    have := chain_get t (i + 1) j h.2 (by simpa using hj)
    simp only [List.getD, List.getElem?_cons_succ] at this ⊢
    rw [this]
    omega

theorem chain_snoc : ∀ (l : List Rec) (i : Int) (r : Rec), chainR i (l ++ [r]) ↔ chainR i l ∧ r.idx = i + l.length
  | [], i, r => by simp [chainR]
  | s :: t, i, r => by
    rw [List.cons_append, chainR, chainR, chain_snoc t (i + 1) r, List.length_cons, and_assoc]
    constructor
    · rintro ⟨h1, h2, h3⟩
      exact ⟨h1, h2, by omega⟩
    · rintro ⟨h1, h2, h3⟩
      exact ⟨h1, h2, by omega⟩

theorem chain_take : ∀ (l : List Rec) (i : Int) (k : Nat), chainR i l → chainR i (l.take k)
  | _, _, 0, _ => by simp [chainR]
  | [], _, k + 1, _ => by simp [chainR]
  | r :: t, i, k + 1, h => by
    rw [List.take_succ_cons]
    exact ⟨h.1, chain_take t (i + 1) k h.2⟩

/-- The first records fit, one behind the other. -/
def partB (l : List Rec) (k : Nat) : Prop := (∀ r ∈ l.take k, FitsR r) ∧ chainR (l.headD zeroR).idx (l.take k)

theorem partB_zero (l : List Rec) : partB l 0 := ⟨fun r h => by simp at h, by simp [chainR]⟩

theorem partB_next {l : List Rec} {k : Nat} (hk : k < l.length) : partB l (k + 1) ↔ partB l k ∧ FitsR (l.getD k zeroR) ∧ (l.getD k zeroR).idx = (l.headD zeroR).idx + k := by
  unfold partB
  rw [takeR_snoc hk, chain_snoc]
  have hl : (l.take k).length = k := by simp; omega
  rw [hl]
  constructor
  · rintro ⟨h1, h2, h3⟩
    exact ⟨⟨fun r hr => h1 r (by simp [hr]), h2⟩, h1 _ (by simp), h3⟩
  · rintro ⟨⟨h1, h2⟩, h3, h4⟩
    refine ⟨fun r hr => ?_, h2, h4⟩
    rcases List.mem_append.1 hr with h | h
    · exact h1 r h
    · simp only [List.mem_singleton] at h
      rw [h]
      exact h3

theorem partB_all {l : List Rec} (h : partB l l.length) (h1 : 1 ≤ l.length) (h2 : l.length ≤ 256) : FitsB l := by
  unfold partB at h
  rw [List.take_length] at h
  exact ⟨h1, h2, h.1, h.2⟩

theorem FitsB.part {l : List Rec} (h : FitsB l) (k : Nat) : partB l k := ⟨fun r hr => h.2.2.1 r (List.mem_of_mem_take hr), chain_take l _ k h.2.2.2⟩

theorem partB_prev {l : List Rec} {k : Nat} (h : partB l (k + 1)) (hk : k < l.length) : (l.getD k zeroR).idx = (l.headD zeroR).idx + k ∧ FitsR (l.getD k zeroR) := ⟨((partB_next hk).1 h).2.2, ((partB_next hk).1 h).2.1⟩

set_option maxRecDepth 100000 in
set_option maxHeartbeats 2000000 in
theorem refFitsB_any (v : Value) (l : List Rec) (w : World) (hr : RdR w v l) :
    Calls Try.prog 13 #[v] w fun e w' => e = .returned (.bool (decide (FitsB l))) ∧ Below w.heap.size w w' := by
  have HR := hide hr
  obtain ⟨ao, cap, rfl, hlc, hcm, -, -, hao⟩ := hr
  have hml : (l.length : Int) ≤ 9223372036854775807 := by unfold maxLen at hcm; omega
  have HAO := hide hao
  clear hao hlc hcm
  by_cases h1 : 1 ≤ l.length
  case neg =>
    have HF : Hid (decide (FitsB l) = false) := decide_eq_false (fun h => h1 h.1)
    have h1' : (l.length : Int) < 1 := by omega
    rw [HF.out]
    go_enter Try.func13, Try.ntmps13
    go_wp2
    go_ret
    exact ⟨rfl, Below.refl _ _⟩
  have h1' : ¬ (l.length : Int) < 1 := by omega
  by_cases h2 : l.length ≤ 256
  case neg =>
    have HF : Hid (decide (FitsB l) = false) := decide_eq_false (fun h => h2 h.2.1)
    have h2' : 256 < (l.length : Int) := by omega
    rw [HF.out]
    go_enter Try.func13, Try.ntmps13
    go_wp2
    go_ret
    exact ⟨rfl, Below.refl _ _⟩
  have h2' : ¬ 256 < (l.length : Int) := by omega
  have HALL := hide (fun h => partB_all (l := l) h h1 h2)
  have HPART := hide (fun (h : FitsB l) k => h.part k)
  have HFR := hide (fun r W => refFitsR_any r W)
  obtain ⟨D, hD⟩ : ∃ D, D = decide (FitsB l) := ⟨_, rfl⟩
  rw [← hD]
  have HDT : Hid (partB l l.length → D = true) := fun h => by rw [hD]; exact decide_eq_true (HALL.out h)
  have HDF : Hid (∀ k, ¬ partB l k → D = false) := fun k h => by rw [hD]; exact decide_eq_false (fun hf => h (HPART.out hf k))
  have HP0 := hide (partB_zero l)
  clear hD HALL HPART h1 h2
  go_enter Try.func13, Try.ntmps13
  go_wp2
  go_loopw [3] (fun vi wr => ∃ k : Nat, vi = .int .i64 (k : Int) ∧ k ≤ l.length ∧ Hid (partB l k) ∧ Hid (Below w.heap.size w wr)) (fun vi _ => l.length - (intOf vi).toNat)
  case atStart => exact ⟨0, rfl, Nat.zero_le _, HP0, Below.refl _ _⟩
  case round =>
    obtain ⟨k, rfl, hk, hP, hB⟩ := hrel
    by_cases hlt : k < l.length
    case neg =>
      obtain rfl : k = l.length := by omega
      have HT := hide (HDT.out hP.out)
      go_wp2
      go_ret
      rw [HT.out]
      exact ⟨rfl, hB.out⟩
    rcases HAO.out with h0 | ⟨c, off, rfl, hc⟩
    · rw [h0] at hlt; simp at hlt
    have hck := hc k hlt
    have HBC := hide (fun W (h : Below w.heap.size w W) => hck.keep (h.block c hck.lt))
    have HPN := hide (partB_next hlt)
    have HPR : Hid (∀ q, k = q + 1 → (l.getD q zeroR).idx = (l.headD zeroR).idx + q ∧ FitsR (l.getD q zeroR) ∧ ∀ W, Below w.heap.size w W → RecAt W c (off + q * 7) (l.getD q zeroR)) := hide (fun q hq => by
      have hP2 := hP.out
      rw [hq] at hP2
      have h2 := partB_prev hP2 (by omega)
      have h3 := hc q (by omega)
      exact ⟨h2.1, h2.2, fun W h => h3.keep (h.block c h3.lt)⟩)
    have HZ : Hid (k = 0 → (l.getD k zeroR).idx = (l.headD zeroR).idx + k) := hide (fun h => by
      subst h
      cases l <;> simp)
    have hkc := HBC.out wr hB.out
    obtain ⟨c0, c1, c2, c3, c4, c5, c6⟩ := hkc
    have HFK := hide (HFR.out (l.getD k zeroR))
    have hFk : ∃ bf, bf = decide (FitsR (l.getD k zeroR)) := ⟨_, rfl⟩
    obtain ⟨bf, hbf⟩ := hFk
    rw [← hbf] at HFK
    have HBF := hide hbf
    unfold recV at HFK
    obtain ⟨r, hr⟩ : ∃ r, r = l.getD k zeroR := ⟨_, rfl⟩
    rw [← hr] at HFK HPN HBF HBC HZ c0 c1 c2 c3 c4 c5 c6
    clear hbf hc hck hr
    generalize (l.headD zeroR).idx = hx at *
    go_wp2_with fail
    refine (HFK.out _).mono ?_
    rintro e W1 ⟨rfl, hb1⟩
    have HB1 := hide (hB.out.trans (hb1.mono hB.out.size))
    clear hb1 c0 c1 c2 c3 c4 c5 c6 HFK
    cases bf with
    | false =>
      have HD := hide (HDF.out (k + 1) (fun h => of_decide_eq_false HBF.out.symm (HPN.out.1 h).2.1))
      go_upto_region 7 with fail
      go_quiet (fail)
      go_wp2
      go_ret
      rw [HD.out]
      exact ⟨rfl, below_drewN HB1.out _⟩
    | true =>
      have HFT := hide (of_decide_eq_true HBF.out.symm)
      cases k with
      | zero =>
        have HP1 := hide (HPN.out.2 ⟨hP.out, HFT.out, HZ.out rfl⟩)
        clear HPN HZ HPR HBC HBF
        go_upto_region 7 with fail
        go_quiet (fail)
        go_wp2
        go_roundw
        case rel => exact ⟨1, by go_num, by omega, HP1, below_drewN HB1.out _⟩
        case measure => simp [intOf]; omega
      | succ q =>
        obtain ⟨hi1, hi2, hi3⟩ := HPR.out q rfl
        have hq0 := (hi3 W1 HB1.out).1
        have hk0 := (HBC.out W1 HB1.out).1
        have hi4 : (l.getD q zeroR).idx < 4611686018427387904 := hi2.2.2.1
        have hi5 : 0 ≤ (l.getD q zeroR).idx := hi2.2.1
        have hqi : ((q + 1 : Nat) : Int) - 1 = (q : Int) := by omega
        have hql : (q : Int) < (l.length : Int) := by omega
        have HI1 := hide hi1
        clear hi1 hi2 hi3 HPR HBC HBF HZ
        generalize l.getD q zeroR = s at *
        by_cases hne : r.idx = s.idx + 1
        · have hneb : (r.idx != s.idx + 1) = false := by rw [bne_eq_false_iff_eq]; exact hne
          have HP1 := hide (HPN.out.2 ⟨hP.out, HFT.out, by rw [hne, HI1.out]; omega⟩)
          clear HPN hne
          go_upto_region 7 with fail
          go_quiet (fail)
          go_wp2
          go_roundw
          case rel => exact ⟨q + 1 + 1, by go_num, by omega, HP1, below_drewN HB1.out _⟩
          case measure => simp [intOf]; omega
        · have hneb : (r.idx != s.idx + 1) = true := by rw [bne_iff_ne]; exact hne
          have HD := hide (HDF.out (q + 1 + 1) (fun h => hne (by rw [(HPN.out.1 h).2.2, HI1.out]; omega)))
          clear HPN hne
          go_upto_region 7 with fail
          go_quiet (fail)
          go_wp2
          go_ret
          rw [HD.out]
          exact ⟨rfl, below_drewN HB1.out _⟩

end Go.Proofs.Ytgmdhlchdjlgnaa
