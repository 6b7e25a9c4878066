import Derived.Test.YtddhcohjmgdajaaDoorPack3
import Derived.Deep.RegionHeld
import Derived.Test.YtddhcohjmgdajaaDoorPack2
/- Contracts of ferrymanref07: last, Fits. -/
namespace Go.Proofs.YtddhcohjmgdajaaDoor
open Go.RowKit

theorem takeR_snoc {l : List Rec} {q : Nat} (h : q < l.length) : l.take (q + 1) = l.take q ++ [l.getD q zeroR] := by
  rw [List.take_add_one]
  simp [List.getD, h]

set_option maxRecDepth 100000 in
set_option maxHeartbeats 1000000 in
theorem refLast_any (v : Value) (l : List Rec) (p : Int) (w : World) (hr : RdR w v l) :
    Calls Tryd.prog 82 #[v, .int .i64 p] w fun e w' => e = .returned (.int .i64 (lastSeq l p)) ∧ w' = w := by
  obtain ⟨ao, cap, rfl, hlc, hcm, -, -, hao⟩ := hr
  have hml : (l.length : Int) ≤ 9223372036854775807 := by unfold maxLen at hcm; omega
  have HAO := hide hao
  obtain ⟨R, hR⟩ : ∃ R, R = lastSeq l p := ⟨_, rfl⟩
  rw [← hR]
  have H0 : Hid (R = lastSeq (l.take l.length) p) := hide (by rw [List.take_length]; exact hR)
  clear hao hlc hcm hR
  go_enter Tryd.func82, Tryd.ntmps82
  go_wp2
  go_loopw [5] (fun vi wr => ∃ (i : Int) (k : Nat), vi = .int .i64 i ∧ i = (k : Int) - 1 ∧ k ≤ l.length ∧ Hid (R = lastSeq (l.take k) p) ∧ wr = w) (fun vi _ => (intOf vi + 1).toNat)
  case atStart => exact ⟨_, l.length, rfl, rfl, Nat.le_refl _, H0, rfl⟩
  case round =>
    obtain ⟨i, k, rfl, hi, hk, hL, hwr⟩ := hrel
    have hwr2 := hwr.symm
    subst hwr2
    clear hwr
    cases k with
    | zero =>
      have hneg : ¬ (0 ≤ i) := by omega
      have HE : Hid (R = 0) := hL.out
      clear hi hL
      go_wp2
      go_ret
      rw [HE.out]
      exact ⟨rfl, rfl⟩
    | succ q =>
      have hpos : 0 ≤ i := by omega
      obtain rfl : i = (q : Int) := by omega
      have hq : q < l.length := by omega
      rcases HAO.out with h0 | ⟨c, off, rfl, hc⟩
      · rw [h0] at hq; simp at hq
      obtain ⟨-, c1, c2, -⟩ := hc q hq
      have hE := hL.out
      rw [takeR_snoc hq, lastSeq_snoc] at hE
      have HE := hide hE
      clear hE hL hc hi hpos H0
      generalize l.getD q zeroR = r at *
      by_cases hp : r.proc = p
      · have hpe : (r.proc == p) = true := beq_iff_eq.2 hp
        have hE := HE.out
        rw [if_pos hp] at hE
        have HE2 := hide hE
        clear HE hp hE
        go_wp2
        go_ret
        rw [HE2.out]
        exact ⟨rfl, rfl⟩
      · have hpe : (r.proc == p) = false := beq_eq_false_iff_ne.2 hp
        have hE := HE.out
        rw [if_neg hp] at hE
        have HE2 := hide hE
        clear HE hp hE
        go_wp2
        go_roundw
        case rel => exact ⟨_, q, rfl, rfl, by omega, HE2, trivial⟩
        case measure => simp [intOf]

theorem chain_get : ∀ (l : List Rec) (i : Int) (j : Nat), chainR i l → j < l.length → (l.getD j zeroR).idx = i + j
  | r :: t, i, 0, h, _ => by
    have := h.1
    simp [List.getD, this]
  | r :: t, i, j + 1, h, hj => by
    have := chain_get t (i + 1) j h.2 (by simpa using hj)
    simp only [List.getD, List.getElem?_cons_succ] at this ⊢
    rw [this]
    omega

theorem chain_snoc : ∀ (l : List Rec) (i : Int) (r : Rec), chainR i (l ++ [r]) ↔ chainR i l ∧ r.idx = i + l.length
  | [], i, r => by simp [chainR]
  | s :: t, i, r => by
    rw [List.cons_append, chainR, chainR, chain_snoc t (i + 1) r, List.length_cons, and_assoc]
    constructor
    · rintro ⟨h1, h2, h3⟩
      exact ⟨h1, h2, by omega⟩
    · rintro ⟨h1, h2, h3⟩
      exact ⟨h1, h2, by omega⟩

theorem chain_take : ∀ (l : List Rec) (i : Int) (k : Nat), chainR i l → chainR i (l.take k)
  | _, _, 0, _ => by simp [chainR]
  | [], _, k + 1, _ => by simp [chainR]
  | r :: t, i, k + 1, h => by
    rw [List.take_succ_cons]
    exact ⟨h.1, chain_take t (i + 1) k h.2⟩

/-- The first records fit, one behind the other. -/
def partB (l : List Rec) (k : Nat) : Prop := (∀ r ∈ l.take k, FitsR r) ∧ chainR (l.headD zeroR).idx (l.take k)

theorem partB_zero (l : List Rec) : partB l 0 := ⟨fun r h => by simp at h, by simp [chainR]⟩

theorem partB_next {l : List Rec} {k : Nat} (hk : k < l.length) : partB l (k + 1) ↔ partB l k ∧ FitsR (l.getD k zeroR) ∧ (l.getD k zeroR).idx = (l.headD zeroR).idx + k := by
  unfold partB
  rw [takeR_snoc hk, chain_snoc]
  have hl : (l.take k).length = k := by simp; omega
  rw [hl]
  constructor
  · rintro ⟨h1, h2, h3⟩
    exact ⟨⟨fun r hr => h1 r (by simp [hr]), h2⟩, h1 _ (by simp), h3⟩
  · rintro ⟨⟨h1, h2⟩, h3, h4⟩
    refine ⟨fun r hr => ?_, h2, h4⟩
    rcases List.mem_append.1 hr with h | h
    · exact h1 r h
    · simp only [List.mem_singleton] at h
      rw [h]
      exact h3

theorem partB_all {l : List Rec} (h : partB l l.length) (h1 : 1 ≤ l.length) (h2 : l.length ≤ 256) : FitsB l := by
  unfold partB at h
  rw [List.take_length] at h
  exact ⟨h1, h2, h.1, h.2⟩

theorem FitsB.part {l : List Rec} (h : FitsB l) (k : Nat) : partB l k := ⟨fun r hr => h.2.2.1 r (List.mem_of_mem_take hr), chain_take l _ k h.2.2.2⟩

theorem partB_prev {l : List Rec} {k : Nat} (h : partB l (k + 1)) (hk : k < l.length) : (l.getD k zeroR).idx = (l.headD zeroR).idx + k ∧ FitsR (l.getD k zeroR) := ⟨((partB_next hk).1 h).2.2, ((partB_next hk).1 h).2.1⟩

set_option maxRecDepth 100000 in
set_option maxHeartbeats 2000000 in
theorem refFitsB_any (v : Value) (l : List Rec) (w : World) (hr : RdR w v l) :
    Calls Tryd.prog 80 #[v] w fun e w' => e = .returned (.bool (decide (FitsB l))) ∧ Below w.heap.size w w' := by
  have HR := hide hr
  obtain ⟨ao, cap, rfl, hlc, hcm, -, -, hao⟩ := hr
  have hml : (l.length : Int) ≤ 9223372036854775807 := by unfold maxLen at hcm; omega
  have HAO := hide hao
  clear hao hlc hcm
  by_cases h1 : 1 ≤ l.length
  case neg =>
    have HF : Hid (decide (FitsB l) = false) := decide_eq_false (fun h => h1 h.1)
    have h1' : (l.length : Int) < 1 := by omega
    rw [HF.out]
    go_enter Tryd.func80, Tryd.ntmps80
    go_wp2
    go_ret
    exact ⟨rfl, Below.refl _ _⟩
  have h1' : ¬ (l.length : Int) < 1 := by omega
  by_cases h2 : l.length ≤ 256
  case neg =>
    have HF : Hid (decide (FitsB l) = false) := decide_eq_false (fun h => h2 h.2.1)
    have h2' : 256 < (l.length : Int) := by omega
    rw [HF.out]
    go_enter Tryd.func80, Tryd.ntmps80
    go_wp2
    go_ret
    exact ⟨rfl, Below.refl _ _⟩
  have h2' : ¬ 256 < (l.length : Int) := by omega
  have HALL := hide (fun h => partB_all (l := l) h h1 h2)
  have HPART := hide (fun (h : FitsB l) k => h.part k)
  have HFR := hide (fun r W => refFitsR_any r W)
  obtain ⟨D, hD⟩ : ∃ D, D = decide (FitsB l) := ⟨_, rfl⟩
  rw [← hD]
  have HDT : Hid (partB l l.length → D = true) := fun h => by rw [hD]; exact decide_eq_true (HALL.out h)
  have HDF : Hid (∀ k, ¬ partB l k → D = false) := fun k h => by rw [hD]; exact decide_eq_false (fun hf => h (HPART.out hf k))
  have HP0 := hide (partB_zero l)
  clear hD HALL HPART h1 h2
  go_enter Tryd.func80, Tryd.ntmps80
  go_wp2
  go_loopw [3] (fun vi wr => ∃ k : Nat, vi = .int .i64 (k : Int) ∧ k ≤ l.length ∧ Hid (partB l k) ∧ Hid (Below w.heap.size w wr)) (fun vi _ => l.length - (intOf vi).toNat)
  case atStart => exact ⟨0, rfl, Nat.zero_le _, HP0, Below.refl _ _⟩
  case round =>
    obtain ⟨k, rfl, hk, hP, hB⟩ := hrel
    by_cases hlt : k < l.length
    case neg =>
      obtain rfl : k = l.length := by omega
      have HT := hide (HDT.out hP.out)
      go_wp2
      go_ret
      rw [HT.out]
      exact ⟨rfl, hB.out⟩
    rcases HAO.out with h0 | ⟨c, off, rfl, hc⟩
    · rw [h0] at hlt; simp at hlt
    have hck := hc k hlt
    have HBC := hide (fun W (h : Below w.heap.size w W) => hck.keep (h.block c hck.lt))
    have HPN := hide (partB_next hlt)
    have HPR : Hid (∀ q, k = q + 1 → (l.getD q zeroR).idx = (l.headD zeroR).idx + q ∧ FitsR (l.getD q zeroR) ∧ ∀ W, Below w.heap.size w W → RecAt W c (off + q * 7) (l.getD q zeroR)) := hide (fun q hq => by
      have hP2 := hP.out
      rw [hq] at hP2
      have h2 := partB_prev hP2 (by omega)
      have h3 := hc q (by omega)
      exact ⟨h2.1, h2.2, fun W h => h3.keep (h.block c h3.lt)⟩)
    have HZ : Hid (k = 0 → (l.getD k zeroR).idx = (l.headD zeroR).idx + k) := hide (fun h => by
      subst h
      cases l <;> simp)
    have hkc := HBC.out wr hB.out
    obtain ⟨c0, c1, c2, c3, c4, c5, c6⟩ := hkc
    have HFK := hide (HFR.out (l.getD k zeroR))
    have hFk : ∃ bf, bf = decide (FitsR (l.getD k zeroR)) := ⟨_, rfl⟩
    obtain ⟨bf, hbf⟩ := hFk
    rw [← hbf] at HFK
    have HBF := hide hbf
    unfold recV at HFK
    obtain ⟨r, hr⟩ : ∃ r, r = l.getD k zeroR := ⟨_, rfl⟩
    rw [← hr] at HFK HPN HBF HBC HZ c0 c1 c2 c3 c4 c5 c6
    clear hbf hc hck hr
    generalize (l.headD zeroR).idx = hx at *
    go_wp2_with fail
    refine (HFK.out _).mono ?_
    rintro e W1 ⟨rfl, hb1⟩
    have HB1 := hide (hB.out.trans (hb1.mono hB.out.size))
    clear hb1 c0 c1 c2 c3 c4 c5 c6 HFK
    cases bf with
    | false =>
      have HD := hide (HDF.out (k + 1) (fun h => of_decide_eq_false HBF.out.symm (HPN.out.1 h).2.1))
      go_upto_region 7 with fail
      go_quiet (fail)
      go_wp2
      go_ret
      rw [HD.out]
      exact ⟨rfl, below_drewN HB1.out _⟩
    | true =>
      have HFT := hide (of_decide_eq_true HBF.out.symm)
      cases k with
      | zero =>
        have HP1 := hide (HPN.out.2 ⟨hP.out, HFT.out, HZ.out rfl⟩)
        clear HPN HZ HPR HBC HBF
        go_upto_region 7 with fail
        go_quiet (fail)
        go_wp2
        go_roundw
        case rel => exact ⟨1, by go_num, by omega, HP1, below_drewN HB1.out _⟩
        case measure => simp [intOf]; omega
      | succ q =>
        obtain ⟨hi1, hi2, hi3⟩ := HPR.out q rfl
        have hq0 := (hi3 W1 HB1.out).1
        have hk0 := (HBC.out W1 HB1.out).1
        have hi4 : (l.getD q zeroR).idx < 4611686018427387904 := hi2.2.2.1
        have hi5 : 0 ≤ (l.getD q zeroR).idx := hi2.2.1
        have hqi : ((q + 1 : Nat) : Int) - 1 = (q : Int) := by omega
        have hql : (q : Int) < (l.length : Int) := by omega
        have HI1 := hide hi1
        clear hi1 hi2 hi3 HPR HBC HBF HZ
        generalize l.getD q zeroR = s at *
        by_cases hne : r.idx = s.idx + 1
        · have hneb : (r.idx != s.idx + 1) = false := by rw [bne_eq_false_iff_eq]; exact hne
          have HP1 := hide (HPN.out.2 ⟨hP.out, HFT.out, by rw [hne, HI1.out]; omega⟩)
          clear HPN hne
          go_upto_region 7 with fail
          go_quiet (fail)
          go_wp2
          go_roundw
          case rel => exact ⟨q + 1 + 1, by go_num, by omega, HP1, below_drewN HB1.out _⟩
          case measure => simp [intOf]; omega
        · have hneb : (r.idx != s.idx + 1) = true := by rw [bne_iff_ne]; exact hne
          have HD := hide (HDF.out (q + 1 + 1) (fun h => hne (by rw [(HPN.out.1 h).2.2, HI1.out]; omega)))
          clear HPN hne
          go_upto_region 7 with fail
          go_quiet (fail)
          go_wp2
          go_ret
          rw [HD.out]
          exact ⟨rfl, below_drewN HB1.out _⟩

end Go.Proofs.YtddhcohjmgdajaaDoor

/- Contracts of ferrymanref08: records, May. -/
namespace Go.Proofs.YtddhcohjmgdajaaDoor
open Go.RowKit

/-- The first records may stand there from an index on. -/
def recP (l : List Rec) (first : Int) (k : Nat) : Prop := (∀ r ∈ l.take k, FitsR r) ∧ chainR first (l.take k)

theorem recP_zero (l : List Rec) (first : Int) : recP l first 0 := ⟨fun r h => by simp at h, by simp [chainR]⟩

theorem recP_next {l : List Rec} {first : Int} {k : Nat} (hk : k < l.length) : recP l first (k + 1) ↔ recP l first k ∧ FitsR (l.getD k zeroR) ∧ (l.getD k zeroR).idx = first + k := by
  unfold recP
  rw [takeR_snoc hk, chain_snoc]
  have hl : (l.take k).length = k := by rw [List.length_take]; omega
  rw [hl]
  constructor
  · rintro ⟨h1, h2, h3⟩
    exact ⟨⟨fun r hr => h1 r (by simp [hr]), h2⟩, h1 _ (by simp), h3⟩
  · rintro ⟨⟨h1, h2⟩, h3, h4⟩
    refine ⟨fun r hr => ?_, h2, h4⟩
    rcases List.mem_append.1 hr with h | h
    · exact h1 r h
    · rw [List.mem_singleton.1 h]; exact h3

theorem recP_all {l : List Rec} {first : Int} (h4 : l.length ≤ 4096) : recP l first l.length ↔ RecsOk l first := by
  unfold recP RecsOk
  rw [List.take_length]
  exact ⟨fun h => ⟨h4, h.1, h.2⟩, fun h => ⟨h.2.1, h.2.2⟩⟩

theorem recsOk_part {l : List Rec} {first : Int} (h : RecsOk l first) (k : Nat) : recP l first k := ⟨fun r hr => h.2.1 r (List.mem_of_mem_take hr), chain_take l first k h.2.2⟩

/-- An index that is begun with is one that may be. -/
theorem recP_first {l : List Rec} {first : Int} {k : Nat} (h : recP l first k) (hk : 1 ≤ k) (hl : k ≤ l.length) : 0 ≤ first ∧ first < 4611686018427387904 := by
  cases l with
  | nil => simp at hl; omega
  | cons r t =>
    obtain ⟨j, rfl⟩ : ∃ j, k = j + 1 := ⟨k - 1, by omega⟩
    unfold recP at h
    rw [List.take_succ_cons] at h
    have h1 := h.1 r (by simp)
    have h2 := h.2.1
    obtain ⟨_, i0, i1, _⟩ := h1
    omega

set_option maxRecDepth 100000 in
set_option maxHeartbeats 2000000 in
theorem records_any (v : Value) (l : List Rec) (first : Int) (w : World) (hr : RdR w v l) (hf : I64 first) :
    Calls Tryd.prog 32 #[v, .int .i64 first] w fun e w' => e = .returned (.bool (decide (RecsOk l first))) ∧ Below w.heap.size w w' := by
  obtain ⟨ao, cap, rfl, hlc, hcm, -, -, hao⟩ := hr
  have hml : (l.length : Int) ≤ 9223372036854775807 := by unfold maxLen at hcm; omega
  have HAO := hide hao
  clear hao hlc hcm
  obtain ⟨D, hD⟩ : ∃ D, D = decide (RecsOk l first) := ⟨_, rfl⟩
  rw [← hD]
  by_cases h4 : l.length ≤ 4096
  case neg =>
    have h4' : 4096 < (l.length : Int) := by omega
    have HD : Hid (D = false) := by rw [hD]; exact decide_eq_false (fun h => h4 h.1)
    clear hD h4
    go_enter Tryd.func32, Tryd.ntmps32
    go_wp2
    go_ret
    rw [HD.out]
    exact ⟨rfl, Below.refl _ _⟩
  have h4' : ¬ 4096 < (l.length : Int) := by omega
  have HFR := hide (fun r W => refFitsR_any r W)
  have HDT : Hid (recP l first l.length → D = true) := fun h => by rw [hD]; exact decide_eq_true ((recP_all h4).1 h)
  have HDF : Hid (∀ k, ¬ recP l first k → D = false) := fun k h => by rw [hD]; exact decide_eq_false (fun hf => h (recsOk_part hf k))
  have HP0 := hide (recP_zero l first)
  have HI := hide hf
  clear hD hf
  go_enter Tryd.func32, Tryd.ntmps32
  go_wp2
  go_loopw [5] (fun vi wr => ∃ k : Nat, vi = .int .i64 (k : Int) ∧ k ≤ l.length ∧ Hid (recP l first k) ∧ Hid (Below w.heap.size w wr)) (fun vi _ => l.length - (intOf vi).toNat)
  case atStart => exact ⟨0, rfl, Nat.zero_le _, HP0, Below.refl _ _⟩
  case round =>
    obtain ⟨k, rfl, hk, hP, hB⟩ := hrel
    by_cases hlt : k < l.length
    case neg =>
      obtain rfl : k = l.length := by omega
      have HT := hide (HDT.out hP.out)
      go_wp2
      go_ret
      rw [HT.out]
      exact ⟨rfl, hB.out⟩
    rcases HAO.out with h0 | ⟨c, off, rfl, hc⟩
    · rw [h0] at hlt; simp at hlt
    have hck := hc k hlt
    have HBC := hide (fun W (h : Below w.heap.size w W) => hck.keep (h.block c hck.lt))
    have HPN := hide (recP_next (first := first) hlt)
    have hw0 : first + (k : Int) ≤ 9223372036854775807 ∧ -9223372036854775808 ≤ first + (k : Int) := by
      have := HI.out.1
      have := HI.out.2
      by_cases h0 : k = 0
      · omega
      · have := recP_first hP.out (by omega) (by omega)
        omega
    obtain ⟨hw1, hw2⟩ := hw0
    have hkc := HBC.out wr hB.out
    obtain ⟨c0, c1, c2, c3, c4, c5, c6⟩ := hkc
    have HFK := hide (HFR.out (l.getD k zeroR))
    obtain ⟨bf, hbf⟩ : ∃ bf, bf = decide (FitsR (l.getD k zeroR)) := ⟨_, rfl⟩
    rw [← hbf] at HFK
    have HBF := hide hbf
    unfold recV at HFK
    obtain ⟨r, hr⟩ : ∃ r, r = l.getD k zeroR := ⟨_, rfl⟩
    rw [← hr] at HFK HPN HBF HBC c0 c1 c2 c3 c4 c5 c6
    clear hbf hc hck hr
    go_wp2_with fail
    refine (HFK.out _).mono ?_
    rintro e W1 ⟨rfl, hb1⟩
    have HB1 := hide (hB.out.trans (hb1.mono hB.out.size))
    clear hb1 c0 c1 c2 c3 c4 c5 c6 HFK
    cases bf with
    | false =>
      have HD := hide (HDF.out (k + 1) (fun h => of_decide_eq_false HBF.out.symm (HPN.out.1 h).2.1))
      go_wp2
      go_ret
      rw [HD.out]
      exact ⟨rfl, HB1.out⟩
    | true =>
      have HFT := hide (of_decide_eq_true HBF.out.symm)
      have hk0 := (HBC.out W1 HB1.out).1
      clear HBC HBF
      by_cases hne : r.idx = first + k
      · have hneb : (r.idx != first + k) = false := by rw [bne_eq_false_iff_eq]; exact hne
        have HP1 := hide (HPN.out.2 ⟨hP.out, HFT.out, hne⟩)
        clear HPN hne
        go_wp2
        go_roundw
        case rel => exact ⟨k + 1, by go_num, by omega, HP1, HB1⟩
        case measure => simp [intOf]; omega
      · have hneb : (r.idx != first + k) = true := by rw [bne_iff_ne]; exact hne
        have HD := hide (HDF.out (k + 1) (fun h => hne (HPN.out.1 h).2.2))
        clear HPN hne
        go_wp2
        go_ret
        rw [HD.out]
        exact ⟨rfl, HB1.out⟩

set_option maxRecDepth 100000 in
set_option maxHeartbeats 2000000 in
theorem refMay_any (v : Value) (s : Seg) (w : World) (hs : SgV w v s) :
    Calls Tryd.prog 24 #[v] w fun e w' => e = .returned (.bool (decide (MayG s))) ∧ Below w.heap.size w w' := by
  obtain ⟨vl, rfl, hr, hk, hf⟩ := hs
  have HB0 : Hid (∀ X, Below w.heap.size w (w.alloc X)) := fun X => (Below.refl _ _).alloc (Nat.le_refl _) X
  have HRC := hide (fun X => records_any vl s.recs s.first (w.alloc X) (hr.below (HB0.out X) (Nat.le_refl _)) hf)
  obtain ⟨D, hD⟩ : ∃ D, D = decide (MayG s) := ⟨_, rfl⟩
  rw [← hD]
  obtain ⟨ao, cap, rfl, -⟩ := hr
  obtain ⟨kind, first, recs⟩ := s
  simp only at *
  clear hk hf
  by_cases h1 : 0 ≤ kind
  case neg =>
    have HD : Hid (D = false) := by rw [hD]; exact decide_eq_false (fun h => h1 h.1.1)
    clear hD HRC
    go_enter Tryd.func24, Tryd.ntmps24
    go_wp2
    go_ret
    rw [HD.out]
    exact ⟨rfl, HB0.out _⟩
  by_cases h2 : kind < 6
  case neg =>
    have HD : Hid (D = false) := by rw [hD]; exact decide_eq_false (fun h => h2 h.1.2.1)
    clear hD HRC
    go_enter Tryd.func24, Tryd.ntmps24
    go_wp2
    go_ret
    rw [HD.out]
    exact ⟨rfl, HB0.out _⟩
  by_cases h3 : 0 ≤ first
  case neg =>
    have HD : Hid (D = false) := by rw [hD]; exact decide_eq_false (fun h => h3 h.1.2.2.1)
    clear hD HRC
    go_enter Tryd.func24, Tryd.ntmps24
    go_wp2
    go_ret
    rw [HD.out]
    exact ⟨rfl, HB0.out _⟩
  by_cases h4 : first < 4611686018427387904
  case neg =>
    have HD : Hid (D = false) := by rw [hD]; exact decide_eq_false (fun h => h4 h.1.2.2.2)
    clear hD HRC
    go_enter Tryd.func24, Tryd.ntmps24
    go_wp2
    go_ret
    rw [HD.out]
    exact ⟨rfl, HB0.out _⟩
  have HD : Hid (decide (RecsOk recs first) = D) := by
    refine hide ?_
    rw [hD]
    by_cases h5 : RecsOk recs first
    · rw [decide_eq_true h5, decide_eq_true (show MayG ⟨kind, first, recs⟩ from ⟨⟨h1, h2, h3, h4⟩, h5⟩)]
    · rw [decide_eq_false h5, decide_eq_false (fun h : MayG ⟨kind, first, recs⟩ => h5 h.2)]
  rw [HD.out] at HRC
  clear hD HD
  go_enter Tryd.func24, Tryd.ntmps24
  go_wp2_with fail
  refine (HRC.out _).mono ?_
  rintro e W1 ⟨rfl, hb1⟩
  have HB1 := hide ((HB0.out _).trans (hb1.mono (HB0.out _).size))
  clear hb1
  go_wp2
  go_ret
  exact ⟨rfl, HB1.out⟩

end Go.Proofs.YtddhcohjmgdajaaDoor

/- Contract of ferrymanref07: Encode. -/
namespace Go.Proofs.YtddhcohjmgdajaaDoor
open Go.RowKit

theorem putOpL_len30 {o : Opn} (h : FitsO o) : (putOpL o).length ≤ 30 := by
  have h1 := uv10 (fits_i64 h).1
  have h2 := uv10 (fits_i64 h).2
  have hc0 : 0 ≤ o.code := h.1
  have hc1 : o.code ≤ 10 := h.2.1
  have h3 := uv10' (n := o.code.toNat) (by omega)
  unfold putOpL
  rw [List.length_append, List.length_append]
  omega

theorem encOne_len {pre : List Rec} (hp : ∀ r ∈ pre, FitsR r) {r : Rec} (hr : FitsR r) : (encOne pre r).length ≤ 60 := by
  have hd := diff_i64 hp hr
  have hresp := fitsR_resp hr
  have h4 := putOpL_len30 hr.1
  obtain ⟨_, _, _, _, _, hp0, hp1, _⟩ := hr
  have h1 := uv10' (n := r.proc.toNat) (by omega)
  have h2 := uv10 hd
  have h3 := uv10 hresp
  unfold encOne
  simp only [List.length_append]
  omega

theorem encRs_len : ∀ (l pre : List Rec), (∀ r ∈ pre, FitsR r) → (∀ r ∈ l, FitsR r) → (encRs pre l).length ≤ 60 * l.length
  | [], _, _, _ => by simp [encRs]
  | r :: t, pre, hp, hl => by
    have h1 := encOne_len hp (hl r (by simp))
    have h2 := encRs_len t (pre ++ [r]) (fun s hs => by
      rcases List.mem_append.1 hs with h | h
      · exact hp s h
      · simp at h; rw [h]; exact hl r (by simp)) (fun s hs => hl s (by simp [hs]))
    rw [encRs, List.length_append, List.length_cons]
    omega

/-- What is encoded: the bytes, or none and ErrArg. -/
def EncodedB (w : World) (l : List Rec) (e : Ending) (w' : World) : Prop :=
  ∃ v', e = .returned (.tuple #[v', .int .i64 (if FitsB l then 0 else 1)]) ∧ Own w' w.heap.size v' (if FitsB l then encB l else []) ∧ Below w.heap.size w w'

set_option maxRecDepth 100000 in
set_option maxHeartbeats 4000000 in
theorem refEncodeB_any (v : Value) (l : List Rec) (w : World) (hr : RdR w v l) :
    Calls Tryd.prog 64 #[v] w fun e w' => EncodedB w l e w' := by
  have HR := hide hr
  have HF := hide (fun W h => refFitsB_any v l W h)
  obtain ⟨ao, cap, rfl, hlc, hcm, -, -, hao⟩ := hr
  have hml : (l.length : Int) ≤ 9223372036854775807 := by unfold maxLen at hcm; omega
  have HAO := hide hao
  have HLC := hide hlc
  clear hao hlc hcm
  unfold EncodedB
  by_cases hf : FitsB l
  case neg =>
    simp only [if_neg hf]
    rw [decide_eq_false hf] at HF
    clear hf
    go_enter Tryd.func64, Tryd.ntmps64
    go_wp2_with fail
    refine (HF.out _ HR.out).mono ?_
    rintro e W1 ⟨rfl, hb1⟩
    have HB1 := hide hb1
    clear hb1
    go_wp2
    go_ret2
    exact ⟨_, rfl, Own.nil _ _, HB1.out⟩
  simp only [if_pos hf]
  rw [decide_eq_true hf] at HF
  have h1 : 1 ≤ l.length := hf.1
  have h2 : l.length ≤ 256 := hf.2.1
  rcases HAO.out with h0 | ⟨c, off, rfl, hc⟩
  · rw [h0] at h1; simp at h1
  have HAT : Hid (∀ k, k < l.length → ∀ W, Below w.heap.size w W → RecAt W c (off + k * 7) (l.getD k zeroR)) := hide (fun k hk W h => (hc k hk).keep (h.block c (hc k hk).lt))
  have HFR : Hid (∀ k, k < l.length → FitsR (l.getD k zeroR)) := hide (fun k hk => hf.2.2.1 _ (by simp [List.getD, hk]))
  have HFT : Hid (∀ k, ∀ r ∈ l.take k, FitsR r) := hide (fun k r hr => hf.2.2.1 r (List.mem_of_mem_take hr))
  have hh : l.headD zeroR = l.getD 0 zeroR := by cases l <;> simp
  obtain ⟨_, i0, i1, _⟩ := HFR.out 0 h1
  have HP := hide (fun v l n w h hl => refPut_any v l n w h hl)
  have HS := hide (fun v l n w h hl (hi : I64 n) => refPutSigned_any v l n w h hl hi.1 hi.2)
  have HO := hide (fun v l o w h hl => refPutOp_any v l o w h hl)
  have HLA := hide (fun v l p w h => refLast_any v l p w h)
  have HEB : Hid (encB l = (Lib.uvarint (l.getD 0 zeroR).idx.toNat ++ Lib.uvarint l.length) ++ encRs [] (l.take l.length)) := hide (by
    unfold encB
    rw [hh, List.take_length, List.append_assoc])
  have HNX := hide (fun k hk => encRs_snoc l k hk)
  have HLN : Hid (∀ k, (encRs [] (l.take k)).length ≤ 60 * 256) := hide (fun k => by
    have h3 := encRs_len (l.take k) [] (fun r hr => by simp at hr) (HFT.out k)
    have h4 : (l.take k).length ≤ l.length := by simp; omega
    omega)
  have u1 := uv10' (n := (l.getD 0 zeroR).idx.toNat) (by omega)
  have u2 := uv10' (n := l.length) (by omega)
  have HP1 : Hid (∀ W, Calls Tryd.prog 30 #[.slice none 0 0, .int .i64 (l.getD 0 zeroR).idx] W fun e w' => ∃ v', e = .returned v' ∧ Own w' W.heap.size v' (Lib.uvarint (l.getD 0 zeroR).idx.toNat) ∧ Below W.heap.size W w') := fun W => by
    have h := HP.out (.slice none 0 0) [] (l.getD 0 zeroR).idx W (Rd.nil W) (by simp)
    rw [putOf_small i0 (by omega), List.nil_append] at h
    exact h
  have HP2 : Hid (∀ v1 A W, A.length ≤ 10 → Rd W v1 A → Calls Tryd.prog 30 #[v1, .int .i64 (l.length : Int)] W fun e w' => ∃ v', e = .returned v' ∧ Own w' W.heap.size v' (A ++ Lib.uvarint l.length) ∧ Below W.heap.size W w') := fun v1 A W hA h => by
    have h := HP.out v1 A (l.length : Int) W h (by omega)
    rw [putOf_small (by omega) (by omega), Int.toNat_natCast] at h
    exact h
  rw [HEB.out]
  have hHl : (Lib.uvarint (l.getD 0 zeroR).idx.toNat ++ Lib.uvarint l.length).length ≤ 20 := by rw [List.length_append]; omega
  have hc00 := (HAT.out 0 h1)
  have HC0 := hide hc00
  clear hf hc hh HEB i0 i1 u2 hc00
  generalize (l.getD 0 zeroR) = r0 at *
  generalize Lib.uvarint r0.idx.toNat = A at *
  obtain ⟨H, hH⟩ : ∃ H, H = A ++ Lib.uvarint l.length := ⟨_, rfl⟩
  rw [← hH] at hHl ⊢
  have HH := hide hH
  clear hH
  go_enter Tryd.func64, Tryd.ntmps64
  go_wp2_with fail
  refine (HF.out _ HR.out).mono ?_
  rintro e W1 ⟨rfl, hb1⟩
  have HB1 := hide hb1
  have hk0 : W1.cell? ⟨c, off, none⟩ = some (.int .i64 r0.idx) := by
    have h := (HC0.out W1 hb1).1
    rwa [Nat.zero_mul, Nat.add_zero] at h
  clear hb1
  have hpos : (0 : Int) < (l.length : Int) := by omega
  go_wp2_with fail
  refine (HP1.out _).mono ?_
  rintro e W2 ⟨v2, rfl, ho2, hb2⟩
  have HO2 := hide ho2.rd
  have HB2 := hide (HB1.out.trans (hb2.mono HB1.out.size))
  clear ho2 hb2 hk0 HB1
  go_wp2_with fail
  refine (HP2.out _ _ _ u1 HO2.out).mono ?_
  rintro e W3 ⟨v3, rfl, ho3, hb3⟩
  rw [← HH.out] at ho3
  have HO3 := hide (ho3.mono HB2.out.size)
  have HB3 := hide (HB2.out.trans (hb3.mono HB2.out.size))
  clear ho3 hb3 HO2 HB2 HP1 HP2
  go_wp2
  go_loopw [5, 6] (fun vo vi wr => ∃ k : Nat, vi = .int .i64 (k : Int) ∧ k ≤ l.length ∧ Hid (Own wr w.heap.size vo (H ++ encRs [] (l.take k))) ∧ Hid (Below w.heap.size w wr)) (fun _ vi _ => l.length - (intOf vi).toNat)
  case atStart => exact ⟨0, rfl, Nat.zero_le _, by simpa [encRs] using HO3, HB3⟩
  case round =>
    clear HO3 HB3
    obtain ⟨k, rfl, hk, hO, hB⟩ := hrel
    by_cases hlt : k < l.length
    case neg =>
      have hke : l.take k = l.take l.length := by rw [List.take_length, List.take_of_length_le (by omega)]
      rw [hke] at hO
      clear hke
      go_wp2
      go_ret2
      exact ⟨_, rfl, hO.out, hB.out⟩
    have hqi : (k : Int) < (l.length : Int) := by omega
    have hfr := HFR.out k hlt
    have HDI : Hid (I64 ((l.getD k zeroR).seq - lastSeq (l.take k) (l.getD k zeroR).proc)) := hide (diff_i64 (HFT.out k) hfr)
    have HRI : Hid (I64 (l.getD k zeroR).resp) := hide (fitsR_resp hfr)
    have HFO : Hid (FitsO (l.getD k zeroR).op) := hide hfr.1
    obtain ⟨_, _, _, hs0, hs1, hp0, hp1, _⟩ := hfr
    have HCUT : Hid (∀ W, (Instr.sliceAt 22 (.slice (some ⟨c, off, none⟩) l.length cap) none (some (.int .i64 (k : Int))) none).run Tryd.prog W = .ok (.slice (some ⟨c, off, none⟩) k cap) W) := fun W => run_front_recs W _ _ _ _ k rfl (by have := HLC.out; omega)
    have HLS : Hid (∀ W, Below w.heap.size w W → Calls Tryd.prog 82 #[.slice (some ⟨c, off, none⟩) k cap, .int .i64 (l.getD k zeroR).proc] W fun e w' => e = .returned (.int .i64 (lastSeq (l.take k) (l.getD k zeroR).proc)) ∧ w' = W) := fun W h => HLA.out _ _ _ W ((HR.out.below h (Nat.le_refl _)).front k (by omega))
    have HRA := hide (HAT.out k hlt)
    have hLK := HLN.out k
    have HLK : Hid ((H ++ encRs [] (l.take k)).length ≤ 20000) := hide (by rw [List.length_append]; omega)
    have HNK : Hid (H ++ encRs [] (l.take (k + 1)) = (((H ++ encRs [] (l.take k)) ++ Lib.uvarint (l.getD k zeroR).proc.toNat) ++ Lib.uvarint (Lib.zigzag ((l.getD k zeroR).seq - lastSeq (l.take k) (l.getD k zeroR).proc))) ++ putOpL (l.getD k zeroR).op ++ Lib.uvarint (Lib.zigzag (l.getD k zeroR).resp)) := hide (by
      rw [HNX.out k hlt]
      unfold encOne
      simp only [List.append_assoc])
    have q1 := uv10' (n := (l.getD k zeroR).proc.toNat) (by omega)
    have q2 := uv10 HDI.out
    have q3 := putOpL_len30 HFO.out
    clear hLK
    obtain ⟨r, hr⟩ : ∃ r, r = l.getD k zeroR := ⟨_, rfl⟩
    rw [← hr] at HDI HRI HFO HLS HRA HNK q1 q2 q3 hs0 hs1 hp0 hp1
    clear hr
    obtain ⟨ls, hls⟩ : ∃ ls, ls = lastSeq (l.take k) r.proc := ⟨_, rfl⟩
    rw [← hls] at HDI HLS HNK q2
    clear hls
    have HP3 : Hid (∀ v1 P W, P.length ≤ 30000 → Rd W v1 P → Calls Tryd.prog 30 #[v1, .int .i64 r.proc] W fun e w' => ∃ v', e = .returned v' ∧ Own w' W.heap.size v' (P ++ Lib.uvarint r.proc.toNat) ∧ Below W.heap.size W w') := fun v1 P W hP h => by
      have h := HP.out v1 P r.proc W h (by omega)
      rw [putOf_small hp0 (by omega)] at h
      exact h
    have HO4 : Hid (∀ v1 P W, P.length ≤ 30000 → Rd W v1 P → Calls Tryd.prog 83 #[v1, .agg #[.int .i64 r.op.code, .int .i64 r.op.a, .int .i64 r.op.b]] W fun e w' => ∃ v', e = .returned (.tuple #[v', .int .i64 0]) ∧ Own w' W.heap.size v' (P ++ putOpL r.op) ∧ Below W.heap.size W w') := fun v1 P W hP h => by
      have h := HO.out v1 P r.op W h (by omega)
      unfold Putted at h
      rw [if_pos HFO.out, if_pos HFO.out] at h
      exact h
    obtain ⟨P0, hP0⟩ : ∃ P0, P0 = H ++ encRs [] (l.take k) := ⟨_, rfl⟩
    rw [← hP0] at hO HLK HNK
    obtain ⟨P1, hP1⟩ : ∃ P1, P1 = P0 ++ Lib.uvarint r.proc.toNat := ⟨_, rfl⟩
    have l1 : P1.length ≤ 20010 := by have := HLK.out; rw [hP1, List.length_append]; omega
    obtain ⟨P2, hP2⟩ : ∃ P2, P2 = P1 ++ Lib.uvarint (Lib.zigzag (r.seq - ls)) := ⟨_, rfl⟩
    have l2 : P2.length ≤ 20020 := by rw [hP2, List.length_append]; omega
    obtain ⟨P3, hP3⟩ : ∃ P3, P3 = P2 ++ putOpL r.op := ⟨_, rfl⟩
    have l3 : P3.length ≤ 20050 := by rw [hP3, List.length_append]; omega
    rw [← hP1, ← hP2, ← hP3] at HNK
    have E1 := hide hP1
    have E2 := hide hP2
    have E3 := hide hP3
    clear hP0 hP1 hP2 hP3 q1 q2 q3 hs0 hs1 hp0 hp1 HP HO HLA HFR HFT HNX HLN HAT
    have L0 := HLK.out
    obtain ⟨-, c1, -⟩ := HRA.out wr hB.out
    go_wp2_with fail
    refine (HP3.out _ _ _ (by omega) hO.out.rd).mono ?_
    rintro e W4 ⟨v4, rfl, ho4, hb4⟩
    rw [← E1.out] at ho4
    have HO4' := hide ho4.rd
    have HB4 := hide (hB.out.trans (hb4.mono hB.out.size))
    obtain ⟨-, d1, d2, -⟩ := HRA.out W4 HB4.out
    clear ho4 hb4 c1 hO HP3
    have hcut := HCUT.out
    have hdw : IntKind.i64.wrap (r.seq - ls) = r.seq - ls := wrap_id HDI.out
    have HSG : Hid (∀ W v1, Rd W v1 P1 → Calls Tryd.prog 81 #[v1, .int .i64 (r.seq - ls)] W fun e w' => ∃ v', e = .returned v' ∧ Own w' W.heap.size v' P2 ∧ Below W.heap.size W w') := fun W v1 h => by
      have h := HS.out v1 P1 (r.seq - ls) W h (by omega) HDI.out
      rw [← E2.out] at h
      exact h
    obtain ⟨a4, n4, rfl⟩ : ∃ a4 n4, v4 = .slice a4 P1.length n4 := by
      obtain ⟨a4, n4, h, -⟩ := HO4'.out
      exact ⟨a4, n4, h⟩
    go_upto_region 10 with fail
    go_cut [5] (fun x wc => Hid (Own wc w.heap.size x P2) ∧ Hid (Below w.heap.size w wc))
    case first =>
      go_region_held (fun w' => w'.cell? ⟨c, off + k * 7 + 1, none⟩ = some (.int .i64 r.proc) ∧ w'.cell? ⟨c, off + k * 7 + 2, none⟩ = some (.int .i64 r.seq)) (go_keep)
        (first
          | (go_at_call 82; refine (HLS.out _ (HB4.out.drew)).mono ?_; rintro e w' ⟨rfl, rfl⟩)
          | (go_at_call 81; refine (HSG.out _ _ (HO4'.out.below ((Below.refl _ _).drew) (Nat.le_refl _))).mono ?_; rintro e W5 ⟨v5, rfl, ho5, hb5⟩; have hb45 := HB4.out.drew.trans (hb5.mono HB4.out.size); have HO5 := hide (ho5.mono HB4.out.size); have HB5 := hide hb45; obtain ⟨-, f1, f2, -⟩ := HRA.out W5 hb45; clear ho5 hb5 hb45))
      all_goals
        go_wp2
        go_meet
        exact ⟨HO5, HB5⟩
    case rest =>
      obtain ⟨HO5, HB5⟩ := hcut
      clear d1 d2 HO4' HB4 HSG HLS
      have HR5 := hide HO5.out.rd
      obtain ⟨-, -, -, c3, c4, c5, -⟩ := HRA.out _ HB5.out
      go_wp2_with fail
      refine (HO4.out _ _ _ (by omega) HR5.out).mono ?_
      rintro e W6 ⟨v6, rfl, ho6, hb6⟩
      rw [← E3.out] at ho6
      have HO6 := hide ho6.rd
      have HB6 := hide (HB5.out.trans (hb6.mono HB5.out.size))
      obtain ⟨-, -, -, -, -, -, c6⟩ := HRA.out _ HB6.out
      clear ho6 hb6 c3 c4 c5 HR5 HO5 HB5 HO4
      have HSR : Hid (∀ W v1, Rd W v1 P3 → Calls Tryd.prog 81 #[v1, .int .i64 r.resp] W fun e w' => ∃ v', e = .returned v' ∧ Own w' W.heap.size v' (H ++ encRs [] (l.take (k + 1))) ∧ Below W.heap.size W w') := fun W v1 h => by
        have h := HS.out v1 P3 r.resp W h (by omega) HRI.out
        rw [← HNK.out] at h
        exact h
      go_wp2_with fail
      refine (HSR.out _ _ HO6.out).mono ?_
      rintro e W7 ⟨v7, rfl, ho7, hb7⟩
      have HO7 := hide (ho7.mono HB6.out.size)
      have HB7 := hide (HB6.out.trans (hb7.mono HB6.out.size))
      clear ho7 hb7 c6
      go_wp2
      go_roundw
      case rel => exact ⟨k + 1, by go_num, by omega, HO7, HB7⟩
      case measure => simp [intOf]; omega

end Go.Proofs.YtddhcohjmgdajaaDoor

/- Contract of ferrymanref06: value. -/
namespace Go.Proofs.YtddhcohjmgdajaaDoor
open Go.RowKit

theorem Below.allocs {a w : World} (h : Below a.heap.size a w) (X : Obj) : Below a.heap.size a (w.alloc X) := h.alloc h.size X

end Go.Proofs.YtddhcohjmgdajaaDoor

/- Contract of ferrymanref06: Encode. -/
namespace Go.Proofs.YtddhcohjmgdajaaDoor
open Go.RowKit

def encErr (v : Int) (r : Rec) : Int := if 1 ≤ v ∧ v ≤ 3 then (if FitsR r then 0 else 1) else 6

def encL (v : Int) (r : Rec) : List UInt8 := if 1 ≤ v ∧ v ≤ 3 then (if FitsR r then encR v r else []) else []

/-- What is encoded: the bytes, or none and the error. -/
def EncodedR (w : World) (v : Int) (r : Rec) (e : Ending) (w' : World) : Prop :=
  ∃ v', e = .returned (.tuple #[v', .int .i64 (encErr v r)]) ∧ Own w' w.heap.size v' (encL v r) ∧ Below w.heap.size w w'

/-- What stands there ahead of field k. -/
def partR (v : Int) (r : Rec) (k : Nat) : List UInt8 := Lib.uvarint v.toNat ++ encFs r ((fieldsV v).filter (fun f => decide (f < k)))

theorem partR_one {v : Int} (h1 : 1 ≤ v) (h3 : v ≤ 3) (r : Rec) : partR v r 1 = Lib.uvarint v.toNat := by
  have hv : v = 1 ∨ v = 2 ∨ v = 3 := by omega
  rcases hv with rfl | rfl | rfl <;> exact List.append_nil _

theorem partR_six {v : Int} (h1 : 1 ≤ v) (h3 : v ≤ 3) (r : Rec) : partR v r 6 = encR v r := by
  have hv : v = 1 ∨ v = 2 ∨ v = 3 := by omega
  rcases hv with rfl | rfl | rfl <;> rfl

theorem encFs_snoc (r : Rec) (f : Nat) : ∀ fs : List Nat, encFs r (fs ++ [f]) = encFs r fs ++ (Lib.uvarint f ++ bytesF r f)
  | [] => by simp [encFs]
  | g :: gs => by rw [List.cons_append, encFs, encFs_snoc r f gs, encFs]; simp [List.append_assoc]

theorem fields_snoc {v : Int} (h1 : 1 ≤ v) (h3 : v ≤ 3) {k : Nat} (hk1 : 1 ≤ k) (hk5 : k ≤ 5) : (fieldsV v).filter (fun f => decide (f < k + 1)) = (fieldsV v).filter (fun f => decide (f < k)) ++ (if hasV v.toNat k then [k] else []) := by
  have hv : v = 1 ∨ v = 2 ∨ v = 3 := by omega
  have hk : k = 1 ∨ k = 2 ∨ k = 3 ∨ k = 4 ∨ k = 5 := by omega
  rcases hv with rfl | rfl | rfl <;> rcases hk with rfl | rfl | rfl | rfl | rfl <;> decide

theorem partR_has {v : Int} (h1 : 1 ≤ v) (h3 : v ≤ 3) (r : Rec) {k : Nat} (hk1 : 1 ≤ k) (hk5 : k ≤ 5) (hh : hasV v.toNat k) : partR v r (k + 1) = (partR v r k ++ Lib.uvarint k) ++ bytesF r k := by
  unfold partR
  rw [fields_snoc h1 h3 hk1 hk5, if_pos hh, encFs_snoc]
  simp only [List.append_assoc]

theorem partR_not {v : Int} (h1 : 1 ≤ v) (h3 : v ≤ 3) (r : Rec) {k : Nat} (hk1 : 1 ≤ k) (hk5 : k ≤ 5) (hh : ¬ hasV v.toNat k) : partR v r (k + 1) = partR v r k := by
  unfold partR
  rw [fields_snoc h1 h3 hk1 hk5, if_neg hh, List.append_nil]

theorem bytesF_length {r : Rec} (h : FitsR r) (f : Nat) : (bytesF r f).length ≤ 30 := by
  have hr := fitsR_resp h
  obtain ⟨h1, h2, h3, h4, h5, h6, h7, h8, h9⟩ := h
  have u1 := uv10' (n := r.idx.toNat) (by omega)
  have u2 := uv10' (n := r.proc.toNat) (by omega)
  have u3 := uv10' (n := r.seq.toNat) (by omega)
  have u4 := uv10 hr
  have u5 := uv10 (fits_i64 h1).1
  have u6 := uv10 (fits_i64 h1).2
  have u7 := uv10' (n := r.op.code.toNat) (by have := h1.1; have := h1.2.1; omega)
  unfold bytesF putOpL
  repeat' split
  all_goals
    try simp only [List.length_append]
    omega

theorem encFs_length {r : Rec} (h : FitsR r) : ∀ fs : List Nat, (∀ f ∈ fs, f ≤ 5) → (encFs r fs).length ≤ 40 * fs.length
  | [], _ => by simp [encFs]
  | f :: fs, hf => by
    have ih := encFs_length h fs (fun g hg => hf g (by simp [hg]))
    have h1 := bytesF_length h f
    have h2 := uv10' (n := f) (by have := hf f (by simp); omega)
    rw [encFs, List.length_append, List.length_append, List.length_cons]
    omega

theorem fields_five (v : Int) : (fieldsV v).length ≤ 5 ∧ ∀ f ∈ fieldsV v, f ≤ 5 := by
  unfold fieldsV
  repeat' split
  all_goals
    refine ⟨by simp, ?_⟩
    intro f hf
    simp at hf
    omega

theorem partR_length {v : Int} (h1 : 1 ≤ v) (h3 : v ≤ 3) {r : Rec} (h : FitsR r) (k : Nat) : (partR v r k).length ≤ 300 := by
  have h4 := uv10' (n := v.toNat) (by omega)
  have h5 := fields_five v
  have h6 := encFs_length h ((fieldsV v).filter (fun f => decide (f < k))) (fun f hf => h5.2 f (List.mem_filter.1 hf).1)
  have h7 := List.length_filter_le (fun f => decide (f < k)) (fieldsV v)
  unfold partR
  rw [List.length_append]
  omega

set_option maxRecDepth 100000 in
set_option maxHeartbeats 2000000 in
theorem refEncodeR_any (v : Int) (r : Rec) (w : World) :
    Calls Tryd.prog 65 #[.int .i64 v, recV r] w fun e w' => EncodedR w v r e w' := by
  have HB0 : Hid (∀ X, Below w.heap.size w (w.alloc X)) := fun X => (Below.refl _ _).alloc (Nat.le_refl _) X
  have X1 : Hid (∀ cs, Br (w.alloc (.cells cs 48)) w.heap.size cs) := fun cs => heap_alloc_new w _
  have HF := hide (fun W => refFitsR_any r W)
  unfold EncodedR encErr encL
  by_cases hv : 1 ≤ v ∧ v ≤ 3
  case neg =>
    rw [if_neg hv, if_neg hv]
    obtain ⟨idx, proc, seq, ⟨code, a, b⟩, resp⟩ := r
    show Calls Tryd.prog _ #[_, .agg #[.int .i64 idx, .int .i64 proc, .int .i64 seq, .int .i64 code, .int .i64 a, .int .i64 b, .int .i64 resp]] w _
    by_cases h1 : 1 ≤ v
    · have h3 : ¬ v ≤ 3 := fun h => hv ⟨h1, h⟩
      clear hv
      go_enter Tryd.func65, Tryd.ntmps65
      go_wp2
      go_ret2
      exact ⟨_, rfl, Own.nil _ _, HB0.out _⟩
    · clear hv
      go_enter Tryd.func65, Tryd.ntmps65
      go_wp2
      go_ret2
      exact ⟨_, rfl, Own.nil _ _, HB0.out _⟩
  rw [if_pos hv, if_pos hv]
  obtain ⟨h1, h3⟩ := hv
  by_cases hf : FitsR r
  case neg =>
    rw [if_neg hf, if_neg hf]
    rw [decide_eq_false hf] at HF
    clear hf
    obtain ⟨idx, proc, seq, ⟨code, a, b⟩, resp⟩ := r
    show Calls Tryd.prog _ #[_, .agg #[.int .i64 idx, .int .i64 proc, .int .i64 seq, .int .i64 code, .int .i64 a, .int .i64 b, .int .i64 resp]] w _
    go_enter Tryd.func65, Tryd.ntmps65
    go_wp2_with fail
    refine (HF.out _).mono ?_
    rintro e W1 ⟨rfl, hb1⟩
    have HB1 := hide ((HB0.out _).trans (hb1.mono (HB0.out _).size))
    clear hb1
    go_wp2
    go_ret2
    exact ⟨_, rfl, Own.nil _ _, HB1.out⟩
  rw [if_pos hf, if_pos hf]
  rw [decide_eq_true hf] at HF
  have HR0 := hide (fitsR_resp hf)
  have HL := hide (fun k => partR_length h1 h3 hf k)
  have HP1 := hide (partR_one h1 h3 r)
  have HP6 := hide (partR_six h1 h3 r)
  have HPH := hide (fun k (a1 : 1 ≤ k) (a5 : k ≤ 5) hh => partR_has h1 h3 r a1 a5 hh)
  have HPN := hide (fun k (a1 : 1 ≤ k) (a5 : k ≤ 5) hh => partR_not h1 h3 r a1 a5 hh)
  have HH : Hid (∀ (k : Nat) W, Calls Tryd.prog 84 #[.int .i64 v, .int .i64 (k : Int)] W fun e w' => e = .returned (.bool (decide (hasV v.toNat k))) ∧ w' = W) := fun k W => by
    have h := refHas_any v.toNat k W
    rw [Int.toNat_of_nonneg (by omega)] at h
    exact h
  have HPU : Hid (∀ v1 l n W, Rd W v1 l → l.length ≤ 1000 → 0 ≤ n → n < 4611686018427387904 → Calls Tryd.prog 30 #[v1, .int .i64 n] W fun e w' => ∃ v', e = .returned v' ∧ Own w' W.heap.size v' (l ++ Lib.uvarint n.toNat) ∧ Below W.heap.size W w') := fun v1 l n W h hl n0 n1 => by
    have h := refPut_any v1 l n W h (by omega)
    rw [putOf_small n0 n1] at h
    exact h
  have HPS : Hid (∀ v1 l W, Rd W v1 l → l.length ≤ 1000 → Calls Tryd.prog 81 #[v1, .int .i64 r.resp] W fun e w' => ∃ v', e = .returned v' ∧ Own w' W.heap.size v' (l ++ Lib.uvarint (Lib.zigzag r.resp)) ∧ Below W.heap.size W w') := fun v1 l W h hl => refPutSigned_any v1 l r.resp W h (by omega) HR0.out.1 HR0.out.2
  have HPO : Hid (∀ v1 l W, Rd W v1 l → l.length ≤ 1000 → Calls Tryd.prog 83 #[v1, .agg #[.int .i64 r.op.code, .int .i64 r.op.a, .int .i64 r.op.b]] W fun e w' => ∃ v', e = .returned (.tuple #[v', .int .i64 0]) ∧ Own w' W.heap.size v' (l ++ putOpL r.op) ∧ Below W.heap.size W w') := fun v1 l W h hl => by
    have h := refPutOp_any v1 l r.op W h (by omega)
    unfold Putted at h
    rw [if_pos hf.1, if_pos hf.1] at h
    exact h
  have hfb := hf
  obtain ⟨-, i0, i1, s0, s1, c0, c1, -, -⟩ := hfb
  have HI := hide (And.intro i0 i1)
  have HSQ := hide (And.intro s0 s1)
  have HPR := hide (And.intro c0 (show r.proc < 4611686018427387904 by omega))
  clear hf HR0 i0 i1 s0 s1 c0 c1
  have HBF : Hid (bytesF r 1 = Lib.uvarint r.idx.toNat ∧ bytesF r 2 = Lib.uvarint r.proc.toNat ∧ bytesF r 3 = Lib.uvarint r.seq.toNat ∧ bytesF r 4 = putOpL r.op ∧ bytesF r 5 = Lib.uvarint (Lib.zigzag r.resp)) := ⟨rfl, rfl, rfl, rfl, rfl⟩
  generalize bytesF r = BF at *
  generalize partR v r = PR at *
  generalize encR v r = EN at *
  obtain ⟨idx, proc, seq, ⟨code, a, b⟩, resp⟩ := r
  simp only at *
  show Calls Tryd.prog _ #[_, .agg #[.int .i64 idx, .int .i64 proc, .int .i64 seq, .int .i64 code, .int .i64 a, .int .i64 b, .int .i64 resp]] w _
  go_enter Tryd.func65, Tryd.ntmps65
  go_wp2_with fail
  refine (HF.out _).mono ?_
  rintro e W1 ⟨rfl, hb1⟩
  have HX1 := hide ((X1.out _).below hb1 (Nat.le_refl _))
  have HB1 := hide ((HB0.out _).trans (hb1.mono (HB0.out _).size))
  clear hb1 HF X1
  go_wp2_with fail
  refine (HPU.out _ [] _ _ (Rd.nil _) (by simp) (by omega) (by omega)).mono ?_
  rintro e W2 ⟨v2, rfl, ho2, hb2⟩
  have HX2 := hide (HX1.out.below hb2 (Nat.le_refl _))
  have HB2 := hide (HB1.out.trans (hb2.mono HB1.out.size))
  have HO2 : Hid (Own W2 w.heap.size v2 (PR 1)) := by
    refine hide ?_
    rw [HP1.out]
    exact ho2.mono HB1.out.size
  clear hb2 ho2 HX1 HB1
  go_wp2
  go_loopw [7, 8] (fun vo i wr => ∃ k : Nat, i = .int .i64 k ∧ 1 ≤ k ∧ k ≤ 6 ∧ Hid (Own wr w.heap.size vo (PR k)) ∧ Hid (Br wr w.heap.size #[.int .i64 idx, .int .i64 proc, .int .i64 seq, .int .i64 code, .int .i64 a, .int .i64 b, .int .i64 resp]) ∧ Hid (Below w.heap.size w wr)) (fun _ i _ => 6 - (intOf i).toNat)
  case atStart => exact ⟨1, rfl, by omega, by omega, HO2, HX2, HB2⟩
  case round =>
    obtain ⟨k, rfl, hk1, hk6, hown, hbx, hbel⟩ := hrel
    by_cases hk5 : k ≤ 5
    case neg =>
      have e6 : k = 6 := by omega
      subst e6
      rw [HP6.out] at hown
      clear hk5 hk1 hk6
      go_wp2
      go_ret2
      exact ⟨_, rfl, hown.out, hbel.out⟩
    by_cases hh : hasV v.toNat k
    case neg =>
      have HHk : Hid (∀ W, Calls Tryd.prog 84 #[.int .i64 v, .int .i64 (k : Int)] W fun e w' => e = .returned (.bool false) ∧ w' = W) := fun W => by
        have h := HH.out k W
        rw [decide_eq_false hh] at h
        exact h
      have HN := hide (HPN.out k hk1 hk5 hh)
      clear hh
      go_wp2_with fail
      refine (HHk.out _).mono ?_
      rintro e W3 ⟨rfl, rfl⟩
      go_wp2
      go_roundw
      case rel => exact ⟨k + 1, by go_num, by omega, by omega, by rw [HN.out]; exact hown, hbx, hbel⟩
      case measure => simp [intOf]; omega
    have HHk : Hid (∀ W, Calls Tryd.prog 84 #[.int .i64 v, .int .i64 (k : Int)] W fun e w' => e = .returned (.bool true) ∧ w' = W) := fun W => by
      have h := HH.out k W
      rw [decide_eq_true hh] at h
      exact h
    have HN := hide (HPH.out k hk1 hk5 hh)
    have HLk := hide (HL.out k)
    have HLl : Hid ((PR k ++ Lib.uvarint k).length ≤ 1000) := by
      refine hide ?_
      have h1 := HLk.out
      have h2 := uv10' (n := k) (by omega)
      rw [List.length_append]
      omega
    have HPk : Hid (∀ v1 W, Rd W v1 (PR k) → Calls Tryd.prog 30 #[v1, .int .i64 (k : Int)] W fun e w' => ∃ v', e = .returned v' ∧ Own w' W.heap.size v' (PR k ++ Lib.uvarint k) ∧ Below W.heap.size W w') := fun v1 W h => by
      have h := HPU.out v1 (PR k) (k : Int) W h (by have := HLk.out; omega) (by omega) (by omega)
      rw [Int.toNat_natCast] at h
      exact h
    clear hh HH HL HP1 HP6 HPH HPN
    have hc : k = 1 ∨ k = 2 ∨ k = 3 ∨ k = 4 ∨ k = 5 := by omega
    clear hk1 hk5 hk6
    generalize PR k ++ Lib.uvarint k = PK at *
    rcases hc with rfl | rfl | rfl | rfl | rfl
    · rw [HBF.out.1] at HN
      go_wp2_with fail
      refine (HHk.out _).mono ?_
      rintro e W3 ⟨rfl, rfl⟩
      go_wp2_with fail
      refine (HPk.out _ _ hown.out.rd).mono ?_
      rintro e W4 ⟨v4, rfl, ho4, hb4⟩
      have HX4 := hide (hbx.out.below hb4 (Nat.le_refl _))
      have HB4 := hide (hbel.out.trans (hb4.mono hbel.out.size))
      have HO4 := hide ho4
      clear hb4 ho4 hbx hbel hown HHk HPk
      obtain ⟨q0, -⟩ := HX4.out.cell 0
      go_wp2_with fail
      refine (HPU.out _ _ _ _ HO4.out.rd HLl.out HI.out.1 HI.out.2).mono ?_
      rintro e W5 ⟨v5, rfl, ho5, hb5⟩
      rw [← HN.out] at ho5
      have HX5 := hide (HX4.out.below hb5 (Nat.le_refl _))
      have HO5 := hide (ho5.mono HB4.out.size)
      have HB5 := hide (HB4.out.trans (hb5.mono HB4.out.size))
      clear hb5 ho5 HX4 HB4 HO4
      go_wp2
      go_roundw
      case rel => exact ⟨2, by go_num, by omega, by omega, HO5, HX5, HB5⟩
      case measure => simp [intOf]
    · rw [HBF.out.2.1] at HN
      go_wp2_with fail
      refine (HHk.out _).mono ?_
      rintro e W3 ⟨rfl, rfl⟩
      go_wp2_with fail
      refine (HPk.out _ _ hown.out.rd).mono ?_
      rintro e W4 ⟨v4, rfl, ho4, hb4⟩
      have HX4 := hide (hbx.out.below hb4 (Nat.le_refl _))
      have HB4 := hide (hbel.out.trans (hb4.mono hbel.out.size))
      have HO4 := hide ho4
      clear hb4 ho4 hbx hbel hown HHk HPk
      obtain ⟨q1, -⟩ := HX4.out.cell 1
      go_wp2_with fail
      refine (HPU.out _ _ _ _ HO4.out.rd HLl.out HPR.out.1 HPR.out.2).mono ?_
      rintro e W5 ⟨v5, rfl, ho5, hb5⟩
      rw [← HN.out] at ho5
      have HX5 := hide (HX4.out.below hb5 (Nat.le_refl _))
      have HO5 := hide (ho5.mono HB4.out.size)
      have HB5 := hide (HB4.out.trans (hb5.mono HB4.out.size))
      clear hb5 ho5 HX4 HB4 HO4
      go_wp2
      go_roundw
      case rel => exact ⟨3, by go_num, by omega, by omega, HO5, HX5, HB5⟩
      case measure => simp [intOf]
    · rw [HBF.out.2.2.1] at HN
      go_wp2_with fail
      refine (HHk.out _).mono ?_
      rintro e W3 ⟨rfl, rfl⟩
      go_wp2_with fail
      refine (HPk.out _ _ hown.out.rd).mono ?_
      rintro e W4 ⟨v4, rfl, ho4, hb4⟩
      have HX4 := hide (hbx.out.below hb4 (Nat.le_refl _))
      have HB4 := hide (hbel.out.trans (hb4.mono hbel.out.size))
      have HO4 := hide ho4
      clear hb4 ho4 hbx hbel hown HHk HPk
      obtain ⟨q2, -⟩ := HX4.out.cell 2
      go_wp2_with fail
      refine (HPU.out _ _ _ _ HO4.out.rd HLl.out HSQ.out.1 HSQ.out.2).mono ?_
      rintro e W5 ⟨v5, rfl, ho5, hb5⟩
      rw [← HN.out] at ho5
      have HX5 := hide (HX4.out.below hb5 (Nat.le_refl _))
      have HO5 := hide (ho5.mono HB4.out.size)
      have HB5 := hide (HB4.out.trans (hb5.mono HB4.out.size))
      clear hb5 ho5 HX4 HB4 HO4
      go_wp2
      go_roundw
      case rel => exact ⟨4, by go_num, by omega, by omega, HO5, HX5, HB5⟩
      case measure => simp [intOf]
    · rw [HBF.out.2.2.2.1] at HN
      go_wp2_with fail
      refine (HHk.out _).mono ?_
      rintro e W3 ⟨rfl, rfl⟩
      go_wp2_with fail
      refine (HPk.out _ _ hown.out.rd).mono ?_
      rintro e W4 ⟨v4, rfl, ho4, hb4⟩
      have HX4 := hide (hbx.out.below hb4 (Nat.le_refl _))
      have HB4 := hide (hbel.out.trans (hb4.mono hbel.out.size))
      have HO4 := hide ho4
      clear hb4 ho4 hbx hbel hown HHk HPk
      obtain ⟨q3, -⟩ := HX4.out.cell 3
      obtain ⟨q4, -⟩ := HX4.out.cell 4
      obtain ⟨q5, -⟩ := HX4.out.cell 5
      go_wp2_with fail
      refine (HPO.out _ _ _ HO4.out.rd HLl.out).mono ?_
      rintro e W5 ⟨v5, rfl, ho5, hb5⟩
      rw [← HN.out] at ho5
      have HX5 := hide (HX4.out.below hb5 (Nat.le_refl _))
      have HO5 := hide (ho5.mono HB4.out.size)
      have HB5 := hide (HB4.out.trans (hb5.mono HB4.out.size))
      clear hb5 ho5 HX4 HB4 HO4
      go_wp2
      go_roundw
      case rel => exact ⟨5, by go_num, by omega, by omega, HO5, HX5, HB5⟩
      case measure => simp [intOf]
    · rw [HBF.out.2.2.2.2] at HN
      go_wp2_with fail
      refine (HHk.out _).mono ?_
      rintro e W3 ⟨rfl, rfl⟩
      go_wp2_with fail
      refine (HPk.out _ _ hown.out.rd).mono ?_
      rintro e W4 ⟨v4, rfl, ho4, hb4⟩
      have HX4 := hide (hbx.out.below hb4 (Nat.le_refl _))
      have HB4 := hide (hbel.out.trans (hb4.mono hbel.out.size))
      have HO4 := hide ho4
      clear hb4 ho4 hbx hbel hown HHk HPk
      obtain ⟨q6, -⟩ := HX4.out.cell 6
      go_wp2_with fail
      refine (HPS.out _ _ _ HO4.out.rd HLl.out).mono ?_
      rintro e W5 ⟨v5, rfl, ho5, hb5⟩
      rw [← HN.out] at ho5
      have HX5 := hide (HX4.out.below hb5 (Nat.le_refl _))
      have HO5 := hide (ho5.mono HB4.out.size)
      have HB5 := hide (HB4.out.trans (hb5.mono HB4.out.size))
      clear hb5 ho5 HX4 HB4 HO4
      go_wp2
      go_roundw
      case rel => exact ⟨6, by go_num, by omega, by omega, HO5, HX5, HB5⟩
      case measure => simp [intOf]

end Go.Proofs.YtddhcohjmgdajaaDoor

/- Segments: what is encoded is read. -/
namespace Go.Proofs.YtddhcohjmgdajaaDoor

theorem uv_small {n : Nat} (h : n < 128) : Lib.uvarint n = [n.toUInt8] := Lib.uvarint_small h

theorem encR_first {v : Nat} (h1 : 1 ≤ v) (h3 : v ≤ 3) (r : Rec) : ∃ t, encR v r = v.toUInt8 :: t := by
  refine ⟨encFs r (fieldsV v), ?_⟩
  unfold encR
  rw [Int.toNat_natCast, uv_small (by omega)]
  rfl

theorem toU8_toNat {v : Nat} (h : v < 256) : v.toUInt8.toNat = v := by
  simp
  omega

theorem elder_step {v : Nat} (h1 : 1 ≤ v) (h3 : v ≤ 3) {r : Rec} (hr : FitsR r) (hn : (encR v r).length < 4611686018427387904) (t : List UInt8) :
    elderL v (elderE v r ++ t) = (elderL v t).map (fun q => upgR v r :: q) := by
  obtain ⟨t0, he⟩ := encR_first h1 h3 r
  have hu := Lib.uvarint_pos (encR v r).length
  have hne : elderE v r ++ t ≠ [] := fun e => by
    have := congrArg List.length e
    unfold elderE at this
    rw [List.length_append, List.length_append, List.length_nil] at this
    omega
  have hl : 1 ≤ (encR v r).length := by rw [he]; simp
  have hd : dec62 (elderE v r ++ t) = ((encR v r).length, (Lib.uvarint (encR v r).length).length) := by
    unfold elderE
    rw [List.append_assoc]
    exact dec62_uvarint _ _ hn
  have hdr : (elderE v r ++ t).drop (Lib.uvarint (encR v r).length).length = encR v r ++ t := by
    unfold elderE
    rw [List.append_assoc, List.drop_left]
  have hg : (elderE v r ++ t).getD (Lib.uvarint (encR v r).length).length 0 = v.toUInt8 := by
    have e : (elderE v r ++ t).getD (Lib.uvarint (encR v r).length).length 0 = ((elderE v r ++ t).drop (Lib.uvarint (encR v r).length).length).getD 0 0 := by
      simp [List.getD]
    rw [e, hdr, he]
    rfl
  rw [elderL, dif_neg hne, hd]
  simp only
  rw [dif_neg (by
    rw [hg, toU8_toNat (by omega)]
    have : (elderE v r ++ t).length = (Lib.uvarint (encR v r).length).length + (encR v r).length + t.length := by
      unfold elderE
      simp only [List.length_append]
    omega)]
  rw [hdr, List.take_left, decR_enc (by omega) (by omega) hr]
  simp only [ne_eq, not_true_eq_false, if_false]
  rw [← List.drop_drop, hdr, List.drop_left]

theorem encR_len {v : Nat} (h1 : 1 ≤ v) (h3 : v ≤ 3) {r : Rec} (hr : FitsR r) : (encR v r).length ≤ 300 := by
  have hresp := fitsR_resp hr
  obtain ⟨g1, g2, g3, g4, g5, g6, g7, g8, g9⟩ := hr
  have q0 : (Lib.uvarint v).length ≤ 10 := Lib.uvarint_length64 (by omega)
  have q1 : (Lib.uvarint r.idx.toNat).length ≤ 10 := Lib.uvarint_length64 (by omega)
  have q2 : (Lib.uvarint r.proc.toNat).length ≤ 10 := Lib.uvarint_length64 (by omega)
  have q3 : (Lib.uvarint r.seq.toNat).length ≤ 10 := Lib.uvarint_length64 (by omega)
  have q4 : (Lib.uvarint r.op.code.toNat).length ≤ 10 := Lib.uvarint_length64 (by have := g1.1; have := g1.2.1; omega)
  have q5 : (Lib.uvarint (Lib.zigzag r.op.a)).length ≤ 10 := Lib.uvarint_length64 (zig_lt (fits_i64 g1).1)
  have q6 : (Lib.uvarint (Lib.zigzag r.op.b)).length ≤ 10 := Lib.uvarint_length64 (zig_lt (fits_i64 g1).2)
  have q7 : (Lib.uvarint (Lib.zigzag r.resp)).length ≤ 10 := Lib.uvarint_length64 (zig_lt hresp)
  have f1 : (Lib.uvarint 1).length ≤ 10 := Lib.uvarint_length64 (by decide)
  have f2 : (Lib.uvarint 2).length ≤ 10 := Lib.uvarint_length64 (by decide)
  have f3 : (Lib.uvarint 3).length ≤ 10 := Lib.uvarint_length64 (by decide)
  have f4 : (Lib.uvarint 4).length ≤ 10 := Lib.uvarint_length64 (by decide)
  have f5 : (Lib.uvarint 5).length ≤ 10 := Lib.uvarint_length64 (by decide)
  have hv : v = 1 ∨ v = 2 ∨ v = 3 := by omega
  rcases hv with rfl | rfl | rfl
  · simp [encR, fieldsV, encFs, bytesF, putOpL]
    omega
  · simp [encR, fieldsV, encFs, bytesF, putOpL]
    omega
  · simp [encR, fieldsV, encFs, bytesF, putOpL]
    omega

theorem elderE_len {v : Nat} (h1 : 1 ≤ v) (h3 : v ≤ 3) {r : Rec} (hr : FitsR r) : (elderE v r).length ≤ 310 := by
  have h := encR_len h1 h3 hr
  have : (Lib.uvarint (encR v r).length).length ≤ 10 := Lib.uvarint_length64 (by omega)
  unfold elderE
  rw [List.length_append]
  omega

theorem elder_all {v : Nat} (h1 : 1 ≤ v) (h3 : v ≤ 3) : ∀ (l : List Rec), (∀ r ∈ l, FitsR r) → elderL v (l.flatMap (elderE v)) = some (l.map (upgR v))
  | [], _ => by rw [List.flatMap_nil, elderL, dif_pos rfl]; rfl
  | r :: l, hl => by
    have hr := hl r (by simp)
    rw [List.flatMap_cons, elder_step h1 h3 hr (by have := encR_len h1 h3 hr; omega), elder_all h1 h3 l (fun s hs => hl s (by simp [hs]))]
    rfl

theorem chain_map {v : Int} : ∀ (l : List Rec) (i : Int), chainR i (l.map (upgR v)) ↔ chainR i l
  | [], _ => Iff.rfl
  | r :: l, i => by
    rw [List.map_cons, chainR, chainR, chain_map l (i + 1)]
    rfl

theorem upg3_map (l : List Rec) : l.map (upgR ((3 : Nat) : Int)) = l := by
  induction l with
  | nil => rfl
  | cons r t ih => rw [List.map_cons, ih]; rfl

theorem fitsB_of {l : List Rec} {i : Int} (h1 : 1 ≤ l.length) (h2 : l.length ≤ 16) (hf : ∀ r ∈ l, FitsR r) (hc : chainR i l) : FitsB l := by
  refine ⟨h1, by omega, hf, ?_⟩
  cases l with
  | nil => simp at h1
  | cons r t =>
    have := hc.1
    rw [List.headD_cons, this]
    exact hc

theorem recsOk_upg {v : Int} {l : List Rec} {i : Int} (h : RecsOk l i) : RecsOk (l.map (upgR v)) i := by
  refine ⟨by rw [List.length_map]; exact h.1, fun r hr => ?_, (chain_map l i).2 h.2.2⟩
  obtain ⟨s, hs, rfl⟩ := List.mem_map.1 hr
  exact upg_fits (h.2.1 s hs)

theorem dataV_upg {v : Nat} (h1 : 1 ≤ v) (h3 : v ≤ 3) (l : List Rec) : dataV v (l.map (upgR v)) = dataV v l := by
  by_cases hv : v = 3
  · subst hv
    rw [upg3_map]
  · unfold dataV
    rw [if_neg hv, if_neg hv]
    induction l with
    | nil => rfl
    | cons r t ih =>
      rw [List.map_cons, List.flatMap_cons, List.flatMap_cons, ih]
      unfold elderE
      rw [encR_upg (by omega) (by omega)]

theorem readBk_data {v : Nat} (h1 : 1 ≤ v) (h3 : v ≤ 3) {l : List Rec} {i : Int} (hl1 : 1 ≤ l.length) (hl2 : l.length ≤ 16) (h : RecsOk l i) : readBk v (dataV v l) i = some (l.map (upgR v)) := by
  have hb : (if v < 3 then elderL v (dataV v l) else decBo (dataV v l)) = some (l.map (upgR v)) := by
    by_cases hv : v = 3
    · subst hv
      rw [if_neg (by decide), upg3_map]
      unfold dataV
      rw [if_pos rfl]
      exact decBo_enc (fitsB_of hl1 hl2 h.2.1 h.2.2)
    · rw [if_pos (by omega)]
      unfold dataV
      rw [if_neg hv]
      exact elder_all h1 h3 l h.2.1
  unfold readBk
  rw [hb]
  simp only
  rw [if_pos ⟨⟨by rw [List.length_map]; exact ⟨hl1, hl2⟩, recsOk_upg h⟩, dataV_upg h1 h3 l⟩]

/-- What is read is what is written. -/
theorem readBk_is {v : Nat} {d : List UInt8} {i : Int} {l : List Rec} (h : readBk v d i = some l) : (1 ≤ l.length ∧ l.length ≤ 16) ∧ RecsOk l i ∧ dataV v l = d := by
  unfold readBk at h
  split at h
  · cases h
  · split at h
    · rename_i hh
      injection h with h
      subst h
      exact ⟨hh.1.1, hh.1.2, hh.2⟩
    · cases h

/-- What no records are written as is no block. -/
theorem readBk_no {v : Nat} {d : List UInt8} {i : Int} (h : ∀ l, 1 ≤ l.length → l.length ≤ 16 → RecsOk l i → dataV v l ≠ d) : readBk v d i = none := by
  cases hr : readBk v d i with
  | none => rfl
  | some l =>
    obtain ⟨⟨h1, h2⟩, h3, h4⟩ := readBk_is hr
    exact absurd h4 (h l h1 h2 h3)

theorem chunks_nil : chunks [] = [] := by rw [chunks, if_pos rfl]

theorem chunks_cons {l : List Rec} (h : l ≠ []) : chunks l = l.take 16 :: chunks (l.drop 16) := by rw [chunks, if_neg h]

/-- Sixteens ahead are chunks of their own. -/
theorem chunks_app : ∀ (k : Nat) (a b : List Rec), a.length = 16 * k → chunks (a ++ b) = chunks a ++ chunks b
  | 0, a, b, h => by
    have e : a = [] := List.eq_nil_of_length_eq_zero (by omega)
    rw [e, chunks_nil, List.nil_append, List.nil_append]
  | k + 1, a, b, h => by
    have ha : a ≠ [] := fun e => by rw [e] at h; simp at h
    have hab : a ++ b ≠ [] := fun e => ha (List.append_eq_nil_iff.1 e).1
    rw [chunks_cons ha, chunks_cons hab, List.take_append_of_le_length (by omega), List.drop_append_of_le_length (by omega), chunks_app k (a.drop 16) b (by rw [List.length_drop]; omega)]
    rfl

theorem chunks_few {l : List Rec} (h1 : l ≠ []) (h : l.length ≤ 16) : chunks l = [l] := by
  rw [chunks_cons h1, List.take_of_length_le h, List.drop_of_length_le h, chunks_nil]

theorem blocks_app (v k : Nat) (a b : List Rec) (h : a.length = 16 * k) : blocksS v (a ++ b) = blocksS v a ++ blocksS v b := by
  unfold blocksS
  rw [chunks_app k a b h, List.map_append]

theorem chunks_length : ∀ (n : Nat) (l : List Rec), l.length ≤ n → (chunks l).length = (l.length + 15) / 16
  | 0, l, h => by
    have e : l = [] := List.eq_nil_of_length_eq_zero (by omega)
    rw [e, chunks_nil]
    rfl
  | n + 1, l, h => by
    by_cases e : l = []
    · rw [e, chunks_nil]; rfl
    · have h0 : l.length ≠ 0 := by simpa using e
      rw [chunks_cons e, List.length_cons, chunks_length n (l.drop 16) (by rw [List.length_drop]; omega), List.length_drop]
      omega

theorem chain_app : ∀ (a b : List Rec) (i : Int), chainR i (a ++ b) ↔ chainR i a ∧ chainR (i + a.length) b
  | [], b, i => by simp [chainR]
  | r :: a, b, i => by
    rw [List.cons_append, chainR, chainR, chain_app a b (i + 1)]
    have e : i + 1 + (a.length : Int) = i + ((r :: a).length : Int) := by simp; omega
    rw [e, and_assoc]

theorem recsOk_app {a b : List Rec} {i : Int} (h : RecsOk (a ++ b) i) : RecsOk a i ∧ RecsOk b (i + a.length) := by
  obtain ⟨h1, h2, h3⟩ := h
  rw [List.length_append] at h1
  have h4 := (chain_app a b i).1 h3
  exact ⟨⟨by omega, fun r hr => h2 r (List.mem_append.2 (.inl hr)), h4.1⟩, ⟨by omega, fun r hr => h2 r (List.mem_append.2 (.inr hr)), h4.2⟩⟩

/-- The blocks of records are walked through; what stands behind them goes on. -/
theorem walkB_blocks {v : Nat} (h1 : 1 ≤ v) (h3 : v ≤ 3) (first : Int) : ∀ (n : Nat) (l acc : List Rec) , l.length ≤ n → RecsOk l (first + acc.length) → acc.length + l.length ≤ 4096 →
    walkB v first (blocksS v l) acc 16 = (acc ++ l.map (upgR v), (chunks l).length, 0)
  | 0, l, acc, hn, _, _ => by
    have e : l = [] := List.eq_nil_of_length_eq_zero (by omega)
    subst e
    unfold blocksS
    rw [chunks_nil, List.map_nil, walkB]
    simp
  | n + 1, l, acc, hn, hr, ha => by
    by_cases e : l = []
    · subst e
      unfold blocksS
      rw [chunks_nil, List.map_nil, walkB]
      simp
    have h0 : l.length ≠ 0 := by simpa using e
    have hsp : l.take 16 ++ l.drop 16 = l := List.take_append_drop 16 l
    have hr' := hr
    rw [← hsp] at hr'
    obtain ⟨ha1, hb1⟩ := recsOk_app hr'
    have hlt : (l.take 16).length = min 16 l.length := List.length_take
    have hrd := readBk_data h1 h3 (l := l.take 16) (i := first + acc.length) (by omega) (by omega) ha1
    have ec : blocksS v l = dataV v (l.take 16) :: blocksS v (l.drop 16) := by
      unfold blocksS
      rw [chunks_cons e, List.map_cons]
    rw [ec, walkB, hrd]
    simp only
    rw [if_neg (by decide), if_neg (by rw [List.length_map]; omega)]
    by_cases hd : l.drop 16 = []
    · have hs : l.length ≤ 16 := by
        have := congrArg List.length hd
        rw [List.length_drop, List.length_nil] at this
        omega
      have eb : blocksS v (l.drop 16) = [] := by
        unfold blocksS
        rw [hd, chunks_nil]
        rfl
      rw [eb, walkB]
      rw [List.take_of_length_le hs, chunks_few e hs]
      rfl
    · have hs : 16 < l.length := by
        have : 0 < (l.drop 16).length := List.length_pos_iff.2 hd
        rw [List.length_drop] at this
        omega
      have hlm : ((l.take 16).map (upgR v)).length = 16 := by rw [List.length_map]; omega
      have ih := walkB_blocks h1 h3 first n (l.drop 16) (acc ++ (l.take 16).map (upgR v)) (by rw [List.length_drop]; omega) (by
        have e2 : first + ((acc ++ (l.take 16).map (upgR v)).length : Int) = first + (acc.length : Int) + ((l.take 16).length : Int) := by
          rw [List.length_append, List.length_map]
          omega
        rw [e2]
        exact hb1) (by rw [List.length_append, hlm, List.length_drop]; omega)
      rw [hlm, ih, chunks_cons e, List.length_cons, List.append_assoc, ← List.map_append, hsp]

/-- A head is read. -/
theorem readH_head {v k f : Nat} (h1 : 1 ≤ v) (h3 : v ≤ 3) (hk : k < 6) (hf : f < 4611686018427387904) : readH (headS v k f) = .ok (v, k, f) := by
  have q1 := Lib.uvarint_pos v
  have q2 := Lib.uvarint_pos k
  have q3 := Lib.uvarint_pos f
  have d1 : dec62 ((headS v k f).drop 1) = (v, (Lib.uvarint v).length) := by
    unfold headS
    rw [List.drop_succ_cons, List.drop_zero]
    exact dec62_uvarint _ _ (by omega)
  have e2 : (headS v k f).drop (1 + (Lib.uvarint v).length) = Lib.uvarint k ++ Lib.uvarint f := by
    unfold headS
    rw [Nat.add_comm, List.drop_succ_cons, List.drop_left]
  have d2 : dec62 ((headS v k f).drop (1 + (Lib.uvarint v).length)) = (k, (Lib.uvarint k).length) := by
    rw [e2]
    exact dec62_uvarint _ _ (by omega)
  have e3 : (headS v k f).drop (1 + (Lib.uvarint v).length + (Lib.uvarint k).length) = Lib.uvarint f := by
    rw [← List.drop_drop, e2, List.drop_left]
  have d3 : dec62 ((headS v k f).drop (1 + (Lib.uvarint v).length + (Lib.uvarint k).length)) = (f, (Lib.uvarint f).length) := by
    rw [e3]
    have := dec62_uvarint f [] hf
    rw [List.append_nil] at this
    exact this
  have hl : (headS v k f).length = 1 + (Lib.uvarint v).length + (Lib.uvarint k).length + (Lib.uvarint f).length := by
    unfold headS
    simp only [List.length_cons, List.length_append]
    omega
  unfold readH
  simp only [d1, d2, d3]
  rw [if_neg (by rintro (h | h); exact absurd h (by unfold headS; simp); exact h rfl), if_neg (by omega), if_neg (by omega), if_neg (by omega)]

theorem headS_len {v k f : Nat} (h3 : v ≤ 3) (hk : k < 6) (hf : f < 4611686018427387904) : (headS v k f).length ≤ 40 := by
  have q1 : (Lib.uvarint v).length ≤ 10 := Lib.uvarint_length64 (by omega)
  have q2 : (Lib.uvarint k).length ≤ 10 := Lib.uvarint_length64 (by omega)
  have q3 : (Lib.uvarint f).length ≤ 10 := Lib.uvarint_length64 (by omega)
  unfold headS
  simp only [List.length_cons, List.length_append]
  omega

end Go.Proofs.YtddhcohjmgdajaaDoor

/- More of frames, over plain lists. -/
namespace Go.Proofs.YtddhcohjmgdajaaDoor

theorem frameOf_len6 {d : List UInt8} (h : d.length ≤ 1048576) : (frameOf d).length ≤ d.length + 14 := by
  rw [frameOf_length]
  have : (Lib.uvarint d.length).length ≤ 10 := Lib.uvarint_length64 (by omega)
  omega

theorem framesOf_app (A B : List (List UInt8)) : framesOf (A ++ B) = framesOf A ++ framesOf B := by
  unfold framesOf
  rw [List.flatMap_append]

theorem framesOf_cons (x : List UInt8) (B : List (List UInt8)) : framesOf (x :: B) = frameOf x ++ framesOf B := by
  unfold framesOf
  rw [List.flatMap_cons]

theorem frameOf_pos (x : List UInt8) : 5 ≤ (frameOf x).length := by
  rw [frameOf_length]
  have := Lib.uvarint_pos x.length
  omega

theorem wholeF_frames (L : List (List UInt8)) (h : ∀ x ∈ L, x.length ≤ 1048576) : wholeF (framesOf L) = (L, (framesOf L).length, 0) := by
  have e := wholeF_cut L (framesOf L).length h (Nat.le_refl _)
  have hw := wholes_at L (framesOf L).length L.length (Nat.le_refl _) (by rw [List.take_length]; exact Nat.le_refl _) (.inl rfl)
  rw [List.take_length] at hw e
  rw [e, hw]
  simp

theorem wholeF_all : ∀ (n : Nat) (b : List UInt8), b.length ≤ n → (wholeF b).2.2 = 0 → framesOf (wholeF b).1 = b ∧ ∀ x ∈ (wholeF b).1, x.length ≤ 1048576
  | 0, b, hn, _ => by
    have e : b = [] := List.eq_nil_of_length_eq_zero (by omega)
    subst e
    rw [wholeF_nil]
    exact ⟨rfl, by simp⟩
  | n + 1, b, hn, h => by
    by_cases e : b = []
    · subst e
      rw [wholeF_nil]
      exact ⟨rfl, by simp⟩
    by_cases hd : (decF b).2.2 = 0
    · obtain ⟨d1, d2, d3, d4⟩ := decF_ok hd
      have h5 := decF_five hd
      rw [wholeF_step e hd] at h ⊢
      obtain ⟨i1, i2⟩ := wholeF_all n (b.drop (decF b).2.1) (by rw [List.length_drop]; omega) h
      refine ⟨?_, fun x hx => ?_⟩
      · show framesOf ((decF b).1 :: (wholeF (b.drop (decF b).2.1)).1) = b
        rw [framesOf_cons, i1, ← d4, List.take_append_drop]
      · rcases List.mem_cons.1 hx with hx | hx
        · rw [hx]; exact d1
        · exact i2 x hx
    · rw [wholeF_stop e hd] at h
      exact absurd h hd

end Go.Proofs.YtddhcohjmgdajaaDoor

/- Segments: encoded and decoded, once, cut, grown. -/
namespace Go.Proofs.YtddhcohjmgdajaaDoor

theorem encOne_len8 {pre : List Rec} (hp : ∀ r ∈ pre, FitsR r) {r : Rec} (hr : FitsR r) : (encOne pre r).length ≤ 60 := by
  have hd := diff_i64 hp hr
  have hresp := fitsR_resp hr
  obtain ⟨g1, _, _, _, _, hp0, hp1, _⟩ := hr
  have q1 : (Lib.uvarint r.proc.toNat).length ≤ 10 := Lib.uvarint_length64 (by omega)
  have q2 : (Lib.uvarint (Lib.zigzag (r.seq - lastSeq pre r.proc))).length ≤ 10 := Lib.uvarint_length64 (zig_lt hd)
  have q4 : (Lib.uvarint r.op.code.toNat).length ≤ 10 := Lib.uvarint_length64 (by have := g1.1; have := g1.2.1; omega)
  have q5 : (Lib.uvarint (Lib.zigzag r.op.a)).length ≤ 10 := Lib.uvarint_length64 (zig_lt (fits_i64 g1).1)
  have q6 : (Lib.uvarint (Lib.zigzag r.op.b)).length ≤ 10 := Lib.uvarint_length64 (zig_lt (fits_i64 g1).2)
  have q7 : (Lib.uvarint (Lib.zigzag r.resp)).length ≤ 10 := Lib.uvarint_length64 (zig_lt hresp)
  unfold encOne putOpL
  simp only [List.length_append]
  omega

theorem encRs_len8 : ∀ (l pre : List Rec), (∀ r ∈ pre, FitsR r) → (∀ r ∈ l, FitsR r) → (encRs pre l).length ≤ 60 * l.length
  | [], _, _, _ => by simp [encRs]
  | r :: t, pre, hp, hl => by
    have hr := hl r (by simp)
    have h1 := encOne_len8 hp hr
    have h2 := encRs_len8 t (pre ++ [r]) (fun s hs => by
      rcases List.mem_append.1 hs with h | h
      · exact hp s h
      · rw [List.mem_singleton.1 h]; exact hr) (fun s hs => hl s (by simp [hs]))
    rw [encRs, List.length_append, List.length_cons]
    omega

theorem flatE_len {v : Nat} (h1 : 1 ≤ v) (h3 : v ≤ 3) : ∀ (l : List Rec), (∀ r ∈ l, FitsR r) → (l.flatMap (elderE v)).length ≤ 310 * l.length
  | [], _ => by simp
  | r :: l, hl => by
    have h := elderE_len h1 h3 (hl r (by simp))
    have ih := flatE_len h1 h3 l (fun s hs => hl s (by simp [hs]))
    rw [List.flatMap_cons, List.length_append, List.length_cons]
    omega

theorem dataV_len {v : Nat} (h1 : 1 ≤ v) (h3 : v ≤ 3) {l : List Rec} (hl : l.length ≤ 16) (hf : ∀ r ∈ l, FitsR r) : (dataV v l).length ≤ 6000 := by
  unfold dataV
  split
  · have h := encRs_len8 l [] (by simp) hf
    have hh : (l.headD zeroR).idx.toNat < 4611686018427387904 := by
      cases l with
      | nil => decide
      | cons r t =>
        obtain ⟨_, i0, i1, _⟩ := hf r (by simp)
        rw [List.headD_cons]
        omega
    have q1 : (Lib.uvarint (l.headD zeroR).idx.toNat).length ≤ 10 := Lib.uvarint_length64 (by omega)
    have q2 : (Lib.uvarint l.length).length ≤ 10 := Lib.uvarint_length64 (by omega)
    unfold encB
    simp only [List.length_append]
    omega
  · have h := flatE_len h1 h3 l hf
    omega

theorem chunks_mem : ∀ (n : Nat) (l c : List Rec), l.length ≤ n → c ∈ chunks l → c.length ≤ 16 ∧ 1 ≤ c.length ∧ ∀ r ∈ c, r ∈ l
  | 0, l, c, h, hc => by
    have e : l = [] := List.eq_nil_of_length_eq_zero (by omega)
    rw [e, chunks_nil] at hc
    simp at hc
  | n + 1, l, c, h, hc => by
    by_cases e : l = []
    · rw [e, chunks_nil] at hc
      simp at hc
    · have h0 : l.length ≠ 0 := by simpa using e
      rw [chunks_cons e] at hc
      rcases List.mem_cons.1 hc with hc | hc
      · rw [hc]
        refine ⟨by rw [List.length_take]; omega, by rw [List.length_take]; omega, fun r hr => List.mem_of_mem_take hr⟩
      · obtain ⟨h1, h2, h3⟩ := chunks_mem n (l.drop 16) c (by rw [List.length_drop]; omega) hc
        exact ⟨h1, h2, fun r hr => List.mem_of_mem_drop (h3 r hr)⟩

theorem blocks_len {v : Nat} (h1 : 1 ≤ v) (h3 : v ≤ 3) {l : List Rec} (hf : ∀ r ∈ l, FitsR r) : ∀ d ∈ blocksS v l, d.length ≤ 6000 := by
  intro d hd
  unfold blocksS at hd
  obtain ⟨c, hc, rfl⟩ := List.mem_map.1 hd
  obtain ⟨g1, g2, g3⟩ := chunks_mem _ l c (Nat.le_refl _) hc
  exact dataV_len h1 h3 g1 (fun r hr => hf r (g3 r hr))

theorem offs_len : ∀ (B : List (List UInt8)) (n : Nat), n < 4611686018427387904 → (∀ d ∈ B, d.length ≤ 1048576) → (offsS n B).length ≤ 10 * B.length
  | [], _, _, _ => by simp [offsS]
  | x :: xs, n, hn, hB => by
    have q : (Lib.uvarint n).length ≤ 10 := Lib.uvarint_length64 (by omega)
    have hx := hB x (by simp)
    have := frameOf_len6 hx
    have ih := offs_len xs (frameOf x).length (by omega) (fun d hd => hB d (by simp [hd]))
    rw [offsS, List.length_append, List.length_cons]
    omega

theorem blocksS_len {v : Nat} (l : List Rec) : (blocksS v l).length = (l.length + 15) / 16 := by
  unfold blocksS
  rw [List.length_map, chunks_length _ l (Nat.le_refl _)]

theorem parts_len {v : Nat} (h1 : 1 ≤ v) (h3 : v ≤ 3) {s : Seg} (hm : MayG s) : ∀ d ∈ partsS v s, d.length ≤ 1048576 := by
  obtain ⟨⟨k0, k1, f0, f1⟩, hr⟩ := hm
  have hb := blocks_len h1 h3 hr.2.1
  have hh := headS_len (v := v) (k := s.kind.toNat) (f := s.first.toNat) h3 (by omega) (by omega)
  intro d hd
  unfold partsS at hd
  rcases List.mem_cons.1 hd with hd | hd
  · rw [hd]; omega
  · rcases List.mem_append.1 hd with hd | hd
    · have := hb d hd
      omega
    · rw [List.mem_singleton.1 hd]
      unfold footS
      have hbl := blocksS_len (v := v) s.recs
      have h4 := hr.1
      have q : (Lib.uvarint (blocksS v s.recs).length).length ≤ 10 := Lib.uvarint_length64 (by omega)
      have := frameOf_len6 (d := headS v s.kind.toNat s.first.toNat) (by omega)
      have := offs_len (blocksS v s.recs) (frameOf (headS v s.kind.toNat s.first.toNat)).length (by omega) (fun d hd => by have := hb d hd; omega)
      rw [List.length_append]
      omega

/-- Encoded and decoded: the upgrade. -/
theorem decS8_enc {v : Nat} (h1 : 1 ≤ v) (h3 : v ≤ 3) {s : Seg} (hm : MayG s) : decS8 (encS8 v s) = (upgG v s, 0) := by
  have hl := parts_len h1 h3 hm
  obtain ⟨⟨k0, k1, f0, f1⟩, hr⟩ := hm
  have hw := wholeF_frames (partsS v s) hl
  have hh := readH_head (v := v) (k := s.kind.toNat) (f := s.first.toNat) h1 h3 (by omega) (by omega)
  have hb := walkB_blocks h1 h3 (s.first.toNat : Nat) s.recs.length s.recs [] (Nat.le_refl _) (by
    have e : ((s.first.toNat : Nat) : Int) + (([] : List Rec).length : Int) = s.first := by rw [List.length_nil]; omega
    rw [e]
    exact hr) (by rw [List.length_nil]; have := hr.1; omega)
  rw [List.nil_append] at hb
  unfold decS8 encS8
  rw [hw]
  simp only [ne_eq, not_true_eq_false, if_false]
  have e1 : (partsS v s).headD [] = headS v s.kind.toNat s.first.toNat := rfl
  have e2 : (partsS v s).tail.dropLast = blocksS v s.recs := by
    unfold partsS
    rw [List.tail_cons, List.dropLast_concat]
  have e3 : (partsS v s).getLastD [] = footS (headS v s.kind.toNat s.first.toNat) (blocksS v s.recs) := by
    unfold partsS
    rw [← List.cons_append, List.getLastD_eq_getLast?, List.getLast?_concat]
    rfl
  have e4 : ¬ (partsS v s).length < 2 := by
    unfold partsS
    simp
  unfold decL8
  rw [if_neg e4, e1, hh]
  simp only
  rw [e2, e3, hb]
  rw [if_neg (fun h => h rfl), if_pos rfl]
  unfold upgG
  rw [Int.toNat_of_nonneg k0, Int.toNat_of_nonneg f0]

theorem readH_sound {d : List UInt8} {v k f : Nat} (h : readH d = .ok (v, k, f)) : d = headS v k f ∧ 1 ≤ v ∧ v ≤ 3 ∧ k < 6 ∧ f < 4611686018427387904 := by
  unfold readH at h
  simp only at h
  split at h
  · cases h
  rename_i g1
  split at h
  · cases h
  rename_i g2
  split at h
  · cases h
  rename_i g3
  split at h
  · cases h
  rename_i g4
  simp only [Except.ok.injEq, Prod.mk.injEq] at h
  obtain ⟨hv, hk, hf⟩ := h
  have t1 := dec62_take (l := d.drop 1) (by omega)
  have t2 := dec62_take (l := d.drop (1 + (dec62 (d.drop 1)).2)) (by omega)
  have t3 := dec62_take (l := d.drop (1 + (dec62 (d.drop 1)).2 + (dec62 (d.drop (1 + (dec62 (d.drop 1)).2))).2)) (by omega)
  have hf62 : f < 4611686018427387904 := by
    rw [← hf]
    rcases dec62_cases (d.drop (1 + (dec62 (d.drop 1)).2 + (dec62 (d.drop (1 + (dec62 (d.drop 1)).2))).2)) with h | h
    · rw [h]; decide
    · exact h.1
  rw [hv] at t1 g3
  rw [hk] at t2 g4
  rw [hf] at t3
  generalize (dec62 (d.drop 1)).2 = i at *
  generalize (dec62 (d.drop (1 + i))).2 = j at *
  generalize (dec62 (d.drop (1 + i + j))).2 = m at *
  refine ⟨?_, by omega, by omega, by omega, hf62⟩
  cases d with
  | nil => exact absurd (.inl rfl) g1
  | cons c t =>
    have hc : c = 108 := by
      have := fun h => g1 (.inr h)
      simpa using Decidable.not_not.1 this
    have x1 : (c :: t).drop 1 = t := rfl
    have x2 : (c :: t).drop (1 + i) = t.drop i := by rw [Nat.add_comm, List.drop_succ_cons]
    have x3 : (c :: t).drop (1 + i + j) = (t.drop i).drop j := by rw [← List.drop_drop, x2]
    rw [x1] at t1
    rw [x2] at t2
    rw [x3] at t3
    have hm : m = ((t.drop i).drop j).length := by
      have : 1 + i + j + m = (c :: t).length := Decidable.not_not.1 (fun h => g2 (.inr (.inr (.inr h))))
      rw [List.length_cons] at this
      rw [List.length_drop, List.length_drop]
      omega
    rw [hm, List.take_length] at t3
    unfold headS
    rw [hc, t1, t2, t3, List.take_append_drop, List.take_append_drop]

theorem walkB_sound3 (first : Int) : ∀ (B : List (List UInt8)) (acc r : List Rec) (last n : Nat), acc.length ≤ 4096 → walkB 3 first B acc last = (r, n, 0) →
    ∃ l, r = acc ++ l ∧ B = blocksS 3 l ∧ RecsOk l (first + acc.length) ∧ (last < 16 → l = []) ∧ acc.length + l.length ≤ 4096
  | [], acc, r, last, n, ha, h => by
    rw [walkB] at h
    simp only [Prod.mk.injEq] at h
    refine ⟨[], by rw [List.append_nil]; exact h.1.symm, by unfold blocksS; rw [chunks_nil]; rfl, ⟨by simp, by simp, trivial⟩, fun _ => rfl, by simpa using ha⟩
  | d :: ds, acc, r, last, n, ha, h => by
    rw [walkB] at h
    cases hrd : readBk 3 d (first + acc.length) with
    | none => rw [hrd] at h; simp at h
    | some c =>
      rw [hrd] at h
      simp only at h
      split at h
      · simp at h
      rename_i g1
      split at h
      · simp at h
      rename_i g2
      simp only [Prod.mk.injEq] at h
      obtain ⟨q1, _, q3⟩ := h
      obtain ⟨l, e1, e2, e3, e4, e5⟩ := walkB_sound3 first ds (acc ++ c) r c.length (walkB 3 first ds (acc ++ c) c.length).2.1 (by rw [List.length_append]; omega) (by rw [← q1, ← q3])
      obtain ⟨g3, g4, hdv⟩ := readBk_is hrd
      rw [List.length_append] at e5 e3
      have hne : c ≠ [] := fun e => by rw [e] at g3; simp at g3
      have hbk : blocksS 3 (c ++ l) = d :: blocksS 3 l := by
        have hone : blocksS 3 c = [d] := by
          unfold blocksS
          rw [chunks_few hne g3.2, List.map_cons, List.map_nil, hdv]
        by_cases h16 : c.length < 16
        · rw [e4 h16, List.append_nil, hone]
          unfold blocksS
          rw [chunks_nil]
          rfl
        · rw [blocks_app 3 1 c l (by omega), hone]
          rfl
      refine ⟨c ++ l, by rw [e1, List.append_assoc], by rw [hbk, e2], ⟨by rw [List.length_append]; omega, fun s hs => ?_, ?_⟩, fun hh => absurd hh g1, by rw [List.length_append]; omega⟩
      · rcases List.mem_append.1 hs with hs | hs
        · exact g4.2.1 s hs
        · exact e3.2.1 s hs
      · rw [chain_app]
        refine ⟨g4.2.2, ?_⟩
        have e : first + (acc.length : Int) + (c.length : Int) = first + ((acc.length + c.length : Nat) : Int) := by omega
        rw [e]
        exact e3.2.2

theorem head_third {v k f : Nat} (h1 : 1 ≤ v) (h3 : v ≤ 3) (hk : k < 6) (hf : f < 4611686018427387904) (t : List UInt8) : (frameOf (headS v k f) ++ t).getD 2 0 = v.toUInt8 := by
  have hl := headS_len (v := v) h3 hk hf
  unfold frameOf headOf
  rw [uv_small (n := (headS v k f).length) (by omega)]
  unfold headS
  rw [uv_small (n := v) (by omega)]
  rfl

/-- Decoded of a version 3 and encoded: the same bytes. -/
theorem decS8_once {b : List UInt8} {s : Seg} (h : decS8 b = (s, 0)) (h2 : b.getD 2 0 = 3) : MayG s ∧ encS8 3 s = b := by
  unfold decS8 at h
  by_cases hw : (wholeF b).2.2 = 0
  case neg =>
    rw [if_pos hw] at h
    simp only [Prod.mk.injEq] at h
    omega
  rw [if_neg (fun h => h hw)] at h
  obtain ⟨a1, a2⟩ := wholeF_all _ b (Nat.le_refl _) hw
  generalize (wholeF b).1 = L at *
  unfold decL8 at h
  split at h
  · simp at h
  rename_i hl
  match L, hl, h, a1, a2 with
  | [], hl, _, _, _ => exact absurd (by simp) hl
  | [_], hl, _, _, _ => exact absurd (by simp) hl
  | H :: X :: T, _, h, a1, a2 =>
    rw [List.headD_cons] at h
    cases hrd : readH H with
    | error e =>
      rw [hrd] at h
      simp only [Prod.mk.injEq] at h
      exfalso
      have h0 := h.2
      rw [h0] at hrd
      unfold readH at hrd
      simp only at hrd
      repeat' split at hrd
      all_goals simp at hrd
    | ok x =>
      obtain ⟨v, k, f⟩ := x
      rw [hrd] at h
      simp only at h
      obtain ⟨hH, v1, v3, hk, hf⟩ := readH_sound hrd
      have hv : v = 3 := by
        rw [← a1, framesOf_cons, hH, head_third v1 v3 hk hf] at h2
        have := congrArg UInt8.toNat h2
        rw [toU8_toNat (by omega)] at this
        exact this
      subst hv
      rw [List.tail_cons] at h
      split at h
      · simp only [Prod.mk.injEq] at h
        rename_i hne
        exact absurd h.2 hne
      rename_i hz
      have hz := Decidable.not_not.1 hz
      split at h
      · rename_i hft
        simp only [Prod.mk.injEq, and_true] at h
        obtain ⟨l, e1, e2, e3, _, e5⟩ := walkB_sound3 f (X :: T).dropLast [] _ 16 (walkB 3 f (X :: T).dropLast [] 16).2.1 (by simp) (by rw [← hz])
        rw [List.nil_append] at e1
        rw [e1] at h
        subst h
        have ef : (f : Int) + (([] : List Rec).length : Int) = f := by simp
        rw [ef] at e3
        refine ⟨⟨⟨by simp, by simp only; omega, by simp, by simp only; omega⟩, e3⟩, ?_⟩
        rw [← a1]
        unfold encS8 partsS
        simp only [Int.toNat_natCast]
        rw [← hH, ← e2, hft]
        congr 2
        have hne : X :: T ≠ [] := by simp
        have hlast : (H :: X :: T).getLastD [] = (X :: T).getLast hne := by
          rw [List.getLastD_eq_getLast?, List.getLast?_cons_cons, List.getLast?_eq_some_getLast hne]
          rfl
        rw [hlast]
        exact List.dropLast_concat_getLast hne
      · simp at h

end Go.Proofs.YtddhcohjmgdajaaDoor

/- Segments: cut, and what is whole of them. -/
namespace Go.Proofs.YtddhcohjmgdajaaDoor

theorem wholes_bytes : ∀ (L : List (List UInt8)) (m : Nat), (wholes L m).2 = (framesOf (L.take (wholes L m).1)).length
  | [], m => by simp [wholes, framesOf]
  | x :: L, m => by
    unfold wholes
    split
    · rw [List.take_succ_cons, framesOf_cons, List.length_append, ← wholes_bytes L (m - (frameOf x).length)]
      simp only
      omega
    · simp [framesOf]

theorem chunks_take (l : List Rec) (k : Nat) : chunks (l.take (16 * k)) = (chunks l).take k := by
  by_cases h : 16 * k ≤ l.length
  · have hl : (l.take (16 * k)).length = 16 * k := by rw [List.length_take]; omega
    have e := chunks_app k (l.take (16 * k)) (l.drop (16 * k)) hl
    rw [List.take_append_drop] at e
    have hc := chunks_length _ (l.take (16 * k)) (Nat.le_refl _)
    rw [hl] at hc
    have e' : (chunks l).take k = (chunks (l.take (16 * k)) ++ chunks (l.drop (16 * k))).take k := by rw [← e]
    rw [e', List.take_append_of_le_length (by omega)]
    exact (List.take_of_length_le (by omega)).symm
  · have hc := chunks_length _ l (Nat.le_refl _)
    rw [List.take_of_length_le (by omega), List.take_of_length_le (by omega)]

theorem blocks_take (v : Nat) (l : List Rec) (k : Nat) : blocksS v (l.take (16 * k)) = (blocksS v l).take k := by
  unfold blocksS
  rw [chunks_take, List.map_take]

theorem chunks_get (l : List Rec) (q : Nat) (hq : q < (chunks l).length) : (chunks l)[q] = (l.drop (16 * q)).take 16 := by
  have hc := chunks_length _ l (Nat.le_refl _)
  have hl : (l.take (16 * q)).length = 16 * q := by rw [List.length_take]; omega
  have hlc := chunks_length _ (l.take (16 * q)) (Nat.le_refl _)
  rw [hl] at hlc
  have e := chunks_app q (l.take (16 * q)) (l.drop (16 * q)) hl
  rw [List.take_append_drop] at e
  have hne : l.drop (16 * q) ≠ [] := fun h => by
    have := congrArg List.length h
    rw [List.length_drop, List.length_nil] at this
    omega
  rw [chunks_cons hne] at e
  have : (chunks l)[q]? = some ((l.drop (16 * q)).take 16) := by
    rw [e, List.getElem?_append_right (by omega)]
    have : q - (chunks (l.take (16 * q))).length = 0 := by omega
    rw [this]
    rfl
  rw [List.getElem?_eq_getElem hq] at this
  exact Option.some.inj this

/-- A block is no footer of the blocks ahead of it. -/
theorem foot_ne {v k f : Nat} (h1 : 1 ≤ v) (h3 : v ≤ 3) (hk : k < 6) (hf : f < 4611686018427387904) (B : List (List UInt8)) (hB : B.length ≤ 4096) {c : List Rec} (hc1 : 1 ≤ c.length) (hc2 : c.length ≤ 16) (hr : RecsOk c (f + 16 * B.length)) :
    footS (headS v k f) B ≠ dataV v c := by
  intro h
  have hne : c ≠ [] := fun e => by rw [e] at hc1; simp at hc1
  match c, hne with
  | r :: t, _ =>
    have hrf := hr.2.1 r (by simp)
    have hri := hr.2.2.1
    obtain ⟨_, i0, i1, _⟩ := hrf
    unfold footS dataV at h
    by_cases hv : v = 3
    · rw [if_pos hv] at h
      unfold encB at h
      rw [List.headD_cons] at h
      obtain ⟨e1, e2⟩ := uv_inj62 (by omega) (by omega) h
      have hb0 : B.length = 0 := by omega
      have e : B = [] := List.eq_nil_of_length_eq_zero hb0
      rw [e, offsS] at e2
      have := congrArg List.length e2
      rw [List.length_nil, List.length_append] at this
      have := Lib.uvarint_pos (r :: t).length
      omega
    · rw [if_neg hv, List.flatMap_cons] at h
      have hr' := hr.2.1 r (by simp)
      have hel := encR_len h1 h3 hr'
      unfold elderE at h
      rw [List.append_assoc] at h
      obtain ⟨e1, e2⟩ := uv_inj62 (by omega) (by omega) h
      obtain ⟨t0, he⟩ := encR_first h1 h3 r
      match B, e1, e2 with
      | [], e1, e2 =>
        rw [offsS] at e2
        rw [he] at e2
        simp at e2
      | x :: xs, e1, e2 =>
        have hl := headS_len (v := v) h3 hk hf
        have hfl := frameOf_length (headS v k f)
        have hu : (Lib.uvarint (headS v k f).length).length = 1 := by rw [uv_small (by omega)]; rfl
        have hp : 1 ≤ (headS v k f).length := by unfold headS; simp
        rw [offsS, he, uv_small (by omega)] at e2
        simp only [List.cons_append, List.cons.injEq] at e2
        have := congrArg UInt8.toNat e2.1
        rw [toU8_toNat (by omega), toU8_toNat (by omega)] at this
        omega

/-- The beginning of a segment, frame by frame. -/
theorem parts_take (v : Nat) (s : Seg) (n : Nat) (hn : n < (partsS v s).length) (h0 : n ≠ 0) : (partsS v s).take n = headS v s.kind.toNat s.first.toNat :: (blocksS v s.recs).take (n - 1) := by
  obtain ⟨m, rfl⟩ : ∃ m, n = m + 1 := ⟨n - 1, by omega⟩
  unfold partsS at hn ⊢
  rw [List.length_cons, List.length_append, List.length_singleton] at hn
  rw [List.take_succ_cons, Nat.add_sub_cancel, List.take_append_of_le_length (by omega)]

theorem walk_part {v : Nat} (h1 : 1 ≤ v) (h3 : v ≤ 3) {s : Seg} (hm : MayG s) (q : Nat) :
    walkB v (s.first.toNat : Nat) ((blocksS v s.recs).take q) [] 16 = ((s.recs.take (16 * q)).map (upgR v), (chunks (s.recs.take (16 * q))).length, 0) := by
  obtain ⟨⟨k0, k1, f0, f1⟩, hr⟩ := hm
  have hr' := hr
  rw [← List.take_append_drop (16 * q) s.recs] at hr'
  have hb := walkB_blocks h1 h3 (s.first.toNat : Nat) (s.recs.take (16 * q)).length (s.recs.take (16 * q)) [] (Nat.le_refl _) (by
    have e : ((s.first.toNat : Nat) : Int) + (([] : List Rec).length : Int) = s.first := by rw [List.length_nil]; omega
    rw [e]
    exact (recsOk_app hr').1) (by rw [List.length_nil]; have := (recsOk_app hr').1.1; omega)
  rw [List.nil_append] at hb
  rw [← blocks_take]
  exact hb

/-- Each proper beginning is refused. -/
theorem decS8_cut {v : Nat} (h1 : 1 ≤ v) (h3 : v ≤ 3) {s : Seg} (hm : MayG s) (cut : Nat) (hc : cut < (encS8 v s).length) : (decS8 ((encS8 v s).take cut)).2 ≠ 0 := by
  have hl := parts_len h1 h3 hm
  have hw := wholeF_cut (partsS v s) cut hl (Nat.le_of_lt hc)
  have hle := wholes_le (partsS v s) cut
  have hby := wholes_bytes (partsS v s) cut
  unfold decS8
  have hwp := fun q => walk_part h1 h3 hm q
  obtain ⟨⟨k0, k1, f0, f1⟩, hr⟩ := hm
  have ee : encS8 v s = framesOf (partsS v s) := rfl
  rw [ee] at hc ⊢
  rw [hw]
  simp only
  by_cases he : (wholes (partsS v s) cut).2 = cut
  case neg =>
    rw [if_neg he, if_pos (by decide)]
    simp
  rw [if_pos he, if_neg (by simp)]
  generalize (wholes (partsS v s) cut).1 = n at *
  have hn : n < (partsS v s).length := by
    rcases Nat.lt_or_ge n (partsS v s).length with h | h
    · exact h
    · rw [List.take_of_length_le h] at hby
      omega
  unfold decL8
  by_cases h2 : ((partsS v s).take n).length < 2
  · rw [if_pos h2]
    simp
  rw [if_neg h2]
  rw [List.length_take] at h2
  have hh := readH_head (v := v) (k := s.kind.toNat) (f := s.first.toNat) h1 h3 (by omega) (by omega)
  obtain ⟨q, rfl⟩ : ∃ q, n = q + 2 := ⟨n - 2, by omega⟩
  have hpl : (partsS v s).length = (blocksS v s.recs).length + 2 := by
    unfold partsS
    rw [List.length_cons, List.length_append, List.length_singleton]
  have hq : q < (blocksS v s.recs).length := by omega
  rw [parts_take v s (q + 2) hn (by omega)]
  have e0 : q + 2 - 1 = q + 1 := by omega
  rw [e0, List.headD_cons, hh, List.tail_cons]
  simp only
  have e1 : ((blocksS v s.recs).take (q + 1)).dropLast = (blocksS v s.recs).take q := by
    rw [List.take_add_one, List.getElem?_eq_getElem hq, Option.toList_some, List.dropLast_concat]
  have e2 : (headS v s.kind.toNat s.first.toNat :: (blocksS v s.recs).take (q + 1)).getLastD [] = (blocksS v s.recs)[q] := by
    rw [List.take_add_one, List.getElem?_eq_getElem hq, List.getLastD_eq_getLast?]
    simp only [Option.toList_some]
    rw [← List.cons_append, List.getLast?_concat]
    rfl
  have hcl : (chunks s.recs).length = (blocksS v s.recs).length := by unfold blocksS; rw [List.length_map]
  have hcc := chunks_length _ s.recs (Nat.le_refl _)
  have hqc : q < (chunks s.recs).length := by omega
  have e3 : (blocksS v s.recs)[q] = dataV v ((s.recs.drop (16 * q)).take 16) := by
    have h : (blocksS v s.recs)[q]? = some (dataV v ((s.recs.drop (16 * q)).take 16)) := by
      unfold blocksS
      rw [List.getElem?_map, List.getElem?_eq_getElem hqc, chunks_get s.recs q hqc]
      rfl
    rw [List.getElem?_eq_getElem hq] at h
    exact Option.some.inj h
  rw [e1, e2, hwp q]
  simp only
  rw [if_neg (fun h => h rfl), e3]
  have hr1 := hr
  rw [← List.take_append_drop (16 * q) s.recs] at hr1
  have hr2 := (recsOk_app hr1).2
  rw [← List.take_append_drop 16 (s.recs.drop (16 * q))] at hr2
  have hr3 := (recsOk_app hr2).1
  have hle2 : 16 * q < s.recs.length := by omega
  have hlt : (s.recs.take (16 * q)).length = 16 * q := by rw [List.length_take]; omega
  have hBl : ((blocksS v s.recs).take q).length = q := by rw [List.length_take]; omega
  have := hr.1
  rw [if_neg (foot_ne h1 h3 (by omega) (by omega) _ (by omega) (by rw [List.length_take, List.length_drop]; omega) (by rw [List.length_take]; omega) (by
    rw [hBl]
    rw [hlt] at hr3
    have e : ((s.first.toNat : Nat) : Int) + 16 * (q : Int) = s.first + ((16 * q : Nat) : Int) := by omega
    rw [e]
    exact hr3))]
  simp

/-- What is whole of the head and some blocks. -/
theorem recL8_part {v : Nat} (h1 : 1 ≤ v) (h3 : v ≤ 3) {s : Seg} (hm : MayG s) (q : Nat) (hq : q ≤ (blocksS v s.recs).length) :
    recL8 (headS v s.kind.toNat s.first.toNat :: (blocksS v s.recs).take q) = (upgG v ⟨s.kind, s.first, s.recs.take (16 * q)⟩, (framesOf (headS v s.kind.toNat s.first.toNat :: (blocksS v s.recs).take q)).length, true) := by
  have hwp := walk_part h1 h3 hm q
  obtain ⟨⟨k0, k1, f0, f1⟩, hr⟩ := hm
  have hh := readH_head (v := v) (k := s.kind.toNat) (f := s.first.toNat) h1 h3 (by omega) (by omega)
  have hcl : (chunks (s.recs.take (16 * q))).length = q := by
    rw [chunks_take, List.length_take]
    have hb : (chunks s.recs).length = (blocksS v s.recs).length := by unfold blocksS; rw [List.length_map]
    omega
  unfold recL8
  rw [if_neg (by simp), List.headD_cons, hh]
  simp only
  rw [List.tail_cons, hwp]
  simp only
  have ht : (headS v s.kind.toNat s.first.toNat :: (blocksS v s.recs).take q).take (1 + q) = headS v s.kind.toNat s.first.toNat :: (blocksS v s.recs).take q := List.take_of_length_le (by rw [List.length_cons, List.length_take]; omega)
  rw [hcl, ht]
  unfold upgG
  rw [Int.toNat_of_nonneg k0, Int.toNat_of_nonneg f0]

theorem recS8_none {v : Nat} (h1 : 1 ≤ v) (h3 : v ≤ 3) {s : Seg} (hm : MayG s) (cut : Nat) (hc : cut < (frameOf (headS v s.kind.toNat s.first.toNat)).length) : recS8 ((encS8 v s).take cut) = (zeroG, 0, false) := by
  have hl := parts_len h1 h3 hm
  have ee : encS8 v s = framesOf (partsS v s) := rfl
  have hlt : cut ≤ (framesOf (partsS v s)).length := by
    unfold partsS
    rw [framesOf_cons, List.length_append]
    omega
  have hw := wholeF_cut (partsS v s) cut hl hlt
  have hz : wholes (partsS v s) cut = (0, 0) := by
    unfold partsS
    rw [wholes, if_neg (by omega)]
  unfold recS8
  rw [ee, hw, hz]
  rfl

theorem recS8_cut {v : Nat} (h1 : 1 ≤ v) (h3 : v ≤ 3) {s : Seg} (hm : MayG s) (cut : Nat) (hc : cut < (encS8 v s).length) (q : Nat) (hq : q ≤ (blocksS v s.recs).length)
    (ha : (framesOf (headS v s.kind.toNat s.first.toNat :: (blocksS v s.recs).take q)).length ≤ cut)
    (hb : q = (blocksS v s.recs).length ∨ cut < (framesOf (headS v s.kind.toNat s.first.toNat :: (blocksS v s.recs).take (q + 1))).length) :
    recS8 ((encS8 v s).take cut) = (upgG v ⟨s.kind, s.first, s.recs.take (16 * q)⟩, (framesOf (headS v s.kind.toNat s.first.toNat :: (blocksS v s.recs).take q)).length, true) := by
  have hl := parts_len h1 h3 hm
  have ee : encS8 v s = framesOf (partsS v s) := rfl
  rw [ee] at hc ⊢
  have hw := wholeF_cut (partsS v s) cut hl (Nat.le_of_lt hc)
  have hpl : (partsS v s).length = (blocksS v s.recs).length + 2 := by
    unfold partsS
    rw [List.length_cons, List.length_append, List.length_singleton]
  have ht := parts_take v s (q + 1) (by omega) (by omega)
  rw [Nat.add_sub_cancel] at ht
  have hz := wholes_at (partsS v s) cut (q + 1) (by omega) (by rw [ht]; exact ha) (.inr (by
    rcases hb with hb | hb
    · have e : (partsS v s).take (q + 1 + 1) = partsS v s := List.take_of_length_le (by omega)
      rw [e]
      exact hc
    · by_cases e : q = (blocksS v s.recs).length
      · have e : (partsS v s).take (q + 1 + 1) = partsS v s := List.take_of_length_le (by omega)
        rw [e]
        exact hc
      · rw [parts_take v s (q + 1 + 1) (by omega) (by omega), Nat.add_sub_cancel]
        exact hb))
  unfold recS8
  rw [hw, hz]
  simp only
  rw [ht]
  exact recL8_part h1 h3 hm q hq

/-- The head and all blocks, and nothing behind them. -/
theorem recS8_all {v : Nat} (h1 : 1 ≤ v) (h3 : v ≤ 3) {s : Seg} (hm : MayG s) :
    recS8 (framesOf (headS v s.kind.toNat s.first.toNat :: blocksS v s.recs)) = (upgG v s, (framesOf (headS v s.kind.toNat s.first.toNat :: blocksS v s.recs)).length, true) := by
  have hl := parts_len h1 h3 hm
  have hw := wholeF_frames (headS v s.kind.toNat s.first.toNat :: blocksS v s.recs) (fun x hx => hl x (by
    unfold partsS
    rcases List.mem_cons.1 hx with h | h
    · rw [h]; simp
    · simp [h]))
  have hr := recL8_part h1 h3 hm (blocksS v s.recs).length (Nat.le_refl _)
  rw [List.take_length] at hr
  have hbl := blocksS_len (v := v) s.recs
  rw [List.take_of_length_le (by omega)] at hr
  unfold recS8
  rw [hw]
  exact hr

theorem mayG_take {s : Seg} (h : MayG s) (n : Nat) : MayG ⟨s.kind, s.first, s.recs.take n⟩ := by
  obtain ⟨h1, hr⟩ := h
  refine ⟨h1, ?_⟩
  rw [← List.take_append_drop n s.recs] at hr
  exact (recsOk_app hr).1

end Go.Proofs.YtddhcohjmgdajaaDoor

/- Contracts of ferrymanref08: Head, data, joined, footer. -/
namespace Go.Proofs.YtddhcohjmgdajaaDoor
open Go.RowKit

/-- May a head be? -/
def HeadOk (k f : Int) : Prop := 0 ≤ k ∧ k < 6 ∧ 0 ≤ f ∧ f < 4611686018427387904

instance (k f : Int) : Decidable (HeadOk k f) := by unfold HeadOk; infer_instance

def headErr (v k f : Int) : Int := if 1 ≤ v ∧ v ≤ 3 then (if HeadOk k f then 0 else 1) else 6

def headL (v k f : Int) : List UInt8 := if 1 ≤ v ∧ v ≤ 3 then (if HeadOk k f then frameOf (headS v.toNat k.toNat f.toNat) else []) else []

/-- What Head answers. -/
def Headed (w : World) (v k f : Int) (e : Ending) (w' : World) : Prop :=
  ∃ v', e = .returned (.tuple #[v', .int .i64 (headErr v k f)]) ∧ Own w' w.heap.size v' (headL v k f) ∧ Below w.heap.size w w'

/-- One byte, just made. -/
theorem Rd.byte (w : World) (c : UInt8) : Rd (w.alloc (.cells #[.int .u8 c.toNat] 5)) (.slice (some ⟨w.heap.size, 0, none⟩) 1 1) [c] := by
  refine ⟨some ⟨w.heap.size, 0, none⟩, 1, rfl, Nat.le_refl _, by unfold maxLen; omega, (fun h => by cases h), .inr ⟨w.heap.size, 0, rfl, fun j hj => ?_⟩⟩
  have e : j = 0 := by simpa using hj
  subst e
  rw [cell_of_row _ w.heap.size 0 _ 5 (0, 0) (heap_alloc_new w _)]
  rfl

theorem frame_ok {l : List UInt8} (h : l.length ≤ 1048576) : encF l = (frameOf l, 0) := by
  unfold encF
  rw [if_pos h]

set_option maxRecDepth 100000 in
set_option maxHeartbeats 2000000 in
theorem refHead_any (v k f : Int) (w : World) :
    Calls Tryd.prog 11 #[.int .i64 v, .int .i64 k, .int .i64 f] w fun e w' => Headed w v k f e w' := by
  unfold Headed headErr headL
  by_cases hv1 : 1 ≤ v
  case neg =>
    have hv1' : v < 1 := by omega
    rw [if_neg (fun h => hv1 h.1), if_neg (fun h => hv1 h.1)]
    clear hv1
    go_enter Tryd.func11, Tryd.ntmps11
    go_wp2
    go_ret2
    exact ⟨_, rfl, Own.nil _ _, Below.refl _ _⟩
  have hv1' : ¬ v < 1 := by omega
  by_cases hv3 : v ≤ 3
  case neg =>
    have hv3' : 3 < v := by omega
    rw [if_neg (fun h => hv3 h.2), if_neg (fun h => hv3 h.2)]
    clear hv1 hv3
    go_enter Tryd.func11, Tryd.ntmps11
    go_wp2
    go_ret2
    exact ⟨_, rfl, Own.nil _ _, Below.refl _ _⟩
  have hv3' : ¬ 3 < v := by omega
  have hv : 1 ≤ v ∧ v ≤ 3 := ⟨hv1, hv3⟩
  rw [if_pos hv, if_pos hv]
  by_cases h : HeadOk k f
  case neg =>
    rw [if_neg h, if_neg h]
    by_cases h1 : k < 0
    · clear h
      go_enter Tryd.func11, Tryd.ntmps11
      go_wp2
      go_ret2
      exact ⟨_, rfl, Own.nil _ _, Below.refl _ _⟩
    by_cases h2 : 6 ≤ k
    · clear h
      go_enter Tryd.func11, Tryd.ntmps11
      go_wp2
      go_ret2
      exact ⟨_, rfl, Own.nil _ _, Below.refl _ _⟩
    by_cases h3 : f < 0
    · clear h
      go_enter Tryd.func11, Tryd.ntmps11
      go_wp2
      go_ret2
      exact ⟨_, rfl, Own.nil _ _, Below.refl _ _⟩
    have h4 : 4611686018427387904 ≤ f := by
      by_cases h4 : f < 4611686018427387904
      · exact absurd ⟨by omega, by omega, by omega, h4⟩ h
      · omega
    clear h
    go_enter Tryd.func11, Tryd.ntmps11
    go_wp2
    go_ret2
    exact ⟨_, rfl, Own.nil _ _, Below.refl _ _⟩
  rw [if_pos h, if_pos h]
  obtain ⟨k0, k1, f0, f1⟩ := h
  have hk0 : ¬ k < 0 := by omega
  have hk1 : ¬ 6 ≤ k := by omega
  have hf0 : ¬ f < 0 := by omega
  have hf1 : ¬ 4611686018427387904 ≤ f := by omega
  have HPU : Hid (∀ v1 l n W, Rd W v1 l → l.length ≤ 1000 → 0 ≤ n → n < 4611686018427387904 → Calls Tryd.prog 30 #[v1, .int .i64 n] W fun e w' => ∃ v', e = .returned v' ∧ Own w' W.heap.size v' (l ++ Lib.uvarint n.toNat) ∧ Below W.heap.size W w') := fun v1 l n W h hl n0 n1 => by
    have h := refPut_any v1 l n W h (by omega)
    rw [putOf_small n0 n1] at h
    exact h
  have q1 : (Lib.uvarint v.toNat).length ≤ 10 := uv10' (by omega)
  have q2 : (Lib.uvarint k.toNat).length ≤ 10 := uv10' (by omega)
  have q3 : (Lib.uvarint f.toNat).length ≤ 10 := uv10' (by omega)
  have HE : Hid (headS v.toNat k.toNat f.toNat = (([108] ++ Lib.uvarint v.toNat) ++ Lib.uvarint k.toNat) ++ Lib.uvarint f.toNat) := hide (by unfold headS; simp)
  have HL : Hid ((headS v.toNat k.toNat f.toNat).length ≤ 1048576) := hide (by rw [HE.out]; simp only [List.length_append, List.length_singleton]; omega)
  have HEN := hide (fun v1 W (h : Rd W v1 (headS v.toNat k.toNat f.toNat)) => refEncode_any v1 _ W h)
  rw [frame_ok HL.out] at HEN
  have HB0 : Hid (∀ X, Below w.heap.size w (w.alloc X)) := fun X => (Below.refl _ _).alloc (Nat.le_refl _) X
  have HR0 : Hid (Rd (w.alloc (.cells #[.int .u8 108] 5)) (.slice (some ⟨w.heap.size, 0, none⟩) 1 1) [108]) := hide (Rd.byte w 108)
  have HP1 := hide (fun v1 W h => HPU.out v1 [108] v W h (by simp) (by omega) (by omega))
  have HP2 := hide (fun v1 W h => HPU.out v1 ([108] ++ Lib.uvarint v.toNat) k W h (by simp only [List.length_append, List.length_singleton]; omega) k0 (by omega))
  have HP3 := hide (fun v1 W h => HPU.out v1 (([108] ++ Lib.uvarint v.toNat) ++ Lib.uvarint k.toNat) f W h (by simp only [List.length_append, List.length_singleton]; omega) f0 f1)
  rw [← HE.out] at HP3
  clear HE HPU HL
  generalize headS v.toNat k.toNat f.toNat = L3 at *
  generalize [108] ++ Lib.uvarint v.toNat ++ Lib.uvarint k.toNat = L2 at *
  generalize [108] ++ Lib.uvarint v.toNat = L1 at *
  go_enter Tryd.func11, Tryd.ntmps11
  go_wp2_with fail
  refine (HP1.out _ _ HR0.out).mono ?_
  rintro e W1 ⟨v1, rfl, ho1, hb1⟩
  have HO1 := hide ho1.rd
  have HB1 := hide ((HB0.out _).trans (hb1.mono (HB0.out _).size))
  clear ho1 hb1
  go_wp2_with fail
  refine (HP2.out _ _ HO1.out).mono ?_
  rintro e W2 ⟨v2, rfl, ho2, hb2⟩
  have HO2 := hide ho2.rd
  have HB2 := hide (HB1.out.trans (hb2.mono HB1.out.size))
  clear ho2 hb2
  go_wp2_with fail
  refine (HP3.out _ _ HO2.out).mono ?_
  rintro e W3 ⟨v3, rfl, ho3, hb3⟩
  have HO3 := hide ho3.rd
  have HB3 := hide (HB2.out.trans (hb3.mono HB2.out.size))
  clear ho3 hb3
  go_wp2_with fail
  refine (HEN.out _ _ HO3.out).mono ?_
  rintro e W4 ⟨v4, rfl, ho4, hb4⟩
  have HO4 := hide (ho4.mono HB3.out.size)
  have HB4 := hide (HB3.out.trans (hb4.mono HB3.out.size))
  clear ho4 hb4
  go_wp2
  go_ret2
  exact ⟨_, rfl, HO4.out, HB4.out⟩

set_option maxRecDepth 100000 in
set_option maxHeartbeats 2000000 in
theorem refData_any (v : Nat) (hv1 : 1 ≤ v) (hv3 : v ≤ 3) (vl : Value) (l : List Rec) (i : Int) (w : World) (hr : RdR w vl l) (h1 : 1 ≤ l.length) (h2 : l.length ≤ 16) (hok : RecsOk l i) :
    Calls Tryd.prog 45 #[.int .i64 (v : Int), vl] w fun e w' => ∃ v', e = .returned v' ∧ Own w' w.heap.size v' (dataV v l) ∧ Below w.heap.size w w' := by
  by_cases h3 : v = 3
  · subst h3
    have HE := hide (refEncodeB_any vl l w hr)
    unfold EncodedB at HE
    rw [if_pos (fitsB_of h1 h2 hok.2.1 hok.2.2), if_pos (fitsB_of h1 h2 hok.2.1 hok.2.2)] at HE
    obtain ⟨ao, cap, rfl, -⟩ := hr
    have e : dataV 3 l = encB l := if_pos rfl
    rw [e]
    go_enter Tryd.func45, Tryd.ntmps45
    go_wp2_with fail
    refine HE.out.mono ?_
    rintro e W1 ⟨v1, rfl, ho1, hb1⟩
    have HO1 := hide ho1
    have HB1 := hide hb1
    clear ho1 hb1
    go_wp2
    go_ret
    exact ⟨_, rfl, HO1.out, HB1.out⟩
  have hne : ((v : Int) == 3) = false := beq_eq_false_iff_ne.2 (by omega)
  have HD : Hid (dataV v l = (l.take l.length).flatMap (elderE v)) := hide (by rw [List.take_length]; exact if_neg h3)
  have HFL := hide (fun k => flatE_len hv1 hv3 (l.take k) (fun r hr => hok.2.1 r (List.mem_of_mem_take hr)))
  have HSN : Hid (∀ k, k < l.length → (l.take (k + 1)).flatMap (elderE v) = ((l.take k).flatMap (elderE v) ++ Lib.uvarint (encR v (l.getD k zeroR)).length) ++ encR v (l.getD k zeroR)) := hide (fun k hk => by
    rw [takeR_snoc hk, List.flatMap_append, List.flatMap_singleton]
    unfold elderE
    rw [List.append_assoc])
  have HEN : Hid (∀ k, k < l.length → ∀ W, Calls Tryd.prog 65 #[.int .i64 (v : Int), recV (l.getD k zeroR)] W fun e w' => ∃ v', e = .returned (.tuple #[v', .int .i64 0]) ∧ Own w' W.heap.size v' (encR v (l.getD k zeroR)) ∧ Below W.heap.size W w') := hide (fun k hk W => by
    have hm : l.getD k zeroR ∈ l := by
      have : l.getD k zeroR = l[k] := by simp [List.getD, hk]
      rw [this]
      exact List.getElem_mem hk
    have hf := hok.2.1 _ hm
    have h := refEncodeR_any v (l.getD k zeroR) W
    unfold EncodedR encErr encL at h
    have hv : 1 ≤ (v : Int) ∧ (v : Int) ≤ 3 := ⟨by omega, by omega⟩
    rw [if_pos hv, if_pos hv, if_pos hf, if_pos hf] at h
    exact h)
  have HRL : Hid (∀ k, k < l.length → (encR v (l.getD k zeroR)).length ≤ 300) := hide (fun k hk => by
    have hm : l.getD k zeroR ∈ l := by
      have : l.getD k zeroR = l[k] := by simp [List.getD, hk]
      rw [this]
      exact List.getElem_mem hk
    exact encR_len hv1 hv3 (hok.2.1 _ hm))
  have HPU : Hid (∀ v1 l (n : Nat) W, Rd W v1 l → l.length ≤ 100000 → n < 4611686018427387904 → Calls Tryd.prog 30 #[v1, .int .i64 (n : Int)] W fun e w' => ∃ v', e = .returned v' ∧ Own w' W.heap.size v' (l ++ Lib.uvarint n) ∧ Below W.heap.size W w') := fun v1 l n W h hl n1 => by
    have h := refPut_any v1 l n W h (by omega)
    rw [putOf_small (by omega) (by omega), Int.toNat_natCast] at h
    exact h
  obtain ⟨ao, cap, rfl, hlc, hcm, -, -, hao⟩ := hr
  have hml : (l.length : Int) ≤ 9223372036854775807 := by omega
  have HAO := hide hao
  rw [HD.out]
  clear hao hlc hcm hok h3 HD
  go_enter Tryd.func45, Tryd.ntmps45
  go_wp2
  go_loopw [7, 8] (fun vo vi wr => ∃ k : Nat, vi = .int .i64 (k : Int) ∧ k ≤ l.length ∧ Hid (Own wr w.heap.size vo ((l.take k).flatMap (elderE v))) ∧ Hid (Below w.heap.size w wr)) (fun _ vi _ => l.length - (intOf vi).toNat)
  case atStart => exact ⟨0, rfl, Nat.zero_le _, Own.nil _ _, Below.refl _ _⟩
  case round =>
    obtain ⟨k, rfl, hk, hO, hB⟩ := hrel
    by_cases hlt : k < l.length
    case neg =>
      obtain rfl : k = l.length := by omega
      go_wp2
      go_ret
      exact ⟨_, rfl, hO.out, hB.out⟩
    rcases HAO.out with h0 | ⟨c, off, rfl, hc⟩
    · rw [h0] at hlt; simp at hlt
    have hck := hc k hlt
    obtain ⟨c0, c1, c2, c3, c4, c5, c6⟩ := hck.keep (hB.out.block c hck.lt)
    have HENk := hide (HEN.out k hlt)
    unfold recV at HENk
    have hrl := HRL.out k hlt
    have HSk := hide (HSN.out k hlt)
    have HFk := hide (HFL.out k)
    have hlk : (l.take k).length = k := by rw [List.length_take]; omega
    rw [hlk] at HFk
    generalize l.getD k zeroR = r at *
    generalize (l.take k).flatMap (elderE v) = P at *
    generalize encR v r = E at *
    have HP1 := hide (fun v1 W h => HPU.out v1 P E.length W h (by have := HFk.out; omega) (by omega))
    obtain ⟨P2, hP2⟩ : ∃ P2, P2 = (l.take (k + 1)).flatMap (elderE v) := ⟨_, rfl⟩
    rw [← hP2] at HSk
    have HP2 := hide hP2
    clear hP2
    have hu10 : (Lib.uvarint E.length).length ≤ 10 := uv10' (by omega)
    have hPl : P.length ≤ 100000 := by have := HFk.out; omega
    have hPu : (P ++ Lib.uvarint E.length).length ≤ 200000 := by rw [List.length_append]; omega
    generalize P ++ Lib.uvarint E.length = PU at *
    clear hc hck hlk HFk
    go_wp2_with fail
    refine (HENk.out _).mono ?_
    rintro e W1 ⟨v1, rfl, ho1, hb1⟩
    have HE1 := hide ho1.rd
    obtain ⟨a1, x1, rfl, -⟩ := ho1.rd
    have HO1 := hide (hO.out.below hb1 (Nat.le_refl _))
    have HB1 := hide (hB.out.trans (hb1.mono hB.out.size))
    clear ho1 hb1 c0 c1 c2 c3 c4 c5 c6 HENk
    go_wp2_with fail
    refine (HP1.out _ _ HO1.out.rd).mono ?_
    rintro e W2 ⟨v2, rfl, ho2, hb2⟩
    have HE2 := hide (HE1.out.below hb2 (Nat.le_refl _))
    have HO2 := hide (ho2.mono HB1.out.size)
    have HB2 := hide (HB1.out.trans (hb2.mono HB1.out.size))
    have HS2 := hide HB2.out.size
    clear ho2 hb2
    go_wp2_with (at_builtin; refine wpList_append_rd _ rfl _ _ rfl w.heap.size _ _ rfl HO2.out _ _ rfl HE2.out (by omega) HS2.out ?_)
    intro v3 W3 ho3 hb3
    rw [← HSk.out] at ho3
    have HO3 := hide ho3
    have HB3 := hide (HB2.out.trans hb3)
    clear ho3 hb3
    go_wp2
    go_roundw
    case rel => exact ⟨k + 1, by go_num, by omega, hide (by rw [← HP2.out]; exact HO3.out), HB3⟩
    case measure => simp [intOf]; omega

end Go.Proofs.YtddhcohjmgdajaaDoor

/- Contracts of ferrymanref08: joined, footer, framed, frames, Body, Encode. -/
namespace Go.Proofs.YtddhcohjmgdajaaDoor
open Go.RowKit

theorem takeL_snoc {L : List (List UInt8)} {q : Nat} (h : q < L.length) : L.take (q + 1) = L.take q ++ [L.getD q []] := by
  rw [List.take_add_one]
  simp [List.getD, h]

/-- How far slices stand from each other. -/
def offsF : Nat → List (List UInt8) → List UInt8
  | _, [] => []
  | d, x :: xs => Lib.uvarint d ++ offsF x.length xs

/-- The length of the last one. -/
def lastN : Nat → List (List UInt8) → Nat
  | d, [] => d
  | _, x :: xs => lastN x.length xs

theorem offsF_snoc : ∀ (A : List (List UInt8)) (d : Nat) (x : List UInt8), offsF d (A ++ [x]) = offsF d A ++ Lib.uvarint (lastN d A)
  | [], d, x => by simp [offsF, lastN]
  | y :: A, d, x => by rw [List.cons_append, offsF, offsF_snoc A, offsF, lastN, List.append_assoc]

theorem lastN_snoc : ∀ (A : List (List UInt8)) (d : Nat) (x : List UInt8), lastN d (A ++ [x]) = x.length
  | [], d, x => rfl
  | y :: A, d, x => by rw [List.cons_append, lastN, lastN_snoc A]

theorem lastN_lt {n : Nat} : ∀ (A : List (List UInt8)) (d : Nat), d ≤ n → (∀ x ∈ A, x.length ≤ n) → lastN d A ≤ n
  | [], d, hd, _ => hd
  | y :: A, d, _, hA => by
    rw [lastN]
    exact lastN_lt A y.length (hA y (by simp)) (fun x hx => hA x (by simp [hx]))

theorem offsF_len {n : Nat} (hn : n < 4611686018427387904) : ∀ (A : List (List UInt8)) (d : Nat), d ≤ n → (∀ x ∈ A, x.length ≤ n) → (offsF d A).length ≤ 10 * A.length
  | [], d, _, _ => by simp [offsF]
  | y :: A, d, hd, hA => by
    have q : (Lib.uvarint d).length ≤ 10 := uv10' (by omega)
    have ih := offsF_len hn A y.length (hA y (by simp)) (fun x hx => hA x (by simp [hx]))
    rw [offsF, List.length_append, List.length_cons]
    omega

theorem offsF_frames : ∀ (B : List (List UInt8)) (d : Nat), offsF d (B.map frameOf) = offsS d B
  | [], _ => rfl
  | x :: xs, d => by rw [List.map_cons, offsF, offsS, offsF_frames xs]

/-- The slices that are read, one by one, in every later world. -/
theorem RdL.at {w : World} {ao : Option Addr} {n cap : Nat} {L : List (List UInt8)} (h : RdL w (.slice ao n cap) L) (k : Nat) (hk : k < L.length) :
    ∃ b off x, ao = some ⟨b, off, none⟩ ∧ (∀ W, Below w.heap.size w W → W.cell? ⟨b, off + k, none⟩ = some x) ∧ ∀ W, Below w.heap.size w W → Rd W x (L.getD k []) := by
  obtain ⟨ao', cap', e, _, _, _, hao⟩ := h
  simp only [Value.slice.injEq] at e
  obtain ⟨rfl, _, rfl⟩ := e
  rcases hao with h0 | ⟨b, off, hab, hc⟩
  · rw [h0] at hk; simp at hk
  · obtain ⟨x, hx, hxr⟩ := hc k hk
    have hlt : b < w.heap.size := World.block_lt_of_cell? w ⟨b, off + k, none⟩ hx
    exact ⟨b, off, x, hab, fun W hb => (hb.cell (p := ⟨b, off + k, none⟩) hlt).trans hx, fun W hb => hxr.below hb (Nat.le_refl _)⟩

theorem flatten_snoc (L : List (List UInt8)) (q : Nat) (h : q < L.length) : (L.take (q + 1)).flatten = (L.take q).flatten ++ L.getD q [] := by
  rw [takeL_snoc h, List.flatten_append]
  simp

theorem flatten_take_len : ∀ (L : List (List UInt8)) (k : Nat), (L.take k).flatten.length ≤ L.flatten.length
  | [], k => by simp
  | x :: L, 0 => by simp
  | x :: L, k + 1 => by
    have := flatten_take_len L k
    rw [List.take_succ_cons, List.flatten_cons, List.flatten_cons, List.length_append, List.length_append]
    omega

set_option maxRecDepth 100000 in
set_option maxHeartbeats 2000000 in
theorem refJoined_any (v : Value) (L : List (List UInt8)) (w : World) (hr : RdL w v L) (hlim : L.flatten.length ≤ 10000000) :
    Calls Tryd.prog 28 #[v] w fun e w' => ∃ v', e = .returned v' ∧ Own w' w.heap.size v' L.flatten ∧ Below w.heap.size w w' := by
  have HR := hide hr
  obtain ⟨ao, cap, rfl, hlc, hcm, -⟩ := hr
  have hml : (L.length : Int) ≤ 9223372036854775807 := by unfold maxLen at hcm; omega
  have HAT := hide (fun k hk => HR.out.at k hk)
  have HFS := hide (fun k hk => flatten_snoc L k hk)
  have HFL := hide (fun k => Nat.le_trans (flatten_take_len L k) hlim)
  have HALL : Hid ((L.take L.length).flatten = L.flatten) := hide (by rw [List.take_length])
  clear hlc hcm hlim
  go_enter Tryd.func28, Tryd.ntmps28
  go_wp2
  go_loopw [3, 4] (fun vo vi wr => ∃ k : Nat, vi = .int .i64 (k : Int) ∧ k ≤ L.length ∧ Hid (Own wr w.heap.size vo (L.take k).flatten) ∧ Hid (Below w.heap.size w wr)) (fun _ vi _ => L.length - (intOf vi).toNat)
  case atStart => exact ⟨0, rfl, Nat.zero_le _, Own.nil _ _, Below.refl _ _⟩
  case round =>
    obtain ⟨k, rfl, hk, hO, hB⟩ := hrel
    by_cases hlt : k < L.length
    case neg =>
      have e : k = L.length := by omega
      have HOE : Hid (Own wr w.heap.size u3 L.flatten) := hide (by rw [← HALL.out, ← e]; exact hO.out)
      clear hO e
      go_wp2
      go_ret
      exact ⟨_, rfl, HOE.out, hB.out⟩
    obtain ⟨b, off, x, rfl, hx, hxr⟩ := HAT.out k hlt
    have hck := hx wr hB.out
    have HX := hide (hxr wr hB.out)
    have HSk := hide (HFS.out k hlt)
    have HLk := hide (HFL.out (k + 1))
    rw [HSk.out] at HLk
    have HS := hide hB.out.size
    obtain ⟨P2, hP2⟩ : ∃ P2, P2 = (L.take (k + 1)).flatten := ⟨_, rfl⟩
    rw [← hP2] at HSk
    have HP2 := hide hP2
    generalize (L.take k).flatten = P at *
    generalize L.getD k [] = y at *
    have hly : P.length + y.length ≤ 10000000 := by have := HLk.out; rw [List.length_append] at this; omega
    clear hx hxr hP2 HLk
    go_wp2_with (at_builtin; refine wpList_append_rd _ rfl _ _ rfl w.heap.size _ _ rfl hO.out _ _ rfl HX.out (by omega) HS.out ?_)
    intro v3 W3 ho3 hb3
    rw [← HSk.out] at ho3
    have HO3 := hide ho3
    have HB3 := hide (hB.out.trans hb3)
    clear ho3 hb3
    go_wp2
    go_roundw
    case rel => exact ⟨k + 1, by go_num, by omega, hide (by rw [← HP2.out]; exact HO3.out), HB3⟩
    case measure => simp [intOf]; omega

set_option maxRecDepth 100000 in
set_option maxHeartbeats 2000000 in
theorem refFooter_any (vh : Value) (H : List UInt8) (v : Value) (L : List (List UInt8)) (w : World) (hh : Rd w vh H) (hr : RdL w v L) (hn : L.length ≤ 5000) (hH : H.length ≤ 2000000) (hL : ∀ x ∈ L, x.length ≤ 2000000) :
    Calls Tryd.prog 27 #[vh, v] w fun e w' => ∃ v', e = .returned v' ∧ Own w' w.heap.size v' (Lib.uvarint L.length ++ offsF H.length L) ∧ Below w.heap.size w w' := by
  have HR := hide hr
  obtain ⟨ah, ch, rfl, -⟩ := hh
  obtain ⟨ao, cap, rfl, -⟩ := hr
  have hml : (L.length : Int) ≤ 5000 := by omega
  have HPU : Hid (∀ v1 l (n : Nat) W, Rd W v1 l → l.length ≤ 100000 → n < 4611686018427387904 → Calls Tryd.prog 30 #[v1, .int .i64 (n : Int)] W fun e w' => ∃ v', e = .returned v' ∧ Own w' W.heap.size v' (l ++ Lib.uvarint n) ∧ Below W.heap.size W w') := fun v1 l n W h hl n1 => by
    have h := refPut_any v1 l n W h (by omega)
    rw [putOf_small (by omega) (by omega), Int.toNat_natCast] at h
    exact h
  have HAT := hide (fun k hk => HR.out.at k hk)
  have HT : Hid (∀ k, ∀ x ∈ L.take k, x.length ≤ 2000000) := hide (fun k x hx => hL x (List.mem_of_mem_take hx))
  have HLS : Hid (∀ k, lastN H.length (L.take k) ≤ 2000000) := hide (fun k => lastN_lt _ _ hH (HT.out k))
  have HOL : Hid (∀ k, k ≤ L.length → (Lib.uvarint L.length ++ offsF H.length (L.take k)).length ≤ 100000) := hide (fun k hk => by
    have h := offsF_len (n := 2000000) (by decide) (L.take k) H.length hH (HT.out k)
    have q : (Lib.uvarint L.length).length ≤ 10 := uv10' (by omega)
    rw [List.length_take] at h
    rw [List.length_append]
    omega)
  have HSN : Hid (∀ k, k < L.length → Lib.uvarint L.length ++ offsF H.length (L.take (k + 1)) = (Lib.uvarint L.length ++ offsF H.length (L.take k)) ++ Lib.uvarint (lastN H.length (L.take k))) := hide (fun k hk => by
    rw [takeL_snoc hk, offsF_snoc, List.append_assoc])
  have HLN : Hid (∀ k, k < L.length → lastN H.length (L.take (k + 1)) = (L.getD k []).length) := hide (fun k hk => by rw [takeL_snoc hk, lastN_snoc])
  have HALL : Hid (Lib.uvarint L.length ++ offsF H.length (L.take L.length) = Lib.uvarint L.length ++ offsF H.length L) := hide (by rw [List.take_length])
  have HP0 : Hid (∀ W, Calls Tryd.prog 30 #[.slice none 0 0, .int .i64 (L.length : Int)] W fun e w' => ∃ v', e = .returned v' ∧ Own w' W.heap.size v' (Lib.uvarint L.length ++ offsF H.length (L.take 0)) ∧ Below W.heap.size W w') := hide (fun W => by
    have h := HPU.out (.slice none 0 0) [] L.length W (Rd.nil W) (by simp) (by omega)
    rw [List.nil_append] at h
    have e : Lib.uvarint L.length ++ offsF H.length (L.take 0) = Lib.uvarint L.length := by simp [offsF]
    rw [e]
    exact h)
  rw [← HALL.out]
  obtain ⟨PK, hPK⟩ : ∃ PK : Nat → List UInt8, PK = fun k => Lib.uvarint L.length ++ offsF H.length (L.take k) := ⟨_, rfl⟩
  have HOL' : Hid (∀ k, k ≤ L.length → (PK k).length ≤ 100000) := hide (fun k hk => by rw [hPK]; exact HOL.out k hk)
  have HSN' : Hid (∀ k, k < L.length → PK (k + 1) = PK k ++ Lib.uvarint (lastN H.length (L.take k))) := hide (fun k hk => by rw [hPK]; exact HSN.out k hk)
  have HP0' : Hid (∀ W, Calls Tryd.prog 30 #[.slice none 0 0, .int .i64 (L.length : Int)] W fun e w' => ∃ v', e = .returned v' ∧ Own w' W.heap.size v' (PK 0) ∧ Below W.heap.size W w') := hide (by rw [hPK]; exact HP0.out)
  have HG : Hid (Lib.uvarint L.length ++ offsF H.length (L.take L.length) = PK L.length) := hide (by rw [hPK])
  rw [HG.out]
  clear hPK HOL HSN HP0 HG HALL hH hL hn HT
  obtain ⟨LN, hLN⟩ : ∃ LN : Nat → Nat, LN = fun k => lastN H.length (L.take k) := ⟨_, rfl⟩
  have HSN2 : Hid (∀ k, k < L.length → PK (k + 1) = PK k ++ Lib.uvarint (LN k)) := hide (fun k hk => by rw [hLN]; exact HSN'.out k hk)
  have HLN2 : Hid (∀ k, k < L.length → LN (k + 1) = (L.getD k []).length) := hide (fun k hk => by rw [hLN]; exact HLN.out k hk)
  have HLS2 : Hid (∀ k, LN k ≤ 2000000) := hide (fun k => by rw [hLN]; exact HLS.out k)
  have HL0 : Hid (LN 0 = H.length) := hide (by rw [hLN]; rfl)
  clear hLN HSN' HLN HLS
  go_enter Tryd.func27, Tryd.ntmps27
  go_wp2_with fail
  refine (HP0'.out _).mono ?_
  rintro e W1 ⟨v1, rfl, ho1, hb1⟩
  have HO1 := hide ho1
  have HB1 := hide hb1
  clear ho1 hb1
  go_wp2
  go_loopw [5, 6, 7] (fun vo vd vi wr => ∃ k : Nat, vi = .int .i64 (k : Int) ∧ vd = .int .i64 (LN k : Int) ∧ k ≤ L.length ∧ Hid (Own wr w.heap.size vo (PK k)) ∧ Hid (Below w.heap.size w wr)) (fun _ _ vi _ => L.length - (intOf vi).toNat)
  case atStart => exact ⟨0, rfl, by rw [HL0.out], Nat.zero_le _, HO1, HB1⟩
  case round =>
    obtain ⟨k, rfl, rfl, hk, hO, hB⟩ := hrel
    by_cases hlt : k < L.length
    case neg =>
      have e : k = L.length := by omega
      have HOE : Hid (Own wr w.heap.size u5 (PK L.length)) := hide (by rw [← e]; exact hO.out)
      clear hO e
      go_wp2
      go_ret
      exact ⟨_, rfl, HOE.out, hB.out⟩
    obtain ⟨b, off, x, rfl, hx, hxr⟩ := HAT.out k hlt
    have hls := HLS2.out k
    have HSk := hide (HSN2.out k hlt)
    have HNk := hide (HLN2.out k hlt)
    have HP1 := hide (fun v1 W h => HPU.out v1 (PK k) (LN k) W h (HOL'.out k hk) (by omega))
    rw [← HSk.out] at HP1
    obtain ⟨a9, c9, rfl, -⟩ := hxr wr hB.out
    rw [← HNk.out] at hx hxr
    generalize LN k = n at *
    clear hxr HSk
    go_wp2_with fail
    refine (HP1.out _ _ hO.out.rd).mono ?_
    rintro e W2 ⟨v2, rfl, ho2, hb2⟩
    have HO2 := hide (ho2.mono hB.out.size)
    have HB2 := hide (hB.out.trans (hb2.mono hB.out.size))
    have hck := hx W2 HB2.out
    clear ho2 hb2 hx
    go_wp2
    go_roundw
    case rel => exact ⟨k + 1, by go_num, rfl, by omega, HO2, HB2⟩
    case measure => simp [intOf]; omega

end Go.Proofs.YtddhcohjmgdajaaDoor

