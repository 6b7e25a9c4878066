/- The statements' at: where an operation stands in a log, and how often. -/
import Derived.Test.YtedfacbngefhnaaPsimY
namespace Go.Proofs.Ytedfacbngefhnaa
open Go.RowKit Go.Maps

set_option maxRecDepth 100000 in
set_option maxHeartbeats 2000000 in
theorem at_any {w : World} {v : Value} {log : List Rec} (hr : RdR w v log) (c : Cal) (hlen : log.length ≤ 1000000) :
    Calls Try.prog 22 #[v, .agg (calC c)] w fun r w' => r = .returned (.tuple #[.int .i64 (atC log c).1, .int .i64 (atC log c).2]) ∧ Below w.heap.size w w' := by
  have HR := hide hr
  obtain ⟨ao, cap, rfl, hlc, hcm, -⟩ := hr
  have hml : (log.length : Int) ≤ 1000000 := by omega
  have hb0 : Below w.heap.size w (w.alloc (.cells (calC c) 51)) := (Below.refl _ _).alloc (Nat.le_refl _) _
  have hx0 : Bk 51 (w.alloc (.cells (calC c) 51)) w.heap.size (calC c) := heap_alloc_new _ _
  have HB0 := hide hb0
  have HX0 := hide hx0
  have HAT0 : Hid (atT log c 0 = (-1, 0)) := rfl
  have HATS : Hid (∀ i, atT log c (i + 1) = if MatchC (log.getD i zeroR) c then ((i : Int), (atT log c i).2 + 1) else atT log c i) := fun i => rfl
  have HATR := hide (atT_range log c)
  obtain ⟨RR, hRR⟩ : ∃ RR, RR = atC log c := ⟨_, rfl⟩
  have HRR : Hid (RR = atT log c log.length) := hide hRR
  rw [← hRR]
  unfold calC at HB0 HX0 ⊢
  clear hb0 hx0 hRR hlc hcm
  go_enter Try.func22, Try.ntmps22
  go_wp2
  go_loopw [6, 7, 8] (fun vk vn vi wr => ∃ (i : Nat) (k n : Int), vk = .int .i64 k ∧ vn = .int .i64 n ∧ vi = .int .i64 (i : Int) ∧ i ≤ log.length ∧ Hid (atT log c i = (k, n)) ∧ Hid (Below w.heap.size w wr ∧ Bk 51 wr w.heap.size #[.int .i64 c.p, .int .i64 c.seq, .int .i64 c.from_, .int .i64 c.to_, .int .i64 c.resp, .int .i64 c.op.code, .int .i64 c.op.a, .int .i64 c.op.b])) (fun _ _ vi _ => log.length - (intOf vi).toNat)
  case atStart => exact ⟨0, -1, 0, rfl, rfl, rfl, Nat.zero_le _, HAT0, HB0.out, HX0.out⟩
  case round =>
    obtain ⟨i, k, n, rfl, rfl, rfl, hi, HA, HB⟩ := hrel
    clear HB0 HX0 HAT0
    by_cases hlt : i < log.length
    case neg =>
      obtain rfl : i = log.length := by omega
      have HE : Hid (RR = (k, n)) := hide (HRR.out.trans HA.out)
      go_wp2
      refine bodyPost_ret (v := .tuple #[.int .i64 k, .int .i64 n]) (by simp [results, Try.results22, go_sem]) rfl ?_
      exact ⟨by rw [HE.out], HB.out.1⟩
    have hki : (i : Int) < (log.length : Int) := by omega
    have hnb := HATR.out i
    rw [HA.out] at hnb
    dsimp only at hnb
    obtain ⟨ao', cap', hv, _, _, _, _, h4⟩ := HR.out.below HB.out.1 (Nat.le_refl _)
    simp only [Value.slice.injEq, true_and] at hv
    obtain ⟨rfl, rfl⟩ := hv
    rcases h4 with h4 | ⟨rb, ro, rfl, hrec⟩
    · rw [h4] at hlt; simp at hlt
    obtain ⟨-, r1, r2, -, -, -, -⟩ := hrec i hlt
    obtain ⟨x0, -⟩ := HB.out.2.cell 0 rfl
    obtain ⟨x1, -⟩ := HB.out.2.cell 1 rfl
    have HNX := hide (HATS.out i)
    rw [HA.out] at HNX
    have hw : IntKind.i64.wrap (n + 1) = n + 1 := wrap_lit _ (by omega) (by omega)
    have HLT := hide hlt
    generalize log.getD i zeroR = r at *
    obtain ⟨ridx, rp, rs, rop, rr⟩ := r
    dsimp only at r1 r2
    have HM : Hid (MatchC ⟨ridx, rp, rs, rop, rr⟩ c ↔ rp = c.p ∧ rs = c.seq) := hide Iff.rfl
    have HBD : Hid (∀ m, Below w.heap.size w (wr.drewN m) ∧ Bk 51 (wr.drewN m) w.heap.size #[.int .i64 c.p, .int .i64 c.seq, .int .i64 c.from_, .int .i64 c.to_, .int .i64 c.resp, .int .i64 c.op.code, .int .i64 c.op.a, .int .i64 c.op.b]) := hide fun m => ⟨below_drewN HB.out.1 m, HB.out.2.keep rfl⟩
    clear hrec hlt HATS hnb hi
    generalize c.p = cp at *
    generalize c.seq = cs at *
    by_cases h1 : rp = cp
    · have e1 : (rp == cp) = true := by simp; exact h1
      by_cases h2 : rs = cs
      · have e2 : (rs == cs) = true := by simp; exact h2
        have HN : Hid (atT log c (i + 1) = ((i : Int), n + 1)) := hide (by rw [HNX.out, if_pos (HM.out.2 ⟨h1, h2⟩)])
        have hd1 : decide (rp = cp) = true := decide_eq_true h1
        have hd2 : decide (rs = cs) = true := decide_eq_true h2
        clear h1 h2 HNX
        go_upto_region 6 with fail
        go_quiet (fail)
        go_wp2
        go_roundw
        case rel => exact ⟨i + 1, (i : Int), n + 1, rfl, by go_num, by go_num, by have := HLT.out; omega, HN, HBD.out _⟩
        case measure => have := HLT.out; simp [intOf]; omega
      · have e2 : (rs == cs) = false := by simp; exact h2
        have HN : Hid (atT log c (i + 1) = (k, n)) := hide (by rw [HNX.out, if_neg (fun a => h2 (HM.out.1 a).2)])
        have hd1 : decide (rp = cp) = true := decide_eq_true h1
        have hd2 : decide (rs = cs) = false := decide_eq_false h2
        clear h1 h2 HNX
        go_upto_region 6 with fail
        go_quiet (fail)
        go_wp2
        go_roundw
        case rel => exact ⟨i + 1, k, n, rfl, rfl, by go_num, by have := HLT.out; omega, HN, HBD.out _⟩
        case measure => have := HLT.out; simp [intOf]; omega
    · have e1 : (rp == cp) = false := by simp; exact h1
      have HN : Hid (atT log c (i + 1) = (k, n)) := hide (by rw [HNX.out, if_neg (fun a => h1 (HM.out.1 a).1)])
      have hd1 : decide (rp = cp) = false := decide_eq_false h1
      clear h1 HNX
      go_upto_region 6 with fail
      go_quiet (fail)
      go_wp2
      go_roundw
      case rel => exact ⟨i + 1, k, n, rfl, rfl, by go_num, by have := HLT.out; omega, HN, HBD.out _⟩
      case measure => have := HLT.out; simp [intOf]; omega

end Go.Proofs.Ytedfacbngefhnaa
