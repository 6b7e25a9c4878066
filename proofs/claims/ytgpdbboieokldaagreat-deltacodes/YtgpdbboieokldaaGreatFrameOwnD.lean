/- Contract of frame.Decode. -/
import Derived.Test.YtgpdbboieokldaaGreatFrameOwn
import Derived.Deep.QuietTactic
import Derived.BigQuiet
namespace Go.Proofs.YtgpdbboieokldaaGreat
open Go.RowKit

theorem Rd.drewN {w : World} {v : Value} {l : List UInt8} (h : Rd w v l) (n : Nat) : Rd (w.drewN n) v l := h.below (below_drewN (Below.refl _ w) n) (Nat.le_refl _)

/-- The parts of a frame, cut by three indices: what each reads as, in the world and in those behind it. -/
theorem cuts3 (w : World) (v : Value) (l : List UInt8) (hr : Rd w v l) (K N : Int) (k n : Nat) (hk : K = k) (hn : N = n) (h : k + n + 4 ≤ l.length) :
    ∃ v1 v2 v3, (∀ q, (Instr.sliceAt 26 v none (some (.int .i64 (K + N))) (some (.int .i64 (K + N)))).run Tryz.prog (w.drewN q) = .ok v1 (w.drewN q)) ∧
      (∀ q, (Instr.sliceAt 26 v (some (.int .i64 K)) (some (.int .i64 (K + N))) (some (.int .i64 (K + N)))).run Tryz.prog (w.drewN q) = .ok v2 (w.drewN q)) ∧
      (∀ q, (Instr.sliceAt 26 v (some (.int .i64 (K + N))) (some (.int .i64 (K + N + 4))) (some (.int .i64 (K + N + 4)))).run Tryz.prog (w.drewN q) = .ok v3 (w.drewN q)) ∧
      Rd w v1 (l.take (k + n)) ∧ Rd w v2 ((l.drop k).take n) ∧ Rd w v3 ((l.drop (k + n)).take 4) := by
  have h0 := hr
  obtain ⟨ao, cap, rfl, hlc, _⟩ := hr
  have e1 : (K + N).toNat = k + n := by omega
  have e2 : K.toNat = k := by omega
  have e3 : (K + N + 4).toNat = k + n + 4 := by omega
  refine ⟨sliced ao 0 (k + n) (k + n) 1, sliced ao k (k + n) (k + n) 1, sliced ao (k + n) (k + n + 4) (k + n + 4) 1, ?_, ?_, ?_, ?_, ?_, ?_⟩
  · intro q
    rw [run_sliceAt_slice _ 26 _ _ _ _ under_bytes, run_slice_hm _ 26 ao l.length cap under_bytes .i64 .i64 (K + N) (K + N) (by omega) (by omega) (by omega), elem_bytes, size_u8, e1]
    rfl
  · intro q
    rw [run_sliceAt_slice _ 26 _ _ _ _ under_bytes, run_slice_lhm _ 26 ao l.length cap under_bytes .i64 .i64 .i64 K (K + N) (K + N) (by omega) (by omega) (by omega) (by omega), elem_bytes, size_u8, e1, e2]
    rfl
  · intro q
    rw [run_sliceAt_slice _ 26 _ _ _ _ under_bytes, run_slice_lhm _ 26 ao l.length cap under_bytes .i64 .i64 .i64 (K + N) (K + N + 4) (K + N + 4) (by omega) (by omega) (by omega) (by omega), elem_bytes, size_u8, e1, e3]
    rfl
  · have := h0.mid 0 (k + n) (k + n) (by omega) (by omega) (by omega) (by omega)
    simpa using this
  · have := h0.mid k (k + n) (k + n) (by omega) (by omega) (by omega) (by omega)
    rwa [show k + n - k = n by omega] at this
  · have := h0.mid (k + n) (k + n + 4) (k + n + 4) (by omega) (by omega) (by omega) (by omega)
    rwa [show k + n + 4 - (k + n) = 4 by omega] at this

/-- A cut within a region that draws its order and only reads. -/
theorem wpQuiet_cut {ops : Array Oper} {C : World → Prop} {Q : Act → Prop} {rest : List Oper} {o : Oper} {a : Act} {w : World} (hg : o.guard = none) (x : Operand) (lo hi mx : Option Operand)
    (ho : o.op = .slice 26 x lo hi mx) (hC : ∀ w', C w' → ∃ q, w' = w.drewN q) (v : Value)
    (hrun : ∀ q, (Instr.sliceAt 26 (a.eval x) (lo.map a.eval) (hi.map a.eval) (mx.map a.eval)).run Tryz.prog (w.drewN q) = .ok v (w.drewN q))
    (h : wpQuiet Tryz.prog ops C Q rest (a.put o.dst v)) : wpQuiet Tryz.prog ops C Q (o :: rest) a :=
  wpQuiet_step fun _ hK => by
    rw [if_pos (by simp [Region.wanted, hg])]
    refine ⟨v, fun w' hw' => ?_, hK _ h⟩
    obtain ⟨q, rfl⟩ := hC w' hw'
    unfold Oper.quietAt execOp
    simp only [ho, hrun, Sem.run_bind, Sem.run_pure, Result.andThen_ok, Oper.quietUpon, and_self]

set_option maxRecDepth 100000 in
set_option maxHeartbeats 1000000 in
theorem decode_any (v : Value) (l : List UInt8) (w : World) (hr : Rd w v l) :
    Calls Tryz.prog 22 #[v] w fun e w' => Decoded w l e w' := by
  have HR := hide hr
  have HO := hide (cut_any v l w hr)
  have HG := hide (get_any v l w hr)
  obtain ⟨ao, cap, rfl, hlc, hcm, hn0, hao⟩ := hr
  clear hn0 hao
  have hml : (l.length : Int) ≤ 9223372036854775807 := by unfold maxLen at hcm; omega
  have HLC := hide hlc
  have HCM := hide hcm
  clear hlc hcm
  by_cases c1 : isOpen l
  · have HE := hide (decF_1 c1)
    have HD : Hid (decide (isOpen l) = true) := decide_eq_true c1
    rw [HD.out] at HO
    clear c1 HG
    go_enter Tryz.func22, Tryz.ntmps22
    go_wp2_with fail
    refine HO.out.mono ?_
    rintro e w1 ⟨rfl, rfl⟩
    clear HO
    go_wp2
    go_ret3
    exact Decoded.refused HE.out
  have HD : Hid (decide (isOpen l) = false) := decide_eq_false c1
  rw [HD.out] at HO
  have C1 := hide c1
  clear c1
  have hg1 := dec62_cases l
  obtain ⟨n, hn⟩ : ∃ n, n = (dec62 l).1 := ⟨_, rfl⟩
  obtain ⟨k, hk⟩ : ∃ k, k = (dec62 l).2 := ⟨_, rfl⟩
  rw [← hn, ← hk] at hg1 HG
  have HN := hide hn
  have HK := hide hk
  have hk9 := dec62_nine l
  have hbd : (n : Int) < 4611686018427387904 ∧ (k : Int) ≤ l.length ∧ (k : Int) ≤ 9 := by
    rw [← hk] at hk9
    rcases hg1 with h | h
    · have h1 : n = 0 := by rw [hn, h]
      have h2 : k = 0 := by rw [hk, h]
      omega
    · omega
  clear hk9
  obtain ⟨N, hNn⟩ : ∃ N : Int, N = (n : Int) := ⟨_, rfl⟩
  obtain ⟨K, hKk⟩ : ∃ K : Int, K = (k : Int) := ⟨_, rfl⟩
  rw [← hNn, ← hKk] at hbd HG
  obtain ⟨hn62, hkl, hk9⟩ := hbd
  have hN0 : 0 ≤ N := by omega
  have hK0 : 0 ≤ K := by omega
  have HNN := hide hNn
  have HKK := hide hKk
  clear hNn hKk
  clear hg1 hn hk
  by_cases c2 : K = 0
  · have HE := hide (decF_2 C1.out (by rw [← HK.out]; have := HKK.out; omega))
    subst c2
    go_enter Tryz.func22, Tryz.ntmps22
    go_wp2_with fail
    refine HO.out.mono ?_
    rintro e w1 ⟨rfl, rfl⟩
    clear HO
    go_wp2_with fail
    refine HG.out.mono ?_
    rintro e w1 ⟨rfl, rfl⟩
    clear HG
    go_wp2
    go_ret3
    exact Decoded.refused HE.out
  have ez : (K == 0) = false := beq_eq_false_iff_ne.2 c2
  have hk1 : 1 ≤ K := by omega
  have C2 := hide (show (dec62 l).2 ≠ 0 by rw [← HK.out]; have := HKK.out; omega)
  clear c2
  by_cases c3 : 1048576 < N
  · have HE := hide (decF_3 C1.out C2.out (by rw [← HN.out]; have := HNN.out; omega))
    go_enter Tryz.func22, Tryz.ntmps22
    go_wp2_with fail
    refine HO.out.mono ?_
    rintro e w1 ⟨rfl, rfl⟩
    clear HO
    go_wp2_with fail
    refine HG.out.mono ?_
    rintro e w1 ⟨rfl, rfl⟩
    clear HG
    go_wp2
    go_ret3
    exact Decoded.refused HE.out
  have C3 := hide (show ¬ 1048576 < (dec62 l).1 by rw [← HN.out]; have := HNN.out; omega)
  by_cases c4 : (l.length : Int) < K + N + 4
  · have HE := hide (decF_4 C1.out C2.out C3.out (by rw [← HN.out, ← HK.out]; have := HNN.out; have := HKK.out; omega))
    go_enter Tryz.func22, Tryz.ntmps22
    go_wp2_with fail
    refine HO.out.mono ?_
    rintro e w1 ⟨rfl, rfl⟩
    clear HO
    go_wp2_with fail
    refine HG.out.mono ?_
    rintro e w1 ⟨rfl, rfl⟩
    clear HG
    go_wp2
    go_ret3
    exact Decoded.refused HE.out
  have C4 := hide (show ¬ l.length < (dec62 l).2 + 4 + (dec62 l).1 by rw [← HN.out, ← HK.out]; have := HNN.out; have := HKK.out; omega)
  have HS : Hid (∀ v w, Rd w v (l.take (k + n)) → Calls Tryz.prog 45 #[v] w fun e w' => e = .returned (.int .u32 (crcMore 0 (l.take (k + n)) : Nat)) ∧ Below w.heap.size w w') := fun v w h => sum_any v _ w h
  have HF : Hid (∀ v w, Rd w v ((l.drop (k + n)).take 4) → Calls Tryz.prog 58 #[v] w fun e w' => e = .returned (.int .u64 (Lib.leNat ((l.drop (k + n)).take 4) : Nat)) ∧ w' = w) := by
    intro v w h
    have := fixed_any v _ w h
    rwa [List.take_of_length_le (by simp; omega)] at this
  have HE5 : Hid (Lib.leNat ((l.drop (k + n)).take 4) ≠ crcMore 0 (l.take (k + n)) → decF l = ([], 0, 4)) := fun h => by
    rw [HN.out, HK.out] at h
    exact decF_5 C1.out C2.out C3.out C4.out h
  have HE6 : Hid (Lib.leNat ((l.drop (k + n)).take 4) = crcMore 0 (l.take (k + n)) → decF l = ((l.drop k).take n, k + 4 + n, 0)) := fun h => by
    rw [HN.out, HK.out] at h ⊢
    exact decF_6 C1.out C2.out C3.out C4.out h
  have hs := crc_lt (l.take (k + n))
  have hq : Lib.leNat ((l.drop (k + n)).take 4) < 4294967296 := by
    have h1 := leNat_lt256 ((l.drop (k + n)).take 4)
    have e4 : ((l.drop (k + n)).take 4).length = 4 := by have := HNN.out; have := HKK.out; simp; omega
    rw [e4] at h1
    exact h1
  generalize crcMore 0 (l.take (k + n)) = s at *
  generalize Lib.leNat ((l.drop (k + n)).take 4) = q at *
  obtain ⟨S, hS⟩ : ∃ S : Int, S = (s : Int) := ⟨_, rfl⟩
  obtain ⟨T, hT⟩ : ∃ T : Int, T = (q : Int) := ⟨_, rfl⟩
  rw [← hS] at HS
  rw [← hT] at HF
  have hS0 : 0 ≤ S := by omega
  have hS1 : S < 4294967296 := by omega
  have HSS := hide hS
  have HTT := hide hT
  obtain ⟨v1, v2, v3, hc1, hc2, hc3, hr1, hr2, hr3⟩ := cuts3 w _ l HR.out K N k n HKK.out HNN.out (by have := HNN.out; have := HKK.out; omega)
  have HV1 := hide hr1
  have HV2 := hide hr2
  have HV3 := hide hr3
  have HC1 := hide hc1
  have HC2 := hide hc2
  have HC3 := hide hc3
  clear hr1 hr2 hr3 hc1 hc2 hc3
  clear hS hT hs hq
  go_enter Tryz.func22, Tryz.ntmps22
  go_wp2_with fail
  refine HO.out.mono ?_
  rintro e w1 ⟨rfl, rfl⟩
  clear HO
  go_wp2_with fail
  refine HG.out.mono ?_
  rintro e w1 ⟨rfl, rfl⟩
  clear HG
  go_wp2
  refine wp_region_quiet_lit (by kernel_rfl) (by kernel_rfl) ?_
  repeat (go_big_quiet_step (fail))
  refine wpQuiet_cut rfl _ _ _ _ rfl (fun _ h => h) v1 HC1.out ?_
  simp only [Act.put, List.setIfInBounds_toArray, List.set_cons_succ, List.set_cons_zero]
  repeat (go_big_quiet_step (fail))
  refine wpQuiet_cut rfl _ _ _ _ rfl (fun _ h => h) v2 HC2.out ?_
  simp only [Act.put, List.setIfInBounds_toArray, List.set_cons_succ, List.set_cons_zero]
  repeat (go_big_quiet_step (fail))
  refine wpQuiet_cut rfl _ _ _ _ rfl (fun _ h => h) v3 HC3.out ?_
  simp only [Act.put, List.setIfInBounds_toArray, List.set_cons_succ, List.set_cons_zero]
  repeat (go_big_quiet_step (fail))
  refine wpQuiet_nil ?_
  rintro _ ⟨nq, rfl⟩
  have HBQ := hide (below_drewN (Below.refl w1.heap.size w1) nq)
  have HQ1 := hide (HV1.out.drewN nq)
  have HQ2 := hide (HV2.out.drewN nq)
  have HQ3 := hide (HV3.out.drewN nq)
  clear HV1 HV2 HV3 HC1 HC2 HC3
  go_wp2_with fail
  refine (HF.out _ _ HQ3.out).mono ?_
  rintro e w2 ⟨rfl, rfl⟩
  clear HF HQ3
  go_wp2_with fail
  refine (HS.out _ _ HQ1.out).mono ?_
  rintro e w2 ⟨rfl, hb2⟩
  have HB2 := hide (HBQ.out.trans hb2)
  have HQ4 := hide (HQ2.out.below hb2 (Nat.le_refl _))
  clear HS HQ1 HQ2 hb2 HBQ
  by_cases c5 : T = S
  · have hne : (T != S) = false := by rw [bne_eq_false_iff_eq]; exact c5
    have HE := hide (HE6.out (by have := HSS.out; have := HTT.out; omega))
    clear c5 HE5 HE6
    have HLL := hide (show ((l.drop k).take n).length ≤ 1048576 by have := HNN.out; simp; omega)
    have HC := hide (clone_any _ _ w2 HQ4.out (by have := HLL.out; omega))
    generalize (l.drop k).take n = x at *
    go_wp2_with fail
    refine HC.out.mono ?_
    rintro e w4 ⟨v4, rfl, ho4, hb4⟩
    have hs2 := HB2.out.size
    have HO4 := hide (ho4.mono hs2)
    have HB4 := hide (HB2.out.trans (hb4.mono hs2))
    clear ho4 hb4 HC
    go_wp2
    go_ret3
    refine ⟨v4, ?_, by rw [HE.out]; exact HO4.out, HB4.out⟩
    rw [HE.out]
    exact ret_tup3 (by show K + N + 4 = ((k + 4 + n : Nat) : Int); have := HNN.out; have := HKK.out; omega) rfl
  · have hne : (T != S) = true := by rw [bne_iff_ne]; exact c5
    have HE := hide (HE5.out (by have := HSS.out; have := HTT.out; omega))
    clear c5 HE5 HE6
    go_wp2
    go_ret3
    refine ⟨.slice none 0 0, ?_, ?_, HB2.out⟩
    · rw [HE.out]; rfl
    · rw [HE.out]; exact Own.nil _ _

end Go.Proofs.YtgpdbboieokldaaGreat
