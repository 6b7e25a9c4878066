/- Contracts of ferrymanref03: Decode, Whole, All. -/
import Derived.Test.YtgpdbboieokldaaGreatRef03Enc
namespace Go.Proofs.YtgpdbboieokldaaGreat
open Go.RowKit

theorem decF_1 {l : List UInt8} (h : isOpen l) : decF l = ([], 0, 2) := by unfold decF; rw [if_pos h]

theorem decF_2 {l : List UInt8} (h : ¬ isOpen l) (h2 : (dec62 l).2 = 0) : decF l = ([], 0, 3) := by unfold decF; rw [if_neg h, if_pos h2]

theorem decF_3 {l : List UInt8} (h : ¬ isOpen l) (h2 : (dec62 l).2 ≠ 0) (h3 : 1048576 < (dec62 l).1) : decF l = ([], 0, 5) := by unfold decF; rw [if_neg h, if_neg h2, if_pos h3]

theorem decF_4 {l : List UInt8} (h : ¬ isOpen l) (h2 : (dec62 l).2 ≠ 0) (h3 : ¬ 1048576 < (dec62 l).1) (h4 : l.length < (dec62 l).2 + 4 + (dec62 l).1) : decF l = ([], 0, 2) := by
  unfold decF; rw [if_neg h, if_neg h2, if_neg h3, if_pos h4]

theorem decF_5 {l : List UInt8} (h : ¬ isOpen l) (h2 : (dec62 l).2 ≠ 0) (h3 : ¬ 1048576 < (dec62 l).1) (h4 : ¬ l.length < (dec62 l).2 + 4 + (dec62 l).1)
    (h5 : Lib.leNat ((l.drop ((dec62 l).2 + (dec62 l).1)).take 4) ≠ crcMore 0 (l.take ((dec62 l).2 + (dec62 l).1))) : decF l = ([], 0, 4) := by
  unfold decF; rw [if_neg h, if_neg h2, if_neg h3, if_neg h4, if_pos h5]

theorem decF_6 {l : List UInt8} (h : ¬ isOpen l) (h2 : (dec62 l).2 ≠ 0) (h3 : ¬ 1048576 < (dec62 l).1) (h4 : ¬ l.length < (dec62 l).2 + 4 + (dec62 l).1)
    (h5 : Lib.leNat ((l.drop ((dec62 l).2 + (dec62 l).1)).take 4) = crcMore 0 (l.take ((dec62 l).2 + (dec62 l).1))) : decF l = ((l.drop (dec62 l).2).take (dec62 l).1, (dec62 l).2 + 4 + (dec62 l).1, 0) := by
  unfold decF; rw [if_neg h, if_neg h2, if_neg h3, if_neg h4, if_neg (by rw [h5]; simp)]

theorem dec62_nine (l : List UInt8) : (dec62 l).2 ≤ 9 := by
  rcases dec62_cases l with h | ⟨h1, h2, h3, h4⟩
  · rw [h]; decide
  · have h5 : (Lib.uvarint (dec62 l).1).length ≤ 9 := Lib.uvarint_length 8 _ (Nat.lt_of_lt_of_le h1 (by decide))
    rw [← h4, List.length_take] at h5
    omega

/-- What Decode's answer is, of which value. -/
def Decoded (w : World) (l : List UInt8) (e : Ending) (w' : World) : Prop :=
  ∃ v', e = .returned (.tuple #[v', .int .i64 ((decF l).2.1 : Nat), .int .i64 ((decF l).2.2 : Nat)]) ∧ Own w' w.heap.size v' (decF l).1 ∧ Below w.heap.size w w'

theorem Decoded.refused {w : World} {l : List UInt8} {c : Nat} (h : decF l = ([], 0, c)) : Decoded w l (.returned (.tuple #[.slice none 0 0, .int .i64 0, .int .i64 (c : Int)])) w := by
  refine ⟨.slice none 0 0, ?_, ?_, Below.refl _ _⟩
  · rw [h]; rfl
  · rw [h]; exact Own.nil _ _

set_option maxRecDepth 100000 in
set_option maxHeartbeats 1000000 in
theorem refDecode_any (v : Value) (l : List UInt8) (w : World) (hr : Rd w v l) :
    Calls Tryz.prog 24 #[v] w fun e w' => Decoded w l e w' := by
  have HR := hide hr
  have HO := hide (refOpen_any v l w hr)
  have HG := hide (refGet_any v l w hr)
  obtain ⟨ao, cap, rfl, hlc, hcm, hn0, hao⟩ := hr
  clear hn0 hao
  have hml : (l.length : Int) ≤ 9223372036854775807 := by unfold maxLen at hcm; omega
  have HLC := hide hlc
  have HCM := hide hcm
  clear hlc hcm
  by_cases c1 : isOpen l
  · have HE := hide (decF_1 c1)
    have HD : Hid (decide (isOpen l) = true) := decide_eq_true c1
    rw [HD.out] at HO
    clear c1 HG
    go_enter Tryz.func24, Tryz.ntmps24
    go_wp2_with fail
    refine HO.out.mono ?_
    rintro e w1 ⟨rfl, rfl⟩
    clear HO
    go_wp2
    go_ret3
    exact Decoded.refused HE.out
  have HD : Hid (decide (isOpen l) = false) := decide_eq_false c1
  rw [HD.out] at HO
  have C1 := hide c1
  clear c1
  have hg1 := dec62_cases l
  obtain ⟨n, hn⟩ : ∃ n, n = (dec62 l).1 := ⟨_, rfl⟩
  obtain ⟨k, hk⟩ : ∃ k, k = (dec62 l).2 := ⟨_, rfl⟩
  rw [← hn, ← hk] at hg1 HG
  have HN := hide hn
  have HK := hide hk
  have hk9 := dec62_nine l
  have hbd : (n : Int) < 4611686018427387904 ∧ (k : Int) ≤ l.length ∧ (k : Int) ≤ 9 := by
    rw [← hk] at hk9
    rcases hg1 with h | h
    · have h1 : n = 0 := by rw [hn, h]
      have h2 : k = 0 := by rw [hk, h]
      omega
    · omega
  clear hk9
  obtain ⟨N, hNn⟩ : ∃ N : Int, N = (n : Int) := ⟨_, rfl⟩
  obtain ⟨K, hKk⟩ : ∃ K : Int, K = (k : Int) := ⟨_, rfl⟩
  rw [← hNn, ← hKk] at hbd HG
  obtain ⟨hn62, hkl, hk9⟩ := hbd
  have hN0 : 0 ≤ N := by omega
  have hK0 : 0 ≤ K := by omega
  have HNN := hide hNn
  have HKK := hide hKk
  clear hNn hKk
  clear hg1 hn hk
  by_cases c2 : K = 0
  · have HE := hide (decF_2 C1.out (by rw [← HK.out]; have := HKK.out; omega))
    subst c2
    go_enter Tryz.func24, Tryz.ntmps24
    go_wp2_with fail
    refine HO.out.mono ?_
    rintro e w1 ⟨rfl, rfl⟩
    clear HO
    go_wp2_with fail
    refine HG.out.mono ?_
    rintro e w1 ⟨rfl, rfl⟩
    clear HG
    go_wp2
    go_ret3
    exact Decoded.refused HE.out
  have ez : (K == 0) = false := beq_eq_false_iff_ne.2 c2
  have hk1 : 1 ≤ K := by omega
  have C2 := hide (show (dec62 l).2 ≠ 0 by rw [← HK.out]; have := HKK.out; omega)
  clear c2
  by_cases c3 : 1048576 < N
  · have HE := hide (decF_3 C1.out C2.out (by rw [← HN.out]; have := HNN.out; omega))
    go_enter Tryz.func24, Tryz.ntmps24
    go_wp2_with fail
    refine HO.out.mono ?_
    rintro e w1 ⟨rfl, rfl⟩
    clear HO
    go_wp2_with fail
    refine HG.out.mono ?_
    rintro e w1 ⟨rfl, rfl⟩
    clear HG
    go_wp2
    go_ret3
    exact Decoded.refused HE.out
  have C3 := hide (show ¬ 1048576 < (dec62 l).1 by rw [← HN.out]; have := HNN.out; omega)
  by_cases c4 : (l.length : Int) < K + 4 + N
  · have HE := hide (decF_4 C1.out C2.out C3.out (by rw [← HN.out, ← HK.out]; have := HNN.out; have := HKK.out; omega))
    go_enter Tryz.func24, Tryz.ntmps24
    go_wp2_with fail
    refine HO.out.mono ?_
    rintro e w1 ⟨rfl, rfl⟩
    clear HO
    go_wp2_with fail
    refine HG.out.mono ?_
    rintro e w1 ⟨rfl, rfl⟩
    clear HG
    go_wp2
    go_ret3
    exact Decoded.refused HE.out
  have C4 := hide (show ¬ l.length < (dec62 l).2 + 4 + (dec62 l).1 by rw [← HN.out, ← HK.out]; have := HNN.out; have := HKK.out; omega)
  have HS : Hid (∀ v, Rd w v (l.take (k + n)) → Calls Tryz.prog 54 #[v] w fun e w' => e = .returned (.int .u32 (crcMore 0 (l.take (k + n)) : Nat)) ∧ w' = w) := fun v h => refSum_any v _ w h
  have HF : Hid (∀ v, Rd w v ((l.drop (k + n)).take 4) → Calls Tryz.prog 64 #[v] w fun e w' => e = .returned (.int .u64 (Lib.leNat ((l.drop (k + n)).take 4) : Nat)) ∧ w' = w) := by
    intro v h
    have := refFixed_any v _ w h
    rwa [List.take_of_length_le (by simp; omega)] at this
  have HE5 : Hid (Lib.leNat ((l.drop (k + n)).take 4) ≠ crcMore 0 (l.take (k + n)) → decF l = ([], 0, 4)) := fun h => by
    rw [HN.out, HK.out] at h
    exact decF_5 C1.out C2.out C3.out C4.out h
  have HE6 : Hid (Lib.leNat ((l.drop (k + n)).take 4) = crcMore 0 (l.take (k + n)) → decF l = ((l.drop k).take n, k + 4 + n, 0)) := fun h => by
    rw [HN.out, HK.out] at h ⊢
    exact decF_6 C1.out C2.out C3.out C4.out h
  have hs := crc_lt (l.take (k + n))
  have hq : Lib.leNat ((l.drop (k + n)).take 4) < 4294967296 := by
    have h1 := leNat_lt256 ((l.drop (k + n)).take 4)
    have e4 : ((l.drop (k + n)).take 4).length = 4 := by have := HNN.out; have := HKK.out; simp; omega
    rw [e4] at h1
    exact h1
  generalize crcMore 0 (l.take (k + n)) = s at *
  generalize Lib.leNat ((l.drop (k + n)).take 4) = q at *
  obtain ⟨S, hS⟩ : ∃ S : Int, S = (s : Int) := ⟨_, rfl⟩
  obtain ⟨T, hT⟩ : ∃ T : Int, T = (q : Int) := ⟨_, rfl⟩
  rw [← hS] at HS
  rw [← hT] at HF
  have hS0 : 0 ≤ S := by omega
  have hS1 : S < 4294967296 := by omega
  have HSS := hide hS
  have HTT := hide hT
  have HR1 : Hid (∃ v', (Instr.sliceAt 26 (.slice ao l.length cap) (some (.int .i64 K)) (some (.int .i64 (K + N))) none).run Tryz.prog w = .ok v' w ∧ Rd w v' ((l.drop k).take n)) := by
    have := run_cut_lh w _ l HR.out .i64 .i64 K (K + N) (by omega) (by omega) (by omega)
    have hn := HNN.out
    have hk := HKK.out
    have e : (K + N).toNat - K.toNat = n := by omega
    have e2 : K.toNat = k := by omega
    rwa [e, e2] at this
  have HR2 : Hid (∃ v', (Instr.sliceAt 26 (.slice ao l.length cap) none (some (.int .i64 (K + N))) none).run Tryz.prog w = .ok v' w ∧ Rd w v' (l.take (k + n))) := by
    have := run_cut_h w _ l HR.out .i64 (K + N) (by omega) (by omega)
    have hn := HNN.out
    have hk := HKK.out
    have e : (K + N).toNat = k + n := by omega
    rwa [e] at this
  have HR3 : Hid (∃ v', (Instr.sliceAt 26 (.slice ao l.length cap) (some (.int .i64 (K + N))) (some (.int .i64 (K + N + 4))) none).run Tryz.prog w = .ok v' w ∧ Rd w v' ((l.drop (k + n)).take 4)) := by
    have := run_cut_lh w _ l HR.out .i64 .i64 (K + N) (K + N + 4) (by omega) (by omega) (by omega)
    have hn := HNN.out
    have hk := HKK.out
    have e : (K + N).toNat = k + n := by omega
    have e2 : (K + N + 4).toNat - (k + n) = 4 := by omega
    rwa [e, e2] at this
  clear hS hT hs hq
  go_enter Tryz.func24, Tryz.ntmps24
  go_wp2_with fail
  refine HO.out.mono ?_
  rintro e w1 ⟨rfl, rfl⟩
  clear HO
  go_wp2_with fail
  refine HG.out.mono ?_
  rintro e w1 ⟨rfl, rfl⟩
  clear HG
  go_wp2_with (refine wpList_cut _ rfl _ _ _ _ rfl _ HR1.out ?_)
  intro v1 hr1
  have HV1 := hide hr1
  clear hr1 HR1
  go_wp2_with (refine wpList_cut _ rfl _ _ _ _ rfl _ HR2.out ?_)
  intro v2 hr2
  have HV2 := hide hr2
  clear hr2 HR2
  go_wp2_with fail
  refine (HS.out _ HV2.out).mono ?_
  rintro e w1 ⟨rfl, rfl⟩
  clear HS HV2
  go_wp2_with (refine wpList_cut _ rfl _ _ _ _ rfl _ HR3.out ?_)
  intro v3 hr3
  have HV3 := hide hr3
  clear hr3 HR3
  go_wp2_with fail
  refine (HF.out _ HV3.out).mono ?_
  rintro e w1 ⟨rfl, rfl⟩
  clear HF HV3
  by_cases c5 : T = S
  · have hne : (T != S) = false := by rw [bne_eq_false_iff_eq]; exact c5
    have HE := hide (HE6.out (by have := HSS.out; have := HTT.out; omega))
    clear c5 HE5 HE6
    have HLL := hide (show ((l.drop k).take n).length ≤ 1048576 by have := HNN.out; simp; omega)
    generalize (l.drop k).take n = x at *
    go_wp2_with (at_builtin; refine wpList_append_rd _ rfl _ _ rfl w1.heap.size _ [] rfl (Own.nil _ _) _ x rfl HV1.out (by have := HLL.out; simp; omega) (Nat.le_refl _) ?_)
    intro v4 w4 ho4 hb4
    have HO4 := hide ho4
    have HB4 := hide hb4
    clear ho4 hb4
    go_wp2
    go_ret3
    refine ⟨v4, ?_, by rw [HE.out]; exact HO4.out, HB4.out⟩
    rw [HE.out]
    exact ret_tup3 (by show K + 4 + N = ((k + 4 + n : Nat) : Int); have := HNN.out; have := HKK.out; omega) rfl
  · have hne : (T != S) = true := by rw [bne_iff_ne]; exact c5
    have HE := hide (HE5.out (by have := HSS.out; have := HTT.out; omega))
    clear c5 HE5 HE6
    go_wp2
    go_ret3
    exact Decoded.refused HE.out

end Go.Proofs.YtgpdbboieokldaaGreat
