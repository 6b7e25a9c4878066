/- Contracts of ferrymanref09: whole. -/
import Derived.Test.YtanmjihiceibbaaPack5
import Derived.Test.YtanmjihiceibbaaRef05B
import Derived.Test.YtanmjihiceibbaaPack2
namespace Go.Proofs.Ytanmjihiceibbaa
open Go.RowKit

theorem entsL_snoc {t : List Ent} {k : Nat} (h : k < t.length) : entsL (t.take (k + 1)) = entsL (t.take k) ++ entL (t.getD k zeroE) := by
  rw [takeE_snoc h]
  unfold entsL
  rw [List.flatMap_append]
  simp

theorem uv10n {n : Nat} (h : n < 4611686018427387904) : (Lib.uvarint n).length ≤ 10 := Lib.uvarint_length64 (by omega)

set_option maxRecDepth 100000 in
set_option maxHeartbeats 4000000 in
theorem refWholeN_any (v : Value) (s : Snap) (w : World) (hs : SnV w v s) (hm : MayN s) :
    Calls Try.prog 26 #[v] w fun e w' => ∃ v', e = .returned v' ∧ Own w' w.heap.size v' (wholeN s) ∧ Below w.heap.size w w' := by
  obtain ⟨vl, vt, rfl, hl, hk, he, ht, hi⟩ := hs
  obtain ⟨la, lc, e1⟩ : ∃ la lc, vl = .slice la s.st.L.length lc := by
    obtain ⟨a, c, h, -⟩ := hl
    exact ⟨a, c, h⟩
  obtain ⟨ta, tc, e2, -, htm, -, -, hta⟩ := ht
  subst e1 e2
  have HL := hide hl
  have HSV : Hid (∀ W, Below w.heap.size w W → StV W (.agg #[.int .i64 s.st.kind, .slice la s.st.L.length lc, .bool s.st.shut, .int .i64 s.st.eng]) s.st) := hide (fun W h => ⟨_, rfl, HL.out.below h (Nat.le_refl _), hk, he⟩)
  have HES := hide (fun W h => refEncodeState_any _ s.st W (HSV.out W h))
  unfold Encoded at HES
  simp only [if_pos hm.2.1] at HES
  have HB0 : Hid (∀ X, Below w.heap.size w (w.alloc X)) := fun X => (Below.refl _ _).alloc (Nat.le_refl _) X
  have HX0 : Hid (∀ cs, Bn (w.alloc (.cells cs 27)) w.heap.size cs) := fun cs => heap_alloc_new w _
  have hls := encS_le hm.2.1
  have hlt := tabOk_few hm.2.2
  have HEN := hide hm.2.2.mem
  have HTA := hide hta
  have HW : Hid (wholeN s = ((Lib.uvarint (encS s.st).length ++ encS s.st) ++ Lib.uvarint s.tab.length) ++ entsL s.tab) := hide (by
    unfold wholeN tabL
    simp only [List.append_assoc])
  rw [HW.out]
  have HP := hide (fun v l n w h hl => refPut_any v l n w h hl)
  have HS := hide (fun v l n w h hl (hi : I64 n) => refPutSigned_any v l n w h hl hi.1 hi.2)
  have u1 := uv10n (n := (encS s.st).length) (by omega)
  have u2 := uv10n (n := s.tab.length) (by omega)
  have HP1 : Hid (∀ W, Calls Try.prog 27 #[.slice none 0 0, .int .i64 ((encS s.st).length : Int)] W fun e w' => ∃ v', e = .returned v' ∧ Own w' W.heap.size v' (Lib.uvarint (encS s.st).length) ∧ Below W.heap.size W w') := fun W => by
    have h := HP.out (.slice none 0 0) [] ((encS s.st).length : Int) W (Rd.nil W) (by simp)
    rw [putOf_small (by omega) (by omega), List.nil_append, Int.toNat_natCast] at h
    exact h
  have HP2 : Hid (∀ v1 A W, A.length ≤ 3000 → Rd W v1 A → Calls Try.prog 27 #[v1, .int .i64 (s.tab.length : Int)] W fun e w' => ∃ v', e = .returned v' ∧ Own w' W.heap.size v' (A ++ Lib.uvarint s.tab.length) ∧ Below W.heap.size W w') := fun v1 A W hA h => by
    have h := HP.out v1 A (s.tab.length : Int) W h (by omega)
    rw [putOf_small (by omega) (by omega), Int.toNat_natCast] at h
    exact h
  clear HW hm hl hta hk he hi htm HSV
  obtain ⟨idx, ⟨kind, L, shut, eng⟩, tab⟩ := s
  dsimp only at *
  generalize encS ⟨kind, L, shut, eng⟩ = ES at *
  have hH1 : (Lib.uvarint ES.length ++ ES).length ≤ 2010 := by rw [List.length_append]; omega
  have hH2 : ((Lib.uvarint ES.length ++ ES) ++ Lib.uvarint tab.length).length ≤ 2020 := by rw [List.length_append]; omega
  obtain ⟨H1, eH1⟩ : ∃ H1, H1 = Lib.uvarint ES.length ++ ES := ⟨_, rfl⟩
  rw [← eH1] at hH1 hH2 ⊢
  obtain ⟨H2, eH2⟩ : ∃ H2, H2 = H1 ++ Lib.uvarint tab.length := ⟨_, rfl⟩
  rw [← eH2] at hH2 ⊢
  obtain ⟨U1, eU1⟩ : ∃ U1, U1 = Lib.uvarint ES.length := ⟨_, rfl⟩
  rw [← eU1] at HP1 u1 eH1
  have E1 := hide eH1
  have E2 := hide eH2
  clear eH1 eH2 eU1
  go_enter Try.func26, Try.ntmps26
  go_wp2_with fail
  refine (HES.out _ (HB0.out _)).mono ?_
  rintro e W1 ⟨v1, rfl, ho1, hb1⟩
  have hx1 : Bn W1 w.heap.size _ := (HX0.out _).below hb1 (Nat.le_refl _)
  have HX1 := hide hx1
  have HB1 := hide ((HB0.out _).trans (hb1.mono (HB0.out _).size))
  obtain ⟨a1, n1, e1, -⟩ := id ho1.rd
  subst e1
  have HR1 := hide ho1.rd
  clear ho1 hb1 hx1 HES HX0
  go_wp2_with fail
  refine (HP1.out _).mono ?_
  rintro e W2 ⟨v2, rfl, ho2, hb2⟩
  have HX2 := hide (HX1.out.below hb2 (Nat.le_refl _))
  have HB2 := hide (HB1.out.trans (hb2.mono HB1.out.size))
  have HO2 := hide ho2
  have HR2 := hide (HR1.out.below hb2 (Nat.le_refl _))
  have HSZ := hide hb2.size
  have HLT := hide HX1.out.lt
  clear ho2 hb2 HP1 HX1 HR1
  go_wp2_with (at_builtin; refine wpList_append_rd _ rfl _ _ rfl W1.heap.size _ U1 rfl HO2.out _ ES rfl HR2.out (by omega) HSZ.out ?_)
  intro v3 W3 ho3 hb3
  rw [← E1.out] at ho3
  have hx3 : Bn W3 w.heap.size _ := (hb3.block _ HLT.out).trans HX2.out
  have HX3 := hide hx3
  have HB3 := hide (HB2.out.trans (hb3.mono HB1.out.size))
  have HR3 := hide ho3.rd
  obtain ⟨p5, -⟩ := hx3.cell 5
  clear ho3 hb3 hx3 HX2 HB2 HO2 HR2 HSZ HLT HB1
  go_wp2_with fail
  refine (HP2.out _ _ _ (by omega) HR3.out).mono ?_
  rintro e W4 ⟨v4, rfl, ho4, hb4⟩
  rw [← E2.out] at ho4
  have HX4 : Hid (Bn W4 w.heap.size _) := hide (HX3.out.below hb4 (Nat.le_refl _))
  have HB4 := hide (HB3.out.trans (hb4.mono HB3.out.size))
  have HO4 := hide (ho4.mono HB3.out.size)
  clear ho4 hb4 HX3 HB3 HR3 p5 HP2
  go_wp2
  go_loopw [5, 6] (fun vo vi wr => ∃ k : Nat, vi = .int .i64 (k : Int) ∧ k ≤ tab.length ∧ Hid (Own wr w.heap.size vo (H2 ++ entsL (tab.take k))) ∧ Hid (Bn wr w.heap.size #[.int .i64 idx, .int .i64 kind, .slice la L.length lc, .bool shut, .int .i64 eng, .slice ta tab.length tc]) ∧ Hid (Below w.heap.size w wr)) (fun _ vi _ => tab.length - (intOf vi).toNat)
  case atStart => exact ⟨0, rfl, Nat.zero_le _, by simpa [entsL] using HO4, HX4, HB4⟩
  case round =>
    clear HO4 HX4 HB4
    obtain ⟨k, rfl, hk, hO, hX, hB⟩ := hrel
    obtain ⟨p5, -⟩ := hX.out.cell 5
    by_cases hlt2 : k < tab.length
    case neg =>
      have hke : tab.take k = tab := List.take_of_length_le (by omega)
      rw [hke] at hO
      have hnk : ¬ (k : Int) < (tab.length : Int) := by omega
      clear hke
      go_wp2
      go_ret
      exact ⟨_, rfl, hO.out, hB.out⟩
    have hqi : (k : Int) < (tab.length : Int) := by omega
    rcases HTA.out with h0 | ⟨c, off, rfl, hc⟩
    · rw [h0] at hlt2; simp at hlt2
    have HAT : Hid (∀ W, Below w.heap.size w W → EntAt W c (off + k * 3) (tab.getD k zeroE)) := hide (fun W h => (hc k hlt2).keep (h.block c (hc k hlt2).lt))
    have hoe : EntOk (tab.getD k zeroE) := HEN.out _ (by simp [List.getD, hlt2])
    obtain ⟨o1, o2, o3, o4, o5⟩ := entOk_small hoe
    obtain ⟨g1, g2, g3, g4, g5, g6⟩ := hoe
    have hl60 : (entsL (tab.take k)).length ≤ 30 * k := by
      have h := entsL_le (tab.take k) (fun e he => HEN.out e (List.mem_of_mem_take he))
      have h2 : (tab.take k).length = k := by simp; omega
      rw [h2] at h
      exact h
    have HNK : Hid (H2 ++ entsL (tab.take (k + 1)) = (((H2 ++ entsL (tab.take k)) ++ Lib.uvarint (tab.getD k zeroE).proc.toNat) ++ Lib.uvarint (tab.getD k zeroE).seq.toNat) ++ Lib.uvarint (Lib.zigzag (tab.getD k zeroE).resp)) := hide (by
      rw [entsL_snoc hlt2]
      unfold entL
      simp only [List.append_assoc])
    have L0 : (H2 ++ entsL (tab.take k)).length ≤ 5000 := by rw [List.length_append]; omega
    have q1 := uv10n o1
    have q2 := uv10n o2
    obtain ⟨P0, hP0⟩ : ∃ P0, P0 = H2 ++ entsL (tab.take k) := ⟨_, rfl⟩
    rw [← hP0] at hO HNK L0
    obtain ⟨r, hr⟩ : ∃ r, r = tab.getD k zeroE := ⟨_, rfl⟩
    rw [← hr] at HAT HNK o1 o2 o3 o4 o5 g1 g2 g3 g4 g5 g6 q1 q2
    obtain ⟨P1, hP1⟩ : ∃ P1, P1 = P0 ++ Lib.uvarint r.proc.toNat := ⟨_, rfl⟩
    have l1 : P1.length ≤ 5010 := by rw [hP1, List.length_append]; omega
    obtain ⟨P2, hP2⟩ : ∃ P2, P2 = P1 ++ Lib.uvarint r.seq.toNat := ⟨_, rfl⟩
    have l2 : P2.length ≤ 5020 := by rw [hP2, List.length_append]; omega
    rw [← hP1, ← hP2] at HNK
    have HPA : Hid (∀ v1 W, Rd W v1 P0 → Calls Try.prog 27 #[v1, .int .i64 r.proc] W fun e w' => ∃ v', e = .returned v' ∧ Own w' W.heap.size v' P1 ∧ Below W.heap.size W w') := fun v1 W h => by
      have h := HP.out v1 P0 r.proc W h (by omega)
      rw [putOf_small g1 (by omega), ← hP1] at h
      exact h
    have HPB : Hid (∀ v1 W, Rd W v1 P1 → Calls Try.prog 27 #[v1, .int .i64 r.seq] W fun e w' => ∃ v', e = .returned v' ∧ Own w' W.heap.size v' P2 ∧ Below W.heap.size W w') := fun v1 W h => by
      have h := HP.out v1 P1 r.seq W h (by omega)
      rw [putOf_small g3 (by omega), ← hP2] at h
      exact h
    have HPC : Hid (∀ v1 W, Rd W v1 P2 → Calls Try.prog 61 #[v1, .int .i64 r.resp] W fun e w' => ∃ v', e = .returned v' ∧ Own w' W.heap.size v' (H2 ++ entsL (tab.take (k + 1))) ∧ Below W.heap.size W w') := fun v1 W h => by
      have h := HS.out v1 P2 r.resp W h (by omega) o3
      rw [← HNK.out] at h
      exact h
    have HNX : Hid (H2 ++ entsL (tab.take (k + 1)) = H2 ++ entsL (tab.take (k + 1))) := rfl
    clear hr hP0 hP1 hP2 hc HP HS o1 o2 o3 o4 o5 g1 g2 g3 g4 g5 g6 q1 q2 hl60
    obtain ⟨c0, -⟩ := HAT.out wr hB.out
    obtain ⟨ua, uc, hu⟩ : ∃ ua uc, u5 = .slice ua P0.length uc := by
      obtain ⟨a, c, h, -⟩ := hO.out.rd
      exact ⟨a, c, h⟩
    subst hu
    go_wp2_with fail
    refine (HPA.out _ _ hO.out.rd).mono ?_
    rintro e W5 ⟨v5, rfl, ho5, hb5⟩
    have hx5 : Bn W5 w.heap.size _ := hX.out.below hb5 (Nat.le_refl _)
    have HX5 := hide hx5
    have HB5 := hide (hB.out.trans (hb5.mono hB.out.size))
    have HR5 := hide ho5.rd
    obtain ⟨r5, -⟩ := hx5.cell 5
    obtain ⟨-, d1, -⟩ := HAT.out W5 HB5.out
    clear ho5 hb5 hx5 hX hB hO p5 c0 HPA
    go_wp2_with fail
    refine (HPB.out _ _ HR5.out).mono ?_
    rintro e W6 ⟨v6, rfl, ho6, hb6⟩
    have hx6 : Bn W6 w.heap.size _ := HX5.out.below hb6 (Nat.le_refl _)
    have HX6 := hide hx6
    have HB6 := hide (HB5.out.trans (hb6.mono HB5.out.size))
    have HR6 := hide ho6.rd
    obtain ⟨s5, -⟩ := hx6.cell 5
    obtain ⟨-, -, f2⟩ := HAT.out W6 HB6.out
    clear ho6 hb6 hx6 HX5 HB5 HR5 r5 d1 HPB
    go_wp2_with fail
    refine (HPC.out _ _ HR6.out).mono ?_
    rintro e W7 ⟨v7, rfl, ho7, hb7⟩
    have HX7 : Hid (Bn W7 w.heap.size _) := hide (HX6.out.below hb7 (Nat.le_refl _))
    have HB7 := hide (HB6.out.trans (hb7.mono HB6.out.size))
    have HO7 := hide (ho7.mono HB6.out.size)
    clear ho7 hb7 HX6 HB6 HR6 s5 f2 HPC
    go_wp2
    go_roundw
    case rel => exact ⟨k + 1, by go_num, by omega, HO7, HX7, HB7⟩
    case measure => simp [intOf]; omega

end Go.Proofs.Ytanmjihiceibbaa
