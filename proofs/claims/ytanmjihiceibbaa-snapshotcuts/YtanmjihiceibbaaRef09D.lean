/- Contract of ferrymanref09: Encode. -/
import Derived.Test.YtanmjihiceibbaaRef09C
import Derived.Test.YtanmjihiceibbaaRef03Enc
import Derived.Test.YtanmjihiceibbaaPack2
namespace Go.Proofs.Ytanmjihiceibbaa
open Go.RowKit

/-- What is encoded: the bytes, or none and ErrArg. -/
def EncodedN (w : World) (s : Snap) (e : Ending) (w' : World) : Prop :=
  ∃ v', e = .returned (.tuple #[v', .int .i64 (if MayN s then 0 else 1)]) ∧ Own w' w.heap.size v' (if MayN s then encN s else []) ∧ Below w.heap.size w w'

theorem pieces_frames_len : ∀ (n : Nat) (l : List UInt8), l.length ≤ n → (framesOf (pieces l)).length ≤ 15 * l.length
  | 0, l, h => by
    have e : l = [] := List.eq_nil_of_length_eq_zero (by omega)
    rw [e, pieces_nil]
    simp [framesOf]
  | n + 1, l, h => by
    by_cases e : l = []
    · rw [e, pieces_nil]
      simp [framesOf]
    · have h1 : l.length ≠ 0 := by simpa using e
      have ih := pieces_frames_len n (l.drop 64) (by rw [List.length_drop]; omega)
      have h2 := frameOf_len6 (d := l.take 64) (by rw [List.length_take]; omega)
      rw [pieces_cons e, framesOf_cons, List.length_append]
      rw [List.length_drop] at ih
      rw [List.length_take] at h2
      omega

theorem encN_len {s : Snap} (h : MayN s) : (encN s).length ≤ 80000 := by
  have hl := wholeN_le h
  have hi : s.idx.toNat < 4611686018427387904 := by have := h.1; omega
  have h1 := maniN_len hi (w := wholeN s) (by omega)
  have h2 := frameOf_len6 (d := maniN s.idx.toNat (wholeN s)) (by omega)
  have h3 := pieces_frames_len _ (wholeN s) (Nat.le_refl _)
  unfold encN partsN
  rw [framesOf_cons, List.length_append]
  omega

set_option maxRecDepth 100000 in
set_option maxHeartbeats 4000000 in
theorem refEncodeN_any (v : Value) (s : Snap) (w : World) (hs : SnV w v s) :
    Calls Try.prog 10 #[v] w fun e w' => EncodedN w s e w' := by
  have HSV : Hid (∀ W, Below w.heap.size w W → SnV W v s) := hide (fun W h => by
    obtain ⟨vl, vt, e, hl, hk, he, ht, hi⟩ := hs
    exact ⟨vl, vt, e, hl.below h (Nat.le_refl _), hk, he, ht.below h (Nat.le_refl _), hi⟩)
  have HMY := hide (fun W h => refMayN_any v s W (HSV.out W h))
  have HWH := hide (fun (hm : MayN s) W h => refWholeN_any v s W (HSV.out W h) hm)
  obtain ⟨vl, vt, rfl, hl, hk, he, ht, hi⟩ := hs
  obtain ⟨la, lc, e1⟩ : ∃ la lc, vl = .slice la s.st.L.length lc := by
    obtain ⟨a, c, h, -⟩ := hl
    exact ⟨a, c, h⟩
  obtain ⟨ta, tc, e2⟩ := ht.shape
  subst e1 e2
  have HB0 : Hid (∀ X, Below w.heap.size w (w.alloc X)) := fun X => (Below.refl _ _).alloc (Nat.le_refl _) X
  have HX0 : Hid (∀ cs, Bn (w.alloc (.cells cs 27)) w.heap.size cs) := fun cs => heap_alloc_new w _
  clear hl ht hk he hi HSV
  unfold EncodedN
  by_cases hm : MayN s
  case neg =>
    simp only [if_neg hm]
    rw [decide_eq_false hm] at HMY
    clear hm HWH
    obtain ⟨idx, ⟨kind, L, shut, eng⟩, tab⟩ := s
    dsimp only at *
    go_enter Try.func10, Try.ntmps10
    go_wp2_with fail
    refine (HMY.out _ (HB0.out _)).mono ?_
    rintro e W1 ⟨rfl, hb1⟩
    have HB1 := hide ((HB0.out _).trans (hb1.mono (HB0.out _).size))
    clear hb1
    go_wp2
    go_ret2
    exact ⟨_, rfl, Own.nil _ _, HB1.out⟩
  simp only [if_pos hm]
  rw [decide_eq_true hm] at HMY
  have HW1 := hide (HWH.out hm)
  have hwl := wholeN_le hm
  have HEL := hide (encN_len hm)
  obtain ⟨⟨i0, i1⟩, -⟩ := id hm
  have hcr := crc_lt (wholeN s)
  have hml := maniN_len (i := s.idx.toNat) (by omega) (w := wholeN s) (by omega)
  have HEN : Hid (encN s = frameOf (maniN s.idx.toNat (wholeN s)) ++ framesOf (pieces (wholeN s))) := hide (framesOf_cons _ _)
  have HMN : Hid (maniN s.idx.toNat (wholeN s) = ((([115] ++ Lib.uvarint 3) ++ Lib.uvarint s.idx.toNat) ++ Lib.uvarint (wholeN s).length) ++ Lib.leBytes 4 (crcMore 0 (wholeN s))) := hide (by
    unfold maniN
    simp only [List.append_assoc]
    rfl)
  have HFE := hide (fun v l W h => refEncode_any v l W h)
  have HP := hide (fun v l n w h hl => refPut_any v l n w h hl)
  have HSM : Hid (∀ v W, Rd W v (wholeN s) → Calls Try.prog 29 #[v] W fun e w' => e = .returned (.int .u32 (crcMore 0 (wholeN s) : Nat)) ∧ w' = W) := hide (fun v W h => refSum_any v (wholeN s) W h)
  have HFX : Hid (∀ W, Calls Try.prog 28 #[.int .u64 (crcMore 0 (wholeN s) : Nat), .int .i64 4] W fun e w' => ∃ v', e = .returned v' ∧ Own w' W.heap.size v' (Lib.leBytes 4 (crcMore 0 (wholeN s))) ∧ Below W.heap.size W w') := hide (fun W => fix_any (crcMore 0 (wholeN s)) 4 W (by decide) (by omega))
  have u1 := uv10n (n := 3) (by decide)
  have u2 := uv10n (n := s.idx.toNat) (by omega)
  have u3 := uv10n (n := (wholeN s).length) (by omega)
  have HP1 : Hid (∀ v1 W, Rd W v1 [115] → Calls Try.prog 27 #[v1, .int .i64 3] W fun e w' => ∃ v', e = .returned v' ∧ Own w' W.heap.size v' ([115] ++ Lib.uvarint 3) ∧ Below W.heap.size W w') := fun v1 W h => by
    have h := HP.out v1 [115] 3 W h (by simp)
    rw [putOf_small (by omega) (by omega)] at h
    exact h
  have HP2 : Hid (∀ v1 A W, A.length ≤ 100 → Rd W v1 A → Calls Try.prog 27 #[v1, .int .i64 s.idx] W fun e w' => ∃ v', e = .returned v' ∧ Own w' W.heap.size v' (A ++ Lib.uvarint s.idx.toNat) ∧ Below W.heap.size W w') := fun v1 A W hA h => by
    have h := HP.out v1 A s.idx W h (by omega)
    rw [putOf_small i0 (by omega)] at h
    exact h
  have HP3 : Hid (∀ v1 A W, A.length ≤ 100 → Rd W v1 A → Calls Try.prog 27 #[v1, .int .i64 ((wholeN s).length : Int)] W fun e w' => ∃ v', e = .returned v' ∧ Own w' W.heap.size v' (A ++ Lib.uvarint (wholeN s).length) ∧ Below W.heap.size W w') := fun v1 A W hA h => by
    have h := HP.out v1 A ((wholeN s).length : Int) W h (by omega)
    rw [putOf_small (by omega) (by omega), Int.toNat_natCast] at h
    exact h
  clear hm HWH HP i0 i1
  obtain ⟨EN, hEN⟩ : ∃ EN, EN = encN s := ⟨_, rfl⟩
  rw [← hEN] at HEN HEL ⊢
  clear hEN
  generalize maniN s.idx.toNat (wholeN s) = MN at *
  generalize wholeN s = WH at *
  generalize hS : crcMore 0 WH = S at *
  clear hS
  obtain ⟨SI, hSI⟩ : ∃ SI : Int, SI = (S : Nat) := ⟨_, rfl⟩
  rw [← hSI] at HSM HFX
  have hs0 : 0 ≤ SI := by omega
  have hs1 : SI < 4294967296 := by omega
  clear hSI hcr
  obtain ⟨idx, ⟨kind, L, shut, eng⟩, tab⟩ := s
  dsimp only at *
  generalize Lib.uvarint idx.toNat = U2 at *
  obtain ⟨U3, eU3⟩ : ∃ U3, U3 = Lib.uvarint WH.length := ⟨_, rfl⟩
  rw [← eU3] at HP3 HMN u3
  obtain ⟨A1, eA1⟩ : ∃ A1, A1 = [115] ++ Lib.uvarint 3 := ⟨_, rfl⟩
  rw [← eA1] at HP1 HMN
  have la1 : A1.length ≤ 11 := by rw [eA1, List.length_append]; simp; omega
  obtain ⟨A2, eA2⟩ : ∃ A2, A2 = A1 ++ U2 := ⟨_, rfl⟩
  have la2 : A2.length ≤ 21 := by rw [eA2, List.length_append]; omega
  obtain ⟨A3, eA3⟩ : ∃ A3, A3 = A2 ++ U3 := ⟨_, rfl⟩
  have la3 : A3.length ≤ 31 := by rw [eA3, List.length_append]; omega
  rw [← eA2, ← eA3] at HMN
  have E2 := hide eA2
  have E3 := hide eA3
  obtain ⟨F4, eF4⟩ : ∃ F4, F4 = Lib.leBytes 4 S := ⟨_, rfl⟩
  have lf4 : F4.length = 4 := by rw [eF4]; exact Lib.leBytes_length 4 S
  rw [← eF4] at HFX HMN
  have LF4 := hide lf4
  clear eU3 eA1 eA2 eA3 eF4 u1 u2 u3 lf4
  go_enter Try.func10, Try.ntmps10
  go_wp2_with fail
  refine (HMY.out _ (HB0.out _)).mono ?_
  rintro e W1 ⟨rfl, hb1⟩
  have hx1 : Bn W1 w.heap.size _ := (HX0.out _).below hb1 (Nat.le_refl _)
  have HX1 := hide hx1
  have HB1 := hide ((HB0.out _).trans (hb1.mono (HB0.out _).size))
  obtain ⟨p0, -⟩ := hx1.cell 0
  obtain ⟨p1, -⟩ := hx1.cell 1
  obtain ⟨p2, -⟩ := hx1.cell 2
  obtain ⟨p3, -⟩ := hx1.cell 3
  obtain ⟨p4, -⟩ := hx1.cell 4
  obtain ⟨p5, -⟩ := hx1.cell 5
  clear hb1 hx1 HX0 HMY
  go_wp2_with fail
  refine (HW1.out _ HB1.out).mono ?_
  rintro e W2 ⟨v2, rfl, ho2, hb2⟩
  have HX2 := hide (HX1.out.below hb2 (Nat.le_refl _))
  have HB2 := hide (HB1.out.trans (hb2.mono HB1.out.size))
  obtain ⟨a2, n2, e2, -⟩ := id ho2.rd
  subst e2
  have HR2 := hide ho2.rd
  clear ho2 hb2 HX1 HB1 HW1 p0 p1 p2 p3 p4 p5
  have HBD : Hid (∀ X, Below W2.heap.size W2 (W2.alloc X)) := fun X => (Below.refl _ _).alloc (Nat.le_refl _) X
  have HRB : Hid (Rd (W2.alloc (.cells #[.int .u8 115] 5)) (.slice (some ⟨W2.heap.size, 0, none⟩) 1 1) [115]) := hide (by
    refine ⟨some ⟨W2.heap.size, 0, none⟩, 1, rfl, Nat.le_refl _, by decide, (fun e => by cases e), .inr ⟨W2.heap.size, 0, rfl, fun j hj => ?_⟩⟩
    have hj0 : j = 0 := by simp at hj; omega
    subst hj0
    rw [Nat.zero_add, cell_of_row _ W2.heap.size 0 _ 5 (0, 0) (heap_alloc_new W2 _)]
    rfl)
  go_wp2_with fail
  refine (HP1.out _ _ HRB.out).mono ?_
  rintro e W3 ⟨v3, rfl, ho3, hb3⟩
  have hb23 : Below W2.heap.size W2 W3 := (HBD.out _).trans (hb3.mono (HBD.out _).size)
  have hx3 : Bn W3 w.heap.size _ := HX2.out.below hb23 (Nat.le_refl _)
  have HX3 := hide hx3
  have HB3 := hide (HB2.out.trans (hb23.mono HB2.out.size))
  have HR3 := hide ho3.rd
  have HRW3 := hide (HR2.out.below hb23 (Nat.le_refl _))
  obtain ⟨q0, -⟩ := hx3.cell 0
  clear ho3 hb3 hb23 hx3 HX2 HB2 HR2 HRB HBD HP1
  go_wp2_with fail
  refine (HP2.out _ _ _ (by omega) HR3.out).mono ?_
  rintro e W4 ⟨v4, rfl, ho4, hb4⟩
  rw [← E2.out] at ho4
  have HB4 := hide (HB3.out.trans (hb4.mono HB3.out.size))
  have HR4 := hide ho4.rd
  have HRW4 := hide (HRW3.out.below hb4 (Nat.le_refl _))
  clear ho4 hb4 HX3 HB3 HR3 HRW3 HP2 q0
  go_wp2_with fail
  refine (HP3.out _ _ _ (by omega) HR4.out).mono ?_
  rintro e W5 ⟨v5, rfl, ho5, hb5⟩
  rw [← E3.out] at ho5
  have HO5 := hide ho5
  have HB5 := hide hb5
  have HRW5 := hide (HRW4.out.below hb5 (Nat.le_refl _))
  clear ho5 hb5 HR4 HP3
  go_wp2_with fail
  refine (HSM.out _ _ HRW5.out).mono ?_
  rintro e W6 ⟨rfl, hw6⟩
  rw [hw6]
  clear hw6 W6 HSM HRW5
  go_wp2_with fail
  refine (HFX.out _).mono ?_
  rintro e W6 ⟨v6, rfl, ho6, hb6⟩
  have HB6 := hide (HB5.out.trans (hb6.mono HB5.out.size))
  have HR6 := hide ho6.rd
  have HO6 := hide (HO5.out.below hb6 (Nat.le_refl _))
  have HSZ := hide HB6.out.size
  clear ho6 hb6 HB5 HO5 HFX
  go_wp2_with (at_builtin; refine wpList_append_rd _ rfl _ _ rfl W4.heap.size _ A3 rfl HO6.out _ F4 rfl HR6.out (by have := LF4.out; omega) HSZ.out ?_)
  intro v7 W7 ho7 hb7
  rw [← HMN.out] at ho7
  have hb47 : Below W4.heap.size W4 W7 := HB6.out.trans hb7
  have HR7 := hide ho7.rd
  have HRW7 := hide (HRW4.out.below hb47 (Nat.le_refl _))
  have HB7 := hide (HB4.out.trans (hb47.mono HB4.out.size))
  have hef : encF MN = (frameOf MN, 0) := by
    unfold encF
    rw [if_pos (by omega)]
  have HFM := hide (fun v W h => HFE.out v MN W h)
  rw [hef] at HFM
  clear ho7 hb7 hb47 HB6 HR6 HO6 HSZ HRW4 HB4 hef
  go_wp2_with fail
  refine (HFM.out _ _ HR7.out).mono ?_
  rintro e W8 ⟨v8, rfl, ho8, hb8⟩
  have HO8 := hide ho8
  have HB8 := hide hb8
  clear ho8 hb8 HR7 HFM
  have HIN0 : Hid (EN = frameOf MN ++ framesOf (pieces (WH.drop 0))) := hide (by rw [List.drop_zero]; exact HEN.out)
  clear HEN HMN E2 E3
  have hwc := hwl
  go_wp2
  go_loopw [7, 9] (fun vo vi wr => ∃ (i : Nat) (P : List UInt8), vi = .int .i64 (i : Int) ∧ i ≤ 6000 ∧ Hid (EN = P ++ framesOf (pieces (WH.drop i))) ∧ Hid (Own wr W7.heap.size vo P) ∧ Hid (Below W7.heap.size W7 wr)) (fun _ vi _ => 6000 - (intOf vi).toNat)
  case atStart => exact ⟨0, frameOf MN, rfl, by omega, HIN0, HO8, HB8⟩
  case round =>
    clear HIN0 HO8 HB8
    obtain ⟨i, P, rfl, hi6, hE, hO, hB⟩ := hrel
    by_cases hlt : i < WH.length
    case neg =>
      have hnl : ¬ (i : Int) < (WH.length : Int) := by omega
      have hE2 := hE.out
      rw [List.drop_eq_nil_of_le (by omega), pieces_nil] at hE2
      have hE3 : EN = P := by simpa [framesOf] using hE2
      rw [← hE3] at hO
      have HBF := hide (HB7.out.trans (hB.out.mono HB7.out.size))
      have HOF := hide (hO.out.mono HB7.out.size)
      clear hE2 hE3 hE hO hB
      go_wp2
      go_ret2
      exact ⟨_, rfl, HOF.out, HBF.out⟩
    have hqi : (i : Int) < (WH.length : Int) := by omega
    have hne : WH.drop i ≠ [] := fun e => by
      have := congrArg List.length e
      rw [List.length_drop, List.length_nil] at this
      omega
    have HE2 : Hid (EN = P ++ (frameOf ((WH.drop i).take 64) ++ framesOf (pieces (WH.drop (i + 64))))) := hide (by
      have h := hE.out
      rw [pieces_cons hne, framesOf_cons, List.drop_drop] at h
      exact h)
    have hpl : P.length + (frameOf ((WH.drop i).take 64)).length ≤ 80000 := by
      have h1 := HEL.out
      rw [HE2.out] at h1
      simp only [List.length_append] at h1
      omega
    have hxl : ((WH.drop i).take 64).length ≤ 64 := by rw [List.length_take]; omega
    have HFX2 := hide (fun v W h => HFE.out v ((WH.drop i).take 64) W h)
    have hef : encF ((WH.drop i).take 64) = (frameOf ((WH.drop i).take 64), 0) := by
      unfold encF
      rw [if_pos (by omega)]
    rw [hef] at HFX2
    have HRW := hide (HRW7.out.below hB.out (Nat.le_refl _))
    have HSZ := hide hB.out.size
    have HNX : Hid (EN = (P ++ frameOf ((WH.drop i).take 64)) ++ framesOf (pieces (WH.drop (i + 64)))) := hide (by rw [List.append_assoc]; exact HE2.out)
    clear hne hef hxl hE HE2
    have HCUT : Hid (∀ E : Nat, E ≤ WH.length → i ≤ E → (WH.drop i).take (E - i) = (WH.drop i).take 64 → ∃ v', (Instr.sliceAt 30 (.slice a2 WH.length n2) (some (.int .i64 (i : Int))) (some (.int .i64 (E : Int))) none).run Try.prog wr = .ok v' wr ∧ Rd wr v' ((WH.drop i).take 64)) := hide (fun E h1 h2 h3 => by
      have h := run_cut_lh wr _ WH HRW.out .i64 .i64 (i : Int) (E : Int) (by omega) (by omega) (by omega)
      rw [Int.toNat_natCast, Int.toNat_natCast, h3] at h
      exact h)
    by_cases hend : WH.length < i + 64
    · have hgt : (WH.length : Int) < (i : Int) + 64 := by omega
      have HC := hide (HCUT.out WH.length (Nat.le_refl _) (by omega) (by
        rw [List.take_of_length_le (by rw [List.length_drop]; exact Nat.le_refl _), List.take_of_length_le (by rw [List.length_drop]; omega)]))
      clear HCUT hend
      generalize (WH.drop i).take 64 = X at *
      generalize frameOf X = FX at *
      go_wp2_with (refine wpList_cut _ rfl _ _ _ _ rfl _ HC.out ?_)
      intro v9 hr9
      have HR9 := hide hr9
      clear hr9 HC
      go_wp2_with fail
      refine (HFX2.out _ _ HR9.out).mono ?_
      rintro e W10 ⟨v10, rfl, ho10, hb10⟩
      obtain ⟨a10, n10, e10, -⟩ := id ho10.rd
      subst e10
      have HR10 := hide ho10.rd
      have HO10 := hide (hO.out.below hb10 (Nat.le_refl _))
      have HB10 := hide (hB.out.trans (hb10.mono HSZ.out))
      have HS10 := hide HB10.out.size
      clear ho10 hb10 HR9 hO hB
      go_wp2_with (at_builtin; refine wpList_append_rd _ rfl _ _ rfl W7.heap.size _ P rfl HO10.out _ FX rfl HR10.out (by omega) HS10.out ?_)
      intro v11 W11 ho11 hb11
      have HO11 := hide ho11
      have HB11 := hide (HB10.out.trans hb11)
      clear ho11 hb11 HO10 HB10 HR10
      go_wp2
      go_roundw
      case rel => exact ⟨i + 64, P ++ FX, by go_num, by omega, HNX, HO11, HB11⟩
      case measure => simp [intOf]; omega
    · have hgt : ¬ (WH.length : Int) < (i : Int) + 64 := by omega
      have HC := hide (HCUT.out (i + 64) (by omega) (by omega) (by rw [Nat.add_sub_cancel_left]))
      have hce : ((i + 64 : Nat) : Int) = (i : Int) + 64 := by omega
      rw [hce] at HC
      clear HCUT hend hce
      generalize (WH.drop i).take 64 = X at *
      generalize frameOf X = FX at *
      go_wp2_with (refine wpList_cut _ rfl _ _ _ _ rfl _ HC.out ?_)
      intro v9 hr9
      have HR9 := hide hr9
      clear hr9 HC
      go_wp2_with fail
      refine (HFX2.out _ _ HR9.out).mono ?_
      rintro e W10 ⟨v10, rfl, ho10, hb10⟩
      obtain ⟨a10, n10, e10, -⟩ := id ho10.rd
      subst e10
      have HR10 := hide ho10.rd
      have HO10 := hide (hO.out.below hb10 (Nat.le_refl _))
      have HB10 := hide (hB.out.trans (hb10.mono HSZ.out))
      have HS10 := hide HB10.out.size
      clear ho10 hb10 HR9 hO hB
      go_wp2_with (at_builtin; refine wpList_append_rd _ rfl _ _ rfl W7.heap.size _ P rfl HO10.out _ FX rfl HR10.out (by omega) HS10.out ?_)
      intro v11 W11 ho11 hb11
      have HO11 := hide ho11
      have HB11 := hide (HB10.out.trans hb11)
      clear ho11 hb11 HO10 HB10 HR10
      go_wp2
      go_roundw
      case rel => exact ⟨i + 64, P ++ FX, by go_num, by omega, HNX, HO11, HB11⟩
      case measure => simp [intOf]; omega

end Go.Proofs.Ytanmjihiceibbaa
