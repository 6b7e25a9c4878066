/- Contract of ferrymanref05: EncodeState. -/
import Derived.Test.YtanmjihiceibbaaPack4
namespace Go.Proofs.Ytanmjihiceibbaa
open Go.RowKit

/-- What is encoded: the bytes, or none and ErrArg. -/
def Encoded (w : World) (s : St) (e : Ending) (w' : World) : Prop :=
  ∃ v', e = .returned (.tuple #[v', .int .i64 (if MayS s then 0 else 1)]) ∧ Own w' w.heap.size v' (if MayS s then encS s else []) ∧ Below w.heap.size w w'

theorem numsL_app : ∀ (A B : List Int), numsL (A ++ B) = numsL A ++ numsL B
  | [], _ => rfl
  | x :: r, B => by rw [List.cons_append, numsL, numsL_app r B, numsL, List.append_assoc]

theorem numsL_length : ∀ (L : List Int), (∀ x ∈ L, I64 x) → (numsL L).length ≤ 10 * L.length
  | [], _ => by simp [numsL]
  | x :: r, h => by
    have ih := numsL_length r (fun y hy => h y (by simp [hy]))
    have hx := uv10 (h x (by simp))
    rw [numsL, List.length_append, List.length_cons]
    omega

theorem numsL_snoc (L : List Int) (k : Nat) (hk : k < L.length) : numsL (L.take (k + 1)) = numsL (L.take k) ++ Lib.uvarint (Lib.zigzag (L.getD k 0)) := by
  have e : L.take (k + 1) = L.take k ++ [L.getD k 0] := by
    rw [List.take_add_one]
    simp [List.getD, hk]
  rw [e, numsL_app]
  simp [numsL]

/-- The three numbers ahead. -/
def headSt (s : St) : List UInt8 := (Lib.uvarint s.kind.toNat ++ Lib.uvarint (sealN s)) ++ Lib.uvarint s.L.length

theorem encS_head (s : St) : encS s = headSt s ++ numsL s.L := by
  unfold encS headSt
  simp [List.append_assoc]

theorem seal_int (shut : Bool) (g : Int) (h : 0 ≤ g) : (if shut = true then g + 1 else 0) = ((sealN ⟨0, [], shut, g⟩ : Nat) : Int) := by
  unfold sealN
  cases shut
  · rfl
  · simp
    omega

theorem sealN_any (k : Int) (l : List Int) (shut : Bool) (g : Int) : sealN ⟨k, l, shut, g⟩ = sealN ⟨0, [], shut, g⟩ := rfl

set_option maxRecDepth 100000 in
set_option maxHeartbeats 1000000 in
theorem refEncodeState_any (v : Value) (s : St) (w : World) (hs : StV w v s) :
    Calls Try.prog 60 #[v] w fun e w' => Encoded w s e w' := by
  obtain ⟨vl, rfl, hr, hki, hei⟩ := hs
  obtain ⟨kind, l, shut, g⟩ := s
  simp only at hr hki hei ⊢
  have HMAY : Hid (∀ W, Below w.heap.size w W → Calls Try.prog 33 #[.agg #[.int .i64 kind, vl, .bool shut, .int .i64 g]] W fun e w' => e = .returned (.bool (decide (MayS ⟨kind, l, shut, g⟩))) ∧ Below W.heap.size W w') := fun W h => refMay_any _ ⟨kind, l, shut, g⟩ W ⟨vl, rfl, hr.below h (Nat.le_refl _), hki, hei⟩
  have HP := hide (fun v l n w h hl => refPut_any v l n w h hl)
  have HS := hide (fun v l n w h hl (hi : I64 n) => refPutSigned_any v l n w h hl hi.1 hi.2)
  have HB0 : Hid (∀ X, Below w.heap.size w (w.alloc X)) := fun X => (Below.refl _ _).alloc (Nat.le_refl _) X
  have HRD := hide hr
  obtain ⟨ao, cap, rfl, -, -, -, hi, hao⟩ := hr
  have HAO := hide hao
  clear hao hki hei
  unfold Encoded
  by_cases hm : MayS ⟨kind, l, shut, g⟩
  · simp only [if_pos hm]
    have HT := hide (decide_eq_true hm)
    have hk0 : 0 ≤ kind := hm.2.2.2.1
    have hk6 : kind < 6 := hm.2.2.2.2.1
    have hg0 : 0 ≤ g := hm.1
    have hg2 : g ≤ 2 := hm.2.1
    obtain ⟨_, hlen, _⟩ := may_small hm
    simp only at hlen
    have hsl := sealN_le hm
    rw [sealN_any] at hsl
    have HI := hide hi
    have u1 := uv10' (n := kind.toNat) (by omega)
    have u2 := uv10' (n := sealN ⟨0, [], shut, g⟩) (by omega)
    have u3 := uv10' (n := l.length) (by omega)
    have HP1 : Hid (putOf [] kind = Lib.uvarint kind.toNat) := putOf_small hk0 (by omega)
    have HP2 : Hid (∀ A, putOf A ((sealN ⟨0, [], shut, g⟩ : Nat) : Int) = A ++ Lib.uvarint (sealN ⟨0, [], shut, g⟩)) := fun A => putOf_small (by omega) (by omega)
    have HP3 : Hid (∀ A, putOf A (l.length : Int) = A ++ Lib.uvarint l.length) := fun A => putOf_small (by omega) (by omega)
    have HES : Hid (encS ⟨kind, l, shut, g⟩ = ((Lib.uvarint kind.toNat ++ Lib.uvarint (sealN ⟨0, [], shut, g⟩)) ++ Lib.uvarint l.length) ++ numsL l) := encS_head ⟨kind, l, shut, g⟩
    have HNL : Hid (∀ k, (numsL (l.take k)).length ≤ 10 * 128) := fun k => by
      have h1 := numsL_length (l.take k) (fun x hx => hi x (List.mem_of_mem_take hx))
      have h2 : (l.take k).length ≤ l.length := by simp; omega
      omega
    have HSI := hide (seal_int shut g hg0)
    rw [HES.out]
    clear hm hi HES
    generalize sealN ⟨0, [], shut, g⟩ = m at *
    generalize Lib.uvarint kind.toNat = A at *
    generalize hAB : A ++ Lib.uvarint m = AB at *
    generalize hABC : AB ++ Lib.uvarint l.length = H at *
    have hHl : H.length ≤ 30 := by rw [← hABC, ← hAB, List.length_append, List.length_append]; omega
    have hABl : AB.length ≤ 20 := by rw [← hAB, List.length_append]; omega
    have HAB := hide hAB
    have HH := hide hABC
    clear hAB hABC u2 u3
    go_enter Try.func60, Try.ntmps60
    go_wp2_with fail
    refine (HMAY.out _ (HB0.out _)).mono ?_
    rintro e W1 ⟨rfl, hb1⟩
    rw [HT.out]
    have hx1 : Bx W1 w.heap.size _ := (hb1.block w.heap.size (by simp)).trans (heap_alloc_new w _)
    have HX1 := hide hx1
    have HB1 := hide ((HB0.out _).trans (hb1.mono (HB0.out _).size))
    have p0 := (hx1.cell 0).1
    clear hb1 hx1
    go_wp2_with fail
    refine (HP.out _ _ _ _ (Rd.nil _) (by simp)).mono ?_
    rintro e W2 ⟨v2, rfl, ho2, hb2⟩
    rw [HP1.out] at ho2
    have HX2 := hide (HX1.out.below hb2 (Nat.le_refl _))
    have HB2 := hide (HB1.out.trans (hb2.mono HB1.out.size))
    have HO2 := hide ho2
    have q2 := (HX2.out.cell 2).1
    have q3 := (HX2.out.cell 3).1
    clear hb2 ho2 HX1 HB1 p0
    have HPM : Hid (∀ v2 W, Rd W v2 A → Calls Try.prog 27 #[v2, .int .i64 (if shut = true then g + 1 else 0)] W fun e w' => ∃ v', e = .returned v' ∧ Own w' W.heap.size v' AB ∧ Below W.heap.size W w') := fun v2 W h => by
      have h2 := HP.out v2 A (m : Int) W h (by omega)
      rw [HP2.out, HAB.out] at h2
      rw [HSI.out]
      exact h2
    cases shut
    · rw [if_neg (by decide)] at HPM
      clear HP1 HP2 HSI
      go_wp2_with fail
      refine (HPM.out _ _ HO2.out.rd).mono ?_
      rintro e W3 ⟨v3, rfl, ho3, hb3⟩
      have HX3 := hide (HX2.out.below hb3 (Nat.le_refl _))
      have HB3 := hide (HB2.out.trans (hb3.mono HB2.out.size))
      have HO3 := hide ho3
      have p1 := (HX3.out.cell 1).1
      clear hb3 ho3 HX2 HB2 HO2 q2 q3 HPM
      go_wp2_with fail
      refine (HP.out _ _ _ _ HO3.out.rd (by omega)).mono ?_
      rintro e W4 ⟨v4, rfl, ho4, hb4⟩
      rw [HP3.out, HH.out] at ho4
      have HX4 := hide (HX3.out.below hb4 (Nat.le_refl _))
      have HB4 := hide (HB3.out.trans (hb4.mono HB3.out.size))
      have HO4 := hide (ho4.mono HB3.out.size)
      clear hb4 ho4 HX3 HB3 HO3 p1 HP HP3
      go_wp2
      go_loopw [5, 7] (fun vo i wr => ∃ k : Nat, i = .int .i64 k ∧ k ≤ l.length ∧ Hid (Own wr w.heap.size vo (H ++ numsL (l.take k))) ∧ Hid (Bx wr w.heap.size #[.int .i64 kind, .slice ao l.length cap, .bool false, .int .i64 g]) ∧ Hid (Below w.heap.size w wr)) (fun _ i _ => l.length - (intOf i).toNat)
      case atStart => exact ⟨0, rfl, Nat.zero_le _, by simpa [numsL] using HO4, HX4, HB4⟩
      case round =>
        obtain ⟨k, rfl, hk, hown, hbx, hbel⟩ := hrel
        have t1 := (hbx.out.cell 1).1
        by_cases hlt : k < l.length
        · rcases HAO.out with h0 | ⟨c, off, rfl, hc⟩
          · rw [h0] at hlt; simp at hlt
          have hck : wr.cell? ⟨c, off + k, none⟩ = some (.int .i64 (l.getD k 0)) := (hbel.out.cell (World.block_lt_of_cell? w ⟨c, off + k, none⟩ (hc k hlt))).trans (hc k hlt)
          have HIK : Hid (I64 (l.getD k 0)) := getD_i64 HI.out k
          have HLK : Hid ((H ++ numsL (l.take k)).length ≤ 100000) := by
            refine hide ?_
            have := HNL.out k
            rw [List.length_append]
            omega
          have HSN : Hid ((H ++ numsL (l.take k)) ++ Lib.uvarint (Lib.zigzag (l.getD k 0)) = H ++ numsL (l.take (k + 1))) := by
            refine hide ?_
            rw [numsL_snoc l k hlt, List.append_assoc]
          clear hc
          generalize l.getD k 0 = y at *
          generalize H ++ numsL (l.take k) = P at *
          go_wp2_with fail
          refine (HS.out _ _ _ _ hown.out.rd HLK.out HIK.out).mono ?_
          rintro e W5 ⟨v5, rfl, ho5, hb5⟩
          rw [HSN.out] at ho5
          have HX5 := hide (hbx.out.below hb5 (Nat.le_refl _))
          have HO5 := hide (ho5.mono hbel.out.size)
          have HB5 := hide (hbel.out.trans (hb5.mono hbel.out.size))
          clear hb5 ho5
          go_wp2
          go_roundw
          case rel => exact ⟨k + 1, by go_num, by omega, HO5, HX5, HB5⟩
          case measure => simp [intOf]; omega
        · have hke : l.take k = l := List.take_of_length_le (by omega)
          rw [hke] at hown
          clear hke
          go_wp2
          go_ret2
          exact ⟨_, rfl, hown.out, hbel.out⟩
    · rw [if_pos rfl] at HPM
      clear HP1 HP2 HSI
      go_wp2_with fail
      refine (HPM.out _ _ HO2.out.rd).mono ?_
      rintro e W3 ⟨v3, rfl, ho3, hb3⟩
      have HX3 := hide (HX2.out.below hb3 (Nat.le_refl _))
      have HB3 := hide (HB2.out.trans (hb3.mono HB2.out.size))
      have HO3 := hide ho3
      have p1 := (HX3.out.cell 1).1
      clear hb3 ho3 HX2 HB2 HO2 q2 q3 HPM
      go_wp2_with fail
      refine (HP.out _ _ _ _ HO3.out.rd (by omega)).mono ?_
      rintro e W4 ⟨v4, rfl, ho4, hb4⟩
      rw [HP3.out, HH.out] at ho4
      have HX4 := hide (HX3.out.below hb4 (Nat.le_refl _))
      have HB4 := hide (HB3.out.trans (hb4.mono HB3.out.size))
      have HO4 := hide (ho4.mono HB3.out.size)
      clear hb4 ho4 HX3 HB3 HO3 p1 HP HP3
      go_wp2
      go_loopw [5, 7] (fun vo i wr => ∃ k : Nat, i = .int .i64 k ∧ k ≤ l.length ∧ Hid (Own wr w.heap.size vo (H ++ numsL (l.take k))) ∧ Hid (Bx wr w.heap.size #[.int .i64 kind, .slice ao l.length cap, .bool true, .int .i64 g]) ∧ Hid (Below w.heap.size w wr)) (fun _ i _ => l.length - (intOf i).toNat)
      case atStart => exact ⟨0, rfl, Nat.zero_le _, by simpa [numsL] using HO4, HX4, HB4⟩
      case round =>
        obtain ⟨k, rfl, hk, hown, hbx, hbel⟩ := hrel
        have t1 := (hbx.out.cell 1).1
        by_cases hlt : k < l.length
        · rcases HAO.out with h0 | ⟨c, off, rfl, hc⟩
          · rw [h0] at hlt; simp at hlt
          have hck : wr.cell? ⟨c, off + k, none⟩ = some (.int .i64 (l.getD k 0)) := (hbel.out.cell (World.block_lt_of_cell? w ⟨c, off + k, none⟩ (hc k hlt))).trans (hc k hlt)
          have HIK : Hid (I64 (l.getD k 0)) := getD_i64 HI.out k
          have HLK : Hid ((H ++ numsL (l.take k)).length ≤ 100000) := by
            refine hide ?_
            have := HNL.out k
            rw [List.length_append]
            omega
          have HSN : Hid ((H ++ numsL (l.take k)) ++ Lib.uvarint (Lib.zigzag (l.getD k 0)) = H ++ numsL (l.take (k + 1))) := by
            refine hide ?_
            rw [numsL_snoc l k hlt, List.append_assoc]
          clear hc
          generalize l.getD k 0 = y at *
          generalize H ++ numsL (l.take k) = P at *
          go_wp2_with fail
          refine (HS.out _ _ _ _ hown.out.rd HLK.out HIK.out).mono ?_
          rintro e W5 ⟨v5, rfl, ho5, hb5⟩
          rw [HSN.out] at ho5
          have HX5 := hide (hbx.out.below hb5 (Nat.le_refl _))
          have HO5 := hide (ho5.mono hbel.out.size)
          have HB5 := hide (hbel.out.trans (hb5.mono hbel.out.size))
          clear hb5 ho5
          go_wp2
          go_roundw
          case rel => exact ⟨k + 1, by go_num, by omega, HO5, HX5, HB5⟩
          case measure => simp [intOf]; omega
        · have hke : l.take k = l := List.take_of_length_le (by omega)
          rw [hke] at hown
          clear hke
          go_wp2
          go_ret2
          exact ⟨_, rfl, hown.out, hbel.out⟩
  · simp only [if_neg hm]
    have HT := hide (decide_eq_false hm)
    clear hm
    go_enter Try.func60, Try.ntmps60
    go_wp2_with fail
    refine (HMAY.out _ (HB0.out _)).mono ?_
    rintro e W1 ⟨rfl, hb1⟩
    rw [HT.out]
    have HB1 := hide ((HB0.out _).trans (hb1.mono (HB0.out _).size))
    clear hb1
    go_wp2
    go_ret2
    exact ⟨_, rfl, Own.nil _ _, HB1.out⟩

end Go.Proofs.Ytanmjihiceibbaa
