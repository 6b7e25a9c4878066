/- Contracts of frame.Encode, Size, lengthIsCut, and of bytes.Clone. -/
import Derived.Test.YtgpdbboieokldaaGreatRef03Same
import Derived.Test.YtgpdbboieokldaaGreatCrcOwn
import Derived.Lib.LazyBuf
namespace Go.Proofs.YtgpdbboieokldaaGreat
open Go.RowKit

set_option maxRecDepth 100000 in
theorem size_any (n : Int) (w : World) (h0 : -9223372036854775808 ≤ n) (h1 : n ≤ 9223372036854775807) :
    Calls Tryz.prog 42 #[.int .i64 n] w fun e w' => e = .returned (.int .i64 (sizeF n : Nat)) ∧ Below w.heap.size w w' := by
  by_cases h : 0 ≤ n ∧ n ≤ 1048576
  · obtain ⟨h2, h3⟩ := h
    have HE : Hid (sizeF n = (Lib.uvarint n.toNat).length + 4 + n.toNat) := if_pos ⟨h2, h3⟩
    have HP : Hid (∀ w, Calls Tryz.prog 43 #[.slice none 0 0, .int .i64 n] w fun e w' => ∃ ao cap, e = .returned (.slice ao (Lib.uvarint n.toNat).length cap) ∧ Below w.heap.size w w') := by
      intro w
      refine (put_any (.slice none 0 0) [] n w (Rd.nil _) (by simp)).mono ?_
      have e : putOf [] n = Lib.uvarint n.toNat := if_pos ⟨by omega, by omega⟩
      rintro e' w' ⟨v', rfl, ho, hb⟩
      rw [e] at ho
      obtain ⟨ao, cap, rfl, _⟩ := ho.rd
      exact ⟨ao, cap, rfl, hb⟩
    have hl3 : (Lib.uvarint n.toNat).length ≤ 3 := len3 (by omega)
    generalize (Lib.uvarint n.toNat).length = q at *
    go_enter Tryz.func42, Tryz.ntmps42
    go_wp2_with fail
    refine (HP.out _).mono ?_
    rintro e w1 ⟨ao, cap, rfl, hb1⟩
    have HB1 := hide hb1
    clear hb1 HP
    go_wp2
    go_ret
    refine ⟨ret_int ?_, HB1.out⟩
    rw [HE.out]
    omega
  · have HE : Hid (sizeF n = 0) := if_neg h
    by_cases h2 : n < 0
    · clear h
      go_enter Tryz.func42, Tryz.ntmps42
      go_wp2
      go_ret
      exact ⟨ret_int (by rw [HE.out]; rfl), Below.refl _ _⟩
    · have h3 : 1048576 < n := by omega
      clear h
      go_enter Tryz.func42, Tryz.ntmps42
      go_wp2
      go_ret
      exact ⟨ret_int (by rw [HE.out]; rfl), Below.refl _ _⟩

set_option maxRecDepth 100000 in
theorem cut_any (v : Value) (l : List UInt8) (w : World) (hr : Rd w v l) :
    Calls Tryz.prog 56 #[v] w fun e w' => e = .returned (.bool (decide (isOpen l))) ∧ w' = w := by
  obtain ⟨ao, cap, rfl, hlc, hcm, hn0, hao⟩ := hr
  clear hn0
  have hml : (l.length : Int) ≤ 9223372036854775807 := by unfold maxLen at hcm; omega
  by_cases h10 : (l.length : Int) < 10
  · go_enter Tryz.func56, Tryz.ntmps56
    go_wp2
    go_loop [10] (fun i => ∃ k : Nat, i = .int .i64 k ∧ k ≤ l.length ∧ Hid (∀ j, j < k → 128 ≤ (l.getD j 0).toNat)) (fun i => l.length - (intOf i).toNat)
    case atStart => exact ⟨0, rfl, by omega, fun j hj => by omega⟩
    case round =>
      obtain ⟨k, rfl, hkl, hall⟩ := hrel
      by_cases hlt : k < l.length
      · rcases hao with hao | ⟨b, off, rfl, hc⟩
        · subst hao; simp at hlt
        · have hck := hc k hlt
          clear hc
          obtain ⟨y, hy⟩ : ∃ y, y = (l.getD k 0).toNat := ⟨_, rfl⟩
          rw [← hy] at hck
          have HY : Hid (y = (l.getD k 0).toNat) := hy
          clear hy
          by_cases hyb : (y : Int) < 128
          · go_wp2
            go_ret
            refine ⟨ret_bool ?_, rfl⟩
            symm
            refine decide_eq_false fun ho => ?_
            have := ho.2 k hlt
            rw [← HY.out] at this
            omega
          · go_wp2
            go_round
            case rel =>
              refine ⟨k + 1, by go_num, by omega, fun j hj => ?_⟩
              by_cases e : j = k
              · rw [e, ← HY.out]; omega
              · exact hall.out j (by omega)
            case measure => simp [intOf]; omega
      · go_wp2
        go_ret
        refine ⟨ret_bool ?_, rfl⟩
        symm
        exact decide_eq_true ⟨by omega, fun j hj => hall.out j (by omega)⟩
  · go_enter Tryz.func56, Tryz.ntmps56
    go_wp2
    go_ret
    refine ⟨ret_bool ?_, rfl⟩
    symm
    exact decide_eq_false fun ho => by have := ho.1; omega

/-- A row of no bytes, made. -/
theorem Own.made0 (w : World) (B : Nat) (hB : B ≤ w.heap.size) : Own (w.alloc (.cells #[] 5)) B (.slice (some ⟨w.heap.size, 0, none⟩) 0 0) [] :=
  ⟨rfl, .inr ⟨w.heap.size, 0, #[], rfl, hB, heap_alloc_new w _, Nat.le_refl _, Nat.zero_le _, rfl, rfl⟩⟩

set_option maxRecDepth 100000 in
theorem clone_any (v : Value) (l : List UInt8) (w : World) (hr : Rd w v l) (hlim : l.length ≤ 70368744177664) :
    Calls Tryz.prog 59 #[v] w fun e w' => ∃ v', e = .returned v' ∧ Own w' w.heap.size v' l ∧ Below w.heap.size w w' := by
  have HR := hide hr
  obtain ⟨ao, cap, rfl, hlc, hcm, hn0, hao⟩ := hr
  cases ao with
  | none =>
    have hc := hn0 rfl
    have hl : l = [] := List.eq_nil_of_length_eq_zero (by omega)
    subst hl
    subst hc
    clear hao hn0
    have hnil : ∀ w, (binOp .eql 26 (.slice none 0 0) (.slice none 0 0)).run Tryz.prog w = .ok (.bool true) w := fun w => run_eql_slice_nil w _ _ none 0 0 Tryz.underlying26
    go_enter Tryz.func59, Tryz.ntmps59
    go_wp2
    go_ret
    exact ⟨_, rfl, Own.nil _ _, Below.refl _ _⟩
  | some ad =>
    clear hao hn0 hlc hcm
    have hnil : ∀ w, (binOp .eql 26 (.slice (some ad) l.length cap) (.slice none 0 0)).run Tryz.prog w = .ok (.bool false) w := fun w => run_eql_slice_nil w _ _ (some ad) _ _ Tryz.underlying26
    have HO := hide (Own.made0 w w.heap.size (Nat.le_refl _))
    have HB := hide ((Below.refl w.heap.size w).alloc (Nat.le_refl _) (.cells #[] 5))
    have HR1 := hide (HR.out.below HB.out (Nat.le_refl _))
    have HS : Hid (w.heap.size ≤ (w.alloc (.cells #[] 5)).heap.size) := HB.out.size
    go_enter Tryz.func59, Tryz.ntmps59
    go_wp2_with (at_builtin; refine wpList_append_rd _ rfl _ _ rfl w.heap.size _ [] rfl HO.out _ l rfl HR1.out (by simp; omega) HS.out ?_)
    intro v4 w4 ho4 hb4
    have HO4 := hide ho4
    have HB4 := hide (HB.out.trans hb4)
    clear ho4 hb4
    go_wp2
    go_ret
    exact ⟨v4, rfl, HO4.out, HB4.out⟩

set_option maxRecDepth 100000 in
set_option maxHeartbeats 1000000 in
theorem encode_any (v : Value) (l : List UInt8) (w : World) (hr : Rd w v l) :
    Calls Tryz.prog 16 #[v] w fun e w' => ∃ v', e = .returned (.tuple #[v', .int .i64 ((encF l).2 : Nat)]) ∧ Own w' w.heap.size v' (encF l).1 ∧ Below w.heap.size w w' := by
  have HR := hide hr
  obtain ⟨i0, hi, hz0, hz1, hz2⟩ := info_parts info8
  obtain ⟨ao, cap, rfl, hlc, hcm, hn0, hao⟩ := hr
  clear hn0 hao
  have hml : (l.length : Int) ≤ 9223372036854775807 := by unfold maxLen at hcm; omega
  by_cases h : (l.length : Int) ≤ 1048576
  · have HE : Hid (encF l = (headOf l ++ Lib.leBytes 4 (crcMore 0 (headOf l)), 0)) := if_pos (by omega)
    have HP : Hid (∀ w, Calls Tryz.prog 43 #[.slice none 0 0, .int .i64 (l.length : Int)] w fun e w' => ∃ v', e = .returned v' ∧ Own w' w.heap.size v' (Lib.uvarint l.length) ∧ Below w.heap.size w w') := by
      intro w
      have := put_any (.slice none 0 0) [] (l.length : Int) w (Rd.nil _) (by simp)
      have e : putOf [] (l.length : Int) = Lib.uvarint l.length := if_pos ⟨by omega, by omega⟩
      rwa [e] at this
    have HZ : Hid (∀ w, Calls Tryz.prog 42 #[.int .i64 (l.length : Int)] w fun e w' => e = .returned (.int .i64 (sizeF (l.length : Int) : Nat)) ∧ Below w.heap.size w w') := fun w => size_any _ w (by omega) (by omega)
    have HS : Hid (∀ v w, Rd w v (headOf l) → Calls Tryz.prog 45 #[v] w fun e w' => e = .returned (.int .u32 (crcMore 0 (headOf l) : Nat)) ∧ Below w.heap.size w w') := fun v w h => sum_any v _ w h
    have HF : Hid (∀ w, Calls Tryz.prog 44 #[.int .u32 (crcMore 0 (headOf l) : Nat)] w fun e w' => ∃ v', e = .returned v' ∧ Own w' w.heap.size v' (Lib.leBytes 4 (crcMore 0 (headOf l))) ∧ Below w.heap.size w w') := fun w => fixed32_any _ w (crc_lt _)
    have HH : Hid (headOf l = Lib.uvarint l.length ++ l) := rfl
    have HL4 : Hid ((Lib.leBytes 4 (crcMore 0 (headOf l))).length = 4) := Lib.leBytes_length 4 _
    have HL3 : Hid ((Lib.uvarint l.length).length ≤ 3) := len3 (by omega)
    have hsz : sizeF (l.length : Int) ≤ 2000000 := by
      have e : sizeF (l.length : Int) = (Lib.uvarint l.length).length + 4 + l.length := if_pos ⟨by omega, h⟩
      have := HL3.out
      rw [e]
      omega
    generalize sizeF (l.length : Int) = z at *
    generalize crcMore 0 (headOf l) = s at *
    obtain ⟨S, hS⟩ : ∃ S : Int, S = (s : Int) := ⟨_, rfl⟩
    rw [← hS] at HF HS
    clear hS
    generalize Lib.leBytes 4 s = q at *
    generalize Lib.uvarint l.length = u at *
    generalize headOf l = hd at *
    have hh := HH.out
    subst hh
    clear HH
    go_enter Tryz.func16, Tryz.ntmps16
    go_wp2_with fail
    refine (HZ.out _).mono ?_
    rintro e w1 ⟨rfl, hb1⟩
    have HB1 := hide hb1
    have hs1 := hb1.size
    clear hb1 HZ
    go_wp2_with (at_make; refine wpList_make_own _ rfl _ _ 26 rfl w.heap.size 5 i0 (.int .u8 0) 1 Tryz.underlying26 hi hz0 hz1 _ _ _ z rfl rfl (by omega) (by rw [hz2]; omega) (by unfold maxLen; omega) hs1 ?_)
    intro w2 hown hgrow
    have HO2 : Hid (Own w2 w.heap.size (.slice (some ⟨w1.heap.size, 0, none⟩) 0 z) []) := hown
    have HB2 := hide (HB1.out.grown hgrow hs1 (fun k hk => by cases hk))
    have hs2 := HB2.out.size
    clear hown hgrow
    go_wp2_with fail
    refine (HP.out _).mono ?_
    rintro e w3 ⟨v3, rfl, ho3, hb3⟩
    have HB3 := hide (HB2.out.trans (hb3.mono hs2))
    have HR3 := hide ho3.rd
    have HO3 := hide (HO2.out.below hb3 (Nat.le_refl _))
    have hs3 := HB3.out.size
    clear ho3 hb3 HP
    go_wp2_with (at_builtin; refine wpList_append_rd _ rfl _ _ rfl w.heap.size _ [] rfl HO3.out _ u rfl HR3.out (by have := HL3.out; simp; omega) hs3 ?_)
    intro v4 w4 ho4 hb4
    have HB4 := hide (HB3.out.trans hb4)
    have HO4 : Hid (Own w4 w.heap.size v4 u) := ho4
    have hs4 := HB4.out.size
    clear ho4 hb4
    go_wp2_with (at_builtin; refine wpList_append_rd _ rfl _ _ rfl w.heap.size _ u rfl HO4.out _ l rfl (HR.out.below HB4.out (Nat.le_refl _)) (by have := HL3.out; omega) hs4 ?_)
    intro v5 w5 ho5 hb5
    have HB5 := hide (HB4.out.trans hb5)
    have HO5 : Hid (Own w5 w.heap.size v5 (u ++ l)) := ho5
    have hs5 := HB5.out.size
    clear ho5 hb5
    go_wp2_with fail
    refine (HS.out _ _ HO5.out.rd).mono ?_
    rintro e w6 ⟨rfl, hb6⟩
    have HB6 := hide (HB5.out.trans (hb6.mono hs5))
    have HO6 := hide (HO5.out.below hb6 (Nat.le_refl _))
    have hs6 := HB6.out.size
    clear hb6 HS
    go_wp2_with fail
    refine (HF.out _).mono ?_
    rintro e w7 ⟨v7, rfl, ho7, hb7⟩
    have HB7 := hide (HB6.out.trans (hb7.mono hs6))
    have HR7 := hide ho7.rd
    have HO7 := hide (HO6.out.below hb7 (Nat.le_refl _))
    have hs7 := HB7.out.size
    clear ho7 hb7 HF
    go_wp2_with (at_builtin; refine wpList_append_rd _ rfl _ _ rfl w.heap.size _ (u ++ l) rfl HO7.out _ q rfl HR7.out (by have := HL3.out; have := HL4.out; simp; omega) hs7 ?_)
    intro v8 w8 ho8 hb8
    have HB8 := hide (HB7.out.trans hb8)
    have HO8 := hide ho8
    clear ho8 hb8
    go_wp2
    go_ret2
    exact ⟨v8, by rw [HE.out]; rfl, by rw [HE.out]; show Own _ _ _ (u ++ l ++ q); rw [List.append_assoc]; exact HO8.out, HB8.out⟩
  · have HE : Hid (encF l = ([], 5)) := if_neg (by omega)
    go_enter Tryz.func16, Tryz.ntmps16
    go_wp2
    go_ret2
    exact ⟨_, by rw [HE.out]; rfl, by rw [HE.out]; exact Own.nil _ _, Below.refl _ _⟩

end Go.Proofs.YtgpdbboieokldaaGreat
