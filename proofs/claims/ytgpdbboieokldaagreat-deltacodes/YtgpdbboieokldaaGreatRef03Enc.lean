/- Contracts of ferrymanref03: Encode, Size, open, Decode. -/
import Derived.Test.YtgpdbboieokldaaGreatPack2
import Derived.Test.YtgpdbboieokldaaGreatFrameLists
import Derived.Test.YtgpdbboieokldaaGreatPack4
import Derived.Test.YtgpdbboieokldaaGreatPack5
import Derived.Test.YtgpdbboieokldaaGreatCrcRef
namespace Go.Proofs.YtgpdbboieokldaaGreat
open Go.RowKit

/-- What Encode answers. -/
def encF (l : List UInt8) : List UInt8 × Nat := if l.length ≤ 1048576 then (frameOf l, 0) else ([], 5)

theorem ret_tup2 {v : Value} {k : IntKind} {a b : Int} (h : a = b) : Ending.returned (.tuple #[v, .int k a]) = .returned (.tuple #[v, .int k b]) := by rw [h]

theorem ret_tup3 {v : Value} {k k' : IntKind} {a b c d : Int} (h : a = b) (h' : c = d) : Ending.returned (.tuple #[v, .int k a, .int k' c]) = .returned (.tuple #[v, .int k b, .int k' d]) := by rw [h, h']

set_option maxRecDepth 100000 in
set_option maxHeartbeats 1000000 in
theorem refEncode_any (v : Value) (l : List UInt8) (w : World) (hr : Rd w v l) :
    Calls Tryz.prog 21 #[v] w fun e w' => ∃ v', e = .returned (.tuple #[v', .int .i64 ((encF l).2 : Nat)]) ∧ Own w' w.heap.size v' (encF l).1 ∧ Below w.heap.size w w' := by
  have HR := hide hr
  obtain ⟨ao, cap, rfl, hlc, hcm, hn0, hao⟩ := hr
  clear hn0 hao
  have hml : (l.length : Int) ≤ 9223372036854775807 := by unfold maxLen at hcm; omega
  by_cases h : (l.length : Int) ≤ 1048576
  · have HE : Hid (encF l = (headOf l ++ Lib.leBytes 4 (crcMore 0 (headOf l)), 0)) := if_pos (by omega)
    have HP : Hid (∀ w, Calls Tryz.prog 19 #[.slice none 0 0, .int .i64 (l.length : Int)] w fun e w' => ∃ v', e = .returned v' ∧ Own w' w.heap.size v' (Lib.uvarint l.length) ∧ Below w.heap.size w w') := by
      intro w
      have := refPut_any (.slice none 0 0) [] (l.length : Int) w (Rd.nil _) (by simp)
      have e : putOf [] (l.length : Int) = Lib.uvarint l.length := if_pos ⟨by omega, by omega⟩
      rwa [e] at this
    have HS : Hid (∀ v w, Rd w v (Lib.uvarint l.length) → Calls Tryz.prog 54 #[v] w fun e w' => e = .returned (.int .u32 (crcMore 0 (Lib.uvarint l.length) : Nat)) ∧ w' = w) := fun v w h => refSum_any v _ w h
    have HM : Hid (∀ w1, Below w.heap.size w w1 → Calls Tryz.prog 53 #[.int .u32 (crcMore 0 (Lib.uvarint l.length) : Nat), .slice ao l.length cap] w1 fun e w' => e = .returned (.int .u32 (crcMore 0 (headOf l) : Nat)) ∧ w' = w1) := by
      intro w1 hb
      have e : crcMore 0 (headOf l) = crcMore (crcMore 0 (Lib.uvarint l.length)) l := crcMore_append 0 _ _
      rw [e]
      exact refMore_any _ _ l w1 (HR.out.below hb (Nat.le_refl _)) (crc_lt _)
    have HF : Hid (∀ w, Calls Tryz.prog 55 #[.int .u64 (crcMore 0 (headOf l) : Nat), .int .i64 4] w fun e w' => ∃ v', e = .returned v' ∧ Own w' w.heap.size v' (Lib.leBytes 4 (crcMore 0 (headOf l))) ∧ Below w.heap.size w w') := by
      intro w
      have hl := crc_lt (headOf l)
      exact fix_any _ 4 w (by decide) (by omega)
    have hl4 := crc_lt (headOf l)
    have HH : Hid (headOf l = Lib.uvarint l.length ++ l) := rfl
    have HL4 : Hid ((Lib.leBytes 4 (crcMore 0 (headOf l))).length = 4) := Lib.leBytes_length 4 _
    have HL3 : Hid ((Lib.uvarint l.length).length ≤ 3) := len3 (by omega)
    generalize crcMore 0 (headOf l) = s at *
    obtain ⟨S, hS⟩ : ∃ S : Int, S = (s : Int) := ⟨_, rfl⟩
    have hS0 : 0 ≤ S := by omega
    have hS1 : S < 4294967296 := by omega
    rw [← hS] at HM HF
    clear hS hl4
    generalize Lib.leBytes 4 s = q at *
    generalize crcMore 0 (Lib.uvarint l.length) = s0 at *
    generalize Lib.uvarint l.length = u at *
    go_enter Tryz.func21, Tryz.ntmps21
    go_wp2_with fail
    refine (HP.out _).mono ?_
    rintro e w1 ⟨v1, rfl, ho1, hb1⟩
    have HB1 := hide hb1
    have HR1 := hide ho1.rd
    clear ho1 hb1 HP
    go_wp2_with fail
    refine (HS.out _ _ HR1.out).mono ?_
    rintro e w2 ⟨rfl, rfl⟩
    clear HS
    go_wp2_with fail
    refine (HM.out _ HB1.out).mono ?_
    rintro e w3 ⟨rfl, rfl⟩
    clear HM
    have hs1 := HB1.out.size
    go_wp2_with (at_builtin; refine wpList_append_rd _ rfl _ _ rfl w3.heap.size _ [] rfl (Own.nil _ _) _ u rfl HR1.out (by have := HL3.out; simp; omega) (Nat.le_refl _) ?_)
    intro v4 w4 ho4 hb4
    have HB4 := hide (HB1.out.trans (hb4.mono hs1))
    have HO4 : Hid (Own w4 w3.heap.size v4 u) := ho4
    have hs4 := hb4.size
    clear ho4 hb4
    go_wp2_with (at_builtin; refine wpList_append_rd _ rfl _ _ rfl w3.heap.size _ u rfl HO4.out _ l rfl (HR.out.below HB4.out (Nat.le_refl _)) (by have := HL3.out; omega) (by omega) ?_)
    intro v5 w5 ho5 hb5
    have HB5 := hide (HB4.out.trans (hb5.mono hs1))
    have HO5 : Hid (Own w5 w3.heap.size v5 (u ++ l)) := ho5
    have hs5 := hb5.size
    clear ho5 hb5
    go_wp2_with fail
    refine (HF.out _).mono ?_
    rintro e w6 ⟨v6, rfl, ho6, hb6⟩
    have HB6 := hide (HB5.out.trans (hb6.mono HB5.out.size))
    have HR6 := hide ho6.rd
    have HO6 : Hid (Own w6 w3.heap.size v5 (u ++ l)) := HO5.out.below hb6 (Nat.le_refl _)
    have hs6 := hb6.size
    clear ho6 hb6
    go_wp2_with (at_builtin; refine wpList_append_rd _ rfl _ _ rfl w3.heap.size _ (u ++ l) rfl HO6.out _ q rfl HR6.out (by have := HL3.out; have := HL4.out; simp; omega) (by omega) ?_)
    intro v7 w7 ho7 hb7
    have HB7 := hide (HB6.out.trans (hb7.mono hs1))
    have HO7 := hide (ho7.mono hs1)
    clear ho7 hb7
    go_wp2
    go_ret2
    refine ⟨v7, by rw [HE.out]; rfl, ?_, HB7.out⟩
    rw [HE.out, HH.out]
    show Own _ _ _ (u ++ l ++ q)
    rw [List.append_assoc]
    exact HO7.out
  · have HE : Hid (encF l = ([], 5)) := if_neg (by omega)
    go_enter Tryz.func21, Tryz.ntmps21
    go_wp2
    go_ret2
    exact ⟨_, by rw [HE.out]; rfl, by rw [HE.out]; exact Own.nil _ _, Below.refl _ _⟩

set_option maxRecDepth 100000 in
theorem refOpen_any (v : Value) (l : List UInt8) (w : World) (hr : Rd w v l) :
    Calls Tryz.prog 62 #[v] w fun e w' => e = .returned (.bool (decide (isOpen l))) ∧ w' = w := by
  obtain ⟨ao, cap, rfl, hlc, hcm, hn0, hao⟩ := hr
  clear hn0
  have hml : (l.length : Int) ≤ 9223372036854775807 := by unfold maxLen at hcm; omega
  go_enter Tryz.func62, Tryz.ntmps62
  go_wp2
  go_loop [3] (fun i => ∃ k : Nat, i = .int .i64 k ∧ k ≤ l.length ∧ Hid (∀ j, j < k → 128 ≤ (l.getD j 0).toNat)) (fun i => l.length - (intOf i).toNat)
  case atStart => exact ⟨0, rfl, by omega, fun j hj => by omega⟩
  case round =>
    obtain ⟨k, rfl, hkl, hall⟩ := hrel
    by_cases hlt : k < l.length
    · rcases hao with hao | ⟨b, off, rfl, hc⟩
      · subst hao; simp at hlt
      · have hck := hc k hlt
        clear hc
        obtain ⟨y, hy⟩ : ∃ y, y = (l.getD k 0).toNat := ⟨_, rfl⟩
        rw [← hy] at hck
        have HY : Hid (y = (l.getD k 0).toNat) := hy
        clear hy
        by_cases hyb : (y : Int) < 128
        · go_wp2
          go_ret
          refine ⟨ret_bool ?_, rfl⟩
          symm
          refine decide_eq_false fun ho => ?_
          have := ho.2 k hlt
          rw [← HY.out] at this
          omega
        · go_wp2
          go_round
          case rel =>
            refine ⟨k + 1, by go_num, by omega, fun j hj => ?_⟩
            by_cases e : j = k
            · rw [e, ← HY.out]; omega
            · exact hall.out j (by omega)
          case measure => simp [intOf]; omega
    · by_cases h10 : (l.length : Int) < 10
      all_goals
        go_wp2
        go_ret
        refine ⟨ret_bool ?_, rfl⟩
        symm
        first
          | exact decide_eq_true ⟨by omega, fun j hj => hall.out j (by omega)⟩
          | exact decide_eq_false fun ho => by have := ho.1; omega

end Go.Proofs.YtgpdbboieokldaaGreat
