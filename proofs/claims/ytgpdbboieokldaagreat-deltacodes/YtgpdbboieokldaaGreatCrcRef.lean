/- Contracts of the document's answer for layer crc: Entry, More, Sum. -/
import Derived.Test.YtgpdbboieokldaaGreatPack1
import Derived.Test.YtgpdbboieokldaaGreatPack2
namespace Go.Proofs.YtgpdbboieokldaaGreat
open Go.RowKit

theorem xor_u32 (a b : Nat) (ha : a < 4294967296) (hb : b < 4294967296) : bits .xor .u32 (a : Int) (b : Int) = ((a ^^^ b : Nat) : Int) := by
  have hx : a ^^^ b < 2 ^ 32 := Nat.xor_lt_two_pow (by omega) (by omega)
  have h1 : (BitVec.ofInt 32 (a : Int)).toNat = a := by
    rw [BitVec.ofInt_natCast, BitVec.toNat_ofNat]; exact Nat.mod_eq_of_lt (by omega)
  have h2 : (BitVec.ofInt 32 (b : Int)).toNat = b := by
    rw [BitVec.ofInt_natCast, BitVec.toNat_ofNat]; exact Nat.mod_eq_of_lt (by omega)
  show IntKind.u32.wrap ((BitVec.ofInt 32 (a : Int) ^^^ BitVec.ofInt 32 (b : Int)).toNat : Int) = _
  rw [BitVec.toNat_xor, h1, h2, IntKind.wrap_u32]
  omega

theorem xor_u8 (a b : Nat) (ha : a < 256) (hb : b < 256) : bits .xor .u8 (a : Int) (b : Int) = ((a ^^^ b : Nat) : Int) := by
  have hx : a ^^^ b < 2 ^ 8 := Nat.xor_lt_two_pow (by omega) (by omega)
  have h1 : (BitVec.ofInt 8 (a : Int)).toNat = a := by
    rw [BitVec.ofInt_natCast, BitVec.toNat_ofNat]; exact Nat.mod_eq_of_lt (by omega)
  have h2 : (BitVec.ofInt 8 (b : Int)).toNat = b := by
    rw [BitVec.ofInt_natCast, BitVec.toNat_ofNat]; exact Nat.mod_eq_of_lt (by omega)
  show IntKind.u8.wrap ((BitVec.ofInt 8 (a : Int) ^^^ BitVec.ofInt 8 (b : Int)).toNat : Int) = _
  rw [BitVec.toNat_xor, h1, h2, IntKind.wrap_u8]
  omega

theorem ticks_succ (k x : Nat) : ticks (k + 1) x = tick (ticks k x) := by
  rw [ticks_add k 1]
  rfl

theorem ticks32 (k : Nat) {x : Nat} (h : x < 4294967296) : ticks k x < 4294967296 := by
  have := ticks_lt k (Nat.le_refl 32) (by omega : x < 2 ^ 32)
  omega

set_option maxRecDepth 100000 in
set_option maxHeartbeats 400000 in
theorem refEntry_any (c : Nat) (w : World) (hc : c < 256) :
    Calls Tryz.prog 85 #[.int .u8 (c : Int)] w fun e w' => e = .returned (.int .u32 (entry c : Nat)) ∧ w' = w := by
  go_enter Tryz.func85, Tryz.ntmps85
  go_wp2
  go_loop [3, 4] (fun x i => ∃ k : Nat, k ≤ 8 ∧ i = .int .i64 k ∧ x = .int .u32 (ticks k c : Nat)) (fun _ i => 8 - (intOf i).toNat)
  case atStart => exact ⟨0, Nat.zero_le _, rfl, rfl⟩
  case round =>
    obtain ⟨k, hk, rfl, rfl⟩ := hrel
    by_cases hlt : k < 8
    · have HS := hide (ticks_succ k c)
      have hb : ticks k c < 4294967296 := ticks32 k (by omega)
      generalize ticks k c = y at *
      obtain ⟨Y, hY⟩ : ∃ Y : Int, Y = (y : Int) := ⟨_, rfl⟩
      rw [← hY]
      have hY0 : 0 ≤ Y := by omega
      have hY1 : Y < 4294967296 := by omega
      have HY := hide hY
      have HB := hide hb
      clear hY hb
      by_cases ho : Y % 2 = 1
      · have hob : (Y % 2 == 1) = true := beq_iff_eq.2 ho
        have HO := hide ho
        clear ho
        go_wp2
        go_round
        case rel =>
          have e := HY.out
          have eo := HO.out
          refine ⟨k + 1, by omega, by go_num, ?_⟩
          have e2 : Y / 2 = ((y / 2 : Nat) : Int) := by omega
          have e3 : (2197175160 : Int) = ((2197175160 : Nat) : Int) := rfl
          have ht : tick y = y / 2 ^^^ 2197175160 := if_pos (by omega)
          rw [HS.out, ht, e2, e3, xor_u32 _ _ (by have := HB.out; omega) (by decide)]
        case measure => simp [intOf]; omega
      · have hob : (Y % 2 == 1) = false := beq_eq_false_iff_ne.2 ho
        have HO := hide ho
        clear ho
        go_wp2
        go_round
        case rel =>
          have e := HY.out
          have eo := HO.out
          refine ⟨k + 1, by omega, by go_num, ?_⟩
          have e2 : Y / 2 = ((y / 2 : Nat) : Int) := by omega
          have ht : tick y = y / 2 := if_neg (by omega)
          rw [HS.out, ht, e2]
        case measure => simp [intOf]; omega
    · go_wp2
      go_ret
      obtain rfl : k = 8 := by omega
      exact ⟨rfl, rfl⟩

theorem crcReg_snoc (l : List UInt8) (x k : Nat) (h : k < l.length) : crcReg x (l.take (k + 1)) = crcByte (crcReg x (l.take k)) (l.getD k 0).toNat := by
  rw [take_snoc l k h, crcReg_append]
  rfl

theorem low_byte (x c : Nat) (hc : c < 256) : (x ^^^ c) % 256 = x % 256 ^^^ c := by
  have h := @Nat.xor_mod_two_pow x c 8
  have e : c % 2 ^ 8 = c := Nat.mod_eq_of_lt (by omega)
  rw [e] at h
  exact h

theorem byte_lt (x c : Nat) (hc : c < 256) : x % 256 ^^^ c < 256 := by
  have : x % 256 ^^^ c < 2 ^ 8 := Nat.xor_lt_two_pow (by omega) (by omega)
  omega

theorem entry_lt (c : Nat) (h : c < 256) : entry c < 4294967296 := ticks32 8 (by omega)

theorem not_u32 (s : Nat) (h : s < 4294967296) : bits .xor .u32 IntKind.u32.max (s : Int) = ((s ^^^ 4294967295 : Nat) : Int) := by
  have e : IntKind.u32.max = ((4294967295 : Nat) : Int) := by decide
  rw [e, xor_u32 _ _ (by decide) h, Nat.xor_comm]

set_option maxRecDepth 100000 in
set_option maxHeartbeats 400000 in
theorem refMore_any (s : Nat) (v : Value) (l : List UInt8) (w : World) (hr : Rd w v l) (hs : s < 4294967296) :
    Calls Tryz.prog 53 #[.int .u32 (s : Int), v] w fun e w' => e = .returned (.int .u32 (crcMore s l : Nat)) ∧ w' = w := by
  obtain ⟨ao, cap, rfl, hlc, hcm, hn0, hao⟩ := hr
  clear hn0
  have hml : (l.length : Int) ≤ 9223372036854775807 := by unfold maxLen at hcm; omega
  have HN := hide (not_u32 s hs)
  have HL : Hid (∀ k, crcReg (s ^^^ 4294967295) (l.take k) < 4294967296) := fun k => crcReg_lt _ (not_lt hs)
  have HE : Hid (crcMore s l = crcReg (s ^^^ 4294967295) l ^^^ 4294967295) := rfl
  generalize s ^^^ 4294967295 = x0 at *
  clear hs
  go_enter Tryz.func53, Tryz.ntmps53
  go_wp2
  go_loop [5, 6] (fun x i => ∃ k : Nat, k ≤ l.length ∧ i = .int .i64 k ∧ x = .int .u32 (crcReg x0 (l.take k) : Nat)) (fun _ i => l.length - (intOf i).toNat)
  case atStart =>
    refine ⟨0, Nat.zero_le _, rfl, ?_⟩
    rw [HN.out]
    rfl
  case round =>
    obtain ⟨k, hk, rfl, rfl⟩ := hrel
    have hy := HL.out k
    by_cases hlt : k < l.length
    · have HS := hide (crcReg_snoc l x0 k hlt)
      rcases hao with hao | ⟨b, off, rfl, hc⟩
      · subst hao; simp at hlt
      have hck := hc k hlt
      have hc256 : (l.getD k 0).toNat < 256 := UInt8.toNat_lt _
      clear hc
      generalize crcReg x0 (l.take k) = y at *
      generalize (l.getD k 0).toNat = c at *
      have hlb := byte_lt y c hc256
      have HX : Hid (bits .xor .u8 ((y : Int) % 256) (c : Int) = ((y % 256 ^^^ c : Nat) : Int)) := by
        have e : (y : Int) % 256 = ((y % 256 : Nat) : Int) := by omega
        rw [e]
        exact xor_u8 _ _ (by omega) hc256
      have HF : Hid (bits .xor .u32 ((entry (y % 256 ^^^ c) : Nat) : Int) ((y : Int) / 256) = ((crcByte y c : Nat) : Int)) := by
        have e : (y : Int) / 256 = ((y / 256 : Nat) : Int) := by omega
        rw [e, xor_u32 _ _ (entry_lt _ hlb) (by omega)]
        unfold crcByte
        rw [low_byte y c hc256]
        exact rfl
      have HC := hide (fun w => refEntry_any (y % 256 ^^^ c) w hlb)
      go_wp2_with fail
      rw [HX.out]
      refine (HC.out _).mono ?_
      rintro e w' ⟨rfl, rfl⟩
      go_wp2
      go_round
      case rel => exact ⟨k + 1, by omega, by go_num, by rw [HS.out, ← HF.out]⟩
      case measure => simp [intOf]; omega
    · go_wp2
      go_ret
      refine ⟨ret_int ?_, rfl⟩
      rw [HE.out, not_u32 _ hy, List.take_of_length_le (by omega)]

set_option maxRecDepth 100000 in
theorem refSum_any (v : Value) (l : List UInt8) (w : World) (hr : Rd w v l) :
    Calls Tryz.prog 54 #[v] w fun e w' => e = .returned (.int .u32 (crcMore 0 l : Nat)) ∧ w' = w := by
  have HC : Hid (Calls Tryz.prog 53 #[.int .u32 0, v] w fun e w' => e = .returned (.int .u32 (crcMore 0 l : Nat)) ∧ w' = w) := refMore_any 0 v l w hr (by decide)
  generalize crcMore 0 l = m at *
  clear hr
  go_enter Tryz.func54, Tryz.ntmps54
  go_wp2_with fail
  refine HC.out.mono ?_
  rintro e w' ⟨rfl, rfl⟩
  go_wp2
  go_ret
  exact ⟨rfl, rfl⟩

end Go.Proofs.YtgpdbboieokldaaGreat
