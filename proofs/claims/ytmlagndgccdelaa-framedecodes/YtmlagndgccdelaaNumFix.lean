/- Contracts of lowest, Fixed32, Fixed64, Fixed. -/
import Derived.Test.YtmlagndgccdelaaNumGet
namespace Go.Proofs.Ytmlagndgccdelaa
open Go.RowKit

theorem leBytes_snoc : ∀ (k v : Nat), Lib.leBytes (k + 1) v = Lib.leBytes k v ++ [(v / 256 ^ k % 256).toUInt8]
  | 0, v => by simp [Lib.leBytes]
  | k + 1, v => by
    have ih := leBytes_snoc k (v / 256)
    have e : v / 256 / 256 ^ k = v / 256 ^ (k + 1) := by rw [Nat.div_div_eq_div_mul, Nat.pow_succ, Nat.mul_comm]
    rw [Lib.leBytes, ih, e]
    simp [Lib.leBytes]

/-- What lies in the row of c bytes behind k rounds. -/
def leRow (c k v : Nat) : List UInt8 := Lib.leBytes k v ++ List.replicate (c - k) 0

theorem leRow_length (c k v : Nat) (h : k ≤ c) : (leRow c k v).length = c := by
  simp [leRow, Lib.leBytes_length]
  omega

theorem leRow_set (c k v : Nat) (h : k < c) : (Lib.byteCells (leRow c k v)).set k (.int .u8 ((v / 256 ^ k % 256 : Nat) : Int)) = Lib.byteCells (leRow c (k + 1) v) := by
  have e : c - k = (c - (k + 1)) + 1 := by omega
  unfold leRow
  rw [leBytes_snoc, e, List.replicate_succ]
  have hl : (Lib.byteCells (Lib.leBytes k v)).length = k := by rw [byteCells_length, Lib.leBytes_length]
  have h8 : ((v / 256 ^ k % 256).toUInt8).toNat = v / 256 ^ k % 256 := Lib.toUInt8_toNat (Nat.mod_lt _ (by decide))
  simp only [Lib.byteCells, List.map_append, List.map_cons, List.map_nil, h8] at hl ⊢
  rw [List.set_append_right _ _ (by omega), hl]
  simp

theorem pow8 (k : Nat) : 2 ^ (8 * k) = 256 ^ k := by rw [Nat.pow_mul]

theorem low_plain (v k : Nat) : ((v : Int) / 2 ^ (8 * k)) % 256 = ((v / 256 ^ k % 256 : Nat) : Int) := by
  rw [← pow8]
  simp

set_option maxRecDepth 100000 in
set_option maxHeartbeats 400000 in
theorem lowest_any (v c : Nat) (w : World) (hc : c ≤ 8) :
    Calls Try.prog 38 #[.int .u64 (v : Int), .int .i64 (c : Int)] w fun e w' => ∃ v', e = .returned v' ∧ Own w' w.heap.size v' (Lib.leBytes c v) ∧ Below w.heap.size w w' := by
  obtain ⟨i0, hi, hz0, hz1, hz2⟩ := info_parts info8
  go_enter Try.func38, Try.ntmps38
  go_wp2_with (at_make; refine wpList_make_full _ rfl _ _ 22 rfl w.heap.size 5 i0 (.int .u8 0) 1 Try.underlying22 hi hz0 hz1 _ _ _ _ c rfl rfl rfl rfl (by rw [hz2]; omega) (by unfold maxLen; omega) (Nat.le_refl _) ?_)
  intro w1 hown hgrow
  have hb1 : Below w.heap.size w w1 := (Below.refl _ _).grown hgrow (Nat.le_refl _) (fun k hk => by cases hk)
  have hown1 : w1.ownsRow w.heap.size 5 1 (.slice (some ⟨w.heap.size, 0, none⟩) c c) c (Lib.byteCells (leRow c 0 v)) := by
    have e : (madeCells #[Value.int .u8 0] c).toList = Lib.byteCells (leRow c 0 v) := by
      rw [toList_madeCells_one]
      simp [leRow, Lib.leBytes, Lib.byteCells]
    rw [← e]
    exact hown
  have HO := hide hown1
  have HB := hide hb1
  clear hown hown1 hb1 hgrow
  go_wp2
  go_loopw [11] (fun i wr => ∃ k : Nat, k ≤ c ∧ i = .int .i64 (k : Int) ∧ Hid (wr.ownsRow w.heap.size 5 1 (.slice (some ⟨w.heap.size, 0, none⟩) c c) c (Lib.byteCells (leRow c k v))) ∧ Hid (Below w.heap.size w wr)) (fun i _ => c - (intOf i).toNat)
  case atStart => exact ⟨0, Nat.zero_le _, rfl, HO, HB⟩
  case round =>
    obtain ⟨k, hk, rfl, ho, hb⟩ := hrel
    by_cases hlt : k < c
    · have hcell : wr.cell? ⟨w.heap.size, k, none⟩ = some (.int .u8 ((leRow c k v).getD k 0).toNat) := by
        rw [World.ownsRow.cellAt ho.out k (by omega), byteCells_get _ _ (by rw [leRow_length c k v hk]; exact hlt)]
      have hfr : wr.frozen? ⟨w.heap.size, k, none⟩ = false := World.ownsRow.frozenAt ho.out k
      go_wp2
      go_roundw
      case rel =>
        have hs := World.ownsRow.stored ho.out k (Value.int .u8 ((v / 256 ^ k % 256 : Nat) : Int))
        rw [leRow_set c k v hlt] at hs
        rw [low_plain]
        exact ⟨k + 1, by omega, by go_num, hs.1, hb.out.setCell (Nat.le_refl _) _⟩
      case measure => simp [intOf]; omega
    · go_wp2
      go_ret
      have e : k = c := by omega
      refine ⟨_, rfl, Own.mk' (l := Lib.leBytes c v) ho.out (by rw [Lib.leBytes_length]) ?_, hb.out⟩
      rw [e]
      simp [leRow]

set_option maxRecDepth 100000 in
theorem fixed32_any (v : Nat) (w : World) (h : v < 4294967296) :
    Calls Try.prog 22 #[.int .u32 (v : Int)] w fun e w' => ∃ v', e = .returned v' ∧ Own w' w.heap.size v' (Lib.leBytes 4 v) ∧ Below w.heap.size w w' := by
  have HC : Hid (Calls Try.prog 38 #[.int .u64 (v : Int), .int .i64 4] w fun e w' => ∃ v', e = .returned v' ∧ Own w' w.heap.size v' (Lib.leBytes 4 v) ∧ Below w.heap.size w w') := lowest_any v 4 w (by omega)
  obtain ⟨U, hU⟩ : ∃ U : Int, U = (v : Int) := ⟨_, rfl⟩
  have h0 : 0 ≤ U := by omega
  have h1 : U < 4294967296 := by omega
  rw [← hU] at HC ⊢
  clear hU h
  go_enter Try.func22, Try.ntmps22
  go_wp2_with fail
  refine HC.out.mono ?_
  rintro e w' ⟨v', rfl, ho, hb⟩
  have HO := hide ho
  have HB := hide hb
  clear ho hb HC
  go_wp2
  go_ret
  exact ⟨v', rfl, HO.out, HB.out⟩

theorem leNat_lt : ∀ l : List UInt8, Lib.leNat l < 256 ^ l.length
  | [] => by simp [Lib.leNat]
  | c :: r => by
    have h := leNat_lt r
    have hc := c.toNat_lt
    simp only [Lib.leNat, List.length_cons, Nat.pow_succ]
    omega

theorem leNat_snoc : ∀ (l : List UInt8) (c : UInt8), Lib.leNat (l ++ [c]) = Lib.leNat l + c.toNat * 256 ^ l.length
  | [], c => by simp [Lib.leNat]
  | d :: r, c => by
    have h := leNat_snoc r c
    simp only [List.cons_append, Lib.leNat, List.length_cons, Nat.pow_succ, h]
    rw [Nat.mul_add, ← Nat.mul_assoc, Nat.mul_comm 256 c.toNat, Nat.mul_assoc, Nat.mul_comm 256 (256 ^ r.length)]
    omega

theorem leNat_take (l : List UInt8) (k : Nat) (h : k < l.length) : Lib.leNat (l.take (k + 1)) = Lib.leNat (l.take k) + (l.getD k 0).toNat * 256 ^ k := by
  rw [take_snoc l k h, leNat_snoc, List.length_take, Nat.min_eq_left (by omega)]

theorem leNat_take_lt (l : List UInt8) (k : Nat) (h : k ≤ l.length) : Lib.leNat (l.take k) < 256 ^ k := by
  have := leNat_lt (l.take k)
  rwa [List.length_take, Nat.min_eq_left h] at this

theorem or_step8 (l : List UInt8) (k : Nat) (hk : k < l.length) (h8 : k < 8) :
    bits .or .u64 ((Lib.leNat (l.take k) : Nat) : Int) (IntKind.u64.wrap (((l.getD k 0).toNat : Int) * 2 ^ (8 * k))) = ((Lib.leNat (l.take (k + 1)) : Nat) : Int) := by
  have hv := leNat_take_lt l k (by omega)
  rw [leNat_take l k hk, ← pow8]
  rw [← pow8] at hv
  refine or_low (8 * k) _ _ (by omega) hv ?_
  have hp : 2 ^ (8 * k) ≤ 2 ^ 56 := Nat.pow_le_pow_right (by decide) (by omega)
  have hb := (l.getD k 0).toNat_lt
  have hm : (l.getD k 0).toNat ≤ 255 := by omega
  have := Nat.mul_le_mul hm hp
  have e56 : 255 * 2 ^ 56 < 18446744073709551616 := by decide
  omega

set_option maxRecDepth 100000 in
set_option maxHeartbeats 400000 in
theorem fixed_any (v : Value) (l : List UInt8) (w : World) (hr : Rd w v l) :
    Calls Try.prog 30 #[v] w fun e w' => e = .returned (.int .u64 (Lib.leNat (l.take 8) : Nat)) ∧ w' = w := by
  obtain ⟨ao, cap, rfl, hlc, hcm, hn0, hao⟩ := hr
  clear hn0
  have hml : (l.length : Int) ≤ 9223372036854775807 := by unfold maxLen at hcm; omega
  by_cases h10 : (l.length : Int) ≤ 8
  all_goals
    go_enter Try.func30, Try.ntmps30
    go_wp2
    go_loop [3, 8] (fun n i => ∃ k : Nat, i = .int .i64 k ∧ k ≤ 8 ∧ k ≤ l.length ∧ n = .int .u64 (Lib.leNat (l.take k) : Nat)) (fun _ i => 8 - (intOf i).toNat)
    case atStart => exact ⟨0, rfl, by omega, by omega, rfl⟩
    case round =>
      obtain ⟨k, rfl, hk10, hkl, rfl⟩ := hrel
      by_cases hlt : k < 8 ∧ k < l.length
      · obtain ⟨hlt, hlt'⟩ := hlt
        rcases hao with hao | ⟨b, off, rfl, hc⟩
        · subst hao; simp at hlt'
        · have hck := hc k hlt'
          have HS := hide (or_step8 l k hlt' hlt)
          have hy : (l.getD k 0).toNat < 256 := UInt8.toNat_lt _
          clear hc
          generalize (l.getD k 0).toNat = y at *
          generalize Lib.leNat (l.take k) = z at *
          go_wp2
          go_round
          case rel => exact ⟨k + 1, by go_num, by omega, by omega, by rw [HS.out]⟩
          case measure => simp [intOf]; omega
      · go_wp2
        go_ret
        refine ⟨ret_int ?_, rfl⟩
        by_cases e : k = 8
        · rw [e]
        · rw [List.take_of_length_le (by omega : l.length ≤ k), List.take_of_length_le (by omega : l.length ≤ 8)]

end Go.Proofs.Ytmlagndgccdelaa
