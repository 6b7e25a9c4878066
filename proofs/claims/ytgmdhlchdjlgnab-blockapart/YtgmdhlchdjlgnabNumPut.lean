/- Contracts of own, putGroups, Put, PutSigned: what the answer holds, that it is the call's own, and that nothing older has turned. -/
import Derived.Test.YtgmdhlchdjlgnabPack1
namespace Go.Proofs.Ytgmdhlchdjlgnab
open Go.RowKit

set_option maxRecDepth 100000 in
set_option maxHeartbeats 400000 in
theorem own_any (v : Value) (l : List UInt8) (w : World) (hr : Rd w v l) (hlim : l.length ≤ 70368744177664) :
    Calls Try.prog 13 #[v] w fun e w' => ∃ v', e = .returned v' ∧ Own w' w.heap.size v' l ∧ Below w.heap.size w w' := by
  obtain ⟨i0, hi, hz0, hz1, hz2⟩ := info_parts info8
  have HR := hide hr
  obtain ⟨ao, cap, rfl, hlc, hcm, hn0, hao⟩ := hr
  have HA := hide hao
  have HN := hide hn0
  clear hao hn0
  go_enter Try.func13, Try.ntmps13
  go_wp2_with (at_make; refine wpList_make_own _ rfl _ _ 24 rfl w.heap.size 5 i0 (.int .u8 0) 1 Try.underlying24 hi hz0 hz1 _ _ _ (l.length + 10) rfl rfl (by omega) (by rw [hz2]; omega) (by unfold maxLen; omega) (Nat.le_refl _) ?_)
  intro w1 hown hgrow
  have hb1 : Below w.heap.size w w1 := (Below.refl _ _).grown hgrow (Nat.le_refl _) (fun k hk => by cases hk)
  obtain ⟨ao', cap', hv', _, _, _, hao'⟩ := HR.out.below hb1 (Nat.le_refl _)
  simp only [Value.slice.injEq] at hv'
  obtain ⟨rfl, _, rfl⟩ := hv'
  have HA1 := hide hao'
  have HB := hide hb1
  have HG := hide hgrow
  clear hao' hb1 hgrow HA
  go_wp2_with (at_builtin; refine wpList_append_fits_any _ rfl _ _ 24 rfl w.heap.size 5 i0 1 Try.underlying24 hi hz1 w.heap.size 0 (l.length + 10) [] rfl hown ao l.length cap (Lib.byteCells l) rfl (by rw [byteCells_length, Nat.mul_one]) (fun e => ⟨by have := HN.out e; omega, HN.out e⟩) (Rd.cells HA1.out) (byteCells_one l) (by omega) ?_)
  intro w2 hown2 hgrow2
  have hb2 : Below w.heap.size w w2 := HB.out.grown hgrow2 (by have := HB.out.size; omega) (fun k hk => by simp at hk; omega)
  have HB2 := hide hb2
  have HO := hide hown2
  clear hb2 hgrow2 hown2 hown
  go_wp2
  go_ret
  exact ⟨_, rfl, Own.mk' HO.out (by simp) (by simp), HB2.out⟩

theorem or128 (y : Nat) : bits .or .u8 ((y : Int) % 256) 128 = (y : Int) % 128 + 128 := by
  rw [Lib.u8_or128_any _ (by omega) (by omega)]
  omega

theorem Own.snoc {w : World} {B : Nat} {v : Value} (l pre : List UInt8) (a : Nat) (ha : a < 256) {n : Nat} {x : Int} (h : w.ownsRow B 5 1 v n (Lib.byteCells (l ++ pre) ++ [Value.int .u8 x])) (hn : n = l.length + pre.length + 1) (hx : x = (a : Int)) : Own w B v (l ++ (pre ++ [a.toUInt8])) := by
  subst hx
  refine Own.mk' h (by rw [hn]; simp; omega) ?_
  rw [← List.append_assoc, Lib.byteCells_snoc _ ha]

set_option maxRecDepth 100000 in
set_option maxHeartbeats 1000000 in
theorem putGroups_any (v : Value) (l : List UInt8) (u : Nat) (w : World) (hr : Rd w v l) (hlim : l.length ≤ 70368744177664) (hu : u < 18446744073709551616) :
    Calls Try.prog 14 #[v, .int .u64 (u : Int)] w fun e w' => ∃ v', e = .returned v' ∧ Own w' w.heap.size v' (l ++ Lib.uvarint u) ∧ Below w.heap.size w w' := by
  obtain ⟨i0, hi, hz0, hz1, hz2⟩ := info_parts info8
  have hlen := Lib.uvarint_length64 hu
  have HC := hide (own_any v l w hr hlim)
  have HU := hide hu
  clear hr hu
  go_enter Try.func14, Try.ntmps14
  go_wp2_with fail
  refine HC.out.mono ?_
  rintro e w0 ⟨v0, rfl, hown0, hb0⟩
  have HO0 := hide hown0
  have HB0 := hide hb0
  clear hown0 hb0 HC
  go_wp2
  go_loopw [1, 5] (fun vu vb wr => ∃ (y : Nat) (pre : List UInt8), vu = .int .u64 (y : Int) ∧ Hid (y ≤ u ∧ Lib.uvarint u = pre ++ Lib.uvarint y) ∧ Hid (Own wr w.heap.size vb (l ++ pre)) ∧ Hid (Below w.heap.size w wr))
    (fun vu _ _ => (intOf vu).toNat)
  case atStart => exact ⟨u, [], rfl, ⟨Nat.le_refl _, rfl⟩, by rw [List.append_nil]; exact HO0.out, HB0.out⟩
  case round =>
    obtain ⟨y, pre, rfl, hys, hown1, hnx⟩ := hrel
    have hpl : pre.length + (Lib.uvarint y).length ≤ 10 := by
      have h2 := congrArg List.length hys.out.2
      rw [List.length_append] at h2
      omega
    have hyp := Lib.uvarint_pos y
    have hsz := hnx.out.size
    by_cases h128 : 128 ≤ y
    · have hor := or128 y
      go_wp2_with (at_builtin; refine wpList_append_own _ rfl _ _ 24 rfl w.heap.size 5 i0 (.int .u8 0) 1 1 Try.underlying24 hi hz0 hz1 hz2 rfl (by decide) _ _ _ rfl (World.ownsRow.alloc hown1.out _) ⟨wr.heap.size, 0, none⟩ 1 1 [Value.int .u8 ((y % 128 + 128 : Nat) : Int)] rfl rfl ?c1 ?c2 ?c3 ?c4 ?c5 ?_)
      case c1 =>
        intro j u hj
        match j, hj with
        | 0, hj => simp at hj; subst hj; simp [Addr.add]
      case c2 => intro u hu; simp at hu; subst hu; rfl
      case c3 => unfold maxLen; simp; omega
      case c4 => simp; omega
      case c5 => simp; omega
      intro v' w1 hown' hgrow _
      have hnx1 : Below w.heap.size w w1 := (hnx.out.alloc (by omega) _).grown hgrow (by simp; omega) (fun k hk => (World.ownsRow.lt hown1.out k hk).1)
      have HO := hide (Own.snoc l pre (y % 128 + 128) (by omega) hown' (by simp) (by omega))
      have HB := hide hnx1
      clear hown' hnx1 hgrow
      go_wp2
      go_roundw
      case rel => exact ⟨y / 128, pre ++ [(y % 128 + 128).toUInt8], by go_num, ⟨by have := hys.out.1; omega, by rw [hys.out.2, Lib.uvarint_big h128]; simp⟩, HO, HB⟩
      case measure => simp [intOf]; omega
    · have hsm : Lib.uvarint y = [y.toUInt8] := Lib.uvarint_small (by omega)
      have HS := hide hsm
      clear hsm
      go_wp2_with (at_builtin; refine wpList_append_own _ rfl _ _ 24 rfl w.heap.size 5 i0 (.int .u8 0) 1 1 Try.underlying24 hi hz0 hz1 hz2 rfl (by decide) _ _ _ rfl (World.ownsRow.alloc hown1.out _) ⟨wr.heap.size, 0, none⟩ 1 1 [Value.int .u8 (y : Int)] rfl rfl ?c1 ?c2 ?c3 ?c4 ?c5 ?_)
      case c1 =>
        intro j u hj
        match j, hj with
        | 0, hj => simp at hj; subst hj; simp [Addr.add]
      case c2 => intro u hu; simp at hu; subst hu; rfl
      case c3 => unfold maxLen; simp; omega
      case c4 => simp; omega
      case c5 => simp; omega
      intro v' w1 hown' hgrow _
      have hnx1 : Below w.heap.size w w1 := (hnx.out.alloc (by omega) _).grown hgrow (by simp; omega) (fun k hk => (World.ownsRow.lt hown1.out k hk).1)
      have HO := hide (Own.snoc l pre y (by omega) hown' (by simp) rfl)
      have HB := hide hnx1
      clear hown' hnx1 hgrow
      go_wp2
      go_ret
      refine ⟨v', rfl, ?_, HB.out⟩
      rw [hys.out.2, HS.out]
      exact HO.out

/-- What Put answers: the bytes, and behind them the groups, if the number may be. -/
def putOf (l : List UInt8) (n : Int) : List UInt8 := if 0 ≤ n ∧ n < 4611686018427387904 then l ++ Lib.uvarint n.toNat else l

set_option maxRecDepth 100000 in
set_option maxHeartbeats 400000 in
theorem put_any (v : Value) (l : List UInt8) (n : Int) (w : World) (hr : Rd w v l) (hlim : l.length ≤ 70368744177664) :
    Calls Try.prog 9 #[v, .int .i64 n] w fun e w' => ∃ v', e = .returned v' ∧ Own w' w.heap.size v' (putOf l n) ∧ Below w.heap.size w w' := by
  by_cases h : 0 ≤ n ∧ n < 4611686018427387904
  · obtain ⟨h0, h1⟩ := h
    have HE : Hid (putOf l n = l ++ Lib.uvarint n.toNat) := if_pos ⟨h0, h1⟩
    have HC := hide (putGroups_any v l n.toNat w hr hlim (by omega))
    have en : ((n.toNat : Nat) : Int) = n := Int.toNat_of_nonneg h0
    rw [en] at HC
    clear en hr
    go_enter Try.func9, Try.ntmps9
    go_wp2_with fail
    refine HC.out.mono ?_
    rintro e w' ⟨v', rfl, ho, hb⟩
    have HO := hide ho
    have HB := hide hb
    clear ho hb HC
    go_wp2
    go_ret
    exact ⟨v', rfl, by rw [HE.out]; exact HO.out, HB.out⟩
  · have HE : Hid (putOf l n = l) := if_neg h
    have HC := hide (own_any v l w hr hlim)
    clear hr
    by_cases h0 : n < 0
    all_goals
      go_enter Try.func9, Try.ntmps9
      go_wp2_with fail
      refine HC.out.mono ?_
      rintro e w' ⟨v', rfl, ho, hb⟩
      have HO := hide ho
      have HB := hide hb
      clear ho hb HC
      go_wp2
      go_ret
      exact ⟨v', rfl, by rw [HE.out]; exact HO.out, HB.out⟩

set_option maxRecDepth 100000 in
set_option maxHeartbeats 400000 in
theorem putSigned_any (v : Value) (l : List UInt8) (n : Int) (w : World) (hr : Rd w v l) (hlim : l.length ≤ 70368744177664) (h0 : -9223372036854775808 ≤ n) (h1 : n ≤ 9223372036854775807) :
    Calls Try.prog 16 #[v, .int .i64 n] w fun e w' => ∃ v', e = .returned v' ∧ Own w' w.heap.size v' (l ++ Lib.uvarint (Lib.zigzag n)) ∧ Below w.heap.size w w' := by
  have HC := hide (putGroups_any v l (Lib.zigzag n) w hr hlim (Lib.zigzag_lt h0 h1))
  have HZ := hide (zig_any n w h0 h1)
  generalize Lib.zigzag n = z at *
  clear hr h0 h1
  go_enter Try.func16, Try.ntmps16
  go_wp2_with fail
  refine HZ.out.mono ?_
  rintro e w' ⟨rfl, rfl⟩
  go_wp2_with fail
  refine HC.out.mono ?_
  rintro e w' ⟨v', rfl, ho, hb⟩
  have HO := hide ho
  have HB := hide hb
  clear ho hb HC HZ
  go_wp2
  go_ret
  exact ⟨v', rfl, HO.out, HB.out⟩

end Go.Proofs.Ytgmdhlchdjlgnab
