/- Contracts of the document's answer for layer num, what it puts: groups, Put, PutSigned, Fix. -/
import Derived.Test.YtgmdhlchdjlgnaaNumPut
import Derived.Test.YtgmdhlchdjlgnaaNumApp
import Derived.Test.YtgmdhlchdjlgnaaRef01Get
namespace Go.Proofs.Ytgmdhlchdjlgnaa
open Go.RowKit

set_option maxRecDepth 100000 in
set_option maxHeartbeats 1000000 in
theorem refGroups_any (u : Nat) (w : World) (hu : u < 18446744073709551616) :
    Calls Try.prog 36 #[.int .u64 (u : Int)] w fun e w' => ∃ v', e = .returned v' ∧ Own w' w.heap.size v' (Lib.uvarint u) ∧ Below w.heap.size w w' := by
  obtain ⟨i0, hi, hz0, hz1, hz2⟩ := info_parts info8
  have hlen := Lib.uvarint_length64 hu
  have HU := hide hu
  clear hu
  go_enter Try.func36, Try.ntmps36
  go_wp2
  go_loopw [0, 3] (fun vu vb wr => ∃ (y : Nat) (pre : List UInt8), vu = .int .u64 (y : Int) ∧ Hid (y ≤ u ∧ Lib.uvarint u = pre ++ Lib.uvarint y) ∧ Hid (Own wr w.heap.size vb ([] ++ pre)) ∧ Hid (Below w.heap.size w wr))
    (fun vu _ _ => (intOf vu).toNat)
  case atStart => exact ⟨u, [], rfl, ⟨Nat.le_refl _, rfl⟩, Own.nil _ _, Below.refl _ _⟩
  case round =>
    obtain ⟨y, pre, rfl, hys, hown1, hnx⟩ := hrel
    have hpl : pre.length + (Lib.uvarint y).length ≤ 10 := by
      have h2 := congrArg List.length hys.out.2
      rw [List.length_append] at h2
      omega
    have hyp := Lib.uvarint_pos y
    have hsz := hnx.out.size
    have hyb : (y : Int) ≤ 18446744073709551615 := by have := hys.out.1; have := HU.out; omega
    by_cases h128 : 128 ≤ y
    · go_wp2_with (at_builtin; refine wpList_append_own _ rfl _ _ 24 rfl w.heap.size 5 i0 (.int .u8 0) 1 1 Try.underlying24 hi hz0 hz1 hz2 rfl (by decide) _ _ _ rfl (World.ownsRow.alloc hown1.out _) ⟨wr.heap.size, 0, none⟩ 1 1 [Value.int .u8 ((y % 128 + 128 : Nat) : Int)] rfl rfl ?c1 ?c2 ?c3 ?c4 ?c5 ?_)
      case c1 =>
        intro j u hj
        match j, hj with
        | 0, hj => simp at hj; subst hj; simp [Addr.add]
      case c2 => intro u hu; simp at hu; subst hu; rfl
      case c3 => unfold maxLen; simp; omega
      case c4 => simp; omega
      case c5 => simp; omega
      intro v' w1 hown' hgrow _
      have hnx1 : Below w.heap.size w w1 := (hnx.out.alloc (by omega) _).grown hgrow (by simp; omega) (fun k hk => (World.ownsRow.lt hown1.out k hk).1)
      have HO := hide (Own.snoc [] pre (y % 128 + 128) (by omega) hown' (by simp) (by omega))
      have HB := hide hnx1
      clear hown' hnx1 hgrow
      go_wp2
      go_roundw
      case rel => exact ⟨y / 128, pre ++ [(y % 128 + 128).toUInt8], by go_num, ⟨by have := hys.out.1; omega, by rw [hys.out.2, Lib.uvarint_big h128]; simp⟩, HO, HB⟩
      case measure => simp [intOf]; omega
    · have hsm : Lib.uvarint y = [y.toUInt8] := Lib.uvarint_small (by omega)
      have HS := hide hsm
      clear hsm
      go_wp2_with (at_builtin; refine wpList_append_own _ rfl _ _ 24 rfl w.heap.size 5 i0 (.int .u8 0) 1 1 Try.underlying24 hi hz0 hz1 hz2 rfl (by decide) _ _ _ rfl (World.ownsRow.alloc hown1.out _) ⟨wr.heap.size, 0, none⟩ 1 1 [Value.int .u8 (y : Int)] rfl rfl ?c1 ?c2 ?c3 ?c4 ?c5 ?_)
      case c1 =>
        intro j u hj
        match j, hj with
        | 0, hj => simp at hj; subst hj; simp [Addr.add]
      case c2 => intro u hu; simp at hu; subst hu; rfl
      case c3 => unfold maxLen; simp; omega
      case c4 => simp; omega
      case c5 => simp; omega
      intro v' w1 hown' hgrow _
      have hnx1 : Below w.heap.size w w1 := (hnx.out.alloc (by omega) _).grown hgrow (by simp; omega) (fun k hk => (World.ownsRow.lt hown1.out k hk).1)
      have HO := hide (Own.snoc [] pre y (by omega) hown' (by simp) rfl)
      have HB := hide hnx1
      clear hown' hnx1 hgrow
      go_wp2
      go_ret
      refine ⟨v', rfl, ?_, HB.out⟩
      rw [hys.out.2, HS.out]
      exact HO.out

set_option maxRecDepth 100000 in
set_option maxHeartbeats 1000000 in
theorem refPut_any (v : Value) (l : List UInt8) (n : Int) (w : World) (hr : Rd w v l) (hlim : l.length ≤ 100000) :
    Calls Try.prog 20 #[v, .int .i64 n] w fun e w' => ∃ v', e = .returned v' ∧ Own w' w.heap.size v' (putOf l n) ∧ Below w.heap.size w w' := by
  have HR := hide hr
  clear hr
  by_cases h : 0 ≤ n ∧ n < 4611686018427387904
  · obtain ⟨h0, h1⟩ := h
    have HE : Hid (putOf l n = l ++ Lib.uvarint n.toNat) := if_pos ⟨h0, h1⟩
    have HL : Hid ((Lib.uvarint n.toNat).length ≤ 10) := Lib.uvarint_length64 (by omega)
    have HG : Hid (∀ w, Calls Try.prog 36 #[.int .u64 n] w fun e w' => ∃ v', e = .returned v' ∧ Own w' w.heap.size v' (Lib.uvarint n.toNat) ∧ Below w.heap.size w w') := by
      intro w
      have h := refGroups_any n.toNat w (by omega)
      have en : ((n.toNat : Nat) : Int) = n := Int.toNat_of_nonneg h0
      rwa [en] at h
    go_enter Try.func20, Try.ntmps20
    go_wp2_with (at_builtin; refine wpList_append_rd _ rfl _ _ rfl w.heap.size _ [] rfl (Own.nil _ _) _ l rfl HR.out (by simp; omega) (Nat.le_refl _) ?_)
    intro v1 w1 ho1 hb1
    have HO1 := hide ho1
    have HB1 := hide hb1
    clear ho1 hb1
    go_wp2_with fail
    refine (HG.out _).mono ?_
    rintro e w2 ⟨v2, rfl, ho2, hb2⟩
    have hs2 := HB1.out.size
    have HB2 := hide (HB1.out.trans (hb2.mono hs2))
    have HO2 := hide ho2
    have HO12 : Hid (Own w2 w.heap.size v1 l) := HO1.out.below hb2 (Nat.le_refl _)
    have hs3 := hb2.size
    clear ho2 hb2
    go_wp2_with (at_builtin; refine wpList_append_rd _ rfl _ _ rfl w.heap.size _ l rfl HO12.out _ (Lib.uvarint n.toNat) rfl HO2.out.rd (by have := HL.out; omega) (by omega) ?_)
    intro v3 w3 ho3 hb3
    have HO3 := hide ho3
    have HB3 := hide (HB2.out.trans hb3)
    clear ho3 hb3
    go_wp2
    go_ret
    exact ⟨v3, rfl, by rw [HE.out]; exact HO3.out, HB3.out⟩
  · have HE : Hid (putOf l n = l) := if_neg h
    by_cases h0 : n < 0
    all_goals
      go_enter Try.func20, Try.ntmps20
      go_wp2_with (at_builtin; refine wpList_append_rd _ rfl _ _ rfl w.heap.size _ [] rfl (Own.nil _ _) _ l rfl HR.out (by simp; omega) (Nat.le_refl _) ?_)
      intro v1 w1 ho1 hb1
      have HO1 := hide ho1
      have HB1 := hide hb1
      clear ho1 hb1
      go_wp2
      go_ret
      exact ⟨v1, rfl, by rw [HE.out]; exact HO1.out, HB1.out⟩

set_option maxRecDepth 100000 in
set_option maxHeartbeats 1000000 in
theorem refPutSigned_any (v : Value) (l : List UInt8) (n : Int) (w : World) (hr : Rd w v l) (hlim : l.length ≤ 100000) (h0 : -9223372036854775808 ≤ n) (h1 : n ≤ 9223372036854775807) :
    Calls Try.prog 21 #[v, .int .i64 n] w fun e w' => ∃ v', e = .returned v' ∧ Own w' w.heap.size v' (l ++ Lib.uvarint (Lib.zigzag n)) ∧ Below w.heap.size w w' := by
  have HR := hide hr
  clear hr
  have HL : Hid ((Lib.uvarint (Lib.zigzag n)).length ≤ 10) := Lib.uvarint_length64 (Lib.zigzag_lt h0 h1)
  have HG := hide (fun w => refGroups_any (Lib.zigzag n) w (Lib.zigzag_lt h0 h1))
  have HZ := hide (fun w => refZig_any n w h0 h1)
  generalize Lib.zigzag n = z at *
  go_enter Try.func21, Try.ntmps21
  go_wp2_with (at_builtin; refine wpList_append_rd _ rfl _ _ rfl w.heap.size _ [] rfl (Own.nil _ _) _ l rfl HR.out (by simp; omega) (Nat.le_refl _) ?_)
  intro v1 w1 ho1 hb1
  have HO1 := hide ho1
  have HB1 := hide hb1
  clear ho1 hb1
  go_wp2_with fail
  refine (HZ.out _).mono ?_
  rintro e w' ⟨rfl, rfl⟩
  go_wp2_with fail
  refine (HG.out _).mono ?_
  rintro e w2 ⟨v2, rfl, ho2, hb2⟩
  have hs2 := HB1.out.size
  have HB2 := hide (HB1.out.trans (hb2.mono hs2))
  have HO2 := hide ho2
  have HO12 : Hid (Own w2 w.heap.size v1 l) := HO1.out.below hb2 (Nat.le_refl _)
  have hs3 := hb2.size
  clear ho2 hb2
  go_wp2_with (at_builtin; refine wpList_append_rd _ rfl _ _ rfl w.heap.size _ l rfl HO12.out _ (Lib.uvarint z) rfl HO2.out.rd (by have := HL.out; omega) (by omega) ?_)
  intro v3 w3 ho3 hb3
  have HO3 := hide ho3
  have HB3 := hide (HB2.out.trans hb3)
  clear ho3 hb3
  go_wp2
  go_ret
  exact ⟨v3, rfl, HO3.out, HB3.out⟩

end Go.Proofs.Ytgmdhlchdjlgnaa
