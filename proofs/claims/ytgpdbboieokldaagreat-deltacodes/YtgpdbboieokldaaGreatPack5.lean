import Derived.Test.YtgpdbboieokldaaGreatPack3
import Derived.Test.YtgpdbboieokldaaGreatPack4
import Derived.Test.YtgpdbboieokldaaGreatPack2
import Derived.BigQuiet
import Derived.Shelf.Abstract
import Derived.Deep.RegionHeld2
/- Contracts of the document's answer for layer num, what it puts: groups, Put, PutSigned, Fix. -/
namespace Go.Proofs.YtgpdbboieokldaaGreat
open Go.RowKit

set_option maxRecDepth 100000 in
set_option maxHeartbeats 1000000 in
theorem refGroups_any (u : Nat) (w : World) (hu : u < 18446744073709551616) :
    Calls Tryz.prog 51 #[.int .u64 (u : Int)] w fun e w' => ∃ v', e = .returned v' ∧ Own w' w.heap.size v' (Lib.uvarint u) ∧ Below w.heap.size w w' := by
  obtain ⟨i0, hi, hz0, hz1, hz2⟩ := info_parts info8
  have hlen := Lib.uvarint_length64 hu
  have HU := hide hu
  clear hu
  go_enter Tryz.func51, Tryz.ntmps51
  go_wp2
  go_loopw [0, 3] (fun vu vb wr => ∃ (y : Nat) (pre : List UInt8), vu = .int .u64 (y : Int) ∧ Hid (y ≤ u ∧ Lib.uvarint u = pre ++ Lib.uvarint y) ∧ Hid (Own wr w.heap.size vb ([] ++ pre)) ∧ Hid (Below w.heap.size w wr))
    (fun vu _ _ => (intOf vu).toNat)
  case atStart => exact ⟨u, [], rfl, ⟨Nat.le_refl _, rfl⟩, Own.nil _ _, Below.refl _ _⟩
  case round =>
    obtain ⟨y, pre, rfl, hys, hown1, hnx⟩ := hrel
    have hpl : pre.length + (Lib.uvarint y).length ≤ 10 := by
      have h2 := congrArg List.length hys.out.2
      rw [List.length_append] at h2
      omega
    have hyp := Lib.uvarint_pos y
    have hsz := hnx.out.size
    have hyb : (y : Int) ≤ 18446744073709551615 := by have := hys.out.1; have := HU.out; omega
    by_cases h128 : 128 ≤ y
    · go_wp2_with (at_builtin; refine wpList_append_own _ rfl _ _ 26 rfl w.heap.size 5 i0 (.int .u8 0) 1 1 Tryz.underlying26 hi hz0 hz1 hz2 rfl (by decide) _ _ _ rfl (World.ownsRow.alloc hown1.out _) ⟨wr.heap.size, 0, none⟩ 1 1 [Value.int .u8 ((y % 128 + 128 : Nat) : Int)] rfl rfl ?c1 ?c2 ?c3 ?c4 ?c5 ?_)
      case c1 =>
        intro j u hj
        match j, hj with
        | 0, hj => simp at hj; subst hj; simp [Addr.add]
      case c2 => intro u hu; simp at hu; subst hu; rfl
      case c3 => unfold maxLen; simp; omega
      case c4 => simp; omega
      case c5 => simp; omega
      intro v' w1 hown' hgrow _
      have hnx1 : Below w.heap.size w w1 := (hnx.out.alloc (by omega) _).grown hgrow (by simp; omega) (fun k hk => (World.ownsRow.lt hown1.out k hk).1)
      have HO := hide (Own.snoc [] pre (y % 128 + 128) (by omega) hown' (by simp) (by omega))
      have HB := hide hnx1
      clear hown' hnx1 hgrow
      go_wp2
      go_roundw
      case rel => exact ⟨y / 128, pre ++ [(y % 128 + 128).toUInt8], by go_num, ⟨by have := hys.out.1; omega, by rw [hys.out.2, Lib.uvarint_big h128]; simp⟩, HO, HB⟩
      case measure => simp [intOf]; omega
    · have hsm : Lib.uvarint y = [y.toUInt8] := Lib.uvarint_small (by omega)
      have HS := hide hsm
      clear hsm
      go_wp2_with (at_builtin; refine wpList_append_own _ rfl _ _ 26 rfl w.heap.size 5 i0 (.int .u8 0) 1 1 Tryz.underlying26 hi hz0 hz1 hz2 rfl (by decide) _ _ _ rfl (World.ownsRow.alloc hown1.out _) ⟨wr.heap.size, 0, none⟩ 1 1 [Value.int .u8 (y : Int)] rfl rfl ?c1 ?c2 ?c3 ?c4 ?c5 ?_)
      case c1 =>
        intro j u hj
        match j, hj with
        | 0, hj => simp at hj; subst hj; simp [Addr.add]
      case c2 => intro u hu; simp at hu; subst hu; rfl
      case c3 => unfold maxLen; simp; omega
      case c4 => simp; omega
      case c5 => simp; omega
      intro v' w1 hown' hgrow _
      have hnx1 : Below w.heap.size w w1 := (hnx.out.alloc (by omega) _).grown hgrow (by simp; omega) (fun k hk => (World.ownsRow.lt hown1.out k hk).1)
      have HO := hide (Own.snoc [] pre y (by omega) hown' (by simp) rfl)
      have HB := hide hnx1
      clear hown' hnx1 hgrow
      go_wp2
      go_ret
      refine ⟨v', rfl, ?_, HB.out⟩
      rw [hys.out.2, HS.out]
      exact HO.out

set_option maxRecDepth 100000 in
set_option maxHeartbeats 1000000 in
theorem refPut_any (v : Value) (l : List UInt8) (n : Int) (w : World) (hr : Rd w v l) (hlim : l.length ≤ 100000) :
    Calls Tryz.prog 19 #[v, .int .i64 n] w fun e w' => ∃ v', e = .returned v' ∧ Own w' w.heap.size v' (putOf l n) ∧ Below w.heap.size w w' := by
  have HR := hide hr
  clear hr
  by_cases h : 0 ≤ n ∧ n < 4611686018427387904
  · obtain ⟨h0, h1⟩ := h
    have HE : Hid (putOf l n = l ++ Lib.uvarint n.toNat) := if_pos ⟨h0, h1⟩
    have HL : Hid ((Lib.uvarint n.toNat).length ≤ 10) := Lib.uvarint_length64 (by omega)
    have HG : Hid (∀ w, Calls Tryz.prog 51 #[.int .u64 n] w fun e w' => ∃ v', e = .returned v' ∧ Own w' w.heap.size v' (Lib.uvarint n.toNat) ∧ Below w.heap.size w w') := by
      intro w
      have h := refGroups_any n.toNat w (by omega)
      have en : ((n.toNat : Nat) : Int) = n := Int.toNat_of_nonneg h0
      rwa [en] at h
    go_enter Tryz.func19, Tryz.ntmps19
    go_wp2_with (at_builtin; refine wpList_append_rd _ rfl _ _ rfl w.heap.size _ [] rfl (Own.nil _ _) _ l rfl HR.out (by simp; omega) (Nat.le_refl _) ?_)
    intro v1 w1 ho1 hb1
    have HO1 := hide ho1
    have HB1 := hide hb1
    clear ho1 hb1
    go_wp2_with fail
    refine (HG.out _).mono ?_
    rintro e w2 ⟨v2, rfl, ho2, hb2⟩
    have hs2 := HB1.out.size
    have HB2 := hide (HB1.out.trans (hb2.mono hs2))
    have HO2 := hide ho2
    have HO12 : Hid (Own w2 w.heap.size v1 l) := HO1.out.below hb2 (Nat.le_refl _)
    have hs3 := hb2.size
    clear ho2 hb2
    go_wp2_with (at_builtin; refine wpList_append_rd _ rfl _ _ rfl w.heap.size _ l rfl HO12.out _ (Lib.uvarint n.toNat) rfl HO2.out.rd (by have := HL.out; omega) (by omega) ?_)
    intro v3 w3 ho3 hb3
    have HO3 := hide ho3
    have HB3 := hide (HB2.out.trans hb3)
    clear ho3 hb3
    go_wp2
    go_ret
    exact ⟨v3, rfl, by rw [HE.out]; exact HO3.out, HB3.out⟩
  · have HE : Hid (putOf l n = l) := if_neg h
    by_cases h0 : n < 0
    all_goals
      go_enter Tryz.func19, Tryz.ntmps19
      go_wp2_with (at_builtin; refine wpList_append_rd _ rfl _ _ rfl w.heap.size _ [] rfl (Own.nil _ _) _ l rfl HR.out (by simp; omega) (Nat.le_refl _) ?_)
      intro v1 w1 ho1 hb1
      have HO1 := hide ho1
      have HB1 := hide hb1
      clear ho1 hb1
      go_wp2
      go_ret
      exact ⟨v1, rfl, by rw [HE.out]; exact HO1.out, HB1.out⟩

set_option maxRecDepth 100000 in
set_option maxHeartbeats 1000000 in
theorem refPutSigned_any (v : Value) (l : List UInt8) (n : Int) (w : World) (hr : Rd w v l) (hlim : l.length ≤ 100000) (h0 : -9223372036854775808 ≤ n) (h1 : n ≤ 9223372036854775807) :
    Calls Tryz.prog 20 #[v, .int .i64 n] w fun e w' => ∃ v', e = .returned v' ∧ Own w' w.heap.size v' (l ++ Lib.uvarint (Lib.zigzag n)) ∧ Below w.heap.size w w' := by
  have HR := hide hr
  clear hr
  have HL : Hid ((Lib.uvarint (Lib.zigzag n)).length ≤ 10) := Lib.uvarint_length64 (Lib.zigzag_lt h0 h1)
  have HG := hide (fun w => refGroups_any (Lib.zigzag n) w (Lib.zigzag_lt h0 h1))
  have HZ := hide (fun w => refZig_any n w h0 h1)
  generalize Lib.zigzag n = z at *
  go_enter Tryz.func20, Tryz.ntmps20
  go_wp2_with (at_builtin; refine wpList_append_rd _ rfl _ _ rfl w.heap.size _ [] rfl (Own.nil _ _) _ l rfl HR.out (by simp; omega) (Nat.le_refl _) ?_)
  intro v1 w1 ho1 hb1
  have HO1 := hide ho1
  have HB1 := hide hb1
  clear ho1 hb1
  go_wp2_with fail
  refine (HZ.out _).mono ?_
  rintro e w' ⟨rfl, rfl⟩
  go_wp2_with fail
  refine (HG.out _).mono ?_
  rintro e w2 ⟨v2, rfl, ho2, hb2⟩
  have hs2 := HB1.out.size
  have HB2 := hide (HB1.out.trans (hb2.mono hs2))
  have HO2 := hide ho2
  have HO12 : Hid (Own w2 w.heap.size v1 l) := HO1.out.below hb2 (Nat.le_refl _)
  have hs3 := hb2.size
  clear ho2 hb2
  go_wp2_with (at_builtin; refine wpList_append_rd _ rfl _ _ rfl w.heap.size _ l rfl HO12.out _ (Lib.uvarint z) rfl HO2.out.rd (by have := HL.out; omega) (by omega) ?_)
  intro v3 w3 ho3 hb3
  have HO3 := hide ho3
  have HB3 := hide (HB2.out.trans hb3)
  clear ho3 hb3
  go_wp2
  go_ret
  exact ⟨v3, rfl, HO3.out, HB3.out⟩

set_option maxRecDepth 100000 in
set_option maxHeartbeats 1000000 in
theorem fix_any (v c : Nat) (w : World) (hc : c ≤ 8) (hv : v < 18446744073709551616) :
    Calls Tryz.prog 55 #[.int .u64 (v : Int), .int .i64 (c : Int)] w fun e w' => ∃ v', e = .returned v' ∧ Own w' w.heap.size v' (Lib.leBytes c v) ∧ Below w.heap.size w w' := by
  obtain ⟨i0, hi, hz0, hz1, hz2⟩ := info_parts info8
  have HV := hide hv
  clear hv
  go_enter Tryz.func55, Tryz.ntmps55
  go_wp2
  go_loopw [0, 5, 6] (fun vn vb vi wr => ∃ k : Nat, k ≤ c ∧ vi = .int .i64 (k : Int) ∧ vn = .int .u64 ((v / 256 ^ k : Nat) : Int) ∧ Hid (Own wr w.heap.size vb ([] ++ Lib.leBytes k v)) ∧ Hid (Below w.heap.size w wr))
    (fun _ _ vi _ => c - (intOf vi).toNat)
  case atStart => exact ⟨0, Nat.zero_le _, rfl, by simp, Own.nil _ _, Below.refl _ _⟩
  case round =>
    obtain ⟨k, hk, rfl, rfl, hown1, hnx⟩ := hrel
    have hsz := hnx.out.size
    by_cases hlt : k < c
    · have HQ : Hid (v / 256 ^ (k + 1) = v / 256 ^ k / 256 ∧ Lib.leBytes (k + 1) v = Lib.leBytes k v ++ [(v / 256 ^ k % 256).toUInt8]) := ⟨by rw [Nat.pow_succ, Nat.div_div_eq_div_mul], leBytes_snoc k v⟩
      have hll := Lib.leBytes_length k v
      have HLL := hide hll
      have hl8 : (Lib.leBytes k v).length ≤ 8 := by omega
      have hyb : ((v / 256 ^ k : Nat) : Int) ≤ 18446744073709551615 := by have := Nat.div_le_self v (256 ^ k); have := HV.out; omega
      clear hll
      generalize v / 256 ^ k = y at *
      generalize Lib.leBytes k v = pre at *
      go_wp2_with (at_builtin; refine wpList_append_own _ rfl _ _ 26 rfl w.heap.size 5 i0 (.int .u8 0) 1 1 Tryz.underlying26 hi hz0 hz1 hz2 rfl (by decide) _ _ _ rfl (World.ownsRow.alloc hown1.out _) ⟨wr.heap.size, 0, none⟩ 1 1 [Value.int .u8 ((y % 256 : Nat) : Int)] rfl rfl ?c1 ?c2 ?c3 ?c4 ?c5 ?_)
      case c1 =>
        intro j u hj
        match j, hj with
        | 0, hj => simp at hj; subst hj; simp [Addr.add]
      case c2 => intro u hu; simp at hu; subst hu; rfl
      case c3 => unfold maxLen; simp; omega
      case c4 => simp; omega
      case c5 => simp; omega
      intro v' w1 hown' hgrow _
      have hnx1 : Below w.heap.size w w1 := (hnx.out.alloc (by omega) _).grown hgrow (by simp; omega) (fun k hk => (World.ownsRow.lt hown1.out k hk).1)
      have HO := hide (Own.snoc [] pre (y % 256) (by omega) hown' (by simp) (by omega))
      have HB := hide hnx1
      clear hown' hnx1 hgrow
      go_wp2
      go_roundw
      case rel => exact ⟨k + 1, by omega, by go_num, by rw [HQ.out.1]; go_num, by rw [HQ.out.2]; exact HO, HB⟩
      case measure => simp [intOf]; omega
    · go_wp2
      go_ret
      have e : k = c := by omega
      exact ⟨_, rfl, by rw [← e]; exact hown1.out, hnx.out⟩

end Go.Proofs.YtgpdbboieokldaaGreat

/- Contracts of ferrymanref05: PutOp, GetOp. -/
namespace Go.Proofs.YtgpdbboieokldaaGreat
open Go.RowKit

/-- What is put: the bytes, and no error; or what was there, and ErrArg. -/
def Putted (w : World) (l : List UInt8) (o : Opn) (e : Ending) (w' : World) : Prop :=
  ∃ v', e = .returned (.tuple #[v', .int .i64 (if FitsO o then 0 else 1)]) ∧ Own w' w.heap.size v' (if FitsO o then l ++ putOpL o else l) ∧ Below w.heap.size w w'

theorem putOf_small {l : List UInt8} {n : Int} (h0 : 0 ≤ n) (h1 : n < 4611686018427387904) : putOf l n = l ++ Lib.uvarint n.toNat := if_pos ⟨h0, h1⟩

theorem uv10 {n : Int} (h : I64 n) : (Lib.uvarint (Lib.zigzag n)).length ≤ 10 := Lib.uvarint_length64 (zig_lt h)

theorem uv10' {n : Nat} (h : n < 4611686018427387904) : (Lib.uvarint n).length ≤ 10 := Lib.uvarint_length64 (by omega)

theorem two_new (w : World) (X Y : Obj) : ((w.alloc X).alloc Y).heap[w.heap.size + 1]? = some Y := by
  have h := heap_alloc_new (w.alloc X) Y
  have e : (w.alloc X).heap.size = w.heap.size + 1 := by simp
  rwa [e] at h

/-- What is got: the operation and how many bytes. -/
def Gotten (w : World) (l : List UInt8) (e : Ending) (w' : World) : Prop :=
  e = .returned (.tuple #[opV (getOpL l).1, .int .i64 ((getOpL l).2 : Nat)]) ∧ Below w.heap.size w w'

end Go.Proofs.YtgpdbboieokldaaGreat

/- Contracts of ferrymanref06: Fits, Upgrade, has. -/
namespace Go.Proofs.YtgpdbboieokldaaGreat
open Go.RowKit

/-- A record as a value. -/
def recV (r : Rec) : Value := .agg #[.int .i64 r.idx, .int .i64 r.proc, .int .i64 r.seq, .int .i64 r.op.code, .int .i64 r.op.a, .int .i64 r.op.b, .int .i64 r.resp]

/-- A record's cells. -/
def recC (r : Rec) : Array Value := #[.int .i64 r.idx, .int .i64 r.proc, .int .i64 r.seq, .int .i64 r.op.code, .int .i64 r.op.a, .int .i64 r.op.b, .int .i64 r.resp]

def RecOk (r : Rec) : Prop := I64 r.idx ∧ I64 r.proc ∧ I64 r.seq ∧ OpOk r.op ∧ I64 r.resp

/-- A record's box. -/
def Br (w : World) (b : Nat) (cs : Array Value) : Prop := w.heap[b]? = some (.cells cs 99 (0, 0))

theorem Br.lt {w : World} {b : Nat} {cs : Array Value} (h : Br w b cs) : b < w.heap.size := (Array.getElem?_eq_some_iff.1 h).1

theorem Br.below {w w' : World} {b B : Nat} {cs : Array Value} (h : Br w b cs) (hb : Below B w w') (hB : w.heap.size ≤ B) : Br w' b cs := (hb.block b (by have := h.lt; omega)).trans h

theorem Br.cell {w : World} {b : Nat} {cs : Array Value} (h : Br w b cs) (j : Nat) : w.cell? ⟨b, j, none⟩ = cs[j]? ∧ w.frozen? ⟨b, j, none⟩ = false := ⟨cell_of_row w b j _ _ _ h, frozen_of_row w b j _ _ h⟩

theorem hasB (v f : Nat) : (decide (hasV v f)) = ((f : Int) == 1 || (f : Int) == 2 || (f : Int) == 4 || ((f : Int) == 3 && decide ((2 : Int) ≤ v)) || ((f : Int) == 5 && (v : Int) == 3)) := by
  rw [Bool.eq_iff_iff]
  simp only [decide_eq_true_iff, Bool.or_eq_true, Bool.and_eq_true, beq_iff_eq]
  unfold hasV
  omega

end Go.Proofs.YtgpdbboieokldaaGreat

/- Contracts of schema: within, Fits. -/
namespace Go.Proofs.YtgpdbboieokldaaGreat
open Go.RowKit

set_option maxRecDepth 100000 in
set_option maxHeartbeats 1000000 in
theorem inR_any (n a b : Int) (B : Bool) (hB : B = decide (a ≤ n ∧ n ≤ b)) (w : World) :
    Calls Tryz.prog 111 #[.int .i64 n, .int .i64 a, .int .i64 b] w fun e w' => e = .returned (.bool B) ∧ w' = w := by
  have HE := hide hB
  clear hB
  by_cases h1 : a ≤ n
  · by_cases h2 : n ≤ b
    · have HT : Hid (true = B) := hide (by rw [HE.out, decide_eq_true ⟨h1, h2⟩])
      clear HE
      go_enter Tryz.func111, Tryz.ntmps111
      go_wp2
      go_ret
      exact ⟨ret_b HT.out, rfl⟩
    · have HT : Hid (false = B) := hide (by rw [HE.out, decide_eq_false fun h => h2 h.2])
      clear HE
      go_enter Tryz.func111, Tryz.ntmps111
      go_wp2
      go_ret
      exact ⟨ret_b HT.out, rfl⟩
  · have HT : Hid (false = B) := hide (by rw [HE.out, decide_eq_false fun h => h1 h.1])
    clear HE
    go_enter Tryz.func111, Tryz.ntmps111
    go_wp2
    go_ret
    exact ⟨ret_b HT.out, rfl⟩

theorem belowSeven' {C : Nat} {w0 w : World} (h : Below C w0 w) (R : Nat) (hR : C ≤ R) (x0 x1 x2 x3 x4 x5 x6 : Value) : Below C w0 (((((((w.setCell ⟨R, 0, none⟩ x0).setCell ⟨R, 1, none⟩ x1).setCell ⟨R, 2, none⟩ x2).setCell ⟨R, 3, none⟩ x3).setCell ⟨R, 4, none⟩ x4).setCell ⟨R, 5, none⟩ x5).setCell ⟨R, 6, none⟩ x6) :=
  ((((((h.setCell hR _).setCell hR _).setCell hR _).setCell hR _).setCell hR _).setCell hR _).setCell hR _

theorem fitsR_parts (r : Rec) : FitsR r ↔ (0 ≤ r.idx ∧ r.idx ≤ 4611686018427387903) ∧ (0 ≤ r.proc ∧ r.proc ≤ 64) ∧ (0 ≤ r.seq ∧ r.seq ≤ 4611686018427387903) ∧ FitsO r.op ∧ (-1125899906842624 ≤ r.resp ∧ r.resp ≤ 1125899906842624) := by
  unfold FitsR
  constructor
  · rintro ⟨h1, h2, h3, h4, h5, h6, h7, h8, h9⟩
    exact ⟨⟨h2, by omega⟩, ⟨h6, h7⟩, ⟨h4, by omega⟩, h1, h8, h9⟩
  · rintro ⟨⟨h2, h3⟩, ⟨h6, h7⟩, ⟨h4, h5⟩, h1, h8, h9⟩
    exact ⟨h1, h2, by omega, h4, by omega, h6, h7, h8, h9⟩

set_option maxRecDepth 100000 in
set_option maxHeartbeats 2000000 in
theorem fitsR_any (r : Rec) (w : World) :
    Calls Tryz.prog 107 #[recV r] w fun e w' => e = .returned (.bool (decide (FitsR r))) ∧ Below w.heap.size w w' := by
  obtain ⟨B, hB⟩ : ∃ B, B = decide (FitsR r) := ⟨_, rfl⟩
  rw [← hB]
  have HP := hide (fitsR_parts r)
  have HF0 := hide (fun W => fits_any r.op W)
  have HB := hide hB
  clear hB
  obtain ⟨idx, proc, seq, ⟨code, a, b⟩, resp⟩ := r
  show Calls Tryz.prog _ #[.agg #[.int .i64 idx, .int .i64 proc, .int .i64 seq, .int .i64 code, .int .i64 a, .int .i64 b, .int .i64 resp]] w _
  have HB0 : Hid (∀ X, Below w.heap.size w (w.alloc X)) := fun X => (Below.refl _ _).alloc (Nat.le_refl _) X
  have X1 : Hid (∀ cs, Br (w.alloc (.cells cs 99)) w.heap.size cs) := fun cs => heap_alloc_new w _
  have HF : Hid (∀ W, Calls Tryz.prog 112 #[.agg #[.int .i64 code, .int .i64 a, .int .i64 b]] W fun e w' => e = .returned (.bool (decide (FitsO ⟨code, a, b⟩))) ∧ Below W.heap.size W w') := HF0.out
  clear HF0
  have HW := hide (fun n a b B hB W => inR_any n a b B hB W)
  by_cases h1 : 0 ≤ idx ∧ idx ≤ 4611686018427387903
  case neg =>
    have HT : Hid (false = B) := hide (by rw [HB.out, decide_eq_false fun h => h1 (HP.out.1 h).1])
    have HD := hide (decide_eq_false h1).symm
    clear HB HP h1 HF
    go_enter Tryz.func107, Tryz.ntmps107
    go_wp2_with fail
    refine (HW.out _ _ _ _ HD.out _).mono ?_
    rintro e W1 ⟨rfl, rfl⟩
    go_wp2
    go_ret
    exact ⟨ret_b HT.out, HB0.out _⟩
  have HD1 := hide (decide_eq_true h1).symm
  by_cases h2 : 0 ≤ proc ∧ proc ≤ 64
  case neg =>
    have HT : Hid (false = B) := hide (by rw [HB.out, decide_eq_false fun h => h2 (HP.out.1 h).2.1])
    have HD2 := hide (decide_eq_false h2).symm
    clear HB HP h1 h2 HF
    go_enter Tryz.func107, Tryz.ntmps107
    go_wp2_with fail
    refine (HW.out _ _ _ _ HD1.out _).mono ?_
    rintro e W1 ⟨rfl, rfl⟩
    go_wp2_with fail
    refine (HW.out _ _ _ _ HD2.out _).mono ?_
    rintro e W1 ⟨rfl, rfl⟩
    go_wp2
    go_ret
    exact ⟨ret_b HT.out, HB0.out _⟩
  have HD2 := hide (decide_eq_true h2).symm
  by_cases h3 : 0 ≤ seq ∧ seq ≤ 4611686018427387903
  case neg =>
    have HT : Hid (false = B) := hide (by rw [HB.out, decide_eq_false fun h => h3 (HP.out.1 h).2.2.1])
    have HD3 := hide (decide_eq_false h3).symm
    clear HB HP h1 h2 h3 HF
    go_enter Tryz.func107, Tryz.ntmps107
    go_wp2_with fail
    refine (HW.out _ _ _ _ HD1.out _).mono ?_
    rintro e W1 ⟨rfl, rfl⟩
    go_wp2_with fail
    refine (HW.out _ _ _ _ HD2.out _).mono ?_
    rintro e W1 ⟨rfl, rfl⟩
    go_wp2_with fail
    refine (HW.out _ _ _ _ HD3.out _).mono ?_
    rintro e W1 ⟨rfl, rfl⟩
    go_wp2
    go_ret
    exact ⟨ret_b HT.out, HB0.out _⟩
  have HD3 := hide (decide_eq_true h3).symm
  by_cases h4 : FitsO ⟨code, a, b⟩
  case neg =>
    have HT : Hid (false = B) := hide (by rw [HB.out, decide_eq_false fun h => h4 (HP.out.1 h).2.2.2.1])
    rw [decide_eq_false h4] at HF
    clear HB HP h1 h2 h3 h4
    go_enter Tryz.func107, Tryz.ntmps107
    go_wp2_with fail
    refine (HW.out _ _ _ _ HD1.out _).mono ?_
    rintro e W1 ⟨rfl, rfl⟩
    go_wp2_with fail
    refine (HW.out _ _ _ _ HD2.out _).mono ?_
    rintro e W1 ⟨rfl, rfl⟩
    go_wp2_with fail
    refine (HW.out _ _ _ _ HD3.out _).mono ?_
    rintro e W1 ⟨rfl, rfl⟩
    go_wp2_with fail
    refine (HF.out _).mono ?_
    rintro e W2 ⟨rfl, hb2⟩
    have HB2 := hide ((HB0.out _).trans (hb2.mono (HB0.out _).size))
    clear hb2
    go_wp2
    go_ret
    exact ⟨ret_b HT.out, HB2.out⟩
  rw [decide_eq_true h4] at HF
  by_cases h5 : -1125899906842624 ≤ resp ∧ resp ≤ 1125899906842624
  case neg =>
    have HT : Hid (false = B) := hide (by rw [HB.out, decide_eq_false fun h => h5 (HP.out.1 h).2.2.2.2])
    have HD5 := hide (decide_eq_false h5).symm
    clear HB HP h1 h2 h3 h4 h5
    go_enter Tryz.func107, Tryz.ntmps107
    go_wp2_with fail
    refine (HW.out _ _ _ _ HD1.out _).mono ?_
    rintro e W1 ⟨rfl, rfl⟩
    go_wp2_with fail
    refine (HW.out _ _ _ _ HD2.out _).mono ?_
    rintro e W1 ⟨rfl, rfl⟩
    go_wp2_with fail
    refine (HW.out _ _ _ _ HD3.out _).mono ?_
    rintro e W1 ⟨rfl, rfl⟩
    go_wp2_with fail
    refine (HF.out _).mono ?_
    rintro e W2 ⟨rfl, hb2⟩
    have hx2 := (X1.out _).below hb2 (Nat.le_refl _)
    have HB2 := hide ((HB0.out _).trans (hb2.mono (HB0.out _).size))
    obtain ⟨q6, -⟩ := hx2.cell 6
    clear hb2 hx2
    go_wp2_with fail
    refine (HW.out _ _ _ _ HD5.out _).mono ?_
    rintro e W3 ⟨rfl, rfl⟩
    go_wp2
    go_ret
    exact ⟨ret_b HT.out, HB2.out⟩
  have HT : Hid (true = B) := hide (by rw [HB.out, decide_eq_true (HP.out.2 ⟨h1, h2, h3, h4, h5⟩)])
  have HD5 := hide (decide_eq_true h5).symm
  clear HB HP h1 h2 h3 h4 h5
  go_enter Tryz.func107, Tryz.ntmps107
  go_wp2_with fail
  refine (HW.out _ _ _ _ HD1.out _).mono ?_
  rintro e W1 ⟨rfl, rfl⟩
  go_wp2_with fail
  refine (HW.out _ _ _ _ HD2.out _).mono ?_
  rintro e W1 ⟨rfl, rfl⟩
  go_wp2_with fail
  refine (HW.out _ _ _ _ HD3.out _).mono ?_
  rintro e W1 ⟨rfl, rfl⟩
  go_wp2_with fail
  refine (HF.out _).mono ?_
  rintro e W2 ⟨rfl, hb2⟩
  have hx2 := (X1.out _).below hb2 (Nat.le_refl _)
  have HB2 := hide ((HB0.out _).trans (hb2.mono (HB0.out _).size))
  obtain ⟨q6, -⟩ := hx2.cell 6
  clear hb2 hx2
  go_wp2_with fail
  refine (HW.out _ _ _ _ HD5.out _).mono ?_
  rintro e W3 ⟨rfl, rfl⟩
  go_wp2
  go_ret
  exact ⟨ret_b HT.out, HB2.out⟩

end Go.Proofs.YtgpdbboieokldaaGreat

/- Contract of objs: Same. -/
namespace Go.Proofs.YtgpdbboieokldaaGreat
open Go.RowKit

set_option maxRecDepth 100000 in
set_option maxHeartbeats 1000000 in
theorem sameS_any (va : Value) (a : St) (vb : Value) (b : St) (w : World) (ha : StV w va a) (hb : StV w vb b) :
    Calls Tryz.prog 37 #[va, vb] w fun e w' => e = .returned (.bool (decide (SameS a b))) ∧ Below w.heap.size w w' := by
  obtain ⟨vl, rfl, hr, -, -⟩ := ha
  obtain ⟨vm, rfl, hm, -, -⟩ := hb
  obtain ⟨k1, l1, s1, g1⟩ := a
  obtain ⟨k2, l2, s2, g2⟩ := b
  simp only at hr hm ⊢
  have HE : Hid (∀ W, Below w.heap.size w W → Calls Tryz.prog 26 #[vl, vm] W fun e w' => e = .returned (.bool (decide (l1 = l2))) ∧ Below W.heap.size W w') := fun W h => equalI_any vl l1 vm l2 W (hr.below h (Nat.le_refl _)) (hm.below h (Nat.le_refl _))
  have HBA : Hid (∀ x y, Below w.heap.size w ((w.alloc x).alloc y)) := fun x y => ((Below.refl _ _).alloc (Nat.le_refl _) x).alloc (by simp) y
  obtain ⟨R, hR⟩ : ∃ R, R = decide (SameS ⟨k1, l1, s1, g1⟩ ⟨k2, l2, s2, g2⟩) := ⟨_, rfl⟩
  rw [← hR]
  have HR := hide' hR
  clear hR hr hm
  by_cases h1 : k1 = k2
  · have q1 : (k1 == k2) = true := beq_iff_eq.2 h1
    have H1 := hide' h1
    clear h1
    by_cases h2 : s1 = s2
    · have q2 : (s1 == s2) = true := beq_iff_eq.2 h2
      have H2 := hide' h2
      clear h2
      by_cases h3 : g1 = g2
      · have q3 : (g1 == g2) = true := beq_iff_eq.2 h3
        have H3 := hide' h3
        clear h3
        go_enter Tryz.func37, Tryz.ntmps37
        go_wp2_with fail
        refine (HE.out _ (HBA.out _ _)).mono ?_
        rintro e W1 ⟨rfl, hb1⟩
        have HB1 := hide' ((HBA.out _ _).trans (hb1.mono (HBA.out _ _).size))
        clear hb1
        go_wp2
        go_ret
        refine ⟨ret_b ?_, HB1.out⟩
        rw [HR.out]
        exact decide_eq_decide.2 ⟨fun h => ⟨H1.out, H2.out, H3.out, h⟩, fun h => h.2.2.2⟩
      · have q3 : (g1 == g2) = false := beq_eq_false_iff_ne.2 h3
        have HF : Hid (R = false) := HR.out.trans (decide_eq_false fun h => h3 h.2.2.1)
        clear h3
        go_enter Tryz.func37, Tryz.ntmps37
        go_wp2
        go_ret
        exact ⟨ret_b HF.out.symm, HBA.out _ _⟩
    · have q2 : (s1 == s2) = false := beq_eq_false_iff_ne.2 h2
      have HF : Hid (R = false) := HR.out.trans (decide_eq_false fun h => h2 h.2.1)
      clear h2
      go_enter Tryz.func37, Tryz.ntmps37
      go_wp2
      go_ret
      exact ⟨ret_b HF.out.symm, HBA.out _ _⟩
  · have q1 : (k1 == k2) = false := beq_eq_false_iff_ne.2 h1
    have HF : Hid (R = false) := HR.out.trans (decide_eq_false fun h => h1 h.1)
    clear h1
    go_enter Tryz.func37, Tryz.ntmps37
    go_wp2
    go_ret
    exact ⟨ret_b HF.out.symm, HBA.out _ _⟩

end Go.Proofs.YtgpdbboieokldaaGreat

/- Contracts of snapshot: mayEntry, mayTable, May, Same; over entries slices.Equal. -/
namespace Go.Proofs.YtgpdbboieokldaaGreat
open Go.RowKit

set_option maxRecDepth 100000 in
set_option maxHeartbeats 1000000 in
theorem mayEntry_any (e : Ent) (w : World) :
    Calls Tryz.prog 94 #[entV e] w fun x w' => x = .returned (.bool (decide (EntOk e))) ∧ Below w.heap.size w w' := by
  have HF := hide (fun W => fitsR_any ⟨0, e.proc, e.seq, ⟨0, 0, 0⟩, e.resp⟩ W)
  have hd : decide (FitsR ⟨0, e.proc, e.seq, ⟨0, 0, 0⟩, e.resp⟩) = decide (EntOk e) := decide_eq_decide.2 (entOk_rec e)
  rw [hd] at HF
  clear hd
  generalize decide (EntOk e) = D at *
  obtain ⟨p, s, r⟩ := e
  unfold entV recV at *
  dsimp only at *
  have HB0 : Hid (∀ X, Below w.heap.size w (w.alloc X)) := fun X => (Below.refl _ _).alloc (Nat.le_refl _) X
  go_enter Tryz.func94, Tryz.ntmps94
  go_wp2_with fail
  refine (HF.out _).mono ?_
  rintro x W1 ⟨rfl, hb1⟩
  have HB1 := hide ((HB0.out _).trans (hb1.mono (HB0.out _).size))
  clear hb1
  go_wp2
  go_ret
  exact ⟨rfl, HB1.out⟩

set_option maxRecDepth 100000 in
set_option maxHeartbeats 2000000 in
theorem mayTable_any (v : Value) (t : List Ent) (w : World) (hr : RdE w v t) :
    Calls Tryz.prog 68 #[v] w fun x w' => x = .returned (.bool (decide (TabOk t))) ∧ Below w.heap.size w w' := by
  obtain ⟨va, vc, rfl, hlc, hcm, -, hw, hao⟩ := hr
  have HAO := hide hao
  have hml : (t.length : Int) ≤ 9223372036854775807 := by unfold maxLen at hcm; omega
  obtain ⟨D, hD⟩ : ∃ D, D = decide (TabOk t) := ⟨_, rfl⟩
  rw [← hD]
  have HD1 : Hid (TabTo t t.length → D = true) := hide (fun h => by rw [hD]; exact decide_eq_true h)
  have HD0 : Hid (∀ k, k < t.length → ¬ TabTo t (k + 1) → D = false) := hide (fun k hk h => by rw [hD]; exact decide_eq_false (fun h2 => h (TabTo.mono h2 hk)))
  have HM := hide (fun e W => mayEntry_any e W)
  have HL0 : Hid (leastP t 0 = 0) := hide rfl
  have HL1 : Hid (∀ k, leastP t (k + 1) = (t.getD k zeroE).proc + 1) := hide (fun k => rfl)
  have HN : Hid (∀ k, TabTo t (k + 1) ↔ TabTo t k ∧ EntOk (t.getD k zeroE) ∧ leastP t k ≤ (t.getD k zeroE).proc) := hide (fun k => tabTo_least)
  clear hD hcm hlc hao hw
  go_enter Tryz.func68, Tryz.ntmps68
  go_wp2
  go_loopw [3, 8] (fun vl vi wr => ∃ (k : Nat) (ls : Int), vi = .int .i64 (k : Int) ∧ vl = .int .i64 ls ∧ k ≤ t.length ∧ Hid (ls = leastP t k) ∧ Hid (TabTo t k) ∧ Hid (Below w.heap.size w wr)) (fun _ vi _ => t.length - (intOf vi).toNat)
  case atStart => exact ⟨0, 0, rfl, rfl, Nat.zero_le _, hide HL0.out.symm, hide (TabTo.zero t), Below.refl _ _⟩
  case round =>
    obtain ⟨k, ls, rfl, rfl, hk, hLS, hT, hB⟩ := hrel
    by_cases hlt : k < t.length
    case neg =>
      obtain rfl : k = t.length := by omega
      have HT := hide (HD1.out hT.out)
      go_wp2
      go_ret
      rw [HT.out]
      exact ⟨rfl, hB.out⟩
    have hki : (k : Int) < (t.length : Int) := by omega
    rcases HAO.out with h0 | ⟨c, off, rfl, hc⟩
    · rw [h0] at hlt; simp at hlt
    obtain ⟨c0, c1, c2⟩ := (hc k hlt).keep (hB.out.block c (hc k hlt).lt)
    have HNK := hide (HN.out k)
    have HDK := hide (HD0.out k hlt)
    have HL1K := hide (HL1.out k)
    have HMK := hide (fun W => HM.out (t.getD k zeroE) W)
    rw [← hLS.out] at HNK
    obtain ⟨e, he⟩ : ∃ e, e = t.getD k zeroE := ⟨_, rfl⟩
    rw [← he] at c0 c1 c2 HNK HL1K HMK
    clear he hc HM HN HD0 HD1 HL1 HL0 HAO
    obtain ⟨dk, hdk⟩ : ∃ dk, dk = decide (EntOk e) := ⟨_, rfl⟩
    rw [← hdk] at HMK
    have HDD := hide hdk
    have HB2 : Hid (∀ X, Below w.heap.size w (wr.alloc X)) := hide (fun X => hB.out.alloc hB.out.size X)
    have HX : Hid (∀ cs, Be (wr.alloc (.cells cs 48)) wr.heap.size cs) := hide (fun cs => heap_alloc_new wr _)
    clear hdk
    unfold entV at HMK
    have HPB : Hid (dk = true → 0 ≤ e.proc ∧ e.proc ≤ 64) := hide (fun h => by
      have : EntOk e := of_decide_eq_true (HDD.out.symm.trans h)
      exact ⟨this.1, this.2.1⟩)
    by_cases hls : e.proc < ls
    · have HF := hide (HDK.out (fun h => by have := (HNK.out.1 h).2.2; omega))
      obtain ⟨p, s, r⟩ := e
      dsimp only at *
      clear HNK HDK HMK HDD
      go_wp2
      go_ret
      rw [HF.out]
      exact ⟨rfl, HB2.out _⟩
    · have hnl : ls ≤ e.proc := by omega
      have HNK2 : Hid (dk = true → TabTo t (k + 1)) := hide (fun h => HNK.out.2 ⟨hT.out, of_decide_eq_true (HDD.out.symm.trans h), hnl⟩)
      have HNF : Hid (dk = false → D = false) := hide (fun h => HDK.out (fun h2 => by
        have h3 := (HNK.out.1 h2).2.1
        have h4 : dk = true := HDD.out.trans (decide_eq_true h3)
        rw [h] at h4
        cases h4))
      obtain ⟨p, s, r⟩ := e
      dsimp only at *
      clear HNK HDK HDD
      go_wp2_with fail
      refine (HMK.out _).mono ?_
      rintro x W1 ⟨rfl, hb1⟩
      have HB3 := hide ((HB2.out _).trans (hb1.mono (HB2.out _).size))
      have HX3 := hide ((HX.out _).below hb1 (Nat.le_refl _))
      obtain ⟨q0, f0⟩ := HX3.out.cell 0
      clear hb1 HMK
      cases dk with
      | false =>
        have HF := hide (HNF.out rfl)
        go_wp2
        go_ret
        rw [HF.out]
        exact ⟨rfl, HB3.out⟩
      | true =>
        obtain ⟨hp0, hp1⟩ := HPB.out rfl
        have hT2 := hide (HNK2.out rfl)
        go_wp2
        go_roundw
        case rel => exact ⟨k + 1, p + 1, by go_num, by go_num, by omega, hide HL1K.out.symm, hT2, HB3⟩
        case measure => simp [intOf]; omega

set_option maxRecDepth 100000 in
set_option maxHeartbeats 2000000 in
theorem mayN_any (v : Value) (s : Snap) (w : World) (hs : SnV w v s) :
    Calls Tryz.prog 28 #[v] w fun e w' => e = .returned (.bool (decide (MayN s))) ∧ Below w.heap.size w w' := by
  obtain ⟨vl, vt, rfl, hl, hk, he, ht, hi⟩ := hs
  have HB0 : Hid (∀ X, Below w.heap.size w (w.alloc X)) := fun X => (Below.refl _ _).alloc (Nat.le_refl _) X
  have HX : Hid (∀ cs, Bn (w.alloc (.cells cs 39)) w.heap.size cs) := hide (fun cs => heap_alloc_new w _)
  have HM := hide (fun W (h : Below w.heap.size w W) => may_any (.agg #[.int .i64 s.st.kind, vl, .bool s.st.shut, .int .i64 s.st.eng]) s.st W ⟨vl, rfl, hl.below h (Nat.le_refl _), hk, he⟩)
  have HT := hide (fun W (h : Below w.heap.size w W) => mayTable_any vt s.tab W (ht.below h (Nat.le_refl _)))
  obtain ⟨la, lc, hvl, -⟩ := hl
  obtain ⟨ta, tc, hvt⟩ := ht.shape
  subst hvl hvt
  clear ht
  obtain ⟨D, hD⟩ : ∃ D, D = decide (MayN s) := ⟨_, rfl⟩
  rw [← hD]
  have HD : Hid (D = decide (MayN s)) := hide hD
  have HU : Hid (MayN s ↔ (0 ≤ s.idx ∧ s.idx < 4611686018427387904) ∧ MayS s.st ∧ TabOk s.tab) := hide Iff.rfl
  obtain ⟨m, hm⟩ : ∃ m, m = decide (MayS s.st) := ⟨_, rfl⟩
  obtain ⟨n, hn⟩ : ∃ n, n = decide (TabOk s.tab) := ⟨_, rfl⟩
  rw [← hm] at HM
  rw [← hn] at HT
  have HMM := hide hm
  have HNN := hide hn
  clear hD hm hn hk he hi
  obtain ⟨idx, ⟨kind, L, shut, eng⟩, tab⟩ := s
  dsimp only at *
  by_cases h0 : 0 ≤ idx
  case neg =>
    have HF : Hid (D = false) := hide (by rw [HD.out]; exact decide_eq_false (fun h => h0 (HU.out.1 h).1.1))
    go_enter Tryz.func28, Tryz.ntmps28
    go_wp2
    go_ret
    rw [HF.out]
    exact ⟨rfl, HB0.out _⟩
  by_cases h1 : idx < 4611686018427387904
  case neg =>
    have HF : Hid (D = false) := hide (by rw [HD.out]; exact decide_eq_false (fun h => h1 (HU.out.1 h).1.2))
    go_enter Tryz.func28, Tryz.ntmps28
    go_wp2
    go_ret
    rw [HF.out]
    exact ⟨rfl, HB0.out _⟩
  have HDD : Hid (D = (m && n)) := hide (by
    rw [HD.out, HMM.out, HNN.out, ← Bool.decide_and]
    exact decide_eq_decide.2 (HU.out.trans ⟨fun h => h.2, fun h => ⟨⟨h0, h1⟩, h⟩⟩))
  clear HD HU HMM HNN
  go_enter Tryz.func28, Tryz.ntmps28
  go_wp2_with fail
  refine (HM.out _ (HB0.out _)).mono ?_
  rintro x W1 ⟨rfl, hb1⟩
  have HB1 := hide ((HB0.out _).trans (hb1.mono (HB0.out _).size))
  have HX1 := hide ((HX.out _).below hb1 (Nat.le_refl _))
  obtain ⟨q5, f5⟩ := HX1.out.cell 5
  clear hb1 HM
  cases m with
  | false =>
    go_wp2
    go_ret
    rw [HDD.out]
    exact ⟨rfl, HB1.out⟩
  | true =>
    go_wp2_with fail
    refine (HT.out _ HB1.out).mono ?_
    rintro x W2 ⟨rfl, hb2⟩
    have HB2 := hide (HB1.out.trans (hb2.mono HB1.out.size))
    clear hb2 HT
    go_wp2
    go_ret
    rw [HDD.out]
    exact ⟨rfl, HB2.out⟩

set_option maxRecDepth 100000 in
set_option maxHeartbeats 2000000 in
theorem equalE_any (va : Value) (A : List Ent) (vb : Value) (B : List Ent) (w : World) (ha : RdE w va A) (hb : RdE w vb B) :
    Calls Tryz.prog 27 #[va, vb] w fun e w' => e = .returned (.bool (decide (A = B))) ∧ Below w.heap.size w w' := by
  obtain ⟨aa, ac, rfl, hlc, hcm, -, -, haa⟩ := ha
  obtain ⟨ba, bc, rfl, -, hcm', -, -, hab⟩ := hb
  have HAA := hide haa
  have HAB := hide hab
  obtain ⟨D, hD⟩ : ∃ D, D = decide (A = B) := ⟨_, rfl⟩
  rw [← hD]
  have HD1 : Hid (A = B → D = true) := fun h => by rw [hD]; exact decide_eq_true h
  have HD0 : Hid (¬ A = B → D = false) := fun h => by rw [hD]; exact decide_eq_false h
  have hgd := guard_ent
  have hml : (A.length : Int) ≤ 9223372036854775807 := by unfold maxLen at hcm; omega
  clear hD haa hab hcm hcm'
  by_cases hlen : A.length = B.length
  case neg =>
    have hne : ((A.length : Int) != (B.length : Int)) = true := by rw [bne_iff_ne]; omega
    have HE := hide (HD0.out (fun h => hlen (by rw [h])))
    clear hlen
    go_enter Tryz.func27, Tryz.ntmps27
    go_wp2
    go_ret
    rw [HE.out]
    exact ⟨rfl, Below.refl _ _⟩
  have hne : ((A.length : Int) != (B.length : Int)) = false := by rw [bne_eq_false_iff_eq]; omega
  have HLEN := hide hlen
  have HDT : Hid (A.take A.length = B.take A.length → D = true) := hide (fun h => HD1.out (by
    rw [List.take_length, HLEN.out, List.take_length] at h
    exact h))
  have HDF : Hid (∀ k, k < A.length → A.getD k zeroE ≠ B.getD k zeroE → D = false) := hide (fun k hk h => HD0.out (fun hs => h (by rw [hs])))
  clear hlen HD1 HD0
  go_enter Tryz.func27, Tryz.ntmps27
  go_wp2
  go_loopw [13] (fun vi wr => ∃ k : Nat, vi = .int .i64 (k : Int) ∧ k ≤ A.length ∧ Hid (A.take k = B.take k) ∧ Hid (∃ n, wr = w.drewN n)) (fun vi _ => A.length - (intOf vi).toNat)
  case atStart => exact ⟨0, rfl, Nat.zero_le _, rfl, ⟨0, rfl⟩⟩
  case round =>
    obtain ⟨k, rfl, hk, hP, hW⟩ := hrel
    obtain ⟨nw, hwr⟩ := hW.out
    subst hwr
    by_cases hlt : k < A.length
    case neg =>
      obtain rfl : k = A.length := by omega
      have HT := hide (HDT.out hP.out)
      go_wp2
      go_ret
      rw [HT.out]
      exact ⟨rfl, below_drewN (Below.refl _ _) _⟩
    rcases HAA.out with h0 | ⟨c, off, rfl, hc⟩
    · rw [h0] at hlt; simp at hlt
    rcases HAB.out with h0 | ⟨c', off', rfl, hc'⟩
    · have hlen := HLEN.out; rw [h0] at hlen; simp at hlen; rw [hlen] at hlt; simp at hlt
    obtain ⟨c0, c1, c2⟩ := hc k hlt
    obtain ⟨d0, d1, d2⟩ := hc' k (by have := HLEN.out; omega)
    have hki : (k : Int) < (A.length : Int) := by omega
    have hkj : (k : Int) < (B.length : Int) := by have := HLEN.out; omega
    have HNE := hide (HDF.out k hlt)
    have HPN : Hid (A.getD k zeroE = B.getD k zeroE → A.take (k + 1) = B.take (k + 1)) := fun h => by rw [takeE_snoc hlt, takeE_snoc (by have := HLEN.out; omega), hP.out, h]
    clear hc hc' HDT HDF
    generalize A.getD k zeroE = r at *
    generalize B.getD k zeroE = s at *
    by_cases hrs : r = s
    · subst hrs
      have HP1 := hide (HPN.out rfl)
      have hneq := fun W => neq_ent W r r
      rw [eqEnt_self] at hneq
      clear HNE HPN
      go_upto_region 6 with fail
      go_quiet (fail)
      go_wp2
      go_roundw
      case rel => exact ⟨k + 1, by go_num, by omega, HP1, ⟨_, rfl⟩⟩
      case measure => simp [intOf]; omega
    · have HD := hide (HNE.out hrs)
      have hneq := fun W => neq_ent W r s
      rw [eqEnt_not hrs] at hneq
      clear HNE HPN hrs
      go_upto_region 6 with fail
      go_quiet (fail)
      go_wp2
      go_ret
      rw [HD.out]
      exact ⟨rfl, below_drewN (below_drewN (Below.refl _ _) _) _⟩

set_option maxRecDepth 100000 in
set_option maxHeartbeats 2000000 in
theorem sameN_any (va : Value) (a : Snap) (vb : Value) (b : Snap) (w : World) (ha : SnV w va a) (hb : SnV w vb b) :
    Calls Tryz.prog 14 #[va, vb] w fun e w' => e = .returned (.bool (decide (SameN a b))) ∧ Below w.heap.size w w' := by
  obtain ⟨vl, vt, rfl, hl, hk, he, ht, hi⟩ := ha
  obtain ⟨vl', vt', rfl, hl', hk', he', ht', hi'⟩ := hb
  have HB0 : Hid (∀ X Y, Below w.heap.size w ((w.alloc X).alloc Y)) := fun X Y => ((Below.refl _ _).alloc (Nat.le_refl _) X).alloc (by simp) Y
  have HX0 : Hid (∀ cs ds, Bn ((w.alloc (.cells cs 39)).alloc (.cells ds 39)) w.heap.size cs) := fun cs ds => (Below.heap_alloc _ _ _ (by simp)).trans (heap_alloc_new w _)
  have HY0 : Hid (∀ cs ds, Bn ((w.alloc (.cells cs 39)).alloc (.cells ds 39)) (w.heap.size + 1) ds) := fun cs ds => new_two w _ _
  have HM := hide (fun W (h : Below w.heap.size w W) => sameS_any (.agg #[.int .i64 a.st.kind, vl, .bool a.st.shut, .int .i64 a.st.eng]) a.st (.agg #[.int .i64 b.st.kind, vl', .bool b.st.shut, .int .i64 b.st.eng]) b.st W ⟨vl, rfl, hl.below h (Nat.le_refl _), hk, he⟩ ⟨vl', rfl, hl'.below h (Nat.le_refl _), hk', he'⟩)
  have HT := hide (fun W (h : Below w.heap.size w W) => equalE_any vt a.tab vt' b.tab W (ht.below h (Nat.le_refl _)) (ht'.below h (Nat.le_refl _)))
  obtain ⟨la, lc, hvl, -⟩ := hl
  obtain ⟨la', lc', hvl', -⟩ := hl'
  obtain ⟨ta, tc, hvt⟩ := ht.shape
  obtain ⟨ta', tc', hvt'⟩ := ht'.shape
  subst hvl hvt hvl' hvt'
  obtain ⟨D, hD⟩ : ∃ D, D = decide (SameN a b) := ⟨_, rfl⟩
  rw [← hD]
  have HD : Hid (D = decide (SameN a b)) := hide hD
  have HU : Hid (SameN a b ↔ SameS a.st b.st ∧ a.idx = b.idx ∧ a.tab = b.tab) := hide Iff.rfl
  obtain ⟨m, hm⟩ : ∃ m, m = decide (SameS a.st b.st) := ⟨_, rfl⟩
  obtain ⟨n, hn⟩ : ∃ n, n = decide (a.tab = b.tab) := ⟨_, rfl⟩
  rw [← hm] at HM
  rw [← hn] at HT
  have HMM := hide hm
  have HNN := hide hn
  clear hD hm hn hk he hi hk' he' hi' ht ht'
  obtain ⟨idx, ⟨kind, L, shut, eng⟩, tab⟩ := a
  obtain ⟨idx', ⟨kind', L', shut', eng'⟩, tab'⟩ := b
  dsimp only at *
  by_cases h0 : idx = idx'
  case neg =>
    have h0d : (idx == idx') = false := beq_eq_false_iff_ne.2 h0
    have HF : Hid (D = false) := hide (by rw [HD.out]; exact decide_eq_false (fun h => h0 (HU.out.1 h).2.1))
    clear h0
    go_enter Tryz.func14, Tryz.ntmps14
    go_wp2
    go_ret
    rw [HF.out]
    exact ⟨rfl, HB0.out _ _⟩
  have h0d : (idx == idx') = true := beq_iff_eq.2 h0
  have HDD : Hid (D = (m && n)) := hide (by
    rw [HD.out, HMM.out, HNN.out, ← Bool.decide_and]
    exact decide_eq_decide.2 (HU.out.trans ⟨fun h => ⟨h.1, h.2.2⟩, fun h => ⟨h.1, h0, h.2⟩⟩))
  clear HD HU HMM HNN h0
  go_enter Tryz.func14, Tryz.ntmps14
  go_wp2_with fail
  refine (HM.out _ (HB0.out _ _)).mono ?_
  rintro x W1 ⟨rfl, hb1⟩
  have HB1 := hide ((HB0.out _ _).trans (hb1.mono (HB0.out _ _).size))
  have HX1 := hide ((HX0.out _ _).below hb1 (Nat.le_refl _))
  have HY1 := hide ((HY0.out _ _).below hb1 (Nat.le_refl _))
  obtain ⟨q5, f5⟩ := HX1.out.cell 5
  obtain ⟨r5, g5⟩ := HY1.out.cell 5
  clear hb1 HM
  cases m with
  | false =>
    go_wp2
    go_ret
    rw [HDD.out]
    exact ⟨rfl, HB1.out⟩
  | true =>
    go_wp2_with fail
    refine (HT.out _ HB1.out).mono ?_
    rintro x W2 ⟨rfl, hb2⟩
    have HB2 := hide (HB1.out.trans (hb2.mono HB1.out.size))
    clear hb2 HT
    go_wp2
    go_ret
    rw [HDD.out]
    exact ⟨rfl, HB2.out⟩

end Go.Proofs.YtgpdbboieokldaaGreat

/- A call of a Go function as one step of a region that draws its order. -/
namespace Go.Proofs.YtgpdbboieokldaaGreat
open Go.RowKit

theorem step_call {ops : Array Oper} {o : Oper} {a : Act} {w : World} {K : Act → World → Prop} {Q : Exit → Act → World → Prop} {E : Prop} {R : Value → World → Prop}
    (f : FuncId) (xs : Array Operand) (ts : Array TypeId) (hg : o.guard = none) (hop : o.op = Op.call { callee := Callee.value (Operand.func f), args := xs, argTypes := ts }) (vals : Array Value) (hv : xs.map a.eval = vals)
    (hE : ∀ args w, (callFunc f args).run Tryz.prog w = .ok (.enter f args) w) (hC : Calls Tryz.prog f vals w fun e w' => ∃ v', e = .returned v' ∧ R v' w') (hK : ∀ v' w', R v' w' → K (a.put o.dst v') w') :
    if Region.wanted o (yielded ops a.tmps) = true then Oper.wp Tryz.prog o a w K Q else E := by
  have hw : Region.wanted o (yielded ops a.tmps) = true := by simp [Region.wanted, hg]
  rw [if_pos hw]
  unfold Oper.wp
  have h : (execOp a.eval o).run Tryz.prog w = .ok (.enter f vals) w := by
    have he : a.eval (Operand.func f) = .func (.func f) #[] #[] := rfl
    simp [execOp, hop, resolve, invoke, hv, he, Deferred.ofValue, hE]
  rw [h, Oper.upon_enter]
  refine hC.mono ?_
  rintro e w' ⟨v', rfl, hr⟩
  exact hK v' w' hr

end Go.Proofs.YtgpdbboieokldaaGreat

/- Contract of delta: Diff. -/
namespace Go.Proofs.YtgpdbboieokldaaGreat
open Go.RowKit

theorem diffD_bad {a b : Snap} (h : ¬ MayN a ∨ ¬ MayN b ∨ a.st.kind ≠ b.st.kind) : diffD a b = (zeroD, 1) := by unfold diffD; rw [if_pos h]

theorem diffD_gap {a b : Snap} (h1 : MayN a) (h2 : MayN b) (h3 : a.st.kind = b.st.kind) (h : b.idx < a.idx ∨ ¬ Covers a.tab b.tab) : diffD a b = (zeroD, 15) := by
  unfold diffD
  rw [if_neg (by rintro (h | h | h) <;> first | exact h h1 | exact h h2 | exact h h3), if_pos h]

theorem diffD_ok {a b : Snap} (h1 : MayN a) (h2 : MayN b) (h3 : a.st.kind = b.st.kind) (h4 : ¬ b.idx < a.idx) (h5 : Covers a.tab b.tab) :
    diffD a b = (⟨a.idx, b.idx, (preL a.st.L b.st.L : Nat), (sufL a.st.L b.st.L : Nat), midL a.st.L b.st.L, b.st.shut, b.st.eng, diffT a.tab b.tab⟩, 0) := by
  unfold diffD
  rw [if_neg (by rintro (h | h | h) <;> first | exact h h1 | exact h h2 | exact h h3), if_neg (by rintro (h | h) <;> first | exact h4 h | exact h h5)]

theorem midL_i64 {a b : List Int} (h : ∀ n ∈ b, I64 n) : ∀ n ∈ midL a b, I64 n := fun n hn => h n (List.mem_of_mem_drop (List.mem_of_mem_take hn))

theorem diffT_i {a b : List Ent} (h : ∀ e ∈ b, EntI e) : ∀ e ∈ diffT a b, EntI e := fun e he => h e (List.mem_filter.1 he).1

theorem RdE.i {w : World} {v : Value} {l : List Ent} (h : RdE w v l) : ∀ e ∈ l, EntI e := by
  obtain ⟨_, _, _, _, _, _, hw, _⟩ := h
  exact hw

theorem RdI.cap {w : World} {ao : Option Addr} {n cap : Nat} {l : List Int} (h : RdI w (.slice ao n cap) l) : l.length ≤ cap := by
  obtain ⟨ao', cap', hv, h1, _⟩ := h
  simp only [Value.slice.injEq] at hv
  omega

set_option maxRecDepth 100000 in
set_option maxHeartbeats 8000000 in
theorem diff_any (va : Value) (a : Snap) (vb : Value) (b : Snap) (w : World) (ha : SnV w va a) (hb : SnV w vb b) :
    Calls Tryz.prog 12 #[va, vb] w fun e w' => GivenD w (diffD a b) e w' := by
  have HMA : Hid (∀ W, Below w.heap.size w W → Calls Tryz.prog 28 #[va] W fun e w' => e = .returned (.bool (decide (MayN a))) ∧ Below W.heap.size W w') := hide (fun W h => mayN_any va a W (ha.below h (Nat.le_refl _)))
  have HMB : Hid (∀ W, Below w.heap.size w W → Calls Tryz.prog 28 #[vb] W fun e w' => e = .returned (.bool (decide (MayN b))) ∧ Below W.heap.size W w') := hide (fun W h => mayN_any vb b W (hb.below h (Nat.le_refl _)))
  obtain ⟨vl, vt, rfl, hl, hk, he, ht, hi⟩ := ha
  obtain ⟨vl', vt', rfl, hl', hk', he', ht', hi'⟩ := hb
  have HPR : Hid (∀ W, Below w.heap.size w W → Calls Tryz.prog 29 #[vt', vt] W fun e w' => e = .returned (.bool (decide (Covers a.tab b.tab))) ∧ Below W.heap.size W w') := hide (fun W h => hasProcs_any vt' b.tab vt a.tab W (ht'.below h (Nat.le_refl _)) (ht.below h (Nat.le_refl _)))
  have HAH : Hid (∀ W, Below w.heap.size w W → Calls Tryz.prog 30 #[vl, vl'] W fun e w' => e = .returned (.int .i64 ((preL a.st.L b.st.L : Nat) : Int)) ∧ Below W.heap.size W w') := hide (fun W h => alikeAhead_any vl a.st.L vl' b.st.L W (hl.below h (Nat.le_refl _)) (hl'.below h (Nat.le_refl _)))
  have HNE : Hid (∀ W, b.tab.length ≤ 1000000 → Below w.heap.size w W → Calls Tryz.prog 33 #[vt, vt'] W fun e w' => ∃ v', e = .returned v' ∧ OwnE w' W.heap.size v' (diffT a.tab b.tab) ∧ Below W.heap.size W w') := hide (fun W h0 h => newEntries_any vt a.tab vt' b.tab W (ht.below h (Nat.le_refl _)) (ht'.below h (Nat.le_refl _)) h0)
  have HLI := hide (midL_i64 (a := a.st.L) hl'.i64)
  have HTI := hide (diffT_i (a := a.tab) ht'.i)
  obtain ⟨la, lc, e1⟩ := hl.shape
  obtain ⟨la', lc', e2⟩ := hl'.shape
  obtain ⟨ta, tc, e3⟩ := ht.shape
  obtain ⟨ta', tc', e4⟩ := ht'.shape
  subst e1 e2 e3 e4
  have HLA := hide hl
  have HLB := hide hl'
  have HI := hide (And.intro hi (And.intro hi' he'))
  obtain ⟨W0, hW0⟩ : ∃ W0, W0 = ((w.alloc (.cells #[.int .i64 a.idx, .int .i64 a.st.kind, .slice la a.st.L.length lc, .bool a.st.shut, .int .i64 a.st.eng, .slice ta a.tab.length tc] 39)).alloc (.cells #[.int .i64 b.idx, .int .i64 b.st.kind, .slice la' b.st.L.length lc', .bool b.st.shut, .int .i64 b.st.eng, .slice ta' b.tab.length tc'] 39)).alloc (.cells #[.int .i64 0, .int .i64 0, .int .i64 0, .int .i64 0, .slice none 0 0, .bool false, .int .i64 0, .slice none 0 0] 25) := ⟨_, rfl⟩
  have h3 := new_three w (.cells #[.int .i64 a.idx, .int .i64 a.st.kind, .slice la a.st.L.length lc, .bool a.st.shut, .int .i64 a.st.eng, .slice ta a.tab.length tc] 39) (.cells #[.int .i64 b.idx, .int .i64 b.st.kind, .slice la' b.st.L.length lc', .bool b.st.shut, .int .i64 b.st.eng, .slice ta' b.tab.length tc'] 39) (.cells #[.int .i64 0, .int .i64 0, .int .i64 0, .int .i64 0, .slice none 0 0, .bool false, .int .i64 0, .slice none 0 0] 25)
  rw [← hW0] at h3
  obtain ⟨hA, hB, hC⟩ := h3
  have HB0 : Hid (Below w.heap.size w W0) := hide (by rw [hW0]; exact below_three w _ _ _)
  have HX0 : Hid (Bn W0 w.heap.size #[.int .i64 a.idx, .int .i64 a.st.kind, .slice la a.st.L.length lc, .bool a.st.shut, .int .i64 a.st.eng, .slice ta a.tab.length tc]) := hide hA
  have HY0 : Hid (Bn W0 (w.heap.size + 1) #[.int .i64 b.idx, .int .i64 b.st.kind, .slice la' b.st.L.length lc', .bool b.st.shut, .int .i64 b.st.eng, .slice ta' b.tab.length tc']) := hide hB
  have HZ0 : Hid (Bd W0 (w.heap.size + 1 + 1) #[.int .i64 0, .int .i64 0, .int .i64 0, .int .i64 0, .slice none 0 0, .bool false, .int .i64 0, .slice none 0 0]) := hide hC
  have HW0 := hide hW0
  have HBAD := hide (diffD_bad (a := a) (b := b))
  have HGAP := hide (diffD_gap (a := a) (b := b))
  have HOK := hide (diffD_ok (a := a) (b := b))
  have HFEW : Hid (MayN b → b.st.L.length ≤ 128 ∧ b.tab.length ≤ 65) := hide (fun h => ⟨(nums_in h.2.1).1, tabOk_few h.2.2⟩)
  obtain ⟨DN, hDN⟩ : ∃ DN, DN = diffD a b := ⟨_, rfl⟩
  rw [← hDN] at HBAD HGAP HOK ⊢
  have HZR : Hid (∀ (W : World) (n : Int), Below w.heap.size w W → DN = (zeroD, n) → GivenD w DN (.returned (.tuple #[.agg #[.int .i64 0, .int .i64 0, .int .i64 0, .int .i64 0, .slice none 0 0, .bool false, .int .i64 0, .slice none 0 0], .int .i64 n])) ((((((((W.setCell ⟨w.heap.size + 1 + 1, 0, none⟩ (.int .i64 0)).setCell ⟨w.heap.size + 1 + 1, 1, none⟩ (.int .i64 0)).setCell ⟨w.heap.size + 1 + 1, 2, none⟩ (.int .i64 0)).setCell ⟨w.heap.size + 1 + 1, 3, none⟩ (.int .i64 0)).setCell ⟨w.heap.size + 1 + 1, 4, none⟩ (.slice none 0 0)).setCell ⟨w.heap.size + 1 + 1, 5, none⟩ (.bool false)).setCell ⟨w.heap.size + 1 + 1, 6, none⟩ (.int .i64 0)).setCell ⟨w.heap.size + 1 + 1, 7, none⟩ (.slice none 0 0))) := hide (fun W n h e => by
    rw [e]
    exact GivenD.zero _ (belowEightE h _ (by omega) _ _ _ _ _ _ _ _))
  obtain ⟨m1, hm1⟩ : ∃ m, m = decide (MayN a) := ⟨_, rfl⟩
  obtain ⟨m2, hm2⟩ : ∃ m, m = decide (MayN b) := ⟨_, rfl⟩
  obtain ⟨m3, hm3⟩ : ∃ m, m = decide (Covers a.tab b.tab) := ⟨_, rfl⟩
  rw [← hm1] at HMA
  rw [← hm2] at HMB
  rw [← hm3] at HPR
  have HM1 := hide hm1
  have HM2 := hide hm2
  have HM3 := hide hm3
  clear hm1 hm2 hm3 hDN hA hB hC hW0 hl hl' ht ht' hk hk' he he' hi hi'
  obtain ⟨ai, ⟨ak, aL, ash, ae⟩, aT⟩ := a
  obtain ⟨bi, ⟨bk, bL, bsh, be⟩, bT⟩ := b
  dsimp only at *
  obtain ⟨⟨p0, p1, p2, p3, p4, p5⟩, -⟩ := HX0.out.all
  go_enter Tryz.func12, Tryz.ntmps12
  go_upto_region 1 with fail
  rw [← HW0.out]
  clear HW0
  go_wp2_with fail
  refine (HMA.out _ HB0.out).mono ?_
  rintro x W1 ⟨rfl, hb1⟩
  have HX1 := hide (HX0.out.below hb1 (Nat.le_refl _))
  have HY1 := hide (HY0.out.below hb1 (Nat.le_refl _))
  have HZ1 := hide (HZ0.out.below hb1 (Nat.le_refl _))
  have HB1 := hide (HB0.out.trans (hb1.mono HB0.out.size))
  clear hb1 HMA HX0 HY0 HZ0 HB0 p0 p1 p2 p3 p4 p5
  cases m1 with
  | false =>
    have HF : Hid (DN = (zeroD, 1)) := hide (HBAD.out (.inl (of_decide_eq_false HM1.out.symm)))
    obtain ⟨⟨z0, z1, z2, z3, z4, z5, z6, z7⟩, y0, y1, y2, y3, y4, y5, y6, y7⟩ := HZ1.out.all
    go_wp2
    refine bodyPost_ret (v := .tuple #[.agg #[.int .i64 0, .int .i64 0, .int .i64 0, .int .i64 0, .slice none 0 0, .bool false, .int .i64 0, .slice none 0 0], .int .i64 1]) (by simp [results, Tryz.results12, go_sem, z0, z1, z2, z3, z4, z5, z6, z7]) rfl ?_
    exact HZR.out _ _ HB1.out HF.out
  | true =>
  obtain ⟨⟨p0, p1, p2, p3, p4, p5⟩, -⟩ := HY1.out.all
  go_wp2_with fail
  refine (HMB.out _ HB1.out).mono ?_
  rintro x W2 ⟨rfl, hb2⟩
  have HX2 := hide (HX1.out.below hb2 (Nat.le_refl _))
  have HY2 := hide (HY1.out.below hb2 (Nat.le_refl _))
  have HZ2 := hide (HZ1.out.below hb2 (Nat.le_refl _))
  have HB2 := hide (HB1.out.trans (hb2.mono HB1.out.size))
  clear hb2 HMB HX1 HY1 HZ1 HB1 p0 p1 p2 p3 p4 p5
  cases m2 with
  | false =>
    have HF : Hid (DN = (zeroD, 1)) := hide (HBAD.out (.inr (.inl (of_decide_eq_false HM2.out.symm))))
    obtain ⟨⟨z0, z1, z2, z3, z4, z5, z6, z7⟩, y0, y1, y2, y3, y4, y5, y6, y7⟩ := HZ2.out.all
    go_wp2
    refine bodyPost_ret (v := .tuple #[.agg #[.int .i64 0, .int .i64 0, .int .i64 0, .int .i64 0, .slice none 0 0, .bool false, .int .i64 0, .slice none 0 0], .int .i64 1]) (by simp [results, Tryz.results12, go_sem, z0, z1, z2, z3, z4, z5, z6, z7]) rfl ?_
    exact HZR.out _ _ HB2.out HF.out
  | true =>
  obtain ⟨⟨p0, p1, p2, p3, p4, p5⟩, -⟩ := HX2.out.all
  obtain ⟨⟨q0, q1, q2, q3, q4, q5⟩, -⟩ := HY2.out.all
  by_cases hkk : ak = bk
  case neg =>
    have HF : Hid (DN = (zeroD, 1)) := hide (HBAD.out (.inr (.inr hkk)))
    have hkd : (ak != bk) = true := by rw [bne_iff_ne]; exact hkk
    obtain ⟨⟨z0, z1, z2, z3, z4, z5, z6, z7⟩, y0, y1, y2, y3, y4, y5, y6, y7⟩ := HZ2.out.all
    clear hkk
    go_wp2
    refine bodyPost_ret (v := .tuple #[.agg #[.int .i64 0, .int .i64 0, .int .i64 0, .int .i64 0, .slice none 0 0, .bool false, .int .i64 0, .slice none 0 0], .int .i64 1]) (by simp [results, Tryz.results12, go_sem, z0, z1, z2, z3, z4, z5, z6, z7]) rfl ?_
    exact HZR.out _ _ HB2.out HF.out
  have hkd : (ak != bk) = false := by rw [bne_eq_false_iff_eq]; exact hkk
  have HGAP2 := hide (HGAP.out (of_decide_eq_true HM1.out.symm) (of_decide_eq_true HM2.out.symm) hkk)
  have HOK2 := hide (HOK.out (of_decide_eq_true HM1.out.symm) (of_decide_eq_true HM2.out.symm) hkk)
  obtain ⟨hL128, hT65⟩ := HFEW.out (of_decide_eq_true HM2.out.symm)
  clear hkk HBAD HGAP HOK HFEW HM1 HM2
  by_cases hidx : bi < ai
  case pos =>
    have HF : Hid (DN = (zeroD, 15)) := hide (HGAP2.out (.inl hidx))
    obtain ⟨⟨z0, z1, z2, z3, z4, z5, z6, z7⟩, y0, y1, y2, y3, y4, y5, y6, y7⟩ := HZ2.out.all
    go_wp2
    refine bodyPost_ret (v := .tuple #[.agg #[.int .i64 0, .int .i64 0, .int .i64 0, .int .i64 0, .slice none 0 0, .bool false, .int .i64 0, .slice none 0 0], .int .i64 15]) (by simp [results, Tryz.results12, go_sem, z0, z1, z2, z3, z4, z5, z6, z7]) rfl ?_
    exact HZR.out _ _ HB2.out HF.out
  go_wp2_with fail
  refine (HPR.out _ HB2.out).mono ?_
  rintro x W3 ⟨rfl, hb3⟩
  have HX3 := hide (HX2.out.below hb3 (Nat.le_refl _))
  have HY3 := hide (HY2.out.below hb3 (Nat.le_refl _))
  have HZ3 := hide (HZ2.out.below hb3 (Nat.le_refl _))
  have HB3 := hide (HB2.out.trans (hb3.mono HB2.out.size))
  clear hb3 HPR HX2 HY2 HZ2 HB2 p0 p1 p2 p3 p4 p5 q0 q1 q2 q3 q4 q5
  cases m3 with
  | false =>
    have HF : Hid (DN = (zeroD, 15)) := hide (HGAP2.out (.inr (of_decide_eq_false HM3.out.symm)))
    obtain ⟨⟨z0, z1, z2, z3, z4, z5, z6, z7⟩, y0, y1, y2, y3, y4, y5, y6, y7⟩ := HZ3.out.all
    go_wp2
    refine bodyPost_ret (v := .tuple #[.agg #[.int .i64 0, .int .i64 0, .int .i64 0, .int .i64 0, .slice none 0 0, .bool false, .int .i64 0, .slice none 0 0], .int .i64 15]) (by simp [results, Tryz.results12, go_sem, z0, z1, z2, z3, z4, z5, z6, z7]) rfl ?_
    exact HZR.out _ _ HB3.out HF.out
  | true =>
  have HF := hide (HOK2.out hidx (of_decide_eq_true HM3.out.symm))
  have hsl := sufL_le aL bL
  have hpa : preL aL bL ≤ aL.length := by omega
  have hpb : preL aL bL ≤ bL.length := by omega
  obtain ⟨LA, hLA⟩ : ∃ LA, LA = aL.drop (preL aL bL) := ⟨_, rfl⟩
  obtain ⟨LB, hLB⟩ : ∃ LB, LB = bL.drop (preL aL bL) := ⟨_, rfl⟩
  obtain ⟨M, hM⟩ : ∃ M, M = midL aL bL := ⟨_, rfl⟩
  obtain ⟨xa, xc, hcutA, -, hrdA⟩ := cutI_from la aL lc HLA.out.cap (preL aL bL) hpa LA hLA
  obtain ⟨xb, xd, hcutB, hcapB, hrdB⟩ := cutI_from la' bL lc' HLB.out.cap (preL aL bL) hpb LB hLB
  have hMt : M = LB.take (LB.length - sufL aL bL) := by rw [hM, hLB]; rfl
  have hLBl : LB.length = bL.length - preL aL bL := by rw [hLB, List.length_drop]
  have hMl : M.length = LB.length - sufL aL bL := by rw [hMt, List.length_take]; omega
  obtain ⟨xm, xe, hcutM, hrdM⟩ := cutI_upto xb LB xd hcapB M.length (by omega) M (by rw [hMl]; exact hMt)
  have HRM : Hid (∀ W, Below w.heap.size w W → RdI W (.slice xm M.length xe) M) := hide (fun W h => hrdM W (hrdB W (HLB.out.below h (Nat.le_refl _))))
  have HBH : Hid (∀ W, Below w.heap.size w W → Calls Tryz.prog 31 #[.slice xa LA.length xc, .slice xb LB.length xd] W fun e w' => e = .returned (.int .i64 ((sufL aL bL : Nat) : Int)) ∧ Below W.heap.size W w') := hide (fun W h => by
    have h2 := alikeBehind_any (.slice xa LA.length xc) LA (.slice xb LB.length xd) LB W (hrdA W (HLA.out.below h (Nat.le_refl _))) (hrdB W (HLB.out.below h (Nat.le_refl _)))
    rw [hLA, hLB] at h2 ⊢
    exact h2)
  have HCL : Hid (∀ W, Below w.heap.size w W → Calls Tryz.prog 32 #[.slice xm M.length xe] W fun e w' => ∃ v', e = .returned v' ∧ OwnI w' W.heap.size v' M ∧ Below W.heap.size W w') := hide (fun W h => cloneI_any _ M W (HRM.out W h) (by omega))
  have HNE2 : Hid (∀ W, Below w.heap.size w W → Calls Tryz.prog 33 #[.slice ta aT.length tc, .slice ta' bT.length tc'] W fun e w' => ∃ v', e = .returned v' ∧ OwnE w' W.heap.size v' (diffT aT bT) ∧ Below W.heap.size W w') := hide (fun W h => HNE.out W (by omega) h)
  have hwr : IntKind.i64.wrap ((LB.length : Int) - ((sufL aL bL : Nat) : Int)) = (M.length : Int) := by rw [i64wrap_in _ (by omega) (by omega)]; omega
  have hDI : DelI ⟨ai, bi, (preL aL bL : Nat), (sufL aL bL : Nat), M, bsh, be, diffT aT bT⟩ := ⟨HI.out.1, HI.out.2.1, i64_small (by show (_ : Int) ≤ ((preL aL bL : Nat) : Int); omega) (by show ((preL aL bL : Nat) : Int) ≤ _; omega), i64_small (by show (_ : Int) ≤ ((sufL aL bL : Nat) : Int); omega) (by show ((sufL aL bL : Nat) : Int) ≤ _; omega), HI.out.2.2⟩
  have HDI := hide hDI
  rw [← hM] at HF HLI
  clear hDI hMt hLBl hMl hM hLA hLB hrdA hrdB hrdM hcapB HLA HLB HNE HOK2 HGAP2 HM3 HI hsl hpa hpb
  generalize preL aL bL = PL at *
  generalize sufL aL bL = SL at *
  generalize diffT aT bT = DT at *
  obtain ⟨⟨p0, p1, p2, p3, p4, p5⟩, -⟩ := HX3.out.all
  obtain ⟨⟨q0, q1, q2, q3, q4, q5⟩, -⟩ := HY3.out.all
  go_wp2_with fail
  refine (HAH.out _ HB3.out).mono ?_
  rintro x W4 ⟨rfl, hb4⟩
  have HX4 := hide (HX3.out.below hb4 (Nat.le_refl _))
  have HY4 := hide (HY3.out.below hb4 (Nat.le_refl _))
  have HZ4 := hide (HZ3.out.below hb4 (Nat.le_refl _))
  have HB4 := hide (HB3.out.trans (hb4.mono HB3.out.size))
  clear hb4 HAH HX3 HY3 HZ3 HB3 p0 p1 p2 p3 p4 p5 q0 q1 q2 q3 q4 q5
  obtain ⟨⟨p0, p1, p2, p3, p4, p5⟩, -⟩ := HX4.out.all
  obtain ⟨⟨q0, q1, q2, q3, q4, q5⟩, -⟩ := HY4.out.all
  go_wp2_with fail
  refine (HBH.out _ HB4.out).mono ?_
  rintro x W5 ⟨rfl, hb5⟩
  have HX5 := hide (HX4.out.below hb5 (Nat.le_refl _))
  have HY5 := hide (HY4.out.below hb5 (Nat.le_refl _))
  have HZ5 := hide (HZ4.out.below hb5 (Nat.le_refl _))
  have HB5 := hide (HB4.out.trans (hb5.mono HB4.out.size))
  clear hb5 HBH HX4 HY4 HZ4 HB4 p0 p1 p2 p3 p4 p5 q0 q1 q2 q3 q4 q5 hcutA
  have HK : Hid (∀ W, Below W5.heap.size W5 W → W.cell? ⟨w.heap.size, 0, none⟩ = some (.int .i64 ai) ∧ W.cell? ⟨w.heap.size, 5, none⟩ = some (.slice ta aT.length tc) ∧ W.cell? ⟨w.heap.size + 1, 0, none⟩ = some (.int .i64 bi) ∧ W.cell? ⟨w.heap.size + 1, 3, none⟩ = some (.bool bsh) ∧ W.cell? ⟨w.heap.size + 1, 4, none⟩ = some (.int .i64 be) ∧ W.cell? ⟨w.heap.size + 1, 5, none⟩ = some (.slice ta' bT.length tc')) := hide (fun W h => by
    have h1 := (HX5.out.below h (Nat.le_refl _)).all.1
    have h2 := (HY5.out.below h (Nat.le_refl _)).all.1
    exact ⟨h1.1, h1.2.2.2.2.2, h2.1, h2.2.2.2.1, h2.2.2.2.2.1, h2.2.2.2.2.2⟩)
  have HK2 : Hid (∀ (W : World) (x0 x1 x2 x3 x4 x5 x6 x7 : Value), Below W5.heap.size W5 W → (fun w' : World => w'.cell? ⟨w.heap.size, 0, none⟩ = some (.int .i64 ai) ∧ w'.cell? ⟨w.heap.size, 5, none⟩ = some (.slice ta aT.length tc) ∧ w'.cell? ⟨w.heap.size + 1, 0, none⟩ = some (.int .i64 bi) ∧ w'.cell? ⟨w.heap.size + 1, 3, none⟩ = some (.bool bsh) ∧ w'.cell? ⟨w.heap.size + 1, 4, none⟩ = some (.int .i64 be) ∧ w'.cell? ⟨w.heap.size + 1, 5, none⟩ = some (.slice ta' bT.length tc')) ((((((((W.setCell ⟨w.heap.size + 1 + 1, 0, none⟩ x0).setCell ⟨w.heap.size + 1 + 1, 1, none⟩ x1).setCell ⟨w.heap.size + 1 + 1, 2, none⟩ x2).setCell ⟨w.heap.size + 1 + 1, 3, none⟩ x3).setCell ⟨w.heap.size + 1 + 1, 4, none⟩ x4).setCell ⟨w.heap.size + 1 + 1, 5, none⟩ x5).setCell ⟨w.heap.size + 1 + 1, 6, none⟩ x6).setCell ⟨w.heap.size + 1 + 1, 7, none⟩ x7)) := hide (fun W x0 x1 x2 x3 x4 x5 x6 x7 h => by
    have hb := butEight W (w.heap.size + 1 + 1) x0 x1 x2 x3 x4 x5 x6 x7
    have hx := HX5.out.below h (Nat.le_refl _)
    have hy := HY5.out.below h (Nat.le_refl _)
    have h1 : Bn (eight W (w.heap.size + 1 + 1) x0 x1 x2 x3 x4 x5 x6 x7) w.heap.size _ := (hb.block w.heap.size hx.lt (by omega) (by omega)).trans hx
    have h2 : Bn (eight W (w.heap.size + 1 + 1) x0 x1 x2 x3 x4 x5 x6 x7) (w.heap.size + 1) _ := (hb.block (w.heap.size + 1) hy.lt (by omega) (by omega)).trans hy
    have h1 := h1.all.1
    have h2 := h2.all.1
    exact ⟨h1.1, h1.2.2.2.2.2, h2.1, h2.2.2.2.1, h2.2.2.2.2.1, h2.2.2.2.2.2⟩)
  have HZK : Hid (∀ W, Below W5.heap.size W5 W → Bd W (w.heap.size + 1 + 1) #[.int .i64 0, .int .i64 0, .int .i64 0, .int .i64 0, .slice none 0 0, .bool false, .int .i64 0, .slice none 0 0]) := hide (fun W h => HZ5.out.below h (Nat.le_refl _))
  have HS0 : Hid (Below W5.heap.size W5 W5.drew) := hide ((Below.refl _ _).drew)
  have HW : Hid (∀ W, Below W5.heap.size W5 W → Below w.heap.size w W) := hide (fun W h => HB5.out.trans (h.mono HB5.out.size))
  have hZlt := HZ5.out.lt
  have HE1 : Hid (∀ args w, (callFunc 32 args).run Tryz.prog w = .ok (.enter 32 args) w) := hide (enters_of Tryz.func32 (by kernel_rfl) rfl)
  have HE2 : Hid (∀ args w, (callFunc 33 args).run Tryz.prog w = .ok (.enter 33 args) w) := hide (enters_of Tryz.func33 (by kernel_rfl) rfl)
  go_upto_region 8 with fail
  go_region_held2 (fun w' => w'.cell? ⟨w.heap.size, 0, none⟩ = some (.int .i64 ai) ∧ w'.cell? ⟨w.heap.size, 5, none⟩ = some (.slice ta aT.length tc) ∧ w'.cell? ⟨w.heap.size + 1, 0, none⟩ = some (.int .i64 bi) ∧ w'.cell? ⟨w.heap.size + 1, 3, none⟩ = some (.bool bsh) ∧ w'.cell? ⟨w.heap.size + 1, 4, none⟩ = some (.int .i64 be) ∧ w'.cell? ⟨w.heap.size + 1, 5, none⟩ = some (.slice ta' bT.length tc'))
    (first | (with_reducible exact HK.out _ HS0.out) | (with_reducible exact HK.out _ hbk2) | (with_reducible exact HK.out _ hbk1) | (exact HK2.out W7 _ _ _ _ _ _ _ _ hbk2))
    (first
      | ((with_reducible refine step_call 32 _ _ rfl rfl #[.slice xm M.length xe] (by simp [Act.eval]) HE1.out (HCL.out W5.drew (HW.out _ HS0.out)) ?_); rintro v1 W6 ⟨ho1, hb1⟩; have hbk1 : Below W5.heap.size W5 W6 := HS0.out.trans hb1; have HO6 := hide (ho1.rd HLI.out); have HF6 := hide (show ∀ k, v1.ownBlock = some k → w.heap.size + 1 + 1 < k from fun k hk => Nat.lt_of_lt_of_le hZlt (ho1.fresh k hk)); obtain ⟨a1, c1, hv⟩ := ho1.shape; subst hv; clear ho1 hb1)
      | ((with_reducible refine step_call 33 _ _ rfl rfl #[.slice ta aT.length tc, .slice ta' bT.length tc'] (by simp [Act.eval]) HE2.out (HNE2.out W6 (HW.out _ hbk1)) ?_); rintro v2 W7 ⟨ho2, hb2⟩; have hbk2 : Below W5.heap.size W5 W7 := hbk1.trans (hb2.mono hbk1.size); have HP7 := hide (HO6.out.below hb2 (Nat.le_refl _)); have HQ7 := hide (ho2.rd HTI.out); have HG7 := hide (show ∀ k, v2.ownBlock = some k → w.heap.size + 1 + 1 < k from fun k hk => Nat.lt_of_lt_of_le hZlt (Nat.le_trans hbk1.size (ho2.fresh k hk))); obtain ⟨a2, c2, hv⟩ := ho2.shape; subst hv; obtain ⟨⟨z0, z1, z2, z3, z4, z5, z6, z7⟩, y0, y1, y2, y3, y4, y5, y6, y7⟩ := (HZK.out _ hbk2).all; clear ho2 hb2)
      | ((with_reducible refine step_call 33 _ _ rfl rfl #[.slice ta aT.length tc, .slice ta' bT.length tc'] (by simp [Act.eval]) HE2.out (HNE2.out W5.drew (HW.out _ HS0.out)) ?_); rintro v2 W6 ⟨ho2, hb2⟩; have hbk1 : Below W5.heap.size W5 W6 := HS0.out.trans hb2; have HQ6 := hide (ho2.rd HTI.out); have HG7 := hide (show ∀ k, v2.ownBlock = some k → w.heap.size + 1 + 1 < k from fun k hk => Nat.lt_of_lt_of_le hZlt (ho2.fresh k hk)); obtain ⟨a2, c2, hv⟩ := ho2.shape; subst hv; clear ho2 hb2)
      | ((with_reducible refine step_call 32 _ _ rfl rfl #[.slice xm M.length xe] (by simp [Act.eval]) HE1.out (HCL.out W6 (HW.out _ hbk1)) ?_); rintro v1 W7 ⟨ho1, hb1⟩; have hbk2 : Below W5.heap.size W5 W7 := hbk1.trans (hb1.mono hbk1.size); have HP7 := hide (ho1.rd HLI.out); have HQ7 := hide (HQ6.out.below hb1 (Nat.le_refl _)); have HF6 := hide (show ∀ k, v1.ownBlock = some k → w.heap.size + 1 + 1 < k from fun k hk => Nat.lt_of_lt_of_le hZlt (Nat.le_trans hbk1.size (ho1.fresh k hk))); obtain ⟨a1, c1, hv⟩ := ho1.shape; subst hv; obtain ⟨⟨z0, z1, z2, z3, z4, z5, z6, z7⟩, y0, y1, y2, y3, y4, y5, y6, y7⟩ := (HZK.out _ hbk2).all; clear ho1 hb1))
  all_goals
    go_wp2
    refine bodyPost_ret (v := .tuple #[.agg #[.int .i64 ai, .int .i64 bi, .int .i64 (PL : Int), .int .i64 (SL : Int), .slice a1 M.length c1, .bool bsh, .int .i64 be, .slice a2 DT.length c2], .int .i64 0]) (by simp [results, Tryz.results12, go_sem, z0, z1, z2, z3, z4, z5, z6, z7]) rfl ?_
    rw [HF.out]
    have hbt := butEight W7 (w.heap.size + 1 + 1) (.int .i64 ai) (.int .i64 bi) (.int .i64 (PL : Int)) (.int .i64 (SL : Int)) (.slice a1 M.length c1) (.bool bsh) (.int .i64 be) (.slice a2 DT.length c2)
    exact ⟨_, _, rfl, HP7.out.but hbt (.inr fun k hk => by have := HF6.out k hk; omega), HQ7.out.but hbt (.inr fun k hk => by have := HG7.out k hk; omega), HDI.out, (fun k hk => by have := HF6.out k hk; omega), (fun k hk => by have := HG7.out k hk; omega), belowEight (HW.out _ hbk2) _ (by omega) _ _ _ _ _ _ _ _⟩

end Go.Proofs.YtgpdbboieokldaaGreat

/- Contract over entries of slices.DeleteFunc. -/
namespace Go.Proofs.YtgpdbboieokldaaGreat
open Go.RowKit

theorem filter_next (p : Ent → Bool) (l : List Ent) (j : Nat) (hj : j < l.length) : (l.take (j + 1)).filter (fun e => !p e) = (l.take j).filter (fun e => !p e) ++ if p (l.getD j zeroE) = true then [] else [l.getD j zeroE] := by
  have e1 : l.take (j + 1) = l.take j ++ [l.getD j zeroE] := by
    rw [List.take_add_one, List.getElem?_eq_getElem hj]
    simp [List.getD, hj]
  rw [e1, List.filter_append]
  congr 1
  generalize l.getD j zeroE = x
  cases h : p x <;> simp [h]

theorem filter_none (p : Ent → Bool) (l : List Ent) (i : Nat) (hi : i ≤ l.length) (h : ∀ j, j < i → p (l.getD j zeroE) = false) : (l.take i).filter (fun e => !p e) = l.take i := by
  rw [List.filter_eq_self]
  intro e he
  obtain ⟨j, hj, rfl⟩ := List.getElem_of_mem he
  rw [List.length_take] at hj
  have := h j (by omega)
  rw [List.getElem_take]
  simp only [List.getD, List.getElem?_eq_getElem (show j < l.length by omega), Option.getD_some] at this
  simp [this]

/-- Where the deleting stands: L is the row; i of it are kept, j are seen. -/
def DelAt (p : Ent → Bool) (l L : List Ent) (i j : Nat) : Prop := L.length = l.length ∧ L.take i = (l.take j).filter (fun e => !p e) ∧ L.drop j = l.drop j ∧ i < j

theorem DelAt.start {p : Ent → Bool} {l : List Ent} {i : Nat} (hi : i < l.length) (h : ∀ j, j < i → p (l.getD j zeroE) = false) (hp : p (l.getD i zeroE) = true) : DelAt p l l i (i + 1) := by
  refine ⟨rfl, ?_, rfl, Nat.lt_succ_self _⟩
  rw [filter_next p l i hi, if_pos hp, List.append_nil, filter_none p l i (by omega) h]

theorem DelAt.at {p : Ent → Bool} {l L : List Ent} {i j : Nat} (h : DelAt p l L i j) : L.getD j zeroE = l.getD j zeroE := by
  obtain ⟨h1, h2, h3, h4⟩ := h
  have e1 : (L.drop j).getD 0 zeroE = L.getD j zeroE := by simp [List.getD]
  have e2 : (l.drop j).getD 0 zeroE = l.getD j zeroE := by simp [List.getD]
  rw [← e1, ← e2, h3]

theorem drop_next {L l : List Ent} {j : Nat} (h : L.drop j = l.drop j) : L.drop (j + 1) = l.drop (j + 1) := by
  rw [← List.drop_drop, ← List.drop_drop, h]

theorem DelAt.skip {p : Ent → Bool} {l L : List Ent} {i j : Nat} (h : DelAt p l L i j) (hj : j < l.length) (hp : p (l.getD j zeroE) = true) : DelAt p l L i (j + 1) := by
  obtain ⟨h1, h2, h3, h4⟩ := h
  refine ⟨h1, ?_, drop_next h3, by omega⟩
  rw [filter_next p l j hj, if_pos hp, List.append_nil, h2]

theorem DelAt.keep {p : Ent → Bool} {l L : List Ent} {i j : Nat} (h : DelAt p l L i j) (hj : j < l.length) (hp : p (l.getD j zeroE) = false) : DelAt p l (L.set i (l.getD j zeroE)) (i + 1) (j + 1) := by
  obtain ⟨h1, h2, h3, h4⟩ := h
  refine ⟨by rw [List.length_set, h1], ?_, ?_, by omega⟩
  · rw [filter_next p l j hj, if_neg (by rw [hp]; simp), ← h2, List.take_add_one, List.take_set_of_le (Nat.le_refl _)]
    congr 1
    rw [List.getElem?_set_self (by omega)]
    rfl
  · rw [List.drop_set_of_lt (by omega)]
    exact drop_next h3

/-- An entry's three cells, written one by one. -/
theorem OwnE.put3 {w : World} {B g n cap : Nat} {l : List Ent} (h : OwnE w B (.slice (some ⟨g, 0, none⟩) n cap) l) (i : Nat) (hi : i < l.length) (p s r : Int) (o0 o1 o2 : Nat) (h0 : o0 = i * 3) (h1 : o1 = i * 3 + 1) (h2 : o2 = i * 3 + 2) :
    OwnE (((w.setCell ⟨g, o0, none⟩ (.int .i64 p)).setCell ⟨g, o1, none⟩ (.int .i64 s)).setCell ⟨g, o2, none⟩ (.int .i64 r)) B (.slice (some ⟨g, 0, none⟩) n cap) (l.set i ⟨p, s, r⟩) := by
  subst h0 h1 h2
  exact h.put i hi ⟨p, s, r⟩

theorem OwnE.ent {w : World} {B g n cap : Nat} {l : List Ent} (h : OwnE w B (.slice (some ⟨g, 0, none⟩) n cap) l) (i : Nat) (hi : i < l.length) : EntAt w g (i * 3) (l.getD i zeroE) ∧ (∀ k, w.frozen? ⟨g, k, none⟩ = false) ∧ B ≤ g ∧ l.length ≤ cap ∧ cap ≤ maxLen ∧ n = l.length := by
  rcases h.row with ⟨h1, -⟩ | ⟨g', cap', cur, h1, hB, hlt, hg, hc, hm, hs, hcell⟩
  · cases h1
  · injection h1 with h1 h2 h3
    injection h1 with h1
    injection h1 with h1
    subst h1 h3
    have hx : ∀ k, k < 3 → w.cell? ⟨g, i * 3 + k, none⟩ = (entC (l.getD i zeroE))[k]? := fun k hk => by
      rw [cell_of_row w g (i * 3 + k) _ _ _ hg, hcell _ (by omega), entCells_get l i k hi hk]
    exact ⟨⟨hx 0 (by decide), hx 1 (by decide), hx 2 (by decide)⟩, fun k => frozen_of_row w g k _ _ hg, hB, hc, hm, h2⟩

theorem belowStore3 {C : Nat} {w0 w : World} (h : Below C w0 w) (R : Nat) (hR : C ≤ R) (o0 o1 o2 : Nat) (x0 x1 x2 : Value) : Below C w0 (((w.setCell ⟨R, o0, none⟩ x0).setCell ⟨R, o1, none⟩ x1).setCell ⟨R, o2, none⟩ x2) :=
  ((h.setCell hR _).setCell hR _).setCell hR _

theorem zeroValue_ent (w : World) : (zeroValue 48).run Tryz.prog w = .ok (.agg #[.int .i64 0, .int .i64 0, .int .i64 0]) w := Tryz.zeroValue48 w

set_option maxRecDepth 100000 in
set_option maxHeartbeats 4000000 in
theorem deleteFuncE_any (g R : Nat) (p : Ent → Bool) (v : Value) (l : List Ent) (B : Nat) (w : World) (ho : OwnE w B v l) (hI : ∀ e ∈ l, EntI e) (hBw : B ≤ w.heap.size) (hlim : l.length ≤ 1000000)
    (eg : ∀ args W, (callFunc g args).run Tryz.prog W = .ok (.enter g args) W)
    (hp : ∀ W e, Below B w W → Calls Tryz.prog g #[entV e, .pointer (some ⟨R, 0, none⟩)] W fun x w' => x = .returned (.bool (p e)) ∧ Below W.heap.size W w') :
    Calls Tryz.prog 99 #[v, .func (.func g) #[] #[.pointer (some ⟨R, 0, none⟩)]] w fun x w' => ∃ v', x = .returned v' ∧ OwnE w' B v' (l.filter (fun e => !p e)) ∧ Below B w w' := by
  have HO := hide ho
  have HP := hide hp
  have HIX := hide (indexFuncE_any g R p v l w (ho.rd hI) eg (fun W e h => hp W e (h.mono hBw)))
  obtain ⟨va, vc, hv⟩ := ho.shape
  subst hv
  clear ho hp
  go_enter Tryz.func99, Tryz.ntmps99
  go_wp2_with fail
  refine HIX.out.mono ?_
  rintro x W0 ⟨k, rfl, hf, hb0⟩
  have HB0 := hide (hb0.mono hBw)
  have HO0 := hide (HO.out.below hb0 (Nat.le_refl _))
  clear HIX hb0 HO
  rcases hf with ⟨rfl, hf⟩ | ⟨i0, rfl, hi0, hf, hpi⟩
  · have HE : Hid (l.filter (fun e => !p e) = l) := hide (by
      have := filter_none p l l.length (Nat.le_refl _) hf
      rwa [List.take_length] at this)
    clear hf
    go_wp2
    go_ret
    exact ⟨_, rfl, by rw [HE.out]; exact HO0.out, HB0.out⟩
  have HD0 := hide (DelAt.start hi0 hf hpi)
  clear hf hpi
  rcases HO0.out.row with ⟨-, h2⟩ | ⟨gr, cap, cur, h1, hBg, -, -, hlc, hcm, -, -⟩
  · rw [h2] at hi0; simp at hi0
  injection h1 with h1 _ h3
  subst h1 h3
  have hml : (l.length : Int) ≤ 1000000 := by omega
  clear cur hcm
  have ei : ((i0 : Int) == -1) = false := beq_eq_false_iff_ne.2 (by omega)
  go_wp2
  go_loopw [5, 6] (fun v5 v6 wr => ∃ (i j : Nat) (L : List Ent), v5 = .int .i64 (i : Int) ∧ v6 = .int .i64 (j : Int) ∧ i < j ∧ j ≤ l.length ∧ Hid (OwnE wr B (.slice (some ⟨gr, 0, none⟩) l.length vc) L) ∧ Hid (DelAt p l L i j) ∧ Hid (Below B w wr)) (fun _ v6 _ => l.length - (intOf v6).toNat)
  case atStart => exact ⟨i0, i0 + 1, l, rfl, by go_num, by omega, by omega, HO0, HD0, HB0⟩
  case round =>
    clear HO0 HD0 HB0 ei
    obtain ⟨i, j, L, rfl, rfl, hij, hjl, hO, hD, hB⟩ := hrel
    by_cases hlt : j < l.length
    case neg =>
      obtain rfl : j = l.length := by omega
      have hL : L.length = l.length := hD.out.1
      have HT : Hid (L.take i = l.filter (fun e => !p e)) := hide (by rw [hD.out.2.1, List.take_length])
      have hE := (hO.out.ent i (by omega)).2.1
      have HK : Hid (∀ ty, (Builtin.clear_ #[23] ty #[.slice (some ⟨gr, i * 3, none⟩) (l.length - i) (vc - i)]).run Tryz.prog wr = .ok (.tuple #[]) (wr.setCells gr (i * 3) (zeros3 (l.length - i)))) := hide (fun ty =>
        run_clear_three wr _ _ _ Tryz.underlying23 zeroValue_ent gr (i * 3) (l.length - i) (vc - i) (by omega) (fun k hk => by
          obtain ⟨q, r, hr, rfl⟩ : ∃ q r, r < 3 ∧ k = q * 3 + r := ⟨k / 3, k % 3, Nat.mod_lt _ (by decide), by omega⟩
          have := (hO.out.ent (i + q) (by omega)).1
          rw [show i * 3 + (q * 3 + r) = (i + q) * 3 + r by omega]
          match r, hr with
          | 0, _ => rw [show (i + q) * 3 + 0 = (i + q) * 3 from rfl, this.1]; rfl
          | 1, _ => rw [this.2.1]; rfl
          | 2, _ => rw [this.2.2]; rfl) (fun k _ => hE _))
      have HOC := hide ((hO.out.cut i (by omega)).cells (i * 3) (by rw [List.length_take]; omega) (zeros3 (l.length - i)))
      rw [HT.out] at HOC
      have HBC := hide (belowCells hBg (zeros3 (l.length - i)) (i * 3) wr hB.out)
      have hvi : ¬ (vc = i) := by omega
      have hb1 : (i : Int) ≤ (l.length : Int) := by omega
      have hb2 : (i : Int) ≤ (vc : Int) := by omega
      have hb3 : i ≤ l.length := by omega
      have hb4 : i ≤ vc := by omega
      clear hE
      have hK := HK.out
      go_wp2
      go_ret
      exact ⟨_, rfl, HOC.out, HBC.out⟩
    have hji : (j : Int) < (l.length : Int) := by omega
    have hLl : L.length = l.length := hD.out.1
    obtain ⟨⟨c0, c1, c2⟩, -, -⟩ := hO.out.ent j (by omega)
    rw [hD.out.at] at c0 c1 c2
    have HSK := hide (hD.out.skip hlt)
    have HKP := hide (hD.out.keep hlt)
    obtain ⟨e, he⟩ : ∃ e, e = l.getD j zeroE := ⟨_, rfl⟩
    rw [← he] at c0 c1 c2 HSK HKP
    obtain ⟨pe, hpe⟩ : ∃ pe, pe = p e := ⟨_, rfl⟩
    have HC := hide (fun W h => HP.out W e h)
    rw [← hpe] at HC HSK HKP
    obtain ⟨ep, es, er⟩ := e
    unfold entV at HC
    simp only at HC c0 c1 c2 HKP
    clear he hpe hD
    have HB2 : Hid (∀ X, Below B w (wr.alloc X)) := hide (fun X => hB.out.alloc (Nat.le_trans hBw hB.out.size) X)
    have HX : Hid (Be (wr.alloc (.cells #[.int .i64 ep, .int .i64 es, .int .i64 er] 48)) wr.heap.size #[.int .i64 ep, .int .i64 es, .int .i64 er]) := hide (heap_alloc_new wr _)
    have HOW : Hid (∀ X, OwnE (wr.alloc X) B (.slice (some ⟨gr, 0, none⟩) l.length vc) L) := hide (fun X => hO.out.below ((Below.refl _ _).alloc (Nat.le_refl _) X) (Nat.le_refl _))
    go_wp2_with fail
    refine (HC.out _ (HB2.out _)).mono ?_
    rintro x W1 ⟨rfl, hb1⟩
    have HB3 := hide ((HB2.out (.cells #[.int .i64 ep, .int .i64 es, .int .i64 er] 48)).trans (hb1.mono (by have := hB.out.size; simp; omega)))
    have HX3 := hide (HX.out.below hb1 (Nat.le_refl _))
    have HO3 := hide ((HOW.out (.cells #[.int .i64 ep, .int .i64 es, .int .i64 er] 48)).below hb1 (Nat.le_refl _))
    clear hb1 HC HB2 HX HOW c0 c1 c2 hO hB
    cases pe with
    | true =>
      go_wp2
      go_roundw
      case rel => exact ⟨i, j + 1, L, rfl, by go_num, by omega, by omega, HO3, hide (HSK.out (by simp)), HB3⟩
      case measure => simp [intOf]; omega
    | false =>
      obtain ⟨⟨d0, d1, d2⟩, hfz, hBg2, -⟩ := HO3.out.ent i (by omega)
      obtain ⟨b0, f0⟩ := HX3.out.cell 0
      obtain ⟨b1, f1⟩ := HX3.out.cell 1
      obtain ⟨b2, f2⟩ := HX3.out.cell 2
      have z0 := hfz (i * 3)
      have z1 := hfz (i * 3 + 1)
      have z2 := hfz (i * 3 + 2)
      have hii : (i : Int) < (l.length : Int) := by omega
      have hil : i < l.length := by omega
      clear hfz
      go_wp2
      go_roundw
      case rel => exact ⟨i + 1, j + 1, L.set i ⟨ep, es, er⟩, by go_num, by go_num, by omega, by omega, hide (HO3.out.put3 i (by omega) ep es er _ _ _ (by omega) (by omega) (by omega)), hide (HKP.out (by simp)), hide (belowStore3 HB3.out gr hBg _ _ _ _ _ _)⟩
      case measure => simp [intOf]; omega

end Go.Proofs.YtgpdbboieokldaaGreat

