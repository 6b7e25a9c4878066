import Derived.Test.YtgpdbboieokldaaGreatPack3
import Derived.Test.YtgpdbboieokldaaGreatPack1
import Derived.Test.YtgpdbboieokldaaGreatPack2
import Derived.Test.YtgpdbboieokldaaGreatPack7
import Derived.Deep.RegionHeld
import Derived.Deep.DeepCutAuto
import Derived.Deep.WholeRow
import Derived.Lib.LazyBuf
import Derived.Deep.QuietTactic
import Derived.BigQuiet
/- Slices of slices of bytes: what one reads ('RdL'), what a call makes ('OwnL'), and that one more is put behind them. -/
namespace Go.Proofs.YtgpdbboieokldaaGreat
open Go.RowKit

/-- The slice value v reads as these lists of bytes. -/
def RdL (w : World) (v : Value) (L : List (List UInt8)) : Prop :=
  ∃ ao cap, v = .slice ao L.length cap ∧ L.length ≤ cap ∧ cap ≤ maxLen ∧ (ao = none → cap = 0) ∧
    (L = [] ∨ ∃ b off, ao = some ⟨b, off, none⟩ ∧ ∀ j, j < L.length → ∃ x, w.cell? ⟨b, off + j, none⟩ = some x ∧ Rd w x (L.getD j []))

/-- The slice value v lies in a row of its own, from block B on, of slices that lie each in a row of its own. -/
def OwnL (w : World) (B : Nat) (v : Value) (L : List (List UInt8)) : Prop :=
  ∃ xs : List Value, w.ownsRow B 26 1 v L.length xs ∧ ∀ j, j < L.length → ∃ x, xs[j]? = some x ∧ Own w B x (L.getD j [])

theorem RdL.nil (w : World) : RdL w (.slice none 0 0) [] := ⟨none, 0, rfl, Nat.le_refl _, Nat.zero_le _, fun _ => rfl, .inl rfl⟩

theorem OwnL.nil (w : World) (B : Nat) : OwnL w B (.slice none 0 0) [] := ⟨[], World.ownsRow_nil w B 26 1, fun j hj => by simp at hj⟩

theorem RdL.below {w w' : World} {v : Value} {L : List (List UInt8)} (h : RdL w v L) {B : Nat} (hb : Below B w w') (hB : w.heap.size ≤ B) : RdL w' v L := by
  obtain ⟨ao, cap, h1, h2, h3, hn, h4⟩ := h
  refine ⟨ao, cap, h1, h2, h3, hn, ?_⟩
  rcases h4 with h4 | ⟨b, off, h5, h6⟩
  · exact .inl h4
  · refine .inr ⟨b, off, h5, fun j hj => ?_⟩
    obtain ⟨x, hc, hr⟩ := h6 j hj
    have hlt : b < w.heap.size := World.block_lt_of_cell? w ⟨b, off + j, none⟩ hc
    refine ⟨x, ?_, hr.below hb hB⟩
    rw [hb.cell (p := ⟨b, off + j, none⟩) (by exact Nat.lt_of_lt_of_le hlt hB)]
    exact hc

theorem RdL.front {w : World} {ao : Option Addr} {n cap : Nat} {L : List (List UInt8)} (h : RdL w (.slice ao n cap) L) (k : Nat) (hk : k ≤ L.length) : RdL w (.slice ao k cap) (L.take k) := by
  obtain ⟨ao', cap', hv, h1, h2, h3, h4⟩ := h
  simp only [Value.slice.injEq] at hv
  obtain ⟨rfl, _, rfl⟩ := hv
  have hlen : (L.take k).length = k := by simp; omega
  refine ⟨ao, cap, by rw [hlen], by omega, h2, h3, ?_⟩
  rcases h4 with h4 | ⟨b, off, h5, h6⟩
  · exact .inl (by rw [h4]; simp)
  · refine .inr ⟨b, off, h5, fun j hj => ?_⟩
    have hj2 : j < k := by omega
    obtain ⟨x, hc, hr⟩ := h6 j (by omega)
    refine ⟨x, hc, ?_⟩
    have e : (L.take k).getD j [] = L.getD j [] := by simp [List.getD, hj2]
    rw [e]
    exact hr

theorem OwnL.rd {w : World} {B : Nat} {v : Value} {L : List (List UInt8)} (h : OwnL w B v L) : RdL w v L := by
  obtain ⟨xs, h1, h2⟩ := h
  rcases h1.2 with ⟨hv, hn⟩ | ⟨g, cap, cur, hv, hb, hg, hnc, hcm, hcs, htake⟩
  · exact ⟨none, 0, by rw [hv, hn], by omega, Nat.zero_le _, fun _ => rfl, .inl (List.eq_nil_of_length_eq_zero hn)⟩
  · refine ⟨some ⟨g, 0, none⟩, cap, hv, hnc, hcm, (fun e => by cases e), .inr ⟨g, 0, rfl, fun j hj => ?_⟩⟩
    obtain ⟨x, hx, ho⟩ := h2 j hj
    have := World.ownsRow.cells h1 (g := g) (by rw [hv]; rfl) j _ hx
    rw [Addr.add_lit] at this
    exact ⟨x, this, ho.rd⟩

theorem OwnL.mono {w : World} {B B' : Nat} {v : Value} {L : List (List UInt8)} (h : OwnL w B v L) (hB : B' ≤ B) : OwnL w B' v L := by
  obtain ⟨xs, ⟨h1, h2⟩, h3⟩ := h
  refine ⟨xs, ⟨h1, ?_⟩, fun j hj => ?_⟩
  · rcases h2 with h2 | ⟨g, cap, cur, hv, hb, r⟩
    · exact .inl h2
    · exact .inr ⟨g, cap, cur, hv, by omega, r⟩
  · obtain ⟨x, hx, ho⟩ := h3 j hj
    exact ⟨x, hx, ho.mono hB⟩

theorem OwnL.below {w w' : World} {B B' : Nat} {v : Value} {L : List (List UInt8)} (h : OwnL w B v L) (hb : Below B' w w') (hB : w.heap.size ≤ B') : OwnL w' B v L := by
  obtain ⟨xs, ⟨h1, h2⟩, h3⟩ := h
  refine ⟨xs, ⟨h1, ?_⟩, fun j hj => ?_⟩
  · rcases h2 with h2 | ⟨g, cap, cur, hv, hbg, hg, r⟩
    · exact .inl h2
    · have hlt : g < w.heap.size := (Array.getElem?_eq_some_iff.1 hg).1
      exact .inr ⟨g, cap, cur, hv, hbg, by rw [hb.block g (by omega)]; exact hg, r⟩
  · obtain ⟨x, hx, ho⟩ := h3 j hj
    exact ⟨x, hx, ho.below hb hB⟩

theorem info_bytes : (Tryz.prog.info? 26).map (fun i => (i.zero, i.size, i.bytes)) = some (some (.slice none 0 0), 1, 24) := by kernel_rfl

/-- A row of bytes is no row of slices. -/
theorem own_apart {w : World} {B B' : Nat} {v x : Value} {n : Nat} {xs : List Value} {l : List UInt8} (h1 : w.ownsRow B 26 1 v n xs) (h2 : Own w B' x l) : x.ownBlock = none ∨ x.ownBlock ≠ v.ownBlock := by
  rcases h2.2 with ⟨hv, _⟩ | ⟨g, cap, cur, hv, _, hg, _⟩
  · exact .inl (by rw [hv]; rfl)
  · right
    rcases h1.2 with ⟨hv', _⟩ | ⟨g', cap', cur', hv', _, hg', _⟩
    · rw [hv, hv']
      exact fun e => by cases e
    · rw [hv, hv']
      intro e
      have e' : g = g' := by simpa [Value.ownBlock] using e
      rw [e', hg'] at hg
      have h3 : (26 : Nat) = 5 := by
        injection hg with hg
        injection hg
      exact absurd h3 (by decide)

end Go.Proofs.YtgpdbboieokldaaGreat

/- Contracts of the document's answer for layer crc: Entry, More, Sum. -/
namespace Go.Proofs.YtgpdbboieokldaaGreat
open Go.RowKit

theorem xor_u32 (a b : Nat) (ha : a < 4294967296) (hb : b < 4294967296) : bits .xor .u32 (a : Int) (b : Int) = ((a ^^^ b : Nat) : Int) := by
  have hx : a ^^^ b < 2 ^ 32 := Nat.xor_lt_two_pow (by omega) (by omega)
  have h1 : (BitVec.ofInt 32 (a : Int)).toNat = a := by
    rw [BitVec.ofInt_natCast, BitVec.toNat_ofNat]; exact Nat.mod_eq_of_lt (by omega)
  have h2 : (BitVec.ofInt 32 (b : Int)).toNat = b := by
    rw [BitVec.ofInt_natCast, BitVec.toNat_ofNat]; exact Nat.mod_eq_of_lt (by omega)
  show IntKind.u32.wrap ((BitVec.ofInt 32 (a : Int) ^^^ BitVec.ofInt 32 (b : Int)).toNat : Int) = _
  rw [BitVec.toNat_xor, h1, h2, IntKind.wrap_u32]
  omega

theorem xor_u8 (a b : Nat) (ha : a < 256) (hb : b < 256) : bits .xor .u8 (a : Int) (b : Int) = ((a ^^^ b : Nat) : Int) := by
  have hx : a ^^^ b < 2 ^ 8 := Nat.xor_lt_two_pow (by omega) (by omega)
  have h1 : (BitVec.ofInt 8 (a : Int)).toNat = a := by
    rw [BitVec.ofInt_natCast, BitVec.toNat_ofNat]; exact Nat.mod_eq_of_lt (by omega)
  have h2 : (BitVec.ofInt 8 (b : Int)).toNat = b := by
    rw [BitVec.ofInt_natCast, BitVec.toNat_ofNat]; exact Nat.mod_eq_of_lt (by omega)
  show IntKind.u8.wrap ((BitVec.ofInt 8 (a : Int) ^^^ BitVec.ofInt 8 (b : Int)).toNat : Int) = _
  rw [BitVec.toNat_xor, h1, h2, IntKind.wrap_u8]
  omega

theorem ticks_succ (k x : Nat) : ticks (k + 1) x = tick (ticks k x) := by
  rw [ticks_add k 1]
  rfl

theorem ticks32 (k : Nat) {x : Nat} (h : x < 4294967296) : ticks k x < 4294967296 := by
  have := ticks_lt k (Nat.le_refl 32) (by omega : x < 2 ^ 32)
  omega

set_option maxRecDepth 100000 in
set_option maxHeartbeats 400000 in
theorem refEntry_any (c : Nat) (w : World) (hc : c < 256) :
    Calls Tryz.prog 85 #[.int .u8 (c : Int)] w fun e w' => e = .returned (.int .u32 (entry c : Nat)) ∧ w' = w := by
  go_enter Tryz.func85, Tryz.ntmps85
  go_wp2
  go_loop [3, 4] (fun x i => ∃ k : Nat, k ≤ 8 ∧ i = .int .i64 k ∧ x = .int .u32 (ticks k c : Nat)) (fun _ i => 8 - (intOf i).toNat)
  case atStart => exact ⟨0, Nat.zero_le _, rfl, rfl⟩
  case round =>
    obtain ⟨k, hk, rfl, rfl⟩ := hrel
    by_cases hlt : k < 8
    · have HS := hide (ticks_succ k c)
      have hb : ticks k c < 4294967296 := ticks32 k (by omega)
      generalize ticks k c = y at *
      obtain ⟨Y, hY⟩ : ∃ Y : Int, Y = (y : Int) := ⟨_, rfl⟩
      rw [← hY]
      have hY0 : 0 ≤ Y := by omega
      have hY1 : Y < 4294967296 := by omega
      have HY := hide hY
      have HB := hide hb
      clear hY hb
      by_cases ho : Y % 2 = 1
      · have hob : (Y % 2 == 1) = true := beq_iff_eq.2 ho
        have HO := hide ho
        clear ho
        go_wp2
        go_round
        case rel =>
          have e := HY.out
          have eo := HO.out
          refine ⟨k + 1, by omega, by go_num, ?_⟩
          have e2 : Y / 2 = ((y / 2 : Nat) : Int) := by omega
          have e3 : (2197175160 : Int) = ((2197175160 : Nat) : Int) := rfl
          have ht : tick y = y / 2 ^^^ 2197175160 := if_pos (by omega)
          rw [HS.out, ht, e2, e3, xor_u32 _ _ (by have := HB.out; omega) (by decide)]
        case measure => simp [intOf]; omega
      · have hob : (Y % 2 == 1) = false := beq_eq_false_iff_ne.2 ho
        have HO := hide ho
        clear ho
        go_wp2
        go_round
        case rel =>
          have e := HY.out
          have eo := HO.out
          refine ⟨k + 1, by omega, by go_num, ?_⟩
          have e2 : Y / 2 = ((y / 2 : Nat) : Int) := by omega
          have ht : tick y = y / 2 := if_neg (by omega)
          rw [HS.out, ht, e2]
        case measure => simp [intOf]; omega
    · go_wp2
      go_ret
      obtain rfl : k = 8 := by omega
      exact ⟨rfl, rfl⟩

theorem crcReg_snoc (l : List UInt8) (x k : Nat) (h : k < l.length) : crcReg x (l.take (k + 1)) = crcByte (crcReg x (l.take k)) (l.getD k 0).toNat := by
  rw [take_snoc l k h, crcReg_append]
  rfl

theorem low_byte (x c : Nat) (hc : c < 256) : (x ^^^ c) % 256 = x % 256 ^^^ c := by
  have h := @Nat.xor_mod_two_pow x c 8
  have e : c % 2 ^ 8 = c := Nat.mod_eq_of_lt (by omega)
  rw [e] at h
  exact h

theorem byte_lt (x c : Nat) (hc : c < 256) : x % 256 ^^^ c < 256 := by
  have : x % 256 ^^^ c < 2 ^ 8 := Nat.xor_lt_two_pow (by omega) (by omega)
  omega

theorem entry_lt (c : Nat) (h : c < 256) : entry c < 4294967296 := ticks32 8 (by omega)

theorem not_u32 (s : Nat) (h : s < 4294967296) : bits .xor .u32 IntKind.u32.max (s : Int) = ((s ^^^ 4294967295 : Nat) : Int) := by
  have e : IntKind.u32.max = ((4294967295 : Nat) : Int) := by decide
  rw [e, xor_u32 _ _ (by decide) h, Nat.xor_comm]

set_option maxRecDepth 100000 in
set_option maxHeartbeats 400000 in
theorem refMore_any (s : Nat) (v : Value) (l : List UInt8) (w : World) (hr : Rd w v l) (hs : s < 4294967296) :
    Calls Tryz.prog 53 #[.int .u32 (s : Int), v] w fun e w' => e = .returned (.int .u32 (crcMore s l : Nat)) ∧ w' = w := by
  obtain ⟨ao, cap, rfl, hlc, hcm, hn0, hao⟩ := hr
  clear hn0
  have hml : (l.length : Int) ≤ 9223372036854775807 := by unfold maxLen at hcm; omega
  have HN := hide (not_u32 s hs)
  have HL : Hid (∀ k, crcReg (s ^^^ 4294967295) (l.take k) < 4294967296) := fun k => crcReg_lt _ (not_lt hs)
  have HE : Hid (crcMore s l = crcReg (s ^^^ 4294967295) l ^^^ 4294967295) := rfl
  generalize s ^^^ 4294967295 = x0 at *
  clear hs
  go_enter Tryz.func53, Tryz.ntmps53
  go_wp2
  go_loop [5, 6] (fun x i => ∃ k : Nat, k ≤ l.length ∧ i = .int .i64 k ∧ x = .int .u32 (crcReg x0 (l.take k) : Nat)) (fun _ i => l.length - (intOf i).toNat)
  case atStart =>
    refine ⟨0, Nat.zero_le _, rfl, ?_⟩
    rw [HN.out]
    rfl
  case round =>
    obtain ⟨k, hk, rfl, rfl⟩ := hrel
    have hy := HL.out k
    by_cases hlt : k < l.length
    · have HS := hide (crcReg_snoc l x0 k hlt)
      rcases hao with hao | ⟨b, off, rfl, hc⟩
      · subst hao; simp at hlt
      have hck := hc k hlt
      have hc256 : (l.getD k 0).toNat < 256 := UInt8.toNat_lt _
      clear hc
      generalize crcReg x0 (l.take k) = y at *
      generalize (l.getD k 0).toNat = c at *
      have hlb := byte_lt y c hc256
      have HX : Hid (bits .xor .u8 ((y : Int) % 256) (c : Int) = ((y % 256 ^^^ c : Nat) : Int)) := by
        have e : (y : Int) % 256 = ((y % 256 : Nat) : Int) := by omega
        rw [e]
        exact xor_u8 _ _ (by omega) hc256
      have HF : Hid (bits .xor .u32 ((entry (y % 256 ^^^ c) : Nat) : Int) ((y : Int) / 256) = ((crcByte y c : Nat) : Int)) := by
        have e : (y : Int) / 256 = ((y / 256 : Nat) : Int) := by omega
        rw [e, xor_u32 _ _ (entry_lt _ hlb) (by omega)]
        unfold crcByte
        rw [low_byte y c hc256]
        exact rfl
      have HC := hide (fun w => refEntry_any (y % 256 ^^^ c) w hlb)
      go_wp2_with fail
      rw [HX.out]
      refine (HC.out _).mono ?_
      rintro e w' ⟨rfl, rfl⟩
      go_wp2
      go_round
      case rel => exact ⟨k + 1, by omega, by go_num, by rw [HS.out, ← HF.out]⟩
      case measure => simp [intOf]; omega
    · go_wp2
      go_ret
      refine ⟨ret_int ?_, rfl⟩
      rw [HE.out, not_u32 _ hy, List.take_of_length_le (by omega)]

set_option maxRecDepth 100000 in
theorem refSum_any (v : Value) (l : List UInt8) (w : World) (hr : Rd w v l) :
    Calls Tryz.prog 54 #[v] w fun e w' => e = .returned (.int .u32 (crcMore 0 l : Nat)) ∧ w' = w := by
  have HC : Hid (Calls Tryz.prog 53 #[.int .u32 0, v] w fun e w' => e = .returned (.int .u32 (crcMore 0 l : Nat)) ∧ w' = w) := refMore_any 0 v l w hr (by decide)
  generalize crcMore 0 l = m at *
  clear hr
  go_enter Tryz.func54, Tryz.ntmps54
  go_wp2_with fail
  refine HC.out.mono ?_
  rintro e w' ⟨rfl, rfl⟩
  go_wp2
  go_ret
  exact ⟨rfl, rfl⟩

end Go.Proofs.YtgpdbboieokldaaGreat

/- Contracts of ferrymanref03: Encode, Size, open, Decode. -/
namespace Go.Proofs.YtgpdbboieokldaaGreat
open Go.RowKit

/-- What Encode answers. -/
def encF (l : List UInt8) : List UInt8 × Nat := if l.length ≤ 1048576 then (frameOf l, 0) else ([], 5)

theorem ret_tup2 {v : Value} {k : IntKind} {a b : Int} (h : a = b) : Ending.returned (.tuple #[v, .int k a]) = .returned (.tuple #[v, .int k b]) := by rw [h]

theorem ret_tup3 {v : Value} {k k' : IntKind} {a b c d : Int} (h : a = b) (h' : c = d) : Ending.returned (.tuple #[v, .int k a, .int k' c]) = .returned (.tuple #[v, .int k b, .int k' d]) := by rw [h, h']

set_option maxRecDepth 100000 in
set_option maxHeartbeats 1000000 in
theorem refEncode_any (v : Value) (l : List UInt8) (w : World) (hr : Rd w v l) :
    Calls Tryz.prog 21 #[v] w fun e w' => ∃ v', e = .returned (.tuple #[v', .int .i64 ((encF l).2 : Nat)]) ∧ Own w' w.heap.size v' (encF l).1 ∧ Below w.heap.size w w' := by
  have HR := hide hr
  obtain ⟨ao, cap, rfl, hlc, hcm, hn0, hao⟩ := hr
  clear hn0 hao
  have hml : (l.length : Int) ≤ 9223372036854775807 := by unfold maxLen at hcm; omega
  by_cases h : (l.length : Int) ≤ 1048576
  · have HE : Hid (encF l = (headOf l ++ Lib.leBytes 4 (crcMore 0 (headOf l)), 0)) := if_pos (by omega)
    have HP : Hid (∀ w, Calls Tryz.prog 19 #[.slice none 0 0, .int .i64 (l.length : Int)] w fun e w' => ∃ v', e = .returned v' ∧ Own w' w.heap.size v' (Lib.uvarint l.length) ∧ Below w.heap.size w w') := by
      intro w
      have := refPut_any (.slice none 0 0) [] (l.length : Int) w (Rd.nil _) (by simp)
      have e : putOf [] (l.length : Int) = Lib.uvarint l.length := if_pos ⟨by omega, by omega⟩
      rwa [e] at this
    have HS : Hid (∀ v w, Rd w v (Lib.uvarint l.length) → Calls Tryz.prog 54 #[v] w fun e w' => e = .returned (.int .u32 (crcMore 0 (Lib.uvarint l.length) : Nat)) ∧ w' = w) := fun v w h => refSum_any v _ w h
    have HM : Hid (∀ w1, Below w.heap.size w w1 → Calls Tryz.prog 53 #[.int .u32 (crcMore 0 (Lib.uvarint l.length) : Nat), .slice ao l.length cap] w1 fun e w' => e = .returned (.int .u32 (crcMore 0 (headOf l) : Nat)) ∧ w' = w1) := by
      intro w1 hb
      have e : crcMore 0 (headOf l) = crcMore (crcMore 0 (Lib.uvarint l.length)) l := crcMore_append 0 _ _
      rw [e]
      exact refMore_any _ _ l w1 (HR.out.below hb (Nat.le_refl _)) (crc_lt _)
    have HF : Hid (∀ w, Calls Tryz.prog 55 #[.int .u64 (crcMore 0 (headOf l) : Nat), .int .i64 4] w fun e w' => ∃ v', e = .returned v' ∧ Own w' w.heap.size v' (Lib.leBytes 4 (crcMore 0 (headOf l))) ∧ Below w.heap.size w w') := by
      intro w
      have hl := crc_lt (headOf l)
      exact fix_any _ 4 w (by decide) (by omega)
    have hl4 := crc_lt (headOf l)
    have HH : Hid (headOf l = Lib.uvarint l.length ++ l) := rfl
    have HL4 : Hid ((Lib.leBytes 4 (crcMore 0 (headOf l))).length = 4) := Lib.leBytes_length 4 _
    have HL3 : Hid ((Lib.uvarint l.length).length ≤ 3) := len3 (by omega)
    generalize crcMore 0 (headOf l) = s at *
    obtain ⟨S, hS⟩ : ∃ S : Int, S = (s : Int) := ⟨_, rfl⟩
    have hS0 : 0 ≤ S := by omega
    have hS1 : S < 4294967296 := by omega
    rw [← hS] at HM HF
    clear hS hl4
    generalize Lib.leBytes 4 s = q at *
    generalize crcMore 0 (Lib.uvarint l.length) = s0 at *
    generalize Lib.uvarint l.length = u at *
    go_enter Tryz.func21, Tryz.ntmps21
    go_wp2_with fail
    refine (HP.out _).mono ?_
    rintro e w1 ⟨v1, rfl, ho1, hb1⟩
    have HB1 := hide hb1
    have HR1 := hide ho1.rd
    clear ho1 hb1 HP
    go_wp2_with fail
    refine (HS.out _ _ HR1.out).mono ?_
    rintro e w2 ⟨rfl, rfl⟩
    clear HS
    go_wp2_with fail
    refine (HM.out _ HB1.out).mono ?_
    rintro e w3 ⟨rfl, rfl⟩
    clear HM
    have hs1 := HB1.out.size
    go_wp2_with (at_builtin; refine wpList_append_rd _ rfl _ _ rfl w3.heap.size _ [] rfl (Own.nil _ _) _ u rfl HR1.out (by have := HL3.out; simp; omega) (Nat.le_refl _) ?_)
    intro v4 w4 ho4 hb4
    have HB4 := hide (HB1.out.trans (hb4.mono hs1))
    have HO4 : Hid (Own w4 w3.heap.size v4 u) := ho4
    have hs4 := hb4.size
    clear ho4 hb4
    go_wp2_with (at_builtin; refine wpList_append_rd _ rfl _ _ rfl w3.heap.size _ u rfl HO4.out _ l rfl (HR.out.below HB4.out (Nat.le_refl _)) (by have := HL3.out; omega) (by omega) ?_)
    intro v5 w5 ho5 hb5
    have HB5 := hide (HB4.out.trans (hb5.mono hs1))
    have HO5 : Hid (Own w5 w3.heap.size v5 (u ++ l)) := ho5
    have hs5 := hb5.size
    clear ho5 hb5
    go_wp2_with fail
    refine (HF.out _).mono ?_
    rintro e w6 ⟨v6, rfl, ho6, hb6⟩
    have HB6 := hide (HB5.out.trans (hb6.mono HB5.out.size))
    have HR6 := hide ho6.rd
    have HO6 : Hid (Own w6 w3.heap.size v5 (u ++ l)) := HO5.out.below hb6 (Nat.le_refl _)
    have hs6 := hb6.size
    clear ho6 hb6
    go_wp2_with (at_builtin; refine wpList_append_rd _ rfl _ _ rfl w3.heap.size _ (u ++ l) rfl HO6.out _ q rfl HR6.out (by have := HL3.out; have := HL4.out; simp; omega) (by omega) ?_)
    intro v7 w7 ho7 hb7
    have HB7 := hide (HB6.out.trans (hb7.mono hs1))
    have HO7 := hide (ho7.mono hs1)
    clear ho7 hb7
    go_wp2
    go_ret2
    refine ⟨v7, by rw [HE.out]; rfl, ?_, HB7.out⟩
    rw [HE.out, HH.out]
    show Own _ _ _ (u ++ l ++ q)
    rw [List.append_assoc]
    exact HO7.out
  · have HE : Hid (encF l = ([], 5)) := if_neg (by omega)
    go_enter Tryz.func21, Tryz.ntmps21
    go_wp2
    go_ret2
    exact ⟨_, by rw [HE.out]; rfl, by rw [HE.out]; exact Own.nil _ _, Below.refl _ _⟩

set_option maxRecDepth 100000 in
theorem refOpen_any (v : Value) (l : List UInt8) (w : World) (hr : Rd w v l) :
    Calls Tryz.prog 62 #[v] w fun e w' => e = .returned (.bool (decide (isOpen l))) ∧ w' = w := by
  obtain ⟨ao, cap, rfl, hlc, hcm, hn0, hao⟩ := hr
  clear hn0
  have hml : (l.length : Int) ≤ 9223372036854775807 := by unfold maxLen at hcm; omega
  go_enter Tryz.func62, Tryz.ntmps62
  go_wp2
  go_loop [3] (fun i => ∃ k : Nat, i = .int .i64 k ∧ k ≤ l.length ∧ Hid (∀ j, j < k → 128 ≤ (l.getD j 0).toNat)) (fun i => l.length - (intOf i).toNat)
  case atStart => exact ⟨0, rfl, by omega, fun j hj => by omega⟩
  case round =>
    obtain ⟨k, rfl, hkl, hall⟩ := hrel
    by_cases hlt : k < l.length
    · rcases hao with hao | ⟨b, off, rfl, hc⟩
      · subst hao; simp at hlt
      · have hck := hc k hlt
        clear hc
        obtain ⟨y, hy⟩ : ∃ y, y = (l.getD k 0).toNat := ⟨_, rfl⟩
        rw [← hy] at hck
        have HY : Hid (y = (l.getD k 0).toNat) := hy
        clear hy
        by_cases hyb : (y : Int) < 128
        · go_wp2
          go_ret
          refine ⟨ret_bool ?_, rfl⟩
          symm
          refine decide_eq_false fun ho => ?_
          have := ho.2 k hlt
          rw [← HY.out] at this
          omega
        · go_wp2
          go_round
          case rel =>
            refine ⟨k + 1, by go_num, by omega, fun j hj => ?_⟩
            by_cases e : j = k
            · rw [e, ← HY.out]; omega
            · exact hall.out j (by omega)
          case measure => simp [intOf]; omega
    · by_cases h10 : (l.length : Int) < 10
      all_goals
        go_wp2
        go_ret
        refine ⟨ret_bool ?_, rfl⟩
        symm
        first
          | exact decide_eq_true ⟨by omega, fun j hj => hall.out j (by omega)⟩
          | exact decide_eq_false fun ho => by have := ho.1; omega

end Go.Proofs.YtgpdbboieokldaaGreat

/- Contracts of ferrymanref03: Decode, Whole, All. -/
namespace Go.Proofs.YtgpdbboieokldaaGreat
open Go.RowKit

theorem decF_1 {l : List UInt8} (h : isOpen l) : decF l = ([], 0, 2) := by unfold decF; rw [if_pos h]

theorem decF_2 {l : List UInt8} (h : ¬ isOpen l) (h2 : (dec62 l).2 = 0) : decF l = ([], 0, 3) := by unfold decF; rw [if_neg h, if_pos h2]

theorem decF_3 {l : List UInt8} (h : ¬ isOpen l) (h2 : (dec62 l).2 ≠ 0) (h3 : 1048576 < (dec62 l).1) : decF l = ([], 0, 5) := by unfold decF; rw [if_neg h, if_neg h2, if_pos h3]

theorem decF_4 {l : List UInt8} (h : ¬ isOpen l) (h2 : (dec62 l).2 ≠ 0) (h3 : ¬ 1048576 < (dec62 l).1) (h4 : l.length < (dec62 l).2 + 4 + (dec62 l).1) : decF l = ([], 0, 2) := by
  unfold decF; rw [if_neg h, if_neg h2, if_neg h3, if_pos h4]

theorem decF_5 {l : List UInt8} (h : ¬ isOpen l) (h2 : (dec62 l).2 ≠ 0) (h3 : ¬ 1048576 < (dec62 l).1) (h4 : ¬ l.length < (dec62 l).2 + 4 + (dec62 l).1)
    (h5 : Lib.leNat ((l.drop ((dec62 l).2 + (dec62 l).1)).take 4) ≠ crcMore 0 (l.take ((dec62 l).2 + (dec62 l).1))) : decF l = ([], 0, 4) := by
  unfold decF; rw [if_neg h, if_neg h2, if_neg h3, if_neg h4, if_pos h5]

theorem decF_6 {l : List UInt8} (h : ¬ isOpen l) (h2 : (dec62 l).2 ≠ 0) (h3 : ¬ 1048576 < (dec62 l).1) (h4 : ¬ l.length < (dec62 l).2 + 4 + (dec62 l).1)
    (h5 : Lib.leNat ((l.drop ((dec62 l).2 + (dec62 l).1)).take 4) = crcMore 0 (l.take ((dec62 l).2 + (dec62 l).1))) : decF l = ((l.drop (dec62 l).2).take (dec62 l).1, (dec62 l).2 + 4 + (dec62 l).1, 0) := by
  unfold decF; rw [if_neg h, if_neg h2, if_neg h3, if_neg h4, if_neg (by rw [h5]; simp)]

theorem dec62_nine (l : List UInt8) : (dec62 l).2 ≤ 9 := by
  rcases dec62_cases l with h | ⟨h1, h2, h3, h4⟩
  · rw [h]; decide
  · have h5 : (Lib.uvarint (dec62 l).1).length ≤ 9 := Lib.uvarint_length 8 _ (Nat.lt_of_lt_of_le h1 (by decide))
    rw [← h4, List.length_take] at h5
    omega

/-- What Decode's answer is, of which value. -/
def Decoded (w : World) (l : List UInt8) (e : Ending) (w' : World) : Prop :=
  ∃ v', e = .returned (.tuple #[v', .int .i64 ((decF l).2.1 : Nat), .int .i64 ((decF l).2.2 : Nat)]) ∧ Own w' w.heap.size v' (decF l).1 ∧ Below w.heap.size w w'

theorem Decoded.refused {w : World} {l : List UInt8} {c : Nat} (h : decF l = ([], 0, c)) : Decoded w l (.returned (.tuple #[.slice none 0 0, .int .i64 0, .int .i64 (c : Int)])) w := by
  refine ⟨.slice none 0 0, ?_, ?_, Below.refl _ _⟩
  · rw [h]; rfl
  · rw [h]; exact Own.nil _ _

set_option maxRecDepth 100000 in
set_option maxHeartbeats 1000000 in
theorem refDecode_any (v : Value) (l : List UInt8) (w : World) (hr : Rd w v l) :
    Calls Tryz.prog 24 #[v] w fun e w' => Decoded w l e w' := by
  have HR := hide hr
  have HO := hide (refOpen_any v l w hr)
  have HG := hide (refGet_any v l w hr)
  obtain ⟨ao, cap, rfl, hlc, hcm, hn0, hao⟩ := hr
  clear hn0 hao
  have hml : (l.length : Int) ≤ 9223372036854775807 := by unfold maxLen at hcm; omega
  have HLC := hide hlc
  have HCM := hide hcm
  clear hlc hcm
  by_cases c1 : isOpen l
  · have HE := hide (decF_1 c1)
    have HD : Hid (decide (isOpen l) = true) := decide_eq_true c1
    rw [HD.out] at HO
    clear c1 HG
    go_enter Tryz.func24, Tryz.ntmps24
    go_wp2_with fail
    refine HO.out.mono ?_
    rintro e w1 ⟨rfl, rfl⟩
    clear HO
    go_wp2
    go_ret3
    exact Decoded.refused HE.out
  have HD : Hid (decide (isOpen l) = false) := decide_eq_false c1
  rw [HD.out] at HO
  have C1 := hide c1
  clear c1
  have hg1 := dec62_cases l
  obtain ⟨n, hn⟩ : ∃ n, n = (dec62 l).1 := ⟨_, rfl⟩
  obtain ⟨k, hk⟩ : ∃ k, k = (dec62 l).2 := ⟨_, rfl⟩
  rw [← hn, ← hk] at hg1 HG
  have HN := hide hn
  have HK := hide hk
  have hk9 := dec62_nine l
  have hbd : (n : Int) < 4611686018427387904 ∧ (k : Int) ≤ l.length ∧ (k : Int) ≤ 9 := by
    rw [← hk] at hk9
    rcases hg1 with h | h
    · have h1 : n = 0 := by rw [hn, h]
      have h2 : k = 0 := by rw [hk, h]
      omega
    · omega
  clear hk9
  obtain ⟨N, hNn⟩ : ∃ N : Int, N = (n : Int) := ⟨_, rfl⟩
  obtain ⟨K, hKk⟩ : ∃ K : Int, K = (k : Int) := ⟨_, rfl⟩
  rw [← hNn, ← hKk] at hbd HG
  obtain ⟨hn62, hkl, hk9⟩ := hbd
  have hN0 : 0 ≤ N := by omega
  have hK0 : 0 ≤ K := by omega
  have HNN := hide hNn
  have HKK := hide hKk
  clear hNn hKk
  clear hg1 hn hk
  by_cases c2 : K = 0
  · have HE := hide (decF_2 C1.out (by rw [← HK.out]; have := HKK.out; omega))
    subst c2
    go_enter Tryz.func24, Tryz.ntmps24
    go_wp2_with fail
    refine HO.out.mono ?_
    rintro e w1 ⟨rfl, rfl⟩
    clear HO
    go_wp2_with fail
    refine HG.out.mono ?_
    rintro e w1 ⟨rfl, rfl⟩
    clear HG
    go_wp2
    go_ret3
    exact Decoded.refused HE.out
  have ez : (K == 0) = false := beq_eq_false_iff_ne.2 c2
  have hk1 : 1 ≤ K := by omega
  have C2 := hide (show (dec62 l).2 ≠ 0 by rw [← HK.out]; have := HKK.out; omega)
  clear c2
  by_cases c3 : 1048576 < N
  · have HE := hide (decF_3 C1.out C2.out (by rw [← HN.out]; have := HNN.out; omega))
    go_enter Tryz.func24, Tryz.ntmps24
    go_wp2_with fail
    refine HO.out.mono ?_
    rintro e w1 ⟨rfl, rfl⟩
    clear HO
    go_wp2_with fail
    refine HG.out.mono ?_
    rintro e w1 ⟨rfl, rfl⟩
    clear HG
    go_wp2
    go_ret3
    exact Decoded.refused HE.out
  have C3 := hide (show ¬ 1048576 < (dec62 l).1 by rw [← HN.out]; have := HNN.out; omega)
  by_cases c4 : (l.length : Int) < K + 4 + N
  · have HE := hide (decF_4 C1.out C2.out C3.out (by rw [← HN.out, ← HK.out]; have := HNN.out; have := HKK.out; omega))
    go_enter Tryz.func24, Tryz.ntmps24
    go_wp2_with fail
    refine HO.out.mono ?_
    rintro e w1 ⟨rfl, rfl⟩
    clear HO
    go_wp2_with fail
    refine HG.out.mono ?_
    rintro e w1 ⟨rfl, rfl⟩
    clear HG
    go_wp2
    go_ret3
    exact Decoded.refused HE.out
  have C4 := hide (show ¬ l.length < (dec62 l).2 + 4 + (dec62 l).1 by rw [← HN.out, ← HK.out]; have := HNN.out; have := HKK.out; omega)
  have HS : Hid (∀ v, Rd w v (l.take (k + n)) → Calls Tryz.prog 54 #[v] w fun e w' => e = .returned (.int .u32 (crcMore 0 (l.take (k + n)) : Nat)) ∧ w' = w) := fun v h => refSum_any v _ w h
  have HF : Hid (∀ v, Rd w v ((l.drop (k + n)).take 4) → Calls Tryz.prog 64 #[v] w fun e w' => e = .returned (.int .u64 (Lib.leNat ((l.drop (k + n)).take 4) : Nat)) ∧ w' = w) := by
    intro v h
    have := refFixed_any v _ w h
    rwa [List.take_of_length_le (by simp; omega)] at this
  have HE5 : Hid (Lib.leNat ((l.drop (k + n)).take 4) ≠ crcMore 0 (l.take (k + n)) → decF l = ([], 0, 4)) := fun h => by
    rw [HN.out, HK.out] at h
    exact decF_5 C1.out C2.out C3.out C4.out h
  have HE6 : Hid (Lib.leNat ((l.drop (k + n)).take 4) = crcMore 0 (l.take (k + n)) → decF l = ((l.drop k).take n, k + 4 + n, 0)) := fun h => by
    rw [HN.out, HK.out] at h ⊢
    exact decF_6 C1.out C2.out C3.out C4.out h
  have hs := crc_lt (l.take (k + n))
  have hq : Lib.leNat ((l.drop (k + n)).take 4) < 4294967296 := by
    have h1 := leNat_lt256 ((l.drop (k + n)).take 4)
    have e4 : ((l.drop (k + n)).take 4).length = 4 := by have := HNN.out; have := HKK.out; simp; omega
    rw [e4] at h1
    exact h1
  generalize crcMore 0 (l.take (k + n)) = s at *
  generalize Lib.leNat ((l.drop (k + n)).take 4) = q at *
  obtain ⟨S, hS⟩ : ∃ S : Int, S = (s : Int) := ⟨_, rfl⟩
  obtain ⟨T, hT⟩ : ∃ T : Int, T = (q : Int) := ⟨_, rfl⟩
  rw [← hS] at HS
  rw [← hT] at HF
  have hS0 : 0 ≤ S := by omega
  have hS1 : S < 4294967296 := by omega
  have HSS := hide hS
  have HTT := hide hT
  have HR1 : Hid (∃ v', (Instr.sliceAt 26 (.slice ao l.length cap) (some (.int .i64 K)) (some (.int .i64 (K + N))) none).run Tryz.prog w = .ok v' w ∧ Rd w v' ((l.drop k).take n)) := by
    have := run_cut_lh w _ l HR.out .i64 .i64 K (K + N) (by omega) (by omega) (by omega)
    have hn := HNN.out
    have hk := HKK.out
    have e : (K + N).toNat - K.toNat = n := by omega
    have e2 : K.toNat = k := by omega
    rwa [e, e2] at this
  have HR2 : Hid (∃ v', (Instr.sliceAt 26 (.slice ao l.length cap) none (some (.int .i64 (K + N))) none).run Tryz.prog w = .ok v' w ∧ Rd w v' (l.take (k + n))) := by
    have := run_cut_h w _ l HR.out .i64 (K + N) (by omega) (by omega)
    have hn := HNN.out
    have hk := HKK.out
    have e : (K + N).toNat = k + n := by omega
    rwa [e] at this
  have HR3 : Hid (∃ v', (Instr.sliceAt 26 (.slice ao l.length cap) (some (.int .i64 (K + N))) (some (.int .i64 (K + N + 4))) none).run Tryz.prog w = .ok v' w ∧ Rd w v' ((l.drop (k + n)).take 4)) := by
    have := run_cut_lh w _ l HR.out .i64 .i64 (K + N) (K + N + 4) (by omega) (by omega) (by omega)
    have hn := HNN.out
    have hk := HKK.out
    have e : (K + N).toNat = k + n := by omega
    have e2 : (K + N + 4).toNat - (k + n) = 4 := by omega
    rwa [e, e2] at this
  clear hS hT hs hq
  go_enter Tryz.func24, Tryz.ntmps24
  go_wp2_with fail
  refine HO.out.mono ?_
  rintro e w1 ⟨rfl, rfl⟩
  clear HO
  go_wp2_with fail
  refine HG.out.mono ?_
  rintro e w1 ⟨rfl, rfl⟩
  clear HG
  go_wp2_with (refine wpList_cut _ rfl _ _ _ _ rfl _ HR1.out ?_)
  intro v1 hr1
  have HV1 := hide hr1
  clear hr1 HR1
  go_wp2_with (refine wpList_cut _ rfl _ _ _ _ rfl _ HR2.out ?_)
  intro v2 hr2
  have HV2 := hide hr2
  clear hr2 HR2
  go_wp2_with fail
  refine (HS.out _ HV2.out).mono ?_
  rintro e w1 ⟨rfl, rfl⟩
  clear HS HV2
  go_wp2_with (refine wpList_cut _ rfl _ _ _ _ rfl _ HR3.out ?_)
  intro v3 hr3
  have HV3 := hide hr3
  clear hr3 HR3
  go_wp2_with fail
  refine (HF.out _ HV3.out).mono ?_
  rintro e w1 ⟨rfl, rfl⟩
  clear HF HV3
  by_cases c5 : T = S
  · have hne : (T != S) = false := by rw [bne_eq_false_iff_eq]; exact c5
    have HE := hide (HE6.out (by have := HSS.out; have := HTT.out; omega))
    clear c5 HE5 HE6
    have HLL := hide (show ((l.drop k).take n).length ≤ 1048576 by have := HNN.out; simp; omega)
    generalize (l.drop k).take n = x at *
    go_wp2_with (at_builtin; refine wpList_append_rd _ rfl _ _ rfl w1.heap.size _ [] rfl (Own.nil _ _) _ x rfl HV1.out (by have := HLL.out; simp; omega) (Nat.le_refl _) ?_)
    intro v4 w4 ho4 hb4
    have HO4 := hide ho4
    have HB4 := hide hb4
    clear ho4 hb4
    go_wp2
    go_ret3
    refine ⟨v4, ?_, by rw [HE.out]; exact HO4.out, HB4.out⟩
    rw [HE.out]
    exact ret_tup3 (by show K + 4 + N = ((k + 4 + n : Nat) : Int); have := HNN.out; have := HKK.out; omega) rfl
  · have hne : (T != S) = true := by rw [bne_iff_ne]; exact c5
    have HE := hide (HE5.out (by have := HSS.out; have := HTT.out; omega))
    clear c5 HE5 HE6
    go_wp2
    go_ret3
    exact Decoded.refused HE.out

end Go.Proofs.YtgpdbboieokldaaGreat

/- Contracts of ferrymanref03: Whole, All, Same. -/
namespace Go.Proofs.YtgpdbboieokldaaGreat
open Go.RowKit

/-- So many bytes are whole frames, whose data are L, and what is behind them tells the rest. -/
def Upto (l : List UInt8) (A : Nat) (L : List (List UInt8)) : Prop :=
  wholeF l = (L ++ (wholeF (l.drop A)).1, A + (wholeF (l.drop A)).2.1, (wholeF (l.drop A)).2.2) ∧ 5 * L.length ≤ A ∧ A ≤ l.length

theorem Upto.start (l : List UInt8) : Upto l 0 [] := ⟨by simp, by simp, by omega⟩

theorem Upto.stop {l : List UInt8} {A : Nat} {L : List (List UInt8)} (h : Upto l A L) (hA : A < l.length) (he : (decF (l.drop A)).2.2 ≠ 0) : wholeF l = (L, A, (decF (l.drop A)).2.2) := by
  have hne : l.drop A ≠ [] := fun e => by
    have := congrArg List.length e
    rw [List.length_drop, List.length_nil] at this
    omega
  rw [h.1, wholeF_stop hne he]
  simp

theorem Upto.whole {l : List UInt8} {A : Nat} {L : List (List UInt8)} (h : Upto l A L) (hA : ¬ A < l.length) : wholeF l = (L, A, 0) := by
  have e : l.drop A = [] := List.drop_of_length_le (by omega)
  rw [h.1, e, wholeF_nil]
  simp

theorem Upto.step {l : List UInt8} {A : Nat} {L : List (List UInt8)} (h : Upto l A L) (hA : A < l.length) (he : (decF (l.drop A)).2.2 = 0) : Upto l (A + (decF (l.drop A)).2.1) (L ++ [(decF (l.drop A)).1]) := by
  have hne : l.drop A ≠ [] := fun e => by
    have := congrArg List.length e
    rw [List.length_drop, List.length_nil] at this
    omega
  have h5 := decF_five he
  have hle := decF_le (l.drop A)
  rw [List.length_drop] at hle
  refine ⟨?_, ?_, by omega⟩
  · rw [h.1, wholeF_step hne he, List.drop_drop]
    simp [Nat.add_assoc]
  · have := h.2.1
    simp
    omega

/-- What All answers. -/
def allF (l : List UInt8) : List (List UInt8) × Nat := if (wholeF l).2.2 = 0 then ((wholeF l).1, 0) else ([], (wholeF l).2.2)

end Go.Proofs.YtgpdbboieokldaaGreat

/- Contract of ferrymanref03.Same. -/
namespace Go.Proofs.YtgpdbboieokldaaGreat
open Go.RowKit

theorem getD_ext {α : Type} (d : α) (A B : List α) (hl : A.length = B.length) (h : ∀ j, j < A.length → A.getD j d = B.getD j d) : A = B := by
  apply List.ext_getElem hl
  intro j h1 h2
  have := h j h1
  simpa [List.getD, h1, h2] using this

end Go.Proofs.YtgpdbboieokldaaGreat

/- The table in memory: what the walk asks of an array of 256 cells. -/
namespace Go.Proofs.YtgpdbboieokldaaGreat
open Go.RowKit

/-- The table's cells. -/
def tabCells : Array Value := ((List.range 256).map fun c => Value.int .u32 ((entry c : Nat) : Int)).toArray

/-- The table as it is made: noughts. -/
def zeroTab : Array Value := (List.replicate 256 (Value.int .u32 0)).toArray

theorem tab_zero : (Tryz.prog.info? 115).map (fun i => (i.zero, i.size)) = some (some (.agg zeroTab), 256) := by kernel_rfl

theorem tabCells_size : tabCells.size = 256 := by simp [tabCells]

theorem zeroTab_size : zeroTab.size = 256 := by
  unfold zeroTab
  rw [List.size_toArray, List.length_replicate]

theorem tabCells_one : tabCells.all (·.oneCell') = true := by
  rw [Array.all_eq_true]
  intro i hi
  simp [tabCells, Value.oneCell']

theorem tabCells_at (k : Nat) (h : k < 256) : tabCells[k]? = some (.int .u32 ((entry k : Nat) : Int)) := by
  simp [tabCells, h]

theorem store_tab (w : World) : (Instr.storeAt 115 (.pointer (some ⟨w.heap.size, 0, none⟩)) (.agg tabCells)).run Tryz.prog (w.alloc (.cells zeroTab 115)) = .ok () (w.alloc (.cells tabCells 115)) :=
  run_storeAt_new w 115 zeroTab tabCells (by rw [tabCells_size]; exact (zero_of_info tab_zero).2) (by rw [tabCells_size, zeroTab_size]) tabCells_one

/-- The table lies in block b. -/
def TabAt (w : World) (b : Nat) : Prop := ∀ k, k < 256 → w.cell? ⟨b, k, none⟩ = some (.int .u32 ((entry k : Nat) : Int))

theorem TabAt.below {w w' : World} {b B : Nat} (h : TabAt w b) (hb : Below B w w') (hB : w.heap.size ≤ B) : TabAt w' b := by
  intro k hk
  have hc := h k hk
  have hlt : b < w.heap.size := World.block_lt_of_cell? w ⟨b, k, none⟩ hc
  rw [hb.cell (p := ⟨b, k, none⟩) (by exact Nat.lt_of_lt_of_le hlt hB)]
  exact hc

theorem TabAt.made (w : World) : TabAt (w.alloc (.cells tabCells 115)) w.heap.size := by
  intro k hk
  rw [cell_of_row _ w.heap.size k tabCells 115 (0, 0) (heap_alloc_last w _)]
  exact tabCells_at k hk

/-- The table, laid down in a variable of its own. -/
theorem wpList_keep_tab (w : World) {ops : Array Oper} {rest : List Oper} {o : Oper} {a : Act} {Q : Exit → Act → World → Prop} (hgd : o.guard = none) (x y : Operand) (ho : o.op = .store 115 x y)
    (hx : a.eval x = .pointer (some ⟨w.heap.size, 0, none⟩)) (hy : a.eval y = .agg tabCells)
    (h : ∀ w', Below w.heap.size w w' → TabAt w' w.heap.size → wpList Tryz.prog ops Q rest (a.put o.dst undef) w') : wpList Tryz.prog ops Q (o :: rest) a (w.alloc (.cells zeroTab 115)) :=
  wpList_plain hgd fun _ hK => by
    have hrun := store_tab w
    unfold Oper.wp execOp
    simp only [ho, hx, hy, hrun, Sem.run_bind, Sem.run_pure, Result.andThen_ok]
    exact hK _ _ (h _ ((Below.refl _ _).alloc (Nat.le_refl _) _) (TabAt.made w))

/-- The table of which k entries are reckoned. -/
def tabAt (k : Nat) : Array Value := ((List.range 256).map fun c => if c < k then Value.int .u32 ((entry c : Nat) : Int) else Value.int .u32 0).toArray

theorem tabAt_size (k : Nat) : (tabAt k).size = 256 := by simp [tabAt]

theorem tabAt_get (k i : Nat) (h : i < 256) : (tabAt k)[i]? = some (if i < k then Value.int .u32 ((entry i : Nat) : Int) else Value.int .u32 0) := by
  simp [tabAt, h]

theorem tabAt_zero : tabAt 0 = zeroTab := by
  apply Array.ext_getElem?
  intro i
  by_cases h : i < 256
  · rw [tabAt_get 0 i h]
    unfold zeroTab
    rw [List.getElem?_toArray, List.getElem?_replicate_of_lt h]
    simp
  · rw [Array.getElem?_eq_none (by rw [tabAt_size]; omega), Array.getElem?_eq_none (by rw [zeroTab_size]; omega)]

theorem tabAt_full : tabAt 256 = tabCells := by
  apply Array.ext_getElem?
  intro i
  by_cases h : i < 256
  · rw [tabAt_get 256 i h, if_pos h, tabCells_at i h]
  · rw [Array.getElem?_eq_none (by rw [tabAt_size]; omega), Array.getElem?_eq_none (by rw [tabCells_size]; omega)]

theorem tabAt_set (k : Nat) (hk : k < 256) : (tabAt k).setIfInBounds k (Value.int .u32 ((entry k : Nat) : Int)) = tabAt (k + 1) := by
  apply Array.ext_getElem?
  intro i
  rw [Array.getElem?_setIfInBounds]
  by_cases h : i < 256
  · rw [tabAt_get (k + 1) i h, tabAt_get k i h, tabAt_size]
    by_cases hi : k = i
    · subst hi
      simp [hk]
    · rw [if_neg hi]
      have e : (i < k + 1) = (i < k) := by
        apply propext
        omega
      simp only [e]
  · have hi : ¬ k = i := by omega
    rw [if_neg hi, Array.getElem?_eq_none (by rw [tabAt_size]; omega), Array.getElem?_eq_none (by rw [tabAt_size]; omega)]

theorem tab_info {C : Array Value} (h : C.size = 256) : (Tryz.prog.info? 115).map (·.size) = some C.size := by
  rw [h]
  exact (zero_of_info tab_zero).2

/-- A whole table, loaded. -/
theorem wpList_load_tab (w : World) {ops : Array Oper} {rest : List Oper} {o : Oper} {a : Act} {Q : Exit → Act → World → Prop} (hgd : o.guard = none) (x : Operand) (ho : o.op = .load 115 x)
    (g : Nat) (C : Array Value) (fr : Nat × Nat) (hx : a.eval x = .pointer (some ⟨g, 0, none⟩)) (hg : w.heap[g]? = some (.cells C 115 fr)) (hC : C.size = 256)
    (h : wpList Tryz.prog ops Q rest (a.put o.dst (.agg C)) w) : wpList Tryz.prog ops Q (o :: rest) a w :=
  wpList_plain hgd fun _ hK => by
    have hrun := run_loadVar_row (P := Tryz.prog) w g 115 115 C fr _ hg Tryz.underlying115 rfl (tab_info hC)
    unfold Oper.wp execOp
    simp only [ho, hx, Instr.loadAt, Instr.sureAddr, Sem.run_bind, Sem.run_pure, Result.andThen_ok, hrun]
    exact hK _ _ h

/-- A whole table, stored. -/
theorem wpList_store_tab (w : World) {ops : Array Oper} {rest : List Oper} {o : Oper} {a : Act} {Q : Exit → Act → World → Prop} (hgd : o.guard = none) (x y : Operand) (ho : o.op = .store 115 x y)
    (g : Nat) (C D : Array Value) (hx : a.eval x = .pointer (some ⟨g, 0, none⟩)) (hy : a.eval y = .agg D) (hg : w.heap[g]? = some (.cells C 115 (0, 0))) (hC : C.size = 256) (hD : D.size = 256) (h1 : D.all (·.oneCell') = true)
    (h : wpList Tryz.prog ops Q rest (a.put o.dst undef) (w.setRow g D)) : wpList Tryz.prog ops Q (o :: rest) a w :=
  wpList_plain hgd fun _ hK => by
    have hrun := run_storeVar_row (P := Tryz.prog) w g 115 115 C D hg (tab_info hD) (by rw [hC, hD]) h1
    unfold Oper.wp execOp
    simp only [ho, hx, hy, Instr.storeAt, Instr.sureAddr, Sem.run_bind, Sem.run_pure, Result.andThen_ok, hrun]
    exact hK _ _ h

end Go.Proofs.YtgpdbboieokldaaGreat

/- Contracts of crc.Table, crc.More, crc.Sum. -/
namespace Go.Proofs.YtgpdbboieokldaaGreat
open Go.RowKit

theorem results_cell {fn : Func} {p : Tmp} {ty : TypeId} (h : fn.results = #[.cell p ty]) (tmps : Array Value) (P : Program) (w : World) :
    (results fn tmps).run P w = ((asAddr (tmps.getD p undef)).run P w).andThen fun a w₁ => (loadVar ty a).run P w₁ := by
  simp only [results, h]
  simp [Sem.run_bind, Result.andThen]

set_option maxRecDepth 100000 in
set_option maxHeartbeats 1000000 in
theorem entry_any (k : Nat) (hk : k < 256) (w : World) : Calls Tryz.prog 110 #[.int .u32 (k : Int)] w fun e w' => e = .returned (.int .u32 (entry k : Nat)) ∧ w' = w := by
  have HK := hide hk
  clear hk
  go_enter Tryz.func110, Tryz.ntmps110
  go_wp2
  go_loop [0, 4] (fun x j => ∃ m : Nat, m ≤ 8 ∧ j = .int .i64 (m : Int) ∧ x = .int .u32 (ticks m k : Nat)) (fun _ j => 8 - (intOf j).toNat)
  case atStart => exact ⟨0, Nat.zero_le _, rfl, rfl⟩
  case round =>
    obtain ⟨m, hm, rfl, rfl⟩ := hrel
    by_cases hm8 : m < 8
    · have HS := hide (ticks_succ m k)
      have hbt : ticks m k < 4294967296 := ticks32 m (by have := HK.out; omega)
      generalize ticks m k = y at *
      obtain ⟨Y, hY⟩ : ∃ Y : Int, Y = (y : Int) := ⟨_, rfl⟩
      rw [← hY]
      have hY0 : 0 ≤ Y := by omega
      have hY1 : Y < 4294967296 := by omega
      have HY := hide hY
      have HBT := hide hbt
      clear hY hbt
      by_cases ho : Y % 2 = 1
      · have hob : (Y % 2 == 1) = true := beq_iff_eq.2 ho
        have HO := hide ho
        clear ho
        go_wp2
        go_round
        case rel =>
          have e := HY.out
          have eo := HO.out
          refine ⟨m + 1, by omega, by go_num, ?_⟩
          have e2 : Y / 2 = ((y / 2 : Nat) : Int) := by omega
          have e3 : (2197175160 : Int) = ((2197175160 : Nat) : Int) := rfl
          have ht : tick y = y / 2 ^^^ 2197175160 := if_pos (by omega)
          rw [HS.out, ht, e2, e3, xor_u32 _ _ (by have := HBT.out; omega) (by decide)]
        case measure => simp [intOf]; omega
      · have hob : (Y % 2 == 1) = false := beq_eq_false_iff_ne.2 ho
        have HO := hide ho
        clear ho
        go_wp2
        go_round
        case rel =>
          have e := HY.out
          have eo := HO.out
          refine ⟨m + 1, by omega, by go_num, ?_⟩
          have e2 : Y / 2 = ((y / 2 : Nat) : Int) := by omega
          have ht : tick y = y / 2 := if_neg (by omega)
          rw [HS.out, ht, e2]
        case measure => simp [intOf]; omega
    · have HE : Hid (ticks m k = entry k) := by
        have e : m = 8 := by omega
        rw [e]
        exact rfl
      generalize ticks m k = y at *
      go_wp2
      go_ret
      refine ⟨ret_int ?_, rfl⟩
      rw [HE.out]

set_option maxRecDepth 100000 in
set_option maxHeartbeats 1000000 in
theorem table_any (w : World) : Calls Tryz.prog 101 #[] w fun e w' => e = .returned (.agg tabCells) ∧ Below w.heap.size w w' := by
  have hz := (zero_of_info tab_zero).1
  have HC : Hid (∀ (k : Nat) (w : World), k < 256 → Calls Tryz.prog 110 #[.int .u32 (k : Int)] w fun e w' => e = .returned (.int .u32 (entry k : Nat)) ∧ w' = w) := fun k w hk => entry_any k hk w
  go_enter Tryz.func101, Tryz.ntmps101
  go_wp2
  go_loopw [3] (fun i wr => ∃ k : Nat, k ≤ 256 ∧ i = .int .i64 (k : Int) ∧ Hid (wr.heap[w.heap.size + 1]? = some (.cells (tabAt k) 115 (0, 0))) ∧ Hid (wr.heap[w.heap.size]? = some (.cells zeroTab 115 (0, 0))) ∧ Hid (Below w.heap.size w wr)) (fun i _ => 256 - (intOf i).toNat)
  case atStart =>
    have e1 : ((w.alloc (.cells zeroTab 115)).alloc (.cells zeroTab 115)).heap[w.heap.size + 1]? = some (.cells (tabAt 0) 115 (0, 0)) := by
      rw [tabAt_zero]
      have h := heap_alloc_last (w.alloc (.cells zeroTab 115)) (.cells zeroTab 115)
      have hs : (w.alloc (.cells zeroTab 115)).heap.size = w.heap.size + 1 := by simp
      rw [hs] at h
      exact h
    have e0 : ((w.alloc (.cells zeroTab 115)).alloc (.cells zeroTab 115)).heap[w.heap.size]? = some (.cells zeroTab 115 (0, 0)) :=
      (Below.heap_alloc _ _ w.heap.size (by simp)).trans (heap_alloc_last w _)
    exact ⟨0, Nat.zero_le _, rfl, e1, e0, ((Below.refl _ _).alloc (Nat.le_refl _) _).alloc (by simp) _⟩
  case round =>
    obtain ⟨k, hk, rfl, h1, h0, hb⟩ := hrel
    by_cases hlt : k < 256
    · have hcell : wr.cell? ⟨w.heap.size + 1, k, none⟩ = some (.int .u32 0) := by
        rw [cell_of_row wr _ k _ _ _ h1.out, tabAt_get k k hlt]
        simp
      have hfr : wr.frozen? ⟨w.heap.size + 1, k, none⟩ = false := frozen_of_row wr _ k _ _ h1.out
      have HST : Hid ((wr.setCell ⟨w.heap.size + 1, k, none⟩ (.int .u32 ((entry k : Nat) : Int))).heap[w.heap.size + 1]? = some (.cells (tabAt (k + 1)) 115 (0, 0))) := by
        have h := heap_setCell_same wr (w.heap.size + 1) k _ _ (.int .u32 ((entry k : Nat) : Int)) h1.out
        rw [tabAt_set k hlt] at h
        exact h
      go_wp2_with fail
      refine (HC.out k wr hlt).mono ?_
      rintro e w2 ⟨rfl, rfl⟩
      go_wp2
      go_roundw
      case rel => exact ⟨k + 1, by omega, by go_num, HST, (Below.heap_setCell _ _ _ _ (by show w.heap.size ≠ w.heap.size + 1; omega)).trans h0.out, hb.out.setCell (by show w.heap.size ≤ w.heap.size + 1; omega) _⟩
      case measure => simp [intOf]; omega
    · have h1' : wr.heap[w.heap.size + 1]? = some (.cells tabCells 115 (0, 0)) := by
        have e : k = 256 := by omega
        rw [← tabAt_full, ← e]
        exact h1.out
      have H1 := hide h1'
      have HRES : Hid ((loadVar 115 ⟨w.heap.size, 0, none⟩).run Tryz.prog (wr.setRow w.heap.size tabCells) = .ok (.agg tabCells) (wr.setRow w.heap.size tabCells)) :=
        run_loadVar_row (P := Tryz.prog) _ _ 115 115 tabCells (0, 0) _ (setRow_heap wr _ _ tabCells _ _ h0.out) Tryz.underlying115 rfl (tab_info tabCells_size)
      have HB : Hid (Below w.heap.size w (wr.setRow w.heap.size tabCells)) :=
        ⟨hb.out.os, hb.out.tape, hb.out.output, by have := hb.out.size; simp [World.setRow]; omega, fun j hj => (setRow_other wr _ j _ (by omega)).trans (hb.out.block j hj)⟩
      clear h1' h1
      go_wp2_with (first
        | refine wpList_load_tab _ rfl _ rfl (w.heap.size + 1) tabCells (0, 0) rfl H1.out tabCells_size ?_
        | refine wpList_store_tab _ rfl _ _ rfl w.heap.size zeroTab tabCells rfl rfl h0.out zeroTab_size tabCells_size tabCells_one ?_)
      refine bodyPost_ret (v := .agg tabCells) ?_ rfl ⟨rfl, HB.out⟩
      have h := HRES.out
      rw [results_cell Tryz.results101]
      have e : (asAddr (.pointer (some ⟨w.heap.size, 0, none⟩))).run Tryz.prog (wr.setRow w.heap.size tabCells) = .ok ⟨w.heap.size, 0, none⟩ (wr.setRow w.heap.size tabCells) := by simp [asAddr]
      simp only [Act.put, List.setIfInBounds_toArray, List.set_cons_succ, List.set_cons_zero]
      show ((asAddr (.pointer (some ⟨w.heap.size, 0, none⟩))).run Tryz.prog (wr.setRow w.heap.size tabCells)).andThen _ = _
      rw [e]
      simp only [Result.andThen]
      rw [h]

set_option maxRecDepth 100000 in
set_option maxHeartbeats 1000000 in
theorem more_any (s : Nat) (v : Value) (l : List UInt8) (w : World) (hr : Rd w v l) (hs : s < 4294967296) :
    Calls Tryz.prog 83 #[.int .u32 (s : Int), v] w fun e w' => e = .returned (.int .u32 (crcMore s l : Nat)) ∧ Below w.heap.size w w' := by
  have HR := hide hr
  obtain ⟨ao, cap, rfl, hlc, hcm, hn0, hao⟩ := hr
  clear hn0
  have HAO := hide hao
  clear hao
  have hml : (l.length : Int) ≤ 9223372036854775807 := by unfold maxLen at hcm; omega
  have HN := hide (not_u32 s hs)
  have HL : Hid (∀ k, crcReg (s ^^^ 4294967295) (l.take k) < 4294967296) := fun k => crcReg_lt _ (not_lt hs)
  have HE : Hid (crcMore s l = crcReg (s ^^^ 4294967295) l ^^^ 4294967295) := rfl
  have HT := hide (fun w => table_any w)
  have hz := (zero_of_info tab_zero).1
  generalize s ^^^ 4294967295 = x0 at *
  clear hs
  go_enter Tryz.func83, Tryz.ntmps83
  go_wp2_with fail
  refine (HT.out _).mono ?_
  rintro e w2 ⟨rfl, hb⟩
  have HB2 := hide hb
  clear hb HT
  go_wp2_with (refine wpList_keep_tab _ rfl _ _ rfl rfl rfl ?_)
  intro w3 hb3 ht3
  have HB3 := hide (HB2.out.trans (hb3.mono HB2.out.size))
  have HT3 := hide ht3
  clear hb3 ht3 hz
  go_wp2
  go_loop [6, 14] (fun x i => ∃ k : Nat, k ≤ l.length ∧ i = .int .i64 k ∧ x = .int .u32 (crcReg x0 (l.take k) : Nat)) (fun _ i => l.length - (intOf i).toNat)
  case atStart =>
    refine ⟨0, Nat.zero_le _, rfl, ?_⟩
    rw [HN.out]
    rfl
  case round =>
    obtain ⟨k, hk, rfl, rfl⟩ := hrel
    have hy := HL.out k
    by_cases hlt : k < l.length
    · have HS := hide (crcReg_snoc l x0 k hlt)
      rcases HAO.out with hao | ⟨b, off, rfl, _⟩
      · subst hao; simp at hlt
      have hck := (HR.out.below HB3.out (Nat.le_refl _)).at k hlt
      have hc256 : (l.getD k 0).toNat < 256 := UInt8.toNat_lt _
      generalize crcReg x0 (l.take k) = y at *
      generalize (l.getD k 0).toNat = c at *
      have hlb := byte_lt y c hc256
      have hbx : bits .xor .u8 ((y : Int) % 256) (c : Int) = ((y % 256 ^^^ c : Nat) : Int) := by
        have e : (y : Int) % 256 = ((y % 256 : Nat) : Int) := by omega
        rw [e]
        exact xor_u8 _ _ (by omega) hc256
      have HF : Hid (bits .xor .u32 ((entry (y % 256 ^^^ c) : Nat) : Int) ((y : Int) / 256) = ((crcByte y c : Nat) : Int)) := by
        have e : (y : Int) / 256 = ((y / 256 : Nat) : Int) := by omega
        rw [e, xor_u32 _ _ (entry_lt _ hlb) (by omega)]
        unfold crcByte
        rw [low_byte y c hc256]
        exact rfl
      have htc := HT3.out (y % 256 ^^^ c) hlb
      generalize hm : y % 256 ^^^ c = m at *
      have HM := hide hm
      clear hm
      have hmi : (m : Int) < 256 := by omega
      obtain ⟨E, hE⟩ : ∃ E : Int, E = ((entry m : Nat) : Int) := ⟨_, rfl⟩
      rw [← hE] at htc HF
      clear hE
      go_wp2
      go_round
      case rel => exact ⟨k + 1, by omega, by go_num, by rw [HS.out, ← HF.out]⟩
      case measure => simp [intOf]; omega
    · go_wp2
      go_ret
      refine ⟨ret_int ?_, HB3.out⟩
      rw [HE.out, not_u32 _ hy, List.take_of_length_le (by omega)]

set_option maxRecDepth 100000 in
theorem sum_any (v : Value) (l : List UInt8) (w : World) (hr : Rd w v l) :
    Calls Tryz.prog 45 #[v] w fun e w' => e = .returned (.int .u32 (crcMore 0 l : Nat)) ∧ Below w.heap.size w w' := by
  have HC : Hid (Calls Tryz.prog 83 #[.int .u32 0, v] w fun e w' => e = .returned (.int .u32 (crcMore 0 l : Nat)) ∧ Below w.heap.size w w') := more_any 0 v l w hr (by decide)
  generalize crcMore 0 l = m at *
  clear hr
  go_enter Tryz.func45, Tryz.ntmps45
  go_wp2_with fail
  refine HC.out.mono ?_
  rintro e w' ⟨rfl, hb⟩
  have HB := hide hb
  clear hb HC
  go_wp2
  go_ret
  exact ⟨rfl, HB.out⟩

end Go.Proofs.YtgpdbboieokldaaGreat

/- Contracts of frame.Encode, Size, lengthIsCut, and of bytes.Clone. -/
namespace Go.Proofs.YtgpdbboieokldaaGreat
open Go.RowKit

set_option maxRecDepth 100000 in
theorem size_any (n : Int) (w : World) (h0 : -9223372036854775808 ≤ n) (h1 : n ≤ 9223372036854775807) :
    Calls Tryz.prog 42 #[.int .i64 n] w fun e w' => e = .returned (.int .i64 (sizeF n : Nat)) ∧ Below w.heap.size w w' := by
  by_cases h : 0 ≤ n ∧ n ≤ 1048576
  · obtain ⟨h2, h3⟩ := h
    have HE : Hid (sizeF n = (Lib.uvarint n.toNat).length + 4 + n.toNat) := if_pos ⟨h2, h3⟩
    have HP : Hid (∀ w, Calls Tryz.prog 43 #[.slice none 0 0, .int .i64 n] w fun e w' => ∃ ao cap, e = .returned (.slice ao (Lib.uvarint n.toNat).length cap) ∧ Below w.heap.size w w') := by
      intro w
      refine (put_any (.slice none 0 0) [] n w (Rd.nil _) (by simp)).mono ?_
      have e : putOf [] n = Lib.uvarint n.toNat := if_pos ⟨by omega, by omega⟩
      rintro e' w' ⟨v', rfl, ho, hb⟩
      rw [e] at ho
      obtain ⟨ao, cap, rfl, _⟩ := ho.rd
      exact ⟨ao, cap, rfl, hb⟩
    have hl3 : (Lib.uvarint n.toNat).length ≤ 3 := len3 (by omega)
    generalize (Lib.uvarint n.toNat).length = q at *
    go_enter Tryz.func42, Tryz.ntmps42
    go_wp2_with fail
    refine (HP.out _).mono ?_
    rintro e w1 ⟨ao, cap, rfl, hb1⟩
    have HB1 := hide hb1
    clear hb1 HP
    go_wp2
    go_ret
    refine ⟨ret_int ?_, HB1.out⟩
    rw [HE.out]
    omega
  · have HE : Hid (sizeF n = 0) := if_neg h
    by_cases h2 : n < 0
    · clear h
      go_enter Tryz.func42, Tryz.ntmps42
      go_wp2
      go_ret
      exact ⟨ret_int (by rw [HE.out]; rfl), Below.refl _ _⟩
    · have h3 : 1048576 < n := by omega
      clear h
      go_enter Tryz.func42, Tryz.ntmps42
      go_wp2
      go_ret
      exact ⟨ret_int (by rw [HE.out]; rfl), Below.refl _ _⟩

set_option maxRecDepth 100000 in
theorem cut_any (v : Value) (l : List UInt8) (w : World) (hr : Rd w v l) :
    Calls Tryz.prog 56 #[v] w fun e w' => e = .returned (.bool (decide (isOpen l))) ∧ w' = w := by
  obtain ⟨ao, cap, rfl, hlc, hcm, hn0, hao⟩ := hr
  clear hn0
  have hml : (l.length : Int) ≤ 9223372036854775807 := by unfold maxLen at hcm; omega
  by_cases h10 : (l.length : Int) < 10
  · go_enter Tryz.func56, Tryz.ntmps56
    go_wp2
    go_loop [10] (fun i => ∃ k : Nat, i = .int .i64 k ∧ k ≤ l.length ∧ Hid (∀ j, j < k → 128 ≤ (l.getD j 0).toNat)) (fun i => l.length - (intOf i).toNat)
    case atStart => exact ⟨0, rfl, by omega, fun j hj => by omega⟩
    case round =>
      obtain ⟨k, rfl, hkl, hall⟩ := hrel
      by_cases hlt : k < l.length
      · rcases hao with hao | ⟨b, off, rfl, hc⟩
        · subst hao; simp at hlt
        · have hck := hc k hlt
          clear hc
          obtain ⟨y, hy⟩ : ∃ y, y = (l.getD k 0).toNat := ⟨_, rfl⟩
          rw [← hy] at hck
          have HY : Hid (y = (l.getD k 0).toNat) := hy
          clear hy
          by_cases hyb : (y : Int) < 128
          · go_wp2
            go_ret
            refine ⟨ret_bool ?_, rfl⟩
            symm
            refine decide_eq_false fun ho => ?_
            have := ho.2 k hlt
            rw [← HY.out] at this
            omega
          · go_wp2
            go_round
            case rel =>
              refine ⟨k + 1, by go_num, by omega, fun j hj => ?_⟩
              by_cases e : j = k
              · rw [e, ← HY.out]; omega
              · exact hall.out j (by omega)
            case measure => simp [intOf]; omega
      · go_wp2
        go_ret
        refine ⟨ret_bool ?_, rfl⟩
        symm
        exact decide_eq_true ⟨by omega, fun j hj => hall.out j (by omega)⟩
  · go_enter Tryz.func56, Tryz.ntmps56
    go_wp2
    go_ret
    refine ⟨ret_bool ?_, rfl⟩
    symm
    exact decide_eq_false fun ho => by have := ho.1; omega

/-- A row of no bytes, made. -/
theorem Own.made0 (w : World) (B : Nat) (hB : B ≤ w.heap.size) : Own (w.alloc (.cells #[] 5)) B (.slice (some ⟨w.heap.size, 0, none⟩) 0 0) [] :=
  ⟨rfl, .inr ⟨w.heap.size, 0, #[], rfl, hB, heap_alloc_new w _, Nat.le_refl _, Nat.zero_le _, rfl, rfl⟩⟩

set_option maxRecDepth 100000 in
theorem clone_any (v : Value) (l : List UInt8) (w : World) (hr : Rd w v l) (hlim : l.length ≤ 70368744177664) :
    Calls Tryz.prog 59 #[v] w fun e w' => ∃ v', e = .returned v' ∧ Own w' w.heap.size v' l ∧ Below w.heap.size w w' := by
  have HR := hide hr
  obtain ⟨ao, cap, rfl, hlc, hcm, hn0, hao⟩ := hr
  cases ao with
  | none =>
    have hc := hn0 rfl
    have hl : l = [] := List.eq_nil_of_length_eq_zero (by omega)
    subst hl
    subst hc
    clear hao hn0
    have hnil : ∀ w, (binOp .eql 26 (.slice none 0 0) (.slice none 0 0)).run Tryz.prog w = .ok (.bool true) w := fun w => run_eql_slice_nil w _ _ none 0 0 Tryz.underlying26
    go_enter Tryz.func59, Tryz.ntmps59
    go_wp2
    go_ret
    exact ⟨_, rfl, Own.nil _ _, Below.refl _ _⟩
  | some ad =>
    clear hao hn0 hlc hcm
    have hnil : ∀ w, (binOp .eql 26 (.slice (some ad) l.length cap) (.slice none 0 0)).run Tryz.prog w = .ok (.bool false) w := fun w => run_eql_slice_nil w _ _ (some ad) _ _ Tryz.underlying26
    have HO := hide (Own.made0 w w.heap.size (Nat.le_refl _))
    have HB := hide ((Below.refl w.heap.size w).alloc (Nat.le_refl _) (.cells #[] 5))
    have HR1 := hide (HR.out.below HB.out (Nat.le_refl _))
    have HS : Hid (w.heap.size ≤ (w.alloc (.cells #[] 5)).heap.size) := HB.out.size
    go_enter Tryz.func59, Tryz.ntmps59
    go_wp2_with (at_builtin; refine wpList_append_rd _ rfl _ _ rfl w.heap.size _ [] rfl HO.out _ l rfl HR1.out (by simp; omega) HS.out ?_)
    intro v4 w4 ho4 hb4
    have HO4 := hide ho4
    have HB4 := hide (HB.out.trans hb4)
    clear ho4 hb4
    go_wp2
    go_ret
    exact ⟨v4, rfl, HO4.out, HB4.out⟩

set_option maxRecDepth 100000 in
set_option maxHeartbeats 1000000 in
theorem encode_any (v : Value) (l : List UInt8) (w : World) (hr : Rd w v l) :
    Calls Tryz.prog 16 #[v] w fun e w' => ∃ v', e = .returned (.tuple #[v', .int .i64 ((encF l).2 : Nat)]) ∧ Own w' w.heap.size v' (encF l).1 ∧ Below w.heap.size w w' := by
  have HR := hide hr
  obtain ⟨i0, hi, hz0, hz1, hz2⟩ := info_parts info8
  obtain ⟨ao, cap, rfl, hlc, hcm, hn0, hao⟩ := hr
  clear hn0 hao
  have hml : (l.length : Int) ≤ 9223372036854775807 := by unfold maxLen at hcm; omega
  by_cases h : (l.length : Int) ≤ 1048576
  · have HE : Hid (encF l = (headOf l ++ Lib.leBytes 4 (crcMore 0 (headOf l)), 0)) := if_pos (by omega)
    have HP : Hid (∀ w, Calls Tryz.prog 43 #[.slice none 0 0, .int .i64 (l.length : Int)] w fun e w' => ∃ v', e = .returned v' ∧ Own w' w.heap.size v' (Lib.uvarint l.length) ∧ Below w.heap.size w w') := by
      intro w
      have := put_any (.slice none 0 0) [] (l.length : Int) w (Rd.nil _) (by simp)
      have e : putOf [] (l.length : Int) = Lib.uvarint l.length := if_pos ⟨by omega, by omega⟩
      rwa [e] at this
    have HZ : Hid (∀ w, Calls Tryz.prog 42 #[.int .i64 (l.length : Int)] w fun e w' => e = .returned (.int .i64 (sizeF (l.length : Int) : Nat)) ∧ Below w.heap.size w w') := fun w => size_any _ w (by omega) (by omega)
    have HS : Hid (∀ v w, Rd w v (headOf l) → Calls Tryz.prog 45 #[v] w fun e w' => e = .returned (.int .u32 (crcMore 0 (headOf l) : Nat)) ∧ Below w.heap.size w w') := fun v w h => sum_any v _ w h
    have HF : Hid (∀ w, Calls Tryz.prog 44 #[.int .u32 (crcMore 0 (headOf l) : Nat)] w fun e w' => ∃ v', e = .returned v' ∧ Own w' w.heap.size v' (Lib.leBytes 4 (crcMore 0 (headOf l))) ∧ Below w.heap.size w w') := fun w => fixed32_any _ w (crc_lt _)
    have HH : Hid (headOf l = Lib.uvarint l.length ++ l) := rfl
    have HL4 : Hid ((Lib.leBytes 4 (crcMore 0 (headOf l))).length = 4) := Lib.leBytes_length 4 _
    have HL3 : Hid ((Lib.uvarint l.length).length ≤ 3) := len3 (by omega)
    have hsz : sizeF (l.length : Int) ≤ 2000000 := by
      have e : sizeF (l.length : Int) = (Lib.uvarint l.length).length + 4 + l.length := if_pos ⟨by omega, h⟩
      have := HL3.out
      rw [e]
      omega
    generalize sizeF (l.length : Int) = z at *
    generalize crcMore 0 (headOf l) = s at *
    obtain ⟨S, hS⟩ : ∃ S : Int, S = (s : Int) := ⟨_, rfl⟩
    rw [← hS] at HF HS
    clear hS
    generalize Lib.leBytes 4 s = q at *
    generalize Lib.uvarint l.length = u at *
    generalize headOf l = hd at *
    have hh := HH.out
    subst hh
    clear HH
    go_enter Tryz.func16, Tryz.ntmps16
    go_wp2_with fail
    refine (HZ.out _).mono ?_
    rintro e w1 ⟨rfl, hb1⟩
    have HB1 := hide hb1
    have hs1 := hb1.size
    clear hb1 HZ
    go_wp2_with (at_make; refine wpList_make_own _ rfl _ _ 26 rfl w.heap.size 5 i0 (.int .u8 0) 1 Tryz.underlying26 hi hz0 hz1 _ _ _ z rfl rfl (by omega) (by rw [hz2]; omega) (by unfold maxLen; omega) hs1 ?_)
    intro w2 hown hgrow
    have HO2 : Hid (Own w2 w.heap.size (.slice (some ⟨w1.heap.size, 0, none⟩) 0 z) []) := hown
    have HB2 := hide (HB1.out.grown hgrow hs1 (fun k hk => by cases hk))
    have hs2 := HB2.out.size
    clear hown hgrow
    go_wp2_with fail
    refine (HP.out _).mono ?_
    rintro e w3 ⟨v3, rfl, ho3, hb3⟩
    have HB3 := hide (HB2.out.trans (hb3.mono hs2))
    have HR3 := hide ho3.rd
    have HO3 := hide (HO2.out.below hb3 (Nat.le_refl _))
    have hs3 := HB3.out.size
    clear ho3 hb3 HP
    go_wp2_with (at_builtin; refine wpList_append_rd _ rfl _ _ rfl w.heap.size _ [] rfl HO3.out _ u rfl HR3.out (by have := HL3.out; simp; omega) hs3 ?_)
    intro v4 w4 ho4 hb4
    have HB4 := hide (HB3.out.trans hb4)
    have HO4 : Hid (Own w4 w.heap.size v4 u) := ho4
    have hs4 := HB4.out.size
    clear ho4 hb4
    go_wp2_with (at_builtin; refine wpList_append_rd _ rfl _ _ rfl w.heap.size _ u rfl HO4.out _ l rfl (HR.out.below HB4.out (Nat.le_refl _)) (by have := HL3.out; omega) hs4 ?_)
    intro v5 w5 ho5 hb5
    have HB5 := hide (HB4.out.trans hb5)
    have HO5 : Hid (Own w5 w.heap.size v5 (u ++ l)) := ho5
    have hs5 := HB5.out.size
    clear ho5 hb5
    go_wp2_with fail
    refine (HS.out _ _ HO5.out.rd).mono ?_
    rintro e w6 ⟨rfl, hb6⟩
    have HB6 := hide (HB5.out.trans (hb6.mono hs5))
    have HO6 := hide (HO5.out.below hb6 (Nat.le_refl _))
    have hs6 := HB6.out.size
    clear hb6 HS
    go_wp2_with fail
    refine (HF.out _).mono ?_
    rintro e w7 ⟨v7, rfl, ho7, hb7⟩
    have HB7 := hide (HB6.out.trans (hb7.mono hs6))
    have HR7 := hide ho7.rd
    have HO7 := hide (HO6.out.below hb7 (Nat.le_refl _))
    have hs7 := HB7.out.size
    clear ho7 hb7 HF
    go_wp2_with (at_builtin; refine wpList_append_rd _ rfl _ _ rfl w.heap.size _ (u ++ l) rfl HO7.out _ q rfl HR7.out (by have := HL3.out; have := HL4.out; simp; omega) hs7 ?_)
    intro v8 w8 ho8 hb8
    have HB8 := hide (HB7.out.trans hb8)
    have HO8 := hide ho8
    clear ho8 hb8
    go_wp2
    go_ret2
    exact ⟨v8, by rw [HE.out]; rfl, by rw [HE.out]; show Own _ _ _ (u ++ l ++ q); rw [List.append_assoc]; exact HO8.out, HB8.out⟩
  · have HE : Hid (encF l = ([], 5)) := if_neg (by omega)
    go_enter Tryz.func16, Tryz.ntmps16
    go_wp2
    go_ret2
    exact ⟨_, by rw [HE.out]; rfl, by rw [HE.out]; exact Own.nil _ _, Below.refl _ _⟩

end Go.Proofs.YtgpdbboieokldaaGreat

/- Contract of frame.Decode. -/
namespace Go.Proofs.YtgpdbboieokldaaGreat
open Go.RowKit

theorem Rd.drewN {w : World} {v : Value} {l : List UInt8} (h : Rd w v l) (n : Nat) : Rd (w.drewN n) v l := h.below (below_drewN (Below.refl _ w) n) (Nat.le_refl _)

/-- The parts of a frame, cut by three indices: what each reads as, in the world and in those behind it. -/
theorem cuts3 (w : World) (v : Value) (l : List UInt8) (hr : Rd w v l) (K N : Int) (k n : Nat) (hk : K = k) (hn : N = n) (h : k + n + 4 ≤ l.length) :
    ∃ v1 v2 v3, (∀ q, (Instr.sliceAt 26 v none (some (.int .i64 (K + N))) (some (.int .i64 (K + N)))).run Tryz.prog (w.drewN q) = .ok v1 (w.drewN q)) ∧
      (∀ q, (Instr.sliceAt 26 v (some (.int .i64 K)) (some (.int .i64 (K + N))) (some (.int .i64 (K + N)))).run Tryz.prog (w.drewN q) = .ok v2 (w.drewN q)) ∧
      (∀ q, (Instr.sliceAt 26 v (some (.int .i64 (K + N))) (some (.int .i64 (K + N + 4))) (some (.int .i64 (K + N + 4)))).run Tryz.prog (w.drewN q) = .ok v3 (w.drewN q)) ∧
      Rd w v1 (l.take (k + n)) ∧ Rd w v2 ((l.drop k).take n) ∧ Rd w v3 ((l.drop (k + n)).take 4) := by
  have h0 := hr
  obtain ⟨ao, cap, rfl, hlc, _⟩ := hr
  have e1 : (K + N).toNat = k + n := by omega
  have e2 : K.toNat = k := by omega
  have e3 : (K + N + 4).toNat = k + n + 4 := by omega
  refine ⟨sliced ao 0 (k + n) (k + n) 1, sliced ao k (k + n) (k + n) 1, sliced ao (k + n) (k + n + 4) (k + n + 4) 1, ?_, ?_, ?_, ?_, ?_, ?_⟩
  · intro q
    rw [run_sliceAt_slice _ 26 _ _ _ _ under_bytes, run_slice_hm _ 26 ao l.length cap under_bytes .i64 .i64 (K + N) (K + N) (by omega) (by omega) (by omega), elem_bytes, size_u8, e1]
    rfl
  · intro q
    rw [run_sliceAt_slice _ 26 _ _ _ _ under_bytes, run_slice_lhm _ 26 ao l.length cap under_bytes .i64 .i64 .i64 K (K + N) (K + N) (by omega) (by omega) (by omega) (by omega), elem_bytes, size_u8, e1, e2]
    rfl
  · intro q
    rw [run_sliceAt_slice _ 26 _ _ _ _ under_bytes, run_slice_lhm _ 26 ao l.length cap under_bytes .i64 .i64 .i64 (K + N) (K + N + 4) (K + N + 4) (by omega) (by omega) (by omega) (by omega), elem_bytes, size_u8, e1, e3]
    rfl
  · have := h0.mid 0 (k + n) (k + n) (by omega) (by omega) (by omega) (by omega)
    simpa using this
  · have := h0.mid k (k + n) (k + n) (by omega) (by omega) (by omega) (by omega)
    rwa [show k + n - k = n by omega] at this
  · have := h0.mid (k + n) (k + n + 4) (k + n + 4) (by omega) (by omega) (by omega) (by omega)
    rwa [show k + n + 4 - (k + n) = 4 by omega] at this

/-- A cut within a region that draws its order and only reads. -/
theorem wpQuiet_cut {ops : Array Oper} {C : World → Prop} {Q : Act → Prop} {rest : List Oper} {o : Oper} {a : Act} {w : World} (hg : o.guard = none) (x : Operand) (lo hi mx : Option Operand)
    (ho : o.op = .slice 26 x lo hi mx) (hC : ∀ w', C w' → ∃ q, w' = w.drewN q) (v : Value)
    (hrun : ∀ q, (Instr.sliceAt 26 (a.eval x) (lo.map a.eval) (hi.map a.eval) (mx.map a.eval)).run Tryz.prog (w.drewN q) = .ok v (w.drewN q))
    (h : wpQuiet Tryz.prog ops C Q rest (a.put o.dst v)) : wpQuiet Tryz.prog ops C Q (o :: rest) a :=
  wpQuiet_step fun _ hK => by
    rw [if_pos (by simp [Region.wanted, hg])]
    refine ⟨v, fun w' hw' => ?_, hK _ h⟩
    obtain ⟨q, rfl⟩ := hC w' hw'
    unfold Oper.quietAt execOp
    simp only [ho, hrun, Sem.run_bind, Sem.run_pure, Result.andThen_ok, Oper.quietUpon, and_self]

set_option maxRecDepth 100000 in
set_option maxHeartbeats 1000000 in
theorem decode_any (v : Value) (l : List UInt8) (w : World) (hr : Rd w v l) :
    Calls Tryz.prog 22 #[v] w fun e w' => Decoded w l e w' := by
  have HR := hide hr
  have HO := hide (cut_any v l w hr)
  have HG := hide (get_any v l w hr)
  obtain ⟨ao, cap, rfl, hlc, hcm, hn0, hao⟩ := hr
  clear hn0 hao
  have hml : (l.length : Int) ≤ 9223372036854775807 := by unfold maxLen at hcm; omega
  have HLC := hide hlc
  have HCM := hide hcm
  clear hlc hcm
  by_cases c1 : isOpen l
  · have HE := hide (decF_1 c1)
    have HD : Hid (decide (isOpen l) = true) := decide_eq_true c1
    rw [HD.out] at HO
    clear c1 HG
    go_enter Tryz.func22, Tryz.ntmps22
    go_wp2_with fail
    refine HO.out.mono ?_
    rintro e w1 ⟨rfl, rfl⟩
    clear HO
    go_wp2
    go_ret3
    exact Decoded.refused HE.out
  have HD : Hid (decide (isOpen l) = false) := decide_eq_false c1
  rw [HD.out] at HO
  have C1 := hide c1
  clear c1
  have hg1 := dec62_cases l
  obtain ⟨n, hn⟩ : ∃ n, n = (dec62 l).1 := ⟨_, rfl⟩
  obtain ⟨k, hk⟩ : ∃ k, k = (dec62 l).2 := ⟨_, rfl⟩
  rw [← hn, ← hk] at hg1 HG
  have HN := hide hn
  have HK := hide hk
  have hk9 := dec62_nine l
  have hbd : (n : Int) < 4611686018427387904 ∧ (k : Int) ≤ l.length ∧ (k : Int) ≤ 9 := by
    rw [← hk] at hk9
    rcases hg1 with h | h
    · have h1 : n = 0 := by rw [hn, h]
      have h2 : k = 0 := by rw [hk, h]
      omega
    · omega
  clear hk9
  obtain ⟨N, hNn⟩ : ∃ N : Int, N = (n : Int) := ⟨_, rfl⟩
  obtain ⟨K, hKk⟩ : ∃ K : Int, K = (k : Int) := ⟨_, rfl⟩
  rw [← hNn, ← hKk] at hbd HG
  obtain ⟨hn62, hkl, hk9⟩ := hbd
  have hN0 : 0 ≤ N := by omega
  have hK0 : 0 ≤ K := by omega
  have HNN := hide hNn
  have HKK := hide hKk
  clear hNn hKk
  clear hg1 hn hk
  by_cases c2 : K = 0
  · have HE := hide (decF_2 C1.out (by rw [← HK.out]; have := HKK.out; omega))
    subst c2
    go_enter Tryz.func22, Tryz.ntmps22
    go_wp2_with fail
    refine HO.out.mono ?_
    rintro e w1 ⟨rfl, rfl⟩
    clear HO
    go_wp2_with fail
    refine HG.out.mono ?_
    rintro e w1 ⟨rfl, rfl⟩
    clear HG
    go_wp2
    go_ret3
    exact Decoded.refused HE.out
  have ez : (K == 0) = false := beq_eq_false_iff_ne.2 c2
  have hk1 : 1 ≤ K := by omega
  have C2 := hide (show (dec62 l).2 ≠ 0 by rw [← HK.out]; have := HKK.out; omega)
  clear c2
  by_cases c3 : 1048576 < N
  · have HE := hide (decF_3 C1.out C2.out (by rw [← HN.out]; have := HNN.out; omega))
    go_enter Tryz.func22, Tryz.ntmps22
    go_wp2_with fail
    refine HO.out.mono ?_
    rintro e w1 ⟨rfl, rfl⟩
    clear HO
    go_wp2_with fail
    refine HG.out.mono ?_
    rintro e w1 ⟨rfl, rfl⟩
    clear HG
    go_wp2
    go_ret3
    exact Decoded.refused HE.out
  have C3 := hide (show ¬ 1048576 < (dec62 l).1 by rw [← HN.out]; have := HNN.out; omega)
  by_cases c4 : (l.length : Int) < K + N + 4
  · have HE := hide (decF_4 C1.out C2.out C3.out (by rw [← HN.out, ← HK.out]; have := HNN.out; have := HKK.out; omega))
    go_enter Tryz.func22, Tryz.ntmps22
    go_wp2_with fail
    refine HO.out.mono ?_
    rintro e w1 ⟨rfl, rfl⟩
    clear HO
    go_wp2_with fail
    refine HG.out.mono ?_
    rintro e w1 ⟨rfl, rfl⟩
    clear HG
    go_wp2
    go_ret3
    exact Decoded.refused HE.out
  have C4 := hide (show ¬ l.length < (dec62 l).2 + 4 + (dec62 l).1 by rw [← HN.out, ← HK.out]; have := HNN.out; have := HKK.out; omega)
  have HS : Hid (∀ v w, Rd w v (l.take (k + n)) → Calls Tryz.prog 45 #[v] w fun e w' => e = .returned (.int .u32 (crcMore 0 (l.take (k + n)) : Nat)) ∧ Below w.heap.size w w') := fun v w h => sum_any v _ w h
  have HF : Hid (∀ v w, Rd w v ((l.drop (k + n)).take 4) → Calls Tryz.prog 58 #[v] w fun e w' => e = .returned (.int .u64 (Lib.leNat ((l.drop (k + n)).take 4) : Nat)) ∧ w' = w) := by
    intro v w h
    have := fixed_any v _ w h
    rwa [List.take_of_length_le (by simp; omega)] at this
  have HE5 : Hid (Lib.leNat ((l.drop (k + n)).take 4) ≠ crcMore 0 (l.take (k + n)) → decF l = ([], 0, 4)) := fun h => by
    rw [HN.out, HK.out] at h
    exact decF_5 C1.out C2.out C3.out C4.out h
  have HE6 : Hid (Lib.leNat ((l.drop (k + n)).take 4) = crcMore 0 (l.take (k + n)) → decF l = ((l.drop k).take n, k + 4 + n, 0)) := fun h => by
    rw [HN.out, HK.out] at h ⊢
    exact decF_6 C1.out C2.out C3.out C4.out h
  have hs := crc_lt (l.take (k + n))
  have hq : Lib.leNat ((l.drop (k + n)).take 4) < 4294967296 := by
    have h1 := leNat_lt256 ((l.drop (k + n)).take 4)
    have e4 : ((l.drop (k + n)).take 4).length = 4 := by have := HNN.out; have := HKK.out; simp; omega
    rw [e4] at h1
    exact h1
  generalize crcMore 0 (l.take (k + n)) = s at *
  generalize Lib.leNat ((l.drop (k + n)).take 4) = q at *
  obtain ⟨S, hS⟩ : ∃ S : Int, S = (s : Int) := ⟨_, rfl⟩
  obtain ⟨T, hT⟩ : ∃ T : Int, T = (q : Int) := ⟨_, rfl⟩
  rw [← hS] at HS
  rw [← hT] at HF
  have hS0 : 0 ≤ S := by omega
  have hS1 : S < 4294967296 := by omega
  have HSS := hide hS
  have HTT := hide hT
  obtain ⟨v1, v2, v3, hc1, hc2, hc3, hr1, hr2, hr3⟩ := cuts3 w _ l HR.out K N k n HKK.out HNN.out (by have := HNN.out; have := HKK.out; omega)
  have HV1 := hide hr1
  have HV2 := hide hr2
  have HV3 := hide hr3
  have HC1 := hide hc1
  have HC2 := hide hc2
  have HC3 := hide hc3
  clear hr1 hr2 hr3 hc1 hc2 hc3
  clear hS hT hs hq
  go_enter Tryz.func22, Tryz.ntmps22
  go_wp2_with fail
  refine HO.out.mono ?_
  rintro e w1 ⟨rfl, rfl⟩
  clear HO
  go_wp2_with fail
  refine HG.out.mono ?_
  rintro e w1 ⟨rfl, rfl⟩
  clear HG
  go_wp2
  refine wp_region_quiet_lit (by kernel_rfl) (by kernel_rfl) ?_
  repeat (go_big_quiet_step (fail))
  refine wpQuiet_cut rfl _ _ _ _ rfl (fun _ h => h) v1 HC1.out ?_
  simp only [Act.put, List.setIfInBounds_toArray, List.set_cons_succ, List.set_cons_zero]
  repeat (go_big_quiet_step (fail))
  refine wpQuiet_cut rfl _ _ _ _ rfl (fun _ h => h) v2 HC2.out ?_
  simp only [Act.put, List.setIfInBounds_toArray, List.set_cons_succ, List.set_cons_zero]
  repeat (go_big_quiet_step (fail))
  refine wpQuiet_cut rfl _ _ _ _ rfl (fun _ h => h) v3 HC3.out ?_
  simp only [Act.put, List.setIfInBounds_toArray, List.set_cons_succ, List.set_cons_zero]
  repeat (go_big_quiet_step (fail))
  refine wpQuiet_nil ?_
  rintro _ ⟨nq, rfl⟩
  have HBQ := hide (below_drewN (Below.refl w1.heap.size w1) nq)
  have HQ1 := hide (HV1.out.drewN nq)
  have HQ2 := hide (HV2.out.drewN nq)
  have HQ3 := hide (HV3.out.drewN nq)
  clear HV1 HV2 HV3 HC1 HC2 HC3
  go_wp2_with fail
  refine (HF.out _ _ HQ3.out).mono ?_
  rintro e w2 ⟨rfl, rfl⟩
  clear HF HQ3
  go_wp2_with fail
  refine (HS.out _ _ HQ1.out).mono ?_
  rintro e w2 ⟨rfl, hb2⟩
  have HB2 := hide (HBQ.out.trans hb2)
  have HQ4 := hide (HQ2.out.below hb2 (Nat.le_refl _))
  clear HS HQ1 HQ2 hb2 HBQ
  by_cases c5 : T = S
  · have hne : (T != S) = false := by rw [bne_eq_false_iff_eq]; exact c5
    have HE := hide (HE6.out (by have := HSS.out; have := HTT.out; omega))
    clear c5 HE5 HE6
    have HLL := hide (show ((l.drop k).take n).length ≤ 1048576 by have := HNN.out; simp; omega)
    have HC := hide (clone_any _ _ w2 HQ4.out (by have := HLL.out; omega))
    generalize (l.drop k).take n = x at *
    go_wp2_with fail
    refine HC.out.mono ?_
    rintro e w4 ⟨v4, rfl, ho4, hb4⟩
    have hs2 := HB2.out.size
    have HO4 := hide (ho4.mono hs2)
    have HB4 := hide (HB2.out.trans (hb4.mono hs2))
    clear ho4 hb4 HC
    go_wp2
    go_ret3
    refine ⟨v4, ?_, by rw [HE.out]; exact HO4.out, HB4.out⟩
    rw [HE.out]
    exact ret_tup3 (by show K + N + 4 = ((k + 4 + n : Nat) : Int); have := HNN.out; have := HKK.out; omega) rfl
  · have hne : (T != S) = true := by rw [bne_iff_ne]; exact c5
    have HE := hide (HE5.out (by have := HSS.out; have := HTT.out; omega))
    clear c5 HE5 HE6
    go_wp2
    go_ret3
    refine ⟨.slice none 0 0, ?_, ?_, HB2.out⟩
    · rw [HE.out]; rfl
    · rw [HE.out]; exact Own.nil _ _

end Go.Proofs.YtgpdbboieokldaaGreat

