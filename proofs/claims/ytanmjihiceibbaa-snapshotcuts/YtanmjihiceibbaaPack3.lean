import Derived.Test.YtanmjihiceibbaaPack2
import Derived.Test.YtanmjihiceibbaaPack1
import Derived.Lib.SliceRun
import Derived.Laws.StructEq
import Derived.Shelf.Slices.Equal
import Derived.Shelf.Slices.Empties2
import Derived.Shelf.Slices.Clone
import Derived.Shelf.Slices.Cells
import Derived.Shelf.Spec.SlicesInsert
import Derived.Shelf.Spec.SlicesInsertGrow
/- Contracts of lowest, Fixed32, Fixed64, Fixed. -/
namespace Go.Proofs.Ytanmjihiceibbaa
open Go.RowKit

theorem leBytes_snoc : ∀ (k v : Nat), Lib.leBytes (k + 1) v = Lib.leBytes k v ++ [(v / 256 ^ k % 256).toUInt8]
  | 0, v => by simp [Lib.leBytes]
  | k + 1, v => by
    have ih := leBytes_snoc k (v / 256)
    have e : v / 256 / 256 ^ k = v / 256 ^ (k + 1) := by rw [Nat.div_div_eq_div_mul, Nat.pow_succ, Nat.mul_comm]
    rw [Lib.leBytes, ih, e]
    simp [Lib.leBytes]

/-- What lies in the row of c bytes behind k rounds. -/
def leRow (c k v : Nat) : List UInt8 := Lib.leBytes k v ++ List.replicate (c - k) 0

theorem leRow_length (c k v : Nat) (h : k ≤ c) : (leRow c k v).length = c := by
  simp [leRow, Lib.leBytes_length]
  omega

theorem leRow_set (c k v : Nat) (h : k < c) : (Lib.byteCells (leRow c k v)).set k (.int .u8 ((v / 256 ^ k % 256 : Nat) : Int)) = Lib.byteCells (leRow c (k + 1) v) := by
  have e : c - k = (c - (k + 1)) + 1 := by omega
  unfold leRow
  rw [leBytes_snoc, e, List.replicate_succ]
  have hl : (Lib.byteCells (Lib.leBytes k v)).length = k := by rw [byteCells_length, Lib.leBytes_length]
  have h8 : ((v / 256 ^ k % 256).toUInt8).toNat = v / 256 ^ k % 256 := Lib.toUInt8_toNat (Nat.mod_lt _ (by decide))
  simp only [Lib.byteCells, List.map_append, List.map_cons, List.map_nil, h8] at hl ⊢
  rw [List.set_append_right _ _ (by omega), hl]
  simp

theorem pow8 (k : Nat) : 2 ^ (8 * k) = 256 ^ k := by rw [Nat.pow_mul]

theorem low_plain (v k : Nat) : ((v : Int) / 2 ^ (8 * k)) % 256 = ((v / 256 ^ k % 256 : Nat) : Int) := by
  rw [← pow8]
  simp

set_option maxRecDepth 100000 in
set_option maxHeartbeats 400000 in
theorem lowest_any (v c : Nat) (w : World) (hc : c ≤ 8) :
    Calls Try.prog 94 #[.int .u64 (v : Int), .int .i64 (c : Int)] w fun e w' => ∃ v', e = .returned v' ∧ Own w' w.heap.size v' (Lib.leBytes c v) ∧ Below w.heap.size w w' := by
  obtain ⟨i0, hi, hz0, hz1, hz2⟩ := info_parts info8
  go_enter Try.func94, Try.ntmps94
  go_wp2_with (at_make; refine wpList_make_full _ rfl _ _ 30 rfl w.heap.size 5 i0 (.int .u8 0) 1 Try.underlying30 hi hz0 hz1 _ _ _ _ c rfl rfl rfl rfl (by rw [hz2]; omega) (by unfold maxLen; omega) (Nat.le_refl _) ?_)
  intro w1 hown hgrow
  have hb1 : Below w.heap.size w w1 := (Below.refl _ _).grown hgrow (Nat.le_refl _) (fun k hk => by cases hk)
  have hown1 : w1.ownsRow w.heap.size 5 1 (.slice (some ⟨w.heap.size, 0, none⟩) c c) c (Lib.byteCells (leRow c 0 v)) := by
    have e : (madeCells #[Value.int .u8 0] c).toList = Lib.byteCells (leRow c 0 v) := by
      rw [toList_madeCells_one]
      simp [leRow, Lib.leBytes, Lib.byteCells]
    rw [← e]
    exact hown
  have HO := hide hown1
  have HB := hide hb1
  clear hown hown1 hb1 hgrow
  go_wp2
  go_loopw [11] (fun i wr => ∃ k : Nat, k ≤ c ∧ i = .int .i64 (k : Int) ∧ Hid (wr.ownsRow w.heap.size 5 1 (.slice (some ⟨w.heap.size, 0, none⟩) c c) c (Lib.byteCells (leRow c k v))) ∧ Hid (Below w.heap.size w wr)) (fun i _ => c - (intOf i).toNat)
  case atStart => exact ⟨0, Nat.zero_le _, rfl, HO, HB⟩
  case round =>
    obtain ⟨k, hk, rfl, ho, hb⟩ := hrel
    by_cases hlt : k < c
    · have hcell : wr.cell? ⟨w.heap.size, k, none⟩ = some (.int .u8 ((leRow c k v).getD k 0).toNat) := by
        rw [World.ownsRow.cellAt ho.out k (by omega), byteCells_get _ _ (by rw [leRow_length c k v hk]; exact hlt)]
      have hfr : wr.frozen? ⟨w.heap.size, k, none⟩ = false := World.ownsRow.frozenAt ho.out k
      go_wp2
      go_roundw
      case rel =>
        have hs := World.ownsRow.stored ho.out k (Value.int .u8 ((v / 256 ^ k % 256 : Nat) : Int))
        rw [leRow_set c k v hlt] at hs
        rw [low_plain]
        exact ⟨k + 1, by omega, by go_num, hs.1, hb.out.setCell (Nat.le_refl _) _⟩
      case measure => simp [intOf]; omega
    · go_wp2
      go_ret
      have e : k = c := by omega
      refine ⟨_, rfl, Own.mk' (l := Lib.leBytes c v) ho.out (by rw [Lib.leBytes_length]) ?_, hb.out⟩
      rw [e]
      simp [leRow]

set_option maxRecDepth 100000 in
theorem fixed32_any (v : Nat) (w : World) (h : v < 4294967296) :
    Calls Try.prog 58 #[.int .u32 (v : Int)] w fun e w' => ∃ v', e = .returned v' ∧ Own w' w.heap.size v' (Lib.leBytes 4 v) ∧ Below w.heap.size w w' := by
  have HC : Hid (Calls Try.prog 94 #[.int .u64 (v : Int), .int .i64 4] w fun e w' => ∃ v', e = .returned v' ∧ Own w' w.heap.size v' (Lib.leBytes 4 v) ∧ Below w.heap.size w w') := lowest_any v 4 w (by omega)
  obtain ⟨U, hU⟩ : ∃ U : Int, U = (v : Int) := ⟨_, rfl⟩
  have h0 : 0 ≤ U := by omega
  have h1 : U < 4294967296 := by omega
  rw [← hU] at HC ⊢
  clear hU h
  go_enter Try.func58, Try.ntmps58
  go_wp2_with fail
  refine HC.out.mono ?_
  rintro e w' ⟨v', rfl, ho, hb⟩
  have HO := hide ho
  have HB := hide hb
  clear ho hb HC
  go_wp2
  go_ret
  exact ⟨v', rfl, HO.out, HB.out⟩

theorem leNat_lt : ∀ l : List UInt8, Lib.leNat l < 256 ^ l.length
  | [] => by simp [Lib.leNat]
  | c :: r => by
    have h := leNat_lt r
    have hc := c.toNat_lt
    simp only [Lib.leNat, List.length_cons, Nat.pow_succ]
    omega

theorem leNat_snoc : ∀ (l : List UInt8) (c : UInt8), Lib.leNat (l ++ [c]) = Lib.leNat l + c.toNat * 256 ^ l.length
  | [], c => by simp [Lib.leNat]
  | d :: r, c => by
    have h := leNat_snoc r c
    simp only [List.cons_append, Lib.leNat, List.length_cons, Nat.pow_succ, h]
    rw [Nat.mul_add, ← Nat.mul_assoc, Nat.mul_comm 256 c.toNat, Nat.mul_assoc, Nat.mul_comm 256 (256 ^ r.length)]
    omega

theorem leNat_take (l : List UInt8) (k : Nat) (h : k < l.length) : Lib.leNat (l.take (k + 1)) = Lib.leNat (l.take k) + (l.getD k 0).toNat * 256 ^ k := by
  rw [take_snoc l k h, leNat_snoc, List.length_take, Nat.min_eq_left (by omega)]

theorem leNat_take_lt (l : List UInt8) (k : Nat) (h : k ≤ l.length) : Lib.leNat (l.take k) < 256 ^ k := by
  have := leNat_lt (l.take k)
  rwa [List.length_take, Nat.min_eq_left h] at this

theorem or_step8 (l : List UInt8) (k : Nat) (hk : k < l.length) (h8 : k < 8) :
    bits .or .u64 ((Lib.leNat (l.take k) : Nat) : Int) (IntKind.u64.wrap (((l.getD k 0).toNat : Int) * 2 ^ (8 * k))) = ((Lib.leNat (l.take (k + 1)) : Nat) : Int) := by
  have hv := leNat_take_lt l k (by omega)
  rw [leNat_take l k hk, ← pow8]
  rw [← pow8] at hv
  refine or_low (8 * k) _ _ (by omega) hv ?_
  have hp : 2 ^ (8 * k) ≤ 2 ^ 56 := Nat.pow_le_pow_right (by decide) (by omega)
  have hb := (l.getD k 0).toNat_lt
  have hm : (l.getD k 0).toNat ≤ 255 := by omega
  have := Nat.mul_le_mul hm hp
  have e56 : 255 * 2 ^ 56 < 18446744073709551616 := by decide
  omega

set_option maxRecDepth 100000 in
set_option maxHeartbeats 400000 in
theorem fixed_any (v : Value) (l : List UInt8) (w : World) (hr : Rd w v l) :
    Calls Try.prog 83 #[v] w fun e w' => e = .returned (.int .u64 (Lib.leNat (l.take 8) : Nat)) ∧ w' = w := by
  obtain ⟨ao, cap, rfl, hlc, hcm, hn0, hao⟩ := hr
  clear hn0
  have hml : (l.length : Int) ≤ 9223372036854775807 := by unfold maxLen at hcm; omega
  by_cases h10 : (l.length : Int) ≤ 8
  all_goals
    go_enter Try.func83, Try.ntmps83
    go_wp2
    go_loop [3, 8] (fun n i => ∃ k : Nat, i = .int .i64 k ∧ k ≤ 8 ∧ k ≤ l.length ∧ n = .int .u64 (Lib.leNat (l.take k) : Nat)) (fun _ i => 8 - (intOf i).toNat)
    case atStart => exact ⟨0, rfl, by omega, by omega, rfl⟩
    case round =>
      obtain ⟨k, rfl, hk10, hkl, rfl⟩ := hrel
      by_cases hlt : k < 8 ∧ k < l.length
      · obtain ⟨hlt, hlt'⟩ := hlt
        rcases hao with hao | ⟨b, off, rfl, hc⟩
        · subst hao; simp at hlt'
        · have hck := hc k hlt'
          have HS := hide (or_step8 l k hlt' hlt)
          have hy : (l.getD k 0).toNat < 256 := UInt8.toNat_lt _
          clear hc
          generalize (l.getD k 0).toNat = y at *
          generalize Lib.leNat (l.take k) = z at *
          go_wp2
          go_round
          case rel => exact ⟨k + 1, by go_num, by omega, by omega, by rw [HS.out]⟩
          case measure => simp [intOf]; omega
      · go_wp2
        go_ret
        refine ⟨ret_int ?_, rfl⟩
        by_cases e : k = 8
        · rw [e]
        · rw [List.take_of_length_le (by omega : l.length ≤ k), List.take_of_length_le (by omega : l.length ≤ 8)]

end Go.Proofs.Ytanmjihiceibbaa

/- awake answers true: the chapter's examples. It only makes memory of its own. -/
namespace Go.Proofs.Ytanmjihiceibbaa
open Go.RowKit

/-- Bytes as a string. -/
def bs (l : List UInt8) : ByteArray := ⟨l.toArray⟩

theorem bs_list (l : List UInt8) : (bs l).toList = l := ByteArray.toList_mk l

theorem bs_size (l : List UInt8) : (bs l).size = l.length := by simp [bs, ByteArray.size]

theorem bs_take (l : List UInt8) (n : Nat) : ((bs l).extract 0 n).toList = l.take n := by
  rw [ByteArray.toList_eq]
  simp [bs]

theorem bs_eq (a b : List UInt8) : ((bs a).toList == (bs b).toList) = (a == b) := by rw [bs_list, bs_list]

theorem Rd.str {w : World} {v : Value} {l : List UInt8} (h : Rd w v l) : (convert 30 9 v).run Try.prog w = .ok (.string (bs l)) w := by
  obtain ⟨ao, cap, rfl, _, _, hn, h⟩ := h
  cases ao with
  | none =>
    have hl : l = [] := List.eq_nil_of_length_eq_zero (by have := hn rfl; omega)
    subst hl
    exact run_convert_bytes_nil w 30 5 Try.underlying30 Try.underlying5 0 cap 9 Try.underlying9
  | some a =>
    have hl : (loadCells a l.length).run Try.prog w = .ok ((l.map fun c => (c.toNat : Int)).map (Value.int .u8)).toArray w := by
      have := run_loadCells_list (P := Try.prog) w a (Lib.byteCells l) (Rd.cells h a rfl)
      rw [byteCells_length] at this
      rw [this]
      simp [Lib.byteCells, Function.comp_def]
    rw [run_convert_bytes_string w 30 9 5 _ l.length cap Try.underlying30 Try.underlying5 Try.underlying9, run_bytesToString w _ l.length cap _ hl, foldl_push_bytes]
    have e : (List.map (fun n : Int => UInt8.ofNat n.toNat) (List.map (fun c : UInt8 => (c.toNat : Int)) l)) = l := by
      rw [List.map_map]
      conv => rhs; rw [← List.map_id l]
      apply List.map_congr_left
      intro c _
      simp
    rw [e]
    simp [bs, ByteArray.empty, ByteArray.emptyWithCapacity]
    rfl

theorem uvarint300 : Lib.uvarint 300 = [172, 2] := by
  rw [Lib.uvarint_big (by decide), Lib.uvarint_small (by decide)]
  decide

end Go.Proofs.Ytanmjihiceibbaa

/- Slices of bytes cut, and slices of slices of bytes: what one reads ('RdL'), what a call makes ('OwnL'). -/
namespace Go.Proofs.Ytanmjihiceibbaa
open Go.RowKit

/-- Bytes in the midst of what is read. -/
theorem Rd.mid {w : World} {ao : Option Addr} {n cap : Nat} {l : List UInt8} (h : Rd w (.slice ao n cap) l) (i j m : Nat) (hij : i ≤ j) (hj : j ≤ l.length) (hm : j ≤ m) (hmc : m ≤ cap) : Rd w (sliced ao i j m 1) ((l.drop i).take (j - i)) := by
  obtain ⟨ao', cap', hv, h1, h2, h3, h4⟩ := h
  simp only [Value.slice.injEq] at hv
  obtain ⟨rfl, rfl, rfl⟩ := hv
  have hlen : ((l.drop i).take (j - i)).length = j - i := by simp; omega
  unfold sliced
  by_cases hmi : m = i
  · rw [if_pos hmi]
    have e : j - i = 0 := by omega
    refine ⟨ao, m - i, by rw [hlen], by omega, by omega, fun hn => by have := h3 hn; omega, .inl ?_⟩
    rw [e]
    simp
  · rw [if_neg hmi]
    refine ⟨ao.map (·.add (i * 1)), m - i, by rw [hlen], by omega, by omega, fun hn => ?_, ?_⟩
    · have hn' : ao = none := by simpa using hn
      have := h3 hn'
      omega
    · rcases h4 with h4 | ⟨b, off, h5, h6⟩
      · exact .inl (by rw [h4]; simp)
      · refine .inr ⟨b, off + i, ?_, fun k hk => ?_⟩
        · rw [h5, Nat.mul_one, Option.map_some, Addr.add_lit]
        · rw [hlen] at hk
          rw [Nat.add_assoc, h6 (i + k) (by omega)]
          simp [List.getD, hk]

theorem elem_bytes : Try.prog.elem 30 = 5 := by kernel_rfl

theorem size_u8 (w : World) : (sizeOf 5).run Try.prog w = .ok 1 w := by
  obtain ⟨i0, hi, _, hz1, _⟩ := info_parts info8
  simp [sizeOf, typeInfo, hi, hz1]

theorem under_bytes : Try.prog.underlying 30 = some (.slice (Try.prog.elem 30)) := by rw [elem_bytes]; exact Try.underlying30

theorem run_cut_lh (w : World) (v : Value) (l : List UInt8) (hr : Rd w v l) (k k' : IntKind) (i j : Int) (h0 : 0 ≤ i) (h1 : i ≤ j) (h2 : j ≤ l.length) :
    ∃ v', (Instr.sliceAt 30 v (some (.int k i)) (some (.int k' j)) none).run Try.prog w = .ok v' w ∧ Rd w v' ((l.drop i.toNat).take (j.toNat - i.toNat)) := by
  have h := hr
  obtain ⟨ao, cap, rfl, hlc, _⟩ := hr
  refine ⟨sliced ao i.toNat j.toNat cap 1, ?_, h.mid i.toNat j.toNat cap (by omega) (by omega) (by omega) (Nat.le_refl _)⟩
  rw [run_sliceAt_slice w 30 _ _ _ _ under_bytes, run_slice_lh w 30 ao l.length cap under_bytes k k' i j h0 h1 (by omega), elem_bytes, size_u8]
  rfl

theorem run_cut_l (w : World) (v : Value) (l : List UInt8) (hr : Rd w v l) (k : IntKind) (i : Int) (h0 : 0 ≤ i) (h2 : i ≤ l.length) :
    ∃ v', (Instr.sliceAt 30 v (some (.int k i)) none none).run Try.prog w = .ok v' w ∧ Rd w v' (l.drop i.toNat) := by
  have h := hr
  obtain ⟨ao, cap, rfl, hlc, _⟩ := hr
  refine ⟨sliced ao i.toNat l.length cap 1, ?_, ?_⟩
  · rw [run_sliceAt_slice w 30 _ _ _ _ under_bytes, run_slice_l w 30 ao l.length cap under_bytes k i h0 (by omega), elem_bytes, size_u8]
    rfl
  · have := h.mid i.toNat l.length cap (by omega) (Nat.le_refl _) hlc (Nat.le_refl _)
    rw [List.take_of_length_le (by simp)] at this
    exact this

theorem run_cut_h (w : World) (v : Value) (l : List UInt8) (hr : Rd w v l) (k : IntKind) (j : Int) (h0 : 0 ≤ j) (h2 : j ≤ l.length) :
    ∃ v', (Instr.sliceAt 30 v none (some (.int k j)) none).run Try.prog w = .ok v' w ∧ Rd w v' (l.take j.toNat) := by
  have h := hr
  obtain ⟨ao, cap, rfl, hlc, _⟩ := hr
  refine ⟨sliced ao 0 j.toNat cap 1, ?_, ?_⟩
  · rw [run_sliceAt_slice w 30 _ _ _ _ under_bytes, run_slice_h w 30 ao l.length cap under_bytes k j h0 (by omega), elem_bytes, size_u8]
    rfl
  · have := h.mid 0 j.toNat cap (by omega) (by omega) (by omega) (Nat.le_refl _)
    simpa using this

theorem run_cut_lhm (w : World) (v : Value) (l : List UInt8) (hr : Rd w v l) (k k' k2 : IntKind) (i j m : Int) (h0 : 0 ≤ i) (h1 : i ≤ j) (h2 : j ≤ m) (h3 : m ≤ l.length) :
    ∃ v', (Instr.sliceAt 30 v (some (.int k i)) (some (.int k' j)) (some (.int k2 m))).run Try.prog w = .ok v' w ∧ Rd w v' ((l.drop i.toNat).take (j.toNat - i.toNat)) := by
  have h := hr
  obtain ⟨ao, cap, rfl, hlc, _⟩ := hr
  refine ⟨sliced ao i.toNat j.toNat m.toNat 1, ?_, h.mid i.toNat j.toNat m.toNat (by omega) (by omega) (by omega) (by omega)⟩
  rw [run_sliceAt_slice w 30 _ _ _ _ under_bytes, run_slice_lhm w 30 ao l.length cap under_bytes k k' k2 i j m h0 h1 h2 (by omega), elem_bytes, size_u8]
  rfl

theorem run_cut_hm (w : World) (v : Value) (l : List UInt8) (hr : Rd w v l) (k' k2 : IntKind) (j m : Int) (h1 : 0 ≤ j) (h2 : j ≤ m) (h3 : m ≤ l.length) :
    ∃ v', (Instr.sliceAt 30 v none (some (.int k' j)) (some (.int k2 m))).run Try.prog w = .ok v' w ∧ Rd w v' (l.take j.toNat) := by
  have h := hr
  obtain ⟨ao, cap, rfl, hlc, _⟩ := hr
  refine ⟨sliced ao 0 j.toNat m.toNat 1, ?_, ?_⟩
  · rw [run_sliceAt_slice w 30 _ _ _ _ under_bytes, run_slice_hm w 30 ao l.length cap under_bytes k' k2 j m h1 h2 (by omega), elem_bytes, size_u8]
    rfl
  · have := h.mid 0 j.toNat m.toNat (by omega) (by omega) (by omega) (by omega)
    simpa using this

/-- A cut, once one knows what it makes. -/
theorem wpList_cut (w : World) {ops : Array Oper} {rest : List Oper} {o : Oper} {a : Act} {Q : Exit → Act → World → Prop} (hgd : o.guard = none) (x : Operand) (lo hi mx : Option Operand)
    (ho : o.op = .slice 30 x lo hi mx) (l : List UInt8)
    (hrun : ∃ v', (Instr.sliceAt 30 (a.eval x) (lo.map a.eval) (hi.map a.eval) (mx.map a.eval)).run Try.prog w = .ok v' w ∧ Rd w v' l)
    (h : ∀ v', Rd w v' l → wpList Try.prog ops Q rest (a.put o.dst v') w) : wpList Try.prog ops Q (o :: rest) a w :=
  wpList_plain hgd fun _ hK => by
    obtain ⟨v', hrun, hr⟩ := hrun
    unfold Oper.wp execOp
    simp only [ho, hrun, Sem.run_bind, Sem.run_pure, Result.andThen_ok]
    exact hK _ _ (h v' hr)

end Go.Proofs.Ytanmjihiceibbaa

/- Slices of entries in memory: what one reads ('RdE'), what a call owns ('OwnE'), append onto them; snapshots ('SnV'). -/
namespace Go.Proofs.Ytanmjihiceibbaa
open Go.RowKit

def entV (e : Ent) : Value := .agg #[.int .i64 e.proc, .int .i64 e.seq, .int .i64 e.resp]

/-- An entry's cells. -/
def entC (e : Ent) : Array Value := #[.int .i64 e.proc, .int .i64 e.seq, .int .i64 e.resp]

def EntI (e : Ent) : Prop := I64 e.proc ∧ I64 e.seq ∧ I64 e.resp

/-- A box of an entry. -/
def Be (w : World) (b : Nat) (cs : Array Value) : Prop := w.heap[b]? = some (.cells cs 48 (0, 0))

theorem Be.lt {w : World} {b : Nat} {cs : Array Value} (h : Be w b cs) : b < w.heap.size := (Array.getElem?_eq_some_iff.1 h).1

theorem Be.below {w w' : World} {b B : Nat} {cs : Array Value} (h : Be w b cs) (hb : Below B w w') (hB : w.heap.size ≤ B) : Be w' b cs := (hb.block b (by have := h.lt; omega)).trans h

theorem Be.cell {w : World} {b : Nat} {cs : Array Value} (h : Be w b cs) (j : Nat) : w.cell? ⟨b, j, none⟩ = cs[j]? ∧ w.frozen? ⟨b, j, none⟩ = false := ⟨cell_of_row w b j _ _ _ h, frozen_of_row w b j _ _ h⟩

/-- An entry's three cells. -/
def EntAt (w : World) (b o : Nat) (e : Ent) : Prop :=
  w.cell? ⟨b, o, none⟩ = some (.int .i64 e.proc) ∧ w.cell? ⟨b, o + 1, none⟩ = some (.int .i64 e.seq) ∧ w.cell? ⟨b, o + 2, none⟩ = some (.int .i64 e.resp)

theorem EntAt.lt {w : World} {b o : Nat} {e : Ent} (h : EntAt w b o e) : b < w.heap.size := World.block_lt_of_cell? w ⟨b, o, none⟩ h.1

theorem EntAt.keep {w w' : World} {b o : Nat} {e : Ent} (h : EntAt w b o e) (hk : w'.heap[b]? = w.heap[b]?) : EntAt w' b o e := by
  have hc : ∀ i, w'.cell? ⟨b, i, none⟩ = w.cell? ⟨b, i, none⟩ := fun i => World.cell?_of_block (a := ⟨b, i, none⟩) hk
  unfold EntAt at h ⊢
  simp only [hc]
  exact h

/-- The slice value v reads, in the world w, as the entries l. -/
def RdE (w : World) (v : Value) (l : List Ent) : Prop :=
  ∃ ao cap, v = .slice ao l.length cap ∧ l.length ≤ cap ∧ cap ≤ maxLen ∧ (ao = none → cap = 0) ∧ (∀ e ∈ l, EntI e) ∧
    (l = [] ∨ ∃ b off, ao = some ⟨b, off, none⟩ ∧ ∀ j, j < l.length → EntAt w b (off + j * 3) (l.getD j zeroE))

theorem RdE.nil (w : World) : RdE w (.slice none 0 0) [] := ⟨none, 0, rfl, Nat.le_refl _, Nat.zero_le _, fun _ => rfl, (fun r h => by simp at h), .inl rfl⟩

theorem RdE.below {w w' : World} {v : Value} {l : List Ent} (h : RdE w v l) {B : Nat} (hb : Below B w w') (hB : w.heap.size ≤ B) : RdE w' v l := by
  obtain ⟨ao, cap, h1, h2, h3, hn, hw, h4⟩ := h
  refine ⟨ao, cap, h1, h2, h3, hn, hw, ?_⟩
  rcases h4 with h4 | ⟨b, off, h5, h6⟩
  · exact .inl h4
  · refine .inr ⟨b, off, h5, fun j hj => ?_⟩
    have h7 := h6 j hj
    exact h7.keep (hb.block b (by have := h7.lt; omega))

/-- The cells of entries. -/
def entCells : List Ent → List Value
  | [] => []
  | r :: t => (entC r).toList ++ entCells t

theorem entCells_length : ∀ l : List Ent, (entCells l).length = l.length * 3
  | [] => rfl
  | r :: t => by
    rw [entCells, List.length_append, entCells_length t, List.length_cons]
    simp [entC]
    omega

theorem entCells_app : ∀ a b : List Ent, entCells (a ++ b) = entCells a ++ entCells b
  | [], _ => rfl
  | r :: t, b => by rw [List.cons_append, entCells, entCells_app t b, entCells, List.append_assoc]

theorem entCells_get : ∀ (l : List Ent) (j k : Nat), j < l.length → k < 3 → (entCells l)[j * 3 + k]? = (entC (l.getD j zeroE))[k]?
  | r :: t, 0, k, _, hk => by
    rw [entCells, Nat.zero_mul, Nat.zero_add, List.getElem?_append_left (by simp [entC]; omega)]
    simp [List.getD]
  | r :: t, j + 1, k, hj, hk => by
    have e : (j + 1) * 3 + k = (entC r).toList.length + (j * 3 + k) := by simp [entC]; omega
    rw [entCells, e, List.getElem?_append_right (by omega), Nat.add_sub_cancel_left, entCells_get t j k (by simpa using hj) hk]
    simp [List.getD]

theorem entCells_one (l : List Ent) : ∀ u ∈ entCells l, u.oneCell' = true := by
  induction l with
  | nil => intro u hu; simp [entCells] at hu
  | cons r t ih =>
    intro u hu
    rw [entCells] at hu
    rcases List.mem_append.1 hu with h | h
    · simp [entC] at h
      rcases h with rfl | rfl | rfl <;> rfl
    · exact ih u h

/-- The slice value v lies at the head of a row of its own, from block B on, that holds the entries l. -/
def OwnE (w : World) (B : Nat) (v : Value) (l : List Ent) : Prop := w.ownsRow B 48 3 v l.length (entCells l)

theorem OwnE.nil (w : World) (B : Nat) : OwnE w B (.slice none 0 0) [] := World.ownsRow_nil w B 48 3

theorem OwnE.rd {w : World} {B : Nat} {v : Value} {l : List Ent} (h : OwnE w B v l) (hw : ∀ r ∈ l, EntI r) : RdE w v l := by
  rcases h.2 with ⟨hv, hn⟩ | ⟨g, cap, cur, hv, hb, hg, hnc, hcm, hcs, htake⟩
  · exact ⟨none, 0, by rw [hv, hn], by omega, Nat.zero_le _, fun _ => rfl, hw, .inl (List.eq_nil_of_length_eq_zero hn)⟩
  · refine ⟨some ⟨g, 0, none⟩, cap, hv, hnc, hcm, (fun e => by cases e), hw, .inr ⟨g, 0, rfl, fun j hj => ?_⟩⟩
    have hc : ∀ k u, k < 3 → (entC (l.getD j zeroE))[k]? = some u → w.cell? ⟨g, 0 + j * 3 + k, none⟩ = some u := fun k u hk hu => by
      have := World.ownsRow.cells h (g := g) (by rw [hv]; rfl) (j * 3 + k) u ((entCells_get l j k hj hk).trans hu)
      rw [Addr.add_lit] at this
      rw [Nat.add_assoc]
      exact this
    exact ⟨hc 0 _ (by decide) rfl, hc 1 _ (by decide) rfl, hc 2 _ (by decide) rfl⟩

theorem OwnE.below {w w' : World} {B B' : Nat} {v : Value} {l : List Ent} (h : OwnE w B v l) (hb : Below B' w w') (hB : w.heap.size ≤ B') : OwnE w' B v l := by
  obtain ⟨h1, h2⟩ := h
  refine ⟨h1, ?_⟩
  rcases h2 with h2 | ⟨g, cap, cur, hv, hbg, hg, r⟩
  · exact .inl h2
  · have hlt : g < w.heap.size := (Array.getElem?_eq_some_iff.1 hg).1
    exact .inr ⟨g, cap, cur, hv, hbg, by rw [hb.block g (by omega)]; exact hg, r⟩

theorem OwnE.mono {w : World} {B B' : Nat} {v : Value} {l : List Ent} (h : OwnE w B v l) (hB : B' ≤ B) : OwnE w B' v l := by
  obtain ⟨h1, h2⟩ := h
  refine ⟨h1, ?_⟩
  rcases h2 with h2 | ⟨g, cap, cur, hv, hb, r⟩
  · exact .inl h2
  · exact .inr ⟨g, cap, cur, hv, by omega, r⟩

theorem OwnE.shape {w : World} {B : Nat} {v : Value} {l : List Ent} (h : OwnE w B v l) : ∃ ao cap, v = .slice ao l.length cap := by
  rcases h.2 with ⟨hv, hn⟩ | ⟨g, cap, cur, hv, _⟩
  · exact ⟨none, 0, by rw [hv, hn]⟩
  · exact ⟨_, _, hv⟩

theorem RdE.shape {w : World} {v : Value} {l : List Ent} (h : RdE w v l) : ∃ ao cap, v = .slice ao l.length cap := by
  obtain ⟨ao, cap, hv, _⟩ := h
  exact ⟨ao, cap, hv⟩

theorem info_ent : (Try.prog.info? 48).map (fun i => (i.zero, i.size, i.bytes)) = some (some (.agg #[.int .i64 0, .int .i64 0, .int .i64 0]), 3, 24) := by kernel_rfl

/-- One more entry behind a row of one's own. -/
theorem run_append_ent (w : World) (ty : TypeId) (B : Nat) (v : Value) (l : List Ent) (h : OwnE w B v l) (r : Ent) (hlim : l.length ≤ 1000000) (hbase : B ≤ w.heap.size) :
    ∃ v' w', (Builtin.append_ #[25, 25] ty #[v, .slice (some ⟨w.heap.size, 0, none⟩) 1 1]).run Try.prog (w.alloc (.cells (entC r) 48)) = .ok v' w' ∧ OwnE w' B v' (l ++ [r]) ∧ Below B w w' := by
  obtain ⟨i0, hi, hz0, hz1, hz2⟩ := info_parts info_ent
  obtain ⟨v', w', hrun, ho, hg, _⟩ := run_append_own (P := Try.prog) (w.alloc (.cells (entC r) 48)) B 25 ty 48 i0 _ 3 24 Try.underlying25 hi hz0 hz1 hz2 rfl (by decide) v l.length (entCells l) (h.alloc _)
    ⟨w.heap.size, 0, none⟩ 1 1 (entCells [r]) (entCells_length [r]) (fun j u hj => by
      rw [Addr.add_lit, Nat.zero_add, cell_of_row _ w.heap.size j _ 48 (0, 0) (heap_alloc_new w _)]
      simpa [entCells] using hj) (entCells_one [r]) (by unfold maxLen; omega) (by omega) (by simp; omega)
  refine ⟨v', w', hrun, ?_, ?_⟩
  · unfold OwnE
    rw [List.length_append, entCells_app]
    exact ho
  · exact ((Below.refl _ _).alloc hbase _).grown hg (by simp; omega) (fun k hk => (World.ownsRow.lt h k hk).1)

theorem wpList_append_ent (w : World) {ops : Array Oper} {rest : List Oper} {o : Oper} {a : Act} {Q : Exit → Act → World → Prop} (hgd : o.guard = none) (s x : Operand)
    (ho : o.op = .call { callee := .builtin .append, args := #[s, x], argTypes := #[25, 25] })
    (B : Nat) (v : Value) (l : List Ent) (hs : a.eval s = v) (hown : OwnE w B v l) (r : Ent) (hx : a.eval x = .slice (some ⟨w.heap.size, 0, none⟩) 1 1)
    (hlim : l.length ≤ 1000000) (hbase : B ≤ w.heap.size)
    (h : ∀ v' w', OwnE w' B v' (l ++ [r]) → Below B w w' → wpList Try.prog ops Q rest (a.put o.dst v') w') : wpList Try.prog ops Q (o :: rest) a (w.alloc (.cells (entC r) 48)) :=
  wpList_plain hgd fun _ hK => by
    obtain ⟨v', w', hrun, h2, h3⟩ := run_append_ent w o.type B v l hown r hlim hbase
    unfold Oper.wp execOp
    simp only [ho, resolve, invoke, builtin, Sem.run_bind, Sem.run_pure, Result.andThen_ok, List.map_toArray, List.map_cons, List.map_nil, hs, hx, hrun]
    exact hK _ _ (h v' w' h2 h3)

/-- The value v is, in the world w, the snapshot s. -/
def SnV (w : World) (v : Value) (s : Snap) : Prop :=
  ∃ vl vt, v = .agg #[.int .i64 s.idx, .int .i64 s.st.kind, vl, .bool s.st.shut, .int .i64 s.st.eng, vt] ∧ RdI w vl s.st.L ∧ I64 s.st.kind ∧ I64 s.st.eng ∧ RdE w vt s.tab ∧ I64 s.idx

end Go.Proofs.Ytanmjihiceibbaa

/- Snapshots: encoded and decoded, once, cut. -/
namespace Go.Proofs.Ytanmjihiceibbaa

theorem take_drop_app (l : List UInt8) (a b : Nat) : (l.drop a).take b ++ l.drop (a + b) = l.drop a := by rw [← List.drop_drop, List.take_append_drop]

theorem entOk_small {e : Ent} (h : EntOk e) : e.proc.toNat < 4611686018427387904 ∧ e.seq.toNat < 4611686018427387904 ∧ I64 e.resp ∧ ((e.proc.toNat : Nat) : Int) = e.proc ∧ ((e.seq.toNat : Nat) : Int) = e.seq := by
  obtain ⟨h1, h2, h3, h4, h5, h6⟩ := h
  exact ⟨by omega, by omega, ⟨by omega, by omega⟩, by omega, by omega⟩

theorem readE_step {e : Ent} (h : EntOk e) (n : Nat) (t : List UInt8) : readE (n + 1) (entL e ++ t) = (readE n t).map (fun r => (e :: r.1, r.2)) := by
  obtain ⟨a1, a2, a3, a4, a5⟩ := entOk_small h
  have E : entL e ++ t = Lib.uvarint e.proc.toNat ++ (Lib.uvarint e.seq.toNat ++ (Lib.uvarint (Lib.zigzag e.resp) ++ t)) := by
    unfold entL
    simp only [List.append_assoc]
  have d1 := dec62_uvarint e.proc.toNat (Lib.uvarint e.seq.toNat ++ (Lib.uvarint (Lib.zigzag e.resp) ++ t)) a1
  have d2 := dec62_uvarint e.seq.toNat (Lib.uvarint (Lib.zigzag e.resp) ++ t) a2
  have d3 := dec64_uvarint (Lib.zigzag e.resp) t (zig_lt a3)
  have e1 : (entL e ++ t).drop (Lib.uvarint e.proc.toNat).length = Lib.uvarint e.seq.toNat ++ (Lib.uvarint (Lib.zigzag e.resp) ++ t) := by rw [E, List.drop_left]
  have e2 : (entL e ++ t).drop ((Lib.uvarint e.proc.toNat).length + (Lib.uvarint e.seq.toNat).length) = Lib.uvarint (Lib.zigzag e.resp) ++ t := by rw [← List.drop_drop, e1, List.drop_left]
  have e3 : (entL e ++ t).drop ((Lib.uvarint e.proc.toNat).length + (Lib.uvarint e.seq.toNat).length + (Lib.uvarint (Lib.zigzag e.resp)).length) = t := by rw [← List.drop_drop, e2, List.drop_left]
  rw [← E] at d1
  have n1 := uv_ne e.proc.toNat
  have n2 := uv_ne e.seq.toNat
  have n3 := uv_ne (Lib.zigzag e.resp)
  rw [readE]
  simp only [d1, e1, d2, e2, d3, e3]
  rw [if_neg (by rintro (h | h | h); exact n1 h; exact n2 h; exact n3 h), zag_zigzag _ a3.1 a3.2, a4, a5]

theorem readE_enc : ∀ (t : List Ent) (x : List UInt8), (∀ e ∈ t, EntOk e) → readE t.length (entsL t ++ x) = some (t, x)
  | [], x, _ => by simp [readE, entsL]
  | e :: t, x, h => by
    have E : entsL (e :: t) ++ x = entL e ++ (entsL t ++ x) := by
      unfold entsL
      rw [List.flatMap_cons, List.append_assoc]
    rw [E, List.length_cons, readE_step (h e (by simp)), readE_enc t x (fun a ha => h a (by simp [ha]))]
    rfl

theorem entL_pos (e : Ent) : 1 ≤ (entL e).length := by
  unfold entL
  have := uv_ne e.proc.toNat
  rw [List.length_append]
  omega

theorem entsL_len (t : List Ent) : t.length ≤ (entsL t).length := by
  induction t with
  | nil => simp
  | cons e t ih =>
    unfold entsL at ih ⊢
    rw [List.flatMap_cons, List.length_append, List.length_cons]
    have := entL_pos e
    omega

theorem tableL_enc {t : List Ent} (h : ∀ e ∈ t, EntOk e) (hl : t.length ≤ 1000000) : tableL (tabL t) = some t := by
  have d := dec62_uvarint t.length (entsL t) (by omega)
  have hr := readE_enc t [] h
  rw [List.append_nil] at hr
  have hn := uv_ne t.length
  unfold tableL tabL
  rw [d]
  simp only [List.drop_left]
  rw [if_neg, hr]
  have := entsL_len t
  rw [List.length_append]
  omega

theorem tabOk_few {t : List Ent} (h : TabOk t) : t.length ≤ 65 := by
  have hr : ∀ i, i < t.length → (i : Int) ≤ (t.getD i zeroE).proc := by
    intro i
    induction i with
    | zero =>
      intro hi
      exact (h 0 hi).1.1
    | succ i ih =>
      intro hi
      have h1 := ih (by omega)
      have h2 := (h (i + 1) hi).2 (by omega)
      rw [Nat.add_sub_cancel] at h2
      omega
  by_cases h0 : t.length = 0
  · omega
  · have h1 := hr (t.length - 1) (by omega)
    have h2 := (h (t.length - 1) (by omega)).1.2.1
    omega

theorem entL_len {e : Ent} (h : EntOk e) : (entL e).length ≤ 30 := by
  obtain ⟨a1, a2, a3, _⟩ := entOk_small h
  have h1 := Lib.uvarint_length64 (x := e.proc.toNat) (by omega)
  have h2 := Lib.uvarint_length64 (x := e.seq.toNat) (by omega)
  have h3 := Lib.uvarint_length64 (zig_lt a3)
  unfold entL
  rw [List.length_append, List.length_append]
  omega

theorem entsL_le : ∀ (t : List Ent), (∀ e ∈ t, EntOk e) → (entsL t).length ≤ 30 * t.length
  | [], _ => by simp [entsL]
  | e :: t, h => by
    have h1 := entL_len (h e (by simp))
    have h2 := entsL_le t (fun a ha => h a (by simp [ha]))
    unfold entsL at h2 ⊢
    rw [List.flatMap_cons, List.length_append, List.length_cons]
    omega

theorem numsL_le : ∀ (l : List Int), (∀ x ∈ l, I64 x) → (numsL l).length ≤ 10 * l.length
  | [], _ => by simp [numsL]
  | x :: t, h => by
    have h1 := Lib.uvarint_length64 (zig_lt (h x (by simp)))
    have h2 := numsL_le t (fun a ha => h a (by simp [ha]))
    rw [numsL, List.length_append, List.length_cons]
    omega

theorem encS_le {s : St} (h : MayS s) : (encS s).length ≤ 2000 := by
  obtain ⟨h1, h2, h3⟩ := may_small h
  have h4 := sealN_le h
  have u1 := Lib.uvarint_length64 (x := s.kind.toNat) (by omega)
  have u2 := Lib.uvarint_length64 (x := sealN s) (by omega)
  have u3 := Lib.uvarint_length64 (x := s.L.length) (by omega)
  have u4 := numsL_le s.L h3
  unfold encS
  rw [List.length_append, List.length_append, List.length_append]
  omega

theorem wholeN_le {s : Snap} (h : MayN s) : (wholeN s).length ≤ 5000 := by
  obtain ⟨_, h2, h3⟩ := h
  have u1 := encS_le h2
  have u2 := tabOk_few h3
  have u3 := entsL_le s.tab h3.mem
  have u4 := Lib.uvarint_length64 (x := (encS s.st).length) (by omega)
  have u5 := Lib.uvarint_length64 (x := s.tab.length) (by omega)
  unfold wholeN tabL
  rw [List.length_append, List.length_append, List.length_append]
  omega

theorem readN_whole {s : Snap} (h : MayN s) : readN (wholeN s) = (⟨0, s.st, s.tab⟩, 0) := by
  have hl := wholeN_le h
  obtain ⟨_, h2, h3⟩ := h
  have u1 := encS_le h2
  have d := dec62_uvarint (encS s.st).length (encS s.st ++ tabL s.tab) (by omega)
  have hn := uv_ne (encS s.st).length
  have ht := tableL_enc h3.mem (by have := tabOk_few h3; omega)
  have hs := decS_enc h2
  unfold readN wholeN
  rw [d]
  simp only [List.drop_left]
  rw [if_neg (by rw [List.length_append, List.length_append]; omega), ← List.drop_drop, List.drop_left, List.take_left, List.drop_left, hs, if_neg (by show ¬ ((0 : Int) = 3); decide), ht]

theorem maniL_mani {i : Nat} (hi : i < 4611686018427387904) {w : List UInt8} (hw : w.length < 4611686018427387904) : maniL (maniN i w) = (i, w.length, crcMore 0 w, 0) := by
  have hc := crc_lt w
  have d1 := dec62_uvarint 3 (Lib.uvarint i ++ (Lib.uvarint w.length ++ Lib.leBytes 4 (crcMore 0 w))) (by decide)
  have d2 := dec62_uvarint i (Lib.uvarint w.length ++ Lib.leBytes 4 (crcMore 0 w)) hi
  have d3 := dec62_uvarint w.length (Lib.leBytes 4 (crcMore 0 w)) hw
  have n1 := uv_ne 3
  have n2 := uv_ne i
  have n3 := uv_ne w.length
  have e0 : (maniN i w).drop 1 = Lib.uvarint 3 ++ (Lib.uvarint i ++ (Lib.uvarint w.length ++ Lib.leBytes 4 (crcMore 0 w))) := rfl
  have e1 : (maniN i w).drop (1 + (Lib.uvarint 3).length) = Lib.uvarint i ++ (Lib.uvarint w.length ++ Lib.leBytes 4 (crcMore 0 w)) := by rw [← List.drop_drop, e0, List.drop_left]
  have e2 : (maniN i w).drop (1 + (Lib.uvarint 3).length + (Lib.uvarint i).length) = Lib.uvarint w.length ++ Lib.leBytes 4 (crcMore 0 w) := by rw [← List.drop_drop, e1, List.drop_left]
  have e3 : (maniN i w).drop (1 + (Lib.uvarint 3).length + (Lib.uvarint i).length + (Lib.uvarint w.length).length) = Lib.leBytes 4 (crcMore 0 w) := by rw [← List.drop_drop, e2, List.drop_left]
  have h0 : ¬ ((maniN i w).length < 1 ∨ ((maniN i w).getD 0 0).toNat ≠ 115) := by
    unfold maniN
    simp
  unfold maniL
  rw [if_neg h0]
  simp only [e0, d1, e1, d2, e2, d3, e3]
  rw [if_neg (by rintro (h | h | h); exact n1 h; exact n2 h; exact n3 h), if_neg (by simp), if_neg (by rw [Lib.leBytes_length]; simp), Lib.leNat_leBytes 4 _ hc]

theorem maniN_len {i : Nat} (hi : i < 4611686018427387904) {w : List UInt8} (hw : w.length < 4611686018427387904) : (maniN i w).length ≤ 40 := by
  have u1 := Lib.uvarint_length64 (x := 3) (by decide)
  have u2 := Lib.uvarint_length64 (x := i) (by omega)
  have u3 := Lib.uvarint_length64 (x := w.length) (by omega)
  unfold maniN
  rw [List.length_cons, List.length_append, List.length_append, List.length_append, Lib.leBytes_length]
  omega

theorem partsN_len {s : Snap} (h : MayN s) : ∀ x ∈ partsN s, x.length ≤ 1048576 := by
  intro x hx
  have hl := wholeN_le h
  obtain ⟨⟨h0, h1⟩, _⟩ := h
  unfold partsN at hx
  rcases List.mem_cons.1 hx with hx | hx
  · rw [hx]
    have := maniN_len (i := s.idx.toNat) (by omega) (w := wholeN s) (by omega)
    omega
  · have := pieces_mem _ _ x (Nat.le_refl _) hx
    omega

theorem decN_enc {s : Snap} (h : MayN s) : decN (encN s) = (s, 0) := by
  have hl := wholeN_le h
  have hw := wholeF_frames (partsN s) (partsN_len h)
  have hi : s.idx.toNat < 4611686018427387904 := by have := h.1; omega
  have hin : ((s.idx.toNat : Nat) : Int) = s.idx := by have := h.1; omega
  have hm := maniL_mani hi (w := wholeN s) (by omega)
  have hf := pieces_flat _ (wholeN s) (Nat.le_refl _)
  have hc := pieces_cutOk _ (wholeN s) (Nat.le_refl _)
  have hr := readN_whole h
  unfold decN encN
  rw [hw, if_neg (by simp)]
  show partsD (maniN s.idx.toNat (wholeN s) :: pieces (wholeN s)) = _
  unfold partsD
  simp only [hm, hf]
  rw [if_neg (by simp), if_neg (by simp), if_neg (by simpa using hc), if_neg (by simp), hr, if_neg (by simp)]
  simp only [hin]
  rw [if_pos h]

theorem readE_sound : ∀ (n : Nat) (b : List UInt8) (t : List Ent) (x : List UInt8), readE n b = some (t, x) → t.length = n ∧ b = entsL t ++ x
  | 0, b, t, x, h => by
    simp only [readE, Option.some.injEq, Prod.mk.injEq] at h
    obtain ⟨rfl, rfl⟩ := h
    exact ⟨rfl, rfl⟩
  | n + 1, b, t, x, h => by
    rw [readE] at h
    split at h
    · cases h
    · rename_i hne
      have n1 : (dec62 b).2 ≠ 0 := fun e => hne (.inl e)
      have n2 : (dec62 (b.drop (dec62 b).2)).2 ≠ 0 := fun e => hne (.inr (.inl e))
      have n3 : (dec64 (b.drop ((dec62 b).2 + (dec62 (b.drop (dec62 b).2)).2))).2 ≠ 0 := fun e => hne (.inr (.inr e))
      rw [Option.map_eq_some_iff] at h
      obtain ⟨⟨t', x'⟩, hr, he⟩ := h
      simp only [Prod.mk.injEq] at he
      obtain ⟨rfl, rfl⟩ := he
      obtain ⟨i1, i2⟩ := readE_sound n _ t' x' hr
      refine ⟨by rw [List.length_cons, i1], ?_⟩
      have t1 := dec62_take n1
      have t2 := dec62_take n2
      have t3 := dec64_take n3
      have E : entsL (⟨(dec62 b).1, (dec62 (b.drop (dec62 b).2)).1, zag (dec64 (b.drop ((dec62 b).2 + (dec62 (b.drop (dec62 b).2)).2))).1⟩ :: t') ++ x' = Lib.uvarint (dec62 b).1 ++ (Lib.uvarint (dec62 (b.drop (dec62 b).2)).1 ++ (Lib.uvarint (dec64 (b.drop ((dec62 b).2 + (dec62 (b.drop (dec62 b).2)).2))).1 ++ (entsL t' ++ x'))) := by
        unfold entsL
        rw [List.flatMap_cons]
        unfold entL
        simp only [Int.toNat_natCast, zigzag_zag, List.append_assoc]
      have g3 : Lib.uvarint (dec64 (b.drop ((dec62 b).2 + (dec62 (b.drop (dec62 b).2)).2))).1 ++ (entsL t' ++ x') = b.drop ((dec62 b).2 + (dec62 (b.drop (dec62 b).2)).2) := by
        rw [← i2, t3]
        exact take_drop_app _ _ _
      have g2 : Lib.uvarint (dec62 (b.drop (dec62 b).2)).1 ++ b.drop ((dec62 b).2 + (dec62 (b.drop (dec62 b).2)).2) = b.drop (dec62 b).2 := by
        rw [t2]
        exact take_drop_app _ _ _
      rw [E, g3, g2, t1, List.take_append_drop]

theorem tableL_sound {b : List UInt8} {t : List Ent} (h : tableL b = some t) : tabL t = b := by
  unfold tableL at h
  split at h
  · cases h
  · rename_i hne
    have n1 : (dec62 b).2 ≠ 0 := fun e => hne (.inl e)
    cases hr : readE (dec62 b).1 (b.drop (dec62 b).2) with
    | none => rw [hr] at h; cases h
    | some p =>
      obtain ⟨t', x⟩ := p
      rw [hr] at h
      cases x with
      | cons c x => cases h
      | nil =>
        simp only [Option.some.injEq] at h
        subst h
        obtain ⟨i1, i2⟩ := readE_sound _ _ _ _ hr
        rw [List.append_nil] at i2
        unfold tabL
        rw [i1, ← i2, dec62_take n1, List.take_append_drop]

theorem readN_sound {w : List UInt8} (h : (readN w).2 = 0) : wholeN ⟨0, (readN w).1.st, (readN w).1.tab⟩ = w := by
  unfold readN at h ⊢
  split at h
  · exact absurd h (by decide)
  · rename_i hne
    rw [if_neg hne]
    have n1 : (dec62 w).2 ≠ 0 := fun e => hne (.inl e)
    have n2 : (dec62 w).2 + (dec62 w).1 ≤ w.length := by omega
    split at h
    · exact absurd h (by decide)
    · rename_i h3
      rw [if_neg h3]
      cases ht : tableL (w.drop ((dec62 w).2 + (dec62 w).1)) with
      | none => rw [ht] at h; exact absurd h (by show ¬ ((3 : Int) = 0); decide)
      | some t =>
        rw [ht] at h
        have hs := decS_sound h
        have htl := tableL_sound ht
        show wholeN ⟨0, (decS ((w.drop (dec62 w).2).take (dec62 w).1)).1, t⟩ = w
        unfold wholeN
        rw [hs.2, htl, List.length_take, List.length_drop, Nat.min_eq_left (by omega), dec62_take n1, ← List.drop_drop, List.take_append_drop, List.take_append_drop]

theorem maniL_sound {d : List UInt8} (h : (maniL d).2.2.2 = 0) {w : List UInt8} (hl : w.length = (maniL d).2.1) (hc : crcMore 0 w = (maniL d).2.2.1) : d = maniN (maniL d).1 w ∧ (maniL d).1 < 4611686018427387904 := by
  unfold maniL at h hl hc ⊢
  split at h
  · exact absurd h (by decide)
  · rename_i h0
    rw [if_neg h0] at hl hc ⊢
    simp only at h hl hc ⊢
    split at h
    · exact absurd h (by decide)
    · rename_i h1
      rw [if_neg h1] at hl hc ⊢
      split at h
      · exact absurd h (by decide)
      · rename_i h2
        rw [if_neg h2] at hl hc ⊢
        split at h
        · exact absurd h (by decide)
        · rename_i h3
          rw [if_neg h3] at hl hc ⊢
          simp only at hl hc ⊢
          have n1 : (dec62 (d.drop 1)).2 ≠ 0 := fun e => h1 (.inl e)
          have n2 : (dec62 (d.drop (1 + (dec62 (d.drop 1)).2))).2 ≠ 0 := fun e => h1 (.inr (.inl e))
          have n3 : (dec62 (d.drop (1 + (dec62 (d.drop 1)).2 + (dec62 (d.drop (1 + (dec62 (d.drop 1)).2))).2))).2 ≠ 0 := fun e => h1 (.inr (.inr e))
          have hv : (dec62 (d.drop 1)).1 = 3 := Decidable.not_not.1 h2
          have h4 : (d.drop (1 + (dec62 (d.drop 1)).2 + (dec62 (d.drop (1 + (dec62 (d.drop 1)).2))).2 + (dec62 (d.drop (1 + (dec62 (d.drop 1)).2 + (dec62 (d.drop (1 + (dec62 (d.drop 1)).2))).2))).2)).length = 4 := Decidable.not_not.1 h3
          have t1 := dec62_take n1
          have t2 := dec62_take n2
          have t3 := dec62_take n3
          have hlb := leBytes_leNat (d.drop (1 + (dec62 (d.drop 1)).2 + (dec62 (d.drop (1 + (dec62 (d.drop 1)).2))).2 + (dec62 (d.drop (1 + (dec62 (d.drop 1)).2 + (dec62 (d.drop (1 + (dec62 (d.drop 1)).2))).2))).2))
          rw [h4] at hlb
          have hfst : (dec62 (d.drop (1 + (dec62 (d.drop 1)).2))).1 < 4611686018427387904 := by
            rcases dec62_cases (d.drop (1 + (dec62 (d.drop 1)).2)) with e | e
            · rw [e]; decide
            · exact e.1
          refine ⟨?_, hfst⟩
          unfold maniN
          have g3 : Lib.uvarint w.length ++ Lib.leBytes 4 (crcMore 0 w) = d.drop (1 + (dec62 (d.drop 1)).2 + (dec62 (d.drop (1 + (dec62 (d.drop 1)).2))).2) := by
            rw [hc, hlb, hl, t3]
            exact take_drop_app _ _ _
          have g2 : Lib.uvarint (dec62 (d.drop (1 + (dec62 (d.drop 1)).2))).1 ++ d.drop (1 + (dec62 (d.drop 1)).2 + (dec62 (d.drop (1 + (dec62 (d.drop 1)).2))).2) = d.drop (1 + (dec62 (d.drop 1)).2) := by
            rw [t2]
            exact take_drop_app _ _ _
          have g1 : Lib.uvarint 3 ++ d.drop (1 + (dec62 (d.drop 1)).2) = d.drop 1 := by
            rw [← hv, t1]
            exact take_drop_app _ _ _
          rw [g3, g2, g1]
          have h00 : (d.getD 0 0).toNat = 115 := Decidable.not_not.1 (fun e => h0 (.inr e))
          have h01 : ¬ d.length < 1 := fun e => h0 (.inl e)
          cases d with
          | nil => exact absurd (by decide) h01
          | cons c r =>
            have : c = 115 := by
              apply UInt8.toNat_inj.1
              simpa using h00
            rw [this]
            rfl

theorem decN_sound {b : List UInt8} (h : (decN b).2 = 0) : MayN (decN b).1 ∧ encN (decN b).1 = b := by
  unfold decN at h ⊢
  by_cases hw : (wholeF b).2.2 = 0
  case neg =>
    rw [if_pos hw] at h
    exact absurd h (by show ((wholeF b).2.2 : Int) ≠ 0; omega)
  rw [if_neg (Decidable.not_not.2 hw)] at h ⊢
  obtain ⟨hb, hlen⟩ := wholeF_all _ b (Nat.le_refl _) hw
  generalize (wholeF b).1 = L at *
  unfold partsD at h ⊢
  cases L with
  | nil => exact absurd h (by decide)
  | cons d P =>
    simp only at h ⊢
    split at h
    · rename_i e; exact absurd h e
    rename_i h1
    rw [if_neg h1]
    split at h
    · exact absurd h (by decide)
    rename_i h2
    rw [if_neg h2]
    split at h
    · exact absurd h (by decide)
    rename_i h3
    rw [if_neg h3]
    split at h
    · exact absurd h (by decide)
    rename_i h4
    rw [if_neg h4]
    split at h
    · rename_i e; exact absurd h e
    rename_i h5
    rw [if_neg h5]
    split at h
    · rename_i h6
      rw [if_pos h6]
      have hm := maniL_sound (Decidable.not_not.1 h1) (Decidable.not_not.1 h2) (Decidable.not_not.1 h4)
      have hr := readN_sound (Decidable.not_not.1 h5)
      have hp := cutOk_pieces P (Decidable.not_not.1 h3)
      refine ⟨h6, ?_⟩
      have hwn : wholeN ⟨((maniL d).1 : Nat), (readN P.flatten).1.st, (readN P.flatten).1.tab⟩ = P.flatten := hr
      unfold encN partsN
      rw [hwn, hp]
      show framesOf (maniN (((maniL d).1 : Nat) : Int).toNat P.flatten :: P) = b
      rw [Int.toNat_natCast, ← hm.1]
      exact hb
    · exact absurd h (by decide)

/-- Of two snapshots neither's bytes begin the other's. -/
theorem encN_inj {s s' : Snap} (h : MayN s) (h' : MayN s') {t : List UInt8} (he : encN s' = encN s ++ t) : s' = s ∧ t = [] := by
  have hl := wholeN_le h
  have hl' := wholeN_le h'
  have hi : s.idx.toNat < 4611686018427387904 := by have := h.1; omega
  have hi' : s'.idx.toNat < 4611686018427387904 := by have := h'.1; omega
  have hm := maniL_mani hi (w := wholeN s) (by omega)
  have hm' := maniL_mani hi' (w := wholeN s') (by omega)
  have e1 : encN s = frameOf (maniN s.idx.toNat (wholeN s)) ++ framesOf (pieces (wholeN s)) := framesOf_cons _ _
  have e2 : encN s' = frameOf (maniN s'.idx.toNat (wholeN s')) ++ framesOf (pieces (wholeN s')) := framesOf_cons _ _
  have f1 := decF_frame (maniN s.idx.toNat (wholeN s)) (framesOf (pieces (wholeN s)) ++ t) (by have := maniN_len hi (w := wholeN s) (by omega); omega)
  have f2 := decF_frame (maniN s'.idx.toNat (wholeN s')) (framesOf (pieces (wholeN s'))) (by have := maniN_len hi' (w := wholeN s') (by omega); omega)
  rw [← List.append_assoc, ← e1, ← he, e2, f2] at f1
  simp only [Prod.mk.injEq] at f1
  have em := f1.1
  have el := f1.2.1
  rw [em, hm] at hm'
  simp only [Prod.mk.injEq] at hm'
  have hwl := hm'.2.1
  have hp := pieces_len _ (wholeN s) (wholeN s') (Nat.le_refl _) hwl
  have hlen := congrArg List.length he
  rw [e1, e2] at hlen
  simp only [List.length_append] at hlen
  have ht : t = [] := List.eq_nil_of_length_eq_zero (by omega)
  subst ht
  rw [List.append_nil] at he
  have d1 := decN_enc h
  rw [← he, decN_enc h'] at d1
  simp only [Prod.mk.injEq, and_true] at d1
  exact ⟨d1, rfl⟩

theorem decN_cut {s : Snap} (h : MayN s) {c : Nat} (hc : c < (encN s).length) : (decN ((encN s).take c)).2 ≠ 0 := by
  intro e
  obtain ⟨h1, h2⟩ := decN_sound e
  have h3 : encN s = encN (decN ((encN s).take c)).1 ++ (encN s).drop c := by rw [h2, List.take_append_drop]
  have h4 := congrArg List.length (encN_inj h1 h h3).2
  rw [List.length_drop, List.length_nil] at h4
  omega

theorem decN_more {s : Snap} (h : MayN s) {t : List UInt8} (ht : t ≠ []) : (decN (encN s ++ t)).2 ≠ 0 := by
  intro e
  obtain ⟨h1, h2⟩ := decN_sound e
  exact ht (encN_inj h h1 h2).2

end Go.Proofs.Ytanmjihiceibbaa

/- Notes in a table, over plain lists, and what follows. -/
namespace Go.Proofs.Ytanmjihiceibbaa

/-- The entries but those of e's process, and e, ahead of the first one that has a greater process. -/
def noteG (e : Ent) : Bool → List Ent → List Ent
  | d, [] => if d = true then [] else [e]
  | d, x :: t => (if d = false ∧ e.proc < x.proc then [e] else []) ++ ((if x.proc = e.proc then [] else [x]) ++ noteG e (d || decide (e.proc < x.proc)) t)

def noteL (t : List Ent) (e : Ent) : List Ent := noteG e false t

theorem noteG_done (e : Ent) : ∀ t : List Ent, noteG e true t = t.filter (fun x => decide (x.proc ≠ e.proc))
  | [] => rfl
  | x :: t => by
    rw [noteG, if_neg (by simp), Bool.true_or, noteG_done e t, List.filter_cons]
    by_cases h : x.proc = e.proc <;> simp [h]

theorem noteG_mem (e : Ent) : ∀ (t : List Ent) (d : Bool) (x : Ent), x ∈ noteG e d t ↔ (d = false ∧ x = e) ∨ (x ∈ t ∧ x.proc ≠ e.proc)
  | [], d, x => by cases d <;> simp [noteG]
  | y :: t, d, x => by
    rw [noteG, List.mem_append, List.mem_append, noteG_mem e t, List.mem_cons]
    by_cases h1 : d = false ∧ e.proc < y.proc
    · have hy : y.proc ≠ e.proc := by omega
      rw [if_pos h1, if_neg hy, h1.1]
      have h2 : decide (e.proc < y.proc) = true := decide_eq_true h1.2
      rw [h2]
      simp only [List.mem_singleton, Bool.or_true, Bool.true_eq_false, false_and, false_or, true_and]
      constructor
      · rintro (h | h | ⟨h, h'⟩)
        · exact .inl h
        · exact .inr ⟨.inl h, by rw [h]; exact hy⟩
        · exact .inr ⟨.inr h, h'⟩
      · rintro (h | ⟨h | h, h'⟩)
        · exact .inl h
        · exact .inr (.inl h)
        · exact .inr (.inr ⟨h, h'⟩)
    · rw [if_neg h1]
      have hd : (d || decide (e.proc < y.proc)) = false ↔ d = false := by
        constructor
        · intro h
          cases d
          · rfl
          · exact h
        · intro h
          rw [h, Bool.false_or]
          exact decide_eq_false (fun h2 => h1 ⟨h, h2⟩)
      rw [hd]
      by_cases hy : y.proc = e.proc
      · rw [if_pos hy]
        simp only [List.not_mem_nil, false_or]
        constructor
        · rintro (h | ⟨h, h'⟩)
          · exact .inl h
          · exact .inr ⟨.inr h, h'⟩
        · rintro (h | ⟨h | h, h'⟩)
          · exact .inl h
          · exact absurd (by rw [h]; exact hy) h'
          · exact .inr ⟨h, h'⟩
      · rw [if_neg hy]
        simp only [List.not_mem_nil, false_or, List.mem_singleton]
        constructor
        · rintro (h | h | ⟨h, h'⟩)
          · exact .inr ⟨.inl h, by rw [h]; exact hy⟩
          · exact .inl h
          · exact .inr ⟨.inr h, h'⟩
        · rintro (h | ⟨h | h, h'⟩)
          · exact .inr (.inl h)
          · exact .inl h
          · exact .inr (.inr ⟨h, h'⟩)

theorem noteL_mem (t : List Ent) (e x : Ent) : x ∈ noteL t e ↔ x = e ∨ (x ∈ t ∧ x.proc ≠ e.proc) := by
  unfold noteL
  rw [noteG_mem]
  simp

theorem noteG_len (e : Ent) : ∀ (t : List Ent) (d : Bool), (noteG e d t).length ≤ t.length + (if d = true then 0 else 1)
  | [], d => by cases d <;> simp [noteG]
  | y :: t, d => by
    have ih := noteG_len e t (d || decide (e.proc < y.proc))
    rw [noteG, List.length_append, List.length_append, List.length_cons]
    by_cases h1 : d = false ∧ e.proc < y.proc
    · have h2 : decide (e.proc < y.proc) = true := decide_eq_true h1.2
      rw [h1.1, h2] at ih ⊢
      rw [if_pos ⟨rfl, h1.2⟩]
      simp only [Bool.or_true, if_true] at ih
      split <;> simp <;> omega
    · rw [if_neg h1]
      have hd : (if (d || decide (e.proc < y.proc)) = true then (0 : Nat) else 1) ≤ (if d = true then 0 else 1) := by
        cases d
        · have : decide (e.proc < y.proc) = false := decide_eq_false (fun h => h1 ⟨rfl, h⟩)
          rw [this]
          exact Nat.le_refl _
        · simp
      split <;> simp <;> omega

theorem noteL_len (t : List Ent) (e : Ent) : (noteL t e).length ≤ t.length + 1 := noteG_len e t false

theorem noteG_one (e : Ent) : ∀ (t : List Ent) (d : Bool), (noteG e d t).filter (fun x => decide (x.proc = e.proc)) = if d = true then [] else [e]
  | [], d => by cases d <;> simp [noteG]
  | y :: t, d => by
    rw [noteG, List.filter_append, List.filter_append, noteG_one e t]
    have e2 : (if y.proc = e.proc then [] else [y]).filter (fun x => decide (x.proc = e.proc)) = [] := by
      split
      · rfl
      · rename_i h
        simp [h]
    rw [e2, List.nil_append]
    by_cases h1 : d = false ∧ e.proc < y.proc
    · have h2 : decide (e.proc < y.proc) = true := decide_eq_true h1.2
      rw [if_pos h1, h1.1, h2]
      simp
    · rw [if_neg h1]
      cases d
      · have : decide (e.proc < y.proc) = false := decide_eq_false (fun h => h1 ⟨rfl, h⟩)
        rw [this]
        rfl
      · simp

theorem noteL_one (t : List Ent) (e : Ent) : (noteL t e).filter (fun x => decide (x.proc = e.proc)) = [e] := noteG_one e t false

/-- The processes rise. -/
def Rises (t : List Ent) : Prop := t.Pairwise (fun a b => a.proc < b.proc)

theorem noteL_rises {e : Ent} : ∀ {t : List Ent}, Rises t → Rises (noteL t e)
  | [], _ => by simp [noteL, noteG, Rises]
  | y :: t, h => by
    unfold Rises at h
    rw [List.pairwise_cons] at h
    obtain ⟨h1, h2⟩ := h
    unfold noteL Rises
    rw [noteG, Bool.false_or]
    by_cases hlt : e.proc < y.proc
    · have hy : y.proc ≠ e.proc := by omega
      rw [if_pos ⟨rfl, hlt⟩, if_neg hy, decide_eq_true hlt, noteG_done]
      show List.Pairwise _ (e :: y :: _)
      rw [List.pairwise_cons, List.pairwise_cons]
      refine ⟨fun a ha => ?_, fun a ha => h1 a ((List.mem_filter.1 ha).1), h2.filter _⟩
      rcases List.mem_cons.1 ha with ha | ha
      · rw [ha]; exact hlt
      · have := h1 a ((List.mem_filter.1 ha).1)
        omega
    · rw [if_neg (fun h => hlt h.2), decide_eq_false hlt, List.nil_append]
      have ih : Rises (noteL t e) := noteL_rises h2
      by_cases hy : y.proc = e.proc
      · rw [if_pos hy, List.nil_append]
        exact ih
      · rw [if_neg hy]
        show List.Pairwise _ (y :: noteL t e)
        rw [List.pairwise_cons]
        refine ⟨fun a ha => ?_, ih⟩
        rcases (noteL_mem t e a).1 ha with ha | ⟨ha, _⟩
        · rw [ha]; omega
        · exact h1 a ha

/-- Two lists whose processes rise, of the same entries, are the same. -/
theorem rises_same : ∀ {a b : List Ent}, Rises a → Rises b → (∀ x, x ∈ a ↔ x ∈ b) → a = b
  | [], [], _, _, _ => rfl
  | [], y :: b, _, _, h => by
    have := (h y).2 (by simp)
    simp at this
  | x :: a, [], _, _, h => by
    have := (h x).1 (by simp)
    simp at this
  | x :: a, y :: b, ha, hb, h => by
    unfold Rises at ha hb
    rw [List.pairwise_cons] at ha hb
    have hxy : x = y := by
      rcases List.mem_cons.1 ((h x).1 (by simp)) with e | hx
      · exact e
      · rcases List.mem_cons.1 ((h y).2 (by simp)) with e | hy
        · exact e.symm
        · have h1 := hb.1 x hx
          have h2 := ha.1 y hy
          omega
    subst hxy
    rw [rises_same (a := a) (b := b) ha.2 hb.2 (fun z => ?_)]
    constructor
    · intro hz
      rcases List.mem_cons.1 ((h z).1 (by simp [hz])) with e | hz'
      · have := ha.1 z hz
        rw [e] at this
        omega
      · exact hz'
    · intro hz
      rcases List.mem_cons.1 ((h z).2 (by simp [hz])) with e | hz'
      · have := hb.1 z hz
        rw [e] at this
        omega
      · exact hz'

theorem TabTo.lt {t : List Ent} {k : Nat} (h : TabTo t k) : ∀ j i, i < j → j < k → (t.getD i zeroE).proc < (t.getD j zeroE).proc
  | 0, i, hi, _ => absurd hi (Nat.not_lt_zero _)
  | j + 1, i, hi, hj => by
    have h1 := (h (j + 1) hj).2 (by omega)
    rw [Nat.add_sub_cancel] at h1
    by_cases e : i = j
    · rw [e]; exact h1
    · have h2 := h.lt j i (by omega) (by omega)
      omega

theorem TabOk.rises {t : List Ent} (h : TabOk t) : Rises t := by
  unfold Rises
  rw [List.pairwise_iff_getElem]
  intro i j hi hj hij
  have := h.lt j i hij hj
  simpa [List.getD, hi, hj] using this

theorem noteL_swap {t : List Ent} (h : Rises t) {r q : Ent} (hrq : r.proc ≠ q.proc) : noteL (noteL t r) q = noteL (noteL t q) r := by
  refine rises_same (noteL_rises (noteL_rises h)) (noteL_rises (noteL_rises h)) (fun x => ?_)
  rw [noteL_mem, noteL_mem, noteL_mem, noteL_mem]
  constructor
  · rintro (h | ⟨h | ⟨h1, h2⟩, h3⟩)
    · exact .inr ⟨.inl h, by rw [h]; exact fun e => hrq e.symm⟩
    · exact .inl h
    · exact .inr ⟨.inr ⟨h1, h3⟩, h2⟩
  · rintro (h | ⟨h | ⟨h1, h2⟩, h3⟩)
    · exact .inr ⟨.inl h, by rw [h]; exact hrq⟩
    · exact .inl h
    · exact .inr ⟨.inr ⟨h1, h3⟩, h2⟩

end Go.Proofs.Ytanmjihiceibbaa

/- Mathematics for the landed snapshot: notes by a cut, tables without a test of their length, pieces one by one, tables whose processes rise. -/
namespace Go.Proofs.Ytanmjihiceibbaa

/-- The first place whose process is greater, or the end. -/
def firstG (p : Int) : List Ent → Nat
  | [] => 0
  | x :: t => if p < x.proc then 0 else firstG p t + 1

theorem firstG_le (p : Int) : ∀ t, firstG p t ≤ t.length
  | [] => Nat.le_refl _
  | x :: t => by
    rw [firstG]
    split
    · exact Nat.zero_le _
    · have := firstG_le p t
      rw [List.length_cons]
      omega

/-- The entries but those of a process. -/
def butP (p : Int) (t : List Ent) : List Ent := t.filter (fun x => decide (x.proc ≠ p))

theorem butP_len (p : Int) (t : List Ent) : (butP p t).length ≤ t.length := List.length_filter_le _ _

theorem noteL_ins (e : Ent) : ∀ t : List Ent, noteL t e = (butP e.proc t).take (firstG e.proc (butP e.proc t)) ++ (e :: (butP e.proc t).drop (firstG e.proc (butP e.proc t)))
  | [] => rfl
  | x :: t => by
    have ih := noteL_ins e t
    unfold noteL at ih ⊢
    unfold butP at ih ⊢
    have hf : (x :: t).filter (fun y => decide (y.proc ≠ e.proc)) = if x.proc = e.proc then t.filter (fun y => decide (y.proc ≠ e.proc)) else x :: t.filter (fun y => decide (y.proc ≠ e.proc)) := by
      rw [List.filter_cons]
      by_cases h : x.proc = e.proc <;> simp [h]
    rw [noteG, hf]
    by_cases h1 : x.proc = e.proc
    · have h2 : ¬ e.proc < x.proc := by omega
      simp only [h1, if_true]
      rw [if_neg (by simp), decide_eq_false (by omega), Bool.false_or, ih]
      rfl
    · simp only [if_neg h1]
      by_cases h2 : e.proc < x.proc
      · rw [if_pos (by simp [h2]), decide_eq_true h2, Bool.or_true, noteG_done, firstG, if_pos h2]
        rfl
      · rw [if_neg (fun h => h2 h.2), decide_eq_false h2, Bool.or_false, firstG, if_neg h2, ih]
        rfl

theorem firstG_all {p : Int} : ∀ {t : List Ent}, (∀ j, j < t.length → ¬ p < (t.getD j zeroE).proc) → firstG p t = t.length
  | [], _ => rfl
  | x :: t, h => by
    have h0 := h 0 (by simp)
    rw [show (x :: t).getD 0 zeroE = x from rfl] at h0
    rw [firstG, if_neg h0, firstG_all (fun j hj => h (j + 1) (by simpa using hj))]
    rfl

theorem firstG_at {p : Int} : ∀ {t : List Ent} {i : Nat}, i < t.length → (∀ j, j < i → ¬ p < (t.getD j zeroE).proc) → p < (t.getD i zeroE).proc → firstG p t = i
  | [], i, hi, _, _ => absurd hi (Nat.not_lt_zero _)
  | x :: t, 0, _, _, h => by
    rw [show (x :: t).getD 0 zeroE = x from rfl] at h
    rw [firstG, if_pos h]
  | x :: t, i + 1, hi, hb, h => by
    have h0 := hb 0 (by omega)
    rw [show (x :: t).getD 0 zeroE = x from rfl] at h0
    rw [firstG, if_neg h0, firstG_at (i := i) (by simpa using hi) (fun j hj => hb (j + 1) (by omega)) h]

theorem readE_few {n : Nat} {b : List UInt8} {r : List Ent × List UInt8} (h : readE n b = some r) : n ≤ b.length := by
  obtain ⟨t, x⟩ := r
  obtain ⟨h1, h2⟩ := readE_sound n b t x h
  have := entsL_len t
  rw [h2, List.length_append]
  omega

theorem tableL_plain {b : List UInt8} (h0 : (dec62 b).2 ≠ 0) : tableL b = (readE (dec62 b).1 (b.drop (dec62 b).2)).bind (fun r => if r.2 = [] then some r.1 else none) := by
  unfold tableL
  by_cases h1 : b.length < (dec62 b).1
  · rw [if_pos (.inr h1)]
    cases h : readE (dec62 b).1 (b.drop (dec62 b).2) with
    | none => rfl
    | some r =>
      have := readE_few h
      rw [List.length_drop] at this
      omega
  rw [if_neg (by omega)]
  cases readE (dec62 b).1 (b.drop (dec62 b).2) with
  | none => rfl
  | some p =>
    obtain ⟨t, x⟩ := p
    cases x <;> rfl

theorem pieces_drop {l : List UInt8} {a : Nat} (h : a < l.length) : pieces (l.drop a) = (l.drop a).take 64 :: pieces (l.drop (a + 64)) := by
  rw [pieces_cons (fun e => by
    have := congrArg List.length e
    rw [List.length_drop, List.length_nil] at this
    omega), List.drop_drop]

theorem cutOk_iff (P : List (List UInt8)) : CutOk P ↔ P = pieces P.flatten :=
  ⟨fun h => (cutOk_pieces P h).symm, fun h => by rw [h]; exact pieces_cutOk _ _ (Nat.le_refl _)⟩

/-- An entry is within its bounds if a record of its numbers fits. -/
theorem entOk_rec (e : Ent) : FitsR ⟨0, e.proc, e.seq, ⟨0, 0, 0⟩, e.resp⟩ ↔ EntOk e := by
  unfold FitsR EntOk FitsO
  simp only
  omega

/-- What the process of the next entry may be at least, behind the first k. -/
def leastP (t : List Ent) : Nat → Int
  | 0 => 0
  | k + 1 => (t.getD k zeroE).proc + 1

theorem tabTo_least {t : List Ent} {k : Nat} : TabTo t (k + 1) ↔ TabTo t k ∧ EntOk (t.getD k zeroE) ∧ leastP t k ≤ (t.getD k zeroE).proc := by
  rw [TabTo.next]
  constructor
  · rintro ⟨h1, h2, h3⟩
    refine ⟨h1, h2, ?_⟩
    cases k with
    | zero => exact h2.1
    | succ k =>
      have := h3 (by omega)
      rw [Nat.add_sub_cancel] at this
      rw [leastP]
      omega
  · rintro ⟨h1, h2, h3⟩
    refine ⟨h1, h2, fun h => ?_⟩
    cases k with
    | zero => omega
    | succ k =>
      rw [leastP] at h3
      rw [Nat.add_sub_cancel]
      omega

theorem mayN_zero (i : Int) (t : List Ent) : ¬ MayN ⟨i, zeroS, t⟩ := by
  rintro ⟨-, h, -⟩
  revert h
  show ¬ MayS zeroS
  decide

/-- So many numbers of bytes, and what is left. -/
def getsL : Nat → List UInt8 → Option (List Nat × List UInt8)
  | 0, b => some ([], b)
  | n + 1, b => if (dec62 b).2 = 0 then none else (getsL n (b.drop (dec62 b).2)).map (fun r => ((dec62 b).1 :: r.1, r.2))

end Go.Proofs.Ytanmjihiceibbaa

/- copy and clear over elements of more than one cell. -/
namespace Go.Proofs.Ytanmjihiceibbaa

theorem run_copy_many {P : Program} (w : World) (dT sT ty elem : TypeId) (k : Nat) (b o dLen dCap : Nat) (a : Addr) (sLen sCap : Nat) (cs : List Value)
    (hu : P.underlying dT = some (.slice elem)) (hs : (P.info? elem).map (·.size) = some k) (hn : cs.length = Nat.min sLen dLen * k)
    (hsrc : ∀ j v, cs[j]? = some v → w.cell? (a.add j) = some v) (hc : ∀ j, j < cs.length → (w.cell? ⟨b, o + j, none⟩).isSome = true) (hf : ∀ j, j < cs.length → w.frozen? ⟨b, o + j, none⟩ = false) (h1 : ∀ v ∈ cs, v.oneCell' = true) :
    (Builtin.copy_ #[dT, sT] ty #[.slice (some ⟨b, o, none⟩) dLen dCap, .slice (some a) sLen sCap]).run P w = .ok (goInt (Nat.min sLen dLen)) (w.setCells b o cs) := by
  have hl := run_loadCells_list (P := P) w a cs hsrc
  have hst := run_storeCells_cells (P := P) b o cs 0 w (by simpa using hc) (by simpa using hf) h1
  cases hq : P.info? elem with
  | none => simp [hq] at hs
  | some i =>
    have hi : i.size = k := by simpa [hq] using hs
    rw [hn] at hl
    simp [Builtin.copy_, run_underlying hu, Builtin.lenOf, Builtin.firstCells, sizeOf, typeInfo, hq, hi, hl, hst]

/-- The zero cells of so many elements. -/
def zeros3 : Nat → List Value
  | 0 => []
  | n + 1 => .int .i64 0 :: .int .i64 0 :: .int .i64 0 :: zeros3 n

theorem zeros3_length : ∀ n, (zeros3 n).length = n * 3
  | 0 => rfl
  | n + 1 => by rw [zeros3, List.length_cons, List.length_cons, List.length_cons, zeros3_length n]; omega

theorem zeros3_mem : ∀ n, ∀ v ∈ zeros3 n, v = .int .i64 0
  | 0, v, h => by simp [zeros3] at h
  | n + 1, v, h => by
    rw [zeros3, List.mem_cons, List.mem_cons, List.mem_cons] at h
    rcases h with h | h | h | h
    · exact h
    · exact h
    · exact h
    · exact zeros3_mem n v h

theorem zeroCells3 (n : Nat) : (Builtin.zeroCells (Value.agg #[.int .i64 0, .int .i64 0, .int .i64 0]).cells n).toList = zeros3 n := by
  have hsz : (Value.agg #[.int .i64 0, .int .i64 0, .int .i64 0]).cells = #[.int .i64 0, .int .i64 0, .int .i64 0] := by rfl
  rw [hsz]
  apply List.ext_getElem?
  intro i
  by_cases h : i < n * 3
  · have h2 : i < (zeros3 n).length := by rw [zeros3_length]; exact h
    have h3 : (zeros3 n)[i]? = some (.int .i64 0) := by
      rw [List.getElem?_eq_getElem h2, zeros3_mem n _ (List.getElem_mem h2)]
    rw [h3]
    have hm : i % 3 = 0 ∨ i % 3 = 1 ∨ i % 3 = 2 := by omega
    simp only [Builtin.zeroCells, Array.getElem?_toList, Array.getElem?_map]
    have h4 : (Array.range (n * (#[Value.int .i64 0, .int .i64 0, .int .i64 0] : Array Value).size))[i]? = some i := by simp [h]
    rw [h4]
    have h5 : (#[Value.int .i64 0, .int .i64 0, .int .i64 0] : Array Value).size = 3 := rfl
    rw [h5]
    rcases hm with e | e | e <;> rw [Option.map_some, e] <;> rfl
  · rw [List.getElem?_eq_none (by simp [Builtin.zeroCells]; omega), List.getElem?_eq_none (by rw [zeros3_length]; omega)]

theorem run_clear_three {P : Program} (w : World) (t e ty : TypeId) (ht : P.underlying t = some (.slice e)) (hv : ∀ w, (zeroValue e).run P w = .ok (.agg #[.int .i64 0, .int .i64 0, .int .i64 0]) w) (b o n c : Nat) (hn : 0 < n)
    (hc : ∀ j, j < n * 3 → (w.cell? ⟨b, o + j, none⟩).isSome = true) (hf : ∀ j, j < n * 3 → w.frozen? ⟨b, o + j, none⟩ = false) :
    (Builtin.clear_ #[t] ty #[.slice (some ⟨b, o, none⟩) n c]).run P w = .ok (.tuple #[]) (w.setCells b o (zeros3 n)) := by
  have hst := run_storeCells_cells (P := P) b o (zeros3 n) 0 w (by rw [zeros3_length]; simpa using hc) (by rw [zeros3_length]; simpa using hf) (by intro v hv'; rw [zeros3_mem n v hv']; rfl)
  simp only [Nat.add_zero] at hst
  obtain ⟨m, rfl⟩ : ∃ m, n = m + 1 := ⟨n - 1, by omega⟩
  simp [Builtin.clear_, run_underlying ht, hv, zeroCells3, hst]

theorem run_clear_no {P : Program} (w : World) (t e ty : TypeId) (ht : P.underlying t = some (.slice e)) (a : Option Addr) (c : Nat) :
    (Builtin.clear_ #[t] ty #[.slice a 0 c]).run P w = .ok (.tuple #[]) w := by
  cases a <;> simp [Builtin.clear_, run_underlying ht]

end Go.Proofs.Ytanmjihiceibbaa

/- Entries held against each other, number by number. -/
namespace Go.Proofs.Ytanmjihiceibbaa
open Go.RowKit

/-- Two entries, number by number. -/
def eqEnt (r s : Ent) : Bool := r.proc == s.proc && r.seq == s.seq && r.resp == s.resp

theorem eql_ent (w : World) (r s : Ent) : (binOp .eql 48 (.agg #[.int .i64 r.proc, .int .i64 r.seq, .int .i64 r.resp]) (.agg #[.int .i64 s.proc, .int .i64 s.seq, .int .i64 s.resp])).run Try.prog w = .ok (.bool (eqEnt r s)) w := by
  have u3 := Try.underlying3
  have a3 := Try.isAgg3
  have z3 := Try.sizeOf3
  have hS : Try.prog.underlying 48 = some (.struct (Try.prog.fieldsOf 48)) := by kernel_rfl
  have hp : Try.prog.stoodInHeld 48 = false := by kernel_rfl
  unfold eqEnt
  rw [run_eql_struct, show (10000 : Nat) = 9999 + 1 from rfl, run_equalIn_agg w 9999 48 _ _ hS hp]
  simp only [Program.fieldsOf, Try.underlying48]
  go_simp
  repeat' split
  all_goals simp_all

theorem neq_ent (w : World) (r s : Ent) : (binOp .neq 48 (.agg #[.int .i64 r.proc, .int .i64 r.seq, .int .i64 r.resp]) (.agg #[.int .i64 s.proc, .int .i64 s.seq, .int .i64 s.resp])).run Try.prog w = .ok (.bool (!eqEnt r s)) w := by
  have u3 := Try.underlying3
  have a3 := Try.isAgg3
  have z3 := Try.sizeOf3
  have hS : Try.prog.underlying 48 = some (.struct (Try.prog.fieldsOf 48)) := by kernel_rfl
  have hp : Try.prog.stoodInHeld 48 = false := by kernel_rfl
  unfold eqEnt
  rw [run_neq_struct, show (10000 : Nat) = 9999 + 1 from rfl, run_equalIn_agg w 9999 48 _ _ hS hp]
  simp only [Program.fieldsOf, Try.underlying48]
  go_simp
  repeat' split
  all_goals simp_all

theorem guard_ent : Try.prog.eqGuardType Try.prog.depth 48 = false := by kernel_rfl

theorem eqEnt_iff (r s : Ent) : eqEnt r s = true ↔ r = s := by
  obtain ⟨i, p, q⟩ := r
  obtain ⟨i', p', q'⟩ := s
  simp [eqEnt]
  constructor
  · rintro ⟨⟨rfl, rfl⟩, rfl⟩
    simp
  · rintro ⟨rfl, rfl, rfl⟩
    simp

theorem eqEnt_self (r : Ent) : eqEnt r r = true := (eqEnt_iff r r).2 rfl

theorem eqEnt_not {r s : Ent} (h : r ≠ s) : eqEnt r s = false := by
  cases hq : eqEnt r s
  · rfl
  · exact absurd ((eqEnt_iff _ _).1 hq) h

end Go.Proofs.Ytanmjihiceibbaa

/- The library's slices.Equal, Clone, Delete, Insert over int, laid: their contracts hold of this program. -/
namespace Go.Proofs.Ytanmjihiceibbaa
open Go.RowKit Go.Shelf

def layE_ren : Go.Shelf.Ren := ⟨fun | 111 => 69 | n => n, fun | 28 => 22 | 3 => 3 | 4 => 4 | 0 => 0 | n => n, fun | n => n⟩

theorem layE : Go.Proofs.Lays.n111 Try.prog layE_ren := {
  mixed := by kernel_rfl
  f111 := Try.func69.trans (congrArg some (by kernel_rfl))
  t0 := Try.underlying0
  a0 := Try.isAgg0
  z0 := Try.sizeOf0
  v0 := Try.zeroValue0
  t3 := Try.underlying3
  a3 := Try.isAgg3
  z3 := Try.sizeOf3
  v3 := Try.zeroValue3
  t4 := Try.underlying4
  a4 := Try.isAgg4
  z4 := Try.sizeOf4
  v4 := Try.zeroValue4
  t28 := Try.underlying22
  a28 := Try.isAgg22
  z28 := Try.sizeOf22
  v28 := Try.zeroValue22 }

def layM15_ren : Go.Shelf.Ren := ⟨fun | 15 => 38 | n => n, fun | 22 => 22 | 3 => 3 | 4 => 4 | n => n, fun | n => n⟩

theorem layM15 : Go.Proofs.Lays2.n15 Try.prog layM15_ren := {
  mixed := by kernel_rfl
  f15 := Try.func38.trans (congrArg some (by kernel_rfl))
  t3 := Try.underlying3
  a3 := Try.isAgg3
  z3 := Try.sizeOf3
  v3 := Try.zeroValue3
  t4 := Try.underlying4
  a4 := Try.isAgg4
  z4 := Try.sizeOf4
  v4 := Try.zeroValue4
  t22 := Try.underlying22
  a22 := Try.isAgg22
  z22 := Try.sizeOf22
  v22 := Try.zeroValue22
  i3 := by kernel_rfl }

def layM23_ren : Go.Shelf.Ren := ⟨fun | 23 => 133 | n => n, fun | 22 => 22 | 3 => 3 | 4 => 4 | 0 => 0 | n => n, fun | n => n⟩

theorem layM23 : Go.Proofs.Lays2.n23 Try.prog layM23_ren := {
  mixed := by kernel_rfl
  f23 := Try.func133.trans (congrArg some (by kernel_rfl))
  t0 := Try.underlying0
  a0 := Try.isAgg0
  z0 := Try.sizeOf0
  v0 := Try.zeroValue0
  t3 := Try.underlying3
  a3 := Try.isAgg3
  z3 := Try.sizeOf3
  v3 := Try.zeroValue3
  t4 := Try.underlying4
  a4 := Try.isAgg4
  z4 := Try.sizeOf4
  v4 := Try.zeroValue4
  t22 := Try.underlying22
  a22 := Try.isAgg22
  z22 := Try.sizeOf22
  v22 := Try.zeroValue22
  i3 := by kernel_rfl }

def layM21_ren : Go.Shelf.Ren := ⟨fun | 21 => 135 | 27 => 137 | 28 => 138 | 35 => 139 | 39 => 140 | n => n, fun | 22 => 22 | 3 => 3 | 4 => 4 | 0 => 0 | n => n, fun | n => n⟩

theorem layM21 : Go.Proofs.Lays2.n21 Try.prog layM21_ren := {
  mixed := by kernel_rfl
  f21 := Try.func135.trans (congrArg some (by kernel_rfl))
  f27 := Try.func137.trans (congrArg some (by kernel_rfl))
  f28 := Try.func138.trans (congrArg some (by kernel_rfl))
  f35 := Try.func139.trans (congrArg some (by kernel_rfl))
  f39 := Try.func140.trans (congrArg some (by kernel_rfl))
  t0 := Try.underlying0
  a0 := Try.isAgg0
  z0 := Try.sizeOf0
  v0 := Try.zeroValue0
  t3 := Try.underlying3
  a3 := Try.isAgg3
  z3 := Try.sizeOf3
  v3 := Try.zeroValue3
  t4 := Try.underlying4
  a4 := Try.isAgg4
  z4 := Try.sizeOf4
  v4 := Try.zeroValue4
  t22 := Try.underlying22
  a22 := Try.isAgg22
  z22 := Try.sizeOf22
  v22 := Try.zeroValue22
  i3 := by kernel_rfl }

end Go.Proofs.Ytanmjihiceibbaa

/- Contracts over int of slices.Clone, Equal, Delete, Insert, in the words of RdI and OwnI; a number written into a row of one's own. -/
namespace Go.Proofs.Ytanmjihiceibbaa
open Go.RowKit

/-- Cells of a row, some of them written anew. -/
def layC (cur : Array Value) : Nat → List Value → Array Value
  | _, [] => cur
  | o, v :: r => layC (cur.setIfInBounds o v) (o + 1) r

theorem layC_size : ∀ (vs : List Value) (o : Nat) (cur : Array Value), (layC cur o vs).size = cur.size
  | [], _, _ => rfl
  | v :: r, o, cur => by rw [layC, layC_size r]; simp

theorem layC_get : ∀ (vs : List Value) (o : Nat) (cur : Array Value) (j : Nat), j < cur.size → (layC cur o vs)[j]? = if o ≤ j ∧ j < o + vs.length then vs[j - o]? else cur[j]?
  | [], o, cur, j, _ => by
    rw [layC, if_neg (by rw [List.length_nil]; omega)]
  | v :: r, o, cur, j, hj => by
    rw [layC, layC_get r (o + 1) _ j (by simpa using hj)]
    by_cases h : j = o
    · subst h
      rw [if_neg (by omega), if_pos (by simp)]
      simp [hj]
    · by_cases h2 : o + 1 ≤ j ∧ j < o + 1 + r.length
      · rw [if_pos h2, if_pos (by simp; omega)]
        rw [show j - o = (j - (o + 1)) + 1 by omega]
        simp
      · rw [if_neg h2, if_neg (by simp; omega)]
        simp [show ¬ o = j by omega]

theorem heap_setCells (g : Nat) (t : TypeId) : ∀ (vs : List Value) (o : Nat) (w : World) (cur : Array Value), w.heap[g]? = some (.cells cur t (0, 0)) → (w.setCells g o vs).heap[g]? = some (.cells (layC cur o vs) t (0, 0))
  | [], _, _, _, h => h
  | v :: r, o, w, cur, h => by
    rw [World.setCells, layC]
    exact heap_setCells g t r (o + 1) _ _ (heap_setCell_same w g o cur t v h)

theorem belowCells {B g : Nat} {a : World} (hg : B ≤ g) : ∀ (vs : List Value) (o : Nat) (w : World), Below B a w → Below B a (w.setCells g o vs)
  | [], _, _, h => h
  | v :: r, o, w, h => by
    rw [World.setCells]
    exact belowCells hg r (o + 1) _ (h.setCell hg v)

theorem belowDrew {B : Nat} {a w : World} (h : Below B a w) : Below B a w.drew := ⟨h.os, h.tape, h.output, h.size, h.block⟩

/-- Numbers of one's own, by their cells. -/
theorem OwnI.ofRow {w : World} {B g cap : Nat} {cur : Array Value} {l : List Int} (hB : B ≤ g) (hg : w.heap[g]? = some (.cells cur 3 (0, 0))) (hn : l.length ≤ cap) (hm : cap ≤ maxLen) (hs : cur.size = cap) (hc : ∀ j, j < l.length → cur[j]? = some (.int .i64 (l.getD j 0))) :
    OwnI w B (.slice (some ⟨g, 0, none⟩) l.length cap) l := by
  refine ⟨by rw [intCells_length, Nat.mul_one], .inr ⟨g, cap, cur, rfl, hB, hg, hn, hm, by rw [hs, Nat.mul_one], ?_⟩⟩
  apply List.ext_getElem?
  intro j
  rw [Nat.mul_one]
  by_cases hj : j < l.length
  · rw [List.getElem?_take_of_lt hj, intCells_get l j hj, Array.getElem?_toList]
    exact hc j hj
  · rw [List.getElem?_eq_none (by simp; omega), List.getElem?_eq_none (by rw [intCells_length]; omega)]

theorem OwnI.ofRowN {w : World} {B g cap n : Nat} {cur : Array Value} {l : List Int} (hnl : n = l.length) (hB : B ≤ g) (hg : w.heap[g]? = some (.cells cur 3 (0, 0))) (hn : l.length ≤ cap) (hm : cap ≤ maxLen) (hs : cur.size = cap) (hc : ∀ j, j < l.length → cur[j]? = some (.int .i64 (l.getD j 0))) :
    OwnI w B (.slice (some ⟨g, 0, none⟩) n cap) l := by
  subst hnl
  exact OwnI.ofRow hB hg hn hm hs hc

/-- The row of numbers of one's own. -/
theorem OwnI.row {w : World} {B : Nat} {v : Value} {l : List Int} (h : OwnI w B v l) : (v = .slice none 0 0 ∧ l = []) ∨ ∃ g cap cur, v = .slice (some ⟨g, 0, none⟩) l.length cap ∧ B ≤ g ∧ g < w.heap.size ∧ w.heap[g]? = some (.cells cur 3 (0, 0)) ∧ l.length ≤ cap ∧ cap ≤ maxLen ∧ cur.size = cap ∧ ∀ j, j < l.length → cur[j]? = some (.int .i64 (l.getD j 0)) := by
  rcases h.2 with ⟨h1, h2⟩ | ⟨g, cap, cur, h1, h2, h3, h4, h5, h6, h7⟩
  · exact .inl ⟨h1, List.eq_nil_of_length_eq_zero h2⟩
  · refine .inr ⟨g, cap, cur, h1, h2, (Array.getElem?_eq_some_iff.1 h3).1, h3, h4, h5, by rw [h6, Nat.mul_one], fun j hj => ?_⟩
    have e := intCells_get l j hj
    rw [← h7, Nat.mul_one, List.getElem?_take_of_lt hj, Array.getElem?_toList] at e
    exact e

theorem drewN_heap (w : World) (q : Nat) : (w.drewN q).heap = w.heap := by
  induction q generalizing w with
  | zero => rfl
  | succ n ih => exact ih _

theorem OwnI.drewN {w : World} {B : Nat} {v : Value} {l : List Int} (h : OwnI w B v l) (q : Nat) : OwnI (w.drewN q) B v l := by
  unfold OwnI World.ownsRow
  rw [drewN_heap]
  exact h

/-- From one world to another nothing that was there is changed but the row of v; v' lies in that row, or in a new one. -/
structure Mv (w w' : World) (v v' : Value) : Prop where
  grown : w.grownBy w' v.ownBlock
  lies : ∀ b, v'.ownBlock = some b → v.ownBlock = some b ∨ w.heap.size ≤ b

theorem Mv.size {w w' : World} {v v' : Value} (h : Mv w w' v v') : w.heap.size ≤ w'.heap.size := h.grown.size

theorem Mv.ofBelow {w w' : World} (h : Below w.heap.size w w') (v : Value) : Mv w w' v v := ⟨⟨h.os, h.tape, h.output, h.size, fun k hk _ => h.block k hk⟩, fun _ hb => .inl hb⟩

theorem Mv.refl (w : World) (v : Value) : Mv w w v v := Mv.ofBelow (Below.refl _ _) v

theorem Mv.alloc (w : World) (v : Value) (X : Obj) : Mv w (w.alloc X) v v := Mv.ofBelow ((Below.refl _ _).alloc (Nat.le_refl _) X) v

theorem Mv.trans {w w1 w2 : World} {v v1 v2 : Value} (h1 : Mv w w1 v v1) (h2 : Mv w1 w2 v1 v2) : Mv w w2 v v2 := by
  have hs := h1.size
  refine ⟨⟨h2.grown.os.trans h1.grown.os, h2.grown.tape.trans h1.grown.tape, h2.grown.output.trans h1.grown.output, Nat.le_trans hs h2.size, fun k hk hne => ?_⟩, fun b hb => ?_⟩
  · rw [h2.grown.block k (by omega) (fun e => ?_)]
    · exact h1.grown.block k hk hne
    · rcases h1.lies k e.symm with h | h
      · exact hne h.symm
      · omega
  · rcases h2.lies b hb with h | h
    · exact h1.lies b h
    · exact .inr (by omega)

theorem Mv.drew {w w' : World} {v v' : Value} (h : Mv w w' v v') : Mv w w'.drew v v' := ⟨⟨h.grown.os, h.grown.tape, h.grown.output, h.grown.size, h.grown.block⟩, h.lies⟩

theorem Mv.below {w w' : World} {v v' : Value} (h : Mv w w' v v') {B : Nat} {l : List Int} (ho : OwnI w B v l) (hB : B ≤ w.heap.size) : Below B w w' :=
  ⟨h.grown.os, h.grown.tape, h.grown.output, h.size, fun k hk => h.grown.block k (by omega) (fun e => by have := (World.ownsRow.lt ho k e.symm).1; omega)⟩

theorem Mv.app {w w' : World} {v v' : Value} {N : Nat} (h : w.grownBy w' v.ownBlock) (hN : w.heap.size = N) (h2 : v'.ownBlock = v.ownBlock ∨ ∃ g, v'.ownBlock = some g ∧ N ≤ g) : Mv w w' v v' := by
  refine ⟨h, fun b hb => ?_⟩
  rcases h2 with h2 | ⟨g, h2, h3⟩
  · exact .inl (by rw [← h2]; exact hb)
  · rw [h2] at hb
    injection hb with hb
    exact .inr (by omega)

theorem setCells_other (g : Nat) : ∀ (vs : List Value) (o : Nat) (w : World) (k : Nat), k ≠ g → (w.setCells g o vs).heap[k]? = w.heap[k]?
  | [], _, _, _, _ => rfl
  | v :: r, o, w, k, h => by
    rw [World.setCells, setCells_other g r (o + 1) _ k h]
    exact Below.heap_setCell _ _ _ _ h

/-- Cells of the row are written. -/
theorem Mv.cells {w w' : World} {v : Value} {g n c n' c' : Nat} (h : Mv w w' v (.slice (some ⟨g, 0, none⟩) n c)) (o : Nat) (vs : List Value) : Mv w (w'.setCells g o vs) v (.slice (some ⟨g, 0, none⟩) n' c') := by
  have hb := belowCells (B := 0) (g := g) (a := w') (Nat.zero_le _) vs o w' (Below.refl _ _)
  refine ⟨⟨hb.os.trans h.grown.os, hb.tape.trans h.grown.tape, hb.output.trans h.grown.output, Nat.le_trans h.size hb.size, fun k hk hne => ?_⟩, fun b hb => h.lies b hb⟩
  rw [setCells_other g vs o w' k (fun e => ?_)]
  · exact h.grown.block k hk hne
  · rcases h.lies g rfl with h' | h'
    · exact hne (by rw [e, h'])
    · omega

/-- A new row. -/
theorem Mv.made {w w' : World} {v v0 : Value} (h : Mv w w' v v0) (X : Obj) (n c : Nat) : Mv w (w'.alloc X) v (.slice (some ⟨w'.heap.size, 0, none⟩) n c) := by
  have hb := (Below.refl w'.heap.size w').alloc (Nat.le_refl _) X
  refine ⟨⟨hb.os.trans h.grown.os, hb.tape.trans h.grown.tape, hb.output.trans h.grown.output, Nat.le_trans h.size hb.size, fun k hk hne => ?_⟩, fun b hb => .inr ?_⟩
  · rw [hb.block k (by have := h.size; omega)]
    exact h.grown.block k hk hne
  · have := ownBlock_is hb
    have := h.size
    omega

theorem Mv.drewN {w w' : World} {v v' : Value} (h : Mv w w' v v') (q : Nat) : Mv w (w'.drewN q) v v' := by
  have hb := below_drewN (Below.refl 0 w') q
  exact ⟨⟨hb.os.trans h.grown.os, hb.tape.trans h.grown.tape, hb.output.trans h.grown.output, Nat.le_trans h.size hb.size, fun k hk hne => by rw [drewN_heap]; exact h.grown.block k hk hne⟩, h.lies⟩

/-- One of one's own numbers is written. -/
theorem OwnI.put {w : World} {B : Nat} {v : Value} {l : List Int} (h : OwnI w B v l) (j : Nat) (hj : j < l.length) (n : Int) :
    ∃ g cap, v = .slice (some ⟨g, 0, none⟩) l.length cap ∧ w.cell? ⟨g, j, none⟩ = some (.int .i64 (l.getD j 0)) ∧ w.frozen? ⟨g, j, none⟩ = false ∧ B ≤ g ∧ g < w.heap.size ∧ OwnI (w.setCell ⟨g, j, none⟩ (.int .i64 n)) B v (l.set j n) ∧ Mv w (w.setCell ⟨g, j, none⟩ (.int .i64 n)) v v := by
  rcases h.row with ⟨_, h2⟩ | ⟨g, cap, cur, rfl, h2, hlt, h3, h4, h5, h6, h7⟩
  · subst h2; simp at hj
  · refine ⟨g, cap, rfl, ?_, frozen_of_row w g j _ _ h3, h2, hlt, ?_, (Mv.refl w (.slice (some ⟨g, 0, none⟩) l.length cap)).cells j [_]⟩
    · rw [cell_of_row w g j _ _ _ h3]
      exact h7 j hj
    · have e : l.length = (l.set j n).length := by simp
      rw [e]
      refine OwnI.ofRow h2 (heap_setCell_same w g j _ _ _ h3) (by rw [← e]; exact h4) h5 (by simpa using h6) (fun i hi => ?_)
      rw [← e] at hi
      by_cases hij : i = j
      · subst hij
        have : i < cur.size := by omega
        simp [this, List.getD, hi]
      · have hne : ¬ j = i := fun h => hij h.symm
        have := h7 i hi
        simp [hne, this, List.getD]

/-- Clone. -/
theorem cloneI_any (v : Value) (l : List Int) (w : World) (hr : RdI w v l) (hlim : l.length ≤ 1000000) :
    Calls Try.prog 38 #[v] w fun e w' => ∃ v', e = .returned v' ∧ OwnI w' w.heap.size v' l ∧ Below w.heap.size w w' := by
  obtain ⟨ao, cap, rfl, hlc, hcm, hn0, hi, hao⟩ := hr
  cases ao with
  | none =>
    have hc := hn0 rfl
    have hl : l = [] := List.eq_nil_of_length_eq_zero (by omega)
    subst hl
    refine Calls.mono (Any.slices_Clone_int_nil layM15 _ cap w) ?_
    rintro e w' ⟨rfl, rfl⟩
    exact ⟨_, rfl, OwnI.nil _ _, Below.refl _ _⟩
  | some a =>
    by_cases hl : l = []
    · subst hl
      refine Calls.mono (Any.slices_Clone_int_zero layM15 a cap w) ?_
      rintro e w' ⟨v', rfl, ho, _, hb⟩
      exact ⟨v', rfl, ho, hb⟩
    · rcases hao with hao | ⟨b, off, hab, hc⟩
      · exact absurd hao hl
      · injection hab with hab
        subst hab
        refine Calls.mono (Any.slices_Clone_int layM15 b off l.length cap l w (Nat.le_refl _) (by omega) hc) ?_
        rintro e w' ⟨v', rfl, ho, _, hb⟩
        refine ⟨v', rfl, ?_, hb⟩
        rw [List.take_length] at ho
        exact ho

/-- Equal. -/
theorem equalI_any (va : Value) (A : List Int) (vb : Value) (B : List Int) (w : World) (ha : RdI w va A) (hb : RdI w vb B) :
    Calls Try.prog 69 #[va, vb] w fun e w' => e = .returned (.bool (decide (A = B))) ∧ Below w.heap.size w w' := by
  obtain ⟨ao, cap, rfl, hlc, hcm, hn0, hi, hao⟩ := ha
  obtain ⟨bo, bcap, rfl, hlc', hcm', hn0', hi', hbo⟩ := hb
  by_cases hl : A.length = B.length
  · by_cases h0 : A.length = 0
    · have hA : A = [] := List.eq_nil_of_length_eq_zero h0
      have hB : B = [] := List.eq_nil_of_length_eq_zero (by omega)
      subst hA
      subst hB
      refine Calls.mono (Any.slices_Equal_int_empty layE ao bo cap 0 bcap w (by omega)) ?_
      rintro e w' ⟨rfl, rfl⟩
      exact ⟨rfl, Below.refl _ _⟩
    · rcases hao with hao | ⟨b1, o1, rfl, hc1⟩
      · rw [hao] at h0; simp at h0
      rcases hbo with hbo | ⟨b2, o2, rfl, hc2⟩
      · have e0 : B.length = 0 := by rw [hbo]; rfl
        omega
      have hcm1 : cap ≤ 9223372036854775807 := by unfold maxLen at hcm; omega
      have hcm2 : bcap ≤ 9223372036854775807 := by unfold maxLen at hcm'; omega
      refine Calls.mono (Any.slices_Equal_int layE b1 o1 A.length cap b2 o2 B.length bcap A B w (Nat.le_refl _) (Nat.le_refl _) (by omega) (by omega) hc1 hc2) ?_
      rintro e w' ⟨rfl, q, rfl⟩
      refine ⟨?_, below_drewN (Below.refl _ _) q⟩
      rw [List.take_length, List.take_length]
      by_cases h : A = B
      · rw [decide_eq_true h, beq_iff_eq.2 h]
      · rw [decide_eq_false h, beq_eq_false_iff_ne.2 h]
  · refine Calls.mono (Any.slices_Equal_int_lens layE ao bo A.length cap B.length bcap w hl) ?_
    rintro e w' ⟨rfl, rfl⟩
    exact ⟨by rw [decide_eq_false (fun h => hl (by rw [h]))], Below.refl _ _⟩

/-- Delete, of numbers of one's own. -/
theorem deleteI_any (v : Value) (l : List Int) (B : Nat) (w : World) (ho : OwnI w B v l) (i j : Nat) (hij : i < j) (hj : j ≤ l.length) (I J : Int) (hI : I = i) (hJ : J = j) :
    Calls Try.prog 133 #[v, .int .i64 I, .int .i64 J] w fun e w' => ∃ v', e = .returned v' ∧ OwnI w' B v' (l.take i ++ l.drop j) ∧ Mv w w' v v' := by
  subst hI
  subst hJ
  rcases ho.row with ⟨_, h2⟩ | ⟨g, cap, cur, rfl, hB, hlt, hg, hn, hm, hs, hc⟩
  · subst h2; simp at hj; omega
  · unfold maxLen at hm
    refine Calls.mono (Any.slices_Delete_int_cells layM23 g 0 l.length cap i j l w (Nat.le_refl _) hn (by omega) (by omega) hj
      (fun k hk => by rw [Nat.zero_add, cell_of_row w g k _ _ _ hg]; exact hc k hk) (fun k hk => by rw [Nat.zero_add]; exact frozen_of_row w g k _ _ hg)) ?_
    rintro e w' ⟨rfl, q, rfl⟩
    refine ⟨_, rfl, ?_, ((Mv.refl w (.slice (some ⟨g, 0, none⟩) l.length cap)).drewN q).cells _ _⟩
    have hlen : (l.take i ++ l.drop j).length = l.length - (j - i) := by simp; omega
    rw [← hlen]
    refine OwnI.ofRow hB (heap_setCells g _ _ _ _ cur (by rw [drewN_heap]; exact hg)) (by omega) (by unfold maxLen; omega) (by rw [layC_size]; exact hs) (fun k hk => ?_)
    rw [layC_get _ _ _ _ (by omega), List.take_length, if_pos (by simp at hk ⊢; omega), Nat.sub_zero, List.map_append, List.getElem?_append_left (by simpa using hk)]
    exact intCells_get _ k hk

theorem get3 {α : Type} (A vs : List α) (i : Nat) (hi : i ≤ A.length) (j : Nat) : (A.take i ++ (vs ++ A.drop i))[j]? = if j < i then A[j]? else if j < i + vs.length then vs[j - i]? else A[j - vs.length]? := by
  have hl : (A.take i).length = i := by simp; omega
  by_cases h1 : j < i
  · rw [if_pos h1, List.getElem?_append_left (by omega), List.getElem?_take_of_lt h1]
  · rw [if_neg h1, List.getElem?_append_right (by omega), hl]
    by_cases h2 : j < i + vs.length
    · rw [if_pos h2, List.getElem?_append_left (by omega)]
    · rw [if_neg h2, List.getElem?_append_right (by omega), List.getElem?_drop]
      congr 1
      omega

theorem intCells_append (A B : List Int) : intCells (A ++ B) = intCells A ++ intCells B := by simp [intCells]
theorem intCells_take (A : List Int) (i : Nat) : intCells (A.take i) = (intCells A).take i := by simp [intCells]
theorem intCells_drop (A : List Int) (i : Nat) : intCells (A.drop i) = (intCells A).drop i := by simp [intCells]

theorem ins_cells (l : List Int) (i : Nat) (hi : i ≤ l.length) (x y : Int) (j : Nat) (hj : j < (l.take i ++ ([x, y] ++ l.drop i)).length) :
    some (.int .i64 ((l.take i ++ ([x, y] ++ l.drop i)).getD j 0)) = if j < i then (intCells l)[j]? else if j < i + 2 then [Value.int .i64 x, .int .i64 y][j - i]? else (intCells l)[j - 2]? := by
  rw [← intCells_get _ j hj, intCells_append, intCells_append, intCells_take, intCells_drop]
  exact get3 (intCells l) (intCells [x, y]) i (by rw [intCells_length]; exact hi) j

/-- Insert of two numbers, of numbers of one's own. -/
theorem insertI_any (v : Value) (l : List Int) (B : Nat) (w : World) (ho : OwnI w B v l) (hB : B ≤ w.heap.size) (hlim : l.length ≤ 1000000) (i : Nat) (hi : i ≤ l.length) (I : Int) (hI : I = i) (x y : Int) (N : Nat) (hN : N = w.heap.size) :
    Calls Try.prog 135 #[v, .int .i64 I, .slice (some ⟨N, 0, none⟩) 2 2] (w.alloc (.cells #[.int .i64 x, .int .i64 y] 3)) fun e w' => ∃ v', e = .returned v' ∧ OwnI w' B v' (l.take i ++ ([x, y] ++ l.drop i)) ∧ Mv w w' v v' := by
  subst hI
  subst hN
  have hm0 : Mv w (w.alloc (.cells #[.int .i64 x, .int .i64 y] 3)) v v := Mv.alloc w v _
  have hv := heap_alloc_new w (.cells #[.int .i64 x, .int .i64 y] 3)
  have hsz : (w.alloc (.cells #[.int .i64 x, .int .i64 y] 3)).heap.size = w.heap.size + 1 := by simp
  have hg0 : ∀ k, k < w.heap.size → (w.alloc (.cells #[.int .i64 x, .int .i64 y] 3)).heap[k]? = w.heap[k]? := fun k hk => Below.heap_alloc _ _ _ hk
  generalize w.alloc (.cells #[.int .i64 x, .int .i64 y] 3) = W at *
  have hlen : (l.take i ++ ([x, y] ++ l.drop i)).length = l.length + 2 := by simp; omega
  have hvs : ∀ j u, [Value.int .i64 x, .int .i64 y][j]? = some u → W.cell? ⟨w.heap.size, 0 + j, none⟩ = some u := fun j u hu => by
    rw [Nat.zero_add, cell_of_row W w.heap.size j _ _ _ hv]
    simpa using hu
  have h1v : ∀ u ∈ [Value.int .i64 x, .int .i64 y], u.oneCell' = true := fun u hu => by
    simp at hu
    rcases hu with rfl | rfl <;> rfl
  have hcl := intCells_length l
  have h1c := intCells_one l
  have hz : (Value.int .i64 0).cells.size = 1 := rfl
  have e3 : layM21_ren.t 3 = 3 := rfl
  rcases ho.row with ⟨rfl, rfl⟩ | ⟨g, cap, cur, rfl, hBg, hlt, hg, hn, hm, hs, hc⟩
  · have hi0 : i = 0 := by simpa using hi
    subst hi0
    refine Calls.mono (Any2.slices_Insert_int_end_grow layM21 none 0 0 w.heap.size 0 2 2 [] [.int .i64 x, .int .i64 y] W (by omega) (by omega) (by omega) (by omega) rfl rfl (fun _ => rfl) (fun a ha => by cases ha) hvs h1v) ?_
    rintro e w' ⟨rfl, rfl⟩
    rw [e3]
    have hge := grownCap_ge W (0 + 2) 0 3
    have hle := grownCap_le_maxLen W (0 + 2) 0 3 (by unfold maxLen; omega)
    refine ⟨_, rfl, ?_, hm0.drew.made _ _ _⟩
    have e2 : 0 + 2 = ([x, y] : List Int).length := rfl
    show OwnI _ B (.slice (some ⟨W.heap.size, 0, none⟩) (0 + 2) (grownCap W (0 + 2) 0 3)) [x, y]
    generalize grownCap W (0 + 2) 0 3 = gc at *
    exact OwnI.ofRow (by omega) (heap_alloc_new W.drew _) hge hle (by simp [size_zeroCells, hz]; omega) (fun j hj => by
      have hj' : j = 0 ∨ j = 1 := by simp at hj; omega
      rcases hj' with rfl | rfl <;> (rw [Array.getElem?_append_left (by simp)]; rfl))
  · have hgW : W.heap[g]? = some (.cells cur 3 (0, 0)) := (hg0 g hlt).trans hg
    have hcs : ∀ j u, (intCells l)[j]? = some u → W.cell? ⟨g, 0 + j, none⟩ = some u := fun j u hu => by
      have hj : j < l.length := by rw [← hcl]; exact (List.getElem?_eq_some_iff.1 hu).1
      rw [Nat.zero_add, cell_of_row W g j _ _ _ hgW, hc j hj, ← intCells_get l j hj, hu]
    have hcurj : ∀ j, j < l.length → cur[j]? = (intCells l)[j]? := fun j hj => by rw [hc j hj, intCells_get l j hj]
    have hm' : cap ≤ 9223372036854775807 := by unfold maxLen at hm; omega
    by_cases hroom : l.length + 2 ≤ cap
    · have hsp : ∀ j, j < l.length + 2 → (W.cell? ⟨g, 0 + j, none⟩).isSome = true := fun j hj => by
        rw [Nat.zero_add, cell_of_row W g j _ _ _ hgW, Array.getElem?_eq_getElem (by omega)]
        rfl
      have hfz : ∀ j, j < l.length + 2 → W.frozen? ⟨g, 0 + j, none⟩ = false := fun j hj => frozen_of_row W g _ _ _ hgW
      by_cases he : i = l.length
      · subst he
        refine Calls.mono (Any2.slices_Insert_int_end_room layM21 g 0 l.length cap w.heap.size 0 2 2 [.int .i64 x, .int .i64 y] W (by omega) hroom hm' rfl
          (fun j hj => by rw [Nat.add_assoc]; exact hsp _ (by omega)) (fun j hj => by rw [Nat.add_assoc]; exact hfz _ (by omega)) hvs h1v) ?_
        rintro e w' ⟨rfl, rfl⟩
        refine ⟨_, rfl, ?_, hm0.cells _ _⟩
        rw [← hlen]
        refine OwnI.ofRow hBg (heap_setCells g _ _ _ _ cur hgW) (by omega) hm (by rw [layC_size]; exact hs) (fun j hj => ?_)
        rw [layC_get _ _ _ _ (by omega), ins_cells l l.length (Nat.le_refl _) x y j hj, Nat.zero_add]
        rw [hlen] at hj
        by_cases h1 : j < l.length
        · rw [if_neg (by omega), if_pos h1, hcurj j h1]
        · rw [if_pos (by simp; omega), if_neg h1, if_pos (by omega)]
      · refine Calls.mono (Any2.slices_Insert_int_shift layM21 g 0 l.length cap i w.heap.size 0 2 2 (intCells l) [.int .i64 x, .int .i64 y] W (by omega) (by omega) hroom hm' (by omega) hcl rfl hcs hsp hfz hvs h1c h1v
          3 3 2 cap (by simp [World.shape?, hv]) (by simp [World.shape?, hgW, hs]) (by omega) (frozen_of_row W _ _ _ _ hv) (frozen_of_row W _ _ _ _ hv)) ?_
        rintro e w' ⟨rfl, rfl⟩
        refine ⟨_, rfl, ?_, (Mv.cells (n' := 0) (c' := 0) hm0.drew _ _).cells _ _⟩
        rw [← hlen]
        refine OwnI.ofRow hBg (heap_setCells g _ _ _ _ _ (heap_setCells g _ _ _ _ cur hgW)) (by omega) hm (by rw [layC_size, layC_size]; exact hs) (fun j hj => ?_)
        rw [layC_get _ _ _ _ (by rw [layC_size]; omega), layC_get _ _ _ _ (by omega), ins_cells l i hi x y j hj, Nat.zero_add, Nat.zero_add]
        rw [hlen] at hj
        have hdl : ((intCells l).drop i).length = l.length - i := by simp [intCells]
        rw [hdl]
        by_cases h1 : j < i
        · rw [if_neg (by omega), if_neg (by omega), if_pos h1, hcurj j (by omega)]
        · by_cases h2 : j < i + 2
          · rw [if_pos (by simp; omega), if_neg h1, if_pos h2]
          · rw [if_neg (by simp; omega), if_pos (by omega), if_neg h1, if_neg h2, List.getElem?_drop]
            congr 1
            omega
    · by_cases he : i = l.length
      · subst he
        refine Calls.mono (Any2.slices_Insert_int_end_grow layM21 (some ⟨g, 0, none⟩) l.length cap w.heap.size 0 2 2 (intCells l) [.int .i64 x, .int .i64 y] W (by omega) hn (by omega) (by omega) hcl rfl (fun h => by cases h)
          (fun a ha j u hu => by injection ha with ha; subst ha; rw [Addr.add_lit]; exact hcs j u hu) hvs h1v) ?_
        rintro e w' ⟨rfl, rfl⟩
        rw [e3]
        have hge := grownCap_ge W (l.length + 2) cap 3
        have hle := grownCap_le_maxLen W (l.length + 2) cap 3 (by unfold maxLen; omega)
        refine ⟨_, rfl, ?_, hm0.drew.made _ _ _⟩
        show OwnI _ B (.slice (some ⟨W.heap.size, 0, none⟩) (l.length + 2) (grownCap W (l.length + 2) cap 3)) _
        generalize grownCap W (l.length + 2) cap 3 = gc at *
        rw [← hlen]
        refine OwnI.ofRow (by omega) (heap_alloc_new W.drew _) (by omega) hle (by simp [size_zeroCells, hz, hcl]; omega) (fun j hj => ?_)
        rw [ins_cells l l.length (Nat.le_refl _) x y j hj]
        rw [hlen] at hj
        rw [Array.getElem?_append_left (by simp [hcl]; omega), List.getElem?_toArray]
        by_cases h1 : j < l.length
        · rw [if_pos h1, List.getElem?_append_left (by omega)]
        · rw [if_neg h1, if_pos (by omega), List.getElem?_append_right (by omega), hcl]
      · refine Calls.mono (Any2.slices_Insert_int_grow layM21 g 0 l.length cap i w.heap.size 0 2 2 (intCells l) [.int .i64 x, .int .i64 y] W (by omega) (by omega) hn (by omega) (by omega) hcl rfl hcs hvs h1c h1v) ?_
        rintro e w' ⟨rfl, rfl⟩
        rw [e3]
        have hge := grownCap_ge W (l.length + 2) cap 3
        have hle := grownCap_le_maxLen W (l.length + 2) cap 3 (by unfold maxLen; omega)
        refine ⟨_, rfl, ?_, ((hm0.made _ 0 0).drew.cells (n' := 0) (c' := 0) _ _).drew.cells _ _⟩
        show OwnI _ B (.slice (some ⟨W.heap.size, 0, none⟩) (l.length + 2) (grownCap W (l.length + 2) cap 3)) _
        generalize grownCap W (l.length + 2) cap 3 = gc at *
        have hti : ((intCells l).take i).length = i := by simp [hcl]; omega
        have hdl : ((intCells l).drop i).length = l.length - i := by simp [intCells]
        refine OwnI.ofRowN hlen.symm (cur := layC (layC (((intCells l).take i).toArray ++ Builtin.zeroCells (Value.int .i64 0).cells (l.length + 2 - i) ++ Builtin.zeroCells (Value.int .i64 0).cells (gc - (l.length + 2))) i [.int .i64 x, .int .i64 y]) (i + 2) ((intCells l).drop i)) (by omega) (heap_setCells _ _ _ _ _ _ (heap_setCells _ _ _ _ _ _ (heap_alloc_new W _))) (by omega) hle ?_ (fun j hj => ?_)
        · rw [layC_size, layC_size]
          simp [size_zeroCells, hz, hti]
          omega
        · rw [ins_cells l i hi x y j hj]
          rw [hlen] at hj
          have hcs1 : (((intCells l).take i).toArray ++ Builtin.zeroCells (Value.int .i64 0).cells (l.length + 2 - i) ++ Builtin.zeroCells (Value.int .i64 0).cells (gc - (l.length + 2))).size = gc := by
            simp [size_zeroCells, hz, hti]
            omega
          rw [layC_get _ _ _ _ (by rw [layC_size]; omega), layC_get _ _ _ _ (by omega), hdl]
          by_cases h1 : j < i
          · rw [if_neg (by omega), if_neg (by omega), if_pos h1, Array.getElem?_append_left (by simp [size_zeroCells, hz, hti]; omega), Array.getElem?_append_left (by simp [hti]; omega), List.getElem?_toArray, List.getElem?_take_of_lt h1]
          · by_cases h2 : j < i + 2
            · rw [if_neg (by omega), if_pos (by simp; omega), if_neg h1, if_pos h2]
            · rw [if_pos (by omega), if_neg h1, if_neg h2, List.getElem?_drop]
              congr 1
              omega

end Go.Proofs.Ytanmjihiceibbaa

/- Entries of one's own: written, cut, appended; contracts over entries of slices.Clone, Equal, IndexFunc, DeleteFunc. -/
namespace Go.Proofs.Ytanmjihiceibbaa
open Go.RowKit

/-- The row of entries of one's own. -/
theorem OwnE.row {w : World} {B : Nat} {v : Value} {l : List Ent} (h : OwnE w B v l) : (v = .slice none 0 0 ∧ l = []) ∨
    ∃ g cap cur, v = .slice (some ⟨g, 0, none⟩) l.length cap ∧ B ≤ g ∧ g < w.heap.size ∧ w.heap[g]? = some (.cells cur 48 (0, 0)) ∧ l.length ≤ cap ∧ cap ≤ maxLen ∧ cur.size = cap * 3 ∧ ∀ j, j < l.length * 3 → cur[j]? = (entCells l)[j]? := by
  rcases h.2 with ⟨hv, hn⟩ | ⟨g, cap, cur, hv, hb, hg, hnc, hcm, hcs, htake⟩
  · have e : l = [] := List.eq_nil_of_length_eq_zero hn
    subst e
    exact .inl ⟨hv, rfl⟩
  · refine .inr ⟨g, cap, cur, hv, hb, (Array.getElem?_eq_some_iff.1 hg).1, hg, hnc, hcm, hcs, fun j hj => ?_⟩
    rw [← htake, List.getElem?_take_of_lt hj, Array.getElem?_toList]

theorem OwnE.ofRow {w : World} {B g cap n : Nat} {cur : Array Value} {l : List Ent} (hn : n = l.length) (hB : B ≤ g) (hg : w.heap[g]? = some (.cells cur 48 (0, 0))) (hc : l.length ≤ cap) (hm : cap ≤ maxLen) (hs : cur.size = cap * 3) (hcell : ∀ j, j < l.length * 3 → cur[j]? = (entCells l)[j]?) :
    OwnE w B (.slice (some ⟨g, 0, none⟩) n cap) l := by
  subst hn
  refine ⟨by rw [entCells_length], .inr ⟨g, cap, cur, rfl, hB, hg, hc, hm, hs, ?_⟩⟩
  apply List.ext_getElem?
  intro j
  by_cases hj : j < l.length * 3
  · rw [List.getElem?_take_of_lt hj, Array.getElem?_toList]
    exact hcell j hj
  · rw [List.getElem?_eq_none (by simp; omega), List.getElem?_eq_none (by rw [entCells_length]; omega)]

theorem OwnE.empty (w : World) (B : Nat) (hB : B ≤ w.heap.size) : OwnE (w.alloc (.cells #[] 48)) B (.slice (some ⟨w.heap.size, 0, none⟩) 0 0) [] :=
  OwnE.ofRow (l := []) rfl hB (heap_alloc_new w _) (Nat.le_refl _) (Nat.zero_le _) rfl (fun j hj => absurd hj (by simp))

theorem entCells_take : ∀ (l : List Ent) (i : Nat), entCells (l.take i) = (entCells l).take (i * 3)
  | l, 0 => by simp [entCells]
  | [], i + 1 => by simp [entCells]
  | x :: t, i + 1 => by
    rw [List.take_succ_cons, show (i + 1) * 3 = i * 3 + 1 + 1 + 1 by omega]
    show Value.int .i64 x.proc :: .int .i64 x.seq :: .int .i64 x.resp :: entCells (t.take i) = (Value.int .i64 x.proc :: .int .i64 x.seq :: .int .i64 x.resp :: entCells t).take (i * 3 + 1 + 1 + 1)
    rw [entCells_take t i]
    rfl

theorem entCells_drop : ∀ (l : List Ent) (i : Nat), entCells (l.drop i) = (entCells l).drop (i * 3)
  | l, 0 => by simp
  | [], i + 1 => by simp [entCells]
  | x :: t, i + 1 => by
    rw [List.drop_succ_cons, show (i + 1) * 3 = i * 3 + 1 + 1 + 1 by omega]
    show entCells (t.drop i) = (Value.int .i64 x.proc :: .int .i64 x.seq :: .int .i64 x.resp :: entCells t).drop (i * 3 + 1 + 1 + 1)
    rw [entCells_drop t i]
    rfl

/-- A beginning of entries of one's own. -/
theorem OwnE.cut {w : World} {B g n cap : Nat} {l : List Ent} (h : OwnE w B (.slice (some ⟨g, 0, none⟩) n cap) l) (i : Nat) (hi : i ≤ l.length) : OwnE w B (.slice (some ⟨g, 0, none⟩) i cap) (l.take i) := by
  rcases h.row with ⟨h1, -⟩ | ⟨g', cap', cur, h1, hB, hlt, hg, hc, hm, hs, hcell⟩
  · cases h1
  · injection h1 with h1 h2 h3
    injection h1 with h1
    injection h1 with h1
    subst h1 h3
    exact OwnE.ofRow (by rw [List.length_take]; omega) hB hg (by rw [List.length_take]; omega) hm hs (fun j hj => by
      rw [List.length_take] at hj
      rw [hcell j (by omega), entCells_take, List.getElem?_take_of_lt (by omega)])

/-- Entries of one's own stay while cells behind them are written. -/
theorem OwnE.cells {w : World} {B g n cap : Nat} {l : List Ent} (h : OwnE w B (.slice (some ⟨g, 0, none⟩) n cap) l) (o : Nat) (ho : l.length * 3 ≤ o) (vs : List Value) : OwnE (w.setCells g o vs) B (.slice (some ⟨g, 0, none⟩) n cap) l := by
  rcases h.row with ⟨h1, -⟩ | ⟨g', cap', cur, h1, hB, hlt, hg, hc, hm, hs, hcell⟩
  · cases h1
  · injection h1 with h1 h2 h3
    injection h1 with h1
    injection h1 with h1
    subst h1 h3
    exact OwnE.ofRow h2 hB (heap_setCells g _ vs o w cur hg) hc hm (by rw [layC_size]; exact hs) (fun j hj => by
      rw [layC_get _ _ _ _ (by omega), if_neg (by omega)]
      exact hcell j hj)

/-- One entry written into a row of one's own. -/
theorem OwnE.put {w : World} {B g n cap : Nat} {l : List Ent} (h : OwnE w B (.slice (some ⟨g, 0, none⟩) n cap) l) (i : Nat) (hi : i < l.length) (e : Ent) : OwnE (w.setCells g (i * 3) (entCells [e])) B (.slice (some ⟨g, 0, none⟩) n cap) (l.set i e) := by
  rcases h.row with ⟨h1, -⟩ | ⟨g', cap', cur, h1, hB, hlt, hg, hc, hm, hs, hcell⟩
  · cases h1
  · injection h1 with h1 h2 h3
    injection h1 with h1
    injection h1 with h1
    subst h1 h3
    have hl3 : (entCells [e]).length = 3 := entCells_length [e]
    refine OwnE.ofRow (by rw [List.length_set]; exact h2) hB (heap_setCells g _ _ _ w cur hg) (by rw [List.length_set]; exact hc) hm (by rw [layC_size]; exact hs) (fun j hj => ?_)
    rw [List.length_set] at hj
    obtain ⟨q, k, hk, rfl⟩ : ∃ q k, k < 3 ∧ j = q * 3 + k := ⟨j / 3, j % 3, Nat.mod_lt _ (by decide), by omega⟩
    rw [layC_get _ _ _ _ (by omega), hl3, entCells_get (l.set i e) q k (by rw [List.length_set]; omega) hk]
    by_cases hq : q = i
    · subst hq
      rw [if_pos (by omega), show q * 3 + k - q * 3 = 0 * 3 + k by omega, entCells_get [e] 0 k (by simp) hk]
      congr 2
      simp [List.getD, hi]
    · rw [if_neg (by omega), hcell _ (by omega), entCells_get l q k (by omega) hk]
      congr 2
      have : ¬ i = q := fun h => hq h.symm
      simp [List.getD, this]

/-- The cells of entries that one reads. -/
theorem RdE.cells {w : World} {a : Addr} {n cap : Nat} {l : List Ent} (h : RdE w (.slice (some a) n cap) l) : ∀ j u, (entCells l)[j]? = some u → w.cell? (a.add j) = some u := by
  obtain ⟨ao, c, h1, h2, h3, hn, hw, h4⟩ := h
  injection h1 with h1 _ _
  subst h1
  intro j u hu
  have hj : j < l.length * 3 := by rw [← entCells_length]; exact (List.getElem?_eq_some_iff.1 hu).1
  rcases h4 with h4 | ⟨b, off, h5, h6⟩
  · rw [h4] at hj
    simp at hj
  · injection h5 with h5
    subst h5
    obtain ⟨q, k, hk, rfl⟩ : ∃ q k, k < 3 ∧ j = q * 3 + k := ⟨j / 3, j % 3, Nat.mod_lt _ (by decide), by omega⟩
    rw [entCells_get l q k (by omega) hk] at hu
    obtain ⟨c0, c1, c2⟩ := h6 q (by omega)
    rw [Addr.add_lit, ← Nat.add_assoc]
    match k, hk with
    | 0, _ => exact c0.trans hu
    | 1, _ => exact c1.trans hu
    | 2, _ => exact c2.trans hu

/-- Entries appended onto a row of one's own. -/
theorem run_append_ents (w : World) (ty : TypeId) (B : Nat) (v : Value) (l : List Ent) (h : OwnE w B v l) (vx : Value) (m : List Ent) (hr : RdE w vx m) (hlim : l.length + m.length ≤ 1000000) (hbase : B ≤ w.heap.size) :
    ∃ v' w', (Builtin.append_ #[25, 25] ty #[v, vx]).run Try.prog w = .ok v' w' ∧ OwnE w' B v' (l ++ m) ∧ Below B w w' := by
  obtain ⟨i0, hi, hz0, hz1, hz2⟩ := info_parts info_ent
  have hr' := hr
  obtain ⟨ao, cap, rfl, hlc, hcm, hn0, hw, hao⟩ := hr
  cases ao with
  | none =>
    have hc := hn0 rfl
    subst hc
    have hl : m = [] := List.eq_nil_of_length_eq_zero (by omega)
    subst hl
    have hrun := run_append_owned_none (P := Try.prog) w B 25 ty 48 i0 3 Try.underlying25 hi v l.length (entCells l) h
    exact ⟨v, w, hrun, by rw [List.append_nil]; exact h, Below.refl _ _⟩
  | some a =>
    obtain ⟨v', w', hrun, ho, hg, _⟩ := run_append_own (P := Try.prog) w B 25 ty 48 i0 _ 3 24 Try.underlying25 hi hz0 hz1 hz2 rfl (by decide) v l.length (entCells l) h
      a m.length cap (entCells m) (entCells_length m) hr'.cells (entCells_one m) (by unfold maxLen; omega) (by omega) hbase
    refine ⟨v', w', hrun, ?_, ?_⟩
    · unfold OwnE
      rw [List.length_append, entCells_app]
      exact ho
    · exact (Below.refl _ _).grown hg hbase (fun k hk => (World.ownsRow.lt h k hk).1)

theorem wpList_append_ents (w : World) {ops : Array Oper} {rest : List Oper} {o : Oper} {a : Act} {Q : Exit → Act → World → Prop} (hgd : o.guard = none) (s x : Operand)
    (ho : o.op = .call { callee := .builtin .append, args := #[s, x], argTypes := #[25, 25] })
    (B : Nat) (v : Value) (l : List Ent) (hs : a.eval s = v) (hown : OwnE w B v l) (vx : Value) (m : List Ent) (hx : a.eval x = vx) (hr : RdE w vx m)
    (hlim : l.length + m.length ≤ 1000000) (hbase : B ≤ w.heap.size)
    (h : ∀ v' w', OwnE w' B v' (l ++ m) → Below B w w' → wpList Try.prog ops Q rest (a.put o.dst v') w') : wpList Try.prog ops Q (o :: rest) a w :=
  wpList_plain hgd fun _ hK => by
    obtain ⟨v', w', hrun, h2, h3⟩ := run_append_ents w o.type B v l hown vx m hr hlim hbase
    unfold Oper.wp execOp
    simp only [ho, resolve, invoke, builtin, Sem.run_bind, Sem.run_pure, Result.andThen_ok, List.map_toArray, List.map_cons, List.map_nil, hs, hx, hrun]
    exact hK _ _ (h v' w' h2 h3)

set_option maxRecDepth 100000 in
set_option maxHeartbeats 1000000 in
theorem cloneE_any (v : Value) (l : List Ent) (w : World) (hr : RdE w v l) (hlim : l.length ≤ 1000000) :
    Calls Try.prog 39 #[v] w fun e w' => ∃ v', e = .returned v' ∧ OwnE w' w.heap.size v' l ∧ Below w.heap.size w w' := by
  have HR := hide hr
  obtain ⟨ao, cap, rfl, hlc, -, hn, -⟩ := hr
  cases ao with
  | none =>
    obtain rfl : cap = 0 := hn rfl
    obtain rfl : l = [] := List.eq_nil_of_length_eq_zero (by omega)
    clear hn hlc
    have hnil : ∀ w, (binOp .eql 25 (.slice none 0 0) (.slice none 0 0)).run Try.prog w = .ok (.bool true) w := fun w => run_eql_slice_nil w _ _ none 0 0 Try.underlying25
    go_enter Try.func39, Try.ntmps39
    go_wp2
    go_ret
    exact ⟨_, rfl, OwnE.nil _ _, Below.refl _ _⟩
  | some a =>
    clear hn
    have hnil : ∀ w, (binOp .eql 25 (.slice (some a) l.length cap) (.slice none 0 0)).run Try.prog w = .ok (.bool false) w := fun w => run_eql_slice_nil w _ _ (some a) _ _ Try.underlying25
    have HB0 : Hid (∀ X, Below w.heap.size w (w.alloc X)) := fun X => (Below.refl _ _).alloc (Nat.le_refl _) X
    have HO0 : Hid (OwnE (w.alloc (.cells #[] 48)) w.heap.size (.slice (some ⟨w.heap.size, 0, none⟩) 0 0) []) := hide (OwnE.empty w _ (Nat.le_refl _))
    go_enter Try.func39, Try.ntmps39
    go_wp2_with (at_builtin; refine wpList_append_ents _ rfl _ _ rfl w.heap.size _ [] rfl HO0.out _ l rfl (HR.out.below (HB0.out _) (Nat.le_refl _)) (by simp; omega) (by simp) ?_)
    intro v1 W1 ho1 hb1
    have HO1 := hide ho1
    have HB1 := hide ((HB0.out _).trans hb1)
    clear ho1 hb1
    go_wp2
    go_ret
    exact ⟨_, rfl, HO1.out, HB1.out⟩

/-- Where the first entry stands that p holds of, or -1. -/
def FoundE (p : Ent → Bool) (l : List Ent) (k : Int) : Prop := (k = -1 ∧ ∀ j, j < l.length → p (l.getD j zeroE) = false) ∨ ∃ i : Nat, k = (i : Int) ∧ i < l.length ∧ (∀ j, j < i → p (l.getD j zeroE) = false) ∧ p (l.getD i zeroE) = true

set_option maxRecDepth 100000 in
set_option maxHeartbeats 2000000 in
theorem indexFuncE_any (g R : Nat) (p : Ent → Bool) (v : Value) (l : List Ent) (w : World) (hr : RdE w v l)
    (eg : ∀ args W, (callFunc g args).run Try.prog W = .ok (.enter g args) W)
    (hp : ∀ W e, Below w.heap.size w W → Calls Try.prog g #[entV e, .pointer (some ⟨R, 0, none⟩)] W fun x w' => x = .returned (.bool (p e)) ∧ Below W.heap.size W w') :
    Calls Try.prog 47 #[v, .func (.func g) #[] #[.pointer (some ⟨R, 0, none⟩)]] w fun x w' => ∃ k : Int, x = .returned (.int .i64 k) ∧ FoundE p l k ∧ Below w.heap.size w w' := by
  have HR := hide hr
  have HP := hide hp
  obtain ⟨va, vc, rfl, hlc, hcm, -, -, hao⟩ := hr
  have HAO := hide hao
  have hml : (l.length : Int) ≤ 9223372036854775807 := by unfold maxLen at hcm; omega
  clear hp hlc hcm hao
  go_enter Try.func47, Try.ntmps47
  go_wp2
  go_loopw [8] (fun vi wr => ∃ q : Nat, vi = .int .i64 (q : Int) ∧ q ≤ l.length ∧ Hid (∀ j, j < q → p (l.getD j zeroE) = false) ∧ Hid (Below w.heap.size w wr)) (fun vi _ => l.length - (intOf vi).toNat)
  case atStart => exact ⟨0, rfl, Nat.zero_le _, hide (fun j hj => absurd hj (Nat.not_lt_zero _)), Below.refl _ _⟩
  case round =>
    obtain ⟨q, rfl, hq, hN, hB⟩ := hrel
    by_cases hlt : q < l.length
    case neg =>
      obtain rfl : q = l.length := by omega
      go_wp2
      go_ret
      exact ⟨-1, rfl, .inl ⟨rfl, hN.out⟩, hB.out⟩
    have hqi : (q : Int) < (l.length : Int) := by omega
    rcases HAO.out with h0 | ⟨b, off, rfl, hc⟩
    · rw [h0] at hlt; simp at hlt
    obtain ⟨c0, c1, c2⟩ := (hc q hlt).keep (hB.out.block b (hc q hlt).lt)
    have HC := hide (HP.out wr (l.getD q zeroE) hB.out)
    have HX : Hid (∀ j, j < q + 1 → j = q ∨ j < q) := hide (fun j hj => by omega)
    obtain ⟨e, he⟩ : ∃ e, e = l.getD q zeroE := ⟨_, rfl⟩
    rw [← he] at HC c0 c1 c2
    have HE := hide he
    obtain ⟨pe, hpe⟩ : ∃ pe, pe = p e := ⟨_, rfl⟩
    rw [← hpe] at HC
    have HPE := hide hpe
    clear he hc HP HAO HR hpe
    unfold entV at HC
    obtain ⟨ep, es, er⟩ := e
    simp only at HC c0 c1 c2
    go_wp2_with fail
    refine HC.out.mono ?_
    rintro x W1 ⟨rfl, hb1⟩
    have HB1 := hide (hB.out.trans (hb1.mono hB.out.size))
    clear hb1 HC
    cases pe with
    | true =>
      go_wp2
      go_ret
      exact ⟨(q : Int), rfl, .inr ⟨q, rfl, hlt, hN.out, by rw [← HE.out]; exact HPE.out.symm⟩, HB1.out⟩
    | false =>
      go_wp2
      go_roundw
      case rel => exact ⟨q + 1, by go_num, by omega, hide (fun j hj => by
        rcases HX.out j hj with h | h
        · rw [h, ← HE.out]; exact HPE.out.symm
        · exact hN.out j h), HB1⟩
      case measure => simp [intOf]; omega

end Go.Proofs.Ytanmjihiceibbaa

