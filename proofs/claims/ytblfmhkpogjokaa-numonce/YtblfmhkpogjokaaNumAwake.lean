/- awake answers true: the chapter's examples. It only makes memory of its own. -/
import Derived.Test.YtblfmhkpogjokaaNumPut
import Derived.Test.YtblfmhkpogjokaaNumFix
namespace Go.Proofs.Ytblfmhkpogjokaa
open Go.RowKit

/-- Bytes as a string. -/
def bs (l : List UInt8) : ByteArray := ⟨l.toArray⟩

theorem bs_list (l : List UInt8) : (bs l).toList = l := ByteArray.toList_mk l

theorem bs_size (l : List UInt8) : (bs l).size = l.length := by simp [bs, ByteArray.size]

theorem bs_take (l : List UInt8) (n : Nat) : ((bs l).extract 0 n).toList = l.take n := by
  rw [ByteArray.toList_eq]
  simp [bs]

theorem bs_eq (a b : List UInt8) : ((bs a).toList == (bs b).toList) = (a == b) := by rw [bs_list, bs_list]

theorem Rd.str {w : World} {v : Value} {l : List UInt8} (h : Rd w v l) : (convert 22 9 v).run Try.prog w = .ok (.string (bs l)) w := by
  obtain ⟨ao, cap, rfl, _, _, hn, h⟩ := h
  cases ao with
  | none =>
    have hl : l = [] := List.eq_nil_of_length_eq_zero (by have := hn rfl; omega)
    subst hl
    exact run_convert_bytes_nil w 22 5 Try.underlying22 Try.underlying5 0 cap 9 Try.underlying9
  | some a =>
    have hl : (loadCells a l.length).run Try.prog w = .ok ((l.map fun c => (c.toNat : Int)).map (Value.int .u8)).toArray w := by
      have := run_loadCells_list (P := Try.prog) w a (Lib.byteCells l) (Rd.cells h a rfl)
      rw [byteCells_length] at this
      rw [this]
      simp [Lib.byteCells, Function.comp_def]
    rw [run_convert_bytes_string w 22 9 5 _ l.length cap Try.underlying22 Try.underlying5 Try.underlying9, run_bytesToString w _ l.length cap _ hl, foldl_push_bytes]
    have e : (List.map (fun n : Int => UInt8.ofNat n.toNat) (List.map (fun c : UInt8 => (c.toNat : Int)) l)) = l := by
      rw [List.map_map]
      conv => rhs; rw [← List.map_id l]
      apply List.map_congr_left
      intro c _
      simp
    rw [e]
    simp [bs, ByteArray.empty, ByteArray.emptyWithCapacity]
    rfl

theorem uvarint300 : Lib.uvarint 300 = [172, 2] := by
  rw [Lib.uvarint_big (by decide), Lib.uvarint_small (by decide)]
  decide

set_option maxRecDepth 100000 in
set_option maxHeartbeats 1000000 in
theorem awake_any (w : World) :
    Calls Try.prog 9 #[] w fun e w' => e = .returned (.bool true) ∧ Below w.heap.size w w' := by
  have hr0 : Rd (w.alloc (.cells #[.int .u8 128, .int .u8 0] 5)) (.slice (some ⟨w.heap.size, 0, none⟩) 2 2) [128, 0] := by
    refine ⟨_, 2, rfl, by decide, by decide, (fun e => by cases e), .inr ⟨_, _, rfl, ?_⟩⟩
    intro j hj
    match j, hj with
    | 0, _ => simp
    | 1, _ => simp
  have HG : Hid (Calls Try.prog 21 #[.slice (some ⟨w.heap.size, 0, none⟩) 2 2] (w.alloc (.cells #[.int .u8 128, .int .u8 0] 5)) fun e w' => e = .returned (.tuple #[.int .i64 0, .int .i64 0]) ∧ w' = w.alloc (.cells #[.int .u8 128, .int .u8 0] 5)) := by
    have h := get_any _ [128, 0] _ hr0
    have e : dec62 [128, 0] = (0, 0) := by decide
    rw [e] at h
    exact h
  clear hr0
  have hb0 : Below w.heap.size w (w.alloc (.cells #[.int .u8 128, .int .u8 0] 5)) := (Below.refl _ _).alloc (Nat.le_refl _) _
  have HB0 := hide hb0
  clear hb0
  go_enter Try.func9, Try.ntmps9
  go_wp2_with fail
  refine HG.out.mono ?_
  rintro e w1 ⟨rfl, rfl⟩
  clear HG
  generalize w.alloc (.cells #[.int .u8 128, .int .u8 0] 5) = w1 at *
  go_wp2_with fail
  refine (put_any _ [] 300 w1 (Rd.nil _) (by decide)).mono ?_
  rintro e w2 ⟨v2, rfl, ho2, hb2⟩
  have hcv : (convert 22 9 v2).run Try.prog w2 = .ok (.string ⟨#[172, 2]⟩) w2 := by
    have := ho2.rd.str
    have e : putOf [] 300 = [172, 2] := by
      unfold putOf
      rw [if_pos (by decide)]
      exact uvarint300
    rw [e] at this
    exact this
  have HB2 := hide (HB0.out.trans (hb2.mono HB0.out.size))
  clear ho2 hb2
  go_wp2_with fail
  have HZ : Hid (Calls Try.prog 17 #[.int .i64 (-1)] w2 fun e w' => e = .returned (.int .u64 1) ∧ w' = w2) := zig_any (-1) w2 (by decide) (by decide)
  refine HZ.out.mono ?_
  rintro e w3 ⟨rfl, rfl⟩
  clear HZ
  go_wp2_with fail
  have HZ : Hid (Calls Try.prog 19 #[.int .u64 4] w3 fun e w' => e = .returned (.int .i64 2) ∧ w' = w3) := zag_any 4 w3 (by decide)
  refine HZ.out.mono ?_
  rintro e w4 ⟨rfl, rfl⟩
  clear HZ
  go_wp2_with fail
  have HZ : Hid (Calls Try.prog 14 #[.int .u32 258] w4 fun e w' => ∃ v', e = .returned v' ∧ Own w' w4.heap.size v' [2, 1, 0, 0] ∧ Below w4.heap.size w4 w') := fixed32_any 258 w4 (by decide)
  refine HZ.out.mono ?_
  rintro e w5 ⟨v5, rfl, ho5, hb5⟩
  clear HZ hcv
  have hcv : (convert 22 9 v5).run Try.prog w5 = .ok (.string ⟨#[2, 1, 0, 0]⟩) w5 := ho5.rd.str
  have HB5 := hide (HB2.out.trans (hb5.mono HB2.out.size))
  clear ho5 hb5
  go_wp2
  go_ret
  exact ⟨rfl, HB5.out⟩

end Go.Proofs.Ytblfmhkpogjokaa
