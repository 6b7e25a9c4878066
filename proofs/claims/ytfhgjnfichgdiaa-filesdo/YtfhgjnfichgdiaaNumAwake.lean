/- awake answers true: the chapter's examples. It only makes memory of its own. -/
import Derived.Test.YtfhgjnfichgdiaaNumPut
import Derived.Test.YtfhgjnfichgdiaaNumFix
namespace Go.Proofs.Ytfhgjnfichgdiaa
open Go.RowKit

/-- Bytes as a string. -/
def bs (l : List UInt8) : ByteArray := ⟨l.toArray⟩

theorem bs_list (l : List UInt8) : (bs l).toList = l := ByteArray.toList_mk l

theorem bs_size (l : List UInt8) : (bs l).size = l.length := by simp [bs, ByteArray.size]

theorem bs_take (l : List UInt8) (n : Nat) : ((bs l).extract 0 n).toList = l.take n := by
  rw [ByteArray.toList_eq]
  simp [bs]

theorem bs_eq (a b : List UInt8) : ((bs a).toList == (bs b).toList) = (a == b) := by rw [bs_list, bs_list]

theorem Rd.str {w : World} {v : Value} {l : List UInt8} (h : Rd w v l) : (convert 30 9 v).run Try.prog w = .ok (.string (bs l)) w := by
  obtain ⟨ao, cap, rfl, _, _, hn, h⟩ := h
  cases ao with
  | none =>
    have hl : l = [] := List.eq_nil_of_length_eq_zero (by have := hn rfl; omega)
    subst hl
    exact run_convert_bytes_nil w 30 5 Try.underlying30 Try.underlying5 0 cap 9 Try.underlying9
  | some a =>
    have hl : (loadCells a l.length).run Try.prog w = .ok ((l.map fun c => (c.toNat : Int)).map (Value.int .u8)).toArray w := by
      have := run_loadCells_list (P := Try.prog) w a (Lib.byteCells l) (Rd.cells h a rfl)
      rw [byteCells_length] at this
      rw [this]
      simp [Lib.byteCells, Function.comp_def]
    rw [run_convert_bytes_string w 30 9 5 _ l.length cap Try.underlying30 Try.underlying5 Try.underlying9, run_bytesToString w _ l.length cap _ hl, foldl_push_bytes]
    have e : (List.map (fun n : Int => UInt8.ofNat n.toNat) (List.map (fun c : UInt8 => (c.toNat : Int)) l)) = l := by
      rw [List.map_map]
      conv => rhs; rw [← List.map_id l]
      apply List.map_congr_left
      intro c _
      simp
    rw [e]
    simp [bs, ByteArray.empty, ByteArray.emptyWithCapacity]
    rfl

theorem uvarint300 : Lib.uvarint 300 = [172, 2] := by
  rw [Lib.uvarint_big (by decide), Lib.uvarint_small (by decide)]
  decide

end Go.Proofs.Ytfhgjnfichgdiaa
