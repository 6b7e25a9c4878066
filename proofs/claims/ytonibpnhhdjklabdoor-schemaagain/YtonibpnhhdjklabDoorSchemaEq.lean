/- Records held against each other. -/
import Derived.Test.YtonibpnhhdjklabDoorSchemaOwn
import Derived.Test.YtonibpnhhdjklabDoorRecEq
namespace Go.Proofs.YtonibpnhhdjklabDoor
open Go.RowKit

theorem encR_length {v : Int} (h1 : 1 ≤ v) (h3 : v ≤ 3) {r : Rec} (h : FitsR r) : (encR v r).length ≤ 300 := by
  obtain ⟨_, hh, hl⟩ := fields_ok h1 h3
  have k1 := encFs_length h (fieldsV v) (fun f hf => (small_f (hh f hf)).2)
  have k2 := uv10' (n := v.toNat) (by omega)
  unfold encR
  rw [List.length_append]
  omega

/-- One byte, just built. -/
theorem Rd.byte (W : World) (N : Nat) (hN : N = W.heap.size) (x : Int) (n : Nat) (hx : x = (n : Int)) (hn : n < 256) : Rd (W.alloc (.cells #[.int .u8 x] 5)) (.slice (some ⟨N, 0, none⟩) 1 1) [n.toUInt8] := by
  subst hN hx
  refine ⟨some ⟨W.heap.size, 0, none⟩, 1, rfl, Nat.le_refl _, by unfold maxLen; decide, fun e => (by cases e), .inr ⟨W.heap.size, 0, rfl, fun j hj => ?_⟩⟩
  obtain rfl : j = 0 := by simpa using hj
  rw [cell_of_row _ W.heap.size 0 _ 5 (0, 0) (heap_alloc_new W _)]
  have e : (n.toUInt8).toNat = n := by simp [Nat.toUInt8]; omega
  simp [e]

end Go.Proofs.YtonibpnhhdjklabDoor
