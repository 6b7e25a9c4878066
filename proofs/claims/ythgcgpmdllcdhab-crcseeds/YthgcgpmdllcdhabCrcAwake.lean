/- awake of layer crc answers true: the chapter's example. It only makes memory of its own. -/
import Derived.Test.YthgcgpmdllcdhabCrcOwn
import Derived.Test.YthgcgpmdllcdhabNumApp
namespace Go.Proofs.Ythgcgpmdllcdhab
open Go.RowKit

theorem crcMore9 : crcMore 0 [49, 50, 51, 52, 53, 54, 55, 56, 57] = 3808858755 := by decide +kernel

theorem u32_bd {n : Int} (h : (Lit.int .u32 n).wf = true) : 0 ≤ n ∧ n ≤ 4294967295 := by
  simpa [Lit.wf, IntKind.min, IntKind.max, IntKind.signed, IntKind.bits] using h

theorem u8_bd {n : Int} (h : (Lit.int .u8 n).wf = true) : 0 ≤ n ∧ n ≤ 255 := by
  simpa [Lit.wf, IntKind.min, IntKind.max, IntKind.signed, IntKind.bits] using h

/-- A text's bytes as the conversion leaves them: one row more, marked behind its end. -/
def textWorld (w : World) (C : Array Value) : World := (w.alloc (.cells C 5)).freeze ⟨w.heap.size, C.size, none⟩ 1

theorem conv_bytes (w : World) (C : Array Value) (l c : Nat) : (convert 23 23 (.slice (some ⟨w.heap.size, 0, none⟩) l c)).run Try.prog (w.alloc (.cells C 5)) = .ok (.slice (some ⟨w.heap.size, 0, none⟩) l c) (textWorld w C) := by
  have hsh : (w.alloc (.cells C 5)).shape? w.heap.size = some (5, C.size) := by
    simp [World.shape?, World.alloc, -World.alloc_eq]
  simp [convert, run_underlying Try.underlying23, run_underlying Try.underlying5, markStringish, textWorld, hsh, Result.andThen]

theorem textWorld_below (w : World) (C : Array Value) : Below w.heap.size w (textWorld w C) := by
  refine ⟨rfl, rfl, rfl, ?_, fun k hk => ?_⟩
  · simp [textWorld, World.freeze, World.alloc, -World.alloc_eq]
  · have h1 : w.heap.size ≠ k := by omega
    simp [textWorld, World.freeze, World.alloc, -World.alloc_eq, Array.getElem?_modify, Array.getElem?_push, h1, Ne.symm h1]

theorem textWorld_cell (w : World) (C : Array Value) (j : Nat) : (textWorld w C).cell? ⟨w.heap.size, j, none⟩ = C[j]? := by
  have h : (textWorld w C).heap[w.heap.size]? = some (.cells C 5 (C.size, C.size + 1)) := by
    simp [textWorld, World.freeze, World.alloc, -World.alloc_eq]
    rw [Array.getElem_modify_self]
    simp
  simp [World.cell?, h]

set_option maxRecDepth 100000 in
set_option maxHeartbeats 1000000 in
theorem awake_any (w : World) :
    Calls Try.prog 5 #[] w fun e w' => e = .returned (.bool true) ∧ Below w.heap.size w w' := by
  have hr0 : Rd (textWorld w #[.int .u8 49, .int .u8 50, .int .u8 51, .int .u8 52, .int .u8 53, .int .u8 54, .int .u8 55, .int .u8 56, .int .u8 57]) (.slice (some ⟨w.heap.size, 0, none⟩) 9 9) [49, 50, 51, 52, 53, 54, 55, 56, 57] := by
    refine ⟨_, 9, rfl, by decide, by decide, (fun e => by cases e), .inr ⟨_, _, rfl, ?_⟩⟩
    intro j hj
    rw [Nat.zero_add, textWorld_cell]
    match j, hj with
    | 0, _ => rfl
    | 1, _ => rfl
    | 2, _ => rfl
    | 3, _ => rfl
    | 4, _ => rfl
    | 5, _ => rfl
    | 6, _ => rfl
    | 7, _ => rfl
    | 8, _ => rfl
  have hcv := conv_bytes w #[.int .u8 49, .int .u8 50, .int .u8 51, .int .u8 52, .int .u8 53, .int .u8 54, .int .u8 55, .int .u8 56, .int .u8 57] 9 9
  have HB0 := hide (textWorld_below w #[.int .u8 49, .int .u8 50, .int .u8 51, .int .u8 52, .int .u8 53, .int .u8 54, .int .u8 55, .int .u8 56, .int .u8 57])
  generalize textWorld w #[.int .u8 49, .int .u8 50, .int .u8 51, .int .u8 52, .int .u8 53, .int .u8 54, .int .u8 55, .int .u8 56, .int .u8 57] = w0 at *
  have h := sum_any _ _ _ hr0
  rw [crcMore9] at h
  have HG := hide h
  clear hr0 h
  go_enter Try.func5, Try.ntmps5
  go_wp2_with fail
  refine HG.out.mono ?_
  rintro e w1 ⟨rfl, hb1⟩
  have HB1 := hide (HB0.out.trans (hb1.mono HB0.out.size))
  clear hb1 HG HB0 hcv
  go_wp2_with fail
  have HZ : Hid (Calls Try.prog 7 #[.slice none 0 0] w1 fun e w' => e = .returned (.int .u32 0) ∧ Below w1.heap.size w1 w') := sum_any _ [] w1 (Rd.nil _)
  refine HZ.out.mono ?_
  rintro e w2 ⟨rfl, hb2⟩
  have HB2 := hide (HB1.out.trans (hb2.mono HB1.out.size))
  clear hb2 HZ
  go_wp2
  go_ret
  exact ⟨rfl, HB2.out⟩

end Go.Proofs.Ythgcgpmdllcdhab
