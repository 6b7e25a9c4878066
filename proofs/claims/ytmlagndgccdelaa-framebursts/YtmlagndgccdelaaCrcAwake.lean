/- awake of layer crc answers true: the chapter's example. It only makes memory of its own. -/
import Derived.Test.YtmlagndgccdelaaCrcOwn
import Derived.Test.YtmlagndgccdelaaNumApp
namespace Go.Proofs.Ytmlagndgccdelaa
open Go.RowKit

theorem crcMore9 : crcMore 0 [49, 50, 51, 52, 53, 54, 55, 56, 57] = 3808858755 := by decide +kernel

theorem u32_bd {n : Int} (h : (Lit.int .u32 n).wf = true) : 0 ≤ n ∧ n ≤ 4294967295 := by
  simpa [Lit.wf, IntKind.min, IntKind.max, IntKind.signed, IntKind.bits] using h

theorem u8_bd {n : Int} (h : (Lit.int .u8 n).wf = true) : 0 ≤ n ∧ n ≤ 255 := by
  simpa [Lit.wf, IntKind.min, IntKind.max, IntKind.signed, IntKind.bits] using h

/-- A text's bytes as the conversion leaves them: one row more, marked behind its end. -/
def textWorld (w : World) (C : Array Value) : World := (w.alloc (.cells C 5)).freeze ⟨w.heap.size, C.size, none⟩ 1

theorem conv_bytes (w : World) (C : Array Value) (l c : Nat) : (convert 22 22 (.slice (some ⟨w.heap.size, 0, none⟩) l c)).run Try.prog (w.alloc (.cells C 5)) = .ok (.slice (some ⟨w.heap.size, 0, none⟩) l c) (textWorld w C) := by
  have hsh : (w.alloc (.cells C 5)).shape? w.heap.size = some (5, C.size) := by
    simp [World.shape?, World.alloc, -World.alloc_eq]
  simp [convert, run_underlying Try.underlying22, run_underlying Try.underlying5, markStringish, textWorld, hsh, Result.andThen]

theorem textWorld_below (w : World) (C : Array Value) : Below w.heap.size w (textWorld w C) := by
  refine ⟨rfl, rfl, rfl, ?_, fun k hk => ?_⟩
  · simp [textWorld, World.freeze, World.alloc, -World.alloc_eq]
  · have h1 : w.heap.size ≠ k := by omega
    simp [textWorld, World.freeze, World.alloc, -World.alloc_eq, Array.getElem?_modify, Array.getElem?_push, h1, Ne.symm h1]

theorem textWorld_cell (w : World) (C : Array Value) (j : Nat) : (textWorld w C).cell? ⟨w.heap.size, j, none⟩ = C[j]? := by
  have h : (textWorld w C).heap[w.heap.size]? = some (.cells C 5 (C.size, C.size + 1)) := by
    simp [textWorld, World.freeze, World.alloc, -World.alloc_eq]
    rw [Array.getElem_modify_self]
    simp
  simp [World.cell?, h]

end Go.Proofs.Ytmlagndgccdelaa
