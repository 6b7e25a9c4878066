/-
  No cell of these rows narrows 'for every input' (looked for: loops, veiled, ifaces, maps, wideKeys, modest, calm, conditions, laid).
  DERIVED. THE GIVEN ROWS OF THIS SEAT. 5 by the template 'for every input the law returns true; each argument reads behind the call as it read before'; 0 by the template 'total and deterministic' (their statements: YtedfacbngefhnaaTotals.lean).
  GIVEN WITH THE SEED: the statements are not yours to turn. If you find one false, say at which input.
  Laid BY PROGRAM, IN A SANDBOX (cutbox-rows.mjs): the forced cells as the released guide's own fill.sh prints them over the translation f4bf7aec8829e912… (all of the seat's roots in one cut). By AI agents, Wed Nov 11 2026. No macro, syntax, notation, axiom, sorry.
-/
import Derived.Test.YtedfacbngefhnaaChecked
import GoSem.Claim
import GoSem.ClaimJoined
import GoSem.ClaimMapViews
import Derived.JoinedTies
import Derived.KernelRfl
namespace Go.Proofs.Ytedfacbngefhnaa
/- THE CELL 'sum', in the pinned program and in every row, IS THE sha256 OF THE DUMP (.gsa) THAT YtedfacbngefhnaaProg.lean LOADS. Nothing in Lean hashes anything: it is a label: what it is worth is what the hold of that sum in a sandbox is worth. -/
noncomputable def Try.pinned : Pinned := { name := "ytedfacbngefhnaa", sum := "f4bf7aec8829e9121e445a56ddd3a37b5f44df14f6bd0f102b90d663e7a2b267", checked := Try.checked }
namespace Rows
def none {H : Type} : Left H := { results := [], args := [] }

/-- 'ferrymanlaw16.PsimAsks': WHATEVER THE INPUT: true; the input reads as it did. -/
def psimAsksSpec : ChangeSpec := { name := "psimAsks", fn := fun _ => fun
  | [d1, d2, d3, d4] => { results := [.lit (.bool true)], args := [d1, d2, d3, d4] }
  | _ => none }
def psimAsksRow : OpenClaim := { program := "ytedfacbngefhnaa", sum := "f4bf7aec8829e9121e445a56ddd3a37b5f44df14f6bd0f102b90d663e7a2b267", func := "ferryman/ferrymanlaw16.PsimAsks", spec := "psimAsks", inPlace := ["slices.overlaps[int]"], unfollowed := true, recurses := true, apart := false }
def PsimAsksSaid : Prop := psimAsksRow.holds Try.pinned (OpenSpec.ofChange psimAsksSpec)

/-- ITS FALSE NEIGHBOUR: 'it returns false'. Refute it at one input. -/
def psimAsksWrong : ChangeSpec := { name := "psimAsks", fn := fun _ => fun
  | [d1, d2, d3, d4] => { results := [.lit (.bool false)], args := [d1, d2, d3, d4] }
  | _ => none }
def PsimAsksWrongFalsely : Prop := psimAsksRow.holds Try.pinned (OpenSpec.ofChange psimAsksWrong)

/-- 'ferrymanlaw16.PsimOnce': WHATEVER THE INPUT: true; the input reads as it did. -/
def psimOnceSpec : ChangeSpec := { name := "psimOnce", fn := fun _ => fun
  | [d1, d2, d3] => { results := [.lit (.bool true)], args := [d1, d2, d3] }
  | _ => none }
def psimOnceRow : OpenClaim := { program := "ytedfacbngefhnaa", sum := "f4bf7aec8829e9121e445a56ddd3a37b5f44df14f6bd0f102b90d663e7a2b267", func := "ferryman/ferrymanlaw16.PsimOnce", spec := "psimOnce", inPlace := ["slices.overlaps[int]"], unfollowed := true, recurses := true, apart := false }
def PsimOnceSaid : Prop := psimOnceRow.holds Try.pinned (OpenSpec.ofChange psimOnceSpec)

/-- ITS FALSE NEIGHBOUR: 'it returns false'. Refute it at one input. -/
def psimOnceWrong : ChangeSpec := { name := "psimOnce", fn := fun _ => fun
  | [d1, d2, d3] => { results := [.lit (.bool false)], args := [d1, d2, d3] }
  | _ => none }
def PsimOnceWrongFalsely : Prop := psimOnceRow.holds Try.pinned (OpenSpec.ofChange psimOnceWrong)

/-- 'ferrymanlaw16.PsimOrder': WHATEVER THE INPUT: true; the input reads as it did. -/
def psimOrderSpec : ChangeSpec := { name := "psimOrder", fn := fun _ => fun
  | [d1, d2, d3] => { results := [.lit (.bool true)], args := [d1, d2, d3] }
  | _ => none }
def psimOrderRow : OpenClaim := { program := "ytedfacbngefhnaa", sum := "f4bf7aec8829e9121e445a56ddd3a37b5f44df14f6bd0f102b90d663e7a2b267", func := "ferryman/ferrymanlaw16.PsimOrder", spec := "psimOrder", inPlace := ["slices.overlaps[int]"], unfollowed := true, recurses := true, apart := false }
def PsimOrderSaid : Prop := psimOrderRow.holds Try.pinned (OpenSpec.ofChange psimOrderSpec)

/-- ITS FALSE NEIGHBOUR: 'it returns false'. Refute it at one input. -/
def psimOrderWrong : ChangeSpec := { name := "psimOrder", fn := fun _ => fun
  | [d1, d2, d3] => { results := [.lit (.bool false)], args := [d1, d2, d3] }
  | _ => none }
def PsimOrderWrongFalsely : Prop := psimOrderRow.holds Try.pinned (OpenSpec.ofChange psimOrderWrong)

/-- 'ferrymanlaw16.PsimGrows': WHATEVER THE INPUT: true; the input reads as it did. -/
def psimGrowsSpec : ChangeSpec := { name := "psimGrows", fn := fun _ => fun
  | [d1, d2, d3, d4] => { results := [.lit (.bool true)], args := [d1, d2, d3, d4] }
  | _ => none }
def psimGrowsRow : OpenClaim := { program := "ytedfacbngefhnaa", sum := "f4bf7aec8829e9121e445a56ddd3a37b5f44df14f6bd0f102b90d663e7a2b267", func := "ferryman/ferrymanlaw16.PsimGrows", spec := "psimGrows", inPlace := ["slices.overlaps[int]"], unfollowed := true, recurses := true, apart := false }
def PsimGrowsSaid : Prop := psimGrowsRow.holds Try.pinned (OpenSpec.ofChange psimGrowsSpec)

/-- ITS FALSE NEIGHBOUR: 'it returns false'. Refute it at one input. -/
def psimGrowsWrong : ChangeSpec := { name := "psimGrows", fn := fun _ => fun
  | [d1, d2, d3, d4] => { results := [.lit (.bool false)], args := [d1, d2, d3, d4] }
  | _ => none }
def PsimGrowsWrongFalsely : Prop := psimGrowsRow.holds Try.pinned (OpenSpec.ofChange psimGrowsWrong)

/-- 'ferrymanlaw16.PsimBound': WHATEVER THE INPUT: true; the input reads as it did. -/
def psimBoundSpec : ChangeSpec := { name := "psimBound", fn := fun _ => fun
  | [d1, d2, d3, d4] => { results := [.lit (.bool true)], args := [d1, d2, d3, d4] }
  | _ => none }
def psimBoundRow : OpenClaim := { program := "ytedfacbngefhnaa", sum := "f4bf7aec8829e9121e445a56ddd3a37b5f44df14f6bd0f102b90d663e7a2b267", func := "ferryman/ferrymanlaw16.PsimBound", spec := "psimBound", inPlace := ["slices.overlaps[int]"], unfollowed := true, recurses := true, apart := false }
def PsimBoundSaid : Prop := psimBoundRow.holds Try.pinned (OpenSpec.ofChange psimBoundSpec)

/-- ITS FALSE NEIGHBOUR: 'it returns false'. Refute it at one input. -/
def psimBoundWrong : ChangeSpec := { name := "psimBound", fn := fun _ => fun
  | [d1, d2, d3, d4] => { results := [.lit (.bool false)], args := [d1, d2, d3, d4] }
  | _ => none }
def PsimBoundWrongFalsely : Prop := psimBoundRow.holds Try.pinned (OpenSpec.ofChange psimBoundWrong)

/- THE SECOND FORM. 'bulk': how many values and letters a reading holds, each counted each time it is reached (what is shared counts as often as it is met; a slice's spare places count too). A statement '..UptoSaid' is the law's where the arguments, and the package variables that the reading takes, are together of bulk at most 1048576: NARROWER than '..Said'. Prove '..Said' where nothing that the law and all that it calls make is longer than what came in: it says more and counts as full. Else prove '..UptoSaid'. A law counts once. -/
mutual
def uptoBulk {H : Type} : DataW H → Nat
  | .lit (.string bytes) => bytes.length + 1
  | .lit _ => 1
  | .nil => 1
  | .ptr d => uptoBulk d + 1
  | .slice elems spare => uptoBulkAll elems + uptoBulkAll spare + 1
  | .agg parts => uptoBulkAll parts + 1
  | .iface _ d => uptoBulk d + 1
  | .map entries => uptoBulkEntries entries + 1
  | .held _ => 1
def uptoBulkAll {H : Type} : List (DataW H) → Nat
  | [] => 0
  | d :: r => uptoBulk d + uptoBulkAll r
def uptoBulkEntries {H : Type} : List (Lit × DataW H) → Nat
  | [] => 0
  | x :: r => uptoBulkEntry x + uptoBulkEntries r
def uptoBulkEntry {H : Type} : Lit × DataW H → Nat
  | (.string bytes, d) => bytes.length + uptoBulk d + 1
  | (_, d) => uptoBulk d + 1
 end
def uptoSmall : (H : Type) → List (DataW H) → Bool := fun _ ds => decide (uptoBulkAll ds ≤ 1048576)
def OpenSpec.upto (s : _root_.Go.ChangeSpec) : _root_.Go.OpenSpec := { _root_.Go.OpenSpec.ofChange s with cond := some uptoSmall }

/-- 'ferrymanlaw16.PsimAsks', WHERE WHAT IT READS IS OF BULK AT MOST 1048576: true; the input reads as it did. -/
def psimAsksUptoRow : OpenClaim := { program := "ytedfacbngefhnaa", sum := "f4bf7aec8829e9121e445a56ddd3a37b5f44df14f6bd0f102b90d663e7a2b267", func := "ferryman/ferrymanlaw16.PsimAsks", spec := "psimAsks", inPlace := ["slices.overlaps[int]"], unfollowed := true, recurses := true, apart := false, narrowed := true }
def PsimAsksUptoSaid : Prop := psimAsksUptoRow.holds Try.pinned (OpenSpec.upto psimAsksSpec)

/-- 'ferrymanlaw16.PsimOnce', WHERE WHAT IT READS IS OF BULK AT MOST 1048576: true; the input reads as it did. -/
def psimOnceUptoRow : OpenClaim := { program := "ytedfacbngefhnaa", sum := "f4bf7aec8829e9121e445a56ddd3a37b5f44df14f6bd0f102b90d663e7a2b267", func := "ferryman/ferrymanlaw16.PsimOnce", spec := "psimOnce", inPlace := ["slices.overlaps[int]"], unfollowed := true, recurses := true, apart := false, narrowed := true }
def PsimOnceUptoSaid : Prop := psimOnceUptoRow.holds Try.pinned (OpenSpec.upto psimOnceSpec)

/-- 'ferrymanlaw16.PsimOrder', WHERE WHAT IT READS IS OF BULK AT MOST 1048576: true; the input reads as it did. -/
def psimOrderUptoRow : OpenClaim := { program := "ytedfacbngefhnaa", sum := "f4bf7aec8829e9121e445a56ddd3a37b5f44df14f6bd0f102b90d663e7a2b267", func := "ferryman/ferrymanlaw16.PsimOrder", spec := "psimOrder", inPlace := ["slices.overlaps[int]"], unfollowed := true, recurses := true, apart := false, narrowed := true }
def PsimOrderUptoSaid : Prop := psimOrderUptoRow.holds Try.pinned (OpenSpec.upto psimOrderSpec)

/-- 'ferrymanlaw16.PsimGrows', WHERE WHAT IT READS IS OF BULK AT MOST 1048576: true; the input reads as it did. -/
def psimGrowsUptoRow : OpenClaim := { program := "ytedfacbngefhnaa", sum := "f4bf7aec8829e9121e445a56ddd3a37b5f44df14f6bd0f102b90d663e7a2b267", func := "ferryman/ferrymanlaw16.PsimGrows", spec := "psimGrows", inPlace := ["slices.overlaps[int]"], unfollowed := true, recurses := true, apart := false, narrowed := true }
def PsimGrowsUptoSaid : Prop := psimGrowsUptoRow.holds Try.pinned (OpenSpec.upto psimGrowsSpec)

/-- 'ferrymanlaw16.PsimBound', WHERE WHAT IT READS IS OF BULK AT MOST 1048576: true; the input reads as it did. -/
def psimBoundUptoRow : OpenClaim := { program := "ytedfacbngefhnaa", sum := "f4bf7aec8829e9121e445a56ddd3a37b5f44df14f6bd0f102b90d663e7a2b267", func := "ferryman/ferrymanlaw16.PsimBound", spec := "psimBound", inPlace := ["slices.overlaps[int]"], unfollowed := true, recurses := true, apart := false, narrowed := true }
def PsimBoundUptoSaid : Prop := psimBoundUptoRow.holds Try.pinned (OpenSpec.upto psimBoundSpec)

end Rows
end Go.Proofs.Ytedfacbngefhnaa
