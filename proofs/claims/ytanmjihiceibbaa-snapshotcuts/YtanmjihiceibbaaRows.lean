/-
  No cell of these rows narrows 'for every input' (looked for: loops, veiled, ifaces, maps, wideKeys, modest, calm, conditions, laid).
  DERIVED. THE GIVEN ROWS OF THIS SEAT. 4 by the template 'for every input the law returns true; each argument reads behind the call as it read before'; 0 by the template 'total and deterministic' (their statements: YtanmjihiceibbaaTotals.lean).
  GIVEN WITH THE SEED: the statements are not yours to turn. If you find one false, say at which input.
  Laid BY PROGRAM, IN A SANDBOX (cutbox-rows.mjs): the forced cells as the released guide's own fill.sh prints them over the translation 54f25466ffdfdfe9… (all of the seat's roots in one cut). By AI agents, Wed Nov 11 2026. No macro, syntax, notation, axiom, sorry.
-/
import Derived.Test.YtanmjihiceibbaaChecked
import GoSem.Claim
import GoSem.ClaimJoined
import GoSem.ClaimMapViews
import Derived.JoinedTies
import Derived.KernelRfl
namespace Go.Proofs.Ytanmjihiceibbaa
/- THE CELL 'sum', in the pinned program and in every row, IS THE sha256 OF THE DUMP (.gsa) THAT YtanmjihiceibbaaProg.lean LOADS. Nothing in Lean hashes anything: it is a label: what it is worth is what the hold of that sum in a sandbox is worth. -/
noncomputable def Try.pinned : Pinned := { name := "ytanmjihiceibbaa", sum := "54f25466ffdfdfe922c50c7a3f7db120e0ee8b6d5157d302c40c17c6c7be235d", checked := Try.checked }
namespace Rows
def none {H : Type} : Left H := { results := [], args := [] }

/-- 'ferrymanlaw09.SnapshotEncodes': WHATEVER THE INPUT: true; the input reads as it did. -/
def snapshotEncodesSpec : ChangeSpec := { name := "snapshotEncodes", fn := fun _ => fun
  | [d1, d2] => { results := [.lit (.bool true)], args := [d1, d2] }
  | _ => none }
def snapshotEncodesRow : OpenClaim := { program := "ytanmjihiceibbaa", sum := "54f25466ffdfdfe922c50c7a3f7db120e0ee8b6d5157d302c40c17c6c7be235d", func := "ferryman/ferrymanlaw09.SnapshotEncodes", spec := "snapshotEncodes", inPlace := ["slices.overlaps[int]", "slices.overlaps[ferryman/api.Entry]"], unfollowed := true, recurses := true, apart := false }
def SnapshotEncodesSaid : Prop := snapshotEncodesRow.holds Try.pinned (OpenSpec.ofChange snapshotEncodesSpec)

/-- ITS FALSE NEIGHBOUR: 'it returns false'. Refute it at one input. -/
def snapshotEncodesWrong : ChangeSpec := { name := "snapshotEncodes", fn := fun _ => fun
  | [d1, d2] => { results := [.lit (.bool false)], args := [d1, d2] }
  | _ => none }
def SnapshotEncodesWrongFalsely : Prop := snapshotEncodesRow.holds Try.pinned (OpenSpec.ofChange snapshotEncodesWrong)

/-- 'ferrymanlaw09.SnapshotTakes': WHATEVER THE INPUT: true; the input reads as it did. -/
def snapshotTakesSpec : ChangeSpec := { name := "snapshotTakes", fn := fun _ => fun
  | [d1, d2, d3] => { results := [.lit (.bool true)], args := [d1, d2, d3] }
  | _ => none }
def snapshotTakesRow : OpenClaim := { program := "ytanmjihiceibbaa", sum := "54f25466ffdfdfe922c50c7a3f7db120e0ee8b6d5157d302c40c17c6c7be235d", func := "ferryman/ferrymanlaw09.SnapshotTakes", spec := "snapshotTakes", inPlace := ["slices.overlaps[int]", "slices.overlaps[ferryman/api.Entry]"], unfollowed := true, recurses := true, apart := false }
def SnapshotTakesSaid : Prop := snapshotTakesRow.holds Try.pinned (OpenSpec.ofChange snapshotTakesSpec)

/-- ITS FALSE NEIGHBOUR: 'it returns false'. Refute it at one input. -/
def snapshotTakesWrong : ChangeSpec := { name := "snapshotTakes", fn := fun _ => fun
  | [d1, d2, d3] => { results := [.lit (.bool false)], args := [d1, d2, d3] }
  | _ => none }
def SnapshotTakesWrongFalsely : Prop := snapshotTakesRow.holds Try.pinned (OpenSpec.ofChange snapshotTakesWrong)

/-- 'ferrymanlaw09.SnapshotOnce': WHATEVER THE INPUT: true; the input reads as it did. -/
def snapshotOnceSpec : ChangeSpec := { name := "snapshotOnce", fn := fun _ => fun
  | [d] => { results := [.lit (.bool true)], args := [d] }
  | _ => none }
def snapshotOnceRow : OpenClaim := { program := "ytanmjihiceibbaa", sum := "54f25466ffdfdfe922c50c7a3f7db120e0ee8b6d5157d302c40c17c6c7be235d", func := "ferryman/ferrymanlaw09.SnapshotOnce", spec := "snapshotOnce", inPlace := ["slices.overlaps[int]", "slices.overlaps[ferryman/api.Entry]"], unfollowed := true, recurses := true, apart := false }
def SnapshotOnceSaid : Prop := snapshotOnceRow.holds Try.pinned (OpenSpec.ofChange snapshotOnceSpec)

/-- ITS FALSE NEIGHBOUR: 'it returns false'. Refute it at one input. -/
def snapshotOnceWrong : ChangeSpec := { name := "snapshotOnce", fn := fun _ => fun
  | [d] => { results := [.lit (.bool false)], args := [d] }
  | _ => none }
def SnapshotOnceWrongFalsely : Prop := snapshotOnceRow.holds Try.pinned (OpenSpec.ofChange snapshotOnceWrong)

/-- 'ferrymanlaw09.SnapshotCuts': WHATEVER THE INPUT: true; the input reads as it did. -/
def snapshotCutsSpec : ChangeSpec := { name := "snapshotCuts", fn := fun _ => fun
  | [d1, d2, d3] => { results := [.lit (.bool true)], args := [d1, d2, d3] }
  | _ => none }
def snapshotCutsRow : OpenClaim := { program := "ytanmjihiceibbaa", sum := "54f25466ffdfdfe922c50c7a3f7db120e0ee8b6d5157d302c40c17c6c7be235d", func := "ferryman/ferrymanlaw09.SnapshotCuts", spec := "snapshotCuts", inPlace := ["slices.overlaps[int]", "slices.overlaps[ferryman/api.Entry]"], unfollowed := true, recurses := true, apart := false }
def SnapshotCutsSaid : Prop := snapshotCutsRow.holds Try.pinned (OpenSpec.ofChange snapshotCutsSpec)

/-- ITS FALSE NEIGHBOUR: 'it returns false'. Refute it at one input. -/
def snapshotCutsWrong : ChangeSpec := { name := "snapshotCuts", fn := fun _ => fun
  | [d1, d2, d3] => { results := [.lit (.bool false)], args := [d1, d2, d3] }
  | _ => none }
def SnapshotCutsWrongFalsely : Prop := snapshotCutsRow.holds Try.pinned (OpenSpec.ofChange snapshotCutsWrong)

/- THE SECOND FORM. 'bulk': how many values and letters a reading holds, each counted each time it is reached (what is shared counts as often as it is met; a slice's spare places count too). A statement '..UptoSaid' is the law's where the arguments, and the package variables that the reading takes, are together of bulk at most 1048576: NARROWER than '..Said'. Prove '..Said' where nothing that the law and all that it calls make is longer than what came in: it says more and counts as full. Else prove '..UptoSaid'. A law counts once. -/
mutual
def uptoBulk {H : Type} : DataW H → Nat
  | .lit (.string bytes) => bytes.length + 1
  | .lit _ => 1
  | .nil => 1
  | .ptr d => uptoBulk d + 1
  | .slice elems spare => uptoBulkAll elems + uptoBulkAll spare + 1
  | .agg parts => uptoBulkAll parts + 1
  | .iface _ d => uptoBulk d + 1
  | .map entries => uptoBulkEntries entries + 1
  | .held _ => 1
def uptoBulkAll {H : Type} : List (DataW H) → Nat
  | [] => 0
  | d :: r => uptoBulk d + uptoBulkAll r
def uptoBulkEntries {H : Type} : List (Lit × DataW H) → Nat
  | [] => 0
  | x :: r => uptoBulkEntry x + uptoBulkEntries r
def uptoBulkEntry {H : Type} : Lit × DataW H → Nat
  | (.string bytes, d) => bytes.length + uptoBulk d + 1
  | (_, d) => uptoBulk d + 1
 end
def uptoSmall : (H : Type) → List (DataW H) → Bool := fun _ ds => decide (uptoBulkAll ds ≤ 1048576)
def OpenSpec.upto (s : _root_.Go.ChangeSpec) : _root_.Go.OpenSpec := { _root_.Go.OpenSpec.ofChange s with cond := some uptoSmall }

/-- 'ferrymanlaw09.SnapshotEncodes', WHERE WHAT IT READS IS OF BULK AT MOST 1048576: true; the input reads as it did. -/
def snapshotEncodesUptoRow : OpenClaim := { program := "ytanmjihiceibbaa", sum := "54f25466ffdfdfe922c50c7a3f7db120e0ee8b6d5157d302c40c17c6c7be235d", func := "ferryman/ferrymanlaw09.SnapshotEncodes", spec := "snapshotEncodes", inPlace := ["slices.overlaps[int]", "slices.overlaps[ferryman/api.Entry]"], unfollowed := true, recurses := true, apart := false, narrowed := true }
def SnapshotEncodesUptoSaid : Prop := snapshotEncodesUptoRow.holds Try.pinned (OpenSpec.upto snapshotEncodesSpec)

/-- 'ferrymanlaw09.SnapshotTakes', WHERE WHAT IT READS IS OF BULK AT MOST 1048576: true; the input reads as it did. -/
def snapshotTakesUptoRow : OpenClaim := { program := "ytanmjihiceibbaa", sum := "54f25466ffdfdfe922c50c7a3f7db120e0ee8b6d5157d302c40c17c6c7be235d", func := "ferryman/ferrymanlaw09.SnapshotTakes", spec := "snapshotTakes", inPlace := ["slices.overlaps[int]", "slices.overlaps[ferryman/api.Entry]"], unfollowed := true, recurses := true, apart := false, narrowed := true }
def SnapshotTakesUptoSaid : Prop := snapshotTakesUptoRow.holds Try.pinned (OpenSpec.upto snapshotTakesSpec)

/-- 'ferrymanlaw09.SnapshotOnce', WHERE WHAT IT READS IS OF BULK AT MOST 1048576: true; the input reads as it did. -/
def snapshotOnceUptoRow : OpenClaim := { program := "ytanmjihiceibbaa", sum := "54f25466ffdfdfe922c50c7a3f7db120e0ee8b6d5157d302c40c17c6c7be235d", func := "ferryman/ferrymanlaw09.SnapshotOnce", spec := "snapshotOnce", inPlace := ["slices.overlaps[int]", "slices.overlaps[ferryman/api.Entry]"], unfollowed := true, recurses := true, apart := false, narrowed := true }
def SnapshotOnceUptoSaid : Prop := snapshotOnceUptoRow.holds Try.pinned (OpenSpec.upto snapshotOnceSpec)

/-- 'ferrymanlaw09.SnapshotCuts', WHERE WHAT IT READS IS OF BULK AT MOST 1048576: true; the input reads as it did. -/
def snapshotCutsUptoRow : OpenClaim := { program := "ytanmjihiceibbaa", sum := "54f25466ffdfdfe922c50c7a3f7db120e0ee8b6d5157d302c40c17c6c7be235d", func := "ferryman/ferrymanlaw09.SnapshotCuts", spec := "snapshotCuts", inPlace := ["slices.overlaps[int]", "slices.overlaps[ferryman/api.Entry]"], unfollowed := true, recurses := true, apart := false, narrowed := true }
def SnapshotCutsUptoSaid : Prop := snapshotCutsUptoRow.holds Try.pinned (OpenSpec.upto snapshotCutsSpec)

end Rows
end Go.Proofs.Ytanmjihiceibbaa
