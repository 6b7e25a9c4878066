/-
  No cell of these rows narrows 'for every input' (looked for: loops, veiled, ifaces, maps, wideKeys, modest, calm, conditions, laid).
  DERIVED. THE GIVEN ROWS OF THIS SEAT. 5 by the template 'for every input the law returns true; each argument reads behind the call as it read before'; 0 by the template 'total and deterministic' (their statements: YtiofhmlkgieclaaTotals.lean).
  GIVEN WITH THE SEED: the statements are not yours to turn. If you find one false, say at which input.
  Laid BY PROGRAM, IN A SANDBOX (cutbox-rows.mjs): the forced cells as the released guide's own fill.sh prints them over the translation 0f123ee90588d112… (all of the seat's roots in one cut). By AI agents, Wed Nov 11 2026. No macro, syntax, notation, axiom, sorry.
-/
import Derived.Test.YtiofhmlkgieclaaChecked
import GoSem.Claim
import GoSem.ClaimJoined
import GoSem.ClaimMapViews
import Derived.JoinedTies
import Derived.KernelRfl
namespace Go.Proofs.Ytiofhmlkgieclaa
/- THE CELL 'sum', in the pinned program and in every row, IS THE sha256 OF THE DUMP (.gsa) THAT YtiofhmlkgieclaaProg.lean LOADS. Nothing in Lean hashes anything: it is a label: what it is worth is what the hold of that sum in a sandbox is worth. -/
noncomputable def Try.pinned : Pinned := { name := "ytiofhmlkgieclaa", sum := "0f123ee90588d112fdb8e9a050f185000d9d2999e04f9c0f65e4e74efa07685c", checked := Try.checked }
namespace Rows
def none {H : Type} : Left H := { results := [], args := [] }

/-- 'ferrymanlaw15.HerlihyAsks': WHATEVER THE INPUT: true; the input reads as it did. -/
def herlihyAsksSpec : ChangeSpec := { name := "herlihyAsks", fn := fun _ => fun
  | [d1, d2, d3, d4] => { results := [.lit (.bool true)], args := [d1, d2, d3, d4] }
  | _ => none }
def herlihyAsksRow : OpenClaim := { program := "ytiofhmlkgieclaa", sum := "0f123ee90588d112fdb8e9a050f185000d9d2999e04f9c0f65e4e74efa07685c", func := "ferryman/ferrymanlaw15.HerlihyAsks", spec := "herlihyAsks", inPlace := ["slices.overlaps[int]"], unfollowed := true, recurses := true, apart := false }
def HerlihyAsksSaid : Prop := herlihyAsksRow.holds Try.pinned (OpenSpec.ofChange herlihyAsksSpec)

/-- ITS FALSE NEIGHBOUR: 'it returns false'. Refute it at one input. -/
def herlihyAsksWrong : ChangeSpec := { name := "herlihyAsks", fn := fun _ => fun
  | [d1, d2, d3, d4] => { results := [.lit (.bool false)], args := [d1, d2, d3, d4] }
  | _ => none }
def HerlihyAsksWrongFalsely : Prop := herlihyAsksRow.holds Try.pinned (OpenSpec.ofChange herlihyAsksWrong)

/-- 'ferrymanlaw15.HerlihyOnce': WHATEVER THE INPUT: true; the input reads as it did. -/
def herlihyOnceSpec : ChangeSpec := { name := "herlihyOnce", fn := fun _ => fun
  | [d1, d2, d3] => { results := [.lit (.bool true)], args := [d1, d2, d3] }
  | _ => none }
def herlihyOnceRow : OpenClaim := { program := "ytiofhmlkgieclaa", sum := "0f123ee90588d112fdb8e9a050f185000d9d2999e04f9c0f65e4e74efa07685c", func := "ferryman/ferrymanlaw15.HerlihyOnce", spec := "herlihyOnce", inPlace := ["slices.overlaps[int]"], unfollowed := true, recurses := true, apart := false }
def HerlihyOnceSaid : Prop := herlihyOnceRow.holds Try.pinned (OpenSpec.ofChange herlihyOnceSpec)

/-- ITS FALSE NEIGHBOUR: 'it returns false'. Refute it at one input. -/
def herlihyOnceWrong : ChangeSpec := { name := "herlihyOnce", fn := fun _ => fun
  | [d1, d2, d3] => { results := [.lit (.bool false)], args := [d1, d2, d3] }
  | _ => none }
def HerlihyOnceWrongFalsely : Prop := herlihyOnceRow.holds Try.pinned (OpenSpec.ofChange herlihyOnceWrong)

/-- 'ferrymanlaw15.HerlihyOrder': WHATEVER THE INPUT: true; the input reads as it did. -/
def herlihyOrderSpec : ChangeSpec := { name := "herlihyOrder", fn := fun _ => fun
  | [d1, d2, d3] => { results := [.lit (.bool true)], args := [d1, d2, d3] }
  | _ => none }
def herlihyOrderRow : OpenClaim := { program := "ytiofhmlkgieclaa", sum := "0f123ee90588d112fdb8e9a050f185000d9d2999e04f9c0f65e4e74efa07685c", func := "ferryman/ferrymanlaw15.HerlihyOrder", spec := "herlihyOrder", inPlace := ["slices.overlaps[int]"], unfollowed := true, recurses := true, apart := false }
def HerlihyOrderSaid : Prop := herlihyOrderRow.holds Try.pinned (OpenSpec.ofChange herlihyOrderSpec)

/-- ITS FALSE NEIGHBOUR: 'it returns false'. Refute it at one input. -/
def herlihyOrderWrong : ChangeSpec := { name := "herlihyOrder", fn := fun _ => fun
  | [d1, d2, d3] => { results := [.lit (.bool false)], args := [d1, d2, d3] }
  | _ => none }
def HerlihyOrderWrongFalsely : Prop := herlihyOrderRow.holds Try.pinned (OpenSpec.ofChange herlihyOrderWrong)

/-- 'ferrymanlaw15.HerlihyGrows': WHATEVER THE INPUT: true; the input reads as it did. -/
def herlihyGrowsSpec : ChangeSpec := { name := "herlihyGrows", fn := fun _ => fun
  | [d1, d2, d3, d4] => { results := [.lit (.bool true)], args := [d1, d2, d3, d4] }
  | _ => none }
def herlihyGrowsRow : OpenClaim := { program := "ytiofhmlkgieclaa", sum := "0f123ee90588d112fdb8e9a050f185000d9d2999e04f9c0f65e4e74efa07685c", func := "ferryman/ferrymanlaw15.HerlihyGrows", spec := "herlihyGrows", inPlace := ["slices.overlaps[int]"], unfollowed := true, recurses := true, apart := false }
def HerlihyGrowsSaid : Prop := herlihyGrowsRow.holds Try.pinned (OpenSpec.ofChange herlihyGrowsSpec)

/-- ITS FALSE NEIGHBOUR: 'it returns false'. Refute it at one input. -/
def herlihyGrowsWrong : ChangeSpec := { name := "herlihyGrows", fn := fun _ => fun
  | [d1, d2, d3, d4] => { results := [.lit (.bool false)], args := [d1, d2, d3, d4] }
  | _ => none }
def HerlihyGrowsWrongFalsely : Prop := herlihyGrowsRow.holds Try.pinned (OpenSpec.ofChange herlihyGrowsWrong)

/-- 'ferrymanlaw15.HerlihyBound': WHATEVER THE INPUT: true; the input reads as it did. -/
def herlihyBoundSpec : ChangeSpec := { name := "herlihyBound", fn := fun _ => fun
  | [d1, d2, d3, d4] => { results := [.lit (.bool true)], args := [d1, d2, d3, d4] }
  | _ => none }
def herlihyBoundRow : OpenClaim := { program := "ytiofhmlkgieclaa", sum := "0f123ee90588d112fdb8e9a050f185000d9d2999e04f9c0f65e4e74efa07685c", func := "ferryman/ferrymanlaw15.HerlihyBound", spec := "herlihyBound", inPlace := ["slices.overlaps[int]"], unfollowed := true, recurses := true, apart := false }
def HerlihyBoundSaid : Prop := herlihyBoundRow.holds Try.pinned (OpenSpec.ofChange herlihyBoundSpec)

/-- ITS FALSE NEIGHBOUR: 'it returns false'. Refute it at one input. -/
def herlihyBoundWrong : ChangeSpec := { name := "herlihyBound", fn := fun _ => fun
  | [d1, d2, d3, d4] => { results := [.lit (.bool false)], args := [d1, d2, d3, d4] }
  | _ => none }
def HerlihyBoundWrongFalsely : Prop := herlihyBoundRow.holds Try.pinned (OpenSpec.ofChange herlihyBoundWrong)

/- THE SECOND FORM. 'bulk': how many values and letters a reading holds, each counted each time it is reached (what is shared counts as often as it is met; a slice's spare places count too). A statement '..UptoSaid' is the law's where the arguments, and the package variables that the reading takes, are together of bulk at most 1048576: NARROWER than '..Said'. Prove '..Said' where nothing that the law and all that it calls make is longer than what came in: it says more and counts as full. Else prove '..UptoSaid'. A law counts once. -/
mutual
def uptoBulk {H : Type} : DataW H → Nat
  | .lit (.string bytes) => bytes.length + 1
  | .lit _ => 1
  | .nil => 1
  | .ptr d => uptoBulk d + 1
  | .slice elems spare => uptoBulkAll elems + uptoBulkAll spare + 1
  | .agg parts => uptoBulkAll parts + 1
  | .iface _ d => uptoBulk d + 1
  | .map entries => uptoBulkEntries entries + 1
  | .held _ => 1
def uptoBulkAll {H : Type} : List (DataW H) → Nat
  | [] => 0
  | d :: r => uptoBulk d + uptoBulkAll r
def uptoBulkEntries {H : Type} : List (Lit × DataW H) → Nat
  | [] => 0
  | x :: r => uptoBulkEntry x + uptoBulkEntries r
def uptoBulkEntry {H : Type} : Lit × DataW H → Nat
  | (.string bytes, d) => bytes.length + uptoBulk d + 1
  | (_, d) => uptoBulk d + 1
 end
def uptoSmall : (H : Type) → List (DataW H) → Bool := fun _ ds => decide (uptoBulkAll ds ≤ 1048576)
def OpenSpec.upto (s : _root_.Go.ChangeSpec) : _root_.Go.OpenSpec := { _root_.Go.OpenSpec.ofChange s with cond := some uptoSmall }

/-- 'ferrymanlaw15.HerlihyAsks', WHERE WHAT IT READS IS OF BULK AT MOST 1048576: true; the input reads as it did. -/
def herlihyAsksUptoRow : OpenClaim := { program := "ytiofhmlkgieclaa", sum := "0f123ee90588d112fdb8e9a050f185000d9d2999e04f9c0f65e4e74efa07685c", func := "ferryman/ferrymanlaw15.HerlihyAsks", spec := "herlihyAsks", inPlace := ["slices.overlaps[int]"], unfollowed := true, recurses := true, apart := false, narrowed := true }
def HerlihyAsksUptoSaid : Prop := herlihyAsksUptoRow.holds Try.pinned (OpenSpec.upto herlihyAsksSpec)

/-- 'ferrymanlaw15.HerlihyOnce', WHERE WHAT IT READS IS OF BULK AT MOST 1048576: true; the input reads as it did. -/
def herlihyOnceUptoRow : OpenClaim := { program := "ytiofhmlkgieclaa", sum := "0f123ee90588d112fdb8e9a050f185000d9d2999e04f9c0f65e4e74efa07685c", func := "ferryman/ferrymanlaw15.HerlihyOnce", spec := "herlihyOnce", inPlace := ["slices.overlaps[int]"], unfollowed := true, recurses := true, apart := false, narrowed := true }
def HerlihyOnceUptoSaid : Prop := herlihyOnceUptoRow.holds Try.pinned (OpenSpec.upto herlihyOnceSpec)

/-- 'ferrymanlaw15.HerlihyOrder', WHERE WHAT IT READS IS OF BULK AT MOST 1048576: true; the input reads as it did. -/
def herlihyOrderUptoRow : OpenClaim := { program := "ytiofhmlkgieclaa", sum := "0f123ee90588d112fdb8e9a050f185000d9d2999e04f9c0f65e4e74efa07685c", func := "ferryman/ferrymanlaw15.HerlihyOrder", spec := "herlihyOrder", inPlace := ["slices.overlaps[int]"], unfollowed := true, recurses := true, apart := false, narrowed := true }
def HerlihyOrderUptoSaid : Prop := herlihyOrderUptoRow.holds Try.pinned (OpenSpec.upto herlihyOrderSpec)

/-- 'ferrymanlaw15.HerlihyGrows', WHERE WHAT IT READS IS OF BULK AT MOST 1048576: true; the input reads as it did. -/
def herlihyGrowsUptoRow : OpenClaim := { program := "ytiofhmlkgieclaa", sum := "0f123ee90588d112fdb8e9a050f185000d9d2999e04f9c0f65e4e74efa07685c", func := "ferryman/ferrymanlaw15.HerlihyGrows", spec := "herlihyGrows", inPlace := ["slices.overlaps[int]"], unfollowed := true, recurses := true, apart := false, narrowed := true }
def HerlihyGrowsUptoSaid : Prop := herlihyGrowsUptoRow.holds Try.pinned (OpenSpec.upto herlihyGrowsSpec)

/-- 'ferrymanlaw15.HerlihyBound', WHERE WHAT IT READS IS OF BULK AT MOST 1048576: true; the input reads as it did. -/
def herlihyBoundUptoRow : OpenClaim := { program := "ytiofhmlkgieclaa", sum := "0f123ee90588d112fdb8e9a050f185000d9d2999e04f9c0f65e4e74efa07685c", func := "ferryman/ferrymanlaw15.HerlihyBound", spec := "herlihyBound", inPlace := ["slices.overlaps[int]"], unfollowed := true, recurses := true, apart := false, narrowed := true }
def HerlihyBoundUptoSaid : Prop := herlihyBoundUptoRow.holds Try.pinned (OpenSpec.upto herlihyBoundSpec)

end Rows
end Go.Proofs.Ytiofhmlkgieclaa
