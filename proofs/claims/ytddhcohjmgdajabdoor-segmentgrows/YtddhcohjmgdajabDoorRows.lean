/-
  NARROWER THAN 'FOR EVERY INPUT', by the rows' own cells (each row's printed sentence says how): SegmentGrows: laid · SegmentParts: laid.
  DERIVED. THE GIVEN ROWS OF THIS SEAT. 2 by the template 'for every input the law returns true; each argument reads behind the call as it read before'; 0 by the template 'total and deterministic' (their statements: YtddhcohjmgdajabDoorTotals.lean).
  GIVEN WITH THE SEED: the statements are not yours to turn. If you find one false, say at which input.
  Laid BY PROGRAM, IN A SANDBOX (cutbox-rows.mjs): the forced cells as the released guide's own fill.sh prints them over the translation d04b8d9001d27d77… (all of the seat's roots in one cut). By AI agents, Wed Nov 11 2026. No macro, syntax, notation, axiom, sorry.
-/
import Derived.Test.YtddhcohjmgdajabDoorChecked
import GoSem.Claim
import GoSem.ClaimJoined
import GoSem.ClaimMapViews
import Derived.JoinedTies
import Derived.KernelRfl
namespace Go.Proofs.YtddhcohjmgdajabDoor
/- THE CELL 'sum', in the pinned program and in every row, IS THE sha256 OF THE DUMP (.gsa) THAT YtddhcohjmgdajabDoorProg.lean LOADS. Nothing in Lean hashes anything: it is a label: what it is worth is what the hold of that sum in a sandbox is worth. -/
noncomputable def Tryd.pinned : Pinned := { name := "ytddhcohjmgdajabdoor", sum := "d04b8d9001d27d773ef96929a9f91ad039f7673448732524efd7795765171f45", checked := Tryd.checked }
namespace Rows
def none {H : Type} : Left H := { results := [], args := [] }

/- WHAT THE LISTED PACKAGE-LEVEL VARIABLES READ AS WHEN THE CALL BEGINS. Each datum BY PROGRAM (the guide's laid-datum.mjs) off the statement by which the dump's own 'gosem.cut.vars' lays the variable. In a bare row this is a premise. The card (YtddhcohjmgdajabDoorCards.lean) ties it to the program's text. -/
def laid_ferryman_schema_fieldsOf {H : Type} : DataW H := .agg [.nil, .slice [.lit (.int .i64 1), .lit (.int .i64 2), .lit (.int .i64 4)] [], .slice [.lit (.int .i64 1), .lit (.int .i64 2), .lit (.int .i64 3), .lit (.int .i64 4)] [], .slice [.lit (.int .i64 1), .lit (.int .i64 2), .lit (.int .i64 3), .lit (.int .i64 4), .lit (.int .i64 5)] []]

/-- 'ferrymanlaw08.SegmentGrows': WHATEVER THE INPUT: true; the input reads as it did. -/
def segmentGrowsSpec : ChangeSpec := { name := "segmentGrows", fn := fun _ => fun
  | [d1, d2, d3] => { results := [.lit (.bool true)], args := [d1, d2, d3] }
  | _ => none }
def segmentGrowsRow : OpenClaim := { program := "ytddhcohjmgdajabdoor", sum := "d04b8d9001d27d773ef96929a9f91ad039f7673448732524efd7795765171f45", func := "ferryman/ferrymanlaw08.SegmentGrows", spec := "segmentGrows", unfollowed := true, recurses := true, named := ["ferryman/schema.fieldsOf"], apart := false, laid := [("ferryman/schema.fieldsOf", laid_ferryman_schema_fieldsOf)] }
def SegmentGrowsSaid : Prop := segmentGrowsRow.holds Tryd.pinned (OpenSpec.ofChange segmentGrowsSpec)

/-- ITS FALSE NEIGHBOUR: 'it returns false'. Refute it at one input. -/
def segmentGrowsWrong : ChangeSpec := { name := "segmentGrows", fn := fun _ => fun
  | [d1, d2, d3] => { results := [.lit (.bool false)], args := [d1, d2, d3] }
  | _ => none }
def SegmentGrowsWrongFalsely : Prop := segmentGrowsRow.holds Tryd.pinned (OpenSpec.ofChange segmentGrowsWrong)

/-- 'ferrymanlaw08.SegmentParts': WHATEVER THE INPUT: true; the input reads as it did. -/
def segmentPartsSpec : ChangeSpec := { name := "segmentParts", fn := fun _ => fun
  | [d1, d2, d3] => { results := [.lit (.bool true)], args := [d1, d2, d3] }
  | _ => none }
def segmentPartsRow : OpenClaim := { program := "ytddhcohjmgdajabdoor", sum := "d04b8d9001d27d773ef96929a9f91ad039f7673448732524efd7795765171f45", func := "ferryman/ferrymanlaw08.SegmentParts", spec := "segmentParts", unfollowed := true, recurses := true, named := ["ferryman/schema.fieldsOf"], apart := false, laid := [("ferryman/schema.fieldsOf", laid_ferryman_schema_fieldsOf)] }
def SegmentPartsSaid : Prop := segmentPartsRow.holds Tryd.pinned (OpenSpec.ofChange segmentPartsSpec)

/-- ITS FALSE NEIGHBOUR: 'it returns false'. Refute it at one input. -/
def segmentPartsWrong : ChangeSpec := { name := "segmentParts", fn := fun _ => fun
  | [d1, d2, d3] => { results := [.lit (.bool false)], args := [d1, d2, d3] }
  | _ => none }
def SegmentPartsWrongFalsely : Prop := segmentPartsRow.holds Tryd.pinned (OpenSpec.ofChange segmentPartsWrong)

/- THE SECOND FORM. 'bulk': how many values and letters a reading holds, each counted each time it is reached (what is shared counts as often as it is met; a slice's spare places count too). A statement '..UptoSaid' is the law's where the arguments, and the package variables that the reading takes, are together of bulk at most 1048576: NARROWER than '..Said'. Prove '..Said' where nothing that the law and all that it calls make is longer than what came in: it says more and counts as full. Else prove '..UptoSaid'. A law counts once. -/
mutual
def uptoBulk {H : Type} : DataW H → Nat
  | .lit (.string bytes) => bytes.length + 1
  | .lit _ => 1
  | .nil => 1
  | .ptr d => uptoBulk d + 1
  | .slice elems spare => uptoBulkAll elems + uptoBulkAll spare + 1
  | .agg parts => uptoBulkAll parts + 1
  | .iface _ d => uptoBulk d + 1
  | .map entries => uptoBulkEntries entries + 1
  | .held _ => 1
def uptoBulkAll {H : Type} : List (DataW H) → Nat
  | [] => 0
  | d :: r => uptoBulk d + uptoBulkAll r
def uptoBulkEntries {H : Type} : List (Lit × DataW H) → Nat
  | [] => 0
  | x :: r => uptoBulkEntry x + uptoBulkEntries r
def uptoBulkEntry {H : Type} : Lit × DataW H → Nat
  | (.string bytes, d) => bytes.length + uptoBulk d + 1
  | (_, d) => uptoBulk d + 1
 end
def uptoSmall : (H : Type) → List (DataW H) → Bool := fun _ ds => decide (uptoBulkAll ds ≤ 1048576)
def OpenSpec.upto (s : _root_.Go.ChangeSpec) : _root_.Go.OpenSpec := { _root_.Go.OpenSpec.ofChange s with cond := some uptoSmall }

/-- 'ferrymanlaw08.SegmentGrows', WHERE WHAT IT READS IS OF BULK AT MOST 1048576: true; the input reads as it did. -/
def segmentGrowsUptoRow : OpenClaim := { program := "ytddhcohjmgdajabdoor", sum := "d04b8d9001d27d773ef96929a9f91ad039f7673448732524efd7795765171f45", func := "ferryman/ferrymanlaw08.SegmentGrows", spec := "segmentGrows", unfollowed := true, recurses := true, named := ["ferryman/schema.fieldsOf"], apart := false, laid := [("ferryman/schema.fieldsOf", laid_ferryman_schema_fieldsOf)], narrowed := true }
def SegmentGrowsUptoSaid : Prop := segmentGrowsUptoRow.holds Tryd.pinned (OpenSpec.upto segmentGrowsSpec)

/-- 'ferrymanlaw08.SegmentParts', WHERE WHAT IT READS IS OF BULK AT MOST 1048576: true; the input reads as it did. -/
def segmentPartsUptoRow : OpenClaim := { program := "ytddhcohjmgdajabdoor", sum := "d04b8d9001d27d773ef96929a9f91ad039f7673448732524efd7795765171f45", func := "ferryman/ferrymanlaw08.SegmentParts", spec := "segmentParts", unfollowed := true, recurses := true, named := ["ferryman/schema.fieldsOf"], apart := false, laid := [("ferryman/schema.fieldsOf", laid_ferryman_schema_fieldsOf)], narrowed := true }
def SegmentPartsUptoSaid : Prop := segmentPartsUptoRow.holds Tryd.pinned (OpenSpec.upto segmentPartsSpec)

end Rows
end Go.Proofs.YtddhcohjmgdajabDoor
