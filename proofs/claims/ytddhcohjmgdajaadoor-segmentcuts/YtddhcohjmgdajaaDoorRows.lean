/-
  NARROWER THAN 'FOR EVERY INPUT', by the rows' own cells (each row's printed sentence says how): SegmentEncodes: laid · SegmentBack: laid · SegmentOnce: laid · SegmentCuts: laid.
  DERIVED. THE GIVEN ROWS OF THIS SEAT. 4 by the template 'for every input the law returns true; each argument reads behind the call as it read before'; 0 by the template 'total and deterministic' (their statements: YtddhcohjmgdajaaDoorTotals.lean).
  GIVEN WITH THE SEED: the statements are not yours to turn. If you find one false, say at which input.
  Laid BY PROGRAM, IN A SANDBOX (cutbox-rows.mjs): the forced cells as the released guide's own fill.sh prints them over the translation 4385b09fdd0d92cf… (all of the seat's roots in one cut). By AI agents, Wed Nov 11 2026. No macro, syntax, notation, axiom, sorry.
-/
import Derived.Test.YtddhcohjmgdajaaDoorChecked
import GoSem.Claim
import GoSem.ClaimJoined
import GoSem.ClaimMapViews
import Derived.JoinedTies
import Derived.KernelRfl
namespace Go.Proofs.YtddhcohjmgdajaaDoor
/- THE CELL 'sum', in the pinned program and in every row, IS THE sha256 OF THE DUMP (.gsa) THAT YtddhcohjmgdajaaDoorProg.lean LOADS. Nothing in Lean hashes anything: it is a label: what it is worth is what the hold of that sum in a sandbox is worth. -/
noncomputable def Tryd.pinned : Pinned := { name := "ytddhcohjmgdajaadoor", sum := "4385b09fdd0d92cfd91433620d6115198fe91c3ce71e34890cb108bd584fa539", checked := Tryd.checked }
namespace Rows
def none {H : Type} : Left H := { results := [], args := [] }

/- WHAT THE LISTED PACKAGE-LEVEL VARIABLES READ AS WHEN THE CALL BEGINS. Each datum BY PROGRAM (the guide's laid-datum.mjs) off the statement by which the dump's own 'gosem.cut.vars' lays the variable. In a bare row this is a premise. The card (YtddhcohjmgdajaaDoorCards.lean) ties it to the program's text. -/
def laid_ferryman_schema_fieldsOf {H : Type} : DataW H := .agg [.nil, .slice [.lit (.int .i64 1), .lit (.int .i64 2), .lit (.int .i64 4)] [], .slice [.lit (.int .i64 1), .lit (.int .i64 2), .lit (.int .i64 3), .lit (.int .i64 4)] [], .slice [.lit (.int .i64 1), .lit (.int .i64 2), .lit (.int .i64 3), .lit (.int .i64 4), .lit (.int .i64 5)] []]

/-- 'ferrymanlaw08.SegmentEncodes': WHATEVER THE INPUT: true; the input reads as it did. -/
def segmentEncodesSpec : ChangeSpec := { name := "segmentEncodes", fn := fun _ => fun
  | [d1, d2] => { results := [.lit (.bool true)], args := [d1, d2] }
  | _ => none }
def segmentEncodesRow : OpenClaim := { program := "ytddhcohjmgdajaadoor", sum := "4385b09fdd0d92cfd91433620d6115198fe91c3ce71e34890cb108bd584fa539", func := "ferryman/ferrymanlaw08.SegmentEncodes", spec := "segmentEncodes", unfollowed := true, recurses := true, named := ["ferryman/schema.fieldsOf"], apart := false, laid := [("ferryman/schema.fieldsOf", laid_ferryman_schema_fieldsOf)] }
def SegmentEncodesSaid : Prop := segmentEncodesRow.holds Tryd.pinned (OpenSpec.ofChange segmentEncodesSpec)

/-- ITS FALSE NEIGHBOUR: 'it returns false'. Refute it at one input. -/
def segmentEncodesWrong : ChangeSpec := { name := "segmentEncodes", fn := fun _ => fun
  | [d1, d2] => { results := [.lit (.bool false)], args := [d1, d2] }
  | _ => none }
def SegmentEncodesWrongFalsely : Prop := segmentEncodesRow.holds Tryd.pinned (OpenSpec.ofChange segmentEncodesWrong)

/-- 'ferrymanlaw08.SegmentBack': WHATEVER THE INPUT: true; the input reads as it did. -/
def segmentBackSpec : ChangeSpec := { name := "segmentBack", fn := fun _ => fun
  | [d1, d2] => { results := [.lit (.bool true)], args := [d1, d2] }
  | _ => none }
def segmentBackRow : OpenClaim := { program := "ytddhcohjmgdajaadoor", sum := "4385b09fdd0d92cfd91433620d6115198fe91c3ce71e34890cb108bd584fa539", func := "ferryman/ferrymanlaw08.SegmentBack", spec := "segmentBack", unfollowed := true, recurses := true, named := ["ferryman/schema.fieldsOf"], apart := false, laid := [("ferryman/schema.fieldsOf", laid_ferryman_schema_fieldsOf)] }
def SegmentBackSaid : Prop := segmentBackRow.holds Tryd.pinned (OpenSpec.ofChange segmentBackSpec)

/-- ITS FALSE NEIGHBOUR: 'it returns false'. Refute it at one input. -/
def segmentBackWrong : ChangeSpec := { name := "segmentBack", fn := fun _ => fun
  | [d1, d2] => { results := [.lit (.bool false)], args := [d1, d2] }
  | _ => none }
def SegmentBackWrongFalsely : Prop := segmentBackRow.holds Tryd.pinned (OpenSpec.ofChange segmentBackWrong)

/-- 'ferrymanlaw08.SegmentOnce': WHATEVER THE INPUT: true; the input reads as it did. -/
def segmentOnceSpec : ChangeSpec := { name := "segmentOnce", fn := fun _ => fun
  | [d] => { results := [.lit (.bool true)], args := [d] }
  | _ => none }
def segmentOnceRow : OpenClaim := { program := "ytddhcohjmgdajaadoor", sum := "4385b09fdd0d92cfd91433620d6115198fe91c3ce71e34890cb108bd584fa539", func := "ferryman/ferrymanlaw08.SegmentOnce", spec := "segmentOnce", unfollowed := true, recurses := true, named := ["ferryman/schema.fieldsOf"], apart := false, laid := [("ferryman/schema.fieldsOf", laid_ferryman_schema_fieldsOf)] }
def SegmentOnceSaid : Prop := segmentOnceRow.holds Tryd.pinned (OpenSpec.ofChange segmentOnceSpec)

/-- ITS FALSE NEIGHBOUR: 'it returns false'. Refute it at one input. -/
def segmentOnceWrong : ChangeSpec := { name := "segmentOnce", fn := fun _ => fun
  | [d] => { results := [.lit (.bool false)], args := [d] }
  | _ => none }
def SegmentOnceWrongFalsely : Prop := segmentOnceRow.holds Tryd.pinned (OpenSpec.ofChange segmentOnceWrong)

/-- 'ferrymanlaw08.SegmentCuts': WHATEVER THE INPUT: true; the input reads as it did. -/
def segmentCutsSpec : ChangeSpec := { name := "segmentCuts", fn := fun _ => fun
  | [d1, d2, d3] => { results := [.lit (.bool true)], args := [d1, d2, d3] }
  | _ => none }
def segmentCutsRow : OpenClaim := { program := "ytddhcohjmgdajaadoor", sum := "4385b09fdd0d92cfd91433620d6115198fe91c3ce71e34890cb108bd584fa539", func := "ferryman/ferrymanlaw08.SegmentCuts", spec := "segmentCuts", unfollowed := true, recurses := true, named := ["ferryman/schema.fieldsOf"], apart := false, laid := [("ferryman/schema.fieldsOf", laid_ferryman_schema_fieldsOf)] }
def SegmentCutsSaid : Prop := segmentCutsRow.holds Tryd.pinned (OpenSpec.ofChange segmentCutsSpec)

/-- ITS FALSE NEIGHBOUR: 'it returns false'. Refute it at one input. -/
def segmentCutsWrong : ChangeSpec := { name := "segmentCuts", fn := fun _ => fun
  | [d1, d2, d3] => { results := [.lit (.bool false)], args := [d1, d2, d3] }
  | _ => none }
def SegmentCutsWrongFalsely : Prop := segmentCutsRow.holds Tryd.pinned (OpenSpec.ofChange segmentCutsWrong)

/- THE SECOND FORM. 'bulk': how many values and letters a reading holds, each counted each time it is reached (what is shared counts as often as it is met; a slice's spare places count too). A statement '..UptoSaid' is the law's where the arguments, and the package variables that the reading takes, are together of bulk at most 1048576: NARROWER than '..Said'. Prove '..Said' where nothing that the law and all that it calls make is longer than what came in: it says more and counts as full. Else prove '..UptoSaid'. A law counts once. -/
mutual
def uptoBulk {H : Type} : DataW H → Nat
  | .lit (.string bytes) => bytes.length + 1
  | .lit _ => 1
  | .nil => 1
  | .ptr d => uptoBulk d + 1
  | .slice elems spare => uptoBulkAll elems + uptoBulkAll spare + 1
  | .agg parts => uptoBulkAll parts + 1
  | .iface _ d => uptoBulk d + 1
  | .map entries => uptoBulkEntries entries + 1
  | .held _ => 1
def uptoBulkAll {H : Type} : List (DataW H) → Nat
  | [] => 0
  | d :: r => uptoBulk d + uptoBulkAll r
def uptoBulkEntries {H : Type} : List (Lit × DataW H) → Nat
  | [] => 0
  | x :: r => uptoBulkEntry x + uptoBulkEntries r
def uptoBulkEntry {H : Type} : Lit × DataW H → Nat
  | (.string bytes, d) => bytes.length + uptoBulk d + 1
  | (_, d) => uptoBulk d + 1
 end
def uptoSmall : (H : Type) → List (DataW H) → Bool := fun _ ds => decide (uptoBulkAll ds ≤ 1048576)
def OpenSpec.upto (s : _root_.Go.ChangeSpec) : _root_.Go.OpenSpec := { _root_.Go.OpenSpec.ofChange s with cond := some uptoSmall }

/-- 'ferrymanlaw08.SegmentEncodes', WHERE WHAT IT READS IS OF BULK AT MOST 1048576: true; the input reads as it did. -/
def segmentEncodesUptoRow : OpenClaim := { program := "ytddhcohjmgdajaadoor", sum := "4385b09fdd0d92cfd91433620d6115198fe91c3ce71e34890cb108bd584fa539", func := "ferryman/ferrymanlaw08.SegmentEncodes", spec := "segmentEncodes", unfollowed := true, recurses := true, named := ["ferryman/schema.fieldsOf"], apart := false, laid := [("ferryman/schema.fieldsOf", laid_ferryman_schema_fieldsOf)], narrowed := true }
def SegmentEncodesUptoSaid : Prop := segmentEncodesUptoRow.holds Tryd.pinned (OpenSpec.upto segmentEncodesSpec)

/-- 'ferrymanlaw08.SegmentBack', WHERE WHAT IT READS IS OF BULK AT MOST 1048576: true; the input reads as it did. -/
def segmentBackUptoRow : OpenClaim := { program := "ytddhcohjmgdajaadoor", sum := "4385b09fdd0d92cfd91433620d6115198fe91c3ce71e34890cb108bd584fa539", func := "ferryman/ferrymanlaw08.SegmentBack", spec := "segmentBack", unfollowed := true, recurses := true, named := ["ferryman/schema.fieldsOf"], apart := false, laid := [("ferryman/schema.fieldsOf", laid_ferryman_schema_fieldsOf)], narrowed := true }
def SegmentBackUptoSaid : Prop := segmentBackUptoRow.holds Tryd.pinned (OpenSpec.upto segmentBackSpec)

/-- 'ferrymanlaw08.SegmentOnce', WHERE WHAT IT READS IS OF BULK AT MOST 1048576: true; the input reads as it did. -/
def segmentOnceUptoRow : OpenClaim := { program := "ytddhcohjmgdajaadoor", sum := "4385b09fdd0d92cfd91433620d6115198fe91c3ce71e34890cb108bd584fa539", func := "ferryman/ferrymanlaw08.SegmentOnce", spec := "segmentOnce", unfollowed := true, recurses := true, named := ["ferryman/schema.fieldsOf"], apart := false, laid := [("ferryman/schema.fieldsOf", laid_ferryman_schema_fieldsOf)], narrowed := true }
def SegmentOnceUptoSaid : Prop := segmentOnceUptoRow.holds Tryd.pinned (OpenSpec.upto segmentOnceSpec)

/-- 'ferrymanlaw08.SegmentCuts', WHERE WHAT IT READS IS OF BULK AT MOST 1048576: true; the input reads as it did. -/
def segmentCutsUptoRow : OpenClaim := { program := "ytddhcohjmgdajaadoor", sum := "4385b09fdd0d92cfd91433620d6115198fe91c3ce71e34890cb108bd584fa539", func := "ferryman/ferrymanlaw08.SegmentCuts", spec := "segmentCuts", unfollowed := true, recurses := true, named := ["ferryman/schema.fieldsOf"], apart := false, laid := [("ferryman/schema.fieldsOf", laid_ferryman_schema_fieldsOf)], narrowed := true }
def SegmentCutsUptoSaid : Prop := segmentCutsUptoRow.holds Tryd.pinned (OpenSpec.upto segmentCutsSpec)

end Rows
end Go.Proofs.YtddhcohjmgdajaaDoor
