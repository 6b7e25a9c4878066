/-
  NARROWER THAN 'FOR EVERY INPUT', by the rows' own cells (each row's printed sentence says how): StoreLasts: laid · StoreTwice: laid · StoreFull: laid · StoreParts: laid.
  DERIVED. THE GIVEN ROWS OF THIS SEAT. 4 by the template 'for every input the law returns true; each argument reads behind the call as it read before'; 0 by the template 'total and deterministic' (their statements: YtnahjngbneicaaaGreatDoorTotals.lean).
  GIVEN WITH THE SEED: the statements are not yours to turn. If you find one false, say at which input.
  Laid BY PROGRAM, IN A SANDBOX (cutbox-rows.mjs): the forced cells as the released guide's own fill.sh prints them over the translation 9002037108d700d2… (all of the seat's roots in one cut). By AI agents, Wed Nov 11 2026. No macro, syntax, notation, axiom, sorry.
-/
import Derived.Test.YtnahjngbneicaaaGreatDoorChecked
import GoSem.Claim
import GoSem.ClaimJoined
import GoSem.ClaimMapViews
import Derived.JoinedTies
import Derived.KernelRfl
namespace Go.Proofs.YtnahjngbneicaaaGreatDoor
/- THE CELL 'sum', in the pinned program and in every row, IS THE sha256 OF THE DUMP (.gsa) THAT YtnahjngbneicaaaGreatDoorProg.lean LOADS. Nothing in Lean hashes anything: it is a label: what it is worth is what the hold of that sum in a sandbox is worth. -/
noncomputable def Tryz.pinned : Pinned := { name := "ytnahjngbneicaaagreatdoor", sum := "9002037108d700d23eb93ecd56ec49a78a2092258df7ca78c56aaead539e54cf", checked := Tryz.checked }
namespace Rows
def none {H : Type} : Left H := { results := [], args := [] }

/- WHAT THE LISTED PACKAGE-LEVEL VARIABLES READ AS WHEN THE CALL BEGINS. Each datum BY PROGRAM (the guide's laid-datum.mjs) off the statement by which the dump's own 'gosem.cut.vars' lays the variable. In a bare row this is a premise. The card (YtnahjngbneicaaaGreatDoorCards.lean) ties it to the program's text. -/
def laid_ferryman_schema_fieldsOf {H : Type} : DataW H := .agg [.nil, .slice [.lit (.int .i64 1), .lit (.int .i64 2), .lit (.int .i64 4)] [], .slice [.lit (.int .i64 1), .lit (.int .i64 2), .lit (.int .i64 3), .lit (.int .i64 4)] [], .slice [.lit (.int .i64 1), .lit (.int .i64 2), .lit (.int .i64 3), .lit (.int .i64 4), .lit (.int .i64 5)] []]

/-- 'ferrymanlaw12.StoreLasts': WHATEVER THE INPUT: true; the input reads as it did. -/
def storeLastsSpec : ChangeSpec := { name := "storeLasts", fn := fun _ => fun
  | [d1, d2, d3, d4, d5] => { results := [.lit (.bool true)], args := [d1, d2, d3, d4, d5] }
  | _ => none }
def storeLastsRow : OpenClaim := { program := "ytnahjngbneicaaagreatdoor", sum := "9002037108d700d23eb93ecd56ec49a78a2092258df7ca78c56aaead539e54cf", func := "ferryman/ferrymanlaw12.StoreLasts", spec := "storeLasts", inPlace := ["slices.overlaps[int]", "slices.overlaps[ferryman/api.Entry]", "maps.clone"], unfollowed := true, recurses := true, named := ["ferryman/schema.fieldsOf"], apart := false, laid := [("ferryman/schema.fieldsOf", laid_ferryman_schema_fieldsOf)] }
def StoreLastsSaid : Prop := storeLastsRow.holds Tryz.pinned (OpenSpec.ofChange storeLastsSpec)

/-- ITS FALSE NEIGHBOUR: 'it returns false'. Refute it at one input. -/
def storeLastsWrong : ChangeSpec := { name := "storeLasts", fn := fun _ => fun
  | [d1, d2, d3, d4, d5] => { results := [.lit (.bool false)], args := [d1, d2, d3, d4, d5] }
  | _ => none }
def StoreLastsWrongFalsely : Prop := storeLastsRow.holds Tryz.pinned (OpenSpec.ofChange storeLastsWrong)

/-- 'ferrymanlaw12.StoreTwice': WHATEVER THE INPUT: true; the input reads as it did. -/
def storeTwiceSpec : ChangeSpec := { name := "storeTwice", fn := fun _ => fun
  | [d1, d2, d3, d4, d5] => { results := [.lit (.bool true)], args := [d1, d2, d3, d4, d5] }
  | _ => none }
def storeTwiceRow : OpenClaim := { program := "ytnahjngbneicaaagreatdoor", sum := "9002037108d700d23eb93ecd56ec49a78a2092258df7ca78c56aaead539e54cf", func := "ferryman/ferrymanlaw12.StoreTwice", spec := "storeTwice", inPlace := ["slices.overlaps[int]", "slices.overlaps[ferryman/api.Entry]", "maps.clone"], unfollowed := true, recurses := true, named := ["ferryman/schema.fieldsOf"], apart := false, laid := [("ferryman/schema.fieldsOf", laid_ferryman_schema_fieldsOf)] }
def StoreTwiceSaid : Prop := storeTwiceRow.holds Tryz.pinned (OpenSpec.ofChange storeTwiceSpec)

/-- ITS FALSE NEIGHBOUR: 'it returns false'. Refute it at one input. -/
def storeTwiceWrong : ChangeSpec := { name := "storeTwice", fn := fun _ => fun
  | [d1, d2, d3, d4, d5] => { results := [.lit (.bool false)], args := [d1, d2, d3, d4, d5] }
  | _ => none }
def StoreTwiceWrongFalsely : Prop := storeTwiceRow.holds Tryz.pinned (OpenSpec.ofChange storeTwiceWrong)

/-- 'ferrymanlaw12.StoreFull': WHATEVER THE INPUT: true; the input reads as it did. -/
def storeFullSpec : ChangeSpec := { name := "storeFull", fn := fun _ => fun
  | [d1, d2, d3, d4] => { results := [.lit (.bool true)], args := [d1, d2, d3, d4] }
  | _ => none }
def storeFullRow : OpenClaim := { program := "ytnahjngbneicaaagreatdoor", sum := "9002037108d700d23eb93ecd56ec49a78a2092258df7ca78c56aaead539e54cf", func := "ferryman/ferrymanlaw12.StoreFull", spec := "storeFull", inPlace := ["slices.overlaps[int]", "slices.overlaps[ferryman/api.Entry]", "maps.clone"], unfollowed := true, recurses := true, named := ["ferryman/schema.fieldsOf"], apart := false, laid := [("ferryman/schema.fieldsOf", laid_ferryman_schema_fieldsOf)] }
def StoreFullSaid : Prop := storeFullRow.holds Tryz.pinned (OpenSpec.ofChange storeFullSpec)

/-- ITS FALSE NEIGHBOUR: 'it returns false'. Refute it at one input. -/
def storeFullWrong : ChangeSpec := { name := "storeFull", fn := fun _ => fun
  | [d1, d2, d3, d4] => { results := [.lit (.bool false)], args := [d1, d2, d3, d4] }
  | _ => none }
def StoreFullWrongFalsely : Prop := storeFullRow.holds Tryz.pinned (OpenSpec.ofChange storeFullWrong)

/-- 'ferrymanlaw12.StoreParts': WHATEVER THE INPUT: true; the input reads as it did. -/
def storePartsSpec : ChangeSpec := { name := "storeParts", fn := fun _ => fun
  | [d1, d2] => { results := [.lit (.bool true)], args := [d1, d2] }
  | _ => none }
def storePartsRow : OpenClaim := { program := "ytnahjngbneicaaagreatdoor", sum := "9002037108d700d23eb93ecd56ec49a78a2092258df7ca78c56aaead539e54cf", func := "ferryman/ferrymanlaw12.StoreParts", spec := "storeParts", inPlace := ["slices.overlaps[int]", "slices.overlaps[ferryman/api.Entry]", "maps.clone"], unfollowed := true, recurses := true, named := ["ferryman/schema.fieldsOf"], apart := false, laid := [("ferryman/schema.fieldsOf", laid_ferryman_schema_fieldsOf)] }
def StorePartsSaid : Prop := storePartsRow.holds Tryz.pinned (OpenSpec.ofChange storePartsSpec)

/-- ITS FALSE NEIGHBOUR: 'it returns false'. Refute it at one input. -/
def storePartsWrong : ChangeSpec := { name := "storeParts", fn := fun _ => fun
  | [d1, d2] => { results := [.lit (.bool false)], args := [d1, d2] }
  | _ => none }
def StorePartsWrongFalsely : Prop := storePartsRow.holds Tryz.pinned (OpenSpec.ofChange storePartsWrong)

/- THE SECOND FORM. 'bulk': how many values and letters a reading holds, each counted each time it is reached (what is shared counts as often as it is met; a slice's spare places count too). A statement '..UptoSaid' is the law's where the arguments, and the package variables that the reading takes, are together of bulk at most 1048576: NARROWER than '..Said'. Prove '..Said' where nothing that the law and all that it calls make is longer than what came in: it says more and counts as full. Else prove '..UptoSaid'. A law counts once. -/
mutual
def uptoBulk {H : Type} : DataW H → Nat
  | .lit (.string bytes) => bytes.length + 1
  | .lit _ => 1
  | .nil => 1
  | .ptr d => uptoBulk d + 1
  | .slice elems spare => uptoBulkAll elems + uptoBulkAll spare + 1
  | .agg parts => uptoBulkAll parts + 1
  | .iface _ d => uptoBulk d + 1
  | .map entries => uptoBulkEntries entries + 1
  | .held _ => 1
def uptoBulkAll {H : Type} : List (DataW H) → Nat
  | [] => 0
  | d :: r => uptoBulk d + uptoBulkAll r
def uptoBulkEntries {H : Type} : List (Lit × DataW H) → Nat
  | [] => 0
  | x :: r => uptoBulkEntry x + uptoBulkEntries r
def uptoBulkEntry {H : Type} : Lit × DataW H → Nat
  | (.string bytes, d) => bytes.length + uptoBulk d + 1
  | (_, d) => uptoBulk d + 1
 end
def uptoSmall : (H : Type) → List (DataW H) → Bool := fun _ ds => decide (uptoBulkAll ds ≤ 1048576)
def OpenSpec.upto (s : _root_.Go.ChangeSpec) : _root_.Go.OpenSpec := { _root_.Go.OpenSpec.ofChange s with cond := some uptoSmall }

/-- 'ferrymanlaw12.StoreLasts', WHERE WHAT IT READS IS OF BULK AT MOST 1048576: true; the input reads as it did. -/
def storeLastsUptoRow : OpenClaim := { program := "ytnahjngbneicaaagreatdoor", sum := "9002037108d700d23eb93ecd56ec49a78a2092258df7ca78c56aaead539e54cf", func := "ferryman/ferrymanlaw12.StoreLasts", spec := "storeLasts", inPlace := ["slices.overlaps[int]", "slices.overlaps[ferryman/api.Entry]", "maps.clone"], unfollowed := true, recurses := true, named := ["ferryman/schema.fieldsOf"], apart := false, laid := [("ferryman/schema.fieldsOf", laid_ferryman_schema_fieldsOf)], narrowed := true }
def StoreLastsUptoSaid : Prop := storeLastsUptoRow.holds Tryz.pinned (OpenSpec.upto storeLastsSpec)

/-- 'ferrymanlaw12.StoreTwice', WHERE WHAT IT READS IS OF BULK AT MOST 1048576: true; the input reads as it did. -/
def storeTwiceUptoRow : OpenClaim := { program := "ytnahjngbneicaaagreatdoor", sum := "9002037108d700d23eb93ecd56ec49a78a2092258df7ca78c56aaead539e54cf", func := "ferryman/ferrymanlaw12.StoreTwice", spec := "storeTwice", inPlace := ["slices.overlaps[int]", "slices.overlaps[ferryman/api.Entry]", "maps.clone"], unfollowed := true, recurses := true, named := ["ferryman/schema.fieldsOf"], apart := false, laid := [("ferryman/schema.fieldsOf", laid_ferryman_schema_fieldsOf)], narrowed := true }
def StoreTwiceUptoSaid : Prop := storeTwiceUptoRow.holds Tryz.pinned (OpenSpec.upto storeTwiceSpec)

/-- 'ferrymanlaw12.StoreFull', WHERE WHAT IT READS IS OF BULK AT MOST 1048576: true; the input reads as it did. -/
def storeFullUptoRow : OpenClaim := { program := "ytnahjngbneicaaagreatdoor", sum := "9002037108d700d23eb93ecd56ec49a78a2092258df7ca78c56aaead539e54cf", func := "ferryman/ferrymanlaw12.StoreFull", spec := "storeFull", inPlace := ["slices.overlaps[int]", "slices.overlaps[ferryman/api.Entry]", "maps.clone"], unfollowed := true, recurses := true, named := ["ferryman/schema.fieldsOf"], apart := false, laid := [("ferryman/schema.fieldsOf", laid_ferryman_schema_fieldsOf)], narrowed := true }
def StoreFullUptoSaid : Prop := storeFullUptoRow.holds Tryz.pinned (OpenSpec.upto storeFullSpec)

/-- 'ferrymanlaw12.StoreParts', WHERE WHAT IT READS IS OF BULK AT MOST 1048576: true; the input reads as it did. -/
def storePartsUptoRow : OpenClaim := { program := "ytnahjngbneicaaagreatdoor", sum := "9002037108d700d23eb93ecd56ec49a78a2092258df7ca78c56aaead539e54cf", func := "ferryman/ferrymanlaw12.StoreParts", spec := "storeParts", inPlace := ["slices.overlaps[int]", "slices.overlaps[ferryman/api.Entry]", "maps.clone"], unfollowed := true, recurses := true, named := ["ferryman/schema.fieldsOf"], apart := false, laid := [("ferryman/schema.fieldsOf", laid_ferryman_schema_fieldsOf)], narrowed := true }
def StorePartsUptoSaid : Prop := storePartsUptoRow.holds Tryz.pinned (OpenSpec.upto storePartsSpec)

end Rows
end Go.Proofs.YtnahjngbneicaaaGreatDoor
