/-
  NARROWER THAN 'FOR EVERY INPUT', by the rows' own cells (each row's printed sentence says how): SchemaEncodes: laid · SchemaDecodes: laid · SchemaBack: laid · SchemaOnce: laid · SchemaCuts: laid · SchemaStrange: laid.
  DERIVED. THE GIVEN ROWS OF THIS SEAT. 6 by the template 'for every input the law returns true; each argument reads behind the call as it read before'; 0 by the template 'total and deterministic' (their statements: YtonibpnhhdjklaaDoorTotals.lean).
  GIVEN WITH THE SEED: the statements are not yours to turn. If you find one false, say at which input.
  Laid BY PROGRAM, IN A SANDBOX (cutbox-rows.mjs): the forced cells as the released guide's own fill.sh prints them over the translation 4c6fd12065f119a6… (all of the seat's roots in one cut). By AI agents, Wed Nov 11 2026. No macro, syntax, notation, axiom, sorry.
-/
import Derived.Test.YtonibpnhhdjklaaDoorChecked
import GoSem.Claim
import GoSem.ClaimJoined
import GoSem.ClaimMapViews
import Derived.JoinedTies
import Derived.KernelRfl
namespace Go.Proofs.YtonibpnhhdjklaaDoor
/- THE CELL 'sum', in the pinned program and in every row, IS THE sha256 OF THE DUMP (.gsa) THAT YtonibpnhhdjklaaDoorProg.lean LOADS. Nothing in Lean hashes anything: it is a label: what it is worth is what the hold of that sum in a sandbox is worth. -/
noncomputable def Tryd.pinned : Pinned := { name := "ytonibpnhhdjklaadoor", sum := "4c6fd12065f119a699683c89d77544e9b1155c0b52ba2adc2f29a98ed8d12aec", checked := Tryd.checked }
namespace Rows
def none {H : Type} : Left H := { results := [], args := [] }

/- WHAT THE LISTED PACKAGE-LEVEL VARIABLES READ AS WHEN THE CALL BEGINS. Each datum BY PROGRAM (the guide's laid-datum.mjs) off the statement by which the dump's own 'gosem.cut.vars' lays the variable. In a bare row this is a premise. The card (YtonibpnhhdjklaaDoorCards.lean) ties it to the program's text. -/
def laid_ferryman_schema_fieldsOf {H : Type} : DataW H := .agg [.nil, .slice [.lit (.int .i64 1), .lit (.int .i64 2), .lit (.int .i64 4)] [], .slice [.lit (.int .i64 1), .lit (.int .i64 2), .lit (.int .i64 3), .lit (.int .i64 4)] [], .slice [.lit (.int .i64 1), .lit (.int .i64 2), .lit (.int .i64 3), .lit (.int .i64 4), .lit (.int .i64 5)] []]

/-- 'ferrymanlaw06.SchemaEncodes': WHATEVER THE INPUT: true; the input reads as it did. -/
def schemaEncodesSpec : ChangeSpec := { name := "schemaEncodes", fn := fun _ => fun
  | [d1, d2] => { results := [.lit (.bool true)], args := [d1, d2] }
  | _ => none }
def schemaEncodesRow : OpenClaim := { program := "ytonibpnhhdjklaadoor", sum := "4c6fd12065f119a699683c89d77544e9b1155c0b52ba2adc2f29a98ed8d12aec", func := "ferryman/ferrymanlaw06.SchemaEncodes", spec := "schemaEncodes", unfollowed := true, recurses := true, named := ["ferryman/schema.fieldsOf"], apart := false, laid := [("ferryman/schema.fieldsOf", laid_ferryman_schema_fieldsOf)] }
def SchemaEncodesSaid : Prop := schemaEncodesRow.holds Tryd.pinned (OpenSpec.ofChange schemaEncodesSpec)

/-- ITS FALSE NEIGHBOUR: 'it returns false'. Refute it at one input. -/
def schemaEncodesWrong : ChangeSpec := { name := "schemaEncodes", fn := fun _ => fun
  | [d1, d2] => { results := [.lit (.bool false)], args := [d1, d2] }
  | _ => none }
def SchemaEncodesWrongFalsely : Prop := schemaEncodesRow.holds Tryd.pinned (OpenSpec.ofChange schemaEncodesWrong)

/-- 'ferrymanlaw06.SchemaDecodes': WHATEVER THE INPUT: true; the input reads as it did. -/
def schemaDecodesSpec : ChangeSpec := { name := "schemaDecodes", fn := fun _ => fun
  | [d] => { results := [.lit (.bool true)], args := [d] }
  | _ => none }
def schemaDecodesRow : OpenClaim := { program := "ytonibpnhhdjklaadoor", sum := "4c6fd12065f119a699683c89d77544e9b1155c0b52ba2adc2f29a98ed8d12aec", func := "ferryman/ferrymanlaw06.SchemaDecodes", spec := "schemaDecodes", unfollowed := true, recurses := true, named := ["ferryman/schema.fieldsOf"], apart := false, laid := [("ferryman/schema.fieldsOf", laid_ferryman_schema_fieldsOf)] }
def SchemaDecodesSaid : Prop := schemaDecodesRow.holds Tryd.pinned (OpenSpec.ofChange schemaDecodesSpec)

/-- ITS FALSE NEIGHBOUR: 'it returns false'. Refute it at one input. -/
def schemaDecodesWrong : ChangeSpec := { name := "schemaDecodes", fn := fun _ => fun
  | [d] => { results := [.lit (.bool false)], args := [d] }
  | _ => none }
def SchemaDecodesWrongFalsely : Prop := schemaDecodesRow.holds Tryd.pinned (OpenSpec.ofChange schemaDecodesWrong)

/-- 'ferrymanlaw06.SchemaBack': WHATEVER THE INPUT: true; the input reads as it did. -/
def schemaBackSpec : ChangeSpec := { name := "schemaBack", fn := fun _ => fun
  | [d1, d2] => { results := [.lit (.bool true)], args := [d1, d2] }
  | _ => none }
def schemaBackRow : OpenClaim := { program := "ytonibpnhhdjklaadoor", sum := "4c6fd12065f119a699683c89d77544e9b1155c0b52ba2adc2f29a98ed8d12aec", func := "ferryman/ferrymanlaw06.SchemaBack", spec := "schemaBack", unfollowed := true, recurses := true, named := ["ferryman/schema.fieldsOf"], apart := false, laid := [("ferryman/schema.fieldsOf", laid_ferryman_schema_fieldsOf)] }
def SchemaBackSaid : Prop := schemaBackRow.holds Tryd.pinned (OpenSpec.ofChange schemaBackSpec)

/-- ITS FALSE NEIGHBOUR: 'it returns false'. Refute it at one input. -/
def schemaBackWrong : ChangeSpec := { name := "schemaBack", fn := fun _ => fun
  | [d1, d2] => { results := [.lit (.bool false)], args := [d1, d2] }
  | _ => none }
def SchemaBackWrongFalsely : Prop := schemaBackRow.holds Tryd.pinned (OpenSpec.ofChange schemaBackWrong)

/-- 'ferrymanlaw06.SchemaOnce': WHATEVER THE INPUT: true; the input reads as it did. -/
def schemaOnceSpec : ChangeSpec := { name := "schemaOnce", fn := fun _ => fun
  | [d] => { results := [.lit (.bool true)], args := [d] }
  | _ => none }
def schemaOnceRow : OpenClaim := { program := "ytonibpnhhdjklaadoor", sum := "4c6fd12065f119a699683c89d77544e9b1155c0b52ba2adc2f29a98ed8d12aec", func := "ferryman/ferrymanlaw06.SchemaOnce", spec := "schemaOnce", unfollowed := true, recurses := true, named := ["ferryman/schema.fieldsOf"], apart := false, laid := [("ferryman/schema.fieldsOf", laid_ferryman_schema_fieldsOf)] }
def SchemaOnceSaid : Prop := schemaOnceRow.holds Tryd.pinned (OpenSpec.ofChange schemaOnceSpec)

/-- ITS FALSE NEIGHBOUR: 'it returns false'. Refute it at one input. -/
def schemaOnceWrong : ChangeSpec := { name := "schemaOnce", fn := fun _ => fun
  | [d] => { results := [.lit (.bool false)], args := [d] }
  | _ => none }
def SchemaOnceWrongFalsely : Prop := schemaOnceRow.holds Tryd.pinned (OpenSpec.ofChange schemaOnceWrong)

/-- 'ferrymanlaw06.SchemaCuts': WHATEVER THE INPUT: true; the input reads as it did. -/
def schemaCutsSpec : ChangeSpec := { name := "schemaCuts", fn := fun _ => fun
  | [d1, d2, d3, d4] => { results := [.lit (.bool true)], args := [d1, d2, d3, d4] }
  | _ => none }
def schemaCutsRow : OpenClaim := { program := "ytonibpnhhdjklaadoor", sum := "4c6fd12065f119a699683c89d77544e9b1155c0b52ba2adc2f29a98ed8d12aec", func := "ferryman/ferrymanlaw06.SchemaCuts", spec := "schemaCuts", unfollowed := true, recurses := true, named := ["ferryman/schema.fieldsOf"], apart := false, laid := [("ferryman/schema.fieldsOf", laid_ferryman_schema_fieldsOf)] }
def SchemaCutsSaid : Prop := schemaCutsRow.holds Tryd.pinned (OpenSpec.ofChange schemaCutsSpec)

/-- ITS FALSE NEIGHBOUR: 'it returns false'. Refute it at one input. -/
def schemaCutsWrong : ChangeSpec := { name := "schemaCuts", fn := fun _ => fun
  | [d1, d2, d3, d4] => { results := [.lit (.bool false)], args := [d1, d2, d3, d4] }
  | _ => none }
def SchemaCutsWrongFalsely : Prop := schemaCutsRow.holds Tryd.pinned (OpenSpec.ofChange schemaCutsWrong)

/-- 'ferrymanlaw06.SchemaStrange': WHATEVER THE INPUT: true; the input reads as it did. -/
def schemaStrangeSpec : ChangeSpec := { name := "schemaStrange", fn := fun _ => fun
  | [d1, d2, d3, d4] => { results := [.lit (.bool true)], args := [d1, d2, d3, d4] }
  | _ => none }
def schemaStrangeRow : OpenClaim := { program := "ytonibpnhhdjklaadoor", sum := "4c6fd12065f119a699683c89d77544e9b1155c0b52ba2adc2f29a98ed8d12aec", func := "ferryman/ferrymanlaw06.SchemaStrange", spec := "schemaStrange", unfollowed := true, recurses := true, named := ["ferryman/schema.fieldsOf"], apart := false, laid := [("ferryman/schema.fieldsOf", laid_ferryman_schema_fieldsOf)] }
def SchemaStrangeSaid : Prop := schemaStrangeRow.holds Tryd.pinned (OpenSpec.ofChange schemaStrangeSpec)

/-- ITS FALSE NEIGHBOUR: 'it returns false'. Refute it at one input. -/
def schemaStrangeWrong : ChangeSpec := { name := "schemaStrange", fn := fun _ => fun
  | [d1, d2, d3, d4] => { results := [.lit (.bool false)], args := [d1, d2, d3, d4] }
  | _ => none }
def SchemaStrangeWrongFalsely : Prop := schemaStrangeRow.holds Tryd.pinned (OpenSpec.ofChange schemaStrangeWrong)

/- THE SECOND FORM. 'bulk': how many values and letters a reading holds, each counted each time it is reached (what is shared counts as often as it is met; a slice's spare places count too). A statement '..UptoSaid' is the law's where the arguments, and the package variables that the reading takes, are together of bulk at most 1048576: NARROWER than '..Said'. Prove '..Said' where nothing that the law and all that it calls make is longer than what came in: it says more and counts as full. Else prove '..UptoSaid'. A law counts once. -/
mutual
def uptoBulk {H : Type} : DataW H → Nat
  | .lit (.string bytes) => bytes.length + 1
  | .lit _ => 1
  | .nil => 1
  | .ptr d => uptoBulk d + 1
  | .slice elems spare => uptoBulkAll elems + uptoBulkAll spare + 1
  | .agg parts => uptoBulkAll parts + 1
  | .iface _ d => uptoBulk d + 1
  | .map entries => uptoBulkEntries entries + 1
  | .held _ => 1
def uptoBulkAll {H : Type} : List (DataW H) → Nat
  | [] => 0
  | d :: r => uptoBulk d + uptoBulkAll r
def uptoBulkEntries {H : Type} : List (Lit × DataW H) → Nat
  | [] => 0
  | x :: r => uptoBulkEntry x + uptoBulkEntries r
def uptoBulkEntry {H : Type} : Lit × DataW H → Nat
  | (.string bytes, d) => bytes.length + uptoBulk d + 1
  | (_, d) => uptoBulk d + 1
 end
def uptoSmall : (H : Type) → List (DataW H) → Bool := fun _ ds => decide (uptoBulkAll ds ≤ 1048576)
def OpenSpec.upto (s : _root_.Go.ChangeSpec) : _root_.Go.OpenSpec := { _root_.Go.OpenSpec.ofChange s with cond := some uptoSmall }

/-- 'ferrymanlaw06.SchemaEncodes', WHERE WHAT IT READS IS OF BULK AT MOST 1048576: true; the input reads as it did. -/
def schemaEncodesUptoRow : OpenClaim := { program := "ytonibpnhhdjklaadoor", sum := "4c6fd12065f119a699683c89d77544e9b1155c0b52ba2adc2f29a98ed8d12aec", func := "ferryman/ferrymanlaw06.SchemaEncodes", spec := "schemaEncodes", unfollowed := true, recurses := true, named := ["ferryman/schema.fieldsOf"], apart := false, laid := [("ferryman/schema.fieldsOf", laid_ferryman_schema_fieldsOf)], narrowed := true }
def SchemaEncodesUptoSaid : Prop := schemaEncodesUptoRow.holds Tryd.pinned (OpenSpec.upto schemaEncodesSpec)

/-- 'ferrymanlaw06.SchemaDecodes', WHERE WHAT IT READS IS OF BULK AT MOST 1048576: true; the input reads as it did. -/
def schemaDecodesUptoRow : OpenClaim := { program := "ytonibpnhhdjklaadoor", sum := "4c6fd12065f119a699683c89d77544e9b1155c0b52ba2adc2f29a98ed8d12aec", func := "ferryman/ferrymanlaw06.SchemaDecodes", spec := "schemaDecodes", unfollowed := true, recurses := true, named := ["ferryman/schema.fieldsOf"], apart := false, laid := [("ferryman/schema.fieldsOf", laid_ferryman_schema_fieldsOf)], narrowed := true }
def SchemaDecodesUptoSaid : Prop := schemaDecodesUptoRow.holds Tryd.pinned (OpenSpec.upto schemaDecodesSpec)

/-- 'ferrymanlaw06.SchemaBack', WHERE WHAT IT READS IS OF BULK AT MOST 1048576: true; the input reads as it did. -/
def schemaBackUptoRow : OpenClaim := { program := "ytonibpnhhdjklaadoor", sum := "4c6fd12065f119a699683c89d77544e9b1155c0b52ba2adc2f29a98ed8d12aec", func := "ferryman/ferrymanlaw06.SchemaBack", spec := "schemaBack", unfollowed := true, recurses := true, named := ["ferryman/schema.fieldsOf"], apart := false, laid := [("ferryman/schema.fieldsOf", laid_ferryman_schema_fieldsOf)], narrowed := true }
def SchemaBackUptoSaid : Prop := schemaBackUptoRow.holds Tryd.pinned (OpenSpec.upto schemaBackSpec)

/-- 'ferrymanlaw06.SchemaOnce', WHERE WHAT IT READS IS OF BULK AT MOST 1048576: true; the input reads as it did. -/
def schemaOnceUptoRow : OpenClaim := { program := "ytonibpnhhdjklaadoor", sum := "4c6fd12065f119a699683c89d77544e9b1155c0b52ba2adc2f29a98ed8d12aec", func := "ferryman/ferrymanlaw06.SchemaOnce", spec := "schemaOnce", unfollowed := true, recurses := true, named := ["ferryman/schema.fieldsOf"], apart := false, laid := [("ferryman/schema.fieldsOf", laid_ferryman_schema_fieldsOf)], narrowed := true }
def SchemaOnceUptoSaid : Prop := schemaOnceUptoRow.holds Tryd.pinned (OpenSpec.upto schemaOnceSpec)

/-- 'ferrymanlaw06.SchemaCuts', WHERE WHAT IT READS IS OF BULK AT MOST 1048576: true; the input reads as it did. -/
def schemaCutsUptoRow : OpenClaim := { program := "ytonibpnhhdjklaadoor", sum := "4c6fd12065f119a699683c89d77544e9b1155c0b52ba2adc2f29a98ed8d12aec", func := "ferryman/ferrymanlaw06.SchemaCuts", spec := "schemaCuts", unfollowed := true, recurses := true, named := ["ferryman/schema.fieldsOf"], apart := false, laid := [("ferryman/schema.fieldsOf", laid_ferryman_schema_fieldsOf)], narrowed := true }
def SchemaCutsUptoSaid : Prop := schemaCutsUptoRow.holds Tryd.pinned (OpenSpec.upto schemaCutsSpec)

/-- 'ferrymanlaw06.SchemaStrange', WHERE WHAT IT READS IS OF BULK AT MOST 1048576: true; the input reads as it did. -/
def schemaStrangeUptoRow : OpenClaim := { program := "ytonibpnhhdjklaadoor", sum := "4c6fd12065f119a699683c89d77544e9b1155c0b52ba2adc2f29a98ed8d12aec", func := "ferryman/ferrymanlaw06.SchemaStrange", spec := "schemaStrange", unfollowed := true, recurses := true, named := ["ferryman/schema.fieldsOf"], apart := false, laid := [("ferryman/schema.fieldsOf", laid_ferryman_schema_fieldsOf)], narrowed := true }
def SchemaStrangeUptoSaid : Prop := schemaStrangeUptoRow.holds Tryd.pinned (OpenSpec.upto schemaStrangeSpec)

end Rows
end Go.Proofs.YtonibpnhhdjklaaDoor
