/-
  DERIVED. GIVEN WITH THE SEED: THE CARDS: each row of YtonibpnhhdjklaaDoorRows.lean that lists a variable, with what it lists TIED to the program's text (the seventh form; the later family's looks); each row that meets fmt, with fmt's text TOLD by the authors' own Lean function (tested against real Go, not proved from fmt's source: count such statements apart). THE CARD IS WHAT COUNTS. Prove the row's statement (the work); the ties are given (YtonibpnhhdjklaaDoorTie.lean); close each card by the builder's one call (the guide's Derived/Test/ToyasCard.lean, 'card_holds'). Laid BY PROGRAM, IN A SANDBOX (cutbox-door.mjs). By AI agents, Wed Nov 11 2026. No macro, syntax, notation, axiom, sorry.
-/
import Derived.Test.YtonibpnhhdjklaaDoorRows
import GoSem.ClaimSeven
namespace Go.Proofs.YtonibpnhhdjklaaDoor
namespace Rows

/-- THE TIED CARD OF 'ferrymanlaw06.SchemaEncodes'. -/
def schemaEncodesCard : Claim7 := { stood := { row := schemaEncodesRow, standIns := [], harness := (true, "ab68c1d2d667e09193bddc310f99370585935e985c1b4d0b83661ead4e84169e"), looks := false }, kinds := [], alts := [], laidByText := true, laidKinds := [.widerDeep], laidTests := true, laidLooks := .later }
def SchemaEncodesCardSaid : Prop := Claim7.holds Tryd.pinned (.plain (OpenSpec.ofChange schemaEncodesSpec)) schemaEncodesCard

/-- THE TIED CARD OF 'ferrymanlaw06.SchemaDecodes'. -/
def schemaDecodesCard : Claim7 := { stood := { row := schemaDecodesRow, standIns := [], harness := (true, "ab68c1d2d667e09193bddc310f99370585935e985c1b4d0b83661ead4e84169e"), looks := false }, kinds := [], alts := [], laidByText := true, laidKinds := [.widerDeep], laidTests := true, laidLooks := .later }
def SchemaDecodesCardSaid : Prop := Claim7.holds Tryd.pinned (.plain (OpenSpec.ofChange schemaDecodesSpec)) schemaDecodesCard

/-- THE TIED CARD OF 'ferrymanlaw06.SchemaBack'. -/
def schemaBackCard : Claim7 := { stood := { row := schemaBackRow, standIns := [], harness := (true, "ab68c1d2d667e09193bddc310f99370585935e985c1b4d0b83661ead4e84169e"), looks := false }, kinds := [], alts := [], laidByText := true, laidKinds := [.widerDeep], laidTests := true, laidLooks := .later }
def SchemaBackCardSaid : Prop := Claim7.holds Tryd.pinned (.plain (OpenSpec.ofChange schemaBackSpec)) schemaBackCard

/-- THE TIED CARD OF 'ferrymanlaw06.SchemaOnce'. -/
def schemaOnceCard : Claim7 := { stood := { row := schemaOnceRow, standIns := [], harness := (true, "ab68c1d2d667e09193bddc310f99370585935e985c1b4d0b83661ead4e84169e"), looks := false }, kinds := [], alts := [], laidByText := true, laidKinds := [.widerDeep], laidTests := true, laidLooks := .later }
def SchemaOnceCardSaid : Prop := Claim7.holds Tryd.pinned (.plain (OpenSpec.ofChange schemaOnceSpec)) schemaOnceCard

/-- THE TIED CARD OF 'ferrymanlaw06.SchemaCuts'. -/
def schemaCutsCard : Claim7 := { stood := { row := schemaCutsRow, standIns := [], harness := (true, "ab68c1d2d667e09193bddc310f99370585935e985c1b4d0b83661ead4e84169e"), looks := false }, kinds := [], alts := [], laidByText := true, laidKinds := [.widerDeep], laidTests := true, laidLooks := .later }
def SchemaCutsCardSaid : Prop := Claim7.holds Tryd.pinned (.plain (OpenSpec.ofChange schemaCutsSpec)) schemaCutsCard

/-- THE TIED CARD OF 'ferrymanlaw06.SchemaStrange'. -/
def schemaStrangeCard : Claim7 := { stood := { row := schemaStrangeRow, standIns := [], harness := (true, "ab68c1d2d667e09193bddc310f99370585935e985c1b4d0b83661ead4e84169e"), looks := false }, kinds := [], alts := [], laidByText := true, laidKinds := [.widerDeep], laidTests := true, laidLooks := .later }
def SchemaStrangeCardSaid : Prop := Claim7.holds Tryd.pinned (.plain (OpenSpec.ofChange schemaStrangeSpec)) schemaStrangeCard

/-- THE SECOND FORM's CARD OF 'ferrymanlaw06.SchemaEncodes'. -/
def schemaEncodesUptoCard : Claim7 := { stood := { row := schemaEncodesUptoRow, standIns := [], harness := (true, "ab68c1d2d667e09193bddc310f99370585935e985c1b4d0b83661ead4e84169e"), looks := false }, kinds := [], alts := [], laidByText := true, laidKinds := [.widerDeep], laidTests := true, laidLooks := .later }
def SchemaEncodesUptoCardSaid : Prop := Claim7.holds Tryd.pinned (.plain (OpenSpec.upto schemaEncodesSpec)) schemaEncodesUptoCard

/-- THE SECOND FORM's CARD OF 'ferrymanlaw06.SchemaDecodes'. -/
def schemaDecodesUptoCard : Claim7 := { stood := { row := schemaDecodesUptoRow, standIns := [], harness := (true, "ab68c1d2d667e09193bddc310f99370585935e985c1b4d0b83661ead4e84169e"), looks := false }, kinds := [], alts := [], laidByText := true, laidKinds := [.widerDeep], laidTests := true, laidLooks := .later }
def SchemaDecodesUptoCardSaid : Prop := Claim7.holds Tryd.pinned (.plain (OpenSpec.upto schemaDecodesSpec)) schemaDecodesUptoCard

/-- THE SECOND FORM's CARD OF 'ferrymanlaw06.SchemaBack'. -/
def schemaBackUptoCard : Claim7 := { stood := { row := schemaBackUptoRow, standIns := [], harness := (true, "ab68c1d2d667e09193bddc310f99370585935e985c1b4d0b83661ead4e84169e"), looks := false }, kinds := [], alts := [], laidByText := true, laidKinds := [.widerDeep], laidTests := true, laidLooks := .later }
def SchemaBackUptoCardSaid : Prop := Claim7.holds Tryd.pinned (.plain (OpenSpec.upto schemaBackSpec)) schemaBackUptoCard

/-- THE SECOND FORM's CARD OF 'ferrymanlaw06.SchemaOnce'. -/
def schemaOnceUptoCard : Claim7 := { stood := { row := schemaOnceUptoRow, standIns := [], harness := (true, "ab68c1d2d667e09193bddc310f99370585935e985c1b4d0b83661ead4e84169e"), looks := false }, kinds := [], alts := [], laidByText := true, laidKinds := [.widerDeep], laidTests := true, laidLooks := .later }
def SchemaOnceUptoCardSaid : Prop := Claim7.holds Tryd.pinned (.plain (OpenSpec.upto schemaOnceSpec)) schemaOnceUptoCard

/-- THE SECOND FORM's CARD OF 'ferrymanlaw06.SchemaCuts'. -/
def schemaCutsUptoCard : Claim7 := { stood := { row := schemaCutsUptoRow, standIns := [], harness := (true, "ab68c1d2d667e09193bddc310f99370585935e985c1b4d0b83661ead4e84169e"), looks := false }, kinds := [], alts := [], laidByText := true, laidKinds := [.widerDeep], laidTests := true, laidLooks := .later }
def SchemaCutsUptoCardSaid : Prop := Claim7.holds Tryd.pinned (.plain (OpenSpec.upto schemaCutsSpec)) schemaCutsUptoCard

/-- THE SECOND FORM's CARD OF 'ferrymanlaw06.SchemaStrange'. -/
def schemaStrangeUptoCard : Claim7 := { stood := { row := schemaStrangeUptoRow, standIns := [], harness := (true, "ab68c1d2d667e09193bddc310f99370585935e985c1b4d0b83661ead4e84169e"), looks := false }, kinds := [], alts := [], laidByText := true, laidKinds := [.widerDeep], laidTests := true, laidLooks := .later }
def SchemaStrangeUptoCardSaid : Prop := Claim7.holds Tryd.pinned (.plain (OpenSpec.upto schemaStrangeSpec)) schemaStrangeUptoCard
end Rows
end Go.Proofs.YtonibpnhhdjklaaDoor
