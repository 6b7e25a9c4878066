/-
  DERIVED. GIVEN WITH THE SEED: THE CARDS: each row of YtonibpnhhdjklabDoorRows.lean that lists a variable, with what it lists TIED to the program's text (the seventh form; the later family's looks); each row that meets fmt, with fmt's text TOLD by the authors' own Lean function (tested against real Go, not proved from fmt's source: count such statements apart). THE CARD IS WHAT COUNTS. Prove the row's statement (the work); the ties are given (YtonibpnhhdjklabDoorTie.lean); close each card by the builder's one call (the guide's Derived/Test/ToyasCard.lean, 'card_holds'). Laid BY PROGRAM, IN A SANDBOX (cutbox-door.mjs). By AI agents, Wed Nov 11 2026. No macro, syntax, notation, axiom, sorry.
-/
import Derived.Test.YtonibpnhhdjklabDoorRows
import GoSem.ClaimSeven
namespace Go.Proofs.YtonibpnhhdjklabDoor
namespace Rows

/-- THE TIED CARD OF 'ferrymanlaw06.SchemaApart'. -/
def schemaApartCard : Claim7 := { stood := { row := schemaApartRow, standIns := [], harness := (true, "4813d5f3aa0b5a3517fcf17bee88ab7776b2c0a981c5ba401e6b624e220fad0f"), looks := false }, kinds := [], alts := [], laidByText := true, laidKinds := [.widerDeep], laidTests := true, laidLooks := .later }
def SchemaApartCardSaid : Prop := Claim7.holds Tryd.pinned (.plain (OpenSpec.ofChange schemaApartSpec)) schemaApartCard

/-- THE TIED CARD OF 'ferrymanlaw06.SchemaAgain'. -/
def schemaAgainCard : Claim7 := { stood := { row := schemaAgainRow, standIns := [], harness := (true, "4813d5f3aa0b5a3517fcf17bee88ab7776b2c0a981c5ba401e6b624e220fad0f"), looks := false }, kinds := [], alts := [], laidByText := true, laidKinds := [.widerDeep], laidTests := true, laidLooks := .later }
def SchemaAgainCardSaid : Prop := Claim7.holds Tryd.pinned (.plain (OpenSpec.ofChange schemaAgainSpec)) schemaAgainCard

/-- THE SECOND FORM's CARD OF 'ferrymanlaw06.SchemaApart'. -/
def schemaApartUptoCard : Claim7 := { stood := { row := schemaApartUptoRow, standIns := [], harness := (true, "4813d5f3aa0b5a3517fcf17bee88ab7776b2c0a981c5ba401e6b624e220fad0f"), looks := false }, kinds := [], alts := [], laidByText := true, laidKinds := [.widerDeep], laidTests := true, laidLooks := .later }
def SchemaApartUptoCardSaid : Prop := Claim7.holds Tryd.pinned (.plain (OpenSpec.upto schemaApartSpec)) schemaApartUptoCard

/-- THE SECOND FORM's CARD OF 'ferrymanlaw06.SchemaAgain'. -/
def schemaAgainUptoCard : Claim7 := { stood := { row := schemaAgainUptoRow, standIns := [], harness := (true, "4813d5f3aa0b5a3517fcf17bee88ab7776b2c0a981c5ba401e6b624e220fad0f"), looks := false }, kinds := [], alts := [], laidByText := true, laidKinds := [.widerDeep], laidTests := true, laidLooks := .later }
def SchemaAgainUptoCardSaid : Prop := Claim7.holds Tryd.pinned (.plain (OpenSpec.upto schemaAgainSpec)) schemaAgainUptoCard
end Rows
end Go.Proofs.YtonibpnhhdjklabDoor
