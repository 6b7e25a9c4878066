/-
  DERIVED. GIVEN WITH THE SEED: THE CARDS: each row of YtddhcohjmgdajabDoorRows.lean that lists a variable, with what it lists TIED to the program's text (the seventh form; the later family's looks); each row that meets fmt, with fmt's text TOLD by the authors' own Lean function (tested against real Go, not proved from fmt's source: count such statements apart). THE CARD IS WHAT COUNTS. Prove the row's statement (the work); the ties are given (YtddhcohjmgdajabDoorTie.lean); close each card by the builder's one call (the guide's Derived/Test/ToyasCard.lean, 'card_holds'). Laid BY PROGRAM, IN A SANDBOX (cutbox-door.mjs). By AI agents, Wed Nov 11 2026. No macro, syntax, notation, axiom, sorry.
-/
import Derived.Test.YtddhcohjmgdajabDoorRows
import GoSem.ClaimSeven
namespace Go.Proofs.YtddhcohjmgdajabDoor
namespace Rows

/-- THE TIED CARD OF 'ferrymanlaw08.SegmentGrows'. -/
def segmentGrowsCard : Claim7 := { stood := { row := segmentGrowsRow, standIns := [], harness := (true, "9e67853ab116448f53a382c2988de0c66f0981cd873847db4d5e30c1a2c18a1e"), looks := false }, kinds := [], alts := [], laidByText := true, laidKinds := [.widerDeep], laidTests := true, laidLooks := .later }
def SegmentGrowsCardSaid : Prop := Claim7.holds Tryd.pinned (.plain (OpenSpec.ofChange segmentGrowsSpec)) segmentGrowsCard

/-- THE TIED CARD OF 'ferrymanlaw08.SegmentParts'. -/
def segmentPartsCard : Claim7 := { stood := { row := segmentPartsRow, standIns := [], harness := (true, "9e67853ab116448f53a382c2988de0c66f0981cd873847db4d5e30c1a2c18a1e"), looks := false }, kinds := [], alts := [], laidByText := true, laidKinds := [.widerDeep], laidTests := true, laidLooks := .later }
def SegmentPartsCardSaid : Prop := Claim7.holds Tryd.pinned (.plain (OpenSpec.ofChange segmentPartsSpec)) segmentPartsCard

/-- THE SECOND FORM's CARD OF 'ferrymanlaw08.SegmentGrows'. -/
def segmentGrowsUptoCard : Claim7 := { stood := { row := segmentGrowsUptoRow, standIns := [], harness := (true, "9e67853ab116448f53a382c2988de0c66f0981cd873847db4d5e30c1a2c18a1e"), looks := false }, kinds := [], alts := [], laidByText := true, laidKinds := [.widerDeep], laidTests := true, laidLooks := .later }
def SegmentGrowsUptoCardSaid : Prop := Claim7.holds Tryd.pinned (.plain (OpenSpec.upto segmentGrowsSpec)) segmentGrowsUptoCard

/-- THE SECOND FORM's CARD OF 'ferrymanlaw08.SegmentParts'. -/
def segmentPartsUptoCard : Claim7 := { stood := { row := segmentPartsUptoRow, standIns := [], harness := (true, "9e67853ab116448f53a382c2988de0c66f0981cd873847db4d5e30c1a2c18a1e"), looks := false }, kinds := [], alts := [], laidByText := true, laidKinds := [.widerDeep], laidTests := true, laidLooks := .later }
def SegmentPartsUptoCardSaid : Prop := Claim7.holds Tryd.pinned (.plain (OpenSpec.upto segmentPartsSpec)) segmentPartsUptoCard
end Rows
end Go.Proofs.YtddhcohjmgdajabDoor
