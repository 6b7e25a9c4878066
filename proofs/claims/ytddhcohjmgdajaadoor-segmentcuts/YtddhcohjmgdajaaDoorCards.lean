/-
  DERIVED. GIVEN WITH THE SEED: THE CARDS: each row of YtddhcohjmgdajaaDoorRows.lean that lists a variable, with what it lists TIED to the program's text (the seventh form; the later family's looks); each row that meets fmt, with fmt's text TOLD by the authors' own Lean function (tested against real Go, not proved from fmt's source: count such statements apart). THE CARD IS WHAT COUNTS. Prove the row's statement (the work); the ties are given (YtddhcohjmgdajaaDoorTie.lean); close each card by the builder's one call (the guide's Derived/Test/ToyasCard.lean, 'card_holds'). Laid BY PROGRAM, IN A SANDBOX (cutbox-door.mjs). By AI agents, Wed Nov 11 2026. No macro, syntax, notation, axiom, sorry.
-/
import Derived.Test.YtddhcohjmgdajaaDoorRows
import GoSem.ClaimSeven
namespace Go.Proofs.YtddhcohjmgdajaaDoor
namespace Rows

/-- THE TIED CARD OF 'ferrymanlaw08.SegmentEncodes'. -/
def segmentEncodesCard : Claim7 := { stood := { row := segmentEncodesRow, standIns := [], harness := (true, "cbeb5e6f63ce1c230b7e6c408a63af4f8c12077aaa517f9e14fb269d0b1ac459"), looks := false }, kinds := [], alts := [], laidByText := true, laidKinds := [.widerDeep], laidTests := true, laidLooks := .later }
def SegmentEncodesCardSaid : Prop := Claim7.holds Tryd.pinned (.plain (OpenSpec.ofChange segmentEncodesSpec)) segmentEncodesCard

/-- THE TIED CARD OF 'ferrymanlaw08.SegmentBack'. -/
def segmentBackCard : Claim7 := { stood := { row := segmentBackRow, standIns := [], harness := (true, "cbeb5e6f63ce1c230b7e6c408a63af4f8c12077aaa517f9e14fb269d0b1ac459"), looks := false }, kinds := [], alts := [], laidByText := true, laidKinds := [.widerDeep], laidTests := true, laidLooks := .later }
def SegmentBackCardSaid : Prop := Claim7.holds Tryd.pinned (.plain (OpenSpec.ofChange segmentBackSpec)) segmentBackCard

/-- THE TIED CARD OF 'ferrymanlaw08.SegmentOnce'. -/
def segmentOnceCard : Claim7 := { stood := { row := segmentOnceRow, standIns := [], harness := (true, "cbeb5e6f63ce1c230b7e6c408a63af4f8c12077aaa517f9e14fb269d0b1ac459"), looks := false }, kinds := [], alts := [], laidByText := true, laidKinds := [.widerDeep], laidTests := true, laidLooks := .later }
def SegmentOnceCardSaid : Prop := Claim7.holds Tryd.pinned (.plain (OpenSpec.ofChange segmentOnceSpec)) segmentOnceCard

/-- THE TIED CARD OF 'ferrymanlaw08.SegmentCuts'. -/
def segmentCutsCard : Claim7 := { stood := { row := segmentCutsRow, standIns := [], harness := (true, "cbeb5e6f63ce1c230b7e6c408a63af4f8c12077aaa517f9e14fb269d0b1ac459"), looks := false }, kinds := [], alts := [], laidByText := true, laidKinds := [.widerDeep], laidTests := true, laidLooks := .later }
def SegmentCutsCardSaid : Prop := Claim7.holds Tryd.pinned (.plain (OpenSpec.ofChange segmentCutsSpec)) segmentCutsCard

/-- THE SECOND FORM's CARD OF 'ferrymanlaw08.SegmentEncodes'. -/
def segmentEncodesUptoCard : Claim7 := { stood := { row := segmentEncodesUptoRow, standIns := [], harness := (true, "cbeb5e6f63ce1c230b7e6c408a63af4f8c12077aaa517f9e14fb269d0b1ac459"), looks := false }, kinds := [], alts := [], laidByText := true, laidKinds := [.widerDeep], laidTests := true, laidLooks := .later }
def SegmentEncodesUptoCardSaid : Prop := Claim7.holds Tryd.pinned (.plain (OpenSpec.upto segmentEncodesSpec)) segmentEncodesUptoCard

/-- THE SECOND FORM's CARD OF 'ferrymanlaw08.SegmentBack'. -/
def segmentBackUptoCard : Claim7 := { stood := { row := segmentBackUptoRow, standIns := [], harness := (true, "cbeb5e6f63ce1c230b7e6c408a63af4f8c12077aaa517f9e14fb269d0b1ac459"), looks := false }, kinds := [], alts := [], laidByText := true, laidKinds := [.widerDeep], laidTests := true, laidLooks := .later }
def SegmentBackUptoCardSaid : Prop := Claim7.holds Tryd.pinned (.plain (OpenSpec.upto segmentBackSpec)) segmentBackUptoCard

/-- THE SECOND FORM's CARD OF 'ferrymanlaw08.SegmentOnce'. -/
def segmentOnceUptoCard : Claim7 := { stood := { row := segmentOnceUptoRow, standIns := [], harness := (true, "cbeb5e6f63ce1c230b7e6c408a63af4f8c12077aaa517f9e14fb269d0b1ac459"), looks := false }, kinds := [], alts := [], laidByText := true, laidKinds := [.widerDeep], laidTests := true, laidLooks := .later }
def SegmentOnceUptoCardSaid : Prop := Claim7.holds Tryd.pinned (.plain (OpenSpec.upto segmentOnceSpec)) segmentOnceUptoCard

/-- THE SECOND FORM's CARD OF 'ferrymanlaw08.SegmentCuts'. -/
def segmentCutsUptoCard : Claim7 := { stood := { row := segmentCutsUptoRow, standIns := [], harness := (true, "cbeb5e6f63ce1c230b7e6c408a63af4f8c12077aaa517f9e14fb269d0b1ac459"), looks := false }, kinds := [], alts := [], laidByText := true, laidKinds := [.widerDeep], laidTests := true, laidLooks := .later }
def SegmentCutsUptoCardSaid : Prop := Claim7.holds Tryd.pinned (.plain (OpenSpec.upto segmentCutsSpec)) segmentCutsUptoCard
end Rows
end Go.Proofs.YtddhcohjmgdajaaDoor
