/- Contract of ferrymanref07: one. -/
import Derived.Test.YtgmdhlchdjlgnabRef07B
namespace Go.Proofs.Ytgmdhlchdjlgnab
open Go.RowKit

/-- What bytes begin with: a record and how many bytes. -/
def OneR (w : World) (l : List Rec) (b : List UInt8) (e : Ending) (w' : World) : Prop :=
  e = .returned (.tuple #[recV (oneL l b).1, .int .i64 ((oneL l b).2 : Nat)]) ∧ Below w.heap.size w w'

theorem belowSevenB {C : Nat} {w0 w : World} (h : Below C w0 w) (R : Nat) (hR : C ≤ R) (x0 x1 x2 x3 x4 x5 x6 : Value) : Below C w0 (((((((w.setCell ⟨R, 0, none⟩ x0).setCell ⟨R, 1, none⟩ x1).setCell ⟨R, 2, none⟩ x2).setCell ⟨R, 3, none⟩ x3).setCell ⟨R, 4, none⟩ x4).setCell ⟨R, 5, none⟩ x5).setCell ⟨R, 6, none⟩ x6) :=
  ((((((h.setCell hR _).setCell hR _).setCell hR _).setCell hR _).setCell hR _).setCell hR _).setCell hR _

end Go.Proofs.Ytgmdhlchdjlgnab
