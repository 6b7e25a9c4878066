/- Contract of ferrymanref03.Same. -/
import Derived.Test.YtgpdbboieokldaaGreatRef03List
namespace Go.Proofs.YtgpdbboieokldaaGreat
open Go.RowKit

theorem getD_ext {α : Type} (d : α) (A B : List α) (hl : A.length = B.length) (h : ∀ j, j < A.length → A.getD j d = B.getD j d) : A = B := by
  apply List.ext_getElem hl
  intro j h1 h2
  have := h j h1
  simpa [List.getD, h1, h2] using this

end Go.Proofs.YtgpdbboieokldaaGreat
