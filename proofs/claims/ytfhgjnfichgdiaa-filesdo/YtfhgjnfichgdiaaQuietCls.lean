/- A drawn region whose operations yield one value in every world of a class that is told by an index. -/
import Derived.Test.YtfhgjnfichgdiaaBase0
import Derived.Deep.QuietTactic
import Derived.BigQuiet
namespace Go.Proofs.Ytfhgjnfichgdiaa
open Go.RowKit

theorem wp_region_cls {P : Program} {ι : Type} (W : ι → World) (i0 : ι) {id : Nat} {Q : Exit → Act → World → Prop} {a : Act} {w : World} {l : List Oper} (hm : P.follows .mixedOrders = true) (hB : Region.lexB .any l.toArray = true) (h0 : W i0 = w.drew)
    (h : wpQuiet P l.toArray (fun w' => ∃ n, w' = W n) (fun a' => ∀ w', (∃ n, w' = W n) → Q .normal a' w') l a) : (Code.region id l.toArray true).wp P Q a w :=
  wp_region_quiet (C := fun w' => ∃ n, w' = W n) hm hB ⟨i0, h0.symm⟩ (by simpa using h)

/-- The worlds that are alike below a block, told by an index. -/
theorem below_cls (B : Nat) (w : World) : ∃ (ι : Type) (_ : Nonempty ι) (W : ι → World), (∀ i, Below B w (W i)) ∧ ∀ w', Below B w w' → ∃ i, w' = W i :=
  ⟨{ w' // Below B w w' }, ⟨⟨w, Below.refl _ _⟩⟩, Subtype.val, fun i => i.2, fun w' h => ⟨⟨w', h⟩, rfl⟩⟩

end Go.Proofs.Ytfhgjnfichgdiaa
