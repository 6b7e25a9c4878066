/- What texts on bytes and texts on numbers both lean on. -/
import Derived.Test.YtfhgjnfichgdiaaRows
import Derived.WalkKit
import Derived.ProofKit
import Derived.Deep.Draws
namespace Go.Proofs.Ytfhgjnfichgdiaa
open Go.RowKit

theorem below_drewN {B : Nat} {a w : World} (h : Below B a w) (n : Nat) : Below B a (w.drewN n) := ⟨h.os, h.tape, h.output, h.size, h.block⟩

end Go.Proofs.Ytfhgjnfichgdiaa
