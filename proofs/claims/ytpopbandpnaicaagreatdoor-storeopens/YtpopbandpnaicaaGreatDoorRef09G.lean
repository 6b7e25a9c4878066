import Derived.Test.YtpopbandpnaicaaGreatDoorPack4
import Derived.Test.YtpopbandpnaicaaGreatDoorPack2
import Derived.Test.YtpopbandpnaicaaGreatDoorPack1
import Derived.Deep.QuietTactic
import Derived.BigQuiet
namespace Go.Proofs.YtpopbandpnaicaaGreatDoor
open Go.RowKit

def TabledN (w : World) (TL : Option (List Ent)) (e : Ending) (w' : World) : Prop :=
 ∃ vt t, e = .returned (.tuple #[vt, .bool TL.isSome]) ∧ OwnE w' w.heap.size vt t ∧ (∀ e ∈ t, EntI e) ∧ (∀ t', TL = some t' -> t = t') ∧ Below w.heap.size w w'

end Go.Proofs.YtpopbandpnaicaaGreatDoor
