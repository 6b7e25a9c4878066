/- Contract of ferrymanref09: table. -/
import Derived.Test.YtgpdbboieokldaaGreatPack3
import Derived.Test.YtgpdbboieokldaaGreatPack4
namespace Go.Proofs.YtgpdbboieokldaaGreat
open Go.RowKit

/-- What a table's bytes tell: whether they are one, and the entries. -/
def TabledN (w : World) (TL : Option (List Ent)) (e : Ending) (w' : World) : Prop :=
  ∃ vt t, e = .returned (.tuple #[vt, .bool TL.isSome]) ∧ OwnE w' w.heap.size vt t ∧ (∀ e ∈ t, EntI e) ∧ (∀ t', TL = some t' → t = t') ∧ Below w.heap.size w w'

/-- Where the reading of a table stands: so many are left to be read. -/
def TabAtE (b : List UInt8) (many : Nat) (t : List Ent) (at' : Nat) : Prop :=
  readE many (b.drop (dec62 b).2) = (readE (many - t.length) (b.drop at')).map (fun r => (t ++ r.1, r.2))

theorem readE_eq (n : Nat) (b : List UInt8) : readE (n + 1) b = if (dec62 b).2 = 0 ∨ (dec62 (b.drop (dec62 b).2)).2 = 0 ∨ (dec64 (b.drop ((dec62 b).2 + (dec62 (b.drop (dec62 b).2)).2))).2 = 0 then none
    else (readE n (b.drop ((dec62 b).2 + (dec62 (b.drop (dec62 b).2)).2 + (dec64 (b.drop ((dec62 b).2 + (dec62 (b.drop (dec62 b).2)).2))).2))).map (fun r => (⟨(dec62 b).1, (dec62 (b.drop (dec62 b).2)).1, zag (dec64 (b.drop ((dec62 b).2 + (dec62 (b.drop (dec62 b).2)).2))).1⟩ :: r.1, r.2)) := rfl

theorem tableL_eq {b : List UInt8} (h0 : (dec62 b).2 ≠ 0) (h1 : (dec62 b).1 ≤ b.length) : tableL b = (readE (dec62 b).1 (b.drop (dec62 b).2)).bind (fun r => if r.2 = [] then some r.1 else none) := by
  unfold tableL
  rw [if_neg (by omega)]
  cases readE (dec62 b).1 (b.drop (dec62 b).2) with
  | none => rfl
  | some p =>
    obtain ⟨t, x⟩ := p
    cases x <;> rfl

end Go.Proofs.YtgpdbboieokldaaGreat
