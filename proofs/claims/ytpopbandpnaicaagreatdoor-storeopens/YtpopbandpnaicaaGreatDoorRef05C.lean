import Derived.Test.YtpopbandpnaicaaGreatDoorPack5
import Derived.Test.YtpopbandpnaicaaGreatDoorPack1
namespace Go.Proofs.YtpopbandpnaicaaGreatDoor
open Go.RowKit

def DecodedS (w : World) (r : St × Int) (e : Ending) (w' : World) : Prop :=
 ∃ vl, e = .returned (.tuple #[.agg #[.int .i64 r.1.kind, vl, .bool r.1.shut, .int .i64 r.1.eng], .int .i64 r.2]) ∧ RdI w' vl r.1.L ∧ I64 r.1.kind ∧ I64 r.1.eng ∧ (∀ b, vl.ownBlock = some b -> w.heap.size <= b) ∧ Below w.heap.size w w'

theorem DecodedS.zero {w w' : World} (n : Int) (hb : Below w.heap.size w w') : DecodedS w (zeroS, n) (.returned (.tuple #[.agg #[.int .i64 0, .slice none 0 0, .bool false, .int .i64 0], .int .i64 n])) w' :=
 ⟨_, rfl, RdI.nil _, (i64_small (by decide) (by decide) : I64 0), (i64_small (by decide) (by decide) : I64 0), fun b hb => by simp [Value.ownBlock] at hb, hb⟩

theorem readL_add : ∀ (a b : Nat) (l : List UInt8), readL (a + b) l = (readL a l).bind fun x => (readL b (l.drop x.2)).map fun y => (x.1 ++ y.1, x.2 + y.2)
 | 0, b, l => by
   rw [Nat.zero_add, readL]
   simp
 | a + 1, b, l => by
   rw [Nat.add_right_comm, readL, readL, readL_add a b]
   by_cases h : (dec64 l).2 = 0
   · rw [if_pos h, if_pos h]
     rfl
   · rw [if_neg h, if_neg h]
     cases readL a (l.drop (dec64 l).2) with
     | none => rfl
     | some x =>
       obtain ⟨xs, u⟩ := x
       simp only [Option.bind_some, Option.map_some, List.drop_drop]
       cases readL b (l.drop ((dec64 l).2 + u)) with
       | none => rfl
       | some y => simp [Nat.add_assoc]

theorem readL_one (l : List UInt8) : readL 1 l = if (dec64 l).2 = 0 then none else some ([zag (dec64 l).1], (dec64 l).2) := by
 rw [readL]
 split
 · rfl
 · rfl

theorem readL_next {k : Nat} {l : List UInt8} {xs : List Int} {u : Nat} (h : readL k l = some (xs, u)) (h0 : (dec64 (l.drop u)).2 ≠ 0) : readL (k + 1) l = some (xs ++ [zag (dec64 (l.drop u)).1], u + (dec64 (l.drop u)).2) := by
 rw [readL_add, h]
 simp only [Option.bind_some]
 rw [readL_one, if_neg h0]
 rfl

theorem readL_stop {k m : Nat} {l : List UInt8} {xs : List Int} {u : Nat} (h : readL k l = some (xs, u)) (h0 : (dec64 (l.drop u)).2 = 0) (hm : k < m) : readL m l = none := by
 obtain ⟨d, rfl⟩ : ∃ d, m = k + 1 + d := ⟨m - (k + 1), by omega⟩
 rw [readL_add, readL_add k 1, h]
 simp only [Option.bind_some]
 rw [readL_one, if_pos h0]
 rfl

end Go.Proofs.YtpopbandpnaicaaGreatDoor
