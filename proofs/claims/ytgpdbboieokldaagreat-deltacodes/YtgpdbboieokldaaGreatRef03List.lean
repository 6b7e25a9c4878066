/- Contracts of ferrymanref03: Whole, All, Same. -/
import Derived.Test.YtgpdbboieokldaaGreatRef03Dec
import Derived.Deep.RegionHeld
import Derived.Deep.DeepCutAuto
namespace Go.Proofs.YtgpdbboieokldaaGreat
open Go.RowKit

/-- So many bytes are whole frames, whose data are L, and what is behind them tells the rest. -/
def Upto (l : List UInt8) (A : Nat) (L : List (List UInt8)) : Prop :=
  wholeF l = (L ++ (wholeF (l.drop A)).1, A + (wholeF (l.drop A)).2.1, (wholeF (l.drop A)).2.2) ∧ 5 * L.length ≤ A ∧ A ≤ l.length

theorem Upto.start (l : List UInt8) : Upto l 0 [] := ⟨by simp, by simp, by omega⟩

theorem Upto.stop {l : List UInt8} {A : Nat} {L : List (List UInt8)} (h : Upto l A L) (hA : A < l.length) (he : (decF (l.drop A)).2.2 ≠ 0) : wholeF l = (L, A, (decF (l.drop A)).2.2) := by
  have hne : l.drop A ≠ [] := fun e => by
    have := congrArg List.length e
    rw [List.length_drop, List.length_nil] at this
    omega
  rw [h.1, wholeF_stop hne he]
  simp

theorem Upto.whole {l : List UInt8} {A : Nat} {L : List (List UInt8)} (h : Upto l A L) (hA : ¬ A < l.length) : wholeF l = (L, A, 0) := by
  have e : l.drop A = [] := List.drop_of_length_le (by omega)
  rw [h.1, e, wholeF_nil]
  simp

theorem Upto.step {l : List UInt8} {A : Nat} {L : List (List UInt8)} (h : Upto l A L) (hA : A < l.length) (he : (decF (l.drop A)).2.2 = 0) : Upto l (A + (decF (l.drop A)).2.1) (L ++ [(decF (l.drop A)).1]) := by
  have hne : l.drop A ≠ [] := fun e => by
    have := congrArg List.length e
    rw [List.length_drop, List.length_nil] at this
    omega
  have h5 := decF_five he
  have hle := decF_le (l.drop A)
  rw [List.length_drop] at hle
  refine ⟨?_, ?_, by omega⟩
  · rw [h.1, wholeF_step hne he, List.drop_drop]
    simp [Nat.add_assoc]
  · have := h.2.1
    simp
    omega

/-- What All answers. -/
def allF (l : List UInt8) : List (List UInt8) × Nat := if (wholeF l).2.2 = 0 then ((wholeF l).1, 0) else ([], (wholeF l).2.2)

end Go.Proofs.YtgpdbboieokldaaGreat
