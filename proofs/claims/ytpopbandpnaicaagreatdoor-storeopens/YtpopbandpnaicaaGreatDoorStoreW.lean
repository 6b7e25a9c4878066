import Derived.Test.YtpopbandpnaicaaGreatDoorStoreV
namespace Go.Proofs.YtpopbandpnaicaaGreatDoor

theorem blocksK_fits (first : Int) : ∀ (B : List (List UInt8)) (acc : List Rec), (∀ r ∈ acc, FitsR r) -> ∀ r ∈ blocksK first B acc, FitsR r
 | [], acc, h => by
   rw [blocksK]
   exact h
 | d :: t, acc, h => by
   rw [blocksK_step]
   cases hd : decBo d with
   | none => exact h
   | some l =>
     dsimp only
     split
     · refine blocksK_fits first t (acc ++ l) fun r hr => ?_
       rcases List.mem_append.1 hr with hr | hr
       · exact h r hr
       · exact (decBo_some hd).1.2.2.1 r hr
     · exact h

theorem headK_lt {H : List UInt8} {kind : Int} {f : Nat} (hh : headK H kind = some f) : f < 4611686018427387904 := by
 unfold headK at hh
 split at hh
 · rename_i v k f' hrd
   split at hh
   · have := (readH_sound hrd).2.2.2.2
     rw [<- Option.some.inj hh]
     exact this
   · cases hh
 · cases hh

theorem segK_ok {b : List UInt8} {kind : Int} {f : Nat} {l : List Rec} (h : segK b kind = some (f, l)) : f < 4611686018427387904 ∧ ∀ r ∈ l, FitsR r := by
 rw [segK_eq] at h
 unfold segLK at h
 cases hL : (wholeF b).1 with
 | nil => rw [hL] at h; cases h
 | cons H B =>
   rw [hL] at h
   dsimp only at h
   cases hh : headK H kind with
   | none => rw [hh] at h; cases h
   | some f' =>
     rw [hh] at h
     have h2 := Option.some.inj h
     injection h2 with e1 e2
     subst e1
     exact ⟨headK_lt hh, by rw [<- e2]; exact blocksK_fits _ B [] fun r hr => by cases hr⟩

end Go.Proofs.YtpopbandpnaicaaGreatDoor
