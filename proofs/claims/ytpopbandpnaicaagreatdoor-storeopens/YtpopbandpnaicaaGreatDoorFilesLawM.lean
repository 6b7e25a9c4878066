import Derived.Test.YtpopbandpnaicaaGreatDoorPack3
namespace Go.Proofs.YtpopbandpnaicaaGreatDoor

theorem tick_neg {p : Int} (h : p < 0) : tickD p = p := by unfold tickD; rw [if_neg (by omega)]

theorem lit_append {d : Dk} (h : d.power = -1) (n : Int) (b : List UInt8) : (appendD d n b).1.power = -1 := by
 unfold appendD
 have ht : tickD (-1) = -1 := tick_neg (by omega)
 rw [if_neg (by omega)]
 split
 · exact h
 · split
   · exact h
   · split
     · show tickD d.power = -1; rw [h, ht]
     · show tickD d.power = -1; rw [h, ht]

end Go.Proofs.YtpopbandpnaicaaGreatDoor
