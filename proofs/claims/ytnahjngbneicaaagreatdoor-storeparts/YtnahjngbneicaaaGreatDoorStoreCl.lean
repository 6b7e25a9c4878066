import Derived.Test.YtnahjngbneicaaaGreatDoorStoreCk
namespace Go.Proofs.YtnahjngbneicaaaGreatDoor
set_option maxRecDepth 100000
open Go.RowKit
theorem Zop (x:SDk):(Zch x).1.1.now=x.1.now∧(Zch x).1.1.bases=x.1.bases∧(Zch x).1.1.log=x.1.log:=by
 unfold Zch
 split
 ·exact⟨rfl,rfl,rfl⟩
 ·have h:=Zmn x
  split
  ·rcases h with h | h
   ·show(Zdy (ZgX [Zas,Zav] x).1.1).now=_∧_
    rw[h];exact⟨rfl,rfl,rfl⟩
   ·show(Zdy (ZgX [Zas,Zav] x).1.1).now=_∧_
    rw[h];exact⟨rfl,rfl,rfl⟩
  ·rcases h with h | h
   ·rw[h];exact⟨rfl,rfl,rfl⟩
   ·rw[h];exact⟨rfl,rfl,rfl⟩
end Go.Proofs.YtnahjngbneicaaaGreatDoor
