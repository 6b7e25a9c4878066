import Derived.Test.YtnahjngbneicaaaGreatDoorStoreT
namespace Go.Proofs.YtnahjngbneicaaaGreatDoor
set_option maxRecDepth 100000
open Go.RowKit
theorem ZwE (g:SDk->SDk × Int) (y:SDk):(ZgX [g] y).1=(g y).1∧(ZgX [g] y).2=(g y).2:=by
 unfold ZgX
 split
 ·rename_i h
  exact⟨rfl,h.symm⟩
 ·exact⟨rfl,rfl⟩
theorem ZwF {α:Type} {l:List α} {i:Nat} (hi:i<l.length) (z:α):l.take (i+1)=l.take i++[l.getD i z]:=by
 rw[List.take_succ_eq_append_getElem hi]
 congr 2
 simp[List.getD,hi]
end Go.Proofs.YtnahjngbneicaaaGreatDoor
