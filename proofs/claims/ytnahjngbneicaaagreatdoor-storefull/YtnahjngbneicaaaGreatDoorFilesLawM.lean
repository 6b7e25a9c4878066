import Derived.Test.YtnahjngbneicaaaGreatDoorPack3
namespace Go.Proofs.YtnahjngbneicaaaGreatDoor
set_option linter.unusedSimpArgs false
open _root_.Go.Proofs.Tryz
set_option maxRecDepth 100000
variable {d:Dk}
theorem Zym (n:Int):ZdM n=true↔0<=n∧n<1048576:=by simp[ZdM]
theorem Zco (h:d.power=0) (n:Int) (b:List UInt8):Qy d n b=(d,11):=by unfold Qy;rw[zab h]
theorem ZAB (h:d.power=0) (n:Int):Zu d n=([],11):=by unfold Zu;rw[zab h]
theorem ZoD (h:d.power=0) (n:Int):Xz d n=(d,11):=by unfold Xz;rw[zab h]
theorem ZqA (h:d.power=0) (n m:Int):Z1 d n m=(d,11):=by unfold Z1;rw[zab h]
theorem Zjt (h:d.power=0) (n:Int):Qi d n=(d,11):=by unfold Qi;rw[zab h]
theorem ZcV (h:d.power=0):Qn d=(d,11):=by unfold Qn;rw[zab h]
theorem ZmB {p:Int} (h:p<0):Ye p=p:=by unfold Ye;rw[zaa (by omega)]
theorem Zgg (h:d.power=-1) (n:Int) (b:List UInt8):(Qy d n b).1.power=-1:=by
 unfold Qy;have a:Ye (-1)=-1:=ZmB (by omega)
 rw[zaa (by omega)]
 split
 ·exact h
 ·split
  ·exact h
  ·split
   ·show Ye d.power=-1;rw[h,a]
   ·show Ye d.power=-1;rw[h,a]
theorem ZtN (h:d.power=-1) (n m:Int):(Z1 d n m).1.power=-1:=by
 unfold Z1;have a:Ye (-1)=-1:=ZmB (by omega)
 rw[zaa (by omega)]
 split
 ·split
  ·exact h
  ·split
   ·show Ye d.power=-1;rw[h,a]
   ·show Ye d.power=-1;rw[h,a]
 ·exact h
theorem Zle (h:d.power=-1) (n:Int):(Qi d n).1.power=-1:=by
 unfold Qi;have a:Ye (-1)=-1:=ZmB (by omega)
 rw[zaa (by omega)]
 split
 ·show Ye d.power=-1;rw[h,a]
 ·exact h
end Go.Proofs.YtnahjngbneicaaaGreatDoor
