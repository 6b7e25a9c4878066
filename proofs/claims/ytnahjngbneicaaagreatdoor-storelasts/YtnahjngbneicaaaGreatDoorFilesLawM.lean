import Derived.Test.YtnahjngbneicaaaGreatDoorPack3
namespace Go.Proofs.YtnahjngbneicaaaGreatDoor
open _root_.Go.Proofs.Tryz
set_option maxRecDepth 100000
variable {d:Dk}
theorem ZxO (n:Int):ZdE n=true↔0<=n∧n<1048576:=by simp[ZdE]
theorem Zcp (h:d.power=0) (n:Int) (b:List UInt8):Qy d n b=(d,11):=by unfold Qy;rw[if_pos h]
theorem ZzV (h:d.power=0) (n:Int):Zp d n=([],11):=by unfold Zp;rw[if_pos h]
theorem Zok (h:d.power=0) (n:Int):X3 d n=(d,11):=by unfold X3;rw[if_pos h]
theorem Zqo (h:d.power=0) (n m:Int):Ji d n m=(d,11):=by unfold Ji;rw[if_pos h]
theorem Zji (h:d.power=0) (n:Int):Qj d n=(d,11):=by unfold Qj;rw[if_pos h]
theorem ZcV (h:d.power=0):Qn d=(d,11):=by unfold Qn;rw[if_pos h]
end Go.Proofs.YtnahjngbneicaaaGreatDoor
