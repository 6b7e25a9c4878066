import Derived.Test.YtnahjngbneicaaaGreatDoorPack3
namespace Go.Proofs.YtnahjngbneicaaaGreatDoor
open _root_.Go.Proofs.Tryz
set_option maxRecDepth 100000
variable {d:Dk}
theorem ZiI (h:d.power=0) (n:Int) (b:List UInt8):Xe d n b=(d,11):=by unfold Xe;rw[if_pos h]
theorem ZyH (h:d.power=0) (n:Int):Z1 d n=([],11):=by unfold Z1;rw[if_pos h]
theorem ZyI (h:d.power=0) (n:Int):Jf d n=(d,11):=by unfold Jf;rw[if_pos h]
theorem ZxT (h:d.power=0) (n m:Int):Zam d n m=(d,11):=by unfold Zam;rw[if_pos h]
theorem ZxU (h:d.power=0) (n:Int):Qp d n=(d,11):=by unfold Qp;rw[if_pos h]
theorem Zxa (h:d.power=0):Xs d=(d,11):=by unfold Xs;rw[if_pos h]
end Go.Proofs.YtnahjngbneicaaaGreatDoor
