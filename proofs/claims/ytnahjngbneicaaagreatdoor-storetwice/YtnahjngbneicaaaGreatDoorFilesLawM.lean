import Derived.Test.YtnahjngbneicaaaGreatDoorPack3
namespace Go.Proofs.YtnahjngbneicaaaGreatDoor
open _root_.Go.Proofs.Tryz
set_option maxRecDepth 100000
variable {d:Dk}
theorem ZlY (h:d.power=0) (n:Int) (b:List UInt8):ZaK d n b=(d,11):=by unfold ZaK;rw[if_pos h]
theorem ZBX (h:d.power=0) (n:Int):Zdc d n=([],11):=by unfold Zdc;rw[if_pos h]
theorem ZBY (h:d.power=0) (n:Int):Zdx d n=(d,11):=by unfold Zdx;rw[if_pos h]
theorem ZBj (h:d.power=0) (n m:Int):Zdg d n m=(d,11):=by unfold Zdg;rw[if_pos h]
theorem ZBk (h:d.power=0) (n:Int):Zam d n=(d,11):=by unfold Zam;rw[if_pos h]
theorem ZAq (h:d.power=0):ZaS d=(d,11):=by unfold ZaS;rw[if_pos h]
end Go.Proofs.YtnahjngbneicaaaGreatDoor
