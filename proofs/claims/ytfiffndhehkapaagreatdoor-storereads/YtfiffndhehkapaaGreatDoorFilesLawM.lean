import Derived.Test.YtfiffndhehkapaaGreatDoorPack3
namespace Go.Proofs.YtfiffndhehkapaaGreatDoor
set_option maxRecDepth 100000
theorem Zlx {d:Dk} (h:d.power=0) (n:Int) (b:List UInt8):ZaI d n b=(d,11):=by unfold ZaI;rw[if_pos h]
theorem ZBf {d:Dk} (h:d.power=0) (n:Int):ZcU d n=([],11):=by unfold ZcU;rw[if_pos h]
theorem ZBg {d:Dk} (h:d.power=0) (n:Int):Zds d n=(d,11):=by unfold Zds;rw[if_pos h]
theorem ZAq {d:Dk} (h:d.power=0) (n m:Int):ZcZ d n m=(d,11):=by unfold ZcZ;rw[if_pos h]
theorem ZAr {d:Dk} (h:d.power=0) (n:Int):Zam d n=(d,11):=by unfold Zam;rw[if_pos h]
theorem Zzv {d:Dk} (h:d.power=0):ZaP d=(d,11):=by unfold ZaP;rw[if_pos h]
end Go.Proofs.YtfiffndhehkapaaGreatDoor
