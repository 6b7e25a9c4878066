import Derived.Test.YtnahjngbneicaaaGreatDoorFilesLawM
namespace Go.Proofs.YtnahjngbneicaaaGreatDoor
set_option maxRecDepth 100000
def kd (n:Int) (a:List UInt8) (q:Int):Dk:=⟨10000,[⟨a,a.length⟩],[(n,0)],[],q⟩
end Go.Proofs.YtnahjngbneicaaaGreatDoor
