import Derived.Test.YtfiffndhehkapaaGreatDoorFilesLawM
namespace Go.Proofs.YtfiffndhehkapaaGreatDoor
set_option maxRecDepth 100000
def kd (n:Int) (a:List UInt8) (q:Int):Dk:=⟨10000,[⟨a,a.length⟩],[(n,0)],[],q⟩
def sd (o:List UInt8) (x:Fl) (ws:List Ch) (q:Int):Dk:=⟨10000,[⟨o,o.length⟩,x],[(5,0)],ws,q⟩
end Go.Proofs.YtfiffndhehkapaaGreatDoor
