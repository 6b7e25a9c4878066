import Derived.Test.YtnahjngbneicaaaGreatDoorPack9
import Derived.Test.YtnahjngbneicaaaGreatDoorPack8
namespace Go.Proofs.YtnahjngbneicaaaGreatDoor
set_option maxRecDepth 100000
open Go.RowKit
theorem SD.nowC {K:Nat->Prop} {w:World} {pd p:Nat} {s:Sto} {d:Dk} {N T:Nat} (h:SD K w pd p s d N T) (hs:SnS s.now):Calls Tryz.prog 21 #[ptr p] w fun e w'=>ZxK w s.now e w':=by
 obtain⟨F,M,I,L,h1,h2,-⟩:=h
 exact ZxN w h2 (by have:=ZpB hs.1;omega) (by have:=hs.2.few;omega)
theorem SD.recsC {K:Nat->Prop} {w:World} {pd p:Nat} {s:Sto} {d:Dk} {N T:Nat} (a b:Int) (h:SD K w pd p s d N T) (hok:OkS s) (hlim:s.log.recs.length<=1000000):
 Calls Tryz.prog 17 #[ptr p,.int .i64 a,.int .i64 b] w fun e w'=>∃ v,e=.returned (.tuple #[v,.int .i64 (ZdO s a b).2])∧Zbp w' w.heap.size v (ZdO s a b).1∧Below w.heap.size w w':=by
 obtain⟨F,M,I,L,h1,h2,-⟩:=h
 exact ZnM a b w h2 hok.num hok.log.recOk hlim
end Go.Proofs.YtnahjngbneicaaaGreatDoor
