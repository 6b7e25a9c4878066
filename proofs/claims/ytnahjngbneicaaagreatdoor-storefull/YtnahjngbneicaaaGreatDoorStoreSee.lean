import Derived.Test.YtnahjngbneicaaaGreatDoorPack11
namespace Go.Proofs.YtnahjngbneicaaaGreatDoor
set_option linter.unusedSimpArgs false
open _root_.Go.Proofs.Tryz
set_option maxRecDepth 100000
open Go.RowKit
variable {K:Nat->Prop} {w:World} {N T p pd:Nat} {s:Sto} {d:Dk}
theorem SD.nowC (h:SD K w pd p s d N T) (a:SnS s.now):Calls prog 21 #[ptr p] w fun e w'=>ZsV w s.now e w':=by
 obtain⟨F,M,I,L,c,b,-⟩:=h;exact Zzx w b (by have:=ZlZ a.1;omega) (by have:=a.2.few;omega)
theorem SD.syncedC (h:SD K w pd p s d N T):Calls prog 11 #[ptr p] w fun e w'=>e=.returned (.int .i64 s.synced)∧w'=w:=by
 obtain⟨F,M,I,L,b,a,-⟩:=h;exact ZiH w a
end Go.Proofs.YtnahjngbneicaaaGreatDoor
