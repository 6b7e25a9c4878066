import Derived.Test.YtnahjngbneicaaaGreatDoorPack11
namespace Go.Proofs.YtnahjngbneicaaaGreatDoor
open _root_.Go.Proofs.Tryz
set_option maxRecDepth 100000
open Go.RowKit
variable {K:Nat->Prop} {w:World} {N T p pd:Nat} {s:Sto} {d:Dk}
theorem SD.nowC (h:SD K w pd p s d N T) (a:SnS s.now):Calls prog 21 #[ptr p] w fun e w'=>ZyP w s.now e w':=by
 obtain⟨F,M,I,L,c,b,-⟩:=h;exact ZyR w b (by have:=ZlJ a.1;omega) (by have:=a.2.few;omega)
theorem SD.recsC (a b:Int) (h:SD K w pd p s d N T) (c:OkS s) (g:s.log.recs.length<=1000000):
 Calls prog 17 #[ptr p,.int .i64 a,.int .i64 b] w fun e w'=>∃ v,e=.returned (.tuple #[v,.int .i64 (Zbs s a b).2])∧Xj w' w.heap.size v (Zbs s a b).1∧Below w.heap.size w w':=by
 obtain⟨F,M,I,L,i,f,-⟩:=h;exact Zgo a b w f c.num c.log.recOk g
theorem SD.firstC (h:SD K w pd p s d N T):Calls prog 18 #[ptr p] w fun e w'=>e=.returned (.int .i64 s.log.first)∧w'=w:=by
 obtain⟨F,M,I,L,b,a,-⟩:=h;exact Zkx w a
theorem SD.syncedC (h:SD K w pd p s d N T):Calls prog 11 #[ptr p] w fun e w'=>e=.returned (.int .i64 s.synced)∧w'=w:=by
 obtain⟨F,M,I,L,b,a,-⟩:=h;exact Ziu w a
end Go.Proofs.YtnahjngbneicaaaGreatDoor
