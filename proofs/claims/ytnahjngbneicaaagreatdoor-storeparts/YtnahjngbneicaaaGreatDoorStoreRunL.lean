import Derived.Test.YtnahjngbneicaaaGreatDoorStoreCk
import Derived.Test.YtnahjngbneicaaaGreatDoorPack7
import Derived.Test.YtnahjngbneicaaaGreatDoorPack9
import Derived.Test.YtnahjngbneicaaaGreatDoorStoreRecs
import Derived.Test.YtnahjngbneicaaaGreatDoorStoreCl
import Derived.Test.YtnahjngbneicaaaGreatDoorStoreAw
import Derived.Test.YtnahjngbneicaaaGreatDoorStoreRunN
namespace Go.Proofs.YtnahjngbneicaaaGreatDoor
set_option maxRecDepth 100000
open Go.RowKit
theorem SD.grown {K:Nat->Prop} {w w':World} {pd p:Nat} {s:Sto} {d:Dk} {N T:Nat} (h:SD K w pd p s d N T) (ho:ZaE K w w'):SD (fun k=>K k∨w.heap.size<=k) w' pd p s d N T:=by
 obtain⟨F,M,I,L,h1,h2,h3,h4,h5,h6,h7⟩:=h
 refine⟨F,M,I,L,h1.only ho h3,h2.only ho h4 h5,fun k hk hh=>?_,fun k hk hh=>?_,fun k hk hh=>?_,h6,h7⟩
 ·rcases hh with hh | hh
  ·exact h3 k hk hh
  ·have:=h1.ltF k hk
   omega
 ·rcases hh with hh | hh
  ·exact h4 k hk hh
  ·have:=h2.ltM k hk
   omega
 ·rcases hh with hh | hh
  ·exact h5 k hk hh
  ·have:=h2.ltI k hk
   omega
theorem Zvp {next:Int} {o:SOp} (h0:0<=next) (h1:next<=4611686018427387904) (ho:Zxo o.op):∀ r ∈ ZcX next o,Zfw r:=by
 intro r hr
 unfold ZcX at hr
 obtain⟨i,hi,rfl⟩:=List.mem_map.1 hr
 rw[List.mem_range] at hi
 have hi2:i<20:=by omega
 exact⟨⟨by show _<=next+(i:Int);omega,by show next+(i:Int)<=_;omega⟩,⟨by show _<=((i % 3:Nat):Int);omega,by show((i % 3:Nat):Int)<=_;omega⟩,⟨by show _<=next % 1000;omega,by show next % 1000<=_;omega⟩,ho,(⟨by decide,by decide⟩:I64 0)⟩
end Go.Proofs.YtnahjngbneicaaaGreatDoor
