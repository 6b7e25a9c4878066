import Derived.Test.YtnahjngbneicaaaGreatDoorStoreSee
import Derived.Test.YtnahjngbneicaaaGreatDoorStoreRunQ
namespace Go.Proofs.YtnahjngbneicaaaGreatDoor
open _root_.Go.Proofs.Tryz
set_option maxRecDepth 100000
open Go.RowKit
variable {K:Nat->Prop} {w:World} {N T p pd:Nat} {s:Sto} {d:Dk}
theorem SD.crashC (names:Int) (c:Value) (keep:List Int) (h:SD K w pd p s d N T) (y:RdI w c keep) (l:keep=[]∨∀ k,c.ownBlock=some k->K k) (q:N<=1000000) (t:T<=1000000000) (z:keep.length<=1000000000):
 Calls prog 12 #[ptr pd,.int .i64 names,c] w fun e w'=>e=.returned (.tuple #[])∧SD K w' pd p s (G7 d names keep) N T∧Ql (fun k=>¬ K k) w w':=by
 obtain⟨F,M,I,L,B,x,f,A,u,g,i⟩:=h;refine(Zux names c keep w B q t y (l.imp id fun v k a b=>f k b (v k a)) z).mono ?_
 rintro e w' ⟨m,n,j⟩;exact⟨m,⟨F,M,I,L,n,x.only j (fun k a b=>g k b a) (fun k a b=>i k b a),f,A,u,g,i⟩,j.mono f⟩
theorem SD.openC (kind:Int) (h:SD K w pd p s d N T) (u:∀ k,K k->k<w.heap.size) (g:N<=1000000) (j:T<=1000000000) (c:SzD d 62 90000) (l:ZfB d kind=0):
 Calls prog 13 #[ptr pd,.int .i64 kind] w fun e w'=>∃ q,e=.returned (.tuple #[ptr q,.int .i64 0])∧SD K w' pd q (Zew d kind) d N T∧SD K w' pd p s d N T∧Below w.heap.size w w':=by
 have t:=h;obtain⟨F,M,I,L,v,-,b,-⟩:=h;refine(Zrj (K:=K) kind w v b u g j c (by decide) (by decide) (by decide)).mono ?_
 intro e w' m;rcases m with ⟨i,-⟩ | ⟨-,q,n,f,a⟩
 ·exact absurd l i
 ·exact⟨q,n,f,t.below a,a⟩
theorem Zqv {kind:Int} (a:0<=kind) (b:kind<6) (d:Dk) (names:Int) (keep:List Int):ZfB (G7 d names keep) kind=0:=by
 unfold ZfB;rw[zaa (by omega),zaa (show ¬ (G7 d names keep).power=0 by show ¬ (-1:Int)=0;decide)]
theorem ZtD (x:Q0):decide (Zpm x x)=true:=zah ⟨by unfold Zmw;simp,rfl,rfl⟩
end Go.Proofs.YtnahjngbneicaaaGreatDoor
