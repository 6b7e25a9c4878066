import Derived.Test.YtnahjngbneicaaaGreatDoorStoreSee
import Derived.Test.YtnahjngbneicaaaGreatDoorStoreRunQ
namespace Go.Proofs.YtnahjngbneicaaaGreatDoor
open _root_.Go.Proofs.Tryz
set_option maxRecDepth 100000
open Go.RowKit
variable {K:Nat->Prop} {w:World} {N T p pd:Nat} {s:Sto} {d:Dk}
theorem SD.crashC (names:Int) (c:Value) (keep:List Int) (h:SD K w pd p s d N T) (m:RdI w c keep) (t:keep=[]∨∀ k,c.ownBlock=some k->K k) (u:N<=1000000) (x:T<=1000000000) (y:keep.length<=1000000000):
 Calls prog 12 #[ptr pd,.int .i64 names,c] w fun e w'=>e=.returned (.tuple #[])∧SD K w' pd p s (G7 d names keep) N T∧Ql (fun k=>¬ K k) w w':=by
 obtain⟨F,M,I,L,z,n,f,q,B,i,g⟩:=h;refine(Zux names c keep w z u x m (t.imp id fun l k a b=>f k b (l k a)) y).mono ?_
 rintro e w' ⟨A,v,j⟩;exact⟨A,⟨F,M,I,L,v,n.only j (fun k a b=>i k b a) (fun k a b=>g k b a),f,q,B,i,g⟩,j.mono f⟩
theorem SD.openC (kind:Int) (h:SD K w pd p s d N T) (c:∀ k,K k->k<w.heap.size) (l:N<=1000000) (m:T<=1000000000) (u:SzD d 62 90000) (i:ZfB d kind=0):
 Calls prog 13 #[ptr pd,.int .i64 kind] w fun e w'=>∃ q,e=.returned (.tuple #[ptr q,.int .i64 0])∧SD K w' pd q (Zew d kind) d N T∧SD K w' pd p s d N T∧Below w.heap.size w w':=by
 have f:=h;obtain⟨F,M,I,L,t,-,g,-⟩:=h;refine(Zrj (K:=K) kind w t g c l m u (by decide) (by decide) (by decide)).mono ?_
 intro e w' b;rcases b with ⟨v,-⟩ | ⟨-,q,n,j,a⟩
 ·exact absurd i v
 ·exact⟨q,n,j,f.below a,a⟩
theorem Zqv {kind:Int} (b:0<=kind) (a:kind<6) (d:Dk) (names:Int) (keep:List Int):ZfB (G7 d names keep) kind=0:=by
 unfold ZfB;rw[if_neg (by omega),if_neg (show ¬ (G7 d names keep).power=0 by show ¬ (-1:Int)=0;decide)]
theorem ZtD (x:Q0):decide (Zpm x x)=true:=decide_eq_true ⟨by unfold Zmw;simp,rfl,rfl⟩
end Go.Proofs.YtnahjngbneicaaaGreatDoor
