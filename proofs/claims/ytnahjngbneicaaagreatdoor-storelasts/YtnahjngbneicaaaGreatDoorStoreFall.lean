import Derived.Test.YtnahjngbneicaaaGreatDoorStoreSee
import Derived.Test.YtnahjngbneicaaaGreatDoorStoreRunQ
namespace Go.Proofs.YtnahjngbneicaaaGreatDoor
open _root_.Go.Proofs.Tryz
set_option maxRecDepth 100000
open Go.RowKit
variable {K:Nat->Prop} {w:World} {N T p pd:Nat} {s:Sto} {d:Dk}
theorem SD.crashC (names:Int) (c:Value) (keep:List Int) (h:SD K w pd p s d N T) (l:RdI w c keep) (t:keep=[]∨∀ k,c.ownBlock=some k->K k) (q:N<=1000000) (x:T<=1000000000) (u:keep.length<=1000000000):
 Calls prog 12 #[ptr pd,.int .i64 names,c] w fun e w'=>e=.returned (.tuple #[])∧SD K w' pd p s (G7 d names keep) N T∧Ql (fun k=>¬ K k) w w':=by
 obtain⟨F,M,I,L,z,n,f,m,A,j,g⟩:=h;refine(Zux names c keep w z q x l (t.imp id fun B k b a=>f k a (B k b)) u).mono ?_
 rintro e w' ⟨v,y,i⟩;exact⟨v,⟨F,M,I,L,y,n.only i (fun k b a=>j k a b) (fun k b a=>g k a b),f,m,A,j,g⟩,i.mono f⟩
theorem SD.openC (kind:Int) (h:SD K w pd p s d N T) (b:∀ k,K k->k<w.heap.size) (f:N<=1000000) (l:T<=1000000000) (m:SzD d 62 90000) (j:ZfB d kind=0):
 Calls prog 13 #[ptr pd,.int .i64 kind] w fun e w'=>∃ q,e=.returned (.tuple #[ptr q,.int .i64 0])∧SD K w' pd q (Zew d kind) d N T∧SD K w' pd p s d N T∧Below w.heap.size w w':=by
 have t:=h;obtain⟨F,M,I,L,n,-,c,-⟩:=h;refine(Zrj (K:=K) kind w n c b f l m (by decide) (by decide) (by decide)).mono ?_
 intro e w' u;rcases u with ⟨g,-⟩ | ⟨-,q,v,i,a⟩
 ·exact absurd j g
 ·exact⟨q,v,i,t.below a,a⟩
theorem Zqv {kind:Int} (b:0<=kind) (a:kind<6) (d:Dk) (names:Int) (keep:List Int):ZfB (G7 d names keep) kind=0:=by
 unfold ZfB;rw[if_neg (by omega),if_neg (show ¬ (G7 d names keep).power=0 by show ¬ (-1:Int)=0;decide)]
theorem ZtD (x:Q0):decide (Zpm x x)=true:=decide_eq_true ⟨by unfold Zmw;simp,rfl,rfl⟩
end Go.Proofs.YtnahjngbneicaaaGreatDoor
