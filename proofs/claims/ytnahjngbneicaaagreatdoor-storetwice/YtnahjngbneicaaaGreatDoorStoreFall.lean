import Derived.Test.YtnahjngbneicaaaGreatDoorStoreSee
import Derived.Test.YtnahjngbneicaaaGreatDoorStoreRunQ
namespace Go.Proofs.YtnahjngbneicaaaGreatDoor
open _root_.Go.Proofs.Tryz
set_option maxRecDepth 100000
open Go.RowKit
variable {K:Nat->Prop} {w:World} {N T p pd:Nat} {s:Sto} {d:Dk}
theorem SD.crashC (names:Int) (c:Value) (keep:List Int) (h:SD K w pd p s d N T) (y:RdI w c keep) (m:keep=[]∨∀ k,c.ownBlock=some k->K k) (z:N<=1000000) (u:T<=1000000000) (n:keep.length<=1000000000):
 Calls prog 12 #[ptr pd,.int .i64 names,c] w fun e w'=>e=.returned (.tuple #[])∧SD K w' pd p s (Zco d names keep) N T∧Zap (fun k=>¬ K k) w w':=by
 obtain⟨F,M,I,L,B,x,f,q,A,g,i⟩:=h;refine(ZwJ names c keep w B z u y (m.imp id fun l k a b=>f k b (l k a)) n).mono ?_
 rintro e w' ⟨t,v,j⟩;exact⟨t,⟨F,M,I,L,v,x.only j (fun k a b=>g k b a) (fun k a b=>i k b a),f,q,A,g,i⟩,j.mono f⟩
theorem SD.openC (kind:Int) (h:SD K w pd p s d N T) (c:∀ k,K k->k<w.heap.size) (u:N<=1000000) (j:T<=1000000000) (n:SzD d 62 90000) (m:ZiA d kind=0):
 Calls prog 13 #[ptr pd,.int .i64 kind] w fun e w'=>∃ q,e=.returned (.tuple #[ptr q,.int .i64 0])∧SD K w' pd q (ZjD d kind) d N T∧SD K w' pd p s d N T∧Below w.heap.size w w':=by
 have f:=h;obtain⟨F,M,I,L,v,-,i,-⟩:=h;refine(ZtJ (K:=K) kind w v i c u j n (by decide) (by decide) (by decide)).mono ?_
 intro e w' b;rcases b with ⟨g,-⟩ | ⟨-,q,l,t,a⟩
 ·exact absurd m g
 ·exact⟨q,l,t,f.below a,a⟩
theorem ZsT {kind:Int} (a:0<=kind) (b:kind<6) (d:Dk) (names:Int) (keep:List Int):ZiA (Zco d names keep) kind=0:=by
 unfold ZiA;rw[if_neg (by omega),if_neg (show ¬ (Zco d names keep).power=0 by show ¬ (-1:Int)=0;decide)]
theorem ZvX (x:ZaW):decide (ZrG x x)=true:=decide_eq_true ⟨by unfold ZoY;simp,rfl,rfl⟩
end Go.Proofs.YtnahjngbneicaaaGreatDoor
