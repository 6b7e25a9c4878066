import Derived.Test.YtnahjngbneicaaaGreatDoorStoreSee
import Derived.Test.YtnahjngbneicaaaGreatDoorStoreRunQ
namespace Go.Proofs.YtnahjngbneicaaaGreatDoor
set_option linter.unusedSimpArgs false
open _root_.Go.Proofs.Tryz
set_option maxRecDepth 100000
open Go.RowKit
variable {K:Nat->Prop} {w:World} {N T p pd:Nat} {s:Sto} {d:Dk}
theorem SD.crashC (names:Int) (c:Value) (keep:List Int) (h:SD K w pd p s d N T) (t:RdI w c keep) (z:keep=[]∨∀ k,c.ownBlock=some k->K k) (A:N<=1000000) (l:T<=1000000000) (y:keep.length<=1000000000):
 Calls prog 12 #[ptr pd,.int .i64 names,c] w fun e w'=>e=.returned (.tuple #[])∧SD K w' pd p s (Jc d names keep) N T∧Ql (fun k=>¬ K k) w w':=by
 obtain⟨F,M,I,L,u,B,f,q,n,i,j⟩:=h;refine(ZuR names c keep w u A l t (z.imp id fun x k a b=>f k b (x k a)) y).mono ?_
 rintro e w' ⟨v,m,g⟩;exact⟨v,⟨F,M,I,L,m,B.only g (fun k a b=>i k b a) (fun k a b=>j k b a),f,q,n,i,j⟩,g.mono f⟩
theorem SD.openC (kind:Int) (h:SD K w pd p s d N T) (f:∀ k,K k->k<w.heap.size) (v:N<=1000000) (c:T<=1000000000) (u:SzD d 62 90000) (g:ZgT d kind=0):
 Calls prog 13 #[ptr pd,.int .i64 kind] w fun e w'=>∃ q,e=.returned (.tuple #[ptr q,.int .i64 0])∧SD K w' pd q (ZbA d kind) d N T∧SD K w' pd p s d N T∧Below w.heap.size w w':=by
 have b:=h;obtain⟨F,M,I,L,j,-,t,-⟩:=h;refine(ZrA (K:=K) kind w j t f v c u (by decide) (by decide) (by decide)).mono ?_
 intro e w' l;rcases l with ⟨m,-⟩ | ⟨-,q,i,n,a⟩
 ·exact absurd g m
 ·exact⟨q,i,n,b.below a,a⟩
theorem ZqN {kind:Int} (a:0<=kind) (b:kind<6) (d:Dk) (names:Int) (keep:List Int):ZgT (Jc d names keep) kind=0:=by
 unfold ZgT;rw[zaa (by omega),zaa (show ¬ (Jc d names keep).power=0 by show ¬ (-1:Int)=0;decide)]
theorem Zgj (x:Q0):decide (ZpD x x)=true:=zan ⟨by unfold ZmO;simp,rfl,rfl⟩
end Go.Proofs.YtnahjngbneicaaaGreatDoor
