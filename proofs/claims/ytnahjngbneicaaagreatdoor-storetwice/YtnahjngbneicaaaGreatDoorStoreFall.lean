import Derived.Test.YtnahjngbneicaaaGreatDoorStoreSee
import Derived.Test.YtnahjngbneicaaaGreatDoorStoreRunQ
namespace Go.Proofs.YtnahjngbneicaaaGreatDoor
open _root_.Go.Proofs.Tryz
set_option maxRecDepth 100000
open Go.RowKit
variable {K:Nat->Prop} {w:World} {N T p pd:Nat} {s:Sto} {d:Dk}
theorem SD.crashC (names:Int) (c:Value) (keep:List Int) (h:SD K w pd p s d N T) (t:RdI w c keep) (q:keep=[]∨∀ k,c.ownBlock=some k->K k) (x:N<=1000000) (y:T<=1000000000) (z:keep.length<=1000000000):
 Calls prog 12 #[ptr pd,.int .i64 names,c] w fun e w'=>e=.returned (.tuple #[])∧SD K w' pd p s (Zl d names keep) N T∧Qj (fun k=>¬ K k) w w':=by
 obtain⟨F,M,I,L,n,l,f,v,m,j,g⟩:=h;refine(Ztt names c keep w n x y t (q.imp id fun u k a b=>f k b (u k a)) z).mono ?_
 rintro e w' ⟨A,B,i⟩;exact⟨A,⟨F,M,I,L,B,l.only i (fun k a b=>j k b a) (fun k a b=>g k b a),f,v,m,j,g⟩,i.mono f⟩
theorem SD.openC (kind:Int) (h:SD K w pd p s d N T) (b:∀ k,K k->k<w.heap.size) (t:N<=1000000) (u:T<=1000000000) (v:SzD d 62 90000) (i:Zfk d kind=0):
 Calls prog 13 #[ptr pd,.int .i64 kind] w fun e w'=>∃ q,e=.returned (.tuple #[ptr q,.int .i64 0])∧SD K w' pd q (Zgn d kind) d N T∧SD K w' pd p s d N T∧Below w.heap.size w w':=by
 have l:=h;obtain⟨F,M,I,L,g,-,n,-⟩:=h;refine(Zqt (K:=K) kind w g n b t u v (by decide) (by decide) (by decide)).mono ?_
 intro e w' m;rcases m with ⟨c,-⟩ | ⟨-,q,j,f,a⟩
 ·exact absurd i c
 ·exact⟨q,j,f,l.below a,a⟩
theorem ZpD {kind:Int} (b:0<=kind) (a:kind<6) (d:Dk) (names:Int) (keep:List Int):Zfk (Zl d names keep) kind=0:=by
 unfold Zfk;rw[if_neg (by omega),if_neg (show ¬ (Zl d names keep).power=0 by show ¬ (-1:Int)=0;decide)]
theorem ZsH (x:Qv):decide (Zoq x x)=true:=decide_eq_true ⟨by unfold ZlI;simp,rfl,rfl⟩
end Go.Proofs.YtnahjngbneicaaaGreatDoor
