import Derived.Test.YtnahjngbneicaaaGreatDoorStoreSee
import Derived.Test.YtnahjngbneicaaaGreatDoorStoreRunQ
namespace Go.Proofs.YtnahjngbneicaaaGreatDoor
open _root_.Go.Proofs.Tryz
set_option maxRecDepth 100000
open Go.RowKit
variable {K:Nat->Prop} {w:World} {N T p pd:Nat} {s:Sto} {d:Dk}
theorem SD.crashC (names:Int) (c:Value) (keep:List Int) (h:SD K w pd p s d N T) (t:RdI w c keep) (n:keep=[]∨∀ k,c.ownBlock=some k->K k) (z:N<=1000000) (m:T<=1000000000) (u:keep.length<=1000000000):
 Calls prog 12 #[ptr pd,.int .i64 names,c] w fun e w'=>e=.returned (.tuple #[])∧SD K w' pd p s (Zl d names keep) N T∧Qj (fun k=>¬ K k) w w':=by
 obtain⟨F,M,I,L,A,v,f,q,B,g,j⟩:=h;refine(Ztt names c keep w A z m t (n.imp id fun x k b a=>f k a (x k b)) u).mono ?_
 rintro e w' ⟨y,l,i⟩;exact⟨y,⟨F,M,I,L,l,v.only i (fun k b a=>g k a b) (fun k b a=>j k a b),f,q,B,g,j⟩,i.mono f⟩
theorem SD.openC (kind:Int) (h:SD K w pd p s d N T) (g:∀ k,K k->k<w.heap.size) (u:N<=1000000) (i:T<=1000000000) (f:SzD d 62 90000) (b:Zfk d kind=0):
 Calls prog 13 #[ptr pd,.int .i64 kind] w fun e w'=>∃ q,e=.returned (.tuple #[ptr q,.int .i64 0])∧SD K w' pd q (Zgn d kind) d N T∧SD K w' pd p s d N T∧Below w.heap.size w w':=by
 have m:=h;obtain⟨F,M,I,L,t,-,c,-⟩:=h;refine(Zqt (K:=K) kind w t c g u i f (by decide) (by decide) (by decide)).mono ?_
 intro e w' n;rcases n with ⟨j,-⟩ | ⟨-,q,l,v,a⟩
 ·exact absurd b j
 ·exact⟨q,l,v,m.below a,a⟩
theorem ZpD {kind:Int} (b:0<=kind) (a:kind<6) (d:Dk) (names:Int) (keep:List Int):Zfk (Zl d names keep) kind=0:=by
 unfold Zfk;rw[if_neg (by omega),if_neg (show ¬ (Zl d names keep).power=0 by show ¬ (-1:Int)=0;decide)]
theorem ZsH (x:Qv):decide (Zoq x x)=true:=decide_eq_true ⟨by unfold ZlI;simp,rfl,rfl⟩
end Go.Proofs.YtnahjngbneicaaaGreatDoor
