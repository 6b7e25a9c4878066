import Derived.Test.YtnahjngbneicaaaGreatDoorStoreSee
import Derived.Test.YtnahjngbneicaaaGreatDoorStoreY
import Derived.Test.YtnahjngbneicaaaGreatDoorStoreRunQ
namespace Go.Proofs.YtnahjngbneicaaaGreatDoor
open _root_.Go.Proofs.Tryz
set_option maxRecDepth 100000
open Go.RowKit
theorem SD.crashC {K:Nat->Prop} {w:World} {pd p:Nat} {s:Sto} {d:Dk} {N T:Nat} (names:Int) (c:Value) (keep:List Int) (h:SD K w pd p s d N T) (A:RdI w c keep) (n:keep=[]∨∀ k,c.ownBlock=some k->K k) (y:N<=1000000) (q:T<=1000000000) (l:keep.length<=1000000000):
 Calls prog 12 #[ptr pd,.int .i64 names,c] w fun e w'=>e=.returned (.tuple #[])∧SD K w' pd p s (Zco d names keep) N T∧Zap (fun k=>¬ K k) w w':=by
 obtain⟨F,M,I,L,m,x,f,B,v,i,j⟩:=h;refine(ZwJ names c keep w m y q A (n.imp id fun t k b a=>f k a (t k b)) l).mono ?_
 rintro e w' ⟨z,u,g⟩;exact⟨z,⟨F,M,I,L,u,x.only g (fun k b a=>i k a b) (fun k b a=>j k a b),f,B,v,i,j⟩,g.mono f⟩
theorem SD.openC {K:Nat->Prop} {w:World} {pd p:Nat} {s:Sto} {d:Dk} {N T:Nat} (kind:Int) (h:SD K w pd p s d N T) (f:∀ k,K k->k<w.heap.size) (t:N<=1000000) (g:T<=1000000000) (v:SzD d 62 90000) (u:ZiA d kind=0):
 Calls prog 13 #[ptr pd,.int .i64 kind] w fun e w'=>∃ q,e=.returned (.tuple #[ptr q,.int .i64 0])∧SD K w' pd q (ZjD d kind) d N T∧SD K w' pd p s d N T∧Below w.heap.size w w':=by
 have j:=h;obtain⟨F,M,I,L,b,-,i,-⟩:=h;refine(ZtJ (K:=K) kind w b i f t g v (by decide) (by decide) (by decide)).mono ?_
 intro e w' n;rcases n with ⟨m,-⟩ | ⟨-,q,l,c,a⟩
 ·exact absurd u m
 ·exact⟨q,l,c,j.below a,a⟩
theorem ZsT {kind:Int} (a:0<=kind) (b:kind<6) (d:Dk) (names:Int) (keep:List Int):ZiA (Zco d names keep) kind=0:=by
 unfold ZiA;rw[if_neg (by omega),if_neg (show ¬ (Zco d names keep).power=0 by show ¬ (-1:Int)=0;decide)]
theorem ZvX (x:ZaW):decide (ZrG x x)=true:=decide_eq_true ⟨by unfold ZoY;simp,rfl,rfl⟩
end Go.Proofs.YtnahjngbneicaaaGreatDoor
