import Derived.Test.YtnahjngbneicaaaGreatDoorStoreRunM
namespace Go.Proofs.YtnahjngbneicaaaGreatDoor
open _root_.Go.Proofs.Tryz
set_option maxRecDepth 100000
open Go.RowKit
def Zbd (next:Int) (o:SOp) (m:Nat):List Rec:=(List.range m).map fun(i:Nat)=>⟨next+(i:Int),((i % 3:Nat):Int),next % 1000,o.op,0⟩
theorem Zpw (next:Int) (o:SOp) (m:Nat):Zbd next o (m+1)=Zbd next o m++[⟨next+(m:Int),((m % 3:Nat):Int),next % 1000,o.op,0⟩]:=by
 unfold Zbd;rw[List.range_succ,List.map_append];rfl
theorem Zsy (next:Int) (o:SOp) (m:Nat):(Zbd next o m).length=m:=by
 unfold Zbd;rw[List.length_map,List.length_range]
theorem Zva (next:Int) (o:SOp):Zm next o=Zbd next o (min o.many.toNat 20):=rfl
set_option maxHeartbeats 2000000 in
theorem Zny (next:Int) (o:SOp) (F:Option Addr) (N P:Nat) (J:Option Addr) (S H:Nat) (G:Option Addr) (Q T:Nat) (w:World) (h0:0<=next) (h1:next<=4611686018427387904):
 Calls prog 23 #[.int .i64 next,.agg #[.int .i64 o.kind,.int .i64 o.many,.int .i64 o.n,.int .i64 o.op.code,.int .i64 o.op.a,.int .i64 o.op.b,.slice F N P,.slice J S H,.slice G Q T]] w fun e w'=>∃ v,e=.returned v∧Q9 w' w.heap.size v (Zm next o)∧Below w.heap.size w w':=by
 rw[Zva];obtain⟨d,ae⟩:∃ m,m=o.many:=⟨_,rfl⟩;rw[<-ae];obtain⟨f,g⟩:∃ f,f=w.alloc (.cells #[.int .i64 o.kind,.int .i64 d,.int .i64 o.n,.int .i64 o.op.code,.int .i64 o.op.a,.int .i64 o.op.b,.slice F N P,.slice J S H,.slice G Q T] 55):=⟨_,rfl⟩;have M:Hid (Below w.heap.size w f):=ZZ (by rw[g];exact Jc _ _)
 have C:Hid (Bk 55 f w.heap.size #[.int .i64 o.kind,.int .i64 d,.int .i64 o.n,.int .i64 o.op.code,.int .i64 o.op.a,.int .i64 o.op.b,.slice F N P,.slice J S H,.slice G Q T]):=ZZ (by rw[g];exact heap_alloc_new w _)
 have U:Hid (∀ W,Below f.heap.size f W->W.cell? ⟨w.heap.size,1,none⟩=some (.int .i64 d)∧W.cell? ⟨w.heap.size,3,none⟩=some (.int .i64 o.op.code)∧W.cell? ⟨w.heap.size,4,none⟩=some (.int .i64 o.op.a)∧W.cell? ⟨w.heap.size,5,none⟩=some (.int .i64 o.op.b)):=ZZ (fun W h=>by
  have q:=C.o.keep (h.block _ C.o.lt)
  exact⟨(q.cell 1 rfl).1,(q.cell 3 rfl).1,(q.cell 4 rfl).1,(q.cell 5 rfl).1⟩)
 have V:Hid (∀ m,Zbd next o (m+1)=Zbd next o m++[⟨next+(m:Int),((m % 3:Nat):Int),next % 1000,o.op,0⟩]):=ZZ (Zpw next o);have HL:Hid (∀ m,(Zbd next o m).length=m):=ZZ (Zsy next o);obtain⟨t,I⟩:∃ t,t=o.op.code:=⟨_,rfl⟩;obtain⟨l,D⟩:∃ l,l=o.op.a:=⟨_,rfl⟩;obtain⟨p,E⟩:∃ p,p=o.op.b:=⟨_,rfl⟩;have ab:Hid (∀ x y z:Int,Zi ⟨x,y,z,o.op,0⟩=#[.int .i64 x,.int .i64 y,.int .i64 z,.int .i64 t,.int .i64 l,.int .i64 p,.int .i64 0]):=ZZ (fun x y z=>by rw[I,D,E];rfl)
 rw[<-I,<-D,<-E] at U g ⊢;clear I D E ae C;generalize o.kind=k0 at *;generalize o.n=k2 at *;have ax:next.tmod 1000=next % 1000:=Int.tmod_eq_emod_of_nonneg h0
 go_enter func23,ntmps23
 go_upto_region 1 with fail
 rw[<-g];clear g;go_wp2
 go_loopw[5,6] (fun vl K wr=>∃ (i:Nat) (a:Option Addr) (n c:Nat),K=.int .i64 (i:Int)∧i<=20∧(i=0∨(i:Int)<=d)∧vl=.slice a n c∧Hid (Q9 wr f.heap.size (.slice a n c) (Zbd next o i))∧Hid (Below f.heap.size f wr)) (fun _ K _=>20-(intOf K).toNat)
 case atStart=>exact⟨0,none,0,0,rfl,by omega,.inl rfl,rfl,ZZ (Q9.nil _ _),ZZ (Below.refl _ _)⟩
 case round=>
  obtain⟨i,a,n,c,rfl,hi,ar,rfl,O,B⟩:=hrel;obtain⟨c1,c3,c4,c5⟩:=U.o wr B.o;have k:Hid (i=min d.toNat 20->∃ v,Ending.returned (.slice a n c)=.returned v∧Q9 wr w.heap.size v (Zbd next o (min d.toNat 20))∧Below w.heap.size w wr):=ZZ (fun e=>⟨_,rfl,by rw[<-e];exact O.o.mono M.o.size,M.o.trans (B.o.mono M.o.size)⟩)
  by_cases A:(i:Int)<d
  case neg=>
   have aq:decide ((i:Int)<d)=false:=decide_eq_false A;have j:i=min d.toNat 20:=by omega
   have R:=ZZ (k.o j);clear j k;go_wp2;go_ret;exact R.o
  have aq:decide ((i:Int)<d)=true:=decide_eq_true A;by_cases Y:i<20
  case neg=>
   have ao:decide ((i:Int)<20)=false:=decide_eq_false (by omega)
   have j:i=min d.toNat 20:=by omega
   have R:=ZZ (k.o j);clear j k;go_wp2;go_ret;exact R.o
  have ao:decide ((i:Int)<20)=true:=decide_eq_true (by omega)
  clear k;have ay:IntKind.i64.wrap (next+(i:Int))=next+(i:Int):=by rw[IntKind.wrap_i64];omega
  have aw:(i:Int).tmod 3=((i % 3:Nat):Int):=by rw[Int.tmod_eq_emod_of_nonneg (by omega)];omega
  have ai:(Zbd next o i).length=i:=HL.o i
  have av:n=i:=by
   obtain⟨a',c',hv⟩:=O.o.shape;rw[ai] at hv
   injection hv
  have am:Hid ((Zbd next o i).length<=1000000):=ZZ (by omega)
  have ap:=ZZ B.o.size;have aa:=ZZ (V.o i);have aj:((i % 3:Nat):Int)=(i:Int) % 3:=by omega
  have ag:Hid (Zi ⟨next+(i:Int),((i % 3:Nat):Int),next % 1000,o.op,0⟩=#[.int .i64 (next+(i:Int)),.int .i64 ((i:Int) % 3),.int .i64 (next % 1000),.int .i64 t,.int .i64 l,.int .i64 p,.int .i64 0]):=ZZ (by rw[ab.o,aj])
  clear aj;have al:Hid (Zi (⟨next+(i:Int),((i % 3:Nat):Int),next % 1000,o.op,0⟩:Rec)=Zi ⟨next+(i:Int),((i % 3:Nat):Int),next % 1000,o.op,0⟩):=ZZ rfl;generalize Zbd next o i=L at *;obtain⟨X,Z⟩:∃ X:Rec,X=⟨next+(i:Int),((i % 3:Nat):Int),next % 1000,o.op,0⟩:=⟨_,rfl⟩;rw[<-Z] at aa ag;have af:Hid (i<20):=ZZ Y;have ak:Hid ((i:Int)<d):=ZZ A;clear Z al ab V HL U ai av A Y ar
  go_wp2_with(at_builtin;refine(fun(h:True->_)=>h trivial) ?_)
  intro _;rw[<-ag.o];refine Zft wr rfl _ _ rfl f.heap.size (.slice a n c) L rfl O.o X rfl am.o ap.o ?_;intro v9 W9 u ac;rw[<-aa.o] at u;obtain⟨a9,c9,ad⟩:=u.shape;generalize (Zbd next o (i+1)).length=n9 at ad;subst ad;have au:=ZZ u;have an:=ZZ (B.o.trans ac);clear u ac;go_wp2;go_roundw
  case rel=>exact⟨i+1,a9,n9,c9,by go_num,by have:=af.o;omega,.inr (by have:=ak.o;omega),rfl,au,an⟩
  case measure=>have:=af.o;simp[intOf];omega
end Go.Proofs.YtnahjngbneicaaaGreatDoor
