import Derived.Test.YtnahjngbneicaaaGreatDoorStoreRunM
namespace Go.Proofs.YtnahjngbneicaaaGreatDoor
open _root_.Go.Proofs.Tryz
set_option maxRecDepth 100000
open Go.RowKit
def Zbd (next:Int) (o:SOp) (m:Nat):List Rec:=(List.range m).map fun(i:Nat)=>⟨next+(i:Int),((i % 3:Nat):Int),next % 1000,o.op,0⟩
theorem Zpw (next:Int) (o:SOp) (m:Nat):Zbd next o (m+1)=Zbd next o m++[⟨next+(m:Int),((m % 3:Nat):Int),next % 1000,o.op,0⟩]:=by
 unfold Zbd;rw[List.range_succ,List.map_append];rfl
theorem Zsy (next:Int) (o:SOp) (m:Nat):(Zbd next o m).length=m:=by
 unfold Zbd;rw[List.length_map,List.length_range]
theorem Zva (next:Int) (o:SOp):Zm next o=Zbd next o (min o.many.toNat 20):=rfl
set_option maxHeartbeats 2000000 in
theorem Zny (next:Int) (o:SOp) (N:Option Addr) (M U:Nat) (J:Option Addr) (D P:Nat) (O:Option Addr) (Q G:Nat) (w:World) (h0:0<=next) (h1:next<=4611686018427387904):
 Calls prog 23 #[.int .i64 next,.agg #[.int .i64 o.kind,.int .i64 o.many,.int .i64 o.n,.int .i64 o.op.code,.int .i64 o.op.a,.int .i64 o.op.b,.slice N M U,.slice J D P,.slice O Q G]] w fun e w'=>∃ v,e=.returned v∧Q9 w' w.heap.size v (Zm next o)∧Below w.heap.size w w':=by
 rw[Zva];obtain⟨d,aa⟩:∃ m,m=o.many:=⟨_,rfl⟩;rw[<-aa];obtain⟨f,j⟩:∃ f,f=w.alloc (.cells #[.int .i64 o.kind,.int .i64 d,.int .i64 o.n,.int .i64 o.op.code,.int .i64 o.op.a,.int .i64 o.op.b,.slice N M U,.slice J D P,.slice O Q G] 55):=⟨_,rfl⟩;have I:Hid (Below w.heap.size w f):=ZZ (by rw[j];exact Jc _ _)
 have F:Hid (Bk 55 f w.heap.size #[.int .i64 o.kind,.int .i64 d,.int .i64 o.n,.int .i64 o.op.code,.int .i64 o.op.a,.int .i64 o.op.b,.slice N M U,.slice J D P,.slice O Q G]):=ZZ (by rw[j];exact heap_alloc_new w _)
 have K:Hid (∀ W,Below f.heap.size f W->W.cell? ⟨w.heap.size,1,none⟩=some (.int .i64 d)∧W.cell? ⟨w.heap.size,3,none⟩=some (.int .i64 o.op.code)∧W.cell? ⟨w.heap.size,4,none⟩=some (.int .i64 o.op.a)∧W.cell? ⟨w.heap.size,5,none⟩=some (.int .i64 o.op.b)):=ZZ (fun W h=>by
  have A:=F.o.keep (h.block _ F.o.lt)
  exact⟨(A.cell 1 rfl).1,(A.cell 3 rfl).1,(A.cell 4 rfl).1,(A.cell 5 rfl).1⟩)
 have HR:Hid (∀ m,Zbd next o (m+1)=Zbd next o m++[⟨next+(m:Int),((m % 3:Nat):Int),next % 1000,o.op,0⟩]):=ZZ (Zpw next o);have HL:Hid (∀ m,(Zbd next o m).length=m):=ZZ (Zsy next o);obtain⟨q,T⟩:∃ q,q=o.op.code:=⟨_,rfl⟩;obtain⟨p,R⟩:∃ p,p=o.op.a:=⟨_,rfl⟩;obtain⟨l,S⟩:∃ l,l=o.op.b:=⟨_,rfl⟩;have Y:Hid (∀ x y z:Int,Zi ⟨x,y,z,o.op,0⟩=#[.int .i64 x,.int .i64 y,.int .i64 z,.int .i64 q,.int .i64 p,.int .i64 l,.int .i64 0]):=ZZ (fun x y z=>by rw[T,R,S];rfl)
 rw[<-T,<-R,<-S] at K j ⊢;clear T R S aa F;generalize o.kind=k0 at *;generalize o.n=k2 at *;have ax:next.tmod 1000=next % 1000:=Int.tmod_eq_emod_of_nonneg h0
 go_enter func23,ntmps23
 go_upto_region 1 with fail
 rw[<-j];clear j;go_wp2
 go_loopw[5,6] (fun vl H wr=>∃ (i:Nat) (a:Option Addr) (n c:Nat),H=.int .i64 (i:Int)∧i<=20∧(i=0∨(i:Int)<=d)∧vl=.slice a n c∧Hid (Q9 wr f.heap.size (.slice a n c) (Zbd next o i))∧Hid (Below f.heap.size f wr)) (fun _ H _=>20-(intOf H).toNat)
 case atStart=>exact⟨0,none,0,0,rfl,by omega,.inl rfl,rfl,ZZ (Q9.nil _ _),ZZ (Below.refl _ _)⟩
 case round=>
  obtain⟨i,a,n,c,rfl,hi,au,rfl,C,t⟩:=hrel;obtain⟨c1,c3,c4,c5⟩:=K.o wr t.o;have g:Hid (i=min d.toNat 20->∃ v,Ending.returned (.slice a n c)=.returned v∧Q9 wr w.heap.size v (Zbd next o (min d.toNat 20))∧Below w.heap.size w wr):=ZZ (fun e=>⟨_,rfl,by rw[<-e];exact C.o.mono I.o.size,I.o.trans (t.o.mono I.o.size)⟩)
  by_cases u:(i:Int)<d
  case neg=>
   have aj:decide ((i:Int)<d)=false:=decide_eq_false u;have k:i=min d.toNat 20:=by omega
   have E:=ZZ (g.o k);clear k g;go_wp2;go_ret;exact E.o
  have aj:decide ((i:Int)<d)=true:=decide_eq_true u;by_cases ac:i<20
  case neg=>
   have aq:decide ((i:Int)<20)=false:=decide_eq_false (by omega)
   have k:i=min d.toNat 20:=by omega
   have E:=ZZ (g.o k);clear k g;go_wp2;go_ret;exact E.o
  have aq:decide ((i:Int)<20)=true:=decide_eq_true (by omega)
  clear g;have av:IntKind.i64.wrap (next+(i:Int))=next+(i:Int):=by rw[IntKind.wrap_i64];omega
  have aw:(i:Int).tmod 3=((i % 3:Nat):Int):=by rw[Int.tmod_eq_emod_of_nonneg (by omega)];omega
  have Z:(Zbd next o i).length=i:=HL.o i
  have am:n=i:=by
   obtain⟨a',c',V⟩:=C.o.shape;rw[Z] at V
   injection V
  have ap:Hid ((Zbd next o i).length<=1000000):=ZZ (by omega)
  have ak:=ZZ t.o.size;have ab:=ZZ (HR.o i);have af:((i % 3:Nat):Int)=(i:Int) % 3:=by omega
  have ai:Hid (Zi ⟨next+(i:Int),((i % 3:Nat):Int),next % 1000,o.op,0⟩=#[.int .i64 (next+(i:Int)),.int .i64 ((i:Int) % 3),.int .i64 (next % 1000),.int .i64 q,.int .i64 p,.int .i64 l,.int .i64 0]):=ZZ (by rw[Y.o,af])
  clear af;have an:Hid (Zi (⟨next+(i:Int),((i % 3:Nat):Int),next % 1000,o.op,0⟩:Rec)=Zi ⟨next+(i:Int),((i % 3:Nat):Int),next % 1000,o.op,0⟩):=ZZ rfl;generalize Zbd next o i=L at *;obtain⟨X,hX⟩:∃ X:Rec,X=⟨next+(i:Int),((i % 3:Nat):Int),next % 1000,o.op,0⟩:=⟨_,rfl⟩;rw[<-hX] at ab ai;have ag:Hid (i<20):=ZZ ac;have al:Hid ((i:Int)<d):=ZZ u;clear hX an Y HR HL K Z am u ac au
  go_wp2_with(at_builtin;refine(fun(h:True->_)=>h trivial) ?_)
  intro _;rw[<-ai.o];refine Zft wr rfl _ _ rfl f.heap.size (.slice a n c) L rfl C.o X rfl ap.o ak.o ?_;intro v9 W9 B ae;rw[<-ab.o] at B;obtain⟨a9,c9,ad⟩:=B.shape;generalize (Zbd next o (i+1)).length=n9 at ad;subst ad;have ao:=ZZ B;have ar:=ZZ (t.o.trans ae);clear B ae;go_wp2;go_roundw
  case rel=>exact⟨i+1,a9,n9,c9,by go_num,by have:=ag.o;omega,.inr (by have:=al.o;omega),rfl,ao,ar⟩
  case measure=>have:=ag.o;simp[intOf];omega
end Go.Proofs.YtnahjngbneicaaaGreatDoor
