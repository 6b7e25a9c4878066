import Derived.Test.YtnahjngbneicaaaGreatDoorStoreRunM
namespace Go.Proofs.YtnahjngbneicaaaGreatDoor
open _root_.Go.Proofs.Tryz
set_option maxRecDepth 100000
open Go.RowKit
def Zen (next:Int) (o:SOp) (m:Nat):List Rec:=(List.range m).map fun(i:Nat)=>⟨next+(i:Int),((i % 3:Nat):Int),next % 1000,o.op,0⟩
theorem ZsM (next:Int) (o:SOp) (m:Nat):Zen next o (m+1)=Zen next o m++[⟨next+(m:Int),((m % 3:Nat):Int),next % 1000,o.op,0⟩]:=by
 unfold Zen;rw[List.range_succ,List.map_append];rfl
theorem ZvO (next:Int) (o:SOp) (m:Nat):(Zen next o m).length=m:=by
 unfold Zen;rw[List.length_map,List.length_range]
theorem Zyq (next:Int) (o:SOp):Zcq next o=Zen next o (min o.many.toNat 20):=rfl
set_option maxHeartbeats 2000000 in
theorem ZqO (next:Int) (o:SOp) (C:Option Addr) (G D:Nat) (R:Option Addr) (U H:Nat) (I:Option Addr) (E P:Nat) (w:World) (h0:0<=next) (h1:next<=4611686018427387904):
 Calls prog 23 #[.int .i64 next,.agg #[.int .i64 o.kind,.int .i64 o.many,.int .i64 o.n,.int .i64 o.op.code,.int .i64 o.op.a,.int .i64 o.op.b,.slice C G D,.slice R U H,.slice I E P]] w fun e w'=>∃ v,e=.returned v∧Zbq w' w.heap.size v (Zcq next o)∧Below w.heap.size w w':=by
 rw[Zyq];obtain⟨d,Z⟩:∃ m,m=o.many:=⟨_,rfl⟩;rw[<-Z];obtain⟨f,g⟩:∃ f,f=w.alloc (.cells #[.int .i64 o.kind,.int .i64 d,.int .i64 o.n,.int .i64 o.op.code,.int .i64 o.op.a,.int .i64 o.op.b,.slice C G D,.slice R U H,.slice I E P] 55):=⟨_,rfl⟩;have J:Hid (Below w.heap.size w f):=ZZ (by rw[g];exact ZcW _ _)
 have N:Hid (Bk 55 f w.heap.size #[.int .i64 o.kind,.int .i64 d,.int .i64 o.n,.int .i64 o.op.code,.int .i64 o.op.a,.int .i64 o.op.b,.slice C G D,.slice R U H,.slice I E P]):=ZZ (by rw[g];exact heap_alloc_new w _)
 have F:Hid (∀ W,Below f.heap.size f W->W.cell? ⟨w.heap.size,1,none⟩=some (.int .i64 d)∧W.cell? ⟨w.heap.size,3,none⟩=some (.int .i64 o.op.code)∧W.cell? ⟨w.heap.size,4,none⟩=some (.int .i64 o.op.a)∧W.cell? ⟨w.heap.size,5,none⟩=some (.int .i64 o.op.b)):=ZZ (fun W h=>by
  have p:=N.o.keep (h.block _ N.o.lt)
  exact⟨(p.cell 1 rfl).1,(p.cell 3 rfl).1,(p.cell 4 rfl).1,(p.cell 5 rfl).1⟩)
 have HR:Hid (∀ m,Zen next o (m+1)=Zen next o m++[⟨next+(m:Int),((m % 3:Nat):Int),next % 1000,o.op,0⟩]):=ZZ (ZsM next o);have HL:Hid (∀ m,(Zen next o m).length=m):=ZZ (ZvO next o);obtain⟨q,S⟩:∃ q,q=o.op.code:=⟨_,rfl⟩;obtain⟨B,K⟩:∃ B,B=o.op.a:=⟨_,rfl⟩;obtain⟨l,Q⟩:∃ l,l=o.op.b:=⟨_,rfl⟩;have ab:Hid (∀ x y z:Int,Zeo ⟨x,y,z,o.op,0⟩=#[.int .i64 x,.int .i64 y,.int .i64 z,.int .i64 q,.int .i64 B,.int .i64 l,.int .i64 0]):=ZZ (fun x y z=>by rw[S,K,Q];rfl)
 rw[<-S,<-K,<-Q] at F g ⊢;clear S K Q Z N;generalize o.kind=k0 at *;generalize o.n=k2 at *;have av:next.tmod 1000=next % 1000:=Int.tmod_eq_emod_of_nonneg h0
 go_enter func23,ntmps23
 go_upto_region 1 with fail
 rw[<-g];clear g;go_wp2
 go_loopw[5,6] (fun vl M wr=>∃ (i:Nat) (a:Option Addr) (n c:Nat),M=.int .i64 (i:Int)∧i<=20∧(i=0∨(i:Int)<=d)∧vl=.slice a n c∧Hid (Zbq wr f.heap.size (.slice a n c) (Zen next o i))∧Hid (Below f.heap.size f wr)) (fun _ M _=>20-(intOf M).toNat)
 case atStart=>exact⟨0,none,0,0,rfl,by omega,.inl rfl,rfl,ZZ (Zbq.nil _ _),ZZ (Below.refl _ _)⟩
 case round=>
  obtain⟨i,a,n,c,rfl,hi,aj,rfl,T,A⟩:=hrel;obtain⟨c1,c3,c4,c5⟩:=F.o wr A.o;have k:Hid (i=min d.toNat 20->∃ v,Ending.returned (.slice a n c)=.returned v∧Zbq wr w.heap.size v (Zen next o (min d.toNat 20))∧Below w.heap.size w wr):=ZZ (fun e=>⟨_,rfl,by rw[<-e];exact T.o.mono J.o.size,J.o.trans (A.o.mono J.o.size)⟩)
  by_cases t:(i:Int)<d
  case neg=>
   have ak:decide ((i:Int)<d)=false:=decide_eq_false t;have j:i=min d.toNat 20:=by omega
   have O:=ZZ (k.o j);clear j k;go_wp2;go_ret;exact O.o
  have ak:decide ((i:Int)<d)=true:=decide_eq_true t;by_cases Y:i<20
  case neg=>
   have am:decide ((i:Int)<20)=false:=decide_eq_false (by omega)
   have j:i=min d.toNat 20:=by omega
   have O:=ZZ (k.o j);clear j k;go_wp2;go_ret;exact O.o
  have am:decide ((i:Int)<20)=true:=decide_eq_true (by omega)
  clear k;have au:IntKind.i64.wrap (next+(i:Int))=next+(i:Int):=by rw[IntKind.wrap_i64];omega
  have aw:(i:Int).tmod 3=((i % 3:Nat):Int):=by rw[Int.tmod_eq_emod_of_nonneg (by omega)];omega
  have af:(Zen next o i).length=i:=HL.o i
  have ar:n=i:=by
   obtain⟨a',c',hv⟩:=T.o.shape;rw[af] at hv
   injection hv
  have ao:Hid ((Zen next o i).length<=1000000):=ZZ (by omega)
  have ai:=ZZ A.o.size;have ae:=ZZ (HR.o i);have ag:((i % 3:Nat):Int)=(i:Int) % 3:=by omega
  have aa:Hid (Zeo ⟨next+(i:Int),((i % 3:Nat):Int),next % 1000,o.op,0⟩=#[.int .i64 (next+(i:Int)),.int .i64 ((i:Int) % 3),.int .i64 (next % 1000),.int .i64 q,.int .i64 B,.int .i64 l,.int .i64 0]):=ZZ (by rw[ab.o,ag])
  clear ag;have aq:Hid (Zeo (⟨next+(i:Int),((i % 3:Nat):Int),next % 1000,o.op,0⟩:Rec)=Zeo ⟨next+(i:Int),((i % 3:Nat):Int),next % 1000,o.op,0⟩):=ZZ rfl;generalize Zen next o i=L at *;obtain⟨X,V⟩:∃ X:Rec,X=⟨next+(i:Int),((i % 3:Nat):Int),next % 1000,o.op,0⟩:=⟨_,rfl⟩;rw[<-V] at ae aa;have ad:Hid (i<20):=ZZ Y;have al:Hid ((i:Int)<d):=ZZ t;clear V aq ab HR HL F af ar t Y aj
  go_wp2_with(at_builtin;refine(fun(h:True->_)=>h trivial) ?_)
  intro _;rw[<-aa.o];refine ZiJ wr rfl _ _ rfl f.heap.size (.slice a n c) L rfl T.o X rfl ao.o ai.o ?_;intro v9 W9 u ah;rw[<-ae.o] at u;obtain⟨a9,c9,ac⟩:=u.shape;generalize (Zen next o (i+1)).length=n9 at ac;subst ac;have ap:=ZZ u;have an:=ZZ (A.o.trans ah);clear u ah;go_wp2;go_roundw
  case rel=>exact⟨i+1,a9,n9,c9,by go_num,by have:=ad.o;omega,.inr (by have:=al.o;omega),rfl,ap,an⟩
  case measure=>have:=ad.o;simp[intOf];omega
end Go.Proofs.YtnahjngbneicaaaGreatDoor
