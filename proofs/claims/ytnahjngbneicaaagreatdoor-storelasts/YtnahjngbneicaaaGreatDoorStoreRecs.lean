import Derived.Test.YtnahjngbneicaaaGreatDoorStoreRunM
namespace Go.Proofs.YtnahjngbneicaaaGreatDoor
open _root_.Go.Proofs.Tryz
set_option maxRecDepth 100000
open Go.RowKit
def Zbk (next:Int) (o:SOp) (m:Nat):List Rec:=(List.range m).map fun(i:Nat)=>⟨next+(i:Int),((i % 3:Nat):Int),next % 1000,o.op,0⟩
theorem Zqq (next:Int) (o:SOp) (m:Nat):Zbk next o (m+1)=Zbk next o m++[⟨next+(m:Int),((m % 3:Nat):Int),next % 1000,o.op,0⟩]:=by
 unfold Zbk;rw[List.range_succ,List.map_append];rfl
theorem Ztt (next:Int) (o:SOp) (m:Nat):(Zbk next o m).length=m:=by
 unfold Zbk;rw[List.length_map,List.length_range]
theorem Zwc (next:Int) (o:SOp):Zi next o=Zbk next o (min o.many.toNat 20):=rfl
set_option maxHeartbeats 2000000 in
theorem Zom (next:Int) (o:SOp) (G:Option Addr) (N P:Nat) (I:Option Addr) (C F:Nat) (J:Option Addr) (S T:Nat) (w:World) (h0:0<=next) (h1:next<=4611686018427387904):
 Calls prog 23 #[.int .i64 next,.agg #[.int .i64 o.kind,.int .i64 o.many,.int .i64 o.n,.int .i64 o.op.code,.int .i64 o.op.a,.int .i64 o.op.b,.slice G N P,.slice I C F,.slice J S T]] w fun e w'=>∃ v,e=.returned v∧Xj w' w.heap.size v (Zi next o)∧Below w.heap.size w w':=by
 rw[Zwc];obtain⟨d,af⟩:∃ m,m=o.many:=⟨_,rfl⟩;rw[<-af];obtain⟨f,g⟩:∃ f,f=w.alloc (.cells #[.int .i64 o.kind,.int .i64 d,.int .i64 o.n,.int .i64 o.op.code,.int .i64 o.op.a,.int .i64 o.op.b,.slice G N P,.slice I C F,.slice J S T] 55):=⟨_,rfl⟩;have O:Hid (Below w.heap.size w f):=ZZ (by rw[g];exact Jw _ _)
 have E:Hid (Bk 55 f w.heap.size #[.int .i64 o.kind,.int .i64 d,.int .i64 o.n,.int .i64 o.op.code,.int .i64 o.op.a,.int .i64 o.op.b,.slice G N P,.slice I C F,.slice J S T]):=ZZ (by rw[g];exact heap_alloc_new w _)
 have H:Hid (∀ W,Below f.heap.size f W->W.cell? ⟨w.heap.size,1,none⟩=some (.int .i64 d)∧W.cell? ⟨w.heap.size,3,none⟩=some (.int .i64 o.op.code)∧W.cell? ⟨w.heap.size,4,none⟩=some (.int .i64 o.op.a)∧W.cell? ⟨w.heap.size,5,none⟩=some (.int .i64 o.op.b)):=ZZ (fun W h=>by
  have A:=E.o.keep (h.block _ E.o.lt)
  exact⟨(A.cell 1 rfl).1,(A.cell 3 rfl).1,(A.cell 4 rfl).1,(A.cell 5 rfl).1⟩)
 have Y:Hid (∀ m,Zbk next o (m+1)=Zbk next o m++[⟨next+(m:Int),((m % 3:Nat):Int),next % 1000,o.op,0⟩]):=ZZ (Zqq next o);have HL:Hid (∀ m,(Zbk next o m).length=m):=ZZ (Ztt next o);obtain⟨B,M⟩:∃ B,B=o.op.code:=⟨_,rfl⟩;obtain⟨t,K⟩:∃ t,t=o.op.a:=⟨_,rfl⟩;obtain⟨p,R⟩:∃ p,p=o.op.b:=⟨_,rfl⟩;have V:Hid (∀ x y z:Int,Ja ⟨x,y,z,o.op,0⟩=#[.int .i64 x,.int .i64 y,.int .i64 z,.int .i64 B,.int .i64 t,.int .i64 p,.int .i64 0]):=ZZ (fun x y z=>by rw[M,K,R];rfl)
 rw[<-M,<-K,<-R] at H g ⊢;clear M K R af E;generalize o.kind=k0 at *;generalize o.n=k2 at *;have ax:next.tmod 1000=next % 1000:=Int.tmod_eq_emod_of_nonneg h0
 go_enter func23,ntmps23
 go_upto_region 1 with fail
 rw[<-g];clear g;go_wp2
 go_loopw[5,6] (fun vl U wr=>∃ (i:Nat) (a:Option Addr) (n c:Nat),U=.int .i64 (i:Int)∧i<=20∧(i=0∨(i:Int)<=d)∧vl=.slice a n c∧Hid (Xj wr f.heap.size (.slice a n c) (Zbk next o i))∧Hid (Below f.heap.size f wr)) (fun _ U _=>20-(intOf U).toNat)
 case atStart=>exact⟨0,none,0,0,rfl,by omega,.inl rfl,rfl,ZZ (Xj.nil _ _),ZZ (Below.refl _ _)⟩
 case round=>
  obtain⟨i,a,n,c,rfl,hi,ak,rfl,D,l⟩:=hrel;obtain⟨c1,c3,c4,c5⟩:=H.o wr l.o;have j:Hid (i=min d.toNat 20->∃ v,Ending.returned (.slice a n c)=.returned v∧Xj wr w.heap.size v (Zbk next o (min d.toNat 20))∧Below w.heap.size w wr):=ZZ (fun e=>⟨_,rfl,by rw[<-e];exact D.o.mono O.o.size,O.o.trans (l.o.mono O.o.size)⟩)
  by_cases u:(i:Int)<d
  case neg=>
   have ap:decide ((i:Int)<d)=false:=decide_eq_false u;have k:i=min d.toNat 20:=by omega
   have Q:=ZZ (j.o k);clear k j;go_wp2;go_ret;exact Q.o
  have ap:decide ((i:Int)<d)=true:=decide_eq_true u;by_cases ai:i<20
  case neg=>
   have al:decide ((i:Int)<20)=false:=decide_eq_false (by omega)
   have k:i=min d.toNat 20:=by omega
   have Q:=ZZ (j.o k);clear k j;go_wp2;go_ret;exact Q.o
  have al:decide ((i:Int)<20)=true:=decide_eq_true (by omega)
  clear j;have av:IntKind.i64.wrap (next+(i:Int))=next+(i:Int):=by rw[IntKind.wrap_i64];omega
  have aw:(i:Int).tmod 3=((i % 3:Nat):Int):=by rw[Int.tmod_eq_emod_of_nonneg (by omega)];omega
  have ag:(Zbk next o i).length=i:=HL.o i
  have ar:n=i:=by
   obtain⟨a',c',hv⟩:=D.o.shape;rw[ag] at hv
   injection hv
  have aq:Hid ((Zbk next o i).length<=1000000):=ZZ (by omega)
  have an:=ZZ l.o.size;have ac:=ZZ (Y.o i);have Z:((i % 3:Nat):Int)=(i:Int) % 3:=by omega
  have ad:Hid (Ja ⟨next+(i:Int),((i % 3:Nat):Int),next % 1000,o.op,0⟩=#[.int .i64 (next+(i:Int)),.int .i64 ((i:Int) % 3),.int .i64 (next % 1000),.int .i64 B,.int .i64 t,.int .i64 p,.int .i64 0]):=ZZ (by rw[V.o,Z])
  clear Z;have au:Hid (Ja (⟨next+(i:Int),((i % 3:Nat):Int),next % 1000,o.op,0⟩:Rec)=Ja ⟨next+(i:Int),((i % 3:Nat):Int),next % 1000,o.op,0⟩):=ZZ rfl;generalize Zbk next o i=L at *;obtain⟨X,hX⟩:∃ X:Rec,X=⟨next+(i:Int),((i % 3:Nat):Int),next % 1000,o.op,0⟩:=⟨_,rfl⟩;rw[<-hX] at ac ad;have ae:Hid (i<20):=ZZ ai;have ao:Hid ((i:Int)<d):=ZZ u;clear hX au V Y HL H ag ar u ai ak
  go_wp2_with(at_builtin;refine(fun(h:True->_)=>h trivial) ?_)
  intro _;rw[<-ad.o];refine ZfK wr rfl _ _ rfl f.heap.size (.slice a n c) L rfl D.o X rfl aq.o an.o ?_;intro v9 W9 q aa;rw[<-ac.o] at q;obtain⟨a9,c9,ab⟩:=q.shape;generalize (Zbk next o (i+1)).length=n9 at ab;subst ab;have aj:=ZZ q;have am:=ZZ (l.o.trans aa);clear q aa;go_wp2;go_roundw
  case rel=>exact⟨i+1,a9,n9,c9,by go_num,by have:=ae.o;omega,.inr (by have:=ao.o;omega),rfl,aj,am⟩
  case measure=>have:=ae.o;simp[intOf];omega
end Go.Proofs.YtnahjngbneicaaaGreatDoor
