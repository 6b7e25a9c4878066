import Derived.Test.YtnahjngbneicaaaGreatDoorStoreRunM
namespace Go.Proofs.YtnahjngbneicaaaGreatDoor
open _root_.Go.Proofs.Tryz
set_option maxRecDepth 100000
open Go.RowKit
def Zbk (next:Int) (o:SOp) (m:Nat):List Rec:=(List.range m).map fun(i:Nat)=>⟨next+(i:Int),((i % 3:Nat):Int),next % 1000,o.op,0⟩
theorem Zqq (next:Int) (o:SOp) (m:Nat):Zbk next o (m+1)=Zbk next o m++[⟨next+(m:Int),((m % 3:Nat):Int),next % 1000,o.op,0⟩]:=by
 unfold Zbk;rw[List.range_succ,List.map_append];rfl
theorem Ztt (next:Int) (o:SOp) (m:Nat):(Zbk next o m).length=m:=by
 unfold Zbk;rw[List.length_map,List.length_range]
theorem Zwc (next:Int) (o:SOp):Zi next o=Zbk next o (min o.many.toNat 20):=rfl
set_option maxHeartbeats 2000000 in
theorem Zom (next:Int) (o:SOp) (R:Option Addr) (P K:Nat) (F:Option Addr) (H T:Nat) (M:Option Addr) (E Q:Nat) (w:World) (h0:0<=next) (h1:next<=4611686018427387904):
 Calls prog 23 #[.int .i64 next,.agg #[.int .i64 o.kind,.int .i64 o.many,.int .i64 o.n,.int .i64 o.op.code,.int .i64 o.op.a,.int .i64 o.op.b,.slice R P K,.slice F H T,.slice M E Q]] w fun e w'=>∃ v,e=.returned v∧Xj w' w.heap.size v (Zi next o)∧Below w.heap.size w w':=by
 rw[Zwc];obtain⟨d,ad⟩:∃ m,m=o.many:=⟨_,rfl⟩;rw[<-ad];obtain⟨f,k⟩:∃ f,f=w.alloc (.cells #[.int .i64 o.kind,.int .i64 d,.int .i64 o.n,.int .i64 o.op.code,.int .i64 o.op.a,.int .i64 o.op.b,.slice R P K,.slice F H T,.slice M E Q] 55):=⟨_,rfl⟩;have G:Hid (Below w.heap.size w f):=ZZ (by rw[k];exact Jw _ _)
 have S:Hid (Bk 55 f w.heap.size #[.int .i64 o.kind,.int .i64 d,.int .i64 o.n,.int .i64 o.op.code,.int .i64 o.op.a,.int .i64 o.op.b,.slice R P K,.slice F H T,.slice M E Q]):=ZZ (by rw[k];exact heap_alloc_new w _)
 have D:Hid (∀ W,Below f.heap.size f W->W.cell? ⟨w.heap.size,1,none⟩=some (.int .i64 d)∧W.cell? ⟨w.heap.size,3,none⟩=some (.int .i64 o.op.code)∧W.cell? ⟨w.heap.size,4,none⟩=some (.int .i64 o.op.a)∧W.cell? ⟨w.heap.size,5,none⟩=some (.int .i64 o.op.b)):=ZZ (fun W h=>by
  have t:=S.o.keep (h.block _ S.o.lt)
  exact⟨(t.cell 1 rfl).1,(t.cell 3 rfl).1,(t.cell 4 rfl).1,(t.cell 5 rfl).1⟩)
 have HR:Hid (∀ m,Zbk next o (m+1)=Zbk next o m++[⟨next+(m:Int),((m % 3:Nat):Int),next % 1000,o.op,0⟩]):=ZZ (Zqq next o);have V:Hid (∀ m,(Zbk next o m).length=m):=ZZ (Ztt next o);obtain⟨u,C⟩:∃ u,u=o.op.code:=⟨_,rfl⟩;obtain⟨B,I⟩:∃ B,B=o.op.a:=⟨_,rfl⟩;obtain⟨q,J⟩:∃ q,q=o.op.b:=⟨_,rfl⟩;have ac:Hid (∀ x y z:Int,Ja ⟨x,y,z,o.op,0⟩=#[.int .i64 x,.int .i64 y,.int .i64 z,.int .i64 u,.int .i64 B,.int .i64 q,.int .i64 0]):=ZZ (fun x y z=>by rw[C,I,J];rfl)
 rw[<-C,<-I,<-J] at D k ⊢;clear C I J ad S;generalize o.kind=k0 at *;generalize o.n=k2 at *;have au:next.tmod 1000=next % 1000:=Int.tmod_eq_emod_of_nonneg h0
 go_enter func23,ntmps23
 go_upto_region 1 with fail
 rw[<-k];clear k;go_wp2
 go_loopw[5,6] (fun vl O wr=>∃ (i:Nat) (a:Option Addr) (n c:Nat),O=.int .i64 (i:Int)∧i<=20∧(i=0∨(i:Int)<=d)∧vl=.slice a n c∧Hid (Xj wr f.heap.size (.slice a n c) (Zbk next o i))∧Hid (Below f.heap.size f wr)) (fun _ O _=>20-(intOf O).toNat)
 case atStart=>exact⟨0,none,0,0,rfl,by omega,.inl rfl,rfl,ZZ (Xj.nil _ _),ZZ (Below.refl _ _)⟩
 case round=>
  obtain⟨i,a,n,c,rfl,hi,ao,rfl,U,p⟩:=hrel;obtain⟨c1,c3,c4,c5⟩:=D.o wr p.o;have g:Hid (i=min d.toNat 20->∃ v,Ending.returned (.slice a n c)=.returned v∧Xj wr w.heap.size v (Zbk next o (min d.toNat 20))∧Below w.heap.size w wr):=ZZ (fun e=>⟨_,rfl,by rw[<-e];exact U.o.mono G.o.size,G.o.trans (p.o.mono G.o.size)⟩)
  by_cases A:(i:Int)<d
  case neg=>
   have aq:decide ((i:Int)<d)=false:=decide_eq_false A;have j:i=min d.toNat 20:=by omega
   have N:=ZZ (g.o j);clear j g;go_wp2;go_ret;exact N.o
  have aq:decide ((i:Int)<d)=true:=decide_eq_true A;by_cases af:i<20
  case neg=>
   have aj:decide ((i:Int)<20)=false:=decide_eq_false (by omega)
   have j:i=min d.toNat 20:=by omega
   have N:=ZZ (g.o j);clear j g;go_wp2;go_ret;exact N.o
  have aj:decide ((i:Int)<20)=true:=decide_eq_true (by omega)
  clear g;have av:IntKind.i64.wrap (next+(i:Int))=next+(i:Int):=by rw[IntKind.wrap_i64];omega
  have aw:(i:Int).tmod 3=((i % 3:Nat):Int):=by rw[Int.tmod_eq_emod_of_nonneg (by omega)];omega
  have ab:(Zbk next o i).length=i:=V.o i
  have al:n=i:=by
   obtain⟨a',c',hv⟩:=U.o.shape;rw[ab] at hv
   injection hv
  have ar:Hid ((Zbk next o i).length<=1000000):=ZZ (by omega)
  have an:=ZZ p.o.size;have Y:=ZZ (HR.o i);have aa:((i % 3:Nat):Int)=(i:Int) % 3:=by omega
  have ah:Hid (Ja ⟨next+(i:Int),((i % 3:Nat):Int),next % 1000,o.op,0⟩=#[.int .i64 (next+(i:Int)),.int .i64 ((i:Int) % 3),.int .i64 (next % 1000),.int .i64 u,.int .i64 B,.int .i64 q,.int .i64 0]):=ZZ (by rw[ac.o,aa])
  clear aa;have am:Hid (Ja (⟨next+(i:Int),((i % 3:Nat):Int),next % 1000,o.op,0⟩:Rec)=Ja ⟨next+(i:Int),((i % 3:Nat):Int),next % 1000,o.op,0⟩):=ZZ rfl;generalize Zbk next o i=L at *;obtain⟨X,hX⟩:∃ X:Rec,X=⟨next+(i:Int),((i % 3:Nat):Int),next % 1000,o.op,0⟩:=⟨_,rfl⟩;rw[<-hX] at Y ah;have Z:Hid (i<20):=ZZ af;have ai:Hid ((i:Int)<d):=ZZ A;clear hX am ac HR V D ab al A af ao
  go_wp2_with(at_builtin;refine(fun(h:True->_)=>h trivial) ?_)
  intro _;rw[<-ah.o];refine ZfK wr rfl _ _ rfl f.heap.size (.slice a n c) L rfl U.o X rfl ar.o an.o ?_;intro v9 W9 l ae;rw[<-Y.o] at l;obtain⟨a9,c9,ag⟩:=l.shape;generalize (Zbk next o (i+1)).length=n9 at ag;subst ag;have ak:=ZZ l;have ap:=ZZ (p.o.trans ae);clear l ae;go_wp2;go_roundw
  case rel=>exact⟨i+1,a9,n9,c9,by go_num,by have:=Z.o;omega,.inr (by have:=ai.o;omega),rfl,ak,ap⟩
  case measure=>have:=Z.o;simp[intOf];omega
end Go.Proofs.YtnahjngbneicaaaGreatDoor
