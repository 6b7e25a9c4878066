import Derived.Test.YtnahjngbneicaaaGreatDoorStoreRunM
namespace Go.Proofs.YtnahjngbneicaaaGreatDoor
set_option linter.unusedSimpArgs false
open _root_.Go.Proofs.Tryz
set_option maxRecDepth 100000
open Go.RowKit
def Zbk (next:Int) (o:SOp) (m:Nat):List Rec:=(List.range m).map fun(i:Nat)=>⟨next+(i:Int),((i % 3:Nat):Int),next % 1000,o.op,0⟩
theorem ZqR (next:Int) (o:SOp) (m:Nat):Zbk next o (m+1)=Zbk next o m++[⟨next+(m:Int),((m % 3:Nat):Int),next % 1000,o.op,0⟩]:=by
 unfold Zbk;rw[List.range_succ,zc1];rfl
theorem Zue (next:Int) (o:SOp) (m:Nat):(Zbk next o m).length=m:=by
 unfold Zbk;rw[zda,List.length_range]
theorem ZwL (next:Int) (o:SOp):Yz next o=Zbk next o (min o.many.toNat 20):=rfl
set_option maxHeartbeats 2000000 in
theorem ZgO (next:Int) (o:SOp) (T:Option Addr) (H P:Nat) (K:Option Addr) (F M:Nat) (S:Option Addr) (J G:Nat) (w:World) (h0:0<=next) (h1:next<=4611686018427387904):
 Calls prog 23 #[.int .i64 next,.agg #[.int .i64 o.kind,.int .i64 o.many,.int .i64 o.n,.int .i64 o.op.code,.int .i64 o.op.a,.int .i64 o.op.b,.slice T H P,.slice K F M,.slice S J G]] w fun e w'=>∃ v,e=.returned v∧Xl w' w.heap.size v (Yz next o)∧Below w.heap.size w w':=by
 rw[ZwL];obtain⟨d,ac⟩:=zg7 o.many;rw[<-ac];obtain⟨f,j⟩:=zg7 (w.alloc (.cells #[.int .i64 o.kind,.int .i64 d,.int .i64 o.n,.int .i64 o.op.code,.int .i64 o.op.a,.int .i64 o.op.b,.slice T H P,.slice K F M,.slice S J G] 55));have D:Hid (Below w.heap.size w f):=ZZ (by rw[j];exact Z3 _ _)
 have R:Hid (Bk 55 f w.heap.size #[.int .i64 o.kind,.int .i64 d,.int .i64 o.n,.int .i64 o.op.code,.int .i64 o.op.a,.int .i64 o.op.b,.slice T H P,.slice K F M,.slice S J G]):=ZZ (by rw[j];exact zak w _)
 have Q:Hid (∀ W,Below f.heap.size f W->W.cell? ⟨w.heap.size,1,none⟩=some (.int .i64 d)∧W.cell? ⟨w.heap.size,3,none⟩=some (.int .i64 o.op.code)∧W.cell? ⟨w.heap.size,4,none⟩=some (.int .i64 o.op.a)∧W.cell? ⟨w.heap.size,5,none⟩=some (.int .i64 o.op.b)):=ZZ (fun W h=>by
  have B:=R.o.keep (h.block _ R.o.lt)
  exact⟨(B.cell 1 rfl).1,(B.cell 3 rfl).1,(B.cell 4 rfl).1,(B.cell 5 rfl).1⟩)
 have HR:Hid (∀ m,Zbk next o (m+1)=Zbk next o m++[⟨next+(m:Int),((m % 3:Nat):Int),next % 1000,o.op,0⟩]):=ZZ (ZqR next o);have Y:Hid (∀ m,(Zbk next o m).length=m):=ZZ (Zue next o);obtain⟨t,C⟩:=zg7 o.op.code;obtain⟨l,N⟩:=zg7 o.op.a;obtain⟨q,U⟩:=zg7 o.op.b;have ae:Hid (∀ x y z:Int,Jg ⟨x,y,z,o.op,0⟩=#[.int .i64 x,.int .i64 y,.int .i64 z,.int .i64 t,.int .i64 l,.int .i64 q,.int .i64 0]):=ZZ (fun x y z=>by rw[C,N,U];rfl)
 rw[<-C,<-N,<-U] at Q j ⊢;clear C N U ac R;generalize o.kind=k0 at *;generalize o.n=k2 at *;have aw:next.tmod 1000=next % 1000:=zcx h0
 go_enter func23,ntmps23
 go_upto_region 1 with fail
 rw[<-j];clear j;go_wp2
 go_loopw[5,6] (fun vl O wr=>∃ (i:Nat) (a:Option Addr) (n c:Nat),O=.int .i64 (i:Int)∧i<=20∧(i=0∨(i:Int)<=d)∧vl=.slice a n c∧Hid (Xl wr f.heap.size (.slice a n c) (Zbk next o i))∧Hid (Below f.heap.size f wr)) (fun _ O _=>20-(intOf O).toNat)
 case atStart=>exact⟨0,none,0,0,rfl,by omega,.inl rfl,rfl,ZZ (Xl.nil _ _),ZZ (zac _ _)⟩
 case round=>
  obtain⟨i,a,n,c,rfl,hi,al,rfl,E,p⟩:=hrel;obtain⟨c1,c3,c4,c5⟩:=Q.o wr p.o;have k:Hid (i=min d.toNat 20->∃ v,Ending.returned (.slice a n c)=.returned v∧Xl wr w.heap.size v (Zbk next o (min d.toNat 20))∧Below w.heap.size w wr):=ZZ (fun e=>⟨_,rfl,by rw[<-e];exact E.o.mono D.o.size,D.o.trans (p.o.mono D.o.size)⟩)
  by_cases A:(i:Int)<d
  case neg=>
   have av:decide ((i:Int)<d)=false:=zai A;have g:i=min d.toNat 20:=by omega
   have I:=ZZ (k.o g);clear g k;go_wp2;go_ret;exact I.o
  have av:decide ((i:Int)<d)=true:=zan A;by_cases aa:i<20
  case neg=>
   have ap:decide ((i:Int)<20)=false:=zai (by omega)
   have g:i=min d.toNat 20:=by omega
   have I:=ZZ (k.o g);clear g k;go_wp2;go_ret;exact I.o
  have ap:decide ((i:Int)<20)=true:=zan (by omega)
  clear k;have ax:IntKind.i64.wrap (next+(i:Int))=next+(i:Int):=by rw[zbo];omega
  have ay:(i:Int).tmod 3=((i % 3:Nat):Int):=by rw[zcx (by omega)];omega
  have aj:(Zbk next o i).length=i:=Y.o i
  have au:n=i:=by
   obtain⟨a',c',Z⟩:=E.o.shape;rw[aj] at Z
   injection Z
  have ar:Hid ((Zbk next o i).length<=1000000):=ZZ (by omega)
  have an:=ZZ p.o.size;have V:=ZZ (HR.o i);have ai:((i % 3:Nat):Int)=(i:Int) % 3:=by omega
  have af:Hid (Jg ⟨next+(i:Int),((i % 3:Nat):Int),next % 1000,o.op,0⟩=#[.int .i64 (next+(i:Int)),.int .i64 ((i:Int) % 3),.int .i64 (next % 1000),.int .i64 t,.int .i64 l,.int .i64 q,.int .i64 0]):=ZZ (by rw[ae.o,ai])
  clear ai;have am:Hid (Jg (⟨next+(i:Int),((i % 3:Nat):Int),next % 1000,o.op,0⟩:Rec)=Jg ⟨next+(i:Int),((i % 3:Nat):Int),next % 1000,o.op,0⟩):=ZZ rfl;generalize Zbk next o i=L at *;obtain⟨X,hX⟩:∃ X:Rec,X=⟨next+(i:Int),((i % 3:Nat):Int),next % 1000,o.op,0⟩:=⟨_,rfl⟩;rw[<-hX] at V af;have ab:Hid (i<20):=ZZ aa;have ao:Hid ((i:Int)<d):=ZZ A;clear hX am ae HR Y Q aj au A aa al
  go_wp2_with(at_builtin;refine(fun(h:True->_)=>h trivial) ?_)
  intro _;rw[<-af.o];refine ZfS wr rfl _ _ rfl f.heap.size (.slice a n c) L rfl E.o X rfl ar.o an.o ?_;intro v9 W9 u ad;rw[<-V.o] at u;obtain⟨a9,c9,ag⟩:=u.shape;generalize (Zbk next o (i+1)).length=n9 at ag;subst ag;have aq:=ZZ u;have ak:=ZZ (p.o.trans ad);clear u ad;go_wp2;go_roundw
  case rel=>exact⟨i+1,a9,n9,c9,by go_num,by have:=ab.o;omega,.inr (by have:=ao.o;omega),rfl,aq,ak⟩
  case measure=>have:=ab.o;simp[intOf];omega
end Go.Proofs.YtnahjngbneicaaaGreatDoor
