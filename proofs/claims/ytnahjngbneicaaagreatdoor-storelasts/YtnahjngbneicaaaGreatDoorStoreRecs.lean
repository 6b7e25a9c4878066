import Derived.Test.YtnahjngbneicaaaGreatDoorStoreRunM
namespace Go.Proofs.YtnahjngbneicaaaGreatDoor
open _root_.Go.Proofs.Tryz
set_option maxRecDepth 100000
open Go.RowKit
def Zbk (next:Int) (o:SOp) (m:Nat):List Rec:=(List.range m).map fun(i:Nat)=>⟨next+(i:Int),((i % 3:Nat):Int),next % 1000,o.op,0⟩
theorem Zqq (next:Int) (o:SOp) (m:Nat):Zbk next o (m+1)=Zbk next o m++[⟨next+(m:Int),((m % 3:Nat):Int),next % 1000,o.op,0⟩]:=by
 unfold Zbk;rw[List.range_succ,zc0];rfl
theorem Ztt (next:Int) (o:SOp) (m:Nat):(Zbk next o m).length=m:=by
 unfold Zbk;rw[zcz,List.length_range]
theorem Zwc (next:Int) (o:SOp):Zi next o=Zbk next o (min o.many.toNat 20):=rfl
set_option maxHeartbeats 2000000 in
theorem Zom (next:Int) (o:SOp) (I:Option Addr) (S C:Nat) (E:Option Addr) (J O:Nat) (K:Option Addr) (H T:Nat) (w:World) (h0:0<=next) (h1:next<=4611686018427387904):
 Calls prog 23 #[.int .i64 next,.agg #[.int .i64 o.kind,.int .i64 o.many,.int .i64 o.n,.int .i64 o.op.code,.int .i64 o.op.a,.int .i64 o.op.b,.slice I S C,.slice E J O,.slice K H T]] w fun e w'=>∃ v,e=.returned v∧Xj w' w.heap.size v (Zi next o)∧Below w.heap.size w w':=by
 rw[Zwc];obtain⟨d,ae⟩:=zgy o.many;rw[<-ae];obtain⟨f,k⟩:=zgy (w.alloc (.cells #[.int .i64 o.kind,.int .i64 d,.int .i64 o.n,.int .i64 o.op.code,.int .i64 o.op.a,.int .i64 o.op.b,.slice I S C,.slice E J O,.slice K H T] 55));have D:Hid (Below w.heap.size w f):=ZZ (by rw[k];exact Jw _ _)
 have M:Hid (Bk 55 f w.heap.size #[.int .i64 o.kind,.int .i64 d,.int .i64 o.n,.int .i64 o.op.code,.int .i64 o.op.a,.int .i64 o.op.b,.slice I S C,.slice E J O,.slice K H T]):=ZZ (by rw[k];exact zaf w _)
 have F:Hid (∀ W,Below f.heap.size f W->W.cell? ⟨w.heap.size,1,none⟩=some (.int .i64 d)∧W.cell? ⟨w.heap.size,3,none⟩=some (.int .i64 o.op.code)∧W.cell? ⟨w.heap.size,4,none⟩=some (.int .i64 o.op.a)∧W.cell? ⟨w.heap.size,5,none⟩=some (.int .i64 o.op.b)):=ZZ (fun W h=>by
  have A:=M.o.keep (h.block _ M.o.lt)
  exact⟨(A.cell 1 rfl).1,(A.cell 3 rfl).1,(A.cell 4 rfl).1,(A.cell 5 rfl).1⟩)
 have Z:Hid (∀ m,Zbk next o (m+1)=Zbk next o m++[⟨next+(m:Int),((m % 3:Nat):Int),next % 1000,o.op,0⟩]):=ZZ (Zqq next o);have HL:Hid (∀ m,(Zbk next o m).length=m):=ZZ (Ztt next o);obtain⟨B,P⟩:=zgy o.op.code;obtain⟨l,G⟩:=zgy o.op.a;obtain⟨p,R⟩:=zgy o.op.b;have ac:Hid (∀ x y z:Int,Ja ⟨x,y,z,o.op,0⟩=#[.int .i64 x,.int .i64 y,.int .i64 z,.int .i64 B,.int .i64 l,.int .i64 p,.int .i64 0]):=ZZ (fun x y z=>by rw[P,G,R];rfl)
 rw[<-P,<-G,<-R] at F k ⊢;clear P G R ae M;generalize o.kind=k0 at *;generalize o.n=k2 at *;have aw:next.tmod 1000=next % 1000:=zco h0
 go_enter func23,ntmps23
 go_upto_region 1 with fail
 rw[<-k];clear k;go_wp2
 go_loopw[5,6] (fun vl N wr=>∃ (i:Nat) (a:Option Addr) (n c:Nat),N=.int .i64 (i:Int)∧i<=20∧(i=0∨(i:Int)<=d)∧vl=.slice a n c∧Hid (Xj wr f.heap.size (.slice a n c) (Zbk next o i))∧Hid (Below f.heap.size f wr)) (fun _ N _=>20-(intOf N).toNat)
 case atStart=>exact⟨0,none,0,0,rfl,by omega,.inl rfl,rfl,ZZ (Xj.nil _ _),ZZ (zac _ _)⟩
 case round=>
  obtain⟨i,a,n,c,rfl,hi,al,rfl,U,t⟩:=hrel;obtain⟨c1,c3,c4,c5⟩:=F.o wr t.o;have j:Hid (i=min d.toNat 20->∃ v,Ending.returned (.slice a n c)=.returned v∧Xj wr w.heap.size v (Zbk next o (min d.toNat 20))∧Below w.heap.size w wr):=ZZ (fun e=>⟨_,rfl,by rw[<-e];exact U.o.mono D.o.size,D.o.trans (t.o.mono D.o.size)⟩)
  by_cases q:(i:Int)<d
  case neg=>
   have ar:decide ((i:Int)<d)=false:=zae q;have g:i=min d.toNat 20:=by omega
   have Q:=ZZ (j.o g);clear g j;go_wp2;go_ret;exact Q.o
  have ar:decide ((i:Int)<d)=true:=zah q;by_cases ab:i<20
  case neg=>
   have ap:decide ((i:Int)<20)=false:=zae (by omega)
   have g:i=min d.toNat 20:=by omega
   have Q:=ZZ (j.o g);clear g j;go_wp2;go_ret;exact Q.o
  have ap:decide ((i:Int)<20)=true:=zah (by omega)
  clear j;have ay:IntKind.i64.wrap (next+(i:Int))=next+(i:Int):=by rw[zbe];omega
  have ax:(i:Int).tmod 3=((i % 3:Nat):Int):=by rw[zco (by omega)];omega
  have aj:(Zbk next o i).length=i:=HL.o i
  have au:n=i:=by
   obtain⟨a',c',V⟩:=U.o.shape;rw[aj] at V
   injection V
  have an:Hid ((Zbk next o i).length<=1000000):=ZZ (by omega)
  have aq:=ZZ t.o.size;have ad:=ZZ (Z.o i);have ai:((i % 3:Nat):Int)=(i:Int) % 3:=by omega
  have af:Hid (Ja ⟨next+(i:Int),((i % 3:Nat):Int),next % 1000,o.op,0⟩=#[.int .i64 (next+(i:Int)),.int .i64 ((i:Int) % 3),.int .i64 (next % 1000),.int .i64 B,.int .i64 l,.int .i64 p,.int .i64 0]):=ZZ (by rw[ac.o,ai])
  clear ai;have ao:Hid (Ja (⟨next+(i:Int),((i % 3:Nat):Int),next % 1000,o.op,0⟩:Rec)=Ja ⟨next+(i:Int),((i % 3:Nat):Int),next % 1000,o.op,0⟩):=ZZ rfl;generalize Zbk next o i=L at *;obtain⟨X,hX⟩:∃ X:Rec,X=⟨next+(i:Int),((i % 3:Nat):Int),next % 1000,o.op,0⟩:=⟨_,rfl⟩;rw[<-hX] at ad af;have Y:Hid (i<20):=ZZ ab;have av:Hid ((i:Int)<d):=ZZ q;clear hX ao ac Z HL F aj au q ab al
  go_wp2_with(at_builtin;refine(fun(h:True->_)=>h trivial) ?_)
  intro _;rw[<-af.o];refine ZfK wr rfl _ _ rfl f.heap.size (.slice a n c) L rfl U.o X rfl an.o aq.o ?_;intro v9 W9 u ag;rw[<-ad.o] at u;obtain⟨a9,c9,aa⟩:=u.shape;generalize (Zbk next o (i+1)).length=n9 at aa;subst aa;have am:=ZZ u;have ak:=ZZ (t.o.trans ag);clear u ag;go_wp2;go_roundw
  case rel=>exact⟨i+1,a9,n9,c9,by go_num,by have:=Y.o;omega,.inr (by have:=av.o;omega),rfl,am,ak⟩
  case measure=>have:=Y.o;simp[intOf];omega
end Go.Proofs.YtnahjngbneicaaaGreatDoor
