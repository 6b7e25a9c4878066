import Derived.Test.YtnahjngbneicaaaGreatDoorStoreRunM
namespace Go.Proofs.YtnahjngbneicaaaGreatDoor
open _root_.Go.Proofs.Tryz
set_option maxRecDepth 100000
open Go.RowKit
def Zen (next:Int) (o:SOp) (m:Nat):List Rec:=(List.range m).map fun(i:Nat)=>⟨next+(i:Int),((i % 3:Nat):Int),next % 1000,o.op,0⟩
theorem ZsM (next:Int) (o:SOp) (m:Nat):Zen next o (m+1)=Zen next o m++[⟨next+(m:Int),((m % 3:Nat):Int),next % 1000,o.op,0⟩]:=by
 unfold Zen;rw[List.range_succ,List.map_append];rfl
theorem ZvO (next:Int) (o:SOp) (m:Nat):(Zen next o m).length=m:=by
 unfold Zen;rw[List.length_map,List.length_range]
theorem Zyq (next:Int) (o:SOp):Zcq next o=Zen next o (min o.many.toNat 20):=rfl
set_option maxHeartbeats 2000000 in
theorem ZqO (next:Int) (o:SOp) (G:Option Addr) (Q N:Nat) (T:Option Addr) (M D:Nat) (F:Option Addr) (I E:Nat) (w:World) (h0:0<=next) (h1:next<=4611686018427387904):
 Calls prog 23 #[.int .i64 next,.agg #[.int .i64 o.kind,.int .i64 o.many,.int .i64 o.n,.int .i64 o.op.code,.int .i64 o.op.a,.int .i64 o.op.b,.slice G Q N,.slice T M D,.slice F I E]] w fun e w'=>∃ v,e=.returned v∧Zbq w' w.heap.size v (Zcq next o)∧Below w.heap.size w w':=by
 rw[Zyq];obtain⟨d,ae⟩:∃ m,m=o.many:=⟨_,rfl⟩;rw[<-ae];obtain⟨f,j⟩:∃ f,f=w.alloc (.cells #[.int .i64 o.kind,.int .i64 d,.int .i64 o.n,.int .i64 o.op.code,.int .i64 o.op.a,.int .i64 o.op.b,.slice G Q N,.slice T M D,.slice F I E] 55):=⟨_,rfl⟩;have S:Hid (Below w.heap.size w f):=ZZ (by rw[j];exact ZcW _ _)
 have J:Hid (Bk 55 f w.heap.size #[.int .i64 o.kind,.int .i64 d,.int .i64 o.n,.int .i64 o.op.code,.int .i64 o.op.a,.int .i64 o.op.b,.slice G Q N,.slice T M D,.slice F I E]):=ZZ (by rw[j];exact heap_alloc_new w _)
 have O:Hid (∀ W,Below f.heap.size f W->W.cell? ⟨w.heap.size,1,none⟩=some (.int .i64 d)∧W.cell? ⟨w.heap.size,3,none⟩=some (.int .i64 o.op.code)∧W.cell? ⟨w.heap.size,4,none⟩=some (.int .i64 o.op.a)∧W.cell? ⟨w.heap.size,5,none⟩=some (.int .i64 o.op.b)):=ZZ (fun W h=>by
  have q:=J.o.keep (h.block _ J.o.lt)
  exact⟨(q.cell 1 rfl).1,(q.cell 3 rfl).1,(q.cell 4 rfl).1,(q.cell 5 rfl).1⟩)
 have HR:Hid (∀ m,Zen next o (m+1)=Zen next o m++[⟨next+(m:Int),((m % 3:Nat):Int),next % 1000,o.op,0⟩]):=ZZ (ZsM next o);have HL:Hid (∀ m,(Zen next o m).length=m):=ZZ (ZvO next o);obtain⟨u,K⟩:∃ u,u=o.op.code:=⟨_,rfl⟩;obtain⟨C,P⟩:∃ C,C=o.op.a:=⟨_,rfl⟩;obtain⟨B,R⟩:∃ B,B=o.op.b:=⟨_,rfl⟩;have ac:Hid (∀ x y z:Int,Zeo ⟨x,y,z,o.op,0⟩=#[.int .i64 x,.int .i64 y,.int .i64 z,.int .i64 u,.int .i64 C,.int .i64 B,.int .i64 0]):=ZZ (fun x y z=>by rw[K,P,R];rfl)
 rw[<-K,<-P,<-R] at O j ⊢;clear K P R ae J;generalize o.kind=k0 at *;generalize o.n=k2 at *;have av:next.tmod 1000=next % 1000:=Int.tmod_eq_emod_of_nonneg h0
 go_enter func23,ntmps23
 go_upto_region 1 with fail
 rw[<-j];clear j;go_wp2
 go_loopw[5,6] (fun vl H g=>∃ (i:Nat) (a:Option Addr) (n c:Nat),H=.int .i64 (i:Int)∧i<=20∧(i=0∨(i:Int)<=d)∧vl=.slice a n c∧Hid (Zbq g f.heap.size (.slice a n c) (Zen next o i))∧Hid (Below f.heap.size f g)) (fun _ H _=>20-(intOf H).toNat)
 case atStart=>exact⟨0,none,0,0,rfl,by omega,.inl rfl,rfl,ZZ (Zbq.nil _ _),ZZ (Below.refl _ _)⟩
 case round=>
  obtain⟨i,a,n,c,rfl,hi,ar,rfl,V,A⟩:=hrel;obtain⟨c1,c3,c4,c5⟩:=O.o g A.o;have k:Hid (i=min d.toNat 20->∃ v,Ending.returned (.slice a n c)=.returned v∧Zbq g w.heap.size v (Zen next o (min d.toNat 20))∧Below w.heap.size w g):=ZZ (fun e=>⟨_,rfl,by rw[<-e];exact V.o.mono S.o.size,S.o.trans (A.o.mono S.o.size)⟩)
  by_cases p:(i:Int)<d
  case neg=>
   have aj:decide ((i:Int)<d)=false:=decide_eq_false p;have l:i=min d.toNat 20:=by omega
   have U:=ZZ (k.o l);clear l k;go_wp2;go_ret;exact U.o
  have aj:decide ((i:Int)<d)=true:=decide_eq_true p;by_cases Z:i<20
  case neg=>
   have ao:decide ((i:Int)<20)=false:=decide_eq_false (by omega)
   have l:i=min d.toNat 20:=by omega
   have U:=ZZ (k.o l);clear l k;go_wp2;go_ret;exact U.o
  have ao:decide ((i:Int)<20)=true:=decide_eq_true (by omega)
  clear k;have aw:IntKind.i64.wrap (next+(i:Int))=next+(i:Int):=by rw[IntKind.wrap_i64];omega
  have au:(i:Int).tmod 3=((i % 3:Nat):Int):=by rw[Int.tmod_eq_emod_of_nonneg (by omega)];omega
  have ah:(Zen next o i).length=i:=HL.o i
  have al:n=i:=by
   obtain⟨a',c',hv⟩:=V.o.shape;rw[ah] at hv
   injection hv
  have ap:Hid ((Zen next o i).length<=1000000):=ZZ (by omega)
  have am:=ZZ A.o.size;have aa:=ZZ (HR.o i);have af:((i % 3:Nat):Int)=(i:Int) % 3:=by omega
  have ad:Hid (Zeo ⟨next+(i:Int),((i % 3:Nat):Int),next % 1000,o.op,0⟩=#[.int .i64 (next+(i:Int)),.int .i64 ((i:Int) % 3),.int .i64 (next % 1000),.int .i64 u,.int .i64 C,.int .i64 B,.int .i64 0]):=ZZ (by rw[ac.o,af])
  clear af;have ak:Hid (Zeo (⟨next+(i:Int),((i % 3:Nat):Int),next % 1000,o.op,0⟩:Rec)=Zeo ⟨next+(i:Int),((i % 3:Nat):Int),next % 1000,o.op,0⟩):=ZZ rfl;generalize Zen next o i=L at *;obtain⟨X,hX⟩:∃ X:Rec,X=⟨next+(i:Int),((i % 3:Nat):Int),next % 1000,o.op,0⟩:=⟨_,rfl⟩;rw[<-hX] at aa ad;have ag:Hid (i<20):=ZZ Z;have an:Hid ((i:Int)<d):=ZZ p;clear hX ak ac HR HL O ah al p Z ar
  go_wp2_with(at_builtin;refine(fun(h:True->_)=>h trivial) ?_)
  intro _;rw[<-ad.o];refine ZiJ g rfl _ _ rfl f.heap.size (.slice a n c) L rfl V.o X rfl ap.o am.o ?_;intro v9 W9 t ab;rw[<-aa.o] at t;obtain⟨a9,c9,Y⟩:=t.shape;generalize (Zen next o (i+1)).length=n9 at Y;subst Y;have aq:=ZZ t;have ai:=ZZ (A.o.trans ab);clear t ab;go_wp2;go_roundw
  case rel=>exact⟨i+1,a9,n9,c9,by go_num,by have:=ag.o;omega,.inr (by have:=an.o;omega),rfl,aq,ai⟩
  case measure=>have:=ag.o;simp[intOf];omega
end Go.Proofs.YtnahjngbneicaaaGreatDoor
