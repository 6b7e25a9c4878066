import Derived.Test.YtnahjngbneicaaaGreatDoorStoreRunM
namespace Go.Proofs.YtnahjngbneicaaaGreatDoor
set_option maxRecDepth 100000
open Go.RowKit
def ZdF (next:Int) (o:SOp) (m:Nat):List Rec:=(List.range m).map fun(i:Nat)=>⟨next+(i:Int),((i % 3:Nat):Int),next % 1000,o.op,0⟩
theorem Zqr (next:Int) (o:SOp) (m:Nat):ZdF next o (m+1)=ZdF next o m++[⟨next+(m:Int),((m % 3:Nat):Int),next % 1000,o.op,0⟩]:=by
 unfold ZdF
 rw[List.range_succ,List.map_append]
 rfl
theorem ZsS (next:Int) (o:SOp) (m:Nat):(ZdF next o m).length=m:=by
 unfold ZdF
 rw[List.length_map,List.length_range]
theorem Zvj (next:Int) (o:SOp):ZcX next o=ZdF next o (min o.many.toNat 20):=rfl
set_option maxHeartbeats 2000000 in
theorem Zoy (next:Int) (o:SOp) (ka:Option Addr) (kn kc:Nat) (ra:Option Addr) (rn rc:Nat) (ba:Option Addr) (bn bc:Nat) (w:World) (h0:0<=next) (h1:next<=4611686018427387904):
 Calls Tryz.prog 23 #[.int .i64 next,.agg #[.int .i64 o.kind,.int .i64 o.many,.int .i64 o.n,.int .i64 o.op.code,.int .i64 o.op.a,.int .i64 o.op.b,.slice ka kn kc,.slice ra rn rc,.slice ba bn bc]] w fun e w'=>∃ v,e=.returned v∧Zbp w' w.heap.size v (ZcX next o)∧Below w.heap.size w w':=by
 rw[Zvj]
 obtain⟨many,hmany⟩:∃ m,m=o.many:=⟨_,rfl⟩
 rw[<-hmany]
 obtain⟨W0,hW0⟩:∃ W0,W0=w.alloc (.cells #[.int .i64 o.kind,.int .i64 many,.int .i64 o.n,.int .i64 o.op.code,.int .i64 o.op.a,.int .i64 o.op.b,.slice ka kn kc,.slice ra rn rc,.slice ba bn bc] 55):=⟨_,rfl⟩
 have HB0:Hid (Below w.heap.size w W0):=ZZ (by rw[hW0];exact ZcW _ _)
 have HX:Hid (Bk 55 W0 w.heap.size #[.int .i64 o.kind,.int .i64 many,.int .i64 o.n,.int .i64 o.op.code,.int .i64 o.op.a,.int .i64 o.op.b,.slice ka kn kc,.slice ra rn rc,.slice ba bn bc]):=ZZ (by rw[hW0];exact heap_alloc_new w _)
 have HK:Hid (∀ W,Below W0.heap.size W0 W->W.cell? ⟨w.heap.size,1,none⟩=some (.int .i64 many)∧W.cell? ⟨w.heap.size,3,none⟩=some (.int .i64 o.op.code)∧W.cell? ⟨w.heap.size,4,none⟩=some (.int .i64 o.op.a)∧W.cell? ⟨w.heap.size,5,none⟩=some (.int .i64 o.op.b)):=ZZ (fun W h=>by
  have hb:=HX.out.keep (h.block _ HX.out.lt)
  exact⟨(hb.cell 1 rfl).1,(hb.cell 3 rfl).1,(hb.cell 4 rfl).1,(hb.cell 5 rfl).1⟩)
 have HR:Hid (∀ m,ZdF next o (m+1)=ZdF next o m++[⟨next+(m:Int),((m % 3:Nat):Int),next % 1000,o.op,0⟩]):=ZZ (Zqr next o)
 have HL:Hid (∀ m,(ZdF next o m).length=m):=ZZ (ZsS next o)
 obtain⟨cd,hcd⟩:∃ cd,cd=o.op.code:=⟨_,rfl⟩
 obtain⟨oa,hoa⟩:∃ oa,oa=o.op.a:=⟨_,rfl⟩
 obtain⟨ob,hob⟩:∃ ob,ob=o.op.b:=⟨_,rfl⟩
 have HRC:Hid (∀ x y z:Int,ZdG ⟨x,y,z,o.op,0⟩=#[.int .i64 x,.int .i64 y,.int .i64 z,.int .i64 cd,.int .i64 oa,.int .i64 ob,.int .i64 0]):=ZZ (fun x y z=>by rw[hcd,hoa,hob];rfl)
 rw[<-hcd,<-hoa,<-hob] at HK hW0 ⊢
 clear hcd hoa hob hmany HX
 generalize o.kind=k0 at *
 generalize o.n=k2 at *
 have hmod:next.tmod 1000=next % 1000:=Int.tmod_eq_emod_of_nonneg h0
 go_enter Tryz.func23,Tryz.ntmps23
 go_upto_region 1 with fail
 rw[<-hW0]
 clear hW0
 go_wp2
 go_loopw[5,6] (fun vl vi wr=>∃ (i:Nat) (a:Option Addr) (n c:Nat),vi=.int .i64 (i:Int)∧i<=20∧(i=0∨(i:Int)<=many)∧vl=.slice a n c∧Hid (Zbp wr W0.heap.size (.slice a n c) (ZdF next o i))∧Hid (Below W0.heap.size W0 wr)) (fun _ vi _=>20-(intOf vi).toNat)
 case atStart=>exact⟨0,none,0,0,rfl,by omega,.inl rfl,rfl,ZZ (Zbp.nil _ _),ZZ (Below.refl _ _)⟩
 case round=>
  obtain⟨i,a,n,c,rfl,hi,him,rfl,HO,HB⟩:=hrel
  obtain⟨c1,c3,c4,c5⟩:=HK.out wr HB.out
  have HFI:Hid (i=min many.toNat 20->∃ v,Ending.returned (.slice a n c)=.returned v∧Zbp wr w.heap.size v (ZdF next o (min many.toNat 20))∧Below w.heap.size w wr):=ZZ (fun e=>⟨_,rfl,by rw[<-e];exact HO.out.mono HB0.out.size,HB0.out.trans (HB.out.mono HB0.out.size)⟩)
  by_cases hm:(i:Int)<many
  case neg=>
   have hm':decide ((i:Int)<many)=false:=decide_eq_false hm
   have he:i=min many.toNat 20:=by omega
   have HE:=ZZ (HFI.out he)
   clear he HFI
   go_wp2
   go_ret
   exact HE.out
  have hm':decide ((i:Int)<many)=true:=decide_eq_true hm
  by_cases h20:i<20
  case neg=>
   have h20':decide ((i:Int)<20)=false:=decide_eq_false (by omega)
   have he:i=min many.toNat 20:=by omega
   have HE:=ZZ (HFI.out he)
   clear he HFI
   go_wp2
   go_ret
   exact HE.out
  have h20':decide ((i:Int)<20)=true:=decide_eq_true (by omega)
  clear HFI
  have hw1:IntKind.i64.wrap (next+(i:Int))=next+(i:Int):=by rw[IntKind.wrap_i64];omega
  have hm3:(i:Int).tmod 3=((i % 3:Nat):Int):=by rw[Int.tmod_eq_emod_of_nonneg (by omega)];omega
  have hsz:(ZdF next o i).length=i:=HL.out i
  have hni:n=i:=by
   obtain⟨a',c',hv⟩:=HO.out.shape
   rw[hsz] at hv
   injection hv
  have HLL:Hid ((ZdF next o i).length<=1000000):=ZZ (by omega)
  have HSB:=ZZ HB.out.size
  have HNX:=ZZ (HR.out i)
  have he3:((i % 3:Nat):Int)=(i:Int) % 3:=by omega
  have HRW:Hid (ZdG ⟨next+(i:Int),((i % 3:Nat):Int),next % 1000,o.op,0⟩=#[.int .i64 (next+(i:Int)),.int .i64 ((i:Int) % 3),.int .i64 (next % 1000),.int .i64 cd,.int .i64 oa,.int .i64 ob,.int .i64 0]):=ZZ (by rw[HRC.out,he3])
  clear he3
  have HRR:Hid (ZdG (⟨next+(i:Int),((i % 3:Nat):Int),next % 1000,o.op,0⟩:Rec)=ZdG ⟨next+(i:Int),((i % 3:Nat):Int),next % 1000,o.op,0⟩):=ZZ rfl
  generalize ZdF next o i=L at *
  obtain⟨X,hX⟩:∃ X:Rec,X=⟨next+(i:Int),((i % 3:Nat):Int),next % 1000,o.op,0⟩:=⟨_,rfl⟩
  rw[<-hX] at HNX HRW
  have HIL:Hid (i<20):=ZZ h20
  have HMM:Hid ((i:Int)<many):=ZZ hm
  clear hX HRR HRC HR HL HK hsz hni hm h20 him
  go_wp2_with(at_builtin;refine(fun(h:True->_)=>h trivial) ?_)
  intro _
  rw[<-HRW.out]
  refine Zht wr rfl _ _ rfl W0.heap.size (.slice a n c) L rfl HO.out X rfl HLL.out HSB.out ?_
  intro v9 W9 ho9 hb9
  rw[<-HNX.out] at ho9
  obtain⟨a9,c9,hv9⟩:=ho9.shape
  generalize (ZdF next o (i+1)).length=n9 at hv9
  subst hv9
  have HO9:=ZZ ho9
  have HB9:=ZZ (HB.out.trans hb9)
  clear ho9 hb9
  go_wp2
  go_roundw
  case rel=>exact⟨i+1,a9,n9,c9,by go_num,by have:=HIL.out;omega,.inr (by have:=HMM.out;omega),rfl,HO9,HB9⟩
  case measure=>have:=HIL.out;simp[intOf];omega
end Go.Proofs.YtnahjngbneicaaaGreatDoor
