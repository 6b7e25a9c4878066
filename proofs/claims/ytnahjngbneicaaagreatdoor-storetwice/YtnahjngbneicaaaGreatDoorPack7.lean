import Derived.Test.YtnahjngbneicaaaGreatDoorPack6
import Derived.Test.YtnahjngbneicaaaGreatDoorPack5
import Derived.Test.YtnahjngbneicaaaGreatDoorPack1
import Derived.Test.YtnahjngbneicaaaGreatDoorPack3
import Derived.ChangeSlices
import Derived.Deep.Slices
import Derived.WideShapes
import Derived.Test.YtnahjngbneicaaaGreatDoorPack2
import Derived.Deep.DeepCutAuto
import Derived.Test.YtnahjngbneicaaaGreatDoorPack4
import Derived.Deep.RegionHeld
namespace Go.Proofs.YtnahjngbneicaaaGreatDoor
open _root_.Go.Proofs.Tryz
open List (length_append length_drop map_cons map_nil map_toArray)
set_option maxHeartbeats 4000000
set_option maxRecDepth 100000
open Go.RowKit
theorem Zzq {kind:Int} (d:kind=0∨kind=1) (l:List Int):(0<=kind∧kind<6∧ZbH kind l)↔l.length=1∧-1099511627776<=l.getD 0 0∧l.getD 0 0<=1099511627776:=by
 rw[ZaU (by omega) (by omega)]
 constructor
 ·rintro⟨_,_,_,a,b⟩
  exact⟨a (by omega),b 0 (by have:=a (by omega);omega)⟩
 ·rintro⟨a,b⟩
  refine⟨by omega,by omega,by omega,fun _=>a,fun j c=>?_⟩
  have e:j=0:=by omega
  rw[e];exact b
theorem Zxf {kind:Int} (c:kind=2∨kind=3) (l:List Int):(0<=kind∧kind<6∧ZbH kind l)↔l.length<=64∧ZcN l:=by
 rw[ZaU (by omega) (by omega)]
 constructor
 ·rintro⟨_,_,b,_,a⟩
  exact⟨b,a⟩
 ·rintro⟨b,a⟩
  exact⟨by omega,by omega,b,fun h=>by omega,a⟩
theorem ZuL (l:List Int):(0<=(4:Int)∧(4:Int)<6∧ZbH 4 l)↔Zdh (-1099511627776) l:=by
 unfold ZbH;rw[if_pos rfl];exact⟨fun h=>h.2.2,fun h=>⟨by decide,by decide,h⟩⟩
theorem ZrO (l:List Int):(0<=(5:Int)∧(5:Int)<6∧ZbH 5 l)↔Zdh 0 l:=by
 unfold ZbH;rw[if_neg (by decide),if_pos rfl]
 exact⟨fun h=>h.2.2,fun h=>⟨by decide,by decide,h⟩⟩
theorem Zms (kind:Int) (v:Value) (l:List Int) (w:World) (J:RdI w v l):
 Calls prog 122 #[.int .i64 kind,v] w fun e w'=>e=.returned (.bool (decide (0<=kind∧kind<6∧ZbH kind l)))∧Below w.heap.size w w':=by
 have m:=Zac (fun p q W=>ZcJ p q W)
 have H:Hid (∀ W,Below w.heap.size w W->RdI W v l):=fun W h=>J.below h zL
 obtain⟨R,N⟩:∃ R,R=decide (0<=kind∧kind<6∧ZbH kind l):=⟨_,rfl⟩;rw[<-N];have u:=Zac N;clear N;by_cases B:kind=0∨kind=1
 ·have d:=Zac (Zzq B l)
  have f:((kind == 0)=true)∨((kind == 0)=false∧(kind == 1)=true):=by
   rcases B with rfl | rfl
   ·exact .inl rfl
   ·exact .inr ⟨rfl,rfl⟩
  have x:=Zac (fun n l2 h2 c i W D E=>ZgG n l2 h2 c i W D E)
  obtain⟨ao,cap,rfl,-,-,-,-,O⟩:=J;have S:=Zac O;clear O B H;by_cases t:l.length=1
  ·rcases S.o with h0 | ⟨g,off,rfl,hc⟩
   ·rw[h0] at t;simp at t
   have P:Hid (∀ W,Below w.heap.size w W->W.cell? ⟨g,off,none⟩=some (.int .i64 (l.getD 0 0))):=fun W h=>(h.cell (World.block_lt_of_cell? w ⟨g,off,none⟩ (hc 0 (by omega)))).trans (hc 0 (by omega))
   clear hc S;have V:=Zac t;rw[t];clear t;obtain⟨y,T⟩:∃ y,y=l.getD 0 0:=⟨_,rfl⟩;rw[<-T] at P d;clear T;rcases f with f | ⟨f,hx'⟩
   all_goals
    go_enter func122,ntmps122
    go_wp2_with fail
    refine(m.o _ _ _).mono ?_;rintro e C ⟨c,i,rfl,j,k,a⟩;have b:=Zac a;have aa:=P.o _ a;clear a
    go_wp2_with fail
    refine(x.o _ _ _ _ _ _ j k).mono ?_;rintro e M ⟨rfl,rfl⟩;go_wp2;go_ret;refine⟨ZbZ ?_,b.o⟩;rw[u.o,<-Bool.decide_and];exact decide_eq_decide.2 ⟨fun h=>d.o.2 ⟨V.o,h⟩,fun h=>(d.o.1 h).2⟩
  ·have hq:((l.length:Int) == 1)=false:=beq_eq_false_iff_ne.2 (by omega)
   have L:Hid (decide (0<=kind∧kind<6∧ZbH kind l)=false):=decide_eq_false (fun h=>t (d.o.1 h).1)
   clear t;rcases f with f | ⟨f,hx'⟩
   all_goals
    go_enter func122,ntmps122
    go_wp2_with fail
    refine(m.o _ _ _).mono ?_;rintro e C ⟨c,i,rfl,j,k,a⟩;have b:=Zac a;clear a;go_wp2;go_ret;exact⟨ZbZ (u.o.trans L.o).symm,b.o⟩
 ·have e0:(kind == 0)=false:=beq_eq_false_iff_ne.2 (by omega)
  have e1:(kind == 1)=false:=beq_eq_false_iff_ne.2 (by omega)
  by_cases I:kind=2∨kind=3
  ·have d:=Zac (Zxf I l)
   have f:((kind == 2)=true)∨((kind == 2)=false∧(kind == 3)=true):=by
    rcases I with rfl | rfl
    ·exact .inl rfl
    ·exact .inr ⟨rfl,rfl⟩
   have x:=Zac (fun c i W D E K=>ZrN v l c i W D E K)
   clear B I J;rcases f with f | ⟨f,hx'⟩
   all_goals
    go_enter func122,ntmps122
    go_wp2_with fail
    refine(m.o _ _ _).mono ?_;rintro e C ⟨c,i,rfl,j,k,a⟩;have b:=Zac a;clear a
    go_wp2_with fail
    refine(x.o _ _ _ (H.o _ b.o) j k).mono ?_;rintro e M ⟨rfl,rfl⟩;go_wp2;go_ret;refine⟨ZbZ ?_,b.o⟩;rw[u.o,<-Bool.decide_and];exact decide_eq_decide.2 d.o.symm
  ·have e2:(kind == 2)=false:=beq_eq_false_iff_ne.2 (by omega)
   have e3:(kind == 3)=false:=beq_eq_false_iff_ne.2 (by omega)
   have x:=Zac (fun lo c i W D E K=>ZpS v l lo c i W D E K)
   clear B I J;by_cases z:kind=4
   ·have Z:(kind == 4)=true:=beq_iff_eq.2 z
    have d:Hid (Zdh (-1099511627776) l↔(0<=kind∧kind<6∧ZbH kind l)):=by rw[z];exact(ZuL l).symm
    clear z
    go_enter func122,ntmps122
    go_wp2_with fail
    refine(m.o _ _ _).mono ?_;rintro e C ⟨c,i,rfl,j,k,a⟩;have b:=Zac a;clear a
    go_wp2_with fail
    refine(x.o _ _ _ _ (H.o _ b.o) j k).mono ?_;rintro e M ⟨rfl,A⟩;have F:=Zac (b.o.trans (A.mono b.o.size));clear A;go_wp2;go_ret;refine⟨ZbZ ?_,F.o⟩;rw[u.o];exact decide_eq_decide.2 d.o
   ·have Z:(kind == 4)=false:=beq_eq_false_iff_ne.2 z
    by_cases G:kind=5
    ·have U:(kind == 5)=true:=beq_iff_eq.2 G
     have d:Hid (Zdh 0 l↔(0<=kind∧kind<6∧ZbH kind l)):=by rw[G];exact(ZrO l).symm
     clear z G
     go_enter func122,ntmps122
     go_wp2_with fail
     refine(m.o _ _ _).mono ?_;rintro e C ⟨X,b1,rfl,_,_,a⟩;have b:=Zac a;clear a
     go_wp2_with fail
     refine(m.o _ _ _).mono ?_;rintro e M ⟨c,i,rfl,j,k,A⟩;have F:=Zac (b.o.trans (A.mono b.o.size));clear A
     go_wp2_with fail
     refine(x.o _ _ _ _ (H.o _ F.o) j k).mono ?_;rintro e W3 ⟨rfl,Q⟩;have Y:=Zac (F.o.trans (Q.mono F.o.size));clear Q;go_wp2;go_ret;refine⟨ZbZ ?_,Y.o⟩;rw[u.o];exact decide_eq_decide.2 d.o
    ·have U:(kind == 5)=false:=beq_eq_false_iff_ne.2 G
     have L:Hid (decide (0<=kind∧kind<6∧ZbH kind l)=false):=decide_eq_false (fun h=>by
      have n0:kind≠0:=beq_eq_false_iff_ne.1 e0;have n1:kind≠1:=beq_eq_false_iff_ne.1 e1;have n2:kind≠2:=beq_eq_false_iff_ne.1 e2;have n3:kind≠3:=beq_eq_false_iff_ne.1 e3
      omega)
     clear z G
     go_enter func122,ntmps122
     go_wp2_with fail
     refine(m.o _ _ _).mono ?_;rintro e C ⟨X,b1,rfl,_,_,a⟩;have b:=Zac a;clear a;go_wp2;go_ret;exact⟨ZbZ (u.o.trans L.o).symm,b.o⟩
theorem Zxg (kind:Int) (l:List Int) (a:Bool) (g:Int):ZcD ⟨kind,l,a,g⟩↔(a=false->g=0)∧(0<=g∧g<=2)∧(0<=kind∧kind<6∧ZbH kind l):=
 ⟨fun h=>⟨h.2.2.1,⟨h.1,h.2.1⟩,h.2.2.2.1,h.2.2.2.2.1,h.2.2.2.2.2⟩,fun h=>⟨h.2.1.1,h.2.1.2,h.1,h.2.2.1,h.2.2.2.1,h.2.2.2.2⟩⟩
theorem Zol (v:Value) (s:St) (w:World) (T:StV w v s):
 Calls prog 82 #[v] w fun e w'=>e=.returned (.bool (decide (ZcD s)))∧Below w.heap.size w w':=by
 obtain⟨J,rfl,E,-,-⟩:=T;obtain⟨kind,l,f,g⟩:=s;simp only at E ⊢;have H:=Zac (fun p q W=>ZcJ p q W)
 have I:=Zac (fun n l2 Z M X W U V=>ZgG n l2 Z M X W U V)
 have K:Hid (∀ W,Below w.heap.size w W->Calls prog 122 #[.int .i64 kind,J] W fun e w'=>e=.returned (.bool (decide (0<=kind∧kind<6∧ZbH kind l)))∧Below W.heap.size W w'):=fun W h=>Zms kind J l W (E.below h zL)
 have t:=Zac (Zxg kind l f g);obtain⟨R,B⟩:∃ R,R=decide (ZcD ⟨kind,l,f,g⟩):=⟨_,rfl⟩;rw[<-B];have A:=Zac B;have j:Hid (∀ x,Below w.heap.size w (w.alloc x)):=fun x=>(Below.refl _ _).alloc zL x
 clear B E;by_cases u:f=false∧g≠0
 ·obtain⟨rfl,D⟩:=u
  have hq:(g != 0)=true:=bne_iff_ne.2 D;have O:Hid (decide (ZcD ⟨kind,l,false,g⟩)=false):=decide_eq_false (fun h=>D ((t.o.1 h).1 rfl))
  clear D
  go_enter func82,ntmps82
  go_wp2;go_ret;exact⟨ZbZ (A.o.trans O.o).symm,j.o _⟩
 ·have c:((g != 0)=false)∨((g != 0)=true∧f=true):=by
   by_cases d:g=0
   ·exact .inl (bne_eq_false_iff_eq.2 d)
   ·cases f
    ·exact absurd ⟨rfl,d⟩ u
    ·exact .inr ⟨bne_iff_ne.2 d,rfl⟩
  have N:Hid (f=false->g=0):=fun h=>by
   by_cases d:g=0
   ·exact d
   ·exact absurd ⟨h,d⟩ u
  clear u;by_cases i:0<=g∧g<=2
  ·have y:=Zac (decide_eq_true i)
   have L:=Zac i;clear i
   have F:Hid (decide (0<=kind∧kind<6∧ZbH kind l)=R):=by
    rw[A.o];exact decide_eq_decide.2 ⟨fun h=>t.o.2 ⟨N.o,L.o,h⟩,fun h=>(t.o.1 h).2.2⟩
   rcases c with c | ⟨c,rfl⟩
   all_goals
    go_enter func82,ntmps82
    go_wp2_with fail
    refine(H.o _ _ _).mono ?_;rintro e k ⟨P,b1,rfl,z,C,b⟩;have a:=(b.block w.heap.size (by simp)).trans (heap_alloc_new w _)
    have q0:=cell_of_row k w.heap.size 0 _ _ _ a;have q1:=cell_of_row k w.heap.size 1 _ _ _ a;have Y:=cell_of_row k w.heap.size 3 _ _ _ a;have m:=Zac ((j.o _).trans (b.mono (j.o _).size));clear b a
    go_wp2_with fail
    refine(I.o _ _ _ _ _ _ z C).mono ?_;rintro e Q ⟨rfl,rfl⟩;rw[y.o]
    go_wp2_with fail
    refine(K.o _ m.o).mono ?_;rintro e W3 ⟨rfl,G⟩;rw[F.o];have S:=Zac (m.o.trans (G.mono m.o.size));clear G;go_wp2;go_ret;exact⟨rfl,S.o⟩
  ·have y:=Zac (decide_eq_false i)
   have F:Hid (R=false):=A.o.trans (decide_eq_false fun h=>i (t.o.1 h).2.1)
   clear i;rcases c with c | ⟨c,rfl⟩
   all_goals
    go_enter func82,ntmps82
    go_wp2_with fail
    refine(H.o _ _ _).mono ?_;rintro e k ⟨P,b1,rfl,z,C,b⟩;have a:=(b.block w.heap.size (by simp)).trans (heap_alloc_new w _)
    have Y:=cell_of_row k w.heap.size 3 _ _ _ a;have m:=Zac ((j.o _).trans (b.mono (j.o _).size));clear b a
    go_wp2_with fail
    refine(I.o _ _ _ _ _ _ z C).mono ?_;rintro e Q ⟨rfl,rfl⟩;rw[y.o];go_wp2;go_ret;exact⟨ZbZ F.o.symm,m.o⟩
theorem Zom (o:Opn) (w:World):
 Calls prog 80 #[opV o] w fun e w'=>e=.returned (.bool (decide (Zdy o)))∧Below w.heap.size w w':=by
 obtain⟨c,a,b⟩:=o;have M:=Zac (fun p q W=>ZcJ p q W)
 have C:=Zac (fun n l2 h2 E N W T V=>ZgG n l2 h2 E N W T V)
 have j:Hid (Zdy ⟨c,a,b⟩↔(0<=c∧c<=10)∧(-1099511627776<=a∧a<=1099511627776)∧(-1099511627776<=b∧b<=1099511627776)):=
  ⟨fun h=>⟨⟨h.1,h.2.1⟩,⟨h.2.2.1,h.2.2.2.1⟩,h.2.2.2.2⟩,fun h=>⟨h.1.1,h.1.2,h.2.1.1,h.2.1.2,h.2.2⟩⟩
 obtain⟨R,y⟩:∃ R,R=decide (Zdy ⟨c,a,b⟩):=⟨_,rfl⟩;rw[<-y];have X:=Zac y;have G:Hid (∀ x,Below w.heap.size w (w.alloc x)):=fun x=>(Below.refl _ _).alloc zL x
 clear y
 have go:∀ k l A,Hid (decide (0<=c∧c<=10)=k)->Hid (decide (-1099511627776<=a∧a<=1099511627776)=l)->Hid (decide (-1099511627776<=b∧b<=1099511627776)=A)->Hid ((k && l && A)=R)->
  Calls prog 80 #[.agg #[.int .i64 c,.int .i64 a,.int .i64 b]] w fun e w'=>e=.returned (.bool R)∧Below w.heap.size w w':=by
  intro k l A P Y U D
  go_enter func80,ntmps80
  go_wp2_with fail
  refine(M.o _ _ _).mono ?_;rintro e I ⟨S,b1,rfl,f,g,t⟩;have L:=Zac ((G.o _).trans (t.mono (G.o _).size));have m:=Zac ((t.block w.heap.size (by simp)).trans (heap_alloc_new w _))
  have u:=Zac f;have B:=Zac g;clear t f g
  go_wp2_with fail
  refine(M.o _ _ _).mono ?_;rintro e v ⟨E,N,rfl,O,K,d⟩;have i:=(d.block w.heap.size (Array.getElem?_eq_some_iff.1 m.o).1).trans m.o;have q0:=cell_of_row v w.heap.size 0 _ _ _ i;have q1:=cell_of_row v w.heap.size 1 _ _ _ i;have q2:=cell_of_row v w.heap.size 2 _ _ _ i;have f:=(d.cell (World.block_lt_of_cell? I ⟨S,0,none⟩ u.o)).trans u.o;have g:=(d.cell (World.block_lt_of_cell? I ⟨b1,0,none⟩ B.o)).trans B.o;have z:=Zac (L.o.trans (d.mono L.o.size));have Z:=Zac f;have Q:=Zac g;have F:=Zac O;have J:=Zac K;clear d i m u B f g O K
  go_wp2_with fail
  refine(C.o _ _ _ _ _ _ Z.o Q.o).mono ?_;rintro e H ⟨rfl,rfl⟩;rw[P.o]
  cases k
  ·go_wp2
   go_ret;exact⟨ZbZ (by rw[<-D.o];rfl),z.o⟩
  ·go_wp2_with fail
   refine(C.o _ _ _ _ _ _ F.o J.o).mono ?_;rintro e H ⟨rfl,rfl⟩;rw[Y.o]
   cases l
   ·go_wp2
    go_ret;exact⟨ZbZ (by rw[<-D.o];rfl),z.o⟩
   ·go_wp2_with fail
    refine(C.o _ _ _ _ _ _ F.o J.o).mono ?_;rintro e H ⟨rfl,rfl⟩;rw[U.o];go_wp2;go_ret;exact⟨ZbZ (by rw[<-D.o];rfl),z.o⟩
 refine go _ _ _ rfl rfl rfl (Zac ?_);rw[X.o,<-Bool.decide_and,<-Bool.decide_and];exact decide_eq_decide.2 ⟨fun h=>j.o.2 ⟨h.1.1,h.1.2,h.2⟩,fun h=>⟨⟨(j.o.1 h).1,(j.o.1 h).2.1⟩,(j.o.1 h).2.2⟩⟩
theorem Zzr (v:Value) (s:St) (w:World) (t:StV w v s) (f:s.L.length<=1000000):
 Calls prog 81 #[v] w fun e w'=>∃ vl',e=.returned (.agg #[.int .i64 s.kind,vl',.bool s.shut,.int .i64 s.eng])∧ZaB w' w.heap.size vl' s.L∧Below w.heap.size w w':=by
 obtain⟨m,rfl,i,-,-⟩:=t;obtain⟨kind,l,p,g⟩:=s;simp only at i f ⊢;have B:Hid (∀ W,Below w.heap.size w W->Calls prog 39 #[m] W fun e w'=>∃ v',e=.returned v'∧ZaB w' W.heap.size v' l∧Below W.heap.size W w'):=fun W h=>ZiH m l W (i.below h zL) f
 have c:Hid (∀ x y,Below w.heap.size w ((w.alloc x).alloc y)):=fun x y=>((Below.refl _ _).alloc zL x).alloc (by simp) y
 clear i f
 go_enter func81,ntmps81
 go_wp2_with fail
 refine(B.o _ (c.o _ _)).mono ?_;rintro e k ⟨u,rfl,j,d⟩;have a:Zrc k w.heap.size _ _:=(Zrc.made w _ _).below d (by simp)
 have F:=(a.s 0).1;have M:=(a.s 1).1;have J:=(a.s 2).1;have K:=(a.s 3).1;have E:=(a.s 1).2;have q:=(a.r 0).1;have n:=(a.r 1).1;have C:=(a.r 2).1;have z:=(a.r 3).1;have H:=(a.r 0).2;have I:=(a.r 1).2;have N:=(a.r 2).2;have G:=(a.r 3).2;have A:=Zac ((c.o _ _).trans (d.mono (c.o _ _).size))
 have b:ZaB k (w.heap.size+1+1) u l:=by
  have e:∀ x y,((w.alloc x).alloc y).heap.size=w.heap.size+1+1:=fun x y=>by simp
  rwa [e] at j
 have D:=Zac b;obtain⟨ao,cap,rfl⟩:=b.shape;clear d a j b;go_wp2;refine bodyPost_ret (v:=.agg #[.int .i64 kind,.slice ao l.length cap,.bool p,.int .i64 g]) (by simp[results,Tryz.results81,go_sem,q,n,C,z]) rfl ?_
 exact⟨_,rfl,(D.o.five w.heap.size (w.heap.size+1) (by omega) (by omega) _ _ _ _ _).mono (by omega),Zwn A.o w.heap.size (w.heap.size+1) zL (by omega) _ _ _ _ _⟩
open Go.RowKit Go.ChangeShapes
theorem Zon:prog.cellsOf 52=3:=by kernel_rfl
section
variable {H:Type} {enc:TypeId × Value->H} {w:World} {base fuel:Nat} {held:Bool}
theorem ZhO {cs:List Value} {x:DataW H × List MemPlace} (h:DataW.trod enc prog w base (fun _=>true) held fuel 52 cs=some x):
 ∃ (o:Opn),cs=[.int .i64 o.code,.int .i64 o.a,.int .i64 o.b]∧ZAx o:=by
 obtain⟨xs,n,_,_,j,p,c⟩:=DataW.trod_struct underlying52 h;rw[Zon] at j
 match xs,p,cs,j with
 | [y0,y1,y2],_,[c0,c1,c2],_=>
  have d:=c 0 _ rfl;have g:=c 1 _ rfl;have e:=c 2 _ rfl;simp[ZkK] at d g e;obtain⟨k,l,_,t⟩:=DataW.trod_int underlying3 d;obtain⟨a,f,_,q⟩:=DataW.trod_int underlying3 g;obtain⟨b,i,_,m⟩:=DataW.trod_int underlying3 e;simp only [List.cons.injEq,and_true] at l f i;subst l f i;exact⟨⟨k,a,b⟩,rfl,ZbF t,ZbF q,ZbF m⟩
end
theorem Zxh {s:St} (h:ZcD s):∀ x ∈ s.L,I64 x:=by
 have f:=h.2.2.2.1;have g:=h.2.2.2.2.1;have a:=h.2.2.2.2.2;by_cases c:s.kind=4
 ·rw[c,Zeu] at a
  exact Zdw (by decide) (by decide) a.2
 ·by_cases b:s.kind=5
  ·rw[b,ZdI] at a
   exact Zdw (by decide) (by decide) a.2
  ·have e:=(Zcb _).1 ((ZaU c b).1 a).2.2
   intro x d;have:=e x d;exact Zai (by omega) (by omega)
theorem ZrP {s:St} (h:ZcD s):s.L.length<=128:=by
 have d:=h.2.2.2.1;have e:=h.2.2.2.2.1;have a:=h.2.2.2.2.2;by_cases c:s.kind=4
 ·rw[c,Zeu] at a
  exact a.1
 ·by_cases b:s.kind=5
  ·rw[b,ZdI] at a
   exact a.1
  ·have:=((ZaU c b).1 a).1
   omega
theorem ZuM {s:St} (h:ZcD s) (b:s.shut=false) (o:Opn) (c:o.code=10):Zcx s o=(⟨s.kind,s.L,true,if 0<=o.a∧o.a<=2 then o.a else s.eng⟩,0):=by
 unfold Zcx;rw[if_neg (fun e=>e h),if_neg (by simp[b]),if_pos c]
theorem Znc {s:St} (h:ZcD s) (a:s.shut=false) (o:Opn) (b:o.code≠10):Zcx s o=if s.kind<=1 then Zhn s o else if s.kind<=3 then Zcr s o else if s.kind=4 then Zcd s o else ZaZ s o:=by
 unfold Zcx;rw[if_neg (fun e=>e h),if_neg (by simp[a]),if_neg b]
theorem ZrQ (s:St) (o:Opn):(Zcd s o).1.kind=s.kind∧(Zcd s o).1.shut=s.shut∧(Zcd s o).1.eng=s.eng:=by
 rw[Zjh];exact Ziq s o
theorem ZrR {r:St × Int} {k g:Int} {s:Bool} (h:r.1.kind=k∧r.1.shut=s∧r.1.eng=g):r=(⟨k,r.1.L,s,g⟩,r.2):=by
 obtain⟨⟨f,i,d,j⟩,e⟩:=r;obtain⟨c,a,b⟩:=h;simp only at c a b;rw[c,a,b]
theorem ZAM (s:St) (v:Value) (o:Opn) (B:Nat) (w:World) (j:ZaB w B v s.L) (n:B<=w.heap.size) (d:ZcD s):
 Calls prog 83 #[.agg #[.int .i64 s.kind,v,.bool s.shut,.int .i64 s.eng],opV o] w fun e w'=>Did B w v (Zcx s o) e w':=by
 obtain⟨kind,l,y,g⟩:=s
 cases y with
 | true=>
  rw[Zud d rfl];exact ZrK kind g l v o B w j
 | false=>
  have z:0<=kind:=d.2.2.2.1;have A:kind<6:=d.2.2.2.2.1;have t:=d.2.2.2.2.2;obtain⟨c,a,b⟩:=o;by_cases h:c=10
  ·rw[ZuM d rfl _ h]
   subst h;exact ZrL kind g a b l v B w j
  ·rw[Znc d rfl _ h]
   by_cases m:kind<=1
   ·rw[if_pos m]
    obtain⟨f,i,x⟩:=ZCh d m;exact ZuK kind g (by omega) l v ⟨c,a,b⟩ h B w j f i x
   ·rw[if_neg m]
    by_cases p:kind<=3
    ·rw[if_pos p,ZrR (Zkm ⟨kind,l,false,g⟩ ⟨c,a,b⟩)]
     exact ZrM kind g (by omega) l _ _ v c a b h B w j (fun W f i=>Zzn kind (by omega) v l ⟨c,a,b⟩ false g B W f i (Zxh d) (ZCi d p)) n
    ·rw[if_neg p]
     by_cases q:kind=4
     ·rw[if_pos q,ZrR (ZrQ ⟨kind,l,false,g⟩ ⟨c,a,b⟩)]
      subst q;have k:=(Zeu l).1 t;exact ZpQ 4 g rfl l _ _ v c a b h B w j (fun W f i=>ZuJ v l ⟨c,a,b⟩ false g B W f i k.2 k.1) n
     ·rw[if_neg q,ZrR (ZgQ ⟨kind,l,false,g⟩ ⟨c,a,b⟩)]
      have u:kind=5:=by omega
      subst u;have k:=(ZdI l).1 t;exact Zok 5 g rfl l _ _ v c a b h B w j (fun W f i=>ZrJ v l ⟨c,a,b⟩ false g B W f i k.2 k.1) n
theorem Zzs (v:Value) (s:St) (o:Opn) (w:World) (hs:StV w v s) (X:s.L.length<=1000000):
 Calls prog 42 #[v,opV o] w fun e w'=>Zir w (lval v) s.L (Zcx s o) e w':=by
 obtain⟨vl,rfl,J,E,G⟩:=hs;rw[ZsX];obtain⟨kind,l,f,g⟩:=s;simp only at J E G X ⊢;have P:=Zac J.i64;have ad:Hid (∀ W,Below w.heap.size w W->Calls prog 81 #[.agg #[.int .i64 kind,vl,.bool f,.int .i64 g]] W fun e w'=>∃ vl',e=.returned (.agg #[.int .i64 kind,vl',.bool f,.int .i64 g])∧ZaB w' W.heap.size vl' l∧Below W.heap.size W w'):=fun W h=>Zzr _ ⟨kind,l,f,g⟩ W ⟨vl,rfl,J.below h zL,E,G⟩ X
 have ah:Hid (∀ j W,RdI W j l->Calls prog 82 #[.agg #[.int .i64 kind,j,.bool f,.int .i64 g]] W fun e w'=>e=.returned (.bool (decide (ZcD ⟨kind,l,f,g⟩)))∧Below W.heap.size W w'):=fun j W h=>Zol _ ⟨kind,l,f,g⟩ W ⟨j,rfl,h,E,G⟩
 have C:Hid (∀ x y z,Below w.heap.size w (((w.alloc x).alloc y).alloc z)):=fun x y z=>(ZbA w x y z).1
 have I:Hid (∀ x y z,(((w.alloc x).alloc y).alloc z).heap.size=w.heap.size+1+1+1):=fun x y z=>ZCg w x y z
 have ai:=Zac E;have al:=Zac G;obtain⟨q,a,b⟩:=o;clear J E G X;show Calls prog _ #[_,.agg #[.int .i64 q,.int .i64 a,.int .i64 b]] w _;by_cases t:ZcD ⟨kind,l,f,g⟩
 ·have R:=Zac (decide_eq_true t)
  have ae:Hid (∀ j B W,ZaB W B j l->B<=W.heap.size->Calls prog 83 #[.agg #[.int .i64 kind,j,.bool f,.int .i64 g],.agg #[.int .i64 q,.int .i64 a,.int .i64 b]] W fun e w'=>Did B W j (Zcx ⟨kind,l,f,g⟩ ⟨q,a,b⟩) e w'):=fun j B W h1 h2=>ZAM ⟨kind,l,f,g⟩ j ⟨q,a,b⟩ B W h1 h2 t
  have A:=ZkC t ⟨q,a,b⟩;have af:=Zac (Zxh A);have ab:Hid (I64 (Zcx ⟨kind,l,f,g⟩ ⟨q,a,b⟩).1.kind):=Zai (by have:=A.2.2.2.1;omega) (by have:=A.2.2.2.2.1;omega)
  have ac:Hid (I64 (Zcx ⟨kind,l,f,g⟩ ⟨q,a,b⟩).1.eng):=Zai (by have:=A.1;omega) (by have:=A.2.1;omega)
  obtain⟨⟨⟨k',L',s',g'⟩,n'⟩,Y⟩:∃ r,r=Zcx ⟨kind,l,f,g⟩ ⟨q,a,b⟩:=⟨_,rfl⟩;rw[<-Y] at ae af ab ac ⊢;clear t A Y
  go_enter func42,ntmps42
  go_wp2_with fail
  refine(ad.o _ (C.o _ _ _)).mono ?_;rintro e d ⟨j,rfl,p,n⟩;rw[I.o] at p;have F:=Zac ((Zec.made w _ _ _).below n (by simp))
  have u:=Zac ((C.o _ _ _).trans (n.mono (C.o _ _ _).size));have H:=Zac p;have O:=n.size;rw[I.o] at O;obtain⟨ao,cap,rfl⟩:=p.shape;clear n p
  go_wp2_with fail
  refine(ah.o _ _ ((H.o.alloc _).rd P.o)).mono ?_;rintro e m ⟨rfl,i⟩;rw[R.o];have T:=Zac ((u.o.alloc u.o.size _).trans (i.mono (by have:=u.o.size;simp;omega)))
  have D:=Zac ((H.o.alloc _).below i zL);have am:=i.size;have c:=(F.o.below ((Below.refl d.heap.size d).alloc zL _) (by omega)).below i (by simp;omega)
  have k:=(i.block d.heap.size (by simp)).trans (heap_alloc_new d _)
  have an:=Zac c;obtain⟨p0,-⟩:=c.o 0;obtain⟨p1,-⟩:=c.o 1;obtain⟨p2,-⟩:=c.o 2;have q0:=cell_of_row m d.heap.size 0 _ _ _ k;have q1:=cell_of_row m d.heap.size 1 _ _ _ k;have q2:=cell_of_row m d.heap.size 2 _ _ _ k;have q3:=cell_of_row m d.heap.size 3 _ _ _ k;have ag:w.heap.size+1+1+1<=m.heap.size:=by simp at am;omega
  clear i c k F
  go_wp2_with fail
  refine(ae.o _ _ _ D.o ag).mono ?_;rintro e W3 ⟨v3,rfl,V,Z⟩;have U:=Z.below D.o ag;have c:=an.o.below U zL;obtain⟨K,t0⟩:=c.r 0;obtain⟨Q,t1⟩:=c.r 1;obtain⟨N,t2⟩:=c.r 2;obtain⟨S,t3⟩:=c.r 3;have ap:=Zac (T.o.trans (U.mono (by omega)))
  have aa:=Zac V;obtain⟨aj,ak,rfl⟩:=V.shape;clear U Z c V;go_wp2;refine bodyPost_ret (v:=.tuple #[.agg #[.int .i64 k',.slice aj L'.length ak,.bool s',.int .i64 g'],.int .i64 n']) (by simp[results,Tryz.results42,go_sem,K,Q,N,S]) rfl ?_
  refine Zir.fresh ((aa.o.four (w.heap.size+1+1) (by omega) _ _ _ _).rd af.o) ab.o ac.o n' (fun b M=>?_) (ZcP ap.o (w.heap.size+1+1) (by omega) _ _ _ _)
  have:=aa.o.fresh b M;omega
 ·have R:=Zac (decide_eq_false t)
  have HR:=Zac (ZkB t ⟨q,a,b⟩);rw[HR.o];clear t
  go_enter func42,ntmps42
  go_wp2_with fail
  refine(ad.o _ (C.o _ _ _)).mono ?_;rintro e d ⟨j,rfl,p,n⟩;rw[I.o] at p;have F:=Zac ((Zec.made w _ _ _).below n (by simp))
  have u:=Zac ((C.o _ _ _).trans (n.mono (C.o _ _ _).size));have H:=Zac p;have O:=n.size;rw[I.o] at O;obtain⟨ao,cap,rfl⟩:=p.shape;clear n p
  go_wp2_with fail
  refine(ah.o _ _ ((H.o.alloc _).rd P.o)).mono ?_;rintro e m ⟨rfl,i⟩;rw[R.o];have T:=Zac ((u.o.alloc u.o.size _).trans (i.mono (by have:=u.o.size;simp;omega)))
  have D:=Zac ((H.o.alloc _).below i zL);have c:=(F.o.below ((Below.refl d.heap.size d).alloc zL _) (by omega)).below i (by simp;omega)
  have k:=(i.block d.heap.size (by simp)).trans (heap_alloc_new d _)
  obtain⟨K,t0⟩:=c.r 0;obtain⟨Q,t1⟩:=c.r 1;obtain⟨N,t2⟩:=c.r 2;obtain⟨S,t3⟩:=c.r 3;have q0:=cell_of_row m d.heap.size 0 _ _ _ k;have q1:=cell_of_row m d.heap.size 1 _ _ _ k;have q2:=cell_of_row m d.heap.size 2 _ _ _ k;have q3:=cell_of_row m d.heap.size 3 _ _ _ k;clear i c k F;go_wp2;refine bodyPost_ret (v:=.tuple #[.agg #[.int .i64 kind,.slice ao l.length cap,.bool f,.int .i64 g],.int .i64 0]) (by simp[results,Tryz.results42,go_sem,K,Q,N,S]) rfl ?_
  refine Zir.fresh ((D.o.four (w.heap.size+1+1) (by omega) _ _ _ _).rd P.o) ai.o al.o 0 (fun b M=>?_) (ZcP T.o (w.heap.size+1+1) (by omega) _ _ _ _)
  have:=D.o.fresh b M;omega
theorem ZuN (s:St) (o:Opn):I64 (Zcx s o).2:=by
 by_cases h:s.kind≠4∨s.shut=true∨o.code=10∨o.code=5∨o.code=6∨o.code=7∨(0<=o.a∧o.a<=255)
 ·rw[ZyT s o h]
  exact Zwp s o
 ·by_cases d:ZcD s
  ·have b:s.kind=4:=by
    by_cases b:s.kind=4
    ·exact b
    ·exact absurd (.inl b) h
   have c:s.shut=false:=by
    cases c:s.shut
    ·rfl
    ·exact absurd (.inr (.inl c)) h
   have f:o.code≠10:=fun e=>h (.inr (.inr (.inl e)))
   have g:¬ (0<=o.a∧o.a<=255):=fun e=>h (.inr (.inr (.inr (.inr (.inr (.inr e))))))
   rw[Znc d c o f,if_neg (by omega),if_neg (by omega),if_pos b]
   unfold Zcd;rw[if_pos (by omega)]
   exact(Zai (by decide) (by decide):I64 (-1))
  ·rw[ZkB d]
   exact(Zai (by decide) (by decide):I64 0)
theorem ZAN (n a b:Int) (B:Bool) (f:B=decide (a<=n∧n<=b)) (w:World):
 Calls prog 79 #[.int .i64 n,.int .i64 a,.int .i64 b] w fun e w'=>e=.returned (.bool B)∧w'=w:=by
 have c:=ZZ f;clear f;by_cases i:a<=n
 ·by_cases g:n<=b
  ·have d:Hid (true=B):=ZZ (by rw[c.o,decide_eq_true ⟨i,g⟩])
   clear c
   go_enter func79,ntmps79
   go_wp2;go_ret;exact⟨ZbZ d.o,rfl⟩
  ·have d:Hid (false=B):=ZZ (by rw[c.o,decide_eq_false fun h=>g h.2])
   clear c
   go_enter func79,ntmps79
   go_wp2;go_ret;exact⟨ZbZ d.o,rfl⟩
 ·have d:Hid (false=B):=ZZ (by rw[c.o,decide_eq_false fun h=>i h.1])
  clear c
  go_enter func79,ntmps79
  go_wp2;go_ret;exact⟨ZbZ d.o,rfl⟩
theorem ZrS (r:Rec):ZaA r↔(0<=r.idx∧r.idx<=4611686018427387903)∧(0<=r.proc∧r.proc<=64)∧(0<=r.seq∧r.seq<=4611686018427387903)∧Zdy r.op∧(-1125899906842624<=r.resp∧r.resp<=1125899906842624):=by
 unfold ZaA;constructor
 ·rintro⟨b,a,h,f,i,c,g,e,d⟩
  exact⟨⟨a,by omega⟩,⟨c,g⟩,⟨f,by omega⟩,b,e,d⟩
 ·rintro⟨⟨a,h⟩,⟨c,g⟩,⟨f,i⟩,b,e,d⟩
  exact⟨b,a,by omega,f,by omega,c,g,e,d⟩
theorem ZkY (r:Rec) (w:World):
 Calls prog 41 #[ZuH r] w fun e w'=>e=.returned (.bool (decide (ZaA r)))∧Below w.heap.size w w':=by
 obtain⟨B,A⟩:∃ B,B=decide (ZaA r):=⟨_,rfl⟩;rw[<-A];have f:=ZZ (ZrS r);have G:=ZZ (fun W=>Zom r.op W)
 have g:=ZZ A;clear A;obtain⟨idx,proc,seq,⟨D,a,b⟩,resp⟩:=r;show Calls prog _ #[.agg #[.int .i64 idx,.int .i64 proc,.int .i64 seq,.int .i64 D,.int .i64 a,.int .i64 b,.int .i64 resp]] w _;have m:Hid (∀ X,Below w.heap.size w (w.alloc X)):=fun X=>(Below.refl _ _).alloc zL X
 have F:Hid (∀ cs,Br (w.alloc (.cells cs 62)) w.heap.size cs):=fun cs=>heap_alloc_new w _
 have q:Hid (∀ W,Calls prog 80 #[.agg #[.int .i64 D,.int .i64 a,.int .i64 b]] W fun e w'=>e=.returned (.bool (decide (Zdy ⟨D,a,b⟩)))∧Below W.heap.size W w'):=G.o
 clear G;have c:=ZZ (fun n a b B A W=>ZAN n a b B A W)
 by_cases k:0<=idx∧idx<=4611686018427387903
 case neg=>
  have i:Hid (false=B):=ZZ (by rw[g.o,decide_eq_false fun h=>k (f.o.1 h).1])
  have I:=ZZ (decide_eq_false k).symm;clear g f k q
  go_enter func41,ntmps41
  go_wp2_with fail
  refine(c.o _ _ _ _ I.o _).mono ?_;rintro e d ⟨rfl,rfl⟩;go_wp2;go_ret;exact⟨ZbZ i.o,m.o _⟩
 have z:=ZZ (decide_eq_true k).symm;by_cases l:0<=proc∧proc<=64
 case neg=>
  have i:Hid (false=B):=ZZ (by rw[g.o,decide_eq_false fun h=>l (f.o.1 h).2.1])
  have v:=ZZ (decide_eq_false l).symm;clear g f k l q
  go_enter func41,ntmps41
  go_wp2_with fail
  refine(c.o _ _ _ _ z.o _).mono ?_;rintro e d ⟨rfl,rfl⟩
  go_wp2_with fail
  refine(c.o _ _ _ _ v.o _).mono ?_;rintro e d ⟨rfl,rfl⟩;go_wp2;go_ret;exact⟨ZbZ i.o,m.o _⟩
 have v:=ZZ (decide_eq_true l).symm;by_cases p:0<=seq∧seq<=4611686018427387903
 case neg=>
  have i:Hid (false=B):=ZZ (by rw[g.o,decide_eq_false fun h=>p (f.o.1 h).2.2.1])
  have x:=ZZ (decide_eq_false p).symm;clear g f k l p q
  go_enter func41,ntmps41
  go_wp2_with fail
  refine(c.o _ _ _ _ z.o _).mono ?_;rintro e d ⟨rfl,rfl⟩
  go_wp2_with fail
  refine(c.o _ _ _ _ v.o _).mono ?_;rintro e d ⟨rfl,rfl⟩
  go_wp2_with fail
  refine(c.o _ _ _ _ x.o _).mono ?_;rintro e d ⟨rfl,rfl⟩;go_wp2;go_ret;exact⟨ZbZ i.o,m.o _⟩
 have x:=ZZ (decide_eq_true p).symm;by_cases t:Zdy ⟨D,a,b⟩
 case neg=>
  have i:Hid (false=B):=ZZ (by rw[g.o,decide_eq_false fun h=>t (f.o.1 h).2.2.2.1])
  rw[decide_eq_false t] at q;clear g f k l p t
  go_enter func41,ntmps41
  go_wp2_with fail
  refine(c.o _ _ _ _ z.o _).mono ?_;rintro e d ⟨rfl,rfl⟩
  go_wp2_with fail
  refine(c.o _ _ _ _ v.o _).mono ?_;rintro e d ⟨rfl,rfl⟩
  go_wp2_with fail
  refine(c.o _ _ _ _ x.o _).mono ?_;rintro e d ⟨rfl,rfl⟩
  go_wp2_with fail
  refine(q.o _).mono ?_;rintro e H ⟨rfl,j⟩;have y:=ZZ ((m.o _).trans (j.mono (m.o _).size));clear j;go_wp2;go_ret;exact⟨ZbZ i.o,y.o⟩
 rw[decide_eq_true t] at q;by_cases u:-1125899906842624<=resp∧resp<=1125899906842624
 case neg=>
  have i:Hid (false=B):=ZZ (by rw[g.o,decide_eq_false fun h=>u (f.o.1 h).2.2.2.2])
  have E:=ZZ (decide_eq_false u).symm;clear g f k l p t u
  go_enter func41,ntmps41
  go_wp2_with fail
  refine(c.o _ _ _ _ z.o _).mono ?_;rintro e d ⟨rfl,rfl⟩
  go_wp2_with fail
  refine(c.o _ _ _ _ v.o _).mono ?_;rintro e d ⟨rfl,rfl⟩
  go_wp2_with fail
  refine(c.o _ _ _ _ x.o _).mono ?_;rintro e d ⟨rfl,rfl⟩
  go_wp2_with fail
  refine(q.o _).mono ?_;rintro e H ⟨rfl,j⟩;have C:=(F.o _).below j zL;have y:=ZZ ((m.o _).trans (j.mono (m.o _).size));obtain⟨K,-⟩:=C.cell 6;clear j C
  go_wp2_with fail
  refine(c.o _ _ _ _ E.o _).mono ?_;rintro e J ⟨rfl,rfl⟩;go_wp2;go_ret;exact⟨ZbZ i.o,y.o⟩
 have i:Hid (true=B):=ZZ (by rw[g.o,decide_eq_true (f.o.2 ⟨k,l,p,t,u⟩)])
 have E:=ZZ (decide_eq_true u).symm;clear g f k l p t u
 go_enter func41,ntmps41
 go_wp2_with fail
 refine(c.o _ _ _ _ z.o _).mono ?_;rintro e d ⟨rfl,rfl⟩
 go_wp2_with fail
 refine(c.o _ _ _ _ v.o _).mono ?_;rintro e d ⟨rfl,rfl⟩
 go_wp2_with fail
 refine(c.o _ _ _ _ x.o _).mono ?_;rintro e d ⟨rfl,rfl⟩
 go_wp2_with fail
 refine(q.o _).mono ?_;rintro e H ⟨rfl,j⟩;have C:=(F.o _).below j zL;have y:=ZZ ((m.o _).trans (j.mono (m.o _).size));obtain⟨K,-⟩:=C.cell 6;clear j C
 go_wp2_with fail
 refine(c.o _ _ _ _ E.o _).mono ?_;rintro e J ⟨rfl,rfl⟩;go_wp2;go_ret;exact⟨ZbZ i.o,y.o⟩
def ZkZ (w:World) (vl0 vt0:Value) (l:List Rec) (r:ZaW × Int) (e:Ending) (w':World):Prop:=
 ∃ vl vt,e=.returned (.tuple #[.agg #[.int .i64 r.1.idx,.int .i64 r.1.st.kind,vl,.bool r.1.st.shut,.int .i64 r.1.st.eng,vt],.int .i64 r.2])∧RdI w' vl r.1.st.L∧I64 r.1.st.kind∧I64 r.1.st.eng∧RdE w' vt r.1.tab∧I64 r.1.idx∧
  (vl=vl0∨∀ b,vl.ownBlock=some b->w.heap.size<=b)∧((l=[]∧vt=vt0)∨Zbt w' w.heap.size vt r.1.tab)∧Below w.heap.size w w'
def ZpT (w:World) (S:ZaW) (wr:World):Prop:=
 ∃ la lc ta tc,Bn wr w.heap.size #[.int .i64 S.idx,.int .i64 S.st.kind,.slice la S.st.L.length lc,.bool S.st.shut,.int .i64 S.st.eng,.slice ta S.tab.length tc]∧
  Bn wr (w.heap.size+1) #[.int .i64 0,.int .i64 0,.slice none 0 0,.bool false,.int .i64 0,.slice none 0 0]∧
  RdI wr (.slice la S.st.L.length lc) S.st.L∧(∀ b,(Value.slice la S.st.L.length lc).ownBlock=some b->w.heap.size+2<=b)∧
  Zbt wr (w.heap.size+2) (.slice ta S.tab.length tc) S.tab∧(∀ e ∈ S.tab,Zod e)∧I64 S.idx∧I64 S.st.kind∧I64 S.st.eng∧Below w.heap.size w wr
theorem ZaB.freshI {w:World} {B:Nat} {v:Value} {l:List Int} (h:ZaB w B v l):∀ b,v.ownBlock=some b->B<=b:=fun b a=>(World.ownsRow.lt h b a).1
theorem Zbt.butN {w w':World} {B R T:Nat} {v:Value} {l:List Ent} (h:Zbt w B v l) (i:But R T w w') (f:∀ b,v.ownBlock=some b->b≠R∧b≠T):Zbt w' B v l:=by
 rcases h.row with ⟨rfl,rfl⟩ | ⟨g,cap,cur,rfl,e,a,m,j,d,c,k⟩
 ·exact Zbt.nil _ _
 ·have:=f g rfl
  exact Zbt.ofRow rfl e ((i.block g a this.1 this.2).trans m) j d c k
theorem Zbt.but {w w':World} {B R T:Nat} {v:Value} {l:List Ent} (h:Zbt w B v l) (a:But R T w w') (c:R<B) (d:T<B):Zbt w' B v l:=
 h.butN a (fun b a=>by have:=h.fresh b a;omega)
theorem Zla {w W:World} {idx kind k:Int} {l:Bool} {v p:Value} {L:List Int} {a:List Ent} {d c:Option Addr} {f g:Nat}
 (m:Bn W w.heap.size #[.int .i64 idx,.int .i64 kind,v,.bool l,.int .i64 k,p]) (u:Bn W (w.heap.size+1) #[.int .i64 0,.int .i64 0,.slice none 0 0,.bool false,.int .i64 0,.slice none 0 0])
 (j:ZaB W (w.heap.size+2) (.slice d L.length f) L) (y:∀ n ∈ L,I64 n) (A:Zbt W (w.heap.size+2) (.slice c a.length g) a) (q:∀ e ∈ a,Zod e) (t:I64 idx) (B:I64 kind) (z:I64 k) (x:Below w.heap.size w W):
 ZpT w ⟨idx,⟨kind,L,l,k⟩,a⟩ ((W.setCell ⟨w.heap.size,2,none⟩ (.slice d L.length f)).setCell ⟨w.heap.size,5,none⟩ (.slice c a.length g)):=by
 have i:But w.heap.size w.heap.size W ((W.setCell ⟨w.heap.size,2,none⟩ (.slice d L.length f)).setCell ⟨w.heap.size,5,none⟩ (.slice c a.length g)):=((But.refl _ _ _).set _ _ (.inl rfl) _).set _ _ (.inl rfl) _;refine⟨d,f,c,g,(m.set 2 _).set 5 _,(u.other 2 _ (by omega)).other 5 _ (by omega),(j.rd y).but i (.inr fun b h=>?_),j.freshI,A.but i (by omega) (by omega),q,t,B,z,ZcQ x i (by have:=m.lt;omega) zL zL⟩
 have:=j.freshI b h;omega
theorem Zxi {s:St} (o:Opn) (h:s.L.length<=1000):(Zcx s o).1.L.length<=1000:=by
 by_cases a:ZcD s
 ·have:=(Zkr (ZkC a o)).2.1
  omega
 ·rw[ZkB a]
  exact h
theorem ZuO {s:ZaW} {l:List Rec} {q:Nat} (a:q<l.length):ZaQ s (l.drop q)=if(l.getD q Zaj).idx≠s.idx then(Zbl,15) else if ¬ ZaA (l.getD q Zaj) then(Zbl,1) else ZaQ (Zmm s (l.getD q Zaj)) (l.drop (q+1)):=by
 have e:l.drop q=l.getD q Zaj::l.drop (q+1):=by
  rw[List.drop_eq_getElem_cons a];simp[List.getD,a]
 rw[e,ZaQ]
def ZiN (W:World) (R Q:Nat) (k:Int) (v:Value) (sh:Bool) (g n:Int):World:=
 ((((W.setCell ⟨R,1,none⟩ (.int .i64 k)).setCell ⟨R,2,none⟩ v).setCell ⟨R,3,none⟩ (.bool sh)).setCell ⟨R,4,none⟩ (.int .i64 g)).setCell ⟨Q,6,none⟩ (.int .i64 n)
theorem Br.other {w:World} {b c:Nat} {cs:Array Value} (h:Br w b cs) (j:Nat) (x:Value) (a:b≠c):Br (w.setCell ⟨c,j,none⟩ x) b cs:=(Below.heap_setCell _ _ _ _ a).trans h
theorem ZrT (W:World) (R Q:Nat) (k:Int) (v:Value) (a:Bool) (g n:Int):But R Q W (ZiN W R Q k v a g n):=
 (((((But.refl R Q W).set _ _ (.inl rfl) _).set _ _ (.inl rfl) _).set _ _ (.inl rfl) _).set _ _ (.inl rfl) _).set _ _ (.inr rfl) _
theorem ZuP {W:World} {R Q:Nat} (j:R≠Q) {a f i e d b:Value} (h:Bn W R #[a,f,i,e,d,b]) (k:Int) (v:Value) (c:Bool) (g n:Int):Bn (ZiN W R Q k v c g n) R #[a,.int .i64 k,v,.bool c,.int .i64 g,b]:=
 ((((h.set 1 _).set 2 _).set 3 _).set 4 _).other 6 _ j
theorem ZuQ {W:World} {R Q:Nat} (a:Q≠R) {c f i e b d j:Value} (h:Br W Q #[c,f,i,e,b,d,j]) (k:Int) (v:Value) (l:Bool) (g n:Int):Br (ZiN W R Q k v l g n) Q #[c,f,i,e,b,d,.int .i64 n]:=
 ((((h.other 1 _ a).other 2 _ a).other 3 _ a).other 4 _ a).set 6 _
theorem ZrU {W:World} {R Q C:Nat} (a:C≠R) (b:C≠Q) {cs:Array Value} (h:Bn W C cs) (k:Int) (v:Value) (c:Bool) (g n:Int):Bn (ZiN W R Q k v c g n) C cs:=
 ((((h.other 1 _ a).other 2 _ a).other 3 _ a).other 4 _ a).other 6 _ b
theorem ZrV {w W:World} {idx kind j:Int} {k:Bool} {n:Value} {L:List Int} {a:List Ent} {d c:Option Addr} {f g:Nat}
 (l:Bn W w.heap.size #[.int .i64 idx,.int .i64 kind,.slice d L.length f,.bool k,.int .i64 j,n]) (t:Bn W (w.heap.size+1) #[.int .i64 0,.int .i64 0,.slice none 0 0,.bool false,.int .i64 0,.slice none 0 0])
 (u:RdI W (.slice d L.length f) L) (m:∀ b,(Value.slice d L.length f).ownBlock=some b->w.heap.size+2<=b) (y:Zbt W (w.heap.size+2) (.slice c a.length g) a) (p:∀ e ∈ a,Zod e) (q:I64 (idx+1)) (z:I64 kind) (x:I64 j) (v:Below w.heap.size w W):
 ZpT w ⟨idx+1,⟨kind,L,k,j⟩,a⟩ ((W.setCell ⟨w.heap.size,5,none⟩ (.slice c a.length g)).setCell ⟨w.heap.size,0,none⟩ (.int .i64 (idx+1))):=by
 have i:But w.heap.size w.heap.size W ((W.setCell ⟨w.heap.size,5,none⟩ (.slice c a.length g)).setCell ⟨w.heap.size,0,none⟩ (.int .i64 (idx+1))):=((But.refl _ _ _).set _ _ (.inl rfl) _).set _ _ (.inl rfl) _;refine⟨d,f,c,g,(l.set 5 _).set 0 _,(t.other 5 _ (by omega)).other 0 _ (by omega),u.but i (.inr fun b h=>?_),m,y.but i (by omega) (by omega),p,q,z,x,ZcQ v i (by have:=l.lt;omega) zL zL⟩
 have:=m b h;omega
theorem ZkZ.zero {w w':World} (c d:Value) (l:List Rec) (n:Int) (a:Below w.heap.size w w'):ZkZ w c d l (Zbl,n) (.returned (.tuple #[.agg #[.int .i64 0,.int .i64 0,.slice none 0 0,.bool false,.int .i64 0,.slice none 0 0],.int .i64 n])) w':=
 ⟨_,_,rfl,RdI.nil _,(Zai (by decide) (by decide):I64 0),(Zai (by decide) (by decide):I64 0),RdE.nil _,(Zai (by decide) (by decide):I64 0),.inr (fun b a=>by simp[Value.ownBlock] at a),.inr (Zbt.nil _ _),a⟩
theorem ZpU {P:ZaW->Prop} (aP:∀ S r,P S->ZaA r->P (Zmm S r)) (a4:∀ S,P S->S.tab.length<=1500) (idx kind:Int) (vl:Value) (O:Bool) (F:Int) (vt:Value) (s:ZaW) (vr:Value) (l:List Rec) (w:World) (hs:SnV w (.agg #[.int .i64 idx,.int .i64 kind,vl,.bool O,.int .i64 F,vt]) s) (hr:RdR w vr l) (bg:s.st.L.length<=1000) (bO:s.tab.length<=1000) (bU:l.length<=1000000000) (aV:P s):
 Calls prog 15 #[.agg #[.int .i64 idx,.int .i64 kind,vl,.bool O,.int .i64 F,vt],vr] w fun e w'=>ZkZ w vl vt l (ZaQ s l) e w':=by
 obtain⟨vl',bZ,ab,hl,hk,A,ht,hi⟩:=hs
 injection ab with ab
 injection ab with ab
 simp only [List.cons.injEq,Value.int.injEq,Value.bool.injEq,and_true,true_and] at ab;obtain⟨rfl,rfl,rfl,rfl,rfl,rfl⟩:=ab;obtain⟨la,lc,bx,-⟩:=id hl;obtain⟨ta,tc,bw⟩:=ht.shape;subst bx bw;obtain⟨ra,rc,rfl,br,bz,-,bb,aZ⟩:=hr;have bo:=ZZ aP;have bD:=ZZ a4;clear aP a4;have a8:=ZZ aZ;have bc:=ZZ bb;obtain⟨idx,⟨kind,L,O,F⟩,ac⟩:=s
 dsimp only at *
 have a6:=ZZ aV;clear aV;obtain⟨Q,aE⟩:∃ Q,Q=ZaQ ⟨idx,⟨kind,L,O,F⟩,ac⟩ l:=⟨_,rfl⟩;rw[<-aE];have aQ:=ZZ aE;have bj:Hid (∀ (S:ZaW) (q:Nat),q<l.length->ZaQ S (l.drop q)=if(l.getD q Zaj).idx≠S.idx then(Zbl,15) else if ¬ ZaA (l.getD q Zaj) then(Zbl,1) else ZaQ (Zmm S (l.getD q Zaj)) (l.drop (q+1))):=ZZ (fun S q hq=>ZuO hq)
 clear aE aZ bb br bz;have aT:=ZZ (fun W (h:Below w.heap.size w W)=>ZiH _ L W (hl.below h zL) (by omega))
 have bm:=ZZ (fun W (h:Below w.heap.size w W)=>ZiI _ ac W (ht.below h zL) (by omega))
 have aM:=ZZ hl.i64;have ba:∀ e ∈ ac,Zod e:=ht.choose_spec.choose_spec.2.2.2.2.1;have bi:=ZZ ba;have u:Hid (∀ X Y,Below w.heap.size w ((w.alloc X).alloc Y)):=fun X Y=>((Below.refl _ _).alloc zL X).alloc (by simp) Y
 have T:Hid (∀ cs R,Bn ((w.alloc (.cells cs 41)).alloc (.cells R 41)) w.heap.size cs):=fun cs R=>(Below.heap_alloc _ _ _ (by simp)).trans (heap_alloc_new w _)
 have k:Hid (∀ cs R,Bn ((w.alloc (.cells cs 41)).alloc (.cells R 41)) (w.heap.size+1) R):=fun cs R=>Zhc w _ _
 clear hl ht ba
 go_enter func15,ntmps15
 go_upto_region 1 with fail
 obtain⟨d,f⟩:∃ d,d=(w.alloc (.cells #[.int .i64 idx,.int .i64 kind,.slice la L.length lc,.bool O,.int .i64 F,.slice ta ac.length tc] 41)).alloc (.cells #[.int .i64 0,.int .i64 0,.slice none 0 0,.bool false,.int .i64 0,.slice none 0 0] 41):=⟨_,rfl⟩;have H:Hid (Below w.heap.size w d):=ZZ (by rw[f];exact u.o _ _)
 have E:Hid (Bn d w.heap.size #[.int .i64 idx,.int .i64 kind,.slice la L.length lc,.bool O,.int .i64 F,.slice ta ac.length tc]):=ZZ (by rw[f];exact T.o _ _)
 have aX:Hid (Bn d (w.heap.size+1) #[.int .i64 0,.int .i64 0,.slice none 0 0,.bool false,.int .i64 0,.slice none 0 0]):=ZZ (by rw[f];exact k.o _ _)
 have bR:d.heap.size=w.heap.size+2:=by rw[f];simp
 rw[<-f];clear f u T k;obtain⟨p2,g2⟩:=E.o.cell 2;obtain⟨p5,g5⟩:=E.o.cell 5
 go_cut[] (fun wc=>Hid (ZpT w ⟨idx,⟨kind,L,O,F⟩,ac⟩ wc))
 case first=>
  go_region_with
   (first
    | (go_at_call 39;refine(aT.o _ (by first | exact H.o.drew | exact H.o)).mono ?_;rintro e W1 ⟨v1,rfl,aL,j⟩;have ak:Below d.heap.size d W1:=(by first | exact((Below.refl _ _).drew).trans j | exact j);have bJ:=ZZ aL;have G:=ZZ ak;obtain⟨a1,c1,bp⟩:∃ a c,v1=.slice a L.length c:=(by obtain⟨a,c,h,-⟩:=aL.rd aM.o;exact⟨a,c,h⟩);subst bp;obtain⟨q2,k2⟩:=(E.o.below ak zL).cell 2;obtain⟨q5,k5⟩:=(E.o.below ak zL).cell 5;clear aL j ak)
    | (go_at_call 40;refine(bm.o _ (H.o.trans (G.o.mono H.o.size))).mono ?_;rintro e W2 ⟨v2,rfl,aB,m⟩;have bu:=ZZ aB;have ai:=ZZ (G.o.trans (m.mono G.o.size));have bC:=ZZ (bJ.o.below m zL);obtain⟨a2,c2,aN⟩:=aB.shape;subst aN;obtain⟨r2,j2⟩:=(E.o.below ai.o zL).cell 2;obtain⟨r5,j5⟩:=(E.o.below ai.o zL).cell 5;clear aB m))
  all_goals
   go_wp2_with fail
   go_meet
   exact ZZ (Zla (E.o.below ai.o zL) (aX.o.below ai.o zL) (bC.o.mono (by first | omega | (show w.heap.size+2<=d.heap.size;omega))) aM.o (bu.o.mono (by have:=G.o.size;omega)) bi.o hi hk A (H.o.trans (ai.o.mono H.o.size)))
 case rest=>
  have be:=hcut;clear hcut H E aX bR p2 g2 p5 g5 aT bm aM bi d hk A hi;go_wp2
  go_loopw[20] (fun vi D=>∃ (q:Nat) (S:ZaW),vi=.int .i64 (q:Int)∧q<=l.length∧Hid (ZpT w S D)∧Hid (Q=ZaQ S (l.drop q))∧Hid (S.st.L.length<=1000)∧Hid (P S)) (fun vi _=>l.length-(intOf vi).toNat)
  case atStart=>exact⟨0,_,rfl,Nat.zero_le _,be,aQ,ZZ bg,a6⟩
  case round=>
   clear be aQ bg bO a6;obtain⟨q,S,rfl,hq,hT,al,bl,aS⟩:=hrel;obtain⟨sa,sc,ea,ec,C,p,hL,aW,hE,a9,hi,hk,A,hB⟩:=hT.o;clear hT;have HX:=ZZ C;have HY:=ZZ p;have HL:=ZZ hL;have aq:=ZZ aW;have HE:=ZZ hE;have aJ:=ZZ a9;have ag:=ZZ (And.intro hi (And.intro hk A));have HB:=ZZ hB;have bn:=ZZ p.lt;obtain⟨p0,g0⟩:=C.cell 0;obtain⟨p1,g1⟩:=C.cell 1;obtain⟨p2,g2⟩:=C.cell 2;obtain⟨p3,g3⟩:=C.cell 3;obtain⟨p4,g4⟩:=C.cell 4;obtain⟨p5,g5⟩:=C.cell 5;obtain⟨z0,y0⟩:=p.cell 0;obtain⟨z1,y1⟩:=p.cell 1;obtain⟨U,y2⟩:=p.cell 2;obtain⟨z3,y3⟩:=p.cell 3;obtain⟨z4,y4⟩:=p.cell 4;obtain⟨z5,y5⟩:=p.cell 5;clear C p hL aW hE a9 hi hk A hB;by_cases M:q<l.length
   case neg=>
    obtain rfl:q=l.length:=by omega
    have K:Hid (Q=(S,0)):=ZZ (by rw[al.o,List.drop_length];rfl)
    clear al;have bX:¬ (w.heap.size=w.heap.size+1):=by omega
    go_wp2;refine bodyPost_ret (v:=.tuple #[.agg #[.int .i64 S.idx,.int .i64 S.st.kind,.slice sa S.st.L.length sc,.bool S.st.shut,.int .i64 S.st.eng,.slice ea S.tab.length ec],.int .i64 0]) (by simp[results,Tryz.results15,go_sem,z0,z1,U,z3,z4,z5]) rfl ?_
    rw[K.o];have au:=Ztp D (w.heap.size+1) (.int .i64 S.idx) (.int .i64 S.st.kind) (.slice sa S.st.L.length sc) (.bool S.st.shut) (.int .i64 S.st.eng) (.slice ea S.tab.length ec);exact⟨_,_,rfl,HL.o.but au (.inr fun b h=>by have:=aq.o b h;omega),ag.o.2.1,ag.o.2.2,(HE.o.rd aJ.o).but au (.inr fun b h=>by have:=HE.o.fresh b h;omega),ag.o.1,.inr (fun b h=>by have:=aq.o b h;omega),.inr ((HE.o.but au (by omega) (by omega)).mono (by omega)),ZhM HB.o _ (by omega) _ _ _ _ _ _⟩
   have bW:(q:Int)<(l.length:Int):=by omega
   rcases a8.o with h0 | ⟨c,off,rfl,hc⟩
   ·rw[h0] at M;simp at M
   obtain⟨c0,c1,c2,c3,c4,c5,c6⟩:=(hc q M).keep (HB.o.block c (hc q M).lt);have y:=ZZ (bj.o S q M);rw[<-al.o] at y;have aj:=ZZ (fun W=>ZkY (l.getD q Zaj) W)
   have N:Hid (Zga (l.getD q Zaj)):=ZZ (bc.o _ (by rw[show l.getD q Zaj=l[q] by simp[List.getD,M]];exact List.getElem_mem M))
   obtain⟨r,hr⟩:∃ r,r=l.getD q Zaj:=⟨_,rfl⟩;rw[<-hr] at y aj N c0 c1 c2 c3 c4 c5 c6;clear hr hc bj a8 bc al;obtain⟨bf,az⟩:∃ bf,bf=decide (ZaA r):=⟨_,rfl⟩;rw[<-az] at aj;have aK:=ZZ az;clear az;have bV:=bn.o;clear p0 p1 p2 p3 p4 p5 g0 g1 g2 g3 g4 g5 z0 z1 U z3 z4 z5 y0 y1 y2 y3 y4 y5
   go_upto_region 5 with fail
   obtain⟨d,f⟩:∃ d,d=D.alloc (.cells (Zeo r) 62):=⟨_,rfl⟩;have u:Hid (Below D.heap.size D d):=ZZ (by rw[f];exact(Below.refl _ _).alloc zL _)
   have g:Hid (Br d D.heap.size (Zeo r)):=ZZ (by rw[f];exact heap_alloc_new D _)
   unfold Zeo at f;rw[<-f];clear f c0 c1 c2 c3 c4 c5 c6;unfold Zeo at g;unfold ZuH at aj;obtain⟨i,am⟩:∃ i,i=D.heap.size:=⟨_,rfl⟩;have T:=ZZ (HX.o.below u.o zL);have k:=ZZ (HY.o.below u.o zL);have ap:=ZZ (HB.o.trans (u.o.mono HB.o.size));rw[<-am] at g ⊢;obtain⟨p0,g0⟩:=T.o.cell 0;obtain⟨k0,-⟩:=g.o.cell 0;obtain⟨k1,-⟩:=g.o.cell 1;obtain⟨k2,-⟩:=g.o.cell 2;obtain⟨k3,-⟩:=g.o.cell 3;obtain⟨k4,-⟩:=g.o.cell 4;obtain⟨k5,-⟩:=g.o.cell 5;obtain⟨k6,-⟩:=g.o.cell 6;by_cases aa:r.idx=S.idx
   case neg=>
    have K:Hid (Q=(Zbl,15)):=ZZ (by rw[y.o,if_pos aa])
    have bT:(r.idx != S.idx)=true:=by rw[bne_iff_ne];exact aa
    obtain⟨z0,y0⟩:=k.o.cell 0;obtain⟨z1,y1⟩:=k.o.cell 1;obtain⟨U,y2⟩:=k.o.cell 2;obtain⟨z3,y3⟩:=k.o.cell 3;obtain⟨z4,y4⟩:=k.o.cell 4;obtain⟨z5,y5⟩:=k.o.cell 5;clear aa y am;go_wp2;refine bodyPost_ret (v:=.tuple #[.agg #[.int .i64 0,.int .i64 0,.slice none 0 0,.bool false,.int .i64 0,.slice none 0 0],.int .i64 15]) (by simp[results,Tryz.results15,go_sem,z0,z1,U,z3,z4,z5]) rfl ?_
    rw[K.o];exact ZkZ.zero _ _ _ _ (Zei ap.o _ (by omega) _ _ _ _ _ _)
   have bT:(r.idx != S.idx)=false:=by rw[bne_eq_false_iff_eq];exact aa
   have aH:=ZZ aa;have ae:=ZZ am;clear aa am
   go_wp2_with fail
   refine(aj.o _).mono ?_;rintro x W1 ⟨rfl,j⟩;have G:=ZZ (u.o.trans (j.mono u.o.size));have av:=ZZ (ap.o.trans (j.mono ap.o.size));have ad:=ZZ (T.o.below j zL);have t:=ZZ (k.o.below j zL);have ah:=ZZ (g.o.below j zL);clear j u ap T k g aj p0 g0 k0 k1 k2 k3 k4 k5 k6
   cases bf with
   | false=>
    have K:Hid (Q=(Zbl,1)):=ZZ (by rw[y.o,if_neg (by rw[aH.o];simp),if_pos (of_decide_eq_false aK.o.symm)])
    obtain⟨z0,y0⟩:=t.o.cell 0;obtain⟨z1,y1⟩:=t.o.cell 1;obtain⟨U,y2⟩:=t.o.cell 2;obtain⟨z3,y3⟩:=t.o.cell 3;obtain⟨z4,y4⟩:=t.o.cell 4;obtain⟨z5,y5⟩:=t.o.cell 5;clear y;go_wp2;refine bodyPost_ret (v:=.tuple #[.agg #[.int .i64 0,.int .i64 0,.slice none 0 0,.bool false,.int .i64 0,.slice none 0 0],.int .i64 1]) (by simp[results,Tryz.results15,go_sem,z0,z1,U,z3,z4,z5]) rfl ?_
    rw[K.o];exact ZkZ.zero _ _ _ _ (Zei av.o _ (by omega) _ _ _ _ _ _)
   | true=>
    have ay:Hid (ZaA r):=ZZ (of_decide_eq_true aK.o.symm);have K:Hid (Q=ZaQ (Zmm S r) (l.drop (q+1))):=ZZ (by rw[y.o,if_neg (by rw[aH.o];simp),if_neg (fun h=>h ay.o)])
    have z:=ZZ (Zzs (.agg #[.int .i64 S.st.kind,.slice sa S.st.L.length sc,.bool S.st.shut,.int .i64 S.st.eng]) S.st r.op W1 ⟨_,rfl,HL.o.below G.o zL,ag.o.2.1,ag.o.2.2⟩ (by have:=bl.o;omega))
    rw[ZsX] at z;have aF:=ZZ (Zxi r.op bl.o);have ao:=ZZ (ZuN S.st r.op);have an:Hid (Zmm S r=⟨S.idx+1,(Zcx S.st r.op).1,ZfU S.tab ⟨r.proc,r.seq,(Zcx S.st r.op).2⟩⟩):=ZZ rfl;have aY:=ZZ (Zwu S.tab ⟨r.proc,r.seq,(Zcx S.st r.op).2⟩);obtain⟨so,aR⟩:∃ so,so=Zcx S.st r.op:=⟨_,rfl⟩;rw[<-aR] at z aF ao an aY;clear aR y aK;obtain⟨⟨k',L',sh',g'⟩,n'⟩:=so
    dsimp only at z aF ao an aY
    unfold opV at z;unfold Zir at z
    dsimp only at z
    obtain⟨p1,g1⟩:=ad.o.cell 1;obtain⟨p2,g2⟩:=ad.o.cell 2;obtain⟨p3,g3⟩:=ad.o.cell 3;obtain⟨p4,g4⟩:=ad.o.cell 4;obtain⟨k3,-⟩:=ah.o.cell 3;obtain⟨k4,-⟩:=ah.o.cell 4;obtain⟨k5,-⟩:=ah.o.cell 5
    go_wp2_with fail
    refine z.o.mono ?_;rintro x W2 ⟨v2,rfl,aA,bd,aU,aI,m⟩;clear z p1 g1 p2 g2 p3 g3 p4 g4 k3 k4 k5;have V:=ZZ (ad.o.below m zL);have bq:=ZZ (t.o.below m zL);have B:=ZZ (ah.o.below m zL);have bh:=ZZ (av.o.trans (m.mono av.o.size));have bt:=ZZ ((HE.o.below G.o zL).below m zL);obtain⟨a2,n2,aN⟩:∃ a c,v2=.slice a L'.length c:=by obtain⟨a,c,h,-⟩:=aA;exact⟨a,c,h⟩
    subst aN;have b1:i<W1.heap.size:=ah.o.lt
    have bv:Hid (L'=[]∨∀ b,(Value.slice a2 L'.length n2).ownBlock=some b->b≠w.heap.size∧b≠i):=ZZ (by
     rcases aI with ⟨I,h2⟩ | h
     ·rw[I,h2]
      rcases HL.o.old with h3 | h3
      ·exact .inl h3
      ·exact .inr fun b n=>by
        have h4:=h3 b n;have h5:=aq.o b n;have h6:=ae.o;omega
     ·exact .inr fun b n=>by
       have h4:=h b n;have h5:=t.o.lt
       omega)
    have bA:Hid (∀ b,(Value.slice a2 L'.length n2).ownBlock=some b->w.heap.size+2<=b):=ZZ (fun b n=>by
     rcases aI with ⟨I,h2⟩ | h
     ·rw[I] at n
      exact aq.o b n
     ·have h4:=h b n
      have h5:=t.o.lt
      omega)
    have bE:Hid (∀ b,(Value.slice ea S.tab.length ec).ownBlock=some b->b≠w.heap.size∧b≠i):=ZZ (fun b n=>by
     have I:=World.ownsRow.lt HE.o b n;have h2:=ae.o
     omega)
    have a0:w.heap.size≠i:=by have:=ae.o;omega
    have bK:i≠w.heap.size:=fun h=>a0 h.symm
    have bS:w.heap.size+1≠i:=by have:=ae.o;omega
    have bG:=ZZ aA;have a3:=ZZ (And.intro bd aU);clear aA bd aU aI m;obtain⟨J,Z⟩:∃ J,J=ZiN W2 w.heap.size i k' (.slice a2 L'.length n2) sh' g' n':=⟨_,rfl⟩;have bL:Hid (Bn J w.heap.size #[.int .i64 S.idx,.int .i64 k',.slice a2 L'.length n2,.bool sh',.int .i64 g',.slice ea S.tab.length ec]):=ZZ (by rw[Z];exact ZuP a0 V.o _ _ _ _ _)
    have bY:Hid (Br J i #[.int .i64 r.idx,.int .i64 r.proc,.int .i64 r.seq,.int .i64 r.op.code,.int .i64 r.op.a,.int .i64 r.op.b,.int .i64 n']):=ZZ (by rw[Z];exact ZuQ bK B.o _ _ _ _ _)
    have a7:Hid (Bn J (w.heap.size+1) #[.int .i64 0,.int .i64 0,.slice none 0 0,.bool false,.int .i64 0,.slice none 0 0]):=ZZ (by rw[Z];exact ZrU (by omega) bS bq.o _ _ _ _ _)
    have aC:Hid (But w.heap.size i W2 J):=ZZ (by rw[Z];exact ZrT _ _ _ _ _ _ _ _)
    have bI:=ZZ (bG.o.but aC.o bv.o);have bM:=ZZ (bt.o.butN aC.o bE.o);have bk:=ZZ (ZcQ bh.o aC.o bh.o.size zL (by have:=ae.o;omega))
    have ar:=ZZ (Zxb (.slice ea S.tab.length ec) S.tab ⟨r.idx,r.proc,r.seq,r.op,n'⟩ J (bM.o.rd aJ.o) ⟨N.o.1,N.o.2.1,N.o.2.2.1,N.o.2.2.2.1,ao.o⟩ (by have:=bD.o _ aS.o;omega))
    unfold ZuH at ar
    dsimp only at ar
    have ax:=Z;unfold ZiN at ax;have s1:=(V.o.cell 1);have s2:=(V.o.cell 2);have s3:=(V.o.cell 3);have s4:=(V.o.cell 4);have s5:=(V.o.cell 5);obtain⟨s1,u1⟩:=s1;obtain⟨s2,u2⟩:=s2;obtain⟨s3,u3⟩:=s3;obtain⟨s4,u4⟩:=s4;obtain⟨s5,u5⟩:=s5;obtain⟨t0,m0⟩:=B.o.cell 0;obtain⟨t1,m1⟩:=B.o.cell 1;obtain⟨t2,m2⟩:=B.o.cell 2;obtain⟨t3,m3⟩:=B.o.cell 3;obtain⟨t4,m4⟩:=B.o.cell 4;obtain⟨t5,m5⟩:=B.o.cell 5;obtain⟨t6,m6⟩:=B.o.cell 6;clear Z
    go_wp2_with fail
    rw[<-ax];refine ar.o.mono ?_;rintro x W5 ⟨v5,rfl,aD,af⟩;clear ax s1 s2 s3 s4 s5 u1 u2 u3 u4 u5 t0 t1 t2 t3 t4 t5 t6 m0 m1 m2 m3 m4 m5 m6 ar;have aw:=ZZ (bL.o.below af zL);have bH:=ZZ (a7.o.below af zL);have bQ:=ZZ (bI.o.below af zL);have bN:=ZZ (bk.o.trans (af.mono bk.o.size));have bB:=ZZ (aD.mono (B':=w.heap.size+2) (by have:=a7.o.lt;omega))
    obtain⟨a5,c5,bF⟩:=aD.shape;subst bF
    have bP:Hid (∀ e ∈ ZfU S.tab ⟨r.proc,r.seq,n'⟩,Zod e):=ZZ (fun e A=>by
     unfold ZfU at A;rcases(Zkw _ _ _ _).1 A with ⟨-,h⟩ | ⟨h,-⟩
     ·rw[h]
      exact⟨N.o.2.1,N.o.2.2.1,ao.o⟩
     ·exact aJ.o e h)
    have aG:Hid (I64 (S.idx+1)):=ZZ (by
     have I:=ay.o;unfold ZaA at I;have h2:=aH.o
     exact⟨by omega,by omega⟩)
    have b0:IntKind.i64.wrap (S.idx+1)=S.idx+1:=by
     have:=aG.o;rw[IntKind.wrap_i64];obtain⟨I,h2⟩:=this;omega
    obtain⟨p0,g0⟩:=aw.o.cell 0;obtain⟨p5,g5⟩:=aw.o.cell 5;clear aD af;have aO:-9223372036854775808<=S.idx+1∧S.idx+1<=9223372036854775807:=aG.o;obtain⟨aO,j⟩:=aO;go_wp2;go_roundw
    case rel=>
     exact⟨q+1,Zmm S r,by go_num,by omega,ZZ (by rw[an.o];exact ZrV aw.o bH.o bQ.o bA.o bB.o bP.o aG.o a3.o.1 a3.o.2 bN.o),K,ZZ (by rw[an.o];exact aF.o),ZZ (bo.o _ _ aS.o ay.o)⟩
    case measure=>simp[intOf];omega
def RdL (w:World) (v:Value) (L:List (List UInt8)):Prop:=
 ∃ ao cap,v=.slice ao L.length cap∧L.length<=cap∧cap<=maxLen∧(ao=none->cap=0)∧
  (L=[]∨∃ b off,ao=some ⟨b,off,none⟩∧∀ j,j<L.length->∃ x,w.cell? ⟨b,off+j,none⟩=some x∧Rd w x (L.getD j []))
def Zlb (w:World) (B:Nat) (v:Value) (L:List (List UInt8)):Prop:=
 ∃ xs:List Value,w.ownsRow B 53 1 v L.length xs∧∀ j,j<L.length->∃ x,xs[j]?=some x∧Own w B x (L.getD j [])
theorem RdL.nil (w:World):RdL w (.slice none 0 0) []:=⟨none,0,rfl,Nat.le_refl _,Nat.zero_le _,fun _=>rfl,.inl rfl⟩
theorem Zlb.nil (w:World) (B:Nat):Zlb w B (.slice none 0 0) []:=⟨[],World.ownsRow_nil w B 53 1,fun j a=>by simp at a⟩
theorem RdL.below {w w':World} {v:Value} {L:List (List UInt8)} (h:RdL w v L) {B:Nat} (c:Below B w w') (e:w.heap.size<=B):RdL w' v L:=by
 obtain⟨ao,cap,f,m,i,l,a⟩:=h;refine⟨ao,cap,f,m,i,l,?_⟩;rcases a with a | ⟨b,off,h5,h6⟩
 ·exact .inl a
 ·refine .inr ⟨b,off,h5,fun j k=>?_⟩
  obtain⟨x,d,n⟩:=h6 j k;have g:b<w.heap.size:=World.block_lt_of_cell? w ⟨b,off+j,none⟩ d;refine⟨x,?_,n.below c e⟩;rw[c.cell (p:=⟨b,off+j,none⟩) (by exact Nat.lt_of_lt_of_le g e)]
  exact d
theorem RdL.front {w:World} {ao:Option Addr} {n cap:Nat} {L:List (List UInt8)} (h:RdL w (.slice ao n cap) L) (k:Nat) (v:k<=L.length):RdL w (.slice ao k cap) (L.take k):=by
 obtain⟨q,u,c,p,l,f,a⟩:=h;simp only [Value.slice.injEq] at c;obtain⟨rfl,_,rfl⟩:=c;have d:(L.take k).length=k:=by simp;omega
 refine⟨ao,cap,by rw[d],by omega,l,f,?_⟩
 rcases a with a | ⟨b,off,h5,h6⟩
 ·exact .inl (by rw[a];simp)
 ·refine .inr ⟨b,off,h5,fun j t=>?_⟩
  have g:j<k:=by omega
  obtain⟨x,i,m⟩:=h6 j (by omega)
  refine⟨x,i,?_⟩;have e:(L.take k).getD j []=L.getD j []:=by simp[List.getD,g]
  rw[e];exact m
theorem Zlb.rd {w:World} {B:Nat} {v:Value} {L:List (List UInt8)} (h:Zlb w B v L):RdL w v L:=by
 obtain⟨xs,b,l⟩:=h;rcases b.2 with ⟨a,c⟩ | ⟨g,cap,cur,a,p,t,m,k,q,n⟩
 ·exact⟨none,0,by rw[a,c],by omega,Nat.zero_le _,fun _=>rfl,.inl (List.eq_nil_of_length_eq_zero c)⟩
 ·refine⟨some ⟨g,0,none⟩,cap,a,m,k,(fun e=>by cases e),.inr ⟨g,0,rfl,fun j i=>?_⟩⟩
  obtain⟨x,d,f⟩:=l j i;have:=World.ownsRow.cells b (g:=g) (by rw[a];rfl) j _ d
  rw[Addr.add_lit] at this;exact⟨x,this,f.rd⟩
theorem Zlb.mono {w:World} {B B':Nat} {v:Value} {L:List (List UInt8)} (h:Zlb w B v L) (b:B'<=B):Zlb w B' v L:=by
 obtain⟨xs,⟨d,a⟩,c⟩:=h;refine⟨xs,⟨d,?_⟩,fun j i=>?_⟩
 ·rcases a with a | ⟨g,cap,cur,hv,hb,r⟩
  ·exact .inl a
  ·exact .inr ⟨g,cap,cur,hv,by omega,r⟩
 ·obtain⟨x,f,e⟩:=c j i
  exact⟨x,f,e.mono b⟩
theorem Zlb.below {w w':World} {B B':Nat} {v:Value} {L:List (List UInt8)} (h:Zlb w B v L) (b:Below B' w w') (k:w.heap.size<=B'):Zlb w' B v L:=by
 obtain⟨xs,⟨c,a⟩,f⟩:=h;refine⟨xs,⟨c,?_⟩,fun j i=>?_⟩
 ·rcases a with a | ⟨g,cap,cur,hv,hbg,hg,r⟩
  ·exact .inl a
  ·have l:g<w.heap.size:=(Array.getElem?_eq_some_iff.1 hg).1
   exact .inr ⟨g,cap,cur,hv,hbg,by rw[b.block g (by omega)];exact hg,r⟩
 ·obtain⟨x,e,d⟩:=f j i
  exact⟨x,e,d.below b k⟩
theorem Znd:(prog.info? 53).map (fun i=>(i.zero,i.size,i.bytes))=some (some (.slice none 0 0),1,24):=by kernel_rfl
theorem ZpV {w:World} {B B':Nat} {v x:Value} {n:Nat} {xs:List Value} {l:List UInt8} (d:w.ownsRow B 53 1 v n xs) (i:Own w B' x l):x.ownBlock=none∨x.ownBlock≠v.ownBlock:=by
 rcases i.2 with ⟨a,_⟩ | ⟨g,cap,cur,a,_,b,_⟩
 ·exact .inl (by rw[a];rfl)
 ·right
  rcases d.2 with ⟨c,_⟩ | ⟨g',m,k,c,_,j,_⟩
  ·rw[a,c]
   exact fun e=>by cases e
  ·rw[a,c]
   intro e;have h:g=g':=by simpa[Value.ownBlock] using e
   rw[h,j] at b
   have f:(53:Nat)=5:=by
    injection b with b
    injection b
   exact absurd f (by decide)
theorem Zlc (w:World) (ty:TypeId) (B:Nat) (v:Value) (L:List (List UInt8)) (h:Zlb w B v L) (x:Value) (d:List UInt8) (c:Own w B x d) (M:L.length<=1000000) (E:B<=w.heap.size):
 ∃ v' w',(Builtin.append_ #[144,144] ty #[v,.slice (some ⟨w.heap.size,0,none⟩) 1 1]).run prog (w.alloc (.cells #[x] 53))=.ok v' w'∧Zlb w' B v' (L++[d])∧Below B w w':=by
 obtain⟨A,C,J,D,H⟩:=info_parts Znd;obtain⟨xs,b,z⟩:=h
 have p:x.oneCell'=true:=by
  rcases c.2 with ⟨i,_⟩ | ⟨g,cap,cur,i,_⟩ <;> rw[i] <;> rfl
 obtain⟨v',w',t,q,f,_⟩:=run_append_own (P:=prog) (w.alloc (.cells #[x] 53)) B 144 ty 53 A (.slice none 0 0) 1 24 underlying144 C J D H rfl (by decide) v L.length xs (b.alloc _)
  ⟨w.heap.size,0,none⟩ 1 1 [x] rfl (fun j u a=>by
   match j,a with
   | 0,a=>simp at a;subst a;simp[Addr.add]) (fun u l=>by simp at l;subst l;exact p) (by unfold maxLen;omega) (by omega) (by simp;omega)
 have I:xs.length=L.length:=by rw[b.1,Nat.mul_one]
 refine⟨v',w',t,⟨xs++[x],by rw[length_append];exact q,fun j a=>?_⟩,?_⟩
 ·by_cases n:j<L.length
  ·obtain⟨y,F,m⟩:=z j n
   refine⟨y,by rw[List.getElem?_append_left (by omega)];exact F,?_⟩
   have e:(L++[d]).getD j []=L.getD j []:=by simp[List.getD,List.getElem?_append_left n]
   rw[e];exact World.ownsRow.kept (World.ownsRow.alloc m _) f (ZpV b m)
  ·have G:j=L.length:=by simp at a;omega
   subst G;refine⟨x,by rw[List.getElem?_append_right (by omega),I];simp,?_⟩
   have e:(L++[d]).getD L.length []=d:=by simp[List.getD]
   rw[e];exact World.ownsRow.kept (World.ownsRow.alloc c _) f (ZpV b c)
 ·exact((Below.refl _ _).alloc E _).grown f (by simp;omega) (fun k K=>(World.ownsRow.lt b k K).1)
theorem ZhP (w:World) {b:Array Oper} {rest:List Oper} {o:Oper} {a:Act} {Q:Exit->Act->World->Prop} (n:o.guard=none) (s x:Operand)
 (e:o.op=.call { callee:=.builtin .append,args:=#[s,x],argTypes:=#[144,144] })
 (B:Nat) (v:Value) (L:List (List UInt8)) (k:a.eval s=v) (c:Zlb w B v L) (y:Value) (d:List UInt8) (f:a.eval x=.slice (some ⟨w.heap.size,0,none⟩) 1 1) (m:Own w B y d)
 (q:L.length<=1000000) (l:B<=w.heap.size)
 (h:∀ v' w',Zlb w' B v' (L++[d])->Below B w w'->wpList prog b Q rest (a.put o.dst v') w'):wpList prog b Q (o::rest) a (w.alloc (.cells #[y] 53)):=
 wpList_plain n fun _ i=>by
  obtain⟨v',w',g,p,j⟩:=Zlc w o.type B v L c y d m q l;unfold Oper.wp execOp;simp only [e,resolve,invoke,builtin,Sem.run_bind,Sem.run_pure,Result.andThen_ok,map_toArray,map_cons,map_nil,k,f,g];exact i _ _ (h v' w' p j)
theorem ZrW (a b:Nat) (g:a<4294967296) (f:b<4294967296):bits .xor .u32 (a:Int) (b:Int)=((a ^^^ b:Nat):Int):=by
 have e:a ^^^ b<2 ^ 32:=Nat.xor_lt_two_pow (by omega) (by omega)
 have d:(BitVec.ofInt 32 (a:Int)).toNat=a:=by
  rw[BitVec.ofInt_natCast,BitVec.toNat_ofNat];exact Nat.mod_eq_of_lt (by omega)
 have c:(BitVec.ofInt 32 (b:Int)).toNat=b:=by
  rw[BitVec.ofInt_natCast,BitVec.toNat_ofNat];exact Nat.mod_eq_of_lt (by omega)
 show IntKind.u32.wrap ((BitVec.ofInt 32 (a:Int) ^^^ BitVec.ofInt 32 (b:Int)).toNat:Int)=_;rw[BitVec.toNat_xor,d,c,IntKind.wrap_u32];omega
theorem ZBH (a b:Nat) (g:a<256) (f:b<256):bits .xor .u8 (a:Int) (b:Int)=((a ^^^ b:Nat):Int):=by
 have e:a ^^^ b<2 ^ 8:=Nat.xor_lt_two_pow (by omega) (by omega)
 have d:(BitVec.ofInt 8 (a:Int)).toNat=a:=by
  rw[BitVec.ofInt_natCast,BitVec.toNat_ofNat];exact Nat.mod_eq_of_lt (by omega)
 have c:(BitVec.ofInt 8 (b:Int)).toNat=b:=by
  rw[BitVec.ofInt_natCast,BitVec.toNat_ofNat];exact Nat.mod_eq_of_lt (by omega)
 show IntKind.u8.wrap ((BitVec.ofInt 8 (a:Int) ^^^ BitVec.ofInt 8 (b:Int)).toNat:Int)=_;rw[BitVec.toNat_xor,d,c,IntKind.wrap_u8];omega
theorem ZuR (k x:Nat):ZdM (k+1) x=ZtZ (ZdM k x):=by
 rw[Zpd k 1];rfl
theorem Zxj (k:Nat) {x:Nat} (h:x<4294967296):ZdM k x<4294967296:=by
 have:=ZnN k (Nat.le_refl 32) (by omega:x<2 ^ 32)
 omega
theorem ZrX (l:List UInt8) (x k:Nat) (h:k<l.length):Zev x (l.take (k+1))=ZgR (Zev x (l.take k)) (l.getD k 0).toNat:=by
 rw[Zkf l k h,ZhA];rfl
theorem Zzt (x c:Nat) (a:c<256):(x ^^^ c) % 256=x % 256 ^^^ c:=by
 have h:=@Nat.xor_mod_two_pow x c 8;have e:c % 2 ^ 8=c:=Nat.mod_eq_of_lt (by omega)
 rw[e] at h;exact h
theorem ZAO (x c:Nat) (a:c<256):x % 256 ^^^ c<256:=by
 have:x % 256 ^^^ c<2 ^ 8:=Nat.xor_lt_two_pow (by omega) (by omega)
 omega
theorem Zzu (c:Nat) (h:c<256):Zgz c<4294967296:=Zxj 8 (by omega)
theorem Zxk (s:Nat) (h:s<4294967296):bits .xor .u32 IntKind.u32.max (s:Int)=((s ^^^ 4294967295:Nat):Int):=by
 have e:IntKind.u32.max=((4294967295:Nat):Int):=by decide
 rw[e,ZrW _ _ (by decide) h,Nat.xor_comm]
def ZAn (l:List UInt8):List UInt8 × Nat:=if l.length<=1048576 then(Zad l,0) else([],5)
theorem Zzv {v:Value} {k e:IntKind} {a b c d:Int} (h:a=b) (f:c=d):Ending.returned (.tuple #[v,.int k a,.int e c])=.returned (.tuple #[v,.int k b,.int e d]):=by rw[h,f]
theorem ZBI {l:List UInt8} (h:Zdf l):ZbR l=([],0,2):=by unfold ZbR;rw[if_pos h]
theorem ZBJ {l:List UInt8} (h:¬ Zdf l) (a:(Zab l).2=0):ZbR l=([],0,3):=by unfold ZbR;rw[if_neg h,if_pos a]
theorem ZBK {l:List UInt8} (h:¬ Zdf l) (a:(Zab l).2≠0) (b:1048576<(Zab l).1):ZbR l=([],0,5):=by unfold ZbR;rw[if_neg h,if_neg a,if_pos b]
theorem ZBL {l:List UInt8} (h:¬ Zdf l) (a:(Zab l).2≠0) (b:¬ 1048576<(Zab l).1) (c:l.length<(Zab l).2+4+(Zab l).1):ZbR l=([],0,2):=by
 unfold ZbR;rw[if_neg h,if_neg a,if_neg b,if_pos c]
theorem ZBM {l:List UInt8} (h:¬ Zdf l) (a:(Zab l).2≠0) (b:¬ 1048576<(Zab l).1) (d:¬ l.length<(Zab l).2+4+(Zab l).1)
 (c:Lib.leNat ((l.drop ((Zab l).2+(Zab l).1)).take 4)≠Zaz 0 (l.take ((Zab l).2+(Zab l).1))):ZbR l=([],0,4):=by
 unfold ZbR;rw[if_neg h,if_neg a,if_neg b,if_neg d,if_pos c]
theorem ZBN {l:List UInt8} (h:¬ Zdf l) (a:(Zab l).2≠0) (b:¬ 1048576<(Zab l).1) (d:¬ l.length<(Zab l).2+4+(Zab l).1)
 (c:Lib.leNat ((l.drop ((Zab l).2+(Zab l).1)).take 4)=Zaz 0 (l.take ((Zab l).2+(Zab l).1))):ZbR l=((l.drop (Zab l).2).take (Zab l).1,(Zab l).2+4+(Zab l).1,0):=by
 unfold ZbR;rw[if_neg h,if_neg a,if_neg b,if_neg d,if_neg (by rw[c];simp)]
theorem ZuS (l:List UInt8):(Zab l).2<=9:=by
 rcases Zay l with h | ⟨h1,h2,h3,h4⟩
 ·rw[h];decide
 ·have a:(Lib.uvarint (Zab l).1).length<=9:=Lib.uvarint_length 8 _ (Nat.lt_of_lt_of_le h1 (by decide))
  rw[<-h4,List.length_take] at a;omega
def Zhe (w:World) (l:List UInt8) (e:Ending) (w':World):Prop:=
 ∃ v',e=.returned (.tuple #[v',.int .i64 ((ZbR l).2.1:Nat),.int .i64 ((ZbR l).2.2:Nat)])∧Own w' w.heap.size v' (ZbR l).1∧Below w.heap.size w w'
theorem Zhe.refused {w:World} {l:List UInt8} {c:Nat} (h:ZbR l=([],0,c)):Zhe w l (.returned (.tuple #[.slice none 0 0,.int .i64 0,.int .i64 (c:Int)])) w:=by
 refine⟨.slice none 0 0,?_,?_,Below.refl _ _⟩
 ·rw[h];rfl
 ·rw[h];exact Own.nil _ _
def Zxl (l:List UInt8) (A:Nat) (L:List (List UInt8)):Prop:=
 Zao l=(L++(Zao (l.drop A)).1,A+(Zao (l.drop A)).2.1,(Zao (l.drop A)).2.2)∧5*L.length<=A∧A<=l.length
theorem Zxl.start (l:List UInt8):Zxl l 0 []:=⟨by simp,by simp,by omega⟩
theorem Zxl.stop {l:List UInt8} {A:Nat} {L:List (List UInt8)} (h:Zxl l A L) (c:A<l.length) (a:(ZbR (l.drop A)).2.2≠0):Zao l=(L,A,(ZbR (l.drop A)).2.2):=by
 have b:l.drop A≠[]:=fun e=>by
  have:=congrArg List.length e;rw[length_drop,List.length_nil] at this;omega
 rw[h.1,Zfm b a];simp
theorem Zxl.whole {l:List UInt8} {A:Nat} {L:List (List UInt8)} (h:Zxl l A L) (a:¬ A<l.length):Zao l=(L,A,0):=by
 have e:l.drop A=[]:=List.drop_of_length_le (by omega)
 rw[h.1,e,ZeX];simp
theorem Zxl.step {l:List UInt8} {A:Nat} {L:List (List UInt8)} (h:Zxl l A L) (d:A<l.length) (a:(ZbR (l.drop A)).2.2=0):Zxl l (A+(ZbR (l.drop A)).2.1) (L++[(ZbR (l.drop A)).1]):=by
 have b:l.drop A≠[]:=fun e=>by
  have:=congrArg List.length e;rw[length_drop,List.length_nil] at this;omega
 have f:=ZeW a;have c:=Zwt (l.drop A);rw[length_drop] at c;refine⟨?_,?_,by omega⟩
 ·rw[h.1,Zfn b a,List.drop_drop]
  simp[Nat.add_assoc]
 ·have:=h.2.1
  simp;omega
def ZAo (l:List UInt8):List (List UInt8) × Nat:=if(Zao l).2.2=0 then((Zao l).1,0) else([],(Zao l).2.2)
theorem Zmt (w:World) (ty:TypeId) (B:Nat) (v:Value) (b:List UInt8) (c:Own w B v b) (e:Value) (l:List UInt8) (u:Rd w e l)
 (A:b.length+l.length<=70368744177664) (k:B<=w.heap.size):
 ∃ v' w',(Builtin.append_ #[53,53] ty #[v,e]).run prog w=.ok v' w'∧Own w' B v' (b++l)∧w.grownBy w' v.ownBlock:=by
 obtain⟨f,g,q,j,m⟩:=info_parts ZnJ;obtain⟨ao,cap,rfl,z,y,x,i⟩:=u
 cases ao with
 | none=>
  have n:=x rfl;subst n;have p:l=[]:=List.eq_nil_of_length_eq_zero (by omega)
  subst p;have d:=run_append_owned_none (P:=prog) w B 53 ty 5 f 1 underlying53 g v b.length (Lib.byteCells b) c;exact⟨v,w,d,by rw[List.append_nil];exact c,⟨rfl,rfl,rfl,Nat.le_refl _,fun _ _ _=>rfl⟩⟩
 | some a=>
  obtain⟨v',w',d,h,t,_⟩:=run_append_own (P:=prog) w B 53 ty 5 f (.int .u8 0) 1 1 underlying53 g q j m rfl (by decide) v b.length (Lib.byteCells b) c a l.length cap (Lib.byteCells l)
   (by rw[Zbi,Nat.mul_one]) (Rd.cells i a rfl) (ZdH l) (by unfold maxLen;omega) (by omega) k
  exact⟨v',w',d,Own.mk' h (by simp) (by simp[Lib.byteCells]),t⟩
theorem ZiO (w:World) {d:Array Oper} {rest:List Oper} {o:Oper} {a:Act} {Q:Exit->Act->World->Prop} (p:o.guard=none) (s x:Operand)
 (f:o.op=.call { callee:=.builtin .append,args:=#[s,x],argTypes:=#[53,53] })
 (B:Nat) (v:Value) (b:List UInt8) (m:a.eval s=v) (e:Own w B v b) (c:Value) (l:List UInt8) (g:a.eval x=c) (u:Rd w c l)
 (t:b.length+l.length<=70368744177664) (n:B<=w.heap.size)
 (h:∀ v' w',Own w' B v' (b++l)->w.grownBy w' v.ownBlock->wpList prog d Q rest (a.put o.dst v') w'):wpList prog d Q (o::rest) a w:=
 wpList_plain p fun _ j=>by
  obtain⟨v',w',i,q,k⟩:=Zmt w o.type B v b e c l u t n;unfold Oper.wp execOp;simp only [f,resolve,invoke,builtin,Sem.run_bind,Sem.run_pure,Result.andThen_ok,map_toArray,map_cons,map_nil,m,g,i];exact j _ _ (h v' w' q k)
open Go.RowKit Go.ChangeShapes
theorem Zld:prog.elem 144=53:=by kernel_rfl
theorem Zne (w:World):(sizeOf 53).run prog w=.ok 1 w:=by
 obtain⟨c,b,_,a,_⟩:=info_parts Znd;simp[sizeOf,typeInfo,b,a]
theorem Zgu:prog.underlying 144=some (.slice (prog.elem 144)):=by rw[Zld];exact underlying144
theorem RdR.mid {w:World} {ao:Option Addr} {n cap:Nat} {l:List Rec} (h:RdR w (.slice ao n cap) l) (i j m:Nat) (C:i<=j) (D:j<=l.length) (E:j<=m) (F:m<=cap):RdR w (sliced ao i j m 7) ((l.drop i).take (j-i)):=by
 obtain⟨B,H,g,A,G,p,x,d⟩:=h;simp only [Value.slice.injEq] at g;obtain⟨rfl,rfl,rfl⟩:=g;have c:((l.drop i).take (j-i)).length=j-i:=by simp;omega
 have q:∀ n ∈ (l.drop i).take (j-i),Zga n:=fun n a=>x n (List.mem_of_mem_drop (List.mem_of_mem_take a))
 unfold sliced;by_cases f:m=i
 ·rw[if_pos f]
  have e:j-i=0:=by omega
  refine⟨ao,m-i,by rw[c],by omega,by omega,fun a=>by have:=p a;omega,q,.inl ?_⟩
  rw[e];simp
 ·rw[if_neg f]
  refine⟨ao.map (·.add (i*7)),m-i,by rw[c],by omega,by omega,fun a=>?_,q,?_⟩
  ·have v:ao=none:=by simpa using a
   have:=p v;omega
  ·rcases d with d | ⟨b,off,h5,h6⟩
   ·exact .inl (by rw[d];simp)
   ·refine .inr ⟨b,off+i*7,?_,fun k t=>?_⟩
    ·rw[h5,Option.map_some,Addr.add_lit]
    ·rw[c] at t
     have z:=h6 (i+k) (by omega)
     have y:off+i*7+k*7=off+(i+k)*7:=by omega
     have u:((l.drop i).take (j-i)).getD k Zaj=l.getD (i+k) Zaj:=by simp[List.getD,t]
     rw[y,u];exact z
theorem RdL.mid {w:World} {ao:Option Addr} {n cap:Nat} {l:List (List UInt8)} (h:RdL w (.slice ao n cap) l) (i j m:Nat) (B:i<=j) (C:j<=l.length) (D:j<=m) (E:m<=cap):RdL w (sliced ao i j m 1) ((l.drop i).take (j-i)):=by
 obtain⟨A,G,g,z,F,p,d⟩:=h;simp only [Value.slice.injEq] at g;obtain⟨rfl,rfl,rfl⟩:=g;have a:((l.drop i).take (j-i)).length=j-i:=by simp;omega
 unfold sliced;by_cases f:m=i
 ·rw[if_pos f]
  have e:j-i=0:=by omega
  refine⟨ao,m-i,by rw[a],by omega,by omega,fun c=>by have:=p c;omega,.inl ?_⟩
  rw[e];simp
 ·rw[if_neg f]
  refine⟨ao.map (·.add (i*1)),m-i,by rw[a],by omega,by omega,fun c=>?_,?_⟩
  ·have v:ao=none:=by simpa using c
   have:=p v;omega
  ·rcases d with d | ⟨b,off,h5,h6⟩
   ·exact .inl (by rw[d];simp)
   ·refine .inr ⟨b,off+i,?_,fun k q=>?_⟩
    ·rw[h5,Nat.mul_one,Option.map_some,Addr.add_lit]
    ·rw[a] at q
     obtain⟨x,t,y⟩:=h6 (i+k) (by omega)
     refine⟨x,by rw[Nat.add_assoc];exact t,?_⟩
     have u:((l.drop i).take (j-i)).getD k []=l.getD (i+k) []:=by simp[List.getD,q]
     rw[u];exact y
theorem RdR.cells {w:World} {ao:Option Addr} {l:List Rec} (h:l=[]∨∃ b c,ao=some ⟨b,c,none⟩∧∀ j,j<l.length->Zmq w b (c+j*7) (l.getD j Zaj)) (a:Addr) (d:ao=some a):
 ∀ j u,(Zan l)[j]?=some u->w.cell? (a.add j)=some u:=by
 intro j u f;rcases h with h | ⟨b,c,h5,h6⟩
 ·rw[h] at f
  simp[Zan] at f
 ·rw[h5] at d
  injection d with d
  subst d;have n:j<(Zan l).length:=(List.getElem?_eq_some_iff.1 f).1;rw[Zbo] at n;have i:j=j / 7*7+j % 7:=by omega
  have g:=ZeA l (j / 7) (j % 7) (by omega) (by omega)
  rw[<-i,f] at g;obtain⟨p,t,y,m,v,x,q⟩:=h6 (j / 7) (by omega)
  have e:∀ k,k<7->c+(j / 7*7+k)=c+j / 7*7+k:=fun k _=>by omega
  rw[Addr.add_lit,i,e (j % 7) (by omega)]
  have hk:j % 7=0∨j % 7=1∨j % 7=2∨j % 7=3∨j % 7=4∨j % 7=5∨j % 7=6:=by omega
  rcases hk with hk | hk | hk | hk | hk | hk | hk
  all_goals
   rw[hk] at g ⊢;rw[g]
   first | exact p | exact t | exact y | exact m | exact v | exact x | exact q
theorem Zle (w:World) (ty:TypeId) (B:Nat) (v:Value) (b:List Rec) (c:Zbq w B v b) (e:Value) (l:List Rec) (x:RdR w e l)
 (D:b.length+l.length<=1000000) (h:B<=w.heap.size):
 ∃ v' w',(Builtin.append_ #[29,29] ty #[v,e]).run prog w=.ok v' w'∧Zbq w' B v' (b++l)∧Below B w w':=by
 obtain⟨f,g,t,m,n⟩:=info_parts Zgs;obtain⟨ao,cap,rfl,C,A,y,_,j⟩:=x
 cases ao with
 | none=>
  have p:=y rfl;subst p;have q:l=[]:=List.eq_nil_of_length_eq_zero (by omega)
  subst q;have d:=run_append_owned_none (P:=prog) w B 29 ty 62 f 7 underlying29 g v b.length (Zan b) c;exact⟨v,w,d,by rw[List.append_nil];exact c,Below.refl _ _⟩
 | some a=>
  obtain⟨v',w',d,i,u,_⟩:=run_append_own (P:=prog) w B 29 ty 62 f _ 7 56 underlying29 g t m n rfl (by decide) v b.length (Zan b) c a l.length cap (Zan l)
   (Zbo l) (RdR.cells j a rfl) (ZeB l) (by unfold maxLen;omega) (by omega) h
  refine⟨v',w',d,?_,?_⟩
  ·unfold Zbq
   rw[length_append,Zdv];exact i
  ·exact(Below.refl _ _).grown u h (fun k z=>(World.ownsRow.lt c k z).1)
theorem ZhQ (w:World) {d:Array Oper} {rest:List Oper} {o:Oper} {a:Act} {Q:Exit->Act->World->Prop} (p:o.guard=none) (s x:Operand)
 (f:o.op=.call { callee:=.builtin .append,args:=#[s,x],argTypes:=#[29,29] })
 (B:Nat) (v:Value) (b:List Rec) (m:a.eval s=v) (e:Zbq w B v b) (c:Value) (l:List Rec) (g:a.eval x=c) (u:RdR w c l)
 (t:b.length+l.length<=1000000) (n:B<=w.heap.size)
 (h:∀ v' w',Zbq w' B v' (b++l)->Below B w w'->wpList prog d Q rest (a.put o.dst v') w'):wpList prog d Q (o::rest) a w:=
 wpList_plain p fun _ j=>by
  obtain⟨v',w',i,q,k⟩:=Zle w o.type B v b e c l u t n;unfold Oper.wp execOp;simp only [f,resolve,invoke,builtin,Sem.run_bind,Sem.run_pure,Result.andThen_ok,map_toArray,map_cons,map_nil,m,g,i];exact j _ _ (h v' w' q k)
def Bsg (w:World) (b:Nat) (cs:Array Value):Prop:=w.heap[b]?=some (.cells cs 217 (0,0))
theorem Bsg.lt {w:World} {b:Nat} {cs:Array Value} (h:Bsg w b cs):b<w.heap.size:=(Array.getElem?_eq_some_iff.1 h).1
theorem Bsg.below {w w':World} {b B:Nat} {cs:Array Value} (h:Bsg w b cs) (a:Below B w w') (c:w.heap.size<=B):Bsg w' b cs:=(a.block b (by have:=h.lt;omega)).trans h
theorem Bsg.cell {w:World} {b:Nat} {cs:Array Value} (h:Bsg w b cs) (j:Nat):w.cell? ⟨b,j,none⟩=cs[j]?∧w.frozen? ⟨b,j,none⟩=false:=⟨cell_of_row w b j _ _ _ h,frozen_of_row w b j _ _ h⟩
def pcC (p:Pce):Array Value:=#[.int .i64 p.name,.int .i64 p.first,.int .i64 p.stop]
def Zau:List Pce->List Value
 | []=>[]
 | c::l=>(pcC c).toList++Zau l
theorem Zdn:∀ l:List Pce,(Zau l).length=l.length*3
 | []=>rfl
 | c::l=>by
  rw[Zau,length_append,Zdn l,List.length_cons];show 3+_=_;omega
theorem Zlf:∀ a b:List Pce,Zau (a++b)=Zau a++Zau b
 | [],_=>rfl
 | c::l,b=>by rw[List.cons_append,Zau,Zlf l b,Zau,List.append_assoc]
theorem Zfw:∀ (l:List Pce) (j k:Nat),j<l.length->k<3->(Zau l)[j*3+k]?=(pcC (l.getD j Zce))[k]?
 | c::l,0,k,_,hk=>by
  rw[Zau,Nat.zero_mul,Nat.zero_add,List.getElem?_append_left (by show k<3;exact hk)]
  simp
 | c::l,j+1,k,hj,hk=>by
  have e:(j+1)*3+k=(pcC c).toList.length+(j*3+k):=by show _=3+_;omega
  rw[Zau,e,List.getElem?_append_right (by omega),Nat.add_sub_cancel_left,Zfw l j k (by simpa using hj) hk]
  rfl
theorem ZrY (l:List Pce):∀ u ∈ Zau l,u.oneCell'=true:=by
 induction l with
 | nil=>intro u a;cases a
 | cons c l b=>
  intro u a;rw[Zau] at a;rcases List.mem_append.1 a with h | h
  ·simp[pcC] at h
   rcases h with rfl | rfl | rfl <;> rfl
  ·exact b u h
def snC (x:ZaW × Value × Value):Array Value:=#[.int .i64 x.1.idx,.int .i64 x.1.st.kind,x.2.1,.bool x.1.st.shut,.int .i64 x.1.st.eng,x.2.2]
def snV (x:ZaW × Value × Value):Value:=.agg (snC x)
def ZaN:List (ZaW × Value × Value)->List Value
 | []=>[]
 | c::l=>(snC c).toList++ZaN l
theorem ZgH:∀ l:List (ZaW × Value × Value),(ZaN l).length=l.length*6
 | []=>rfl
 | c::l=>by
  rw[ZaN,length_append,ZgH l,List.length_cons];show 6+_=_;omega
theorem Zlg:∀ a b:List (ZaW × Value × Value),ZaN (a++b)=ZaN a++ZaN b
 | [],_=>rfl
 | c::l,b=>by rw[List.cons_append,ZaN,Zlg l b,ZaN,List.append_assoc]
theorem Zlh:∀ (l:List (ZaW × Value × Value)) (j k:Nat) (a:j<l.length),k<6->(ZaN l)[j*6+k]?=(snC l[j])[k]?
 | c::l,0,k,_,hk=>by
  rw[ZaN,Nat.zero_mul,Nat.zero_add,List.getElem?_append_left (by show k<6;exact hk)]
  simp
 | c::l,j+1,k,a,hk=>by
  have e:(j+1)*6+k=(snC c).toList.length+(j*6+k):=by show _=6+_;omega
  rw[ZaN,e,List.getElem?_append_right (by omega),Nat.add_sub_cancel_left,Zlh l j k (by simpa using a) hk]
  rfl
structure SnR (w:World) (x:ZaW × Value × Value):Prop where
 l:RdI w x.2.1 x.1.st.L
 t:RdE w x.2.2 x.1.tab
 k:I64 x.1.st.kind
 e:I64 x.1.st.eng
 i:I64 x.1.idx
theorem SnR.snV {w:World} {x:ZaW × Value × Value} (h:SnR w x):SnV w (snV x) x.1:=⟨x.2.1,x.2.2,rfl,h.l,h.k,h.e,h.t,h.i⟩
theorem SnR.below {w w':World} {x:ZaW × Value × Value} (h:SnR w x) {B:Nat} (b:Below B w w') (a:w.heap.size<=B):SnR w' x:=⟨h.l.below b a,h.t.below b a,h.k,h.e,h.i⟩
def ZoR (I:Nat->Prop) (x:ZaW × Value × Value):Prop:=(x.1.st.L=[]∨∀ g,x.2.1.ownBlock=some g->I g)∧(x.1.tab=[]∨∀ g,x.2.2.ownBlock=some g->I g)
theorem ZoR.mono {I J:Nat->Prop} {x:ZaW × Value × Value} (h:ZoR I x) (b:∀ k,I k->J k):ZoR J x:=by
 obtain⟨d,c⟩:=h;exact⟨d.imp id fun h g a=>b g (h g a),c.imp id fun h g a=>b g (h g a)⟩
theorem RdE.keepS {w w':World} {v:Value} {l:List Ent} (h:RdE w v l) (hk:l=[]∨∀ g,v.ownBlock=some g->w'.heap[g]?=w.heap[g]?):RdE w' v l:=by
 obtain⟨ao,cap,rfl,c,e,d,f,a⟩:=h;refine⟨ao,cap,rfl,c,e,d,f,?_⟩;rcases a with a | ⟨b,off,rfl,h6⟩
 ·exact .inl a
 ·rcases hk with hk | hk
  ·exact .inl hk
  ·exact .inr ⟨b,off,rfl,fun j i=>(h6 j i).keep (hk b rfl)⟩
theorem RdI.keepS {w w':World} {v:Value} {l:List Int} (h:RdI w v l) (hk:l=[]∨∀ g,v.ownBlock=some g->w'.heap[g]?=w.heap[g]?):RdI w' v l:=by
 obtain⟨ao,cap,rfl,d,f,e,i,c⟩:=h;refine⟨ao,cap,rfl,d,f,e,i,?_⟩;rcases c with c | ⟨b,off,rfl,h6⟩
 ·exact .inl c
 ·rcases hk with hk | hk
  ·exact .inl hk
  ·exact .inr ⟨b,off,rfl,fun j k=>(World.cell?_of_block (a:=⟨b,off+j,none⟩) (hk b rfl)).trans (h6 j k)⟩
theorem SnR.keep {w w':World} {I:Nat->Prop} {x:ZaW × Value × Value} (h:SnR w x) (c:ZoR I x) (b:∀ g,I g->w'.heap[g]?=w.heap[g]?):SnR w' x:=
 ⟨h.l.keepS (c.1.imp id fun h g a=>b g (h g a)),h.t.keepS (c.2.imp id fun h g a=>b g (h g a)),h.k,h.e,h.i⟩
structure Zhf where
 rv:Value
 pv:Value
 bv:Value
 nl:Value
 nt:Value
 bs:List (ZaW × Value × Value)
def Zhf.nx (L:Zhf) (s:Sto):ZaW × Value × Value:=(s.now,L.nl,L.nt)
def stC (pd:Nat) (L:Zhf) (s:Sto):Array Value:=
 #[ptr pd,.int .i64 s.log.first,L.rv,L.pv,L.bv,.int .i64 s.now.idx,.int .i64 s.now.st.kind,L.nl,.bool s.now.st.shut,.int .i64 s.now.st.eng,L.nt,.int .i64 s.synced,.int .i64 s.cur,.bool s.nw]
structure ZeO (M I:Nat->Prop) (w:World) (p pd:Nat) (L:Zhf) (s:Sto):Prop where
 head:Bk 76 w p (stC pd L s)
 recs:Zbq w 0 L.rv s.log.recs
 pcs:w.ownsRow 0 108 3 L.pv s.log.pcs.length (Zau s.log.pcs)
 bases:w.ownsRow 0 41 6 L.bv L.bs.length (ZaN L.bs)
 bsEq:L.bs.map Prod.fst=s.bases
 now:SnR w (L.nx s)
 base:∀ x ∈ L.bs,SnR w x
 mh:M p
 mr:∀ g,L.rv.ownBlock=some g->M g
 mp:∀ g,L.pv.ownBlock=some g->M g
 mb:∀ g,L.bv.ownBlock=some g->M g
 inow:ZoR I (L.nx s)
 ibase:∀ x ∈ L.bs,ZoR I x
 ltM:∀ k,M k->k<w.heap.size
 ltI:∀ k,I k->k<w.heap.size
 dis:∀ k,M k->¬ I k
theorem ZeO.keep {M I:Nat->Prop} {w w':World} {p pd:Nat} {L:Zhf} {s:Sto} (h:ZeO M I w p pd L s) (b:∀ k,(M k∨I k)->w'.heap[k]?=w.heap[k]?) (e:w.heap.size<=w'.heap.size):ZeO M I w' p pd L s:=
 ⟨h.head.keep (b p (.inl h.mh)),Zae h.recs fun g a=>b g (.inl (h.mr g a)),Zae h.pcs fun g a=>b g (.inl (h.mp g a)),Zae h.bases fun g a=>b g (.inl (h.mb g a)),h.bsEq,
  h.now.keep h.inow fun g a=>b g (.inr a),fun x d=>(h.base x d).keep (h.ibase x d) fun g a=>b g (.inr a),h.mh,h.mr,h.mp,h.mb,h.inow,h.ibase,fun k c=>Nat.lt_of_lt_of_le (h.ltM k c) e,fun k c=>Nat.lt_of_lt_of_le (h.ltI k c) e,h.dis⟩
theorem ZeO.only {M I G:Nat->Prop} {w w':World} {p pd:Nat} {L:Zhf} {s:Sto} (h:ZeO M I w p pd L s) (a:Zap G w w') (c:∀ k,M k->¬ G k) (b:∀ k,I k->¬ G k):ZeO M I w' p pd L s:=
 h.keep (fun k hk=>by
  rcases hk with hk | hk
  ·exact a.block k (h.ltM k hk) (c k hk)
  ·exact a.block k (h.ltI k hk) (b k hk)) a.size
theorem ZeO.below {M I:Nat->Prop} {w w':World} {p pd:Nat} {L:Zhf} {s:Sto} (h:ZeO M I w p pd L s) (a:Below w.heap.size w w'):ZeO M I w' p pd L s:=
 h.keep (fun k hk=>a.block k (by
  rcases hk with hk | hk
  ·exact h.ltM k hk
  ·exact h.ltI k hk)) a.size
theorem ZeO.cs {M I:Nat->Prop} {w:World} {p pd:Nat} {L:Zhf} {s:Sto} (h:ZeO M I w p pd L s):
 w.cell? ⟨p,0,none⟩=some (ptr pd)∧w.cell? ⟨p,1,none⟩=some (.int .i64 s.log.first)∧w.cell? ⟨p,2,none⟩=some L.rv∧w.cell? ⟨p,3,none⟩=some L.pv∧w.cell? ⟨p,4,none⟩=some L.bv∧
 (w.cell? ⟨p,5,none⟩=some (.int .i64 s.now.idx)∧w.cell? ⟨p,6,none⟩=some (.int .i64 s.now.st.kind)∧w.cell? ⟨p,7,none⟩=some L.nl∧w.cell? ⟨p,8,none⟩=some (.bool s.now.st.shut)∧w.cell? ⟨p,9,none⟩=some (.int .i64 s.now.st.eng)∧w.cell? ⟨p,10,none⟩=some L.nt)∧
 w.cell? ⟨p,11,none⟩=some (.int .i64 s.synced)∧w.cell? ⟨p,12,none⟩=some (.int .i64 s.cur)∧w.cell? ⟨p,13,none⟩=some (.bool s.nw):=
 ⟨(h.head.cell 0 rfl).1,(h.head.cell 1 rfl).1,(h.head.cell 2 rfl).1,(h.head.cell 3 rfl).1,(h.head.cell 4 rfl).1,⟨(h.head.cell 5 rfl).1,(h.head.cell 6 rfl).1,(h.head.cell 7 rfl).1,(h.head.cell 8 rfl).1,(h.head.cell 9 rfl).1,(h.head.cell 10 rfl).1⟩,(h.head.cell 11 rfl).1,(h.head.cell 12 rfl).1,(h.head.cell 13 rfl).1⟩
theorem ZeO.fz {M I:Nat->Prop} {w:World} {p pd:Nat} {L:Zhf} {s:Sto} (h:ZeO M I w p pd L s) (j:Nat):w.frozen? ⟨p,j,none⟩=false:=frozen_of_row w p j _ _ h.head
def SD (K:Nat->Prop) (w:World) (pd p:Nat) (s:Sto) (d:Dk) (N T:Nat):Prop:=
 ∃ F M I L,Dsk F w pd d N T∧ZeO M I w p pd L s∧(∀ k,F k->¬ K k)∧(∀ k,M k->¬ K k)∧(∀ k,I k->¬ K k)∧(∀ k,F k->¬ M k)∧(∀ k,F k->¬ I k)
def Zff (K:Nat->Prop) (w:World) (pd p:Nat) (r:SDk × Int) (N T:Nat) (e:Ending) (w':World):Prop:=
 e=.returned (.int .i64 r.2)∧SD K w' pd p r.1.1 r.1.2 N T∧Zap (fun k=>¬ K k) w w'
theorem SD.below {K:Nat->Prop} {w w':World} {pd p:Nat} {s:Sto} {d:Dk} {N T:Nat} (h:SD K w pd p s d N T) (a:Below w.heap.size w w'):SD K w' pd p s d N T:=by
 obtain⟨F,M,I,L,e,b,c⟩:=h;exact⟨F,M,I,L,e.below a,b.below a,c⟩
theorem SD.mono {K:Nat->Prop} {w:World} {pd p:Nat} {s:Sto} {d:Dk} {N T N' T':Nat} (h:SD K w pd p s d N T) (f:N<=N') (b:T<=T'):SD K w pd p s d N' T':=by
 obtain⟨F,M,I,L,a,e,c⟩:=h;exact⟨F,M,I,L,a.mono f b,e,c⟩
theorem SD.less {K e:Nat->Prop} {w:World} {pd p:Nat} {s:Sto} {d:Dk} {N T:Nat} (h:SD K w pd p s d N T) (c:∀ k,e k->K k):SD e w pd p s d N T:=by
 obtain⟨F,M,I,L,f,l,g,m,j,i⟩:=h;exact⟨F,M,I,L,f,l,fun k b a=>g k b (c k a),fun k b a=>m k b (c k a),fun k b a=>j k b (c k a),i⟩
theorem SD.fresh {K:Nat->Prop} {w w':World} {pd p:Nat} {s:Sto} {d:Dk} {N T:Nat} (h:SD K w pd p s d N T) (e:Below w.heap.size w w'):SD (fun k=>K k∨(w.heap.size<=k∧k<w'.heap.size)) w' pd p s d N T:=by
 obtain⟨F,M,I,L,c,b,f,j,i,g⟩:=h;refine⟨F,M,I,L,c.below e,b.below e,fun k a hh=>?_,fun k a hh=>?_,fun k a hh=>?_,g⟩
 ·rcases hh with hh | hh
  ·exact f k a hh
  ·have:=c.ltF k a
   omega
 ·rcases hh with hh | hh
  ·exact j k a hh
  ·have:=b.ltM k a
   omega
 ·rcases hh with hh | hh
  ·exact i k a hh
  ·have:=b.ltI k a
   omega
theorem SD.onlyK {K:Nat->Prop} {w w':World} {pd p:Nat} {s:Sto} {d:Dk} {N T:Nat} (h:SD K w pd p s d N T) (a:Zap K w w'):SD K w' pd p s d N T:=by
 obtain⟨F,M,I,L,f,i,b,e,c,g⟩:=h;exact⟨F,M,I,L,f.only a b,i.only a e c,b,e,c,g⟩
theorem SD.disk {K:Nat->Prop} {w:World} {pd p:Nat} {s:Sto} {d d':Dk} {N T N' T':Nat} {f:Nat} {args:Array Value} {c:Int} (h:SD K w pd p s d N T) (u:∀ k,K k->k<w.heap.size)
 (y:∀ F,Dsk F w pd d N T->(∀ k,F k->¬ K k)->Calls prog f args w fun e w'=>Zjk F w pd d' c N' T' e w'):Calls prog f args w fun e w'=>e=.returned (.int .i64 c)∧SD K w' pd p s d' N' T'∧Zap (fun k=>¬ K k) w w':=by
 obtain⟨F,M,I,L,t,l,g,A,x,n,q⟩:=h;refine(y F t g).mono ?_;rintro e w' ⟨z,F',v,m,j⟩;refine⟨z,⟨F',M,I,L,v,l.only m (fun k a i=>n k i a) (fun k a i=>q k i a),fun k a b=>?_,A,x,fun k a b=>?_,fun k a b=>?_⟩,m.mono g⟩
 ·rcases j k a with hx | hx
  ·exact g k hx b
  ·have:=u k b
   omega
 ·rcases j k a with hx | hx
  ·exact n k hx b
  ·have:=l.ltM k b
   omega
 ·rcases j k a with hx | hx
  ·exact q k hx b
  ·have:=l.ltI k b
   omega
theorem SD.own {K F M I M' I':Nat->Prop} {w w':World} {pd p:Nat} {s':Sto} {d:Dk} {N T:Nat} {L':Zhf} (f:∀ k,K k->k<w.heap.size) (c:Dsk F w pd d N T) (l:∀ k,F k->¬ K k) (j:∀ k,M k->¬ K k) (n:∀ k,I k->¬ K k) (g:∀ k,F k->¬ M k) (q:∀ k,F k->¬ I k)
 (e:Zap M w w') (m:ZeO M' I' w' p pd L' s') (h:∀ k,M' k->M k∨w.heap.size<=k) (i:∀ k,I' k->I k∨w.heap.size<=k):SD K w' pd p s' d N T∧Zap (fun k=>¬ K k) w w':=by
 refine⟨⟨F,M',I',L',c.only e g,m,l,fun k b a=>?_,fun k b a=>?_,fun k b a=>?_,fun k b a=>?_⟩,e.mono j⟩
 ·rcases h k b with hx | hx
  ·exact j k hx a
  ·have:=f k a
   omega
 ·rcases i k b with hx | hx
  ·exact n k hx a
  ·have:=f k a
   omega
 ·rcases h k a with hx | hx
  ·exact g k b hx
  ·have:=c.ltF k b
   omega
 ·rcases i k a with hx | hx
  ·exact q k b hx
  ·have:=c.ltF k b
   omega
end Go.Proofs.YtnahjngbneicaaaGreatDoor
