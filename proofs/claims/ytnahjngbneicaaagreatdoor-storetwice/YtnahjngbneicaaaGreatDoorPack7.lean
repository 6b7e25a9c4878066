import Derived.Test.YtnahjngbneicaaaGreatDoorPack6
namespace Go.Proofs.YtnahjngbneicaaaGreatDoor
open _root_.Go.Proofs.Tryz
open List (length_append length_drop map_cons map_nil map_toArray)
set_option maxHeartbeats 4000000
set_option maxRecDepth 100000
open Go.RowKit
variable {idx j kind:Int} {s:Sto} {A B B' N N' Q R T T' b c cap g n p pd:Nat} {W w w':World} {v:Value} {l:List UInt8} {L:List (List UInt8)} {a:List Ent} {d:Dk} {ao f:Option Addr} {x:Qv × Value × Value} {I K M:Nat->Prop}
theorem Zwa (a:kind=0∨kind=1) (l:List Int):(0<=kind∧kind<6∧Yq kind l)↔l.length=1∧-1099511627776<=l.getD 0 0∧l.getD 0 0<=1099511627776:=by
 rw[Xz (by omega) (by omega)]
 constructor
 ·rintro⟨_,_,_,h1,h2⟩
  exact⟨h1 (by omega),h2 0 (by have:=h1 (by omega);omega)⟩
 ·rintro⟨h1,h2⟩
  refine⟨by omega,by omega,by omega,fun _=>h1,fun j b=>?_⟩
  have e:j=0:=by omega
  rw[e];exact h2
theorem ZtP (a:kind=2∨kind=3) (l:List Int):(0<=kind∧kind<6∧Yq kind l)↔l.length<=64∧J0 l:=by
 rw[Xz (by omega) (by omega)]
 constructor
 ·rintro⟨_,_,h1,_,h2⟩
  exact⟨h1,h2⟩
 ·rintro⟨h1,h2⟩
  exact⟨by omega,by omega,h1,fun h=>by omega,h2⟩
theorem Zrv (l:List Int):(0<=(4:Int)∧(4:Int)<6∧Yq 4 l)↔Zan (-1099511627776) l:=by
 unfold Yq;rw[if_pos rfl];exact⟨fun h=>h.2.2,fun h=>⟨by decide,by decide,h⟩⟩
theorem Zoy (l:List Int):(0<=(5:Int)∧(5:Int)<6∧Yq 5 l)↔Zan 0 l:=by
 unfold Yq;rw[if_neg (by decide),if_pos rfl]
 exact⟨fun h=>h.2.2,fun h=>⟨by decide,by decide,h⟩⟩
theorem Zjc (kind:Int) (v:Value) (l:List Int) (w:World) (J:RdI w v l):
 Calls prog 122 #[.int .i64 kind,v] w fun e w'=>e=.returned (.bool (decide (0<=kind∧kind<6∧Yq kind l)))∧Below w.heap.size w w':=by
 have t:=Qc (fun p q W=>Jx p q W)
 have I:Hid (∀ W,Below w.heap.size w W->RdI W v l):=fun W h=>J.below h zL
 obtain⟨R,O⟩:∃ R,R=decide (0<=kind∧kind<6∧Yq kind l):=⟨_,rfl⟩;rw[<-O];have u:=Qc O;clear O;by_cases D:kind=0∨kind=1
 ·have i:=Qc (Zwa D l)
  have f:((kind == 0)=true)∨((kind == 0)=false∧(kind == 1)=true):=by
   rcases D with rfl | rfl
   ·exact .inl rfl
   ·exact .inr ⟨rfl,rfl⟩
  have x:=Qc (fun n l2 Y d c W C E=>Zdq n l2 Y d c W C E)
  obtain⟨ao,cap,rfl,-,-,-,-,T⟩:=J;have X:=Qc T;clear T D I;by_cases m:l.length=1
  ·rcases X.o with h0 | ⟨g,U,rfl,L⟩
   ·rw[h0] at m;simp at m
   have S:Hid (∀ W,Below w.heap.size w W->W.cell? ⟨g,U,none⟩=some (.int .i64 (l.getD 0 0))):=fun W h=>(h.cell (World.block_lt_of_cell? w ⟨g,U,none⟩ (L 0 (by omega)))).trans (L 0 (by omega))
   clear L X;have HL:=Qc m;rw[m];clear m;obtain⟨y,P⟩:∃ y,y=l.getD 0 0:=⟨_,rfl⟩;rw[<-P] at S i;clear P;rcases f with f | ⟨f,V⟩
   all_goals
    go_enter func122,ntmps122
    go_wp2_with fail
    refine(t.o _ _ _).mono ?_;rintro e G ⟨d,c,rfl,j,k,a⟩;have b:=Qc a;have ab:=S.o _ a;clear a
    go_wp2_with fail
    refine(x.o _ _ _ _ _ _ j k).mono ?_;rintro e N ⟨rfl,rfl⟩;go_wp2;go_ret;refine⟨Yk ?_,b.o⟩;rw[u.o,<-Bool.decide_and];exact decide_eq_decide.2 ⟨fun h=>i.o.2 ⟨HL.o,h⟩,fun h=>(i.o.1 h).2⟩
  ·have hq:((l.length:Int) == 1)=false:=beq_eq_false_iff_ne.2 (by omega)
   have K:Hid (decide (0<=kind∧kind<6∧Yq kind l)=false):=decide_eq_false (fun h=>m (i.o.1 h).1)
   clear m;rcases f with f | ⟨f,V⟩
   all_goals
    go_enter func122,ntmps122
    go_wp2_with fail
    refine(t.o _ _ _).mono ?_;rintro e G ⟨d,c,rfl,j,k,a⟩;have b:=Qc a;clear a;go_wp2;go_ret;exact⟨Yk (u.o.trans K.o).symm,b.o⟩
 ·have e0:(kind == 0)=false:=beq_eq_false_iff_ne.2 (by omega)
  have e1:(kind == 1)=false:=beq_eq_false_iff_ne.2 (by omega)
  by_cases H:kind=2∨kind=3
  ·have i:=Qc (ZtP H l)
   have f:((kind == 2)=true)∨((kind == 2)=false∧(kind == 3)=true):=by
    rcases H with rfl | rfl
    ·exact .inl rfl
    ·exact .inr ⟨rfl,rfl⟩
   have x:=Qc (fun d c W C E M=>Zox v l d c W C E M)
   clear D H J;rcases f with f | ⟨f,V⟩
   all_goals
    go_enter func122,ntmps122
    go_wp2_with fail
    refine(t.o _ _ _).mono ?_;rintro e G ⟨d,c,rfl,j,k,a⟩;have b:=Qc a;clear a
    go_wp2_with fail
    refine(x.o _ _ _ (I.o _ b.o) j k).mono ?_;rintro e N ⟨rfl,rfl⟩;go_wp2;go_ret;refine⟨Yk ?_,b.o⟩;rw[u.o,<-Bool.decide_and];exact decide_eq_decide.2 i.o.symm
  ·have e2:(kind == 2)=false:=beq_eq_false_iff_ne.2 (by omega)
   have e3:(kind == 3)=false:=beq_eq_false_iff_ne.2 (by omega)
   have x:=Qc (fun lo d c W C E M=>ZmC v l lo d c W C E M)
   clear D H J;by_cases z:kind=4
   ·have e4:(kind == 4)=true:=beq_iff_eq.2 z
    have i:Hid (Zan (-1099511627776) l↔(0<=kind∧kind<6∧Yq kind l)):=by rw[z];exact(Zrv l).symm
    clear z
    go_enter func122,ntmps122
    go_wp2_with fail
    refine(t.o _ _ _).mono ?_;rintro e G ⟨d,c,rfl,j,k,a⟩;have b:=Qc a;clear a
    go_wp2_with fail
    refine(x.o _ _ _ _ (I.o _ b.o) j k).mono ?_;rintro e N ⟨rfl,B⟩;have F:=Qc (b.o.trans (B.mono b.o.size));clear B;go_wp2;go_ret;refine⟨Yk ?_,F.o⟩;rw[u.o];exact decide_eq_decide.2 i.o
   ·have e4:(kind == 4)=false:=beq_eq_false_iff_ne.2 z
    by_cases A:kind=5
    ·have e5:(kind == 5)=true:=beq_iff_eq.2 A
     have i:Hid (Zan 0 l↔(0<=kind∧kind<6∧Yq kind l)):=by rw[A];exact(Zoy l).symm
     clear z A
     go_enter func122,ntmps122
     go_wp2_with fail
     refine(t.o _ _ _).mono ?_;rintro e G ⟨Z,b1,rfl,_,_,a⟩;have b:=Qc a;clear a
     go_wp2_with fail
     refine(t.o _ _ _).mono ?_;rintro e N ⟨d,c,rfl,j,k,B⟩;have F:=Qc (b.o.trans (B.mono b.o.size));clear B
     go_wp2_with fail
     refine(x.o _ _ _ _ (I.o _ F.o) j k).mono ?_;rintro e W3 ⟨rfl,Q⟩;have aa:=Qc (F.o.trans (Q.mono F.o.size));clear Q;go_wp2;go_ret;refine⟨Yk ?_,aa.o⟩;rw[u.o];exact decide_eq_decide.2 i.o
    ·have e5:(kind == 5)=false:=beq_eq_false_iff_ne.2 A
     have K:Hid (decide (0<=kind∧kind<6∧Yq kind l)=false):=decide_eq_false (fun h=>by
      have n0:kind≠0:=beq_eq_false_iff_ne.1 e0;have n1:kind≠1:=beq_eq_false_iff_ne.1 e1;have n2:kind≠2:=beq_eq_false_iff_ne.1 e2;have n3:kind≠3:=beq_eq_false_iff_ne.1 e3
      omega)
     clear z A
     go_enter func122,ntmps122
     go_wp2_with fail
     refine(t.o _ _ _).mono ?_;rintro e G ⟨Z,b1,rfl,_,_,a⟩;have b:=Qc a;clear a;go_wp2;go_ret;exact⟨Yk (u.o.trans K.o).symm,b.o⟩
theorem ZtQ (kind:Int) (l:List Int) (a:Bool) (g:Int):X8 ⟨kind,l,a,g⟩↔(a=false->g=0)∧(0<=g∧g<=2)∧(0<=kind∧kind<6∧Yq kind l):=
 ⟨fun h=>⟨h.2.2.1,⟨h.1,h.2.1⟩,h.2.2.2.1,h.2.2.2.2.1,h.2.2.2.2.2⟩,fun h=>⟨h.2.1.1,h.2.1.2,h.1,h.2.2.1,h.2.2.2.1,h.2.2.2.2⟩⟩
theorem ZkV (v:Value) (s:St) (w:World) (X:StV w v s):
 Calls prog 82 #[v] w fun e w'=>e=.returned (.bool (decide (X8 s)))∧Below w.heap.size w w':=by
 obtain⟨I,rfl,C,-,-⟩:=X;obtain⟨kind,l,f,g⟩:=s;simp only at C ⊢;have J:=Qc (fun p q W=>Jx p q W)
 have G:=Qc (fun n Z M U S W V p2=>Zdq n Z M U S W V p2)
 have L:Hid (∀ W,Below w.heap.size w W->Calls prog 122 #[.int .i64 kind,I] W fun e w'=>e=.returned (.bool (decide (0<=kind∧kind<6∧Yq kind l)))∧Below W.heap.size W w'):=fun W h=>Zjc kind I l W (C.below h zL)
 have t:=Qc (ZtQ kind l f g);obtain⟨R,F⟩:∃ R,R=decide (X8 ⟨kind,l,f,g⟩):=⟨_,rfl⟩;rw[<-F];have y:=Qc F;have k:Hid (∀ x,Below w.heap.size w (w.alloc x)):=fun x=>(Below.refl _ _).alloc zL x
 clear F C;by_cases u:f=false∧g≠0
 ·obtain⟨rfl,D⟩:=u
  have hq:(g != 0)=true:=bne_iff_ne.2 D;have K:Hid (decide (X8 ⟨kind,l,false,g⟩)=false):=decide_eq_false (fun h=>D ((t.o.1 h).1 rfl))
  clear D
  go_enter func82,ntmps82
  go_wp2;go_ret;exact⟨Yk (y.o.trans K.o).symm,k.o _⟩
 ·have i:((g != 0)=false)∨((g != 0)=true∧f=true):=by
   by_cases c:g=0
   ·exact .inl (bne_eq_false_iff_eq.2 c)
   ·cases f
    ·exact absurd ⟨rfl,c⟩ u
    ·exact .inr ⟨bne_iff_ne.2 c,rfl⟩
  have T:Hid (f=false->g=0):=fun h=>by
   by_cases c:g=0
   ·exact c
   ·exact absurd ⟨h,c⟩ u
  clear u;by_cases d:0<=g∧g<=2
  ·have E:=Qc (decide_eq_true d)
   have P:=Qc d;clear d
   have B:Hid (decide (0<=kind∧kind<6∧Yq kind l)=R):=by
    rw[y.o];exact decide_eq_decide.2 ⟨fun h=>t.o.2 ⟨T.o,P.o,h⟩,fun h=>(t.o.1 h).2.2⟩
   rcases i with i | ⟨i,rfl⟩
   all_goals
    go_enter func82,ntmps82
    go_wp2_with fail
    refine(J.o _ _ _).mono ?_;rintro e m ⟨N,b1,rfl,z,A,a⟩;have b:=(a.block w.heap.size (by simp)).trans (heap_alloc_new w _)
    have q0:=cell_of_row m w.heap.size 0 _ _ _ b;have q1:=cell_of_row m w.heap.size 1 _ _ _ b;have Q:=cell_of_row m w.heap.size 3 _ _ _ b;have j:=Qc ((k.o _).trans (a.mono (k.o _).size));clear a b
    go_wp2_with fail
    refine(G.o _ _ _ _ _ _ z A).mono ?_;rintro e Y ⟨rfl,rfl⟩;rw[E.o]
    go_wp2_with fail
    refine(L.o _ j.o).mono ?_;rintro e W3 ⟨rfl,H⟩;rw[B.o];have O:=Qc (j.o.trans (H.mono j.o.size));clear H;go_wp2;go_ret;exact⟨rfl,O.o⟩
  ·have E:=Qc (decide_eq_false d)
   have B:Hid (R=false):=y.o.trans (decide_eq_false fun h=>d (t.o.1 h).2.1)
   clear d;rcases i with i | ⟨i,rfl⟩
   all_goals
    go_enter func82,ntmps82
    go_wp2_with fail
    refine(J.o _ _ _).mono ?_;rintro e m ⟨N,b1,rfl,z,A,a⟩;have b:=(a.block w.heap.size (by simp)).trans (heap_alloc_new w _)
    have Q:=cell_of_row m w.heap.size 3 _ _ _ b;have j:=Qc ((k.o _).trans (a.mono (k.o _).size));clear a b
    go_wp2_with fail
    refine(G.o _ _ _ _ _ _ z A).mono ?_;rintro e Y ⟨rfl,rfl⟩;rw[E.o];go_wp2;go_ret;exact⟨Yk B.o.symm,j.o⟩
theorem ZkW (o:Opn) (w:World):
 Calls prog 80 #[opV o] w fun e w'=>e=.returned (.bool (decide (Jg o)))∧Below w.heap.size w w':=by
 obtain⟨c,a,b⟩:=o;have O:=Qc (fun p q W=>Jx p q W)
 have m:=Qc (fun n l2 Q J I W X p2=>Zdq n l2 Q J I W X p2)
 have i:Hid (Jg ⟨c,a,b⟩↔(0<=c∧c<=10)∧(-1099511627776<=a∧a<=1099511627776)∧(-1099511627776<=b∧b<=1099511627776)):=
  ⟨fun h=>⟨⟨h.1,h.2.1⟩,⟨h.2.2.1,h.2.2.2.1⟩,h.2.2.2.2⟩,fun h=>⟨h.1.1,h.1.2,h.2.1.1,h.2.1.2,h.2.2⟩⟩
 obtain⟨R,C⟩:∃ R,R=decide (Jg ⟨c,a,b⟩):=⟨_,rfl⟩;rw[<-C];have P:=Qc C;have K:Hid (∀ x,Below w.heap.size w (w.alloc x)):=fun x=>(Below.refl _ _).alloc zL x
 clear C
 have U:∀ k j v,Hid (decide (0<=c∧c<=10)=k)->Hid (decide (-1099511627776<=a∧a<=1099511627776)=j)->Hid (decide (-1099511627776<=b∧b<=1099511627776)=v)->Hid ((k && j && v)=R)->
  Calls prog 80 #[.agg #[.int .i64 c,.int .i64 a,.int .i64 b]] w fun e w'=>e=.returned (.bool R)∧Below w.heap.size w w':=by
  intro k j v S H2 H3 u
  go_enter func80,ntmps80
  go_wp2_with fail
  refine(O.o _ _ _).mono ?_;rintro e N ⟨T,Y,rfl,d,g,y⟩;have F:=Qc ((K.o _).trans (y.mono (K.o _).size));have t:=Qc ((y.block w.heap.size (by simp)).trans (heap_alloc_new w _))
  have A:=Qc d;have D:=Qc g;clear y d g
  go_wp2_with fail
  refine(O.o _ _ _).mono ?_;rintro e z ⟨J,I,rfl,G,M,f⟩;have l:=(f.block w.heap.size (Array.getElem?_eq_some_iff.1 t.o).1).trans t.o;have q0:=cell_of_row z w.heap.size 0 _ _ _ l;have q1:=cell_of_row z w.heap.size 1 _ _ _ l;have q2:=cell_of_row z w.heap.size 2 _ _ _ l;have d:=(f.cell (World.block_lt_of_cell? N ⟨T,0,none⟩ A.o)).trans A.o;have g:=(f.cell (World.block_lt_of_cell? N ⟨Y,0,none⟩ D.o)).trans D.o;have B:=Qc (F.o.trans (f.mono F.o.size));have V:=Qc d;have Z:=Qc g;have L:=Qc G;have H:=Qc M;clear f l t A D d g G M
  go_wp2_with fail
  refine(m.o _ _ _ _ _ _ V.o Z.o).mono ?_;rintro e E ⟨rfl,rfl⟩;rw[S.o]
  cases k
  ·go_wp2
   go_ret;exact⟨Yk (by rw[<-u.o];rfl),B.o⟩
  ·go_wp2_with fail
   refine(m.o _ _ _ _ _ _ L.o H.o).mono ?_;rintro e E ⟨rfl,rfl⟩;rw[H2.o]
   cases j
   ·go_wp2
    go_ret;exact⟨Yk (by rw[<-u.o];rfl),B.o⟩
   ·go_wp2_with fail
    refine(m.o _ _ _ _ _ _ L.o H.o).mono ?_;rintro e E ⟨rfl,rfl⟩;rw[H3.o];go_wp2;go_ret;exact⟨Yk (by rw[<-u.o];rfl),B.o⟩
 refine U _ _ _ rfl rfl rfl (Qc ?_);rw[P.o,<-Bool.decide_and,<-Bool.decide_and];exact decide_eq_decide.2 ⟨fun h=>i.o.2 ⟨h.1.1,h.1.2,h.2⟩,fun h=>⟨⟨(i.o.1 h).1,(i.o.1 h).2.1⟩,(i.o.1 h).2.2⟩⟩
theorem Zwb (v:Value) (s:St) (w:World) (A:StV w v s) (c:s.L.length<=1000000):
 Calls prog 81 #[v] w fun e w'=>∃ vl',e=.returned (.agg #[.int .i64 s.kind,vl',.bool s.shut,.int .i64 s.eng])∧Qo w' w.heap.size vl' s.L∧Below w.heap.size w w':=by
 obtain⟨j,rfl,d,-,-⟩:=A;obtain⟨kind,l,B,g⟩:=s;simp only at d c ⊢;have q:Hid (∀ W,Below w.heap.size w W->Calls prog 39 #[j] W fun e w'=>∃ v',e=.returned v'∧Qo w' W.heap.size v' l∧Below W.heap.size W w'):=fun W h=>Zfr j l W (d.below h zL) c
 have i:Hid (∀ x y,Below w.heap.size w ((w.alloc x).alloc y)):=fun x y=>((Below.refl _ _).alloc zL x).alloc (by simp) y
 clear d c
 go_enter func81,ntmps81
 go_wp2_with fail
 refine(q.o _ (i.o _ _)).mono ?_;rintro e m ⟨t,rfl,k,f⟩;have a:ZnM m w.heap.size _ _:=(ZnM.made w _ _).below f (by simp)
 have G:=(a.s 0).1;have E:=(a.s 1).1;have K:=(a.s 2).1;have H:=(a.s 3).1;have M:=(a.s 1).2;have z:=(a.r 0).1;have D:=(a.r 1).1;have n:=(a.r 2).1;have u:=(a.r 3).1;have N:=(a.r 0).2;have J:=(a.r 1).2;have F:=(a.r 2).2;have I:=(a.r 3).2;have p:=Qc ((i.o _ _).trans (f.mono (i.o _ _).size))
 have b:Qo m (w.heap.size+1+1) t l:=by
  have e:∀ x y,((w.alloc x).alloc y).heap.size=w.heap.size+1+1:=fun x y=>by simp
  rwa [e] at k
 have C:=Qc b;obtain⟨ao,cap,rfl⟩:=b.shape;clear f a k b;go_wp2;refine bodyPost_ret (v:=.agg #[.int .i64 kind,.slice ao l.length cap,.bool B,.int .i64 g]) (by simp[results,Tryz.results81,go_sem,z,D,n,u]) rfl ?_
 exact⟨_,rfl,(C.o.five w.heap.size (w.heap.size+1) (by omega) (by omega) _ _ _ _ _).mono (by omega),ZsX p.o w.heap.size (w.heap.size+1) zL (by omega) _ _ _ _ _⟩
open Go.RowKit Go.ChangeShapes
theorem ZkX:prog.cellsOf 52=3:=by kernel_rfl
section
variable {H:Type} {enc:TypeId × Value->H} {w:World} {base fuel:Nat} {held:Bool}
theorem Zey {cs:List Value} {x:DataW H × List MemPlace} (h:DataW.trod enc prog w base (fun _=>true) held fuel 52 cs=some x):
 ∃ (o:Opn),cs=[.int .i64 o.code,.int .i64 o.a,.int .i64 o.b]∧Zxh o:=by
 obtain⟨xs,n,_,_,i,p,c⟩:=DataW.trod_struct underlying52 h;rw[ZkX] at i
 match xs,p,cs,i with
 | [y0,y1,y2],_,[c0,c1,c2],_=>
  have l:=c 0 _ rfl;have f:=c 1 _ rfl;have j:=c 2 _ rfl;simp[Zhu] at l f j;obtain⟨k,e,_,m⟩:=DataW.trod_int underlying3 l;obtain⟨a,g,_,q⟩:=DataW.trod_int underlying3 f;obtain⟨b,d,_,t⟩:=DataW.trod_int underlying3 j;simp only [List.cons.injEq,and_true] at e g d;subst e g d;exact⟨⟨k,a,b⟩,rfl,Zb m,Zb q,Zb t⟩
end
theorem ZtR {s:St} (h:X8 s):∀ x ∈ s.L,I64 x:=by
 have f:=h.2.2.2.1;have g:=h.2.2.2.2.1;have a:=h.2.2.2.2.2;by_cases b:s.kind=4
 ·rw[b,Zbj] at a
  exact Zay (by decide) (by decide) a.2
 ·by_cases c:s.kind=5
  ·rw[c,ZaE] at a
   exact Zay (by decide) (by decide) a.2
  ·have e:=(Ja _).1 ((Xz b c).1 a).2.2
   intro x d;have:=e x d;exact Qk (by omega) (by omega)
theorem Zoz {s:St} (h:X8 s):s.L.length<=128:=by
 have d:=h.2.2.2.1;have e:=h.2.2.2.2.1;have a:=h.2.2.2.2.2;by_cases b:s.kind=4
 ·rw[b,Zbj] at a
  exact a.1
 ·by_cases c:s.kind=5
  ·rw[c,ZaE] at a
   exact a.1
  ·have:=((Xz b c).1 a).1
   omega
theorem Zrw {s:St} (h:X8 s) (b:s.shut=false) (o:Opn) (c:o.code=10):Y9 s o=(⟨s.kind,s.L,true,if 0<=o.a∧o.a<=2 then o.a else s.eng⟩,0):=by
 unfold Y9;rw[if_neg (fun e=>e h),if_neg (by simp[b]),if_pos c]
theorem ZjM {s:St} (h:X8 s) (a:s.shut=false) (o:Opn) (b:o.code≠10):Y9 s o=if s.kind<=1 then ZdX s o else if s.kind<=3 then Yy s o else if s.kind=4 then Ze s o else Xv s o:=by
 unfold Y9;rw[if_neg (fun e=>e h),if_neg (by simp[a]),if_neg b]
theorem ZoA (s:St) (o:Opn):(Ze s o).1.kind=s.kind∧(Ze s o).1.shut=s.shut∧(Ze s o).1.eng=s.eng:=by
 rw[ZfR];exact Zfa s o
theorem ZoB {r:St × Int} {k g:Int} {s:Bool} (h:r.1.kind=k∧r.1.shut=s∧r.1.eng=g):r=(⟨k,r.1.L,s,g⟩,r.2):=by
 obtain⟨⟨e,i,d,j⟩,f⟩:=r;obtain⟨a,b,c⟩:=h;simp only at a b c;rw[a,b,c]
theorem Zxw (s:St) (v:Value) (o:Opn) (B:Nat) (w:World) (k:Qo w B v s.L) (n:B<=w.heap.size) (d:X8 s):
 Calls prog 83 #[.agg #[.int .i64 s.kind,v,.bool s.shut,.int .i64 s.eng],opV o] w fun e w'=>Did B w v (Y9 s o) e w':=by
 obtain⟨kind,l,x,g⟩:=s
 cases x with
 | true=>
  rw[ZqN d rfl];exact Zou kind g l v o B w k
 | false=>
  have A:0<=kind:=d.2.2.2.1;have C:kind<6:=d.2.2.2.2.1;have u:=d.2.2.2.2.2;obtain⟨c,a,b⟩:=o;by_cases i:c=10
  ·rw[Zrw d rfl _ i]
   subst i;exact Zov kind g a b l v B w k
  ·rw[ZjM d rfl _ i]
   by_cases t:kind<=1
   ·rw[if_pos t]
    obtain⟨j,f,y⟩:=ZyR d t;exact Zru kind g (by omega) l v ⟨c,a,b⟩ i B w k j f y
   ·rw[if_neg t]
    by_cases p:kind<=3
    ·rw[if_pos p,ZoB (ZgW ⟨kind,l,false,g⟩ ⟨c,a,b⟩)]
     exact Zow kind g (by omega) l _ _ v c a b i B w k (fun W j f=>ZvX kind (by omega) v l ⟨c,a,b⟩ false g B W j f (ZtR d) (ZyS d p)) n
    ·rw[if_neg p]
     by_cases q:kind=4
     ·rw[if_pos q,ZoB (ZoA ⟨kind,l,false,g⟩ ⟨c,a,b⟩)]
      subst q;have m:=(Zbj l).1 u;exact ZmA 4 g rfl l _ _ v c a b i B w k (fun W j f=>Zrt v l ⟨c,a,b⟩ false g B W j f m.2 m.1) n
     ·rw[if_neg q,ZoB (ZdA ⟨kind,l,false,g⟩ ⟨c,a,b⟩)]
      have z:kind=5:=by omega
      subst z;have m:=(ZaE l).1 u;exact ZkU 5 g rfl l _ _ v c a b i B w k (fun W j f=>Zot v l ⟨c,a,b⟩ false g B W j f m.2 m.1) n
theorem Zwc (v:Value) (s:St) (o:Opn) (w:World) (hs:StV w v s) (T:s.L.length<=1000000):
 Calls prog 42 #[v,opV o] w fun e w'=>Zfb w (lval v) s.L (Y9 s o) e w':=by
 obtain⟨vl,rfl,J,E,G⟩:=hs;rw[ZpH];obtain⟨kind,l,f,g⟩:=s;simp only at J E G T ⊢;have P:=Qc J.i64;have af:Hid (∀ W,Below w.heap.size w W->Calls prog 81 #[.agg #[.int .i64 kind,vl,.bool f,.int .i64 g]] W fun e w'=>∃ vl',e=.returned (.agg #[.int .i64 kind,vl',.bool f,.int .i64 g])∧Qo w' W.heap.size vl' l∧Below W.heap.size W w'):=fun W h=>Zwb _ ⟨kind,l,f,g⟩ W ⟨vl,rfl,J.below h zL,E,G⟩ T
 have Y:Hid (∀ j W,RdI W j l->Calls prog 82 #[.agg #[.int .i64 kind,j,.bool f,.int .i64 g]] W fun e w'=>e=.returned (.bool (decide (X8 ⟨kind,l,f,g⟩)))∧Below W.heap.size W w'):=fun j W h=>ZkV _ ⟨kind,l,f,g⟩ W ⟨j,rfl,h,E,G⟩
 have A:Hid (∀ x y z,Below w.heap.size w (((w.alloc x).alloc y).alloc z)):=fun x y z=>(Y8 w x y z).1
 have I:Hid (∀ x y z,(((w.alloc x).alloc y).alloc z).heap.size=w.heap.size+1+1+1):=fun x y z=>ZyQ w x y z
 have am:=Qc E;have aj:=Qc G;obtain⟨q,a,b⟩:=o;clear J E G T;show Calls prog _ #[_,.agg #[.int .i64 q,.int .i64 a,.int .i64 b]] w _;by_cases u:X8 ⟨kind,l,f,g⟩
 ·have K:=Qc (decide_eq_true u)
  have ai:Hid (∀ j B W,Qo W B j l->B<=W.heap.size->Calls prog 83 #[.agg #[.int .i64 kind,j,.bool f,.int .i64 g],.agg #[.int .i64 q,.int .i64 a,.int .i64 b]] W fun e w'=>Did B W j (Y9 ⟨kind,l,f,g⟩ ⟨q,a,b⟩) e w'):=fun j B W h1 h2=>Zxw ⟨kind,l,f,g⟩ j ⟨q,a,b⟩ B W h1 h2 u
  have C:=Zhm u ⟨q,a,b⟩;have ad:=Qc (ZtR C);have ag:Hid (I64 (Y9 ⟨kind,l,f,g⟩ ⟨q,a,b⟩).1.kind):=Qk (by have:=C.2.2.2.1;omega) (by have:=C.2.2.2.2.1;omega)
  have Z:Hid (I64 (Y9 ⟨kind,l,f,g⟩ ⟨q,a,b⟩).1.eng):=Qk (by have:=C.1;omega) (by have:=C.2.1;omega)
  obtain⟨⟨⟨k',L',s',g'⟩,n'⟩,ab⟩:∃ r,r=Y9 ⟨kind,l,f,g⟩ ⟨q,a,b⟩:=⟨_,rfl⟩;rw[<-ab] at ai ad ag Z ⊢;clear u C ab
  go_enter func42,ntmps42
  go_wp2_with fail
  refine(af.o _ (A.o _ _ _)).mono ?_;rintro e c ⟨j,rfl,p,n⟩;rw[I.o] at p;have D:=Qc ((J2.made w _ _ _).below n (by simp))
  have t:=Qc ((A.o _ _ _).trans (n.mono (A.o _ _ _).size));have F:=Qc p;have V:=n.size;rw[I.o] at V;obtain⟨ao,cap,rfl⟩:=p.shape;clear n p
  go_wp2_with fail
  refine(Y.o _ _ ((F.o.alloc _).rd P.o)).mono ?_;rintro e m ⟨rfl,i⟩;rw[K.o];have Q:=Qc ((t.o.alloc t.o.size _).trans (i.mono (by have:=t.o.size;simp;omega)))
  have H:=Qc ((F.o.alloc _).below i zL);have an:=i.size;have d:=(D.o.below ((Below.refl c.heap.size c).alloc zL _) (by omega)).below i (by simp;omega)
  have k:=(i.block c.heap.size (by simp)).trans (heap_alloc_new c _)
  have aq:=Qc d;obtain⟨p0,-⟩:=d.o 0;obtain⟨p1,-⟩:=d.o 1;obtain⟨p2,-⟩:=d.o 2;have q0:=cell_of_row m c.heap.size 0 _ _ _ k;have q1:=cell_of_row m c.heap.size 1 _ _ _ k;have q2:=cell_of_row m c.heap.size 2 _ _ _ k;have q3:=cell_of_row m c.heap.size 3 _ _ _ k;have ac:w.heap.size+1+1+1<=m.heap.size:=by simp at an;omega
  clear i d k D
  go_wp2_with fail
  refine(ai.o _ _ _ H.o ac).mono ?_;rintro e W3 ⟨v3,rfl,S,aa⟩;have M:=aa.below H.o ac;have d:=aq.o.below M zL;obtain⟨U,t0⟩:=d.r 0;obtain⟨X,t1⟩:=d.r 1;obtain⟨O,t2⟩:=d.r 2;obtain⟨N,t3⟩:=d.r 3;have al:=Qc (Q.o.trans (M.mono (by omega)))
  have ae:=Qc S;obtain⟨ak,ap,rfl⟩:=S.shape;clear M aa d S;go_wp2;refine bodyPost_ret (v:=.tuple #[.agg #[.int .i64 k',.slice ak L'.length ap,.bool s',.int .i64 g'],.int .i64 n']) (by simp[results,Tryz.results42,go_sem,U,X,O,N]) rfl ?_
  refine Zfb.fresh ((ae.o.four (w.heap.size+1+1) (by omega) _ _ _ _).rd ad.o) ag.o Z.o n' (fun b R=>?_) (Zae al.o (w.heap.size+1+1) (by omega) _ _ _ _)
  have:=ae.o.fresh b R;omega
 ·have K:=Qc (decide_eq_false u)
  have HR:=Qc (Zhl u ⟨q,a,b⟩);rw[HR.o];clear u
  go_enter func42,ntmps42
  go_wp2_with fail
  refine(af.o _ (A.o _ _ _)).mono ?_;rintro e c ⟨j,rfl,p,n⟩;rw[I.o] at p;have D:=Qc ((J2.made w _ _ _).below n (by simp))
  have t:=Qc ((A.o _ _ _).trans (n.mono (A.o _ _ _).size));have F:=Qc p;have V:=n.size;rw[I.o] at V;obtain⟨ao,cap,rfl⟩:=p.shape;clear n p
  go_wp2_with fail
  refine(Y.o _ _ ((F.o.alloc _).rd P.o)).mono ?_;rintro e m ⟨rfl,i⟩;rw[K.o];have Q:=Qc ((t.o.alloc t.o.size _).trans (i.mono (by have:=t.o.size;simp;omega)))
  have H:=Qc ((F.o.alloc _).below i zL);have d:=(D.o.below ((Below.refl c.heap.size c).alloc zL _) (by omega)).below i (by simp;omega)
  have k:=(i.block c.heap.size (by simp)).trans (heap_alloc_new c _)
  obtain⟨U,t0⟩:=d.r 0;obtain⟨X,t1⟩:=d.r 1;obtain⟨O,t2⟩:=d.r 2;obtain⟨N,t3⟩:=d.r 3;have q0:=cell_of_row m c.heap.size 0 _ _ _ k;have q1:=cell_of_row m c.heap.size 1 _ _ _ k;have q2:=cell_of_row m c.heap.size 2 _ _ _ k;have q3:=cell_of_row m c.heap.size 3 _ _ _ k;clear i d k D;go_wp2;refine bodyPost_ret (v:=.tuple #[.agg #[.int .i64 kind,.slice ao l.length cap,.bool f,.int .i64 g],.int .i64 0]) (by simp[results,Tryz.results42,go_sem,U,X,O,N]) rfl ?_
  refine Zfb.fresh ((H.o.four (w.heap.size+1+1) (by omega) _ _ _ _).rd P.o) am.o aj.o 0 (fun b R=>?_) (Zae Q.o (w.heap.size+1+1) (by omega) _ _ _ _)
  have:=H.o.fresh b R;omega
theorem Zrx (s:St) (o:Opn):I64 (Y9 s o).2:=by
 by_cases h:s.kind≠4∨s.shut=true∨o.code=10∨o.code=5∨o.code=6∨o.code=7∨(0<=o.a∧o.a<=255)
 ·rw[ZvD s o h]
  exact ZsZ s o
 ·by_cases d:X8 s
  ·have b:s.kind=4:=by
    by_cases b:s.kind=4
    ·exact b
    ·exact absurd (.inl b) h
   have c:s.shut=false:=by
    cases c:s.shut
    ·rfl
    ·exact absurd (.inr (.inl c)) h
   have f:o.code≠10:=fun e=>h (.inr (.inr (.inl e)))
   have g:¬ (0<=o.a∧o.a<=255):=fun e=>h (.inr (.inr (.inr (.inr (.inr (.inr e))))))
   rw[ZjM d c o f,if_neg (by omega),if_neg (by omega),if_pos b]
   unfold Ze;rw[if_pos (by omega)]
   exact(Qk (by decide) (by decide):I64 (-1))
  ·rw[Zhl d]
   exact(Qk (by decide) (by decide):I64 0)
theorem Zxx (n a b:Int) (B:Bool) (i:B=decide (a<=n∧n<=b)) (w:World):
 Calls prog 79 #[.int .i64 n,.int .i64 a,.int .i64 b] w fun e w'=>e=.returned (.bool B)∧w'=w:=by
 have c:=ZZ i;clear i;by_cases f:a<=n
 ·by_cases g:n<=b
  ·have d:Hid (true=B):=ZZ (by rw[c.o,decide_eq_true ⟨f,g⟩])
   clear c
   go_enter func79,ntmps79
   go_wp2;go_ret;exact⟨Yk d.o,rfl⟩
  ·have d:Hid (false=B):=ZZ (by rw[c.o,decide_eq_false fun h=>g h.2])
   clear c
   go_enter func79,ntmps79
   go_wp2;go_ret;exact⟨Yk d.o,rfl⟩
 ·have d:Hid (false=B):=ZZ (by rw[c.o,decide_eq_false fun h=>f h.1])
  clear c
  go_enter func79,ntmps79
  go_wp2;go_ret;exact⟨Yk d.o,rfl⟩
theorem ZoC (r:Rec):Qw r↔(0<=r.idx∧r.idx<=4611686018427387903)∧(0<=r.proc∧r.proc<=64)∧(0<=r.seq∧r.seq<=4611686018427387903)∧Jg r.op∧(-1125899906842624<=r.resp∧r.resp<=1125899906842624):=by
 unfold Qw;constructor
 ·rintro⟨h1,h2,h3,h4,h5,h6,h7,h8,h9⟩
  exact⟨⟨h2,by omega⟩,⟨h6,h7⟩,⟨h4,by omega⟩,h1,h8,h9⟩
 ·rintro⟨⟨h2,h3⟩,⟨h6,h7⟩,⟨h4,h5⟩,h1,h8,h9⟩
  exact⟨h1,h2,by omega,h4,by omega,h6,h7,h8,h9⟩
theorem ZhI (r:Rec) (w:World):
 Calls prog 41 #[Zrr r] w fun e w'=>e=.returned (.bool (decide (Qw r)))∧Below w.heap.size w w':=by
 obtain⟨B,y⟩:∃ B,B=decide (Qw r):=⟨_,rfl⟩;rw[<-y];have g:=ZZ (ZoC r);have H:=ZZ (fun W=>ZkW r.op W)
 have f:=ZZ y;clear y;obtain⟨idx,proc,seq,⟨D,a,b⟩,resp⟩:=r;show Calls prog _ #[.agg #[.int .i64 idx,.int .i64 proc,.int .i64 seq,.int .i64 D,.int .i64 a,.int .i64 b,.int .i64 resp]] w _;have m:Hid (∀ X,Below w.heap.size w (w.alloc X)):=fun X=>(Below.refl _ _).alloc zL X
 have F:Hid (∀ cs,Br (w.alloc (.cells cs 62)) w.heap.size cs):=fun cs=>heap_alloc_new w _
 have p:Hid (∀ W,Calls prog 80 #[.agg #[.int .i64 D,.int .i64 a,.int .i64 b]] W fun e w'=>e=.returned (.bool (decide (Jg ⟨D,a,b⟩)))∧Below W.heap.size W w'):=H.o
 clear H;have c:=ZZ (fun n a b B y W=>Zxx n a b B y W)
 by_cases j:0<=idx∧idx<=4611686018427387903
 case neg=>
  have i:Hid (false=B):=ZZ (by rw[f.o,decide_eq_false fun h=>j (g.o.1 h).1])
  have I:=ZZ (decide_eq_false j).symm;clear f g j p
  go_enter func41,ntmps41
  go_wp2_with fail
  refine(c.o _ _ _ _ I.o _).mono ?_;rintro e d ⟨rfl,rfl⟩;go_wp2;go_ret;exact⟨Yk i.o,m.o _⟩
 have A:=ZZ (decide_eq_true j).symm;by_cases l:0<=proc∧proc<=64
 case neg=>
  have i:Hid (false=B):=ZZ (by rw[f.o,decide_eq_false fun h=>l (g.o.1 h).2.1])
  have v:=ZZ (decide_eq_false l).symm;clear f g j l p
  go_enter func41,ntmps41
  go_wp2_with fail
  refine(c.o _ _ _ _ A.o _).mono ?_;rintro e d ⟨rfl,rfl⟩
  go_wp2_with fail
  refine(c.o _ _ _ _ v.o _).mono ?_;rintro e d ⟨rfl,rfl⟩;go_wp2;go_ret;exact⟨Yk i.o,m.o _⟩
 have v:=ZZ (decide_eq_true l).symm;by_cases q:0<=seq∧seq<=4611686018427387903
 case neg=>
  have i:Hid (false=B):=ZZ (by rw[f.o,decide_eq_false fun h=>q (g.o.1 h).2.2.1])
  have x:=ZZ (decide_eq_false q).symm;clear f g j l q p
  go_enter func41,ntmps41
  go_wp2_with fail
  refine(c.o _ _ _ _ A.o _).mono ?_;rintro e d ⟨rfl,rfl⟩
  go_wp2_with fail
  refine(c.o _ _ _ _ v.o _).mono ?_;rintro e d ⟨rfl,rfl⟩
  go_wp2_with fail
  refine(c.o _ _ _ _ x.o _).mono ?_;rintro e d ⟨rfl,rfl⟩;go_wp2;go_ret;exact⟨Yk i.o,m.o _⟩
 have x:=ZZ (decide_eq_true q).symm;by_cases t:Jg ⟨D,a,b⟩
 case neg=>
  have i:Hid (false=B):=ZZ (by rw[f.o,decide_eq_false fun h=>t (g.o.1 h).2.2.2.1])
  rw[decide_eq_false t] at p;clear f g j l q t
  go_enter func41,ntmps41
  go_wp2_with fail
  refine(c.o _ _ _ _ A.o _).mono ?_;rintro e d ⟨rfl,rfl⟩
  go_wp2_with fail
  refine(c.o _ _ _ _ v.o _).mono ?_;rintro e d ⟨rfl,rfl⟩
  go_wp2_with fail
  refine(c.o _ _ _ _ x.o _).mono ?_;rintro e d ⟨rfl,rfl⟩
  go_wp2_with fail
  refine(p.o _).mono ?_;rintro e G ⟨rfl,k⟩;have C:=ZZ ((m.o _).trans (k.mono (m.o _).size));clear k;go_wp2;go_ret;exact⟨Yk i.o,C.o⟩
 rw[decide_eq_true t] at p;by_cases u:-1125899906842624<=resp∧resp<=1125899906842624
 case neg=>
  have i:Hid (false=B):=ZZ (by rw[f.o,decide_eq_false fun h=>u (g.o.1 h).2.2.2.2])
  have E:=ZZ (decide_eq_false u).symm;clear f g j l q t u
  go_enter func41,ntmps41
  go_wp2_with fail
  refine(c.o _ _ _ _ A.o _).mono ?_;rintro e d ⟨rfl,rfl⟩
  go_wp2_with fail
  refine(c.o _ _ _ _ v.o _).mono ?_;rintro e d ⟨rfl,rfl⟩
  go_wp2_with fail
  refine(c.o _ _ _ _ x.o _).mono ?_;rintro e d ⟨rfl,rfl⟩
  go_wp2_with fail
  refine(p.o _).mono ?_;rintro e G ⟨rfl,k⟩;have z:=(F.out _).below k zL;have C:=ZZ ((m.o _).trans (k.mono (m.o _).size));obtain⟨K,-⟩:=z.cell 6;clear k z
  go_wp2_with fail
  refine(c.o _ _ _ _ E.o _).mono ?_;rintro e J ⟨rfl,rfl⟩;go_wp2;go_ret;exact⟨Yk i.o,C.o⟩
 have i:Hid (true=B):=ZZ (by rw[f.o,decide_eq_true (g.o.2 ⟨j,l,q,t,u⟩)])
 have E:=ZZ (decide_eq_true u).symm;clear f g j l q t u
 go_enter func41,ntmps41
 go_wp2_with fail
 refine(c.o _ _ _ _ A.o _).mono ?_;rintro e d ⟨rfl,rfl⟩
 go_wp2_with fail
 refine(c.o _ _ _ _ v.o _).mono ?_;rintro e d ⟨rfl,rfl⟩
 go_wp2_with fail
 refine(c.o _ _ _ _ x.o _).mono ?_;rintro e d ⟨rfl,rfl⟩
 go_wp2_with fail
 refine(p.o _).mono ?_;rintro e G ⟨rfl,k⟩;have z:=(F.out _).below k zL;have C:=ZZ ((m.o _).trans (k.mono (m.o _).size));obtain⟨K,-⟩:=z.cell 6;clear k z
 go_wp2_with fail
 refine(c.o _ _ _ _ E.o _).mono ?_;rintro e J ⟨rfl,rfl⟩;go_wp2;go_ret;exact⟨Yk i.o,C.o⟩
def ZhJ (w:World) (vl0 vt0:Value) (l:List Rec) (r:Qv × Int) (e:Ending) (w':World):Prop:=
 ∃ vl vt,e=.returned (.tuple #[.agg #[.int .i64 r.1.idx,.int .i64 r.1.st.kind,vl,.bool r.1.st.shut,.int .i64 r.1.st.eng,vt],.int .i64 r.2])∧RdI w' vl r.1.st.L∧I64 r.1.st.kind∧I64 r.1.st.eng∧RdE w' vt r.1.tab∧I64 r.1.idx∧
  (vl=vl0∨∀ b,vl.ownBlock=some b->w.heap.size<=b)∧((l=[]∧vt=vt0)∨Xc w' w.heap.size vt r.1.tab)∧Below w.heap.size w w'
def ZmD (w:World) (S:Qv) (wr:World):Prop:=
 ∃ la lc ta tc,Bn wr w.heap.size #[.int .i64 S.idx,.int .i64 S.st.kind,.slice la S.st.L.length lc,.bool S.st.shut,.int .i64 S.st.eng,.slice ta S.tab.length tc]∧
  Bn wr (w.heap.size+1) #[.int .i64 0,.int .i64 0,.slice none 0 0,.bool false,.int .i64 0,.slice none 0 0]∧
  RdI wr (.slice la S.st.L.length lc) S.st.L∧(∀ b,(Value.slice la S.st.L.length lc).ownBlock=some b->w.heap.size+2<=b)∧
  Xc wr (w.heap.size+2) (.slice ta S.tab.length tc) S.tab∧(∀ e ∈ S.tab,ZkN e)∧I64 S.idx∧I64 S.st.kind∧I64 S.st.eng∧Below w.heap.size w wr
theorem Qo.freshI {l:List Int} (h:Qo w B v l):∀ b,v.ownBlock=some b->B<=b:=fun b a=>(World.ownsRow.lt h b a).1
theorem Xc.butN {l:List Ent} (h:Xc w B v l) (a:But R T w w') (k:∀ b,v.ownBlock=some b->b≠R∧b≠T):Xc w' B v l:=by
 rcases h.row with ⟨rfl,rfl⟩ | ⟨g,cap,cur,rfl,d,c,m,i,e,j,f⟩
 ·exact Xc.nil _ _
 ·have:=k g rfl
  exact Xc.ofRow rfl d ((a.block g c this.1 this.2).trans m) i e j f
theorem Xc.but {l:List Ent} (h:Xc w B v l) (a:But R T w w') (d:R<B) (c:T<B):Xc w' B v l:=
 h.butN a (fun b a=>by have:=h.fresh b a;omega)
theorem ZhK {l:Bool} {u:Value} {L:List Int} {d:Option Addr}
 (m:Bn W w.heap.size #[.int .i64 idx,.int .i64 kind,v,.bool l,.int .i64 j,u]) (t:Bn W (w.heap.size+1) #[.int .i64 0,.int .i64 0,.slice none 0 0,.bool false,.int .i64 0,.slice none 0 0])
 (k:Qo W (w.heap.size+2) (.slice d L.length c) L) (A:∀ n ∈ L,I64 n) (x:Xc W (w.heap.size+2) (.slice f a.length g) a) (y:∀ e ∈ a,ZkN e) (z:I64 idx) (p:I64 kind) (B:I64 j) (q:Below w.heap.size w W):
 ZmD w ⟨idx,⟨kind,L,l,j⟩,a⟩ ((W.setCell ⟨w.heap.size,2,none⟩ (.slice d L.length c)).setCell ⟨w.heap.size,5,none⟩ (.slice f a.length g)):=by
 have i:But w.heap.size w.heap.size W ((W.setCell ⟨w.heap.size,2,none⟩ (.slice d L.length c)).setCell ⟨w.heap.size,5,none⟩ (.slice f a.length g)):=((But.refl _ _ _).set _ _ (.inl rfl) _).set _ _ (.inl rfl) _;refine⟨d,c,f,g,(m.set 2 _).set 5 _,(t.other 2 _ (by omega)).other 5 _ (by omega),(k.rd A).but i (.inr fun b h=>?_),k.freshI,x.but i (by omega) (by omega),y,z,p,B,Zaf q i (by have:=m.lt;omega) zL zL⟩
 have:=k.freshI b h;omega
theorem ZtS {s:St} (o:Opn) (h:s.L.length<=1000):(Y9 s o).1.L.length<=1000:=by
 by_cases a:X8 s
 ·have:=(Zhb (Zhm a o)).2.1
  omega
 ·rw[Zhl a]
  exact h
theorem Zry {s:Qv} {l:List Rec} {q:Nat} (a:q<l.length):Xa s (l.drop q)=if(l.getD q Qi).idx≠s.idx then(Xr,15) else if ¬ Qw (l.getD q Qi) then(Xr,1) else Xa (ZiW s (l.getD q Qi)) (l.drop (q+1)):=by
 have e:l.drop q=l.getD q Qi::l.drop (q+1):=by
  rw[List.drop_eq_getElem_cons a];simp[List.getD,a]
 rw[e,Xa]
def Zfx (W:World) (R Q:Nat) (k:Int) (v:Value) (sh:Bool) (g n:Int):World:=
 ((((W.setCell ⟨R,1,none⟩ (.int .i64 k)).setCell ⟨R,2,none⟩ v).setCell ⟨R,3,none⟩ (.bool sh)).setCell ⟨R,4,none⟩ (.int .i64 g)).setCell ⟨Q,6,none⟩ (.int .i64 n)
theorem Br.other {cs:Array Value} (h:Br w b cs) (j:Nat) (x:Value) (a:b≠c):Br (w.setCell ⟨c,j,none⟩ x) b cs:=(Below.heap_setCell _ _ _ _ a).trans h
theorem ZoD (W:World) (R Q:Nat) (k:Int) (v:Value) (a:Bool) (g n:Int):But R Q W (Zfx W R Q k v a g n):=
 (((((But.refl R Q W).set _ _ (.inl rfl) _).set _ _ (.inl rfl) _).set _ _ (.inl rfl) _).set _ _ (.inl rfl) _).set _ _ (.inr rfl) _
theorem Zrz (d:R≠Q) {c e f j i a:Value} (h:Bn W R #[c,e,f,j,i,a]) (k:Int) (v:Value) (b:Bool) (g n:Int):Bn (Zfx W R Q k v b g n) R #[c,.int .i64 k,v,.bool b,.int .i64 g,a]:=
 ((((h.set 1 _).set 2 _).set 3 _).set 4 _).other 6 _ d
theorem ZrA (a:Q≠R) {c d e i f b j:Value} (h:Br W Q #[c,d,e,i,f,b,j]) (k:Int) (v:Value) (l:Bool) (g n:Int):Br (Zfx W R Q k v l g n) Q #[c,d,e,i,f,b,.int .i64 n]:=
 ((((h.other 1 _ a).other 2 _ a).other 3 _ a).other 4 _ a).set 6 _
theorem ZoE {C:Nat} (a:C≠R) (c:C≠Q) {cs:Array Value} (h:Bn W C cs) (k:Int) (v:Value) (b:Bool) (g n:Int):Bn (Zfx W R Q k v b g n) C cs:=
 ((((h.other 1 _ a).other 2 _ a).other 3 _ a).other 4 _ a).other 6 _ c
theorem ZoF {k:Bool} {t:Value} {L:List Int} {d:Option Addr}
 (l:Bn W w.heap.size #[.int .i64 idx,.int .i64 kind,.slice d L.length c,.bool k,.int .i64 j,t]) (q:Bn W (w.heap.size+1) #[.int .i64 0,.int .i64 0,.slice none 0 0,.bool false,.int .i64 0,.slice none 0 0])
 (u:RdI W (.slice d L.length c) L) (m:∀ b,(Value.slice d L.length c).ownBlock=some b->w.heap.size+2<=b) (v:Xc W (w.heap.size+2) (.slice f a.length g) a) (x:∀ e ∈ a,ZkN e) (y:I64 (idx+1)) (n:I64 kind) (z:I64 j) (p:Below w.heap.size w W):
 ZmD w ⟨idx+1,⟨kind,L,k,j⟩,a⟩ ((W.setCell ⟨w.heap.size,5,none⟩ (.slice f a.length g)).setCell ⟨w.heap.size,0,none⟩ (.int .i64 (idx+1))):=by
 have i:But w.heap.size w.heap.size W ((W.setCell ⟨w.heap.size,5,none⟩ (.slice f a.length g)).setCell ⟨w.heap.size,0,none⟩ (.int .i64 (idx+1))):=((But.refl _ _ _).set _ _ (.inl rfl) _).set _ _ (.inl rfl) _;refine⟨d,c,f,g,(l.set 5 _).set 0 _,(q.other 5 _ (by omega)).other 0 _ (by omega),u.but i (.inr fun b h=>?_),m,v.but i (by omega) (by omega),x,y,n,z,Zaf p i (by have:=l.lt;omega) zL zL⟩
 have:=m b h;omega
theorem ZhJ.zero (c d:Value) (l:List Rec) (n:Int) (a:Below w.heap.size w w'):ZhJ w c d l (Xr,n) (.returned (.tuple #[.agg #[.int .i64 0,.int .i64 0,.slice none 0 0,.bool false,.int .i64 0,.slice none 0 0],.int .i64 n])) w':=
 ⟨_,_,rfl,RdI.nil _,(Qk (by decide) (by decide):I64 0),(Qk (by decide) (by decide):I64 0),RdE.nil _,(Qk (by decide) (by decide):I64 0),.inr (fun b a=>by simp[Value.ownBlock] at a),.inr (Xc.nil _ _),a⟩
theorem ZmE {P:Qv->Prop} (a3:∀ S r,P S->Qw r->P (ZiW S r)) (aR:∀ S,P S->S.tab.length<=1500) (idx kind:Int) (vl:Value) (M:Bool) (H:Int) (vt:Value) (s:Qv) (vr:Value) (l:List Rec) (w:World) (hs:SnV w (.agg #[.int .i64 idx,.int .i64 kind,vl,.bool M,.int .i64 H,vt]) s) (hr:RdR w vr l) (be:s.st.L.length<=1000) (bB:s.tab.length<=1000) (bY:l.length<=1000000000) (bo:P s):
 Calls prog 15 #[.agg #[.int .i64 idx,.int .i64 kind,vl,.bool M,.int .i64 H,vt],vr] w fun e w'=>ZhJ w vl vt l (Xa s l) e w':=by
 obtain⟨vl',bZ,U,hl,hk,C,ht,hi⟩:=hs
 injection U with U
 injection U with U
 simp only [List.cons.injEq,Value.int.injEq,Value.bool.injEq,and_true,true_and] at U;obtain⟨rfl,rfl,rfl,rfl,rfl,rfl⟩:=U;obtain⟨la,lc,bu,-⟩:=id hl;obtain⟨ta,tc,bR⟩:=ht.shape;subst bu bR;obtain⟨ra,rc,rfl,bP,bJ,-,aT,bg⟩:=hr;have bW:=ZZ a3;have bC:=ZZ aR;clear a3 aR;have a9:=ZZ bg;have bl:=ZZ aT;obtain⟨idx,⟨kind,L,M,H⟩,ab⟩:=s
 dsimp only at *
 have bc:=ZZ bo;clear bo;obtain⟨K,aJ⟩:∃ K,K=Xa ⟨idx,⟨kind,L,M,H⟩,ab⟩ l:=⟨_,rfl⟩;rw[<-aJ];have aX:=ZZ aJ;have aQ:Hid (∀ (S:Qv) (q:Nat),q<l.length->Xa S (l.drop q)=if(l.getD q Qi).idx≠S.idx then(Xr,15) else if ¬ Qw (l.getD q Qi) then(Xr,1) else Xa (ZiW S (l.getD q Qi)) (l.drop (q+1))):=ZZ (fun S q hq=>Zry hq)
 clear aJ bg aT bP bJ;have ba:=ZZ (fun W (h:Below w.heap.size w W)=>Zfr _ L W (hl.below h zL) (by omega))
 have bp:=ZZ (fun W (h:Below w.heap.size w W)=>Zfs _ ab W (ht.below h zL) (by omega))
 have az:=ZZ hl.i64;have bb:∀ e ∈ ab,ZkN e:=ht.choose_spec.choose_spec.2.2.2.2.1;have bk:=ZZ bb;have u:Hid (∀ X Y,Below w.heap.size w ((w.alloc X).alloc Y)):=fun X Y=>((Below.refl _ _).alloc zL X).alloc (by simp) Y
 have ac:Hid (∀ cs V,Bn ((w.alloc (.cells cs 41)).alloc (.cells V 41)) w.heap.size cs):=fun cs V=>(Below.heap_alloc _ _ _ (by simp)).trans (heap_alloc_new w _)
 have j:Hid (∀ cs V,Bn ((w.alloc (.cells cs 41)).alloc (.cells V 41)) (w.heap.size+1) V):=fun cs V=>ZdM w _ _
 clear hl ht bb
 go_enter func15,ntmps15
 go_upto_region 1 with fail
 obtain⟨d,f⟩:∃ d,d=(w.alloc (.cells #[.int .i64 idx,.int .i64 kind,.slice la L.length lc,.bool M,.int .i64 H,.slice ta ab.length tc] 41)).alloc (.cells #[.int .i64 0,.int .i64 0,.slice none 0 0,.bool false,.int .i64 0,.slice none 0 0] 41):=⟨_,rfl⟩;have G:Hid (Below w.heap.size w d):=ZZ (by rw[f];exact u.o _ _)
 have z:Hid (Bn d w.heap.size #[.int .i64 idx,.int .i64 kind,.slice la L.length lc,.bool M,.int .i64 H,.slice ta ab.length tc]):=ZZ (by rw[f];exact ac.o _ _)
 have a7:Hid (Bn d (w.heap.size+1) #[.int .i64 0,.int .i64 0,.slice none 0 0,.bool false,.int .i64 0,.slice none 0 0]):=ZZ (by rw[f];exact j.o _ _)
 have bx:d.heap.size=w.heap.size+2:=by rw[f];simp
 rw[<-f];clear f u ac j;obtain⟨p2,g2⟩:=z.o.cell 2;obtain⟨p5,g5⟩:=z.o.cell 5
 go_cut[] (fun wc=>Hid (ZmD w ⟨idx,⟨kind,L,M,H⟩,ab⟩ wc))
 case first=>
  go_region_with
   (first
    | (go_at_call 39;refine(ba.o _ (by first | exact G.o.drew | exact G.o)).mono ?_;rintro e W1 ⟨v1,rfl,aM,k⟩;have av:Below d.heap.size d W1:=(by first | exact((Below.refl _ _).drew).trans k | exact k);have bw:=ZZ aM;have O:=ZZ av;obtain⟨a1,c1,bM⟩:∃ a c,v1=.slice a L.length c:=(by obtain⟨a,c,h,-⟩:=aM.rd az.o;exact⟨a,c,h⟩);subst bM;obtain⟨q2,k2⟩:=(z.o.below av zL).cell 2;obtain⟨q5,k5⟩:=(z.o.below av zL).cell 5;clear aM k av)
    | (go_at_call 40;refine(bp.o _ (G.o.trans (O.o.mono G.o.size))).mono ?_;rintro e W2 ⟨v2,rfl,aL,m⟩;have bL:=ZZ aL;have aj:=ZZ (O.o.trans (m.mono O.o.size));have bG:=ZZ (bw.o.below m zL);obtain⟨a2,c2,aE⟩:=aL.shape;subst aE;obtain⟨r2,j2⟩:=(z.o.below aj.o zL).cell 2;obtain⟨r5,j5⟩:=(z.o.below aj.o zL).cell 5;clear aL m))
  all_goals
   go_wp2_with fail
   go_meet
   exact ZZ (ZhK (z.o.below aj.o zL) (a7.o.below aj.o zL) (bG.o.mono (by first | omega | (show w.heap.size+2<=d.heap.size;omega))) az.o (bL.o.mono (by have:=O.o.size;omega)) bk.o hi hk C (G.o.trans (aj.o.mono G.o.size)))
 case rest=>
  have a0:=hcut;clear hcut G z a7 bx p2 g2 p5 g5 ba bp az bk d hk C hi;go_wp2
  go_loopw[20] (fun vi wr=>∃ (q:Nat) (S:Qv),vi=.int .i64 (q:Int)∧q<=l.length∧Hid (ZmD w S wr)∧Hid (K=Xa S (l.drop q))∧Hid (S.st.L.length<=1000)∧Hid (P S)) (fun vi _=>l.length-(intOf vi).toNat)
  case atStart=>exact⟨0,_,rfl,Nat.zero_le _,a0,aX,ZZ be,bc⟩
  case round=>
   clear a0 aX be bB bc;obtain⟨q,S,rfl,hq,hT,ap,a6,aZ⟩:=hrel;obtain⟨sa,sc,ea,ec,y,t,hL,bd,hE,aW,hi,hk,C,hB⟩:=hT.out;clear hT;have HX:=ZZ y;have HY:=ZZ t;have HL:=ZZ hL;have an:=ZZ bd;have HE:=ZZ hE;have aw:=ZZ aW;have ag:=ZZ (And.intro hi (And.intro hk C));have HB:=ZZ hB;have bE:=ZZ t.lt;obtain⟨p0,g0⟩:=y.cell 0;obtain⟨p1,g1⟩:=y.cell 1;obtain⟨p2,g2⟩:=y.cell 2;obtain⟨p3,g3⟩:=y.cell 3;obtain⟨p4,g4⟩:=y.cell 4;obtain⟨p5,g5⟩:=y.cell 5;obtain⟨Q,y0⟩:=t.cell 0;obtain⟨Z,y1⟩:=t.cell 1;obtain⟨T,y2⟩:=t.cell 2;obtain⟨z3,y3⟩:=t.cell 3;obtain⟨z4,y4⟩:=t.cell 4;obtain⟨z5,y5⟩:=t.cell 5;clear y t hL bd hE aW hi hk C hB;by_cases I:q<l.length
   case neg=>
    obtain rfl:q=l.length:=by omega
    have F:Hid (K=(S,0)):=ZZ (by rw[ap.out,List.drop_length];rfl)
    clear ap;have b2:¬ (w.heap.size=w.heap.size+1):=by omega
    go_wp2;refine bodyPost_ret (v:=.tuple #[.agg #[.int .i64 S.idx,.int .i64 S.st.kind,.slice sa S.st.L.length sc,.bool S.st.shut,.int .i64 S.st.eng,.slice ea S.tab.length ec],.int .i64 0]) (by simp[results,Tryz.results15,go_sem,Q,Z,T,z3,z4,z5]) rfl ?_
    rw[F.o];have aP:=ZpZ wr (w.heap.size+1) (.int .i64 S.idx) (.int .i64 S.st.kind) (.slice sa S.st.L.length sc) (.bool S.st.shut) (.int .i64 S.st.eng) (.slice ea S.tab.length ec);exact⟨_,_,rfl,HL.o.but aP (.inr fun b h=>by have:=an.o b h;omega),ag.o.2.1,ag.o.2.2,(HE.o.rd aw.o).but aP (.inr fun b h=>by have:=HE.o.fresh b h;omega),ag.o.1,.inr (fun b h=>by have:=an.o b h;omega),.inr ((HE.o.but aP (by omega) (by omega)).mono (by omega)),Zew HB.o _ (by omega) _ _ _ _ _ _⟩
   have b1:(q:Int)<(l.length:Int):=by omega
   rcases a9.o with h0 | ⟨c,b4,rfl,hc⟩
   ·rw[h0] at I;simp at I
   obtain⟨c0,c1,c2,c3,c4,c5,c6⟩:=(hc q I).keep (HB.o.block c (hc q I).lt);have D:=ZZ (aQ.o S q I);rw[<-ap.out] at D;have al:=ZZ (fun W=>ZhI (l.getD q Qi) W)
   have N:Hid (ZcK (l.getD q Qi)):=ZZ (bl.o _ (by rw[show l.getD q Qi=l[q] by simp[List.getD,I]];exact List.getElem_mem I))
   obtain⟨r,hr⟩:∃ r,r=l.getD q Qi:=⟨_,rfl⟩;rw[<-hr] at D al N c0 c1 c2 c3 c4 c5 c6;clear hr hc aQ a9 bl ap;obtain⟨bf,aD⟩:∃ bf,bf=decide (Qw r):=⟨_,rfl⟩;rw[<-aD] at al;have aI:=ZZ aD;clear aD;have b3:=bE.o;clear p0 p1 p2 p3 p4 p5 g0 g1 g2 g3 g4 g5 Q Z T z3 z4 z5 y0 y1 y2 y3 y4 y5
   go_upto_region 5 with fail
   obtain⟨d,f⟩:∃ d,d=wr.alloc (.cells (Zi r) 62):=⟨_,rfl⟩;have u:Hid (Below wr.heap.size wr d):=ZZ (by rw[f];exact(Below.refl _ _).alloc zL _)
   have g:Hid (Br d wr.heap.size (Zi r)):=ZZ (by rw[f];exact heap_alloc_new wr _)
   unfold Zi at f;rw[<-f];clear f c0 c1 c2 c3 c4 c5 c6;unfold Zi at g;unfold Zrr at al;obtain⟨i,au⟩:∃ i,i=wr.heap.size:=⟨_,rfl⟩;have ac:=ZZ (HX.o.below u.o zL);have j:=ZZ (HY.o.below u.o zL);have aq:=ZZ (HB.o.trans (u.o.mono HB.o.size));rw[<-au] at g ⊢;obtain⟨p0,g0⟩:=ac.o.cell 0;obtain⟨k0,-⟩:=g.o.cell 0;obtain⟨k1,-⟩:=g.o.cell 1;obtain⟨k2,-⟩:=g.o.cell 2;obtain⟨k3,-⟩:=g.o.cell 3;obtain⟨k4,-⟩:=g.o.cell 4;obtain⟨k5,-⟩:=g.o.cell 5;obtain⟨k6,-⟩:=g.o.cell 6;by_cases aa:r.idx=S.idx
   case neg=>
    have F:Hid (K=(Xr,15)):=ZZ (by rw[D.o,if_pos aa])
    have bV:(r.idx != S.idx)=true:=by rw[bne_iff_ne];exact aa
    obtain⟨Q,y0⟩:=j.o.cell 0;obtain⟨Z,y1⟩:=j.o.cell 1;obtain⟨T,y2⟩:=j.o.cell 2;obtain⟨z3,y3⟩:=j.o.cell 3;obtain⟨z4,y4⟩:=j.o.cell 4;obtain⟨z5,y5⟩:=j.o.cell 5;clear aa D au;go_wp2;refine bodyPost_ret (v:=.tuple #[.agg #[.int .i64 0,.int .i64 0,.slice none 0 0,.bool false,.int .i64 0,.slice none 0 0],.int .i64 15]) (by simp[results,Tryz.results15,go_sem,Q,Z,T,z3,z4,z5]) rfl ?_
    rw[F.o];exact ZhJ.zero _ _ _ _ (ZaY aq.o _ (by omega) _ _ _ _ _ _)
   have bV:(r.idx != S.idx)=false:=by rw[bne_eq_false_iff_eq];exact aa
   have aB:=ZZ aa;have ai:=ZZ au;clear aa au
   go_wp2_with fail
   refine(al.o _).mono ?_;rintro x W1 ⟨rfl,k⟩;have O:=ZZ (u.o.trans (k.mono u.o.size));have aK:=ZZ (aq.o.trans (k.mono aq.o.size));have af:=ZZ (ac.o.below k zL);have p:=ZZ (j.o.below k zL);have ae:=ZZ (g.o.below k zL);clear k u aq ac j g al p0 g0 k0 k1 k2 k3 k4 k5 k6
   cases bf with
   | false=>
    have F:Hid (K=(Xr,1)):=ZZ (by rw[D.o,if_neg (by rw[aB.o];simp),if_pos (of_decide_eq_false aI.o.symm)])
    obtain⟨Q,y0⟩:=p.o.cell 0;obtain⟨Z,y1⟩:=p.o.cell 1;obtain⟨T,y2⟩:=p.o.cell 2;obtain⟨z3,y3⟩:=p.o.cell 3;obtain⟨z4,y4⟩:=p.o.cell 4;obtain⟨z5,y5⟩:=p.o.cell 5;clear D;go_wp2;refine bodyPost_ret (v:=.tuple #[.agg #[.int .i64 0,.int .i64 0,.slice none 0 0,.bool false,.int .i64 0,.slice none 0 0],.int .i64 1]) (by simp[results,Tryz.results15,go_sem,Q,Z,T,z3,z4,z5]) rfl ?_
    rw[F.o];exact ZhJ.zero _ _ _ _ (ZaY aK.o _ (by omega) _ _ _ _ _ _)
   | true=>
    have aA:Hid (Qw r):=ZZ (of_decide_eq_true aI.o.symm);have F:Hid (K=Xa (ZiW S r) (l.drop (q+1))):=ZZ (by rw[D.o,if_neg (by rw[aB.o];simp),if_neg (fun h=>h aA.o)])
    have B:=ZZ (Zwc (.agg #[.int .i64 S.st.kind,.slice sa S.st.L.length sc,.bool S.st.shut,.int .i64 S.st.eng]) S.st r.op W1 ⟨_,rfl,HL.o.below O.o zL,ag.o.2.1,ag.o.2.2⟩ (by have:=a6.out;omega))
    rw[ZpH] at B;have aO:=ZZ (ZtS r.op a6.out);have am:=ZZ (Zrx S.st r.op);have ao:Hid (ZiW S r=⟨S.idx+1,(Y9 S.st r.op).1,ZcE S.tab ⟨r.proc,r.seq,(Y9 S.st r.op).2⟩⟩):=ZZ rfl;have bm:=ZZ (Zte S.tab ⟨r.proc,r.seq,(Y9 S.st r.op).2⟩);obtain⟨so,bn⟩:∃ so,so=Y9 S.st r.op:=⟨_,rfl⟩;rw[<-bn] at B aO am ao bm;clear bn D aI;obtain⟨⟨k',L',sh',g'⟩,n'⟩:=so
    dsimp only at B aO am ao bm
    unfold opV at B;unfold Zfb at B
    dsimp only at B
    obtain⟨p1,g1⟩:=af.o.cell 1;obtain⟨p2,g2⟩:=af.o.cell 2;obtain⟨p3,g3⟩:=af.o.cell 3;obtain⟨p4,g4⟩:=af.o.cell 4;obtain⟨k3,-⟩:=ae.o.cell 3;obtain⟨k4,-⟩:=ae.o.cell 4;obtain⟨k5,-⟩:=ae.o.cell 5
    go_wp2_with fail
    refine B.o.mono ?_;rintro x W2 ⟨v2,rfl,aN,aU,a8,aG,m⟩;clear B p1 g1 p2 g2 p3 g3 p4 g4 k3 k4 k5;have ad:=ZZ (af.o.below m zL);have bD:=ZZ (p.o.below m zL);have A:=ZZ (ae.o.below m zL);have aS:=ZZ (aK.o.trans (m.mono aK.o.size));have bO:=ZZ ((HE.o.below O.o zL).below m zL);obtain⟨a2,n2,aE⟩:∃ a c,v2=.slice a L'.length c:=by obtain⟨a,c,h,-⟩:=aN;exact⟨a,c,h⟩
    subst aE;have bX:i<W1.heap.size:=ae.o.lt
    have bU:Hid (L'=[]∨∀ b,(Value.slice a2 L'.length n2).ownBlock=some b->b≠w.heap.size∧b≠i):=ZZ (by
     rcases aG with ⟨J,h2⟩ | h
     ·rw[J,h2]
      rcases HL.o.old with h3 | h3
      ·exact .inl h3
      ·exact .inr fun b n=>by
        have h4:=h3 b n;have h5:=an.o b n;have h6:=ai.o;omega
     ·exact .inr fun b n=>by
       have h4:=h b n;have h5:=p.o.lt
       omega)
    have bA:Hid (∀ b,(Value.slice a2 L'.length n2).ownBlock=some b->w.heap.size+2<=b):=ZZ (fun b n=>by
     rcases aG with ⟨J,h2⟩ | h
     ·rw[J] at n
      exact an.o b n
     ·have h4:=h b n
      have h5:=p.o.lt
      omega)
    have bv:Hid (∀ b,(Value.slice ea S.tab.length ec).ownBlock=some b->b≠w.heap.size∧b≠i):=ZZ (fun b n=>by
     have J:=World.ownsRow.lt HE.o b n;have h2:=ai.o
     omega)
    have a4:w.heap.size≠i:=by have:=ai.o;omega
    have bN:i≠w.heap.size:=fun h=>a4 h.symm
    have bQ:w.heap.size+1≠i:=by have:=ai.o;omega
    have bI:=ZZ aN;have aY:=ZZ (And.intro aU a8);clear aN aU a8 aG m;obtain⟨E,R⟩:∃ E,E=Zfx W2 w.heap.size i k' (.slice a2 L'.length n2) sh' g' n':=⟨_,rfl⟩;have bT:Hid (Bn E w.heap.size #[.int .i64 S.idx,.int .i64 k',.slice a2 L'.length n2,.bool sh',.int .i64 g',.slice ea S.tab.length ec]):=ZZ (by rw[R];exact Zrz a4 ad.o _ _ _ _ _)
    have b5:Hid (Br E i #[.int .i64 r.idx,.int .i64 r.proc,.int .i64 r.seq,.int .i64 r.op.code,.int .i64 r.op.a,.int .i64 r.op.b,.int .i64 n']):=ZZ (by rw[R];exact ZrA bN A.o _ _ _ _ _)
    have aV:Hid (Bn E (w.heap.size+1) #[.int .i64 0,.int .i64 0,.slice none 0 0,.bool false,.int .i64 0,.slice none 0 0]):=ZZ (by rw[R];exact ZoE (by omega) bQ bD.o _ _ _ _ _)
    have ay:Hid (But w.heap.size i W2 E):=ZZ (by rw[R];exact ZoD _ _ _ _ _ _ _ _)
    have bS:=ZZ (bI.o.but ay.o bU.o);have br:=ZZ (bO.o.butN ay.o bv.o);have bi:=ZZ (Zaf aS.o ay.o aS.o.size zL (by have:=ai.o;omega))
    have ar:=ZZ (ZtL (.slice ea S.tab.length ec) S.tab ⟨r.idx,r.proc,r.seq,r.op,n'⟩ E (br.o.rd aw.o) ⟨N.o.1,N.o.2.1,N.o.2.2.1,N.o.2.2.2.1,am.o⟩ (by have:=bC.o _ aZ.out;omega))
    unfold Zrr at ar
    dsimp only at ar
    have aF:=R;unfold Zfx at aF;have s1:=(ad.o.cell 1);have s2:=(ad.o.cell 2);have s3:=(ad.o.cell 3);have s4:=(ad.o.cell 4);have s5:=(ad.o.cell 5);obtain⟨s1,u1⟩:=s1;obtain⟨s2,u2⟩:=s2;obtain⟨s3,u3⟩:=s3;obtain⟨s4,u4⟩:=s4;obtain⟨s5,u5⟩:=s5;obtain⟨t0,m0⟩:=A.o.cell 0;obtain⟨t1,m1⟩:=A.o.cell 1;obtain⟨t2,m2⟩:=A.o.cell 2;obtain⟨t3,m3⟩:=A.o.cell 3;obtain⟨t4,m4⟩:=A.o.cell 4;obtain⟨t5,m5⟩:=A.o.cell 5;obtain⟨t6,m6⟩:=A.o.cell 6;clear R
    go_wp2_with fail
    rw[<-aF];refine ar.o.mono ?_;rintro x W5 ⟨v5,rfl,aH,ak⟩;clear aF s1 s2 s3 s4 s5 u1 u2 u3 u4 u5 t0 t1 t2 t3 t4 t5 t6 m0 m1 m2 m3 m4 m5 m6 ar;have aC:=ZZ (bT.o.below ak zL);have bq:=ZZ (aV.o.below ak zL);have bz:=ZZ (bS.o.below ak zL);have bt:=ZZ (bi.o.trans (ak.mono bi.o.size));have bF:=ZZ (aH.mono (B':=w.heap.size+2) (by have:=aV.o.lt;omega))
    obtain⟨a5,c5,bH⟩:=aH.shape;subst bH
    have bK:Hid (∀ e ∈ ZcE S.tab ⟨r.proc,r.seq,n'⟩,ZkN e):=ZZ (fun e C=>by
     unfold ZcE at C;rcases(Zhg _ _ _ _).1 C with ⟨-,h⟩ | ⟨h,-⟩
     ·rw[h]
      exact⟨N.o.2.1,N.o.2.2.1,am.o⟩
     ·exact aw.o e h)
    have ax:Hid (I64 (S.idx+1)):=ZZ (by
     have J:=aA.o;unfold Qw at J;have h2:=aB.o
     exact⟨by omega,by omega⟩)
    have b0:IntKind.i64.wrap (S.idx+1)=S.idx+1:=by
     have:=ax.o;rw[IntKind.wrap_i64];obtain⟨J,h2⟩:=this;omega
    obtain⟨p0,g0⟩:=aC.o.cell 0;obtain⟨p5,g5⟩:=aC.o.cell 5;clear aH ak;have bj:-9223372036854775808<=S.idx+1∧S.idx+1<=9223372036854775807:=ax.o;obtain⟨bj,k⟩:=bj;go_wp2;go_roundw
    case rel=>
     exact⟨q+1,ZiW S r,by go_num,by omega,ZZ (by rw[ao.o];exact ZoF aC.o bq.o bz.o bA.o bF.o bK.o ax.o aY.o.1 aY.o.2 bt.o),F,ZZ (by rw[ao.o];exact aO.o),ZZ (bW.o _ _ aZ.out aA.o)⟩
    case measure=>simp[intOf];omega
def RdL (w:World) (v:Value) (L:List (List UInt8)):Prop:=
 ∃ ao cap,v=.slice ao L.length cap∧L.length<=cap∧cap<=maxLen∧(ao=none->cap=0)∧
  (L=[]∨∃ b off,ao=some ⟨b,off,none⟩∧∀ j,j<L.length->∃ x,w.cell? ⟨b,off+j,none⟩=some x∧Rd w x (L.getD j []))
def ZhL (w:World) (B:Nat) (v:Value) (L:List (List UInt8)):Prop:=
 ∃ xs:List Value,w.ownsRow B 53 1 v L.length xs∧∀ j,j<L.length->∃ x,xs[j]?=some x∧Own w B x (L.getD j [])
theorem RdL.nil (w:World):RdL w (.slice none 0 0) []:=⟨none,0,rfl,Nat.le_refl _,Nat.zero_le _,fun _=>rfl,.inl rfl⟩
theorem ZhL.nil (w:World) (B:Nat):ZhL w B (.slice none 0 0) []:=⟨[],World.ownsRow_nil w B 53 1,fun j a=>by simp at a⟩
theorem RdL.below (h:RdL w v L) {B:Nat} (d:Below B w w') (e:w.heap.size<=B):RdL w' v L:=by
 obtain⟨ao,cap,m,i,t,q,c⟩:=h;refine⟨ao,cap,m,i,t,q,?_⟩;rcases c with c | ⟨b,a,l,u⟩
 ·exact .inl c
 ·refine .inr ⟨b,a,l,fun j k=>?_⟩
  obtain⟨x,f,n⟩:=u j k;have g:b<w.heap.size:=World.block_lt_of_cell? w ⟨b,a+j,none⟩ f;refine⟨x,?_,n.below d e⟩;rw[d.cell (p:=⟨b,a+j,none⟩) (by exact Nat.lt_of_lt_of_le g e)]
  exact f
theorem RdL.front (h:RdL w (.slice ao n cap) L) (k:Nat) (u:k<=L.length):RdL w (.slice ao k cap) (L.take k):=by
 obtain⟨z,A,c,y,d,l,a⟩:=h;simp only [Value.slice.injEq] at c;obtain⟨rfl,_,rfl⟩:=c;have t:(L.take k).length=k:=by simp;omega
 refine⟨ao,cap,by rw[t],by omega,d,l,?_⟩
 rcases a with a | ⟨b,m,f,q⟩
 ·exact .inl (by rw[a];simp)
 ·refine .inr ⟨b,m,f,fun j v=>?_⟩
  have p:j<k:=by omega
  obtain⟨x,g,i⟩:=q j (by omega)
  refine⟨x,g,?_⟩;have e:(L.take k).getD j []=L.getD j []:=by simp[List.getD,p]
  rw[e];exact i
theorem ZhL.rd (h:ZhL w B v L):RdL w v L:=by
 obtain⟨xs,b,d⟩:=h;rcases b.2 with ⟨a,c⟩ | ⟨g,cap,cur,a,n,t,i,k,q,p⟩
 ·exact⟨none,0,by rw[a,c],by omega,Nat.zero_le _,fun _=>rfl,.inl (List.eq_nil_of_length_eq_zero c)⟩
 ·refine⟨some ⟨g,0,none⟩,cap,a,i,k,(fun e=>by cases e),.inr ⟨g,0,rfl,fun j f=>?_⟩⟩
  obtain⟨x,l,m⟩:=d j f;have:=World.ownsRow.cells b (g:=g) (by rw[a];rfl) j _ l
  rw[Addr.add_lit] at this;exact⟨x,this,m.rd⟩
theorem ZhL.mono (h:ZhL w B v L) (c:B'<=B):ZhL w B' v L:=by
 obtain⟨xs,⟨d,a⟩,f⟩:=h;refine⟨xs,⟨d,?_⟩,fun j b=>?_⟩
 ·rcases a with a | ⟨g,cap,cur,e,l,r⟩
  ·exact .inl a
  ·exact .inr ⟨g,cap,cur,e,by omega,r⟩
 ·obtain⟨x,i,k⟩:=f j b
  exact⟨x,i,k.mono c⟩
theorem ZhL.below (h:ZhL w B v L) (b:Below B' w w') (e:w.heap.size<=B'):ZhL w' B v L:=by
 obtain⟨xs,⟨f,a⟩,k⟩:=h;refine⟨xs,⟨f,?_⟩,fun j d=>?_⟩
 ·rcases a with a | ⟨g,cap,cur,i,l,c,r⟩
  ·exact .inl a
  ·have p:g<w.heap.size:=(Array.getElem?_eq_some_iff.1 c).1
   exact .inr ⟨g,cap,cur,i,l,by rw[b.block g (by omega)];exact c,r⟩
 ·obtain⟨x,m,n⟩:=k j d
  exact⟨x,m,n.below b e⟩
theorem ZjN:(prog.info? 53).map (fun i=>(i.zero,i.size,i.bytes))=some (some (.slice none 0 0),1,24):=by kernel_rfl
theorem ZmF {x:Value} {xs:List Value} (f:w.ownsRow B 53 1 v n xs) (d:Own w B' x l):x.ownBlock=none∨x.ownBlock≠v.ownBlock:=by
 rcases d.2 with ⟨a,_⟩ | ⟨g,cap,cur,a,_,b,_⟩
 ·exact .inl (by rw[a];rfl)
 ·right
  rcases f.2 with ⟨c,_⟩ | ⟨g',p,m,c,_,j,_⟩
  ·rw[a,c]
   exact fun e=>by cases e
  ·rw[a,c]
   intro e;have k:g=g':=by simpa[Value.ownBlock] using e
   rw[k,j] at b
   have i:(53:Nat)=5:=by
    injection b with b
    injection b
   exact absurd i (by decide)
theorem ZhM (w:World) (ty:TypeId) (B:Nat) (v:Value) (L:List (List UInt8)) (h:ZhL w B v L) (x:Value) (d:List UInt8) (f:Own w B x d) (M:L.length<=1000000) (G:B<=w.heap.size):
 ∃ v' w',(Builtin.append_ #[144,144] ty #[v,.slice (some ⟨w.heap.size,0,none⟩) 1 1]).run prog (w.alloc (.cells #[x] 53))=.ok v' w'∧ZhL w' B v' (L++[d])∧Below B w w':=by
 obtain⟨K,F,I,C,z⟩:=info_parts ZjN;obtain⟨xs,b,E⟩:=h
 have D:x.oneCell'=true:=by
  rcases f.2 with ⟨m,_⟩ | ⟨g,cap,cur,m,_⟩ <;> rw[m] <;> rfl
 obtain⟨v',w',H,J,c,_⟩:=run_append_own (P:=prog) (w.alloc (.cells #[x] 53)) B 144 ty 53 K (.slice none 0 0) 1 24 underlying144 F I C z rfl (by decide) v L.length xs (b.alloc _)
  ⟨w.heap.size,0,none⟩ 1 1 [x] rfl (fun j u a=>by
   match j,a with
   | 0,a=>simp at a;subst a;simp[Addr.add]) (fun u n=>by simp at n;subst n;exact D) (by unfold maxLen;omega) (by omega) (by simp;omega)
 have A:xs.length=L.length:=by rw[b.1,Nat.mul_one]
 refine⟨v',w',H,⟨xs++[x],by rw[length_append];exact J,fun j a=>?_⟩,?_⟩
 ·by_cases l:j<L.length
  ·obtain⟨y,t,i⟩:=E j l
   refine⟨y,by rw[List.getElem?_append_left (by omega)];exact t,?_⟩
   have e:(L++[d]).getD j []=L.getD j []:=by simp[List.getD,List.getElem?_append_left l]
   rw[e];exact World.ownsRow.kept (World.ownsRow.alloc i _) c (ZmF b i)
  ·have p:j=L.length:=by simp at a;omega
   subst p;refine⟨x,by rw[List.getElem?_append_right (by omega),A];simp,?_⟩
   have e:(L++[d]).getD L.length []=d:=by simp[List.getD]
   rw[e];exact World.ownsRow.kept (World.ownsRow.alloc f _) c (ZmF b f)
 ·exact((Below.refl _ _).alloc G _).grown c (by simp;omega) (fun k q=>(World.ownsRow.lt b k q).1)
theorem Zez (w:World) {b:Array Oper} {rest:List Oper} {o:Oper} {a:Act} {Q:Exit->Act->World->Prop} (l:o.guard=none) (s x:Operand)
 (q:o.op=.call { callee:=.builtin .append,args:=#[s,x],argTypes:=#[144,144] })
 (B:Nat) (v:Value) (L:List (List UInt8)) (j:a.eval s=v) (g:ZhL w B v L) (y:Value) (d:List UInt8) (m:a.eval x=.slice (some ⟨w.heap.size,0,none⟩) 1 1) (f:Own w B y d)
 (i:L.length<=1000000) (n:B<=w.heap.size)
 (h:∀ v' w',ZhL w' B v' (L++[d])->Below B w w'->wpList prog b Q rest (a.put o.dst v') w'):wpList prog b Q (o::rest) a (w.alloc (.cells #[y] 53)):=
 wpList_plain l fun _ e=>by
  obtain⟨v',w',p,c,k⟩:=ZhM w o.type B v L g y d f i n;unfold Oper.wp execOp;simp only [q,resolve,invoke,builtin,Sem.run_bind,Sem.run_pure,Result.andThen_ok,map_toArray,map_cons,map_nil,j,m,p];exact e _ _ (h v' w' c k)
theorem ZoG (a b:Nat) (f:a<4294967296) (g:b<4294967296):bits .xor .u32 (a:Int) (b:Int)=((a ^^^ b:Nat):Int):=by
 have e:a ^^^ b<2 ^ 32:=Nat.xor_lt_two_pow (by omega) (by omega)
 have c:(BitVec.ofInt 32 (a:Int)).toNat=a:=by
  rw[BitVec.ofInt_natCast,BitVec.toNat_ofNat];exact Nat.mod_eq_of_lt (by omega)
 have d:(BitVec.ofInt 32 (b:Int)).toNat=b:=by
  rw[BitVec.ofInt_natCast,BitVec.toNat_ofNat];exact Nat.mod_eq_of_lt (by omega)
 show IntKind.u32.wrap ((BitVec.ofInt 32 (a:Int) ^^^ BitVec.ofInt 32 (b:Int)).toNat:Int)=_;rw[BitVec.toNat_xor,c,d,IntKind.wrap_u32];omega
theorem Zyr (a b:Nat) (f:a<256) (g:b<256):bits .xor .u8 (a:Int) (b:Int)=((a ^^^ b:Nat):Int):=by
 have e:a ^^^ b<2 ^ 8:=Nat.xor_lt_two_pow (by omega) (by omega)
 have c:(BitVec.ofInt 8 (a:Int)).toNat=a:=by
  rw[BitVec.ofInt_natCast,BitVec.toNat_ofNat];exact Nat.mod_eq_of_lt (by omega)
 have d:(BitVec.ofInt 8 (b:Int)).toNat=b:=by
  rw[BitVec.ofInt_natCast,BitVec.toNat_ofNat];exact Nat.mod_eq_of_lt (by omega)
 show IntKind.u8.wrap ((BitVec.ofInt 8 (a:Int) ^^^ BitVec.ofInt 8 (b:Int)).toNat:Int)=_;rw[BitVec.toNat_xor,c,d,IntKind.wrap_u8];omega
theorem ZrB (k x:Nat):Jt (k+1) x=ZqJ (Jt k x):=by
 rw[ZlN k 1];rfl
theorem ZtT (k:Nat) {x:Nat} (h:x<4294967296):Jt k x<4294967296:=by
 have:=Zkx k (Nat.le_refl 32) (by omega:x<2 ^ 32)
 omega
theorem ZoH (l:List UInt8) (x k:Nat) (h:k<l.length):Zbk x (l.take (k+1))=ZdB (Zbk x (l.take k)) (l.getD k 0).toNat:=by
 rw[ZgP l k h,Zek];rfl
theorem Zwd (x c:Nat) (a:c<256):(x ^^^ c) % 256=x % 256 ^^^ c:=by
 have h:=@Nat.xor_mod_two_pow x c 8;have e:c % 2 ^ 8=c:=Nat.mod_eq_of_lt (by omega)
 rw[e] at h;exact h
theorem Zxy (x c:Nat) (a:c<256):x % 256 ^^^ c<256:=by
 have:x % 256 ^^^ c<2 ^ 8:=Nat.xor_lt_two_pow (by omega) (by omega)
 omega
theorem Zwe (c:Nat) (h:c<256):Zdj c<4294967296:=ZtT 8 (by omega)
theorem ZtU (s:Nat) (h:s<4294967296):bits .xor .u32 IntKind.u32.max (s:Int)=((s ^^^ 4294967295:Nat):Int):=by
 have e:IntKind.u32.max=((4294967295:Nat):Int):=by decide
 rw[e,ZoG _ _ (by decide) h,Nat.xor_comm]
def ZwX (l:List UInt8):List UInt8 × Nat:=if l.length<=1048576 then(Qe l,0) else([],5)
theorem Zwf {k e:IntKind} {a b c d:Int} (h:a=b) (f:c=d):Ending.returned (.tuple #[v,.int k a,.int e c])=.returned (.tuple #[v,.int k b,.int e d]):=by rw[h,f]
theorem Zys (h:Jp l):Xp l=([],0,2):=by unfold Xp;rw[if_pos h]
theorem Zyt (h:¬ Jp l) (a:(Qb l).2=0):Xp l=([],0,3):=by unfold Xp;rw[if_neg h,if_pos a]
theorem Zyu (h:¬ Jp l) (b:(Qb l).2≠0) (a:1048576<(Qb l).1):Xp l=([],0,5):=by unfold Xp;rw[if_neg h,if_neg b,if_pos a]
theorem Zyv (h:¬ Jp l) (b:(Qb l).2≠0) (c:¬ 1048576<(Qb l).1) (a:l.length<(Qb l).2+4+(Qb l).1):Xp l=([],0,2):=by
 unfold Xp;rw[if_neg h,if_neg b,if_neg c,if_pos a]
theorem Zyw (h:¬ Jp l) (b:(Qb l).2≠0) (c:¬ 1048576<(Qb l).1) (a:¬ l.length<(Qb l).2+4+(Qb l).1)
 (d:Lib.leNat ((l.drop ((Qb l).2+(Qb l).1)).take 4)≠Q2 0 (l.take ((Qb l).2+(Qb l).1))):Xp l=([],0,4):=by
 unfold Xp;rw[if_neg h,if_neg b,if_neg c,if_neg a,if_pos d]
theorem Zyx (h:¬ Jp l) (b:(Qb l).2≠0) (c:¬ 1048576<(Qb l).1) (a:¬ l.length<(Qb l).2+4+(Qb l).1)
 (d:Lib.leNat ((l.drop ((Qb l).2+(Qb l).1)).take 4)=Q2 0 (l.take ((Qb l).2+(Qb l).1))):Xp l=((l.drop (Qb l).2).take (Qb l).1,(Qb l).2+4+(Qb l).1,0):=by
 unfold Xp;rw[if_neg h,if_neg b,if_neg c,if_neg a,if_neg (by rw[d];simp)]
theorem ZrC (l:List UInt8):(Qb l).2<=9:=by
 rcases Q4 l with h | ⟨b,d,e,a⟩
 ·rw[h];decide
 ·have c:(Lib.uvarint (Qb l).1).length<=9:=Lib.uvarint_length 8 _ (Nat.lt_of_lt_of_le b (by decide))
  rw[<-a,List.length_take] at c;omega
def ZdO (w:World) (l:List UInt8) (e:Ending) (w':World):Prop:=
 ∃ v',e=.returned (.tuple #[v',.int .i64 ((Xp l).2.1:Nat),.int .i64 ((Xp l).2.2:Nat)])∧Own w' w.heap.size v' (Xp l).1∧Below w.heap.size w w'
theorem ZdO.refused (h:Xp l=([],0,c)):ZdO w l (.returned (.tuple #[.slice none 0 0,.int .i64 0,.int .i64 (c:Int)])) w:=by
 refine⟨.slice none 0 0,?_,?_,Below.refl _ _⟩
 ·rw[h];rfl
 ·rw[h];exact Own.nil _ _
def ZtV (l:List UInt8) (A:Nat) (L:List (List UInt8)):Prop:=
 Qm l=(L++(Qm (l.drop A)).1,A+(Qm (l.drop A)).2.1,(Qm (l.drop A)).2.2)∧5*L.length<=A∧A<=l.length
theorem ZtV.start (l:List UInt8):ZtV l 0 []:=⟨by simp,by simp,by omega⟩
theorem ZtV.stop (h:ZtV l A L) (c:A<l.length) (b:(Xp (l.drop A)).2.2≠0):Qm l=(L,A,(Xp (l.drop A)).2.2):=by
 have a:l.drop A≠[]:=fun e=>by
  have:=congrArg List.length e;rw[length_drop,List.length_nil] at this;omega
 rw[h.1,ZbX a b];simp
theorem ZtV.whole (h:ZtV l A L) (a:¬ A<l.length):Qm l=(L,A,0):=by
 have e:l.drop A=[]:=List.drop_of_length_le (by omega)
 rw[h.1,e,ZbJ];simp
theorem ZtV.step (h:ZtV l A L) (d:A<l.length) (a:(Xp (l.drop A)).2.2=0):ZtV l (A+(Xp (l.drop A)).2.1) (L++[(Xp (l.drop A)).1]):=by
 have b:l.drop A≠[]:=fun e=>by
  have:=congrArg List.length e;rw[length_drop,List.length_nil] at this;omega
 have f:=ZbI a;have c:=Ztd (l.drop A);rw[length_drop] at c;refine⟨?_,?_,by omega⟩
 ·rw[h.1,ZbY b a,List.drop_drop]
  simp[Nat.add_assoc]
 ·have:=h.2.1
  simp;omega
def ZwY (l:List UInt8):List (List UInt8) × Nat:=if(Qm l).2.2=0 then((Qm l).1,0) else([],(Qm l).2.2)
theorem Zjd (w:World) (ty:TypeId) (B:Nat) (v:Value) (b:List UInt8) (c:Own w B v b) (f:Value) (l:List UInt8) (n:Rd w f l)
 (z:b.length+l.length<=70368744177664) (u:B<=w.heap.size):
 ∃ v' w',(Builtin.append_ #[53,53] ty #[v,f]).run prog w=.ok v' w'∧Own w' B v' (b++l)∧w.grownBy w' v.ownBlock:=by
 obtain⟨g,e,x,m,i⟩:=info_parts Zkt;obtain⟨ao,cap,rfl,C,A,t,p⟩:=n
 cases ao with
 | none=>
  have j:=t rfl;subst j;have k:l=[]:=List.eq_nil_of_length_eq_zero (by omega)
  subst k;have d:=run_append_owned_none (P:=prog) w B 53 ty 5 g 1 underlying53 e v b.length (Lib.byteCells b) c;exact⟨v,w,d,by rw[List.append_nil];exact c,⟨rfl,rfl,rfl,Nat.le_refl _,fun _ _ _=>rfl⟩⟩
 | some a=>
  obtain⟨v',w',d,y,q,_⟩:=run_append_own (P:=prog) w B 53 ty 5 g (.int .u8 0) 1 1 underlying53 e x m i rfl (by decide) v b.length (Lib.byteCells b) c a l.length cap (Lib.byteCells l)
   (by rw[Yi,Nat.mul_one]) (Rd.cells p a rfl) (ZaD l) (by unfold maxLen;omega) (by omega) u
  exact⟨v',w',d,Own.mk' y (by simp) (by simp[Lib.byteCells]),q⟩
theorem Zfy (w:World) {d:Array Oper} {rest:List Oper} {o:Oper} {a:Act} {Q:Exit->Act->World->Prop} (n:o.guard=none) (s x:Operand)
 (u:o.op=.call { callee:=.builtin .append,args:=#[s,x],argTypes:=#[53,53] })
 (B:Nat) (v:Value) (b:List UInt8) (k:a.eval s=v) (g:Own w B v b) (c:Value) (l:List UInt8) (p:a.eval x=c) (j:Rd w c l)
 (i:b.length+l.length<=70368744177664) (q:B<=w.heap.size)
 (h:∀ v' w',Own w' B v' (b++l)->w.grownBy w' v.ownBlock->wpList prog d Q rest (a.put o.dst v') w'):wpList prog d Q (o::rest) a w:=
 wpList_plain n fun _ f=>by
  obtain⟨v',w',t,e,m⟩:=Zjd w o.type B v b g c l j i q;unfold Oper.wp execOp;simp only [u,resolve,invoke,builtin,Sem.run_bind,Sem.run_pure,Result.andThen_ok,map_toArray,map_cons,map_nil,k,p,t];exact f _ _ (h v' w' e m)
open Go.RowKit Go.ChangeShapes
theorem ZhN:prog.elem 144=53:=by kernel_rfl
theorem ZjO (w:World):(sizeOf 53).run prog w=.ok 1 w:=by
 obtain⟨c,a,_,b,_⟩:=info_parts ZjN;simp[sizeOf,typeInfo,a,b]
theorem Zde:prog.underlying 144=some (.slice (prog.elem 144)):=by rw[ZhN];exact underlying144
theorem RdR.mid {l:List Rec} (h:RdR w (.slice ao n cap) l) (i j m:Nat) (K:i<=j) (E:j<=l.length) (F:j<=m) (H:m<=cap):RdR w (sliced ao i j m 7) ((l.drop i).take (j-i)):=by
 obtain⟨I,J,q,G,D,u,z,d⟩:=h;simp only [Value.slice.injEq] at q;obtain⟨rfl,rfl,rfl⟩:=q;have f:((l.drop i).take (j-i)).length=j-i:=by simp;omega
 have t:∀ n ∈ (l.drop i).take (j-i),ZcK n:=fun n a=>z n (List.mem_of_mem_drop (List.mem_of_mem_take a))
 unfold sliced;by_cases p:m=i
 ·rw[if_pos p]
  have e:j-i=0:=by omega
  refine⟨ao,m-i,by rw[f],by omega,by omega,fun a=>by have:=u a;omega,t,.inl ?_⟩
  rw[e];simp
 ·rw[if_neg p]
  refine⟨ao.map (·.add (i*7)),m-i,by rw[f],by omega,by omega,fun a=>?_,t,?_⟩
  ·have y:ao=none:=by simpa using a
   have:=u y;omega
  ·rcases d with d | ⟨b,c,v,C⟩
   ·exact .inl (by rw[d];simp)
   ·refine .inr ⟨b,c+i*7,?_,fun k g=>?_⟩
    ·rw[v,Option.map_some,Addr.add_lit]
    ·rw[f] at g
     have A:=C (i+k) (by omega)
     have x:c+i*7+k*7=c+(i+k)*7:=by omega
     have B:((l.drop i).take (j-i)).getD k Qi=l.getD (i+k) Qi:=by simp[List.getD,g]
     rw[x,B];exact A
theorem RdL.mid {l:List (List UInt8)} (h:RdL w (.slice ao n cap) l) (i j m:Nat) (J:i<=j) (D:j<=l.length) (E:j<=m) (G:m<=cap):RdL w (sliced ao i j m 1) ((l.drop i).take (j-i)):=by
 obtain⟨H,I,p,F,C,q,c⟩:=h;simp only [Value.slice.injEq] at p;obtain⟨rfl,rfl,rfl⟩:=p;have d:((l.drop i).take (j-i)).length=j-i:=by simp;omega
 unfold sliced;by_cases g:m=i
 ·rw[if_pos g]
  have e:j-i=0:=by omega
  refine⟨ao,m-i,by rw[d],by omega,by omega,fun a=>by have:=q a;omega,.inl ?_⟩
  rw[e];simp
 ·rw[if_neg g]
  refine⟨ao.map (·.add (i*1)),m-i,by rw[d],by omega,by omega,fun a=>?_,?_⟩
  ·have u:ao=none:=by simpa using a
   have:=q u;omega
  ·rcases c with c | ⟨b,v,t,A⟩
   ·exact .inl (by rw[c];simp)
   ·refine .inr ⟨b,v+i,?_,fun k f=>?_⟩
    ·rw[t,Nat.mul_one,Option.map_some,Addr.add_lit]
    ·rw[d] at f
     obtain⟨x,z,B⟩:=A (i+k) (by omega)
     refine⟨x,by rw[Nat.add_assoc];exact z,?_⟩
     have y:((l.drop i).take (j-i)).getD k []=l.getD (i+k) []:=by simp[List.getD,f]
     rw[y];exact B
theorem RdR.cells {l:List Rec} (h:l=[]∨∃ b c,ao=some ⟨b,c,none⟩∧∀ j,j<l.length->Zja w b (c+j*7) (l.getD j Qi)) (a:Addr) (d:ao=some a):
 ∀ j u,(Qq l)[j]?=some u->w.cell? (a.add j)=some u:=by
 intro j u f;rcases h with h | ⟨b,c,p,A⟩
 ·rw[h] at f
  simp[Qq] at f
 ·rw[p] at d
  injection d with d
  subst d;have n:j<(Qq l).length:=(List.getElem?_eq_some_iff.1 f).1;rw[Yx] at n;have i:j=j / 7*7+j % 7:=by omega
  have g:=Zbp l (j / 7) (j % 7) (by omega) (by omega)
  rw[<-i,f] at g;obtain⟨z,m,v,x,t,q,y⟩:=A (j / 7) (by omega)
  have e:∀ k,k<7->c+(j / 7*7+k)=c+j / 7*7+k:=fun k _=>by omega
  rw[Addr.add_lit,i,e (j % 7) (by omega)]
  have hk:j % 7=0∨j % 7=1∨j % 7=2∨j % 7=3∨j % 7=4∨j % 7=5∨j % 7=6:=by omega
  rcases hk with hk | hk | hk | hk | hk | hk | hk
  all_goals
   rw[hk] at g ⊢;rw[g]
   first | exact z | exact m | exact v | exact x | exact t | exact q | exact y
theorem ZhO (w:World) (ty:TypeId) (B:Nat) (v:Value) (b:List Rec) (c:Q9 w B v b) (g:Value) (l:List Rec) (t:RdR w g l)
 (C:b.length+l.length<=1000000) (f:B<=w.heap.size):
 ∃ v' w',(Builtin.append_ #[29,29] ty #[v,g]).run prog w=.ok v' w'∧Q9 w' B v' (b++l)∧Below B w w':=by
 obtain⟨i,e,z,q,m⟩:=info_parts Zdc;obtain⟨ao,cap,rfl,E,D,y,_,u⟩:=t
 cases ao with
 | none=>
  have n:=y rfl;subst n;have p:l=[]:=List.eq_nil_of_length_eq_zero (by omega)
  subst p;have d:=run_append_owned_none (P:=prog) w B 29 ty 62 i 7 underlying29 e v b.length (Qq b) c;exact⟨v,w,d,by rw[List.append_nil];exact c,Below.refl _ _⟩
 | some a=>
  obtain⟨v',w',d,A,x,_⟩:=run_append_own (P:=prog) w B 29 ty 62 i _ 7 56 underlying29 e z q m rfl (by decide) v b.length (Qq b) c a l.length cap (Qq l)
   (Yx l) (RdR.cells u a rfl) (Zbq l) (by unfold maxLen;omega) (by omega) f
  refine⟨v',w',d,?_,?_⟩
  ·unfold Q9
   rw[length_append,Zax];exact A
  ·exact(Below.refl _ _).grown x f (fun k j=>(World.ownsRow.lt c k j).1)
theorem ZeA (w:World) {d:Array Oper} {rest:List Oper} {o:Oper} {a:Act} {Q:Exit->Act->World->Prop} (n:o.guard=none) (s x:Operand)
 (u:o.op=.call { callee:=.builtin .append,args:=#[s,x],argTypes:=#[29,29] })
 (B:Nat) (v:Value) (b:List Rec) (k:a.eval s=v) (g:Q9 w B v b) (c:Value) (l:List Rec) (p:a.eval x=c) (j:RdR w c l)
 (i:b.length+l.length<=1000000) (q:B<=w.heap.size)
 (h:∀ v' w',Q9 w' B v' (b++l)->Below B w w'->wpList prog d Q rest (a.put o.dst v') w'):wpList prog d Q (o::rest) a w:=
 wpList_plain n fun _ f=>by
  obtain⟨v',w',t,e,m⟩:=ZhO w o.type B v b g c l j i q;unfold Oper.wp execOp;simp only [u,resolve,invoke,builtin,Sem.run_bind,Sem.run_pure,Result.andThen_ok,map_toArray,map_cons,map_nil,k,p,t];exact f _ _ (h v' w' e m)
def Bsg (w:World) (b:Nat) (cs:Array Value):Prop:=w.heap[b]?=some (.cells cs 217 (0,0))
theorem Bsg.lt {cs:Array Value} (h:Bsg w b cs):b<w.heap.size:=(Array.getElem?_eq_some_iff.1 h).1
theorem Bsg.below {cs:Array Value} (h:Bsg w b cs) (a:Below B w w') (c:w.heap.size<=B):Bsg w' b cs:=(a.block b (by have:=h.lt;omega)).trans h
theorem Bsg.cell {cs:Array Value} (h:Bsg w b cs) (j:Nat):w.cell? ⟨b,j,none⟩=cs[j]?∧w.frozen? ⟨b,j,none⟩=false:=⟨cell_of_row w b j _ _ _ h,frozen_of_row w b j _ _ h⟩
def pcC (p:Pce):Array Value:=#[.int .i64 p.name,.int .i64 p.first,.int .i64 p.stop]
def Qx:List Pce->List Value
 | []=>[]
 | c::l=>(pcC c).toList++Qx l
theorem Zas:∀ l:List Pce,(Qx l).length=l.length*3
 | []=>rfl
 | c::l=>by
  rw[Qx,length_append,Zas l,List.length_cons];show 3+_=_;omega
theorem ZhP:∀ a b:List Pce,Qx (a++b)=Qx a++Qx b
 | [],_=>rfl
 | c::l,b=>by rw[List.cons_append,Qx,ZhP l b,Qx,List.append_assoc]
theorem Zch:∀ (l:List Pce) (j k:Nat),j<l.length->k<3->(Qx l)[j*3+k]?=(pcC (l.getD j Yv))[k]?
 | c::l,0,k,_,hk=>by
  rw[Qx,Nat.zero_mul,Nat.zero_add,List.getElem?_append_left (by show k<3;exact hk)]
  simp
 | c::l,j+1,k,hj,hk=>by
  have e:(j+1)*3+k=(pcC c).toList.length+(j*3+k):=by show _=3+_;omega
  rw[Qx,e,List.getElem?_append_right (by omega),Nat.add_sub_cancel_left,Zch l j k (by simpa using hj) hk]
  rfl
theorem ZoI (l:List Pce):∀ u ∈ Qx l,u.oneCell'=true:=by
 induction l with
 | nil=>intro u a;cases a
 | cons c l b=>
  intro u a;rw[Qx] at a;rcases List.mem_append.1 a with h | h
  ·simp[pcC] at h
   rcases h with rfl | rfl | rfl <;> rfl
  ·exact b u h
def snC (x:Qv × Value × Value):Array Value:=#[.int .i64 x.1.idx,.int .i64 x.1.st.kind,x.2.1,.bool x.1.st.shut,.int .i64 x.1.st.eng,x.2.2]
def snV (x:Qv × Value × Value):Value:=.agg (snC x)
def Xh:List (Qv × Value × Value)->List Value
 | []=>[]
 | c::l=>(snC c).toList++Xh l
theorem Zdr:∀ l:List (Qv × Value × Value),(Xh l).length=l.length*6
 | []=>rfl
 | c::l=>by
  rw[Xh,length_append,Zdr l,List.length_cons];show 6+_=_;omega
theorem ZhQ:∀ a b:List (Qv × Value × Value),Xh (a++b)=Xh a++Xh b
 | [],_=>rfl
 | c::l,b=>by rw[List.cons_append,Xh,ZhQ l b,Xh,List.append_assoc]
theorem ZhR:∀ (l:List (Qv × Value × Value)) (j k:Nat) (a:j<l.length),k<6->(Xh l)[j*6+k]?=(snC l[j])[k]?
 | c::l,0,k,_,hk=>by
  rw[Xh,Nat.zero_mul,Nat.zero_add,List.getElem?_append_left (by show k<6;exact hk)]
  simp
 | c::l,j+1,k,a,hk=>by
  have e:(j+1)*6+k=(snC c).toList.length+(j*6+k):=by show _=6+_;omega
  rw[Xh,e,List.getElem?_append_right (by omega),Nat.add_sub_cancel_left,ZhR l j k (by simpa using a) hk]
  rfl
structure SnR (w:World) (x:Qv × Value × Value):Prop where
 l:RdI w x.2.1 x.1.st.L
 t:RdE w x.2.2 x.1.tab
 k:I64 x.1.st.kind
 e:I64 x.1.st.eng
 i:I64 x.1.idx
theorem SnR.snV (h:SnR w x):SnV w (snV x) x.1:=⟨x.2.1,x.2.2,rfl,h.l,h.k,h.e,h.t,h.i⟩
theorem SnR.below (h:SnR w x) {B:Nat} (a:Below B w w') (b:w.heap.size<=B):SnR w' x:=⟨h.l.below a b,h.t.below a b,h.k,h.e,h.i⟩
def ZlB (I:Nat->Prop) (x:Qv × Value × Value):Prop:=(x.1.st.L=[]∨∀ g,x.2.1.ownBlock=some g->I g)∧(x.1.tab=[]∨∀ g,x.2.2.ownBlock=some g->I g)
theorem ZlB.mono {J:Nat->Prop} (h:ZlB I x) (b:∀ k,I k->J k):ZlB J x:=by
 obtain⟨c,d⟩:=h;exact⟨c.imp id fun h g a=>b g (h g a),d.imp id fun h g a=>b g (h g a)⟩
theorem RdE.keepS {l:List Ent} (h:RdE w v l) (hk:l=[]∨∀ g,v.ownBlock=some g->w'.heap[g]?=w.heap[g]?):RdE w' v l:=by
 obtain⟨ao,cap,rfl,c,i,f,e,a⟩:=h;refine⟨ao,cap,rfl,c,i,f,e,?_⟩;rcases a with a | ⟨b,k,rfl,m⟩
 ·exact .inl a
 ·rcases hk with hk | hk
  ·exact .inl hk
  ·exact .inr ⟨b,k,rfl,fun j d=>(m j d).keep (hk b rfl)⟩
theorem RdI.keepS {l:List Int} (h:RdI w v l) (hk:l=[]∨∀ g,v.ownBlock=some g->w'.heap[g]?=w.heap[g]?):RdI w' v l:=by
 obtain⟨ao,cap,rfl,e,m,k,i,c⟩:=h;refine⟨ao,cap,rfl,e,m,k,i,?_⟩;rcases c with c | ⟨b,d,rfl,n⟩
 ·exact .inl c
 ·rcases hk with hk | hk
  ·exact .inl hk
  ·exact .inr ⟨b,d,rfl,fun j f=>(World.cell?_of_block (a:=⟨b,d+j,none⟩) (hk b rfl)).trans (n j f)⟩
theorem SnR.keep (h:SnR w x) (c:ZlB I x) (b:∀ g,I g->w'.heap[g]?=w.heap[g]?):SnR w' x:=
 ⟨h.l.keepS (c.1.imp id fun h g a=>b g (h g a)),h.t.keepS (c.2.imp id fun h g a=>b g (h g a)),h.k,h.e,h.i⟩
structure ZdP where
 rv:Value
 pv:Value
 bv:Value
 nl:Value
 nt:Value
 bs:List (Qv × Value × Value)
def ZdP.nx (L:ZdP) (s:Sto):Qv × Value × Value:=(s.now,L.nl,L.nt)
def stC (pd:Nat) (L:ZdP) (s:Sto):Array Value:=
 #[ptr pd,.int .i64 s.log.first,L.rv,L.pv,L.bv,.int .i64 s.now.idx,.int .i64 s.now.st.kind,L.nl,.bool s.now.st.shut,.int .i64 s.now.st.eng,L.nt,.int .i64 s.synced,.int .i64 s.cur,.bool s.nw]
structure Z0 (M I:Nat->Prop) (w:World) (p pd:Nat) (L:ZdP) (s:Sto):Prop where
 head:Bk 76 w p (stC pd L s)
 recs:Q9 w 0 L.rv s.log.recs
 pcs:w.ownsRow 0 108 3 L.pv s.log.pcs.length (Qx s.log.pcs)
 bases:w.ownsRow 0 41 6 L.bv L.bs.length (Xh L.bs)
 bsEq:L.bs.map Prod.fst=s.bases
 now:SnR w (L.nx s)
 base:∀ x ∈ L.bs,SnR w x
 mh:M p
 mr:∀ g,L.rv.ownBlock=some g->M g
 mp:∀ g,L.pv.ownBlock=some g->M g
 mb:∀ g,L.bv.ownBlock=some g->M g
 inow:ZlB I (L.nx s)
 ibase:∀ x ∈ L.bs,ZlB I x
 ltM:∀ k,M k->k<w.heap.size
 ltI:∀ k,I k->k<w.heap.size
 dis:∀ k,M k->¬ I k
theorem Z0.keep {L:ZdP} (h:Z0 M I w p pd L s) (b:∀ k,(M k∨I k)->w'.heap[k]?=w.heap[k]?) (e:w.heap.size<=w'.heap.size):Z0 M I w' p pd L s:=
 ⟨h.head.keep (b p (.inl h.mh)),Qh h.recs fun g a=>b g (.inl (h.mr g a)),Qh h.pcs fun g a=>b g (.inl (h.mp g a)),Qh h.bases fun g a=>b g (.inl (h.mb g a)),h.bsEq,
  h.now.keep h.inow fun g a=>b g (.inr a),fun x d=>(h.base x d).keep (h.ibase x d) fun g a=>b g (.inr a),h.mh,h.mr,h.mp,h.mb,h.inow,h.ibase,fun k c=>Nat.lt_of_lt_of_le (h.ltM k c) e,fun k c=>Nat.lt_of_lt_of_le (h.ltI k c) e,h.dis⟩
theorem Z0.only {G:Nat->Prop} {L:ZdP} (h:Z0 M I w p pd L s) (a:Qj G w w') (c:∀ k,M k->¬ G k) (b:∀ k,I k->¬ G k):Z0 M I w' p pd L s:=
 h.keep (fun k hk=>by
  rcases hk with hk | hk
  ·exact a.block k (h.ltM k hk) (c k hk)
  ·exact a.block k (h.ltI k hk) (b k hk)) a.size
theorem Z0.below {L:ZdP} (h:Z0 M I w p pd L s) (a:Below w.heap.size w w'):Z0 M I w' p pd L s:=
 h.keep (fun k hk=>a.block k (by
  rcases hk with hk | hk
  ·exact h.ltM k hk
  ·exact h.ltI k hk)) a.size
theorem Z0.cs {L:ZdP} (h:Z0 M I w p pd L s):
 w.cell? ⟨p,0,none⟩=some (ptr pd)∧w.cell? ⟨p,1,none⟩=some (.int .i64 s.log.first)∧w.cell? ⟨p,2,none⟩=some L.rv∧w.cell? ⟨p,3,none⟩=some L.pv∧w.cell? ⟨p,4,none⟩=some L.bv∧
 (w.cell? ⟨p,5,none⟩=some (.int .i64 s.now.idx)∧w.cell? ⟨p,6,none⟩=some (.int .i64 s.now.st.kind)∧w.cell? ⟨p,7,none⟩=some L.nl∧w.cell? ⟨p,8,none⟩=some (.bool s.now.st.shut)∧w.cell? ⟨p,9,none⟩=some (.int .i64 s.now.st.eng)∧w.cell? ⟨p,10,none⟩=some L.nt)∧
 w.cell? ⟨p,11,none⟩=some (.int .i64 s.synced)∧w.cell? ⟨p,12,none⟩=some (.int .i64 s.cur)∧w.cell? ⟨p,13,none⟩=some (.bool s.nw):=
 ⟨(h.head.cell 0 rfl).1,(h.head.cell 1 rfl).1,(h.head.cell 2 rfl).1,(h.head.cell 3 rfl).1,(h.head.cell 4 rfl).1,⟨(h.head.cell 5 rfl).1,(h.head.cell 6 rfl).1,(h.head.cell 7 rfl).1,(h.head.cell 8 rfl).1,(h.head.cell 9 rfl).1,(h.head.cell 10 rfl).1⟩,(h.head.cell 11 rfl).1,(h.head.cell 12 rfl).1,(h.head.cell 13 rfl).1⟩
theorem Z0.fz {L:ZdP} (h:Z0 M I w p pd L s) (j:Nat):w.frozen? ⟨p,j,none⟩=false:=frozen_of_row w p j _ _ h.head
def SD (K:Nat->Prop) (w:World) (pd p:Nat) (s:Sto) (d:Dk) (N T:Nat):Prop:=
 ∃ F M I L,Dsk F w pd d N T∧Z0 M I w p pd L s∧(∀ k,F k->¬ K k)∧(∀ k,M k->¬ K k)∧(∀ k,I k->¬ K k)∧(∀ k,F k->¬ M k)∧(∀ k,F k->¬ I k)
def Z6 (K:Nat->Prop) (w:World) (pd p:Nat) (r:SDk × Int) (N T:Nat) (e:Ending) (w':World):Prop:=
 e=.returned (.int .i64 r.2)∧SD K w' pd p r.1.1 r.1.2 N T∧Qj (fun k=>¬ K k) w w'
theorem SD.below (h:SD K w pd p s d N T) (a:Below w.heap.size w w'):SD K w' pd p s d N T:=by
 obtain⟨F,M,I,L,b,c,e⟩:=h;exact⟨F,M,I,L,b.below a,c.below a,e⟩
theorem SD.mono (h:SD K w pd p s d N T) (e:N<=N') (f:T<=T'):SD K w pd p s d N' T':=by
 obtain⟨F,M,I,L,b,a,c⟩:=h;exact⟨F,M,I,L,b.mono e f,a,c⟩
theorem SD.less {e:Nat->Prop} (h:SD K w pd p s d N T) (c:∀ k,e k->K k):SD e w pd p s d N T:=by
 obtain⟨F,M,I,L,i,f,j,l,g,m⟩:=h;exact⟨F,M,I,L,i,f,fun k a b=>j k a (c k b),fun k a b=>l k a (c k b),fun k a b=>g k a (c k b),m⟩
theorem SD.fresh (h:SD K w pd p s d N T) (c:Below w.heap.size w w'):SD (fun k=>K k∨(w.heap.size<=k∧k<w'.heap.size)) w' pd p s d N T:=by
 obtain⟨F,M,I,L,e,b,g,i,f,j⟩:=h;refine⟨F,M,I,L,e.below c,b.below c,fun k a hh=>?_,fun k a hh=>?_,fun k a hh=>?_,j⟩
 ·rcases hh with hh | hh
  ·exact g k a hh
  ·have:=e.ltF k a
   omega
 ·rcases hh with hh | hh
  ·exact i k a hh
  ·have:=b.ltM k a
   omega
 ·rcases hh with hh | hh
  ·exact f k a hh
  ·have:=b.ltI k a
   omega
theorem SD.onlyK (h:SD K w pd p s d N T) (e:Qj K w w'):SD K w' pd p s d N T:=by
 obtain⟨F,M,I,L,g,f,b,c,a,i⟩:=h;exact⟨F,M,I,L,g.only e b,f.only e c a,b,c,a,i⟩
theorem SD.disk {d':Dk} {f:Nat} {args:Array Value} {c:Int} (h:SD K w pd p s d N T) (t:∀ k,K k->k<w.heap.size)
 (v:∀ F,Dsk F w pd d N T->(∀ k,F k->¬ K k)->Calls prog f args w fun e w'=>ZfU F w pd d' c N' T' e w'):Calls prog f args w fun e w'=>e=.returned (.int .i64 c)∧SD K w' pd p s d' N' T'∧Qj (fun k=>¬ K k) w w':=by
 obtain⟨F,M,I,L,x,g,i,y,u,q,m⟩:=h;refine(v F x i).mono ?_;rintro e w' ⟨z,F',A,n,j⟩;refine⟨z,⟨F',M,I,L,A,g.only n (fun k a l=>q k l a) (fun k a l=>m k l a),fun k a b=>?_,y,u,fun k a b=>?_,fun k a b=>?_⟩,n.mono i⟩
 ·rcases j k a with hx | hx
  ·exact i k hx b
  ·have:=t k b
   omega
 ·rcases j k a with hx | hx
  ·exact q k hx b
  ·have:=g.ltM k b
   omega
 ·rcases j k a with hx | hx
  ·exact m k hx b
  ·have:=g.ltI k b
   omega
theorem SD.own {F M' I':Nat->Prop} {s':Sto} {L':ZdP} (e:∀ k,K k->k<w.heap.size) (c:Dsk F w pd d N T) (n:∀ k,F k->¬ K k) (g:∀ k,M k->¬ K k) (m:∀ k,I k->¬ K k) (j:∀ k,F k->¬ M k) (t:∀ k,F k->¬ I k)
 (i:Qj M w w') (q:Z0 M' I' w' p pd L' s') (l:∀ k,M' k->M k∨w.heap.size<=k) (f:∀ k,I' k->I k∨w.heap.size<=k):SD K w' pd p s' d N T∧Qj (fun k=>¬ K k) w w':=by
 refine⟨⟨F,M',I',L',c.only i j,q,n,fun k a b=>?_,fun k a b=>?_,fun k a b=>?_,fun k a b=>?_⟩,i.mono g⟩
 ·rcases l k a with hx | hx
  ·exact g k hx b
  ·have:=e k b
   omega
 ·rcases f k a with hx | hx
  ·exact m k hx b
  ·have:=e k b
   omega
 ·rcases l k b with hx | hx
  ·exact j k a hx
  ·have:=c.ltF k a
   omega
 ·rcases f k b with hx | hx
  ·exact t k a hx
  ·have:=c.ltF k a
   omega
end Go.Proofs.YtnahjngbneicaaaGreatDoor
