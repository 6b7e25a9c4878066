import Derived.Test.YtnahjngbneicaaaGreatDoorPack6
namespace Go.Proofs.YtnahjngbneicaaaGreatDoor
open _root_.Go.Proofs.Tryz
open List (length_append length_drop map_cons map_nil map_toArray)
set_option maxHeartbeats 4000000
set_option maxRecDepth 100000
open Go.RowKit
variable {idx k kind:Int} {s:Sto} {A B B' N N' Q R T T' b cap g n p pd:Nat} {W w w':World} {v:Value} {l:List UInt8} {L:List (List UInt8)} {a:List Ent} {ao c f:Option Addr} {d:Dk} {x:Qv × Value × Value} {I K M:Nat->Prop}
theorem Zwa (a:kind=0∨kind=1) (l:List Int):(0<=kind∧kind<6∧Yq kind l)↔l.length=1∧-1099511627776<=l.getD 0 0∧l.getD 0 0<=1099511627776:=by
 rw[Xz (by omega) (by omega)]
 constructor
 ·rintro⟨_,_,_,h1,h2⟩
  exact⟨h1 (by omega),h2 0 (by have:=h1 (by omega);omega)⟩
 ·rintro⟨h1,h2⟩
  refine⟨by omega,by omega,by omega,fun _=>h1,fun j b=>?_⟩
  have e:j=0:=by omega
  rw[e];exact h2
theorem ZtP (a:kind=2∨kind=3) (l:List Int):(0<=kind∧kind<6∧Yq kind l)↔l.length<=64∧J0 l:=by
 rw[Xz (by omega) (by omega)]
 constructor
 ·rintro⟨_,_,h1,_,h2⟩
  exact⟨h1,h2⟩
 ·rintro⟨h1,h2⟩
  exact⟨by omega,by omega,h1,fun h=>by omega,h2⟩
theorem Zrv (l:List Int):(0<=(4:Int)∧(4:Int)<6∧Yq 4 l)↔Zan (-1099511627776) l:=by
 unfold Yq;rw[if_pos rfl];exact⟨fun h=>h.2.2,fun h=>⟨by decide,by decide,h⟩⟩
theorem Zoy (l:List Int):(0<=(5:Int)∧(5:Int)<6∧Yq 5 l)↔Zan 0 l:=by
 unfold Yq;rw[if_neg (by decide),if_pos rfl]
 exact⟨fun h=>h.2.2,fun h=>⟨by decide,by decide,h⟩⟩
theorem Zjc (kind:Int) (v:Value) (l:List Int) (w:World) (H:RdI w v l):
 Calls prog 122 #[.int .i64 kind,v] w fun e w'=>e=.returned (.bool (decide (0<=kind∧kind<6∧Yq kind l)))∧Below w.heap.size w w':=by
 have t:=Qc (fun p q W=>Jx p q W)
 have I:Hid (∀ W,Below w.heap.size w W->RdI W v l):=fun W h=>H.below h zL
 obtain⟨R,O⟩:∃ R,R=decide (0<=kind∧kind<6∧Yq kind l):=⟨_,rfl⟩;rw[<-O];have z:=Qc O;clear O;by_cases E:kind=0∨kind=1
 ·have c:=Qc (Zwa E l)
  have f:((kind == 0)=true)∨((kind == 0)=false∧(kind == 1)=true):=by
   rcases E with rfl | rfl
   ·exact .inl rfl
   ·exact .inr ⟨rfl,rfl⟩
  have u:=Qc (fun n l2 h2 d i W F G=>Zdq n l2 h2 d i W F G)
  obtain⟨ao,cap,rfl,-,-,-,-,X⟩:=H;have S:=Qc X;clear X E I;by_cases m:l.length=1
  ·rcases S.o with h0 | ⟨g,Q,rfl,L⟩
   ·rw[h0] at m;simp at m
   have U:Hid (∀ W,Below w.heap.size w W->W.cell? ⟨g,Q,none⟩=some (.int .i64 (l.getD 0 0))):=fun W h=>(h.cell (World.block_lt_of_cell? w ⟨g,Q,none⟩ (L 0 (by omega)))).trans (L 0 (by omega))
   clear L S;have HL:=Qc m;rw[m];clear m;obtain⟨y,T⟩:∃ y,y=l.getD 0 0:=⟨_,rfl⟩;rw[<-T] at U c;clear T;rcases f with f | ⟨f,P⟩
   all_goals
    go_enter func122,ntmps122
    go_wp2_with fail
    refine(t.o _ _ _).mono ?_;rintro e C ⟨d,i,rfl,j,k,a⟩;have b:=Qc a;have ab:=U.o _ a;clear a
    go_wp2_with fail
    refine(u.o _ _ _ _ _ _ j k).mono ?_;rintro e N ⟨rfl,rfl⟩;go_wp2;go_ret;refine⟨Yk ?_,b.o⟩;rw[z.o,<-Bool.decide_and];exact decide_eq_decide.2 ⟨fun h=>c.o.2 ⟨HL.o,h⟩,fun h=>(c.o.1 h).2⟩
  ·have hq:((l.length:Int) == 1)=false:=beq_eq_false_iff_ne.2 (by omega)
   have M:Hid (decide (0<=kind∧kind<6∧Yq kind l)=false):=decide_eq_false (fun h=>m (c.o.1 h).1)
   clear m;rcases f with f | ⟨f,P⟩
   all_goals
    go_enter func122,ntmps122
    go_wp2_with fail
    refine(t.o _ _ _).mono ?_;rintro e C ⟨d,i,rfl,j,k,a⟩;have b:=Qc a;clear a;go_wp2;go_ret;exact⟨Yk (z.o.trans M.o).symm,b.o⟩
 ·have e0:(kind == 0)=false:=beq_eq_false_iff_ne.2 (by omega)
  have e1:(kind == 1)=false:=beq_eq_false_iff_ne.2 (by omega)
  by_cases J:kind=2∨kind=3
  ·have c:=Qc (ZtP J l)
   have f:((kind == 2)=true)∨((kind == 2)=false∧(kind == 3)=true):=by
    rcases J with rfl | rfl
    ·exact .inl rfl
    ·exact .inr ⟨rfl,rfl⟩
   have u:=Qc (fun d i W F G K=>Zox v l d i W F G K)
   clear E J H;rcases f with f | ⟨f,P⟩
   all_goals
    go_enter func122,ntmps122
    go_wp2_with fail
    refine(t.o _ _ _).mono ?_;rintro e C ⟨d,i,rfl,j,k,a⟩;have b:=Qc a;clear a
    go_wp2_with fail
    refine(u.o _ _ _ (I.o _ b.o) j k).mono ?_;rintro e N ⟨rfl,rfl⟩;go_wp2;go_ret;refine⟨Yk ?_,b.o⟩;rw[z.o,<-Bool.decide_and];exact decide_eq_decide.2 c.o.symm
  ·have e2:(kind == 2)=false:=beq_eq_false_iff_ne.2 (by omega)
   have Y:(kind == 3)=false:=beq_eq_false_iff_ne.2 (by omega)
   have u:=Qc (fun lo d i W F G K=>ZmC v l lo d i W F G K)
   clear E J H;by_cases x:kind=4
   ·have e4:(kind == 4)=true:=beq_iff_eq.2 x
    have c:Hid (Zan (-1099511627776) l↔(0<=kind∧kind<6∧Yq kind l)):=by rw[x];exact(Zrv l).symm
    clear x
    go_enter func122,ntmps122
    go_wp2_with fail
    refine(t.o _ _ _).mono ?_;rintro e C ⟨d,i,rfl,j,k,a⟩;have b:=Qc a;clear a
    go_wp2_with fail
    refine(u.o _ _ _ _ (I.o _ b.o) j k).mono ?_;rintro e N ⟨rfl,B⟩;have A:=Qc (b.o.trans (B.mono b.o.size));clear B;go_wp2;go_ret;refine⟨Yk ?_,A.o⟩;rw[z.o];exact decide_eq_decide.2 c.o
   ·have e4:(kind == 4)=false:=beq_eq_false_iff_ne.2 x
    by_cases D:kind=5
    ·have Z:(kind == 5)=true:=beq_iff_eq.2 D
     have c:Hid (Zan 0 l↔(0<=kind∧kind<6∧Yq kind l)):=by rw[D];exact(Zoy l).symm
     clear x D
     go_enter func122,ntmps122
     go_wp2_with fail
     refine(t.o _ _ _).mono ?_;rintro e C ⟨a1,b1,rfl,_,_,a⟩;have b:=Qc a;clear a
     go_wp2_with fail
     refine(t.o _ _ _).mono ?_;rintro e N ⟨d,i,rfl,j,k,B⟩;have A:=Qc (b.o.trans (B.mono b.o.size));clear B
     go_wp2_with fail
     refine(u.o _ _ _ _ (I.o _ A.o) j k).mono ?_;rintro e W3 ⟨rfl,V⟩;have aa:=Qc (A.o.trans (V.mono A.o.size));clear V;go_wp2;go_ret;refine⟨Yk ?_,aa.o⟩;rw[z.o];exact decide_eq_decide.2 c.o
    ·have Z:(kind == 5)=false:=beq_eq_false_iff_ne.2 D
     have M:Hid (decide (0<=kind∧kind<6∧Yq kind l)=false):=decide_eq_false (fun h=>by
      have n0:kind≠0:=beq_eq_false_iff_ne.1 e0;have n1:kind≠1:=beq_eq_false_iff_ne.1 e1;have n2:kind≠2:=beq_eq_false_iff_ne.1 e2;have n3:kind≠3:=beq_eq_false_iff_ne.1 Y
      omega)
     clear x D
     go_enter func122,ntmps122
     go_wp2_with fail
     refine(t.o _ _ _).mono ?_;rintro e C ⟨a1,b1,rfl,_,_,a⟩;have b:=Qc a;clear a;go_wp2;go_ret;exact⟨Yk (z.o.trans M.o).symm,b.o⟩
theorem ZtQ (kind:Int) (l:List Int) (a:Bool) (g:Int):X8 ⟨kind,l,a,g⟩↔(a=false->g=0)∧(0<=g∧g<=2)∧(0<=kind∧kind<6∧Yq kind l):=
 ⟨fun h=>⟨h.2.2.1,⟨h.1,h.2.1⟩,h.2.2.2.1,h.2.2.2.2.1,h.2.2.2.2.2⟩,fun h=>⟨h.2.1.1,h.2.1.2,h.1,h.2.2.1,h.2.2.2.1,h.2.2.2.2⟩⟩
theorem ZkV (v:Value) (s:St) (w:World) (T:StV w v s):
 Calls prog 82 #[v] w fun e w'=>e=.returned (.bool (decide (X8 s)))∧Below w.heap.size w w':=by
 obtain⟨I,rfl,A,-,-⟩:=T;obtain⟨kind,l,c,g⟩:=s;simp only at A ⊢;have H:=Qc (fun p q W=>Jx p q W)
 have G:=Qc (fun n Y Q M X W Z p2=>Zdq n Y Q M X W Z p2)
 have S:Hid (∀ W,Below w.heap.size w W->Calls prog 122 #[.int .i64 kind,I] W fun e w'=>e=.returned (.bool (decide (0<=kind∧kind<6∧Yq kind l)))∧Below W.heap.size W w'):=fun W h=>Zjc kind I l W (A.below h zL)
 have u:=Qc (ZtQ kind l c g);obtain⟨R,F⟩:∃ R,R=decide (X8 ⟨kind,l,c,g⟩):=⟨_,rfl⟩;rw[<-F];have B:=Qc F;have m:Hid (∀ x,Below w.heap.size w (w.alloc x)):=fun x=>(Below.refl _ _).alloc zL x
 clear F A;by_cases t:c=false∧g≠0
 ·obtain⟨rfl,z⟩:=t
  have hq:(g != 0)=true:=bne_iff_ne.2 z;have V:Hid (decide (X8 ⟨kind,l,false,g⟩)=false):=decide_eq_false (fun h=>z ((u.o.1 h).1 rfl))
  clear z
  go_enter func82,ntmps82
  go_wp2;go_ret;exact⟨Yk (B.o.trans V.o).symm,m.o _⟩
 ·have d:((g != 0)=false)∨((g != 0)=true∧c=true):=by
   by_cases i:g=0
   ·exact .inl (bne_eq_false_iff_eq.2 i)
   ·cases c
    ·exact absurd ⟨rfl,i⟩ t
    ·exact .inr ⟨bne_iff_ne.2 i,rfl⟩
  have K:Hid (c=false->g=0):=fun h=>by
   by_cases i:g=0
   ·exact i
   ·exact absurd ⟨h,i⟩ t
  clear t;by_cases f:0<=g∧g<=2
  ·have y:=Qc (decide_eq_true f)
   have N:=Qc f;clear f
   have D:Hid (decide (0<=kind∧kind<6∧Yq kind l)=R):=by
    rw[B.o];exact decide_eq_decide.2 ⟨fun h=>u.o.2 ⟨K.o,N.o,h⟩,fun h=>(u.o.1 h).2.2⟩
   rcases d with d | ⟨d,rfl⟩
   all_goals
    go_enter func82,ntmps82
    go_wp2_with fail
    refine(H.o _ _ _).mono ?_;rintro e k ⟨U,O,rfl,C,E,b⟩;have a:=(b.block w.heap.size (by simp)).trans (heap_alloc_new w _)
    have q0:=cell_of_row k w.heap.size 0 _ _ _ a;have q1:=cell_of_row k w.heap.size 1 _ _ _ a;have L:=cell_of_row k w.heap.size 3 _ _ _ a;have j:=Qc ((m.o _).trans (b.mono (m.o _).size));clear b a
    go_wp2_with fail
    refine(G.o _ _ _ _ _ _ C E).mono ?_;rintro e W2 ⟨rfl,rfl⟩;rw[y.o]
    go_wp2_with fail
    refine(S.o _ j.o).mono ?_;rintro e W3 ⟨rfl,J⟩;rw[D.o];have P:=Qc (j.o.trans (J.mono j.o.size));clear J;go_wp2;go_ret;exact⟨rfl,P.o⟩
  ·have y:=Qc (decide_eq_false f)
   have D:Hid (R=false):=B.o.trans (decide_eq_false fun h=>f (u.o.1 h).2.1)
   clear f;rcases d with d | ⟨d,rfl⟩
   all_goals
    go_enter func82,ntmps82
    go_wp2_with fail
    refine(H.o _ _ _).mono ?_;rintro e k ⟨U,O,rfl,C,E,b⟩;have a:=(b.block w.heap.size (by simp)).trans (heap_alloc_new w _)
    have L:=cell_of_row k w.heap.size 3 _ _ _ a;have j:=Qc ((m.o _).trans (b.mono (m.o _).size));clear b a
    go_wp2_with fail
    refine(G.o _ _ _ _ _ _ C E).mono ?_;rintro e W2 ⟨rfl,rfl⟩;rw[y.o];go_wp2;go_ret;exact⟨Yk D.o.symm,j.o⟩
theorem ZkW (o:Opn) (w:World):
 Calls prog 80 #[opV o] w fun e w'=>e=.returned (.bool (decide (Jg o)))∧Below w.heap.size w w':=by
 obtain⟨c,a,b⟩:=o;have L:=Qc (fun p q W=>Jx p q W)
 have u:=Qc (fun n l2 V E O W p1 p2=>Zdq n l2 V E O W p1 p2)
 have l:Hid (Jg ⟨c,a,b⟩↔(0<=c∧c<=10)∧(-1099511627776<=a∧a<=1099511627776)∧(-1099511627776<=b∧b<=1099511627776)):=
  ⟨fun h=>⟨⟨h.1,h.2.1⟩,⟨h.2.2.1,h.2.2.2.1⟩,h.2.2.2.2⟩,fun h=>⟨h.1.1,h.1.2,h.2.1.1,h.2.1.2,h.2.2⟩⟩
 obtain⟨R,D⟩:∃ R,R=decide (Jg ⟨c,a,b⟩):=⟨_,rfl⟩;rw[<-D];have U:=Qc D;have N:Hid (∀ x,Below w.heap.size w (w.alloc x)):=fun x=>(Below.refl _ _).alloc zL x
 clear D
 have Q:∀ j k A,Hid (decide (0<=c∧c<=10)=j)->Hid (decide (-1099511627776<=a∧a<=1099511627776)=k)->Hid (decide (-1099511627776<=b∧b<=1099511627776)=A)->Hid ((j && k && A)=R)->
  Calls prog 80 #[.agg #[.int .i64 c,.int .i64 a,.int .i64 b]] w fun e w'=>e=.returned (.bool R)∧Below w.heap.size w w':=by
  intro j k A Z H2 X B
  go_enter func80,ntmps80
  go_wp2_with fail
  refine(L.o _ _ _).mono ?_;rintro e M ⟨Y,T,rfl,f,g,v⟩;have G:=Qc ((N.o _).trans (v.mono (N.o _).size));have y:=Qc ((v.block w.heap.size (by simp)).trans (heap_alloc_new w _))
  have t:=Qc f;have z:=Qc g;clear v f g
  go_wp2_with fail
  refine(L.o _ _ _).mono ?_;rintro e C ⟨E,O,rfl,J,I,d⟩;have i:=(d.block w.heap.size (Array.getElem?_eq_some_iff.1 y.o).1).trans y.o;have q0:=cell_of_row C w.heap.size 0 _ _ _ i;have q1:=cell_of_row C w.heap.size 1 _ _ _ i;have q2:=cell_of_row C w.heap.size 2 _ _ _ i;have f:=(d.cell (World.block_lt_of_cell? M ⟨Y,0,none⟩ t.o)).trans t.o;have g:=(d.cell (World.block_lt_of_cell? M ⟨T,0,none⟩ z.o)).trans z.o;have m:=Qc (G.o.trans (d.mono G.o.size));have S:=Qc f;have P:=Qc g;have F:=Qc J;have H:=Qc I;clear d i y t z f g J I
  go_wp2_with fail
  refine(u.o _ _ _ _ _ _ S.o P.o).mono ?_;rintro e K ⟨rfl,rfl⟩;rw[Z.o]
  cases j
  ·go_wp2
   go_ret;exact⟨Yk (by rw[<-B.o];rfl),m.o⟩
  ·go_wp2_with fail
   refine(u.o _ _ _ _ _ _ F.o H.o).mono ?_;rintro e K ⟨rfl,rfl⟩;rw[H2.o]
   cases k
   ·go_wp2
    go_ret;exact⟨Yk (by rw[<-B.o];rfl),m.o⟩
   ·go_wp2_with fail
    refine(u.o _ _ _ _ _ _ F.o H.o).mono ?_;rintro e K ⟨rfl,rfl⟩;rw[X.o];go_wp2;go_ret;exact⟨Yk (by rw[<-B.o];rfl),m.o⟩
 refine Q _ _ _ rfl rfl rfl (Qc ?_);rw[U.o,<-Bool.decide_and,<-Bool.decide_and];exact decide_eq_decide.2 ⟨fun h=>l.o.2 ⟨h.1.1,h.1.2,h.2⟩,fun h=>⟨⟨(l.o.1 h).1,(l.o.1 h).2.1⟩,(l.o.1 h).2.2⟩⟩
theorem Zwb (v:Value) (s:St) (w:World) (B:StV w v s) (i:s.L.length<=1000000):
 Calls prog 81 #[v] w fun e w'=>∃ vl',e=.returned (.agg #[.int .i64 s.kind,vl',.bool s.shut,.int .i64 s.eng])∧Qo w' w.heap.size vl' s.L∧Below w.heap.size w w':=by
 obtain⟨k,rfl,d,-,-⟩:=B;obtain⟨kind,l,q,g⟩:=s;simp only at d i ⊢;have z:Hid (∀ W,Below w.heap.size w W->Calls prog 39 #[k] W fun e w'=>∃ v',e=.returned v'∧Qo w' W.heap.size v' l∧Below W.heap.size W w'):=fun W h=>Zfr k l W (d.below h zL) i
 have f:Hid (∀ x y,Below w.heap.size w ((w.alloc x).alloc y)):=fun x y=>((Below.refl _ _).alloc zL x).alloc (by simp) y
 clear d i
 go_enter func81,ntmps81
 go_wp2_with fail
 refine(z.o _ (f.o _ _)).mono ?_;rintro e j ⟨A,rfl,m,c⟩;have a:ZnM j w.heap.size _ _:=(ZnM.made w _ _).below c (by simp)
 have F:=(a.s 0).1;have N:=(a.s 1).1;have H:=(a.s 2).1;have E:=(a.s 3).1;have M:=(a.s 1).2;have C:=(a.r 0).1;have n:=(a.r 1).1;have u:=(a.r 2).1;have D:=(a.r 3).1;have J:=(a.r 0).2;have K:=(a.r 1).2;have G:=(a.r 2).2;have I:=(a.r 3).2;have t:=Qc ((f.o _ _).trans (c.mono (f.o _ _).size))
 have b:Qo j (w.heap.size+1+1) A l:=by
  have e:∀ x y,((w.alloc x).alloc y).heap.size=w.heap.size+1+1:=fun x y=>by simp
  rwa [e] at m
 have p:=Qc b;obtain⟨ao,cap,rfl⟩:=b.shape;clear c a m b;go_wp2;refine bodyPost_ret (v:=.agg #[.int .i64 kind,.slice ao l.length cap,.bool q,.int .i64 g]) (by simp[results,Tryz.results81,go_sem,C,n,u,D]) rfl ?_
 exact⟨_,rfl,(p.o.five w.heap.size (w.heap.size+1) (by omega) (by omega) _ _ _ _ _).mono (by omega),ZsX t.o w.heap.size (w.heap.size+1) zL (by omega) _ _ _ _ _⟩
open Go.RowKit Go.ChangeShapes
theorem ZkX:prog.cellsOf 52=3:=by kernel_rfl
section
variable {H:Type} {enc:TypeId × Value->H} {w:World} {base fuel:Nat} {held:Bool}
theorem Zey {cs:List Value} {x:DataW H × List MemPlace} (h:DataW.trod enc prog w base (fun _=>true) held fuel 52 cs=some x):
 ∃ (o:Opn),cs=[.int .i64 o.code,.int .i64 o.a,.int .i64 o.b]∧Zxh o:=by
 obtain⟨xs,n,_,_,f,m,c⟩:=DataW.trod_struct underlying52 h;rw[ZkX] at f
 match xs,m,cs,f with
 | [y0,y1,y2],_,[c0,c1,c2],_=>
  have g:=c 0 _ rfl;have i:=c 1 _ rfl;have j:=c 2 _ rfl;simp[Zhu] at g i j;obtain⟨k,l,_,t⟩:=DataW.trod_int underlying3 g;obtain⟨a,e,_,p⟩:=DataW.trod_int underlying3 i;obtain⟨b,d,_,q⟩:=DataW.trod_int underlying3 j;simp only [List.cons.injEq,and_true] at l e d;subst l e d;exact⟨⟨k,a,b⟩,rfl,Zb t,Zb p,Zb q⟩
end
theorem ZtR {s:St} (h:X8 s):∀ x ∈ s.L,I64 x:=by
 have g:=h.2.2.2.1;have f:=h.2.2.2.2.1;have a:=h.2.2.2.2.2;by_cases c:s.kind=4
 ·rw[c,Zbj] at a
  exact Zay (by decide) (by decide) a.2
 ·by_cases b:s.kind=5
  ·rw[b,ZaE] at a
   exact Zay (by decide) (by decide) a.2
  ·have d:=(Ja _).1 ((Xz c b).1 a).2.2
   intro x e;have:=d x e;exact Qk (by omega) (by omega)
theorem Zoz {s:St} (h:X8 s):s.L.length<=128:=by
 have e:=h.2.2.2.1;have d:=h.2.2.2.2.1;have a:=h.2.2.2.2.2;by_cases c:s.kind=4
 ·rw[c,Zbj] at a
  exact a.1
 ·by_cases b:s.kind=5
  ·rw[b,ZaE] at a
   exact a.1
  ·have:=((Xz c b).1 a).1
   omega
theorem Zrw {s:St} (h:X8 s) (b:s.shut=false) (o:Opn) (c:o.code=10):Y9 s o=(⟨s.kind,s.L,true,if 0<=o.a∧o.a<=2 then o.a else s.eng⟩,0):=by
 unfold Y9;rw[if_neg (fun e=>e h),if_neg (by simp[b]),if_pos c]
theorem ZjM {s:St} (h:X8 s) (a:s.shut=false) (o:Opn) (b:o.code≠10):Y9 s o=if s.kind<=1 then ZdX s o else if s.kind<=3 then Yy s o else if s.kind=4 then Ze s o else Xv s o:=by
 unfold Y9;rw[if_neg (fun e=>e h),if_neg (by simp[a]),if_neg b]
theorem ZoA (s:St) (o:Opn):(Ze s o).1.kind=s.kind∧(Ze s o).1.shut=s.shut∧(Ze s o).1.eng=s.eng:=by
 rw[ZfR];exact Zfa s o
theorem ZoB {r:St × Int} {g:Int} {s:Bool} (h:r.1.kind=k∧r.1.shut=s∧r.1.eng=g):r=(⟨k,r.1.L,s,g⟩,r.2):=by
 obtain⟨⟨e,i,f,d⟩,j⟩:=r;obtain⟨a,b,c⟩:=h;simp only at a b c;rw[a,b,c]
theorem Zxw (s:St) (v:Value) (o:Opn) (B:Nat) (w:World) (k:Qo w B v s.L) (p:B<=w.heap.size) (d:X8 s):
 Calls prog 83 #[.agg #[.int .i64 s.kind,v,.bool s.shut,.int .i64 s.eng],opV o] w fun e w'=>Did B w v (Y9 s o) e w':=by
 obtain⟨kind,l,x,g⟩:=s
 cases x with
 | true=>
  rw[ZqN d rfl];exact Zou kind g l v o B w k
 | false=>
  have C:0<=kind:=d.2.2.2.1;have A:kind<6:=d.2.2.2.2.1;have u:=d.2.2.2.2.2;obtain⟨c,a,b⟩:=o;by_cases f:c=10
  ·rw[Zrw d rfl _ f]
   subst f;exact Zov kind g a b l v B w k
  ·rw[ZjM d rfl _ f]
   by_cases t:kind<=1
   ·rw[if_pos t]
    obtain⟨j,i,y⟩:=ZyR d t;exact Zru kind g (by omega) l v ⟨c,a,b⟩ f B w k j i y
   ·rw[if_neg t]
    by_cases q:kind<=3
    ·rw[if_pos q,ZoB (ZgW ⟨kind,l,false,g⟩ ⟨c,a,b⟩)]
     exact Zow kind g (by omega) l _ _ v c a b f B w k (fun W j i=>ZvX kind (by omega) v l ⟨c,a,b⟩ false g B W j i (ZtR d) (ZyS d q)) p
    ·rw[if_neg q]
     by_cases n:kind=4
     ·rw[if_pos n,ZoB (ZoA ⟨kind,l,false,g⟩ ⟨c,a,b⟩)]
      subst n;have m:=(Zbj l).1 u;exact ZmA 4 g rfl l _ _ v c a b f B w k (fun W j i=>Zrt v l ⟨c,a,b⟩ false g B W j i m.2 m.1) p
     ·rw[if_neg n,ZoB (ZdA ⟨kind,l,false,g⟩ ⟨c,a,b⟩)]
      have z:kind=5:=by omega
      subst z;have m:=(ZaE l).1 u;exact ZkU 5 g rfl l _ _ v c a b f B w k (fun W j i=>Zot v l ⟨c,a,b⟩ false g B W j i m.2 m.1) p
theorem Zwc (v:Value) (s:St) (o:Opn) (w:World) (hs:StV w v s) (X:s.L.length<=1000000):
 Calls prog 42 #[v,opV o] w fun e w'=>Zfb w (lval v) s.L (Y9 s o) e w':=by
 obtain⟨vl,rfl,J,G,H⟩:=hs;rw[ZpH];obtain⟨kind,l,f,g⟩:=s;simp only at J G H X ⊢;have K:=Qc J.i64;have ab:Hid (∀ W,Below w.heap.size w W->Calls prog 81 #[.agg #[.int .i64 kind,vl,.bool f,.int .i64 g]] W fun e w'=>∃ vl',e=.returned (.agg #[.int .i64 kind,vl',.bool f,.int .i64 g])∧Qo w' W.heap.size vl' l∧Below W.heap.size W w'):=fun W h=>Zwb _ ⟨kind,l,f,g⟩ W ⟨vl,rfl,J.below h zL,G,H⟩ X
 have aa:Hid (∀ j W,RdI W j l->Calls prog 82 #[.agg #[.int .i64 kind,j,.bool f,.int .i64 g]] W fun e w'=>e=.returned (.bool (decide (X8 ⟨kind,l,f,g⟩)))∧Below W.heap.size W w'):=fun j W h=>ZkV _ ⟨kind,l,f,g⟩ W ⟨j,rfl,h,G,H⟩
 have C:Hid (∀ x y z,Below w.heap.size w (((w.alloc x).alloc y).alloc z)):=fun x y z=>(Y8 w x y z).1
 have I:Hid (∀ x y z,(((w.alloc x).alloc y).alloc z).heap.size=w.heap.size+1+1+1):=fun x y z=>ZyQ w x y z
 have an:=Qc G;have am:=Qc H;obtain⟨n,a,b⟩:=o;clear J G H X;show Calls prog _ #[_,.agg #[.int .i64 n,.int .i64 a,.int .i64 b]] w _;by_cases u:X8 ⟨kind,l,f,g⟩
 ·have V:=Qc (decide_eq_true u)
  have ag:Hid (∀ j B W,Qo W B j l->B<=W.heap.size->Calls prog 83 #[.agg #[.int .i64 kind,j,.bool f,.int .i64 g],.agg #[.int .i64 n,.int .i64 a,.int .i64 b]] W fun e w'=>Did B W j (Y9 ⟨kind,l,f,g⟩ ⟨n,a,b⟩) e w'):=fun j B W h1 h2=>Zxw ⟨kind,l,f,g⟩ j ⟨n,a,b⟩ B W h1 h2 u
  have A:=Zhm u ⟨n,a,b⟩;have Y:=Qc (ZtR A);have Z:Hid (I64 (Y9 ⟨kind,l,f,g⟩ ⟨n,a,b⟩).1.kind):=Qk (by have:=A.2.2.2.1;omega) (by have:=A.2.2.2.2.1;omega)
  have ad:Hid (I64 (Y9 ⟨kind,l,f,g⟩ ⟨n,a,b⟩).1.eng):=Qk (by have:=A.1;omega) (by have:=A.2.1;omega)
  obtain⟨⟨⟨k',L',s',g'⟩,n'⟩,ai⟩:∃ r,r=Y9 ⟨kind,l,f,g⟩ ⟨n,a,b⟩:=⟨_,rfl⟩;rw[<-ai] at ag Y Z ad ⊢;clear u A ai
  go_enter func42,ntmps42
  go_wp2_with fail
  refine(ab.o _ (C.o _ _ _)).mono ?_;rintro e d ⟨j,rfl,p,q⟩;rw[I.o] at p;have E:=Qc ((J2.made w _ _ _).below q (by simp))
  have t:=Qc ((C.o _ _ _).trans (q.mono (C.o _ _ _).size));have F:=Qc p;have Q:=q.size;rw[I.o] at Q;obtain⟨ao,cap,rfl⟩:=p.shape;clear q p
  go_wp2_with fail
  refine(aa.o _ _ ((F.o.alloc _).rd K.o)).mono ?_;rintro e m ⟨rfl,i⟩;rw[V.o];have M:=Qc ((t.o.alloc t.o.size _).trans (i.mono (by have:=t.o.size;simp;omega)))
  have D:=Qc ((F.o.alloc _).below i zL);have ap:=i.size;have c:=(E.o.below ((Below.refl d.heap.size d).alloc zL _) (by omega)).below i (by simp;omega)
  have k:=(i.block d.heap.size (by simp)).trans (heap_alloc_new d _)
  have ak:=Qc c;obtain⟨p0,-⟩:=c.o 0;obtain⟨p1,-⟩:=c.o 1;obtain⟨p2,-⟩:=c.o 2;have q0:=cell_of_row m d.heap.size 0 _ _ _ k;have q1:=cell_of_row m d.heap.size 1 _ _ _ k;have q2:=cell_of_row m d.heap.size 2 _ _ _ k;have q3:=cell_of_row m d.heap.size 3 _ _ _ k;have af:w.heap.size+1+1+1<=m.heap.size:=by simp at ap;omega
  clear i c k E
  go_wp2_with fail
  refine(ag.o _ _ _ D.o af).mono ?_;rintro e W3 ⟨v3,rfl,N,ac⟩;have O:=ac.below D.o af;have c:=ak.o.below O zL;obtain⟨R,t0⟩:=c.r 0;obtain⟨S,t1⟩:=c.r 1;obtain⟨U,t2⟩:=c.r 2;obtain⟨P,t3⟩:=c.r 3;have al:=Qc (M.o.trans (O.mono (by omega)))
  have ae:=Qc N;obtain⟨aj,aq,rfl⟩:=N.shape;clear O ac c N;go_wp2;refine bodyPost_ret (v:=.tuple #[.agg #[.int .i64 k',.slice aj L'.length aq,.bool s',.int .i64 g'],.int .i64 n']) (by simp[results,Tryz.results42,go_sem,R,S,U,P]) rfl ?_
  refine Zfb.fresh ((ae.o.four (w.heap.size+1+1) (by omega) _ _ _ _).rd Y.o) Z.o ad.o n' (fun b T=>?_) (Zae al.o (w.heap.size+1+1) (by omega) _ _ _ _)
  have:=ae.o.fresh b T;omega
 ·have V:=Qc (decide_eq_false u)
  have HR:=Qc (Zhl u ⟨n,a,b⟩);rw[HR.o];clear u
  go_enter func42,ntmps42
  go_wp2_with fail
  refine(ab.o _ (C.o _ _ _)).mono ?_;rintro e d ⟨j,rfl,p,q⟩;rw[I.o] at p;have E:=Qc ((J2.made w _ _ _).below q (by simp))
  have t:=Qc ((C.o _ _ _).trans (q.mono (C.o _ _ _).size));have F:=Qc p;have Q:=q.size;rw[I.o] at Q;obtain⟨ao,cap,rfl⟩:=p.shape;clear q p
  go_wp2_with fail
  refine(aa.o _ _ ((F.o.alloc _).rd K.o)).mono ?_;rintro e m ⟨rfl,i⟩;rw[V.o];have M:=Qc ((t.o.alloc t.o.size _).trans (i.mono (by have:=t.o.size;simp;omega)))
  have D:=Qc ((F.o.alloc _).below i zL);have c:=(E.o.below ((Below.refl d.heap.size d).alloc zL _) (by omega)).below i (by simp;omega)
  have k:=(i.block d.heap.size (by simp)).trans (heap_alloc_new d _)
  obtain⟨R,t0⟩:=c.r 0;obtain⟨S,t1⟩:=c.r 1;obtain⟨U,t2⟩:=c.r 2;obtain⟨P,t3⟩:=c.r 3;have q0:=cell_of_row m d.heap.size 0 _ _ _ k;have q1:=cell_of_row m d.heap.size 1 _ _ _ k;have q2:=cell_of_row m d.heap.size 2 _ _ _ k;have q3:=cell_of_row m d.heap.size 3 _ _ _ k;clear i c k E;go_wp2;refine bodyPost_ret (v:=.tuple #[.agg #[.int .i64 kind,.slice ao l.length cap,.bool f,.int .i64 g],.int .i64 0]) (by simp[results,Tryz.results42,go_sem,R,S,U,P]) rfl ?_
  refine Zfb.fresh ((D.o.four (w.heap.size+1+1) (by omega) _ _ _ _).rd K.o) an.o am.o 0 (fun b T=>?_) (Zae M.o (w.heap.size+1+1) (by omega) _ _ _ _)
  have:=D.o.fresh b T;omega
theorem Zrx (s:St) (o:Opn):I64 (Y9 s o).2:=by
 by_cases h:s.kind≠4∨s.shut=true∨o.code=10∨o.code=5∨o.code=6∨o.code=7∨(0<=o.a∧o.a<=255)
 ·rw[ZvD s o h]
  exact ZsZ s o
 ·by_cases d:X8 s
  ·have b:s.kind=4:=by
    by_cases b:s.kind=4
    ·exact b
    ·exact absurd (.inl b) h
   have c:s.shut=false:=by
    cases c:s.shut
    ·rfl
    ·exact absurd (.inr (.inl c)) h
   have f:o.code≠10:=fun e=>h (.inr (.inr (.inl e)))
   have g:¬ (0<=o.a∧o.a<=255):=fun e=>h (.inr (.inr (.inr (.inr (.inr (.inr e))))))
   rw[ZjM d c o f,if_neg (by omega),if_neg (by omega),if_pos b]
   unfold Ze;rw[if_pos (by omega)]
   exact(Qk (by decide) (by decide):I64 (-1))
  ·rw[Zhl d]
   exact(Qk (by decide) (by decide):I64 0)
theorem Zxx (n a b:Int) (B:Bool) (i:B=decide (a<=n∧n<=b)) (w:World):
 Calls prog 79 #[.int .i64 n,.int .i64 a,.int .i64 b] w fun e w'=>e=.returned (.bool B)∧w'=w:=by
 have c:=ZZ i;clear i;by_cases f:a<=n
 ·by_cases g:n<=b
  ·have d:Hid (true=B):=ZZ (by rw[c.o,decide_eq_true ⟨f,g⟩])
   clear c
   go_enter func79,ntmps79
   go_wp2;go_ret;exact⟨Yk d.o,rfl⟩
  ·have d:Hid (false=B):=ZZ (by rw[c.o,decide_eq_false fun h=>g h.2])
   clear c
   go_enter func79,ntmps79
   go_wp2;go_ret;exact⟨Yk d.o,rfl⟩
 ·have d:Hid (false=B):=ZZ (by rw[c.o,decide_eq_false fun h=>f h.1])
  clear c
  go_enter func79,ntmps79
  go_wp2;go_ret;exact⟨Yk d.o,rfl⟩
theorem ZoC (r:Rec):Qw r↔(0<=r.idx∧r.idx<=4611686018427387903)∧(0<=r.proc∧r.proc<=64)∧(0<=r.seq∧r.seq<=4611686018427387903)∧Jg r.op∧(-1125899906842624<=r.resp∧r.resp<=1125899906842624):=by
 unfold Qw;constructor
 ·rintro⟨h1,h2,h3,h4,h5,h6,h7,h8,h9⟩
  exact⟨⟨h2,by omega⟩,⟨h6,h7⟩,⟨h4,by omega⟩,h1,h8,h9⟩
 ·rintro⟨⟨h2,h3⟩,⟨h6,h7⟩,⟨h4,h5⟩,h1,h8,h9⟩
  exact⟨h1,h2,by omega,h4,by omega,h6,h7,h8,h9⟩
theorem ZhI (r:Rec) (w:World):
 Calls prog 41 #[Zrr r] w fun e w'=>e=.returned (.bool (decide (Qw r)))∧Below w.heap.size w w':=by
 obtain⟨B,y⟩:∃ B,B=decide (Qw r):=⟨_,rfl⟩;rw[<-y];have g:=ZZ (ZoC r);have G:=ZZ (fun W=>ZkW r.op W)
 have f:=ZZ y;clear y;obtain⟨idx,proc,seq,⟨D,a,b⟩,resp⟩:=r;show Calls prog _ #[.agg #[.int .i64 idx,.int .i64 proc,.int .i64 seq,.int .i64 D,.int .i64 a,.int .i64 b,.int .i64 resp]] w _;have l:Hid (∀ X,Below w.heap.size w (w.alloc X)):=fun X=>(Below.refl _ _).alloc zL X
 have F:Hid (∀ cs,Br (w.alloc (.cells cs 62)) w.heap.size cs):=fun cs=>heap_alloc_new w _
 have q:Hid (∀ W,Calls prog 80 #[.agg #[.int .i64 D,.int .i64 a,.int .i64 b]] W fun e w'=>e=.returned (.bool (decide (Jg ⟨D,a,b⟩)))∧Below W.heap.size W w'):=G.o
 clear G;have c:=ZZ (fun n a b B y W=>Zxx n a b B y W)
 by_cases k:0<=idx∧idx<=4611686018427387903
 case neg=>
  have i:Hid (false=B):=ZZ (by rw[f.o,decide_eq_false fun h=>k (g.o.1 h).1])
  have J:=ZZ (decide_eq_false k).symm;clear f g k q
  go_enter func41,ntmps41
  go_wp2_with fail
  refine(c.o _ _ _ _ J.o _).mono ?_;rintro e d ⟨rfl,rfl⟩;go_wp2;go_ret;exact⟨Yk i.o,l.o _⟩
 have C:=ZZ (decide_eq_true k).symm;by_cases m:0<=proc∧proc<=64
 case neg=>
  have i:Hid (false=B):=ZZ (by rw[f.o,decide_eq_false fun h=>m (g.o.1 h).2.1])
  have u:=ZZ (decide_eq_false m).symm;clear f g k m q
  go_enter func41,ntmps41
  go_wp2_with fail
  refine(c.o _ _ _ _ C.o _).mono ?_;rintro e d ⟨rfl,rfl⟩
  go_wp2_with fail
  refine(c.o _ _ _ _ u.o _).mono ?_;rintro e d ⟨rfl,rfl⟩;go_wp2;go_ret;exact⟨Yk i.o,l.o _⟩
 have u:=ZZ (decide_eq_true m).symm;by_cases p:0<=seq∧seq<=4611686018427387903
 case neg=>
  have i:Hid (false=B):=ZZ (by rw[f.o,decide_eq_false fun h=>p (g.o.1 h).2.2.1])
  have z:=ZZ (decide_eq_false p).symm;clear f g k m p q
  go_enter func41,ntmps41
  go_wp2_with fail
  refine(c.o _ _ _ _ C.o _).mono ?_;rintro e d ⟨rfl,rfl⟩
  go_wp2_with fail
  refine(c.o _ _ _ _ u.o _).mono ?_;rintro e d ⟨rfl,rfl⟩
  go_wp2_with fail
  refine(c.o _ _ _ _ z.o _).mono ?_;rintro e d ⟨rfl,rfl⟩;go_wp2;go_ret;exact⟨Yk i.o,l.o _⟩
 have z:=ZZ (decide_eq_true p).symm;by_cases t:Jg ⟨D,a,b⟩
 case neg=>
  have i:Hid (false=B):=ZZ (by rw[f.o,decide_eq_false fun h=>t (g.o.1 h).2.2.2.1])
  rw[decide_eq_false t] at q;clear f g k m p t
  go_enter func41,ntmps41
  go_wp2_with fail
  refine(c.o _ _ _ _ C.o _).mono ?_;rintro e d ⟨rfl,rfl⟩
  go_wp2_with fail
  refine(c.o _ _ _ _ u.o _).mono ?_;rintro e d ⟨rfl,rfl⟩
  go_wp2_with fail
  refine(c.o _ _ _ _ z.o _).mono ?_;rintro e d ⟨rfl,rfl⟩
  go_wp2_with fail
  refine(q.o _).mono ?_;rintro e H ⟨rfl,j⟩;have x:=ZZ ((l.o _).trans (j.mono (l.o _).size));clear j;go_wp2;go_ret;exact⟨Yk i.o,x.o⟩
 rw[decide_eq_true t] at q;by_cases v:-1125899906842624<=resp∧resp<=1125899906842624
 case neg=>
  have i:Hid (false=B):=ZZ (by rw[f.o,decide_eq_false fun h=>v (g.o.1 h).2.2.2.2])
  have E:=ZZ (decide_eq_false v).symm;clear f g k m p t v
  go_enter func41,ntmps41
  go_wp2_with fail
  refine(c.o _ _ _ _ C.o _).mono ?_;rintro e d ⟨rfl,rfl⟩
  go_wp2_with fail
  refine(c.o _ _ _ _ u.o _).mono ?_;rintro e d ⟨rfl,rfl⟩
  go_wp2_with fail
  refine(c.o _ _ _ _ z.o _).mono ?_;rintro e d ⟨rfl,rfl⟩
  go_wp2_with fail
  refine(q.o _).mono ?_;rintro e H ⟨rfl,j⟩;have A:=(F.out _).below j zL;have x:=ZZ ((l.o _).trans (j.mono (l.o _).size));obtain⟨K,-⟩:=A.cell 6;clear j A
  go_wp2_with fail
  refine(c.o _ _ _ _ E.o _).mono ?_;rintro e I ⟨rfl,rfl⟩;go_wp2;go_ret;exact⟨Yk i.o,x.o⟩
 have i:Hid (true=B):=ZZ (by rw[f.o,decide_eq_true (g.o.2 ⟨k,m,p,t,v⟩)])
 have E:=ZZ (decide_eq_true v).symm;clear f g k m p t v
 go_enter func41,ntmps41
 go_wp2_with fail
 refine(c.o _ _ _ _ C.o _).mono ?_;rintro e d ⟨rfl,rfl⟩
 go_wp2_with fail
 refine(c.o _ _ _ _ u.o _).mono ?_;rintro e d ⟨rfl,rfl⟩
 go_wp2_with fail
 refine(c.o _ _ _ _ z.o _).mono ?_;rintro e d ⟨rfl,rfl⟩
 go_wp2_with fail
 refine(q.o _).mono ?_;rintro e H ⟨rfl,j⟩;have A:=(F.out _).below j zL;have x:=ZZ ((l.o _).trans (j.mono (l.o _).size));obtain⟨K,-⟩:=A.cell 6;clear j A
 go_wp2_with fail
 refine(c.o _ _ _ _ E.o _).mono ?_;rintro e I ⟨rfl,rfl⟩;go_wp2;go_ret;exact⟨Yk i.o,x.o⟩
def ZhJ (w:World) (vl0 vt0:Value) (l:List Rec) (r:Qv × Int) (e:Ending) (w':World):Prop:=
 ∃ vl vt,e=.returned (.tuple #[.agg #[.int .i64 r.1.idx,.int .i64 r.1.st.kind,vl,.bool r.1.st.shut,.int .i64 r.1.st.eng,vt],.int .i64 r.2])∧RdI w' vl r.1.st.L∧I64 r.1.st.kind∧I64 r.1.st.eng∧RdE w' vt r.1.tab∧I64 r.1.idx∧
  (vl=vl0∨∀ b,vl.ownBlock=some b->w.heap.size<=b)∧((l=[]∧vt=vt0)∨Xc w' w.heap.size vt r.1.tab)∧Below w.heap.size w w'
def ZmD (w:World) (S:Qv) (wr:World):Prop:=
 ∃ la lc ta tc,Bn wr w.heap.size #[.int .i64 S.idx,.int .i64 S.st.kind,.slice la S.st.L.length lc,.bool S.st.shut,.int .i64 S.st.eng,.slice ta S.tab.length tc]∧
  Bn wr (w.heap.size+1) #[.int .i64 0,.int .i64 0,.slice none 0 0,.bool false,.int .i64 0,.slice none 0 0]∧
  RdI wr (.slice la S.st.L.length lc) S.st.L∧(∀ b,(Value.slice la S.st.L.length lc).ownBlock=some b->w.heap.size+2<=b)∧
  Xc wr (w.heap.size+2) (.slice ta S.tab.length tc) S.tab∧(∀ e ∈ S.tab,ZkN e)∧I64 S.idx∧I64 S.st.kind∧I64 S.st.eng∧Below w.heap.size w wr
theorem Qo.freshI {l:List Int} (h:Qo w B v l):∀ b,v.ownBlock=some b->B<=b:=fun b a=>(World.ownsRow.lt h b a).1
theorem Xc.butN {l:List Ent} (h:Xc w B v l) (c:But R T w w') (k:∀ b,v.ownBlock=some b->b≠R∧b≠T):Xc w' B v l:=by
 rcases h.row with ⟨rfl,rfl⟩ | ⟨g,cap,cur,rfl,f,i,d,m,a,j,e⟩
 ·exact Xc.nil _ _
 ·have:=k g rfl
  exact Xc.ofRow rfl f ((c.block g i this.1 this.2).trans d) m a j e
theorem Xc.but {l:List Ent} (h:Xc w B v l) (a:But R T w w') (d:R<B) (c:T<B):Xc w' B v l:=
 h.butN a (fun b a=>by have:=h.fresh b a;omega)
theorem ZhK {l:Bool} {z u:Value} {L:List Int} {d:Nat}
 (m:Bn W w.heap.size #[.int .i64 idx,.int .i64 kind,z,.bool l,.int .i64 k,u]) (A:Bn W (w.heap.size+1) #[.int .i64 0,.int .i64 0,.slice none 0 0,.bool false,.int .i64 0,.slice none 0 0])
 (j:Qo W (w.heap.size+2) (.slice f L.length g) L) (y:∀ n ∈ L,I64 n) (p:Xc W (w.heap.size+2) (.slice c a.length d) a) (B:∀ e ∈ a,ZkN e) (t:I64 idx) (x:I64 kind) (v:I64 k) (q:Below w.heap.size w W):
 ZmD w ⟨idx,⟨kind,L,l,k⟩,a⟩ ((W.setCell ⟨w.heap.size,2,none⟩ (.slice f L.length g)).setCell ⟨w.heap.size,5,none⟩ (.slice c a.length d)):=by
 have i:But w.heap.size w.heap.size W ((W.setCell ⟨w.heap.size,2,none⟩ (.slice f L.length g)).setCell ⟨w.heap.size,5,none⟩ (.slice c a.length d)):=((But.refl _ _ _).set _ _ (.inl rfl) _).set _ _ (.inl rfl) _;refine⟨f,g,c,d,(m.set 2 _).set 5 _,(A.other 2 _ (by omega)).other 5 _ (by omega),(j.rd y).but i (.inr fun b h=>?_),j.freshI,p.but i (by omega) (by omega),B,t,x,v,Zaf q i (by have:=m.lt;omega) zL zL⟩
 have:=j.freshI b h;omega
theorem ZtS {s:St} (o:Opn) (h:s.L.length<=1000):(Y9 s o).1.L.length<=1000:=by
 by_cases a:X8 s
 ·have:=(Zhb (Zhm a o)).2.1
  omega
 ·rw[Zhl a]
  exact h
theorem Zry {s:Qv} {l:List Rec} {q:Nat} (a:q<l.length):Xa s (l.drop q)=if(l.getD q Qi).idx≠s.idx then(Xr,15) else if ¬ Qw (l.getD q Qi) then(Xr,1) else Xa (ZiW s (l.getD q Qi)) (l.drop (q+1)):=by
 have e:l.drop q=l.getD q Qi::l.drop (q+1):=by
  rw[List.drop_eq_getElem_cons a];simp[List.getD,a]
 rw[e,Xa]
def Zfx (W:World) (R Q:Nat) (k:Int) (v:Value) (sh:Bool) (g n:Int):World:=
 ((((W.setCell ⟨R,1,none⟩ (.int .i64 k)).setCell ⟨R,2,none⟩ v).setCell ⟨R,3,none⟩ (.bool sh)).setCell ⟨R,4,none⟩ (.int .i64 g)).setCell ⟨Q,6,none⟩ (.int .i64 n)
theorem Br.other {c:Nat} {cs:Array Value} (h:Br w b cs) (j:Nat) (x:Value) (a:b≠c):Br (w.setCell ⟨c,j,none⟩ x) b cs:=(Below.heap_setCell _ _ _ _ a).trans h
theorem ZoD (W:World) (R Q:Nat) (k:Int) (v:Value) (a:Bool) (g n:Int):But R Q W (Zfx W R Q k v a g n):=
 (((((But.refl R Q W).set _ _ (.inl rfl) _).set _ _ (.inl rfl) _).set _ _ (.inl rfl) _).set _ _ (.inl rfl) _).set _ _ (.inr rfl) _
theorem Zrz (e:R≠Q) {a f d i j c:Value} (h:Bn W R #[a,f,d,i,j,c]) (k:Int) (v:Value) (b:Bool) (g n:Int):Bn (Zfx W R Q k v b g n) R #[a,.int .i64 k,v,.bool b,.int .i64 g,c]:=
 ((((h.set 1 _).set 2 _).set 3 _).set 4 _).other 6 _ e
theorem ZrA (a:Q≠R) {c d b f i e l:Value} (h:Br W Q #[c,d,b,f,i,e,l]) (k:Int) (v:Value) (j:Bool) (g n:Int):Br (Zfx W R Q k v j g n) Q #[c,d,b,f,i,e,.int .i64 n]:=
 ((((h.other 1 _ a).other 2 _ a).other 3 _ a).other 4 _ a).set 6 _
theorem ZoE {C:Nat} (a:C≠R) (b:C≠Q) {cs:Array Value} (h:Bn W C cs) (k:Int) (v:Value) (c:Bool) (g n:Int):Bn (Zfx W R Q k v c g n) C cs:=
 ((((h.other 1 _ a).other 2 _ a).other 3 _ a).other 4 _ a).other 6 _ b
theorem ZoF {j:Int} {k:Bool} {t:Value} {L:List Int} {d:Nat}
 (l:Bn W w.heap.size #[.int .i64 idx,.int .i64 kind,.slice f L.length g,.bool k,.int .i64 j,t]) (y:Bn W (w.heap.size+1) #[.int .i64 0,.int .i64 0,.slice none 0 0,.bool false,.int .i64 0,.slice none 0 0])
 (u:RdI W (.slice f L.length g) L) (m:∀ b,(Value.slice f L.length g).ownBlock=some b->w.heap.size+2<=b) (n:Xc W (w.heap.size+2) (.slice c a.length d) a) (z:∀ e ∈ a,ZkN e) (q:I64 (idx+1)) (x:I64 kind) (v:I64 j) (p:Below w.heap.size w W):
 ZmD w ⟨idx+1,⟨kind,L,k,j⟩,a⟩ ((W.setCell ⟨w.heap.size,5,none⟩ (.slice c a.length d)).setCell ⟨w.heap.size,0,none⟩ (.int .i64 (idx+1))):=by
 have i:But w.heap.size w.heap.size W ((W.setCell ⟨w.heap.size,5,none⟩ (.slice c a.length d)).setCell ⟨w.heap.size,0,none⟩ (.int .i64 (idx+1))):=((But.refl _ _ _).set _ _ (.inl rfl) _).set _ _ (.inl rfl) _;refine⟨f,g,c,d,(l.set 5 _).set 0 _,(y.other 5 _ (by omega)).other 0 _ (by omega),u.but i (.inr fun b h=>?_),m,n.but i (by omega) (by omega),z,q,x,v,Zaf p i (by have:=l.lt;omega) zL zL⟩
 have:=m b h;omega
theorem ZhJ.zero (d c:Value) (l:List Rec) (n:Int) (a:Below w.heap.size w w'):ZhJ w d c l (Xr,n) (.returned (.tuple #[.agg #[.int .i64 0,.int .i64 0,.slice none 0 0,.bool false,.int .i64 0,.slice none 0 0],.int .i64 n])) w':=
 ⟨_,_,rfl,RdI.nil _,(Qk (by decide) (by decide):I64 0),(Qk (by decide) (by decide):I64 0),RdE.nil _,(Qk (by decide) (by decide):I64 0),.inr (fun b a=>by simp[Value.ownBlock] at a),.inr (Xc.nil _ _),a⟩
theorem ZmE {P:Qv->Prop} (bd:∀ S r,P S->Qw r->P (ZiW S r)) (a8:∀ S,P S->S.tab.length<=1500) (idx kind:Int) (vl:Value) (J:Bool) (N:Int) (vt:Value) (s:Qv) (vr:Value) (l:List Rec) (w:World) (hs:SnV w (.agg #[.int .i64 idx,.int .i64 kind,vl,.bool J,.int .i64 N,vt]) s) (hr:RdR w vr l) (bo:s.st.L.length<=1000) (bJ:s.tab.length<=1000) (bY:l.length<=1000000000) (bl:P s):
 Calls prog 15 #[.agg #[.int .i64 idx,.int .i64 kind,vl,.bool J,.int .i64 N,vt],vr] w fun e w'=>ZhJ w vl vt l (Xa s l) e w':=by
 obtain⟨vl',b1,ab,hl,hk,D,ht,hi⟩:=hs
 injection ab with ab
 injection ab with ab
 simp only [List.cons.injEq,Value.int.injEq,Value.bool.injEq,and_true,true_and] at ab;obtain⟨rfl,rfl,rfl,rfl,rfl,rfl⟩:=ab;obtain⟨la,lc,bB,-⟩:=id hl;obtain⟨ta,tc,bv⟩:=ht.shape;subst bB bv;obtain⟨ra,rc,rfl,bE,bR,-,aX,a0⟩:=hr;have bF:=ZZ bd;have bK:=ZZ a8;clear bd a8;have aT:=ZZ a0;have be:=ZZ aX;obtain⟨idx,⟨kind,L,J,N⟩,ac⟩:=s
 dsimp only at *
 have aQ:=ZZ bl;clear bl;obtain⟨K,aI⟩:∃ K,K=Xa ⟨idx,⟨kind,L,J,N⟩,ac⟩ l:=⟨_,rfl⟩;rw[<-aI];have bg:=ZZ aI;have a7:Hid (∀ (S:Qv) (q:Nat),q<l.length->Xa S (l.drop q)=if(l.getD q Qi).idx≠S.idx then(Xr,15) else if ¬ Qw (l.getD q Qi) then(Xr,1) else Xa (ZiW S (l.getD q Qi)) (l.drop (q+1))):=ZZ (fun S q hq=>Zry hq)
 clear aI a0 aX bE bR;have a3:=ZZ (fun W (h:Below w.heap.size w W)=>Zfr _ L W (hl.below h zL) (by omega))
 have aW:=ZZ (fun W (h:Below w.heap.size w W)=>Zfs _ ac W (ht.below h zL) (by omega))
 have aD:=ZZ hl.i64;have a6:∀ e ∈ ac,ZkN e:=ht.choose_spec.choose_spec.2.2.2.2.1;have aU:=ZZ a6;have u:Hid (∀ X Y,Below w.heap.size w ((w.alloc X).alloc Y)):=fun X Y=>((Below.refl _ _).alloc zL X).alloc (by simp) Y
 have R:Hid (∀ cs ds,Bn ((w.alloc (.cells cs 41)).alloc (.cells ds 41)) w.heap.size cs):=fun cs ds=>(Below.heap_alloc _ _ _ (by simp)).trans (heap_alloc_new w _)
 have g:Hid (∀ cs ds,Bn ((w.alloc (.cells cs 41)).alloc (.cells ds 41)) (w.heap.size+1) ds):=fun cs ds=>ZdM w _ _
 clear hl ht a6
 go_enter func15,ntmps15
 go_upto_region 1 with fail
 obtain⟨d,f⟩:∃ d,d=(w.alloc (.cells #[.int .i64 idx,.int .i64 kind,.slice la L.length lc,.bool J,.int .i64 N,.slice ta ac.length tc] 41)).alloc (.cells #[.int .i64 0,.int .i64 0,.slice none 0 0,.bool false,.int .i64 0,.slice none 0 0] 41):=⟨_,rfl⟩;have H:Hid (Below w.heap.size w d):=ZZ (by rw[f];exact u.o _ _)
 have y:Hid (Bn d w.heap.size #[.int .i64 idx,.int .i64 kind,.slice la L.length lc,.bool J,.int .i64 N,.slice ta ac.length tc]):=ZZ (by rw[f];exact R.o _ _)
 have bm:Hid (Bn d (w.heap.size+1) #[.int .i64 0,.int .i64 0,.slice none 0 0,.bool false,.int .i64 0,.slice none 0 0]):=ZZ (by rw[f];exact g.o _ _)
 have bT:d.heap.size=w.heap.size+2:=by rw[f];simp
 rw[<-f];clear f u R g;obtain⟨p2,g2⟩:=y.o.cell 2;obtain⟨p5,g5⟩:=y.o.cell 5
 go_cut[] (fun wc=>Hid (ZmD w ⟨idx,⟨kind,L,J,N⟩,ac⟩ wc))
 case first=>
  go_region_with
   (first
    | (go_at_call 39;refine(a3.o _ (by first | exact H.o.drew | exact H.o)).mono ?_;rintro e W1 ⟨v1,rfl,aH,k⟩;have aq:Below d.heap.size d W1:=(by first | exact((Below.refl _ _).drew).trans k | exact k);have bN:=ZZ aH;have G:=ZZ aq;obtain⟨a1,c1,bO⟩:∃ a c,v1=.slice a L.length c:=(by obtain⟨a,c,h,-⟩:=aH.rd aD.o;exact⟨a,c,h⟩);subst bO;obtain⟨q2,k2⟩:=(y.o.below aq zL).cell 2;obtain⟨q5,k5⟩:=(y.o.below aq zL).cell 5;clear aH k aq)
    | (go_at_call 40;refine(aW.o _ (H.o.trans (G.o.mono H.o.size))).mono ?_;rintro e W2 ⟨v2,rfl,aA,m⟩;have bz:=ZZ aA;have af:=ZZ (G.o.trans (m.mono G.o.size));have br:=ZZ (bN.o.below m zL);obtain⟨a2,c2,aL⟩:=aA.shape;subst aL;obtain⟨r2,j2⟩:=(y.o.below af.o zL).cell 2;obtain⟨r5,j5⟩:=(y.o.below af.o zL).cell 5;clear aA m))
  all_goals
   go_wp2_with fail
   go_meet
   exact ZZ (ZhK (y.o.below af.o zL) (bm.o.below af.o zL) (br.o.mono (by first | omega | (show w.heap.size+2<=d.heap.size;omega))) aD.o (bz.o.mono (by have:=G.o.size;omega)) aU.o hi hk D (H.o.trans (af.o.mono H.o.size)))
 case rest=>
  have aP:=hcut;clear hcut H y bm bT p2 g2 p5 g5 a3 aW aD aU d hk D hi;go_wp2
  go_loopw[20] (fun vi wr=>∃ (q:Nat) (S:Qv),vi=.int .i64 (q:Int)∧q<=l.length∧Hid (ZmD w S wr)∧Hid (K=Xa S (l.drop q))∧Hid (S.st.L.length<=1000)∧Hid (P S)) (fun vi _=>l.length-(intOf vi).toNat)
  case atStart=>exact⟨0,_,rfl,Nat.zero_le _,aP,bg,ZZ bo,aQ⟩
  case round=>
   clear aP bg bo bJ aQ;obtain⟨q,S,rfl,hq,hT,ap,bb,aY⟩:=hrel;obtain⟨sa,sc,ea,ec,z,t,hL,bj,hE,bk,hi,hk,D,hB⟩:=hT.out;clear hT;have HX:=ZZ z;have HY:=ZZ t;have HL:=ZZ hL;have ar:=ZZ bj;have HE:=ZZ hE;have aE:=ZZ bk;have ai:=ZZ (And.intro hi (And.intro hk D));have HB:=ZZ hB;have bL:=ZZ t.lt;obtain⟨p0,g0⟩:=z.cell 0;obtain⟨p1,g1⟩:=z.cell 1;obtain⟨p2,g2⟩:=z.cell 2;obtain⟨p3,g3⟩:=z.cell 3;obtain⟨p4,g4⟩:=z.cell 4;obtain⟨p5,g5⟩:=z.cell 5;obtain⟨z0,y0⟩:=t.cell 0;obtain⟨Q,y1⟩:=t.cell 1;obtain⟨z2,y2⟩:=t.cell 2;obtain⟨z3,y3⟩:=t.cell 3;obtain⟨U,y4⟩:=t.cell 4;obtain⟨V,y5⟩:=t.cell 5;clear z t hL bj hE bk hi hk D hB;by_cases E:q<l.length
   case neg=>
    obtain rfl:q=l.length:=by omega
    have F:Hid (K=(S,0)):=ZZ (by rw[ap.out,List.drop_length];rfl)
    clear ap;have b3:¬ (w.heap.size=w.heap.size+1):=by omega
    go_wp2;refine bodyPost_ret (v:=.tuple #[.agg #[.int .i64 S.idx,.int .i64 S.st.kind,.slice sa S.st.L.length sc,.bool S.st.shut,.int .i64 S.st.eng,.slice ea S.tab.length ec],.int .i64 0]) (by simp[results,Tryz.results15,go_sem,z0,Q,z2,z3,U,V]) rfl ?_
    rw[F.o];have az:=ZpZ wr (w.heap.size+1) (.int .i64 S.idx) (.int .i64 S.st.kind) (.slice sa S.st.L.length sc) (.bool S.st.shut) (.int .i64 S.st.eng) (.slice ea S.tab.length ec);exact⟨_,_,rfl,HL.o.but az (.inr fun b h=>by have:=ar.o b h;omega),ai.o.2.1,ai.o.2.2,(HE.o.rd aE.o).but az (.inr fun b h=>by have:=HE.o.fresh b h;omega),ai.o.1,.inr (fun b h=>by have:=ar.o b h;omega),.inr ((HE.o.but az (by omega) (by omega)).mono (by omega)),Zew HB.o _ (by omega) _ _ _ _ _ _⟩
   have b2:(q:Int)<(l.length:Int):=by omega
   rcases aT.o with h0 | ⟨c,bX,rfl,hc⟩
   ·rw[h0] at E;simp at E
   obtain⟨c0,c1,c2,c3,c4,c5,c6⟩:=(hc q E).keep (HB.o.block c (hc q E).lt);have C:=ZZ (a7.o S q E);rw[<-ap.out] at C;have ag:=ZZ (fun W=>ZhI (l.getD q Qi) W)
   have M:Hid (ZcK (l.getD q Qi)):=ZZ (be.o _ (by rw[show l.getD q Qi=l[q] by simp[List.getD,E]];exact List.getElem_mem E))
   obtain⟨r,hr⟩:∃ r,r=l.getD q Qi:=⟨_,rfl⟩;rw[<-hr] at C ag M c0 c1 c2 c3 c4 c5 c6;clear hr hc a7 aT be ap;obtain⟨bf,aC⟩:∃ bf,bf=decide (Qw r):=⟨_,rfl⟩;rw[<-aC] at ag;have aO:=ZZ aC;clear aC;have bW:=bL.o;clear p0 p1 p2 p3 p4 p5 g0 g1 g2 g3 g4 g5 z0 Q z2 z3 U V y0 y1 y2 y3 y4 y5
   go_upto_region 5 with fail
   obtain⟨d,f⟩:∃ d,d=wr.alloc (.cells (Zi r) 62):=⟨_,rfl⟩;have u:Hid (Below wr.heap.size wr d):=ZZ (by rw[f];exact(Below.refl _ _).alloc zL _)
   have j:Hid (Br d wr.heap.size (Zi r)):=ZZ (by rw[f];exact heap_alloc_new wr _)
   unfold Zi at f;rw[<-f];clear f c0 c1 c2 c3 c4 c5 c6;unfold Zi at j;unfold Zrr at ag;obtain⟨i,au⟩:∃ i,i=wr.heap.size:=⟨_,rfl⟩;have R:=ZZ (HX.o.below u.o zL);have g:=ZZ (HY.o.below u.o zL);have ao:=ZZ (HB.o.trans (u.o.mono HB.o.size));rw[<-au] at j ⊢;obtain⟨p0,g0⟩:=R.o.cell 0;obtain⟨k0,-⟩:=j.o.cell 0;obtain⟨k1,-⟩:=j.o.cell 1;obtain⟨k2,-⟩:=j.o.cell 2;obtain⟨k3,-⟩:=j.o.cell 3;obtain⟨k4,-⟩:=j.o.cell 4;obtain⟨k5,-⟩:=j.o.cell 5;obtain⟨k6,-⟩:=j.o.cell 6;by_cases Z:r.idx=S.idx
   case neg=>
    have F:Hid (K=(Xr,15)):=ZZ (by rw[C.o,if_pos Z])
    have bw:(r.idx != S.idx)=true:=by rw[bne_iff_ne];exact Z
    obtain⟨z0,y0⟩:=g.o.cell 0;obtain⟨Q,y1⟩:=g.o.cell 1;obtain⟨z2,y2⟩:=g.o.cell 2;obtain⟨z3,y3⟩:=g.o.cell 3;obtain⟨U,y4⟩:=g.o.cell 4;obtain⟨V,y5⟩:=g.o.cell 5;clear Z C au;go_wp2;refine bodyPost_ret (v:=.tuple #[.agg #[.int .i64 0,.int .i64 0,.slice none 0 0,.bool false,.int .i64 0,.slice none 0 0],.int .i64 15]) (by simp[results,Tryz.results15,go_sem,z0,Q,z2,z3,U,V]) rfl ?_
    rw[F.o];exact ZhJ.zero _ _ _ _ (ZaY ao.o _ (by omega) _ _ _ _ _ _)
   have bw:(r.idx != S.idx)=false:=by rw[bne_eq_false_iff_eq];exact Z
   have aK:=ZZ Z;have ad:=ZZ au;clear Z au
   go_wp2_with fail
   refine(ag.o _).mono ?_;rintro x W1 ⟨rfl,k⟩;have G:=ZZ (u.o.trans (k.mono u.o.size));have aB:=ZZ (ao.o.trans (k.mono ao.o.size));have aj:=ZZ (R.o.below k zL);have p:=ZZ (g.o.below k zL);have ak:=ZZ (j.o.below k zL);clear k u ao R g j ag p0 g0 k0 k1 k2 k3 k4 k5 k6
   cases bf with
   | false=>
    have F:Hid (K=(Xr,1)):=ZZ (by rw[C.o,if_neg (by rw[aK.o];simp),if_pos (of_decide_eq_false aO.o.symm)])
    obtain⟨z0,y0⟩:=p.o.cell 0;obtain⟨Q,y1⟩:=p.o.cell 1;obtain⟨z2,y2⟩:=p.o.cell 2;obtain⟨z3,y3⟩:=p.o.cell 3;obtain⟨U,y4⟩:=p.o.cell 4;obtain⟨V,y5⟩:=p.o.cell 5;clear C;go_wp2;refine bodyPost_ret (v:=.tuple #[.agg #[.int .i64 0,.int .i64 0,.slice none 0 0,.bool false,.int .i64 0,.slice none 0 0],.int .i64 1]) (by simp[results,Tryz.results15,go_sem,z0,Q,z2,z3,U,V]) rfl ?_
    rw[F.o];exact ZhJ.zero _ _ _ _ (ZaY aB.o _ (by omega) _ _ _ _ _ _)
   | true=>
    have aG:Hid (Qw r):=ZZ (of_decide_eq_true aO.o.symm);have F:Hid (K=Xa (ZiW S r) (l.drop (q+1))):=ZZ (by rw[C.o,if_neg (by rw[aK.o];simp),if_neg (fun h=>h aG.o)])
    have B:=ZZ (Zwc (.agg #[.int .i64 S.st.kind,.slice sa S.st.L.length sc,.bool S.st.shut,.int .i64 S.st.eng]) S.st r.op W1 ⟨_,rfl,HL.o.below G.o zL,ai.o.2.1,ai.o.2.2⟩ (by have:=bb.out;omega))
    rw[ZpH] at B;have aF:=ZZ (ZtS r.op bb.out);have an:=ZZ (Zrx S.st r.op);have al:Hid (ZiW S r=⟨S.idx+1,(Y9 S.st r.op).1,ZcE S.tab ⟨r.proc,r.seq,(Y9 S.st r.op).2⟩⟩):=ZZ rfl;have aV:=ZZ (Zte S.tab ⟨r.proc,r.seq,(Y9 S.st r.op).2⟩);obtain⟨so,aS⟩:∃ so,so=Y9 S.st r.op:=⟨_,rfl⟩;rw[<-aS] at B aF an al aV;clear aS C aO;obtain⟨⟨k',L',sh',g'⟩,n'⟩:=so
    dsimp only at B aF an al aV
    unfold opV at B;unfold Zfb at B
    dsimp only at B
    obtain⟨p1,g1⟩:=aj.o.cell 1;obtain⟨p2,g2⟩:=aj.o.cell 2;obtain⟨p3,g3⟩:=aj.o.cell 3;obtain⟨p4,g4⟩:=aj.o.cell 4;obtain⟨k3,-⟩:=ak.o.cell 3;obtain⟨k4,-⟩:=ak.o.cell 4;obtain⟨k5,-⟩:=ak.o.cell 5
    go_wp2_with fail
    refine B.o.mono ?_;rintro x W2 ⟨v2,rfl,aN,aZ,bi,ay,m⟩;clear B p1 g1 p2 g2 p3 g3 p4 g4 k3 k4 k5;have T:=ZZ (aj.o.below m zL);have bV:=ZZ (p.o.below m zL);have A:=ZZ (ak.o.below m zL);have ba:=ZZ (aB.o.trans (m.mono aB.o.size));have bq:=ZZ ((HE.o.below G.o zL).below m zL);obtain⟨a2,n2,aL⟩:∃ a c,v2=.slice a L'.length c:=by obtain⟨a,c,h,-⟩:=aN;exact⟨a,c,h⟩
    subst aL;have bZ:i<W1.heap.size:=ak.o.lt
    have bS:Hid (L'=[]∨∀ b,(Value.slice a2 L'.length n2).ownBlock=some b->b≠w.heap.size∧b≠i):=ZZ (by
     rcases ay with ⟨I,h2⟩ | h
     ·rw[I,h2]
      rcases HL.o.old with h3 | h3
      ·exact .inl h3
      ·exact .inr fun b n=>by
        have h4:=h3 b n;have h5:=ar.o b n;have h6:=ad.o;omega
     ·exact .inr fun b n=>by
       have h4:=h b n;have h5:=p.o.lt
       omega)
    have bI:Hid (∀ b,(Value.slice a2 L'.length n2).ownBlock=some b->w.heap.size+2<=b):=ZZ (fun b n=>by
     rcases ay with ⟨I,h2⟩ | h
     ·rw[I] at n
      exact ar.o b n
     ·have h4:=h b n
      have h5:=p.o.lt
      omega)
    have bD:Hid (∀ b,(Value.slice ea S.tab.length ec).ownBlock=some b->b≠w.heap.size∧b≠i):=ZZ (fun b n=>by
     have I:=World.ownsRow.lt HE.o b n;have h2:=ad.o
     omega)
    have a4:w.heap.size≠i:=by have:=ad.o;omega
    have bu:i≠w.heap.size:=fun h=>a4 h.symm
    have bH:w.heap.size+1≠i:=by have:=ad.o;omega
    have bA:=ZZ aN;have aR:=ZZ (And.intro aZ bi);clear aN aZ bi ay m;obtain⟨O,aa⟩:∃ O,O=Zfx W2 w.heap.size i k' (.slice a2 L'.length n2) sh' g' n':=⟨_,rfl⟩;have bp:Hid (Bn O w.heap.size #[.int .i64 S.idx,.int .i64 k',.slice a2 L'.length n2,.bool sh',.int .i64 g',.slice ea S.tab.length ec]):=ZZ (by rw[aa];exact Zrz a4 T.o _ _ _ _ _)
    have b4:Hid (Br O i #[.int .i64 r.idx,.int .i64 r.proc,.int .i64 r.seq,.int .i64 r.op.code,.int .i64 r.op.a,.int .i64 r.op.b,.int .i64 n']):=ZZ (by rw[aa];exact ZrA bu A.o _ _ _ _ _)
    have a9:Hid (Bn O (w.heap.size+1) #[.int .i64 0,.int .i64 0,.slice none 0 0,.bool false,.int .i64 0,.slice none 0 0]):=ZZ (by rw[aa];exact ZoE (by omega) bH bV.o _ _ _ _ _)
    have ax:Hid (But w.heap.size i W2 O):=ZZ (by rw[aa];exact ZoD _ _ _ _ _ _ _ _)
    have bC:=ZZ (bA.o.but ax.o bS.o);have bQ:=ZZ (bq.o.butN ax.o bD.o);have bc:=ZZ (Zaf ba.o ax.o ba.o.size zL (by have:=ad.o;omega))
    have am:=ZZ (ZtL (.slice ea S.tab.length ec) S.tab ⟨r.idx,r.proc,r.seq,r.op,n'⟩ O (bQ.o.rd aE.o) ⟨M.o.1,M.o.2.1,M.o.2.2.1,M.o.2.2.2.1,an.o⟩ (by have:=bK.o _ aY.out;omega))
    unfold Zrr at am
    dsimp only at am
    have av:=aa;unfold Zfx at av;have s1:=(T.o.cell 1);have s2:=(T.o.cell 2);have s3:=(T.o.cell 3);have s4:=(T.o.cell 4);have s5:=(T.o.cell 5);obtain⟨s1,u1⟩:=s1;obtain⟨s2,u2⟩:=s2;obtain⟨s3,u3⟩:=s3;obtain⟨s4,u4⟩:=s4;obtain⟨s5,u5⟩:=s5;obtain⟨t0,m0⟩:=A.o.cell 0;obtain⟨t1,m1⟩:=A.o.cell 1;obtain⟨t2,m2⟩:=A.o.cell 2;obtain⟨t3,m3⟩:=A.o.cell 3;obtain⟨t4,m4⟩:=A.o.cell 4;obtain⟨t5,m5⟩:=A.o.cell 5;obtain⟨t6,m6⟩:=A.o.cell 6;clear aa
    go_wp2_with fail
    rw[<-av];refine am.o.mono ?_;rintro x W5 ⟨v5,rfl,aw,ae⟩;clear av s1 s2 s3 s4 s5 u1 u2 u3 u4 u5 t0 t1 t2 t3 t4 t5 t6 m0 m1 m2 m3 m4 m5 m6 am;have aM:=ZZ (bp.o.below ae zL);have bt:=ZZ (a9.o.below ae zL);have bU:=ZZ (bC.o.below ae zL);have bM:=ZZ (bc.o.trans (ae.mono bc.o.size));have bG:=ZZ (aw.mono (B':=w.heap.size+2) (by have:=a9.o.lt;omega))
    obtain⟨a5,c5,bx⟩:=aw.shape;subst bx
    have bP:Hid (∀ e ∈ ZcE S.tab ⟨r.proc,r.seq,n'⟩,ZkN e):=ZZ (fun e D=>by
     unfold ZcE at D;rcases(Zhg _ _ _ _).1 D with ⟨-,h⟩ | ⟨h,-⟩
     ·rw[h]
      exact⟨M.o.2.1,M.o.2.2.1,an.o⟩
     ·exact aE.o e h)
    have aJ:Hid (I64 (S.idx+1)):=ZZ (by
     have I:=aG.o;unfold Qw at I;have h2:=aK.o
     exact⟨by omega,by omega⟩)
    have b0:IntKind.i64.wrap (S.idx+1)=S.idx+1:=by
     have:=aJ.o;rw[IntKind.wrap_i64];obtain⟨I,h2⟩:=this;omega
    obtain⟨p0,g0⟩:=aM.o.cell 0;obtain⟨p5,g5⟩:=aM.o.cell 5;clear aw ae;have bn:-9223372036854775808<=S.idx+1∧S.idx+1<=9223372036854775807:=aJ.o;obtain⟨bn,k⟩:=bn;go_wp2;go_roundw
    case rel=>
     exact⟨q+1,ZiW S r,by go_num,by omega,ZZ (by rw[al.o];exact ZoF aM.o bt.o bU.o bI.o bG.o bP.o aJ.o aR.o.1 aR.o.2 bM.o),F,ZZ (by rw[al.o];exact aF.o),ZZ (bF.o _ _ aY.out aG.o)⟩
    case measure=>simp[intOf];omega
def RdL (w:World) (v:Value) (L:List (List UInt8)):Prop:=
 ∃ ao cap,v=.slice ao L.length cap∧L.length<=cap∧cap<=maxLen∧(ao=none->cap=0)∧
  (L=[]∨∃ b off,ao=some ⟨b,off,none⟩∧∀ j,j<L.length->∃ x,w.cell? ⟨b,off+j,none⟩=some x∧Rd w x (L.getD j []))
def ZhL (w:World) (B:Nat) (v:Value) (L:List (List UInt8)):Prop:=
 ∃ xs:List Value,w.ownsRow B 53 1 v L.length xs∧∀ j,j<L.length->∃ x,xs[j]?=some x∧Own w B x (L.getD j [])
theorem RdL.nil (w:World):RdL w (.slice none 0 0) []:=⟨none,0,rfl,Nat.le_refl _,Nat.zero_le _,fun _=>rfl,.inl rfl⟩
theorem ZhL.nil (w:World) (B:Nat):ZhL w B (.slice none 0 0) []:=⟨[],World.ownsRow_nil w B 53 1,fun j a=>by simp at a⟩
theorem RdL.below (h:RdL w v L) {B:Nat} (d:Below B w w') (e:w.heap.size<=B):RdL w' v L:=by
 obtain⟨ao,cap,q,l,g,u,c⟩:=h;refine⟨ao,cap,q,l,g,u,?_⟩;rcases c with c | ⟨b,a,t,m⟩
 ·exact .inl c
 ·refine .inr ⟨b,a,t,fun j n=>?_⟩
  obtain⟨x,f,i⟩:=m j n;have k:b<w.heap.size:=World.block_lt_of_cell? w ⟨b,a+j,none⟩ f;refine⟨x,?_,i.below d e⟩;rw[d.cell (p:=⟨b,a+j,none⟩) (by exact Nat.lt_of_lt_of_le k e)]
  exact f
theorem RdL.front (h:RdL w (.slice ao n cap) L) (k:Nat) (z:k<=L.length):RdL w (.slice ao k cap) (L.take k):=by
 obtain⟨u,v,c,A,m,f,a⟩:=h;simp only [Value.slice.injEq] at c;obtain⟨rfl,_,rfl⟩:=c;have q:(L.take k).length=k:=by simp;omega
 refine⟨ao,cap,by rw[q],by omega,m,f,?_⟩
 rcases a with a | ⟨b,g,t,p⟩
 ·exact .inl (by rw[a];simp)
 ·refine .inr ⟨b,g,t,fun j y=>?_⟩
  have d:j<k:=by omega
  obtain⟨x,i,l⟩:=p j (by omega)
  refine⟨x,i,?_⟩;have e:(L.take k).getD j []=L.getD j []:=by simp[List.getD,d]
  rw[e];exact l
theorem ZhL.rd (h:ZhL w B v L):RdL w v L:=by
 obtain⟨xs,b,f⟩:=h;rcases b.2 with ⟨a,c⟩ | ⟨g,cap,cur,a,n,q,i,l,t,p⟩
 ·exact⟨none,0,by rw[a,c],by omega,Nat.zero_le _,fun _=>rfl,.inl (List.eq_nil_of_length_eq_zero c)⟩
 ·refine⟨some ⟨g,0,none⟩,cap,a,i,l,(fun e=>by cases e),.inr ⟨g,0,rfl,fun j k=>?_⟩⟩
  obtain⟨x,d,m⟩:=f j k;have:=World.ownsRow.cells b (g:=g) (by rw[a];rfl) j _ d
  rw[Addr.add_lit] at this;exact⟨x,this,m.rd⟩
theorem ZhL.mono (h:ZhL w B v L) (b:B'<=B):ZhL w B' v L:=by
 obtain⟨xs,⟨i,a⟩,d⟩:=h;refine⟨xs,⟨i,?_⟩,fun j f=>?_⟩
 ·rcases a with a | ⟨g,cap,cur,e,l,r⟩
  ·exact .inl a
  ·exact .inr ⟨g,cap,cur,e,by omega,r⟩
 ·obtain⟨x,c,k⟩:=d j f
  exact⟨x,c,k.mono b⟩
theorem ZhL.below (h:ZhL w B v L) (b:Below B' w w') (d:w.heap.size<=B'):ZhL w' B v L:=by
 obtain⟨xs,⟨l,a⟩,f⟩:=h;refine⟨xs,⟨l,?_⟩,fun j k=>?_⟩
 ·rcases a with a | ⟨g,cap,cur,i,n,c,r⟩
  ·exact .inl a
  ·have p:g<w.heap.size:=(Array.getElem?_eq_some_iff.1 c).1
   exact .inr ⟨g,cap,cur,i,n,by rw[b.block g (by omega)];exact c,r⟩
 ·obtain⟨x,e,m⟩:=f j k
  exact⟨x,e,m.below b d⟩
theorem ZjN:(prog.info? 53).map (fun i=>(i.zero,i.size,i.bytes))=some (some (.slice none 0 0),1,24):=by kernel_rfl
theorem ZmF {x:Value} {xs:List Value} (j:w.ownsRow B 53 1 v n xs) (i:Own w B' x l):x.ownBlock=none∨x.ownBlock≠v.ownBlock:=by
 rcases i.2 with ⟨b,_⟩ | ⟨g,cap,cur,b,_,a,_⟩
 ·exact .inl (by rw[b];rfl)
 ·right
  rcases j.2 with ⟨c,_⟩ | ⟨g',m,p,c,_,f,_⟩
  ·rw[b,c]
   exact fun e=>by cases e
  ·rw[b,c]
   intro e;have k:g=g':=by simpa[Value.ownBlock] using e
   rw[k,f] at a
   have d:(53:Nat)=5:=by
    injection a with a
    injection a
   exact absurd d (by decide)
theorem ZhM (w:World) (ty:TypeId) (B:Nat) (v:Value) (L:List (List UInt8)) (h:ZhL w B v L) (x:Value) (d:List UInt8) (c:Own w B x d) (M:L.length<=1000000) (H:B<=w.heap.size):
 ∃ v' w',(Builtin.append_ #[144,144] ty #[v,.slice (some ⟨w.heap.size,0,none⟩) 1 1]).run prog (w.alloc (.cells #[x] 53))=.ok v' w'∧ZhL w' B v' (L++[d])∧Below B w w':=by
 obtain⟨p,A,F,D,q⟩:=info_parts ZjN;obtain⟨xs,b,z⟩:=h
 have J:x.oneCell'=true:=by
  rcases c.2 with ⟨l,_⟩ | ⟨g,cap,cur,l,_⟩ <;> rw[l] <;> rfl
 obtain⟨v',w',C,K,f,_⟩:=run_append_own (P:=prog) (w.alloc (.cells #[x] 53)) B 144 ty 53 p (.slice none 0 0) 1 24 underlying144 A F D q rfl (by decide) v L.length xs (b.alloc _)
  ⟨w.heap.size,0,none⟩ 1 1 [x] rfl (fun j u a=>by
   match j,a with
   | 0,a=>simp at a;subst a;simp[Addr.add]) (fun u m=>by simp at m;subst m;exact J) (by unfold maxLen;omega) (by omega) (by simp;omega)
 have E:xs.length=L.length:=by rw[b.1,Nat.mul_one]
 refine⟨v',w',C,⟨xs++[x],by rw[length_append];exact K,fun j a=>?_⟩,?_⟩
 ·by_cases i:j<L.length
  ·obtain⟨y,G,n⟩:=z j i
   refine⟨y,by rw[List.getElem?_append_left (by omega)];exact G,?_⟩
   have e:(L++[d]).getD j []=L.getD j []:=by simp[List.getD,List.getElem?_append_left i]
   rw[e];exact World.ownsRow.kept (World.ownsRow.alloc n _) f (ZmF b n)
  ·have t:j=L.length:=by simp at a;omega
   subst t;refine⟨x,by rw[List.getElem?_append_right (by omega),E];simp,?_⟩
   have e:(L++[d]).getD L.length []=d:=by simp[List.getD]
   rw[e];exact World.ownsRow.kept (World.ownsRow.alloc c _) f (ZmF b c)
 ·exact((Below.refl _ _).alloc H _).grown f (by simp;omega) (fun k I=>(World.ownsRow.lt b k I).1)
theorem Zez (w:World) {b:Array Oper} {rest:List Oper} {o:Oper} {a:Act} {Q:Exit->Act->World->Prop} (c:o.guard=none) (s x:Operand)
 (p:o.op=.call { callee:=.builtin .append,args:=#[s,x],argTypes:=#[144,144] })
 (B:Nat) (v:Value) (L:List (List UInt8)) (m:a.eval s=v) (e:ZhL w B v L) (y:Value) (d:List UInt8) (f:a.eval x=.slice (some ⟨w.heap.size,0,none⟩) 1 1) (k:Own w B y d)
 (q:L.length<=1000000) (n:B<=w.heap.size)
 (h:∀ v' w',ZhL w' B v' (L++[d])->Below B w w'->wpList prog b Q rest (a.put o.dst v') w'):wpList prog b Q (o::rest) a (w.alloc (.cells #[y] 53)):=
 wpList_plain c fun _ i=>by
  obtain⟨v',w',j,l,g⟩:=ZhM w o.type B v L e y d k q n;unfold Oper.wp execOp;simp only [p,resolve,invoke,builtin,Sem.run_bind,Sem.run_pure,Result.andThen_ok,map_toArray,map_cons,map_nil,m,f,j];exact i _ _ (h v' w' l g)
theorem ZoG (a b:Nat) (f:a<4294967296) (e:b<4294967296):bits .xor .u32 (a:Int) (b:Int)=((a ^^^ b:Nat):Int):=by
 have g:a ^^^ b<2 ^ 32:=Nat.xor_lt_two_pow (by omega) (by omega)
 have c:(BitVec.ofInt 32 (a:Int)).toNat=a:=by
  rw[BitVec.ofInt_natCast,BitVec.toNat_ofNat];exact Nat.mod_eq_of_lt (by omega)
 have d:(BitVec.ofInt 32 (b:Int)).toNat=b:=by
  rw[BitVec.ofInt_natCast,BitVec.toNat_ofNat];exact Nat.mod_eq_of_lt (by omega)
 show IntKind.u32.wrap ((BitVec.ofInt 32 (a:Int) ^^^ BitVec.ofInt 32 (b:Int)).toNat:Int)=_;rw[BitVec.toNat_xor,c,d,IntKind.wrap_u32];omega
theorem Zyr (a b:Nat) (f:a<256) (e:b<256):bits .xor .u8 (a:Int) (b:Int)=((a ^^^ b:Nat):Int):=by
 have g:a ^^^ b<2 ^ 8:=Nat.xor_lt_two_pow (by omega) (by omega)
 have c:(BitVec.ofInt 8 (a:Int)).toNat=a:=by
  rw[BitVec.ofInt_natCast,BitVec.toNat_ofNat];exact Nat.mod_eq_of_lt (by omega)
 have d:(BitVec.ofInt 8 (b:Int)).toNat=b:=by
  rw[BitVec.ofInt_natCast,BitVec.toNat_ofNat];exact Nat.mod_eq_of_lt (by omega)
 show IntKind.u8.wrap ((BitVec.ofInt 8 (a:Int) ^^^ BitVec.ofInt 8 (b:Int)).toNat:Int)=_;rw[BitVec.toNat_xor,c,d,IntKind.wrap_u8];omega
theorem ZrB (k x:Nat):Jt (k+1) x=ZqJ (Jt k x):=by
 rw[ZlN k 1];rfl
theorem ZtT (k:Nat) {x:Nat} (h:x<4294967296):Jt k x<4294967296:=by
 have:=Zkx k (Nat.le_refl 32) (by omega:x<2 ^ 32)
 omega
theorem ZoH (l:List UInt8) (x k:Nat) (h:k<l.length):Zbk x (l.take (k+1))=ZdB (Zbk x (l.take k)) (l.getD k 0).toNat:=by
 rw[ZgP l k h,Zek];rfl
theorem Zwd (x c:Nat) (a:c<256):(x ^^^ c) % 256=x % 256 ^^^ c:=by
 have h:=@Nat.xor_mod_two_pow x c 8;have e:c % 2 ^ 8=c:=Nat.mod_eq_of_lt (by omega)
 rw[e] at h;exact h
theorem Zxy (x c:Nat) (a:c<256):x % 256 ^^^ c<256:=by
 have:x % 256 ^^^ c<2 ^ 8:=Nat.xor_lt_two_pow (by omega) (by omega)
 omega
theorem Zwe (c:Nat) (h:c<256):Zdj c<4294967296:=ZtT 8 (by omega)
theorem ZtU (s:Nat) (h:s<4294967296):bits .xor .u32 IntKind.u32.max (s:Int)=((s ^^^ 4294967295:Nat):Int):=by
 have e:IntKind.u32.max=((4294967295:Nat):Int):=by decide
 rw[e,ZoG _ _ (by decide) h,Nat.xor_comm]
def ZwX (l:List UInt8):List UInt8 × Nat:=if l.length<=1048576 then(Qe l,0) else([],5)
theorem Zwf {k e:IntKind} {a b c d:Int} (h:a=b) (f:c=d):Ending.returned (.tuple #[v,.int k a,.int e c])=.returned (.tuple #[v,.int k b,.int e d]):=by rw[h,f]
theorem Zys (h:Jp l):Xp l=([],0,2):=by unfold Xp;rw[if_pos h]
theorem Zyt (h:¬ Jp l) (a:(Qb l).2=0):Xp l=([],0,3):=by unfold Xp;rw[if_neg h,if_pos a]
theorem Zyu (h:¬ Jp l) (a:(Qb l).2≠0) (b:1048576<(Qb l).1):Xp l=([],0,5):=by unfold Xp;rw[if_neg h,if_neg a,if_pos b]
theorem Zyv (h:¬ Jp l) (a:(Qb l).2≠0) (c:¬ 1048576<(Qb l).1) (b:l.length<(Qb l).2+4+(Qb l).1):Xp l=([],0,2):=by
 unfold Xp;rw[if_neg h,if_neg a,if_neg c,if_pos b]
theorem Zyw (h:¬ Jp l) (b:(Qb l).2≠0) (d:¬ 1048576<(Qb l).1) (c:¬ l.length<(Qb l).2+4+(Qb l).1)
 (a:Lib.leNat ((l.drop ((Qb l).2+(Qb l).1)).take 4)≠Q2 0 (l.take ((Qb l).2+(Qb l).1))):Xp l=([],0,4):=by
 unfold Xp;rw[if_neg h,if_neg b,if_neg d,if_neg c,if_pos a]
theorem Zyx (h:¬ Jp l) (b:(Qb l).2≠0) (d:¬ 1048576<(Qb l).1) (c:¬ l.length<(Qb l).2+4+(Qb l).1)
 (a:Lib.leNat ((l.drop ((Qb l).2+(Qb l).1)).take 4)=Q2 0 (l.take ((Qb l).2+(Qb l).1))):Xp l=((l.drop (Qb l).2).take (Qb l).1,(Qb l).2+4+(Qb l).1,0):=by
 unfold Xp;rw[if_neg h,if_neg b,if_neg d,if_neg c,if_neg (by rw[a];simp)]
theorem ZrC (l:List UInt8):(Qb l).2<=9:=by
 rcases Q4 l with h | ⟨a,d,e,c⟩
 ·rw[h];decide
 ·have b:(Lib.uvarint (Qb l).1).length<=9:=Lib.uvarint_length 8 _ (Nat.lt_of_lt_of_le a (by decide))
  rw[<-c,List.length_take] at b;omega
def ZdO (w:World) (l:List UInt8) (e:Ending) (w':World):Prop:=
 ∃ v',e=.returned (.tuple #[v',.int .i64 ((Xp l).2.1:Nat),.int .i64 ((Xp l).2.2:Nat)])∧Own w' w.heap.size v' (Xp l).1∧Below w.heap.size w w'
theorem ZdO.refused {c:Nat} (h:Xp l=([],0,c)):ZdO w l (.returned (.tuple #[.slice none 0 0,.int .i64 0,.int .i64 (c:Int)])) w:=by
 refine⟨.slice none 0 0,?_,?_,Below.refl _ _⟩
 ·rw[h];rfl
 ·rw[h];exact Own.nil _ _
def ZtV (l:List UInt8) (A:Nat) (L:List (List UInt8)):Prop:=
 Qm l=(L++(Qm (l.drop A)).1,A+(Qm (l.drop A)).2.1,(Qm (l.drop A)).2.2)∧5*L.length<=A∧A<=l.length
theorem ZtV.start (l:List UInt8):ZtV l 0 []:=⟨by simp,by simp,by omega⟩
theorem ZtV.stop (h:ZtV l A L) (c:A<l.length) (b:(Xp (l.drop A)).2.2≠0):Qm l=(L,A,(Xp (l.drop A)).2.2):=by
 have a:l.drop A≠[]:=fun e=>by
  have:=congrArg List.length e;rw[length_drop,List.length_nil] at this;omega
 rw[h.1,ZbX a b];simp
theorem ZtV.whole (h:ZtV l A L) (a:¬ A<l.length):Qm l=(L,A,0):=by
 have e:l.drop A=[]:=List.drop_of_length_le (by omega)
 rw[h.1,e,ZbJ];simp
theorem ZtV.step (h:ZtV l A L) (f:A<l.length) (a:(Xp (l.drop A)).2.2=0):ZtV l (A+(Xp (l.drop A)).2.1) (L++[(Xp (l.drop A)).1]):=by
 have b:l.drop A≠[]:=fun e=>by
  have:=congrArg List.length e;rw[length_drop,List.length_nil] at this;omega
 have d:=ZbI a;have c:=Ztd (l.drop A);rw[length_drop] at c;refine⟨?_,?_,by omega⟩
 ·rw[h.1,ZbY b a,List.drop_drop]
  simp[Nat.add_assoc]
 ·have:=h.2.1
  simp;omega
def ZwY (l:List UInt8):List (List UInt8) × Nat:=if(Qm l).2.2=0 then((Qm l).1,0) else([],(Qm l).2.2)
theorem Zjd (w:World) (ty:TypeId) (B:Nat) (v:Value) (b:List UInt8) (c:Own w B v b) (g:Value) (l:List UInt8) (p:Rd w g l)
 (C:b.length+l.length<=70368744177664) (t:B<=w.heap.size):
 ∃ v' w',(Builtin.append_ #[53,53] ty #[v,g]).run prog w=.ok v' w'∧Own w' B v' (b++l)∧w.grownBy w' v.ownBlock:=by
 obtain⟨e,f,q,k,i⟩:=info_parts Zkt;obtain⟨ao,cap,rfl,A,z,x,y⟩:=p
 cases ao with
 | none=>
  have m:=x rfl;subst m;have n:l=[]:=List.eq_nil_of_length_eq_zero (by omega)
  subst n;have d:=run_append_owned_none (P:=prog) w B 53 ty 5 e 1 underlying53 f v b.length (Lib.byteCells b) c;exact⟨v,w,d,by rw[List.append_nil];exact c,⟨rfl,rfl,rfl,Nat.le_refl _,fun _ _ _=>rfl⟩⟩
 | some a=>
  obtain⟨v',w',d,u,j,_⟩:=run_append_own (P:=prog) w B 53 ty 5 e (.int .u8 0) 1 1 underlying53 f q k i rfl (by decide) v b.length (Lib.byteCells b) c a l.length cap (Lib.byteCells l)
   (by rw[Yi,Nat.mul_one]) (Rd.cells y a rfl) (ZaD l) (by unfold maxLen;omega) (by omega) t
  exact⟨v',w',d,Own.mk' u (by simp) (by simp[Lib.byteCells]),j⟩
theorem Zfy (w:World) {d:Array Oper} {rest:List Oper} {o:Oper} {a:Act} {Q:Exit->Act->World->Prop} (e:o.guard=none) (s x:Operand)
 (t:o.op=.call { callee:=.builtin .append,args:=#[s,x],argTypes:=#[53,53] })
 (B:Nat) (v:Value) (b:List UInt8) (p:a.eval s=v) (f:Own w B v b) (c:Value) (l:List UInt8) (g:a.eval x=c) (m:Rd w c l)
 (u:b.length+l.length<=70368744177664) (q:B<=w.heap.size)
 (h:∀ v' w',Own w' B v' (b++l)->w.grownBy w' v.ownBlock->wpList prog d Q rest (a.put o.dst v') w'):wpList prog d Q (o::rest) a w:=
 wpList_plain e fun _ j=>by
  obtain⟨v',w',k,n,i⟩:=Zjd w o.type B v b f c l m u q;unfold Oper.wp execOp;simp only [t,resolve,invoke,builtin,Sem.run_bind,Sem.run_pure,Result.andThen_ok,map_toArray,map_cons,map_nil,p,g,k];exact j _ _ (h v' w' n i)
open Go.RowKit Go.ChangeShapes
theorem ZhN:prog.elem 144=53:=by kernel_rfl
theorem ZjO (w:World):(sizeOf 53).run prog w=.ok 1 w:=by
 obtain⟨c,a,_,b,_⟩:=info_parts ZjN;simp[sizeOf,typeInfo,a,b]
theorem Zde:prog.underlying 144=some (.slice (prog.elem 144)):=by rw[ZhN];exact underlying144
theorem RdR.mid {l:List Rec} (h:RdR w (.slice ao n cap) l) (i j m:Nat) (K:i<=j) (I:j<=l.length) (D:j<=m) (G:m<=cap):RdR w (sliced ao i j m 7) ((l.drop i).take (j-i)):=by
 obtain⟨E,F,p,J,H,g,v,d⟩:=h;simp only [Value.slice.injEq] at p;obtain⟨rfl,rfl,rfl⟩:=p;have f:((l.drop i).take (j-i)).length=j-i:=by simp;omega
 have u:∀ n ∈ (l.drop i).take (j-i),ZcK n:=fun n a=>v n (List.mem_of_mem_drop (List.mem_of_mem_take a))
 unfold sliced;by_cases q:m=i
 ·rw[if_pos q]
  have e:j-i=0:=by omega
  refine⟨ao,m-i,by rw[f],by omega,by omega,fun a=>by have:=g a;omega,u,.inl ?_⟩
  rw[e];simp
 ·rw[if_neg q]
  refine⟨ao.map (·.add (i*7)),m-i,by rw[f],by omega,by omega,fun a=>?_,u,?_⟩
  ·have A:ao=none:=by simpa using a
   have:=g A;omega
  ·rcases d with d | ⟨b,c,B,z⟩
   ·exact .inl (by rw[d];simp)
   ·refine .inr ⟨b,c+i*7,?_,fun k t=>?_⟩
    ·rw[B,Option.map_some,Addr.add_lit]
    ·rw[f] at t
     have C:=z (i+k) (by omega)
     have x:c+i*7+k*7=c+(i+k)*7:=by omega
     have y:((l.drop i).take (j-i)).getD k Qi=l.getD (i+k) Qi:=by simp[List.getD,t]
     rw[x,y];exact C
theorem RdL.mid {l:List (List UInt8)} (h:RdL w (.slice ao n cap) l) (i j m:Nat) (J:i<=j) (H:j<=l.length) (C:j<=m) (F:m<=cap):RdL w (sliced ao i j m 1) ((l.drop i).take (j-i)):=by
 obtain⟨D,E,g,I,G,f,a⟩:=h;simp only [Value.slice.injEq] at g;obtain⟨rfl,rfl,rfl⟩:=g;have c:((l.drop i).take (j-i)).length=j-i:=by simp;omega
 unfold sliced;by_cases p:m=i
 ·rw[if_pos p]
  have e:j-i=0:=by omega
  refine⟨ao,m-i,by rw[c],by omega,by omega,fun d=>by have:=f d;omega,.inl ?_⟩
  rw[e];simp
 ·rw[if_neg p]
  refine⟨ao.map (·.add (i*1)),m-i,by rw[c],by omega,by omega,fun d=>?_,?_⟩
  ·have A:ao=none:=by simpa using d
   have:=f A;omega
  ·rcases a with a | ⟨b,v,B,z⟩
   ·exact .inl (by rw[a];simp)
   ·refine .inr ⟨b,v+i,?_,fun k q=>?_⟩
    ·rw[B,Nat.mul_one,Option.map_some,Addr.add_lit]
    ·rw[c] at q
     obtain⟨x,u,t⟩:=z (i+k) (by omega)
     refine⟨x,by rw[Nat.add_assoc];exact u,?_⟩
     have y:((l.drop i).take (j-i)).getD k []=l.getD (i+k) []:=by simp[List.getD,q]
     rw[y];exact t
theorem RdR.cells {l:List Rec} (h:l=[]∨∃ b c,ao=some ⟨b,c,none⟩∧∀ j,j<l.length->Zja w b (c+j*7) (l.getD j Qi)) (a:Addr) (d:ao=some a):
 ∀ j u,(Qq l)[j]?=some u->w.cell? (a.add j)=some u:=by
 intro j u f;rcases h with h | ⟨b,c,z,v⟩
 ·rw[h] at f
  simp[Qq] at f
 ·rw[z] at d
  injection d with d
  subst d;have x:j<(Qq l).length:=(List.getElem?_eq_some_iff.1 f).1;rw[Yx] at x;have i:j=j / 7*7+j % 7:=by omega
  have g:=Zbp l (j / 7) (j % 7) (by omega) (by omega)
  rw[<-i,f] at g;obtain⟨p,A,n,t,m,y,q⟩:=v (j / 7) (by omega)
  have e:∀ k,k<7->c+(j / 7*7+k)=c+j / 7*7+k:=fun k _=>by omega
  rw[Addr.add_lit,i,e (j % 7) (by omega)]
  have hk:j % 7=0∨j % 7=1∨j % 7=2∨j % 7=3∨j % 7=4∨j % 7=5∨j % 7=6:=by omega
  rcases hk with hk | hk | hk | hk | hk | hk | hk
  all_goals
   rw[hk] at g ⊢;rw[g]
   first | exact p | exact A | exact n | exact t | exact m | exact y | exact q
theorem ZhO (w:World) (ty:TypeId) (B:Nat) (v:Value) (b:List Rec) (c:Q9 w B v b) (i:Value) (l:List Rec) (t:RdR w i l)
 (E:b.length+l.length<=1000000) (g:B<=w.heap.size):
 ∃ v' w',(Builtin.append_ #[29,29] ty #[v,i]).run prog w=.ok v' w'∧Q9 w' B v' (b++l)∧Below B w w':=by
 obtain⟨e,f,u,n,j⟩:=info_parts Zdc;obtain⟨ao,cap,rfl,D,C,z,_,A⟩:=t
 cases ao with
 | none=>
  have p:=z rfl;subst p;have q:l=[]:=List.eq_nil_of_length_eq_zero (by omega)
  subst q;have d:=run_append_owned_none (P:=prog) w B 29 ty 62 e 7 underlying29 f v b.length (Qq b) c;exact⟨v,w,d,by rw[List.append_nil];exact c,Below.refl _ _⟩
 | some a=>
  obtain⟨v',w',d,y,m,_⟩:=run_append_own (P:=prog) w B 29 ty 62 e _ 7 56 underlying29 f u n j rfl (by decide) v b.length (Qq b) c a l.length cap (Qq l)
   (Yx l) (RdR.cells A a rfl) (Zbq l) (by unfold maxLen;omega) (by omega) g
  refine⟨v',w',d,?_,?_⟩
  ·unfold Q9
   rw[length_append,Zax];exact y
  ·exact(Below.refl _ _).grown m g (fun k x=>(World.ownsRow.lt c k x).1)
theorem ZeA (w:World) {d:Array Oper} {rest:List Oper} {o:Oper} {a:Act} {Q:Exit->Act->World->Prop} (e:o.guard=none) (s x:Operand)
 (t:o.op=.call { callee:=.builtin .append,args:=#[s,x],argTypes:=#[29,29] })
 (B:Nat) (v:Value) (b:List Rec) (p:a.eval s=v) (f:Q9 w B v b) (c:Value) (l:List Rec) (g:a.eval x=c) (m:RdR w c l)
 (u:b.length+l.length<=1000000) (q:B<=w.heap.size)
 (h:∀ v' w',Q9 w' B v' (b++l)->Below B w w'->wpList prog d Q rest (a.put o.dst v') w'):wpList prog d Q (o::rest) a w:=
 wpList_plain e fun _ j=>by
  obtain⟨v',w',k,n,i⟩:=ZhO w o.type B v b f c l m u q;unfold Oper.wp execOp;simp only [t,resolve,invoke,builtin,Sem.run_bind,Sem.run_pure,Result.andThen_ok,map_toArray,map_cons,map_nil,p,g,k];exact j _ _ (h v' w' n i)
def Bsg (w:World) (b:Nat) (cs:Array Value):Prop:=w.heap[b]?=some (.cells cs 217 (0,0))
theorem Bsg.lt {cs:Array Value} (h:Bsg w b cs):b<w.heap.size:=(Array.getElem?_eq_some_iff.1 h).1
theorem Bsg.below {cs:Array Value} (h:Bsg w b cs) (a:Below B w w') (c:w.heap.size<=B):Bsg w' b cs:=(a.block b (by have:=h.lt;omega)).trans h
theorem Bsg.cell {cs:Array Value} (h:Bsg w b cs) (j:Nat):w.cell? ⟨b,j,none⟩=cs[j]?∧w.frozen? ⟨b,j,none⟩=false:=⟨cell_of_row w b j _ _ _ h,frozen_of_row w b j _ _ h⟩
def pcC (p:Pce):Array Value:=#[.int .i64 p.name,.int .i64 p.first,.int .i64 p.stop]
def Qx:List Pce->List Value
 | []=>[]
 | c::l=>(pcC c).toList++Qx l
theorem Zas:∀ l:List Pce,(Qx l).length=l.length*3
 | []=>rfl
 | c::l=>by
  rw[Qx,length_append,Zas l,List.length_cons];show 3+_=_;omega
theorem ZhP:∀ a b:List Pce,Qx (a++b)=Qx a++Qx b
 | [],_=>rfl
 | c::l,b=>by rw[List.cons_append,Qx,ZhP l b,Qx,List.append_assoc]
theorem Zch:∀ (l:List Pce) (j k:Nat),j<l.length->k<3->(Qx l)[j*3+k]?=(pcC (l.getD j Yv))[k]?
 | c::l,0,k,_,hk=>by
  rw[Qx,Nat.zero_mul,Nat.zero_add,List.getElem?_append_left (by show k<3;exact hk)]
  simp
 | c::l,j+1,k,hj,hk=>by
  have e:(j+1)*3+k=(pcC c).toList.length+(j*3+k):=by show _=3+_;omega
  rw[Qx,e,List.getElem?_append_right (by omega),Nat.add_sub_cancel_left,Zch l j k (by simpa using hj) hk]
  rfl
theorem ZoI (l:List Pce):∀ u ∈ Qx l,u.oneCell'=true:=by
 induction l with
 | nil=>intro u a;cases a
 | cons c l b=>
  intro u a;rw[Qx] at a;rcases List.mem_append.1 a with h | h
  ·simp[pcC] at h
   rcases h with rfl | rfl | rfl <;> rfl
  ·exact b u h
def snC (x:Qv × Value × Value):Array Value:=#[.int .i64 x.1.idx,.int .i64 x.1.st.kind,x.2.1,.bool x.1.st.shut,.int .i64 x.1.st.eng,x.2.2]
def snV (x:Qv × Value × Value):Value:=.agg (snC x)
def Xh:List (Qv × Value × Value)->List Value
 | []=>[]
 | c::l=>(snC c).toList++Xh l
theorem Zdr:∀ l:List (Qv × Value × Value),(Xh l).length=l.length*6
 | []=>rfl
 | c::l=>by
  rw[Xh,length_append,Zdr l,List.length_cons];show 6+_=_;omega
theorem ZhQ:∀ a b:List (Qv × Value × Value),Xh (a++b)=Xh a++Xh b
 | [],_=>rfl
 | c::l,b=>by rw[List.cons_append,Xh,ZhQ l b,Xh,List.append_assoc]
theorem ZhR:∀ (l:List (Qv × Value × Value)) (j k:Nat) (a:j<l.length),k<6->(Xh l)[j*6+k]?=(snC l[j])[k]?
 | c::l,0,k,_,hk=>by
  rw[Xh,Nat.zero_mul,Nat.zero_add,List.getElem?_append_left (by show k<6;exact hk)]
  simp
 | c::l,j+1,k,a,hk=>by
  have e:(j+1)*6+k=(snC c).toList.length+(j*6+k):=by show _=6+_;omega
  rw[Xh,e,List.getElem?_append_right (by omega),Nat.add_sub_cancel_left,ZhR l j k (by simpa using a) hk]
  rfl
structure SnR (w:World) (x:Qv × Value × Value):Prop where
 l:RdI w x.2.1 x.1.st.L
 t:RdE w x.2.2 x.1.tab
 k:I64 x.1.st.kind
 e:I64 x.1.st.eng
 i:I64 x.1.idx
theorem SnR.snV (h:SnR w x):SnV w (snV x) x.1:=⟨x.2.1,x.2.2,rfl,h.l,h.k,h.e,h.t,h.i⟩
theorem SnR.below (h:SnR w x) {B:Nat} (a:Below B w w') (b:w.heap.size<=B):SnR w' x:=⟨h.l.below a b,h.t.below a b,h.k,h.e,h.i⟩
def ZlB (I:Nat->Prop) (x:Qv × Value × Value):Prop:=(x.1.st.L=[]∨∀ g,x.2.1.ownBlock=some g->I g)∧(x.1.tab=[]∨∀ g,x.2.2.ownBlock=some g->I g)
theorem ZlB.mono {J:Nat->Prop} (h:ZlB I x) (b:∀ k,I k->J k):ZlB J x:=by
 obtain⟨c,d⟩:=h;exact⟨c.imp id fun h g a=>b g (h g a),d.imp id fun h g a=>b g (h g a)⟩
theorem RdE.keepS {l:List Ent} (h:RdE w v l) (hk:l=[]∨∀ g,v.ownBlock=some g->w'.heap[g]?=w.heap[g]?):RdE w' v l:=by
 obtain⟨ao,cap,rfl,e,c,m,k,a⟩:=h;refine⟨ao,cap,rfl,e,c,m,k,?_⟩;rcases a with a | ⟨b,d,rfl,f⟩
 ·exact .inl a
 ·rcases hk with hk | hk
  ·exact .inl hk
  ·exact .inr ⟨b,d,rfl,fun j i=>(f j i).keep (hk b rfl)⟩
theorem RdI.keepS {l:List Int} (h:RdI w v l) (hk:l=[]∨∀ g,v.ownBlock=some g->w'.heap[g]?=w.heap[g]?):RdI w' v l:=by
 obtain⟨ao,cap,rfl,f,e,n,m,c⟩:=h;refine⟨ao,cap,rfl,f,e,n,m,?_⟩;rcases c with c | ⟨b,d,rfl,i⟩
 ·exact .inl c
 ·rcases hk with hk | hk
  ·exact .inl hk
  ·exact .inr ⟨b,d,rfl,fun j k=>(World.cell?_of_block (a:=⟨b,d+j,none⟩) (hk b rfl)).trans (i j k)⟩
theorem SnR.keep (h:SnR w x) (c:ZlB I x) (b:∀ g,I g->w'.heap[g]?=w.heap[g]?):SnR w' x:=
 ⟨h.l.keepS (c.1.imp id fun h g a=>b g (h g a)),h.t.keepS (c.2.imp id fun h g a=>b g (h g a)),h.k,h.e,h.i⟩
structure ZdP where
 rv:Value
 pv:Value
 bv:Value
 nl:Value
 nt:Value
 bs:List (Qv × Value × Value)
def ZdP.nx (L:ZdP) (s:Sto):Qv × Value × Value:=(s.now,L.nl,L.nt)
def stC (pd:Nat) (L:ZdP) (s:Sto):Array Value:=
 #[ptr pd,.int .i64 s.log.first,L.rv,L.pv,L.bv,.int .i64 s.now.idx,.int .i64 s.now.st.kind,L.nl,.bool s.now.st.shut,.int .i64 s.now.st.eng,L.nt,.int .i64 s.synced,.int .i64 s.cur,.bool s.nw]
structure Z0 (M I:Nat->Prop) (w:World) (p pd:Nat) (L:ZdP) (s:Sto):Prop where
 head:Bk 76 w p (stC pd L s)
 recs:Q9 w 0 L.rv s.log.recs
 pcs:w.ownsRow 0 108 3 L.pv s.log.pcs.length (Qx s.log.pcs)
 bases:w.ownsRow 0 41 6 L.bv L.bs.length (Xh L.bs)
 bsEq:L.bs.map Prod.fst=s.bases
 now:SnR w (L.nx s)
 base:∀ x ∈ L.bs,SnR w x
 mh:M p
 mr:∀ g,L.rv.ownBlock=some g->M g
 mp:∀ g,L.pv.ownBlock=some g->M g
 mb:∀ g,L.bv.ownBlock=some g->M g
 inow:ZlB I (L.nx s)
 ibase:∀ x ∈ L.bs,ZlB I x
 ltM:∀ k,M k->k<w.heap.size
 ltI:∀ k,I k->k<w.heap.size
 dis:∀ k,M k->¬ I k
theorem Z0.keep {L:ZdP} (h:Z0 M I w p pd L s) (b:∀ k,(M k∨I k)->w'.heap[k]?=w.heap[k]?) (d:w.heap.size<=w'.heap.size):Z0 M I w' p pd L s:=
 ⟨h.head.keep (b p (.inl h.mh)),Qh h.recs fun g a=>b g (.inl (h.mr g a)),Qh h.pcs fun g a=>b g (.inl (h.mp g a)),Qh h.bases fun g a=>b g (.inl (h.mb g a)),h.bsEq,
  h.now.keep h.inow fun g a=>b g (.inr a),fun x e=>(h.base x e).keep (h.ibase x e) fun g a=>b g (.inr a),h.mh,h.mr,h.mp,h.mb,h.inow,h.ibase,fun k c=>Nat.lt_of_lt_of_le (h.ltM k c) d,fun k c=>Nat.lt_of_lt_of_le (h.ltI k c) d,h.dis⟩
theorem Z0.only {G:Nat->Prop} {L:ZdP} (h:Z0 M I w p pd L s) (a:Qj G w w') (c:∀ k,M k->¬ G k) (b:∀ k,I k->¬ G k):Z0 M I w' p pd L s:=
 h.keep (fun k hk=>by
  rcases hk with hk | hk
  ·exact a.block k (h.ltM k hk) (c k hk)
  ·exact a.block k (h.ltI k hk) (b k hk)) a.size
theorem Z0.below {L:ZdP} (h:Z0 M I w p pd L s) (a:Below w.heap.size w w'):Z0 M I w' p pd L s:=
 h.keep (fun k hk=>a.block k (by
  rcases hk with hk | hk
  ·exact h.ltM k hk
  ·exact h.ltI k hk)) a.size
theorem Z0.cs {L:ZdP} (h:Z0 M I w p pd L s):
 w.cell? ⟨p,0,none⟩=some (ptr pd)∧w.cell? ⟨p,1,none⟩=some (.int .i64 s.log.first)∧w.cell? ⟨p,2,none⟩=some L.rv∧w.cell? ⟨p,3,none⟩=some L.pv∧w.cell? ⟨p,4,none⟩=some L.bv∧
 (w.cell? ⟨p,5,none⟩=some (.int .i64 s.now.idx)∧w.cell? ⟨p,6,none⟩=some (.int .i64 s.now.st.kind)∧w.cell? ⟨p,7,none⟩=some L.nl∧w.cell? ⟨p,8,none⟩=some (.bool s.now.st.shut)∧w.cell? ⟨p,9,none⟩=some (.int .i64 s.now.st.eng)∧w.cell? ⟨p,10,none⟩=some L.nt)∧
 w.cell? ⟨p,11,none⟩=some (.int .i64 s.synced)∧w.cell? ⟨p,12,none⟩=some (.int .i64 s.cur)∧w.cell? ⟨p,13,none⟩=some (.bool s.nw):=
 ⟨(h.head.cell 0 rfl).1,(h.head.cell 1 rfl).1,(h.head.cell 2 rfl).1,(h.head.cell 3 rfl).1,(h.head.cell 4 rfl).1,⟨(h.head.cell 5 rfl).1,(h.head.cell 6 rfl).1,(h.head.cell 7 rfl).1,(h.head.cell 8 rfl).1,(h.head.cell 9 rfl).1,(h.head.cell 10 rfl).1⟩,(h.head.cell 11 rfl).1,(h.head.cell 12 rfl).1,(h.head.cell 13 rfl).1⟩
theorem Z0.fz {L:ZdP} (h:Z0 M I w p pd L s) (j:Nat):w.frozen? ⟨p,j,none⟩=false:=frozen_of_row w p j _ _ h.head
def SD (K:Nat->Prop) (w:World) (pd p:Nat) (s:Sto) (d:Dk) (N T:Nat):Prop:=
 ∃ F M I L,Dsk F w pd d N T∧Z0 M I w p pd L s∧(∀ k,F k->¬ K k)∧(∀ k,M k->¬ K k)∧(∀ k,I k->¬ K k)∧(∀ k,F k->¬ M k)∧(∀ k,F k->¬ I k)
def Z6 (K:Nat->Prop) (w:World) (pd p:Nat) (r:SDk × Int) (N T:Nat) (e:Ending) (w':World):Prop:=
 e=.returned (.int .i64 r.2)∧SD K w' pd p r.1.1 r.1.2 N T∧Qj (fun k=>¬ K k) w w'
theorem SD.below (h:SD K w pd p s d N T) (a:Below w.heap.size w w'):SD K w' pd p s d N T:=by
 obtain⟨F,M,I,L,b,c,e⟩:=h;exact⟨F,M,I,L,b.below a,c.below a,e⟩
theorem SD.mono (h:SD K w pd p s d N T) (f:N<=N') (b:T<=T'):SD K w pd p s d N' T':=by
 obtain⟨F,M,I,L,e,c,a⟩:=h;exact⟨F,M,I,L,e.mono f b,c,a⟩
theorem SD.less {e:Nat->Prop} (h:SD K w pd p s d N T) (c:∀ k,e k->K k):SD e w pd p s d N T:=by
 obtain⟨F,M,I,L,l,i,f,g,m,j⟩:=h;exact⟨F,M,I,L,l,i,fun k b a=>f k b (c k a),fun k b a=>g k b (c k a),fun k b a=>m k b (c k a),j⟩
theorem SD.fresh (h:SD K w pd p s d N T) (c:Below w.heap.size w w'):SD (fun k=>K k∨(w.heap.size<=k∧k<w'.heap.size)) w' pd p s d N T:=by
 obtain⟨F,M,I,L,e,b,f,g,j,i⟩:=h;refine⟨F,M,I,L,e.below c,b.below c,fun k a hh=>?_,fun k a hh=>?_,fun k a hh=>?_,i⟩
 ·rcases hh with hh | hh
  ·exact f k a hh
  ·have:=e.ltF k a
   omega
 ·rcases hh with hh | hh
  ·exact g k a hh
  ·have:=b.ltM k a
   omega
 ·rcases hh with hh | hh
  ·exact j k a hh
  ·have:=b.ltI k a
   omega
theorem SD.onlyK (h:SD K w pd p s d N T) (e:Qj K w w'):SD K w' pd p s d N T:=by
 obtain⟨F,M,I,L,i,f,a,b,c,g⟩:=h;exact⟨F,M,I,L,i.only e a,f.only e b c,a,b,c,g⟩
theorem SD.disk {d':Dk} {f:Nat} {args:Array Value} {c:Int} (h:SD K w pd p s d N T) (u:∀ k,K k->k<w.heap.size)
 (v:∀ F,Dsk F w pd d N T->(∀ k,F k->¬ K k)->Calls prog f args w fun e w'=>ZfU F w pd d' c N' T' e w'):Calls prog f args w fun e w'=>e=.returned (.int .i64 c)∧SD K w' pd p s d' N' T'∧Qj (fun k=>¬ K k) w w':=by
 obtain⟨F,M,I,L,z,l,g,x,A,m,q⟩:=h;refine(v F z g).mono ?_;rintro e w' ⟨y,F',t,n,i⟩;refine⟨y,⟨F',M,I,L,t,l.only n (fun k a j=>m k j a) (fun k a j=>q k j a),fun k a b=>?_,x,A,fun k a b=>?_,fun k a b=>?_⟩,n.mono g⟩
 ·rcases i k a with hx | hx
  ·exact g k hx b
  ·have:=u k b
   omega
 ·rcases i k a with hx | hx
  ·exact m k hx b
  ·have:=l.ltM k b
   omega
 ·rcases i k a with hx | hx
  ·exact q k hx b
  ·have:=l.ltI k b
   omega
theorem SD.own {F M' I':Nat->Prop} {s':Sto} {L':ZdP} (e:∀ k,K k->k<w.heap.size) (c:Dsk F w pd d N T) (m:∀ k,F k->¬ K k) (g:∀ k,M k->¬ K k) (q:∀ k,I k->¬ K k) (j:∀ k,F k->¬ M k) (t:∀ k,F k->¬ I k)
 (l:Qj M w w') (n:Z0 M' I' w' p pd L' s') (f:∀ k,M' k->M k∨w.heap.size<=k) (i:∀ k,I' k->I k∨w.heap.size<=k):SD K w' pd p s' d N T∧Qj (fun k=>¬ K k) w w':=by
 refine⟨⟨F,M',I',L',c.only l j,n,m,fun k b a=>?_,fun k b a=>?_,fun k b a=>?_,fun k b a=>?_⟩,l.mono g⟩
 ·rcases f k b with hx | hx
  ·exact g k hx a
  ·have:=e k a
   omega
 ·rcases i k b with hx | hx
  ·exact q k hx a
  ·have:=e k a
   omega
 ·rcases f k a with hx | hx
  ·exact j k b hx
  ·have:=c.ltF k b
   omega
 ·rcases i k a with hx | hx
  ·exact t k b hx
  ·have:=c.ltF k b
   omega
end Go.Proofs.YtnahjngbneicaaaGreatDoor
