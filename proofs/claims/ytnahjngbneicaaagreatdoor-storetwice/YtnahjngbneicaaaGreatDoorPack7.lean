import Derived.Test.YtnahjngbneicaaaGreatDoorPack6
namespace Go.Proofs.YtnahjngbneicaaaGreatDoor
open _root_.Go.Proofs.Tryz
open List (length_append length_drop map_cons map_nil map_toArray)
set_option maxHeartbeats 4000000
set_option maxRecDepth 100000
open Go.RowKit
variable {idx k kind:Int} {s:Sto} {ao f g:Option Addr} {W w w':World} {A B B' N N' Q R T T' b c cap n p pd:Nat} {v:Value} {l:List UInt8} {L:List (List UInt8)} {a:List Ent} {d:Dk} {x:ZaW × Value × Value} {I K M:Nat->Prop}
theorem Zzq (b:kind=0∨kind=1) (l:List Int):(0<=kind∧kind<6∧ZbH kind l)↔l.length=1∧-1099511627776<=l.getD 0 0∧l.getD 0 0<=1099511627776:=by
 rw[ZaU (by omega) (by omega)]
 constructor
 ·rintro⟨_,_,_,h1,h2⟩
  exact⟨h1 (by omega),h2 0 (by have:=h1 (by omega);omega)⟩
 ·rintro⟨h1,h2⟩
  refine⟨by omega,by omega,by omega,fun _=>h1,fun j a=>?_⟩
  have e:j=0:=by omega
  rw[e];exact h2
theorem Zxf (a:kind=2∨kind=3) (l:List Int):(0<=kind∧kind<6∧ZbH kind l)↔l.length<=64∧ZcN l:=by
 rw[ZaU (by omega) (by omega)]
 constructor
 ·rintro⟨_,_,h1,_,h2⟩
  exact⟨h1,h2⟩
 ·rintro⟨h1,h2⟩
  exact⟨by omega,by omega,h1,fun h=>by omega,h2⟩
theorem ZuL (l:List Int):(0<=(4:Int)∧(4:Int)<6∧ZbH 4 l)↔Zdh (-1099511627776) l:=by
 unfold ZbH;rw[if_pos rfl];exact⟨fun h=>h.2.2,fun h=>⟨by decide,by decide,h⟩⟩
theorem ZrO (l:List Int):(0<=(5:Int)∧(5:Int)<6∧ZbH 5 l)↔Zdh 0 l:=by
 unfold ZbH;rw[if_neg (by decide),if_pos rfl]
 exact⟨fun h=>h.2.2,fun h=>⟨by decide,by decide,h⟩⟩
theorem Zms (kind:Int) (v:Value) (l:List Int) (w:World) (J:RdI w v l):
 Calls prog 122 #[.int .i64 kind,v] w fun e w'=>e=.returned (.bool (decide (0<=kind∧kind<6∧ZbH kind l)))∧Below w.heap.size w w':=by
 have t:=Zac (fun p q W=>ZcJ p q W)
 have I:Hid (∀ W,Below w.heap.size w W->RdI W v l):=fun W h=>J.below h zL
 obtain⟨R,K⟩:∃ R,R=decide (0<=kind∧kind<6∧ZbH kind l):=⟨_,rfl⟩;rw[<-K];have u:=Zac K;clear K;by_cases C:kind=0∨kind=1
 ·have c:=Zac (Zzq C l)
  have f:((kind == 0)=true)∨((kind == 0)=false∧(kind == 1)=true):=by
   rcases C with rfl | rfl
   ·exact .inl rfl
   ·exact .inr ⟨rfl,rfl⟩
  have z:=Zac (fun n l2 h2 i d W E F=>ZgG n l2 h2 i d W E F)
  obtain⟨ao,cap,rfl,-,-,-,-,P⟩:=J;have T:=Zac P;clear P C I;by_cases m:l.length=1
  ·rcases T.o with h0 | ⟨g,Q,rfl,O⟩
   ·rw[h0] at m;simp at m
   have U:Hid (∀ W,Below w.heap.size w W->W.cell? ⟨g,Q,none⟩=some (.int .i64 (l.getD 0 0))):=fun W h=>(h.cell (World.block_lt_of_cell? w ⟨g,Q,none⟩ (O 0 (by omega)))).trans (O 0 (by omega))
   clear O T;have HL:=Zac m;rw[m];clear m;obtain⟨y,V⟩:∃ y,y=l.getD 0 0:=⟨_,rfl⟩;rw[<-V] at U c;clear V;rcases f with f | ⟨f,X⟩
   all_goals
    go_enter func122,ntmps122
    go_wp2_with fail
    refine(t.o _ _ _).mono ?_;rintro e A ⟨i,d,rfl,j,k,a⟩;have b:=Zac a;have ab:=U.o _ a;clear a
    go_wp2_with fail
    refine(z.o _ _ _ _ _ _ j k).mono ?_;rintro e L ⟨rfl,rfl⟩;go_wp2;go_ret;refine⟨ZbZ ?_,b.o⟩;rw[u.o,<-Bool.decide_and];exact decide_eq_decide.2 ⟨fun h=>c.o.2 ⟨HL.o,h⟩,fun h=>(c.o.1 h).2⟩
  ·have hq:((l.length:Int) == 1)=false:=beq_eq_false_iff_ne.2 (by omega)
   have M:Hid (decide (0<=kind∧kind<6∧ZbH kind l)=false):=decide_eq_false (fun h=>m (c.o.1 h).1)
   clear m;rcases f with f | ⟨f,X⟩
   all_goals
    go_enter func122,ntmps122
    go_wp2_with fail
    refine(t.o _ _ _).mono ?_;rintro e A ⟨i,d,rfl,j,k,a⟩;have b:=Zac a;clear a;go_wp2;go_ret;exact⟨ZbZ (u.o.trans M.o).symm,b.o⟩
 ·have Y:(kind == 0)=false:=beq_eq_false_iff_ne.2 (by omega)
  have e1:(kind == 1)=false:=beq_eq_false_iff_ne.2 (by omega)
  by_cases H:kind=2∨kind=3
  ·have c:=Zac (Zxf H l)
   have f:((kind == 2)=true)∨((kind == 2)=false∧(kind == 3)=true):=by
    rcases H with rfl | rfl
    ·exact .inl rfl
    ·exact .inr ⟨rfl,rfl⟩
   have z:=Zac (fun i d W E F N=>ZrN v l i d W E F N)
   clear C H J;rcases f with f | ⟨f,X⟩
   all_goals
    go_enter func122,ntmps122
    go_wp2_with fail
    refine(t.o _ _ _).mono ?_;rintro e A ⟨i,d,rfl,j,k,a⟩;have b:=Zac a;clear a
    go_wp2_with fail
    refine(z.o _ _ _ (I.o _ b.o) j k).mono ?_;rintro e L ⟨rfl,rfl⟩;go_wp2;go_ret;refine⟨ZbZ ?_,b.o⟩;rw[u.o,<-Bool.decide_and];exact decide_eq_decide.2 c.o.symm
  ·have e2:(kind == 2)=false:=beq_eq_false_iff_ne.2 (by omega)
   have Z:(kind == 3)=false:=beq_eq_false_iff_ne.2 (by omega)
   have z:=Zac (fun lo i d W E F N=>ZpS v l lo i d W E F N)
   clear C H J;by_cases x:kind=4
   ·have e4:(kind == 4)=true:=beq_iff_eq.2 x
    have c:Hid (Zdh (-1099511627776) l↔(0<=kind∧kind<6∧ZbH kind l)):=by rw[x];exact(ZuL l).symm
    clear x
    go_enter func122,ntmps122
    go_wp2_with fail
    refine(t.o _ _ _).mono ?_;rintro e A ⟨i,d,rfl,j,k,a⟩;have b:=Zac a;clear a
    go_wp2_with fail
    refine(z.o _ _ _ _ (I.o _ b.o) j k).mono ?_;rintro e L ⟨rfl,B⟩;have D:=Zac (b.o.trans (B.mono b.o.size));clear B;go_wp2;go_ret;refine⟨ZbZ ?_,D.o⟩;rw[u.o];exact decide_eq_decide.2 c.o
   ·have e4:(kind == 4)=false:=beq_eq_false_iff_ne.2 x
    by_cases G:kind=5
    ·have e5:(kind == 5)=true:=beq_iff_eq.2 G
     have c:Hid (Zdh 0 l↔(0<=kind∧kind<6∧ZbH kind l)):=by rw[G];exact(ZrO l).symm
     clear x G
     go_enter func122,ntmps122
     go_wp2_with fail
     refine(t.o _ _ _).mono ?_;rintro e A ⟨a1,b1,rfl,_,_,a⟩;have b:=Zac a;clear a
     go_wp2_with fail
     refine(t.o _ _ _).mono ?_;rintro e L ⟨i,d,rfl,j,k,B⟩;have D:=Zac (b.o.trans (B.mono b.o.size));clear B
     go_wp2_with fail
     refine(z.o _ _ _ _ (I.o _ D.o) j k).mono ?_;rintro e W3 ⟨rfl,S⟩;have aa:=Zac (D.o.trans (S.mono D.o.size));clear S;go_wp2;go_ret;refine⟨ZbZ ?_,aa.o⟩;rw[u.o];exact decide_eq_decide.2 c.o
    ·have e5:(kind == 5)=false:=beq_eq_false_iff_ne.2 G
     have M:Hid (decide (0<=kind∧kind<6∧ZbH kind l)=false):=decide_eq_false (fun h=>by
      have n0:kind≠0:=beq_eq_false_iff_ne.1 Y;have n1:kind≠1:=beq_eq_false_iff_ne.1 e1;have n2:kind≠2:=beq_eq_false_iff_ne.1 e2;have n3:kind≠3:=beq_eq_false_iff_ne.1 Z
      omega)
     clear x G
     go_enter func122,ntmps122
     go_wp2_with fail
     refine(t.o _ _ _).mono ?_;rintro e A ⟨a1,b1,rfl,_,_,a⟩;have b:=Zac a;clear a;go_wp2;go_ret;exact⟨ZbZ (u.o.trans M.o).symm,b.o⟩
theorem Zxg (kind:Int) (l:List Int) (a:Bool) (g:Int):ZcD ⟨kind,l,a,g⟩↔(a=false->g=0)∧(0<=g∧g<=2)∧(0<=kind∧kind<6∧ZbH kind l):=
 ⟨fun h=>⟨h.2.2.1,⟨h.1,h.2.1⟩,h.2.2.2.1,h.2.2.2.2.1,h.2.2.2.2.2⟩,fun h=>⟨h.2.1.1,h.2.1.2,h.1,h.2.2.1,h.2.2.2.1,h.2.2.2.2⟩⟩
theorem Zol (v:Value) (s:St) (w:World) (L:StV w v s):
 Calls prog 82 #[v] w fun e w'=>e=.returned (.bool (decide (ZcD s)))∧Below w.heap.size w w':=by
 obtain⟨G,rfl,F,-,-⟩:=L;obtain⟨kind,l,i,g⟩:=s;simp only at F ⊢;have J:=Zac (fun p q W=>ZcJ p q W)
 have H:=Zac (fun n Q X T P W V Z=>ZgG n Q X T P W V Z)
 have M:Hid (∀ W,Below w.heap.size w W->Calls prog 122 #[.int .i64 kind,G] W fun e w'=>e=.returned (.bool (decide (0<=kind∧kind<6∧ZbH kind l)))∧Below W.heap.size W w'):=fun W h=>Zms kind G l W (F.below h zL)
 have u:=Zac (Zxg kind l i g);obtain⟨R,A⟩:∃ R,R=decide (ZcD ⟨kind,l,i,g⟩):=⟨_,rfl⟩;rw[<-A];have y:=Zac A;have m:Hid (∀ x,Below w.heap.size w (w.alloc x)):=fun x=>(Below.refl _ _).alloc zL x
 clear A F;by_cases t:i=false∧g≠0
 ·obtain⟨rfl,z⟩:=t
  have hq:(g != 0)=true:=bne_iff_ne.2 z;have O:Hid (decide (ZcD ⟨kind,l,false,g⟩)=false):=decide_eq_false (fun h=>z ((u.o.1 h).1 rfl))
  clear z
  go_enter func82,ntmps82
  go_wp2;go_ret;exact⟨ZbZ (y.o.trans O.o).symm,m.o _⟩
 ·have c:((g != 0)=false)∨((g != 0)=true∧i=true):=by
   by_cases d:g=0
   ·exact .inl (bne_eq_false_iff_eq.2 d)
   ·cases i
    ·exact absurd ⟨rfl,d⟩ t
    ·exact .inr ⟨bne_iff_ne.2 d,rfl⟩
  have HB:Hid (i=false->g=0):=fun h=>by
   by_cases d:g=0
   ·exact d
   ·exact absurd ⟨h,d⟩ t
  clear t;by_cases f:0<=g∧g<=2
  ·have C:=Zac (decide_eq_true f)
   have K:=Zac f;clear f
   have B:Hid (decide (0<=kind∧kind<6∧ZbH kind l)=R):=by
    rw[y.o];exact decide_eq_decide.2 ⟨fun h=>u.o.2 ⟨HB.o,K.o,h⟩,fun h=>(u.o.1 h).2.2⟩
   rcases c with c | ⟨c,rfl⟩
   all_goals
    go_enter func82,ntmps82
    go_wp2_with fail
    refine(J.o _ _ _).mono ?_;rintro e j ⟨U,Y,rfl,D,E,b⟩;have a:=(b.block w.heap.size (by simp)).trans (heap_alloc_new w _)
    have q0:=cell_of_row j w.heap.size 0 _ _ _ a;have q1:=cell_of_row j w.heap.size 1 _ _ _ a;have q3:=cell_of_row j w.heap.size 3 _ _ _ a;have k:=Zac ((m.o _).trans (b.mono (m.o _).size));clear b a
    go_wp2_with fail
    refine(H.o _ _ _ _ _ _ D E).mono ?_;rintro e N ⟨rfl,rfl⟩;rw[C.o]
    go_wp2_with fail
    refine(M.o _ k.o).mono ?_;rintro e W3 ⟨rfl,I⟩;rw[B.o];have S:=Zac (k.o.trans (I.mono k.o.size));clear I;go_wp2;go_ret;exact⟨rfl,S.o⟩
  ·have C:=Zac (decide_eq_false f)
   have B:Hid (R=false):=y.o.trans (decide_eq_false fun h=>f (u.o.1 h).2.1)
   clear f;rcases c with c | ⟨c,rfl⟩
   all_goals
    go_enter func82,ntmps82
    go_wp2_with fail
    refine(J.o _ _ _).mono ?_;rintro e j ⟨U,Y,rfl,D,E,b⟩;have a:=(b.block w.heap.size (by simp)).trans (heap_alloc_new w _)
    have q3:=cell_of_row j w.heap.size 3 _ _ _ a;have k:=Zac ((m.o _).trans (b.mono (m.o _).size));clear b a
    go_wp2_with fail
    refine(H.o _ _ _ _ _ _ D E).mono ?_;rintro e N ⟨rfl,rfl⟩;rw[C.o];go_wp2;go_ret;exact⟨ZbZ B.o.symm,k.o⟩
theorem Zom (o:Opn) (w:World):
 Calls prog 80 #[opV o] w fun e w'=>e=.returned (.bool (decide (Zdy o)))∧Below w.heap.size w w':=by
 obtain⟨c,a,b⟩:=o;have O:=Zac (fun p q W=>ZcJ p q W)
 have z:=Zac (fun n T X K H W V p2=>ZgG n T X K H W V p2)
 have l:Hid (Zdy ⟨c,a,b⟩↔(0<=c∧c<=10)∧(-1099511627776<=a∧a<=1099511627776)∧(-1099511627776<=b∧b<=1099511627776)):=
  ⟨fun h=>⟨⟨h.1,h.2.1⟩,⟨h.2.2.1,h.2.2.2.1⟩,h.2.2.2.2⟩,fun h=>⟨h.1.1,h.1.2,h.2.1.1,h.2.1.2,h.2.2⟩⟩
 obtain⟨R,t⟩:∃ R,R=decide (Zdy ⟨c,a,b⟩):=⟨_,rfl⟩;rw[<-t];have P:=Zac t;have N:Hid (∀ x,Below w.heap.size w (w.alloc x)):=fun x=>(Below.refl _ _).alloc zL x
 clear t
 have Q:∀ j i B,Hid (decide (0<=c∧c<=10)=j)->Hid (decide (-1099511627776<=a∧a<=1099511627776)=i)->Hid (decide (-1099511627776<=b∧b<=1099511627776)=B)->Hid ((j && i && B)=R)->
  Calls prog 80 #[.agg #[.int .i64 c,.int .i64 a,.int .i64 b]] w fun e w'=>e=.returned (.bool R)∧Below w.heap.size w w':=by
  intro j i B H1 S H3 u
  go_enter func80,ntmps80
  go_wp2_with fail
  refine(O.o _ _ _).mono ?_;rintro e F ⟨U,Y,rfl,d,g,C⟩;have G:=Zac ((N.o _).trans (C.mono (N.o _).size));have y:=Zac ((C.block w.heap.size (by simp)).trans (heap_alloc_new w _))
  have m:=Zac d;have A:=Zac g;clear C d g
  go_wp2_with fail
  refine(O.o _ _ _).mono ?_;rintro e v ⟨K,H,rfl,L,M,f⟩;have k:=(f.block w.heap.size (Array.getElem?_eq_some_iff.1 y.o).1).trans y.o;have q0:=cell_of_row v w.heap.size 0 _ _ _ k;have q1:=cell_of_row v w.heap.size 1 _ _ _ k;have q2:=cell_of_row v w.heap.size 2 _ _ _ k;have d:=(f.cell (World.block_lt_of_cell? F ⟨U,0,none⟩ m.o)).trans m.o;have g:=(f.cell (World.block_lt_of_cell? F ⟨Y,0,none⟩ A.o)).trans A.o;have D:=Zac (G.o.trans (f.mono G.o.size));have aa:=Zac d;have Z:=Zac g;have E:=Zac L;have J:=Zac M;clear f k y m A d g L M
  go_wp2_with fail
  refine(z.o _ _ _ _ _ _ aa.o Z.o).mono ?_;rintro e I ⟨rfl,rfl⟩;rw[H1.o]
  cases j
  ·go_wp2
   go_ret;exact⟨ZbZ (by rw[<-u.o];rfl),D.o⟩
  ·go_wp2_with fail
   refine(z.o _ _ _ _ _ _ E.o J.o).mono ?_;rintro e I ⟨rfl,rfl⟩;rw[S.o]
   cases i
   ·go_wp2
    go_ret;exact⟨ZbZ (by rw[<-u.o];rfl),D.o⟩
   ·go_wp2_with fail
    refine(z.o _ _ _ _ _ _ E.o J.o).mono ?_;rintro e I ⟨rfl,rfl⟩;rw[H3.o];go_wp2;go_ret;exact⟨ZbZ (by rw[<-u.o];rfl),D.o⟩
 refine Q _ _ _ rfl rfl rfl (Zac ?_);rw[P.o,<-Bool.decide_and,<-Bool.decide_and];exact decide_eq_decide.2 ⟨fun h=>l.o.2 ⟨h.1.1,h.1.2,h.2⟩,fun h=>⟨⟨(l.o.1 h).1,(l.o.1 h).2.1⟩,(l.o.1 h).2.2⟩⟩
theorem Zzr (v:Value) (s:St) (w:World) (p:StV w v s) (b:s.L.length<=1000000):
 Calls prog 81 #[v] w fun e w'=>∃ vl',e=.returned (.agg #[.int .i64 s.kind,vl',.bool s.shut,.int .i64 s.eng])∧ZaB w' w.heap.size vl' s.L∧Below w.heap.size w w':=by
 obtain⟨k,rfl,d,-,-⟩:=p;obtain⟨kind,l,B,g⟩:=s;simp only at d b ⊢;have t:Hid (∀ W,Below w.heap.size w W->Calls prog 39 #[k] W fun e w'=>∃ v',e=.returned v'∧ZaB w' W.heap.size v' l∧Below W.heap.size W w'):=fun W h=>ZiH k l W (d.below h zL) b
 have f:Hid (∀ x y,Below w.heap.size w ((w.alloc x).alloc y)):=fun x y=>((Below.refl _ _).alloc zL x).alloc (by simp) y
 clear d b
 go_enter func81,ntmps81
 go_wp2_with fail
 refine(t.o _ (f.o _ _)).mono ?_;rintro e j ⟨C,rfl,m,i⟩;have a:Zrc j w.heap.size _ _:=(Zrc.made w _ _).below i (by simp)
 have J:=(a.s 0).1;have E:=(a.s 1).1;have F:=(a.s 2).1;have K:=(a.s 3).1;have N:=(a.s 1).2;have u:=(a.r 0).1;have A:=(a.r 1).1;have n:=(a.r 2).1;have D:=(a.r 3).1;have I:=(a.r 0).2;have M:=(a.r 1).2;have G:=(a.r 2).2;have H:=(a.r 3).2;have q:=Zac ((f.o _ _).trans (i.mono (f.o _ _).size))
 have c:ZaB j (w.heap.size+1+1) C l:=by
  have e:∀ x y,((w.alloc x).alloc y).heap.size=w.heap.size+1+1:=fun x y=>by simp
  rwa [e] at m
 have z:=Zac c;obtain⟨ao,cap,rfl⟩:=c.shape;clear i a m c;go_wp2;refine bodyPost_ret (v:=.agg #[.int .i64 kind,.slice ao l.length cap,.bool B,.int .i64 g]) (by simp[results,Tryz.results81,go_sem,u,A,n,D]) rfl ?_
 exact⟨_,rfl,(z.o.five w.heap.size (w.heap.size+1) (by omega) (by omega) _ _ _ _ _).mono (by omega),Zwn q.o w.heap.size (w.heap.size+1) zL (by omega) _ _ _ _ _⟩
open Go.RowKit Go.ChangeShapes
theorem Zon:prog.cellsOf 52=3:=by kernel_rfl
section
variable {H:Type} {enc:TypeId × Value->H} {w:World} {base fuel:Nat} {held:Bool}
theorem ZhO {cs:List Value} {x:DataW H × List MemPlace} (h:DataW.trod enc prog w base (fun _=>true) held fuel 52 cs=some x):
 ∃ (o:Opn),cs=[.int .i64 o.code,.int .i64 o.a,.int .i64 o.b]∧ZAx o:=by
 obtain⟨xs,n,_,_,j,p,c⟩:=DataW.trod_struct underlying52 h;rw[Zon] at j
 match xs,p,cs,j with
 | [y0,y1,y2],_,[c0,c1,c2],_=>
  have d:=c 0 _ rfl;have e:=c 1 _ rfl;have g:=c 2 _ rfl;simp[ZkK] at d e g;obtain⟨k,f,_,q⟩:=DataW.trod_int underlying3 d;obtain⟨a,l,_,m⟩:=DataW.trod_int underlying3 e;obtain⟨b,i,_,t⟩:=DataW.trod_int underlying3 g;simp only [List.cons.injEq,and_true] at f l i;subst f l i;exact⟨⟨k,a,b⟩,rfl,ZbF q,ZbF m,ZbF t⟩
end
theorem Zxh {s:St} (h:ZcD s):∀ x ∈ s.L,I64 x:=by
 have g:=h.2.2.2.1;have f:=h.2.2.2.2.1;have a:=h.2.2.2.2.2;by_cases b:s.kind=4
 ·rw[b,Zeu] at a
  exact Zdw (by decide) (by decide) a.2
 ·by_cases c:s.kind=5
  ·rw[c,ZdI] at a
   exact Zdw (by decide) (by decide) a.2
  ·have e:=(Zcb _).1 ((ZaU b c).1 a).2.2
   intro x d;have:=e x d;exact Zai (by omega) (by omega)
theorem ZrP {s:St} (h:ZcD s):s.L.length<=128:=by
 have e:=h.2.2.2.1;have d:=h.2.2.2.2.1;have a:=h.2.2.2.2.2;by_cases b:s.kind=4
 ·rw[b,Zeu] at a
  exact a.1
 ·by_cases c:s.kind=5
  ·rw[c,ZdI] at a
   exact a.1
  ·have:=((ZaU b c).1 a).1
   omega
theorem ZuM {s:St} (h:ZcD s) (c:s.shut=false) (o:Opn) (b:o.code=10):Zcx s o=(⟨s.kind,s.L,true,if 0<=o.a∧o.a<=2 then o.a else s.eng⟩,0):=by
 unfold Zcx;rw[if_neg (fun e=>e h),if_neg (by simp[c]),if_pos b]
theorem Znc {s:St} (h:ZcD s) (b:s.shut=false) (o:Opn) (a:o.code≠10):Zcx s o=if s.kind<=1 then Zhn s o else if s.kind<=3 then Zcr s o else if s.kind=4 then Zcd s o else ZaZ s o:=by
 unfold Zcx;rw[if_neg (fun e=>e h),if_neg (by simp[b]),if_neg a]
theorem ZrQ (s:St) (o:Opn):(Zcd s o).1.kind=s.kind∧(Zcd s o).1.shut=s.shut∧(Zcd s o).1.eng=s.eng:=by
 rw[Zjh];exact Ziq s o
theorem ZrR {r:St × Int} {g:Int} {s:Bool} (h:r.1.kind=k∧r.1.shut=s∧r.1.eng=g):r=(⟨k,r.1.L,s,g⟩,r.2):=by
 obtain⟨⟨e,i,j,d⟩,f⟩:=r;obtain⟨c,b,a⟩:=h;simp only at c b a;rw[c,b,a]
theorem ZAM (s:St) (v:Value) (o:Opn) (B:Nat) (w:World) (j:ZaB w B v s.L) (m:B<=w.heap.size) (d:ZcD s):
 Calls prog 83 #[.agg #[.int .i64 s.kind,v,.bool s.shut,.int .i64 s.eng],opV o] w fun e w'=>Did B w v (Zcx s o) e w':=by
 obtain⟨kind,l,y,g⟩:=s
 cases y with
 | true=>
  rw[Zud d rfl];exact ZrK kind g l v o B w j
 | false=>
  have A:0<=kind:=d.2.2.2.1;have z:kind<6:=d.2.2.2.2.1;have t:=d.2.2.2.2.2;obtain⟨c,a,b⟩:=o;by_cases h:c=10
  ·rw[ZuM d rfl _ h]
   subst h;exact ZrL kind g a b l v B w j
  ·rw[Znc d rfl _ h]
   by_cases p:kind<=1
   ·rw[if_pos p]
    obtain⟨i,f,u⟩:=ZCh d p;exact ZuK kind g (by omega) l v ⟨c,a,b⟩ h B w j i f u
   ·rw[if_neg p]
    by_cases n:kind<=3
    ·rw[if_pos n,ZrR (Zkm ⟨kind,l,false,g⟩ ⟨c,a,b⟩)]
     exact ZrM kind g (by omega) l _ _ v c a b h B w j (fun W i f=>Zzn kind (by omega) v l ⟨c,a,b⟩ false g B W i f (Zxh d) (ZCi d n)) m
    ·rw[if_neg n]
     by_cases q:kind=4
     ·rw[if_pos q,ZrR (ZrQ ⟨kind,l,false,g⟩ ⟨c,a,b⟩)]
      subst q;have k:=(Zeu l).1 t;exact ZpQ 4 g rfl l _ _ v c a b h B w j (fun W i f=>ZuJ v l ⟨c,a,b⟩ false g B W i f k.2 k.1) m
     ·rw[if_neg q,ZrR (ZgQ ⟨kind,l,false,g⟩ ⟨c,a,b⟩)]
      have x:kind=5:=by omega
      subst x;have k:=(ZdI l).1 t;exact Zok 5 g rfl l _ _ v c a b h B w j (fun W i f=>ZrJ v l ⟨c,a,b⟩ false g B W i f k.2 k.1) m
theorem Zzs (v:Value) (s:St) (o:Opn) (w:World) (hs:StV w v s) (S:s.L.length<=1000000):
 Calls prog 42 #[v,opV o] w fun e w'=>Zir w (lval v) s.L (Zcx s o) e w':=by
 obtain⟨vl,rfl,I,D,F⟩:=hs;rw[ZsX];obtain⟨kind,l,f,g⟩:=s;simp only at I D F S ⊢;have M:=Zac I.i64;have ab:Hid (∀ W,Below w.heap.size w W->Calls prog 81 #[.agg #[.int .i64 kind,vl,.bool f,.int .i64 g]] W fun e w'=>∃ vl',e=.returned (.agg #[.int .i64 kind,vl',.bool f,.int .i64 g])∧ZaB w' W.heap.size vl' l∧Below W.heap.size W w'):=fun W h=>Zzr _ ⟨kind,l,f,g⟩ W ⟨vl,rfl,I.below h zL,D,F⟩ S
 have af:Hid (∀ i W,RdI W i l->Calls prog 82 #[.agg #[.int .i64 kind,i,.bool f,.int .i64 g]] W fun e w'=>e=.returned (.bool (decide (ZcD ⟨kind,l,f,g⟩)))∧Below W.heap.size W w'):=fun i W h=>Zol _ ⟨kind,l,f,g⟩ W ⟨i,rfl,h,D,F⟩
 have C:Hid (∀ x y z,Below w.heap.size w (((w.alloc x).alloc y).alloc z)):=fun x y z=>(ZbA w x y z).1
 have J:Hid (∀ x y z,(((w.alloc x).alloc y).alloc z).heap.size=w.heap.size+1+1+1):=fun x y z=>ZCg w x y z
 have aj:=Zac D;have an:=Zac F;obtain⟨n,a,b⟩:=o;clear I D F S;show Calls prog _ #[_,.agg #[.int .i64 n,.int .i64 a,.int .i64 b]] w _;by_cases t:ZcD ⟨kind,l,f,g⟩
 ·have N:=Zac (decide_eq_true t)
  have ae:Hid (∀ i B W,ZaB W B i l->B<=W.heap.size->Calls prog 83 #[.agg #[.int .i64 kind,i,.bool f,.int .i64 g],.agg #[.int .i64 n,.int .i64 a,.int .i64 b]] W fun e w'=>Did B W i (Zcx ⟨kind,l,f,g⟩ ⟨n,a,b⟩) e w'):=fun i B W h1 h2=>ZAM ⟨kind,l,f,g⟩ i ⟨n,a,b⟩ B W h1 h2 t
  have A:=ZkC t ⟨n,a,b⟩;have ac:=Zac (Zxh A);have aa:Hid (I64 (Zcx ⟨kind,l,f,g⟩ ⟨n,a,b⟩).1.kind):=Zai (by have:=A.2.2.2.1;omega) (by have:=A.2.2.2.2.1;omega)
  have ah:Hid (I64 (Zcx ⟨kind,l,f,g⟩ ⟨n,a,b⟩).1.eng):=Zai (by have:=A.1;omega) (by have:=A.2.1;omega)
  obtain⟨⟨⟨k',L',s',g'⟩,n'⟩,Y⟩:∃ r,r=Zcx ⟨kind,l,f,g⟩ ⟨n,a,b⟩:=⟨_,rfl⟩;rw[<-Y] at ae ac aa ah ⊢;clear t A Y
  go_enter func42,ntmps42
  go_wp2_with fail
  refine(ab.o _ (C.o _ _ _)).mono ?_;rintro e d ⟨i,rfl,q,p⟩;rw[J.o] at q;have G:=Zac ((Zec.made w _ _ _).below p (by simp))
  have u:=Zac ((C.o _ _ _).trans (p.mono (C.o _ _ _).size));have H:=Zac q;have V:=p.size;rw[J.o] at V;obtain⟨ao,cap,rfl⟩:=q.shape;clear p q
  go_wp2_with fail
  refine(af.o _ _ ((H.o.alloc _).rd M.o)).mono ?_;rintro e m ⟨rfl,j⟩;rw[N.o];have X:=Zac ((u.o.alloc u.o.size _).trans (j.mono (by have:=u.o.size;simp;omega)))
  have E:=Zac ((H.o.alloc _).below j zL);have ap:=j.size;have c:=(G.o.below ((Below.refl d.heap.size d).alloc zL _) (by omega)).below j (by simp;omega)
  have k:=(j.block d.heap.size (by simp)).trans (heap_alloc_new d _)
  have ai:=Zac c;obtain⟨p0,-⟩:=c.o 0;obtain⟨p1,-⟩:=c.o 1;obtain⟨p2,-⟩:=c.o 2;have q0:=cell_of_row m d.heap.size 0 _ _ _ k;have q1:=cell_of_row m d.heap.size 1 _ _ _ k;have q2:=cell_of_row m d.heap.size 2 _ _ _ k;have q3:=cell_of_row m d.heap.size 3 _ _ _ k;have Z:w.heap.size+1+1+1<=m.heap.size:=by simp at ap;omega
  clear j c k G
  go_wp2_with fail
  refine(ae.o _ _ _ E.o Z).mono ?_;rintro e W3 ⟨v3,rfl,Q,ag⟩;have O:=ag.below E.o Z;have c:=ai.o.below O zL;obtain⟨T,t0⟩:=c.r 0;obtain⟨U,t1⟩:=c.r 1;obtain⟨K,t2⟩:=c.r 2;obtain⟨R,t3⟩:=c.r 3;have al:=Zac (X.o.trans (O.mono (by omega)))
  have ad:=Zac Q;obtain⟨am,ak,rfl⟩:=Q.shape;clear O ag c Q;go_wp2;refine bodyPost_ret (v:=.tuple #[.agg #[.int .i64 k',.slice am L'.length ak,.bool s',.int .i64 g'],.int .i64 n']) (by simp[results,Tryz.results42,go_sem,T,U,K,R]) rfl ?_
  refine Zir.fresh ((ad.o.four (w.heap.size+1+1) (by omega) _ _ _ _).rd ac.o) aa.o ah.o n' (fun b P=>?_) (ZcP al.o (w.heap.size+1+1) (by omega) _ _ _ _)
  have:=ad.o.fresh b P;omega
 ·have N:=Zac (decide_eq_false t)
  have HR:=Zac (ZkB t ⟨n,a,b⟩);rw[HR.o];clear t
  go_enter func42,ntmps42
  go_wp2_with fail
  refine(ab.o _ (C.o _ _ _)).mono ?_;rintro e d ⟨i,rfl,q,p⟩;rw[J.o] at q;have G:=Zac ((Zec.made w _ _ _).below p (by simp))
  have u:=Zac ((C.o _ _ _).trans (p.mono (C.o _ _ _).size));have H:=Zac q;have V:=p.size;rw[J.o] at V;obtain⟨ao,cap,rfl⟩:=q.shape;clear p q
  go_wp2_with fail
  refine(af.o _ _ ((H.o.alloc _).rd M.o)).mono ?_;rintro e m ⟨rfl,j⟩;rw[N.o];have X:=Zac ((u.o.alloc u.o.size _).trans (j.mono (by have:=u.o.size;simp;omega)))
  have E:=Zac ((H.o.alloc _).below j zL);have c:=(G.o.below ((Below.refl d.heap.size d).alloc zL _) (by omega)).below j (by simp;omega)
  have k:=(j.block d.heap.size (by simp)).trans (heap_alloc_new d _)
  obtain⟨T,t0⟩:=c.r 0;obtain⟨U,t1⟩:=c.r 1;obtain⟨K,t2⟩:=c.r 2;obtain⟨R,t3⟩:=c.r 3;have q0:=cell_of_row m d.heap.size 0 _ _ _ k;have q1:=cell_of_row m d.heap.size 1 _ _ _ k;have q2:=cell_of_row m d.heap.size 2 _ _ _ k;have q3:=cell_of_row m d.heap.size 3 _ _ _ k;clear j c k G;go_wp2;refine bodyPost_ret (v:=.tuple #[.agg #[.int .i64 kind,.slice ao l.length cap,.bool f,.int .i64 g],.int .i64 0]) (by simp[results,Tryz.results42,go_sem,T,U,K,R]) rfl ?_
  refine Zir.fresh ((E.o.four (w.heap.size+1+1) (by omega) _ _ _ _).rd M.o) aj.o an.o 0 (fun b P=>?_) (ZcP X.o (w.heap.size+1+1) (by omega) _ _ _ _)
  have:=E.o.fresh b P;omega
theorem ZuN (s:St) (o:Opn):I64 (Zcx s o).2:=by
 by_cases h:s.kind≠4∨s.shut=true∨o.code=10∨o.code=5∨o.code=6∨o.code=7∨(0<=o.a∧o.a<=255)
 ·rw[ZyT s o h]
  exact Zwp s o
 ·by_cases d:ZcD s
  ·have b:s.kind=4:=by
    by_cases b:s.kind=4
    ·exact b
    ·exact absurd (.inl b) h
   have c:s.shut=false:=by
    cases c:s.shut
    ·rfl
    ·exact absurd (.inr (.inl c)) h
   have f:o.code≠10:=fun e=>h (.inr (.inr (.inl e)))
   have g:¬ (0<=o.a∧o.a<=255):=fun e=>h (.inr (.inr (.inr (.inr (.inr (.inr e))))))
   rw[Znc d c o f,if_neg (by omega),if_neg (by omega),if_pos b]
   unfold Zcd;rw[if_pos (by omega)]
   exact(Zai (by decide) (by decide):I64 (-1))
  ·rw[ZkB d]
   exact(Zai (by decide) (by decide):I64 0)
theorem ZAN (n a b:Int) (B:Bool) (g:B=decide (a<=n∧n<=b)) (w:World):
 Calls prog 79 #[.int .i64 n,.int .i64 a,.int .i64 b] w fun e w'=>e=.returned (.bool B)∧w'=w:=by
 have c:=ZZ g;clear g;by_cases i:a<=n
 ·by_cases f:n<=b
  ·have d:Hid (true=B):=ZZ (by rw[c.o,decide_eq_true ⟨i,f⟩])
   clear c
   go_enter func79,ntmps79
   go_wp2;go_ret;exact⟨ZbZ d.o,rfl⟩
  ·have d:Hid (false=B):=ZZ (by rw[c.o,decide_eq_false fun h=>f h.2])
   clear c
   go_enter func79,ntmps79
   go_wp2;go_ret;exact⟨ZbZ d.o,rfl⟩
 ·have d:Hid (false=B):=ZZ (by rw[c.o,decide_eq_false fun h=>i h.1])
  clear c
  go_enter func79,ntmps79
  go_wp2;go_ret;exact⟨ZbZ d.o,rfl⟩
theorem ZrS (r:Rec):ZaA r↔(0<=r.idx∧r.idx<=4611686018427387903)∧(0<=r.proc∧r.proc<=64)∧(0<=r.seq∧r.seq<=4611686018427387903)∧Zdy r.op∧(-1125899906842624<=r.resp∧r.resp<=1125899906842624):=by
 unfold ZaA;constructor
 ·rintro⟨h1,h2,h3,h4,h5,h6,h7,h8,h9⟩
  exact⟨⟨h2,by omega⟩,⟨h6,h7⟩,⟨h4,by omega⟩,h1,h8,h9⟩
 ·rintro⟨⟨h2,h3⟩,⟨h6,h7⟩,⟨h4,h5⟩,h1,h8,h9⟩
  exact⟨h1,h2,by omega,h4,by omega,h6,h7,h8,h9⟩
theorem ZkY (r:Rec) (w:World):
 Calls prog 41 #[ZuH r] w fun e w'=>e=.returned (.bool (decide (ZaA r)))∧Below w.heap.size w w':=by
 obtain⟨B,x⟩:∃ B,B=decide (ZaA r):=⟨_,rfl⟩;rw[<-x];have f:=ZZ (ZrS r);have F:=ZZ (fun W=>Zom r.op W)
 have g:=ZZ x;clear x;obtain⟨idx,proc,seq,⟨D,a,b⟩,resp⟩:=r;show Calls prog _ #[.agg #[.int .i64 idx,.int .i64 proc,.int .i64 seq,.int .i64 D,.int .i64 a,.int .i64 b,.int .i64 resp]] w _;have m:Hid (∀ X,Below w.heap.size w (w.alloc X)):=fun X=>(Below.refl _ _).alloc zL X
 have H:Hid (∀ cs,Br (w.alloc (.cells cs 62)) w.heap.size cs):=fun cs=>heap_alloc_new w _
 have p:Hid (∀ W,Calls prog 80 #[.agg #[.int .i64 D,.int .i64 a,.int .i64 b]] W fun e w'=>e=.returned (.bool (decide (Zdy ⟨D,a,b⟩)))∧Below W.heap.size W w'):=F.o
 clear F;have c:=ZZ (fun n a b B x W=>ZAN n a b B x W)
 by_cases k:0<=idx∧idx<=4611686018427387903
 case neg=>
  have i:Hid (false=B):=ZZ (by rw[g.o,decide_eq_false fun h=>k (f.o.1 h).1])
  have I:=ZZ (decide_eq_false k).symm;clear g f k p
  go_enter func41,ntmps41
  go_wp2_with fail
  refine(c.o _ _ _ _ I.o _).mono ?_;rintro e d ⟨rfl,rfl⟩;go_wp2;go_ret;exact⟨ZbZ i.o,m.o _⟩
 have y:=ZZ (decide_eq_true k).symm;by_cases l:0<=proc∧proc<=64
 case neg=>
  have i:Hid (false=B):=ZZ (by rw[g.o,decide_eq_false fun h=>l (f.o.1 h).2.1])
  have v:=ZZ (decide_eq_false l).symm;clear g f k l p
  go_enter func41,ntmps41
  go_wp2_with fail
  refine(c.o _ _ _ _ y.o _).mono ?_;rintro e d ⟨rfl,rfl⟩
  go_wp2_with fail
  refine(c.o _ _ _ _ v.o _).mono ?_;rintro e d ⟨rfl,rfl⟩;go_wp2;go_ret;exact⟨ZbZ i.o,m.o _⟩
 have v:=ZZ (decide_eq_true l).symm;by_cases q:0<=seq∧seq<=4611686018427387903
 case neg=>
  have i:Hid (false=B):=ZZ (by rw[g.o,decide_eq_false fun h=>q (f.o.1 h).2.2.1])
  have A:=ZZ (decide_eq_false q).symm;clear g f k l q p
  go_enter func41,ntmps41
  go_wp2_with fail
  refine(c.o _ _ _ _ y.o _).mono ?_;rintro e d ⟨rfl,rfl⟩
  go_wp2_with fail
  refine(c.o _ _ _ _ v.o _).mono ?_;rintro e d ⟨rfl,rfl⟩
  go_wp2_with fail
  refine(c.o _ _ _ _ A.o _).mono ?_;rintro e d ⟨rfl,rfl⟩;go_wp2;go_ret;exact⟨ZbZ i.o,m.o _⟩
 have A:=ZZ (decide_eq_true q).symm;by_cases t:Zdy ⟨D,a,b⟩
 case neg=>
  have i:Hid (false=B):=ZZ (by rw[g.o,decide_eq_false fun h=>t (f.o.1 h).2.2.2.1])
  rw[decide_eq_false t] at p;clear g f k l q t
  go_enter func41,ntmps41
  go_wp2_with fail
  refine(c.o _ _ _ _ y.o _).mono ?_;rintro e d ⟨rfl,rfl⟩
  go_wp2_with fail
  refine(c.o _ _ _ _ v.o _).mono ?_;rintro e d ⟨rfl,rfl⟩
  go_wp2_with fail
  refine(c.o _ _ _ _ A.o _).mono ?_;rintro e d ⟨rfl,rfl⟩
  go_wp2_with fail
  refine(p.o _).mono ?_;rintro e G ⟨rfl,j⟩;have C:=ZZ ((m.o _).trans (j.mono (m.o _).size));clear j;go_wp2;go_ret;exact⟨ZbZ i.o,C.o⟩
 rw[decide_eq_true t] at p;by_cases u:-1125899906842624<=resp∧resp<=1125899906842624
 case neg=>
  have i:Hid (false=B):=ZZ (by rw[g.o,decide_eq_false fun h=>u (f.o.1 h).2.2.2.2])
  have E:=ZZ (decide_eq_false u).symm;clear g f k l q t u
  go_enter func41,ntmps41
  go_wp2_with fail
  refine(c.o _ _ _ _ y.o _).mono ?_;rintro e d ⟨rfl,rfl⟩
  go_wp2_with fail
  refine(c.o _ _ _ _ v.o _).mono ?_;rintro e d ⟨rfl,rfl⟩
  go_wp2_with fail
  refine(c.o _ _ _ _ A.o _).mono ?_;rintro e d ⟨rfl,rfl⟩
  go_wp2_with fail
  refine(p.o _).mono ?_;rintro e G ⟨rfl,j⟩;have z:=(H.out _).below j zL;have C:=ZZ ((m.o _).trans (j.mono (m.o _).size));obtain⟨J,-⟩:=z.cell 6;clear j z
  go_wp2_with fail
  refine(c.o _ _ _ _ E.o _).mono ?_;rintro e K ⟨rfl,rfl⟩;go_wp2;go_ret;exact⟨ZbZ i.o,C.o⟩
 have i:Hid (true=B):=ZZ (by rw[g.o,decide_eq_true (f.o.2 ⟨k,l,q,t,u⟩)])
 have E:=ZZ (decide_eq_true u).symm;clear g f k l q t u
 go_enter func41,ntmps41
 go_wp2_with fail
 refine(c.o _ _ _ _ y.o _).mono ?_;rintro e d ⟨rfl,rfl⟩
 go_wp2_with fail
 refine(c.o _ _ _ _ v.o _).mono ?_;rintro e d ⟨rfl,rfl⟩
 go_wp2_with fail
 refine(c.o _ _ _ _ A.o _).mono ?_;rintro e d ⟨rfl,rfl⟩
 go_wp2_with fail
 refine(p.o _).mono ?_;rintro e G ⟨rfl,j⟩;have z:=(H.out _).below j zL;have C:=ZZ ((m.o _).trans (j.mono (m.o _).size));obtain⟨J,-⟩:=z.cell 6;clear j z
 go_wp2_with fail
 refine(c.o _ _ _ _ E.o _).mono ?_;rintro e K ⟨rfl,rfl⟩;go_wp2;go_ret;exact⟨ZbZ i.o,C.o⟩
def ZkZ (w:World) (vl0 vt0:Value) (l:List Rec) (r:ZaW × Int) (e:Ending) (w':World):Prop:=
 ∃ vl vt,e=.returned (.tuple #[.agg #[.int .i64 r.1.idx,.int .i64 r.1.st.kind,vl,.bool r.1.st.shut,.int .i64 r.1.st.eng,vt],.int .i64 r.2])∧RdI w' vl r.1.st.L∧I64 r.1.st.kind∧I64 r.1.st.eng∧RdE w' vt r.1.tab∧I64 r.1.idx∧
  (vl=vl0∨∀ b,vl.ownBlock=some b->w.heap.size<=b)∧((l=[]∧vt=vt0)∨Zbt w' w.heap.size vt r.1.tab)∧Below w.heap.size w w'
def ZpT (w:World) (S:ZaW) (wr:World):Prop:=
 ∃ la lc ta tc,Bn wr w.heap.size #[.int .i64 S.idx,.int .i64 S.st.kind,.slice la S.st.L.length lc,.bool S.st.shut,.int .i64 S.st.eng,.slice ta S.tab.length tc]∧
  Bn wr (w.heap.size+1) #[.int .i64 0,.int .i64 0,.slice none 0 0,.bool false,.int .i64 0,.slice none 0 0]∧
  RdI wr (.slice la S.st.L.length lc) S.st.L∧(∀ b,(Value.slice la S.st.L.length lc).ownBlock=some b->w.heap.size+2<=b)∧
  Zbt wr (w.heap.size+2) (.slice ta S.tab.length tc) S.tab∧(∀ e ∈ S.tab,Zod e)∧I64 S.idx∧I64 S.st.kind∧I64 S.st.eng∧Below w.heap.size w wr
theorem ZaB.freshI {l:List Int} (h:ZaB w B v l):∀ b,v.ownBlock=some b->B<=b:=fun b a=>(World.ownsRow.lt h b a).1
theorem Zbt.butN {l:List Ent} (h:Zbt w B v l) (e:But R T w w') (m:∀ b,v.ownBlock=some b->b≠R∧b≠T):Zbt w' B v l:=by
 rcases h.row with ⟨rfl,rfl⟩ | ⟨g,cap,cur,rfl,i,c,a,j,f,d,k⟩
 ·exact Zbt.nil _ _
 ·have:=m g rfl
  exact Zbt.ofRow rfl i ((e.block g c this.1 this.2).trans a) j f d k
theorem Zbt.but {l:List Ent} (h:Zbt w B v l) (a:But R T w w') (d:R<B) (c:T<B):Zbt w' B v l:=
 h.butN a (fun b a=>by have:=h.fresh b a;omega)
theorem Zla {m:Bool} {t y:Value} {L:List Int} {d:Nat}
 (l:Bn W w.heap.size #[.int .i64 idx,.int .i64 kind,t,.bool m,.int .i64 k,y]) (x:Bn W (w.heap.size+1) #[.int .i64 0,.int .i64 0,.slice none 0 0,.bool false,.int .i64 0,.slice none 0 0])
 (j:ZaB W (w.heap.size+2) (.slice f L.length c) L) (B:∀ n ∈ L,I64 n) (v:Zbt W (w.heap.size+2) (.slice g a.length d) a) (A:∀ e ∈ a,Zod e) (z:I64 idx) (u:I64 kind) (q:I64 k) (p:Below w.heap.size w W):
 ZpT w ⟨idx,⟨kind,L,m,k⟩,a⟩ ((W.setCell ⟨w.heap.size,2,none⟩ (.slice f L.length c)).setCell ⟨w.heap.size,5,none⟩ (.slice g a.length d)):=by
 have i:But w.heap.size w.heap.size W ((W.setCell ⟨w.heap.size,2,none⟩ (.slice f L.length c)).setCell ⟨w.heap.size,5,none⟩ (.slice g a.length d)):=((But.refl _ _ _).set _ _ (.inl rfl) _).set _ _ (.inl rfl) _;refine⟨f,c,g,d,(l.set 2 _).set 5 _,(x.other 2 _ (by omega)).other 5 _ (by omega),(j.rd B).but i (.inr fun b h=>?_),j.freshI,v.but i (by omega) (by omega),A,z,u,q,ZcQ p i (by have:=l.lt;omega) zL zL⟩
 have:=j.freshI b h;omega
theorem Zxi {s:St} (o:Opn) (h:s.L.length<=1000):(Zcx s o).1.L.length<=1000:=by
 by_cases a:ZcD s
 ·have:=(Zkr (ZkC a o)).2.1
  omega
 ·rw[ZkB a]
  exact h
theorem ZuO {s:ZaW} {l:List Rec} {q:Nat} (a:q<l.length):ZaQ s (l.drop q)=if(l.getD q Zaj).idx≠s.idx then(Zbl,15) else if ¬ ZaA (l.getD q Zaj) then(Zbl,1) else ZaQ (Zmm s (l.getD q Zaj)) (l.drop (q+1)):=by
 have e:l.drop q=l.getD q Zaj::l.drop (q+1):=by
  rw[List.drop_eq_getElem_cons a];simp[List.getD,a]
 rw[e,ZaQ]
def ZiN (W:World) (R Q:Nat) (k:Int) (v:Value) (sh:Bool) (g n:Int):World:=
 ((((W.setCell ⟨R,1,none⟩ (.int .i64 k)).setCell ⟨R,2,none⟩ v).setCell ⟨R,3,none⟩ (.bool sh)).setCell ⟨R,4,none⟩ (.int .i64 g)).setCell ⟨Q,6,none⟩ (.int .i64 n)
theorem Br.other {cs:Array Value} (h:Br w b cs) (j:Nat) (x:Value) (a:b≠c):Br (w.setCell ⟨c,j,none⟩ x) b cs:=(Below.heap_setCell _ _ _ _ a).trans h
theorem ZrT (W:World) (R Q:Nat) (k:Int) (v:Value) (a:Bool) (g n:Int):But R Q W (ZiN W R Q k v a g n):=
 (((((But.refl R Q W).set _ _ (.inl rfl) _).set _ _ (.inl rfl) _).set _ _ (.inl rfl) _).set _ _ (.inl rfl) _).set _ _ (.inr rfl) _
theorem ZuP (j:R≠Q) {b i f d e a:Value} (h:Bn W R #[b,i,f,d,e,a]) (k:Int) (v:Value) (c:Bool) (g n:Int):Bn (ZiN W R Q k v c g n) R #[b,.int .i64 k,v,.bool c,.int .i64 g,a]:=
 ((((h.set 1 _).set 2 _).set 3 _).set 4 _).other 6 _ j
theorem ZuQ (a:Q≠R) {d i f b e c j:Value} (h:Br W Q #[d,i,f,b,e,c,j]) (k:Int) (v:Value) (l:Bool) (g n:Int):Br (ZiN W R Q k v l g n) Q #[d,i,f,b,e,c,.int .i64 n]:=
 ((((h.other 1 _ a).other 2 _ a).other 3 _ a).other 4 _ a).set 6 _
theorem ZrU {C:Nat} (a:C≠R) (b:C≠Q) {cs:Array Value} (h:Bn W C cs) (k:Int) (v:Value) (c:Bool) (g n:Int):Bn (ZiN W R Q k v c g n) C cs:=
 ((((h.other 1 _ a).other 2 _ a).other 3 _ a).other 4 _ a).other 6 _ b
theorem ZrV {j:Int} {l:Bool} {L:List Int} {d:Nat}
 (k:Bn W w.heap.size #[.int .i64 idx,.int .i64 kind,.slice f L.length c,.bool l,.int .i64 j,v]) (u:Bn W (w.heap.size+1) #[.int .i64 0,.int .i64 0,.slice none 0 0,.bool false,.int .i64 0,.slice none 0 0])
 (z:RdI W (.slice f L.length c) L) (m:∀ b,(Value.slice f L.length c).ownBlock=some b->w.heap.size+2<=b) (t:Zbt W (w.heap.size+2) (.slice g a.length d) a) (y:∀ e ∈ a,Zod e) (x:I64 (idx+1)) (q:I64 kind) (p:I64 j) (n:Below w.heap.size w W):
 ZpT w ⟨idx+1,⟨kind,L,l,j⟩,a⟩ ((W.setCell ⟨w.heap.size,5,none⟩ (.slice g a.length d)).setCell ⟨w.heap.size,0,none⟩ (.int .i64 (idx+1))):=by
 have i:But w.heap.size w.heap.size W ((W.setCell ⟨w.heap.size,5,none⟩ (.slice g a.length d)).setCell ⟨w.heap.size,0,none⟩ (.int .i64 (idx+1))):=((But.refl _ _ _).set _ _ (.inl rfl) _).set _ _ (.inl rfl) _;refine⟨f,c,g,d,(k.set 5 _).set 0 _,(u.other 5 _ (by omega)).other 0 _ (by omega),z.but i (.inr fun b h=>?_),m,t.but i (by omega) (by omega),y,x,q,p,ZcQ n i (by have:=k.lt;omega) zL zL⟩
 have:=m b h;omega
theorem ZkZ.zero (c d:Value) (l:List Rec) (n:Int) (a:Below w.heap.size w w'):ZkZ w c d l (Zbl,n) (.returned (.tuple #[.agg #[.int .i64 0,.int .i64 0,.slice none 0 0,.bool false,.int .i64 0,.slice none 0 0],.int .i64 n])) w':=
 ⟨_,_,rfl,RdI.nil _,(Zai (by decide) (by decide):I64 0),(Zai (by decide) (by decide):I64 0),RdE.nil _,(Zai (by decide) (by decide):I64 0),.inr (fun b a=>by simp[Value.ownBlock] at a),.inr (Zbt.nil _ _),a⟩
theorem ZpU {P:ZaW->Prop} (a4:∀ S r,P S->ZaA r->P (Zmm S r)) (be:∀ S,P S->S.tab.length<=1500) (idx kind:Int) (vl:Value) (M:Bool) (H:Int) (vt:Value) (s:ZaW) (vr:Value) (l:List Rec) (w:World) (hs:SnV w (.agg #[.int .i64 idx,.int .i64 kind,vl,.bool M,.int .i64 H,vt]) s) (hr:RdR w vr l) (bb:s.st.L.length<=1000) (bH:s.tab.length<=1000) (bX:l.length<=1000000000) (bi:P s):
 Calls prog 15 #[.agg #[.int .i64 idx,.int .i64 kind,vl,.bool M,.int .i64 H,vt],vr] w fun e w'=>ZkZ w vl vt l (ZaQ s l) e w':=by
 obtain⟨vl',b3,T,hl,hk,z,ht,hi⟩:=hs
 injection T with T
 injection T with T
 simp only [List.cons.injEq,Value.int.injEq,Value.bool.injEq,and_true,true_and] at T;obtain⟨rfl,rfl,rfl,rfl,rfl,rfl⟩:=T;obtain⟨la,lc,bu,-⟩:=id hl;obtain⟨ta,tc,bz⟩:=ht.shape;subst bu bz;obtain⟨ra,rc,rfl,bL,bF,-,a6,bc⟩:=hr;have bo:=ZZ a4;have bB:=ZZ be;clear a4 be;have aS:=ZZ bc;have aR:=ZZ a6;obtain⟨idx,⟨kind,L,M,H⟩,aa⟩:=s
 dsimp only at *
 have bj:=ZZ bi;clear bi;obtain⟨I,az⟩:∃ I,I=ZaQ ⟨idx,⟨kind,L,M,H⟩,aa⟩ l:=⟨_,rfl⟩;rw[<-az];have bh:=ZZ az;have bd:Hid (∀ (S:ZaW) (q:Nat),q<l.length->ZaQ S (l.drop q)=if(l.getD q Zaj).idx≠S.idx then(Zbl,15) else if ¬ ZaA (l.getD q Zaj) then(Zbl,1) else ZaQ (Zmm S (l.getD q Zaj)) (l.drop (q+1))):=ZZ (fun S q hq=>ZuO hq)
 clear az bc a6 bL bF;have aX:=ZZ (fun W (h:Below w.heap.size w W)=>ZiH _ L W (hl.below h zL) (by omega))
 have aY:=ZZ (fun W (h:Below w.heap.size w W)=>ZiI _ aa W (ht.below h zL) (by omega))
 have aC:=ZZ hl.i64;have a7:∀ e ∈ aa,Zod e:=ht.choose_spec.choose_spec.2.2.2.2.1;have a0:=ZZ a7;have t:Hid (∀ X Y,Below w.heap.size w ((w.alloc X).alloc Y)):=fun X Y=>((Below.refl _ _).alloc zL X).alloc (by simp) Y
 have ad:Hid (∀ cs ds,Bn ((w.alloc (.cells cs 41)).alloc (.cells ds 41)) w.heap.size cs):=fun cs ds=>(Below.heap_alloc _ _ _ (by simp)).trans (heap_alloc_new w _)
 have i:Hid (∀ cs ds,Bn ((w.alloc (.cells cs 41)).alloc (.cells ds 41)) (w.heap.size+1) ds):=fun cs ds=>Zhc w _ _
 clear hl ht a7
 go_enter func15,ntmps15
 go_upto_region 1 with fail
 obtain⟨d,f⟩:∃ d,d=(w.alloc (.cells #[.int .i64 idx,.int .i64 kind,.slice la L.length lc,.bool M,.int .i64 H,.slice ta aa.length tc] 41)).alloc (.cells #[.int .i64 0,.int .i64 0,.slice none 0 0,.bool false,.int .i64 0,.slice none 0 0] 41):=⟨_,rfl⟩;have O:Hid (Below w.heap.size w d):=ZZ (by rw[f];exact t.o _ _)
 have B:Hid (Bn d w.heap.size #[.int .i64 idx,.int .i64 kind,.slice la L.length lc,.bool M,.int .i64 H,.slice ta aa.length tc]):=ZZ (by rw[f];exact ad.o _ _)
 have aW:Hid (Bn d (w.heap.size+1) #[.int .i64 0,.int .i64 0,.slice none 0 0,.bool false,.int .i64 0,.slice none 0 0]):=ZZ (by rw[f];exact i.o _ _)
 have bK:d.heap.size=w.heap.size+2:=by rw[f];simp
 rw[<-f];clear f t ad i;obtain⟨p2,g2⟩:=B.o.cell 2;obtain⟨p5,g5⟩:=B.o.cell 5
 go_cut[] (fun wc=>Hid (ZpT w ⟨idx,⟨kind,L,M,H⟩,aa⟩ wc))
 case first=>
  go_region_with
   (first
    | (go_at_call 39;refine(aX.o _ (by first | exact O.o.drew | exact O.o)).mono ?_;rintro e W1 ⟨v1,rfl,aN,g⟩;have al:Below d.heap.size d W1:=(by first | exact((Below.refl _ _).drew).trans g | exact g);have bU:=ZZ aN;have N:=ZZ al;obtain⟨a1,c1,bt⟩:∃ a c,v1=.slice a L.length c:=(by obtain⟨a,c,h,-⟩:=aN.rd aC.o;exact⟨a,c,h⟩);subst bt;obtain⟨q2,k2⟩:=(B.o.below al zL).cell 2;obtain⟨q5,k5⟩:=(B.o.below al zL).cell 5;clear aN g al)
    | (go_at_call 40;refine(aY.o _ (O.o.trans (N.o.mono O.o.size))).mono ?_;rintro e W2 ⟨v2,rfl,aB,n⟩;have bv:=ZZ aB;have ah:=ZZ (N.o.trans (n.mono N.o.size));have bQ:=ZZ (bU.o.below n zL);obtain⟨a2,c2,aL⟩:=aB.shape;subst aL;obtain⟨r2,j2⟩:=(B.o.below ah.o zL).cell 2;obtain⟨r5,j5⟩:=(B.o.below ah.o zL).cell 5;clear aB n))
  all_goals
   go_wp2_with fail
   go_meet
   exact ZZ (Zla (B.o.below ah.o zL) (aW.o.below ah.o zL) (bQ.o.mono (by first | omega | (show w.heap.size+2<=d.heap.size;omega))) aC.o (bv.o.mono (by have:=N.o.size;omega)) a0.o hi hk z (O.o.trans (ah.o.mono O.o.size)))
 case rest=>
  have bk:=hcut;clear hcut O B aW bK p2 g2 p5 g5 aX aY aC a0 d hk z hi;go_wp2
  go_loopw[20] (fun vi wr=>∃ (q:Nat) (S:ZaW),vi=.int .i64 (q:Int)∧q<=l.length∧Hid (ZpT w S wr)∧Hid (I=ZaQ S (l.drop q))∧Hid (S.st.L.length<=1000)∧Hid (P S)) (fun vi _=>l.length-(intOf vi).toNat)
  case atStart=>exact⟨0,_,rfl,Nat.zero_le _,bk,bh,ZZ bb,bj⟩
  case round=>
   clear bk bh bb bH bj;obtain⟨q,S,rfl,hq,hT,am,a8,a3⟩:=hrel;obtain⟨sa,sc,ea,ec,y,u,hL,bn,hE,bm,hi,hk,z,hB⟩:=hT.out;clear hT;have HX:=ZZ y;have HY:=ZZ u;have HL:=ZZ hL;have au:=ZZ bn;have HE:=ZZ hE;have aE:=ZZ bm;have ai:=ZZ (And.intro hi (And.intro hk z));have HB:=ZZ hB;have bN:=ZZ u.lt;obtain⟨p0,g0⟩:=y.cell 0;obtain⟨p1,g1⟩:=y.cell 1;obtain⟨p2,g2⟩:=y.cell 2;obtain⟨p3,g3⟩:=y.cell 3;obtain⟨p4,g4⟩:=y.cell 4;obtain⟨p5,g5⟩:=y.cell 5;obtain⟨Z,y0⟩:=u.cell 0;obtain⟨U,y1⟩:=u.cell 1;obtain⟨R,y2⟩:=u.cell 2;obtain⟨V,y3⟩:=u.cell 3;obtain⟨z4,y4⟩:=u.cell 4;obtain⟨z5,y5⟩:=u.cell 5;clear y u hL bn hE bm hi hk z hB;by_cases J:q<l.length
   case neg=>
    obtain rfl:q=l.length:=by omega
    have K:Hid (I=(S,0)):=ZZ (by rw[am.out,List.drop_length];rfl)
    clear am;have bW:¬ (w.heap.size=w.heap.size+1):=by omega
    go_wp2;refine bodyPost_ret (v:=.tuple #[.agg #[.int .i64 S.idx,.int .i64 S.st.kind,.slice sa S.st.L.length sc,.bool S.st.shut,.int .i64 S.st.eng,.slice ea S.tab.length ec],.int .i64 0]) (by simp[results,Tryz.results15,go_sem,Z,U,R,V,z4,z5]) rfl ?_
    rw[K.o];have aG:=Ztp wr (w.heap.size+1) (.int .i64 S.idx) (.int .i64 S.st.kind) (.slice sa S.st.L.length sc) (.bool S.st.shut) (.int .i64 S.st.eng) (.slice ea S.tab.length ec);exact⟨_,_,rfl,HL.o.but aG (.inr fun b h=>by have:=au.o b h;omega),ai.o.2.1,ai.o.2.2,(HE.o.rd aE.o).but aG (.inr fun b h=>by have:=HE.o.fresh b h;omega),ai.o.1,.inr (fun b h=>by have:=au.o b h;omega),.inr ((HE.o.but aG (by omega) (by omega)).mono (by omega)),ZhM HB.o _ (by omega) _ _ _ _ _ _⟩
   have bY:(q:Int)<(l.length:Int):=by omega
   rcases aS.o with h0 | ⟨c,bZ,rfl,hc⟩
   ·rw[h0] at J;simp at J
   obtain⟨c0,c1,c2,c3,c4,c5,c6⟩:=(hc q J).keep (HB.o.block c (hc q J).lt);have C:=ZZ (bd.o S q J);rw[<-am.out] at C;have ak:=ZZ (fun W=>ZkY (l.getD q Zaj) W)
   have G:Hid (Zga (l.getD q Zaj)):=ZZ (aR.o _ (by rw[show l.getD q Zaj=l[q] by simp[List.getD,J]];exact List.getElem_mem J))
   obtain⟨r,hr⟩:∃ r,r=l.getD q Zaj:=⟨_,rfl⟩;rw[<-hr] at C ak G c0 c1 c2 c3 c4 c5 c6;clear hr hc bd aS aR am;obtain⟨bf,ax⟩:∃ bf,bf=decide (ZaA r):=⟨_,rfl⟩;rw[<-ax] at ak;have aA:=ZZ ax;clear ax;have b0:=bN.o;clear p0 p1 p2 p3 p4 p5 g0 g1 g2 g3 g4 g5 Z U R V z4 z5 y0 y1 y2 y3 y4 y5
   go_upto_region 5 with fail
   obtain⟨d,f⟩:∃ d,d=wr.alloc (.cells (Zeo r) 62):=⟨_,rfl⟩;have t:Hid (Below wr.heap.size wr d):=ZZ (by rw[f];exact(Below.refl _ _).alloc zL _)
   have k:Hid (Br d wr.heap.size (Zeo r)):=ZZ (by rw[f];exact heap_alloc_new wr _)
   unfold Zeo at f;rw[<-f];clear f c0 c1 c2 c3 c4 c5 c6;unfold Zeo at k;unfold ZuH at ak;obtain⟨j,ar⟩:∃ j,j=wr.heap.size:=⟨_,rfl⟩;have ad:=ZZ (HX.o.below t.o zL);have i:=ZZ (HY.o.below t.o zL);have ao:=ZZ (HB.o.trans (t.o.mono HB.o.size));rw[<-ar] at k ⊢;obtain⟨p0,g0⟩:=ad.o.cell 0;obtain⟨k0,-⟩:=k.o.cell 0;obtain⟨k1,-⟩:=k.o.cell 1;obtain⟨k2,-⟩:=k.o.cell 2;obtain⟨k3,-⟩:=k.o.cell 3;obtain⟨k4,-⟩:=k.o.cell 4;obtain⟨k5,-⟩:=k.o.cell 5;obtain⟨k6,-⟩:=k.o.cell 6;by_cases ac:r.idx=S.idx
   case neg=>
    have K:Hid (I=(Zbl,15)):=ZZ (by rw[C.o,if_pos ac])
    have bR:(r.idx != S.idx)=true:=by rw[bne_iff_ne];exact ac
    obtain⟨Z,y0⟩:=i.o.cell 0;obtain⟨U,y1⟩:=i.o.cell 1;obtain⟨R,y2⟩:=i.o.cell 2;obtain⟨V,y3⟩:=i.o.cell 3;obtain⟨z4,y4⟩:=i.o.cell 4;obtain⟨z5,y5⟩:=i.o.cell 5;clear ac C ar;go_wp2;refine bodyPost_ret (v:=.tuple #[.agg #[.int .i64 0,.int .i64 0,.slice none 0 0,.bool false,.int .i64 0,.slice none 0 0],.int .i64 15]) (by simp[results,Tryz.results15,go_sem,Z,U,R,V,z4,z5]) rfl ?_
    rw[K.o];exact ZkZ.zero _ _ _ _ (Zei ao.o _ (by omega) _ _ _ _ _ _)
   have bR:(r.idx != S.idx)=false:=by rw[bne_eq_false_iff_eq];exact ac
   have aw:=ZZ ac;have af:=ZZ ar;clear ac ar
   go_wp2_with fail
   refine(ak.o _).mono ?_;rintro x W1 ⟨rfl,g⟩;have N:=ZZ (t.o.trans (g.mono t.o.size));have aI:=ZZ (ao.o.trans (g.mono ao.o.size));have aj:=ZZ (ad.o.below g zL);have p:=ZZ (i.o.below g zL);have ag:=ZZ (k.o.below g zL);clear g t ao ad i k ak p0 g0 k0 k1 k2 k3 k4 k5 k6
   cases bf with
   | false=>
    have K:Hid (I=(Zbl,1)):=ZZ (by rw[C.o,if_neg (by rw[aw.o];simp),if_pos (of_decide_eq_false aA.o.symm)])
    obtain⟨Z,y0⟩:=p.o.cell 0;obtain⟨U,y1⟩:=p.o.cell 1;obtain⟨R,y2⟩:=p.o.cell 2;obtain⟨V,y3⟩:=p.o.cell 3;obtain⟨z4,y4⟩:=p.o.cell 4;obtain⟨z5,y5⟩:=p.o.cell 5;clear C;go_wp2;refine bodyPost_ret (v:=.tuple #[.agg #[.int .i64 0,.int .i64 0,.slice none 0 0,.bool false,.int .i64 0,.slice none 0 0],.int .i64 1]) (by simp[results,Tryz.results15,go_sem,Z,U,R,V,z4,z5]) rfl ?_
    rw[K.o];exact ZkZ.zero _ _ _ _ (Zei aI.o _ (by omega) _ _ _ _ _ _)
   | true=>
    have aO:Hid (ZaA r):=ZZ (of_decide_eq_true aA.o.symm);have K:Hid (I=ZaQ (Zmm S r) (l.drop (q+1))):=ZZ (by rw[C.o,if_neg (by rw[aw.o];simp),if_neg (fun h=>h aO.o)])
    have A:=ZZ (Zzs (.agg #[.int .i64 S.st.kind,.slice sa S.st.L.length sc,.bool S.st.shut,.int .i64 S.st.eng]) S.st r.op W1 ⟨_,rfl,HL.o.below N.o zL,ai.o.2.1,ai.o.2.2⟩ (by have:=a8.out;omega))
    rw[ZsX] at A;have aH:=ZZ (Zxi r.op a8.out);have ap:=ZZ (ZuN S.st r.op);have aq:Hid (Zmm S r=⟨S.idx+1,(Zcx S.st r.op).1,ZfU S.tab ⟨r.proc,r.seq,(Zcx S.st r.op).2⟩⟩):=ZZ rfl;have aP:=ZZ (Zwu S.tab ⟨r.proc,r.seq,(Zcx S.st r.op).2⟩);obtain⟨so,aU⟩:∃ so,so=Zcx S.st r.op:=⟨_,rfl⟩;rw[<-aU] at A aH ap aq aP;clear aU C aA;obtain⟨⟨k',L',sh',g'⟩,n'⟩:=so
    dsimp only at A aH ap aq aP
    unfold opV at A;unfold Zir at A
    dsimp only at A
    obtain⟨p1,g1⟩:=aj.o.cell 1;obtain⟨p2,g2⟩:=aj.o.cell 2;obtain⟨p3,g3⟩:=aj.o.cell 3;obtain⟨p4,g4⟩:=aj.o.cell 4;obtain⟨k3,-⟩:=ag.o.cell 3;obtain⟨k4,-⟩:=ag.o.cell 4;obtain⟨k5,-⟩:=ag.o.cell 5
    go_wp2_with fail
    refine A.o.mono ?_;rintro x W2 ⟨v2,rfl,aJ,aT,bl,aD,n⟩;clear A p1 g1 p2 g2 p3 g3 p4 g4 k3 k4 k5;have Q:=ZZ (aj.o.below n zL);have bO:=ZZ (p.o.below n zL);have D:=ZZ (ag.o.below n zL);have aV:=ZZ (aI.o.trans (n.mono aI.o.size));have bp:=ZZ ((HE.o.below N.o zL).below n zL);obtain⟨a2,n2,aL⟩:∃ a c,v2=.slice a L'.length c:=by obtain⟨a,c,h,-⟩:=aJ;exact⟨a,c,h⟩
    subst aL;have b1:j<W1.heap.size:=ag.o.lt
    have bM:Hid (L'=[]∨∀ b,(Value.slice a2 L'.length n2).ownBlock=some b->b≠w.heap.size∧b≠j):=ZZ (by
     rcases aD with ⟨F,h2⟩ | h
     ·rw[F,h2]
      rcases HL.o.old with h3 | h3
      ·exact .inl h3
      ·exact .inr fun b m=>by
        have h4:=h3 b m;have h5:=au.o b m;have h6:=af.o;omega
     ·exact .inr fun b m=>by
       have h4:=h b m;have h5:=p.o.lt
       omega)
    have bC:Hid (∀ b,(Value.slice a2 L'.length n2).ownBlock=some b->w.heap.size+2<=b):=ZZ (fun b m=>by
     rcases aD with ⟨F,h2⟩ | h
     ·rw[F] at m
      exact au.o b m
     ·have h4:=h b m
      have h5:=p.o.lt
      omega)
    have bx:Hid (∀ b,(Value.slice ea S.tab.length ec).ownBlock=some b->b≠w.heap.size∧b≠j):=ZZ (fun b m=>by
     have F:=World.ownsRow.lt HE.o b m;have h2:=af.o
     omega)
    have ba:w.heap.size≠j:=by have:=af.o;omega
    have bA:j≠w.heap.size:=fun h=>ba h.symm
    have bS:w.heap.size+1≠j:=by have:=af.o;omega
    have bG:=ZZ aJ;have aZ:=ZZ (And.intro aT bl);clear aJ aT bl aD n;obtain⟨E,ab⟩:∃ E,E=ZiN W2 w.heap.size j k' (.slice a2 L'.length n2) sh' g' n':=⟨_,rfl⟩;have bT:Hid (Bn E w.heap.size #[.int .i64 S.idx,.int .i64 k',.slice a2 L'.length n2,.bool sh',.int .i64 g',.slice ea S.tab.length ec]):=ZZ (by rw[ab];exact ZuP ba Q.o _ _ _ _ _)
    have b2:Hid (Br E j #[.int .i64 r.idx,.int .i64 r.proc,.int .i64 r.seq,.int .i64 r.op.code,.int .i64 r.op.a,.int .i64 r.op.b,.int .i64 n']):=ZZ (by rw[ab];exact ZuQ bA D.o _ _ _ _ _)
    have aQ:Hid (Bn E (w.heap.size+1) #[.int .i64 0,.int .i64 0,.slice none 0 0,.bool false,.int .i64 0,.slice none 0 0]):=ZZ (by rw[ab];exact ZrU (by omega) bS bO.o _ _ _ _ _)
    have aF:Hid (But w.heap.size j W2 E):=ZZ (by rw[ab];exact ZrT _ _ _ _ _ _ _ _)
    have br:=ZZ (bG.o.but aF.o bM.o);have bJ:=ZZ (bp.o.butN aF.o bx.o);have a9:=ZZ (ZcQ aV.o aF.o aV.o.size zL (by have:=af.o;omega))
    have an:=ZZ (Zxb (.slice ea S.tab.length ec) S.tab ⟨r.idx,r.proc,r.seq,r.op,n'⟩ E (bJ.o.rd aE.o) ⟨G.o.1,G.o.2.1,G.o.2.2.1,G.o.2.2.2.1,ap.o⟩ (by have:=bB.o _ a3.out;omega))
    unfold ZuH at an
    dsimp only at an
    have av:=ab;unfold ZiN at av;have s1:=(Q.o.cell 1);have s2:=(Q.o.cell 2);have s3:=(Q.o.cell 3);have s4:=(Q.o.cell 4);have s5:=(Q.o.cell 5);obtain⟨s1,u1⟩:=s1;obtain⟨s2,u2⟩:=s2;obtain⟨s3,u3⟩:=s3;obtain⟨s4,u4⟩:=s4;obtain⟨s5,u5⟩:=s5;obtain⟨t0,m0⟩:=D.o.cell 0;obtain⟨t1,m1⟩:=D.o.cell 1;obtain⟨t2,m2⟩:=D.o.cell 2;obtain⟨t3,m3⟩:=D.o.cell 3;obtain⟨t4,m4⟩:=D.o.cell 4;obtain⟨t5,m5⟩:=D.o.cell 5;obtain⟨t6,m6⟩:=D.o.cell 6;clear ab
    go_wp2_with fail
    rw[<-av];refine an.o.mono ?_;rintro x W5 ⟨v5,rfl,ay,ae⟩;clear av s1 s2 s3 s4 s5 u1 u2 u3 u4 u5 t0 t1 t2 t3 t4 t5 t6 m0 m1 m2 m3 m4 m5 m6 an;have aM:=ZZ (bT.o.below ae zL);have bI:=ZZ (aQ.o.below ae zL);have bw:=ZZ (br.o.below ae zL);have bq:=ZZ (a9.o.trans (ae.mono a9.o.size));have bD:=ZZ (ay.mono (B':=w.heap.size+2) (by have:=aQ.o.lt;omega))
    obtain⟨a5,c5,bP⟩:=ay.shape;subst bP
    have bE:Hid (∀ e ∈ ZfU S.tab ⟨r.proc,r.seq,n'⟩,Zod e):=ZZ (fun e z=>by
     unfold ZfU at z;rcases(Zkw _ _ _ _).1 z with ⟨-,h⟩ | ⟨h,-⟩
     ·rw[h]
      exact⟨G.o.2.1,G.o.2.2.1,ap.o⟩
     ·exact aE.o e h)
    have aK:Hid (I64 (S.idx+1)):=ZZ (by
     have F:=aO.o;unfold ZaA at F;have h2:=aw.o
     exact⟨by omega,by omega⟩)
    have bV:IntKind.i64.wrap (S.idx+1)=S.idx+1:=by
     have:=aK.o;rw[IntKind.wrap_i64];obtain⟨F,h2⟩:=this;omega
    obtain⟨p0,g0⟩:=aM.o.cell 0;obtain⟨p5,g5⟩:=aM.o.cell 5;clear ay ae;have bg:-9223372036854775808<=S.idx+1∧S.idx+1<=9223372036854775807:=aK.o;obtain⟨bg,g⟩:=bg;go_wp2;go_roundw
    case rel=>
     exact⟨q+1,Zmm S r,by go_num,by omega,ZZ (by rw[aq.o];exact ZrV aM.o bI.o bw.o bC.o bD.o bE.o aK.o aZ.o.1 aZ.o.2 bq.o),K,ZZ (by rw[aq.o];exact aH.o),ZZ (bo.o _ _ a3.out aO.o)⟩
    case measure=>simp[intOf];omega
def RdL (w:World) (v:Value) (L:List (List UInt8)):Prop:=
 ∃ ao cap,v=.slice ao L.length cap∧L.length<=cap∧cap<=maxLen∧(ao=none->cap=0)∧
  (L=[]∨∃ b off,ao=some ⟨b,off,none⟩∧∀ j,j<L.length->∃ x,w.cell? ⟨b,off+j,none⟩=some x∧Rd w x (L.getD j []))
def Zlb (w:World) (B:Nat) (v:Value) (L:List (List UInt8)):Prop:=
 ∃ xs:List Value,w.ownsRow B 53 1 v L.length xs∧∀ j,j<L.length->∃ x,xs[j]?=some x∧Own w B x (L.getD j [])
theorem RdL.nil (w:World):RdL w (.slice none 0 0) []:=⟨none,0,rfl,Nat.le_refl _,Nat.zero_le _,fun _=>rfl,.inl rfl⟩
theorem Zlb.nil (w:World) (B:Nat):Zlb w B (.slice none 0 0) []:=⟨[],World.ownsRow_nil w B 53 1,fun j a=>by simp at a⟩
theorem RdL.below (h:RdL w v L) {B:Nat} (e:Below B w w') (d:w.heap.size<=B):RdL w' v L:=by
 obtain⟨ao,cap,u,m,k,n,a⟩:=h;refine⟨ao,cap,u,m,k,n,?_⟩;rcases a with a | ⟨b,c,t,l⟩
 ·exact .inl a
 ·refine .inr ⟨b,c,t,fun j g=>?_⟩
  obtain⟨x,f,q⟩:=l j g;have i:b<w.heap.size:=World.block_lt_of_cell? w ⟨b,c+j,none⟩ f;refine⟨x,?_,q.below e d⟩;rw[e.cell (p:=⟨b,c+j,none⟩) (by exact Nat.lt_of_lt_of_le i d)]
  exact f
theorem RdL.front (h:RdL w (.slice ao n cap) L) (k:Nat) (y:k<=L.length):RdL w (.slice ao k cap) (L.take k):=by
 obtain⟨z,v,c,A,m,f,a⟩:=h;simp only [Value.slice.injEq] at c;obtain⟨rfl,_,rfl⟩:=c;have l:(L.take k).length=k:=by simp;omega
 refine⟨ao,cap,by rw[l],by omega,m,f,?_⟩
 rcases a with a | ⟨b,g,q,i⟩
 ·exact .inl (by rw[a];simp)
 ·refine .inr ⟨b,g,q,fun j u=>?_⟩
  have d:j<k:=by omega
  obtain⟨x,t,p⟩:=i j (by omega)
  refine⟨x,t,?_⟩;have e:(L.take k).getD j []=L.getD j []:=by simp[List.getD,d]
  rw[e];exact p
theorem Zlb.rd (h:Zlb w B v L):RdL w v L:=by
 obtain⟨xs,c,k⟩:=h;rcases c.2 with ⟨a,b⟩ | ⟨g,cap,cur,a,t,p,f,m,q,n⟩
 ·exact⟨none,0,by rw[a,b],by omega,Nat.zero_le _,fun _=>rfl,.inl (List.eq_nil_of_length_eq_zero b)⟩
 ·refine⟨some ⟨g,0,none⟩,cap,a,f,m,(fun e=>by cases e),.inr ⟨g,0,rfl,fun j d=>?_⟩⟩
  obtain⟨x,i,l⟩:=k j d;have:=World.ownsRow.cells c (g:=g) (by rw[a];rfl) j _ i
  rw[Addr.add_lit] at this;exact⟨x,this,l.rd⟩
theorem Zlb.mono (h:Zlb w B v L) (d:B'<=B):Zlb w B' v L:=by
 obtain⟨xs,⟨k,a⟩,e⟩:=h;refine⟨xs,⟨k,?_⟩,fun j c=>?_⟩
 ·rcases a with a | ⟨g,cap,cur,b,l,r⟩
  ·exact .inl a
  ·exact .inr ⟨g,cap,cur,b,by omega,r⟩
 ·obtain⟨x,f,i⟩:=e j c
  exact⟨x,f,i.mono d⟩
theorem Zlb.below (h:Zlb w B v L) (c:Below B' w w') (f:w.heap.size<=B'):Zlb w' B v L:=by
 obtain⟨xs,⟨n,a⟩,k⟩:=h;refine⟨xs,⟨n,?_⟩,fun j e=>?_⟩
 ·rcases a with a | ⟨g,cap,cur,d,i,b,r⟩
  ·exact .inl a
  ·have p:g<w.heap.size:=(Array.getElem?_eq_some_iff.1 b).1
   exact .inr ⟨g,cap,cur,d,i,by rw[c.block g (by omega)];exact b,r⟩
 ·obtain⟨x,l,m⟩:=k j e
  exact⟨x,l,m.below c f⟩
theorem Znd:(prog.info? 53).map (fun i=>(i.zero,i.size,i.bytes))=some (some (.slice none 0 0),1,24):=by kernel_rfl
theorem ZpV {x:Value} {xs:List Value} (j:w.ownsRow B 53 1 v n xs) (h:Own w B' x l):x.ownBlock=none∨x.ownBlock≠v.ownBlock:=by
 rcases h.2 with ⟨a,_⟩ | ⟨g,cap,cur,a,_,b,_⟩
 ·exact .inl (by rw[a];rfl)
 ·right
  rcases j.2 with ⟨c,_⟩ | ⟨g',k,m,c,_,i,_⟩
  ·rw[a,c]
   exact fun e=>by cases e
  ·rw[a,c]
   intro e;have d:g=g':=by simpa[Value.ownBlock] using e
   rw[d,i] at b
   have f:(53:Nat)=5:=by
    injection b with b
    injection b
   exact absurd f (by decide)
theorem Zlc (w:World) (ty:TypeId) (B:Nat) (v:Value) (L:List (List UInt8)) (h:Zlb w B v L) (x:Value) (d:List UInt8) (f:Own w B x d) (M:L.length<=1000000) (E:B<=w.heap.size):
 ∃ v' w',(Builtin.append_ #[144,144] ty #[v,.slice (some ⟨w.heap.size,0,none⟩) 1 1]).run prog (w.alloc (.cells #[x] 53))=.ok v' w'∧Zlb w' B v' (L++[d])∧Below B w w':=by
 obtain⟨G,F,K,p,q⟩:=info_parts Znd;obtain⟨xs,b,z⟩:=h
 have D:x.oneCell'=true:=by
  rcases f.2 with ⟨i,_⟩ | ⟨g,cap,cur,i,_⟩ <;> rw[i] <;> rfl
 obtain⟨v',w',A,J,c,_⟩:=run_append_own (P:=prog) (w.alloc (.cells #[x] 53)) B 144 ty 53 G (.slice none 0 0) 1 24 underlying144 F K p q rfl (by decide) v L.length xs (b.alloc _)
  ⟨w.heap.size,0,none⟩ 1 1 [x] rfl (fun j u a=>by
   match j,a with
   | 0,a=>simp at a;subst a;simp[Addr.add]) (fun u n=>by simp at n;subst n;exact D) (by unfold maxLen;omega) (by omega) (by simp;omega)
 have I:xs.length=L.length:=by rw[b.1,Nat.mul_one]
 refine⟨v',w',A,⟨xs++[x],by rw[length_append];exact J,fun j a=>?_⟩,?_⟩
 ·by_cases m:j<L.length
  ·obtain⟨y,H,l⟩:=z j m
   refine⟨y,by rw[List.getElem?_append_left (by omega)];exact H,?_⟩
   have e:(L++[d]).getD j []=L.getD j []:=by simp[List.getD,List.getElem?_append_left m]
   rw[e];exact World.ownsRow.kept (World.ownsRow.alloc l _) c (ZpV b l)
  ·have C:j=L.length:=by simp at a;omega
   subst C;refine⟨x,by rw[List.getElem?_append_right (by omega),I];simp,?_⟩
   have e:(L++[d]).getD L.length []=d:=by simp[List.getD]
   rw[e];exact World.ownsRow.kept (World.ownsRow.alloc f _) c (ZpV b f)
 ·exact((Below.refl _ _).alloc E _).grown c (by simp;omega) (fun k t=>(World.ownsRow.lt b k t).1)
theorem ZhP (w:World) {b:Array Oper} {rest:List Oper} {o:Oper} {a:Act} {Q:Exit->Act->World->Prop} (m:o.guard=none) (s x:Operand)
 (q:o.op=.call { callee:=.builtin .append,args:=#[s,x],argTypes:=#[144,144] })
 (B:Nat) (v:Value) (L:List (List UInt8)) (f:a.eval s=v) (n:Zlb w B v L) (y:Value) (d:List UInt8) (j:a.eval x=.slice (some ⟨w.heap.size,0,none⟩) 1 1) (p:Own w B y d)
 (c:L.length<=1000000) (k:B<=w.heap.size)
 (h:∀ v' w',Zlb w' B v' (L++[d])->Below B w w'->wpList prog b Q rest (a.put o.dst v') w'):wpList prog b Q (o::rest) a (w.alloc (.cells #[y] 53)):=
 wpList_plain m fun _ e=>by
  obtain⟨v',w',i,l,g⟩:=Zlc w o.type B v L n y d p c k;unfold Oper.wp execOp;simp only [q,resolve,invoke,builtin,Sem.run_bind,Sem.run_pure,Result.andThen_ok,map_toArray,map_cons,map_nil,f,j,i];exact e _ _ (h v' w' l g)
theorem ZrW (a b:Nat) (e:a<4294967296) (g:b<4294967296):bits .xor .u32 (a:Int) (b:Int)=((a ^^^ b:Nat):Int):=by
 have f:a ^^^ b<2 ^ 32:=Nat.xor_lt_two_pow (by omega) (by omega)
 have d:(BitVec.ofInt 32 (a:Int)).toNat=a:=by
  rw[BitVec.ofInt_natCast,BitVec.toNat_ofNat];exact Nat.mod_eq_of_lt (by omega)
 have c:(BitVec.ofInt 32 (b:Int)).toNat=b:=by
  rw[BitVec.ofInt_natCast,BitVec.toNat_ofNat];exact Nat.mod_eq_of_lt (by omega)
 show IntKind.u32.wrap ((BitVec.ofInt 32 (a:Int) ^^^ BitVec.ofInt 32 (b:Int)).toNat:Int)=_;rw[BitVec.toNat_xor,d,c,IntKind.wrap_u32];omega
theorem ZBH (a b:Nat) (e:a<256) (g:b<256):bits .xor .u8 (a:Int) (b:Int)=((a ^^^ b:Nat):Int):=by
 have f:a ^^^ b<2 ^ 8:=Nat.xor_lt_two_pow (by omega) (by omega)
 have d:(BitVec.ofInt 8 (a:Int)).toNat=a:=by
  rw[BitVec.ofInt_natCast,BitVec.toNat_ofNat];exact Nat.mod_eq_of_lt (by omega)
 have c:(BitVec.ofInt 8 (b:Int)).toNat=b:=by
  rw[BitVec.ofInt_natCast,BitVec.toNat_ofNat];exact Nat.mod_eq_of_lt (by omega)
 show IntKind.u8.wrap ((BitVec.ofInt 8 (a:Int) ^^^ BitVec.ofInt 8 (b:Int)).toNat:Int)=_;rw[BitVec.toNat_xor,d,c,IntKind.wrap_u8];omega
theorem ZuR (k x:Nat):ZdM (k+1) x=ZtZ (ZdM k x):=by
 rw[Zpd k 1];rfl
theorem Zxj (k:Nat) {x:Nat} (h:x<4294967296):ZdM k x<4294967296:=by
 have:=ZnN k (Nat.le_refl 32) (by omega:x<2 ^ 32)
 omega
theorem ZrX (l:List UInt8) (x k:Nat) (h:k<l.length):Zev x (l.take (k+1))=ZgR (Zev x (l.take k)) (l.getD k 0).toNat:=by
 rw[Zkf l k h,ZhA];rfl
theorem Zzt (x c:Nat) (a:c<256):(x ^^^ c) % 256=x % 256 ^^^ c:=by
 have h:=@Nat.xor_mod_two_pow x c 8;have e:c % 2 ^ 8=c:=Nat.mod_eq_of_lt (by omega)
 rw[e] at h;exact h
theorem ZAO (x c:Nat) (a:c<256):x % 256 ^^^ c<256:=by
 have:x % 256 ^^^ c<2 ^ 8:=Nat.xor_lt_two_pow (by omega) (by omega)
 omega
theorem Zzu (c:Nat) (h:c<256):Zgz c<4294967296:=Zxj 8 (by omega)
theorem Zxk (s:Nat) (h:s<4294967296):bits .xor .u32 IntKind.u32.max (s:Int)=((s ^^^ 4294967295:Nat):Int):=by
 have e:IntKind.u32.max=((4294967295:Nat):Int):=by decide
 rw[e,ZrW _ _ (by decide) h,Nat.xor_comm]
def ZAn (l:List UInt8):List UInt8 × Nat:=if l.length<=1048576 then(Zad l,0) else([],5)
theorem Zzv {k e:IntKind} {a b c d:Int} (h:a=b) (f:c=d):Ending.returned (.tuple #[v,.int k a,.int e c])=.returned (.tuple #[v,.int k b,.int e d]):=by rw[h,f]
theorem ZBI (h:Zdf l):ZbR l=([],0,2):=by unfold ZbR;rw[if_pos h]
theorem ZBJ (h:¬ Zdf l) (a:(Zab l).2=0):ZbR l=([],0,3):=by unfold ZbR;rw[if_neg h,if_pos a]
theorem ZBK (h:¬ Zdf l) (a:(Zab l).2≠0) (b:1048576<(Zab l).1):ZbR l=([],0,5):=by unfold ZbR;rw[if_neg h,if_neg a,if_pos b]
theorem ZBL (h:¬ Zdf l) (b:(Zab l).2≠0) (a:¬ 1048576<(Zab l).1) (c:l.length<(Zab l).2+4+(Zab l).1):ZbR l=([],0,2):=by
 unfold ZbR;rw[if_neg h,if_neg b,if_neg a,if_pos c]
theorem ZBM (h:¬ Zdf l) (b:(Zab l).2≠0) (a:¬ 1048576<(Zab l).1) (c:¬ l.length<(Zab l).2+4+(Zab l).1)
 (d:Lib.leNat ((l.drop ((Zab l).2+(Zab l).1)).take 4)≠Zaz 0 (l.take ((Zab l).2+(Zab l).1))):ZbR l=([],0,4):=by
 unfold ZbR;rw[if_neg h,if_neg b,if_neg a,if_neg c,if_pos d]
theorem ZBN (h:¬ Zdf l) (b:(Zab l).2≠0) (a:¬ 1048576<(Zab l).1) (c:¬ l.length<(Zab l).2+4+(Zab l).1)
 (d:Lib.leNat ((l.drop ((Zab l).2+(Zab l).1)).take 4)=Zaz 0 (l.take ((Zab l).2+(Zab l).1))):ZbR l=((l.drop (Zab l).2).take (Zab l).1,(Zab l).2+4+(Zab l).1,0):=by
 unfold ZbR;rw[if_neg h,if_neg b,if_neg a,if_neg c,if_neg (by rw[d];simp)]
theorem ZuS (l:List UInt8):(Zab l).2<=9:=by
 rcases Zay l with h | ⟨c,e,d,a⟩
 ·rw[h];decide
 ·have b:(Lib.uvarint (Zab l).1).length<=9:=Lib.uvarint_length 8 _ (Nat.lt_of_lt_of_le c (by decide))
  rw[<-a,List.length_take] at b;omega
def Zhe (w:World) (l:List UInt8) (e:Ending) (w':World):Prop:=
 ∃ v',e=.returned (.tuple #[v',.int .i64 ((ZbR l).2.1:Nat),.int .i64 ((ZbR l).2.2:Nat)])∧Own w' w.heap.size v' (ZbR l).1∧Below w.heap.size w w'
theorem Zhe.refused (h:ZbR l=([],0,c)):Zhe w l (.returned (.tuple #[.slice none 0 0,.int .i64 0,.int .i64 (c:Int)])) w:=by
 refine⟨.slice none 0 0,?_,?_,Below.refl _ _⟩
 ·rw[h];rfl
 ·rw[h];exact Own.nil _ _
def Zxl (l:List UInt8) (A:Nat) (L:List (List UInt8)):Prop:=
 Zao l=(L++(Zao (l.drop A)).1,A+(Zao (l.drop A)).2.1,(Zao (l.drop A)).2.2)∧5*L.length<=A∧A<=l.length
theorem Zxl.start (l:List UInt8):Zxl l 0 []:=⟨by simp,by simp,by omega⟩
theorem Zxl.stop (h:Zxl l A L) (c:A<l.length) (a:(ZbR (l.drop A)).2.2≠0):Zao l=(L,A,(ZbR (l.drop A)).2.2):=by
 have b:l.drop A≠[]:=fun e=>by
  have:=congrArg List.length e;rw[length_drop,List.length_nil] at this;omega
 rw[h.1,Zfm b a];simp
theorem Zxl.whole (h:Zxl l A L) (a:¬ A<l.length):Zao l=(L,A,0):=by
 have e:l.drop A=[]:=List.drop_of_length_le (by omega)
 rw[h.1,e,ZeX];simp
theorem Zxl.step (h:Zxl l A L) (d:A<l.length) (a:(ZbR (l.drop A)).2.2=0):Zxl l (A+(ZbR (l.drop A)).2.1) (L++[(ZbR (l.drop A)).1]):=by
 have c:l.drop A≠[]:=fun e=>by
  have:=congrArg List.length e;rw[length_drop,List.length_nil] at this;omega
 have f:=ZeW a;have b:=Zwt (l.drop A);rw[length_drop] at b;refine⟨?_,?_,by omega⟩
 ·rw[h.1,Zfn c a,List.drop_drop]
  simp[Nat.add_assoc]
 ·have:=h.2.1
  simp;omega
def ZAo (l:List UInt8):List (List UInt8) × Nat:=if(Zao l).2.2=0 then((Zao l).1,0) else([],(Zao l).2.2)
theorem Zmt (w:World) (ty:TypeId) (B:Nat) (v:Value) (b:List UInt8) (d:Own w B v b) (e:Value) (l:List UInt8) (n:Rd w e l)
 (y:b.length+l.length<=70368744177664) (m:B<=w.heap.size):
 ∃ v' w',(Builtin.append_ #[53,53] ty #[v,e]).run prog w=.ok v' w'∧Own w' B v' (b++l)∧w.grownBy w' v.ownBlock:=by
 obtain⟨g,f,x,h,j⟩:=info_parts ZnJ;obtain⟨ao,cap,rfl,A,z,u,k⟩:=n
 cases ao with
 | none=>
  have t:=u rfl;subst t;have p:l=[]:=List.eq_nil_of_length_eq_zero (by omega)
  subst p;have c:=run_append_owned_none (P:=prog) w B 53 ty 5 g 1 underlying53 f v b.length (Lib.byteCells b) d;exact⟨v,w,c,by rw[List.append_nil];exact d,⟨rfl,rfl,rfl,Nat.le_refl _,fun _ _ _=>rfl⟩⟩
 | some a=>
  obtain⟨v',w',c,q,i,_⟩:=run_append_own (P:=prog) w B 53 ty 5 g (.int .u8 0) 1 1 underlying53 f x h j rfl (by decide) v b.length (Lib.byteCells b) d a l.length cap (Lib.byteCells l)
   (by rw[Zbi,Nat.mul_one]) (Rd.cells k a rfl) (ZdH l) (by unfold maxLen;omega) (by omega) m
  exact⟨v',w',c,Own.mk' q (by simp) (by simp[Lib.byteCells]),i⟩
theorem ZiO (w:World) {d:Array Oper} {rest:List Oper} {o:Oper} {a:Act} {Q:Exit->Act->World->Prop} (p:o.guard=none) (s x:Operand)
 (u:o.op=.call { callee:=.builtin .append,args:=#[s,x],argTypes:=#[53,53] })
 (B:Nat) (v:Value) (b:List UInt8) (g:a.eval s=v) (q:Own w B v b) (c:Value) (l:List UInt8) (k:a.eval x=c) (t:Rd w c l)
 (e:b.length+l.length<=70368744177664) (m:B<=w.heap.size)
 (h:∀ v' w',Own w' B v' (b++l)->w.grownBy w' v.ownBlock->wpList prog d Q rest (a.put o.dst v') w'):wpList prog d Q (o::rest) a w:=
 wpList_plain p fun _ f=>by
  obtain⟨v',w',j,n,i⟩:=Zmt w o.type B v b q c l t e m;unfold Oper.wp execOp;simp only [u,resolve,invoke,builtin,Sem.run_bind,Sem.run_pure,Result.andThen_ok,map_toArray,map_cons,map_nil,g,k,j];exact f _ _ (h v' w' n i)
open Go.RowKit Go.ChangeShapes
theorem Zld:prog.elem 144=53:=by kernel_rfl
theorem Zne (w:World):(sizeOf 53).run prog w=.ok 1 w:=by
 obtain⟨c,b,_,a,_⟩:=info_parts Znd;simp[sizeOf,typeInfo,b,a]
theorem Zgu:prog.underlying 144=some (.slice (prog.elem 144)):=by rw[Zld];exact underlying144
theorem RdR.mid {l:List Rec} (h:RdR w (.slice ao n cap) l) (i j m:Nat) (D:i<=j) (E:j<=l.length) (H:j<=m) (I:m<=cap):RdR w (sliced ao i j m 7) ((l.drop i).take (j-i)):=by
 obtain⟨J,F,g,K,G,t,z,c⟩:=h;simp only [Value.slice.injEq] at g;obtain⟨rfl,rfl,rfl⟩:=g;have f:((l.drop i).take (j-i)).length=j-i:=by simp;omega
 have p:∀ n ∈ (l.drop i).take (j-i),Zga n:=fun n a=>z n (List.mem_of_mem_drop (List.mem_of_mem_take a))
 unfold sliced;by_cases u:m=i
 ·rw[if_pos u]
  have e:j-i=0:=by omega
  refine⟨ao,m-i,by rw[f],by omega,by omega,fun a=>by have:=t a;omega,p,.inl ?_⟩
  rw[e];simp
 ·rw[if_neg u]
  refine⟨ao.map (·.add (i*7)),m-i,by rw[f],by omega,by omega,fun a=>?_,p,?_⟩
  ·have C:ao=none:=by simpa using a
   have:=t C;omega
  ·rcases c with c | ⟨b,d,B,v⟩
   ·exact .inl (by rw[c];simp)
   ·refine .inr ⟨b,d+i*7,?_,fun k q=>?_⟩
    ·rw[B,Option.map_some,Addr.add_lit]
    ·rw[f] at q
     have x:=v (i+k) (by omega)
     have y:d+i*7+k*7=d+(i+k)*7:=by omega
     have A:((l.drop i).take (j-i)).getD k Zaj=l.getD (i+k) Zaj:=by simp[List.getD,q]
     rw[y,A];exact x
theorem RdL.mid {l:List (List UInt8)} (h:RdL w (.slice ao n cap) l) (i j m:Nat) (C:i<=j) (D:j<=l.length) (G:j<=m) (H:m<=cap):RdL w (sliced ao i j m 1) ((l.drop i).take (j-i)):=by
 obtain⟨I,E,f,J,F,p,a⟩:=h;simp only [Value.slice.injEq] at f;obtain⟨rfl,rfl,rfl⟩:=f;have c:((l.drop i).take (j-i)).length=j-i:=by simp;omega
 unfold sliced;by_cases q:m=i
 ·rw[if_pos q]
  have e:j-i=0:=by omega
  refine⟨ao,m-i,by rw[c],by omega,by omega,fun d=>by have:=p d;omega,.inl ?_⟩
  rw[e];simp
 ·rw[if_neg q]
  refine⟨ao.map (·.add (i*1)),m-i,by rw[c],by omega,by omega,fun d=>?_,?_⟩
  ·have B:ao=none:=by simpa using d
   have:=p B;omega
  ·rcases a with a | ⟨b,u,A,v⟩
   ·exact .inl (by rw[a];simp)
   ·refine .inr ⟨b,u+i,?_,fun k g=>?_⟩
    ·rw[A,Nat.mul_one,Option.map_some,Addr.add_lit]
    ·rw[c] at g
     obtain⟨x,y,t⟩:=v (i+k) (by omega)
     refine⟨x,by rw[Nat.add_assoc];exact y,?_⟩
     have z:((l.drop i).take (j-i)).getD k []=l.getD (i+k) []:=by simp[List.getD,g]
     rw[z];exact t
theorem RdR.cells {l:List Rec} (h:l=[]∨∃ b c,ao=some ⟨b,c,none⟩∧∀ j,j<l.length->Zmq w b (c+j*7) (l.getD j Zaj)) (a:Addr) (f:ao=some a):
 ∀ j u,(Zan l)[j]?=some u->w.cell? (a.add j)=some u:=by
 intro j u d;rcases h with h | ⟨b,c,z,t⟩
 ·rw[h] at d
  simp[Zan] at d
 ·rw[z] at f
  injection f with f
  subst f;have m:j<(Zan l).length:=(List.getElem?_eq_some_iff.1 d).1;rw[Zbo] at m;have i:j=j / 7*7+j % 7:=by omega
  have g:=ZeA l (j / 7) (j % 7) (by omega) (by omega)
  rw[<-i,d] at g;obtain⟨x,n,p,y,A,v,q⟩:=t (j / 7) (by omega)
  have e:∀ k,k<7->c+(j / 7*7+k)=c+j / 7*7+k:=fun k _=>by omega
  rw[Addr.add_lit,i,e (j % 7) (by omega)]
  have hk:j % 7=0∨j % 7=1∨j % 7=2∨j % 7=3∨j % 7=4∨j % 7=5∨j % 7=6:=by omega
  rcases hk with hk | hk | hk | hk | hk | hk | hk
  all_goals
   rw[hk] at g ⊢;rw[g]
   first | exact x | exact n | exact p | exact y | exact A | exact v | exact q
theorem Zle (w:World) (ty:TypeId) (B:Nat) (v:Value) (b:List Rec) (c:Zbq w B v b) (f:Value) (l:List Rec) (q:RdR w f l)
 (A:b.length+l.length<=1000000) (e:B<=w.heap.size):
 ∃ v' w',(Builtin.append_ #[29,29] ty #[v,f]).run prog w=.ok v' w'∧Zbq w' B v' (b++l)∧Below B w w':=by
 obtain⟨h,g,z,i,m⟩:=info_parts Zgs;obtain⟨ao,cap,rfl,D,C,y,_,p⟩:=q
 cases ao with
 | none=>
  have x:=y rfl;subst x;have t:l=[]:=List.eq_nil_of_length_eq_zero (by omega)
  subst t;have d:=run_append_owned_none (P:=prog) w B 29 ty 62 h 7 underlying29 g v b.length (Zan b) c;exact⟨v,w,d,by rw[List.append_nil];exact c,Below.refl _ _⟩
 | some a=>
  obtain⟨v',w',d,u,j,_⟩:=run_append_own (P:=prog) w B 29 ty 62 h _ 7 56 underlying29 g z i m rfl (by decide) v b.length (Zan b) c a l.length cap (Zan l)
   (Zbo l) (RdR.cells p a rfl) (ZeB l) (by unfold maxLen;omega) (by omega) e
  refine⟨v',w',d,?_,?_⟩
  ·unfold Zbq
   rw[length_append,Zdv];exact u
  ·exact(Below.refl _ _).grown j e (fun k n=>(World.ownsRow.lt c k n).1)
theorem ZhQ (w:World) {d:Array Oper} {rest:List Oper} {o:Oper} {a:Act} {Q:Exit->Act->World->Prop} (p:o.guard=none) (s x:Operand)
 (u:o.op=.call { callee:=.builtin .append,args:=#[s,x],argTypes:=#[29,29] })
 (B:Nat) (v:Value) (b:List Rec) (g:a.eval s=v) (q:Zbq w B v b) (c:Value) (l:List Rec) (k:a.eval x=c) (t:RdR w c l)
 (e:b.length+l.length<=1000000) (m:B<=w.heap.size)
 (h:∀ v' w',Zbq w' B v' (b++l)->Below B w w'->wpList prog d Q rest (a.put o.dst v') w'):wpList prog d Q (o::rest) a w:=
 wpList_plain p fun _ f=>by
  obtain⟨v',w',j,n,i⟩:=Zle w o.type B v b q c l t e m;unfold Oper.wp execOp;simp only [u,resolve,invoke,builtin,Sem.run_bind,Sem.run_pure,Result.andThen_ok,map_toArray,map_cons,map_nil,g,k,j];exact f _ _ (h v' w' n i)
def Bsg (w:World) (b:Nat) (cs:Array Value):Prop:=w.heap[b]?=some (.cells cs 217 (0,0))
theorem Bsg.lt {cs:Array Value} (h:Bsg w b cs):b<w.heap.size:=(Array.getElem?_eq_some_iff.1 h).1
theorem Bsg.below {cs:Array Value} (h:Bsg w b cs) (a:Below B w w') (c:w.heap.size<=B):Bsg w' b cs:=(a.block b (by have:=h.lt;omega)).trans h
theorem Bsg.cell {cs:Array Value} (h:Bsg w b cs) (j:Nat):w.cell? ⟨b,j,none⟩=cs[j]?∧w.frozen? ⟨b,j,none⟩=false:=⟨cell_of_row w b j _ _ _ h,frozen_of_row w b j _ _ h⟩
def pcC (p:Pce):Array Value:=#[.int .i64 p.name,.int .i64 p.first,.int .i64 p.stop]
def Zau:List Pce->List Value
 | []=>[]
 | c::l=>(pcC c).toList++Zau l
theorem Zdn:∀ l:List Pce,(Zau l).length=l.length*3
 | []=>rfl
 | c::l=>by
  rw[Zau,length_append,Zdn l,List.length_cons];show 3+_=_;omega
theorem Zlf:∀ a b:List Pce,Zau (a++b)=Zau a++Zau b
 | [],_=>rfl
 | c::l,b=>by rw[List.cons_append,Zau,Zlf l b,Zau,List.append_assoc]
theorem Zfw:∀ (l:List Pce) (j k:Nat),j<l.length->k<3->(Zau l)[j*3+k]?=(pcC (l.getD j Zce))[k]?
 | c::l,0,k,_,hk=>by
  rw[Zau,Nat.zero_mul,Nat.zero_add,List.getElem?_append_left (by show k<3;exact hk)]
  simp
 | c::l,j+1,k,hj,hk=>by
  have e:(j+1)*3+k=(pcC c).toList.length+(j*3+k):=by show _=3+_;omega
  rw[Zau,e,List.getElem?_append_right (by omega),Nat.add_sub_cancel_left,Zfw l j k (by simpa using hj) hk]
  rfl
theorem ZrY (l:List Pce):∀ u ∈ Zau l,u.oneCell'=true:=by
 induction l with
 | nil=>intro u a;cases a
 | cons c l b=>
  intro u a;rw[Zau] at a;rcases List.mem_append.1 a with h | h
  ·simp[pcC] at h
   rcases h with rfl | rfl | rfl <;> rfl
  ·exact b u h
def snC (x:ZaW × Value × Value):Array Value:=#[.int .i64 x.1.idx,.int .i64 x.1.st.kind,x.2.1,.bool x.1.st.shut,.int .i64 x.1.st.eng,x.2.2]
def snV (x:ZaW × Value × Value):Value:=.agg (snC x)
def ZaN:List (ZaW × Value × Value)->List Value
 | []=>[]
 | c::l=>(snC c).toList++ZaN l
theorem ZgH:∀ l:List (ZaW × Value × Value),(ZaN l).length=l.length*6
 | []=>rfl
 | c::l=>by
  rw[ZaN,length_append,ZgH l,List.length_cons];show 6+_=_;omega
theorem Zlg:∀ a b:List (ZaW × Value × Value),ZaN (a++b)=ZaN a++ZaN b
 | [],_=>rfl
 | c::l,b=>by rw[List.cons_append,ZaN,Zlg l b,ZaN,List.append_assoc]
theorem Zlh:∀ (l:List (ZaW × Value × Value)) (j k:Nat) (a:j<l.length),k<6->(ZaN l)[j*6+k]?=(snC l[j])[k]?
 | c::l,0,k,_,hk=>by
  rw[ZaN,Nat.zero_mul,Nat.zero_add,List.getElem?_append_left (by show k<6;exact hk)]
  simp
 | c::l,j+1,k,a,hk=>by
  have e:(j+1)*6+k=(snC c).toList.length+(j*6+k):=by show _=6+_;omega
  rw[ZaN,e,List.getElem?_append_right (by omega),Nat.add_sub_cancel_left,Zlh l j k (by simpa using a) hk]
  rfl
structure SnR (w:World) (x:ZaW × Value × Value):Prop where
 l:RdI w x.2.1 x.1.st.L
 t:RdE w x.2.2 x.1.tab
 k:I64 x.1.st.kind
 e:I64 x.1.st.eng
 i:I64 x.1.idx
theorem SnR.snV (h:SnR w x):SnV w (snV x) x.1:=⟨x.2.1,x.2.2,rfl,h.l,h.k,h.e,h.t,h.i⟩
theorem SnR.below (h:SnR w x) {B:Nat} (b:Below B w w') (a:w.heap.size<=B):SnR w' x:=⟨h.l.below b a,h.t.below b a,h.k,h.e,h.i⟩
def ZoR (I:Nat->Prop) (x:ZaW × Value × Value):Prop:=(x.1.st.L=[]∨∀ g,x.2.1.ownBlock=some g->I g)∧(x.1.tab=[]∨∀ g,x.2.2.ownBlock=some g->I g)
theorem ZoR.mono {J:Nat->Prop} (h:ZoR I x) (b:∀ k,I k->J k):ZoR J x:=by
 obtain⟨d,c⟩:=h;exact⟨d.imp id fun h g a=>b g (h g a),c.imp id fun h g a=>b g (h g a)⟩
theorem RdE.keepS {l:List Ent} (h:RdE w v l) (hk:l=[]∨∀ g,v.ownBlock=some g->w'.heap[g]?=w.heap[g]?):RdE w' v l:=by
 obtain⟨ao,cap,rfl,k,d,m,e,a⟩:=h;refine⟨ao,cap,rfl,k,d,m,e,?_⟩;rcases a with a | ⟨b,f,rfl,i⟩
 ·exact .inl a
 ·rcases hk with hk | hk
  ·exact .inl hk
  ·exact .inr ⟨b,f,rfl,fun j c=>(i j c).keep (hk b rfl)⟩
theorem RdI.keepS {l:List Int} (h:RdI w v l) (hk:l=[]∨∀ g,v.ownBlock=some g->w'.heap[g]?=w.heap[g]?):RdI w' v l:=by
 obtain⟨ao,cap,rfl,m,f,n,i,c⟩:=h;refine⟨ao,cap,rfl,m,f,n,i,?_⟩;rcases c with c | ⟨b,d,rfl,k⟩
 ·exact .inl c
 ·rcases hk with hk | hk
  ·exact .inl hk
  ·exact .inr ⟨b,d,rfl,fun j e=>(World.cell?_of_block (a:=⟨b,d+j,none⟩) (hk b rfl)).trans (k j e)⟩
theorem SnR.keep (h:SnR w x) (c:ZoR I x) (b:∀ g,I g->w'.heap[g]?=w.heap[g]?):SnR w' x:=
 ⟨h.l.keepS (c.1.imp id fun h g a=>b g (h g a)),h.t.keepS (c.2.imp id fun h g a=>b g (h g a)),h.k,h.e,h.i⟩
structure Zhf where
 rv:Value
 pv:Value
 bv:Value
 nl:Value
 nt:Value
 bs:List (ZaW × Value × Value)
def Zhf.nx (L:Zhf) (s:Sto):ZaW × Value × Value:=(s.now,L.nl,L.nt)
def stC (pd:Nat) (L:Zhf) (s:Sto):Array Value:=
 #[ptr pd,.int .i64 s.log.first,L.rv,L.pv,L.bv,.int .i64 s.now.idx,.int .i64 s.now.st.kind,L.nl,.bool s.now.st.shut,.int .i64 s.now.st.eng,L.nt,.int .i64 s.synced,.int .i64 s.cur,.bool s.nw]
structure ZeO (M I:Nat->Prop) (w:World) (p pd:Nat) (L:Zhf) (s:Sto):Prop where
 head:Bk 76 w p (stC pd L s)
 recs:Zbq w 0 L.rv s.log.recs
 pcs:w.ownsRow 0 108 3 L.pv s.log.pcs.length (Zau s.log.pcs)
 bases:w.ownsRow 0 41 6 L.bv L.bs.length (ZaN L.bs)
 bsEq:L.bs.map Prod.fst=s.bases
 now:SnR w (L.nx s)
 base:∀ x ∈ L.bs,SnR w x
 mh:M p
 mr:∀ g,L.rv.ownBlock=some g->M g
 mp:∀ g,L.pv.ownBlock=some g->M g
 mb:∀ g,L.bv.ownBlock=some g->M g
 inow:ZoR I (L.nx s)
 ibase:∀ x ∈ L.bs,ZoR I x
 ltM:∀ k,M k->k<w.heap.size
 ltI:∀ k,I k->k<w.heap.size
 dis:∀ k,M k->¬ I k
theorem ZeO.keep {L:Zhf} (h:ZeO M I w p pd L s) (b:∀ k,(M k∨I k)->w'.heap[k]?=w.heap[k]?) (d:w.heap.size<=w'.heap.size):ZeO M I w' p pd L s:=
 ⟨h.head.keep (b p (.inl h.mh)),Zae h.recs fun g a=>b g (.inl (h.mr g a)),Zae h.pcs fun g a=>b g (.inl (h.mp g a)),Zae h.bases fun g a=>b g (.inl (h.mb g a)),h.bsEq,
  h.now.keep h.inow fun g a=>b g (.inr a),fun x e=>(h.base x e).keep (h.ibase x e) fun g a=>b g (.inr a),h.mh,h.mr,h.mp,h.mb,h.inow,h.ibase,fun k c=>Nat.lt_of_lt_of_le (h.ltM k c) d,fun k c=>Nat.lt_of_lt_of_le (h.ltI k c) d,h.dis⟩
theorem ZeO.only {G:Nat->Prop} {L:Zhf} (h:ZeO M I w p pd L s) (a:Zap G w w') (c:∀ k,M k->¬ G k) (b:∀ k,I k->¬ G k):ZeO M I w' p pd L s:=
 h.keep (fun k hk=>by
  rcases hk with hk | hk
  ·exact a.block k (h.ltM k hk) (c k hk)
  ·exact a.block k (h.ltI k hk) (b k hk)) a.size
theorem ZeO.below {L:Zhf} (h:ZeO M I w p pd L s) (a:Below w.heap.size w w'):ZeO M I w' p pd L s:=
 h.keep (fun k hk=>a.block k (by
  rcases hk with hk | hk
  ·exact h.ltM k hk
  ·exact h.ltI k hk)) a.size
theorem ZeO.cs {L:Zhf} (h:ZeO M I w p pd L s):
 w.cell? ⟨p,0,none⟩=some (ptr pd)∧w.cell? ⟨p,1,none⟩=some (.int .i64 s.log.first)∧w.cell? ⟨p,2,none⟩=some L.rv∧w.cell? ⟨p,3,none⟩=some L.pv∧w.cell? ⟨p,4,none⟩=some L.bv∧
 (w.cell? ⟨p,5,none⟩=some (.int .i64 s.now.idx)∧w.cell? ⟨p,6,none⟩=some (.int .i64 s.now.st.kind)∧w.cell? ⟨p,7,none⟩=some L.nl∧w.cell? ⟨p,8,none⟩=some (.bool s.now.st.shut)∧w.cell? ⟨p,9,none⟩=some (.int .i64 s.now.st.eng)∧w.cell? ⟨p,10,none⟩=some L.nt)∧
 w.cell? ⟨p,11,none⟩=some (.int .i64 s.synced)∧w.cell? ⟨p,12,none⟩=some (.int .i64 s.cur)∧w.cell? ⟨p,13,none⟩=some (.bool s.nw):=
 ⟨(h.head.cell 0 rfl).1,(h.head.cell 1 rfl).1,(h.head.cell 2 rfl).1,(h.head.cell 3 rfl).1,(h.head.cell 4 rfl).1,⟨(h.head.cell 5 rfl).1,(h.head.cell 6 rfl).1,(h.head.cell 7 rfl).1,(h.head.cell 8 rfl).1,(h.head.cell 9 rfl).1,(h.head.cell 10 rfl).1⟩,(h.head.cell 11 rfl).1,(h.head.cell 12 rfl).1,(h.head.cell 13 rfl).1⟩
theorem ZeO.fz {L:Zhf} (h:ZeO M I w p pd L s) (j:Nat):w.frozen? ⟨p,j,none⟩=false:=frozen_of_row w p j _ _ h.head
def SD (K:Nat->Prop) (w:World) (pd p:Nat) (s:Sto) (d:Dk) (N T:Nat):Prop:=
 ∃ F M I L,Dsk F w pd d N T∧ZeO M I w p pd L s∧(∀ k,F k->¬ K k)∧(∀ k,M k->¬ K k)∧(∀ k,I k->¬ K k)∧(∀ k,F k->¬ M k)∧(∀ k,F k->¬ I k)
def Zff (K:Nat->Prop) (w:World) (pd p:Nat) (r:SDk × Int) (N T:Nat) (e:Ending) (w':World):Prop:=
 e=.returned (.int .i64 r.2)∧SD K w' pd p r.1.1 r.1.2 N T∧Zap (fun k=>¬ K k) w w'
theorem SD.below (h:SD K w pd p s d N T) (a:Below w.heap.size w w'):SD K w' pd p s d N T:=by
 obtain⟨F,M,I,L,e,c,b⟩:=h;exact⟨F,M,I,L,e.below a,c.below a,b⟩
theorem SD.mono (h:SD K w pd p s d N T) (e:N<=N') (b:T<=T'):SD K w pd p s d N' T':=by
 obtain⟨F,M,I,L,f,c,a⟩:=h;exact⟨F,M,I,L,f.mono e b,c,a⟩
theorem SD.less {e:Nat->Prop} (h:SD K w pd p s d N T) (c:∀ k,e k->K k):SD e w pd p s d N T:=by
 obtain⟨F,M,I,L,m,j,g,f,l,i⟩:=h;exact⟨F,M,I,L,m,j,fun k b a=>g k b (c k a),fun k b a=>f k b (c k a),fun k b a=>l k b (c k a),i⟩
theorem SD.fresh (h:SD K w pd p s d N T) (c:Below w.heap.size w w'):SD (fun k=>K k∨(w.heap.size<=k∧k<w'.heap.size)) w' pd p s d N T:=by
 obtain⟨F,M,I,L,e,b,g,f,j,i⟩:=h;refine⟨F,M,I,L,e.below c,b.below c,fun k a hh=>?_,fun k a hh=>?_,fun k a hh=>?_,i⟩
 ·rcases hh with hh | hh
  ·exact g k a hh
  ·have:=e.ltF k a
   omega
 ·rcases hh with hh | hh
  ·exact f k a hh
  ·have:=b.ltM k a
   omega
 ·rcases hh with hh | hh
  ·exact j k a hh
  ·have:=b.ltI k a
   omega
theorem SD.onlyK (h:SD K w pd p s d N T) (c:Zap K w w'):SD K w' pd p s d N T:=by
 obtain⟨F,M,I,L,i,g,b,a,e,f⟩:=h;exact⟨F,M,I,L,i.only c b,g.only c a e,b,a,e,f⟩
theorem SD.disk {d':Dk} {f:Nat} {args:Array Value} {c:Int} (h:SD K w pd p s d N T) (t:∀ k,K k->k<w.heap.size)
 (z:∀ F,Dsk F w pd d N T->(∀ k,F k->¬ K k)->Calls prog f args w fun e w'=>Zjk F w pd d' c N' T' e w'):Calls prog f args w fun e w'=>e=.returned (.int .i64 c)∧SD K w' pd p s d' N' T'∧Zap (fun k=>¬ K k) w w':=by
 obtain⟨F,M,I,L,A,j,g,u,y,m,n⟩:=h;refine(z F A g).mono ?_;rintro e w' ⟨v,F',x,q,l⟩;refine⟨v,⟨F',M,I,L,x,j.only q (fun k a i=>m k i a) (fun k a i=>n k i a),fun k a b=>?_,u,y,fun k a b=>?_,fun k a b=>?_⟩,q.mono g⟩
 ·rcases l k a with hx | hx
  ·exact g k hx b
  ·have:=t k b
   omega
 ·rcases l k a with hx | hx
  ·exact m k hx b
  ·have:=j.ltM k b
   omega
 ·rcases l k a with hx | hx
  ·exact n k hx b
  ·have:=j.ltI k b
   omega
theorem SD.own {F M' I':Nat->Prop} {s':Sto} {L':Zhf} (e:∀ k,K k->k<w.heap.size) (c:Dsk F w pd d N T) (m:∀ k,F k->¬ K k) (f:∀ k,M k->¬ K k) (q:∀ k,I k->¬ K k) (h:∀ k,F k->¬ M k) (n:∀ k,F k->¬ I k)
 (i:Zap M w w') (l:ZeO M' I' w' p pd L' s') (j:∀ k,M' k->M k∨w.heap.size<=k) (g:∀ k,I' k->I k∨w.heap.size<=k):SD K w' pd p s' d N T∧Zap (fun k=>¬ K k) w w':=by
 refine⟨⟨F,M',I',L',c.only i h,l,m,fun k b a=>?_,fun k b a=>?_,fun k b a=>?_,fun k b a=>?_⟩,i.mono f⟩
 ·rcases j k b with hx | hx
  ·exact f k hx a
  ·have:=e k a
   omega
 ·rcases g k b with hx | hx
  ·exact q k hx a
  ·have:=e k a
   omega
 ·rcases j k a with hx | hx
  ·exact h k b hx
  ·have:=c.ltF k b
   omega
 ·rcases g k a with hx | hx
  ·exact n k b hx
  ·have:=c.ltF k b
   omega
end Go.Proofs.YtnahjngbneicaaaGreatDoor
