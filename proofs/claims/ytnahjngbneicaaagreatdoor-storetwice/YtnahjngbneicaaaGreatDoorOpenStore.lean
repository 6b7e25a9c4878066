import Derived.Test.YtnahjngbneicaaaGreatDoorOpenBlock
namespace Go.Proofs.YtnahjngbneicaaaGreatDoor
open _root_.Go.Proofs.Tryz
set_option maxRecDepth 100000
open Go.RowKit Go.ChangeShapes
structure SOp where
 kind:Int
 many:Int
 n:Int
 op:Opn
 keep:List Int
 recs:List Rec
 b:List UInt8
structure ZsH (w:World) (b o:Nat) (x:SOp) (vk vr vb:Value):Prop where
 c0:w.cell? ⟨b,o,none⟩=some (.int .i64 x.kind)
 c1:w.cell? ⟨b,o+1,none⟩=some (.int .i64 x.many)
 c2:w.cell? ⟨b,o+2,none⟩=some (.int .i64 x.n)
 c3:w.cell? ⟨b,o+3,none⟩=some (.int .i64 x.op.code)
 c4:w.cell? ⟨b,o+4,none⟩=some (.int .i64 x.op.a)
 c5:w.cell? ⟨b,o+5,none⟩=some (.int .i64 x.op.b)
 c6:w.cell? ⟨b,o+6,none⟩=some vk
 c7:w.cell? ⟨b,o+7,none⟩=some vr
 c8:w.cell? ⟨b,o+8,none⟩=some vb
 rk:RdI w vk x.keep
 rr:RdR w vr x.recs
 rb:Rd w vb x.b
 i0:I64 x.kind
 i1:I64 x.many
 i2:I64 x.n
 io:ZAx x.op
theorem ZbQ {w w':World} {B:Nat} {a:Addr} {v:Value} (h:w.cell? a=some v) (c:Below B w w') (b:w.heap.size<=B):w'.cell? a=some v:=by
 have d:a.block<w.heap.size:=World.block_lt_of_cell? w a h;rw[c.cell (p:=a) (by exact Nat.lt_of_lt_of_le d b)]
 exact h
theorem ZsH.below {w w':World} {b o B:Nat} {x:SOp} {f d e:Value} (h:ZsH w b o x f d e) (c:Below B w w') (a:w.heap.size<=B):ZsH w' b o x f d e:=
 ⟨ZbQ h.c0 c a,ZbQ h.c1 c a,ZbQ h.c2 c a,ZbQ h.c3 c a,ZbQ h.c4 c a,ZbQ h.c5 c a,ZbQ h.c6 c a,ZbQ h.c7 c a,ZbQ h.c8 c a,h.rk.below c a,h.rr.below c a,h.rb.below c a,h.i0,h.i1,h.i2,h.io⟩
def RdS (w:World) (v:Value) (l:List SOp):Prop:=
 ∃ ao cap,v=.slice ao l.length cap∧l.length<=cap∧cap<=maxLen∧(ao=none->cap=0)∧
  ∀ j x,l[j]?=some x->∃ b off vk vr vb,ao=some ⟨b,off,none⟩∧ZsH w b (off+j*9) x vk vr vb
theorem RdS.below {w w':World} {v:Value} {l:List SOp} (h:RdS w v l) {B:Nat} (m:Below B w w') (p:w.heap.size<=B):RdS w' v l:=by
 obtain⟨ao,cap,c,q,g,u,n⟩:=h;refine⟨ao,cap,c,q,g,u,fun j x i=>?_⟩
 obtain⟨b,d,k,a,t,e,f⟩:=n j x i;exact⟨b,d,k,a,t,e,f.below m p⟩
theorem RdS.at {w:World} {ao:Option Addr} {n cap:Nat} {l:List SOp} (h:RdS w (.slice ao n cap) l) {i:Nat} (q:i<l.length):
 ∃ x b a k g m f j d,l[i]?=some x∧ao=some ⟨b,a,none⟩∧ZsH w b (a+i*9) x (.slice k x.keep.length g) (.slice m x.recs.length f) (.slice j x.b.length d):=by
 obtain⟨v,z,p,_,_,_,t⟩:=h;simp only [Value.slice.injEq] at p;obtain⟨rfl,_,rfl⟩:=p;obtain⟨b,a,y,u,A,e,c⟩:=t i _ (List.getElem?_eq_getElem q);obtain⟨k,g,rfl,-⟩:=id c.rk;obtain⟨m,f,rfl,-⟩:=id c.rr;obtain⟨j,d,rfl,-⟩:=id c.rb;exact⟨_,b,a,k,g,m,f,j,d,List.getElem?_eq_getElem q,e,c⟩
theorem ZlX:prog.cellsOf 55=9:=by kernel_rfl
theorem ZqM:prog.cellsOf 53=1:=by kernel_rfl
theorem ZsI:prog.cellsOf 29=1:=by kernel_rfl
theorem Zyj {H:Type} {enc:TypeId × Value->H} {w:World} {base fuel:Nat} {d:Bool} {cs:List Value} {x:DataW H × List MemPlace} (h:DataW.trod enc prog w base (fun _=>true) d fuel 53 cs=some x):∃ v l,cs=[v]∧Rd w v l:=by
 rcases open_ints underlying53 underlying5 (by kernel_rfl) h with ⟨a,_⟩ | ⟨y,l,c,j,a,_,g,e,i,_,b,f⟩
 ·exact⟨_,[],a,Rd.nil _⟩
 ·exact⟨_,_,a,Rd.ofRow g e (by simpa using i) b f⟩
theorem ZgL {H:Type} {enc:TypeId × Value->H} {w:World} {base fuel:Nat} {F:Bool} {cs:List Value} {x:DataW H × List MemPlace} (h:DataW.trod enc prog w base (fun _=>true) F fuel 55 cs=some x):
 ∃ (o:SOp) (e d f:Value),cs=[.int .i64 o.kind,.int .i64 o.many,.int .i64 o.n,.int .i64 o.op.code,.int .i64 o.op.a,.int .i64 o.op.b,e,d,f]∧RdI w e o.keep∧RdR w d o.recs∧Rd w f o.b∧I64 o.kind∧I64 o.many∧I64 o.n∧ZAx o.op:=by
 obtain⟨xs,n,_,_,z,L,c⟩:=DataW.trod_struct underlying55 h;rw[ZlX] at z
 match xs,L,cs,z with
 | [y0,y1,y2,y3,y4,y5,y6],_,[c0,c1,c2,c3,c4,c5,c6,c7,c8],_=>
  have k:=c 0 _ rfl;have v:=c 1 _ rfl;have q:=c 2 _ rfl;have j:=c 3 _ rfl;have l:=c 4 _ rfl;have m:=c 5 _ rfl;have u:=c 6 _ rfl;simp[ZkK,Zon,Zut,ZqM,ZsI] at k v q j l m u;obtain⟨I,t,_,D⟩:=DataW.trod_int underlying3 k;obtain⟨G,p,_,O⟩:=DataW.trod_int underlying3 v;obtain⟨C,y,_,N⟩:=DataW.trod_int underlying3 q;obtain⟨o,g,ok⟩:=ZhO j;obtain⟨e,E,B,Q⟩:=Ztn l;obtain⟨d,J,A,P⟩:=Zyi m;obtain⟨f,K,i,M⟩:=Zyj u;simp only [List.cons.injEq,and_true] at t p y g B A i;obtain⟨rfl,rfl,rfl⟩:=g;subst t p y B A i;exact⟨⟨I,G,C,o,E,J,K⟩,_,_,_,rfl,Q,P,M,ZbF D,ZbF O,ZbF N,ok⟩
theorem ZsJ {m:Nat} {p:Nat->SOp->Prop} (h:∀ i,i<m->∃ o,p i o):∃ L:List SOp,L.length=m∧∀ i x,L[i]?=some x->p i x:=by
 induction m with
 | zero=>exact⟨[],rfl,fun i x a=>by simp at a⟩
 | succ m c=>
  obtain⟨L,g,d⟩:=c fun i b=>h i (by omega)
  obtain⟨o,f⟩:=h m (by omega)
  refine⟨L++[o],by simp[g],fun i x a=>?_⟩
  rw[List.getElem?_append] at a;by_cases e:i<L.length
  ·rw[if_pos e] at a
   exact d i x a
  ·rw[if_neg e] at a
   have:i-L.length=0:=by
    have:=(List.getElem?_eq_some_iff.1 a).1;simp at this;omega
   rw[this] at a;simp only [List.getElem?_cons_zero,Option.some.injEq] at a;have b:i=m:=by omega
   rw[<-a,b];exact f
theorem Zyk {H:Type} {enc:TypeId × Value->H} {w:World} {base fuel:Nat} {O:Bool} {cs:List Value} {x:DataW H × List MemPlace} (h:DataW.trod enc prog w base (fun _=>true) O fuel 22 cs=some x):∃ v l,cs=[v]∧RdS w v l:=by
 rcases Go.Deep.open_slice underlying22 h with ⟨g,_⟩ | ⟨a,J,cap,m,n,D,Pl,rfl,hb,hl,K,R,_,I⟩
 ·exact⟨_,[],g,none,0,rfl,Nat.le_refl _,Nat.zero_le _,fun _=>rfl,(fun j x h=>by simp at h)⟩
 ·have U:m=cap:=by simpa using R
  subst U;by_cases Z:J=0
  ·subst Z
   exact⟨_,[],rfl,some a,m,rfl,Nat.zero_le _,K,(fun e=>by cases e),(fun j x h=>by simp at h)⟩
  obtain⟨b,u,spot⟩:=a
  have aa:spot=none:=by
   obtain⟨Q,f,E⟩:=I 0 (by omega)
   rw[ZlX] at f;obtain⟨_,N,c⟩:=World.cells?_some f;obtain⟨o,p,k,q,g,_⟩:=ZgL E;subst g;have d:=c 0 (by omega)
   rw[Go.Deep.add_add] at d;simpa[Addr.add] using World.cell?_spot d
  subst aa
  have V:∀ i,i<J->∃ o,∃ b' M p k q,some (⟨b,u,none⟩:Addr)=some (⟨b',M,none⟩:Addr)∧ZsH w b' (M+i*9) o p k q:=by
   intro i hi;obtain⟨Q,f,E⟩:=I i (by omega)
   rw[ZlX] at f;obtain⟨_,N,c⟩:=World.cells?_some f;obtain⟨o,p,k,q,g,ac,ab,X,S,T,W,P⟩:=ZgL E;subst g;have d:=c 0 (by omega)
   have F:=c 1 (by omega)
   have B:=c 2 (by omega)
   have C:=c 3 (by omega)
   have A:=c 4 (by omega)
   have t:=c 5 (by omega)
   have y:=c 6 (by omega)
   have z:=c 7 (by omega)
   have G:=c 8 (by omega)
   rw[Go.Deep.add_add] at d F B C A t y z G;rw[Addr.add_lit] at d F B C A t y z G;exact⟨o,b,u,p,k,q,rfl,by simpa using d,by simpa[Nat.add_assoc] using F,by simpa[Nat.add_assoc] using B,by simpa[Nat.add_assoc] using C,by simpa[Nat.add_assoc] using A,by simpa[Nat.add_assoc] using t,by simpa[Nat.add_assoc] using y,by simpa[Nat.add_assoc] using z,by simpa[Nat.add_assoc] using G,ac,ab,X,S,T,W,P⟩
  obtain⟨L,hL,Y⟩:=ZsJ V;exact⟨_,L,rfl,some ⟨b,u,none⟩,m,by rw[hL],by omega,K,(fun e=>by cases e),Y⟩
def FewS (l:List SOp):Prop:=l.length<=60∧∀ (j:Nat) x,l[j]?=some x->x.recs.length<=20∧x.b.length<=300∧x.keep.length<=100
set_option maxHeartbeats 2000000 in
theorem ZzX (v:Value) (l:List SOp) (w:World) (h:RdS w v l):
 Calls prog 8 #[v] w fun e w'=>∃ F:Bool,e=.returned (.bool F)∧(F=true->FewS l)∧w'=w:=by
 have H:=ZZ h;obtain⟨ao,cap,rfl,-⟩:=h;by_cases L:l.length<=60
 case neg=>
  have T:decide ((l.length:Int)>60)=true:=decide_eq_true (by omega)
  go_enter func8,ntmps8
  go_wp2;go_ret;exact⟨false,rfl,(fun e=>by cases e),rfl⟩
 go_enter func8,ntmps8
 go_wp2
 go_loopw[3] (fun f E=>∃ k:Nat,f=.int .i64 (k:Int)∧k<=l.length∧E=w∧Hid (∀ (j:Nat) x,j<k->l[j]?=some x->x.recs.length<=20∧x.b.length<=300∧x.keep.length<=100)) (fun f _=>l.length-(intOf f).toNat)
 case atStart=>exact⟨0,rfl,Nat.zero_le _,rfl,ZZ (fun j x u=>absurd u (Nat.not_lt_zero _))⟩
 case round=>
  obtain⟨k,rfl,P,rfl,q⟩:=hrel;by_cases C:k<l.length
  ·obtain⟨x,b,Q,W,U,Z,R,V,S,a,D,c⟩:=H.o.at C
   have N:=ZZ a;have I:=c.c6;have K:=c.c7;have J:=c.c8;subst D;obtain⟨t,p⟩:∃ n,n=x.recs.length:=⟨_,rfl⟩;obtain⟨z,g⟩:∃ n,n=x.b.length:=⟨_,rfl⟩;obtain⟨A,i⟩:∃ n,n=x.keep.length:=⟨_,rfl⟩;rw[<-p] at K;rw[<-g] at J;rw[<-i] at I;have d:=ZZ (And.intro p (And.intro g i));clear a c p g i;by_cases B:t<=20
   ·by_cases M:z<=300
    ·by_cases G:A<=100
     ·go_wp2
      go_roundw
      case rel=>
       refine⟨k+1,by go_num,by omega,by first | trivial | rfl,ZZ (fun j y u m=>?_)⟩
       by_cases e:j=k
       ·rw[e,N.o] at m
        obtain rfl:=Option.some.inj m;exact⟨by rw[<-d.o.1];exact B,by rw[<-d.o.2.1];exact M,by rw[<-d.o.2.2];exact G⟩
       ·exact q.o j y (by omega) m
      case measure=>simp[intOf];omega
     ·have O:decide ((A:Int)>100)=true:=decide_eq_true (by omega)
      go_wp2;go_ret;exact⟨false,rfl,(fun e=>by cases e),rfl⟩
    ·have X:decide ((z:Int)>300)=true:=decide_eq_true (by omega)
     go_wp2;go_ret;exact⟨false,rfl,(fun e=>by cases e),rfl⟩
   ·have Y:decide ((t:Int)>20)=true:=decide_eq_true (by omega)
    go_wp2;go_ret;exact⟨false,rfl,(fun e=>by cases e),rfl⟩
  ·go_wp2
   go_ret;exact⟨true,rfl,fun _=>⟨L,fun j x a=>q.o j x (by have:=(List.getElem?_eq_some_iff.1 a).1;omega) a⟩,rfl⟩
end Go.Proofs.YtnahjngbneicaaaGreatDoor
