import Derived.Test.YtnahjngbneicaaaGreatDoorOpenBlock
namespace Go.Proofs.YtnahjngbneicaaaGreatDoor
open _root_.Go.Proofs.Tryz
set_option maxRecDepth 100000
open Go.RowKit Go.ChangeShapes
variable {w w':World} {B base fuel:Nat} {v:Value} {cs:List Value}
structure SOp where
 kind:Int
 many:Int
 n:Int
 op:Opn
 keep:List Int
 recs:List Rec
 b:List UInt8
structure Zpr (w:World) (b o:Nat) (x:SOp) (vk vr vb:Value):Prop where
 c0:w.cell? ⟨b,o,none⟩=some (.int .i64 x.kind)
 c1:w.cell? ⟨b,o+1,none⟩=some (.int .i64 x.many)
 c2:w.cell? ⟨b,o+2,none⟩=some (.int .i64 x.n)
 c3:w.cell? ⟨b,o+3,none⟩=some (.int .i64 x.op.code)
 c4:w.cell? ⟨b,o+4,none⟩=some (.int .i64 x.op.a)
 c5:w.cell? ⟨b,o+5,none⟩=some (.int .i64 x.op.b)
 c6:w.cell? ⟨b,o+6,none⟩=some vk
 c7:w.cell? ⟨b,o+7,none⟩=some vr
 c8:w.cell? ⟨b,o+8,none⟩=some vb
 rk:RdI w vk x.keep
 rr:RdR w vr x.recs
 rb:Rd w vb x.b
 i0:I64 x.kind
 i1:I64 x.many
 i2:I64 x.n
 io:Zxh x.op
theorem Zp {a:Addr} (h:w.cell? a=some v) (b:Below B w w') (d:w.heap.size<=B):w'.cell? a=some v:=by
 have c:a.block<w.heap.size:=World.block_lt_of_cell? w a h;rw[b.cell (p:=a) (by exact Nat.lt_of_lt_of_le c d)]
 exact h
theorem Zpr.below {b o:Nat} {x:SOp} {d f e:Value} (h:Zpr w b o x d f e) (a:Below B w w') (c:w.heap.size<=B):Zpr w' b o x d f e:=
 ⟨Zp h.c0 a c,Zp h.c1 a c,Zp h.c2 a c,Zp h.c3 a c,Zp h.c4 a c,Zp h.c5 a c,Zp h.c6 a c,Zp h.c7 a c,Zp h.c8 a c,h.rk.below a c,h.rr.below a c,h.rb.below a c,h.i0,h.i1,h.i2,h.io⟩
def RdS (w:World) (v:Value) (l:List SOp):Prop:=
 ∃ ao cap,v=.slice ao l.length cap∧l.length<=cap∧cap<=maxLen∧(ao=none->cap=0)∧
  ∀ j x,l[j]?=some x->∃ b off vk vr vb,ao=some ⟨b,off,none⟩∧Zpr w b (off+j*9) x vk vr vb
theorem RdS.below {l:List SOp} (h:RdS w v l) {B:Nat} (a:Below B w w') (g:w.heap.size<=B):RdS w' v l:=by
 obtain⟨ao,cap,i,c,k,q,f⟩:=h;refine⟨ao,cap,i,c,k,q,fun j x d=>?_⟩
 obtain⟨b,n,t,p,m,e,u⟩:=f j x d;exact⟨b,n,t,p,m,e,u.below a g⟩
theorem RdS.at {ao:Option Addr} {n cap:Nat} {l:List SOp} (h:RdS w (.slice ao n cap) l) {i:Nat} (q:i<l.length):
 ∃ x b a d m f j g k,l[i]?=some x∧ao=some ⟨b,a,none⟩∧Zpr w b (a+i*9) x (.slice d x.keep.length m) (.slice f x.recs.length j) (.slice g x.b.length k):=by
 obtain⟨y,z,p,_,_,_,t⟩:=h;simp only [Value.slice.injEq] at p;obtain⟨rfl,_,rfl⟩:=p;obtain⟨b,a,A,v,u,e,c⟩:=t i _ (List.getElem?_eq_getElem q);obtain⟨d,m,rfl,-⟩:=id c.rk;obtain⟨f,j,rfl,-⟩:=id c.rr;obtain⟨g,k,rfl,-⟩:=id c.rb;exact⟨_,b,a,d,m,f,j,g,k,List.getElem?_eq_getElem q,e,c⟩
theorem ZiH:prog.cellsOf 55=9:=by kernel_rfl
theorem Znw:prog.cellsOf 53=1:=by kernel_rfl
theorem Zps:prog.cellsOf 29=1:=by kernel_rfl
theorem ZuT {H:Type} {enc:TypeId × Value->H} {i:Bool} {x:DataW H × List MemPlace} (h:DataW.trod enc prog w base (fun _=>true) i fuel 53 cs=some x):∃ v l,cs=[v]∧Rd w v l:=by
 rcases open_ints underlying53 underlying5 (by kernel_rfl) h with ⟨a,_⟩ | ⟨y,l,c,j,a,_,d,b,g,_,e,f⟩
 ·exact⟨_,[],a,Rd.nil _⟩
 ·exact⟨_,_,a,Rd.ofRow d b (by simpa using g) e f⟩
theorem Zdv {H:Type} {enc:TypeId × Value->H} {P:Bool} {x:DataW H × List MemPlace} (h:DataW.trod enc prog w base (fun _=>true) P fuel 55 cs=some x):
 ∃ (o:SOp) (f e d:Value),cs=[.int .i64 o.kind,.int .i64 o.many,.int .i64 o.n,.int .i64 o.op.code,.int .i64 o.op.a,.int .i64 o.op.b,f,e,d]∧RdI w f o.keep∧RdR w e o.recs∧Rd w d o.b∧I64 o.kind∧I64 o.many∧I64 o.n∧Zxh o.op:=by
 obtain⟨xs,n,_,_,p,L,c⟩:=DataW.trod_struct underlying55 h;rw[ZiH] at p
 match xs,L,cs,p with
 | [y0,y1,y2,y3,y4,y5,y6],_,[c0,c1,c2,c3,c4,c5,c6,c7,c8],_=>
  have v:=c 0 _ rfl;have g:=c 1 _ rfl;have t:=c 2 _ rfl;have i:=c 3 _ rfl;have B:=c 4 _ rfl;have m:=c 5 _ rfl;have y:=c 6 _ rfl;simp[Zhu,ZkX,Zrd,Znw,Zps] at v g t i B m y;obtain⟨O,j,_,M⟩:=DataW.trod_int underlying3 v;obtain⟨J,l,_,N⟩:=DataW.trod_int underlying3 g;obtain⟨F,k,_,E⟩:=DataW.trod_int underlying3 t;obtain⟨o,z,ok⟩:=Zey i;obtain⟨f,Q,q,D⟩:=ZpX B;obtain⟨e,I,u,K⟩:=ZuS m;obtain⟨d,G,A,C⟩:=ZuT y;simp only [List.cons.injEq,and_true] at j l k z q u A;obtain⟨rfl,rfl,rfl⟩:=z;subst j l k q u A;exact⟨⟨O,J,F,o,Q,I,G⟩,_,_,_,rfl,D,K,C,Zb M,Zb N,Zb E,ok⟩
theorem Zpt {m:Nat} {p:Nat->SOp->Prop} (h:∀ i,i<m->∃ o,p i o):∃ L:List SOp,L.length=m∧∀ i x,L[i]?=some x->p i x:=by
 induction m with
 | zero=>exact⟨[],rfl,fun i x a=>by simp at a⟩
 | succ m c=>
  obtain⟨L,d,g⟩:=c fun i b=>h i (by omega)
  obtain⟨o,f⟩:=h m (by omega)
  refine⟨L++[o],by simp[d],fun i x a=>?_⟩
  rw[List.getElem?_append] at a;by_cases e:i<L.length
  ·rw[if_pos e] at a
   exact g i x a
  ·rw[if_neg e] at a
   have:i-L.length=0:=by
    have:=(List.getElem?_eq_some_iff.1 a).1;simp at this;omega
   rw[this] at a;simp only [List.getElem?_cons_zero,Option.some.injEq] at a;have b:i=m:=by omega
   rw[<-a,b];exact f
theorem ZuU {H:Type} {enc:TypeId × Value->H} {Z:Bool} {x:DataW H × List MemPlace} (h:DataW.trod enc prog w base (fun _=>true) Z fuel 22 cs=some x):∃ v l,cs=[v]∧RdS w v l:=by
 rcases Go.Deep.open_slice underlying22 h with ⟨g,_⟩ | ⟨a,I,cap,m,n,D,Pl,rfl,hb,hl,K,Q,_,M⟩
 ·exact⟨_,[],g,none,0,rfl,Nat.le_refl _,Nat.zero_le _,fun _=>rfl,(fun j x h=>by simp at h)⟩
 ·have V:m=cap:=by simpa using Q
  subst V;by_cases Y:I=0
  ·subst Y
   exact⟨_,[],rfl,some a,m,rfl,Nat.zero_le _,K,(fun e=>by cases e),(fun j x h=>by simp at h)⟩
  obtain⟨b,C,spot⟩:=a
  have U:spot=none:=by
   obtain⟨P,f,t⟩:=M 0 (by omega)
   rw[ZiH] at f;obtain⟨_,aa,c⟩:=World.cells?_some f;obtain⟨o,q,p,k,g,_⟩:=Zdv t;subst g;have d:=c 0 (by omega)
   rw[Go.Deep.add_add] at d;simpa[Addr.add] using World.cell?_spot d
  subst U
  have R:∀ i,i<I->∃ o,∃ b' J q p k,some (⟨b,C,none⟩:Addr)=some (⟨b',J,none⟩:Addr)∧Zpr w b' (J+i*9) o q p k:=by
   intro i hi;obtain⟨P,f,t⟩:=M i (by omega)
   rw[ZiH] at f;obtain⟨_,aa,c⟩:=World.cells?_some f;obtain⟨o,q,p,k,g,O,W,N,i0,i1,i2,T⟩:=Zdv t;subst g;have d:=c 0 (by omega)
   have u:=c 1 (by omega)
   have E:=c 2 (by omega)
   have G:=c 3 (by omega)
   have y:=c 4 (by omega)
   have F:=c 5 (by omega)
   have B:=c 6 (by omega)
   have z:=c 7 (by omega)
   have A:=c 8 (by omega)
   rw[Go.Deep.add_add] at d u E G y F B z A;rw[Addr.add_lit] at d u E G y F B z A;exact⟨o,b,C,q,p,k,rfl,by simpa using d,by simpa[Nat.add_assoc] using u,by simpa[Nat.add_assoc] using E,by simpa[Nat.add_assoc] using G,by simpa[Nat.add_assoc] using y,by simpa[Nat.add_assoc] using F,by simpa[Nat.add_assoc] using B,by simpa[Nat.add_assoc] using z,by simpa[Nat.add_assoc] using A,O,W,N,i0,i1,i2,T⟩
  obtain⟨L,S,X⟩:=Zpt R;exact⟨_,L,rfl,some ⟨b,C,none⟩,m,by rw[S],by omega,K,(fun e=>by cases e),X⟩
def FewS (l:List SOp):Prop:=l.length<=60∧∀ (j:Nat) x,l[j]?=some x->x.recs.length<=20∧x.b.length<=300∧x.keep.length<=100
set_option maxHeartbeats 2000000 in
theorem ZwH (v:Value) (l:List SOp) (w:World) (h:RdS w v l):
 Calls prog 8 #[v] w fun e w'=>∃ F:Bool,e=.returned (.bool F)∧(F=true->FewS l)∧w'=w:=by
 have H:=ZZ h;obtain⟨ao,cap,rfl,-⟩:=h;by_cases J:l.length<=60
 case neg=>
  have U:decide ((l.length:Int)>60)=true:=decide_eq_true (by omega)
  go_enter func8,ntmps8
  go_wp2;go_ret;exact⟨false,rfl,(fun e=>by cases e),rfl⟩
 go_enter func8,ntmps8
 go_wp2
 go_loopw[3] (fun d wr=>∃ k:Nat,d=.int .i64 (k:Int)∧k<=l.length∧wr=w∧Hid (∀ (j:Nat) x,j<k->l[j]?=some x->x.recs.length<=20∧x.b.length<=300∧x.keep.length<=100)) (fun d _=>l.length-(intOf d).toNat)
 case atStart=>exact⟨0,rfl,Nat.zero_le _,rfl,ZZ (fun j x t=>absurd t (Nat.not_lt_zero _))⟩
 case round=>
  obtain⟨k,rfl,X,rfl,A⟩:=hrel;by_cases C:k<l.length
  ·obtain⟨x,b,V,P,Y,Q,S,R,W,a,L,c⟩:=H.out.at C
   have B:=ZZ a;have M:=c.c6;have E:=c.c7;have G:=c.c8;subst L;obtain⟨q,g⟩:∃ n,n=x.recs.length:=⟨_,rfl⟩;obtain⟨z,i⟩:∃ n,n=x.b.length:=⟨_,rfl⟩;obtain⟨u,p⟩:∃ n,n=x.keep.length:=⟨_,rfl⟩;rw[<-g] at E;rw[<-i] at G;rw[<-p] at M;have m:=ZZ (And.intro g (And.intro i p));clear a c g i p;by_cases I:q<=20
   ·by_cases D:z<=300
    ·by_cases K:u<=100
     ·go_wp2
      go_roundw
      case rel=>
       refine⟨k+1,by go_num,by omega,by first | trivial | rfl,ZZ (fun j y t f=>?_)⟩
       by_cases e:j=k
       ·rw[e,B.o] at f
        obtain rfl:=Option.some.inj f;exact⟨by rw[<-m.o.1];exact I,by rw[<-m.o.2.1];exact D,by rw[<-m.o.2.2];exact K⟩
       ·exact A.o j y (by omega) f
      case measure=>simp[intOf];omega
     ·have N:decide ((u:Int)>100)=true:=decide_eq_true (by omega)
      go_wp2;go_ret;exact⟨false,rfl,(fun e=>by cases e),rfl⟩
    ·have O:decide ((z:Int)>300)=true:=decide_eq_true (by omega)
     go_wp2;go_ret;exact⟨false,rfl,(fun e=>by cases e),rfl⟩
   ·have T:decide ((q:Int)>20)=true:=decide_eq_true (by omega)
    go_wp2;go_ret;exact⟨false,rfl,(fun e=>by cases e),rfl⟩
  ·go_wp2
   go_ret;exact⟨true,rfl,fun _=>⟨J,fun j x a=>A.o j x (by have:=(List.getElem?_eq_some_iff.1 a).1;omega) a⟩,rfl⟩
end Go.Proofs.YtnahjngbneicaaaGreatDoor
