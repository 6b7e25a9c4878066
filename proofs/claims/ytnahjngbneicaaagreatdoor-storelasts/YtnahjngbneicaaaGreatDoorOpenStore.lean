import Derived.Test.YtnahjngbneicaaaGreatDoorOpenBlock
namespace Go.Proofs.YtnahjngbneicaaaGreatDoor
open _root_.Go.Proofs.Tryz
set_option maxRecDepth 100000
open Go.RowKit Go.ChangeShapes
variable {w w':World} {B base fuel:Nat} {v:Value} {cs:List Value}
structure SOp where
 kind:Int
 many:Int
 n:Int
 op:Opn
 keep:List Int
 recs:List Rec
 b:List UInt8
structure Zql (w:World) (b o:Nat) (x:SOp) (vk vr vb:Value):Prop where
 c0:w.cell? ⟨b,o,none⟩=some (.int .i64 x.kind)
 c1:w.cell? ⟨b,o+1,none⟩=some (.int .i64 x.many)
 c2:w.cell? ⟨b,o+2,none⟩=some (.int .i64 x.n)
 c3:w.cell? ⟨b,o+3,none⟩=some (.int .i64 x.op.code)
 c4:w.cell? ⟨b,o+4,none⟩=some (.int .i64 x.op.a)
 c5:w.cell? ⟨b,o+5,none⟩=some (.int .i64 x.op.b)
 c6:w.cell? ⟨b,o+6,none⟩=some vk
 c7:w.cell? ⟨b,o+7,none⟩=some vr
 c8:w.cell? ⟨b,o+8,none⟩=some vb
 rk:RdI w vk x.keep
 rr:RdR w vr x.recs
 rb:Rd w vb x.b
 i0:I64 x.kind
 i1:I64 x.many
 i2:I64 x.n
 io:Zyw x.op
theorem Jh {a:Addr} (h:w.cell? a=some v) (d:Below B w w') (c:w.heap.size<=B):w'.cell? a=some v:=by
 have b:a.block<w.heap.size:=World.block_lt_of_cell? w a h;rw[d.cell (p:=a) (by exact Nat.lt_of_lt_of_le b c)]
 exact h
theorem Zql.below {b o:Nat} {x:SOp} {f d e:Value} (h:Zql w b o x f d e) (c:Below B w w') (a:w.heap.size<=B):Zql w' b o x f d e:=
 ⟨Jh h.c0 c a,Jh h.c1 c a,Jh h.c2 c a,Jh h.c3 c a,Jh h.c4 c a,Jh h.c5 c a,Jh h.c6 c a,Jh h.c7 c a,Jh h.c8 c a,h.rk.below c a,h.rr.below c a,h.rb.below c a,h.i0,h.i1,h.i2,h.io⟩
def RdS (w:World) (v:Value) (l:List SOp):Prop:=
 ∃ ao cap,v=.slice ao l.length cap∧l.length<=cap∧cap<=maxLen∧(ao=none->cap=0)∧
  ∀ j x,l[j]?=some x->∃ b off vk vr vb,ao=some ⟨b,off,none⟩∧Zql w b (off+j*9) x vk vr vb
theorem RdS.below {l:List SOp} (h:RdS w v l) {B:Nat} (n:Below B w w') (i:w.heap.size<=B):RdS w' v l:=by
 obtain⟨ao,cap,q,c,d,g,u⟩:=h;refine⟨ao,cap,q,c,d,g,fun j x p=>?_⟩
 obtain⟨b,m,k,a,f,e,t⟩:=u j x p;exact⟨b,m,k,a,f,e,t.below n i⟩
theorem RdS.at {ao:Option Addr} {n cap:Nat} {l:List SOp} (h:RdS w (.slice ao n cap) l) {i:Nat} (p:i<l.length):
 ∃ x b a j f k m g d,l[i]?=some x∧ao=some ⟨b,a,none⟩∧Zql w b (a+i*9) x (.slice j x.keep.length f) (.slice k x.recs.length m) (.slice g x.b.length d):=by
 obtain⟨A,v,q,_,_,_,t⟩:=h;simp only [Value.slice.injEq] at q;obtain⟨rfl,_,rfl⟩:=q;obtain⟨b,a,z,u,y,e,c⟩:=t i _ (List.getElem?_eq_getElem p);obtain⟨j,f,rfl,-⟩:=id c.rk;obtain⟨k,m,rfl,-⟩:=id c.rr;obtain⟨g,d,rfl,-⟩:=id c.rb;exact⟨_,b,a,j,f,k,m,g,d,List.getElem?_eq_getElem p,e,c⟩
theorem Zjh:prog.cellsOf 55=9:=by kernel_rfl
theorem Zoj:prog.cellsOf 53=1:=by kernel_rfl
theorem Zqm:prog.cellsOf 29=1:=by kernel_rfl
theorem ZvW {H:Type} {enc:TypeId × Value->H} {e:Bool} {x:DataW H × List MemPlace} (h:DataW.trod enc prog w base (fun _=>true) e fuel 53 cs=some x):∃ v l,cs=[v]∧Rd w v l:=by
 rcases open_ints underlying53 underlying5 (by kernel_rfl) h with ⟨a,_⟩ | ⟨y,l,c,j,a,_,b,d,i,_,g,f⟩
 ·exact⟨_,[],a,Rd.nil _⟩
 ·exact⟨_,_,a,Rd.ofRow b d (by simpa using i) g f⟩
theorem Zdz {H:Type} {enc:TypeId × Value->H} {E:Bool} {x:DataW H × List MemPlace} (h:DataW.trod enc prog w base (fun _=>true) E fuel 55 cs=some x):
 ∃ (o:SOp) (f d e:Value),cs=[.int .i64 o.kind,.int .i64 o.many,.int .i64 o.n,.int .i64 o.op.code,.int .i64 o.op.a,.int .i64 o.op.b,f,d,e]∧RdI w f o.keep∧RdR w d o.recs∧Rd w e o.b∧I64 o.kind∧I64 o.many∧I64 o.n∧Zyw o.op:=by
 obtain⟨xs,n,_,_,i,O,c⟩:=DataW.trod_struct underlying55 h;rw[Zjh] at i
 match xs,O,cs,i with
 | [y0,y1,y2,y3,y4,y5,y6],_,[c0,c1,c2,c3,c4,c5,c6,c7,c8],_=>
  have g:=c 0 _ rfl;have B:=c 1 _ rfl;have y:=c 2 _ rfl;have p:=c 3 _ rfl;have q:=c 4 _ rfl;have j:=c 5 _ rfl;have l:=c 6 _ rfl;simp[ZhT,ZlI,Zsa,Zoj,Zqm] at g B y p q j l;obtain⟨Q,v,_,N⟩:=DataW.trod_int underlying3 g;obtain⟨I,m,_,M⟩:=DataW.trod_int underlying3 B;obtain⟨F,z,_,G⟩:=DataW.trod_int underlying3 y;obtain⟨o,A,ok⟩:=ZeI p;obtain⟨f,L,t,K⟩:=ZqO q;obtain⟨d,P,k,D⟩:=ZvV j;obtain⟨e,J,u,C⟩:=ZvW l;simp only [List.cons.injEq,and_true] at v m z A t k u;obtain⟨rfl,rfl,rfl⟩:=A;subst v m z t k u;exact⟨⟨Q,I,F,o,L,P,J⟩,_,_,_,rfl,K,D,C,Z1 N,Z1 M,Z1 G,ok⟩
theorem Zqn {m:Nat} {p:Nat->SOp->Prop} (h:∀ i,i<m->∃ o,p i o):∃ L:List SOp,L.length=m∧∀ i x,L[i]?=some x->p i x:=by
 induction m with
 | zero=>exact⟨[],rfl,fun i x a=>by simp at a⟩
 | succ m d=>
  obtain⟨L,c,f⟩:=d fun i b=>h i (by omega)
  obtain⟨o,g⟩:=h m (by omega)
  refine⟨L++[o],by simp[c],fun i x a=>?_⟩
  rw[List.getElem?_append] at a;by_cases e:i<L.length
  ·rw[if_pos e] at a
   exact f i x a
  ·rw[if_neg e] at a
   have:i-L.length=0:=by
    have:=(List.getElem?_eq_some_iff.1 a).1;simp at this;omega
   rw[this] at a;simp only [List.getElem?_cons_zero,Option.some.injEq] at a;have b:i=m:=by omega
   rw[<-a,b];exact g
theorem ZvX {H:Type} {enc:TypeId × Value->H} {R:Bool} {x:DataW H × List MemPlace} (h:DataW.trod enc prog w base (fun _=>true) R fuel 22 cs=some x):∃ v l,cs=[v]∧RdS w v l:=by
 rcases Go.Deep.open_slice underlying22 h with ⟨f,_⟩ | ⟨a,M,cap,m,n,D,Pl,rfl,hb,hl,J,ab,_,I⟩
 ·exact⟨_,[],f,none,0,rfl,Nat.le_refl _,Nat.zero_le _,fun _=>rfl,(fun j x h=>by simp at h)⟩
 ·have V:m=cap:=by simpa using ab
  subst V;by_cases hz:M=0
  ·subst hz
   exact⟨_,[],rfl,some a,m,rfl,Nat.zero_le _,J,(fun e=>by cases e),(fun j x h=>by simp at h)⟩
  obtain⟨b,F,spot⟩:=a
  have X:spot=none:=by
   obtain⟨U,g,y⟩:=I 0 (by omega)
   rw[Zjh] at g;obtain⟨_,Y,c⟩:=World.cells?_some g;obtain⟨o,q,k,p,f,_⟩:=Zdz y;subst f;have d:=c 0 (by omega)
   rw[Go.Deep.add_add] at d;simpa[Addr.add] using World.cell?_spot d
  subst X
  have T:∀ i,i<M->∃ o,∃ b' K q k p,some (⟨b,F,none⟩:Addr)=some (⟨b',K,none⟩:Addr)∧Zql w b' (K+i*9) o q k p:=by
   intro i hi;obtain⟨U,g,y⟩:=I i (by omega)
   rw[Zjh] at g;obtain⟨_,Y,c⟩:=World.cells?_some g;obtain⟨o,q,k,p,f,aa,Q,N,O,Z,S,W⟩:=Zdz y;subst f;have d:=c 0 (by omega)
   have G:=c 1 (by omega)
   have E:=c 2 (by omega)
   have u:=c 3 (by omega)
   have C:=c 4 (by omega)
   have A:=c 5 (by omega)
   have t:=c 6 (by omega)
   have z:=c 7 (by omega)
   have B:=c 8 (by omega)
   rw[Go.Deep.add_add] at d G E u C A t z B;rw[Addr.add_lit] at d G E u C A t z B;exact⟨o,b,F,q,k,p,rfl,by simpa using d,by simpa[Nat.add_assoc] using G,by simpa[Nat.add_assoc] using E,by simpa[Nat.add_assoc] using u,by simpa[Nat.add_assoc] using C,by simpa[Nat.add_assoc] using A,by simpa[Nat.add_assoc] using t,by simpa[Nat.add_assoc] using z,by simpa[Nat.add_assoc] using B,aa,Q,N,O,Z,S,W⟩
  obtain⟨L,P,hp⟩:=Zqn T;exact⟨_,L,rfl,some ⟨b,F,none⟩,m,by rw[P],by omega,J,(fun e=>by cases e),hp⟩
def FewS (l:List SOp):Prop:=l.length<=60∧∀ (j:Nat) x,l[j]?=some x->x.recs.length<=20∧x.b.length<=300∧x.keep.length<=100
set_option maxHeartbeats 2000000 in
theorem ZxN (v:Value) (l:List SOp) (w:World) (h:RdS w v l):
 Calls prog 8 #[v] w fun e w'=>∃ F:Bool,e=.returned (.bool F)∧(F=true->FewS l)∧w'=w:=by
 have H:=ZZ h;obtain⟨ao,cap,rfl,-⟩:=h;by_cases B:l.length<=60
 case neg=>
  have S:decide ((l.length:Int)>60)=true:=decide_eq_true (by omega)
  go_enter func8,ntmps8
  go_wp2;go_ret;exact⟨false,rfl,(fun e=>by cases e),rfl⟩
 go_enter func8,ntmps8
 go_wp2
 go_loopw[3] (fun f wr=>∃ k:Nat,f=.int .i64 (k:Int)∧k<=l.length∧wr=w∧Hid (∀ (j:Nat) x,j<k->l[j]?=some x->x.recs.length<=20∧x.b.length<=300∧x.keep.length<=100)) (fun f _=>l.length-(intOf f).toNat)
 case atStart=>exact⟨0,rfl,Nat.zero_le _,rfl,ZZ (fun j x A=>absurd A (Nat.not_lt_zero _))⟩
 case round=>
  obtain⟨k,rfl,U,rfl,u⟩:=hrel;by_cases K:k<l.length
  ·obtain⟨x,b,T,R,P,V,X,Q,N,a,E,c⟩:=H.out.at K
   have L:=ZZ a;have G:=c.c6;have J:=c.c7;have I:=c.c8;subst E;obtain⟨t,i⟩:∃ n,n=x.recs.length:=⟨_,rfl⟩;obtain⟨z,g⟩:∃ n,n=x.b.length:=⟨_,rfl⟩;obtain⟨q,m⟩:∃ n,n=x.keep.length:=⟨_,rfl⟩;rw[<-i] at J;rw[<-g] at I;rw[<-m] at G;have p:=ZZ (And.intro i (And.intro g m));clear a c i g m;by_cases M:t<=20
   ·by_cases C:z<=300
    ·by_cases D:q<=100
     ·go_wp2
      go_roundw
      case rel=>
       refine⟨k+1,by go_num,by omega,by first | trivial | rfl,ZZ (fun j y A d=>?_)⟩
       by_cases e:j=k
       ·rw[e,L.o] at d
        obtain rfl:=Option.some.inj d;exact⟨by rw[<-p.o.1];exact M,by rw[<-p.o.2.1];exact C,by rw[<-p.o.2.2];exact D⟩
       ·exact u.o j y (by omega) d
      case measure=>simp[intOf];omega
     ·have Y:decide ((q:Int)>100)=true:=decide_eq_true (by omega)
      go_wp2;go_ret;exact⟨false,rfl,(fun e=>by cases e),rfl⟩
    ·have O:decide ((z:Int)>300)=true:=decide_eq_true (by omega)
     go_wp2;go_ret;exact⟨false,rfl,(fun e=>by cases e),rfl⟩
   ·have W:decide ((t:Int)>20)=true:=decide_eq_true (by omega)
    go_wp2;go_ret;exact⟨false,rfl,(fun e=>by cases e),rfl⟩
  ·go_wp2
   go_ret;exact⟨true,rfl,fun _=>⟨B,fun j x a=>u.o j x (by have:=(List.getElem?_eq_some_iff.1 a).1;omega) a⟩,rfl⟩
end Go.Proofs.YtnahjngbneicaaaGreatDoor
