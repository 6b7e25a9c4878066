import Derived.Test.YtnahjngbneicaaaGreatDoorOpenBlock
namespace Go.Proofs.YtnahjngbneicaaaGreatDoor
open _root_.Go.Proofs.Tryz
set_option maxRecDepth 100000
open Go.RowKit Go.ChangeShapes
variable {w w':World} {B base fuel:Nat} {v:Value} {cs:List Value}
structure SOp where
 kind:Int
 many:Int
 n:Int
 op:Opn
 keep:List Int
 recs:List Rec
 b:List UInt8
structure ZsH (w:World) (b o:Nat) (x:SOp) (vk vr vb:Value):Prop where
 c0:w.cell? ⟨b,o,none⟩=some (.int .i64 x.kind)
 c1:w.cell? ⟨b,o+1,none⟩=some (.int .i64 x.many)
 c2:w.cell? ⟨b,o+2,none⟩=some (.int .i64 x.n)
 c3:w.cell? ⟨b,o+3,none⟩=some (.int .i64 x.op.code)
 c4:w.cell? ⟨b,o+4,none⟩=some (.int .i64 x.op.a)
 c5:w.cell? ⟨b,o+5,none⟩=some (.int .i64 x.op.b)
 c6:w.cell? ⟨b,o+6,none⟩=some vk
 c7:w.cell? ⟨b,o+7,none⟩=some vr
 c8:w.cell? ⟨b,o+8,none⟩=some vb
 rk:RdI w vk x.keep
 rr:RdR w vr x.recs
 rb:Rd w vb x.b
 i0:I64 x.kind
 i1:I64 x.many
 i2:I64 x.n
 io:ZAx x.op
theorem ZbQ {a:Addr} (h:w.cell? a=some v) (d:Below B w w') (b:w.heap.size<=B):w'.cell? a=some v:=by
 have c:a.block<w.heap.size:=World.block_lt_of_cell? w a h;rw[d.cell (p:=a) (by exact Nat.lt_of_lt_of_le c b)]
 exact h
theorem ZsH.below {b o:Nat} {x:SOp} {f d e:Value} (h:ZsH w b o x f d e) (a:Below B w w') (c:w.heap.size<=B):ZsH w' b o x f d e:=
 ⟨ZbQ h.c0 a c,ZbQ h.c1 a c,ZbQ h.c2 a c,ZbQ h.c3 a c,ZbQ h.c4 a c,ZbQ h.c5 a c,ZbQ h.c6 a c,ZbQ h.c7 a c,ZbQ h.c8 a c,h.rk.below a c,h.rr.below a c,h.rb.below a c,h.i0,h.i1,h.i2,h.io⟩
def RdS (w:World) (v:Value) (l:List SOp):Prop:=
 ∃ ao cap,v=.slice ao l.length cap∧l.length<=cap∧cap<=maxLen∧(ao=none->cap=0)∧
  ∀ j x,l[j]?=some x->∃ b off vk vr vb,ao=some ⟨b,off,none⟩∧ZsH w b (off+j*9) x vk vr vb
theorem RdS.below {l:List SOp} (h:RdS w v l) {B:Nat} (m:Below B w w') (c:w.heap.size<=B):RdS w' v l:=by
 obtain⟨ao,cap,u,n,g,d,t⟩:=h;refine⟨ao,cap,u,n,g,d,fun j x a=>?_⟩
 obtain⟨b,i,p,k,f,e,q⟩:=t j x a;exact⟨b,i,p,k,f,e,q.below m c⟩
theorem RdS.at {ao:Option Addr} {n cap:Nat} {l:List SOp} (h:RdS w (.slice ao n cap) l) {i:Nat} (q:i<l.length):
 ∃ x b a f d g j m k,l[i]?=some x∧ao=some ⟨b,a,none⟩∧ZsH w b (a+i*9) x (.slice f x.keep.length d) (.slice g x.recs.length j) (.slice m x.b.length k):=by
 obtain⟨A,v,p,_,_,_,t⟩:=h;simp only [Value.slice.injEq] at p;obtain⟨rfl,_,rfl⟩:=p;obtain⟨b,a,z,y,u,e,c⟩:=t i _ (List.getElem?_eq_getElem q);obtain⟨f,d,rfl,-⟩:=id c.rk;obtain⟨g,j,rfl,-⟩:=id c.rr;obtain⟨m,k,rfl,-⟩:=id c.rb;exact⟨_,b,a,f,d,g,j,m,k,List.getElem?_eq_getElem q,e,c⟩
theorem ZlX:prog.cellsOf 55=9:=by kernel_rfl
theorem ZqM:prog.cellsOf 53=1:=by kernel_rfl
theorem ZsI:prog.cellsOf 29=1:=by kernel_rfl
theorem Zyj {H:Type} {enc:TypeId × Value->H} {b:Bool} {x:DataW H × List MemPlace} (h:DataW.trod enc prog w base (fun _=>true) b fuel 53 cs=some x):∃ v l,cs=[v]∧Rd w v l:=by
 rcases open_ints underlying53 underlying5 (by kernel_rfl) h with ⟨a,_⟩ | ⟨y,l,c,j,a,_,g,f,d,_,e,i⟩
 ·exact⟨_,[],a,Rd.nil _⟩
 ·exact⟨_,_,a,Rd.ofRow g f (by simpa using d) e i⟩
theorem ZgL {H:Type} {enc:TypeId × Value->H} {D:Bool} {x:DataW H × List MemPlace} (h:DataW.trod enc prog w base (fun _=>true) D fuel 55 cs=some x):
 ∃ (o:SOp) (f e d:Value),cs=[.int .i64 o.kind,.int .i64 o.many,.int .i64 o.n,.int .i64 o.op.code,.int .i64 o.op.a,.int .i64 o.op.b,f,e,d]∧RdI w f o.keep∧RdR w e o.recs∧Rd w d o.b∧I64 o.kind∧I64 o.many∧I64 o.n∧ZAx o.op:=by
 obtain⟨xs,n,_,_,z,C,c⟩:=DataW.trod_struct underlying55 h;rw[ZlX] at z
 match xs,C,cs,z with
 | [y0,y1,y2,y3,y4,y5,y6],_,[c0,c1,c2,c3,c4,c5,c6,c7,c8],_=>
  have k:=c 0 _ rfl;have l:=c 1 _ rfl;have t:=c 2 _ rfl;have y:=c 3 _ rfl;have u:=c 4 _ rfl;have p:=c 5 _ rfl;have q:=c 6 _ rfl;simp[ZkK,Zon,Zut,ZqM,ZsI] at k l t y u p q;obtain⟨L,m,_,Q⟩:=DataW.trod_int underlying3 k;obtain⟨K,i,_,N⟩:=DataW.trod_int underlying3 l;obtain⟨I,v,_,M⟩:=DataW.trod_int underlying3 t;obtain⟨o,A,ok⟩:=ZhO y;obtain⟨f,J,B,O⟩:=Ztn u;obtain⟨e,P,g,F⟩:=Zyi p;obtain⟨d,G,j,E⟩:=Zyj q;simp only [List.cons.injEq,and_true] at m i v A B g j;obtain⟨rfl,rfl,rfl⟩:=A;subst m i v B g j;exact⟨⟨L,K,I,o,J,P,G⟩,_,_,_,rfl,O,F,E,ZbF Q,ZbF N,ZbF M,ok⟩
theorem ZsJ {m:Nat} {p:Nat->SOp->Prop} (h:∀ i,i<m->∃ o,p i o):∃ L:List SOp,L.length=m∧∀ i x,L[i]?=some x->p i x:=by
 induction m with
 | zero=>exact⟨[],rfl,fun i x a=>by simp at a⟩
 | succ m g=>
  obtain⟨L,f,c⟩:=g fun i b=>h i (by omega)
  obtain⟨o,d⟩:=h m (by omega)
  refine⟨L++[o],by simp[f],fun i x a=>?_⟩
  rw[List.getElem?_append] at a;by_cases e:i<L.length
  ·rw[if_pos e] at a
   exact c i x a
  ·rw[if_neg e] at a
   have:i-L.length=0:=by
    have:=(List.getElem?_eq_some_iff.1 a).1;simp at this;omega
   rw[this] at a;simp only [List.getElem?_cons_zero,Option.some.injEq] at a;have b:i=m:=by omega
   rw[<-a,b];exact d
theorem Zyk {H:Type} {enc:TypeId × Value->H} {P:Bool} {x:DataW H × List MemPlace} (h:DataW.trod enc prog w base (fun _=>true) P fuel 22 cs=some x):∃ v l,cs=[v]∧RdS w v l:=by
 rcases Go.Deep.open_slice underlying22 h with ⟨f,_⟩ | ⟨a,M,cap,m,n,D,Pl,rfl,hb,hl,K,O,_,J⟩
 ·exact⟨_,[],f,none,0,rfl,Nat.le_refl _,Nat.zero_le _,fun _=>rfl,(fun j x h=>by simp at h)⟩
 ·have aa:m=cap:=by simpa using O
  subst aa;by_cases S:M=0
  ·subst S
   exact⟨_,[],rfl,some a,m,rfl,Nat.zero_le _,K,(fun e=>by cases e),(fun j x h=>by simp at h)⟩
  obtain⟨b,u,spot⟩:=a
  have V:spot=none:=by
   obtain⟨X,g,y⟩:=J 0 (by omega)
   rw[ZlX] at g;obtain⟨_,T,c⟩:=World.cells?_some g;obtain⟨o,q,p,k,f,_⟩:=ZgL y;subst f;have d:=c 0 (by omega)
   rw[Go.Deep.add_add] at d;simpa[Addr.add] using World.cell?_spot d
  subst V
  have Y:∀ i,i<M->∃ o,∃ b' I q p k,some (⟨b,u,none⟩:Addr)=some (⟨b',I,none⟩:Addr)∧ZsH w b' (I+i*9) o q p k:=by
   intro i hi;obtain⟨X,g,y⟩:=J i (by omega)
   rw[ZlX] at g;obtain⟨_,T,c⟩:=World.cells?_some g;obtain⟨o,q,p,k,f,ab,R,Q,Z,i1,W,U⟩:=ZgL y;subst f;have d:=c 0 (by omega)
   have A:=c 1 (by omega)
   have C:=c 2 (by omega)
   have t:=c 3 (by omega)
   have F:=c 4 (by omega)
   have E:=c 5 (by omega)
   have G:=c 6 (by omega)
   have B:=c 7 (by omega)
   have z:=c 8 (by omega)
   rw[Go.Deep.add_add] at d A C t F E G B z;rw[Addr.add_lit] at d A C t F E G B z;exact⟨o,b,u,q,p,k,rfl,by simpa using d,by simpa[Nat.add_assoc] using A,by simpa[Nat.add_assoc] using C,by simpa[Nat.add_assoc] using t,by simpa[Nat.add_assoc] using F,by simpa[Nat.add_assoc] using E,by simpa[Nat.add_assoc] using G,by simpa[Nat.add_assoc] using B,by simpa[Nat.add_assoc] using z,ab,R,Q,Z,i1,W,U⟩
  obtain⟨L,N,hp⟩:=ZsJ Y;exact⟨_,L,rfl,some ⟨b,u,none⟩,m,by rw[N],by omega,K,(fun e=>by cases e),hp⟩
def FewS (l:List SOp):Prop:=l.length<=60∧∀ (j:Nat) x,l[j]?=some x->x.recs.length<=20∧x.b.length<=300∧x.keep.length<=100
set_option maxHeartbeats 2000000 in
theorem ZzX (v:Value) (l:List SOp) (w:World) (h:RdS w v l):
 Calls prog 8 #[v] w fun e w'=>∃ F:Bool,e=.returned (.bool F)∧(F=true->FewS l)∧w'=w:=by
 have H:=ZZ h;obtain⟨ao,cap,rfl,-⟩:=h;by_cases L:l.length<=60
 case neg=>
  have O:decide ((l.length:Int)>60)=true:=decide_eq_true (by omega)
  go_enter func8,ntmps8
  go_wp2;go_ret;exact⟨false,rfl,(fun e=>by cases e),rfl⟩
 go_enter func8,ntmps8
 go_wp2
 go_loopw[3] (fun d wr=>∃ k:Nat,d=.int .i64 (k:Int)∧k<=l.length∧wr=w∧Hid (∀ (j:Nat) x,j<k->l[j]?=some x->x.recs.length<=20∧x.b.length<=300∧x.keep.length<=100)) (fun d _=>l.length-(intOf d).toNat)
 case atStart=>exact⟨0,rfl,Nat.zero_le _,rfl,ZZ (fun j x q=>absurd q (Nat.not_lt_zero _))⟩
 case round=>
  obtain⟨k,rfl,N,rfl,u⟩:=hrel;by_cases B:k<l.length
  ·obtain⟨x,b,U,R,S,T,V,X,W,a,D,c⟩:=H.out.at B
   have E:=ZZ a;have G:=c.c6;have K:=c.c7;have I:=c.c8;subst D;obtain⟨z,g⟩:∃ n,n=x.recs.length:=⟨_,rfl⟩;obtain⟨A,i⟩:∃ n,n=x.b.length:=⟨_,rfl⟩;obtain⟨t,p⟩:∃ n,n=x.keep.length:=⟨_,rfl⟩;rw[<-g] at K;rw[<-i] at I;rw[<-p] at G;have f:=ZZ (And.intro g (And.intro i p));clear a c g i p;by_cases M:z<=20
   ·by_cases J:A<=300
    ·by_cases C:t<=100
     ·go_wp2
      go_roundw
      case rel=>
       refine⟨k+1,by go_num,by omega,by first | trivial | rfl,ZZ (fun j y q m=>?_)⟩
       by_cases e:j=k
       ·rw[e,E.o] at m
        obtain rfl:=Option.some.inj m;exact⟨by rw[<-f.o.1];exact M,by rw[<-f.o.2.1];exact J,by rw[<-f.o.2.2];exact C⟩
       ·exact u.o j y (by omega) m
      case measure=>simp[intOf];omega
     ·have Q:decide ((t:Int)>100)=true:=decide_eq_true (by omega)
      go_wp2;go_ret;exact⟨false,rfl,(fun e=>by cases e),rfl⟩
    ·have P:decide ((A:Int)>300)=true:=decide_eq_true (by omega)
     go_wp2;go_ret;exact⟨false,rfl,(fun e=>by cases e),rfl⟩
   ·have Y:decide ((z:Int)>20)=true:=decide_eq_true (by omega)
    go_wp2;go_ret;exact⟨false,rfl,(fun e=>by cases e),rfl⟩
  ·go_wp2
   go_ret;exact⟨true,rfl,fun _=>⟨L,fun j x a=>u.o j x (by have:=(List.getElem?_eq_some_iff.1 a).1;omega) a⟩,rfl⟩
end Go.Proofs.YtnahjngbneicaaaGreatDoor
