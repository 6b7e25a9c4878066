import Derived.Test.YtnahjngbneicaaaGreatDoorOpenBlock
namespace Go.Proofs.YtnahjngbneicaaaGreatDoor
open _root_.Go.Proofs.Tryz
set_option maxRecDepth 100000
open Go.RowKit Go.ChangeShapes
variable {w w':World} {B base fuel:Nat} {v:Value} {cs:List Value}
structure SOp where
 kind:Int
 many:Int
 n:Int
 op:Opn
 keep:List Int
 recs:List Rec
 b:List UInt8
structure Zql (w:World) (b o:Nat) (x:SOp) (vk vr vb:Value):Prop where
 c0:w.cell? ⟨b,o,none⟩=some (.int .i64 x.kind)
 c1:w.cell? ⟨b,o+1,none⟩=some (.int .i64 x.many)
 c2:w.cell? ⟨b,o+2,none⟩=some (.int .i64 x.n)
 c3:w.cell? ⟨b,o+3,none⟩=some (.int .i64 x.op.code)
 c4:w.cell? ⟨b,o+4,none⟩=some (.int .i64 x.op.a)
 c5:w.cell? ⟨b,o+5,none⟩=some (.int .i64 x.op.b)
 c6:w.cell? ⟨b,o+6,none⟩=some vk
 c7:w.cell? ⟨b,o+7,none⟩=some vr
 c8:w.cell? ⟨b,o+8,none⟩=some vb
 rk:RdI w vk x.keep
 rr:RdR w vr x.recs
 rb:Rd w vb x.b
 i0:I64 x.kind
 i1:I64 x.many
 i2:I64 x.n
 io:Zyw x.op
theorem Jh {a:Addr} (h:w.cell? a=some v) (b:Below B w w') (d:w.heap.size<=B):w'.cell? a=some v:=by
 have c:a.block<w.heap.size:=World.block_lt_of_cell? w a h;rw[b.cell (p:=a) (by exact Nat.lt_of_lt_of_le c d)]
 exact h
theorem Zql.below {b o:Nat} {x:SOp} {f d e:Value} (h:Zql w b o x f d e) (a:Below B w w') (c:w.heap.size<=B):Zql w' b o x f d e:=
 ⟨Jh h.c0 a c,Jh h.c1 a c,Jh h.c2 a c,Jh h.c3 a c,Jh h.c4 a c,Jh h.c5 a c,Jh h.c6 a c,Jh h.c7 a c,Jh h.c8 a c,h.rk.below a c,h.rr.below a c,h.rb.below a c,h.i0,h.i1,h.i2,h.io⟩
def RdS (w:World) (v:Value) (l:List SOp):Prop:=
 ∃ ao cap,v=.slice ao l.length cap∧l.length<=cap∧cap<=maxLen∧(ao=none->cap=0)∧
  ∀ j x,l[j]?=some x->∃ b off vk vr vb,ao=some ⟨b,off,none⟩∧Zql w b (off+j*9) x vk vr vb
theorem RdS.below {l:List SOp} (h:RdS w v l) {B:Nat} (k:Below B w w') (p:w.heap.size<=B):RdS w' v l:=by
 obtain⟨ao,cap,q,g,i,a,t⟩:=h;refine⟨ao,cap,q,g,i,a,fun j x d=>?_⟩
 obtain⟨b,c,u,n,f,e,m⟩:=t j x d;exact⟨b,c,u,n,f,e,m.below k p⟩
theorem RdS.at {w:World} {ao:Option Addr} {n cap:Nat} {l:List SOp} (h:RdS w (.slice ao n cap) l) {i:Nat} (p:i<l.length):
 ∃ x b a g k m f d j,l[i]?=some x∧ao=some ⟨b,a,none⟩∧Zql w b (a+i*9) x (.slice g x.keep.length k) (.slice m x.recs.length f) (.slice d x.b.length j):=by
 obtain⟨y,v,q,_,_,_,t⟩:=h;simp only [Value.slice.injEq] at q;obtain⟨rfl,_,rfl⟩:=q;obtain⟨b,a,A,z,u,e,c⟩:=t i _ (List.getElem?_eq_getElem p);obtain⟨g,k,rfl,-⟩:=id c.rk;obtain⟨m,f,rfl,-⟩:=id c.rr;obtain⟨d,j,rfl,-⟩:=id c.rb;exact⟨_,b,a,g,k,m,f,d,j,List.getElem?_eq_getElem p,e,c⟩
theorem Zjh:prog.cellsOf 55=9:=by kernel_rfl
theorem Zoj:prog.cellsOf 53=1:=by kernel_rfl
theorem Zqm:prog.cellsOf 29=1:=by kernel_rfl
theorem ZvW {H:Type} {enc:TypeId × Value->H} {i:Bool} {x:DataW H × List MemPlace} (h:DataW.trod enc prog w base (fun _=>true) i fuel 53 cs=some x):∃ v l,cs=[v]∧Rd w v l:=by
 rcases open_ints underlying53 underlying5 (by kernel_rfl) h with ⟨a,_⟩ | ⟨y,l,c,j,a,_,b,e,f,_,g,d⟩
 ·exact⟨_,[],a,Rd.nil _⟩
 ·exact⟨_,_,a,Rd.ofRow b e (by simpa using f) g d⟩
theorem Zdz {H:Type} {enc:TypeId × Value->H} {Q:Bool} {x:DataW H × List MemPlace} (h:DataW.trod enc prog w base (fun _=>true) Q fuel 55 cs=some x):
 ∃ (o:SOp) (f e d:Value),cs=[.int .i64 o.kind,.int .i64 o.many,.int .i64 o.n,.int .i64 o.op.code,.int .i64 o.op.a,.int .i64 o.op.b,f,e,d]∧RdI w f o.keep∧RdR w e o.recs∧Rd w d o.b∧I64 o.kind∧I64 o.many∧I64 o.n∧Zyw o.op:=by
 obtain⟨xs,n,_,_,k,D,c⟩:=DataW.trod_struct underlying55 h;rw[Zjh] at k
 match xs,D,cs,k with
 | [y0,y1,y2,y3,y4,y5,y6],_,[c0,c1,c2,c3,c4,c5,c6,c7,c8],_=>
  have q:=c 0 _ rfl;have p:=c 1 _ rfl;have A:=c 2 _ rfl;have v:=c 3 _ rfl;have i:=c 4 _ rfl;have z:=c 5 _ rfl;have y:=c 6 _ rfl;simp[ZhT,ZlI,Zsa,Zoj,Zqm] at q p A v i z y;obtain⟨I,j,_,N⟩:=DataW.trod_int underlying3 q;obtain⟨L,g,_,E⟩:=DataW.trod_int underlying3 p;obtain⟨F,t,_,K⟩:=DataW.trod_int underlying3 A;obtain⟨o,m,ok⟩:=ZeI v;obtain⟨f,J,l,G⟩:=ZqO i;obtain⟨e,C,u,M⟩:=ZvV z;obtain⟨d,O,B,P⟩:=ZvW y;simp only [List.cons.injEq,and_true] at j g t m l u B;obtain⟨rfl,rfl,rfl⟩:=m;subst j g t l u B;exact⟨⟨I,L,F,o,J,C,O⟩,_,_,_,rfl,G,M,P,Z1 N,Z1 E,Z1 K,ok⟩
theorem Zqn {m:Nat} {p:Nat->SOp->Prop} (h:∀ i,i<m->∃ o,p i o):∃ L:List SOp,L.length=m∧∀ i x,L[i]?=some x->p i x:=by
 induction m with
 | zero=>exact⟨[],rfl,fun i x a=>by simp at a⟩
 | succ m d=>
  obtain⟨L,c,g⟩:=d fun i b=>h i (by omega)
  obtain⟨o,f⟩:=h m (by omega)
  refine⟨L++[o],by simp[c],fun i x a=>?_⟩
  rw[List.getElem?_append] at a;by_cases e:i<L.length
  ·rw[if_pos e] at a
   exact g i x a
  ·rw[if_neg e] at a
   have:i-L.length=0:=by
    have:=(List.getElem?_eq_some_iff.1 a).1;simp at this;omega
   rw[this] at a;simp only [List.getElem?_cons_zero,Option.some.injEq] at a;have b:i=m:=by omega
   rw[<-a,b];exact f
theorem ZvX {H:Type} {enc:TypeId × Value->H} {ac:Bool} {x:DataW H × List MemPlace} (h:DataW.trod enc prog w base (fun _=>true) ac fuel 22 cs=some x):∃ v l,cs=[v]∧RdS w v l:=by
 rcases Go.Deep.open_slice underlying22 h with ⟨f,_⟩ | ⟨a,M,cap,m,n,D,Pl,rfl,hb,hl,J,S,_,I⟩
 ·exact⟨_,[],f,none,0,rfl,Nat.le_refl _,Nat.zero_le _,fun _=>rfl,(fun j x h=>by simp at h)⟩
 ·have P:m=cap:=by simpa using S
  subst P;by_cases X:M=0
  ·subst X
   exact⟨_,[],rfl,some a,m,rfl,Nat.zero_le _,J,(fun e=>by cases e),(fun j x h=>by simp at h)⟩
  obtain⟨b,t,spot⟩:=a
  have Y:spot=none:=by
   obtain⟨T,g,z⟩:=I 0 (by omega)
   rw[Zjh] at g;obtain⟨_,aa,c⟩:=World.cells?_some g;obtain⟨o,q,p,k,f,_⟩:=Zdz z;subst f;have d:=c 0 (by omega)
   rw[Go.Deep.add_add] at d;simpa[Addr.add] using World.cell?_spot d
  subst Y
  have V:∀ i,i<M->∃ o,∃ b' K q p k,some (⟨b,t,none⟩:Addr)=some (⟨b',K,none⟩:Addr)∧Zql w b' (K+i*9) o q p k:=by
   intro i hi;obtain⟨T,g,z⟩:=I i (by omega)
   rw[Zjh] at g;obtain⟨_,aa,c⟩:=World.cells?_some g;obtain⟨o,q,p,k,f,Q,U,ab,W,R,N,O⟩:=Zdz z;subst f;have d:=c 0 (by omega)
   have B:=c 1 (by omega)
   have u:=c 2 (by omega)
   have E:=c 3 (by omega)
   have C:=c 4 (by omega)
   have y:=c 5 (by omega)
   have G:=c 6 (by omega)
   have F:=c 7 (by omega)
   have A:=c 8 (by omega)
   rw[Go.Deep.add_add] at d B u E C y G F A;rw[Addr.add_lit] at d B u E C y G F A;exact⟨o,b,t,q,p,k,rfl,by simpa using d,by simpa[Nat.add_assoc] using B,by simpa[Nat.add_assoc] using u,by simpa[Nat.add_assoc] using E,by simpa[Nat.add_assoc] using C,by simpa[Nat.add_assoc] using y,by simpa[Nat.add_assoc] using G,by simpa[Nat.add_assoc] using F,by simpa[Nat.add_assoc] using A,Q,U,ab,W,R,N,O⟩
  obtain⟨L,Z,hp⟩:=Zqn V;exact⟨_,L,rfl,some ⟨b,t,none⟩,m,by rw[Z],by omega,J,(fun e=>by cases e),hp⟩
def FewS (l:List SOp):Prop:=l.length<=60∧∀ (j:Nat) x,l[j]?=some x->x.recs.length<=20∧x.b.length<=300∧x.keep.length<=100
set_option maxHeartbeats 2000000 in
theorem ZxN (v:Value) (l:List SOp) (w:World) (h:RdS w v l):
 Calls prog 8 #[v] w fun e w'=>∃ F:Bool,e=.returned (.bool F)∧(F=true->FewS l)∧w'=w:=by
 have H:=ZZ h;obtain⟨ao,cap,rfl,-⟩:=h;by_cases E:l.length<=60
 case neg=>
  have T:decide ((l.length:Int)>60)=true:=decide_eq_true (by omega)
  go_enter func8,ntmps8
  go_wp2;go_ret;exact⟨false,rfl,(fun e=>by cases e),rfl⟩
 go_enter func8,ntmps8
 go_wp2
 go_loopw[3] (fun p wr=>∃ k:Nat,p=.int .i64 (k:Int)∧k<=l.length∧wr=w∧Hid (∀ (j:Nat) x,j<k->l[j]?=some x->x.recs.length<=20∧x.b.length<=300∧x.keep.length<=100)) (fun p _=>l.length-(intOf p).toNat)
 case atStart=>exact⟨0,rfl,Nat.zero_le _,rfl,ZZ (fun j x q=>absurd q (Nat.not_lt_zero _))⟩
 case round=>
  obtain⟨k,rfl,P,rfl,A⟩:=hrel;by_cases G:k<l.length
  ·obtain⟨x,b,O,R,W,Y,Q,N,V,a,I,c⟩:=H.out.at G
   have M:=ZZ a;have B:=c.c6;have J:=c.c7;have K:=c.c8;subst I;obtain⟨z,d⟩:∃ n,n=x.recs.length:=⟨_,rfl⟩;obtain⟨t,m⟩:∃ n,n=x.b.length:=⟨_,rfl⟩;obtain⟨u,f⟩:∃ n,n=x.keep.length:=⟨_,rfl⟩;rw[<-d] at J;rw[<-m] at K;rw[<-f] at B;have i:=ZZ (And.intro d (And.intro m f));clear a c d m f;by_cases L:z<=20
   ·by_cases C:t<=300
    ·by_cases D:u<=100
     ·go_wp2
      go_roundw
      case rel=>
       refine⟨k+1,by go_num,by omega,by first | trivial | rfl,ZZ (fun j y q g=>?_)⟩
       by_cases e:j=k
       ·rw[e,M.o] at g
        obtain rfl:=Option.some.inj g;exact⟨by rw[<-i.o.1];exact L,by rw[<-i.o.2.1];exact C,by rw[<-i.o.2.2];exact D⟩
       ·exact A.o j y (by omega) g
      case measure=>simp[intOf];omega
     ·have X:decide ((u:Int)>100)=true:=decide_eq_true (by omega)
      go_wp2;go_ret;exact⟨false,rfl,(fun e=>by cases e),rfl⟩
    ·have S:decide ((t:Int)>300)=true:=decide_eq_true (by omega)
     go_wp2;go_ret;exact⟨false,rfl,(fun e=>by cases e),rfl⟩
   ·have U:decide ((z:Int)>20)=true:=decide_eq_true (by omega)
    go_wp2;go_ret;exact⟨false,rfl,(fun e=>by cases e),rfl⟩
  ·go_wp2
   go_ret;exact⟨true,rfl,fun _=>⟨E,fun j x a=>A.o j x (by have:=(List.getElem?_eq_some_iff.1 a).1;omega) a⟩,rfl⟩
end Go.Proofs.YtnahjngbneicaaaGreatDoor
