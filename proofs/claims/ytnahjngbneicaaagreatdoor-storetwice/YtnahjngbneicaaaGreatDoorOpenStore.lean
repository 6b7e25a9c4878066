import Derived.Test.YtnahjngbneicaaaGreatDoorOpenBlock
namespace Go.Proofs.YtnahjngbneicaaaGreatDoor
open _root_.Go.Proofs.Tryz
set_option maxRecDepth 100000
open Go.RowKit Go.ChangeShapes
variable {w w':World} {B base fuel:Nat} {v:Value} {cs:List Value}
structure SOp where
 kind:Int
 many:Int
 n:Int
 op:Opn
 keep:List Int
 recs:List Rec
 b:List UInt8
structure Zpr (w:World) (b o:Nat) (x:SOp) (vk vr vb:Value):Prop where
 c0:w.cell? ⟨b,o,none⟩=some (.int .i64 x.kind)
 c1:w.cell? ⟨b,o+1,none⟩=some (.int .i64 x.many)
 c2:w.cell? ⟨b,o+2,none⟩=some (.int .i64 x.n)
 c3:w.cell? ⟨b,o+3,none⟩=some (.int .i64 x.op.code)
 c4:w.cell? ⟨b,o+4,none⟩=some (.int .i64 x.op.a)
 c5:w.cell? ⟨b,o+5,none⟩=some (.int .i64 x.op.b)
 c6:w.cell? ⟨b,o+6,none⟩=some vk
 c7:w.cell? ⟨b,o+7,none⟩=some vr
 c8:w.cell? ⟨b,o+8,none⟩=some vb
 rk:RdI w vk x.keep
 rr:RdR w vr x.recs
 rb:Rd w vb x.b
 i0:I64 x.kind
 i1:I64 x.many
 i2:I64 x.n
 io:Zxh x.op
theorem Zp {a:Addr} (h:w.cell? a=some v) (c:Below B w w') (d:w.heap.size<=B):w'.cell? a=some v:=by
 have b:a.block<w.heap.size:=World.block_lt_of_cell? w a h;rw[c.cell (p:=a) (by exact Nat.lt_of_lt_of_le b d)]
 exact h
theorem Zpr.below {b o:Nat} {x:SOp} {d f e:Value} (h:Zpr w b o x d f e) (a:Below B w w') (c:w.heap.size<=B):Zpr w' b o x d f e:=
 ⟨Zp h.c0 a c,Zp h.c1 a c,Zp h.c2 a c,Zp h.c3 a c,Zp h.c4 a c,Zp h.c5 a c,Zp h.c6 a c,Zp h.c7 a c,Zp h.c8 a c,h.rk.below a c,h.rr.below a c,h.rb.below a c,h.i0,h.i1,h.i2,h.io⟩
def RdS (w:World) (v:Value) (l:List SOp):Prop:=
 ∃ ao cap,v=.slice ao l.length cap∧l.length<=cap∧cap<=maxLen∧(ao=none->cap=0)∧
  ∀ j x,l[j]?=some x->∃ b off vk vr vb,ao=some ⟨b,off,none⟩∧Zpr w b (off+j*9) x vk vr vb
theorem RdS.below {l:List SOp} (h:RdS w v l) {B:Nat} (a:Below B w w') (c:w.heap.size<=B):RdS w' v l:=by
 obtain⟨ao,cap,m,i,d,g,n⟩:=h;refine⟨ao,cap,m,i,d,g,fun j x k=>?_⟩
 obtain⟨b,f,q,u,t,e,p⟩:=n j x k;exact⟨b,f,q,u,t,e,p.below a c⟩
theorem RdS.at {ao:Option Addr} {n cap:Nat} {l:List SOp} (h:RdS w (.slice ao n cap) l) {i:Nat} (p:i<l.length):
 ∃ x b a d m k j g f,l[i]?=some x∧ao=some ⟨b,a,none⟩∧Zpr w b (a+i*9) x (.slice d x.keep.length m) (.slice k x.recs.length j) (.slice g x.b.length f):=by
 obtain⟨u,v,q,_,_,_,t⟩:=h;simp only [Value.slice.injEq] at q;obtain⟨rfl,_,rfl⟩:=q;obtain⟨b,a,y,A,z,e,c⟩:=t i _ (List.getElem?_eq_getElem p);obtain⟨d,m,rfl,-⟩:=id c.rk;obtain⟨k,j,rfl,-⟩:=id c.rr;obtain⟨g,f,rfl,-⟩:=id c.rb;exact⟨_,b,a,d,m,k,j,g,f,List.getElem?_eq_getElem p,e,c⟩
theorem ZiH:prog.cellsOf 55=9:=by kernel_rfl
theorem Znw:prog.cellsOf 53=1:=by kernel_rfl
theorem Zps:prog.cellsOf 29=1:=by kernel_rfl
theorem ZuT {H:Type} {enc:TypeId × Value->H} {e:Bool} {x:DataW H × List MemPlace} (h:DataW.trod enc prog w base (fun _=>true) e fuel 53 cs=some x):∃ v l,cs=[v]∧Rd w v l:=by
 rcases open_ints underlying53 underlying5 (by kernel_rfl) h with ⟨a,_⟩ | ⟨y,l,c,j,a,_,f,b,d,_,g,i⟩
 ·exact⟨_,[],a,Rd.nil _⟩
 ·exact⟨_,_,a,Rd.ofRow f b (by simpa using d) g i⟩
theorem Zdv {H:Type} {enc:TypeId × Value->H} {I:Bool} {x:DataW H × List MemPlace} (h:DataW.trod enc prog w base (fun _=>true) I fuel 55 cs=some x):
 ∃ (o:SOp) (d f e:Value),cs=[.int .i64 o.kind,.int .i64 o.many,.int .i64 o.n,.int .i64 o.op.code,.int .i64 o.op.a,.int .i64 o.op.b,d,f,e]∧RdI w d o.keep∧RdR w f o.recs∧Rd w e o.b∧I64 o.kind∧I64 o.many∧I64 o.n∧Zxh o.op:=by
 obtain⟨xs,n,_,_,u,F,c⟩:=DataW.trod_struct underlying55 h;rw[ZiH] at u
 match xs,F,cs,u with
 | [y0,y1,y2,y3,y4,y5,y6],_,[c0,c1,c2,c3,c4,c5,c6,c7,c8],_=>
  have t:=c 0 _ rfl;have v:=c 1 _ rfl;have z:=c 2 _ rfl;have B:=c 3 _ rfl;have j:=c 4 _ rfl;have k:=c 5 _ rfl;have l:=c 6 _ rfl;simp[Zhu,ZkX,Zrd,Znw,Zps] at t v z B j k l;obtain⟨E,m,_,O⟩:=DataW.trod_int underlying3 t;obtain⟨K,g,_,J⟩:=DataW.trod_int underlying3 v;obtain⟨G,i,_,N⟩:=DataW.trod_int underlying3 z;obtain⟨o,A,ok⟩:=Zey B;obtain⟨d,P,p,L⟩:=ZpX j;obtain⟨f,Q,y,C⟩:=ZuS k;obtain⟨e,D,q,M⟩:=ZuT l;simp only [List.cons.injEq,and_true] at m g i A p y q;obtain⟨rfl,rfl,rfl⟩:=A;subst m g i p y q;exact⟨⟨E,K,G,o,P,Q,D⟩,_,_,_,rfl,L,C,M,Zb O,Zb J,Zb N,ok⟩
theorem Zpt {m:Nat} {p:Nat->SOp->Prop} (h:∀ i,i<m->∃ o,p i o):∃ L:List SOp,L.length=m∧∀ i x,L[i]?=some x->p i x:=by
 induction m with
 | zero=>exact⟨[],rfl,fun i x a=>by simp at a⟩
 | succ m f=>
  obtain⟨L,g,c⟩:=f fun i b=>h i (by omega)
  obtain⟨o,d⟩:=h m (by omega)
  refine⟨L++[o],by simp[g],fun i x a=>?_⟩
  rw[List.getElem?_append] at a;by_cases e:i<L.length
  ·rw[if_pos e] at a
   exact c i x a
  ·rw[if_neg e] at a
   have:i-L.length=0:=by
    have:=(List.getElem?_eq_some_iff.1 a).1;simp at this;omega
   rw[this] at a;simp only [List.getElem?_cons_zero,Option.some.injEq] at a;have b:i=m:=by omega
   rw[<-a,b];exact d
theorem ZuU {H:Type} {enc:TypeId × Value->H} {Q:Bool} {x:DataW H × List MemPlace} (h:DataW.trod enc prog w base (fun _=>true) Q fuel 22 cs=some x):∃ v l,cs=[v]∧RdS w v l:=by
 rcases Go.Deep.open_slice underlying22 h with ⟨f,_⟩ | ⟨a,M,cap,m,n,D,Pl,rfl,hb,hl,I,aa,_,J⟩
 ·exact⟨_,[],f,none,0,rfl,Nat.le_refl _,Nat.zero_le _,fun _=>rfl,(fun j x h=>by simp at h)⟩
 ·have S:m=cap:=by simpa using aa
  subst S;by_cases P:M=0
  ·subst P
   exact⟨_,[],rfl,some a,m,rfl,Nat.zero_le _,I,(fun e=>by cases e),(fun j x h=>by simp at h)⟩
  obtain⟨b,B,spot⟩:=a
  have R:spot=none:=by
   obtain⟨X,g,G⟩:=J 0 (by omega)
   rw[ZiH] at g;obtain⟨_,Y,c⟩:=World.cells?_some g;obtain⟨o,k,q,p,f,_⟩:=Zdv G;subst f;have d:=c 0 (by omega)
   rw[Go.Deep.add_add] at d;simpa[Addr.add] using World.cell?_spot d
  subst R
  have Z:∀ i,i<M->∃ o,∃ b' K k q p,some (⟨b,B,none⟩:Addr)=some (⟨b',K,none⟩:Addr)∧Zpr w b' (K+i*9) o k q p:=by
   intro i hi;obtain⟨X,g,G⟩:=J i (by omega)
   rw[ZiH] at g;obtain⟨_,Y,c⟩:=World.cells?_some g;obtain⟨o,k,q,p,f,T,N,U,i0,i1,i2,V⟩:=Zdv G;subst f;have d:=c 0 (by omega)
   have C:=c 1 (by omega)
   have F:=c 2 (by omega)
   have y:=c 3 (by omega)
   have E:=c 4 (by omega)
   have z:=c 5 (by omega)
   have u:=c 6 (by omega)
   have t:=c 7 (by omega)
   have A:=c 8 (by omega)
   rw[Go.Deep.add_add] at d C F y E z u t A;rw[Addr.add_lit] at d C F y E z u t A;exact⟨o,b,B,k,q,p,rfl,by simpa using d,by simpa[Nat.add_assoc] using C,by simpa[Nat.add_assoc] using F,by simpa[Nat.add_assoc] using y,by simpa[Nat.add_assoc] using E,by simpa[Nat.add_assoc] using z,by simpa[Nat.add_assoc] using u,by simpa[Nat.add_assoc] using t,by simpa[Nat.add_assoc] using A,T,N,U,i0,i1,i2,V⟩
  obtain⟨L,W,O⟩:=Zpt Z;exact⟨_,L,rfl,some ⟨b,B,none⟩,m,by rw[W],by omega,I,(fun e=>by cases e),O⟩
def FewS (l:List SOp):Prop:=l.length<=60∧∀ (j:Nat) x,l[j]?=some x->x.recs.length<=20∧x.b.length<=300∧x.keep.length<=100
set_option maxHeartbeats 2000000 in
theorem ZwH (v:Value) (l:List SOp) (w:World) (h:RdS w v l):
 Calls prog 8 #[v] w fun e w'=>∃ F:Bool,e=.returned (.bool F)∧(F=true->FewS l)∧w'=w:=by
 have H:=ZZ h;obtain⟨ao,cap,rfl,-⟩:=h;by_cases E:l.length<=60
 case neg=>
  have S:decide ((l.length:Int)>60)=true:=decide_eq_true (by omega)
  go_enter func8,ntmps8
  go_wp2;go_ret;exact⟨false,rfl,(fun e=>by cases e),rfl⟩
 go_enter func8,ntmps8
 go_wp2
 go_loopw[3] (fun g wr=>∃ k:Nat,g=.int .i64 (k:Int)∧k<=l.length∧wr=w∧Hid (∀ (j:Nat) x,j<k->l[j]?=some x->x.recs.length<=20∧x.b.length<=300∧x.keep.length<=100)) (fun g _=>l.length-(intOf g).toNat)
 case atStart=>exact⟨0,rfl,Nat.zero_le _,rfl,ZZ (fun j x u=>absurd u (Nat.not_lt_zero _))⟩
 case round=>
  obtain⟨k,rfl,U,rfl,z⟩:=hrel;by_cases G:k<l.length
  ·obtain⟨x,b,R,N,Y,W,T,Q,O,a,M,c⟩:=H.out.at G
   have L:=ZZ a;have D:=c.c6;have K:=c.c7;have C:=c.c8;subst M;obtain⟨q,f⟩:∃ n,n=x.recs.length:=⟨_,rfl⟩;obtain⟨t,i⟩:∃ n,n=x.b.length:=⟨_,rfl⟩;obtain⟨A,p⟩:∃ n,n=x.keep.length:=⟨_,rfl⟩;rw[<-f] at K;rw[<-i] at C;rw[<-p] at D;have d:=ZZ (And.intro f (And.intro i p));clear a c f i p;by_cases J:q<=20
   ·by_cases I:t<=300
    ·by_cases B:A<=100
     ·go_wp2
      go_roundw
      case rel=>
       refine⟨k+1,by go_num,by omega,by first | trivial | rfl,ZZ (fun j y u m=>?_)⟩
       by_cases e:j=k
       ·rw[e,L.o] at m
        obtain rfl:=Option.some.inj m;exact⟨by rw[<-d.o.1];exact J,by rw[<-d.o.2.1];exact I,by rw[<-d.o.2.2];exact B⟩
       ·exact z.o j y (by omega) m
      case measure=>simp[intOf];omega
     ·have P:decide ((A:Int)>100)=true:=decide_eq_true (by omega)
      go_wp2;go_ret;exact⟨false,rfl,(fun e=>by cases e),rfl⟩
    ·have X:decide ((t:Int)>300)=true:=decide_eq_true (by omega)
     go_wp2;go_ret;exact⟨false,rfl,(fun e=>by cases e),rfl⟩
   ·have V:decide ((q:Int)>20)=true:=decide_eq_true (by omega)
    go_wp2;go_ret;exact⟨false,rfl,(fun e=>by cases e),rfl⟩
  ·go_wp2
   go_ret;exact⟨true,rfl,fun _=>⟨E,fun j x a=>z.o j x (by have:=(List.getElem?_eq_some_iff.1 a).1;omega) a⟩,rfl⟩
end Go.Proofs.YtnahjngbneicaaaGreatDoor
