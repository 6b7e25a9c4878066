import Derived.Test.YtnahjngbneicaaaGreatDoorOpenBlock
namespace Go.Proofs.YtnahjngbneicaaaGreatDoor
open _root_.Go.Proofs.Tryz
set_option maxRecDepth 100000
open Go.RowKit Go.ChangeShapes
variable {w w':World} {B base fuel:Nat} {v:Value} {cs:List Value}
structure SOp where
 kind:Int
 many:Int
 n:Int
 op:Opn
 keep:List Int
 recs:List Rec
 b:List UInt8
structure Zql (w:World) (b o:Nat) (x:SOp) (vk vr vb:Value):Prop where
 c0:w.cell? ⟨b,o,none⟩=some (.int .i64 x.kind)
 c1:w.cell? ⟨b,o+1,none⟩=some (.int .i64 x.many)
 c2:w.cell? ⟨b,o+2,none⟩=some (.int .i64 x.n)
 c3:w.cell? ⟨b,o+3,none⟩=some (.int .i64 x.op.code)
 c4:w.cell? ⟨b,o+4,none⟩=some (.int .i64 x.op.a)
 c5:w.cell? ⟨b,o+5,none⟩=some (.int .i64 x.op.b)
 c6:w.cell? ⟨b,o+6,none⟩=some vk
 c7:w.cell? ⟨b,o+7,none⟩=some vr
 c8:w.cell? ⟨b,o+8,none⟩=some vb
 rk:RdI w vk x.keep
 rr:RdR w vr x.recs
 rb:Rd w vb x.b
 i0:I64 x.kind
 i1:I64 x.many
 i2:I64 x.n
 io:Zyw x.op
theorem Jh {a:Addr} (h:w.cell? a=some v) (b:Below B w w') (d:w.heap.size<=B):w'.cell? a=some v:=by
 have c:a.block<w.heap.size:=zau w a h;rw[b.cell (p:=a) (by exact zav c d)]
 exact h
theorem Zql.below {b o:Nat} {x:SOp} {d e f:Value} (h:Zql w b o x d e f) (a:Below B w w') (c:w.heap.size<=B):Zql w' b o x d e f:=
 ⟨Jh h.c0 a c,Jh h.c1 a c,Jh h.c2 a c,Jh h.c3 a c,Jh h.c4 a c,Jh h.c5 a c,Jh h.c6 a c,Jh h.c7 a c,Jh h.c8 a c,h.rk.below a c,h.rr.below a c,h.rb.below a c,h.i0,h.i1,h.i2,h.io⟩
def RdS (w:World) (v:Value) (l:List SOp):Prop:=
 ∃ ao cap,v=.slice ao l.length cap∧l.length<=cap∧cap<=maxLen∧(ao=none->cap=0)∧
  ∀ j x,l[j]?=some x->∃ b off vk vr vb,ao=some ⟨b,off,none⟩∧Zql w b (off+j*9) x vk vr vb
theorem RdS.below {l:List SOp} (h:RdS w v l) {B:Nat} (i:Below B w w') (c:w.heap.size<=B):RdS w' v l:=by
 obtain⟨ao,cap,t,g,a,m,f⟩:=h;refine⟨ao,cap,t,g,a,m,fun j x k=>?_⟩
 obtain⟨b,q,n,u,d,e,p⟩:=f j x k;exact⟨b,q,n,u,d,e,p.below i c⟩
theorem RdS.at {ao:Option Addr} {n cap:Nat} {l:List SOp} (h:RdS w (.slice ao n cap) l) {i:Nat} (q:i<l.length):
 ∃ x b c d g m j f k,l[i]?=some x∧ao=some ⟨b,c,none⟩∧Zql w b (c+i*9) x (.slice d x.keep.length g) (.slice m x.recs.length j) (.slice f x.b.length k):=by
 obtain⟨v,A,p,_,_,_,t⟩:=h;simp only [za1] at p;obtain⟨rfl,_,rfl⟩:=p;obtain⟨b,c,y,z,u,e,a⟩:=t i _ (za3 q);obtain⟨d,g,rfl,-⟩:=id a.rk;obtain⟨m,j,rfl,-⟩:=id a.rr;obtain⟨f,k,rfl,-⟩:=id a.rb;exact⟨_,b,c,d,g,m,j,f,k,za3 q,e,a⟩
theorem Zjh:prog.cellsOf 55=9:=by kernel_rfl
theorem Zoj:prog.cellsOf 53=1:=by kernel_rfl
theorem Zqm:prog.cellsOf 29=1:=by kernel_rfl
theorem ZvW {H:Type} {enc:TypeId × Value->H} {g:Bool} {x:DataW H × List MemPlace} (h:DataW.trod enc prog w base (fun _=>true) g fuel 53 cs=some x):∃ v l,cs=[v]∧Rd w v l:=by
 rcases open_ints underlying53 underlying5 (by kernel_rfl) h with ⟨a,_⟩ | ⟨y,l,c,j,a,_,f,i,b,_,d,e⟩
 ·exact⟨_,[],a,Rd.nil _⟩
 ·exact⟨_,_,a,Rd.ofRow f i (by simpa using b) d e⟩
theorem Zdz {H:Type} {enc:TypeId × Value->H} {N:Bool} {x:DataW H × List MemPlace} (h:DataW.trod enc prog w base (fun _=>true) N fuel 55 cs=some x):
 ∃ (o:SOp) (e f d:Value),cs=[.int .i64 o.kind,.int .i64 o.many,.int .i64 o.n,.int .i64 o.op.code,.int .i64 o.op.a,.int .i64 o.op.b,e,f,d]∧RdI w e o.keep∧RdR w f o.recs∧Rd w d o.b∧I64 o.kind∧I64 o.many∧I64 o.n∧Zyw o.op:=by
 obtain⟨xs,n,_,_,q,P,c⟩:=zgf underlying55 h;rw[Zjh] at q
 match xs,P,cs,q with
 | [y0,y1,y2,y3,y4,y5,y6],_,[c0,c1,c2,c3,c4,c5,c6,c7,c8],_=>
  have p:=c 0 _ rfl;have l:=c 1 _ rfl;have u:=c 2 _ rfl;have g:=c 3 _ rfl;have t:=c 4 _ rfl;have v:=c 5 _ rfl;have z:=c 6 _ rfl;simp[ZhT,ZlI,Zsa,Zoj,Zqm] at p l u g t v z;obtain⟨E,m,_,K⟩:=zdd underlying3 p;obtain⟨I,B,_,Q⟩:=zdd underlying3 l;obtain⟨M,y,_,L⟩:=zdd underlying3 u;obtain⟨o,A,ok⟩:=ZeI g;obtain⟨e,C,j,O⟩:=ZqO t;obtain⟨f,D,i,J⟩:=ZvV v;obtain⟨d,G,k,F⟩:=ZvW z;simp only [zep,zew] at m B y A j i k;obtain⟨rfl,rfl,rfl⟩:=A;subst m B y j i k;exact⟨⟨E,I,M,o,C,D,G⟩,_,_,_,rfl,O,J,F,Z1 K,Z1 Q,Z1 L,ok⟩
theorem Zqn {m:Nat} {p:Nat->SOp->Prop} (h:∀ i,i<m->∃ o,p i o):∃ L:List SOp,L.length=m∧∀ i x,L[i]?=some x->p i x:=by
 induction m with
 | zero=>exact⟨[],rfl,fun i x a=>by simp at a⟩
 | succ m c=>
  obtain⟨L,f,d⟩:=c fun i b=>h i (by omega)
  obtain⟨o,g⟩:=h m (by omega)
  refine⟨L++[o],by simp[f],fun i x a=>?_⟩
  rw[zfu] at a;by_cases e:i<L.length
  ·rw[zab e] at a
   exact d i x a
  ·rw[zaa e] at a
   have:i-L.length=0:=by
    have:=(zbm.1 a).1;simp at this;omega
   rw[this] at a;simp only [List.getElem?_cons_zero,zbu] at a;have b:i=m:=by omega
   rw[<-a,b];exact g
theorem ZvX {H:Type} {enc:TypeId × Value->H} {ab:Bool} {x:DataW H × List MemPlace} (h:DataW.trod enc prog w base (fun _=>true) ab fuel 22 cs=some x):∃ v l,cs=[v]∧RdS w v l:=by
 rcases Go.Deep.open_slice underlying22 h with ⟨f,_⟩ | ⟨a,J,cap,m,n,D,Pl,rfl,hb,hl,M,Y,_,K⟩
 ·exact⟨_,[],f,none,0,rfl,zat _,zai _,fun _=>rfl,(fun j x h=>by simp at h)⟩
 ·have S:m=cap:=by simpa using Y
  subst S;by_cases N:J=0
  ·subst N
   exact⟨_,[],rfl,some a,m,rfl,zai _,M,(fun e=>by cases e),(fun j x h=>by simp at h)⟩
  obtain⟨b,E,spot⟩:=a
  have V:spot=none:=by
   obtain⟨ac,g,z⟩:=K 0 (by omega)
   rw[Zjh] at g;obtain⟨_,U,c⟩:=zgh g;obtain⟨o,p,q,k,f,_⟩:=Zdz z;subst f;have d:=c 0 (by omega)
   rw[zgt] at d;simpa[Addr.add] using zfm d
  subst V
  have aa:∀ i,i<J->∃ o,∃ b' I p q k,some (⟨b,E,none⟩:Addr)=some (⟨b',I,none⟩:Addr)∧Zql w b' (I+i*9) o p q k:=by
   intro i hi;obtain⟨ac,g,z⟩:=K i (by omega)
   rw[Zjh] at g;obtain⟨_,U,c⟩:=zgh g;obtain⟨o,p,q,k,f,ad,W,T,Q,R,O,X⟩:=Zdz z;subst f;have d:=c 0 (by omega)
   have y:=c 1 (by omega)
   have C:=c 2 (by omega)
   have G:=c 3 (by omega)
   have F:=c 4 (by omega)
   have B:=c 5 (by omega)
   have A:=c 6 (by omega)
   have t:=c 7 (by omega)
   have u:=c 8 (by omega)
   rw[zgt] at d y C G F B A t u;rw[zbg] at d y C G F B A t u;exact⟨o,b,E,p,q,k,rfl,by simpa using d,by simpa[zbs] using y,by simpa[zbs] using C,by simpa[zbs] using G,by simpa[zbs] using F,by simpa[zbs] using B,by simpa[zbs] using A,by simpa[zbs] using t,by simpa[zbs] using u,ad,W,T,Q,R,O,X⟩
  obtain⟨L,P,Z⟩:=Zqn aa;exact⟨_,L,rfl,some ⟨b,E,none⟩,m,by rw[P],by omega,M,(fun e=>by cases e),Z⟩
def FewS (l:List SOp):Prop:=l.length<=60∧∀ (j:Nat) x,l[j]?=some x->x.recs.length<=20∧x.b.length<=300∧x.keep.length<=100
set_option maxHeartbeats 2000000 in
theorem ZxN (v:Value) (l:List SOp) (w:World) (h:RdS w v l):
 Calls prog 8 #[v] w fun e w'=>∃ F:Bool,e=.returned (.bool F)∧(F=true->FewS l)∧w'=w:=by
 have H:=ZZ h;obtain⟨ao,cap,rfl,-⟩:=h;by_cases G:l.length<=60
 case neg=>
  have Q:decide ((l.length:Int)>60)=true:=zah (by omega)
  go_enter func8,ntmps8
  go_wp2;go_ret;exact⟨false,rfl,(fun e=>by cases e),rfl⟩
 go_enter func8,ntmps8
 go_wp2
 go_loopw[3] (fun g wr=>∃ k:Nat,g=.int .i64 (k:Int)∧k<=l.length∧wr=w∧Hid (∀ (j:Nat) x,j<k->l[j]?=some x->x.recs.length<=20∧x.b.length<=300∧x.keep.length<=100)) (fun g _=>l.length-(intOf g).toNat)
 case atStart=>exact⟨0,rfl,zai _,rfl,ZZ (fun j x u=>absurd u (zcj _))⟩
 case round=>
  obtain⟨k,rfl,S,rfl,z⟩:=hrel;by_cases D:k<l.length
  ·obtain⟨x,b,V,N,P,Y,R,O,T,a,I,c⟩:=H.out.at D
   have C:=ZZ a;have L:=c.c6;have M:=c.c7;have J:=c.c8;subst I;obtain⟨q,f⟩:=zgy x.recs.length;obtain⟨A,d⟩:=zgy x.b.length;obtain⟨t,m⟩:=zgy x.keep.length;rw[<-f] at M;rw[<-d] at J;rw[<-m] at L;have p:=ZZ (And.intro f (And.intro d m));clear a c f d m;by_cases K:q<=20
   ·by_cases E:A<=300
    ·by_cases B:t<=100
     ·go_wp2
      go_roundw
      case rel=>
       refine⟨k+1,by go_num,by omega,by first | trivial | rfl,ZZ (fun j y u i=>?_)⟩
       by_cases e:j=k
       ·rw[e,C.o] at i
        obtain rfl:=zak i;exact⟨by rw[<-p.o.1];exact K,by rw[<-p.o.2.1];exact E,by rw[<-p.o.2.2];exact B⟩
       ·exact z.o j y (by omega) i
      case measure=>simp[intOf];omega
     ·have W:decide ((t:Int)>100)=true:=zah (by omega)
      go_wp2;go_ret;exact⟨false,rfl,(fun e=>by cases e),rfl⟩
    ·have X:decide ((A:Int)>300)=true:=zah (by omega)
     go_wp2;go_ret;exact⟨false,rfl,(fun e=>by cases e),rfl⟩
   ·have U:decide ((q:Int)>20)=true:=zah (by omega)
    go_wp2;go_ret;exact⟨false,rfl,(fun e=>by cases e),rfl⟩
  ·go_wp2
   go_ret;exact⟨true,rfl,fun _=>⟨G,fun j x a=>z.o j x (by have:=(zbm.1 a).1;omega) a⟩,rfl⟩
end Go.Proofs.YtnahjngbneicaaaGreatDoor
