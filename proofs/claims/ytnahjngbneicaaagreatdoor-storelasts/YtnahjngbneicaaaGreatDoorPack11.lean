import Derived.Test.YtnahjngbneicaaaGreatDoorPack10
namespace Go.Proofs.YtnahjngbneicaaaGreatDoor
open _root_.Go.Proofs.Tryz
open List (length_append length_drop nil_append take_length)
set_option maxHeartbeats 8000000
set_option maxRecDepth 100000
open Go.RowKit
variable {L:List (List UInt8)} {d:Dk} {w w':World} {B N T b n p pd:Nat} {x y z:Int} {v:Value} {f:Int->Int} {I K M:Nat->Prop} {s:Sto} {t:List Ent} {l:List Rec}
theorem Zdx (v:Int) (B:Bool) (c:B=decide (1<=v∧v<=3)) (w:World):
 Calls prog 188 #[.int .i64 v] w fun e w'=>e=.returned (.bool B)∧w'=w:=by
 subst c;by_cases h:1<=v∧v<=3
 ·rw[zah h]
  obtain⟨b,a⟩:=h
  go_enter func188,ntmps188
  go_wp2;go_ret;exact⟨rfl,rfl⟩
 ·rw[zae h]
  by_cases b:1<=v
  ·have a:¬ v<=3:=fun a=>h ⟨b,a⟩
   clear h
   go_enter func188,ntmps188
   go_wp2;go_ret;exact⟨rfl,rfl⟩
  ·clear h
   go_enter func188,ntmps188
   go_wp2;go_ret;exact⟨rfl,rfl⟩
theorem ZnL (v k f:Int) (w:World):
 Calls prog 137 #[.agg #[.int .i64 v,.int .i64 k,.int .i64 f]] w fun e w'=>e=.returned (.int .i64 (Jj v k f))∧Below w.heap.size w w':=by
 have c:Hid (∀ X,Below w.heap.size w (w.alloc X)):=fun X=>(zac _ _).alloc zL X
 by_cases a:1<=v∧v<=3
 case neg=>
  have b:=ZZ (Zdx v false (by rw[zae a]))
  have d:Hid (Jj v k f=6):=ZZ (zaa a);rw[d.o];clear a
  go_enter func137,ntmps137
  go_wp2_with fail
  refine(b.o _).mono ?_;rintro e g ⟨rfl,rfl⟩;go_wp2;go_ret;exact⟨rfl,c.o _⟩
 have b:=ZZ (Zdx v true (by rw[zah a]))
 by_cases h:Zgs k f
 case neg=>
  have d:Hid (Jj v k f=1):=ZZ (by unfold Jj;rw[zab a,zaa h])
  rw[d.o];clear a;by_cases x:k<0
  ·clear h
   go_enter func137,ntmps137
   go_wp2_with fail
   refine(b.o _).mono ?_;rintro e g ⟨rfl,rfl⟩;go_wp2;go_ret;exact⟨rfl,c.o _⟩
  by_cases p:6<=k
  ·clear h
   go_enter func137,ntmps137
   go_wp2_with fail
   refine(b.o _).mono ?_;rintro e g ⟨rfl,rfl⟩;go_wp2;go_ret;exact⟨rfl,c.o _⟩
  by_cases j:f<0
  ·clear h
   go_enter func137,ntmps137
   go_wp2_with fail
   refine(b.o _).mono ?_;rintro e g ⟨rfl,rfl⟩;go_wp2;go_ret;exact⟨rfl,c.o _⟩
  have i:4611686018427387904<=f:=by
   by_cases i:f<4611686018427387904
   ·exact absurd ⟨by omega,by omega,by omega,i⟩ h
   ·omega
  clear h
  go_enter func137,ntmps137
  go_wp2_with fail
  refine(b.o _).mono ?_;rintro e g ⟨rfl,rfl⟩;go_wp2;go_ret;exact⟨rfl,c.o _⟩
 have d:Hid (Jj v k f=0):=ZZ (by unfold Jj;rw[zab a,zab h])
 rw[d.o];obtain⟨m,q,y,l⟩:=h;have n:¬ k<0:=by omega
 have z:¬ 6<=k:=by omega
 have u:¬ f<0:=by omega
 have t:¬ 4611686018427387904<=f:=by omega
 clear a
 go_enter func137,ntmps137
 go_wp2_with fail
 refine(b.o _).mono ?_;rintro e g ⟨rfl,rfl⟩;go_wp2;go_ret;exact⟨rfl,c.o _⟩
theorem ZlX {k:Nat} (h:k<L.length):Qf (L.take (k+1))=Qf (L.take k)++Qd (L.getD k []):=by
 rw[ZsL h,Zax];simp[Qf]
theorem ZpQ {d:List UInt8} (h:d.length<=1048576):ZgE (d.length:Int)=(Qd d).length:=by
 unfold ZgE;rw[zab ⟨by omega,by omega⟩,Q9,za9]
 omega
theorem ZvB (v:Value) (L:List (List UInt8)) (w:World) (u:RdL w v L) (g:∀ x ∈ L,x.length<=1048576) (I:(Qf L).length<=10000000):
 Calls prog 206 #[v] w fun e w'=>e=.returned (.int .i64 ((Qf L).length:Nat))∧Below w.heap.size w w':=by
 have G:=ZZ u;obtain⟨ao,cap,rfl,C,m,-⟩:=u;have T:(L.length:Int)<=9223372036854775807:=by unfold maxLen at m;omega
 have A:=ZZ (fun k a=>G.o.at k a)
 obtain⟨Z,c⟩:∃ Z:Nat->Nat,Z=fun k=>(Qf (L.take k)).length:=⟨_,rfl⟩
 have M:Hid (Z 0=0):=ZZ (by rw[c];simp[Qf])
 have B:Hid (∀ k,k<L.length->Z (k+1)=Z k+ZgE ((L.getD k []).length:Int)):=ZZ (fun k a=>by
  rw[c];simp only
  rw[ZlX a,length_append,ZpQ (g _ (Zrc a))])
 have J:Hid (∀ k,Z k<=10000000):=ZZ (fun k=>by
  rw[c];have:=ZeR L k;simp only
  omega)
 have F:Hid ((Qf L).length=Z L.length):=ZZ (by rw[c];simp only;rw[take_length])
 have K:Hid (∀ k,k<L.length->∀ W,Calls prog 134 #[.int .i64 ((L.getD k []).length:Int)] W fun e w'=>e=.returned (.int .i64 (ZgE ((L.getD k []).length:Int):Nat))∧Below W.heap.size W w'):=ZZ (fun k a W=>by
  have:=g _ (Zrc a)
  exact Zra _ W (by omega) (by omega))
 rw[F.o];clear c C m g I
 go_enter func206,ntmps206
 go_wp2
 go_loopw[3,8] (fun vs l wr=>∃ k:Nat,l=.int .i64 (k:Int)∧vs=.int .i64 (Z k:Int)∧k<=L.length∧Hid (Below w.heap.size w wr)) (fun _ l _=>L.length-(intOf l).toNat)
 case atStart=>exact⟨0,rfl,by rw[M.o];rfl,zai _,zac _ _⟩
 case round=>
  obtain⟨k,rfl,rfl,a,d⟩:=hrel;by_cases j:k<L.length
  case neg=>
   have e:k=L.length:=by omega
   subst e;go_wp2;go_ret;exact⟨rfl,d.out⟩
  obtain⟨b,S,x,rfl,y,q⟩:=A.o k j;have O:=y wr d.out;have i:=ZZ (B.o k j);have D:=ZZ (K.o k j);have E:=J.o (k+1);rw[i.o] at E;obtain⟨P,R,rfl,-⟩:=q wr d.out;obtain⟨t,f⟩:=zgy (Z (k+1));rw[<-f] at i;have N:=ZZ f;generalize Z k=z at *;generalize ZgE ((L.getD k []).length:Int)=sz at *;generalize (L.getD k []).length=n at *;clear y q f
  go_wp2_with fail
  refine(D.o _).mono ?_;rintro e Q ⟨rfl,p⟩;have H:=ZZ (d.out.trans (p.mono d.out.size));clear p;go_wp2;go_roundw
  case rel=>exact⟨k+1,by go_num,by rw[<-N.o,i.o];go_num,by omega,H⟩
  case measure=>simp[intOf];omega
theorem ZpR (a b c:Int) (W:World):(Instr.index 188 (.agg #[.int .i64 a,.int .i64 b,.int .i64 c]) (.int .i64 0)).run prog W=.ok (.int .i64 a) W:=by
 simp[Instr.index,zev underlying188,asIntOf,go_sem]
theorem ZpS (c a b:Int) (W:World):(Instr.index 188 (.agg #[.int .i64 c,.int .i64 a,.int .i64 b]) (.int .i64 1)).run prog W=.ok (.int .i64 a) W:=by
 simp[Instr.index,zev underlying188,asIntOf,go_sem]
theorem ZpT (c b a:Int) (W:World):(Instr.index 188 (.agg #[.int .i64 c,.int .i64 b,.int .i64 a]) (.int .i64 2)).run prog W=.ok (.int .i64 a) W:=by
 simp[Instr.index,zev underlying188,asIntOf,go_sem]
theorem ZnM (v k f:Int) (Z:1<=v∧v<=3) (h:Zgs k f) (w:World):
 Calls prog 138 #[.agg #[.int .i64 v,.int .i64 k,.int .i64 f]] w fun e w'=>∃ v',e=.returned v'∧Own w' w.heap.size v' (Xq v.toNat k.toNat f.toNat)∧Below w.heap.size w w':=by
 obtain⟨O,k1,V,N⟩:=h
 have t:Hid (∀ c l n W,Rd W c l->l.length<=1000->0<=n->n<4611686018427387904->Calls prog 132 #[c,.int .i64 n] W fun e w'=>∃ v',e=.returned v'∧Own w' W.heap.size v' (l++Lib.uvarint n.toNat)∧Below W.heap.size W w'):=fun c l n W h hl Q L=>by
  have h:=ZbE c l n W h (by omega)
  rw[J0 Q L] at h;exact h
 have T:(Lib.uvarint v.toNat).length<=10:=Gh (by omega)
 have M:(Lib.uvarint k.toNat).length<=10:=Gh (by omega)
 have D:Hid (Xq v.toNat k.toNat f.toNat=(([108]++Lib.uvarint v.toNat)++Lib.uvarint k.toNat)++Lib.uvarint f.toNat):=ZZ (by unfold Xq;simp)
 have H:=ZZ (fun c W h=>t.o c [108] v W h (by simp) (by omega) (by omega))
 have J:=ZZ (fun c W h=>t.o c ([108]++Lib.uvarint v.toNat) k W h (by simp only [length_append,zcm];omega) O (by omega))
 have y:=ZZ (fun c W h=>t.o c (([108]++Lib.uvarint v.toNat)++Lib.uvarint k.toNat) f W h (by simp only [length_append,zcm];omega) V N)
 rw[<-D.o] at y;clear D t;obtain⟨d,m⟩:∃ d:Nat->List UInt8,d=fun q=>if q=0 then[108] else if q=1 then[108]++Lib.uvarint v.toNat else if q=2 then[108]++Lib.uvarint v.toNat++Lib.uvarint k.toNat else Xq v.toNat k.toNat f.toNat:=⟨_,rfl⟩
 have A:[108]=d 0:=by rw[m];rfl
 have x:[108]++Lib.uvarint v.toNat=d 1:=by rw[m];rfl
 have z:[108]++Lib.uvarint v.toNat++Lib.uvarint k.toNat=d 2:=by rw[m];rfl
 have B:Xq v.toNat k.toNat f.toNat=d 3:=by rw[m];rfl
 have S:Hid (∀ W:World,Rd (W.alloc (.cells #[.int .u8 108] 5)) (.slice (some ⟨W.heap.size,0,none⟩) 1 1) (d 0)):=ZZ (fun W=>by rw[<-A];exact Rd.byte W 108)
 rw[z,B] at y;rw[z,x] at J;rw[x,A] at H;rw[B];clear A x z B m T M;have P:Hid (∀ X Y,Below w.heap.size w ((w.alloc X).alloc Y)):=fun X Y=>Below.allocs (Below.allocs (zac _ _) X) Y
 go_enter func138,ntmps138
 go_wp2
 go_loopw[3,8] (fun E u wr=>∃ q:Nat,u=.int .i64 (q:Int)∧q<=3∧Hid (Rd wr E (d q))∧Hid (1<=q->Own wr w.heap.size E (d q))∧Hid (Below w.heap.size w wr)) (fun _ u _=>3-(intOf u).toNat)
 case atStart=>
  refine⟨0,rfl,zai _,?_,fun h=>absurd h (by decide),P.o _ _⟩
  have h:=S.o (w.alloc (.cells #[.int .i64 v,.int .i64 k,.int .i64 f] 188));have e:(w.alloc (.cells #[.int .i64 v,.int .i64 k,.int .i64 f] 188)).heap.size=w.heap.size+1:=by simp
  rw[e] at h;exact h
 case round=>
  obtain⟨q,rfl,hq,C,R,b⟩:=hrel;by_cases aa:q<3
  case neg=>
   have e:q=3:=by omega
   subst e;have U:=ZZ (R.out (by decide))
   go_wp2;go_ret;exact⟨_,rfl,U.o,b.out⟩
  have K:q=0∨q=1∨q=2:=by omega
  rcases K with rfl | rfl | rfl
  ·have G:=ZpR v k f
   go_wp2_with fail
   refine(H.o _ _ C.out).mono ?_;rintro e I ⟨F,rfl,a,g⟩;have p:=ZZ a.rd;have j:=ZZ (a.mono b.out.size);have i:=ZZ (b.out.trans (g.mono b.out.size));clear a g;go_wp2;go_roundw
   case rel=>exact⟨1,rfl,by omega,p,ZZ (fun _=>j.o),i⟩
   case measure=>simp[intOf]
  ·have G:=ZpS v k f
   go_wp2_with fail
   refine(J.o _ _ C.out).mono ?_;rintro e I ⟨F,rfl,a,g⟩;have p:=ZZ a.rd;have j:=ZZ (a.mono b.out.size);have i:=ZZ (b.out.trans (g.mono b.out.size));clear a g;go_wp2;go_roundw
   case rel=>exact⟨2,rfl,by omega,p,ZZ (fun _=>j.o),i⟩
   case measure=>simp[intOf]
  ·have G:=ZpT v k f
   go_wp2_with fail
   refine(y.o _ _ C.out).mono ?_;rintro e I ⟨F,rfl,a,g⟩;have p:=ZZ a.rd;have j:=ZZ (a.mono b.out.size);have i:=ZZ (b.out.trans (g.mono b.out.size));clear a g;go_wp2;go_roundw
   case rel=>exact⟨3,rfl,by omega,p,ZZ (fun _=>j.o),i⟩
   case measure=>simp[intOf]
theorem ZnN (v k f:Int) (w:World):
 Calls prog 93 #[.int .i64 v,.int .i64 k,.int .i64 f] w fun e w'=>Zrb w v k f e w':=by
 unfold Zrb;have j:Hid (∀ X,Below w.heap.size w (w.alloc X)):=fun X=>(zac _ _).alloc zL X
 have C:Hid (∀ cs,(w.alloc (.cells cs 188)).heap[w.heap.size]?=some (.cells cs 188 (0,0))):=fun cs=>zaf w _
 have i:=ZZ (fun W=>ZnL v k f W)
 by_cases p:(1<=v∧v<=3)∧Zgs k f
 case neg=>
  have b:Jj v k f≠0∧ZgI v k f=[]:=by
   unfold Jj ZgI;by_cases a:1<=v∧v<=3
   ·rw[zab a,zab a,zaa (fun h=>p ⟨a,h⟩),zaa (fun h=>p ⟨a,h⟩)]
    exact⟨by decide,rfl⟩
   ·rw[zaa a,zaa a]
    exact⟨by decide,rfl⟩
  obtain⟨b,g⟩:=b;rw[g];generalize Jj v k f=I at *;have N:(I != 0)=true:=by rw[zbf];exact b
  clear p b g
  go_enter func93,ntmps93
  go_wp2_with fail
  refine(i.o _).mono ?_;rintro e m ⟨rfl,d⟩;have l:=ZZ ((j.o _).trans (d.mono (j.o _).size));clear d;go_wp2;go_ret2;exact⟨_,rfl,Own.nil _ _,l.o⟩
 obtain⟨a,c⟩:=p;have E:=ZZ (fun W=>ZnM v k f a c W)
 have b:Jj v k f=0:=by unfold Jj;rw[zab a,zab c]
 have g:ZgI v k f=Qd (Xq v.toNat k.toNat f.toNat):=by unfold ZgI;rw[zab a,zab c]
 have Q:(Xq v.toNat k.toNat f.toNat).length<=40:=ZcP (by omega) (by have:=c.2.1;omega) (by have:=c.2.2.2;omega)
 have z:=ZZ (fun A W (h:Rd W A (Xq v.toNat k.toNat f.toNat))=>Zdj A _ W h)
 rw[ZlW (by omega)] at z
 rw[b] at i ⊢;rw[g];generalize Xq v.toNat k.toNat f.toNat=H at *;generalize Qd H=F at *;clear a c b g
 go_enter func93,ntmps93
 go_wp2_with fail
 refine(i.o _).mono ?_;rintro e m ⟨rfl,d⟩;have n:=ZZ ((d.block _ (by simp)).trans (C.out _))
 have l:=ZZ ((j.o _).trans (d.mono (j.o _).size));clear d i;have B:m.cell? ⟨w.heap.size,0,none⟩=some (.int .i64 v):=zam _ _ 0 _ _ _ n.o;have D:m.cell? ⟨w.heap.size,1,none⟩=some (.int .i64 k):=zam _ _ 1 _ _ _ n.o;have G:m.cell? ⟨w.heap.size,2,none⟩=some (.int .i64 f):=zam _ _ 2 _ _ _ n.o
 go_wp2_with fail
 refine(E.o _).mono ?_;rintro e P ⟨M,rfl,u,t⟩;have J:=ZZ u.rd;have q:=ZZ (l.o.trans (t.mono l.o.size));clear u t B D G n
 go_wp2_with fail
 refine(z.o _ _ J.o).mono ?_;rintro e O ⟨R,rfl,x,y⟩;have L:=ZZ (x.mono q.o.size);have K:=ZZ (q.o.trans (y.mono q.o.size));clear x y;go_wp2;go_ret2;exact⟨_,rfl,L.o,K.o⟩
def Bhd (w:World) (b:Nat) (x y z:Int):Prop:=w.heap[b]?=some (.cells #[.int .i64 x,.int .i64 y,.int .i64 z] 188 (0,0))
theorem Bhd.lt (h:Bhd w b x y z):b<w.heap.size:=(zan.1 h).1
theorem Bhd.below (h:Bhd w b x y z) (a:Below B w w') (c:b<B):Bhd w' b x y z:=(a.block b c).trans h
theorem Bhd.cell (h:Bhd w b x y z):(w.cell? ⟨b,0,none⟩=some (.int .i64 x)∧w.cell? ⟨b,1,none⟩=some (.int .i64 y)∧w.cell? ⟨b,2,none⟩=some (.int .i64 z))∧∀ j,w.frozen? ⟨b,j,none⟩=false:=
 ⟨⟨zam w b 0 _ _ _ h,zam w b 1 _ _ _ h,zam w b 2 _ _ _ h⟩,fun j=>za2 w b j _ _ h⟩
theorem Bhd.set0 (h:Bhd w b x y z) (n:Int):Bhd (w.setCell ⟨b,0,none⟩ (.int .i64 n)) b n y z:=by
 have a:=zba w b 0 _ _ (.int .i64 n) h;unfold Bhd;simpa using a
theorem Bhd.set1 (h:Bhd w b x y z) (n:Int):Bhd (w.setCell ⟨b,1,none⟩ (.int .i64 n)) b x n z:=by
 have a:=zba w b 1 _ _ (.int .i64 n) h;unfold Bhd;simpa using a
theorem Bhd.set2 (h:Bhd w b x y z) (n:Int):Bhd (w.setCell ⟨b,2,none⟩ (.int .i64 n)) b x y n:=by
 have a:=zba w b 2 _ _ (.int .i64 n) h;unfold Bhd;simpa using a
theorem Bhd.other {c:Nat} (h:Bhd w b x y z) (a:b≠c) (j:Nat) (u:Value):Bhd (w.setCell ⟨c,j,none⟩ u) b x y z:=(zal _ _ _ _ a).trans h
def ZzP:Except Int (Nat × Nat × Nat)->Int
 | .error e=>e
 | .ok _=>0
def ZaR (w:World) (d:List UInt8) (e:Ending) (w':World):Prop:=
 ∃ x y z:Int,e=.returned (.tuple #[.agg #[.int .i64 x,.int .i64 y,.int .i64 z],.int .i64 (ZzP (Z0 d))])∧(∀ v k f,Z0 d=.ok (v,k,f)->x=(v:Int)∧y=(k:Int)∧z=(f:Int))∧Below w.heap.size w w'
theorem ZaR.form {d:List UInt8} (h:Z0 d=.error 3) (b:Below w.heap.size w w'):ZaR w d (.returned (.tuple #[.agg #[.int .i64 0,.int .i64 0,.int .i64 0],.int .i64 3])) w':=
 ⟨0,0,0,by rw[h];rfl,(fun v k f a=>by rw[h] at a;cases a),b⟩
theorem ZlY (v:Value) (d:List UInt8) (w:World) (hr:Rd w v d):
 Calls prog 203 #[v] w fun e w'=>ZaR w d e w':=by
 have HR:=ZZ hr;obtain⟨ao,cap,rfl,a5,aL,-,aT⟩:=hr;have bk:(d.length:Int)<=9223372036854775807:=by unfold maxLen at aL;omega
 have ay:Hid (∀ X,Below w.heap.size w (w.alloc X)):=fun X=>(zac _ _).alloc zL X
 by_cases h0:d.length=0
 ·have e:d=[]:=zaj h0
  have B:Hid (Z0 d=.error 3):=ZZ (ZkE (.inl e));have aZ:((d.length:Int) == 0)=true:=by rw[za8];omega
  clear e h0 aT
  go_enter func203,ntmps203
  go_wp2;refine zap (v:=.tuple #[.agg #[.int .i64 0,.int .i64 0,.int .i64 0],.int .i64 3]) (by simp[results,Tryz.results203,go_sem]) rfl ?_
  exact ZaR.form B.o (ay.o _)
 have aZ:((d.length:Int) == 0)=false:=zad.2 (by omega)
 have bi:(0:Int)<(d.length:Int):=by omega
 have av:d≠[]:=fun e=>by rw[e] at h0;simp at h0
 rcases aT with he | ⟨b,ax,rfl,hc⟩
 ·exact absurd he av
 have aA:=hc 0 (by omega)
 have a8:b<w.heap.size:=zau w ⟨b,ax+0,none⟩ aA;have a4:∀ X,(w.alloc X).cell? ⟨b,ax,none⟩=some (.int .u8 ((d.getD 0 0).toNat:Nat)):=fun X=>((ay.o X).cell (p:=⟨b,ax,none⟩) a8).trans aA
 clear hc aA a5 aL;by_cases hm:d.getD 0 0=108
 case neg=>
  have B:Hid (Z0 d=.error 3):=ZZ (ZkE (.inr hm))
  have a7:((((d.getD 0 0).toNat:Nat):Int) != 108)=true:=by
   rw[zbf];intro h;apply hm;apply UInt8.toNat_inj.1;have:(108:UInt8).toNat=108:=rfl;omega
  clear hm av h0;generalize (((d.getD 0 0).toNat:Nat):Int)=c0 at *
  go_enter func203,ntmps203
  go_wp2;refine zap (v:=.tuple #[.agg #[.int .i64 0,.int .i64 0,.int .i64 0],.int .i64 3]) (by simp[results,Tryz.results203,go_sem]) rfl ?_
  exact ZaR.form B.o (ay.o _)
 have a7:((((d.getD 0 0).toNat:Nat):Int) != 108)=false:=by
  rw[hm];rfl
 have aG:¬ (d=[]∨d.getD 0 0≠108):=by rintro(h | h);exact av h;exact h hm
 generalize (((d.getD 0 0).toNat:Nat):Int)=c0 at *;obtain⟨a1,c1,aE,aF⟩:=Zym w _ d cap HR.o 1 (by omega)
 obtain⟨⟨D,g⟩,au⟩:∃ x,Qb (d.drop 1)=x:=⟨_,rfl⟩;obtain⟨⟨E,m⟩,ar⟩:∃ x,Qb (d.drop (1+g))=x:=⟨_,rfl⟩;obtain⟨⟨H,F⟩,ag⟩:∃ x,Qb (d.drop (1+g+m))=x:=⟨_,rfl⟩;have an:=Ju (d.drop 1);have aq:=Ju (d.drop (1+g));have aw:=Ju (d.drop (1+g+m));have q2:=Zxv (d.drop (1+g+m));rw[au,length_drop] at an;rw[ar,length_drop] at aq;rw[ag,length_drop] at aw;rw[ag] at q2;simp only at an aq aw q2;have B:=ZZ (ZsN aG au ar ag)
 have aS:=aF 1 rfl
 -- the three rounds
 have aH:=ZZ aE;have HF:=ZZ (fun W=>ZnL (D:Int) (E:Int) (H:Int) W)
 have X1:Hid (∀ x y z Y,Bhd ((w.alloc (.cells #[.int .i64 x,.int .i64 y,.int .i64 z] 188)).alloc Y) w.heap.size x y z):=fun x y z Y=>(zao _ _ _ (by simp)).trans (zaf w _)
 have X2:Hid (∀ X x y z,Bhd ((w.alloc X).alloc (.cells #[.int .i64 x,.int .i64 y,.int .i64 z] 188)) (w.heap.size+1) x y z):=fun X x y z=>Zpl w X _
 have ac:Hid (∀ X Y,Below w.heap.size w ((w.alloc X).alloc Y)):=fun X Y=>Below.allocs (Below.allocs (zac _ _) X) Y
 clear aE aF hm av h0;obtain⟨l,al⟩:∃ l:Nat->Nat,l=fun q=>if q=0 then 1 else if q=1 then 1+g else if q=2 then 1+g+m else 1+g+m+F:=⟨_,rfl⟩
 have p0:l 0=1:=by rw[al];rfl
 have p1:l 1=1+g:=by rw[al];rfl
 have p2:l 2=1+g+m:=by rw[al];rfl
 have p3:l 3=1+g+m+F:=by rw[al];rfl
 have u:Hid (l 0=1∧l 1=1+g∧l 2=1+g+m∧l 3=1+g+m+F):=ZZ ⟨p0,p1,p2,p3⟩;obtain⟨t,aQ⟩:∃ t:Nat->Nat,t=fun q=>(d.drop (l q)).length:=⟨_,rfl⟩
 have U:Hid (∀ q,t q=(d.drop (l q)).length):=ZZ (fun q=>by rw[aQ])
 have aV:Hid (Rd w (.slice a1 (t 0) c1) (d.drop (l 0))):=ZZ (by rw[U.o,p0];exact aH.o)
 have aY:∀ W,(Instr.sliceAt 53 (.slice (some ⟨b,ax,none⟩) d.length cap) (some (.int .i64 1)) none none).run prog W=.ok (.slice a1 (t 0) c1) W:=by rw[U.o,p0];exact aS
 have az:Hid (∀ (a:Option Addr) (c q k:Nat),l (q+1)=l q+k->l q+k<=d.length->Rd w (.slice a (t q) c) (d.drop (l q))->∃ a' c',Rd w (.slice a' (t (q+1)) c') (d.drop (l (q+1)))∧∀ i:Int,i=(k:Int)->∀ W,(Instr.sliceAt 53 (.slice a (t q) c) (some (.int .i64 i)) none none).run prog W=.ok (.slice a' (t (q+1)) c') W):=ZZ (fun a c q k hp A aW=>by
  rw[U.o q] at aW;obtain⟨a',c',h1,h2⟩:=Zym w a (d.drop (l q)) c aW k (by rw[length_drop];omega)
  rw[zdp,<-hp,<-U.o (q+1)] at h1;rw[zdp,<-hp,<-U.o q,<-U.o (q+1)] at h2
  exact⟨a',c',h1,h2⟩)
 have HG:Hid (∀ W a c q n k,Below w.heap.size w W->Rd w (.slice a (t q) c) (d.drop (l q))->Qb (d.drop (l q))=(n,k)->Calls prog 168 #[.slice a (t q) c] W fun e w'=>e=.returned (.tuple #[.int .i64 (n:Int),.int .i64 (k:Int)])∧w'=W):=ZZ (fun W a c q n k hb h hd=>by
  have hx:=ZcJ _ _ W (h.below hb zL);rw[hd] at hx
  exact hx)
 have HD:Hid (Qb (d.drop 1)=(D,g)∧Qb (d.drop (1+g))=(E,m)∧Qb (d.drop (1+g+m))=(H,F)):=ZZ ⟨au,ar,ag⟩;have V:Hid (g<=d.length-1∧m<=d.length-(1+g)∧F<=d.length-(1+g+m)):=ZZ ⟨an,aq,aw⟩;clear al aQ p0 p1 p2 p3 aH aS au ar ag an aq aw aG
 go_enter func203,ntmps203
 go_wp2
 go_loopw[5,21] (fun vl vi wr=>∃ (q:Nat) (a:Option Addr) (c:Nat) (x y z:Int),vi=.int .i64 (q:Int)∧vl=.slice a (t q) c∧q<=3∧Hid (Rd w (.slice a (t q) c) (d.drop (l q)))∧Hid (Bhd wr (w.heap.size+1) x y z)∧Hid (Bhd wr w.heap.size 0 0 0)∧Hid ((1<=q->x=(D:Int)∧g≠0)∧(2<=q->y=(E:Int)∧m≠0)∧(3<=q->z=(H:Int)∧F≠0))∧Hid (Below w.heap.size w wr)) (fun _ vi _=>3-(intOf vi).toNat)
 case atStart=>exact⟨0,a1,c1,0,0,0,rfl,rfl,zai _,aV,ZZ (X2.out _ _ _ _),ZZ (X1.out _ _ _ _),ZZ ⟨fun h=>absurd h (by decide),fun h=>absurd h (by decide),fun h=>absurd h (by decide)⟩,ZZ (ac.o _ _)⟩
 case round=>
  obtain⟨q,a,c,x,y,z,rfl,rfl,hq,ab,I,J,hI,G⟩:=hrel;clear aV aY a4;by_cases bc:q<3
  case neg=>
   have e:q=3:=by omega
   subst e;have h1:=hI.out.1 (by decide)
   have h2:=hI.out.2.1 (by decide)
   have h3:=hI.out.2.2 (by decide)
   obtain⟨rfl,aM⟩:=h1;obtain⟨rfl,aN⟩:=h2;obtain⟨rfl,aK⟩:=h3;by_cases aC:1+g+m+F=d.length
   case neg=>
    have O:Hid (Z0 d=.error 3):=ZZ (by rw[B.o,zab (.inr (.inr (.inr aC)))])
    have am:t 3≠0:=by
     rw[U.o,u.o.2.2.2,length_drop];have:=V.o;omega
    have bd:(0:Int)<(t 3:Int):=by omega
    have a6:0<t 3:=by omega
    have bj:decide (0<t 3)=true:=zah a6;generalize t 3=ln at *;obtain⟨⟨Q,S,R⟩,j⟩:=J.out.cell;have f0:=j 0;have f1:=j 1;have f2:=j 2;clear j am aM aN aK aC B;go_wp2;refine zap (v:=.tuple #[.agg #[.int .i64 0,.int .i64 0,.int .i64 0],.int .i64 3]) (by simp[results,Tryz.results203,go_sem,Q,S,R]) rfl ?_
    exact ZaR.form O.o (Z3 G.out _ zL _ _ _)
   have am:t 3=0:=by
    rw[U.o,u.o.2.2.2,length_drop];omega
   have aO:Hid (Jj (D:Int) (E:Int) (H:Int)=ZzP (Z0 d)):=ZZ (by
    rw[B.o,zaa (by omega)]
    unfold Jj;by_cases g1:D<1∨3<D
    ·rw[zaa (by omega),zab g1];rfl
    ·rw[zab (by omega),zaa g1]
     by_cases g2:6<=E
     ·rw[zab g2,zaa (fun h=>by have:=h.2.1;omega)];rfl
     ·rw[zaa g2,zab ⟨by omega,by omega,by omega,by omega⟩];rfl)
   have a9:Hid (∀ v k f,Z0 d=.ok (v,k,f)->(D:Int)=(v:Int)∧(E:Int)=(k:Int)∧(H:Int)=(f:Int)):=ZZ (fun v k f P=>by
    rw[B.o] at P;split at P
    ·cases P
    split at P
    ·cases P
    split at P
    ·cases P
    simp only [Except.ok.injEq,zca] at P;obtain⟨rfl,rfl,rfl⟩:=P
    exact⟨rfl,rfl,rfl⟩)
   rw[aO.o] at HF;rw[am] at ab ⊢;obtain⟨er,aD⟩:=zgy (ZzP (Z0 d));rw[<-aD] at HF;have a3:=ZZ aD;clear aD;obtain⟨⟨Q,S,R⟩,j⟩:=J.out.cell;have f0:=j 0;have f1:=j 1;have f2:=j 2;obtain⟨⟨g0,g1,g2⟩,-⟩:=I.out.cell;have aJ:Hid (∀ W,Below wr.heap.size wr W->W.cell? ⟨w.heap.size+1,0,none⟩=some (.int .i64 (D:Int))∧W.cell? ⟨w.heap.size+1,1,none⟩=some (.int .i64 (E:Int))∧W.cell? ⟨w.heap.size+1,2,none⟩=some (.int .i64 (H:Int))):=ZZ (fun W hb=>(I.out.below hb I.out.lt).cell.1)
   have aU:Hid (Below wr.heap.size wr wr.drew):=ZZ ((zac _ _).drew);have a2:=ZZ (aJ.o _ aU.o);generalize (D:Int)=L at *;generalize (E:Int)=M at *;generalize (H:Int)=K at *;clear j aM aN aK aC B aO V HD hI am u;have bf:w.heap.size≠w.heap.size+1:=by omega
   have aP:Hid (Bhd (((wr.setCell ⟨w.heap.size,0,none⟩ (.int .i64 L)).setCell ⟨w.heap.size,1,none⟩ (.int .i64 M)).setCell ⟨w.heap.size,2,none⟩ (.int .i64 K)) w.heap.size L M K):=ZZ (((J.out.set0 L).set1 M).set2 K);have aB:Hid (Bhd (((wr.setCell ⟨w.heap.size,0,none⟩ (.int .i64 L)).setCell ⟨w.heap.size,1,none⟩ (.int .i64 M)).setCell ⟨w.heap.size,2,none⟩ (.int .i64 K)) (w.heap.size+1) L M K):=ZZ (((I.out.other (by omega) 0 _).other (by omega) 1 _).other (by omega) 2 _)
   have aX:Hid (Below w.heap.size w (((wr.setCell ⟨w.heap.size,0,none⟩ (.int .i64 L)).setCell ⟨w.heap.size,1,none⟩ (.int .i64 M)).setCell ⟨w.heap.size,2,none⟩ (.int .i64 K)).drew):=ZZ (Z3 G.out _ zL _ _ _).drew
   go_upto_region 15 with fail
   go_region_held2(fun w'=>w'.cell? ⟨w.heap.size+1,0,none⟩=some (.int .i64 L)∧w'.cell? ⟨w.heap.size+1,1,none⟩=some (.int .i64 M)∧w'.cell? ⟨w.heap.size+1,2,none⟩=some (.int .i64 K)) (first | exact a2.o | exact a0.o | exact ba.o | exact aB.o.cell.1 | go_keep)
    (first
     | (go_at_call 137;refine(HF.o wr.drew).mono ?_;rintro e N ⟨rfl,aR⟩;have ac:=ZZ (aU.o.trans aR);have a0:=ZZ (aJ.o N ac.o);have aI:=ZZ (G.out.trans (ac.o.mono G.out.size));obtain⟨⟨s0,s1,s2⟩,sf⟩:=(J.out.below ac.o J.out.lt).cell;have be:=sf 0;have bb:=sf 1;have bg:=sf 2;obtain⟨⟨t0,t1,t2⟩,-⟩:=(I.out.below ac.o I.out.lt).cell;clear aR sf)
     | (go_at_call 137;refine(HF.o (((wr.setCell ⟨w.heap.size,0,none⟩ (.int .i64 L)).setCell ⟨w.heap.size,1,none⟩ (.int .i64 M)).setCell ⟨w.heap.size,2,none⟩ (.int .i64 K)).drew).mono ?_;rintro e W3 ⟨rfl,ap⟩;have ba:=ZZ (aB.o.below ap aB.o.lt).cell.1;have O:=ZZ (aX.o.trans (ap.mono aX.o.size));obtain⟨⟨s0,s1,s2⟩,-⟩:=(aP.o.below ap aP.o.lt).cell;clear ap))
   all_goals
    go_wp2;refine zap (v:=.tuple #[.agg #[.int .i64 L,.int .i64 M,.int .i64 K],.int .i64 er]) (by simp[results,Tryz.results203,go_sem,s0,s1,s2]) rfl ⟨L,M,K,by rw[a3.o],a9.o,?_⟩
    first
    | exact O.o
    | exact(Z3 aI.o _ zL _ _ _)
    | exact(Z3 aI.o _ zL _ _ _).drew
  have h3:q=0∨q=1∨q=2:=by omega
  rcases h3 with rfl | rfl | rfl
  ·have aa:=ZZ (HG.o wr a c 0 D g G.out ab.out (by rw[u.o.1];exact HD.o.1))
   by_cases A:g=0
   ·have O:Hid (Z0 d=.error 3):=ZZ (by rw[B.o,zab (.inl A)])
    have ae:((g:Int) == 0)=true:=by rw[za8];omega
    obtain⟨⟨Q,S,R⟩,j⟩:=J.out.cell;have f0:=j 0;have f1:=j 1;have f2:=j 2;clear j A B V
    go_wp2_with fail
    refine aa.o.mono ?_;rintro e N ⟨rfl,C⟩;rw[C];go_wp2;refine zap (v:=.tuple #[.agg #[.int .i64 0,.int .i64 0,.int .i64 0],.int .i64 3]) (by simp[results,Tryz.results203,go_sem,Q,S,R]) rfl ?_
    exact ZaR.form O.o (Z3 G.out _ zL _ _ _)
   have ae:((g:Int) == 0)=false:=zad.2 (by omega)
   have ai:=ZZ A;obtain⟨a',c',T,hcut⟩:=az.o a c 0 g (by rw[u.o.2.1,u.o.1]) (by rw[u.o.1];have:=V.o;omega) ab.out
   have kc:=hcut (g:Int) rfl;have aj:=ZZ T;obtain⟨⟨g0,g1,g2⟩,Z⟩:=I.out.cell;have fq:=Z 0;have ad:=ZZ (I.out.set0 (D:Int));have ak:=ZZ (J.out.other (show w.heap.size≠w.heap.size+1 by omega) 0 (.int .i64 (D:Int)))
   have af:=ZZ (G.out.setCell (p:=⟨w.heap.size+1,0,none⟩) (show w.heap.size<=w.heap.size+1 by omega) (.int .i64 (D:Int)))
   clear A hcut T Z
   go_wp2_with fail
   refine aa.o.mono ?_;rintro e N ⟨rfl,C⟩;rw[C];clear C N;go_wp2
   go_region
   all_goals
    go_wp2;go_roundw
    case rel=>exact⟨1,a',c',(D:Int),y,z,rfl,rfl,by omega,aj,ad,ak,ZZ ⟨fun _=>⟨rfl,ai.o⟩,fun h=>absurd h (by decide),fun h=>absurd h (by decide)⟩,ZZ af.o.drew⟩
    case measure=>simp[intOf]
  ·have aa:=ZZ (HG.o wr a c 1 E m G.out ab.out (by rw[u.o.2.1];exact HD.o.2.1))
   by_cases A:m=0
   ·have O:Hid (Z0 d=.error 3):=ZZ (by rw[B.o,zab (.inr (.inl A))])
    have ae:((m:Int) == 0)=true:=by rw[za8];omega
    obtain⟨⟨Q,S,R⟩,j⟩:=J.out.cell;have f0:=j 0;have f1:=j 1;have f2:=j 2;clear j A B V
    go_wp2_with fail
    refine aa.o.mono ?_;rintro e N ⟨rfl,C⟩;rw[C];go_wp2;refine zap (v:=.tuple #[.agg #[.int .i64 0,.int .i64 0,.int .i64 0],.int .i64 3]) (by simp[results,Tryz.results203,go_sem,Q,S,R]) rfl ?_
    exact ZaR.form O.o (Z3 G.out _ zL _ _ _)
   have ae:((m:Int) == 0)=false:=zad.2 (by omega)
   have ai:=ZZ A;obtain⟨a',c',T,hcut⟩:=az.o a c 1 m (by rw[u.o.2.2.1,u.o.2.1]) (by rw[u.o.2.1];have:=V.o;omega) ab.out
   have kc:=hcut (m:Int) rfl;have aj:=ZZ T;obtain⟨⟨g0,g1,g2⟩,Z⟩:=I.out.cell;have fq:=Z 1;have ad:=ZZ (I.out.set1 (E:Int));have ak:=ZZ (J.out.other (show w.heap.size≠w.heap.size+1 by omega) 1 (.int .i64 (E:Int)))
   have af:=ZZ (G.out.setCell (p:=⟨w.heap.size+1,1,none⟩) (show w.heap.size<=w.heap.size+1 by omega) (.int .i64 (E:Int)))
   clear A hcut T Z
   go_wp2_with fail
   refine aa.o.mono ?_;rintro e N ⟨rfl,C⟩;rw[C];clear C N;go_wp2
   go_region
   all_goals
    go_wp2;go_roundw
    case rel=>exact⟨2,a',c',x,(E:Int),z,rfl,rfl,by omega,aj,ad,ak,ZZ ⟨fun _=>hI.out.1 (by decide),fun _=>⟨rfl,ai.o⟩,fun h=>absurd h (by decide)⟩,ZZ af.o.drew⟩
    case measure=>simp[intOf]
  ·have aa:=ZZ (HG.o wr a c 2 H F G.out ab.out (by rw[u.o.2.2.1];exact HD.o.2.2))
   by_cases A:F=0
   ·have O:Hid (Z0 d=.error 3):=ZZ (by rw[B.o,zab (.inr (.inr (.inl A)))])
    have ae:((F:Int) == 0)=true:=by rw[za8];omega
    obtain⟨⟨Q,S,R⟩,j⟩:=J.out.cell;have f0:=j 0;have f1:=j 1;have f2:=j 2;clear j A B V
    go_wp2_with fail
    refine aa.o.mono ?_;rintro e N ⟨rfl,C⟩;rw[C];go_wp2;refine zap (v:=.tuple #[.agg #[.int .i64 0,.int .i64 0,.int .i64 0],.int .i64 3]) (by simp[results,Tryz.results203,go_sem,Q,S,R]) rfl ?_
    exact ZaR.form O.o (Z3 G.out _ zL _ _ _)
   have ae:((F:Int) == 0)=false:=zad.2 (by omega)
   have ai:=ZZ A;obtain⟨a',c',T,hcut⟩:=az.o a c 2 F (by rw[u.o.2.2.2,u.o.2.2.1]) (by rw[u.o.2.2.1];have:=V.o;omega) ab.out
   have kc:=hcut (F:Int) rfl;have aj:=ZZ T;obtain⟨⟨g0,g1,g2⟩,Z⟩:=I.out.cell;have fq:=Z 2;have ad:=ZZ (I.out.set2 (H:Int));have ak:=ZZ (J.out.other (show w.heap.size≠w.heap.size+1 by omega) 2 (.int .i64 (H:Int)))
   have af:=ZZ (G.out.setCell (p:=⟨w.heap.size+1,2,none⟩) (show w.heap.size<=w.heap.size+1 by omega) (.int .i64 (H:Int)))
   clear A hcut T Z
   go_wp2_with fail
   refine aa.o.mono ?_;rintro e N ⟨rfl,C⟩;rw[C];clear C N;go_wp2
   go_region
   all_goals
    go_wp2;go_roundw
    case rel=>exact⟨3,a',c',x,y,(H:Int),rfl,rfl,by omega,aj,ad,ak,ZZ ⟨fun _=>hI.out.1 (by decide),fun _=>hI.out.2.1 (by decide),fun _=>⟨rfl,ai.o⟩⟩,ZZ af.o.drew⟩
    case measure=>simp[intOf]
theorem ZpU (v k f:Int) (a:Option Addr) (n c:Nat) (w:World):
 Calls prog 205 #[.agg #[.int .i64 v,.int .i64 k,.int .i64 f],.slice a n c] w fun e w'=>e=.returned (.agg #[.int .i64 k,.int .i64 f,.slice a n c])∧Below w.heap.size w w':=by
 have b:Hid (∀ X Y,Below w.heap.size w ((w.alloc X).alloc Y)):=fun X Y=>Below.allocs (Below.allocs (zac _ _) X) Y
 go_enter func205,ntmps205
 go_wp2;refine zap (v:=.agg #[.int .i64 k,.int .i64 f,.slice a n c]) (by simp[results,Tryz.results205,go_sem]) rfl ⟨rfl,?_⟩
 exact b.o _ _
def ZkF (w:World) (v f:Nat) (B:List (List UInt8)) (e:Ending) (w':World):Prop:=
 ∃ vl,e=.returned (.tuple #[vl,.int .i64 ((J4 v f B [] 16).2.1:Int),.int .i64 (J4 v f B [] 16).2.2])∧Xj w' w.heap.size vl (J4 v f B [] 16).1∧(∀ r ∈ (J4 v f B [] 16).1,Zcx r)∧Below w.heap.size w w'
theorem Bsg.set3 {R:Nat} {a b c:Value} (h:Bsg w R #[a,b,c]) (f e d:Value):Bsg (((w.setCell ⟨R,0,none⟩ f).setCell ⟨R,1,none⟩ e).setCell ⟨R,2,none⟩ d) R #[f,e,d]:=by
 have g:=zba w R 0 _ _ f h;have i:=zba _ R 1 _ _ e g;have j:=zba _ R 2 _ _ d i;unfold Bsg;simpa using j
theorem Zik.set {C:Nat} (h:Zik w C v L) (R i:Nat) (a:R<C) (x:Value):Zik (w.setCell ⟨R,i,none⟩ x) C v L:=by
 obtain⟨xs,d,f⟩:=h;refine⟨xs,zbx d a x,fun j b=>?_⟩
 obtain⟨y,c,e⟩:=f j b;exact⟨y,c,zbx e a x⟩
theorem ZkG (v:Value) (l:List UInt8) (w:World) (g:Rd w v l) (k:l.length<=1000000):
 Calls prog 118 #[v] w fun e w'=>∃ v',e=.returned (.tuple #[v',.int .i64 ((Qp l).2.1:Nat)])∧Zik w' w.heap.size v' (Qp l).1∧Below w.heap.size w w':=by
 have b:=ZZ (ZnK v l w g k);clear g
 go_enter func118,ntmps118
 go_wp2_with fail
 refine b.o.mono ?_;rintro e q ⟨p,rfl,f,d⟩;have n:=ZZ f;have j:=ZZ d;clear f d b;obtain⟨m,a⟩:=zgy ((Qp l).2.1);have i:=ZZ a;rw[<-a];clear a;generalize (Qp l).2.2=c at *;go_wp2;go_ret2;exact⟨_,by rw[i.o];rfl,n.o,j.o⟩
theorem ZiH (v:Nat) (k f:Int) (b:Value) (w:World) (l:∃ a c,b=.slice a 0 c):
 Calls prog 204 #[.agg #[.int .i64 (v:Int),.int .i64 k,.int .i64 f],b] w fun e w'=>e=.returned (.tuple #[.slice none 0 0,.int .i64 0,.int .i64 0])∧Below w.heap.size w w':=by
 obtain⟨a,c,rfl⟩:=l;have j:Hid (∀ X,Below w.heap.size w (w.alloc X)):=fun X=>(zac _ _).alloc zL X
 generalize (v:Int)=V
 go_enter func204,ntmps204
 go_wp2
 go_loopw[7,14] (fun g i wr=>g=.slice none 0 0∧i=.int .i64 0∧Hid (Below w.heap.size w wr)) (fun _ _ _=>0)
 case atStart=>exact⟨rfl,rfl,ZZ (j.o _)⟩
 case round=>
  obtain⟨rfl,rfl,d⟩:=hrel;go_wp2;refine zap (v:=.tuple #[.slice none 0 0,.int .i64 0,.int .i64 0]) (by simp[results,Tryz.results204,go_sem]) rfl ?_
  exact⟨rfl,d.o⟩
theorem ZjR (vb:Value) (b:List UInt8) (w:World) (hr:Rd w vb b) (bU:b.length<=100000) (bk:(Qp b).1.tail=[]):
 Calls prog 166 #[vb] w fun e w'=>Zbb w b e w':=by
 have F:Hid (∀ X,Below w.heap.size w (w.alloc X)):=fun X=>(zac _ _).alloc zL X
 have X1:Hid (∀ cs,Bsg (w.alloc (.cells cs 217)) w.heap.size cs):=fun cs=>zaf w _
 have ac:=ZZ (fun X=>ZkG vb b (w.alloc X) (hr.below (F.o X) zL) (by omega))
 obtain⟨ab,cb,rfl,-⟩:=hr;obtain⟨ay,aY⟩:=ZeQ b;obtain⟨bl,-⟩:=Zcm _ b zL
 have a5:(Qf (Qp b).1).length<=100000:=by
  rw[bl,zbt];omega
 have av:=ZZ (fun h=>ZsQ (b:=b) h)
 have aB:Hid ((Qp b).1=[]->Gv b=(Zev,0,false)):=ZZ (fun h=>by unfold Gv ZwK;rw[zab h])
 generalize (Qp b).2.1=tk at *;generalize (Qp b).1=L at *;have bD:=ZZ bk;clear bk bl;by_cases h0:L.length=0
 ·have e:L=[]:=zaj h0
  have l:=ZZ (aB.o e);have bq:((L.length:Int) == 0)=true:=by rw[za8];omega
  clear av aB ay aY a5 h0 e
  go_enter func166,ntmps166
  go_wp2_with fail
  refine(ac.o _).mono ?_;rintro e A ⟨p,rfl,S,D⟩;have K:=ZZ ((X1.out _).below D zL);have ao:=ZZ ((F.o _).trans (D.mono (F.o _).size));obtain⟨a1,Z,rfl,-⟩:=S.rd;clear D ac;obtain⟨r0,f0⟩:=K.o.cell 0;obtain⟨r1,f1⟩:=K.o.cell 1;obtain⟨r2,f2⟩:=K.o.cell 2;go_wp2;refine zap (v:=.tuple #[.agg #[.int .i64 0,.int .i64 0,.slice none 0 0],.int .i64 0,.bool false]) (by simp[results,Tryz.results166,go_sem,r0,r1,r2]) rfl ?_
  exact Zbb.fail l.o (Z3 ao.o _ zL _ _ _)
 have bf:L≠[]:=fun e=>h0 (by rw[e];rfl)
 have bq:((L.length:Int) == 0)=false:=zad.2 (by omega)
 have l:=ZZ (av.o bf);have a8:L.getD 0 []=L.headD []:=by cases L <;> rfl
 have aR:Hid (∀ (v k f:Nat),1<=v->v<=3->f<4611686018427387904->∀ (vp:Value) (W:World),Below w.heap.size w W->RdL W vp L.tail->Calls prog 204 #[.agg #[.int .i64 (v:Int),.int .i64 (k:Int),.int .i64 (f:Int)],vp] W fun e w'=>ZkF W v f L.tail e w'):=ZZ (fun v k f _ _ _ vp W _ h=>by
  rw[bD.o] at h ⊢
  refine(ZiH v k f vp W (by
   obtain⟨a,c,e,-⟩:=h
   exact⟨a,c,e⟩)).mono ?_
  rintro e w' ⟨rfl,hb⟩
  exact⟨_,rfl,Xj.nil _ _,(fun r hr=>by cases hr),hb⟩)
 have bd:Hid (∀ v f,(J4 v f L.tail [] 16).2.1+1<=L.length):=ZZ (fun v f=>by
  have:=ZiG v f L.tail [] 16;rw[List.length_tail] at this
  omega)
 have aO:=ZZ (fun c p W (h:RdL W p (L.take c))=>ZvB p (L.take c) W h (fun x hx=>(ay x (zbq hx)).1) (by have:=ZeR L c;omega))
 have aM:=ZZ (fun p W (h:Rd W p (L.headD []))=>ZlY p (L.headD []) W h)
 have bx:=ZZ (fun v k f a n c W=>ZpU v k f a n c W)
 have bZ:(L.length:Int)<=100000:=by omega
 have bX:(0:Int)<(L.length:Int):=by omega
 unfold ZpP at l;clear av aB ay a5 bf aY
 go_enter func166,ntmps166
 go_wp2_with fail
 refine(ac.o _).mono ?_;rintro e A ⟨p,rfl,S,D⟩;have K:=ZZ ((X1.out _).below D zL);have ao:=ZZ ((F.o _).trans (D.mono (F.o _).size));have ai:=ZZ S.rd;have bP:Hid (Zik A (w.heap.size+1) p L):=ZZ (S.mono (by simp))
 obtain⟨a1,Z,rfl,-⟩:=S.rd;obtain⟨b0,o0,x0,rfl,aL,ae⟩:=ai.o.at 0 (by omega)
 obtain⟨am,cm,aE,aD⟩:=ZvA A _ L L.length Z rfl ai.o 1 (by omega)
 have a2:=ZZ (fun q (hq:q<=L.length)=>ZsP A _ L L.length Z rfl ai.o q hq)
 rw[List.drop_one] at aE aD;rw[a8] at ae;have km:=aD 1 rfl;have a9:=ZZ aE;have aS:=aL A (zac _ _);have aN:=ZZ (ae A (zac _ _));obtain⟨a0,q0,bQ,-⟩:=ae A (zac _ _);subst bQ;rw[zcw] at aS;clear D ac aE aD aL ae X1 F a8 ai;generalize L.tail=B at *;generalize L.headD []=H at *;generalize bp:H.length=hl at *;clear bp
 go_wp2_with fail
 refine(aM.o _ _ aN.o).mono ?_;rintro e U ⟨x,y,z,rfl,aU,an⟩;have aF:=ZZ aU;have aw:=ZZ (K.o.below an zL);have ar:=ZZ (ao.o.trans (an.mono ao.o.size));have aG:=ZZ an;clear aU an aS aN K aM;obtain⟨d,aq⟩:=zgy U.heap.size;obtain⟨i,ag⟩:=zgy (U.alloc (.cells #[.int .i64 x,.int .i64 y,.int .i64 z] 188));have ad:Below U.heap.size U i:=by rw[ag];exact(zac _ _).alloc zL _
 have G:Hid (Bhd i d x y z):=ZZ (by rw[ag,aq];exact zaf U _)
 have R:=ZZ (aw.o.below ad zL);have P:=ZZ (ar.o.trans (ad.mono ar.o.size));have ak:=ZZ (aG.o.trans (ad.mono aG.o.size));have bF:w.heap.size<d:=by rw[aq];exact aw.o.lt
 go_upto_region 5 with fail
 rw[<-ag,<-aq];clear ag aq ad aw ar aG
 cases hrd:Z0 H with
 | error ex=>
  have bH:Hid (Gv b=(Zev,0,false)):=ZZ (by rw[l.o,hrd])
  have hx:=Zxx hrd;have bT:(ex != 0)=true:=by rw[zbf];exact hx
  have Y:ZzP (Except.error ex:Except Int (Nat × Nat × Nat))=ex:=rfl;obtain⟨r0,f0⟩:=R.o.cell 0;obtain⟨r1,f1⟩:=R.o.cell 1;obtain⟨r2,f2⟩:=R.o.cell 2;rw[Y];clear Y hrd hx l aF;go_wp2;refine zap (v:=.tuple #[.agg #[.int .i64 0,.int .i64 0,.slice none 0 0],.int .i64 0,.bool false]) (by simp[results,Tryz.results166,go_sem,r0,r1,r2]) rfl ?_
  exact Zbb.fail bH.o (Z3 P.o _ zL _ _ _)
 | ok t=>
  obtain⟨v,k,f⟩:=t;obtain⟨rfl,rfl,rfl⟩:=aF.o v k f hrd;obtain⟨-,ba,aW,bK,a6⟩:=Zcl hrd;have af:=ZZ (aR.o v k f ba aW a6);have aZ:=bd.o v f;rw[hrd] at l;have Y:ZzP (Except.ok (v,k,f):Except Int (Nat × Nat × Nat))=0:=rfl;rw[Y];unfold ZkF at af;simp only at l;generalize J4 v f B [] 16=T at *;obtain⟨aK,u,er⟩:=T;simp only at l af aZ;obtain⟨q,hq⟩:=zgy (1+u);obtain⟨bi,bj⟩:=a2.o q (by omega)
  have kf:=bj (1+(u:Int)) (by omega)
  have aC:=ZZ (aO.o q);have bv:Hid (∀ W:World,Zik W (w.heap.size+1) (.slice (some ⟨b0,o0,none⟩) L.length Z) L->RdL W (.slice (some ⟨b0,o0,none⟩) q Z) (L.take q)):=ZZ (fun W h=>h.rd.front q (by omega))
  have a7:=ZZ bi;have bV:(1:Int)+(u:Int)<=100000:=by omega
  have bY:IntKind.i64.wrap (1+(u:Int))=1+(u:Int):=by rw[zbe];omega
  have bW:(1:Int)+(u:Int)<=(L.length:Int):=by omega
  rw[<-hq] at l;obtain⟨SZ,aT⟩:=zgy ((Qf (L.take q)).length);rw[<-aT] at l aC;generalize L.take q=PF at *;clear Y hrd aF aR ba aW bK a6 aO a2 bd bi bj aZ hq aT;generalize (v:Int)=V at *;have E:Hid (w.heap.size<i.heap.size):=ZZ (Nat.lt_trans bF G.o.lt);have au:Hid (∀ W,Below i.heap.size i W->W.cell? ⟨d,0,none⟩=some (.int .i64 V)∧W.cell? ⟨d,1,none⟩=some (.int .i64 (k:Int))∧W.cell? ⟨d,2,none⟩=some (.int .i64 (f:Int))):=ZZ (fun W hb=>(G.o.below hb G.o.lt).cell.1)
  have ap:Hid (Below i.heap.size i i.drew):=ZZ ((zac _ _).drew);have a4:=ZZ (au.o _ ap.o);have bb:=ZZ (a9.o.below ak.o zL)
  go_upto_region 7 with fail
  go_cut[9,10,11] (fun vl vc ve wc=>∃ g nl j,vl=.slice g nl j∧vc=.int .i64 (u:Int)∧ve=.int .i64 er∧Hid (∀ r ∈ aK,Zcx r)∧Hid (Xj wc i.heap.size (.slice g nl j) aK)∧Hid (Below i.heap.size i wc))
  case first=>
   go_region_held2(fun W=>W.cell? ⟨d,0,none⟩=some (.int .i64 V)∧W.cell? ⟨d,1,none⟩=some (.int .i64 (k:Int))∧W.cell? ⟨d,2,none⟩=some (.int .i64 (f:Int))) (first | exact a4.o | exact bS.o)
    (first
     | (go_at_call 204;refine(af.o _ i.drew P.o.drew (bb.o.below ap.o zL)).mono ?_;rintro e W3 ⟨v3,rfl,aA,be,aX⟩;have aH:Hid (Xj W3 i.heap.size v3 aK):=ZZ aA;have aj:=ZZ be;have m:=ZZ (ap.o.trans aX);have bS:=ZZ (au.o W3 m.o);obtain⟨a3,c3,rfl⟩:=aA.shape;clear aX aA be))
   all_goals
    go_wp2_with fail
    go_meet
    exact⟨_,_,_,rfl,rfl,rfl,aj,aH,m⟩
  case rest=>
   obtain⟨g,nl,j,rfl,rfl,rfl,aj,aH,m⟩:=hcut;have bL:=ZZ (R.o.below m.o zL);have aa:=ZZ (G.o.below m.o G.o.lt);have bn:=ZZ (P.o.trans (m.o.mono P.o.size));have aQ:=ZZ (ak.o.trans (m.o.mono ak.o.size));have bc:Hid (∀ W,Below wc.heap.size wc W->W.cell? ⟨d,0,none⟩=some (.int .i64 V)∧W.cell? ⟨d,1,none⟩=some (.int .i64 (k:Int))∧W.cell? ⟨d,2,none⟩=some (.int .i64 (f:Int))):=ZZ (fun W hb=>(aa.o.below hb aa.o.lt).cell.1)
   have aV:Hid (Below wc.heap.size wc wc.drew):=ZZ ((zac _ _).drew);have bM:=ZZ (bc.o _ aV.o);have bo:=ZZ (a7.o.below aQ.o zL);have bu:=ZZ (bP.o.below aQ.o zL);have J:d≠w.heap.size:=by omega
   clear R G P ak m au ap a4 bb af a9 a7
   go_upto_region 8 with fail
   go_region_held(fun W=>W.cell? ⟨d,0,none⟩=some (.int .i64 V)∧W.cell? ⟨d,1,none⟩=some (.int .i64 (k:Int))∧W.cell? ⟨d,2,none⟩=some (.int .i64 (f:Int))) (first | exact bM.o | exact bw.o | exact br.o | exact bA.o | exact bR.o | exact bJ.o)
    (first
     | (go_at_call 205;refine(bx.o _ _ _ _ _ _ wc.drew).mono ?_;rintro e W4 ⟨rfl,bm⟩;have C:=ZZ (aV.o.trans bm);have bw:=ZZ (bc.o W4 C.o);have O:=ZZ (bL.o.below C.o zL);have Q:=ZZ (aa.o.below C.o aa.o.lt);have aJ:=ZZ (bn.o.trans (C.o.mono bn.o.size));have aP:=ZZ (aH.o.below C.o zL);have bt:=ZZ (bo.o.below C.o zL);obtain⟨r0,f0⟩:=O.o.cell 0;obtain⟨r1,f1⟩:=O.o.cell 1;obtain⟨r2,f2⟩:=O.o.cell 2;have az:=ZZ (((Q.o.other J 0 (.int .i64 (k:Int))).other J 1 (.int .i64 (f:Int))).other J 2 (.slice g nl j));have br:=ZZ az.o.cell.1;have bB:=ZZ (bu.o.below C.o zL);have bz:Hid (RdL ((((W4.setCell ⟨w.heap.size,0,none⟩ (.int .i64 (k:Int))).setCell ⟨w.heap.size,1,none⟩ (.int .i64 (f:Int))).setCell ⟨w.heap.size,2,none⟩ (.slice g nl j))) _ PF):=ZZ (bv.o _ (((bB.o.set w.heap.size 0 (zey _) (.int .i64 (k:Int))).set w.heap.size 1 (zey _) (.int .i64 (f:Int))).set w.heap.size 2 (zey _) (.slice g nl j)));have bE:=ZZ (O.o.set3 (.int .i64 (k:Int)) (.int .i64 (f:Int)) (.slice g nl j));have bN:=ZZ (((aP.o.set w.heap.size 0 E.o (.int .i64 (k:Int))).set w.heap.size 1 E.o (.int .i64 (f:Int))).set w.heap.size 2 E.o (.slice g nl j));have bg:=ZZ (Z3 aJ.o w.heap.size zL (.int .i64 (k:Int)) (.int .i64 (f:Int)) (.slice g nl j));clear bm)
     | (go_at_call 206;refine(aC.o _ W4 bt.o).mono ?_;rintro e W5 ⟨rfl,I⟩;have bA:=ZZ (Q.o.below I Q.o.lt).cell.1;have aI:=ZZ (O.o.below I zL);have bO:=ZZ (aJ.o.trans (I.mono aJ.o.size));have bI:=ZZ (aP.o.below I zL);obtain⟨s0,g0⟩:=aI.o.cell 0;obtain⟨s1,g1⟩:=aI.o.cell 1;obtain⟨s2,g2⟩:=aI.o.cell 2;have bJ:=ZZ ((((Q.o.below I Q.o.lt).other J 0 (.int .i64 (k:Int))).other J 1 (.int .i64 (f:Int))).other J 2 (.slice g nl j)).cell.1;clear I)
     | (go_at_call 206;refine(aC.o _ (((W4.setCell ⟨w.heap.size,0,none⟩ (.int .i64 (k:Int))).setCell ⟨w.heap.size,1,none⟩ (.int .i64 (f:Int))).setCell ⟨w.heap.size,2,none⟩ (.slice g nl j)) bz.o).mono ?_;rintro e W6 ⟨rfl,M⟩;have bR:=ZZ (az.o.below M az.o.lt).cell.1;have ax:=ZZ (bE.o.below M zL);have bG:=ZZ (bN.o.below M zL);have bC:=ZZ (bg.o.trans (M.mono bg.o.size));obtain⟨s0,g0⟩:=ax.o.cell 0;obtain⟨s1,g1⟩:=ax.o.cell 1;obtain⟨s2,g2⟩:=ax.o.cell 2;clear M))
   all_goals
    go_wp2;refine zap (v:=.tuple #[.agg #[.int .i64 (k:Int),.int .i64 (f:Int),.slice g nl j],.int .i64 (SZ:Int),.bool true]) (by simp[results,Tryz.results166,go_sem,s0,s1,s2]) rfl ?_
    refine⟨.slice g nl j,by rw[l.o],?_,?_⟩
    ·rw[l.o]
     first
     | exact bG.o.rd aj.o
     | exact Xj.rd (((bI.o.set w.heap.size 0 E.o _).set w.heap.size 1 E.o _).set w.heap.size 2 E.o _) aj.o
    ·first
     | exact bC.o
     | exact Z3 bO.o w.heap.size zL _ _ _
theorem Jn {P:Program} {ι:Type} (W:ι->World) (b:ι) {id:Nat} {Q:Exit->Act->World->Prop} {a:Act} {w:World} {l:List Oper} (e:P.follows .mixedOrders=true) (d:Region.lexB .any l.toArray=true) (c:W b=w.drew)
 (h:wpQuiet P l.toArray (fun w'=>∃ n,w'=W n) (fun a'=>∀ w',(∃ n,w'=W n)->Q .normal a' w') l a):(Code.region id l.toArray true).wp P Q a w:=
 wp_region_quiet (C:=fun w'=>∃ n,w'=W n) e d ⟨b,c.symm⟩ (by simpa using h)
theorem ZnO (B:Nat) (w:World):∃ (ι:Type) (_:Nonempty ι) (W:ι->World),(∀ i,Below B w (W i))∧∀ w',Below B w w'->∃ i,w'=W i:=
 ⟨{ w' // Below B w w' },⟨⟨w,zac _ _⟩⟩,Subtype.val,fun i=>i.2,fun w' h=>⟨⟨w',h⟩,rfl⟩⟩
theorem ZbF (v:Value) (l:List Rec) (w:World) (y:RdR w v l):
 Calls prog 48 #[v] w fun e w'=>e=.returned (.bool (decide (Yc l)))∧Below w.heap.size w w':=by
 have HR:=ZZ y;obtain⟨ao,cap,rfl,aw,ag,-,-,ak⟩:=y;have aE:(l.length:Int)<=9223372036854775807:=by unfold maxLen at ag;omega
 have au:=ZZ ak;clear ak aw ag;by_cases Q:1<=l.length
 case neg=>
  have K:Hid (decide (Yc l)=false):=zae (fun h=>Q h.1)
  have aq:(l.length:Int)<1:=by omega
  rw[K.o]
  go_enter func48,ntmps48
  go_wp2;go_ret;exact⟨rfl,zac _ _⟩
 have aq:¬ (l.length:Int)<1:=by omega
 by_cases T:l.length<=256
 case neg=>
  have K:Hid (decide (Yc l)=false):=zae (fun h=>T h.2.1)
  have av:256<(l.length:Int):=by omega
  rw[K.o]
  go_enter func48,ntmps48
  go_wp2;go_ret;exact⟨rfl,zac _ _⟩
 have av:¬ 256<(l.length:Int):=by omega
 have ab:=ZZ (fun h=>Zvy (l:=l) h Q T)
 have aj:=ZZ (fun(h:Yc l) k=>h.part k)
 have ap:=ZZ (fun r W=>Zig r W)
 obtain⟨D,C⟩:=zgy (decide (Yc l));rw[<-C];have ar:Hid (ZjQ l l.length->D=true):=fun h=>by rw[C];exact zah (ab.o h)
 have ai:Hid (∀ k,¬ ZjQ l k->D=false):=fun k h=>by rw[C];exact zae (fun X=>h (aj.o X k))
 have an:=ZZ (ZsJ l);have aB:(0:Int)<(l.length:Int):=by omega
 clear C ab aj Q T
 go_enter func48,ntmps48
 go_wp2
 go_loopw[15] (fun R wr=>∃ k:Nat,R=.int .i64 (k:Int)∧k<=l.length∧Hid (ZjQ l k)∧Hid (Below w.heap.size w wr)) (fun R _=>l.length-(intOf R).toNat)
 case atStart=>exact⟨0,rfl,zai _,an,zac _ _⟩
 case round=>
  obtain⟨k,rfl,hk,P,G⟩:=hrel;by_cases u:k<l.length
  case neg=>
   obtain rfl:k=l.length:=by omega
   have HT:=ZZ (ar.o P.out);go_wp2;go_ret;rw[HT.o];exact⟨rfl,G.out⟩
  rcases au.o with h0 | ⟨c,aA,rfl,Y⟩
  ·rw[h0] at u;simp at u
  have U:=Y k u;have N:=Y 0 (by omega)
  have aa:=ZZ (fun W (h:Below w.heap.size w W)=>U.keep (h.block c U.lt))
  have ac:=ZZ (fun W (h:Below w.heap.size w W)=>(N.keep (h.block c N.lt)).1)
  have g:=ZZ (ZsK u);have hh:l.headD Qi=l.getD 0 Qi:=by cases l <;> simp
  rw[hh] at g
  have af:Hid (Qz (l.getD k Qi)->Qz (l.getD 0 Qi)):=ZZ (fun X=>by
   cases k with
   | zero=>exact X
   | succ q=>
    refine P.out.1 _ ?_
    cases l with
    | nil=>simp at u
    | cons x t=>simp)
  have al:=aa.o wr G.out;obtain⟨c0,c1,c2,c3,c4,c5,c6⟩:=al;have A:=ZZ (ap.o (l.getD k Qi));have ay:=zgy (decide (Qz (l.getD k Qi)));obtain⟨F,Z⟩:=ay;rw[<-Z] at A;have J:=ZZ Z;unfold Zso at A;obtain⟨r,y⟩:=zgy (l.getD k Qi);rw[<-y] at A g J aa af c0 c1 c2 c3 c4 c5 c6;clear Z Y U y N hh;generalize (l.getD 0 Qi)=E at *
  go_upto_region 6 with fail
  obtain⟨f,j⟩:=zgy (wr.alloc (.cells (Ja r) 62));have aD:f.heap.size=wr.heap.size+1:=by rw[j];simp
  have ae:Hid (Below w.heap.size w f):=ZZ (by rw[j];exact G.out.alloc G.out.size _)
  have am:Hid (Br f wr.heap.size (Ja r)):=ZZ (by rw[j];exact zaf wr _)
  unfold Ja at j;rw[<-j];clear j c0 c1 c2 c3 c4 c5 c6;obtain⟨ι,aC,V,hV,L⟩:=ZnO f.heap.size f;have B:=ZZ hV;have HM:=ZZ L;obtain⟨O,S⟩:=L f.drew (zac _ _).drew;have H:Hid (∀ i,Below w.heap.size w (V i)):=ZZ (fun i=>ae.o.trans ((B.o i).mono ae.o.size))
  have d:∀ i,Br (V i) wr.heap.size (Ja r):=fun i=>((B.o i).block _ (by omega)).trans am.o
  have d0:∀ i,(V i).cell? ⟨wr.heap.size,0,none⟩=some (.int .i64 r.idx):=fun i=>((d i).cell 0).1
  have d1:∀ i,(V i).cell? ⟨wr.heap.size,1,none⟩=some (.int .i64 r.proc):=fun i=>((d i).cell 1).1
  have d2:∀ i,(V i).cell? ⟨wr.heap.size,2,none⟩=some (.int .i64 r.seq):=fun i=>((d i).cell 2).1
  have d3:∀ i,(V i).cell? ⟨wr.heap.size,3,none⟩=some (.int .i64 r.op.code):=fun i=>((d i).cell 3).1
  have d4:∀ i,(V i).cell? ⟨wr.heap.size,4,none⟩=some (.int .i64 r.op.a):=fun i=>((d i).cell 4).1
  have d5:∀ i,(V i).cell? ⟨wr.heap.size,5,none⟩=some (.int .i64 r.op.b):=fun i=>((d i).cell 5).1
  have d6:∀ i,(V i).cell? ⟨wr.heap.size,6,none⟩=some (.int .i64 r.resp):=fun i=>((d i).cell 6).1
  have e0:∀ i,(V i).cell? ⟨c,aA,none⟩=some (.int .i64 E.idx):=fun i=>by
   have h:=ac.o (V i) (H.o i)
   rwa [zc3,zcw] at h
  have I:Hid (∀ i,Calls prog 41 #[.agg #[.int .i64 r.idx,.int .i64 r.proc,.int .i64 r.seq,.int .i64 r.op.code,.int .i64 r.op.a,.int .i64 r.op.b,.int .i64 r.resp]] (V i) fun e w'=>e=.returned (.bool F)∧∃ m,w'=V m):=ZZ (fun i=>(A.o (V i)).mono fun e w' h=>⟨h.1,HM.o w' ((B.o i).trans (h.2.mono (B.o i).size))⟩)
  clear hV L d A ac aa
  cases F with
  | false=>
   have M:=ZZ (ai.o (k+1) (fun h=>zdo J.o.symm (g.o.1 h).2.1))
   refine Jn V O (by kernel_rfl) (by kernel_rfl) S.symm ?_
   repeat (go_big_quiet_step ((go_at_call 41;exact I.o _)))
   refine zdt ?_;intro _ p;obtain⟨nq,z⟩:=p;subst z;go_wp2;go_ret;rw[M.o];exact⟨rfl,H.o _⟩
  | true=>
   have ad:=ZZ (zcv J.o.symm);obtain⟨-,i1,i2,-⟩:=af.o ad.o;by_cases n:r.idx=E.idx+k
   ·have ax:(r.idx != E.idx+k)=false:=by rw[zbj];exact n
    have az:=ZZ (g.o.2 ⟨P.out,ad.o,n⟩);clear g n;refine Jn V O (by kernel_rfl) (by kernel_rfl) S.symm ?_
    repeat (go_big_quiet_step ((go_at_call 41;exact I.o _)))
    refine zdt ?_;intro _ p;obtain⟨nq,z⟩:=p;subst z;go_wp2;go_roundw
    case rel=>exact⟨k+1,by go_num,by omega,az,H.o _⟩
    case measure=>simp[intOf];omega
   ·have ax:(r.idx != E.idx+k)=true:=by rw[zbf];exact n
    have M:=ZZ (ai.o (k+1) (fun h=>n (g.o.1 h).2.2))
    clear g n;refine Jn V O (by kernel_rfl) (by kernel_rfl) S.symm ?_
    repeat (go_big_quiet_step ((go_at_call 41;exact I.o _)))
    refine zdt ?_;intro _ p;obtain⟨nq,z⟩:=p;subst z;go_wp2;go_ret;rw[M.o];exact⟨rfl,H.o _⟩
def ZAr (w:World) (l:List UInt8) (o:Opn) (e:Ending) (w':World):Prop:=
 ∃ v',e=.returned (.tuple #[v',.int .i64 (if Ge o then 0 else 1)])∧Own w' w.heap.size v' (if Ge o then l++X6 o else l)∧Below w.heap.size w w'
theorem ZvC (v:Value) (l:List UInt8) (o:Opn) (w:World) (C:Rd w v l) (av:l.length<=90000):
 Calls prog 185 #[v,opV o] w fun e w'=>ZAr w l o e w':=by
 obtain⟨k,i,rfl,af⟩:∃ k i,v=.slice k l.length i∧Rd w (.slice k l.length i) l:=by
  have h:=C;obtain⟨k,i,rfl,_⟩:=C;exact⟨k,i,rfl,h⟩
 have T:=ZZ C;clear af;have U:=ZZ (fun w=>ZlH o w)
 have B:Hid (∀ X,Below w.heap.size w (w.alloc X)):=fun X=>(zac _ _).alloc zL X
 obtain⟨c,a,b⟩:=o;clear C;show Calls prog _ #[_,.agg #[.int .i64 c,.int .i64 a,.int .i64 b]] w _;have Y:Hid (∀ W,Calls prog 80 #[.agg #[.int .i64 c,.int .i64 a,.int .i64 b]] W fun e w'=>e=.returned (.bool (decide (Ge ⟨c,a,b⟩)))∧Below W.heap.size W w'):=U.o
 clear U;unfold ZAr;by_cases d:Ge ⟨c,a,b⟩
 ·simp only [zab d]
  have L:=ZZ (zah d);have I:Hid (I64 a):=(ZaM d).1;have D:Hid (I64 b):=(ZaM d).2;have Z:0<=c:=d.1;have al:c<=10:=d.2.1;have ae:=Gh (n:=c.toNat) (by omega)
  have am:=Zwv I.o;have ar:=Zwv D.o
  have HP:Hid (∀ W,Calls prog 132 #[.slice none 0 0,.int .i64 c] W fun e w'=>∃ v',e=.returned v'∧Own w' W.heap.size v' (Lib.uvarint c.toNat)∧Below W.heap.size W w'):=fun W=>by
   have h:=ZbE (.slice none 0 0) [] c W (Rd.nil W) (by simp)
   rw[J0 Z (by omega),nil_append] at h
   exact h
  have HA:Hid (∀ W,Calls prog 142 #[.slice none 0 0,.int .i64 a] W fun e w'=>∃ v',e=.returned v'∧Own w' W.heap.size v' (Lib.uvarint (Lib.zigzag a))∧Below W.heap.size W w'):=fun W=>by
   have h:=Gj (.slice none 0 0) [] a W (Rd.nil W) (by simp) I.o.1 I.o.2
   rw[nil_append] at h;exact h
  have HB:Hid (∀ W,Calls prog 142 #[.slice none 0 0,.int .i64 b] W fun e w'=>∃ v',e=.returned v'∧Own w' W.heap.size v' (Lib.uvarint (Lib.zigzag b))∧Below W.heap.size W w'):=fun W=>by
   have h:=Gj (.slice none 0 0) [] b W (Rd.nil W) (by simp) D.o.1 D.o.2
   rw[nil_append] at h;exact h
  have HE:Hid (X6 ⟨c,a,b⟩=Lib.uvarint c.toNat++(Lib.uvarint (Lib.zigzag a)++Lib.uvarint (Lib.zigzag b))):=rfl;rw[HE.o];have aj:Hid (∀ W N H J x m,N=W.heap.size->Rd W H l->Rd W J (Lib.uvarint c.toNat)->Rd W x (Lib.uvarint (Lib.zigzag a))->Rd W m (Lib.uvarint (Lib.zigzag b))->Calls prog 131 #[.slice (some ⟨N,0,none⟩) 4 4] (W.alloc (.cells #[H,J,x,m] 53)) fun e w'=>∃ v',e=.returned v'∧Own w' W.heap.size v' (l++(Lib.uvarint c.toNat++(Lib.uvarint (Lib.zigzag a)++Lib.uvarint (Lib.zigzag b))))∧Below W.heap.size W w'):=fun W N H J x m hN h0 h1 h2 h3=>Zvj W N hN H J x m _ _ _ _ h0 h1 h2 h3 (by omega)
  clear d ae am ar HE I D Z al;generalize Lib.uvarint c.toNat=A at *;generalize Lib.uvarint (Lib.zigzag a)=LA at *;generalize Lib.uvarint (Lib.zigzag b)=LB at *;generalize l++(A++(LA++LB))=LL at *
  go_enter func185,ntmps185
  go_wp2_with fail
  refine(Y.o _).mono ?_;rintro e W1 ⟨rfl,R⟩;rw[L.o];have u:Bo W1 w.heap.size _:=(R.block w.heap.size (by simp)).trans (zaf w _)
  have au:=ZZ u;have Q:=ZZ ((B.o _).trans (R.mono (B.o _).size));obtain⟨p0,-⟩:=u.cell 0;obtain⟨p1,-⟩:=u.cell 1;obtain⟨p2,-⟩:=u.cell 2;have aw:=Q.o.size;clear R u;go_wp2
  go_region_held(fun w'=>w'.cell? ⟨w.heap.size,0,none⟩=some (.int .i64 c)∧w'.cell? ⟨w.heap.size,1,none⟩=some (.int .i64 a)∧w'.cell? ⟨w.heap.size,2,none⟩=some (.int .i64 b)) (go_keep)
   (first
    | (go_at_call 132;refine(HP.o _).mono ?_;rintro e W2 ⟨x,rfl,P,p⟩;have z:=au.o.below (((zac _ _).drew).trans p) zL;have ac:=ZZ z;have f:=ZZ (Q.o.trans ((((zac _ _).drew).trans p).mono Q.o.size));obtain⟨a2,c2,rfl,-⟩:=P.rd;have ak:=ZZ P.rd;obtain⟨q0,-⟩:=z.cell 0;obtain⟨q1,-⟩:=z.cell 1;obtain⟨q2,-⟩:=z.cell 2;clear P p z)
    | (go_at_call_of 142 (Value.int .i64 a);refine(HA.o _).mono ?_;rintro e W3 ⟨m,rfl,j,g⟩;have t:=ac.o.below g zL;have ap:=ZZ t;have E:=ZZ (f.o.trans (g.mono f.o.size));have an:=ZZ (ak.o.below g zL);obtain⟨a3,c3,rfl,-⟩:=j.rd;have K:=ZZ j.rd;obtain⟨r0,-⟩:=t.cell 0;obtain⟨r1,-⟩:=t.cell 1;obtain⟨r2,-⟩:=t.cell 2;clear j g t)
    | (go_at_call_of 142 (Value.int .i64 b);refine(HB.o _).mono ?_;rintro e S ⟨v4,rfl,M,y⟩;have q:=ap.o.below y zL;have ad:=ZZ q;have F:=ZZ (E.o.trans (y.mono E.o.size));have aq:=ZZ (an.o.below y zL);have aa:=ZZ (K.o.below y zL);obtain⟨a4,c4,rfl,-⟩:=M.rd;have ab:=ZZ M.rd;obtain⟨s0,-⟩:=q.cell 0;obtain⟨s1,-⟩:=q.cell 1;obtain⟨s2,-⟩:=q.cell 2;clear M y q)
    | (go_at_call 131;refine(aj.o S S.heap.size _ _ _ _ rfl (T.o.below F.o zL) aq.o aa.o ab.o).mono ?_;rintro e W5 ⟨v5,rfl,V,O⟩;have G:=ad.o.below O zL;have ag:=ZZ (F.o.trans (O.mono F.o.size));have ao:=ZZ (V.mono F.o.size);obtain⟨t0,-⟩:=G.cell 0;obtain⟨t1,-⟩:=G.cell 1;obtain⟨t2,-⟩:=G.cell 2;clear V O G))
  all_goals
   go_wp2;go_ret2;exact⟨_,rfl,ao.o,ag.o⟩
 ·simp only [zaa d]
  have L:=ZZ (zae d);have ai:=ZZ (fun W h=>ZsC (.slice k l.length i) l W h (by omega))
  clear d
  go_enter func185,ntmps185
  go_wp2_with fail
  refine(Y.o _).mono ?_;rintro e W2 ⟨rfl,p⟩;rw[L.o];have f:=ZZ ((B.o _).trans (p.mono (B.o _).size));clear p
  go_wp2_with fail
  refine(ai.o _ (T.o.below f.o zL)).mono ?_;rintro e W3 ⟨m,rfl,j,g⟩;have K:=ZZ (j.mono f.o.size);have E:=ZZ (f.o.trans (g.mono f.o.size));clear j g;go_wp2;go_ret2;exact⟨_,rfl,K.o,E.o⟩
open Go.RowKit Go.Maps
theorem ZvD:Keyed prog 3:=int_keyed underlying3
theorem ZyY (w:World):(zeroValue 3).run prog w=.ok (.int .i64 0) w:=by kernel_rfl
theorem ZAs {n:Int} (h:I64 n):(Lit.int .i64 n).wf=true:=WalkArith.wf_i64 (by obtain⟨b,a⟩:=h;omega)
def ZfU (w:World) (b n:Nat) (f:Int->Int):Prop:=
 ∃ D:DataW Unit,w.ownsMap prog 3 (plainElem prog 3) b n D∧IsMap D∧∀ p,I64 p->D.atKey (.int .i64 p) (.lit (.int .i64 0))=.lit (.int .i64 (f p))
theorem ZfU.made (w:World):ZfU (w.alloc (.map #[] 0)) w.heap.size 0 (fun _=>0):=
 ⟨.map [],World.ownsMap_made _ _ _ _,isMap_empty,fun _ _=>rfl⟩
theorem ZfU.lt (h:ZfU w b n f):b<w.heap.size:=by
 obtain⟨D,a,_⟩:=h;exact a.lt
theorem ZfU.keep (h:ZfU w b n f) (a:w'.heap[b]?=w.heap[b]?):ZfU w' b n f:=by
 obtain⟨D,⟨c,g,d,r⟩,e⟩:=h;exact⟨D,⟨c,g,a.trans d,r⟩,e⟩
theorem ZfU.below (h:ZfU w b n f) (a:Below B w w') (c:w.heap.size<=B):ZfU w' b n f:=
 h.keep (a.block b (by have:=h.lt;omega))
theorem ZfU.apart (h:ZfU w b n f) {cs:Array Value} {t:TypeId} {z:Nat × Nat} {g:Nat} (a:w.heap[g]?=some (.cells cs t z)):g≠b:=by
 obtain⟨D,⟨d,i,c,_⟩,_⟩:=h;intro e;rw[e,c] at a
 cases a
theorem ZfU.look (h:ZfU w b n f) {p:Int} (a:I64 p):(Instr.lookup 183 (.map (some b)) (.int .i64 p) false).run prog w=.ok (.int .i64 (f p)) w:=by
 obtain⟨D,i,_,g⟩:=h;obtain⟨c,j,d,_⟩:=i.lookup_int ZvD underlying183 underlying3 (ZyY _) (ze9 underlying3 (ZAs a));rw[g p a] at d;have e:f p=c:=by simpa using d
 rw[j,e]
def Zzu (f:Int->Int) (p x:Int):Int->Int:=fun q=>if p=q then x else f q
theorem ZfU.put (h:ZfU w b n f) {p x:Int} (j:I64 p) (k:I64 x) (t:n<=1000000000000):
 ∃ w',(Instr.mapUpdate 183 (.map (some b)) (.int .i64 p) (.int .i64 x)).run prog w=.ok () w'∧ZfU w' b (n+1) (Zzu f p x)∧w.grownBy w' (some b):=by
 obtain⟨D,l,a,c⟩:=h;obtain⟨w',g,i,d⟩:=l.update ZvD underlying183 (by unfold maxLen;omega) (ze9 underlying3 (ZAs j)) (plainElem_int underlying3 (ZAs k))
 refine⟨w',g,⟨_,i,a.put _ _,fun q m=>?_⟩,d⟩
 unfold Zzu;by_cases e:p=q
 ·rw[zab e,<-e,atKey_put_same a (by first | exact trivial | simp[WideAt.IsKeyLit])]
 ·rw[zaa e,atKey_put_other (by intro h;injection h with _ h;exact e h.symm),c q m]
theorem ZfU.own (h:ZfU w b n f) {B:Nat} {v:Value} {l:List UInt8} (i:Own w B v l):v.ownBlock=none∨v.ownBlock≠some b:=by
 rcases i.2 with ⟨a,_⟩ | ⟨g,cap,cur,a,_,c,_⟩
 ·exact .inl (by rw[a];rfl)
 ·right
  rw[a];have d:=h.apart c;intro e;exact d (by simpa[Value.ownBlock] using e)
theorem ZyZ (W:World) (N:Nat) (i:N=W.heap.size) (c d:Value) (a b:List UInt8) (k:Rd W c a) (p:Rd W d b) (q:a.length+b.length<=1000000):
 Calls prog 131 #[.slice (some ⟨N,0,none⟩) 2 2] (W.alloc (.cells #[c,d] 53)) fun e w'=>∃ v',e=.returned v'∧Own w' W.heap.size v' (a++b)∧Below W.heap.size W w':=by
 have l:=RdL.built W N i #[c,d] [a,b] (by simp) (fun j n=>by
  match j,n with
  | 0,_=>exact⟨c,rfl,k⟩
  | 1,_=>exact⟨d,rfl,p⟩)
 have f:[a,b].flatten=a++b:=by simp
 refine(Zdi _ _ _ l (by rw[f];simp only [length_append];omega) (by simp)).mono ?_
 rintro e w' ⟨v',rfl,g,m⟩;rw[f] at g;exact⟨v',rfl,g.mono (by simp),((zac _ _).alloc zL _).trans (m.mono (by simp))⟩
theorem ZiI (r:Rec) (d:Int) (w:World) (g:Qz r) (t:I64 d):
 Calls prog 133 #[Zso r,.int .i64 d] w fun e w'=>∃ v',e=.returned v'∧Own w' w.heap.size v' (Lib.uvarint r.proc.toNat++(Lib.uvarint (Lib.zigzag d)++(X6 r.op++Lib.uvarint (Lib.zigzag r.resp))))∧Below w.heap.size w w':=by
 have O:Hid (∀ X,Below w.heap.size w (w.alloc X)):=fun X=>(zac _ _).alloc zL X
 have R:Hid (∀ cs,Br (w.alloc (.cells cs 62)) w.heap.size cs):=fun cs=>zaf w _
 have f:=ZZ (fun W=>ZvC (.slice none 0 0) [] r.op W (Rd.nil W) (by simp))
 unfold ZAr at f;rw[zab g.1,zab g.1,nil_append] at f;have m:=ZZ (ZaX g);have ar:=Zgr g.1;obtain⟨_,_,_,_,_,P,ao,_⟩:=g;have ad:=Gh (n:=r.proc.toNat) (by omega)
 have ai:=Zwv t;have aj:=Zwv m.o
 have Z:Hid (∀ W,Calls prog 132 #[.slice none 0 0,.int .i64 r.proc] W fun e w'=>∃ v',e=.returned v'∧Own w' W.heap.size v' (Lib.uvarint r.proc.toNat)∧Below W.heap.size W w'):=fun W=>by
  have h:=ZbE (.slice none 0 0) [] r.proc W (Rd.nil W) (by simp)
  rw[J0 P (by omega),nil_append] at h
  exact h
 have HA:Hid (∀ W,Calls prog 142 #[.slice none 0 0,.int .i64 d] W fun e w'=>∃ v',e=.returned v'∧Own w' W.heap.size v' (Lib.uvarint (Lib.zigzag d))∧Below W.heap.size W w'):=fun W=>by
  have h:=Gj (.slice none 0 0) [] d W (Rd.nil W) (by simp) t.1 t.2
  rw[nil_append] at h;exact h
 have HB:Hid (∀ W,Calls prog 142 #[.slice none 0 0,.int .i64 r.resp] W fun e w'=>∃ v',e=.returned v'∧Own w' W.heap.size v' (Lib.uvarint (Lib.zigzag r.resp))∧Below W.heap.size W w'):=fun W=>by
  have h:=Gj (.slice none 0 0) [] r.resp W (Rd.nil W) (by simp) m.o.1 m.o.2
  rw[nil_append] at h;exact h
 have af:Hid (∀ W N x l k j,N=W.heap.size->Rd W x (Lib.uvarint r.proc.toNat)->Rd W l (Lib.uvarint (Lib.zigzag d))->Rd W k (X6 r.op)->Rd W j (Lib.uvarint (Lib.zigzag r.resp))->Calls prog 131 #[.slice (some ⟨N,0,none⟩) 4 4] (W.alloc (.cells #[x,l,k,j] 53)) fun e w'=>∃ v',e=.returned v'∧Own w' W.heap.size v' (Lib.uvarint r.proc.toNat++(Lib.uvarint (Lib.zigzag d)++(X6 r.op++Lib.uvarint (Lib.zigzag r.resp))))∧Below W.heap.size W w'):=fun W N x l k j hN T h1 h2 h3=>Zvj W N hN x l k j _ _ _ _ T h1 h2 h3 (by omega)
 clear ad ai ar aj m P ao t;unfold opV at f;obtain⟨idx,proc,seq,⟨K,a,b⟩,resp⟩:=r;show Calls prog _ #[.agg #[.int .i64 idx,.int .i64 proc,.int .i64 seq,.int .i64 K,.int .i64 a,.int .i64 b,.int .i64 resp],.int .i64 d] w _
 dsimp only at *
 generalize Lib.uvarint proc.toNat=A at *;generalize Lib.uvarint (Lib.zigzag d)=LA at *;generalize Lib.uvarint (Lib.zigzag resp)=LB at *;generalize X6 ⟨K,a,b⟩=LO at *;generalize A++(LA++(LO++LB))=LL at *
 go_enter func133,ntmps133
 go_wp2_with fail
 refine(f.o _).mono ?_;rintro e W1 ⟨l,rfl,B,I⟩;have v:Br W1 w.heap.size _:=(R.out _).below I zL;have au:=ZZ v;have H:=ZZ ((O.o _).trans (I.mono (O.o _).size));have U:=ZZ B.rd;obtain⟨a1,c1,rfl,-⟩:=B.rd;obtain⟨p1,-⟩:=v.cell 1;obtain⟨p6,-⟩:=v.cell 6;have av:=H.o.size;clear I v B f;go_wp2
 go_region_held(fun w'=>w'.cell? ⟨w.heap.size,1,none⟩=some (.int .i64 proc)∧w'.cell? ⟨w.heap.size,6,none⟩=some (.int .i64 resp)) (go_keep)
  (first
   | (go_at_call 132;refine(Z.o _).mono ?_;rintro e W2 ⟨k,rfl,G,u⟩;have y:=au.o.below (((zac _ _).drew).trans u) zL;have aa:=ZZ y;have L:=ZZ (H.o.trans ((((zac _ _).drew).trans u).mono H.o.size));have aq:=ZZ (U.o.below (((zac _ _).drew).trans u) zL);obtain⟨a2,c2,rfl,-⟩:=G.rd;have ag:=ZZ G.rd;obtain⟨q1,-⟩:=y.cell 1;obtain⟨q6,-⟩:=y.cell 6;clear G u y)
   | (go_at_call_of 142 (Value.int .i64 d);refine(HA.o _).mono ?_;rintro e W3 ⟨j,rfl,z,i⟩;have q:=aa.o.below i zL;have an:=ZZ q;have Q:=ZZ (L.o.trans (i.mono L.o.size));have al:=ZZ (ag.o.below i zL);have V:=ZZ (aq.o.below i zL);obtain⟨a3,c3,rfl,-⟩:=z.rd;have ab:=ZZ z.rd;obtain⟨r1,-⟩:=q.cell 1;obtain⟨r6,-⟩:=q.cell 6;clear z i q)
   | (go_at_call_of 142 (Value.int .i64 resp);refine(HB.o _).mono ?_;rintro e J ⟨v4,rfl,C,c⟩;have p:=an.o.below c zL;have ac:=ZZ p;have E:=ZZ (Q.o.trans (c.mono Q.o.size));have ap:=ZZ (al.o.below c zL);have S:=ZZ (ab.o.below c zL);have ak:=ZZ (V.o.below c zL);obtain⟨a4,c4,rfl,-⟩:=C.rd;have Y:=ZZ C.rd;obtain⟨s1,-⟩:=p.cell 1;obtain⟨s6,-⟩:=p.cell 6;clear C c p)
   | (go_at_call 131;refine(af.o J J.heap.size _ _ _ _ rfl ap.o S.o ak.o Y.o).mono ?_;rintro e W5 ⟨v5,rfl,M,D⟩;have F:=ac.o.below D zL;have ae:=ZZ (E.o.trans (D.mono E.o.size));have am:=ZZ (M.mono E.o.size);obtain⟨t1,-⟩:=F.cell 1;obtain⟨t6,-⟩:=F.cell 6;clear M D F))
 all_goals
  go_wp2;go_ret;exact⟨_,rfl,am.o,ae.o⟩
theorem ZiJ (l:List Rec) (r:Rec):Zzu (Q7 l) r.proc r.seq=Q7 (l++[r]):=by
 funext q
 unfold Zzu;rw[ZmJ]
theorem Br.own {cs:Array Value} (h:Br w b cs) {B:Nat} {v:Value} {l:List UInt8} (i:Own w B v l):some b≠v.ownBlock:=by
 rcases i.2 with ⟨a,_⟩ | ⟨g,cap,cur,a,_,d,_⟩
 ·rw[a]
  intro e
  cases e
 ·rw[a]
  intro e;have f:b=g:=by simpa[Value.ownBlock] using e
  unfold Br at h;rw[f,d] at h
  have c:(5:TypeId)=62:=by
   injection h with h
   injection h
  exact absurd c (by decide)
theorem ZgJ (v:Value) (l:List Rec) (w:World) (b:RdR w v l):
 Calls prog 90 #[v] w fun e w'=>ZlV w l e w':=by
 have HR:=ZZ b;have J:=ZZ (fun W h=>ZbF v l W h)
 obtain⟨ao,cap,rfl,a9,aK,-,-,aU⟩:=b;have bn:(l.length:Int)<=9223372036854775807:=by unfold maxLen at aK;omega
 have a7:=ZZ aU;clear aU a9 aK;unfold ZlV;by_cases a:Yc l
 case neg=>
  simp only [zaa a];rw[zae a] at J;clear a
  go_enter func90,ntmps90
  go_wp2_with fail
  refine(J.o _ HR.o).mono ?_;rintro e W1 ⟨rfl,y⟩;have D:=ZZ y;clear y;go_wp2;go_ret2;exact⟨_,rfl,Own.nil _ _,D.o⟩
 simp only [zab a];rw[zah a] at J;have u:1<=l.length:=a.1;have h2:l.length<=256:=a.2.1;rcases a7.o with h0 | ⟨c,aW,rfl,hc⟩
 ·rw[h0] at u;simp at u
 have aN:Hid (∀ k,k<l.length->∀ W,Below w.heap.size w W->ZjI W c (aW+k*7) (l.getD k Qi)):=ZZ (fun k f W h=>(hc k f).keep (h.block c (hc k f).lt))
 have aJ:Hid (∀ k,k<l.length->Qz (l.getD k Qi)):=ZZ (fun k f=>a.2.2.1 _ (by simp[List.getD,f]))
 have ae:Hid (∀ k,∀ r ∈ l.take k,Qz r):=ZZ (fun k r b=>a.2.2.1 r (zbq b))
 have hh:l.headD Qi=l.getD 0 Qi:=by cases l <;> simp
 obtain⟨_,i0,i1,_⟩:=aJ.o 0 u
 have aF:Hid (X9 l=(Lib.uvarint (l.getD 0 Qi).idx.toNat++Lib.uvarint l.length)++Yg [] (l.take l.length)):=ZZ (by
  unfold X9
  rw[hh,take_length,zcn])
 have a1:=ZZ (fun k f=>ZrJ l k f)
 have aX:Hid (∀ k,(Yg [] (l.take k)).length<=60*256):=ZZ (fun k=>by
  have h3:=ZnJ (l.take k) [] (fun r b=>by simp at b) (ae.o k)
  have h4:(l.take k).length<=l.length:=by simp;omega
  omega)
 have u1:=Gh (n:=(l.getD 0 Qi).idx.toNat) (by omega)
 have u2:=Gh (n:=l.length) (by omega)
 have aT:Hid (∀ W,Calls prog 132 #[.slice none 0 0,.int .i64 (l.getD 0 Qi).idx] W fun e w'=>∃ v',e=.returned v'∧Own w' W.heap.size v' (Lib.uvarint (l.getD 0 Qi).idx.toNat)∧Below W.heap.size W w'):=fun W=>by
  have h:=ZbE (.slice none 0 0) [] (l.getD 0 Qi).idx W (Rd.nil W) (by simp)
  rw[J0 i0 (by omega),nil_append] at h
  exact h
 have am:Hid (∀ W,Calls prog 132 #[.slice none 0 0,.int .i64 (l.length:Int)] W fun e w'=>∃ v',e=.returned v'∧Own w' W.heap.size v' (Lib.uvarint l.length)∧Below W.heap.size W w'):=fun W=>by
  have h:=ZbE (.slice none 0 0) [] (l.length:Int) W (Rd.nil W) (by simp)
  rw[J0 (by omega) (by omega),za9,nil_append] at h
  exact h
 rw[aF.o];have az:(Lib.uvarint (l.getD 0 Qi).idx.toNat++Lib.uvarint l.length).length<=20:=by rw[length_append];omega
 have aD:=(aN.o 0 u);have a8:=ZZ aD;have be:=ZZ a.2.2.1;have K:Hid (∀ W N V Y,N=W.heap.size->Rd W V (Lib.uvarint (l.getD 0 Qi).idx.toNat)->Rd W Y (Lib.uvarint l.length)->Calls prog 131 #[.slice (some ⟨N,0,none⟩) 2 2] (W.alloc (.cells #[V,Y] 53)) fun e w'=>∃ v',e=.returned v'∧Own w' W.heap.size v' (Lib.uvarint (l.getD 0 Qi).idx.toNat++Lib.uvarint l.length)∧Below W.heap.size W w'):=fun W N V Y hN h0 u=>ZyZ W N hN V Y _ _ h0 u (by omega)
 clear a hc hh aF i0 i1 u1 u2 aD;generalize (l.getD 0 Qi)=r0 at *;generalize Lib.uvarint r0.idx.toNat=A at *;obtain⟨A2,aH⟩:=zgy (Lib.uvarint l.length);rw[<-aH] at am K az ⊢;clear aH;obtain⟨H,hH⟩:=zgy (A++A2);rw[<-hH] at K az ⊢;clear hH;have bd:=@run_makeMap prog;have bl:(0:Int)<(l.length:Int):=by omega
 go_enter func90,ntmps90
 go_wp2_with fail
 refine(J.o _ HR.o).mono ?_;rintro e W1 ⟨rfl,y⟩;have D:=ZZ y
 have aY:W1.cell? ⟨c,aW,none⟩=some (.int .i64 r0.idx):=by
  have h:=(a8.o W1 y).1
  rwa [zc3,zcw] at h
 clear y
 go_wp2_with fail
 refine(aT.o _).mono ?_;rintro e W2 ⟨v2,rfl,ax,aS⟩;obtain⟨a2,n2,rfl,-⟩:=ax.rd;have aG:=ZZ ax.rd;have aa:=ZZ (D.o.trans (aS.mono D.o.size));clear ax aS aY D
 go_wp2_with fail
 refine(am.o _).mono ?_;rintro e W3 ⟨v3,rfl,ag,ai⟩;obtain⟨a3,n3,rfl,-⟩:=ag.rd;have aM:=ZZ (aG.o.below ai zL);have aE:=ZZ ag.rd;have R:=ZZ (aa.o.trans (ai.mono aa.o.size));clear ag ai aG aa aT am
 go_wp2_with fail
 refine(K.o W3 W3.heap.size _ _ rfl aM.o aE.o).mono ?_;rintro e z ⟨v4,rfl,aL,aV⟩;have aC:=ZZ (aL.mono R.o.size);have S:=ZZ (R.o.trans (aV.mono R.o.size));clear aL aV aM aE R K;have d:Hid (Own (z.alloc (.map #[] 0)) w.heap.size v4 H):=ZZ (aC.o.below ((zac _ _).alloc zL _) zL);have i:=ZZ (ZfU.made z);have p:Hid (Below w.heap.size w (z.alloc (.map #[] 0))):=ZZ (S.o.alloc S.o.size _);have HN:=ZZ S.o.size;go_wp2
 go_loopw[4,24] (fun vo vi wr=>∃ k:Nat,vi=.int .i64 (k:Int)∧k<=l.length∧Hid (Own wr w.heap.size vo (H++Yg [] (l.take k)))∧Hid (ZfU wr z.heap.size k (Q7 (l.take k)))∧Hid (Below w.heap.size w wr)) (fun _ vi _=>l.length-(intOf vi).toNat)
 case atStart=>exact⟨0,rfl,zai _,by simpa[Yg] using d,i,p⟩
 case round=>
  clear d p i aC S;obtain⟨k,rfl,f,t,hM,B⟩:=hrel;by_cases I:k<l.length
  case neg=>
   have aP:l.take k=l.take l.length:=by rw[take_length,zbc (by omega)]
   rw[aP] at t;clear aP;go_wp2;go_ret2;exact⟨_,rfl,t.out,B.out⟩
  have bj:(k:Int)<(l.length:Int):=by omega
  have x:=aJ.o k I;have C:Hid (I64 ((l.getD k Qi).seq-Q7 (l.take k) (l.getD k Qi).proc)):=ZZ (Zeu (ae.o k) x);have m:Hid (∀ W,Calls prog 133 #[Zso (l.getD k Qi),.int .i64 ((l.getD k Qi).seq-Q7 (l.take k) (l.getD k Qi).proc)] W fun e w'=>∃ v',e=.returned v'∧Own w' W.heap.size v' (Zf (l.take k) (l.getD k Qi))∧Below W.heap.size W w'):=ZZ (fun W=>ZiI (l.getD k Qi) ((l.getD k Qi).seq-Q7 (l.take k) (l.getD k Qi).proc) W x C.o)
  have aw:Hid (I64 (l.getD k Qi).proc):=ZZ (by obtain⟨_,_,_,_,_,bb,bm,_⟩:=x;exact⟨by omega,by omega⟩)
  have aB:Hid (I64 (l.getD k Qi).seq):=ZZ (by obtain⟨_,_,_,bf,bk,_⟩:=x;exact⟨by omega,by omega⟩)
  have M:=ZZ (ZkD (ae.o k) x);have aj:=ZZ (aN.o k I);have a4:=aX.o k;have ap:Hid ((H++Yg [] (l.take k)).length<=20000):=ZZ (by rw[length_append];omega)
  have T:Hid (H++Yg [] (l.take (k+1))=(H++Yg [] (l.take k))++Zf (l.take k) (l.getD k Qi)):=ZZ (by
   rw[a1.o k I,zcn])
  have aQ:Hid (Zzu (Q7 (l.take k)) (l.getD k Qi).proc (l.getD k Qi).seq=Q7 (l.take (k+1))):=ZZ (by
   rw[ZiJ,ZfQ I])
  clear a4 x;obtain⟨r,b⟩:=zgy (l.getD k Qi);rw[<-b] at C m aw aB M aj T aQ;unfold Zso at m;clear b;have ad:Hid (∀ X,(Instr.lookup 183 (.map (some z.heap.size)) (.int .i64 r.proc) false).run prog (wr.alloc X)=.ok (.int .i64 (Q7 (l.take k) r.proc)) (wr.alloc X)):=ZZ (fun X=>(hM.out.below ((zac _ _).alloc zL X) zL).look aw.o)
  obtain⟨O,aO⟩:=zgy (Q7 (l.take k) r.proc);rw[<-aO] at C m ad;clear aO;obtain⟨E,hE⟩:=zgy (Zf (l.take k) r);rw[<-hE] at m M T;clear hE;obtain⟨G,aI⟩:=zgy (H++Yg [] (l.take k));rw[<-aI] at t ap T;clear aI;have L0:=ap.o;have L1:=M.o;have bi:IntKind.i64.wrap (r.seq-O)=r.seq-O:=ZoP C.o;have ba:=ad.o;obtain⟨c0,c1,c2,c3,c4,c5,c6⟩:=aj.o wr B.out
  obtain⟨Q,F,rfl⟩:∃ Q F,u4=.slice Q G.length F:=by
   obtain⟨Q,F,h,-⟩:=t.out.rd;exact⟨Q,F,h⟩
  have aA:Hid (∀ cs,Br (wr.alloc (.cells cs 62)) wr.heap.size cs):=fun cs=>zaf wr _
  have ak:Hid (∀ X,Below wr.heap.size wr (wr.alloc X)):=fun X=>(zac _ _).alloc zL X
  clear ad C ap M
  go_wp2_with fail
  refine(m.o _).mono ?_;rintro e W5 ⟨v5,rfl,ab,av⟩;obtain⟨a5,n5,rfl,-⟩:=ab.rd;have L:Below wr.heap.size wr W5:=(ak.o _).trans (av.mono (ak.o _).size);have aR:=ZZ ab.rd;have d:=ZZ (t.out.below L zL);have i:=ZZ (hM.out.below L zL);have U:Hid (Br W5 wr.heap.size _):=ZZ ((aA.o _).below av zL);have p:=ZZ (B.out.trans (L.mono B.out.size));have ac:=ZZ p.o.size;clear ab av L t hM B aA ak c0 c1 c2 c3 c4 c5 c6 ba m aj
  go_wp2_with(at_builtin;refine ZfP _ rfl _ _ rfl w.heap.size _ G rfl d.o _ E rfl aR.o (by omega) ac.o ?_)
  intro v6 W6 an P;rw[<-T.o] at an;have au:=ZZ an;have af:Hid (Br W6 wr.heap.size _):=ZZ ((P.block _ U.o.lt (U.o.own d.o)).trans U.o)
  have aq:=ZZ (i.o.keep (P.block _ i.o.lt (by
   rcases i.o.own d.o with h | h
   ·rw[h];exact fun e=>by cases e
   ·exact fun e=>h e.symm)))
  have ar:=ZZ (p.o.grown P ac.o (fun j q=>by
   rcases d.o.2 with ⟨Z,_⟩ | ⟨g,cap,cur,Z,bg,_⟩
   ·rw[Z] at q;cases q
   ·rw[Z] at q
    have e':g=j:=by simpa[Value.ownBlock] using q
    omega))
  clear an P d U i p ac aR;obtain⟨W7,bc,al,ay⟩:=aq.o.put aw.o aB.o (by omega)
  rw[aQ.o] at al;have aZ:=ZZ al;have a6:Hid (Own W7 w.heap.size v6 (H++Yg [] (l.take (k+1)))):=ZZ (zfa au.o ay (aq.o.own au.o));have a0:=ZZ (ar.o.grown ay ar.o.size (fun j q=>by cases q;exact HN.o))
  obtain⟨q1,-⟩:=af.o.cell 1;obtain⟨q2,-⟩:=af.o.cell 2;clear al ay aq au ar af;go_wp2;go_roundw
  case rel=>exact⟨k+1,by go_num,by omega,a6,aZ,a0⟩
  case measure=>simp[intOf];omega
theorem ZjS (v:Value) (l:List Rec) (w:World) (k:RdR w v l) (b:Yc l) (m:(X9 l).length<=1048576):
 Calls prog 49 #[v] w fun e w'=>∃ v',e=.returned v'∧Own w' w.heap.size v' (Qd (X9 l))∧Below w.heap.size w w':=by
 have a:=ZZ (ZgJ v l w k);unfold ZlV at a;rw[zab b,zab b] at a;have j:=ZZ (fun d W (h:Rd W d (X9 l))=>Zdj d _ W h)
 rw[ZlW m] at j;obtain⟨ao,cap,rfl,-⟩:=k;generalize X9 l=B at *;generalize Qd B=y at *;clear b m
 go_enter func49,ntmps49
 go_wp2_with fail
 refine a.o.mono ?_;rintro e z ⟨d,rfl,i,n⟩;have q:=ZZ i.rd;have c:=ZZ n;clear i n
 go_wp2_with fail
 refine(j.o _ _ q.o).mono ?_;rintro e x ⟨u,rfl,g,f⟩;have t:=ZZ (g.mono c.o.size);have p:=ZZ (c.o.trans (f.mono c.o.size));clear g f;go_wp2;go_ret;exact⟨_,rfl,t.o,p.o⟩
theorem ZlZ {L:ZdU} (w:World) (h:Jq M I w p pd L s) (n:ZpE s) (i:0<=s.now.st.kind∧s.now.st.kind<6) (G:s.next<4611686018427387904) (u:0<=s.next):
 Calls prog 51 #[ptr p] w fun e w'=>∃ v',e=.returned v'∧Own w' w.heap.size v' (Qd (Xq 3 s.now.st.kind.toNat s.next.toNat))∧Below w.heap.size w w':=by
 have f:=ZZ h
 have E:Hid (∀ W,Below w.heap.size w W->Calls prog 14 #[ptr p] W fun e w'=>e=.returned (.int .i64 s.next)∧Below w.heap.size w w'):=ZZ (fun W a=>(Zit W (h.below a) n).mono (by
  rintro e w' ⟨rfl,d⟩
  exact⟨rfl,a.trans (d.mono a.size)⟩))
 have z:Hid (∀ W,Below w.heap.size w W->Calls prog 93 #[.int .i64 3,.int .i64 s.now.st.kind,.int .i64 s.next] W fun e w'=>∃ v',e=.returned (.tuple #[v',.int .i64 0])∧Own w' w.heap.size v' (Qd (Xq 3 s.now.st.kind.toNat s.next.toNat))∧Below w.heap.size w w'):=ZZ (fun W a=>by
  have c:=ZnN 3 s.now.st.kind s.next W;have g:Zgs s.now.st.kind s.next:=⟨i.1,i.2,u,G⟩;have y:Jj 3 s.now.st.kind s.next=0:=by unfold Jj;rw[zab (by decide),zab g]
  have F:ZgI 3 s.now.st.kind s.next=Qd (Xq 3 s.now.st.kind.toNat s.next.toNat):=by unfold ZgI;rw[zab (by decide),zab g];rfl
  unfold Zrb at c;rw[y,F] at c;refine c.mono ?_;rintro e w' ⟨v',rfl,C,d⟩
  exact⟨v',rfl,C.mono a.size,a.trans (d.mono a.size)⟩)
 have b:Hid (∀ W,Below w.heap.size w W->W.cell? ⟨p,6,none⟩=some (.int .i64 s.now.st.kind)):=ZZ (fun W a=>by
  obtain⟨-,-,-,-,-,⟨-,J,-⟩,-⟩:=(f.o.below a).cs
  exact J)
 have l:Hid (Below w.heap.size w w.drew):=ZZ (zac _ _).drew;generalize Qd (Xq 3 s.now.st.kind.toNat s.next.toNat)=B at *;generalize s.now.st.kind=kd at *;generalize s.next=nx at *;clear h f n
 go_enter func51,ntmps51
 go_upto_region 1 with fail
 go_cut[3,4] (fun H x wc=>x=.int .i64 0∧Hid (Own wc w.heap.size H B)∧Hid (Below w.heap.size w wc))
 case first=>
  go_region_held(fun W=>W.cell? ⟨p,6,none⟩=some (.int .i64 kd))
   (first | (with_reducible exact b.o _ l.o) | (with_reducible exact b.o _ q.o) | (with_reducible exact b.o _ k.o))
   (first
    | (go_at_call 14;refine(E.o _ l.o).mono ?_;rintro e O ⟨rfl,t⟩;have q:=ZZ t;clear t)
    | (go_at_call 93;refine(z.o _ q.o).mono ?_;rintro e N ⟨K,rfl,m,j⟩;have A:=ZZ m;have k:=ZZ j;clear m j))
  all_goals
   go_wp2_with fail
   go_meet
   exact⟨rfl,A,k⟩
 case rest=>
  obtain⟨rfl,D,v⟩:=hcut;go_wp2;go_ret;exact⟨_,rfl,D.o,v.o⟩
def Zza (t:List Ent):Prop:=ZhB t∧∀ e ∈ t,0<=e.proc∧e.proc<=64
theorem ZnP:∀ (t:List Ent) (a:Int),ZhB t->(∀ e ∈ t,a<=e.proc∧e.proc<=64)->(t.length:Int)<=max 0 (65-a)
 | [],a,_,_=>by simp only [zcr];omega
 | e::t,a,h,hb=>by
  unfold ZhB at h;rw[zb6] at h;have d:=hb e zbi;have c:=ZnP t (e.proc+1) h.2 (fun x b=>⟨by have:=h.1 x b;omega,(hb x (za4 _ b)).2⟩)
  rw[zb9];omega
theorem Zza.few (h:Zza t):t.length<=65:=by
 have:=ZnP t 0 h.1 h.2;omega
theorem Zza.note (h:Zza t) {e:Ent} (b:0<=e.proc) (c:e.proc<=64):Zza (ZcF t e):=by
 refine⟨ZhC h.1,fun x a=>?_⟩
 rw[ZmF] at a;rcases a with rfl | ⟨a,_⟩
 ·exact⟨b,c⟩
 ·exact h.2 x a
theorem Zet.tabR (h:Zet t):Zza t:=⟨h.rises,fun e a=>by
 have:=h.mem e a;unfold Zbm at this
 omega⟩
def SnS (s:Q0):Prop:=Yl s.st∧Zza s.tab
theorem SnS.next {s:Q0} {r:Rec} (h:SnS s) (c:Qz r):SnS (ZhH s r):=by
 refine⟨ZhG h.1 r.op,?_⟩;obtain⟨-,-,-,-,-,a,b,-⟩:=c;exact h.2.note a b
theorem SnS.take:∀ {l:List Rec} {s:Q0},SnS s->(Q3 s l).2=0->SnS (Q3 s l).1
 | [],_,h,_=>h
 | r::l,s,h,h0=>by
  rw[Q3] at h0 ⊢;split at h0
  ·cases h0
  ·rename_i c
   rw[zaa c];split at h0
   ·cases h0
   ·rename_i a
    rw[zaa a]
    exact SnS.take (h.next (by
     by_cases b:Qz r
     ·exact b
     ·exact absurd b a)) h0
structure OkS (s:Sto):Prop where
 log:OkG s.log
 nx:s.now.idx=s.next
 now:SnS s.now
 cur:s.cur≠0->s.log.pcs.length≠0
 sy:I64 s.synced
 cu:I64 s.cur
theorem OkS.num (h:OkS s):ZpE s:=⟨h.log.f0,h.log.top,h.sy,h.cu⟩
theorem OkG.recOk {b:Lgb} (h:OkG b):∀ r ∈ b.recs,Zcx r:=fun r a=>ZaQ (h.fits r a)
theorem SD.begin (h:SD K w pd p s d N T) (v:∀ k,K k->k<w.heap.size) (name first:Int) (j:s.log.pcs.length<=1000000):
 Calls prog 53 #[.pointer (some ⟨p,1,none⟩),.int .i64 name,.int .i64 first] w fun e w'=>e=.returned (.tuple #[])∧SD K w' pd p { s with log:=s.log.start name first } d N T∧Ql (fun k=>¬ K k) w w':=by
 obtain⟨F,M,I,L,x,a,b,t,n,m,q⟩:=h;refine(Zkz 76 (by decide) (by decide) p 1 _ L.rv L.pv s.log name first w a.toLog j).mono ?_
 rintro e w' ⟨f,g⟩;obtain⟨M',L',l,-,-,u,c⟩:=a.ofLog g;exact⟨f,SD.own v x b t n m q u l c (fun _ i=>.inl i)⟩
theorem SD.add (h:SD K w pd p s d N T) (C:∀ k,K k->k<w.heap.size) (a:Value) (l:List Rec) (v:RdR w a l) (A:s.log.pcs.length≠0) (m:s.log.pcs.length<=1000000) (E:s.log.recs.length+l.length<=10000000) (B:∀ q ∈ s.log.pcs,0<=q.stop∧q.stop<=4611686018427387904):
 Calls prog 54 #[.pointer (some ⟨p,1,none⟩),a] w fun e w'=>e=.returned (.tuple #[])∧SD K w' pd p { s with log:=s.log.add l } d N T∧Ql (fun k=>¬ K k) w w':=by
 obtain⟨F,M,I,L,D,b,c,y,u,t,x⟩:=h;refine(Zve 76 (by decide) (by decide) p 1 _ L.rv L.pv s.log a l w b.toLog v A m E B).mono ?_
 rintro e w' ⟨g,i⟩;obtain⟨M',L',n,-,-,z,f⟩:=b.ofLog i;exact⟨g,SD.own C D c y u t x z n f (fun _ j=>.inl j)⟩
def Zma (w:World) (p o:Nat) (x0 x1 x2 x3 x4 x5:Value):World:=(((((w.setCell ⟨p,o,none⟩ x0).setCell ⟨p,o+1,none⟩ x1).setCell ⟨p,o+2,none⟩ x2).setCell ⟨p,o+3,none⟩ x3).setCell ⟨p,o+4,none⟩ x4).setCell ⟨p,o+5,none⟩ x5
theorem ZsS (w:World) (p o:Nat) (g d b c f e:Value) (k:Nat) (a:k≠p):(Zma w p o g d b c f e).heap[k]?=w.heap[k]?:=by
 unfold Zma;rw[zal _ _ _ _ a,zal _ _ _ _ a,zal _ _ _ _ a,zal _ _ _ _ a,zal _ _ _ _ a,zal _ _ _ _ a]
theorem ZsT (w:World) (p o:Nat) (i e c d g f:Value) (M:Nat->Prop) (a:M p):Ql M w (Zma w p o i e c d g f):=
 ((((((Ql.refl M w).setCell (b:=p) _ (fun _=>a) _).setCell (b:=p) _ (fun _=>a) _).setCell (b:=p) _ (fun _=>a) _).setCell (b:=p) _ (fun _=>a) _).setCell (b:=p) _ (fun _=>a) _).setCell (b:=p) _ (fun _=>a) _
theorem SD.setNow {W:World} {F:Nat->Prop} {L:ZdU} (Q:∀ k,K k->k<w.heap.size) (R:Dsk F w pd d N T) (a:Jq M I w p pd L s) (z:∀ k,F k->¬ K k) (O:∀ k,M k->¬ K k) (E:∀ k,I k->¬ K k) (D:∀ k,F k->¬ M k) (J:∀ k,F k->¬ I k)
 (i:Below w.heap.size w W) (x:Q0 × Value × Value) (S:SnR W x) (hi:Zmp (fun k=>I k∨(w.heap.size<=k∧k<W.heap.size)) x):
 SD K (Zma W p 5 (.int .i64 x.1.idx) (.int .i64 x.1.st.kind) x.2.1 (.bool x.1.st.shut) (.int .i64 x.1.st.eng) x.2.2) pd p { s with now:=x.1 } d N T∧
  Ql (fun k=>¬ K k) w (Zma W p 5 (.int .i64 x.1.idx) (.int .i64 x.1.st.kind) x.2.1 (.bool x.1.st.shut) (.int .i64 x.1.st.eng) x.2.2):=by
 obtain⟨f,j⟩:=zgy (Zma W p 5 (.int .i64 x.1.idx) (.int .i64 x.1.st.kind) x.2.1 (.bool x.1.st.shut) (.int .i64 x.1.st.eng) x.2.2);rw[<-j];have b:=a.below i;have hk:∀ k,k≠p->f.heap[k]?=W.heap[k]?:=fun k hk=>by rw[j];exact ZsS _ _ _ _ _ _ _ _ _ k hk
 have P:Ql M w f:=(Ql.ofBelow i).trans (G:=M) (by rw[j];exact ZsT _ _ _ _ _ _ _ _ _ M a.mh) (fun _ _ h=>h)
 have q:f.heap.size=W.heap.size:=by rw[j];unfold Zma;simp
 have U:p<w.heap.size:=a.ltM p a.mh
 have B:Bk 76 f p (stC pd { L with nl:=x.2.1,nt:=x.2.2 } { s with now:=x.1 }):=by
  rw[j];exact(((((b.head.set 5 _).set 6 _).set 7 _).set 8 _).set 9 _).set 10 _
 have m:∀ {t:TypeId} {n sz g:Nat} {v:Value} {xs:List Value},W.ownsRow 0 t sz v n xs->v.ownBlock=some g->t≠76->g≠p:=fun H c C=>by
  obtain⟨V,i⟩:=X0 H c;exact i.ne b.head C
 have u:∀ k,(I k∨(w.heap.size<=k∧k<W.heap.size))->f.heap[k]?=W.heap[k]?:=fun k A=>hk k (fun e=>by
  subst e;rcases A with h | h
  ·exact a.dis _ a.mh h
  ·omega)
 refine SD.own (I':=fun k=>I k∨(w.heap.size<=k∧k<W.heap.size)) (M':=M) (L':={ L with nl:=x.2.1,nt:=x.2.2 }) Q R z O E D J P ⟨B,Qh b.recs fun g c=>hk g (m b.recs c (by decide)),Qh b.pcs fun g c=>hk g (m b.pcs c (by decide)),Qh b.bases fun g c=>hk g (m b.bases c (by decide)),b.bsEq,S.keep hi u,fun y l=>(b.base y l).keep (b.ibase y l) (fun g c=>u g (.inl c)),a.mh,a.mr,a.mp,a.mb,hi,fun y l=>(a.ibase y l).mono (fun k hk=>.inl hk),fun k hm=>?_,fun k hm=>?_,fun k hm hi=>?_⟩ (fun _ hk=>.inl hk) (fun k hk=>?_)
 ·rw[q];exact zav (a.ltM k hm) i.size
 ·rw[q]
  rcases hm with hm | hm
  ·exact zav (a.ltI k hm) i.size
  ·exact hm.2
 ·rcases hi with hi | hi
  ·exact a.dis k hm hi
  ·have:=a.ltM k hm
   omega
 ·rcases hk with hk | hk
  ·exact .inl hk
  ·exact .inr hk.1
theorem ZiK (h:Yc l):(X9 l).length<=20000:=by
 obtain⟨c,g,a,e⟩:=h;have b:=ZfT l [] (fun r b=>by cases b) a
 unfold X9;rw[length_append,length_append]
 have d:Qz (l.headD Qi):=by
  match l,c with
  | r::t,_=>exact a r zbi
 have f:(Lib.uvarint (l.headD Qi).idx.toNat).length<=10:=Gh (by have:=d.2.2.1;omega)
 have i:(Lib.uvarint l.length).length<=10:=Gh (by omega)
 omega
theorem ZsU (h:Yc l) (a:0<=s.now.st.kind∧s.now.st.kind<6) (e:s.next<4611686018427387904):(Jv s l).length<=30000:=by
 have g:=ZiK h;have i:=Q9 (X9 l);have b:=Q9 (Xq 3 s.now.st.kind.toNat s.next.toNat);have c:=ZcP (v:=3) (k:=s.now.st.kind.toNat) (f:=s.next.toNat) (by decide) (by omega) (by omega)
 have d:(Lib.uvarint (X9 l).length).length<=10:=Gh (by omega)
 have j:(Lib.uvarint (Xq 3 s.now.st.kind.toNat s.next.toNat).length).length<=10:=Gh (by omega)
 unfold Jv;split
 ·rw[length_append]
  omega
 ·omega
theorem ZcQ (h:OkD d) (first:Int) (f:0<=first) (g:first<=1000):I64 (Xs d first):=by
 have a:∀ n ∈ Xk (Qk d) first,0<=n∧n<1048576:=fun n c=>Zbg h n (zax.1 c).1
 unfold Xs;generalize Xk (Qk d) first=l at a ⊢;by_cases b:l.length=0
 ·rw[zaj b]
  show I64 (first-2+2);exact⟨by omega,by omega⟩
 ·have e:l.getD (l.length-1) (first-2)=l[l.length-1]'(by omega):=by simp[List.getD,show l.length-1<l.length by omega]
  have:=a _ (zcs (show l.length-1<l.length by omega))
  rw[e];exact⟨by omega,by omega⟩
theorem RdR.keepK (h:RdR w v l) (hv:l=[]∨∀ k,v.ownBlock=some k->K k) (n:Ql (fun k=>¬ K k) w w'):RdR w' v l:=by
 obtain⟨ao,cap,rfl,i,e,m,g,a⟩:=h;refine⟨ao,cap,rfl,i,e,m,g,?_⟩;rcases hv with hv | hv
 ·exact .inl hv
 rcases a with a | ⟨b,p,rfl,c⟩
 ·exact .inl a
 ·exact .inr ⟨b,p,rfl,fun j d=>(c j d).keep (n.block b (c j d).lt (fun f=>f (hv b rfl)))⟩
theorem SD.takes (h:SD K w pd p s d N T) (hK:∀ k,K k->k<w.heap.size) (O:SnS s.now) (G:Value) (l:List Rec) (hr:RdR w G l) (af:l.length<=1000000):
 ∃ f b lc a n c,(w.cell? ⟨p,5,none⟩=some (.int .i64 s.now.idx)∧w.cell? ⟨p,6,none⟩=some (.int .i64 s.now.st.kind)∧w.cell? ⟨p,7,none⟩=some (.slice f b lc)∧w.cell? ⟨p,8,none⟩=some (.bool s.now.st.shut)∧w.cell? ⟨p,9,none⟩=some (.int .i64 s.now.st.eng)∧w.cell? ⟨p,10,none⟩=some (.slice a n c))∧
  Calls prog 15 #[.agg #[.int .i64 s.now.idx,.int .i64 s.now.st.kind,.slice f b lc,.bool s.now.st.shut,.int .i64 s.now.st.eng,.slice a n c],G] w fun e w'=>
   ∃ t A q y D u,e=.returned (.tuple #[.agg #[.int .i64 (Q3 s.now l).1.idx,.int .i64 (Q3 s.now l).1.st.kind,.slice t A q,.bool (Q3 s.now l).1.st.shut,.int .i64 (Q3 s.now l).1.st.eng,.slice y D u],.int .i64 (Q3 s.now l).2])∧
    (w'.cell? ⟨p,5,none⟩=some (.int .i64 s.now.idx)∧w'.cell? ⟨p,6,none⟩=some (.int .i64 s.now.st.kind)∧w'.cell? ⟨p,7,none⟩=some (.slice f b lc)∧w'.cell? ⟨p,8,none⟩=some (.bool s.now.st.shut)∧w'.cell? ⟨p,9,none⟩=some (.int .i64 s.now.st.eng)∧w'.cell? ⟨p,10,none⟩=some (.slice a n c))∧(∀ j,w'.frozen? ⟨p,j,none⟩=false)∧
    SD K (Zma w' p 5 (.int .i64 (Q3 s.now l).1.idx) (.int .i64 (Q3 s.now l).1.st.kind) (.slice t A q) (.bool (Q3 s.now l).1.st.shut) (.int .i64 (Q3 s.now l).1.st.eng) (.slice y D u)) pd p { s with now:=(Q3 s.now l).1 } d N T∧
    Ql (fun k=>¬ K k) w (Zma w' p 5 (.int .i64 (Q3 s.now l).1.idx) (.int .i64 (Q3 s.now l).1.st.kind) (.slice t A q) (.bool (Q3 s.now l).1.st.shut) (.int .i64 (Q3 s.now l).1.st.eng) (.slice y D u)):=by
 obtain⟨F,M,I,L,h1,m,h3,h4,h5,h6,h7⟩:=h;obtain⟨f,b,lc,a,n,c,e1,e2⟩:=m.now.shape;have z:L.nl=.slice f b lc:=e1;have Q:L.nt=.slice a n c:=e2
 have Y:∀ W,Below w.heap.size w W->(W.cell? ⟨p,5,none⟩=some (.int .i64 s.now.idx)∧W.cell? ⟨p,6,none⟩=some (.int .i64 s.now.st.kind)∧W.cell? ⟨p,7,none⟩=some (.slice f b lc)∧W.cell? ⟨p,8,none⟩=some (.bool s.now.st.shut)∧W.cell? ⟨p,9,none⟩=some (.int .i64 s.now.st.eng)∧W.cell? ⟨p,10,none⟩=some (.slice a n c)):=fun W hW=>by
  obtain⟨-,-,-,-,-,⟨c5,c6,c7,c8,c9,X⟩,-⟩:=(m.below hW).cs;rw[z] at c7;rw[Q] at X;exact⟨c5,c6,c7,c8,c9,X⟩
 refine⟨f,b,lc,a,n,c,Y w (zac _ _),?_⟩;have R:=m.now.snV
 have ad:snV (L.nx s)=.agg #[.int .i64 s.now.idx,.int .i64 s.now.st.kind,.slice f b lc,.bool s.now.st.shut,.int .i64 s.now.st.eng,.slice a n c]:=by
  unfold snV snC ZdU.nx
  dsimp only
  rw[z,Q]
 rw[ad] at R;have hL:s.now.st.L.length<=1000:=by have:=ZlJ O.1;omega
 have hT:s.now.tab.length<=1000:=by have:=O.2.few;omega
 refine(Zij (P:=SnS) (fun S r x hf=>x.next hf) (fun S x=>by have:=x.2.few;omega) _ _ _ _ _ _ s.now G l w R hr hL hT (by omega) O).mono ?_
 rintro e w' ⟨B,H,rfl,C,r2,r3,U,r5,g1,g2,J⟩;obtain⟨t,q,Z,-⟩:=id C;obtain⟨y,u,hu⟩:=U.shape;have x:SnR w' ((Q3 s.now l).1,B,H):=⟨C,U,r2,r3,r5⟩
 have ae:Zmp (fun k=>I k∨(w.heap.size<=k∧k<w'.heap.size)) ((Q3 s.now l).1,B,H):=by
  refine⟨?_,?_⟩
  ·rcases C.block with ab | ⟨ag,k,V,aa⟩
   ·exact .inl ab
   ·rcases g1 with g1 | g1
    ·rcases m.inow.1 with hi | hi
     ·obtain⟨a2,c2,h9,-⟩:=m.now.l
      have v:L.nl=.slice a2 s.now.st.L.length c2:=h9;have ac:s.now.st.L=[]:=hi;rw[ac] at v;rw[Z] at g1;rw[z] at v
      injection g1 with _ g1 _
      injection v with _ v _
      exact .inl (zaj (by rw[g1,v];rfl))
     ·refine .inr fun g i=>.inl (hi g ?_)
      show L.nl.ownBlock=some g;rw[z,<-g1];exact i
    ·refine .inr fun g i=>.inr ⟨g1 g i,?_⟩
     rw[i] at V;obtain rfl:=zak V;exact aa
  ·rcases g2 with ⟨rfl,g2⟩ | g2
   ·rcases m.inow.2 with hi | hi
    ·exact .inl hi
    ·refine .inr fun g i=>.inl (hi g ?_)
     show L.nt.ownBlock=some g;rw[Q,<-g2];exact i
   ·exact .inr fun g i=>.inr (zar g2 g i)
 have E:=SD.setNow hK h1 m h3 h4 h5 h6 h7 J ((Q3 s.now l).1,B,H) x ae
 dsimp only at E
 subst Z hu;exact⟨t,_,q,y,_,u,rfl,Y w' J,fun j=>(m.below J).fz j,E.1,E.2⟩
end Go.Proofs.YtnahjngbneicaaaGreatDoor
