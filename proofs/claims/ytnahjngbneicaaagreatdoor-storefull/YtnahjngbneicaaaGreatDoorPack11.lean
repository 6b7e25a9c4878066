import Derived.Test.YtnahjngbneicaaaGreatDoorPack10
namespace Go.Proofs.YtnahjngbneicaaaGreatDoor
set_option linter.unusedSimpArgs false
open _root_.Go.Proofs.Tryz
open List (length_append length_drop nil_append take_length)
set_option maxHeartbeats 8000000
set_option maxRecDepth 100000
open Go.RowKit
variable {L:List (List UInt8)} {d:Dk} {w w':World} {B N T b n p pd:Nat} {x y z:Int} {v:Value} {f:Int->Int} {I K M:Nat->Prop} {s:Sto} {t:List Ent} {l:List Rec}
theorem ZdF (v:Int) (B:Bool) (c:B=decide (1<=v∧v<=3)) (w:World):
 Calls prog 188 #[.int .i64 v] w fun e w'=>e=.returned (.bool B)∧w'=w:=by
 subst c;by_cases h:1<=v∧v<=3
 ·rw[zan h]
  obtain⟨b,a⟩:=h
  go_enter func188,ntmps188
  go_wp2;go_ret;exact⟨rfl,rfl⟩
 ·rw[zai h]
  by_cases b:1<=v
  ·have a:¬ v<=3:=fun a=>h ⟨b,a⟩
   clear h
   go_enter func188,ntmps188
   go_wp2;go_ret;exact⟨rfl,rfl⟩
  ·clear h
   go_enter func188,ntmps188
   go_wp2;go_ret;exact⟨rfl,rfl⟩
theorem Zof (v k f:Int) (w:World):
 Calls prog 137 #[.agg #[.int .i64 v,.int .i64 k,.int .i64 f]] w fun e w'=>e=.returned (.int .i64 (Jm v k f))∧Below w.heap.size w w':=by
 have c:Hid (∀ X,Below w.heap.size w (w.alloc X)):=fun X=>(zac _ _).alloc zL X
 by_cases a:1<=v∧v<=3
 case neg=>
  have b:=ZZ (ZdF v false (by rw[zai a]))
  have g:Hid (Jm v k f=6):=ZZ (zaa a);rw[g.o];clear a
  go_enter func137,ntmps137
  go_wp2_with fail
  refine(b.o _).mono ?_;rintro e d ⟨rfl,rfl⟩;go_wp2;go_ret;exact⟨rfl,c.o _⟩
 have b:=ZZ (ZdF v true (by rw[zan a]))
 by_cases h:ZgC k f
 case neg=>
  have g:Hid (Jm v k f=1):=ZZ (by unfold Jm;rw[zab a,zaa h])
  rw[g.o];clear a;by_cases n:k<0
  ·clear h
   go_enter func137,ntmps137
   go_wp2_with fail
   refine(b.o _).mono ?_;rintro e d ⟨rfl,rfl⟩;go_wp2;go_ret;exact⟨rfl,c.o _⟩
  by_cases z:6<=k
  ·clear h
   go_enter func137,ntmps137
   go_wp2_with fail
   refine(b.o _).mono ?_;rintro e d ⟨rfl,rfl⟩;go_wp2;go_ret;exact⟨rfl,c.o _⟩
  by_cases x:f<0
  ·clear h
   go_enter func137,ntmps137
   go_wp2_with fail
   refine(b.o _).mono ?_;rintro e d ⟨rfl,rfl⟩;go_wp2;go_ret;exact⟨rfl,c.o _⟩
  have i:4611686018427387904<=f:=by
   by_cases i:f<4611686018427387904
   ·exact absurd ⟨by omega,by omega,by omega,i⟩ h
   ·omega
  clear h
  go_enter func137,ntmps137
  go_wp2_with fail
  refine(b.o _).mono ?_;rintro e d ⟨rfl,rfl⟩;go_wp2;go_ret;exact⟨rfl,c.o _⟩
 have g:Hid (Jm v k f=0):=ZZ (by unfold Jm;rw[zab a,zab h])
 rw[g.o];obtain⟨l,p,u,m⟩:=h;have y:¬ k<0:=by omega
 have j:¬ 6<=k:=by omega
 have q:¬ f<0:=by omega
 have t:¬ 4611686018427387904<=f:=by omega
 clear a
 go_enter func137,ntmps137
 go_wp2_with fail
 refine(b.o _).mono ?_;rintro e d ⟨rfl,rfl⟩;go_wp2;go_ret;exact⟨rfl,c.o _⟩
theorem Zmp {k:Nat} (h:k<L.length):Qf (L.take (k+1))=Qf (L.take k)++Qd (L.getD k []):=by
 rw[Ztg h,Zay];simp[Qf]
theorem Zqh {d:List UInt8} (h:d.length<=1048576):ZgR (d.length:Int)=(Qd d).length:=by
 unfold ZgR;rw[zab ⟨by omega,by omega⟩,Xa,zbj]
 omega
theorem ZvU (v:Value) (L:List (List UInt8)) (w:World) (t:RdL w v L) (i:∀ x ∈ L,x.length<=1048576) (A:(Qf L).length<=10000000):
 Calls prog 206 #[v] w fun e w'=>e=.returned (.int .i64 ((Qf L).length:Nat))∧Below w.heap.size w w':=by
 have M:=ZZ t;obtain⟨ao,cap,rfl,E,q,-⟩:=t;have S:(L.length:Int)<=9223372036854775807:=by unfold maxLen at q;omega
 have F:=ZZ (fun k a=>M.o.at k a)
 obtain⟨Z,d⟩:∃ Z:Nat->Nat,Z=fun k=>(Qf (L.take k)).length:=⟨_,rfl⟩
 have J:Hid (Z 0=0):=ZZ (by rw[d];simp[Qf])
 have H:Hid (∀ k,k<L.length->Z (k+1)=Z k+ZgR ((L.getD k []).length:Int)):=ZZ (fun k a=>by
  rw[d];simp only
  rw[Zmp a,length_append,Zqh (i _ (Zrt a))])
 have C:Hid (∀ k,Z k<=10000000):=ZZ (fun k=>by
  rw[d];have:=Zfa L k;simp only
  omega)
 have D:Hid ((Qf L).length=Z L.length):=ZZ (by rw[d];simp only;rw[take_length])
 have G:Hid (∀ k,k<L.length->∀ W,Calls prog 134 #[.int .i64 ((L.getD k []).length:Int)] W fun e w'=>e=.returned (.int .i64 (ZgR ((L.getD k []).length:Int):Nat))∧Below W.heap.size W w'):=ZZ (fun k a W=>by
  have:=i _ (Zrt a)
  exact Zrr _ W (by omega) (by omega))
 rw[D.o];clear d E q i A
 go_enter func206,ntmps206
 go_wp2
 go_loopw[3,8] (fun vs f wr=>∃ k:Nat,f=.int .i64 (k:Int)∧vs=.int .i64 (Z k:Int)∧k<=L.length∧Hid (Below w.heap.size w wr)) (fun _ f _=>L.length-(intOf f).toNat)
 case atStart=>exact⟨0,rfl,by rw[J.o];rfl,zap _,zac _ _⟩
 case round=>
  obtain⟨k,rfl,rfl,a,c⟩:=hrel;by_cases l:k<L.length
  case neg=>
   have e:k=L.length:=by omega
   subst e;go_wp2;go_ret;exact⟨rfl,c.out⟩
  obtain⟨b,Q,x,rfl,y,p⟩:=F.o k l;have O:=y wr c.out;have g:=ZZ (H.o k l);have K:=ZZ (G.o k l);have B:=C.o (k+1);rw[g.o] at B;obtain⟨R,P,rfl,-⟩:=p wr c.out;obtain⟨u,j⟩:=zg7 (Z (k+1));rw[<-j] at g;have I:=ZZ j;generalize Z k=z at *;generalize ZgR ((L.getD k []).length:Int)=sz at *;generalize (L.getD k []).length=n at *;clear y p j
  go_wp2_with fail
  refine(K.o _).mono ?_;rintro e T ⟨rfl,m⟩;have N:=ZZ (c.out.trans (m.mono c.out.size));clear m;go_wp2;go_roundw
  case rel=>exact⟨k+1,by go_num,by rw[<-I.o,g.o];go_num,by omega,N⟩
  case measure=>simp[intOf];omega
theorem Zqi (a c b:Int) (W:World):(Instr.index 188 (.agg #[.int .i64 a,.int .i64 c,.int .i64 b]) (.int .i64 0)).run prog W=.ok (.int .i64 a) W:=by
 simp[Instr.index,ze5 underlying188,asIntOf,go_sem]
theorem Zqj (c a b:Int) (W:World):(Instr.index 188 (.agg #[.int .i64 c,.int .i64 a,.int .i64 b]) (.int .i64 1)).run prog W=.ok (.int .i64 a) W:=by
 simp[Instr.index,ze5 underlying188,asIntOf,go_sem]
theorem Zqk (b c a:Int) (W:World):(Instr.index 188 (.agg #[.int .i64 b,.int .i64 c,.int .i64 a]) (.int .i64 2)).run prog W=.ok (.int .i64 a) W:=by
 simp[Instr.index,ze5 underlying188,asIntOf,go_sem]
theorem Zog (v k f:Int) (hv:1<=v∧v<=3) (h:ZgC k f) (w:World):
 Calls prog 138 #[.agg #[.int .i64 v,.int .i64 k,.int .i64 f]] w fun e w'=>∃ v',e=.returned v'∧Own w' w.heap.size v' (Xq v.toNat k.toNat f.toNat)∧Below w.heap.size w w':=by
 obtain⟨L,k1,Q,M⟩:=h
 have t:Hid (∀ b l n W,Rd W b l->l.length<=1000->0<=n->n<4611686018427387904->Calls prog 132 #[b,.int .i64 n] W fun e w'=>∃ v',e=.returned v'∧Own w' W.heap.size v' (l++Lib.uvarint n.toNat)∧Below W.heap.size W w'):=fun b l n W h hl S U=>by
  have h:=ZbD b l n W h (by omega)
  rw[J4 S U] at h;exact h
 have N:(Lib.uvarint v.toNat).length<=10:=Gm (by omega)
 have V:(Lib.uvarint k.toNat).length<=10:=Gm (by omega)
 have H:Hid (Xq v.toNat k.toNat f.toNat=(([108]++Lib.uvarint v.toNat)++Lib.uvarint k.toNat)++Lib.uvarint f.toNat):=ZZ (by unfold Xq;simp)
 have E:=ZZ (fun b W h=>t.o b [108] v W h (by simp) (by omega) (by omega))
 have D:=ZZ (fun b W h=>t.o b ([108]++Lib.uvarint v.toNat) k W h (by simp only [length_append,zcw];omega) L (by omega))
 have A:=ZZ (fun b W h=>t.o b (([108]++Lib.uvarint v.toNat)++Lib.uvarint k.toNat) f W h (by simp only [length_append,zcw];omega) Q M)
 rw[<-H.o] at A;clear H t;obtain⟨d,j⟩:∃ d:Nat->List UInt8,d=fun q=>if q=0 then[108] else if q=1 then[108]++Lib.uvarint v.toNat else if q=2 then[108]++Lib.uvarint v.toNat++Lib.uvarint k.toNat else Xq v.toNat k.toNat f.toNat:=⟨_,rfl⟩
 have z:[108]=d 0:=by rw[j];rfl
 have B:[108]++Lib.uvarint v.toNat=d 1:=by rw[j];rfl
 have x:[108]++Lib.uvarint v.toNat++Lib.uvarint k.toNat=d 2:=by rw[j];rfl
 have y:Xq v.toNat k.toNat f.toNat=d 3:=by rw[j];rfl
 have O:Hid (∀ W:World,Rd (W.alloc (.cells #[.int .u8 108] 5)) (.slice (some ⟨W.heap.size,0,none⟩) 1 1) (d 0)):=ZZ (fun W=>by rw[<-z];exact Rd.byte W 108)
 rw[x,y] at A;rw[x,B] at D;rw[B,z] at E;rw[y];clear z B x y j N V;have K:Hid (∀ X Y,Below w.heap.size w ((w.alloc X).alloc Y)):=fun X Y=>Below.allocs (Below.allocs (zac _ _) X) Y
 go_enter func138,ntmps138
 go_wp2
 go_loopw[3,8] (fun I u wr=>∃ q:Nat,u=.int .i64 (q:Int)∧q<=3∧Hid (Rd wr I (d q))∧Hid (1<=q->Own wr w.heap.size I (d q))∧Hid (Below w.heap.size w wr)) (fun _ u _=>3-(intOf u).toNat)
 case atStart=>
  refine⟨0,rfl,zap _,?_,fun h=>absurd h (by decide),K.o _ _⟩
  have h:=O.o (w.alloc (.cells #[.int .i64 v,.int .i64 k,.int .i64 f] 188));have e:(w.alloc (.cells #[.int .i64 v,.int .i64 k,.int .i64 f] 188)).heap.size=w.heap.size+1:=by simp
  rw[e] at h;exact h
 case round=>
  obtain⟨q,rfl,Z,C,T,c⟩:=hrel;by_cases aa:q<3
  case neg=>
   have e:q=3:=by omega
   subst e;have R:=ZZ (T.out (by decide))
   go_wp2;go_ret;exact⟨_,rfl,R.o,c.out⟩
  have P:q=0∨q=1∨q=2:=by omega
  rcases P with rfl | rfl | rfl
  ·have F:=Zqi v k f
   go_wp2_with fail
   refine(E.o _ _ C.out).mono ?_;rintro e J ⟨G,rfl,a,g⟩;have m:=ZZ a.rd;have i:=ZZ (a.mono c.out.size);have p:=ZZ (c.out.trans (g.mono c.out.size));clear a g;go_wp2;go_roundw
   case rel=>exact⟨1,rfl,by omega,m,ZZ (fun _=>i.o),p⟩
   case measure=>simp[intOf]
  ·have F:=Zqj v k f
   go_wp2_with fail
   refine(D.o _ _ C.out).mono ?_;rintro e J ⟨G,rfl,a,g⟩;have m:=ZZ a.rd;have i:=ZZ (a.mono c.out.size);have p:=ZZ (c.out.trans (g.mono c.out.size));clear a g;go_wp2;go_roundw
   case rel=>exact⟨2,rfl,by omega,m,ZZ (fun _=>i.o),p⟩
   case measure=>simp[intOf]
  ·have F:=Zqk v k f
   go_wp2_with fail
   refine(A.o _ _ C.out).mono ?_;rintro e J ⟨G,rfl,a,g⟩;have m:=ZZ a.rd;have i:=ZZ (a.mono c.out.size);have p:=ZZ (c.out.trans (g.mono c.out.size));clear a g;go_wp2;go_roundw
   case rel=>exact⟨3,rfl,by omega,m,ZZ (fun _=>i.o),p⟩
   case measure=>simp[intOf]
theorem Zoh (v k f:Int) (w:World):
 Calls prog 93 #[.int .i64 v,.int .i64 k,.int .i64 f] w fun e w'=>Zrs w v k f e w':=by
 unfold Zrs;have i:Hid (∀ X,Below w.heap.size w (w.alloc X)):=fun X=>(zac _ _).alloc zL X
 have E:Hid (∀ cs,(w.alloc (.cells cs 188)).heap[w.heap.size]?=some (.cells cs 188 (0,0))):=fun cs=>zak w _
 have j:=ZZ (fun W=>Zof v k f W)
 by_cases p:(1<=v∧v<=3)∧ZgC k f
 case neg=>
  have b:Jm v k f≠0∧ZgX v k f=[]:=by
   unfold Jm ZgX;by_cases a:1<=v∧v<=3
   ·rw[zab a,zab a,zaa (fun h=>p ⟨a,h⟩),zaa (fun h=>p ⟨a,h⟩)]
    exact⟨by decide,rfl⟩
   ·rw[zaa a,zaa a]
    exact⟨by decide,rfl⟩
  obtain⟨b,g⟩:=b;rw[g];generalize Jm v k f=J at *;have N:(J != 0)=true:=by rw[zbq];exact b
  clear p b g
  go_enter func93,ntmps93
  go_wp2_with fail
  refine(j.o _).mono ?_;rintro e m ⟨rfl,d⟩;have n:=ZZ ((i.o _).trans (d.mono (i.o _).size));clear d;go_wp2;go_ret2;exact⟨_,rfl,Own.nil _ _,n.o⟩
 obtain⟨a,c⟩:=p;have C:=ZZ (fun W=>Zog v k f a c W)
 have b:Jm v k f=0:=by unfold Jm;rw[zab a,zab c]
 have g:ZgX v k f=Qd (Xq v.toNat k.toNat f.toNat):=by unfold ZgX;rw[zab a,zab c]
 have Q:(Xq v.toNat k.toNat f.toNat).length<=40:=ZcO (by omega) (by have:=c.2.1;omega) (by have:=c.2.2.2;omega)
 have A:=ZZ (fun z W (h:Rd W z (Xq v.toNat k.toNat f.toNat))=>Zdp z _ W h)
 rw[Zmo (by omega)] at A
 rw[b] at j ⊢;rw[g];generalize Xq v.toNat k.toNat f.toNat=H at *;generalize Qd H=F at *;clear a c b g
 go_enter func93,ntmps93
 go_wp2_with fail
 refine(j.o _).mono ?_;rintro e m ⟨rfl,d⟩;have l:=ZZ ((d.block _ (by simp)).trans (E.out _))
 have n:=ZZ ((i.o _).trans (d.mono (i.o _).size));clear d j;have B:m.cell? ⟨w.heap.size,0,none⟩=some (.int .i64 v):=zas _ _ 0 _ _ _ l.o;have I:m.cell? ⟨w.heap.size,1,none⟩=some (.int .i64 k):=zas _ _ 1 _ _ _ l.o;have D:m.cell? ⟨w.heap.size,2,none⟩=some (.int .i64 f):=zas _ _ 2 _ _ _ l.o
 go_wp2_with fail
 refine(C.o _).mono ?_;rintro e R ⟨O,rfl,x,t⟩;have K:=ZZ x.rd;have q:=ZZ (n.o.trans (t.mono n.o.size));clear x t B I D l
 go_wp2_with fail
 refine(A.o _ _ K.o).mono ?_;rintro e M ⟨P,rfl,u,y⟩;have L:=ZZ (u.mono q.o.size);have G:=ZZ (q.o.trans (y.mono q.o.size));clear u y;go_wp2;go_ret2;exact⟨_,rfl,L.o,G.o⟩
def Bhd (w:World) (b:Nat) (x y z:Int):Prop:=w.heap[b]?=some (.cells #[.int .i64 x,.int .i64 y,.int .i64 z] 188 (0,0))
theorem Bhd.lt (h:Bhd w b x y z):b<w.heap.size:=(zar.1 h).1
theorem Bhd.below (h:Bhd w b x y z) (c:Below B w w') (a:b<B):Bhd w' b x y z:=(c.block b a).trans h
theorem Bhd.cell (h:Bhd w b x y z):(w.cell? ⟨b,0,none⟩=some (.int .i64 x)∧w.cell? ⟨b,1,none⟩=some (.int .i64 y)∧w.cell? ⟨b,2,none⟩=some (.int .i64 z))∧∀ j,w.frozen? ⟨b,j,none⟩=false:=
 ⟨⟨zas w b 0 _ _ _ h,zas w b 1 _ _ _ h,zas w b 2 _ _ _ h⟩,fun j=>zbc w b j _ _ h⟩
theorem Bhd.set0 (h:Bhd w b x y z) (n:Int):Bhd (w.setCell ⟨b,0,none⟩ (.int .i64 n)) b n y z:=by
 have a:=zbk w b 0 _ _ (.int .i64 n) h;unfold Bhd;simpa using a
theorem Bhd.set1 (h:Bhd w b x y z) (n:Int):Bhd (w.setCell ⟨b,1,none⟩ (.int .i64 n)) b x n z:=by
 have a:=zbk w b 1 _ _ (.int .i64 n) h;unfold Bhd;simpa using a
theorem Bhd.set2 (h:Bhd w b x y z) (n:Int):Bhd (w.setCell ⟨b,2,none⟩ (.int .i64 n)) b x y n:=by
 have a:=zbk w b 2 _ _ (.int .i64 n) h;unfold Bhd;simpa using a
theorem Bhd.other {c:Nat} (h:Bhd w b x y z) (a:b≠c) (j:Nat) (u:Value):Bhd (w.setCell ⟨c,j,none⟩ u) b x y z:=(zat _ _ _ _ a).trans h
def ZAv:Except Int (Nat × Nat × Nat)->Int
 | .error e=>e
 | .ok _=>0
def ZaR (w:World) (d:List UInt8) (e:Ending) (w':World):Prop:=
 ∃ x y z:Int,e=.returned (.tuple #[.agg #[.int .i64 x,.int .i64 y,.int .i64 z],.int .i64 (ZAv (Z8 d))])∧(∀ v k f,Z8 d=.ok (v,k,f)->x=(v:Int)∧y=(k:Int)∧z=(f:Int))∧Below w.heap.size w w'
theorem ZaR.form {d:List UInt8} (h:Z8 d=.error 3) (b:Below w.heap.size w w'):ZaR w d (.returned (.tuple #[.agg #[.int .i64 0,.int .i64 0,.int .i64 0],.int .i64 3])) w':=
 ⟨0,0,0,by rw[h];rfl,(fun v k f a=>by rw[h] at a;cases a),b⟩
theorem Zmq (v:Value) (d:List UInt8) (w:World) (hr:Rd w v d):
 Calls prog 203 #[v] w fun e w'=>ZaR w d e w':=by
 have HR:=ZZ hr;obtain⟨ao,cap,rfl,aX,aN,-,aG⟩:=hr;have be:(d.length:Int)<=9223372036854775807:=by unfold maxLen at aN;omega
 have ax:Hid (∀ X,Below w.heap.size w (w.alloc X)):=fun X=>(zac _ _).alloc zL X
 by_cases h0:d.length=0
 ·have e:d=[]:=zao h0
  have A:Hid (Z8 d=.error 3):=ZZ (ZkR (.inl e));have aZ:((d.length:Int) == 0)=true:=by rw[zbi];omega
  clear e h0 aG
  go_enter func203,ntmps203
  go_wp2;refine zax (v:=.tuple #[.agg #[.int .i64 0,.int .i64 0,.int .i64 0],.int .i64 3]) (by simp[results,Tryz.results203,go_sem]) rfl ?_
  exact ZaR.form A.o (ax.o _)
 have aZ:((d.length:Int) == 0)=false:=zah.2 (by omega)
 have bb:(0:Int)<(d.length:Int):=by omega
 have al:d≠[]:=fun e=>by rw[e] at h0;simp at h0
 rcases aG with he | ⟨b,au,rfl,hc⟩
 ·exact absurd he al
 have az:=hc 0 (by omega)
 have a8:b<w.heap.size:=za1 w ⟨b,au+0,none⟩ az;have a3:∀ X,(w.alloc X).cell? ⟨b,au,none⟩=some (.int .u8 ((d.getD 0 0).toNat:Nat)):=fun X=>((ax.o X).cell (p:=⟨b,au,none⟩) a8).trans az
 clear hc az aX aN;by_cases hm:d.getD 0 0=108
 case neg=>
  have A:Hid (Z8 d=.error 3):=ZZ (ZkR (.inr hm))
  have a9:((((d.getD 0 0).toNat:Nat):Int) != 108)=true:=by
   rw[zbq];intro h;apply hm;apply UInt8.toNat_inj.1;have:(108:UInt8).toNat=108:=rfl;omega
  clear hm al h0;generalize (((d.getD 0 0).toNat:Nat):Int)=c0 at *
  go_enter func203,ntmps203
  go_wp2;refine zax (v:=.tuple #[.agg #[.int .i64 0,.int .i64 0,.int .i64 0],.int .i64 3]) (by simp[results,Tryz.results203,go_sem]) rfl ?_
  exact ZaR.form A.o (ax.o _)
 have a9:((((d.getD 0 0).toNat:Nat):Int) != 108)=false:=by
  rw[hm];rfl
 have aI:¬ (d=[]∨d.getD 0 0≠108):=by rintro(h | h);exact al h;exact h hm
 generalize (((d.getD 0 0).toNat:Nat):Int)=c0 at *;obtain⟨a1,c1,aH,aO⟩:=ZyT w _ d cap HR.o 1 (by omega)
 obtain⟨⟨C,g⟩,aq⟩:∃ x,Qb (d.drop 1)=x:=⟨_,rfl⟩;obtain⟨⟨G,m⟩,ar⟩:∃ x,Qb (d.drop (1+g))=x:=⟨_,rfl⟩;obtain⟨⟨H,F⟩,ad⟩:∃ x,Qb (d.drop (1+g+m))=x:=⟨_,rfl⟩;have an:=Jy (d.drop 1);have av:=Jy (d.drop (1+g));have am:=Jy (d.drop (1+g+m));have q2:=ZxT (d.drop (1+g+m));rw[aq,length_drop] at an;rw[ar,length_drop] at av;rw[ad,length_drop] at am;rw[ad] at q2;simp only at an av am q2;have A:=ZZ (Zti aI aq ar ad)
 have aR:=aO 1 rfl
 -- the three rounds
 have aE:=ZZ aH;have HF:=ZZ (fun W=>Zof (C:Int) (G:Int) (H:Int) W)
 have X1:Hid (∀ x y z Y,Bhd ((w.alloc (.cells #[.int .i64 x,.int .i64 y,.int .i64 z] 188)).alloc Y) w.heap.size x y z):=fun x y z Y=>(zav _ _ _ (by simp)).trans (zak w _)
 have X2:Hid (∀ X x y z,Bhd ((w.alloc X).alloc (.cells #[.int .i64 x,.int .i64 y,.int .i64 z] 188)) (w.heap.size+1) x y z):=fun X x y z=>ZpC w X _
 have ab:Hid (∀ X Y,Below w.heap.size w ((w.alloc X).alloc Y)):=fun X Y=>Below.allocs (Below.allocs (zac _ _) X) Y
 clear aH aO hm al h0;obtain⟨l,af⟩:∃ l:Nat->Nat,l=fun q=>if q=0 then 1 else if q=1 then 1+g else if q=2 then 1+g+m else 1+g+m+F:=⟨_,rfl⟩
 have p0:l 0=1:=by rw[af];rfl
 have p1:l 1=1+g:=by rw[af];rfl
 have p2:l 2=1+g+m:=by rw[af];rfl
 have p3:l 3=1+g+m+F:=by rw[af];rfl
 have u:Hid (l 0=1∧l 1=1+g∧l 2=1+g+m∧l 3=1+g+m+F):=ZZ ⟨p0,p1,p2,p3⟩;obtain⟨t,aP⟩:∃ t:Nat->Nat,t=fun q=>(d.drop (l q)).length:=⟨_,rfl⟩
 have Z:Hid (∀ q,t q=(d.drop (l q)).length):=ZZ (fun q=>by rw[aP])
 have aK:Hid (Rd w (.slice a1 (t 0) c1) (d.drop (l 0))):=ZZ (by rw[Z.o,p0];exact aE.o)
 have a5:∀ W,(Instr.sliceAt 53 (.slice (some ⟨b,au,none⟩) d.length cap) (some (.int .i64 1)) none none).run prog W=.ok (.slice a1 (t 0) c1) W:=by rw[Z.o,p0];exact aR
 have aC:Hid (∀ (a:Option Addr) (c q k:Nat),l (q+1)=l q+k->l q+k<=d.length->Rd w (.slice a (t q) c) (d.drop (l q))->∃ a' c',Rd w (.slice a' (t (q+1)) c') (d.drop (l (q+1)))∧∀ i:Int,i=(k:Int)->∀ W,(Instr.sliceAt 53 (.slice a (t q) c) (some (.int .i64 i)) none none).run prog W=.ok (.slice a' (t (q+1)) c') W):=ZZ (fun a c q k hp B aT=>by
  rw[Z.o q] at aT;obtain⟨a',c',h1,h2⟩:=ZyT w a (d.drop (l q)) c aT k (by rw[length_drop];omega)
  rw[zdz,<-hp,<-Z.o (q+1)] at h1;rw[zdz,<-hp,<-Z.o q,<-Z.o (q+1)] at h2
  exact⟨a',c',h1,h2⟩)
 have HG:Hid (∀ W a c q n k,Below w.heap.size w W->Rd w (.slice a (t q) c) (d.drop (l q))->Qb (d.drop (l q))=(n,k)->Calls prog 168 #[.slice a (t q) c] W fun e w'=>e=.returned (.tuple #[.int .i64 (n:Int),.int .i64 (k:Int)])∧w'=W):=ZZ (fun W a c q n k hb h hd=>by
  have hx:=ZcH _ _ W (h.below hb zL);rw[hd] at hx
  exact hx)
 have HD:Hid (Qb (d.drop 1)=(C,g)∧Qb (d.drop (1+g))=(G,m)∧Qb (d.drop (1+g+m))=(H,F)):=ZZ ⟨aq,ar,ad⟩;have Q:Hid (g<=d.length-1∧m<=d.length-(1+g)∧F<=d.length-(1+g+m)):=ZZ ⟨an,av,am⟩;clear af aP p0 p1 p2 p3 aE aR aq ar ad an av am aI
 go_enter func203,ntmps203
 go_wp2
 go_loopw[5,21] (fun vl vi wr=>∃ (q:Nat) (a:Option Addr) (c:Nat) (x y z:Int),vi=.int .i64 (q:Int)∧vl=.slice a (t q) c∧q<=3∧Hid (Rd w (.slice a (t q) c) (d.drop (l q)))∧Hid (Bhd wr (w.heap.size+1) x y z)∧Hid (Bhd wr w.heap.size 0 0 0)∧Hid ((1<=q->x=(C:Int)∧g≠0)∧(2<=q->y=(G:Int)∧m≠0)∧(3<=q->z=(H:Int)∧F≠0))∧Hid (Below w.heap.size w wr)) (fun _ vi _=>3-(intOf vi).toNat)
 case atStart=>exact⟨0,a1,c1,0,0,0,rfl,rfl,zap _,aK,ZZ (X2.out _ _ _ _),ZZ (X1.out _ _ _ _),ZZ ⟨fun h=>absurd h (by decide),fun h=>absurd h (by decide),fun h=>absurd h (by decide)⟩,ZZ (ab.o _ _)⟩
 case round=>
  obtain⟨q,a,c,x,y,z,rfl,rfl,hq,aa,I,J,hI,E⟩:=hrel;clear aK a5 a3;by_cases bd:q<3
  case neg=>
   have e:q=3:=by omega
   subst e;have h1:=hI.out.1 (by decide)
   have h2:=hI.out.2.1 (by decide)
   have h3:=hI.out.2.2 (by decide)
   obtain⟨rfl,aM⟩:=h1;obtain⟨rfl,aU⟩:=h2;obtain⟨rfl,aD⟩:=h3;by_cases ay:1+g+m+F=d.length
   case neg=>
    have O:Hid (Z8 d=.error 3):=ZZ (by rw[A.o,zab (.inr (.inr (.inr ay)))])
    have ap:t 3≠0:=by
     rw[Z.o,u.o.2.2.2,length_drop];have:=Q.o;omega
    have bj:(0:Int)<(t 3:Int):=by omega
    have aY:0<t 3:=by omega
    have bg:decide (0<t 3)=true:=zan aY;generalize t 3=ln at *;obtain⟨⟨r0,R,S⟩,j⟩:=J.out.cell;have f0:=j 0;have f1:=j 1;have f2:=j 2;clear j ap aM aU aD ay A;go_wp2;refine zax (v:=.tuple #[.agg #[.int .i64 0,.int .i64 0,.int .i64 0],.int .i64 3]) (by simp[results,Tryz.results203,go_sem,r0,R,S]) rfl ?_
    exact ZaR.form O.o (Jb E.out _ zL _ _ _)
   have ap:t 3=0:=by
    rw[Z.o,u.o.2.2.2,length_drop];omega
   have aQ:Hid (Jm (C:Int) (G:Int) (H:Int)=ZAv (Z8 d)):=ZZ (by
    rw[A.o,zaa (by omega)]
    unfold Jm;by_cases g1:C<1∨3<C
    ·rw[zaa (by omega),zab g1];rfl
    ·rw[zab (by omega),zaa g1]
     by_cases g2:6<=G
     ·rw[zab g2,zaa (fun h=>by have:=h.2.1;omega)];rfl
     ·rw[zaa g2,zab ⟨by omega,by omega,by omega,by omega⟩];rfl)
   have a4:Hid (∀ v k f,Z8 d=.ok (v,k,f)->(C:Int)=(v:Int)∧(G:Int)=(k:Int)∧(H:Int)=(f:Int)):=ZZ (fun v k f P=>by
    rw[A.o] at P;split at P
    ·cases P
    split at P
    ·cases P
    split at P
    ·cases P
    simp only [Except.ok.injEq,zcj] at P;obtain⟨rfl,rfl,rfl⟩:=P
    exact⟨rfl,rfl,rfl⟩)
   rw[aQ.o] at HF;rw[ap] at aa ⊢;obtain⟨er,aA⟩:=zg7 (ZAv (Z8 d));rw[<-aA] at HF;have a6:=ZZ aA;clear aA;obtain⟨⟨r0,R,S⟩,j⟩:=J.out.cell;have f0:=j 0;have f1:=j 1;have f2:=j 2;obtain⟨⟨g0,g1,g2⟩,-⟩:=I.out.cell;have aW:Hid (∀ W,Below wr.heap.size wr W->W.cell? ⟨w.heap.size+1,0,none⟩=some (.int .i64 (C:Int))∧W.cell? ⟨w.heap.size+1,1,none⟩=some (.int .i64 (G:Int))∧W.cell? ⟨w.heap.size+1,2,none⟩=some (.int .i64 (H:Int))):=ZZ (fun W hb=>(I.out.below hb I.out.lt).cell.1)
   have aV:Hid (Below wr.heap.size wr wr.drew):=ZZ ((zac _ _).drew);have a2:=ZZ (aW.o _ aV.o);generalize (C:Int)=K at *;generalize (G:Int)=M at *;generalize (H:Int)=L at *;clear j aM aU aD ay A aQ Q HD hI ap u;have bf:w.heap.size≠w.heap.size+1:=by omega
   have aL:Hid (Bhd (((wr.setCell ⟨w.heap.size,0,none⟩ (.int .i64 K)).setCell ⟨w.heap.size,1,none⟩ (.int .i64 M)).setCell ⟨w.heap.size,2,none⟩ (.int .i64 L)) w.heap.size K M L):=ZZ (((J.out.set0 K).set1 M).set2 L);have aB:Hid (Bhd (((wr.setCell ⟨w.heap.size,0,none⟩ (.int .i64 K)).setCell ⟨w.heap.size,1,none⟩ (.int .i64 M)).setCell ⟨w.heap.size,2,none⟩ (.int .i64 L)) (w.heap.size+1) K M L):=ZZ (((I.out.other (by omega) 0 _).other (by omega) 1 _).other (by omega) 2 _)
   have aJ:Hid (Below w.heap.size w (((wr.setCell ⟨w.heap.size,0,none⟩ (.int .i64 K)).setCell ⟨w.heap.size,1,none⟩ (.int .i64 M)).setCell ⟨w.heap.size,2,none⟩ (.int .i64 L)).drew):=ZZ (Jb E.out _ zL _ _ _).drew
   go_upto_region 15 with fail
   go_region_held2(fun w'=>w'.cell? ⟨w.heap.size+1,0,none⟩=some (.int .i64 K)∧w'.cell? ⟨w.heap.size+1,1,none⟩=some (.int .i64 M)∧w'.cell? ⟨w.heap.size+1,2,none⟩=some (.int .i64 L)) (first | exact a2.o | exact a0.o | exact a7.o | exact aB.o.cell.1 | go_keep)
    (first
     | (go_at_call 137;refine(HF.o wr.drew).mono ?_;rintro e N ⟨rfl,aS⟩;have ab:=ZZ (aV.o.trans aS);have a0:=ZZ (aW.o N ab.o);have aF:=ZZ (E.out.trans (ab.o.mono E.out.size));obtain⟨⟨s0,s1,s2⟩,sf⟩:=(J.out.below ab.o J.out.lt).cell;have bi:=sf 0;have ba:=sf 1;have bc:=sf 2;obtain⟨⟨t0,t1,t2⟩,-⟩:=(I.out.below ab.o I.out.lt).cell;clear aS sf)
     | (go_at_call 137;refine(HF.o (((wr.setCell ⟨w.heap.size,0,none⟩ (.int .i64 K)).setCell ⟨w.heap.size,1,none⟩ (.int .i64 M)).setCell ⟨w.heap.size,2,none⟩ (.int .i64 L)).drew).mono ?_;rintro e W3 ⟨rfl,aw⟩;have a7:=ZZ (aB.o.below aw aB.o.lt).cell.1;have O:=ZZ (aJ.o.trans (aw.mono aJ.o.size));obtain⟨⟨s0,s1,s2⟩,-⟩:=(aL.o.below aw aL.o.lt).cell;clear aw))
   all_goals
    go_wp2;refine zax (v:=.tuple #[.agg #[.int .i64 K,.int .i64 M,.int .i64 L],.int .i64 er]) (by simp[results,Tryz.results203,go_sem,s0,s1,s2]) rfl ⟨K,M,L,by rw[a6.o],a4.o,?_⟩
    first
    | exact O.o
    | exact(Jb aF.o _ zL _ _ _)
    | exact(Jb aF.o _ zL _ _ _).drew
  have h3:q=0∨q=1∨q=2:=by omega
  rcases h3 with rfl | rfl | rfl
  ·have T:=ZZ (HG.o wr a c 0 C g E.out aa.out (by rw[u.o.1];exact HD.o.1))
   by_cases B:g=0
   ·have O:Hid (Z8 d=.error 3):=ZZ (by rw[A.o,zab (.inl B)])
    have ai:((g:Int) == 0)=true:=by rw[zbi];omega
    obtain⟨⟨r0,R,S⟩,j⟩:=J.out.cell;have f0:=j 0;have f1:=j 1;have f2:=j 2;clear j B A Q
    go_wp2_with fail
    refine T.o.mono ?_;rintro e N ⟨rfl,D⟩;rw[D];go_wp2;refine zax (v:=.tuple #[.agg #[.int .i64 0,.int .i64 0,.int .i64 0],.int .i64 3]) (by simp[results,Tryz.results203,go_sem,r0,R,S]) rfl ?_
    exact ZaR.form O.o (Jb E.out _ zL _ _ _)
   have ai:((g:Int) == 0)=false:=zah.2 (by omega)
   have ag:=ZZ B;obtain⟨a',c',U,hcut⟩:=aC.o a c 0 g (by rw[u.o.2.1,u.o.1]) (by rw[u.o.1];have:=Q.o;omega) aa.out
   have kc:=hcut (g:Int) rfl;have ak:=ZZ U;obtain⟨⟨g0,g1,g2⟩,V⟩:=I.out.cell;have fq:=V 0;have aj:=ZZ (I.out.set0 (C:Int));have ae:=ZZ (J.out.other (show w.heap.size≠w.heap.size+1 by omega) 0 (.int .i64 (C:Int)))
   have ac:=ZZ (E.out.setCell (p:=⟨w.heap.size+1,0,none⟩) (show w.heap.size<=w.heap.size+1 by omega) (.int .i64 (C:Int)))
   clear B hcut U V
   go_wp2_with fail
   refine T.o.mono ?_;rintro e N ⟨rfl,D⟩;rw[D];clear D N;go_wp2
   go_region
   all_goals
    go_wp2;go_roundw
    case rel=>exact⟨1,a',c',(C:Int),y,z,rfl,rfl,by omega,ak,aj,ae,ZZ ⟨fun _=>⟨rfl,ag.o⟩,fun h=>absurd h (by decide),fun h=>absurd h (by decide)⟩,ZZ ac.o.drew⟩
    case measure=>simp[intOf]
  ·have T:=ZZ (HG.o wr a c 1 G m E.out aa.out (by rw[u.o.2.1];exact HD.o.2.1))
   by_cases B:m=0
   ·have O:Hid (Z8 d=.error 3):=ZZ (by rw[A.o,zab (.inr (.inl B))])
    have ai:((m:Int) == 0)=true:=by rw[zbi];omega
    obtain⟨⟨r0,R,S⟩,j⟩:=J.out.cell;have f0:=j 0;have f1:=j 1;have f2:=j 2;clear j B A Q
    go_wp2_with fail
    refine T.o.mono ?_;rintro e N ⟨rfl,D⟩;rw[D];go_wp2;refine zax (v:=.tuple #[.agg #[.int .i64 0,.int .i64 0,.int .i64 0],.int .i64 3]) (by simp[results,Tryz.results203,go_sem,r0,R,S]) rfl ?_
    exact ZaR.form O.o (Jb E.out _ zL _ _ _)
   have ai:((m:Int) == 0)=false:=zah.2 (by omega)
   have ag:=ZZ B;obtain⟨a',c',U,hcut⟩:=aC.o a c 1 m (by rw[u.o.2.2.1,u.o.2.1]) (by rw[u.o.2.1];have:=Q.o;omega) aa.out
   have kc:=hcut (m:Int) rfl;have ak:=ZZ U;obtain⟨⟨g0,g1,g2⟩,V⟩:=I.out.cell;have fq:=V 1;have aj:=ZZ (I.out.set1 (G:Int));have ae:=ZZ (J.out.other (show w.heap.size≠w.heap.size+1 by omega) 1 (.int .i64 (G:Int)))
   have ac:=ZZ (E.out.setCell (p:=⟨w.heap.size+1,1,none⟩) (show w.heap.size<=w.heap.size+1 by omega) (.int .i64 (G:Int)))
   clear B hcut U V
   go_wp2_with fail
   refine T.o.mono ?_;rintro e N ⟨rfl,D⟩;rw[D];clear D N;go_wp2
   go_region
   all_goals
    go_wp2;go_roundw
    case rel=>exact⟨2,a',c',x,(G:Int),z,rfl,rfl,by omega,ak,aj,ae,ZZ ⟨fun _=>hI.out.1 (by decide),fun _=>⟨rfl,ag.o⟩,fun h=>absurd h (by decide)⟩,ZZ ac.o.drew⟩
    case measure=>simp[intOf]
  ·have T:=ZZ (HG.o wr a c 2 H F E.out aa.out (by rw[u.o.2.2.1];exact HD.o.2.2))
   by_cases B:F=0
   ·have O:Hid (Z8 d=.error 3):=ZZ (by rw[A.o,zab (.inr (.inr (.inl B)))])
    have ai:((F:Int) == 0)=true:=by rw[zbi];omega
    obtain⟨⟨r0,R,S⟩,j⟩:=J.out.cell;have f0:=j 0;have f1:=j 1;have f2:=j 2;clear j B A Q
    go_wp2_with fail
    refine T.o.mono ?_;rintro e N ⟨rfl,D⟩;rw[D];go_wp2;refine zax (v:=.tuple #[.agg #[.int .i64 0,.int .i64 0,.int .i64 0],.int .i64 3]) (by simp[results,Tryz.results203,go_sem,r0,R,S]) rfl ?_
    exact ZaR.form O.o (Jb E.out _ zL _ _ _)
   have ai:((F:Int) == 0)=false:=zah.2 (by omega)
   have ag:=ZZ B;obtain⟨a',c',U,hcut⟩:=aC.o a c 2 F (by rw[u.o.2.2.2,u.o.2.2.1]) (by rw[u.o.2.2.1];have:=Q.o;omega) aa.out
   have kc:=hcut (F:Int) rfl;have ak:=ZZ U;obtain⟨⟨g0,g1,g2⟩,V⟩:=I.out.cell;have fq:=V 2;have aj:=ZZ (I.out.set2 (H:Int));have ae:=ZZ (J.out.other (show w.heap.size≠w.heap.size+1 by omega) 2 (.int .i64 (H:Int)))
   have ac:=ZZ (E.out.setCell (p:=⟨w.heap.size+1,2,none⟩) (show w.heap.size<=w.heap.size+1 by omega) (.int .i64 (H:Int)))
   clear B hcut U V
   go_wp2_with fail
   refine T.o.mono ?_;rintro e N ⟨rfl,D⟩;rw[D];clear D N;go_wp2
   go_region
   all_goals
    go_wp2;go_roundw
    case rel=>exact⟨3,a',c',x,y,(H:Int),rfl,rfl,by omega,ak,aj,ae,ZZ ⟨fun _=>hI.out.1 (by decide),fun _=>hI.out.2.1 (by decide),fun _=>⟨rfl,ag.o⟩⟩,ZZ ac.o.drew⟩
    case measure=>simp[intOf]
theorem Zql (v k f:Int) (a:Option Addr) (n c:Nat) (w:World):
 Calls prog 205 #[.agg #[.int .i64 v,.int .i64 k,.int .i64 f],.slice a n c] w fun e w'=>e=.returned (.agg #[.int .i64 k,.int .i64 f,.slice a n c])∧Below w.heap.size w w':=by
 have b:Hid (∀ X Y,Below w.heap.size w ((w.alloc X).alloc Y)):=fun X Y=>Below.allocs (Below.allocs (zac _ _) X) Y
 go_enter func205,ntmps205
 go_wp2;refine zax (v:=.agg #[.int .i64 k,.int .i64 f,.slice a n c]) (by simp[results,Tryz.results205,go_sem]) rfl ⟨rfl,?_⟩
 exact b.o _ _
def ZkS (w:World) (v f:Nat) (B:List (List UInt8)) (e:Ending) (w':World):Prop:=
 ∃ vl,e=.returned (.tuple #[vl,.int .i64 ((J8 v f B [] 16).2.1:Int),.int .i64 (J8 v f B [] 16).2.2])∧Xl w' w.heap.size vl (J8 v f B [] 16).1∧(∀ r ∈ (J8 v f B [] 16).1,ZcJ r)∧Below w.heap.size w w'
theorem Bsg.set3 {R:Nat} {a b c:Value} (h:Bsg w R #[a,b,c]) (d e f:Value):Bsg (((w.setCell ⟨R,0,none⟩ d).setCell ⟨R,1,none⟩ e).setCell ⟨R,2,none⟩ f) R #[d,e,f]:=by
 have g:=zbk w R 0 _ _ d h;have j:=zbk _ R 1 _ _ e g;have i:=zbk _ R 2 _ _ f j;unfold Bsg;simpa using i
theorem Zix.set {C:Nat} (h:Zix w C v L) (R i:Nat) (a:R<C) (x:Value):Zix (w.setCell ⟨R,i,none⟩ x) C v L:=by
 obtain⟨xs,f,e⟩:=h;refine⟨xs,zb8 f a x,fun j c=>?_⟩
 obtain⟨y,b,d⟩:=e j c;exact⟨y,b,zb8 d a x⟩
theorem ZkT (v:Value) (l:List UInt8) (w:World) (d:Rd w v l) (i:l.length<=1000000):
 Calls prog 118 #[v] w fun e w'=>∃ v',e=.returned (.tuple #[v',.int .i64 ((Qq l).2.1:Nat)])∧Zix w' w.heap.size v' (Qq l).1∧Below w.heap.size w w':=by
 have g:=ZZ (Zoe v l w d i);clear d
 go_enter func118,ntmps118
 go_wp2_with fail
 refine g.o.mono ?_;rintro e p ⟨q,rfl,f,b⟩;have j:=ZZ f;have n:=ZZ b;clear f b g;obtain⟨m,a⟩:=zg7 ((Qq l).2.1);have k:=ZZ a;rw[<-a];clear a;generalize (Qq l).2.2=c at *;go_wp2;go_ret2;exact⟨_,by rw[k.o];rfl,j.o,n.o⟩
theorem ZiU (v:Nat) (k f:Int) (b:Value) (w:World) (j:∃ a c,b=.slice a 0 c):
 Calls prog 204 #[.agg #[.int .i64 (v:Int),.int .i64 k,.int .i64 f],b] w fun e w'=>e=.returned (.tuple #[.slice none 0 0,.int .i64 0,.int .i64 0])∧Below w.heap.size w w':=by
 obtain⟨a,c,rfl⟩:=j;have d:Hid (∀ X,Below w.heap.size w (w.alloc X)):=fun X=>(zac _ _).alloc zL X
 generalize (v:Int)=V
 go_enter func204,ntmps204
 go_wp2
 go_loopw[7,14] (fun i g wr=>i=.slice none 0 0∧g=.int .i64 0∧Hid (Below w.heap.size w wr)) (fun _ _ _=>0)
 case atStart=>exact⟨rfl,rfl,ZZ (d.o _)⟩
 case round=>
  obtain⟨rfl,rfl,l⟩:=hrel;go_wp2;refine zax (v:=.tuple #[.slice none 0 0,.int .i64 0,.int .i64 0]) (by simp[results,Tryz.results204,go_sem]) rfl ?_
  exact⟨rfl,l.o⟩
theorem Zke (vb:Value) (b:List UInt8) (w:World) (hr:Rd w vb b) (bX:b.length<=100000) (a4:(Qq b).1.tail=[]):
 Calls prog 166 #[vb] w fun e w'=>Zba w b e w':=by
 have E:Hid (∀ X,Below w.heap.size w (w.alloc X)):=fun X=>(zac _ _).alloc zL X
 have X1:Hid (∀ cs,Bsg (w.alloc (.cells cs 217)) w.heap.size cs):=fun cs=>zak w _
 have ae:=ZZ (fun X=>ZkT vb b (w.alloc X) (hr.below (E.o X) zL) (by omega))
 obtain⟨ab,cb,rfl,-⟩:=hr;obtain⟨aD,aX⟩:=ZeZ b;obtain⟨aN,-⟩:=Zcl _ b zL
 have a2:(Qf (Qq b).1).length<=100000:=by
  rw[aN,zb5];omega
 have au:=ZZ (fun h=>Ztl (b:=b) h)
 have aF:Hid ((Qq b).1=[]->G0 b=(ZeF,0,false)):=ZZ (fun h=>by unfold G0 Zxf;rw[zab h])
 generalize (Qq b).2.1=tk at *;generalize (Qq b).1=L at *;have bo:=ZZ a4;clear a4 aN;by_cases h0:L.length=0
 ·have e:L=[]:=zao h0
  have l:=ZZ (aF.o e);have bu:((L.length:Int) == 0)=true:=by rw[zbi];omega
  clear au aF aD aX a2 h0 e
  go_enter func166,ntmps166
  go_wp2_with fail
  refine(ae.o _).mono ?_;rintro e D ⟨m,rfl,Q,C⟩;have G:=ZZ ((X1.out _).below C zL);have ak:=ZZ ((E.o _).trans (C.mono (E.o _).size));obtain⟨a1,O,rfl,-⟩:=Q.rd;clear C ae;obtain⟨r0,f0⟩:=G.o.cell 0;obtain⟨r1,f1⟩:=G.o.cell 1;obtain⟨r2,f2⟩:=G.o.cell 2;go_wp2;refine zax (v:=.tuple #[.agg #[.int .i64 0,.int .i64 0,.slice none 0 0],.int .i64 0,.bool false]) (by simp[results,Tryz.results166,go_sem,r0,r1,r2]) rfl ?_
  exact Zba.fail l.o (Jb ak.o _ zL _ _ _)
 have aL:L≠[]:=fun e=>h0 (by rw[e];rfl)
 have bu:((L.length:Int) == 0)=false:=zah.2 (by omega)
 have l:=ZZ (au.o aL);have bb:L.getD 0 []=L.headD []:=by cases L <;> rfl
 have aT:Hid (∀ (v k f:Nat),1<=v->v<=3->f<4611686018427387904->∀ (vp:Value) (W:World),Below w.heap.size w W->RdL W vp L.tail->Calls prog 204 #[.agg #[.int .i64 (v:Int),.int .i64 (k:Int),.int .i64 (f:Int)],vp] W fun e w'=>ZkS W v f L.tail e w'):=ZZ (fun v k f _ _ _ vp W _ h=>by
  rw[bo.o] at h ⊢
  refine(ZiU v k f vp W (by
   obtain⟨a,c,e,-⟩:=h
   exact⟨a,c,e⟩)).mono ?_
  rintro e w' ⟨rfl,Z⟩
  exact⟨_,rfl,Xl.nil _ _,(fun r hr=>by cases hr),Z⟩)
 have a5:Hid (∀ v f,(J8 v f L.tail [] 16).2.1+1<=L.length):=ZZ (fun v f=>by
  have:=ZiT v f L.tail [] 16;rw[List.length_tail] at this
  omega)
 have ba:=ZZ (fun c m W (h:RdL W m (L.take c))=>ZvU m (L.take c) W h (fun x hx=>(aD x (zbz hx)).1) (by have:=Zfa L c;omega))
 have aZ:=ZZ (fun m W (h:Rd W m (L.headD []))=>Zmq m (L.headD []) W h)
 have bA:=ZZ (fun v k f a n c W=>Zql v k f a n c W)
 have bV:(L.length:Int)<=100000:=by omega
 have bU:(0:Int)<(L.length:Int):=by omega
 unfold Zqg at l;clear au aF aD a2 aL aX
 go_enter func166,ntmps166
 go_wp2_with fail
 refine(ae.o _).mono ?_;rintro e D ⟨m,rfl,Q,C⟩;have G:=ZZ ((X1.out _).below C zL);have ak:=ZZ ((E.o _).trans (C.mono (E.o _).size));have ag:=ZZ Q.rd;have bB:Hid (Zix D (w.heap.size+1) m L):=ZZ (Q.mono (by simp))
 obtain⟨a1,O,rfl,-⟩:=Q.rd;obtain⟨b0,o0,x0,rfl,bl,aj⟩:=ag.o.at 0 (by omega)
 obtain⟨am,cm,ar,aA⟩:=ZvT D _ L L.length O rfl ag.o 1 (by omega)
 have bf:=ZZ (fun q (hq:q<=L.length)=>Ztk D _ L L.length O rfl ag.o q hq)
 rw[List.drop_one] at ar aA;rw[bb] at aj;have km:=aA 1 rfl;have a6:=ZZ ar;have aS:=bl D (zac _ _);have aP:=ZZ (aj D (zac _ _));obtain⟨a0,q0,bJ,-⟩:=aj D (zac _ _);subst bJ;rw[zc2] at aS;clear C ae ar aA bl aj X1 E bb ag;generalize L.tail=B at *;generalize L.headD []=H at *;generalize bv:H.length=hl at *;clear bv
 go_wp2_with fail
 refine(aZ.o _ _ aP.o).mono ?_;rintro e W2 ⟨x,y,z,rfl,bm,an⟩;have aE:=ZZ bm;have az:=ZZ (G.o.below an zL);have aJ:=ZZ (ak.o.trans (an.mono ak.o.size));have ay:=ZZ an;clear bm an aS aP G aZ;obtain⟨d,ad⟩:=zg7 W2.heap.size;obtain⟨i,af⟩:=zg7 (W2.alloc (.cells #[.int .i64 x,.int .i64 y,.int .i64 z] 188));have aa:Below W2.heap.size W2 i:=by rw[af];exact(zac _ _).alloc zL _
 have J:Hid (Bhd i d x y z):=ZZ (by rw[af,ad];exact zak W2 _)
 have P:=ZZ (az.o.below aa zL);have Y:=ZZ (aJ.o.trans (aa.mono aJ.o.size));have ao:=ZZ (ay.o.trans (aa.mono ay.o.size));have bF:w.heap.size<d:=by rw[ad];exact az.o.lt
 go_upto_region 5 with fail
 rw[<-af,<-ad];clear af ad aa az aJ ay
 cases hrd:Z8 H with
 | error ex=>
  have bO:Hid (G0 b=(ZeF,0,false)):=ZZ (by rw[l.o,hrd])
  have hx:=ZxV hrd;have bZ:(ex != 0)=true:=by rw[zbq];exact hx
  have M:ZAv (Except.error ex:Except Int (Nat × Nat × Nat))=ex:=rfl;obtain⟨r0,f0⟩:=P.o.cell 0;obtain⟨r1,f1⟩:=P.o.cell 1;obtain⟨r2,f2⟩:=P.o.cell 2;rw[M];clear M hrd hx l aE;go_wp2;refine zax (v:=.tuple #[.agg #[.int .i64 0,.int .i64 0,.slice none 0 0],.int .i64 0,.bool false]) (by simp[results,Tryz.results166,go_sem,r0,r1,r2]) rfl ?_
  exact Zba.fail bO.o (Jb Y.o _ zL _ _ _)
 | ok t=>
  obtain⟨v,k,f⟩:=t;obtain⟨rfl,rfl,rfl⟩:=aE.o v k f hrd;obtain⟨-,aM,bn,bz,aR⟩:=Zcj hrd;have ai:=ZZ (aT.o v k f aM bn aR);have a9:=a5.o v f;rw[hrd] at l;have M:ZAv (Except.ok (v,k,f):Except Int (Nat × Nat × Nat))=0:=rfl;rw[M];unfold ZkS at ai;simp only at l;generalize J8 v f B [] 16=T at *;obtain⟨aB,A,er⟩:=T;simp only at l ai a9;obtain⟨q,hq⟩:=zg7 (1+A);obtain⟨bi,bd⟩:=bf.o q (by omega)
  have kf:=bd (1+(A:Int)) (by omega)
  have av:=ZZ (ba.o q);have bt:Hid (∀ W:World,Zix W (w.heap.size+1) (.slice (some ⟨b0,o0,none⟩) L.length O) L->RdL W (.slice (some ⟨b0,o0,none⟩) q O) (L.take q)):=ZZ (fun W h=>h.rd.front q (by omega))
  have aW:=ZZ bi;have bY:(1:Int)+(A:Int)<=100000:=by omega
  have bW:IntKind.i64.wrap (1+(A:Int))=1+(A:Int):=by rw[zbo];omega
  have bT:(1:Int)+(A:Int)<=(L.length:Int):=by omega
  rw[<-hq] at l;obtain⟨SZ,a8⟩:=zg7 ((Qf (L.take q)).length);rw[<-a8] at l av;generalize L.take q=PF at *;clear M hrd aE aT aM bn bz aR ba bf a5 bi bd a9 hq a8;generalize (v:Int)=V at *;have F:Hid (w.heap.size<i.heap.size):=ZZ (Nat.lt_trans bF J.o.lt);have aI:Hid (∀ W,Below i.heap.size i W->W.cell? ⟨d,0,none⟩=some (.int .i64 V)∧W.cell? ⟨d,1,none⟩=some (.int .i64 (k:Int))∧W.cell? ⟨d,2,none⟩=some (.int .i64 (f:Int))):=ZZ (fun W Z=>(J.o.below Z J.o.lt).cell.1)
  have ap:Hid (Below i.heap.size i i.drew):=ZZ ((zac _ _).drew);have a7:=ZZ (aI.o _ ap.o);have bj:=ZZ (a6.o.below ao.o zL)
  go_upto_region 7 with fail
  go_cut[9,10,11] (fun vl vc ve wc=>∃ g nl j,vl=.slice g nl j∧vc=.int .i64 (A:Int)∧ve=.int .i64 er∧Hid (∀ r ∈ aB,ZcJ r)∧Hid (Xl wc i.heap.size (.slice g nl j) aB)∧Hid (Below i.heap.size i wc))
  case first=>
   go_region_held2(fun W=>W.cell? ⟨d,0,none⟩=some (.int .i64 V)∧W.cell? ⟨d,1,none⟩=some (.int .i64 (k:Int))∧W.cell? ⟨d,2,none⟩=some (.int .i64 (f:Int))) (first | exact a7.o | exact bQ.o)
    (first
     | (go_at_call 204;refine(ai.o _ i.drew Y.o.drew (bj.o.below ap.o zL)).mono ?_;rintro e W3 ⟨v3,rfl,aG,aV,bc⟩;have ax:Hid (Xl W3 i.heap.size v3 aB):=ZZ aG;have aq:=ZZ aV;have p:=ZZ (ap.o.trans bc);have bQ:=ZZ (aI.o W3 p.o);obtain⟨a3,c3,rfl⟩:=aG.shape;clear bc aG aV))
   all_goals
    go_wp2_with fail
    go_meet
    exact⟨_,_,_,rfl,rfl,rfl,aq,ax,p⟩
  case rest=>
   obtain⟨g,nl,j,rfl,rfl,rfl,aq,ax,p⟩:=hcut;have bE:=ZZ (P.o.below p.o zL);have ac:=ZZ (J.o.below p.o J.o.lt);have aQ:=ZZ (Y.o.trans (p.o.mono Y.o.size));have aY:=ZZ (ao.o.trans (p.o.mono ao.o.size));have bk:Hid (∀ W,Below wc.heap.size wc W->W.cell? ⟨d,0,none⟩=some (.int .i64 V)∧W.cell? ⟨d,1,none⟩=some (.int .i64 (k:Int))∧W.cell? ⟨d,2,none⟩=some (.int .i64 (f:Int))):=ZZ (fun W Z=>(ac.o.below Z ac.o.lt).cell.1)
   have be:Hid (Below wc.heap.size wc wc.drew):=ZZ ((zac _ _).drew);have bq:=ZZ (bk.o _ be.o);have bP:=ZZ (aW.o.below aY.o zL);have bR:=ZZ (bB.o.below aY.o zL);have I:d≠w.heap.size:=by omega
   clear P J Y ao p aI ap a7 bj ai a6 aW
   go_upto_region 8 with fail
   go_region_held(fun W=>W.cell? ⟨d,0,none⟩=some (.int .i64 V)∧W.cell? ⟨d,1,none⟩=some (.int .i64 (k:Int))∧W.cell? ⟨d,2,none⟩=some (.int .i64 (f:Int))) (first | exact bq.o | exact bI.o | exact bM.o | exact bL.o | exact bK.o | exact bG.o)
    (first
     | (go_at_call 205;refine(bA.o _ _ _ _ _ _ wc.drew).mono ?_;rintro e W4 ⟨rfl,bg⟩;have u:=ZZ (be.o.trans bg);have bI:=ZZ (bk.o W4 u.o);have U:=ZZ (bE.o.below u.o zL);have R:=ZZ (ac.o.below u.o ac.o.lt);have aH:=ZZ (aQ.o.trans (u.o.mono aQ.o.size));have aO:=ZZ (ax.o.below u.o zL);have bN:=ZZ (bP.o.below u.o zL);obtain⟨r0,f0⟩:=U.o.cell 0;obtain⟨r1,f1⟩:=U.o.cell 1;obtain⟨r2,f2⟩:=U.o.cell 2;have aC:=ZZ (((R.o.other I 0 (.int .i64 (k:Int))).other I 1 (.int .i64 (f:Int))).other I 2 (.slice g nl j));have bM:=ZZ aC.o.cell.1;have bw:=ZZ (bR.o.below u.o zL);have bS:Hid (RdL ((((W4.setCell ⟨w.heap.size,0,none⟩ (.int .i64 (k:Int))).setCell ⟨w.heap.size,1,none⟩ (.int .i64 (f:Int))).setCell ⟨w.heap.size,2,none⟩ (.slice g nl j))) _ PF):=ZZ (bt.o _ (((bw.o.set w.heap.size 0 (zeq _) (.int .i64 (k:Int))).set w.heap.size 1 (zeq _) (.int .i64 (f:Int))).set w.heap.size 2 (zeq _) (.slice g nl j)));have bD:=ZZ (U.o.set3 (.int .i64 (k:Int)) (.int .i64 (f:Int)) (.slice g nl j));have bH:=ZZ (((aO.o.set w.heap.size 0 F.o (.int .i64 (k:Int))).set w.heap.size 1 F.o (.int .i64 (f:Int))).set w.heap.size 2 F.o (.slice g nl j));have aU:=ZZ (Jb aH.o w.heap.size zL (.int .i64 (k:Int)) (.int .i64 (f:Int)) (.slice g nl j));clear bg)
     | (go_at_call 206;refine(av.o _ W4 bN.o).mono ?_;rintro e W5 ⟨rfl,K⟩;have bL:=ZZ (R.o.below K R.o.lt).cell.1;have aw:=ZZ (U.o.below K zL);have bC:=ZZ (aH.o.trans (K.mono aH.o.size));have bp:=ZZ (aO.o.below K zL);obtain⟨s0,g0⟩:=aw.o.cell 0;obtain⟨s1,g1⟩:=aw.o.cell 1;obtain⟨s2,g2⟩:=aw.o.cell 2;have bG:=ZZ ((((R.o.below K R.o.lt).other I 0 (.int .i64 (k:Int))).other I 1 (.int .i64 (f:Int))).other I 2 (.slice g nl j)).cell.1;clear K)
     | (go_at_call 206;refine(av.o _ (((W4.setCell ⟨w.heap.size,0,none⟩ (.int .i64 (k:Int))).setCell ⟨w.heap.size,1,none⟩ (.int .i64 (f:Int))).setCell ⟨w.heap.size,2,none⟩ (.slice g nl j)) bS.o).mono ?_;rintro e W6 ⟨rfl,S⟩;have bK:=ZZ (aC.o.below S aC.o.lt).cell.1;have aK:=ZZ (bD.o.below S zL);have bx:=ZZ (bH.o.below S zL);have br:=ZZ (aU.o.trans (S.mono aU.o.size));obtain⟨s0,g0⟩:=aK.o.cell 0;obtain⟨s1,g1⟩:=aK.o.cell 1;obtain⟨s2,g2⟩:=aK.o.cell 2;clear S))
   all_goals
    go_wp2;refine zax (v:=.tuple #[.agg #[.int .i64 (k:Int),.int .i64 (f:Int),.slice g nl j],.int .i64 (SZ:Int),.bool true]) (by simp[results,Tryz.results166,go_sem,s0,s1,s2]) rfl ?_
    refine⟨.slice g nl j,by rw[l.o],?_,?_⟩
    ·rw[l.o]
     first
     | exact bx.o.rd aq.o
     | exact Xl.rd (((bp.o.set w.heap.size 0 F.o _).set w.heap.size 1 F.o _).set w.heap.size 2 F.o _) aq.o
    ·first
     | exact br.o
     | exact Jb bC.o w.heap.size zL _ _ _
theorem Js {P:Program} {ι:Type} (W:ι->World) (b:ι) {id:Nat} {Q:Exit->Act->World->Prop} {a:Act} {w:World} {l:List Oper} (d:P.follows .mixedOrders=true) (c:Region.lexB .any l.toArray=true) (e:W b=w.drew)
 (h:wpQuiet P l.toArray (fun w'=>∃ n,w'=W n) (fun a'=>∀ w',(∃ n,w'=W n)->Q .normal a' w') l a):(Code.region id l.toArray true).wp P Q a w:=
 wp_region_quiet (C:=fun w'=>∃ n,w'=W n) d c ⟨b,e.symm⟩ (by simpa using h)
theorem Zoi (B:Nat) (w:World):∃ (ι:Type) (_:Nonempty ι) (W:ι->World),(∀ i,Below B w (W i))∧∀ w',Below B w w'->∃ i,w'=W i:=
 ⟨{ w' // Below B w w' },⟨⟨w,zac _ _⟩⟩,Subtype.val,fun i=>i.2,fun w' h=>⟨⟨w',h⟩,rfl⟩⟩
theorem ZbE (v:Value) (l:List Rec) (w:World) (z:RdR w v l):
 Calls prog 48 #[v] w fun e w'=>e=.returned (.bool (decide (Yg l)))∧Below w.heap.size w w':=by
 have HR:=ZZ z;obtain⟨ao,cap,rfl,am,af,-,-,ac⟩:=z;have aE:(l.length:Int)<=9223372036854775807:=by unfold maxLen at af;omega
 have ar:=ZZ ac;clear ac am af;by_cases Y:1<=l.length
 case neg=>
  have Z:Hid (decide (Yg l)=false):=zai (fun h=>Y h.1)
  have av:(l.length:Int)<1:=by omega
  rw[Z.o]
  go_enter func48,ntmps48
  go_wp2;go_ret;exact⟨rfl,zac _ _⟩
 have av:¬ (l.length:Int)<1:=by omega
 by_cases Q:l.length<=256
 case neg=>
  have Z:Hid (decide (Yg l)=false):=zai (fun h=>Q h.2.1)
  have ay:256<(l.length:Int):=by omega
  rw[Z.o]
  go_enter func48,ntmps48
  go_wp2;go_ret;exact⟨rfl,zac _ _⟩
 have ay:¬ 256<(l.length:Int):=by omega
 have ag:=ZZ (fun h=>ZvR (l:=l) h Y Q)
 have ai:=ZZ (fun(h:Yg l) k=>h.part k)
 have an:=ZZ (fun r W=>Ziu r W)
 obtain⟨D,F⟩:=zg7 (decide (Yg l));rw[<-F];have aq:Hid (Zkd l l.length->D=true):=fun h=>by rw[F];exact zan (ag.o h)
 have ad:Hid (∀ k,¬ Zkd l k->D=false):=fun k h=>by rw[F];exact zai (fun M=>h (ai.o M k))
 have au:=ZZ (Zte l);have aD:(0:Int)<(l.length:Int):=by omega
 clear F ag ai Y Q
 go_enter func48,ntmps48
 go_wp2
 go_loopw[15] (fun S wr=>∃ k:Nat,S=.int .i64 (k:Int)∧k<=l.length∧Hid (Zkd l k)∧Hid (Below w.heap.size w wr)) (fun S _=>l.length-(intOf S).toNat)
 case atStart=>exact⟨0,rfl,zap _,au,zac _ _⟩
 case round=>
  obtain⟨k,rfl,hk,U,E⟩:=hrel;by_cases u:k<l.length
  case neg=>
   obtain rfl:k=l.length:=by omega
   have HT:=ZZ (aq.o U.out);go_wp2;go_ret;rw[HT.o];exact⟨rfl,E.out⟩
  rcases ar.o with h0 | ⟨c,aw,rfl,X⟩
  ·rw[h0] at u;simp at u
  have R:=X k u;have N:=X 0 (by omega)
  have L:=ZZ (fun W (h:Below w.heap.size w W)=>R.keep (h.block c R.lt))
  have ab:=ZZ (fun W (h:Below w.heap.size w W)=>(N.keep (h.block c N.lt)).1)
  have g:=ZZ (Ztf u);have hh:l.headD Qj=l.getD 0 Qj:=by cases l <;> simp
  rw[hh] at g
  have aj:Hid (Q1 (l.getD k Qj)->Q1 (l.getD 0 Qj)):=ZZ (fun M=>by
   cases k with
   | zero=>exact M
   | succ q=>
    refine U.out.1 _ ?_
    cases l with
    | nil=>simp at u
    | cons x t=>simp)
  have ap:=L.o wr E.out;obtain⟨c0,c1,c2,c3,c4,c5,c6⟩:=ap;have p:=ZZ (an.o (l.getD k Qj));have aA:=zg7 (decide (Q1 (l.getD k Qj)));obtain⟨H,O⟩:=aA;rw[<-O] at p;have K:=ZZ O;unfold ZsI at p;obtain⟨r,z⟩:=zg7 (l.getD k Qj);rw[<-z] at p g K L aj c0 c1 c2 c3 c4 c5 c6;clear O X R z N hh;generalize (l.getD 0 Qj)=G at *
  go_upto_region 6 with fail
  obtain⟨f,j⟩:=zg7 (wr.alloc (.cells (Jg r) 62));have aC:f.heap.size=wr.heap.size+1:=by rw[j];simp
  have ak:Hid (Below w.heap.size w f):=ZZ (by rw[j];exact E.out.alloc E.out.size _)
  have al:Hid (Br f wr.heap.size (Jg r)):=ZZ (by rw[j];exact zak wr _)
  unfold Jg at j;rw[<-j];clear j c0 c1 c2 c3 c4 c5 c6;obtain⟨ι,aB,V,hV,P⟩:=Zoi f.heap.size f;have B:=ZZ hV;have HM:=ZZ P;obtain⟨T,J⟩:=P f.drew (zac _ _).drew;have C:Hid (∀ i,Below w.heap.size w (V i)):=ZZ (fun i=>ak.o.trans ((B.o i).mono ak.o.size))
  have d:∀ i,Br (V i) wr.heap.size (Jg r):=fun i=>((B.o i).block _ (by omega)).trans al.o
  have d0:∀ i,(V i).cell? ⟨wr.heap.size,0,none⟩=some (.int .i64 r.idx):=fun i=>((d i).cell 0).1
  have d1:∀ i,(V i).cell? ⟨wr.heap.size,1,none⟩=some (.int .i64 r.proc):=fun i=>((d i).cell 1).1
  have d2:∀ i,(V i).cell? ⟨wr.heap.size,2,none⟩=some (.int .i64 r.seq):=fun i=>((d i).cell 2).1
  have d3:∀ i,(V i).cell? ⟨wr.heap.size,3,none⟩=some (.int .i64 r.op.code):=fun i=>((d i).cell 3).1
  have d4:∀ i,(V i).cell? ⟨wr.heap.size,4,none⟩=some (.int .i64 r.op.a):=fun i=>((d i).cell 4).1
  have d5:∀ i,(V i).cell? ⟨wr.heap.size,5,none⟩=some (.int .i64 r.op.b):=fun i=>((d i).cell 5).1
  have d6:∀ i,(V i).cell? ⟨wr.heap.size,6,none⟩=some (.int .i64 r.resp):=fun i=>((d i).cell 6).1
  have e0:∀ i,(V i).cell? ⟨c,aw,none⟩=some (.int .i64 G.idx):=fun i=>by
   have h:=ab.o (V i) (C.o i)
   rwa [zc7,zc2] at h
  have aa:Hid (∀ i,Calls prog 41 #[.agg #[.int .i64 r.idx,.int .i64 r.proc,.int .i64 r.seq,.int .i64 r.op.code,.int .i64 r.op.a,.int .i64 r.op.b,.int .i64 r.resp]] (V i) fun e w'=>e=.returned (.bool H)∧∃ m,w'=V m):=ZZ (fun i=>(p.o (V i)).mono fun e w' h=>⟨h.1,HM.o w' ((B.o i).trans (h.2.mono (B.o i).size))⟩)
  clear hV P d p ab L
  cases H with
  | false=>
   have I:=ZZ (ad.o (k+1) (fun h=>zdy K.o.symm (g.o.1 h).2.1))
   refine Js V T (by kernel_rfl) (by kernel_rfl) J.symm ?_
   repeat (go_big_quiet_step ((go_at_call 41;exact aa.o _)))
   refine zd3 ?_;intro _ A;obtain⟨nq,y⟩:=A;subst y;go_wp2;go_ret;rw[I.o];exact⟨rfl,C.o _⟩
  | true=>
   have ae:=ZZ (zcm K.o.symm);obtain⟨-,i1,i2,-⟩:=aj.o ae.o;by_cases n:r.idx=G.idx+k
   ·have ax:(r.idx != G.idx+k)=false:=by rw[zby];exact n
    have az:=ZZ (g.o.2 ⟨U.out,ae.o,n⟩);clear g n;refine Js V T (by kernel_rfl) (by kernel_rfl) J.symm ?_
    repeat (go_big_quiet_step ((go_at_call 41;exact aa.o _)))
    refine zd3 ?_;intro _ A;obtain⟨nq,y⟩:=A;subst y;go_wp2;go_roundw
    case rel=>exact⟨k+1,by go_num,by omega,az,C.o _⟩
    case measure=>simp[intOf];omega
   ·have ax:(r.idx != G.idx+k)=true:=by rw[zbq];exact n
    have I:=ZZ (ad.o (k+1) (fun h=>n (g.o.1 h).2.2))
    clear g n;refine Js V T (by kernel_rfl) (by kernel_rfl) J.symm ?_
    repeat (go_big_quiet_step ((go_at_call 41;exact aa.o _)))
    refine zd3 ?_;intro _ A;obtain⟨nq,y⟩:=A;subst y;go_wp2;go_ret;rw[I.o];exact⟨rfl,C.o _⟩
def ZAX (w:World) (l:List UInt8) (o:Opn) (e:Ending) (w':World):Prop:=
 ∃ v',e=.returned (.tuple #[v',.int .i64 (if Gj o then 0 else 1)])∧Own w' w.heap.size v' (if Gj o then l++X7 o else l)∧Below w.heap.size w w'
theorem ZvV (v:Value) (l:List UInt8) (o:Opn) (w:World) (D:Rd w v l) (aw:l.length<=90000):
 Calls prog 185 #[v,opV o] w fun e w'=>ZAX w l o e w':=by
 obtain⟨k,j,rfl,an⟩:∃ k j,v=.slice k l.length j∧Rd w (.slice k l.length j) l:=by
  have h:=D;obtain⟨k,j,rfl,_⟩:=D;exact⟨k,j,rfl,h⟩
 have Z:=ZZ D;clear an;have HF:=ZZ (fun w=>ZlX o w)
 have B:Hid (∀ X,Below w.heap.size w (w.alloc X)):=fun X=>(zac _ _).alloc zL X
 obtain⟨c,a,b⟩:=o;clear D;show Calls prog _ #[_,.agg #[.int .i64 c,.int .i64 a,.int .i64 b]] w _;have S:Hid (∀ W,Calls prog 80 #[.agg #[.int .i64 c,.int .i64 a,.int .i64 b]] W fun e w'=>e=.returned (.bool (decide (Gj ⟨c,a,b⟩)))∧Below W.heap.size W w'):=HF.o
 clear HF;unfold ZAX;by_cases d:Gj ⟨c,a,b⟩
 ·simp only [zab d]
  have K:=ZZ (zan d);have G:Hid (I64 a):=(ZaN d).1;have I:Hid (I64 b):=(ZaN d).2;have V:0<=c:=d.1;have aj:c<=10:=d.2.1;have ad:=Gm (n:=c.toNat) (by omega)
  have ao:=ZwQ G.o;have ab:=ZwQ I.o
  have HP:Hid (∀ W,Calls prog 132 #[.slice none 0 0,.int .i64 c] W fun e w'=>∃ v',e=.returned v'∧Own w' W.heap.size v' (Lib.uvarint c.toNat)∧Below W.heap.size W w'):=fun W=>by
   have h:=ZbD (.slice none 0 0) [] c W (Rd.nil W) (by simp)
   rw[J4 V (by omega),nil_append] at h
   exact h
  have HA:Hid (∀ W,Calls prog 142 #[.slice none 0 0,.int .i64 a] W fun e w'=>∃ v',e=.returned v'∧Own w' W.heap.size v' (Lib.uvarint (Lib.zigzag a))∧Below W.heap.size W w'):=fun W=>by
   have h:=Gp (.slice none 0 0) [] a W (Rd.nil W) (by simp) G.o.1 G.o.2
   rw[nil_append] at h;exact h
  have HB:Hid (∀ W,Calls prog 142 #[.slice none 0 0,.int .i64 b] W fun e w'=>∃ v',e=.returned v'∧Own w' W.heap.size v' (Lib.uvarint (Lib.zigzag b))∧Below W.heap.size W w'):=fun W=>by
   have h:=Gp (.slice none 0 0) [] b W (Rd.nil W) (by simp) I.o.1 I.o.2
   rw[nil_append] at h;exact h
  have Y:Hid (X7 ⟨c,a,b⟩=Lib.uvarint c.toNat++(Lib.uvarint (Lib.zigzag a)++Lib.uvarint (Lib.zigzag b))):=rfl;rw[Y.o];have ap:Hid (∀ W N H E u p,N=W.heap.size->Rd W H l->Rd W E (Lib.uvarint c.toNat)->Rd W u (Lib.uvarint (Lib.zigzag a))->Rd W p (Lib.uvarint (Lib.zigzag b))->Calls prog 131 #[.slice (some ⟨N,0,none⟩) 4 4] (W.alloc (.cells #[H,E,u,p] 53)) fun e w'=>∃ v',e=.returned v'∧Own w' W.heap.size v' (l++(Lib.uvarint c.toNat++(Lib.uvarint (Lib.zigzag a)++Lib.uvarint (Lib.zigzag b))))∧Below W.heap.size W w'):=fun W N H E u p hN h0 h1 h2 h3=>ZvD W N hN H E u p _ _ _ _ h0 h1 h2 h3 (by omega)
  clear d ad ao ab Y G I V aj;generalize Lib.uvarint c.toNat=A at *;generalize Lib.uvarint (Lib.zigzag a)=LA at *;generalize Lib.uvarint (Lib.zigzag b)=LB at *;generalize l++(A++(LA++LB))=LL at *
  go_enter func185,ntmps185
  go_wp2_with fail
  refine(S.o _).mono ?_;rintro e W1 ⟨rfl,M⟩;rw[K.o];have y:Bo W1 w.heap.size _:=(M.block w.heap.size (by simp)).trans (zak w _)
  have ai:=ZZ y;have Q:=ZZ ((B.o _).trans (M.mono (B.o _).size));obtain⟨p0,-⟩:=y.cell 0;obtain⟨p1,-⟩:=y.cell 1;obtain⟨p2,-⟩:=y.cell 2;have av:=Q.o.size;clear M y;go_wp2
  go_region_held(fun w'=>w'.cell? ⟨w.heap.size,0,none⟩=some (.int .i64 c)∧w'.cell? ⟨w.heap.size,1,none⟩=some (.int .i64 a)∧w'.cell? ⟨w.heap.size,2,none⟩=some (.int .i64 b)) (go_keep)
   (first
    | (go_at_call 132;refine(HP.o _).mono ?_;rintro e W2 ⟨u,rfl,L,m⟩;have q:=ai.o.below (((zac _ _).drew).trans m) zL;have ak:=ZZ q;have g:=ZZ (Q.o.trans ((((zac _ _).drew).trans m).mono Q.o.size));obtain⟨a2,c2,rfl,-⟩:=L.rd;have ag:=ZZ L.rd;obtain⟨q0,-⟩:=q.cell 0;obtain⟨q1,-⟩:=q.cell 1;obtain⟨q2,-⟩:=q.cell 2;clear L m q)
    | (go_at_call_of 142 (Value.int .i64 a);refine(HA.o _).mono ?_;rintro e W3 ⟨p,rfl,i,f⟩;have z:=ak.o.below f zL;have am:=ZZ z;have F:=ZZ (g.o.trans (f.mono g.o.size));have al:=ZZ (ag.o.below f zL);obtain⟨a3,c3,rfl,-⟩:=i.rd;have R:=ZZ i.rd;obtain⟨r0,-⟩:=z.cell 0;obtain⟨r1,-⟩:=z.cell 1;obtain⟨r2,-⟩:=z.cell 2;clear i f z)
    | (go_at_call_of 142 (Value.int .i64 b);refine(HB.o _).mono ?_;rintro e U ⟨v4,rfl,O,x⟩;have t:=am.o.below x zL;have ar:=ZZ t;have C:=ZZ (F.o.trans (x.mono F.o.size));have aq:=ZZ (al.o.below x zL);have ae:=ZZ (R.o.below x zL);obtain⟨a4,c4,rfl,-⟩:=O.rd;have aa:=ZZ O.rd;obtain⟨s0,-⟩:=t.cell 0;obtain⟨s1,-⟩:=t.cell 1;obtain⟨s2,-⟩:=t.cell 2;clear O x t)
    | (go_at_call 131;refine(ap.o U U.heap.size _ _ _ _ rfl (Z.o.below C.o zL) aq.o ae.o aa.o).mono ?_;rintro e W5 ⟨v5,rfl,T,P⟩;have J:=ar.o.below P zL;have af:=ZZ (C.o.trans (P.mono C.o.size));have ac:=ZZ (T.mono C.o.size);obtain⟨t0,-⟩:=J.cell 0;obtain⟨t1,-⟩:=J.cell 1;obtain⟨t2,-⟩:=J.cell 2;clear T P J))
  all_goals
   go_wp2;go_ret2;exact⟨_,rfl,ac.o,af.o⟩
 ·simp only [zaa d]
  have K:=ZZ (zai d);have au:=ZZ (fun W h=>ZsX (.slice k l.length j) l W h (by omega))
  clear d
  go_enter func185,ntmps185
  go_wp2_with fail
  refine(S.o _).mono ?_;rintro e W2 ⟨rfl,m⟩;rw[K.o];have g:=ZZ ((B.o _).trans (m.mono (B.o _).size));clear m
  go_wp2_with fail
  refine(au.o _ (Z.o.below g.o zL)).mono ?_;rintro e W3 ⟨p,rfl,i,f⟩;have R:=ZZ (i.mono g.o.size);have F:=ZZ (g.o.trans (f.mono g.o.size));clear i f;go_wp2;go_ret2;exact⟨_,rfl,R.o,F.o⟩
open Go.RowKit Go.Maps
theorem ZvW:Keyed prog 3:=int_keyed underlying3
theorem ZzE (w:World):(zeroValue 3).run prog w=.ok (.int .i64 0) w:=by kernel_rfl
theorem ZAY {n:Int} (h:I64 n):(Lit.int .i64 n).wf=true:=WalkArith.wf_i64 (by obtain⟨b,a⟩:=h;omega)
def Zgd (w:World) (b n:Nat) (f:Int->Int):Prop:=
 ∃ D:DataW Unit,w.ownsMap prog 3 (plainElem prog 3) b n D∧IsMap D∧∀ p,I64 p->D.atKey (.int .i64 p) (.lit (.int .i64 0))=.lit (.int .i64 (f p))
theorem Zgd.made (w:World):Zgd (w.alloc (.map #[] 0)) w.heap.size 0 (fun _=>0):=
 ⟨.map [],World.ownsMap_made _ _ _ _,isMap_empty,fun _ _=>rfl⟩
theorem Zgd.lt (h:Zgd w b n f):b<w.heap.size:=by
 obtain⟨D,a,_⟩:=h;exact a.lt
theorem Zgd.keep (h:Zgd w b n f) (e:w'.heap[b]?=w.heap[b]?):Zgd w' b n f:=by
 obtain⟨D,⟨d,c,a,r⟩,g⟩:=h;exact⟨D,⟨d,c,e.trans a,r⟩,g⟩
theorem Zgd.below (h:Zgd w b n f) (a:Below B w w') (c:w.heap.size<=B):Zgd w' b n f:=
 h.keep (a.block b (by have:=h.lt;omega))
theorem Zgd.apart (h:Zgd w b n f) {cs:Array Value} {t:TypeId} {z:Nat × Nat} {g:Nat} (a:w.heap[g]?=some (.cells cs t z)):g≠b:=by
 obtain⟨D,⟨i,d,c,_⟩,_⟩:=h;intro e;rw[e,c] at a
 cases a
theorem Zgd.look (h:Zgd w b n f) {p:Int} (a:I64 p):(Instr.lookup 183 (.map (some b)) (.int .i64 p) false).run prog w=.ok (.int .i64 (f p)) w:=by
 obtain⟨D,i,_,g⟩:=h;obtain⟨c,j,d,_⟩:=i.lookup_int ZvW underlying183 underlying3 (ZzE _) (zfh underlying3 (ZAY a));rw[g p a] at d;have e:f p=c:=by simpa using d
 rw[j,e]
def ZAa (f:Int->Int) (p x:Int):Int->Int:=fun q=>if p=q then x else f q
theorem Zgd.put (h:Zgd w b n f) {p x:Int} (l:I64 p) (m:I64 x) (t:n<=1000000000000):
 ∃ w',(Instr.mapUpdate 183 (.map (some b)) (.int .i64 p) (.int .i64 x)).run prog w=.ok () w'∧Zgd w' b (n+1) (ZAa f p x)∧w.grownBy w' (some b):=by
 obtain⟨D,i,a,k⟩:=h;obtain⟨w',d,g,j⟩:=i.update ZvW underlying183 (by unfold maxLen;omega) (zfh underlying3 (ZAY l)) (plainElem_int underlying3 (ZAY m))
 refine⟨w',d,⟨_,g,a.put _ _,fun q c=>?_⟩,j⟩
 unfold ZAa;by_cases e:p=q
 ·rw[zab e,<-e,atKey_put_same a (by first | exact trivial | simp[WideAt.IsKeyLit])]
 ·rw[zaa e,atKey_put_other (by intro h;injection h with _ h;exact e h.symm),k q c]
theorem Zgd.own (h:Zgd w b n f) {B:Nat} {v:Value} {l:List UInt8} (i:Own w B v l):v.ownBlock=none∨v.ownBlock≠some b:=by
 rcases i.2 with ⟨a,_⟩ | ⟨g,cap,cur,a,_,c,_⟩
 ·exact .inl (by rw[a];rfl)
 ·right
  rw[a];have d:=h.apart c;intro e;exact d (by simpa[Value.ownBlock] using e)
theorem ZzF (W:World) (N:Nat) (n:N=W.heap.size) (d c:Value) (b a:List UInt8) (p:Rd W d b) (l:Rd W c a) (q:b.length+a.length<=1000000):
 Calls prog 131 #[.slice (some ⟨N,0,none⟩) 2 2] (W.alloc (.cells #[d,c] 53)) fun e w'=>∃ v',e=.returned v'∧Own w' W.heap.size v' (b++a)∧Below W.heap.size W w':=by
 have k:=RdL.built W N n #[d,c] [b,a] (by simp) (fun j i=>by
  match j,i with
  | 0,_=>exact⟨d,rfl,p⟩
  | 1,_=>exact⟨c,rfl,l⟩)
 have g:[b,a].flatten=b++a:=by simp
 refine(Zdo _ _ _ k (by rw[g];simp only [length_append];omega) (by simp)).mono ?_
 rintro e w' ⟨v',rfl,f,m⟩;rw[g] at f;exact⟨v',rfl,f.mono (by simp),((zac _ _).alloc zL _).trans (m.mono (by simp))⟩
theorem ZiV (r:Rec) (d:Int) (w:World) (g:Q1 r) (t:I64 d):
 Calls prog 133 #[ZsI r,.int .i64 d] w fun e w'=>∃ v',e=.returned v'∧Own w' w.heap.size v' (Lib.uvarint r.proc.toNat++(Lib.uvarint (Lib.zigzag d)++(X7 r.op++Lib.uvarint (Lib.zigzag r.resp))))∧Below w.heap.size w w':=by
 have J:Hid (∀ X,Below w.heap.size w (w.alloc X)):=fun X=>(zac _ _).alloc zL X
 have X1:Hid (∀ cs,Br (w.alloc (.cells cs 62)) w.heap.size cs):=fun cs=>zak w _
 have f:=ZZ (fun W=>ZvV (.slice none 0 0) [] r.op W (Rd.nil W) (by simp))
 unfold ZAX at f;rw[zab g.1,zab g.1,nil_append] at f;have q:=ZZ (ZaX g);have T:=ZgB g.1;obtain⟨_,_,_,_,_,P,al,_⟩:=g;have V:=Gm (n:=r.proc.toNat) (by omega)
 have ak:=ZwQ t;have aa:=ZwQ q.o
 have R:Hid (∀ W,Calls prog 132 #[.slice none 0 0,.int .i64 r.proc] W fun e w'=>∃ v',e=.returned v'∧Own w' W.heap.size v' (Lib.uvarint r.proc.toNat)∧Below W.heap.size W w'):=fun W=>by
  have h:=ZbD (.slice none 0 0) [] r.proc W (Rd.nil W) (by simp)
  rw[J4 P (by omega),nil_append] at h
  exact h
 have HA:Hid (∀ W,Calls prog 142 #[.slice none 0 0,.int .i64 d] W fun e w'=>∃ v',e=.returned v'∧Own w' W.heap.size v' (Lib.uvarint (Lib.zigzag d))∧Below W.heap.size W w'):=fun W=>by
  have h:=Gp (.slice none 0 0) [] d W (Rd.nil W) (by simp) t.1 t.2
  rw[nil_append] at h;exact h
 have Z:Hid (∀ W,Calls prog 142 #[.slice none 0 0,.int .i64 r.resp] W fun e w'=>∃ v',e=.returned v'∧Own w' W.heap.size v' (Lib.uvarint (Lib.zigzag r.resp))∧Below W.heap.size W w'):=fun W=>by
  have h:=Gp (.slice none 0 0) [] r.resp W (Rd.nil W) (by simp) q.o.1 q.o.2
  rw[nil_append] at h;exact h
 have ao:Hid (∀ W N u i k l,N=W.heap.size->Rd W u (Lib.uvarint r.proc.toNat)->Rd W i (Lib.uvarint (Lib.zigzag d))->Rd W k (X7 r.op)->Rd W l (Lib.uvarint (Lib.zigzag r.resp))->Calls prog 131 #[.slice (some ⟨N,0,none⟩) 4 4] (W.alloc (.cells #[u,i,k,l] 53)) fun e w'=>∃ v',e=.returned v'∧Own w' W.heap.size v' (Lib.uvarint r.proc.toNat++(Lib.uvarint (Lib.zigzag d)++(X7 r.op++Lib.uvarint (Lib.zigzag r.resp))))∧Below W.heap.size W w'):=fun W N u i k l hN h0 h1 h2 h3=>ZvD W N hN u i k l _ _ _ _ h0 h1 h2 h3 (by omega)
 clear V ak T aa q P al t;unfold opV at f;obtain⟨idx,proc,seq,⟨O,a,b⟩,resp⟩:=r;show Calls prog _ #[.agg #[.int .i64 idx,.int .i64 proc,.int .i64 seq,.int .i64 O,.int .i64 a,.int .i64 b,.int .i64 resp],.int .i64 d] w _
 dsimp only at *
 generalize Lib.uvarint proc.toNat=A at *;generalize Lib.uvarint (Lib.zigzag d)=Y at *;generalize Lib.uvarint (Lib.zigzag resp)=LB at *;generalize X7 ⟨O,a,b⟩=LO at *;generalize A++(Y++(LO++LB))=LL at *
 go_enter func133,ntmps133
 go_wp2_with fail
 refine(f.o _).mono ?_;rintro e W1 ⟨i,rfl,F,D⟩;have v:Br W1 w.heap.size _:=(X1.out _).below D zL;have ae:=ZZ v;have H:=ZZ ((J.o _).trans (D.mono (J.o _).size));have am:=ZZ F.rd;obtain⟨a1,c1,rfl,-⟩:=F.rd;obtain⟨p1,-⟩:=v.cell 1;obtain⟨p6,-⟩:=v.cell 6;have av:=H.o.size;clear D v F f;go_wp2
 go_region_held(fun w'=>w'.cell? ⟨w.heap.size,1,none⟩=some (.int .i64 proc)∧w'.cell? ⟨w.heap.size,6,none⟩=some (.int .i64 resp)) (go_keep)
  (first
   | (go_at_call 132;refine(R.o _).mono ?_;rintro e W2 ⟨k,rfl,C,x⟩;have m:=ae.o.below (((zac _ _).drew).trans x) zL;have af:=ZZ m;have Q:=ZZ (H.o.trans ((((zac _ _).drew).trans x).mono H.o.size));have au:=ZZ (am.o.below (((zac _ _).drew).trans x) zL);obtain⟨a2,c2,rfl,-⟩:=C.rd;have ad:=ZZ C.rd;obtain⟨q1,-⟩:=m.cell 1;obtain⟨q6,-⟩:=m.cell 6;clear C x m)
   | (go_at_call_of 142 (Value.int .i64 d);refine(HA.o _).mono ?_;rintro e W3 ⟨l,rfl,z,j⟩;have y:=af.o.below j zL;have ai:=ZZ y;have M:=ZZ (Q.o.trans (j.mono Q.o.size));have ag:=ZZ (ad.o.below j zL);have aj:=ZZ (au.o.below j zL);obtain⟨a3,c3,rfl,-⟩:=z.rd;have an:=ZZ z.rd;obtain⟨r1,-⟩:=y.cell 1;obtain⟨r6,-⟩:=y.cell 6;clear z j y)
   | (go_at_call_of 142 (Value.int .i64 resp);refine(Z.o _).mono ?_;rintro e L ⟨v4,rfl,E,c⟩;have p:=ai.o.below c zL;have ar:=ZZ p;have B:=ZZ (M.o.trans (c.mono M.o.size));have ap:=ZZ (ag.o.below c zL);have ab:=ZZ (an.o.below c zL);have aq:=ZZ (aj.o.below c zL);obtain⟨a4,c4,rfl,-⟩:=E.rd;have S:=ZZ E.rd;obtain⟨s1,-⟩:=p.cell 1;obtain⟨s6,-⟩:=p.cell 6;clear E c p)
   | (go_at_call 131;refine(ao.o L L.heap.size _ _ _ _ rfl ap.o ab.o aq.o S.o).mono ?_;rintro e W5 ⟨v5,rfl,K,G⟩;have I:=ar.o.below G zL;have ac:=ZZ (B.o.trans (G.mono B.o.size));have U:=ZZ (K.mono B.o.size);obtain⟨t1,-⟩:=I.cell 1;obtain⟨t6,-⟩:=I.cell 6;clear K G I))
 all_goals
  go_wp2;go_ret;exact⟨_,rfl,U.o,ac.o⟩
theorem ZiW (l:List Rec) (r:Rec):ZAa (Q8 l) r.proc r.seq=Q8 (l++[r]):=by
 funext q
 unfold ZAa;rw[Zna]
theorem Br.own {cs:Array Value} (h:Br w b cs) {B:Nat} {v:Value} {l:List UInt8} (i:Own w B v l):some b≠v.ownBlock:=by
 rcases i.2 with ⟨a,_⟩ | ⟨g,cap,cur,a,_,c,_⟩
 ·rw[a]
  intro e
  cases e
 ·rw[a]
  intro e;have f:b=g:=by simpa[Value.ownBlock] using e
  unfold Br at h;rw[f,c] at h
  have d:(5:TypeId)=62:=by
   injection h with h
   injection h
  exact absurd d (by decide)
theorem ZgY (v:Value) (l:List Rec) (w:World) (b:RdR w v l):
 Calls prog 90 #[v] w fun e w'=>Zmn w l e w':=by
 have HR:=ZZ b;have V:=ZZ (fun W h=>ZbE v l W h)
 obtain⟨ao,cap,rfl,aZ,aM,-,-,aB⟩:=b;have bb:(l.length:Int)<=9223372036854775807:=by unfold maxLen at aM;omega
 have a4:=ZZ aB;clear aB aZ aM;unfold Zmn;by_cases a:Yg l
 case neg=>
  simp only [zaa a];rw[zai a] at V;clear a
  go_enter func90,ntmps90
  go_wp2_with fail
  refine(V.o _ HR.o).mono ?_;rintro e W1 ⟨rfl,u⟩;have D:=ZZ u;clear u;go_wp2;go_ret2;exact⟨_,rfl,Own.nil _ _,D.o⟩
 simp only [zab a];rw[zan a] at V;have x:1<=l.length:=a.1;have h2:l.length<=256:=a.2.1;rcases a4.o with h0 | ⟨c,aP,rfl,hc⟩
 ·rw[h0] at x;simp at x
 have aH:Hid (∀ k,k<l.length->∀ W,Below w.heap.size w W->ZjV W c (aP+k*7) (l.getD k Qj)):=ZZ (fun k f W h=>(hc k f).keep (h.block c (hc k f).lt))
 have aC:Hid (∀ k,k<l.length->Q1 (l.getD k Qj)):=ZZ (fun k f=>a.2.2.1 _ (by simp[List.getD,f]))
 have aj:Hid (∀ k,∀ r ∈ l.take k,Q1 r):=ZZ (fun k r b=>a.2.2.1 r (zbz b))
 have hh:l.headD Qj=l.getD 0 Qj:=by cases l <;> simp
 obtain⟨_,i0,i1,_⟩:=aC.o 0 x
 have aO:Hid (Yc l=(Lib.uvarint (l.getD 0 Qj).idx.toNat++Lib.uvarint l.length)++Yl [] (l.take l.length)):=ZZ (by
  unfold Yc
  rw[hh,take_length,zcr])
 have aW:=ZZ (fun k f=>Zsd l k f)
 have aY:Hid (∀ k,(Yl [] (l.take k)).length<=60*256):=ZZ (fun k=>by
  have h3:=Zod (l.take k) [] (fun r b=>by simp at b) (aj.o k)
  have h4:(l.take k).length<=l.length:=by simp;omega
  omega)
 have u1:=Gm (n:=(l.getD 0 Qj).idx.toNat) (by omega)
 have u2:=Gm (n:=l.length) (by omega)
 have aU:Hid (∀ W,Calls prog 132 #[.slice none 0 0,.int .i64 (l.getD 0 Qj).idx] W fun e w'=>∃ v',e=.returned v'∧Own w' W.heap.size v' (Lib.uvarint (l.getD 0 Qj).idx.toNat)∧Below W.heap.size W w'):=fun W=>by
  have h:=ZbD (.slice none 0 0) [] (l.getD 0 Qj).idx W (Rd.nil W) (by simp)
  rw[J4 i0 (by omega),nil_append] at h
  exact h
 have ae:Hid (∀ W,Calls prog 132 #[.slice none 0 0,.int .i64 (l.length:Int)] W fun e w'=>∃ v',e=.returned v'∧Own w' W.heap.size v' (Lib.uvarint l.length)∧Below W.heap.size W w'):=fun W=>by
  have h:=ZbD (.slice none 0 0) [] (l.length:Int) W (Rd.nil W) (by simp)
  rw[J4 (by omega) (by omega),zbj,nil_append] at h
  exact h
 rw[aO.o];have aE:(Lib.uvarint (l.getD 0 Qj).idx.toNat++Lib.uvarint l.length).length<=20:=by rw[length_append];omega
 have aF:=(aH.o 0 x);have a8:=ZZ aF;have be:=ZZ a.2.2.1;have S:Hid (∀ W N O K,N=W.heap.size->Rd W O (Lib.uvarint (l.getD 0 Qj).idx.toNat)->Rd W K (Lib.uvarint l.length)->Calls prog 131 #[.slice (some ⟨N,0,none⟩) 2 2] (W.alloc (.cells #[O,K] 53)) fun e w'=>∃ v',e=.returned v'∧Own w' W.heap.size v' (Lib.uvarint (l.getD 0 Qj).idx.toNat++Lib.uvarint l.length)∧Below W.heap.size W w'):=fun W N O K hN h0 x=>ZzF W N hN O K _ _ h0 x (by omega)
 clear a hc hh aO i0 i1 u1 u2 aF;generalize (l.getD 0 Qj)=r0 at *;generalize Lib.uvarint r0.idx.toNat=A at *;obtain⟨A2,ay⟩:=zg7 (Lib.uvarint l.length);rw[<-ay] at ae S aE ⊢;clear ay;obtain⟨H,hH⟩:=zg7 (A++A2);rw[<-hH] at S aE ⊢;clear hH;have bc:=@run_makeMap prog;have ba:(0:Int)<(l.length:Int):=by omega
 go_enter func90,ntmps90
 go_wp2_with fail
 refine(V.o _ HR.o).mono ?_;rintro e W1 ⟨rfl,u⟩;have D:=ZZ u
 have a7:W1.cell? ⟨c,aP,none⟩=some (.int .i64 r0.idx):=by
  have h:=(a8.o W1 u).1
  rwa [zc7,zc2] at h
 clear u
 go_wp2_with fail
 refine(aU.o _).mono ?_;rintro e W2 ⟨v2,rfl,ai,aT⟩;obtain⟨a2,n2,rfl,-⟩:=ai.rd;have aG:=ZZ ai.rd;have aw:=ZZ (D.o.trans (aT.mono D.o.size));clear ai aT a7 D
 go_wp2_with fail
 refine(ae.o _).mono ?_;rintro e W3 ⟨v3,rfl,aa,am⟩;obtain⟨a3,n3,rfl,-⟩:=aa.rd;have aL:=ZZ (aG.o.below am zL);have aR:=ZZ aa.rd;have L:=ZZ (aw.o.trans (am.mono aw.o.size));clear aa am aG aw aU ae
 go_wp2_with fail
 refine(S.o W3 W3.heap.size _ _ rfl aL.o aR.o).mono ?_;rintro e B ⟨v4,rfl,aJ,aS⟩;have az:=ZZ (aJ.mono L.o.size);have Y:=ZZ (L.o.trans (aS.mono L.o.size));clear aJ aS aL aR L S;have d:Hid (Own (B.alloc (.map #[] 0)) w.heap.size v4 H):=ZZ (az.o.below ((zac _ _).alloc zL _) zL);have i:=ZZ (Zgd.made B);have t:Hid (Below w.heap.size w (B.alloc (.map #[] 0))):=ZZ (Y.o.alloc Y.o.size _);have HN:=ZZ Y.o.size;go_wp2
 go_loopw[4,24] (fun vo vi wr=>∃ k:Nat,vi=.int .i64 (k:Int)∧k<=l.length∧Hid (Own wr w.heap.size vo (H++Yl [] (l.take k)))∧Hid (Zgd wr B.heap.size k (Q8 (l.take k)))∧Hid (Below w.heap.size w wr)) (fun _ vi _=>l.length-(intOf vi).toNat)
 case atStart=>exact⟨0,rfl,zap _,by simpa[Yl] using d,i,t⟩
 case round=>
  clear d t i az Y;obtain⟨k,rfl,f,y,hM,C⟩:=hrel;by_cases I:k<l.length
  case neg=>
   have aI:l.take k=l.take l.length:=by rw[take_length,zbl (by omega)]
   rw[aI] at y;clear aI;go_wp2;go_ret2;exact⟨_,rfl,y.out,C.out⟩
  have bj:(k:Int)<(l.length:Int):=by omega
  have m:=aC.o k I;have z:Hid (I64 ((l.getD k Qj).seq-Q8 (l.take k) (l.getD k Qj).proc)):=ZZ (ZeE (aj.o k) m);have q:Hid (∀ W,Calls prog 133 #[ZsI (l.getD k Qj),.int .i64 ((l.getD k Qj).seq-Q8 (l.take k) (l.getD k Qj).proc)] W fun e w'=>∃ v',e=.returned v'∧Own w' W.heap.size v' (Zi (l.take k) (l.getD k Qj))∧Below W.heap.size W w'):=ZZ (fun W=>ZiV (l.getD k Qj) ((l.getD k Qj).seq-Q8 (l.take k) (l.getD k Qj).proc) W m z.o)
  have ar:Hid (I64 (l.getD k Qj).proc):=ZZ (by obtain⟨_,_,_,_,_,bl,bg,_⟩:=m;exact⟨by omega,by omega⟩)
  have aN:Hid (I64 (l.getD k Qj).seq):=ZZ (by obtain⟨_,_,_,bi,bm,_⟩:=m;exact⟨by omega,by omega⟩)
  have M:=ZZ (ZkQ (aj.o k) m);have au:=ZZ (aH.o k I);have a9:=aY.o k;have al:Hid ((H++Yl [] (l.take k)).length<=20000):=ZZ (by rw[length_append];omega)
  have T:Hid (H++Yl [] (l.take (k+1))=(H++Yl [] (l.take k))++Zi (l.take k) (l.getD k Qj)):=ZZ (by
   rw[aW.o k I,zcr])
  have aD:Hid (ZAa (Q8 (l.take k)) (l.getD k Qj).proc (l.getD k Qj).seq=Q8 (l.take (k+1))):=ZZ (by
   rw[ZiW,ZfZ I])
  clear a9 m;obtain⟨r,b⟩:=zg7 (l.getD k Qj);rw[<-b] at z q ar aN M au T aD;unfold ZsI at q;clear b;have ad:Hid (∀ X,(Instr.lookup 183 (.map (some B.heap.size)) (.int .i64 r.proc) false).run prog (wr.alloc X)=.ok (.int .i64 (Q8 (l.take k) r.proc)) (wr.alloc X)):=ZZ (fun X=>(hM.out.below ((zac _ _).alloc zL X) zL).look ar.o)
  obtain⟨P,aV⟩:=zg7 (Q8 (l.take k) r.proc);rw[<-aV] at z q ad;clear aV;obtain⟨E,hE⟩:=zg7 (Zi (l.take k) r);rw[<-hE] at q M T;clear hE;obtain⟨Q,aQ⟩:=zg7 (H++Yl [] (l.take k));rw[<-aQ] at y al T;clear aQ;have L0:=al.o;have L1:=M.o;have bd:IntKind.i64.wrap (r.seq-P)=r.seq-P:=Zpg z.o;have a0:=ad.o;obtain⟨c0,c1,c2,c3,c4,c5,c6⟩:=au.o wr C.out
  obtain⟨F,G,rfl⟩:∃ F G,u4=.slice F Q.length G:=by
   obtain⟨F,G,h,-⟩:=y.out.rd;exact⟨F,G,h⟩
  have aA:Hid (∀ cs,Br (wr.alloc (.cells cs 62)) wr.heap.size cs):=fun cs=>zak wr _
  have av:Hid (∀ X,Below wr.heap.size wr (wr.alloc X)):=fun X=>(zac _ _).alloc zL X
  clear ad z al M
  go_wp2_with fail
  refine(q.o _).mono ?_;rintro e W5 ⟨v5,rfl,ab,an⟩;obtain⟨a5,n5,rfl,-⟩:=ab.rd;have U:Below wr.heap.size wr W5:=(av.o _).trans (an.mono (av.o _).size);have aK:=ZZ ab.rd;have d:=ZZ (y.out.below U zL);have i:=ZZ (hM.out.below U zL);have J:Hid (Br W5 wr.heap.size _):=ZZ ((aA.o _).below an zL);have t:=ZZ (C.out.trans (U.mono C.out.size));have ak:=ZZ t.o.size;clear ab an U y hM C aA av c0 c1 c2 c3 c4 c5 c6 a0 q au
  go_wp2_with(at_builtin;refine ZfX _ rfl _ _ rfl w.heap.size _ Q rfl d.o _ E rfl aK.o (by omega) ak.o ?_)
  intro v6 W6 ap R;rw[<-T.o] at ap;have af:=ZZ ap;have ax:Hid (Br W6 wr.heap.size _):=ZZ ((R.block _ J.o.lt (J.o.own d.o)).trans J.o)
  have ag:=ZZ (i.o.keep (R.block _ i.o.lt (by
   rcases i.o.own d.o with h | h
   ·rw[h];exact fun e=>by cases e
   ·exact fun e=>h e.symm)))
  have ac:=ZZ (t.o.grown R ak.o (fun j p=>by
   rcases d.o.2 with ⟨hv,_⟩ | ⟨g,cap,cur,hv,bk,_⟩
   ·rw[hv] at p;cases p
   ·rw[hv] at p
    have e':g=j:=by simpa[Value.ownBlock] using p
    omega))
  clear ap R d J i t ak aK;obtain⟨W7,bf,Z,aq⟩:=ag.o.put ar.o aN.o (by omega)
  rw[aD.o] at Z;have aX:=ZZ Z;have a6:Hid (Own W7 w.heap.size v6 (H++Yl [] (l.take (k+1)))):=ZZ (zfi af.o aq (ag.o.own af.o));have a1:=ZZ (ac.o.grown aq ac.o.size (fun j p=>by cases p;exact HN.o))
  obtain⟨q1,-⟩:=ax.o.cell 1;obtain⟨q2,-⟩:=ax.o.cell 2;clear Z aq ag af ac ax;go_wp2;go_roundw
  case rel=>exact⟨k+1,by go_num,by omega,a6,aX,a1⟩
  case measure=>simp[intOf];omega
theorem Zkf (v:Value) (l:List Rec) (w:World) (g:RdR w v l) (c:Yg l) (n:(Yc l).length<=1048576):
 Calls prog 49 #[v] w fun e w'=>∃ v',e=.returned v'∧Own w' w.heap.size v' (Qd (Yc l))∧Below w.heap.size w w':=by
 have d:=ZZ (ZgY v l w g);unfold Zmn at d;rw[zab c,zab c] at d;have j:=ZZ (fun a W (h:Rd W a (Yc l))=>Zdp a _ W h)
 rw[Zmo n] at j;obtain⟨ao,cap,rfl,-⟩:=g;generalize Yc l=B at *;generalize Qd B=u at *;clear c n
 go_enter func49,ntmps49
 go_wp2_with fail
 refine d.o.mono ?_;rintro e x ⟨a,rfl,m,k⟩;have p:=ZZ m.rd;have b:=ZZ k;clear m k
 go_wp2_with fail
 refine(j.o _ _ p.o).mono ?_;rintro e z ⟨y,rfl,i,f⟩;have q:=ZZ (i.mono b.o.size);have t:=ZZ (b.o.trans (f.mono b.o.size));clear i f;go_wp2;go_ret;exact⟨_,rfl,q.o,t.o⟩
theorem Zmr {L:ZdD} (w:World) (h:Jr M I w p pd L s) (g:ZpV s) (k:0<=s.now.st.kind∧s.now.st.kind<6) (J:s.next<4611686018427387904) (A:0<=s.next):
 Calls prog 51 #[ptr p] w fun e w'=>∃ v',e=.returned v'∧Own w' w.heap.size v' (Qd (Xq 3 s.now.st.kind.toNat s.next.toNat))∧Below w.heap.size w w':=by
 have i:=ZZ h
 have u:Hid (∀ W,Below w.heap.size w W->Calls prog 14 #[ptr p] W fun e w'=>e=.returned (.int .i64 s.next)∧Below w.heap.size w w'):=ZZ (fun W a=>(ZiG W (h.below a) g).mono (by
  rintro e w' ⟨rfl,d⟩
  exact⟨rfl,a.trans (d.mono a.size)⟩))
 have D:Hid (∀ W,Below w.heap.size w W->Calls prog 93 #[.int .i64 3,.int .i64 s.now.st.kind,.int .i64 s.next] W fun e w'=>∃ v',e=.returned (.tuple #[v',.int .i64 0])∧Own w' w.heap.size v' (Qd (Xq 3 s.now.st.kind.toNat s.next.toNat))∧Below w.heap.size w w'):=ZZ (fun W a=>by
  have c:=Zoh 3 s.now.st.kind s.next W;have l:ZgC s.now.st.kind s.next:=⟨k.1,k.2,A,J⟩;have E:Jm 3 s.now.st.kind s.next=0:=by unfold Jm;rw[zab (by decide),zab l]
  have x:ZgX 3 s.now.st.kind s.next=Qd (Xq 3 s.now.st.kind.toNat s.next.toNat):=by unfold ZgX;rw[zab (by decide),zab l];rfl
  unfold Zrs at c;rw[E,x] at c;refine c.mono ?_;rintro e w' ⟨v',rfl,B,d⟩
  exact⟨v',rfl,B.mono a.size,a.trans (d.mono a.size)⟩)
 have b:Hid (∀ W,Below w.heap.size w W->W.cell? ⟨p,6,none⟩=some (.int .i64 s.now.st.kind)):=ZZ (fun W a=>by
  obtain⟨-,-,-,-,-,⟨-,G,-⟩,-⟩:=(i.o.below a).cs
  exact G)
 have m:Hid (Below w.heap.size w w.drew):=ZZ (zac _ _).drew;generalize Qd (Xq 3 s.now.st.kind.toNat s.next.toNat)=v at *;generalize s.now.st.kind=kd at *;generalize s.next=nx at *;clear h i g
 go_enter func51,ntmps51
 go_upto_region 1 with fail
 go_cut[3,4] (fun F H wc=>H=.int .i64 0∧Hid (Own wc w.heap.size F v)∧Hid (Below w.heap.size w wc))
 case first=>
  go_region_held(fun W=>W.cell? ⟨p,6,none⟩=some (.int .i64 kd))
   (first | (with_reducible exact b.o _ m.o) | (with_reducible exact b.o _ n.o) | (with_reducible exact b.o _ t.o))
   (first
    | (go_at_call 14;refine(u.o _ m.o).mono ?_;rintro e K ⟨rfl,q⟩;have n:=ZZ q;clear q)
    | (go_at_call 93;refine(D.o _ n.o).mono ?_;rintro e O ⟨N,rfl,j,f⟩;have y:=ZZ j;have t:=ZZ f;clear j f))
  all_goals
   go_wp2_with fail
   go_meet
   exact⟨rfl,y,t⟩
 case rest=>
  obtain⟨rfl,z,C⟩:=hcut;go_wp2;go_ret;exact⟨_,rfl,z.o,C.o⟩
def ZzG (t:List Ent):Prop:=ZfJ t∧∀ e ∈ t,0<=e.proc∧e.proc<=64
theorem Zoj:∀ (t:List Ent) (a:Int),ZfJ t->(∀ e ∈ t,a<=e.proc∧e.proc<=64)->(t.length:Int)<=max 0 (65-a)
 | [],a,_,_=>by simp only [zc0];omega
 | e::t,a,h,hb=>by
  unfold ZfJ at h;rw[zcd] at h;have d:=hb e zbp;have c:=Zoj t (e.proc+1) h.2 (fun x b=>⟨by have:=h.1 x b;omega,(hb x (za6 _ b)).2⟩)
  rw[zcb];omega
theorem ZzG.few (h:ZzG t):t.length<=65:=by
 have:=Zoj t 0 h.1 h.2;omega
theorem ZzG.note (h:ZzG t) {e:Ent} (b:0<=e.proc) (c:e.proc<=64):ZzG (Zcx t e):=by
 refine⟨ZdS h.1,fun x a=>?_⟩
 rw[ZhR] at a;rcases a with rfl | ⟨a,_⟩
 ·exact⟨b,c⟩
 ·exact h.2 x a
theorem Zdv.tabR (h:Zdv t):ZzG t:=⟨h.rises,fun e a=>by
 have:=h.mem e a;unfold Dh at this
 omega⟩
def SnS (s:Q0):Prop:=Ym s.st∧ZzG s.tab
theorem SnS.next {s:Q0} {r:Rec} (h:SnS s) (a:Q1 r):SnS (ZgS s r):=by
 refine⟨ZeD h.1 r.op,?_⟩;obtain⟨-,-,-,-,-,b,c,-⟩:=a;exact h.2.note b c
theorem SnS.take:∀ {l:List Rec} {s:Q0},SnS s->(Q4 s l).2=0->SnS (Q4 s l).1
 | [],_,h,_=>h
 | r::l,s,h,h0=>by
  rw[Q4] at h0 ⊢;split at h0
  ·cases h0
  ·rename_i c
   rw[zaa c];split at h0
   ·cases h0
   ·rename_i b
    rw[zaa b]
    exact SnS.take (h.next (by
     by_cases a:Q1 r
     ·exact a
     ·exact absurd a b)) h0
structure OkS (s:Sto):Prop where
 log:OkG s.log
 nx:s.now.idx=s.next
 now:SnS s.now
 cur:s.cur≠0->s.log.pcs.length≠0
 sy:I64 s.synced
 cu:I64 s.cur
theorem OkS.num (h:OkS s):ZpV s:=⟨h.log.f0,h.log.top,h.sy,h.cu⟩
theorem OkG.recOk {b:Lgb} (h:OkG b):∀ r ∈ b.recs,ZcJ r:=fun r a=>Zck (h.fits r a)
theorem SD.begin (h:SD K w pd p s d N T) (f:∀ k,K k->k<w.heap.size) (name first:Int) (b:s.log.pcs.length<=1000000):
 Calls prog 53 #[.pointer (some ⟨p,1,none⟩),.int .i64 name,.int .i64 first] w fun e w'=>e=.returned (.tuple #[])∧SD K w' pd p { s with log:=s.log.start name first } d N T∧Ql (fun k=>¬ K k) w w':=by
 obtain⟨F,M,I,L,m,a,v,i,g,u,x⟩:=h;refine(ZkM 76 (by decide) (by decide) p 1 _ L.rv L.pv s.log name first w a.toLog b).mono ?_
 rintro e w' ⟨n,c⟩;obtain⟨M',L',q,-,-,l,t⟩:=a.ofLog c;exact⟨n,SD.own f m v i g u x l q t (fun _ j=>.inl j)⟩
theorem SD.add (h:SD K w pd p s d N T) (i:∀ k,K k->k<w.heap.size) (a:Value) (l:List Rec) (n:RdR w a l) (u:s.log.pcs.length≠0) (c:s.log.pcs.length<=1000000) (g:s.log.recs.length+l.length<=10000000) (B:∀ q ∈ s.log.pcs,0<=q.stop∧q.stop<=4611686018427387904):
 Calls prog 54 #[.pointer (some ⟨p,1,none⟩),a] w fun e w'=>e=.returned (.tuple #[])∧SD K w' pd p { s with log:=s.log.add l } d N T∧Ql (fun k=>¬ K k) w w':=by
 obtain⟨F,M,I,L,x,b,D,m,j,C,E⟩:=h;refine(Zvy 76 (by decide) (by decide) p 1 _ L.rv L.pv s.log a l w b.toLog n u c g B).mono ?_
 rintro e w' ⟨y,f⟩;obtain⟨M',L',z,-,-,v,A⟩:=b.ofLog f;exact⟨y,SD.own i x D m j C E v z A (fun _ t=>.inl t)⟩
def Zms (w:World) (p o:Nat) (x0 x1 x2 x3 x4 x5:Value):World:=(((((w.setCell ⟨p,o,none⟩ x0).setCell ⟨p,o+1,none⟩ x1).setCell ⟨p,o+2,none⟩ x2).setCell ⟨p,o+3,none⟩ x3).setCell ⟨p,o+4,none⟩ x4).setCell ⟨p,o+5,none⟩ x5
theorem Ztn (w:World) (p o:Nat) (d e g c f b:Value) (k:Nat) (a:k≠p):(Zms w p o d e g c f b).heap[k]?=w.heap[k]?:=by
 unfold Zms;rw[zat _ _ _ _ a,zat _ _ _ _ a,zat _ _ _ _ a,zat _ _ _ _ a,zat _ _ _ _ a,zat _ _ _ _ a]
theorem Zto (w:World) (p o:Nat) (e f i d g c:Value) (M:Nat->Prop) (a:M p):Ql M w (Zms w p o e f i d g c):=
 ((((((Ql.refl M w).setCell (b:=p) _ (fun _=>a) _).setCell (b:=p) _ (fun _=>a) _).setCell (b:=p) _ (fun _=>a) _).setCell (b:=p) _ (fun _=>a) _).setCell (b:=p) _ (fun _=>a) _).setCell (b:=p) _ (fun _=>a) _
theorem SD.setNow {W:World} {F:Nat->Prop} {L:ZdD} (z:∀ k,K k->k<w.heap.size) (H:Dsk F w pd d N T) (a:Jr M I w p pd L s) (Q:∀ k,F k->¬ K k) (B:∀ k,M k->¬ K k) (A:∀ k,I k->¬ K k) (O:∀ k,F k->¬ M k) (R:∀ k,F k->¬ I k)
 (i:Below w.heap.size w W) (x:Q0 × Value × Value) (S:SnR W x) (hi:Zma (fun k=>I k∨(w.heap.size<=k∧k<W.heap.size)) x):
 SD K (Zms W p 5 (.int .i64 x.1.idx) (.int .i64 x.1.st.kind) x.2.1 (.bool x.1.st.shut) (.int .i64 x.1.st.eng) x.2.2) pd p { s with now:=x.1 } d N T∧
  Ql (fun k=>¬ K k) w (Zms W p 5 (.int .i64 x.1.idx) (.int .i64 x.1.st.kind) x.2.1 (.bool x.1.st.shut) (.int .i64 x.1.st.eng) x.2.2):=by
 obtain⟨f,j⟩:=zg7 (Zms W p 5 (.int .i64 x.1.idx) (.int .i64 x.1.st.kind) x.2.1 (.bool x.1.st.shut) (.int .i64 x.1.st.eng) x.2.2);rw[<-j];have b:=a.below i;have hk:∀ k,k≠p->f.heap[k]?=W.heap[k]?:=fun k hk=>by rw[j];exact Ztn _ _ _ _ _ _ _ _ _ k hk
 have E:Ql M w f:=(Ql.ofBelow i).trans (G:=M) (by rw[j];exact Zto _ _ _ _ _ _ _ _ _ M a.mh) (fun _ _ h=>h)
 have q:f.heap.size=W.heap.size:=by rw[j];unfold Zms;simp
 have V:p<w.heap.size:=a.ltM p a.mh
 have J:Bk 76 f p (stC pd { L with nl:=x.2.1,nt:=x.2.2 } { s with now:=x.1 }):=by
  rw[j];exact(((((b.head.set 5 _).set 6 _).set 7 _).set 8 _).set 9 _).set 10 _
 have m:∀ {t:TypeId} {n sz g:Nat} {v:Value} {xs:List Value},W.ownsRow 0 t sz v n xs->v.ownBlock=some g->t≠76->g≠p:=fun C c P=>by
  obtain⟨U,i⟩:=X5 C c;exact i.ne b.head P
 have u:∀ k,(I k∨(w.heap.size<=k∧k<W.heap.size))->f.heap[k]?=W.heap[k]?:=fun k D=>hk k (fun e=>by
  subst e;rcases D with h | h
  ·exact a.dis _ a.mh h
  ·omega)
 refine SD.own (I':=fun k=>I k∨(w.heap.size<=k∧k<W.heap.size)) (M':=M) (L':={ L with nl:=x.2.1,nt:=x.2.2 }) z H Q B A O R E ⟨J,Qh b.recs fun g c=>hk g (m b.recs c (by decide)),Qh b.pcs fun g c=>hk g (m b.pcs c (by decide)),Qh b.bases fun g c=>hk g (m b.bases c (by decide)),b.bsEq,S.keep hi u,fun y l=>(b.base y l).keep (b.ibase y l) (fun g c=>u g (.inl c)),a.mh,a.mr,a.mp,a.mb,hi,fun y l=>(a.ibase y l).mono (fun k hk=>.inl hk),fun k hm=>?_,fun k hm=>?_,fun k hm hi=>?_⟩ (fun _ hk=>.inl hk) (fun k hk=>?_)
 ·rw[q];exact zay (a.ltM k hm) i.size
 ·rw[q]
  rcases hm with hm | hm
  ·exact zay (a.ltI k hm) i.size
  ·exact hm.2
 ·rcases hi with hi | hi
  ·exact a.dis k hm hi
  ·have:=a.ltM k hm
   omega
 ·rcases hk with hk | hk
  ·exact .inl hk
  ·exact .inr hk.1
theorem ZiX (h:Yg l):(Yc l).length<=20000:=by
 obtain⟨d,i,b,e⟩:=h;have a:=Zgc l [] (fun r a=>by cases a) b
 unfold Yc;rw[length_append,length_append]
 have c:Q1 (l.headD Qj):=by
  match l,d with
  | r::t,_=>exact b r zbp
 have g:(Lib.uvarint (l.headD Qj).idx.toNat).length<=10:=Gm (by have:=c.2.2.1;omega)
 have f:(Lib.uvarint l.length).length<=10:=Gm (by omega)
 omega
theorem Ztp (h:Yg l) (c:0<=s.now.st.kind∧s.now.st.kind<6) (g:s.next<4611686018427387904):(Jz s l).length<=30000:=by
 have j:=ZiX h;have i:=Xa (Yc l);have b:=Xa (Xq 3 s.now.st.kind.toNat s.next.toNat);have a:=ZcO (v:=3) (k:=s.now.st.kind.toNat) (f:=s.next.toNat) (by decide) (by omega) (by omega)
 have e:(Lib.uvarint (Yc l).length).length<=10:=Gm (by omega)
 have d:(Lib.uvarint (Xq 3 s.now.st.kind.toNat s.next.toNat).length).length<=10:=Gm (by omega)
 unfold Jz;split
 ·rw[length_append]
  omega
 ·omega
theorem ZcP (h:OkD d) (first:Int) (g:0<=first) (f:first<=1000):I64 (Xs d first):=by
 have a:∀ n ∈ Xm (Qk d) first,0<=n∧n<1048576:=fun n c=>Zbg h n (za3.1 c).1
 unfold Xs;generalize Xm (Qk d) first=l at a ⊢;by_cases b:l.length=0
 ·rw[zao b]
  show I64 (first-2+2);exact⟨by omega,by omega⟩
 ·have e:l.getD (l.length-1) (first-2)=l[l.length-1]'(by omega):=by simp[List.getD,show l.length-1<l.length by omega]
  have:=a _ (zcp (show l.length-1<l.length by omega))
  rw[e];exact⟨by omega,by omega⟩
theorem RdR.keepK (h:RdR w v l) (hv:l=[]∨∀ k,v.ownBlock=some k->K k) (i:Ql (fun k=>¬ K k) w w'):RdR w' v l:=by
 obtain⟨ao,cap,rfl,n,m,f,p,a⟩:=h;refine⟨ao,cap,rfl,n,m,f,p,?_⟩;rcases hv with hv | hv
 ·exact .inl hv
 rcases a with a | ⟨b,g,rfl,d⟩
 ·exact .inl a
 ·exact .inr ⟨b,g,rfl,fun j c=>(d j c).keep (i.block b (d j c).lt (fun e=>e (hv b rfl)))⟩
theorem SD.takes (h:SD K w pd p s d N T) (hK:∀ k,K k->k<w.heap.size) (C:SnS s.now) (E:Value) (l:List Rec) (hr:RdR w E l) (ai:l.length<=1000000):
 ∃ a m lc b f i,(w.cell? ⟨p,5,none⟩=some (.int .i64 s.now.idx)∧w.cell? ⟨p,6,none⟩=some (.int .i64 s.now.st.kind)∧w.cell? ⟨p,7,none⟩=some (.slice a m lc)∧w.cell? ⟨p,8,none⟩=some (.bool s.now.st.shut)∧w.cell? ⟨p,9,none⟩=some (.int .i64 s.now.st.eng)∧w.cell? ⟨p,10,none⟩=some (.slice b f i))∧
  Calls prog 15 #[.agg #[.int .i64 s.now.idx,.int .i64 s.now.st.kind,.slice a m lc,.bool s.now.st.shut,.int .i64 s.now.st.eng,.slice b f i],E] w fun e w'=>
   ∃ t O q x H u,e=.returned (.tuple #[.agg #[.int .i64 (Q4 s.now l).1.idx,.int .i64 (Q4 s.now l).1.st.kind,.slice t O q,.bool (Q4 s.now l).1.st.shut,.int .i64 (Q4 s.now l).1.st.eng,.slice x H u],.int .i64 (Q4 s.now l).2])∧
    (w'.cell? ⟨p,5,none⟩=some (.int .i64 s.now.idx)∧w'.cell? ⟨p,6,none⟩=some (.int .i64 s.now.st.kind)∧w'.cell? ⟨p,7,none⟩=some (.slice a m lc)∧w'.cell? ⟨p,8,none⟩=some (.bool s.now.st.shut)∧w'.cell? ⟨p,9,none⟩=some (.int .i64 s.now.st.eng)∧w'.cell? ⟨p,10,none⟩=some (.slice b f i))∧(∀ j,w'.frozen? ⟨p,j,none⟩=false)∧
    SD K (Zms w' p 5 (.int .i64 (Q4 s.now l).1.idx) (.int .i64 (Q4 s.now l).1.st.kind) (.slice t O q) (.bool (Q4 s.now l).1.st.shut) (.int .i64 (Q4 s.now l).1.st.eng) (.slice x H u)) pd p { s with now:=(Q4 s.now l).1 } d N T∧
    Ql (fun k=>¬ K k) w (Zms w' p 5 (.int .i64 (Q4 s.now l).1.idx) (.int .i64 (Q4 s.now l).1.st.kind) (.slice t O q) (.bool (Q4 s.now l).1.st.shut) (.int .i64 (Q4 s.now l).1.st.eng) (.slice x H u)):=by
 obtain⟨F,M,I,L,h1,c,h3,h4,h5,h6,h7⟩:=h;obtain⟨a,m,lc,b,f,i,e1,e2⟩:=c.now.shape;have z:L.nl=.slice a m lc:=e1;have B:L.nt=.slice b f i:=e2
 have Y:∀ W,Below w.heap.size w W->(W.cell? ⟨p,5,none⟩=some (.int .i64 s.now.idx)∧W.cell? ⟨p,6,none⟩=some (.int .i64 s.now.st.kind)∧W.cell? ⟨p,7,none⟩=some (.slice a m lc)∧W.cell? ⟨p,8,none⟩=some (.bool s.now.st.shut)∧W.cell? ⟨p,9,none⟩=some (.int .i64 s.now.st.eng)∧W.cell? ⟨p,10,none⟩=some (.slice b f i)):=fun W hW=>by
  obtain⟨-,-,-,-,-,⟨c5,c6,U,c8,c9,Z⟩,-⟩:=(c.below hW).cs;rw[z] at U;rw[B] at Z;exact⟨c5,c6,U,c8,c9,Z⟩
 refine⟨a,m,lc,b,f,i,Y w (zac _ _),?_⟩;have aa:=c.now.snV
 have af:snV (L.nx s)=.agg #[.int .i64 s.now.idx,.int .i64 s.now.st.kind,.slice a m lc,.bool s.now.st.shut,.int .i64 s.now.st.eng,.slice b f i]:=by
  unfold snV snC ZdD.nx
  dsimp only
  rw[z,B]
 rw[af] at aa;have hL:s.now.st.L.length<=1000:=by have:=ZlZ C.1;omega
 have hT:s.now.tab.length<=1000:=by have:=C.2.few;omega
 refine(ZnM (P:=SnS) (fun S r v hf=>v.next hf) (fun S v=>by have:=v.2.few;omega) _ _ _ _ _ _ s.now E l w aa hr hL hT (by omega) C).mono ?_
 rintro e w' ⟨G,A,rfl,D,r2,r3,R,r5,g1,g2,Q⟩;obtain⟨t,q,V,-⟩:=id D;obtain⟨x,u,hu⟩:=R.shape;have v:SnR w' ((Q4 s.now l).1,G,A):=⟨D,R,r2,r3,r5⟩
 have ac:Zma (fun k=>I k∨(w.heap.size<=k∧k<w'.heap.size)) ((Q4 s.now l).1,G,A):=by
  refine⟨?_,?_⟩
  ·rcases D.block with ad | ⟨ag,k,X,ab⟩
   ·exact .inl ad
   ·rcases g1 with g1 | g1
    ·rcases c.inow.1 with hi | hi
     ·obtain⟨a2,c2,h9,-⟩:=c.now.l
      have y:L.nl=.slice a2 s.now.st.L.length c2:=h9;have ae:s.now.st.L=[]:=hi;rw[ae] at y;rw[V] at g1;rw[z] at y
      injection g1 with _ g1 _
      injection y with _ y _
      exact .inl (zao (by rw[g1,y];rfl))
     ·refine .inr fun g n=>.inl (hi g ?_)
      show L.nl.ownBlock=some g;rw[z,<-g1];exact n
    ·refine .inr fun g n=>.inr ⟨g1 g n,?_⟩
     rw[n] at X;obtain rfl:=zaq X;exact ab
  ·rcases g2 with ⟨rfl,g2⟩ | g2
   ·rcases c.inow.2 with hi | hi
    ·exact .inl hi
    ·refine .inr fun g n=>.inl (hi g ?_)
     show L.nt.ownBlock=some g;rw[B,<-g2];exact n
   ·exact .inr fun g n=>.inr (zaz g2 g n)
 have J:=SD.setNow hK h1 c h3 h4 h5 h6 h7 Q ((Q4 s.now l).1,G,A) v ac
 dsimp only at J
 subst V hu;exact⟨t,_,q,x,_,u,rfl,Y w' Q,fun j=>(c.below Q).fz j,J.1,J.2⟩
end Go.Proofs.YtnahjngbneicaaaGreatDoor
