import Derived.Test.YtnahjngbneicaaaGreatDoorPack8
import Derived.Test.YtnahjngbneicaaaGreatDoorPack10
import Derived.Deep.RegionHeld2
import Derived.Test.YtnahjngbneicaaaGreatDoorPack1
import Derived.Deep.QuietTactic
import Derived.BigQuiet
import Derived.Test.YtnahjngbneicaaaGreatDoorPack7
import Derived.Test.YtnahjngbneicaaaGreatDoorPack9
import Derived.Test.YtnahjngbneicaaaGreatDoorPack5
import Derived.Test.YtnahjngbneicaaaGreatDoorPack4
import Derived.Deep.RegionHeld
import Derived.Maps.OwnOps
import Derived.Maps.Views
namespace Go.Proofs.YtnahjngbneicaaaGreatDoor
open _root_.Go.Proofs.Tryz
open List (length_append length_drop nil_append take_length)
set_option maxHeartbeats 8000000
set_option maxRecDepth 100000
open Go.RowKit
theorem ZgJ (v:Int) (B:Bool) (c:B=decide (1<=v∧v<=3)) (w:World):
 Calls prog 188 #[.int .i64 v] w fun e w'=>e=.returned (.bool B)∧w'=w:=by
 subst c;by_cases h:1<=v∧v<=3
 ·rw[decide_eq_true h]
  obtain⟨b,a⟩:=h
  go_enter func188,ntmps188
  go_wp2;go_ret;exact⟨rfl,rfl⟩
 ·rw[decide_eq_false h]
  by_cases b:1<=v
  ·have a:¬ v<=3:=fun a=>h ⟨b,a⟩
   clear h
   go_enter func188,ntmps188
   go_wp2;go_ret;exact⟨rfl,rfl⟩
  ·clear h
   go_enter func188,ntmps188
   go_wp2;go_ret;exact⟨rfl,rfl⟩
theorem Zqn (v k f:Int) (w:World):
 Calls prog 137 #[.agg #[.int .i64 v,.int .i64 k,.int .i64 f]] w fun e w'=>e=.returned (.int .i64 (Zch v k f))∧Below w.heap.size w w':=by
 have c:Hid (∀ X,Below w.heap.size w (w.alloc X)):=fun X=>(Below.refl _ _).alloc zL X
 by_cases a:1<=v∧v<=3
 case neg=>
  have b:=ZZ (ZgJ v false (by rw[decide_eq_false a]))
  have g:Hid (Zch v k f=6):=ZZ (if_neg a);rw[g.o];clear a
  go_enter func137,ntmps137
  go_wp2_with fail
  refine(b.o _).mono ?_;rintro e d ⟨rfl,rfl⟩;go_wp2;go_ret;exact⟨rfl,c.o _⟩
 have b:=ZZ (ZgJ v true (by rw[decide_eq_true a]))
 by_cases h:Zjr k f
 case neg=>
  have g:Hid (Zch v k f=1):=ZZ (by unfold Zch;rw[if_pos a,if_neg h])
  rw[g.o];clear a;by_cases j:k<0
  ·clear h
   go_enter func137,ntmps137
   go_wp2_with fail
   refine(b.o _).mono ?_;rintro e d ⟨rfl,rfl⟩;go_wp2;go_ret;exact⟨rfl,c.o _⟩
  by_cases z:6<=k
  ·clear h
   go_enter func137,ntmps137
   go_wp2_with fail
   refine(b.o _).mono ?_;rintro e d ⟨rfl,rfl⟩;go_wp2;go_ret;exact⟨rfl,c.o _⟩
  by_cases p:f<0
  ·clear h
   go_enter func137,ntmps137
   go_wp2_with fail
   refine(b.o _).mono ?_;rintro e d ⟨rfl,rfl⟩;go_wp2;go_ret;exact⟨rfl,c.o _⟩
  have i:4611686018427387904<=f:=by
   by_cases i:f<4611686018427387904
   ·exact absurd ⟨by omega,by omega,by omega,i⟩ h
   ·omega
  clear h
  go_enter func137,ntmps137
  go_wp2_with fail
  refine(b.o _).mono ?_;rintro e d ⟨rfl,rfl⟩;go_wp2;go_ret;exact⟨rfl,c.o _⟩
 have g:Hid (Zch v k f=0):=ZZ (by unfold Zch;rw[if_pos a,if_pos h])
 rw[g.o];obtain⟨q,n,l,m⟩:=h;have y:¬ k<0:=by omega
 have x:¬ 6<=k:=by omega
 have t:¬ f<0:=by omega
 have u:¬ 4611686018427387904<=f:=by omega
 clear a
 go_enter func137,ntmps137
 go_wp2_with fail
 refine(b.o _).mono ?_;rintro e d ⟨rfl,rfl⟩;go_wp2;go_ret;exact⟨rfl,c.o _⟩
theorem ZoB {L:List (List UInt8)} {k:Nat} (h:k<L.length):Zaf (L.take (k+1))=Zaf (L.take k)++Zad (L.getD k []):=by
 rw[Zve h,ZfS];simp[Zaf]
theorem Zsl {d:List UInt8} (h:d.length<=1048576):ZjC (d.length:Int)=(Zad d).length:=by
 unfold ZjC;rw[if_pos ⟨by omega,by omega⟩,Zas,Int.toNat_natCast]
 omega
theorem ZxN (v:Value) (L:List (List UInt8)) (w:World) (u:RdL w v L) (l:∀ x ∈ L,x.length<=1048576) (M:(Zaf L).length<=10000000):
 Calls prog 206 #[v] w fun e w'=>e=.returned (.int .i64 ((Zaf L).length:Nat))∧Below w.heap.size w w':=by
 have D:=ZZ u;obtain⟨ao,cap,rfl,J,t,-⟩:=u;have S:(L.length:Int)<=9223372036854775807:=by unfold maxLen at t;omega
 have B:=ZZ (fun k a=>D.o.at k a)
 obtain⟨Z,c⟩:∃ Z:Nat->Nat,Z=fun k=>(Zaf (L.take k)).length:=⟨_,rfl⟩
 have K:Hid (Z 0=0):=ZZ (by rw[c];simp[Zaf])
 have C:Hid (∀ k,k<L.length->Z (k+1)=Z k+ZjC ((L.getD k []).length:Int)):=ZZ (fun k a=>by
  rw[c];simp only
  rw[ZoB a,length_append,Zsl (l _ (ZtB a))])
 have N:Hid (∀ k,Z k<=10000000):=ZZ (fun k=>by
  rw[c];have:=ZhY L k;simp only
  omega)
 have I:Hid ((Zaf L).length=Z L.length):=ZZ (by rw[c];simp only;rw[take_length])
 have G:Hid (∀ k,k<L.length->∀ W,Calls prog 134 #[.int .i64 ((L.getD k []).length:Int)] W fun e w'=>e=.returned (.int .i64 (ZjC ((L.getD k []).length:Int):Nat))∧Below W.heap.size W w'):=ZZ (fun k a W=>by
  have:=l _ (ZtB a)
  exact Ztz _ W (by omega) (by omega))
 rw[I.o];clear c J t l M
 go_enter func206,ntmps206
 go_wp2
 go_loopw[3,8] (fun vs h g=>∃ k:Nat,h=.int .i64 (k:Int)∧vs=.int .i64 (Z k:Int)∧k<=L.length∧Hid (Below w.heap.size w g)) (fun _ h _=>L.length-(intOf h).toNat)
 case atStart=>exact⟨0,rfl,by rw[K.o];rfl,Nat.zero_le _,Below.refl _ _⟩
 case round=>
  obtain⟨k,rfl,rfl,a,d⟩:=hrel;by_cases f:k<L.length
  case neg=>
   have e:k=L.length:=by omega
   subst e;go_wp2;go_ret;exact⟨rfl,d.o⟩
  obtain⟨b,P,x,rfl,p,q⟩:=B.o k f;have O:=p g d.o;have j:=ZZ (C.o k f);have H:=ZZ (G.o k f);have E:=N.o (k+1);rw[j.o] at E;obtain⟨T,R,rfl,-⟩:=q g d.o;obtain⟨y,i⟩:∃ y,y=Z (k+1):=⟨_,rfl⟩;rw[<-i] at j;have A:=ZZ i;generalize Z k=z at *;generalize ZjC ((L.getD k []).length:Int)=sz at *;generalize (L.getD k []).length=n at *;clear p q i
  go_wp2_with fail
  refine(H.o _).mono ?_;rintro e Q ⟨rfl,m⟩;have F:=ZZ (d.o.trans (m.mono d.o.size));clear m;go_wp2;go_roundw
  case rel=>exact⟨k+1,by go_num,by rw[<-A.o,j.o];go_num,by omega,F⟩
  case measure=>simp[intOf];omega
theorem Zsm (a b c:Int) (W:World):(Instr.index 188 (.agg #[.int .i64 a,.int .i64 b,.int .i64 c]) (.int .i64 0)).run prog W=.ok (.int .i64 a) W:=by
 simp[Instr.index,run_underlying underlying188,asIntOf,go_sem]
theorem Zsn (b a c:Int) (W:World):(Instr.index 188 (.agg #[.int .i64 b,.int .i64 a,.int .i64 c]) (.int .i64 1)).run prog W=.ok (.int .i64 a) W:=by
 simp[Instr.index,run_underlying underlying188,asIntOf,go_sem]
theorem Zso (b c a:Int) (W:World):(Instr.index 188 (.agg #[.int .i64 b,.int .i64 c,.int .i64 a]) (.int .i64 2)).run prog W=.ok (.int .i64 a) W:=by
 simp[Instr.index,run_underlying underlying188,asIntOf,go_sem]
theorem Zqo (v k f:Int) (hv:1<=v∧v<=3) (h:Zjr k f) (w:World):
 Calls prog 138 #[.agg #[.int .i64 v,.int .i64 k,.int .i64 f]] w fun e w'=>∃ v',e=.returned v'∧Own w' w.heap.size v' (ZbC v.toNat k.toNat f.toNat)∧Below w.heap.size w w':=by
 obtain⟨P,k1,M,N⟩:=h
 have t:Hid (∀ b l n W,Rd W b l->l.length<=1000->0<=n->n<4611686018427387904->Calls prog 132 #[b,.int .i64 n] W fun e w'=>∃ v',e=.returned v'∧Own w' W.heap.size v' (l++Lib.uvarint n.toNat)∧Below W.heap.size W w'):=fun b l n W h hl U L=>by
  have h:=ZeN b l n W h (by omega)
  rw[Zcg U L] at h;exact h
 have Z:(Lib.uvarint v.toNat).length<=10:=ZdD (by omega)
 have S:(Lib.uvarint k.toNat).length<=10:=ZdD (by omega)
 have K:Hid (ZbC v.toNat k.toNat f.toNat=(([108]++Lib.uvarint v.toNat)++Lib.uvarint k.toNat)++Lib.uvarint f.toNat):=ZZ (by unfold ZbC;simp)
 have E:=ZZ (fun b W h=>t.o b [108] v W h (by simp) (by omega) (by omega))
 have J:=ZZ (fun b W h=>t.o b ([108]++Lib.uvarint v.toNat) k W h (by simp only [length_append,List.length_singleton];omega) P (by omega))
 have z:=ZZ (fun b W h=>t.o b (([108]++Lib.uvarint v.toNat)++Lib.uvarint k.toNat) f W h (by simp only [length_append,List.length_singleton];omega) M N)
 rw[<-K.o] at z;clear K t;obtain⟨d,m⟩:∃ d:Nat->List UInt8,d=fun q=>if q=0 then[108] else if q=1 then[108]++Lib.uvarint v.toNat else if q=2 then[108]++Lib.uvarint v.toNat++Lib.uvarint k.toNat else ZbC v.toNat k.toNat f.toNat:=⟨_,rfl⟩
 have D:[108]=d 0:=by rw[m];rfl
 have C:[108]++Lib.uvarint v.toNat=d 1:=by rw[m];rfl
 have y:[108]++Lib.uvarint v.toNat++Lib.uvarint k.toNat=d 2:=by rw[m];rfl
 have B:ZbC v.toNat k.toNat f.toNat=d 3:=by rw[m];rfl
 have R:Hid (∀ W:World,Rd (W.alloc (.cells #[.int .u8 108] 5)) (.slice (some ⟨W.heap.size,0,none⟩) 1 1) (d 0)):=ZZ (fun W=>by rw[<-D];exact Rd.byte W 108)
 rw[y,B] at z;rw[y,C] at J;rw[C,D] at E;rw[B];clear D C y B m Z S;have V:Hid (∀ X Y,Below w.heap.size w ((w.alloc X).alloc Y)):=fun X Y=>Below.allocs (Below.allocs (Below.refl _ _) X) Y
 go_enter func138,ntmps138
 go_wp2
 go_loopw[3,8] (fun F x u=>∃ q:Nat,x=.int .i64 (q:Int)∧q<=3∧Hid (Rd u F (d q))∧Hid (1<=q->Own u w.heap.size F (d q))∧Hid (Below w.heap.size w u)) (fun _ x _=>3-(intOf x).toNat)
 case atStart=>
  refine⟨0,rfl,Nat.zero_le _,?_,fun h=>absurd h (by decide),V.o _ _⟩
  have h:=R.o (w.alloc (.cells #[.int .i64 v,.int .i64 k,.int .i64 f] 188));have e:(w.alloc (.cells #[.int .i64 v,.int .i64 k,.int .i64 f] 188)).heap.size=w.heap.size+1:=by simp
  rw[e] at h;exact h
 case round=>
  obtain⟨q,rfl,hq,A,T,c⟩:=hrel;by_cases aa:q<3
  case neg=>
   have e:q=3:=by omega
   subst e;have Q:=ZZ (T.o (by decide))
   go_wp2;go_ret;exact⟨_,rfl,Q.o,c.o⟩
  have O:q=0∨q=1∨q=2:=by omega
  rcases O with rfl | rfl | rfl
  ·have G:=Zsm v k f
   go_wp2_with fail
   refine(E.o _ _ A.o).mono ?_;rintro e H ⟨I,rfl,a,g⟩;have j:=ZZ a.rd;have i:=ZZ (a.mono c.o.size);have p:=ZZ (c.o.trans (g.mono c.o.size));clear a g;go_wp2;go_roundw
   case rel=>exact⟨1,rfl,by omega,j,ZZ (fun _=>i.o),p⟩
   case measure=>simp[intOf]
  ·have G:=Zsn v k f
   go_wp2_with fail
   refine(J.o _ _ A.o).mono ?_;rintro e H ⟨I,rfl,a,g⟩;have j:=ZZ a.rd;have i:=ZZ (a.mono c.o.size);have p:=ZZ (c.o.trans (g.mono c.o.size));clear a g;go_wp2;go_roundw
   case rel=>exact⟨2,rfl,by omega,j,ZZ (fun _=>i.o),p⟩
   case measure=>simp[intOf]
  ·have G:=Zso v k f
   go_wp2_with fail
   refine(z.o _ _ A.o).mono ?_;rintro e H ⟨I,rfl,a,g⟩;have j:=ZZ a.rd;have i:=ZZ (a.mono c.o.size);have p:=ZZ (c.o.trans (g.mono c.o.size));clear a g;go_wp2;go_roundw
   case rel=>exact⟨3,rfl,by omega,j,ZZ (fun _=>i.o),p⟩
   case measure=>simp[intOf]
theorem Zqp (v k f:Int) (w:World):
 Calls prog 93 #[.int .i64 v,.int .i64 k,.int .i64 f] w fun e w'=>ZtA w v k f e w':=by
 unfold ZtA;have p:Hid (∀ X,Below w.heap.size w (w.alloc X)):=fun X=>(Below.refl _ _).alloc zL X
 have C:Hid (∀ cs,(w.alloc (.cells cs 188)).heap[w.heap.size]?=some (.cells cs 188 (0,0))):=fun cs=>heap_alloc_new w _
 have j:=ZZ (fun W=>Zqn v k f W)
 by_cases n:(1<=v∧v<=3)∧Zjr k f
 case neg=>
  have b:Zch v k f≠0∧ZjH v k f=[]:=by
   unfold Zch ZjH;by_cases a:1<=v∧v<=3
   ·rw[if_pos a,if_pos a,if_neg (fun h=>n ⟨a,h⟩),if_neg (fun h=>n ⟨a,h⟩)]
    exact⟨by decide,rfl⟩
   ·rw[if_neg a,if_neg a]
    exact⟨by decide,rfl⟩
  obtain⟨b,g⟩:=b;rw[g];generalize Zch v k f=er at *;have N:(er != 0)=true:=by rw[bne_iff_ne];exact b
  clear n b g
  go_enter func93,ntmps93
  go_wp2_with fail
  refine(j.o _).mono ?_;rintro e l ⟨rfl,c⟩;have m:=ZZ ((p.o _).trans (c.mono (p.o _).size));clear c;go_wp2;go_ret2;exact⟨_,rfl,Own.nil _ _,m.o⟩
 obtain⟨a,d⟩:=n;have B:=ZZ (fun W=>Zqo v k f a d W)
 have b:Zch v k f=0:=by unfold Zch;rw[if_pos a,if_pos d]
 have g:ZjH v k f=Zad (ZbC v.toNat k.toNat f.toNat):=by unfold ZjH;rw[if_pos a,if_pos d]
 have L:(ZbC v.toNat k.toNat f.toNat).length<=40:=ZhV (by omega) (by have:=d.2.1;omega) (by have:=d.2.2.2;omega)
 have A:=ZZ (fun y W (h:Rd W y (ZbC v.toNat k.toNat f.toNat))=>Zgw y _ W h)
 rw[ZoA (by omega)] at A
 rw[b] at j ⊢;rw[g];generalize ZbC v.toNat k.toNat f.toNat=H at *;generalize Zad H=F at *;clear a d b g
 go_enter func93,ntmps93
 go_wp2_with fail
 refine(j.o _).mono ?_;rintro e l ⟨rfl,c⟩;have i:=ZZ ((c.block _ (by simp)).trans (C.o _))
 have m:=ZZ ((p.o _).trans (c.mono (p.o _).size));clear c j;have G:l.cell? ⟨w.heap.size,0,none⟩=some (.int .i64 v):=cell_of_row _ _ 0 _ _ _ i.o;have J:l.cell? ⟨w.heap.size,1,none⟩=some (.int .i64 k):=cell_of_row _ _ 1 _ _ _ i.o;have K:l.cell? ⟨w.heap.size,2,none⟩=some (.int .i64 f):=cell_of_row _ _ 2 _ _ _ i.o
 go_wp2_with fail
 refine(B.o _).mono ?_;rintro e O ⟨Q,rfl,u,t⟩;have D:=ZZ u.rd;have q:=ZZ (m.o.trans (t.mono m.o.size));clear u t G J K i
 go_wp2_with fail
 refine(A.o _ _ D.o).mono ?_;rintro e M ⟨P,rfl,z,x⟩;have I:=ZZ (z.mono q.o.size);have E:=ZZ (q.o.trans (x.mono q.o.size));clear z x;go_wp2;go_ret2;exact⟨_,rfl,I.o,E.o⟩
def Bhd (w:World) (b:Nat) (x y z:Int):Prop:=w.heap[b]?=some (.cells #[.int .i64 x,.int .i64 y,.int .i64 z] 188 (0,0))
theorem Bhd.lt {w:World} {b:Nat} {x y z:Int} (h:Bhd w b x y z):b<w.heap.size:=(Array.getElem?_eq_some_iff.1 h).1
theorem Bhd.below {w w':World} {b B:Nat} {x y z:Int} (h:Bhd w b x y z) (c:Below B w w') (a:b<B):Bhd w' b x y z:=(c.block b a).trans h
theorem Bhd.cell {w:World} {b:Nat} {x y z:Int} (h:Bhd w b x y z):(w.cell? ⟨b,0,none⟩=some (.int .i64 x)∧w.cell? ⟨b,1,none⟩=some (.int .i64 y)∧w.cell? ⟨b,2,none⟩=some (.int .i64 z))∧∀ j,w.frozen? ⟨b,j,none⟩=false:=
 ⟨⟨cell_of_row w b 0 _ _ _ h,cell_of_row w b 1 _ _ _ h,cell_of_row w b 2 _ _ _ h⟩,fun j=>frozen_of_row w b j _ _ h⟩
theorem Bhd.set0 {w:World} {b:Nat} {x y z:Int} (h:Bhd w b x y z) (n:Int):Bhd (w.setCell ⟨b,0,none⟩ (.int .i64 n)) b n y z:=by
 have a:=heap_setCell_same w b 0 _ _ (.int .i64 n) h;unfold Bhd;simpa using a
theorem Bhd.set1 {w:World} {b:Nat} {x y z:Int} (h:Bhd w b x y z) (n:Int):Bhd (w.setCell ⟨b,1,none⟩ (.int .i64 n)) b x n z:=by
 have a:=heap_setCell_same w b 1 _ _ (.int .i64 n) h;unfold Bhd;simpa using a
theorem Bhd.set2 {w:World} {b:Nat} {x y z:Int} (h:Bhd w b x y z) (n:Int):Bhd (w.setCell ⟨b,2,none⟩ (.int .i64 n)) b x y n:=by
 have a:=heap_setCell_same w b 2 _ _ (.int .i64 n) h;unfold Bhd;simpa using a
theorem Bhd.other {w:World} {b c:Nat} {x y z:Int} (h:Bhd w b x y z) (a:b≠c) (j:Nat) (u:Value):Bhd (w.setCell ⟨c,j,none⟩ u) b x y z:=(Below.heap_setCell _ _ _ _ a).trans h
def ZBR:Except Int (Nat × Nat × Nat)->Int
 | .error e=>e
 | .ok _=>0
def ZdS (w:World) (d:List UInt8) (e:Ending) (w':World):Prop:=
 ∃ x y z:Int,e=.returned (.tuple #[.agg #[.int .i64 x,.int .i64 y,.int .i64 z],.int .i64 (ZBR (Zcy d))])∧(∀ v k f,Zcy d=.ok (v,k,f)->x=(v:Int)∧y=(k:Int)∧z=(f:Int))∧Below w.heap.size w w'
theorem ZdS.form {w w':World} {d:List UInt8} (h:Zcy d=.error 3) (b:Below w.heap.size w w'):ZdS w d (.returned (.tuple #[.agg #[.int .i64 0,.int .i64 0,.int .i64 0],.int .i64 3])) w':=
 ⟨0,0,0,by rw[h];rfl,(fun v k f a=>by rw[h] at a;cases a),b⟩
theorem ZoC (v:Value) (d:List UInt8) (w:World) (hr:Rd w v d):
 Calls prog 203 #[v] w fun e w'=>ZdS w d e w':=by
 have HR:=ZZ hr;obtain⟨ao,cap,rfl,a5,aT,-,aR⟩:=hr;have bc:(d.length:Int)<=9223372036854775807:=by unfold maxLen at aT;omega
 have ax:Hid (∀ X,Below w.heap.size w (w.alloc X)):=fun X=>(Below.refl _ _).alloc zL X
 by_cases h0:d.length=0
 ·have e:d=[]:=List.eq_nil_of_length_eq_zero h0
  have C:Hid (Zcy d=.error 3):=ZZ (Zno (.inl e));have a4:((d.length:Int) == 0)=true:=by rw[beq_iff_eq];omega
  clear e h0 aR
  go_enter func203,ntmps203
  go_wp2;refine bodyPost_ret (v:=.tuple #[.agg #[.int .i64 0,.int .i64 0,.int .i64 0],.int .i64 3]) (by simp[results,Tryz.results203,go_sem]) rfl ?_
  exact ZdS.form C.o (ax.o _)
 have a4:((d.length:Int) == 0)=false:=beq_eq_false_iff_ne.2 (by omega)
 have bf:(0:Int)<(d.length:Int):=by omega
 have am:d≠[]:=fun e=>by rw[e] at h0;simp at h0
 rcases aR with he | ⟨b,off,rfl,hc⟩
 ·exact absurd he am
 have ay:=hc 0 (by omega)
 have aX:b<w.heap.size:=World.block_lt_of_cell? w ⟨b,off+0,none⟩ ay;have a0:∀ X,(w.alloc X).cell? ⟨b,off,none⟩=some (.int .u8 ((d.getD 0 0).toNat:Nat)):=fun X=>((ax.o X).cell (p:=⟨b,off,none⟩) aX).trans ay
 clear hc ay a5 aT;by_cases hm:d.getD 0 0=108
 case neg=>
  have C:Hid (Zcy d=.error 3):=ZZ (Zno (.inr hm))
  have aW:((((d.getD 0 0).toNat:Nat):Int) != 108)=true:=by
   rw[bne_iff_ne];intro h;apply hm;apply UInt8.toNat_inj.1;have:(108:UInt8).toNat=108:=rfl;omega
  clear hm am h0;generalize (((d.getD 0 0).toNat:Nat):Int)=c0 at *
  go_enter func203,ntmps203
  go_wp2;refine bodyPost_ret (v:=.tuple #[.agg #[.int .i64 0,.int .i64 0,.int .i64 0],.int .i64 3]) (by simp[results,Tryz.results203,go_sem]) rfl ?_
  exact ZdS.form C.o (ax.o _)
 have aW:((((d.getD 0 0).toNat:Nat):Int) != 108)=false:=by
  rw[hm];rfl
 have aD:¬ (d=[]∨d.getD 0 0≠108):=by rintro(h | h);exact am h;exact h hm
 generalize (((d.getD 0 0).toNat:Nat):Int)=c0 at *;obtain⟨a1,c1,aM,aJ⟩:=ZAp w _ d cap HR.o 1 (by omega)
 obtain⟨⟨E,g⟩,an⟩:∃ x,Zab (d.drop 1)=x:=⟨_,rfl⟩;obtain⟨⟨F,m⟩,aq⟩:∃ x,Zab (d.drop (1+g))=x:=⟨_,rfl⟩;obtain⟨⟨I,G⟩,ag⟩:∃ x,Zab (d.drop (1+g+m))=x:=⟨_,rfl⟩;have au:=Zcj (d.drop 1);have ak:=Zcj (d.drop (1+g));have ar:=Zcj (d.drop (1+g+m));have q2:=ZzF (d.drop (1+g+m));rw[an,length_drop] at au;rw[aq,length_drop] at ak;rw[ag,length_drop] at ar;rw[ag] at q2;simp only at au ak ar q2;have C:=ZZ (Zvg aD an aq ag)
 have aC:=aJ 1 rfl
 -- the three rounds
 have aG:=ZZ aM;have HF:=ZZ (fun W=>Zqn (E:Int) (F:Int) (I:Int) W)
 have X1:Hid (∀ x y z Y,Bhd ((w.alloc (.cells #[.int .i64 x,.int .i64 y,.int .i64 z] 188)).alloc Y) w.heap.size x y z):=fun x y z Y=>(Below.heap_alloc _ _ _ (by simp)).trans (heap_alloc_new w _)
 have X2:Hid (∀ X x y z,Bhd ((w.alloc X).alloc (.cells #[.int .i64 x,.int .i64 y,.int .i64 z] 188)) (w.heap.size+1) x y z):=fun X x y z=>ZrF w X _
 have ab:Hid (∀ X Y,Below w.heap.size w ((w.alloc X).alloc Y)):=fun X Y=>Below.allocs (Below.allocs (Below.refl _ _) X) Y
 clear aM aJ hm am h0;obtain⟨l,aj⟩:∃ l:Nat->Nat,l=fun q=>if q=0 then 1 else if q=1 then 1+g else if q=2 then 1+g+m else 1+g+m+G:=⟨_,rfl⟩
 have p0:l 0=1:=by rw[aj];rfl
 have p1:l 1=1+g:=by rw[aj];rfl
 have p2:l 2=1+g+m:=by rw[aj];rfl
 have p3:l 3=1+g+m+G:=by rw[aj];rfl
 have B:Hid (l 0=1∧l 1=1+g∧l 2=1+g+m∧l 3=1+g+m+G):=ZZ ⟨p0,p1,p2,p3⟩;obtain⟨t,aO⟩:∃ t:Nat->Nat,t=fun q=>(d.drop (l q)).length:=⟨_,rfl⟩
 have V:Hid (∀ q,t q=(d.drop (l q)).length):=ZZ (fun q=>by rw[aO])
 have aI:Hid (Rd w (.slice a1 (t 0) c1) (d.drop (l 0))):=ZZ (by rw[V.o,p0];exact aG.o)
 have aY:∀ W,(Instr.sliceAt 53 (.slice (some ⟨b,off,none⟩) d.length cap) (some (.int .i64 1)) none none).run prog W=.ok (.slice a1 (t 0) c1) W:=by rw[V.o,p0];exact aC
 have aw:Hid (∀ (a:Option Addr) (c q k:Nat),l (q+1)=l q+k->l q+k<=d.length->Rd w (.slice a (t q) c) (d.drop (l q))->∃ a' c',Rd w (.slice a' (t (q+1)) c') (d.drop (l (q+1)))∧∀ i:Int,i=(k:Int)->∀ W,(Instr.sliceAt 53 (.slice a (t q) c) (some (.int .i64 i)) none none).run prog W=.ok (.slice a' (t (q+1)) c') W):=ZZ (fun a c q k hp A aS=>by
  rw[V.o q] at aS;obtain⟨a',c',h1,h2⟩:=ZAp w a (d.drop (l q)) c aS k (by rw[length_drop];omega)
  rw[List.drop_drop,<-hp,<-V.o (q+1)] at h1;rw[List.drop_drop,<-hp,<-V.o q,<-V.o (q+1)] at h2
  exact⟨a',c',h1,h2⟩)
 have HG:Hid (∀ W a c q n k,Below w.heap.size w W->Rd w (.slice a (t q) c) (d.drop (l q))->Zab (d.drop (l q))=(n,k)->Calls prog 168 #[.slice a (t q) c] W fun e w'=>e=.returned (.tuple #[.int .i64 (n:Int),.int .i64 (k:Int)])∧w'=W):=ZZ (fun W a c q n k hb h hd=>by
  have hx:=ZfY _ _ W (h.below hb zL);rw[hd] at hx
  exact hx)
 have HD:Hid (Zab (d.drop 1)=(E,g)∧Zab (d.drop (1+g))=(F,m)∧Zab (d.drop (1+g+m))=(I,G)):=ZZ ⟨an,aq,ag⟩;have T:Hid (g<=d.length-1∧m<=d.length-(1+g)∧G<=d.length-(1+g+m)):=ZZ ⟨au,ak,ar⟩;clear aj aO p0 p1 p2 p3 aG aC an aq ag au ak ar aD
 go_enter func203,ntmps203
 go_wp2
 go_loopw[5,21] (fun vl vi u=>∃ (q:Nat) (a:Option Addr) (c:Nat) (x y z:Int),vi=.int .i64 (q:Int)∧vl=.slice a (t q) c∧q<=3∧Hid (Rd w (.slice a (t q) c) (d.drop (l q)))∧Hid (Bhd u (w.heap.size+1) x y z)∧Hid (Bhd u w.heap.size 0 0 0)∧Hid ((1<=q->x=(E:Int)∧g≠0)∧(2<=q->y=(F:Int)∧m≠0)∧(3<=q->z=(I:Int)∧G≠0))∧Hid (Below w.heap.size w u)) (fun _ vi _=>3-(intOf vi).toNat)
 case atStart=>exact⟨0,a1,c1,0,0,0,rfl,rfl,Nat.zero_le _,aI,ZZ (X2.o _ _ _ _),ZZ (X1.o _ _ _ _),ZZ ⟨fun h=>absurd h (by decide),fun h=>absurd h (by decide),fun h=>absurd h (by decide)⟩,ZZ (ab.o _ _)⟩
 case round=>
  obtain⟨q,a,c,x,y,z,rfl,rfl,hq,aa,J,K,Z,H⟩:=hrel;clear aI aY a0;by_cases bd:q<3
  case neg=>
   have e:q=3:=by omega
   subst e;have h1:=Z.o.1 (by decide)
   have h2:=Z.o.2.1 (by decide)
   have h3:=Z.o.2.2 (by decide)
   obtain⟨rfl,aF⟩:=h1;obtain⟨rfl,aE⟩:=h2;obtain⟨rfl,aL⟩:=h3;by_cases aA:1+g+m+G=d.length
   case neg=>
    have N:Hid (Zcy d=.error 3):=ZZ (by rw[C.o,if_pos (.inr (.inr (.inr aA)))])
    have al:t 3≠0:=by
     rw[V.o,B.o.2.2.2,length_drop];have:=T.o;omega
    have bg:(0:Int)<(t 3:Int):=by omega
    have a6:0<t 3:=by omega
    have bb:decide (0<t 3)=true:=decide_eq_true a6;generalize t 3=ln at *;obtain⟨⟨O,R,P⟩,j⟩:=K.o.cell;have f0:=j 0;have f1:=j 1;have f2:=j 2;clear j al aF aE aL aA C;go_wp2;refine bodyPost_ret (v:=.tuple #[.agg #[.int .i64 0,.int .i64 0,.int .i64 0],.int .i64 3]) (by simp[results,Tryz.results203,go_sem,O,R,P]) rfl ?_
    exact ZdS.form N.o (ZbG H.o _ zL _ _ _)
   have al:t 3=0:=by
    rw[V.o,B.o.2.2.2,length_drop];omega
   have aP:Hid (Zch (E:Int) (F:Int) (I:Int)=ZBR (Zcy d)):=ZZ (by
    rw[C.o,if_neg (by omega)]
    unfold Zch;by_cases g1:E<1∨3<E
    ·rw[if_neg (by omega),if_pos g1];rfl
    ·rw[if_pos (by omega),if_neg g1]
     by_cases g2:6<=F
     ·rw[if_pos g2,if_neg (fun h=>by have:=h.2.1;omega)];rfl
     ·rw[if_neg g2,if_pos ⟨by omega,by omega,by omega,by omega⟩];rfl)
   have aZ:Hid (∀ v k f,Zcy d=.ok (v,k,f)->(E:Int)=(v:Int)∧(F:Int)=(k:Int)∧(I:Int)=(f:Int)):=ZZ (fun v k f M=>by
    rw[C.o] at M;split at M
    ·cases M
    split at M
    ·cases M
    split at M
    ·cases M
    simp only [Except.ok.injEq,Prod.mk.injEq] at M;obtain⟨rfl,rfl,rfl⟩:=M
    exact⟨rfl,rfl,rfl⟩)
   rw[aP.o] at HF;rw[al] at aa ⊢;obtain⟨er,az⟩:∃ er,er=ZBR (Zcy d):=⟨_,rfl⟩;rw[<-az] at HF;have a2:=ZZ az;clear az;obtain⟨⟨O,R,P⟩,j⟩:=K.o.cell;have f0:=j 0;have f1:=j 1;have f2:=j 2;obtain⟨⟨g0,g1,g2⟩,-⟩:=J.o.cell;have aH:Hid (∀ W,Below u.heap.size u W->W.cell? ⟨w.heap.size+1,0,none⟩=some (.int .i64 (E:Int))∧W.cell? ⟨w.heap.size+1,1,none⟩=some (.int .i64 (F:Int))∧W.cell? ⟨w.heap.size+1,2,none⟩=some (.int .i64 (I:Int))):=ZZ (fun W hb=>(J.o.below hb J.o.lt).cell.1)
   have aQ:Hid (Below u.heap.size u u.drew):=ZZ ((Below.refl _ _).drew);have aV:=ZZ (aH.o _ aQ.o);generalize (E:Int)=N0 at *;generalize (F:Int)=N1 at *;generalize (I:Int)=N2 at *;clear j aF aE aL aA C aP T HD Z al B;have be:w.heap.size≠w.heap.size+1:=by omega
   have aN:Hid (Bhd (((u.setCell ⟨w.heap.size,0,none⟩ (.int .i64 N0)).setCell ⟨w.heap.size,1,none⟩ (.int .i64 N1)).setCell ⟨w.heap.size,2,none⟩ (.int .i64 N2)) w.heap.size N0 N1 N2):=ZZ (((K.o.set0 N0).set1 N1).set2 N2);have av:Hid (Bhd (((u.setCell ⟨w.heap.size,0,none⟩ (.int .i64 N0)).setCell ⟨w.heap.size,1,none⟩ (.int .i64 N1)).setCell ⟨w.heap.size,2,none⟩ (.int .i64 N2)) (w.heap.size+1) N0 N1 N2):=ZZ (((J.o.other (by omega) 0 _).other (by omega) 1 _).other (by omega) 2 _)
   have aK:Hid (Below w.heap.size w (((u.setCell ⟨w.heap.size,0,none⟩ (.int .i64 N0)).setCell ⟨w.heap.size,1,none⟩ (.int .i64 N1)).setCell ⟨w.heap.size,2,none⟩ (.int .i64 N2)).drew):=ZZ (ZbG H.o _ zL _ _ _).drew
   go_upto_region 15 with fail
   go_region_held2(fun w'=>w'.cell? ⟨w.heap.size+1,0,none⟩=some (.int .i64 N0)∧w'.cell? ⟨w.heap.size+1,1,none⟩=some (.int .i64 N1)∧w'.cell? ⟨w.heap.size+1,2,none⟩=some (.int .i64 N2)) (first | exact aV.o | exact a3.o | exact a7.o | exact av.o.cell.1 | go_keep)
    (first
     | (go_at_call 137;refine(HF.o u.drew).mono ?_;rintro e L ⟨rfl,aB⟩;have ab:=ZZ (aQ.o.trans aB);have a3:=ZZ (aH.o L ab.o);have aU:=ZZ (H.o.trans (ab.o.mono H.o.size));obtain⟨⟨s0,s1,s2⟩,sf⟩:=(K.o.below ab.o K.o.lt).cell;have ba:=sf 0;have a8:=sf 1;have a9:=sf 2;obtain⟨⟨t0,t1,t2⟩,-⟩:=(J.o.below ab.o J.o.lt).cell;clear aB sf)
     | (go_at_call 137;refine(HF.o (((u.setCell ⟨w.heap.size,0,none⟩ (.int .i64 N0)).setCell ⟨w.heap.size,1,none⟩ (.int .i64 N1)).setCell ⟨w.heap.size,2,none⟩ (.int .i64 N2)).drew).mono ?_;rintro e W3 ⟨rfl,ap⟩;have a7:=ZZ (av.o.below ap av.o.lt).cell.1;have N:=ZZ (aK.o.trans (ap.mono aK.o.size));obtain⟨⟨s0,s1,s2⟩,-⟩:=(aN.o.below ap aN.o.lt).cell;clear ap))
   all_goals
    go_wp2;refine bodyPost_ret (v:=.tuple #[.agg #[.int .i64 N0,.int .i64 N1,.int .i64 N2],.int .i64 er]) (by simp[results,Tryz.results203,go_sem,s0,s1,s2]) rfl ⟨N0,N1,N2,by rw[a2.o],aZ.o,?_⟩
    first
    | exact N.o
    | exact(ZbG aU.o _ zL _ _ _)
    | exact(ZbG aU.o _ zL _ _ _).drew
  have h3:q=0∨q=1∨q=2:=by omega
  rcases h3 with rfl | rfl | rfl
  ·have Q:=ZZ (HG.o u a c 0 E g H.o aa.o (by rw[B.o.1];exact HD.o.1))
   by_cases A:g=0
   ·have N:Hid (Zcy d=.error 3):=ZZ (by rw[C.o,if_pos (.inl A)])
    have ac:((g:Int) == 0)=true:=by rw[beq_iff_eq];omega
    obtain⟨⟨O,R,P⟩,j⟩:=K.o.cell;have f0:=j 0;have f1:=j 1;have f2:=j 2;clear j A C T
    go_wp2_with fail
    refine Q.o.mono ?_;rintro e L ⟨rfl,D⟩;rw[D];go_wp2;refine bodyPost_ret (v:=.tuple #[.agg #[.int .i64 0,.int .i64 0,.int .i64 0],.int .i64 3]) (by simp[results,Tryz.results203,go_sem,O,R,P]) rfl ?_
    exact ZdS.form N.o (ZbG H.o _ zL _ _ _)
   have ac:((g:Int) == 0)=false:=beq_eq_false_iff_ne.2 (by omega)
   have ai:=ZZ A;obtain⟨a',c',U,hcut⟩:=aw.o a c 0 g (by rw[B.o.2.1,B.o.1]) (by rw[B.o.1];have:=T.o;omega) aa.o
   have kc:=hcut (g:Int) rfl;have ah:=ZZ U;obtain⟨⟨g0,g1,g2⟩,S⟩:=J.o.cell;have fq:=S 0;have ad:=ZZ (J.o.set0 (E:Int));have ae:=ZZ (K.o.other (show w.heap.size≠w.heap.size+1 by omega) 0 (.int .i64 (E:Int)))
   have af:=ZZ (H.o.setCell (p:=⟨w.heap.size+1,0,none⟩) (show w.heap.size<=w.heap.size+1 by omega) (.int .i64 (E:Int)))
   clear A hcut U S
   go_wp2_with fail
   refine Q.o.mono ?_;rintro e L ⟨rfl,D⟩;rw[D];clear D L;go_wp2
   go_region
   all_goals
    go_wp2;go_roundw
    case rel=>exact⟨1,a',c',(E:Int),y,z,rfl,rfl,by omega,ah,ad,ae,ZZ ⟨fun _=>⟨rfl,ai.o⟩,fun h=>absurd h (by decide),fun h=>absurd h (by decide)⟩,ZZ af.o.drew⟩
    case measure=>simp[intOf]
  ·have Q:=ZZ (HG.o u a c 1 F m H.o aa.o (by rw[B.o.2.1];exact HD.o.2.1))
   by_cases A:m=0
   ·have N:Hid (Zcy d=.error 3):=ZZ (by rw[C.o,if_pos (.inr (.inl A))])
    have ac:((m:Int) == 0)=true:=by rw[beq_iff_eq];omega
    obtain⟨⟨O,R,P⟩,j⟩:=K.o.cell;have f0:=j 0;have f1:=j 1;have f2:=j 2;clear j A C T
    go_wp2_with fail
    refine Q.o.mono ?_;rintro e L ⟨rfl,D⟩;rw[D];go_wp2;refine bodyPost_ret (v:=.tuple #[.agg #[.int .i64 0,.int .i64 0,.int .i64 0],.int .i64 3]) (by simp[results,Tryz.results203,go_sem,O,R,P]) rfl ?_
    exact ZdS.form N.o (ZbG H.o _ zL _ _ _)
   have ac:((m:Int) == 0)=false:=beq_eq_false_iff_ne.2 (by omega)
   have ai:=ZZ A;obtain⟨a',c',U,hcut⟩:=aw.o a c 1 m (by rw[B.o.2.2.1,B.o.2.1]) (by rw[B.o.2.1];have:=T.o;omega) aa.o
   have kc:=hcut (m:Int) rfl;have ah:=ZZ U;obtain⟨⟨g0,g1,g2⟩,S⟩:=J.o.cell;have fq:=S 1;have ad:=ZZ (J.o.set1 (F:Int));have ae:=ZZ (K.o.other (show w.heap.size≠w.heap.size+1 by omega) 1 (.int .i64 (F:Int)))
   have af:=ZZ (H.o.setCell (p:=⟨w.heap.size+1,1,none⟩) (show w.heap.size<=w.heap.size+1 by omega) (.int .i64 (F:Int)))
   clear A hcut U S
   go_wp2_with fail
   refine Q.o.mono ?_;rintro e L ⟨rfl,D⟩;rw[D];clear D L;go_wp2
   go_region
   all_goals
    go_wp2;go_roundw
    case rel=>exact⟨2,a',c',x,(F:Int),z,rfl,rfl,by omega,ah,ad,ae,ZZ ⟨fun _=>Z.o.1 (by decide),fun _=>⟨rfl,ai.o⟩,fun h=>absurd h (by decide)⟩,ZZ af.o.drew⟩
    case measure=>simp[intOf]
  ·have Q:=ZZ (HG.o u a c 2 I G H.o aa.o (by rw[B.o.2.2.1];exact HD.o.2.2))
   by_cases A:G=0
   ·have N:Hid (Zcy d=.error 3):=ZZ (by rw[C.o,if_pos (.inr (.inr (.inl A)))])
    have ac:((G:Int) == 0)=true:=by rw[beq_iff_eq];omega
    obtain⟨⟨O,R,P⟩,j⟩:=K.o.cell;have f0:=j 0;have f1:=j 1;have f2:=j 2;clear j A C T
    go_wp2_with fail
    refine Q.o.mono ?_;rintro e L ⟨rfl,D⟩;rw[D];go_wp2;refine bodyPost_ret (v:=.tuple #[.agg #[.int .i64 0,.int .i64 0,.int .i64 0],.int .i64 3]) (by simp[results,Tryz.results203,go_sem,O,R,P]) rfl ?_
    exact ZdS.form N.o (ZbG H.o _ zL _ _ _)
   have ac:((G:Int) == 0)=false:=beq_eq_false_iff_ne.2 (by omega)
   have ai:=ZZ A;obtain⟨a',c',U,hcut⟩:=aw.o a c 2 G (by rw[B.o.2.2.2,B.o.2.2.1]) (by rw[B.o.2.2.1];have:=T.o;omega) aa.o
   have kc:=hcut (G:Int) rfl;have ah:=ZZ U;obtain⟨⟨g0,g1,g2⟩,S⟩:=J.o.cell;have fq:=S 2;have ad:=ZZ (J.o.set2 (I:Int));have ae:=ZZ (K.o.other (show w.heap.size≠w.heap.size+1 by omega) 2 (.int .i64 (I:Int)))
   have af:=ZZ (H.o.setCell (p:=⟨w.heap.size+1,2,none⟩) (show w.heap.size<=w.heap.size+1 by omega) (.int .i64 (I:Int)))
   clear A hcut U S
   go_wp2_with fail
   refine Q.o.mono ?_;rintro e L ⟨rfl,D⟩;rw[D];clear D L;go_wp2
   go_region
   all_goals
    go_wp2;go_roundw
    case rel=>exact⟨3,a',c',x,y,(I:Int),rfl,rfl,by omega,ah,ad,ae,ZZ ⟨fun _=>Z.o.1 (by decide),fun _=>Z.o.2.1 (by decide),fun _=>⟨rfl,ai.o⟩⟩,ZZ af.o.drew⟩
    case measure=>simp[intOf]
theorem Zsp (v k f:Int) (a:Option Addr) (n c:Nat) (w:World):
 Calls prog 205 #[.agg #[.int .i64 v,.int .i64 k,.int .i64 f],.slice a n c] w fun e w'=>e=.returned (.agg #[.int .i64 k,.int .i64 f,.slice a n c])∧Below w.heap.size w w':=by
 have b:Hid (∀ X Y,Below w.heap.size w ((w.alloc X).alloc Y)):=fun X Y=>Below.allocs (Below.allocs (Below.refl _ _) X) Y
 go_enter func205,ntmps205
 go_wp2;refine bodyPost_ret (v:=.agg #[.int .i64 k,.int .i64 f,.slice a n c]) (by simp[results,Tryz.results205,go_sem]) rfl ⟨rfl,?_⟩
 exact b.o _ _
def Znp (w:World) (v f:Nat) (B:List (List UInt8)) (e:Ending) (w':World):Prop:=
 ∃ vl,e=.returned (.tuple #[vl,.int .i64 ((Zds v f B [] 16).2.1:Int),.int .i64 (Zds v f B [] 16).2.2])∧Zbq w' w.heap.size vl (Zds v f B [] 16).1∧(∀ r ∈ (Zds v f B [] 16).1,Zga r)∧Below w.heap.size w w'
theorem Bsg.set3 {w:World} {R:Nat} {a b c:Value} (h:Bsg w R #[a,b,c]) (d e f:Value):Bsg (((w.setCell ⟨R,0,none⟩ d).setCell ⟨R,1,none⟩ e).setCell ⟨R,2,none⟩ f) R #[d,e,f]:=by
 have g:=heap_setCell_same w R 0 _ _ d h;have j:=heap_setCell_same _ R 1 _ _ e g;have i:=heap_setCell_same _ R 2 _ _ f j;unfold Bsg;simpa using i
theorem Zlb.set {w:World} {C:Nat} {v:Value} {L:List (List UInt8)} (h:Zlb w C v L) (R i:Nat) (a:R<C) (x:Value):Zlb (w.setCell ⟨R,i,none⟩ x) C v L:=by
 obtain⟨xs,d,b⟩:=h;refine⟨xs,ownsRow_setCell_below d a x,fun j f=>?_⟩
 obtain⟨y,c,e⟩:=b j f;exact⟨y,c,ownsRow_setCell_below e a x⟩
theorem Znq (v:Value) (l:List UInt8) (w:World) (g:Rd w v l) (k:l.length<=1000000):
 Calls prog 118 #[v] w fun e w'=>∃ v',e=.returned (.tuple #[v',.int .i64 ((Zao l).2.1:Nat)])∧Zlb w' w.heap.size v' (Zao l).1∧Below w.heap.size w w':=by
 have f:=ZZ (Zqm v l w g k);clear g
 go_enter func118,ntmps118
 go_wp2_with fail
 refine f.o.mono ?_;rintro e p ⟨n,rfl,d,b⟩;have h:=ZZ d;have i:=ZZ b;clear d b f;obtain⟨m,a⟩:∃ m,m=(Zao l).2.1:=⟨_,rfl⟩;have j:=ZZ a;rw[<-a];clear a;generalize (Zao l).2.2=c at *;go_wp2;go_ret2;exact⟨_,by rw[j.o];rfl,h.o,i.o⟩
theorem Zly (v:Nat) (k f:Int) (b:Value) (w:World) (i:∃ a c,b=.slice a 0 c):
 Calls prog 204 #[.agg #[.int .i64 (v:Int),.int .i64 k,.int .i64 f],b] w fun e w'=>e=.returned (.tuple #[.slice none 0 0,.int .i64 0,.int .i64 0])∧Below w.heap.size w w':=by
 obtain⟨a,c,rfl⟩:=i;have j:Hid (∀ X,Below w.heap.size w (w.alloc X)):=fun X=>(Below.refl _ _).alloc zL X
 generalize (v:Int)=V
 go_enter func204,ntmps204
 go_wp2
 go_loopw[7,14] (fun h l d=>h=.slice none 0 0∧l=.int .i64 0∧Hid (Below w.heap.size w d)) (fun _ _ _=>0)
 case atStart=>exact⟨rfl,rfl,ZZ (j.o _)⟩
 case round=>
  obtain⟨rfl,rfl,g⟩:=hrel;go_wp2;refine bodyPost_ret (v:=.tuple #[.slice none 0 0,.int .i64 0,.int .i64 0]) (by simp[results,Tryz.results204,go_sem]) rfl ?_
  exact⟨rfl,g.o⟩
theorem Zmz (vb:Value) (b:List UInt8) (w:World) (hr:Rd w vb b) (bY:b.length<=100000) (bk:(Zao b).1.tail=[]):
 Calls prog 166 #[vb] w fun e w'=>Zea w b e w':=by
 have K:Hid (∀ X,Below w.heap.size w (w.alloc X)):=fun X=>(Below.refl _ _).alloc zL X
 have X1:Hid (∀ cs,Bsg (w.alloc (.cells cs 217)) w.heap.size cs):=fun cs=>heap_alloc_new w _
 have ak:=ZZ (fun X=>Znq vb b (w.alloc X) (hr.below (K.o X) zL) (by omega))
 obtain⟨ab,cb,rfl,-⟩:=hr;obtain⟨aF,bg⟩:=ZhX b;obtain⟨bm,-⟩:=ZfB _ b zL
 have aQ:(Zaf (Zao b).1).length<=100000:=by
  rw[bm,List.length_take];omega
 have ar:=ZZ (fun h=>Zvj (b:=b) h)
 have aI:Hid ((Zao b).1=[]->ZdP b=(ZhD,0,false)):=ZZ (fun h=>by unfold ZdP ZyU;rw[if_pos h])
 generalize (Zao b).2.1=tk at *;generalize (Zao b).1=L at *;have bu:=ZZ bk;clear bk bm;by_cases h0:L.length=0
 ·have e:L=[]:=List.eq_nil_of_length_eq_zero h0
  have l:=ZZ (aI.o e);have bG:((L.length:Int) == 0)=true:=by rw[beq_iff_eq];omega
  clear ar aI aF bg aQ h0 e
  go_enter func166,ntmps166
  go_wp2_with fail
  refine(ak.o _).mono ?_;rintro e C ⟨m,rfl,O,A⟩;have I:=ZZ ((X1.o _).below A zL);have ap:=ZZ ((K.o _).trans (A.mono (K.o _).size));obtain⟨a1,P,rfl,-⟩:=O.rd;clear A ak;obtain⟨r0,f0⟩:=I.o.cell 0;obtain⟨r1,f1⟩:=I.o.cell 1;obtain⟨r2,f2⟩:=I.o.cell 2;go_wp2;refine bodyPost_ret (v:=.tuple #[.agg #[.int .i64 0,.int .i64 0,.slice none 0 0],.int .i64 0,.bool false]) (by simp[results,Tryz.results166,go_sem,r0,r1,r2]) rfl ?_
  exact Zea.fail l.o (ZbG ap.o _ zL _ _ _)
 have aT:L≠[]:=fun e=>h0 (by rw[e];rfl)
 have bG:((L.length:Int) == 0)=false:=beq_eq_false_iff_ne.2 (by omega)
 have l:=ZZ (ar.o aT);have a2:L.getD 0 []=L.headD []:=by cases L <;> rfl
 have a5:Hid (∀ (v k f:Nat),1<=v->v<=3->f<4611686018427387904->∀ (vp:Value) (W:World),Below w.heap.size w W->RdL W vp L.tail->Calls prog 204 #[.agg #[.int .i64 (v:Int),.int .i64 (k:Int),.int .i64 (f:Int)],vp] W fun e w'=>Znp W v f L.tail e w'):=ZZ (fun v k f _ _ _ vp W _ h=>by
  rw[bu.o] at h ⊢
  refine(Zly v k f vp W (by
   obtain⟨a,c,e,-⟩:=h
   exact⟨a,c,e⟩)).mono ?_
  rintro e w' ⟨rfl,Q⟩
  exact⟨_,rfl,Zbq.nil _ _,(fun r hr=>by cases hr),Q⟩)
 have bd:Hid (∀ v f,(Zds v f L.tail [] 16).2.1+1<=L.length):=ZZ (fun v f=>by
  have:=Zlx v f L.tail [] 16;rw[List.length_tail] at this
  omega)
 have aW:=ZZ (fun c m W (h:RdL W m (L.take c))=>ZxN m (L.take c) W h (fun x hx=>(aF x (List.mem_of_mem_take hx)).1) (by have:=ZhY L c;omega))
 have be:=ZZ (fun m W (h:Rd W m (L.headD []))=>ZoC m (L.headD []) W h)
 have br:=ZZ (fun v k f a n c W=>Zsp v k f a n c W)
 have bV:(L.length:Int)<=100000:=by omega
 have bX:(0:Int)<(L.length:Int):=by omega
 unfold Zsk at l;clear ar aI aF aQ aT bg
 go_enter func166,ntmps166
 go_wp2_with fail
 refine(ak.o _).mono ?_;rintro e C ⟨m,rfl,O,A⟩;have I:=ZZ ((X1.o _).below A zL);have ap:=ZZ ((K.o _).trans (A.mono (K.o _).size));have af:=ZZ O.rd;have bv:Hid (Zlb C (w.heap.size+1) m L):=ZZ (O.mono (by simp))
 obtain⟨a1,P,rfl,-⟩:=O.rd;obtain⟨b0,o0,x0,rfl,aP,aj⟩:=af.o.at 0 (by omega)
 obtain⟨am,cm,ay,aK⟩:=ZxM C _ L L.length P rfl af.o 1 (by omega)
 have ba:=ZZ (fun q (hq:q<=L.length)=>Zvi C _ L L.length P rfl af.o q hq)
 rw[List.drop_one] at ay aK;rw[a2] at aj;have km:=aK 1 rfl;have aS:=ZZ ay;have bf:=aP C (Below.refl _ _);have aX:=ZZ (aj C (Below.refl _ _));obtain⟨a0,q0,bR,-⟩:=aj C (Below.refl _ _);subst bR;rw[Nat.add_zero] at bf;clear A ak ay aK aP aj X1 K a2 af;generalize L.tail=B at *;generalize L.headD []=H at *;generalize bn:H.length=hl at *;clear bn
 go_wp2_with fail
 refine(be.o _ _ aX.o).mono ?_;rintro e Y ⟨x,y,z,rfl,bj,ac⟩;have aw:=ZZ bj;have aJ:=ZZ (I.o.below ac zL);have aA:=ZZ (ap.o.trans (ac.mono ap.o.size));have aG:=ZZ ac;clear bj ac bf aX I be;obtain⟨d,ai⟩:∃ N,N=Y.heap.size:=⟨_,rfl⟩;obtain⟨i,ae⟩:∃ V,V=Y.alloc (.cells #[.int .i64 x,.int .i64 y,.int .i64 z] 188):=⟨_,rfl⟩;have ag:Below Y.heap.size Y i:=by rw[ae];exact(Below.refl _ _).alloc zL _
 have F:Hid (Bhd i d x y z):=ZZ (by rw[ae,ai];exact heap_alloc_new Y _)
 have S:=ZZ (aJ.o.below ag zL);have U:=ZZ (aA.o.trans (ag.mono aA.o.size));have ao:=ZZ (aG.o.trans (ag.mono aG.o.size));have bH:w.heap.size<d:=by rw[ai];exact aJ.o.lt
 go_upto_region 5 with fail
 rw[<-ae,<-ai];clear ae ai ag aJ aA aG
 cases hrd:Zcy H with
 | error ex=>
  have bz:Hid (ZdP b=(ZhD,0,false)):=ZZ (by rw[l.o,hrd])
  have hx:=ZzH hrd;have bU:(ex != 0)=true:=by rw[bne_iff_ne];exact hx
  have e9:ZBR (Except.error ex:Except Int (Nat × Nat × Nat))=ex:=rfl;obtain⟨r0,f0⟩:=S.o.cell 0;obtain⟨r1,f1⟩:=S.o.cell 1;obtain⟨r2,f2⟩:=S.o.cell 2;rw[e9];clear e9 hrd hx l aw;go_wp2;refine bodyPost_ret (v:=.tuple #[.agg #[.int .i64 0,.int .i64 0,.slice none 0 0],.int .i64 0,.bool false]) (by simp[results,Tryz.results166,go_sem,r0,r1,r2]) rfl ?_
  exact Zea.fail bz.o (ZbG U.o _ zL _ _ _)
 | ok t=>
  obtain⟨v,k,f⟩:=t;obtain⟨rfl,rfl,rfl⟩:=aw.o v k f hrd;obtain⟨-,a4,aM,bI,aY⟩:=Zfz hrd;have ad:=ZZ (a5.o v k f a4 aM aY);have bl:=bd.o v f;rw[hrd] at l;have e9:ZBR (Except.ok (v,k,f):Except Int (Nat × Nat × Nat))=0:=rfl;rw[e9];unfold Znp at ad;simp only at l;generalize Zds v f B [] 16=T at *;obtain⟨aB,E,er⟩:=T;simp only at l ad bl;obtain⟨q,hq⟩:∃ q,q=1+E:=⟨_,rfl⟩;obtain⟨a8,bb⟩:=ba.o q (by omega)
  have kf:=bb (1+(E:Int)) (by omega)
  have av:=ZZ (aW.o q);have bo:Hid (∀ W:World,Zlb W (w.heap.size+1) (.slice (some ⟨b0,o0,none⟩) L.length P) L->RdL W (.slice (some ⟨b0,o0,none⟩) q P) (L.take q)):=ZZ (fun W h=>h.rd.front q (by omega))
  have aL:=ZZ a8;have bT:(1:Int)+(E:Int)<=100000:=by omega
  have bS:IntKind.i64.wrap (1+(E:Int))=1+(E:Int):=by rw[IntKind.wrap_i64];omega
  have bW:(1:Int)+(E:Int)<=(L.length:Int):=by omega
  rw[<-hq] at l;obtain⟨SZ,aN⟩:∃ SZ,SZ=(Zaf (L.take q)).length:=⟨_,rfl⟩;rw[<-aN] at l av;generalize L.take q=PF at *;clear e9 hrd aw a5 a4 aM bI aY aW ba bd a8 bb bl hq aN;generalize (v:Int)=V at *;have G:Hid (w.heap.size<i.heap.size):=ZZ (Nat.lt_trans bH F.o.lt);have az:Hid (∀ W,Below i.heap.size i W->W.cell? ⟨d,0,none⟩=some (.int .i64 V)∧W.cell? ⟨d,1,none⟩=some (.int .i64 (k:Int))∧W.cell? ⟨d,2,none⟩=some (.int .i64 (f:Int))):=ZZ (fun W Q=>(F.o.below Q F.o.lt).cell.1)
  have an:Hid (Below i.heap.size i i.drew):=ZZ ((Below.refl _ _).drew);have aO:=ZZ (az.o _ an.o);have a7:=ZZ (aS.o.below ao.o zL)
  go_upto_region 7 with fail
  go_cut[9,10,11] (fun vl vc ve p=>∃ j nl g,vl=.slice j nl g∧vc=.int .i64 (E:Int)∧ve=.int .i64 er∧Hid (∀ r ∈ aB,Zga r)∧Hid (Zbq p i.heap.size (.slice j nl g) aB)∧Hid (Below i.heap.size i p))
  case first=>
   go_region_held2(fun W=>W.cell? ⟨d,0,none⟩=some (.int .i64 V)∧W.cell? ⟨d,1,none⟩=some (.int .i64 (k:Int))∧W.cell? ⟨d,2,none⟩=some (.int .i64 (f:Int))) (first | exact aO.o | exact bQ.o)
    (first
     | (go_at_call 204;refine(ad.o _ i.drew U.o.drew (a7.o.below an.o zL)).mono ?_;rintro e W3 ⟨v3,rfl,au,aZ,a9⟩;have ax:Hid (Zbq W3 i.heap.size v3 aB):=ZZ au;have aq:=ZZ aZ;have u:=ZZ (an.o.trans a9);have bQ:=ZZ (az.o W3 u.o);obtain⟨a3,c3,rfl⟩:=au.shape;clear a9 au aZ))
   all_goals
    go_wp2_with fail
    go_meet
    exact⟨_,_,_,rfl,rfl,rfl,aq,ax,u⟩
  case rest=>
   obtain⟨j,nl,g,rfl,rfl,rfl,aq,ax,u⟩:=hcut;have bA:=ZZ (S.o.below u.o zL);have ah:=ZZ (F.o.below u.o F.o.lt);have aR:=ZZ (U.o.trans (u.o.mono U.o.size));have aV:=ZZ (ao.o.trans (u.o.mono ao.o.size));have bh:Hid (∀ W,Below p.heap.size p W->W.cell? ⟨d,0,none⟩=some (.int .i64 V)∧W.cell? ⟨d,1,none⟩=some (.int .i64 (k:Int))∧W.cell? ⟨d,2,none⟩=some (.int .i64 (f:Int))):=ZZ (fun W Q=>(ah.o.below Q ah.o.lt).cell.1)
   have bc:Hid (Below p.heap.size p p.drew):=ZZ ((Below.refl _ _).drew);have bM:=ZZ (bh.o _ bc.o);have bJ:=ZZ (aL.o.below aV.o zL);have bp:=ZZ (bv.o.below aV.o zL);have M:d≠w.heap.size:=by omega
   clear S F U ao u az an aO a7 ad aS aL
   go_upto_region 8 with fail
   go_region_held(fun W=>W.cell? ⟨d,0,none⟩=some (.int .i64 V)∧W.cell? ⟨d,1,none⟩=some (.int .i64 (k:Int))∧W.cell? ⟨d,2,none⟩=some (.int .i64 (f:Int))) (first | exact bM.o | exact bw.o | exact bB.o | exact bq.o | exact bL.o | exact bK.o)
    (first
     | (go_at_call 205;refine(br.o _ _ _ _ _ _ p.drew).mono ?_;rintro e W4 ⟨rfl,aU⟩;have D:=ZZ (bc.o.trans aU);have bw:=ZZ (bh.o W4 D.o);have R:=ZZ (bA.o.below D.o zL);have Z:=ZZ (ah.o.below D.o ah.o.lt);have aH:=ZZ (aR.o.trans (D.o.mono aR.o.size));have bi:=ZZ (ax.o.below D.o zL);have bt:=ZZ (bJ.o.below D.o zL);obtain⟨r0,f0⟩:=R.o.cell 0;obtain⟨r1,f1⟩:=R.o.cell 1;obtain⟨r2,f2⟩:=R.o.cell 2;have aD:=ZZ (((Z.o.other M 0 (.int .i64 (k:Int))).other M 1 (.int .i64 (f:Int))).other M 2 (.slice j nl g));have bB:=ZZ aD.o.cell.1;have bO:=ZZ (bp.o.below D.o zL);have bC:Hid (RdL ((((W4.setCell ⟨w.heap.size,0,none⟩ (.int .i64 (k:Int))).setCell ⟨w.heap.size,1,none⟩ (.int .i64 (f:Int))).setCell ⟨w.heap.size,2,none⟩ (.slice j nl g))) _ PF):=ZZ (bo.o _ (((bO.o.set w.heap.size 0 (Nat.lt_succ_self _) (.int .i64 (k:Int))).set w.heap.size 1 (Nat.lt_succ_self _) (.int .i64 (f:Int))).set w.heap.size 2 (Nat.lt_succ_self _) (.slice j nl g)));have bP:=ZZ (R.o.set3 (.int .i64 (k:Int)) (.int .i64 (f:Int)) (.slice j nl g));have bF:=ZZ (((bi.o.set w.heap.size 0 G.o (.int .i64 (k:Int))).set w.heap.size 1 G.o (.int .i64 (f:Int))).set w.heap.size 2 G.o (.slice j nl g));have a6:=ZZ (ZbG aH.o w.heap.size zL (.int .i64 (k:Int)) (.int .i64 (f:Int)) (.slice j nl g));clear aU)
     | (go_at_call 206;refine(av.o _ W4 bt.o).mono ?_;rintro e W5 ⟨rfl,J⟩;have bq:=ZZ (Z.o.below J Z.o.lt).cell.1;have aE:=ZZ (R.o.below J zL);have bN:=ZZ (aH.o.trans (J.mono aH.o.size));have bE:=ZZ (bi.o.below J zL);obtain⟨s0,g0⟩:=aE.o.cell 0;obtain⟨s1,g1⟩:=aE.o.cell 1;obtain⟨s2,g2⟩:=aE.o.cell 2;have bK:=ZZ ((((Z.o.below J Z.o.lt).other M 0 (.int .i64 (k:Int))).other M 1 (.int .i64 (f:Int))).other M 2 (.slice j nl g)).cell.1;clear J)
     | (go_at_call 206;refine(av.o _ (((W4.setCell ⟨w.heap.size,0,none⟩ (.int .i64 (k:Int))).setCell ⟨w.heap.size,1,none⟩ (.int .i64 (f:Int))).setCell ⟨w.heap.size,2,none⟩ (.slice j nl g)) bC.o).mono ?_;rintro e W6 ⟨rfl,aa⟩;have bL:=ZZ (aD.o.below aa aD.o.lt).cell.1;have aC:=ZZ (bP.o.below aa zL);have bx:=ZZ (bF.o.below aa zL);have bD:=ZZ (a6.o.trans (aa.mono a6.o.size));obtain⟨s0,g0⟩:=aC.o.cell 0;obtain⟨s1,g1⟩:=aC.o.cell 1;obtain⟨s2,g2⟩:=aC.o.cell 2;clear aa))
   all_goals
    go_wp2;refine bodyPost_ret (v:=.tuple #[.agg #[.int .i64 (k:Int),.int .i64 (f:Int),.slice j nl g],.int .i64 (SZ:Int),.bool true]) (by simp[results,Tryz.results166,go_sem,s0,s1,s2]) rfl ?_
    refine⟨.slice j nl g,by rw[l.o],?_,?_⟩
    ·rw[l.o]
     first
     | exact bx.o.rd aq.o
     | exact Zbq.rd (((bE.o.set w.heap.size 0 G.o _).set w.heap.size 1 G.o _).set w.heap.size 2 G.o _) aq.o
    ·first
     | exact bD.o
     | exact ZbG bN.o w.heap.size zL _ _ _
theorem ZbP {P:Program} {ι:Type} (W:ι->World) (b:ι) {id:Nat} {Q:Exit->Act->World->Prop} {a:Act} {w:World} {l:List Oper} (e:P.follows .mixedOrders=true) (c:Region.lexB .any l.toArray=true) (d:W b=w.drew)
 (h:wpQuiet P l.toArray (fun w'=>∃ n,w'=W n) (fun a'=>∀ w',(∃ n,w'=W n)->Q .normal a' w') l a):(Code.region id l.toArray true).wp P Q a w:=
 wp_region_quiet (C:=fun w'=>∃ n,w'=W n) e c ⟨b,d.symm⟩ (by simpa using h)
theorem Zqq (B:Nat) (w:World):∃ (ι:Type) (_:Nonempty ι) (W:ι->World),(∀ i,Below B w (W i))∧∀ w',Below B w w'->∃ i,w'=W i:=
 ⟨{ w' // Below B w w' },⟨⟨w,Below.refl _ _⟩⟩,Subtype.val,fun i=>i.2,fun w' h=>⟨⟨w',h⟩,rfl⟩⟩
theorem ZeP (v:Value) (l:List Rec) (w:World) (B:RdR w v l):
 Calls prog 48 #[v] w fun e w'=>e=.returned (.bool (decide (ZbE l)))∧Below w.heap.size w w':=by
 have HR:=ZZ B;obtain⟨ao,cap,rfl,ax,ai,-,-,ag⟩:=B;have aA:(l.length:Int)<=9223372036854775807:=by unfold maxLen at ai;omega
 have ak:=ZZ ag;clear ag ax ai;by_cases K:1<=l.length
 case neg=>
  have X:Hid (decide (ZbE l)=false):=decide_eq_false (fun h=>K h.1)
  have am:(l.length:Int)<1:=by omega
  rw[X.o]
  go_enter func48,ntmps48
  go_wp2;go_ret;exact⟨rfl,Below.refl _ _⟩
 have am:¬ (l.length:Int)<1:=by omega
 by_cases Y:l.length<=256
 case neg=>
  have X:Hid (decide (ZbE l)=false):=decide_eq_false (fun h=>Y h.2.1)
  have al:256<(l.length:Int):=by omega
  rw[X.o]
  go_enter func48,ntmps48
  go_wp2;go_ret;exact⟨rfl,Below.refl _ _⟩
 have al:¬ 256<(l.length:Int):=by omega
 have aa:=ZZ (fun h=>ZxK (l:=l) h K Y)
 have ac:=ZZ (fun(h:ZbE l) k=>h.part k)
 have av:=ZZ (fun r W=>ZkY r W)
 obtain⟨D,E⟩:∃ D,D=decide (ZbE l):=⟨_,rfl⟩;rw[<-E];have ap:Hid (Zmy l l.length->D=true):=fun h=>by rw[E];exact decide_eq_true (aa.o h)
 have ab:Hid (∀ k,¬ Zmy l k->D=false):=fun k h=>by rw[E];exact decide_eq_false (fun T=>h (ac.o T k))
 have aw:=ZZ (Zvc l);have aB:(0:Int)<(l.length:Int):=by omega
 clear E aa ac K Y
 go_enter func48,ntmps48
 go_wp2
 go_loopw[15] (fun O d=>∃ k:Nat,O=.int .i64 (k:Int)∧k<=l.length∧Hid (Zmy l k)∧Hid (Below w.heap.size w d)) (fun O _=>l.length-(intOf O).toNat)
 case atStart=>exact⟨0,rfl,Nat.zero_le _,aw,Below.refl _ _⟩
 case round=>
  obtain⟨k,rfl,hk,P,H⟩:=hrel;by_cases A:k<l.length
  case neg=>
   obtain rfl:k=l.length:=by omega
   have HT:=ZZ (ap.o P.o);go_wp2;go_ret;rw[HT.o];exact⟨rfl,H.o⟩
  rcases ak.o with h0 | ⟨c,off,rfl,hc⟩
  ·rw[h0] at A;simp at A
  have Q:=hc k A;have U:=hc 0 (by omega)
  have N:=ZZ (fun W (h:Below w.heap.size w W)=>Q.keep (h.block c Q.lt))
  have ae:=ZZ (fun W (h:Below w.heap.size w W)=>(U.keep (h.block c U.lt)).1)
  have j:=ZZ (Zvd A);have hh:l.headD Zaj=l.getD 0 Zaj:=by cases l <;> simp
  rw[hh] at j
  have ad:Hid (ZaA (l.getD k Zaj)->ZaA (l.getD 0 Zaj)):=ZZ (fun T=>by
   cases k with
   | zero=>exact T
   | succ q=>
    refine P.o.1 _ ?_
    cases l with
    | nil=>simp at A
    | cons x t=>simp)
  have aq:=N.o d H.o;obtain⟨c0,c1,c2,c3,c4,c5,c6⟩:=aq;have z:=ZZ (av.o (l.getD k Zaj));have au:∃ F,F=decide (ZaA (l.getD k Zaj)):=⟨_,rfl⟩;obtain⟨F,J⟩:=au;rw[<-J] at z;have Z:=ZZ J;unfold ZuH at z;obtain⟨r,B⟩:∃ r,r=l.getD k Zaj:=⟨_,rfl⟩;rw[<-B] at z j Z N ad c0 c1 c2 c3 c4 c5 c6;clear J hc Q B U hh;generalize (l.getD 0 Zaj)=r0 at *
  go_upto_region 6 with fail
  obtain⟨f,n⟩:∃ f,f=d.alloc (.cells (Zeo r) 62):=⟨_,rfl⟩;have ay:f.heap.size=d.heap.size+1:=by rw[n];simp
  have ah:Hid (Below w.heap.size w f):=ZZ (by rw[n];exact H.o.alloc H.o.size _)
  have ar:Hid (Br f d.heap.size (Zeo r)):=ZZ (by rw[n];exact heap_alloc_new d _)
  unfold Zeo at n;rw[<-n];clear n c0 c1 c2 c3 c4 c5 c6;obtain⟨ι,az,V,hV,R⟩:=Zqq f.heap.size f;have C:=ZZ hV;have HM:=ZZ R;obtain⟨S,L⟩:=R f.drew (Below.refl _ _).drew;have G:Hid (∀ i,Below w.heap.size w (V i)):=ZZ (fun i=>ah.o.trans ((C.o i).mono ah.o.size))
  have g:∀ i,Br (V i) d.heap.size (Zeo r):=fun i=>((C.o i).block _ (by omega)).trans ar.o
  have d0:∀ i,(V i).cell? ⟨d.heap.size,0,none⟩=some (.int .i64 r.idx):=fun i=>((g i).cell 0).1
  have d1:∀ i,(V i).cell? ⟨d.heap.size,1,none⟩=some (.int .i64 r.proc):=fun i=>((g i).cell 1).1
  have d2:∀ i,(V i).cell? ⟨d.heap.size,2,none⟩=some (.int .i64 r.seq):=fun i=>((g i).cell 2).1
  have d3:∀ i,(V i).cell? ⟨d.heap.size,3,none⟩=some (.int .i64 r.op.code):=fun i=>((g i).cell 3).1
  have d4:∀ i,(V i).cell? ⟨d.heap.size,4,none⟩=some (.int .i64 r.op.a):=fun i=>((g i).cell 4).1
  have d5:∀ i,(V i).cell? ⟨d.heap.size,5,none⟩=some (.int .i64 r.op.b):=fun i=>((g i).cell 5).1
  have d6:∀ i,(V i).cell? ⟨d.heap.size,6,none⟩=some (.int .i64 r.resp):=fun i=>((g i).cell 6).1
  have e0:∀ i,(V i).cell? ⟨c,off,none⟩=some (.int .i64 r0.idx):=fun i=>by
   have h:=ae.o (V i) (G.o i)
   rwa [Nat.zero_mul,Nat.add_zero] at h
  have M:Hid (∀ i,Calls prog 41 #[.agg #[.int .i64 r.idx,.int .i64 r.proc,.int .i64 r.seq,.int .i64 r.op.code,.int .i64 r.op.a,.int .i64 r.op.b,.int .i64 r.resp]] (V i) fun e w'=>e=.returned (.bool F)∧∃ m,w'=V m):=ZZ (fun i=>(z.o (V i)).mono fun e w' h=>⟨h.1,HM.o w' ((C.o i).trans (h.2.mono (C.o i).size))⟩)
  clear hV R g z ae N
  cases F with
  | false=>
   have I:=ZZ (ab.o (k+1) (fun h=>of_decide_eq_false Z.o.symm (j.o.1 h).2.1))
   refine ZbP V S (by kernel_rfl) (by kernel_rfl) L.symm ?_
   repeat (go_big_quiet_step ((go_at_call 41;exact M.o _)))
   refine wpQuiet_nil ?_;intro _ u;obtain⟨nq,y⟩:=u;subst y;go_wp2;go_ret;rw[I.o];exact⟨rfl,G.o _⟩
  | true=>
   have af:=ZZ (of_decide_eq_true Z.o.symm);obtain⟨-,i1,i2,-⟩:=ad.o af.o;by_cases p:r.idx=r0.idx+k
   ·have aj:(r.idx != r0.idx+k)=false:=by rw[bne_eq_false_iff_eq];exact p
    have an:=ZZ (j.o.2 ⟨P.o,af.o,p⟩);clear j p;refine ZbP V S (by kernel_rfl) (by kernel_rfl) L.symm ?_
    repeat (go_big_quiet_step ((go_at_call 41;exact M.o _)))
    refine wpQuiet_nil ?_;intro _ u;obtain⟨nq,y⟩:=u;subst y;go_wp2;go_roundw
    case rel=>exact⟨k+1,by go_num,by omega,an,G.o _⟩
    case measure=>simp[intOf];omega
   ·have aj:(r.idx != r0.idx+k)=true:=by rw[bne_iff_ne];exact p
    have I:=ZZ (ab.o (k+1) (fun h=>p (j.o.1 h).2.2))
    clear j p;refine ZbP V S (by kernel_rfl) (by kernel_rfl) L.symm ?_
    repeat (go_big_quiet_step ((go_at_call 41;exact M.o _)))
    refine wpQuiet_nil ?_;intro _ u;obtain⟨nq,y⟩:=u;subst y;go_wp2;go_ret;rw[I.o];exact⟨rfl,G.o _⟩
def ZCt (w:World) (l:List UInt8) (o:Opn) (e:Ending) (w':World):Prop:=
 ∃ v',e=.returned (.tuple #[v',.int .i64 (if Zdy o then 0 else 1)])∧Own w' w.heap.size v' (if Zdy o then l++ZaX o else l)∧Below w.heap.size w w'
theorem ZxO (v:Value) (l:List UInt8) (o:Opn) (w:World) (K:Rd w v l) (av:l.length<=90000):
 Calls prog 185 #[v,opV o] w fun e w'=>ZCt w l o e w':=by
 obtain⟨m,k,rfl,ar⟩:∃ m k,v=.slice m l.length k∧Rd w (.slice m l.length k) l:=by
  have h:=K;obtain⟨m,k,rfl,_⟩:=K;exact⟨m,k,rfl,h⟩
 have Z:=ZZ K;clear ar;have V:=ZZ (fun w=>Zom o w)
 have H:Hid (∀ X,Below w.heap.size w (w.alloc X)):=fun X=>(Below.refl _ _).alloc zL X
 obtain⟨d,a,b⟩:=o;clear K;show Calls prog _ #[_,.agg #[.int .i64 d,.int .i64 a,.int .i64 b]] w _;have T:Hid (∀ W,Calls prog 80 #[.agg #[.int .i64 d,.int .i64 a,.int .i64 b]] W fun e w'=>e=.returned (.bool (decide (Zdy ⟨d,a,b⟩)))∧Below W.heap.size W w'):=V.o
 clear V;unfold ZCt;by_cases f:Zdy ⟨d,a,b⟩
 ·simp only [if_pos f]
  have M:=ZZ (decide_eq_true f);have D:Hid (I64 a):=(ZdK f).1;have F:Hid (I64 b):=(ZdK f).2;have Y:0<=d:=f.1;have ah:d<=10:=f.2.1;have aq:=ZdD (n:=d.toNat) (by omega)
  have ad:=ZyG D.o;have aj:=ZyG F.o
  have HP:Hid (∀ W,Calls prog 132 #[.slice none 0 0,.int .i64 d] W fun e w'=>∃ v',e=.returned v'∧Own w' W.heap.size v' (c.uvarint d.toNat)∧Below W.heap.size W w'):=fun W=>by
   have h:=ZeN (.slice none 0 0) [] d W (Rd.nil W) (by simp)
   rw[Zcg Y (by omega),nil_append] at h
   exact h
  have HA:Hid (∀ W,Calls prog 142 #[.slice none 0 0,.int .i64 a] W fun e w'=>∃ v',e=.returned v'∧Own w' W.heap.size v' (c.uvarint (c.zigzag a))∧Below W.heap.size W w'):=fun W=>by
   have h:=Zck (.slice none 0 0) [] a W (Rd.nil W) (by simp) D.o.1 D.o.2
   rw[nil_append] at h;exact h
  have HB:Hid (∀ W,Calls prog 142 #[.slice none 0 0,.int .i64 b] W fun e w'=>∃ v',e=.returned v'∧Own w' W.heap.size v' (c.uvarint (c.zigzag b))∧Below W.heap.size W w'):=fun W=>by
   have h:=Zck (.slice none 0 0) [] b W (Rd.nil W) (by simp) F.o.1 F.o.2
   rw[nil_append] at h;exact h
  have HE:Hid (ZaX ⟨d,a,b⟩=c.uvarint d.toNat++(c.uvarint (c.zigzag a)++c.uvarint (c.zigzag b))):=rfl;rw[HE.o];have am:Hid (∀ W N J C B p,N=W.heap.size->Rd W J l->Rd W C (c.uvarint d.toNat)->Rd W B (c.uvarint (c.zigzag a))->Rd W p (c.uvarint (c.zigzag b))->Calls prog 131 #[.slice (some ⟨N,0,none⟩) 4 4] (W.alloc (.cells #[J,C,B,p] 53)) fun e w'=>∃ v',e=.returned v'∧Own w' W.heap.size v' (l++(c.uvarint d.toNat++(c.uvarint (c.zigzag a)++c.uvarint (c.zigzag b))))∧Below W.heap.size W w'):=fun W N J C B p hN h0 h1 h2 h3=>Zxv W N hN J C B p _ _ _ _ h0 h1 h2 h3 (by omega)
  clear f aq ad aj HE D F Y ah;generalize c.uvarint d.toNat=A at *;generalize c.uvarint (c.zigzag a)=LA at *;generalize c.uvarint (c.zigzag b)=LB at *;generalize l++(A++(LA++LB))=LL at *
  go_enter func185,ntmps185
  go_wp2_with fail
  refine(T.o _).mono ?_;rintro e W1 ⟨rfl,L⟩;rw[M.o];have y:Bo W1 w.heap.size _:=(L.block w.heap.size (by simp)).trans (heap_alloc_new w _)
  have ae:=ZZ y;have S:=ZZ ((H.o _).trans (L.mono (H.o _).size));obtain⟨p0,-⟩:=y.cell 0;obtain⟨p1,-⟩:=y.cell 1;obtain⟨p2,-⟩:=y.cell 2;have au:=S.o.size;clear L y;go_wp2
  go_region_held(fun w'=>w'.cell? ⟨w.heap.size,0,none⟩=some (.int .i64 d)∧w'.cell? ⟨w.heap.size,1,none⟩=some (.int .i64 a)∧w'.cell? ⟨w.heap.size,2,none⟩=some (.int .i64 b)) (go_keep)
   (first
    | (go_at_call 132;refine(HP.o _).mono ?_;rintro e W2 ⟨B,rfl,O,j⟩;have x:=ae.o.below (((Below.refl _ _).drew).trans j) zL;have an:=ZZ x;have g:=ZZ (S.o.trans ((((Below.refl _ _).drew).trans j).mono S.o.size));obtain⟨a2,c2,rfl,-⟩:=O.rd;have aa:=ZZ O.rd;obtain⟨q0,-⟩:=x.cell 0;obtain⟨q1,-⟩:=x.cell 1;obtain⟨q2,-⟩:=x.cell 2;clear O j x)
    | (go_at_call_of 142 (Value.int .i64 a);refine(HA.o _).mono ?_;rintro e W3 ⟨p,rfl,q,i⟩;have u:=an.o.below i zL;have ag:=ZZ u;have I:=ZZ (g.o.trans (i.mono g.o.size));have ap:=ZZ (aa.o.below i zL);obtain⟨a3,c3,rfl,-⟩:=q.rd;have P:=ZZ q.rd;obtain⟨r0,-⟩:=u.cell 0;obtain⟨r1,-⟩:=u.cell 1;obtain⟨r2,-⟩:=u.cell 2;clear q i u)
    | (go_at_call_of 142 (Value.int .i64 b);refine(HB.o _).mono ?_;rintro e W4 ⟨v4,rfl,R,t⟩;have z:=ag.o.below t zL;have af:=ZZ z;have E:=ZZ (I.o.trans (t.mono I.o.size));have ab:=ZZ (ap.o.below t zL);have ao:=ZZ (P.o.below t zL);obtain⟨a4,c4,rfl,-⟩:=R.rd;have ak:=ZZ R.rd;obtain⟨s0,-⟩:=z.cell 0;obtain⟨s1,-⟩:=z.cell 1;obtain⟨s2,-⟩:=z.cell 2;clear R t z)
    | (go_at_call 131;refine(am.o W4 W4.heap.size _ _ _ _ rfl (Z.o.below E.o zL) ab.o ao.o ak.o).mono ?_;rintro e W5 ⟨v5,rfl,U,Q⟩;have G:=af.o.below Q zL;have al:=ZZ (E.o.trans (Q.mono E.o.size));have ai:=ZZ (U.mono E.o.size);obtain⟨t0,-⟩:=G.cell 0;obtain⟨t1,-⟩:=G.cell 1;obtain⟨t2,-⟩:=G.cell 2;clear U Q G))
  all_goals
   go_wp2;go_ret2;exact⟨_,rfl,ai.o,al.o⟩
 ·simp only [if_neg f]
  have M:=ZZ (decide_eq_false f);have ac:=ZZ (fun W h=>ZuV (.slice m l.length k) l W h (by omega))
  clear f
  go_enter func185,ntmps185
  go_wp2_with fail
  refine(T.o _).mono ?_;rintro e W2 ⟨rfl,j⟩;rw[M.o];have g:=ZZ ((H.o _).trans (j.mono (H.o _).size));clear j
  go_wp2_with fail
  refine(ac.o _ (Z.o.below g.o zL)).mono ?_;rintro e W3 ⟨p,rfl,q,i⟩;have P:=ZZ (q.mono g.o.size);have I:=ZZ (g.o.trans (i.mono g.o.size));clear q i;go_wp2;go_ret2;exact⟨_,rfl,P.o,I.o⟩
open Go.RowKit Go.Maps
theorem ZxP:Keyed prog 3:=int_keyed underlying3
theorem ZAY (w:World):(zeroValue 3).run prog w=.ok (.int .i64 0) w:=by kernel_rfl
theorem ZCu {n:Int} (h:I64 n):(Lit.int .i64 n).wf=true:=WalkArith.wf_i64 (by obtain⟨a,b⟩:=h;omega)
def ZiS (w:World) (b n:Nat) (f:Int->Int):Prop:=
 ∃ D:DataW Unit,w.ownsMap prog 3 (plainElem prog 3) b n D∧IsMap D∧∀ p,I64 p->D.atKey (.int .i64 p) (.lit (.int .i64 0))=.lit (.int .i64 (f p))
theorem ZiS.made (w:World):ZiS (w.alloc (.map #[] 0)) w.heap.size 0 (fun _=>0):=
 ⟨.map [],World.ownsMap_made _ _ _ _,isMap_empty,fun _ _=>rfl⟩
theorem ZiS.lt {w:World} {b n:Nat} {f:Int->Int} (h:ZiS w b n f):b<w.heap.size:=by
 obtain⟨D,a,_⟩:=h;exact a.lt
theorem ZiS.keep {w w':World} {b n:Nat} {f:Int->Int} (h:ZiS w b n f) (c:w'.heap[b]?=w.heap[b]?):ZiS w' b n f:=by
 obtain⟨D,⟨g,d,e,r⟩,a⟩:=h;exact⟨D,⟨g,d,c.trans e,r⟩,a⟩
theorem ZiS.below {w w':World} {b n B:Nat} {f:Int->Int} (h:ZiS w b n f) (a:Below B w w') (c:w.heap.size<=B):ZiS w' b n f:=
 h.keep (a.block b (by have:=h.lt;omega))
theorem ZiS.apart {w:World} {b n:Nat} {f:Int->Int} (h:ZiS w b n f) {cs:Array Value} {t:TypeId} {z:Nat × Nat} {g:Nat} (a:w.heap[g]?=some (.cells cs t z)):g≠b:=by
 obtain⟨D,⟨i,d,c,_⟩,_⟩:=h;intro e;rw[e,c] at a
 cases a
theorem ZiS.look {w:World} {b n:Nat} {f:Int->Int} (h:ZiS w b n f) {p:Int} (d:I64 p):(Instr.lookup 183 (.map (some b)) (.int .i64 p) false).run prog w=.ok (.int .i64 (f p)) w:=by
 obtain⟨D,i,_,g⟩:=h;obtain⟨c,j,a,_⟩:=i.lookup_int ZxP underlying183 underlying3 (ZAY _) (keyOf_int_mk underlying3 (ZCu d));rw[g p d] at a;have e:f p=c:=by simpa using a
 rw[j,e]
def ZBu (f:Int->Int) (p x:Int):Int->Int:=fun q=>if p=q then x else f q
theorem ZiS.put {w:World} {b n:Nat} {f:Int->Int} (h:ZiS w b n f) {p x:Int} (k:I64 p) (d:I64 x) (t:n<=1000000000000):
 ∃ w',(Instr.mapUpdate 183 (.map (some b)) (.int .i64 p) (.int .i64 x)).run prog w=.ok () w'∧ZiS w' b (n+1) (ZBu f p x)∧w.grownBy w' (some b):=by
 obtain⟨D,c,a,j⟩:=h;obtain⟨w',i,g,l⟩:=c.update ZxP underlying183 (by unfold maxLen;omega) (keyOf_int_mk underlying3 (ZCu k)) (plainElem_int underlying3 (ZCu d))
 refine⟨w',i,⟨_,g,a.put _ _,fun q m=>?_⟩,l⟩
 unfold ZBu;by_cases e:p=q
 ·rw[if_pos e,<-e,atKey_put_same a (by first | exact trivial | simp[WideAt.IsKeyLit])]
 ·rw[if_neg e,atKey_put_other (by intro h;injection h with _ h;exact e h.symm),j q m]
theorem ZiS.own {w:World} {b n:Nat} {f:Int->Int} (h:ZiS w b n f) {B:Nat} {v:Value} {l:List UInt8} (d:Own w B v l):v.ownBlock=none∨v.ownBlock≠some b:=by
 rcases d.2 with ⟨a,_⟩ | ⟨g,cap,cur,a,_,c,_⟩
 ·exact .inl (by rw[a];rfl)
 ·right
  rw[a];have i:=h.apart c;intro e;exact i (by simpa[Value.ownBlock] using e)
theorem ZAZ (W:World) (N:Nat) (m:N=W.heap.size) (d c:Value) (b a:List UInt8) (i:Rd W d b) (h:Rd W c a) (p:b.length+a.length<=1000000):
 Calls prog 131 #[.slice (some ⟨N,0,none⟩) 2 2] (W.alloc (.cells #[d,c] 53)) fun e w'=>∃ v',e=.returned v'∧Own w' W.heap.size v' (b++a)∧Below W.heap.size W w':=by
 have n:=RdL.built W N m #[d,c] [b,a] (by simp) (fun j k=>by
  match j,k with
  | 0,_=>exact⟨d,rfl,i⟩
  | 1,_=>exact⟨c,rfl,h⟩)
 have f:[b,a].flatten=b++a:=by simp
 refine(Zgv _ _ _ n (by rw[f];simp only [length_append];omega) (by simp)).mono ?_
 rintro e w' ⟨v',rfl,g,l⟩;rw[f] at g;exact⟨v',rfl,g.mono (by simp),((Below.refl _ _).alloc zL _).trans (l.mono (by simp))⟩
theorem Zlz (r:Rec) (d:Int) (w:World) (m:ZaA r) (q:I64 d):
 Calls prog 133 #[ZuH r,.int .i64 d] w fun e w'=>∃ v',e=.returned v'∧Own w' w.heap.size v' (c.uvarint r.proc.toNat++(c.uvarint (c.zigzag d)++(ZaX r.op++c.uvarint (c.zigzag r.resp))))∧Below w.heap.size w w':=by
 have O:Hid (∀ X,Below w.heap.size w (w.alloc X)):=fun X=>(Below.refl _ _).alloc zL X
 have X1:Hid (∀ cs,Br (w.alloc (.cells cs 62)) w.heap.size cs):=fun cs=>heap_alloc_new w _
 have i:=ZZ (fun W=>ZxO (.slice none 0 0) [] r.op W (Rd.nil W) (by simp))
 unfold ZCt at i;rw[if_pos m.1,if_pos m.1,nil_append] at i;have x:=ZZ (ZdY m);have ak:=Zjq m.1;obtain⟨_,_,_,_,_,P,ag,_⟩:=m;have au:=ZdD (n:=r.proc.toNat) (by omega)
 have aa:=ZyG q;have Y:=ZyG x.o
 have HP:Hid (∀ W,Calls prog 132 #[.slice none 0 0,.int .i64 r.proc] W fun e w'=>∃ v',e=.returned v'∧Own w' W.heap.size v' (c.uvarint r.proc.toNat)∧Below W.heap.size W w'):=fun W=>by
  have h:=ZeN (.slice none 0 0) [] r.proc W (Rd.nil W) (by simp)
  rw[Zcg P (by omega),nil_append] at h
  exact h
 have Z:Hid (∀ W,Calls prog 142 #[.slice none 0 0,.int .i64 d] W fun e w'=>∃ v',e=.returned v'∧Own w' W.heap.size v' (c.uvarint (c.zigzag d))∧Below W.heap.size W w'):=fun W=>by
  have h:=Zck (.slice none 0 0) [] d W (Rd.nil W) (by simp) q.1 q.2
  rw[nil_append] at h;exact h
 have HB:Hid (∀ W,Calls prog 142 #[.slice none 0 0,.int .i64 r.resp] W fun e w'=>∃ v',e=.returned v'∧Own w' W.heap.size v' (c.uvarint (c.zigzag r.resp))∧Below W.heap.size W w'):=fun W=>by
  have h:=Zck (.slice none 0 0) [] r.resp W (Rd.nil W) (by simp) x.o.1 x.o.2
  rw[nil_append] at h;exact h
 have ao:Hid (∀ W N z g l k,N=W.heap.size->Rd W z (c.uvarint r.proc.toNat)->Rd W g (c.uvarint (c.zigzag d))->Rd W l (ZaX r.op)->Rd W k (c.uvarint (c.zigzag r.resp))->Calls prog 131 #[.slice (some ⟨N,0,none⟩) 4 4] (W.alloc (.cells #[z,g,l,k] 53)) fun e w'=>∃ v',e=.returned v'∧Own w' W.heap.size v' (c.uvarint r.proc.toNat++(c.uvarint (c.zigzag d)++(ZaX r.op++c.uvarint (c.zigzag r.resp))))∧Below W.heap.size W w'):=fun W N z g l k hN U h1 h2 h3=>Zxv W N hN z g l k _ _ _ _ U h1 h2 h3 (by omega)
 clear au aa ak Y x P ag q;unfold opV at i;obtain⟨idx,proc,seq,⟨M,a,b⟩,resp⟩:=r;show Calls prog _ #[.agg #[.int .i64 idx,.int .i64 proc,.int .i64 seq,.int .i64 M,.int .i64 a,.int .i64 b,.int .i64 resp],.int .i64 d] w _
 dsimp only at *
 generalize c.uvarint proc.toNat=A at *;generalize c.uvarint (c.zigzag d)=LA at *;generalize c.uvarint (c.zigzag resp)=LB at *;generalize ZaX ⟨M,a,b⟩=LO at *;generalize A++(LA++(LO++LB))=LL at *
 go_enter func133,ntmps133
 go_wp2_with fail
 refine(i.o _).mono ?_;rintro e V ⟨g,rfl,C,B⟩;have v:Br V w.heap.size _:=(X1.o _).below B zL;have ab:=ZZ v;have I:=ZZ ((O.o _).trans (B.mono (O.o _).size));have ah:=ZZ C.rd;obtain⟨a1,c1,rfl,-⟩:=C.rd;obtain⟨p1,-⟩:=v.cell 1;obtain⟨p6,-⟩:=v.cell 6;have av:=I.o.size;clear B v C i;go_wp2
 go_region_held(fun w'=>w'.cell? ⟨w.heap.size,1,none⟩=some (.int .i64 proc)∧w'.cell? ⟨w.heap.size,6,none⟩=some (.int .i64 resp)) (go_keep)
  (first
   | (go_at_call 132;refine(HP.o _).mono ?_;rintro e W2 ⟨l,rfl,D,p⟩;have u:=ab.o.below (((Below.refl _ _).drew).trans p) zL;have ap:=ZZ u;have L:=ZZ (I.o.trans ((((Below.refl _ _).drew).trans p).mono I.o.size));have aj:=ZZ (ah.o.below (((Below.refl _ _).drew).trans p) zL);obtain⟨a2,c2,rfl,-⟩:=D.rd;have S:=ZZ D.rd;obtain⟨q1,-⟩:=u.cell 1;obtain⟨q6,-⟩:=u.cell 6;clear D p u)
   | (go_at_call_of 142 (Value.int .i64 d);refine(Z.o _).mono ?_;rintro e W3 ⟨k,rfl,J,j⟩;have t:=ap.o.below j zL;have ae:=ZZ t;have Q:=ZZ (L.o.trans (j.mono L.o.size));have ar:=ZZ (S.o.below j zL);have ad:=ZZ (aj.o.below j zL);obtain⟨a3,c3,rfl,-⟩:=J.rd;have af:=ZZ J.rd;obtain⟨r1,-⟩:=t.cell 1;obtain⟨r6,-⟩:=t.cell 6;clear J j t)
   | (go_at_call_of 142 (Value.int .i64 resp);refine(HB.o _).mono ?_;rintro e R ⟨v4,rfl,H,f⟩;have y:=ae.o.below f zL;have ac:=ZZ y;have E:=ZZ (Q.o.trans (f.mono Q.o.size));have T:=ZZ (ar.o.below f zL);have aq:=ZZ (af.o.below f zL);have al:=ZZ (ad.o.below f zL);obtain⟨a4,c4,rfl,-⟩:=H.rd;have am:=ZZ H.rd;obtain⟨s1,-⟩:=y.cell 1;obtain⟨s6,-⟩:=y.cell 6;clear H f y)
   | (go_at_call 131;refine(ao.o R R.heap.size _ _ _ _ rfl T.o aq.o al.o am.o).mono ?_;rintro e W5 ⟨v5,rfl,K,F⟩;have G:=ac.o.below F zL;have an:=ZZ (E.o.trans (F.mono E.o.size));have ai:=ZZ (K.mono E.o.size);obtain⟨t1,-⟩:=G.cell 1;obtain⟨t6,-⟩:=G.cell 6;clear K F G))
 all_goals
  go_wp2;go_ret;exact⟨_,rfl,ai.o,an.o⟩
theorem ZlA (l:List Rec) (r:Rec):ZBu (Zav l) r.proc r.seq=Zav (l++[r]):=by
 funext q
 unfold ZBu;rw[Zpk]
theorem Br.own {w:World} {b:Nat} {cs:Array Value} (h:Br w b cs) {B:Nat} {v:Value} {l:List UInt8} (i:Own w B v l):some b≠v.ownBlock:=by
 rcases i.2 with ⟨a,_⟩ | ⟨g,cap,cur,a,_,d,_⟩
 ·rw[a]
  intro e
  cases e
 ·rw[a]
  intro e;have f:b=g:=by simpa[Value.ownBlock] using e
  unfold Br at h;rw[f,d] at h
  have c:(5:TypeId)=62:=by
   injection h with h
   injection h
  exact absurd c (by decide)
theorem ZjI (v:Value) (l:List Rec) (w:World) (f:RdR w v l):
 Calls prog 90 #[v] w fun e w'=>Zoz w l e w':=by
 have HR:=ZZ f;have Q:=ZZ (fun W h=>ZeP v l W h)
 obtain⟨ao,cap,rfl,a7,aT,-,-,aQ⟩:=f;have bf:(l.length:Int)<=9223372036854775807:=by unfold maxLen at aT;omega
 have aW:=ZZ aQ;clear aQ a7 aT;unfold Zoz;by_cases b:ZbE l
 case neg=>
  simp only [if_neg b];rw[decide_eq_false b] at Q;clear b
  go_enter func90,ntmps90
  go_wp2_with fail
  refine(Q.o _ HR.o).mono ?_;rintro e W1 ⟨rfl,q⟩;have F:=ZZ q;clear q;go_wp2;go_ret2;exact⟨_,rfl,Own.nil _ _,F.o⟩
 simp only [if_pos b];rw[decide_eq_true b] at Q;have t:1<=l.length:=b.1;have h2:l.length<=256:=b.2.1;rcases aW.o with h0 | ⟨c,off,rfl,hc⟩
 ·rw[h0] at t;simp at t
 have aP:Hid (∀ k,k<l.length->∀ W,Below w.heap.size w W->Zmq W c (off+k*7) (l.getD k Zaj)):=ZZ (fun k p W h=>(hc k p).keep (h.block c (hc k p).lt))
 have aN:Hid (∀ k,k<l.length->ZaA (l.getD k Zaj)):=ZZ (fun k p=>b.2.2.1 _ (by simp[List.getD,p]))
 have ar:Hid (∀ k,∀ r ∈ l.take k,ZaA r):=ZZ (fun k r f=>b.2.2.1 r (List.mem_of_mem_take f))
 have hh:l.headD Zaj=l.getD 0 Zaj:=by cases l <;> simp
 obtain⟨_,i0,i1,_⟩:=aN.o 0 t
 have aD:Hid (ZdF l=(d.uvarint (l.getD 0 Zaj).idx.toNat++d.uvarint l.length)++Zbs [] (l.take l.length)):=ZZ (by
  unfold ZdF
  rw[hh,take_length,List.append_assoc])
 have aZ:=ZZ (fun k p=>Zue l k p)
 have a4:Hid (∀ k,(Zbs [] (l.take k)).length<=60*256):=ZZ (fun k=>by
  have h3:=Zql (l.take k) [] (fun r f=>by simp at f) (ar.o k)
  have h4:(l.take k).length<=l.length:=by simp;omega
  omega)
 have u1:=ZdD (n:=(l.getD 0 Zaj).idx.toNat) (by omega)
 have u2:=ZdD (n:=l.length) (by omega)
 have aF:Hid (∀ W,Calls prog 132 #[.slice none 0 0,.int .i64 (l.getD 0 Zaj).idx] W fun e w'=>∃ v',e=.returned v'∧Own w' W.heap.size v' (d.uvarint (l.getD 0 Zaj).idx.toNat)∧Below W.heap.size W w'):=fun W=>by
  have h:=ZeN (.slice none 0 0) [] (l.getD 0 Zaj).idx W (Rd.nil W) (by simp)
  rw[Zcg i0 (by omega),nil_append] at h
  exact h
 have av:Hid (∀ W,Calls prog 132 #[.slice none 0 0,.int .i64 (l.length:Int)] W fun e w'=>∃ v',e=.returned v'∧Own w' W.heap.size v' (d.uvarint l.length)∧Below W.heap.size W w'):=fun W=>by
  have h:=ZeN (.slice none 0 0) [] (l.length:Int) W (Rd.nil W) (by simp)
  rw[Zcg (by omega) (by omega),Int.toNat_natCast,nil_append] at h
  exact h
 rw[aD.o];have aB:(d.uvarint (l.getD 0 Zaj).idx.toNat++d.uvarint l.length).length<=20:=by rw[length_append];omega
 have aC:=(aP.o 0 t);have a1:=ZZ aC;have bd:=ZZ b.2.2.1;have V:Hid (∀ W N Z J,N=W.heap.size->Rd W Z (d.uvarint (l.getD 0 Zaj).idx.toNat)->Rd W J (d.uvarint l.length)->Calls prog 131 #[.slice (some ⟨N,0,none⟩) 2 2] (W.alloc (.cells #[Z,J] 53)) fun e w'=>∃ v',e=.returned v'∧Own w' W.heap.size v' (d.uvarint (l.getD 0 Zaj).idx.toNat++d.uvarint l.length)∧Below W.heap.size W w'):=fun W N Z J hN h0 t=>ZAZ W N hN Z J _ _ h0 t (by omega)
 clear b hc hh aD i0 i1 u1 u2 aC;generalize (l.getD 0 Zaj)=r0 at *;generalize d.uvarint r0.idx.toNat=A at *;obtain⟨A2,aM⟩:∃ A2,A2=d.uvarint l.length:=⟨_,rfl⟩;rw[<-aM] at av V aB ⊢;clear aM;obtain⟨H,hH⟩:∃ H,H=A++A2:=⟨_,rfl⟩;rw[<-hH] at V aB ⊢;clear hH;have bb:=@run_makeMap prog;have bk:(0:Int)<(l.length:Int):=by omega
 go_enter func90,ntmps90
 go_wp2_with fail
 refine(Q.o _ HR.o).mono ?_;rintro e W1 ⟨rfl,q⟩;have F:=ZZ q
 have a0:W1.cell? ⟨c,off,none⟩=some (.int .i64 r0.idx):=by
  have h:=(a1.o W1 q).1
  rwa [Nat.zero_mul,Nat.add_zero] at h
 clear q
 go_wp2_with fail
 refine(aF.o _).mono ?_;rintro e W2 ⟨v2,rfl,ab,az⟩;obtain⟨a2,n2,rfl,-⟩:=ab.rd;have ay:=ZZ ab.rd;have ae:=ZZ (F.o.trans (az.mono F.o.size));clear ab az a0 F
 go_wp2_with fail
 refine(av.o _).mono ?_;rintro e W3 ⟨v3,rfl,aw,al⟩;obtain⟨a3,n3,rfl,-⟩:=aw.rd;have aS:=ZZ (ay.o.below al zL);have aG:=ZZ aw.rd;have T:=ZZ (ae.o.trans (al.mono ae.o.size));clear aw al ay ae aF av
 go_wp2_with fail
 refine(V.o W3 W3.heap.size _ _ rfl aS.o aG.o).mono ?_;rintro e D ⟨v4,rfl,aO,aH⟩;have aR:=ZZ (aO.mono T.o.size);have L:=ZZ (T.o.trans (aH.mono T.o.size));clear aO aH aS aG T V;have i:Hid (Own (D.alloc (.map #[] 0)) w.heap.size v4 H):=ZZ (aR.o.below ((Below.refl _ _).alloc zL _) zL);have m:=ZZ (ZiS.made D);have x:Hid (Below w.heap.size w (D.alloc (.map #[] 0))):=ZZ (L.o.alloc L.o.size _);have HN:=ZZ L.o.size;go_wp2
 go_loopw[4,24] (fun vo vi a=>∃ k:Nat,vi=.int .i64 (k:Int)∧k<=l.length∧Hid (Own a w.heap.size vo (H++Zbs [] (l.take k)))∧Hid (ZiS a D.heap.size k (Zav (l.take k)))∧Hid (Below w.heap.size w a)) (fun _ vi _=>l.length-(intOf vi).toNat)
 case atStart=>exact⟨0,rfl,Nat.zero_le _,by simpa[Zbs] using i,m,x⟩
 case round=>
  clear i x m aR L;obtain⟨k,rfl,p,z,hM,G⟩:=hrel;by_cases S:k<l.length
  case neg=>
   have aU:l.take k=l.take l.length:=by rw[take_length,List.take_of_length_le (by omega)]
   rw[aU] at z;clear aU;go_wp2;go_ret2;exact⟨_,rfl,z.o,G.o⟩
  have bc:(k:Int)<(l.length:Int):=by omega
  have B:=aN.o k S;have C:Hid (I64 ((l.getD k Zaj).seq-Zav (l.take k) (l.getD k Zaj).proc)):=ZZ (ZhC (ar.o k) B);have u:Hid (∀ W,Calls prog 133 #[ZuH (l.getD k Zaj),.int .i64 ((l.getD k Zaj).seq-Zav (l.take k) (l.getD k Zaj).proc)] W fun e w'=>∃ v',e=.returned v'∧Own w' W.heap.size v' (ZbJ (l.take k) (l.getD k Zaj))∧Below W.heap.size W w'):=ZZ (fun W=>Zlz (l.getD k Zaj) ((l.getD k Zaj).seq-Zav (l.take k) (l.getD k Zaj).proc) W B C.o)
  have an:Hid (I64 (l.getD k Zaj).proc):=ZZ (by obtain⟨_,_,_,_,_,bh,be,_⟩:=B;exact⟨by omega,by omega⟩)
  have aI:Hid (I64 (l.getD k Zaj).seq):=ZZ (by obtain⟨_,_,_,bj,ba,_⟩:=B;exact⟨by omega,by omega⟩)
  have P:=ZZ (Znm (ar.o k) B);have aq:=ZZ (aP.o k S);have aY:=a4.o k;have af:Hid ((H++Zbs [] (l.take k)).length<=20000):=ZZ (by rw[length_append];omega)
  have O:Hid (H++Zbs [] (l.take (k+1))=(H++Zbs [] (l.take k))++ZbJ (l.take k) (l.getD k Zaj)):=ZZ (by
   rw[aZ.o k S,List.append_assoc])
  have aK:Hid (ZBu (Zav (l.take k)) (l.getD k Zaj).proc (l.getD k Zaj).seq=Zav (l.take (k+1))):=ZZ (by
   rw[ZlA,ZiP S])
  clear aY B;obtain⟨r,f⟩:∃ r,r=l.getD k Zaj:=⟨_,rfl⟩;rw[<-f] at C u an aI P aq O aK;unfold ZuH at u;clear f;have ah:Hid (∀ X,(Instr.lookup 183 (.map (some D.heap.size)) (.int .i64 r.proc) false).run prog (a.alloc X)=.ok (.int .i64 (Zav (l.take k) r.proc)) (a.alloc X)):=ZZ (fun X=>(hM.o.below ((Below.refl _ _).alloc zL X) zL).look an.o)
  obtain⟨I,aE⟩:∃ I,I=Zav (l.take k) r.proc:=⟨_,rfl⟩;rw[<-aE] at C u ah;clear aE;obtain⟨E,hE⟩:∃ E,E=ZbJ (l.take k) r:=⟨_,rfl⟩;rw[<-hE] at u P O;clear hE;obtain⟨K,aL⟩:∃ K,K=H++Zbs [] (l.take k):=⟨_,rfl⟩;rw[<-aL] at z af O;clear aL;have L0:=af.o;have L1:=P.o;have bg:IntKind.i64.wrap (r.seq-I)=r.seq-I:=Zri C.o;have aX:=ah.o;obtain⟨c0,c1,c2,c3,c4,c5,c6⟩:=aq.o a G.o
  obtain⟨R,oc,rfl⟩:∃ R oc,u4=.slice R K.length oc:=by
   obtain⟨R,oc,h,-⟩:=z.o.rd;exact⟨R,oc,h⟩
  have aJ:Hid (∀ cs,Br (a.alloc (.cells cs 62)) a.heap.size cs):=fun cs=>heap_alloc_new a _
  have aj:Hid (∀ X,Below a.heap.size a (a.alloc X)):=fun X=>(Below.refl _ _).alloc zL X
  clear ah C af P
  go_wp2_with fail
  refine(u.o _).mono ?_;rintro e W5 ⟨v5,rfl,ad,ai⟩;obtain⟨a5,n5,rfl,-⟩:=ad.rd;have Y:Below a.heap.size a W5:=(aj.o _).trans (ai.mono (aj.o _).size);have aA:=ZZ ad.rd;have i:=ZZ (z.o.below Y zL);have m:=ZZ (hM.o.below Y zL);have M:Hid (Br W5 a.heap.size _):=ZZ ((aJ.o _).below ai zL);have x:=ZZ (G.o.trans (Y.mono G.o.size));have au:=ZZ x.o.size;clear ad ai Y z hM G aJ aj c0 c1 c2 c3 c4 c5 c6 aX u aq
  go_wp2_with(at_builtin;refine ZiO _ rfl _ _ rfl w.heap.size _ K rfl i.o _ E rfl aA.o (by omega) au.o ?_)
  intro v6 W6 ak U;rw[<-O.o] at ak;have ac:=ZZ ak;have ag:Hid (Br W6 a.heap.size _):=ZZ ((U.block _ M.o.lt (M.o.own i.o)).trans M.o)
  have ap:=ZZ (m.o.keep (U.block _ m.o.lt (by
   rcases m.o.own i.o with h | h
   ·rw[h];exact fun e=>by cases e
   ·exact fun e=>h e.symm)))
  have ax:=ZZ (x.o.grown U au.o (fun j y=>by
   rcases i.o.2 with ⟨hv,_⟩ | ⟨g,cap,cur,hv,a9,_⟩
   ·rw[hv] at y;cases y
   ·rw[hv] at y
    have e':g=j:=by simpa[Value.ownBlock] using y
    omega))
  clear ak U i M m x au aA;obtain⟨W7,bi,aa,am⟩:=ap.o.put an.o aI.o (by omega)
  rw[aK.o] at aa;have aV:=ZZ aa;have a6:Hid (Own W7 w.heap.size v6 (H++Zbs [] (l.take (k+1)))):=ZZ (World.ownsRow.kept ac.o am (ap.o.own ac.o));have a8:=ZZ (ax.o.grown am ax.o.size (fun j y=>by cases y;exact HN.o))
  obtain⟨q1,-⟩:=ag.o.cell 1;obtain⟨q2,-⟩:=ag.o.cell 2;clear aa am ap ac ax ag;go_wp2;go_roundw
  case rel=>exact⟨k+1,by go_num,by omega,a6,aV,a8⟩
  case measure=>simp[intOf];omega
theorem ZmA (v:Value) (l:List Rec) (w:World) (m:RdR w v l) (b:ZbE l) (f:(ZdF l).length<=1048576):
 Calls prog 49 #[v] w fun e w'=>∃ v',e=.returned v'∧Own w' w.heap.size v' (Zad (ZdF l))∧Below w.heap.size w w':=by
 have d:=ZZ (ZjI v l w m);unfold Zoz at d;rw[if_pos b,if_pos b] at d;have n:=ZZ (fun a W (h:Rd W a (ZdF l))=>Zgw a _ W h)
 rw[ZoA f] at n;obtain⟨ao,cap,rfl,-⟩:=m;generalize ZdF l=B at *;generalize Zad B=FB at *;clear b f
 go_enter func49,ntmps49
 go_wp2_with fail
 refine d.o.mono ?_;rintro e u ⟨a,rfl,k,j⟩;have t:=ZZ k.rd;have c:=ZZ j;clear k j
 go_wp2_with fail
 refine(n.o _ _ t.o).mono ?_;rintro e x ⟨y,rfl,i,g⟩;have p:=ZZ (i.mono c.o.size);have q:=ZZ (c.o.trans (g.mono c.o.size));clear i g;go_wp2;go_ret;exact⟨_,rfl,p.o,q.o⟩
theorem ZoD {M I:Nat->Prop} {p pd:Nat} {L:Zhf} {s:Sto} (w:World) (h:ZeO M I w p pd L s) (q:ZrZ s) (u:0<=s.now.st.kind∧s.now.st.kind<6) (y:s.next<4611686018427387904) (G:0<=s.next):
 Calls prog 51 #[ptr p] w fun e w'=>∃ v',e=.returned v'∧Own w' w.heap.size v' (Zad (ZbC 3 s.now.st.kind.toNat s.next.toNat))∧Below w.heap.size w w':=by
 have k:=ZZ h
 have A:Hid (∀ W,Below w.heap.size w W->Calls prog 14 #[ptr p] W fun e w'=>e=.returned (.int .i64 s.next)∧Below w.heap.size w w'):=ZZ (fun W a=>(Zlk W (h.below a) q).mono (by
  rintro e w' ⟨rfl,b⟩
  exact⟨rfl,a.trans (b.mono a.size)⟩))
 have J:Hid (∀ W,Below w.heap.size w W->Calls prog 93 #[.int .i64 3,.int .i64 s.now.st.kind,.int .i64 s.next] W fun e w'=>∃ v',e=.returned (.tuple #[v',.int .i64 0])∧Own w' w.heap.size v' (Zad (ZbC 3 s.now.st.kind.toNat s.next.toNat))∧Below w.heap.size w w'):=ZZ (fun W a=>by
  have c:=Zqp 3 s.now.st.kind s.next W;have t:Zjr s.now.st.kind s.next:=⟨u.1,u.2,G,y⟩;have F:Zch 3 s.now.st.kind s.next=0:=by unfold Zch;rw[if_pos (by decide),if_pos t]
  have B:ZjH 3 s.now.st.kind s.next=Zad (ZbC 3 s.now.st.kind.toNat s.next.toNat):=by unfold ZjH;rw[if_pos (by decide),if_pos t];rfl
  unfold ZtA at c;rw[F,B] at c;refine c.mono ?_;rintro e w' ⟨v',rfl,z,b⟩
  exact⟨v',rfl,z.mono a.size,a.trans (b.mono a.size)⟩)
 have d:Hid (∀ W,Below w.heap.size w W->W.cell? ⟨p,6,none⟩=some (.int .i64 s.now.st.kind)):=ZZ (fun W a=>by
  obtain⟨-,-,-,-,-,⟨-,C,-⟩,-⟩:=(k.o.below a).cs
  exact C)
 have j:Hid (Below w.heap.size w w.drew):=ZZ (Below.refl _ _).drew;generalize Zad (ZbC 3 s.now.st.kind.toNat s.next.toNat)=FB at *;generalize s.now.st.kind=kd at *;generalize s.next=nx at *;clear h k q
 go_enter func51,ntmps51
 go_upto_region 1 with fail
 go_cut[3,4] (fun D E l=>E=.int .i64 0∧Hid (Own l w.heap.size D FB)∧Hid (Below w.heap.size w l))
 case first=>
  go_region_held(fun W=>W.cell? ⟨p,6,none⟩=some (.int .i64 kd))
   (first | (with_reducible exact d.o _ j.o) | (with_reducible exact d.o _ n.o) | (with_reducible exact d.o _ m.o))
   (first
    | (go_at_call 14;refine(A.o _ j.o).mono ?_;rintro e K ⟨rfl,i⟩;have n:=ZZ i;clear i)
    | (go_at_call 93;refine(J.o _ n.o).mono ?_;rintro e N ⟨O,rfl,g,f⟩;have v:=ZZ g;have m:=ZZ f;clear g f))
  all_goals
   go_wp2_with fail
   go_meet
   exact⟨rfl,v,m⟩
 case rest=>
  obtain⟨rfl,H,x⟩:=hcut;go_wp2;go_ret;exact⟨_,rfl,H.o,x.o⟩
def ZBa (t:List Ent):Prop:=Zkx t∧∀ e ∈ t,0<=e.proc∧e.proc<=64
theorem Zqr:∀ (t:List Ent) (a:Int),Zkx t->(∀ e ∈ t,a<=e.proc∧e.proc<=64)->(t.length:Int)<=max 0 (65-a)
 | [],a,_,_=>by simp only [List.length_nil];omega
 | e::t,a,h,hb=>by
  unfold Zkx at h;rw[List.pairwise_cons] at h;have d:=hb e List.mem_cons_self;have c:=Zqr t (e.proc+1) h.2 (fun x b=>⟨by have:=h.1 x b;omega,(hb x (List.mem_cons_of_mem _ b)).2⟩)
  rw[List.length_cons];omega
theorem ZBa.few {t:List Ent} (h:ZBa t):t.length<=65:=by
 have:=Zqr t 0 h.1 h.2;omega
theorem ZBa.note {t:List Ent} (h:ZBa t) {e:Ent} (b:0<=e.proc) (c:e.proc<=64):ZBa (ZfU t e):=by
 refine⟨Zky h.1,fun x a=>?_⟩
 rw[Zph] at a;rcases a with rfl | ⟨a,_⟩
 ·exact⟨b,c⟩
 ·exact h.2 x a
theorem ZhB.tabR {t:List Ent} (h:ZhB t):ZBa t:=⟨h.rises,fun e a=>by
 have:=h.mem e a;unfold Zfo at this
 omega⟩
def SnS (s:ZaW):Prop:=ZcD s.st∧ZBa s.tab
theorem SnS.next {s:ZaW} {r:Rec} (h:SnS s) (c:ZaA r):SnS (Zmm s r):=by
 refine⟨ZkC h.1 r.op,?_⟩;obtain⟨-,-,-,-,-,a,b,-⟩:=c;exact h.2.note a b
theorem SnS.take:∀ {l:List Rec} {s:ZaW},SnS s->(ZaQ s l).2=0->SnS (ZaQ s l).1
 | [],_,h,_=>h
 | r::l,s,h,h0=>by
  rw[ZaQ] at h0 ⊢;split at h0
  ·cases h0
  ·rename_i c
   rw[if_neg c];split at h0
   ·cases h0
   ·rename_i a
    rw[if_neg a]
    exact SnS.take (h.next (by
     by_cases b:ZaA r
     ·exact b
     ·exact absurd b a)) h0
structure OkS (s:Sto):Prop where
 log:OkG s.log
 nx:s.now.idx=s.next
 now:SnS s.now
 cur:s.cur≠0->s.log.pcs.length≠0
 sy:I64 s.synced
 cu:I64 s.cur
theorem OkS.num {s:Sto} (h:OkS s):ZrZ s:=⟨h.log.f0,h.log.top,h.sy,h.cu⟩
theorem OkG.recOk {b:Lgb} (h:OkG b):∀ r ∈ b.recs,Zga r:=fun r a=>ZfA (h.fits r a)
theorem SD.begin {K:Nat->Prop} {w:World} {pd p:Nat} {s:Sto} {d:Dk} {N T:Nat} (h:SD K w pd p s d N T) (f:∀ k,K k->k<w.heap.size) (name first:Int) (t:s.log.pcs.length<=1000000):
 Calls prog 53 #[.pointer (some ⟨p,1,none⟩),.int .i64 name,.int .i64 first] w fun e w'=>e=.returned (.tuple #[])∧SD K w' pd p { s with log:=s.log.start name first } d N T∧Zap (fun k=>¬ K k) w w':=by
 obtain⟨F,M,I,L,b,a,g,u,n,i,x⟩:=h;refine(Zni 76 (by decide) (by decide) p 1 _ L.rv L.pv s.log name first w a.toLog t).mono ?_
 rintro e w' ⟨q,m⟩;obtain⟨M',L',l,-,-,j,c⟩:=a.ofLog m;exact⟨q,SD.own f b g u n i x j l c (fun _ v=>.inl v)⟩
theorem SD.add {K:Nat->Prop} {w:World} {pd p:Nat} {s:Sto} {d:Dk} {N T:Nat} (h:SD K w pd p s d N T) (i:∀ k,K k->k<w.heap.size) (a:Value) (l:List Rec) (z:RdR w a l) (f:s.log.pcs.length≠0) (A:s.log.pcs.length<=1000000) (u:s.log.recs.length+l.length<=10000000) (B:∀ q ∈ s.log.pcs,0<=q.stop∧q.stop<=4611686018427387904):
 Calls prog 54 #[.pointer (some ⟨p,1,none⟩),a] w fun e w'=>e=.returned (.tuple #[])∧SD K w' pd p { s with log:=s.log.add l } d N T∧Zap (fun k=>¬ K k) w w':=by
 obtain⟨F,M,I,L,c,b,j,C,x,m,E⟩:=h;refine(Zxq 76 (by decide) (by decide) p 1 _ L.rv L.pv s.log a l w b.toLog z f A u B).mono ?_
 rintro e w' ⟨y,v⟩;obtain⟨M',L',t,-,-,n,g⟩:=b.ofLog v;exact⟨y,SD.own i c j C x m E n t g (fun _ D=>.inl D)⟩
def ZoE (w:World) (p o:Nat) (x0 x1 x2 x3 x4 x5:Value):World:=(((((w.setCell ⟨p,o,none⟩ x0).setCell ⟨p,o+1,none⟩ x1).setCell ⟨p,o+2,none⟩ x2).setCell ⟨p,o+3,none⟩ x3).setCell ⟨p,o+4,none⟩ x4).setCell ⟨p,o+5,none⟩ x5
theorem Zvl (w:World) (p o:Nat) (b e f d g c:Value) (k:Nat) (a:k≠p):(ZoE w p o b e f d g c).heap[k]?=w.heap[k]?:=by
 unfold ZoE;rw[Below.heap_setCell _ _ _ _ a,Below.heap_setCell _ _ _ _ a,Below.heap_setCell _ _ _ _ a,Below.heap_setCell _ _ _ _ a,Below.heap_setCell _ _ _ _ a,Below.heap_setCell _ _ _ _ a]
theorem Zvm (w:World) (p o:Nat) (c f g e h d:Value) (M:Nat->Prop) (a:M p):Zap M w (ZoE w p o c f g e h d):=
 ((((((Zap.refl M w).setCell (b:=p) _ (fun _=>a) _).setCell (b:=p) _ (fun _=>a) _).setCell (b:=p) _ (fun _=>a) _).setCell (b:=p) _ (fun _=>a) _).setCell (b:=p) _ (fun _=>a) _).setCell (b:=p) _ (fun _=>a) _
theorem SD.setNow {K:Nat->Prop} {w W:World} {pd p:Nat} {s:Sto} {d:Dk} {N T:Nat} {F M I:Nat->Prop} {L:Zhf} (D:∀ k,K k->k<w.heap.size) (z:Dsk F w pd d N T) (a:ZeO M I w p pd L s) (H:∀ k,F k->¬ K k) (R:∀ k,M k->¬ K k) (O:∀ k,I k->¬ K k) (J:∀ k,F k->¬ M k) (S:∀ k,F k->¬ I k)
 (i:Below w.heap.size w W) (x:ZaW × Value × Value) (B:SnR W x) (hi:ZoR (fun k=>I k∨(w.heap.size<=k∧k<W.heap.size)) x):
 SD K (ZoE W p 5 (.int .i64 x.1.idx) (.int .i64 x.1.st.kind) x.2.1 (.bool x.1.st.shut) (.int .i64 x.1.st.eng) x.2.2) pd p { s with now:=x.1 } d N T∧
  Zap (fun k=>¬ K k) w (ZoE W p 5 (.int .i64 x.1.idx) (.int .i64 x.1.st.kind) x.2.1 (.bool x.1.st.shut) (.int .i64 x.1.st.eng) x.2.2):=by
 obtain⟨f,j⟩:∃ f,f=ZoE W p 5 (.int .i64 x.1.idx) (.int .i64 x.1.st.kind) x.2.1 (.bool x.1.st.shut) (.int .i64 x.1.st.eng) x.2.2:=⟨_,rfl⟩;rw[<-j];have b:=a.below i;have hk:∀ k,k≠p->f.heap[k]?=W.heap[k]?:=fun k hk=>by rw[j];exact Zvl _ _ _ _ _ _ _ _ _ k hk
 have A:Zap M w f:=(Zap.ofBelow i).trans (G:=M) (by rw[j];exact Zvm _ _ _ _ _ _ _ _ _ M a.mh) (fun _ _ h=>h)
 have q:f.heap.size=W.heap.size:=by rw[j];unfold ZoE;simp
 have U:p<w.heap.size:=a.ltM p a.mh
 have C:Bk 76 f p (stC pd { L with nl:=x.2.1,nt:=x.2.2 } { s with now:=x.1 }):=by
  rw[j];exact(((((b.head.set 5 _).set 6 _).set 7 _).set 8 _).set 9 _).set 10 _
 have m:∀ {t:TypeId} {n sz g:Nat} {v:Value} {xs:List Value},W.ownsRow 0 t sz v n xs->v.ownBlock=some g->t≠76->g≠p:=fun P c Q=>by
  obtain⟨V,i⟩:=ZaR P c;exact i.ne b.head Q
 have u:∀ k,(I k∨(w.heap.size<=k∧k<W.heap.size))->f.heap[k]?=W.heap[k]?:=fun k E=>hk k (fun e=>by
  subst e;rcases E with h | h
  ·exact a.dis _ a.mh h
  ·omega)
 refine SD.own (I':=fun k=>I k∨(w.heap.size<=k∧k<W.heap.size)) (M':=M) (L':={ L with nl:=x.2.1,nt:=x.2.2 }) D z H R O J S A ⟨C,Zae b.recs fun g c=>hk g (m b.recs c (by decide)),Zae b.pcs fun g c=>hk g (m b.pcs c (by decide)),Zae b.bases fun g c=>hk g (m b.bases c (by decide)),b.bsEq,B.keep hi u,fun y l=>(b.base y l).keep (b.ibase y l) (fun g c=>u g (.inl c)),a.mh,a.mr,a.mp,a.mb,hi,fun y l=>(a.ibase y l).mono (fun k hk=>.inl hk),fun k hm=>?_,fun k hm=>?_,fun k hm hi=>?_⟩ (fun _ hk=>.inl hk) (fun k hk=>?_)
 ·rw[q];exact Nat.lt_of_lt_of_le (a.ltM k hm) i.size
 ·rw[q]
  rcases hm with hm | hm
  ·exact Nat.lt_of_lt_of_le (a.ltI k hm) i.size
  ·exact hm.2
 ·rcases hi with hi | hi
  ·exact a.dis k hm hi
  ·have:=a.ltM k hm
   omega
 ·rcases hk with hk | hk
  ·exact .inl hk
  ·exact .inr hk.1
theorem Zqs {l:List Rec} (h:ZbE l):(ZdF l).length<=20000:=by
 obtain⟨c,e,a,i⟩:=h;have b:=ZiR l [] (fun r b=>by cases b) a
 unfold ZdF;rw[length_append,length_append]
 have d:ZaA (l.headD Zaj):=by
  match l,c with
  | r::t,_=>exact a r List.mem_cons_self
 have g:(Lib.uvarint (l.headD Zaj).idx.toNat).length<=10:=ZdD (by have:=d.2.2.1;omega)
 have f:(Lib.uvarint l.length).length<=10:=ZdD (by omega)
 omega
theorem Zvn {s:Sto} {l:List Rec} (h:ZbE l) (c:0<=s.now.st.kind∧s.now.st.kind<6) (e:s.next<4611686018427387904):(Zew s l).length<=30000:=by
 have d:=Zqs h;have a:=Zas (ZdF l);have b:=Zas (ZbC 3 s.now.st.kind.toNat s.next.toNat);have j:=ZhV (v:=3) (k:=s.now.st.kind.toNat) (f:=s.next.toNat) (by decide) (by omega) (by omega)
 have i:(Lib.uvarint (ZdF l).length).length<=10:=ZdD (by omega)
 have g:(Lib.uvarint (ZbC 3 s.now.st.kind.toNat s.next.toNat).length).length<=10:=ZdD (by omega)
 unfold Zew;split
 ·rw[length_append]
  omega
 ·omega
theorem Zgf {d:Dk} (h:OkD d) (first:Int) (g:0<=first) (f:first<=1000):I64 (Zbf d first):=by
 have a:∀ n ∈ ZaY (Zak d) first,0<=n∧n<1048576:=fun n c=>Zej h n (List.mem_filter.1 c).1
 unfold Zbf;generalize ZaY (Zak d) first=l at a ⊢;by_cases b:l.length=0
 ·rw[List.eq_nil_of_length_eq_zero b]
  show I64 (first-2+2);exact⟨by omega,by omega⟩
 ·have e:l.getD (l.length-1) (first-2)=l[l.length-1]'(by omega):=by simp[List.getD,show l.length-1<l.length by omega]
  have:=a _ (List.getElem_mem (show l.length-1<l.length by omega))
  rw[e];exact⟨by omega,by omega⟩
theorem RdR.keepK {w w':World} {v:Value} {l:List Rec} {K:Nat->Prop} (h:RdR w v l) (hv:l=[]∨∀ k,v.ownBlock=some k->K k) (d:Zap (fun k=>¬ K k) w w'):RdR w' v l:=by
 obtain⟨ao,cap,rfl,i,e,m,f,a⟩:=h;refine⟨ao,cap,rfl,i,e,m,f,?_⟩;rcases hv with hv | hv
 ·exact .inl hv
 rcases a with a | ⟨b,off,rfl,h7⟩
 ·exact .inl a
 ·exact .inr ⟨b,off,rfl,fun j c=>(h7 j c).keep (d.block b (h7 j c).lt (fun g=>g (hv b rfl)))⟩
theorem SD.takes {K:Nat->Prop} {w:World} {pd p:Nat} {s:Sto} {d:Dk} {N T:Nat} (h:SD K w pd p s d N T) (hK:∀ k,K k->k<w.heap.size) (B:SnS s.now) (O:Value) (l:List Rec) (hr:RdR w O l) (ad:l.length<=1000000):
 ∃ i a lc n b c,(w.cell? ⟨p,5,none⟩=some (.int .i64 s.now.idx)∧w.cell? ⟨p,6,none⟩=some (.int .i64 s.now.st.kind)∧w.cell? ⟨p,7,none⟩=some (.slice i a lc)∧w.cell? ⟨p,8,none⟩=some (.bool s.now.st.shut)∧w.cell? ⟨p,9,none⟩=some (.int .i64 s.now.st.eng)∧w.cell? ⟨p,10,none⟩=some (.slice n b c))∧
  Calls prog 15 #[.agg #[.int .i64 s.now.idx,.int .i64 s.now.st.kind,.slice i a lc,.bool s.now.st.shut,.int .i64 s.now.st.eng,.slice n b c],O] w fun e w'=>
   ∃ y H t u Q v,e=.returned (.tuple #[.agg #[.int .i64 (ZaQ s.now l).1.idx,.int .i64 (ZaQ s.now l).1.st.kind,.slice y H t,.bool (ZaQ s.now l).1.st.shut,.int .i64 (ZaQ s.now l).1.st.eng,.slice u Q v],.int .i64 (ZaQ s.now l).2])∧
    (w'.cell? ⟨p,5,none⟩=some (.int .i64 s.now.idx)∧w'.cell? ⟨p,6,none⟩=some (.int .i64 s.now.st.kind)∧w'.cell? ⟨p,7,none⟩=some (.slice i a lc)∧w'.cell? ⟨p,8,none⟩=some (.bool s.now.st.shut)∧w'.cell? ⟨p,9,none⟩=some (.int .i64 s.now.st.eng)∧w'.cell? ⟨p,10,none⟩=some (.slice n b c))∧(∀ j,w'.frozen? ⟨p,j,none⟩=false)∧
    SD K (ZoE w' p 5 (.int .i64 (ZaQ s.now l).1.idx) (.int .i64 (ZaQ s.now l).1.st.kind) (.slice y H t) (.bool (ZaQ s.now l).1.st.shut) (.int .i64 (ZaQ s.now l).1.st.eng) (.slice u Q v)) pd p { s with now:=(ZaQ s.now l).1 } d N T∧
    Zap (fun k=>¬ K k) w (ZoE w' p 5 (.int .i64 (ZaQ s.now l).1.idx) (.int .i64 (ZaQ s.now l).1.st.kind) (.slice y H t) (.bool (ZaQ s.now l).1.st.shut) (.int .i64 (ZaQ s.now l).1.st.eng) (.slice u Q v)):=by
 obtain⟨F,M,I,L,h1,m,h3,h4,h5,h6,h7⟩:=h;obtain⟨i,a,lc,n,b,c,e1,e2⟩:=m.now.shape;have z:L.nl=.slice i a lc:=e1;have G:L.nt=.slice n b c:=e2
 have V:∀ W,Below w.heap.size w W->(W.cell? ⟨p,5,none⟩=some (.int .i64 s.now.idx)∧W.cell? ⟨p,6,none⟩=some (.int .i64 s.now.st.kind)∧W.cell? ⟨p,7,none⟩=some (.slice i a lc)∧W.cell? ⟨p,8,none⟩=some (.bool s.now.st.shut)∧W.cell? ⟨p,9,none⟩=some (.int .i64 s.now.st.eng)∧W.cell? ⟨p,10,none⟩=some (.slice n b c)):=fun W hW=>by
  obtain⟨-,-,-,-,-,⟨c5,c6,Z,c8,c9,X⟩,-⟩:=(m.below hW).cs;rw[z] at Z;rw[G] at X;exact⟨c5,c6,Z,c8,c9,X⟩
 refine⟨i,a,lc,n,b,c,V w (Below.refl _ _),?_⟩;have U:=m.now.snV
 have ab:snV (L.nx s)=.agg #[.int .i64 s.now.idx,.int .i64 s.now.st.kind,.slice i a lc,.bool s.now.st.shut,.int .i64 s.now.st.eng,.slice n b c]:=by
  unfold snV snC Zhf.nx
  dsimp only
  rw[z,G]
 rw[ab] at U;have hL:s.now.st.L.length<=1000:=by have:=ZrP B.1;omega
 have hT:s.now.tab.length<=1000:=by have:=B.2.few;omega
 refine(ZpU (P:=SnS) (fun S r q hf=>q.next hf) (fun S q=>by have:=q.2.few;omega) _ _ _ _ _ _ s.now O l w U hr hL hT (by omega) B).mono ?_
 rintro e w' ⟨D,J,rfl,E,r2,r3,Y,r5,g1,g2,C⟩;obtain⟨y,t,R,-⟩:=id E;obtain⟨u,v,hu⟩:=Y.shape;have q:SnR w' ((ZaQ s.now l).1,D,J):=⟨E,Y,r2,r3,r5⟩
 have aa:ZoR (fun k=>I k∨(w.heap.size<=k∧k<w'.heap.size)) ((ZaQ s.now l).1,D,J):=by
  refine⟨?_,?_⟩
  ·rcases E.block with hb0 | ⟨hne,k,hk,hlt⟩
   ·exact .inl hb0
   ·rcases g1 with g1 | g1
    ·rcases m.inow.1 with hi | hi
     ·obtain⟨a2,c2,h9,-⟩:=m.now.l
      have x:L.nl=.slice a2 s.now.st.L.length c2:=h9;have ac:s.now.st.L=[]:=hi;rw[ac] at x;rw[R] at g1;rw[z] at x
      injection g1 with _ g1 _
      injection x with _ x _
      exact .inl (List.eq_nil_of_length_eq_zero (by rw[g1,x];rfl))
     ·refine .inr fun g f=>.inl (hi g ?_)
      show L.nl.ownBlock=some g;rw[z,<-g1];exact f
    ·refine .inr fun g f=>.inr ⟨g1 g f,?_⟩
     rw[f] at hk;obtain rfl:=Option.some.inj hk;exact hlt
  ·rcases g2 with ⟨rfl,g2⟩ | g2
   ·rcases m.inow.2 with hi | hi
    ·exact .inl hi
    ·refine .inr fun g f=>.inl (hi g ?_)
     show L.nt.ownBlock=some g;rw[G,<-g2];exact f
   ·exact .inr fun g f=>.inr (World.ownsRow.lt g2 g f)
 have A:=SD.setNow hK h1 m h3 h4 h5 h6 h7 C ((ZaQ s.now l).1,D,J) q aa
 dsimp only at A
 subst R hu;exact⟨y,_,t,u,_,v,rfl,V w' C,fun j=>(m.below C).fz j,A.1,A.2⟩
end Go.Proofs.YtnahjngbneicaaaGreatDoor
