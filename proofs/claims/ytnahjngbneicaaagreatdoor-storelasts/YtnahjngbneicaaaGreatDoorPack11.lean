import Derived.Test.YtnahjngbneicaaaGreatDoorPack10
namespace Go.Proofs.YtnahjngbneicaaaGreatDoor
open _root_.Go.Proofs.Tryz
open List (length_append length_drop nil_append take_length)
set_option maxHeartbeats 8000000
set_option maxRecDepth 100000
open Go.RowKit
variable {L:List (List UInt8)} {d:Dk} {w w':World} {B N T b n p pd:Nat} {x y z:Int} {v:Value} {f:Int->Int} {I K M:Nat->Prop} {s:Sto} {t:List Ent} {l:List Rec}
theorem Zdx (v:Int) (B:Bool) (c:B=decide (1<=v∧v<=3)) (w:World):
 Calls prog 188 #[.int .i64 v] w fun e w'=>e=.returned (.bool B)∧w'=w:=by
 subst c;by_cases h:1<=v∧v<=3
 ·rw[decide_eq_true h]
  obtain⟨b,a⟩:=h
  go_enter func188,ntmps188
  go_wp2;go_ret;exact⟨rfl,rfl⟩
 ·rw[decide_eq_false h]
  by_cases b:1<=v
  ·have a:¬ v<=3:=fun a=>h ⟨b,a⟩
   clear h
   go_enter func188,ntmps188
   go_wp2;go_ret;exact⟨rfl,rfl⟩
  ·clear h
   go_enter func188,ntmps188
   go_wp2;go_ret;exact⟨rfl,rfl⟩
theorem ZnL (v k f:Int) (w:World):
 Calls prog 137 #[.agg #[.int .i64 v,.int .i64 k,.int .i64 f]] w fun e w'=>e=.returned (.int .i64 (Jj v k f))∧Below w.heap.size w w':=by
 have c:Hid (∀ X,Below w.heap.size w (w.alloc X)):=fun X=>(Below.refl _ _).alloc zL X
 by_cases a:1<=v∧v<=3
 case neg=>
  have b:=ZZ (Zdx v false (by rw[decide_eq_false a]))
  have g:Hid (Jj v k f=6):=ZZ (if_neg a);rw[g.o];clear a
  go_enter func137,ntmps137
  go_wp2_with fail
  refine(b.o _).mono ?_;rintro e d ⟨rfl,rfl⟩;go_wp2;go_ret;exact⟨rfl,c.o _⟩
 have b:=ZZ (Zdx v true (by rw[decide_eq_true a]))
 by_cases h:Zgs k f
 case neg=>
  have g:Hid (Jj v k f=1):=ZZ (by unfold Jj;rw[if_pos a,if_neg h])
  rw[g.o];clear a;by_cases y:k<0
  ·clear h
   go_enter func137,ntmps137
   go_wp2_with fail
   refine(b.o _).mono ?_;rintro e d ⟨rfl,rfl⟩;go_wp2;go_ret;exact⟨rfl,c.o _⟩
  by_cases m:6<=k
  ·clear h
   go_enter func137,ntmps137
   go_wp2_with fail
   refine(b.o _).mono ?_;rintro e d ⟨rfl,rfl⟩;go_wp2;go_ret;exact⟨rfl,c.o _⟩
  by_cases n:f<0
  ·clear h
   go_enter func137,ntmps137
   go_wp2_with fail
   refine(b.o _).mono ?_;rintro e d ⟨rfl,rfl⟩;go_wp2;go_ret;exact⟨rfl,c.o _⟩
  have i:4611686018427387904<=f:=by
   by_cases i:f<4611686018427387904
   ·exact absurd ⟨by omega,by omega,by omega,i⟩ h
   ·omega
  clear h
  go_enter func137,ntmps137
  go_wp2_with fail
  refine(b.o _).mono ?_;rintro e d ⟨rfl,rfl⟩;go_wp2;go_ret;exact⟨rfl,c.o _⟩
 have g:Hid (Jj v k f=0):=ZZ (by unfold Jj;rw[if_pos a,if_pos h])
 rw[g.o];obtain⟨z,q,t,u⟩:=h;have x:¬ k<0:=by omega
 have p:¬ 6<=k:=by omega
 have l:¬ f<0:=by omega
 have j:¬ 4611686018427387904<=f:=by omega
 clear a
 go_enter func137,ntmps137
 go_wp2_with fail
 refine(b.o _).mono ?_;rintro e d ⟨rfl,rfl⟩;go_wp2;go_ret;exact⟨rfl,c.o _⟩
theorem ZlX {k:Nat} (h:k<L.length):Qf (L.take (k+1))=Qf (L.take k)++Qd (L.getD k []):=by
 rw[ZsL h,Zax];simp[Qf]
theorem ZpQ {d:List UInt8} (h:d.length<=1048576):ZgE (d.length:Int)=(Qd d).length:=by
 unfold ZgE;rw[if_pos ⟨by omega,by omega⟩,Q9,Int.toNat_natCast]
 omega
theorem ZvB (v:Value) (L:List (List UInt8)) (w:World) (p:RdL w v L) (f:∀ x ∈ L,x.length<=1048576) (E:(Qf L).length<=10000000):
 Calls prog 206 #[v] w fun e w'=>e=.returned (.int .i64 ((Qf L).length:Nat))∧Below w.heap.size w w':=by
 have H:=ZZ p;obtain⟨ao,cap,rfl,C,q,-⟩:=p;have R:(L.length:Int)<=9223372036854775807:=by unfold maxLen at q;omega
 have F:=ZZ (fun k a=>H.o.at k a)
 obtain⟨Z,d⟩:∃ Z:Nat->Nat,Z=fun k=>(Qf (L.take k)).length:=⟨_,rfl⟩
 have A:Hid (Z 0=0):=ZZ (by rw[d];simp[Qf])
 have y:Hid (∀ k,k<L.length->Z (k+1)=Z k+ZgE ((L.getD k []).length:Int)):=ZZ (fun k a=>by
  rw[d];simp only
  rw[ZlX a,length_append,ZpQ (f _ (Zrc a))])
 have G:Hid (∀ k,Z k<=10000000):=ZZ (fun k=>by
  rw[d];have:=ZeR L k;simp only
  omega)
 have B:Hid ((Qf L).length=Z L.length):=ZZ (by rw[d];simp only;rw[take_length])
 have K:Hid (∀ k,k<L.length->∀ W,Calls prog 134 #[.int .i64 ((L.getD k []).length:Int)] W fun e w'=>e=.returned (.int .i64 (ZgE ((L.getD k []).length:Int):Nat))∧Below W.heap.size W w'):=ZZ (fun k a W=>by
  have:=f _ (Zrc a)
  exact Zra _ W (by omega) (by omega))
 rw[B.o];clear d C q f E
 go_enter func206,ntmps206
 go_wp2
 go_loopw[3,8] (fun vs g wr=>∃ k:Nat,g=.int .i64 (k:Int)∧vs=.int .i64 (Z k:Int)∧k<=L.length∧Hid (Below w.heap.size w wr)) (fun _ g _=>L.length-(intOf g).toNat)
 case atStart=>exact⟨0,rfl,by rw[A.o];rfl,Nat.zero_le _,Below.refl _ _⟩
 case round=>
  obtain⟨k,rfl,rfl,a,c⟩:=hrel;by_cases i:k<L.length
  case neg=>
   have e:k=L.length:=by omega
   subst e;go_wp2;go_ret;exact⟨rfl,c.out⟩
  obtain⟨b,P,x,rfl,l,t⟩:=F.o k i;have O:=l wr c.out;have j:=ZZ (y.o k i);have J:=ZZ (K.o k i);have I:=G.o (k+1);rw[j.o] at I;obtain⟨S,N,rfl,-⟩:=t wr c.out;obtain⟨u,h⟩:∃ u,u=Z (k+1):=⟨_,rfl⟩;rw[<-h] at j;have D:=ZZ h;generalize Z k=z at *;generalize ZgE ((L.getD k []).length:Int)=sz at *;generalize (L.getD k []).length=n at *;clear l t h
  go_wp2_with fail
  refine(J.o _).mono ?_;rintro e Q ⟨rfl,m⟩;have M:=ZZ (c.out.trans (m.mono c.out.size));clear m;go_wp2;go_roundw
  case rel=>exact⟨k+1,by go_num,by rw[<-D.o,j.o];go_num,by omega,M⟩
  case measure=>simp[intOf];omega
theorem ZpR (a b c:Int) (W:World):(Instr.index 188 (.agg #[.int .i64 a,.int .i64 b,.int .i64 c]) (.int .i64 0)).run prog W=.ok (.int .i64 a) W:=by
 simp[Instr.index,run_underlying underlying188,asIntOf,go_sem]
theorem ZpS (b a c:Int) (W:World):(Instr.index 188 (.agg #[.int .i64 b,.int .i64 a,.int .i64 c]) (.int .i64 1)).run prog W=.ok (.int .i64 a) W:=by
 simp[Instr.index,run_underlying underlying188,asIntOf,go_sem]
theorem ZpT (c b a:Int) (W:World):(Instr.index 188 (.agg #[.int .i64 c,.int .i64 b,.int .i64 a]) (.int .i64 2)).run prog W=.ok (.int .i64 a) W:=by
 simp[Instr.index,run_underlying underlying188,asIntOf,go_sem]
theorem ZnM (v k f:Int) (hv:1<=v∧v<=3) (h:Zgs k f) (w:World):
 Calls prog 138 #[.agg #[.int .i64 v,.int .i64 k,.int .i64 f]] w fun e w'=>∃ v',e=.returned v'∧Own w' w.heap.size v' (Xq v.toNat k.toNat f.toNat)∧Below w.heap.size w w':=by
 obtain⟨L,k1,P,Q⟩:=h
 have t:Hid (∀ c l n W,Rd W c l->l.length<=1000->0<=n->n<4611686018427387904->Calls prog 132 #[c,.int .i64 n] W fun e w'=>∃ v',e=.returned v'∧Own w' W.heap.size v' (l++Lib.uvarint n.toNat)∧Below W.heap.size W w'):=fun c l n W h Z S N=>by
  have h:=ZbE c l n W h (by omega)
  rw[J0 S N] at h;exact h
 have K:(Lib.uvarint v.toNat).length<=10:=Gh (by omega)
 have R:(Lib.uvarint k.toNat).length<=10:=Gh (by omega)
 have J:Hid (Xq v.toNat k.toNat f.toNat=(([108]++Lib.uvarint v.toNat)++Lib.uvarint k.toNat)++Lib.uvarint f.toNat):=ZZ (by unfold Xq;simp)
 have D:=ZZ (fun c W h=>t.o c [108] v W h (by simp) (by omega) (by omega))
 have H:=ZZ (fun c W h=>t.o c ([108]++Lib.uvarint v.toNat) k W h (by simp only [length_append,List.length_singleton];omega) L (by omega))
 have A:=ZZ (fun c W h=>t.o c (([108]++Lib.uvarint v.toNat)++Lib.uvarint k.toNat) f W h (by simp only [length_append,List.length_singleton];omega) P Q)
 rw[<-J.o] at A;clear J t;obtain⟨d,i⟩:∃ d:Nat->List UInt8,d=fun q=>if q=0 then[108] else if q=1 then[108]++Lib.uvarint v.toNat else if q=2 then[108]++Lib.uvarint v.toNat++Lib.uvarint k.toNat else Xq v.toNat k.toNat f.toNat:=⟨_,rfl⟩
 have y:[108]=d 0:=by rw[i];rfl
 have C:[108]++Lib.uvarint v.toNat=d 1:=by rw[i];rfl
 have B:[108]++Lib.uvarint v.toNat++Lib.uvarint k.toNat=d 2:=by rw[i];rfl
 have x:Xq v.toNat k.toNat f.toNat=d 3:=by rw[i];rfl
 have U:Hid (∀ W:World,Rd (W.alloc (.cells #[.int .u8 108] 5)) (.slice (some ⟨W.heap.size,0,none⟩) 1 1) (d 0)):=ZZ (fun W=>by rw[<-y];exact Rd.byte W 108)
 rw[B,x] at A;rw[B,C] at H;rw[C,y] at D;rw[x];clear y C B x i K R;have T:Hid (∀ X Y,Below w.heap.size w ((w.alloc X).alloc Y)):=fun X Y=>Below.allocs (Below.allocs (Below.refl _ _) X) Y
 go_enter func138,ntmps138
 go_wp2
 go_loopw[3,8] (fun E u wr=>∃ q:Nat,u=.int .i64 (q:Int)∧q<=3∧Hid (Rd wr E (d q))∧Hid (1<=q->Own wr w.heap.size E (d q))∧Hid (Below w.heap.size w wr)) (fun _ u _=>3-(intOf u).toNat)
 case atStart=>
  refine⟨0,rfl,Nat.zero_le _,?_,fun h=>absurd h (by decide),T.o _ _⟩
  have h:=U.o (w.alloc (.cells #[.int .i64 v,.int .i64 k,.int .i64 f] 188));have e:(w.alloc (.cells #[.int .i64 v,.int .i64 k,.int .i64 f] 188)).heap.size=w.heap.size+1:=by simp
  rw[e] at h;exact h
 case round=>
  obtain⟨q,rfl,hq,z,M,b⟩:=hrel;by_cases aa:q<3
  case neg=>
   have e:q=3:=by omega
   subst e;have V:=ZZ (M.out (by decide))
   go_wp2;go_ret;exact⟨_,rfl,V.o,b.out⟩
  have O:q=0∨q=1∨q=2:=by omega
  rcases O with rfl | rfl | rfl
  ·have F:=ZpR v k f
   go_wp2_with fail
   refine(D.o _ _ z.out).mono ?_;rintro e G ⟨I,rfl,a,g⟩;have m:=ZZ a.rd;have j:=ZZ (a.mono b.out.size);have p:=ZZ (b.out.trans (g.mono b.out.size));clear a g;go_wp2;go_roundw
   case rel=>exact⟨1,rfl,by omega,m,ZZ (fun _=>j.o),p⟩
   case measure=>simp[intOf]
  ·have F:=ZpS v k f
   go_wp2_with fail
   refine(H.o _ _ z.out).mono ?_;rintro e G ⟨I,rfl,a,g⟩;have m:=ZZ a.rd;have j:=ZZ (a.mono b.out.size);have p:=ZZ (b.out.trans (g.mono b.out.size));clear a g;go_wp2;go_roundw
   case rel=>exact⟨2,rfl,by omega,m,ZZ (fun _=>j.o),p⟩
   case measure=>simp[intOf]
  ·have F:=ZpT v k f
   go_wp2_with fail
   refine(A.o _ _ z.out).mono ?_;rintro e G ⟨I,rfl,a,g⟩;have m:=ZZ a.rd;have j:=ZZ (a.mono b.out.size);have p:=ZZ (b.out.trans (g.mono b.out.size));clear a g;go_wp2;go_roundw
   case rel=>exact⟨3,rfl,by omega,m,ZZ (fun _=>j.o),p⟩
   case measure=>simp[intOf]
theorem ZnN (v k f:Int) (w:World):
 Calls prog 93 #[.int .i64 v,.int .i64 k,.int .i64 f] w fun e w'=>Zrb w v k f e w':=by
 unfold Zrb;have n:Hid (∀ X,Below w.heap.size w (w.alloc X)):=fun X=>(Below.refl _ _).alloc zL X
 have I:Hid (∀ cs,(w.alloc (.cells cs 188)).heap[w.heap.size]?=some (.cells cs 188 (0,0))):=fun cs=>heap_alloc_new w _
 have i:=ZZ (fun W=>ZnL v k f W)
 by_cases p:(1<=v∧v<=3)∧Zgs k f
 case neg=>
  have b:Jj v k f≠0∧ZgI v k f=[]:=by
   unfold Jj ZgI;by_cases a:1<=v∧v<=3
   ·rw[if_pos a,if_pos a,if_neg (fun h=>p ⟨a,h⟩),if_neg (fun h=>p ⟨a,h⟩)]
    exact⟨by decide,rfl⟩
   ·rw[if_neg a,if_neg a]
    exact⟨by decide,rfl⟩
  obtain⟨b,g⟩:=b;rw[g];generalize Jj v k f=D at *;have O:(D != 0)=true:=by rw[bne_iff_ne];exact b
  clear p b g
  go_enter func93,ntmps93
  go_wp2_with fail
  refine(i.o _).mono ?_;rintro e j ⟨rfl,d⟩;have l:=ZZ ((n.o _).trans (d.mono (n.o _).size));clear d;go_wp2;go_ret2;exact⟨_,rfl,Own.nil _ _,l.o⟩
 obtain⟨a,c⟩:=p;have J:=ZZ (fun W=>ZnM v k f a c W)
 have b:Jj v k f=0:=by unfold Jj;rw[if_pos a,if_pos c]
 have g:ZgI v k f=Qd (Xq v.toNat k.toNat f.toNat):=by unfold ZgI;rw[if_pos a,if_pos c]
 have N:(Xq v.toNat k.toNat f.toNat).length<=40:=ZcP (by omega) (by have:=c.2.1;omega) (by have:=c.2.2.2;omega)
 have A:=ZZ (fun z W (h:Rd W z (Xq v.toNat k.toNat f.toNat))=>Zdj z _ W h)
 rw[ZlW (by omega)] at A
 rw[b] at i ⊢;rw[g];generalize Xq v.toNat k.toNat f.toNat=H at *;generalize Qd H=F at *;clear a c b g
 go_enter func93,ntmps93
 go_wp2_with fail
 refine(i.o _).mono ?_;rintro e j ⟨rfl,d⟩;have m:=ZZ ((d.block _ (by simp)).trans (I.out _))
 have l:=ZZ ((n.o _).trans (d.mono (n.o _).size));clear d i;have C:j.cell? ⟨w.heap.size,0,none⟩=some (.int .i64 v):=cell_of_row _ _ 0 _ _ _ m.o;have B:j.cell? ⟨w.heap.size,1,none⟩=some (.int .i64 k):=cell_of_row _ _ 1 _ _ _ m.o;have G:j.cell? ⟨w.heap.size,2,none⟩=some (.int .i64 f):=cell_of_row _ _ 2 _ _ _ m.o
 go_wp2_with fail
 refine(J.o _).mono ?_;rintro e Q ⟨R,rfl,x,u⟩;have K:=ZZ x.rd;have q:=ZZ (l.o.trans (u.mono l.o.size));clear x u C B G m
 go_wp2_with fail
 refine(A.o _ _ K.o).mono ?_;rintro e P ⟨M,rfl,y,t⟩;have L:=ZZ (y.mono q.o.size);have E:=ZZ (q.o.trans (t.mono q.o.size));clear y t;go_wp2;go_ret2;exact⟨_,rfl,L.o,E.o⟩
def Bhd (w:World) (b:Nat) (x y z:Int):Prop:=w.heap[b]?=some (.cells #[.int .i64 x,.int .i64 y,.int .i64 z] 188 (0,0))
theorem Bhd.lt (h:Bhd w b x y z):b<w.heap.size:=(Array.getElem?_eq_some_iff.1 h).1
theorem Bhd.below (h:Bhd w b x y z) (c:Below B w w') (a:b<B):Bhd w' b x y z:=(c.block b a).trans h
theorem Bhd.cell (h:Bhd w b x y z):(w.cell? ⟨b,0,none⟩=some (.int .i64 x)∧w.cell? ⟨b,1,none⟩=some (.int .i64 y)∧w.cell? ⟨b,2,none⟩=some (.int .i64 z))∧∀ j,w.frozen? ⟨b,j,none⟩=false:=
 ⟨⟨cell_of_row w b 0 _ _ _ h,cell_of_row w b 1 _ _ _ h,cell_of_row w b 2 _ _ _ h⟩,fun j=>frozen_of_row w b j _ _ h⟩
theorem Bhd.set0 (h:Bhd w b x y z) (n:Int):Bhd (w.setCell ⟨b,0,none⟩ (.int .i64 n)) b n y z:=by
 have a:=heap_setCell_same w b 0 _ _ (.int .i64 n) h;unfold Bhd;simpa using a
theorem Bhd.set1 (h:Bhd w b x y z) (n:Int):Bhd (w.setCell ⟨b,1,none⟩ (.int .i64 n)) b x n z:=by
 have a:=heap_setCell_same w b 1 _ _ (.int .i64 n) h;unfold Bhd;simpa using a
theorem Bhd.set2 (h:Bhd w b x y z) (n:Int):Bhd (w.setCell ⟨b,2,none⟩ (.int .i64 n)) b x y n:=by
 have a:=heap_setCell_same w b 2 _ _ (.int .i64 n) h;unfold Bhd;simpa using a
theorem Bhd.other {c:Nat} (h:Bhd w b x y z) (a:b≠c) (j:Nat) (u:Value):Bhd (w.setCell ⟨c,j,none⟩ u) b x y z:=(Below.heap_setCell _ _ _ _ a).trans h
def ZzP:Except Int (Nat × Nat × Nat)->Int
 | .error e=>e
 | .ok _=>0
def ZaR (w:World) (d:List UInt8) (e:Ending) (w':World):Prop:=
 ∃ x y z:Int,e=.returned (.tuple #[.agg #[.int .i64 x,.int .i64 y,.int .i64 z],.int .i64 (ZzP (Z0 d))])∧(∀ v k f,Z0 d=.ok (v,k,f)->x=(v:Int)∧y=(k:Int)∧z=(f:Int))∧Below w.heap.size w w'
theorem ZaR.form {d:List UInt8} (h:Z0 d=.error 3) (b:Below w.heap.size w w'):ZaR w d (.returned (.tuple #[.agg #[.int .i64 0,.int .i64 0,.int .i64 0],.int .i64 3])) w':=
 ⟨0,0,0,by rw[h];rfl,(fun v k f a=>by rw[h] at a;cases a),b⟩
theorem ZlY (v:Value) (d:List UInt8) (w:World) (hr:Rd w v d):
 Calls prog 203 #[v] w fun e w'=>ZaR w d e w':=by
 have HR:=ZZ hr;obtain⟨ao,cap,rfl,a5,aS,-,aL⟩:=hr;have bd:(d.length:Int)<=9223372036854775807:=by unfold maxLen at aS;omega
 have az:Hid (∀ X,Below w.heap.size w (w.alloc X)):=fun X=>(Below.refl _ _).alloc zL X
 by_cases h0:d.length=0
 ·have e:d=[]:=List.eq_nil_of_length_eq_zero h0
  have A:Hid (Z0 d=.error 3):=ZZ (ZkE (.inl e));have a3:((d.length:Int) == 0)=true:=by rw[beq_iff_eq];omega
  clear e h0 aL
  go_enter func203,ntmps203
  go_wp2;refine bodyPost_ret (v:=.tuple #[.agg #[.int .i64 0,.int .i64 0,.int .i64 0],.int .i64 3]) (by simp[results,Tryz.results203,go_sem]) rfl ?_
  exact ZaR.form A.o (az.o _)
 have a3:((d.length:Int) == 0)=false:=beq_eq_false_iff_ne.2 (by omega)
 have ba:(0:Int)<(d.length:Int):=by omega
 have av:d≠[]:=fun e=>by rw[e] at h0;simp at h0
 rcases aL with he | ⟨b,aw,rfl,hc⟩
 ·exact absurd he av
 have aB:=hc 0 (by omega)
 have a4:b<w.heap.size:=World.block_lt_of_cell? w ⟨b,aw+0,none⟩ aB;have a7:∀ X,(w.alloc X).cell? ⟨b,aw,none⟩=some (.int .u8 ((d.getD 0 0).toNat:Nat)):=fun X=>((az.o X).cell (p:=⟨b,aw,none⟩) a4).trans aB
 clear hc aB a5 aS;by_cases hm:d.getD 0 0=108
 case neg=>
  have A:Hid (Z0 d=.error 3):=ZZ (ZkE (.inr hm))
  have a9:((((d.getD 0 0).toNat:Nat):Int) != 108)=true:=by
   rw[bne_iff_ne];intro h;apply hm;apply UInt8.toNat_inj.1;have:(108:UInt8).toNat=108:=rfl;omega
  clear hm av h0;generalize (((d.getD 0 0).toNat:Nat):Int)=c0 at *
  go_enter func203,ntmps203
  go_wp2;refine bodyPost_ret (v:=.tuple #[.agg #[.int .i64 0,.int .i64 0,.int .i64 0],.int .i64 3]) (by simp[results,Tryz.results203,go_sem]) rfl ?_
  exact ZaR.form A.o (az.o _)
 have a9:((((d.getD 0 0).toNat:Nat):Int) != 108)=false:=by
  rw[hm];rfl
 have aT:¬ (d=[]∨d.getD 0 0≠108):=by rintro(h | h);exact av h;exact h hm
 generalize (((d.getD 0 0).toNat:Nat):Int)=c0 at *;obtain⟨a1,c1,aR,aI⟩:=Zym w _ d cap HR.o 1 (by omega)
 obtain⟨⟨D,g⟩,am⟩:∃ x,Qb (d.drop 1)=x:=⟨_,rfl⟩;obtain⟨⟨G,m⟩,ar⟩:∃ x,Qb (d.drop (1+g))=x:=⟨_,rfl⟩;obtain⟨⟨I,E⟩,ae⟩:∃ x,Qb (d.drop (1+g+m))=x:=⟨_,rfl⟩;have aq:=Ju (d.drop 1);have an:=Ju (d.drop (1+g));have al:=Ju (d.drop (1+g+m));have q2:=Zxv (d.drop (1+g+m));rw[am,length_drop] at aq;rw[ar,length_drop] at an;rw[ae,length_drop] at al;rw[ae] at q2;simp only at aq an al q2;have A:=ZZ (ZsN aT am ar ae)
 have aF:=aI 1 rfl
 -- the three rounds
 have aN:=ZZ aR;have HF:=ZZ (fun W=>ZnL (D:Int) (G:Int) (I:Int) W)
 have X1:Hid (∀ x y z Y,Bhd ((w.alloc (.cells #[.int .i64 x,.int .i64 y,.int .i64 z] 188)).alloc Y) w.heap.size x y z):=fun x y z Y=>(Below.heap_alloc _ _ _ (by simp)).trans (heap_alloc_new w _)
 have X2:Hid (∀ X x y z,Bhd ((w.alloc X).alloc (.cells #[.int .i64 x,.int .i64 y,.int .i64 z] 188)) (w.heap.size+1) x y z):=fun X x y z=>Zpl w X _
 have ac:Hid (∀ X Y,Below w.heap.size w ((w.alloc X).alloc Y)):=fun X Y=>Below.allocs (Below.allocs (Below.refl _ _) X) Y
 clear aR aI hm av h0;obtain⟨l,ak⟩:∃ l:Nat->Nat,l=fun q=>if q=0 then 1 else if q=1 then 1+g else if q=2 then 1+g+m else 1+g+m+E:=⟨_,rfl⟩
 have p0:l 0=1:=by rw[ak];rfl
 have p1:l 1=1+g:=by rw[ak];rfl
 have p2:l 2=1+g+m:=by rw[ak];rfl
 have p3:l 3=1+g+m+E:=by rw[ak];rfl
 have u:Hid (l 0=1∧l 1=1+g∧l 2=1+g+m∧l 3=1+g+m+E):=ZZ ⟨p0,p1,p2,p3⟩;obtain⟨t,aJ⟩:∃ t:Nat->Nat,t=fun q=>(d.drop (l q)).length:=⟨_,rfl⟩
 have aa:Hid (∀ q,t q=(d.drop (l q)).length):=ZZ (fun q=>by rw[aJ])
 have aO:Hid (Rd w (.slice a1 (t 0) c1) (d.drop (l 0))):=ZZ (by rw[aa.o,p0];exact aN.o)
 have aY:∀ W,(Instr.sliceAt 53 (.slice (some ⟨b,aw,none⟩) d.length cap) (some (.int .i64 1)) none none).run prog W=.ok (.slice a1 (t 0) c1) W:=by rw[aa.o,p0];exact aF
 have ay:Hid (∀ (a:Option Addr) (c q k:Nat),l (q+1)=l q+k->l q+k<=d.length->Rd w (.slice a (t q) c) (d.drop (l q))->∃ a' c',Rd w (.slice a' (t (q+1)) c') (d.drop (l (q+1)))∧∀ i:Int,i=(k:Int)->∀ W,(Instr.sliceAt 53 (.slice a (t q) c) (some (.int .i64 i)) none none).run prog W=.ok (.slice a' (t (q+1)) c') W):=ZZ (fun a c q k hp B aV=>by
  rw[aa.o q] at aV;obtain⟨a',c',h1,h2⟩:=Zym w a (d.drop (l q)) c aV k (by rw[length_drop];omega)
  rw[List.drop_drop,<-hp,<-aa.o (q+1)] at h1;rw[List.drop_drop,<-hp,<-aa.o q,<-aa.o (q+1)] at h2
  exact⟨a',c',h1,h2⟩)
 have HG:Hid (∀ W a c q n k,Below w.heap.size w W->Rd w (.slice a (t q) c) (d.drop (l q))->Qb (d.drop (l q))=(n,k)->Calls prog 168 #[.slice a (t q) c] W fun e w'=>e=.returned (.tuple #[.int .i64 (n:Int),.int .i64 (k:Int)])∧w'=W):=ZZ (fun W a c q n k hb h hd=>by
  have hx:=ZcJ _ _ W (h.below hb zL);rw[hd] at hx
  exact hx)
 have HD:Hid (Qb (d.drop 1)=(D,g)∧Qb (d.drop (1+g))=(G,m)∧Qb (d.drop (1+g+m))=(I,E)):=ZZ ⟨am,ar,ae⟩;have R:Hid (g<=d.length-1∧m<=d.length-(1+g)∧E<=d.length-(1+g+m)):=ZZ ⟨aq,an,al⟩;clear ak aJ p0 p1 p2 p3 aN aF am ar ae aq an al aT
 go_enter func203,ntmps203
 go_wp2
 go_loopw[5,21] (fun vl vi wr=>∃ (q:Nat) (a:Option Addr) (c:Nat) (x y z:Int),vi=.int .i64 (q:Int)∧vl=.slice a (t q) c∧q<=3∧Hid (Rd w (.slice a (t q) c) (d.drop (l q)))∧Hid (Bhd wr (w.heap.size+1) x y z)∧Hid (Bhd wr w.heap.size 0 0 0)∧Hid ((1<=q->x=(D:Int)∧g≠0)∧(2<=q->y=(G:Int)∧m≠0)∧(3<=q->z=(I:Int)∧E≠0))∧Hid (Below w.heap.size w wr)) (fun _ vi _=>3-(intOf vi).toNat)
 case atStart=>exact⟨0,a1,c1,0,0,0,rfl,rfl,Nat.zero_le _,aO,ZZ (X2.out _ _ _ _),ZZ (X1.out _ _ _ _),ZZ ⟨fun h=>absurd h (by decide),fun h=>absurd h (by decide),fun h=>absurd h (by decide)⟩,ZZ (ac.o _ _)⟩
 case round=>
  obtain⟨q,a,c,x,y,z,rfl,rfl,hq,ab,H,J,hI,F⟩:=hrel;clear aO aY a7;by_cases bc:q<3
  case neg=>
   have e:q=3:=by omega
   subst e;have h1:=hI.out.1 (by decide)
   have h2:=hI.out.2.1 (by decide)
   have h3:=hI.out.2.2 (by decide)
   obtain⟨rfl,aH⟩:=h1;obtain⟨rfl,aM⟩:=h2;obtain⟨rfl,aK⟩:=h3;by_cases aA:1+g+m+E=d.length
   case neg=>
    have O:Hid (Z0 d=.error 3):=ZZ (by rw[A.o,if_pos (.inr (.inr (.inr aA)))])
    have au:t 3≠0:=by
     rw[aa.o,u.o.2.2.2,length_drop];have:=R.o;omega
    have bg:(0:Int)<(t 3:Int):=by omega
    have a8:0<t 3:=by omega
    have bh:decide (0<t 3)=true:=decide_eq_true a8;generalize t 3=ln at *;obtain⟨⟨Q,U,T⟩,j⟩:=J.out.cell;have f0:=j 0;have f1:=j 1;have f2:=j 2;clear j au aH aM aK aA A;go_wp2;refine bodyPost_ret (v:=.tuple #[.agg #[.int .i64 0,.int .i64 0,.int .i64 0],.int .i64 3]) (by simp[results,Tryz.results203,go_sem,Q,U,T]) rfl ?_
    exact ZaR.form O.o (Z3 F.out _ zL _ _ _)
   have au:t 3=0:=by
    rw[aa.o,u.o.2.2.2,length_drop];omega
   have aW:Hid (Jj (D:Int) (G:Int) (I:Int)=ZzP (Z0 d)):=ZZ (by
    rw[A.o,if_neg (by omega)]
    unfold Jj;by_cases g1:D<1∨3<D
    ·rw[if_neg (by omega),if_pos g1];rfl
    ·rw[if_pos (by omega),if_neg g1]
     by_cases g2:6<=G
     ·rw[if_pos g2,if_neg (fun h=>by have:=h.2.1;omega)];rfl
     ·rw[if_neg g2,if_pos ⟨by omega,by omega,by omega,by omega⟩];rfl)
   have a2:Hid (∀ v k f,Z0 d=.ok (v,k,f)->(D:Int)=(v:Int)∧(G:Int)=(k:Int)∧(I:Int)=(f:Int)):=ZZ (fun v k f P=>by
    rw[A.o] at P;split at P
    ·cases P
    split at P
    ·cases P
    split at P
    ·cases P
    simp only [Except.ok.injEq,Prod.mk.injEq] at P;obtain⟨rfl,rfl,rfl⟩:=P
    exact⟨rfl,rfl,rfl⟩)
   rw[aW.o] at HF;rw[au] at ab ⊢;obtain⟨er,aC⟩:∃ er,er=ZzP (Z0 d):=⟨_,rfl⟩;rw[<-aC] at HF;have aZ:=ZZ aC;clear aC;obtain⟨⟨Q,U,T⟩,j⟩:=J.out.cell;have f0:=j 0;have f1:=j 1;have f2:=j 2;obtain⟨⟨g0,g1,g2⟩,-⟩:=H.out.cell;have aE:Hid (∀ W,Below wr.heap.size wr W->W.cell? ⟨w.heap.size+1,0,none⟩=some (.int .i64 (D:Int))∧W.cell? ⟨w.heap.size+1,1,none⟩=some (.int .i64 (G:Int))∧W.cell? ⟨w.heap.size+1,2,none⟩=some (.int .i64 (I:Int))):=ZZ (fun W hb=>(H.out.below hb H.out.lt).cell.1)
   have aU:Hid (Below wr.heap.size wr wr.drew):=ZZ ((Below.refl _ _).drew);have a0:=ZZ (aE.o _ aU.o);generalize (D:Int)=N at *;generalize (G:Int)=L at *;generalize (I:Int)=M at *;clear j aH aM aK aA A aW R HD hI au u;have bb:w.heap.size≠w.heap.size+1:=by omega
   have aQ:Hid (Bhd (((wr.setCell ⟨w.heap.size,0,none⟩ (.int .i64 N)).setCell ⟨w.heap.size,1,none⟩ (.int .i64 L)).setCell ⟨w.heap.size,2,none⟩ (.int .i64 M)) w.heap.size N L M):=ZZ (((J.out.set0 N).set1 L).set2 M);have ax:Hid (Bhd (((wr.setCell ⟨w.heap.size,0,none⟩ (.int .i64 N)).setCell ⟨w.heap.size,1,none⟩ (.int .i64 L)).setCell ⟨w.heap.size,2,none⟩ (.int .i64 M)) (w.heap.size+1) N L M):=ZZ (((H.out.other (by omega) 0 _).other (by omega) 1 _).other (by omega) 2 _)
   have aG:Hid (Below w.heap.size w (((wr.setCell ⟨w.heap.size,0,none⟩ (.int .i64 N)).setCell ⟨w.heap.size,1,none⟩ (.int .i64 L)).setCell ⟨w.heap.size,2,none⟩ (.int .i64 M)).drew):=ZZ (Z3 F.out _ zL _ _ _).drew
   go_upto_region 15 with fail
   go_region_held2(fun w'=>w'.cell? ⟨w.heap.size+1,0,none⟩=some (.int .i64 N)∧w'.cell? ⟨w.heap.size+1,1,none⟩=some (.int .i64 L)∧w'.cell? ⟨w.heap.size+1,2,none⟩=some (.int .i64 M)) (first | exact a0.o | exact a6.o | exact aX.o | exact ax.o.cell.1 | go_keep)
    (first
     | (go_at_call 137;refine(HF.o wr.drew).mono ?_;rintro e K ⟨rfl,aD⟩;have ac:=ZZ (aU.o.trans aD);have a6:=ZZ (aE.o K ac.o);have aP:=ZZ (F.out.trans (ac.o.mono F.out.size));obtain⟨⟨s0,s1,s2⟩,sf⟩:=(J.out.below ac.o J.out.lt).cell;have bi:=sf 0;have bf:=sf 1;have be:=sf 2;obtain⟨⟨t0,t1,t2⟩,-⟩:=(H.out.below ac.o H.out.lt).cell;clear aD sf)
     | (go_at_call 137;refine(HF.o (((wr.setCell ⟨w.heap.size,0,none⟩ (.int .i64 N)).setCell ⟨w.heap.size,1,none⟩ (.int .i64 L)).setCell ⟨w.heap.size,2,none⟩ (.int .i64 M)).drew).mono ?_;rintro e W3 ⟨rfl,ap⟩;have aX:=ZZ (ax.o.below ap ax.o.lt).cell.1;have O:=ZZ (aG.o.trans (ap.mono aG.o.size));obtain⟨⟨s0,s1,s2⟩,-⟩:=(aQ.o.below ap aQ.o.lt).cell;clear ap))
   all_goals
    go_wp2;refine bodyPost_ret (v:=.tuple #[.agg #[.int .i64 N,.int .i64 L,.int .i64 M],.int .i64 er]) (by simp[results,Tryz.results203,go_sem,s0,s1,s2]) rfl ⟨N,L,M,by rw[aZ.o],a2.o,?_⟩
    first
    | exact O.o
    | exact(Z3 aP.o _ zL _ _ _)
    | exact(Z3 aP.o _ zL _ _ _).drew
  have h3:q=0∨q=1∨q=2:=by omega
  rcases h3 with rfl | rfl | rfl
  ·have Z:=ZZ (HG.o wr a c 0 D g F.out ab.out (by rw[u.o.1];exact HD.o.1))
   by_cases B:g=0
   ·have O:Hid (Z0 d=.error 3):=ZZ (by rw[A.o,if_pos (.inl B)])
    have ai:((g:Int) == 0)=true:=by rw[beq_iff_eq];omega
    obtain⟨⟨Q,U,T⟩,j⟩:=J.out.cell;have f0:=j 0;have f1:=j 1;have f2:=j 2;clear j B A R
    go_wp2_with fail
    refine Z.o.mono ?_;rintro e K ⟨rfl,C⟩;rw[C];go_wp2;refine bodyPost_ret (v:=.tuple #[.agg #[.int .i64 0,.int .i64 0,.int .i64 0],.int .i64 3]) (by simp[results,Tryz.results203,go_sem,Q,U,T]) rfl ?_
    exact ZaR.form O.o (Z3 F.out _ zL _ _ _)
   have ai:((g:Int) == 0)=false:=beq_eq_false_iff_ne.2 (by omega)
   have aj:=ZZ B;obtain⟨a',c',S,hcut⟩:=ay.o a c 0 g (by rw[u.o.2.1,u.o.1]) (by rw[u.o.1];have:=R.o;omega) ab.out
   have kc:=hcut (g:Int) rfl;have ah:=ZZ S;obtain⟨⟨g0,g1,g2⟩,V⟩:=H.out.cell;have fq:=V 0;have af:=ZZ (H.out.set0 (D:Int));have ad:=ZZ (J.out.other (show w.heap.size≠w.heap.size+1 by omega) 0 (.int .i64 (D:Int)))
   have ag:=ZZ (F.out.setCell (p:=⟨w.heap.size+1,0,none⟩) (show w.heap.size<=w.heap.size+1 by omega) (.int .i64 (D:Int)))
   clear B hcut S V
   go_wp2_with fail
   refine Z.o.mono ?_;rintro e K ⟨rfl,C⟩;rw[C];clear C K;go_wp2
   go_region
   all_goals
    go_wp2;go_roundw
    case rel=>exact⟨1,a',c',(D:Int),y,z,rfl,rfl,by omega,ah,af,ad,ZZ ⟨fun _=>⟨rfl,aj.o⟩,fun h=>absurd h (by decide),fun h=>absurd h (by decide)⟩,ZZ ag.o.drew⟩
    case measure=>simp[intOf]
  ·have Z:=ZZ (HG.o wr a c 1 G m F.out ab.out (by rw[u.o.2.1];exact HD.o.2.1))
   by_cases B:m=0
   ·have O:Hid (Z0 d=.error 3):=ZZ (by rw[A.o,if_pos (.inr (.inl B))])
    have ai:((m:Int) == 0)=true:=by rw[beq_iff_eq];omega
    obtain⟨⟨Q,U,T⟩,j⟩:=J.out.cell;have f0:=j 0;have f1:=j 1;have f2:=j 2;clear j B A R
    go_wp2_with fail
    refine Z.o.mono ?_;rintro e K ⟨rfl,C⟩;rw[C];go_wp2;refine bodyPost_ret (v:=.tuple #[.agg #[.int .i64 0,.int .i64 0,.int .i64 0],.int .i64 3]) (by simp[results,Tryz.results203,go_sem,Q,U,T]) rfl ?_
    exact ZaR.form O.o (Z3 F.out _ zL _ _ _)
   have ai:((m:Int) == 0)=false:=beq_eq_false_iff_ne.2 (by omega)
   have aj:=ZZ B;obtain⟨a',c',S,hcut⟩:=ay.o a c 1 m (by rw[u.o.2.2.1,u.o.2.1]) (by rw[u.o.2.1];have:=R.o;omega) ab.out
   have kc:=hcut (m:Int) rfl;have ah:=ZZ S;obtain⟨⟨g0,g1,g2⟩,V⟩:=H.out.cell;have fq:=V 1;have af:=ZZ (H.out.set1 (G:Int));have ad:=ZZ (J.out.other (show w.heap.size≠w.heap.size+1 by omega) 1 (.int .i64 (G:Int)))
   have ag:=ZZ (F.out.setCell (p:=⟨w.heap.size+1,1,none⟩) (show w.heap.size<=w.heap.size+1 by omega) (.int .i64 (G:Int)))
   clear B hcut S V
   go_wp2_with fail
   refine Z.o.mono ?_;rintro e K ⟨rfl,C⟩;rw[C];clear C K;go_wp2
   go_region
   all_goals
    go_wp2;go_roundw
    case rel=>exact⟨2,a',c',x,(G:Int),z,rfl,rfl,by omega,ah,af,ad,ZZ ⟨fun _=>hI.out.1 (by decide),fun _=>⟨rfl,aj.o⟩,fun h=>absurd h (by decide)⟩,ZZ ag.o.drew⟩
    case measure=>simp[intOf]
  ·have Z:=ZZ (HG.o wr a c 2 I E F.out ab.out (by rw[u.o.2.2.1];exact HD.o.2.2))
   by_cases B:E=0
   ·have O:Hid (Z0 d=.error 3):=ZZ (by rw[A.o,if_pos (.inr (.inr (.inl B)))])
    have ai:((E:Int) == 0)=true:=by rw[beq_iff_eq];omega
    obtain⟨⟨Q,U,T⟩,j⟩:=J.out.cell;have f0:=j 0;have f1:=j 1;have f2:=j 2;clear j B A R
    go_wp2_with fail
    refine Z.o.mono ?_;rintro e K ⟨rfl,C⟩;rw[C];go_wp2;refine bodyPost_ret (v:=.tuple #[.agg #[.int .i64 0,.int .i64 0,.int .i64 0],.int .i64 3]) (by simp[results,Tryz.results203,go_sem,Q,U,T]) rfl ?_
    exact ZaR.form O.o (Z3 F.out _ zL _ _ _)
   have ai:((E:Int) == 0)=false:=beq_eq_false_iff_ne.2 (by omega)
   have aj:=ZZ B;obtain⟨a',c',S,hcut⟩:=ay.o a c 2 E (by rw[u.o.2.2.2,u.o.2.2.1]) (by rw[u.o.2.2.1];have:=R.o;omega) ab.out
   have kc:=hcut (E:Int) rfl;have ah:=ZZ S;obtain⟨⟨g0,g1,g2⟩,V⟩:=H.out.cell;have fq:=V 2;have af:=ZZ (H.out.set2 (I:Int));have ad:=ZZ (J.out.other (show w.heap.size≠w.heap.size+1 by omega) 2 (.int .i64 (I:Int)))
   have ag:=ZZ (F.out.setCell (p:=⟨w.heap.size+1,2,none⟩) (show w.heap.size<=w.heap.size+1 by omega) (.int .i64 (I:Int)))
   clear B hcut S V
   go_wp2_with fail
   refine Z.o.mono ?_;rintro e K ⟨rfl,C⟩;rw[C];clear C K;go_wp2
   go_region
   all_goals
    go_wp2;go_roundw
    case rel=>exact⟨3,a',c',x,y,(I:Int),rfl,rfl,by omega,ah,af,ad,ZZ ⟨fun _=>hI.out.1 (by decide),fun _=>hI.out.2.1 (by decide),fun _=>⟨rfl,aj.o⟩⟩,ZZ ag.o.drew⟩
    case measure=>simp[intOf]
theorem ZpU (v k f:Int) (a:Option Addr) (n c:Nat) (w:World):
 Calls prog 205 #[.agg #[.int .i64 v,.int .i64 k,.int .i64 f],.slice a n c] w fun e w'=>e=.returned (.agg #[.int .i64 k,.int .i64 f,.slice a n c])∧Below w.heap.size w w':=by
 have b:Hid (∀ X Y,Below w.heap.size w ((w.alloc X).alloc Y)):=fun X Y=>Below.allocs (Below.allocs (Below.refl _ _) X) Y
 go_enter func205,ntmps205
 go_wp2;refine bodyPost_ret (v:=.agg #[.int .i64 k,.int .i64 f,.slice a n c]) (by simp[results,Tryz.results205,go_sem]) rfl ⟨rfl,?_⟩
 exact b.o _ _
def ZkF (w:World) (v f:Nat) (B:List (List UInt8)) (e:Ending) (w':World):Prop:=
 ∃ vl,e=.returned (.tuple #[vl,.int .i64 ((J4 v f B [] 16).2.1:Int),.int .i64 (J4 v f B [] 16).2.2])∧Xj w' w.heap.size vl (J4 v f B [] 16).1∧(∀ r ∈ (J4 v f B [] 16).1,Zcx r)∧Below w.heap.size w w'
theorem Bsg.set3 {R:Nat} {a b c:Value} (h:Bsg w R #[a,b,c]) (f e d:Value):Bsg (((w.setCell ⟨R,0,none⟩ f).setCell ⟨R,1,none⟩ e).setCell ⟨R,2,none⟩ d) R #[f,e,d]:=by
 have j:=heap_setCell_same w R 0 _ _ f h;have i:=heap_setCell_same _ R 1 _ _ e j;have g:=heap_setCell_same _ R 2 _ _ d i;unfold Bsg;simpa using g
theorem Zik.set {C:Nat} (h:Zik w C v L) (R i:Nat) (a:R<C) (x:Value):Zik (w.setCell ⟨R,i,none⟩ x) C v L:=by
 obtain⟨xs,e,b⟩:=h;refine⟨xs,ownsRow_setCell_below e a x,fun j d=>?_⟩
 obtain⟨y,c,f⟩:=b j d;exact⟨y,c,ownsRow_setCell_below f a x⟩
theorem ZkG (v:Value) (l:List UInt8) (w:World) (f:Rd w v l) (h:l.length<=1000000):
 Calls prog 118 #[v] w fun e w'=>∃ v',e=.returned (.tuple #[v',.int .i64 ((Qp l).2.1:Nat)])∧Zik w' w.heap.size v' (Qp l).1∧Below w.heap.size w w':=by
 have b:=ZZ (ZnK v l w f h);clear f
 go_enter func118,ntmps118
 go_wp2_with fail
 refine b.o.mono ?_;rintro e n ⟨p,rfl,g,d⟩;have i:=ZZ g;have k:=ZZ d;clear g d b;obtain⟨m,a⟩:∃ m,m=(Qp l).2.1:=⟨_,rfl⟩;have j:=ZZ a;rw[<-a];clear a;generalize (Qp l).2.2=c at *;go_wp2;go_ret2;exact⟨_,by rw[j.o];rfl,i.o,k.o⟩
theorem ZiH (v:Nat) (k f:Int) (b:Value) (w:World) (d:∃ a c,b=.slice a 0 c):
 Calls prog 204 #[.agg #[.int .i64 (v:Int),.int .i64 k,.int .i64 f],b] w fun e w'=>e=.returned (.tuple #[.slice none 0 0,.int .i64 0,.int .i64 0])∧Below w.heap.size w w':=by
 obtain⟨a,c,rfl⟩:=d;have i:Hid (∀ X,Below w.heap.size w (w.alloc X)):=fun X=>(Below.refl _ _).alloc zL X
 generalize (v:Int)=V
 go_enter func204,ntmps204
 go_wp2
 go_loopw[7,14] (fun h g wr=>h=.slice none 0 0∧g=.int .i64 0∧Hid (Below w.heap.size w wr)) (fun _ _ _=>0)
 case atStart=>exact⟨rfl,rfl,ZZ (i.o _)⟩
 case round=>
  obtain⟨rfl,rfl,j⟩:=hrel;go_wp2;refine bodyPost_ret (v:=.tuple #[.slice none 0 0,.int .i64 0,.int .i64 0]) (by simp[results,Tryz.results204,go_sem]) rfl ?_
  exact⟨rfl,j.o⟩
theorem ZjR (vb:Value) (b:List UInt8) (w:World) (hr:Rd w vb b) (bX:b.length<=100000) (a2:(Qp b).1.tail=[]):
 Calls prog 166 #[vb] w fun e w'=>Zbb w b e w':=by
 have F:Hid (∀ X,Below w.heap.size w (w.alloc X)):=fun X=>(Below.refl _ _).alloc zL X
 have X1:Hid (∀ cs,Bsg (w.alloc (.cells cs 217)) w.heap.size cs):=fun cs=>heap_alloc_new w _
 have ag:=ZZ (fun X=>ZkG vb b (w.alloc X) (hr.below (F.o X) zL) (by omega))
 obtain⟨ab,cb,rfl,-⟩:=hr;obtain⟨aH,a9⟩:=ZeQ b;obtain⟨aQ,-⟩:=Zcm _ b zL
 have aX:(Qf (Qp b).1).length<=100000:=by
  rw[aQ,List.length_take];omega
 have ay:=ZZ (fun h=>ZsQ (b:=b) h)
 have aI:Hid ((Qp b).1=[]->Gv b=(Zev,0,false)):=ZZ (fun h=>by unfold Gv ZwK;rw[if_pos h])
 generalize (Qp b).2.1=tk at *;generalize (Qp b).1=L at *;have bF:=ZZ a2;clear a2 aQ;by_cases h0:L.length=0
 ·have e:L=[]:=List.eq_nil_of_length_eq_zero h0
  have l:=ZZ (aI.o e);have bJ:((L.length:Int) == 0)=true:=by rw[beq_iff_eq];omega
  clear ay aI aH a9 aX h0 e
  go_enter func166,ntmps166
  go_wp2_with fail
  refine(ag.o _).mono ?_;rintro e A ⟨m,rfl,R,u⟩;have K:=ZZ ((X1.out _).below u zL);have aj:=ZZ ((F.o _).trans (u.mono (F.o _).size));obtain⟨a1,P,rfl,-⟩:=R.rd;clear u ag;obtain⟨r0,f0⟩:=K.o.cell 0;obtain⟨r1,f1⟩:=K.o.cell 1;obtain⟨r2,f2⟩:=K.o.cell 2;go_wp2;refine bodyPost_ret (v:=.tuple #[.agg #[.int .i64 0,.int .i64 0,.slice none 0 0],.int .i64 0,.bool false]) (by simp[results,Tryz.results166,go_sem,r0,r1,r2]) rfl ?_
  exact Zbb.fail l.o (Z3 aj.o _ zL _ _ _)
 have bi:L≠[]:=fun e=>h0 (by rw[e];rfl)
 have bJ:((L.length:Int) == 0)=false:=beq_eq_false_iff_ne.2 (by omega)
 have l:=ZZ (ay.o bi);have a4:L.getD 0 []=L.headD []:=by cases L <;> rfl
 have aY:Hid (∀ (v k f:Nat),1<=v->v<=3->f<4611686018427387904->∀ (vp:Value) (W:World),Below w.heap.size w W->RdL W vp L.tail->Calls prog 204 #[.agg #[.int .i64 (v:Int),.int .i64 (k:Int),.int .i64 (f:Int)],vp] W fun e w'=>ZkF W v f L.tail e w'):=ZZ (fun v k f _ _ _ vp W _ h=>by
  rw[bF.o] at h ⊢
  refine(ZiH v k f vp W (by
   obtain⟨a,c,e,-⟩:=h
   exact⟨a,c,e⟩)).mono ?_
  rintro e w' ⟨rfl,U⟩
  exact⟨_,rfl,Xj.nil _ _,(fun r hr=>by cases hr),U⟩)
 have aM:Hid (∀ v f,(J4 v f L.tail [] 16).2.1+1<=L.length):=ZZ (fun v f=>by
  have:=ZiG v f L.tail [] 16;rw[List.length_tail] at this
  omega)
 have bl:=ZZ (fun c m W (h:RdL W m (L.take c))=>ZvB m (L.take c) W h (fun x hx=>(aH x (List.mem_of_mem_take hx)).1) (by have:=ZeR L c;omega))
 have bf:=ZZ (fun m W (h:Rd W m (L.headD []))=>ZlY m (L.headD []) W h)
 have bC:=ZZ (fun v k f a n c W=>ZpU v k f a n c W)
 have bU:(L.length:Int)<=100000:=by omega
 have bS:(0:Int)<(L.length:Int):=by omega
 unfold ZpP at l;clear ay aI aH aX bi a9
 go_enter func166,ntmps166
 go_wp2_with fail
 refine(ag.o _).mono ?_;rintro e A ⟨m,rfl,R,u⟩;have K:=ZZ ((X1.out _).below u zL);have aj:=ZZ ((F.o _).trans (u.mono (F.o _).size));have ao:=ZZ R.rd;have bu:Hid (Zik A (w.heap.size+1) m L):=ZZ (R.mono (by simp))
 obtain⟨a1,P,rfl,-⟩:=R.rd;obtain⟨b0,o0,x0,rfl,bj,ak⟩:=ao.o.at 0 (by omega)
 obtain⟨am,cm,aK,aD⟩:=ZvA A _ L L.length P rfl ao.o 1 (by omega)
 have aW:=ZZ (fun q (hq:q<=L.length)=>ZsP A _ L L.length P rfl ao.o q hq)
 rw[List.drop_one] at aK aD;rw[a4] at ak;have km:=aD 1 rfl;have bg:=ZZ aK;have a6:=bj A (Below.refl _ _);have ba:=ZZ (ak A (Below.refl _ _));obtain⟨a0,q0,bt,-⟩:=ak A (Below.refl _ _);subst bt;rw[Nat.add_zero] at a6;clear u ag aK aD bj ak X1 F a4 ao;generalize L.tail=B at *;generalize L.headD []=H at *;generalize bP:H.length=hl at *;clear bP
 go_wp2_with fail
 refine(bf.o _ _ ba.o).mono ?_;rintro e O ⟨x,y,z,rfl,aU,ac⟩;have aJ:=ZZ aU;have aG:=ZZ (K.o.below ac zL);have az:=ZZ (aj.o.trans (ac.mono aj.o.size));have aB:=ZZ ac;clear aU ac a6 ba K bf;obtain⟨d,af⟩:∃ N,N=O.heap.size:=⟨_,rfl⟩;obtain⟨j,ah⟩:∃ V,V=O.alloc (.cells #[.int .i64 x,.int .i64 y,.int .i64 z] 188):=⟨_,rfl⟩;have ap:Below O.heap.size O j:=by rw[ah];exact(Below.refl _ _).alloc zL _
 have I:Hid (Bhd j d x y z):=ZZ (by rw[ah,af];exact heap_alloc_new O _)
 have Y:=ZZ (aG.o.below ap zL);have S:=ZZ (az.o.trans (ap.mono az.o.size));have ad:=ZZ (aB.o.trans (ap.mono aB.o.size));have bG:w.heap.size<d:=by rw[af];exact aG.o.lt
 go_upto_region 5 with fail
 rw[<-ah,<-af];clear ah af ap aG az aB
 cases hrd:Z0 H with
 | error ex=>
  have bH:Hid (Gv b=(Zev,0,false)):=ZZ (by rw[l.o,hrd])
  have hx:=Zxx hrd;have bW:(ex != 0)=true:=by rw[bne_iff_ne];exact hx
  have Z:ZzP (Except.error ex:Except Int (Nat × Nat × Nat))=ex:=rfl;obtain⟨r0,f0⟩:=Y.o.cell 0;obtain⟨r1,f1⟩:=Y.o.cell 1;obtain⟨r2,f2⟩:=Y.o.cell 2;rw[Z];clear Z hrd hx l aJ;go_wp2;refine bodyPost_ret (v:=.tuple #[.agg #[.int .i64 0,.int .i64 0,.slice none 0 0],.int .i64 0,.bool false]) (by simp[results,Tryz.results166,go_sem,r0,r1,r2]) rfl ?_
  exact Zbb.fail bH.o (Z3 S.o _ zL _ _ _)
 | ok t=>
  obtain⟨v,k,f⟩:=t;obtain⟨rfl,rfl,rfl⟩:=aJ.o v k f hrd;obtain⟨-,bc,a8,bp,aS⟩:=Zcl hrd;have an:=ZZ (aY.o v k f bc a8 aS);have aZ:=aM.o v f;rw[hrd] at l;have Z:ZzP (Except.ok (v,k,f):Except Int (Nat × Nat × Nat))=0:=rfl;rw[Z];unfold ZkF at an;simp only at l;generalize J4 v f B [] 16=T at *;obtain⟨aw,C,er⟩:=T;simp only at l an aZ;obtain⟨q,hq⟩:∃ q,q=1+C:=⟨_,rfl⟩;obtain⟨aN,aP⟩:=aW.o q (by omega)
  have kf:=aP (1+(C:Int)) (by omega)
  have ax:=ZZ (bl.o q);have bv:Hid (∀ W:World,Zik W (w.heap.size+1) (.slice (some ⟨b0,o0,none⟩) L.length P) L->RdL W (.slice (some ⟨b0,o0,none⟩) q P) (L.take q)):=ZZ (fun W h=>h.rd.front q (by omega))
  have bb:=ZZ aN;have bY:(1:Int)+(C:Int)<=100000:=by omega
  have bV:IntKind.i64.wrap (1+(C:Int))=1+(C:Int):=by rw[IntKind.wrap_i64];omega
  have bT:(1:Int)+(C:Int)<=(L.length:Int):=by omega
  rw[<-hq] at l;obtain⟨SZ,bm⟩:∃ SZ,SZ=(Qf (L.take q)).length:=⟨_,rfl⟩;rw[<-bm] at l ax;generalize L.take q=PF at *;clear Z hrd aJ aY bc a8 bp aS bl aW aM aN aP aZ hq bm;generalize (v:Int)=V at *;have J:Hid (w.heap.size<j.heap.size):=ZZ (Nat.lt_trans bG I.o.lt);have ar:Hid (∀ W,Below j.heap.size j W->W.cell? ⟨d,0,none⟩=some (.int .i64 V)∧W.cell? ⟨d,1,none⟩=some (.int .i64 (k:Int))∧W.cell? ⟨d,2,none⟩=some (.int .i64 (f:Int))):=ZZ (fun W U=>(I.o.below U I.o.lt).cell.1)
  have aq:Hid (Below j.heap.size j j.drew):=ZZ ((Below.refl _ _).drew);have a7:=ZZ (ar.o _ aq.o);have aT:=ZZ (bg.o.below ad.o zL)
  go_upto_region 7 with fail
  go_cut[9,10,11] (fun vl vc ve wc=>∃ i nl g,vl=.slice i nl g∧vc=.int .i64 (C:Int)∧ve=.int .i64 er∧Hid (∀ r ∈ aw,Zcx r)∧Hid (Xj wc j.heap.size (.slice i nl g) aw)∧Hid (Below j.heap.size j wc))
  case first=>
   go_region_held2(fun W=>W.cell? ⟨d,0,none⟩=some (.int .i64 V)∧W.cell? ⟨d,1,none⟩=some (.int .i64 (k:Int))∧W.cell? ⟨d,2,none⟩=some (.int .i64 (f:Int))) (first | exact a7.o | exact bn.o)
    (first
     | (go_at_call 204;refine(an.o _ j.drew S.o.drew (aT.o.below aq.o zL)).mono ?_;rintro e W3 ⟨v3,rfl,aC,aR,a5⟩;have aF:Hid (Xj W3 j.heap.size v3 aw):=ZZ aC;have ae:=ZZ aR;have p:=ZZ (aq.o.trans a5);have bn:=ZZ (ar.o W3 p.o);obtain⟨a3,c3,rfl⟩:=aC.shape;clear a5 aC aR))
   all_goals
    go_wp2_with fail
    go_meet
    exact⟨_,_,_,rfl,rfl,rfl,ae,aF,p⟩
  case rest=>
   obtain⟨i,nl,g,rfl,rfl,rfl,ae,aF,p⟩:=hcut;have bK:=ZZ (Y.o.below p.o zL);have ai:=ZZ (I.o.below p.o I.o.lt);have be:=ZZ (S.o.trans (p.o.mono S.o.size));have aL:=ZZ (ad.o.trans (p.o.mono ad.o.size));have aV:Hid (∀ W,Below wc.heap.size wc W->W.cell? ⟨d,0,none⟩=some (.int .i64 V)∧W.cell? ⟨d,1,none⟩=some (.int .i64 (k:Int))∧W.cell? ⟨d,2,none⟩=some (.int .i64 (f:Int))):=ZZ (fun W U=>(ai.o.below U ai.o.lt).cell.1)
   have bh:Hid (Below wc.heap.size wc wc.drew):=ZZ ((Below.refl _ _).drew);have bo:=ZZ (aV.o _ bh.o);have bB:=ZZ (bb.o.below aL.o zL);have bM:=ZZ (bu.o.below aL.o zL);have G:d≠w.heap.size:=by omega
   clear Y I S ad p ar aq a7 aT an bg bb
   go_upto_region 8 with fail
   go_region_held(fun W=>W.cell? ⟨d,0,none⟩=some (.int .i64 V)∧W.cell? ⟨d,1,none⟩=some (.int .i64 (k:Int))∧W.cell? ⟨d,2,none⟩=some (.int .i64 (f:Int))) (first | exact bo.o | exact bO.o | exact bL.o | exact bN.o | exact bA.o | exact bw.o)
    (first
     | (go_at_call 205;refine(bC.o _ _ _ _ _ _ wc.drew).mono ?_;rintro e W4 ⟨rfl,bd⟩;have D:=ZZ (bh.o.trans bd);have bO:=ZZ (aV.o W4 D.o);have M:=ZZ (bK.o.below D.o zL);have Q:=ZZ (ai.o.below D.o ai.o.lt);have au:=ZZ (be.o.trans (D.o.mono be.o.size));have aO:=ZZ (aF.o.below D.o zL);have bR:=ZZ (bB.o.below D.o zL);obtain⟨r0,f0⟩:=M.o.cell 0;obtain⟨r1,f1⟩:=M.o.cell 1;obtain⟨r2,f2⟩:=M.o.cell 2;have av:=ZZ (((Q.o.other G 0 (.int .i64 (k:Int))).other G 1 (.int .i64 (f:Int))).other G 2 (.slice i nl g));have bL:=ZZ av.o.cell.1;have bQ:=ZZ (bM.o.below D.o zL);have bI:Hid (RdL ((((W4.setCell ⟨w.heap.size,0,none⟩ (.int .i64 (k:Int))).setCell ⟨w.heap.size,1,none⟩ (.int .i64 (f:Int))).setCell ⟨w.heap.size,2,none⟩ (.slice i nl g))) _ PF):=ZZ (bv.o _ (((bQ.o.set w.heap.size 0 (Nat.lt_succ_self _) (.int .i64 (k:Int))).set w.heap.size 1 (Nat.lt_succ_self _) (.int .i64 (f:Int))).set w.heap.size 2 (Nat.lt_succ_self _) (.slice i nl g)));have bq:=ZZ (M.o.set3 (.int .i64 (k:Int)) (.int .i64 (f:Int)) (.slice i nl g));have bE:=ZZ (((aO.o.set w.heap.size 0 J.o (.int .i64 (k:Int))).set w.heap.size 1 J.o (.int .i64 (f:Int))).set w.heap.size 2 J.o (.slice i nl g));have bk:=ZZ (Z3 au.o w.heap.size zL (.int .i64 (k:Int)) (.int .i64 (f:Int)) (.slice i nl g));clear bd)
     | (go_at_call 206;refine(ax.o _ W4 bR.o).mono ?_;rintro e W5 ⟨rfl,E⟩;have bN:=ZZ (Q.o.below E Q.o.lt).cell.1;have aE:=ZZ (M.o.below E zL);have bx:=ZZ (au.o.trans (E.mono au.o.size));have bz:=ZZ (aO.o.below E zL);obtain⟨s0,g0⟩:=aE.o.cell 0;obtain⟨s1,g1⟩:=aE.o.cell 1;obtain⟨s2,g2⟩:=aE.o.cell 2;have bw:=ZZ ((((Q.o.below E Q.o.lt).other G 0 (.int .i64 (k:Int))).other G 1 (.int .i64 (f:Int))).other G 2 (.slice i nl g)).cell.1;clear E)
     | (go_at_call 206;refine(ax.o _ (((W4.setCell ⟨w.heap.size,0,none⟩ (.int .i64 (k:Int))).setCell ⟨w.heap.size,1,none⟩ (.int .i64 (f:Int))).setCell ⟨w.heap.size,2,none⟩ (.slice i nl g)) bI.o).mono ?_;rintro e W6 ⟨rfl,aa⟩;have bA:=ZZ (av.o.below aa av.o.lt).cell.1;have aA:=ZZ (bq.o.below aa zL);have bD:=ZZ (bE.o.below aa zL);have br:=ZZ (bk.o.trans (aa.mono bk.o.size));obtain⟨s0,g0⟩:=aA.o.cell 0;obtain⟨s1,g1⟩:=aA.o.cell 1;obtain⟨s2,g2⟩:=aA.o.cell 2;clear aa))
   all_goals
    go_wp2;refine bodyPost_ret (v:=.tuple #[.agg #[.int .i64 (k:Int),.int .i64 (f:Int),.slice i nl g],.int .i64 (SZ:Int),.bool true]) (by simp[results,Tryz.results166,go_sem,s0,s1,s2]) rfl ?_
    refine⟨.slice i nl g,by rw[l.o],?_,?_⟩
    ·rw[l.o]
     first
     | exact bD.o.rd ae.o
     | exact Xj.rd (((bz.o.set w.heap.size 0 J.o _).set w.heap.size 1 J.o _).set w.heap.size 2 J.o _) ae.o
    ·first
     | exact br.o
     | exact Z3 bx.o w.heap.size zL _ _ _
theorem Jn {P:Program} {ι:Type} (W:ι->World) (b:ι) {id:Nat} {Q:Exit->Act->World->Prop} {a:Act} {w:World} {l:List Oper} (e:P.follows .mixedOrders=true) (d:Region.lexB .any l.toArray=true) (c:W b=w.drew)
 (h:wpQuiet P l.toArray (fun w'=>∃ n,w'=W n) (fun a'=>∀ w',(∃ n,w'=W n)->Q .normal a' w') l a):(Code.region id l.toArray true).wp P Q a w:=
 wp_region_quiet (C:=fun w'=>∃ n,w'=W n) e d ⟨b,c.symm⟩ (by simpa using h)
theorem ZnO (B:Nat) (w:World):∃ (ι:Type) (_:Nonempty ι) (W:ι->World),(∀ i,Below B w (W i))∧∀ w',Below B w w'->∃ i,w'=W i:=
 ⟨{ w' // Below B w w' },⟨⟨w,Below.refl _ _⟩⟩,Subtype.val,fun i=>i.2,fun w' h=>⟨⟨w',h⟩,rfl⟩⟩
theorem ZbF (v:Value) (l:List Rec) (w:World) (y:RdR w v l):
 Calls prog 48 #[v] w fun e w'=>e=.returned (.bool (decide (Yc l)))∧Below w.heap.size w w':=by
 have HR:=ZZ y;obtain⟨ao,cap,rfl,av,ah,-,-,af⟩:=y;have aC:(l.length:Int)<=9223372036854775807:=by unfold maxLen at ah;omega
 have aq:=ZZ af;clear af av ah;by_cases K:1<=l.length
 case neg=>
  have N:Hid (decide (Yc l)=false):=decide_eq_false (fun h=>K h.1)
  have am:(l.length:Int)<1:=by omega
  rw[N.o]
  go_enter func48,ntmps48
  go_wp2;go_ret;exact⟨rfl,Below.refl _ _⟩
 have am:¬ (l.length:Int)<1:=by omega
 by_cases S:l.length<=256
 case neg=>
  have N:Hid (decide (Yc l)=false):=decide_eq_false (fun h=>S h.2.1)
  have an:256<(l.length:Int):=by omega
  rw[N.o]
  go_enter func48,ntmps48
  go_wp2;go_ret;exact⟨rfl,Below.refl _ _⟩
 have an:¬ 256<(l.length:Int):=by omega
 have ag:=ZZ (fun h=>Zvy (l:=l) h K S)
 have ac:=ZZ (fun(h:Yc l) k=>h.part k)
 have ay:=ZZ (fun r W=>Zig r W)
 obtain⟨D,H⟩:∃ D,D=decide (Yc l):=⟨_,rfl⟩;rw[<-H];have az:Hid (ZjQ l l.length->D=true):=fun h=>by rw[H];exact decide_eq_true (ag.o h)
 have ae:Hid (∀ k,¬ ZjQ l k->D=false):=fun k h=>by rw[H];exact decide_eq_false (fun M=>h (ac.o M k))
 have al:=ZZ (ZsJ l);have aB:(0:Int)<(l.length:Int):=by omega
 clear H ag ac K S
 go_enter func48,ntmps48
 go_wp2
 go_loopw[15] (fun Q wr=>∃ k:Nat,Q=.int .i64 (k:Int)∧k<=l.length∧Hid (ZjQ l k)∧Hid (Below w.heap.size w wr)) (fun Q _=>l.length-(intOf Q).toNat)
 case atStart=>exact⟨0,rfl,Nat.zero_le _,al,Below.refl _ _⟩
 case round=>
  obtain⟨k,rfl,hk,J,G⟩:=hrel;by_cases u:k<l.length
  case neg=>
   obtain rfl:k=l.length:=by omega
   have HT:=ZZ (az.o J.out);go_wp2;go_ret;rw[HT.o];exact⟨rfl,G.out⟩
  rcases aq.o with h0 | ⟨c,ax,rfl,U⟩
  ·rw[h0] at u;simp at u
  have Z:=U k u;have R:=U 0 (by omega)
  have Y:=ZZ (fun W (h:Below w.heap.size w W)=>Z.keep (h.block c Z.lt))
  have ad:=ZZ (fun W (h:Below w.heap.size w W)=>(R.keep (h.block c R.lt)).1)
  have g:=ZZ (ZsK u);have hh:l.headD Qi=l.getD 0 Qi:=by cases l <;> simp
  rw[hh] at g
  have ab:Hid (Qz (l.getD k Qi)->Qz (l.getD 0 Qi)):=ZZ (fun M=>by
   cases k with
   | zero=>exact M
   | succ q=>
    refine J.out.1 _ ?_
    cases l with
    | nil=>simp at u
    | cons x t=>simp)
  have ak:=Y.o wr G.out;obtain⟨c0,c1,c2,c3,c4,c5,c6⟩:=ak;have z:=ZZ (ay.o (l.getD k Qi));have aw:∃ C,C=decide (Qz (l.getD k Qi)):=⟨_,rfl⟩;obtain⟨C,aa⟩:=aw;rw[<-aa] at z;have O:=ZZ aa;unfold Zso at z;obtain⟨r,y⟩:∃ r,r=l.getD k Qi:=⟨_,rfl⟩;rw[<-y] at z g O Y ab c0 c1 c2 c3 c4 c5 c6;clear aa U Z y R hh;generalize (l.getD 0 Qi)=E at *
  go_upto_region 6 with fail
  obtain⟨f,n⟩:∃ f,f=wr.alloc (.cells (Ja r) 62):=⟨_,rfl⟩;have aA:f.heap.size=wr.heap.size+1:=by rw[n];simp
  have aj:Hid (Below w.heap.size w f):=ZZ (by rw[n];exact G.out.alloc G.out.size _)
  have ap:Hid (Br f wr.heap.size (Ja r)):=ZZ (by rw[n];exact heap_alloc_new wr _)
  unfold Ja at n;rw[<-n];clear n c0 c1 c2 c3 c4 c5 c6;obtain⟨ι,aD,V,hV,T⟩:=ZnO f.heap.size f;have F:=ZZ hV;have HM:=ZZ T;obtain⟨X,P⟩:=T f.drew (Below.refl _ _).drew;have B:Hid (∀ i,Below w.heap.size w (V i)):=ZZ (fun i=>aj.o.trans ((F.o i).mono aj.o.size))
  have d:∀ i,Br (V i) wr.heap.size (Ja r):=fun i=>((F.o i).block _ (by omega)).trans ap.o
  have d0:∀ i,(V i).cell? ⟨wr.heap.size,0,none⟩=some (.int .i64 r.idx):=fun i=>((d i).cell 0).1
  have d1:∀ i,(V i).cell? ⟨wr.heap.size,1,none⟩=some (.int .i64 r.proc):=fun i=>((d i).cell 1).1
  have d2:∀ i,(V i).cell? ⟨wr.heap.size,2,none⟩=some (.int .i64 r.seq):=fun i=>((d i).cell 2).1
  have d3:∀ i,(V i).cell? ⟨wr.heap.size,3,none⟩=some (.int .i64 r.op.code):=fun i=>((d i).cell 3).1
  have d4:∀ i,(V i).cell? ⟨wr.heap.size,4,none⟩=some (.int .i64 r.op.a):=fun i=>((d i).cell 4).1
  have d5:∀ i,(V i).cell? ⟨wr.heap.size,5,none⟩=some (.int .i64 r.op.b):=fun i=>((d i).cell 5).1
  have d6:∀ i,(V i).cell? ⟨wr.heap.size,6,none⟩=some (.int .i64 r.resp):=fun i=>((d i).cell 6).1
  have e0:∀ i,(V i).cell? ⟨c,ax,none⟩=some (.int .i64 E.idx):=fun i=>by
   have h:=ad.o (V i) (B.o i)
   rwa [Nat.zero_mul,Nat.add_zero] at h
  have L:Hid (∀ i,Calls prog 41 #[.agg #[.int .i64 r.idx,.int .i64 r.proc,.int .i64 r.seq,.int .i64 r.op.code,.int .i64 r.op.a,.int .i64 r.op.b,.int .i64 r.resp]] (V i) fun e w'=>e=.returned (.bool C)∧∃ m,w'=V m):=ZZ (fun i=>(z.o (V i)).mono fun e w' h=>⟨h.1,HM.o w' ((F.o i).trans (h.2.mono (F.o i).size))⟩)
  clear hV T d z ad Y
  cases C with
  | false=>
   have I:=ZZ (ae.o (k+1) (fun h=>of_decide_eq_false O.o.symm (g.o.1 h).2.1))
   refine Jn V X (by kernel_rfl) (by kernel_rfl) P.symm ?_
   repeat (go_big_quiet_step ((go_at_call 41;exact L.o _)))
   refine wpQuiet_nil ?_;intro _ A;obtain⟨nq,p⟩:=A;subst p;go_wp2;go_ret;rw[I.o];exact⟨rfl,B.o _⟩
  | true=>
   have ai:=ZZ (of_decide_eq_true O.o.symm);obtain⟨-,i1,i2,-⟩:=ab.o ai.o;by_cases j:r.idx=E.idx+k
   ·have ar:(r.idx != E.idx+k)=false:=by rw[bne_eq_false_iff_eq];exact j
    have au:=ZZ (g.o.2 ⟨J.out,ai.o,j⟩);clear g j;refine Jn V X (by kernel_rfl) (by kernel_rfl) P.symm ?_
    repeat (go_big_quiet_step ((go_at_call 41;exact L.o _)))
    refine wpQuiet_nil ?_;intro _ A;obtain⟨nq,p⟩:=A;subst p;go_wp2;go_roundw
    case rel=>exact⟨k+1,by go_num,by omega,au,B.o _⟩
    case measure=>simp[intOf];omega
   ·have ar:(r.idx != E.idx+k)=true:=by rw[bne_iff_ne];exact j
    have I:=ZZ (ae.o (k+1) (fun h=>j (g.o.1 h).2.2))
    clear g j;refine Jn V X (by kernel_rfl) (by kernel_rfl) P.symm ?_
    repeat (go_big_quiet_step ((go_at_call 41;exact L.o _)))
    refine wpQuiet_nil ?_;intro _ A;obtain⟨nq,p⟩:=A;subst p;go_wp2;go_ret;rw[I.o];exact⟨rfl,B.o _⟩
def ZAr (w:World) (l:List UInt8) (o:Opn) (e:Ending) (w':World):Prop:=
 ∃ v',e=.returned (.tuple #[v',.int .i64 (if Ge o then 0 else 1)])∧Own w' w.heap.size v' (if Ge o then l++X6 o else l)∧Below w.heap.size w w'
theorem ZvC (v:Value) (l:List UInt8) (o:Opn) (w:World) (H:Rd w v l) (au:l.length<=90000):
 Calls prog 185 #[v,opV o] w fun e w'=>ZAr w l o e w':=by
 obtain⟨k,p,rfl,aq⟩:∃ k p,v=.slice k l.length p∧Rd w (.slice k l.length p) l:=by
  have h:=H;obtain⟨k,p,rfl,_⟩:=H;exact⟨k,p,rfl,h⟩
 have Y:=ZZ H;clear aq;have T:=ZZ (fun w=>ZlH o w)
 have E:Hid (∀ X,Below w.heap.size w (w.alloc X)):=fun X=>(Below.refl _ _).alloc zL X
 obtain⟨c,a,b⟩:=o;clear H;show Calls prog _ #[_,.agg #[.int .i64 c,.int .i64 a,.int .i64 b]] w _;have Z:Hid (∀ W,Calls prog 80 #[.agg #[.int .i64 c,.int .i64 a,.int .i64 b]] W fun e w'=>e=.returned (.bool (decide (Ge ⟨c,a,b⟩)))∧Below W.heap.size W w'):=T.o
 clear T;unfold ZAr;by_cases d:Ge ⟨c,a,b⟩
 ·simp only [if_pos d]
  have P:=ZZ (decide_eq_true d);have C:Hid (I64 a):=(ZaM d).1;have B:Hid (I64 b):=(ZaM d).2;have V:0<=c:=d.1;have aj:c<=10:=d.2.1;have ak:=Gh (n:=c.toNat) (by omega)
  have ah:=Zwv C.o;have ad:=Zwv B.o
  have HP:Hid (∀ W,Calls prog 132 #[.slice none 0 0,.int .i64 c] W fun e w'=>∃ v',e=.returned v'∧Own w' W.heap.size v' (Lib.uvarint c.toNat)∧Below W.heap.size W w'):=fun W=>by
   have h:=ZbE (.slice none 0 0) [] c W (Rd.nil W) (by simp)
   rw[J0 V (by omega),nil_append] at h
   exact h
  have HA:Hid (∀ W,Calls prog 142 #[.slice none 0 0,.int .i64 a] W fun e w'=>∃ v',e=.returned v'∧Own w' W.heap.size v' (Lib.uvarint (Lib.zigzag a))∧Below W.heap.size W w'):=fun W=>by
   have h:=Gj (.slice none 0 0) [] a W (Rd.nil W) (by simp) C.o.1 C.o.2
   rw[nil_append] at h;exact h
  have HB:Hid (∀ W,Calls prog 142 #[.slice none 0 0,.int .i64 b] W fun e w'=>∃ v',e=.returned v'∧Own w' W.heap.size v' (Lib.uvarint (Lib.zigzag b))∧Below W.heap.size W w'):=fun W=>by
   have h:=Gj (.slice none 0 0) [] b W (Rd.nil W) (by simp) B.o.1 B.o.2
   rw[nil_append] at h;exact h
  have U:Hid (X6 ⟨c,a,b⟩=Lib.uvarint c.toNat++(Lib.uvarint (Lib.zigzag a)++Lib.uvarint (Lib.zigzag b))):=rfl;rw[U.o];have ai:Hid (∀ W N G D x i,N=W.heap.size->Rd W G l->Rd W D (Lib.uvarint c.toNat)->Rd W x (Lib.uvarint (Lib.zigzag a))->Rd W i (Lib.uvarint (Lib.zigzag b))->Calls prog 131 #[.slice (some ⟨N,0,none⟩) 4 4] (W.alloc (.cells #[G,D,x,i] 53)) fun e w'=>∃ v',e=.returned v'∧Own w' W.heap.size v' (l++(Lib.uvarint c.toNat++(Lib.uvarint (Lib.zigzag a)++Lib.uvarint (Lib.zigzag b))))∧Below W.heap.size W w'):=fun W N G D x i hN h0 h1 h2 h3=>Zvj W N hN G D x i _ _ _ _ h0 h1 h2 h3 (by omega)
  clear d ak ah ad U C B V aj;generalize Lib.uvarint c.toNat=A at *;generalize Lib.uvarint (Lib.zigzag a)=LA at *;generalize Lib.uvarint (Lib.zigzag b)=LB at *;generalize l++(A++(LA++LB))=LL at *
  go_enter func185,ntmps185
  go_wp2_with fail
  refine(Z.o _).mono ?_;rintro e W1 ⟨rfl,L⟩;rw[P.o];have u:Bo W1 w.heap.size _:=(L.block w.heap.size (by simp)).trans (heap_alloc_new w _)
  have ap:=ZZ u;have O:=ZZ ((E.o _).trans (L.mono (E.o _).size));obtain⟨p0,-⟩:=u.cell 0;obtain⟨p1,-⟩:=u.cell 1;obtain⟨p2,-⟩:=u.cell 2;have av:=O.o.size;clear L u;go_wp2
  go_region_held(fun w'=>w'.cell? ⟨w.heap.size,0,none⟩=some (.int .i64 c)∧w'.cell? ⟨w.heap.size,1,none⟩=some (.int .i64 a)∧w'.cell? ⟨w.heap.size,2,none⟩=some (.int .i64 b)) (go_keep)
   (first
    | (go_at_call 132;refine(HP.o _).mono ?_;rintro e W2 ⟨x,rfl,R,j⟩;have t:=ap.o.below (((Below.refl _ _).drew).trans j) zL;have am:=ZZ t;have f:=ZZ (O.o.trans ((((Below.refl _ _).drew).trans j).mono O.o.size));obtain⟨a2,c2,rfl,-⟩:=R.rd;have al:=ZZ R.rd;obtain⟨q0,-⟩:=t.cell 0;obtain⟨q1,-⟩:=t.cell 1;obtain⟨q2,-⟩:=t.cell 2;clear R j t)
    | (go_at_call_of 142 (Value.int .i64 a);refine(HA.o _).mono ?_;rintro e W3 ⟨i,rfl,m,g⟩;have y:=am.o.below g zL;have ao:=ZZ y;have F:=ZZ (f.o.trans (g.mono f.o.size));have ac:=ZZ (al.o.below g zL);obtain⟨a3,c3,rfl,-⟩:=m.rd;have M:=ZZ m.rd;obtain⟨r0,-⟩:=y.cell 0;obtain⟨r1,-⟩:=y.cell 1;obtain⟨r2,-⟩:=y.cell 2;clear m g y)
    | (go_at_call_of 142 (Value.int .i64 b);refine(HB.o _).mono ?_;rintro e W4 ⟨v4,rfl,Q,z⟩;have q:=ao.o.below z zL;have aa:=ZZ q;have J:=ZZ (F.o.trans (z.mono F.o.size));have af:=ZZ (ac.o.below z zL);have ar:=ZZ (M.o.below z zL);obtain⟨a4,c4,rfl,-⟩:=Q.rd;have ab:=ZZ Q.rd;obtain⟨s0,-⟩:=q.cell 0;obtain⟨s1,-⟩:=q.cell 1;obtain⟨s2,-⟩:=q.cell 2;clear Q z q)
    | (go_at_call 131;refine(ai.o W4 W4.heap.size _ _ _ _ rfl (Y.o.below J.o zL) af.o ar.o ab.o).mono ?_;rintro e W5 ⟨v5,rfl,S,K⟩;have I:=aa.o.below K zL;have ag:=ZZ (J.o.trans (K.mono J.o.size));have ae:=ZZ (S.mono J.o.size);obtain⟨t0,-⟩:=I.cell 0;obtain⟨t1,-⟩:=I.cell 1;obtain⟨t2,-⟩:=I.cell 2;clear S K I))
  all_goals
   go_wp2;go_ret2;exact⟨_,rfl,ae.o,ag.o⟩
 ·simp only [if_neg d]
  have P:=ZZ (decide_eq_false d);have an:=ZZ (fun W h=>ZsC (.slice k l.length p) l W h (by omega))
  clear d
  go_enter func185,ntmps185
  go_wp2_with fail
  refine(Z.o _).mono ?_;rintro e W2 ⟨rfl,j⟩;rw[P.o];have f:=ZZ ((E.o _).trans (j.mono (E.o _).size));clear j
  go_wp2_with fail
  refine(an.o _ (Y.o.below f.o zL)).mono ?_;rintro e W3 ⟨i,rfl,m,g⟩;have M:=ZZ (m.mono f.o.size);have F:=ZZ (f.o.trans (g.mono f.o.size));clear m g;go_wp2;go_ret2;exact⟨_,rfl,M.o,F.o⟩
open Go.RowKit Go.Maps
theorem ZvD:Keyed prog 3:=int_keyed underlying3
theorem ZyY (w:World):(zeroValue 3).run prog w=.ok (.int .i64 0) w:=by kernel_rfl
theorem ZAs {n:Int} (h:I64 n):(Lit.int .i64 n).wf=true:=WalkArith.wf_i64 (by obtain⟨a,b⟩:=h;omega)
def ZfU (w:World) (b n:Nat) (f:Int->Int):Prop:=
 ∃ D:DataW Unit,w.ownsMap prog 3 (plainElem prog 3) b n D∧IsMap D∧∀ p,I64 p->D.atKey (.int .i64 p) (.lit (.int .i64 0))=.lit (.int .i64 (f p))
theorem ZfU.made (w:World):ZfU (w.alloc (.map #[] 0)) w.heap.size 0 (fun _=>0):=
 ⟨.map [],World.ownsMap_made _ _ _ _,isMap_empty,fun _ _=>rfl⟩
theorem ZfU.lt (h:ZfU w b n f):b<w.heap.size:=by
 obtain⟨D,a,_⟩:=h;exact a.lt
theorem ZfU.keep (h:ZfU w b n f) (a:w'.heap[b]?=w.heap[b]?):ZfU w' b n f:=by
 obtain⟨D,⟨g,c,e,r⟩,d⟩:=h;exact⟨D,⟨g,c,a.trans e,r⟩,d⟩
theorem ZfU.below (h:ZfU w b n f) (a:Below B w w') (c:w.heap.size<=B):ZfU w' b n f:=
 h.keep (a.block b (by have:=h.lt;omega))
theorem ZfU.apart (h:ZfU w b n f) {cs:Array Value} {t:TypeId} {z:Nat × Nat} {g:Nat} (a:w.heap[g]?=some (.cells cs t z)):g≠b:=by
 obtain⟨D,⟨i,d,c,_⟩,_⟩:=h;intro e;rw[e,c] at a
 cases a
theorem ZfU.look (h:ZfU w b n f) {p:Int} (d:I64 p):(Instr.lookup 183 (.map (some b)) (.int .i64 p) false).run prog w=.ok (.int .i64 (f p)) w:=by
 obtain⟨D,i,_,g⟩:=h;obtain⟨c,j,a,_⟩:=i.lookup_int ZvD underlying183 underlying3 (ZyY _) (keyOf_int_mk underlying3 (ZAs d));rw[g p d] at a;have e:f p=c:=by simpa using a
 rw[j,e]
def Zzu (f:Int->Int) (p x:Int):Int->Int:=fun q=>if p=q then x else f q
theorem ZfU.put (h:ZfU w b n f) {p x:Int} (k:I64 p) (c:I64 x) (t:n<=1000000000000):
 ∃ w',(Instr.mapUpdate 183 (.map (some b)) (.int .i64 p) (.int .i64 x)).run prog w=.ok () w'∧ZfU w' b (n+1) (Zzu f p x)∧w.grownBy w' (some b):=by
 obtain⟨D,l,a,d⟩:=h;obtain⟨w',g,m,i⟩:=l.update ZvD underlying183 (by unfold maxLen;omega) (keyOf_int_mk underlying3 (ZAs k)) (plainElem_int underlying3 (ZAs c))
 refine⟨w',g,⟨_,m,a.put _ _,fun q j=>?_⟩,i⟩
 unfold Zzu;by_cases e:p=q
 ·rw[if_pos e,<-e,atKey_put_same a (by first | exact trivial | simp[WideAt.IsKeyLit])]
 ·rw[if_neg e,atKey_put_other (by intro h;injection h with _ h;exact e h.symm),d q j]
theorem ZfU.own (h:ZfU w b n f) {B:Nat} {v:Value} {l:List UInt8} (d:Own w B v l):v.ownBlock=none∨v.ownBlock≠some b:=by
 rcases d.2 with ⟨a,_⟩ | ⟨g,cap,cur,a,_,i,_⟩
 ·exact .inl (by rw[a];rfl)
 ·right
  rw[a];have c:=h.apart i;intro e;exact c (by simpa[Value.ownBlock] using e)
theorem ZyZ (W:World) (N:Nat) (i:N=W.heap.size) (d c:Value) (b a:List UInt8) (n:Rd W d b) (m:Rd W c a) (p:b.length+a.length<=1000000):
 Calls prog 131 #[.slice (some ⟨N,0,none⟩) 2 2] (W.alloc (.cells #[d,c] 53)) fun e w'=>∃ v',e=.returned v'∧Own w' W.heap.size v' (b++a)∧Below W.heap.size W w':=by
 have h:=RdL.built W N i #[d,c] [b,a] (by simp) (fun j l=>by
  match j,l with
  | 0,_=>exact⟨d,rfl,n⟩
  | 1,_=>exact⟨c,rfl,m⟩)
 have f:[b,a].flatten=b++a:=by simp
 refine(Zdi _ _ _ h (by rw[f];simp only [length_append];omega) (by simp)).mono ?_
 rintro e w' ⟨v',rfl,g,k⟩;rw[f] at g;exact⟨v',rfl,g.mono (by simp),((Below.refl _ _).alloc zL _).trans (k.mono (by simp))⟩
theorem ZiI (r:Rec) (d:Int) (w:World) (l:Qz r) (y:I64 d):
 Calls prog 133 #[Zso r,.int .i64 d] w fun e w'=>∃ v',e=.returned v'∧Own w' w.heap.size v' (Lib.uvarint r.proc.toNat++(Lib.uvarint (Lib.zigzag d)++(X6 r.op++Lib.uvarint (Lib.zigzag r.resp))))∧Below w.heap.size w w':=by
 have J:Hid (∀ X,Below w.heap.size w (w.alloc X)):=fun X=>(Below.refl _ _).alloc zL X
 have X1:Hid (∀ cs,Br (w.alloc (.cells cs 62)) w.heap.size cs):=fun cs=>heap_alloc_new w _
 have j:=ZZ (fun W=>ZvC (.slice none 0 0) [] r.op W (Rd.nil W) (by simp))
 unfold ZAr at j;rw[if_pos l.1,if_pos l.1,nil_append] at j;have v:=ZZ (ZaX l);have aa:=Zgr l.1;obtain⟨_,_,_,_,_,Q,af,_⟩:=l;have am:=Gh (n:=r.proc.toNat) (by omega)
 have ag:=Zwv y;have aj:=Zwv v.o
 have V:Hid (∀ W,Calls prog 132 #[.slice none 0 0,.int .i64 r.proc] W fun e w'=>∃ v',e=.returned v'∧Own w' W.heap.size v' (Lib.uvarint r.proc.toNat)∧Below W.heap.size W w'):=fun W=>by
  have h:=ZbE (.slice none 0 0) [] r.proc W (Rd.nil W) (by simp)
  rw[J0 Q (by omega),nil_append] at h
  exact h
 have HA:Hid (∀ W,Calls prog 142 #[.slice none 0 0,.int .i64 d] W fun e w'=>∃ v',e=.returned v'∧Own w' W.heap.size v' (Lib.uvarint (Lib.zigzag d))∧Below W.heap.size W w'):=fun W=>by
  have h:=Gj (.slice none 0 0) [] d W (Rd.nil W) (by simp) y.1 y.2
  rw[nil_append] at h;exact h
 have HB:Hid (∀ W,Calls prog 142 #[.slice none 0 0,.int .i64 r.resp] W fun e w'=>∃ v',e=.returned v'∧Own w' W.heap.size v' (Lib.uvarint (Lib.zigzag r.resp))∧Below W.heap.size W w'):=fun W=>by
  have h:=Gj (.slice none 0 0) [] r.resp W (Rd.nil W) (by simp) v.o.1 v.o.2
  rw[nil_append] at h;exact h
 have al:Hid (∀ W N q g k f,N=W.heap.size->Rd W q (Lib.uvarint r.proc.toNat)->Rd W g (Lib.uvarint (Lib.zigzag d))->Rd W k (X6 r.op)->Rd W f (Lib.uvarint (Lib.zigzag r.resp))->Calls prog 131 #[.slice (some ⟨N,0,none⟩) 4 4] (W.alloc (.cells #[q,g,k,f] 53)) fun e w'=>∃ v',e=.returned v'∧Own w' W.heap.size v' (Lib.uvarint r.proc.toNat++(Lib.uvarint (Lib.zigzag d)++(X6 r.op++Lib.uvarint (Lib.zigzag r.resp))))∧Below W.heap.size W w'):=fun W N q g k f hN h0 h1 h2 T=>Zvj W N hN q g k f _ _ _ _ h0 h1 h2 T (by omega)
 clear am ag aa aj v Q af y;unfold opV at j;obtain⟨idx,proc,seq,⟨O,a,b⟩,resp⟩:=r;show Calls prog _ #[.agg #[.int .i64 idx,.int .i64 proc,.int .i64 seq,.int .i64 O,.int .i64 a,.int .i64 b,.int .i64 resp],.int .i64 d] w _
 dsimp only at *
 generalize Lib.uvarint proc.toNat=A at *;generalize Lib.uvarint (Lib.zigzag d)=R at *;generalize Lib.uvarint (Lib.zigzag resp)=LB at *;generalize X6 ⟨O,a,b⟩=Y at *;generalize A++(R++(Y++LB))=LL at *
 go_enter func133,ntmps133
 go_wp2_with fail
 refine(j.o _).mono ?_;rintro e W1 ⟨g,rfl,E,B⟩;have u:Br W1 w.heap.size _:=(X1.out _).below B zL;have ar:=ZZ u;have D:=ZZ ((J.o _).trans (B.mono (J.o _).size));have ap:=ZZ E.rd;obtain⟨a1,c1,rfl,-⟩:=E.rd;obtain⟨p1,-⟩:=u.cell 1;obtain⟨p6,-⟩:=u.cell 6;have av:=D.o.size;clear B u E j;go_wp2
 go_region_held(fun w'=>w'.cell? ⟨w.heap.size,1,none⟩=some (.int .i64 proc)∧w'.cell? ⟨w.heap.size,6,none⟩=some (.int .i64 resp)) (go_keep)
  (first
   | (go_at_call 132;refine(V.o _).mono ?_;rintro e W2 ⟨k,rfl,G,m⟩;have t:=ar.o.below (((Below.refl _ _).drew).trans m) zL;have ao:=ZZ t;have K:=ZZ (D.o.trans ((((Below.refl _ _).drew).trans m).mono D.o.size));have ak:=ZZ (ap.o.below (((Below.refl _ _).drew).trans m) zL);obtain⟨a2,c2,rfl,-⟩:=G.rd;have an:=ZZ G.rd;obtain⟨q1,-⟩:=t.cell 1;obtain⟨q6,-⟩:=t.cell 6;clear G m t)
   | (go_at_call_of 142 (Value.int .i64 d);refine(HA.o _).mono ?_;rintro e W3 ⟨f,rfl,C,i⟩;have x:=ao.o.below i zL;have aq:=ZZ x;have L:=ZZ (K.o.trans (i.mono K.o.size));have Z:=ZZ (an.o.below i zL);have ae:=ZZ (ak.o.below i zL);obtain⟨a3,c3,rfl,-⟩:=C.rd;have ai:=ZZ C.rd;obtain⟨r1,-⟩:=x.cell 1;obtain⟨r6,-⟩:=x.cell 6;clear C i x)
   | (go_at_call_of 142 (Value.int .i64 resp);refine(HB.o _).mono ?_;rintro e P ⟨v4,rfl,F,c⟩;have p:=aq.o.below c zL;have S:=ZZ p;have I:=ZZ (L.o.trans (c.mono L.o.size));have ac:=ZZ (Z.o.below c zL);have au:=ZZ (ai.o.below c zL);have ah:=ZZ (ae.o.below c zL);obtain⟨a4,c4,rfl,-⟩:=F.rd;have U:=ZZ F.rd;obtain⟨s1,-⟩:=p.cell 1;obtain⟨s6,-⟩:=p.cell 6;clear F c p)
   | (go_at_call 131;refine(al.o P P.heap.size _ _ _ _ rfl ac.o au.o ah.o U.o).mono ?_;rintro e W5 ⟨v5,rfl,M,z⟩;have H:=S.o.below z zL;have ad:=ZZ (I.o.trans (z.mono I.o.size));have ab:=ZZ (M.mono I.o.size);obtain⟨t1,-⟩:=H.cell 1;obtain⟨t6,-⟩:=H.cell 6;clear M z H))
 all_goals
  go_wp2;go_ret;exact⟨_,rfl,ab.o,ad.o⟩
theorem ZiJ (l:List Rec) (r:Rec):Zzu (Q7 l) r.proc r.seq=Q7 (l++[r]):=by
 funext q
 unfold Zzu;rw[ZmJ]
theorem Br.own {cs:Array Value} (h:Br w b cs) {B:Nat} {v:Value} {l:List UInt8} (i:Own w B v l):some b≠v.ownBlock:=by
 rcases i.2 with ⟨a,_⟩ | ⟨g,cap,cur,a,_,c,_⟩
 ·rw[a]
  intro e
  cases e
 ·rw[a]
  intro e;have d:b=g:=by simpa[Value.ownBlock] using e
  unfold Br at h;rw[d,c] at h
  have f:(5:TypeId)=62:=by
   injection h with h
   injection h
  exact absurd f (by decide)
theorem ZgJ (v:Value) (l:List Rec) (w:World) (b:RdR w v l):
 Calls prog 90 #[v] w fun e w'=>ZlV w l e w':=by
 have HR:=ZZ b;have K:=ZZ (fun W h=>ZbF v l W h)
 obtain⟨ao,cap,rfl,a6,aI,-,-,aF⟩:=b;have bg:(l.length:Int)<=9223372036854775807:=by unfold maxLen at aI;omega
 have a0:=ZZ aF;clear aF a6 aI;unfold ZlV;by_cases a:Yc l
 case neg=>
  simp only [if_neg a];rw[decide_eq_false a] at K;clear a
  go_enter func90,ntmps90
  go_wp2_with fail
  refine(K.o _ HR.o).mono ?_;rintro e W1 ⟨rfl,m⟩;have B:=ZZ m;clear m;go_wp2;go_ret2;exact⟨_,rfl,Own.nil _ _,B.o⟩
 simp only [if_pos a];rw[decide_eq_true a] at K;have q:1<=l.length:=a.1;have h2:l.length<=256:=a.2.1;rcases a0.o with h0 | ⟨c,aQ,rfl,hc⟩
 ·rw[h0] at q;simp at q
 have az:Hid (∀ k,k<l.length->∀ W,Below w.heap.size w W->ZjI W c (aQ+k*7) (l.getD k Qi)):=ZZ (fun k f W h=>(hc k f).keep (h.block c (hc k f).lt))
 have aU:Hid (∀ k,k<l.length->Qz (l.getD k Qi)):=ZZ (fun k f=>a.2.2.1 _ (by simp[List.getD,f]))
 have ap:Hid (∀ k,∀ r ∈ l.take k,Qz r):=ZZ (fun k r b=>a.2.2.1 r (List.mem_of_mem_take b))
 have hh:l.headD Qi=l.getD 0 Qi:=by cases l <;> simp
 obtain⟨_,i0,i1,_⟩:=aU.o 0 q
 have aT:Hid (X9 l=(Lib.uvarint (l.getD 0 Qi).idx.toNat++Lib.uvarint l.length)++Yg [] (l.take l.length)):=ZZ (by
  unfold X9
  rw[hh,take_length,List.append_assoc])
 have aW:=ZZ (fun k f=>ZrJ l k f)
 have a1:Hid (∀ k,(Yg [] (l.take k)).length<=60*256):=ZZ (fun k=>by
  have h3:=ZnJ (l.take k) [] (fun r b=>by simp at b) (ap.o k)
  have h4:(l.take k).length<=l.length:=by simp;omega
  omega)
 have u1:=Gh (n:=(l.getD 0 Qi).idx.toNat) (by omega)
 have u2:=Gh (n:=l.length) (by omega)
 have aN:Hid (∀ W,Calls prog 132 #[.slice none 0 0,.int .i64 (l.getD 0 Qi).idx] W fun e w'=>∃ v',e=.returned v'∧Own w' W.heap.size v' (Lib.uvarint (l.getD 0 Qi).idx.toNat)∧Below W.heap.size W w'):=fun W=>by
  have h:=ZbE (.slice none 0 0) [] (l.getD 0 Qi).idx W (Rd.nil W) (by simp)
  rw[J0 i0 (by omega),nil_append] at h
  exact h
 have aq:Hid (∀ W,Calls prog 132 #[.slice none 0 0,.int .i64 (l.length:Int)] W fun e w'=>∃ v',e=.returned v'∧Own w' W.heap.size v' (Lib.uvarint l.length)∧Below W.heap.size W w'):=fun W=>by
  have h:=ZbE (.slice none 0 0) [] (l.length:Int) W (Rd.nil W) (by simp)
  rw[J0 (by omega) (by omega),Int.toNat_natCast,nil_append] at h
  exact h
 rw[aT.o];have aR:(Lib.uvarint (l.getD 0 Qi).idx.toNat++Lib.uvarint l.length).length<=20:=by rw[length_append];omega
 have aS:=(az.o 0 q);have aV:=ZZ aS;have be:=ZZ a.2.2.1;have P:Hid (∀ W N O I,N=W.heap.size->Rd W O (Lib.uvarint (l.getD 0 Qi).idx.toNat)->Rd W I (Lib.uvarint l.length)->Calls prog 131 #[.slice (some ⟨N,0,none⟩) 2 2] (W.alloc (.cells #[O,I] 53)) fun e w'=>∃ v',e=.returned v'∧Own w' W.heap.size v' (Lib.uvarint (l.getD 0 Qi).idx.toNat++Lib.uvarint l.length)∧Below W.heap.size W w'):=fun W N O I hN h0 q=>ZyZ W N hN O I _ _ h0 q (by omega)
 clear a hc hh aT i0 i1 u1 u2 aS;generalize (l.getD 0 Qi)=r0 at *;generalize Lib.uvarint r0.idx.toNat=A at *;obtain⟨A2,aH⟩:∃ A2,A2=Lib.uvarint l.length:=⟨_,rfl⟩;rw[<-aH] at aq P aR ⊢;clear aH;obtain⟨H,hH⟩:∃ H,H=A++A2:=⟨_,rfl⟩;rw[<-hH] at P aR ⊢;clear hH;have bb:=@run_makeMap prog;have a9:(0:Int)<(l.length:Int):=by omega
 go_enter func90,ntmps90
 go_wp2_with fail
 refine(K.o _ HR.o).mono ?_;rintro e W1 ⟨rfl,m⟩;have B:=ZZ m
 have aY:W1.cell? ⟨c,aQ,none⟩=some (.int .i64 r0.idx):=by
  have h:=(aV.o W1 m).1
  rwa [Nat.zero_mul,Nat.add_zero] at h
 clear m
 go_wp2_with fail
 refine(aN.o _).mono ?_;rintro e W2 ⟨v2,rfl,au,ax⟩;obtain⟨a2,n2,rfl,-⟩:=au.rd;have aK:=ZZ au.rd;have ab:=ZZ (B.o.trans (ax.mono B.o.size));clear au ax aY B
 go_wp2_with fail
 refine(aq.o _).mono ?_;rintro e W3 ⟨v3,rfl,af,ai⟩;obtain⟨a3,n3,rfl,-⟩:=af.rd;have aC:=ZZ (aK.o.below ai zL);have aG:=ZZ af.rd;have J:=ZZ (ab.o.trans (ai.mono ab.o.size));clear af ai aK ab aN aq
 go_wp2_with fail
 refine(P.o W3 W3.heap.size _ _ rfl aC.o aG.o).mono ?_;rintro e D ⟨v4,rfl,aL,aM⟩;have aB:=ZZ (aL.mono J.o.size);have Y:=ZZ (J.o.trans (aM.mono J.o.size));clear aL aM aC aG J P;have d:Hid (Own (D.alloc (.map #[] 0)) w.heap.size v4 H):=ZZ (aB.o.below ((Below.refl _ _).alloc zL _) zL);have i:=ZZ (ZfU.made D);have x:Hid (Below w.heap.size w (D.alloc (.map #[] 0))):=ZZ (Y.o.alloc Y.o.size _);have HN:=ZZ Y.o.size;go_wp2
 go_loopw[4,24] (fun vo vi wr=>∃ k:Nat,vi=.int .i64 (k:Int)∧k<=l.length∧Hid (Own wr w.heap.size vo (H++Yg [] (l.take k)))∧Hid (ZfU wr D.heap.size k (Q7 (l.take k)))∧Hid (Below w.heap.size w wr)) (fun _ vi _=>l.length-(intOf vi).toNat)
 case atStart=>exact⟨0,rfl,Nat.zero_le _,by simpa[Yg] using d,i,x⟩
 case round=>
  clear d x i aB Y;obtain⟨k,rfl,f,t,hM,z⟩:=hrel;by_cases L:k<l.length
  case neg=>
   have aE:l.take k=l.take l.length:=by rw[take_length,List.take_of_length_le (by omega)]
   rw[aE] at t;clear aE;go_wp2;go_ret2;exact⟨_,rfl,t.out,z.out⟩
  have ba:(k:Int)<(l.length:Int):=by omega
  have p:=aU.o k L;have C:Hid (I64 ((l.getD k Qi).seq-Q7 (l.take k) (l.getD k Qi).proc)):=ZZ (Zeu (ap.o k) p);have u:Hid (∀ W,Calls prog 133 #[Zso (l.getD k Qi),.int .i64 ((l.getD k Qi).seq-Q7 (l.take k) (l.getD k Qi).proc)] W fun e w'=>∃ v',e=.returned v'∧Own w' W.heap.size v' (Zf (l.take k) (l.getD k Qi))∧Below W.heap.size W w'):=ZZ (fun W=>ZiI (l.getD k Qi) ((l.getD k Qi).seq-Q7 (l.take k) (l.getD k Qi).proc) W p C.o)
  have ak:Hid (I64 (l.getD k Qi).proc):=ZZ (by obtain⟨_,_,_,_,_,bj,bf,_⟩:=p;exact⟨by omega,by omega⟩)
  have aP:Hid (I64 (l.getD k Qi).seq):=ZZ (by obtain⟨_,_,_,bi,bc,_⟩:=p;exact⟨by omega,by omega⟩)
  have T:=ZZ (ZkD (ap.o k) p);have aw:=ZZ (az.o k L);have a8:=a1.o k;have al:Hid ((H++Yg [] (l.take k)).length<=20000):=ZZ (by rw[length_append];omega)
  have M:Hid (H++Yg [] (l.take (k+1))=(H++Yg [] (l.take k))++Zf (l.take k) (l.getD k Qi)):=ZZ (by
   rw[aW.o k L,List.append_assoc])
  have aD:Hid (Zzu (Q7 (l.take k)) (l.getD k Qi).proc (l.getD k Qi).seq=Q7 (l.take (k+1))):=ZZ (by
   rw[ZiJ,ZfQ L])
  clear a8 p;obtain⟨r,b⟩:∃ r,r=l.getD k Qi:=⟨_,rfl⟩;rw[<-b] at C u ak aP T aw M aD;unfold Zso at u;clear b;have ar:Hid (∀ X,(Instr.lookup 183 (.map (some D.heap.size)) (.int .i64 r.proc) false).run prog (wr.alloc X)=.ok (.int .i64 (Q7 (l.take k) r.proc)) (wr.alloc X)):=ZZ (fun X=>(hM.out.below ((Below.refl _ _).alloc zL X) zL).look ak.o)
  obtain⟨G,aA⟩:∃ G,G=Q7 (l.take k) r.proc:=⟨_,rfl⟩;rw[<-aA] at C u ar;clear aA;obtain⟨E,hE⟩:∃ E,E=Zf (l.take k) r:=⟨_,rfl⟩;rw[<-hE] at u T M;clear hE;obtain⟨S,ay⟩:∃ S,S=H++Yg [] (l.take k):=⟨_,rfl⟩;rw[<-ay] at t al M;clear ay;have L0:=al.o;have L1:=T.o;have bk:IntKind.i64.wrap (r.seq-G)=r.seq-G:=ZoP C.o;have a7:=ar.o;obtain⟨c0,c1,c2,c3,c4,c5,c6⟩:=aw.o wr z.out
  obtain⟨U,F,rfl⟩:∃ U F,u4=.slice U S.length F:=by
   obtain⟨U,F,h,-⟩:=t.out.rd;exact⟨U,F,h⟩
  have aJ:Hid (∀ cs,Br (wr.alloc (.cells cs 62)) wr.heap.size cs):=fun cs=>heap_alloc_new wr _
  have am:Hid (∀ X,Below wr.heap.size wr (wr.alloc X)):=fun X=>(Below.refl _ _).alloc zL X
  clear ar C al T
  go_wp2_with fail
  refine(u.o _).mono ?_;rintro e W5 ⟨v5,rfl,ae,Z⟩;obtain⟨a5,n5,rfl,-⟩:=ae.rd;have R:Below wr.heap.size wr W5:=(am.o _).trans (Z.mono (am.o _).size);have aO:=ZZ ae.rd;have d:=ZZ (t.out.below R zL);have i:=ZZ (hM.out.below R zL);have Q:Hid (Br W5 wr.heap.size _):=ZZ ((aJ.o _).below Z zL);have x:=ZZ (z.out.trans (R.mono z.out.size));have ag:=ZZ x.o.size;clear ae Z R t hM z aJ am c0 c1 c2 c3 c4 c5 c6 a7 u aw
  go_wp2_with(at_builtin;refine ZfP _ rfl _ _ rfl w.heap.size _ S rfl d.o _ E rfl aO.o (by omega) ag.o ?_)
  intro v6 W6 an V;rw[<-M.o] at an;have ah:=ZZ an;have ac:Hid (Br W6 wr.heap.size _):=ZZ ((V.block _ Q.o.lt (Q.o.own d.o)).trans Q.o)
  have ad:=ZZ (i.o.keep (V.block _ i.o.lt (by
   rcases i.o.own d.o with h | h
   ·rw[h];exact fun e=>by cases e
   ·exact fun e=>h e.symm)))
  have av:=ZZ (x.o.grown V ag.o (fun j y=>by
   rcases d.o.2 with ⟨hv,_⟩ | ⟨g,cap,cur,hv,bh,_⟩
   ·rw[hv] at y;cases y
   ·rw[hv] at y
    have e':g=j:=by simpa[Value.ownBlock] using y
    omega))
  clear an V d Q i x ag aO;obtain⟨W7,bd,aa,aj⟩:=ad.o.put ak.o aP.o (by omega)
  rw[aD.o] at aa;have a4:=ZZ aa;have aX:Hid (Own W7 w.heap.size v6 (H++Yg [] (l.take (k+1)))):=ZZ (World.ownsRow.kept ah.o aj (ad.o.own ah.o));have aZ:=ZZ (av.o.grown aj av.o.size (fun j y=>by cases y;exact HN.o))
  obtain⟨q1,-⟩:=ac.o.cell 1;obtain⟨q2,-⟩:=ac.o.cell 2;clear aa aj ad ah av ac;go_wp2;go_roundw
  case rel=>exact⟨k+1,by go_num,by omega,aX,a4,aZ⟩
  case measure=>simp[intOf];omega
theorem ZjS (v:Value) (l:List Rec) (w:World) (g:RdR w v l) (a:Yc l) (n:(X9 l).length<=1048576):
 Calls prog 49 #[v] w fun e w'=>∃ v',e=.returned v'∧Own w' w.heap.size v' (Qd (X9 l))∧Below w.heap.size w w':=by
 have d:=ZZ (ZgJ v l w g);unfold ZlV at d;rw[if_pos a,if_pos a] at d;have k:=ZZ (fun c W (h:Rd W c (X9 l))=>Zdj c _ W h)
 rw[ZlW n] at k;obtain⟨ao,cap,rfl,-⟩:=g;generalize X9 l=B at *;generalize Qd B=z at *;clear a n
 go_enter func49,ntmps49
 go_wp2_with fail
 refine d.o.mono ?_;rintro e u ⟨c,rfl,j,m⟩;have q:=ZZ j.rd;have b:=ZZ m;clear j m
 go_wp2_with fail
 refine(k.o _ _ q.o).mono ?_;rintro e x ⟨y,rfl,i,f⟩;have p:=ZZ (i.mono b.o.size);have t:=ZZ (b.o.trans (f.mono b.o.size));clear i f;go_wp2;go_ret;exact⟨_,rfl,p.o,t.o⟩
theorem ZlZ {L:ZdU} (w:World) (h:Jq M I w p pd L s) (m:ZpE s) (f:0<=s.now.st.kind∧s.now.st.kind<6) (u:s.next<4611686018427387904) (z:0<=s.next):
 Calls prog 51 #[ptr p] w fun e w'=>∃ v',e=.returned v'∧Own w' w.heap.size v' (Qd (Xq 3 s.now.st.kind.toNat s.next.toNat))∧Below w.heap.size w w':=by
 have n:=ZZ h
 have D:Hid (∀ W,Below w.heap.size w W->Calls prog 14 #[ptr p] W fun e w'=>e=.returned (.int .i64 s.next)∧Below w.heap.size w w'):=ZZ (fun W a=>(Zit W (h.below a) m).mono (by
  rintro e w' ⟨rfl,c⟩
  exact⟨rfl,a.trans (c.mono a.size)⟩))
 have B:Hid (∀ W,Below w.heap.size w W->Calls prog 93 #[.int .i64 3,.int .i64 s.now.st.kind,.int .i64 s.next] W fun e w'=>∃ v',e=.returned (.tuple #[v',.int .i64 0])∧Own w' w.heap.size v' (Qd (Xq 3 s.now.st.kind.toNat s.next.toNat))∧Below w.heap.size w w'):=ZZ (fun W a=>by
  have b:=ZnN 3 s.now.st.kind s.next W;have k:Zgs s.now.st.kind s.next:=⟨f.1,f.2,z,u⟩;have J:Jj 3 s.now.st.kind s.next=0:=by unfold Jj;rw[if_pos (by decide),if_pos k]
  have C:ZgI 3 s.now.st.kind s.next=Qd (Xq 3 s.now.st.kind.toNat s.next.toNat):=by unfold ZgI;rw[if_pos (by decide),if_pos k];rfl
  unfold Zrb at b;rw[J,C] at b;refine b.mono ?_;rintro e w' ⟨v',rfl,E,c⟩
  exact⟨v',rfl,E.mono a.size,a.trans (c.mono a.size)⟩)
 have d:Hid (∀ W,Below w.heap.size w W->W.cell? ⟨p,6,none⟩=some (.int .i64 s.now.st.kind)):=ZZ (fun W a=>by
  obtain⟨-,-,-,-,-,⟨-,y,-⟩,-⟩:=(n.o.below a).cs
  exact y)
 have q:Hid (Below w.heap.size w w.drew):=ZZ (Below.refl _ _).drew;generalize Qd (Xq 3 s.now.st.kind.toNat s.next.toNat)=H at *;generalize s.now.st.kind=kd at *;generalize s.next=nx at *;clear h n m
 go_enter func51,ntmps51
 go_upto_region 1 with fail
 go_cut[3,4] (fun v x wc=>x=.int .i64 0∧Hid (Own wc w.heap.size v H)∧Hid (Below w.heap.size w wc))
 case first=>
  go_region_held(fun W=>W.cell? ⟨p,6,none⟩=some (.int .i64 kd))
   (first | (with_reducible exact d.o _ q.o) | (with_reducible exact d.o _ j.o) | (with_reducible exact d.o _ t.o))
   (first
    | (go_at_call 14;refine(D.o _ q.o).mono ?_;rintro e K ⟨rfl,l⟩;have j:=ZZ l;clear l)
    | (go_at_call 93;refine(B.o _ j.o).mono ?_;rintro e N ⟨O,rfl,i,g⟩;have A:=ZZ i;have t:=ZZ g;clear i g))
  all_goals
   go_wp2_with fail
   go_meet
   exact⟨rfl,A,t⟩
 case rest=>
  obtain⟨rfl,F,G⟩:=hcut;go_wp2;go_ret;exact⟨_,rfl,F.o,G.o⟩
def Zza (t:List Ent):Prop:=ZhB t∧∀ e ∈ t,0<=e.proc∧e.proc<=64
theorem ZnP:∀ (t:List Ent) (a:Int),ZhB t->(∀ e ∈ t,a<=e.proc∧e.proc<=64)->(t.length:Int)<=max 0 (65-a)
 | [],a,_,_=>by simp only [List.length_nil];omega
 | e::t,a,h,hb=>by
  unfold ZhB at h;rw[List.pairwise_cons] at h;have d:=hb e List.mem_cons_self;have c:=ZnP t (e.proc+1) h.2 (fun x b=>⟨by have:=h.1 x b;omega,(hb x (List.mem_cons_of_mem _ b)).2⟩)
  rw[List.length_cons];omega
theorem Zza.few (h:Zza t):t.length<=65:=by
 have:=ZnP t 0 h.1 h.2;omega
theorem Zza.note (h:Zza t) {e:Ent} (c:0<=e.proc) (b:e.proc<=64):Zza (ZcF t e):=by
 refine⟨ZhC h.1,fun x a=>?_⟩
 rw[ZmF] at a;rcases a with rfl | ⟨a,_⟩
 ·exact⟨c,b⟩
 ·exact h.2 x a
theorem Zet.tabR (h:Zet t):Zza t:=⟨h.rises,fun e a=>by
 have:=h.mem e a;unfold Zbm at this
 omega⟩
def SnS (s:Q0):Prop:=Yl s.st∧Zza s.tab
theorem SnS.next {s:Q0} {r:Rec} (h:SnS s) (a:Qz r):SnS (ZhH s r):=by
 refine⟨ZhG h.1 r.op,?_⟩;obtain⟨-,-,-,-,-,c,b,-⟩:=a;exact h.2.note c b
theorem SnS.take:∀ {l:List Rec} {s:Q0},SnS s->(Q3 s l).2=0->SnS (Q3 s l).1
 | [],_,h,_=>h
 | r::l,s,h,h0=>by
  rw[Q3] at h0 ⊢;split at h0
  ·cases h0
  ·rename_i c
   rw[if_neg c];split at h0
   ·cases h0
   ·rename_i b
    rw[if_neg b]
    exact SnS.take (h.next (by
     by_cases a:Qz r
     ·exact a
     ·exact absurd a b)) h0
structure OkS (s:Sto):Prop where
 log:OkG s.log
 nx:s.now.idx=s.next
 now:SnS s.now
 cur:s.cur≠0->s.log.pcs.length≠0
 sy:I64 s.synced
 cu:I64 s.cur
theorem OkS.num (h:OkS s):ZpE s:=⟨h.log.f0,h.log.top,h.sy,h.cu⟩
theorem OkG.recOk {b:Lgb} (h:OkG b):∀ r ∈ b.recs,Zcx r:=fun r a=>ZaQ (h.fits r a)
theorem SD.begin (h:SD K w pd p s d N T) (f:∀ k,K k->k<w.heap.size) (name first:Int) (i:s.log.pcs.length<=1000000):
 Calls prog 53 #[.pointer (some ⟨p,1,none⟩),.int .i64 name,.int .i64 first] w fun e w'=>e=.returned (.tuple #[])∧SD K w' pd p { s with log:=s.log.start name first } d N T∧Ql (fun k=>¬ K k) w w':=by
 obtain⟨F,M,I,L,u,a,j,m,x,l,g⟩:=h;refine(Zkz 76 (by decide) (by decide) p 1 _ L.rv L.pv s.log name first w a.toLog i).mono ?_
 rintro e w' ⟨v,q⟩;obtain⟨M',L',c,-,-,t,n⟩:=a.ofLog q;exact⟨v,SD.own f u j m x l g t c n (fun _ b=>.inl b)⟩
theorem SD.add (h:SD K w pd p s d N T) (g:∀ k,K k->k<w.heap.size) (a:Value) (l:List Rec) (j:RdR w a l) (A:s.log.pcs.length≠0) (m:s.log.pcs.length<=1000000) (y:s.log.recs.length+l.length<=10000000) (z:∀ q ∈ s.log.pcs,0<=q.stop∧q.stop<=4611686018427387904):
 Calls prog 54 #[.pointer (some ⟨p,1,none⟩),a] w fun e w'=>e=.returned (.tuple #[])∧SD K w' pd p { s with log:=s.log.add l } d N T∧Ql (fun k=>¬ K k) w w':=by
 obtain⟨F,M,I,L,C,b,n,u,E,t,i⟩:=h;refine(Zve 76 (by decide) (by decide) p 1 _ L.rv L.pv s.log a l w b.toLog j A m y z).mono ?_
 rintro e w' ⟨D,x⟩;obtain⟨M',L',f,-,-,B,v⟩:=b.ofLog x;exact⟨D,SD.own g C n u E t i B f v (fun _ c=>.inl c)⟩
def Zma (w:World) (p o:Nat) (x0 x1 x2 x3 x4 x5:Value):World:=(((((w.setCell ⟨p,o,none⟩ x0).setCell ⟨p,o+1,none⟩ x1).setCell ⟨p,o+2,none⟩ x2).setCell ⟨p,o+3,none⟩ x3).setCell ⟨p,o+4,none⟩ x4).setCell ⟨p,o+5,none⟩ x5
theorem ZsS (w:World) (p o:Nat) (f c b d g e:Value) (k:Nat) (a:k≠p):(Zma w p o f c b d g e).heap[k]?=w.heap[k]?:=by
 unfold Zma;rw[Below.heap_setCell _ _ _ _ a,Below.heap_setCell _ _ _ _ a,Below.heap_setCell _ _ _ _ a,Below.heap_setCell _ _ _ _ a,Below.heap_setCell _ _ _ _ a,Below.heap_setCell _ _ _ _ a]
theorem ZsT (w:World) (p o:Nat) (g d c e h f:Value) (M:Nat->Prop) (a:M p):Ql M w (Zma w p o g d c e h f):=
 ((((((Ql.refl M w).setCell (b:=p) _ (fun _=>a) _).setCell (b:=p) _ (fun _=>a) _).setCell (b:=p) _ (fun _=>a) _).setCell (b:=p) _ (fun _=>a) _).setCell (b:=p) _ (fun _=>a) _).setCell (b:=p) _ (fun _=>a) _
theorem SD.setNow {W:World} {F:Nat->Prop} {L:ZdU} (B:∀ k,K k->k<w.heap.size) (R:Dsk F w pd d N T) (a:Jq M I w p pd L s) (E:∀ k,F k->¬ K k) (J:∀ k,M k->¬ K k) (S:∀ k,I k->¬ K k) (H:∀ k,F k->¬ M k) (C:∀ k,F k->¬ I k)
 (i:Below w.heap.size w W) (x:Q0 × Value × Value) (A:SnR W x) (hi:Zmp (fun k=>I k∨(w.heap.size<=k∧k<W.heap.size)) x):
 SD K (Zma W p 5 (.int .i64 x.1.idx) (.int .i64 x.1.st.kind) x.2.1 (.bool x.1.st.shut) (.int .i64 x.1.st.eng) x.2.2) pd p { s with now:=x.1 } d N T∧
  Ql (fun k=>¬ K k) w (Zma W p 5 (.int .i64 x.1.idx) (.int .i64 x.1.st.kind) x.2.1 (.bool x.1.st.shut) (.int .i64 x.1.st.eng) x.2.2):=by
 obtain⟨f,j⟩:∃ f,f=Zma W p 5 (.int .i64 x.1.idx) (.int .i64 x.1.st.kind) x.2.1 (.bool x.1.st.shut) (.int .i64 x.1.st.eng) x.2.2:=⟨_,rfl⟩;rw[<-j];have b:=a.below i;have hk:∀ k,k≠p->f.heap[k]?=W.heap[k]?:=fun k hk=>by rw[j];exact ZsS _ _ _ _ _ _ _ _ _ k hk
 have Q:Ql M w f:=(Ql.ofBelow i).trans (G:=M) (by rw[j];exact ZsT _ _ _ _ _ _ _ _ _ M a.mh) (fun _ _ h=>h)
 have q:f.heap.size=W.heap.size:=by rw[j];unfold Zma;simp
 have V:p<w.heap.size:=a.ltM p a.mh
 have O:Bk 76 f p (stC pd { L with nl:=x.2.1,nt:=x.2.2 } { s with now:=x.1 }):=by
  rw[j];exact(((((b.head.set 5 _).set 6 _).set 7 _).set 8 _).set 9 _).set 10 _
 have m:∀ {t:TypeId} {n sz g:Nat} {v:Value} {xs:List Value},W.ownsRow 0 t sz v n xs->v.ownBlock=some g->t≠76->g≠p:=fun D c P=>by
  obtain⟨U,i⟩:=X0 D c;exact i.ne b.head P
 have u:∀ k,(I k∨(w.heap.size<=k∧k<W.heap.size))->f.heap[k]?=W.heap[k]?:=fun k z=>hk k (fun e=>by
  subst e;rcases z with h | h
  ·exact a.dis _ a.mh h
  ·omega)
 refine SD.own (I':=fun k=>I k∨(w.heap.size<=k∧k<W.heap.size)) (M':=M) (L':={ L with nl:=x.2.1,nt:=x.2.2 }) B R E J S H C Q ⟨O,Qh b.recs fun g c=>hk g (m b.recs c (by decide)),Qh b.pcs fun g c=>hk g (m b.pcs c (by decide)),Qh b.bases fun g c=>hk g (m b.bases c (by decide)),b.bsEq,A.keep hi u,fun y l=>(b.base y l).keep (b.ibase y l) (fun g c=>u g (.inl c)),a.mh,a.mr,a.mp,a.mb,hi,fun y l=>(a.ibase y l).mono (fun k hk=>.inl hk),fun k hm=>?_,fun k hm=>?_,fun k hm hi=>?_⟩ (fun _ hk=>.inl hk) (fun k hk=>?_)
 ·rw[q];exact Nat.lt_of_lt_of_le (a.ltM k hm) i.size
 ·rw[q]
  rcases hm with hm | hm
  ·exact Nat.lt_of_lt_of_le (a.ltI k hm) i.size
  ·exact hm.2
 ·rcases hi with hi | hi
  ·exact a.dis k hm hi
  ·have:=a.ltM k hm
   omega
 ·rcases hk with hk | hk
  ·exact .inl hk
  ·exact .inr hk.1
theorem ZiK (h:Yc l):(X9 l).length<=20000:=by
 obtain⟨d,f,a,i⟩:=h;have b:=ZfT l [] (fun r b=>by cases b) a
 unfold X9;rw[length_append,length_append]
 have c:Qz (l.headD Qi):=by
  match l,d with
  | r::t,_=>exact a r List.mem_cons_self
 have e:(Lib.uvarint (l.headD Qi).idx.toNat).length<=10:=Gh (by have:=c.2.2.1;omega)
 have g:(Lib.uvarint l.length).length<=10:=Gh (by omega)
 omega
theorem ZsU (h:Yc l) (b:0<=s.now.st.kind∧s.now.st.kind<6) (a:s.next<4611686018427387904):(Jv s l).length<=30000:=by
 have j:=ZiK h;have d:=Q9 (X9 l);have e:=Q9 (Xq 3 s.now.st.kind.toNat s.next.toNat);have i:=ZcP (v:=3) (k:=s.now.st.kind.toNat) (f:=s.next.toNat) (by decide) (by omega) (by omega)
 have c:(Lib.uvarint (X9 l).length).length<=10:=Gh (by omega)
 have g:(Lib.uvarint (Xq 3 s.now.st.kind.toNat s.next.toNat).length).length<=10:=Gh (by omega)
 unfold Jv;split
 ·rw[length_append]
  omega
 ·omega
theorem ZcQ (h:OkD d) (first:Int) (g:0<=first) (f:first<=1000):I64 (Xs d first):=by
 have a:∀ n ∈ Xk (Qk d) first,0<=n∧n<1048576:=fun n b=>Zbg h n (List.mem_filter.1 b).1
 unfold Xs;generalize Xk (Qk d) first=l at a ⊢;by_cases c:l.length=0
 ·rw[List.eq_nil_of_length_eq_zero c]
  show I64 (first-2+2);exact⟨by omega,by omega⟩
 ·have e:l.getD (l.length-1) (first-2)=l[l.length-1]'(by omega):=by simp[List.getD,show l.length-1<l.length by omega]
  have:=a _ (List.getElem_mem (show l.length-1<l.length by omega))
  rw[e];exact⟨by omega,by omega⟩
theorem RdR.keepK (h:RdR w v l) (hv:l=[]∨∀ k,v.ownBlock=some k->K k) (n:Ql (fun k=>¬ K k) w w'):RdR w' v l:=by
 obtain⟨ao,cap,rfl,e,f,g,p,a⟩:=h;refine⟨ao,cap,rfl,e,f,g,p,?_⟩;rcases hv with hv | hv
 ·exact .inl hv
 rcases a with a | ⟨b,i,rfl,c⟩
 ·exact .inl a
 ·exact .inr ⟨b,i,rfl,fun j d=>(c j d).keep (n.block b (c j d).lt (fun m=>m (hv b rfl)))⟩
theorem SD.takes (h:SD K w pd p s d N T) (hK:∀ k,K k->k<w.heap.size) (C:SnS s.now) (Q:Value) (l:List Rec) (hr:RdR w Q l) (ag:l.length<=1000000):
 ∃ m b lc c n f,(w.cell? ⟨p,5,none⟩=some (.int .i64 s.now.idx)∧w.cell? ⟨p,6,none⟩=some (.int .i64 s.now.st.kind)∧w.cell? ⟨p,7,none⟩=some (.slice m b lc)∧w.cell? ⟨p,8,none⟩=some (.bool s.now.st.shut)∧w.cell? ⟨p,9,none⟩=some (.int .i64 s.now.st.eng)∧w.cell? ⟨p,10,none⟩=some (.slice c n f))∧
  Calls prog 15 #[.agg #[.int .i64 s.now.idx,.int .i64 s.now.st.kind,.slice m b lc,.bool s.now.st.shut,.int .i64 s.now.st.eng,.slice c n f],Q] w fun e w'=>
   ∃ u D t v B y,e=.returned (.tuple #[.agg #[.int .i64 (Q3 s.now l).1.idx,.int .i64 (Q3 s.now l).1.st.kind,.slice u D t,.bool (Q3 s.now l).1.st.shut,.int .i64 (Q3 s.now l).1.st.eng,.slice v B y],.int .i64 (Q3 s.now l).2])∧
    (w'.cell? ⟨p,5,none⟩=some (.int .i64 s.now.idx)∧w'.cell? ⟨p,6,none⟩=some (.int .i64 s.now.st.kind)∧w'.cell? ⟨p,7,none⟩=some (.slice m b lc)∧w'.cell? ⟨p,8,none⟩=some (.bool s.now.st.shut)∧w'.cell? ⟨p,9,none⟩=some (.int .i64 s.now.st.eng)∧w'.cell? ⟨p,10,none⟩=some (.slice c n f))∧(∀ j,w'.frozen? ⟨p,j,none⟩=false)∧
    SD K (Zma w' p 5 (.int .i64 (Q3 s.now l).1.idx) (.int .i64 (Q3 s.now l).1.st.kind) (.slice u D t) (.bool (Q3 s.now l).1.st.shut) (.int .i64 (Q3 s.now l).1.st.eng) (.slice v B y)) pd p { s with now:=(Q3 s.now l).1 } d N T∧
    Ql (fun k=>¬ K k) w (Zma w' p 5 (.int .i64 (Q3 s.now l).1.idx) (.int .i64 (Q3 s.now l).1.st.kind) (.slice u D t) (.bool (Q3 s.now l).1.st.shut) (.int .i64 (Q3 s.now l).1.st.eng) (.slice v B y)):=by
 obtain⟨F,M,I,L,h1,i,h3,h4,h5,h6,h7⟩:=h;obtain⟨m,b,lc,c,n,f,e1,e2⟩:=i.now.shape;have z:L.nl=.slice m b lc:=e1;have J:L.nt=.slice c n f:=e2
 have V:∀ W,Below w.heap.size w W->(W.cell? ⟨p,5,none⟩=some (.int .i64 s.now.idx)∧W.cell? ⟨p,6,none⟩=some (.int .i64 s.now.st.kind)∧W.cell? ⟨p,7,none⟩=some (.slice m b lc)∧W.cell? ⟨p,8,none⟩=some (.bool s.now.st.shut)∧W.cell? ⟨p,9,none⟩=some (.int .i64 s.now.st.eng)∧W.cell? ⟨p,10,none⟩=some (.slice c n f)):=fun W hW=>by
  obtain⟨-,-,-,-,-,⟨c5,c6,U,c8,c9,Z⟩,-⟩:=(i.below hW).cs;rw[z] at U;rw[J] at Z;exact⟨c5,c6,U,c8,c9,Z⟩
 refine⟨m,b,lc,c,n,f,V w (Below.refl _ _),?_⟩;have aa:=i.now.snV
 have ab:snV (L.nx s)=.agg #[.int .i64 s.now.idx,.int .i64 s.now.st.kind,.slice m b lc,.bool s.now.st.shut,.int .i64 s.now.st.eng,.slice c n f]:=by
  unfold snV snC ZdU.nx
  dsimp only
  rw[z,J]
 rw[ab] at aa;have hL:s.now.st.L.length<=1000:=by have:=ZlJ C.1;omega
 have hT:s.now.tab.length<=1000:=by have:=C.2.few;omega
 refine(Zij (P:=SnS) (fun S r x hf=>x.next hf) (fun S x=>by have:=x.2.few;omega) _ _ _ _ _ _ s.now Q l w aa hr hL hT (by omega) C).mono ?_
 rintro e w' ⟨G,E,rfl,O,r2,r3,Y,r5,g1,g2,H⟩;obtain⟨u,t,R,-⟩:=id O;obtain⟨v,y,hu⟩:=Y.shape;have x:SnR w' ((Q3 s.now l).1,G,E):=⟨O,Y,r2,r3,r5⟩
 have ac:Zmp (fun k=>I k∨(w.heap.size<=k∧k<w'.heap.size)) ((Q3 s.now l).1,G,E):=by
  refine⟨?_,?_⟩
  ·rcases O.block with af | ⟨ah,k,X,ad⟩
   ·exact .inl af
   ·rcases g1 with g1 | g1
    ·rcases i.inow.1 with hi | hi
     ·obtain⟨a2,c2,h9,-⟩:=i.now.l
      have q:L.nl=.slice a2 s.now.st.L.length c2:=h9;have ae:s.now.st.L=[]:=hi;rw[ae] at q;rw[R] at g1;rw[z] at q
      injection g1 with _ g1 _
      injection q with _ q _
      exact .inl (List.eq_nil_of_length_eq_zero (by rw[g1,q];rfl))
     ·refine .inr fun g a=>.inl (hi g ?_)
      show L.nl.ownBlock=some g;rw[z,<-g1];exact a
    ·refine .inr fun g a=>.inr ⟨g1 g a,?_⟩
     rw[a] at X;obtain rfl:=Option.some.inj X;exact ad
  ·rcases g2 with ⟨rfl,g2⟩ | g2
   ·rcases i.inow.2 with hi | hi
    ·exact .inl hi
    ·refine .inr fun g a=>.inl (hi g ?_)
     show L.nt.ownBlock=some g;rw[J,<-g2];exact a
   ·exact .inr fun g a=>.inr (World.ownsRow.lt g2 g a)
 have A:=SD.setNow hK h1 i h3 h4 h5 h6 h7 H ((Q3 s.now l).1,G,E) x ac
 dsimp only at A
 subst R hu;exact⟨u,_,t,v,_,y,rfl,V w' H,fun j=>(i.below H).fz j,A.1,A.2⟩
end Go.Proofs.YtnahjngbneicaaaGreatDoor
