import Derived.Test.YtnahjngbneicaaaGreatDoorPack10
namespace Go.Proofs.YtnahjngbneicaaaGreatDoor
open _root_.Go.Proofs.Tryz
open List (length_append length_drop nil_append take_length)
set_option maxHeartbeats 8000000
set_option maxRecDepth 100000
open Go.RowKit
variable {L:List (List UInt8)} {d:Dk} {w w':World} {B N T b n p pd:Nat} {x y z:Int} {v:Value} {f:Int->Int} {I K M:Nat->Prop} {s:Sto} {t:List Ent} {l:List Rec}
theorem ZgJ (v:Int) (B:Bool) (c:B=decide (1<=v∧v<=3)) (w:World):
 Calls prog 188 #[.int .i64 v] w fun e w'=>e=.returned (.bool B)∧w'=w:=by
 subst c;by_cases h:1<=v∧v<=3
 ·rw[decide_eq_true h]
  obtain⟨b,a⟩:=h
  go_enter func188,ntmps188
  go_wp2;go_ret;exact⟨rfl,rfl⟩
 ·rw[decide_eq_false h]
  by_cases b:1<=v
  ·have a:¬ v<=3:=fun a=>h ⟨b,a⟩
   clear h
   go_enter func188,ntmps188
   go_wp2;go_ret;exact⟨rfl,rfl⟩
  ·clear h
   go_enter func188,ntmps188
   go_wp2;go_ret;exact⟨rfl,rfl⟩
theorem Zqn (v k f:Int) (w:World):
 Calls prog 137 #[.agg #[.int .i64 v,.int .i64 k,.int .i64 f]] w fun e w'=>e=.returned (.int .i64 (Zch v k f))∧Below w.heap.size w w':=by
 have c:Hid (∀ X,Below w.heap.size w (w.alloc X)):=fun X=>(Below.refl _ _).alloc zL X
 by_cases a:1<=v∧v<=3
 case neg=>
  have b:=ZZ (ZgJ v false (by rw[decide_eq_false a]))
  have g:Hid (Zch v k f=6):=ZZ (if_neg a);rw[g.o];clear a
  go_enter func137,ntmps137
  go_wp2_with fail
  refine(b.o _).mono ?_;rintro e d ⟨rfl,rfl⟩;go_wp2;go_ret;exact⟨rfl,c.o _⟩
 have b:=ZZ (ZgJ v true (by rw[decide_eq_true a]))
 by_cases h:Zjr k f
 case neg=>
  have g:Hid (Zch v k f=1):=ZZ (by unfold Zch;rw[if_pos a,if_neg h])
  rw[g.o];clear a;by_cases z:k<0
  ·clear h
   go_enter func137,ntmps137
   go_wp2_with fail
   refine(b.o _).mono ?_;rintro e d ⟨rfl,rfl⟩;go_wp2;go_ret;exact⟨rfl,c.o _⟩
  by_cases q:6<=k
  ·clear h
   go_enter func137,ntmps137
   go_wp2_with fail
   refine(b.o _).mono ?_;rintro e d ⟨rfl,rfl⟩;go_wp2;go_ret;exact⟨rfl,c.o _⟩
  by_cases n:f<0
  ·clear h
   go_enter func137,ntmps137
   go_wp2_with fail
   refine(b.o _).mono ?_;rintro e d ⟨rfl,rfl⟩;go_wp2;go_ret;exact⟨rfl,c.o _⟩
  have i:4611686018427387904<=f:=by
   by_cases i:f<4611686018427387904
   ·exact absurd ⟨by omega,by omega,by omega,i⟩ h
   ·omega
  clear h
  go_enter func137,ntmps137
  go_wp2_with fail
  refine(b.o _).mono ?_;rintro e d ⟨rfl,rfl⟩;go_wp2;go_ret;exact⟨rfl,c.o _⟩
 have g:Hid (Zch v k f=0):=ZZ (by unfold Zch;rw[if_pos a,if_pos h])
 rw[g.o];obtain⟨y,t,j,u⟩:=h;have m:¬ k<0:=by omega
 have l:¬ 6<=k:=by omega
 have x:¬ f<0:=by omega
 have p:¬ 4611686018427387904<=f:=by omega
 clear a
 go_enter func137,ntmps137
 go_wp2_with fail
 refine(b.o _).mono ?_;rintro e d ⟨rfl,rfl⟩;go_wp2;go_ret;exact⟨rfl,c.o _⟩
theorem ZoB {k:Nat} (h:k<L.length):Zaf (L.take (k+1))=Zaf (L.take k)++Zad (L.getD k []):=by
 rw[Zve h,ZfS];simp[Zaf]
theorem Zsl {d:List UInt8} (h:d.length<=1048576):ZjC (d.length:Int)=(Zad d).length:=by
 unfold ZjC;rw[if_pos ⟨by omega,by omega⟩,Zas,Int.toNat_natCast]
 omega
theorem ZxN (v:Value) (L:List (List UInt8)) (w:World) (t:RdL w v L) (g:∀ x ∈ L,x.length<=1048576) (y:(Zaf L).length<=10000000):
 Calls prog 206 #[v] w fun e w'=>e=.returned (.int .i64 ((Zaf L).length:Nat))∧Below w.heap.size w w':=by
 have A:=ZZ t;obtain⟨ao,cap,rfl,K,u,-⟩:=t;have S:(L.length:Int)<=9223372036854775807:=by unfold maxLen at u;omega
 have B:=ZZ (fun k a=>A.o.at k a)
 obtain⟨Z,d⟩:∃ Z:Nat->Nat,Z=fun k=>(Zaf (L.take k)).length:=⟨_,rfl⟩
 have G:Hid (Z 0=0):=ZZ (by rw[d];simp[Zaf])
 have F:Hid (∀ k,k<L.length->Z (k+1)=Z k+ZjC ((L.getD k []).length:Int)):=ZZ (fun k a=>by
  rw[d];simp only
  rw[ZoB a,length_append,Zsl (g _ (ZtB a))])
 have D:Hid (∀ k,Z k<=10000000):=ZZ (fun k=>by
  rw[d];have:=ZhY L k;simp only
  omega)
 have E:Hid ((Zaf L).length=Z L.length):=ZZ (by rw[d];simp only;rw[take_length])
 have J:Hid (∀ k,k<L.length->∀ W,Calls prog 134 #[.int .i64 ((L.getD k []).length:Int)] W fun e w'=>e=.returned (.int .i64 (ZjC ((L.getD k []).length:Int):Nat))∧Below W.heap.size W w'):=ZZ (fun k a W=>by
  have:=g _ (ZtB a)
  exact Ztz _ W (by omega) (by omega))
 rw[E.o];clear d K u g y
 go_enter func206,ntmps206
 go_wp2
 go_loopw[3,8] (fun vs f wr=>∃ k:Nat,f=.int .i64 (k:Int)∧vs=.int .i64 (Z k:Int)∧k<=L.length∧Hid (Below w.heap.size w wr)) (fun _ f _=>L.length-(intOf f).toNat)
 case atStart=>exact⟨0,rfl,by rw[G.o];rfl,Nat.zero_le _,Below.refl _ _⟩
 case round=>
  obtain⟨k,rfl,rfl,a,c⟩:=hrel;by_cases h:k<L.length
  case neg=>
   have e:k=L.length:=by omega
   subst e;go_wp2;go_ret;exact⟨rfl,c.out⟩
  obtain⟨b,Q,x,rfl,q,l⟩:=B.o k h;have P:=q wr c.out;have j:=ZZ (F.o k h);have I:=ZZ (J.o k h);have C:=D.o (k+1);rw[j.o] at C;obtain⟨R,N,rfl,-⟩:=l wr c.out;obtain⟨m,i⟩:∃ m,m=Z (k+1):=⟨_,rfl⟩;rw[<-i] at j;have H:=ZZ i;generalize Z k=z at *;generalize ZjC ((L.getD k []).length:Int)=sz at *;generalize (L.getD k []).length=n at *;clear q l i
  go_wp2_with fail
  refine(I.o _).mono ?_;rintro e O ⟨rfl,p⟩;have M:=ZZ (c.out.trans (p.mono c.out.size));clear p;go_wp2;go_roundw
  case rel=>exact⟨k+1,by go_num,by rw[<-H.o,j.o];go_num,by omega,M⟩
  case measure=>simp[intOf];omega
theorem Zsm (a b c:Int) (W:World):(Instr.index 188 (.agg #[.int .i64 a,.int .i64 b,.int .i64 c]) (.int .i64 0)).run prog W=.ok (.int .i64 a) W:=by
 simp[Instr.index,run_underlying underlying188,asIntOf,go_sem]
theorem Zsn (b a c:Int) (W:World):(Instr.index 188 (.agg #[.int .i64 b,.int .i64 a,.int .i64 c]) (.int .i64 1)).run prog W=.ok (.int .i64 a) W:=by
 simp[Instr.index,run_underlying underlying188,asIntOf,go_sem]
theorem Zso (b c a:Int) (W:World):(Instr.index 188 (.agg #[.int .i64 b,.int .i64 c,.int .i64 a]) (.int .i64 2)).run prog W=.ok (.int .i64 a) W:=by
 simp[Instr.index,run_underlying underlying188,asIntOf,go_sem]
theorem Zqo (v k f:Int) (Z:1<=v∧v<=3) (h:Zjr k f) (w:World):
 Calls prog 138 #[.agg #[.int .i64 v,.int .i64 k,.int .i64 f]] w fun e w'=>∃ v',e=.returned v'∧Own w' w.heap.size v' (ZbC v.toNat k.toNat f.toNat)∧Below w.heap.size w w':=by
 obtain⟨S,k1,M,V⟩:=h
 have t:Hid (∀ c l n W,Rd W c l->l.length<=1000->0<=n->n<4611686018427387904->Calls prog 132 #[c,.int .i64 n] W fun e w'=>∃ v',e=.returned v'∧Own w' W.heap.size v' (l++Lib.uvarint n.toNat)∧Below W.heap.size W w'):=fun c l n W h hl P R=>by
  have h:=ZeN c l n W h (by omega)
  rw[Zcg P R] at h;exact h
 have L:(Lib.uvarint v.toNat).length<=10:=ZdD (by omega)
 have K:(Lib.uvarint k.toNat).length<=10:=ZdD (by omega)
 have G:Hid (ZbC v.toNat k.toNat f.toNat=(([108]++Lib.uvarint v.toNat)++Lib.uvarint k.toNat)++Lib.uvarint f.toNat):=ZZ (by unfold ZbC;simp)
 have F:=ZZ (fun c W h=>t.o c [108] v W h (by simp) (by omega) (by omega))
 have I:=ZZ (fun c W h=>t.o c ([108]++Lib.uvarint v.toNat) k W h (by simp only [length_append,List.length_singleton];omega) S (by omega))
 have u:=ZZ (fun c W h=>t.o c (([108]++Lib.uvarint v.toNat)++Lib.uvarint k.toNat) f W h (by simp only [length_append,List.length_singleton];omega) M V)
 rw[<-G.o] at u;clear G t;obtain⟨d,i⟩:∃ d:Nat->List UInt8,d=fun q=>if q=0 then[108] else if q=1 then[108]++Lib.uvarint v.toNat else if q=2 then[108]++Lib.uvarint v.toNat++Lib.uvarint k.toNat else ZbC v.toNat k.toNat f.toNat:=⟨_,rfl⟩
 have x:[108]=d 0:=by rw[i];rfl
 have B:[108]++Lib.uvarint v.toNat=d 1:=by rw[i];rfl
 have C:[108]++Lib.uvarint v.toNat++Lib.uvarint k.toNat=d 2:=by rw[i];rfl
 have A:ZbC v.toNat k.toNat f.toNat=d 3:=by rw[i];rfl
 have U:Hid (∀ W:World,Rd (W.alloc (.cells #[.int .u8 108] 5)) (.slice (some ⟨W.heap.size,0,none⟩) 1 1) (d 0)):=ZZ (fun W=>by rw[<-x];exact Rd.byte W 108)
 rw[C,A] at u;rw[C,B] at I;rw[B,x] at F;rw[A];clear x B C A i L K;have T:Hid (∀ X Y,Below w.heap.size w ((w.alloc X).alloc Y)):=fun X Y=>Below.allocs (Below.allocs (Below.refl _ _) X) Y
 go_enter func138,ntmps138
 go_wp2
 go_loopw[3,8] (fun J y wr=>∃ q:Nat,y=.int .i64 (q:Int)∧q<=3∧Hid (Rd wr J (d q))∧Hid (1<=q->Own wr w.heap.size J (d q))∧Hid (Below w.heap.size w wr)) (fun _ y _=>3-(intOf y).toNat)
 case atStart=>
  refine⟨0,rfl,Nat.zero_le _,?_,fun h=>absurd h (by decide),T.o _ _⟩
  have h:=U.o (w.alloc (.cells #[.int .i64 v,.int .i64 k,.int .i64 f] 188));have e:(w.alloc (.cells #[.int .i64 v,.int .i64 k,.int .i64 f] 188)).heap.size=w.heap.size+1:=by simp
  rw[e] at h;exact h
 case round=>
  obtain⟨q,rfl,hq,z,N,b⟩:=hrel;by_cases aa:q<3
  case neg=>
   have e:q=3:=by omega
   subst e;have Q:=ZZ (N.out (by decide))
   go_wp2;go_ret;exact⟨_,rfl,Q.o,b.out⟩
  have O:q=0∨q=1∨q=2:=by omega
  rcases O with rfl | rfl | rfl
  ·have E:=Zsm v k f
   go_wp2_with fail
   refine(F.o _ _ z.out).mono ?_;rintro e D ⟨H,rfl,a,g⟩;have m:=ZZ a.rd;have j:=ZZ (a.mono b.out.size);have p:=ZZ (b.out.trans (g.mono b.out.size));clear a g;go_wp2;go_roundw
   case rel=>exact⟨1,rfl,by omega,m,ZZ (fun _=>j.o),p⟩
   case measure=>simp[intOf]
  ·have E:=Zsn v k f
   go_wp2_with fail
   refine(I.o _ _ z.out).mono ?_;rintro e D ⟨H,rfl,a,g⟩;have m:=ZZ a.rd;have j:=ZZ (a.mono b.out.size);have p:=ZZ (b.out.trans (g.mono b.out.size));clear a g;go_wp2;go_roundw
   case rel=>exact⟨2,rfl,by omega,m,ZZ (fun _=>j.o),p⟩
   case measure=>simp[intOf]
  ·have E:=Zso v k f
   go_wp2_with fail
   refine(u.o _ _ z.out).mono ?_;rintro e D ⟨H,rfl,a,g⟩;have m:=ZZ a.rd;have j:=ZZ (a.mono b.out.size);have p:=ZZ (b.out.trans (g.mono b.out.size));clear a g;go_wp2;go_roundw
   case rel=>exact⟨3,rfl,by omega,m,ZZ (fun _=>j.o),p⟩
   case measure=>simp[intOf]
theorem Zqp (v k f:Int) (w:World):
 Calls prog 93 #[.int .i64 v,.int .i64 k,.int .i64 f] w fun e w'=>ZtA w v k f e w':=by
 unfold ZtA;have p:Hid (∀ X,Below w.heap.size w (w.alloc X)):=fun X=>(Below.refl _ _).alloc zL X
 have D:Hid (∀ cs,(w.alloc (.cells cs 188)).heap[w.heap.size]?=some (.cells cs 188 (0,0))):=fun cs=>heap_alloc_new w _
 have n:=ZZ (fun W=>Zqn v k f W)
 by_cases m:(1<=v∧v<=3)∧Zjr k f
 case neg=>
  have b:Zch v k f≠0∧ZjH v k f=[]:=by
   unfold Zch ZjH;by_cases a:1<=v∧v<=3
   ·rw[if_pos a,if_pos a,if_neg (fun h=>m ⟨a,h⟩),if_neg (fun h=>m ⟨a,h⟩)]
    exact⟨by decide,rfl⟩
   ·rw[if_neg a,if_neg a]
    exact⟨by decide,rfl⟩
  obtain⟨b,g⟩:=b;rw[g];generalize Zch v k f=E at *;have R:(E != 0)=true:=by rw[bne_iff_ne];exact b
  clear m b g
  go_enter func93,ntmps93
  go_wp2_with fail
  refine(n.o _).mono ?_;rintro e i ⟨rfl,d⟩;have j:=ZZ ((p.o _).trans (d.mono (p.o _).size));clear d;go_wp2;go_ret2;exact⟨_,rfl,Own.nil _ _,j.o⟩
 obtain⟨a,c⟩:=m;have K:=ZZ (fun W=>Zqo v k f a c W)
 have b:Zch v k f=0:=by unfold Zch;rw[if_pos a,if_pos c]
 have g:ZjH v k f=Zad (ZbC v.toNat k.toNat f.toNat):=by unfold ZjH;rw[if_pos a,if_pos c]
 have Q:(ZbC v.toNat k.toNat f.toNat).length<=40:=ZhV (by omega) (by have:=c.2.1;omega) (by have:=c.2.2.2;omega)
 have t:=ZZ (fun A W (h:Rd W A (ZbC v.toNat k.toNat f.toNat))=>Zgw A _ W h)
 rw[ZoA (by omega)] at t
 rw[b] at n ⊢;rw[g];generalize ZbC v.toNat k.toNat f.toNat=H at *;generalize Zad H=F at *;clear a c b g
 go_enter func93,ntmps93
 go_wp2_with fail
 refine(n.o _).mono ?_;rintro e i ⟨rfl,d⟩;have l:=ZZ ((d.block _ (by simp)).trans (D.out _))
 have j:=ZZ ((p.o _).trans (d.mono (p.o _).size));clear d n;have I:i.cell? ⟨w.heap.size,0,none⟩=some (.int .i64 v):=cell_of_row _ _ 0 _ _ _ l.o;have B:i.cell? ⟨w.heap.size,1,none⟩=some (.int .i64 k):=cell_of_row _ _ 1 _ _ _ l.o;have C:i.cell? ⟨w.heap.size,2,none⟩=some (.int .i64 f):=cell_of_row _ _ 2 _ _ _ l.o
 go_wp2_with fail
 refine(K.o _).mono ?_;rintro e O ⟨M,rfl,x,u⟩;have L:=ZZ x.rd;have q:=ZZ (j.o.trans (u.mono j.o.size));clear x u I B C l
 go_wp2_with fail
 refine(t.o _ _ L.o).mono ?_;rintro e P ⟨N,rfl,z,y⟩;have J:=ZZ (z.mono q.o.size);have G:=ZZ (q.o.trans (y.mono q.o.size));clear z y;go_wp2;go_ret2;exact⟨_,rfl,J.o,G.o⟩
def Bhd (w:World) (b:Nat) (x y z:Int):Prop:=w.heap[b]?=some (.cells #[.int .i64 x,.int .i64 y,.int .i64 z] 188 (0,0))
theorem Bhd.lt (h:Bhd w b x y z):b<w.heap.size:=(Array.getElem?_eq_some_iff.1 h).1
theorem Bhd.below (h:Bhd w b x y z) (c:Below B w w') (a:b<B):Bhd w' b x y z:=(c.block b a).trans h
theorem Bhd.cell (h:Bhd w b x y z):(w.cell? ⟨b,0,none⟩=some (.int .i64 x)∧w.cell? ⟨b,1,none⟩=some (.int .i64 y)∧w.cell? ⟨b,2,none⟩=some (.int .i64 z))∧∀ j,w.frozen? ⟨b,j,none⟩=false:=
 ⟨⟨cell_of_row w b 0 _ _ _ h,cell_of_row w b 1 _ _ _ h,cell_of_row w b 2 _ _ _ h⟩,fun j=>frozen_of_row w b j _ _ h⟩
theorem Bhd.set0 (h:Bhd w b x y z) (n:Int):Bhd (w.setCell ⟨b,0,none⟩ (.int .i64 n)) b n y z:=by
 have a:=heap_setCell_same w b 0 _ _ (.int .i64 n) h;unfold Bhd;simpa using a
theorem Bhd.set1 (h:Bhd w b x y z) (n:Int):Bhd (w.setCell ⟨b,1,none⟩ (.int .i64 n)) b x n z:=by
 have a:=heap_setCell_same w b 1 _ _ (.int .i64 n) h;unfold Bhd;simpa using a
theorem Bhd.set2 (h:Bhd w b x y z) (n:Int):Bhd (w.setCell ⟨b,2,none⟩ (.int .i64 n)) b x y n:=by
 have a:=heap_setCell_same w b 2 _ _ (.int .i64 n) h;unfold Bhd;simpa using a
theorem Bhd.other {c:Nat} (h:Bhd w b x y z) (a:b≠c) (j:Nat) (u:Value):Bhd (w.setCell ⟨c,j,none⟩ u) b x y z:=(Below.heap_setCell _ _ _ _ a).trans h
def ZBR:Except Int (Nat × Nat × Nat)->Int
 | .error e=>e
 | .ok _=>0
def ZdS (w:World) (d:List UInt8) (e:Ending) (w':World):Prop:=
 ∃ x y z:Int,e=.returned (.tuple #[.agg #[.int .i64 x,.int .i64 y,.int .i64 z],.int .i64 (ZBR (Zcy d))])∧(∀ v k f,Zcy d=.ok (v,k,f)->x=(v:Int)∧y=(k:Int)∧z=(f:Int))∧Below w.heap.size w w'
theorem ZdS.form {d:List UInt8} (h:Zcy d=.error 3) (b:Below w.heap.size w w'):ZdS w d (.returned (.tuple #[.agg #[.int .i64 0,.int .i64 0,.int .i64 0],.int .i64 3])) w':=
 ⟨0,0,0,by rw[h];rfl,(fun v k f a=>by rw[h] at a;cases a),b⟩
theorem ZoC (v:Value) (d:List UInt8) (w:World) (hr:Rd w v d):
 Calls prog 203 #[v] w fun e w'=>ZdS w d e w':=by
 have HR:=ZZ hr;obtain⟨ao,cap,rfl,a5,aM,-,aJ⟩:=hr;have be:(d.length:Int)<=9223372036854775807:=by unfold maxLen at aM;omega
 have aA:Hid (∀ X,Below w.heap.size w (w.alloc X)):=fun X=>(Below.refl _ _).alloc zL X
 by_cases h0:d.length=0
 ·have e:d=[]:=List.eq_nil_of_length_eq_zero h0
  have A:Hid (Zcy d=.error 3):=ZZ (Zno (.inl e));have aX:((d.length:Int) == 0)=true:=by rw[beq_iff_eq];omega
  clear e h0 aJ
  go_enter func203,ntmps203
  go_wp2;refine bodyPost_ret (v:=.tuple #[.agg #[.int .i64 0,.int .i64 0,.int .i64 0],.int .i64 3]) (by simp[results,Tryz.results203,go_sem]) rfl ?_
  exact ZdS.form A.o (aA.o _)
 have aX:((d.length:Int) == 0)=false:=beq_eq_false_iff_ne.2 (by omega)
 have bd:(0:Int)<(d.length:Int):=by omega
 have an:d≠[]:=fun e=>by rw[e] at h0;simp at h0
 rcases aJ with he | ⟨b,aw,rfl,hc⟩
 ·exact absurd he an
 have aB:=hc 0 (by omega)
 have a7:b<w.heap.size:=World.block_lt_of_cell? w ⟨b,aw+0,none⟩ aB;have a3:∀ X,(w.alloc X).cell? ⟨b,aw,none⟩=some (.int .u8 ((d.getD 0 0).toNat:Nat)):=fun X=>((aA.o X).cell (p:=⟨b,aw,none⟩) a7).trans aB
 clear hc aB a5 aM;by_cases hm:d.getD 0 0=108
 case neg=>
  have A:Hid (Zcy d=.error 3):=ZZ (Zno (.inr hm))
  have aY:((((d.getD 0 0).toNat:Nat):Int) != 108)=true:=by
   rw[bne_iff_ne];intro h;apply hm;apply UInt8.toNat_inj.1;have:(108:UInt8).toNat=108:=rfl;omega
  clear hm an h0;generalize (((d.getD 0 0).toNat:Nat):Int)=c0 at *
  go_enter func203,ntmps203
  go_wp2;refine bodyPost_ret (v:=.tuple #[.agg #[.int .i64 0,.int .i64 0,.int .i64 0],.int .i64 3]) (by simp[results,Tryz.results203,go_sem]) rfl ?_
  exact ZdS.form A.o (aA.o _)
 have aY:((((d.getD 0 0).toNat:Nat):Int) != 108)=false:=by
  rw[hm];rfl
 have aP:¬ (d=[]∨d.getD 0 0≠108):=by rintro(h | h);exact an h;exact h hm
 generalize (((d.getD 0 0).toNat:Nat):Int)=c0 at *;obtain⟨a1,c1,aR,aS⟩:=ZAp w _ d cap HR.o 1 (by omega)
 obtain⟨⟨C,g⟩,ar⟩:∃ x,Zab (d.drop 1)=x:=⟨_,rfl⟩;obtain⟨⟨F,m⟩,au⟩:∃ x,Zab (d.drop (1+g))=x:=⟨_,rfl⟩;obtain⟨⟨H,E⟩,ai⟩:∃ x,Zab (d.drop (1+g+m))=x:=⟨_,rfl⟩;have ap:=Zcj (d.drop 1);have av:=Zcj (d.drop (1+g));have aq:=Zcj (d.drop (1+g+m));have q2:=ZzF (d.drop (1+g+m));rw[ar,length_drop] at ap;rw[au,length_drop] at av;rw[ai,length_drop] at aq;rw[ai] at q2;simp only at ap av aq q2;have A:=ZZ (Zvg aP ar au ai)
 have aU:=aS 1 rfl
 -- the three rounds
 have aL:=ZZ aR;have HF:=ZZ (fun W=>Zqn (C:Int) (F:Int) (H:Int) W)
 have X1:Hid (∀ x y z Y,Bhd ((w.alloc (.cells #[.int .i64 x,.int .i64 y,.int .i64 z] 188)).alloc Y) w.heap.size x y z):=fun x y z Y=>(Below.heap_alloc _ _ _ (by simp)).trans (heap_alloc_new w _)
 have X2:Hid (∀ X x y z,Bhd ((w.alloc X).alloc (.cells #[.int .i64 x,.int .i64 y,.int .i64 z] 188)) (w.heap.size+1) x y z):=fun X x y z=>ZrF w X _
 have ac:Hid (∀ X Y,Below w.heap.size w ((w.alloc X).alloc Y)):=fun X Y=>Below.allocs (Below.allocs (Below.refl _ _) X) Y
 clear aR aS hm an h0;obtain⟨l,ak⟩:∃ l:Nat->Nat,l=fun q=>if q=0 then 1 else if q=1 then 1+g else if q=2 then 1+g+m else 1+g+m+E:=⟨_,rfl⟩
 have p0:l 0=1:=by rw[ak];rfl
 have p1:l 1=1+g:=by rw[ak];rfl
 have p2:l 2=1+g+m:=by rw[ak];rfl
 have p3:l 3=1+g+m+E:=by rw[ak];rfl
 have u:Hid (l 0=1∧l 1=1+g∧l 2=1+g+m∧l 3=1+g+m+E):=ZZ ⟨p0,p1,p2,p3⟩;obtain⟨t,aK⟩:∃ t:Nat->Nat,t=fun q=>(d.drop (l q)).length:=⟨_,rfl⟩
 have T:Hid (∀ q,t q=(d.drop (l q)).length):=ZZ (fun q=>by rw[aK])
 have aW:Hid (Rd w (.slice a1 (t 0) c1) (d.drop (l 0))):=ZZ (by rw[T.o,p0];exact aL.o)
 have aZ:∀ W,(Instr.sliceAt 53 (.slice (some ⟨b,aw,none⟩) d.length cap) (some (.int .i64 1)) none none).run prog W=.ok (.slice a1 (t 0) c1) W:=by rw[T.o,p0];exact aU
 have ax:Hid (∀ (a:Option Addr) (c q k:Nat),l (q+1)=l q+k->l q+k<=d.length->Rd w (.slice a (t q) c) (d.drop (l q))->∃ a' c',Rd w (.slice a' (t (q+1)) c') (d.drop (l (q+1)))∧∀ i:Int,i=(k:Int)->∀ W,(Instr.sliceAt 53 (.slice a (t q) c) (some (.int .i64 i)) none none).run prog W=.ok (.slice a' (t (q+1)) c') W):=ZZ (fun a c q k hp B aN=>by
  rw[T.o q] at aN;obtain⟨a',c',h1,h2⟩:=ZAp w a (d.drop (l q)) c aN k (by rw[length_drop];omega)
  rw[List.drop_drop,<-hp,<-T.o (q+1)] at h1;rw[List.drop_drop,<-hp,<-T.o q,<-T.o (q+1)] at h2
  exact⟨a',c',h1,h2⟩)
 have HG:Hid (∀ W a c q n k,Below w.heap.size w W->Rd w (.slice a (t q) c) (d.drop (l q))->Zab (d.drop (l q))=(n,k)->Calls prog 168 #[.slice a (t q) c] W fun e w'=>e=.returned (.tuple #[.int .i64 (n:Int),.int .i64 (k:Int)])∧w'=W):=ZZ (fun W a c q n k hb h hd=>by
  have hx:=ZfY _ _ W (h.below hb zL);rw[hd] at hx
  exact hx)
 have HD:Hid (Zab (d.drop 1)=(C,g)∧Zab (d.drop (1+g))=(F,m)∧Zab (d.drop (1+g+m))=(H,E)):=ZZ ⟨ar,au,ai⟩;have Z:Hid (g<=d.length-1∧m<=d.length-(1+g)∧E<=d.length-(1+g+m)):=ZZ ⟨ap,av,aq⟩;clear ak aK p0 p1 p2 p3 aL aU ar au ai ap av aq aP
 go_enter func203,ntmps203
 go_wp2
 go_loopw[5,21] (fun vl vi wr=>∃ (q:Nat) (a:Option Addr) (c:Nat) (x y z:Int),vi=.int .i64 (q:Int)∧vl=.slice a (t q) c∧q<=3∧Hid (Rd w (.slice a (t q) c) (d.drop (l q)))∧Hid (Bhd wr (w.heap.size+1) x y z)∧Hid (Bhd wr w.heap.size 0 0 0)∧Hid ((1<=q->x=(C:Int)∧g≠0)∧(2<=q->y=(F:Int)∧m≠0)∧(3<=q->z=(H:Int)∧E≠0))∧Hid (Below w.heap.size w wr)) (fun _ vi _=>3-(intOf vi).toNat)
 case atStart=>exact⟨0,a1,c1,0,0,0,rfl,rfl,Nat.zero_le _,aW,ZZ (X2.out _ _ _ _),ZZ (X1.out _ _ _ _),ZZ ⟨fun h=>absurd h (by decide),fun h=>absurd h (by decide),fun h=>absurd h (by decide)⟩,ZZ (ac.o _ _)⟩
 case round=>
  obtain⟨q,a,c,x,y,z,rfl,rfl,hq,ab,I,J,hI,G⟩:=hrel;clear aW aZ a3;by_cases bc:q<3
  case neg=>
   have e:q=3:=by omega
   subst e;have h1:=hI.out.1 (by decide)
   have h2:=hI.out.2.1 (by decide)
   have h3:=hI.out.2.2 (by decide)
   obtain⟨rfl,aI⟩:=h1;obtain⟨rfl,aF⟩:=h2;obtain⟨rfl,aO⟩:=h3;by_cases az:1+g+m+E=d.length
   case neg=>
    have P:Hid (Zcy d=.error 3):=ZZ (by rw[A.o,if_pos (.inr (.inr (.inr az)))])
    have am:t 3≠0:=by
     rw[T.o,u.o.2.2.2,length_drop];have:=Z.o;omega
    have bg:(0:Int)<(t 3:Int):=by omega
    have a4:0<t 3:=by omega
    have bh:decide (0<t 3)=true:=decide_eq_true a4;generalize t 3=ln at *;obtain⟨⟨U,V,Q⟩,j⟩:=J.out.cell;have f0:=j 0;have f1:=j 1;have f2:=j 2;clear j am aI aF aO az A;go_wp2;refine bodyPost_ret (v:=.tuple #[.agg #[.int .i64 0,.int .i64 0,.int .i64 0],.int .i64 3]) (by simp[results,Tryz.results203,go_sem,U,V,Q]) rfl ?_
    exact ZdS.form P.o (ZbG G.out _ zL _ _ _)
   have am:t 3=0:=by
    rw[T.o,u.o.2.2.2,length_drop];omega
   have aQ:Hid (Zch (C:Int) (F:Int) (H:Int)=ZBR (Zcy d)):=ZZ (by
    rw[A.o,if_neg (by omega)]
    unfold Zch;by_cases g1:C<1∨3<C
    ·rw[if_neg (by omega),if_pos g1];rfl
    ·rw[if_pos (by omega),if_neg g1]
     by_cases g2:6<=F
     ·rw[if_pos g2,if_neg (fun h=>by have:=h.2.1;omega)];rfl
     ·rw[if_neg g2,if_pos ⟨by omega,by omega,by omega,by omega⟩];rfl)
   have a2:Hid (∀ v k f,Zcy d=.ok (v,k,f)->(C:Int)=(v:Int)∧(F:Int)=(k:Int)∧(H:Int)=(f:Int)):=ZZ (fun v k f O=>by
    rw[A.o] at O;split at O
    ·cases O
    split at O
    ·cases O
    split at O
    ·cases O
    simp only [Except.ok.injEq,Prod.mk.injEq] at O;obtain⟨rfl,rfl,rfl⟩:=O
    exact⟨rfl,rfl,rfl⟩)
   rw[aQ.o] at HF;rw[am] at ab ⊢;obtain⟨er,ay⟩:∃ er,er=ZBR (Zcy d):=⟨_,rfl⟩;rw[<-ay] at HF;have a6:=ZZ ay;clear ay;obtain⟨⟨U,V,Q⟩,j⟩:=J.out.cell;have f0:=j 0;have f1:=j 1;have f2:=j 2;obtain⟨⟨g0,g1,g2⟩,-⟩:=I.out.cell;have aG:Hid (∀ W,Below wr.heap.size wr W->W.cell? ⟨w.heap.size+1,0,none⟩=some (.int .i64 (C:Int))∧W.cell? ⟨w.heap.size+1,1,none⟩=some (.int .i64 (F:Int))∧W.cell? ⟨w.heap.size+1,2,none⟩=some (.int .i64 (H:Int))):=ZZ (fun W hb=>(I.out.below hb I.out.lt).cell.1)
   have aE:Hid (Below wr.heap.size wr wr.drew):=ZZ ((Below.refl _ _).drew);have a8:=ZZ (aG.o _ aE.o);generalize (C:Int)=K at *;generalize (F:Int)=N at *;generalize (H:Int)=M at *;clear j aI aF aO az A aQ Z HD hI am u;have bb:w.heap.size≠w.heap.size+1:=by omega
   have aH:Hid (Bhd (((wr.setCell ⟨w.heap.size,0,none⟩ (.int .i64 K)).setCell ⟨w.heap.size,1,none⟩ (.int .i64 N)).setCell ⟨w.heap.size,2,none⟩ (.int .i64 M)) w.heap.size K N M):=ZZ (((J.out.set0 K).set1 N).set2 M);have aC:Hid (Bhd (((wr.setCell ⟨w.heap.size,0,none⟩ (.int .i64 K)).setCell ⟨w.heap.size,1,none⟩ (.int .i64 N)).setCell ⟨w.heap.size,2,none⟩ (.int .i64 M)) (w.heap.size+1) K N M):=ZZ (((I.out.other (by omega) 0 _).other (by omega) 1 _).other (by omega) 2 _)
   have aV:Hid (Below w.heap.size w (((wr.setCell ⟨w.heap.size,0,none⟩ (.int .i64 K)).setCell ⟨w.heap.size,1,none⟩ (.int .i64 N)).setCell ⟨w.heap.size,2,none⟩ (.int .i64 M)).drew):=ZZ (ZbG G.out _ zL _ _ _).drew
   go_upto_region 15 with fail
   go_region_held2(fun w'=>w'.cell? ⟨w.heap.size+1,0,none⟩=some (.int .i64 K)∧w'.cell? ⟨w.heap.size+1,1,none⟩=some (.int .i64 N)∧w'.cell? ⟨w.heap.size+1,2,none⟩=some (.int .i64 M)) (first | exact a8.o | exact a0.o | exact a9.o | exact aC.o.cell.1 | go_keep)
    (first
     | (go_at_call 137;refine(HF.o wr.drew).mono ?_;rintro e L ⟨rfl,aT⟩;have ac:=ZZ (aE.o.trans aT);have a0:=ZZ (aG.o L ac.o);have aD:=ZZ (G.out.trans (ac.o.mono G.out.size));obtain⟨⟨s0,s1,s2⟩,sf⟩:=(J.out.below ac.o J.out.lt).cell;have bi:=sf 0;have ba:=sf 1;have bf:=sf 2;obtain⟨⟨t0,t1,t2⟩,-⟩:=(I.out.below ac.o I.out.lt).cell;clear aT sf)
     | (go_at_call 137;refine(HF.o (((wr.setCell ⟨w.heap.size,0,none⟩ (.int .i64 K)).setCell ⟨w.heap.size,1,none⟩ (.int .i64 N)).setCell ⟨w.heap.size,2,none⟩ (.int .i64 M)).drew).mono ?_;rintro e W3 ⟨rfl,al⟩;have a9:=ZZ (aC.o.below al aC.o.lt).cell.1;have P:=ZZ (aV.o.trans (al.mono aV.o.size));obtain⟨⟨s0,s1,s2⟩,-⟩:=(aH.o.below al aH.o.lt).cell;clear al))
   all_goals
    go_wp2;refine bodyPost_ret (v:=.tuple #[.agg #[.int .i64 K,.int .i64 N,.int .i64 M],.int .i64 er]) (by simp[results,Tryz.results203,go_sem,s0,s1,s2]) rfl ⟨K,N,M,by rw[a6.o],a2.o,?_⟩
    first
    | exact P.o
    | exact(ZbG aD.o _ zL _ _ _)
    | exact(ZbG aD.o _ zL _ _ _).drew
  have h3:q=0∨q=1∨q=2:=by omega
  rcases h3 with rfl | rfl | rfl
  ·have aa:=ZZ (HG.o wr a c 0 C g G.out ab.out (by rw[u.o.1];exact HD.o.1))
   by_cases B:g=0
   ·have P:Hid (Zcy d=.error 3):=ZZ (by rw[A.o,if_pos (.inl B)])
    have ah:((g:Int) == 0)=true:=by rw[beq_iff_eq];omega
    obtain⟨⟨U,V,Q⟩,j⟩:=J.out.cell;have f0:=j 0;have f1:=j 1;have f2:=j 2;clear j B A Z
    go_wp2_with fail
    refine aa.o.mono ?_;rintro e L ⟨rfl,D⟩;rw[D];go_wp2;refine bodyPost_ret (v:=.tuple #[.agg #[.int .i64 0,.int .i64 0,.int .i64 0],.int .i64 3]) (by simp[results,Tryz.results203,go_sem,U,V,Q]) rfl ?_
    exact ZdS.form P.o (ZbG G.out _ zL _ _ _)
   have ah:((g:Int) == 0)=false:=beq_eq_false_iff_ne.2 (by omega)
   have ae:=ZZ B;obtain⟨a',c',R,hcut⟩:=ax.o a c 0 g (by rw[u.o.2.1,u.o.1]) (by rw[u.o.1];have:=Z.o;omega) ab.out
   have kc:=hcut (g:Int) rfl;have af:=ZZ R;obtain⟨⟨g0,g1,g2⟩,S⟩:=I.out.cell;have fq:=S 0;have ad:=ZZ (I.out.set0 (C:Int));have aj:=ZZ (J.out.other (show w.heap.size≠w.heap.size+1 by omega) 0 (.int .i64 (C:Int)))
   have ag:=ZZ (G.out.setCell (p:=⟨w.heap.size+1,0,none⟩) (show w.heap.size<=w.heap.size+1 by omega) (.int .i64 (C:Int)))
   clear B hcut R S
   go_wp2_with fail
   refine aa.o.mono ?_;rintro e L ⟨rfl,D⟩;rw[D];clear D L;go_wp2
   go_region
   all_goals
    go_wp2;go_roundw
    case rel=>exact⟨1,a',c',(C:Int),y,z,rfl,rfl,by omega,af,ad,aj,ZZ ⟨fun _=>⟨rfl,ae.o⟩,fun h=>absurd h (by decide),fun h=>absurd h (by decide)⟩,ZZ ag.o.drew⟩
    case measure=>simp[intOf]
  ·have aa:=ZZ (HG.o wr a c 1 F m G.out ab.out (by rw[u.o.2.1];exact HD.o.2.1))
   by_cases B:m=0
   ·have P:Hid (Zcy d=.error 3):=ZZ (by rw[A.o,if_pos (.inr (.inl B))])
    have ah:((m:Int) == 0)=true:=by rw[beq_iff_eq];omega
    obtain⟨⟨U,V,Q⟩,j⟩:=J.out.cell;have f0:=j 0;have f1:=j 1;have f2:=j 2;clear j B A Z
    go_wp2_with fail
    refine aa.o.mono ?_;rintro e L ⟨rfl,D⟩;rw[D];go_wp2;refine bodyPost_ret (v:=.tuple #[.agg #[.int .i64 0,.int .i64 0,.int .i64 0],.int .i64 3]) (by simp[results,Tryz.results203,go_sem,U,V,Q]) rfl ?_
    exact ZdS.form P.o (ZbG G.out _ zL _ _ _)
   have ah:((m:Int) == 0)=false:=beq_eq_false_iff_ne.2 (by omega)
   have ae:=ZZ B;obtain⟨a',c',R,hcut⟩:=ax.o a c 1 m (by rw[u.o.2.2.1,u.o.2.1]) (by rw[u.o.2.1];have:=Z.o;omega) ab.out
   have kc:=hcut (m:Int) rfl;have af:=ZZ R;obtain⟨⟨g0,g1,g2⟩,S⟩:=I.out.cell;have fq:=S 1;have ad:=ZZ (I.out.set1 (F:Int));have aj:=ZZ (J.out.other (show w.heap.size≠w.heap.size+1 by omega) 1 (.int .i64 (F:Int)))
   have ag:=ZZ (G.out.setCell (p:=⟨w.heap.size+1,1,none⟩) (show w.heap.size<=w.heap.size+1 by omega) (.int .i64 (F:Int)))
   clear B hcut R S
   go_wp2_with fail
   refine aa.o.mono ?_;rintro e L ⟨rfl,D⟩;rw[D];clear D L;go_wp2
   go_region
   all_goals
    go_wp2;go_roundw
    case rel=>exact⟨2,a',c',x,(F:Int),z,rfl,rfl,by omega,af,ad,aj,ZZ ⟨fun _=>hI.out.1 (by decide),fun _=>⟨rfl,ae.o⟩,fun h=>absurd h (by decide)⟩,ZZ ag.o.drew⟩
    case measure=>simp[intOf]
  ·have aa:=ZZ (HG.o wr a c 2 H E G.out ab.out (by rw[u.o.2.2.1];exact HD.o.2.2))
   by_cases B:E=0
   ·have P:Hid (Zcy d=.error 3):=ZZ (by rw[A.o,if_pos (.inr (.inr (.inl B)))])
    have ah:((E:Int) == 0)=true:=by rw[beq_iff_eq];omega
    obtain⟨⟨U,V,Q⟩,j⟩:=J.out.cell;have f0:=j 0;have f1:=j 1;have f2:=j 2;clear j B A Z
    go_wp2_with fail
    refine aa.o.mono ?_;rintro e L ⟨rfl,D⟩;rw[D];go_wp2;refine bodyPost_ret (v:=.tuple #[.agg #[.int .i64 0,.int .i64 0,.int .i64 0],.int .i64 3]) (by simp[results,Tryz.results203,go_sem,U,V,Q]) rfl ?_
    exact ZdS.form P.o (ZbG G.out _ zL _ _ _)
   have ah:((E:Int) == 0)=false:=beq_eq_false_iff_ne.2 (by omega)
   have ae:=ZZ B;obtain⟨a',c',R,hcut⟩:=ax.o a c 2 E (by rw[u.o.2.2.2,u.o.2.2.1]) (by rw[u.o.2.2.1];have:=Z.o;omega) ab.out
   have kc:=hcut (E:Int) rfl;have af:=ZZ R;obtain⟨⟨g0,g1,g2⟩,S⟩:=I.out.cell;have fq:=S 2;have ad:=ZZ (I.out.set2 (H:Int));have aj:=ZZ (J.out.other (show w.heap.size≠w.heap.size+1 by omega) 2 (.int .i64 (H:Int)))
   have ag:=ZZ (G.out.setCell (p:=⟨w.heap.size+1,2,none⟩) (show w.heap.size<=w.heap.size+1 by omega) (.int .i64 (H:Int)))
   clear B hcut R S
   go_wp2_with fail
   refine aa.o.mono ?_;rintro e L ⟨rfl,D⟩;rw[D];clear D L;go_wp2
   go_region
   all_goals
    go_wp2;go_roundw
    case rel=>exact⟨3,a',c',x,y,(H:Int),rfl,rfl,by omega,af,ad,aj,ZZ ⟨fun _=>hI.out.1 (by decide),fun _=>hI.out.2.1 (by decide),fun _=>⟨rfl,ae.o⟩⟩,ZZ ag.o.drew⟩
    case measure=>simp[intOf]
theorem Zsp (v k f:Int) (a:Option Addr) (n c:Nat) (w:World):
 Calls prog 205 #[.agg #[.int .i64 v,.int .i64 k,.int .i64 f],.slice a n c] w fun e w'=>e=.returned (.agg #[.int .i64 k,.int .i64 f,.slice a n c])∧Below w.heap.size w w':=by
 have b:Hid (∀ X Y,Below w.heap.size w ((w.alloc X).alloc Y)):=fun X Y=>Below.allocs (Below.allocs (Below.refl _ _) X) Y
 go_enter func205,ntmps205
 go_wp2;refine bodyPost_ret (v:=.agg #[.int .i64 k,.int .i64 f,.slice a n c]) (by simp[results,Tryz.results205,go_sem]) rfl ⟨rfl,?_⟩
 exact b.o _ _
def Znp (w:World) (v f:Nat) (B:List (List UInt8)) (e:Ending) (w':World):Prop:=
 ∃ vl,e=.returned (.tuple #[vl,.int .i64 ((Zds v f B [] 16).2.1:Int),.int .i64 (Zds v f B [] 16).2.2])∧Zbq w' w.heap.size vl (Zds v f B [] 16).1∧(∀ r ∈ (Zds v f B [] 16).1,Zga r)∧Below w.heap.size w w'
theorem Bsg.set3 {R:Nat} {a b c:Value} (h:Bsg w R #[a,b,c]) (d f e:Value):Bsg (((w.setCell ⟨R,0,none⟩ d).setCell ⟨R,1,none⟩ f).setCell ⟨R,2,none⟩ e) R #[d,f,e]:=by
 have i:=heap_setCell_same w R 0 _ _ d h;have j:=heap_setCell_same _ R 1 _ _ f i;have g:=heap_setCell_same _ R 2 _ _ e j;unfold Bsg;simpa using g
theorem Zlb.set {C:Nat} (h:Zlb w C v L) (R i:Nat) (a:R<C) (x:Value):Zlb (w.setCell ⟨R,i,none⟩ x) C v L:=by
 obtain⟨xs,f,c⟩:=h;refine⟨xs,ownsRow_setCell_below f a x,fun j b=>?_⟩
 obtain⟨y,e,d⟩:=c j b;exact⟨y,e,ownsRow_setCell_below d a x⟩
theorem Znq (v:Value) (l:List UInt8) (w:World) (f:Rd w v l) (h:l.length<=1000000):
 Calls prog 118 #[v] w fun e w'=>∃ v',e=.returned (.tuple #[v',.int .i64 ((Zao l).2.1:Nat)])∧Zlb w' w.heap.size v' (Zao l).1∧Below w.heap.size w w':=by
 have g:=ZZ (Zqm v l w f h);clear f
 go_enter func118,ntmps118
 go_wp2_with fail
 refine g.o.mono ?_;rintro e p ⟨n,rfl,d,b⟩;have j:=ZZ d;have k:=ZZ b;clear d b g;obtain⟨m,a⟩:∃ m,m=(Zao l).2.1:=⟨_,rfl⟩;have i:=ZZ a;rw[<-a];clear a;generalize (Zao l).2.2=c at *;go_wp2;go_ret2;exact⟨_,by rw[i.o];rfl,j.o,k.o⟩
theorem Zly (v:Nat) (k f:Int) (b:Value) (w:World) (i:∃ a c,b=.slice a 0 c):
 Calls prog 204 #[.agg #[.int .i64 (v:Int),.int .i64 k,.int .i64 f],b] w fun e w'=>e=.returned (.tuple #[.slice none 0 0,.int .i64 0,.int .i64 0])∧Below w.heap.size w w':=by
 obtain⟨a,c,rfl⟩:=i;have h:Hid (∀ X,Below w.heap.size w (w.alloc X)):=fun X=>(Below.refl _ _).alloc zL X
 generalize (v:Int)=V
 go_enter func204,ntmps204
 go_wp2
 go_loopw[7,14] (fun g d wr=>g=.slice none 0 0∧d=.int .i64 0∧Hid (Below w.heap.size w wr)) (fun _ _ _=>0)
 case atStart=>exact⟨rfl,rfl,ZZ (h.o _)⟩
 case round=>
  obtain⟨rfl,rfl,j⟩:=hrel;go_wp2;refine bodyPost_ret (v:=.tuple #[.slice none 0 0,.int .i64 0,.int .i64 0]) (by simp[results,Tryz.results204,go_sem]) rfl ?_
  exact⟨rfl,j.o⟩
theorem Zmz (vb:Value) (b:List UInt8) (w:World) (hr:Rd w vb b) (bV:b.length<=100000) (bf:(Zao b).1.tail=[]):
 Calls prog 166 #[vb] w fun e w'=>Zea w b e w':=by
 have G:Hid (∀ X,Below w.heap.size w (w.alloc X)):=fun X=>(Below.refl _ _).alloc zL X
 have X1:Hid (∀ cs,Bsg (w.alloc (.cells cs 217)) w.heap.size cs):=fun cs=>heap_alloc_new w _
 have ah:=ZZ (fun X=>Znq vb b (w.alloc X) (hr.below (G.o X) zL) (by omega))
 obtain⟨ab,cb,rfl,-⟩:=hr;obtain⟨au,aQ⟩:=ZhX b;obtain⟨aU,-⟩:=ZfB _ b zL
 have aX:(Zaf (Zao b).1).length<=100000:=by
  rw[aU,List.length_take];omega
 have aw:=ZZ (fun h=>Zvj (b:=b) h)
 have aE:Hid ((Zao b).1=[]->ZdP b=(ZhD,0,false)):=ZZ (fun h=>by unfold ZdP ZyU;rw[if_pos h])
 generalize (Zao b).2.1=tk at *;generalize (Zao b).1=L at *;have bM:=ZZ bf;clear bf aU;by_cases h0:L.length=0
 ·have e:L=[]:=List.eq_nil_of_length_eq_zero h0
  have l:=ZZ (aE.o e);have bn:((L.length:Int) == 0)=true:=by rw[beq_iff_eq];omega
  clear aw aE au aQ aX h0 e
  go_enter func166,ntmps166
  go_wp2_with fail
  refine(ah.o _).mono ?_;rintro e D ⟨p,rfl,S,C⟩;have K:=ZZ ((X1.out _).below C zL);have ao:=ZZ ((G.o _).trans (C.mono (G.o _).size));obtain⟨a1,M,rfl,-⟩:=S.rd;clear C ah;obtain⟨r0,f0⟩:=K.o.cell 0;obtain⟨r1,f1⟩:=K.o.cell 1;obtain⟨r2,f2⟩:=K.o.cell 2;go_wp2;refine bodyPost_ret (v:=.tuple #[.agg #[.int .i64 0,.int .i64 0,.slice none 0 0],.int .i64 0,.bool false]) (by simp[results,Tryz.results166,go_sem,r0,r1,r2]) rfl ?_
  exact Zea.fail l.o (ZbG ao.o _ zL _ _ _)
 have a4:L≠[]:=fun e=>h0 (by rw[e];rfl)
 have bn:((L.length:Int) == 0)=false:=beq_eq_false_iff_ne.2 (by omega)
 have l:=ZZ (aw.o a4);have aN:L.getD 0 []=L.headD []:=by cases L <;> rfl
 have aL:Hid (∀ (v k f:Nat),1<=v->v<=3->f<4611686018427387904->∀ (vp:Value) (W:World),Below w.heap.size w W->RdL W vp L.tail->Calls prog 204 #[.agg #[.int .i64 (v:Int),.int .i64 (k:Int),.int .i64 (f:Int)],vp] W fun e w'=>Znp W v f L.tail e w'):=ZZ (fun v k f _ _ _ vp W _ h=>by
  rw[bM.o] at h ⊢
  refine(Zly v k f vp W (by
   obtain⟨a,c,e,-⟩:=h
   exact⟨a,c,e⟩)).mono ?_
  rintro e w' ⟨rfl,P⟩
  exact⟨_,rfl,Zbq.nil _ _,(fun r hr=>by cases hr),P⟩)
 have bb:Hid (∀ v f,(Zds v f L.tail [] 16).2.1+1<=L.length):=ZZ (fun v f=>by
  have:=Zlx v f L.tail [] 16;rw[List.length_tail] at this
  omega)
 have aS:=ZZ (fun c p W (h:RdL W p (L.take c))=>ZxN p (L.take c) W h (fun x hx=>(au x (List.mem_of_mem_take hx)).1) (by have:=ZhY L c;omega))
 have a2:=ZZ (fun p W (h:Rd W p (L.headD []))=>ZoC p (L.headD []) W h)
 have bD:=ZZ (fun v k f a n c W=>Zsp v k f a n c W)
 have bX:(L.length:Int)<=100000:=by omega
 have bW:(0:Int)<(L.length:Int):=by omega
 unfold Zsk at l;clear aw aE au aX a4 aQ
 go_enter func166,ntmps166
 go_wp2_with fail
 refine(ah.o _).mono ?_;rintro e D ⟨p,rfl,S,C⟩;have K:=ZZ ((X1.out _).below C zL);have ao:=ZZ ((G.o _).trans (C.mono (G.o _).size));have an:=ZZ S.rd;have bF:Hid (Zlb D (w.heap.size+1) p L):=ZZ (S.mono (by simp))
 obtain⟨a1,M,rfl,-⟩:=S.rd;obtain⟨b0,o0,x0,rfl,aT,ag⟩:=an.o.at 0 (by omega)
 obtain⟨am,cm,aC,aD⟩:=ZxM D _ L L.length M rfl an.o 1 (by omega)
 have aY:=ZZ (fun q (hq:q<=L.length)=>Zvi D _ L L.length M rfl an.o q hq)
 rw[List.drop_one] at aC aD;rw[aN] at ag;have km:=aD 1 rfl;have bi:=ZZ aC;have a8:=aT D (Below.refl _ _);have a6:=ZZ (ag D (Below.refl _ _));obtain⟨a0,q0,bo,-⟩:=ag D (Below.refl _ _);subst bo;rw[Nat.add_zero] at a8;clear C ah aC aD aT ag X1 G aN an;generalize L.tail=B at *;generalize L.headD []=H at *;generalize bH:H.length=hl at *;clear bH
 go_wp2_with fail
 refine(a2.o _ _ a6.o).mono ?_;rintro e O ⟨x,y,z,rfl,bk,ap⟩;have ar:=ZZ bk;have az:=ZZ (K.o.below ap zL);have aG:=ZZ (ao.o.trans (ap.mono ao.o.size));have aK:=ZZ ap;clear bk ap a8 a6 K a2;obtain⟨d,aj⟩:∃ N,N=O.heap.size:=⟨_,rfl⟩;obtain⟨g,ai⟩:∃ V,V=O.alloc (.cells #[.int .i64 x,.int .i64 y,.int .i64 z] 188):=⟨_,rfl⟩;have ae:Below O.heap.size O g:=by rw[ai];exact(Below.refl _ _).alloc zL _
 have J:Hid (Bhd g d x y z):=ZZ (by rw[ai,aj];exact heap_alloc_new O _)
 have aa:=ZZ (az.o.below ae zL);have Y:=ZZ (aG.o.trans (ae.mono aG.o.size));have aq:=ZZ (aK.o.trans (ae.mono aK.o.size));have bP:w.heap.size<d:=by rw[aj];exact az.o.lt
 go_upto_region 5 with fail
 rw[<-ai,<-aj];clear ai aj ae az aG aK
 cases hrd:Zcy H with
 | error ex=>
  have bE:Hid (ZdP b=(ZhD,0,false)):=ZZ (by rw[l.o,hrd])
  have hx:=ZzH hrd;have bT:(ex != 0)=true:=by rw[bne_iff_ne];exact hx
  have Z:ZBR (Except.error ex:Except Int (Nat × Nat × Nat))=ex:=rfl;obtain⟨r0,f0⟩:=aa.o.cell 0;obtain⟨r1,f1⟩:=aa.o.cell 1;obtain⟨r2,f2⟩:=aa.o.cell 2;rw[Z];clear Z hrd hx l ar;go_wp2;refine bodyPost_ret (v:=.tuple #[.agg #[.int .i64 0,.int .i64 0,.slice none 0 0],.int .i64 0,.bool false]) (by simp[results,Tryz.results166,go_sem,r0,r1,r2]) rfl ?_
  exact Zea.fail bE.o (ZbG Y.o _ zL _ _ _)
 | ok t=>
  obtain⟨v,k,f⟩:=t;obtain⟨rfl,rfl,rfl⟩:=ar.o v k f hrd;obtain⟨-,aO,aZ,bw,aR⟩:=Zfz hrd;have ak:=ZZ (aL.o v k f aO aZ aR);have bj:=bb.o v f;rw[hrd] at l;have Z:ZBR (Except.ok (v,k,f):Except Int (Nat × Nat × Nat))=0:=rfl;rw[Z];unfold Znp at ak;simp only at l;generalize Zds v f B [] 16=T at *;obtain⟨aA,A,er⟩:=T;simp only at l ak bj;obtain⟨q,hq⟩:∃ q,q=1+A:=⟨_,rfl⟩;obtain⟨bc,bg⟩:=aY.o q (by omega)
  have kf:=bg (1+(A:Int)) (by omega)
  have aI:=ZZ (aS.o q);have bC:Hid (∀ W:World,Zlb W (w.heap.size+1) (.slice (some ⟨b0,o0,none⟩) L.length M) L->RdL W (.slice (some ⟨b0,o0,none⟩) q M) (L.take q)):=ZZ (fun W h=>h.rd.front q (by omega))
  have bm:=ZZ bc;have bS:(1:Int)+(A:Int)<=100000:=by omega
  have bU:IntKind.i64.wrap (1+(A:Int))=1+(A:Int):=by rw[IntKind.wrap_i64];omega
  have bY:(1:Int)+(A:Int)<=(L.length:Int):=by omega
  rw[<-hq] at l;obtain⟨SZ,be⟩:∃ SZ,SZ=(Zaf (L.take q)).length:=⟨_,rfl⟩;rw[<-be] at l aI;generalize L.take q=PF at *;clear Z hrd ar aL aO aZ bw aR aS aY bb bc bg bj hq be;generalize (v:Int)=V at *;have I:Hid (w.heap.size<g.heap.size):=ZZ (Nat.lt_trans bP J.o.lt);have ax:Hid (∀ W,Below g.heap.size g W->W.cell? ⟨d,0,none⟩=some (.int .i64 V)∧W.cell? ⟨d,1,none⟩=some (.int .i64 (k:Int))∧W.cell? ⟨d,2,none⟩=some (.int .i64 (f:Int))):=ZZ (fun W P=>(J.o.below P J.o.lt).cell.1)
  have ac:Hid (Below g.heap.size g g.drew):=ZZ ((Below.refl _ _).drew);have bh:=ZZ (ax.o _ ac.o);have a7:=ZZ (bi.o.below aq.o zL)
  go_upto_region 7 with fail
  go_cut[9,10,11] (fun vl vc ve wc=>∃ i nl j,vl=.slice i nl j∧vc=.int .i64 (A:Int)∧ve=.int .i64 er∧Hid (∀ r ∈ aA,Zga r)∧Hid (Zbq wc g.heap.size (.slice i nl j) aA)∧Hid (Below g.heap.size g wc))
  case first=>
   go_region_held2(fun W=>W.cell? ⟨d,0,none⟩=some (.int .i64 V)∧W.cell? ⟨d,1,none⟩=some (.int .i64 (k:Int))∧W.cell? ⟨d,2,none⟩=some (.int .i64 (f:Int))) (first | exact bh.o | exact bO.o)
    (first
     | (go_at_call 204;refine(ak.o _ g.drew Y.o.drew (a7.o.below ac.o zL)).mono ?_;rintro e W3 ⟨v3,rfl,aF,aW,aP⟩;have aB:Hid (Zbq W3 g.heap.size v3 aA):=ZZ aF;have ad:=ZZ aW;have m:=ZZ (ac.o.trans aP);have bO:=ZZ (ax.o W3 m.o);obtain⟨a3,c3,rfl⟩:=aF.shape;clear aP aF aW))
   all_goals
    go_wp2_with fail
    go_meet
    exact⟨_,_,_,rfl,rfl,rfl,ad,aB,m⟩
  case rest=>
   obtain⟨i,nl,j,rfl,rfl,rfl,ad,aB,m⟩:=hcut;have bq:=ZZ (aa.o.below m.o zL);have af:=ZZ (J.o.below m.o J.o.lt);have ba:=ZZ (Y.o.trans (m.o.mono Y.o.size));have a9:=ZZ (aq.o.trans (m.o.mono aq.o.size));have aM:Hid (∀ W,Below wc.heap.size wc W->W.cell? ⟨d,0,none⟩=some (.int .i64 V)∧W.cell? ⟨d,1,none⟩=some (.int .i64 (k:Int))∧W.cell? ⟨d,2,none⟩=some (.int .i64 (f:Int))):=ZZ (fun W P=>(af.o.below P af.o.lt).cell.1)
   have aV:Hid (Below wc.heap.size wc wc.drew):=ZZ ((Below.refl _ _).drew);have bR:=ZZ (aM.o _ aV.o);have bI:=ZZ (bm.o.below a9.o zL);have br:=ZZ (bF.o.below a9.o zL);have F:d≠w.heap.size:=by omega
   clear aa J Y aq m ax ac bh a7 ak bi bm
   go_upto_region 8 with fail
   go_region_held(fun W=>W.cell? ⟨d,0,none⟩=some (.int .i64 V)∧W.cell? ⟨d,1,none⟩=some (.int .i64 (k:Int))∧W.cell? ⟨d,2,none⟩=some (.int .i64 (f:Int))) (first | exact bR.o | exact bx.o | exact bK.o | exact bL.o | exact bQ.o | exact bz.o)
    (first
     | (go_at_call 205;refine(bD.o _ _ _ _ _ _ wc.drew).mono ?_;rintro e W4 ⟨rfl,bd⟩;have u:=ZZ (aV.o.trans bd);have bx:=ZZ (aM.o W4 u.o);have U:=ZZ (bq.o.below u.o zL);have Q:=ZZ (af.o.below u.o af.o.lt);have av:=ZZ (ba.o.trans (u.o.mono ba.o.size));have bl:=ZZ (aB.o.below u.o zL);have bp:=ZZ (bI.o.below u.o zL);obtain⟨r0,f0⟩:=U.o.cell 0;obtain⟨r1,f1⟩:=U.o.cell 1;obtain⟨r2,f2⟩:=U.o.cell 2;have aJ:=ZZ (((Q.o.other F 0 (.int .i64 (k:Int))).other F 1 (.int .i64 (f:Int))).other F 2 (.slice i nl j));have bK:=ZZ aJ.o.cell.1;have bA:=ZZ (br.o.below u.o zL);have bN:Hid (RdL ((((W4.setCell ⟨w.heap.size,0,none⟩ (.int .i64 (k:Int))).setCell ⟨w.heap.size,1,none⟩ (.int .i64 (f:Int))).setCell ⟨w.heap.size,2,none⟩ (.slice i nl j))) _ PF):=ZZ (bC.o _ (((bA.o.set w.heap.size 0 (Nat.lt_succ_self _) (.int .i64 (k:Int))).set w.heap.size 1 (Nat.lt_succ_self _) (.int .i64 (f:Int))).set w.heap.size 2 (Nat.lt_succ_self _) (.slice i nl j)));have bJ:=ZZ (U.o.set3 (.int .i64 (k:Int)) (.int .i64 (f:Int)) (.slice i nl j));have bu:=ZZ (((bl.o.set w.heap.size 0 I.o (.int .i64 (k:Int))).set w.heap.size 1 I.o (.int .i64 (f:Int))).set w.heap.size 2 I.o (.slice i nl j));have a5:=ZZ (ZbG av.o w.heap.size zL (.int .i64 (k:Int)) (.int .i64 (f:Int)) (.slice i nl j));clear bd)
     | (go_at_call 206;refine(aI.o _ W4 bp.o).mono ?_;rintro e W5 ⟨rfl,E⟩;have bL:=ZZ (Q.o.below E Q.o.lt).cell.1;have aH:=ZZ (U.o.below E zL);have bB:=ZZ (av.o.trans (E.mono av.o.size));have bt:=ZZ (bl.o.below E zL);obtain⟨s0,g0⟩:=aH.o.cell 0;obtain⟨s1,g1⟩:=aH.o.cell 1;obtain⟨s2,g2⟩:=aH.o.cell 2;have bz:=ZZ ((((Q.o.below E Q.o.lt).other F 0 (.int .i64 (k:Int))).other F 1 (.int .i64 (f:Int))).other F 2 (.slice i nl j)).cell.1;clear E)
     | (go_at_call 206;refine(aI.o _ (((W4.setCell ⟨w.heap.size,0,none⟩ (.int .i64 (k:Int))).setCell ⟨w.heap.size,1,none⟩ (.int .i64 (f:Int))).setCell ⟨w.heap.size,2,none⟩ (.slice i nl j)) bN.o).mono ?_;rintro e W6 ⟨rfl,R⟩;have bQ:=ZZ (aJ.o.below R aJ.o.lt).cell.1;have ay:=ZZ (bJ.o.below R zL);have bv:=ZZ (bu.o.below R zL);have bG:=ZZ (a5.o.trans (R.mono a5.o.size));obtain⟨s0,g0⟩:=ay.o.cell 0;obtain⟨s1,g1⟩:=ay.o.cell 1;obtain⟨s2,g2⟩:=ay.o.cell 2;clear R))
   all_goals
    go_wp2;refine bodyPost_ret (v:=.tuple #[.agg #[.int .i64 (k:Int),.int .i64 (f:Int),.slice i nl j],.int .i64 (SZ:Int),.bool true]) (by simp[results,Tryz.results166,go_sem,s0,s1,s2]) rfl ?_
    refine⟨.slice i nl j,by rw[l.o],?_,?_⟩
    ·rw[l.o]
     first
     | exact bv.o.rd ad.o
     | exact Zbq.rd (((bt.o.set w.heap.size 0 I.o _).set w.heap.size 1 I.o _).set w.heap.size 2 I.o _) ad.o
    ·first
     | exact bG.o
     | exact ZbG bB.o w.heap.size zL _ _ _
theorem ZbP {P:Program} {ι:Type} (W:ι->World) (b:ι) {id:Nat} {Q:Exit->Act->World->Prop} {a:Act} {w:World} {l:List Oper} (d:P.follows .mixedOrders=true) (c:Region.lexB .any l.toArray=true) (e:W b=w.drew)
 (h:wpQuiet P l.toArray (fun w'=>∃ n,w'=W n) (fun a'=>∀ w',(∃ n,w'=W n)->Q .normal a' w') l a):(Code.region id l.toArray true).wp P Q a w:=
 wp_region_quiet (C:=fun w'=>∃ n,w'=W n) d c ⟨b,e.symm⟩ (by simpa using h)
theorem Zqq (B:Nat) (w:World):∃ (ι:Type) (_:Nonempty ι) (W:ι->World),(∀ i,Below B w (W i))∧∀ w',Below B w w'->∃ i,w'=W i:=
 ⟨{ w' // Below B w w' },⟨⟨w,Below.refl _ _⟩⟩,Subtype.val,fun i=>i.2,fun w' h=>⟨⟨w',h⟩,rfl⟩⟩
theorem ZeP (v:Value) (l:List Rec) (w:World) (u:RdR w v l):
 Calls prog 48 #[v] w fun e w'=>e=.returned (.bool (decide (ZbE l)))∧Below w.heap.size w w':=by
 have HR:=ZZ u;obtain⟨ao,cap,rfl,ap,ag,-,-,ad⟩:=u;have aC:(l.length:Int)<=9223372036854775807:=by unfold maxLen at ag;omega
 have ay:=ZZ ad;clear ad ap ag;by_cases L:1<=l.length
 case neg=>
  have Q:Hid (decide (ZbE l)=false):=decide_eq_false (fun h=>L h.1)
  have al:(l.length:Int)<1:=by omega
  rw[Q.o]
  go_enter func48,ntmps48
  go_wp2;go_ret;exact⟨rfl,Below.refl _ _⟩
 have al:¬ (l.length:Int)<1:=by omega
 by_cases Z:l.length<=256
 case neg=>
  have Q:Hid (decide (ZbE l)=false):=decide_eq_false (fun h=>Z h.2.1)
  have ak:256<(l.length:Int):=by omega
  rw[Q.o]
  go_enter func48,ntmps48
  go_wp2;go_ret;exact⟨rfl,Below.refl _ _⟩
 have ak:¬ 256<(l.length:Int):=by omega
 have ae:=ZZ (fun h=>ZxK (l:=l) h L Z)
 have ac:=ZZ (fun(h:ZbE l) k=>h.part k)
 have aw:=ZZ (fun r W=>ZkY r W)
 obtain⟨D,G⟩:∃ D,D=decide (ZbE l):=⟨_,rfl⟩;rw[<-G];have an:Hid (Zmy l l.length->D=true):=fun h=>by rw[G];exact decide_eq_true (ae.o h)
 have aa:Hid (∀ k,¬ Zmy l k->D=false):=fun k h=>by rw[G];exact decide_eq_false (fun S=>h (ac.o S k))
 have aq:=ZZ (Zvc l);have aB:(0:Int)<(l.length:Int):=by omega
 clear G ae ac L Z
 go_enter func48,ntmps48
 go_wp2
 go_loopw[15] (fun P wr=>∃ k:Nat,P=.int .i64 (k:Int)∧k<=l.length∧Hid (Zmy l k)∧Hid (Below w.heap.size w wr)) (fun P _=>l.length-(intOf P).toNat)
 case atStart=>exact⟨0,rfl,Nat.zero_le _,aq,Below.refl _ _⟩
 case round=>
  obtain⟨k,rfl,hk,Y,F⟩:=hrel;by_cases z:k<l.length
  case neg=>
   obtain rfl:k=l.length:=by omega
   have HT:=ZZ (an.o Y.out);go_wp2;go_ret;rw[HT.o];exact⟨rfl,F.out⟩
  rcases ay.o with h0 | ⟨c,av,rfl,O⟩
  ·rw[h0] at z;simp at z
  have N:=O k z;have R:=O 0 (by omega)
  have U:=ZZ (fun W (h:Below w.heap.size w W)=>N.keep (h.block c N.lt))
  have af:=ZZ (fun W (h:Below w.heap.size w W)=>(R.keep (h.block c R.lt)).1)
  have g:=ZZ (Zvd z);have hh:l.headD Zaj=l.getD 0 Zaj:=by cases l <;> simp
  rw[hh] at g
  have ab:Hid (ZaA (l.getD k Zaj)->ZaA (l.getD 0 Zaj)):=ZZ (fun S=>by
   cases k with
   | zero=>exact S
   | succ q=>
    refine Y.out.1 _ ?_
    cases l with
    | nil=>simp at z
    | cons x t=>simp)
  have ax:=U.o wr F.out;obtain⟨c0,c1,c2,c3,c4,c5,c6⟩:=ax;have A:=ZZ (aw.o (l.getD k Zaj));have ar:∃ C,C=decide (ZaA (l.getD k Zaj)):=⟨_,rfl⟩;obtain⟨C,K⟩:=ar;rw[<-K] at A;have M:=ZZ K;unfold ZuH at A;obtain⟨r,u⟩:∃ r,r=l.getD k Zaj:=⟨_,rfl⟩;rw[<-u] at A g M U ab c0 c1 c2 c3 c4 c5 c6;clear K O N u R hh;generalize (l.getD 0 Zaj)=B at *
  go_upto_region 6 with fail
  obtain⟨d,j⟩:∃ d,d=wr.alloc (.cells (Zeo r) 62):=⟨_,rfl⟩;have az:d.heap.size=wr.heap.size+1:=by rw[j];simp
  have ah:Hid (Below w.heap.size w d):=ZZ (by rw[j];exact F.out.alloc F.out.size _)
  have au:Hid (Br d wr.heap.size (Zeo r)):=ZZ (by rw[j];exact heap_alloc_new wr _)
  unfold Zeo at j;rw[<-j];clear j c0 c1 c2 c3 c4 c5 c6;obtain⟨ι,aA,V,hV,T⟩:=Zqq d.heap.size d;have H:=ZZ hV;have HM:=ZZ T;obtain⟨i0,J⟩:=T d.drew (Below.refl _ _).drew;have E:Hid (∀ i,Below w.heap.size w (V i)):=ZZ (fun i=>ah.o.trans ((H.o i).mono ah.o.size))
  have f:∀ i,Br (V i) wr.heap.size (Zeo r):=fun i=>((H.o i).block _ (by omega)).trans au.o
  have d0:∀ i,(V i).cell? ⟨wr.heap.size,0,none⟩=some (.int .i64 r.idx):=fun i=>((f i).cell 0).1
  have d1:∀ i,(V i).cell? ⟨wr.heap.size,1,none⟩=some (.int .i64 r.proc):=fun i=>((f i).cell 1).1
  have d2:∀ i,(V i).cell? ⟨wr.heap.size,2,none⟩=some (.int .i64 r.seq):=fun i=>((f i).cell 2).1
  have d3:∀ i,(V i).cell? ⟨wr.heap.size,3,none⟩=some (.int .i64 r.op.code):=fun i=>((f i).cell 3).1
  have d4:∀ i,(V i).cell? ⟨wr.heap.size,4,none⟩=some (.int .i64 r.op.a):=fun i=>((f i).cell 4).1
  have d5:∀ i,(V i).cell? ⟨wr.heap.size,5,none⟩=some (.int .i64 r.op.b):=fun i=>((f i).cell 5).1
  have d6:∀ i,(V i).cell? ⟨wr.heap.size,6,none⟩=some (.int .i64 r.resp):=fun i=>((f i).cell 6).1
  have e0:∀ i,(V i).cell? ⟨c,av,none⟩=some (.int .i64 B.idx):=fun i=>by
   have h:=af.o (V i) (E.o i)
   rwa [Nat.zero_mul,Nat.add_zero] at h
  have X:Hid (∀ i,Calls prog 41 #[.agg #[.int .i64 r.idx,.int .i64 r.proc,.int .i64 r.seq,.int .i64 r.op.code,.int .i64 r.op.a,.int .i64 r.op.b,.int .i64 r.resp]] (V i) fun e w'=>e=.returned (.bool C)∧∃ m,w'=V m):=ZZ (fun i=>(A.o (V i)).mono fun e w' h=>⟨h.1,HM.o w' ((H.o i).trans (h.2.mono (H.o i).size))⟩)
  clear hV T f A af U
  cases C with
  | false=>
   have I:=ZZ (aa.o (k+1) (fun h=>of_decide_eq_false M.o.symm (g.o.1 h).2.1))
   refine ZbP V i0 (by kernel_rfl) (by kernel_rfl) J.symm ?_
   repeat (go_big_quiet_step ((go_at_call 41;exact X.o _)))
   refine wpQuiet_nil ?_;intro _ y;obtain⟨nq,p⟩:=y;subst p;go_wp2;go_ret;rw[I.o];exact⟨rfl,E.o _⟩
  | true=>
   have ai:=ZZ (of_decide_eq_true M.o.symm);obtain⟨-,i1,i2,-⟩:=ab.o ai.o;by_cases n:r.idx=B.idx+k
   ·have aj:(r.idx != B.idx+k)=false:=by rw[bne_eq_false_iff_eq];exact n
    have am:=ZZ (g.o.2 ⟨Y.out,ai.o,n⟩);clear g n;refine ZbP V i0 (by kernel_rfl) (by kernel_rfl) J.symm ?_
    repeat (go_big_quiet_step ((go_at_call 41;exact X.o _)))
    refine wpQuiet_nil ?_;intro _ y;obtain⟨nq,p⟩:=y;subst p;go_wp2;go_roundw
    case rel=>exact⟨k+1,by go_num,by omega,am,E.o _⟩
    case measure=>simp[intOf];omega
   ·have aj:(r.idx != B.idx+k)=true:=by rw[bne_iff_ne];exact n
    have I:=ZZ (aa.o (k+1) (fun h=>n (g.o.1 h).2.2))
    clear g n;refine ZbP V i0 (by kernel_rfl) (by kernel_rfl) J.symm ?_
    repeat (go_big_quiet_step ((go_at_call 41;exact X.o _)))
    refine wpQuiet_nil ?_;intro _ y;obtain⟨nq,p⟩:=y;subst p;go_wp2;go_ret;rw[I.o];exact⟨rfl,E.o _⟩
def ZCt (w:World) (l:List UInt8) (o:Opn) (e:Ending) (w':World):Prop:=
 ∃ v',e=.returned (.tuple #[v',.int .i64 (if Zdy o then 0 else 1)])∧Own w' w.heap.size v' (if Zdy o then l++ZaX o else l)∧Below w.heap.size w w'
theorem ZxO (v:Value) (l:List UInt8) (o:Opn) (w:World) (B:Rd w v l) (au:l.length<=90000):
 Calls prog 185 #[v,opV o] w fun e w'=>ZCt w l o e w':=by
 obtain⟨k,p,rfl,aq⟩:∃ k p,v=.slice k l.length p∧Rd w (.slice k l.length p) l:=by
  have h:=B;obtain⟨k,p,rfl,_⟩:=B;exact⟨k,p,rfl,h⟩
 have U:=ZZ B;clear aq;have V:=ZZ (fun w=>Zom o w)
 have D:Hid (∀ X,Below w.heap.size w (w.alloc X)):=fun X=>(Below.refl _ _).alloc zL X
 obtain⟨c,a,b⟩:=o;clear B;show Calls prog _ #[_,.agg #[.int .i64 c,.int .i64 a,.int .i64 b]] w _;have Y:Hid (∀ W,Calls prog 80 #[.agg #[.int .i64 c,.int .i64 a,.int .i64 b]] W fun e w'=>e=.returned (.bool (decide (Zdy ⟨c,a,b⟩)))∧Below W.heap.size W w'):=V.o
 clear V;unfold ZCt;by_cases d:Zdy ⟨c,a,b⟩
 ·simp only [if_pos d]
  have Q:=ZZ (decide_eq_true d);have G:Hid (I64 a):=(ZdK d).1;have F:Hid (I64 b):=(ZdK d).2;have Z:0<=c:=d.1;have an:c<=10:=d.2.1;have ah:=ZdD (n:=c.toNat) (by omega)
  have ak:=ZyG G.o;have ai:=ZyG F.o
  have HP:Hid (∀ W,Calls prog 132 #[.slice none 0 0,.int .i64 c] W fun e w'=>∃ v',e=.returned v'∧Own w' W.heap.size v' (Lib.uvarint c.toNat)∧Below W.heap.size W w'):=fun W=>by
   have h:=ZeN (.slice none 0 0) [] c W (Rd.nil W) (by simp)
   rw[Zcg Z (by omega),nil_append] at h
   exact h
  have HA:Hid (∀ W,Calls prog 142 #[.slice none 0 0,.int .i64 a] W fun e w'=>∃ v',e=.returned v'∧Own w' W.heap.size v' (Lib.uvarint (Lib.zigzag a))∧Below W.heap.size W w'):=fun W=>by
   have h:=Zck (.slice none 0 0) [] a W (Rd.nil W) (by simp) G.o.1 G.o.2
   rw[nil_append] at h;exact h
  have HB:Hid (∀ W,Calls prog 142 #[.slice none 0 0,.int .i64 b] W fun e w'=>∃ v',e=.returned v'∧Own w' W.heap.size v' (Lib.uvarint (Lib.zigzag b))∧Below W.heap.size W w'):=fun W=>by
   have h:=Zck (.slice none 0 0) [] b W (Rd.nil W) (by simp) F.o.1 F.o.2
   rw[nil_append] at h;exact h
  have HE:Hid (ZaX ⟨c,a,b⟩=Lib.uvarint c.toNat++(Lib.uvarint (Lib.zigzag a)++Lib.uvarint (Lib.zigzag b))):=rfl;rw[HE.o];have af:Hid (∀ W N E J u i,N=W.heap.size->Rd W E l->Rd W J (Lib.uvarint c.toNat)->Rd W u (Lib.uvarint (Lib.zigzag a))->Rd W i (Lib.uvarint (Lib.zigzag b))->Calls prog 131 #[.slice (some ⟨N,0,none⟩) 4 4] (W.alloc (.cells #[E,J,u,i] 53)) fun e w'=>∃ v',e=.returned v'∧Own w' W.heap.size v' (l++(Lib.uvarint c.toNat++(Lib.uvarint (Lib.zigzag a)++Lib.uvarint (Lib.zigzag b))))∧Below W.heap.size W w'):=fun W N E J u i hN h0 h1 h2 h3=>Zxv W N hN E J u i _ _ _ _ h0 h1 h2 h3 (by omega)
  clear d ah ak ai HE G F Z an;generalize Lib.uvarint c.toNat=A at *;generalize Lib.uvarint (Lib.zigzag a)=LA at *;generalize Lib.uvarint (Lib.zigzag b)=LB at *;generalize l++(A++(LA++LB))=LL at *
  go_enter func185,ntmps185
  go_wp2_with fail
  refine(Y.o _).mono ?_;rintro e W1 ⟨rfl,P⟩;rw[Q.o];have x:Bo W1 w.heap.size _:=(P.block w.heap.size (by simp)).trans (heap_alloc_new w _)
  have am:=ZZ x;have R:=ZZ ((D.o _).trans (P.mono (D.o _).size));obtain⟨p0,-⟩:=x.cell 0;obtain⟨p1,-⟩:=x.cell 1;obtain⟨p2,-⟩:=x.cell 2;have av:=R.o.size;clear P x;go_wp2
  go_region_held(fun w'=>w'.cell? ⟨w.heap.size,0,none⟩=some (.int .i64 c)∧w'.cell? ⟨w.heap.size,1,none⟩=some (.int .i64 a)∧w'.cell? ⟨w.heap.size,2,none⟩=some (.int .i64 b)) (go_keep)
   (first
    | (go_at_call 132;refine(HP.o _).mono ?_;rintro e W2 ⟨u,rfl,L,m⟩;have y:=am.o.below (((Below.refl _ _).drew).trans m) zL;have ab:=ZZ y;have g:=ZZ (R.o.trans ((((Below.refl _ _).drew).trans m).mono R.o.size));obtain⟨a2,c2,rfl,-⟩:=L.rd;have ae:=ZZ L.rd;obtain⟨q0,-⟩:=y.cell 0;obtain⟨q1,-⟩:=y.cell 1;obtain⟨q2,-⟩:=y.cell 2;clear L m y)
    | (go_at_call_of 142 (Value.int .i64 a);refine(HA.o _).mono ?_;rintro e W3 ⟨i,rfl,j,f⟩;have q:=ab.o.below f zL;have ao:=ZZ q;have H:=ZZ (g.o.trans (f.mono g.o.size));have aa:=ZZ (ae.o.below f zL);obtain⟨a3,c3,rfl,-⟩:=j.rd;have M:=ZZ j.rd;obtain⟨r0,-⟩:=q.cell 0;obtain⟨r1,-⟩:=q.cell 1;obtain⟨r2,-⟩:=q.cell 2;clear j f q)
    | (go_at_call_of 142 (Value.int .i64 b);refine(HB.o _).mono ?_;rintro e S ⟨v4,rfl,O,z⟩;have t:=ao.o.below z zL;have ap:=ZZ t;have C:=ZZ (H.o.trans (z.mono H.o.size));have ag:=ZZ (aa.o.below z zL);have al:=ZZ (M.o.below z zL);obtain⟨a4,c4,rfl,-⟩:=O.rd;have ar:=ZZ O.rd;obtain⟨s0,-⟩:=t.cell 0;obtain⟨s1,-⟩:=t.cell 1;obtain⟨s2,-⟩:=t.cell 2;clear O z t)
    | (go_at_call 131;refine(af.o S S.heap.size _ _ _ _ rfl (U.o.below C.o zL) ag.o al.o ar.o).mono ?_;rintro e W5 ⟨v5,rfl,T,K⟩;have I:=ap.o.below K zL;have aj:=ZZ (C.o.trans (K.mono C.o.size));have ad:=ZZ (T.mono C.o.size);obtain⟨t0,-⟩:=I.cell 0;obtain⟨t1,-⟩:=I.cell 1;obtain⟨t2,-⟩:=I.cell 2;clear T K I))
  all_goals
   go_wp2;go_ret2;exact⟨_,rfl,ad.o,aj.o⟩
 ·simp only [if_neg d]
  have Q:=ZZ (decide_eq_false d);have ac:=ZZ (fun W h=>ZuV (.slice k l.length p) l W h (by omega))
  clear d
  go_enter func185,ntmps185
  go_wp2_with fail
  refine(Y.o _).mono ?_;rintro e W2 ⟨rfl,m⟩;rw[Q.o];have g:=ZZ ((D.o _).trans (m.mono (D.o _).size));clear m
  go_wp2_with fail
  refine(ac.o _ (U.o.below g.o zL)).mono ?_;rintro e W3 ⟨i,rfl,j,f⟩;have M:=ZZ (j.mono g.o.size);have H:=ZZ (g.o.trans (f.mono g.o.size));clear j f;go_wp2;go_ret2;exact⟨_,rfl,M.o,H.o⟩
open Go.RowKit Go.Maps
theorem ZxP:Keyed prog 3:=int_keyed underlying3
theorem ZAY (w:World):(zeroValue 3).run prog w=.ok (.int .i64 0) w:=by kernel_rfl
theorem ZCu {n:Int} (h:I64 n):(Lit.int .i64 n).wf=true:=WalkArith.wf_i64 (by obtain⟨b,a⟩:=h;omega)
def ZiS (w:World) (b n:Nat) (f:Int->Int):Prop:=
 ∃ D:DataW Unit,w.ownsMap prog 3 (plainElem prog 3) b n D∧IsMap D∧∀ p,I64 p->D.atKey (.int .i64 p) (.lit (.int .i64 0))=.lit (.int .i64 (f p))
theorem ZiS.made (w:World):ZiS (w.alloc (.map #[] 0)) w.heap.size 0 (fun _=>0):=
 ⟨.map [],World.ownsMap_made _ _ _ _,isMap_empty,fun _ _=>rfl⟩
theorem ZiS.lt (h:ZiS w b n f):b<w.heap.size:=by
 obtain⟨D,a,_⟩:=h;exact a.lt
theorem ZiS.keep (h:ZiS w b n f) (c:w'.heap[b]?=w.heap[b]?):ZiS w' b n f:=by
 obtain⟨D,⟨e,d,g,r⟩,a⟩:=h;exact⟨D,⟨e,d,c.trans g,r⟩,a⟩
theorem ZiS.below (h:ZiS w b n f) (a:Below B w w') (c:w.heap.size<=B):ZiS w' b n f:=
 h.keep (a.block b (by have:=h.lt;omega))
theorem ZiS.apart (h:ZiS w b n f) {cs:Array Value} {t:TypeId} {z:Nat × Nat} {g:Nat} (a:w.heap[g]?=some (.cells cs t z)):g≠b:=by
 obtain⟨D,⟨i,d,c,_⟩,_⟩:=h;intro e;rw[e,c] at a
 cases a
theorem ZiS.look (h:ZiS w b n f) {p:Int} (d:I64 p):(Instr.lookup 183 (.map (some b)) (.int .i64 p) false).run prog w=.ok (.int .i64 (f p)) w:=by
 obtain⟨D,j,_,g⟩:=h;obtain⟨c,i,a,_⟩:=j.lookup_int ZxP underlying183 underlying3 (ZAY _) (keyOf_int_mk underlying3 (ZCu d));rw[g p d] at a;have e:f p=c:=by simpa using a
 rw[i,e]
def ZBu (f:Int->Int) (p x:Int):Int->Int:=fun q=>if p=q then x else f q
theorem ZiS.put (h:ZiS w b n f) {p x:Int} (j:I64 p) (i:I64 x) (t:n<=1000000000000):
 ∃ w',(Instr.mapUpdate 183 (.map (some b)) (.int .i64 p) (.int .i64 x)).run prog w=.ok () w'∧ZiS w' b (n+1) (ZBu f p x)∧w.grownBy w' (some b):=by
 obtain⟨D,m,a,d⟩:=h;obtain⟨w',g,k,c⟩:=m.update ZxP underlying183 (by unfold maxLen;omega) (keyOf_int_mk underlying3 (ZCu j)) (plainElem_int underlying3 (ZCu i))
 refine⟨w',g,⟨_,k,a.put _ _,fun q l=>?_⟩,c⟩
 unfold ZBu;by_cases e:p=q
 ·rw[if_pos e,<-e,atKey_put_same a (by first | exact trivial | simp[WideAt.IsKeyLit])]
 ·rw[if_neg e,atKey_put_other (by intro h;injection h with _ h;exact e h.symm),d q l]
theorem ZiS.own (h:ZiS w b n f) {B:Nat} {v:Value} {l:List UInt8} (c:Own w B v l):v.ownBlock=none∨v.ownBlock≠some b:=by
 rcases c.2 with ⟨a,_⟩ | ⟨g,cap,cur,a,_,d,_⟩
 ·exact .inl (by rw[a];rfl)
 ·right
  rw[a];have i:=h.apart d;intro e;exact i (by simpa[Value.ownBlock] using e)
theorem ZAZ (W:World) (N:Nat) (m:N=W.heap.size) (d c:Value) (b a:List UInt8) (k:Rd W d b) (n:Rd W c a) (p:b.length+a.length<=1000000):
 Calls prog 131 #[.slice (some ⟨N,0,none⟩) 2 2] (W.alloc (.cells #[d,c] 53)) fun e w'=>∃ v',e=.returned v'∧Own w' W.heap.size v' (b++a)∧Below W.heap.size W w':=by
 have l:=RdL.built W N m #[d,c] [b,a] (by simp) (fun j h=>by
  match j,h with
  | 0,_=>exact⟨d,rfl,k⟩
  | 1,_=>exact⟨c,rfl,n⟩)
 have f:[b,a].flatten=b++a:=by simp
 refine(Zgv _ _ _ l (by rw[f];simp only [length_append];omega) (by simp)).mono ?_
 rintro e w' ⟨v',rfl,g,i⟩;rw[f] at g;exact⟨v',rfl,g.mono (by simp),((Below.refl _ _).alloc zL _).trans (i.mono (by simp))⟩
theorem Zlz (r:Rec) (d:Int) (w:World) (i:ZaA r) (x:I64 d):
 Calls prog 133 #[ZuH r,.int .i64 d] w fun e w'=>∃ v',e=.returned v'∧Own w' w.heap.size v' (Lib.uvarint r.proc.toNat++(Lib.uvarint (Lib.zigzag d)++(ZaX r.op++Lib.uvarint (Lib.zigzag r.resp))))∧Below w.heap.size w w':=by
 have M:Hid (∀ X,Below w.heap.size w (w.alloc X)):=fun X=>(Below.refl _ _).alloc zL X
 have X1:Hid (∀ cs,Br (w.alloc (.cells cs 62)) w.heap.size cs):=fun cs=>heap_alloc_new w _
 have l:=ZZ (fun W=>ZxO (.slice none 0 0) [] r.op W (Rd.nil W) (by simp))
 unfold ZCt at l;rw[if_pos i.1,if_pos i.1,nil_append] at l;have t:=ZZ (ZdY i);have af:=Zjq i.1;obtain⟨_,_,_,_,_,K,ad,_⟩:=i;have ae:=ZdD (n:=r.proc.toNat) (by omega)
 have ah:=ZyG x;have aj:=ZyG t.o
 have HP:Hid (∀ W,Calls prog 132 #[.slice none 0 0,.int .i64 r.proc] W fun e w'=>∃ v',e=.returned v'∧Own w' W.heap.size v' (Lib.uvarint r.proc.toNat)∧Below W.heap.size W w'):=fun W=>by
  have h:=ZeN (.slice none 0 0) [] r.proc W (Rd.nil W) (by simp)
  rw[Zcg K (by omega),nil_append] at h
  exact h
 have HA:Hid (∀ W,Calls prog 142 #[.slice none 0 0,.int .i64 d] W fun e w'=>∃ v',e=.returned v'∧Own w' W.heap.size v' (Lib.uvarint (Lib.zigzag d))∧Below W.heap.size W w'):=fun W=>by
  have h:=Zck (.slice none 0 0) [] d W (Rd.nil W) (by simp) x.1 x.2
  rw[nil_append] at h;exact h
 have HB:Hid (∀ W,Calls prog 142 #[.slice none 0 0,.int .i64 r.resp] W fun e w'=>∃ v',e=.returned v'∧Own w' W.heap.size v' (Lib.uvarint (Lib.zigzag r.resp))∧Below W.heap.size W w'):=fun W=>by
  have h:=Zck (.slice none 0 0) [] r.resp W (Rd.nil W) (by simp) t.o.1 t.o.2
  rw[nil_append] at h;exact h
 have Y:Hid (∀ W N u k j f,N=W.heap.size->Rd W u (Lib.uvarint r.proc.toNat)->Rd W k (Lib.uvarint (Lib.zigzag d))->Rd W j (ZaX r.op)->Rd W f (Lib.uvarint (Lib.zigzag r.resp))->Calls prog 131 #[.slice (some ⟨N,0,none⟩) 4 4] (W.alloc (.cells #[u,k,j,f] 53)) fun e w'=>∃ v',e=.returned v'∧Own w' W.heap.size v' (Lib.uvarint r.proc.toNat++(Lib.uvarint (Lib.zigzag d)++(ZaX r.op++Lib.uvarint (Lib.zigzag r.resp))))∧Below W.heap.size W w'):=fun W N u k j f U h0 h1 h2 h3=>Zxv W N U u k j f _ _ _ _ h0 h1 h2 h3 (by omega)
 clear ae ah af aj t K ad x;unfold opV at l;obtain⟨idx,proc,seq,⟨O,a,b⟩,resp⟩:=r;show Calls prog _ #[.agg #[.int .i64 idx,.int .i64 proc,.int .i64 seq,.int .i64 O,.int .i64 a,.int .i64 b,.int .i64 resp],.int .i64 d] w _
 dsimp only at *
 generalize Lib.uvarint proc.toNat=A at *;generalize Lib.uvarint (Lib.zigzag d)=LA at *;generalize Lib.uvarint (Lib.zigzag resp)=LB at *;generalize ZaX ⟨O,a,b⟩=LO at *;generalize A++(LA++(LO++LB))=LL at *
 go_enter func133,ntmps133
 go_wp2_with fail
 refine(l.o _).mono ?_;rintro e W1 ⟨k,rfl,I,G⟩;have q:Br W1 w.heap.size _:=(X1.out _).below G zL;have ak:=ZZ q;have H:=ZZ ((M.o _).trans (G.mono (M.o _).size));have ac:=ZZ I.rd;obtain⟨a1,c1,rfl,-⟩:=I.rd;obtain⟨p1,-⟩:=q.cell 1;obtain⟨p6,-⟩:=q.cell 6;have aq:=H.o.size;clear G q I l;go_wp2
 go_region_held(fun w'=>w'.cell? ⟨w.heap.size,1,none⟩=some (.int .i64 proc)∧w'.cell? ⟨w.heap.size,6,none⟩=some (.int .i64 resp)) (go_keep)
  (first
   | (go_at_call 132;refine(HP.o _).mono ?_;rintro e W2 ⟨j,rfl,C,y⟩;have v:=ak.o.below (((Below.refl _ _).drew).trans y) zL;have S:=ZZ v;have Q:=ZZ (H.o.trans ((((Below.refl _ _).drew).trans y).mono H.o.size));have ao:=ZZ (ac.o.below (((Below.refl _ _).drew).trans y) zL);obtain⟨a2,c2,rfl,-⟩:=C.rd;have V:=ZZ C.rd;obtain⟨q1,-⟩:=v.cell 1;obtain⟨q6,-⟩:=v.cell 6;clear C y v)
   | (go_at_call_of 142 (Value.int .i64 d);refine(HA.o _).mono ?_;rintro e W3 ⟨f,rfl,E,g⟩;have m:=S.o.below g zL;have am:=ZZ m;have P:=ZZ (Q.o.trans (g.mono Q.o.size));have R:=ZZ (V.o.below g zL);have Z:=ZZ (ao.o.below g zL);obtain⟨a3,c3,rfl,-⟩:=E.rd;have ab:=ZZ E.rd;obtain⟨r1,-⟩:=m.cell 1;obtain⟨r6,-⟩:=m.cell 6;clear E g m)
   | (go_at_call_of 142 (Value.int .i64 resp);refine(HB.o _).mono ?_;rintro e J ⟨v4,rfl,D,c⟩;have p:=am.o.below c zL;have an:=ZZ p;have B:=ZZ (P.o.trans (c.mono P.o.size));have aa:=ZZ (R.o.below c zL);have ai:=ZZ (ab.o.below c zL);have al:=ZZ (Z.o.below c zL);obtain⟨a4,c4,rfl,-⟩:=D.rd;have ap:=ZZ D.rd;obtain⟨s1,-⟩:=p.cell 1;obtain⟨s6,-⟩:=p.cell 6;clear D c p)
   | (go_at_call 131;refine(Y.o J J.heap.size _ _ _ _ rfl aa.o ai.o al.o ap.o).mono ?_;rintro e W5 ⟨v5,rfl,L,z⟩;have F:=an.o.below z zL;have ag:=ZZ (B.o.trans (z.mono B.o.size));have T:=ZZ (L.mono B.o.size);obtain⟨t1,-⟩:=F.cell 1;obtain⟨t6,-⟩:=F.cell 6;clear L z F))
 all_goals
  go_wp2;go_ret;exact⟨_,rfl,T.o,ag.o⟩
theorem ZlA (l:List Rec) (r:Rec):ZBu (Zav l) r.proc r.seq=Zav (l++[r]):=by
 funext q
 unfold ZBu;rw[Zpk]
theorem Br.own {cs:Array Value} (h:Br w b cs) {B:Nat} {v:Value} {l:List UInt8} (f:Own w B v l):some b≠v.ownBlock:=by
 rcases f.2 with ⟨a,_⟩ | ⟨g,cap,cur,a,_,i,_⟩
 ·rw[a]
  intro e
  cases e
 ·rw[a]
  intro e;have d:b=g:=by simpa[Value.ownBlock] using e
  unfold Br at h;rw[d,i] at h
  have c:(5:TypeId)=62:=by
   injection h with h
   injection h
  exact absurd c (by decide)
theorem ZjI (v:Value) (l:List Rec) (w:World) (b:RdR w v l):
 Calls prog 90 #[v] w fun e w'=>Zoz w l e w':=by
 have HR:=ZZ b;have O:=ZZ (fun W h=>ZeP v l W h)
 obtain⟨ao,cap,rfl,a0,aL,-,-,aG⟩:=b;have bi:(l.length:Int)<=9223372036854775807:=by unfold maxLen at aL;omega
 have a7:=ZZ aG;clear aG a0 aL;unfold Zoz;by_cases a:ZbE l
 case neg=>
  simp only [if_neg a];rw[decide_eq_false a] at O;clear a
  go_enter func90,ntmps90
  go_wp2_with fail
  refine(O.o _ HR.o).mono ?_;rintro e W1 ⟨rfl,u⟩;have D:=ZZ u;clear u;go_wp2;go_ret2;exact⟨_,rfl,Own.nil _ _,D.o⟩
 simp only [if_pos a];rw[decide_eq_true a] at O;have p:1<=l.length:=a.1;have h2:l.length<=256:=a.2.1;rcases a7.o with h0 | ⟨c,aS,rfl,hc⟩
 ·rw[h0] at p;simp at p
 have aP:Hid (∀ k,k<l.length->∀ W,Below w.heap.size w W->Zmq W c (aS+k*7) (l.getD k Zaj)):=ZZ (fun k i W h=>(hc k i).keep (h.block c (hc k i).lt))
 have aT:Hid (∀ k,k<l.length->ZaA (l.getD k Zaj)):=ZZ (fun k i=>a.2.2.1 _ (by simp[List.getD,i]))
 have aw:Hid (∀ k,∀ r ∈ l.take k,ZaA r):=ZZ (fun k r b=>a.2.2.1 r (List.mem_of_mem_take b))
 have hh:l.headD Zaj=l.getD 0 Zaj:=by cases l <;> simp
 obtain⟨_,i0,i1,_⟩:=aT.o 0 p
 have aC:Hid (ZdF l=(Lib.uvarint (l.getD 0 Zaj).idx.toNat++Lib.uvarint l.length)++Zbs [] (l.take l.length)):=ZZ (by
  unfold ZdF
  rw[hh,take_length,List.append_assoc])
 have a1:=ZZ (fun k i=>Zue l k i)
 have aX:Hid (∀ k,(Zbs [] (l.take k)).length<=60*256):=ZZ (fun k=>by
  have h3:=Zql (l.take k) [] (fun r b=>by simp at b) (aw.o k)
  have h4:(l.take k).length<=l.length:=by simp;omega
  omega)
 have u1:=ZdD (n:=(l.getD 0 Zaj).idx.toNat) (by omega)
 have u2:=ZdD (n:=l.length) (by omega)
 have aH:Hid (∀ W,Calls prog 132 #[.slice none 0 0,.int .i64 (l.getD 0 Zaj).idx] W fun e w'=>∃ v',e=.returned v'∧Own w' W.heap.size v' (Lib.uvarint (l.getD 0 Zaj).idx.toNat)∧Below W.heap.size W w'):=fun W=>by
  have h:=ZeN (.slice none 0 0) [] (l.getD 0 Zaj).idx W (Rd.nil W) (by simp)
  rw[Zcg i0 (by omega),nil_append] at h
  exact h
 have av:Hid (∀ W,Calls prog 132 #[.slice none 0 0,.int .i64 (l.length:Int)] W fun e w'=>∃ v',e=.returned v'∧Own w' W.heap.size v' (Lib.uvarint l.length)∧Below W.heap.size W w'):=fun W=>by
  have h:=ZeN (.slice none 0 0) [] (l.length:Int) W (Rd.nil W) (by simp)
  rw[Zcg (by omega) (by omega),Int.toNat_natCast,nil_append] at h
  exact h
 rw[aC.o];have aN:(Lib.uvarint (l.getD 0 Zaj).idx.toNat++Lib.uvarint l.length).length<=20:=by rw[length_append];omega
 have aF:=(aP.o 0 p);have aV:=ZZ aF;have bc:=ZZ a.2.2.1;have I:Hid (∀ W N L S,N=W.heap.size->Rd W L (Lib.uvarint (l.getD 0 Zaj).idx.toNat)->Rd W S (Lib.uvarint l.length)->Calls prog 131 #[.slice (some ⟨N,0,none⟩) 2 2] (W.alloc (.cells #[L,S] 53)) fun e w'=>∃ v',e=.returned v'∧Own w' W.heap.size v' (Lib.uvarint (l.getD 0 Zaj).idx.toNat++Lib.uvarint l.length)∧Below W.heap.size W w'):=fun W N L S hN h0 p=>ZAZ W N hN L S _ _ h0 p (by omega)
 clear a hc hh aC i0 i1 u1 u2 aF;generalize (l.getD 0 Zaj)=r0 at *;generalize Lib.uvarint r0.idx.toNat=A at *;obtain⟨A2,aK⟩:∃ A2,A2=Lib.uvarint l.length:=⟨_,rfl⟩;rw[<-aK] at av I aN ⊢;clear aK;obtain⟨H,hH⟩:∃ H,H=A++A2:=⟨_,rfl⟩;rw[<-hH] at I aN ⊢;clear hH;have a9:=@run_makeMap prog;have bg:(0:Int)<(l.length:Int):=by omega
 go_enter func90,ntmps90
 go_wp2_with fail
 refine(O.o _ HR.o).mono ?_;rintro e W1 ⟨rfl,u⟩;have D:=ZZ u
 have aY:W1.cell? ⟨c,aS,none⟩=some (.int .i64 r0.idx):=by
  have h:=(aV.o W1 u).1
  rwa [Nat.zero_mul,Nat.add_zero] at h
 clear u
 go_wp2_with fail
 refine(aH.o _).mono ?_;rintro e W2 ⟨v2,rfl,aj,aR⟩;obtain⟨a2,n2,rfl,-⟩:=aj.rd;have aB:=ZZ aj.rd;have ap:=ZZ (D.o.trans (aR.mono D.o.size));clear aj aR aY D
 go_wp2_with fail
 refine(av.o _).mono ?_;rintro e W3 ⟨v3,rfl,ak,ac⟩;obtain⟨a3,n3,rfl,-⟩:=ak.rd;have ax:=ZZ (aB.o.below ac zL);have aI:=ZZ ak.rd;have P:=ZZ (ap.o.trans (ac.mono ap.o.size));clear ak ac aB ap aH av
 go_wp2_with fail
 refine(I.o W3 W3.heap.size _ _ rfl ax.o aI.o).mono ?_;rintro e z ⟨v4,rfl,aJ,aO⟩;have aU:=ZZ (aJ.mono P.o.size);have J:=ZZ (P.o.trans (aO.mono P.o.size));clear aJ aO ax aI P I;have d:Hid (Own (z.alloc (.map #[] 0)) w.heap.size v4 H):=ZZ (aU.o.below ((Below.refl _ _).alloc zL _) zL);have f:=ZZ (ZiS.made z);have t:Hid (Below w.heap.size w (z.alloc (.map #[] 0))):=ZZ (J.o.alloc J.o.size _);have HN:=ZZ J.o.size;go_wp2
 go_loopw[4,24] (fun vo vi wr=>∃ k:Nat,vi=.int .i64 (k:Int)∧k<=l.length∧Hid (Own wr w.heap.size vo (H++Zbs [] (l.take k)))∧Hid (ZiS wr z.heap.size k (Zav (l.take k)))∧Hid (Below w.heap.size w wr)) (fun _ vi _=>l.length-(intOf vi).toNat)
 case atStart=>exact⟨0,rfl,Nat.zero_le _,by simpa[Zbs] using d,f,t⟩
 case round=>
  clear d t f aU J;obtain⟨k,rfl,i,y,hM,C⟩:=hrel;by_cases M:k<l.length
  case neg=>
   have az:l.take k=l.take l.length:=by rw[take_length,List.take_of_length_le (by omega)]
   rw[az] at y;clear az;go_wp2;go_ret2;exact⟨_,rfl,y.out,C.out⟩
  have bb:(k:Int)<(l.length:Int):=by omega
  have q:=aT.o k M;have B:Hid (I64 ((l.getD k Zaj).seq-Zav (l.take k) (l.getD k Zaj).proc)):=ZZ (ZhC (aw.o k) q);have m:Hid (∀ W,Calls prog 133 #[ZuH (l.getD k Zaj),.int .i64 ((l.getD k Zaj).seq-Zav (l.take k) (l.getD k Zaj).proc)] W fun e w'=>∃ v',e=.returned v'∧Own w' W.heap.size v' (ZbJ (l.take k) (l.getD k Zaj))∧Below W.heap.size W w'):=ZZ (fun W=>Zlz (l.getD k Zaj) ((l.getD k Zaj).seq-Zav (l.take k) (l.getD k Zaj).proc) W q B.o)
  have ai:Hid (I64 (l.getD k Zaj).proc):=ZZ (by obtain⟨_,_,_,_,_,ba,bd,_⟩:=q;exact⟨by omega,by omega⟩)
  have aD:Hid (I64 (l.getD k Zaj).seq):=ZZ (by obtain⟨_,_,_,bh,bj,_⟩:=q;exact⟨by omega,by omega⟩)
  have F:=ZZ (Znm (aw.o k) q);have ab:=ZZ (aP.o k M);have a8:=aX.o k;have Z:Hid ((H++Zbs [] (l.take k)).length<=20000):=ZZ (by rw[length_append];omega)
  have G:Hid (H++Zbs [] (l.take (k+1))=(H++Zbs [] (l.take k))++ZbJ (l.take k) (l.getD k Zaj)):=ZZ (by
   rw[a1.o k M,List.append_assoc])
  have aA:Hid (ZBu (Zav (l.take k)) (l.getD k Zaj).proc (l.getD k Zaj).seq=Zav (l.take (k+1))):=ZZ (by
   rw[ZlA,ZiP M])
  clear a8 q;obtain⟨r,b⟩:∃ r,r=l.getD k Zaj:=⟨_,rfl⟩;rw[<-b] at B m ai aD F ab G aA;unfold ZuH at m;clear b;have af:Hid (∀ X,(Instr.lookup 183 (.map (some z.heap.size)) (.int .i64 r.proc) false).run prog (wr.alloc X)=.ok (.int .i64 (Zav (l.take k) r.proc)) (wr.alloc X)):=ZZ (fun X=>(hM.out.below ((Below.refl _ _).alloc zL X) zL).look ai.o)
  obtain⟨U,aQ⟩:∃ U,U=Zav (l.take k) r.proc:=⟨_,rfl⟩;rw[<-aQ] at B m af;clear aQ;obtain⟨E,hE⟩:∃ E,E=ZbJ (l.take k) r:=⟨_,rfl⟩;rw[<-hE] at m F G;clear hE;obtain⟨R,ay⟩:∃ R,R=H++Zbs [] (l.take k):=⟨_,rfl⟩;rw[<-ay] at y Z G;clear ay;have L0:=Z.o;have L1:=F.o;have be:IntKind.i64.wrap (r.seq-U)=r.seq-U:=Zri B.o;have aZ:=af.o;obtain⟨c0,c1,c2,c3,c4,c5,c6⟩:=ab.o wr C.out
  obtain⟨V,Q,rfl⟩:∃ V Q,u4=.slice V R.length Q:=by
   obtain⟨V,Q,h,-⟩:=y.out.rd;exact⟨V,Q,h⟩
  have aM:Hid (∀ cs,Br (wr.alloc (.cells cs 62)) wr.heap.size cs):=fun cs=>heap_alloc_new wr _
  have au:Hid (∀ X,Below wr.heap.size wr (wr.alloc X)):=fun X=>(Below.refl _ _).alloc zL X
  clear af B Z F
  go_wp2_with fail
  refine(m.o _).mono ?_;rintro e W5 ⟨v5,rfl,ae,ad⟩;obtain⟨a5,n5,rfl,-⟩:=ae.rd;have K:Below wr.heap.size wr W5:=(au.o _).trans (ad.mono (au.o _).size);have aE:=ZZ ae.rd;have d:=ZZ (y.out.below K zL);have f:=ZZ (hM.out.below K zL);have Y:Hid (Br W5 wr.heap.size _):=ZZ ((aM.o _).below ad zL);have t:=ZZ (C.out.trans (K.mono C.out.size));have an:=ZZ t.o.size;clear ae ad K y hM C aM au c0 c1 c2 c3 c4 c5 c6 aZ m ab
  go_wp2_with(at_builtin;refine ZiO _ rfl _ _ rfl w.heap.size _ R rfl d.o _ E rfl aE.o (by omega) an.o ?_)
  intro v6 W6 am T;rw[<-G.o] at am;have ah:=ZZ am;have aa:Hid (Br W6 wr.heap.size _):=ZZ ((T.block _ Y.o.lt (Y.o.own d.o)).trans Y.o)
  have aq:=ZZ (f.o.keep (T.block _ f.o.lt (by
   rcases f.o.own d.o with h | h
   ·rw[h];exact fun e=>by cases e
   ·exact fun e=>h e.symm)))
  have al:=ZZ (t.o.grown T an.o (fun j x=>by
   rcases d.o.2 with ⟨hv,_⟩ | ⟨g,cap,cur,hv,bf,_⟩
   ·rw[hv] at x;cases x
   ·rw[hv] at x
    have e':g=j:=by simpa[Value.ownBlock] using x
    omega))
  clear am T d Y f t an aE;obtain⟨W7,bk,ar,ag⟩:=aq.o.put ai.o aD.o (by omega)
  rw[aA.o] at ar;have aW:=ZZ ar;have a4:Hid (Own W7 w.heap.size v6 (H++Zbs [] (l.take (k+1)))):=ZZ (World.ownsRow.kept ah.o ag (aq.o.own ah.o));have a6:=ZZ (al.o.grown ag al.o.size (fun j x=>by cases x;exact HN.o))
  obtain⟨q1,-⟩:=aa.o.cell 1;obtain⟨q2,-⟩:=aa.o.cell 2;clear ar ag aq ah al aa;go_wp2;go_roundw
  case rel=>exact⟨k+1,by go_num,by omega,a4,aW,a6⟩
  case measure=>simp[intOf];omega
theorem ZmA (v:Value) (l:List Rec) (w:World) (m:RdR w v l) (c:ZbE l) (j:(ZdF l).length<=1048576):
 Calls prog 49 #[v] w fun e w'=>∃ v',e=.returned v'∧Own w' w.heap.size v' (Zad (ZdF l))∧Below w.heap.size w w':=by
 have b:=ZZ (ZjI v l w m);unfold Zoz at b;rw[if_pos c,if_pos c] at b;have f:=ZZ (fun d W (h:Rd W d (ZdF l))=>Zgw d _ W h)
 rw[ZoA j] at f;obtain⟨ao,cap,rfl,-⟩:=m;generalize ZdF l=B at *;generalize Zad B=z at *;clear c j
 go_enter func49,ntmps49
 go_wp2_with fail
 refine b.o.mono ?_;rintro e x ⟨d,rfl,k,n⟩;have p:=ZZ k.rd;have a:=ZZ n;clear k n
 go_wp2_with fail
 refine(f.o _ _ p.o).mono ?_;rintro e y ⟨u,rfl,i,g⟩;have q:=ZZ (i.mono a.o.size);have t:=ZZ (a.o.trans (g.mono a.o.size));clear i g;go_wp2;go_ret;exact⟨_,rfl,q.o,t.o⟩
theorem ZoD {L:Zhf} (w:World) (h:ZeO M I w p pd L s) (m:ZrZ s) (f:0<=s.now.st.kind∧s.now.st.kind<6) (B:s.next<4611686018427387904) (u:0<=s.next):
 Calls prog 51 #[ptr p] w fun e w'=>∃ v',e=.returned v'∧Own w' w.heap.size v' (Zad (ZbC 3 s.now.st.kind.toNat s.next.toNat))∧Below w.heap.size w w':=by
 have n:=ZZ h
 have y:Hid (∀ W,Below w.heap.size w W->Calls prog 14 #[ptr p] W fun e w'=>e=.returned (.int .i64 s.next)∧Below w.heap.size w w'):=ZZ (fun W a=>(Zlk W (h.below a) m).mono (by
  rintro e w' ⟨rfl,c⟩
  exact⟨rfl,a.trans (c.mono a.size)⟩))
 have D:Hid (∀ W,Below w.heap.size w W->Calls prog 93 #[.int .i64 3,.int .i64 s.now.st.kind,.int .i64 s.next] W fun e w'=>∃ v',e=.returned (.tuple #[v',.int .i64 0])∧Own w' w.heap.size v' (Zad (ZbC 3 s.now.st.kind.toNat s.next.toNat))∧Below w.heap.size w w'):=ZZ (fun W a=>by
  have b:=Zqp 3 s.now.st.kind s.next W;have j:Zjr s.now.st.kind s.next:=⟨f.1,f.2,u,B⟩;have C:Zch 3 s.now.st.kind s.next=0:=by unfold Zch;rw[if_pos (by decide),if_pos j]
  have E:ZjH 3 s.now.st.kind s.next=Zad (ZbC 3 s.now.st.kind.toNat s.next.toNat):=by unfold ZjH;rw[if_pos (by decide),if_pos j];rfl
  unfold ZtA at b;rw[C,E] at b;refine b.mono ?_;rintro e w' ⟨v',rfl,G,c⟩
  exact⟨v',rfl,G.mono a.size,a.trans (c.mono a.size)⟩)
 have d:Hid (∀ W,Below w.heap.size w W->W.cell? ⟨p,6,none⟩=some (.int .i64 s.now.st.kind)):=ZZ (fun W a=>by
  obtain⟨-,-,-,-,-,⟨-,z,-⟩,-⟩:=(n.o.below a).cs
  exact z)
 have l:Hid (Below w.heap.size w w.drew):=ZZ (Below.refl _ _).drew;generalize Zad (ZbC 3 s.now.st.kind.toNat s.next.toNat)=J at *;generalize s.now.st.kind=kd at *;generalize s.next=nx at *;clear h n m
 go_enter func51,ntmps51
 go_upto_region 1 with fail
 go_cut[3,4] (fun v x wc=>x=.int .i64 0∧Hid (Own wc w.heap.size v J)∧Hid (Below w.heap.size w wc))
 case first=>
  go_region_held(fun W=>W.cell? ⟨p,6,none⟩=some (.int .i64 kd))
   (first | (with_reducible exact d.o _ l.o) | (with_reducible exact d.o _ g.o) | (with_reducible exact d.o _ t.o))
   (first
    | (go_at_call 14;refine(y.o _ l.o).mono ?_;rintro e N ⟨rfl,q⟩;have g:=ZZ q;clear q)
    | (go_at_call 93;refine(D.o _ g.o).mono ?_;rintro e O ⟨K,rfl,k,i⟩;have H:=ZZ k;have t:=ZZ i;clear k i))
  all_goals
   go_wp2_with fail
   go_meet
   exact⟨rfl,H,t⟩
 case rest=>
  obtain⟨rfl,A,F⟩:=hcut;go_wp2;go_ret;exact⟨_,rfl,A.o,F.o⟩
def ZBa (t:List Ent):Prop:=Zkx t∧∀ e ∈ t,0<=e.proc∧e.proc<=64
theorem Zqr:∀ (t:List Ent) (a:Int),Zkx t->(∀ e ∈ t,a<=e.proc∧e.proc<=64)->(t.length:Int)<=max 0 (65-a)
 | [],a,_,_=>by simp only [List.length_nil];omega
 | e::t,a,h,hb=>by
  unfold Zkx at h;rw[List.pairwise_cons] at h;have d:=hb e List.mem_cons_self;have c:=Zqr t (e.proc+1) h.2 (fun x b=>⟨by have:=h.1 x b;omega,(hb x (List.mem_cons_of_mem _ b)).2⟩)
  rw[List.length_cons];omega
theorem ZBa.few (h:ZBa t):t.length<=65:=by
 have:=Zqr t 0 h.1 h.2;omega
theorem ZBa.note (h:ZBa t) {e:Ent} (b:0<=e.proc) (c:e.proc<=64):ZBa (ZfU t e):=by
 refine⟨Zky h.1,fun x a=>?_⟩
 rw[Zph] at a;rcases a with rfl | ⟨a,_⟩
 ·exact⟨b,c⟩
 ·exact h.2 x a
theorem ZhB.tabR (h:ZhB t):ZBa t:=⟨h.rises,fun e a=>by
 have:=h.mem e a;unfold Zfo at this
 omega⟩
def SnS (s:ZaW):Prop:=ZcD s.st∧ZBa s.tab
theorem SnS.next {s:ZaW} {r:Rec} (h:SnS s) (b:ZaA r):SnS (Zmm s r):=by
 refine⟨ZkC h.1 r.op,?_⟩;obtain⟨-,-,-,-,-,c,a,-⟩:=b;exact h.2.note c a
theorem SnS.take:∀ {l:List Rec} {s:ZaW},SnS s->(ZaQ s l).2=0->SnS (ZaQ s l).1
 | [],_,h,_=>h
 | r::l,s,h,h0=>by
  rw[ZaQ] at h0 ⊢;split at h0
  ·cases h0
  ·rename_i c
   rw[if_neg c];split at h0
   ·cases h0
   ·rename_i a
    rw[if_neg a]
    exact SnS.take (h.next (by
     by_cases b:ZaA r
     ·exact b
     ·exact absurd b a)) h0
structure OkS (s:Sto):Prop where
 log:OkG s.log
 nx:s.now.idx=s.next
 now:SnS s.now
 cur:s.cur≠0->s.log.pcs.length≠0
 sy:I64 s.synced
 cu:I64 s.cur
theorem OkS.num (h:OkS s):ZrZ s:=⟨h.log.f0,h.log.top,h.sy,h.cu⟩
theorem OkG.recOk {b:Lgb} (h:OkG b):∀ r ∈ b.recs,Zga r:=fun r a=>ZfA (h.fits r a)
theorem SD.begin (h:SD K w pd p s d N T) (c:∀ k,K k->k<w.heap.size) (name first:Int) (b:s.log.pcs.length<=1000000):
 Calls prog 53 #[.pointer (some ⟨p,1,none⟩),.int .i64 name,.int .i64 first] w fun e w'=>e=.returned (.tuple #[])∧SD K w' pd p { s with log:=s.log.start name first } d N T∧Zap (fun k=>¬ K k) w w':=by
 obtain⟨F,M,I,L,x,a,l,f,v,n,q⟩:=h;refine(Zni 76 (by decide) (by decide) p 1 _ L.rv L.pv s.log name first w a.toLog b).mono ?_
 rintro e w' ⟨g,t⟩;obtain⟨M',L',i,-,-,m,u⟩:=a.ofLog t;exact⟨g,SD.own c x l f v n q m i u (fun _ j=>.inl j)⟩
theorem SD.add (h:SD K w pd p s d N T) (f:∀ k,K k->k<w.heap.size) (a:Value) (l:List Rec) (B:RdR w a l) (z:s.log.pcs.length≠0) (c:s.log.pcs.length<=1000000) (t:s.log.recs.length+l.length<=10000000) (C:∀ q ∈ s.log.pcs,0<=q.stop∧q.stop<=4611686018427387904):
 Calls prog 54 #[.pointer (some ⟨p,1,none⟩),a] w fun e w'=>e=.returned (.tuple #[])∧SD K w' pd p { s with log:=s.log.add l } d N T∧Zap (fun k=>¬ K k) w w':=by
 obtain⟨F,M,I,L,E,b,n,g,D,v,x⟩:=h;refine(Zxq 76 (by decide) (by decide) p 1 _ L.rv L.pv s.log a l w b.toLog B z c t C).mono ?_
 rintro e w' ⟨i,y⟩;obtain⟨M',L',j,-,-,u,A⟩:=b.ofLog y;exact⟨i,SD.own f E n g D v x u j A (fun _ m=>.inl m)⟩
def ZoE (w:World) (p o:Nat) (x0 x1 x2 x3 x4 x5:Value):World:=(((((w.setCell ⟨p,o,none⟩ x0).setCell ⟨p,o+1,none⟩ x1).setCell ⟨p,o+2,none⟩ x2).setCell ⟨p,o+3,none⟩ x3).setCell ⟨p,o+4,none⟩ x4).setCell ⟨p,o+5,none⟩ x5
theorem Zvl (w:World) (p o:Nat) (c f e b d g:Value) (k:Nat) (a:k≠p):(ZoE w p o c f e b d g).heap[k]?=w.heap[k]?:=by
 unfold ZoE;rw[Below.heap_setCell _ _ _ _ a,Below.heap_setCell _ _ _ _ a,Below.heap_setCell _ _ _ _ a,Below.heap_setCell _ _ _ _ a,Below.heap_setCell _ _ _ _ a,Below.heap_setCell _ _ _ _ a]
theorem Zvm (w:World) (p o:Nat) (d g f c e h:Value) (M:Nat->Prop) (a:M p):Zap M w (ZoE w p o d g f c e h):=
 ((((((Zap.refl M w).setCell (b:=p) _ (fun _=>a) _).setCell (b:=p) _ (fun _=>a) _).setCell (b:=p) _ (fun _=>a) _).setCell (b:=p) _ (fun _=>a) _).setCell (b:=p) _ (fun _=>a) _).setCell (b:=p) _ (fun _=>a) _
theorem SD.setNow {W:World} {F:Nat->Prop} {L:Zhf} (z:∀ k,K k->k<w.heap.size) (S:Dsk F w pd d N T) (a:ZeO M I w p pd L s) (B:∀ k,F k->¬ K k) (A:∀ k,M k->¬ K k) (R:∀ k,I k->¬ K k) (E:∀ k,F k->¬ M k) (H:∀ k,F k->¬ I k)
 (i:Below w.heap.size w W) (x:ZaW × Value × Value) (J:SnR W x) (hi:ZoR (fun k=>I k∨(w.heap.size<=k∧k<W.heap.size)) x):
 SD K (ZoE W p 5 (.int .i64 x.1.idx) (.int .i64 x.1.st.kind) x.2.1 (.bool x.1.st.shut) (.int .i64 x.1.st.eng) x.2.2) pd p { s with now:=x.1 } d N T∧
  Zap (fun k=>¬ K k) w (ZoE W p 5 (.int .i64 x.1.idx) (.int .i64 x.1.st.kind) x.2.1 (.bool x.1.st.shut) (.int .i64 x.1.st.eng) x.2.2):=by
 obtain⟨f,j⟩:∃ f,f=ZoE W p 5 (.int .i64 x.1.idx) (.int .i64 x.1.st.kind) x.2.1 (.bool x.1.st.shut) (.int .i64 x.1.st.eng) x.2.2:=⟨_,rfl⟩;rw[<-j];have b:=a.below i;have hk:∀ k,k≠p->f.heap[k]?=W.heap[k]?:=fun k hk=>by rw[j];exact Zvl _ _ _ _ _ _ _ _ _ k hk
 have Q:Zap M w f:=(Zap.ofBelow i).trans (G:=M) (by rw[j];exact Zvm _ _ _ _ _ _ _ _ _ M a.mh) (fun _ _ h=>h)
 have u:f.heap.size=W.heap.size:=by rw[j];unfold ZoE;simp
 have U:p<w.heap.size:=a.ltM p a.mh
 have C:Bk 76 f p (stC pd { L with nl:=x.2.1,nt:=x.2.2 } { s with now:=x.1 }):=by
  rw[j];exact(((((b.head.set 5 _).set 6 _).set 7 _).set 8 _).set 9 _).set 10 _
 have m:∀ {t:TypeId} {n sz g:Nat} {v:Value} {xs:List Value},W.ownsRow 0 t sz v n xs->v.ownBlock=some g->t≠76->g≠p:=fun P c D=>by
  obtain⟨V,i⟩:=ZaR P c;exact i.ne b.head D
 have q:∀ k,(I k∨(w.heap.size<=k∧k<W.heap.size))->f.heap[k]?=W.heap[k]?:=fun k O=>hk k (fun e=>by
  subst e;rcases O with h | h
  ·exact a.dis _ a.mh h
  ·omega)
 refine SD.own (I':=fun k=>I k∨(w.heap.size<=k∧k<W.heap.size)) (M':=M) (L':={ L with nl:=x.2.1,nt:=x.2.2 }) z S B A R E H Q ⟨C,Zae b.recs fun g c=>hk g (m b.recs c (by decide)),Zae b.pcs fun g c=>hk g (m b.pcs c (by decide)),Zae b.bases fun g c=>hk g (m b.bases c (by decide)),b.bsEq,J.keep hi q,fun y l=>(b.base y l).keep (b.ibase y l) (fun g c=>q g (.inl c)),a.mh,a.mr,a.mp,a.mb,hi,fun y l=>(a.ibase y l).mono (fun k hk=>.inl hk),fun k hm=>?_,fun k hm=>?_,fun k hm hi=>?_⟩ (fun _ hk=>.inl hk) (fun k hk=>?_)
 ·rw[u];exact Nat.lt_of_lt_of_le (a.ltM k hm) i.size
 ·rw[u]
  rcases hm with hm | hm
  ·exact Nat.lt_of_lt_of_le (a.ltI k hm) i.size
  ·exact hm.2
 ·rcases hi with hi | hi
  ·exact a.dis k hm hi
  ·have:=a.ltM k hm
   omega
 ·rcases hk with hk | hk
  ·exact .inl hk
  ·exact .inr hk.1
theorem Zqs (h:ZbE l):(ZdF l).length<=20000:=by
 obtain⟨c,g,a,i⟩:=h;have b:=ZiR l [] (fun r b=>by cases b) a
 unfold ZdF;rw[length_append,length_append]
 have d:ZaA (l.headD Zaj):=by
  match l,c with
  | r::t,_=>exact a r List.mem_cons_self
 have e:(Lib.uvarint (l.headD Zaj).idx.toNat).length<=10:=ZdD (by have:=d.2.2.1;omega)
 have f:(Lib.uvarint l.length).length<=10:=ZdD (by omega)
 omega
theorem Zvn (h:ZbE l) (g:0<=s.now.st.kind∧s.now.st.kind<6) (i:s.next<4611686018427387904):(Zew s l).length<=30000:=by
 have j:=Zqs h;have d:=Zas (ZdF l);have a:=Zas (ZbC 3 s.now.st.kind.toNat s.next.toNat);have e:=ZhV (v:=3) (k:=s.now.st.kind.toNat) (f:=s.next.toNat) (by decide) (by omega) (by omega)
 have b:(Lib.uvarint (ZdF l).length).length<=10:=ZdD (by omega)
 have c:(Lib.uvarint (ZbC 3 s.now.st.kind.toNat s.next.toNat).length).length<=10:=ZdD (by omega)
 unfold Zew;split
 ·rw[length_append]
  omega
 ·omega
theorem Zgf (h:OkD d) (first:Int) (g:0<=first) (f:first<=1000):I64 (Zbf d first):=by
 have a:∀ n ∈ ZaY (Zak d) first,0<=n∧n<1048576:=fun n b=>Zej h n (List.mem_filter.1 b).1
 unfold Zbf;generalize ZaY (Zak d) first=l at a ⊢;by_cases c:l.length=0
 ·rw[List.eq_nil_of_length_eq_zero c]
  show I64 (first-2+2);exact⟨by omega,by omega⟩
 ·have e:l.getD (l.length-1) (first-2)=l[l.length-1]'(by omega):=by simp[List.getD,show l.length-1<l.length by omega]
  have:=a _ (List.getElem_mem (show l.length-1<l.length by omega))
  rw[e];exact⟨by omega,by omega⟩
theorem RdR.keepK (h:RdR w v l) (hv:l=[]∨∀ k,v.ownBlock=some k->K k) (n:Zap (fun k=>¬ K k) w w'):RdR w' v l:=by
 obtain⟨ao,cap,rfl,i,f,e,p,a⟩:=h;refine⟨ao,cap,rfl,i,f,e,p,?_⟩;rcases hv with hv | hv
 ·exact .inl hv
 rcases a with a | ⟨b,g,rfl,d⟩
 ·exact .inl a
 ·exact .inr ⟨b,g,rfl,fun j c=>(d j c).keep (n.block b (d j c).lt (fun m=>m (hv b rfl)))⟩
theorem SD.takes (h:SD K w pd p s d N T) (hK:∀ k,K k->k<w.heap.size) (O:SnS s.now) (Q:Value) (l:List Rec) (hr:RdR w Q l) (ag:l.length<=1000000):
 ∃ b i lc m f a,(w.cell? ⟨p,5,none⟩=some (.int .i64 s.now.idx)∧w.cell? ⟨p,6,none⟩=some (.int .i64 s.now.st.kind)∧w.cell? ⟨p,7,none⟩=some (.slice b i lc)∧w.cell? ⟨p,8,none⟩=some (.bool s.now.st.shut)∧w.cell? ⟨p,9,none⟩=some (.int .i64 s.now.st.eng)∧w.cell? ⟨p,10,none⟩=some (.slice m f a))∧
  Calls prog 15 #[.agg #[.int .i64 s.now.idx,.int .i64 s.now.st.kind,.slice b i lc,.bool s.now.st.shut,.int .i64 s.now.st.eng,.slice m f a],Q] w fun e w'=>
   ∃ u E v q G x,e=.returned (.tuple #[.agg #[.int .i64 (ZaQ s.now l).1.idx,.int .i64 (ZaQ s.now l).1.st.kind,.slice u E v,.bool (ZaQ s.now l).1.st.shut,.int .i64 (ZaQ s.now l).1.st.eng,.slice q G x],.int .i64 (ZaQ s.now l).2])∧
    (w'.cell? ⟨p,5,none⟩=some (.int .i64 s.now.idx)∧w'.cell? ⟨p,6,none⟩=some (.int .i64 s.now.st.kind)∧w'.cell? ⟨p,7,none⟩=some (.slice b i lc)∧w'.cell? ⟨p,8,none⟩=some (.bool s.now.st.shut)∧w'.cell? ⟨p,9,none⟩=some (.int .i64 s.now.st.eng)∧w'.cell? ⟨p,10,none⟩=some (.slice m f a))∧(∀ j,w'.frozen? ⟨p,j,none⟩=false)∧
    SD K (ZoE w' p 5 (.int .i64 (ZaQ s.now l).1.idx) (.int .i64 (ZaQ s.now l).1.st.kind) (.slice u E v) (.bool (ZaQ s.now l).1.st.shut) (.int .i64 (ZaQ s.now l).1.st.eng) (.slice q G x)) pd p { s with now:=(ZaQ s.now l).1 } d N T∧
    Zap (fun k=>¬ K k) w (ZoE w' p 5 (.int .i64 (ZaQ s.now l).1.idx) (.int .i64 (ZaQ s.now l).1.st.kind) (.slice u E v) (.bool (ZaQ s.now l).1.st.shut) (.int .i64 (ZaQ s.now l).1.st.eng) (.slice q G x)):=by
 obtain⟨F,M,I,L,h1,n,h3,h4,h5,h6,h7⟩:=h;obtain⟨b,i,lc,m,f,a,e1,e2⟩:=n.now.shape;have z:L.nl=.slice b i lc:=e1;have J:L.nt=.slice m f a:=e2
 have U:∀ W,Below w.heap.size w W->(W.cell? ⟨p,5,none⟩=some (.int .i64 s.now.idx)∧W.cell? ⟨p,6,none⟩=some (.int .i64 s.now.st.kind)∧W.cell? ⟨p,7,none⟩=some (.slice b i lc)∧W.cell? ⟨p,8,none⟩=some (.bool s.now.st.shut)∧W.cell? ⟨p,9,none⟩=some (.int .i64 s.now.st.eng)∧W.cell? ⟨p,10,none⟩=some (.slice m f a)):=fun W hW=>by
  obtain⟨-,-,-,-,-,⟨c5,c6,c7,c8,c9,R⟩,-⟩:=(n.below hW).cs;rw[z] at c7;rw[J] at R;exact⟨c5,c6,c7,c8,c9,R⟩
 refine⟨b,i,lc,m,f,a,U w (Below.refl _ _),?_⟩;have Y:=n.now.snV
 have ac:snV (L.nx s)=.agg #[.int .i64 s.now.idx,.int .i64 s.now.st.kind,.slice b i lc,.bool s.now.st.shut,.int .i64 s.now.st.eng,.slice m f a]:=by
  unfold snV snC Zhf.nx
  dsimp only
  rw[z,J]
 rw[ac] at Y;have hL:s.now.st.L.length<=1000:=by have:=ZrP O.1;omega
 have hT:s.now.tab.length<=1000:=by have:=O.2.few;omega
 refine(ZpU (P:=SnS) (fun S r y hf=>y.next hf) (fun S y=>by have:=y.2.few;omega) _ _ _ _ _ _ s.now Q l w Y hr hL hT (by omega) O).mono ?_
 rintro e w' ⟨A,B,rfl,H,r2,r3,X,r5,g1,g2,C⟩;obtain⟨u,v,V,-⟩:=id H;obtain⟨q,x,hu⟩:=X.shape;have y:SnR w' ((ZaQ s.now l).1,A,B):=⟨H,X,r2,r3,r5⟩
 have aa:ZoR (fun k=>I k∨(w.heap.size<=k∧k<w'.heap.size)) ((ZaQ s.now l).1,A,B):=by
  refine⟨?_,?_⟩
  ·rcases H.block with ad | ⟨af,k,Z,ab⟩
   ·exact .inl ad
   ·rcases g1 with g1 | g1
    ·rcases n.inow.1 with hi | hi
     ·obtain⟨a2,c2,h9,-⟩:=n.now.l
      have t:L.nl=.slice a2 s.now.st.L.length c2:=h9;have ae:s.now.st.L=[]:=hi;rw[ae] at t;rw[V] at g1;rw[z] at t
      injection g1 with _ g1 _
      injection t with _ t _
      exact .inl (List.eq_nil_of_length_eq_zero (by rw[g1,t];rfl))
     ·refine .inr fun g c=>.inl (hi g ?_)
      show L.nl.ownBlock=some g;rw[z,<-g1];exact c
    ·refine .inr fun g c=>.inr ⟨g1 g c,?_⟩
     rw[c] at Z;obtain rfl:=Option.some.inj Z;exact ab
  ·rcases g2 with ⟨rfl,g2⟩ | g2
   ·rcases n.inow.2 with hi | hi
    ·exact .inl hi
    ·refine .inr fun g c=>.inl (hi g ?_)
     show L.nt.ownBlock=some g;rw[J,<-g2];exact c
   ·exact .inr fun g c=>.inr (World.ownsRow.lt g2 g c)
 have D:=SD.setNow hK h1 n h3 h4 h5 h6 h7 C ((ZaQ s.now l).1,A,B) y aa
 dsimp only at D
 subst V hu;exact⟨u,_,v,q,_,x,rfl,U w' C,fun j=>(n.below C).fz j,D.1,D.2⟩
end Go.Proofs.YtnahjngbneicaaaGreatDoor
