import Derived.Test.YtnahjngbneicaaaGreatDoorPack10
namespace Go.Proofs.YtnahjngbneicaaaGreatDoor
open _root_.Go.Proofs.Tryz
open List (length_append length_drop nil_append take_length)
set_option maxHeartbeats 8000000
set_option maxRecDepth 100000
open Go.RowKit
variable {L:List (List UInt8)} {d:Dk} {w w':World} {B N T b n p pd:Nat} {x y z:Int} {v:Value} {f:Int->Int} {I K M:Nat->Prop} {s:Sto} {t:List Ent} {l:List Rec}
theorem Zdt (v:Int) (B:Bool) (c:B=decide (1<=v∧v<=3)) (w:World):
 Calls prog 188 #[.int .i64 v] w fun e w'=>e=.returned (.bool B)∧w'=w:=by
 subst c;by_cases h:1<=v∧v<=3
 ·rw[decide_eq_true h]
  obtain⟨b,a⟩:=h
  go_enter func188,ntmps188
  go_wp2;go_ret;exact⟨rfl,rfl⟩
 ·rw[decide_eq_false h]
  by_cases b:1<=v
  ·have a:¬ v<=3:=fun a=>h ⟨b,a⟩
   clear h
   go_enter func188,ntmps188
   go_wp2;go_ret;exact⟨rfl,rfl⟩
  ·clear h
   go_enter func188,ntmps188
   go_wp2;go_ret;exact⟨rfl,rfl⟩
theorem ZmX (v k f:Int) (w:World):
 Calls prog 137 #[.agg #[.int .i64 v,.int .i64 k,.int .i64 f]] w fun e w'=>e=.returned (.int .i64 (Zr v k f))∧Below w.heap.size w w':=by
 have c:Hid (∀ X,Below w.heap.size w (w.alloc X)):=fun X=>(Below.refl _ _).alloc zL X
 by_cases a:1<=v∧v<=3
 case neg=>
  have b:=ZZ (Zdt v false (by rw[decide_eq_false a]))
  have d:Hid (Zr v k f=6):=ZZ (if_neg a);rw[d.o];clear a
  go_enter func137,ntmps137
  go_wp2_with fail
  refine(b.o _).mono ?_;rintro e g ⟨rfl,rfl⟩;go_wp2;go_ret;exact⟨rfl,c.o _⟩
 have b:=ZZ (Zdt v true (by rw[decide_eq_true a]))
 by_cases h:Zgb k f
 case neg=>
  have d:Hid (Zr v k f=1):=ZZ (by unfold Zr;rw[if_pos a,if_neg h])
  rw[d.o];clear a;by_cases p:k<0
  ·clear h
   go_enter func137,ntmps137
   go_wp2_with fail
   refine(b.o _).mono ?_;rintro e g ⟨rfl,rfl⟩;go_wp2;go_ret;exact⟨rfl,c.o _⟩
  by_cases j:6<=k
  ·clear h
   go_enter func137,ntmps137
   go_wp2_with fail
   refine(b.o _).mono ?_;rintro e g ⟨rfl,rfl⟩;go_wp2;go_ret;exact⟨rfl,c.o _⟩
  by_cases x:f<0
  ·clear h
   go_enter func137,ntmps137
   go_wp2_with fail
   refine(b.o _).mono ?_;rintro e g ⟨rfl,rfl⟩;go_wp2;go_ret;exact⟨rfl,c.o _⟩
  have i:4611686018427387904<=f:=by
   by_cases i:f<4611686018427387904
   ·exact absurd ⟨by omega,by omega,by omega,i⟩ h
   ·omega
  clear h
  go_enter func137,ntmps137
  go_wp2_with fail
  refine(b.o _).mono ?_;rintro e g ⟨rfl,rfl⟩;go_wp2;go_ret;exact⟨rfl,c.o _⟩
 have d:Hid (Zr v k f=0):=ZZ (by unfold Zr;rw[if_pos a,if_pos h])
 rw[d.o];obtain⟨z,t,l,y⟩:=h;have m:¬ k<0:=by omega
 have n:¬ 6<=k:=by omega
 have q:¬ f<0:=by omega
 have u:¬ 4611686018427387904<=f:=by omega
 clear a
 go_enter func137,ntmps137
 go_wp2_with fail
 refine(b.o _).mono ?_;rintro e g ⟨rfl,rfl⟩;go_wp2;go_ret;exact⟨rfl,c.o _⟩
theorem Zll {k:Nat} (h:k<L.length):Qf (L.take (k+1))=Qf (L.take k)++Qe (L.getD k []):=by
 rw[ZrO h,ZcC];simp[Qf]
theorem ZoV {d:List UInt8} (h:d.length<=1048576):Zgm (d.length:Int)=(Qe d).length:=by
 unfold Zgm;rw[if_pos ⟨by omega,by omega⟩,Qz,Int.toNat_natCast]
 omega
theorem Zux (v:Value) (L:List (List UInt8)) (w:World) (p:RdL w v L) (j:∀ x ∈ L,x.length<=1048576) (H:(Qf L).length<=10000000):
 Calls prog 206 #[v] w fun e w'=>e=.returned (.int .i64 ((Qf L).length:Nat))∧Below w.heap.size w w':=by
 have A:=ZZ p;obtain⟨ao,cap,rfl,M,t,-⟩:=p;have O:(L.length:Int)<=9223372036854775807:=by unfold maxLen at t;omega
 have D:=ZZ (fun k a=>A.o.at k a)
 obtain⟨Z,d⟩:∃ Z:Nat->Nat,Z=fun k=>(Qf (L.take k)).length:=⟨_,rfl⟩
 have B:Hid (Z 0=0):=ZZ (by rw[d];simp[Qf])
 have K:Hid (∀ k,k<L.length->Z (k+1)=Z k+Zgm ((L.getD k []).length:Int)):=ZZ (fun k a=>by
  rw[d];simp only
  rw[Zll a,length_append,ZoV (j _ (Zql a))])
 have I:Hid (∀ k,Z k<=10000000):=ZZ (fun k=>by
  rw[d];have:=ZeI L k;simp only
  omega)
 have F:Hid ((Qf L).length=Z L.length):=ZZ (by rw[d];simp only;rw[take_length])
 have C:Hid (∀ k,k<L.length->∀ W,Calls prog 134 #[.int .i64 ((L.getD k []).length:Int)] W fun e w'=>e=.returned (.int .i64 (Zgm ((L.getD k []).length:Int):Nat))∧Below W.heap.size W w'):=ZZ (fun k a W=>by
  have:=j _ (Zql a)
  exact Zqj _ W (by omega) (by omega))
 rw[F.o];clear d M t j H
 go_enter func206,ntmps206
 go_wp2
 go_loopw[3,8] (fun vs i wr=>∃ k:Nat,i=.int .i64 (k:Int)∧vs=.int .i64 (Z k:Int)∧k<=L.length∧Hid (Below w.heap.size w wr)) (fun _ i _=>L.length-(intOf i).toNat)
 case atStart=>exact⟨0,rfl,by rw[B.o];rfl,Nat.zero_le _,Below.refl _ _⟩
 case round=>
  obtain⟨k,rfl,rfl,a,c⟩:=hrel;by_cases g:k<L.length
  case neg=>
   have e:k=L.length:=by omega
   subst e;go_wp2;go_ret;exact⟨rfl,c.out⟩
  obtain⟨b,T,x,rfl,u,y⟩:=D.o k g;have P:=u wr c.out;have f:=ZZ (K.o k g);have G:=ZZ (C.o k g);have E:=I.o (k+1);rw[f.o] at E;obtain⟨R,Q,rfl,-⟩:=y wr c.out;obtain⟨q,l⟩:∃ q,q=Z (k+1):=⟨_,rfl⟩;rw[<-l] at f;have J:=ZZ l;generalize Z k=z at *;generalize Zgm ((L.getD k []).length:Int)=sz at *;generalize (L.getD k []).length=n at *;clear u y l
  go_wp2_with fail
  refine(G.o _).mono ?_;rintro e S ⟨rfl,m⟩;have N:=ZZ (c.out.trans (m.mono c.out.size));clear m;go_wp2;go_roundw
  case rel=>exact⟨k+1,by go_num,by rw[<-J.o,f.o];go_num,by omega,N⟩
  case measure=>simp[intOf];omega
theorem ZoW (a c b:Int) (W:World):(Instr.index 188 (.agg #[.int .i64 a,.int .i64 c,.int .i64 b]) (.int .i64 0)).run prog W=.ok (.int .i64 a) W:=by
 simp[Instr.index,run_underlying underlying188,asIntOf,go_sem]
theorem ZoX (c a b:Int) (W:World):(Instr.index 188 (.agg #[.int .i64 c,.int .i64 a,.int .i64 b]) (.int .i64 1)).run prog W=.ok (.int .i64 a) W:=by
 simp[Instr.index,run_underlying underlying188,asIntOf,go_sem]
theorem ZoY (b c a:Int) (W:World):(Instr.index 188 (.agg #[.int .i64 b,.int .i64 c,.int .i64 a]) (.int .i64 2)).run prog W=.ok (.int .i64 a) W:=by
 simp[Instr.index,run_underlying underlying188,asIntOf,go_sem]
theorem ZmY (v k f:Int) (hv:1<=v∧v<=3) (h:Zgb k f) (w:World):
 Calls prog 138 #[.agg #[.int .i64 v,.int .i64 k,.int .i64 f]] w fun e w'=>∃ v',e=.returned v'∧Own w' w.heap.size v' (X6 v.toNat k.toNat f.toNat)∧Below w.heap.size w w':=by
 obtain⟨V,k1,N,U⟩:=h
 have t:Hid (∀ c l n W,Rd W c l->l.length<=1000->0<=n->n<4611686018427387904->Calls prog 132 #[c,.int .i64 n] W fun e w'=>∃ v',e=.returned v'∧Own w' W.heap.size v' (l++Lib.uvarint n.toNat)∧Below W.heap.size W w'):=fun c l n W h hl O M=>by
  have h:=ZbA c l n W h (by omega)
  rw[Z7 O M] at h;exact h
 have L:(Lib.uvarint v.toNat).length<=10:=Ji (by omega)
 have T:(Lib.uvarint k.toNat).length<=10:=Ji (by omega)
 have G:Hid (X6 v.toNat k.toNat f.toNat=(([108]++Lib.uvarint v.toNat)++Lib.uvarint k.toNat)++Lib.uvarint f.toNat):=ZZ (by unfold X6;simp)
 have H:=ZZ (fun c W h=>t.o c [108] v W h (by simp) (by omega) (by omega))
 have F:=ZZ (fun c W h=>t.o c ([108]++Lib.uvarint v.toNat) k W h (by simp only [length_append,List.length_singleton];omega) V (by omega))
 have A:=ZZ (fun c W h=>t.o c (([108]++Lib.uvarint v.toNat)++Lib.uvarint k.toNat) f W h (by simp only [length_append,List.length_singleton];omega) N U)
 rw[<-G.o] at A;clear G t;obtain⟨d,m⟩:∃ d:Nat->List UInt8,d=fun q=>if q=0 then[108] else if q=1 then[108]++Lib.uvarint v.toNat else if q=2 then[108]++Lib.uvarint v.toNat++Lib.uvarint k.toNat else X6 v.toNat k.toNat f.toNat:=⟨_,rfl⟩
 have y:[108]=d 0:=by rw[m];rfl
 have x:[108]++Lib.uvarint v.toNat=d 1:=by rw[m];rfl
 have z:[108]++Lib.uvarint v.toNat++Lib.uvarint k.toNat=d 2:=by rw[m];rfl
 have B:X6 v.toNat k.toNat f.toNat=d 3:=by rw[m];rfl
 have P:Hid (∀ W:World,Rd (W.alloc (.cells #[.int .u8 108] 5)) (.slice (some ⟨W.heap.size,0,none⟩) 1 1) (d 0)):=ZZ (fun W=>by rw[<-y];exact Rd.byte W 108)
 rw[z,B] at A;rw[z,x] at F;rw[x,y] at H;rw[B];clear y x z B m L T;have Q:Hid (∀ X Y,Below w.heap.size w ((w.alloc X).alloc Y)):=fun X Y=>Below.allocs (Below.allocs (Below.refl _ _) X) Y
 go_enter func138,ntmps138
 go_wp2
 go_loopw[3,8] (fun J u wr=>∃ q:Nat,u=.int .i64 (q:Int)∧q<=3∧Hid (Rd wr J (d q))∧Hid (1<=q->Own wr w.heap.size J (d q))∧Hid (Below w.heap.size w wr)) (fun _ u _=>3-(intOf u).toNat)
 case atStart=>
  refine⟨0,rfl,Nat.zero_le _,?_,fun h=>absurd h (by decide),Q.o _ _⟩
  have h:=P.o (w.alloc (.cells #[.int .i64 v,.int .i64 k,.int .i64 f] 188));have e:(w.alloc (.cells #[.int .i64 v,.int .i64 k,.int .i64 f] 188)).heap.size=w.heap.size+1:=by simp
  rw[e] at h;exact h
 case round=>
  obtain⟨q,rfl,hq,C,R,b⟩:=hrel;by_cases Z:q<3
  case neg=>
   have e:q=3:=by omega
   subst e;have K:=ZZ (R.out (by decide))
   go_wp2;go_ret;exact⟨_,rfl,K.o,b.out⟩
  have S:q=0∨q=1∨q=2:=by omega
  rcases S with rfl | rfl | rfl
  ·have E:=ZoW v k f
   go_wp2_with fail
   refine(H.o _ _ C.out).mono ?_;rintro e I ⟨D,rfl,a,g⟩;have i:=ZZ a.rd;have j:=ZZ (a.mono b.out.size);have p:=ZZ (b.out.trans (g.mono b.out.size));clear a g;go_wp2;go_roundw
   case rel=>exact⟨1,rfl,by omega,i,ZZ (fun _=>j.o),p⟩
   case measure=>simp[intOf]
  ·have E:=ZoX v k f
   go_wp2_with fail
   refine(F.o _ _ C.out).mono ?_;rintro e I ⟨D,rfl,a,g⟩;have i:=ZZ a.rd;have j:=ZZ (a.mono b.out.size);have p:=ZZ (b.out.trans (g.mono b.out.size));clear a g;go_wp2;go_roundw
   case rel=>exact⟨2,rfl,by omega,i,ZZ (fun _=>j.o),p⟩
   case measure=>simp[intOf]
  ·have E:=ZoY v k f
   go_wp2_with fail
   refine(A.o _ _ C.out).mono ?_;rintro e I ⟨D,rfl,a,g⟩;have i:=ZZ a.rd;have j:=ZZ (a.mono b.out.size);have p:=ZZ (b.out.trans (g.mono b.out.size));clear a g;go_wp2;go_roundw
   case rel=>exact⟨3,rfl,by omega,i,ZZ (fun _=>j.o),p⟩
   case measure=>simp[intOf]
theorem ZmZ (v k f:Int) (w:World):
 Calls prog 93 #[.int .i64 v,.int .i64 k,.int .i64 f] w fun e w'=>Zqk w v k f e w':=by
 unfold Zqk;have m:Hid (∀ X,Below w.heap.size w (w.alloc X)):=fun X=>(Below.refl _ _).alloc zL X
 have C:Hid (∀ cs,(w.alloc (.cells cs 188)).heap[w.heap.size]?=some (.cells cs 188 (0,0))):=fun cs=>heap_alloc_new w _
 have l:=ZZ (fun W=>ZmX v k f W)
 by_cases i:(1<=v∧v<=3)∧Zgb k f
 case neg=>
  have b:Zr v k f≠0∧Zgr v k f=[]:=by
   unfold Zr Zgr;by_cases a:1<=v∧v<=3
   ·rw[if_pos a,if_pos a,if_neg (fun h=>i ⟨a,h⟩),if_neg (fun h=>i ⟨a,h⟩)]
    exact⟨by decide,rfl⟩
   ·rw[if_neg a,if_neg a]
    exact⟨by decide,rfl⟩
  obtain⟨b,g⟩:=b;rw[g];generalize Zr v k f=J at *;have N:(J != 0)=true:=by rw[bne_iff_ne];exact b
  clear i b g
  go_enter func93,ntmps93
  go_wp2_with fail
  refine(l.o _).mono ?_;rintro e p ⟨rfl,c⟩;have j:=ZZ ((m.o _).trans (c.mono (m.o _).size));clear c;go_wp2;go_ret2;exact⟨_,rfl,Own.nil _ _,j.o⟩
 obtain⟨a,d⟩:=i;have G:=ZZ (fun W=>ZmY v k f a d W)
 have b:Zr v k f=0:=by unfold Zr;rw[if_pos a,if_pos d]
 have g:Zgr v k f=Qe (X6 v.toNat k.toNat f.toNat):=by unfold Zgr;rw[if_pos a,if_pos d]
 have R:(X6 v.toNat k.toNat f.toNat).length<=40:=ZeF (by omega) (by have:=d.2.1;omega) (by have:=d.2.2.2;omega)
 have z:=ZZ (fun A W (h:Rd W A (X6 v.toNat k.toNat f.toNat))=>Zdg A _ W h)
 rw[Zlk (by omega)] at z
 rw[b] at l ⊢;rw[g];generalize X6 v.toNat k.toNat f.toNat=H at *;generalize Qe H=F at *;clear a d b g
 go_enter func93,ntmps93
 go_wp2_with fail
 refine(l.o _).mono ?_;rintro e p ⟨rfl,c⟩;have n:=ZZ ((c.block _ (by simp)).trans (C.out _))
 have j:=ZZ ((m.o _).trans (c.mono (m.o _).size));clear c l;have L:p.cell? ⟨w.heap.size,0,none⟩=some (.int .i64 v):=cell_of_row _ _ 0 _ _ _ n.o;have D:p.cell? ⟨w.heap.size,1,none⟩=some (.int .i64 k):=cell_of_row _ _ 1 _ _ _ n.o;have K:p.cell? ⟨w.heap.size,2,none⟩=some (.int .i64 f):=cell_of_row _ _ 2 _ _ _ n.o
 go_wp2_with fail
 refine(G.o _).mono ?_;rintro e Q ⟨O,rfl,u,x⟩;have E:=ZZ u.rd;have q:=ZZ (j.o.trans (x.mono j.o.size));clear u x L D K n
 go_wp2_with fail
 refine(z.o _ _ E.o).mono ?_;rintro e M ⟨P,rfl,t,y⟩;have B:=ZZ (t.mono q.o.size);have I:=ZZ (q.o.trans (y.mono q.o.size));clear t y;go_wp2;go_ret2;exact⟨_,rfl,B.o,I.o⟩
def Bhd (w:World) (b:Nat) (x y z:Int):Prop:=w.heap[b]?=some (.cells #[.int .i64 x,.int .i64 y,.int .i64 z] 188 (0,0))
theorem Bhd.lt (h:Bhd w b x y z):b<w.heap.size:=(Array.getElem?_eq_some_iff.1 h).1
theorem Bhd.below (h:Bhd w b x y z) (a:Below B w w') (c:b<B):Bhd w' b x y z:=(a.block b c).trans h
theorem Bhd.cell (h:Bhd w b x y z):(w.cell? ⟨b,0,none⟩=some (.int .i64 x)∧w.cell? ⟨b,1,none⟩=some (.int .i64 y)∧w.cell? ⟨b,2,none⟩=some (.int .i64 z))∧∀ j,w.frozen? ⟨b,j,none⟩=false:=
 ⟨⟨cell_of_row w b 0 _ _ _ h,cell_of_row w b 1 _ _ _ h,cell_of_row w b 2 _ _ _ h⟩,fun j=>frozen_of_row w b j _ _ h⟩
theorem Bhd.set0 (h:Bhd w b x y z) (n:Int):Bhd (w.setCell ⟨b,0,none⟩ (.int .i64 n)) b n y z:=by
 have a:=heap_setCell_same w b 0 _ _ (.int .i64 n) h;unfold Bhd;simpa using a
theorem Bhd.set1 (h:Bhd w b x y z) (n:Int):Bhd (w.setCell ⟨b,1,none⟩ (.int .i64 n)) b x n z:=by
 have a:=heap_setCell_same w b 1 _ _ (.int .i64 n) h;unfold Bhd;simpa using a
theorem Bhd.set2 (h:Bhd w b x y z) (n:Int):Bhd (w.setCell ⟨b,2,none⟩ (.int .i64 n)) b x y n:=by
 have a:=heap_setCell_same w b 2 _ _ (.int .i64 n) h;unfold Bhd;simpa using a
theorem Bhd.other {c:Nat} (h:Bhd w b x y z) (a:b≠c) (j:Nat) (u:Value):Bhd (w.setCell ⟨c,j,none⟩ u) b x y z:=(Below.heap_setCell _ _ _ _ a).trans h
def ZyB:Except Int (Nat × Nat × Nat)->Int
 | .error e=>e
 | .ok _=>0
def ZaK (w:World) (d:List UInt8) (e:Ending) (w':World):Prop:=
 ∃ x y z:Int,e=.returned (.tuple #[.agg #[.int .i64 x,.int .i64 y,.int .i64 z],.int .i64 (ZyB (Za d))])∧(∀ v k f,Za d=.ok (v,k,f)->x=(v:Int)∧y=(k:Int)∧z=(f:Int))∧Below w.heap.size w w'
theorem ZaK.form {d:List UInt8} (h:Za d=.error 3) (b:Below w.heap.size w w'):ZaK w d (.returned (.tuple #[.agg #[.int .i64 0,.int .i64 0,.int .i64 0],.int .i64 3])) w':=
 ⟨0,0,0,by rw[h];rfl,(fun v k f a=>by rw[h] at a;cases a),b⟩
theorem Zlm (v:Value) (d:List UInt8) (w:World) (hr:Rd w v d):
 Calls prog 203 #[v] w fun e w'=>ZaK w d e w':=by
 have HR:=ZZ hr;obtain⟨ao,cap,rfl,a5,aQ,-,aM⟩:=hr;have ba:(d.length:Int)<=9223372036854775807:=by unfold maxLen at aQ;omega
 have aA:Hid (∀ X,Below w.heap.size w (w.alloc X)):=fun X=>(Below.refl _ _).alloc zL X
 by_cases h0:d.length=0
 ·have e:d=[]:=List.eq_nil_of_length_eq_zero h0
  have B:Hid (Za d=.error 3):=ZZ (ZjY (.inl e));have a3:((d.length:Int) == 0)=true:=by rw[beq_iff_eq];omega
  clear e h0 aM
  go_enter func203,ntmps203
  go_wp2;refine bodyPost_ret (v:=.tuple #[.agg #[.int .i64 0,.int .i64 0,.int .i64 0],.int .i64 3]) (by simp[results,Tryz.results203,go_sem]) rfl ?_
  exact ZaK.form B.o (aA.o _)
 have a3:((d.length:Int) == 0)=false:=beq_eq_false_iff_ne.2 (by omega)
 have bj:(0:Int)<(d.length:Int):=by omega
 have aq:d≠[]:=fun e=>by rw[e] at h0;simp at h0
 rcases aM with he | ⟨b,ar,rfl,hc⟩
 ·exact absurd he aq
 have ay:=hc 0 (by omega)
 have aZ:b<w.heap.size:=World.block_lt_of_cell? w ⟨b,ar+0,none⟩ ay;have a6:∀ X,(w.alloc X).cell? ⟨b,ar,none⟩=some (.int .u8 ((d.getD 0 0).toNat:Nat)):=fun X=>((aA.o X).cell (p:=⟨b,ar,none⟩) aZ).trans ay
 clear hc ay a5 aQ;by_cases hm:d.getD 0 0=108
 case neg=>
  have B:Hid (Za d=.error 3):=ZZ (ZjY (.inr hm))
  have a2:((((d.getD 0 0).toNat:Nat):Int) != 108)=true:=by
   rw[bne_iff_ne];intro h;apply hm;apply UInt8.toNat_inj.1;have:(108:UInt8).toNat=108:=rfl;omega
  clear hm aq h0;generalize (((d.getD 0 0).toNat:Nat):Int)=c0 at *
  go_enter func203,ntmps203
  go_wp2;refine bodyPost_ret (v:=.tuple #[.agg #[.int .i64 0,.int .i64 0,.int .i64 0],.int .i64 3]) (by simp[results,Tryz.results203,go_sem]) rfl ?_
  exact ZaK.form B.o (aA.o _)
 have a2:((((d.getD 0 0).toNat:Nat):Int) != 108)=false:=by
  rw[hm];rfl
 have aO:¬ (d=[]∨d.getD 0 0≠108):=by rintro(h | h);exact aq h;exact h hm
 generalize (((d.getD 0 0).toNat:Nat):Int)=c0 at *;obtain⟨a1,c1,aH,aU⟩:=ZwZ w _ d cap HR.o 1 (by omega)
 obtain⟨⟨C,g⟩,av⟩:∃ x,Qb (d.drop 1)=x:=⟨_,rfl⟩;obtain⟨⟨E,m⟩,an⟩:∃ x,Qb (d.drop (1+g))=x:=⟨_,rfl⟩;obtain⟨⟨I,G⟩,ai⟩:∃ x,Qb (d.drop (1+g+m))=x:=⟨_,rfl⟩;have am:=Z3 (d.drop 1);have aw:=Z3 (d.drop (1+g));have au:=Z3 (d.drop (1+g+m));have q2:=Zwp (d.drop (1+g+m));rw[av,length_drop] at am;rw[an,length_drop] at aw;rw[ai,length_drop] at au;rw[ai] at q2;simp only at am aw au q2;have B:=ZZ (ZrQ aO av an ai)
 have aJ:=aU 1 rfl
 -- the three rounds
 have aD:=ZZ aH;have HF:=ZZ (fun W=>ZmX (C:Int) (E:Int) (I:Int) W)
 have X1:Hid (∀ x y z Y,Bhd ((w.alloc (.cells #[.int .i64 x,.int .i64 y,.int .i64 z] 188)).alloc Y) w.heap.size x y z):=fun x y z Y=>(Below.heap_alloc _ _ _ (by simp)).trans (heap_alloc_new w _)
 have X2:Hid (∀ X x y z,Bhd ((w.alloc X).alloc (.cells #[.int .i64 x,.int .i64 y,.int .i64 z] 188)) (w.heap.size+1) x y z):=fun X x y z=>Zop w X _
 have ab:Hid (∀ X Y,Below w.heap.size w ((w.alloc X).alloc Y)):=fun X Y=>Below.allocs (Below.allocs (Below.refl _ _) X) Y
 clear aH aU hm aq h0;obtain⟨l,ag⟩:∃ l:Nat->Nat,l=fun q=>if q=0 then 1 else if q=1 then 1+g else if q=2 then 1+g+m else 1+g+m+G:=⟨_,rfl⟩
 have p0:l 0=1:=by rw[ag];rfl
 have p1:l 1=1+g:=by rw[ag];rfl
 have p2:l 2=1+g+m:=by rw[ag];rfl
 have p3:l 3=1+g+m+G:=by rw[ag];rfl
 have u:Hid (l 0=1∧l 1=1+g∧l 2=1+g+m∧l 3=1+g+m+G):=ZZ ⟨p0,p1,p2,p3⟩;obtain⟨t,aK⟩:∃ t:Nat->Nat,t=fun q=>(d.drop (l q)).length:=⟨_,rfl⟩
 have R:Hid (∀ q,t q=(d.drop (l q)).length):=ZZ (fun q=>by rw[aK])
 have aF:Hid (Rd w (.slice a1 (t 0) c1) (d.drop (l 0))):=ZZ (by rw[R.o,p0];exact aD.o)
 have a8:∀ W,(Instr.sliceAt 53 (.slice (some ⟨b,ar,none⟩) d.length cap) (some (.int .i64 1)) none none).run prog W=.ok (.slice a1 (t 0) c1) W:=by rw[R.o,p0];exact aJ
 have az:Hid (∀ (a:Option Addr) (c q k:Nat),l (q+1)=l q+k->l q+k<=d.length->Rd w (.slice a (t q) c) (d.drop (l q))->∃ a' c',Rd w (.slice a' (t (q+1)) c') (d.drop (l (q+1)))∧∀ i:Int,i=(k:Int)->∀ W,(Instr.sliceAt 53 (.slice a (t q) c) (some (.int .i64 i)) none none).run prog W=.ok (.slice a' (t (q+1)) c') W):=ZZ (fun a c q k hp A aS=>by
  rw[R.o q] at aS;obtain⟨a',c',h1,h2⟩:=ZwZ w a (d.drop (l q)) c aS k (by rw[length_drop];omega)
  rw[List.drop_drop,<-hp,<-R.o (q+1)] at h1;rw[List.drop_drop,<-hp,<-R.o q,<-R.o (q+1)] at h2
  exact⟨a',c',h1,h2⟩)
 have HG:Hid (∀ W a c q n k,Below w.heap.size w W->Rd w (.slice a (t q) c) (d.drop (l q))->Qb (d.drop (l q))=(n,k)->Calls prog 168 #[.slice a (t q) c] W fun e w'=>e=.returned (.tuple #[.int .i64 (n:Int),.int .i64 (k:Int)])∧w'=W):=ZZ (fun W a c q n k hb h hd=>by
  have hx:=ZcI _ _ W (h.below hb zL);rw[hd] at hx
  exact hx)
 have HD:Hid (Qb (d.drop 1)=(C,g)∧Qb (d.drop (1+g))=(E,m)∧Qb (d.drop (1+g+m))=(I,G)):=ZZ ⟨av,an,ai⟩;have T:Hid (g<=d.length-1∧m<=d.length-(1+g)∧G<=d.length-(1+g+m)):=ZZ ⟨am,aw,au⟩;clear ag aK p0 p1 p2 p3 aD aJ av an ai am aw au aO
 go_enter func203,ntmps203
 go_wp2
 go_loopw[5,21] (fun vl vi wr=>∃ (q:Nat) (a:Option Addr) (c:Nat) (x y z:Int),vi=.int .i64 (q:Int)∧vl=.slice a (t q) c∧q<=3∧Hid (Rd w (.slice a (t q) c) (d.drop (l q)))∧Hid (Bhd wr (w.heap.size+1) x y z)∧Hid (Bhd wr w.heap.size 0 0 0)∧Hid ((1<=q->x=(C:Int)∧g≠0)∧(2<=q->y=(E:Int)∧m≠0)∧(3<=q->z=(I:Int)∧G≠0))∧Hid (Below w.heap.size w wr)) (fun _ vi _=>3-(intOf vi).toNat)
 case atStart=>exact⟨0,a1,c1,0,0,0,rfl,rfl,Nat.zero_le _,aF,ZZ (X2.out _ _ _ _),ZZ (X1.out _ _ _ _),ZZ ⟨fun h=>absurd h (by decide),fun h=>absurd h (by decide),fun h=>absurd h (by decide)⟩,ZZ (ab.o _ _)⟩
 case round=>
  obtain⟨q,a,c,x,y,z,rfl,rfl,hq,aa,H,J,hI,F⟩:=hrel;clear aF a8 a6;by_cases bc:q<3
  case neg=>
   have e:q=3:=by omega
   subst e;have h1:=hI.out.1 (by decide)
   have h2:=hI.out.2.1 (by decide)
   have h3:=hI.out.2.2 (by decide)
   obtain⟨rfl,aG⟩:=h1;obtain⟨rfl,aE⟩:=h2;obtain⟨rfl,aN⟩:=h3;by_cases ax:1+g+m+G=d.length
   case neg=>
    have P:Hid (Za d=.error 3):=ZZ (by rw[B.o,if_pos (.inr (.inr (.inr ax)))])
    have ap:t 3≠0:=by
     rw[R.o,u.o.2.2.2,length_drop];have:=T.o;omega
    have bi:(0:Int)<(t 3:Int):=by omega
    have a9:0<t 3:=by omega
    have bg:decide (0<t 3)=true:=decide_eq_true a9;generalize t 3=ln at *;obtain⟨⟨Z,r1,S⟩,j⟩:=J.out.cell;have f0:=j 0;have f1:=j 1;have f2:=j 2;clear j ap aG aE aN ax B;go_wp2;refine bodyPost_ret (v:=.tuple #[.agg #[.int .i64 0,.int .i64 0,.int .i64 0],.int .i64 3]) (by simp[results,Tryz.results203,go_sem,Z,r1,S]) rfl ?_
    exact ZaK.form P.o (Zd F.out _ zL _ _ _)
   have ap:t 3=0:=by
    rw[R.o,u.o.2.2.2,length_drop];omega
   have aL:Hid (Zr (C:Int) (E:Int) (I:Int)=ZyB (Za d)):=ZZ (by
    rw[B.o,if_neg (by omega)]
    unfold Zr;by_cases g1:C<1∨3<C
    ·rw[if_neg (by omega),if_pos g1];rfl
    ·rw[if_pos (by omega),if_neg g1]
     by_cases g2:6<=E
     ·rw[if_pos g2,if_neg (fun h=>by have:=h.2.1;omega)];rfl
     ·rw[if_neg g2,if_pos ⟨by omega,by omega,by omega,by omega⟩];rfl)
   have aY:Hid (∀ v k f,Za d=.ok (v,k,f)->(C:Int)=(v:Int)∧(E:Int)=(k:Int)∧(I:Int)=(f:Int)):=ZZ (fun v k f O=>by
    rw[B.o] at O;split at O
    ·cases O
    split at O
    ·cases O
    split at O
    ·cases O
    simp only [Except.ok.injEq,Prod.mk.injEq] at O;obtain⟨rfl,rfl,rfl⟩:=O
    exact⟨rfl,rfl,rfl⟩)
   rw[aL.o] at HF;rw[ap] at aa ⊢;obtain⟨er,aC⟩:∃ er,er=ZyB (Za d):=⟨_,rfl⟩;rw[<-aC] at HF;have a4:=ZZ aC;clear aC;obtain⟨⟨Z,r1,S⟩,j⟩:=J.out.cell;have f0:=j 0;have f1:=j 1;have f2:=j 2;obtain⟨⟨g0,g1,g2⟩,-⟩:=H.out.cell;have aT:Hid (∀ W,Below wr.heap.size wr W->W.cell? ⟨w.heap.size+1,0,none⟩=some (.int .i64 (C:Int))∧W.cell? ⟨w.heap.size+1,1,none⟩=some (.int .i64 (E:Int))∧W.cell? ⟨w.heap.size+1,2,none⟩=some (.int .i64 (I:Int))):=ZZ (fun W hb=>(H.out.below hb H.out.lt).cell.1)
   have aW:Hid (Below wr.heap.size wr wr.drew):=ZZ ((Below.refl _ _).drew);have a0:=ZZ (aT.o _ aW.o);generalize (C:Int)=M at *;generalize (E:Int)=L at *;generalize (I:Int)=N at *;clear j aG aE aN ax B aL T HD hI ap u;have bd:w.heap.size≠w.heap.size+1:=by omega
   have aR:Hid (Bhd (((wr.setCell ⟨w.heap.size,0,none⟩ (.int .i64 M)).setCell ⟨w.heap.size,1,none⟩ (.int .i64 L)).setCell ⟨w.heap.size,2,none⟩ (.int .i64 N)) w.heap.size M L N):=ZZ (((J.out.set0 M).set1 L).set2 N);have aB:Hid (Bhd (((wr.setCell ⟨w.heap.size,0,none⟩ (.int .i64 M)).setCell ⟨w.heap.size,1,none⟩ (.int .i64 L)).setCell ⟨w.heap.size,2,none⟩ (.int .i64 N)) (w.heap.size+1) M L N):=ZZ (((H.out.other (by omega) 0 _).other (by omega) 1 _).other (by omega) 2 _)
   have aV:Hid (Below w.heap.size w (((wr.setCell ⟨w.heap.size,0,none⟩ (.int .i64 M)).setCell ⟨w.heap.size,1,none⟩ (.int .i64 L)).setCell ⟨w.heap.size,2,none⟩ (.int .i64 N)).drew):=ZZ (Zd F.out _ zL _ _ _).drew
   go_upto_region 15 with fail
   go_region_held2(fun w'=>w'.cell? ⟨w.heap.size+1,0,none⟩=some (.int .i64 M)∧w'.cell? ⟨w.heap.size+1,1,none⟩=some (.int .i64 L)∧w'.cell? ⟨w.heap.size+1,2,none⟩=some (.int .i64 N)) (first | exact a0.o | exact a7.o | exact aX.o | exact aB.o.cell.1 | go_keep)
    (first
     | (go_at_call 137;refine(HF.o wr.drew).mono ?_;rintro e K ⟨rfl,aI⟩;have ab:=ZZ (aW.o.trans aI);have a7:=ZZ (aT.o K ab.o);have aP:=ZZ (F.out.trans (ab.o.mono F.out.size));obtain⟨⟨s0,s1,s2⟩,sf⟩:=(J.out.below ab.o J.out.lt).cell;have bf:=sf 0;have be:=sf 1;have bb:=sf 2;obtain⟨⟨t0,t1,t2⟩,-⟩:=(H.out.below ab.o H.out.lt).cell;clear aI sf)
     | (go_at_call 137;refine(HF.o (((wr.setCell ⟨w.heap.size,0,none⟩ (.int .i64 M)).setCell ⟨w.heap.size,1,none⟩ (.int .i64 L)).setCell ⟨w.heap.size,2,none⟩ (.int .i64 N)).drew).mono ?_;rintro e W3 ⟨rfl,al⟩;have aX:=ZZ (aB.o.below al aB.o.lt).cell.1;have P:=ZZ (aV.o.trans (al.mono aV.o.size));obtain⟨⟨s0,s1,s2⟩,-⟩:=(aR.o.below al aR.o.lt).cell;clear al))
   all_goals
    go_wp2;refine bodyPost_ret (v:=.tuple #[.agg #[.int .i64 M,.int .i64 L,.int .i64 N],.int .i64 er]) (by simp[results,Tryz.results203,go_sem,s0,s1,s2]) rfl ⟨M,L,N,by rw[a4.o],aY.o,?_⟩
    first
    | exact P.o
    | exact(Zd aP.o _ zL _ _ _)
    | exact(Zd aP.o _ zL _ _ _).drew
  have h3:q=0∨q=1∨q=2:=by omega
  rcases h3 with rfl | rfl | rfl
  ·have V:=ZZ (HG.o wr a c 0 C g F.out aa.out (by rw[u.o.1];exact HD.o.1))
   by_cases A:g=0
   ·have P:Hid (Za d=.error 3):=ZZ (by rw[B.o,if_pos (.inl A)])
    have ak:((g:Int) == 0)=true:=by rw[beq_iff_eq];omega
    obtain⟨⟨Z,r1,S⟩,j⟩:=J.out.cell;have f0:=j 0;have f1:=j 1;have f2:=j 2;clear j A B T
    go_wp2_with fail
    refine V.o.mono ?_;rintro e K ⟨rfl,D⟩;rw[D];go_wp2;refine bodyPost_ret (v:=.tuple #[.agg #[.int .i64 0,.int .i64 0,.int .i64 0],.int .i64 3]) (by simp[results,Tryz.results203,go_sem,Z,r1,S]) rfl ?_
    exact ZaK.form P.o (Zd F.out _ zL _ _ _)
   have ak:((g:Int) == 0)=false:=beq_eq_false_iff_ne.2 (by omega)
   have af:=ZZ A;obtain⟨a',c',U,hcut⟩:=az.o a c 0 g (by rw[u.o.2.1,u.o.1]) (by rw[u.o.1];have:=T.o;omega) aa.out
   have kc:=hcut (g:Int) rfl;have aj:=ZZ U;obtain⟨⟨g0,g1,g2⟩,Q⟩:=H.out.cell;have fq:=Q 0;have ac:=ZZ (H.out.set0 (C:Int));have ad:=ZZ (J.out.other (show w.heap.size≠w.heap.size+1 by omega) 0 (.int .i64 (C:Int)))
   have ae:=ZZ (F.out.setCell (p:=⟨w.heap.size+1,0,none⟩) (show w.heap.size<=w.heap.size+1 by omega) (.int .i64 (C:Int)))
   clear A hcut U Q
   go_wp2_with fail
   refine V.o.mono ?_;rintro e K ⟨rfl,D⟩;rw[D];clear D K;go_wp2
   go_region
   all_goals
    go_wp2;go_roundw
    case rel=>exact⟨1,a',c',(C:Int),y,z,rfl,rfl,by omega,aj,ac,ad,ZZ ⟨fun _=>⟨rfl,af.o⟩,fun h=>absurd h (by decide),fun h=>absurd h (by decide)⟩,ZZ ae.o.drew⟩
    case measure=>simp[intOf]
  ·have V:=ZZ (HG.o wr a c 1 E m F.out aa.out (by rw[u.o.2.1];exact HD.o.2.1))
   by_cases A:m=0
   ·have P:Hid (Za d=.error 3):=ZZ (by rw[B.o,if_pos (.inr (.inl A))])
    have ak:((m:Int) == 0)=true:=by rw[beq_iff_eq];omega
    obtain⟨⟨Z,r1,S⟩,j⟩:=J.out.cell;have f0:=j 0;have f1:=j 1;have f2:=j 2;clear j A B T
    go_wp2_with fail
    refine V.o.mono ?_;rintro e K ⟨rfl,D⟩;rw[D];go_wp2;refine bodyPost_ret (v:=.tuple #[.agg #[.int .i64 0,.int .i64 0,.int .i64 0],.int .i64 3]) (by simp[results,Tryz.results203,go_sem,Z,r1,S]) rfl ?_
    exact ZaK.form P.o (Zd F.out _ zL _ _ _)
   have ak:((m:Int) == 0)=false:=beq_eq_false_iff_ne.2 (by omega)
   have af:=ZZ A;obtain⟨a',c',U,hcut⟩:=az.o a c 1 m (by rw[u.o.2.2.1,u.o.2.1]) (by rw[u.o.2.1];have:=T.o;omega) aa.out
   have kc:=hcut (m:Int) rfl;have aj:=ZZ U;obtain⟨⟨g0,g1,g2⟩,Q⟩:=H.out.cell;have fq:=Q 1;have ac:=ZZ (H.out.set1 (E:Int));have ad:=ZZ (J.out.other (show w.heap.size≠w.heap.size+1 by omega) 1 (.int .i64 (E:Int)))
   have ae:=ZZ (F.out.setCell (p:=⟨w.heap.size+1,1,none⟩) (show w.heap.size<=w.heap.size+1 by omega) (.int .i64 (E:Int)))
   clear A hcut U Q
   go_wp2_with fail
   refine V.o.mono ?_;rintro e K ⟨rfl,D⟩;rw[D];clear D K;go_wp2
   go_region
   all_goals
    go_wp2;go_roundw
    case rel=>exact⟨2,a',c',x,(E:Int),z,rfl,rfl,by omega,aj,ac,ad,ZZ ⟨fun _=>hI.out.1 (by decide),fun _=>⟨rfl,af.o⟩,fun h=>absurd h (by decide)⟩,ZZ ae.o.drew⟩
    case measure=>simp[intOf]
  ·have V:=ZZ (HG.o wr a c 2 I G F.out aa.out (by rw[u.o.2.2.1];exact HD.o.2.2))
   by_cases A:G=0
   ·have P:Hid (Za d=.error 3):=ZZ (by rw[B.o,if_pos (.inr (.inr (.inl A)))])
    have ak:((G:Int) == 0)=true:=by rw[beq_iff_eq];omega
    obtain⟨⟨Z,r1,S⟩,j⟩:=J.out.cell;have f0:=j 0;have f1:=j 1;have f2:=j 2;clear j A B T
    go_wp2_with fail
    refine V.o.mono ?_;rintro e K ⟨rfl,D⟩;rw[D];go_wp2;refine bodyPost_ret (v:=.tuple #[.agg #[.int .i64 0,.int .i64 0,.int .i64 0],.int .i64 3]) (by simp[results,Tryz.results203,go_sem,Z,r1,S]) rfl ?_
    exact ZaK.form P.o (Zd F.out _ zL _ _ _)
   have ak:((G:Int) == 0)=false:=beq_eq_false_iff_ne.2 (by omega)
   have af:=ZZ A;obtain⟨a',c',U,hcut⟩:=az.o a c 2 G (by rw[u.o.2.2.2,u.o.2.2.1]) (by rw[u.o.2.2.1];have:=T.o;omega) aa.out
   have kc:=hcut (G:Int) rfl;have aj:=ZZ U;obtain⟨⟨g0,g1,g2⟩,Q⟩:=H.out.cell;have fq:=Q 2;have ac:=ZZ (H.out.set2 (I:Int));have ad:=ZZ (J.out.other (show w.heap.size≠w.heap.size+1 by omega) 2 (.int .i64 (I:Int)))
   have ae:=ZZ (F.out.setCell (p:=⟨w.heap.size+1,2,none⟩) (show w.heap.size<=w.heap.size+1 by omega) (.int .i64 (I:Int)))
   clear A hcut U Q
   go_wp2_with fail
   refine V.o.mono ?_;rintro e K ⟨rfl,D⟩;rw[D];clear D K;go_wp2
   go_region
   all_goals
    go_wp2;go_roundw
    case rel=>exact⟨3,a',c',x,y,(I:Int),rfl,rfl,by omega,aj,ac,ad,ZZ ⟨fun _=>hI.out.1 (by decide),fun _=>hI.out.2.1 (by decide),fun _=>⟨rfl,af.o⟩⟩,ZZ ae.o.drew⟩
    case measure=>simp[intOf]
theorem ZoZ (v k f:Int) (a:Option Addr) (n c:Nat) (w:World):
 Calls prog 205 #[.agg #[.int .i64 v,.int .i64 k,.int .i64 f],.slice a n c] w fun e w'=>e=.returned (.agg #[.int .i64 k,.int .i64 f,.slice a n c])∧Below w.heap.size w w':=by
 have b:Hid (∀ X Y,Below w.heap.size w ((w.alloc X).alloc Y)):=fun X Y=>Below.allocs (Below.allocs (Below.refl _ _) X) Y
 go_enter func205,ntmps205
 go_wp2;refine bodyPost_ret (v:=.agg #[.int .i64 k,.int .i64 f,.slice a n c]) (by simp[results,Tryz.results205,go_sem]) rfl ⟨rfl,?_⟩
 exact b.o _ _
def ZjZ (w:World) (v f:Nat) (B:List (List UInt8)) (e:Ending) (w':World):Prop:=
 ∃ vl,e=.returned (.tuple #[vl,.int .i64 ((Z9 v f B [] 16).2.1:Int),.int .i64 (Z9 v f B [] 16).2.2])∧Q9 w' w.heap.size vl (Z9 v f B [] 16).1∧(∀ r ∈ (Z9 v f B [] 16).1,ZcK r)∧Below w.heap.size w w'
theorem Bsg.set3 {R:Nat} {a b c:Value} (h:Bsg w R #[a,b,c]) (e f d:Value):Bsg (((w.setCell ⟨R,0,none⟩ e).setCell ⟨R,1,none⟩ f).setCell ⟨R,2,none⟩ d) R #[e,f,d]:=by
 have j:=heap_setCell_same w R 0 _ _ e h;have g:=heap_setCell_same _ R 1 _ _ f j;have i:=heap_setCell_same _ R 2 _ _ d g;unfold Bsg;simpa using i
theorem ZhL.set {C:Nat} (h:ZhL w C v L) (R i:Nat) (a:R<C) (x:Value):ZhL (w.setCell ⟨R,i,none⟩ x) C v L:=by
 obtain⟨xs,b,c⟩:=h;refine⟨xs,ownsRow_setCell_below b a x,fun j e=>?_⟩
 obtain⟨y,f,d⟩:=c j e;exact⟨y,f,ownsRow_setCell_below d a x⟩
theorem Zka (v:Value) (l:List UInt8) (w:World) (f:Rd w v l) (k:l.length<=1000000):
 Calls prog 118 #[v] w fun e w'=>∃ v',e=.returned (.tuple #[v',.int .i64 ((Qm l).2.1:Nat)])∧ZhL w' w.heap.size v' (Qm l).1∧Below w.heap.size w w':=by
 have g:=ZZ (ZmW v l w f k);clear f
 go_enter func118,ntmps118
 go_wp2_with fail
 refine g.o.mono ?_;rintro e p ⟨q,rfl,b,d⟩;have j:=ZZ b;have n:=ZZ d;clear b d g;obtain⟨m,a⟩:∃ m,m=(Qm l).2.1:=⟨_,rfl⟩;have i:=ZZ a;rw[<-a];clear a;generalize (Qm l).2.2=c at *;go_wp2;go_ret2;exact⟨_,by rw[i.o];rfl,j.o,n.o⟩
theorem Zii (v:Nat) (k f:Int) (b:Value) (w:World) (l:∃ a c,b=.slice a 0 c):
 Calls prog 204 #[.agg #[.int .i64 (v:Int),.int .i64 k,.int .i64 f],b] w fun e w'=>e=.returned (.tuple #[.slice none 0 0,.int .i64 0,.int .i64 0])∧Below w.heap.size w w':=by
 obtain⟨a,c,rfl⟩:=l;have g:Hid (∀ X,Below w.heap.size w (w.alloc X)):=fun X=>(Below.refl _ _).alloc zL X
 generalize (v:Int)=V
 go_enter func204,ntmps204
 go_wp2
 go_loopw[7,14] (fun j d wr=>j=.slice none 0 0∧d=.int .i64 0∧Hid (Below w.heap.size w wr)) (fun _ _ _=>0)
 case atStart=>exact⟨rfl,rfl,ZZ (g.o _)⟩
 case round=>
  obtain⟨rfl,rfl,i⟩:=hrel;go_wp2;refine bodyPost_ret (v:=.tuple #[.slice none 0 0,.int .i64 0,.int .i64 0]) (by simp[results,Tryz.results204,go_sem]) rfl ?_
  exact⟨rfl,i.o⟩
theorem Zjj (vb:Value) (b:List UInt8) (w:World) (hr:Rd w vb b) (bY:b.length<=100000) (aU:(Qm b).1.tail=[]):
 Calls prog 166 #[vb] w fun e w'=>ZaS w b e w':=by
 have J:Hid (∀ X,Below w.heap.size w (w.alloc X)):=fun X=>(Below.refl _ _).alloc zL X
 have X1:Hid (∀ cs,Bsg (w.alloc (.cells cs 217)) w.heap.size cs):=fun cs=>heap_alloc_new w _
 have ao:=ZZ (fun X=>Zka vb b (w.alloc X) (hr.below (J.o X) zL) (by omega))
 obtain⟨ab,cb,rfl,-⟩:=hr;obtain⟨ay,a6⟩:=ZeH b;obtain⟨a4,-⟩:=Zcm _ b zL
 have aY:(Qf (Qm b).1).length<=100000:=by
  rw[a4,List.length_take];omega
 have aA:=ZZ (fun h=>ZrT (b:=b) h)
 have aI:Hid ((Qm b).1=[]->Ju b=(Zen,0,false)):=ZZ (fun h=>by unfold Ju ZvE;rw[if_pos h])
 generalize (Qm b).2.1=tk at *;generalize (Qm b).1=L at *;have bp:=ZZ aU;clear aU a4;by_cases h0:L.length=0
 ·have e:L=[]:=List.eq_nil_of_length_eq_zero h0
  have l:=ZZ (aI.o e);have bz:((L.length:Int) == 0)=true:=by rw[beq_iff_eq];omega
  clear aA aI ay a6 aY h0 e
  go_enter func166,ntmps166
  go_wp2_with fail
  refine(ao.o _).mono ?_;rintro e C ⟨p,rfl,aa,A⟩;have E:=ZZ ((X1.out _).below A zL);have aj:=ZZ ((J.o _).trans (A.mono (J.o _).size));obtain⟨a1,R,rfl,-⟩:=aa.rd;clear A ao;obtain⟨r0,f0⟩:=E.o.cell 0;obtain⟨r1,f1⟩:=E.o.cell 1;obtain⟨r2,f2⟩:=E.o.cell 2;go_wp2;refine bodyPost_ret (v:=.tuple #[.agg #[.int .i64 0,.int .i64 0,.slice none 0 0],.int .i64 0,.bool false]) (by simp[results,Tryz.results166,go_sem,r0,r1,r2]) rfl ?_
  exact ZaS.fail l.o (Zd aj.o _ zL _ _ _)
 have bb:L≠[]:=fun e=>h0 (by rw[e];rfl)
 have bz:((L.length:Int) == 0)=false:=beq_eq_false_iff_ne.2 (by omega)
 have l:=ZZ (aA.o bb);have aV:L.getD 0 []=L.headD []:=by cases L <;> rfl
 have aN:Hid (∀ (v k f:Nat),1<=v->v<=3->f<4611686018427387904->∀ (vp:Value) (W:World),Below w.heap.size w W->RdL W vp L.tail->Calls prog 204 #[.agg #[.int .i64 (v:Int),.int .i64 (k:Int),.int .i64 (f:Int)],vp] W fun e w'=>ZjZ W v f L.tail e w'):=ZZ (fun v k f _ _ _ vp W _ h=>by
  rw[bp.o] at h ⊢
  refine(Zii v k f vp W (by
   obtain⟨a,c,e,-⟩:=h
   exact⟨a,c,e⟩)).mono ?_
  rintro e w' ⟨rfl,Q⟩
  exact⟨_,rfl,Q9.nil _ _,(fun r hr=>by cases hr),Q⟩)
 have aS:Hid (∀ v f,(Z9 v f L.tail [] 16).2.1+1<=L.length):=ZZ (fun v f=>by
  have:=Zih v f L.tail [] 16;rw[List.length_tail] at this
  omega)
 have bn:=ZZ (fun c p W (h:RdL W p (L.take c))=>Zux p (L.take c) W h (fun x hx=>(ay x (List.mem_of_mem_take hx)).1) (by have:=ZeI L c;omega))
 have aX:=ZZ (fun p W (h:Rd W p (L.headD []))=>Zlm p (L.headD []) W h)
 have bS:=ZZ (fun v k f a n c W=>ZoZ v k f a n c W)
 have bU:(L.length:Int)<=100000:=by omega
 have b1:(0:Int)<(L.length:Int):=by omega
 unfold ZoU at l;clear aA aI ay aY bb a6
 go_enter func166,ntmps166
 go_wp2_with fail
 refine(ao.o _).mono ?_;rintro e C ⟨p,rfl,aa,A⟩;have E:=ZZ ((X1.out _).below A zL);have aj:=ZZ ((J.o _).trans (A.mono (J.o _).size));have ar:=ZZ aa.rd;have bG:Hid (ZhL C (w.heap.size+1) p L):=ZZ (aa.mono (by simp))
 obtain⟨a1,R,rfl,-⟩:=aa.rd;obtain⟨b0,o0,x0,rfl,a9,an⟩:=ar.o.at 0 (by omega)
 obtain⟨am,cm,aC,aD⟩:=Zuw C _ L L.length R rfl ar.o 1 (by omega)
 have be:=ZZ (fun q (hq:q<=L.length)=>ZrS C _ L L.length R rfl ar.o q hq)
 rw[List.drop_one] at aC aD;rw[aV] at an;have km:=aD 1 rfl;have bk:=ZZ aC;have aR:=a9 C (Below.refl _ _);have bo:=ZZ (an C (Below.refl _ _));obtain⟨a0,q0,bu,-⟩:=an C (Below.refl _ _);subst bu;rw[Nat.add_zero] at aR;clear A ao aC aD a9 an X1 J aV ar;generalize L.tail=B at *;generalize L.headD []=H at *;generalize bT:H.length=hl at *;clear bT
 go_wp2_with fail
 refine(aX.o _ _ bo.o).mono ?_;rintro e O ⟨x,y,z,rfl,a8,ag⟩;have au:=ZZ a8;have aJ:=ZZ (E.o.below ag zL);have aB:=ZZ (aj.o.trans (ag.mono aj.o.size));have aL:=ZZ ag;clear a8 ag aR bo E aX;obtain⟨d,ac⟩:∃ N,N=O.heap.size:=⟨_,rfl⟩;obtain⟨g,ad⟩:∃ V,V=O.alloc (.cells #[.int .i64 x,.int .i64 y,.int .i64 z] 188):=⟨_,rfl⟩;have af:Below O.heap.size O g:=by rw[ad];exact(Below.refl _ _).alloc zL _
 have K:Hid (Bhd g d x y z):=ZZ (by rw[ad,ac];exact heap_alloc_new O _)
 have P:=ZZ (aJ.o.below af zL);have S:=ZZ (aB.o.trans (af.mono aB.o.size));have ae:=ZZ (aL.o.trans (af.mono aL.o.size));have bD:w.heap.size<d:=by rw[ac];exact aJ.o.lt
 go_upto_region 5 with fail
 rw[<-ad,<-ac];clear ad ac af aJ aB aL
 cases hrd:Za H with
 | error ex=>
  have bN:Hid (Ju b=(Zen,0,false)):=ZZ (by rw[l.o,hrd])
  have hx:=Zwr hrd;have bX:(ex != 0)=true:=by rw[bne_iff_ne];exact hx
  have U:ZyB (Except.error ex:Except Int (Nat × Nat × Nat))=ex:=rfl;obtain⟨r0,f0⟩:=P.o.cell 0;obtain⟨r1,f1⟩:=P.o.cell 1;obtain⟨r2,f2⟩:=P.o.cell 2;rw[U];clear U hrd hx l au;go_wp2;refine bodyPost_ret (v:=.tuple #[.agg #[.int .i64 0,.int .i64 0,.slice none 0 0],.int .i64 0,.bool false]) (by simp[results,Tryz.results166,go_sem,r0,r1,r2]) rfl ?_
  exact ZaS.fail bN.o (Zd S.o _ zL _ _ _)
 | ok t=>
  obtain⟨v,k,f⟩:=t;obtain⟨rfl,rfl,rfl⟩:=au.o v k f hrd;obtain⟨-,bf,aO,bP,aQ⟩:=Zck hrd;have ai:=ZZ (aN.o v k f bf aO aQ);have bg:=aS.o v f;rw[hrd] at l;have U:ZyB (Except.ok (v,k,f):Except Int (Nat × Nat × Nat))=0:=rfl;rw[U];unfold ZjZ at ai;simp only at l;generalize Z9 v f B [] 16=T at *;obtain⟨aw,D,er⟩:=T;simp only at l ai bg;obtain⟨q,hq⟩:∃ q,q=1+D:=⟨_,rfl⟩;obtain⟨bj,bl⟩:=be.o q (by omega)
  have kf:=bl (1+(D:Int)) (by omega)
  have ax:=ZZ (bn.o q);have bJ:Hid (∀ W:World,ZhL W (w.heap.size+1) (.slice (some ⟨b0,o0,none⟩) L.length R) L->RdL W (.slice (some ⟨b0,o0,none⟩) q R) (L.take q)):=ZZ (fun W h=>h.rd.front q (by omega))
  have bi:=ZZ bj;have bZ:(1:Int)+(D:Int)<=100000:=by omega
  have bW:IntKind.i64.wrap (1+(D:Int))=1+(D:Int):=by rw[IntKind.wrap_i64];omega
  have bV:(1:Int)+(D:Int)<=(L.length:Int):=by omega
  rw[<-hq] at l;obtain⟨SZ,ba⟩:∃ SZ,SZ=(Qf (L.take q)).length:=⟨_,rfl⟩;rw[<-ba] at l ax;generalize L.take q=PF at *;clear U hrd au aN bf aO bP aQ bn be aS bj bl bg hq ba;generalize (v:Int)=V at *;have F:Hid (w.heap.size<g.heap.size):=ZZ (Nat.lt_trans bD K.o.lt);have aF:Hid (∀ W,Below g.heap.size g W->W.cell? ⟨d,0,none⟩=some (.int .i64 V)∧W.cell? ⟨d,1,none⟩=some (.int .i64 (k:Int))∧W.cell? ⟨d,2,none⟩=some (.int .i64 (f:Int))):=ZZ (fun W Q=>(K.o.below Q K.o.lt).cell.1)
  have aq:Hid (Below g.heap.size g g.drew):=ZZ ((Below.refl _ _).drew);have aZ:=ZZ (aF.o _ aq.o);have a7:=ZZ (bk.o.below ae.o zL)
  go_upto_region 7 with fail
  go_cut[9,10,11] (fun vl vc ve wc=>∃ i nl j,vl=.slice i nl j∧vc=.int .i64 (D:Int)∧ve=.int .i64 er∧Hid (∀ r ∈ aw,ZcK r)∧Hid (Q9 wc g.heap.size (.slice i nl j) aw)∧Hid (Below g.heap.size g wc))
  case first=>
   go_region_held2(fun W=>W.cell? ⟨d,0,none⟩=some (.int .i64 V)∧W.cell? ⟨d,1,none⟩=some (.int .i64 (k:Int))∧W.cell? ⟨d,2,none⟩=some (.int .i64 (f:Int))) (first | exact aZ.o | exact bq.o)
    (first
     | (go_at_call 204;refine(ai.o _ g.drew S.o.drew (a7.o.below aq.o zL)).mono ?_;rintro e W3 ⟨v3,rfl,aK,a2,aP⟩;have az:Hid (Q9 W3 g.heap.size v3 aw):=ZZ aK;have ak:=ZZ a2;have m:=ZZ (aq.o.trans aP);have bq:=ZZ (aF.o W3 m.o);obtain⟨a3,c3,rfl⟩:=aK.shape;clear aP aK a2))
   all_goals
    go_wp2_with fail
    go_meet
    exact⟨_,_,_,rfl,rfl,rfl,ak,az,m⟩
  case rest=>
   obtain⟨i,nl,j,rfl,rfl,rfl,ak,az,m⟩:=hcut;have bC:=ZZ (P.o.below m.o zL);have ap:=ZZ (K.o.below m.o K.o.lt);have aT:=ZZ (S.o.trans (m.o.mono S.o.size));have bd:=ZZ (ae.o.trans (m.o.mono ae.o.size));have bc:Hid (∀ W,Below wc.heap.size wc W->W.cell? ⟨d,0,none⟩=some (.int .i64 V)∧W.cell? ⟨d,1,none⟩=some (.int .i64 (k:Int))∧W.cell? ⟨d,2,none⟩=some (.int .i64 (f:Int))):=ZZ (fun W Q=>(ap.o.below Q ap.o.lt).cell.1)
   have a5:Hid (Below wc.heap.size wc wc.drew):=ZZ ((Below.refl _ _).drew);have bH:=ZZ (bc.o _ a5.o);have bv:=ZZ (bi.o.below bd.o zL);have bQ:=ZZ (bG.o.below bd.o zL);have G:d≠w.heap.size:=by omega
   clear P K S ae m aF aq aZ a7 ai bk bi
   go_upto_region 8 with fail
   go_region_held(fun W=>W.cell? ⟨d,0,none⟩=some (.int .i64 V)∧W.cell? ⟨d,1,none⟩=some (.int .i64 (k:Int))∧W.cell? ⟨d,2,none⟩=some (.int .i64 (f:Int))) (first | exact bH.o | exact bt.o | exact bB.o | exact bA.o | exact bx.o | exact bE.o)
    (first
     | (go_at_call 205;refine(bS.o _ _ _ _ _ _ wc.drew).mono ?_;rintro e W4 ⟨rfl,aM⟩;have u:=ZZ (a5.o.trans aM);have bt:=ZZ (bc.o W4 u.o);have Y:=ZZ (bC.o.below u.o zL);have M:=ZZ (ap.o.below u.o ap.o.lt);have aG:=ZZ (aT.o.trans (u.o.mono aT.o.size));have aW:=ZZ (az.o.below u.o zL);have bR:=ZZ (bv.o.below u.o zL);obtain⟨r0,f0⟩:=Y.o.cell 0;obtain⟨r1,f1⟩:=Y.o.cell 1;obtain⟨r2,f2⟩:=Y.o.cell 2;have aE:=ZZ (((M.o.other G 0 (.int .i64 (k:Int))).other G 1 (.int .i64 (f:Int))).other G 2 (.slice i nl j));have bB:=ZZ aE.o.cell.1;have bI:=ZZ (bQ.o.below u.o zL);have bO:Hid (RdL ((((W4.setCell ⟨w.heap.size,0,none⟩ (.int .i64 (k:Int))).setCell ⟨w.heap.size,1,none⟩ (.int .i64 (f:Int))).setCell ⟨w.heap.size,2,none⟩ (.slice i nl j))) _ PF):=ZZ (bJ.o _ (((bI.o.set w.heap.size 0 (Nat.lt_succ_self _) (.int .i64 (k:Int))).set w.heap.size 1 (Nat.lt_succ_self _) (.int .i64 (f:Int))).set w.heap.size 2 (Nat.lt_succ_self _) (.slice i nl j)));have bK:=ZZ (Y.o.set3 (.int .i64 (k:Int)) (.int .i64 (f:Int)) (.slice i nl j));have br:=ZZ (((aW.o.set w.heap.size 0 F.o (.int .i64 (k:Int))).set w.heap.size 1 F.o (.int .i64 (f:Int))).set w.heap.size 2 F.o (.slice i nl j));have bm:=ZZ (Zd aG.o w.heap.size zL (.int .i64 (k:Int)) (.int .i64 (f:Int)) (.slice i nl j));clear aM)
     | (go_at_call 206;refine(ax.o _ W4 bR.o).mono ?_;rintro e W5 ⟨rfl,I⟩;have bA:=ZZ (M.o.below I M.o.lt).cell.1;have av:=ZZ (Y.o.below I zL);have bF:=ZZ (aG.o.trans (I.mono aG.o.size));have bw:=ZZ (aW.o.below I zL);obtain⟨s0,g0⟩:=av.o.cell 0;obtain⟨s1,g1⟩:=av.o.cell 1;obtain⟨s2,g2⟩:=av.o.cell 2;have bE:=ZZ ((((M.o.below I M.o.lt).other G 0 (.int .i64 (k:Int))).other G 1 (.int .i64 (f:Int))).other G 2 (.slice i nl j)).cell.1;clear I)
     | (go_at_call 206;refine(ax.o _ (((W4.setCell ⟨w.heap.size,0,none⟩ (.int .i64 (k:Int))).setCell ⟨w.heap.size,1,none⟩ (.int .i64 (f:Int))).setCell ⟨w.heap.size,2,none⟩ (.slice i nl j)) bO.o).mono ?_;rintro e W6 ⟨rfl,Z⟩;have bx:=ZZ (aE.o.below Z aE.o.lt).cell.1;have aH:=ZZ (bK.o.below Z zL);have bL:=ZZ (br.o.below Z zL);have bM:=ZZ (bm.o.trans (Z.mono bm.o.size));obtain⟨s0,g0⟩:=aH.o.cell 0;obtain⟨s1,g1⟩:=aH.o.cell 1;obtain⟨s2,g2⟩:=aH.o.cell 2;clear Z))
   all_goals
    go_wp2;refine bodyPost_ret (v:=.tuple #[.agg #[.int .i64 (k:Int),.int .i64 (f:Int),.slice i nl j],.int .i64 (SZ:Int),.bool true]) (by simp[results,Tryz.results166,go_sem,s0,s1,s2]) rfl ?_
    refine⟨.slice i nl j,by rw[l.o],?_,?_⟩
    ·rw[l.o]
     first
     | exact bL.o.rd ak.o
     | exact Q9.rd (((bw.o.set w.heap.size 0 F.o _).set w.heap.size 1 F.o _).set w.heap.size 2 F.o _) ak.o
    ·first
     | exact bM.o
     | exact Zd bF.o w.heap.size zL _ _ _
theorem Zv {P:Program} {ι:Type} (W:ι->World) (b:ι) {id:Nat} {Q:Exit->Act->World->Prop} {a:Act} {w:World} {l:List Oper} (c:P.follows .mixedOrders=true) (e:Region.lexB .any l.toArray=true) (d:W b=w.drew)
 (h:wpQuiet P l.toArray (fun w'=>∃ n,w'=W n) (fun a'=>∀ w',(∃ n,w'=W n)->Q .normal a' w') l a):(Code.region id l.toArray true).wp P Q a w:=
 wp_region_quiet (C:=fun w'=>∃ n,w'=W n) c e ⟨b,d.symm⟩ (by simpa using h)
theorem Zna (B:Nat) (w:World):∃ (ι:Type) (_:Nonempty ι) (W:ι->World),(∀ i,Below B w (W i))∧∀ w',Below B w w'->∃ i,w'=W i:=
 ⟨{ w' // Below B w w' },⟨⟨w,Below.refl _ _⟩⟩,Subtype.val,fun i=>i.2,fun w' h=>⟨⟨w',h⟩,rfl⟩⟩
theorem ZbB (v:Value) (l:List Rec) (w:World) (A:RdR w v l):
 Calls prog 48 #[v] w fun e w'=>e=.returned (.bool (decide (Yc l)))∧Below w.heap.size w w':=by
 have HR:=ZZ A;obtain⟨ao,cap,rfl,ay,ak,-,-,af⟩:=A;have aB:(l.length:Int)<=9223372036854775807:=by unfold maxLen at ak;omega
 have ar:=ZZ af;clear af ay ak;by_cases Q:1<=l.length
 case neg=>
  have L:Hid (decide (Yc l)=false):=decide_eq_false (fun h=>Q h.1)
  have ap:(l.length:Int)<1:=by omega
  rw[L.o]
  go_enter func48,ntmps48
  go_wp2;go_ret;exact⟨rfl,Below.refl _ _⟩
 have ap:¬ (l.length:Int)<1:=by omega
 by_cases P:l.length<=256
 case neg=>
  have L:Hid (decide (Yc l)=false):=decide_eq_false (fun h=>P h.2.1)
  have am:256<(l.length:Int):=by omega
  rw[L.o]
  go_enter func48,ntmps48
  go_wp2;go_ret;exact⟨rfl,Below.refl _ _⟩
 have am:¬ 256<(l.length:Int):=by omega
 have ac:=ZZ (fun h=>Zuu (l:=l) h Q P)
 have ae:=ZZ (fun(h:Yc l) k=>h.part k)
 have aA:=ZZ (fun r W=>ZhI r W)
 obtain⟨D,H⟩:∃ D,D=decide (Yc l):=⟨_,rfl⟩;rw[<-H];have aq:Hid (Zji l l.length->D=true):=fun h=>by rw[H];exact decide_eq_true (ac.o h)
 have aj:Hid (∀ k,¬ Zji l k->D=false):=fun k h=>by rw[H];exact decide_eq_false (fun S=>h (ae.o S k))
 have au:=ZZ (ZrM l);have aE:(0:Int)<(l.length:Int):=by omega
 clear H ac ae Q P
 go_enter func48,ntmps48
 go_wp2
 go_loopw[15] (fun U wr=>∃ k:Nat,U=.int .i64 (k:Int)∧k<=l.length∧Hid (Zji l k)∧Hid (Below w.heap.size w wr)) (fun U _=>l.length-(intOf U).toNat)
 case atStart=>exact⟨0,rfl,Nat.zero_le _,au,Below.refl _ _⟩
 case round=>
  obtain⟨k,rfl,hk,J,F⟩:=hrel;by_cases u:k<l.length
  case neg=>
   obtain rfl:k=l.length:=by omega
   have HT:=ZZ (aq.o J.out);go_wp2;go_ret;rw[HT.o];exact⟨rfl,F.out⟩
  rcases ar.o with h0 | ⟨c,aw,rfl,X⟩
  ·rw[h0] at u;simp at u
  have Z:=X k u;have N:=X 0 (by omega)
  have R:=ZZ (fun W (h:Below w.heap.size w W)=>Z.keep (h.block c Z.lt))
  have ai:=ZZ (fun W (h:Below w.heap.size w W)=>(N.keep (h.block c N.lt)).1)
  have g:=ZZ (ZrN u);have hh:l.headD Qi=l.getD 0 Qi:=by cases l <;> simp
  rw[hh] at g
  have ag:Hid (Qw (l.getD k Qi)->Qw (l.getD 0 Qi)):=ZZ (fun S=>by
   cases k with
   | zero=>exact S
   | succ q=>
    refine J.out.1 _ ?_
    cases l with
    | nil=>simp at u
    | cons x t=>simp)
  have az:=R.o wr F.out;obtain⟨c0,c1,c2,c3,c4,c5,c6⟩:=az;have p:=ZZ (aA.o (l.getD k Qi));have av:∃ B,B=decide (Qw (l.getD k Qi)):=⟨_,rfl⟩;obtain⟨B,M⟩:=av;rw[<-M] at p;have Y:=ZZ M;unfold Zrr at p;obtain⟨r,A⟩:∃ r,r=l.getD k Qi:=⟨_,rfl⟩;rw[<-A] at p g Y R ag c0 c1 c2 c3 c4 c5 c6;clear M X Z A N hh;generalize (l.getD 0 Qi)=G at *
  go_upto_region 6 with fail
  obtain⟨f,j⟩:∃ f,f=wr.alloc (.cells (Zi r) 62):=⟨_,rfl⟩;have aD:f.heap.size=wr.heap.size+1:=by rw[j];simp
  have ad:Hid (Below w.heap.size w f):=ZZ (by rw[j];exact F.out.alloc F.out.size _)
  have al:Hid (Br f wr.heap.size (Zi r)):=ZZ (by rw[j];exact heap_alloc_new wr _)
  unfold Zi at j;rw[<-j];clear j c0 c1 c2 c3 c4 c5 c6;obtain⟨ι,aC,V,hV,K⟩:=Zna f.heap.size f;have E:=ZZ hV;have HM:=ZZ K;obtain⟨O,aa⟩:=K f.drew (Below.refl _ _).drew;have C:Hid (∀ i,Below w.heap.size w (V i)):=ZZ (fun i=>ad.o.trans ((E.o i).mono ad.o.size))
  have d:∀ i,Br (V i) wr.heap.size (Zi r):=fun i=>((E.o i).block _ (by omega)).trans al.o
  have d0:∀ i,(V i).cell? ⟨wr.heap.size,0,none⟩=some (.int .i64 r.idx):=fun i=>((d i).cell 0).1
  have d1:∀ i,(V i).cell? ⟨wr.heap.size,1,none⟩=some (.int .i64 r.proc):=fun i=>((d i).cell 1).1
  have d2:∀ i,(V i).cell? ⟨wr.heap.size,2,none⟩=some (.int .i64 r.seq):=fun i=>((d i).cell 2).1
  have d3:∀ i,(V i).cell? ⟨wr.heap.size,3,none⟩=some (.int .i64 r.op.code):=fun i=>((d i).cell 3).1
  have d4:∀ i,(V i).cell? ⟨wr.heap.size,4,none⟩=some (.int .i64 r.op.a):=fun i=>((d i).cell 4).1
  have d5:∀ i,(V i).cell? ⟨wr.heap.size,5,none⟩=some (.int .i64 r.op.b):=fun i=>((d i).cell 5).1
  have d6:∀ i,(V i).cell? ⟨wr.heap.size,6,none⟩=some (.int .i64 r.resp):=fun i=>((d i).cell 6).1
  have e0:∀ i,(V i).cell? ⟨c,aw,none⟩=some (.int .i64 G.idx):=fun i=>by
   have h:=ai.o (V i) (C.o i)
   rwa [Nat.zero_mul,Nat.add_zero] at h
  have T:Hid (∀ i,Calls prog 41 #[.agg #[.int .i64 r.idx,.int .i64 r.proc,.int .i64 r.seq,.int .i64 r.op.code,.int .i64 r.op.a,.int .i64 r.op.b,.int .i64 r.resp]] (V i) fun e w'=>e=.returned (.bool B)∧∃ m,w'=V m):=ZZ (fun i=>(p.o (V i)).mono fun e w' h=>⟨h.1,HM.o w' ((E.o i).trans (h.2.mono (E.o i).size))⟩)
  clear hV K d p ai R
  cases B with
  | false=>
   have I:=ZZ (aj.o (k+1) (fun h=>of_decide_eq_false Y.o.symm (g.o.1 h).2.1))
   refine Zv V O (by kernel_rfl) (by kernel_rfl) aa.symm ?_
   repeat (go_big_quiet_step ((go_at_call 41;exact T.o _)))
   refine wpQuiet_nil ?_;intro _ z;obtain⟨nq,y⟩:=z;subst y;go_wp2;go_ret;rw[I.o];exact⟨rfl,C.o _⟩
  | true=>
   have ab:=ZZ (of_decide_eq_true Y.o.symm);obtain⟨-,i1,i2,-⟩:=ag.o ab.o;by_cases n:r.idx=G.idx+k
   ·have ax:(r.idx != G.idx+k)=false:=by rw[bne_eq_false_iff_eq];exact n
    have an:=ZZ (g.o.2 ⟨J.out,ab.o,n⟩);clear g n;refine Zv V O (by kernel_rfl) (by kernel_rfl) aa.symm ?_
    repeat (go_big_quiet_step ((go_at_call 41;exact T.o _)))
    refine wpQuiet_nil ?_;intro _ z;obtain⟨nq,y⟩:=z;subst y;go_wp2;go_roundw
    case rel=>exact⟨k+1,by go_num,by omega,an,C.o _⟩
    case measure=>simp[intOf];omega
   ·have ax:(r.idx != G.idx+k)=true:=by rw[bne_iff_ne];exact n
    have I:=ZZ (aj.o (k+1) (fun h=>n (g.o.1 h).2.2))
    clear g n;refine Zv V O (by kernel_rfl) (by kernel_rfl) aa.symm ?_
    repeat (go_big_quiet_step ((go_at_call 41;exact T.o _)))
    refine wpQuiet_nil ?_;intro _ z;obtain⟨nq,y⟩:=z;subst y;go_wp2;go_ret;rw[I.o];exact⟨rfl,C.o _⟩
def Zzd (w:World) (l:List UInt8) (o:Opn) (e:Ending) (w':World):Prop:=
 ∃ v',e=.returned (.tuple #[v',.int .i64 (if Jg o then 0 else 1)])∧Own w' w.heap.size v' (if Jg o then l++Xo o else l)∧Below w.heap.size w w'
theorem Zuy (v:Value) (l:List UInt8) (o:Opn) (w:World) (J:Rd w v l) (av:l.length<=90000):
 Calls prog 185 #[v,opV o] w fun e w'=>Zzd w l o e w':=by
 obtain⟨i,m,rfl,ag⟩:∃ i m,v=.slice i l.length m∧Rd w (.slice i l.length m) l:=by
  have h:=J;obtain⟨i,m,rfl,_⟩:=J;exact⟨i,m,rfl,h⟩
 have S:=ZZ J;clear ag;have V:=ZZ (fun w=>ZkW o w)
 have F:Hid (∀ X,Below w.heap.size w (w.alloc X)):=fun X=>(Below.refl _ _).alloc zL X
 obtain⟨c,a,b⟩:=o;clear J;show Calls prog _ #[_,.agg #[.int .i64 c,.int .i64 a,.int .i64 b]] w _;have U:Hid (∀ W,Calls prog 80 #[.agg #[.int .i64 c,.int .i64 a,.int .i64 b]] W fun e w'=>e=.returned (.bool (decide (Jg ⟨c,a,b⟩)))∧Below W.heap.size W w'):=V.o
 clear V;unfold Zzd;by_cases d:Jg ⟨c,a,b⟩
 ·simp only [if_pos d]
  have L:=ZZ (decide_eq_true d);have G:Hid (I64 a):=(ZaG d).1;have I:Hid (I64 b):=(ZaG d).2;have Y:0<=c:=d.1;have al:c<=10:=d.2.1;have ad:=Ji (n:=c.toNat) (by omega)
  have ar:=Zvq G.o;have ao:=Zvq I.o
  have HP:Hid (∀ W,Calls prog 132 #[.slice none 0 0,.int .i64 c] W fun e w'=>∃ v',e=.returned v'∧Own w' W.heap.size v' (Lib.uvarint c.toNat)∧Below W.heap.size W w'):=fun W=>by
   have h:=ZbA (.slice none 0 0) [] c W (Rd.nil W) (by simp)
   rw[Z7 Y (by omega),nil_append] at h
   exact h
  have HA:Hid (∀ W,Calls prog 142 #[.slice none 0 0,.int .i64 a] W fun e w'=>∃ v',e=.returned v'∧Own w' W.heap.size v' (Lib.uvarint (Lib.zigzag a))∧Below W.heap.size W w'):=fun W=>by
   have h:=Jk (.slice none 0 0) [] a W (Rd.nil W) (by simp) G.o.1 G.o.2
   rw[nil_append] at h;exact h
  have HB:Hid (∀ W,Calls prog 142 #[.slice none 0 0,.int .i64 b] W fun e w'=>∃ v',e=.returned v'∧Own w' W.heap.size v' (Lib.uvarint (Lib.zigzag b))∧Below W.heap.size W w'):=fun W=>by
   have h:=Jk (.slice none 0 0) [] b W (Rd.nil W) (by simp) I.o.1 I.o.2
   rw[nil_append] at h;exact h
  have HE:Hid (Xo ⟨c,a,b⟩=Lib.uvarint c.toNat++(Lib.uvarint (Lib.zigzag a)++Lib.uvarint (Lib.zigzag b))):=rfl;rw[HE.o];have af:Hid (∀ W N E H t p,N=W.heap.size->Rd W E l->Rd W H (Lib.uvarint c.toNat)->Rd W t (Lib.uvarint (Lib.zigzag a))->Rd W p (Lib.uvarint (Lib.zigzag b))->Calls prog 131 #[.slice (some ⟨N,0,none⟩) 4 4] (W.alloc (.cells #[E,H,t,p] 53)) fun e w'=>∃ v',e=.returned v'∧Own w' W.heap.size v' (l++(Lib.uvarint c.toNat++(Lib.uvarint (Lib.zigzag a)++Lib.uvarint (Lib.zigzag b))))∧Below W.heap.size W w'):=fun W N E H t p hN h0 h1 h2 h3=>Zuf W N hN E H t p _ _ _ _ h0 h1 h2 h3 (by omega)
  clear d ad ar ao HE G I Y al;generalize Lib.uvarint c.toNat=A at *;generalize Lib.uvarint (Lib.zigzag a)=LA at *;generalize Lib.uvarint (Lib.zigzag b)=LB at *;generalize l++(A++(LA++LB))=LL at *
  go_enter func185,ntmps185
  go_wp2_with fail
  refine(U.o _).mono ?_;rintro e W1 ⟨rfl,P⟩;rw[L.o];have z:Bo W1 w.heap.size _:=(P.block w.heap.size (by simp)).trans (heap_alloc_new w _)
  have ab:=ZZ z;have O:=ZZ ((F.o _).trans (P.mono (F.o _).size));obtain⟨p0,-⟩:=z.cell 0;obtain⟨p1,-⟩:=z.cell 1;obtain⟨p2,-⟩:=z.cell 2;have aw:=O.o.size;clear P z;go_wp2
  go_region_held(fun w'=>w'.cell? ⟨w.heap.size,0,none⟩=some (.int .i64 c)∧w'.cell? ⟨w.heap.size,1,none⟩=some (.int .i64 a)∧w'.cell? ⟨w.heap.size,2,none⟩=some (.int .i64 b)) (go_keep)
   (first
    | (go_at_call 132;refine(HP.o _).mono ?_;rintro e W2 ⟨t,rfl,R,j⟩;have x:=ab.o.below (((Below.refl _ _).drew).trans j) zL;have au:=ZZ x;have g:=ZZ (O.o.trans ((((Below.refl _ _).drew).trans j).mono O.o.size));obtain⟨a2,c2,rfl,-⟩:=R.rd;have am:=ZZ R.rd;obtain⟨q0,-⟩:=x.cell 0;obtain⟨q1,-⟩:=x.cell 1;obtain⟨q2,-⟩:=x.cell 2;clear R j x)
    | (go_at_call_of 142 (Value.int .i64 a);refine(HA.o _).mono ?_;rintro e W3 ⟨p,rfl,k,f⟩;have u:=au.o.below f zL;have ak:=ZZ u;have C:=ZZ (g.o.trans (f.mono g.o.size));have ae:=ZZ (am.o.below f zL);obtain⟨a3,c3,rfl,-⟩:=k.rd;have Q:=ZZ k.rd;obtain⟨r0,-⟩:=u.cell 0;obtain⟨r1,-⟩:=u.cell 1;obtain⟨r2,-⟩:=u.cell 2;clear k f u)
    | (go_at_call_of 142 (Value.int .i64 b);refine(HB.o _).mono ?_;rintro e T ⟨v4,rfl,K,q⟩;have y:=ak.o.below q zL;have aq:=ZZ y;have D:=ZZ (C.o.trans (q.mono C.o.size));have an:=ZZ (ae.o.below q zL);have aa:=ZZ (Q.o.below q zL);obtain⟨a4,c4,rfl,-⟩:=K.rd;have aj:=ZZ K.rd;obtain⟨s0,-⟩:=y.cell 0;obtain⟨s1,-⟩:=y.cell 1;obtain⟨s2,-⟩:=y.cell 2;clear K q y)
    | (go_at_call 131;refine(af.o T T.heap.size _ _ _ _ rfl (S.o.below D.o zL) an.o aa.o aj.o).mono ?_;rintro e W5 ⟨v5,rfl,Z,M⟩;have B:=aq.o.below M zL;have ap:=ZZ (D.o.trans (M.mono D.o.size));have ai:=ZZ (Z.mono D.o.size);obtain⟨t0,-⟩:=B.cell 0;obtain⟨t1,-⟩:=B.cell 1;obtain⟨t2,-⟩:=B.cell 2;clear Z M B))
  all_goals
   go_wp2;go_ret2;exact⟨_,rfl,ai.o,ap.o⟩
 ·simp only [if_neg d]
  have L:=ZZ (decide_eq_false d);have ac:=ZZ (fun W h=>ZrF (.slice i l.length m) l W h (by omega))
  clear d
  go_enter func185,ntmps185
  go_wp2_with fail
  refine(U.o _).mono ?_;rintro e W2 ⟨rfl,j⟩;rw[L.o];have g:=ZZ ((F.o _).trans (j.mono (F.o _).size));clear j
  go_wp2_with fail
  refine(ac.o _ (S.o.below g.o zL)).mono ?_;rintro e W3 ⟨p,rfl,k,f⟩;have Q:=ZZ (k.mono g.o.size);have C:=ZZ (g.o.trans (f.mono g.o.size));clear k f;go_wp2;go_ret2;exact⟨_,rfl,Q.o,C.o⟩
open Go.RowKit Go.Maps
theorem Zuz:Keyed prog 3:=int_keyed underlying3
theorem ZxI (w:World):(zeroValue 3).run prog w=.ok (.int .i64 0) w:=by kernel_rfl
theorem Zze {n:Int} (h:I64 n):(Lit.int .i64 n).wf=true:=WalkArith.wf_i64 (by obtain⟨b,a⟩:=h;omega)
def ZfC (w:World) (b n:Nat) (f:Int->Int):Prop:=
 ∃ D:DataW Unit,w.ownsMap prog 3 (plainElem prog 3) b n D∧IsMap D∧∀ p,I64 p->D.atKey (.int .i64 p) (.lit (.int .i64 0))=.lit (.int .i64 (f p))
theorem ZfC.made (w:World):ZfC (w.alloc (.map #[] 0)) w.heap.size 0 (fun _=>0):=
 ⟨.map [],World.ownsMap_made _ _ _ _,isMap_empty,fun _ _=>rfl⟩
theorem ZfC.lt (h:ZfC w b n f):b<w.heap.size:=by
 obtain⟨D,a,_⟩:=h;exact a.lt
theorem ZfC.keep (h:ZfC w b n f) (e:w'.heap[b]?=w.heap[b]?):ZfC w' b n f:=by
 obtain⟨D,⟨c,g,a,r⟩,d⟩:=h;exact⟨D,⟨c,g,e.trans a,r⟩,d⟩
theorem ZfC.below (h:ZfC w b n f) (a:Below B w w') (c:w.heap.size<=B):ZfC w' b n f:=
 h.keep (a.block b (by have:=h.lt;omega))
theorem ZfC.apart (h:ZfC w b n f) {cs:Array Value} {t:TypeId} {z:Nat × Nat} {g:Nat} (a:w.heap[g]?=some (.cells cs t z)):g≠b:=by
 obtain⟨D,⟨d,i,c,_⟩,_⟩:=h;intro e;rw[e,c] at a
 cases a
theorem ZfC.look (h:ZfC w b n f) {p:Int} (d:I64 p):(Instr.lookup 183 (.map (some b)) (.int .i64 p) false).run prog w=.ok (.int .i64 (f p)) w:=by
 obtain⟨D,g,_,j⟩:=h;obtain⟨c,i,a,_⟩:=g.lookup_int Zuz underlying183 underlying3 (ZxI _) (keyOf_int_mk underlying3 (Zze d));rw[j p d] at a;have e:f p=c:=by simpa using a
 rw[i,e]
def Zye (f:Int->Int) (p x:Int):Int->Int:=fun q=>if p=q then x else f q
theorem ZfC.put (h:ZfC w b n f) {p x:Int} (m:I64 p) (j:I64 x) (t:n<=1000000000000):
 ∃ w',(Instr.mapUpdate 183 (.map (some b)) (.int .i64 p) (.int .i64 x)).run prog w=.ok () w'∧ZfC w' b (n+1) (Zye f p x)∧w.grownBy w' (some b):=by
 obtain⟨D,c,a,g⟩:=h;obtain⟨w',k,l,i⟩:=c.update Zuz underlying183 (by unfold maxLen;omega) (keyOf_int_mk underlying3 (Zze m)) (plainElem_int underlying3 (Zze j))
 refine⟨w',k,⟨_,l,a.put _ _,fun q d=>?_⟩,i⟩
 unfold Zye;by_cases e:p=q
 ·rw[if_pos e,<-e,atKey_put_same a (by first | exact trivial | simp[WideAt.IsKeyLit])]
 ·rw[if_neg e,atKey_put_other (by intro h;injection h with _ h;exact e h.symm),g q d]
theorem ZfC.own (h:ZfC w b n f) {B:Nat} {v:Value} {l:List UInt8} (d:Own w B v l):v.ownBlock=none∨v.ownBlock≠some b:=by
 rcases d.2 with ⟨a,_⟩ | ⟨g,cap,cur,a,_,i,_⟩
 ·exact .inl (by rw[a];rfl)
 ·right
  rw[a];have c:=h.apart i;intro e;exact c (by simpa[Value.ownBlock] using e)
theorem ZxJ (W:World) (N:Nat) (p:N=W.heap.size) (c d:Value) (b a:List UInt8) (m:Rd W c b) (l:Rd W d a) (q:b.length+a.length<=1000000):
 Calls prog 131 #[.slice (some ⟨N,0,none⟩) 2 2] (W.alloc (.cells #[c,d] 53)) fun e w'=>∃ v',e=.returned v'∧Own w' W.heap.size v' (b++a)∧Below W.heap.size W w':=by
 have n:=RdL.built W N p #[c,d] [b,a] (by simp) (fun j k=>by
  match j,k with
  | 0,_=>exact⟨c,rfl,m⟩
  | 1,_=>exact⟨d,rfl,l⟩)
 have f:[b,a].flatten=b++a:=by simp
 refine(Zdf _ _ _ n (by rw[f];simp only [length_append];omega) (by simp)).mono ?_
 rintro e w' ⟨v',rfl,g,i⟩;rw[f] at g;exact⟨v',rfl,g.mono (by simp),((Below.refl _ _).alloc zL _).trans (i.mono (by simp))⟩
theorem Zij (r:Rec) (d:Int) (w:World) (l:Qw r) (q:I64 d):
 Calls prog 133 #[Zrr r,.int .i64 d] w fun e w'=>∃ v',e=.returned v'∧Own w' w.heap.size v' (Lib.uvarint r.proc.toNat++(Lib.uvarint (Lib.zigzag d)++(Xo r.op++Lib.uvarint (Lib.zigzag r.resp))))∧Below w.heap.size w w':=by
 have M:Hid (∀ X,Below w.heap.size w (w.alloc X)):=fun X=>(Below.refl _ _).alloc zL X
 have X1:Hid (∀ cs,Br (w.alloc (.cells cs 62)) w.heap.size cs):=fun cs=>heap_alloc_new w _
 have i:=ZZ (fun W=>Zuy (.slice none 0 0) [] r.op W (Rd.nil W) (by simp))
 unfold Zzd at i;rw[if_pos l.1,if_pos l.1,nil_append] at i;have p:=ZZ (ZaQ l);have al:=Zga l.1;obtain⟨_,_,_,_,_,P,an,_⟩:=l;have Z:=Ji (n:=r.proc.toNat) (by omega)
 have aq:=Zvq q;have ai:=Zvq p.o
 have Y:Hid (∀ W,Calls prog 132 #[.slice none 0 0,.int .i64 r.proc] W fun e w'=>∃ v',e=.returned v'∧Own w' W.heap.size v' (Lib.uvarint r.proc.toNat)∧Below W.heap.size W w'):=fun W=>by
  have h:=ZbA (.slice none 0 0) [] r.proc W (Rd.nil W) (by simp)
  rw[Z7 P (by omega),nil_append] at h
  exact h
 have R:Hid (∀ W,Calls prog 142 #[.slice none 0 0,.int .i64 d] W fun e w'=>∃ v',e=.returned v'∧Own w' W.heap.size v' (Lib.uvarint (Lib.zigzag d))∧Below W.heap.size W w'):=fun W=>by
  have h:=Jk (.slice none 0 0) [] d W (Rd.nil W) (by simp) q.1 q.2
  rw[nil_append] at h;exact h
 have HB:Hid (∀ W,Calls prog 142 #[.slice none 0 0,.int .i64 r.resp] W fun e w'=>∃ v',e=.returned v'∧Own w' W.heap.size v' (Lib.uvarint (Lib.zigzag r.resp))∧Below W.heap.size W w'):=fun W=>by
  have h:=Jk (.slice none 0 0) [] r.resp W (Rd.nil W) (by simp) p.o.1 p.o.2
  rw[nil_append] at h;exact h
 have ab:Hid (∀ W N v k f j,N=W.heap.size->Rd W v (Lib.uvarint r.proc.toNat)->Rd W k (Lib.uvarint (Lib.zigzag d))->Rd W f (Xo r.op)->Rd W j (Lib.uvarint (Lib.zigzag r.resp))->Calls prog 131 #[.slice (some ⟨N,0,none⟩) 4 4] (W.alloc (.cells #[v,k,f,j] 53)) fun e w'=>∃ v',e=.returned v'∧Own w' W.heap.size v' (Lib.uvarint r.proc.toNat++(Lib.uvarint (Lib.zigzag d)++(Xo r.op++Lib.uvarint (Lib.zigzag r.resp))))∧Below W.heap.size W w'):=fun W N v k f j hN h0 h1 h2 h3=>Zuf W N hN v k f j _ _ _ _ h0 h1 h2 h3 (by omega)
 clear Z aq al ai p P an q;unfold opV at i;obtain⟨idx,proc,seq,⟨Q,a,b⟩,resp⟩:=r;show Calls prog _ #[.agg #[.int .i64 idx,.int .i64 proc,.int .i64 seq,.int .i64 Q,.int .i64 a,.int .i64 b,.int .i64 resp],.int .i64 d] w _
 dsimp only at *
 generalize Lib.uvarint proc.toNat=A at *;generalize Lib.uvarint (Lib.zigzag d)=S at *;generalize Lib.uvarint (Lib.zigzag resp)=LB at *;generalize Xo ⟨Q,a,b⟩=LO at *;generalize A++(S++(LO++LB))=LL at *
 go_enter func133,ntmps133
 go_wp2_with fail
 refine(i.o _).mono ?_;rintro e W1 ⟨k,rfl,I,G⟩;have y:Br W1 w.heap.size _:=(X1.out _).below G zL;have V:=ZZ y;have F:=ZZ ((M.o _).trans (G.mono (M.o _).size));have ae:=ZZ I.rd;obtain⟨a1,c1,rfl,-⟩:=I.rd;obtain⟨p1,-⟩:=y.cell 1;obtain⟨p6,-⟩:=y.cell 6;have av:=F.o.size;clear G y I i;go_wp2
 go_region_held(fun w'=>w'.cell? ⟨w.heap.size,1,none⟩=some (.int .i64 proc)∧w'.cell? ⟨w.heap.size,6,none⟩=some (.int .i64 resp)) (go_keep)
  (first
   | (go_at_call 132;refine(Y.o _).mono ?_;rintro e W2 ⟨f,rfl,H,t⟩;have u:=V.o.below (((Below.refl _ _).drew).trans t) zL;have ar:=ZZ u;have L:=ZZ (F.o.trans ((((Below.refl _ _).drew).trans t).mono F.o.size));have ac:=ZZ (ae.o.below (((Below.refl _ _).drew).trans t) zL);obtain⟨a2,c2,rfl,-⟩:=H.rd;have aj:=ZZ H.rd;obtain⟨q1,-⟩:=u.cell 1;obtain⟨q6,-⟩:=u.cell 6;clear H t u)
   | (go_at_call_of 142 (Value.int .i64 d);refine(R.o _).mono ?_;rintro e W3 ⟨j,rfl,E,g⟩;have m:=ar.o.below g zL;have ag:=ZZ m;have K:=ZZ (L.o.trans (g.mono L.o.size));have aa:=ZZ (aj.o.below g zL);have U:=ZZ (ac.o.below g zL);obtain⟨a3,c3,rfl,-⟩:=E.rd;have ao:=ZZ E.rd;obtain⟨r1,-⟩:=m.cell 1;obtain⟨r6,-⟩:=m.cell 6;clear E g m)
   | (go_at_call_of 142 (Value.int .i64 resp);refine(HB.o _).mono ?_;rintro e J ⟨v4,rfl,C,c⟩;have x:=ag.o.below c zL;have ap:=ZZ x;have B:=ZZ (K.o.trans (c.mono K.o.size));have ak:=ZZ (aa.o.below c zL);have T:=ZZ (ao.o.below c zL);have au:=ZZ (U.o.below c zL);obtain⟨a4,c4,rfl,-⟩:=C.rd;have af:=ZZ C.rd;obtain⟨s1,-⟩:=x.cell 1;obtain⟨s6,-⟩:=x.cell 6;clear C c x)
   | (go_at_call 131;refine(ab.o J J.heap.size _ _ _ _ rfl ak.o T.o au.o af.o).mono ?_;rintro e W5 ⟨v5,rfl,O,D⟩;have z:=ap.o.below D zL;have am:=ZZ (B.o.trans (D.mono B.o.size));have ad:=ZZ (O.mono B.o.size);obtain⟨t1,-⟩:=z.cell 1;obtain⟨t6,-⟩:=z.cell 6;clear O D z))
 all_goals
  go_wp2;go_ret;exact⟨_,rfl,ad.o,am.o⟩
theorem Zik (l:List Rec) (r:Rec):Zye (Qy l) r.proc r.seq=Qy (l++[r]):=by
 funext q
 unfold Zye;rw[ZlU]
theorem Br.own {cs:Array Value} (h:Br w b cs) {B:Nat} {v:Value} {l:List UInt8} (c:Own w B v l):some b≠v.ownBlock:=by
 rcases c.2 with ⟨a,_⟩ | ⟨g,cap,cur,a,_,f,_⟩
 ·rw[a]
  intro e
  cases e
 ·rw[a]
  intro e;have i:b=g:=by simpa[Value.ownBlock] using e
  unfold Br at h;rw[i,f] at h
  have d:(5:TypeId)=62:=by
   injection h with h
   injection h
  exact absurd d (by decide)
theorem Zgs (v:Value) (l:List Rec) (w:World) (b:RdR w v l):
 Calls prog 90 #[v] w fun e w'=>Zlj w l e w':=by
 have HR:=ZZ b;have G:=ZZ (fun W h=>ZbB v l W h)
 obtain⟨ao,cap,rfl,a7,aM,-,-,aG⟩:=b;have ba:(l.length:Int)<=9223372036854775807:=by unfold maxLen at aM;omega
 have aY:=ZZ aG;clear aG a7 aM;unfold Zlj;by_cases a:Yc l
 case neg=>
  simp only [if_neg a];rw[decide_eq_false a] at G;clear a
  go_enter func90,ntmps90
  go_wp2_with fail
  refine(G.o _ HR.o).mono ?_;rintro e W1 ⟨rfl,u⟩;have B:=ZZ u;clear u;go_wp2;go_ret2;exact⟨_,rfl,Own.nil _ _,B.o⟩
 simp only [if_pos a];rw[decide_eq_true a] at G;have p:1<=l.length:=a.1;have h2:l.length<=256:=a.2.1;rcases aY.o with h0 | ⟨c,aL,rfl,hc⟩
 ·rw[h0] at p;simp at p
 have aP:Hid (∀ k,k<l.length->∀ W,Below w.heap.size w W->Zja W c (aL+k*7) (l.getD k Qi)):=ZZ (fun k f W h=>(hc k f).keep (h.block c (hc k f).lt))
 have aR:Hid (∀ k,k<l.length->Qw (l.getD k Qi)):=ZZ (fun k f=>a.2.2.1 _ (by simp[List.getD,f]))
 have ac:Hid (∀ k,∀ r ∈ l.take k,Qw r):=ZZ (fun k r b=>a.2.2.1 r (List.mem_of_mem_take b))
 have hh:l.headD Qi=l.getD 0 Qi:=by cases l <;> simp
 obtain⟨_,i0,i1,_⟩:=aR.o 0 p
 have aC:Hid (Y2 l=(Lib.uvarint (l.getD 0 Qi).idx.toNat++Lib.uvarint l.length)++Xw [] (l.take l.length)):=ZZ (by
  unfold Y2
  rw[hh,take_length,List.append_assoc])
 have aW:=ZZ (fun k f=>ZqO l k f)
 have a4:Hid (∀ k,(Xw [] (l.take k)).length<=60*256):=ZZ (fun k=>by
  have h3:=ZmV (l.take k) [] (fun r b=>by simp at b) (ac.o k)
  have h4:(l.take k).length<=l.length:=by simp;omega
  omega)
 have u1:=Ji (n:=(l.getD 0 Qi).idx.toNat) (by omega)
 have u2:=Ji (n:=l.length) (by omega)
 have aA:Hid (∀ W,Calls prog 132 #[.slice none 0 0,.int .i64 (l.getD 0 Qi).idx] W fun e w'=>∃ v',e=.returned v'∧Own w' W.heap.size v' (Lib.uvarint (l.getD 0 Qi).idx.toNat)∧Below W.heap.size W w'):=fun W=>by
  have h:=ZbA (.slice none 0 0) [] (l.getD 0 Qi).idx W (Rd.nil W) (by simp)
  rw[Z7 i0 (by omega),nil_append] at h
  exact h
 have ab:Hid (∀ W,Calls prog 132 #[.slice none 0 0,.int .i64 (l.length:Int)] W fun e w'=>∃ v',e=.returned v'∧Own w' W.heap.size v' (Lib.uvarint l.length)∧Below W.heap.size W w'):=fun W=>by
  have h:=ZbA (.slice none 0 0) [] (l.length:Int) W (Rd.nil W) (by simp)
  rw[Z7 (by omega) (by omega),Int.toNat_natCast,nil_append] at h
  exact h
 rw[aC.o];have aV:(Lib.uvarint (l.getD 0 Qi).idx.toNat++Lib.uvarint l.length).length<=20:=by rw[length_append];omega
 have aD:=(aP.o 0 p);have a9:=ZZ aD;have be:=ZZ a.2.2.1;have J:Hid (∀ W N S U,N=W.heap.size->Rd W S (Lib.uvarint (l.getD 0 Qi).idx.toNat)->Rd W U (Lib.uvarint l.length)->Calls prog 131 #[.slice (some ⟨N,0,none⟩) 2 2] (W.alloc (.cells #[S,U] 53)) fun e w'=>∃ v',e=.returned v'∧Own w' W.heap.size v' (Lib.uvarint (l.getD 0 Qi).idx.toNat++Lib.uvarint l.length)∧Below W.heap.size W w'):=fun W N S U hN h0 p=>ZxJ W N hN S U _ _ h0 p (by omega)
 clear a hc hh aC i0 i1 u1 u2 aD;generalize (l.getD 0 Qi)=r0 at *;generalize Lib.uvarint r0.idx.toNat=A at *;obtain⟨A2,aN⟩:∃ A2,A2=Lib.uvarint l.length:=⟨_,rfl⟩;rw[<-aN] at ab J aV ⊢;clear aN;obtain⟨H,hH⟩:∃ H,H=A++A2:=⟨_,rfl⟩;rw[<-hH] at J aV ⊢;clear hH;have bi:=@run_makeMap prog;have bm:(0:Int)<(l.length:Int):=by omega
 go_enter func90,ntmps90
 go_wp2_with fail
 refine(G.o _ HR.o).mono ?_;rintro e W1 ⟨rfl,u⟩;have B:=ZZ u
 have a0:W1.cell? ⟨c,aL,none⟩=some (.int .i64 r0.idx):=by
  have h:=(a9.o W1 u).1
  rwa [Nat.zero_mul,Nat.add_zero] at h
 clear u
 go_wp2_with fail
 refine(aA.o _).mono ?_;rintro e W2 ⟨v2,rfl,au,aE⟩;obtain⟨a2,n2,rfl,-⟩:=au.rd;have aK:=ZZ au.rd;have ag:=ZZ (B.o.trans (aE.mono B.o.size));clear au aE a0 B
 go_wp2_with fail
 refine(ab.o _).mono ?_;rintro e W3 ⟨v3,rfl,aj,aa⟩;obtain⟨a3,n3,rfl,-⟩:=aj.rd;have aB:=ZZ (aK.o.below aa zL);have aO:=ZZ aj.rd;have P:=ZZ (ag.o.trans (aa.mono ag.o.size));clear aj aa aK ag aA ab
 go_wp2_with fail
 refine(J.o W3 W3.heap.size _ _ rfl aB.o aO.o).mono ?_;rintro e z ⟨v4,rfl,aI,ay⟩;have aF:=ZZ (aI.mono P.o.size);have Q:=ZZ (P.o.trans (ay.mono P.o.size));clear aI ay aB aO P J;have d:Hid (Own (z.alloc (.map #[] 0)) w.heap.size v4 H):=ZZ (aF.o.below ((Below.refl _ _).alloc zL _) zL);have i:=ZZ (ZfC.made z);have x:Hid (Below w.heap.size w (z.alloc (.map #[] 0))):=ZZ (Q.o.alloc Q.o.size _);have HN:=ZZ Q.o.size;go_wp2
 go_loopw[4,24] (fun vo vi wr=>∃ k:Nat,vi=.int .i64 (k:Int)∧k<=l.length∧Hid (Own wr w.heap.size vo (H++Xw [] (l.take k)))∧Hid (ZfC wr z.heap.size k (Qy (l.take k)))∧Hid (Below w.heap.size w wr)) (fun _ vi _=>l.length-(intOf vi).toNat)
 case atStart=>exact⟨0,rfl,Nat.zero_le _,by simpa[Xw] using d,i,x⟩
 case round=>
  clear d x i aF Q;obtain⟨k,rfl,f,q,hM,C⟩:=hrel;by_cases M:k<l.length
  case neg=>
   have aQ:l.take k=l.take l.length:=by rw[take_length,List.take_of_length_le (by omega)]
   rw[aQ] at q;clear aQ;go_wp2;go_ret2;exact⟨_,rfl,q.out,C.out⟩
  have bd:(k:Int)<(l.length:Int):=by omega
  have t:=aR.o k M;have D:Hid (I64 ((l.getD k Qi).seq-Qy (l.take k) (l.getD k Qi).proc)):=ZZ (Zem (ac.o k) t);have m:Hid (∀ W,Calls prog 133 #[Zrr (l.getD k Qi),.int .i64 ((l.getD k Qi).seq-Qy (l.take k) (l.getD k Qi).proc)] W fun e w'=>∃ v',e=.returned v'∧Own w' W.heap.size v' (Ys (l.take k) (l.getD k Qi))∧Below W.heap.size W w'):=ZZ (fun W=>Zij (l.getD k Qi) ((l.getD k Qi).seq-Qy (l.take k) (l.getD k Qi).proc) W t D.o)
  have ae:Hid (I64 (l.getD k Qi).proc):=ZZ (by obtain⟨_,_,_,_,_,bj,bg,_⟩:=t;exact⟨by omega,by omega⟩)
  have aT:Hid (I64 (l.getD k Qi).seq):=ZZ (by obtain⟨_,_,_,bc,bk,_⟩:=t;exact⟨by omega,by omega⟩)
  have L:=ZZ (ZjW (ac.o k) t);have al:=ZZ (aP.o k M);have a1:=a4.o k;have ax:Hid ((H++Xw [] (l.take k)).length<=20000):=ZZ (by rw[length_append];omega)
  have K:Hid (H++Xw [] (l.take (k+1))=(H++Xw [] (l.take k))++Ys (l.take k) (l.getD k Qi)):=ZZ (by
   rw[aW.o k M,List.append_assoc])
  have az:Hid (Zye (Qy (l.take k)) (l.getD k Qi).proc (l.getD k Qi).seq=Qy (l.take (k+1))):=ZZ (by
   rw[Zik,Zfz M])
  clear a1 t;obtain⟨r,b⟩:∃ r,r=l.getD k Qi:=⟨_,rfl⟩;rw[<-b] at D m ae aT L al K az;unfold Zrr at m;clear b;have Z:Hid (∀ X,(Instr.lookup 183 (.map (some z.heap.size)) (.int .i64 r.proc) false).run prog (wr.alloc X)=.ok (.int .i64 (Qy (l.take k) r.proc)) (wr.alloc X)):=ZZ (fun X=>(hM.out.below ((Below.refl _ _).alloc zL X) zL).look ae.o)
  obtain⟨V,aS⟩:∃ V,V=Qy (l.take k) r.proc:=⟨_,rfl⟩;rw[<-aS] at D m Z;clear aS;obtain⟨E,hE⟩:∃ E,E=Ys (l.take k) r:=⟨_,rfl⟩;rw[<-hE] at m L K;clear hE;obtain⟨Y,aH⟩:∃ Y,Y=H++Xw [] (l.take k):=⟨_,rfl⟩;rw[<-aH] at q ax K;clear aH;have L0:=ax.o;have L1:=L.o;have bf:IntKind.i64.wrap (r.seq-V)=r.seq-V:=ZnS D.o;have a8:=Z.o;obtain⟨c0,c1,c2,c3,c4,c5,c6⟩:=al.o wr C.out
  obtain⟨F,O,rfl⟩:∃ F O,u4=.slice F Y.length O:=by
   obtain⟨F,O,h,-⟩:=q.out.rd;exact⟨F,O,h⟩
  have aU:Hid (∀ cs,Br (wr.alloc (.cells cs 62)) wr.heap.size cs):=fun cs=>heap_alloc_new wr _
  have an:Hid (∀ X,Below wr.heap.size wr (wr.alloc X)):=fun X=>(Below.refl _ _).alloc zL X
  clear Z D ax L
  go_wp2_with fail
  refine(m.o _).mono ?_;rintro e W5 ⟨v5,rfl,aq,ai⟩;obtain⟨a5,n5,rfl,-⟩:=aq.rd;have T:Below wr.heap.size wr W5:=(an.o _).trans (ai.mono (an.o _).size);have aJ:=ZZ aq.rd;have d:=ZZ (q.out.below T zL);have i:=ZZ (hM.out.below T zL);have I:Hid (Br W5 wr.heap.size _):=ZZ ((aU.o _).below ai zL);have x:=ZZ (C.out.trans (T.mono C.out.size));have aw:=ZZ x.o.size;clear aq ai T q hM C aU an c0 c1 c2 c3 c4 c5 c6 a8 m al
  go_wp2_with(at_builtin;refine Zfy _ rfl _ _ rfl w.heap.size _ Y rfl d.o _ E rfl aJ.o (by omega) aw.o ?_)
  intro v6 W6 ap R;rw[<-K.o] at ap;have ar:=ZZ ap;have av:Hid (Br W6 wr.heap.size _):=ZZ ((R.block _ I.o.lt (I.o.own d.o)).trans I.o)
  have ak:=ZZ (i.o.keep (R.block _ i.o.lt (by
   rcases i.o.own d.o with h | h
   ·rw[h];exact fun e=>by cases e
   ·exact fun e=>h e.symm)))
  have am:=ZZ (x.o.grown R aw.o (fun j y=>by
   rcases d.o.2 with ⟨hv,_⟩ | ⟨g,cap,cur,hv,bb,_⟩
   ·rw[hv] at y;cases y
   ·rw[hv] at y
    have e':g=j:=by simpa[Value.ownBlock] using y
    omega))
  clear ap R d I i x aw aJ;obtain⟨W7,bl,af,ad⟩:=ak.o.put ae.o aT.o (by omega)
  rw[az.o] at af;have aX:=ZZ af;have a6:Hid (Own W7 w.heap.size v6 (H++Xw [] (l.take (k+1)))):=ZZ (World.ownsRow.kept ar.o ad (ak.o.own ar.o));have aZ:=ZZ (am.o.grown ad am.o.size (fun j y=>by cases y;exact HN.o))
  obtain⟨q1,-⟩:=av.o.cell 1;obtain⟨q2,-⟩:=av.o.cell 2;clear af ad ak ar am av;go_wp2;go_roundw
  case rel=>exact⟨k+1,by go_num,by omega,a6,aX,aZ⟩
  case measure=>simp[intOf];omega
theorem Zjk (v:Value) (l:List Rec) (w:World) (k:RdR w v l) (d:Yc l) (n:(Y2 l).length<=1048576):
 Calls prog 49 #[v] w fun e w'=>∃ v',e=.returned v'∧Own w' w.heap.size v' (Qe (Y2 l))∧Below w.heap.size w w':=by
 have b:=ZZ (Zgs v l w k);unfold Zlj at b;rw[if_pos d,if_pos d] at b;have i:=ZZ (fun c W (h:Rd W c (Y2 l))=>Zdg c _ W h)
 rw[Zlk n] at i;obtain⟨ao,cap,rfl,-⟩:=k;generalize Y2 l=B at *;generalize Qe B=x at *;clear d n
 go_enter func49,ntmps49
 go_wp2_with fail
 refine b.o.mono ?_;rintro e z ⟨c,rfl,j,m⟩;have p:=ZZ j.rd;have a:=ZZ m;clear j m
 go_wp2_with fail
 refine(i.o _ _ p.o).mono ?_;rintro e y ⟨u,rfl,f,g⟩;have q:=ZZ (f.mono a.o.size);have t:=ZZ (a.o.trans (g.mono a.o.size));clear f g;go_wp2;go_ret;exact⟨_,rfl,q.o,t.o⟩
theorem Zln {L:ZdP} (w:World) (h:Z0 M I w p pd L s) (q:ZoJ s) (g:0<=s.now.st.kind∧s.now.st.kind<6) (D:s.next<4611686018427387904) (J:0<=s.next):
 Calls prog 51 #[ptr p] w fun e w'=>∃ v',e=.returned v'∧Own w' w.heap.size v' (Qe (X6 3 s.now.st.kind.toNat s.next.toNat))∧Below w.heap.size w w':=by
 have m:=ZZ h
 have H:Hid (∀ W,Below w.heap.size w W->Calls prog 14 #[ptr p] W fun e w'=>e=.returned (.int .i64 s.next)∧Below w.heap.size w w'):=ZZ (fun W a=>(ZhU W (h.below a) q).mono (by
  rintro e w' ⟨rfl,b⟩
  exact⟨rfl,a.trans (b.mono a.size)⟩))
 have v:Hid (∀ W,Below w.heap.size w W->Calls prog 93 #[.int .i64 3,.int .i64 s.now.st.kind,.int .i64 s.next] W fun e w'=>∃ v',e=.returned (.tuple #[v',.int .i64 0])∧Own w' w.heap.size v' (Qe (X6 3 s.now.st.kind.toNat s.next.toNat))∧Below w.heap.size w w'):=ZZ (fun W a=>by
  have c:=ZmZ 3 s.now.st.kind s.next W;have l:Zgb s.now.st.kind s.next:=⟨g.1,g.2,J,D⟩;have u:Zr 3 s.now.st.kind s.next=0:=by unfold Zr;rw[if_pos (by decide),if_pos l]
  have C:Zgr 3 s.now.st.kind s.next=Qe (X6 3 s.now.st.kind.toNat s.next.toNat):=by unfold Zgr;rw[if_pos (by decide),if_pos l];rfl
  unfold Zqk at c;rw[u,C] at c;refine c.mono ?_;rintro e w' ⟨v',rfl,F,b⟩
  exact⟨v',rfl,F.mono a.size,a.trans (b.mono a.size)⟩)
 have d:Hid (∀ W,Below w.heap.size w W->W.cell? ⟨p,6,none⟩=some (.int .i64 s.now.st.kind)):=ZZ (fun W a=>by
  obtain⟨-,-,-,-,-,⟨-,E,-⟩,-⟩:=(m.o.below a).cs
  exact E)
 have k:Hid (Below w.heap.size w w.drew):=ZZ (Below.refl _ _).drew;generalize Qe (X6 3 s.now.st.kind.toNat s.next.toNat)=y at *;generalize s.now.st.kind=kd at *;generalize s.next=nx at *;clear h m q
 go_enter func51,ntmps51
 go_upto_region 1 with fail
 go_cut[3,4] (fun x G wc=>G=.int .i64 0∧Hid (Own wc w.heap.size x y)∧Hid (Below w.heap.size w wc))
 case first=>
  go_region_held(fun W=>W.cell? ⟨p,6,none⟩=some (.int .i64 kd))
   (first | (with_reducible exact d.o _ k.o) | (with_reducible exact d.o _ f.o) | (with_reducible exact d.o _ t.o))
   (first
    | (go_at_call 14;refine(H.o _ k.o).mono ?_;rintro e O ⟨rfl,n⟩;have f:=ZZ n;clear n)
    | (go_at_call 93;refine(v.o _ f.o).mono ?_;rintro e N ⟨K,rfl,i,j⟩;have z:=ZZ i;have t:=ZZ j;clear i j))
  all_goals
   go_wp2_with fail
   go_meet
   exact⟨rfl,z,t⟩
 case rest=>
  obtain⟨rfl,B,A⟩:=hcut;go_wp2;go_ret;exact⟨_,rfl,B.o,A.o⟩
def ZxK (t:List Ent):Prop:=Zhh t∧∀ e ∈ t,0<=e.proc∧e.proc<=64
theorem Znb:∀ (t:List Ent) (a:Int),Zhh t->(∀ e ∈ t,a<=e.proc∧e.proc<=64)->(t.length:Int)<=max 0 (65-a)
 | [],a,_,_=>by simp only [List.length_nil];omega
 | e::t,a,h,hb=>by
  unfold Zhh at h;rw[List.pairwise_cons] at h;have d:=hb e List.mem_cons_self;have c:=Znb t (e.proc+1) h.2 (fun x b=>⟨by have:=h.1 x b;omega,(hb x (List.mem_cons_of_mem _ b)).2⟩)
  rw[List.length_cons];omega
theorem ZxK.few (h:ZxK t):t.length<=65:=by
 have:=Znb t 0 h.1 h.2;omega
theorem ZxK.note (h:ZxK t) {e:Ent} (c:0<=e.proc) (b:e.proc<=64):ZxK (ZcE t e):=by
 refine⟨Zhi h.1,fun x a=>?_⟩
 rw[ZlR] at a;rcases a with rfl | ⟨a,_⟩
 ·exact⟨c,b⟩
 ·exact h.2 x a
theorem Zel.tabR (h:Zel t):ZxK t:=⟨h.rises,fun e a=>by
 have:=h.mem e a;unfold ZbZ at this
 omega⟩
def SnS (s:Qv):Prop:=X8 s.st∧ZxK s.tab
theorem SnS.next {s:Qv} {r:Rec} (h:SnS s) (a:Qw r):SnS (ZiW s r):=by
 refine⟨Zhm h.1 r.op,?_⟩;obtain⟨-,-,-,-,-,c,b,-⟩:=a;exact h.2.note c b
theorem SnS.take:∀ {l:List Rec} {s:Qv},SnS s->(Xa s l).2=0->SnS (Xa s l).1
 | [],_,h,_=>h
 | r::l,s,h,h0=>by
  rw[Xa] at h0 ⊢;split at h0
  ·cases h0
  ·rename_i c
   rw[if_neg c];split at h0
   ·cases h0
   ·rename_i b
    rw[if_neg b]
    exact SnS.take (h.next (by
     by_cases a:Qw r
     ·exact a
     ·exact absurd a b)) h0
structure OkS (s:Sto):Prop where
 log:OkG s.log
 nx:s.now.idx=s.next
 now:SnS s.now
 cur:s.cur≠0->s.log.pcs.length≠0
 sy:I64 s.synced
 cu:I64 s.cur
theorem OkS.num (h:OkS s):ZoJ s:=⟨h.log.f0,h.log.top,h.sy,h.cu⟩
theorem OkG.recOk {b:Lgb} (h:OkG b):∀ r ∈ b.recs,ZcK r:=fun r a=>Zcl (h.fits r a)
theorem SD.begin (h:SD K w pd p s d N T) (c:∀ k,K k->k<w.heap.size) (name first:Int) (l:s.log.pcs.length<=1000000):
 Calls prog 53 #[.pointer (some ⟨p,1,none⟩),.int .i64 name,.int .i64 first] w fun e w'=>e=.returned (.tuple #[])∧SD K w' pd p { s with log:=s.log.start name first } d N T∧Qj (fun k=>¬ K k) w w':=by
 obtain⟨F,M,I,L,j,a,n,t,i,u,q⟩:=h;refine(ZjS 76 (by decide) (by decide) p 1 _ L.rv L.pv s.log name first w a.toLog l).mono ?_
 rintro e w' ⟨v,x⟩;obtain⟨M',L',f,-,-,m,g⟩:=a.ofLog x;exact⟨v,SD.own c j n t i u q m f g (fun _ b=>.inl b)⟩
theorem SD.add (h:SD K w pd p s d N T) (f:∀ k,K k->k<w.heap.size) (a:Value) (l:List Rec) (x:RdR w a l) (n:s.log.pcs.length≠0) (u:s.log.pcs.length<=1000000) (z:s.log.recs.length+l.length<=10000000) (t:∀ q ∈ s.log.pcs,0<=q.stop∧q.stop<=4611686018427387904):
 Calls prog 54 #[.pointer (some ⟨p,1,none⟩),a] w fun e w'=>e=.returned (.tuple #[])∧SD K w' pd p { s with log:=s.log.add l } d N T∧Qj (fun k=>¬ K k) w w':=by
 obtain⟨F,M,I,L,m,b,y,B,j,C,A⟩:=h;refine(Zua 76 (by decide) (by decide) p 1 _ L.rv L.pv s.log a l w b.toLog x n u z t).mono ?_
 rintro e w' ⟨D,E⟩;obtain⟨M',L',g,-,-,v,i⟩:=b.ofLog E;exact⟨D,SD.own f m y B j C A v g i (fun _ c=>.inl c)⟩
def Zlo (w:World) (p o:Nat) (x0 x1 x2 x3 x4 x5:Value):World:=(((((w.setCell ⟨p,o,none⟩ x0).setCell ⟨p,o+1,none⟩ x1).setCell ⟨p,o+2,none⟩ x2).setCell ⟨p,o+3,none⟩ x3).setCell ⟨p,o+4,none⟩ x4).setCell ⟨p,o+5,none⟩ x5
theorem ZrV (w:World) (p o:Nat) (d e c g f b:Value) (k:Nat) (a:k≠p):(Zlo w p o d e c g f b).heap[k]?=w.heap[k]?:=by
 unfold Zlo;rw[Below.heap_setCell _ _ _ _ a,Below.heap_setCell _ _ _ _ a,Below.heap_setCell _ _ _ _ a,Below.heap_setCell _ _ _ _ a,Below.heap_setCell _ _ _ _ a,Below.heap_setCell _ _ _ _ a]
theorem ZrW (w:World) (p o:Nat) (e f d i g c:Value) (M:Nat->Prop) (a:M p):Qj M w (Zlo w p o e f d i g c):=
 ((((((Qj.refl M w).setCell (b:=p) _ (fun _=>a) _).setCell (b:=p) _ (fun _=>a) _).setCell (b:=p) _ (fun _=>a) _).setCell (b:=p) _ (fun _=>a) _).setCell (b:=p) _ (fun _=>a) _).setCell (b:=p) _ (fun _=>a) _
theorem SD.setNow {W:World} {F:Nat->Prop} {L:ZdP} (z:∀ k,K k->k<w.heap.size) (B:Dsk F w pd d N T) (a:Z0 M I w p pd L s) (H:∀ k,F k->¬ K k) (P:∀ k,M k->¬ K k) (A:∀ k,I k->¬ K k) (S:∀ k,F k->¬ M k) (O:∀ k,F k->¬ I k)
 (i:Below w.heap.size w W) (x:Qv × Value × Value) (Q:SnR W x) (hi:ZlB (fun k=>I k∨(w.heap.size<=k∧k<W.heap.size)) x):
 SD K (Zlo W p 5 (.int .i64 x.1.idx) (.int .i64 x.1.st.kind) x.2.1 (.bool x.1.st.shut) (.int .i64 x.1.st.eng) x.2.2) pd p { s with now:=x.1 } d N T∧
  Qj (fun k=>¬ K k) w (Zlo W p 5 (.int .i64 x.1.idx) (.int .i64 x.1.st.kind) x.2.1 (.bool x.1.st.shut) (.int .i64 x.1.st.eng) x.2.2):=by
 obtain⟨f,j⟩:∃ f,f=Zlo W p 5 (.int .i64 x.1.idx) (.int .i64 x.1.st.kind) x.2.1 (.bool x.1.st.shut) (.int .i64 x.1.st.eng) x.2.2:=⟨_,rfl⟩;rw[<-j];have b:=a.below i;have hk:∀ k,k≠p->f.heap[k]?=W.heap[k]?:=fun k hk=>by rw[j];exact ZrV _ _ _ _ _ _ _ _ _ k hk
 have R:Qj M w f:=(Qj.ofBelow i).trans (G:=M) (by rw[j];exact ZrW _ _ _ _ _ _ _ _ _ M a.mh) (fun _ _ h=>h)
 have q:f.heap.size=W.heap.size:=by rw[j];unfold Zlo;simp
 have V:p<w.heap.size:=a.ltM p a.mh
 have D:Bk 76 f p (stC pd { L with nl:=x.2.1,nt:=x.2.2 } { s with now:=x.1 }):=by
  rw[j];exact(((((b.head.set 5 _).set 6 _).set 7 _).set 8 _).set 9 _).set 10 _
 have m:∀ {t:TypeId} {n sz g:Nat} {v:Value} {xs:List Value},W.ownsRow 0 t sz v n xs->v.ownBlock=some g->t≠76->g≠p:=fun E c J=>by
  obtain⟨U,i⟩:=Xm E c;exact i.ne b.head J
 have u:∀ k,(I k∨(w.heap.size<=k∧k<W.heap.size))->f.heap[k]?=W.heap[k]?:=fun k C=>hk k (fun e=>by
  subst e;rcases C with h | h
  ·exact a.dis _ a.mh h
  ·omega)
 refine SD.own (I':=fun k=>I k∨(w.heap.size<=k∧k<W.heap.size)) (M':=M) (L':={ L with nl:=x.2.1,nt:=x.2.2 }) z B H P A S O R ⟨D,Qh b.recs fun g c=>hk g (m b.recs c (by decide)),Qh b.pcs fun g c=>hk g (m b.pcs c (by decide)),Qh b.bases fun g c=>hk g (m b.bases c (by decide)),b.bsEq,Q.keep hi u,fun y l=>(b.base y l).keep (b.ibase y l) (fun g c=>u g (.inl c)),a.mh,a.mr,a.mp,a.mb,hi,fun y l=>(a.ibase y l).mono (fun k hk=>.inl hk),fun k hm=>?_,fun k hm=>?_,fun k hm hi=>?_⟩ (fun _ hk=>.inl hk) (fun k hk=>?_)
 ·rw[q];exact Nat.lt_of_lt_of_le (a.ltM k hm) i.size
 ·rw[q]
  rcases hm with hm | hm
  ·exact Nat.lt_of_lt_of_le (a.ltI k hm) i.size
  ·exact hm.2
 ·rcases hi with hi | hi
  ·exact a.dis k hm hi
  ·have:=a.ltM k hm
   omega
 ·rcases hk with hk | hk
  ·exact .inl hk
  ·exact .inr hk.1
theorem Znc (h:Yc l):(Y2 l).length<=20000:=by
 obtain⟨c,i,b,e⟩:=h;have a:=ZfB l [] (fun r a=>by cases a) b
 unfold Y2;rw[length_append,length_append]
 have d:Qw (l.headD Qi):=by
  match l,c with
  | r::t,_=>exact b r List.mem_cons_self
 have f:(Lib.uvarint (l.headD Qi).idx.toNat).length<=10:=Ji (by have:=d.2.2.1;omega)
 have g:(Lib.uvarint l.length).length<=10:=Ji (by omega)
 omega
theorem ZrX (h:Yc l) (i:0<=s.now.st.kind∧s.now.st.kind<6) (b:s.next<4611686018427387904):(Zbl s l).length<=30000:=by
 have d:=Znc h;have g:=Qz (Y2 l);have j:=Qz (X6 3 s.now.st.kind.toNat s.next.toNat);have a:=ZeF (v:=3) (k:=s.now.st.kind.toNat) (f:=s.next.toNat) (by decide) (by omega) (by omega)
 have c:(Lib.uvarint (Y2 l).length).length<=10:=Ji (by omega)
 have e:(Lib.uvarint (X6 3 s.now.st.kind.toNat s.next.toNat).length).length<=10:=Ji (by omega)
 unfold Zbl;split
 ·rw[length_append]
  omega
 ·omega
theorem ZcP (h:OkD d) (first:Int) (f:0<=first) (g:first<=1000):I64 (Ya d first):=by
 have a:∀ n ∈ Xg (Ql d) first,0<=n∧n<1048576:=fun n b=>ZaZ h n (List.mem_filter.1 b).1
 unfold Ya;generalize Xg (Ql d) first=l at a ⊢;by_cases c:l.length=0
 ·rw[List.eq_nil_of_length_eq_zero c]
  show I64 (first-2+2);exact⟨by omega,by omega⟩
 ·have e:l.getD (l.length-1) (first-2)=l[l.length-1]'(by omega):=by simp[List.getD,show l.length-1<l.length by omega]
  have:=a _ (List.getElem_mem (show l.length-1<l.length by omega))
  rw[e];exact⟨by omega,by omega⟩
theorem RdR.keepK (h:RdR w v l) (hv:l=[]∨∀ k,v.ownBlock=some k->K k) (p:Qj (fun k=>¬ K k) w w'):RdR w' v l:=by
 obtain⟨ao,cap,rfl,e,i,n,f,a⟩:=h;refine⟨ao,cap,rfl,e,i,n,f,?_⟩;rcases hv with hv | hv
 ·exact .inl hv
 rcases a with a | ⟨b,m,rfl,d⟩
 ·exact .inl a
 ·exact .inr ⟨b,m,rfl,fun j c=>(d j c).keep (p.block b (d j c).lt (fun g=>g (hv b rfl)))⟩
theorem SD.takes (h:SD K w pd p s d N T) (hK:∀ k,K k->k<w.heap.size) (E:SnS s.now) (B:Value) (l:List Rec) (hr:RdR w B l) (ag:l.length<=1000000):
 ∃ a i lc m f n,(w.cell? ⟨p,5,none⟩=some (.int .i64 s.now.idx)∧w.cell? ⟨p,6,none⟩=some (.int .i64 s.now.st.kind)∧w.cell? ⟨p,7,none⟩=some (.slice a i lc)∧w.cell? ⟨p,8,none⟩=some (.bool s.now.st.shut)∧w.cell? ⟨p,9,none⟩=some (.int .i64 s.now.st.eng)∧w.cell? ⟨p,10,none⟩=some (.slice m f n))∧
  Calls prog 15 #[.agg #[.int .i64 s.now.idx,.int .i64 s.now.st.kind,.slice a i lc,.bool s.now.st.shut,.int .i64 s.now.st.eng,.slice m f n],B] w fun e w'=>
   ∃ v D q y H u,e=.returned (.tuple #[.agg #[.int .i64 (Xa s.now l).1.idx,.int .i64 (Xa s.now l).1.st.kind,.slice v D q,.bool (Xa s.now l).1.st.shut,.int .i64 (Xa s.now l).1.st.eng,.slice y H u],.int .i64 (Xa s.now l).2])∧
    (w'.cell? ⟨p,5,none⟩=some (.int .i64 s.now.idx)∧w'.cell? ⟨p,6,none⟩=some (.int .i64 s.now.st.kind)∧w'.cell? ⟨p,7,none⟩=some (.slice a i lc)∧w'.cell? ⟨p,8,none⟩=some (.bool s.now.st.shut)∧w'.cell? ⟨p,9,none⟩=some (.int .i64 s.now.st.eng)∧w'.cell? ⟨p,10,none⟩=some (.slice m f n))∧(∀ j,w'.frozen? ⟨p,j,none⟩=false)∧
    SD K (Zlo w' p 5 (.int .i64 (Xa s.now l).1.idx) (.int .i64 (Xa s.now l).1.st.kind) (.slice v D q) (.bool (Xa s.now l).1.st.shut) (.int .i64 (Xa s.now l).1.st.eng) (.slice y H u)) pd p { s with now:=(Xa s.now l).1 } d N T∧
    Qj (fun k=>¬ K k) w (Zlo w' p 5 (.int .i64 (Xa s.now l).1.idx) (.int .i64 (Xa s.now l).1.st.kind) (.slice v D q) (.bool (Xa s.now l).1.st.shut) (.int .i64 (Xa s.now l).1.st.eng) (.slice y H u)):=by
 obtain⟨F,M,I,L,h1,b,h3,h4,h5,h6,h7⟩:=h;obtain⟨a,i,lc,m,f,n,e1,e2⟩:=b.now.shape;have z:L.nl=.slice a i lc:=e1;have O:L.nt=.slice m f n:=e2
 have Z:∀ W,Below w.heap.size w W->(W.cell? ⟨p,5,none⟩=some (.int .i64 s.now.idx)∧W.cell? ⟨p,6,none⟩=some (.int .i64 s.now.st.kind)∧W.cell? ⟨p,7,none⟩=some (.slice a i lc)∧W.cell? ⟨p,8,none⟩=some (.bool s.now.st.shut)∧W.cell? ⟨p,9,none⟩=some (.int .i64 s.now.st.eng)∧W.cell? ⟨p,10,none⟩=some (.slice m f n)):=fun W hW=>by
  obtain⟨-,-,-,-,-,⟨c5,c6,X,c8,c9,Y⟩,-⟩:=(b.below hW).cs;rw[z] at X;rw[O] at Y;exact⟨c5,c6,X,c8,c9,Y⟩
 refine⟨a,i,lc,m,f,n,Z w (Below.refl _ _),?_⟩;have R:=b.now.snV
 have ab:snV (L.nx s)=.agg #[.int .i64 s.now.idx,.int .i64 s.now.st.kind,.slice a i lc,.bool s.now.st.shut,.int .i64 s.now.st.eng,.slice m f n]:=by
  unfold snV snC ZdP.nx
  dsimp only
  rw[z,O]
 rw[ab] at R;have hL:s.now.st.L.length<=1000:=by have:=Zoz E.1;omega
 have hT:s.now.tab.length<=1000:=by have:=E.2.few;omega
 refine(ZmE (P:=SnS) (fun S r x hf=>x.next hf) (fun S x=>by have:=x.2.few;omega) _ _ _ _ _ _ s.now B l w R hr hL hT (by omega) E).mono ?_
 rintro e w' ⟨C,A,rfl,Q,r2,r3,V,r5,g1,g2,J⟩;obtain⟨v,q,hx,-⟩:=id Q;obtain⟨y,u,hu⟩:=V.shape;have x:SnR w' ((Xa s.now l).1,C,A):=⟨Q,V,r2,r3,r5⟩
 have aa:ZlB (fun k=>I k∨(w.heap.size<=k∧k<w'.heap.size)) ((Xa s.now l).1,C,A):=by
  refine⟨?_,?_⟩
  ·rcases Q.block with ad | ⟨af,k,U,ac⟩
   ·exact .inl ad
   ·rcases g1 with g1 | g1
    ·rcases b.inow.1 with hi | hi
     ·obtain⟨a2,c2,h9,-⟩:=b.now.l
      have t:L.nl=.slice a2 s.now.st.L.length c2:=h9;have ae:s.now.st.L=[]:=hi;rw[ae] at t;rw[hx] at g1;rw[z] at t
      injection g1 with _ g1 _
      injection t with _ t _
      exact .inl (List.eq_nil_of_length_eq_zero (by rw[g1,t];rfl))
     ·refine .inr fun g c=>.inl (hi g ?_)
      show L.nl.ownBlock=some g;rw[z,<-g1];exact c
    ·refine .inr fun g c=>.inr ⟨g1 g c,?_⟩
     rw[c] at U;obtain rfl:=Option.some.inj U;exact ac
  ·rcases g2 with ⟨rfl,g2⟩ | g2
   ·rcases b.inow.2 with hi | hi
    ·exact .inl hi
    ·refine .inr fun g c=>.inl (hi g ?_)
     show L.nt.ownBlock=some g;rw[O,<-g2];exact c
   ·exact .inr fun g c=>.inr (World.ownsRow.lt g2 g c)
 have G:=SD.setNow hK h1 b h3 h4 h5 h6 h7 J ((Xa s.now l).1,C,A) x aa
 dsimp only at G
 subst hx hu;exact⟨v,_,q,y,_,u,rfl,Z w' J,fun j=>(b.below J).fz j,G.1,G.2⟩
end Go.Proofs.YtnahjngbneicaaaGreatDoor
