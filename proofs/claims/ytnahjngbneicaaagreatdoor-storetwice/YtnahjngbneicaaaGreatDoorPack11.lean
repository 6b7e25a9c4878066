import Derived.Test.YtnahjngbneicaaaGreatDoorPack10
namespace Go.Proofs.YtnahjngbneicaaaGreatDoor
open _root_.Go.Proofs.Tryz
open List (length_append length_drop nil_append take_length)
set_option maxHeartbeats 8000000
set_option maxRecDepth 100000
open Go.RowKit
variable {L:List (List UInt8)} {d:Dk} {w w':World} {B N T b n p pd:Nat} {x y z:Int} {v:Value} {f:Int->Int} {I K M:Nat->Prop} {s:Sto} {t:List Ent} {l:List Rec}
theorem Zdt (v:Int) (B:Bool) (c:B=decide (1<=v∧v<=3)) (w:World):
 Calls prog 188 #[.int .i64 v] w fun e w'=>e=.returned (.bool B)∧w'=w:=by
 subst c;by_cases h:1<=v∧v<=3
 ·rw[decide_eq_true h]
  obtain⟨b,a⟩:=h
  go_enter func188,ntmps188
  go_wp2;go_ret;exact⟨rfl,rfl⟩
 ·rw[decide_eq_false h]
  by_cases b:1<=v
  ·have a:¬ v<=3:=fun a=>h ⟨b,a⟩
   clear h
   go_enter func188,ntmps188
   go_wp2;go_ret;exact⟨rfl,rfl⟩
  ·clear h
   go_enter func188,ntmps188
   go_wp2;go_ret;exact⟨rfl,rfl⟩
theorem ZmX (v k f:Int) (w:World):
 Calls prog 137 #[.agg #[.int .i64 v,.int .i64 k,.int .i64 f]] w fun e w'=>e=.returned (.int .i64 (Zr v k f))∧Below w.heap.size w w':=by
 have c:Hid (∀ X,Below w.heap.size w (w.alloc X)):=fun X=>(Below.refl _ _).alloc zL X
 by_cases a:1<=v∧v<=3
 case neg=>
  have b:=ZZ (Zdt v false (by rw[decide_eq_false a]))
  have d:Hid (Zr v k f=6):=ZZ (if_neg a);rw[d.o];clear a
  go_enter func137,ntmps137
  go_wp2_with fail
  refine(b.o _).mono ?_;rintro e g ⟨rfl,rfl⟩;go_wp2;go_ret;exact⟨rfl,c.o _⟩
 have b:=ZZ (Zdt v true (by rw[decide_eq_true a]))
 by_cases h:Zgb k f
 case neg=>
  have d:Hid (Zr v k f=1):=ZZ (by unfold Zr;rw[if_pos a,if_neg h])
  rw[d.o];clear a;by_cases u:k<0
  ·clear h
   go_enter func137,ntmps137
   go_wp2_with fail
   refine(b.o _).mono ?_;rintro e g ⟨rfl,rfl⟩;go_wp2;go_ret;exact⟨rfl,c.o _⟩
  by_cases t:6<=k
  ·clear h
   go_enter func137,ntmps137
   go_wp2_with fail
   refine(b.o _).mono ?_;rintro e g ⟨rfl,rfl⟩;go_wp2;go_ret;exact⟨rfl,c.o _⟩
  by_cases l:f<0
  ·clear h
   go_enter func137,ntmps137
   go_wp2_with fail
   refine(b.o _).mono ?_;rintro e g ⟨rfl,rfl⟩;go_wp2;go_ret;exact⟨rfl,c.o _⟩
  have i:4611686018427387904<=f:=by
   by_cases i:f<4611686018427387904
   ·exact absurd ⟨by omega,by omega,by omega,i⟩ h
   ·omega
  clear h
  go_enter func137,ntmps137
  go_wp2_with fail
  refine(b.o _).mono ?_;rintro e g ⟨rfl,rfl⟩;go_wp2;go_ret;exact⟨rfl,c.o _⟩
 have d:Hid (Zr v k f=0):=ZZ (by unfold Zr;rw[if_pos a,if_pos h])
 rw[d.o];obtain⟨j,n,p,y⟩:=h;have m:¬ k<0:=by omega
 have z:¬ 6<=k:=by omega
 have x:¬ f<0:=by omega
 have q:¬ 4611686018427387904<=f:=by omega
 clear a
 go_enter func137,ntmps137
 go_wp2_with fail
 refine(b.o _).mono ?_;rintro e g ⟨rfl,rfl⟩;go_wp2;go_ret;exact⟨rfl,c.o _⟩
theorem Zll {k:Nat} (h:k<L.length):Qf (L.take (k+1))=Qf (L.take k)++Qe (L.getD k []):=by
 rw[ZrO h,ZcC];simp[Qf]
theorem ZoV {d:List UInt8} (h:d.length<=1048576):Zgm (d.length:Int)=(Qe d).length:=by
 unfold Zgm;rw[if_pos ⟨by omega,by omega⟩,Qz,Int.toNat_natCast]
 omega
theorem Zux (v:Value) (L:List (List UInt8)) (w:World) (t:RdL w v L) (l:∀ x ∈ L,x.length<=1048576) (N:(Qf L).length<=10000000):
 Calls prog 206 #[v] w fun e w'=>e=.returned (.int .i64 ((Qf L).length:Nat))∧Below w.heap.size w w':=by
 have H:=ZZ t;obtain⟨ao,cap,rfl,M,u,-⟩:=t;have P:(L.length:Int)<=9223372036854775807:=by unfold maxLen at u;omega
 have B:=ZZ (fun k a=>H.o.at k a)
 obtain⟨Z,d⟩:∃ Z:Nat->Nat,Z=fun k=>(Qf (L.take k)).length:=⟨_,rfl⟩
 have D:Hid (Z 0=0):=ZZ (by rw[d];simp[Qf])
 have J:Hid (∀ k,k<L.length->Z (k+1)=Z k+Zgm ((L.getD k []).length:Int)):=ZZ (fun k a=>by
  rw[d];simp only
  rw[Zll a,length_append,ZoV (l _ (Zql a))])
 have K:Hid (∀ k,Z k<=10000000):=ZZ (fun k=>by
  rw[d];have:=ZeI L k;simp only
  omega)
 have C:Hid ((Qf L).length=Z L.length):=ZZ (by rw[d];simp only;rw[take_length])
 have G:Hid (∀ k,k<L.length->∀ W,Calls prog 134 #[.int .i64 ((L.getD k []).length:Int)] W fun e w'=>e=.returned (.int .i64 (Zgm ((L.getD k []).length:Int):Nat))∧Below W.heap.size W w'):=ZZ (fun k a W=>by
  have:=l _ (Zql a)
  exact Zqj _ W (by omega) (by omega))
 rw[C.o];clear d M u l N
 go_enter func206,ntmps206
 go_wp2
 go_loopw[3,8] (fun vs g wr=>∃ k:Nat,g=.int .i64 (k:Int)∧vs=.int .i64 (Z k:Int)∧k<=L.length∧Hid (Below w.heap.size w wr)) (fun _ g _=>L.length-(intOf g).toNat)
 case atStart=>exact⟨0,rfl,by rw[D.o];rfl,Nat.zero_le _,Below.refl _ _⟩
 case round=>
  obtain⟨k,rfl,rfl,a,c⟩:=hrel;by_cases j:k<L.length
  case neg=>
   have e:k=L.length:=by omega
   subst e;go_wp2;go_ret;exact⟨rfl,c.out⟩
  obtain⟨b,O,x,rfl,p,m⟩:=B.o k j;have R:=p wr c.out;have f:=ZZ (J.o k j);have E:=ZZ (G.o k j);have F:=K.o (k+1);rw[f.o] at F;obtain⟨Q,S,rfl,-⟩:=m wr c.out;obtain⟨y,i⟩:∃ y,y=Z (k+1):=⟨_,rfl⟩;rw[<-i] at f;have I:=ZZ i;generalize Z k=z at *;generalize Zgm ((L.getD k []).length:Int)=sz at *;generalize (L.getD k []).length=n at *;clear p m i
  go_wp2_with fail
  refine(E.o _).mono ?_;rintro e T ⟨rfl,q⟩;have A:=ZZ (c.out.trans (q.mono c.out.size));clear q;go_wp2;go_roundw
  case rel=>exact⟨k+1,by go_num,by rw[<-I.o,f.o];go_num,by omega,A⟩
  case measure=>simp[intOf];omega
theorem ZoW (a c b:Int) (W:World):(Instr.index 188 (.agg #[.int .i64 a,.int .i64 c,.int .i64 b]) (.int .i64 0)).run prog W=.ok (.int .i64 a) W:=by
 simp[Instr.index,run_underlying underlying188,asIntOf,go_sem]
theorem ZoX (c a b:Int) (W:World):(Instr.index 188 (.agg #[.int .i64 c,.int .i64 a,.int .i64 b]) (.int .i64 1)).run prog W=.ok (.int .i64 a) W:=by
 simp[Instr.index,run_underlying underlying188,asIntOf,go_sem]
theorem ZoY (c b a:Int) (W:World):(Instr.index 188 (.agg #[.int .i64 c,.int .i64 b,.int .i64 a]) (.int .i64 2)).run prog W=.ok (.int .i64 a) W:=by
 simp[Instr.index,run_underlying underlying188,asIntOf,go_sem]
theorem ZmY (v k f:Int) (Z:1<=v∧v<=3) (h:Zgb k f) (w:World):
 Calls prog 138 #[.agg #[.int .i64 v,.int .i64 k,.int .i64 f]] w fun e w'=>∃ v',e=.returned v'∧Own w' w.heap.size v' (X6 v.toNat k.toNat f.toNat)∧Below w.heap.size w w':=by
 obtain⟨L,k1,Q,U⟩:=h
 have t:Hid (∀ c l n W,Rd W c l->l.length<=1000->0<=n->n<4611686018427387904->Calls prog 132 #[c,.int .i64 n] W fun e w'=>∃ v',e=.returned v'∧Own w' W.heap.size v' (l++Lib.uvarint n.toNat)∧Below W.heap.size W w'):=fun c l n W h hl K R=>by
  have h:=ZbA c l n W h (by omega)
  rw[Z7 K R] at h;exact h
 have V:(Lib.uvarint v.toNat).length<=10:=Ji (by omega)
 have O:(Lib.uvarint k.toNat).length<=10:=Ji (by omega)
 have E:Hid (X6 v.toNat k.toNat f.toNat=(([108]++Lib.uvarint v.toNat)++Lib.uvarint k.toNat)++Lib.uvarint f.toNat):=ZZ (by unfold X6;simp)
 have H:=ZZ (fun c W h=>t.o c [108] v W h (by simp) (by omega) (by omega))
 have I:=ZZ (fun c W h=>t.o c ([108]++Lib.uvarint v.toNat) k W h (by simp only [length_append,List.length_singleton];omega) L (by omega))
 have B:=ZZ (fun c W h=>t.o c (([108]++Lib.uvarint v.toNat)++Lib.uvarint k.toNat) f W h (by simp only [length_append,List.length_singleton];omega) Q U)
 rw[<-E.o] at B;clear E t;obtain⟨d,m⟩:∃ d:Nat->List UInt8,d=fun q=>if q=0 then[108] else if q=1 then[108]++Lib.uvarint v.toNat else if q=2 then[108]++Lib.uvarint v.toNat++Lib.uvarint k.toNat else X6 v.toNat k.toNat f.toNat:=⟨_,rfl⟩
 have A:[108]=d 0:=by rw[m];rfl
 have x:[108]++Lib.uvarint v.toNat=d 1:=by rw[m];rfl
 have z:[108]++Lib.uvarint v.toNat++Lib.uvarint k.toNat=d 2:=by rw[m];rfl
 have u:X6 v.toNat k.toNat f.toNat=d 3:=by rw[m];rfl
 have P:Hid (∀ W:World,Rd (W.alloc (.cells #[.int .u8 108] 5)) (.slice (some ⟨W.heap.size,0,none⟩) 1 1) (d 0)):=ZZ (fun W=>by rw[<-A];exact Rd.byte W 108)
 rw[z,u] at B;rw[z,x] at I;rw[x,A] at H;rw[u];clear A x z u m V O;have T:Hid (∀ X Y,Below w.heap.size w ((w.alloc X).alloc Y)):=fun X Y=>Below.allocs (Below.allocs (Below.refl _ _) X) Y
 go_enter func138,ntmps138
 go_wp2
 go_loopw[3,8] (fun D y wr=>∃ q:Nat,y=.int .i64 (q:Int)∧q<=3∧Hid (Rd wr D (d q))∧Hid (1<=q->Own wr w.heap.size D (d q))∧Hid (Below w.heap.size w wr)) (fun _ y _=>3-(intOf y).toNat)
 case atStart=>
  refine⟨0,rfl,Nat.zero_le _,?_,fun h=>absurd h (by decide),T.o _ _⟩
  have h:=P.o (w.alloc (.cells #[.int .i64 v,.int .i64 k,.int .i64 f] 188));have e:(w.alloc (.cells #[.int .i64 v,.int .i64 k,.int .i64 f] 188)).heap.size=w.heap.size+1:=by simp
  rw[e] at h;exact h
 case round=>
  obtain⟨q,rfl,hq,C,S,b⟩:=hrel;by_cases aa:q<3
  case neg=>
   have e:q=3:=by omega
   subst e;have M:=ZZ (S.out (by decide))
   go_wp2;go_ret;exact⟨_,rfl,M.o,b.out⟩
  have N:q=0∨q=1∨q=2:=by omega
  rcases N with rfl | rfl | rfl
  ·have F:=ZoW v k f
   go_wp2_with fail
   refine(H.o _ _ C.out).mono ?_;rintro e J ⟨G,rfl,a,g⟩;have j:=ZZ a.rd;have p:=ZZ (a.mono b.out.size);have i:=ZZ (b.out.trans (g.mono b.out.size));clear a g;go_wp2;go_roundw
   case rel=>exact⟨1,rfl,by omega,j,ZZ (fun _=>p.o),i⟩
   case measure=>simp[intOf]
  ·have F:=ZoX v k f
   go_wp2_with fail
   refine(I.o _ _ C.out).mono ?_;rintro e J ⟨G,rfl,a,g⟩;have j:=ZZ a.rd;have p:=ZZ (a.mono b.out.size);have i:=ZZ (b.out.trans (g.mono b.out.size));clear a g;go_wp2;go_roundw
   case rel=>exact⟨2,rfl,by omega,j,ZZ (fun _=>p.o),i⟩
   case measure=>simp[intOf]
  ·have F:=ZoY v k f
   go_wp2_with fail
   refine(B.o _ _ C.out).mono ?_;rintro e J ⟨G,rfl,a,g⟩;have j:=ZZ a.rd;have p:=ZZ (a.mono b.out.size);have i:=ZZ (b.out.trans (g.mono b.out.size));clear a g;go_wp2;go_roundw
   case rel=>exact⟨3,rfl,by omega,j,ZZ (fun _=>p.o),i⟩
   case measure=>simp[intOf]
theorem ZmZ (v k f:Int) (w:World):
 Calls prog 93 #[.int .i64 v,.int .i64 k,.int .i64 f] w fun e w'=>Zqk w v k f e w':=by
 unfold Zqk;have l:Hid (∀ X,Below w.heap.size w (w.alloc X)):=fun X=>(Below.refl _ _).alloc zL X
 have E:Hid (∀ cs,(w.alloc (.cells cs 188)).heap[w.heap.size]?=some (.cells cs 188 (0,0))):=fun cs=>heap_alloc_new w _
 have j:=ZZ (fun W=>ZmX v k f W)
 by_cases p:(1<=v∧v<=3)∧Zgb k f
 case neg=>
  have b:Zr v k f≠0∧Zgr v k f=[]:=by
   unfold Zr Zgr;by_cases a:1<=v∧v<=3
   ·rw[if_pos a,if_pos a,if_neg (fun h=>p ⟨a,h⟩),if_neg (fun h=>p ⟨a,h⟩)]
    exact⟨by decide,rfl⟩
   ·rw[if_neg a,if_neg a]
    exact⟨by decide,rfl⟩
  obtain⟨b,g⟩:=b;rw[g];generalize Zr v k f=J at *;have N:(J != 0)=true:=by rw[bne_iff_ne];exact b
  clear p b g
  go_enter func93,ntmps93
  go_wp2_with fail
  refine(j.o _).mono ?_;rintro e n ⟨rfl,c⟩;have i:=ZZ ((l.o _).trans (c.mono (l.o _).size));clear c;go_wp2;go_ret2;exact⟨_,rfl,Own.nil _ _,i.o⟩
 obtain⟨a,d⟩:=p;have B:=ZZ (fun W=>ZmY v k f a d W)
 have b:Zr v k f=0:=by unfold Zr;rw[if_pos a,if_pos d]
 have g:Zgr v k f=Qe (X6 v.toNat k.toNat f.toNat):=by unfold Zgr;rw[if_pos a,if_pos d]
 have Q:(X6 v.toNat k.toNat f.toNat).length<=40:=ZeF (by omega) (by have:=d.2.1;omega) (by have:=d.2.2.2;omega)
 have x:=ZZ (fun A W (h:Rd W A (X6 v.toNat k.toNat f.toNat))=>Zdg A _ W h)
 rw[Zlk (by omega)] at x
 rw[b] at j ⊢;rw[g];generalize X6 v.toNat k.toNat f.toNat=H at *;generalize Qe H=F at *;clear a d b g
 go_enter func93,ntmps93
 go_wp2_with fail
 refine(j.o _).mono ?_;rintro e n ⟨rfl,c⟩;have m:=ZZ ((c.block _ (by simp)).trans (E.out _))
 have i:=ZZ ((l.o _).trans (c.mono (l.o _).size));clear c j;have I:n.cell? ⟨w.heap.size,0,none⟩=some (.int .i64 v):=cell_of_row _ _ 0 _ _ _ m.o;have L:n.cell? ⟨w.heap.size,1,none⟩=some (.int .i64 k):=cell_of_row _ _ 1 _ _ _ m.o;have G:n.cell? ⟨w.heap.size,2,none⟩=some (.int .i64 f):=cell_of_row _ _ 2 _ _ _ m.o
 go_wp2_with fail
 refine(B.o _).mono ?_;rintro e R ⟨P,rfl,t,u⟩;have C:=ZZ t.rd;have q:=ZZ (i.o.trans (u.mono i.o.size));clear t u I L G m
 go_wp2_with fail
 refine(x.o _ _ C.o).mono ?_;rintro e O ⟨M,rfl,y,z⟩;have D:=ZZ (y.mono q.o.size);have K:=ZZ (q.o.trans (z.mono q.o.size));clear y z;go_wp2;go_ret2;exact⟨_,rfl,D.o,K.o⟩
def Bhd (w:World) (b:Nat) (x y z:Int):Prop:=w.heap[b]?=some (.cells #[.int .i64 x,.int .i64 y,.int .i64 z] 188 (0,0))
theorem Bhd.lt (h:Bhd w b x y z):b<w.heap.size:=(Array.getElem?_eq_some_iff.1 h).1
theorem Bhd.below (h:Bhd w b x y z) (a:Below B w w') (c:b<B):Bhd w' b x y z:=(a.block b c).trans h
theorem Bhd.cell (h:Bhd w b x y z):(w.cell? ⟨b,0,none⟩=some (.int .i64 x)∧w.cell? ⟨b,1,none⟩=some (.int .i64 y)∧w.cell? ⟨b,2,none⟩=some (.int .i64 z))∧∀ j,w.frozen? ⟨b,j,none⟩=false:=
 ⟨⟨cell_of_row w b 0 _ _ _ h,cell_of_row w b 1 _ _ _ h,cell_of_row w b 2 _ _ _ h⟩,fun j=>frozen_of_row w b j _ _ h⟩
theorem Bhd.set0 (h:Bhd w b x y z) (n:Int):Bhd (w.setCell ⟨b,0,none⟩ (.int .i64 n)) b n y z:=by
 have a:=heap_setCell_same w b 0 _ _ (.int .i64 n) h;unfold Bhd;simpa using a
theorem Bhd.set1 (h:Bhd w b x y z) (n:Int):Bhd (w.setCell ⟨b,1,none⟩ (.int .i64 n)) b x n z:=by
 have a:=heap_setCell_same w b 1 _ _ (.int .i64 n) h;unfold Bhd;simpa using a
theorem Bhd.set2 (h:Bhd w b x y z) (n:Int):Bhd (w.setCell ⟨b,2,none⟩ (.int .i64 n)) b x y n:=by
 have a:=heap_setCell_same w b 2 _ _ (.int .i64 n) h;unfold Bhd;simpa using a
theorem Bhd.other {c:Nat} (h:Bhd w b x y z) (a:b≠c) (j:Nat) (u:Value):Bhd (w.setCell ⟨c,j,none⟩ u) b x y z:=(Below.heap_setCell _ _ _ _ a).trans h
def ZyB:Except Int (Nat × Nat × Nat)->Int
 | .error e=>e
 | .ok _=>0
def ZaK (w:World) (d:List UInt8) (e:Ending) (w':World):Prop:=
 ∃ x y z:Int,e=.returned (.tuple #[.agg #[.int .i64 x,.int .i64 y,.int .i64 z],.int .i64 (ZyB (Za d))])∧(∀ v k f,Za d=.ok (v,k,f)->x=(v:Int)∧y=(k:Int)∧z=(f:Int))∧Below w.heap.size w w'
theorem ZaK.form {d:List UInt8} (h:Za d=.error 3) (b:Below w.heap.size w w'):ZaK w d (.returned (.tuple #[.agg #[.int .i64 0,.int .i64 0,.int .i64 0],.int .i64 3])) w':=
 ⟨0,0,0,by rw[h];rfl,(fun v k f a=>by rw[h] at a;cases a),b⟩
theorem Zlm (v:Value) (d:List UInt8) (w:World) (hr:Rd w v d):
 Calls prog 203 #[v] w fun e w'=>ZaK w d e w':=by
 have HR:=ZZ hr;obtain⟨ao,cap,rfl,aZ,aM,-,aV⟩:=hr;have ba:(d.length:Int)<=9223372036854775807:=by unfold maxLen at aM;omega
 have aB:Hid (∀ X,Below w.heap.size w (w.alloc X)):=fun X=>(Below.refl _ _).alloc zL X
 by_cases h0:d.length=0
 ·have e:d=[]:=List.eq_nil_of_length_eq_zero h0
  have u:Hid (Za d=.error 3):=ZZ (ZjY (.inl e));have a6:((d.length:Int) == 0)=true:=by rw[beq_iff_eq];omega
  clear e h0 aV
  go_enter func203,ntmps203
  go_wp2;refine bodyPost_ret (v:=.tuple #[.agg #[.int .i64 0,.int .i64 0,.int .i64 0],.int .i64 3]) (by simp[results,Tryz.results203,go_sem]) rfl ?_
  exact ZaK.form u.o (aB.o _)
 have a6:((d.length:Int) == 0)=false:=beq_eq_false_iff_ne.2 (by omega)
 have bi:(0:Int)<(d.length:Int):=by omega
 have aq:d≠[]:=fun e=>by rw[e] at h0;simp at h0
 rcases aV with he | ⟨b,an,rfl,hc⟩
 ·exact absurd he aq
 have aA:=hc 0 (by omega)
 have a9:b<w.heap.size:=World.block_lt_of_cell? w ⟨b,an+0,none⟩ aA;have a7:∀ X,(w.alloc X).cell? ⟨b,an,none⟩=some (.int .u8 ((d.getD 0 0).toNat:Nat)):=fun X=>((aB.o X).cell (p:=⟨b,an,none⟩) a9).trans aA
 clear hc aA aZ aM;by_cases hm:d.getD 0 0=108
 case neg=>
  have u:Hid (Za d=.error 3):=ZZ (ZjY (.inr hm))
  have aY:((((d.getD 0 0).toNat:Nat):Int) != 108)=true:=by
   rw[bne_iff_ne];intro h;apply hm;apply UInt8.toNat_inj.1;have:(108:UInt8).toNat=108:=rfl;omega
  clear hm aq h0;generalize (((d.getD 0 0).toNat:Nat):Int)=c0 at *
  go_enter func203,ntmps203
  go_wp2;refine bodyPost_ret (v:=.tuple #[.agg #[.int .i64 0,.int .i64 0,.int .i64 0],.int .i64 3]) (by simp[results,Tryz.results203,go_sem]) rfl ?_
  exact ZaK.form u.o (aB.o _)
 have aY:((((d.getD 0 0).toNat:Nat):Int) != 108)=false:=by
  rw[hm];rfl
 have aD:¬ (d=[]∨d.getD 0 0≠108):=by rintro(h | h);exact aq h;exact h hm
 generalize (((d.getD 0 0).toNat:Nat):Int)=c0 at *;obtain⟨a1,c1,aN,aP⟩:=ZwZ w _ d cap HR.o 1 (by omega)
 obtain⟨⟨D,g⟩,av⟩:∃ x,Qb (d.drop 1)=x:=⟨_,rfl⟩;obtain⟨⟨G,m⟩,au⟩:∃ x,Qb (d.drop (1+g))=x:=⟨_,rfl⟩;obtain⟨⟨I,F⟩,ad⟩:∃ x,Qb (d.drop (1+g+m))=x:=⟨_,rfl⟩;have al:=Z3 (d.drop 1);have aw:=Z3 (d.drop (1+g));have ap:=Z3 (d.drop (1+g+m));have q2:=Zwp (d.drop (1+g+m));rw[av,length_drop] at al;rw[au,length_drop] at aw;rw[ad,length_drop] at ap;rw[ad] at q2;simp only at al aw ap q2;have u:=ZZ (ZrQ aD av au ad)
 have aU:=aP 1 rfl
 -- the three rounds
 have aS:=ZZ aN;have HF:=ZZ (fun W=>ZmX (D:Int) (G:Int) (I:Int) W)
 have X1:Hid (∀ x y z Y,Bhd ((w.alloc (.cells #[.int .i64 x,.int .i64 y,.int .i64 z] 188)).alloc Y) w.heap.size x y z):=fun x y z Y=>(Below.heap_alloc _ _ _ (by simp)).trans (heap_alloc_new w _)
 have X2:Hid (∀ X x y z,Bhd ((w.alloc X).alloc (.cells #[.int .i64 x,.int .i64 y,.int .i64 z] 188)) (w.heap.size+1) x y z):=fun X x y z=>Zop w X _
 have ab:Hid (∀ X Y,Below w.heap.size w ((w.alloc X).alloc Y)):=fun X Y=>Below.allocs (Below.allocs (Below.refl _ _) X) Y
 clear aN aP hm aq h0;obtain⟨l,aj⟩:∃ l:Nat->Nat,l=fun q=>if q=0 then 1 else if q=1 then 1+g else if q=2 then 1+g+m else 1+g+m+F:=⟨_,rfl⟩
 have p0:l 0=1:=by rw[aj];rfl
 have p1:l 1=1+g:=by rw[aj];rfl
 have p2:l 2=1+g+m:=by rw[aj];rfl
 have p3:l 3=1+g+m+F:=by rw[aj];rfl
 have B:Hid (l 0=1∧l 1=1+g∧l 2=1+g+m∧l 3=1+g+m+F):=ZZ ⟨p0,p1,p2,p3⟩;obtain⟨t,aT⟩:∃ t:Nat->Nat,t=fun q=>(d.drop (l q)).length:=⟨_,rfl⟩
 have U:Hid (∀ q,t q=(d.drop (l q)).length):=ZZ (fun q=>by rw[aT])
 have aK:Hid (Rd w (.slice a1 (t 0) c1) (d.drop (l 0))):=ZZ (by rw[U.o,p0];exact aS.o)
 have a3:∀ W,(Instr.sliceAt 53 (.slice (some ⟨b,an,none⟩) d.length cap) (some (.int .i64 1)) none none).run prog W=.ok (.slice a1 (t 0) c1) W:=by rw[U.o,p0];exact aU
 have aC:Hid (∀ (a:Option Addr) (c q k:Nat),l (q+1)=l q+k->l q+k<=d.length->Rd w (.slice a (t q) c) (d.drop (l q))->∃ a' c',Rd w (.slice a' (t (q+1)) c') (d.drop (l (q+1)))∧∀ i:Int,i=(k:Int)->∀ W,(Instr.sliceAt 53 (.slice a (t q) c) (some (.int .i64 i)) none none).run prog W=.ok (.slice a' (t (q+1)) c') W):=ZZ (fun a c q k hp A aG=>by
  rw[U.o q] at aG;obtain⟨a',c',h1,h2⟩:=ZwZ w a (d.drop (l q)) c aG k (by rw[length_drop];omega)
  rw[List.drop_drop,<-hp,<-U.o (q+1)] at h1;rw[List.drop_drop,<-hp,<-U.o q,<-U.o (q+1)] at h2
  exact⟨a',c',h1,h2⟩)
 have HG:Hid (∀ W a c q n k,Below w.heap.size w W->Rd w (.slice a (t q) c) (d.drop (l q))->Qb (d.drop (l q))=(n,k)->Calls prog 168 #[.slice a (t q) c] W fun e w'=>e=.returned (.tuple #[.int .i64 (n:Int),.int .i64 (k:Int)])∧w'=W):=ZZ (fun W a c q n k hb h hd=>by
  have hx:=ZcI _ _ W (h.below hb zL);rw[hd] at hx
  exact hx)
 have HD:Hid (Qb (d.drop 1)=(D,g)∧Qb (d.drop (1+g))=(G,m)∧Qb (d.drop (1+g+m))=(I,F)):=ZZ ⟨av,au,ad⟩;have S:Hid (g<=d.length-1∧m<=d.length-(1+g)∧F<=d.length-(1+g+m)):=ZZ ⟨al,aw,ap⟩;clear aj aT p0 p1 p2 p3 aS aU av au ad al aw ap aD
 go_enter func203,ntmps203
 go_wp2
 go_loopw[5,21] (fun vl vi wr=>∃ (q:Nat) (a:Option Addr) (c:Nat) (x y z:Int),vi=.int .i64 (q:Int)∧vl=.slice a (t q) c∧q<=3∧Hid (Rd w (.slice a (t q) c) (d.drop (l q)))∧Hid (Bhd wr (w.heap.size+1) x y z)∧Hid (Bhd wr w.heap.size 0 0 0)∧Hid ((1<=q->x=(D:Int)∧g≠0)∧(2<=q->y=(G:Int)∧m≠0)∧(3<=q->z=(I:Int)∧F≠0))∧Hid (Below w.heap.size w wr)) (fun _ vi _=>3-(intOf vi).toNat)
 case atStart=>exact⟨0,a1,c1,0,0,0,rfl,rfl,Nat.zero_le _,aK,ZZ (X2.out _ _ _ _),ZZ (X1.out _ _ _ _),ZZ ⟨fun h=>absurd h (by decide),fun h=>absurd h (by decide),fun h=>absurd h (by decide)⟩,ZZ (ab.o _ _)⟩
 case round=>
  obtain⟨q,a,c,x,y,z,rfl,rfl,hq,aa,H,J,hI,E⟩:=hrel;clear aK a3 a7;by_cases bb:q<3
  case neg=>
   have e:q=3:=by omega
   subst e;have h1:=hI.out.1 (by decide)
   have h2:=hI.out.2.1 (by decide)
   have h3:=hI.out.2.2 (by decide)
   obtain⟨rfl,aQ⟩:=h1;obtain⟨rfl,aW⟩:=h2;obtain⟨rfl,aR⟩:=h3;by_cases az:1+g+m+F=d.length
   case neg=>
    have P:Hid (Za d=.error 3):=ZZ (by rw[u.o,if_pos (.inr (.inr (.inr az)))])
    have am:t 3≠0:=by
     rw[U.o,B.o.2.2.2,length_drop];have:=S.o;omega
    have bj:(0:Int)<(t 3:Int):=by omega
    have a8:0<t 3:=by omega
    have be:decide (0<t 3)=true:=decide_eq_true a8;generalize t 3=ln at *;obtain⟨⟨V,Z,r2⟩,j⟩:=J.out.cell;have f0:=j 0;have f1:=j 1;have f2:=j 2;clear j am aQ aW aR az u;go_wp2;refine bodyPost_ret (v:=.tuple #[.agg #[.int .i64 0,.int .i64 0,.int .i64 0],.int .i64 3]) (by simp[results,Tryz.results203,go_sem,V,Z,r2]) rfl ?_
    exact ZaK.form P.o (Zd E.out _ zL _ _ _)
   have am:t 3=0:=by
    rw[U.o,B.o.2.2.2,length_drop];omega
   have aH:Hid (Zr (D:Int) (G:Int) (I:Int)=ZyB (Za d)):=ZZ (by
    rw[u.o,if_neg (by omega)]
    unfold Zr;by_cases g1:D<1∨3<D
    ·rw[if_neg (by omega),if_pos g1];rfl
    ·rw[if_pos (by omega),if_neg g1]
     by_cases g2:6<=G
     ·rw[if_pos g2,if_neg (fun h=>by have:=h.2.1;omega)];rfl
     ·rw[if_neg g2,if_pos ⟨by omega,by omega,by omega,by omega⟩];rfl)
   have a4:Hid (∀ v k f,Za d=.ok (v,k,f)->(D:Int)=(v:Int)∧(G:Int)=(k:Int)∧(I:Int)=(f:Int)):=ZZ (fun v k f O=>by
    rw[u.o] at O;split at O
    ·cases O
    split at O
    ·cases O
    split at O
    ·cases O
    simp only [Except.ok.injEq,Prod.mk.injEq] at O;obtain⟨rfl,rfl,rfl⟩:=O
    exact⟨rfl,rfl,rfl⟩)
   rw[aH.o] at HF;rw[am] at aa ⊢;obtain⟨er,ay⟩:∃ er,er=ZyB (Za d):=⟨_,rfl⟩;rw[<-ay] at HF;have a2:=ZZ ay;clear ay;obtain⟨⟨V,Z,r2⟩,j⟩:=J.out.cell;have f0:=j 0;have f1:=j 1;have f2:=j 2;obtain⟨⟨g0,g1,g2⟩,-⟩:=H.out.cell;have aO:Hid (∀ W,Below wr.heap.size wr W->W.cell? ⟨w.heap.size+1,0,none⟩=some (.int .i64 (D:Int))∧W.cell? ⟨w.heap.size+1,1,none⟩=some (.int .i64 (G:Int))∧W.cell? ⟨w.heap.size+1,2,none⟩=some (.int .i64 (I:Int))):=ZZ (fun W hb=>(H.out.below hb H.out.lt).cell.1)
   have aJ:Hid (Below wr.heap.size wr wr.drew):=ZZ ((Below.refl _ _).drew);have a5:=ZZ (aO.o _ aJ.o);generalize (D:Int)=L at *;generalize (G:Int)=M at *;generalize (I:Int)=K at *;clear j aQ aW aR az u aH S HD hI am B;have bd:w.heap.size≠w.heap.size+1:=by omega
   have aL:Hid (Bhd (((wr.setCell ⟨w.heap.size,0,none⟩ (.int .i64 L)).setCell ⟨w.heap.size,1,none⟩ (.int .i64 M)).setCell ⟨w.heap.size,2,none⟩ (.int .i64 K)) w.heap.size L M K):=ZZ (((J.out.set0 L).set1 M).set2 K);have ax:Hid (Bhd (((wr.setCell ⟨w.heap.size,0,none⟩ (.int .i64 L)).setCell ⟨w.heap.size,1,none⟩ (.int .i64 M)).setCell ⟨w.heap.size,2,none⟩ (.int .i64 K)) (w.heap.size+1) L M K):=ZZ (((H.out.other (by omega) 0 _).other (by omega) 1 _).other (by omega) 2 _)
   have aI:Hid (Below w.heap.size w (((wr.setCell ⟨w.heap.size,0,none⟩ (.int .i64 L)).setCell ⟨w.heap.size,1,none⟩ (.int .i64 M)).setCell ⟨w.heap.size,2,none⟩ (.int .i64 K)).drew):=ZZ (Zd E.out _ zL _ _ _).drew
   go_upto_region 15 with fail
   go_region_held2(fun w'=>w'.cell? ⟨w.heap.size+1,0,none⟩=some (.int .i64 L)∧w'.cell? ⟨w.heap.size+1,1,none⟩=some (.int .i64 M)∧w'.cell? ⟨w.heap.size+1,2,none⟩=some (.int .i64 K)) (first | exact a5.o | exact a0.o | exact aX.o | exact ax.o.cell.1 | go_keep)
    (first
     | (go_at_call 137;refine(HF.o wr.drew).mono ?_;rintro e N ⟨rfl,aF⟩;have ab:=ZZ (aJ.o.trans aF);have a0:=ZZ (aO.o N ab.o);have aE:=ZZ (E.out.trans (ab.o.mono E.out.size));obtain⟨⟨s0,s1,s2⟩,sf⟩:=(J.out.below ab.o J.out.lt).cell;have bc:=sf 0;have bg:=sf 1;have bf:=sf 2;obtain⟨⟨t0,t1,t2⟩,-⟩:=(H.out.below ab.o H.out.lt).cell;clear aF sf)
     | (go_at_call 137;refine(HF.o (((wr.setCell ⟨w.heap.size,0,none⟩ (.int .i64 L)).setCell ⟨w.heap.size,1,none⟩ (.int .i64 M)).setCell ⟨w.heap.size,2,none⟩ (.int .i64 K)).drew).mono ?_;rintro e W3 ⟨rfl,ar⟩;have aX:=ZZ (ax.o.below ar ax.o.lt).cell.1;have P:=ZZ (aI.o.trans (ar.mono aI.o.size));obtain⟨⟨s0,s1,s2⟩,-⟩:=(aL.o.below ar aL.o.lt).cell;clear ar))
   all_goals
    go_wp2;refine bodyPost_ret (v:=.tuple #[.agg #[.int .i64 L,.int .i64 M,.int .i64 K],.int .i64 er]) (by simp[results,Tryz.results203,go_sem,s0,s1,s2]) rfl ⟨L,M,K,by rw[a2.o],a4.o,?_⟩
    first
    | exact P.o
    | exact(Zd aE.o _ zL _ _ _)
    | exact(Zd aE.o _ zL _ _ _).drew
  have h3:q=0∨q=1∨q=2:=by omega
  rcases h3 with rfl | rfl | rfl
  ·have R:=ZZ (HG.o wr a c 0 D g E.out aa.out (by rw[B.o.1];exact HD.o.1))
   by_cases A:g=0
   ·have P:Hid (Za d=.error 3):=ZZ (by rw[u.o,if_pos (.inl A)])
    have ae:((g:Int) == 0)=true:=by rw[beq_iff_eq];omega
    obtain⟨⟨V,Z,r2⟩,j⟩:=J.out.cell;have f0:=j 0;have f1:=j 1;have f2:=j 2;clear j A u S
    go_wp2_with fail
    refine R.o.mono ?_;rintro e N ⟨rfl,C⟩;rw[C];go_wp2;refine bodyPost_ret (v:=.tuple #[.agg #[.int .i64 0,.int .i64 0,.int .i64 0],.int .i64 3]) (by simp[results,Tryz.results203,go_sem,V,Z,r2]) rfl ?_
    exact ZaK.form P.o (Zd E.out _ zL _ _ _)
   have ae:((g:Int) == 0)=false:=beq_eq_false_iff_ne.2 (by omega)
   have ac:=ZZ A;obtain⟨a',c',Q,hcut⟩:=aC.o a c 0 g (by rw[B.o.2.1,B.o.1]) (by rw[B.o.1];have:=S.o;omega) aa.out
   have kc:=hcut (g:Int) rfl;have af:=ZZ Q;obtain⟨⟨g0,g1,g2⟩,T⟩:=H.out.cell;have fq:=T 0;have ai:=ZZ (H.out.set0 (D:Int));have ag:=ZZ (J.out.other (show w.heap.size≠w.heap.size+1 by omega) 0 (.int .i64 (D:Int)))
   have ak:=ZZ (E.out.setCell (p:=⟨w.heap.size+1,0,none⟩) (show w.heap.size<=w.heap.size+1 by omega) (.int .i64 (D:Int)))
   clear A hcut Q T
   go_wp2_with fail
   refine R.o.mono ?_;rintro e N ⟨rfl,C⟩;rw[C];clear C N;go_wp2
   go_region
   all_goals
    go_wp2;go_roundw
    case rel=>exact⟨1,a',c',(D:Int),y,z,rfl,rfl,by omega,af,ai,ag,ZZ ⟨fun _=>⟨rfl,ac.o⟩,fun h=>absurd h (by decide),fun h=>absurd h (by decide)⟩,ZZ ak.o.drew⟩
    case measure=>simp[intOf]
  ·have R:=ZZ (HG.o wr a c 1 G m E.out aa.out (by rw[B.o.2.1];exact HD.o.2.1))
   by_cases A:m=0
   ·have P:Hid (Za d=.error 3):=ZZ (by rw[u.o,if_pos (.inr (.inl A))])
    have ae:((m:Int) == 0)=true:=by rw[beq_iff_eq];omega
    obtain⟨⟨V,Z,r2⟩,j⟩:=J.out.cell;have f0:=j 0;have f1:=j 1;have f2:=j 2;clear j A u S
    go_wp2_with fail
    refine R.o.mono ?_;rintro e N ⟨rfl,C⟩;rw[C];go_wp2;refine bodyPost_ret (v:=.tuple #[.agg #[.int .i64 0,.int .i64 0,.int .i64 0],.int .i64 3]) (by simp[results,Tryz.results203,go_sem,V,Z,r2]) rfl ?_
    exact ZaK.form P.o (Zd E.out _ zL _ _ _)
   have ae:((m:Int) == 0)=false:=beq_eq_false_iff_ne.2 (by omega)
   have ac:=ZZ A;obtain⟨a',c',Q,hcut⟩:=aC.o a c 1 m (by rw[B.o.2.2.1,B.o.2.1]) (by rw[B.o.2.1];have:=S.o;omega) aa.out
   have kc:=hcut (m:Int) rfl;have af:=ZZ Q;obtain⟨⟨g0,g1,g2⟩,T⟩:=H.out.cell;have fq:=T 1;have ai:=ZZ (H.out.set1 (G:Int));have ag:=ZZ (J.out.other (show w.heap.size≠w.heap.size+1 by omega) 1 (.int .i64 (G:Int)))
   have ak:=ZZ (E.out.setCell (p:=⟨w.heap.size+1,1,none⟩) (show w.heap.size<=w.heap.size+1 by omega) (.int .i64 (G:Int)))
   clear A hcut Q T
   go_wp2_with fail
   refine R.o.mono ?_;rintro e N ⟨rfl,C⟩;rw[C];clear C N;go_wp2
   go_region
   all_goals
    go_wp2;go_roundw
    case rel=>exact⟨2,a',c',x,(G:Int),z,rfl,rfl,by omega,af,ai,ag,ZZ ⟨fun _=>hI.out.1 (by decide),fun _=>⟨rfl,ac.o⟩,fun h=>absurd h (by decide)⟩,ZZ ak.o.drew⟩
    case measure=>simp[intOf]
  ·have R:=ZZ (HG.o wr a c 2 I F E.out aa.out (by rw[B.o.2.2.1];exact HD.o.2.2))
   by_cases A:F=0
   ·have P:Hid (Za d=.error 3):=ZZ (by rw[u.o,if_pos (.inr (.inr (.inl A)))])
    have ae:((F:Int) == 0)=true:=by rw[beq_iff_eq];omega
    obtain⟨⟨V,Z,r2⟩,j⟩:=J.out.cell;have f0:=j 0;have f1:=j 1;have f2:=j 2;clear j A u S
    go_wp2_with fail
    refine R.o.mono ?_;rintro e N ⟨rfl,C⟩;rw[C];go_wp2;refine bodyPost_ret (v:=.tuple #[.agg #[.int .i64 0,.int .i64 0,.int .i64 0],.int .i64 3]) (by simp[results,Tryz.results203,go_sem,V,Z,r2]) rfl ?_
    exact ZaK.form P.o (Zd E.out _ zL _ _ _)
   have ae:((F:Int) == 0)=false:=beq_eq_false_iff_ne.2 (by omega)
   have ac:=ZZ A;obtain⟨a',c',Q,hcut⟩:=aC.o a c 2 F (by rw[B.o.2.2.2,B.o.2.2.1]) (by rw[B.o.2.2.1];have:=S.o;omega) aa.out
   have kc:=hcut (F:Int) rfl;have af:=ZZ Q;obtain⟨⟨g0,g1,g2⟩,T⟩:=H.out.cell;have fq:=T 2;have ai:=ZZ (H.out.set2 (I:Int));have ag:=ZZ (J.out.other (show w.heap.size≠w.heap.size+1 by omega) 2 (.int .i64 (I:Int)))
   have ak:=ZZ (E.out.setCell (p:=⟨w.heap.size+1,2,none⟩) (show w.heap.size<=w.heap.size+1 by omega) (.int .i64 (I:Int)))
   clear A hcut Q T
   go_wp2_with fail
   refine R.o.mono ?_;rintro e N ⟨rfl,C⟩;rw[C];clear C N;go_wp2
   go_region
   all_goals
    go_wp2;go_roundw
    case rel=>exact⟨3,a',c',x,y,(I:Int),rfl,rfl,by omega,af,ai,ag,ZZ ⟨fun _=>hI.out.1 (by decide),fun _=>hI.out.2.1 (by decide),fun _=>⟨rfl,ac.o⟩⟩,ZZ ak.o.drew⟩
    case measure=>simp[intOf]
theorem ZoZ (v k f:Int) (a:Option Addr) (n c:Nat) (w:World):
 Calls prog 205 #[.agg #[.int .i64 v,.int .i64 k,.int .i64 f],.slice a n c] w fun e w'=>e=.returned (.agg #[.int .i64 k,.int .i64 f,.slice a n c])∧Below w.heap.size w w':=by
 have b:Hid (∀ X Y,Below w.heap.size w ((w.alloc X).alloc Y)):=fun X Y=>Below.allocs (Below.allocs (Below.refl _ _) X) Y
 go_enter func205,ntmps205
 go_wp2;refine bodyPost_ret (v:=.agg #[.int .i64 k,.int .i64 f,.slice a n c]) (by simp[results,Tryz.results205,go_sem]) rfl ⟨rfl,?_⟩
 exact b.o _ _
def ZjZ (w:World) (v f:Nat) (B:List (List UInt8)) (e:Ending) (w':World):Prop:=
 ∃ vl,e=.returned (.tuple #[vl,.int .i64 ((Z9 v f B [] 16).2.1:Int),.int .i64 (Z9 v f B [] 16).2.2])∧Q9 w' w.heap.size vl (Z9 v f B [] 16).1∧(∀ r ∈ (Z9 v f B [] 16).1,ZcK r)∧Below w.heap.size w w'
theorem Bsg.set3 {R:Nat} {a b c:Value} (h:Bsg w R #[a,b,c]) (d f e:Value):Bsg (((w.setCell ⟨R,0,none⟩ d).setCell ⟨R,1,none⟩ f).setCell ⟨R,2,none⟩ e) R #[d,f,e]:=by
 have j:=heap_setCell_same w R 0 _ _ d h;have g:=heap_setCell_same _ R 1 _ _ f j;have i:=heap_setCell_same _ R 2 _ _ e g;unfold Bsg;simpa using i
theorem ZhL.set {C:Nat} (h:ZhL w C v L) (R i:Nat) (a:R<C) (x:Value):ZhL (w.setCell ⟨R,i,none⟩ x) C v L:=by
 obtain⟨xs,b,e⟩:=h;refine⟨xs,ownsRow_setCell_below b a x,fun j f=>?_⟩
 obtain⟨y,c,d⟩:=e j f;exact⟨y,c,ownsRow_setCell_below d a x⟩
theorem Zka (v:Value) (l:List UInt8) (w:World) (f:Rd w v l) (k:l.length<=1000000):
 Calls prog 118 #[v] w fun e w'=>∃ v',e=.returned (.tuple #[v',.int .i64 ((Qm l).2.1:Nat)])∧ZhL w' w.heap.size v' (Qm l).1∧Below w.heap.size w w':=by
 have g:=ZZ (ZmW v l w f k);clear f
 go_enter func118,ntmps118
 go_wp2_with fail
 refine g.o.mono ?_;rintro e q ⟨p,rfl,b,d⟩;have n:=ZZ b;have i:=ZZ d;clear b d g;obtain⟨m,a⟩:∃ m,m=(Qm l).2.1:=⟨_,rfl⟩;have j:=ZZ a;rw[<-a];clear a;generalize (Qm l).2.2=c at *;go_wp2;go_ret2;exact⟨_,by rw[j.o];rfl,n.o,i.o⟩
theorem Zii (v:Nat) (k f:Int) (b:Value) (w:World) (i:∃ a c,b=.slice a 0 c):
 Calls prog 204 #[.agg #[.int .i64 (v:Int),.int .i64 k,.int .i64 f],b] w fun e w'=>e=.returned (.tuple #[.slice none 0 0,.int .i64 0,.int .i64 0])∧Below w.heap.size w w':=by
 obtain⟨a,c,rfl⟩:=i;have j:Hid (∀ X,Below w.heap.size w (w.alloc X)):=fun X=>(Below.refl _ _).alloc zL X
 generalize (v:Int)=V
 go_enter func204,ntmps204
 go_wp2
 go_loopw[7,14] (fun l g wr=>l=.slice none 0 0∧g=.int .i64 0∧Hid (Below w.heap.size w wr)) (fun _ _ _=>0)
 case atStart=>exact⟨rfl,rfl,ZZ (j.o _)⟩
 case round=>
  obtain⟨rfl,rfl,d⟩:=hrel;go_wp2;refine bodyPost_ret (v:=.tuple #[.slice none 0 0,.int .i64 0,.int .i64 0]) (by simp[results,Tryz.results204,go_sem]) rfl ?_
  exact⟨rfl,d.o⟩
theorem Zjj (vb:Value) (b:List UInt8) (w:World) (hr:Rd w vb b) (bU:b.length<=100000) (bd:(Qm b).1.tail=[]):
 Calls prog 166 #[vb] w fun e w'=>ZaS w b e w':=by
 have G:Hid (∀ X,Below w.heap.size w (w.alloc X)):=fun X=>(Below.refl _ _).alloc zL X
 have X1:Hid (∀ cs,Bsg (w.alloc (.cells cs 217)) w.heap.size cs):=fun cs=>heap_alloc_new w _
 have an:=ZZ (fun X=>Zka vb b (w.alloc X) (hr.below (G.o X) zL) (by omega))
 obtain⟨ab,cb,rfl,-⟩:=hr;obtain⟨aE,aZ⟩:=ZeH b;obtain⟨aX,-⟩:=Zcm _ b zL
 have aR:(Qf (Qm b).1).length<=100000:=by
  rw[aX,List.length_take];omega
 have au:=ZZ (fun h=>ZrT (b:=b) h)
 have aH:Hid ((Qm b).1=[]->Ju b=(Zen,0,false)):=ZZ (fun h=>by unfold Ju ZvE;rw[if_pos h])
 generalize (Qm b).2.1=tk at *;generalize (Qm b).1=L at *;have bI:=ZZ bd;clear bd aX;by_cases h0:L.length=0
 ·have e:L=[]:=List.eq_nil_of_length_eq_zero h0
  have l:=ZZ (aH.o e);have bG:((L.length:Int) == 0)=true:=by rw[beq_iff_eq];omega
  clear au aH aE aZ aR h0 e
  go_enter func166,ntmps166
  go_wp2_with fail
  refine(an.o _).mono ?_;rintro e D ⟨p,rfl,P,C⟩;have J:=ZZ ((X1.out _).below C zL);have ag:=ZZ ((G.o _).trans (C.mono (G.o _).size));obtain⟨a1,Z,rfl,-⟩:=P.rd;clear C an;obtain⟨r0,f0⟩:=J.o.cell 0;obtain⟨r1,f1⟩:=J.o.cell 1;obtain⟨r2,f2⟩:=J.o.cell 2;go_wp2;refine bodyPost_ret (v:=.tuple #[.agg #[.int .i64 0,.int .i64 0,.slice none 0 0],.int .i64 0,.bool false]) (by simp[results,Tryz.results166,go_sem,r0,r1,r2]) rfl ?_
  exact ZaS.fail l.o (Zd ag.o _ zL _ _ _)
 have aV:L≠[]:=fun e=>h0 (by rw[e];rfl)
 have bG:((L.length:Int) == 0)=false:=beq_eq_false_iff_ne.2 (by omega)
 have l:=ZZ (au.o aV);have a6:L.getD 0 []=L.headD []:=by cases L <;> rfl
 have aL:Hid (∀ (v k f:Nat),1<=v->v<=3->f<4611686018427387904->∀ (vp:Value) (W:World),Below w.heap.size w W->RdL W vp L.tail->Calls prog 204 #[.agg #[.int .i64 (v:Int),.int .i64 (k:Int),.int .i64 (f:Int)],vp] W fun e w'=>ZjZ W v f L.tail e w'):=ZZ (fun v k f _ _ _ vp W _ h=>by
  rw[bI.o] at h ⊢
  refine(Zii v k f vp W (by
   obtain⟨a,c,e,-⟩:=h
   exact⟨a,c,e⟩)).mono ?_
  rintro e w' ⟨rfl,Q⟩
  exact⟨_,rfl,Q9.nil _ _,(fun r hr=>by cases hr),Q⟩)
 have bc:Hid (∀ v f,(Z9 v f L.tail [] 16).2.1+1<=L.length):=ZZ (fun v f=>by
  have:=Zih v f L.tail [] 16;rw[List.length_tail] at this
  omega)
 have aO:=ZZ (fun c p W (h:RdL W p (L.take c))=>Zux p (L.take c) W h (fun x hx=>(aE x (List.mem_of_mem_take hx)).1) (by have:=ZeI L c;omega))
 have aP:=ZZ (fun p W (h:Rd W p (L.headD []))=>Zlm p (L.headD []) W h)
 have bp:=ZZ (fun v k f a n c W=>ZoZ v k f a n c W)
 have bT:(L.length:Int)<=100000:=by omega
 have bX:(0:Int)<(L.length:Int):=by omega
 unfold ZoU at l;clear au aH aE aR aV aZ
 go_enter func166,ntmps166
 go_wp2_with fail
 refine(an.o _).mono ?_;rintro e D ⟨p,rfl,P,C⟩;have J:=ZZ ((X1.out _).below C zL);have ag:=ZZ ((G.o _).trans (C.mono (G.o _).size));have ad:=ZZ P.rd;have bS:Hid (ZhL D (w.heap.size+1) p L):=ZZ (P.mono (by simp))
 obtain⟨a1,Z,rfl,-⟩:=P.rd;obtain⟨b0,o0,x0,rfl,bj,ak⟩:=ad.o.at 0 (by omega)
 obtain⟨am,cm,aI,az⟩:=Zuw D _ L L.length Z rfl ad.o 1 (by omega)
 have be:=ZZ (fun q (hq:q<=L.length)=>ZrS D _ L L.length Z rfl ad.o q hq)
 rw[List.drop_one] at aI az;rw[a6] at ak;have km:=az 1 rfl;have a4:=ZZ aI;have aY:=bj D (Below.refl _ _);have aM:=ZZ (ak D (Below.refl _ _));obtain⟨a0,q0,bv,-⟩:=ak D (Below.refl _ _);subst bv;rw[Nat.add_zero] at aY;clear C an aI az bj ak X1 G a6 ad;generalize L.tail=B at *;generalize L.headD []=H at *;generalize bQ:H.length=hl at *;clear bQ
 go_wp2_with fail
 refine(aP.o _ _ aM.o).mono ?_;rintro e W2 ⟨x,y,z,rfl,bn,aa⟩;have aC:=ZZ bn;have av:=ZZ (J.o.below aa zL);have ax:=ZZ (ag.o.trans (aa.mono ag.o.size));have aB:=ZZ aa;clear bn aa aY aM J aP;obtain⟨d,ae⟩:∃ N,N=W2.heap.size:=⟨_,rfl⟩;obtain⟨g,aj⟩:∃ V,V=W2.alloc (.cells #[.int .i64 x,.int .i64 y,.int .i64 z] 188):=⟨_,rfl⟩;have ap:Below W2.heap.size W2 g:=by rw[aj];exact(Below.refl _ _).alloc zL _
 have I:Hid (Bhd g d x y z):=ZZ (by rw[aj,ae];exact heap_alloc_new W2 _)
 have R:=ZZ (av.o.below ap zL);have O:=ZZ (ax.o.trans (ap.mono ax.o.size));have ao:=ZZ (aB.o.trans (ap.mono aB.o.size));have bJ:w.heap.size<d:=by rw[ae];exact av.o.lt
 go_upto_region 5 with fail
 rw[<-aj,<-ae];clear aj ae ap av ax aB
 cases hrd:Za H with
 | error ex=>
  have bH:Hid (Ju b=(Zen,0,false)):=ZZ (by rw[l.o,hrd])
  have hx:=Zwr hrd;have bW:(ex != 0)=true:=by rw[bne_iff_ne];exact hx
  have Y:ZyB (Except.error ex:Except Int (Nat × Nat × Nat))=ex:=rfl;obtain⟨r0,f0⟩:=R.o.cell 0;obtain⟨r1,f1⟩:=R.o.cell 1;obtain⟨r2,f2⟩:=R.o.cell 2;rw[Y];clear Y hrd hx l aC;go_wp2;refine bodyPost_ret (v:=.tuple #[.agg #[.int .i64 0,.int .i64 0,.slice none 0 0],.int .i64 0,.bool false]) (by simp[results,Tryz.results166,go_sem,r0,r1,r2]) rfl ?_
  exact ZaS.fail bH.o (Zd O.o _ zL _ _ _)
 | ok t=>
  obtain⟨v,k,f⟩:=t;obtain⟨rfl,rfl,rfl⟩:=aC.o v k f hrd;obtain⟨-,bi,aT,bM,bg⟩:=Zck hrd;have af:=ZZ (aL.o v k f bi aT bg);have a9:=bc.o v f;rw[hrd] at l;have Y:ZyB (Except.ok (v,k,f):Except Int (Nat × Nat × Nat))=0:=rfl;rw[Y];unfold ZjZ at af;simp only at l;generalize Z9 v f B [] 16=T at *;obtain⟨aF,u,er⟩:=T;simp only at l af a9;obtain⟨q,hq⟩:∃ q,q=1+u:=⟨_,rfl⟩;obtain⟨aW,a2⟩:=be.o q (by omega)
  have kf:=a2 (1+(u:Int)) (by omega)
  have aD:=ZZ (aO.o q);have bO:Hid (∀ W:World,ZhL W (w.heap.size+1) (.slice (some ⟨b0,o0,none⟩) L.length Z) L->RdL W (.slice (some ⟨b0,o0,none⟩) q Z) (L.take q)):=ZZ (fun W h=>h.rd.front q (by omega))
  have aS:=ZZ aW;have bY:(1:Int)+(u:Int)<=100000:=by omega
  have bV:IntKind.i64.wrap (1+(u:Int))=1+(u:Int):=by rw[IntKind.wrap_i64];omega
  have bZ:(1:Int)+(u:Int)<=(L.length:Int):=by omega
  rw[<-hq] at l;obtain⟨SZ,aQ⟩:∃ SZ,SZ=(Qf (L.take q)).length:=⟨_,rfl⟩;rw[<-aQ] at l aD;generalize L.take q=PF at *;clear Y hrd aC aL bi aT bM bg aO be bc aW a2 a9 hq aQ;generalize (v:Int)=V at *;have K:Hid (w.heap.size<g.heap.size):=ZZ (Nat.lt_trans bJ I.o.lt);have aA:Hid (∀ W,Below g.heap.size g W->W.cell? ⟨d,0,none⟩=some (.int .i64 V)∧W.cell? ⟨d,1,none⟩=some (.int .i64 (k:Int))∧W.cell? ⟨d,2,none⟩=some (.int .i64 (f:Int))):=ZZ (fun W Q=>(I.o.below Q I.o.lt).cell.1)
  have ai:Hid (Below g.heap.size g g.drew):=ZZ ((Below.refl _ _).drew);have ba:=ZZ (aA.o _ ai.o);have aN:=ZZ (a4.o.below ao.o zL)
  go_upto_region 7 with fail
  go_cut[9,10,11] (fun vl vc ve wc=>∃ i nl j,vl=.slice i nl j∧vc=.int .i64 (u:Int)∧ve=.int .i64 er∧Hid (∀ r ∈ aF,ZcK r)∧Hid (Q9 wc g.heap.size (.slice i nl j) aF)∧Hid (Below g.heap.size g wc))
  case first=>
   go_region_held2(fun W=>W.cell? ⟨d,0,none⟩=some (.int .i64 V)∧W.cell? ⟨d,1,none⟩=some (.int .i64 (k:Int))∧W.cell? ⟨d,2,none⟩=some (.int .i64 (f:Int))) (first | exact ba.o | exact br.o)
    (first
     | (go_at_call 204;refine(af.o _ g.drew O.o.drew (aN.o.below ai.o zL)).mono ?_;rintro e W3 ⟨v3,rfl,aG,bf,a5⟩;have aw:Hid (Q9 W3 g.heap.size v3 aF):=ZZ aG;have ac:=ZZ bf;have m:=ZZ (ai.o.trans a5);have br:=ZZ (aA.o W3 m.o);obtain⟨a3,c3,rfl⟩:=aG.shape;clear a5 aG bf))
   all_goals
    go_wp2_with fail
    go_meet
    exact⟨_,_,_,rfl,rfl,rfl,ac,aw,m⟩
  case rest=>
   obtain⟨i,nl,j,rfl,rfl,rfl,ac,aw,m⟩:=hcut;have bR:=ZZ (R.o.below m.o zL);have aq:=ZZ (I.o.below m.o I.o.lt);have a7:=ZZ (O.o.trans (m.o.mono O.o.size));have a8:=ZZ (ao.o.trans (m.o.mono ao.o.size));have bm:Hid (∀ W,Below wc.heap.size wc W->W.cell? ⟨d,0,none⟩=some (.int .i64 V)∧W.cell? ⟨d,1,none⟩=some (.int .i64 (k:Int))∧W.cell? ⟨d,2,none⟩=some (.int .i64 (f:Int))):=ZZ (fun W Q=>(aq.o.below Q aq.o.lt).cell.1)
   have bb:Hid (Below wc.heap.size wc wc.drew):=ZZ ((Below.refl _ _).drew);have bo:=ZZ (bm.o _ bb.o);have bt:=ZZ (aS.o.below a8.o zL);have bL:=ZZ (bS.o.below a8.o zL);have E:d≠w.heap.size:=by omega
   clear R I O ao m aA ai ba aN af a4 aS
   go_upto_region 8 with fail
   go_region_held(fun W=>W.cell? ⟨d,0,none⟩=some (.int .i64 V)∧W.cell? ⟨d,1,none⟩=some (.int .i64 (k:Int))∧W.cell? ⟨d,2,none⟩=some (.int .i64 (f:Int))) (first | exact bo.o | exact bC.o | exact bF.o | exact bA.o | exact bw.o | exact bz.o)
    (first
     | (go_at_call 205;refine(bp.o _ _ _ _ _ _ wc.drew).mono ?_;rintro e W4 ⟨rfl,aU⟩;have A:=ZZ (bb.o.trans aU);have bC:=ZZ (bm.o W4 A.o);have M:=ZZ (bR.o.below A.o zL);have S:=ZZ (aq.o.below A.o aq.o.lt);have ay:=ZZ (a7.o.trans (A.o.mono a7.o.size));have bl:=ZZ (aw.o.below A.o zL);have bK:=ZZ (bt.o.below A.o zL);obtain⟨r0,f0⟩:=M.o.cell 0;obtain⟨r1,f1⟩:=M.o.cell 1;obtain⟨r2,f2⟩:=M.o.cell 2;have ar:=ZZ (((S.o.other E 0 (.int .i64 (k:Int))).other E 1 (.int .i64 (f:Int))).other E 2 (.slice i nl j));have bF:=ZZ ar.o.cell.1;have bD:=ZZ (bL.o.below A.o zL);have bE:Hid (RdL ((((W4.setCell ⟨w.heap.size,0,none⟩ (.int .i64 (k:Int))).setCell ⟨w.heap.size,1,none⟩ (.int .i64 (f:Int))).setCell ⟨w.heap.size,2,none⟩ (.slice i nl j))) _ PF):=ZZ (bO.o _ (((bD.o.set w.heap.size 0 (Nat.lt_succ_self _) (.int .i64 (k:Int))).set w.heap.size 1 (Nat.lt_succ_self _) (.int .i64 (f:Int))).set w.heap.size 2 (Nat.lt_succ_self _) (.slice i nl j)));have bq:=ZZ (M.o.set3 (.int .i64 (k:Int)) (.int .i64 (f:Int)) (.slice i nl j));have bx:=ZZ (((bl.o.set w.heap.size 0 K.o (.int .i64 (k:Int))).set w.heap.size 1 K.o (.int .i64 (f:Int))).set w.heap.size 2 K.o (.slice i nl j));have bk:=ZZ (Zd ay.o w.heap.size zL (.int .i64 (k:Int)) (.int .i64 (f:Int)) (.slice i nl j));clear aU)
     | (go_at_call 206;refine(aD.o _ W4 bK.o).mono ?_;rintro e W5 ⟨rfl,F⟩;have bA:=ZZ (S.o.below F S.o.lt).cell.1;have aK:=ZZ (M.o.below F zL);have bP:=ZZ (ay.o.trans (F.mono ay.o.size));have bu:=ZZ (bl.o.below F zL);obtain⟨s0,g0⟩:=aK.o.cell 0;obtain⟨s1,g1⟩:=aK.o.cell 1;obtain⟨s2,g2⟩:=aK.o.cell 2;have bz:=ZZ ((((S.o.below F S.o.lt).other E 0 (.int .i64 (k:Int))).other E 1 (.int .i64 (f:Int))).other E 2 (.slice i nl j)).cell.1;clear F)
     | (go_at_call 206;refine(aD.o _ (((W4.setCell ⟨w.heap.size,0,none⟩ (.int .i64 (k:Int))).setCell ⟨w.heap.size,1,none⟩ (.int .i64 (f:Int))).setCell ⟨w.heap.size,2,none⟩ (.slice i nl j)) bE.o).mono ?_;rintro e W6 ⟨rfl,U⟩;have bw:=ZZ (ar.o.below U ar.o.lt).cell.1;have aJ:=ZZ (bq.o.below U zL);have bN:=ZZ (bx.o.below U zL);have bB:=ZZ (bk.o.trans (U.mono bk.o.size));obtain⟨s0,g0⟩:=aJ.o.cell 0;obtain⟨s1,g1⟩:=aJ.o.cell 1;obtain⟨s2,g2⟩:=aJ.o.cell 2;clear U))
   all_goals
    go_wp2;refine bodyPost_ret (v:=.tuple #[.agg #[.int .i64 (k:Int),.int .i64 (f:Int),.slice i nl j],.int .i64 (SZ:Int),.bool true]) (by simp[results,Tryz.results166,go_sem,s0,s1,s2]) rfl ?_
    refine⟨.slice i nl j,by rw[l.o],?_,?_⟩
    ·rw[l.o]
     first
     | exact bN.o.rd ac.o
     | exact Q9.rd (((bu.o.set w.heap.size 0 K.o _).set w.heap.size 1 K.o _).set w.heap.size 2 K.o _) ac.o
    ·first
     | exact bB.o
     | exact Zd bP.o w.heap.size zL _ _ _
theorem Zv {P:Program} {ι:Type} (W:ι->World) (b:ι) {id:Nat} {Q:Exit->Act->World->Prop} {a:Act} {w:World} {l:List Oper} (c:P.follows .mixedOrders=true) (d:Region.lexB .any l.toArray=true) (e:W b=w.drew)
 (h:wpQuiet P l.toArray (fun w'=>∃ n,w'=W n) (fun a'=>∀ w',(∃ n,w'=W n)->Q .normal a' w') l a):(Code.region id l.toArray true).wp P Q a w:=
 wp_region_quiet (C:=fun w'=>∃ n,w'=W n) c d ⟨b,e.symm⟩ (by simpa using h)
theorem Zna (B:Nat) (w:World):∃ (ι:Type) (_:Nonempty ι) (W:ι->World),(∀ i,Below B w (W i))∧∀ w',Below B w w'->∃ i,w'=W i:=
 ⟨{ w' // Below B w w' },⟨⟨w,Below.refl _ _⟩⟩,Subtype.val,fun i=>i.2,fun w' h=>⟨⟨w',h⟩,rfl⟩⟩
theorem ZbB (v:Value) (l:List Rec) (w:World) (y:RdR w v l):
 Calls prog 48 #[v] w fun e w'=>e=.returned (.bool (decide (Yc l)))∧Below w.heap.size w w':=by
 have HR:=ZZ y;obtain⟨ao,cap,rfl,ak,ae,-,-,aj⟩:=y;have aA:(l.length:Int)<=9223372036854775807:=by unfold maxLen at ae;omega
 have an:=ZZ aj;clear aj ak ae;by_cases Q:1<=l.length
 case neg=>
  have I:Hid (decide (Yc l)=false):=decide_eq_false (fun h=>Q h.1)
  have ax:(l.length:Int)<1:=by omega
  rw[I.o]
  go_enter func48,ntmps48
  go_wp2;go_ret;exact⟨rfl,Below.refl _ _⟩
 have ax:¬ (l.length:Int)<1:=by omega
 by_cases O:l.length<=256
 case neg=>
  have I:Hid (decide (Yc l)=false):=decide_eq_false (fun h=>O h.2.1)
  have az:256<(l.length:Int):=by omega
  rw[I.o]
  go_enter func48,ntmps48
  go_wp2;go_ret;exact⟨rfl,Below.refl _ _⟩
 have az:¬ 256<(l.length:Int):=by omega
 have aa:=ZZ (fun h=>Zuu (l:=l) h Q O)
 have ab:=ZZ (fun(h:Yc l) k=>h.part k)
 have ap:=ZZ (fun r W=>ZhI r W)
 obtain⟨D,B⟩:∃ D,D=decide (Yc l):=⟨_,rfl⟩;rw[<-B];have au:Hid (Zji l l.length->D=true):=fun h=>by rw[B];exact decide_eq_true (aa.o h)
 have ai:Hid (∀ k,¬ Zji l k->D=false):=fun k h=>by rw[B];exact decide_eq_false (fun S=>h (ab.o S k))
 have ay:=ZZ (ZrM l);have aC:(0:Int)<(l.length:Int):=by omega
 clear B aa ab Q O
 go_enter func48,ntmps48
 go_wp2
 go_loopw[15] (fun K wr=>∃ k:Nat,K=.int .i64 (k:Int)∧k<=l.length∧Hid (Zji l k)∧Hid (Below w.heap.size w wr)) (fun K _=>l.length-(intOf K).toNat)
 case atStart=>exact⟨0,rfl,Nat.zero_le _,ay,Below.refl _ _⟩
 case round=>
  obtain⟨k,rfl,hk,J,C⟩:=hrel;by_cases u:k<l.length
  case neg=>
   obtain rfl:k=l.length:=by omega
   have HT:=ZZ (au.o J.out);go_wp2;go_ret;rw[HT.o];exact⟨rfl,C.out⟩
  rcases an.o with h0 | ⟨c,al,rfl,Y⟩
  ·rw[h0] at u;simp at u
  have T:=Y k u;have L:=Y 0 (by omega)
  have R:=ZZ (fun W (h:Below w.heap.size w W)=>T.keep (h.block c T.lt))
  have ac:=ZZ (fun W (h:Below w.heap.size w W)=>(L.keep (h.block c L.lt)).1)
  have g:=ZZ (ZrN u);have hh:l.headD Qi=l.getD 0 Qi:=by cases l <;> simp
  rw[hh] at g
  have ag:Hid (Qw (l.getD k Qi)->Qw (l.getD 0 Qi)):=ZZ (fun S=>by
   cases k with
   | zero=>exact S
   | succ q=>
    refine J.out.1 _ ?_
    cases l with
    | nil=>simp at u
    | cons x t=>simp)
  have aq:=R.o wr C.out;obtain⟨c0,c1,c2,c3,c4,c5,c6⟩:=aq;have A:=ZZ (ap.o (l.getD k Qi));have ar:∃ E,E=decide (Qw (l.getD k Qi)):=⟨_,rfl⟩;obtain⟨E,P⟩:=ar;rw[<-P] at A;have Z:=ZZ P;unfold Zrr at A;obtain⟨r,y⟩:∃ r,r=l.getD k Qi:=⟨_,rfl⟩;rw[<-y] at A g Z R ag c0 c1 c2 c3 c4 c5 c6;clear P Y T y L hh;generalize (l.getD 0 Qi)=G at *
  go_upto_region 6 with fail
  obtain⟨d,n⟩:∃ d,d=wr.alloc (.cells (Zi r) 62):=⟨_,rfl⟩;have aD:d.heap.size=wr.heap.size+1:=by rw[n];simp
  have ad:Hid (Below w.heap.size w d):=ZZ (by rw[n];exact C.out.alloc C.out.size _)
  have av:Hid (Br d wr.heap.size (Zi r)):=ZZ (by rw[n];exact heap_alloc_new wr _)
  unfold Zi at n;rw[<-n];clear n c0 c1 c2 c3 c4 c5 c6;obtain⟨ι,aB,V,hV,X⟩:=Zna d.heap.size d;have F:=ZZ hV;have HM:=ZZ X;obtain⟨i0,N⟩:=X d.drew (Below.refl _ _).drew;have H:Hid (∀ i,Below w.heap.size w (V i)):=ZZ (fun i=>ad.o.trans ((F.o i).mono ad.o.size))
  have f:∀ i,Br (V i) wr.heap.size (Zi r):=fun i=>((F.o i).block _ (by omega)).trans av.o
  have d0:∀ i,(V i).cell? ⟨wr.heap.size,0,none⟩=some (.int .i64 r.idx):=fun i=>((f i).cell 0).1
  have d1:∀ i,(V i).cell? ⟨wr.heap.size,1,none⟩=some (.int .i64 r.proc):=fun i=>((f i).cell 1).1
  have d2:∀ i,(V i).cell? ⟨wr.heap.size,2,none⟩=some (.int .i64 r.seq):=fun i=>((f i).cell 2).1
  have d3:∀ i,(V i).cell? ⟨wr.heap.size,3,none⟩=some (.int .i64 r.op.code):=fun i=>((f i).cell 3).1
  have d4:∀ i,(V i).cell? ⟨wr.heap.size,4,none⟩=some (.int .i64 r.op.a):=fun i=>((f i).cell 4).1
  have d5:∀ i,(V i).cell? ⟨wr.heap.size,5,none⟩=some (.int .i64 r.op.b):=fun i=>((f i).cell 5).1
  have d6:∀ i,(V i).cell? ⟨wr.heap.size,6,none⟩=some (.int .i64 r.resp):=fun i=>((f i).cell 6).1
  have e0:∀ i,(V i).cell? ⟨c,al,none⟩=some (.int .i64 G.idx):=fun i=>by
   have h:=ac.o (V i) (H.o i)
   rwa [Nat.zero_mul,Nat.add_zero] at h
  have M:Hid (∀ i,Calls prog 41 #[.agg #[.int .i64 r.idx,.int .i64 r.proc,.int .i64 r.seq,.int .i64 r.op.code,.int .i64 r.op.a,.int .i64 r.op.b,.int .i64 r.resp]] (V i) fun e w'=>e=.returned (.bool E)∧∃ m,w'=V m):=ZZ (fun i=>(A.o (V i)).mono fun e w' h=>⟨h.1,HM.o w' ((F.o i).trans (h.2.mono (F.o i).size))⟩)
  clear hV X f A ac R
  cases E with
  | false=>
   have U:=ZZ (ai.o (k+1) (fun h=>of_decide_eq_false Z.o.symm (g.o.1 h).2.1))
   refine Zv V i0 (by kernel_rfl) (by kernel_rfl) N.symm ?_
   repeat (go_big_quiet_step ((go_at_call 41;exact M.o _)))
   refine wpQuiet_nil ?_;intro _ p;obtain⟨nq,z⟩:=p;subst z;go_wp2;go_ret;rw[U.o];exact⟨rfl,H.o _⟩
  | true=>
   have af:=ZZ (of_decide_eq_true Z.o.symm);obtain⟨-,i1,i2,-⟩:=ag.o af.o;by_cases j:r.idx=G.idx+k
   ·have am:(r.idx != G.idx+k)=false:=by rw[bne_eq_false_iff_eq];exact j
    have aw:=ZZ (g.o.2 ⟨J.out,af.o,j⟩);clear g j;refine Zv V i0 (by kernel_rfl) (by kernel_rfl) N.symm ?_
    repeat (go_big_quiet_step ((go_at_call 41;exact M.o _)))
    refine wpQuiet_nil ?_;intro _ p;obtain⟨nq,z⟩:=p;subst z;go_wp2;go_roundw
    case rel=>exact⟨k+1,by go_num,by omega,aw,H.o _⟩
    case measure=>simp[intOf];omega
   ·have am:(r.idx != G.idx+k)=true:=by rw[bne_iff_ne];exact j
    have U:=ZZ (ai.o (k+1) (fun h=>j (g.o.1 h).2.2))
    clear g j;refine Zv V i0 (by kernel_rfl) (by kernel_rfl) N.symm ?_
    repeat (go_big_quiet_step ((go_at_call 41;exact M.o _)))
    refine wpQuiet_nil ?_;intro _ p;obtain⟨nq,z⟩:=p;subst z;go_wp2;go_ret;rw[U.o];exact⟨rfl,H.o _⟩
def Zzd (w:World) (l:List UInt8) (o:Opn) (e:Ending) (w':World):Prop:=
 ∃ v',e=.returned (.tuple #[v',.int .i64 (if Jg o then 0 else 1)])∧Own w' w.heap.size v' (if Jg o then l++Xo o else l)∧Below w.heap.size w w'
theorem Zuy (v:Value) (l:List UInt8) (o:Opn) (w:World) (C:Rd w v l) (aw:l.length<=90000):
 Calls prog 185 #[v,opV o] w fun e w'=>Zzd w l o e w':=by
 obtain⟨m,j,rfl,am⟩:∃ m j,v=.slice m l.length j∧Rd w (.slice m l.length j) l:=by
  have h:=C;obtain⟨m,j,rfl,_⟩:=C;exact⟨m,j,rfl,h⟩
 have Z:=ZZ C;clear am;have V:=ZZ (fun w=>ZkW o w)
 have D:Hid (∀ X,Below w.heap.size w (w.alloc X)):=fun X=>(Below.refl _ _).alloc zL X
 obtain⟨c,a,b⟩:=o;clear C;show Calls prog _ #[_,.agg #[.int .i64 c,.int .i64 a,.int .i64 b]] w _;have S:Hid (∀ W,Calls prog 80 #[.agg #[.int .i64 c,.int .i64 a,.int .i64 b]] W fun e w'=>e=.returned (.bool (decide (Jg ⟨c,a,b⟩)))∧Below W.heap.size W w'):=V.o
 clear V;unfold Zzd;by_cases d:Jg ⟨c,a,b⟩
 ·simp only [if_pos d]
  have P:=ZZ (decide_eq_true d);have J:Hid (I64 a):=(ZaG d).1;have H:Hid (I64 b):=(ZaG d).2;have Y:0<=c:=d.1;have ak:c<=10:=d.2.1;have ae:=Ji (n:=c.toNat) (by omega)
  have au:=Zvq J.o;have ai:=Zvq H.o
  have HP:Hid (∀ W,Calls prog 132 #[.slice none 0 0,.int .i64 c] W fun e w'=>∃ v',e=.returned v'∧Own w' W.heap.size v' (Lib.uvarint c.toNat)∧Below W.heap.size W w'):=fun W=>by
   have h:=ZbA (.slice none 0 0) [] c W (Rd.nil W) (by simp)
   rw[Z7 Y (by omega),nil_append] at h
   exact h
  have HA:Hid (∀ W,Calls prog 142 #[.slice none 0 0,.int .i64 a] W fun e w'=>∃ v',e=.returned v'∧Own w' W.heap.size v' (Lib.uvarint (Lib.zigzag a))∧Below W.heap.size W w'):=fun W=>by
   have h:=Jk (.slice none 0 0) [] a W (Rd.nil W) (by simp) J.o.1 J.o.2
   rw[nil_append] at h;exact h
  have HB:Hid (∀ W,Calls prog 142 #[.slice none 0 0,.int .i64 b] W fun e w'=>∃ v',e=.returned v'∧Own w' W.heap.size v' (Lib.uvarint (Lib.zigzag b))∧Below W.heap.size W w'):=fun W=>by
   have h:=Jk (.slice none 0 0) [] b W (Rd.nil W) (by simp) H.o.1 H.o.2
   rw[nil_append] at h;exact h
  have T:Hid (Xo ⟨c,a,b⟩=Lib.uvarint c.toNat++(Lib.uvarint (Lib.zigzag a)++Lib.uvarint (Lib.zigzag b))):=rfl;rw[T.o];have al:Hid (∀ W N G I t k,N=W.heap.size->Rd W G l->Rd W I (Lib.uvarint c.toNat)->Rd W t (Lib.uvarint (Lib.zigzag a))->Rd W k (Lib.uvarint (Lib.zigzag b))->Calls prog 131 #[.slice (some ⟨N,0,none⟩) 4 4] (W.alloc (.cells #[G,I,t,k] 53)) fun e w'=>∃ v',e=.returned v'∧Own w' W.heap.size v' (l++(Lib.uvarint c.toNat++(Lib.uvarint (Lib.zigzag a)++Lib.uvarint (Lib.zigzag b))))∧Below W.heap.size W w'):=fun W N G I t k hN h0 h1 h2 h3=>Zuf W N hN G I t k _ _ _ _ h0 h1 h2 h3 (by omega)
  clear d ae au ai T J H Y ak;generalize Lib.uvarint c.toNat=A at *;generalize Lib.uvarint (Lib.zigzag a)=LA at *;generalize Lib.uvarint (Lib.zigzag b)=LB at *;generalize l++(A++(LA++LB))=LL at *
  go_enter func185,ntmps185
  go_wp2_with fail
  refine(S.o _).mono ?_;rintro e W1 ⟨rfl,R⟩;rw[P.o];have u:Bo W1 w.heap.size _:=(R.block w.heap.size (by simp)).trans (heap_alloc_new w _)
  have ao:=ZZ u;have M:=ZZ ((D.o _).trans (R.mono (D.o _).size));obtain⟨p0,-⟩:=u.cell 0;obtain⟨p1,-⟩:=u.cell 1;obtain⟨p2,-⟩:=u.cell 2;have av:=M.o.size;clear R u;go_wp2
  go_region_held(fun w'=>w'.cell? ⟨w.heap.size,0,none⟩=some (.int .i64 c)∧w'.cell? ⟨w.heap.size,1,none⟩=some (.int .i64 a)∧w'.cell? ⟨w.heap.size,2,none⟩=some (.int .i64 b)) (go_keep)
   (first
    | (go_at_call 132;refine(HP.o _).mono ?_;rintro e W2 ⟨t,rfl,O,i⟩;have y:=ao.o.below (((Below.refl _ _).drew).trans i) zL;have ad:=ZZ y;have f:=ZZ (M.o.trans ((((Below.refl _ _).drew).trans i).mono M.o.size));obtain⟨a2,c2,rfl,-⟩:=O.rd;have ag:=ZZ O.rd;obtain⟨q0,-⟩:=y.cell 0;obtain⟨q1,-⟩:=y.cell 1;obtain⟨q2,-⟩:=y.cell 2;clear O i y)
    | (go_at_call_of 142 (Value.int .i64 a);refine(HA.o _).mono ?_;rintro e W3 ⟨k,rfl,p,g⟩;have q:=ad.o.below g zL;have aq:=ZZ q;have F:=ZZ (f.o.trans (g.mono f.o.size));have ac:=ZZ (ag.o.below g zL);obtain⟨a3,c3,rfl,-⟩:=p.rd;have Q:=ZZ p.rd;obtain⟨r0,-⟩:=q.cell 0;obtain⟨r1,-⟩:=q.cell 1;obtain⟨r2,-⟩:=q.cell 2;clear p g q)
    | (go_at_call_of 142 (Value.int .i64 b);refine(HB.o _).mono ?_;rintro e W4 ⟨v4,rfl,L,x⟩;have z:=aq.o.below x zL;have aa:=ZZ z;have E:=ZZ (F.o.trans (x.mono F.o.size));have ab:=ZZ (ac.o.below x zL);have aj:=ZZ (Q.o.below x zL);obtain⟨a4,c4,rfl,-⟩:=L.rd;have ar:=ZZ L.rd;obtain⟨s0,-⟩:=z.cell 0;obtain⟨s1,-⟩:=z.cell 1;obtain⟨s2,-⟩:=z.cell 2;clear L x z)
    | (go_at_call 131;refine(al.o W4 W4.heap.size _ _ _ _ rfl (Z.o.below E.o zL) ab.o aj.o ar.o).mono ?_;rintro e W5 ⟨v5,rfl,U,K⟩;have B:=aa.o.below K zL;have an:=ZZ (E.o.trans (K.mono E.o.size));have af:=ZZ (U.mono E.o.size);obtain⟨t0,-⟩:=B.cell 0;obtain⟨t1,-⟩:=B.cell 1;obtain⟨t2,-⟩:=B.cell 2;clear U K B))
  all_goals
   go_wp2;go_ret2;exact⟨_,rfl,af.o,an.o⟩
 ·simp only [if_neg d]
  have P:=ZZ (decide_eq_false d);have ap:=ZZ (fun W h=>ZrF (.slice m l.length j) l W h (by omega))
  clear d
  go_enter func185,ntmps185
  go_wp2_with fail
  refine(S.o _).mono ?_;rintro e W2 ⟨rfl,i⟩;rw[P.o];have f:=ZZ ((D.o _).trans (i.mono (D.o _).size));clear i
  go_wp2_with fail
  refine(ap.o _ (Z.o.below f.o zL)).mono ?_;rintro e W3 ⟨k,rfl,p,g⟩;have Q:=ZZ (p.mono f.o.size);have F:=ZZ (f.o.trans (g.mono f.o.size));clear p g;go_wp2;go_ret2;exact⟨_,rfl,Q.o,F.o⟩
open Go.RowKit Go.Maps
theorem Zuz:Keyed prog 3:=int_keyed underlying3
theorem ZxI (w:World):(zeroValue 3).run prog w=.ok (.int .i64 0) w:=by kernel_rfl
theorem Zze {n:Int} (h:I64 n):(Lit.int .i64 n).wf=true:=WalkArith.wf_i64 (by obtain⟨b,a⟩:=h;omega)
def ZfC (w:World) (b n:Nat) (f:Int->Int):Prop:=
 ∃ D:DataW Unit,w.ownsMap prog 3 (plainElem prog 3) b n D∧IsMap D∧∀ p,I64 p->D.atKey (.int .i64 p) (.lit (.int .i64 0))=.lit (.int .i64 (f p))
theorem ZfC.made (w:World):ZfC (w.alloc (.map #[] 0)) w.heap.size 0 (fun _=>0):=
 ⟨.map [],World.ownsMap_made _ _ _ _,isMap_empty,fun _ _=>rfl⟩
theorem ZfC.lt (h:ZfC w b n f):b<w.heap.size:=by
 obtain⟨D,a,_⟩:=h;exact a.lt
theorem ZfC.keep (h:ZfC w b n f) (a:w'.heap[b]?=w.heap[b]?):ZfC w' b n f:=by
 obtain⟨D,⟨e,g,c,r⟩,d⟩:=h;exact⟨D,⟨e,g,a.trans c,r⟩,d⟩
theorem ZfC.below (h:ZfC w b n f) (a:Below B w w') (c:w.heap.size<=B):ZfC w' b n f:=
 h.keep (a.block b (by have:=h.lt;omega))
theorem ZfC.apart (h:ZfC w b n f) {cs:Array Value} {t:TypeId} {z:Nat × Nat} {g:Nat} (a:w.heap[g]?=some (.cells cs t z)):g≠b:=by
 obtain⟨D,⟨d,i,c,_⟩,_⟩:=h;intro e;rw[e,c] at a
 cases a
theorem ZfC.look (h:ZfC w b n f) {p:Int} (a:I64 p):(Instr.lookup 183 (.map (some b)) (.int .i64 p) false).run prog w=.ok (.int .i64 (f p)) w:=by
 obtain⟨D,g,_,j⟩:=h;obtain⟨c,i,d,_⟩:=g.lookup_int Zuz underlying183 underlying3 (ZxI _) (keyOf_int_mk underlying3 (Zze a));rw[j p a] at d;have e:f p=c:=by simpa using d
 rw[i,e]
def Zye (f:Int->Int) (p x:Int):Int->Int:=fun q=>if p=q then x else f q
theorem ZfC.put (h:ZfC w b n f) {p x:Int} (c:I64 p) (d:I64 x) (t:n<=1000000000000):
 ∃ w',(Instr.mapUpdate 183 (.map (some b)) (.int .i64 p) (.int .i64 x)).run prog w=.ok () w'∧ZfC w' b (n+1) (Zye f p x)∧w.grownBy w' (some b):=by
 obtain⟨D,l,a,g⟩:=h;obtain⟨w',j,m,i⟩:=l.update Zuz underlying183 (by unfold maxLen;omega) (keyOf_int_mk underlying3 (Zze c)) (plainElem_int underlying3 (Zze d))
 refine⟨w',j,⟨_,m,a.put _ _,fun q k=>?_⟩,i⟩
 unfold Zye;by_cases e:p=q
 ·rw[if_pos e,<-e,atKey_put_same a (by first | exact trivial | simp[WideAt.IsKeyLit])]
 ·rw[if_neg e,atKey_put_other (by intro h;injection h with _ h;exact e h.symm),g q k]
theorem ZfC.own (h:ZfC w b n f) {B:Nat} {v:Value} {l:List UInt8} (c:Own w B v l):v.ownBlock=none∨v.ownBlock≠some b:=by
 rcases c.2 with ⟨a,_⟩ | ⟨g,cap,cur,a,_,i,_⟩
 ·exact .inl (by rw[a];rfl)
 ·right
  rw[a];have d:=h.apart i;intro e;exact d (by simpa[Value.ownBlock] using e)
theorem ZxJ (W:World) (N:Nat) (p:N=W.heap.size) (c d:Value) (a b:List UInt8) (m:Rd W c a) (n:Rd W d b) (q:a.length+b.length<=1000000):
 Calls prog 131 #[.slice (some ⟨N,0,none⟩) 2 2] (W.alloc (.cells #[c,d] 53)) fun e w'=>∃ v',e=.returned v'∧Own w' W.heap.size v' (a++b)∧Below W.heap.size W w':=by
 have k:=RdL.built W N p #[c,d] [a,b] (by simp) (fun j l=>by
  match j,l with
  | 0,_=>exact⟨c,rfl,m⟩
  | 1,_=>exact⟨d,rfl,n⟩)
 have f:[a,b].flatten=a++b:=by simp
 refine(Zdf _ _ _ k (by rw[f];simp only [length_append];omega) (by simp)).mono ?_
 rintro e w' ⟨v',rfl,g,i⟩;rw[f] at g;exact⟨v',rfl,g.mono (by simp),((Below.refl _ _).alloc zL _).trans (i.mono (by simp))⟩
theorem Zij (r:Rec) (d:Int) (w:World) (j:Qw r) (t:I64 d):
 Calls prog 133 #[Zrr r,.int .i64 d] w fun e w'=>∃ v',e=.returned v'∧Own w' w.heap.size v' (Lib.uvarint r.proc.toNat++(Lib.uvarint (Lib.zigzag d)++(Xo r.op++Lib.uvarint (Lib.zigzag r.resp))))∧Below w.heap.size w w':=by
 have M:Hid (∀ X,Below w.heap.size w (w.alloc X)):=fun X=>(Below.refl _ _).alloc zL X
 have X1:Hid (∀ cs,Br (w.alloc (.cells cs 62)) w.heap.size cs):=fun cs=>heap_alloc_new w _
 have f:=ZZ (fun W=>Zuy (.slice none 0 0) [] r.op W (Rd.nil W) (by simp))
 unfold Zzd at f;rw[if_pos j.1,if_pos j.1,nil_append] at f;have u:=ZZ (ZaQ j);have ad:=Zga j.1;obtain⟨_,_,_,_,_,O,ai,_⟩:=j;have Z:=Ji (n:=r.proc.toNat) (by omega)
 have ar:=Zvq t;have ac:=Zvq u.o
 have HP:Hid (∀ W,Calls prog 132 #[.slice none 0 0,.int .i64 r.proc] W fun e w'=>∃ v',e=.returned v'∧Own w' W.heap.size v' (Lib.uvarint r.proc.toNat)∧Below W.heap.size W w'):=fun W=>by
  have h:=ZbA (.slice none 0 0) [] r.proc W (Rd.nil W) (by simp)
  rw[Z7 O (by omega),nil_append] at h
  exact h
 have Y:Hid (∀ W,Calls prog 142 #[.slice none 0 0,.int .i64 d] W fun e w'=>∃ v',e=.returned v'∧Own w' W.heap.size v' (Lib.uvarint (Lib.zigzag d))∧Below W.heap.size W w'):=fun W=>by
  have h:=Jk (.slice none 0 0) [] d W (Rd.nil W) (by simp) t.1 t.2
  rw[nil_append] at h;exact h
 have HB:Hid (∀ W,Calls prog 142 #[.slice none 0 0,.int .i64 r.resp] W fun e w'=>∃ v',e=.returned v'∧Own w' W.heap.size v' (Lib.uvarint (Lib.zigzag r.resp))∧Below W.heap.size W w'):=fun W=>by
  have h:=Jk (.slice none 0 0) [] r.resp W (Rd.nil W) (by simp) u.o.1 u.o.2
  rw[nil_append] at h;exact h
 have ag:Hid (∀ W N v l g i,N=W.heap.size->Rd W v (Lib.uvarint r.proc.toNat)->Rd W l (Lib.uvarint (Lib.zigzag d))->Rd W g (Xo r.op)->Rd W i (Lib.uvarint (Lib.zigzag r.resp))->Calls prog 131 #[.slice (some ⟨N,0,none⟩) 4 4] (W.alloc (.cells #[v,l,g,i] 53)) fun e w'=>∃ v',e=.returned v'∧Own w' W.heap.size v' (Lib.uvarint r.proc.toNat++(Lib.uvarint (Lib.zigzag d)++(Xo r.op++Lib.uvarint (Lib.zigzag r.resp))))∧Below W.heap.size W w'):=fun W N v l g i hN h0 h1 h2 h3=>Zuf W N hN v l g i _ _ _ _ h0 h1 h2 h3 (by omega)
 clear Z ar ad ac u O ai t;unfold opV at f;obtain⟨idx,proc,seq,⟨J,a,b⟩,resp⟩:=r;show Calls prog _ #[.agg #[.int .i64 idx,.int .i64 proc,.int .i64 seq,.int .i64 J,.int .i64 a,.int .i64 b,.int .i64 resp],.int .i64 d] w _
 dsimp only at *
 generalize Lib.uvarint proc.toNat=A at *;generalize Lib.uvarint (Lib.zigzag d)=LA at *;generalize Lib.uvarint (Lib.zigzag resp)=LB at *;generalize Xo ⟨J,a,b⟩=U at *;generalize A++(LA++(U++LB))=LL at *
 go_enter func133,ntmps133
 go_wp2_with fail
 refine(f.o _).mono ?_;rintro e W1 ⟨l,rfl,H,I⟩;have q:Br W1 w.heap.size _:=(X1.out _).below I zL;have am:=ZZ q;have C:=ZZ ((M.o _).trans (I.mono (M.o _).size));have af:=ZZ H.rd;obtain⟨a1,c1,rfl,-⟩:=H.rd;obtain⟨p1,-⟩:=q.cell 1;obtain⟨p6,-⟩:=q.cell 6;have au:=C.o.size;clear I q H f;go_wp2
 go_region_held(fun w'=>w'.cell? ⟨w.heap.size,1,none⟩=some (.int .i64 proc)∧w'.cell? ⟨w.heap.size,6,none⟩=some (.int .i64 resp)) (go_keep)
  (first
   | (go_at_call 132;refine(HP.o _).mono ?_;rintro e W2 ⟨g,rfl,D,m⟩;have x:=am.o.below (((Below.refl _ _).drew).trans m) zL;have V:=ZZ x;have L:=ZZ (C.o.trans ((((Below.refl _ _).drew).trans m).mono C.o.size));have al:=ZZ (af.o.below (((Below.refl _ _).drew).trans m) zL);obtain⟨a2,c2,rfl,-⟩:=D.rd;have ab:=ZZ D.rd;obtain⟨q1,-⟩:=x.cell 1;obtain⟨q6,-⟩:=x.cell 6;clear D m x)
   | (go_at_call_of 142 (Value.int .i64 d);refine(Y.o _).mono ?_;rintro e W3 ⟨i,rfl,G,k⟩;have p:=V.o.below k zL;have ao:=ZZ p;have P:=ZZ (L.o.trans (k.mono L.o.size));have T:=ZZ (ab.o.below k zL);have aq:=ZZ (al.o.below k zL);obtain⟨a3,c3,rfl,-⟩:=G.rd;have an:=ZZ G.rd;obtain⟨r1,-⟩:=p.cell 1;obtain⟨r6,-⟩:=p.cell 6;clear G k p)
   | (go_at_call_of 142 (Value.int .i64 resp);refine(HB.o _).mono ?_;rintro e Q ⟨v4,rfl,B,c⟩;have y:=ao.o.below c zL;have R:=ZZ y;have F:=ZZ (P.o.trans (c.mono P.o.size));have S:=ZZ (T.o.below c zL);have ae:=ZZ (an.o.below c zL);have aj:=ZZ (aq.o.below c zL);obtain⟨a4,c4,rfl,-⟩:=B.rd;have ap:=ZZ B.rd;obtain⟨s1,-⟩:=y.cell 1;obtain⟨s6,-⟩:=y.cell 6;clear B c y)
   | (go_at_call 131;refine(ag.o Q Q.heap.size _ _ _ _ rfl S.o ae.o aj.o ap.o).mono ?_;rintro e W5 ⟨v5,rfl,K,z⟩;have E:=R.o.below z zL;have ak:=ZZ (F.o.trans (z.mono F.o.size));have aa:=ZZ (K.mono F.o.size);obtain⟨t1,-⟩:=E.cell 1;obtain⟨t6,-⟩:=E.cell 6;clear K z E))
 all_goals
  go_wp2;go_ret;exact⟨_,rfl,aa.o,ak.o⟩
theorem Zik (l:List Rec) (r:Rec):Zye (Qy l) r.proc r.seq=Qy (l++[r]):=by
 funext q
 unfold Zye;rw[ZlU]
theorem Br.own {cs:Array Value} (h:Br w b cs) {B:Nat} {v:Value} {l:List UInt8} (d:Own w B v l):some b≠v.ownBlock:=by
 rcases d.2 with ⟨a,_⟩ | ⟨g,cap,cur,a,_,f,_⟩
 ·rw[a]
  intro e
  cases e
 ·rw[a]
  intro e;have c:b=g:=by simpa[Value.ownBlock] using e
  unfold Br at h;rw[c,f] at h
  have i:(5:TypeId)=62:=by
   injection h with h
   injection h
  exact absurd i (by decide)
theorem Zgs (v:Value) (l:List Rec) (w:World) (b:RdR w v l):
 Calls prog 90 #[v] w fun e w'=>Zlj w l e w':=by
 have HR:=ZZ b;have L:=ZZ (fun W h=>ZbB v l W h)
 obtain⟨ao,cap,rfl,aX,aN,-,-,aV⟩:=b;have bc:(l.length:Int)<=9223372036854775807:=by unfold maxLen at aN;omega
 have aY:=ZZ aV;clear aV aX aN;unfold Zlj;by_cases a:Yc l
 case neg=>
  simp only [if_neg a];rw[decide_eq_false a] at L;clear a
  go_enter func90,ntmps90
  go_wp2_with fail
  refine(L.o _ HR.o).mono ?_;rintro e W1 ⟨rfl,y⟩;have B:=ZZ y;clear y;go_wp2;go_ret2;exact⟨_,rfl,Own.nil _ _,B.o⟩
 simp only [if_pos a];rw[decide_eq_true a] at L;have q:1<=l.length:=a.1;have h2:l.length<=256:=a.2.1;rcases aY.o with h0 | ⟨c,aJ,rfl,hc⟩
 ·rw[h0] at q;simp at q
 have aA:Hid (∀ k,k<l.length->∀ W,Below w.heap.size w W->Zja W c (aJ+k*7) (l.getD k Qi)):=ZZ (fun k i W h=>(hc k i).keep (h.block c (hc k i).lt))
 have aL:Hid (∀ k,k<l.length->Qw (l.getD k Qi)):=ZZ (fun k i=>a.2.2.1 _ (by simp[List.getD,i]))
 have aq:Hid (∀ k,∀ r ∈ l.take k,Qw r):=ZZ (fun k r b=>a.2.2.1 r (List.mem_of_mem_take b))
 have hh:l.headD Qi=l.getD 0 Qi:=by cases l <;> simp
 obtain⟨_,i0,i1,_⟩:=aL.o 0 q
 have aM:Hid (Y2 l=(Lib.uvarint (l.getD 0 Qi).idx.toNat++Lib.uvarint l.length)++Xw [] (l.take l.length)):=ZZ (by
  unfold Y2
  rw[hh,take_length,List.append_assoc])
 have a0:=ZZ (fun k i=>ZqO l k i)
 have a4:Hid (∀ k,(Xw [] (l.take k)).length<=60*256):=ZZ (fun k=>by
  have h3:=ZmV (l.take k) [] (fun r b=>by simp at b) (aq.o k)
  have h4:(l.take k).length<=l.length:=by simp;omega
  omega)
 have u1:=Ji (n:=(l.getD 0 Qi).idx.toNat) (by omega)
 have u2:=Ji (n:=l.length) (by omega)
 have aO:Hid (∀ W,Calls prog 132 #[.slice none 0 0,.int .i64 (l.getD 0 Qi).idx] W fun e w'=>∃ v',e=.returned v'∧Own w' W.heap.size v' (Lib.uvarint (l.getD 0 Qi).idx.toNat)∧Below W.heap.size W w'):=fun W=>by
  have h:=ZbA (.slice none 0 0) [] (l.getD 0 Qi).idx W (Rd.nil W) (by simp)
  rw[Z7 i0 (by omega),nil_append] at h
  exact h
 have ad:Hid (∀ W,Calls prog 132 #[.slice none 0 0,.int .i64 (l.length:Int)] W fun e w'=>∃ v',e=.returned v'∧Own w' W.heap.size v' (Lib.uvarint l.length)∧Below W.heap.size W w'):=fun W=>by
  have h:=ZbA (.slice none 0 0) [] (l.length:Int) W (Rd.nil W) (by simp)
  rw[Z7 (by omega) (by omega),Int.toNat_natCast,nil_append] at h
  exact h
 rw[aM.o];have aU:(Lib.uvarint (l.getD 0 Qi).idx.toNat++Lib.uvarint l.length).length<=20:=by rw[length_append];omega
 have aW:=(aA.o 0 q);have a1:=ZZ aW;have bg:=ZZ a.2.2.1;have R:Hid (∀ W N T V,N=W.heap.size->Rd W T (Lib.uvarint (l.getD 0 Qi).idx.toNat)->Rd W V (Lib.uvarint l.length)->Calls prog 131 #[.slice (some ⟨N,0,none⟩) 2 2] (W.alloc (.cells #[T,V] 53)) fun e w'=>∃ v',e=.returned v'∧Own w' W.heap.size v' (Lib.uvarint (l.getD 0 Qi).idx.toNat++Lib.uvarint l.length)∧Below W.heap.size W w'):=fun W N T V hN h0 q=>ZxJ W N hN T V _ _ h0 q (by omega)
 clear a hc hh aM i0 i1 u1 u2 aW;generalize (l.getD 0 Qi)=r0 at *;generalize Lib.uvarint r0.idx.toNat=A at *;obtain⟨A2,aP⟩:∃ A2,A2=Lib.uvarint l.length:=⟨_,rfl⟩;rw[<-aP] at ad R aU ⊢;clear aP;obtain⟨H,hH⟩:∃ H,H=A++A2:=⟨_,rfl⟩;rw[<-hH] at R aU ⊢;clear hH;have bk:=@run_makeMap prog;have bl:(0:Int)<(l.length:Int):=by omega
 go_enter func90,ntmps90
 go_wp2_with fail
 refine(L.o _ HR.o).mono ?_;rintro e W1 ⟨rfl,y⟩;have B:=ZZ y
 have a7:W1.cell? ⟨c,aJ,none⟩=some (.int .i64 r0.idx):=by
  have h:=(a1.o W1 y).1
  rwa [Nat.zero_mul,Nat.add_zero] at h
 clear y
 go_wp2_with fail
 refine(aO.o _).mono ?_;rintro e W2 ⟨v2,rfl,af,aF⟩;obtain⟨a2,n2,rfl,-⟩:=af.rd;have aH:=ZZ af.rd;have ae:=ZZ (B.o.trans (aF.mono B.o.size));clear af aF a7 B
 go_wp2_with fail
 refine(ad.o _).mono ?_;rintro e W3 ⟨v3,rfl,ak,an⟩;obtain⟨a3,n3,rfl,-⟩:=ak.rd;have az:=ZZ (aH.o.below an zL);have aQ:=ZZ ak.rd;have S:=ZZ (ae.o.trans (an.mono ae.o.size));clear ak an aH ae aO ad
 go_wp2_with fail
 refine(R.o W3 W3.heap.size _ _ rfl az.o aQ.o).mono ?_;rintro e D ⟨v4,rfl,aG,aK⟩;have aT:=ZZ (aG.mono S.o.size);have P:=ZZ (S.o.trans (aK.mono S.o.size));clear aG aK az aQ S R;have d:Hid (Own (D.alloc (.map #[] 0)) w.heap.size v4 H):=ZZ (aT.o.below ((Below.refl _ _).alloc zL _) zL);have f:=ZZ (ZfC.made D);have t:Hid (Below w.heap.size w (D.alloc (.map #[] 0))):=ZZ (P.o.alloc P.o.size _);have HN:=ZZ P.o.size;go_wp2
 go_loopw[4,24] (fun vo vi wr=>∃ k:Nat,vi=.int .i64 (k:Int)∧k<=l.length∧Hid (Own wr w.heap.size vo (H++Xw [] (l.take k)))∧Hid (ZfC wr D.heap.size k (Qy (l.take k)))∧Hid (Below w.heap.size w wr)) (fun _ vi _=>l.length-(intOf vi).toNat)
 case atStart=>exact⟨0,rfl,Nat.zero_le _,by simpa[Xw] using d,f,t⟩
 case round=>
  clear d t f aT P;obtain⟨k,rfl,i,u,Z,z⟩:=hrel;by_cases G:k<l.length
  case neg=>
   have aI:l.take k=l.take l.length:=by rw[take_length,List.take_of_length_le (by omega)]
   rw[aI] at u;clear aI;go_wp2;go_ret2;exact⟨_,rfl,u.out,z.out⟩
  have bm:(k:Int)<(l.length:Int):=by omega
  have p:=aL.o k G;have C:Hid (I64 ((l.getD k Qi).seq-Qy (l.take k) (l.getD k Qi).proc)):=ZZ (Zem (aq.o k) p);have m:Hid (∀ W,Calls prog 133 #[Zrr (l.getD k Qi),.int .i64 ((l.getD k Qi).seq-Qy (l.take k) (l.getD k Qi).proc)] W fun e w'=>∃ v',e=.returned v'∧Own w' W.heap.size v' (Ys (l.take k) (l.getD k Qi))∧Below W.heap.size W w'):=ZZ (fun W=>Zij (l.getD k Qi) ((l.getD k Qi).seq-Qy (l.take k) (l.getD k Qi).proc) W p C.o)
  have am:Hid (I64 (l.getD k Qi).proc):=ZZ (by obtain⟨_,_,_,_,_,bf,be,_⟩:=p;exact⟨by omega,by omega⟩)
  have aE:Hid (I64 (l.getD k Qi).seq):=ZZ (by obtain⟨_,_,_,bn,bj,_⟩:=p;exact⟨by omega,by omega⟩)
  have I:=ZZ (ZjW (aq.o k) p);have ac:=ZZ (aA.o k G);have a8:=a4.o k;have ag:Hid ((H++Xw [] (l.take k)).length<=20000):=ZZ (by rw[length_append];omega)
  have J:Hid (H++Xw [] (l.take (k+1))=(H++Xw [] (l.take k))++Ys (l.take k) (l.getD k Qi)):=ZZ (by
   rw[a0.o k G,List.append_assoc])
  have aD:Hid (Zye (Qy (l.take k)) (l.getD k Qi).proc (l.getD k Qi).seq=Qy (l.take (k+1))):=ZZ (by
   rw[Zik,Zfz G])
  clear a8 p;obtain⟨r,b⟩:∃ r,r=l.getD k Qi:=⟨_,rfl⟩;rw[<-b] at C m am aE I ac J aD;unfold Zrr at m;clear b;have ar:Hid (∀ X,(Instr.lookup 183 (.map (some D.heap.size)) (.int .i64 r.proc) false).run prog (wr.alloc X)=.ok (.int .i64 (Qy (l.take k) r.proc)) (wr.alloc X)):=ZZ (fun X=>(Z.out.below ((Below.refl _ _).alloc zL X) zL).look am.o)
  obtain⟨Q,aS⟩:∃ Q,Q=Qy (l.take k) r.proc:=⟨_,rfl⟩;rw[<-aS] at C m ar;clear aS;obtain⟨E,hE⟩:∃ E,E=Ys (l.take k) r:=⟨_,rfl⟩;rw[<-hE] at m I J;clear hE;obtain⟨U,aR⟩:∃ U,U=H++Xw [] (l.take k):=⟨_,rfl⟩;rw[<-aR] at u ag J;clear aR;have L0:=ag.o;have L1:=I.o;have bi:IntKind.i64.wrap (r.seq-Q)=r.seq-Q:=ZnS C.o;have a9:=ar.o;obtain⟨c0,c1,c2,c3,c4,c5,c6⟩:=ac.o wr z.out
  obtain⟨K,M,rfl⟩:∃ K M,u4=.slice K U.length M:=by
   obtain⟨K,M,h,-⟩:=u.out.rd;exact⟨K,M,h⟩
  have aC:Hid (∀ cs,Br (wr.alloc (.cells cs 62)) wr.heap.size cs):=fun cs=>heap_alloc_new wr _
  have al:Hid (∀ X,Below wr.heap.size wr (wr.alloc X)):=fun X=>(Below.refl _ _).alloc zL X
  clear ar C ag I
  go_wp2_with fail
  refine(m.o _).mono ?_;rintro e W5 ⟨v5,rfl,aa,ab⟩;obtain⟨a5,n5,rfl,-⟩:=aa.rd;have O:Below wr.heap.size wr W5:=(al.o _).trans (ab.mono (al.o _).size);have aB:=ZZ aa.rd;have d:=ZZ (u.out.below O zL);have f:=ZZ (Z.out.below O zL);have Y:Hid (Br W5 wr.heap.size _):=ZZ ((aC.o _).below ab zL);have t:=ZZ (z.out.trans (O.mono z.out.size));have aj:=ZZ t.o.size;clear aa ab O u Z z aC al c0 c1 c2 c3 c4 c5 c6 a9 m ac
  go_wp2_with(at_builtin;refine Zfy _ rfl _ _ rfl w.heap.size _ U rfl d.o _ E rfl aB.o (by omega) aj.o ?_)
  intro v6 W6 ay F;rw[<-J.o] at ay;have aw:=ZZ ay;have av:Hid (Br W6 wr.heap.size _):=ZZ ((F.block _ Y.o.lt (Y.o.own d.o)).trans Y.o)
  have ap:=ZZ (f.o.keep (F.block _ f.o.lt (by
   rcases f.o.own d.o with h | h
   ·rw[h];exact fun e=>by cases e
   ·exact fun e=>h e.symm)))
  have ax:=ZZ (t.o.grown F aj.o (fun j x=>by
   rcases d.o.2 with ⟨hv,_⟩ | ⟨g,cap,cur,hv,bd,_⟩
   ·rw[hv] at x;cases x
   ·rw[hv] at x
    have e':g=j:=by simpa[Value.ownBlock] using x
    omega))
  clear ay F d Y f t aj aB;obtain⟨W7,bb,au,ai⟩:=ap.o.put am.o aE.o (by omega)
  rw[aD.o] at au;have a6:=ZZ au;have aZ:Hid (Own W7 w.heap.size v6 (H++Xw [] (l.take (k+1)))):=ZZ (World.ownsRow.kept aw.o ai (ap.o.own aw.o));have ba:=ZZ (ax.o.grown ai ax.o.size (fun j x=>by cases x;exact HN.o))
  obtain⟨q1,-⟩:=av.o.cell 1;obtain⟨q2,-⟩:=av.o.cell 2;clear au ai ap aw ax av;go_wp2;go_roundw
  case rel=>exact⟨k+1,by go_num,by omega,aZ,a6,ba⟩
  case measure=>simp[intOf];omega
theorem Zjk (v:Value) (l:List Rec) (w:World) (j:RdR w v l) (b:Yc l) (m:(Y2 l).length<=1048576):
 Calls prog 49 #[v] w fun e w'=>∃ v',e=.returned v'∧Own w' w.heap.size v' (Qe (Y2 l))∧Below w.heap.size w w':=by
 have c:=ZZ (Zgs v l w j);unfold Zlj at c;rw[if_pos b,if_pos b] at c;have n:=ZZ (fun d W (h:Rd W d (Y2 l))=>Zdg d _ W h)
 rw[Zlk m] at n;obtain⟨ao,cap,rfl,-⟩:=j;generalize Y2 l=B at *;generalize Qe B=x at *;clear b m
 go_enter func49,ntmps49
 go_wp2_with fail
 refine c.o.mono ?_;rintro e y ⟨d,rfl,k,i⟩;have q:=ZZ k.rd;have a:=ZZ i;clear k i
 go_wp2_with fail
 refine(n.o _ _ q.o).mono ?_;rintro e z ⟨u,rfl,f,g⟩;have t:=ZZ (f.mono a.o.size);have p:=ZZ (a.o.trans (g.mono a.o.size));clear f g;go_wp2;go_ret;exact⟨_,rfl,t.o,p.o⟩
theorem Zln {L:ZdP} (w:World) (h:Z0 M I w p pd L s) (t:ZoJ s) (q:0<=s.now.st.kind∧s.now.st.kind<6) (y:s.next<4611686018427387904) (A:0<=s.next):
 Calls prog 51 #[ptr p] w fun e w'=>∃ v',e=.returned v'∧Own w' w.heap.size v' (Qe (X6 3 s.now.st.kind.toNat s.next.toNat))∧Below w.heap.size w w':=by
 have k:=ZZ h
 have G:Hid (∀ W,Below w.heap.size w W->Calls prog 14 #[ptr p] W fun e w'=>e=.returned (.int .i64 s.next)∧Below w.heap.size w w'):=ZZ (fun W a=>(ZhU W (h.below a) t).mono (by
  rintro e w' ⟨rfl,b⟩
  exact⟨rfl,a.trans (b.mono a.size)⟩))
 have D:Hid (∀ W,Below w.heap.size w W->Calls prog 93 #[.int .i64 3,.int .i64 s.now.st.kind,.int .i64 s.next] W fun e w'=>∃ v',e=.returned (.tuple #[v',.int .i64 0])∧Own w' w.heap.size v' (Qe (X6 3 s.now.st.kind.toNat s.next.toNat))∧Below w.heap.size w w'):=ZZ (fun W a=>by
  have c:=ZmZ 3 s.now.st.kind s.next W;have n:Zgb s.now.st.kind s.next:=⟨q.1,q.2,A,y⟩;have B:Zr 3 s.now.st.kind s.next=0:=by unfold Zr;rw[if_pos (by decide),if_pos n]
  have F:Zgr 3 s.now.st.kind s.next=Qe (X6 3 s.now.st.kind.toNat s.next.toNat):=by unfold Zgr;rw[if_pos (by decide),if_pos n];rfl
  unfold Zqk at c;rw[B,F] at c;refine c.mono ?_;rintro e w' ⟨v',rfl,H,b⟩
  exact⟨v',rfl,H.mono a.size,a.trans (b.mono a.size)⟩)
 have d:Hid (∀ W,Below w.heap.size w W->W.cell? ⟨p,6,none⟩=some (.int .i64 s.now.st.kind)):=ZZ (fun W a=>by
  obtain⟨-,-,-,-,-,⟨-,C,-⟩,-⟩:=(k.o.below a).cs
  exact C)
 have m:Hid (Below w.heap.size w w.drew):=ZZ (Below.refl _ _).drew;generalize Qe (X6 3 s.now.st.kind.toNat s.next.toNat)=E at *;generalize s.now.st.kind=kd at *;generalize s.next=nx at *;clear h k t
 go_enter func51,ntmps51
 go_upto_region 1 with fail
 go_cut[3,4] (fun x z wc=>z=.int .i64 0∧Hid (Own wc w.heap.size x E)∧Hid (Below w.heap.size w wc))
 case first=>
  go_region_held(fun W=>W.cell? ⟨p,6,none⟩=some (.int .i64 kd))
   (first | (with_reducible exact d.o _ m.o) | (with_reducible exact d.o _ g.o) | (with_reducible exact d.o _ f.o))
   (first
    | (go_at_call 14;refine(G.o _ m.o).mono ?_;rintro e N ⟨rfl,l⟩;have g:=ZZ l;clear l)
    | (go_at_call 93;refine(D.o _ g.o).mono ?_;rintro e O ⟨K,rfl,i,j⟩;have J:=ZZ i;have f:=ZZ j;clear i j))
  all_goals
   go_wp2_with fail
   go_meet
   exact⟨rfl,J,f⟩
 case rest=>
  obtain⟨rfl,v,u⟩:=hcut;go_wp2;go_ret;exact⟨_,rfl,v.o,u.o⟩
def ZxK (t:List Ent):Prop:=Zhh t∧∀ e ∈ t,0<=e.proc∧e.proc<=64
theorem Znb:∀ (t:List Ent) (a:Int),Zhh t->(∀ e ∈ t,a<=e.proc∧e.proc<=64)->(t.length:Int)<=max 0 (65-a)
 | [],a,_,_=>by simp only [List.length_nil];omega
 | e::t,a,h,hb=>by
  unfold Zhh at h;rw[List.pairwise_cons] at h;have c:=hb e List.mem_cons_self;have d:=Znb t (e.proc+1) h.2 (fun x b=>⟨by have:=h.1 x b;omega,(hb x (List.mem_cons_of_mem _ b)).2⟩)
  rw[List.length_cons];omega
theorem ZxK.few (h:ZxK t):t.length<=65:=by
 have:=Znb t 0 h.1 h.2;omega
theorem ZxK.note (h:ZxK t) {e:Ent} (c:0<=e.proc) (b:e.proc<=64):ZxK (ZcE t e):=by
 refine⟨Zhi h.1,fun x a=>?_⟩
 rw[ZlR] at a;rcases a with rfl | ⟨a,_⟩
 ·exact⟨c,b⟩
 ·exact h.2 x a
theorem Zel.tabR (h:Zel t):ZxK t:=⟨h.rises,fun e a=>by
 have:=h.mem e a;unfold ZbZ at this
 omega⟩
def SnS (s:Qv):Prop:=X8 s.st∧ZxK s.tab
theorem SnS.next {s:Qv} {r:Rec} (h:SnS s) (b:Qw r):SnS (ZiW s r):=by
 refine⟨Zhm h.1 r.op,?_⟩;obtain⟨-,-,-,-,-,c,a,-⟩:=b;exact h.2.note c a
theorem SnS.take:∀ {l:List Rec} {s:Qv},SnS s->(Xa s l).2=0->SnS (Xa s l).1
 | [],_,h,_=>h
 | r::l,s,h,h0=>by
  rw[Xa] at h0 ⊢;split at h0
  ·cases h0
  ·rename_i c
   rw[if_neg c];split at h0
   ·cases h0
   ·rename_i b
    rw[if_neg b]
    exact SnS.take (h.next (by
     by_cases a:Qw r
     ·exact a
     ·exact absurd a b)) h0
structure OkS (s:Sto):Prop where
 log:OkG s.log
 nx:s.now.idx=s.next
 now:SnS s.now
 cur:s.cur≠0->s.log.pcs.length≠0
 sy:I64 s.synced
 cu:I64 s.cur
theorem OkS.num (h:OkS s):ZoJ s:=⟨h.log.f0,h.log.top,h.sy,h.cu⟩
theorem OkG.recOk {b:Lgb} (h:OkG b):∀ r ∈ b.recs,ZcK r:=fun r a=>Zcl (h.fits r a)
theorem SD.begin (h:SD K w pd p s d N T) (f:∀ k,K k->k<w.heap.size) (name first:Int) (v:s.log.pcs.length<=1000000):
 Calls prog 53 #[.pointer (some ⟨p,1,none⟩),.int .i64 name,.int .i64 first] w fun e w'=>e=.returned (.tuple #[])∧SD K w' pd p { s with log:=s.log.start name first } d N T∧Qj (fun k=>¬ K k) w w':=by
 obtain⟨F,M,I,L,q,a,b,g,t,j,u⟩:=h;refine(ZjS 76 (by decide) (by decide) p 1 _ L.rv L.pv s.log name first w a.toLog v).mono ?_
 rintro e w' ⟨m,c⟩;obtain⟨M',L',i,-,-,l,x⟩:=a.ofLog c;exact⟨m,SD.own f q b g t j u l i x (fun _ n=>.inl n)⟩
theorem SD.add (h:SD K w pd p s d N T) (m:∀ k,K k->k<w.heap.size) (a:Value) (l:List Rec) (t:RdR w a l) (i:s.log.pcs.length≠0) (D:s.log.pcs.length<=1000000) (f:s.log.recs.length+l.length<=10000000) (c:∀ q ∈ s.log.pcs,0<=q.stop∧q.stop<=4611686018427387904):
 Calls prog 54 #[.pointer (some ⟨p,1,none⟩),a] w fun e w'=>e=.returned (.tuple #[])∧SD K w' pd p { s with log:=s.log.add l } d N T∧Qj (fun k=>¬ K k) w w':=by
 obtain⟨F,M,I,L,A,b,g,n,B,v,C⟩:=h;refine(Zua 76 (by decide) (by decide) p 1 _ L.rv L.pv s.log a l w b.toLog t i D f c).mono ?_
 rintro e w' ⟨y,j⟩;obtain⟨M',L',u,-,-,x,E⟩:=b.ofLog j;exact⟨y,SD.own m A g n B v C x u E (fun _ z=>.inl z)⟩
def Zlo (w:World) (p o:Nat) (x0 x1 x2 x3 x4 x5:Value):World:=(((((w.setCell ⟨p,o,none⟩ x0).setCell ⟨p,o+1,none⟩ x1).setCell ⟨p,o+2,none⟩ x2).setCell ⟨p,o+3,none⟩ x3).setCell ⟨p,o+4,none⟩ x4).setCell ⟨p,o+5,none⟩ x5
theorem ZrV (w:World) (p o:Nat) (c d b f g e:Value) (k:Nat) (a:k≠p):(Zlo w p o c d b f g e).heap[k]?=w.heap[k]?:=by
 unfold Zlo;rw[Below.heap_setCell _ _ _ _ a,Below.heap_setCell _ _ _ _ a,Below.heap_setCell _ _ _ _ a,Below.heap_setCell _ _ _ _ a,Below.heap_setCell _ _ _ _ a,Below.heap_setCell _ _ _ _ a]
theorem ZrW (w:World) (p o:Nat) (d e c g i f:Value) (M:Nat->Prop) (a:M p):Qj M w (Zlo w p o d e c g i f):=
 ((((((Qj.refl M w).setCell (b:=p) _ (fun _=>a) _).setCell (b:=p) _ (fun _=>a) _).setCell (b:=p) _ (fun _=>a) _).setCell (b:=p) _ (fun _=>a) _).setCell (b:=p) _ (fun _=>a) _).setCell (b:=p) _ (fun _=>a) _
theorem SD.setNow {W:World} {F:Nat->Prop} {L:ZdP} (B:∀ k,K k->k<w.heap.size) (O:Dsk F w pd d N T) (a:Z0 M I w p pd L s) (A:∀ k,F k->¬ K k) (D:∀ k,M k->¬ K k) (P:∀ k,I k->¬ K k) (J:∀ k,F k->¬ M k) (S:∀ k,F k->¬ I k)
 (i:Below w.heap.size w W) (x:Qv × Value × Value) (z:SnR W x) (hi:ZlB (fun k=>I k∨(w.heap.size<=k∧k<W.heap.size)) x):
 SD K (Zlo W p 5 (.int .i64 x.1.idx) (.int .i64 x.1.st.kind) x.2.1 (.bool x.1.st.shut) (.int .i64 x.1.st.eng) x.2.2) pd p { s with now:=x.1 } d N T∧
  Qj (fun k=>¬ K k) w (Zlo W p 5 (.int .i64 x.1.idx) (.int .i64 x.1.st.kind) x.2.1 (.bool x.1.st.shut) (.int .i64 x.1.st.eng) x.2.2):=by
 obtain⟨f,j⟩:∃ f,f=Zlo W p 5 (.int .i64 x.1.idx) (.int .i64 x.1.st.kind) x.2.1 (.bool x.1.st.shut) (.int .i64 x.1.st.eng) x.2.2:=⟨_,rfl⟩;rw[<-j];have b:=a.below i;have hk:∀ k,k≠p->f.heap[k]?=W.heap[k]?:=fun k hk=>by rw[j];exact ZrV _ _ _ _ _ _ _ _ _ k hk
 have Q:Qj M w f:=(Qj.ofBelow i).trans (G:=M) (by rw[j];exact ZrW _ _ _ _ _ _ _ _ _ M a.mh) (fun _ _ h=>h)
 have u:f.heap.size=W.heap.size:=by rw[j];unfold Zlo;simp
 have U:p<w.heap.size:=a.ltM p a.mh
 have R:Bk 76 f p (stC pd { L with nl:=x.2.1,nt:=x.2.2 } { s with now:=x.1 }):=by
  rw[j];exact(((((b.head.set 5 _).set 6 _).set 7 _).set 8 _).set 9 _).set 10 _
 have m:∀ {t:TypeId} {n sz g:Nat} {v:Value} {xs:List Value},W.ownsRow 0 t sz v n xs->v.ownBlock=some g->t≠76->g≠p:=fun E c H=>by
  obtain⟨V,i⟩:=Xm E c;exact i.ne b.head H
 have q:∀ k,(I k∨(w.heap.size<=k∧k<W.heap.size))->f.heap[k]?=W.heap[k]?:=fun k C=>hk k (fun e=>by
  subst e;rcases C with h | h
  ·exact a.dis _ a.mh h
  ·omega)
 refine SD.own (I':=fun k=>I k∨(w.heap.size<=k∧k<W.heap.size)) (M':=M) (L':={ L with nl:=x.2.1,nt:=x.2.2 }) B O A D P J S Q ⟨R,Qh b.recs fun g c=>hk g (m b.recs c (by decide)),Qh b.pcs fun g c=>hk g (m b.pcs c (by decide)),Qh b.bases fun g c=>hk g (m b.bases c (by decide)),b.bsEq,z.keep hi q,fun y l=>(b.base y l).keep (b.ibase y l) (fun g c=>q g (.inl c)),a.mh,a.mr,a.mp,a.mb,hi,fun y l=>(a.ibase y l).mono (fun k hk=>.inl hk),fun k hm=>?_,fun k hm=>?_,fun k hm hi=>?_⟩ (fun _ hk=>.inl hk) (fun k hk=>?_)
 ·rw[u];exact Nat.lt_of_lt_of_le (a.ltM k hm) i.size
 ·rw[u]
  rcases hm with hm | hm
  ·exact Nat.lt_of_lt_of_le (a.ltI k hm) i.size
  ·exact hm.2
 ·rcases hi with hi | hi
  ·exact a.dis k hm hi
  ·have:=a.ltM k hm
   omega
 ·rcases hk with hk | hk
  ·exact .inl hk
  ·exact .inr hk.1
theorem Znc (h:Yc l):(Y2 l).length<=20000:=by
 obtain⟨d,e,a,i⟩:=h;have b:=ZfB l [] (fun r b=>by cases b) a
 unfold Y2;rw[length_append,length_append]
 have c:Qw (l.headD Qi):=by
  match l,d with
  | r::t,_=>exact a r List.mem_cons_self
 have g:(Lib.uvarint (l.headD Qi).idx.toNat).length<=10:=Ji (by have:=c.2.2.1;omega)
 have f:(Lib.uvarint l.length).length<=10:=Ji (by omega)
 omega
theorem ZrX (h:Yc l) (b:0<=s.now.st.kind∧s.now.st.kind<6) (e:s.next<4611686018427387904):(Zbl s l).length<=30000:=by
 have a:=Znc h;have c:=Qz (Y2 l);have j:=Qz (X6 3 s.now.st.kind.toNat s.next.toNat);have i:=ZeF (v:=3) (k:=s.now.st.kind.toNat) (f:=s.next.toNat) (by decide) (by omega) (by omega)
 have g:(Lib.uvarint (Y2 l).length).length<=10:=Ji (by omega)
 have d:(Lib.uvarint (X6 3 s.now.st.kind.toNat s.next.toNat).length).length<=10:=Ji (by omega)
 unfold Zbl;split
 ·rw[length_append]
  omega
 ·omega
theorem ZcP (h:OkD d) (first:Int) (f:0<=first) (g:first<=1000):I64 (Ya d first):=by
 have a:∀ n ∈ Xg (Ql d) first,0<=n∧n<1048576:=fun n b=>ZaZ h n (List.mem_filter.1 b).1
 unfold Ya;generalize Xg (Ql d) first=l at a ⊢;by_cases c:l.length=0
 ·rw[List.eq_nil_of_length_eq_zero c]
  show I64 (first-2+2);exact⟨by omega,by omega⟩
 ·have e:l.getD (l.length-1) (first-2)=l[l.length-1]'(by omega):=by simp[List.getD,show l.length-1<l.length by omega]
  have:=a _ (List.getElem_mem (show l.length-1<l.length by omega))
  rw[e];exact⟨by omega,by omega⟩
theorem RdR.keepK (h:RdR w v l) (hv:l=[]∨∀ k,v.ownBlock=some k->K k) (n:Qj (fun k=>¬ K k) w w'):RdR w' v l:=by
 obtain⟨ao,cap,rfl,i,e,g,m,a⟩:=h;refine⟨ao,cap,rfl,i,e,g,m,?_⟩;rcases hv with hv | hv
 ·exact .inl hv
 rcases a with a | ⟨b,f,rfl,d⟩
 ·exact .inl a
 ·exact .inr ⟨b,f,rfl,fun j c=>(d j c).keep (n.block b (d j c).lt (fun p=>p (hv b rfl)))⟩
theorem SD.takes (h:SD K w pd p s d N T) (hK:∀ k,K k->k<w.heap.size) (O:SnS s.now) (C:Value) (l:List Rec) (hr:RdR w C l) (ag:l.length<=1000000):
 ∃ b a lc c f n,(w.cell? ⟨p,5,none⟩=some (.int .i64 s.now.idx)∧w.cell? ⟨p,6,none⟩=some (.int .i64 s.now.st.kind)∧w.cell? ⟨p,7,none⟩=some (.slice b a lc)∧w.cell? ⟨p,8,none⟩=some (.bool s.now.st.shut)∧w.cell? ⟨p,9,none⟩=some (.int .i64 s.now.st.eng)∧w.cell? ⟨p,10,none⟩=some (.slice c f n))∧
  Calls prog 15 #[.agg #[.int .i64 s.now.idx,.int .i64 s.now.st.kind,.slice b a lc,.bool s.now.st.shut,.int .i64 s.now.st.eng,.slice c f n],C] w fun e w'=>
   ∃ u D t x A q,e=.returned (.tuple #[.agg #[.int .i64 (Xa s.now l).1.idx,.int .i64 (Xa s.now l).1.st.kind,.slice u D t,.bool (Xa s.now l).1.st.shut,.int .i64 (Xa s.now l).1.st.eng,.slice x A q],.int .i64 (Xa s.now l).2])∧
    (w'.cell? ⟨p,5,none⟩=some (.int .i64 s.now.idx)∧w'.cell? ⟨p,6,none⟩=some (.int .i64 s.now.st.kind)∧w'.cell? ⟨p,7,none⟩=some (.slice b a lc)∧w'.cell? ⟨p,8,none⟩=some (.bool s.now.st.shut)∧w'.cell? ⟨p,9,none⟩=some (.int .i64 s.now.st.eng)∧w'.cell? ⟨p,10,none⟩=some (.slice c f n))∧(∀ j,w'.frozen? ⟨p,j,none⟩=false)∧
    SD K (Zlo w' p 5 (.int .i64 (Xa s.now l).1.idx) (.int .i64 (Xa s.now l).1.st.kind) (.slice u D t) (.bool (Xa s.now l).1.st.shut) (.int .i64 (Xa s.now l).1.st.eng) (.slice x A q)) pd p { s with now:=(Xa s.now l).1 } d N T∧
    Qj (fun k=>¬ K k) w (Zlo w' p 5 (.int .i64 (Xa s.now l).1.idx) (.int .i64 (Xa s.now l).1.st.kind) (.slice u D t) (.bool (Xa s.now l).1.st.shut) (.int .i64 (Xa s.now l).1.st.eng) (.slice x A q)):=by
 obtain⟨F,M,I,L,h1,i,h3,h4,h5,h6,h7⟩:=h;obtain⟨b,a,lc,c,f,n,e1,e2⟩:=i.now.shape;have z:L.nl=.slice b a lc:=e1;have B:L.nt=.slice c f n:=e2
 have V:∀ W,Below w.heap.size w W->(W.cell? ⟨p,5,none⟩=some (.int .i64 s.now.idx)∧W.cell? ⟨p,6,none⟩=some (.int .i64 s.now.st.kind)∧W.cell? ⟨p,7,none⟩=some (.slice b a lc)∧W.cell? ⟨p,8,none⟩=some (.bool s.now.st.shut)∧W.cell? ⟨p,9,none⟩=some (.int .i64 s.now.st.eng)∧W.cell? ⟨p,10,none⟩=some (.slice c f n)):=fun W hW=>by
  obtain⟨-,-,-,-,-,⟨c5,c6,c7,c8,c9,U⟩,-⟩:=(i.below hW).cs;rw[z] at c7;rw[B] at U;exact⟨c5,c6,c7,c8,c9,U⟩
 refine⟨b,a,lc,c,f,n,V w (Below.refl _ _),?_⟩;have Y:=i.now.snV
 have ad:snV (L.nx s)=.agg #[.int .i64 s.now.idx,.int .i64 s.now.st.kind,.slice b a lc,.bool s.now.st.shut,.int .i64 s.now.st.eng,.slice c f n]:=by
  unfold snV snC ZdP.nx
  dsimp only
  rw[z,B]
 rw[ad] at Y;have hL:s.now.st.L.length<=1000:=by have:=Zoz O.1;omega
 have hT:s.now.tab.length<=1000:=by have:=O.2.few;omega
 refine(ZmE (P:=SnS) (fun S r y hf=>y.next hf) (fun S y=>by have:=y.2.few;omega) _ _ _ _ _ _ s.now C l w Y hr hL hT (by omega) O).mono ?_
 rintro e w' ⟨E,Q,rfl,G,r2,r3,Z,r5,g1,g2,H⟩;obtain⟨u,t,R,-⟩:=id G;obtain⟨x,q,hu⟩:=Z.shape;have y:SnR w' ((Xa s.now l).1,E,Q):=⟨G,Z,r2,r3,r5⟩
 have aa:ZlB (fun k=>I k∨(w.heap.size<=k∧k<w'.heap.size)) ((Xa s.now l).1,E,Q):=by
  refine⟨?_,?_⟩
  ·rcases G.block with ae | ⟨af,k,X,ab⟩
   ·exact .inl ae
   ·rcases g1 with g1 | g1
    ·rcases i.inow.1 with hi | hi
     ·obtain⟨a2,c2,h9,-⟩:=i.now.l
      have v:L.nl=.slice a2 s.now.st.L.length c2:=h9;have ac:s.now.st.L=[]:=hi;rw[ac] at v;rw[R] at g1;rw[z] at v
      injection g1 with _ g1 _
      injection v with _ v _
      exact .inl (List.eq_nil_of_length_eq_zero (by rw[g1,v];rfl))
     ·refine .inr fun g m=>.inl (hi g ?_)
      show L.nl.ownBlock=some g;rw[z,<-g1];exact m
    ·refine .inr fun g m=>.inr ⟨g1 g m,?_⟩
     rw[m] at X;obtain rfl:=Option.some.inj X;exact ab
  ·rcases g2 with ⟨rfl,g2⟩ | g2
   ·rcases i.inow.2 with hi | hi
    ·exact .inl hi
    ·refine .inr fun g m=>.inl (hi g ?_)
     show L.nt.ownBlock=some g;rw[B,<-g2];exact m
   ·exact .inr fun g m=>.inr (World.ownsRow.lt g2 g m)
 have J:=SD.setNow hK h1 i h3 h4 h5 h6 h7 H ((Xa s.now l).1,E,Q) y aa
 dsimp only at J
 subst R hu;exact⟨u,_,t,x,_,q,rfl,V w' H,fun j=>(i.below H).fz j,J.1,J.2⟩
end Go.Proofs.YtnahjngbneicaaaGreatDoor
