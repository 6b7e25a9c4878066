import Derived.Test.YtnahjngbneicaaaGreatDoorPack10
namespace Go.Proofs.YtnahjngbneicaaaGreatDoor
open _root_.Go.Proofs.Tryz
open List (length_append length_drop nil_append take_length)
set_option maxHeartbeats 8000000
set_option maxRecDepth 100000
open Go.RowKit
variable {L:List (List UInt8)} {d:Dk} {w w':World} {B N T b n p pd:Nat} {x y z:Int} {v:Value} {f:Int->Int} {I K M:Nat->Prop} {s:Sto} {t:List Ent} {l:List Rec}
theorem Zdx (v:Int) (B:Bool) (c:B=decide (1<=v∧v<=3)) (w:World):
 Calls prog 188 #[.int .i64 v] w fun e w'=>e=.returned (.bool B)∧w'=w:=by
 subst c;by_cases h:1<=v∧v<=3
 ·rw[decide_eq_true h]
  obtain⟨b,a⟩:=h
  go_enter func188,ntmps188
  go_wp2;go_ret;exact⟨rfl,rfl⟩
 ·rw[decide_eq_false h]
  by_cases b:1<=v
  ·have a:¬ v<=3:=fun a=>h ⟨b,a⟩
   clear h
   go_enter func188,ntmps188
   go_wp2;go_ret;exact⟨rfl,rfl⟩
  ·clear h
   go_enter func188,ntmps188
   go_wp2;go_ret;exact⟨rfl,rfl⟩
theorem ZnL (v k f:Int) (w:World):
 Calls prog 137 #[.agg #[.int .i64 v,.int .i64 k,.int .i64 f]] w fun e w'=>e=.returned (.int .i64 (Jj v k f))∧Below w.heap.size w w':=by
 have c:Hid (∀ X,Below w.heap.size w (w.alloc X)):=fun X=>(Below.refl _ _).alloc zL X
 by_cases a:1<=v∧v<=3
 case neg=>
  have b:=ZZ (Zdx v false (by rw[decide_eq_false a]))
  have d:Hid (Jj v k f=6):=ZZ (if_neg a);rw[d.o];clear a
  go_enter func137,ntmps137
  go_wp2_with fail
  refine(b.o _).mono ?_;rintro e g ⟨rfl,rfl⟩;go_wp2;go_ret;exact⟨rfl,c.o _⟩
 have b:=ZZ (Zdx v true (by rw[decide_eq_true a]))
 by_cases h:Zgs k f
 case neg=>
  have d:Hid (Jj v k f=1):=ZZ (by unfold Jj;rw[if_pos a,if_neg h])
  rw[d.o];clear a;by_cases x:k<0
  ·clear h
   go_enter func137,ntmps137
   go_wp2_with fail
   refine(b.o _).mono ?_;rintro e g ⟨rfl,rfl⟩;go_wp2;go_ret;exact⟨rfl,c.o _⟩
  by_cases l:6<=k
  ·clear h
   go_enter func137,ntmps137
   go_wp2_with fail
   refine(b.o _).mono ?_;rintro e g ⟨rfl,rfl⟩;go_wp2;go_ret;exact⟨rfl,c.o _⟩
  by_cases m:f<0
  ·clear h
   go_enter func137,ntmps137
   go_wp2_with fail
   refine(b.o _).mono ?_;rintro e g ⟨rfl,rfl⟩;go_wp2;go_ret;exact⟨rfl,c.o _⟩
  have i:4611686018427387904<=f:=by
   by_cases i:f<4611686018427387904
   ·exact absurd ⟨by omega,by omega,by omega,i⟩ h
   ·omega
  clear h
  go_enter func137,ntmps137
  go_wp2_with fail
  refine(b.o _).mono ?_;rintro e g ⟨rfl,rfl⟩;go_wp2;go_ret;exact⟨rfl,c.o _⟩
 have d:Hid (Jj v k f=0):=ZZ (by unfold Jj;rw[if_pos a,if_pos h])
 rw[d.o];obtain⟨q,t,u,y⟩:=h;have n:¬ k<0:=by omega
 have j:¬ 6<=k:=by omega
 have z:¬ f<0:=by omega
 have p:¬ 4611686018427387904<=f:=by omega
 clear a
 go_enter func137,ntmps137
 go_wp2_with fail
 refine(b.o _).mono ?_;rintro e g ⟨rfl,rfl⟩;go_wp2;go_ret;exact⟨rfl,c.o _⟩
theorem ZlX {k:Nat} (h:k<L.length):Qf (L.take (k+1))=Qf (L.take k)++Qd (L.getD k []):=by
 rw[ZsL h,Zax];simp[Qf]
theorem ZpQ {d:List UInt8} (h:d.length<=1048576):ZgE (d.length:Int)=(Qd d).length:=by
 unfold ZgE;rw[if_pos ⟨by omega,by omega⟩,Q9,Int.toNat_natCast]
 omega
theorem ZvB (v:Value) (L:List (List UInt8)) (w:World) (m:RdL w v L) (j:∀ x ∈ L,x.length<=1048576) (F:(Qf L).length<=10000000):
 Calls prog 206 #[v] w fun e w'=>e=.returned (.int .i64 ((Qf L).length:Nat))∧Below w.heap.size w w':=by
 have H:=ZZ m;obtain⟨ao,cap,rfl,N,q,-⟩:=m;have S:(L.length:Int)<=9223372036854775807:=by unfold maxLen at q;omega
 have M:=ZZ (fun k a=>H.o.at k a)
 obtain⟨Z,c⟩:∃ Z:Nat->Nat,Z=fun k=>(Qf (L.take k)).length:=⟨_,rfl⟩
 have B:Hid (Z 0=0):=ZZ (by rw[c];simp[Qf])
 have E:Hid (∀ k,k<L.length->Z (k+1)=Z k+ZgE ((L.getD k []).length:Int)):=ZZ (fun k a=>by
  rw[c];simp only
  rw[ZlX a,length_append,ZpQ (j _ (Zrc a))])
 have C:Hid (∀ k,Z k<=10000000):=ZZ (fun k=>by
  rw[c];have:=ZeR L k;simp only
  omega)
 have I:Hid ((Qf L).length=Z L.length):=ZZ (by rw[c];simp only;rw[take_length])
 have G:Hid (∀ k,k<L.length->∀ W,Calls prog 134 #[.int .i64 ((L.getD k []).length:Int)] W fun e w'=>e=.returned (.int .i64 (ZgE ((L.getD k []).length:Int):Nat))∧Below W.heap.size W w'):=ZZ (fun k a W=>by
  have:=j _ (Zrc a)
  exact Zra _ W (by omega) (by omega))
 rw[I.o];clear c N q j F
 go_enter func206,ntmps206
 go_wp2
 go_loopw[3,8] (fun vs l wr=>∃ k:Nat,l=.int .i64 (k:Int)∧vs=.int .i64 (Z k:Int)∧k<=L.length∧Hid (Below w.heap.size w wr)) (fun _ l _=>L.length-(intOf l).toNat)
 case atStart=>exact⟨0,rfl,by rw[B.o];rfl,Nat.zero_le _,Below.refl _ _⟩
 case round=>
  obtain⟨k,rfl,rfl,a,d⟩:=hrel;by_cases i:k<L.length
  case neg=>
   have e:k=L.length:=by omega
   subst e;go_wp2;go_ret;exact⟨rfl,d.out⟩
  obtain⟨b,O,x,rfl,y,u⟩:=M.o k i;have Q:=y wr d.out;have f:=ZZ (E.o k i);have D:=ZZ (G.o k i);have A:=C.o (k+1);rw[f.o] at A;obtain⟨R,T,rfl,-⟩:=u wr d.out;obtain⟨p,g⟩:∃ p,p=Z (k+1):=⟨_,rfl⟩;rw[<-g] at f;have K:=ZZ g;generalize Z k=z at *;generalize ZgE ((L.getD k []).length:Int)=sz at *;generalize (L.getD k []).length=n at *;clear y u g
  go_wp2_with fail
  refine(D.o _).mono ?_;rintro e P ⟨rfl,t⟩;have J:=ZZ (d.out.trans (t.mono d.out.size));clear t;go_wp2;go_roundw
  case rel=>exact⟨k+1,by go_num,by rw[<-K.o,f.o];go_num,by omega,J⟩
  case measure=>simp[intOf];omega
theorem ZpR (a b c:Int) (W:World):(Instr.index 188 (.agg #[.int .i64 a,.int .i64 b,.int .i64 c]) (.int .i64 0)).run prog W=.ok (.int .i64 a) W:=by
 simp[Instr.index,run_underlying underlying188,asIntOf,go_sem]
theorem ZpS (b a c:Int) (W:World):(Instr.index 188 (.agg #[.int .i64 b,.int .i64 a,.int .i64 c]) (.int .i64 1)).run prog W=.ok (.int .i64 a) W:=by
 simp[Instr.index,run_underlying underlying188,asIntOf,go_sem]
theorem ZpT (c b a:Int) (W:World):(Instr.index 188 (.agg #[.int .i64 c,.int .i64 b,.int .i64 a]) (.int .i64 2)).run prog W=.ok (.int .i64 a) W:=by
 simp[Instr.index,run_underlying underlying188,asIntOf,go_sem]
theorem ZnM (v k f:Int) (Z:1<=v∧v<=3) (h:Zgs k f) (w:World):
 Calls prog 138 #[.agg #[.int .i64 v,.int .i64 k,.int .i64 f]] w fun e w'=>∃ v',e=.returned v'∧Own w' w.heap.size v' (Xq v.toNat k.toNat f.toNat)∧Below w.heap.size w w':=by
 obtain⟨N,k1,S,U⟩:=h
 have t:Hid (∀ c l n W,Rd W c l->l.length<=1000->0<=n->n<4611686018427387904->Calls prog 132 #[c,.int .i64 n] W fun e w'=>∃ v',e=.returned v'∧Own w' W.heap.size v' (l++Lib.uvarint n.toNat)∧Below W.heap.size W w'):=fun c l n W h hl R O=>by
  have h:=ZbE c l n W h (by omega)
  rw[J0 R O] at h;exact h
 have Q:(Lib.uvarint v.toNat).length<=10:=Gh (by omega)
 have L:(Lib.uvarint k.toNat).length<=10:=Gh (by omega)
 have F:Hid (Xq v.toNat k.toNat f.toNat=(([108]++Lib.uvarint v.toNat)++Lib.uvarint k.toNat)++Lib.uvarint f.toNat):=ZZ (by unfold Xq;simp)
 have I:=ZZ (fun c W h=>t.o c [108] v W h (by simp) (by omega) (by omega))
 have H:=ZZ (fun c W h=>t.o c ([108]++Lib.uvarint v.toNat) k W h (by simp only [length_append,List.length_singleton];omega) N (by omega))
 have A:=ZZ (fun c W h=>t.o c (([108]++Lib.uvarint v.toNat)++Lib.uvarint k.toNat) f W h (by simp only [length_append,List.length_singleton];omega) S U)
 rw[<-F.o] at A;clear F t;obtain⟨d,i⟩:∃ d:Nat->List UInt8,d=fun q=>if q=0 then[108] else if q=1 then[108]++Lib.uvarint v.toNat else if q=2 then[108]++Lib.uvarint v.toNat++Lib.uvarint k.toNat else Xq v.toNat k.toNat f.toNat:=⟨_,rfl⟩
 have C:[108]=d 0:=by rw[i];rfl
 have z:[108]++Lib.uvarint v.toNat=d 1:=by rw[i];rfl
 have u:[108]++Lib.uvarint v.toNat++Lib.uvarint k.toNat=d 2:=by rw[i];rfl
 have B:Xq v.toNat k.toNat f.toNat=d 3:=by rw[i];rfl
 have T:Hid (∀ W:World,Rd (W.alloc (.cells #[.int .u8 108] 5)) (.slice (some ⟨W.heap.size,0,none⟩) 1 1) (d 0)):=ZZ (fun W=>by rw[<-C];exact Rd.byte W 108)
 rw[u,B] at A;rw[u,z] at H;rw[z,C] at I;rw[B];clear C z u B i Q L;have V:Hid (∀ X Y,Below w.heap.size w ((w.alloc X).alloc Y)):=fun X Y=>Below.allocs (Below.allocs (Below.refl _ _) X) Y
 go_enter func138,ntmps138
 go_wp2
 go_loopw[3,8] (fun J x wr=>∃ q:Nat,x=.int .i64 (q:Int)∧q<=3∧Hid (Rd wr J (d q))∧Hid (1<=q->Own wr w.heap.size J (d q))∧Hid (Below w.heap.size w wr)) (fun _ x _=>3-(intOf x).toNat)
 case atStart=>
  refine⟨0,rfl,Nat.zero_le _,?_,fun h=>absurd h (by decide),V.o _ _⟩
  have h:=T.o (w.alloc (.cells #[.int .i64 v,.int .i64 k,.int .i64 f] 188));have e:(w.alloc (.cells #[.int .i64 v,.int .i64 k,.int .i64 f] 188)).heap.size=w.heap.size+1:=by simp
  rw[e] at h;exact h
 case round=>
  obtain⟨q,rfl,hq,y,P,b⟩:=hrel;by_cases aa:q<3
  case neg=>
   have e:q=3:=by omega
   subst e;have K:=ZZ (P.out (by decide))
   go_wp2;go_ret;exact⟨_,rfl,K.o,b.out⟩
  have M:q=0∨q=1∨q=2:=by omega
  rcases M with rfl | rfl | rfl
  ·have D:=ZpR v k f
   go_wp2_with fail
   refine(I.o _ _ y.out).mono ?_;rintro e G ⟨E,rfl,a,g⟩;have p:=ZZ a.rd;have m:=ZZ (a.mono b.out.size);have j:=ZZ (b.out.trans (g.mono b.out.size));clear a g;go_wp2;go_roundw
   case rel=>exact⟨1,rfl,by omega,p,ZZ (fun _=>m.o),j⟩
   case measure=>simp[intOf]
  ·have D:=ZpS v k f
   go_wp2_with fail
   refine(H.o _ _ y.out).mono ?_;rintro e G ⟨E,rfl,a,g⟩;have p:=ZZ a.rd;have m:=ZZ (a.mono b.out.size);have j:=ZZ (b.out.trans (g.mono b.out.size));clear a g;go_wp2;go_roundw
   case rel=>exact⟨2,rfl,by omega,p,ZZ (fun _=>m.o),j⟩
   case measure=>simp[intOf]
  ·have D:=ZpT v k f
   go_wp2_with fail
   refine(A.o _ _ y.out).mono ?_;rintro e G ⟨E,rfl,a,g⟩;have p:=ZZ a.rd;have m:=ZZ (a.mono b.out.size);have j:=ZZ (b.out.trans (g.mono b.out.size));clear a g;go_wp2;go_roundw
   case rel=>exact⟨3,rfl,by omega,p,ZZ (fun _=>m.o),j⟩
   case measure=>simp[intOf]
theorem ZnN (v k f:Int) (w:World):
 Calls prog 93 #[.int .i64 v,.int .i64 k,.int .i64 f] w fun e w'=>Zrb w v k f e w':=by
 unfold Zrb;have p:Hid (∀ X,Below w.heap.size w (w.alloc X)):=fun X=>(Below.refl _ _).alloc zL X
 have C:Hid (∀ cs,(w.alloc (.cells cs 188)).heap[w.heap.size]?=some (.cells cs 188 (0,0))):=fun cs=>heap_alloc_new w _
 have m:=ZZ (fun W=>ZnL v k f W)
 by_cases i:(1<=v∧v<=3)∧Zgs k f
 case neg=>
  have b:Jj v k f≠0∧ZgI v k f=[]:=by
   unfold Jj ZgI;by_cases a:1<=v∧v<=3
   ·rw[if_pos a,if_pos a,if_neg (fun h=>i ⟨a,h⟩),if_neg (fun h=>i ⟨a,h⟩)]
    exact⟨by decide,rfl⟩
   ·rw[if_neg a,if_neg a]
    exact⟨by decide,rfl⟩
  obtain⟨b,g⟩:=b;rw[g];generalize Jj v k f=G at *;have Q:(G != 0)=true:=by rw[bne_iff_ne];exact b
  clear i b g
  go_enter func93,ntmps93
  go_wp2_with fail
  refine(m.o _).mono ?_;rintro e l ⟨rfl,c⟩;have j:=ZZ ((p.o _).trans (c.mono (p.o _).size));clear c;go_wp2;go_ret2;exact⟨_,rfl,Own.nil _ _,j.o⟩
 obtain⟨a,d⟩:=i;have I:=ZZ (fun W=>ZnM v k f a d W)
 have b:Jj v k f=0:=by unfold Jj;rw[if_pos a,if_pos d]
 have g:ZgI v k f=Qd (Xq v.toNat k.toNat f.toNat):=by unfold ZgI;rw[if_pos a,if_pos d]
 have R:(Xq v.toNat k.toNat f.toNat).length<=40:=ZcP (by omega) (by have:=d.2.1;omega) (by have:=d.2.2.2;omega)
 have x:=ZZ (fun A W (h:Rd W A (Xq v.toNat k.toNat f.toNat))=>Zdj A _ W h)
 rw[ZlW (by omega)] at x
 rw[b] at m ⊢;rw[g];generalize Xq v.toNat k.toNat f.toNat=H at *;generalize Qd H=F at *;clear a d b g
 go_enter func93,ntmps93
 go_wp2_with fail
 refine(m.o _).mono ?_;rintro e l ⟨rfl,c⟩;have n:=ZZ ((c.block _ (by simp)).trans (C.out _))
 have j:=ZZ ((p.o _).trans (c.mono (p.o _).size));clear c m;have E:l.cell? ⟨w.heap.size,0,none⟩=some (.int .i64 v):=cell_of_row _ _ 0 _ _ _ n.o;have J:l.cell? ⟨w.heap.size,1,none⟩=some (.int .i64 k):=cell_of_row _ _ 1 _ _ _ n.o;have D:l.cell? ⟨w.heap.size,2,none⟩=some (.int .i64 f):=cell_of_row _ _ 2 _ _ _ n.o
 go_wp2_with fail
 refine(I.o _).mono ?_;rintro e O ⟨N,rfl,y,z⟩;have L:=ZZ y.rd;have q:=ZZ (j.o.trans (z.mono j.o.size));clear y z E J D n
 go_wp2_with fail
 refine(x.o _ _ L.o).mono ?_;rintro e P ⟨M,rfl,t,u⟩;have B:=ZZ (t.mono q.o.size);have K:=ZZ (q.o.trans (u.mono q.o.size));clear t u;go_wp2;go_ret2;exact⟨_,rfl,B.o,K.o⟩
def Bhd (w:World) (b:Nat) (x y z:Int):Prop:=w.heap[b]?=some (.cells #[.int .i64 x,.int .i64 y,.int .i64 z] 188 (0,0))
theorem Bhd.lt (h:Bhd w b x y z):b<w.heap.size:=(Array.getElem?_eq_some_iff.1 h).1
theorem Bhd.below (h:Bhd w b x y z) (c:Below B w w') (a:b<B):Bhd w' b x y z:=(c.block b a).trans h
theorem Bhd.cell (h:Bhd w b x y z):(w.cell? ⟨b,0,none⟩=some (.int .i64 x)∧w.cell? ⟨b,1,none⟩=some (.int .i64 y)∧w.cell? ⟨b,2,none⟩=some (.int .i64 z))∧∀ j,w.frozen? ⟨b,j,none⟩=false:=
 ⟨⟨cell_of_row w b 0 _ _ _ h,cell_of_row w b 1 _ _ _ h,cell_of_row w b 2 _ _ _ h⟩,fun j=>frozen_of_row w b j _ _ h⟩
theorem Bhd.set0 (h:Bhd w b x y z) (n:Int):Bhd (w.setCell ⟨b,0,none⟩ (.int .i64 n)) b n y z:=by
 have a:=heap_setCell_same w b 0 _ _ (.int .i64 n) h;unfold Bhd;simpa using a
theorem Bhd.set1 (h:Bhd w b x y z) (n:Int):Bhd (w.setCell ⟨b,1,none⟩ (.int .i64 n)) b x n z:=by
 have a:=heap_setCell_same w b 1 _ _ (.int .i64 n) h;unfold Bhd;simpa using a
theorem Bhd.set2 (h:Bhd w b x y z) (n:Int):Bhd (w.setCell ⟨b,2,none⟩ (.int .i64 n)) b x y n:=by
 have a:=heap_setCell_same w b 2 _ _ (.int .i64 n) h;unfold Bhd;simpa using a
theorem Bhd.other {c:Nat} (h:Bhd w b x y z) (a:b≠c) (j:Nat) (u:Value):Bhd (w.setCell ⟨c,j,none⟩ u) b x y z:=(Below.heap_setCell _ _ _ _ a).trans h
def ZzP:Except Int (Nat × Nat × Nat)->Int
 | .error e=>e
 | .ok _=>0
def ZaR (w:World) (d:List UInt8) (e:Ending) (w':World):Prop:=
 ∃ x y z:Int,e=.returned (.tuple #[.agg #[.int .i64 x,.int .i64 y,.int .i64 z],.int .i64 (ZzP (Z0 d))])∧(∀ v k f,Z0 d=.ok (v,k,f)->x=(v:Int)∧y=(k:Int)∧z=(f:Int))∧Below w.heap.size w w'
theorem ZaR.form {d:List UInt8} (h:Z0 d=.error 3) (b:Below w.heap.size w w'):ZaR w d (.returned (.tuple #[.agg #[.int .i64 0,.int .i64 0,.int .i64 0],.int .i64 3])) w':=
 ⟨0,0,0,by rw[h];rfl,(fun v k f a=>by rw[h] at a;cases a),b⟩
theorem ZlY (v:Value) (d:List UInt8) (w:World) (hr:Rd w v d):
 Calls prog 203 #[v] w fun e w'=>ZaR w d e w':=by
 have HR:=ZZ hr;obtain⟨ao,cap,rfl,aZ,aV,-,aM⟩:=hr;have bb:(d.length:Int)<=9223372036854775807:=by unfold maxLen at aV;omega
 have az:Hid (∀ X,Below w.heap.size w (w.alloc X)):=fun X=>(Below.refl _ _).alloc zL X
 by_cases h0:d.length=0
 ·have e:d=[]:=List.eq_nil_of_length_eq_zero h0
  have u:Hid (Z0 d=.error 3):=ZZ (ZkE (.inl e));have aX:((d.length:Int) == 0)=true:=by rw[beq_iff_eq];omega
  clear e h0 aM
  go_enter func203,ntmps203
  go_wp2;refine bodyPost_ret (v:=.tuple #[.agg #[.int .i64 0,.int .i64 0,.int .i64 0],.int .i64 3]) (by simp[results,Tryz.results203,go_sem]) rfl ?_
  exact ZaR.form u.o (az.o _)
 have aX:((d.length:Int) == 0)=false:=beq_eq_false_iff_ne.2 (by omega)
 have be:(0:Int)<(d.length:Int):=by omega
 have al:d≠[]:=fun e=>by rw[e] at h0;simp at h0
 rcases aM with he | ⟨b,au,rfl,hc⟩
 ·exact absurd he al
 have ax:=hc 0 (by omega)
 have a6:b<w.heap.size:=World.block_lt_of_cell? w ⟨b,au+0,none⟩ ax;have a8:∀ X,(w.alloc X).cell? ⟨b,au,none⟩=some (.int .u8 ((d.getD 0 0).toNat:Nat)):=fun X=>((az.o X).cell (p:=⟨b,au,none⟩) a6).trans ax
 clear hc ax aZ aV;by_cases hm:d.getD 0 0=108
 case neg=>
  have u:Hid (Z0 d=.error 3):=ZZ (ZkE (.inr hm))
  have a5:((((d.getD 0 0).toNat:Nat):Int) != 108)=true:=by
   rw[bne_iff_ne];intro h;apply hm;apply UInt8.toNat_inj.1;have:(108:UInt8).toNat=108:=rfl;omega
  clear hm al h0;generalize (((d.getD 0 0).toNat:Nat):Int)=c0 at *
  go_enter func203,ntmps203
  go_wp2;refine bodyPost_ret (v:=.tuple #[.agg #[.int .i64 0,.int .i64 0,.int .i64 0],.int .i64 3]) (by simp[results,Tryz.results203,go_sem]) rfl ?_
  exact ZaR.form u.o (az.o _)
 have a5:((((d.getD 0 0).toNat:Nat):Int) != 108)=false:=by
  rw[hm];rfl
 have aG:¬ (d=[]∨d.getD 0 0≠108):=by rintro(h | h);exact al h;exact h hm
 generalize (((d.getD 0 0).toNat:Nat):Int)=c0 at *;obtain⟨a1,c1,aJ,aW⟩:=Zym w _ d cap HR.o 1 (by omega)
 obtain⟨⟨D,g⟩,av⟩:∃ x,Qb (d.drop 1)=x:=⟨_,rfl⟩;obtain⟨⟨E,m⟩,am⟩:∃ x,Qb (d.drop (1+g))=x:=⟨_,rfl⟩;obtain⟨⟨I,F⟩,ag⟩:∃ x,Qb (d.drop (1+g+m))=x:=⟨_,rfl⟩;have aq:=Ju (d.drop 1);have an:=Ju (d.drop (1+g));have aw:=Ju (d.drop (1+g+m));have q2:=Zxv (d.drop (1+g+m));rw[av,length_drop] at aq;rw[am,length_drop] at an;rw[ag,length_drop] at aw;rw[ag] at q2;simp only at aq an aw q2;have u:=ZZ (ZsN aG av am ag)
 have aF:=aW 1 rfl
 -- the three rounds
 have aP:=ZZ aJ;have HF:=ZZ (fun W=>ZnL (D:Int) (E:Int) (I:Int) W)
 have X1:Hid (∀ x y z Y,Bhd ((w.alloc (.cells #[.int .i64 x,.int .i64 y,.int .i64 z] 188)).alloc Y) w.heap.size x y z):=fun x y z Y=>(Below.heap_alloc _ _ _ (by simp)).trans (heap_alloc_new w _)
 have X2:Hid (∀ X x y z,Bhd ((w.alloc X).alloc (.cells #[.int .i64 x,.int .i64 y,.int .i64 z] 188)) (w.heap.size+1) x y z):=fun X x y z=>Zpl w X _
 have ab:Hid (∀ X Y,Below w.heap.size w ((w.alloc X).alloc Y)):=fun X Y=>Below.allocs (Below.allocs (Below.refl _ _) X) Y
 clear aJ aW hm al h0;obtain⟨l,af⟩:∃ l:Nat->Nat,l=fun q=>if q=0 then 1 else if q=1 then 1+g else if q=2 then 1+g+m else 1+g+m+F:=⟨_,rfl⟩
 have p0:l 0=1:=by rw[af];rfl
 have p1:l 1=1+g:=by rw[af];rfl
 have p2:l 2=1+g+m:=by rw[af];rfl
 have p3:l 3=1+g+m+F:=by rw[af];rfl
 have B:Hid (l 0=1∧l 1=1+g∧l 2=1+g+m∧l 3=1+g+m+F):=ZZ ⟨p0,p1,p2,p3⟩;obtain⟨t,aS⟩:∃ t:Nat->Nat,t=fun q=>(d.drop (l q)).length:=⟨_,rfl⟩
 have U:Hid (∀ q,t q=(d.drop (l q)).length):=ZZ (fun q=>by rw[aS])
 have aH:Hid (Rd w (.slice a1 (t 0) c1) (d.drop (l 0))):=ZZ (by rw[U.o,p0];exact aP.o)
 have a3:∀ W,(Instr.sliceAt 53 (.slice (some ⟨b,au,none⟩) d.length cap) (some (.int .i64 1)) none none).run prog W=.ok (.slice a1 (t 0) c1) W:=by rw[U.o,p0];exact aF
 have aB:Hid (∀ (a:Option Addr) (c q k:Nat),l (q+1)=l q+k->l q+k<=d.length->Rd w (.slice a (t q) c) (d.drop (l q))->∃ a' c',Rd w (.slice a' (t (q+1)) c') (d.drop (l (q+1)))∧∀ i:Int,i=(k:Int)->∀ W,(Instr.sliceAt 53 (.slice a (t q) c) (some (.int .i64 i)) none none).run prog W=.ok (.slice a' (t (q+1)) c') W):=ZZ (fun a c q k hp A aK=>by
  rw[U.o q] at aK;obtain⟨a',c',h1,h2⟩:=Zym w a (d.drop (l q)) c aK k (by rw[length_drop];omega)
  rw[List.drop_drop,<-hp,<-U.o (q+1)] at h1;rw[List.drop_drop,<-hp,<-U.o q,<-U.o (q+1)] at h2
  exact⟨a',c',h1,h2⟩)
 have HG:Hid (∀ W a c q n k,Below w.heap.size w W->Rd w (.slice a (t q) c) (d.drop (l q))->Qb (d.drop (l q))=(n,k)->Calls prog 168 #[.slice a (t q) c] W fun e w'=>e=.returned (.tuple #[.int .i64 (n:Int),.int .i64 (k:Int)])∧w'=W):=ZZ (fun W a c q n k hb h hd=>by
  have hx:=ZcJ _ _ W (h.below hb zL);rw[hd] at hx
  exact hx)
 have HD:Hid (Qb (d.drop 1)=(D,g)∧Qb (d.drop (1+g))=(E,m)∧Qb (d.drop (1+g+m))=(I,F)):=ZZ ⟨av,am,ag⟩;have T:Hid (g<=d.length-1∧m<=d.length-(1+g)∧F<=d.length-(1+g+m)):=ZZ ⟨aq,an,aw⟩;clear af aS p0 p1 p2 p3 aP aF av am ag aq an aw aG
 go_enter func203,ntmps203
 go_wp2
 go_loopw[5,21] (fun vl vi wr=>∃ (q:Nat) (a:Option Addr) (c:Nat) (x y z:Int),vi=.int .i64 (q:Int)∧vl=.slice a (t q) c∧q<=3∧Hid (Rd w (.slice a (t q) c) (d.drop (l q)))∧Hid (Bhd wr (w.heap.size+1) x y z)∧Hid (Bhd wr w.heap.size 0 0 0)∧Hid ((1<=q->x=(D:Int)∧g≠0)∧(2<=q->y=(E:Int)∧m≠0)∧(3<=q->z=(I:Int)∧F≠0))∧Hid (Below w.heap.size w wr)) (fun _ vi _=>3-(intOf vi).toNat)
 case atStart=>exact⟨0,a1,c1,0,0,0,rfl,rfl,Nat.zero_le _,aH,ZZ (X2.out _ _ _ _),ZZ (X1.out _ _ _ _),ZZ ⟨fun h=>absurd h (by decide),fun h=>absurd h (by decide),fun h=>absurd h (by decide)⟩,ZZ (ab.o _ _)⟩
 case round=>
  obtain⟨q,a,c,x,y,z,rfl,rfl,hq,aa,H,J,hI,G⟩:=hrel;clear aH a3 a8;by_cases bg:q<3
  case neg=>
   have e:q=3:=by omega
   subst e;have h1:=hI.out.1 (by decide)
   have h2:=hI.out.2.1 (by decide)
   have h3:=hI.out.2.2 (by decide)
   obtain⟨rfl,aN⟩:=h1;obtain⟨rfl,aQ⟩:=h2;obtain⟨rfl,aD⟩:=h3;by_cases aA:1+g+m+F=d.length
   case neg=>
    have O:Hid (Z0 d=.error 3):=ZZ (by rw[u.o,if_pos (.inr (.inr (.inr aA)))])
    have ap:t 3≠0:=by
     rw[U.o,B.o.2.2.2,length_drop];have:=T.o;omega
    have bj:(0:Int)<(t 3:Int):=by omega
    have a7:0<t 3:=by omega
    have ba:decide (0<t 3)=true:=decide_eq_true a7;generalize t 3=ln at *;obtain⟨⟨S,r1,V⟩,j⟩:=J.out.cell;have f0:=j 0;have f1:=j 1;have f2:=j 2;clear j ap aN aQ aD aA u;go_wp2;refine bodyPost_ret (v:=.tuple #[.agg #[.int .i64 0,.int .i64 0,.int .i64 0],.int .i64 3]) (by simp[results,Tryz.results203,go_sem,S,r1,V]) rfl ?_
    exact ZaR.form O.o (Z3 G.out _ zL _ _ _)
   have ap:t 3=0:=by
    rw[U.o,B.o.2.2.2,length_drop];omega
   have aO:Hid (Jj (D:Int) (E:Int) (I:Int)=ZzP (Z0 d)):=ZZ (by
    rw[u.o,if_neg (by omega)]
    unfold Jj;by_cases g1:D<1∨3<D
    ·rw[if_neg (by omega),if_pos g1];rfl
    ·rw[if_pos (by omega),if_neg g1]
     by_cases g2:6<=E
     ·rw[if_pos g2,if_neg (fun h=>by have:=h.2.1;omega)];rfl
     ·rw[if_neg g2,if_pos ⟨by omega,by omega,by omega,by omega⟩];rfl)
   have a2:Hid (∀ v k f,Z0 d=.ok (v,k,f)->(D:Int)=(v:Int)∧(E:Int)=(k:Int)∧(I:Int)=(f:Int)):=ZZ (fun v k f P=>by
    rw[u.o] at P;split at P
    ·cases P
    split at P
    ·cases P
    split at P
    ·cases P
    simp only [Except.ok.injEq,Prod.mk.injEq] at P;obtain⟨rfl,rfl,rfl⟩:=P
    exact⟨rfl,rfl,rfl⟩)
   rw[aO.o] at HF;rw[ap] at aa ⊢;obtain⟨er,aC⟩:∃ er,er=ZzP (Z0 d):=⟨_,rfl⟩;rw[<-aC] at HF;have a9:=ZZ aC;clear aC;obtain⟨⟨S,r1,V⟩,j⟩:=J.out.cell;have f0:=j 0;have f1:=j 1;have f2:=j 2;obtain⟨⟨g0,g1,g2⟩,-⟩:=H.out.cell;have aE:Hid (∀ W,Below wr.heap.size wr W->W.cell? ⟨w.heap.size+1,0,none⟩=some (.int .i64 (D:Int))∧W.cell? ⟨w.heap.size+1,1,none⟩=some (.int .i64 (E:Int))∧W.cell? ⟨w.heap.size+1,2,none⟩=some (.int .i64 (I:Int))):=ZZ (fun W hb=>(H.out.below hb H.out.lt).cell.1)
   have aL:Hid (Below wr.heap.size wr wr.drew):=ZZ ((Below.refl _ _).drew);have aY:=ZZ (aE.o _ aL.o);generalize (D:Int)=M at *;generalize (E:Int)=L at *;generalize (I:Int)=N at *;clear j aN aQ aD aA u aO T HD hI ap B;have bf:w.heap.size≠w.heap.size+1:=by omega
   have aI:Hid (Bhd (((wr.setCell ⟨w.heap.size,0,none⟩ (.int .i64 M)).setCell ⟨w.heap.size,1,none⟩ (.int .i64 L)).setCell ⟨w.heap.size,2,none⟩ (.int .i64 N)) w.heap.size M L N):=ZZ (((J.out.set0 M).set1 L).set2 N);have ay:Hid (Bhd (((wr.setCell ⟨w.heap.size,0,none⟩ (.int .i64 M)).setCell ⟨w.heap.size,1,none⟩ (.int .i64 L)).setCell ⟨w.heap.size,2,none⟩ (.int .i64 N)) (w.heap.size+1) M L N):=ZZ (((H.out.other (by omega) 0 _).other (by omega) 1 _).other (by omega) 2 _)
   have aT:Hid (Below w.heap.size w (((wr.setCell ⟨w.heap.size,0,none⟩ (.int .i64 M)).setCell ⟨w.heap.size,1,none⟩ (.int .i64 L)).setCell ⟨w.heap.size,2,none⟩ (.int .i64 N)).drew):=ZZ (Z3 G.out _ zL _ _ _).drew
   go_upto_region 15 with fail
   go_region_held2(fun w'=>w'.cell? ⟨w.heap.size+1,0,none⟩=some (.int .i64 M)∧w'.cell? ⟨w.heap.size+1,1,none⟩=some (.int .i64 L)∧w'.cell? ⟨w.heap.size+1,2,none⟩=some (.int .i64 N)) (first | exact aY.o | exact a4.o | exact a0.o | exact ay.o.cell.1 | go_keep)
    (first
     | (go_at_call 137;refine(HF.o wr.drew).mono ?_;rintro e K ⟨rfl,aR⟩;have ab:=ZZ (aL.o.trans aR);have a4:=ZZ (aE.o K ab.o);have aU:=ZZ (G.out.trans (ab.o.mono G.out.size));obtain⟨⟨s0,s1,s2⟩,sf⟩:=(J.out.below ab.o J.out.lt).cell;have bc:=sf 0;have bd:=sf 1;have bi:=sf 2;obtain⟨⟨t0,t1,t2⟩,-⟩:=(H.out.below ab.o H.out.lt).cell;clear aR sf)
     | (go_at_call 137;refine(HF.o (((wr.setCell ⟨w.heap.size,0,none⟩ (.int .i64 M)).setCell ⟨w.heap.size,1,none⟩ (.int .i64 L)).setCell ⟨w.heap.size,2,none⟩ (.int .i64 N)).drew).mono ?_;rintro e W3 ⟨rfl,ar⟩;have a0:=ZZ (ay.o.below ar ay.o.lt).cell.1;have O:=ZZ (aT.o.trans (ar.mono aT.o.size));obtain⟨⟨s0,s1,s2⟩,-⟩:=(aI.o.below ar aI.o.lt).cell;clear ar))
   all_goals
    go_wp2;refine bodyPost_ret (v:=.tuple #[.agg #[.int .i64 M,.int .i64 L,.int .i64 N],.int .i64 er]) (by simp[results,Tryz.results203,go_sem,s0,s1,s2]) rfl ⟨M,L,N,by rw[a9.o],a2.o,?_⟩
    first
    | exact O.o
    | exact(Z3 aU.o _ zL _ _ _)
    | exact(Z3 aU.o _ zL _ _ _).drew
  have h3:q=0∨q=1∨q=2:=by omega
  rcases h3 with rfl | rfl | rfl
  ·have Q:=ZZ (HG.o wr a c 0 D g G.out aa.out (by rw[B.o.1];exact HD.o.1))
   by_cases A:g=0
   ·have O:Hid (Z0 d=.error 3):=ZZ (by rw[u.o,if_pos (.inl A)])
    have aj:((g:Int) == 0)=true:=by rw[beq_iff_eq];omega
    obtain⟨⟨S,r1,V⟩,j⟩:=J.out.cell;have f0:=j 0;have f1:=j 1;have f2:=j 2;clear j A u T
    go_wp2_with fail
    refine Q.o.mono ?_;rintro e K ⟨rfl,C⟩;rw[C];go_wp2;refine bodyPost_ret (v:=.tuple #[.agg #[.int .i64 0,.int .i64 0,.int .i64 0],.int .i64 3]) (by simp[results,Tryz.results203,go_sem,S,r1,V]) rfl ?_
    exact ZaR.form O.o (Z3 G.out _ zL _ _ _)
   have aj:((g:Int) == 0)=false:=beq_eq_false_iff_ne.2 (by omega)
   have ac:=ZZ A;obtain⟨a',c',R,hcut⟩:=aB.o a c 0 g (by rw[B.o.2.1,B.o.1]) (by rw[B.o.1];have:=T.o;omega) aa.out
   have kc:=hcut (g:Int) rfl;have ai:=ZZ R;obtain⟨⟨g0,g1,g2⟩,Z⟩:=H.out.cell;have fq:=Z 0;have ad:=ZZ (H.out.set0 (D:Int));have ak:=ZZ (J.out.other (show w.heap.size≠w.heap.size+1 by omega) 0 (.int .i64 (D:Int)))
   have ae:=ZZ (G.out.setCell (p:=⟨w.heap.size+1,0,none⟩) (show w.heap.size<=w.heap.size+1 by omega) (.int .i64 (D:Int)))
   clear A hcut R Z
   go_wp2_with fail
   refine Q.o.mono ?_;rintro e K ⟨rfl,C⟩;rw[C];clear C K;go_wp2
   go_region
   all_goals
    go_wp2;go_roundw
    case rel=>exact⟨1,a',c',(D:Int),y,z,rfl,rfl,by omega,ai,ad,ak,ZZ ⟨fun _=>⟨rfl,ac.o⟩,fun h=>absurd h (by decide),fun h=>absurd h (by decide)⟩,ZZ ae.o.drew⟩
    case measure=>simp[intOf]
  ·have Q:=ZZ (HG.o wr a c 1 E m G.out aa.out (by rw[B.o.2.1];exact HD.o.2.1))
   by_cases A:m=0
   ·have O:Hid (Z0 d=.error 3):=ZZ (by rw[u.o,if_pos (.inr (.inl A))])
    have aj:((m:Int) == 0)=true:=by rw[beq_iff_eq];omega
    obtain⟨⟨S,r1,V⟩,j⟩:=J.out.cell;have f0:=j 0;have f1:=j 1;have f2:=j 2;clear j A u T
    go_wp2_with fail
    refine Q.o.mono ?_;rintro e K ⟨rfl,C⟩;rw[C];go_wp2;refine bodyPost_ret (v:=.tuple #[.agg #[.int .i64 0,.int .i64 0,.int .i64 0],.int .i64 3]) (by simp[results,Tryz.results203,go_sem,S,r1,V]) rfl ?_
    exact ZaR.form O.o (Z3 G.out _ zL _ _ _)
   have aj:((m:Int) == 0)=false:=beq_eq_false_iff_ne.2 (by omega)
   have ac:=ZZ A;obtain⟨a',c',R,hcut⟩:=aB.o a c 1 m (by rw[B.o.2.2.1,B.o.2.1]) (by rw[B.o.2.1];have:=T.o;omega) aa.out
   have kc:=hcut (m:Int) rfl;have ai:=ZZ R;obtain⟨⟨g0,g1,g2⟩,Z⟩:=H.out.cell;have fq:=Z 1;have ad:=ZZ (H.out.set1 (E:Int));have ak:=ZZ (J.out.other (show w.heap.size≠w.heap.size+1 by omega) 1 (.int .i64 (E:Int)))
   have ae:=ZZ (G.out.setCell (p:=⟨w.heap.size+1,1,none⟩) (show w.heap.size<=w.heap.size+1 by omega) (.int .i64 (E:Int)))
   clear A hcut R Z
   go_wp2_with fail
   refine Q.o.mono ?_;rintro e K ⟨rfl,C⟩;rw[C];clear C K;go_wp2
   go_region
   all_goals
    go_wp2;go_roundw
    case rel=>exact⟨2,a',c',x,(E:Int),z,rfl,rfl,by omega,ai,ad,ak,ZZ ⟨fun _=>hI.out.1 (by decide),fun _=>⟨rfl,ac.o⟩,fun h=>absurd h (by decide)⟩,ZZ ae.o.drew⟩
    case measure=>simp[intOf]
  ·have Q:=ZZ (HG.o wr a c 2 I F G.out aa.out (by rw[B.o.2.2.1];exact HD.o.2.2))
   by_cases A:F=0
   ·have O:Hid (Z0 d=.error 3):=ZZ (by rw[u.o,if_pos (.inr (.inr (.inl A)))])
    have aj:((F:Int) == 0)=true:=by rw[beq_iff_eq];omega
    obtain⟨⟨S,r1,V⟩,j⟩:=J.out.cell;have f0:=j 0;have f1:=j 1;have f2:=j 2;clear j A u T
    go_wp2_with fail
    refine Q.o.mono ?_;rintro e K ⟨rfl,C⟩;rw[C];go_wp2;refine bodyPost_ret (v:=.tuple #[.agg #[.int .i64 0,.int .i64 0,.int .i64 0],.int .i64 3]) (by simp[results,Tryz.results203,go_sem,S,r1,V]) rfl ?_
    exact ZaR.form O.o (Z3 G.out _ zL _ _ _)
   have aj:((F:Int) == 0)=false:=beq_eq_false_iff_ne.2 (by omega)
   have ac:=ZZ A;obtain⟨a',c',R,hcut⟩:=aB.o a c 2 F (by rw[B.o.2.2.2,B.o.2.2.1]) (by rw[B.o.2.2.1];have:=T.o;omega) aa.out
   have kc:=hcut (F:Int) rfl;have ai:=ZZ R;obtain⟨⟨g0,g1,g2⟩,Z⟩:=H.out.cell;have fq:=Z 2;have ad:=ZZ (H.out.set2 (I:Int));have ak:=ZZ (J.out.other (show w.heap.size≠w.heap.size+1 by omega) 2 (.int .i64 (I:Int)))
   have ae:=ZZ (G.out.setCell (p:=⟨w.heap.size+1,2,none⟩) (show w.heap.size<=w.heap.size+1 by omega) (.int .i64 (I:Int)))
   clear A hcut R Z
   go_wp2_with fail
   refine Q.o.mono ?_;rintro e K ⟨rfl,C⟩;rw[C];clear C K;go_wp2
   go_region
   all_goals
    go_wp2;go_roundw
    case rel=>exact⟨3,a',c',x,y,(I:Int),rfl,rfl,by omega,ai,ad,ak,ZZ ⟨fun _=>hI.out.1 (by decide),fun _=>hI.out.2.1 (by decide),fun _=>⟨rfl,ac.o⟩⟩,ZZ ae.o.drew⟩
    case measure=>simp[intOf]
theorem ZpU (v k f:Int) (a:Option Addr) (n c:Nat) (w:World):
 Calls prog 205 #[.agg #[.int .i64 v,.int .i64 k,.int .i64 f],.slice a n c] w fun e w'=>e=.returned (.agg #[.int .i64 k,.int .i64 f,.slice a n c])∧Below w.heap.size w w':=by
 have b:Hid (∀ X Y,Below w.heap.size w ((w.alloc X).alloc Y)):=fun X Y=>Below.allocs (Below.allocs (Below.refl _ _) X) Y
 go_enter func205,ntmps205
 go_wp2;refine bodyPost_ret (v:=.agg #[.int .i64 k,.int .i64 f,.slice a n c]) (by simp[results,Tryz.results205,go_sem]) rfl ⟨rfl,?_⟩
 exact b.o _ _
def ZkF (w:World) (v f:Nat) (B:List (List UInt8)) (e:Ending) (w':World):Prop:=
 ∃ vl,e=.returned (.tuple #[vl,.int .i64 ((J4 v f B [] 16).2.1:Int),.int .i64 (J4 v f B [] 16).2.2])∧Xj w' w.heap.size vl (J4 v f B [] 16).1∧(∀ r ∈ (J4 v f B [] 16).1,Zcx r)∧Below w.heap.size w w'
theorem Bsg.set3 {R:Nat} {a b c:Value} (h:Bsg w R #[a,b,c]) (e d f:Value):Bsg (((w.setCell ⟨R,0,none⟩ e).setCell ⟨R,1,none⟩ d).setCell ⟨R,2,none⟩ f) R #[e,d,f]:=by
 have j:=heap_setCell_same w R 0 _ _ e h;have g:=heap_setCell_same _ R 1 _ _ d j;have i:=heap_setCell_same _ R 2 _ _ f g;unfold Bsg;simpa using i
theorem Zik.set {C:Nat} (h:Zik w C v L) (R i:Nat) (a:R<C) (x:Value):Zik (w.setCell ⟨R,i,none⟩ x) C v L:=by
 obtain⟨xs,c,e⟩:=h;refine⟨xs,ownsRow_setCell_below c a x,fun j b=>?_⟩
 obtain⟨y,d,f⟩:=e j b;exact⟨y,d,ownsRow_setCell_below f a x⟩
theorem ZkG (v:Value) (l:List UInt8) (w:World) (b:Rd w v l) (i:l.length<=1000000):
 Calls prog 118 #[v] w fun e w'=>∃ v',e=.returned (.tuple #[v',.int .i64 ((Qp l).2.1:Nat)])∧Zik w' w.heap.size v' (Qp l).1∧Below w.heap.size w w':=by
 have d:=ZZ (ZnK v l w b i);clear b
 go_enter func118,ntmps118
 go_wp2_with fail
 refine d.o.mono ?_;rintro e q ⟨p,rfl,g,f⟩;have n:=ZZ g;have k:=ZZ f;clear g f d;obtain⟨m,a⟩:∃ m,m=(Qp l).2.1:=⟨_,rfl⟩;have j:=ZZ a;rw[<-a];clear a;generalize (Qp l).2.2=c at *;go_wp2;go_ret2;exact⟨_,by rw[j.o];rfl,n.o,k.o⟩
theorem ZiH (v:Nat) (k f:Int) (b:Value) (w:World) (d:∃ a c,b=.slice a 0 c):
 Calls prog 204 #[.agg #[.int .i64 (v:Int),.int .i64 k,.int .i64 f],b] w fun e w'=>e=.returned (.tuple #[.slice none 0 0,.int .i64 0,.int .i64 0])∧Below w.heap.size w w':=by
 obtain⟨a,c,rfl⟩:=d;have j:Hid (∀ X,Below w.heap.size w (w.alloc X)):=fun X=>(Below.refl _ _).alloc zL X
 generalize (v:Int)=V
 go_enter func204,ntmps204
 go_wp2
 go_loopw[7,14] (fun i l wr=>i=.slice none 0 0∧l=.int .i64 0∧Hid (Below w.heap.size w wr)) (fun _ _ _=>0)
 case atStart=>exact⟨rfl,rfl,ZZ (j.o _)⟩
 case round=>
  obtain⟨rfl,rfl,g⟩:=hrel;go_wp2;refine bodyPost_ret (v:=.tuple #[.slice none 0 0,.int .i64 0,.int .i64 0]) (by simp[results,Tryz.results204,go_sem]) rfl ?_
  exact⟨rfl,g.o⟩
theorem ZjR (vb:Value) (b:List UInt8) (w:World) (hr:Rd w vb b) (bZ:b.length<=100000) (aU:(Qp b).1.tail=[]):
 Calls prog 166 #[vb] w fun e w'=>Zbb w b e w':=by
 have J:Hid (∀ X,Below w.heap.size w (w.alloc X)):=fun X=>(Below.refl _ _).alloc zL X
 have X1:Hid (∀ cs,Bsg (w.alloc (.cells cs 217)) w.heap.size cs):=fun cs=>heap_alloc_new w _
 have aj:=ZZ (fun X=>ZkG vb b (w.alloc X) (hr.below (J.o X) zL) (by omega))
 obtain⟨ab,cb,rfl,-⟩:=hr;obtain⟨aA,bf⟩:=ZeQ b;obtain⟨a7,-⟩:=Zcm _ b zL
 have aX:(Qf (Qp b).1).length<=100000:=by
  rw[a7,List.length_take];omega
 have au:=ZZ (fun h=>ZsQ (b:=b) h)
 have aK:Hid ((Qp b).1=[]->Gv b=(Zev,0,false)):=ZZ (fun h=>by unfold Gv ZwK;rw[if_pos h])
 generalize (Qp b).2.1=tk at *;generalize (Qp b).1=L at *;have bH:=ZZ aU;clear aU a7;by_cases h0:L.length=0
 ·have e:L=[]:=List.eq_nil_of_length_eq_zero h0
  have l:=ZZ (aK.o e);have bp:((L.length:Int) == 0)=true:=by rw[beq_iff_eq];omega
  clear au aK aA bf aX h0 e
  go_enter func166,ntmps166
  go_wp2_with fail
  refine(aj.o _).mono ?_;rintro e u ⟨p,rfl,Y,C⟩;have K:=ZZ ((X1.out _).below C zL);have ad:=ZZ ((J.o _).trans (C.mono (J.o _).size));obtain⟨a1,S,rfl,-⟩:=Y.rd;clear C aj;obtain⟨r0,f0⟩:=K.o.cell 0;obtain⟨r1,f1⟩:=K.o.cell 1;obtain⟨r2,f2⟩:=K.o.cell 2;go_wp2;refine bodyPost_ret (v:=.tuple #[.agg #[.int .i64 0,.int .i64 0,.slice none 0 0],.int .i64 0,.bool false]) (by simp[results,Tryz.results166,go_sem,r0,r1,r2]) rfl ?_
  exact Zbb.fail l.o (Z3 ad.o _ zL _ _ _)
 have aO:L≠[]:=fun e=>h0 (by rw[e];rfl)
 have bp:((L.length:Int) == 0)=false:=beq_eq_false_iff_ne.2 (by omega)
 have l:=ZZ (au.o aO);have aT:L.getD 0 []=L.headD []:=by cases L <;> rfl
 have bn:Hid (∀ (v k f:Nat),1<=v->v<=3->f<4611686018427387904->∀ (vp:Value) (W:World),Below w.heap.size w W->RdL W vp L.tail->Calls prog 204 #[.agg #[.int .i64 (v:Int),.int .i64 (k:Int),.int .i64 (f:Int)],vp] W fun e w'=>ZkF W v f L.tail e w'):=ZZ (fun v k f _ _ _ vp W _ h=>by
  rw[bH.o] at h ⊢
  refine(ZiH v k f vp W (by
   obtain⟨a,c,e,-⟩:=h
   exact⟨a,c,e⟩)).mono ?_
  rintro e w' ⟨rfl,Z⟩
  exact⟨_,rfl,Xj.nil _ _,(fun r hr=>by cases hr),Z⟩)
 have aZ:Hid (∀ v f,(J4 v f L.tail [] 16).2.1+1<=L.length):=ZZ (fun v f=>by
  have:=ZiG v f L.tail [] 16;rw[List.length_tail] at this
  omega)
 have bo:=ZZ (fun c p W (h:RdL W p (L.take c))=>ZvB p (L.take c) W h (fun x hx=>(aA x (List.mem_of_mem_take hx)).1) (by have:=ZeR L c;omega))
 have bl:=ZZ (fun p W (h:Rd W p (L.headD []))=>ZlY p (L.headD []) W h)
 have bG:=ZZ (fun v k f a n c W=>ZpU v k f a n c W)
 have bW:(L.length:Int)<=100000:=by omega
 have bY:(0:Int)<(L.length:Int):=by omega
 unfold ZpP at l;clear au aK aA aX aO bf
 go_enter func166,ntmps166
 go_wp2_with fail
 refine(aj.o _).mono ?_;rintro e u ⟨p,rfl,Y,C⟩;have K:=ZZ ((X1.out _).below C zL);have ad:=ZZ ((J.o _).trans (C.mono (J.o _).size));have af:=ZZ Y.rd;have bB:Hid (Zik u (w.heap.size+1) p L):=ZZ (Y.mono (by simp))
 obtain⟨a1,S,rfl,-⟩:=Y.rd;obtain⟨b0,o0,x0,rfl,aP,ag⟩:=af.o.at 0 (by omega)
 obtain⟨am,cm,ay,aJ⟩:=ZvA u _ L L.length S rfl af.o 1 (by omega)
 have aM:=ZZ (fun q (hq:q<=L.length)=>ZsP u _ L L.length S rfl af.o q hq)
 rw[List.drop_one] at ay aJ;rw[aT] at ag;have km:=aJ 1 rfl;have aS:=ZZ ay;have a5:=aP u (Below.refl _ _);have aV:=ZZ (ag u (Below.refl _ _));obtain⟨a0,q0,bM,-⟩:=ag u (Below.refl _ _);subst bM;rw[Nat.add_zero] at a5;clear C aj ay aJ aP ag X1 J aT af;generalize L.tail=B at *;generalize L.headD []=H at *;generalize bx:H.length=hl at *;clear bx
 go_wp2_with fail
 refine(bl.o _ _ aV.o).mono ?_;rintro e P ⟨x,y,z,rfl,bm,ap⟩;have ax:=ZZ bm;have aG:=ZZ (K.o.below ap zL);have aB:=ZZ (ad.o.trans (ap.mono ad.o.size));have aL:=ZZ ap;clear bm ap a5 aV K bl;obtain⟨d,ar⟩:∃ N,N=P.heap.size:=⟨_,rfl⟩;obtain⟨j,aq⟩:∃ V,V=P.alloc (.cells #[.int .i64 x,.int .i64 y,.int .i64 z] 188):=⟨_,rfl⟩;have ac:Below P.heap.size P j:=by rw[aq];exact(Below.refl _ _).alloc zL _
 have G:Hid (Bhd j d x y z):=ZZ (by rw[aq,ar];exact heap_alloc_new P _)
 have M:=ZZ (aG.o.below ac zL);have aa:=ZZ (aB.o.trans (ac.mono aB.o.size));have an:=ZZ (aL.o.trans (ac.mono aL.o.size));have bt:w.heap.size<d:=by rw[ar];exact aG.o.lt
 go_upto_region 5 with fail
 rw[<-aq,<-ar];clear aq ar ac aG aB aL
 cases hrd:Z0 H with
 | error ex=>
  have bw:Hid (Gv b=(Zev,0,false)):=ZZ (by rw[l.o,hrd])
  have hx:=Zxx hrd;have bX:(ex != 0)=true:=by rw[bne_iff_ne];exact hx
  have U:ZzP (Except.error ex:Except Int (Nat × Nat × Nat))=ex:=rfl;obtain⟨r0,f0⟩:=M.o.cell 0;obtain⟨r1,f1⟩:=M.o.cell 1;obtain⟨r2,f2⟩:=M.o.cell 2;rw[U];clear U hrd hx l ax;go_wp2;refine bodyPost_ret (v:=.tuple #[.agg #[.int .i64 0,.int .i64 0,.slice none 0 0],.int .i64 0,.bool false]) (by simp[results,Tryz.results166,go_sem,r0,r1,r2]) rfl ?_
  exact Zbb.fail bw.o (Z3 aa.o _ zL _ _ _)
 | ok t=>
  obtain⟨v,k,f⟩:=t;obtain⟨rfl,rfl,rfl⟩:=ax.o v k f hrd;obtain⟨-,bc,a2,bE,bb⟩:=Zcl hrd;have ae:=ZZ (bn.o v k f bc a2 bb);have bg:=aZ.o v f;rw[hrd] at l;have U:ZzP (Except.ok (v,k,f):Except Int (Nat × Nat × Nat))=0:=rfl;rw[U];unfold ZkF at ae;simp only at l;generalize J4 v f B [] 16=T at *;obtain⟨az,D,er⟩:=T;simp only at l ae bg;obtain⟨q,hq⟩:∃ q,q=1+D:=⟨_,rfl⟩;obtain⟨aY,a9⟩:=aM.o q (by omega)
  have kf:=a9 (1+(D:Int)) (by omega)
  have aH:=ZZ (bo.o q);have bI:Hid (∀ W:World,Zik W (w.heap.size+1) (.slice (some ⟨b0,o0,none⟩) L.length S) L->RdL W (.slice (some ⟨b0,o0,none⟩) q S) (L.take q)):=ZZ (fun W h=>h.rd.front q (by omega))
  have a8:=ZZ aY;have bV:(1:Int)+(D:Int)<=100000:=by omega
  have b1:IntKind.i64.wrap (1+(D:Int))=1+(D:Int):=by rw[IntKind.wrap_i64];omega
  have bU:(1:Int)+(D:Int)<=(L.length:Int):=by omega
  rw[<-hq] at l;obtain⟨SZ,aR⟩:∃ SZ,SZ=(Qf (L.take q)).length:=⟨_,rfl⟩;rw[<-aR] at l aH;generalize L.take q=PF at *;clear U hrd ax bn bc a2 bE bb bo aM aZ aY a9 bg hq aR;generalize (v:Int)=V at *;have E:Hid (w.heap.size<j.heap.size):=ZZ (Nat.lt_trans bt G.o.lt);have av:Hid (∀ W,Below j.heap.size j W->W.cell? ⟨d,0,none⟩=some (.int .i64 V)∧W.cell? ⟨d,1,none⟩=some (.int .i64 (k:Int))∧W.cell? ⟨d,2,none⟩=some (.int .i64 (f:Int))):=ZZ (fun W Z=>(G.o.below Z G.o.lt).cell.1)
  have ai:Hid (Below j.heap.size j j.drew):=ZZ ((Below.refl _ _).drew);have aN:=ZZ (av.o _ ai.o);have bj:=ZZ (aS.o.below an.o zL)
  go_upto_region 7 with fail
  go_cut[9,10,11] (fun vl vc ve wc=>∃ g nl i,vl=.slice g nl i∧vc=.int .i64 (D:Int)∧ve=.int .i64 er∧Hid (∀ r ∈ az,Zcx r)∧Hid (Xj wc j.heap.size (.slice g nl i) az)∧Hid (Below j.heap.size j wc))
  case first=>
   go_region_held2(fun W=>W.cell? ⟨d,0,none⟩=some (.int .i64 V)∧W.cell? ⟨d,1,none⟩=some (.int .i64 (k:Int))∧W.cell? ⟨d,2,none⟩=some (.int .i64 (f:Int))) (first | exact aN.o | exact bF.o)
    (first
     | (go_at_call 204;refine(ae.o _ j.drew aa.o.drew (bj.o.below ai.o zL)).mono ?_;rintro e W3 ⟨v3,rfl,aC,aQ,bi⟩;have aE:Hid (Xj W3 j.heap.size v3 az):=ZZ aC;have ak:=ZZ aQ;have m:=ZZ (ai.o.trans bi);have bF:=ZZ (av.o W3 m.o);obtain⟨a3,c3,rfl⟩:=aC.shape;clear bi aC aQ))
   all_goals
    go_wp2_with fail
    go_meet
    exact⟨_,_,_,rfl,rfl,rfl,ak,aE,m⟩
  case rest=>
   obtain⟨g,nl,i,rfl,rfl,rfl,ak,aE,m⟩:=hcut;have bu:=ZZ (M.o.below m.o zL);have ao:=ZZ (G.o.below m.o G.o.lt);have be:=ZZ (aa.o.trans (m.o.mono aa.o.size));have bd:=ZZ (an.o.trans (m.o.mono an.o.size));have bk:Hid (∀ W,Below wc.heap.size wc W->W.cell? ⟨d,0,none⟩=some (.int .i64 V)∧W.cell? ⟨d,1,none⟩=some (.int .i64 (k:Int))∧W.cell? ⟨d,2,none⟩=some (.int .i64 (f:Int))):=ZZ (fun W Z=>(ao.o.below Z ao.o.lt).cell.1)
   have aW:Hid (Below wc.heap.size wc wc.drew):=ZZ ((Below.refl _ _).drew);have bD:=ZZ (bk.o _ aW.o);have bQ:=ZZ (a8.o.below bd.o zL);have bP:=ZZ (bB.o.below bd.o zL);have I:d≠w.heap.size:=by omega
   clear M G aa an m av ai aN bj ae aS a8
   go_upto_region 8 with fail
   go_region_held(fun W=>W.cell? ⟨d,0,none⟩=some (.int .i64 V)∧W.cell? ⟨d,1,none⟩=some (.int .i64 (k:Int))∧W.cell? ⟨d,2,none⟩=some (.int .i64 (f:Int))) (first | exact bD.o | exact bR.o | exact bJ.o | exact bK.o | exact bq.o | exact bO.o)
    (first
     | (go_at_call 205;refine(bG.o _ _ _ _ _ _ wc.drew).mono ?_;rintro e W4 ⟨rfl,a6⟩;have A:=ZZ (aW.o.trans a6);have bR:=ZZ (bk.o W4 A.o);have Q:=ZZ (bu.o.below A.o zL);have R:=ZZ (ao.o.below A.o ao.o.lt);have aw:=ZZ (be.o.trans (A.o.mono be.o.size));have ba:=ZZ (aE.o.below A.o zL);have br:=ZZ (bQ.o.below A.o zL);obtain⟨r0,f0⟩:=Q.o.cell 0;obtain⟨r1,f1⟩:=Q.o.cell 1;obtain⟨r2,f2⟩:=Q.o.cell 2;have aD:=ZZ (((R.o.other I 0 (.int .i64 (k:Int))).other I 1 (.int .i64 (f:Int))).other I 2 (.slice g nl i));have bJ:=ZZ aD.o.cell.1;have bL:=ZZ (bP.o.below A.o zL);have bA:Hid (RdL ((((W4.setCell ⟨w.heap.size,0,none⟩ (.int .i64 (k:Int))).setCell ⟨w.heap.size,1,none⟩ (.int .i64 (f:Int))).setCell ⟨w.heap.size,2,none⟩ (.slice g nl i))) _ PF):=ZZ (bI.o _ (((bL.o.set w.heap.size 0 (Nat.lt_succ_self _) (.int .i64 (k:Int))).set w.heap.size 1 (Nat.lt_succ_self _) (.int .i64 (f:Int))).set w.heap.size 2 (Nat.lt_succ_self _) (.slice g nl i)));have bN:=ZZ (Q.o.set3 (.int .i64 (k:Int)) (.int .i64 (f:Int)) (.slice g nl i));have bS:=ZZ (((ba.o.set w.heap.size 0 E.o (.int .i64 (k:Int))).set w.heap.size 1 E.o (.int .i64 (f:Int))).set w.heap.size 2 E.o (.slice g nl i));have a4:=ZZ (Z3 aw.o w.heap.size zL (.int .i64 (k:Int)) (.int .i64 (f:Int)) (.slice g nl i));clear a6)
     | (go_at_call 206;refine(aH.o _ W4 br.o).mono ?_;rintro e W5 ⟨rfl,F⟩;have bK:=ZZ (R.o.below F R.o.lt).cell.1;have aF:=ZZ (Q.o.below F zL);have bT:=ZZ (aw.o.trans (F.mono aw.o.size));have bC:=ZZ (ba.o.below F zL);obtain⟨s0,g0⟩:=aF.o.cell 0;obtain⟨s1,g1⟩:=aF.o.cell 1;obtain⟨s2,g2⟩:=aF.o.cell 2;have bO:=ZZ ((((R.o.below F R.o.lt).other I 0 (.int .i64 (k:Int))).other I 1 (.int .i64 (f:Int))).other I 2 (.slice g nl i)).cell.1;clear F)
     | (go_at_call 206;refine(aH.o _ (((W4.setCell ⟨w.heap.size,0,none⟩ (.int .i64 (k:Int))).setCell ⟨w.heap.size,1,none⟩ (.int .i64 (f:Int))).setCell ⟨w.heap.size,2,none⟩ (.slice g nl i)) bA.o).mono ?_;rintro e W6 ⟨rfl,O⟩;have bq:=ZZ (aD.o.below O aD.o.lt).cell.1;have aI:=ZZ (bN.o.below O zL);have bv:=ZZ (bS.o.below O zL);have bz:=ZZ (a4.o.trans (O.mono a4.o.size));obtain⟨s0,g0⟩:=aI.o.cell 0;obtain⟨s1,g1⟩:=aI.o.cell 1;obtain⟨s2,g2⟩:=aI.o.cell 2;clear O))
   all_goals
    go_wp2;refine bodyPost_ret (v:=.tuple #[.agg #[.int .i64 (k:Int),.int .i64 (f:Int),.slice g nl i],.int .i64 (SZ:Int),.bool true]) (by simp[results,Tryz.results166,go_sem,s0,s1,s2]) rfl ?_
    refine⟨.slice g nl i,by rw[l.o],?_,?_⟩
    ·rw[l.o]
     first
     | exact bv.o.rd ak.o
     | exact Xj.rd (((bC.o.set w.heap.size 0 E.o _).set w.heap.size 1 E.o _).set w.heap.size 2 E.o _) ak.o
    ·first
     | exact bz.o
     | exact Z3 bT.o w.heap.size zL _ _ _
theorem Jn {P:Program} {ι:Type} (W:ι->World) (b:ι) {id:Nat} {Q:Exit->Act->World->Prop} {a:Act} {w:World} {l:List Oper} (e:P.follows .mixedOrders=true) (c:Region.lexB .any l.toArray=true) (d:W b=w.drew)
 (h:wpQuiet P l.toArray (fun w'=>∃ n,w'=W n) (fun a'=>∀ w',(∃ n,w'=W n)->Q .normal a' w') l a):(Code.region id l.toArray true).wp P Q a w:=
 wp_region_quiet (C:=fun w'=>∃ n,w'=W n) e c ⟨b,d.symm⟩ (by simpa using h)
theorem ZnO (B:Nat) (w:World):∃ (ι:Type) (_:Nonempty ι) (W:ι->World),(∀ i,Below B w (W i))∧∀ w',Below B w w'->∃ i,w'=W i:=
 ⟨{ w' // Below B w w' },⟨⟨w,Below.refl _ _⟩⟩,Subtype.val,fun i=>i.2,fun w' h=>⟨⟨w',h⟩,rfl⟩⟩
theorem ZbF (v:Value) (l:List Rec) (w:World) (p:RdR w v l):
 Calls prog 48 #[v] w fun e w'=>e=.returned (.bool (decide (Yc l)))∧Below w.heap.size w w':=by
 have HR:=ZZ p;obtain⟨ao,cap,rfl,ar,ag,-,-,ac⟩:=p;have aC:(l.length:Int)<=9223372036854775807:=by unfold maxLen at ag;omega
 have az:=ZZ ac;clear ac ar ag;by_cases P:1<=l.length
 case neg=>
  have Z:Hid (decide (Yc l)=false):=decide_eq_false (fun h=>P h.1)
  have ap:(l.length:Int)<1:=by omega
  rw[Z.o]
  go_enter func48,ntmps48
  go_wp2;go_ret;exact⟨rfl,Below.refl _ _⟩
 have ap:¬ (l.length:Int)<1:=by omega
 by_cases Q:l.length<=256
 case neg=>
  have Z:Hid (decide (Yc l)=false):=decide_eq_false (fun h=>Q h.2.1)
  have aw:256<(l.length:Int):=by omega
  rw[Z.o]
  go_enter func48,ntmps48
  go_wp2;go_ret;exact⟨rfl,Below.refl _ _⟩
 have aw:¬ 256<(l.length:Int):=by omega
 have ai:=ZZ (fun h=>Zvy (l:=l) h P Q)
 have ad:=ZZ (fun(h:Yc l) k=>h.part k)
 have an:=ZZ (fun r W=>Zig r W)
 obtain⟨D,G⟩:∃ D,D=decide (Yc l):=⟨_,rfl⟩;rw[<-G];have ak:Hid (ZjQ l l.length->D=true):=fun h=>by rw[G];exact decide_eq_true (ai.o h)
 have aj:Hid (∀ k,¬ ZjQ l k->D=false):=fun k h=>by rw[G];exact decide_eq_false (fun R=>h (ad.o R k))
 have av:=ZZ (ZsJ l);have aD:(0:Int)<(l.length:Int):=by omega
 clear G ai ad P Q
 go_enter func48,ntmps48
 go_wp2
 go_loopw[15] (fun vi wr=>∃ k:Nat,vi=.int .i64 (k:Int)∧k<=l.length∧Hid (ZjQ l k)∧Hid (Below w.heap.size w wr)) (fun vi _=>l.length-(intOf vi).toNat)
 case atStart=>exact⟨0,rfl,Nat.zero_le _,av,Below.refl _ _⟩
 case round=>
  obtain⟨k,rfl,hk,S,F⟩:=hrel;by_cases A:k<l.length
  case neg=>
   obtain rfl:k=l.length:=by omega
   have HT:=ZZ (ak.o S.out);go_wp2;go_ret;rw[HT.o];exact⟨rfl,F.out⟩
  rcases az.o with h0 | ⟨c,ax,rfl,J⟩
  ·rw[h0] at A;simp at A
  have Y:=J k A;have N:=J 0 (by omega)
  have X:=ZZ (fun W (h:Below w.heap.size w W)=>Y.keep (h.block c Y.lt))
  have af:=ZZ (fun W (h:Below w.heap.size w W)=>(N.keep (h.block c N.lt)).1)
  have g:=ZZ (ZsK A);have hh:l.headD Qi=l.getD 0 Qi:=by cases l <;> simp
  rw[hh] at g
  have ae:Hid (Qz (l.getD k Qi)->Qz (l.getD 0 Qi)):=ZZ (fun R=>by
   cases k with
   | zero=>exact R
   | succ q=>
    refine S.out.1 _ ?_
    cases l with
    | nil=>simp at A
    | cons x t=>simp)
  have aq:=X.o wr F.out;obtain⟨c0,c1,c2,c3,c4,c5,c6⟩:=aq;have y:=ZZ (an.o (l.getD k Qi));have ay:∃ B,B=decide (Qz (l.getD k Qi)):=⟨_,rfl⟩;obtain⟨B,K⟩:=ay;rw[<-K] at y;have M:=ZZ K;unfold Zso at y;obtain⟨r,p⟩:∃ r,r=l.getD k Qi:=⟨_,rfl⟩;rw[<-p] at y g M X ae c0 c1 c2 c3 c4 c5 c6;clear K J Y p N hh;generalize (l.getD 0 Qi)=E at *
  go_upto_region 6 with fail
  obtain⟨d,j⟩:∃ d,d=wr.alloc (.cells (Ja r) 62):=⟨_,rfl⟩;have aA:d.heap.size=wr.heap.size+1:=by rw[j];simp
  have ab:Hid (Below w.heap.size w d):=ZZ (by rw[j];exact F.out.alloc F.out.size _)
  have al:Hid (Br d wr.heap.size (Ja r)):=ZZ (by rw[j];exact heap_alloc_new wr _)
  unfold Ja at j;rw[<-j];clear j c0 c1 c2 c3 c4 c5 c6;obtain⟨ι,aB,V,hV,U⟩:=ZnO d.heap.size d;have C:=ZZ hV;have HM:=ZZ U;obtain⟨O,L⟩:=U d.drew (Below.refl _ _).drew;have H:Hid (∀ i,Below w.heap.size w (V i)):=ZZ (fun i=>ab.o.trans ((C.o i).mono ab.o.size))
  have f:∀ i,Br (V i) wr.heap.size (Ja r):=fun i=>((C.o i).block _ (by omega)).trans al.o
  have d0:∀ i,(V i).cell? ⟨wr.heap.size,0,none⟩=some (.int .i64 r.idx):=fun i=>((f i).cell 0).1
  have d1:∀ i,(V i).cell? ⟨wr.heap.size,1,none⟩=some (.int .i64 r.proc):=fun i=>((f i).cell 1).1
  have d2:∀ i,(V i).cell? ⟨wr.heap.size,2,none⟩=some (.int .i64 r.seq):=fun i=>((f i).cell 2).1
  have d3:∀ i,(V i).cell? ⟨wr.heap.size,3,none⟩=some (.int .i64 r.op.code):=fun i=>((f i).cell 3).1
  have d4:∀ i,(V i).cell? ⟨wr.heap.size,4,none⟩=some (.int .i64 r.op.a):=fun i=>((f i).cell 4).1
  have d5:∀ i,(V i).cell? ⟨wr.heap.size,5,none⟩=some (.int .i64 r.op.b):=fun i=>((f i).cell 5).1
  have d6:∀ i,(V i).cell? ⟨wr.heap.size,6,none⟩=some (.int .i64 r.resp):=fun i=>((f i).cell 6).1
  have e0:∀ i,(V i).cell? ⟨c,ax,none⟩=some (.int .i64 E.idx):=fun i=>by
   have h:=af.o (V i) (H.o i)
   rwa [Nat.zero_mul,Nat.add_zero] at h
  have I:Hid (∀ i,Calls prog 41 #[.agg #[.int .i64 r.idx,.int .i64 r.proc,.int .i64 r.seq,.int .i64 r.op.code,.int .i64 r.op.a,.int .i64 r.op.b,.int .i64 r.resp]] (V i) fun e w'=>e=.returned (.bool B)∧∃ m,w'=V m):=ZZ (fun i=>(y.o (V i)).mono fun e w' h=>⟨h.1,HM.o w' ((C.o i).trans (h.2.mono (C.o i).size))⟩)
  clear hV U f y af X
  cases B with
  | false=>
   have T:=ZZ (aj.o (k+1) (fun h=>of_decide_eq_false M.o.symm (g.o.1 h).2.1))
   refine Jn V O (by kernel_rfl) (by kernel_rfl) L.symm ?_
   repeat (go_big_quiet_step ((go_at_call 41;exact I.o _)))
   refine wpQuiet_nil ?_;intro _ z;obtain⟨nq,u⟩:=z;subst u;go_wp2;go_ret;rw[T.o];exact⟨rfl,H.o _⟩
  | true=>
   have aa:=ZZ (of_decide_eq_true M.o.symm);obtain⟨-,i1,i2,-⟩:=ae.o aa.o;by_cases n:r.idx=E.idx+k
   ·have au:(r.idx != E.idx+k)=false:=by rw[bne_eq_false_iff_eq];exact n
    have am:=ZZ (g.o.2 ⟨S.out,aa.o,n⟩);clear g n;refine Jn V O (by kernel_rfl) (by kernel_rfl) L.symm ?_
    repeat (go_big_quiet_step ((go_at_call 41;exact I.o _)))
    refine wpQuiet_nil ?_;intro _ z;obtain⟨nq,u⟩:=z;subst u;go_wp2;go_roundw
    case rel=>exact⟨k+1,by go_num,by omega,am,H.o _⟩
    case measure=>simp[intOf];omega
   ·have au:(r.idx != E.idx+k)=true:=by rw[bne_iff_ne];exact n
    have T:=ZZ (aj.o (k+1) (fun h=>n (g.o.1 h).2.2))
    clear g n;refine Jn V O (by kernel_rfl) (by kernel_rfl) L.symm ?_
    repeat (go_big_quiet_step ((go_at_call 41;exact I.o _)))
    refine wpQuiet_nil ?_;intro _ z;obtain⟨nq,u⟩:=z;subst u;go_wp2;go_ret;rw[T.o];exact⟨rfl,H.o _⟩
def ZAr (w:World) (l:List UInt8) (o:Opn) (e:Ending) (w':World):Prop:=
 ∃ v',e=.returned (.tuple #[v',.int .i64 (if Ge o then 0 else 1)])∧Own w' w.heap.size v' (if Ge o then l++X6 o else l)∧Below w.heap.size w w'
theorem ZvC (v:Value) (l:List UInt8) (o:Opn) (w:World) (D:Rd w v l) (aw:l.length<=90000):
 Calls prog 185 #[v,opV o] w fun e w'=>ZAr w l o e w':=by
 obtain⟨j,k,rfl,ac⟩:∃ j k,v=.slice j l.length k∧Rd w (.slice j l.length k) l:=by
  have h:=D;obtain⟨j,k,rfl,_⟩:=D;exact⟨j,k,rfl,h⟩
 have S:=ZZ D;clear ac;have HF:=ZZ (fun w=>ZlH o w)
 have I:Hid (∀ X,Below w.heap.size w (w.alloc X)):=fun X=>(Below.refl _ _).alloc zL X
 obtain⟨c,a,b⟩:=o;clear D;show Calls prog _ #[_,.agg #[.int .i64 c,.int .i64 a,.int .i64 b]] w _;have U:Hid (∀ W,Calls prog 80 #[.agg #[.int .i64 c,.int .i64 a,.int .i64 b]] W fun e w'=>e=.returned (.bool (decide (Ge ⟨c,a,b⟩)))∧Below W.heap.size W w'):=HF.o
 clear HF;unfold ZAr;by_cases d:Ge ⟨c,a,b⟩
 ·simp only [if_pos d]
  have R:=ZZ (decide_eq_true d);have B:Hid (I64 a):=(ZaM d).1;have J:Hid (I64 b):=(ZaM d).2;have Y:0<=c:=d.1;have ai:c<=10:=d.2.1;have ak:=Gh (n:=c.toNat) (by omega)
  have ae:=Zwv B.o;have ar:=Zwv J.o
  have HP:Hid (∀ W,Calls prog 132 #[.slice none 0 0,.int .i64 c] W fun e w'=>∃ v',e=.returned v'∧Own w' W.heap.size v' (Lib.uvarint c.toNat)∧Below W.heap.size W w'):=fun W=>by
   have h:=ZbE (.slice none 0 0) [] c W (Rd.nil W) (by simp)
   rw[J0 Y (by omega),nil_append] at h
   exact h
  have HA:Hid (∀ W,Calls prog 142 #[.slice none 0 0,.int .i64 a] W fun e w'=>∃ v',e=.returned v'∧Own w' W.heap.size v' (Lib.uvarint (Lib.zigzag a))∧Below W.heap.size W w'):=fun W=>by
   have h:=Gj (.slice none 0 0) [] a W (Rd.nil W) (by simp) B.o.1 B.o.2
   rw[nil_append] at h;exact h
  have HB:Hid (∀ W,Calls prog 142 #[.slice none 0 0,.int .i64 b] W fun e w'=>∃ v',e=.returned v'∧Own w' W.heap.size v' (Lib.uvarint (Lib.zigzag b))∧Below W.heap.size W w'):=fun W=>by
   have h:=Gj (.slice none 0 0) [] b W (Rd.nil W) (by simp) J.o.1 J.o.2
   rw[nil_append] at h;exact h
  have Z:Hid (X6 ⟨c,a,b⟩=Lib.uvarint c.toNat++(Lib.uvarint (Lib.zigzag a)++Lib.uvarint (Lib.zigzag b))):=rfl;rw[Z.o];have al:Hid (∀ W N G F y p,N=W.heap.size->Rd W G l->Rd W F (Lib.uvarint c.toNat)->Rd W y (Lib.uvarint (Lib.zigzag a))->Rd W p (Lib.uvarint (Lib.zigzag b))->Calls prog 131 #[.slice (some ⟨N,0,none⟩) 4 4] (W.alloc (.cells #[G,F,y,p] 53)) fun e w'=>∃ v',e=.returned v'∧Own w' W.heap.size v' (l++(Lib.uvarint c.toNat++(Lib.uvarint (Lib.zigzag a)++Lib.uvarint (Lib.zigzag b))))∧Below W.heap.size W w'):=fun W N G F y p hN h0 h1 h2 h3=>Zvj W N hN G F y p _ _ _ _ h0 h1 h2 h3 (by omega)
  clear d ak ae ar Z B J Y ai;generalize Lib.uvarint c.toNat=A at *;generalize Lib.uvarint (Lib.zigzag a)=LA at *;generalize Lib.uvarint (Lib.zigzag b)=LB at *;generalize l++(A++(LA++LB))=LL at *
  go_enter func185,ntmps185
  go_wp2_with fail
  refine(U.o _).mono ?_;rintro e W1 ⟨rfl,Q⟩;rw[R.o];have q:Bo W1 w.heap.size _:=(Q.block w.heap.size (by simp)).trans (heap_alloc_new w _)
  have ap:=ZZ q;have K:=ZZ ((I.o _).trans (Q.mono (I.o _).size));obtain⟨p0,-⟩:=q.cell 0;obtain⟨p1,-⟩:=q.cell 1;obtain⟨p2,-⟩:=q.cell 2;have av:=K.o.size;clear Q q;go_wp2
  go_region_held(fun w'=>w'.cell? ⟨w.heap.size,0,none⟩=some (.int .i64 c)∧w'.cell? ⟨w.heap.size,1,none⟩=some (.int .i64 a)∧w'.cell? ⟨w.heap.size,2,none⟩=some (.int .i64 b)) (go_keep)
   (first
    | (go_at_call 132;refine(HP.o _).mono ?_;rintro e W2 ⟨y,rfl,M,m⟩;have t:=ap.o.below (((Below.refl _ _).drew).trans m) zL;have an:=ZZ t;have f:=ZZ (K.o.trans ((((Below.refl _ _).drew).trans m).mono K.o.size));obtain⟨a2,c2,rfl,-⟩:=M.rd;have am:=ZZ M.rd;obtain⟨q0,-⟩:=t.cell 0;obtain⟨q1,-⟩:=t.cell 1;obtain⟨q2,-⟩:=t.cell 2;clear M m t)
    | (go_at_call_of 142 (Value.int .i64 a);refine(HA.o _).mono ?_;rintro e W3 ⟨p,rfl,i,g⟩;have z:=an.o.below g zL;have au:=ZZ z;have C:=ZZ (f.o.trans (g.mono f.o.size));have ao:=ZZ (am.o.below g zL);obtain⟨a3,c3,rfl,-⟩:=i.rd;have P:=ZZ i.rd;obtain⟨r0,-⟩:=z.cell 0;obtain⟨r1,-⟩:=z.cell 1;obtain⟨r2,-⟩:=z.cell 2;clear i g z)
    | (go_at_call_of 142 (Value.int .i64 b);refine(HB.o _).mono ?_;rintro e V ⟨v4,rfl,O,u⟩;have x:=au.o.below u zL;have ab:=ZZ x;have H:=ZZ (C.o.trans (u.mono C.o.size));have aa:=ZZ (ao.o.below u zL);have af:=ZZ (P.o.below u zL);obtain⟨a4,c4,rfl,-⟩:=O.rd;have ag:=ZZ O.rd;obtain⟨s0,-⟩:=x.cell 0;obtain⟨s1,-⟩:=x.cell 1;obtain⟨s2,-⟩:=x.cell 2;clear O u x)
    | (go_at_call 131;refine(al.o V V.heap.size _ _ _ _ rfl (S.o.below H.o zL) aa.o af.o ag.o).mono ?_;rintro e W5 ⟨v5,rfl,T,L⟩;have E:=ab.o.below L zL;have aj:=ZZ (H.o.trans (L.mono H.o.size));have ad:=ZZ (T.mono H.o.size);obtain⟨t0,-⟩:=E.cell 0;obtain⟨t1,-⟩:=E.cell 1;obtain⟨t2,-⟩:=E.cell 2;clear T L E))
  all_goals
   go_wp2;go_ret2;exact⟨_,rfl,ad.o,aj.o⟩
 ·simp only [if_neg d]
  have R:=ZZ (decide_eq_false d);have aq:=ZZ (fun W h=>ZsC (.slice j l.length k) l W h (by omega))
  clear d
  go_enter func185,ntmps185
  go_wp2_with fail
  refine(U.o _).mono ?_;rintro e W2 ⟨rfl,m⟩;rw[R.o];have f:=ZZ ((I.o _).trans (m.mono (I.o _).size));clear m
  go_wp2_with fail
  refine(aq.o _ (S.o.below f.o zL)).mono ?_;rintro e W3 ⟨p,rfl,i,g⟩;have P:=ZZ (i.mono f.o.size);have C:=ZZ (f.o.trans (g.mono f.o.size));clear i g;go_wp2;go_ret2;exact⟨_,rfl,P.o,C.o⟩
open Go.RowKit Go.Maps
theorem ZvD:Keyed prog 3:=int_keyed underlying3
theorem ZyY (w:World):(zeroValue 3).run prog w=.ok (.int .i64 0) w:=by kernel_rfl
theorem ZAs {n:Int} (h:I64 n):(Lit.int .i64 n).wf=true:=WalkArith.wf_i64 (by obtain⟨b,a⟩:=h;omega)
def ZfU (w:World) (b n:Nat) (f:Int->Int):Prop:=
 ∃ D:DataW Unit,w.ownsMap prog 3 (plainElem prog 3) b n D∧IsMap D∧∀ p,I64 p->D.atKey (.int .i64 p) (.lit (.int .i64 0))=.lit (.int .i64 (f p))
theorem ZfU.made (w:World):ZfU (w.alloc (.map #[] 0)) w.heap.size 0 (fun _=>0):=
 ⟨.map [],World.ownsMap_made _ _ _ _,isMap_empty,fun _ _=>rfl⟩
theorem ZfU.lt (h:ZfU w b n f):b<w.heap.size:=by
 obtain⟨D,a,_⟩:=h;exact a.lt
theorem ZfU.keep (h:ZfU w b n f) (d:w'.heap[b]?=w.heap[b]?):ZfU w' b n f:=by
 obtain⟨D,⟨a,e,c,r⟩,g⟩:=h;exact⟨D,⟨a,e,d.trans c,r⟩,g⟩
theorem ZfU.below (h:ZfU w b n f) (a:Below B w w') (c:w.heap.size<=B):ZfU w' b n f:=
 h.keep (a.block b (by have:=h.lt;omega))
theorem ZfU.apart (h:ZfU w b n f) {cs:Array Value} {t:TypeId} {z:Nat × Nat} {g:Nat} (a:w.heap[g]?=some (.cells cs t z)):g≠b:=by
 obtain⟨D,⟨d,i,c,_⟩,_⟩:=h;intro e;rw[e,c] at a
 cases a
theorem ZfU.look (h:ZfU w b n f) {p:Int} (d:I64 p):(Instr.lookup 183 (.map (some b)) (.int .i64 p) false).run prog w=.ok (.int .i64 (f p)) w:=by
 obtain⟨D,g,_,i⟩:=h;obtain⟨c,j,a,_⟩:=g.lookup_int ZvD underlying183 underlying3 (ZyY _) (keyOf_int_mk underlying3 (ZAs d));rw[i p d] at a;have e:f p=c:=by simpa using a
 rw[j,e]
def Zzu (f:Int->Int) (p x:Int):Int->Int:=fun q=>if p=q then x else f q
theorem ZfU.put (h:ZfU w b n f) {p x:Int} (k:I64 p) (l:I64 x) (t:n<=1000000000000):
 ∃ w',(Instr.mapUpdate 183 (.map (some b)) (.int .i64 p) (.int .i64 x)).run prog w=.ok () w'∧ZfU w' b (n+1) (Zzu f p x)∧w.grownBy w' (some b):=by
 obtain⟨D,j,a,c⟩:=h;obtain⟨w',m,d,i⟩:=j.update ZvD underlying183 (by unfold maxLen;omega) (keyOf_int_mk underlying3 (ZAs k)) (plainElem_int underlying3 (ZAs l))
 refine⟨w',m,⟨_,d,a.put _ _,fun q g=>?_⟩,i⟩
 unfold Zzu;by_cases e:p=q
 ·rw[if_pos e,<-e,atKey_put_same a (by first | exact trivial | simp[WideAt.IsKeyLit])]
 ·rw[if_neg e,atKey_put_other (by intro h;injection h with _ h;exact e h.symm),c q g]
theorem ZfU.own (h:ZfU w b n f) {B:Nat} {v:Value} {l:List UInt8} (c:Own w B v l):v.ownBlock=none∨v.ownBlock≠some b:=by
 rcases c.2 with ⟨a,_⟩ | ⟨g,cap,cur,a,_,i,_⟩
 ·exact .inl (by rw[a];rfl)
 ·right
  rw[a];have d:=h.apart i;intro e;exact d (by simpa[Value.ownBlock] using e)
theorem ZyZ (W:World) (N:Nat) (m:N=W.heap.size) (d c:Value) (a b:List UInt8) (l:Rd W d a) (p:Rd W c b) (q:a.length+b.length<=1000000):
 Calls prog 131 #[.slice (some ⟨N,0,none⟩) 2 2] (W.alloc (.cells #[d,c] 53)) fun e w'=>∃ v',e=.returned v'∧Own w' W.heap.size v' (a++b)∧Below W.heap.size W w':=by
 have i:=RdL.built W N m #[d,c] [a,b] (by simp) (fun j k=>by
  match j,k with
  | 0,_=>exact⟨d,rfl,l⟩
  | 1,_=>exact⟨c,rfl,p⟩)
 have f:[a,b].flatten=a++b:=by simp
 refine(Zdi _ _ _ i (by rw[f];simp only [length_append];omega) (by simp)).mono ?_
 rintro e w' ⟨v',rfl,g,n⟩;rw[f] at g;exact⟨v',rfl,g.mono (by simp),((Below.refl _ _).alloc zL _).trans (n.mono (by simp))⟩
theorem ZiI (r:Rec) (d:Int) (w:World) (f:Qz r) (u:I64 d):
 Calls prog 133 #[Zso r,.int .i64 d] w fun e w'=>∃ v',e=.returned v'∧Own w' w.heap.size v' (Lib.uvarint r.proc.toNat++(Lib.uvarint (Lib.zigzag d)++(X6 r.op++Lib.uvarint (Lib.zigzag r.resp))))∧Below w.heap.size w w':=by
 have Q:Hid (∀ X,Below w.heap.size w (w.alloc X)):=fun X=>(Below.refl _ _).alloc zL X
 have X1:Hid (∀ cs,Br (w.alloc (.cells cs 62)) w.heap.size cs):=fun cs=>heap_alloc_new w _
 have l:=ZZ (fun W=>ZvC (.slice none 0 0) [] r.op W (Rd.nil W) (by simp))
 unfold ZAr at l;rw[if_pos f.1,if_pos f.1,nil_append] at l;have y:=ZZ (ZaX f);have au:=Zgr f.1;obtain⟨_,_,_,_,_,J,Y,_⟩:=f;have al:=Gh (n:=r.proc.toNat) (by omega)
 have ac:=Zwv u;have an:=Zwv y.o
 have HP:Hid (∀ W,Calls prog 132 #[.slice none 0 0,.int .i64 r.proc] W fun e w'=>∃ v',e=.returned v'∧Own w' W.heap.size v' (Lib.uvarint r.proc.toNat)∧Below W.heap.size W w'):=fun W=>by
  have h:=ZbE (.slice none 0 0) [] r.proc W (Rd.nil W) (by simp)
  rw[J0 J (by omega),nil_append] at h
  exact h
 have HA:Hid (∀ W,Calls prog 142 #[.slice none 0 0,.int .i64 d] W fun e w'=>∃ v',e=.returned v'∧Own w' W.heap.size v' (Lib.uvarint (Lib.zigzag d))∧Below W.heap.size W w'):=fun W=>by
  have h:=Gj (.slice none 0 0) [] d W (Rd.nil W) (by simp) u.1 u.2
  rw[nil_append] at h;exact h
 have V:Hid (∀ W,Calls prog 142 #[.slice none 0 0,.int .i64 r.resp] W fun e w'=>∃ v',e=.returned v'∧Own w' W.heap.size v' (Lib.uvarint (Lib.zigzag r.resp))∧Below W.heap.size W w'):=fun W=>by
  have h:=Gj (.slice none 0 0) [] r.resp W (Rd.nil W) (by simp) y.o.1 y.o.2
  rw[nil_append] at h;exact h
 have am:Hid (∀ W N q g i k,N=W.heap.size->Rd W q (Lib.uvarint r.proc.toNat)->Rd W g (Lib.uvarint (Lib.zigzag d))->Rd W i (X6 r.op)->Rd W k (Lib.uvarint (Lib.zigzag r.resp))->Calls prog 131 #[.slice (some ⟨N,0,none⟩) 4 4] (W.alloc (.cells #[q,g,i,k] 53)) fun e w'=>∃ v',e=.returned v'∧Own w' W.heap.size v' (Lib.uvarint r.proc.toNat++(Lib.uvarint (Lib.zigzag d)++(X6 r.op++Lib.uvarint (Lib.zigzag r.resp))))∧Below W.heap.size W w'):=fun W N q g i k U S h1 h2 h3=>Zvj W N U q g i k _ _ _ _ S h1 h2 h3 (by omega)
 clear al ac au an y J Y u;unfold opV at l;obtain⟨idx,proc,seq,⟨P,a,b⟩,resp⟩:=r;show Calls prog _ #[.agg #[.int .i64 idx,.int .i64 proc,.int .i64 seq,.int .i64 P,.int .i64 a,.int .i64 b,.int .i64 resp],.int .i64 d] w _
 dsimp only at *
 generalize Lib.uvarint proc.toNat=A at *;generalize Lib.uvarint (Lib.zigzag d)=LA at *;generalize Lib.uvarint (Lib.zigzag resp)=T at *;generalize X6 ⟨P,a,b⟩=LO at *;generalize A++(LA++(LO++T))=LL at *
 go_enter func133,ntmps133
 go_wp2_with fail
 refine(l.o _).mono ?_;rintro e W1 ⟨g,rfl,H,I⟩;have m:Br W1 w.heap.size _:=(X1.out _).below I zL;have ar:=ZZ m;have z:=ZZ ((Q.o _).trans (I.mono (Q.o _).size));have af:=ZZ H.rd;obtain⟨a1,c1,rfl,-⟩:=H.rd;obtain⟨p1,-⟩:=m.cell 1;obtain⟨p6,-⟩:=m.cell 6;have aw:=z.o.size;clear I m H l;go_wp2
 go_region_held(fun w'=>w'.cell? ⟨w.heap.size,1,none⟩=some (.int .i64 proc)∧w'.cell? ⟨w.heap.size,6,none⟩=some (.int .i64 resp)) (go_keep)
  (first
   | (go_at_call 132;refine(HP.o _).mono ?_;rintro e W2 ⟨i,rfl,C,v⟩;have p:=ar.o.below (((Below.refl _ _).drew).trans v) zL;have ap:=ZZ p;have O:=ZZ (z.o.trans ((((Below.refl _ _).drew).trans v).mono z.o.size));have ai:=ZZ (af.o.below (((Below.refl _ _).drew).trans v) zL);obtain⟨a2,c2,rfl,-⟩:=C.rd;have ao:=ZZ C.rd;obtain⟨q1,-⟩:=p.cell 1;obtain⟨q6,-⟩:=p.cell 6;clear C v p)
   | (go_at_call_of 142 (Value.int .i64 d);refine(HA.o _).mono ?_;rintro e W3 ⟨k,rfl,E,j⟩;have x:=ap.o.below j zL;have av:=ZZ x;have K:=ZZ (O.o.trans (j.mono O.o.size));have aq:=ZZ (ao.o.below j zL);have ak:=ZZ (ai.o.below j zL);obtain⟨a3,c3,rfl,-⟩:=E.rd;have ae:=ZZ E.rd;obtain⟨r1,-⟩:=x.cell 1;obtain⟨r6,-⟩:=x.cell 6;clear E j x)
   | (go_at_call_of 142 (Value.int .i64 resp);refine(V.o _).mono ?_;rintro e M ⟨v4,rfl,F,c⟩;have t:=av.o.below c zL;have aa:=ZZ t;have G:=ZZ (K.o.trans (c.mono K.o.size));have Z:=ZZ (aq.o.below c zL);have ad:=ZZ (ae.o.below c zL);have R:=ZZ (ak.o.below c zL);obtain⟨a4,c4,rfl,-⟩:=F.rd;have ag:=ZZ F.rd;obtain⟨s1,-⟩:=t.cell 1;obtain⟨s6,-⟩:=t.cell 6;clear F c t)
   | (go_at_call 131;refine(am.o M M.heap.size _ _ _ _ rfl Z.o ad.o R.o ag.o).mono ?_;rintro e W5 ⟨v5,rfl,L,B⟩;have D:=aa.o.below B zL;have aj:=ZZ (G.o.trans (B.mono G.o.size));have ab:=ZZ (L.mono G.o.size);obtain⟨t1,-⟩:=D.cell 1;obtain⟨t6,-⟩:=D.cell 6;clear L B D))
 all_goals
  go_wp2;go_ret;exact⟨_,rfl,ab.o,aj.o⟩
theorem ZiJ (l:List Rec) (r:Rec):Zzu (Q7 l) r.proc r.seq=Q7 (l++[r]):=by
 funext q
 unfold Zzu;rw[ZmJ]
theorem Br.own {cs:Array Value} (h:Br w b cs) {B:Nat} {v:Value} {l:List UInt8} (d:Own w B v l):some b≠v.ownBlock:=by
 rcases d.2 with ⟨a,_⟩ | ⟨g,cap,cur,a,_,i,_⟩
 ·rw[a]
  intro e
  cases e
 ·rw[a]
  intro e;have f:b=g:=by simpa[Value.ownBlock] using e
  unfold Br at h;rw[f,i] at h
  have c:(5:TypeId)=62:=by
   injection h with h
   injection h
  exact absurd c (by decide)
theorem ZgJ (v:Value) (l:List Rec) (w:World) (b:RdR w v l):
 Calls prog 90 #[v] w fun e w'=>ZlV w l e w':=by
 have HR:=ZZ b;have Y:=ZZ (fun W h=>ZbF v l W h)
 obtain⟨ao,cap,rfl,a0,aU,-,-,aK⟩:=b;have bf:(l.length:Int)<=9223372036854775807:=by unfold maxLen at aU;omega
 have a8:=ZZ aK;clear aK a0 aU;unfold ZlV;by_cases a:Yc l
 case neg=>
  simp only [if_neg a];rw[decide_eq_false a] at Y;clear a
  go_enter func90,ntmps90
  go_wp2_with fail
  refine(Y.o _ HR.o).mono ?_;rintro e W1 ⟨rfl,x⟩;have z:=ZZ x;clear x;go_wp2;go_ret2;exact⟨_,rfl,Own.nil _ _,z.o⟩
 simp only [if_pos a];rw[decide_eq_true a] at Y;have p:1<=l.length:=a.1;have h2:l.length<=256:=a.2.1;rcases a8.o with h0 | ⟨c,aR,rfl,hc⟩
 ·rw[h0] at p;simp at p
 have aE:Hid (∀ k,k<l.length->∀ W,Below w.heap.size w W->ZjI W c (aR+k*7) (l.getD k Qi)):=ZZ (fun k i W h=>(hc k i).keep (h.block c (hc k i).lt))
 have aI:Hid (∀ k,k<l.length->Qz (l.getD k Qi)):=ZZ (fun k i=>a.2.2.1 _ (by simp[List.getD,i]))
 have aa:Hid (∀ k,∀ r ∈ l.take k,Qz r):=ZZ (fun k r b=>a.2.2.1 r (List.mem_of_mem_take b))
 have hh:l.headD Qi=l.getD 0 Qi:=by cases l <;> simp
 obtain⟨_,i0,i1,_⟩:=aI.o 0 p
 have aS:Hid (X9 l=(Lib.uvarint (l.getD 0 Qi).idx.toNat++Lib.uvarint l.length)++Yg [] (l.take l.length)):=ZZ (by
  unfold X9
  rw[hh,take_length,List.append_assoc])
 have aZ:=ZZ (fun k i=>ZrJ l k i)
 have a9:Hid (∀ k,(Yg [] (l.take k)).length<=60*256):=ZZ (fun k=>by
  have h3:=ZnJ (l.take k) [] (fun r b=>by simp at b) (aa.o k)
  have h4:(l.take k).length<=l.length:=by simp;omega
  omega)
 have u1:=Gh (n:=(l.getD 0 Qi).idx.toNat) (by omega)
 have u2:=Gh (n:=l.length) (by omega)
 have aH:Hid (∀ W,Calls prog 132 #[.slice none 0 0,.int .i64 (l.getD 0 Qi).idx] W fun e w'=>∃ v',e=.returned v'∧Own w' W.heap.size v' (Lib.uvarint (l.getD 0 Qi).idx.toNat)∧Below W.heap.size W w'):=fun W=>by
  have h:=ZbE (.slice none 0 0) [] (l.getD 0 Qi).idx W (Rd.nil W) (by simp)
  rw[J0 i0 (by omega),nil_append] at h
  exact h
 have ab:Hid (∀ W,Calls prog 132 #[.slice none 0 0,.int .i64 (l.length:Int)] W fun e w'=>∃ v',e=.returned v'∧Own w' W.heap.size v' (Lib.uvarint l.length)∧Below W.heap.size W w'):=fun W=>by
  have h:=ZbE (.slice none 0 0) [] (l.length:Int) W (Rd.nil W) (by simp)
  rw[J0 (by omega) (by omega),Int.toNat_natCast,nil_append] at h
  exact h
 rw[aS.o];have aG:(Lib.uvarint (l.getD 0 Qi).idx.toNat++Lib.uvarint l.length).length<=20:=by rw[length_append];omega
 have aA:=(aE.o 0 p);have a4:=ZZ aA;have be:=ZZ a.2.2.1;have T:Hid (∀ W N P O,N=W.heap.size->Rd W P (Lib.uvarint (l.getD 0 Qi).idx.toNat)->Rd W O (Lib.uvarint l.length)->Calls prog 131 #[.slice (some ⟨N,0,none⟩) 2 2] (W.alloc (.cells #[P,O] 53)) fun e w'=>∃ v',e=.returned v'∧Own w' W.heap.size v' (Lib.uvarint (l.getD 0 Qi).idx.toNat++Lib.uvarint l.length)∧Below W.heap.size W w'):=fun W N P O hN h0 p=>ZyZ W N hN P O _ _ h0 p (by omega)
 clear a hc hh aS i0 i1 u1 u2 aA;generalize (l.getD 0 Qi)=r0 at *;generalize Lib.uvarint r0.idx.toNat=A at *;obtain⟨A2,aC⟩:∃ A2,A2=Lib.uvarint l.length:=⟨_,rfl⟩;rw[<-aC] at ab T aG ⊢;clear aC;obtain⟨H,hH⟩:∃ H,H=A++A2:=⟨_,rfl⟩;rw[<-hH] at T aG ⊢;clear hH;have bg:=@run_makeMap prog;have bi:(0:Int)<(l.length:Int):=by omega
 go_enter func90,ntmps90
 go_wp2_with fail
 refine(Y.o _ HR.o).mono ?_;rintro e W1 ⟨rfl,x⟩;have z:=ZZ x
 have a1:W1.cell? ⟨c,aR,none⟩=some (.int .i64 r0.idx):=by
  have h:=(a4.o W1 x).1
  rwa [Nat.zero_mul,Nat.add_zero] at h
 clear x
 go_wp2_with fail
 refine(aH.o _).mono ?_;rintro e W2 ⟨v2,rfl,aj,aP⟩;obtain⟨a2,n2,rfl,-⟩:=aj.rd;have aQ:=ZZ aj.rd;have an:=ZZ (z.o.trans (aP.mono z.o.size));clear aj aP a1 z
 go_wp2_with fail
 refine(ab.o _).mono ?_;rintro e W3 ⟨v3,rfl,am,au⟩;obtain⟨a3,n3,rfl,-⟩:=am.rd;have aT:=ZZ (aQ.o.below au zL);have aM:=ZZ am.rd;have J:=ZZ (an.o.trans (au.mono an.o.size));clear am au aQ an aH ab
 go_wp2_with fail
 refine(T.o W3 W3.heap.size _ _ rfl aT.o aM.o).mono ?_;rintro e B ⟨v4,rfl,aJ,aL⟩;have aN:=ZZ (aJ.mono J.o.size);have Q:=ZZ (J.o.trans (aL.mono J.o.size));clear aJ aL aT aM J T;have d:Hid (Own (B.alloc (.map #[] 0)) w.heap.size v4 H):=ZZ (aN.o.below ((Below.refl _ _).alloc zL _) zL);have f:=ZZ (ZfU.made B);have t:Hid (Below w.heap.size w (B.alloc (.map #[] 0))):=ZZ (Q.o.alloc Q.o.size _);have HN:=ZZ Q.o.size;go_wp2
 go_loopw[4,24] (fun vo vi wr=>∃ k:Nat,vi=.int .i64 (k:Int)∧k<=l.length∧Hid (Own wr w.heap.size vo (H++Yg [] (l.take k)))∧Hid (ZfU wr B.heap.size k (Q7 (l.take k)))∧Hid (Below w.heap.size w wr)) (fun _ vi _=>l.length-(intOf vi).toNat)
 case atStart=>exact⟨0,rfl,Nat.zero_le _,by simpa[Yg] using d,f,t⟩
 case round=>
  clear d t f aN Q;obtain⟨k,rfl,i,u,hM,C⟩:=hrel;by_cases S:k<l.length
  case neg=>
   have ay:l.take k=l.take l.length:=by rw[take_length,List.take_of_length_le (by omega)]
   rw[ay] at u;clear ay;go_wp2;go_ret2;exact⟨_,rfl,u.out,C.out⟩
  have ba:(k:Int)<(l.length:Int):=by omega
  have q:=aI.o k S;have D:Hid (I64 ((l.getD k Qi).seq-Q7 (l.take k) (l.getD k Qi).proc)):=ZZ (Zeu (aa.o k) q);have y:Hid (∀ W,Calls prog 133 #[Zso (l.getD k Qi),.int .i64 ((l.getD k Qi).seq-Q7 (l.take k) (l.getD k Qi).proc)] W fun e w'=>∃ v',e=.returned v'∧Own w' W.heap.size v' (Zf (l.take k) (l.getD k Qi))∧Below W.heap.size W w'):=ZZ (fun W=>ZiI (l.getD k Qi) ((l.getD k Qi).seq-Q7 (l.take k) (l.getD k Qi).proc) W q D.o)
  have ai:Hid (I64 (l.getD k Qi).proc):=ZZ (by obtain⟨_,_,_,_,_,bb,bd,_⟩:=q;exact⟨by omega,by omega⟩)
  have aV:Hid (I64 (l.getD k Qi).seq):=ZZ (by obtain⟨_,_,_,bj,bc,_⟩:=q;exact⟨by omega,by omega⟩)
  have G:=ZZ (ZkD (aa.o k) q);have aq:=ZZ (aE.o k S);have aW:=a9.o k;have ap:Hid ((H++Yg [] (l.take k)).length<=20000):=ZZ (by rw[length_append];omega)
  have V:Hid (H++Yg [] (l.take (k+1))=(H++Yg [] (l.take k))++Zf (l.take k) (l.getD k Qi)):=ZZ (by
   rw[aZ.o k S,List.append_assoc])
  have az:Hid (Zzu (Q7 (l.take k)) (l.getD k Qi).proc (l.getD k Qi).seq=Q7 (l.take (k+1))):=ZZ (by
   rw[ZiJ,ZfQ S])
  clear aW q;obtain⟨r,b⟩:∃ r,r=l.getD k Qi:=⟨_,rfl⟩;rw[<-b] at D y ai aV G aq V az;unfold Zso at y;clear b;have ag:Hid (∀ X,(Instr.lookup 183 (.map (some B.heap.size)) (.int .i64 r.proc) false).run prog (wr.alloc X)=.ok (.int .i64 (Q7 (l.take k) r.proc)) (wr.alloc X)):=ZZ (fun X=>(hM.out.below ((Below.refl _ _).alloc zL X) zL).look ai.o)
  obtain⟨L,aD⟩:∃ L,L=Q7 (l.take k) r.proc:=⟨_,rfl⟩;rw[<-aD] at D y ag;clear aD;obtain⟨E,hE⟩:∃ E,E=Zf (l.take k) r:=⟨_,rfl⟩;rw[<-hE] at y G V;clear hE;obtain⟨F,aF⟩:∃ F,F=H++Yg [] (l.take k):=⟨_,rfl⟩;rw[<-aF] at u ap V;clear aF;have L0:=ap.o;have L1:=G.o;have bl:IntKind.i64.wrap (r.seq-L)=r.seq-L:=ZoP D.o;have aX:=ag.o;obtain⟨c0,c1,c2,c3,c4,c5,c6⟩:=aq.o wr C.out
  obtain⟨M,R,rfl⟩:∃ M R,u4=.slice M F.length R:=by
   obtain⟨M,R,h,-⟩:=u.out.rd;exact⟨M,R,h⟩
  have aB:Hid (∀ cs,Br (wr.alloc (.cells cs 62)) wr.heap.size cs):=fun cs=>heap_alloc_new wr _
  have aw:Hid (∀ X,Below wr.heap.size wr (wr.alloc X)):=fun X=>(Below.refl _ _).alloc zL X
  clear ag D ap G
  go_wp2_with fail
  refine(y.o _).mono ?_;rintro e W5 ⟨v5,rfl,ak,ae⟩;obtain⟨a5,n5,rfl,-⟩:=ak.rd;have I:Below wr.heap.size wr W5:=(aw.o _).trans (ae.mono (aw.o _).size);have aO:=ZZ ak.rd;have d:=ZZ (u.out.below I zL);have f:=ZZ (hM.out.below I zL);have U:Hid (Br W5 wr.heap.size _):=ZZ ((aB.o _).below ae zL);have t:=ZZ (C.out.trans (I.mono C.out.size));have ad:=ZZ t.o.size;clear ak ae I u hM C aB aw c0 c1 c2 c3 c4 c5 c6 aX y aq
  go_wp2_with(at_builtin;refine ZfP _ rfl _ _ rfl w.heap.size _ F rfl d.o _ E rfl aO.o (by omega) ad.o ?_)
  intro v6 W6 ac K;rw[<-V.o] at ac;have af:=ZZ ac;have av:Hid (Br W6 wr.heap.size _):=ZZ ((K.block _ U.o.lt (U.o.own d.o)).trans U.o)
  have Z:=ZZ (f.o.keep (K.block _ f.o.lt (by
   rcases f.o.own d.o with h | h
   ·rw[h];exact fun e=>by cases e
   ·exact fun e=>h e.symm)))
  have ax:=ZZ (t.o.grown K ad.o (fun j m=>by
   rcases d.o.2 with ⟨hv,_⟩ | ⟨g,cap,cur,hv,bk,_⟩
   ·rw[hv] at m;cases m
   ·rw[hv] at m
    have e':g=j:=by simpa[Value.ownBlock] using m
    omega))
  clear ac K d U f t ad aO;obtain⟨W7,bm,ar,al⟩:=Z.o.put ai.o aV.o (by omega)
  rw[az.o] at ar;have a6:=ZZ ar;have aY:Hid (Own W7 w.heap.size v6 (H++Yg [] (l.take (k+1)))):=ZZ (World.ownsRow.kept af.o al (Z.o.own af.o));have a7:=ZZ (ax.o.grown al ax.o.size (fun j m=>by cases m;exact HN.o))
  obtain⟨q1,-⟩:=av.o.cell 1;obtain⟨q2,-⟩:=av.o.cell 2;clear ar al Z af ax av;go_wp2;go_roundw
  case rel=>exact⟨k+1,by go_num,by omega,aY,a6,a7⟩
  case measure=>simp[intOf];omega
theorem ZjS (v:Value) (l:List Rec) (w:World) (f:RdR w v l) (c:Yc l) (m:(X9 l).length<=1048576):
 Calls prog 49 #[v] w fun e w'=>∃ v',e=.returned v'∧Own w' w.heap.size v' (Qd (X9 l))∧Below w.heap.size w w':=by
 have a:=ZZ (ZgJ v l w f);unfold ZlV at a;rw[if_pos c,if_pos c] at a;have j:=ZZ (fun d W (h:Rd W d (X9 l))=>Zdj d _ W h)
 rw[ZlW m] at j;obtain⟨ao,cap,rfl,-⟩:=f;generalize X9 l=B at *;generalize Qd B=z at *;clear c m
 go_enter func49,ntmps49
 go_wp2_with fail
 refine a.o.mono ?_;rintro e y ⟨d,rfl,k,g⟩;have p:=ZZ k.rd;have b:=ZZ g;clear k g
 go_wp2_with fail
 refine(j.o _ _ p.o).mono ?_;rintro e x ⟨u,rfl,n,i⟩;have t:=ZZ (n.mono b.o.size);have q:=ZZ (b.o.trans (i.mono b.o.size));clear n i;go_wp2;go_ret;exact⟨_,rfl,t.o,q.o⟩
theorem ZlZ {L:ZdU} (w:World) (h:Jq M I w p pd L s) (g:ZpE s) (m:0<=s.now.st.kind∧s.now.st.kind<6) (J:s.next<4611686018427387904) (y:0<=s.next):
 Calls prog 51 #[ptr p] w fun e w'=>∃ v',e=.returned v'∧Own w' w.heap.size v' (Qd (Xq 3 s.now.st.kind.toNat s.next.toNat))∧Below w.heap.size w w':=by
 have j:=ZZ h
 have G:Hid (∀ W,Below w.heap.size w W->Calls prog 14 #[ptr p] W fun e w'=>e=.returned (.int .i64 s.next)∧Below w.heap.size w w'):=ZZ (fun W a=>(Zit W (h.below a) g).mono (by
  rintro e w' ⟨rfl,b⟩
  exact⟨rfl,a.trans (b.mono a.size)⟩))
 have E:Hid (∀ W,Below w.heap.size w W->Calls prog 93 #[.int .i64 3,.int .i64 s.now.st.kind,.int .i64 s.next] W fun e w'=>∃ v',e=.returned (.tuple #[v',.int .i64 0])∧Own w' w.heap.size v' (Qd (Xq 3 s.now.st.kind.toNat s.next.toNat))∧Below w.heap.size w w'):=ZZ (fun W a=>by
  have c:=ZnN 3 s.now.st.kind s.next W;have n:Zgs s.now.st.kind s.next:=⟨m.1,m.2,y,J⟩;have D:Jj 3 s.now.st.kind s.next=0:=by unfold Jj;rw[if_pos (by decide),if_pos n]
  have x:ZgI 3 s.now.st.kind s.next=Qd (Xq 3 s.now.st.kind.toNat s.next.toNat):=by unfold ZgI;rw[if_pos (by decide),if_pos n];rfl
  unfold Zrb at c;rw[D,x] at c;refine c.mono ?_;rintro e w' ⟨v',rfl,A,b⟩
  exact⟨v',rfl,A.mono a.size,a.trans (b.mono a.size)⟩)
 have d:Hid (∀ W,Below w.heap.size w W->W.cell? ⟨p,6,none⟩=some (.int .i64 s.now.st.kind)):=ZZ (fun W a=>by
  obtain⟨-,-,-,-,-,⟨-,v,-⟩,-⟩:=(j.o.below a).cs
  exact v)
 have k:Hid (Below w.heap.size w w.drew):=ZZ (Below.refl _ _).drew;generalize Qd (Xq 3 s.now.st.kind.toNat s.next.toNat)=C at *;generalize s.now.st.kind=kd at *;generalize s.next=nx at *;clear h j g
 go_enter func51,ntmps51
 go_upto_region 1 with fail
 go_cut[3,4] (fun u z wc=>z=.int .i64 0∧Hid (Own wc w.heap.size u C)∧Hid (Below w.heap.size w wc))
 case first=>
  go_region_held(fun W=>W.cell? ⟨p,6,none⟩=some (.int .i64 kd))
   (first | (with_reducible exact d.o _ k.o) | (with_reducible exact d.o _ i.o) | (with_reducible exact d.o _ q.o))
   (first
    | (go_at_call 14;refine(G.o _ k.o).mono ?_;rintro e O ⟨rfl,f⟩;have i:=ZZ f;clear f)
    | (go_at_call 93;refine(E.o _ i.o).mono ?_;rintro e N ⟨K,rfl,l,t⟩;have H:=ZZ l;have q:=ZZ t;clear l t))
  all_goals
   go_wp2_with fail
   go_meet
   exact⟨rfl,H,q⟩
 case rest=>
  obtain⟨rfl,F,B⟩:=hcut;go_wp2;go_ret;exact⟨_,rfl,F.o,B.o⟩
def Zza (t:List Ent):Prop:=ZhB t∧∀ e ∈ t,0<=e.proc∧e.proc<=64
theorem ZnP:∀ (t:List Ent) (a:Int),ZhB t->(∀ e ∈ t,a<=e.proc∧e.proc<=64)->(t.length:Int)<=max 0 (65-a)
 | [],a,_,_=>by simp only [List.length_nil];omega
 | e::t,a,h,hb=>by
  unfold ZhB at h;rw[List.pairwise_cons] at h;have c:=hb e List.mem_cons_self;have d:=ZnP t (e.proc+1) h.2 (fun x b=>⟨by have:=h.1 x b;omega,(hb x (List.mem_cons_of_mem _ b)).2⟩)
  rw[List.length_cons];omega
theorem Zza.few (h:Zza t):t.length<=65:=by
 have:=ZnP t 0 h.1 h.2;omega
theorem Zza.note (h:Zza t) {e:Ent} (c:0<=e.proc) (b:e.proc<=64):Zza (ZcF t e):=by
 refine⟨ZhC h.1,fun x a=>?_⟩
 rw[ZmF] at a;rcases a with rfl | ⟨a,_⟩
 ·exact⟨c,b⟩
 ·exact h.2 x a
theorem Zet.tabR (h:Zet t):Zza t:=⟨h.rises,fun e a=>by
 have:=h.mem e a;unfold Zbm at this
 omega⟩
def SnS (s:Q0):Prop:=Yl s.st∧Zza s.tab
theorem SnS.next {s:Q0} {r:Rec} (h:SnS s) (c:Qz r):SnS (ZhH s r):=by
 refine⟨ZhG h.1 r.op,?_⟩;obtain⟨-,-,-,-,-,b,a,-⟩:=c;exact h.2.note b a
theorem SnS.take:∀ {l:List Rec} {s:Q0},SnS s->(Q3 s l).2=0->SnS (Q3 s l).1
 | [],_,h,_=>h
 | r::l,s,h,h0=>by
  rw[Q3] at h0 ⊢;split at h0
  ·cases h0
  ·rename_i c
   rw[if_neg c];split at h0
   ·cases h0
   ·rename_i a
    rw[if_neg a]
    exact SnS.take (h.next (by
     by_cases b:Qz r
     ·exact b
     ·exact absurd b a)) h0
structure OkS (s:Sto):Prop where
 log:OkG s.log
 nx:s.now.idx=s.next
 now:SnS s.now
 cur:s.cur≠0->s.log.pcs.length≠0
 sy:I64 s.synced
 cu:I64 s.cur
theorem OkS.num (h:OkS s):ZpE s:=⟨h.log.f0,h.log.top,h.sy,h.cu⟩
theorem OkG.recOk {b:Lgb} (h:OkG b):∀ r ∈ b.recs,Zcx r:=fun r a=>ZaQ (h.fits r a)
theorem SD.begin (h:SD K w pd p s d N T) (c:∀ k,K k->k<w.heap.size) (name first:Int) (i:s.log.pcs.length<=1000000):
 Calls prog 53 #[.pointer (some ⟨p,1,none⟩),.int .i64 name,.int .i64 first] w fun e w'=>e=.returned (.tuple #[])∧SD K w' pd p { s with log:=s.log.start name first } d N T∧Ql (fun k=>¬ K k) w w':=by
 obtain⟨F,M,I,L,u,a,g,b,v,j,f⟩:=h;refine(Zkz 76 (by decide) (by decide) p 1 _ L.rv L.pv s.log name first w a.toLog i).mono ?_
 rintro e w' ⟨m,t⟩;obtain⟨M',L',l,-,-,x,n⟩:=a.ofLog t;exact⟨m,SD.own c u g b v j f x l n (fun _ q=>.inl q)⟩
theorem SD.add (h:SD K w pd p s d N T) (g:∀ k,K k->k<w.heap.size) (a:Value) (l:List Rec) (c:RdR w a l) (n:s.log.pcs.length≠0) (t:s.log.pcs.length<=1000000) (B:s.log.recs.length+l.length<=10000000) (m:∀ q ∈ s.log.pcs,0<=q.stop∧q.stop<=4611686018427387904):
 Calls prog 54 #[.pointer (some ⟨p,1,none⟩),a] w fun e w'=>e=.returned (.tuple #[])∧SD K w' pd p { s with log:=s.log.add l } d N T∧Ql (fun k=>¬ K k) w w':=by
 obtain⟨F,M,I,L,C,b,j,f,D,u,i⟩:=h;refine(Zve 76 (by decide) (by decide) p 1 _ L.rv L.pv s.log a l w b.toLog c n t B m).mono ?_
 rintro e w' ⟨x,A⟩;obtain⟨M',L',v,-,-,E,y⟩:=b.ofLog A;exact⟨x,SD.own g C j f D u i E v y (fun _ z=>.inl z)⟩
def Zma (w:World) (p o:Nat) (x0 x1 x2 x3 x4 x5:Value):World:=(((((w.setCell ⟨p,o,none⟩ x0).setCell ⟨p,o+1,none⟩ x1).setCell ⟨p,o+2,none⟩ x2).setCell ⟨p,o+3,none⟩ x3).setCell ⟨p,o+4,none⟩ x4).setCell ⟨p,o+5,none⟩ x5
theorem ZsS (w:World) (p o:Nat) (b e c d f g:Value) (k:Nat) (a:k≠p):(Zma w p o b e c d f g).heap[k]?=w.heap[k]?:=by
 unfold Zma;rw[Below.heap_setCell _ _ _ _ a,Below.heap_setCell _ _ _ _ a,Below.heap_setCell _ _ _ _ a,Below.heap_setCell _ _ _ _ a,Below.heap_setCell _ _ _ _ a,Below.heap_setCell _ _ _ _ a]
theorem ZsT (w:World) (p o:Nat) (c f d e g i:Value) (M:Nat->Prop) (a:M p):Ql M w (Zma w p o c f d e g i):=
 ((((((Ql.refl M w).setCell (b:=p) _ (fun _=>a) _).setCell (b:=p) _ (fun _=>a) _).setCell (b:=p) _ (fun _=>a) _).setCell (b:=p) _ (fun _=>a) _).setCell (b:=p) _ (fun _=>a) _).setCell (b:=p) _ (fun _=>a) _
theorem SD.setNow {W:World} {F:Nat->Prop} {L:ZdU} (B:∀ k,K k->k<w.heap.size) (R:Dsk F w pd d N T) (a:Jq M I w p pd L s) (H:∀ k,F k->¬ K k) (A:∀ k,M k->¬ K k) (S:∀ k,I k->¬ K k) (P:∀ k,F k->¬ M k) (D:∀ k,F k->¬ I k)
 (i:Below w.heap.size w W) (x:Q0 × Value × Value) (J:SnR W x) (hi:Zmp (fun k=>I k∨(w.heap.size<=k∧k<W.heap.size)) x):
 SD K (Zma W p 5 (.int .i64 x.1.idx) (.int .i64 x.1.st.kind) x.2.1 (.bool x.1.st.shut) (.int .i64 x.1.st.eng) x.2.2) pd p { s with now:=x.1 } d N T∧
  Ql (fun k=>¬ K k) w (Zma W p 5 (.int .i64 x.1.idx) (.int .i64 x.1.st.kind) x.2.1 (.bool x.1.st.shut) (.int .i64 x.1.st.eng) x.2.2):=by
 obtain⟨f,j⟩:∃ f,f=Zma W p 5 (.int .i64 x.1.idx) (.int .i64 x.1.st.kind) x.2.1 (.bool x.1.st.shut) (.int .i64 x.1.st.eng) x.2.2:=⟨_,rfl⟩;rw[<-j];have b:=a.below i;have hk:∀ k,k≠p->f.heap[k]?=W.heap[k]?:=fun k hk=>by rw[j];exact ZsS _ _ _ _ _ _ _ _ _ k hk
 have O:Ql M w f:=(Ql.ofBelow i).trans (G:=M) (by rw[j];exact ZsT _ _ _ _ _ _ _ _ _ M a.mh) (fun _ _ h=>h)
 have q:f.heap.size=W.heap.size:=by rw[j];unfold Zma;simp
 have V:p<w.heap.size:=a.ltM p a.mh
 have Q:Bk 76 f p (stC pd { L with nl:=x.2.1,nt:=x.2.2 } { s with now:=x.1 }):=by
  rw[j];exact(((((b.head.set 5 _).set 6 _).set 7 _).set 8 _).set 9 _).set 10 _
 have m:∀ {t:TypeId} {n sz g:Nat} {v:Value} {xs:List Value},W.ownsRow 0 t sz v n xs->v.ownBlock=some g->t≠76->g≠p:=fun z c C=>by
  obtain⟨U,i⟩:=X0 z c;exact i.ne b.head C
 have u:∀ k,(I k∨(w.heap.size<=k∧k<W.heap.size))->f.heap[k]?=W.heap[k]?:=fun k E=>hk k (fun e=>by
  subst e;rcases E with h | h
  ·exact a.dis _ a.mh h
  ·omega)
 refine SD.own (I':=fun k=>I k∨(w.heap.size<=k∧k<W.heap.size)) (M':=M) (L':={ L with nl:=x.2.1,nt:=x.2.2 }) B R H A S P D O ⟨Q,Qh b.recs fun g c=>hk g (m b.recs c (by decide)),Qh b.pcs fun g c=>hk g (m b.pcs c (by decide)),Qh b.bases fun g c=>hk g (m b.bases c (by decide)),b.bsEq,J.keep hi u,fun y l=>(b.base y l).keep (b.ibase y l) (fun g c=>u g (.inl c)),a.mh,a.mr,a.mp,a.mb,hi,fun y l=>(a.ibase y l).mono (fun k hk=>.inl hk),fun k hm=>?_,fun k hm=>?_,fun k hm hi=>?_⟩ (fun _ hk=>.inl hk) (fun k hk=>?_)
 ·rw[q];exact Nat.lt_of_lt_of_le (a.ltM k hm) i.size
 ·rw[q]
  rcases hm with hm | hm
  ·exact Nat.lt_of_lt_of_le (a.ltI k hm) i.size
  ·exact hm.2
 ·rcases hi with hi | hi
  ·exact a.dis k hm hi
  ·have:=a.ltM k hm
   omega
 ·rcases hk with hk | hk
  ·exact .inl hk
  ·exact .inr hk.1
theorem ZiK (h:Yc l):(X9 l).length<=20000:=by
 obtain⟨c,i,b,e⟩:=h;have a:=ZfT l [] (fun r a=>by cases a) b
 unfold X9;rw[length_append,length_append]
 have d:Qz (l.headD Qi):=by
  match l,c with
  | r::t,_=>exact b r List.mem_cons_self
 have f:(Lib.uvarint (l.headD Qi).idx.toNat).length<=10:=Gh (by have:=d.2.2.1;omega)
 have g:(Lib.uvarint l.length).length<=10:=Gh (by omega)
 omega
theorem ZsU (h:Yc l) (e:0<=s.now.st.kind∧s.now.st.kind<6) (j:s.next<4611686018427387904):(Jv s l).length<=30000:=by
 have c:=ZiK h;have i:=Q9 (X9 l);have g:=Q9 (Xq 3 s.now.st.kind.toNat s.next.toNat);have a:=ZcP (v:=3) (k:=s.now.st.kind.toNat) (f:=s.next.toNat) (by decide) (by omega) (by omega)
 have b:(Lib.uvarint (X9 l).length).length<=10:=Gh (by omega)
 have d:(Lib.uvarint (Xq 3 s.now.st.kind.toNat s.next.toNat).length).length<=10:=Gh (by omega)
 unfold Jv;split
 ·rw[length_append]
  omega
 ·omega
theorem ZcQ (h:OkD d) (first:Int) (f:0<=first) (g:first<=1000):I64 (Xs d first):=by
 have a:∀ n ∈ Xk (Qk d) first,0<=n∧n<1048576:=fun n b=>Zbg h n (List.mem_filter.1 b).1
 unfold Xs;generalize Xk (Qk d) first=l at a ⊢;by_cases c:l.length=0
 ·rw[List.eq_nil_of_length_eq_zero c]
  show I64 (first-2+2);exact⟨by omega,by omega⟩
 ·have e:l.getD (l.length-1) (first-2)=l[l.length-1]'(by omega):=by simp[List.getD,show l.length-1<l.length by omega]
  have:=a _ (List.getElem_mem (show l.length-1<l.length by omega))
  rw[e];exact⟨by omega,by omega⟩
theorem RdR.keepK (h:RdR w v l) (hv:l=[]∨∀ k,v.ownBlock=some k->K k) (m:Ql (fun k=>¬ K k) w w'):RdR w' v l:=by
 obtain⟨ao,cap,rfl,g,i,e,n,a⟩:=h;refine⟨ao,cap,rfl,g,i,e,n,?_⟩;rcases hv with hv | hv
 ·exact .inl hv
 rcases a with a | ⟨b,f,rfl,d⟩
 ·exact .inl a
 ·exact .inr ⟨b,f,rfl,fun j c=>(d j c).keep (m.block b (d j c).lt (fun p=>p (hv b rfl)))⟩
theorem SD.takes (h:SD K w pd p s d N T) (hK:∀ k,K k->k<w.heap.size) (G:SnS s.now) (E:Value) (l:List Rec) (hr:RdR w E l) (ag:l.length<=1000000):
 ∃ a b lc i n m,(w.cell? ⟨p,5,none⟩=some (.int .i64 s.now.idx)∧w.cell? ⟨p,6,none⟩=some (.int .i64 s.now.st.kind)∧w.cell? ⟨p,7,none⟩=some (.slice a b lc)∧w.cell? ⟨p,8,none⟩=some (.bool s.now.st.shut)∧w.cell? ⟨p,9,none⟩=some (.int .i64 s.now.st.eng)∧w.cell? ⟨p,10,none⟩=some (.slice i n m))∧
  Calls prog 15 #[.agg #[.int .i64 s.now.idx,.int .i64 s.now.st.kind,.slice a b lc,.bool s.now.st.shut,.int .i64 s.now.st.eng,.slice i n m],E] w fun e w'=>
   ∃ t A q x H y,e=.returned (.tuple #[.agg #[.int .i64 (Q3 s.now l).1.idx,.int .i64 (Q3 s.now l).1.st.kind,.slice t A q,.bool (Q3 s.now l).1.st.shut,.int .i64 (Q3 s.now l).1.st.eng,.slice x H y],.int .i64 (Q3 s.now l).2])∧
    (w'.cell? ⟨p,5,none⟩=some (.int .i64 s.now.idx)∧w'.cell? ⟨p,6,none⟩=some (.int .i64 s.now.st.kind)∧w'.cell? ⟨p,7,none⟩=some (.slice a b lc)∧w'.cell? ⟨p,8,none⟩=some (.bool s.now.st.shut)∧w'.cell? ⟨p,9,none⟩=some (.int .i64 s.now.st.eng)∧w'.cell? ⟨p,10,none⟩=some (.slice i n m))∧(∀ j,w'.frozen? ⟨p,j,none⟩=false)∧
    SD K (Zma w' p 5 (.int .i64 (Q3 s.now l).1.idx) (.int .i64 (Q3 s.now l).1.st.kind) (.slice t A q) (.bool (Q3 s.now l).1.st.shut) (.int .i64 (Q3 s.now l).1.st.eng) (.slice x H y)) pd p { s with now:=(Q3 s.now l).1 } d N T∧
    Ql (fun k=>¬ K k) w (Zma w' p 5 (.int .i64 (Q3 s.now l).1.idx) (.int .i64 (Q3 s.now l).1.st.kind) (.slice t A q) (.bool (Q3 s.now l).1.st.shut) (.int .i64 (Q3 s.now l).1.st.eng) (.slice x H y)):=by
 obtain⟨F,M,I,L,h1,c,h3,h4,h5,h6,h7⟩:=h;obtain⟨a,b,lc,i,n,m,e1,e2⟩:=c.now.shape;have z:L.nl=.slice a b lc:=e1;have O:L.nt=.slice i n m:=e2
 have Z:∀ W,Below w.heap.size w W->(W.cell? ⟨p,5,none⟩=some (.int .i64 s.now.idx)∧W.cell? ⟨p,6,none⟩=some (.int .i64 s.now.st.kind)∧W.cell? ⟨p,7,none⟩=some (.slice a b lc)∧W.cell? ⟨p,8,none⟩=some (.bool s.now.st.shut)∧W.cell? ⟨p,9,none⟩=some (.int .i64 s.now.st.eng)∧W.cell? ⟨p,10,none⟩=some (.slice i n m)):=fun W hW=>by
  obtain⟨-,-,-,-,-,⟨c5,c6,R,c8,c9,Y⟩,-⟩:=(c.below hW).cs;rw[z] at R;rw[O] at Y;exact⟨c5,c6,R,c8,c9,Y⟩
 refine⟨a,b,lc,i,n,m,Z w (Below.refl _ _),?_⟩;have V:=c.now.snV
 have ac:snV (L.nx s)=.agg #[.int .i64 s.now.idx,.int .i64 s.now.st.kind,.slice a b lc,.bool s.now.st.shut,.int .i64 s.now.st.eng,.slice i n m]:=by
  unfold snV snC ZdU.nx
  dsimp only
  rw[z,O]
 rw[ac] at V;have hL:s.now.st.L.length<=1000:=by have:=ZlJ G.1;omega
 have hT:s.now.tab.length<=1000:=by have:=G.2.few;omega
 refine(Zij (P:=SnS) (fun S r u hf=>u.next hf) (fun S u=>by have:=u.2.few;omega) _ _ _ _ _ _ s.now E l w V hr hL hT (by omega) G).mono ?_
 rintro e w' ⟨B,D,rfl,Q,r2,r3,U,r5,g1,g2,J⟩;obtain⟨t,q,X,-⟩:=id Q;obtain⟨x,y,hu⟩:=U.shape;have u:SnR w' ((Q3 s.now l).1,B,D):=⟨Q,U,r2,r3,r5⟩
 have aa:Zmp (fun k=>I k∨(w.heap.size<=k∧k<w'.heap.size)) ((Q3 s.now l).1,B,D):=by
  refine⟨?_,?_⟩
  ·rcases Q.block with ab | ⟨af,k,hk,ad⟩
   ·exact .inl ab
   ·rcases g1 with g1 | g1
    ·rcases c.inow.1 with hi | hi
     ·obtain⟨a2,c2,h9,-⟩:=c.now.l
      have v:L.nl=.slice a2 s.now.st.L.length c2:=h9;have ae:s.now.st.L=[]:=hi;rw[ae] at v;rw[X] at g1;rw[z] at v
      injection g1 with _ g1 _
      injection v with _ v _
      exact .inl (List.eq_nil_of_length_eq_zero (by rw[g1,v];rfl))
     ·refine .inr fun g f=>.inl (hi g ?_)
      show L.nl.ownBlock=some g;rw[z,<-g1];exact f
    ·refine .inr fun g f=>.inr ⟨g1 g f,?_⟩
     rw[f] at hk;obtain rfl:=Option.some.inj hk;exact ad
  ·rcases g2 with ⟨rfl,g2⟩ | g2
   ·rcases c.inow.2 with hi | hi
    ·exact .inl hi
    ·refine .inr fun g f=>.inl (hi g ?_)
     show L.nt.ownBlock=some g;rw[O,<-g2];exact f
   ·exact .inr fun g f=>.inr (World.ownsRow.lt g2 g f)
 have C:=SD.setNow hK h1 c h3 h4 h5 h6 h7 J ((Q3 s.now l).1,B,D) u aa
 dsimp only at C
 subst X hu;exact⟨t,_,q,x,_,y,rfl,Z w' J,fun j=>(c.below J).fz j,C.1,C.2⟩
end Go.Proofs.YtnahjngbneicaaaGreatDoor
