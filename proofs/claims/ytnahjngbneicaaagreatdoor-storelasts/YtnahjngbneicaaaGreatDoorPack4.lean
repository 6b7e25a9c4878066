import Derived.Test.YtnahjngbneicaaaGreatDoorPack3
import Derived.Lib.LazyBuf
import Derived.Sort.OwnSortedInts
namespace Go.Proofs.YtnahjngbneicaaaGreatDoor
open _root_.Go.Proofs.Tryz
open List (getElem_cons_succ getElem_cons_zero getElem_toArray length_take setIfInBounds_toArray set_cons_succ set_cons_zero)
set_option maxHeartbeats 4000000
set_option maxRecDepth 100000
open Go.RowKit
variable {F:Nat->Prop} {B N T b n p r:Nat} {d:Dk} {L:Lay} {w w':World} {u:Int} {v:Value} {l:List Int} {f:Int->Option Nat}
theorem ZwY (w:World) (B:Nat) (a:B<=w.heap.size):Own (w.alloc (.cells #[] 5)) B (.slice (some ⟨w.heap.size,0,none⟩) 0 0) []:=
 ⟨rfl,.inr ⟨w.heap.size,0,#[],rfl,a,heap_alloc_new w _,Nat.le_refl _,Nat.zero_le _,rfl,rfl⟩⟩
theorem ZrX (v:Value) (l:List UInt8) (w:World) (c:Rd w v l) (B:l.length<=70368744177664):
 Calls prog 113 #[v] w fun e w'=>∃ v',e=.returned v'∧Own w' w.heap.size v' l∧Below w.heap.size w w':=by
 have x:=ZZ c;obtain⟨ao,cap,rfl,A,u,a,g⟩:=c
 cases ao with
 | none=>
  have t:=a rfl;have n:l=[]:=List.eq_nil_of_length_eq_zero (by omega)
  subst n;subst t;clear g a;have m:∀ w,(binOp .eql 53 (.slice none 0 0) (.slice none 0 0)).run prog w=.ok (.bool true) w:=fun w=>run_eql_slice_nil w _ _ none 0 0 underlying53
  go_enter func113,ntmps113
  go_wp2;go_ret;exact⟨_,rfl,Own.nil _ _,Below.refl _ _⟩
 | some f=>
  clear g a A u;have m:∀ w,(binOp .eql 53 (.slice (some f) l.length cap) (.slice none 0 0)).run prog w=.ok (.bool false) w:=fun w=>run_eql_slice_nil w _ _ (some f) _ _ underlying53
  have y:=ZZ (ZwY w w.heap.size zL);have b:=ZZ ((Below.refl w.heap.size w).alloc zL (.cells #[] 5));have k:=ZZ (x.o.below b.o zL);have z:Hid (w.heap.size<=(w.alloc (.cells #[] 5)).heap.size):=b.o.size
  go_enter func113,ntmps113
  go_wp2_with(at_builtin;refine Xw _ rfl _ _ rfl w.heap.size _ [] rfl y.o _ l rfl k.o (by simp;omega) z.o ?_)
  intro p C d i;have j:=ZZ d;have q:=ZZ (b.o.trans i);clear d i;go_wp2;go_ret;exact⟨p,rfl,j.o,q.o⟩
theorem Zna (n:Int) (l:I64 n) (w:World) (h:Dsk F w p d N T) (x:T<=1000000000):
 Calls prog 75 #[ptr p,.int .i64 n] w fun e w'=>∃ v,e=.returned (.tuple #[v,.int .i64 (Zp d n).2])∧Own w' w.heap.size v (Zp d n).1∧Below w.heap.size w w':=by
 obtain⟨L,h,g,j,-,-⟩:=h;have a:=ZZ (ZgT n l w h);have H:=ZZ h;have q:=ZZ g;have y:=ZZ j;clear h g j;unfold Zp;by_cases b:d.power=0
 ·rw[if_pos b]
  rw[if_pos b,if_pos b] at a;clear b
  go_enter func75,ntmps75
  go_wp2_with fail
  refine a.o.mono ?_;rintro e w' ⟨rfl,rfl⟩;go_wp2;go_ret2;exact⟨_,rfl,Own.nil _ _,Below.refl _ _⟩
 rw[if_neg b];rw[if_neg b,if_neg b] at a;clear b
 cases ho:look (Qm d) n with
 | none=>
  rw[ho] at a
  dsimp only [Option.map_none,Option.isSome_none,Bool.false_eq_true,if_false,ZqL] at a ⊢
  clear ho
  go_enter func75,ntmps75
  go_wp2_with fail
  refine a.o.mono ?_;rintro e w' ⟨rfl,rfl⟩;go_wp2;go_ret2;exact⟨_,rfl,Own.nil _ _,Below.refl _ _⟩
 | some f=>
  rw[ho] at a
  dsimp only [Option.map_some,Option.isSome_some,if_true,ZqL] at a ⊢
  have c:f<d.files.length:=(q.o.dir.mayOf ho).2;obtain⟨t,-⟩:=(H.out.rest.file f c).box.cell 0 rfl;have u:=ZZ (H.out.rest.file f c).own.rd;have i:=ZZ (ZrX _ _ w u.o (by have:=y.o.bytes _ (ZbH c);omega))
  obtain⟨B,C,k⟩:=(H.out.rest.file f c).own.shape;rw[k] at t i;clear ho c k x l
  go_enter func75,ntmps75
  go_wp2_with fail
  refine a.o.mono ?_;rintro e w' ⟨rfl,rfl⟩
  go_wp2_with fail
  refine i.o.mono ?_;rintro e A ⟨D,rfl,z,m⟩;go_wp2;go_ret2;exact⟨_,rfl,z,m⟩
theorem ZqM (n:Int) (P:I64 n) (w:World) (h:Dsk F w p d N T):
 Calls prog 59 #[ptr p,.int .i64 n] w fun e w'=>Zgk F w p (X3 d n).1 (X3 d n).2 (N+2) T e w':=by
 have I:=ZZ h;obtain⟨L,h,C,E,K,D⟩:=h;have c:=ZZ (ZgT n P w h);have H:=ZZ h;have l:=ZZ C;have t:=ZZ E;have u:=ZZ (And.intro K D);clear h C E K D;unfold X3;by_cases j:d.power=0
 ·rw[if_pos j]
  rw[if_pos j,if_pos j] at c;clear j
  go_enter func59,ntmps59
  go_wp2_with fail
  refine c.o.mono ?_;rintro e w' ⟨rfl,rfl⟩;go_wp2;go_ret;exact Zgk.same I.o (by omega) zL
 rw[if_neg j];rw[if_neg j,if_neg j] at c;clear j
 cases ho:look (Qm d) n with
 | none=>
  rw[ho] at c
  dsimp only [Option.map_none,Option.isSome_none,Bool.false_eq_true,if_false,ZqL] at c ⊢
  clear ho
  go_enter func59,ntmps59
  go_wp2_with fail
  refine c.o.mono ?_;rintro e w' ⟨rfl,rfl⟩;go_wp2;go_ret;exact Zgk.same I.o (by omega) zL
 | some f=>
  rw[ho] at c
  dsimp only [Option.map_some,Option.isSome_some,if_true,ZqL] at c ⊢
  have Q:=ZZ ho;have a:f<d.files.length:=(l.o.dir.mayOf ho).2;have q:=ZZ (H.out.rest.file f a);obtain⟨G,-⟩:=(H.out.rest.file f a).box.cell 0 rfl;obtain⟨U,X⟩:=(H.out.rest.file f a).box.cell 1 rfl
  have B:Hid (Xd F (w.setCell ⟨L.ps f,1,none⟩ (.int .i64 ((fl d.files f).b.length:Int))) p { L with vs:=fun i=>if i=f then L.vs f else L.vs i } { d with files:=Gd d.files f } (Jb d) N):=ZZ (H.out.setFile (F':=F) (v':=L.vs f) (x':=⟨(fl d.files f).b,(fl d.files f).b.length⟩) a (fun k _ V _=>Below.heap_setCell _ _ _ _ V) ⟨q.o.box.set 1 _,Qh q.o.own fun g y=>Below.heap_setCell _ _ _ _ (by
   obtain⟨Y,W⟩:=Dc q.o.own y
   exact W.ne q.o.box (by decide))⟩ (.inl rfl) (fun _ m=>m) (fun g y=>H.out.rest.fv f a g y) (fun k m=>by simpa using H.out.lt k m))
  have O:Hid (Ql F w (w.setCell ⟨L.ps f,1,none⟩ (.int .i64 ((fl d.files f).b.length:Int)))):=ZZ ((Ql.refl _ _).setCell 1 (fun _=>H.out.rest.fp f a) _)
  obtain⟨Z,vc,M⟩:=q.o.own.shape;rw[M] at G;obtain⟨v,z⟩:∃ v,v=w.setCell ⟨L.ps f,1,none⟩ (.int .i64 ((fl d.files f).b.length:Int)):=⟨_,rfl⟩;rw[<-z] at B O;have J:=ZZ z;clear ho a M P z
  go_enter func59,ntmps59
  go_wp2_with fail
  refine c.o.mono ?_;rintro e w' ⟨rfl,rfl⟩
  go_upto_region 5 with fail
  rw[<-J.o];clear J G U X
  go_wp2_with fail
  refine(Zcc v B.o u.o.2).mono ?_;rintro e W5 ⟨rfl,R,S⟩;go_wp2;go_ret;refine⟨rfl,F,⟨{ L with vs:=fun i=>if i=f then L.vs f else L.vs i },?_,?_,⟨?_,?_,?_⟩,u.o.1,Zdf u.o.2⟩,O.o.trans S (fun _ _ a=>a),fun _ m=>.inl m⟩
  ·rw[ZrU l.o Q.o]
   exact R.mono (by omega)
  ·exact l.o.bytes (by simp[Gd]) (ZgR l.o.keep _ zL)
  ·have:=t.o.files
   show(Gd d.files f).length<=_;simp[Gd];omega
  ·have:=t.o.names
   show d.kept.length+d.waits.length<=_;omega
  ·intro x A
   rcases List.mem_or_eq_of_mem_set A with A | rfl
   ·exact t.o.bytes x A
   ·have:=t.o.bytes _ (ZbH (l.o.dir.mayOf Q.o).2)
    exact this
theorem ZqN {U:Int} (n:Int) (q:I64 n) (w:World) (h:Xd F w p L d U N) (g:OkD d) (i:Bnd d N T) (z:T<=1000000000) (C:0<=U∧U<=1000000000000000):
 Calls prog 104 #[ptr p,.int .i64 n] w fun e w'=>e=.returned (.tuple #[])∧Xd F w' p L d (U-(ZrS d.files (look (Qm d) n):Int)) N∧Ql F w w':=by
 have H:=ZZ h;obtain⟨⟨-,A,v,-,-,-⟩,B,-⟩:=h.cells;have a:=h.rest.now.look q
 cases ho:look (Qm d) n with
 | none=>
  rw[ho] at a;have t:(Instr.lookup 65 (.map (some L.now)) (.int .i64 n) true).run prog w=.ok (.tuple #[.pointer none,.bool false]) w:=a;clear a ho h g i
  go_enter func104,ntmps104
  go_wp2;go_end0;exact⟨rfl,by simpa[ZrS] using H.out,Ql.refl _ _⟩
 | some f=>
  rw[ho] at a;have t:(Instr.lookup 65 (.map (some L.now)) (.int .i64 n) true).run prog w=.ok (.tuple #[.pointer (some ⟨L.ps f,0,none⟩),.bool true]) w:=a;have c:f<d.files.length:=(g.dir.mayOf ho).2;obtain⟨k,-⟩:=(h.rest.file f c).box.cell 0 rfl;obtain⟨x,y,l⟩:=(h.rest.file f c).own.shape;rw[l] at k;have u:=i.bytes _ (ZbH c);obtain⟨m,j⟩:∃ m,m=(fl d.files f).b.length:=⟨_,rfl⟩;have e:ZrS d.files (some f)=m:=j.symm;rw[e];rw[<-j] at k u;clear a ho h g i c l j e q
  go_enter func104,ntmps104
  go_upto_region 2 with fail
  go_region
  go_end0;exact⟨rfl,(H.out.setHead 1 (.int .i64 (U-(m:Int))) ⟨rfl,rfl,rfl⟩ rfl).keep (fun _ _=>rfl) zL,((Ql.refl _ _).setCell 1 (fun _=>H.out.fh) _).drewN 1⟩
theorem Bnd.waited (h:Bnd d N T) (c:Ch) (q:Int):Bnd { d with waits:=d.waits++[c],power:=q } (N+1) T:=
 ⟨by have:=h.files;show d.files.length<=_;omega,by have:=h.names;show d.kept.length+(d.waits++[c]).length<=_;simp;omega,h.bytes⟩
theorem Xd.drewN (h:Xd F w p L d u N) (q:Nat):Xd F (w.drewN q) p L d u N:=h.keep (fun _ _=>rfl) zL
theorem Zkk (n:Int) (u:I64 n) (w:World) (h:Dsk F w p d N T) (D:N<=1000000) (P:T<=1000000000):
 Calls prog 69 #[ptr p,.int .i64 n] w fun e w'=>Zgk F w p (Qj d n).1 (Qj d n).2 (N+2) T e w':=by
 have I:=ZZ h;obtain⟨L,h,j,m,O,C⟩:=h;have g:=ZZ (ZgT n u w h);have H:=ZZ h;have l:=ZZ j;have Q:=ZZ m;have v:=ZZ (And.intro O C);have Z:=ZoZ j m D P;have J:=ZZ (ZqN n u w h j m P (by omega))
 clear h j m O C Z;unfold Qj;by_cases i:d.power=0
 ·rw[if_pos i]
  rw[if_pos i,if_pos i] at g;clear i
  go_enter func69,ntmps69
  go_wp2_with fail
  refine g.o.mono ?_;rintro e w' ⟨rfl,rfl⟩;go_wp2;go_ret;exact Zgk.same I.o (by omega) zL
 rw[if_neg i];rw[if_neg i,if_neg i] at g;clear i
 cases ho:look (Qm d) n with
 | none=>
  rw[ho] at g
  dsimp only [Option.map_none,Option.isSome_none,Bool.false_eq_true,if_false,ZqL] at g ⊢
  clear ho
  go_enter func69,ntmps69
  go_wp2_with fail
  refine g.o.mono ?_;rintro e w' ⟨rfl,rfl⟩;go_wp2;go_ret;exact Zgk.same I.o (by omega) zL
 | some f=>
  rw[ho] at g J
  dsimp only [Option.map_some,Option.isSome_some,if_true,ZqL] at g ⊢
  have S:=ZZ ho;have aa:=ZZ (l.o.dir.mayOf ho);clear ho u
  go_enter func69,ntmps69
  go_wp2_with fail
  refine g.o.mono ?_;rintro e w' ⟨rfl,rfl⟩
  go_wp2_with fail
  refine J.o.mono ?_;rintro e c ⟨rfl,E,K⟩;have U:=ZZ E;have t:=ZZ K;clear E K
  go_wp2_with fail
  refine(ZwW n c).mono ?_;rintro e a ⟨rfl,q⟩;have z:Below c.heap.size c a:=by rw[q];exact(Below.refl _ _).alloc zL _
  have ab:a.heap.size=c.heap.size+1:=by rw[q];simp
  have A:Bk 3 a c.heap.size #[.int .i64 n]:=by rw[q];exact heap_alloc_new c _
  have ac:=ZZ (U.o.more z);have ad:Hid (ChV (Gr F c a) a L.ps (.take n) (.func (.func 157) #[] #[ptr c.heap.size])):=ZZ ⟨_,rfl,A,.inr ⟨Nat.le_refl _,by omega⟩⟩
  have x:Hid (Ql F w' a):=ZZ (t.o.trans (G:=fun _=>False) (Ql.ofBelow z) (fun _ _ hf=>hf.elim))
  have R:=ZZ (ZhP a ac.o ad.o l.o aa.o.1 D (by have:=Q.o.names;omega))
  clear z ab A q
  go_wp2_with fail
  refine R.o.mono ?_;rintro e y ⟨rfl,L3,M,-,-,B⟩
  have W:Hid (Ql F w' y):=ZZ (x.o.trans B (fun k hk hf=>by
   rcases hf with hf | hf
   ·exact hf
   ·have:=t.o.size;omega))
  have Y:=ZZ M;clear M B R
  go_wp2_with fail
  refine(Zcc y Y.o v.o.2).mono ?_;rintro e W4 ⟨rfl,V,X⟩;go_wp2;go_ret;refine⟨rfl,Gr (Gr F c a) a y,⟨L3,?_,?_,(Q.o.waited (.take n) _).mono (by omega) zL,v.o.1,Zdf v.o.2⟩,W.o.trans X (fun k hk hf=>?_),fun k hk=>?_⟩
  ·have hu:=ZrW l.o S.o (Y5 d.power)
   have e1:(Jb { d with waits:=d.waits++[.take n],power:=Y5 d.power }:Int)=(Jb d:Int)-(ZrS d.files (some f):Int):=by
    show _=(Jb d:Int)-((fl d.files f).b.length:Int);omega
   rw[e1];exact V.mono (by omega)
  ·exact l.o.taken S.o _
  ·rcases hf with (hf | hf) | hf
   ·exact hf
   ·have:=t.o.size;omega
   ·have:=x.o.size;omega
  ·rcases hk with (hk | hk) | hk
   ·exact .inl hk
   ·have:=t.o.size;exact .inr (by omega)
   ·have:=x.o.size;exact .inr (by omega)
theorem ZrY (w:World) (a b c:Obj):(((w.alloc a).alloc b).alloc c).heap[w.heap.size]?=some a∧(((w.alloc a).alloc b).alloc c).heap[w.heap.size+1]?=some b∧(((w.alloc a).alloc b).alloc c).heap[w.heap.size+1+1]?=some c:=by
 have e:(w.alloc a).heap.size=w.heap.size+1:=by simp
 have d:((w.alloc a).alloc b).heap.size=w.heap.size+1+1:=by simp
 refine⟨?_,?_,?_⟩
 ·rw[Below.heap_alloc _ _ _ (by omega),Below.heap_alloc _ _ _ (by omega)]
  exact heap_alloc_new w a
 ·rw[Below.heap_alloc _ _ _ (by omega),<-e]
  exact heap_alloc_new _ b
 ·rw[<-d]
  exact heap_alloc_new _ c
theorem ZrZ (n m:Int) (P:I64 n) (V:I64 m) (w:World) (h:Dsk F w p d N T) (R:N<=1000000) (Z:T<=1000000000):
 Calls prog 61 #[ptr p,.int .i64 n,.int .i64 m] w fun e w'=>Zgk F w p (Ji d n m).1 (Ji d n m).2 (N+2) T e w':=by
 have J:=ZZ h;obtain⟨L,h,u,v,Y,Q⟩:=h;have a:=ZZ (ZgT n P w h);have H:=ZZ h;have l:=ZZ u;have t:=ZZ v;have j:=ZZ (And.intro Y Q);have ai:=ZoZ u v R Z;have aj:=ZZ (ZqN m V w h u v Z (by omega))
 clear h u v Y Q ai;unfold Ji;by_cases g:d.power=0
 ·rw[if_pos g]
  rw[if_pos g,if_pos g] at a;clear g
  go_enter func61,ntmps61
  go_wp2_with fail
  refine a.o.mono ?_;rintro e w' ⟨rfl,rfl⟩;go_wp2;go_ret;exact Zgk.same J.o (by omega) zL
 rw[if_neg g];rw[if_neg g,if_neg g] at a;clear g
 cases ho:look (Qm d) n with
 | none=>
  rw[ho] at a
  dsimp only [Option.map_none,Option.isSome_none,Bool.false_eq_true,if_false,ZqL] at a ⊢
  clear ho
  go_enter func61,ntmps61
  go_wp2_with fail
  refine a.o.mono ?_;rintro e w' ⟨rfl,rfl⟩;go_wp2;go_ret;exact Zgk.same J.o (by omega) zL
 | some f=>
  rw[ho] at a
  dsimp only [Option.map_some,Option.isSome_some,if_true,ZqL] at a ⊢
  have ab:=ZZ ho;have ac:=ZZ (l.o.dir.mayOf ho);have q:=ZZ (ZmS m w);clear ho P V
  cases hmn:ZdE m with
  | false=>
   rw[if_pos rfl];rw[hmn] at q;clear hmn
   go_enter func61,ntmps61
   go_wp2_with fail
   refine a.o.mono ?_;rintro e w' ⟨rfl,rfl⟩
   go_wp2_with fail
   refine q.o.mono ?_;rintro e w' ⟨rfl,rfl⟩;go_wp2;go_ret;exact Zgk.same J.o (by omega) zL
  | true=>
  rw[if_neg (by simp)]
  rw[hmn] at q;have U:=ZZ hmn;clear hmn;by_cases i:n=m
  ·rw[if_pos i]
   have ae:(n != m)=false:=by simpa using i
   clear i
   go_enter func61,ntmps61
   go_wp2_with fail
   refine a.o.mono ?_;rintro e w' ⟨rfl,rfl⟩
   go_wp2_with fail
   refine q.o.mono ?_;rintro e w' ⟨rfl,rfl⟩
   go_wp2_with fail
   refine(Zcc _ H.out j.o.2).mono ?_;rintro e W4 ⟨rfl,A,B⟩;go_wp2;go_ret;exact⟨rfl,F,⟨L,A.mono (by omega),l.o.power _,⟨by have:=t.o.files;show d.files.length<=_;omega,by have:=t.o.names;show d.kept.length+d.waits.length<=_;omega,t.o.bytes⟩,j.o.1,Zdf j.o.2⟩,B,fun _ hk=>.inl hk⟩
  rw[if_neg i];have ae:(n != m)=true:=by simpa using i
  have I:=ZZ i;clear i
  go_enter func61,ntmps61
  go_wp2_with fail
  refine a.o.mono ?_;rintro e w' ⟨rfl,rfl⟩
  go_wp2_with fail
  refine q.o.mono ?_;rintro e w' ⟨rfl,rfl⟩
  go_wp2_with fail
  refine aj.o.mono ?_;rintro e b ⟨rfl,S,W⟩;have ad:=ZZ S;have y:=ZZ W;clear S W
  go_wp2_with fail
  refine(Zuq n m (L.ps f) b).mono ?_;rintro e c ⟨rfl,x⟩;have M:Below b.heap.size b c:=by rw[x];exact(((Below.refl _ _).alloc zL _).alloc (by simp) _).alloc (by simp;omega) _
  have al:c.heap.size=b.heap.size+1+1+1:=by rw[x];simp
  obtain⟨C,z,E⟩:=ZrY b (.cells #[.int .i64 n] 3) (.cells #[.int .i64 m] 3) (.cells #[ptr (L.ps f)] 115);rw[<-x] at C z E;have am:=ZZ (ad.o.more M);have ak:Hid (ChV (Gr F b c) c L.ps (.move n m f) (.func (.func 143) #[] #[ptr (b.heap.size+1+1),ptr (b.heap.size+1),ptr b.heap.size])):=ZZ ⟨_,_,_,rfl,C,z,E,.inr ⟨Nat.le_refl _,by omega⟩,.inr ⟨by omega,by omega⟩,.inr ⟨by omega,by omega⟩⟩
  have D:Hid (Ql F w' c):=ZZ (y.o.trans (G:=fun _=>False) (Ql.ofBelow M) (fun _ _ hf=>hf.elim))
  have aa:=ZZ (ZhP c am.o ak.o l.o ⟨ac.o.1,U.o,I.o,ac.o.2⟩ R (by have:=t.o.names;omega))
  clear M al C z E x
  go_wp2_with fail
  refine aa.o.mono ?_;rintro e K ⟨rfl,L3,X,-,-,O⟩
  have af:Hid (Ql F w' K):=ZZ (D.o.trans O (fun k hk hf=>by
   rcases hf with hf | hf
   ·exact hf
   ·have:=y.o.size;omega))
  have ag:=ZZ X;clear X O aa
  go_wp2_with fail
  refine(Zcc K ag.o j.o.2).mono ?_;rintro e W4 ⟨rfl,A,B⟩;go_wp2;go_ret;refine⟨rfl,Gr (Gr F b c) c K,⟨L3,?_,?_,(t.o.waited (.move n m f) _).mono (by omega) zL,j.o.1,Zdf j.o.2⟩,af.o.trans B (fun k hk hf=>?_),fun k hk=>?_⟩
  ·have hu:=ZrV l.o I.o ab.o (Y5 d.power)
   have e1:(Jb { d with waits:=d.waits++[.move n m f],power:=Y5 d.power }:Int)=(Jb d:Int)-(ZrS d.files (look (Qm d) m):Int):=by omega
   rw[e1];exact A.mono (by omega)
  ·exact l.o.moved ab.o U.o I.o _
  ·rcases hf with (hf | hf) | hf
   ·exact hf
   ·have:=y.o.size;omega
   ·have:=D.o.size;omega
  ·rcases hk with (hk | hk) | hk
   ·exact .inl hk
   ·have:=y.o.size;exact .inr (by omega)
   ·have:=D.o.size;exact .inr (by omega)
open Go.RowKit Go.ChangeShapes
theorem ZhT:prog.cellsOf 3=1:=by kernel_rfl
theorem Zsa:prog.cellsOf 23=1:=by kernel_rfl
theorem Z1 {n:Int} (h:(Lit.int .i64 n).wf=true):I64 n:=by
 simpa[I64,Lit.wf,IntKind.min,IntKind.max,IntKind.signed,IntKind.bits] using h
section
variable {H:Type} {enc:TypeId × Value->H} {w:World} {base fuel:Nat} {held:Bool}
theorem ZqO {cs:List Value} {x:DataW H × List MemPlace} (h:DataW.trod enc prog w base (fun _=>true) held fuel 23 cs=some x):∃ v l,cs=[v]∧RdI w v l:=by
 rcases open_ints underlying23 underlying3 (by kernel_rfl) h with ⟨a,_⟩ | ⟨y,l,c,i,a,_,e,b,g,_,d,f⟩
 ·exact⟨_,[],a,RdI.nil _⟩
 ·exact⟨_,_,a,RdI.ofRow e b (by simpa using g) d f⟩
end
open Go.RowKit Go.Maps Go.Shelf
theorem Zuu (w:World) (h:Qs w B v l) (u:l.length<=10000000):
 Calls prog 67 #[v] w fun e w'=>e=.returned (.tuple #[])∧Qs w' B v (l.mergeSort fun x y=>decide (x<=y))∧w.grownBy w' v.ownBlock:=by
 have d:=h;have f:w.grownBy w v.ownBlock:=⟨rfl,rfl,rfl,Nat.le_refl _,fun _ _ _=>rfl⟩
 rcases h.2 with ⟨rfl,t⟩ | ⟨g,cap,cur,rfl,k,b,p,q,j,c⟩
 ·have e:l=[]:=List.eq_nil_of_length_eq_zero t
  subst e;have a:=Any.slices_Sort_int_none ZAj none 0 w;refine a.mono ?_;rintro e w' ⟨rfl,rfl⟩;exact⟨rfl,by simpa using d,f⟩
 ·by_cases e:l=[]
  ·subst e
   have a:=Any.slices_Sort_int_none ZAj (some ⟨g,0,none⟩) cap w;refine a.mono ?_;rintro e w' ⟨rfl,rfl⟩;exact⟨rfl,by simpa using d,f⟩
  ·have i:Sort.Holds (Value.int .i64) w g 0 l.toArray:=holds_of_blockI b (by rw[Nat.mul_one] at c;exact c)
   have a:=Any.slices_Sort_int ZAj g 0 cap l w i (Array.getElem?_eq_some_iff.1 b).1 (by omega)
   refine a.mono ?_;rintro e w' ⟨rfl,n,os,rfl⟩;refine⟨rfl,?_,grownBy_sortedI _⟩;have m:=ownsRow_sortedI (n:=n) (os:=os) (ss:=l) (ts:=l.mergeSort fun x y=>decide (x<=y)) (by simp) k b p q j
   unfold Qs;rw[show(l.mergeSort fun x y=>decide (x<=y)).length=l.length by simp]
   exact m
structure Met (f:Int->Option Nat) (left:Lit->Bool) (l:List Int):Prop where
 mem:∀ p,I64 p->(p ∈ l↔(f p).isSome=true∧left (.int .i64 p)=false)
 nd:l.Nodup
 i:∀ p ∈ l,I64 p
theorem Met.step {left:Lit->Bool} (h:Met f left l) {x:Int} (d:I64 x) (j:left (.int .i64 x)=true) (k:(f x).isSome=true):Met f (fun z=>left z && !z.sameKey (.int .i64 x)) (l++[x]):=by
 refine⟨fun p hp=>?_,?_,fun p hp=>?_⟩
 ·rw[List.mem_append,h.mem p hp,List.mem_singleton]
  by_cases e:p=x
  ·subst e
   have c:(Lit.int .i64 p).sameKey (.int .i64 p)=true:=WideAt.sameKey_self (by first | exact trivial | simp[WideAt.IsKeyLit])
   simp[c,k]
  ·have c:(Lit.int .i64 p).sameKey (.int .i64 x)=false:=sameKey_ne (by intro h;injection h with _ h;exact e h)
   simp[c,e]
 ·rw[List.nodup_append]
  refine⟨h.nd,by simp,fun a m b g=>?_⟩
  rw[List.mem_singleton.1 g];rintro rfl;have:=((h.mem a d).1 m).2;rw[j] at this
  cases this
 ·rcases List.mem_append.1 hp with hp | hp
  ·exact h.i p hp
  ·rw[List.mem_singleton.1 hp];exact d
theorem Met.done {left:Lit->Bool} (h:Met f left l) (u:∀ k,left k=false) {d:Dir} (j:Xa d) (w:∀ p ∈ d,I64 p.1) (n:∀ p,I64 p->(f p).isSome=(look d p).isSome):(l.mergeSort fun x y=>decide (x<=y))=d.map Prod.fst:=by
 have z:(l.mergeSort fun x y=>decide (x<=y)).Pairwise (fun a b=>decide (a<=b)=true):=List.pairwise_mergeSort (fun a b c e t=>by simp only [decide_eq_true_eq] at *;omega) (fun a b=>by simp only [Bool.or_eq_true,decide_eq_true_eq];omega) l
 have q:=List.mergeSort_perm l fun x y=>decide (x<=y)
 have A:(l.mergeSort fun x y=>decide (x<=y)).Nodup:=q.nodup_iff.2 h.nd
 refine Zgb ?_ (Zga j) fun x=>?_
 ·refine(z.and A).imp fun {a b} hab=>?_
  have e:=of_decide_eq_true hab.1;have t:=hab.2;omega
 ·rw[q.mem_iff,List.mem_map]
  constructor
  ·intro g
   have e:=((h.mem x (h.i x g)).1 g).1;rw[n x (h.i x g)] at e;obtain⟨y,v⟩:=Option.isSome_iff_exists.1 e;exact⟨(x,y),(Zb j x y).1 v,rfl⟩
  ·rintro⟨p,hpd,rfl⟩
   have m:=w p hpd;have e:look d p.1=some p.2:=(Zb j p.1 p.2).2 hpd;exact(h.mem p.1 m).2 ⟨by rw[n p.1 m,e];rfl,u _⟩
theorem ZhU {D:DataW Unit} (h:w.ownsMap prog 3 ZaF b n D):Maps.size D<=n:=by
 obtain⟨c,e,d,F,a,rfl⟩:=h;rw[size_eq,length_sorted];simpa using a
theorem Zpa {a:Nat} {D:DataW Unit} {left:Lit->Bool} (h:w.ranges prog 3 ZaF b r n D left a) (i:w'.heap[b]?=w.heap[b]?) (c:w'.heap[r]?=w.heap[r]?):w'.ranges prog 3 ZaF b r n D left a:=by
 obtain⟨d,k,e,l,j,m,F,p,f,g,rest⟩:=h;exact⟨d,k,e,l,j,i.trans m,F,p,f,c.trans g,rest⟩
theorem ZeC (w:World) (h:Xd F w p L d u N) (A:OkD d) (hN:N<=1000000):
 Calls prog 28 #[ptr p] w fun e w'=>∃ v,e=.returned v∧Qs w' w.heap.size v ((Qm d).map Prod.fst)∧Below w.heap.size w w':=by
 obtain⟨⟨-,-,c2,-,-,-⟩,-⟩:=h.cells;obtain⟨D,z,K⟩:=h.rest.now;have ad:=ZZ z;have J:Hid (Maps.size D<=N):=ZZ (ZhU z);have ae:Hid (L.now<w.heap.size):=ZZ h.rest.now.lt;have I:Hid (∀ q,I64 q->Maps.has D (.int .i64 q)=(look (Qm d) q).isSome):=ZZ (fun q E=>by rw[K.has E];cases look (Qm d) q <;> rfl)
 have aq:Hid (∀ left l,Met (look (Qm d)) left l->(∀ k,left k=false)->(l.mergeSort fun x y=>decide (x<=y))=(Qm d).map Prod.fst):=ZZ (fun left l hm hl=>hm.done hl A.dir.rise (fun p hp=>Zcd (A.dir.may p hp).1) (fun _ _=>rfl))
 clear h z K A
 go_enter func28,ntmps28
 go_wp2_with(first
  | (at_range;refine wpList_range_own _ rfl _ 65 rfl 3 115 ZbC underlying65 ZaF L.now N D rfl ad.o ?_;intro w0 ao g av)
  | go_in)
 go_frame
 go_loopw[3] (fun v wr=>∃ (left:Lit->Bool) (G:Nat) (l:List Int),Hid (wr.ranges prog 3 ZaF L.now w.heap.size N D left G)∧G+l.length<=Maps.size D∧Hid (Qs wr (w.heap.size+1) v l)∧Hid (Met (look (Qm d)) left l)∧Hid (Below w.heap.size w wr∧w.heap.size+1<=wr.heap.size))
  (fun _ wr=>wr.rangeLeft L.now w.heap.size)
 case atStart=>
  refine⟨_,_,[],ZZ ao,by simp,ZZ (Qs.nil _ _),ZZ ⟨fun q E=>?_,List.nodup_nil,by simp⟩,ZZ ⟨⟨g.os,g.tape,g.output,g.size,fun k a=>g.block k a (by simp)⟩,by omega⟩⟩
  rw[I.o q E]
  cases look (Qm d) q <;> simp
 case round=>
  obtain⟨left,G,l,P,am,m,HM,i⟩:=hrel
  go_wp2_with(first
   | (at_next;refine wpList_next_ranges _ rfl _ rfl 3 ZbC ZaF (Value.int .i64) (fun b:Nat=>ptr b) (fun key kl a=>by obtain⟨x,rfl,_⟩:=Maps.keyOf_int_inv underlying3 a;exact⟨x,rfl⟩) (fun v y B=>by obtain⟨c,rfl,_⟩:=ZdN B;exact⟨c,rfl⟩) L.now w.heap.size N _ _ _ rfl P.o ?_ ?_)
   | go_in)
  ·intro ak Z
   have ar:=ZZ Z;have ag:l.length<=10000000:=by have:=J.o;omega
   have HS:=ZZ (Zuu _ m.o ag);clear ak Z
   go_wp2_with fail
   refine HS.o.mono ?_;rintro e W1 ⟨rfl,Y,f⟩;have aj:Hid (Below w.heap.size w W1):=ZZ (i.o.1.grown f i.o.1.size (fun k a=>by have:=(World.ownsRow.lt m.o k a).1;omega))
   have C:=ZZ Y;clear Y f;go_wp2;go_ret;refine⟨_,rfl,?_,aj.o⟩;rw[<-aq.o _ _ HM.o ar.o];exact C.o.mono (by omega)
  ·intro x c kl yd yp n ab X Q B R T W f af au
   obtain⟨x',ex,rfl,M⟩:=Maps.keyOf_int_inv underlying3 X
   cases ex
   have H:=ZZ (Z1 M);have HF:Hid ((look (Qm d) x).isSome=true):=ZZ (by rw[<-I.o x H.o];exact has_true_of_atKey R)
   have ai:=ZZ (HM.o.step H.o Q HF.o);have ac:=ZZ T;have C:Hid (Qs n (w.heap.size+1) _ l):=ZZ (World.ownsRow.kept m.o f (.inr (fun e=>by have:=(World.ownsRow.lt m.o _ e).1;omega)))
   have t:Hid (Below w.heap.size w n∧w.heap.size+1<=n.heap.size):=ZZ ⟨i.o.1.grown f i.o.1.size (fun k a=>by have:=Option.some.inj a;omega),by have:=i.o.2;omega⟩
   have an:=ZZ W
   have aa:l.length<=1000000∧ab+(l++[x]).length<=Maps.size D:=by
    have:=J.o;simp only [List.length_append,List.length_singleton];omega
   have S:=ZZ aa;clear X Q B R T W f af M aa am
   go_wp2_with(at_builtin;refine(fun(h:True->_)=>h trivial) ?_)
   intro _;refine Zfp n rfl _ _ rfl (w.heap.size+1) u3 l rfl C.o x rfl S.o.1 t.o.2 ?_;intro v2 U O j;have ap:=ZZ O;have V:=ZZ (Zpa ac.o (j.block _ (by have:=ae.o;omega)) (j.block _ (by omega)))
   have al:Hid (Below w.heap.size w U∧w.heap.size+1<=U.heap.size):=ZZ ⟨t.o.1.trans (j.mono (by omega)),by have:=t.o.2;have:=j.size;omega⟩
   clear O j;go_wp2;go_roundw
   case rel=>exact⟨_,ab,l++[x],V,S.o.2,ap,ai,al⟩
   case measure=>rw[V.o.left_eq,P.o.left_eq];exact an.o
theorem Xd.synced {b:World} (h:Xd F w p L d u N) (q:Below w.heap.size w b) (y:b.heap.size=w.heap.size+1) (x:Yj b w.heap.size N (fun n=>(look (Qm d) n).map L.ps)):
 Xd (Gr F w b) ((b.setCell ⟨p,3,none⟩ (.map (some w.heap.size))).setCell ⟨p,4,none⟩ (.slice none 0 0)) p { L with kept:=w.heap.size,wv:=.slice none 0 0,cs:=[] } { d with kept:=Qm d,waits:=[] } u N:=by
 have e:=h.more q;have m:=e.rest
 have j:∀ k,k≠p->((b.setCell ⟨p,3,none⟩ (.map (some w.heap.size))).setCell ⟨p,4,none⟩ (.slice none 0 0)).heap[k]?=b.heap[k]?:=fun k f=>by
  rw[Below.heap_setCell _ _ _ _ f,Below.heap_setCell _ _ _ _ f]
 have a:=m.keep e.head (fun k _ f=>j k f)
 refine⟨(e.head.set 3 _).set 4 _,⟨a.now,x.keep (j _ (by have:=h.lt p h.fh;show w.heap.size≠p;omega)),World.ownsRow_nil _ _ _ _,rfl,(fun i c v l=>by simp at l),a.file,a.psn,a.vsn,?_,a.fn,.inr ⟨Nat.le_refl _,by show w.heap.size<_;omega⟩,(fun g t=>by cases t),a.fp,a.fv⟩,e.fh,fun k j=>?_⟩
 ·have:=h.rest.now.lt
  show L.now≠w.heap.size;omega
 ·have:=e.lt k j
  simpa using this
theorem Zpb (w:World) (h:Dsk F w p d N T):
 Calls prog 107 #[ptr p] w fun e w'=>Zgk F w p (Qn d).1 (Qn d).2 (N+2) T e w':=by
 have R:=ZZ h;obtain⟨L,h,n,x,y,u⟩:=h;have H:=ZZ h;have v:=ZZ n;have l:=ZZ x;have g:=ZZ (And.intro y u);have c:=ZZ (ZmR w h);obtain⟨⟨-,-,Q,S,I,-⟩,-,W,V,-⟩:=h.cells;have M:=ZZ (ZrR h.rest.now);clear n x y u;unfold Qn;by_cases a:d.power=0
 ·rw[if_pos a]
  rw[a] at c;clear a h
  go_enter func107,ntmps107
  go_wp2_with fail
  refine c.o.mono ?_;rintro e w' ⟨rfl,rfl⟩;go_wp2;go_ret;exact Zgk.same R.o (by omega) zL
 rw[if_neg a];have C:(d.power != 0)=true:=by simpa using a
 rw[C] at c;clear a C h
 go_enter func107,ntmps107
 go_wp2_with fail
 refine c.o.mono ?_;rintro e w' ⟨rfl,rfl⟩
 go_wp2_with fail
 refine M.o.mono ?_;rintro e t ⟨rfl,A,i,b⟩;have m:=ZZ (H.out.synced b i A);have D:=ZZ (H.out.more b);have X:=ZZ b;obtain⟨⟨-,-,-,J,z,-⟩,-,P,U,-⟩:=D.o.cells;obtain⟨Z,vn,vc,B⟩:=Zez D.o.rest.row;rw[B] at z;have E:Hid (Ql F w' ((t.setCell ⟨p,3,none⟩ (.map (some w'.heap.size))).setCell ⟨p,4,none⟩ (.slice none 0 0))):=ZZ (((Ql.ofBelow b).setCell 3 (fun _=>H.out.fh) _).setCell 4 (fun _=>H.out.fh) _)
 obtain⟨f,j⟩:∃ f,f=(t.setCell ⟨p,3,none⟩ (.map (some w'.heap.size))).setCell ⟨p,4,none⟩ (.slice none 0 0):=⟨_,rfl⟩;rw[<-j] at m E;have q:=ZZ j;have aa:=ZZ i;clear Q S I W V A i b B j
 go_upto_region 5 with fail
 rw[<-q.o];clear q J z P U
 go_wp2_with fail
 refine(Zcc f m.o g.o.2).mono ?_;rintro e Y ⟨rfl,G,O⟩;go_wp2;go_ret;refine⟨rfl,_,⟨_,G.mono (by omega),ZgQ (fs:=d.files) v.o.dir v.o.keep,⟨by have:=l.o.files;show d.files.length<=_;omega,?_,l.o.bytes⟩,g.o.1,Zdf g.o.2⟩,E.o.trans O (fun k hk hf=>?_),fun k hk=>?_⟩
 ·have h1:=l.o.names
  have K:=Zbt d d.waits.length;rw[Zdc] at K;show(Qm d).length+0<=_;omega
 ·rcases hf with hf | hf
  ·exact hf
  ·omega
 ·rcases hk with hk | hk
  ·exact .inl hk
  ·exact .inr hk.1
open Go.RowKit Go.Maps
open Go.ChangeMaps Go.MapKept
open Go.WideElems (Fit rd rg pl rd_val elemAt)
theorem Znb:∀ {a b:List Int},a.Nodup->(∀ x ∈ a,x ∈ b)->a.length<=b.length
 | [],_,_,_=>Nat.zero_le _
 | x::a,b,hn,hs=>by
  rw[List.nodup_cons] at hn;have d:=hs x (List.mem_cons_self ..);have f:=Znb (a:=a) (b:=b.erase x) hn.2 fun y c=>(List.mem_erase_of_ne (by rintro rfl;exact hn.1 c)).2 (hs y (List.mem_cons_of_mem _ c))
  have e:=List.length_erase_of_mem d;have g:=List.length_pos_of_mem d;rw[List.length_cons];omega
def toI:Value->Int
 | .int _ x=>x
 | _=>0
theorem Yj.tight (h:Yj w b n f) {l:List Int} (C:∀ p,I64 p->(f p).isSome=true->p ∈ l):Yj w b l.length f:=by
 obtain⟨D,⟨g,v,u,F,P,rfl⟩,t⟩:=h
 have m:∀ e ∈ g.toList,∃ x,e.key=.int .i64 x∧I64 x:=fun e j=>by
  obtain⟨y,i⟩:=F.reads e j;obtain⟨x,d,_,J⟩:=Maps.keyOf_int_inv underlying3 (WideElems.rd_key i);exact⟨x,d,Z1 J⟩
 refine⟨_,⟨g,v,u,F,?_,rfl⟩,t⟩
 have K:(g.toList.map fun e=>toI e.key).Nodup:=by
  have M:=((stamped_iff g v).1 F.stamped).2.2;rw[List.Nodup,List.pairwise_map];refine List.Pairwise.imp_of_mem ?_ M;intro a c B G A e;obtain⟨x,d,_⟩:=m a B;obtain⟨y,i,_⟩:=m c G;rw[d,i] at e;have:x=y:=e;exact A (by rw[d,i,this])
 have L:∀ x ∈ (g.toList.map fun e=>toI e.key),x ∈ l:=fun x d=>by
  obtain⟨e,j,rfl⟩:=List.mem_map.1 d;obtain⟨x,d,k⟩:=m e j;rw[d];refine C x k ?_;rcases Maps.fit_look false ZbC underlying65 (Zun w) u F (keyOf_int_mk underlying3 (ZwR k)) with ⟨_,I,_⟩ | ⟨O,y,_,_,_,E,H,_⟩
  ·exact absurd d (I e j)
  ·cases ef:f x with
   | some _=>rfl
   | none=>
    obtain⟨N,_,rfl⟩:=ZdN E;refine(Zup (x:=N) fun z=>?_).elim
    have q:=H z;rw[t x k z,ef] at q;exact q.symm
 have:=Znb K L;simpa using this
theorem Zuv {s:Nat} {t:TypeId} {xs:List Value} (h:w.ownsRow 0 t s v n xs):∃ ao cap,v=.slice ao n cap∧n<=cap∧((ao=none∧cap=0)∨∃ g,ao=some ⟨g,0,none⟩):=by
 rcases h.2 with ⟨a,b⟩ | ⟨g,cap,cur,a,_,_,c,_⟩
 ·exact⟨none,0,by rw[a,b],by omega,.inl ⟨rfl,rfl⟩⟩
 ·exact⟨some ⟨g,0,none⟩,cap,a,c,.inr ⟨g,rfl⟩⟩
theorem _root_.Go.World.grownBy.trans2 {a b c:World} (h:a.grownBy b (some r)) (k:b.grownBy c (some r)):a.grownBy c (some r):=ZhO h k
theorem Xd.lost {l:Dir} (h:Xd F w p L d u N) (C:w.heap.size<=w'.heap.size)
 (x:∀ k,F k->k≠p->k≠L.now->k≠L.kept->w'.heap[k]?=w.heap[k]?) (A:Bk 69 w' p (ZfD { L with wv:=.slice none 0 0,cs:=[] } d u))
 (y:Yj w' L.now N (fun n=>(look l n).map L.ps)) (q:Yj w' L.kept N (fun n=>(look l n).map L.ps)):
 Xd F w' p { L with wv:=.slice none 0 0,cs:=[] } { d with kept:=l,waits:=[] } u N:=by
 have a:=h.rest;have e:∀ {t:TypeId} {k:Nat} {cs:Array Value},Bk t w k cs->F k->t≠69->w'.heap[k]?=w.heap[k]?:=fun e j m=>x _ j (e.ne h.head m) (e.neMap a.now) (e.neMap a.kept)
 refine⟨A,⟨y,q,World.ownsRow_nil _ _ _ _,rfl,(fun i c v b=>by simp at b),fun i b=>?_,a.psn,a.vsn,a.nk,a.fn,a.fk,(fun g f=>by cases f),a.fp,a.fv⟩,h.fh,fun k j=>by have:=h.lt k j;omega⟩
 refine(a.file i b).keep (e (a.file i b).box (a.fp i b) (by decide)) fun g f=>?_
 obtain⟨B,z⟩:=Dc (a.file i b).own f;exact e z (a.fv i b g f) (by decide)
theorem ZhV (names:Int) (w:World) (h:Xd F w p L d u N) (al:OkD d) (aj:Bnd d N T) (hN:N<=1000000):
 Calls prog 31 #[ptr p,.int .i64 names] w fun e w'=>e=.returned (.tuple #[])∧Xd F w' p { L with wv:=.slice none 0 0,cs:=[] } { d with kept:=Ym d (Z4 names d.waits.length),waits:=[] } u N∧Ql F w w':=by
 have H:=ZZ h;have ay:=ZZ al;have aP:=ZZ aj;have hW:d.waits.length<=N:=by have:=aj.names;omega
 obtain⟨K,hK⟩:∃ K,K=Z4 names d.waits.length:=⟨_,rfl⟩;have a1:K<=d.waits.length:=by rw[hK];exact Zcy _ _
 rw[<-hK];have aG:Hid (∀ q,Calls prog 72 #[.int .i64 names,.int .i64 (d.waits.length:Int)] (w.drewN q) fun e w'=>e=.returned (.int .i64 (K:Int))∧w'=w.drewN q):=ZZ (fun q=>by rw[hK];exact ZmT names d.waits.length (by omega) (w.drewN q))
 obtain⟨⟨-,-,-,c3,c4,-⟩,-,-,f4,-⟩:=h.cells;obtain⟨ao,cap,V,aI,ab⟩:=Zuv h.rest.row;rw[h.rest.many] at V aI;rw[V] at c4;have a3:=ZZ V
 have ar:Hid (∀ k,k<K->∃ g c x,ao=some ⟨g,0,none⟩∧d.waits[k]?=some c∧ChV F w L.ps c x∧w.cell? ⟨g,k,none⟩=some x∧ZtN d.files.length c∧Ym d (k+1)=chD (Ym d k) c∧g≠L.kept):=ZZ (fun k hk=>by
  have Y:k<d.waits.length:=by omega
  have av:k<L.cs.length:=by rw[h.rest.many];exact Y
  rcases ab with ⟨_,a0⟩ | ⟨g,rfl⟩
  ·omega
  ·have aD:L.wv.ownBlock=some g:=by rw[V];rfl
   refine⟨g,d.waits[k],L.cs[k],rfl,List.getElem?_eq_getElem Y,h.rest.wait k _ _ (List.getElem?_eq_getElem Y) (List.getElem?_eq_getElem av),?_,al.chs _ (List.getElem_mem Y),ZtT d Y,?_⟩
   ·have:=World.ownsRow.cells h.rest.row aD k _ (List.getElem?_eq_getElem av)
    rw[Addr.add_lit,Nat.zero_add] at this;exact this
   ·obtain⟨aZ,aW⟩:=Dc h.rest.row aD
    exact aW.neMap h.rest.kept)
 clear al aj V ab hK h
 go_enter func31,ntmps31
 go_wp2;refine wp_region_quiet_lit (by kernel_rfl) (by kernel_rfl) ?_
 repeat (go_big_quiet_step ((go_at_call 72;exact Calls.quiet_of_same (aG.o _))))
 refine wpQuiet_nil ?_;rintro _ ⟨nq,rfl⟩;have a:Hid (Xd F (w.drewN nq) p L d u N):=ZZ (H.out.drewN nq)
 have ai:Hid (∀ k,k<K->∃ g c x,ao=some ⟨g,0,none⟩∧d.waits[k]?=some c∧ChV F (w.drewN nq) L.ps c x∧(w.drewN nq).cell? ⟨g,k,none⟩=some x∧ZtN d.files.length c∧Ym d (k+1)=chD (Ym d k) c∧g≠L.kept):=ZZ (fun k hk=>by
  obtain⟨g,c,x,t,v,E,h4,h5,h6⟩:=ar.o k hk
  exact⟨g,c,x,t,v,E.keep (fun _ i=>i) (fun _ _=>rfl) (fun _ _ _ _=>rfl),h4,h5,h6⟩)
 have aB:Hid (Ql F w (w.drewN nq)):=ZZ ((Ql.refl _ _).drewN nq);obtain⟨W,ax⟩:∃ W,W=w.drewN nq:=⟨_,rfl⟩;rw[<-ax] at a ai aB ⊢;clear ax aG ar c3 c4 f4 H;go_wp2
 go_loopw[19] (fun vi wr=>∃ k:Nat,vi=.int .i64 (k:Int)∧k<=K∧Hid (Yj wr L.kept (N+k) (fun n=>(look (Ym d k) n).map L.ps))∧Hid (W.grownBy wr (some L.kept))) (fun vi _=>K-(intOf vi).toNat)
 case atStart=>exact⟨0,rfl,Nat.zero_le _,ZZ (by rw[Zei];exact a.o.rest.kept),ZZ ⟨rfl,rfl,rfl,Nat.le_refl _,fun _ _ _=>rfl⟩⟩
 case round=>
  obtain⟨k,rfl,aY,S,y⟩:=hrel;have ae:=ZZ (a.o.head.keep (y.o.block p a.o.head.lt (fun e=>(a.o.head.neMap a.o.rest.kept) (Option.some.inj e))))
  by_cases aT:k<K
  ·obtain⟨g,c,x,ab,hc,J,R,I,az,ap⟩:=ai.o k aT
   have ak:Hid (∀ n',look (Ym d (k+1)) n'=chF (look (Ym d k)) c n'):=ZZ (fun n'=>by rw[az];exact Zdb (ay.o.dirs k).rise c (ZmY I) n')
   have J:ChV F wr L.ps c x:=J.keep (fun _ i=>i) (fun _ _=>rfl) (fun j cs i hb=>y.o.block j (a.o.lt j i) (fun e=>by
    rcases hb with hb | hb <;> exact(hb.neMap a.o.rest.kept) (Option.some.inj e)))
   have R:wr.cell? ⟨g,k,none⟩=some x:=(y.o.cell R (fun e=>ap (Option.some.inj e)))
   obtain⟨d3,-⟩:=ae.o.cell 3 rfl;subst ab;clear az ap hc
   cases c with
   | give n f=>
    obtain⟨b1,b2,B,t,v,-,-⟩:=J;have Q:=ZZ (ZmV (f:=f) I.1 wr t v S.o (by omega))
    rw[B] at R;clear B t v
    go_wp2_with fail
    refine Q.o.mono ?_;rintro e O ⟨rfl,A,C⟩;have P:Hid (Yj O L.kept (N+(k+1)) (fun n=>(look (Ym d (k+1)) n).map L.ps)):=ZZ (A.fun fun n' _=>by rw[ak.o])
    have U:=ZZ (y.o.trans2 C);clear A C;go_wp2;go_roundw
    case rel=>exact⟨k+1,by go_num,by omega,P,U⟩
    case measure=>simp[intOf];omega
   | move n m f=>
    obtain⟨b1,b2,b3,B,t,v,E,-,-,-⟩:=J;have Q:=ZZ (ZmW (f:=f) I.1 I.2.1 wr t v E S.o (by omega))
    rw[B] at R;clear B t v E
    go_wp2_with fail
    refine Q.o.mono ?_;rintro e O ⟨rfl,A,C⟩;have P:Hid (Yj O L.kept (N+(k+1)) (fun n=>(look (Ym d (k+1)) n).map L.ps)):=ZZ (A.fun fun n' _=>by rw[ak.o])
    have U:=ZZ (y.o.trans2 C);clear A C;go_wp2;go_roundw
    case rel=>exact⟨k+1,by go_num,by omega,P,U⟩
    case measure=>simp[intOf];omega
   | take n=>
    obtain⟨b1,B,t,-⟩:=J;have Q:=ZZ (ZmX I wr t S.o );rw[B] at R;clear B t
    go_wp2_with fail
    refine Q.o.mono ?_;rintro e O ⟨rfl,A,C⟩;have P:Hid (Yj O L.kept (N+(k+1)) (fun n=>(look (Ym d (k+1)) n).map L.ps)):=ZZ (A.fun fun n' _=>by rw[ak.o])
    have U:=ZZ (y.o.trans2 C);clear A C;go_wp2;go_roundw
    case rel=>exact⟨k+1,by go_num,by omega,P,U⟩
    case measure=>simp[intOf];omega
  ·have aN:Hid (k=K):=ZZ (by omega)
   obtain⟨va,vn,vc,au⟩:=Zez a.o.rest.row;obtain⟨d4,e4⟩:=ae.o.cell 4 rfl;obtain⟨Z,-⟩:=ae.o.cell 2 rfl;have an:wr.cell? ⟨p,4,none⟩=some L.wv:=d4;rw[au] at an;have aa:=ZZ (ae.o.set 4 (.slice none 0 0));have aC:Hid (Yj (wr.setCell ⟨p,4,none⟩ (.slice none 0 0)) L.now N (fun n=>(look (Qm d) n).map L.ps)):=ZZ (a.o.rest.now.keep ((Below.heap_setCell _ _ _ _ (a.o.head.neMap a.o.rest.now).symm).trans (y.o.block _ a.o.rest.now.lt (fun e=>a.o.rest.nk (Option.some.inj e)))))
   have ag:Hid (Yj (wr.setCell ⟨p,4,none⟩ (.slice none 0 0)) L.kept (N+k) (fun n=>(look (Ym d k) n).map L.ps)):=ZZ (S.o.keep (Below.heap_setCell _ _ _ _ (a.o.head.neMap a.o.rest.kept).symm))
   obtain⟨D,G⟩:∃ D,D=wr.setCell ⟨p,4,none⟩ (.slice none 0 0):=⟨_,rfl⟩
   have aQ:Hid (Ql F w D):=ZZ (by
    rw[G]
    exact(aB.o.trans (Ql.ofGrown y.o (fun j e _=>by obtain rfl:=Option.some.inj e;exact a.o.rest.fk)) (fun _ _ i=>i)).setCell 4 (fun _=>a.o.fh) _)
   have aS:Hid (∀ j,F j->j≠p->j≠L.kept->D.heap[j]?=W.heap[j]?):=ZZ (fun j i t v=>by
    rw[G,Below.heap_setCell _ _ _ _ t]
    exact y.o.block j (a.o.lt j i) (fun e=>v (Option.some.inj e)))
   have aJ:Hid (W.heap.size<=D.heap.size):=ZZ (by rw[G];have:=y.o.size;simpa using this)
   rw[<-G] at aa aC ag;have aq:=ZZ G;clear au d4 G S ai
   go_upto_region 6 with fail
   rw[<-aq.o];clear aq an e4 Z;obtain⟨Z,-⟩:=aa.o.cell 2 rfl
   go_wp2_with(first | (with_reducible refine ZjF D rfl _ rfl L.now N _ rfl aC.o ?_);intro z aA ad)
   have am:=ZZ (aa.o.keep (ad.block p aa.o.lt (fun e=>(a.o.head.neMap a.o.rest.now) (Option.some.inj e))))
   have aE:=ZZ (ag.o.keep (ad.block _ ag.o.lt (fun e=>a.o.rest.nk (Option.some.inj e).symm)))
   have aR:=ZZ aA;have af:=ZZ ad;clear aA ad Z;have Z:z.cell? ⟨p,2,none⟩=some (.map (some L.now)):=(am.o.cell 2 rfl).1;have d3:z.cell? ⟨p,3,none⟩=some (.map (some L.kept)):=(am.o.cell 3 rfl).1;have aV:N+k<=10000000:=by omega
   have aw:Hid (∀ (X:World) (b n:Nat),Yj X b n (fun n=>(look (Ym d k) n).map L.ps)->Yj X b N (fun n=>(look (Ym d k) n).map L.ps)):=ZZ (fun _ _ _ hm=>(hm.tight (l:=(Ym d k).map Prod.fst) (fun q _ hq=>by
    cases e:look (Ym d k) q with
    | none=>rw[e] at hq;cases hq
    | some f=>exact List.mem_map.2 ⟨(q,f),(Zb (ay.o.dirs k).rise q f).1 e,rfl⟩)).mono (by
     have t:=Zbt d k;have v:=aP.o.names;simp only [List.length_map]
     omega))
   have aK:=ZZ (ZwT (w:=z.drew) (aR.o.keep rfl) (aE.o.keep rfl) a.o.rest.nk aV)
   go_upto_region 7 with fail
   go_region_with
    (first
     | (go_at_call 73;refine aK.o.mono ?_;rintro e W4 ⟨rfl,aH,aF⟩;have aM:=ZZ aH;have M:=ZZ aF;clear aH aF))
   all_goals
    go_wp2;go_end0;have aO:z.heap.size<=W4.heap.size:=M.o.size;have ac:∀ j,j<z.heap.size->j≠L.now->W4.heap[j]?=z.heap[j]?:=fun j hj hn=>M.o.block j hj (fun e=>hn (Option.some.inj e))
    have aX:=af.o.size;have a2:=aJ.o;have aU:p<z.heap.size:=by have:=a.o.head.lt;omega
    have aL:L.kept<z.heap.size:=by have:=a.o.rest.kept.lt;omega
    rw[<-aN.o];refine⟨rfl,a.o.lost (l:=Ym d k) (by omega) (fun j i t v E=>?_) ?_ (aw.o _ _ _ aM.o) (aw.o _ _ _ (aE.o.keep (ac _ aL (Ne.symm a.o.rest.nk)))),?_⟩
    ·have hj:=a.o.lt j i
     rw[ac j (by omega) v,af.o.block j (by omega) (fun e=>v (Option.some.inj e))]
     exact aS.o j i t E
    ·exact am.o.keep (ac p aU (a.o.head.neMap a.o.rest.now))
    ·have o3:Ql F D z:=Ql.ofGrown af.o (fun j e _=>by obtain rfl:=Option.some.inj e;exact a.o.rest.fn)
     have o4:Ql F z W4:=⟨M.o.os,M.o.tape,M.o.output,aO,fun j hj hn=>ac j hj (fun e=>hn (by rw[e];exact a.o.rest.fn))⟩
     exact(aQ.o.trans o3 (fun _ _ i=>i)).trans o4 (fun _ _ i=>i)
theorem Zsb {l:List UInt8} (h:Own w 0 v l):∃ ao cap,v=.slice ao l.length cap∧l.length<=cap∧((ao=none∧cap=0)∨∃ g,ao=some ⟨g,0,none⟩):=Zuv h
theorem Xd.cutFile {f k:Nat} {ao:Option Addr} {cap:Nat} (h:Xd F w p L d u N) (l:f<d.files.length) (n:L.vs f=.slice ao (fl d.files f).b.length cap) (x:k<=(fl d.files f).b.length):
 Xd F ((w.setCell ⟨L.ps f,1,none⟩ (.int .i64 (k:Int))).setCell ⟨L.ps f,0,none⟩ (.slice ao k cap)) p { L with vs:=fun i=>if i=f then .slice ao k cap else L.vs i } { d with files:=d.files.set f ⟨(fl d.files f).b.take k,k⟩ } u N:=by
 have c:=h.rest.file f l
 have t:∀ g,(L.vs f).ownBlock=some g->g≠L.ps f:=fun g a=>by
  obtain⟨z,y⟩:=Dc c.own a;exact y.ne c.box (by decide)
 have m:(Value.slice ao k cap).ownBlock=(L.vs f).ownBlock:=by rw[n];cases ao <;> rfl
 have v:Own w 0 (.slice ao k cap) ((fl d.files f).b.take k):=by
  have:=c.own;rw[n] at this;exact this.front k x
 refine h.setFile (F':=F) l (fun j _ q _=>by rw[Below.heap_setCell _ _ _ _ q,Below.heap_setCell _ _ _ _ q]) ⟨(c.box.set 1 _).set 0 _,Qh v fun g a=>?_⟩ (.inl m) (fun _ e=>e) (fun g a=>h.rest.fv f l g (by rw[<-m];exact a)) (fun j e=>by simpa using h.lt j e)
 have:=t g (by rw[<-m];exact a)
 rw[Below.heap_setCell _ _ _ _ this,Below.heap_setCell _ _ _ _ this]
theorem Zuw (h:n<=1000000000000000):IntKind.i64.wrap (n:Int)=(n:Int):=by
 rw[IntKind.wrap_i64];omega
theorem ZbD {l:Dir} {i:Nat} (h:i<l.length):l.take (i+1)=l.take i++[l[i]]:=List.take_succ_eq_append_getElem h
theorem ZfE {l:Dir} (h:G9 l) {i:Nat} (c:i<l.length):∀ p ∈ l.take i,p.2≠l[i].2:=by
 intro p b;have a:G9 (l.take (i+1)):=List.Pairwise.sublist (List.take_sublist _ _) h;rw[ZbD c] at a;exact(List.pairwise_append.1 a).2.2 p b _ (List.mem_singleton.2 rfl)
theorem Znc (keep:List Int) {l:Dir} (h:G9 l) {i:Nat} (a:i<l.length) (fs:List Fl):Xb keep (l.take (i+1)) 0 fs=(Xb keep (l.take i) 0 fs).set l[i].2 (Zlc (fl fs l[i].2) (Zhg keep i)):=by
 rw[ZbD a,Zhh,Zbp keep _ 0 fs _ (ZfE h a)];have:(l.take i).length=i:=by rw[length_take];omega
 rw[this,Nat.zero_add]
theorem Zsc (keep:List Int) {l:Dir} (h:G9 l) {i:Nat} (a:i<l.length) {fs:List Fl} (f:l[i].2<fs.length) (g:∀ x ∈ fs,x.k<=x.b.length):
 Zt (Xb keep (l.take (i+1)) 0 fs) (l.take (i+1))=Zt (Xb keep (l.take i) 0 fs) (l.take i)+(Zlc (fl fs l[i].2) (Zhg keep i)).k:=by
 rw[Znc keep h a];have c:Zt ((Xb keep (l.take i) 0 fs).set l[i].2 (Zlc (fl fs l[i].2) (Zhg keep i))) (l.take i)=Zt (Xb keep (l.take i) 0 fs) (l.take i):=Zlq fun p j=>by rw[Jf (fun e=>ZfE h a p j e.symm)]
 have d:(fl ((Xb keep (l.take i) 0 fs).set l[i].2 (Zlc (fl fs l[i].2) (Zhg keep i))) l[i].2).b.length=(Zlc (fl fs l[i].2) (Zhg keep i)).k:=by
  rw[Zao (by rw[Gi];exact f),Zww (Zhi g _)]
 rw[ZbD a,ZdO,c,Zaj,ZgU,d];rfl
theorem ZcI {T:Nat} (keep:List Int):∀ (l:Dir) (i:Nat) (fs:List Fl),(∀ x ∈ fs,x.b.length<=T)->(∀ p ∈ l,p.2<fs.length)->∀ x ∈ Xb keep l i fs,x.b.length<=T
 | [],_,_,h,_=>h
 | p::l,i,fs,h,hl=>by
  rw[Xb];refine ZcI keep l (i+1) _ (fun x a=>?_) (fun q c=>by rw[List.length_set];exact hl q (List.mem_cons_of_mem _ c))
  rcases List.mem_or_eq_of_mem_set a with a | rfl
  ·exact h x a
  ·have:=h _ (ZbH (hl p (List.mem_cons_self ..)))
   simp only [Zlc,length_take];omega
theorem Zlt (vk:Value) (keep:List Int) (w:World) (h:Xd F w p L d u N) (hw:d.waits=[]) (az:OkD d) (aG:Bnd d N T) (hN:N<=1000000) (hT:T<=1000000000) (hr:RdI w vk keep) (aJ:keep=[]∨∀ k,vk.ownBlock=some k->¬ F k) (bn:keep.length<=1000000000):
 Calls prog 32 #[ptr p,vk] w fun e w'=>e=.returned (.tuple #[])∧(∃ L',Xd F w' p L' { d with files:=Xb keep d.kept 0 d.files } (Zt (Xb keep d.kept 0 d.files) d.kept:Nat) N)∧Ql F w w':=by
 have H:=ZZ h;have aW:=ZZ az;have aS:=ZZ aG;have aL:=ZZ hr;have bf:=ZZ aJ;obtain⟨⟨-,c1,-,-,-,-⟩,f1,-⟩:=h.cells;obtain⟨ka,kc,rfl,-⟩:=hr;obtain⟨l,hl⟩:∃ l,l=d.kept:=⟨_,rfl⟩;have aV:Hid (Qm d=l):=ZZ (by unfold Qm;rw[hw,hl];rfl)
 have aY:Hid (l.length<=N):=ZZ (by have:=aG.names;rw[hl];omega)
 have Q:Hid (OkL d.files.length l):=ZZ (by rw[hl];exact az.kept)
 have bb:=ZZ hl;have ac:=ZZ (h.setHead 1 (.int .i64 0) (d':=d) (u':=0) ⟨rfl,rfl,rfl⟩ rfl);have aB:Hid (Ql F w (w.setCell ⟨p,1,none⟩ (.int .i64 0))):=ZZ ((Ql.refl _ _).setCell 1 (fun _=>h.fh) _)
 obtain⟨W1,aI⟩:∃ W1,W1=w.setCell ⟨p,1,none⟩ (.int .i64 0):=⟨_,rfl⟩;rw[<-aI] at ac aB;have a0:=ZZ (ZeC W1 ac.o az hN);have aQ:=ZZ (aL.o.onlyE aB.o aJ);have aN:=ZZ aI;clear aI h az aG aJ hl hw
 go_enter func32,ntmps32
 go_upto_region 1 with fail
 rw[<-aN.o];clear aN c1 f1
 go_wp2_with fail
 refine a0.o.mono ?_;rintro e W2 ⟨vn,rfl,aC,aq⟩;rw[aV.o] at aC
 have bd:Hid (∀ x ∈ l.map Prod.fst,I64 x):=ZZ (fun x hx=>by
  obtain⟨q,hq,rfl⟩:=List.mem_map.1 hx
  exact Zcd (Q.o.may q hq).1)
 have aX:=ZZ (aC.rd bd.o)
 have bj:Hid (∀ k,vn.ownBlock=some k->¬ F k):=ZZ (fun k hk hf=>by
  have E:=(World.ownsRow.lt aC k hk).1;have M:=ac.o.lt k hf
  omega)
 have a6:Hid (Xd F W2 p L d 0 N):=ZZ (ac.o.keep (fun k hf=>aq.block k (ac.o.lt k hf)) aq.size)
 have be:Hid (Ql F w W2):=ZZ (aB.o.trans (G:=fun _=>False) (Ql.ofBelow aq) (fun _ _ hf=>hf.elim))
 have a9:=ZZ (aQ.o.below aq zL);obtain⟨na,nc,rfl,-⟩:=aX.o;clear aC aq a0 aQ aL ac aB H;have a7:(l.map Prod.fst).length=l.length:=List.length_map ..;rw[a7];go_wp2
 go_loopw[14] (fun vi wr=>∃ i:Nat,vi=.int .i64 (i:Int)∧i<=l.length∧∃ z,Hid (Xd F wr p z { d with files:=Xb keep (l.take i) 0 d.files } (Zt (Xb keep (l.take i) 0 d.files) (l.take i):Nat) N)∧Hid (Ql F W2 wr)) (fun vi _=>l.length-(intOf vi).toNat)
 case atStart=>exact⟨0,rfl,Nat.zero_le _,L,by simpa[Xb,Zt] using a6,ZZ (Ql.refl _ _)⟩
 case round=>
  obtain⟨i,rfl,bA,z,D,au⟩:=hrel;by_cases X:i<l.length
  case neg=>
   have hi:i=l.length:=by omega
   subst hi;rw[List.take_length,bb.o] at D;go_wp2;go_end0;exact⟨rfl,⟨z,D.o⟩,be.o.trans au.o (fun _ _ hf=>hf)⟩
  obtain⟨n,f,ab⟩:∃ n f,l[i]=(n,f):=⟨_,_,rfl⟩;have aA:(n,f) ∈ l:=by rw[<-ab];exact List.getElem_mem X
  have aF:f<d.files.length:=(Q.o.may _ aA).2;have aO:I64 n:=Zcd (Q.o.may _ aA).1;have aU:(Xb keep (l.take i) 0 d.files).length=d.files.length:=Gi _ _ _ _;obtain⟨x,hx⟩:∃ x,x=fl d.files f:=⟨_,rfl⟩
  have al:fl (Xb keep (l.take i) 0 d.files) f=x:=by
   rw[hx];refine Zbp keep _ 0 _ _ fun q hq=>?_
   have:=ZfE Q.o.apart X q hq;rw[ab] at this;exact this
  have aa:Hid (ZmQ wr (z.ps f) (z.vs f) x):=ZZ (by
   have:=D.o.rest.file f (by show f<(Xb keep (l.take i) 0 d.files).length;omega)
   rw[<-al]
   exact this)
  have bc:x.k<=x.b.length:=by rw[hx];exact Zhi aW.o.keep f
  have a5:x.b.length<=T:=by rw[hx];exact aS.o.bytes _ (ZbH aF)
  obtain⟨ao,cap,ay,a4,bt⟩:=Zsb aa.o.own;have B:wr.cell? ⟨z.ps f,0,none⟩=some (.slice ao x.b.length cap):=by rw[<-ay];exact(aa.o.box.cell 0 rfl).1
  have y0:wr.frozen? ⟨z.ps f,0,none⟩=false:=(aa.o.box.cell 0 rfl).2;have g1:wr.cell? ⟨z.ps f,1,none⟩=some (.int .i64 (x.k:Int)):=(aa.o.box.cell 1 rfl).1;have y1:wr.frozen? ⟨z.ps f,1,none⟩=false:=(aa.o.box.cell 1 rfl).2;obtain⟨U,hU⟩:∃ U:Nat,U=Zt (Xb keep (l.take i) 0 d.files) (l.take i):=⟨_,rfl⟩
  have bk:U<=1000000000000000:=by
   rw[hU];have E:=ZoY (T:=T) (fs:=Xb keep (l.take i) 0 d.files) (ZcI keep _ 0 _ aS.o.bytes (fun q hq=>(Q.o.may q (List.mem_of_mem_take hq)).2)) (l.take i) (fun q hq=>by rw[aU];exact(Q.o.may q (List.mem_of_mem_take hq)).2)
   have M:(l.take i).length<=N:=by have:=aY.o;rw[length_take];omega
   have h3:(l.take i).length*T<=1000000*1000000000:=Nat.mul_le_mul (by omega) hT
   omega
  rw[<-hU] at D;have k1:wr.cell? ⟨p,1,none⟩=some (.int .i64 (U:Int)):=D.o.cells.1.2.1;have j1:wr.frozen? ⟨p,1,none⟩=false:=D.o.cells.2.1;have k2:wr.cell? ⟨p,2,none⟩=some (.map (some z.now)):=D.o.cells.1.2.2.1
  have aE:(Instr.lookup 65 (.map (some z.now)) (.int .i64 n) false).run prog wr=.ok (.pointer (some ⟨z.ps f,0,none⟩)) wr:=by
   have E:=D.o.rest.now.look1 aO
   have M:look (Qm { d with files:=Xb keep (l.take i) 0 d.files }) n=some f:=by
    show look (Qm d) n=some f;rw[aV.o];exact(Zb Q.o.rise n f).2 aA
   rw[M] at E;exact E
  obtain⟨nb,ai,rfl,a1⟩:∃ nb ai,na=some ⟨nb,ai,none⟩∧wr.cell? ⟨nb,ai+i,none⟩=some (.int .i64 n):=by
   have E:=aX.o.only au.o bj.o;obtain⟨a',c',ag,_,_,_,_,h6⟩:=E;simp only [Value.slice.injEq] at ag;obtain⟨rfl,_,rfl⟩:=ag;rcases h6 with h6 | ⟨nb,ai,rfl,h7⟩
   ·have:l=[]:=by simpa using h6
    rw[this] at X;simp at X
   ·refine⟨nb,ai,rfl,?_⟩
    have h8:=h7 i (by simpa using X)
    rw[h8];simp[List.getD,X,ab]
  obtain⟨A,hA⟩:∃ A,A=Zhg keep i:=⟨_,rfl⟩;obtain⟨m,hm⟩:∃ m,m=x.b.length-x.k:=⟨_,rfl⟩;have a3:(x.b.length:Int)-(x.k:Int)=(m:Int):=by omega
  obtain⟨sh,aw⟩:∃ sh,sh=Z4 A m:=⟨_,rfl⟩;have bi:sh<=m:=by rw[aw];exact Zcy _ _
  obtain⟨y,a2⟩:∃ y,y=x.k+sh:=⟨_,rfl⟩;have ba:(x.k:Int)+(sh:Int)=(y:Int):=by omega
  have aK:y<=x.b.length:=by omega
  have af:Hid (∀ W,Calls prog 72 #[.int .i64 A,.int .i64 (m:Int)] W fun e w'=>e=.returned (.int .i64 (sh:Int))∧w'=W):=ZZ (fun W=>by rw[aw];exact ZmT A m (by omega) W)
  have aP:Hid (Zlc x A=⟨x.b.take y,y⟩):=ZZ (by rw[a2,aw,hm];rfl)
  have aH:Hid (Xd F (((wr.setCell ⟨z.ps f,1,none⟩ (.int .i64 (y:Int))).setCell ⟨z.ps f,0,none⟩ (.slice ao y cap)).setCell ⟨p,1,none⟩ (.int .i64 ((U:Int)+(y:Int)))) p { z with vs:=fun j=>if j=f then .slice ao y cap else z.vs j } { d with files:=Xb keep (l.take (i+1)) 0 d.files } (Zt (Xb keep (l.take (i+1)) 0 d.files) (l.take (i+1)):Nat) N):=ZZ (by
   have E:=D.o.cutFile (f:=f) (k:=y) (ao:=ao) (cap:=cap) (by show f<(Xb keep (l.take i) 0 d.files).length;omega) (by show z.vs f=.slice ao (fl (Xb keep (l.take i) 0 d.files) f).b.length cap;rw[al];exact ay) (by show y<=(fl (Xb keep (l.take i) 0 d.files) f).b.length;rw[al];exact aK)
   have M:=Zsc keep Q.o.apart X (fs:=d.files) (by rw[ab];exact aF) aW.o.keep
   have h3:=Znc keep Q.o.apart X d.files;rw[ab,<-hx,<-hA,aP.o] at M h3;rw[M,h3,<-hU]
   dsimp only at E
   rw[al] at E;have e1:((U+y:Nat):Int)=(U:Int)+(y:Int):=by omega
   show Xd F _ p _ _ ((U+y:Nat):Int) N;rw[e1]
   exact E.setHead 1 _ ⟨rfl,rfl,rfl⟩ rfl)
  have K:Hid (Ql F W2 (((wr.setCell ⟨z.ps f,1,none⟩ (.int .i64 (y:Int))).setCell ⟨z.ps f,0,none⟩ (.slice ao y cap)).setCell ⟨p,1,none⟩ (.int .i64 ((U:Int)+(y:Int))))):=ZZ (((au.o.setCell 1 (fun _=>D.o.rest.fp f (by show f<(Xb keep (l.take i) 0 d.files).length;omega)) _).setCell 0 (fun _=>D.o.rest.fp f (by show f<(Xb keep (l.take i) 0 d.files).length;omega)) _).setCell 1 (fun _=>D.o.fh) _)
  have an:Hid (p≠z.ps f):=ZZ (D.o.head.ne aa.o.box (by decide))
  obtain⟨P,hP⟩:∃ P,P=z.ps f:=⟨_,rfl⟩;have aj:Hid (Bk 117 wr (z.ps f) #[.slice ao x.b.length cap,.int .i64 (x.k:Int)]):=ZZ (by rw[<-ay];exact aa.o.box)
  obtain⟨DI,aR⟩:∃ DI,DI={ d with files:=Xb keep (l.take i) 0 d.files }:=⟨_,rfl⟩
  have aT:Hid (Bk 69 wr p (ZfD z DI (U:Int))):=ZZ (by rw[aR];exact D.o.head)
  clear aR;rw[<-hP] at B y0 g1 y1 aE aH K an aj;obtain⟨Y,aZ⟩:∃ Y,Y=x.b.length:=⟨_,rfl⟩;obtain⟨xk,aM⟩:∃ xk,xk=x.k:=⟨_,rfl⟩;rw[<-aZ] at B a3 aK a5 a4 aj;rw[<-aM] at g1 a3 ba aj;have bz:y<=cap:=by omega
  have HA:=ZZ hA;have a8:=ZZ (a9.o.onlyE au.o bf.o);clear ab aA aF aO aU hx al bc ay hU hA hm aw bi a2 hP aZ aM aa D au aP;have ax:=ZZ X;have br:i<=1000000:=by have:=aY.o;omega
  have bx:IntKind.i64.wrap (m:Int)=(m:Int):=Zuw (by omega)
  have bw:IntKind.i64.wrap (y:Int)=(y:Int):=Zuw (by omega)
  have ad:Hid ((wr.setCell ⟨P,1,none⟩ (.int .i64 (y:Int))).cell? ⟨P,0,none⟩=some (.slice ao Y cap)):=ZZ (by
   rw[World.cell?_setCell_other _ _ _ _ (by intro h;injection h with _ h;cases h)]
   exact B)
  by_cases ae:keep.length=0
  ·have e0:A=0:=by rw[HA.o];exact if_pos ae
   subst e0;have bv:decide ((keep.length:Int)>0)=false:=decide_eq_false (by omega)
   have bo:decide (0<keep.length)=false:=decide_eq_false (by omega)
   clear ae
   go_upto_region 7 with fail
   clear a1 aE k2
   go_cut[] (fun wd=>Hid (∃ q,wd=(wr.setCell ⟨P,1,none⟩ (.int .i64 (y:Int))).drewN q))
   case first=>
    refine wp_region_held_drew (S:=fun w'=>w'.cell? ⟨P,0,none⟩=some (.slice ao Y cap)) (by kernel_rfl) (by exact B) (fun C=>?_)
    refine wpAnyH_take (i:=0) (v:=?_) rfl (by kernel_rfl) (by kernel_rfl) (by kernel_rfl) (fun _ _ _ h=>h) (Or.inl ⟨by rfl,?_⟩) (by assumption) ?_
    rotate_left
    ·intro c g
     go_simp
     try with_reducible rfl
    simp only [Act.put,getElem_toArray,getElem_cons_zero,setIfInBounds_toArray,set_cons_zero,set_cons_succ];refine wpAnyH_take (i:=1) (v:=?_) rfl (by kernel_rfl) (by kernel_rfl) (by kernel_rfl) (fun _ _ _ h=>h) (Or.inl ⟨by rfl,?_⟩) (by assumption) ?_
    rotate_left
    ·intro c g
     go_simp
     try with_reducible rfl
    simp only [Act.put,getElem_toArray,getElem_cons_zero,getElem_cons_succ,setIfInBounds_toArray,set_cons_zero,set_cons_succ];refine wpAnyH_take (i:=2) (v:=?_) rfl (by kernel_rfl) (by kernel_rfl) (by kernel_rfl) (fun _ _ _ h=>h) (Or.inl ⟨by rfl,?_⟩) (by assumption) ?_
    rotate_left
    ·intro c g
     go_simp
     try with_reducible rfl
    simp only [Act.put,getElem_toArray,getElem_cons_zero,getElem_cons_succ,setIfInBounds_toArray,set_cons_zero,set_cons_succ];refine wpAnyH_take (i:=4) (v:=?_) rfl (by kernel_rfl) (by kernel_rfl) (by kernel_rfl) (fun _ _ _ h=>h) (Or.inl ⟨by rfl,?_⟩) (by assumption) ?_
    rotate_left
    ·intro c g
     go_simp
     try with_reducible rfl
    simp only [Act.put,getElem_toArray,getElem_cons_zero,getElem_cons_succ,setIfInBounds_toArray,set_cons_zero,set_cons_succ];refine wpAnyH_take (i:=5) (v:=?_) rfl (by kernel_rfl) (by kernel_rfl) (by kernel_rfl) (fun _ _ _ h=>h) (Or.inl ⟨by rfl,?_⟩) (by assumption) ?_
    rotate_left
    ·intro c g
     go_simp
     try with_reducible rfl
    simp only [Act.put,getElem_toArray,getElem_cons_zero,getElem_cons_succ,setIfInBounds_toArray,set_cons_zero,set_cons_succ];refine wpAnyH_take (i:=6) (v:=?_) rfl (by kernel_rfl) (by kernel_rfl) (by kernel_rfl) (fun _ _ _ h=>h) (Or.inl ⟨by rfl,?_⟩) (by assumption) ?_
    rotate_left
    ·intro c g
     go_simp
     try with_reducible rfl
    simp only [Act.put,getElem_toArray,getElem_cons_zero,getElem_cons_succ,setIfInBounds_toArray,set_cons_zero,set_cons_succ];refine wpAnyH_take (i:=7) (v:=?_) rfl (by kernel_rfl) (by kernel_rfl) (by kernel_rfl) (fun _ _ _ h=>h) (Or.inl ⟨by rfl,?_⟩) (by assumption) ?_
    rotate_left
    ·intro c g
     go_simp
     try with_reducible rfl
    simp only [Act.put,getElem_toArray,getElem_cons_zero,getElem_cons_succ,setIfInBounds_toArray,set_cons_zero,set_cons_succ];refine wpAnyH_take (i:=8) (v:=?_) rfl (by kernel_rfl) (by kernel_rfl) (by kernel_rfl) (fun _ _ _ h=>h) (Or.inl ⟨by rfl,?_⟩) (by assumption) ?_
    rotate_left
    ·intro c g
     go_simp
     try with_reducible rfl
    simp only [Act.put,getElem_toArray,getElem_cons_zero,getElem_cons_succ,setIfInBounds_toArray,set_cons_zero,set_cons_succ];refine wpAnyH_take (i:=9) (v:=?_) rfl (by kernel_rfl) (by kernel_rfl) (by kernel_rfl) (fun _ _ _ h=>h) (Or.inl ⟨by rfl,?_⟩) (by assumption) ?_
    rotate_left
    ·intro c g
     go_simp
     try with_reducible rfl
    simp only [Act.put,getElem_toArray,getElem_cons_zero,getElem_cons_succ,setIfInBounds_toArray,set_cons_zero,set_cons_succ];refine wpAnyH_take (i:=10) (v:=?_) rfl (by kernel_rfl) (by kernel_rfl) (by kernel_rfl) (fun _ _ _ h=>h) (Or.inl ⟨by rfl,?_⟩) (by assumption) ?_
    rotate_left
    ·intro c g
     go_simp
     try with_reducible rfl
    simp only [Act.put,getElem_toArray,getElem_cons_zero,getElem_cons_succ,setIfInBounds_toArray,set_cons_zero,set_cons_succ];refine wpAnyH_take (i:=11) (v:=?_) rfl (by kernel_rfl) (by kernel_rfl) (by kernel_rfl) (fun _ _ _ h=>h) (Or.inl ⟨by rfl,?_⟩) (by assumption) ?_
    rotate_left
    ·intro c g
     go_simp
     try with_reducible rfl
    simp only [Act.put,getElem_toArray,getElem_cons_zero,getElem_cons_succ,setIfInBounds_toArray,set_cons_zero,set_cons_succ];refine wpAnyH_take (i:=12) (v:=?_) rfl (by kernel_rfl) (by kernel_rfl) (by kernel_rfl) (fun _ _ _ h=>h) (Or.inl ⟨by rfl,?_⟩) (by assumption) ?_
    rotate_left
    ·intro c g
     go_simp
     try with_reducible rfl
    simp only [Act.put,getElem_toArray,getElem_cons_zero,getElem_cons_succ,setIfInBounds_toArray,set_cons_zero,set_cons_succ];refine wpAnyH_ready (rs:=[3,13]) (by kernel_rfl) (by simp) ?_
    refine AllReadyH.cons rfl (fun t a=>?_) (AllReadyH.cons rfl (fun t a=>?_) AllReadyH.nil)
    ·go_simp
     refine a.out _ _ (by exact B) (fun C=>?_)
     clear a t;refine wpAnyH_ready (rs:=[13]) (by kernel_rfl) (by simp) ?_
     refine AllReadyH.cons rfl (fun t a=>?_) AllReadyH.nil
     go_simp
     refine a.out _ _ (by exact B) (fun C=>?_)
     clear a t;refine wpAnyH_take (i:=14) (v:=?_) rfl (by kernel_rfl) (by kernel_rfl) (by kernel_rfl) (fun _ _ _ h=>h) (Or.inl ⟨by rfl,?_⟩) (by assumption) ?_
     rotate_left
     ·intro c g
      go_simp
      try with_reducible rfl
     simp only [Act.put,getElem_toArray,getElem_cons_zero,getElem_cons_succ,setIfInBounds_toArray,set_cons_zero,set_cons_succ];refine wpAnyH_ready (rs:=[15]) (by kernel_rfl) (by simp) ?_
     refine AllReadyH.cons rfl (fun t a=>?_) AllReadyH.nil
     go_simp
     go_wp2_with((go_at_call 72;refine(af.o _).mono ?_;rintro e w5 ⟨rfl,rfl⟩))
     refine a.out _ _ (by exact B) (fun C=>?_)
     clear a t;refine wpAnyH_take (i:=16) (v:=?_) rfl (by kernel_rfl) (by kernel_rfl) (by kernel_rfl) (fun _ _ _ h=>h) (Or.inl ⟨by rfl,?_⟩) (by assumption) ?_
     rotate_left
     ·intro c g
      go_simp
      try with_reducible rfl
     simp only [Act.put,getElem_toArray,getElem_cons_zero,getElem_cons_succ,setIfInBounds_toArray,set_cons_zero,set_cons_succ];refine wpAnyH_take (i:=17) (v:=?_) rfl (by kernel_rfl) (by kernel_rfl) (by kernel_rfl) (fun _ _ _ h=>h) (Or.inl ⟨by rfl,?_⟩) (by assumption) ?_
     rotate_left
     ·intro c g
      go_simp
      try with_reducible rfl
     simp only [Act.put,getElem_toArray,getElem_cons_zero,getElem_cons_succ,setIfInBounds_toArray,set_cons_zero,set_cons_succ];refine wpAnyH_take (i:=18) (v:=?_) rfl (by kernel_rfl) (by kernel_rfl) (by kernel_rfl) (fun _ _ _ h=>h) (Or.inl ⟨by rfl,?_⟩) (by assumption) ?_
     rotate_left
     ·intro c g
      go_simp
      try with_reducible rfl
     simp only [Act.put,getElem_toArray,getElem_cons_zero,getElem_cons_succ,setIfInBounds_toArray,set_cons_zero,set_cons_succ];refine wpAnyH_ready (rs:=[19]) (by kernel_rfl) (by simp) ?_
     refine AllReadyH.cons rfl (fun t a=>?_) AllReadyH.nil
     go_simp
     refine a.out _ _ (by exact ad.o) (fun C=>?_)
     clear a t;refine wpAnyH_done (by kernel_rfl) ?_ _
     go_wp2_with fail
     go_meet
     exact ZZ ⟨1,rfl⟩
    ·go_simp
     refine a.out _ _ (by exact B) (fun C=>?_)
     clear a t;refine wpAnyH_take (i:=14) (v:=?_) rfl (by kernel_rfl) (by kernel_rfl) (by kernel_rfl) (fun _ _ _ h=>h) (Or.inl ⟨by rfl,?_⟩) (by assumption) ?_
     rotate_left
     ·intro c g
      go_simp
      try with_reducible rfl
     simp only [Act.put,getElem_toArray,getElem_cons_zero,getElem_cons_succ,setIfInBounds_toArray,set_cons_zero,set_cons_succ];refine wpAnyH_ready (rs:=[3,15]) (by kernel_rfl) (by simp) ?_
     refine AllReadyH.cons rfl (fun t a=>?_) (AllReadyH.cons rfl (fun t a=>?_) AllReadyH.nil)
     ·go_simp
      refine a.out _ _ (by exact B) (fun C=>?_)
      clear a t;refine wpAnyH_ready (rs:=[15]) (by kernel_rfl) (by simp) ?_
      refine AllReadyH.cons rfl (fun t a=>?_) AllReadyH.nil
      go_simp
      go_wp2_with((go_at_call 72;refine(af.o _).mono ?_;rintro e w5 ⟨rfl,rfl⟩))
      refine a.out _ _ (by exact B) (fun C=>?_)
      clear a t;refine wpAnyH_take (i:=16) (v:=?_) rfl (by kernel_rfl) (by kernel_rfl) (by kernel_rfl) (fun _ _ _ h=>h) (Or.inl ⟨by rfl,?_⟩) (by assumption) ?_
      rotate_left
      ·intro c g
       go_simp
       try with_reducible rfl
      simp only [Act.put,getElem_toArray,getElem_cons_zero,getElem_cons_succ,setIfInBounds_toArray,set_cons_zero,set_cons_succ];refine wpAnyH_take (i:=17) (v:=?_) rfl (by kernel_rfl) (by kernel_rfl) (by kernel_rfl) (fun _ _ _ h=>h) (Or.inl ⟨by rfl,?_⟩) (by assumption) ?_
      rotate_left
      ·intro c g
       go_simp
       try with_reducible rfl
      simp only [Act.put,getElem_toArray,getElem_cons_zero,getElem_cons_succ,setIfInBounds_toArray,set_cons_zero,set_cons_succ];refine wpAnyH_take (i:=18) (v:=?_) rfl (by kernel_rfl) (by kernel_rfl) (by kernel_rfl) (fun _ _ _ h=>h) (Or.inl ⟨by rfl,?_⟩) (by assumption) ?_
      rotate_left
      ·intro c g
       go_simp
       try with_reducible rfl
      simp only [Act.put,getElem_toArray,getElem_cons_zero,getElem_cons_succ,setIfInBounds_toArray,set_cons_zero,set_cons_succ];refine wpAnyH_ready (rs:=[19]) (by kernel_rfl) (by simp) ?_
      refine AllReadyH.cons rfl (fun t a=>?_) AllReadyH.nil
      go_simp
      refine a.out _ _ (by exact ad.o) (fun C=>?_)
      clear a t;refine wpAnyH_done (by kernel_rfl) ?_ _
      go_wp2_with fail
      go_meet
      exact ZZ ⟨1,rfl⟩
     ·go_simp
      go_wp2_with((go_at_call 72;refine(af.o _).mono ?_;rintro e w5 ⟨rfl,rfl⟩))
      refine a.out _ _ (by exact B) (fun C=>?_)
      clear a t;refine wpAnyH_ready (rs:=[3]) (by kernel_rfl) (by simp) ?_
      refine AllReadyH.cons rfl (fun t a=>?_) AllReadyH.nil
      go_simp
      refine a.out _ _ (by exact B) (fun C=>?_)
      clear a t;refine wpAnyH_take (i:=16) (v:=?_) rfl (by kernel_rfl) (by kernel_rfl) (by kernel_rfl) (fun _ _ _ h=>h) (Or.inl ⟨by rfl,?_⟩) (by assumption) ?_
      rotate_left
      ·intro c g
       go_simp
       try with_reducible rfl
      simp only [Act.put,getElem_toArray,getElem_cons_zero,getElem_cons_succ,setIfInBounds_toArray,set_cons_zero,set_cons_succ];refine wpAnyH_take (i:=17) (v:=?_) rfl (by kernel_rfl) (by kernel_rfl) (by kernel_rfl) (fun _ _ _ h=>h) (Or.inl ⟨by rfl,?_⟩) (by assumption) ?_
      rotate_left
      ·intro c g
       go_simp
       try with_reducible rfl
      simp only [Act.put,getElem_toArray,getElem_cons_zero,getElem_cons_succ,setIfInBounds_toArray,set_cons_zero,set_cons_succ];refine wpAnyH_take (i:=18) (v:=?_) rfl (by kernel_rfl) (by kernel_rfl) (by kernel_rfl) (fun _ _ _ h=>h) (Or.inl ⟨by rfl,?_⟩) (by assumption) ?_
      rotate_left
      ·intro c g
       go_simp
       try with_reducible rfl
      simp only [Act.put,getElem_toArray,getElem_cons_zero,getElem_cons_succ,setIfInBounds_toArray,set_cons_zero,set_cons_succ];refine wpAnyH_ready (rs:=[19]) (by kernel_rfl) (by simp) ?_
      refine AllReadyH.cons rfl (fun t a=>?_) AllReadyH.nil
      go_simp
      refine a.out _ _ (by exact ad.o) (fun C=>?_)
      clear a t;refine wpAnyH_done (by kernel_rfl) ?_ _
      go_wp2_with fail
      go_meet
      exact ZZ ⟨1,rfl⟩
   case rest=>
    obtain⟨q7,V⟩:=hcut.out;have I:Hid (Bk 117 wc P #[.slice ao Y cap,.int .i64 (y:Int)]):=ZZ (by rw[V];exact aj.o.set 1 _)
    have ap:Hid (Bk 69 wc p (ZfD z DI (U:Int))):=ZZ (by rw[V];exact aT.o.other P 1 _ an.o)
    have R:=ZZ V;have B:wc.cell? ⟨P,0,none⟩=some (.slice ao Y cap):=(I.o.cell 0 rfl).1;have y0:wc.frozen? ⟨P,0,none⟩=false:=(I.o.cell 0 rfl).2;have g1:wc.cell? ⟨P,1,none⟩=some (.int .i64 (y:Int)):=(I.o.cell 1 rfl).1;clear V hcut;obtain⟨W7,ar⟩:∃ W7,W7=wc:=⟨_,rfl⟩;rw[<-ar] at I ap R B y0 g1 ⊢;clear ar
    go_upto_region 8 with fail
    go_cut[] (fun wd=>Hid (∃ q,wd=(W7.setCell ⟨P,0,none⟩ (.slice ao y cap)).drewN q))
    case first=>
     go_region
     all_goals
      go_wp2_with fail
      go_meet
      exact ZZ ⟨1,rfl⟩
    case rest=>
     obtain⟨q8,O⟩:=hcut.out;have aD:Hid (Bk 117 wc P #[.slice ao y cap,.int .i64 (y:Int)]):=ZZ (by rw[O];exact I.o.set 0 _)
     have av:Hid (Bk 69 wc p (ZfD z DI (U:Int))):=ZZ (by rw[O];exact ap.o.other P 0 _ an.o)
     have Z:=ZZ O;have E:wc.cell? ⟨P,1,none⟩=some (.int .i64 (y:Int)):=(aD.o.cell 1 rfl).1;have M:wc.cell? ⟨p,1,none⟩=some (.int .i64 (U:Int)):=(av.o.cell 1 rfl).1;have h3:wc.frozen? ⟨p,1,none⟩=false:=(av.o.cell 1 rfl).2;clear O hcut B y0 g1;obtain⟨W8,ak⟩:∃ W8,W8=wc:=⟨_,rfl⟩;rw[<-ak] at Z E M h3 ⊢;clear ak
     go_upto_region 9 with fail
     go_region
     all_goals
      go_wp2;go_roundw
      case rel=>
       refine⟨i+1,by go_num,by have:=ax.o;omega,_,ZZ (aH.o.keep (w':=(W8.setCell ⟨p,1,none⟩ (.int .i64 ((U:Int)+(y:Int)))).drew) (fun k _=>?_) ?_),ZZ ?_⟩
       ·rw[Z.o,R.o]
        rfl
       ·rw[Z.o,R.o]
        exact Nat.le_refl _
       ·rw[Z.o,R.o]
        exact⟨K.o.os,K.o.tape,K.o.output,K.o.size,K.o.block⟩
      case measure=>have:=ax.o;simp[intOf];omega
  ·obtain⟨J,hJ⟩:∃ J,J=i % keep.length:=⟨_,rfl⟩
   have bg:J<keep.length:=by rw[hJ];exact Nat.mod_lt _ (by omega)
   have bm:(i:Int) % (keep.length:Int)=(J:Int):=by rw[hJ];omega
   have eA:keep.getD J 0=A:=by rw[HA.o,hJ];exact(if_neg ae).symm
   obtain⟨kb,am,rfl,bu⟩:∃ kb am,ka=some ⟨kb,am,none⟩∧wr.cell? ⟨kb,am+J,none⟩=some (.int .i64 A):=by
    obtain⟨a',c',ag,_,_,_,_,h6⟩:=a8.o;simp only [Value.slice.injEq] at ag;obtain⟨rfl,_,rfl⟩:=ag;rcases h6 with h6 | ⟨kb,am,rfl,h7⟩
    ·rw[h6] at ae
     simp at ae
    ·exact⟨kb,am,rfl,by rw[h7 J bg,eA]⟩
   have bq:0<keep.length:=by omega
   have bp:(0:Int)<(keep.length:Int):=by omega
   clear eA hJ ae
   go_upto_region 7 with fail
   clear a1 aE k2
   go_cut[] (fun wd=>Hid (∃ q,wd=(wr.setCell ⟨P,1,none⟩ (.int .i64 (y:Int))).drewN q))
   case first=>
    refine wp_region_held_drew (S:=fun w'=>w'.cell? ⟨P,0,none⟩=some (.slice ao Y cap)) (by kernel_rfl) (by exact B) (fun C=>?_)
    refine wpAnyH_take (i:=0) (v:=?_) rfl (by kernel_rfl) (by kernel_rfl) (by kernel_rfl) (fun _ _ _ h=>h) (Or.inl ⟨by rfl,?_⟩) (by assumption) ?_
    rotate_left
    ·intro c g
     go_simp
     try with_reducible rfl
    simp only [Act.put,getElem_toArray,getElem_cons_zero,setIfInBounds_toArray,set_cons_zero,set_cons_succ];refine wpAnyH_take (i:=1) (v:=?_) rfl (by kernel_rfl) (by kernel_rfl) (by kernel_rfl) (fun _ _ _ h=>h) (Or.inl ⟨by rfl,?_⟩) (by assumption) ?_
    rotate_left
    ·intro c g
     go_simp
     try with_reducible rfl
    simp only [Act.put,getElem_toArray,getElem_cons_zero,getElem_cons_succ,setIfInBounds_toArray,set_cons_zero,set_cons_succ];refine wpAnyH_take (i:=2) (v:=?_) rfl (by kernel_rfl) (by kernel_rfl) (by kernel_rfl) (fun _ _ _ h=>h) (Or.inl ⟨by rfl,?_⟩) (by assumption) ?_
    rotate_left
    ·intro c g
     go_simp
     try with_reducible rfl
    simp only [Act.put,getElem_toArray,getElem_cons_zero,getElem_cons_succ,setIfInBounds_toArray,set_cons_zero,set_cons_succ];refine wpAnyH_take (i:=4) (v:=?_) rfl (by kernel_rfl) (by kernel_rfl) (by kernel_rfl) (fun _ _ _ h=>h) (Or.inl ⟨by rfl,?_⟩) (by assumption) ?_
    rotate_left
    ·intro c g
     go_simp
     try with_reducible rfl
    simp only [Act.put,getElem_toArray,getElem_cons_zero,getElem_cons_succ,setIfInBounds_toArray,set_cons_zero,set_cons_succ];refine wpAnyH_take (i:=5) (v:=?_) rfl (by kernel_rfl) (by kernel_rfl) (by kernel_rfl) (fun _ _ _ h=>h) (Or.inl ⟨by rfl,?_⟩) (by assumption) ?_
    rotate_left
    ·intro c g
     go_simp
     try with_reducible rfl
    simp only [Act.put,getElem_toArray,getElem_cons_zero,getElem_cons_succ,setIfInBounds_toArray,set_cons_zero,set_cons_succ];refine wpAnyH_take (i:=6) (v:=?_) rfl (by kernel_rfl) (by kernel_rfl) (by kernel_rfl) (fun _ _ _ h=>h) (Or.inl ⟨by rfl,?_⟩) (by assumption) ?_
    rotate_left
    ·intro c g
     go_simp
     try with_reducible rfl
    simp only [Act.put,getElem_toArray,getElem_cons_zero,getElem_cons_succ,setIfInBounds_toArray,set_cons_zero,set_cons_succ];refine wpAnyH_take (i:=7) (v:=?_) rfl (by kernel_rfl) (by kernel_rfl) (by kernel_rfl) (fun _ _ _ h=>h) (Or.inl ⟨by rfl,?_⟩) (by assumption) ?_
    rotate_left
    ·intro c g
     go_simp
     try with_reducible rfl
    simp only [Act.put,getElem_toArray,getElem_cons_zero,getElem_cons_succ,setIfInBounds_toArray,set_cons_zero,set_cons_succ];refine wpAnyH_take (i:=8) (v:=?_) rfl (by kernel_rfl) (by kernel_rfl) (by kernel_rfl) (fun _ _ _ h=>h) (Or.inl ⟨by rfl,?_⟩) (by assumption) ?_
    rotate_left
    ·intro c g
     go_simp
     try with_reducible rfl
    simp only [Act.put,getElem_toArray,getElem_cons_zero,getElem_cons_succ,setIfInBounds_toArray,set_cons_zero,set_cons_succ];refine wpAnyH_take (i:=9) (v:=?_) rfl (by kernel_rfl) (by kernel_rfl) (by kernel_rfl) (fun _ _ _ h=>h) (Or.inl ⟨by rfl,?_⟩) (by assumption) ?_
    rotate_left
    ·intro c g
     go_simp
     try with_reducible rfl
    simp only [Act.put,getElem_toArray,getElem_cons_zero,getElem_cons_succ,setIfInBounds_toArray,set_cons_zero,set_cons_succ];refine wpAnyH_take (i:=10) (v:=?_) rfl (by kernel_rfl) (by kernel_rfl) (by kernel_rfl) (fun _ _ _ h=>h) (Or.inl ⟨by rfl,?_⟩) (by assumption) ?_
    rotate_left
    ·intro c g
     go_simp
     try with_reducible rfl
    simp only [Act.put,getElem_toArray,getElem_cons_zero,getElem_cons_succ,setIfInBounds_toArray,set_cons_zero,set_cons_succ];refine wpAnyH_take (i:=11) (v:=?_) rfl (by kernel_rfl) (by kernel_rfl) (by kernel_rfl) (fun _ _ _ h=>h) (Or.inl ⟨by rfl,?_⟩) (by assumption) ?_
    rotate_left
    ·intro c g
     go_simp
     try with_reducible rfl
    simp only [Act.put,getElem_toArray,getElem_cons_zero,getElem_cons_succ,setIfInBounds_toArray,set_cons_zero,set_cons_succ];refine wpAnyH_take (i:=12) (v:=?_) rfl (by kernel_rfl) (by kernel_rfl) (by kernel_rfl) (fun _ _ _ h=>h) (Or.inl ⟨by rfl,?_⟩) (by assumption) ?_
    rotate_left
    ·intro c g
     go_simp
     try with_reducible rfl
    simp only [Act.put,getElem_toArray,getElem_cons_zero,getElem_cons_succ,setIfInBounds_toArray,set_cons_zero,set_cons_succ];refine wpAnyH_ready (rs:=[3,13]) (by kernel_rfl) (by simp) ?_
    refine AllReadyH.cons rfl (fun t a=>?_) (AllReadyH.cons rfl (fun t a=>?_) AllReadyH.nil)
    ·go_simp
     refine a.out _ _ (by exact B) (fun C=>?_)
     clear a t;refine wpAnyH_ready (rs:=[13]) (by kernel_rfl) (by simp) ?_
     refine AllReadyH.cons rfl (fun t a=>?_) AllReadyH.nil
     go_simp
     refine a.out _ _ (by exact B) (fun C=>?_)
     clear a t;refine wpAnyH_take (i:=14) (v:=?_) rfl (by kernel_rfl) (by kernel_rfl) (by kernel_rfl) (fun _ _ _ h=>h) (Or.inl ⟨by rfl,?_⟩) (by assumption) ?_
     rotate_left
     ·intro c g
      go_simp
      try with_reducible rfl
     simp only [Act.put,getElem_toArray,getElem_cons_zero,getElem_cons_succ,setIfInBounds_toArray,set_cons_zero,set_cons_succ];refine wpAnyH_ready (rs:=[15]) (by kernel_rfl) (by simp) ?_
     refine AllReadyH.cons rfl (fun t a=>?_) AllReadyH.nil
     go_simp
     go_wp2_with((go_at_call 72;refine(af.o _).mono ?_;rintro e w5 ⟨rfl,rfl⟩))
     refine a.out _ _ (by exact B) (fun C=>?_)
     clear a t;refine wpAnyH_take (i:=16) (v:=?_) rfl (by kernel_rfl) (by kernel_rfl) (by kernel_rfl) (fun _ _ _ h=>h) (Or.inl ⟨by rfl,?_⟩) (by assumption) ?_
     rotate_left
     ·intro c g
      go_simp
      try with_reducible rfl
     simp only [Act.put,getElem_toArray,getElem_cons_zero,getElem_cons_succ,setIfInBounds_toArray,set_cons_zero,set_cons_succ];refine wpAnyH_take (i:=17) (v:=?_) rfl (by kernel_rfl) (by kernel_rfl) (by kernel_rfl) (fun _ _ _ h=>h) (Or.inl ⟨by rfl,?_⟩) (by assumption) ?_
     rotate_left
     ·intro c g
      go_simp
      try with_reducible rfl
     simp only [Act.put,getElem_toArray,getElem_cons_zero,getElem_cons_succ,setIfInBounds_toArray,set_cons_zero,set_cons_succ];refine wpAnyH_take (i:=18) (v:=?_) rfl (by kernel_rfl) (by kernel_rfl) (by kernel_rfl) (fun _ _ _ h=>h) (Or.inl ⟨by rfl,?_⟩) (by assumption) ?_
     rotate_left
     ·intro c g
      go_simp
      try with_reducible rfl
     simp only [Act.put,getElem_toArray,getElem_cons_zero,getElem_cons_succ,setIfInBounds_toArray,set_cons_zero,set_cons_succ];refine wpAnyH_ready (rs:=[19]) (by kernel_rfl) (by simp) ?_
     refine AllReadyH.cons rfl (fun t a=>?_) AllReadyH.nil
     go_simp
     refine a.out _ _ (by exact ad.o) (fun C=>?_)
     clear a t;refine wpAnyH_done (by kernel_rfl) ?_ _
     go_wp2_with fail
     go_meet
     exact ZZ ⟨1,rfl⟩
    ·go_simp
     refine a.out _ _ (by exact B) (fun C=>?_)
     clear a t;refine wpAnyH_take (i:=14) (v:=?_) rfl (by kernel_rfl) (by kernel_rfl) (by kernel_rfl) (fun _ _ _ h=>h) (Or.inl ⟨by rfl,?_⟩) (by assumption) ?_
     rotate_left
     ·intro c g
      go_simp
      try with_reducible rfl
     simp only [Act.put,getElem_toArray,getElem_cons_zero,getElem_cons_succ,setIfInBounds_toArray,set_cons_zero,set_cons_succ];refine wpAnyH_ready (rs:=[3,15]) (by kernel_rfl) (by simp) ?_
     refine AllReadyH.cons rfl (fun t a=>?_) (AllReadyH.cons rfl (fun t a=>?_) AllReadyH.nil)
     ·go_simp
      refine a.out _ _ (by exact B) (fun C=>?_)
      clear a t;refine wpAnyH_ready (rs:=[15]) (by kernel_rfl) (by simp) ?_
      refine AllReadyH.cons rfl (fun t a=>?_) AllReadyH.nil
      go_simp
      go_wp2_with((go_at_call 72;refine(af.o _).mono ?_;rintro e w5 ⟨rfl,rfl⟩))
      refine a.out _ _ (by exact B) (fun C=>?_)
      clear a t;refine wpAnyH_take (i:=16) (v:=?_) rfl (by kernel_rfl) (by kernel_rfl) (by kernel_rfl) (fun _ _ _ h=>h) (Or.inl ⟨by rfl,?_⟩) (by assumption) ?_
      rotate_left
      ·intro c g
       go_simp
       try with_reducible rfl
      simp only [Act.put,getElem_toArray,getElem_cons_zero,getElem_cons_succ,setIfInBounds_toArray,set_cons_zero,set_cons_succ];refine wpAnyH_take (i:=17) (v:=?_) rfl (by kernel_rfl) (by kernel_rfl) (by kernel_rfl) (fun _ _ _ h=>h) (Or.inl ⟨by rfl,?_⟩) (by assumption) ?_
      rotate_left
      ·intro c g
       go_simp
       try with_reducible rfl
      simp only [Act.put,getElem_toArray,getElem_cons_zero,getElem_cons_succ,setIfInBounds_toArray,set_cons_zero,set_cons_succ];refine wpAnyH_take (i:=18) (v:=?_) rfl (by kernel_rfl) (by kernel_rfl) (by kernel_rfl) (fun _ _ _ h=>h) (Or.inl ⟨by rfl,?_⟩) (by assumption) ?_
      rotate_left
      ·intro c g
       go_simp
       try with_reducible rfl
      simp only [Act.put,getElem_toArray,getElem_cons_zero,getElem_cons_succ,setIfInBounds_toArray,set_cons_zero,set_cons_succ];refine wpAnyH_ready (rs:=[19]) (by kernel_rfl) (by simp) ?_
      refine AllReadyH.cons rfl (fun t a=>?_) AllReadyH.nil
      go_simp
      refine a.out _ _ (by exact ad.o) (fun C=>?_)
      clear a t;refine wpAnyH_done (by kernel_rfl) ?_ _
      go_wp2_with fail
      go_meet
      exact ZZ ⟨1,rfl⟩
     ·go_simp
      go_wp2_with((go_at_call 72;refine(af.o _).mono ?_;rintro e w5 ⟨rfl,rfl⟩))
      refine a.out _ _ (by exact B) (fun C=>?_)
      clear a t;refine wpAnyH_ready (rs:=[3]) (by kernel_rfl) (by simp) ?_
      refine AllReadyH.cons rfl (fun t a=>?_) AllReadyH.nil
      go_simp
      refine a.out _ _ (by exact B) (fun C=>?_)
      clear a t;refine wpAnyH_take (i:=16) (v:=?_) rfl (by kernel_rfl) (by kernel_rfl) (by kernel_rfl) (fun _ _ _ h=>h) (Or.inl ⟨by rfl,?_⟩) (by assumption) ?_
      rotate_left
      ·intro c g
       go_simp
       try with_reducible rfl
      simp only [Act.put,getElem_toArray,getElem_cons_zero,getElem_cons_succ,setIfInBounds_toArray,set_cons_zero,set_cons_succ];refine wpAnyH_take (i:=17) (v:=?_) rfl (by kernel_rfl) (by kernel_rfl) (by kernel_rfl) (fun _ _ _ h=>h) (Or.inl ⟨by rfl,?_⟩) (by assumption) ?_
      rotate_left
      ·intro c g
       go_simp
       try with_reducible rfl
      simp only [Act.put,getElem_toArray,getElem_cons_zero,getElem_cons_succ,setIfInBounds_toArray,set_cons_zero,set_cons_succ];refine wpAnyH_take (i:=18) (v:=?_) rfl (by kernel_rfl) (by kernel_rfl) (by kernel_rfl) (fun _ _ _ h=>h) (Or.inl ⟨by rfl,?_⟩) (by assumption) ?_
      rotate_left
      ·intro c g
       go_simp
       try with_reducible rfl
      simp only [Act.put,getElem_toArray,getElem_cons_zero,getElem_cons_succ,setIfInBounds_toArray,set_cons_zero,set_cons_succ];refine wpAnyH_ready (rs:=[19]) (by kernel_rfl) (by simp) ?_
      refine AllReadyH.cons rfl (fun t a=>?_) AllReadyH.nil
      go_simp
      refine a.out _ _ (by exact ad.o) (fun C=>?_)
      clear a t;refine wpAnyH_done (by kernel_rfl) ?_ _
      go_wp2_with fail
      go_meet
      exact ZZ ⟨1,rfl⟩
   case rest=>
    obtain⟨q7,V⟩:=hcut.out;have I:Hid (Bk 117 wc P #[.slice ao Y cap,.int .i64 (y:Int)]):=ZZ (by rw[V];exact aj.o.set 1 _)
    have ap:Hid (Bk 69 wc p (ZfD z DI (U:Int))):=ZZ (by rw[V];exact aT.o.other P 1 _ an.o)
    have R:=ZZ V;have B:wc.cell? ⟨P,0,none⟩=some (.slice ao Y cap):=(I.o.cell 0 rfl).1;have y0:wc.frozen? ⟨P,0,none⟩=false:=(I.o.cell 0 rfl).2;have g1:wc.cell? ⟨P,1,none⟩=some (.int .i64 (y:Int)):=(I.o.cell 1 rfl).1;clear V hcut;obtain⟨W7,ar⟩:∃ W7,W7=wc:=⟨_,rfl⟩;rw[<-ar] at I ap R B y0 g1 ⊢;clear ar
    go_upto_region 8 with fail
    go_cut[] (fun wd=>Hid (∃ q,wd=(W7.setCell ⟨P,0,none⟩ (.slice ao y cap)).drewN q))
    case first=>
     go_region
     all_goals
      go_wp2_with fail
      go_meet
      exact ZZ ⟨1,rfl⟩
    case rest=>
     obtain⟨q8,O⟩:=hcut.out;have aD:Hid (Bk 117 wc P #[.slice ao y cap,.int .i64 (y:Int)]):=ZZ (by rw[O];exact I.o.set 0 _)
     have av:Hid (Bk 69 wc p (ZfD z DI (U:Int))):=ZZ (by rw[O];exact ap.o.other P 0 _ an.o)
     have Z:=ZZ O;have E:wc.cell? ⟨P,1,none⟩=some (.int .i64 (y:Int)):=(aD.o.cell 1 rfl).1;have M:wc.cell? ⟨p,1,none⟩=some (.int .i64 (U:Int)):=(av.o.cell 1 rfl).1;have h3:wc.frozen? ⟨p,1,none⟩=false:=(av.o.cell 1 rfl).2;clear O hcut B y0 g1;obtain⟨W8,ak⟩:∃ W8,W8=wc:=⟨_,rfl⟩;rw[<-ak] at Z E M h3 ⊢;clear ak
     go_upto_region 9 with fail
     go_region
     all_goals
      go_wp2;go_roundw
      case rel=>
       refine⟨i+1,by go_num,by have:=ax.o;omega,_,ZZ (aH.o.keep (w':=(W8.setCell ⟨p,1,none⟩ (.int .i64 ((U:Int)+(y:Int)))).drew) (fun k _=>?_) ?_),ZZ ?_⟩
       ·rw[Z.o,R.o]
        rfl
       ·rw[Z.o,R.o]
        exact Nat.le_refl _
       ·rw[Z.o,R.o]
        exact⟨K.o.os,K.o.tape,K.o.output,K.o.size,K.o.block⟩
      case measure=>have:=ax.o;simp[intOf];omega
theorem Zux (names:Int) (m:Value) (keep:List Int) (w:World) (h:Dsk F w p d N T) (v:N<=1000000) (X:T<=1000000000) (n:RdI w m keep) (t:keep=[]∨∀ k,m.ownBlock=some k->¬ F k) (S:keep.length<=1000000000):
 Calls prog 12 #[ptr p,.int .i64 names,m] w fun e w'=>e=.returned (.tuple #[])∧Dsk F w' p (G7 d names keep) N T∧Ql F w w':=by
 obtain⟨L,h,a,b,B,u⟩:=h;have Q:=ZZ a;have j:=ZZ b;have H:=ZZ (And.intro B u);have E:=ZZ n;have A:=ZZ t;have C:=ZZ (ZhV names w h a b v);obtain⟨K,c⟩:∃ K,K=Z4 names d.waits.length:=⟨_,rfl⟩;have f:=ZZ c;rw[<-c] at C;have V:Hid (OkD { d with kept:=Ym d K,waits:=[] }):=ZZ (ZgQ (fs:=d.files) (a.dirs K) a.keep)
 have I:Hid (Bnd { d with kept:=Ym d K,waits:=[] } N T):=ZZ ⟨b.files,by have l:=Zbt d K;have G:=b.names;show(Ym d K).length+0<=N;omega,b.bytes⟩
 have M:Hid (∀ q ∈ Ym d K,q.2<d.files.length):=ZZ (fun q U=>((a.dirs K).may q U).2)
 obtain⟨ka,kc,rfl,-⟩:=n;clear h a b B u t c
 go_enter func12,ntmps12
 go_wp2_with fail
 refine C.o.mono ?_;rintro e J ⟨rfl,y,g⟩;have Y:=ZZ (Zlt _ keep J y rfl V.o I.o v X (E.o.onlyE g A.o) A.o S);have Z:=ZZ g;clear y g
 go_wp2_with fail
 refine Y.o.mono ?_;rintro e W2 ⟨rfl,⟨P,i⟩,z⟩;have D:=ZZ i;have R:=ZZ (Z.o.trans z (fun _ _ O=>O))
 obtain⟨⟨-,-,-,-,-,c5⟩,-,-,-,f5⟩:=i.cells;clear i z;go_wp2;go_end0;refine⟨rfl,⟨P,?_,Q.o.crash names keep,⟨?_,?_,?_⟩,H.o.1,⟨by show(-9223372036854775808:Int)<=-1;omega,by show(-1:Int)<=9223372036854775807;omega⟩⟩,R.o.setCell 5 (fun _=>D.o.fh) _⟩
 ·have l:=D.o.setHead 5 (.int .i64 (-1)) (d':=G7 d names keep) (u':=(Zt (Xb keep (Ym d K) 0 d.files) (Ym d K):Nat)) (by rw[f.o];exact⟨rfl,rfl,rfl⟩) rfl
  have W:Jb (G7 d names keep)=Zt (Xb keep (Ym d K) 0 d.files) (Ym d K):=by rw[f.o];rfl
  rw[W];exact l
 ·have:=j.o.files
  show(Xb keep _ 0 d.files).length<=N;rw[Gi];exact this
 ·have l:=Zbt d (Z4 names d.waits.length)
  have G:=j.o.names;show(Ym d (Z4 names d.waits.length)).length+0<=N;omega
 ·intro x hx
  refine ZcI keep (Ym d K) 0 d.files j.o.bytes M.o x ?_;rw[f.o];exact hx
theorem Zuy (v:Value) (l:List UInt8) (w:World) (d:Rd w v l) (L:l.length<=70368744177664):
 Calls prog 183 #[v] w fun e w'=>∃ v',e=.returned v'∧Own w' w.heap.size v' l∧Below w.heap.size w w':=by
 obtain⟨u,j,H,i,I⟩:=info_parts Zlf;have D:=ZZ d;obtain⟨ao,cap,rfl,O,N,g,x⟩:=d;have F:=ZZ x;have n:=ZZ g;clear x g
 go_enter func183,ntmps183
 go_wp2_with(at_make;refine wpList_make_own _ rfl _ _ 53 rfl w.heap.size 5 u (.int .u8 0) 1 underlying53 j H i _ _ _ (l.length+10) rfl rfl (by omega) (by rw[I];omega) (by unfold maxLen;omega) zL ?_)
 intro A m b;have a:Below w.heap.size w A:=(Below.refl _ _).grown b zL (fun k c=>by cases c)
 obtain⟨K,J,t,_,_,_,z⟩:=D.o.below a zL;simp only [Value.slice.injEq] at t;obtain⟨rfl,_,rfl⟩:=t;have B:=ZZ z;have p:=ZZ a;have M:=ZZ b;clear z a b F
 go_wp2_with(at_builtin;refine wpList_append_fits_any _ rfl _ _ 53 rfl w.heap.size 5 u 1 underlying53 j i w.heap.size 0 (l.length+10) [] rfl m ao l.length cap (Lib.byteCells l) rfl (by rw[Y0,Nat.mul_one]) (fun e=>⟨by have:=n.o e;omega,n.o e⟩) (Rd.cells B.o) (ZaJ l) (by omega) ?_)
 intro C q f;have y:Below w.heap.size w C:=p.o.grown f (by have:=p.o.size;omega) (fun k c=>by simp at c;omega)
 have G:=ZZ y;have E:=ZZ q;clear y f q m;go_wp2;go_ret;exact⟨_,rfl,Own.mk' E.o (by simp) (by simp),G.o⟩
theorem ZAl (y:Nat):bits .or .u8 ((y:Int) % 256) 128=(y:Int) % 128+128:=by
 rw[Lib.u8_or128_any _ (by omega) (by omega)]
 omega
theorem Own.snoc (l b:List UInt8) (a:Nat) (e:a<256) {n:Nat} {x:Int} (h:w.ownsRow B 5 1 v n (Lib.byteCells (l++b)++[Value.int .u8 x])) (c:n=l.length+b.length+1) (d:x=(a:Int)):Own w B v (l++(b++[a.toUInt8])):=by
 subst d;refine Own.mk' h (by rw[c];simp;omega) ?_
 rw[<-List.append_assoc,Lib.byteCells_snoc _ e]
theorem ZeD (v:Value) (l:List UInt8) (u:Nat) (w:World) (A:Rd w v l) (M:l.length<=70368744177664) (b:u<18446744073709551616):
 Calls prog 184 #[v,.int .u64 (u:Int)] w fun e w'=>∃ v',e=.returned v'∧Own w' w.heap.size v' (l++Lib.uvarint u)∧Below w.heap.size w w':=by
 obtain⟨H,C,J,B,F⟩:=info_parts Zlf;have X:=Lib.uvarint_length64 b;have D:=ZZ (Zuy v l w A M);have R:=ZZ b;clear A b
 go_enter func184,ntmps184
 go_wp2_with fail
 refine D.o.mono ?_;rintro e V ⟨Y,rfl,G,E⟩;have O:=ZZ G;have Q:=ZZ E;clear G E D;go_wp2
 go_loopw[1,5] (fun p K wr=>∃ (y:Nat) (c:List UInt8),p=.int .u64 (y:Int)∧Hid (y<=u∧Lib.uvarint u=c++Lib.uvarint y)∧Hid (Own wr w.heap.size K (l++c))∧Hid (Below w.heap.size w wr))
  (fun p _ _=>(intOf p).toNat)
 case atStart=>exact⟨u,[],rfl,⟨Nat.le_refl _,rfl⟩,by rw[List.append_nil];exact O.o,Q.o⟩
 case round=>
  obtain⟨y,c,rfl,i,m,z⟩:=hrel
  have T:c.length+(Lib.uvarint y).length<=10:=by
   have L:=congrArg List.length i.out.2;rw[List.length_append] at L;omega
  have W:=Lib.uvarint_pos y;have S:=z.out.size;by_cases N:128<=y
  ·have U:=ZAl y
   go_wp2_with(at_builtin;refine wpList_append_own _ rfl _ _ 53 rfl w.heap.size 5 H (.int .u8 0) 1 1 underlying53 C J B F rfl (by decide) _ _ _ rfl (World.ownsRow.alloc m.out _) ⟨wr.heap.size,0,none⟩ 1 1 [Value.int .u8 ((y % 128+128:Nat):Int)] rfl rfl ?c1 ?c2 ?c3 ?c4 ?c5 ?_)
   case c1=>
    intro j u a
    match j,a with
    | 0,a=>simp at a;subst a;simp[Addr.add]
   case c2=>intro u b;simp at b;subst b;rfl
   case c3=>unfold maxLen;simp;omega
   case c4=>simp;omega
   case c5=>simp;omega
   intro v' n g f _;have d:Below w.heap.size w n:=(z.out.alloc (by omega) _).grown f (by simp;omega) (fun k t=>(World.ownsRow.lt m.out k t).1)
   have x:=ZZ (Own.snoc l c (y % 128+128) (by omega) g (by simp) (by omega))
   have q:=ZZ d;clear g d f;go_wp2;go_roundw
   case rel=>exact⟨y / 128,c++[(y % 128+128).toUInt8],by go_num,⟨by have:=i.out.1;omega,by rw[i.out.2,Lib.uvarint_big N];simp⟩,x,q⟩
   case measure=>simp[intOf];omega
  ·have I:Lib.uvarint y=[y.toUInt8]:=Lib.uvarint_small (by omega)
   have P:=ZZ I;clear I
   go_wp2_with(at_builtin;refine wpList_append_own _ rfl _ _ 53 rfl w.heap.size 5 H (.int .u8 0) 1 1 underlying53 C J B F rfl (by decide) _ _ _ rfl (World.ownsRow.alloc m.out _) ⟨wr.heap.size,0,none⟩ 1 1 [Value.int .u8 (y:Int)] rfl rfl ?c1 ?c2 ?c3 ?c4 ?c5 ?_)
   case c1=>
    intro j u a
    match j,a with
    | 0,a=>simp at a;subst a;simp[Addr.add]
   case c2=>intro u b;simp at b;subst b;rfl
   case c3=>unfold maxLen;simp;omega
   case c4=>simp;omega
   case c5=>simp;omega
   intro v' n g f _;have d:Below w.heap.size w n:=(z.out.alloc (by omega) _).grown f (by simp;omega) (fun k t=>(World.ownsRow.lt m.out k t).1)
   have x:=ZZ (Own.snoc l c y (by omega) g (by simp) rfl)
   have q:=ZZ d;clear g d f;go_wp2;go_ret;refine⟨v',rfl,?_,q.o⟩;rw[i.out.2,P.o];exact x.o
def Zsd (l:List UInt8) (n:Int):List UInt8:=if 0<=n∧n<4611686018427387904 then l++Lib.uvarint n.toNat else l
theorem ZbE (v:Value) (l:List UInt8) (n:Int) (w:World) (d:Rd w v l) (k:l.length<=70368744177664):
 Calls prog 132 #[v,.int .i64 n] w fun e w'=>∃ v',e=.returned v'∧Own w' w.heap.size v' (Zsd l n)∧Below w.heap.size w w':=by
 by_cases h:0<=n∧n<4611686018427387904
 ·obtain⟨g,p⟩:=h
  have f:Hid (Zsd l n=l++Lib.uvarint n.toNat):=if_pos ⟨g,p⟩;have a:=ZZ (ZeD v l n.toNat w d k (by omega))
  have m:((n.toNat:Nat):Int)=n:=Int.toNat_of_nonneg g;rw[m] at a;clear m d
  go_enter func132,ntmps132
  go_wp2_with fail
  refine a.o.mono ?_;rintro e w' ⟨v',rfl,c,b⟩;have j:=ZZ c;have i:=ZZ b;clear c b a;go_wp2;go_ret;exact⟨v',rfl,by rw[f.o];exact j.o,i.o⟩
 ·have f:Hid (Zsd l n=l):=if_neg h
  have a:=ZZ (Zuy v l w d k);clear d;by_cases g:n<0
  all_goals
   go_enter func132,ntmps132
   go_wp2_with fail
   refine a.o.mono ?_;rintro e w' ⟨v',rfl,c,b⟩;have j:=ZZ c;have i:=ZZ b;clear c b a;go_wp2;go_ret;exact⟨v',rfl,by rw[f.o];exact j.o,i.o⟩
theorem Gj (v:Value) (l:List UInt8) (n:Int) (w:World) (c:Rd w v l) (j:l.length<=70368744177664) (a:-9223372036854775808<=n) (b:n<=9223372036854775807):
 Calls prog 142 #[v,.int .i64 n] w fun e w'=>∃ v',e=.returned v'∧Own w' w.heap.size v' (l++Lib.uvarint (Lib.zigzag n))∧Below w.heap.size w w':=by
 have d:=ZZ (ZeD v l (Lib.zigzag n) w c j (Lib.zigzag_lt a b));have i:=ZZ (Zys n w a b);generalize Lib.zigzag n=z at *;clear c a b
 go_enter func142,ntmps142
 go_wp2_with fail
 refine i.o.mono ?_;rintro e w' ⟨rfl,rfl⟩
 go_wp2_with fail
 refine d.o.mono ?_;rintro e w' ⟨v',rfl,g,f⟩;have m:=ZZ g;have k:=ZZ f;clear g f d i;go_wp2;go_ret;exact⟨v',rfl,m.o,k.o⟩
end Go.Proofs.YtnahjngbneicaaaGreatDoor
