import Derived.Test.YtnahjngbneicaaaGreatDoorPack3
import Derived.Lib.LazyBuf
import Derived.Sort.OwnSortedInts
namespace Go.Proofs.YtnahjngbneicaaaGreatDoor
open _root_.Go.Proofs.Tryz
open List (getElem_cons_succ getElem_cons_zero getElem_toArray length_take setIfInBounds_toArray set_cons_succ set_cons_zero)
set_option maxHeartbeats 4000000
set_option maxRecDepth 100000
open Go.RowKit
variable {F:Nat->Prop} {B N T b n p r:Nat} {d:Dk} {L:Lay} {w w':World} {u:Int} {v:Value} {l:List Int} {f:Int->Option Nat}
theorem ZwY (w:World) (B:Nat) (a:B<=w.heap.size):Own (w.alloc (.cells #[] 5)) B (.slice (some ⟨w.heap.size,0,none⟩) 0 0) []:=
 ⟨rfl,.inr ⟨w.heap.size,0,#[],rfl,a,heap_alloc_new w _,Nat.le_refl _,Nat.zero_le _,rfl,rfl⟩⟩
theorem ZrX (v:Value) (l:List UInt8) (w:World) (d:Rd w v l) (A:l.length<=70368744177664):
 Calls prog 113 #[v] w fun e w'=>∃ v',e=.returned v'∧Own w' w.heap.size v' l∧Below w.heap.size w w':=by
 have q:=ZZ d;obtain⟨ao,cap,rfl,j,k,a,f⟩:=d
 cases ao with
 | none=>
  have z:=a rfl;have i:l=[]:=List.eq_nil_of_length_eq_zero (by omega)
  subst i;subst z;clear f a;have p:∀ w,(binOp .eql 53 (.slice none 0 0) (.slice none 0 0)).run prog w=.ok (.bool true) w:=fun w=>run_eql_slice_nil w _ _ none 0 0 underlying53
  go_enter func113,ntmps113
  go_wp2;go_ret;exact⟨_,rfl,Own.nil _ _,Below.refl _ _⟩
 | some g=>
  clear f a j k;have p:∀ w,(binOp .eql 53 (.slice (some g) l.length cap) (.slice none 0 0)).run prog w=.ok (.bool false) w:=fun w=>run_eql_slice_nil w _ _ (some g) _ _ underlying53
  have x:=ZZ (ZwY w w.heap.size zL);have b:=ZZ ((Below.refl w.heap.size w).alloc zL (.cells #[] 5));have u:=ZZ (q.o.below b.o zL);have m:Hid (w.heap.size<=(w.alloc (.cells #[] 5)).heap.size):=b.o.size
  go_enter func113,ntmps113
  go_wp2_with(at_builtin;refine Xw _ rfl _ _ rfl w.heap.size _ [] rfl x.o _ l rfl u.o (by simp;omega) m.o ?_)
  intro n B h c;have t:=ZZ h;have y:=ZZ (b.o.trans c);clear h c;go_wp2;go_ret;exact⟨n,rfl,t.o,y.o⟩
theorem Zna (n:Int) (k:I64 n) (w:World) (h:Dsk F w p d N T) (y:T<=1000000000):
 Calls prog 75 #[ptr p,.int .i64 n] w fun e w'=>∃ v,e=.returned (.tuple #[v,.int .i64 (Zp d n).2])∧Own w' w.heap.size v (Zp d n).1∧Below w.heap.size w w':=by
 obtain⟨L,h,l,i,-,-⟩:=h;have a:=ZZ (ZgT n k w h);have H:=ZZ h;have q:=ZZ l;have z:=ZZ i;clear h l i;unfold Zp;by_cases b:d.power=0
 ·rw[if_pos b]
  rw[if_pos b,if_pos b] at a;clear b
  go_enter func75,ntmps75
  go_wp2_with fail
  refine a.o.mono ?_;rintro e w' ⟨rfl,rfl⟩;go_wp2;go_ret2;exact⟨_,rfl,Own.nil _ _,Below.refl _ _⟩
 rw[if_neg b];rw[if_neg b,if_neg b] at a;clear b
 cases ho:look (Qm d) n with
 | none=>
  rw[ho] at a
  dsimp only [Option.map_none,Option.isSome_none,Bool.false_eq_true,if_false,ZqL] at a ⊢
  clear ho
  go_enter func75,ntmps75
  go_wp2_with fail
  refine a.o.mono ?_;rintro e w' ⟨rfl,rfl⟩;go_wp2;go_ret2;exact⟨_,rfl,Own.nil _ _,Below.refl _ _⟩
 | some f=>
  rw[ho] at a
  dsimp only [Option.map_some,Option.isSome_some,if_true,ZqL] at a ⊢
  have c:f<d.files.length:=(q.o.dir.mayOf ho).2;obtain⟨m,-⟩:=(H.out.rest.file f c).box.cell 0 rfl;have t:=ZZ (H.out.rest.file f c).own.rd;have j:=ZZ (ZrX _ _ w t.o (by have:=z.o.bytes _ (ZbH c);omega))
  obtain⟨A,D,g⟩:=(H.out.rest.file f c).own.shape;rw[g] at m j;clear ho c g y k
  go_enter func75,ntmps75
  go_wp2_with fail
  refine a.o.mono ?_;rintro e w' ⟨rfl,rfl⟩
  go_wp2_with fail
  refine j.o.mono ?_;rintro e B ⟨C,rfl,u,x⟩;go_wp2;go_ret2;exact⟨_,rfl,u,x⟩
theorem ZqM (n:Int) (M:I64 n) (w:World) (h:Dsk F w p d N T):
 Calls prog 59 #[ptr p,.int .i64 n] w fun e w'=>Zgk F w p (X3 d n).1 (X3 d n).2 (N+2) T e w':=by
 have J:=ZZ h;obtain⟨L,h,O,G,Q,P⟩:=h;have c:=ZZ (ZgT n M w h);have H:=ZZ h;have m:=ZZ O;have t:=ZZ G;have y:=ZZ (And.intro Q P);clear h O G Q P;unfold X3;by_cases j:d.power=0
 ·rw[if_pos j]
  rw[if_pos j,if_pos j] at c;clear j
  go_enter func59,ntmps59
  go_wp2_with fail
  refine c.o.mono ?_;rintro e w' ⟨rfl,rfl⟩;go_wp2;go_ret;exact Zgk.same J.o (by omega) zL
 rw[if_neg j];rw[if_neg j,if_neg j] at c;clear j
 cases ho:look (Qm d) n with
 | none=>
  rw[ho] at c
  dsimp only [Option.map_none,Option.isSome_none,Bool.false_eq_true,if_false,ZqL] at c ⊢
  clear ho
  go_enter func59,ntmps59
  go_wp2_with fail
  refine c.o.mono ?_;rintro e w' ⟨rfl,rfl⟩;go_wp2;go_ret;exact Zgk.same J.o (by omega) zL
 | some f=>
  rw[ho] at c
  dsimp only [Option.map_some,Option.isSome_some,if_true,ZqL] at c ⊢
  have I:=ZZ ho;have a:f<d.files.length:=(m.o.dir.mayOf ho).2;have q:=ZZ (H.out.rest.file f a);obtain⟨C,-⟩:=(H.out.rest.file f a).box.cell 0 rfl;obtain⟨R,V⟩:=(H.out.rest.file f a).box.cell 1 rfl
  have B:Hid (Xd F (w.setCell ⟨L.ps f,1,none⟩ (.int .i64 ((fl d.files f).b.length:Int))) p { L with vs:=fun i=>if i=f then L.vs f else L.vs i } { d with files:=Gd d.files f } (Jb d) N):=ZZ (H.out.setFile (F':=F) (v':=L.vs f) (x':=⟨(fl d.files f).b,(fl d.files f).b.length⟩) a (fun k _ X _=>Below.heap_setCell _ _ _ _ X) ⟨q.o.box.set 1 _,Qh q.o.own fun g A=>Below.heap_setCell _ _ _ _ (by
   obtain⟨Z,S⟩:=Dc q.o.own A
   exact S.ne q.o.box (by decide))⟩ (.inl rfl) (fun _ l=>l) (fun g A=>H.out.rest.fv f a g A) (fun k l=>by simpa using H.out.lt k l))
  have D:Hid (Ql F w (w.setCell ⟨L.ps f,1,none⟩ (.int .i64 ((fl d.files f).b.length:Int)))):=ZZ ((Ql.refl _ _).setCell 1 (fun _=>H.out.rest.fp f a) _)
  obtain⟨Y,vc,E⟩:=q.o.own.shape;rw[E] at C;obtain⟨v,z⟩:∃ v,v=w.setCell ⟨L.ps f,1,none⟩ (.int .i64 ((fl d.files f).b.length:Int)):=⟨_,rfl⟩;rw[<-z] at B D;have K:=ZZ z;clear ho a E M z
  go_enter func59,ntmps59
  go_wp2_with fail
  refine c.o.mono ?_;rintro e w' ⟨rfl,rfl⟩
  go_upto_region 5 with fail
  rw[<-K.o];clear K C R V
  go_wp2_with fail
  refine(Zcc v B.o y.o.2).mono ?_;rintro e W5 ⟨rfl,W,U⟩;go_wp2;go_ret;refine⟨rfl,F,⟨{ L with vs:=fun i=>if i=f then L.vs f else L.vs i },?_,?_,⟨?_,?_,?_⟩,y.o.1,Zdf y.o.2⟩,D.o.trans U (fun _ _ a=>a),fun _ l=>.inl l⟩
  ·rw[ZrU m.o I.o]
   exact W.mono (by omega)
  ·exact m.o.bytes (by simp[Gd]) (ZgR m.o.keep _ zL)
  ·have:=t.o.files
   show(Gd d.files f).length<=_;simp[Gd];omega
  ·have:=t.o.names
   show d.kept.length+d.waits.length<=_;omega
  ·intro x u
   rcases List.mem_or_eq_of_mem_set u with u | rfl
   ·exact t.o.bytes x u
   ·have:=t.o.bytes _ (ZbH (m.o.dir.mayOf I.o).2)
    exact this
theorem ZqN {U:Int} (n:Int) (q:I64 n) (w:World) (h:Xd F w p L d U N) (j:OkD d) (i:Bnd d N T) (B:T<=1000000000) (y:0<=U∧U<=1000000000000000):
 Calls prog 104 #[ptr p,.int .i64 n] w fun e w'=>e=.returned (.tuple #[])∧Xd F w' p L d (U-(ZrS d.files (look (Qm d) n):Int)) N∧Ql F w w':=by
 have H:=ZZ h;obtain⟨⟨-,x,z,-,-,-⟩,A,-⟩:=h.cells;have a:=h.rest.now.look q
 cases ho:look (Qm d) n with
 | none=>
  rw[ho] at a;have u:(Instr.lookup 65 (.map (some L.now)) (.int .i64 n) true).run prog w=.ok (.tuple #[.pointer none,.bool false]) w:=a;clear a ho h j i
  go_enter func104,ntmps104
  go_wp2;go_end0;exact⟨rfl,by simpa[ZrS] using H.out,Ql.refl _ _⟩
 | some f=>
  rw[ho] at a;have u:(Instr.lookup 65 (.map (some L.now)) (.int .i64 n) true).run prog w=.ok (.tuple #[.pointer (some ⟨L.ps f,0,none⟩),.bool true]) w:=a;have c:f<d.files.length:=(j.dir.mayOf ho).2;obtain⟨l,-⟩:=(h.rest.file f c).box.cell 0 rfl;obtain⟨v,C,k⟩:=(h.rest.file f c).own.shape;rw[k] at l;have t:=i.bytes _ (ZbH c);obtain⟨m,g⟩:∃ m,m=(fl d.files f).b.length:=⟨_,rfl⟩;have e:ZrS d.files (some f)=m:=g.symm;rw[e];rw[<-g] at l t;clear a ho h j i c k g e q
  go_enter func104,ntmps104
  go_upto_region 2 with fail
  go_region
  go_end0;exact⟨rfl,(H.out.setHead 1 (.int .i64 (U-(m:Int))) ⟨rfl,rfl,rfl⟩ rfl).keep (fun _ _=>rfl) zL,((Ql.refl _ _).setCell 1 (fun _=>H.out.fh) _).drewN 1⟩
theorem Bnd.waited (h:Bnd d N T) (c:Ch) (q:Int):Bnd { d with waits:=d.waits++[c],power:=q } (N+1) T:=
 ⟨by have:=h.files;show d.files.length<=_;omega,by have:=h.names;show d.kept.length+(d.waits++[c]).length<=_;simp;omega,h.bytes⟩
theorem Xd.drewN (h:Xd F w p L d u N) (q:Nat):Xd F (w.drewN q) p L d u N:=h.keep (fun _ _=>rfl) zL
theorem Zkk (n:Int) (y:I64 n) (w:World) (h:Dsk F w p d N T) (J:N<=1000000) (K:T<=1000000000):
 Calls prog 69 #[ptr p,.int .i64 n] w fun e w'=>Zgk F w p (Qj d n).1 (Qj d n).2 (N+2) T e w':=by
 have I:=ZZ h;obtain⟨L,h,t,m,R,Q⟩:=h;have c:=ZZ (ZgT n y w h);have H:=ZZ h;have l:=ZZ t;have M:=ZZ m;have x:=ZZ (And.intro R Q);have V:=ZoZ t m J K;have O:=ZZ (ZqN n y w h t m K (by omega))
 clear h t m R Q V;unfold Qj;by_cases i:d.power=0
 ·rw[if_pos i]
  rw[if_pos i,if_pos i] at c;clear i
  go_enter func69,ntmps69
  go_wp2_with fail
  refine c.o.mono ?_;rintro e w' ⟨rfl,rfl⟩;go_wp2;go_ret;exact Zgk.same I.o (by omega) zL
 rw[if_neg i];rw[if_neg i,if_neg i] at c;clear i
 cases ho:look (Qm d) n with
 | none=>
  rw[ho] at c
  dsimp only [Option.map_none,Option.isSome_none,Bool.false_eq_true,if_false,ZqL] at c ⊢
  clear ho
  go_enter func69,ntmps69
  go_wp2_with fail
  refine c.o.mono ?_;rintro e w' ⟨rfl,rfl⟩;go_wp2;go_ret;exact Zgk.same I.o (by omega) zL
 | some f=>
  rw[ho] at c O
  dsimp only [Option.map_some,Option.isSome_some,if_true,ZqL] at c ⊢
  have E:=ZZ ho;have X:=ZZ (l.o.dir.mayOf ho);clear ho y
  go_enter func69,ntmps69
  go_wp2_with fail
  refine c.o.mono ?_;rintro e w' ⟨rfl,rfl⟩
  go_wp2_with fail
  refine O.o.mono ?_;rintro e a ⟨rfl,P,C⟩;have U:=ZZ P;have j:=ZZ C;clear P C
  go_wp2_with fail
  refine(ZwW n a).mono ?_;rintro e g ⟨rfl,q⟩;have u:Below a.heap.size a g:=by rw[q];exact(Below.refl _ _).alloc zL _
  have ad:g.heap.size=a.heap.size+1:=by rw[q];simp
  have S:Bk 3 g a.heap.size #[.int .i64 n]:=by rw[q];exact heap_alloc_new a _
  have aa:=ZZ (U.o.more u);have Y:Hid (ChV (Gr F a g) g L.ps (.take n) (.func (.func 157) #[] #[ptr a.heap.size])):=ZZ ⟨_,rfl,S,.inr ⟨Nat.le_refl _,by omega⟩⟩
  have v:Hid (Ql F w' g):=ZZ (j.o.trans (G:=fun _=>False) (Ql.ofBelow u) (fun _ _ hf=>hf.elim))
  have A:=ZZ (ZhP g aa.o Y.o l.o X.o.1 J (by have:=M.o.names;omega))
  clear u ad S q
  go_wp2_with fail
  refine A.o.mono ?_;rintro e z ⟨rfl,L3,D,-,-,B⟩
  have ac:Hid (Ql F w' z):=ZZ (v.o.trans B (fun k hk hf=>by
   rcases hf with hf | hf
   ·exact hf
   ·have:=j.o.size;omega))
  have ab:=ZZ D;clear D B A
  go_wp2_with fail
  refine(Zcc z ab.o x.o.2).mono ?_;rintro e W4 ⟨rfl,Z,W⟩;go_wp2;go_ret;refine⟨rfl,Gr (Gr F a g) g z,⟨L3,?_,?_,(M.o.waited (.take n) _).mono (by omega) zL,x.o.1,Zdf x.o.2⟩,ac.o.trans W (fun k hk hf=>?_),fun k hk=>?_⟩
  ·have hu:=ZrW l.o E.o (Y5 d.power)
   have e1:(Jb { d with waits:=d.waits++[.take n],power:=Y5 d.power }:Int)=(Jb d:Int)-(ZrS d.files (some f):Int):=by
    show _=(Jb d:Int)-((fl d.files f).b.length:Int);omega
   rw[e1];exact Z.mono (by omega)
  ·exact l.o.taken E.o _
  ·rcases hf with (hf | hf) | hf
   ·exact hf
   ·have:=j.o.size;omega
   ·have:=v.o.size;omega
  ·rcases hk with (hk | hk) | hk
   ·exact .inl hk
   ·have:=j.o.size;exact .inr (by omega)
   ·have:=v.o.size;exact .inr (by omega)
theorem ZrY (w:World) (a b c:Obj):(((w.alloc a).alloc b).alloc c).heap[w.heap.size]?=some a∧(((w.alloc a).alloc b).alloc c).heap[w.heap.size+1]?=some b∧(((w.alloc a).alloc b).alloc c).heap[w.heap.size+1+1]?=some c:=by
 have e:(w.alloc a).heap.size=w.heap.size+1:=by simp
 have d:((w.alloc a).alloc b).heap.size=w.heap.size+1+1:=by simp
 refine⟨?_,?_,?_⟩
 ·rw[Below.heap_alloc _ _ _ (by omega),Below.heap_alloc _ _ _ (by omega)]
  exact heap_alloc_new w a
 ·rw[Below.heap_alloc _ _ _ (by omega),<-e]
  exact heap_alloc_new _ b
 ·rw[<-d]
  exact heap_alloc_new _ c
theorem ZrZ (n m:Int) (Z:I64 n) (R:I64 m) (w:World) (h:Dsk F w p d N T) (X:N<=1000000) (Y:T<=1000000000):
 Calls prog 61 #[ptr p,.int .i64 n,.int .i64 m] w fun e w'=>Zgk F w p (Ji d n m).1 (Ji d n m).2 (N+2) T e w':=by
 have I:=ZZ h;obtain⟨L,h,y,v,ac,ab⟩:=h;have a:=ZZ (ZgT n Z w h);have H:=ZZ h;have l:=ZZ y;have q:=ZZ v;have j:=ZZ (And.intro ac ab);have ae:=ZoZ y v X Y;have ak:=ZZ (ZqN m R w h y v Y (by omega))
 clear h y v ac ab ae;unfold Ji;by_cases g:d.power=0
 ·rw[if_pos g]
  rw[if_pos g,if_pos g] at a;clear g
  go_enter func61,ntmps61
  go_wp2_with fail
  refine a.o.mono ?_;rintro e w' ⟨rfl,rfl⟩;go_wp2;go_ret;exact Zgk.same I.o (by omega) zL
 rw[if_neg g];rw[if_neg g,if_neg g] at a;clear g
 cases ho:look (Qm d) n with
 | none=>
  rw[ho] at a
  dsimp only [Option.map_none,Option.isSome_none,Bool.false_eq_true,if_false,ZqL] at a ⊢
  clear ho
  go_enter func61,ntmps61
  go_wp2_with fail
  refine a.o.mono ?_;rintro e w' ⟨rfl,rfl⟩;go_wp2;go_ret;exact Zgk.same I.o (by omega) zL
 | some f=>
  rw[ho] at a
  dsimp only [Option.map_some,Option.isSome_some,if_true,ZqL] at a ⊢
  have W:=ZZ ho;have V:=ZZ (l.o.dir.mayOf ho);have t:=ZZ (ZmS m w);clear ho Z R
  cases hmn:ZdE m with
  | false=>
   rw[if_pos rfl];rw[hmn] at t;clear hmn
   go_enter func61,ntmps61
   go_wp2_with fail
   refine a.o.mono ?_;rintro e w' ⟨rfl,rfl⟩
   go_wp2_with fail
   refine t.o.mono ?_;rintro e w' ⟨rfl,rfl⟩;go_wp2;go_ret;exact Zgk.same I.o (by omega) zL
  | true=>
  rw[if_neg (by simp)]
  rw[hmn] at t;have P:=ZZ hmn;clear hmn;by_cases i:n=m
  ·rw[if_pos i]
   have aj:(n != m)=false:=by simpa using i
   clear i
   go_enter func61,ntmps61
   go_wp2_with fail
   refine a.o.mono ?_;rintro e w' ⟨rfl,rfl⟩
   go_wp2_with fail
   refine t.o.mono ?_;rintro e w' ⟨rfl,rfl⟩
   go_wp2_with fail
   refine(Zcc _ H.out j.o.2).mono ?_;rintro e W4 ⟨rfl,D,B⟩;go_wp2;go_ret;exact⟨rfl,F,⟨L,D.mono (by omega),l.o.power _,⟨by have:=q.o.files;show d.files.length<=_;omega,by have:=q.o.names;show d.kept.length+d.waits.length<=_;omega,q.o.bytes⟩,j.o.1,Zdf j.o.2⟩,B,fun _ hk=>.inl hk⟩
  rw[if_neg i];have aj:(n != m)=true:=by simpa using i
  have A:=ZZ i;clear i
  go_enter func61,ntmps61
  go_wp2_with fail
  refine a.o.mono ?_;rintro e w' ⟨rfl,rfl⟩
  go_wp2_with fail
  refine t.o.mono ?_;rintro e w' ⟨rfl,rfl⟩
  go_wp2_with fail
  refine ak.o.mono ?_;rintro e b ⟨rfl,aa,S⟩;have ad:=ZZ aa;have u:=ZZ S;clear aa S
  go_wp2_with fail
  refine(Zuq n m (L.ps f) b).mono ?_;rintro e c ⟨rfl,x⟩;have z:Below b.heap.size b c:=by rw[x];exact(((Below.refl _ _).alloc zL _).alloc (by simp) _).alloc (by simp;omega) _
  have al:c.heap.size=b.heap.size+1+1+1:=by rw[x];simp
  obtain⟨C,K,J⟩:=ZrY b (.cells #[.int .i64 n] 3) (.cells #[.int .i64 m] 3) (.cells #[ptr (L.ps f)] 115);rw[<-x] at C K J;have ag:=ZZ (ad.o.more z);have af:Hid (ChV (Gr F b c) c L.ps (.move n m f) (.func (.func 143) #[] #[ptr (b.heap.size+1+1),ptr (b.heap.size+1),ptr b.heap.size])):=ZZ ⟨_,_,_,rfl,C,K,J,.inr ⟨Nat.le_refl _,by omega⟩,.inr ⟨by omega,by omega⟩,.inr ⟨by omega,by omega⟩⟩
  have E:Hid (Ql F w' c):=ZZ (u.o.trans (G:=fun _=>False) (Ql.ofBelow z) (fun _ _ hf=>hf.elim))
  have O:=ZZ (ZhP c ag.o af.o l.o ⟨V.o.1,P.o,A.o,V.o.2⟩ X (by have:=q.o.names;omega))
  clear z al C K J x
  go_wp2_with fail
  refine O.o.mono ?_;rintro e M ⟨rfl,L3,U,-,-,Q⟩
  have ai:Hid (Ql F w' M):=ZZ (E.o.trans Q (fun k hk hf=>by
   rcases hf with hf | hf
   ·exact hf
   ·have:=u.o.size;omega))
  have ah:=ZZ U;clear U Q O
  go_wp2_with fail
  refine(Zcc M ah.o j.o.2).mono ?_;rintro e W4 ⟨rfl,D,B⟩;go_wp2;go_ret;refine⟨rfl,Gr (Gr F b c) c M,⟨L3,?_,?_,(q.o.waited (.move n m f) _).mono (by omega) zL,j.o.1,Zdf j.o.2⟩,ai.o.trans B (fun k hk hf=>?_),fun k hk=>?_⟩
  ·have hu:=ZrV l.o A.o W.o (Y5 d.power)
   have e1:(Jb { d with waits:=d.waits++[.move n m f],power:=Y5 d.power }:Int)=(Jb d:Int)-(ZrS d.files (look (Qm d) m):Int):=by omega
   rw[e1];exact D.mono (by omega)
  ·exact l.o.moved W.o P.o A.o _
  ·rcases hf with (hf | hf) | hf
   ·exact hf
   ·have:=u.o.size;omega
   ·have:=E.o.size;omega
  ·rcases hk with (hk | hk) | hk
   ·exact .inl hk
   ·have:=u.o.size;exact .inr (by omega)
   ·have:=E.o.size;exact .inr (by omega)
open Go.RowKit Go.ChangeShapes
theorem ZhT:prog.cellsOf 3=1:=by kernel_rfl
theorem Zsa:prog.cellsOf 23=1:=by kernel_rfl
theorem Z1 {n:Int} (h:(Lit.int .i64 n).wf=true):I64 n:=by
 simpa[I64,Lit.wf,IntKind.min,IntKind.max,IntKind.signed,IntKind.bits] using h
section
variable {H:Type} {enc:TypeId × Value->H} {w:World} {base fuel:Nat} {held:Bool}
theorem ZqO {cs:List Value} {x:DataW H × List MemPlace} (h:DataW.trod enc prog w base (fun _=>true) held fuel 23 cs=some x):∃ v l,cs=[v]∧RdI w v l:=by
 rcases open_ints underlying23 underlying3 (by kernel_rfl) h with ⟨a,_⟩ | ⟨y,l,c,i,a,_,d,g,f,_,e,b⟩
 ·exact⟨_,[],a,RdI.nil _⟩
 ·exact⟨_,_,a,RdI.ofRow d g (by simpa using f) e b⟩
end
open Go.RowKit Go.Maps Go.Shelf
theorem Zuu (w:World) (h:Qs w B v l) (u:l.length<=10000000):
 Calls prog 67 #[v] w fun e w'=>e=.returned (.tuple #[])∧Qs w' B v (l.mergeSort fun x y=>decide (x<=y))∧w.grownBy w' v.ownBlock:=by
 have f:=h;have d:w.grownBy w v.ownBlock:=⟨rfl,rfl,rfl,Nat.le_refl _,fun _ _ _=>rfl⟩
 rcases h.2 with ⟨rfl,q⟩ | ⟨g,cap,cur,rfl,m,b,k,j,p,c⟩
 ·have e:l=[]:=List.eq_nil_of_length_eq_zero q
  subst e;have a:=Any.slices_Sort_int_none ZAj none 0 w;refine a.mono ?_;rintro e w' ⟨rfl,rfl⟩;exact⟨rfl,by simpa using f,d⟩
 ·by_cases e:l=[]
  ·subst e
   have a:=Any.slices_Sort_int_none ZAj (some ⟨g,0,none⟩) cap w;refine a.mono ?_;rintro e w' ⟨rfl,rfl⟩;exact⟨rfl,by simpa using f,d⟩
  ·have i:Sort.Holds (Value.int .i64) w g 0 l.toArray:=holds_of_blockI b (by rw[Nat.mul_one] at c;exact c)
   have a:=Any.slices_Sort_int ZAj g 0 cap l w i (Array.getElem?_eq_some_iff.1 b).1 (by omega)
   refine a.mono ?_;rintro e w' ⟨rfl,n,os,rfl⟩;refine⟨rfl,?_,grownBy_sortedI _⟩;have t:=ownsRow_sortedI (n:=n) (os:=os) (ss:=l) (ts:=l.mergeSort fun x y=>decide (x<=y)) (by simp) m b k j p
   unfold Qs;rw[show(l.mergeSort fun x y=>decide (x<=y)).length=l.length by simp]
   exact t
structure Met (f:Int->Option Nat) (left:Lit->Bool) (l:List Int):Prop where
 mem:∀ p,I64 p->(p ∈ l↔(f p).isSome=true∧left (.int .i64 p)=false)
 nd:l.Nodup
 i:∀ p ∈ l,I64 p
theorem Met.step {left:Lit->Bool} (h:Met f left l) {x:Int} (d:I64 x) (j:left (.int .i64 x)=true) (g:(f x).isSome=true):Met f (fun z=>left z && !z.sameKey (.int .i64 x)) (l++[x]):=by
 refine⟨fun p hp=>?_,?_,fun p hp=>?_⟩
 ·rw[List.mem_append,h.mem p hp,List.mem_singleton]
  by_cases e:p=x
  ·subst e
   have c:(Lit.int .i64 p).sameKey (.int .i64 p)=true:=WideAt.sameKey_self (by first | exact trivial | simp[WideAt.IsKeyLit])
   simp[c,g]
  ·have c:(Lit.int .i64 p).sameKey (.int .i64 x)=false:=sameKey_ne (by intro h;injection h with _ h;exact e h)
   simp[c,e]
 ·rw[List.nodup_append]
  refine⟨h.nd,by simp,fun a m b k=>?_⟩
  rw[List.mem_singleton.1 k];rintro rfl;have:=((h.mem a d).1 m).2;rw[j] at this
  cases this
 ·rcases List.mem_append.1 hp with hp | hp
  ·exact h.i p hp
  ·rw[List.mem_singleton.1 hp];exact d
theorem Met.done {left:Lit->Bool} (h:Met f left l) (u:∀ k,left k=false) {d:Dir} (j:Xa d) (w:∀ p ∈ d,I64 p.1) (m:∀ p,I64 p->(f p).isSome=(look d p).isSome):(l.mergeSort fun x y=>decide (x<=y))=d.map Prod.fst:=by
 have v:(l.mergeSort fun x y=>decide (x<=y)).Pairwise (fun a b=>decide (a<=b)=true):=List.pairwise_mergeSort (fun a b c e z=>by simp only [decide_eq_true_eq] at *;omega) (fun a b=>by simp only [Bool.or_eq_true,decide_eq_true_eq];omega) l
 have q:=List.mergeSort_perm l fun x y=>decide (x<=y)
 have A:(l.mergeSort fun x y=>decide (x<=y)).Nodup:=q.nodup_iff.2 h.nd
 refine Zgb ?_ (Zga j) fun x=>?_
 ·refine(v.and A).imp fun {a b} hab=>?_
  have e:=of_decide_eq_true hab.1;have z:=hab.2;omega
 ·rw[q.mem_iff,List.mem_map]
  constructor
  ·intro g
   have e:=((h.mem x (h.i x g)).1 g).1;rw[m x (h.i x g)] at e;obtain⟨y,t⟩:=Option.isSome_iff_exists.1 e;exact⟨(x,y),(Zb j x y).1 t,rfl⟩
  ·rintro⟨p,hpd,rfl⟩
   have n:=w p hpd;have e:look d p.1=some p.2:=(Zb j p.1 p.2).2 hpd;exact(h.mem p.1 n).2 ⟨by rw[m p.1 n,e];rfl,u _⟩
theorem ZhU {D:DataW Unit} (h:w.ownsMap prog 3 ZaF b n D):Maps.size D<=n:=by
 obtain⟨e,c,d,F,a,rfl⟩:=h;rw[size_eq,length_sorted];simpa using a
theorem Zpa {a:Nat} {D:DataW Unit} {left:Lit->Bool} (h:w.ranges prog 3 ZaF b r n D left a) (k:w'.heap[b]?=w.heap[b]?) (e:w'.heap[r]?=w.heap[r]?):w'.ranges prog 3 ZaF b r n D left a:=by
 obtain⟨j,g,m,d,c,p,F,f,l,i,rest⟩:=h;exact⟨j,g,m,d,c,k.trans p,F,f,l,e.trans i,rest⟩
theorem ZeC (w:World) (h:Xd F w p L d u N) (A:OkD d) (hN:N<=1000000):
 Calls prog 28 #[ptr p] w fun e w'=>∃ v,e=.returned v∧Qs w' w.heap.size v ((Qm d).map Prod.fst)∧Below w.heap.size w w':=by
 obtain⟨⟨-,-,c2,-,-,-⟩,-⟩:=h.cells;obtain⟨D,E,X⟩:=h.rest.now;have ad:=ZZ E;have P:Hid (Maps.size D<=N):=ZZ (ZhU E);have an:Hid (L.now<w.heap.size):=ZZ h.rest.now.lt;have S:Hid (∀ q,I64 q->Maps.has D (.int .i64 q)=(look (Qm d) q).isSome):=ZZ (fun q G=>by rw[X.has G];cases look (Qm d) q <;> rfl)
 have ah:Hid (∀ left l,Met (look (Qm d)) left l->(∀ k,left k=false)->(l.mergeSort fun x y=>decide (x<=y))=(Qm d).map Prod.fst):=ZZ (fun left l hm hl=>hm.done hl A.dir.rise (fun p hp=>Zcd (A.dir.may p hp).1) (fun _ _=>rfl))
 clear h E X A
 go_enter func28,ntmps28
 go_wp2_with(first
  | (at_range;refine wpList_range_own _ rfl _ 65 rfl 3 115 ZbC underlying65 ZaF L.now N D rfl ad.o ?_;intro w0 ar i av)
  | go_in)
 go_frame
 go_loopw[3] (fun v wr=>∃ (left:Lit->Bool) (B:Nat) (l:List Int),Hid (wr.ranges prog 3 ZaF L.now w.heap.size N D left B)∧B+l.length<=Maps.size D∧Hid (Qs wr (w.heap.size+1) v l)∧Hid (Met (look (Qm d)) left l)∧Hid (Below w.heap.size w wr∧w.heap.size+1<=wr.heap.size))
  (fun _ wr=>wr.rangeLeft L.now w.heap.size)
 case atStart=>
  refine⟨_,_,[],ZZ ar,by simp,ZZ (Qs.nil _ _),ZZ ⟨fun q G=>?_,List.nodup_nil,by simp⟩,ZZ ⟨⟨i.os,i.tape,i.output,i.size,fun k a=>i.block k a (by simp)⟩,by omega⟩⟩
  rw[S.o q G]
  cases look (Qm d) q <;> simp
 case round=>
  obtain⟨left,B,l,ab,aq,n,V,j⟩:=hrel
  go_wp2_with(first
   | (at_next;refine wpList_next_ranges _ rfl _ rfl 3 ZbC ZaF (Value.int .i64) (fun b:Nat=>ptr b) (fun key kl a=>by obtain⟨x,rfl,_⟩:=Maps.keyOf_int_inv underlying3 a;exact⟨x,rfl⟩) (fun v y z=>by obtain⟨c,rfl,_⟩:=ZdN z;exact⟨c,rfl⟩) L.now w.heap.size N _ _ _ rfl ab.o ?_ ?_)
   | go_in)
  ·intro aj Q
   have ai:=ZZ Q;have ao:l.length<=10000000:=by have:=P.o;omega
   have HS:=ZZ (Zuu _ n.o ao);clear aj Q
   go_wp2_with fail
   refine HS.o.mono ?_;rintro e W1 ⟨rfl,T,f⟩;have ap:Hid (Below w.heap.size w W1):=ZZ (j.o.1.grown f j.o.1.size (fun k a=>by have:=(World.ownsRow.lt n.o k a).1;omega))
   have t:=ZZ T;clear T f;go_wp2;go_ret;refine⟨_,rfl,?_,ap.o⟩;rw[<-ah.o _ _ V.o ai.o];exact t.o.mono (by omega)
  ·intro x c kl yd yp m W Z ac z aa I M f af au
   obtain⟨x',ex,rfl,O⟩:=Maps.keyOf_int_inv underlying3 Z
   cases ex
   have J:=ZZ (Z1 O);have HF:Hid ((look (Qm d) x).isSome=true):=ZZ (by rw[<-S.o x J.o];exact has_true_of_atKey aa)
   have al:=ZZ (V.o.step J.o ac HF.o);have ag:=ZZ I;have t:Hid (Qs m (w.heap.size+1) _ l):=ZZ (World.ownsRow.kept n.o f (.inr (fun e=>by have:=(World.ownsRow.lt n.o _ e).1;omega)))
   have C:Hid (Below w.heap.size w m∧w.heap.size+1<=m.heap.size):=ZZ ⟨j.o.1.grown f j.o.1.size (fun k a=>by have:=Option.some.inj a;omega),by have:=j.o.2;omega⟩
   have ak:=ZZ M
   have R:l.length<=1000000∧W+(l++[x]).length<=Maps.size D:=by
    have:=P.o;simp only [List.length_append,List.length_singleton];omega
   have K:=ZZ R;clear Z ac z aa I M f af O R aq
   go_wp2_with(at_builtin;refine(fun(h:True->_)=>h trivial) ?_)
   intro _;refine Zfp m rfl _ _ rfl (w.heap.size+1) u3 l rfl t.o x rfl K.o.1 C.o.2 ?_;intro v2 U Y g;have am:=ZZ Y;have H:=ZZ (Zpa ag.o (g.block _ (by have:=an.o;omega)) (g.block _ (by omega)))
   have ae:Hid (Below w.heap.size w U∧w.heap.size+1<=U.heap.size):=ZZ ⟨C.o.1.trans (g.mono (by omega)),by have:=C.o.2;have:=g.size;omega⟩
   clear Y g;go_wp2;go_roundw
   case rel=>exact⟨_,W,l++[x],H,K.o.2,am,al,ae⟩
   case measure=>rw[H.o.left_eq,ab.o.left_eq];exact ak.o
theorem Xd.synced {b:World} (h:Xd F w p L d u N) (t:Below w.heap.size w b) (y:b.heap.size=w.heap.size+1) (m:Yj b w.heap.size N (fun n=>(look (Qm d) n).map L.ps)):
 Xd (Gr F w b) ((b.setCell ⟨p,3,none⟩ (.map (some w.heap.size))).setCell ⟨p,4,none⟩ (.slice none 0 0)) p { L with kept:=w.heap.size,wv:=.slice none 0 0,cs:=[] } { d with kept:=Qm d,waits:=[] } u N:=by
 have e:=h.more t;have x:=e.rest
 have f:∀ k,k≠p->((b.setCell ⟨p,3,none⟩ (.map (some w.heap.size))).setCell ⟨p,4,none⟩ (.slice none 0 0)).heap[k]?=b.heap[k]?:=fun k j=>by
  rw[Below.heap_setCell _ _ _ _ j,Below.heap_setCell _ _ _ _ j]
 have a:=x.keep e.head (fun k _ j=>f k j)
 refine⟨(e.head.set 3 _).set 4 _,⟨a.now,m.keep (f _ (by have:=h.lt p h.fh;show w.heap.size≠p;omega)),World.ownsRow_nil _ _ _ _,rfl,(fun i c v l=>by simp at l),a.file,a.psn,a.vsn,?_,a.fn,.inr ⟨Nat.le_refl _,by show w.heap.size<_;omega⟩,(fun g q=>by cases q),a.fp,a.fv⟩,e.fh,fun k f=>?_⟩
 ·have:=h.rest.now.lt
  show L.now≠w.heap.size;omega
 ·have:=e.lt k f
  simpa using this
theorem Zpb (w:World) (h:Dsk F w p d N T):
 Calls prog 107 #[ptr p] w fun e w'=>Zgk F w p (Qn d).1 (Qn d).2 (N+2) T e w':=by
 have P:=ZZ h;obtain⟨L,h,C,x,E,D⟩:=h;have H:=ZZ h;have u:=ZZ C;have l:=ZZ x;have i:=ZZ (And.intro E D);have c:=ZZ (ZmR w h);obtain⟨⟨-,-,K,Q,G,-⟩,-,R,W,-⟩:=h.cells;have S:=ZZ (ZrR h.rest.now);clear C x E D;unfold Qn;by_cases a:d.power=0
 ·rw[if_pos a]
  rw[a] at c;clear a h
  go_enter func107,ntmps107
  go_wp2_with fail
  refine c.o.mono ?_;rintro e w' ⟨rfl,rfl⟩;go_wp2;go_ret;exact Zgk.same P.o (by omega) zL
 rw[if_neg a];have y:(d.power != 0)=true:=by simpa using a
 rw[y] at c;clear a y h
 go_enter func107,ntmps107
 go_wp2_with fail
 refine c.o.mono ?_;rintro e w' ⟨rfl,rfl⟩
 go_wp2_with fail
 refine S.o.mono ?_;rintro e t ⟨rfl,A,f,b⟩;have m:=ZZ (H.out.synced b f A);have B:=ZZ (H.out.more b);have aa:=ZZ b;obtain⟨⟨-,-,-,U,v,-⟩,-,V,I,-⟩:=B.o.cells;obtain⟨X,vn,Z,n⟩:=Zez B.o.rest.row;rw[n] at v;have q:Hid (Ql F w' ((t.setCell ⟨p,3,none⟩ (.map (some w'.heap.size))).setCell ⟨p,4,none⟩ (.slice none 0 0))):=ZZ (((Ql.ofBelow b).setCell 3 (fun _=>H.out.fh) _).setCell 4 (fun _=>H.out.fh) _)
 obtain⟨j,g⟩:∃ j,j=(t.setCell ⟨p,3,none⟩ (.map (some w'.heap.size))).setCell ⟨p,4,none⟩ (.slice none 0 0):=⟨_,rfl⟩;rw[<-g] at m q;have z:=ZZ g;have Y:=ZZ f;clear K Q G R W A f b n g
 go_upto_region 5 with fail
 rw[<-z.o];clear z U v V I
 go_wp2_with fail
 refine(Zcc j m.o i.o.2).mono ?_;rintro e W4 ⟨rfl,M,J⟩;go_wp2;go_ret;refine⟨rfl,_,⟨_,M.mono (by omega),ZgQ (fs:=d.files) u.o.dir u.o.keep,⟨by have:=l.o.files;show d.files.length<=_;omega,?_,l.o.bytes⟩,i.o.1,Zdf i.o.2⟩,q.o.trans J (fun k hk hf=>?_),fun k hk=>?_⟩
 ·have h1:=l.o.names
  have O:=Zbt d d.waits.length;rw[Zdc] at O;show(Qm d).length+0<=_;omega
 ·rcases hf with hf | hf
  ·exact hf
  ·omega
 ·rcases hk with hk | hk
  ·exact .inl hk
  ·exact .inr hk.1
open Go.RowKit Go.Maps
open Go.ChangeMaps Go.MapKept
open Go.WideElems (Fit rd rg pl rd_val elemAt)
theorem Znb:∀ {a b:List Int},a.Nodup->(∀ x ∈ a,x ∈ b)->a.length<=b.length
 | [],_,_,_=>Nat.zero_le _
 | x::a,b,hn,hs=>by
  rw[List.nodup_cons] at hn;have c:=hs x (List.mem_cons_self ..);have f:=Znb (a:=a) (b:=b.erase x) hn.2 fun y d=>(List.mem_erase_of_ne (by rintro rfl;exact hn.1 d)).2 (hs y (List.mem_cons_of_mem _ d))
  have e:=List.length_erase_of_mem c;have g:=List.length_pos_of_mem c;rw[List.length_cons];omega
def toI:Value->Int
 | .int _ x=>x
 | _=>0
theorem Yj.tight (h:Yj w b n f) {l:List Int} (A:∀ p,I64 p->(f p).isSome=true->p ∈ l):Yj w b l.length f:=by
 obtain⟨D,⟨g,t,v,F,O,rfl⟩,u⟩:=h
 have m:∀ e ∈ g.toList,∃ x,e.key=.int .i64 x∧I64 x:=fun e j=>by
  obtain⟨y,i⟩:=F.reads e j;obtain⟨x,d,_,B⟩:=Maps.keyOf_int_inv underlying3 (WideElems.rd_key i);exact⟨x,d,Z1 B⟩
 refine⟨_,⟨g,t,v,F,?_,rfl⟩,u⟩
 have I:(g.toList.map fun e=>toI e.key).Nodup:=by
  have J:=((stamped_iff g t).1 F.stamped).2.2;rw[List.Nodup,List.pairwise_map];refine List.Pairwise.imp_of_mem ?_ J;intro a c K N G e;obtain⟨x,d,_⟩:=m a K;obtain⟨y,i,_⟩:=m c N;rw[d,i] at e;have:x=y:=e;exact G (by rw[d,i,this])
 have H:∀ x ∈ (g.toList.map fun e=>toI e.key),x ∈ l:=fun x d=>by
  obtain⟨e,j,rfl⟩:=List.mem_map.1 d;obtain⟨x,d,k⟩:=m e j;rw[d];refine A x k ?_;rcases Maps.fit_look false ZbC underlying65 (Zun w) v F (keyOf_int_mk underlying3 (ZwR k)) with ⟨_,E,_⟩ | ⟨P,y,_,_,_,M,C,_⟩
  ·exact absurd d (E e j)
  ·cases ef:f x with
   | some _=>rfl
   | none=>
    obtain⟨L,_,rfl⟩:=ZdN M;refine(Zup (x:=L) fun z=>?_).elim
    have q:=C z;rw[u x k z,ef] at q;exact q.symm
 have:=Znb I H;simpa using this
theorem Zuv {s:Nat} {t:TypeId} {xs:List Value} (h:w.ownsRow 0 t s v n xs):∃ ao cap,v=.slice ao n cap∧n<=cap∧((ao=none∧cap=0)∨∃ g,ao=some ⟨g,0,none⟩):=by
 rcases h.2 with ⟨a,b⟩ | ⟨g,cap,cur,a,_,_,c,_⟩
 ·exact⟨none,0,by rw[a,b],by omega,.inl ⟨rfl,rfl⟩⟩
 ·exact⟨some ⟨g,0,none⟩,cap,a,c,.inr ⟨g,rfl⟩⟩
theorem _root_.Go.World.grownBy.trans2 {a b c:World} (h:a.grownBy b (some r)) (k:b.grownBy c (some r)):a.grownBy c (some r):=ZhO h k
theorem Xd.lost {l:Dir} (h:Xd F w p L d u N) (B:w.heap.size<=w'.heap.size)
 (m:∀ k,F k->k≠p->k≠L.now->k≠L.kept->w'.heap[k]?=w.heap[k]?) (q:Bk 69 w' p (ZfD { L with wv:=.slice none 0 0,cs:=[] } d u))
 (A:Yj w' L.now N (fun n=>(look l n).map L.ps)) (z:Yj w' L.kept N (fun n=>(look l n).map L.ps)):
 Xd F w' p { L with wv:=.slice none 0 0,cs:=[] } { d with kept:=l,waits:=[] } u N:=by
 have a:=h.rest;have e:∀ {t:TypeId} {k:Nat} {cs:Array Value},Bk t w k cs->F k->t≠69->w'.heap[k]?=w.heap[k]?:=fun e j y=>m _ j (e.ne h.head y) (e.neMap a.now) (e.neMap a.kept)
 refine⟨q,⟨A,z,World.ownsRow_nil _ _ _ _,rfl,(fun i c v b=>by simp at b),fun i b=>?_,a.psn,a.vsn,a.nk,a.fn,a.fk,(fun g f=>by cases f),a.fp,a.fv⟩,h.fh,fun k j=>by have:=h.lt k j;omega⟩
 refine(a.file i b).keep (e (a.file i b).box (a.fp i b) (by decide)) fun g f=>?_
 obtain⟨C,x⟩:=Dc (a.file i b).own f;exact e x (a.fv i b g f) (by decide)
theorem ZhV (names:Int) (w:World) (h:Xd F w p L d u N) (ah:OkD d) (ae:Bnd d N T) (hN:N<=1000000):
 Calls prog 31 #[ptr p,.int .i64 names] w fun e w'=>e=.returned (.tuple #[])∧Xd F w' p { L with wv:=.slice none 0 0,cs:=[] } { d with kept:=Ym d (Z4 names d.waits.length),waits:=[] } u N∧Ql F w w':=by
 have H:=ZZ h;have ay:=ZZ ah;have aL:=ZZ ae;have hW:d.waits.length<=N:=by have:=ae.names;omega
 obtain⟨K,hK⟩:∃ K,K=Z4 names d.waits.length:=⟨_,rfl⟩;have aV:K<=d.waits.length:=by rw[hK];exact Zcy _ _
 rw[<-hK];have aC:Hid (∀ q,Calls prog 72 #[.int .i64 names,.int .i64 (d.waits.length:Int)] (w.drewN q) fun e w'=>e=.returned (.int .i64 (K:Int))∧w'=w.drewN q):=ZZ (fun q=>by rw[hK];exact ZmT names d.waits.length (by omega) (w.drewN q))
 obtain⟨⟨-,-,-,c3,c4,-⟩,-,-,f4,-⟩:=h.cells;obtain⟨ao,cap,Q,aO,ac⟩:=Zuv h.rest.row;rw[h.rest.many] at Q aO;rw[Q] at c4;have aX:=ZZ Q
 have az:Hid (∀ k,k<K->∃ g c x,ao=some ⟨g,0,none⟩∧d.waits[k]?=some c∧ChV F w L.ps c x∧w.cell? ⟨g,k,none⟩=some x∧ZtN d.files.length c∧Ym d (k+1)=chD (Ym d k) c∧g≠L.kept):=ZZ (fun k hk=>by
  have U:k<d.waits.length:=by omega
  have ap:k<L.cs.length:=by rw[h.rest.many];exact U
  rcases ac with ⟨_,a1⟩ | ⟨g,rfl⟩
  ·omega
  ·have au:L.wv.ownBlock=some g:=by rw[Q];rfl
   refine⟨g,d.waits[k],L.cs[k],rfl,List.getElem?_eq_getElem U,h.rest.wait k _ _ (List.getElem?_eq_getElem U) (List.getElem?_eq_getElem ap),?_,ah.chs _ (List.getElem_mem U),ZtT d U,?_⟩
   ·have:=World.ownsRow.cells h.rest.row au k _ (List.getElem?_eq_getElem ap)
    rw[Addr.add_lit,Nat.zero_add] at this;exact this
   ·obtain⟨aY,aR⟩:=Dc h.rest.row au
    exact aR.neMap h.rest.kept)
 clear ah ae Q ac hK h
 go_enter func31,ntmps31
 go_wp2;refine wp_region_quiet_lit (by kernel_rfl) (by kernel_rfl) ?_
 repeat (go_big_quiet_step ((go_at_call 72;exact Calls.quiet_of_same (aC.o _))))
 refine wpQuiet_nil ?_;rintro _ ⟨nq,rfl⟩;have a:Hid (Xd F (w.drewN nq) p L d u N):=ZZ (H.out.drewN nq)
 have ai:Hid (∀ k,k<K->∃ g c x,ao=some ⟨g,0,none⟩∧d.waits[k]?=some c∧ChV F (w.drewN nq) L.ps c x∧(w.drewN nq).cell? ⟨g,k,none⟩=some x∧ZtN d.files.length c∧Ym d (k+1)=chD (Ym d k) c∧g≠L.kept):=ZZ (fun k hk=>by
  obtain⟨g,c,x,t,v,E,h4,h5,h6⟩:=az.o k hk
  exact⟨g,c,x,t,v,E.keep (fun _ i=>i) (fun _ _=>rfl) (fun _ _ _ _=>rfl),h4,h5,h6⟩)
 have aF:Hid (Ql F w (w.drewN nq)):=ZZ ((Ql.refl _ _).drewN nq);obtain⟨W,al⟩:∃ W,W=w.drewN nq:=⟨_,rfl⟩;rw[<-al] at a ai aF ⊢;clear al aC az c3 c4 f4 H;go_wp2
 go_loopw[19] (fun vi wr=>∃ k:Nat,vi=.int .i64 (k:Int)∧k<=K∧Hid (Yj wr L.kept (N+k) (fun n=>(look (Ym d k) n).map L.ps))∧Hid (W.grownBy wr (some L.kept))) (fun vi _=>K-(intOf vi).toNat)
 case atStart=>exact⟨0,rfl,Nat.zero_le _,ZZ (by rw[Zei];exact a.o.rest.kept),ZZ ⟨rfl,rfl,rfl,Nat.le_refl _,fun _ _ _=>rfl⟩⟩
 case round=>
  obtain⟨k,rfl,aZ,Y,y⟩:=hrel;have ad:=ZZ (a.o.head.keep (y.o.block p a.o.head.lt (fun e=>(a.o.head.neMap a.o.rest.kept) (Option.some.inj e))))
  by_cases aI:k<K
  ·obtain⟨g,c,x,ac,hc,V,M,J,aD,aA⟩:=ai.o k aI
   have af:Hid (∀ n',look (Ym d (k+1)) n'=chF (look (Ym d k)) c n'):=ZZ (fun n'=>by rw[aD];exact Zdb (ay.o.dirs k).rise c (ZmY J) n')
   have V:ChV F wr L.ps c x:=V.keep (fun _ i=>i) (fun _ _=>rfl) (fun j cs i hb=>y.o.block j (a.o.lt j i) (fun e=>by
    rcases hb with hb | hb <;> exact(hb.neMap a.o.rest.kept) (Option.some.inj e)))
   have M:wr.cell? ⟨g,k,none⟩=some x:=(y.o.cell M (fun e=>aA (Option.some.inj e)))
   obtain⟨d3,-⟩:=ad.o.cell 3 rfl;subst ac;clear aD aA hc
   cases c with
   | give n f=>
    obtain⟨b1,b2,B,t,v,-,-⟩:=V;have O:=ZZ (ZmV (f:=f) J.1 wr t v Y.o (by omega))
    rw[B] at M;clear B t v
    go_wp2_with fail
    refine O.o.mono ?_;rintro e P ⟨rfl,A,C⟩;have S:Hid (Yj P L.kept (N+(k+1)) (fun n=>(look (Ym d (k+1)) n).map L.ps)):=ZZ (A.fun fun n' _=>by rw[af.o])
    have R:=ZZ (y.o.trans2 C);clear A C;go_wp2;go_roundw
    case rel=>exact⟨k+1,by go_num,by omega,S,R⟩
    case measure=>simp[intOf];omega
   | move n m f=>
    obtain⟨b1,b2,b3,B,t,v,E,-,-,-⟩:=V;have O:=ZZ (ZmW (f:=f) J.1 J.2.1 wr t v E Y.o (by omega))
    rw[B] at M;clear B t v E
    go_wp2_with fail
    refine O.o.mono ?_;rintro e P ⟨rfl,A,C⟩;have S:Hid (Yj P L.kept (N+(k+1)) (fun n=>(look (Ym d (k+1)) n).map L.ps)):=ZZ (A.fun fun n' _=>by rw[af.o])
    have R:=ZZ (y.o.trans2 C);clear A C;go_wp2;go_roundw
    case rel=>exact⟨k+1,by go_num,by omega,S,R⟩
    case measure=>simp[intOf];omega
   | take n=>
    obtain⟨b1,B,t,-⟩:=V;have O:=ZZ (ZmX J wr t Y.o );rw[B] at M;clear B t
    go_wp2_with fail
    refine O.o.mono ?_;rintro e P ⟨rfl,A,C⟩;have S:Hid (Yj P L.kept (N+(k+1)) (fun n=>(look (Ym d (k+1)) n).map L.ps)):=ZZ (A.fun fun n' _=>by rw[af.o])
    have R:=ZZ (y.o.trans2 C);clear A C;go_wp2;go_roundw
    case rel=>exact⟨k+1,by go_num,by omega,S,R⟩
    case measure=>simp[intOf];omega
  ·have aG:Hid (k=K):=ZZ (by omega)
   obtain⟨va,vn,vc,aq⟩:=Zez a.o.rest.row;obtain⟨d4,e4⟩:=ad.o.cell 4 rfl;obtain⟨d2,-⟩:=ad.o.cell 2 rfl;have ax:wr.cell? ⟨p,4,none⟩=some L.wv:=d4;rw[aq] at ax;have Z:=ZZ (ad.o.set 4 (.slice none 0 0));have am:Hid (Yj (wr.setCell ⟨p,4,none⟩ (.slice none 0 0)) L.now N (fun n=>(look (Qm d) n).map L.ps)):=ZZ (a.o.rest.now.keep ((Below.heap_setCell _ _ _ _ (a.o.head.neMap a.o.rest.now).symm).trans (y.o.block _ a.o.rest.now.lt (fun e=>a.o.rest.nk (Option.some.inj e)))))
   have ag:Hid (Yj (wr.setCell ⟨p,4,none⟩ (.slice none 0 0)) L.kept (N+k) (fun n=>(look (Ym d k) n).map L.ps)):=ZZ (Y.o.keep (Below.heap_setCell _ _ _ _ (a.o.head.neMap a.o.rest.kept).symm))
   obtain⟨D,G⟩:∃ D,D=wr.setCell ⟨p,4,none⟩ (.slice none 0 0):=⟨_,rfl⟩
   have aN:Hid (Ql F w D):=ZZ (by
    rw[G]
    exact(aF.o.trans (Ql.ofGrown y.o (fun j e _=>by obtain rfl:=Option.some.inj e;exact a.o.rest.fk)) (fun _ _ i=>i)).setCell 4 (fun _=>a.o.fh) _)
   have aP:Hid (∀ j,F j->j≠p->j≠L.kept->D.heap[j]?=W.heap[j]?):=ZZ (fun j i t v=>by
    rw[G,Below.heap_setCell _ _ _ _ t]
    exact y.o.block j (a.o.lt j i) (fun e=>v (Option.some.inj e)))
   have aK:Hid (W.heap.size<=D.heap.size):=ZZ (by rw[G];have:=y.o.size;simpa using this)
   rw[<-G] at Z am ag;have aw:=ZZ G;clear aq d4 G Y ai
   go_upto_region 6 with fail
   rw[<-aw.o];clear aw ax e4 d2;obtain⟨d2,-⟩:=Z.o.cell 2 rfl
   go_wp2_with(first | (with_reducible refine ZjF D rfl _ rfl L.now N _ rfl am.o ?_);intro z ar ab)
   have aj:=ZZ (Z.o.keep (ab.block p Z.o.lt (fun e=>(a.o.head.neMap a.o.rest.now) (Option.some.inj e))))
   have an:=ZZ (ag.o.keep (ab.block _ ag.o.lt (fun e=>a.o.rest.nk (Option.some.inj e).symm)))
   have aU:=ZZ ar;have ak:=ZZ ab;clear ar ab d2;have d2:z.cell? ⟨p,2,none⟩=some (.map (some L.now)):=(aj.o.cell 2 rfl).1;have d3:z.cell? ⟨p,3,none⟩=some (.map (some L.kept)):=(aj.o.cell 3 rfl).1;have aQ:N+k<=10000000:=by omega
   have av:Hid (∀ (X:World) (b n:Nat),Yj X b n (fun n=>(look (Ym d k) n).map L.ps)->Yj X b N (fun n=>(look (Ym d k) n).map L.ps)):=ZZ (fun _ _ _ hm=>(hm.tight (l:=(Ym d k).map Prod.fst) (fun q _ hq=>by
    cases e:look (Ym d k) q with
    | none=>rw[e] at hq;cases hq
    | some f=>exact List.mem_map.2 ⟨(q,f),(Zb (ay.o.dirs k).rise q f).1 e,rfl⟩)).mono (by
     have t:=Zbt d k;have v:=aL.o.names;simp only [List.length_map]
     omega))
   have aS:=ZZ (ZwT (w:=z.drew) (aU.o.keep rfl) (an.o.keep rfl) a.o.rest.nk aQ)
   go_upto_region 7 with fail
   go_region_with
    (first
     | (go_at_call 73;refine aS.o.mono ?_;rintro e W4 ⟨rfl,aB,aE⟩;have aM:=ZZ aB;have I:=ZZ aE;clear aB aE))
   all_goals
    go_wp2;go_end0;have aT:z.heap.size<=W4.heap.size:=I.o.size;have aa:∀ j,j<z.heap.size->j≠L.now->W4.heap[j]?=z.heap[j]?:=fun j hj hn=>I.o.block j hj (fun e=>hn (Option.some.inj e))
    have a0:=ak.o.size;have aW:=aK.o;have aJ:p<z.heap.size:=by have:=a.o.head.lt;omega
    have aH:L.kept<z.heap.size:=by have:=a.o.rest.kept.lt;omega
    rw[<-aG.o];refine⟨rfl,a.o.lost (l:=Ym d k) (by omega) (fun j i t v E=>?_) ?_ (av.o _ _ _ aM.o) (av.o _ _ _ (an.o.keep (aa _ aH (Ne.symm a.o.rest.nk)))),?_⟩
    ·have hj:=a.o.lt j i
     rw[aa j (by omega) v,ak.o.block j (by omega) (fun e=>v (Option.some.inj e))]
     exact aP.o j i t E
    ·exact aj.o.keep (aa p aJ (a.o.head.neMap a.o.rest.now))
    ·have o3:Ql F D z:=Ql.ofGrown ak.o (fun j e _=>by obtain rfl:=Option.some.inj e;exact a.o.rest.fn)
     have o4:Ql F z W4:=⟨I.o.os,I.o.tape,I.o.output,aT,fun j hj hn=>aa j hj (fun e=>hn (by rw[e];exact a.o.rest.fn))⟩
     exact(aN.o.trans o3 (fun _ _ i=>i)).trans o4 (fun _ _ i=>i)
theorem Zsb {l:List UInt8} (h:Own w 0 v l):∃ ao cap,v=.slice ao l.length cap∧l.length<=cap∧((ao=none∧cap=0)∨∃ g,ao=some ⟨g,0,none⟩):=Zuv h
theorem Xd.cutFile {f k:Nat} {ao:Option Addr} {cap:Nat} (h:Xd F w p L d u N) (e:f<d.files.length) (n:L.vs f=.slice ao (fl d.files f).b.length cap) (t:k<=(fl d.files f).b.length):
 Xd F ((w.setCell ⟨L.ps f,1,none⟩ (.int .i64 (k:Int))).setCell ⟨L.ps f,0,none⟩ (.slice ao k cap)) p { L with vs:=fun i=>if i=f then .slice ao k cap else L.vs i } { d with files:=d.files.set f ⟨(fl d.files f).b.take k,k⟩ } u N:=by
 have c:=h.rest.file f e
 have x:∀ g,(L.vs f).ownBlock=some g->g≠L.ps f:=fun g a=>by
  obtain⟨z,v⟩:=Dc c.own a;exact v.ne c.box (by decide)
 have m:(Value.slice ao k cap).ownBlock=(L.vs f).ownBlock:=by rw[n];cases ao <;> rfl
 have y:Own w 0 (.slice ao k cap) ((fl d.files f).b.take k):=by
  have:=c.own;rw[n] at this;exact this.front k t
 refine h.setFile (F':=F) e (fun j _ q _=>by rw[Below.heap_setCell _ _ _ _ q,Below.heap_setCell _ _ _ _ q]) ⟨(c.box.set 1 _).set 0 _,Qh y fun g a=>?_⟩ (.inl m) (fun _ l=>l) (fun g a=>h.rest.fv f e g (by rw[<-m];exact a)) (fun j l=>by simpa using h.lt j l)
 have:=x g (by rw[<-m];exact a)
 rw[Below.heap_setCell _ _ _ _ this,Below.heap_setCell _ _ _ _ this]
theorem Zuw (h:n<=1000000000000000):IntKind.i64.wrap (n:Int)=(n:Int):=by
 rw[IntKind.wrap_i64];omega
theorem ZbD {l:Dir} {i:Nat} (h:i<l.length):l.take (i+1)=l.take i++[l[i]]:=List.take_succ_eq_append_getElem h
theorem ZfE {l:Dir} (h:G9 l) {i:Nat} (c:i<l.length):∀ p ∈ l.take i,p.2≠l[i].2:=by
 intro p b;have a:G9 (l.take (i+1)):=List.Pairwise.sublist (List.take_sublist _ _) h;rw[ZbD c] at a;exact(List.pairwise_append.1 a).2.2 p b _ (List.mem_singleton.2 rfl)
theorem Znc (keep:List Int) {l:Dir} (h:G9 l) {i:Nat} (a:i<l.length) (fs:List Fl):Xb keep (l.take (i+1)) 0 fs=(Xb keep (l.take i) 0 fs).set l[i].2 (Zlc (fl fs l[i].2) (Zhg keep i)):=by
 rw[ZbD a,Zhh,Zbp keep _ 0 fs _ (ZfE h a)];have:(l.take i).length=i:=by rw[length_take];omega
 rw[this,Nat.zero_add]
theorem Zsc (keep:List Int) {l:Dir} (h:G9 l) {i:Nat} (a:i<l.length) {fs:List Fl} (c:l[i].2<fs.length) (d:∀ x ∈ fs,x.k<=x.b.length):
 Zt (Xb keep (l.take (i+1)) 0 fs) (l.take (i+1))=Zt (Xb keep (l.take i) 0 fs) (l.take i)+(Zlc (fl fs l[i].2) (Zhg keep i)).k:=by
 rw[Znc keep h a];have j:Zt ((Xb keep (l.take i) 0 fs).set l[i].2 (Zlc (fl fs l[i].2) (Zhg keep i))) (l.take i)=Zt (Xb keep (l.take i) 0 fs) (l.take i):=Zlq fun p g=>by rw[Jf (fun e=>ZfE h a p g e.symm)]
 have f:(fl ((Xb keep (l.take i) 0 fs).set l[i].2 (Zlc (fl fs l[i].2) (Zhg keep i))) l[i].2).b.length=(Zlc (fl fs l[i].2) (Zhg keep i)).k:=by
  rw[Zao (by rw[Gi];exact c),Zww (Zhi d _)]
 rw[ZbD a,ZdO,j,Zaj,ZgU,f];rfl
theorem ZcI (keep:List Int):∀ (l:Dir) (i:Nat) (fs:List Fl),(∀ x ∈ fs,x.b.length<=T)->(∀ p ∈ l,p.2<fs.length)->∀ x ∈ Xb keep l i fs,x.b.length<=T
 | [],_,_,h,_=>h
 | p::l,i,fs,h,hl=>by
  rw[Xb];refine ZcI keep l (i+1) _ (fun x a=>?_) (fun q c=>by rw[List.length_set];exact hl q (List.mem_cons_of_mem _ c))
  rcases List.mem_or_eq_of_mem_set a with a | rfl
  ·exact h x a
  ·have:=h _ (ZbH (hl p (List.mem_cons_self ..)))
   simp only [Zlc,length_take];omega
theorem Zlt (vk:Value) (keep:List Int) (w:World) (h:Xd F w p L d u N) (hw:d.waits=[]) (ax:OkD d) (aC:Bnd d N T) (hN:N<=1000000) (hT:T<=1000000000) (hr:RdI w vk keep) (aG:keep=[]∨∀ k,vk.ownBlock=some k->¬ F k) (br:keep.length<=1000000000):
 Calls prog 32 #[ptr p,vk] w fun e w'=>e=.returned (.tuple #[])∧(∃ L',Xd F w' p L' { d with files:=Xb keep d.kept 0 d.files } (Zt (Xb keep d.kept 0 d.files) d.kept:Nat) N)∧Ql F w w':=by
 have H:=ZZ h;have aT:=ZZ ax;have aQ:=ZZ aC;have aN:=ZZ hr;have a9:=ZZ aG;obtain⟨⟨-,c1,-,-,-,-⟩,f1,-⟩:=h.cells;obtain⟨ka,kc,rfl,-⟩:=hr;obtain⟨l,hl⟩:∃ l,l=d.kept:=⟨_,rfl⟩;have aM:Hid (Qm d=l):=ZZ (by unfold Qm;rw[hw,hl];rfl)
 have a1:Hid (l.length<=N):=ZZ (by have:=aC.names;rw[hl];omega)
 have O:Hid (OkL d.files.length l):=ZZ (by rw[hl];exact ax.kept)
 have bd:=ZZ hl;have ab:=ZZ (h.setHead 1 (.int .i64 0) (d':=d) (u':=0) ⟨rfl,rfl,rfl⟩ rfl);have ay:Hid (Ql F w (w.setCell ⟨p,1,none⟩ (.int .i64 0))):=ZZ ((Ql.refl _ _).setCell 1 (fun _=>h.fh) _)
 obtain⟨W1,aH⟩:∃ W1,W1=w.setCell ⟨p,1,none⟩ (.int .i64 0):=⟨_,rfl⟩;rw[<-aH] at ab ay;have aS:=ZZ (ZeC W1 ab.o ax hN);have a2:=ZZ (aN.o.onlyE ay.o aG);have aK:=ZZ aH;clear aH h ax aC aG hl hw
 go_enter func32,ntmps32
 go_upto_region 1 with fail
 rw[<-aK.o];clear aK c1 f1
 go_wp2_with fail
 refine aS.o.mono ?_;rintro e W2 ⟨vn,rfl,aB,ag⟩;rw[aM.o] at aB
 have be:Hid (∀ x ∈ l.map Prod.fst,I64 x):=ZZ (fun x hx=>by
  obtain⟨q,hq,rfl⟩:=List.mem_map.1 hx
  exact Zcd (O.o.may q hq).1)
 have aR:=ZZ (aB.rd be.o)
 have bh:Hid (∀ k,vn.ownBlock=some k->¬ F k):=ZZ (fun k hk hf=>by
  have E:=(World.ownsRow.lt aB k hk).1;have M:=ab.o.lt k hf
  omega)
 have bb:Hid (Xd F W2 p L d 0 N):=ZZ (ab.o.keep (fun k hf=>ag.block k (ab.o.lt k hf)) ag.size)
 have bc:Hid (Ql F w W2):=ZZ (ay.o.trans (G:=fun _=>False) (Ql.ofBelow ag) (fun _ _ hf=>hf.elim))
 have a7:=ZZ (a2.o.below ag zL);obtain⟨na,nc,rfl,-⟩:=aR.o;clear aB ag aS a2 aN ab ay H;have bg:(l.map Prod.fst).length=l.length:=List.length_map ..;rw[bg];go_wp2
 go_loopw[14] (fun vi wr=>∃ i:Nat,vi=.int .i64 (i:Int)∧i<=l.length∧∃ z,Hid (Xd F wr p z { d with files:=Xb keep (l.take i) 0 d.files } (Zt (Xb keep (l.take i) 0 d.files) (l.take i):Nat) N)∧Hid (Ql F W2 wr)) (fun vi _=>l.length-(intOf vi).toNat)
 case atStart=>exact⟨0,rfl,Nat.zero_le _,L,by simpa[Xb,Zt] using bb,ZZ (Ql.refl _ _)⟩
 case round=>
  obtain⟨i,rfl,bq,z,D,au⟩:=hrel;by_cases V:i<l.length
  case neg=>
   have hi:i=l.length:=by omega
   subst hi;rw[List.take_length,bd.o] at D;go_wp2;go_end0;exact⟨rfl,⟨z,D.o⟩,bc.o.trans au.o (fun _ _ hf=>hf)⟩
  obtain⟨n,f,ad⟩:∃ n f,l[i]=(n,f):=⟨_,_,rfl⟩;have az:(n,f) ∈ l:=by rw[<-ad];exact List.getElem_mem V
  have aE:f<d.files.length:=(O.o.may _ az).2;have aO:I64 n:=Zcd (O.o.may _ az).1;have a0:(Xb keep (l.take i) 0 d.files).length=d.files.length:=Gi _ _ _ _;obtain⟨x,hx⟩:∃ x,x=fl d.files f:=⟨_,rfl⟩
  have aj:fl (Xb keep (l.take i) 0 d.files) f=x:=by
   rw[hx];refine Zbp keep _ 0 _ _ fun q hq=>?_
   have:=ZfE O.o.apart V q hq;rw[ad] at this;exact this
  have aa:Hid (ZmQ wr (z.ps f) (z.vs f) x):=ZZ (by
   have:=D.o.rest.file f (by show f<(Xb keep (l.take i) 0 d.files).length;omega)
   rw[<-aj]
   exact this)
  have a8:x.k<=x.b.length:=by rw[hx];exact Zhi aT.o.keep f
  have a4:x.b.length<=T:=by rw[hx];exact aQ.o.bytes _ (ZbH aE)
  obtain⟨ao,cap,aw,bf,bp⟩:=Zsb aa.o.own;have B:wr.cell? ⟨z.ps f,0,none⟩=some (.slice ao x.b.length cap):=by rw[<-aw];exact(aa.o.box.cell 0 rfl).1
  have y0:wr.frozen? ⟨z.ps f,0,none⟩=false:=(aa.o.box.cell 0 rfl).2;have g1:wr.cell? ⟨z.ps f,1,none⟩=some (.int .i64 (x.k:Int)):=(aa.o.box.cell 1 rfl).1;have y1:wr.frozen? ⟨z.ps f,1,none⟩=false:=(aa.o.box.cell 1 rfl).2;obtain⟨U,hU⟩:∃ U:Nat,U=Zt (Xb keep (l.take i) 0 d.files) (l.take i):=⟨_,rfl⟩
  have bt:U<=1000000000000000:=by
   rw[hU];have E:=ZoY (T:=T) (fs:=Xb keep (l.take i) 0 d.files) (ZcI keep _ 0 _ aQ.o.bytes (fun q hq=>(O.o.may q (List.mem_of_mem_take hq)).2)) (l.take i) (fun q hq=>by rw[a0];exact(O.o.may q (List.mem_of_mem_take hq)).2)
   have M:(l.take i).length<=N:=by have:=a1.o;rw[length_take];omega
   have h3:(l.take i).length*T<=1000000*1000000000:=Nat.mul_le_mul (by omega) hT
   omega
  rw[<-hU] at D;have k1:wr.cell? ⟨p,1,none⟩=some (.int .i64 (U:Int)):=D.o.cells.1.2.1;have j1:wr.frozen? ⟨p,1,none⟩=false:=D.o.cells.2.1;have k2:wr.cell? ⟨p,2,none⟩=some (.map (some z.now)):=D.o.cells.1.2.2.1
  have aI:(Instr.lookup 65 (.map (some z.now)) (.int .i64 n) false).run prog wr=.ok (.pointer (some ⟨z.ps f,0,none⟩)) wr:=by
   have E:=D.o.rest.now.look1 aO
   have M:look (Qm { d with files:=Xb keep (l.take i) 0 d.files }) n=some f:=by
    show look (Qm d) n=some f;rw[aM.o];exact(Zb O.o.rise n f).2 az
   rw[M] at E;exact E
  obtain⟨nb,ai,rfl,aV⟩:∃ nb ai,na=some ⟨nb,ai,none⟩∧wr.cell? ⟨nb,ai+i,none⟩=some (.int .i64 n):=by
   have E:=aR.o.only au.o bh.o;obtain⟨a',c',am,_,_,_,_,h6⟩:=E;simp only [Value.slice.injEq] at am;obtain⟨rfl,_,rfl⟩:=am;rcases h6 with h6 | ⟨nb,ai,rfl,h7⟩
   ·have:l=[]:=by simpa using h6
    rw[this] at V;simp at V
   ·refine⟨nb,ai,rfl,?_⟩
    have h8:=h7 i (by simpa using V)
    rw[h8];simp[List.getD,V,ad]
  obtain⟨A,hA⟩:∃ A,A=Zhg keep i:=⟨_,rfl⟩;obtain⟨m,hm⟩:∃ m,m=x.b.length-x.k:=⟨_,rfl⟩;have aL:(x.b.length:Int)-(x.k:Int)=(m:Int):=by omega
  obtain⟨sh,av⟩:∃ sh,sh=Z4 A m:=⟨_,rfl⟩;have ba:sh<=m:=by rw[av];exact Zcy _ _
  obtain⟨y,aX⟩:∃ y,y=x.k+sh:=⟨_,rfl⟩;have a5:(x.k:Int)+(sh:Int)=(y:Int):=by omega
  have aP:y<=x.b.length:=by omega
  have ae:Hid (∀ W,Calls prog 72 #[.int .i64 A,.int .i64 (m:Int)] W fun e w'=>e=.returned (.int .i64 (sh:Int))∧w'=W):=ZZ (fun W=>by rw[av];exact ZmT A m (by omega) W)
  have aW:Hid (Zlc x A=⟨x.b.take y,y⟩):=ZZ (by rw[aX,av,hm];rfl)
  have aD:Hid (Xd F (((wr.setCell ⟨z.ps f,1,none⟩ (.int .i64 (y:Int))).setCell ⟨z.ps f,0,none⟩ (.slice ao y cap)).setCell ⟨p,1,none⟩ (.int .i64 ((U:Int)+(y:Int)))) p { z with vs:=fun j=>if j=f then .slice ao y cap else z.vs j } { d with files:=Xb keep (l.take (i+1)) 0 d.files } (Zt (Xb keep (l.take (i+1)) 0 d.files) (l.take (i+1)):Nat) N):=ZZ (by
   have E:=D.o.cutFile (f:=f) (k:=y) (ao:=ao) (cap:=cap) (by show f<(Xb keep (l.take i) 0 d.files).length;omega) (by show z.vs f=.slice ao (fl (Xb keep (l.take i) 0 d.files) f).b.length cap;rw[aj];exact aw) (by show y<=(fl (Xb keep (l.take i) 0 d.files) f).b.length;rw[aj];exact aP)
   have M:=Zsc keep O.o.apart V (fs:=d.files) (by rw[ad];exact aE) aT.o.keep
   have h3:=Znc keep O.o.apart V d.files;rw[ad,<-hx,<-hA,aW.o] at M h3;rw[M,h3,<-hU]
   dsimp only at E
   rw[aj] at E;have e1:((U+y:Nat):Int)=(U:Int)+(y:Int):=by omega
   show Xd F _ p _ _ ((U+y:Nat):Int) N;rw[e1]
   exact E.setHead 1 _ ⟨rfl,rfl,rfl⟩ rfl)
  have I:Hid (Ql F W2 (((wr.setCell ⟨z.ps f,1,none⟩ (.int .i64 (y:Int))).setCell ⟨z.ps f,0,none⟩ (.slice ao y cap)).setCell ⟨p,1,none⟩ (.int .i64 ((U:Int)+(y:Int))))):=ZZ (((au.o.setCell 1 (fun _=>D.o.rest.fp f (by show f<(Xb keep (l.take i) 0 d.files).length;omega)) _).setCell 0 (fun _=>D.o.rest.fp f (by show f<(Xb keep (l.take i) 0 d.files).length;omega)) _).setCell 1 (fun _=>D.o.fh) _)
  have aq:Hid (p≠z.ps f):=ZZ (D.o.head.ne aa.o.box (by decide))
  obtain⟨P,hP⟩:∃ P,P=z.ps f:=⟨_,rfl⟩;have al:Hid (Bk 117 wr (z.ps f) #[.slice ao x.b.length cap,.int .i64 (x.k:Int)]):=ZZ (by rw[<-aw];exact aa.o.box)
  obtain⟨DI,aU⟩:∃ DI,DI={ d with files:=Xb keep (l.take i) 0 d.files }:=⟨_,rfl⟩
  have aJ:Hid (Bk 69 wr p (ZfD z DI (U:Int))):=ZZ (by rw[aU];exact D.o.head)
  clear aU;rw[<-hP] at B y0 g1 y1 aI aD I aq al;obtain⟨Q,aY⟩:∃ Q,Q=x.b.length:=⟨_,rfl⟩;obtain⟨xk,aZ⟩:∃ xk,xk=x.k:=⟨_,rfl⟩;rw[<-aY] at B aL aP a4 bf al;rw[<-aZ] at g1 aL a5 al;have bi:y<=cap:=by omega
  have HA:=ZZ hA;have a3:=ZZ (a7.o.onlyE au.o a9.o);clear ad az aE aO a0 hx aj a8 aw hU hA hm av ba aX hP aY aZ aa D au aW;have aA:=ZZ V;have bm:i<=1000000:=by have:=a1.o;omega
  have bn:IntKind.i64.wrap (m:Int)=(m:Int):=Zuw (by omega)
  have bo:IntKind.i64.wrap (y:Int)=(y:Int):=Zuw (by omega)
  have af:Hid ((wr.setCell ⟨P,1,none⟩ (.int .i64 (y:Int))).cell? ⟨P,0,none⟩=some (.slice ao Q cap)):=ZZ (by
   rw[World.cell?_setCell_other _ _ _ _ (by intro h;injection h with _ h;cases h)]
   exact B)
  by_cases ac:keep.length=0
  ·have e0:A=0:=by rw[HA.o];exact if_pos ac
   subst e0;have bv:decide ((keep.length:Int)>0)=false:=decide_eq_false (by omega)
   have bw:decide (0<keep.length)=false:=decide_eq_false (by omega)
   clear ac
   go_upto_region 7 with fail
   clear aV aI k2
   go_cut[] (fun wd=>Hid (∃ q,wd=(wr.setCell ⟨P,1,none⟩ (.int .i64 (y:Int))).drewN q))
   case first=>
    refine wp_region_held_drew (S:=fun w'=>w'.cell? ⟨P,0,none⟩=some (.slice ao Q cap)) (by kernel_rfl) (by exact B) (fun C=>?_)
    refine wpAnyH_take (i:=0) (v:=?_) rfl (by kernel_rfl) (by kernel_rfl) (by kernel_rfl) (fun _ _ _ h=>h) (Or.inl ⟨by rfl,?_⟩) (by assumption) ?_
    rotate_left
    ·intro g c
     go_simp
     try with_reducible rfl
    simp only [Act.put,getElem_toArray,getElem_cons_zero,setIfInBounds_toArray,set_cons_zero,set_cons_succ];refine wpAnyH_take (i:=1) (v:=?_) rfl (by kernel_rfl) (by kernel_rfl) (by kernel_rfl) (fun _ _ _ h=>h) (Or.inl ⟨by rfl,?_⟩) (by assumption) ?_
    rotate_left
    ·intro g c
     go_simp
     try with_reducible rfl
    simp only [Act.put,getElem_toArray,getElem_cons_zero,getElem_cons_succ,setIfInBounds_toArray,set_cons_zero,set_cons_succ];refine wpAnyH_take (i:=2) (v:=?_) rfl (by kernel_rfl) (by kernel_rfl) (by kernel_rfl) (fun _ _ _ h=>h) (Or.inl ⟨by rfl,?_⟩) (by assumption) ?_
    rotate_left
    ·intro g c
     go_simp
     try with_reducible rfl
    simp only [Act.put,getElem_toArray,getElem_cons_zero,getElem_cons_succ,setIfInBounds_toArray,set_cons_zero,set_cons_succ];refine wpAnyH_take (i:=4) (v:=?_) rfl (by kernel_rfl) (by kernel_rfl) (by kernel_rfl) (fun _ _ _ h=>h) (Or.inl ⟨by rfl,?_⟩) (by assumption) ?_
    rotate_left
    ·intro g c
     go_simp
     try with_reducible rfl
    simp only [Act.put,getElem_toArray,getElem_cons_zero,getElem_cons_succ,setIfInBounds_toArray,set_cons_zero,set_cons_succ];refine wpAnyH_take (i:=5) (v:=?_) rfl (by kernel_rfl) (by kernel_rfl) (by kernel_rfl) (fun _ _ _ h=>h) (Or.inl ⟨by rfl,?_⟩) (by assumption) ?_
    rotate_left
    ·intro g c
     go_simp
     try with_reducible rfl
    simp only [Act.put,getElem_toArray,getElem_cons_zero,getElem_cons_succ,setIfInBounds_toArray,set_cons_zero,set_cons_succ];refine wpAnyH_take (i:=6) (v:=?_) rfl (by kernel_rfl) (by kernel_rfl) (by kernel_rfl) (fun _ _ _ h=>h) (Or.inl ⟨by rfl,?_⟩) (by assumption) ?_
    rotate_left
    ·intro g c
     go_simp
     try with_reducible rfl
    simp only [Act.put,getElem_toArray,getElem_cons_zero,getElem_cons_succ,setIfInBounds_toArray,set_cons_zero,set_cons_succ];refine wpAnyH_take (i:=7) (v:=?_) rfl (by kernel_rfl) (by kernel_rfl) (by kernel_rfl) (fun _ _ _ h=>h) (Or.inl ⟨by rfl,?_⟩) (by assumption) ?_
    rotate_left
    ·intro g c
     go_simp
     try with_reducible rfl
    simp only [Act.put,getElem_toArray,getElem_cons_zero,getElem_cons_succ,setIfInBounds_toArray,set_cons_zero,set_cons_succ];refine wpAnyH_take (i:=8) (v:=?_) rfl (by kernel_rfl) (by kernel_rfl) (by kernel_rfl) (fun _ _ _ h=>h) (Or.inl ⟨by rfl,?_⟩) (by assumption) ?_
    rotate_left
    ·intro g c
     go_simp
     try with_reducible rfl
    simp only [Act.put,getElem_toArray,getElem_cons_zero,getElem_cons_succ,setIfInBounds_toArray,set_cons_zero,set_cons_succ];refine wpAnyH_take (i:=9) (v:=?_) rfl (by kernel_rfl) (by kernel_rfl) (by kernel_rfl) (fun _ _ _ h=>h) (Or.inl ⟨by rfl,?_⟩) (by assumption) ?_
    rotate_left
    ·intro g c
     go_simp
     try with_reducible rfl
    simp only [Act.put,getElem_toArray,getElem_cons_zero,getElem_cons_succ,setIfInBounds_toArray,set_cons_zero,set_cons_succ];refine wpAnyH_take (i:=10) (v:=?_) rfl (by kernel_rfl) (by kernel_rfl) (by kernel_rfl) (fun _ _ _ h=>h) (Or.inl ⟨by rfl,?_⟩) (by assumption) ?_
    rotate_left
    ·intro g c
     go_simp
     try with_reducible rfl
    simp only [Act.put,getElem_toArray,getElem_cons_zero,getElem_cons_succ,setIfInBounds_toArray,set_cons_zero,set_cons_succ];refine wpAnyH_take (i:=11) (v:=?_) rfl (by kernel_rfl) (by kernel_rfl) (by kernel_rfl) (fun _ _ _ h=>h) (Or.inl ⟨by rfl,?_⟩) (by assumption) ?_
    rotate_left
    ·intro g c
     go_simp
     try with_reducible rfl
    simp only [Act.put,getElem_toArray,getElem_cons_zero,getElem_cons_succ,setIfInBounds_toArray,set_cons_zero,set_cons_succ];refine wpAnyH_take (i:=12) (v:=?_) rfl (by kernel_rfl) (by kernel_rfl) (by kernel_rfl) (fun _ _ _ h=>h) (Or.inl ⟨by rfl,?_⟩) (by assumption) ?_
    rotate_left
    ·intro g c
     go_simp
     try with_reducible rfl
    simp only [Act.put,getElem_toArray,getElem_cons_zero,getElem_cons_succ,setIfInBounds_toArray,set_cons_zero,set_cons_succ];refine wpAnyH_ready (rs:=[3,13]) (by kernel_rfl) (by simp) ?_
    refine AllReadyH.cons rfl (fun t a=>?_) (AllReadyH.cons rfl (fun t a=>?_) AllReadyH.nil)
    ·go_simp
     refine a.out _ _ (by exact B) (fun C=>?_)
     clear a t;refine wpAnyH_ready (rs:=[13]) (by kernel_rfl) (by simp) ?_
     refine AllReadyH.cons rfl (fun t a=>?_) AllReadyH.nil
     go_simp
     refine a.out _ _ (by exact B) (fun C=>?_)
     clear a t;refine wpAnyH_take (i:=14) (v:=?_) rfl (by kernel_rfl) (by kernel_rfl) (by kernel_rfl) (fun _ _ _ h=>h) (Or.inl ⟨by rfl,?_⟩) (by assumption) ?_
     rotate_left
     ·intro g c
      go_simp
      try with_reducible rfl
     simp only [Act.put,getElem_toArray,getElem_cons_zero,getElem_cons_succ,setIfInBounds_toArray,set_cons_zero,set_cons_succ];refine wpAnyH_ready (rs:=[15]) (by kernel_rfl) (by simp) ?_
     refine AllReadyH.cons rfl (fun t a=>?_) AllReadyH.nil
     go_simp
     go_wp2_with((go_at_call 72;refine(ae.o _).mono ?_;rintro e w5 ⟨rfl,rfl⟩))
     refine a.out _ _ (by exact B) (fun C=>?_)
     clear a t;refine wpAnyH_take (i:=16) (v:=?_) rfl (by kernel_rfl) (by kernel_rfl) (by kernel_rfl) (fun _ _ _ h=>h) (Or.inl ⟨by rfl,?_⟩) (by assumption) ?_
     rotate_left
     ·intro g c
      go_simp
      try with_reducible rfl
     simp only [Act.put,getElem_toArray,getElem_cons_zero,getElem_cons_succ,setIfInBounds_toArray,set_cons_zero,set_cons_succ];refine wpAnyH_take (i:=17) (v:=?_) rfl (by kernel_rfl) (by kernel_rfl) (by kernel_rfl) (fun _ _ _ h=>h) (Or.inl ⟨by rfl,?_⟩) (by assumption) ?_
     rotate_left
     ·intro g c
      go_simp
      try with_reducible rfl
     simp only [Act.put,getElem_toArray,getElem_cons_zero,getElem_cons_succ,setIfInBounds_toArray,set_cons_zero,set_cons_succ];refine wpAnyH_take (i:=18) (v:=?_) rfl (by kernel_rfl) (by kernel_rfl) (by kernel_rfl) (fun _ _ _ h=>h) (Or.inl ⟨by rfl,?_⟩) (by assumption) ?_
     rotate_left
     ·intro g c
      go_simp
      try with_reducible rfl
     simp only [Act.put,getElem_toArray,getElem_cons_zero,getElem_cons_succ,setIfInBounds_toArray,set_cons_zero,set_cons_succ];refine wpAnyH_ready (rs:=[19]) (by kernel_rfl) (by simp) ?_
     refine AllReadyH.cons rfl (fun t a=>?_) AllReadyH.nil
     go_simp
     refine a.out _ _ (by exact af.o) (fun C=>?_)
     clear a t;refine wpAnyH_done (by kernel_rfl) ?_ _
     go_wp2_with fail
     go_meet
     exact ZZ ⟨1,rfl⟩
    ·go_simp
     refine a.out _ _ (by exact B) (fun C=>?_)
     clear a t;refine wpAnyH_take (i:=14) (v:=?_) rfl (by kernel_rfl) (by kernel_rfl) (by kernel_rfl) (fun _ _ _ h=>h) (Or.inl ⟨by rfl,?_⟩) (by assumption) ?_
     rotate_left
     ·intro g c
      go_simp
      try with_reducible rfl
     simp only [Act.put,getElem_toArray,getElem_cons_zero,getElem_cons_succ,setIfInBounds_toArray,set_cons_zero,set_cons_succ];refine wpAnyH_ready (rs:=[3,15]) (by kernel_rfl) (by simp) ?_
     refine AllReadyH.cons rfl (fun t a=>?_) (AllReadyH.cons rfl (fun t a=>?_) AllReadyH.nil)
     ·go_simp
      refine a.out _ _ (by exact B) (fun C=>?_)
      clear a t;refine wpAnyH_ready (rs:=[15]) (by kernel_rfl) (by simp) ?_
      refine AllReadyH.cons rfl (fun t a=>?_) AllReadyH.nil
      go_simp
      go_wp2_with((go_at_call 72;refine(ae.o _).mono ?_;rintro e w5 ⟨rfl,rfl⟩))
      refine a.out _ _ (by exact B) (fun C=>?_)
      clear a t;refine wpAnyH_take (i:=16) (v:=?_) rfl (by kernel_rfl) (by kernel_rfl) (by kernel_rfl) (fun _ _ _ h=>h) (Or.inl ⟨by rfl,?_⟩) (by assumption) ?_
      rotate_left
      ·intro g c
       go_simp
       try with_reducible rfl
      simp only [Act.put,getElem_toArray,getElem_cons_zero,getElem_cons_succ,setIfInBounds_toArray,set_cons_zero,set_cons_succ];refine wpAnyH_take (i:=17) (v:=?_) rfl (by kernel_rfl) (by kernel_rfl) (by kernel_rfl) (fun _ _ _ h=>h) (Or.inl ⟨by rfl,?_⟩) (by assumption) ?_
      rotate_left
      ·intro g c
       go_simp
       try with_reducible rfl
      simp only [Act.put,getElem_toArray,getElem_cons_zero,getElem_cons_succ,setIfInBounds_toArray,set_cons_zero,set_cons_succ];refine wpAnyH_take (i:=18) (v:=?_) rfl (by kernel_rfl) (by kernel_rfl) (by kernel_rfl) (fun _ _ _ h=>h) (Or.inl ⟨by rfl,?_⟩) (by assumption) ?_
      rotate_left
      ·intro g c
       go_simp
       try with_reducible rfl
      simp only [Act.put,getElem_toArray,getElem_cons_zero,getElem_cons_succ,setIfInBounds_toArray,set_cons_zero,set_cons_succ];refine wpAnyH_ready (rs:=[19]) (by kernel_rfl) (by simp) ?_
      refine AllReadyH.cons rfl (fun t a=>?_) AllReadyH.nil
      go_simp
      refine a.out _ _ (by exact af.o) (fun C=>?_)
      clear a t;refine wpAnyH_done (by kernel_rfl) ?_ _
      go_wp2_with fail
      go_meet
      exact ZZ ⟨1,rfl⟩
     ·go_simp
      go_wp2_with((go_at_call 72;refine(ae.o _).mono ?_;rintro e w5 ⟨rfl,rfl⟩))
      refine a.out _ _ (by exact B) (fun C=>?_)
      clear a t;refine wpAnyH_ready (rs:=[3]) (by kernel_rfl) (by simp) ?_
      refine AllReadyH.cons rfl (fun t a=>?_) AllReadyH.nil
      go_simp
      refine a.out _ _ (by exact B) (fun C=>?_)
      clear a t;refine wpAnyH_take (i:=16) (v:=?_) rfl (by kernel_rfl) (by kernel_rfl) (by kernel_rfl) (fun _ _ _ h=>h) (Or.inl ⟨by rfl,?_⟩) (by assumption) ?_
      rotate_left
      ·intro g c
       go_simp
       try with_reducible rfl
      simp only [Act.put,getElem_toArray,getElem_cons_zero,getElem_cons_succ,setIfInBounds_toArray,set_cons_zero,set_cons_succ];refine wpAnyH_take (i:=17) (v:=?_) rfl (by kernel_rfl) (by kernel_rfl) (by kernel_rfl) (fun _ _ _ h=>h) (Or.inl ⟨by rfl,?_⟩) (by assumption) ?_
      rotate_left
      ·intro g c
       go_simp
       try with_reducible rfl
      simp only [Act.put,getElem_toArray,getElem_cons_zero,getElem_cons_succ,setIfInBounds_toArray,set_cons_zero,set_cons_succ];refine wpAnyH_take (i:=18) (v:=?_) rfl (by kernel_rfl) (by kernel_rfl) (by kernel_rfl) (fun _ _ _ h=>h) (Or.inl ⟨by rfl,?_⟩) (by assumption) ?_
      rotate_left
      ·intro g c
       go_simp
       try with_reducible rfl
      simp only [Act.put,getElem_toArray,getElem_cons_zero,getElem_cons_succ,setIfInBounds_toArray,set_cons_zero,set_cons_succ];refine wpAnyH_ready (rs:=[19]) (by kernel_rfl) (by simp) ?_
      refine AllReadyH.cons rfl (fun t a=>?_) AllReadyH.nil
      go_simp
      refine a.out _ _ (by exact af.o) (fun C=>?_)
      clear a t;refine wpAnyH_done (by kernel_rfl) ?_ _
      go_wp2_with fail
      go_meet
      exact ZZ ⟨1,rfl⟩
   case rest=>
    obtain⟨q7,Z⟩:=hcut.out;have K:Hid (Bk 117 wc P #[.slice ao Q cap,.int .i64 (y:Int)]):=ZZ (by rw[Z];exact al.o.set 1 _)
    have ar:Hid (Bk 69 wc p (ZfD z DI (U:Int))):=ZZ (by rw[Z];exact aJ.o.other P 1 _ aq.o)
    have Y:=ZZ Z;have B:wc.cell? ⟨P,0,none⟩=some (.slice ao Q cap):=(K.o.cell 0 rfl).1;have y0:wc.frozen? ⟨P,0,none⟩=false:=(K.o.cell 0 rfl).2;have g1:wc.cell? ⟨P,1,none⟩=some (.int .i64 (y:Int)):=(K.o.cell 1 rfl).1;clear Z hcut;obtain⟨W7,ah⟩:∃ W7,W7=wc:=⟨_,rfl⟩;rw[<-ah] at K ar Y B y0 g1 ⊢;clear ah
    go_upto_region 8 with fail
    go_cut[] (fun wd=>Hid (∃ q,wd=(W7.setCell ⟨P,0,none⟩ (.slice ao y cap)).drewN q))
    case first=>
     go_region
     all_goals
      go_wp2_with fail
      go_meet
      exact ZZ ⟨1,rfl⟩
    case rest=>
     obtain⟨q8,X⟩:=hcut.out;have aF:Hid (Bk 117 wc P #[.slice ao y cap,.int .i64 (y:Int)]):=ZZ (by rw[X];exact K.o.set 0 _)
     have an:Hid (Bk 69 wc p (ZfD z DI (U:Int))):=ZZ (by rw[X];exact ar.o.other P 0 _ aq.o)
     have R:=ZZ X;have E:wc.cell? ⟨P,1,none⟩=some (.int .i64 (y:Int)):=(aF.o.cell 1 rfl).1;have M:wc.cell? ⟨p,1,none⟩=some (.int .i64 (U:Int)):=(an.o.cell 1 rfl).1;have h3:wc.frozen? ⟨p,1,none⟩=false:=(an.o.cell 1 rfl).2;clear X hcut B y0 g1;obtain⟨W8,ak⟩:∃ W8,W8=wc:=⟨_,rfl⟩;rw[<-ak] at R E M h3 ⊢;clear ak
     go_upto_region 9 with fail
     go_region
     all_goals
      go_wp2;go_roundw
      case rel=>
       refine⟨i+1,by go_num,by have:=aA.o;omega,_,ZZ (aD.o.keep (w':=(W8.setCell ⟨p,1,none⟩ (.int .i64 ((U:Int)+(y:Int)))).drew) (fun k _=>?_) ?_),ZZ ?_⟩
       ·rw[R.o,Y.o]
        rfl
       ·rw[R.o,Y.o]
        exact Nat.le_refl _
       ·rw[R.o,Y.o]
        exact⟨I.o.os,I.o.tape,I.o.output,I.o.size,I.o.block⟩
      case measure=>have:=aA.o;simp[intOf];omega
  ·obtain⟨J,hJ⟩:∃ J,J=i % keep.length:=⟨_,rfl⟩
   have a6:J<keep.length:=by rw[hJ];exact Nat.mod_lt _ (by omega)
   have bj:(i:Int) % (keep.length:Int)=(J:Int):=by rw[hJ];omega
   have eA:keep.getD J 0=A:=by rw[HA.o,hJ];exact(if_neg ac).symm
   obtain⟨kb,ap,rfl,bk⟩:∃ kb ap,ka=some ⟨kb,ap,none⟩∧wr.cell? ⟨kb,ap+J,none⟩=some (.int .i64 A):=by
    obtain⟨a',c',am,_,_,_,_,h6⟩:=a3.o;simp only [Value.slice.injEq] at am;obtain⟨rfl,_,rfl⟩:=am;rcases h6 with h6 | ⟨kb,ap,rfl,h7⟩
    ·rw[h6] at ac
     simp at ac
    ·exact⟨kb,ap,rfl,by rw[h7 J a6,eA]⟩
   have bu:0<keep.length:=by omega
   have bx:(0:Int)<(keep.length:Int):=by omega
   clear eA hJ ac
   go_upto_region 7 with fail
   clear aV aI k2
   go_cut[] (fun wd=>Hid (∃ q,wd=(wr.setCell ⟨P,1,none⟩ (.int .i64 (y:Int))).drewN q))
   case first=>
    refine wp_region_held_drew (S:=fun w'=>w'.cell? ⟨P,0,none⟩=some (.slice ao Q cap)) (by kernel_rfl) (by exact B) (fun C=>?_)
    refine wpAnyH_take (i:=0) (v:=?_) rfl (by kernel_rfl) (by kernel_rfl) (by kernel_rfl) (fun _ _ _ h=>h) (Or.inl ⟨by rfl,?_⟩) (by assumption) ?_
    rotate_left
    ·intro g c
     go_simp
     try with_reducible rfl
    simp only [Act.put,getElem_toArray,getElem_cons_zero,setIfInBounds_toArray,set_cons_zero,set_cons_succ];refine wpAnyH_take (i:=1) (v:=?_) rfl (by kernel_rfl) (by kernel_rfl) (by kernel_rfl) (fun _ _ _ h=>h) (Or.inl ⟨by rfl,?_⟩) (by assumption) ?_
    rotate_left
    ·intro g c
     go_simp
     try with_reducible rfl
    simp only [Act.put,getElem_toArray,getElem_cons_zero,getElem_cons_succ,setIfInBounds_toArray,set_cons_zero,set_cons_succ];refine wpAnyH_take (i:=2) (v:=?_) rfl (by kernel_rfl) (by kernel_rfl) (by kernel_rfl) (fun _ _ _ h=>h) (Or.inl ⟨by rfl,?_⟩) (by assumption) ?_
    rotate_left
    ·intro g c
     go_simp
     try with_reducible rfl
    simp only [Act.put,getElem_toArray,getElem_cons_zero,getElem_cons_succ,setIfInBounds_toArray,set_cons_zero,set_cons_succ];refine wpAnyH_take (i:=4) (v:=?_) rfl (by kernel_rfl) (by kernel_rfl) (by kernel_rfl) (fun _ _ _ h=>h) (Or.inl ⟨by rfl,?_⟩) (by assumption) ?_
    rotate_left
    ·intro g c
     go_simp
     try with_reducible rfl
    simp only [Act.put,getElem_toArray,getElem_cons_zero,getElem_cons_succ,setIfInBounds_toArray,set_cons_zero,set_cons_succ];refine wpAnyH_take (i:=5) (v:=?_) rfl (by kernel_rfl) (by kernel_rfl) (by kernel_rfl) (fun _ _ _ h=>h) (Or.inl ⟨by rfl,?_⟩) (by assumption) ?_
    rotate_left
    ·intro g c
     go_simp
     try with_reducible rfl
    simp only [Act.put,getElem_toArray,getElem_cons_zero,getElem_cons_succ,setIfInBounds_toArray,set_cons_zero,set_cons_succ];refine wpAnyH_take (i:=6) (v:=?_) rfl (by kernel_rfl) (by kernel_rfl) (by kernel_rfl) (fun _ _ _ h=>h) (Or.inl ⟨by rfl,?_⟩) (by assumption) ?_
    rotate_left
    ·intro g c
     go_simp
     try with_reducible rfl
    simp only [Act.put,getElem_toArray,getElem_cons_zero,getElem_cons_succ,setIfInBounds_toArray,set_cons_zero,set_cons_succ];refine wpAnyH_take (i:=7) (v:=?_) rfl (by kernel_rfl) (by kernel_rfl) (by kernel_rfl) (fun _ _ _ h=>h) (Or.inl ⟨by rfl,?_⟩) (by assumption) ?_
    rotate_left
    ·intro g c
     go_simp
     try with_reducible rfl
    simp only [Act.put,getElem_toArray,getElem_cons_zero,getElem_cons_succ,setIfInBounds_toArray,set_cons_zero,set_cons_succ];refine wpAnyH_take (i:=8) (v:=?_) rfl (by kernel_rfl) (by kernel_rfl) (by kernel_rfl) (fun _ _ _ h=>h) (Or.inl ⟨by rfl,?_⟩) (by assumption) ?_
    rotate_left
    ·intro g c
     go_simp
     try with_reducible rfl
    simp only [Act.put,getElem_toArray,getElem_cons_zero,getElem_cons_succ,setIfInBounds_toArray,set_cons_zero,set_cons_succ];refine wpAnyH_take (i:=9) (v:=?_) rfl (by kernel_rfl) (by kernel_rfl) (by kernel_rfl) (fun _ _ _ h=>h) (Or.inl ⟨by rfl,?_⟩) (by assumption) ?_
    rotate_left
    ·intro g c
     go_simp
     try with_reducible rfl
    simp only [Act.put,getElem_toArray,getElem_cons_zero,getElem_cons_succ,setIfInBounds_toArray,set_cons_zero,set_cons_succ];refine wpAnyH_take (i:=10) (v:=?_) rfl (by kernel_rfl) (by kernel_rfl) (by kernel_rfl) (fun _ _ _ h=>h) (Or.inl ⟨by rfl,?_⟩) (by assumption) ?_
    rotate_left
    ·intro g c
     go_simp
     try with_reducible rfl
    simp only [Act.put,getElem_toArray,getElem_cons_zero,getElem_cons_succ,setIfInBounds_toArray,set_cons_zero,set_cons_succ];refine wpAnyH_take (i:=11) (v:=?_) rfl (by kernel_rfl) (by kernel_rfl) (by kernel_rfl) (fun _ _ _ h=>h) (Or.inl ⟨by rfl,?_⟩) (by assumption) ?_
    rotate_left
    ·intro g c
     go_simp
     try with_reducible rfl
    simp only [Act.put,getElem_toArray,getElem_cons_zero,getElem_cons_succ,setIfInBounds_toArray,set_cons_zero,set_cons_succ];refine wpAnyH_take (i:=12) (v:=?_) rfl (by kernel_rfl) (by kernel_rfl) (by kernel_rfl) (fun _ _ _ h=>h) (Or.inl ⟨by rfl,?_⟩) (by assumption) ?_
    rotate_left
    ·intro g c
     go_simp
     try with_reducible rfl
    simp only [Act.put,getElem_toArray,getElem_cons_zero,getElem_cons_succ,setIfInBounds_toArray,set_cons_zero,set_cons_succ];refine wpAnyH_ready (rs:=[3,13]) (by kernel_rfl) (by simp) ?_
    refine AllReadyH.cons rfl (fun t a=>?_) (AllReadyH.cons rfl (fun t a=>?_) AllReadyH.nil)
    ·go_simp
     refine a.out _ _ (by exact B) (fun C=>?_)
     clear a t;refine wpAnyH_ready (rs:=[13]) (by kernel_rfl) (by simp) ?_
     refine AllReadyH.cons rfl (fun t a=>?_) AllReadyH.nil
     go_simp
     refine a.out _ _ (by exact B) (fun C=>?_)
     clear a t;refine wpAnyH_take (i:=14) (v:=?_) rfl (by kernel_rfl) (by kernel_rfl) (by kernel_rfl) (fun _ _ _ h=>h) (Or.inl ⟨by rfl,?_⟩) (by assumption) ?_
     rotate_left
     ·intro g c
      go_simp
      try with_reducible rfl
     simp only [Act.put,getElem_toArray,getElem_cons_zero,getElem_cons_succ,setIfInBounds_toArray,set_cons_zero,set_cons_succ];refine wpAnyH_ready (rs:=[15]) (by kernel_rfl) (by simp) ?_
     refine AllReadyH.cons rfl (fun t a=>?_) AllReadyH.nil
     go_simp
     go_wp2_with((go_at_call 72;refine(ae.o _).mono ?_;rintro e w5 ⟨rfl,rfl⟩))
     refine a.out _ _ (by exact B) (fun C=>?_)
     clear a t;refine wpAnyH_take (i:=16) (v:=?_) rfl (by kernel_rfl) (by kernel_rfl) (by kernel_rfl) (fun _ _ _ h=>h) (Or.inl ⟨by rfl,?_⟩) (by assumption) ?_
     rotate_left
     ·intro g c
      go_simp
      try with_reducible rfl
     simp only [Act.put,getElem_toArray,getElem_cons_zero,getElem_cons_succ,setIfInBounds_toArray,set_cons_zero,set_cons_succ];refine wpAnyH_take (i:=17) (v:=?_) rfl (by kernel_rfl) (by kernel_rfl) (by kernel_rfl) (fun _ _ _ h=>h) (Or.inl ⟨by rfl,?_⟩) (by assumption) ?_
     rotate_left
     ·intro g c
      go_simp
      try with_reducible rfl
     simp only [Act.put,getElem_toArray,getElem_cons_zero,getElem_cons_succ,setIfInBounds_toArray,set_cons_zero,set_cons_succ];refine wpAnyH_take (i:=18) (v:=?_) rfl (by kernel_rfl) (by kernel_rfl) (by kernel_rfl) (fun _ _ _ h=>h) (Or.inl ⟨by rfl,?_⟩) (by assumption) ?_
     rotate_left
     ·intro g c
      go_simp
      try with_reducible rfl
     simp only [Act.put,getElem_toArray,getElem_cons_zero,getElem_cons_succ,setIfInBounds_toArray,set_cons_zero,set_cons_succ];refine wpAnyH_ready (rs:=[19]) (by kernel_rfl) (by simp) ?_
     refine AllReadyH.cons rfl (fun t a=>?_) AllReadyH.nil
     go_simp
     refine a.out _ _ (by exact af.o) (fun C=>?_)
     clear a t;refine wpAnyH_done (by kernel_rfl) ?_ _
     go_wp2_with fail
     go_meet
     exact ZZ ⟨1,rfl⟩
    ·go_simp
     refine a.out _ _ (by exact B) (fun C=>?_)
     clear a t;refine wpAnyH_take (i:=14) (v:=?_) rfl (by kernel_rfl) (by kernel_rfl) (by kernel_rfl) (fun _ _ _ h=>h) (Or.inl ⟨by rfl,?_⟩) (by assumption) ?_
     rotate_left
     ·intro g c
      go_simp
      try with_reducible rfl
     simp only [Act.put,getElem_toArray,getElem_cons_zero,getElem_cons_succ,setIfInBounds_toArray,set_cons_zero,set_cons_succ];refine wpAnyH_ready (rs:=[3,15]) (by kernel_rfl) (by simp) ?_
     refine AllReadyH.cons rfl (fun t a=>?_) (AllReadyH.cons rfl (fun t a=>?_) AllReadyH.nil)
     ·go_simp
      refine a.out _ _ (by exact B) (fun C=>?_)
      clear a t;refine wpAnyH_ready (rs:=[15]) (by kernel_rfl) (by simp) ?_
      refine AllReadyH.cons rfl (fun t a=>?_) AllReadyH.nil
      go_simp
      go_wp2_with((go_at_call 72;refine(ae.o _).mono ?_;rintro e w5 ⟨rfl,rfl⟩))
      refine a.out _ _ (by exact B) (fun C=>?_)
      clear a t;refine wpAnyH_take (i:=16) (v:=?_) rfl (by kernel_rfl) (by kernel_rfl) (by kernel_rfl) (fun _ _ _ h=>h) (Or.inl ⟨by rfl,?_⟩) (by assumption) ?_
      rotate_left
      ·intro g c
       go_simp
       try with_reducible rfl
      simp only [Act.put,getElem_toArray,getElem_cons_zero,getElem_cons_succ,setIfInBounds_toArray,set_cons_zero,set_cons_succ];refine wpAnyH_take (i:=17) (v:=?_) rfl (by kernel_rfl) (by kernel_rfl) (by kernel_rfl) (fun _ _ _ h=>h) (Or.inl ⟨by rfl,?_⟩) (by assumption) ?_
      rotate_left
      ·intro g c
       go_simp
       try with_reducible rfl
      simp only [Act.put,getElem_toArray,getElem_cons_zero,getElem_cons_succ,setIfInBounds_toArray,set_cons_zero,set_cons_succ];refine wpAnyH_take (i:=18) (v:=?_) rfl (by kernel_rfl) (by kernel_rfl) (by kernel_rfl) (fun _ _ _ h=>h) (Or.inl ⟨by rfl,?_⟩) (by assumption) ?_
      rotate_left
      ·intro g c
       go_simp
       try with_reducible rfl
      simp only [Act.put,getElem_toArray,getElem_cons_zero,getElem_cons_succ,setIfInBounds_toArray,set_cons_zero,set_cons_succ];refine wpAnyH_ready (rs:=[19]) (by kernel_rfl) (by simp) ?_
      refine AllReadyH.cons rfl (fun t a=>?_) AllReadyH.nil
      go_simp
      refine a.out _ _ (by exact af.o) (fun C=>?_)
      clear a t;refine wpAnyH_done (by kernel_rfl) ?_ _
      go_wp2_with fail
      go_meet
      exact ZZ ⟨1,rfl⟩
     ·go_simp
      go_wp2_with((go_at_call 72;refine(ae.o _).mono ?_;rintro e w5 ⟨rfl,rfl⟩))
      refine a.out _ _ (by exact B) (fun C=>?_)
      clear a t;refine wpAnyH_ready (rs:=[3]) (by kernel_rfl) (by simp) ?_
      refine AllReadyH.cons rfl (fun t a=>?_) AllReadyH.nil
      go_simp
      refine a.out _ _ (by exact B) (fun C=>?_)
      clear a t;refine wpAnyH_take (i:=16) (v:=?_) rfl (by kernel_rfl) (by kernel_rfl) (by kernel_rfl) (fun _ _ _ h=>h) (Or.inl ⟨by rfl,?_⟩) (by assumption) ?_
      rotate_left
      ·intro g c
       go_simp
       try with_reducible rfl
      simp only [Act.put,getElem_toArray,getElem_cons_zero,getElem_cons_succ,setIfInBounds_toArray,set_cons_zero,set_cons_succ];refine wpAnyH_take (i:=17) (v:=?_) rfl (by kernel_rfl) (by kernel_rfl) (by kernel_rfl) (fun _ _ _ h=>h) (Or.inl ⟨by rfl,?_⟩) (by assumption) ?_
      rotate_left
      ·intro g c
       go_simp
       try with_reducible rfl
      simp only [Act.put,getElem_toArray,getElem_cons_zero,getElem_cons_succ,setIfInBounds_toArray,set_cons_zero,set_cons_succ];refine wpAnyH_take (i:=18) (v:=?_) rfl (by kernel_rfl) (by kernel_rfl) (by kernel_rfl) (fun _ _ _ h=>h) (Or.inl ⟨by rfl,?_⟩) (by assumption) ?_
      rotate_left
      ·intro g c
       go_simp
       try with_reducible rfl
      simp only [Act.put,getElem_toArray,getElem_cons_zero,getElem_cons_succ,setIfInBounds_toArray,set_cons_zero,set_cons_succ];refine wpAnyH_ready (rs:=[19]) (by kernel_rfl) (by simp) ?_
      refine AllReadyH.cons rfl (fun t a=>?_) AllReadyH.nil
      go_simp
      refine a.out _ _ (by exact af.o) (fun C=>?_)
      clear a t;refine wpAnyH_done (by kernel_rfl) ?_ _
      go_wp2_with fail
      go_meet
      exact ZZ ⟨1,rfl⟩
   case rest=>
    obtain⟨q7,Z⟩:=hcut.out;have K:Hid (Bk 117 wc P #[.slice ao Q cap,.int .i64 (y:Int)]):=ZZ (by rw[Z];exact al.o.set 1 _)
    have ar:Hid (Bk 69 wc p (ZfD z DI (U:Int))):=ZZ (by rw[Z];exact aJ.o.other P 1 _ aq.o)
    have Y:=ZZ Z;have B:wc.cell? ⟨P,0,none⟩=some (.slice ao Q cap):=(K.o.cell 0 rfl).1;have y0:wc.frozen? ⟨P,0,none⟩=false:=(K.o.cell 0 rfl).2;have g1:wc.cell? ⟨P,1,none⟩=some (.int .i64 (y:Int)):=(K.o.cell 1 rfl).1;clear Z hcut;obtain⟨W7,ah⟩:∃ W7,W7=wc:=⟨_,rfl⟩;rw[<-ah] at K ar Y B y0 g1 ⊢;clear ah
    go_upto_region 8 with fail
    go_cut[] (fun wd=>Hid (∃ q,wd=(W7.setCell ⟨P,0,none⟩ (.slice ao y cap)).drewN q))
    case first=>
     go_region
     all_goals
      go_wp2_with fail
      go_meet
      exact ZZ ⟨1,rfl⟩
    case rest=>
     obtain⟨q8,X⟩:=hcut.out;have aF:Hid (Bk 117 wc P #[.slice ao y cap,.int .i64 (y:Int)]):=ZZ (by rw[X];exact K.o.set 0 _)
     have an:Hid (Bk 69 wc p (ZfD z DI (U:Int))):=ZZ (by rw[X];exact ar.o.other P 0 _ aq.o)
     have R:=ZZ X;have E:wc.cell? ⟨P,1,none⟩=some (.int .i64 (y:Int)):=(aF.o.cell 1 rfl).1;have M:wc.cell? ⟨p,1,none⟩=some (.int .i64 (U:Int)):=(an.o.cell 1 rfl).1;have h3:wc.frozen? ⟨p,1,none⟩=false:=(an.o.cell 1 rfl).2;clear X hcut B y0 g1;obtain⟨W8,ak⟩:∃ W8,W8=wc:=⟨_,rfl⟩;rw[<-ak] at R E M h3 ⊢;clear ak
     go_upto_region 9 with fail
     go_region
     all_goals
      go_wp2;go_roundw
      case rel=>
       refine⟨i+1,by go_num,by have:=aA.o;omega,_,ZZ (aD.o.keep (w':=(W8.setCell ⟨p,1,none⟩ (.int .i64 ((U:Int)+(y:Int)))).drew) (fun k _=>?_) ?_),ZZ ?_⟩
       ·rw[R.o,Y.o]
        rfl
       ·rw[R.o,Y.o]
        exact Nat.le_refl _
       ·rw[R.o,Y.o]
        exact⟨I.o.os,I.o.tape,I.o.output,I.o.size,I.o.block⟩
      case measure=>have:=aA.o;simp[intOf];omega
theorem Zux (names:Int) (g:Value) (keep:List Int) (w:World) (h:Dsk F w p d N T) (z:N<=1000000) (X:T<=1000000000) (n:RdI w g keep) (D:keep=[]∨∀ k,g.ownBlock=some k->¬ F k) (Y:keep.length<=1000000000):
 Calls prog 12 #[ptr p,.int .i64 names,g] w fun e w'=>e=.returned (.tuple #[])∧Dsk F w' p (G7 d names keep) N T∧Ql F w w':=by
 obtain⟨L,h,b,a,C,B⟩:=h;have P:=ZZ b;have j:=ZZ a;have U:=ZZ (And.intro C B);have M:=ZZ n;have u:=ZZ D;have y:=ZZ (ZhV names w h b a z);obtain⟨K,c⟩:∃ K,K=Z4 names d.waits.length:=⟨_,rfl⟩;have i:=ZZ c;rw[<-c] at y;have J:Hid (OkD { d with kept:=Ym d K,waits:=[] }):=ZZ (ZgQ (fs:=d.files) (b.dirs K) b.keep)
 have Q:Hid (Bnd { d with kept:=Ym d K,waits:=[] } N T):=ZZ ⟨a.files,by have l:=Zbt d K;have R:=a.names;show(Ym d K).length+0<=N;omega,a.bytes⟩
 have V:Hid (∀ q ∈ Ym d K,q.2<d.files.length):=ZZ (fun q W=>((b.dirs K).may q W).2)
 obtain⟨ka,kc,rfl,-⟩:=n;clear h b a C B D c
 go_enter func12,ntmps12
 go_wp2_with fail
 refine y.o.mono ?_;rintro e O ⟨rfl,A,f⟩;have E:=ZZ (Zlt _ keep O A rfl J.o Q.o z X (M.o.onlyE f u.o) u.o Y);have I:=ZZ f;clear A f
 go_wp2_with fail
 refine E.o.mono ?_;rintro e W2 ⟨rfl,⟨Z,m⟩,t⟩;have v:=ZZ m;have S:=ZZ (I.o.trans t (fun _ _ H=>H))
 obtain⟨⟨-,-,-,-,-,c5⟩,-,-,-,f5⟩:=m.cells;clear m t;go_wp2;go_end0;refine⟨rfl,⟨Z,?_,P.o.crash names keep,⟨?_,?_,?_⟩,U.o.1,⟨by show(-9223372036854775808:Int)<=-1;omega,by show(-1:Int)<=9223372036854775807;omega⟩⟩,S.o.setCell 5 (fun _=>v.o.fh) _⟩
 ·have l:=v.o.setHead 5 (.int .i64 (-1)) (d':=G7 d names keep) (u':=(Zt (Xb keep (Ym d K) 0 d.files) (Ym d K):Nat)) (by rw[i.o];exact⟨rfl,rfl,rfl⟩) rfl
  have e1:Jb (G7 d names keep)=Zt (Xb keep (Ym d K) 0 d.files) (Ym d K):=by rw[i.o];rfl
  rw[e1];exact l
 ·have:=j.o.files
  show(Xb keep _ 0 d.files).length<=N;rw[Gi];exact this
 ·have l:=Zbt d (Z4 names d.waits.length)
  have R:=j.o.names;show(Ym d (Z4 names d.waits.length)).length+0<=N;omega
 ·intro x G
  refine ZcI keep (Ym d K) 0 d.files j.o.bytes V.o x ?_;rw[i.o];exact G
theorem Zuy (v:Value) (l:List UInt8) (w:World) (g:Rd w v l) (K:l.length<=70368744177664):
 Calls prog 183 #[v] w fun e w'=>∃ v',e=.returned v'∧Own w' w.heap.size v' l∧Below w.heap.size w w':=by
 obtain⟨d,h,E,p,z⟩:=info_parts Zlf;have B:=ZZ g;obtain⟨ao,cap,rfl,J,L,m,n⟩:=g;have D:=ZZ n;have u:=ZZ m;clear n m
 go_enter func183,ntmps183
 go_wp2_with(at_make;refine wpList_make_own _ rfl _ _ 53 rfl w.heap.size 5 d (.int .u8 0) 1 underlying53 h E p _ _ _ (l.length+10) rfl rfl (by omega) (by rw[z];omega) (by unfold maxLen;omega) zL ?_)
 intro C j c;have b:Below w.heap.size w C:=(Below.refl _ _).grown c zL (fun k a=>by cases a)
 obtain⟨M,I,q,_,_,_,t⟩:=B.o.below b zL;simp only [Value.slice.injEq] at q;obtain⟨rfl,_,rfl⟩:=q;have F:=ZZ t;have x:=ZZ b;have N:=ZZ c;clear t b c D
 go_wp2_with(at_builtin;refine wpList_append_fits_any _ rfl _ _ 53 rfl w.heap.size 5 d 1 underlying53 h p w.heap.size 0 (l.length+10) [] rfl j ao l.length cap (Lib.byteCells l) rfl (by rw[Y0,Nat.mul_one]) (fun e=>⟨by have:=u.o e;omega,u.o e⟩) (Rd.cells F.o) (ZaJ l) (by omega) ?_)
 intro A i y;have f:Below w.heap.size w A:=x.o.grown y (by have:=x.o.size;omega) (fun k a=>by simp at a;omega)
 have G:=ZZ f;have H:=ZZ i;clear f y i j;go_wp2;go_ret;exact⟨_,rfl,Own.mk' H.o (by simp) (by simp),G.o⟩
theorem ZAl (y:Nat):bits .or .u8 ((y:Int) % 256) 128=(y:Int) % 128+128:=by
 rw[Lib.u8_or128_any _ (by omega) (by omega)]
 omega
theorem Own.snoc (l b:List UInt8) (a:Nat) (e:a<256) {n:Nat} {x:Int} (h:w.ownsRow B 5 1 v n (Lib.byteCells (l++b)++[Value.int .u8 x])) (c:n=l.length+b.length+1) (d:x=(a:Int)):Own w B v (l++(b++[a.toUInt8])):=by
 subst d;refine Own.mk' h (by rw[c];simp;omega) ?_
 rw[<-List.append_assoc,Lib.byteCells_snoc _ e]
theorem ZeD (v:Value) (l:List UInt8) (u:Nat) (w:World) (A:Rd w v l) (J:l.length<=70368744177664) (a:u<18446744073709551616):
 Calls prog 184 #[v,.int .u64 (u:Int)] w fun e w'=>∃ v',e=.returned v'∧Own w' w.heap.size v' (l++Lib.uvarint u)∧Below w.heap.size w w':=by
 obtain⟨z,B,I,F,C⟩:=info_parts Zlf;have S:=Lib.uvarint_length64 a;have G:=ZZ (Zuy v l w A J);have W:=ZZ a;clear A a
 go_enter func184,ntmps184
 go_wp2_with fail
 refine G.o.mono ?_;rintro e U ⟨X,rfl,E,H⟩;have K:=ZZ E;have O:=ZZ H;clear E H G;go_wp2
 go_loopw[1,5] (fun q N wr=>∃ (y:Nat) (c:List UInt8),q=.int .u64 (y:Int)∧Hid (y<=u∧Lib.uvarint u=c++Lib.uvarint y)∧Hid (Own wr w.heap.size N (l++c))∧Hid (Below w.heap.size w wr))
  (fun q _ _=>(intOf q).toNat)
 case atStart=>exact⟨u,[],rfl,⟨Nat.le_refl _,rfl⟩,by rw[List.append_nil];exact K.o,O.o⟩
 case round=>
  obtain⟨y,c,rfl,i,h,n⟩:=hrel
  have V:c.length+(Lib.uvarint y).length<=10:=by
   have L:=congrArg List.length i.out.2;rw[List.length_append] at L;omega
  have T:=Lib.uvarint_pos y;have Q:=n.out.size;by_cases P:128<=y
  ·have R:=ZAl y
   go_wp2_with(at_builtin;refine wpList_append_own _ rfl _ _ 53 rfl w.heap.size 5 z (.int .u8 0) 1 1 underlying53 B I F C rfl (by decide) _ _ _ rfl (World.ownsRow.alloc h.out _) ⟨wr.heap.size,0,none⟩ 1 1 [Value.int .u8 ((y % 128+128:Nat):Int)] rfl rfl ?c1 ?c2 ?c3 ?c4 ?c5 ?_)
   case c1=>
    intro j u b
    match j,b with
    | 0,b=>simp at b;subst b;simp[Addr.add]
   case c2=>intro u a;simp at a;subst a;rfl
   case c3=>unfold maxLen;simp;omega
   case c4=>simp;omega
   case c5=>simp;omega
   intro v' p d f _;have g:Below w.heap.size w p:=(n.out.alloc (by omega) _).grown f (by simp;omega) (fun k m=>(World.ownsRow.lt h.out k m).1)
   have t:=ZZ (Own.snoc l c (y % 128+128) (by omega) d (by simp) (by omega))
   have x:=ZZ g;clear d g f;go_wp2;go_roundw
   case rel=>exact⟨y / 128,c++[(y % 128+128).toUInt8],by go_num,⟨by have:=i.out.1;omega,by rw[i.out.2,Lib.uvarint_big P];simp⟩,t,x⟩
   case measure=>simp[intOf];omega
  ·have D:Lib.uvarint y=[y.toUInt8]:=Lib.uvarint_small (by omega)
   have M:=ZZ D;clear D
   go_wp2_with(at_builtin;refine wpList_append_own _ rfl _ _ 53 rfl w.heap.size 5 z (.int .u8 0) 1 1 underlying53 B I F C rfl (by decide) _ _ _ rfl (World.ownsRow.alloc h.out _) ⟨wr.heap.size,0,none⟩ 1 1 [Value.int .u8 (y:Int)] rfl rfl ?c1 ?c2 ?c3 ?c4 ?c5 ?_)
   case c1=>
    intro j u b
    match j,b with
    | 0,b=>simp at b;subst b;simp[Addr.add]
   case c2=>intro u a;simp at a;subst a;rfl
   case c3=>unfold maxLen;simp;omega
   case c4=>simp;omega
   case c5=>simp;omega
   intro v' p d f _;have g:Below w.heap.size w p:=(n.out.alloc (by omega) _).grown f (by simp;omega) (fun k m=>(World.ownsRow.lt h.out k m).1)
   have t:=ZZ (Own.snoc l c y (by omega) d (by simp) rfl)
   have x:=ZZ g;clear d g f;go_wp2;go_ret;refine⟨v',rfl,?_,x.o⟩;rw[i.out.2,M.o];exact t.o
def Zsd (l:List UInt8) (n:Int):List UInt8:=if 0<=n∧n<4611686018427387904 then l++Lib.uvarint n.toNat else l
theorem ZbE (v:Value) (l:List UInt8) (n:Int) (w:World) (d:Rd w v l) (k:l.length<=70368744177664):
 Calls prog 132 #[v,.int .i64 n] w fun e w'=>∃ v',e=.returned v'∧Own w' w.heap.size v' (Zsd l n)∧Below w.heap.size w w':=by
 by_cases h:0<=n∧n<4611686018427387904
 ·obtain⟨i,p⟩:=h
  have j:Hid (Zsd l n=l++Lib.uvarint n.toNat):=if_pos ⟨i,p⟩;have a:=ZZ (ZeD v l n.toNat w d k (by omega))
  have m:((n.toNat:Nat):Int)=n:=Int.toNat_of_nonneg i;rw[m] at a;clear m d
  go_enter func132,ntmps132
  go_wp2_with fail
  refine a.o.mono ?_;rintro e w' ⟨v',rfl,c,b⟩;have f:=ZZ c;have g:=ZZ b;clear c b a;go_wp2;go_ret;exact⟨v',rfl,by rw[j.o];exact f.o,g.o⟩
 ·have j:Hid (Zsd l n=l):=if_neg h
  have a:=ZZ (Zuy v l w d k);clear d;by_cases i:n<0
  all_goals
   go_enter func132,ntmps132
   go_wp2_with fail
   refine a.o.mono ?_;rintro e w' ⟨v',rfl,c,b⟩;have f:=ZZ c;have g:=ZZ b;clear c b a;go_wp2;go_ret;exact⟨v',rfl,by rw[j.o];exact f.o,g.o⟩
theorem Gj (v:Value) (l:List UInt8) (n:Int) (w:World) (c:Rd w v l) (i:l.length<=70368744177664) (b:-9223372036854775808<=n) (a:n<=9223372036854775807):
 Calls prog 142 #[v,.int .i64 n] w fun e w'=>∃ v',e=.returned v'∧Own w' w.heap.size v' (l++Lib.uvarint (Lib.zigzag n))∧Below w.heap.size w w':=by
 have g:=ZZ (ZeD v l (Lib.zigzag n) w c i (Lib.zigzag_lt b a));have d:=ZZ (Zys n w b a);generalize Lib.zigzag n=z at *;clear c b a
 go_enter func142,ntmps142
 go_wp2_with fail
 refine d.o.mono ?_;rintro e w' ⟨rfl,rfl⟩
 go_wp2_with fail
 refine g.o.mono ?_;rintro e w' ⟨v',rfl,h,f⟩;have j:=ZZ h;have k:=ZZ f;clear h f g d;go_wp2;go_ret;exact⟨v',rfl,j.o,k.o⟩
end Go.Proofs.YtnahjngbneicaaaGreatDoor
