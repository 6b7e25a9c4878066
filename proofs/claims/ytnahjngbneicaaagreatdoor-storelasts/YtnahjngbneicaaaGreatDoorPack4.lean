import Derived.Test.YtnahjngbneicaaaGreatDoorPack3
import Derived.Lib.LazyBuf
import Derived.Sort.OwnSortedInts
namespace Go.Proofs.YtnahjngbneicaaaGreatDoor
open _root_.Go.Proofs.Tryz
open List (getElem_cons_succ getElem_cons_zero getElem_toArray length_take setIfInBounds_toArray set_cons_succ set_cons_zero)
set_option maxHeartbeats 4000000
set_option maxRecDepth 100000
open Go.RowKit
variable {F:Nat->Prop} {B N T b n p r:Nat} {d:Dk} {L:Lay} {w w':World} {u:Int} {v:Value} {l:List Int} {f:Int->Option Nat}
abbrev zaz:=@Go.wpAnyH_take
abbrev zbh:=@Go.World.cell?_setCell_other
abbrev zbl:=@Go.AllReadyH.cons
abbrev zb7:=@Go.AllReadyH.nil
abbrev zcc:=@Go.wpAnyH_ready
abbrev zcn:=@List.append_assoc
abbrev zcs:=@List.getElem_mem
abbrev zcu:=@Go.run_eql_slice_nil
abbrev zcv:=@of_decide_eq_true
abbrev zcy:=@Option.map_some
abbrev zcz:=@List.length_map
abbrev zc2:=@List.pairwise_append
abbrev zdt:=@Go.wpQuiet_nil
abbrev zd3:=@Option.isSome_none
abbrev zd4:=@Option.isSome_some
abbrev zel:=@List.length_append
abbrev ze3:=@Go.wp_region_quiet_lit
abbrev zfa:=@Go.World.ownsRow.kept
abbrev zfh:=@Go.wpAnyH_done
abbrev zfw:=@Option.map_none
abbrev zfx:=@Nat.mod_lt
abbrev zf8:=@Go.Maps.keyOf_int_inv
theorem ZwY (w:World) (B:Nat) (a:B<=w.heap.size):Own (w.alloc (.cells #[] 5)) B (.slice (some ⟨w.heap.size,0,none⟩) 0 0) []:=
 ⟨rfl,.inr ⟨w.heap.size,0,#[],rfl,a,zaf w _,zat _,zai _,rfl,rfl⟩⟩
theorem ZrX (v:Value) (l:List UInt8) (w:World) (c:Rd w v l) (C:l.length<=70368744177664):
 Calls prog 113 #[v] w fun e w'=>∃ v',e=.returned v'∧Own w' w.heap.size v' l∧Below w.heap.size w w':=by
 have n:=ZZ c;obtain⟨ao,cap,rfl,j,k,b,f⟩:=c
 cases ao with
 | none=>
  have u:=b rfl;have t:l=[]:=zaj (by omega)
  subst t;subst u;clear f b;have z:∀ w,(binOp .eql 53 (.slice none 0 0) (.slice none 0 0)).run prog w=.ok (.bool true) w:=fun w=>zcu w _ _ none 0 0 underlying53
  go_enter func113,ntmps113
  go_wp2;go_ret;exact⟨_,rfl,Own.nil _ _,zac _ _⟩
 | some i=>
  clear f b j k;have z:∀ w,(binOp .eql 53 (.slice (some i) l.length cap) (.slice none 0 0)).run prog w=.ok (.bool false) w:=fun w=>zcu w _ _ (some i) _ _ underlying53
  have y:=ZZ (ZwY w w.heap.size zL);have a:=ZZ ((zac w.heap.size w).alloc zL (.cells #[] 5));have p:=ZZ (n.o.below a.o zL);have q:Hid (w.heap.size<=(w.alloc (.cells #[] 5)).heap.size):=a.o.size
  go_enter func113,ntmps113
  go_wp2_with(at_builtin;refine Xw _ rfl _ _ rfl w.heap.size _ [] rfl y.o _ l rfl p.o (by simp;omega) q.o ?_)
  intro m B d g;have x:=ZZ d;have A:=ZZ (a.o.trans g);clear d g;go_wp2;go_ret;exact⟨m,rfl,x.o,A.o⟩
theorem Zna (n:Int) (j:I64 n) (w:World) (h:Dsk F w p d N T) (q:T<=1000000000):
 Calls prog 75 #[ptr p,.int .i64 n] w fun e w'=>∃ v,e=.returned (.tuple #[v,.int .i64 (Zp d n).2])∧Own w' w.heap.size v (Zp d n).1∧Below w.heap.size w w':=by
 obtain⟨L,h,l,i,-,-⟩:=h;have a:=ZZ (ZgT n j w h);have H:=ZZ h;have y:=ZZ l;have u:=ZZ i;clear h l i;unfold Zp;by_cases b:d.power=0
 ·rw[zab b]
  rw[zab b,zab b] at a;clear b
  go_enter func75,ntmps75
  go_wp2_with fail
  refine a.o.mono ?_;rintro e w' ⟨rfl,rfl⟩;go_wp2;go_ret2;exact⟨_,rfl,Own.nil _ _,zac _ _⟩
 rw[zaa b];rw[zaa b,zaa b] at a;clear b
 cases ho:look (Qm d) n with
 | none=>
  rw[ho] at a
  dsimp only [zfw,zd3,zek,zfl,ZqL] at a ⊢
  clear ho
  go_enter func75,ntmps75
  go_wp2_with fail
  refine a.o.mono ?_;rintro e w' ⟨rfl,rfl⟩;go_wp2;go_ret2;exact⟨_,rfl,Own.nil _ _,zac _ _⟩
 | some f=>
  rw[ho] at a
  dsimp only [zcy,zd4,zej,ZqL] at a ⊢
  have c:f<d.files.length:=(y.o.dir.mayOf ho).2;obtain⟨m,-⟩:=(H.out.rest.file f c).box.cell 0 rfl;have x:=ZZ (H.out.rest.file f c).own.rd;have g:=ZZ (ZrX _ _ w x.o (by have:=u.o.bytes _ (ZbH c);omega))
  obtain⟨B,A,k⟩:=(H.out.rest.file f c).own.shape;rw[k] at m g;clear ho c k q j
  go_enter func75,ntmps75
  go_wp2_with fail
  refine a.o.mono ?_;rintro e w' ⟨rfl,rfl⟩
  go_wp2_with fail
  refine g.o.mono ?_;rintro e C ⟨D,rfl,t,z⟩;go_wp2;go_ret2;exact⟨_,rfl,t,z⟩
theorem ZqM (n:Int) (J:I64 n) (w:World) (h:Dsk F w p d N T):
 Calls prog 59 #[ptr p,.int .i64 n] w fun e w'=>Zgk F w p (X3 d n).1 (X3 d n).2 (N+2) T e w':=by
 have D:=ZZ h;obtain⟨L,h,Q,C,M,O⟩:=h;have a:=ZZ (ZgT n J w h);have H:=ZZ h;have q:=ZZ Q;have t:=ZZ C;have y:=ZZ (And.intro M O);clear h Q C M O;unfold X3;by_cases j:d.power=0
 ·rw[zab j]
  rw[zab j,zab j] at a;clear j
  go_enter func59,ntmps59
  go_wp2_with fail
  refine a.o.mono ?_;rintro e w' ⟨rfl,rfl⟩;go_wp2;go_ret;exact Zgk.same D.o (by omega) zL
 rw[zaa j];rw[zaa j,zaa j] at a;clear j
 cases ho:look (Qm d) n with
 | none=>
  rw[ho] at a
  dsimp only [zfw,zd3,zek,zfl,ZqL] at a ⊢
  clear ho
  go_enter func59,ntmps59
  go_wp2_with fail
  refine a.o.mono ?_;rintro e w' ⟨rfl,rfl⟩;go_wp2;go_ret;exact Zgk.same D.o (by omega) zL
 | some f=>
  rw[ho] at a
  dsimp only [zcy,zd4,zej,ZqL] at a ⊢
  have G:=ZZ ho;have c:f<d.files.length:=(q.o.dir.mayOf ho).2;have m:=ZZ (H.out.rest.file f c);obtain⟨B,-⟩:=(H.out.rest.file f c).box.cell 0 rfl;obtain⟨S,V⟩:=(H.out.rest.file f c).box.cell 1 rfl
  have K:Hid (Xd F (w.setCell ⟨L.ps f,1,none⟩ (.int .i64 ((fl d.files f).b.length:Int))) p { L with vs:=fun i=>if i=f then L.vs f else L.vs i } { d with files:=Gd d.files f } (Jb d) N):=ZZ (H.out.setFile (F':=F) (v':=L.vs f) (x':=⟨(fl d.files f).b,(fl d.files f).b.length⟩) c (fun k _ X _=>zal _ _ _ _ X) ⟨m.o.box.set 1 _,Qh m.o.own fun g u=>zal _ _ _ _ (by
   obtain⟨aa,U⟩:=Dc m.o.own u
   exact U.ne m.o.box (by decide))⟩ (.inl rfl) (fun _ l=>l) (fun g u=>H.out.rest.fv f c g u) (fun k l=>by simpa using H.out.lt k l))
  have E:Hid (Ql F w (w.setCell ⟨L.ps f,1,none⟩ (.int .i64 ((fl d.files f).b.length:Int)))):=ZZ ((Ql.refl _ _).setCell 1 (fun _=>H.out.rest.fp f c) _)
  obtain⟨va,Z,P⟩:=m.o.own.shape;rw[P] at B;obtain⟨z,v⟩:=zgy (w.setCell ⟨L.ps f,1,none⟩ (.int .i64 ((fl d.files f).b.length:Int)));rw[<-v] at K E;have I:=ZZ v;clear ho c P J v
  go_enter func59,ntmps59
  go_wp2_with fail
  refine a.o.mono ?_;rintro e w' ⟨rfl,rfl⟩
  go_upto_region 5 with fail
  rw[<-I.o];clear I B S V
  go_wp2_with fail
  refine(Zcc z K.o y.o.2).mono ?_;rintro e Y ⟨rfl,R,W⟩;go_wp2;go_ret;refine⟨rfl,F,⟨{ L with vs:=fun i=>if i=f then L.vs f else L.vs i },?_,?_,⟨?_,?_,?_⟩,y.o.1,Zdf y.o.2⟩,E.o.trans W (fun _ _ c=>c),fun _ l=>.inl l⟩
  ·rw[ZrU q.o G.o]
   exact R.mono (by omega)
  ·exact q.o.bytes (by simp[Gd]) (ZgR q.o.keep _ zL)
  ·have:=t.o.files
   show(Gd d.files f).length<=_;simp[Gd];omega
  ·have:=t.o.names
   show d.kept.length+d.waits.length<=_;omega
  ·intro x A
   rcases zcg A with A | rfl
   ·exact t.o.bytes x A
   ·have:=t.o.bytes _ (ZbH (q.o.dir.mayOf G.o).2)
    exact this
theorem ZqN {U:Int} (n:Int) (k:I64 n) (w:World) (h:Xd F w p L d U N) (j:OkD d) (g:Bnd d N T) (x:T<=1000000000) (y:0<=U∧U<=1000000000000000):
 Calls prog 104 #[ptr p,.int .i64 n] w fun e w'=>e=.returned (.tuple #[])∧Xd F w' p L d (U-(ZrS d.files (look (Qm d) n):Int)) N∧Ql F w w':=by
 have H:=ZZ h;obtain⟨⟨-,v,A,-,-,-⟩,z,-⟩:=h.cells;have a:=h.rest.now.look k
 cases ho:look (Qm d) n with
 | none=>
  rw[ho] at a;have t:(Instr.lookup 65 (.map (some L.now)) (.int .i64 n) true).run prog w=.ok (.tuple #[.pointer none,.bool false]) w:=a;clear a ho h j g
  go_enter func104,ntmps104
  go_wp2;go_end0;exact⟨rfl,by simpa[ZrS] using H.out,Ql.refl _ _⟩
 | some f=>
  rw[ho] at a;have t:(Instr.lookup 65 (.map (some L.now)) (.int .i64 n) true).run prog w=.ok (.tuple #[.pointer (some ⟨L.ps f,0,none⟩),.bool true]) w:=a;have c:f<d.files.length:=(j.dir.mayOf ho).2;obtain⟨l,-⟩:=(h.rest.file f c).box.cell 0 rfl;obtain⟨C,B,q⟩:=(h.rest.file f c).own.shape;rw[q] at l;have u:=g.bytes _ (ZbH c);obtain⟨m,i⟩:=zgy ((fl d.files f).b.length);have e:ZrS d.files (some f)=m:=i.symm;rw[e];rw[<-i] at l u;clear a ho h j g c q i e k
  go_enter func104,ntmps104
  go_upto_region 2 with fail
  go_region
  go_end0;exact⟨rfl,(H.out.setHead 1 (.int .i64 (U-(m:Int))) ⟨rfl,rfl,rfl⟩ rfl).keep (fun _ _=>rfl) zL,((Ql.refl _ _).setCell 1 (fun _=>H.out.fh) _).drewN 1⟩
theorem Bnd.waited (h:Bnd d N T) (c:Ch) (q:Int):Bnd { d with waits:=d.waits++[c],power:=q } (N+1) T:=
 ⟨by have:=h.files;show d.files.length<=_;omega,by have:=h.names;show d.kept.length+(d.waits++[c]).length<=_;simp;omega,h.bytes⟩
theorem Xd.drewN (h:Xd F w p L d u N) (q:Nat):Xd F (w.drewN q) p L d u N:=h.keep (fun _ _=>rfl) zL
theorem Zkk (n:Int) (v:I64 n) (w:World) (h:Dsk F w p d N T) (D:N<=1000000) (J:T<=1000000000):
 Calls prog 69 #[ptr p,.int .i64 n] w fun e w'=>Zgk F w p (Qj d n).1 (Qj d n).2 (N+2) T e w':=by
 have B:=ZZ h;obtain⟨L,h,t,j,M,O⟩:=h;have a:=ZZ (ZgT n v w h);have H:=ZZ h;have m:=ZZ t;have Q:=ZZ j;have z:=ZZ (And.intro M O);have W:=ZoZ t j D J;have S:=ZZ (ZqN n v w h t j J (by omega))
 clear h t j M O W;unfold Qj;by_cases i:d.power=0
 ·rw[zab i]
  rw[zab i,zab i] at a;clear i
  go_enter func69,ntmps69
  go_wp2_with fail
  refine a.o.mono ?_;rintro e w' ⟨rfl,rfl⟩;go_wp2;go_ret;exact Zgk.same B.o (by omega) zL
 rw[zaa i];rw[zaa i,zaa i] at a;clear i
 cases ho:look (Qm d) n with
 | none=>
  rw[ho] at a
  dsimp only [zfw,zd3,zek,zfl,ZqL] at a ⊢
  clear ho
  go_enter func69,ntmps69
  go_wp2_with fail
  refine a.o.mono ?_;rintro e w' ⟨rfl,rfl⟩;go_wp2;go_ret;exact Zgk.same B.o (by omega) zL
 | some f=>
  rw[ho] at a S
  dsimp only [zcy,zd4,zej,ZqL] at a ⊢
  have I:=ZZ ho;have U:=ZZ (m.o.dir.mayOf ho);clear ho v
  go_enter func69,ntmps69
  go_wp2_with fail
  refine a.o.mono ?_;rintro e w' ⟨rfl,rfl⟩
  go_wp2_with fail
  refine S.o.mono ?_;rintro e g ⟨rfl,R,C⟩;have ab:=ZZ R;have l:=ZZ C;clear R C
  go_wp2_with fail
  refine(ZwW n g).mono ?_;rintro e c ⟨rfl,q⟩;have u:Below g.heap.size g c:=by rw[q];exact(zac _ _).alloc zL _
  have Y:c.heap.size=g.heap.size+1:=by rw[q];simp
  have K:Bk 3 c g.heap.size #[.int .i64 n]:=by rw[q];exact zaf g _
  have ac:=ZZ (ab.o.more u);have ad:Hid (ChV (Gr F g c) c L.ps (.take n) (.func (.func 157) #[] #[ptr g.heap.size])):=ZZ ⟨_,rfl,K,.inr ⟨zat _,by omega⟩⟩
  have x:Hid (Ql F w' c):=ZZ (l.o.trans (G:=fun _=>False) (Ql.ofBelow u) (fun _ _ hf=>hf.elim))
  have P:=ZZ (ZhP c ac.o ad.o m.o U.o.1 D (by have:=Q.o.names;omega))
  clear u Y K q
  go_wp2_with fail
  refine P.o.mono ?_;rintro e y ⟨rfl,X,A,-,-,E⟩
  have aa:Hid (Ql F w' y):=ZZ (x.o.trans E (fun k hk hf=>by
   rcases hf with hf | hf
   ·exact hf
   ·have:=l.o.size;omega))
  have V:=ZZ A;clear A E P
  go_wp2_with fail
  refine(Zcc y V.o z.o.2).mono ?_;rintro e W4 ⟨rfl,Z,ae⟩;go_wp2;go_ret;refine⟨rfl,Gr (Gr F g c) c y,⟨X,?_,?_,(Q.o.waited (.take n) _).mono (by omega) zL,z.o.1,Zdf z.o.2⟩,aa.o.trans ae (fun k hk hf=>?_),fun k hk=>?_⟩
  ·have hu:=ZrW m.o I.o (Y5 d.power)
   have e1:(Jb { d with waits:=d.waits++[.take n],power:=Y5 d.power }:Int)=(Jb d:Int)-(ZrS d.files (some f):Int):=by
    show _=(Jb d:Int)-((fl d.files f).b.length:Int);omega
   rw[e1];exact Z.mono (by omega)
  ·exact m.o.taken I.o _
  ·rcases hf with (hf | hf) | hf
   ·exact hf
   ·have:=l.o.size;omega
   ·have:=x.o.size;omega
  ·rcases hk with (hk | hk) | hk
   ·exact .inl hk
   ·have:=l.o.size;exact .inr (by omega)
   ·have:=x.o.size;exact .inr (by omega)
theorem ZrY (w:World) (a b c:Obj):(((w.alloc a).alloc b).alloc c).heap[w.heap.size]?=some a∧(((w.alloc a).alloc b).alloc c).heap[w.heap.size+1]?=some b∧(((w.alloc a).alloc b).alloc c).heap[w.heap.size+1+1]?=some c:=by
 have e:(w.alloc a).heap.size=w.heap.size+1:=by simp
 have d:((w.alloc a).alloc b).heap.size=w.heap.size+1+1:=by simp
 refine⟨?_,?_,?_⟩
 ·rw[zao _ _ _ (by omega),zao _ _ _ (by omega)]
  exact zaf w a
 ·rw[zao _ _ _ (by omega),<-e]
  exact zaf _ b
 ·rw[<-d]
  exact zaf _ c
theorem ZrZ (n m:Int) (W:I64 n) (hm:I64 m) (w:World) (h:Dsk F w p d N T) (R:N<=1000000) (V:T<=1000000000):
 Calls prog 61 #[ptr p,.int .i64 n,.int .i64 m] w fun e w'=>Zgk F w p (Ji d n m).1 (Ji d n m).2 (N+2) T e w':=by
 have A:=ZZ h;obtain⟨L,h,y,u,X,Y⟩:=h;have a:=ZZ (ZgT n W w h);have H:=ZZ h;have t:=ZZ y;have q:=ZZ u;have j:=ZZ (And.intro X Y);have ae:=ZoZ y u R V;have al:=ZZ (ZqN m hm w h y u V (by omega))
 clear h y u X Y ae;unfold Ji;by_cases c:d.power=0
 ·rw[zab c]
  rw[zab c,zab c] at a;clear c
  go_enter func61,ntmps61
  go_wp2_with fail
  refine a.o.mono ?_;rintro e w' ⟨rfl,rfl⟩;go_wp2;go_ret;exact Zgk.same A.o (by omega) zL
 rw[zaa c];rw[zaa c,zaa c] at a;clear c
 cases ho:look (Qm d) n with
 | none=>
  rw[ho] at a
  dsimp only [zfw,zd3,zek,zfl,ZqL] at a ⊢
  clear ho
  go_enter func61,ntmps61
  go_wp2_with fail
  refine a.o.mono ?_;rintro e w' ⟨rfl,rfl⟩;go_wp2;go_ret;exact Zgk.same A.o (by omega) zL
 | some f=>
  rw[ho] at a
  dsimp only [zcy,zd4,zej,ZqL] at a ⊢
  have U:=ZZ ho;have P:=ZZ (t.o.dir.mayOf ho);have l:=ZZ (ZmS m w);clear ho W hm
  cases hmn:ZdE m with
  | false=>
   rw[zab rfl];rw[hmn] at l;clear hmn
   go_enter func61,ntmps61
   go_wp2_with fail
   refine a.o.mono ?_;rintro e w' ⟨rfl,rfl⟩
   go_wp2_with fail
   refine l.o.mono ?_;rintro e w' ⟨rfl,rfl⟩;go_wp2;go_ret;exact Zgk.same A.o (by omega) zL
  | true=>
  rw[zaa (by simp)]
  rw[hmn] at l;have aa:=ZZ hmn;clear hmn;by_cases i:n=m
  ·rw[zab i]
   have ad:(n != m)=false:=by simpa using i
   clear i
   go_enter func61,ntmps61
   go_wp2_with fail
   refine a.o.mono ?_;rintro e w' ⟨rfl,rfl⟩
   go_wp2_with fail
   refine l.o.mono ?_;rintro e w' ⟨rfl,rfl⟩
   go_wp2_with fail
   refine(Zcc _ H.out j.o.2).mono ?_;rintro e W4 ⟨rfl,C,M⟩;go_wp2;go_ret;exact⟨rfl,F,⟨L,C.mono (by omega),t.o.power _,⟨by have:=q.o.files;show d.files.length<=_;omega,by have:=q.o.names;show d.kept.length+d.waits.length<=_;omega,q.o.bytes⟩,j.o.1,Zdf j.o.2⟩,M,fun _ hk=>.inl hk⟩
  rw[zaa i];have ad:(n != m)=true:=by simpa using i
  have z:=ZZ i;clear i
  go_enter func61,ntmps61
  go_wp2_with fail
  refine a.o.mono ?_;rintro e w' ⟨rfl,rfl⟩
  go_wp2_with fail
  refine l.o.mono ?_;rintro e w' ⟨rfl,rfl⟩
  go_wp2_with fail
  refine al.o.mono ?_;rintro e b ⟨rfl,ab,Q⟩;have ai:=ZZ ab;have v:=ZZ Q;clear ab Q
  go_wp2_with fail
  refine(Zuq n m (L.ps f) b).mono ?_;rintro e g ⟨rfl,x⟩;have B:Below b.heap.size b g:=by rw[x];exact(((zac _ _).alloc zL _).alloc (by simp) _).alloc (by simp;omega) _
  have af:g.heap.size=b.heap.size+1+1+1:=by rw[x];simp
  obtain⟨J,D,K⟩:=ZrY b (.cells #[.int .i64 n] 3) (.cells #[.int .i64 m] 3) (.cells #[ptr (L.ps f)] 115);rw[<-x] at J D K;have aj:=ZZ (ai.o.more B);have ak:Hid (ChV (Gr F b g) g L.ps (.move n m f) (.func (.func 143) #[] #[ptr (b.heap.size+1+1),ptr (b.heap.size+1),ptr b.heap.size])):=ZZ ⟨_,_,_,rfl,J,D,K,.inr ⟨zat _,by omega⟩,.inr ⟨by omega,by omega⟩,.inr ⟨by omega,by omega⟩⟩
  have E:Hid (Ql F w' g):=ZZ (v.o.trans (G:=fun _=>False) (Ql.ofBelow B) (fun _ _ hf=>hf.elim))
  have Z:=ZZ (ZhP g aj.o ak.o t.o ⟨P.o.1,aa.o,z.o,P.o.2⟩ R (by have:=q.o.names;omega))
  clear B af J D K x
  go_wp2_with fail
  refine Z.o.mono ?_;rintro e I ⟨rfl,L3,O,-,-,S⟩
  have ag:Hid (Ql F w' I):=ZZ (E.o.trans S (fun k hk hf=>by
   rcases hf with hf | hf
   ·exact hf
   ·have:=v.o.size;omega))
  have ac:=ZZ O;clear O S Z
  go_wp2_with fail
  refine(Zcc I ac.o j.o.2).mono ?_;rintro e W4 ⟨rfl,C,M⟩;go_wp2;go_ret;refine⟨rfl,Gr (Gr F b g) g I,⟨L3,?_,?_,(q.o.waited (.move n m f) _).mono (by omega) zL,j.o.1,Zdf j.o.2⟩,ag.o.trans M (fun k hk hf=>?_),fun k hk=>?_⟩
  ·have hu:=ZrV t.o z.o U.o (Y5 d.power)
   have e1:(Jb { d with waits:=d.waits++[.move n m f],power:=Y5 d.power }:Int)=(Jb d:Int)-(ZrS d.files (look (Qm d) m):Int):=by omega
   rw[e1];exact C.mono (by omega)
  ·exact t.o.moved U.o aa.o z.o _
  ·rcases hf with (hf | hf) | hf
   ·exact hf
   ·have:=v.o.size;omega
   ·have:=E.o.size;omega
  ·rcases hk with (hk | hk) | hk
   ·exact .inl hk
   ·have:=v.o.size;exact .inr (by omega)
   ·have:=E.o.size;exact .inr (by omega)
open Go.RowKit Go.ChangeShapes
theorem ZhT:prog.cellsOf 3=1:=by kernel_rfl
theorem Zsa:prog.cellsOf 23=1:=by kernel_rfl
theorem Z1 {n:Int} (h:(Lit.int .i64 n).wf=true):I64 n:=by
 simpa[I64,Lit.wf,IntKind.min,IntKind.max,IntKind.signed,IntKind.bits] using h
section
variable {H:Type} {enc:TypeId × Value->H} {w:World} {base fuel:Nat} {held:Bool}
theorem ZqO {cs:List Value} {x:DataW H × List MemPlace} (h:DataW.trod enc prog w base (fun _=>true) held fuel 23 cs=some x):∃ v l,cs=[v]∧RdI w v l:=by
 rcases open_ints underlying23 underlying3 (by kernel_rfl) h with ⟨a,_⟩ | ⟨y,l,c,i,a,_,g,e,b,_,d,f⟩
 ·exact⟨_,[],a,RdI.nil _⟩
 ·exact⟨_,_,a,RdI.ofRow g e (by simpa using b) d f⟩
end
open Go.RowKit Go.Maps Go.Shelf
theorem Zuu (w:World) (h:Qs w B v l) (u:l.length<=10000000):
 Calls prog 67 #[v] w fun e w'=>e=.returned (.tuple #[])∧Qs w' B v (l.mergeSort fun x y=>decide (x<=y))∧w.grownBy w' v.ownBlock:=by
 have c:=h;have f:w.grownBy w v.ownBlock:=⟨rfl,rfl,rfl,zat _,fun _ _ _=>rfl⟩
 rcases h.2 with ⟨rfl,k⟩ | ⟨g,cap,cur,rfl,p,b,t,j,i,d⟩
 ·have e:l=[]:=zaj k
  subst e;have a:=Any.slices_Sort_int_none ZAj none 0 w;refine a.mono ?_;rintro e w' ⟨rfl,rfl⟩;exact⟨rfl,by simpa using c,f⟩
 ·by_cases e:l=[]
  ·subst e
   have a:=Any.slices_Sort_int_none ZAj (some ⟨g,0,none⟩) cap w;refine a.mono ?_;rintro e w' ⟨rfl,rfl⟩;exact⟨rfl,by simpa using c,f⟩
  ·have m:Sort.Holds (Value.int .i64) w g 0 l.toArray:=holds_of_blockI b (by rw[zch] at d;exact d)
   have a:=Any.slices_Sort_int ZAj g 0 cap l w m (zan.1 b).1 (by omega)
   refine a.mono ?_;rintro e w' ⟨rfl,n,os,rfl⟩;refine⟨rfl,?_,grownBy_sortedI _⟩;have q:=ownsRow_sortedI (n:=n) (os:=os) (ss:=l) (ts:=l.mergeSort fun x y=>decide (x<=y)) (by simp) p b t j i
   unfold Qs;rw[show(l.mergeSort fun x y=>decide (x<=y)).length=l.length by simp]
   exact q
structure Met (f:Int->Option Nat) (left:Lit->Bool) (l:List Int):Prop where
 mem:∀ p,I64 p->(p ∈ l↔(f p).isSome=true∧left (.int .i64 p)=false)
 nd:l.Nodup
 i:∀ p ∈ l,I64 p
theorem Met.step {left:Lit->Bool} (h:Met f left l) {x:Int} (d:I64 x) (m:left (.int .i64 x)=true) (k:(f x).isSome=true):Met f (fun z=>left z && !z.sameKey (.int .i64 x)) (l++[x]):=by
 refine⟨fun p hp=>?_,?_,fun p hp=>?_⟩
 ·rw[zaw,h.mem p hp,zaq]
  by_cases e:p=x
  ·subst e
   have c:(Lit.int .i64 p).sameKey (.int .i64 p)=true:=WideAt.sameKey_self (by first | exact trivial | simp[WideAt.IsKeyLit])
   simp[c,k]
  ·have c:(Lit.int .i64 p).sameKey (.int .i64 x)=false:=sameKey_ne (by intro h;injection h with _ h;exact e h)
   simp[c,e]
 ·rw[List.nodup_append]
  refine⟨h.nd,by simp,fun a j b g=>?_⟩
  rw[zaq.1 g];rintro rfl;have:=((h.mem a d).1 j).2;rw[m] at this
  cases this
 ·rcases zaw.1 hp with hp | hp
  ·exact h.i p hp
  ·rw[zaq.1 hp];exact d
theorem Met.done {left:Lit->Bool} (h:Met f left l) (v:∀ k,left k=false) {d:Dir} (g:Xa d) (A:∀ p ∈ d,I64 p.1) (n:∀ p,I64 p->(f p).isSome=(look d p).isSome):(l.mergeSort fun x y=>decide (x<=y))=d.map Prod.fst:=by
 have z:(l.mergeSort fun x y=>decide (x<=y)).Pairwise (fun a b=>decide (a<=b)=true):=List.pairwise_mergeSort (fun a b c e u=>by simp only [zde] at *;omega) (fun a b=>by simp only [Bool.or_eq_true,zde];omega) l
 have q:=List.mergeSort_perm l fun x y=>decide (x<=y)
 have w:(l.mergeSort fun x y=>decide (x<=y)).Nodup:=q.nodup_iff.2 h.nd
 refine Zgb ?_ (Zga g) fun x=>?_
 ·refine(z.and w).imp fun {a b} hab=>?_
  have e:=zcv hab.1;have u:=hab.2;omega
 ·rw[q.mem_iff,zbd]
  constructor
  ·intro j
   have e:=((h.mem x (h.i x j)).1 j).1;rw[n x (h.i x j)] at e;obtain⟨y,t⟩:=Option.isSome_iff_exists.1 e;exact⟨(x,y),(Zb g x y).1 t,rfl⟩
  ·rintro⟨p,hpd,rfl⟩
   have m:=A p hpd;have e:look d p.1=some p.2:=(Zb g p.1 p.2).2 hpd;exact(h.mem p.1 m).2 ⟨by rw[n p.1 m,e];rfl,v _⟩
theorem ZhU {D:DataW Unit} (h:w.ownsMap prog 3 ZaF b n D):Maps.size D<=n:=by
 obtain⟨c,e,d,F,a,rfl⟩:=h;rw[size_eq,length_sorted];simpa using a
theorem Zpa {a:Nat} {D:DataW Unit} {left:Lit->Bool} (h:w.ranges prog 3 ZaF b r n D left a) (g:w'.heap[b]?=w.heap[b]?) (f:w'.heap[r]?=w.heap[r]?):w'.ranges prog 3 ZaF b r n D left a:=by
 obtain⟨c,j,m,l,d,p,F,k,i,e,rest⟩:=h;exact⟨c,j,m,l,d,g.trans p,F,k,i,f.trans e,rest⟩
theorem ZeC (w:World) (h:Xd F w p L d u N) (B:OkD d) (hN:N<=1000000):
 Calls prog 28 #[ptr p] w fun e w'=>∃ v,e=.returned v∧Qs w' w.heap.size v ((Qm d).map Prod.fst)∧Below w.heap.size w w':=by
 obtain⟨⟨-,-,c2,-,-,-⟩,-⟩:=h.cells;obtain⟨D,C,V⟩:=h.rest.now;have ao:=ZZ C;have O:Hid (Maps.size D<=N):=ZZ (ZhU C);have ad:Hid (L.now<w.heap.size):=ZZ h.rest.now.lt;have Z:Hid (∀ q,I64 q->Maps.has D (.int .i64 q)=(look (Qm d) q).isSome):=ZZ (fun q G=>by rw[V.has G];cases look (Qm d) q <;> rfl)
 have au:Hid (∀ left l,Met (look (Qm d)) left l->(∀ k,left k=false)->(l.mergeSort fun x y=>decide (x<=y))=(Qm d).map Prod.fst):=ZZ (fun left l hm hl=>hm.done hl B.dir.rise (fun p hp=>Zcd (B.dir.may p hp).1) (fun _ _=>rfl))
 clear h C V B
 go_enter func28,ntmps28
 go_wp2_with(first
  | (at_range;refine wpList_range_own _ rfl _ 65 rfl 3 115 ZbC underlying65 ZaF L.now N D rfl ao.o ?_;intro w0 af g av)
  | go_in)
 go_frame
 go_loopw[3] (fun v wr=>∃ (left:Lit->Bool) (z:Nat) (l:List Int),Hid (wr.ranges prog 3 ZaF L.now w.heap.size N D left z)∧z+l.length<=Maps.size D∧Hid (Qs wr (w.heap.size+1) v l)∧Hid (Met (look (Qm d)) left l)∧Hid (Below w.heap.size w wr∧w.heap.size+1<=wr.heap.size))
  (fun _ wr=>wr.rangeLeft L.now w.heap.size)
 case atStart=>
  refine⟨_,_,[],ZZ af,by simp,ZZ (Qs.nil _ _),ZZ ⟨fun q G=>?_,List.nodup_nil,by simp⟩,ZZ ⟨⟨g.os,g.tape,g.output,g.size,fun k a=>g.block k a (by simp)⟩,by omega⟩⟩
  rw[Z.o q G]
  cases look (Qm d) q <;> simp
 case round=>
  obtain⟨left,z,l,ab,ar,n,X,i⟩:=hrel
  go_wp2_with(first
   | (at_next;refine wpList_next_ranges _ rfl _ rfl 3 ZbC ZaF (Value.int .i64) (fun b:Nat=>ptr b) (fun key kl a=>by obtain⟨x,rfl,_⟩:=zf8 underlying3 a;exact⟨x,rfl⟩) (fun v y t=>by obtain⟨c,rfl,_⟩:=ZdN t;exact⟨c,rfl⟩) L.now w.heap.size N _ _ _ rfl ab.o ?_ ?_)
   | go_in)
  ·intro aj W
   have aq:=ZZ W;have ai:l.length<=10000000:=by have:=O.o;omega
   have HS:=ZZ (Zuu _ n.o ai);clear aj W
   go_wp2_with fail
   refine HS.o.mono ?_;rintro e W1 ⟨rfl,Y,f⟩;have ak:Hid (Below w.heap.size w W1):=ZZ (i.o.1.grown f i.o.1.size (fun k a=>by have:=(zar n.o k a).1;omega))
   have A:=ZZ Y;clear Y f;go_wp2;go_ret;refine⟨_,rfl,?_,ak.o⟩;rw[<-au.o _ _ X.o aq.o];exact A.o.mono (by omega)
  ·intro x c kl yd yp m T S U t P H K f ap aw
   obtain⟨x',ex,rfl,J⟩:=zf8 underlying3 S
   cases ex
   have R:=ZZ (Z1 J);have HF:Hid ((look (Qm d) x).isSome=true):=ZZ (by rw[<-Z.o x R.o];exact has_true_of_atKey P)
   have al:=ZZ (X.o.step R.o U HF.o);have am:=ZZ H;have A:Hid (Qs m (w.heap.size+1) _ l):=ZZ (zfa n.o f (.inr (fun e=>by have:=(zar n.o _ e).1;omega)))
   have E:Hid (Below w.heap.size w m∧w.heap.size+1<=m.heap.size):=ZZ ⟨i.o.1.grown f i.o.1.size (fun k a=>by have:=zak a;omega),by have:=i.o.2;omega⟩
   have ag:=ZZ K
   have I:l.length<=1000000∧T+(l++[x]).length<=Maps.size D:=by
    have:=O.o;simp only [zel,zcm];omega
   have M:=ZZ I;clear S U t P H K f ap J I ar
   go_wp2_with(at_builtin;refine(fun(h:True->_)=>h trivial) ?_)
   intro _;refine Zfp m rfl _ _ rfl (w.heap.size+1) u3 l rfl A.o x rfl M.o.1 E.o.2 ?_;intro v2 Q aa j;have an:=ZZ aa;have ac:=ZZ (Zpa am.o (j.block _ (by have:=ad.o;omega)) (j.block _ (by omega)))
   have ae:Hid (Below w.heap.size w Q∧w.heap.size+1<=Q.heap.size):=ZZ ⟨E.o.1.trans (j.mono (by omega)),by have:=E.o.2;have:=j.size;omega⟩
   clear aa j;go_wp2;go_roundw
   case rel=>exact⟨_,T,l++[x],ac,M.o.2,an,al,ae⟩
   case measure=>rw[ac.o.left_eq,ab.o.left_eq];exact ag.o
theorem Xd.synced {b:World} (h:Xd F w p L d u N) (t:Below w.heap.size w b) (y:b.heap.size=w.heap.size+1) (x:Yj b w.heap.size N (fun n=>(look (Qm d) n).map L.ps)):
 Xd (Gr F w b) ((b.setCell ⟨p,3,none⟩ (.map (some w.heap.size))).setCell ⟨p,4,none⟩ (.slice none 0 0)) p { L with kept:=w.heap.size,wv:=.slice none 0 0,cs:=[] } { d with kept:=Qm d,waits:=[] } u N:=by
 have e:=h.more t;have q:=e.rest
 have j:∀ k,k≠p->((b.setCell ⟨p,3,none⟩ (.map (some w.heap.size))).setCell ⟨p,4,none⟩ (.slice none 0 0)).heap[k]?=b.heap[k]?:=fun k f=>by
  rw[zal _ _ _ _ f,zal _ _ _ _ f]
 have a:=q.keep e.head (fun k _ f=>j k f)
 refine⟨(e.head.set 3 _).set 4 _,⟨a.now,x.keep (j _ (by have:=h.lt p h.fh;show w.heap.size≠p;omega)),zcb _ _ _ _,rfl,(fun i c v l=>by simp at l),a.file,a.psn,a.vsn,?_,a.fn,.inr ⟨zat _,by show w.heap.size<_;omega⟩,(fun g m=>by cases m),a.fp,a.fv⟩,e.fh,fun k j=>?_⟩
 ·have:=h.rest.now.lt
  show L.now≠w.heap.size;omega
 ·have:=e.lt k j
  simpa using this
theorem Zpb (w:World) (h:Dsk F w p d N T):
 Calls prog 107 #[ptr p] w fun e w'=>Zgk F w p (Qn d).1 (Qn d).2 (N+2) T e w':=by
 have I:=ZZ h;obtain⟨L,h,E,m,v,x⟩:=h;have H:=ZZ h;have z:=ZZ E;have i:=ZZ m;have j:=ZZ (And.intro v x);have c:=ZZ (ZmR w h);obtain⟨⟨-,-,S,J,Q,-⟩,-,U,O,-⟩:=h.cells;have G:=ZZ (ZrR h.rest.now);clear E m v x;unfold Qn;by_cases a:d.power=0
 ·rw[zab a]
  rw[a] at c;clear a h
  go_enter func107,ntmps107
  go_wp2_with fail
  refine c.o.mono ?_;rintro e w' ⟨rfl,rfl⟩;go_wp2;go_ret;exact Zgk.same I.o (by omega) zL
 rw[zaa a];have A:(d.power != 0)=true:=by simpa using a
 rw[A] at c;clear a A h
 go_enter func107,ntmps107
 go_wp2_with fail
 refine c.o.mono ?_;rintro e w' ⟨rfl,rfl⟩
 go_wp2_with fail
 refine G.o.mono ?_;rintro e B ⟨rfl,C,f,b⟩;have u:=ZZ (H.out.synced b f C);have n:=ZZ (H.out.more b);have aa:=ZZ b;obtain⟨⟨-,-,-,V,t,-⟩,-,K,R,-⟩:=n.o.cells;obtain⟨va,vn,Z,D⟩:=Zez n.o.rest.row;rw[D] at t;have q:Hid (Ql F w' ((B.setCell ⟨p,3,none⟩ (.map (some w'.heap.size))).setCell ⟨p,4,none⟩ (.slice none 0 0))):=ZZ (((Ql.ofBelow b).setCell 3 (fun _=>H.out.fh) _).setCell 4 (fun _=>H.out.fh) _)
 obtain⟨g,l⟩:=zgy ((B.setCell ⟨p,3,none⟩ (.map (some w'.heap.size))).setCell ⟨p,4,none⟩ (.slice none 0 0));rw[<-l] at u q;have y:=ZZ l;have Y:=ZZ f;clear S J Q U O C f b D l
 go_upto_region 5 with fail
 rw[<-y.o];clear y V t K R
 go_wp2_with fail
 refine(Zcc g u.o j.o.2).mono ?_;rintro e X ⟨rfl,M,W⟩;go_wp2;go_ret;refine⟨rfl,_,⟨_,M.mono (by omega),ZgQ (fs:=d.files) z.o.dir z.o.keep,⟨by have:=i.o.files;show d.files.length<=_;omega,?_,i.o.bytes⟩,j.o.1,Zdf j.o.2⟩,q.o.trans W (fun k hk hf=>?_),fun k hk=>?_⟩
 ·have h1:=i.o.names
  have P:=Zbt d d.waits.length;rw[Zdc] at P;show(Qm d).length+0<=_;omega
 ·rcases hf with hf | hf
  ·exact hf
  ·omega
 ·rcases hk with hk | hk
  ·exact .inl hk
  ·exact .inr hk.1
open Go.RowKit Go.Maps
open Go.ChangeMaps Go.MapKept
open Go.WideElems (Fit rd rg pl rd_val elemAt)
theorem Znb:∀ {a b:List Int},a.Nodup->(∀ x ∈ a,x ∈ b)->a.length<=b.length
 | [],_,_,_=>zai _
 | x::a,b,hn,hs=>by
  rw[List.nodup_cons] at hn;have c:=hs x (List.mem_cons_self ..);have e:=Znb (a:=a) (b:=b.erase x) hn.2 fun y d=>(List.mem_erase_of_ne (by rintro rfl;exact hn.1 d)).2 (hs y (List.mem_cons_of_mem _ d))
  have g:=List.length_erase_of_mem c;have f:=List.length_pos_of_mem c;rw[zb9];omega
def toI:Value->Int
 | .int _ x=>x
 | _=>0
theorem Yj.tight (h:Yj w b n f) {l:List Int} (I:∀ p,I64 p->(f p).isSome=true->p ∈ l):Yj w b l.length f:=by
 obtain⟨D,⟨g,v,u,F,O,rfl⟩,t⟩:=h
 have m:∀ e ∈ g.toList,∃ x,e.key=.int .i64 x∧I64 x:=fun e i=>by
  obtain⟨y,j⟩:=F.reads e i;obtain⟨x,d,_,H⟩:=zf8 underlying3 (WideElems.rd_key j);exact⟨x,d,Z1 H⟩
 refine⟨_,⟨g,v,u,F,?_,rfl⟩,t⟩
 have K:(g.toList.map fun e=>toI e.key).Nodup:=by
  have N:=((stamped_iff g v).1 F.stamped).2.2;rw[List.Nodup,zea];refine List.Pairwise.imp_of_mem ?_ N;intro a c M J E e;obtain⟨x,d,_⟩:=m a M;obtain⟨y,j,_⟩:=m c J;rw[d,j] at e;have:x=y:=e;exact E (by rw[d,j,this])
 have A:∀ x ∈ (g.toList.map fun e=>toI e.key),x ∈ l:=fun x d=>by
  obtain⟨e,i,rfl⟩:=zbd.1 d;obtain⟨x,d,k⟩:=m e i;rw[d];refine I x k ?_;rcases Maps.fit_look false ZbC underlying65 (Zun w) u F (ze9 underlying3 (ZwR k)) with ⟨_,C,_⟩ | ⟨P,y,_,_,_,B,L,_⟩
  ·exact absurd d (C e i)
  ·cases ef:f x with
   | some _=>rfl
   | none=>
    obtain⟨G,_,rfl⟩:=ZdN B;refine(Zup (x:=G) fun z=>?_).elim
    have q:=L z;rw[t x k z,ef] at q;exact q.symm
 have:=Znb K A;simpa using this
theorem Zuv {s:Nat} {t:TypeId} {xs:List Value} (h:w.ownsRow 0 t s v n xs):∃ ao cap,v=.slice ao n cap∧n<=cap∧((ao=none∧cap=0)∨∃ g,ao=some ⟨g,0,none⟩):=by
 rcases h.2 with ⟨a,c⟩ | ⟨g,cap,cur,a,_,_,b,_⟩
 ·exact⟨none,0,by rw[a,c],by omega,.inl ⟨rfl,rfl⟩⟩
 ·exact⟨some ⟨g,0,none⟩,cap,a,b,.inr ⟨g,rfl⟩⟩
theorem _root_.Go.World.grownBy.trans2 {a b c:World} (h:a.grownBy b (some r)) (k:b.grownBy c (some r)):a.grownBy c (some r):=ZhO h k
theorem Xd.lost {l:Dir} (h:Xd F w p L d u N) (B:w.heap.size<=w'.heap.size)
 (m:∀ k,F k->k≠p->k≠L.now->k≠L.kept->w'.heap[k]?=w.heap[k]?) (z:Bk 69 w' p (ZfD { L with wv:=.slice none 0 0,cs:=[] } d u))
 (A:Yj w' L.now N (fun n=>(look l n).map L.ps)) (q:Yj w' L.kept N (fun n=>(look l n).map L.ps)):
 Xd F w' p { L with wv:=.slice none 0 0,cs:=[] } { d with kept:=l,waits:=[] } u N:=by
 have a:=h.rest;have e:∀ {t:TypeId} {k:Nat} {cs:Array Value},Bk t w k cs->F k->t≠69->w'.heap[k]?=w.heap[k]?:=fun e j y=>m _ j (e.ne h.head y) (e.neMap a.now) (e.neMap a.kept)
 refine⟨z,⟨A,q,zcb _ _ _ _,rfl,(fun i c v b=>by simp at b),fun i b=>?_,a.psn,a.vsn,a.nk,a.fn,a.fk,(fun g f=>by cases f),a.fp,a.fv⟩,h.fh,fun k j=>by have:=h.lt k j;omega⟩
 refine(a.file i b).keep (e (a.file i b).box (a.fp i b) (by decide)) fun g f=>?_
 obtain⟨C,x⟩:=Dc (a.file i b).own f;exact e x (a.fv i b g f) (by decide)
theorem ZhV (names:Int) (w:World) (h:Xd F w p L d u N) (ai:OkD d) (ag:Bnd d N T) (hN:N<=1000000):
 Calls prog 31 #[ptr p,.int .i64 names] w fun e w'=>e=.returned (.tuple #[])∧Xd F w' p { L with wv:=.slice none 0 0,cs:=[] } { d with kept:=Ym d (Z4 names d.waits.length),waits:=[] } u N∧Ql F w w':=by
 have H:=ZZ h;have aH:=ZZ ai;have aR:=ZZ ag;have hW:d.waits.length<=N:=by have:=ag.names;omega
 obtain⟨K,Z⟩:=zgy (Z4 names d.waits.length);have a1:K<=d.waits.length:=by rw[Z];exact Zcy _ _
 rw[<-Z];have aA:Hid (∀ q,Calls prog 72 #[.int .i64 names,.int .i64 (d.waits.length:Int)] (w.drewN q) fun e w'=>e=.returned (.int .i64 (K:Int))∧w'=w.drewN q):=ZZ (fun q=>by rw[Z];exact ZmT names d.waits.length (by omega) (w.drewN q))
 obtain⟨⟨-,-,-,c3,c4,-⟩,-,-,f4,-⟩:=h.cells;obtain⟨ao,cap,O,aI,ad⟩:=Zuv h.rest.row;rw[h.rest.many] at O aI;rw[O] at c4;have aZ:=ZZ O
 have aD:Hid (∀ k,k<K->∃ g c x,ao=some ⟨g,0,none⟩∧d.waits[k]?=some c∧ChV F w L.ps c x∧w.cell? ⟨g,k,none⟩=some x∧ZtN d.files.length c∧Ym d (k+1)=chD (Ym d k) c∧g≠L.kept):=ZZ (fun k hk=>by
  have R:k<d.waits.length:=by omega
  have ar:k<L.cs.length:=by rw[h.rest.many];exact R
  rcases ad with ⟨_,a0⟩ | ⟨g,rfl⟩
  ·omega
  ·have aG:L.wv.ownBlock=some g:=by rw[O];rfl
   refine⟨g,d.waits[k],L.cs[k],rfl,za3 R,h.rest.wait k _ _ (za3 R) (za3 ar),?_,ai.chs _ (zcs R),ZtT d R,?_⟩
   ·have:=zct h.rest.row aG k _ (za3 ar)
    rw[zbg,za5] at this;exact this
   ·obtain⟨a2,aW⟩:=Dc h.rest.row aG
    exact aW.neMap h.rest.kept)
 clear ai ag O ad Z h
 go_enter func31,ntmps31
 go_wp2;refine ze3 (by kernel_rfl) (by kernel_rfl) ?_
 repeat (go_big_quiet_step ((go_at_call 72;exact Calls.quiet_of_same (aA.o _))))
 refine zdt ?_;rintro _ ⟨nq,rfl⟩;have a:Hid (Xd F (w.drewN nq) p L d u N):=ZZ (H.out.drewN nq)
 have af:Hid (∀ k,k<K->∃ g c x,ao=some ⟨g,0,none⟩∧d.waits[k]?=some c∧ChV F (w.drewN nq) L.ps c x∧(w.drewN nq).cell? ⟨g,k,none⟩=some x∧ZtN d.files.length c∧Ym d (k+1)=chD (Ym d k) c∧g≠L.kept):=ZZ (fun k hk=>by
  obtain⟨g,c,x,t,v,E,h4,h5,h6⟩:=aD.o k hk
  exact⟨g,c,x,t,v,E.keep (fun _ i=>i) (fun _ _=>rfl) (fun _ _ _ _=>rfl),h4,h5,h6⟩)
 have aB:Hid (Ql F w (w.drewN nq)):=ZZ ((Ql.refl _ _).drewN nq);obtain⟨W,av⟩:=zgy (w.drewN nq);rw[<-av] at a af aB ⊢;clear av aA aD c3 c4 f4 H;go_wp2
 go_loopw[19] (fun vi wr=>∃ k:Nat,vi=.int .i64 (k:Int)∧k<=K∧Hid (Yj wr L.kept (N+k) (fun n=>(look (Ym d k) n).map L.ps))∧Hid (W.grownBy wr (some L.kept))) (fun vi _=>K-(intOf vi).toNat)
 case atStart=>exact⟨0,rfl,zai _,ZZ (by rw[Zei];exact a.o.rest.kept),ZZ ⟨rfl,rfl,rfl,zat _,fun _ _ _=>rfl⟩⟩
 case round=>
  obtain⟨k,rfl,aX,Q,z⟩:=hrel;have ac:=ZZ (a.o.head.keep (z.o.block p a.o.head.lt (fun e=>(a.o.head.neMap a.o.rest.kept) (zak e))))
  by_cases aJ:k<K
  ·obtain⟨g,c,x,ad,hc,P,I,V,aF,ax⟩:=af.o k aJ
   have aj:Hid (∀ n',look (Ym d (k+1)) n'=chF (look (Ym d k)) c n'):=ZZ (fun n'=>by rw[aF];exact Zdb (aH.o.dirs k).rise c (ZmY V) n')
   have P:ChV F wr L.ps c x:=P.keep (fun _ i=>i) (fun _ _=>rfl) (fun j cs i hb=>z.o.block j (a.o.lt j i) (fun e=>by
    rcases hb with hb | hb <;> exact(hb.neMap a.o.rest.kept) (zak e)))
   have I:wr.cell? ⟨g,k,none⟩=some x:=(z.o.cell I (fun e=>ax (zak e)))
   obtain⟨d3,-⟩:=ac.o.cell 3 rfl;subst ad;clear aF ax hc
   cases c with
   | give n f=>
    obtain⟨b1,b2,A,t,v,-,-⟩:=P;have S:=ZZ (ZmV (f:=f) V.1 wr t v Q.o (by omega))
    rw[A] at I;clear A t v
    go_wp2_with fail
    refine S.o.mono ?_;rintro e Y ⟨rfl,C,B⟩;have U:Hid (Yj Y L.kept (N+(k+1)) (fun n=>(look (Ym d (k+1)) n).map L.ps)):=ZZ (C.fun fun n' _=>by rw[aj.o])
    have M:=ZZ (z.o.trans2 B);clear C B;go_wp2;go_roundw
    case rel=>exact⟨k+1,by go_num,by omega,U,M⟩
    case measure=>simp[intOf];omega
   | move n m f=>
    obtain⟨b1,b2,b3,A,t,v,E,-,-,-⟩:=P;have S:=ZZ (ZmW (f:=f) V.1 V.2.1 wr t v E Q.o (by omega))
    rw[A] at I;clear A t v E
    go_wp2_with fail
    refine S.o.mono ?_;rintro e Y ⟨rfl,C,B⟩;have U:Hid (Yj Y L.kept (N+(k+1)) (fun n=>(look (Ym d (k+1)) n).map L.ps)):=ZZ (C.fun fun n' _=>by rw[aj.o])
    have M:=ZZ (z.o.trans2 B);clear C B;go_wp2;go_roundw
    case rel=>exact⟨k+1,by go_num,by omega,U,M⟩
    case measure=>simp[intOf];omega
   | take n=>
    obtain⟨b1,A,t,-⟩:=P;have S:=ZZ (ZmX V wr t Q.o );rw[A] at I;clear A t
    go_wp2_with fail
    refine S.o.mono ?_;rintro e Y ⟨rfl,C,B⟩;have U:Hid (Yj Y L.kept (N+(k+1)) (fun n=>(look (Ym d (k+1)) n).map L.ps)):=ZZ (C.fun fun n' _=>by rw[aj.o])
    have M:=ZZ (z.o.trans2 B);clear C B;go_wp2;go_roundw
    case rel=>exact⟨k+1,by go_num,by omega,U,M⟩
    case measure=>simp[intOf];omega
  ·have aV:Hid (k=K):=ZZ (by omega)
   obtain⟨va,vn,vc,az⟩:=Zez a.o.rest.row;obtain⟨d4,e4⟩:=ac.o.cell 4 rfl;obtain⟨d2,-⟩:=ac.o.cell 2 rfl;have an:wr.cell? ⟨p,4,none⟩=some L.wv:=d4;rw[az] at an;have aa:=ZZ (ac.o.set 4 (.slice none 0 0));have aC:Hid (Yj (wr.setCell ⟨p,4,none⟩ (.slice none 0 0)) L.now N (fun n=>(look (Qm d) n).map L.ps)):=ZZ (a.o.rest.now.keep ((zal _ _ _ _ (a.o.head.neMap a.o.rest.now).symm).trans (z.o.block _ a.o.rest.now.lt (fun e=>a.o.rest.nk (zak e)))))
   have al:Hid (Yj (wr.setCell ⟨p,4,none⟩ (.slice none 0 0)) L.kept (N+k) (fun n=>(look (Ym d k) n).map L.ps)):=ZZ (Q.o.keep (zal _ _ _ _ (a.o.head.neMap a.o.rest.kept).symm))
   obtain⟨D,G⟩:=zgy (wr.setCell ⟨p,4,none⟩ (.slice none 0 0))
   have aQ:Hid (Ql F w D):=ZZ (by
    rw[G]
    exact(aB.o.trans (Ql.ofGrown z.o (fun j e _=>by obtain rfl:=zak e;exact a.o.rest.fk)) (fun _ _ i=>i)).setCell 4 (fun _=>a.o.fh) _)
   have aL:Hid (∀ j,F j->j≠p->j≠L.kept->D.heap[j]?=W.heap[j]?):=ZZ (fun j i t v=>by
    rw[G,zal _ _ _ _ t]
    exact z.o.block j (a.o.lt j i) (fun e=>v (zak e)))
   have aK:Hid (W.heap.size<=D.heap.size):=ZZ (by rw[G];have:=z.o.size;simpa using this)
   rw[<-G] at aa aC al;have au:=ZZ G;clear az d4 G Q af
   go_upto_region 6 with fail
   rw[<-au.o];clear au an e4 d2;obtain⟨d2,-⟩:=aa.o.cell 2 rfl
   go_wp2_with(first | (with_reducible refine ZjF D rfl _ rfl L.now N _ rfl aC.o ?_);intro y ay ab)
   have am:=ZZ (aa.o.keep (ab.block p aa.o.lt (fun e=>(a.o.head.neMap a.o.rest.now) (zak e))))
   have aE:=ZZ (al.o.keep (ab.block _ al.o.lt (fun e=>a.o.rest.nk (zak e).symm)))
   have aP:=ZZ ay;have ak:=ZZ ab;clear ay ab d2;have d2:y.cell? ⟨p,2,none⟩=some (.map (some L.now)):=(am.o.cell 2 rfl).1;have d3:y.cell? ⟨p,3,none⟩=some (.map (some L.kept)):=(am.o.cell 3 rfl).1;have aN:N+k<=10000000:=by omega
   have aw:Hid (∀ (X:World) (b n:Nat),Yj X b n (fun n=>(look (Ym d k) n).map L.ps)->Yj X b N (fun n=>(look (Ym d k) n).map L.ps)):=ZZ (fun _ _ _ hm=>(hm.tight (l:=(Ym d k).map Prod.fst) (fun q _ hq=>by
    cases e:look (Ym d k) q with
    | none=>rw[e] at hq;cases hq
    | some f=>exact zbd.2 ⟨(q,f),(Zb (aH.o.dirs k).rise q f).1 e,rfl⟩)).mono (by
     have t:=Zbt d k;have v:=aR.o.names;simp only [zcz]
     omega))
   have aT:=ZZ (ZwT (w:=y.drew) (aP.o.keep rfl) (aE.o.keep rfl) a.o.rest.nk aN)
   go_upto_region 7 with fail
   go_region_with
    (first
     | (go_at_call 73;refine aT.o.mono ?_;rintro e W4 ⟨rfl,aq,ap⟩;have aS:=ZZ aq;have J:=ZZ ap;clear aq ap))
   all_goals
    go_wp2;go_end0;have aM:y.heap.size<=W4.heap.size:=J.o.size;have ae:∀ j,j<y.heap.size->j≠L.now->W4.heap[j]?=y.heap[j]?:=fun j hj hn=>J.o.block j hj (fun e=>hn (zak e))
    have aY:=ak.o.size;have a3:=aK.o;have aU:p<y.heap.size:=by have:=a.o.head.lt;omega
    have aO:L.kept<y.heap.size:=by have:=a.o.rest.kept.lt;omega
    rw[<-aV.o];refine⟨rfl,a.o.lost (l:=Ym d k) (by omega) (fun j i t v E=>?_) ?_ (aw.o _ _ _ aS.o) (aw.o _ _ _ (aE.o.keep (ae _ aO (Ne.symm a.o.rest.nk)))),?_⟩
    ·have hj:=a.o.lt j i
     rw[ae j (by omega) v,ak.o.block j (by omega) (fun e=>v (zak e))]
     exact aL.o j i t E
    ·exact am.o.keep (ae p aU (a.o.head.neMap a.o.rest.now))
    ·have o3:Ql F D y:=Ql.ofGrown ak.o (fun j e _=>by obtain rfl:=zak e;exact a.o.rest.fn)
     have o4:Ql F y W4:=⟨J.o.os,J.o.tape,J.o.output,aM,fun j hj hn=>ae j hj (fun e=>hn (by rw[e];exact a.o.rest.fn))⟩
     exact(aQ.o.trans o3 (fun _ _ i=>i)).trans o4 (fun _ _ i=>i)
theorem Zsb {l:List UInt8} (h:Own w 0 v l):∃ ao cap,v=.slice ao l.length cap∧l.length<=cap∧((ao=none∧cap=0)∨∃ g,ao=some ⟨g,0,none⟩):=Zuv h
theorem Xd.cutFile {f k:Nat} {ao:Option Addr} {cap:Nat} (h:Xd F w p L d u N) (l:f<d.files.length) (n:L.vs f=.slice ao (fl d.files f).b.length cap) (v:k<=(fl d.files f).b.length):
 Xd F ((w.setCell ⟨L.ps f,1,none⟩ (.int .i64 (k:Int))).setCell ⟨L.ps f,0,none⟩ (.slice ao k cap)) p { L with vs:=fun i=>if i=f then .slice ao k cap else L.vs i } { d with files:=d.files.set f ⟨(fl d.files f).b.take k,k⟩ } u N:=by
 have c:=h.rest.file f l
 have t:∀ g,(L.vs f).ownBlock=some g->g≠L.ps f:=fun g a=>by
  obtain⟨z,x⟩:=Dc c.own a;exact x.ne c.box (by decide)
 have e:(Value.slice ao k cap).ownBlock=(L.vs f).ownBlock:=by rw[n];cases ao <;> rfl
 have y:Own w 0 (.slice ao k cap) ((fl d.files f).b.take k):=by
  have:=c.own;rw[n] at this;exact this.front k v
 refine h.setFile (F':=F) l (fun j _ q _=>by rw[zal _ _ _ _ q,zal _ _ _ _ q]) ⟨(c.box.set 1 _).set 0 _,Qh y fun g a=>?_⟩ (.inl e) (fun _ m=>m) (fun g a=>h.rest.fv f l g (by rw[<-e];exact a)) (fun j m=>by simpa using h.lt j m)
 have:=t g (by rw[<-e];exact a)
 rw[zal _ _ _ _ this,zal _ _ _ _ this]
theorem Zuw (h:n<=1000000000000000):IntKind.i64.wrap (n:Int)=(n:Int):=by
 rw[zbe];omega
theorem ZbD {l:Dir} {i:Nat} (h:i<l.length):l.take (i+1)=l.take i++[l[i]]:=zdm h
theorem ZfE {l:Dir} (h:G9 l) {i:Nat} (c:i<l.length):∀ p ∈ l.take i,p.2≠l[i].2:=by
 intro p b;have a:G9 (l.take (i+1)):=List.Pairwise.sublist (List.take_sublist _ _) h;rw[ZbD c] at a;exact(zc2.1 a).2.2 p b _ (zaq.2 rfl)
theorem Znc (keep:List Int) {l:Dir} (h:G9 l) {i:Nat} (a:i<l.length) (fs:List Fl):Xb keep (l.take (i+1)) 0 fs=(Xb keep (l.take i) 0 fs).set l[i].2 (Zlc (fl fs l[i].2) (Zhg keep i)):=by
 rw[ZbD a,Zhh,Zbp keep _ 0 fs _ (ZfE h a)];have:(l.take i).length=i:=by rw[length_take];omega
 rw[this,za5]
theorem Zsc (keep:List Int) {l:Dir} (h:G9 l) {i:Nat} (a:i<l.length) {fs:List Fl} (j:l[i].2<fs.length) (c:∀ x ∈ fs,x.k<=x.b.length):
 Zt (Xb keep (l.take (i+1)) 0 fs) (l.take (i+1))=Zt (Xb keep (l.take i) 0 fs) (l.take i)+(Zlc (fl fs l[i].2) (Zhg keep i)).k:=by
 rw[Znc keep h a];have f:Zt ((Xb keep (l.take i) 0 fs).set l[i].2 (Zlc (fl fs l[i].2) (Zhg keep i))) (l.take i)=Zt (Xb keep (l.take i) 0 fs) (l.take i):=Zlq fun p d=>by rw[Jf (fun e=>ZfE h a p d e.symm)]
 have g:(fl ((Xb keep (l.take i) 0 fs).set l[i].2 (Zlc (fl fs l[i].2) (Zhg keep i))) l[i].2).b.length=(Zlc (fl fs l[i].2) (Zhg keep i)).k:=by
  rw[Zao (by rw[Gi];exact j),Zww (Zhi c _)]
 rw[ZbD a,ZdO,f,Zaj,ZgU,g];rfl
theorem ZcI (keep:List Int):∀ (l:Dir) (i:Nat) (fs:List Fl),(∀ x ∈ fs,x.b.length<=T)->(∀ p ∈ l,p.2<fs.length)->∀ x ∈ Xb keep l i fs,x.b.length<=T
 | [],_,_,h,_=>h
 | p::l,i,fs,h,hl=>by
  rw[Xb];refine ZcI keep l (i+1) _ (fun x a=>?_) (fun q c=>by rw[zdu];exact hl q (List.mem_cons_of_mem _ c))
  rcases zcg a with a | rfl
  ·exact h x a
  ·have:=h _ (ZbH (hl p (List.mem_cons_self ..)))
   simp only [Zlc,length_take];omega
theorem Zlt (vk:Value) (keep:List Int) (w:World) (h:Xd F w p L d u N) (hw:d.waits=[]) (az:OkD d) (aD:Bnd d N T) (hN:N<=1000000) (hT:T<=1000000000) (hr:RdI w vk keep) (aE:keep=[]∨∀ k,vk.ownBlock=some k->¬ F k) (bp:keep.length<=1000000000):
 Calls prog 32 #[ptr p,vk] w fun e w'=>e=.returned (.tuple #[])∧(∃ L',Xd F w' p L' { d with files:=Xb keep d.kept 0 d.files } (Zt (Xb keep d.kept 0 d.files) d.kept:Nat) N)∧Ql F w w':=by
 have H:=ZZ h;have a3:=ZZ az;have aP:=ZZ aD;have aR:=ZZ hr;have a8:=ZZ aE;obtain⟨⟨-,c1,-,-,-,-⟩,f1,-⟩:=h.cells;obtain⟨ka,kc,rfl,-⟩:=hr;obtain⟨l,hl⟩:=zgy d.kept;have aK:Hid (Qm d=l):=ZZ (by unfold Qm;rw[hw,hl];rfl)
 have aS:Hid (l.length<=N):=ZZ (by have:=aD.names;rw[hl];omega)
 have Z:Hid (OkL d.files.length l):=ZZ (by rw[hl];exact az.kept)
 have bd:=ZZ hl;have af:=ZZ (h.setHead 1 (.int .i64 0) (d':=d) (u':=0) ⟨rfl,rfl,rfl⟩ rfl);have ax:Hid (Ql F w (w.setCell ⟨p,1,none⟩ (.int .i64 0))):=ZZ ((Ql.refl _ _).setCell 1 (fun _=>h.fh) _)
 obtain⟨W1,aG⟩:=zgy (w.setCell ⟨p,1,none⟩ (.int .i64 0));rw[<-aG] at af ax;have aX:=ZZ (ZeC W1 af.o az hN);have aZ:=ZZ (aR.o.onlyE ax.o aE);have aO:=ZZ aG;clear aG h az aD aE hl hw
 go_enter func32,ntmps32
 go_upto_region 1 with fail
 rw[<-aO.o];clear aO c1 f1
 go_wp2_with fail
 refine aX.o.mono ?_;rintro e W2 ⟨vn,rfl,aC,aq⟩;rw[aK.o] at aC
 have a4:Hid (∀ x ∈ l.map Prod.fst,I64 x):=ZZ (fun x hx=>by
  obtain⟨q,hq,rfl⟩:=zbd.1 hx
  exact Zcd (Z.o.may q hq).1)
 have aU:=ZZ (aC.rd a4.o)
 have a6:Hid (∀ k,vn.ownBlock=some k->¬ F k):=ZZ (fun k hk hf=>by
  have E:=(zar aC k hk).1;have M:=af.o.lt k hf
  omega)
 have be:Hid (Xd F W2 p L d 0 N):=ZZ (af.o.keep (fun k hf=>aq.block k (af.o.lt k hf)) aq.size)
 have ba:Hid (Ql F w W2):=ZZ (ax.o.trans (G:=fun _=>False) (Ql.ofBelow aq) (fun _ _ hf=>hf.elim))
 have bb:=ZZ (aZ.o.below aq zL);obtain⟨na,nc,rfl,-⟩:=aU.o;clear aC aq aX aZ aR af ax H;have a7:(l.map Prod.fst).length=l.length:=zcz ..;rw[a7];go_wp2
 go_loopw[14] (fun vi wr=>∃ i:Nat,vi=.int .i64 (i:Int)∧i<=l.length∧∃ B,Hid (Xd F wr p B { d with files:=Xb keep (l.take i) 0 d.files } (Zt (Xb keep (l.take i) 0 d.files) (l.take i):Nat) N)∧Hid (Ql F W2 wr)) (fun vi _=>l.length-(intOf vi).toNat)
 case atStart=>exact⟨0,rfl,zai _,L,by simpa[Xb,Zt] using be,ZZ (Ql.refl _ _)⟩
 case round=>
  obtain⟨i,rfl,bu,B,D,ai⟩:=hrel;by_cases Q:i<l.length
  case neg=>
   have hi:i=l.length:=by omega
   subst hi;rw[zb1,bd.o] at D;go_wp2;go_end0;exact⟨rfl,⟨B,D.o⟩,ba.o.trans ai.o (fun _ _ hf=>hf)⟩
  obtain⟨n,f,ac⟩:∃ n f,l[i]=(n,f):=⟨_,_,rfl⟩;have ay:(n,f) ∈ l:=by rw[<-ac];exact zcs Q
  have aH:f<d.files.length:=(Z.o.may _ ay).2;have a0:I64 n:=Zcd (Z.o.may _ ay).1;have aL:(Xb keep (l.take i) 0 d.files).length=d.files.length:=Gi _ _ _ _;obtain⟨x,hx⟩:=zgy (fl d.files f)
  have ak:fl (Xb keep (l.take i) 0 d.files) f=x:=by
   rw[hx];refine Zbp keep _ 0 _ _ fun q hq=>?_
   have:=ZfE Z.o.apart Q q hq;rw[ac] at this;exact this
  have aa:Hid (ZmQ wr (B.ps f) (B.vs f) x):=ZZ (by
   have:=D.o.rest.file f (by show f<(Xb keep (l.take i) 0 d.files).length;omega)
   rw[<-ak]
   exact this)
  have bf:x.k<=x.b.length:=by rw[hx];exact Zhi a3.o.keep f
  have a9:x.b.length<=T:=by rw[hx];exact aP.o.bytes _ (ZbH aH)
  obtain⟨ao,cap,aA,a5,bx⟩:=Zsb aa.o.own;have z:wr.cell? ⟨B.ps f,0,none⟩=some (.slice ao x.b.length cap):=by rw[<-aA];exact(aa.o.box.cell 0 rfl).1
  have y0:wr.frozen? ⟨B.ps f,0,none⟩=false:=(aa.o.box.cell 0 rfl).2;have g1:wr.cell? ⟨B.ps f,1,none⟩=some (.int .i64 (x.k:Int)):=(aa.o.box.cell 1 rfl).1;have y1:wr.frozen? ⟨B.ps f,1,none⟩=false:=(aa.o.box.cell 1 rfl).2;obtain⟨U,hU⟩:∃ U:Nat,U=Zt (Xb keep (l.take i) 0 d.files) (l.take i):=⟨_,rfl⟩
  have bA:U<=1000000000000000:=by
   rw[hU];have E:=ZoY (T:=T) (fs:=Xb keep (l.take i) 0 d.files) (ZcI keep _ 0 _ aP.o.bytes (fun q hq=>(Z.o.may q (zbq hq)).2)) (l.take i) (fun q hq=>by rw[aL];exact(Z.o.may q (zbq hq)).2)
   have M:(l.take i).length<=N:=by have:=aS.o;rw[length_take];omega
   have h3:(l.take i).length*T<=1000000*1000000000:=zf5 (by omega) hT
   omega
  rw[<-hU] at D;have k1:wr.cell? ⟨p,1,none⟩=some (.int .i64 (U:Int)):=D.o.cells.1.2.1;have j1:wr.frozen? ⟨p,1,none⟩=false:=D.o.cells.2.1;have k2:wr.cell? ⟨p,2,none⟩=some (.map (some B.now)):=D.o.cells.1.2.2.1
  have aJ:(Instr.lookup 65 (.map (some B.now)) (.int .i64 n) false).run prog wr=.ok (.pointer (some ⟨B.ps f,0,none⟩)) wr:=by
   have E:=D.o.rest.now.look1 a0
   have M:look (Qm { d with files:=Xb keep (l.take i) 0 d.files }) n=some f:=by
    show look (Qm d) n=some f;rw[aK.o];exact(Zb Z.o.rise n f).2 ay
   rw[M] at E;exact E
  obtain⟨nb,au,rfl,aV⟩:∃ nb au,na=some ⟨nb,au,none⟩∧wr.cell? ⟨nb,au+i,none⟩=some (.int .i64 n):=by
   have E:=aU.o.only ai.o a6.o;obtain⟨a',c',al,_,_,_,_,h6⟩:=E;simp only [za1] at al;obtain⟨rfl,_,rfl⟩:=al;rcases h6 with h6 | ⟨nb,au,rfl,h7⟩
   ·have:l=[]:=by simpa using h6
    rw[this] at Q;simp at Q
   ·refine⟨nb,au,rfl,?_⟩
    have h8:=h7 i (by simpa using Q)
    rw[h8];simp[List.getD,Q,ac]
  obtain⟨A,hA⟩:=zgy (Zhg keep i);obtain⟨m,hm⟩:=zgy (x.b.length-x.k);have aW:(x.b.length:Int)-(x.k:Int)=(m:Int):=by omega
  obtain⟨sh,aB⟩:=zgy (Z4 A m);have bi:sh<=m:=by rw[aB];exact Zcy _ _
  obtain⟨y,aY⟩:=zgy (x.k+sh);have bc:(x.k:Int)+(sh:Int)=(y:Int):=by omega
  have a2:y<=x.b.length:=by omega
  have ae:Hid (∀ W,Calls prog 72 #[.int .i64 A,.int .i64 (m:Int)] W fun e w'=>e=.returned (.int .i64 (sh:Int))∧w'=W):=ZZ (fun W=>by rw[aB];exact ZmT A m (by omega) W)
  have aN:Hid (Zlc x A=⟨x.b.take y,y⟩):=ZZ (by rw[aY,aB,hm];rfl)
  have aF:Hid (Xd F (((wr.setCell ⟨B.ps f,1,none⟩ (.int .i64 (y:Int))).setCell ⟨B.ps f,0,none⟩ (.slice ao y cap)).setCell ⟨p,1,none⟩ (.int .i64 ((U:Int)+(y:Int)))) p { B with vs:=fun j=>if j=f then .slice ao y cap else B.vs j } { d with files:=Xb keep (l.take (i+1)) 0 d.files } (Zt (Xb keep (l.take (i+1)) 0 d.files) (l.take (i+1)):Nat) N):=ZZ (by
   have E:=D.o.cutFile (f:=f) (k:=y) (ao:=ao) (cap:=cap) (by show f<(Xb keep (l.take i) 0 d.files).length;omega) (by show B.vs f=.slice ao (fl (Xb keep (l.take i) 0 d.files) f).b.length cap;rw[ak];exact aA) (by show y<=(fl (Xb keep (l.take i) 0 d.files) f).b.length;rw[ak];exact a2)
   have M:=Zsc keep Z.o.apart Q (fs:=d.files) (by rw[ac];exact aH) a3.o.keep
   have h3:=Znc keep Z.o.apart Q d.files;rw[ac,<-hx,<-hA,aN.o] at M h3;rw[M,h3,<-hU]
   dsimp only at E
   rw[ak] at E;have e1:((U+y:Nat):Int)=(U:Int)+(y:Int):=by omega
   show Xd F _ p _ _ ((U+y:Nat):Int) N;rw[e1]
   exact E.setHead 1 _ ⟨rfl,rfl,rfl⟩ rfl)
  have K:Hid (Ql F W2 (((wr.setCell ⟨B.ps f,1,none⟩ (.int .i64 (y:Int))).setCell ⟨B.ps f,0,none⟩ (.slice ao y cap)).setCell ⟨p,1,none⟩ (.int .i64 ((U:Int)+(y:Int))))):=ZZ (((ai.o.setCell 1 (fun _=>D.o.rest.fp f (by show f<(Xb keep (l.take i) 0 d.files).length;omega)) _).setCell 0 (fun _=>D.o.rest.fp f (by show f<(Xb keep (l.take i) 0 d.files).length;omega)) _).setCell 1 (fun _=>D.o.fh) _)
  have an:Hid (p≠B.ps f):=ZZ (D.o.head.ne aa.o.box (by decide))
  obtain⟨P,hP⟩:=zgy (B.ps f);have ag:Hid (Bk 117 wr (B.ps f) #[.slice ao x.b.length cap,.int .i64 (x.k:Int)]):=ZZ (by rw[<-aA];exact aa.o.box)
  obtain⟨DI,aT⟩:∃ DI,DI={ d with files:=Xb keep (l.take i) 0 d.files }:=⟨_,rfl⟩
  have aM:Hid (Bk 69 wr p (ZfD B DI (U:Int))):=ZZ (by rw[aT];exact D.o.head)
  clear aT;rw[<-hP] at z y0 g1 y1 aJ aF K an ag;obtain⟨X,a1⟩:=zgy x.b.length;obtain⟨xk,aQ⟩:=zgy x.k;rw[<-a1] at z aW a2 a9 a5 ag;rw[<-aQ] at g1 aW bc ag;have bo:y<=cap:=by omega
  have HA:=ZZ hA;have bj:=ZZ (bb.o.onlyE ai.o a8.o);clear ac ay aH a0 aL hx ak bf aA hU hA hm aB bi aY hP a1 aQ aa D ai aN;have aw:=ZZ Q;have br:i<=1000000:=by have:=aS.o;omega
  have bq:IntKind.i64.wrap (m:Int)=(m:Int):=Zuw (by omega)
  have bt:IntKind.i64.wrap (y:Int)=(y:Int):=Zuw (by omega)
  have ad:Hid ((wr.setCell ⟨P,1,none⟩ (.int .i64 (y:Int))).cell? ⟨P,0,none⟩=some (.slice ao X cap)):=ZZ (by
   rw[zbh _ _ _ _ (by intro h;injection h with _ h;cases h)]
   exact z)
  by_cases ab:keep.length=0
  ·have e0:A=0:=by rw[HA.o];exact zab ab
   subst e0;have bv:decide ((keep.length:Int)>0)=false:=zae (by omega)
   have bz:decide (0<keep.length)=false:=zae (by omega)
   clear ab
   go_upto_region 7 with fail
   clear aV aJ k2
   go_cut[] (fun wd=>Hid (∃ q,wd=(wr.setCell ⟨P,1,none⟩ (.int .i64 (y:Int))).drewN q))
   case first=>
    refine wp_region_held_drew (S:=fun w'=>w'.cell? ⟨P,0,none⟩=some (.slice ao X cap)) (by kernel_rfl) (by exact z) (fun C=>?_)
    refine zaz (i:=0) (v:=?_) rfl (by kernel_rfl) (by kernel_rfl) (by kernel_rfl) (fun _ _ _ h=>h) (Or.inl ⟨by rfl,?_⟩) (by assumption) ?_
    rotate_left
    ·intro g c
     go_simp
     try with_reducible rfl
    simp only [Act.put,getElem_toArray,getElem_cons_zero,setIfInBounds_toArray,set_cons_zero,set_cons_succ];refine zaz (i:=1) (v:=?_) rfl (by kernel_rfl) (by kernel_rfl) (by kernel_rfl) (fun _ _ _ h=>h) (Or.inl ⟨by rfl,?_⟩) (by assumption) ?_
    rotate_left
    ·intro g c
     go_simp
     try with_reducible rfl
    simp only [Act.put,getElem_toArray,getElem_cons_zero,getElem_cons_succ,setIfInBounds_toArray,set_cons_zero,set_cons_succ];refine zaz (i:=2) (v:=?_) rfl (by kernel_rfl) (by kernel_rfl) (by kernel_rfl) (fun _ _ _ h=>h) (Or.inl ⟨by rfl,?_⟩) (by assumption) ?_
    rotate_left
    ·intro g c
     go_simp
     try with_reducible rfl
    simp only [Act.put,getElem_toArray,getElem_cons_zero,getElem_cons_succ,setIfInBounds_toArray,set_cons_zero,set_cons_succ];refine zaz (i:=4) (v:=?_) rfl (by kernel_rfl) (by kernel_rfl) (by kernel_rfl) (fun _ _ _ h=>h) (Or.inl ⟨by rfl,?_⟩) (by assumption) ?_
    rotate_left
    ·intro g c
     go_simp
     try with_reducible rfl
    simp only [Act.put,getElem_toArray,getElem_cons_zero,getElem_cons_succ,setIfInBounds_toArray,set_cons_zero,set_cons_succ];refine zaz (i:=5) (v:=?_) rfl (by kernel_rfl) (by kernel_rfl) (by kernel_rfl) (fun _ _ _ h=>h) (Or.inl ⟨by rfl,?_⟩) (by assumption) ?_
    rotate_left
    ·intro g c
     go_simp
     try with_reducible rfl
    simp only [Act.put,getElem_toArray,getElem_cons_zero,getElem_cons_succ,setIfInBounds_toArray,set_cons_zero,set_cons_succ];refine zaz (i:=6) (v:=?_) rfl (by kernel_rfl) (by kernel_rfl) (by kernel_rfl) (fun _ _ _ h=>h) (Or.inl ⟨by rfl,?_⟩) (by assumption) ?_
    rotate_left
    ·intro g c
     go_simp
     try with_reducible rfl
    simp only [Act.put,getElem_toArray,getElem_cons_zero,getElem_cons_succ,setIfInBounds_toArray,set_cons_zero,set_cons_succ];refine zaz (i:=7) (v:=?_) rfl (by kernel_rfl) (by kernel_rfl) (by kernel_rfl) (fun _ _ _ h=>h) (Or.inl ⟨by rfl,?_⟩) (by assumption) ?_
    rotate_left
    ·intro g c
     go_simp
     try with_reducible rfl
    simp only [Act.put,getElem_toArray,getElem_cons_zero,getElem_cons_succ,setIfInBounds_toArray,set_cons_zero,set_cons_succ];refine zaz (i:=8) (v:=?_) rfl (by kernel_rfl) (by kernel_rfl) (by kernel_rfl) (fun _ _ _ h=>h) (Or.inl ⟨by rfl,?_⟩) (by assumption) ?_
    rotate_left
    ·intro g c
     go_simp
     try with_reducible rfl
    simp only [Act.put,getElem_toArray,getElem_cons_zero,getElem_cons_succ,setIfInBounds_toArray,set_cons_zero,set_cons_succ];refine zaz (i:=9) (v:=?_) rfl (by kernel_rfl) (by kernel_rfl) (by kernel_rfl) (fun _ _ _ h=>h) (Or.inl ⟨by rfl,?_⟩) (by assumption) ?_
    rotate_left
    ·intro g c
     go_simp
     try with_reducible rfl
    simp only [Act.put,getElem_toArray,getElem_cons_zero,getElem_cons_succ,setIfInBounds_toArray,set_cons_zero,set_cons_succ];refine zaz (i:=10) (v:=?_) rfl (by kernel_rfl) (by kernel_rfl) (by kernel_rfl) (fun _ _ _ h=>h) (Or.inl ⟨by rfl,?_⟩) (by assumption) ?_
    rotate_left
    ·intro g c
     go_simp
     try with_reducible rfl
    simp only [Act.put,getElem_toArray,getElem_cons_zero,getElem_cons_succ,setIfInBounds_toArray,set_cons_zero,set_cons_succ];refine zaz (i:=11) (v:=?_) rfl (by kernel_rfl) (by kernel_rfl) (by kernel_rfl) (fun _ _ _ h=>h) (Or.inl ⟨by rfl,?_⟩) (by assumption) ?_
    rotate_left
    ·intro g c
     go_simp
     try with_reducible rfl
    simp only [Act.put,getElem_toArray,getElem_cons_zero,getElem_cons_succ,setIfInBounds_toArray,set_cons_zero,set_cons_succ];refine zaz (i:=12) (v:=?_) rfl (by kernel_rfl) (by kernel_rfl) (by kernel_rfl) (fun _ _ _ h=>h) (Or.inl ⟨by rfl,?_⟩) (by assumption) ?_
    rotate_left
    ·intro g c
     go_simp
     try with_reducible rfl
    simp only [Act.put,getElem_toArray,getElem_cons_zero,getElem_cons_succ,setIfInBounds_toArray,set_cons_zero,set_cons_succ];refine zcc (rs:=[3,13]) (by kernel_rfl) (by simp) ?_
    refine zbl rfl (fun t a=>?_) (zbl rfl (fun t a=>?_) zb7)
    ·go_simp
     refine a.out _ _ (by exact z) (fun C=>?_)
     clear a t;refine zcc (rs:=[13]) (by kernel_rfl) (by simp) ?_
     refine zbl rfl (fun t a=>?_) zb7
     go_simp
     refine a.out _ _ (by exact z) (fun C=>?_)
     clear a t;refine zaz (i:=14) (v:=?_) rfl (by kernel_rfl) (by kernel_rfl) (by kernel_rfl) (fun _ _ _ h=>h) (Or.inl ⟨by rfl,?_⟩) (by assumption) ?_
     rotate_left
     ·intro g c
      go_simp
      try with_reducible rfl
     simp only [Act.put,getElem_toArray,getElem_cons_zero,getElem_cons_succ,setIfInBounds_toArray,set_cons_zero,set_cons_succ];refine zcc (rs:=[15]) (by kernel_rfl) (by simp) ?_
     refine zbl rfl (fun t a=>?_) zb7
     go_simp
     go_wp2_with((go_at_call 72;refine(ae.o _).mono ?_;rintro e w5 ⟨rfl,rfl⟩))
     refine a.out _ _ (by exact z) (fun C=>?_)
     clear a t;refine zaz (i:=16) (v:=?_) rfl (by kernel_rfl) (by kernel_rfl) (by kernel_rfl) (fun _ _ _ h=>h) (Or.inl ⟨by rfl,?_⟩) (by assumption) ?_
     rotate_left
     ·intro g c
      go_simp
      try with_reducible rfl
     simp only [Act.put,getElem_toArray,getElem_cons_zero,getElem_cons_succ,setIfInBounds_toArray,set_cons_zero,set_cons_succ];refine zaz (i:=17) (v:=?_) rfl (by kernel_rfl) (by kernel_rfl) (by kernel_rfl) (fun _ _ _ h=>h) (Or.inl ⟨by rfl,?_⟩) (by assumption) ?_
     rotate_left
     ·intro g c
      go_simp
      try with_reducible rfl
     simp only [Act.put,getElem_toArray,getElem_cons_zero,getElem_cons_succ,setIfInBounds_toArray,set_cons_zero,set_cons_succ];refine zaz (i:=18) (v:=?_) rfl (by kernel_rfl) (by kernel_rfl) (by kernel_rfl) (fun _ _ _ h=>h) (Or.inl ⟨by rfl,?_⟩) (by assumption) ?_
     rotate_left
     ·intro g c
      go_simp
      try with_reducible rfl
     simp only [Act.put,getElem_toArray,getElem_cons_zero,getElem_cons_succ,setIfInBounds_toArray,set_cons_zero,set_cons_succ];refine zcc (rs:=[19]) (by kernel_rfl) (by simp) ?_
     refine zbl rfl (fun t a=>?_) zb7
     go_simp
     refine a.out _ _ (by exact ad.o) (fun C=>?_)
     clear a t;refine zfh (by kernel_rfl) ?_ _
     go_wp2_with fail
     go_meet
     exact ZZ ⟨1,rfl⟩
    ·go_simp
     refine a.out _ _ (by exact z) (fun C=>?_)
     clear a t;refine zaz (i:=14) (v:=?_) rfl (by kernel_rfl) (by kernel_rfl) (by kernel_rfl) (fun _ _ _ h=>h) (Or.inl ⟨by rfl,?_⟩) (by assumption) ?_
     rotate_left
     ·intro g c
      go_simp
      try with_reducible rfl
     simp only [Act.put,getElem_toArray,getElem_cons_zero,getElem_cons_succ,setIfInBounds_toArray,set_cons_zero,set_cons_succ];refine zcc (rs:=[3,15]) (by kernel_rfl) (by simp) ?_
     refine zbl rfl (fun t a=>?_) (zbl rfl (fun t a=>?_) zb7)
     ·go_simp
      refine a.out _ _ (by exact z) (fun C=>?_)
      clear a t;refine zcc (rs:=[15]) (by kernel_rfl) (by simp) ?_
      refine zbl rfl (fun t a=>?_) zb7
      go_simp
      go_wp2_with((go_at_call 72;refine(ae.o _).mono ?_;rintro e w5 ⟨rfl,rfl⟩))
      refine a.out _ _ (by exact z) (fun C=>?_)
      clear a t;refine zaz (i:=16) (v:=?_) rfl (by kernel_rfl) (by kernel_rfl) (by kernel_rfl) (fun _ _ _ h=>h) (Or.inl ⟨by rfl,?_⟩) (by assumption) ?_
      rotate_left
      ·intro g c
       go_simp
       try with_reducible rfl
      simp only [Act.put,getElem_toArray,getElem_cons_zero,getElem_cons_succ,setIfInBounds_toArray,set_cons_zero,set_cons_succ];refine zaz (i:=17) (v:=?_) rfl (by kernel_rfl) (by kernel_rfl) (by kernel_rfl) (fun _ _ _ h=>h) (Or.inl ⟨by rfl,?_⟩) (by assumption) ?_
      rotate_left
      ·intro g c
       go_simp
       try with_reducible rfl
      simp only [Act.put,getElem_toArray,getElem_cons_zero,getElem_cons_succ,setIfInBounds_toArray,set_cons_zero,set_cons_succ];refine zaz (i:=18) (v:=?_) rfl (by kernel_rfl) (by kernel_rfl) (by kernel_rfl) (fun _ _ _ h=>h) (Or.inl ⟨by rfl,?_⟩) (by assumption) ?_
      rotate_left
      ·intro g c
       go_simp
       try with_reducible rfl
      simp only [Act.put,getElem_toArray,getElem_cons_zero,getElem_cons_succ,setIfInBounds_toArray,set_cons_zero,set_cons_succ];refine zcc (rs:=[19]) (by kernel_rfl) (by simp) ?_
      refine zbl rfl (fun t a=>?_) zb7
      go_simp
      refine a.out _ _ (by exact ad.o) (fun C=>?_)
      clear a t;refine zfh (by kernel_rfl) ?_ _
      go_wp2_with fail
      go_meet
      exact ZZ ⟨1,rfl⟩
     ·go_simp
      go_wp2_with((go_at_call 72;refine(ae.o _).mono ?_;rintro e w5 ⟨rfl,rfl⟩))
      refine a.out _ _ (by exact z) (fun C=>?_)
      clear a t;refine zcc (rs:=[3]) (by kernel_rfl) (by simp) ?_
      refine zbl rfl (fun t a=>?_) zb7
      go_simp
      refine a.out _ _ (by exact z) (fun C=>?_)
      clear a t;refine zaz (i:=16) (v:=?_) rfl (by kernel_rfl) (by kernel_rfl) (by kernel_rfl) (fun _ _ _ h=>h) (Or.inl ⟨by rfl,?_⟩) (by assumption) ?_
      rotate_left
      ·intro g c
       go_simp
       try with_reducible rfl
      simp only [Act.put,getElem_toArray,getElem_cons_zero,getElem_cons_succ,setIfInBounds_toArray,set_cons_zero,set_cons_succ];refine zaz (i:=17) (v:=?_) rfl (by kernel_rfl) (by kernel_rfl) (by kernel_rfl) (fun _ _ _ h=>h) (Or.inl ⟨by rfl,?_⟩) (by assumption) ?_
      rotate_left
      ·intro g c
       go_simp
       try with_reducible rfl
      simp only [Act.put,getElem_toArray,getElem_cons_zero,getElem_cons_succ,setIfInBounds_toArray,set_cons_zero,set_cons_succ];refine zaz (i:=18) (v:=?_) rfl (by kernel_rfl) (by kernel_rfl) (by kernel_rfl) (fun _ _ _ h=>h) (Or.inl ⟨by rfl,?_⟩) (by assumption) ?_
      rotate_left
      ·intro g c
       go_simp
       try with_reducible rfl
      simp only [Act.put,getElem_toArray,getElem_cons_zero,getElem_cons_succ,setIfInBounds_toArray,set_cons_zero,set_cons_succ];refine zcc (rs:=[19]) (by kernel_rfl) (by simp) ?_
      refine zbl rfl (fun t a=>?_) zb7
      go_simp
      refine a.out _ _ (by exact ad.o) (fun C=>?_)
      clear a t;refine zfh (by kernel_rfl) ?_ _
      go_wp2_with fail
      go_meet
      exact ZZ ⟨1,rfl⟩
   case rest=>
    obtain⟨q7,Y⟩:=hcut.out;have I:Hid (Bk 117 wc P #[.slice ao X cap,.int .i64 (y:Int)]):=ZZ (by rw[Y];exact ag.o.set 1 _)
    have av:Hid (Bk 69 wc p (ZfD B DI (U:Int))):=ZZ (by rw[Y];exact aM.o.other P 1 _ an.o)
    have R:=ZZ Y;have z:wc.cell? ⟨P,0,none⟩=some (.slice ao X cap):=(I.o.cell 0 rfl).1;have y0:wc.frozen? ⟨P,0,none⟩=false:=(I.o.cell 0 rfl).2;have g1:wc.cell? ⟨P,1,none⟩=some (.int .i64 (y:Int)):=(I.o.cell 1 rfl).1;clear Y hcut;obtain⟨W7,am⟩:=zgy wc;rw[<-am] at I av R z y0 g1 ⊢;clear am
    go_upto_region 8 with fail
    go_cut[] (fun wd=>Hid (∃ q,wd=(W7.setCell ⟨P,0,none⟩ (.slice ao y cap)).drewN q))
    case first=>
     go_region
     all_goals
      go_wp2_with fail
      go_meet
      exact ZZ ⟨1,rfl⟩
    case rest=>
     obtain⟨q8,V⟩:=hcut.out;have aI:Hid (Bk 117 wc P #[.slice ao y cap,.int .i64 (y:Int)]):=ZZ (by rw[V];exact I.o.set 0 _)
     have ap:Hid (Bk 69 wc p (ZfD B DI (U:Int))):=ZZ (by rw[V];exact av.o.other P 0 _ an.o)
     have O:=ZZ V;have E:wc.cell? ⟨P,1,none⟩=some (.int .i64 (y:Int)):=(aI.o.cell 1 rfl).1;have M:wc.cell? ⟨p,1,none⟩=some (.int .i64 (U:Int)):=(ap.o.cell 1 rfl).1;have h3:wc.frozen? ⟨p,1,none⟩=false:=(ap.o.cell 1 rfl).2;clear V hcut z y0 g1;obtain⟨W8,aj⟩:=zgy wc;rw[<-aj] at O E M h3 ⊢;clear aj
     go_upto_region 9 with fail
     go_region
     all_goals
      go_wp2;go_roundw
      case rel=>
       refine⟨i+1,by go_num,by have:=aw.o;omega,_,ZZ (aF.o.keep (w':=(W8.setCell ⟨p,1,none⟩ (.int .i64 ((U:Int)+(y:Int)))).drew) (fun k _=>?_) ?_),ZZ ?_⟩
       ·rw[O.o,R.o]
        rfl
       ·rw[O.o,R.o]
        exact zat _
       ·rw[O.o,R.o]
        exact⟨K.o.os,K.o.tape,K.o.output,K.o.size,K.o.block⟩
      case measure=>have:=aw.o;simp[intOf];omega
  ·obtain⟨J,hJ⟩:=zgy (i % keep.length)
   have bg:J<keep.length:=by rw[hJ];exact zfx _ (by omega)
   have bw:(i:Int) % (keep.length:Int)=(J:Int):=by rw[hJ];omega
   have eA:keep.getD J 0=A:=by rw[HA.o,hJ];exact(zaa ab).symm
   obtain⟨kb,ar,rfl,bn⟩:∃ kb ar,ka=some ⟨kb,ar,none⟩∧wr.cell? ⟨kb,ar+J,none⟩=some (.int .i64 A):=by
    obtain⟨a',c',al,_,_,_,_,h6⟩:=bj.o;simp only [za1] at al;obtain⟨rfl,_,rfl⟩:=al;rcases h6 with h6 | ⟨kb,ar,rfl,h7⟩
    ·rw[h6] at ab
     simp at ab
    ·exact⟨kb,ar,rfl,by rw[h7 J bg,eA]⟩
   have bm:0<keep.length:=by omega
   have bk:(0:Int)<(keep.length:Int):=by omega
   clear eA hJ ab
   go_upto_region 7 with fail
   clear aV aJ k2
   go_cut[] (fun wd=>Hid (∃ q,wd=(wr.setCell ⟨P,1,none⟩ (.int .i64 (y:Int))).drewN q))
   case first=>
    refine wp_region_held_drew (S:=fun w'=>w'.cell? ⟨P,0,none⟩=some (.slice ao X cap)) (by kernel_rfl) (by exact z) (fun C=>?_)
    refine zaz (i:=0) (v:=?_) rfl (by kernel_rfl) (by kernel_rfl) (by kernel_rfl) (fun _ _ _ h=>h) (Or.inl ⟨by rfl,?_⟩) (by assumption) ?_
    rotate_left
    ·intro g c
     go_simp
     try with_reducible rfl
    simp only [Act.put,getElem_toArray,getElem_cons_zero,setIfInBounds_toArray,set_cons_zero,set_cons_succ];refine zaz (i:=1) (v:=?_) rfl (by kernel_rfl) (by kernel_rfl) (by kernel_rfl) (fun _ _ _ h=>h) (Or.inl ⟨by rfl,?_⟩) (by assumption) ?_
    rotate_left
    ·intro g c
     go_simp
     try with_reducible rfl
    simp only [Act.put,getElem_toArray,getElem_cons_zero,getElem_cons_succ,setIfInBounds_toArray,set_cons_zero,set_cons_succ];refine zaz (i:=2) (v:=?_) rfl (by kernel_rfl) (by kernel_rfl) (by kernel_rfl) (fun _ _ _ h=>h) (Or.inl ⟨by rfl,?_⟩) (by assumption) ?_
    rotate_left
    ·intro g c
     go_simp
     try with_reducible rfl
    simp only [Act.put,getElem_toArray,getElem_cons_zero,getElem_cons_succ,setIfInBounds_toArray,set_cons_zero,set_cons_succ];refine zaz (i:=4) (v:=?_) rfl (by kernel_rfl) (by kernel_rfl) (by kernel_rfl) (fun _ _ _ h=>h) (Or.inl ⟨by rfl,?_⟩) (by assumption) ?_
    rotate_left
    ·intro g c
     go_simp
     try with_reducible rfl
    simp only [Act.put,getElem_toArray,getElem_cons_zero,getElem_cons_succ,setIfInBounds_toArray,set_cons_zero,set_cons_succ];refine zaz (i:=5) (v:=?_) rfl (by kernel_rfl) (by kernel_rfl) (by kernel_rfl) (fun _ _ _ h=>h) (Or.inl ⟨by rfl,?_⟩) (by assumption) ?_
    rotate_left
    ·intro g c
     go_simp
     try with_reducible rfl
    simp only [Act.put,getElem_toArray,getElem_cons_zero,getElem_cons_succ,setIfInBounds_toArray,set_cons_zero,set_cons_succ];refine zaz (i:=6) (v:=?_) rfl (by kernel_rfl) (by kernel_rfl) (by kernel_rfl) (fun _ _ _ h=>h) (Or.inl ⟨by rfl,?_⟩) (by assumption) ?_
    rotate_left
    ·intro g c
     go_simp
     try with_reducible rfl
    simp only [Act.put,getElem_toArray,getElem_cons_zero,getElem_cons_succ,setIfInBounds_toArray,set_cons_zero,set_cons_succ];refine zaz (i:=7) (v:=?_) rfl (by kernel_rfl) (by kernel_rfl) (by kernel_rfl) (fun _ _ _ h=>h) (Or.inl ⟨by rfl,?_⟩) (by assumption) ?_
    rotate_left
    ·intro g c
     go_simp
     try with_reducible rfl
    simp only [Act.put,getElem_toArray,getElem_cons_zero,getElem_cons_succ,setIfInBounds_toArray,set_cons_zero,set_cons_succ];refine zaz (i:=8) (v:=?_) rfl (by kernel_rfl) (by kernel_rfl) (by kernel_rfl) (fun _ _ _ h=>h) (Or.inl ⟨by rfl,?_⟩) (by assumption) ?_
    rotate_left
    ·intro g c
     go_simp
     try with_reducible rfl
    simp only [Act.put,getElem_toArray,getElem_cons_zero,getElem_cons_succ,setIfInBounds_toArray,set_cons_zero,set_cons_succ];refine zaz (i:=9) (v:=?_) rfl (by kernel_rfl) (by kernel_rfl) (by kernel_rfl) (fun _ _ _ h=>h) (Or.inl ⟨by rfl,?_⟩) (by assumption) ?_
    rotate_left
    ·intro g c
     go_simp
     try with_reducible rfl
    simp only [Act.put,getElem_toArray,getElem_cons_zero,getElem_cons_succ,setIfInBounds_toArray,set_cons_zero,set_cons_succ];refine zaz (i:=10) (v:=?_) rfl (by kernel_rfl) (by kernel_rfl) (by kernel_rfl) (fun _ _ _ h=>h) (Or.inl ⟨by rfl,?_⟩) (by assumption) ?_
    rotate_left
    ·intro g c
     go_simp
     try with_reducible rfl
    simp only [Act.put,getElem_toArray,getElem_cons_zero,getElem_cons_succ,setIfInBounds_toArray,set_cons_zero,set_cons_succ];refine zaz (i:=11) (v:=?_) rfl (by kernel_rfl) (by kernel_rfl) (by kernel_rfl) (fun _ _ _ h=>h) (Or.inl ⟨by rfl,?_⟩) (by assumption) ?_
    rotate_left
    ·intro g c
     go_simp
     try with_reducible rfl
    simp only [Act.put,getElem_toArray,getElem_cons_zero,getElem_cons_succ,setIfInBounds_toArray,set_cons_zero,set_cons_succ];refine zaz (i:=12) (v:=?_) rfl (by kernel_rfl) (by kernel_rfl) (by kernel_rfl) (fun _ _ _ h=>h) (Or.inl ⟨by rfl,?_⟩) (by assumption) ?_
    rotate_left
    ·intro g c
     go_simp
     try with_reducible rfl
    simp only [Act.put,getElem_toArray,getElem_cons_zero,getElem_cons_succ,setIfInBounds_toArray,set_cons_zero,set_cons_succ];refine zcc (rs:=[3,13]) (by kernel_rfl) (by simp) ?_
    refine zbl rfl (fun t a=>?_) (zbl rfl (fun t a=>?_) zb7)
    ·go_simp
     refine a.out _ _ (by exact z) (fun C=>?_)
     clear a t;refine zcc (rs:=[13]) (by kernel_rfl) (by simp) ?_
     refine zbl rfl (fun t a=>?_) zb7
     go_simp
     refine a.out _ _ (by exact z) (fun C=>?_)
     clear a t;refine zaz (i:=14) (v:=?_) rfl (by kernel_rfl) (by kernel_rfl) (by kernel_rfl) (fun _ _ _ h=>h) (Or.inl ⟨by rfl,?_⟩) (by assumption) ?_
     rotate_left
     ·intro g c
      go_simp
      try with_reducible rfl
     simp only [Act.put,getElem_toArray,getElem_cons_zero,getElem_cons_succ,setIfInBounds_toArray,set_cons_zero,set_cons_succ];refine zcc (rs:=[15]) (by kernel_rfl) (by simp) ?_
     refine zbl rfl (fun t a=>?_) zb7
     go_simp
     go_wp2_with((go_at_call 72;refine(ae.o _).mono ?_;rintro e w5 ⟨rfl,rfl⟩))
     refine a.out _ _ (by exact z) (fun C=>?_)
     clear a t;refine zaz (i:=16) (v:=?_) rfl (by kernel_rfl) (by kernel_rfl) (by kernel_rfl) (fun _ _ _ h=>h) (Or.inl ⟨by rfl,?_⟩) (by assumption) ?_
     rotate_left
     ·intro g c
      go_simp
      try with_reducible rfl
     simp only [Act.put,getElem_toArray,getElem_cons_zero,getElem_cons_succ,setIfInBounds_toArray,set_cons_zero,set_cons_succ];refine zaz (i:=17) (v:=?_) rfl (by kernel_rfl) (by kernel_rfl) (by kernel_rfl) (fun _ _ _ h=>h) (Or.inl ⟨by rfl,?_⟩) (by assumption) ?_
     rotate_left
     ·intro g c
      go_simp
      try with_reducible rfl
     simp only [Act.put,getElem_toArray,getElem_cons_zero,getElem_cons_succ,setIfInBounds_toArray,set_cons_zero,set_cons_succ];refine zaz (i:=18) (v:=?_) rfl (by kernel_rfl) (by kernel_rfl) (by kernel_rfl) (fun _ _ _ h=>h) (Or.inl ⟨by rfl,?_⟩) (by assumption) ?_
     rotate_left
     ·intro g c
      go_simp
      try with_reducible rfl
     simp only [Act.put,getElem_toArray,getElem_cons_zero,getElem_cons_succ,setIfInBounds_toArray,set_cons_zero,set_cons_succ];refine zcc (rs:=[19]) (by kernel_rfl) (by simp) ?_
     refine zbl rfl (fun t a=>?_) zb7
     go_simp
     refine a.out _ _ (by exact ad.o) (fun C=>?_)
     clear a t;refine zfh (by kernel_rfl) ?_ _
     go_wp2_with fail
     go_meet
     exact ZZ ⟨1,rfl⟩
    ·go_simp
     refine a.out _ _ (by exact z) (fun C=>?_)
     clear a t;refine zaz (i:=14) (v:=?_) rfl (by kernel_rfl) (by kernel_rfl) (by kernel_rfl) (fun _ _ _ h=>h) (Or.inl ⟨by rfl,?_⟩) (by assumption) ?_
     rotate_left
     ·intro g c
      go_simp
      try with_reducible rfl
     simp only [Act.put,getElem_toArray,getElem_cons_zero,getElem_cons_succ,setIfInBounds_toArray,set_cons_zero,set_cons_succ];refine zcc (rs:=[3,15]) (by kernel_rfl) (by simp) ?_
     refine zbl rfl (fun t a=>?_) (zbl rfl (fun t a=>?_) zb7)
     ·go_simp
      refine a.out _ _ (by exact z) (fun C=>?_)
      clear a t;refine zcc (rs:=[15]) (by kernel_rfl) (by simp) ?_
      refine zbl rfl (fun t a=>?_) zb7
      go_simp
      go_wp2_with((go_at_call 72;refine(ae.o _).mono ?_;rintro e w5 ⟨rfl,rfl⟩))
      refine a.out _ _ (by exact z) (fun C=>?_)
      clear a t;refine zaz (i:=16) (v:=?_) rfl (by kernel_rfl) (by kernel_rfl) (by kernel_rfl) (fun _ _ _ h=>h) (Or.inl ⟨by rfl,?_⟩) (by assumption) ?_
      rotate_left
      ·intro g c
       go_simp
       try with_reducible rfl
      simp only [Act.put,getElem_toArray,getElem_cons_zero,getElem_cons_succ,setIfInBounds_toArray,set_cons_zero,set_cons_succ];refine zaz (i:=17) (v:=?_) rfl (by kernel_rfl) (by kernel_rfl) (by kernel_rfl) (fun _ _ _ h=>h) (Or.inl ⟨by rfl,?_⟩) (by assumption) ?_
      rotate_left
      ·intro g c
       go_simp
       try with_reducible rfl
      simp only [Act.put,getElem_toArray,getElem_cons_zero,getElem_cons_succ,setIfInBounds_toArray,set_cons_zero,set_cons_succ];refine zaz (i:=18) (v:=?_) rfl (by kernel_rfl) (by kernel_rfl) (by kernel_rfl) (fun _ _ _ h=>h) (Or.inl ⟨by rfl,?_⟩) (by assumption) ?_
      rotate_left
      ·intro g c
       go_simp
       try with_reducible rfl
      simp only [Act.put,getElem_toArray,getElem_cons_zero,getElem_cons_succ,setIfInBounds_toArray,set_cons_zero,set_cons_succ];refine zcc (rs:=[19]) (by kernel_rfl) (by simp) ?_
      refine zbl rfl (fun t a=>?_) zb7
      go_simp
      refine a.out _ _ (by exact ad.o) (fun C=>?_)
      clear a t;refine zfh (by kernel_rfl) ?_ _
      go_wp2_with fail
      go_meet
      exact ZZ ⟨1,rfl⟩
     ·go_simp
      go_wp2_with((go_at_call 72;refine(ae.o _).mono ?_;rintro e w5 ⟨rfl,rfl⟩))
      refine a.out _ _ (by exact z) (fun C=>?_)
      clear a t;refine zcc (rs:=[3]) (by kernel_rfl) (by simp) ?_
      refine zbl rfl (fun t a=>?_) zb7
      go_simp
      refine a.out _ _ (by exact z) (fun C=>?_)
      clear a t;refine zaz (i:=16) (v:=?_) rfl (by kernel_rfl) (by kernel_rfl) (by kernel_rfl) (fun _ _ _ h=>h) (Or.inl ⟨by rfl,?_⟩) (by assumption) ?_
      rotate_left
      ·intro g c
       go_simp
       try with_reducible rfl
      simp only [Act.put,getElem_toArray,getElem_cons_zero,getElem_cons_succ,setIfInBounds_toArray,set_cons_zero,set_cons_succ];refine zaz (i:=17) (v:=?_) rfl (by kernel_rfl) (by kernel_rfl) (by kernel_rfl) (fun _ _ _ h=>h) (Or.inl ⟨by rfl,?_⟩) (by assumption) ?_
      rotate_left
      ·intro g c
       go_simp
       try with_reducible rfl
      simp only [Act.put,getElem_toArray,getElem_cons_zero,getElem_cons_succ,setIfInBounds_toArray,set_cons_zero,set_cons_succ];refine zaz (i:=18) (v:=?_) rfl (by kernel_rfl) (by kernel_rfl) (by kernel_rfl) (fun _ _ _ h=>h) (Or.inl ⟨by rfl,?_⟩) (by assumption) ?_
      rotate_left
      ·intro g c
       go_simp
       try with_reducible rfl
      simp only [Act.put,getElem_toArray,getElem_cons_zero,getElem_cons_succ,setIfInBounds_toArray,set_cons_zero,set_cons_succ];refine zcc (rs:=[19]) (by kernel_rfl) (by simp) ?_
      refine zbl rfl (fun t a=>?_) zb7
      go_simp
      refine a.out _ _ (by exact ad.o) (fun C=>?_)
      clear a t;refine zfh (by kernel_rfl) ?_ _
      go_wp2_with fail
      go_meet
      exact ZZ ⟨1,rfl⟩
   case rest=>
    obtain⟨q7,Y⟩:=hcut.out;have I:Hid (Bk 117 wc P #[.slice ao X cap,.int .i64 (y:Int)]):=ZZ (by rw[Y];exact ag.o.set 1 _)
    have av:Hid (Bk 69 wc p (ZfD B DI (U:Int))):=ZZ (by rw[Y];exact aM.o.other P 1 _ an.o)
    have R:=ZZ Y;have z:wc.cell? ⟨P,0,none⟩=some (.slice ao X cap):=(I.o.cell 0 rfl).1;have y0:wc.frozen? ⟨P,0,none⟩=false:=(I.o.cell 0 rfl).2;have g1:wc.cell? ⟨P,1,none⟩=some (.int .i64 (y:Int)):=(I.o.cell 1 rfl).1;clear Y hcut;obtain⟨W7,am⟩:=zgy wc;rw[<-am] at I av R z y0 g1 ⊢;clear am
    go_upto_region 8 with fail
    go_cut[] (fun wd=>Hid (∃ q,wd=(W7.setCell ⟨P,0,none⟩ (.slice ao y cap)).drewN q))
    case first=>
     go_region
     all_goals
      go_wp2_with fail
      go_meet
      exact ZZ ⟨1,rfl⟩
    case rest=>
     obtain⟨q8,V⟩:=hcut.out;have aI:Hid (Bk 117 wc P #[.slice ao y cap,.int .i64 (y:Int)]):=ZZ (by rw[V];exact I.o.set 0 _)
     have ap:Hid (Bk 69 wc p (ZfD B DI (U:Int))):=ZZ (by rw[V];exact av.o.other P 0 _ an.o)
     have O:=ZZ V;have E:wc.cell? ⟨P,1,none⟩=some (.int .i64 (y:Int)):=(aI.o.cell 1 rfl).1;have M:wc.cell? ⟨p,1,none⟩=some (.int .i64 (U:Int)):=(ap.o.cell 1 rfl).1;have h3:wc.frozen? ⟨p,1,none⟩=false:=(ap.o.cell 1 rfl).2;clear V hcut z y0 g1;obtain⟨W8,aj⟩:=zgy wc;rw[<-aj] at O E M h3 ⊢;clear aj
     go_upto_region 9 with fail
     go_region
     all_goals
      go_wp2;go_roundw
      case rel=>
       refine⟨i+1,by go_num,by have:=aw.o;omega,_,ZZ (aF.o.keep (w':=(W8.setCell ⟨p,1,none⟩ (.int .i64 ((U:Int)+(y:Int)))).drew) (fun k _=>?_) ?_),ZZ ?_⟩
       ·rw[O.o,R.o]
        rfl
       ·rw[O.o,R.o]
        exact zat _
       ·rw[O.o,R.o]
        exact⟨K.o.os,K.o.tape,K.o.output,K.o.size,K.o.block⟩
      case measure=>have:=aw.o;simp[intOf];omega
theorem Zux (names:Int) (g:Value) (keep:List Int) (w:World) (h:Dsk F w p d N T) (u:N<=1000000) (I:T<=1000000000) (z:RdI w g keep) (v:keep=[]∨∀ k,g.ownBlock=some k->¬ F k) (Q:keep.length<=1000000000):
 Calls prog 12 #[ptr p,.int .i64 names,g] w fun e w'=>e=.returned (.tuple #[])∧Dsk F w' p (G7 d names keep) N T∧Ql F w w':=by
 obtain⟨L,h,b,a,A,B⟩:=h;have V:=ZZ b;have i:=ZZ a;have U:=ZZ (And.intro A B);have W:=ZZ z;have t:=ZZ v;have n:=ZZ (ZhV names w h b a u);obtain⟨K,j⟩:=zgy (Z4 names d.waits.length);have c:=ZZ j;rw[<-j] at n;have G:Hid (OkD { d with kept:=Ym d K,waits:=[] }):=ZZ (ZgQ (fs:=d.files) (b.dirs K) b.keep)
 have R:Hid (Bnd { d with kept:=Ym d K,waits:=[] } N T):=ZZ ⟨a.files,by have l:=Zbt d K;have O:=a.names;show(Ym d K).length+0<=N;omega,a.bytes⟩
 have E:Hid (∀ q ∈ Ym d K,q.2<d.files.length):=ZZ (fun q hq=>((b.dirs K).may q hq).2)
 obtain⟨ka,kc,rfl,-⟩:=z;clear h b a A B v j
 go_enter func12,ntmps12
 go_wp2_with fail
 refine n.o.mono ?_;rintro e X ⟨rfl,D,f⟩;have S:=ZZ (Zlt _ keep X D rfl G.o R.o u I (W.o.onlyE f t.o) t.o Q);have H:=ZZ f;clear D f
 go_wp2_with fail
 refine S.o.mono ?_;rintro e W2 ⟨rfl,⟨Y,m⟩,C⟩;have y:=ZZ m;have M:=ZZ (H.o.trans C (fun _ _ P=>P))
 obtain⟨⟨-,-,-,-,-,c5⟩,-,-,-,f5⟩:=m.cells;clear m C;go_wp2;go_end0;refine⟨rfl,⟨Y,?_,V.o.crash names keep,⟨?_,?_,?_⟩,U.o.1,⟨by show(-9223372036854775808:Int)<=-1;omega,by show(-1:Int)<=9223372036854775807;omega⟩⟩,M.o.setCell 5 (fun _=>y.o.fh) _⟩
 ·have l:=y.o.setHead 5 (.int .i64 (-1)) (d':=G7 d names keep) (u':=(Zt (Xb keep (Ym d K) 0 d.files) (Ym d K):Nat)) (by rw[c.o];exact⟨rfl,rfl,rfl⟩) rfl
  have J:Jb (G7 d names keep)=Zt (Xb keep (Ym d K) 0 d.files) (Ym d K):=by rw[c.o];rfl
  rw[J];exact l
 ·have:=i.o.files
  show(Xb keep _ 0 d.files).length<=N;rw[Gi];exact this
 ·have l:=Zbt d (Z4 names d.waits.length)
  have O:=i.o.names;show(Ym d (Z4 names d.waits.length)).length+0<=N;omega
 ·intro x Z
  refine ZcI keep (Ym d K) 0 d.files i.o.bytes E.o x ?_;rw[c.o];exact Z
theorem Zuy (v:Value) (l:List UInt8) (w:World) (p:Rd w v l) (M:l.length<=70368744177664):
 Calls prog 183 #[v] w fun e w'=>∃ v',e=.returned v'∧Own w' w.heap.size v' l∧Below w.heap.size w w':=by
 obtain⟨i,j,A,g,H⟩:=zbo Zlf;have B:=ZZ p;obtain⟨ao,cap,rfl,K,L,t,u⟩:=p;have F:=ZZ u;have x:=ZZ t;clear u t
 go_enter func183,ntmps183
 go_wp2_with(at_make;refine wpList_make_own _ rfl _ _ 53 rfl w.heap.size 5 i (.int .u8 0) 1 underlying53 j A g _ _ _ (l.length+10) rfl rfl (by omega) (by rw[H];omega) (by unfold maxLen;omega) zL ?_)
 intro I q a;have c:Below w.heap.size w I:=(zac _ _).grown a zL (fun k b=>by cases b)
 obtain⟨N,O,y,_,_,_,n⟩:=B.o.below c zL;simp only [za1] at y;obtain⟨rfl,_,rfl⟩:=y;have G:=ZZ n;have f:=ZZ c;have J:=ZZ a;clear n c a F
 go_wp2_with(at_builtin;refine wpList_append_fits_any _ rfl _ _ 53 rfl w.heap.size 5 i 1 underlying53 j g w.heap.size 0 (l.length+10) [] rfl q ao l.length cap (Lib.byteCells l) rfl (by rw[Y0,zch]) (fun e=>⟨by have:=x.o e;omega,x.o e⟩) (Rd.cells G.o) (ZaJ l) (by omega) ?_)
 intro E z d;have m:Below w.heap.size w E:=f.o.grown d (by have:=f.o.size;omega) (fun k b=>by simp at b;omega)
 have C:=ZZ m;have D:=ZZ z;clear m d z q;go_wp2;go_ret;exact⟨_,rfl,Own.mk' D.o (by simp) (by simp),C.o⟩
theorem ZAl (y:Nat):bits .or .u8 ((y:Int) % 256) 128=(y:Int) % 128+128:=by
 rw[Lib.u8_or128_any _ (by omega) (by omega)]
 omega
theorem Own.snoc (l b:List UInt8) (a:Nat) (c:a<256) {n:Nat} {x:Int} (h:w.ownsRow B 5 1 v n (Lib.byteCells (l++b)++[Value.int .u8 x])) (e:n=l.length+b.length+1) (d:x=(a:Int)):Own w B v (l++(b++[a.toUInt8])):=by
 subst d;refine Own.mk' h (by rw[e];simp;omega) ?_
 rw[<-zcn,Lib.byteCells_snoc _ c]
theorem ZeD (v:Value) (l:List UInt8) (u:Nat) (w:World) (G:Rd w v l) (M:l.length<=70368744177664) (a:u<18446744073709551616):
 Calls prog 184 #[v,.int .u64 (u:Int)] w fun e w'=>∃ v',e=.returned v'∧Own w' w.heap.size v' (l++Lib.uvarint u)∧Below w.heap.size w w':=by
 obtain⟨D,E,B,C,J⟩:=zbo Zlf;have W:=zay a;have A:=ZZ (Zuy v l w G M);have V:=ZZ a;clear G a
 go_enter func184,ntmps184
 go_wp2_with fail
 refine A.o.mono ?_;rintro e X ⟨T,rfl,I,H⟩;have K:=ZZ I;have N:=ZZ H;clear I H A;go_wp2
 go_loopw[1,5] (fun q L wr=>∃ (y:Nat) (c:List UInt8),q=.int .u64 (y:Int)∧Hid (y<=u∧Lib.uvarint u=c++Lib.uvarint y)∧Hid (Own wr w.heap.size L (l++c))∧Hid (Below w.heap.size w wr))
  (fun q _ _=>(intOf q).toNat)
 case atStart=>exact⟨u,[],rfl,⟨zat _,rfl⟩,by rw[zcx];exact K.o,N.o⟩
 case round=>
  obtain⟨y,c,rfl,i,m,x⟩:=hrel
  have U:c.length+(Lib.uvarint y).length<=10:=by
   have O:=congrArg List.length i.out.2;rw[zel] at O;omega
  have S:=zci y;have Y:=x.out.size;by_cases Q:128<=y
  ·have R:=ZAl y
   go_wp2_with(at_builtin;refine wpList_append_own _ rfl _ _ 53 rfl w.heap.size 5 D (.int .u8 0) 1 1 underlying53 E B C J rfl (by decide) _ _ _ rfl (zb0 m.out _) ⟨wr.heap.size,0,none⟩ 1 1 [Value.int .u8 ((y % 128+128:Nat):Int)] rfl rfl ?c1 ?c2 ?c3 ?c4 ?c5 ?_)
   case c1=>
    intro j u b
    match j,b with
    | 0,b=>simp at b;subst b;simp[Addr.add]
   case c2=>intro u a;simp at a;subst a;rfl
   case c3=>unfold maxLen;simp;omega
   case c4=>simp;omega
   case c5=>simp;omega
   intro v' z g f _;have d:Below w.heap.size w z:=(x.out.alloc (by omega) _).grown f (by simp;omega) (fun k p=>(zar m.out k p).1)
   have t:=ZZ (Own.snoc l c (y % 128+128) (by omega) g (by simp) (by omega))
   have n:=ZZ d;clear g d f;go_wp2;go_roundw
   case rel=>exact⟨y / 128,c++[(y % 128+128).toUInt8],by go_num,⟨by have:=i.out.1;omega,by rw[i.out.2,zfs Q];simp⟩,t,n⟩
   case measure=>simp[intOf];omega
  ·have F:Lib.uvarint y=[y.toUInt8]:=zer (by omega)
   have P:=ZZ F;clear F
   go_wp2_with(at_builtin;refine wpList_append_own _ rfl _ _ 53 rfl w.heap.size 5 D (.int .u8 0) 1 1 underlying53 E B C J rfl (by decide) _ _ _ rfl (zb0 m.out _) ⟨wr.heap.size,0,none⟩ 1 1 [Value.int .u8 (y:Int)] rfl rfl ?c1 ?c2 ?c3 ?c4 ?c5 ?_)
   case c1=>
    intro j u b
    match j,b with
    | 0,b=>simp at b;subst b;simp[Addr.add]
   case c2=>intro u a;simp at a;subst a;rfl
   case c3=>unfold maxLen;simp;omega
   case c4=>simp;omega
   case c5=>simp;omega
   intro v' z g f _;have d:Below w.heap.size w z:=(x.out.alloc (by omega) _).grown f (by simp;omega) (fun k p=>(zar m.out k p).1)
   have t:=ZZ (Own.snoc l c y (by omega) g (by simp) rfl)
   have n:=ZZ d;clear g d f;go_wp2;go_ret;refine⟨v',rfl,?_,n.o⟩;rw[i.out.2,P.o];exact t.o
def Zsd (l:List UInt8) (n:Int):List UInt8:=if 0<=n∧n<4611686018427387904 then l++Lib.uvarint n.toNat else l
theorem ZbE (v:Value) (l:List UInt8) (n:Int) (w:World) (d:Rd w v l) (k:l.length<=70368744177664):
 Calls prog 132 #[v,.int .i64 n] w fun e w'=>∃ v',e=.returned v'∧Own w' w.heap.size v' (Zsd l n)∧Below w.heap.size w w':=by
 by_cases h:0<=n∧n<4611686018427387904
 ·obtain⟨i,p⟩:=h
  have f:Hid (Zsd l n=l++Lib.uvarint n.toNat):=zab ⟨i,p⟩;have a:=ZZ (ZeD v l n.toNat w d k (by omega))
  have m:((n.toNat:Nat):Int)=n:=Int.toNat_of_nonneg i;rw[m] at a;clear m d
  go_enter func132,ntmps132
  go_wp2_with fail
  refine a.o.mono ?_;rintro e w' ⟨v',rfl,c,b⟩;have j:=ZZ c;have g:=ZZ b;clear c b a;go_wp2;go_ret;exact⟨v',rfl,by rw[f.o];exact j.o,g.o⟩
 ·have f:Hid (Zsd l n=l):=zaa h
  have a:=ZZ (Zuy v l w d k);clear d;by_cases i:n<0
  all_goals
   go_enter func132,ntmps132
   go_wp2_with fail
   refine a.o.mono ?_;rintro e w' ⟨v',rfl,c,b⟩;have j:=ZZ c;have g:=ZZ b;clear c b a;go_wp2;go_ret;exact⟨v',rfl,by rw[f.o];exact j.o,g.o⟩
theorem Gj (v:Value) (l:List UInt8) (n:Int) (w:World) (d:Rd w v l) (k:l.length<=70368744177664) (a:-9223372036854775808<=n) (b:n<=9223372036854775807):
 Calls prog 142 #[v,.int .i64 n] w fun e w'=>∃ v',e=.returned v'∧Own w' w.heap.size v' (l++Lib.uvarint (Lib.zigzag n))∧Below w.heap.size w w':=by
 have c:=ZZ (ZeD v l (Lib.zigzag n) w d k (Lib.zigzag_lt a b));have i:=ZZ (Zys n w a b);generalize Lib.zigzag n=z at *;clear d a b
 go_enter func142,ntmps142
 go_wp2_with fail
 refine i.o.mono ?_;rintro e w' ⟨rfl,rfl⟩
 go_wp2_with fail
 refine c.o.mono ?_;rintro e w' ⟨v',rfl,g,f⟩;have m:=ZZ g;have j:=ZZ f;clear g f c i;go_wp2;go_ret;exact⟨v',rfl,m.o,j.o⟩
end Go.Proofs.YtnahjngbneicaaaGreatDoor
