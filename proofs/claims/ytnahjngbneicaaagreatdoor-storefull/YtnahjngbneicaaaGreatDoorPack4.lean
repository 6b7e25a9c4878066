import Derived.Test.YtnahjngbneicaaaGreatDoorPack3
import Derived.Lib.LazyBuf
import Derived.Sort.OwnSortedInts
namespace Go.Proofs.YtnahjngbneicaaaGreatDoor
set_option linter.unusedSimpArgs false
open _root_.Go.Proofs.Tryz
open List (getElem_cons_succ getElem_cons_zero getElem_toArray length_take setIfInBounds_toArray set_cons_succ set_cons_zero)
set_option maxHeartbeats 4000000
set_option maxRecDepth 100000
open Go.RowKit
variable {F:Nat->Prop} {B N T b n p r:Nat} {d:Dk} {L:Lay} {w w':World} {u:Int} {v:Value} {l:List Int} {f:Int->Option Nat}
abbrev za5:=@Go.AllReadyH.cons
abbrev za7:=@Go.wpAnyH_take
abbrev zbf:=@Go.AllReadyH.nil
abbrev zbh:=@Go.wpAnyH_ready
abbrev zbu:=@Go.World.cell?_setCell_other
abbrev zcm:=@of_decide_eq_true
abbrev zcp:=@List.getElem_mem
abbrev zcr:=@List.append_assoc
abbrev zc5:=@Go.run_eql_slice_nil
abbrev zc9:=@Option.map_some
abbrev zda:=@List.length_map
abbrev zdb:=@List.length_append
abbrev zde:=@List.pairwise_append
abbrev zdg:=@Go.wp_region_held_drew
abbrev zdu:=@Go.wpAnyH_done
abbrev zd3:=@Go.wpQuiet_nil
abbrev zed:=@Option.isSome_none
abbrev zee:=@Option.isSome_some
abbrev zfc:=@Go.wp_region_quiet_lit
abbrev zfi:=@Go.World.ownsRow.kept
abbrev zfm:=@Nat.mod_lt
abbrev zf6:=@Option.map_none
abbrev zgk:=@Go.Maps.keyOf_int_inv
theorem Zxt (w:World) (B:Nat) (a:B<=w.heap.size):Own (w.alloc (.cells #[] 5)) B (.slice (some ⟨w.heap.size,0,none⟩) 0 0) []:=
 ⟨rfl,.inr ⟨w.heap.size,0,#[],rfl,a,zak w _,za0 _,zap _,rfl,rfl⟩⟩
theorem Zsr (v:Value) (l:List UInt8) (w:World) (d:Rd w v l) (B:l.length<=70368744177664):
 Calls prog 113 #[v] w fun e w'=>∃ v',e=.returned v'∧Own w' w.heap.size v' l∧Below w.heap.size w w':=by
 have u:=ZZ d;obtain⟨ao,cap,rfl,p,q,a,f⟩:=d
 cases ao with
 | none=>
  have m:=a rfl;have x:l=[]:=zao (by omega)
  subst x;subst m;clear f a;have k:∀ w,(binOp .eql 53 (.slice none 0 0) (.slice none 0 0)).run prog w=.ok (.bool true) w:=fun w=>zc5 w _ _ none 0 0 underlying53
  go_enter func113,ntmps113
  go_wp2;go_ret;exact⟨_,rfl,Own.nil _ _,zac _ _⟩
 | some c=>
  clear f a p q;have k:∀ w,(binOp .eql 53 (.slice (some c) l.length cap) (.slice none 0 0)).run prog w=.ok (.bool false) w:=fun w=>zc5 w _ _ (some c) _ _ underlying53
  have t:=ZZ (Zxt w w.heap.size zL);have b:=ZZ ((zac w.heap.size w).alloc zL (.cells #[] 5));have j:=ZZ (u.o.below b.o zL);have z:Hid (w.heap.size<=(w.alloc (.cells #[] 5)).heap.size):=b.o.size
  go_enter func113,ntmps113
  go_wp2_with(at_builtin;refine Xx _ rfl _ _ rfl w.heap.size _ [] rfl t.o _ l rfl j.o (by simp;omega) z.o ?_)
  intro y C g i;have n:=ZZ g;have A:=ZZ (b.o.trans i);clear g i;go_wp2;go_ret;exact⟨y,rfl,n.o,A.o⟩
theorem Znr (n:Int) (g:I64 n) (w:World) (h:Dsk F w p d N T) (m:T<=1000000000):
 Calls prog 75 #[ptr p,.int .i64 n] w fun e w'=>∃ v,e=.returned (.tuple #[v,.int .i64 (Zu d n).2])∧Own w' w.heap.size v (Zu d n).1∧Below w.heap.size w w':=by
 obtain⟨L,h,l,k,-,-⟩:=h;have a:=ZZ (Zhj n g w h);have H:=ZZ h;have t:=ZZ l;have x:=ZZ k;clear h l k;unfold Zu;by_cases b:d.power=0
 ·rw[zab b]
  rw[zab b,zab b] at a;clear b
  go_enter func75,ntmps75
  go_wp2_with fail
  refine a.o.mono ?_;rintro e w' ⟨rfl,rfl⟩;go_wp2;go_ret2;exact⟨_,rfl,Own.nil _ _,zac _ _⟩
 rw[zaa b];rw[zaa b,zaa b] at a;clear b
 cases ho:look (Qm d) n with
 | none=>
  rw[ho] at a
  dsimp only [zf6,zed,zew,zfv,Zrf] at a ⊢
  clear ho
  go_enter func75,ntmps75
  go_wp2_with fail
  refine a.o.mono ?_;rintro e w' ⟨rfl,rfl⟩;go_wp2;go_ret2;exact⟨_,rfl,Own.nil _ _,zac _ _⟩
 | some f=>
  rw[ho] at a
  dsimp only [zc9,zee,zeu,Zrf] at a ⊢
  have c:f<d.files.length:=(t.o.dir.mayOf ho).2;obtain⟨q,-⟩:=(H.out.rest.file f c).box.cell 0 rfl;have u:=ZZ (H.out.rest.file f c).own.rd;have j:=ZZ (Zsr _ _ w u.o (by have:=x.o.bytes _ (ZbI c);omega))
  obtain⟨B,D,i⟩:=(H.out.rest.file f c).own.shape;rw[i] at q j;clear ho c i m g
  go_enter func75,ntmps75
  go_wp2_with fail
  refine a.o.mono ?_;rintro e w' ⟨rfl,rfl⟩
  go_wp2_with fail
  refine j.o.mono ?_;rintro e C ⟨A,rfl,z,y⟩;go_wp2;go_ret2;exact⟨_,rfl,z,y⟩
theorem Zrg (n:Int) (E:I64 n) (w:World) (h:Dsk F w p d N T):
 Calls prog 59 #[ptr p,.int .i64 n] w fun e w'=>Zgv F w p (Xz d n).1 (Xz d n).2 (N+2) T e w':=by
 have C:=ZZ h;obtain⟨L,h,Q,P,D,I⟩:=h;have a:=ZZ (Zhj n E w h);have H:=ZZ h;have m:=ZZ Q;have t:=ZZ P;have z:=ZZ (And.intro D I);clear h Q P D I;unfold Xz;by_cases j:d.power=0
 ·rw[zab j]
  rw[zab j,zab j] at a;clear j
  go_enter func59,ntmps59
  go_wp2_with fail
  refine a.o.mono ?_;rintro e w' ⟨rfl,rfl⟩;go_wp2;go_ret;exact Zgv.same C.o (by omega) zL
 rw[zaa j];rw[zaa j,zaa j] at a;clear j
 cases ho:look (Qm d) n with
 | none=>
  rw[ho] at a
  dsimp only [zf6,zed,zew,zfv,Zrf] at a ⊢
  clear ho
  go_enter func59,ntmps59
  go_wp2_with fail
  refine a.o.mono ?_;rintro e w' ⟨rfl,rfl⟩;go_wp2;go_ret;exact Zgv.same C.o (by omega) zL
 | some f=>
  rw[ho] at a
  dsimp only [zc9,zee,zeu,Zrf] at a ⊢
  have G:=ZZ ho;have c:f<d.files.length:=(m.o.dir.mayOf ho).2;have q:=ZZ (H.out.rest.file f c);obtain⟨B,-⟩:=(H.out.rest.file f c).box.cell 0 rfl;obtain⟨S,R⟩:=(H.out.rest.file f c).box.cell 1 rfl
  have J:Hid (Xf F (w.setCell ⟨L.ps f,1,none⟩ (.int .i64 ((fl d.files f).b.length:Int))) p { L with vs:=fun i=>if i=f then L.vs f else L.vs i } { d with files:=Gi d.files f } (Jh d) N):=ZZ (H.out.setFile (F':=F) (v':=L.vs f) (x':=⟨(fl d.files f).b,(fl d.files f).b.length⟩) c (fun k _ U _=>zat _ _ _ _ U) ⟨q.o.box.set 1 _,Qh q.o.own fun g v=>zat _ _ _ _ (by
   obtain⟨Z,V⟩:=Di q.o.own v
   exact V.ne q.o.box (by decide))⟩ (.inl rfl) (fun _ l=>l) (fun g v=>H.out.rest.fv f c g v) (fun k l=>by simpa using H.out.lt k l))
  have K:Hid (Ql F w (w.setCell ⟨L.ps f,1,none⟩ (.int .i64 ((fl d.files f).b.length:Int)))):=ZZ ((Ql.refl _ _).setCell 1 (fun _=>H.out.rest.fp f c) _)
  obtain⟨va,vc,M⟩:=q.o.own.shape;rw[M] at B;obtain⟨u,A⟩:=zg7 (w.setCell ⟨L.ps f,1,none⟩ (.int .i64 ((fl d.files f).b.length:Int)));rw[<-A] at J K;have O:=ZZ A;clear ho c M E A
  go_enter func59,ntmps59
  go_wp2_with fail
  refine a.o.mono ?_;rintro e w' ⟨rfl,rfl⟩
  go_upto_region 5 with fail
  rw[<-O.o];clear O B S R
  go_wp2_with fail
  refine(Zcb u J.o z.o.2).mono ?_;rintro e Y ⟨rfl,X,W⟩;go_wp2;go_ret;refine⟨rfl,F,⟨{ L with vs:=fun i=>if i=f then L.vs f else L.vs i },?_,?_,⟨?_,?_,?_⟩,z.o.1,Zdj z.o.2⟩,K.o.trans W (fun _ _ c=>c),fun _ l=>.inl l⟩
  ·rw[Zso m.o G.o]
   exact X.mono (by omega)
  ·exact m.o.bytes (by simp[Gi]) (Zhg m.o.keep _ zL)
  ·have:=t.o.files
   show(Gi d.files f).length<=_;simp[Gi];omega
  ·have:=t.o.names
   show d.kept.length+d.waits.length<=_;omega
  ·intro x y
   rcases zcs y with y | rfl
   ·exact t.o.bytes x y
   ·have:=t.o.bytes _ (ZbI (m.o.dir.mayOf G.o).2)
    exact this
theorem Zrh {U:Int} (n:Int) (k:I64 n) (w:World) (h:Xf F w p L d U N) (j:OkD d) (g:Bnd d N T) (v:T<=1000000000) (A:0<=U∧U<=1000000000000000):
 Calls prog 104 #[ptr p,.int .i64 n] w fun e w'=>e=.returned (.tuple #[])∧Xf F w' p L d (U-(Zsm d.files (look (Qm d) n):Int)) N∧Ql F w w':=by
 have H:=ZZ h;obtain⟨⟨-,z,y,-,-,-⟩,x,-⟩:=h.cells;have a:=h.rest.now.look k
 cases ho:look (Qm d) n with
 | none=>
  rw[ho] at a;have t:(Instr.lookup 65 (.map (some L.now)) (.int .i64 n) true).run prog w=.ok (.tuple #[.pointer none,.bool false]) w:=a;clear a ho h j g
  go_enter func104,ntmps104
  go_wp2;go_end0;exact⟨rfl,by simpa[Zsm] using H.out,Ql.refl _ _⟩
 | some f=>
  rw[ho] at a;have t:(Instr.lookup 65 (.map (some L.now)) (.int .i64 n) true).run prog w=.ok (.tuple #[.pointer (some ⟨L.ps f,0,none⟩),.bool true]) w:=a;have c:f<d.files.length:=(j.dir.mayOf ho).2;obtain⟨q,-⟩:=(h.rest.file f c).box.cell 0 rfl;obtain⟨B,C,l⟩:=(h.rest.file f c).own.shape;rw[l] at q;have u:=g.bytes _ (ZbI c);obtain⟨m,i⟩:=zg7 ((fl d.files f).b.length);have e:Zsm d.files (some f)=m:=i.symm;rw[e];rw[<-i] at q u;clear a ho h j g c l i e k
  go_enter func104,ntmps104
  go_upto_region 2 with fail
  go_region
  go_end0;exact⟨rfl,(H.out.setHead 1 (.int .i64 (U-(m:Int))) ⟨rfl,rfl,rfl⟩ rfl).keep (fun _ _=>rfl) zL,((Ql.refl _ _).setCell 1 (fun _=>H.out.fh) _).drewN 1⟩
theorem Bnd.waited (h:Bnd d N T) (c:Ch) (q:Int):Bnd { d with waits:=d.waits++[c],power:=q } (N+1) T:=
 ⟨by have:=h.files;show d.files.length<=_;omega,by have:=h.names;show d.kept.length+(d.waits++[c]).length<=_;simp;omega,h.bytes⟩
theorem Xf.drewN (h:Xf F w p L d u N) (q:Nat):Xf F (w.drewN q) p L d u N:=h.keep (fun _ _=>rfl) zL
theorem Zky (n:Int) (x:I64 n) (w:World) (h:Dsk F w p d N T) (R:N<=1000000) (A:T<=1000000000):
 Calls prog 69 #[ptr p,.int .i64 n] w fun e w'=>Zgv F w p (Qi d n).1 (Qi d n).2 (N+2) T e w':=by
 have B:=ZZ h;obtain⟨L,h,t,q,E,J⟩:=h;have c:=ZZ (Zhj n x w h);have H:=ZZ h;have j:=ZZ t;have O:=ZZ q;have z:=ZZ (And.intro E J);have V:=Zpq t q R A;have M:=ZZ (Zrh n x w h t q A (by omega))
 clear h t q E J V;unfold Qi;by_cases i:d.power=0
 ·rw[zab i]
  rw[zab i,zab i] at c;clear i
  go_enter func69,ntmps69
  go_wp2_with fail
  refine c.o.mono ?_;rintro e w' ⟨rfl,rfl⟩;go_wp2;go_ret;exact Zgv.same B.o (by omega) zL
 rw[zaa i];rw[zaa i,zaa i] at c;clear i
 cases ho:look (Qm d) n with
 | none=>
  rw[ho] at c
  dsimp only [zf6,zed,zew,zfv,Zrf] at c ⊢
  clear ho
  go_enter func69,ntmps69
  go_wp2_with fail
  refine c.o.mono ?_;rintro e w' ⟨rfl,rfl⟩;go_wp2;go_ret;exact Zgv.same B.o (by omega) zL
 | some f=>
  rw[ho] at c M
  dsimp only [zc9,zee,zeu,Zrf] at c ⊢
  have I:=ZZ ho;have aa:=ZZ (j.o.dir.mayOf ho);clear ho x
  go_enter func69,ntmps69
  go_wp2_with fail
  refine c.o.mono ?_;rintro e w' ⟨rfl,rfl⟩
  go_wp2_with fail
  refine M.o.mono ?_;rintro e a ⟨rfl,C,P⟩;have X:=ZZ C;have l:=ZZ P;clear C P
  go_wp2_with fail
  refine(Zxr n a).mono ?_;rintro e g ⟨rfl,m⟩;have u:Below a.heap.size a g:=by rw[m];exact(zac _ _).alloc zL _
  have ac:g.heap.size=a.heap.size+1:=by rw[m];simp
  have K:Bk 3 g a.heap.size #[.int .i64 n]:=by rw[m];exact zak a _
  have ad:=ZZ (X.o.more u);have Z:Hid (ChV (Gr F a g) g L.ps (.take n) (.func (.func 157) #[] #[ptr a.heap.size])):=ZZ ⟨_,rfl,K,.inr ⟨za0 _,by omega⟩⟩
  have v:Hid (Ql F w' g):=ZZ (l.o.trans (G:=fun _=>False) (Ql.ofBelow u) (fun _ _ hf=>hf.elim))
  have D:=ZZ (Zic g ad.o Z.o j.o aa.o.1 R (by have:=O.o.names;omega))
  clear u ac K m
  go_wp2_with fail
  refine D.o.mono ?_;rintro e y ⟨rfl,L3,S,-,-,Q⟩
  have Y:Hid (Ql F w' y):=ZZ (v.o.trans Q (fun k hk hf=>by
   rcases hf with hf | hf
   ·exact hf
   ·have:=l.o.size;omega))
  have ab:=ZZ S;clear S Q D
  go_wp2_with fail
  refine(Zcb y ab.o z.o.2).mono ?_;rintro e W4 ⟨rfl,W,U⟩;go_wp2;go_ret;refine⟨rfl,Gr (Gr F a g) g y,⟨L3,?_,?_,(O.o.waited (.take n) _).mono (by omega) zL,z.o.1,Zdj z.o.2⟩,Y.o.trans U (fun k hk hf=>?_),fun k hk=>?_⟩
  ·have hu:=Zsq j.o I.o (Ye d.power)
   have e1:(Jh { d with waits:=d.waits++[.take n],power:=Ye d.power }:Int)=(Jh d:Int)-(Zsm d.files (some f):Int):=by
    show _=(Jh d:Int)-((fl d.files f).b.length:Int);omega
   rw[e1];exact W.mono (by omega)
  ·exact j.o.taken I.o _
  ·rcases hf with (hf | hf) | hf
   ·exact hf
   ·have:=l.o.size;omega
   ·have:=v.o.size;omega
  ·rcases hk with (hk | hk) | hk
   ·exact .inl hk
   ·have:=l.o.size;exact .inr (by omega)
   ·have:=v.o.size;exact .inr (by omega)
theorem Zss (w:World) (a b c:Obj):(((w.alloc a).alloc b).alloc c).heap[w.heap.size]?=some a∧(((w.alloc a).alloc b).alloc c).heap[w.heap.size+1]?=some b∧(((w.alloc a).alloc b).alloc c).heap[w.heap.size+1+1]?=some c:=by
 have e:(w.alloc a).heap.size=w.heap.size+1:=by simp
 have d:((w.alloc a).alloc b).heap.size=w.heap.size+1+1:=by simp
 refine⟨?_,?_,?_⟩
 ·rw[zav _ _ _ (by omega),zav _ _ _ (by omega)]
  exact zak w a
 ·rw[zav _ _ _ (by omega),<-e]
  exact zak _ b
 ·rw[<-d]
  exact zak _ c
theorem Zst (n m:Int) (S:I64 n) (Z:I64 m) (w:World) (h:Dsk F w p d N T) (hN:N<=1000000) (O:T<=1000000000):
 Calls prog 61 #[ptr p,.int .i64 n,.int .i64 m] w fun e w'=>Zgv F w p (Z1 d n m).1 (Z1 d n m).2 (N+2) T e w':=by
 have B:=ZZ h;obtain⟨L,h,y,x,R,V⟩:=h;have a:=ZZ (Zhj n S w h);have H:=ZZ h;have l:=ZZ y;have t:=ZZ x;have j:=ZZ (And.intro R V);have ad:=Zpq y x hN O;have ai:=ZZ (Zrh m Z w h y x O (by omega))
 clear h y x R V ad;unfold Z1;by_cases c:d.power=0
 ·rw[zab c]
  rw[zab c,zab c] at a;clear c
  go_enter func61,ntmps61
  go_wp2_with fail
  refine a.o.mono ?_;rintro e w' ⟨rfl,rfl⟩;go_wp2;go_ret;exact Zgv.same B.o (by omega) zL
 rw[zaa c];rw[zaa c,zaa c] at a;clear c
 cases ho:look (Qm d) n with
 | none=>
  rw[ho] at a
  dsimp only [zf6,zed,zew,zfv,Zrf] at a ⊢
  clear ho
  go_enter func61,ntmps61
  go_wp2_with fail
  refine a.o.mono ?_;rintro e w' ⟨rfl,rfl⟩;go_wp2;go_ret;exact Zgv.same B.o (by omega) zL
 | some f=>
  rw[ho] at a
  dsimp only [zc9,zee,zeu,Zrf] at a ⊢
  have U:=ZZ ho;have W:=ZZ (l.o.dir.mayOf ho);have q:=ZZ (Znj m w);clear ho S Z
  cases hmn:ZdM m with
  | false=>
   rw[zab rfl];rw[hmn] at q;clear hmn
   go_enter func61,ntmps61
   go_wp2_with fail
   refine a.o.mono ?_;rintro e w' ⟨rfl,rfl⟩
   go_wp2_with fail
   refine q.o.mono ?_;rintro e w' ⟨rfl,rfl⟩;go_wp2;go_ret;exact Zgv.same B.o (by omega) zL
  | true=>
  rw[zaa (by simp)]
  rw[hmn] at q;have aa:=ZZ hmn;clear hmn;by_cases i:n=m
  ·rw[zab i]
   have ac:(n != m)=false:=by simpa using i
   clear i
   go_enter func61,ntmps61
   go_wp2_with fail
   refine a.o.mono ?_;rintro e w' ⟨rfl,rfl⟩
   go_wp2_with fail
   refine q.o.mono ?_;rintro e w' ⟨rfl,rfl⟩
   go_wp2_with fail
   refine(Zcb _ H.out j.o.2).mono ?_;rintro e W4 ⟨rfl,E,D⟩;go_wp2;go_ret;exact⟨rfl,F,⟨L,E.mono (by omega),l.o.power _,⟨by have:=t.o.files;show d.files.length<=_;omega,by have:=t.o.names;show d.kept.length+d.waits.length<=_;omega,t.o.bytes⟩,j.o.1,Zdj j.o.2⟩,D,fun _ hk=>.inl hk⟩
  rw[zaa i];have ac:(n != m)=true:=by simpa using i
  have J:=ZZ i;clear i
  go_enter func61,ntmps61
  go_wp2_with fail
  refine a.o.mono ?_;rintro e w' ⟨rfl,rfl⟩
  go_wp2_with fail
  refine q.o.mono ?_;rintro e w' ⟨rfl,rfl⟩
  go_wp2_with fail
  refine ai.o.mono ?_;rintro e b ⟨rfl,P,X⟩;have ae:=ZZ P;have u:=ZZ X;clear P X
  go_wp2_with fail
  refine(ZuK n m (L.ps f) b).mono ?_;rintro e g ⟨rfl,v⟩;have z:Below b.heap.size b g:=by rw[v];exact(((zac _ _).alloc zL _).alloc (by simp) _).alloc (by simp;omega) _
  have ak:g.heap.size=b.heap.size+1+1+1:=by rw[v];simp
  obtain⟨K,M,C⟩:=Zss b (.cells #[.int .i64 n] 3) (.cells #[.int .i64 m] 3) (.cells #[ptr (L.ps f)] 115);rw[<-v] at K M C;have al:=ZZ (ae.o.more z);have ag:Hid (ChV (Gr F b g) g L.ps (.move n m f) (.func (.func 143) #[] #[ptr (b.heap.size+1+1),ptr (b.heap.size+1),ptr b.heap.size])):=ZZ ⟨_,_,_,rfl,K,M,C,.inr ⟨za0 _,by omega⟩,.inr ⟨by omega,by omega⟩,.inr ⟨by omega,by omega⟩⟩
  have A:Hid (Ql F w' g):=ZZ (u.o.trans (G:=fun _=>False) (Ql.ofBelow z) (fun _ _ hf=>hf.elim))
  have Q:=ZZ (Zic g al.o ag.o l.o ⟨W.o.1,aa.o,J.o,W.o.2⟩ hN (by have:=t.o.names;omega))
  clear z ak K M C v
  go_wp2_with fail
  refine Q.o.mono ?_;rintro e I ⟨rfl,L3,ab,-,-,Y⟩
  have af:Hid (Ql F w' I):=ZZ (A.o.trans Y (fun k hk hf=>by
   rcases hf with hf | hf
   ·exact hf
   ·have:=u.o.size;omega))
  have aj:=ZZ ab;clear ab Y Q
  go_wp2_with fail
  refine(Zcb I aj.o j.o.2).mono ?_;rintro e W4 ⟨rfl,E,D⟩;go_wp2;go_ret;refine⟨rfl,Gr (Gr F b g) g I,⟨L3,?_,?_,(t.o.waited (.move n m f) _).mono (by omega) zL,j.o.1,Zdj j.o.2⟩,af.o.trans D (fun k hk hf=>?_),fun k hk=>?_⟩
  ·have hu:=Zsp l.o J.o U.o (Ye d.power)
   have e1:(Jh { d with waits:=d.waits++[.move n m f],power:=Ye d.power }:Int)=(Jh d:Int)-(Zsm d.files (look (Qm d) m):Int):=by omega
   rw[e1];exact E.mono (by omega)
  ·exact l.o.moved U.o aa.o J.o _
  ·rcases hf with (hf | hf) | hf
   ·exact hf
   ·have:=u.o.size;omega
   ·have:=A.o.size;omega
  ·rcases hk with (hk | hk) | hk
   ·exact .inl hk
   ·have:=u.o.size;exact .inr (by omega)
   ·have:=A.o.size;exact .inr (by omega)
open Go.RowKit Go.ChangeShapes
theorem Zig:prog.cellsOf 3=1:=by kernel_rfl
theorem Zsu:prog.cellsOf 23=1:=by kernel_rfl
theorem Z9 {n:Int} (h:(Lit.int .i64 n).wf=true):I64 n:=by
 simpa[I64,Lit.wf,IntKind.min,IntKind.max,IntKind.signed,IntKind.bits] using h
section
variable {H:Type} {enc:TypeId × Value->H} {w:World} {base fuel:Nat} {held:Bool}
theorem Zxu {cs:List Value} {x:DataW H × List MemPlace} (h:DataW.trod enc prog w base (fun _=>true) held fuel 23 cs=some x):∃ v l,cs=[v]∧RdI w v l:=by
 rcases open_ints underlying23 underlying3 (by kernel_rfl) h with ⟨a,_⟩ | ⟨y,l,c,i,a,_,f,e,g,_,d,b⟩
 ·exact⟨_,[],a,RdI.nil _⟩
 ·exact⟨_,_,a,RdI.ofRow f e (by simpa using g) d b⟩
end
open Go.RowKit Go.Maps Go.Shelf
theorem ZuO (w:World) (h:Qt w B v l) (u:l.length<=10000000):
 Calls prog 67 #[v] w fun e w'=>e=.returned (.tuple #[])∧Qt w' B v (l.mergeSort fun x y=>decide (x<=y))∧w.grownBy w' v.ownBlock:=by
 have f:=h;have c:w.grownBy w v.ownBlock:=⟨rfl,rfl,rfl,za0 _,fun _ _ _=>rfl⟩
 rcases h.2 with ⟨rfl,j⟩ | ⟨g,cap,cur,rfl,q,b,i,k,p,d⟩
 ·have e:l=[]:=zao j
  subst e;have a:=Any.slices_Sort_int_none ZAP none 0 w;refine a.mono ?_;rintro e w' ⟨rfl,rfl⟩;exact⟨rfl,by simpa using f,c⟩
 ·by_cases e:l=[]
  ·subst e
   have a:=Any.slices_Sort_int_none ZAP (some ⟨g,0,none⟩) cap w;refine a.mono ?_;rintro e w' ⟨rfl,rfl⟩;exact⟨rfl,by simpa using f,c⟩
  ·have t:Sort.Holds (Value.int .i64) w g 0 l.toArray:=holds_of_blockI b (by rw[zct] at d;exact d)
   have a:=Any.slices_Sort_int ZAP g 0 cap l w t (zar.1 b).1 (by omega)
   refine a.mono ?_;rintro e w' ⟨rfl,n,os,rfl⟩;refine⟨rfl,?_,grownBy_sortedI _⟩;have m:=ownsRow_sortedI (n:=n) (os:=os) (ss:=l) (ts:=l.mergeSort fun x y=>decide (x<=y)) (by simp) q b i k p
   unfold Qt;rw[show(l.mergeSort fun x y=>decide (x<=y)).length=l.length by simp]
   exact m
structure Met (f:Int->Option Nat) (left:Lit->Bool) (l:List Int):Prop where
 mem:∀ p,I64 p->(p ∈ l↔(f p).isSome=true∧left (.int .i64 p)=false)
 nd:l.Nodup
 i:∀ p ∈ l,I64 p
theorem Met.step {left:Lit->Bool} (h:Met f left l) {x:Int} (d:I64 x) (m:left (.int .i64 x)=true) (k:(f x).isSome=true):Met f (fun z=>left z && !z.sameKey (.int .i64 x)) (l++[x]):=by
 refine⟨fun p hp=>?_,?_,fun p hp=>?_⟩
 ·rw[za2,h.mem p hp,zaw]
  by_cases e:p=x
  ·subst e
   have c:(Lit.int .i64 p).sameKey (.int .i64 p)=true:=WideAt.sameKey_self (by first | exact trivial | simp[WideAt.IsKeyLit])
   simp[c,k]
  ·have c:(Lit.int .i64 p).sameKey (.int .i64 x)=false:=sameKey_ne (by intro h;injection h with _ h;exact e h)
   simp[c,e]
 ·rw[List.nodup_append]
  refine⟨h.nd,by simp,fun a g b j=>?_⟩
  rw[zaw.1 j];rintro rfl;have:=((h.mem a d).1 g).2;rw[m] at this
  cases this
 ·rcases za2.1 hp with hp | hp
  ·exact h.i p hp
  ·rw[zaw.1 hp];exact d
theorem Met.done {left:Lit->Bool} (h:Met f left l) (z:∀ k,left k=false) {d:Dir} (g:Xb d) (w:∀ p ∈ d,I64 p.1) (n:∀ p,I64 p->(f p).isSome=(look d p).isSome):(l.mergeSort fun x y=>decide (x<=y))=d.map Prod.fst:=by
 have t:(l.mergeSort fun x y=>decide (x<=y)).Pairwise (fun a b=>decide (a<=b)=true):=List.pairwise_mergeSort (fun a b c e A=>by simp only [zdp] at *;omega) (fun a b=>by simp only [Bool.or_eq_true,zdp];omega) l
 have q:=List.mergeSort_perm l fun x y=>decide (x<=y)
 have u:(l.mergeSort fun x y=>decide (x<=y)).Nodup:=q.nodup_iff.2 h.nd
 refine Zgm ?_ (Zgl g) fun x=>?_
 ·refine(t.and u).imp fun {a b} hab=>?_
  have e:=zcm hab.1;have A:=hab.2;omega
 ·rw[q.mem_iff,zbm]
  constructor
  ·intro j
   have e:=((h.mem x (h.i x j)).1 j).1;rw[n x (h.i x j)] at e;obtain⟨y,v⟩:=Option.isSome_iff_exists.1 e;exact⟨(x,y),(Y2 g x y).1 v,rfl⟩
  ·rintro⟨p,hpd,rfl⟩
   have m:=w p hpd;have e:look d p.1=some p.2:=(Y2 g p.1 p.2).2 hpd;exact(h.mem p.1 m).2 ⟨by rw[n p.1 m,e];rfl,z _⟩
theorem Zih {D:DataW Unit} (h:w.ownsMap prog 3 ZaG b n D):Maps.size D<=n:=by
 obtain⟨e,d,c,F,a,rfl⟩:=h;rw[size_eq,length_sorted];simpa using a
theorem Zpr {a:Nat} {D:DataW Unit} {left:Lit->Bool} (h:w.ranges prog 3 ZaG b r n D left a) (m:w'.heap[b]?=w.heap[b]?) (g:w'.heap[r]?=w.heap[r]?):w'.ranges prog 3 ZaG b r n D left a:=by
 obtain⟨e,f,k,l,d,j,F,c,i,p,rest⟩:=h;exact⟨e,f,k,l,d,m.trans j,F,c,i,g.trans p,rest⟩
theorem ZeM (w:World) (h:Xf F w p L d u N) (C:OkD d) (hN:N<=1000000):
 Calls prog 28 #[ptr p] w fun e w'=>∃ v,e=.returned v∧Qt w' w.heap.size v ((Qm d).map Prod.fst)∧Below w.heap.size w w':=by
 obtain⟨⟨-,-,c2,-,-,-⟩,-⟩:=h.cells;obtain⟨D,z,aa⟩:=h.rest.now;have ae:=ZZ z;have R:Hid (Maps.size D<=N):=ZZ (Zih z);have ad:Hid (L.now<w.heap.size):=ZZ h.rest.now.lt;have W:Hid (∀ q,I64 q->Maps.has D (.int .i64 q)=(look (Qm d) q).isSome):=ZZ (fun q E=>by rw[aa.has E];cases look (Qm d) q <;> rfl)
 have af:Hid (∀ left l,Met (look (Qm d)) left l->(∀ k,left k=false)->(l.mergeSort fun x y=>decide (x<=y))=(Qm d).map Prod.fst):=ZZ (fun left l hm hl=>hm.done hl C.dir.rise (fun p hp=>Zcc (C.dir.may p hp).1) (fun _ _=>rfl))
 clear h z aa C
 go_enter func28,ntmps28
 go_wp2_with(first
  | (at_range;refine wpList_range_own _ rfl _ 65 rfl 3 115 ZbB underlying65 ZaG L.now N D rfl ae.o ?_;intro w0 ac i av)
  | go_in)
 go_frame
 go_loopw[3] (fun v wr=>∃ (left:Lit->Bool) (B:Nat) (l:List Int),Hid (wr.ranges prog 3 ZaG L.now w.heap.size N D left B)∧B+l.length<=Maps.size D∧Hid (Qt wr (w.heap.size+1) v l)∧Hid (Met (look (Qm d)) left l)∧Hid (Below w.heap.size w wr∧w.heap.size+1<=wr.heap.size))
  (fun _ wr=>wr.rangeLeft L.now w.heap.size)
 case atStart=>
  refine⟨_,_,[],ZZ ac,by simp,ZZ (Qt.nil _ _),ZZ ⟨fun q E=>?_,List.nodup_nil,by simp⟩,ZZ ⟨⟨i.os,i.tape,i.output,i.size,fun k a=>i.block k a (by simp)⟩,by omega⟩⟩
  rw[W.o q E]
  cases look (Qm d) q <;> simp
 case round=>
  obtain⟨left,B,l,T,ap,m,HM,g⟩:=hrel
  go_wp2_with(first
   | (at_next;refine wpList_next_ranges _ rfl _ rfl 3 ZbB ZaG (Value.int .i64) (fun b:Nat=>ptr b) (fun key kl a=>by obtain⟨x,rfl,_⟩:=zgk underlying3 a;exact⟨x,rfl⟩) (fun v y A=>by obtain⟨c,rfl,_⟩:=ZdX A;exact⟨c,rfl⟩) L.now w.heap.size N _ _ _ rfl T.o ?_ ?_)
   | go_in)
  ·intro ag V
   have ak:=ZZ V;have al:l.length<=10000000:=by have:=R.o;omega
   have HS:=ZZ (ZuO _ m.o al);clear ag V
   go_wp2_with fail
   refine HS.o.mono ?_;rintro e W1 ⟨rfl,U,f⟩;have am:Hid (Below w.heap.size w W1):=ZZ (g.o.1.grown f g.o.1.size (fun k a=>by have:=(zaz m.o k a).1;omega))
   have t:=ZZ U;clear U f;go_wp2;go_ret;refine⟨_,rfl,?_,am.o⟩;rw[<-af.o _ _ HM.o ak.o];exact t.o.mono (by omega)
  ·intro x c kl yd yp n ab Q J A X P I f aq au
   obtain⟨x',ex,rfl,K⟩:=zgk underlying3 Q
   cases ex
   have S:=ZZ (Z9 K);have HF:Hid ((look (Qm d) x).isSome=true):=ZZ (by rw[<-W.o x S.o];exact has_true_of_atKey X)
   have an:=ZZ (HM.o.step S.o J HF.o);have ao:=ZZ P;have t:Hid (Qt n (w.heap.size+1) _ l):=ZZ (zfi m.o f (.inr (fun e=>by have:=(zaz m.o _ e).1;omega)))
   have G:Hid (Below w.heap.size w n∧w.heap.size+1<=n.heap.size):=ZZ ⟨g.o.1.grown f g.o.1.size (fun k a=>by have:=zaq a;omega),by have:=g.o.2;omega⟩
   have aj:=ZZ I
   have Y:l.length<=1000000∧ab+(l++[x]).length<=Maps.size D:=by
    have:=R.o;simp only [zdb,zcw];omega
   have H:=ZZ Y;clear Q J A X P I f aq K Y ap
   go_wp2_with(at_builtin;refine(fun(h:True->_)=>h trivial) ?_)
   intro _;refine Zfy n rfl _ _ rfl (w.heap.size+1) u3 l rfl t.o x rfl H.o.1 G.o.2 ?_;intro v2 Z O j;have ai:=ZZ O;have M:=ZZ (Zpr ao.o (j.block _ (by have:=ad.o;omega)) (j.block _ (by omega)))
   have ar:Hid (Below w.heap.size w Z∧w.heap.size+1<=Z.heap.size):=ZZ ⟨G.o.1.trans (j.mono (by omega)),by have:=G.o.2;have:=j.size;omega⟩
   clear O j;go_wp2;go_roundw
   case rel=>exact⟨_,ab,l++[x],M,H.o.2,ai,an,ar⟩
   case measure=>rw[M.o.left_eq,T.o.left_eq];exact aj.o
theorem Xf.synced {b:World} (h:Xf F w p L d u N) (q:Below w.heap.size w b) (y:b.heap.size=w.heap.size+1) (t:Yn b w.heap.size N (fun n=>(look (Qm d) n).map L.ps)):
 Xf (Gr F w b) ((b.setCell ⟨p,3,none⟩ (.map (some w.heap.size))).setCell ⟨p,4,none⟩ (.slice none 0 0)) p { L with kept:=w.heap.size,wv:=.slice none 0 0,cs:=[] } { d with kept:=Qm d,waits:=[] } u N:=by
 have e:=h.more q;have x:=e.rest
 have j:∀ k,k≠p->((b.setCell ⟨p,3,none⟩ (.map (some w.heap.size))).setCell ⟨p,4,none⟩ (.slice none 0 0)).heap[k]?=b.heap[k]?:=fun k f=>by
  rw[zat _ _ _ _ f,zat _ _ _ _ f]
 have a:=x.keep e.head (fun k _ f=>j k f)
 refine⟨(e.head.set 3 _).set 4 _,⟨a.now,t.keep (j _ (by have:=h.lt p h.fh;show w.heap.size≠p;omega)),zck _ _ _ _,rfl,(fun i c v m=>by simp at m),a.file,a.psn,a.vsn,?_,a.fn,.inr ⟨za0 _,by show w.heap.size<_;omega⟩,(fun g l=>by cases l),a.fp,a.fv⟩,e.fh,fun k j=>?_⟩
 ·have:=h.rest.now.lt
  show L.now≠w.heap.size;omega
 ·have:=e.lt k j
  simpa using this
theorem Zps (w:World) (h:Dsk F w p d N T):
 Calls prog 107 #[ptr p] w fun e w'=>Zgv F w p (Qn d).1 (Qn d).2 (N+2) T e w':=by
 have G:=ZZ h;obtain⟨L,h,E,B,m,n⟩:=h;have H:=ZZ h;have v:=ZZ E;have i:=ZZ B;have g:=ZZ (And.intro m n);have c:=ZZ (Zni w h);obtain⟨⟨-,-,M,K,I,-⟩,-,R,V,-⟩:=h.cells;have U:=ZZ (Zsl h.rest.now);clear E B m n;unfold Qn;by_cases a:d.power=0
 ·rw[zab a]
  rw[a] at c;clear a h
  go_enter func107,ntmps107
  go_wp2_with fail
  refine c.o.mono ?_;rintro e w' ⟨rfl,rfl⟩;go_wp2;go_ret;exact Zgv.same G.o (by omega) zL
 rw[zaa a];have u:(d.power != 0)=true:=by simpa using a
 rw[u] at c;clear a u h
 go_enter func107,ntmps107
 go_wp2_with fail
 refine c.o.mono ?_;rintro e w' ⟨rfl,rfl⟩
 go_wp2_with fail
 refine U.o.mono ?_;rintro e t ⟨rfl,D,j,b⟩;have q:=ZZ (H.out.synced b j D);have C:=ZZ (H.out.more b);have aa:=ZZ b;obtain⟨⟨-,-,-,S,A,-⟩,-,J,O,-⟩:=C.o.cells;obtain⟨Y,vn,Z,z⟩:=ZeJ C.o.rest.row;rw[z] at A;have x:Hid (Ql F w' ((t.setCell ⟨p,3,none⟩ (.map (some w'.heap.size))).setCell ⟨p,4,none⟩ (.slice none 0 0))):=ZZ (((Ql.ofBelow b).setCell 3 (fun _=>H.out.fh) _).setCell 4 (fun _=>H.out.fh) _)
 obtain⟨l,f⟩:=zg7 ((t.setCell ⟨p,3,none⟩ (.map (some w'.heap.size))).setCell ⟨p,4,none⟩ (.slice none 0 0));rw[<-f] at q x;have y:=ZZ f;have ab:=ZZ j;clear M K I R V D j b z f
 go_upto_region 5 with fail
 rw[<-y.o];clear y S A J O
 go_wp2_with fail
 refine(Zcb l q.o g.o.2).mono ?_;rintro e W4 ⟨rfl,Q,P⟩;go_wp2;go_ret;refine⟨rfl,_,⟨_,Q.mono (by omega),Zhf (fs:=d.files) v.o.dir v.o.keep,⟨by have:=i.o.files;show d.files.length<=_;omega,?_,i.o.bytes⟩,g.o.1,Zdj g.o.2⟩,x.o.trans P (fun k hk hf=>?_),fun k hk=>?_⟩
 ·have X:=i.o.names
  have W:=Zbq d d.waits.length;rw[Zdg] at W;show(Qm d).length+0<=_;omega
 ·rcases hf with hf | hf
  ·exact hf
  ·omega
 ·rcases hk with hk | hk
  ·exact .inl hk
  ·exact .inr hk.1
open Go.RowKit Go.Maps
open Go.ChangeMaps Go.MapKept
open Go.WideElems (Fit rd rg pl rd_val elemAt)
theorem Zns:∀ {a b:List Int},a.Nodup->(∀ x ∈ a,x ∈ b)->a.length<=b.length
 | [],_,_,_=>zap _
 | x::a,b,hn,hs=>by
  rw[List.nodup_cons] at hn;have d:=hs x (List.mem_cons_self ..);have e:=Zns (a:=a) (b:=b.erase x) hn.2 fun y c=>(List.mem_erase_of_ne (by rintro rfl;exact hn.1 c)).2 (hs y (List.mem_cons_of_mem _ c))
  have f:=List.length_erase_of_mem d;have g:=List.length_pos_of_mem d;rw[zcb];omega
def toI:Value->Int
 | .int _ x=>x
 | _=>0
theorem Yn.tight (h:Yn w b n f) {l:List Int} (M:∀ p,I64 p->(f p).isSome=true->p ∈ l):Yn w b l.length f:=by
 obtain⟨D,⟨g,q,u,F,O,rfl⟩,v⟩:=h
 have k:∀ e ∈ g.toList,∃ x,e.key=.int .i64 x∧I64 x:=fun e i=>by
  obtain⟨y,j⟩:=F.reads e i;obtain⟨x,d,_,H⟩:=zgk underlying3 (WideElems.rd_key j);exact⟨x,d,Z9 H⟩
 refine⟨_,⟨g,q,u,F,?_,rfl⟩,v⟩
 have C:(g.toList.map fun e=>toI e.key).Nodup:=by
  have N:=((stamped_iff g q).1 F.stamped).2.2;rw[List.Nodup,zej];refine List.Pairwise.imp_of_mem ?_ N;intro a c J A B e;obtain⟨x,d,_⟩:=k a J;obtain⟨y,j,_⟩:=k c A;rw[d,j] at e;have:x=y:=e;exact B (by rw[d,j,this])
 have E:∀ x ∈ (g.toList.map fun e=>toI e.key),x ∈ l:=fun x d=>by
  obtain⟨e,i,rfl⟩:=zbm.1 d;obtain⟨x,d,m⟩:=k e i;rw[d];refine M x m ?_;rcases Maps.fit_look false ZbB underlying65 (ZuH w) u F (zfh underlying3 (Zxm m)) with ⟨_,G,_⟩ | ⟨P,y,_,_,_,K,I,_⟩
  ·exact absurd d (G e i)
  ·cases ef:f x with
   | some _=>rfl
   | none=>
    obtain⟨L,_,rfl⟩:=ZdX K;refine(ZuJ (x:=L) fun z=>?_).elim
    have t:=I z;rw[v x m z,ef] at t;exact t.symm
 have:=Zns C E;simpa using this
theorem ZuP {s:Nat} {t:TypeId} {xs:List Value} (h:w.ownsRow 0 t s v n xs):∃ ao cap,v=.slice ao n cap∧n<=cap∧((ao=none∧cap=0)∨∃ g,ao=some ⟨g,0,none⟩):=by
 rcases h.2 with ⟨a,c⟩ | ⟨g,cap,cur,a,_,_,b,_⟩
 ·exact⟨none,0,by rw[a,c],by omega,.inl ⟨rfl,rfl⟩⟩
 ·exact⟨some ⟨g,0,none⟩,cap,a,b,.inr ⟨g,rfl⟩⟩
theorem _root_.Go.World.grownBy.trans2 {a b c:World} (h:a.grownBy b (some r)) (k:b.grownBy c (some r)):a.grownBy c (some r):=Zib h k
theorem Xf.lost {l:Dir} (h:Xf F w p L d u N) (B:w.heap.size<=w'.heap.size)
 (m:∀ k,F k->k≠p->k≠L.now->k≠L.kept->w'.heap[k]?=w.heap[k]?) (x:Bk 69 w' p (ZfL { L with wv:=.slice none 0 0,cs:=[] } d u))
 (A:Yn w' L.now N (fun n=>(look l n).map L.ps)) (q:Yn w' L.kept N (fun n=>(look l n).map L.ps)):
 Xf F w' p { L with wv:=.slice none 0 0,cs:=[] } { d with kept:=l,waits:=[] } u N:=by
 have a:=h.rest;have e:∀ {t:TypeId} {k:Nat} {cs:Array Value},Bk t w k cs->F k->t≠69->w'.heap[k]?=w.heap[k]?:=fun e j z=>m _ j (e.ne h.head z) (e.neMap a.now) (e.neMap a.kept)
 refine⟨x,⟨A,q,zck _ _ _ _,rfl,(fun i c v b=>by simp at b),fun i b=>?_,a.psn,a.vsn,a.nk,a.fn,a.fk,(fun g f=>by cases f),a.fp,a.fv⟩,h.fh,fun k j=>by have:=h.lt k j;omega⟩
 refine(a.file i b).keep (e (a.file i b).box (a.fp i b) (by decide)) fun g f=>?_
 obtain⟨C,y⟩:=Di (a.file i b).own f;exact e y (a.fv i b g f) (by decide)
theorem Zii (names:Int) (w:World) (h:Xf F w p L d u N) (ak:OkD d) (aj:Bnd d N T) (hN:N<=1000000):
 Calls prog 31 #[ptr p,.int .i64 names] w fun e w'=>e=.returned (.tuple #[])∧Xf F w' p { L with wv:=.slice none 0 0,cs:=[] } { d with kept:=Yo d (Zf names d.waits.length),waits:=[] } u N∧Ql F w w':=by
 have H:=ZZ h;have aw:=ZZ ak;have aJ:=ZZ aj;have hW:d.waits.length<=N:=by have:=aj.names;omega
 obtain⟨K,hK⟩:=zg7 (Zf names d.waits.length);have a3:K<=d.waits.length:=by rw[hK];exact ZbH _ _
 rw[<-hK];have av:Hid (∀ q,Calls prog 72 #[.int .i64 names,.int .i64 (d.waits.length:Int)] (w.drewN q) fun e w'=>e=.returned (.int .i64 (K:Int))∧w'=w.drewN q):=ZZ (fun q=>by rw[hK];exact Znk names d.waits.length (by omega) (w.drewN q))
 obtain⟨⟨-,-,-,c3,c4,-⟩,-,-,f4,-⟩:=h.cells;obtain⟨ao,cap,P,aN,aa⟩:=ZuP h.rest.row;rw[h.rest.many] at P aN;rw[P] at c4;have a1:=ZZ P
 have ay:Hid (∀ k,k<K->∃ g c y,ao=some ⟨g,0,none⟩∧d.waits[k]?=some c∧ChV F w L.ps c y∧w.cell? ⟨g,k,none⟩=some y∧Zuh d.files.length c∧Yo d (k+1)=chD (Yo d k) c∧g≠L.kept):=ZZ (fun k hk=>by
  have U:k<d.waits.length:=by omega
  have aq:k<L.cs.length:=by rw[h.rest.many];exact U
  rcases aa with ⟨_,aY⟩ | ⟨g,rfl⟩
  ·omega
  ·have aH:L.wv.ownBlock=some g:=by rw[P];rfl
   refine⟨g,d.waits[k],L.cs[k],rfl,za4 U,h.rest.wait k _ _ (za4 U) (za4 aq),?_,ak.chs _ (zcp U),Zun d U,?_⟩
   ·have:=zc4 h.rest.row aH k _ (za4 aq)
    rw[zbn,za9] at this;exact this
   ·obtain⟨aX,aV⟩:=Di h.rest.row aH
    exact aV.neMap h.rest.kept)
 clear ak aj P aa hK h
 go_enter func31,ntmps31
 go_wp2;refine zfc (by kernel_rfl) (by kernel_rfl) ?_
 repeat (go_big_quiet_step ((go_at_call 72;exact Calls.quiet_of_same (av.o _))))
 refine zd3 ?_;rintro _ ⟨nq,rfl⟩;have a:Hid (Xf F (w.drewN nq) p L d u N):=ZZ (H.out.drewN nq)
 have ag:Hid (∀ k,k<K->∃ g c y,ao=some ⟨g,0,none⟩∧d.waits[k]?=some c∧ChV F (w.drewN nq) L.ps c y∧(w.drewN nq).cell? ⟨g,k,none⟩=some y∧Zuh d.files.length c∧Yo d (k+1)=chD (Yo d k) c∧g≠L.kept):=ZZ (fun k hk=>by
  obtain⟨g,c,y,t,v,E,h4,h5,h6⟩:=ay.o k hk
  exact⟨g,c,y,t,v,E.keep (fun _ i=>i) (fun _ _=>rfl) (fun _ _ _ _=>rfl),h4,h5,h6⟩)
 have aC:Hid (Ql F w (w.drewN nq)):=ZZ ((Ql.refl _ _).drewN nq);obtain⟨W,aB⟩:=zg7 (w.drewN nq);rw[<-aB] at a ag aC ⊢;clear aB av ay c3 c4 f4 H;go_wp2
 go_loopw[19] (fun vi wr=>∃ k:Nat,vi=.int .i64 (k:Int)∧k<=K∧Hid (Yn wr L.kept (N+k) (fun n=>(look (Yo d k) n).map L.ps))∧Hid (W.grownBy wr (some L.kept))) (fun vi _=>K-(intOf vi).toNat)
 case atStart=>exact⟨0,rfl,zap _,ZZ (by rw[Zes];exact a.o.rest.kept),ZZ ⟨rfl,rfl,rfl,za0 _,fun _ _ _=>rfl⟩⟩
 case round=>
  obtain⟨k,rfl,a0,M,x⟩:=hrel;have ac:=ZZ (a.o.head.keep (x.o.block p a.o.head.lt (fun e=>(a.o.head.neMap a.o.rest.kept) (zaq e))))
  by_cases aK:k<K
  ·obtain⟨g,c,y,aa,hc,V,J,S,ar,aA⟩:=ag.o k aK
   have al:Hid (∀ n',look (Yo d (k+1)) n'=chF (look (Yo d k)) c n'):=ZZ (fun n'=>by rw[ar];exact Zdf (aw.o.dirs k).rise c (Znp S) n')
   have V:ChV F wr L.ps c y:=V.keep (fun _ i=>i) (fun _ _=>rfl) (fun j cs i hb=>x.o.block j (a.o.lt j i) (fun e=>by
    rcases hb with hb | hb <;> exact(hb.neMap a.o.rest.kept) (zaq e)))
   have J:wr.cell? ⟨g,k,none⟩=some y:=(x.o.cell J (fun e=>aA (zaq e)))
   obtain⟨d3,-⟩:=ac.o.cell 3 rfl;subst aa;clear ar aA hc
   cases c with
   | give n f=>
    obtain⟨b1,b2,B,t,v,-,-⟩:=V;have R:=ZZ (Znm (f:=f) S.1 wr t v M.o (by omega))
    rw[B] at J;clear B t v
    go_wp2_with fail
    refine R.o.mono ?_;rintro e Q ⟨rfl,A,C⟩;have Y:Hid (Yn Q L.kept (N+(k+1)) (fun n=>(look (Yo d (k+1)) n).map L.ps)):=ZZ (A.fun fun n' _=>by rw[al.o])
    have I:=ZZ (x.o.trans2 C);clear A C;go_wp2;go_roundw
    case rel=>exact⟨k+1,by go_num,by omega,Y,I⟩
    case measure=>simp[intOf];omega
   | move n m f=>
    obtain⟨b1,b2,b3,B,t,v,E,-,-,-⟩:=V;have R:=ZZ (Znn (f:=f) S.1 S.2.1 wr t v E M.o (by omega))
    rw[B] at J;clear B t v E
    go_wp2_with fail
    refine R.o.mono ?_;rintro e Q ⟨rfl,A,C⟩;have Y:Hid (Yn Q L.kept (N+(k+1)) (fun n=>(look (Yo d (k+1)) n).map L.ps)):=ZZ (A.fun fun n' _=>by rw[al.o])
    have I:=ZZ (x.o.trans2 C);clear A C;go_wp2;go_roundw
    case rel=>exact⟨k+1,by go_num,by omega,Y,I⟩
    case measure=>simp[intOf];omega
   | take n=>
    obtain⟨b1,B,t,-⟩:=V;have R:=ZZ (Zno S wr t M.o );rw[B] at J;clear B t
    go_wp2_with fail
    refine R.o.mono ?_;rintro e Q ⟨rfl,A,C⟩;have Y:Hid (Yn Q L.kept (N+(k+1)) (fun n=>(look (Yo d (k+1)) n).map L.ps)):=ZZ (A.fun fun n' _=>by rw[al.o])
    have I:=ZZ (x.o.trans2 C);clear A C;go_wp2;go_roundw
    case rel=>exact⟨k+1,by go_num,by omega,Y,I⟩
    case measure=>simp[intOf];omega
  ·have aT:Hid (k=K):=ZZ (by omega)
   obtain⟨va,vn,vc,aE⟩:=ZeJ a.o.rest.row;obtain⟨d4,e4⟩:=ac.o.cell 4 rfl;obtain⟨d2,-⟩:=ac.o.cell 2 rfl;have an:wr.cell? ⟨p,4,none⟩=some L.wv:=d4;rw[aE] at an;have ae:=ZZ (ac.o.set 4 (.slice none 0 0));have aG:Hid (Yn (wr.setCell ⟨p,4,none⟩ (.slice none 0 0)) L.now N (fun n=>(look (Qm d) n).map L.ps)):=ZZ (a.o.rest.now.keep ((zat _ _ _ _ (a.o.head.neMap a.o.rest.now).symm).trans (x.o.block _ a.o.rest.now.lt (fun e=>a.o.rest.nk (zaq e)))))
   have af:Hid (Yn (wr.setCell ⟨p,4,none⟩ (.slice none 0 0)) L.kept (N+k) (fun n=>(look (Yo d k) n).map L.ps)):=ZZ (M.o.keep (zat _ _ _ _ (a.o.head.neMap a.o.rest.kept).symm))
   obtain⟨D,G⟩:=zg7 (wr.setCell ⟨p,4,none⟩ (.slice none 0 0))
   have aQ:Hid (Ql F w D):=ZZ (by
    rw[G]
    exact(aC.o.trans (Ql.ofGrown x.o (fun j e _=>by obtain rfl:=zaq e;exact a.o.rest.fk)) (fun _ _ i=>i)).setCell 4 (fun _=>a.o.fh) _)
   have aR:Hid (∀ j,F j->j≠p->j≠L.kept->D.heap[j]?=W.heap[j]?):=ZZ (fun j i t v=>by
    rw[G,zat _ _ _ _ t]
    exact x.o.block j (a.o.lt j i) (fun e=>v (zaq e)))
   have aP:Hid (W.heap.size<=D.heap.size):=ZZ (by rw[G];have:=x.o.size;simpa using this)
   rw[<-G] at ae aG af;have aD:=ZZ G;clear aE d4 G M ag
   go_upto_region 6 with fail
   rw[<-aD.o];clear aD an e4 d2;obtain⟨d2,-⟩:=ae.o.cell 2 rfl
   go_wp2_with(first | (with_reducible refine ZjS D rfl _ rfl L.now N _ rfl aG.o ?_);intro z aF ad)
   have ai:=ZZ (ae.o.keep (ad.block p ae.o.lt (fun e=>(a.o.head.neMap a.o.rest.now) (zaq e))))
   have ap:=ZZ (af.o.keep (ad.block _ af.o.lt (fun e=>a.o.rest.nk (zaq e).symm)))
   have aW:=ZZ aF;have am:=ZZ ad;clear aF ad d2;have d2:z.cell? ⟨p,2,none⟩=some (.map (some L.now)):=(ai.o.cell 2 rfl).1;have d3:z.cell? ⟨p,3,none⟩=some (.map (some L.kept)):=(ai.o.cell 3 rfl).1;have aS:N+k<=10000000:=by omega
   have ax:Hid (∀ (X:World) (b n:Nat),Yn X b n (fun n=>(look (Yo d k) n).map L.ps)->Yn X b N (fun n=>(look (Yo d k) n).map L.ps)):=ZZ (fun _ _ _ hm=>(hm.tight (l:=(Yo d k).map Prod.fst) (fun q _ hq=>by
    cases e:look (Yo d k) q with
    | none=>rw[e] at hq;cases hq
    | some f=>exact zbm.2 ⟨(q,f),(Y2 (aw.o.dirs k).rise q f).1 e,rfl⟩)).mono (by
     have t:=Zbq d k;have v:=aJ.o.names;simp only [zda]
     omega))
   have aI:=ZZ (Zxo (w:=z.drew) (aW.o.keep rfl) (ap.o.keep rfl) a.o.rest.nk aS)
   go_upto_region 7 with fail
   go_region_with
    (first
     | (go_at_call 73;refine aI.o.mono ?_;rintro e W4 ⟨rfl,az,au⟩;have aO:=ZZ az;have O:=ZZ au;clear az au))
   all_goals
    go_wp2;go_end0;have aL:z.heap.size<=W4.heap.size:=O.o.size;have ab:∀ j,j<z.heap.size->j≠L.now->W4.heap[j]?=z.heap[j]?:=fun j Z hn=>O.o.block j Z (fun e=>hn (zaq e))
    have aZ:=am.o.size;have a2:=aP.o;have aU:p<z.heap.size:=by have:=a.o.head.lt;omega
    have aM:L.kept<z.heap.size:=by have:=a.o.rest.kept.lt;omega
    rw[<-aT.o];refine⟨rfl,a.o.lost (l:=Yo d k) (by omega) (fun j i t v E=>?_) ?_ (ax.o _ _ _ aO.o) (ax.o _ _ _ (ap.o.keep (ab _ aM (Ne.symm a.o.rest.nk)))),?_⟩
    ·have Z:=a.o.lt j i
     rw[ab j (by omega) v,am.o.block j (by omega) (fun e=>v (zaq e))]
     exact aR.o j i t E
    ·exact ai.o.keep (ab p aU (a.o.head.neMap a.o.rest.now))
    ·have o3:Ql F D z:=Ql.ofGrown am.o (fun j e _=>by obtain rfl:=zaq e;exact a.o.rest.fn)
     have o4:Ql F z W4:=⟨O.o.os,O.o.tape,O.o.output,aL,fun j Z hn=>ab j Z (fun e=>hn (by rw[e];exact a.o.rest.fn))⟩
     exact(aQ.o.trans o3 (fun _ _ i=>i)).trans o4 (fun _ _ i=>i)
theorem Zsv {l:List UInt8} (h:Own w 0 v l):∃ ao cap,v=.slice ao l.length cap∧l.length<=cap∧((ao=none∧cap=0)∨∃ g,ao=some ⟨g,0,none⟩):=ZuP h
theorem Xf.cutFile {f k:Nat} {ao:Option Addr} {cap:Nat} (h:Xf F w p L d u N) (m:f<d.files.length) (q:L.vs f=.slice ao (fl d.files f).b.length cap) (v:k<=(fl d.files f).b.length):
 Xf F ((w.setCell ⟨L.ps f,1,none⟩ (.int .i64 (k:Int))).setCell ⟨L.ps f,0,none⟩ (.slice ao k cap)) p { L with vs:=fun i=>if i=f then .slice ao k cap else L.vs i } { d with files:=d.files.set f ⟨(fl d.files f).b.take k,k⟩ } u N:=by
 have c:=h.rest.file f m
 have t:∀ g,(L.vs f).ownBlock=some g->g≠L.ps f:=fun g a=>by
  obtain⟨z,y⟩:=Di c.own a;exact y.ne c.box (by decide)
 have l:(Value.slice ao k cap).ownBlock=(L.vs f).ownBlock:=by rw[q];cases ao <;> rfl
 have x:Own w 0 (.slice ao k cap) ((fl d.files f).b.take k):=by
  have:=c.own;rw[q] at this;exact this.front k v
 refine h.setFile (F':=F) m (fun j _ n _=>by rw[zat _ _ _ _ n,zat _ _ _ _ n]) ⟨(c.box.set 1 _).set 0 _,Qh x fun g a=>?_⟩ (.inl l) (fun _ e=>e) (fun g a=>h.rest.fv f m g (by rw[<-l];exact a)) (fun j e=>by simpa using h.lt j e)
 have:=t g (by rw[<-l];exact a)
 rw[zat _ _ _ _ this,zat _ _ _ _ this]
theorem ZuQ (h:n<=1000000000000000):IntKind.i64.wrap (n:Int)=(n:Int):=by
 rw[zbo];omega
theorem ZbC {l:Dir} {i:Nat} (h:i<l.length):l.take (i+1)=l.take i++[l[i]]:=zdx h
theorem ZfM {l:Dir} (h:Dc l) {i:Nat} (c:i<l.length):∀ p ∈ l.take i,p.2≠l[i].2:=by
 intro p b;have a:Dc (l.take (i+1)):=List.Pairwise.sublist (List.take_sublist _ _) h;rw[ZbC c] at a;exact(zde.1 a).2.2 p b _ (zaw.2 rfl)
theorem Znt (keep:List Int) {l:Dir} (h:Dc l) {i:Nat} (a:i<l.length) (fs:List Fl):Xd keep (l.take (i+1)) 0 fs=(Xd keep (l.take i) 0 fs).set l[i].2 (Zlt (fl fs l[i].2) (Zhw keep i)):=by
 rw[ZbC a,Zhx,Zbo keep _ 0 fs _ (ZfM h a)];have:(l.take i).length=i:=by rw[length_take];omega
 rw[this,za9]
theorem Zsw (keep:List Int) {l:Dir} (h:Dc l) {i:Nat} (a:i<l.length) {fs:List Fl} (c:l[i].2<fs.length) (d:∀ x ∈ fs,x.k<=x.b.length):
 Zy (Xd keep (l.take (i+1)) 0 fs) (l.take (i+1))=Zy (Xd keep (l.take i) 0 fs) (l.take i)+(Zlt (fl fs l[i].2) (Zhw keep i)).k:=by
 rw[Znt keep h a];have j:Zy ((Xd keep (l.take i) 0 fs).set l[i].2 (Zlt (fl fs l[i].2) (Zhw keep i))) (l.take i)=Zy (Xd keep (l.take i) 0 fs) (l.take i):=ZlH fun p f=>by rw[Jk (fun e=>ZfM h a p f e.symm)]
 have g:(fl ((Xd keep (l.take i) 0 fs).set l[i].2 (Zlt (fl fs l[i].2) (Zhw keep i))) l[i].2).b.length=(Zlt (fl fs l[i].2) (Zhw keep i)).k:=by
  rw[Zao (by rw[Gn];exact c),ZwR (Zfx d _)]
 rw[ZbC a,ZdY,j,Zaj,Zhk,g];rfl
theorem ZcG {T:Nat} (keep:List Int):∀ (l:Dir) (i:Nat) (fs:List Fl),(∀ x ∈ fs,x.b.length<=T)->(∀ p ∈ l,p.2<fs.length)->∀ x ∈ Xd keep l i fs,x.b.length<=T
 | [],_,_,h,_=>h
 | p::l,i,fs,h,hl=>by
  rw[Xd];refine ZcG keep l (i+1) _ (fun x a=>?_) (fun q c=>by rw[zd4];exact hl q (List.mem_cons_of_mem _ c))
  rcases zcs a with a | rfl
  ·exact h x a
  ·have:=h _ (ZbI (hl p (List.mem_cons_self ..)))
   simp only [Zlt,length_take];omega
theorem ZlK (vk:Value) (keep:List Int) (w:World) (h:Xf F w p L d u N) (hw:d.waits=[]) (aA:OkD d) (aI:Bnd d N T) (hN:N<=1000000) (hT:T<=1000000000) (hr:RdI w vk keep) (aG:keep=[]∨∀ k,vk.ownBlock=some k->¬ F k) (bx:keep.length<=1000000000):
 Calls prog 32 #[ptr p,vk] w fun e w'=>e=.returned (.tuple #[])∧(∃ L',Xf F w' p L' { d with files:=Xd keep d.kept 0 d.files } (Zy (Xd keep d.kept 0 d.files) d.kept:Nat) N)∧Ql F w w':=by
 have H:=ZZ h;have aT:=ZZ aA;have aM:=ZZ aI;have a2:=ZZ hr;have bj:=ZZ aG;obtain⟨⟨-,c1,-,-,-,-⟩,f1,-⟩:=h.cells;obtain⟨ka,kc,rfl,-⟩:=hr;obtain⟨l,hl⟩:=zg7 d.kept;have aO:Hid (Qm d=l):=ZZ (by unfold Qm;rw[hw,hl];rfl)
 have aX:Hid (l.length<=N):=ZZ (by have:=aI.names;rw[hl];omega)
 have V:Hid (OkL d.files.length l):=ZZ (by rw[hl];exact aA.kept)
 have be:=ZZ hl;have ae:=ZZ (h.setHead 1 (.int .i64 0) (d':=d) (u':=0) ⟨rfl,rfl,rfl⟩ rfl);have aB:Hid (Ql F w (w.setCell ⟨p,1,none⟩ (.int .i64 0))):=ZZ ((Ql.refl _ _).setCell 1 (fun _=>h.fh) _)
 obtain⟨W1,aF⟩:=zg7 (w.setCell ⟨p,1,none⟩ (.int .i64 0));rw[<-aF] at ae aB;have aL:=ZZ (ZeM W1 ae.o aA hN);have aY:=ZZ (a2.o.onlyE aB.o aG);have aR:=ZZ aF;clear aF h aA aI aG hl hw
 go_enter func32,ntmps32
 go_upto_region 1 with fail
 rw[<-aR.o];clear aR c1 f1
 go_wp2_with fail
 refine aL.o.mono ?_;rintro e W2 ⟨vn,rfl,ay,ar⟩;rw[aO.o] at ay
 have a6:Hid (∀ x ∈ l.map Prod.fst,I64 x):=ZZ (fun x hx=>by
  obtain⟨q,hq,rfl⟩:=zbm.1 hx
  exact Zcc (V.o.may q hq).1)
 have aZ:=ZZ (ay.rd a6.o)
 have ba:Hid (∀ k,vn.ownBlock=some k->¬ F k):=ZZ (fun k hk hf=>by
  have E:=(zaz ay k hk).1;have M:=ae.o.lt k hf
  omega)
 have bf:Hid (Xf F W2 p L d 0 N):=ZZ (ae.o.keep (fun k hf=>ar.block k (ae.o.lt k hf)) ar.size)
 have bc:Hid (Ql F w W2):=ZZ (aB.o.trans (G:=fun _=>False) (Ql.ofBelow ar) (fun _ _ hf=>hf.elim))
 have a7:=ZZ (aY.o.below ar zL);obtain⟨na,nc,rfl,-⟩:=aZ.o;clear ay ar aL aY a2 ae aB H;have bg:(l.map Prod.fst).length=l.length:=zda ..;rw[bg];go_wp2
 go_loopw[14] (fun vi wr=>∃ i:Nat,vi=.int .i64 (i:Int)∧i<=l.length∧∃ z,Hid (Xf F wr p z { d with files:=Xd keep (l.take i) 0 d.files } (Zy (Xd keep (l.take i) 0 d.files) (l.take i):Nat) N)∧Hid (Ql F W2 wr)) (fun vi _=>l.length-(intOf vi).toNat)
 case atStart=>exact⟨0,rfl,zap _,L,by simpa[Xd,Zy] using bf,ZZ (Ql.refl _ _)⟩
 case round=>
  obtain⟨i,rfl,bA,z,D,aq⟩:=hrel;by_cases R:i<l.length
  case neg=>
   have hi:i=l.length:=by omega
   subst hi;rw[zdd,be.o] at D;go_wp2;go_end0;exact⟨rfl,⟨z,D.o⟩,bc.o.trans aq.o (fun _ _ hf=>hf)⟩
  obtain⟨n,f,af⟩:∃ n f,l[i]=(n,f):=⟨_,_,rfl⟩;have az:(n,f) ∈ l:=by rw[<-af];exact zcp R
  have aH:f<d.files.length:=(V.o.may _ az).2;have aS:I64 n:=Zcc (V.o.may _ az).1;have aN:(Xd keep (l.take i) 0 d.files).length=d.files.length:=Gn _ _ _ _;obtain⟨x,hx⟩:=zg7 (fl d.files f)
  have ap:fl (Xd keep (l.take i) 0 d.files) f=x:=by
   rw[hx];refine Zbo keep _ 0 _ _ fun q hq=>?_
   have:=ZfM V.o.apart R q hq;rw[af] at this;exact this
  have aa:Hid (Znh wr (z.ps f) (z.vs f) x):=ZZ (by
   have:=D.o.rest.file f (by show f<(Xd keep (l.take i) 0 d.files).length;omega)
   rw[<-ap]
   exact this)
  have bd:x.k<=x.b.length:=by rw[hx];exact Zfx aT.o.keep f
  have a4:x.b.length<=T:=by rw[hx];exact aM.o.bytes _ (ZbI aH)
  obtain⟨ao,cap,aC,a9,bo⟩:=Zsv aa.o.own;have B:wr.cell? ⟨z.ps f,0,none⟩=some (.slice ao x.b.length cap):=by rw[<-aC];exact(aa.o.box.cell 0 rfl).1
  have y0:wr.frozen? ⟨z.ps f,0,none⟩=false:=(aa.o.box.cell 0 rfl).2;have g1:wr.cell? ⟨z.ps f,1,none⟩=some (.int .i64 (x.k:Int)):=(aa.o.box.cell 1 rfl).1;have y1:wr.frozen? ⟨z.ps f,1,none⟩=false:=(aa.o.box.cell 1 rfl).2;obtain⟨U,hU⟩:∃ U:Nat,U=Zy (Xd keep (l.take i) 0 d.files) (l.take i):=⟨_,rfl⟩
  have bw:U<=1000000000000000:=by
   rw[hU];have E:=Zpp (T:=T) (fs:=Xd keep (l.take i) 0 d.files) (ZcG keep _ 0 _ aM.o.bytes (fun q hq=>(V.o.may q (zbz hq)).2)) (l.take i) (fun q hq=>by rw[aN];exact(V.o.may q (zbz hq)).2)
   have M:(l.take i).length<=N:=by have:=aX.o;rw[length_take];omega
   have h3:(l.take i).length*T<=1000000*1000000000:=zgi (by omega) hT
   omega
  rw[<-hU] at D;have k1:wr.cell? ⟨p,1,none⟩=some (.int .i64 (U:Int)):=D.o.cells.1.2.1;have j1:wr.frozen? ⟨p,1,none⟩=false:=D.o.cells.2.1;have k2:wr.cell? ⟨p,2,none⟩=some (.map (some z.now)):=D.o.cells.1.2.2.1
  have aE:(Instr.lookup 65 (.map (some z.now)) (.int .i64 n) false).run prog wr=.ok (.pointer (some ⟨z.ps f,0,none⟩)) wr:=by
   have E:=D.o.rest.now.look1 aS
   have M:look (Qm { d with files:=Xd keep (l.take i) 0 d.files }) n=some f:=by
    show look (Qm d) n=some f;rw[aO.o];exact(Y2 V.o.rise n f).2 az
   rw[M] at E;exact E
  obtain⟨nb,an,rfl,aK⟩:∃ nb an,na=some ⟨nb,an,none⟩∧wr.cell? ⟨nb,an+i,none⟩=some (.int .i64 n):=by
   have E:=aZ.o.only aq.o ba.o;obtain⟨a',c',al,_,_,_,_,h6⟩:=E;simp only [zbb] at al;obtain⟨rfl,_,rfl⟩:=al;rcases h6 with h6 | ⟨nb,an,rfl,h7⟩
   ·have:l=[]:=by simpa using h6
    rw[this] at R;simp at R
   ·refine⟨nb,an,rfl,?_⟩
    have h8:=h7 i (by simpa using R)
    rw[h8];simp[List.getD,R,af]
  obtain⟨A,hA⟩:=zg7 (Zhw keep i);obtain⟨m,hm⟩:=zg7 (x.b.length-x.k);have aP:(x.b.length:Int)-(x.k:Int)=(m:Int):=by omega
  obtain⟨sh,ax⟩:=zg7 (Zf A m);have bb:sh<=m:=by rw[ax];exact ZbH _ _
  obtain⟨y,a3⟩:=zg7 (x.k+sh);have a5:(x.k:Int)+(sh:Int)=(y:Int):=by omega
  have aQ:y<=x.b.length:=by omega
  have ab:Hid (∀ W,Calls prog 72 #[.int .i64 A,.int .i64 (m:Int)] W fun e w'=>e=.returned (.int .i64 (sh:Int))∧w'=W):=ZZ (fun W=>by rw[ax];exact Znk A m (by omega) W)
  have aV:Hid (Zlt x A=⟨x.b.take y,y⟩):=ZZ (by rw[a3,ax,hm];rfl)
  have aD:Hid (Xf F (((wr.setCell ⟨z.ps f,1,none⟩ (.int .i64 (y:Int))).setCell ⟨z.ps f,0,none⟩ (.slice ao y cap)).setCell ⟨p,1,none⟩ (.int .i64 ((U:Int)+(y:Int)))) p { z with vs:=fun j=>if j=f then .slice ao y cap else z.vs j } { d with files:=Xd keep (l.take (i+1)) 0 d.files } (Zy (Xd keep (l.take (i+1)) 0 d.files) (l.take (i+1)):Nat) N):=ZZ (by
   have E:=D.o.cutFile (f:=f) (k:=y) (ao:=ao) (cap:=cap) (by show f<(Xd keep (l.take i) 0 d.files).length;omega) (by show z.vs f=.slice ao (fl (Xd keep (l.take i) 0 d.files) f).b.length cap;rw[ap];exact aC) (by show y<=(fl (Xd keep (l.take i) 0 d.files) f).b.length;rw[ap];exact aQ)
   have M:=Zsw keep V.o.apart R (fs:=d.files) (by rw[af];exact aH) aT.o.keep
   have h3:=Znt keep V.o.apart R d.files;rw[af,<-hx,<-hA,aV.o] at M h3;rw[M,h3,<-hU]
   dsimp only at E
   rw[ap] at E;have e1:((U+y:Nat):Int)=(U:Int)+(y:Int):=by omega
   show Xf F _ p _ _ ((U+y:Nat):Int) N;rw[e1]
   exact E.setHead 1 _ ⟨rfl,rfl,rfl⟩ rfl)
  have K:Hid (Ql F W2 (((wr.setCell ⟨z.ps f,1,none⟩ (.int .i64 (y:Int))).setCell ⟨z.ps f,0,none⟩ (.slice ao y cap)).setCell ⟨p,1,none⟩ (.int .i64 ((U:Int)+(y:Int))))):=ZZ (((aq.o.setCell 1 (fun _=>D.o.rest.fp f (by show f<(Xd keep (l.take i) 0 d.files).length;omega)) _).setCell 0 (fun _=>D.o.rest.fp f (by show f<(Xd keep (l.take i) 0 d.files).length;omega)) _).setCell 1 (fun _=>D.o.fh) _)
  have ai:Hid (p≠z.ps f):=ZZ (D.o.head.ne aa.o.box (by decide))
  obtain⟨P,hP⟩:=zg7 (z.ps f);have ag:Hid (Bk 117 wr (z.ps f) #[.slice ao x.b.length cap,.int .i64 (x.k:Int)]):=ZZ (by rw[<-aC];exact aa.o.box)
  obtain⟨DI,aW⟩:∃ DI,DI={ d with files:=Xd keep (l.take i) 0 d.files }:=⟨_,rfl⟩
  have aU:Hid (Bk 69 wr p (ZfL z DI (U:Int))):=ZZ (by rw[aW];exact D.o.head)
  clear aW;rw[<-hP] at B y0 g1 y1 aE aD K ai ag;obtain⟨O,a0⟩:=zg7 x.b.length;obtain⟨xk,a1⟩:=zg7 x.k;rw[<-a0] at B aP aQ a4 a9 ag;rw[<-a1] at g1 aP a5 ag;have bv:y<=cap:=by omega
  have HA:=ZZ hA;have a8:=ZZ (a7.o.onlyE aq.o bj.o);clear af az aH aS aN hx ap bd aC hU hA hm ax bb a3 hP a0 a1 aa D aq aV;have aw:=ZZ R;have bz:i<=1000000:=by have:=aX.o;omega
  have bk:IntKind.i64.wrap (m:Int)=(m:Int):=ZuQ (by omega)
  have bu:IntKind.i64.wrap (y:Int)=(y:Int):=ZuQ (by omega)
  have ad:Hid ((wr.setCell ⟨P,1,none⟩ (.int .i64 (y:Int))).cell? ⟨P,0,none⟩=some (.slice ao O cap)):=ZZ (by
   rw[zbu _ _ _ _ (by intro h;injection h with _ h;cases h)]
   exact B)
  by_cases ac:keep.length=0
  ·have e0:A=0:=by rw[HA.o];exact zab ac
   subst e0;have bm:decide ((keep.length:Int)>0)=false:=zai (by omega)
   have bn:decide (0<keep.length)=false:=zai (by omega)
   clear ac
   go_upto_region 7 with fail
   clear aK aE k2
   go_cut[] (fun wd=>Hid (∃ q,wd=(wr.setCell ⟨P,1,none⟩ (.int .i64 (y:Int))).drewN q))
   case first=>
    refine zdg (S:=fun w'=>w'.cell? ⟨P,0,none⟩=some (.slice ao O cap)) (by kernel_rfl) (by exact B) (fun C=>?_)
    refine za7 (i:=0) (v:=?_) rfl (by kernel_rfl) (by kernel_rfl) (by kernel_rfl) (fun _ _ _ h=>h) (Or.inl ⟨by rfl,?_⟩) (by assumption) ?_
    rotate_left
    ·intro g c
     go_simp
     try with_reducible rfl
    simp only [Act.put,getElem_toArray,getElem_cons_zero,setIfInBounds_toArray,set_cons_zero,set_cons_succ];refine za7 (i:=1) (v:=?_) rfl (by kernel_rfl) (by kernel_rfl) (by kernel_rfl) (fun _ _ _ h=>h) (Or.inl ⟨by rfl,?_⟩) (by assumption) ?_
    rotate_left
    ·intro g c
     go_simp
     try with_reducible rfl
    simp only [Act.put,getElem_toArray,getElem_cons_zero,getElem_cons_succ,setIfInBounds_toArray,set_cons_zero,set_cons_succ];refine za7 (i:=2) (v:=?_) rfl (by kernel_rfl) (by kernel_rfl) (by kernel_rfl) (fun _ _ _ h=>h) (Or.inl ⟨by rfl,?_⟩) (by assumption) ?_
    rotate_left
    ·intro g c
     go_simp
     try with_reducible rfl
    simp only [Act.put,getElem_toArray,getElem_cons_zero,getElem_cons_succ,setIfInBounds_toArray,set_cons_zero,set_cons_succ];refine za7 (i:=4) (v:=?_) rfl (by kernel_rfl) (by kernel_rfl) (by kernel_rfl) (fun _ _ _ h=>h) (Or.inl ⟨by rfl,?_⟩) (by assumption) ?_
    rotate_left
    ·intro g c
     go_simp
     try with_reducible rfl
    simp only [Act.put,getElem_toArray,getElem_cons_zero,getElem_cons_succ,setIfInBounds_toArray,set_cons_zero,set_cons_succ];refine za7 (i:=5) (v:=?_) rfl (by kernel_rfl) (by kernel_rfl) (by kernel_rfl) (fun _ _ _ h=>h) (Or.inl ⟨by rfl,?_⟩) (by assumption) ?_
    rotate_left
    ·intro g c
     go_simp
     try with_reducible rfl
    simp only [Act.put,getElem_toArray,getElem_cons_zero,getElem_cons_succ,setIfInBounds_toArray,set_cons_zero,set_cons_succ];refine za7 (i:=6) (v:=?_) rfl (by kernel_rfl) (by kernel_rfl) (by kernel_rfl) (fun _ _ _ h=>h) (Or.inl ⟨by rfl,?_⟩) (by assumption) ?_
    rotate_left
    ·intro g c
     go_simp
     try with_reducible rfl
    simp only [Act.put,getElem_toArray,getElem_cons_zero,getElem_cons_succ,setIfInBounds_toArray,set_cons_zero,set_cons_succ];refine za7 (i:=7) (v:=?_) rfl (by kernel_rfl) (by kernel_rfl) (by kernel_rfl) (fun _ _ _ h=>h) (Or.inl ⟨by rfl,?_⟩) (by assumption) ?_
    rotate_left
    ·intro g c
     go_simp
     try with_reducible rfl
    simp only [Act.put,getElem_toArray,getElem_cons_zero,getElem_cons_succ,setIfInBounds_toArray,set_cons_zero,set_cons_succ];refine za7 (i:=8) (v:=?_) rfl (by kernel_rfl) (by kernel_rfl) (by kernel_rfl) (fun _ _ _ h=>h) (Or.inl ⟨by rfl,?_⟩) (by assumption) ?_
    rotate_left
    ·intro g c
     go_simp
     try with_reducible rfl
    simp only [Act.put,getElem_toArray,getElem_cons_zero,getElem_cons_succ,setIfInBounds_toArray,set_cons_zero,set_cons_succ];refine za7 (i:=9) (v:=?_) rfl (by kernel_rfl) (by kernel_rfl) (by kernel_rfl) (fun _ _ _ h=>h) (Or.inl ⟨by rfl,?_⟩) (by assumption) ?_
    rotate_left
    ·intro g c
     go_simp
     try with_reducible rfl
    simp only [Act.put,getElem_toArray,getElem_cons_zero,getElem_cons_succ,setIfInBounds_toArray,set_cons_zero,set_cons_succ];refine za7 (i:=10) (v:=?_) rfl (by kernel_rfl) (by kernel_rfl) (by kernel_rfl) (fun _ _ _ h=>h) (Or.inl ⟨by rfl,?_⟩) (by assumption) ?_
    rotate_left
    ·intro g c
     go_simp
     try with_reducible rfl
    simp only [Act.put,getElem_toArray,getElem_cons_zero,getElem_cons_succ,setIfInBounds_toArray,set_cons_zero,set_cons_succ];refine za7 (i:=11) (v:=?_) rfl (by kernel_rfl) (by kernel_rfl) (by kernel_rfl) (fun _ _ _ h=>h) (Or.inl ⟨by rfl,?_⟩) (by assumption) ?_
    rotate_left
    ·intro g c
     go_simp
     try with_reducible rfl
    simp only [Act.put,getElem_toArray,getElem_cons_zero,getElem_cons_succ,setIfInBounds_toArray,set_cons_zero,set_cons_succ];refine za7 (i:=12) (v:=?_) rfl (by kernel_rfl) (by kernel_rfl) (by kernel_rfl) (fun _ _ _ h=>h) (Or.inl ⟨by rfl,?_⟩) (by assumption) ?_
    rotate_left
    ·intro g c
     go_simp
     try with_reducible rfl
    simp only [Act.put,getElem_toArray,getElem_cons_zero,getElem_cons_succ,setIfInBounds_toArray,set_cons_zero,set_cons_succ];refine zbh (rs:=[3,13]) (by kernel_rfl) (by simp) ?_
    refine za5 rfl (fun t a=>?_) (za5 rfl (fun t a=>?_) zbf)
    ·go_simp
     refine a.out _ _ (by exact B) (fun C=>?_)
     clear a t;refine zbh (rs:=[13]) (by kernel_rfl) (by simp) ?_
     refine za5 rfl (fun t a=>?_) zbf
     go_simp
     refine a.out _ _ (by exact B) (fun C=>?_)
     clear a t;refine za7 (i:=14) (v:=?_) rfl (by kernel_rfl) (by kernel_rfl) (by kernel_rfl) (fun _ _ _ h=>h) (Or.inl ⟨by rfl,?_⟩) (by assumption) ?_
     rotate_left
     ·intro g c
      go_simp
      try with_reducible rfl
     simp only [Act.put,getElem_toArray,getElem_cons_zero,getElem_cons_succ,setIfInBounds_toArray,set_cons_zero,set_cons_succ];refine zbh (rs:=[15]) (by kernel_rfl) (by simp) ?_
     refine za5 rfl (fun t a=>?_) zbf
     go_simp
     go_wp2_with((go_at_call 72;refine(ab.o _).mono ?_;rintro e w5 ⟨rfl,rfl⟩))
     refine a.out _ _ (by exact B) (fun C=>?_)
     clear a t;refine za7 (i:=16) (v:=?_) rfl (by kernel_rfl) (by kernel_rfl) (by kernel_rfl) (fun _ _ _ h=>h) (Or.inl ⟨by rfl,?_⟩) (by assumption) ?_
     rotate_left
     ·intro g c
      go_simp
      try with_reducible rfl
     simp only [Act.put,getElem_toArray,getElem_cons_zero,getElem_cons_succ,setIfInBounds_toArray,set_cons_zero,set_cons_succ];refine za7 (i:=17) (v:=?_) rfl (by kernel_rfl) (by kernel_rfl) (by kernel_rfl) (fun _ _ _ h=>h) (Or.inl ⟨by rfl,?_⟩) (by assumption) ?_
     rotate_left
     ·intro g c
      go_simp
      try with_reducible rfl
     simp only [Act.put,getElem_toArray,getElem_cons_zero,getElem_cons_succ,setIfInBounds_toArray,set_cons_zero,set_cons_succ];refine za7 (i:=18) (v:=?_) rfl (by kernel_rfl) (by kernel_rfl) (by kernel_rfl) (fun _ _ _ h=>h) (Or.inl ⟨by rfl,?_⟩) (by assumption) ?_
     rotate_left
     ·intro g c
      go_simp
      try with_reducible rfl
     simp only [Act.put,getElem_toArray,getElem_cons_zero,getElem_cons_succ,setIfInBounds_toArray,set_cons_zero,set_cons_succ];refine zbh (rs:=[19]) (by kernel_rfl) (by simp) ?_
     refine za5 rfl (fun t a=>?_) zbf
     go_simp
     refine a.out _ _ (by exact ad.o) (fun C=>?_)
     clear a t;refine zdu (by kernel_rfl) ?_ _
     go_wp2_with fail
     go_meet
     exact ZZ ⟨1,rfl⟩
    ·go_simp
     refine a.out _ _ (by exact B) (fun C=>?_)
     clear a t;refine za7 (i:=14) (v:=?_) rfl (by kernel_rfl) (by kernel_rfl) (by kernel_rfl) (fun _ _ _ h=>h) (Or.inl ⟨by rfl,?_⟩) (by assumption) ?_
     rotate_left
     ·intro g c
      go_simp
      try with_reducible rfl
     simp only [Act.put,getElem_toArray,getElem_cons_zero,getElem_cons_succ,setIfInBounds_toArray,set_cons_zero,set_cons_succ];refine zbh (rs:=[3,15]) (by kernel_rfl) (by simp) ?_
     refine za5 rfl (fun t a=>?_) (za5 rfl (fun t a=>?_) zbf)
     ·go_simp
      refine a.out _ _ (by exact B) (fun C=>?_)
      clear a t;refine zbh (rs:=[15]) (by kernel_rfl) (by simp) ?_
      refine za5 rfl (fun t a=>?_) zbf
      go_simp
      go_wp2_with((go_at_call 72;refine(ab.o _).mono ?_;rintro e w5 ⟨rfl,rfl⟩))
      refine a.out _ _ (by exact B) (fun C=>?_)
      clear a t;refine za7 (i:=16) (v:=?_) rfl (by kernel_rfl) (by kernel_rfl) (by kernel_rfl) (fun _ _ _ h=>h) (Or.inl ⟨by rfl,?_⟩) (by assumption) ?_
      rotate_left
      ·intro g c
       go_simp
       try with_reducible rfl
      simp only [Act.put,getElem_toArray,getElem_cons_zero,getElem_cons_succ,setIfInBounds_toArray,set_cons_zero,set_cons_succ];refine za7 (i:=17) (v:=?_) rfl (by kernel_rfl) (by kernel_rfl) (by kernel_rfl) (fun _ _ _ h=>h) (Or.inl ⟨by rfl,?_⟩) (by assumption) ?_
      rotate_left
      ·intro g c
       go_simp
       try with_reducible rfl
      simp only [Act.put,getElem_toArray,getElem_cons_zero,getElem_cons_succ,setIfInBounds_toArray,set_cons_zero,set_cons_succ];refine za7 (i:=18) (v:=?_) rfl (by kernel_rfl) (by kernel_rfl) (by kernel_rfl) (fun _ _ _ h=>h) (Or.inl ⟨by rfl,?_⟩) (by assumption) ?_
      rotate_left
      ·intro g c
       go_simp
       try with_reducible rfl
      simp only [Act.put,getElem_toArray,getElem_cons_zero,getElem_cons_succ,setIfInBounds_toArray,set_cons_zero,set_cons_succ];refine zbh (rs:=[19]) (by kernel_rfl) (by simp) ?_
      refine za5 rfl (fun t a=>?_) zbf
      go_simp
      refine a.out _ _ (by exact ad.o) (fun C=>?_)
      clear a t;refine zdu (by kernel_rfl) ?_ _
      go_wp2_with fail
      go_meet
      exact ZZ ⟨1,rfl⟩
     ·go_simp
      go_wp2_with((go_at_call 72;refine(ab.o _).mono ?_;rintro e w5 ⟨rfl,rfl⟩))
      refine a.out _ _ (by exact B) (fun C=>?_)
      clear a t;refine zbh (rs:=[3]) (by kernel_rfl) (by simp) ?_
      refine za5 rfl (fun t a=>?_) zbf
      go_simp
      refine a.out _ _ (by exact B) (fun C=>?_)
      clear a t;refine za7 (i:=16) (v:=?_) rfl (by kernel_rfl) (by kernel_rfl) (by kernel_rfl) (fun _ _ _ h=>h) (Or.inl ⟨by rfl,?_⟩) (by assumption) ?_
      rotate_left
      ·intro g c
       go_simp
       try with_reducible rfl
      simp only [Act.put,getElem_toArray,getElem_cons_zero,getElem_cons_succ,setIfInBounds_toArray,set_cons_zero,set_cons_succ];refine za7 (i:=17) (v:=?_) rfl (by kernel_rfl) (by kernel_rfl) (by kernel_rfl) (fun _ _ _ h=>h) (Or.inl ⟨by rfl,?_⟩) (by assumption) ?_
      rotate_left
      ·intro g c
       go_simp
       try with_reducible rfl
      simp only [Act.put,getElem_toArray,getElem_cons_zero,getElem_cons_succ,setIfInBounds_toArray,set_cons_zero,set_cons_succ];refine za7 (i:=18) (v:=?_) rfl (by kernel_rfl) (by kernel_rfl) (by kernel_rfl) (fun _ _ _ h=>h) (Or.inl ⟨by rfl,?_⟩) (by assumption) ?_
      rotate_left
      ·intro g c
       go_simp
       try with_reducible rfl
      simp only [Act.put,getElem_toArray,getElem_cons_zero,getElem_cons_succ,setIfInBounds_toArray,set_cons_zero,set_cons_succ];refine zbh (rs:=[19]) (by kernel_rfl) (by simp) ?_
      refine za5 rfl (fun t a=>?_) zbf
      go_simp
      refine a.out _ _ (by exact ad.o) (fun C=>?_)
      clear a t;refine zdu (by kernel_rfl) ?_ _
      go_wp2_with fail
      go_meet
      exact ZZ ⟨1,rfl⟩
   case rest=>
    obtain⟨q7,Y⟩:=hcut.out;have I:Hid (Bk 117 wc P #[.slice ao O cap,.int .i64 (y:Int)]):=ZZ (by rw[Y];exact ag.o.set 1 _)
    have ak:Hid (Bk 69 wc p (ZfL z DI (U:Int))):=ZZ (by rw[Y];exact aU.o.other P 1 _ ai.o)
    have Z:=ZZ Y;have B:wc.cell? ⟨P,0,none⟩=some (.slice ao O cap):=(I.o.cell 0 rfl).1;have y0:wc.frozen? ⟨P,0,none⟩=false:=(I.o.cell 0 rfl).2;have g1:wc.cell? ⟨P,1,none⟩=some (.int .i64 (y:Int)):=(I.o.cell 1 rfl).1;clear Y hcut;obtain⟨W7,am⟩:=zg7 wc;rw[<-am] at I ak Z B y0 g1 ⊢;clear am
    go_upto_region 8 with fail
    go_cut[] (fun wd=>Hid (∃ q,wd=(W7.setCell ⟨P,0,none⟩ (.slice ao y cap)).drewN q))
    case first=>
     go_region
     all_goals
      go_wp2_with fail
      go_meet
      exact ZZ ⟨1,rfl⟩
    case rest=>
     obtain⟨q8,X⟩:=hcut.out;have aJ:Hid (Bk 117 wc P #[.slice ao y cap,.int .i64 (y:Int)]):=ZZ (by rw[X];exact I.o.set 0 _)
     have aj:Hid (Bk 69 wc p (ZfL z DI (U:Int))):=ZZ (by rw[X];exact ak.o.other P 0 _ ai.o)
     have Q:=ZZ X;have E:wc.cell? ⟨P,1,none⟩=some (.int .i64 (y:Int)):=(aJ.o.cell 1 rfl).1;have M:wc.cell? ⟨p,1,none⟩=some (.int .i64 (U:Int)):=(aj.o.cell 1 rfl).1;have h3:wc.frozen? ⟨p,1,none⟩=false:=(aj.o.cell 1 rfl).2;clear X hcut B y0 g1;obtain⟨W8,av⟩:=zg7 wc;rw[<-av] at Q E M h3 ⊢;clear av
     go_upto_region 9 with fail
     go_region
     all_goals
      go_wp2;go_roundw
      case rel=>
       refine⟨i+1,by go_num,by have:=aw.o;omega,_,ZZ (aD.o.keep (w':=(W8.setCell ⟨p,1,none⟩ (.int .i64 ((U:Int)+(y:Int)))).drew) (fun k _=>?_) ?_),ZZ ?_⟩
       ·rw[Q.o,Z.o]
        rfl
       ·rw[Q.o,Z.o]
        exact za0 _
       ·rw[Q.o,Z.o]
        exact⟨K.o.os,K.o.tape,K.o.output,K.o.size,K.o.block⟩
      case measure=>have:=aw.o;simp[intOf];omega
  ·obtain⟨J,hJ⟩:=zg7 (i % keep.length)
   have bi:J<keep.length:=by rw[hJ];exact zfm _ (by omega)
   have bt:(i:Int) % (keep.length:Int)=(J:Int):=by rw[hJ];omega
   have eA:keep.getD J 0=A:=by rw[HA.o,hJ];exact(zaa ac).symm
   obtain⟨kb,au,rfl,bq⟩:∃ kb au,ka=some ⟨kb,au,none⟩∧wr.cell? ⟨kb,au+J,none⟩=some (.int .i64 A):=by
    obtain⟨a',c',al,_,_,_,_,h6⟩:=a8.o;simp only [zbb] at al;obtain⟨rfl,_,rfl⟩:=al;rcases h6 with h6 | ⟨kb,au,rfl,h7⟩
    ·rw[h6] at ac
     simp at ac
    ·exact⟨kb,au,rfl,by rw[h7 J bi,eA]⟩
   have br:0<keep.length:=by omega
   have bp:(0:Int)<(keep.length:Int):=by omega
   clear eA hJ ac
   go_upto_region 7 with fail
   clear aK aE k2
   go_cut[] (fun wd=>Hid (∃ q,wd=(wr.setCell ⟨P,1,none⟩ (.int .i64 (y:Int))).drewN q))
   case first=>
    refine zdg (S:=fun w'=>w'.cell? ⟨P,0,none⟩=some (.slice ao O cap)) (by kernel_rfl) (by exact B) (fun C=>?_)
    refine za7 (i:=0) (v:=?_) rfl (by kernel_rfl) (by kernel_rfl) (by kernel_rfl) (fun _ _ _ h=>h) (Or.inl ⟨by rfl,?_⟩) (by assumption) ?_
    rotate_left
    ·intro g c
     go_simp
     try with_reducible rfl
    simp only [Act.put,getElem_toArray,getElem_cons_zero,setIfInBounds_toArray,set_cons_zero,set_cons_succ];refine za7 (i:=1) (v:=?_) rfl (by kernel_rfl) (by kernel_rfl) (by kernel_rfl) (fun _ _ _ h=>h) (Or.inl ⟨by rfl,?_⟩) (by assumption) ?_
    rotate_left
    ·intro g c
     go_simp
     try with_reducible rfl
    simp only [Act.put,getElem_toArray,getElem_cons_zero,getElem_cons_succ,setIfInBounds_toArray,set_cons_zero,set_cons_succ];refine za7 (i:=2) (v:=?_) rfl (by kernel_rfl) (by kernel_rfl) (by kernel_rfl) (fun _ _ _ h=>h) (Or.inl ⟨by rfl,?_⟩) (by assumption) ?_
    rotate_left
    ·intro g c
     go_simp
     try with_reducible rfl
    simp only [Act.put,getElem_toArray,getElem_cons_zero,getElem_cons_succ,setIfInBounds_toArray,set_cons_zero,set_cons_succ];refine za7 (i:=4) (v:=?_) rfl (by kernel_rfl) (by kernel_rfl) (by kernel_rfl) (fun _ _ _ h=>h) (Or.inl ⟨by rfl,?_⟩) (by assumption) ?_
    rotate_left
    ·intro g c
     go_simp
     try with_reducible rfl
    simp only [Act.put,getElem_toArray,getElem_cons_zero,getElem_cons_succ,setIfInBounds_toArray,set_cons_zero,set_cons_succ];refine za7 (i:=5) (v:=?_) rfl (by kernel_rfl) (by kernel_rfl) (by kernel_rfl) (fun _ _ _ h=>h) (Or.inl ⟨by rfl,?_⟩) (by assumption) ?_
    rotate_left
    ·intro g c
     go_simp
     try with_reducible rfl
    simp only [Act.put,getElem_toArray,getElem_cons_zero,getElem_cons_succ,setIfInBounds_toArray,set_cons_zero,set_cons_succ];refine za7 (i:=6) (v:=?_) rfl (by kernel_rfl) (by kernel_rfl) (by kernel_rfl) (fun _ _ _ h=>h) (Or.inl ⟨by rfl,?_⟩) (by assumption) ?_
    rotate_left
    ·intro g c
     go_simp
     try with_reducible rfl
    simp only [Act.put,getElem_toArray,getElem_cons_zero,getElem_cons_succ,setIfInBounds_toArray,set_cons_zero,set_cons_succ];refine za7 (i:=7) (v:=?_) rfl (by kernel_rfl) (by kernel_rfl) (by kernel_rfl) (fun _ _ _ h=>h) (Or.inl ⟨by rfl,?_⟩) (by assumption) ?_
    rotate_left
    ·intro g c
     go_simp
     try with_reducible rfl
    simp only [Act.put,getElem_toArray,getElem_cons_zero,getElem_cons_succ,setIfInBounds_toArray,set_cons_zero,set_cons_succ];refine za7 (i:=8) (v:=?_) rfl (by kernel_rfl) (by kernel_rfl) (by kernel_rfl) (fun _ _ _ h=>h) (Or.inl ⟨by rfl,?_⟩) (by assumption) ?_
    rotate_left
    ·intro g c
     go_simp
     try with_reducible rfl
    simp only [Act.put,getElem_toArray,getElem_cons_zero,getElem_cons_succ,setIfInBounds_toArray,set_cons_zero,set_cons_succ];refine za7 (i:=9) (v:=?_) rfl (by kernel_rfl) (by kernel_rfl) (by kernel_rfl) (fun _ _ _ h=>h) (Or.inl ⟨by rfl,?_⟩) (by assumption) ?_
    rotate_left
    ·intro g c
     go_simp
     try with_reducible rfl
    simp only [Act.put,getElem_toArray,getElem_cons_zero,getElem_cons_succ,setIfInBounds_toArray,set_cons_zero,set_cons_succ];refine za7 (i:=10) (v:=?_) rfl (by kernel_rfl) (by kernel_rfl) (by kernel_rfl) (fun _ _ _ h=>h) (Or.inl ⟨by rfl,?_⟩) (by assumption) ?_
    rotate_left
    ·intro g c
     go_simp
     try with_reducible rfl
    simp only [Act.put,getElem_toArray,getElem_cons_zero,getElem_cons_succ,setIfInBounds_toArray,set_cons_zero,set_cons_succ];refine za7 (i:=11) (v:=?_) rfl (by kernel_rfl) (by kernel_rfl) (by kernel_rfl) (fun _ _ _ h=>h) (Or.inl ⟨by rfl,?_⟩) (by assumption) ?_
    rotate_left
    ·intro g c
     go_simp
     try with_reducible rfl
    simp only [Act.put,getElem_toArray,getElem_cons_zero,getElem_cons_succ,setIfInBounds_toArray,set_cons_zero,set_cons_succ];refine za7 (i:=12) (v:=?_) rfl (by kernel_rfl) (by kernel_rfl) (by kernel_rfl) (fun _ _ _ h=>h) (Or.inl ⟨by rfl,?_⟩) (by assumption) ?_
    rotate_left
    ·intro g c
     go_simp
     try with_reducible rfl
    simp only [Act.put,getElem_toArray,getElem_cons_zero,getElem_cons_succ,setIfInBounds_toArray,set_cons_zero,set_cons_succ];refine zbh (rs:=[3,13]) (by kernel_rfl) (by simp) ?_
    refine za5 rfl (fun t a=>?_) (za5 rfl (fun t a=>?_) zbf)
    ·go_simp
     refine a.out _ _ (by exact B) (fun C=>?_)
     clear a t;refine zbh (rs:=[13]) (by kernel_rfl) (by simp) ?_
     refine za5 rfl (fun t a=>?_) zbf
     go_simp
     refine a.out _ _ (by exact B) (fun C=>?_)
     clear a t;refine za7 (i:=14) (v:=?_) rfl (by kernel_rfl) (by kernel_rfl) (by kernel_rfl) (fun _ _ _ h=>h) (Or.inl ⟨by rfl,?_⟩) (by assumption) ?_
     rotate_left
     ·intro g c
      go_simp
      try with_reducible rfl
     simp only [Act.put,getElem_toArray,getElem_cons_zero,getElem_cons_succ,setIfInBounds_toArray,set_cons_zero,set_cons_succ];refine zbh (rs:=[15]) (by kernel_rfl) (by simp) ?_
     refine za5 rfl (fun t a=>?_) zbf
     go_simp
     go_wp2_with((go_at_call 72;refine(ab.o _).mono ?_;rintro e w5 ⟨rfl,rfl⟩))
     refine a.out _ _ (by exact B) (fun C=>?_)
     clear a t;refine za7 (i:=16) (v:=?_) rfl (by kernel_rfl) (by kernel_rfl) (by kernel_rfl) (fun _ _ _ h=>h) (Or.inl ⟨by rfl,?_⟩) (by assumption) ?_
     rotate_left
     ·intro g c
      go_simp
      try with_reducible rfl
     simp only [Act.put,getElem_toArray,getElem_cons_zero,getElem_cons_succ,setIfInBounds_toArray,set_cons_zero,set_cons_succ];refine za7 (i:=17) (v:=?_) rfl (by kernel_rfl) (by kernel_rfl) (by kernel_rfl) (fun _ _ _ h=>h) (Or.inl ⟨by rfl,?_⟩) (by assumption) ?_
     rotate_left
     ·intro g c
      go_simp
      try with_reducible rfl
     simp only [Act.put,getElem_toArray,getElem_cons_zero,getElem_cons_succ,setIfInBounds_toArray,set_cons_zero,set_cons_succ];refine za7 (i:=18) (v:=?_) rfl (by kernel_rfl) (by kernel_rfl) (by kernel_rfl) (fun _ _ _ h=>h) (Or.inl ⟨by rfl,?_⟩) (by assumption) ?_
     rotate_left
     ·intro g c
      go_simp
      try with_reducible rfl
     simp only [Act.put,getElem_toArray,getElem_cons_zero,getElem_cons_succ,setIfInBounds_toArray,set_cons_zero,set_cons_succ];refine zbh (rs:=[19]) (by kernel_rfl) (by simp) ?_
     refine za5 rfl (fun t a=>?_) zbf
     go_simp
     refine a.out _ _ (by exact ad.o) (fun C=>?_)
     clear a t;refine zdu (by kernel_rfl) ?_ _
     go_wp2_with fail
     go_meet
     exact ZZ ⟨1,rfl⟩
    ·go_simp
     refine a.out _ _ (by exact B) (fun C=>?_)
     clear a t;refine za7 (i:=14) (v:=?_) rfl (by kernel_rfl) (by kernel_rfl) (by kernel_rfl) (fun _ _ _ h=>h) (Or.inl ⟨by rfl,?_⟩) (by assumption) ?_
     rotate_left
     ·intro g c
      go_simp
      try with_reducible rfl
     simp only [Act.put,getElem_toArray,getElem_cons_zero,getElem_cons_succ,setIfInBounds_toArray,set_cons_zero,set_cons_succ];refine zbh (rs:=[3,15]) (by kernel_rfl) (by simp) ?_
     refine za5 rfl (fun t a=>?_) (za5 rfl (fun t a=>?_) zbf)
     ·go_simp
      refine a.out _ _ (by exact B) (fun C=>?_)
      clear a t;refine zbh (rs:=[15]) (by kernel_rfl) (by simp) ?_
      refine za5 rfl (fun t a=>?_) zbf
      go_simp
      go_wp2_with((go_at_call 72;refine(ab.o _).mono ?_;rintro e w5 ⟨rfl,rfl⟩))
      refine a.out _ _ (by exact B) (fun C=>?_)
      clear a t;refine za7 (i:=16) (v:=?_) rfl (by kernel_rfl) (by kernel_rfl) (by kernel_rfl) (fun _ _ _ h=>h) (Or.inl ⟨by rfl,?_⟩) (by assumption) ?_
      rotate_left
      ·intro g c
       go_simp
       try with_reducible rfl
      simp only [Act.put,getElem_toArray,getElem_cons_zero,getElem_cons_succ,setIfInBounds_toArray,set_cons_zero,set_cons_succ];refine za7 (i:=17) (v:=?_) rfl (by kernel_rfl) (by kernel_rfl) (by kernel_rfl) (fun _ _ _ h=>h) (Or.inl ⟨by rfl,?_⟩) (by assumption) ?_
      rotate_left
      ·intro g c
       go_simp
       try with_reducible rfl
      simp only [Act.put,getElem_toArray,getElem_cons_zero,getElem_cons_succ,setIfInBounds_toArray,set_cons_zero,set_cons_succ];refine za7 (i:=18) (v:=?_) rfl (by kernel_rfl) (by kernel_rfl) (by kernel_rfl) (fun _ _ _ h=>h) (Or.inl ⟨by rfl,?_⟩) (by assumption) ?_
      rotate_left
      ·intro g c
       go_simp
       try with_reducible rfl
      simp only [Act.put,getElem_toArray,getElem_cons_zero,getElem_cons_succ,setIfInBounds_toArray,set_cons_zero,set_cons_succ];refine zbh (rs:=[19]) (by kernel_rfl) (by simp) ?_
      refine za5 rfl (fun t a=>?_) zbf
      go_simp
      refine a.out _ _ (by exact ad.o) (fun C=>?_)
      clear a t;refine zdu (by kernel_rfl) ?_ _
      go_wp2_with fail
      go_meet
      exact ZZ ⟨1,rfl⟩
     ·go_simp
      go_wp2_with((go_at_call 72;refine(ab.o _).mono ?_;rintro e w5 ⟨rfl,rfl⟩))
      refine a.out _ _ (by exact B) (fun C=>?_)
      clear a t;refine zbh (rs:=[3]) (by kernel_rfl) (by simp) ?_
      refine za5 rfl (fun t a=>?_) zbf
      go_simp
      refine a.out _ _ (by exact B) (fun C=>?_)
      clear a t;refine za7 (i:=16) (v:=?_) rfl (by kernel_rfl) (by kernel_rfl) (by kernel_rfl) (fun _ _ _ h=>h) (Or.inl ⟨by rfl,?_⟩) (by assumption) ?_
      rotate_left
      ·intro g c
       go_simp
       try with_reducible rfl
      simp only [Act.put,getElem_toArray,getElem_cons_zero,getElem_cons_succ,setIfInBounds_toArray,set_cons_zero,set_cons_succ];refine za7 (i:=17) (v:=?_) rfl (by kernel_rfl) (by kernel_rfl) (by kernel_rfl) (fun _ _ _ h=>h) (Or.inl ⟨by rfl,?_⟩) (by assumption) ?_
      rotate_left
      ·intro g c
       go_simp
       try with_reducible rfl
      simp only [Act.put,getElem_toArray,getElem_cons_zero,getElem_cons_succ,setIfInBounds_toArray,set_cons_zero,set_cons_succ];refine za7 (i:=18) (v:=?_) rfl (by kernel_rfl) (by kernel_rfl) (by kernel_rfl) (fun _ _ _ h=>h) (Or.inl ⟨by rfl,?_⟩) (by assumption) ?_
      rotate_left
      ·intro g c
       go_simp
       try with_reducible rfl
      simp only [Act.put,getElem_toArray,getElem_cons_zero,getElem_cons_succ,setIfInBounds_toArray,set_cons_zero,set_cons_succ];refine zbh (rs:=[19]) (by kernel_rfl) (by simp) ?_
      refine za5 rfl (fun t a=>?_) zbf
      go_simp
      refine a.out _ _ (by exact ad.o) (fun C=>?_)
      clear a t;refine zdu (by kernel_rfl) ?_ _
      go_wp2_with fail
      go_meet
      exact ZZ ⟨1,rfl⟩
   case rest=>
    obtain⟨q7,Y⟩:=hcut.out;have I:Hid (Bk 117 wc P #[.slice ao O cap,.int .i64 (y:Int)]):=ZZ (by rw[Y];exact ag.o.set 1 _)
    have ak:Hid (Bk 69 wc p (ZfL z DI (U:Int))):=ZZ (by rw[Y];exact aU.o.other P 1 _ ai.o)
    have Z:=ZZ Y;have B:wc.cell? ⟨P,0,none⟩=some (.slice ao O cap):=(I.o.cell 0 rfl).1;have y0:wc.frozen? ⟨P,0,none⟩=false:=(I.o.cell 0 rfl).2;have g1:wc.cell? ⟨P,1,none⟩=some (.int .i64 (y:Int)):=(I.o.cell 1 rfl).1;clear Y hcut;obtain⟨W7,am⟩:=zg7 wc;rw[<-am] at I ak Z B y0 g1 ⊢;clear am
    go_upto_region 8 with fail
    go_cut[] (fun wd=>Hid (∃ q,wd=(W7.setCell ⟨P,0,none⟩ (.slice ao y cap)).drewN q))
    case first=>
     go_region
     all_goals
      go_wp2_with fail
      go_meet
      exact ZZ ⟨1,rfl⟩
    case rest=>
     obtain⟨q8,X⟩:=hcut.out;have aJ:Hid (Bk 117 wc P #[.slice ao y cap,.int .i64 (y:Int)]):=ZZ (by rw[X];exact I.o.set 0 _)
     have aj:Hid (Bk 69 wc p (ZfL z DI (U:Int))):=ZZ (by rw[X];exact ak.o.other P 0 _ ai.o)
     have Q:=ZZ X;have E:wc.cell? ⟨P,1,none⟩=some (.int .i64 (y:Int)):=(aJ.o.cell 1 rfl).1;have M:wc.cell? ⟨p,1,none⟩=some (.int .i64 (U:Int)):=(aj.o.cell 1 rfl).1;have h3:wc.frozen? ⟨p,1,none⟩=false:=(aj.o.cell 1 rfl).2;clear X hcut B y0 g1;obtain⟨W8,av⟩:=zg7 wc;rw[<-av] at Q E M h3 ⊢;clear av
     go_upto_region 9 with fail
     go_region
     all_goals
      go_wp2;go_roundw
      case rel=>
       refine⟨i+1,by go_num,by have:=aw.o;omega,_,ZZ (aD.o.keep (w':=(W8.setCell ⟨p,1,none⟩ (.int .i64 ((U:Int)+(y:Int)))).drew) (fun k _=>?_) ?_),ZZ ?_⟩
       ·rw[Q.o,Z.o]
        rfl
       ·rw[Q.o,Z.o]
        exact za0 _
       ·rw[Q.o,Z.o]
        exact⟨K.o.os,K.o.tape,K.o.output,K.o.size,K.o.block⟩
      case measure=>have:=aw.o;simp[intOf];omega
theorem ZuR (names:Int) (i:Value) (keep:List Int) (w:World) (h:Dsk F w p d N T) (B:N<=1000000) (G:T<=1000000000) (v:RdI w i keep) (t:keep=[]∨∀ k,i.ownBlock=some k->¬ F k) (U:keep.length<=1000000000):
 Calls prog 12 #[ptr p,.int .i64 names,i] w fun e w'=>e=.returned (.tuple #[])∧Dsk F w' p (Jc d names keep) N T∧Ql F w w':=by
 obtain⟨L,h,b,a,u,y⟩:=h;have O:=ZZ b;have l:=ZZ a;have W:=ZZ (And.intro u y);have Y:=ZZ v;have C:=ZZ t;have z:=ZZ (Zii names w h b a B);obtain⟨K,c⟩:=zg7 (Zf names d.waits.length);have f:=ZZ c;rw[<-c] at z;have J:Hid (OkD { d with kept:=Yo d K,waits:=[] }):=ZZ (Zhf (fs:=d.files) (b.dirs K) b.keep)
 have M:Hid (Bnd { d with kept:=Yo d K,waits:=[] } N T):=ZZ ⟨a.files,by have g:=Zbq d K;have h2:=a.names;show(Yo d K).length+0<=N;omega,a.bytes⟩
 have H:Hid (∀ q ∈ Yo d K,q.2<d.files.length):=ZZ (fun q I=>((b.dirs K).may q I).2)
 obtain⟨ka,kc,rfl,-⟩:=v;clear h b a u y t c
 go_enter func12,ntmps12
 go_wp2_with fail
 refine z.o.mono ?_;rintro e P ⟨rfl,n,m⟩;have S:=ZZ (ZlK _ keep P n rfl J.o M.o B G (Y.o.onlyE m C.o) C.o U);have R:=ZZ m;clear n m
 go_wp2_with fail
 refine S.o.mono ?_;rintro e W2 ⟨rfl,⟨Q,j⟩,A⟩;have D:=ZZ j;have E:=ZZ (R.o.trans A (fun _ _ X=>X))
 obtain⟨⟨-,-,-,-,-,c5⟩,-,-,-,f5⟩:=j.cells;clear j A;go_wp2;go_end0;refine⟨rfl,⟨Q,?_,O.o.crash names keep,⟨?_,?_,?_⟩,W.o.1,⟨by show(-9223372036854775808:Int)<=-1;omega,by show(-1:Int)<=9223372036854775807;omega⟩⟩,E.o.setCell 5 (fun _=>D.o.fh) _⟩
 ·have g:=D.o.setHead 5 (.int .i64 (-1)) (d':=Jc d names keep) (u':=(Zy (Xd keep (Yo d K) 0 d.files) (Yo d K):Nat)) (by rw[f.o];exact⟨rfl,rfl,rfl⟩) rfl
  have V:Jh (Jc d names keep)=Zy (Xd keep (Yo d K) 0 d.files) (Yo d K):=by rw[f.o];rfl
  rw[V];exact g
 ·have:=l.o.files
  show(Xd keep _ 0 d.files).length<=N;rw[Gn];exact this
 ·have g:=Zbq d (Zf names d.waits.length)
  have h2:=l.o.names;show(Yo d (Zf names d.waits.length)).length+0<=N;omega
 ·intro x Z
  refine ZcG keep (Yo d K) 0 d.files l.o.bytes H.o x ?_;rw[f.o];exact Z
theorem ZuS (v:Value) (l:List UInt8) (w:World) (m:Rd w v l) (J:l.length<=70368744177664):
 Calls prog 183 #[v] w fun e w'=>∃ v',e=.returned v'∧Own w' w.heap.size v' l∧Below w.heap.size w w':=by
 obtain⟨p,z,B,f,F⟩:=zbx Zlw;have H:=ZZ m;obtain⟨ao,cap,rfl,L,M,j,u⟩:=m;have G:=ZZ u;have g:=ZZ j;clear u j
 go_enter func183,ntmps183
 go_wp2_with(at_make;refine wpList_make_own _ rfl _ _ 53 rfl w.heap.size 5 p (.int .u8 0) 1 underlying53 z B f _ _ _ (l.length+10) rfl rfl (by omega) (by rw[F];omega) (by unfold maxLen;omega) zL ?_)
 intro E y b;have c:Below w.heap.size w E:=(zac _ _).grown b zL (fun k a=>by cases a)
 obtain⟨K,N,x,_,_,_,t⟩:=H.o.below c zL;simp only [zbb] at x;obtain⟨rfl,_,rfl⟩:=x;have A:=ZZ t;have q:=ZZ c;have O:=ZZ b;clear t c b G
 go_wp2_with(at_builtin;refine wpList_append_fits_any _ rfl _ _ 53 rfl w.heap.size 5 p 1 underlying53 z f w.heap.size 0 (l.length+10) [] rfl y ao l.length cap (Lib.byteCells l) rfl (by rw[Y4,zct]) (fun e=>⟨by have:=g.o e;omega,g.o e⟩) (Rd.cells A.o) (ZaK l) (by omega) ?_)
 intro C n i;have d:Below w.heap.size w C:=q.o.grown i (by have:=q.o.size;omega) (fun k a=>by simp at a;omega)
 have I:=ZZ d;have D:=ZZ n;clear d i n y;go_wp2;go_ret;exact⟨_,rfl,Own.mk' D.o (by simp) (by simp),I.o⟩
theorem ZAR (y:Nat):bits .or .u8 ((y:Int) % 256) 128=(y:Int) % 128+128:=by
 rw[Lib.u8_or128_any _ (by omega) (by omega)]
 omega
theorem Own.snoc (l b:List UInt8) (a:Nat) (c:a<256) {n:Nat} {x:Int} (h:w.ownsRow B 5 1 v n (Lib.byteCells (l++b)++[Value.int .u8 x])) (e:n=l.length+b.length+1) (d:x=(a:Int)):Own w B v (l++(b++[a.toUInt8])):=by
 subst d;refine Own.mk' h (by rw[e];simp;omega) ?_
 rw[<-zcr,Lib.byteCells_snoc _ c]
theorem ZeN (v:Value) (l:List UInt8) (u:Nat) (w:World) (D:Rd w v l) (K:l.length<=70368744177664) (b:u<18446744073709551616):
 Calls prog 184 #[v,.int .u64 (u:Int)] w fun e w'=>∃ v',e=.returned v'∧Own w' w.heap.size v' (l++Lib.uvarint u)∧Below w.heap.size w w':=by
 obtain⟨F,J,B,A,G⟩:=zbx Zlw;have R:=za8 b;have H:=ZZ (ZuS v l w D K);have T:=ZZ b;clear D b
 go_enter func184,ntmps184
 go_wp2_with fail
 refine H.o.mono ?_;rintro e W ⟨V,rfl,E,C⟩;have M:=ZZ E;have L:=ZZ C;clear E C H;go_wp2
 go_loopw[1,5] (fun p N wr=>∃ (y:Nat) (c:List UInt8),p=.int .u64 (y:Int)∧Hid (y<=u∧Lib.uvarint u=c++Lib.uvarint y)∧Hid (Own wr w.heap.size N (l++c))∧Hid (Below w.heap.size w wr))
  (fun p _ _=>(intOf p).toNat)
 case atStart=>exact⟨u,[],rfl,⟨za0 _,rfl⟩,by rw[zc8];exact M.o,L.o⟩
 case round=>
  obtain⟨y,c,rfl,i,m,t⟩:=hrel
  have Y:c.length+(Lib.uvarint y).length<=10:=by
   have Q:=congrArg List.length i.out.2;rw[zdb] at Q;omega
  have S:=zcu y;have X:=t.out.size;by_cases O:128<=y
  ·have U:=ZAR y
   go_wp2_with(at_builtin;refine wpList_append_own _ rfl _ _ 53 rfl w.heap.size 5 F (.int .u8 0) 1 1 underlying53 J B A G rfl (by decide) _ _ _ rfl (zb3 m.out _) ⟨wr.heap.size,0,none⟩ 1 1 [Value.int .u8 ((y % 128+128:Nat):Int)] rfl rfl ?c1 ?c2 ?c3 ?c4 ?c5 ?_)
   case c1=>
    intro j u a
    match j,a with
    | 0,a=>simp at a;subst a;simp[Addr.add]
   case c2=>intro u b;simp at b;subst b;rfl
   case c3=>unfold maxLen;simp;omega
   case c4=>simp;omega
   case c5=>simp;omega
   intro v' z g f _;have d:Below w.heap.size w z:=(t.out.alloc (by omega) _).grown f (by simp;omega) (fun k q=>(zaz m.out k q).1)
   have n:=ZZ (Own.snoc l c (y % 128+128) (by omega) g (by simp) (by omega))
   have x:=ZZ d;clear g d f;go_wp2;go_roundw
   case rel=>exact⟨y / 128,c++[(y % 128+128).toUInt8],by go_num,⟨by have:=i.out.1;omega,by rw[i.out.2,zf2 O];simp⟩,n,x⟩
   case measure=>simp[intOf];omega
  ·have I:Lib.uvarint y=[y.toUInt8]:=ze2 (by omega)
   have P:=ZZ I;clear I
   go_wp2_with(at_builtin;refine wpList_append_own _ rfl _ _ 53 rfl w.heap.size 5 F (.int .u8 0) 1 1 underlying53 J B A G rfl (by decide) _ _ _ rfl (zb3 m.out _) ⟨wr.heap.size,0,none⟩ 1 1 [Value.int .u8 (y:Int)] rfl rfl ?c1 ?c2 ?c3 ?c4 ?c5 ?_)
   case c1=>
    intro j u a
    match j,a with
    | 0,a=>simp at a;subst a;simp[Addr.add]
   case c2=>intro u b;simp at b;subst b;rfl
   case c3=>unfold maxLen;simp;omega
   case c4=>simp;omega
   case c5=>simp;omega
   intro v' z g f _;have d:Below w.heap.size w z:=(t.out.alloc (by omega) _).grown f (by simp;omega) (fun k q=>(zaz m.out k q).1)
   have n:=ZZ (Own.snoc l c y (by omega) g (by simp) rfl)
   have x:=ZZ d;clear g d f;go_wp2;go_ret;refine⟨v',rfl,?_,x.o⟩;rw[i.out.2,P.o];exact n.o
def Zsx (l:List UInt8) (n:Int):List UInt8:=if 0<=n∧n<4611686018427387904 then l++Lib.uvarint n.toNat else l
theorem ZbD (v:Value) (l:List UInt8) (n:Int) (w:World) (d:Rd w v l) (k:l.length<=70368744177664):
 Calls prog 132 #[v,.int .i64 n] w fun e w'=>∃ v',e=.returned v'∧Own w' w.heap.size v' (Zsx l n)∧Below w.heap.size w w':=by
 by_cases h:0<=n∧n<4611686018427387904
 ·obtain⟨j,p⟩:=h
  have i:Hid (Zsx l n=l++Lib.uvarint n.toNat):=zab ⟨j,p⟩;have a:=ZZ (ZeN v l n.toNat w d k (by omega))
  have m:((n.toNat:Nat):Int)=n:=Int.toNat_of_nonneg j;rw[m] at a;clear m d
  go_enter func132,ntmps132
  go_wp2_with fail
  refine a.o.mono ?_;rintro e w' ⟨v',rfl,b,c⟩;have f:=ZZ b;have g:=ZZ c;clear b c a;go_wp2;go_ret;exact⟨v',rfl,by rw[i.o];exact f.o,g.o⟩
 ·have i:Hid (Zsx l n=l):=zaa h
  have a:=ZZ (ZuS v l w d k);clear d;by_cases j:n<0
  all_goals
   go_enter func132,ntmps132
   go_wp2_with fail
   refine a.o.mono ?_;rintro e w' ⟨v',rfl,b,c⟩;have f:=ZZ b;have g:=ZZ c;clear b c a;go_wp2;go_ret;exact⟨v',rfl,by rw[i.o];exact f.o,g.o⟩
theorem Gp (v:Value) (l:List UInt8) (n:Int) (w:World) (d:Rd w v l) (j:l.length<=70368744177664) (b:-9223372036854775808<=n) (a:n<=9223372036854775807):
 Calls prog 142 #[v,.int .i64 n] w fun e w'=>∃ v',e=.returned v'∧Own w' w.heap.size v' (l++Lib.uvarint (Lib.zigzag n))∧Below w.heap.size w w':=by
 have g:=ZZ (ZeN v l (Lib.zigzag n) w d j (Lib.zigzag_lt b a));have c:=ZZ (Zza n w b a);generalize Lib.zigzag n=z at *;clear d b a
 go_enter func142,ntmps142
 go_wp2_with fail
 refine c.o.mono ?_;rintro e w' ⟨rfl,rfl⟩
 go_wp2_with fail
 refine g.o.mono ?_;rintro e w' ⟨v',rfl,f,i⟩;have k:=ZZ f;have m:=ZZ i;clear f i g c;go_wp2;go_ret;exact⟨v',rfl,k.o,m.o⟩
end Go.Proofs.YtnahjngbneicaaaGreatDoor
