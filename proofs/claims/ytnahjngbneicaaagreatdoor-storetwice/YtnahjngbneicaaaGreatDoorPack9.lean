import Derived.Test.YtnahjngbneicaaaGreatDoorPack7
import Derived.Lib.AppendZerosOnto
import Derived.Lib.LazyBuf
import Derived.Deep.WholeRow
import Derived.Test.YtnahjngbneicaaaGreatDoorPack5
import Derived.Test.YtnahjngbneicaaaGreatDoorPack1
import Derived.Test.YtnahjngbneicaaaGreatDoorPack4
import Derived.Deep.RegionHeld
import Derived.Test.YtnahjngbneicaaaGreatDoorPack8
import Derived.Deep.RegionHeld2
import Derived.BigQuiet
import Derived.Test.YtnahjngbneicaaaGreatDoorPack3
namespace Go.Proofs.YtnahjngbneicaaaGreatDoor
open _root_.Go.Proofs.Tryz
open List (append_assoc length_append length_drop length_singleton nil_append take_add_one take_length take_of_length_le)
set_option maxHeartbeats 40000000
set_option maxRecDepth 100000
open Go.RowKit
theorem Own.empty {w:World} {B:Nat} {X:Obj} {cur:Array Value} {N:Nat} (c:w.heap.size=N) (b:X=.cells cur 5 (0,0)) (a:B<=N) (cap:Nat) (d:cap<=maxLen) (f:cur.size=cap):Own (w.alloc X) B (.slice (some ⟨N,0,none⟩) 0 cap) []:=by
 subst c b;have h:=World.ownsRow_made (e:=5) (size:=1) (base:=B) w cur cap a d (by omega)
 exact h
theorem Ztu (n:Nat) (w:World) (t:n<=1000000):
 Calls prog 182 #[.slice none 0 0,.int .i64 (n:Int)] w fun e w'=>∃ v',e=.returned v'∧Own w' w.heap.size v' []∧Below w.heap.size w w':=by
 obtain⟨d,k,l,p,f⟩:=info_parts ZnJ;by_cases j:n=0
 ·subst j
  go_enter func182,ntmps182
  go_wp2;go_ret;exact⟨_,rfl,Own.nil _ _,Below.refl _ _⟩
 ·have i:∀ ty,(Builtin.append_ #[53,3] ty #[.slice none 0 0,.int .i64 (n:Int)]).run prog w =
   .ok (.slice (some ⟨w.heap.size,0,none⟩) n (b w n 0 5)) (w.drew.alloc (.cells (#[]++Builtin.zeroCells #[.int .u8 0] n++Builtin.zeroCells #[.int .u8 0] (b w n 0 5-n)) 5)):=fun ty=>by
   have h:=Lib.run_append_grow_zeros (P:=prog) w 53 3 ty 5 d (.int .u8 0) .i64 .i64 underlying53 underlying3 k l none 0 0 [] (run_firstCells_none w.drew d.size 0 0 0) n (by omega) (by omega) (by omega) (by omega) (by rw[f];omega)
    (by rw[Nat.zero_add];exact growslice_fits (by omega) (by rw[f];omega))
   rw[Nat.zero_add] at h;exact h
  have v:n<=b w n 0 5:=grownCap_ge w _ _ _;have a:=grownCap_le_maxLen w n 0 5 (by unfold maxLen;omega)
  generalize b w n 0 5=G at *
  have u:G<=9223372036854775807:=by
   unfold maxLen at a;omega
  have c:(#[]++Builtin.zeroCells #[Value.int .u8 0] n++Builtin.zeroCells #[Value.int .u8 0] (G-n)).size=G:=by
   simp[Builtin.zeroCells];omega
  generalize (#[]++Builtin.zeroCells #[Value.int .u8 0] n++Builtin.zeroCells #[Value.int .u8 0] (G-n))=Z at *;have q:(0:Int)<(n:Int):=by omega
  have m:Hid (Own (w.drew.alloc (.cells Z 5)) w.heap.size (.slice (some ⟨w.heap.size,0,none⟩) 0 G) []):=ZZ (Own.empty rfl rfl zL G a c);have g:Hid (Below w.heap.size w (w.drew.alloc (.cells Z 5))):=ZZ (((Below.refl _ _).drew).alloc zL _);clear c a
  go_enter func182,ntmps182
  go_wp2_with(at_builtin;refine Lib.wpList_append_run _ rfl _ _ _ _ rfl _ _ rfl rfl _ _ (i _) ?_)
  all_goals (go_ret;exact⟨_,rfl,m.o,g.o⟩)
theorem Zqb (L:List (List UInt8)) (k:Nat) (a:k<L.length):(L.take (k+1)).flatten=(L.take k).flatten++L.getD k []:=by
 have e:L.take (k+1)=L.take k++[L.getD k []]:=by
  rw[take_add_one];simp[List.getD,a]
 rw[e,List.flatten_append];simp
theorem ZAS (L:List (List UInt8)) (k:Nat):((L.take k).flatten).length<=L.flatten.length:=by
 have e:L.flatten=(L.take k).flatten++(L.drop k).flatten:=by rw[<-List.flatten_append,List.take_append_drop]
 rw[e,length_append];omega
def Zos (L:List (List UInt8)) (k:Nat):Nat:=(L.take k).flatten.length
def Zxt (L:List (List UInt8)) (k:Nat):List UInt8:=(L.take k).flatten
theorem Zqc (L:List (List UInt8)) (k:Nat) (a:k<L.length):Zxt L (k+1)=Zxt L k++L.getD k []:=Zqb L k a
theorem Zqd (L:List (List UInt8)) (k:Nat) (a:k<L.length):(Zos L (k+1):Int)=(Zos L k:Int)+((L.getD k []).length:Int):=by
 unfold Zos;rw[Zqb L k a,length_append];omega
theorem Zxu (L:List (List UInt8)) (k:Nat):Zos L k<=L.flatten.length:=ZAS L k
theorem Ztv (L:List (List UInt8)) (k:Nat):(Zxt L k).length=Zos L k:=rfl
theorem Ztw (L:List (List UInt8)) (k:Nat) (a:L.length<=k):Zxt L k=L.flatten:=by
 unfold Zxt;rw[take_of_length_le a]
theorem Zgv (v:Value) (L:List (List UInt8)) (w:World) (M:RdL w v L) (K:L.flatten.length<=1000000) (hn:L.length<=1000):
 Calls prog 131 #[v] w fun e w'=>∃ v',e=.returned v'∧Own w' w.heap.size v' L.flatten∧Below w.heap.size w w':=by
 have HG:=ZZ (fun n W h=>Ztu n W h)
 have af:=ZZ M;have l:Hid (∀ k,Zos L k<=1000000):=fun k=>Nat.le_trans (Zxu L k) K
 have J:=ZZ (Zqd L);have X:=ZZ (Zqc L);have y:=ZZ (Ztw L);have Q:=ZZ (Ztv L);obtain⟨F,m⟩:∃ F,F=L.flatten:=⟨_,rfl⟩;rw[<-m];rw[<-m] at y;obtain⟨ao,cap,rfl,-,-,-,z⟩:=M;have G:=ZZ z;clear z m K
 go_enter func131,ntmps131
 go_wp2
 go_loopw[3,11] (fun vs a Y=>∃ (k:Nat),vs=.int .i64 (Zos L k:Int)∧a=.int .i64 (k:Int)∧k<=L.length∧Y=w) (fun _ a _=>L.length-(intOf a).toNat)
 case atStart=>exact⟨0,rfl,rfl,Nat.zero_le _,rfl⟩
 case round=>
  obtain⟨k,rfl,rfl,hk,I⟩:=hrel;have ae:=I.symm;subst ae;clear I;by_cases b:k<L.length
  ·rcases G.o with h0 | ⟨c,off,rfl,hc⟩
   ·rw[h0] at b;simp at b
   obtain⟨x,T,g⟩:=hc k b;have u:=l.o (k+1);have q:=J.o k b;obtain⟨ax,U,rfl,-⟩:=g;have h3:¬ ((Zos L k:Int)+((L.getD k []).length:Int)<0):=by omega
   have h4:(Zos L k:Int)+((L.getD k []).length:Int)<=1000000:=by omega
   have H2:=ZZ q;clear hc u q;generalize Zos L k=A at *;generalize (L.getD k []).length=D at *;go_wp2;go_roundw
   case rel=>exact⟨k+1,by rw[H2.o],by go_num,by omega,trivial⟩
   case measure=>simp[intOf];omega
  ·have ab:=ZZ (HG.o (Zos L k) w (l.o k))
   generalize Zos L k=A at *
   go_wp2_with fail
   refine ab.o.mono ?_;rintro e W1 ⟨v1,rfl,E,B⟩;have O:=ZZ E;have H:=ZZ B;clear E B hk b;go_wp2
   go_loopw[6,27] (fun V a N=>∃ (j:Nat),a=.int .i64 (j:Int)∧j<=L.length∧Hid (Own N w.heap.size V (Zxt L j))∧Hid (Below w.heap.size w N)) (fun _ a _=>L.length-(intOf a).toNat)
   case atStart=>exact⟨0,rfl,Nat.zero_le _,O,H⟩
   case round=>
    clear O H;obtain⟨j,rfl,hj,i,d⟩:=hrel;by_cases f:j<L.length
    ·rcases G.o with h0 | ⟨c,off,rfl,hc⟩
     ·rw[h0] at f;simp at f
     obtain⟨x,t,g⟩:=hc j f;have T:=(d.o.cell (World.block_lt_of_cell? _ _ t)).trans t;have ac:=ZZ (g.below d.o zL);obtain⟨ax,U,rfl,-⟩:=g
     have R:Hid ((Zxt L j).length+(L.getD j []).length<=70368744177664):=ZZ (by
      have u:=l.o (j+1);have q:=J.o j f;rw[Q.o]
      omega)
     have ad:=ZZ d.o.size;have S:=ZZ (X.o j f);clear hc t;generalize L.getD j []=D at *;generalize Zxt L j=P at *
     go_wp2_with(at_builtin;refine ZaE _ rfl _ _ rfl w.heap.size _ P rfl i.o _ D rfl ac.o R.o ad.o ?_)
     intro v3 W3 p C;rw[<-S.o] at p;have aa:=ZZ p;have Z:=ZZ (d.o.trans C);clear p C;go_wp2;go_roundw
     case rel=>exact⟨j+1,by go_num,by omega,aa,Z⟩
     case measure=>simp[intOf];omega
    ·have HE:=ZZ (y.o j (by omega))
     rw[HE.o] at i;go_wp2;go_ret;exact⟨_,rfl,i.o,d.o⟩
theorem RdL.built (W:World) (N:Nat) (a:N=W.heap.size) (vs:Array Value) (L:List (List UInt8)) (f:L.length<=1000) (h:∀ j,j<L.length->∃ x,vs[j]?=some x∧Rd W x (L.getD j [])):
 RdL (W.alloc (.cells vs 53)) (.slice (some ⟨N,0,none⟩) L.length L.length) L:=by
 subst a;refine⟨some ⟨W.heap.size,0,none⟩,L.length,rfl,Nat.le_refl _,by unfold maxLen;omega,fun e=>(by cases e),.inr ⟨W.heap.size,0,rfl,fun j d=>?_⟩⟩
 obtain⟨x,c,b⟩:=h j d;refine⟨x,?_,b.below ((Below.refl _ _).alloc zL _) zL⟩;rw[Nat.zero_add,cell_of_row _ W.heap.size j vs 53 (0,0) (heap_alloc_new W _)];exact c
theorem Zxv (W:World) (N:Nat) (v:N=W.heap.size) (i f h g:Value) (d a c b:List UInt8) (n:Rd W i d) (m:Rd W f a) (u:Rd W h c) (p:Rd W g b) (x:d.length+a.length+c.length+b.length<=1000000):
 Calls prog 131 #[.slice (some ⟨N,0,none⟩) 4 4] (W.alloc (.cells #[i,f,h,g] 53)) fun e w'=>∃ v',e=.returned v'∧Own w' W.heap.size v' (d++(a++(c++b)))∧Below W.heap.size W w':=by
 have w:=RdL.built W N v #[i,f,h,g] [d,a,c,b] (by simp) (fun j q=>by
  match j,q with
  | 0,_=>exact⟨i,rfl,n⟩
  | 1,_=>exact⟨f,rfl,m⟩
  | 2,_=>exact⟨h,rfl,u⟩
  | 3,_=>exact⟨g,rfl,p⟩)
 have k:[d,a,c,b].flatten=d++(a++(c++b)):=by simp
 refine(Zgv _ _ _ w (by rw[k];simp only [length_append];omega) (by simp)).mono ?_
 rintro e w' ⟨v',rfl,l,t⟩;rw[k] at l;exact⟨v',rfl,l.mono (by simp),((Below.refl _ _).alloc zL _).trans (t.mono (by simp))⟩
theorem Zxw (W:World) (N:Nat) (q:N=W.heap.size) (g d f:Value) (c a b:List UInt8) (l:Rd W g c) (k:Rd W d a) (p:Rd W f b) (u:c.length+a.length+b.length<=1000000):
 Calls prog 131 #[.slice (some ⟨N,0,none⟩) 3 3] (W.alloc (.cells #[g,d,f] 53)) fun e w'=>∃ v',e=.returned v'∧Own w' W.heap.size v' (c++(a++b))∧Below W.heap.size W w':=by
 have t:=RdL.built W N q #[g,d,f] [c,a,b] (by simp) (fun j m=>by
  match j,m with
  | 0,_=>exact⟨g,rfl,l⟩
  | 1,_=>exact⟨d,rfl,k⟩
  | 2,_=>exact⟨f,rfl,p⟩)
 have h:[c,a,b].flatten=c++(a++b):=by simp
 refine(Zgv _ _ _ t (by rw[h];simp only [length_append];omega) (by simp)).mono ?_
 rintro e w' ⟨v',rfl,i,n⟩;rw[h] at i;exact⟨v',rfl,i.mono (by simp),((Below.refl _ _).alloc zL _).trans (n.mono (by simp))⟩
theorem ZuV (v:Value) (l:List UInt8) (w:World) (f:Rd w v l) (t:l.length<=1000000):
 Calls prog 214 #[v] w fun e w'=>∃ v',e=.returned v'∧Own w' w.heap.size v' l∧Below w.heap.size w w':=by
 have j:=ZZ f;obtain⟨ao,cap,rfl,m,-,b,-⟩:=f
 cases ao with
 | none=>
  obtain rfl:cap=0:=b rfl;obtain rfl:l=[]:=List.eq_nil_of_length_eq_zero (by omega)
  clear b m;have i:∀ w,(binOp .eql 53 (.slice none 0 0) (.slice none 0 0)).run prog w=.ok (.bool true) w:=fun w=>run_eql_slice_nil w _ _ none 0 0 underlying53
  go_enter func214,ntmps214
  go_wp2;go_ret;exact⟨_,rfl,Own.nil _ _,Below.refl _ _⟩
 | some a=>
  clear b;have i:∀ w,(binOp .eql 53 (.slice (some a) l.length cap) (.slice none 0 0)).run prog w=.ok (.bool false) w:=fun w=>run_eql_slice_nil w _ _ (some a) _ _ underlying53
  have g:Hid (∀ X,Below w.heap.size w (w.alloc X)):=fun X=>(Below.refl _ _).alloc zL X
  have h:Hid (Own (w.alloc (.cells #[] 5)) w.heap.size (.slice (some ⟨w.heap.size,0,none⟩) 0 0) []):=ZZ (Own.empty rfl rfl zL 0 (Nat.zero_le _) rfl)
  go_enter func214,ntmps214
  go_wp2_with(at_builtin;refine ZaE _ rfl _ _ rfl w.heap.size _ [] rfl h.o _ l rfl (j.o.below (g.o _) zL) (by simp;omega) (by simp) ?_)
  intro q p d c;have n:=ZZ d;have k:=ZZ ((g.o _).trans c);clear d c;go_wp2;go_ret;exact⟨_,rfl,n.o,k.o⟩
def ZaL:Array Value:=((List.range 256).map fun c=>Value.int .u32 ((Zgz c:Nat):Int)).toArray
def ZbX:Array Value:=(List.replicate 256 (Value.int .u32 0)).toArray
theorem ZjX:(prog.info? 266).map (fun i=>(i.zero,i.size))=some (some (.agg ZbX),256):=by kernel_rfl
theorem Zcm:ZaL.size=256:=by simp[ZaL]
theorem Zgd:ZbX.size=256:=by
 unfold ZbX;rw[List.size_toArray,List.length_replicate]
theorem Zjo:ZaL.all (·.oneCell')=true:=by
 rw[Array.all_eq_true];intro i a;simp[ZaL,Value.oneCell']
theorem Zlq (k:Nat) (h:k<256):ZaL[k]?=some (.int .u32 ((Zgz k:Nat):Int)):=by
 simp[ZaL,h]
theorem Zxx (w:World):(Instr.storeAt 266 (.pointer (some ⟨w.heap.size,0,none⟩)) (.agg ZaL)).run prog (w.alloc (.cells ZbX 266))=.ok () (w.alloc (.cells ZaL 266)):=
 run_storeAt_new w 266 ZbX ZaL (by rw[Zcm];exact(zero_of_info ZjX).2) (by rw[Zcm,Zgd]) Zjo
def Zzx (w:World) (b:Nat):Prop:=∀ k,k<256->w.cell? ⟨b,k,none⟩=some (.int .u32 ((Zgz k:Nat):Int))
theorem Zzx.made (w:World):Zzx (w.alloc (.cells ZaL 266)) w.heap.size:=by
 intro k a;rw[cell_of_row _ w.heap.size k ZaL 266 (0,0) (heap_alloc_last w _)];exact Zlq k a
theorem Zlr (w:World) {b:Array Oper} {rest:List Oper} {o:Oper} {a:Act} {Q:Exit->Act->World->Prop} (e:o.guard=none) (x y:Operand) (f:o.op=.store 266 x y)
 (g:a.eval x=.pointer (some ⟨w.heap.size,0,none⟩)) (d:a.eval y=.agg ZaL)
 (h:∀ w',Below w.heap.size w w'->Zzx w' w.heap.size->wpList prog b Q rest (a.put o.dst undef) w'):wpList prog b Q (o::rest) a (w.alloc (.cells ZbX 266)):=
 wpList_plain e fun _ c=>by
  have i:=Zxx w;unfold Oper.wp execOp;simp only [f,g,d,i,Sem.run_bind,Sem.run_pure,Result.andThen_ok];exact c _ _ (h _ ((Below.refl _ _).alloc zL _) (Zzx.made w))
def Zls (k:Nat):Array Value:=((List.range 256).map fun c=>if c<k then Value.int .u32 ((Zgz c:Nat):Int) else Value.int .u32 0).toArray
theorem Zfd (k:Nat):(Zls k).size=256:=by simp[Zls]
theorem Zge (k i:Nat) (h:i<256):(Zls k)[i]?=some (if i<k then Value.int .u32 ((Zgz i:Nat):Int) else Value.int .u32 0):=by
 simp[Zls,h]
theorem ZuW:Zls 0=ZbX:=by
 apply Array.ext_getElem?;intro i;by_cases h:i<256
 ·rw[Zge 0 i h]
  unfold ZbX;rw[List.getElem?_toArray,List.getElem?_replicate_of_lt h];simp
 ·rw[Array.getElem?_eq_none (by rw[Zfd];omega),Array.getElem?_eq_none (by rw[Zgd];omega)]
theorem ZuX:Zls 256=ZaL:=by
 apply Array.ext_getElem?;intro i;by_cases h:i<256
 ·rw[Zge 256 i h,if_pos h,Zlq i h]
 ·rw[Array.getElem?_eq_none (by rw[Zfd];omega),Array.getElem?_eq_none (by rw[Zcm];omega)]
theorem Zxy (k:Nat) (b:k<256):(Zls k).setIfInBounds k (Value.int .u32 ((Zgz k:Nat):Int))=Zls (k+1):=by
 apply Array.ext_getElem?;intro i;rw[Array.getElem?_setIfInBounds];by_cases h:i<256
 ·rw[Zge (k+1) i h,Zge k i h,Zfd]
  by_cases a:k=i
  ·subst a
   simp[b]
  ·rw[if_neg a]
   have e:(i<k+1)=(i<k):=by
    apply propext;omega
   simp only [e]
 ·have a:¬ k=i:=by omega
  rw[if_neg a,Array.getElem?_eq_none (by rw[Zfd];omega),Array.getElem?_eq_none (by rw[Zfd];omega)]
theorem Zot {C:Array Value} (h:C.size=256):(prog.info? 266).map (·.size)=some C.size:=by
 rw[h];exact(zero_of_info ZjX).2
theorem Zlt (w:World) {b:Array Oper} {rest:List Oper} {o:Oper} {a:Act} {Q:Exit->Act->World->Prop} (k:o.guard=none) (x:Operand) (e:o.op=.load 266 x)
 (g:Nat) (C:Array Value) (c:Nat × Nat) (f:a.eval x=.pointer (some ⟨g,0,none⟩)) (l:w.heap[g]?=some (.cells C 266 c)) (d:C.size=256)
 (h:wpList prog b Q rest (a.put o.dst (.agg C)) w):wpList prog b Q (o::rest) a w:=
 wpList_plain k fun _ j=>by
  have i:=run_loadVar_row (P:=prog) w g 266 266 C c _ l underlying266 rfl (Zot d);unfold Oper.wp execOp;simp only [e,f,Instr.loadAt,Instr.sureAddr,Sem.run_bind,Sem.run_pure,Result.andThen_ok,i];exact j _ _ h
theorem ZjF (w:World) {c:Array Oper} {rest:List Oper} {o:Oper} {a:Act} {Q:Exit->Act->World->Prop} (m:o.guard=none) (x y:Operand) (f:o.op=.store 266 x y)
 (g:Nat) (C D:Array Value) (i:a.eval x=.pointer (some ⟨g,0,none⟩)) (l:a.eval y=.agg D) (n:w.heap[g]?=some (.cells C 266 (0,0))) (d:C.size=256) (b:D.size=256) (e:D.all (·.oneCell')=true)
 (h:wpList prog c Q rest (a.put o.dst undef) (w.setRow g D)):wpList prog c Q (o::rest) a w:=
 wpList_plain m fun _ k=>by
  have j:=run_storeVar_row (P:=prog) w g 266 266 C D n (Zot b) (by rw[d,b]) e
  unfold Oper.wp execOp;simp only [f,i,l,Instr.storeAt,Instr.sureAddr,Sem.run_bind,Sem.run_pure,Result.andThen_ok,j];exact k _ _ h
theorem Zqe {fn:Func} {p:Tmp} {ty:TypeId} (h:fn.results=#[.cell p ty]) (b:Array Value) (P:Program) (w:World):
 (results fn b).run P w=((asAddr (b.getD p undef)).run P w).andThen fun a c=>(loadVar ty a).run P c:=by
 simp only [results,h];simp[Sem.run_bind,Result.andThen]
theorem Zxz (k:Nat) (l:k<256) (w:World):Calls prog 225 #[.int .u32 (k:Int)] w fun e w'=>e=.returned (.int .u32 (Zgz k:Nat))∧w'=w:=by
 have p:=ZZ l;clear l
 go_enter func225,ntmps225
 go_wp2
 go_loop [0,4] (fun x j=>∃ m:Nat,m<=8∧j=.int .i64 (m:Int)∧x=.int .u32 (ZdM m k:Nat)) (fun _ j=>8-(intOf j).toNat)
 case atStart=>exact⟨0,Nat.zero_le _,rfl,rfl⟩
 case round=>
  obtain⟨m,A,rfl,rfl⟩:=hrel;by_cases C:m<8
  ·have i:=ZZ (ZuR m k)
   have h:ZdM m k<4294967296:=Zxj m (by have:=p.o;omega)
   generalize ZdM m k=y at *;obtain⟨Y,c⟩:∃ Y:Int,Y=(y:Int):=⟨_,rfl⟩;rw[<-c];have B:0<=Y:=by omega
   have z:Y<4294967296:=by omega
   have g:=ZZ c;have n:=ZZ h;clear c h;by_cases a:Y % 2=1
   ·have v:(Y % 2 == 1)=true:=beq_iff_eq.2 a
    have d:=ZZ a;clear a;go_wp2
    go_round
    case rel=>
     have e:=g.o;have t:=d.o;refine⟨m+1,by omega,by go_num,?_⟩
     have b:Y / 2=((y / 2:Nat):Int):=by omega
     have q:(2197175160:Int)=((2197175160:Nat):Int):=rfl;have f:ZtZ y=y / 2 ^^^ 2197175160:=if_pos (by omega)
     rw[i.o,f,b,q,ZrW _ _ (by have:=n.o;omega) (by decide)]
    case measure=>simp[intOf];omega
   ·have v:(Y % 2 == 1)=false:=beq_eq_false_iff_ne.2 a
    have d:=ZZ a;clear a;go_wp2
    go_round
    case rel=>
     have e:=g.o;have t:=d.o;refine⟨m+1,by omega,by go_num,?_⟩
     have b:Y / 2=((y / 2:Nat):Int):=by omega
     have f:ZtZ y=y / 2:=if_neg (by omega)
     rw[i.o,f,b]
    case measure=>simp[intOf];omega
  ·have u:Hid (ZdM m k=Zgz k):=by
    have e:m=8:=by omega
    rw[e];exact rfl
   generalize ZdM m k=y at *;go_wp2;go_ret;refine⟨Zfi ?_,rfl⟩;rw[u.o]
theorem ZxA (w:World):Calls prog 215 #[] w fun e w'=>e=.returned (.agg ZaL)∧Below w.heap.size w w':=by
 have C:=(zero_of_info ZjX).1;have u:Hid (∀ (k:Nat) (w:World),k<256->Calls prog 225 #[.int .u32 (k:Int)] w fun e w'=>e=.returned (.int .u32 (Zgz k:Nat))∧w'=w):=fun k w l=>Zxz k l w
 go_enter func215,ntmps215
 go_wp2
 go_loopw[3] (fun i a=>∃ k:Nat,k<=256∧i=.int .i64 (k:Int)∧Hid (a.heap[w.heap.size+1]?=some (.cells (Zls k) 266 (0,0)))∧Hid (a.heap[w.heap.size]?=some (.cells ZbX 266 (0,0)))∧Hid (Below w.heap.size w a)) (fun i _=>256-(intOf i).toNat)
 case atStart=>
  have y:((w.alloc (.cells ZbX 266)).alloc (.cells ZbX 266)).heap[w.heap.size+1]?=some (.cells (Zls 0) 266 (0,0)):=by
   rw[ZuW];have h:=heap_alloc_last (w.alloc (.cells ZbX 266)) (.cells ZbX 266);have q:(w.alloc (.cells ZbX 266)).heap.size=w.heap.size+1:=by simp
   rw[q] at h;exact h
  have z:((w.alloc (.cells ZbX 266)).alloc (.cells ZbX 266)).heap[w.heap.size]?=some (.cells ZbX 266 (0,0)):=
   (Below.heap_alloc _ _ w.heap.size (by simp)).trans (heap_alloc_last w _)
  exact⟨0,Nat.zero_le _,rfl,y,z,((Below.refl _ _).alloc zL _).alloc (by simp) _⟩
 case round=>
  obtain⟨k,l,rfl,c,f,b⟩:=hrel;by_cases d:k<256
  ·have A:a.cell? ⟨w.heap.size+1,k,none⟩=some (.int .u32 0):=by
    rw[cell_of_row a _ k _ _ _ c.o,Zge k k d];simp
   have D:a.frozen? ⟨w.heap.size+1,k,none⟩=false:=frozen_of_row a _ k _ _ c.o
   have x:Hid ((a.setCell ⟨w.heap.size+1,k,none⟩ (.int .u32 ((Zgz k:Nat):Int))).heap[w.heap.size+1]?=some (.cells (Zls (k+1)) 266 (0,0))):=by
    have h:=heap_setCell_same a (w.heap.size+1) k _ _ (.int .u32 ((Zgz k:Nat):Int)) c.o;rw[Zxy k d] at h;exact h
   go_wp2_with fail
   refine(u.o k a d).mono ?_;rintro e B ⟨rfl,rfl⟩;go_wp2;go_roundw
   case rel=>exact⟨k+1,by omega,by go_num,x,(Below.heap_setCell _ _ _ _ (by show w.heap.size≠w.heap.size+1;omega)).trans f.o,b.o.setCell (by show w.heap.size<=w.heap.size+1;omega) _⟩
   case measure=>simp[intOf];omega
  ·have g:a.heap[w.heap.size+1]?=some (.cells ZaL 266 (0,0)):=by
    have e:k=256:=by omega
    rw[<-ZuX,<-e];exact c.o
   have m:=ZZ g
   have n:Hid ((loadVar 266 ⟨w.heap.size,0,none⟩).run prog (a.setRow w.heap.size ZaL)=.ok (.agg ZaL) (a.setRow w.heap.size ZaL)):=
    run_loadVar_row (P:=prog) _ _ 266 266 ZaL (0,0) _ (setRow_heap a _ _ ZaL _ _ f.o) underlying266 rfl (Zot Zcm)
   have p:Hid (Below w.heap.size w (a.setRow w.heap.size ZaL)):=
    ⟨b.o.os,b.o.tape,b.o.output,by have:=b.o.size;simp[World.setRow];omega,fun j t=>(setRow_other a _ j _ (by omega)).trans (b.o.block j t)⟩
   clear g c
   go_wp2_with(first
    | refine Zlt _ rfl _ rfl (w.heap.size+1) ZaL (0,0) rfl m.o Zcm ?_
    | refine ZjF _ rfl _ _ rfl w.heap.size ZbX ZaL rfl rfl f.o Zgd Zcm Zjo ?_)
   refine bodyPost_ret (v:=.agg ZaL) ?_ rfl ⟨rfl,p.o⟩;have h:=n.o;rw[Zqe Tryz.results215];have e:(asAddr (.pointer (some ⟨w.heap.size,0,none⟩))).run prog (a.setRow w.heap.size ZaL)=.ok ⟨w.heap.size,0,none⟩ (a.setRow w.heap.size ZaL):=by simp[asAddr]
   simp only [Act.put,List.setIfInBounds_toArray,List.set_cons_succ,List.set_cons_zero];show((asAddr (.pointer (some ⟨w.heap.size,0,none⟩))).run prog (a.setRow w.heap.size ZaL)).andThen _=_;rw[e];simp only [Result.andThen];rw[h]
theorem Zzy (s:Nat) (v:Value) (l:List UInt8) (w:World) (C:Rd w v l) (f:s<4294967296):
 Calls prog 187 #[.int .u32 (s:Int),v] w fun e w'=>e=.returned (.int .u32 (Zaz s l:Nat))∧Below w.heap.size w w':=by
 have J:=ZZ C;obtain⟨ao,cap,rfl,X,M,Q,a⟩:=C;clear Q;have I:=ZZ a;clear a;have V:(l.length:Int)<=9223372036854775807:=by unfold maxLen at M;omega
 have H:=ZZ (Zxk s f);have F:Hid (∀ k,Zev (s ^^^ 4294967295) (l.take k)<4294967296):=fun k=>Zks _ (Zws f)
 have O:Hid (Zaz s l=Zev (s ^^^ 4294967295) l ^^^ 4294967295):=rfl;have q:=ZZ (fun w=>ZxA w)
 have P:=(zero_of_info ZjX).1;generalize s ^^^ 4294967295=h at *;clear f
 go_enter func187,ntmps187
 go_wp2_with fail
 refine(q.o _).mono ?_;rintro e Y ⟨rfl,z⟩;have t:=ZZ z;clear z q
 go_wp2_with(refine Zlr _ rfl _ _ rfl rfl rfl ?_)
 intro S n B;have j:=ZZ (t.o.trans (n.mono t.o.size));have G:=ZZ B;clear n B P;go_wp2
 go_loop [6,14] (fun x i=>∃ k:Nat,k<=l.length∧i=.int .i64 k∧x=.int .u32 (Zev h (l.take k):Nat)) (fun _ i=>l.length-(intOf i).toNat)
 case atStart=>
  refine⟨0,Nat.zero_le _,rfl,?_⟩;rw[H.o];rfl
 case round=>
  obtain⟨k,Z,rfl,rfl⟩:=hrel;have K:=F.o k;by_cases d:k<l.length
  ·have L:=ZZ (ZrX l h k d)
   rcases I.o with a | ⟨b,off,rfl,_⟩
   ·subst a;simp at d
   have T:=(J.o.below j.o zL).at k d;have g:(l.getD k 0).toNat<256:=UInt8.toNat_lt _;generalize Zev h (l.take k)=y at *;generalize (l.getD k 0).toNat=c at *;have u:=ZAO y c g
   have U:bits .xor .u8 ((y:Int) % 256) (c:Int)=((y % 256 ^^^ c:Nat):Int):=by
    have e:(y:Int) % 256=((y % 256:Nat):Int):=by omega
    rw[e];exact ZBH _ _ (by omega) g
   have D:Hid (bits .xor .u32 ((Zgz (y % 256 ^^^ c):Nat):Int) ((y:Int) / 256)=((ZgR y c:Nat):Int)):=by
    have e:(y:Int) / 256=((y / 256:Nat):Int):=by omega
    rw[e,ZrW _ _ (Zzu _ u) (by omega)]
    unfold ZgR;rw[Zzt y c g];exact rfl
   have N:=G.o (y % 256 ^^^ c) u;generalize p:y % 256 ^^^ c=m at *;have W:=ZZ p;clear p;have R:(m:Int)<256:=by omega
   obtain⟨E,A⟩:∃ E:Int,E=((Zgz m:Nat):Int):=⟨_,rfl⟩;rw[<-A] at N D;clear A;go_wp2
   go_round
   case rel=>exact⟨k+1,by omega,by go_num,by rw[L.o,<-D.o]⟩
   case measure=>simp[intOf];omega
  ·go_wp2
   go_ret;refine⟨Zfi ?_,j.o⟩;rw[O.o,Zxk _ K,take_of_length_le (by omega)]
theorem Zou (v:Value) (l:List UInt8) (w:World) (a:Rd w v l):
 Calls prog 136 #[v] w fun e w'=>e=.returned (.int .u32 (Zaz 0 l:Nat))∧Below w.heap.size w w':=by
 have b:Hid (Calls prog 187 #[.int .u32 0,v] w fun e w'=>e=.returned (.int .u32 (Zaz 0 l:Nat))∧Below w.heap.size w w'):=Zzy 0 v l w a (by decide)
 generalize Zaz 0 l=m at *;clear a
 go_enter func136,ntmps136
 go_wp2_with fail
 refine b.o.mono ?_;rintro e w' ⟨rfl,c⟩;have d:=ZZ c;clear c b;go_wp2;go_ret;exact⟨rfl,d.o⟩
def ZjG (v:Value) (l:List UInt8) (xs:List Value) (L:List (List UInt8)):Prop:=
 xs.length=L.length∧∀ j,j<L.length->∃ x,xs[j]?=some x∧x.oneCell'=true∧∀ W,Rd W v l->Rd W x (L.getD j [])
theorem ZjG.nil (v:Value) (l:List UInt8):ZjG v l [] []:=⟨rfl,fun j a=>absurd a (by simp)⟩
theorem ZjG.snoc {v:Value} {l:List UInt8} {xs:List Value} {L:List (List UInt8)} (h:ZjG v l xs L) {x:Value} {d:List UInt8} (b:x.oneCell'=true) (i:∀ W,Rd W v l->Rd W x d):ZjG v l (xs++[x]) (L++[d]):=by
 refine⟨by simp[h.1],fun j c=>?_⟩
 rw[length_append,length_singleton] at c;by_cases a:j<L.length
 ·obtain⟨y,k,f,g⟩:=h.2 j a
  refine⟨y,by rw[List.getElem?_append_left (by rw[h.1];exact a)];exact k,f,?_⟩
  have e:(L++[d]).getD j []=L.getD j []:=by simp[List.getD,List.getElem?_append_left a]
  rw[e];exact g
 ·have m:j=L.length:=by omega
  subst m;refine⟨x,by rw[List.getElem?_append_right (by rw[h.1];omega),h.1];simp,b,?_⟩
  have e:(L++[d]).getD L.length []=d:=by simp[List.getD]
  rw[e];exact i
theorem ZjG.one {v:Value} {l:List UInt8} {xs:List Value} {L:List (List UInt8)} (h:ZjG v l xs L):∀ u ∈ xs,u.oneCell'=true:=fun u c=>by
 obtain⟨j,b,rfl⟩:=List.getElem_of_mem c;obtain⟨x,a,d,-⟩:=h.2 j (by rw[<-h.1];exact b)
 rw[List.getElem?_eq_getElem b] at a;obtain rfl:=Option.some.inj a;exact d
theorem ZxB:(prog.info? 53).map (fun i=>(i.zero,i.size,i.bytes))=some (some (.slice none 0 0),1,24):=by kernel_rfl
theorem Zlu (w:World) (ty:TypeId) (B:Nat) (v:Value) (n:Nat) (xs:List Value) (h:w.ownsRow B 53 1 v n xs) (a:Addr) (m cap:Nat) (b:List Value) (i:b.length=m) (x:∀ j u,b[j]?=some u->w.cell? (a.add j)=some u) (q:∀ u ∈ b,u.oneCell'=true) (A:n+m<=1000000) (c:B<=w.heap.size):
 ∃ v' w',(Builtin.append_ #[144,144] ty #[v,.slice (some a) m cap]).run prog w=.ok v' w'∧w'.ownsRow B 53 1 v' (n+m) (xs++b)∧Below B w w':=by
 obtain⟨g,l,y,p,t⟩:=info_parts ZxB
 obtain⟨v',w',f,e,d,_⟩:=run_append_own (P:=prog) w B 144 ty 53 g (.slice none 0 0) 1 24 underlying144 l y p t rfl (by decide) v n xs h
  a m cap b (by rw[i,Nat.mul_one]) x q (by unfold maxLen;omega) (by omega) c
 exact⟨v',w',f,e,(Below.refl _ _).grown d c (fun k z=>(World.ownsRow.lt h k z).1)⟩
theorem ZcY (w:World) {c:Array Oper} {rest:List Oper} {o:Oper} {a:Act} {Q:Exit->Act->World->Prop} (z:o.guard=none) (s x:Operand)
 (f:o.op=.call { callee:=.builtin .append,args:=#[s,x],argTypes:=#[144,144] })
 (B:Nat) (v:Value) (n:Nat) (xs:List Value) (p:a.eval s=v) (e:w.ownsRow B 53 1 v n xs) (d:Addr) (m cap:Nat) (b:List Value) (g:a.eval x=.slice (some d) m cap) (q:b.length=m) (A:∀ j u,b[j]?=some u->w.cell? (d.add j)=some u) (y:∀ u ∈ b,u.oneCell'=true)
 (D:n+m<=1000000) (t:B<=w.heap.size)
 (h:∀ v' w',w'.ownsRow B 53 1 v' (n+m) (xs++b)->Below B w w'->wpList prog c Q rest (a.put o.dst v') w'):wpList prog c Q (o::rest) a w:=
 wpList_plain z fun _ k=>by
  obtain⟨v',w',i,C,l⟩:=Zlu w o.type B v n xs e d m cap b q A y D t;unfold Oper.wp execOp;simp only [f,resolve,invoke,builtin,Sem.run_bind,Sem.run_pure,Result.andThen_ok,List.map_toArray,List.map_cons,List.map_nil,p,g,i];exact k _ _ (h v' w' C l)
theorem Zzz (ao:Option Addr) (l:List UInt8) (cap:Nat) (g:l.length<=cap) (i j:Nat) (e:i<=j) (f:j<=l.length):
 ∃ b c a,(∀ W,(Instr.sliceAt 53 (.slice ao l.length cap) (some (.int .i64 (i:Int))) (some (.int .i64 (j:Int))) (some (.int .i64 (j:Int)))).run prog W=.ok (.slice b c a) W)∧∀ W,Rd W (.slice ao l.length cap) l->Rd W (.slice b c a) ((l.drop i).take (j-i)):=by
 have d:∃ b c a,sliced ao i j j 1=.slice b c a:=by
  unfold sliced;exact⟨_,_,_,rfl⟩
 obtain⟨b,c,a,d⟩:=d;refine⟨b,c,a,fun W=>?_,fun W h=>?_⟩
 ·rw[run_sliceAt_slice W 53 _ _ _ _ ZaF,run_slice_lhm W 53 ao l.length cap ZaF .i64 .i64 .i64 (i:Int) (j:Int) (j:Int) (by omega) (by omega) (by omega) (by omega),ZbU,Zfs]
  simp only [Int.toNat_natCast];rw[<-d];rfl
 ·rw[<-d]
  exact h.mid i j j e f zL (by omega)
theorem Zlv (w:World) (x:Obj):w.heap.size<=(w.alloc x).heap.size:=((Below.refl w.heap.size w).alloc zL x).size
theorem Zqf (w:World) (v:Value):∀ j u,[v][j]?=some u->(w.alloc (.cells #[v] 53)).cell? ((⟨w.heap.size,0,none⟩:Addr).add j)=some u:=fun j u a=>by
 rw[Addr.add_lit,Nat.zero_add,cell_of_row _ w.heap.size j _ 53 (0,0) (heap_alloc_new w _)];rw[<-List.getElem?_toArray] at a;exact a
def ZAT (w:World) (v:Value) (l:List UInt8) (L:List (List UInt8)) (e:Ending) (w':World):Prop:=
 ∃ v' xs,e=.returned v'∧w'.ownsRow w.heap.size 53 1 v' L.length xs∧ZjG v l xs L∧Below w.heap.size w w'
theorem Znk (v:Value) (l:List UInt8) (w:World) (hr:Rd w v l) (ad:l.length<=100000):
 Calls prog 102 #[v] w fun e w'=>ZAT w v l (Zbd l) e w':=by
 obtain⟨ao,cap,rfl,Z,Y,-⟩:=hr;have n:=ZZ (fun i j=>Zzz ao l cap Z i j)
 have J:Hid (∀ A,A<l.length->Zbd (l.drop A)=(l.drop A).take 64::Zbd (l.drop (A+64))):=ZZ (fun A h=>Zry h)
 have I:Hid (Zbd l=[]++Zbd (l.drop 0)):=ZZ (by simp)
 have t:Hid (∀ A,l.length<=A->Zbd (l.drop A)=[]):=ZZ (fun A h=>by rw[List.drop_eq_nil_of_le h,Zba])
 have z:Hid (∀ A,l.length<=A+64->(l.drop A).take (l.length-A)=(l.drop A).take 64):=ZZ (fun A h=>by
  rw[take_of_length_le (by rw[length_drop];omega),take_of_length_le (by rw[length_drop];omega)])
 obtain⟨p,O⟩:∃ p,p=Zbd l:=⟨_,rfl⟩;rw[<-O] at I ⊢;clear O Y
 go_enter func102,ntmps102
 go_wp2
 go_loopw[3,4] (fun V M d=>∃ (A:Nat) (P:List (List UInt8)) (xs:List Value),M=.int .i64 (A:Int)∧P.length<=A∧A<=l.length+64∧Hid (d.ownsRow w.heap.size 53 1 V P.length xs)∧Hid (ZjG (.slice ao l.length cap) l xs P)∧Hid (p=P++Zbd (l.drop A))∧Hid (Below w.heap.size w d)) (fun _ M _=>l.length+64-(intOf M).toNat)
 case atStart=>exact⟨0,[],[],rfl,Nat.le_refl _,by omega,ZZ (World.ownsRow_nil w w.heap.size 53 1),ZZ (ZjG.nil _ _),I,Below.refl _ _⟩
 case round=>
  clear I;obtain⟨A,P,xs,rfl,ae,hA,H,x,K,g⟩:=hrel;by_cases T:A<l.length
  case neg=>
   have ab:¬ (A:Int)<(l.length:Int):=by omega
   have HF:Hid (p=P):=ZZ (by rw[K.o,t.o A (by omega),List.append_nil])
   go_wp2;go_ret;rw[HF.o];exact⟨_,xs,rfl,H.o,x.o,g.o⟩
  have ac:(A:Int)<(l.length:Int):=by omega
  have R:=ZZ (J.o A T);by_cases h:A+64<=l.length
  ·obtain⟨c,a,b,hcut,f⟩:=n.o A (A+64) (by omega) h
   have Q:((A+64:Nat):Int)=(A:Int)+64:=by omega
   have N:A+64-A=64:=by omega
   rw[Q] at hcut;rw[N] at f;have y:=ZZ f;have U:(A:Int)+64<=(l.length:Int):=by omega
   have S:min ((A:Int)+64) (l.length:Int)=(A:Int)+64:=by omega
   have aa:¬ (l.length:Int)<(A:Int)+64:=by omega
   have D:Hid (w.heap.size<=(d.alloc (.cells #[.slice c a b] 53)).heap.size):=ZZ (Nat.le_trans g.o.size (Zlv d _));have q:Hid ((d.alloc (.cells #[.slice c a b] 53)).ownsRow w.heap.size 53 1 _ P.length xs):=ZZ (World.ownsRow.alloc H.o _);have C:=ZZ (Zqf d (.slice c a b));have B:Hid (∀ u ∈ [Value.slice c a b],u.oneCell'=true):=ZZ (fun u E=>by rw[List.mem_singleton.1 E];rfl)
   have F:P.length+1<=1000000:=by omega
   clear f Q N J n t z h
   go_wp2_with(at_builtin;refine ZcY _ rfl _ _ rfl w.heap.size _ P.length xs rfl q.o ⟨d.heap.size,0,none⟩ 1 1 [.slice c a b] rfl rfl C.o B.o F D.o ?_)
   intro X W m k;have L:=ZZ m;have G:=ZZ ((g.o.alloc g.o.size _).trans k);clear m k;go_wp2;go_roundw
   case rel=>exact⟨A+64,P++[(l.drop A).take 64],xs++[.slice c a b],by go_num,by simp;omega,by omega,ZZ (by rw[length_append,length_singleton];exact L.o),ZZ (x.o.snoc rfl y.o),ZZ (by rw[K.o,R.o,append_assoc];rfl),G⟩
   case measure=>simp[intOf];omega
  ·obtain⟨c,a,b,hcut,f⟩:=n.o A l.length (by omega) zL
   rw[z.o A (by omega)] at f
   have y:=ZZ f;have U:(l.length:Int)<(A:Int)+64:=by omega
   have S:min ((A:Int)+64) (l.length:Int)=(l.length:Int):=by omega
   have aa:¬ (A:Int)+64<=(l.length:Int):=by omega
   have D:Hid (w.heap.size<=(d.alloc (.cells #[.slice c a b] 53)).heap.size):=ZZ (Nat.le_trans g.o.size (Zlv d _));have q:Hid ((d.alloc (.cells #[.slice c a b] 53)).ownsRow w.heap.size 53 1 _ P.length xs):=ZZ (World.ownsRow.alloc H.o _);have C:=ZZ (Zqf d (.slice c a b));have B:Hid (∀ u ∈ [Value.slice c a b],u.oneCell'=true):=ZZ (fun u E=>by rw[List.mem_singleton.1 E];rfl)
   have F:P.length+1<=1000000:=by omega
   clear f J n t z h
   go_wp2_with(at_builtin;refine ZcY _ rfl _ _ rfl w.heap.size _ P.length xs rfl q.o ⟨d.heap.size,0,none⟩ 1 1 [.slice c a b] rfl rfl C.o B.o F D.o ?_)
   intro X W m k;have L:=ZZ m;have G:=ZZ ((g.o.alloc g.o.size _).trans k);clear m k;go_wp2;go_roundw
   case rel=>exact⟨A+64,P++[(l.drop A).take 64],xs++[.slice c a b],by go_num,by simp;omega,by omega,ZZ (by rw[length_append,length_singleton];exact L.o),ZZ (x.o.snoc rfl y.o),ZZ (by rw[K.o,R.o,append_assoc];rfl),G⟩
   case measure=>simp[intOf];omega
theorem Zmw (i:Int) (v:Value) (l:List UInt8) (w:World) (j:Rd w v l):
 Calls prog 100 #[.int .i64 i,v] w fun e w'=>e=.returned (.agg #[.int .i64 i,.int .i64 (l.length:Int),.int .u32 ((Zaz 0 l:Nat):Int)])∧Below w.heap.size w w':=by
 have d:Hid (∀ X,Below w.heap.size w (w.alloc X)):=fun X=>(Below.refl _ _).alloc zL X
 have g:=ZZ (fun W (h:Below w.heap.size w W)=>Zou v l W (j.below h zL))
 obtain⟨ao,cap,rfl,-⟩:=j;generalize Zaz 0 l=m at *;obtain⟨M,f⟩:∃ M:Int,M=(m:Int):=⟨_,rfl⟩;rw[<-f] at g ⊢;clear f;have t:Hid (∀ cs,(w.alloc (.cells cs 147)).heap[w.heap.size]?=some (.cells cs 147 (0,0))):=fun cs=>heap_alloc_new w _
 go_enter func100,ntmps100
 go_wp2_with fail
 refine(g.o _ (d.o _)).mono ?_;rintro x b ⟨rfl,c⟩;have n:=ZZ ((d.o _).trans (c.mono (d.o _).size));have a:=(c.block w.heap.size (by simp)).trans (t.o _)
 have q:=cell_of_row b w.heap.size 0 _ _ _ a;have k:=cell_of_row b w.heap.size 1 _ _ _ a;have p:=cell_of_row b w.heap.size 2 _ _ _ a;have u:=frozen_of_row b w.heap.size 0 _ _ a;have y:=frozen_of_row b w.heap.size 1 _ _ a;have z:=frozen_of_row b w.heap.size 2 _ _ a;clear c a;go_wp2;refine bodyPost_ret (v:=.agg #[.int .i64 i,.int .i64 (l.length:Int),.int .u32 M]) (by simp[results,Tryz.results100,go_sem,q,k,p]) rfl ?_
 exact⟨rfl,((n.o.setCell zL _).setCell zL _).setCell zL _⟩
theorem Zqg:∀ (A B:List Int),ZcR (A++B)=ZcR A++ZcR B
 | [],_=>rfl
 | x::r,B=>by rw[List.cons_append,ZcR,Zqg r B,ZcR,append_assoc]
theorem Zjp:∀ (L:List Int),(∀ x ∈ L,I64 x)->(ZcR L).length<=10*L.length
 | [],_=>by simp[ZcR]
 | x::r,h=>by
  have b:=Zjp r (fun y a=>h y (by simp[a]))
  have c:=ZyG (h x (by simp))
  rw[ZcR,length_append,List.length_cons];omega
theorem ZuY (L:List Int) (k:Nat) (a:k<L.length):ZcR (L.take (k+1))=ZcR (L.take k)++Lib.uvarint (Lib.zigzag (L.getD k 0)):=by
 have e:L.take (k+1)=L.take k++[L.getD k 0]:=by
  rw[take_add_one];simp[List.getD,a]
 rw[e,Zqg];simp[ZcR]
def ZxC (s:St):List UInt8:=(Lib.uvarint s.kind.toNat++Lib.uvarint (ZeH s))++Lib.uvarint s.L.length
theorem ZxD (s:St):ZjP s=ZxC s++ZcR s.L:=by
 unfold ZjP ZxC;simp[append_assoc]
theorem ZzA (a:Bool) (g:Int) (h:0<=g):(if a=true then g+1 else 0)=((ZeH ⟨0,[],a,g⟩:Nat):Int):=by
 unfold ZeH
 cases a
 ·rfl
 ·simp
  omega
theorem Zqh (k:Int) (l:List Int) (a:Bool) (g:Int):ZeH ⟨k,l,a,g⟩=ZeH ⟨0,[],a,g⟩:=rfl
def ZCr (w:World) (s:St) (e:Ending) (w':World):Prop:=
 ∃ v',e=.returned (.tuple #[v',.int .i64 (if ZcD s then 0 else 1)])∧Rd w' v' (if ZcD s then ZjP s else[])∧Below w.heap.size w w'
theorem Zmx (kind:Int) (ao:Option Addr) (n cap:Nat) (a:Bool) (g:Int) (w:World) (d:0<=g) (f:g<=2):
 Calls prog 190 #[.agg #[.int .i64 kind,.slice ao n cap,.bool a,.int .i64 g]] w fun e w'=>e=.returned (.int .i64 ((ZeH ⟨0,[],a,g⟩:Nat):Int))∧Below w.heap.size w w':=by
 have b:Hid (∀ X,Below w.heap.size w (w.alloc X)):=fun X=>(Below.refl _ _).alloc zL X
 have c:=ZZ (ZzA a g d);generalize ZeH ⟨0,[],a,g⟩=m at *
 cases a
 ·go_enter func190,ntmps190
  go_wp2;go_ret;refine⟨?_,b.o _⟩;rw[<-c.o];rfl
 ·go_enter func190,ntmps190
  go_wp2;go_ret;refine⟨?_,b.o _⟩;rw[<-c.o];rfl
theorem Zlw (v:Value) (s:St) (w:World) (hs:StV w v s) (a9:s.L.length<=1000):
 Calls prog 141 #[v] w fun e w'=>ZCr w s e w':=by
 obtain⟨vl,rfl,hr,aa,ai⟩:=hs;obtain⟨kind,l,b,g⟩:=s;simp only at hr aa ai a9 ⊢;have ap:Hid (∀ W,Below w.heap.size w W->Calls prog 82 #[.agg #[.int .i64 kind,vl,.bool b,.int .i64 g]] W fun e w'=>e=.returned (.bool (decide (ZcD ⟨kind,l,b,g⟩)))∧Below W.heap.size W w'):=fun W h=>Zol _ ⟨kind,l,b,g⟩ W ⟨vl,rfl,hr.below h zL,aa,ai⟩
 have u:Hid (∀ X,Below w.heap.size w (w.alloc X)):=fun X=>(Below.refl _ _).alloc zL X
 have bb:=ZZ hr;obtain⟨ao,cap,rfl,-,-,-,hi,aI⟩:=hr;have aR:=ZZ aI;clear aI aa ai;unfold ZCr;by_cases d:ZcD ⟨kind,l,b,g⟩
 ·simp only [if_pos d]
  have HT:=ZZ (decide_eq_true d);have aV:0<=kind:=d.2.2.2.1;have bd:kind<6:=d.2.2.2.2.1;have aZ:0<=g:=d.1;have a7:g<=2:=d.2.1;have a1:=Ztb d;rw[Zqh] at a1;have HI:=ZZ hi;have u1:=ZdD (n:=kind.toNat) (by omega)
  have u2:=ZdD (n:=ZeH ⟨0,[],b,g⟩) (by omega)
  have u3:=ZdD (n:=l.length) (by omega)
  have R:Hid (∀ (n:Int),0<=n->n<4611686018427387904->∀ W,Calls prog 132 #[.slice none 0 0,.int .i64 n] W fun e w'=>∃ v',e=.returned v'∧Own w' W.heap.size v' (a.uvarint n.toNat)∧Below W.heap.size W w'):=fun n F Q W=>by
   have h:=ZeN (.slice none 0 0) [] n W (Rd.nil W) (by simp)
   rw[Zcg F Q,nil_append] at h;exact h
  have ax:=ZZ (R.o kind aV (by omega))
  have am:=ZZ (R.o ((ZeH ⟨0,[],b,g⟩:Nat):Int) (by omega) (by omega))
  have ad:=ZZ (R.o (l.length:Int) (by omega) (by omega))
  rw[Int.toNat_natCast] at am ad;have T:=ZZ (fun W=>Zmx kind ao l.length cap b g W aZ a7)
  have aW:Hid (∀ x,I64 x->∀ W,Calls prog 142 #[.slice none 0 0,.int .i64 x] W fun e w'=>∃ v',e=.returned v'∧Own w' W.heap.size v' (a.uvarint (a.zigzag x))∧Below W.heap.size W w'):=fun x M W=>by
   have h:=Zck (.slice none 0 0) [] x W (Rd.nil W) (by simp) M.1 M.2
   rw[nil_append] at h;exact h
  have aC:Hid (ZjP ⟨kind,l,b,g⟩=(a.uvarint kind.toNat++(a.uvarint (ZeH ⟨0,[],b,g⟩)++a.uvarint l.length))++ZcR l):=by
   refine ZZ ?_;rw[ZxD];unfold ZxC;rw[Zqh];simp only [append_assoc]
  have aS:Hid (∀ k,(ZcR (l.take k)).length<=10*1000):=fun k=>by
   have Q:=Zjp (l.take k) (fun x M=>hi x (List.mem_of_mem_take M))
   have h2:(l.take k).length<=l.length:=by simp;omega
   omega
  have aK:Hid (∀ W N Z O J,N=W.heap.size->Rd W Z (a.uvarint kind.toNat)->Rd W O (a.uvarint (ZeH ⟨0,[],b,g⟩))->Rd W J (a.uvarint l.length)->Calls prog 131 #[.slice (some ⟨N,0,none⟩) 3 3] (W.alloc (.cells #[Z,O,J] 53)) fun e w'=>∃ v',e=.returned v'∧Own w' W.heap.size v' (a.uvarint kind.toNat++(a.uvarint (ZeH ⟨0,[],b,g⟩)++a.uvarint l.length))∧Below W.heap.size W w'):=fun W N Z O J hN F Q h2=>Zxw W N hN Z O J _ _ _ F Q h2 (by omega)
  rw[aC.o]
  have ba:(a.uvarint kind.toNat++(a.uvarint (ZeH ⟨0,[],b,g⟩)++a.uvarint l.length)).length<=30:=by
   simp only [length_append];omega
  clear d hi aC R u1 u2 u3;generalize ZeH ⟨0,[],b,g⟩=m at *;generalize a.uvarint kind.toNat=A at *;generalize a.uvarint m=B at *;generalize a.uvarint l.length=C at *;generalize A++(B++C)=H at *
  go_enter func141,ntmps141
  go_wp2_with fail
  refine(ap.o _ (u.o _)).mono ?_;rintro e W1 ⟨rfl,f⟩;rw[HT.o];have z:Bx W1 w.heap.size _:=(f.block w.heap.size (by simp)).trans (heap_alloc_new w _)
  have ay:=ZZ z;have K:=ZZ ((u.o _).trans (f.mono (u.o _).size));obtain⟨p0,-⟩:=z.cell 0;obtain⟨p1,-⟩:=z.cell 1;obtain⟨p2,-⟩:=z.cell 2;obtain⟨p3,-⟩:=z.cell 3;clear f z;go_wp2
  go_region_held(fun w'=>w'.cell? ⟨w.heap.size,0,none⟩=some (.int .i64 kind)∧w'.cell? ⟨w.heap.size,1,none⟩=some (.slice ao l.length cap)∧w'.cell? ⟨w.heap.size,2,none⟩=some (.bool b)∧w'.cell? ⟨w.heap.size,3,none⟩=some (.int .i64 g)) (go_keep)
   (first
    | (go_at_call_of 132 (Value.int .i64 kind);refine(ax.o _).mono ?_;rintro e W2 ⟨J,rfl,ae,ab⟩;have p:=ay.o.below (((Below.refl _ _).drew).trans ab) zL;have aL:=ZZ p;have ah:=ZZ (K.o.trans ((((Below.refl _ _).drew).trans ab).mono K.o.size));obtain⟨a2,c2,rfl,-⟩:=ae.rd;have ar:=ZZ ae.rd;obtain⟨q0,-⟩:=p.cell 0;obtain⟨q1,-⟩:=p.cell 1;obtain⟨q2,-⟩:=p.cell 2;obtain⟨q3,-⟩:=p.cell 3;clear ae ab p)
    | (go_at_call 190;refine(T.o _).mono ?_;rintro e W3 ⟨rfl,U⟩;have j:=aL.o.below U zL;have aA:=ZZ j;have al:=ZZ (ah.o.trans (U.mono ah.o.size));have aM:=ZZ (ar.o.below U zL);obtain⟨r0,-⟩:=j.cell 0;obtain⟨r1,-⟩:=j.cell 1;obtain⟨r2,-⟩:=j.cell 2;obtain⟨r3,-⟩:=j.cell 3;clear U j)
    | (go_at_call_of 132 (Value.int .i64 (m:Int));refine(am.o _).mono ?_;rintro e W4 ⟨v4,rfl,aj,S⟩;have E:=aA.o.below S zL;have az:=ZZ E;have af:=ZZ (al.o.trans (S.mono al.o.size));have au:=ZZ (aM.o.below S zL);obtain⟨a4,c4,rfl,-⟩:=aj.rd;have aJ:=ZZ aj.rd;obtain⟨s0,-⟩:=E.cell 0;obtain⟨s1,-⟩:=E.cell 1;obtain⟨s2,-⟩:=E.cell 2;obtain⟨s3,-⟩:=E.cell 3;clear aj S E)
    | (go_at_call_of 132 (Value.int .i64 (l.length:Int));refine(ad.o _).mono ?_;rintro e W5 ⟨v5,rfl,ag,G⟩;have q:=az.o.below G zL;have aD:=ZZ q;have Y:=ZZ (af.o.trans (G.mono af.o.size));have aw:=ZZ (au.o.below G zL);have aN:=ZZ (aJ.o.below G zL);obtain⟨a5,c5,rfl,-⟩:=ag.rd;have aF:=ZZ ag.rd;obtain⟨t0,-⟩:=q.cell 0;obtain⟨t1,-⟩:=q.cell 1;obtain⟨t2,-⟩:=q.cell 2;obtain⟨t3,-⟩:=q.cell 3;clear ag G q)
    | (go_at_call 131;refine(aK.o W5 W5.heap.size _ _ _ rfl aw.o aN.o aF.o).mono ?_;rintro e W6 ⟨v6,rfl,aE,an⟩;have t:=aD.o.below an zL;have aY:=ZZ t;have aB:=ZZ (aE.mono Y.o.size);have aQ:=ZZ (Y.o.trans (an.mono Y.o.size));obtain⟨y0,-⟩:=t.cell 0;obtain⟨y1,-⟩:=t.cell 1;obtain⟨y2,-⟩:=t.cell 2;obtain⟨y3,-⟩:=t.cell 3;clear aE an t))
  clear p0 p1 p2 p3 q0 q1 q2 q3 r0 r1 r2 r3 s0 s1 s2 s3 t0 t1 t2 t3 ay aL aA az aD K ah al af Y ar aM au aw aJ aN aF ax am ad T aK ap;go_wp2
  go_loopw[4,25] (fun vo i wr=>∃ k:Nat,i=.int .i64 k∧k<=l.length∧Hid (Own wr w.heap.size vo (H++ZcR (l.take k)))∧Hid (Below w.heap.size w wr)) (fun _ i _=>l.length-(intOf i).toNat)
  case atStart=>exact⟨0,rfl,Nat.zero_le _,by simpa[ZcR] using aB,aQ⟩
  case round=>
   clear y0 y1 y2 y3 aY aB aQ;obtain⟨k,rfl,hk,ak,V⟩:=hrel;by_cases I:k<l.length
   ·rcases aR.o with F | ⟨c,off,rfl,hc⟩
    ·rw[F] at I;simp at I
    have bc:wr.cell? ⟨c,off+k,none⟩=some (.int .i64 (l.getD k 0)):=(V.o.cell (World.block_lt_of_cell? w ⟨c,off+k,none⟩ (hc k I))).trans (hc k I);have aG:Hid (I64 (l.getD k 0)):=ZyH HI.o k;have aT:=ZZ (aW.o (l.getD k 0) aG.o)
    have aX:Hid ((H++ZcR (l.take k)).length+(a.uvarint (a.zigzag (l.getD k 0))).length<=70368744177664):=by
     refine ZZ ?_;have:=aS.o k;have:=ZyG aG.o;rw[length_append];omega
    have T:Hid ((H++ZcR (l.take k))++a.uvarint (a.zigzag (l.getD k 0))=H++ZcR (l.take (k+1))):=by
     refine ZZ ?_;rw[ZuY l k I,append_assoc]
    clear hc;generalize l.getD k 0=y at *;generalize H++ZcR (l.take k)=P at *;generalize a.uvarint (a.zigzag y)=D at *
    go_wp2_with fail
    refine(aT.o _).mono ?_;rintro e W7 ⟨v7,rfl,aH,ac⟩;have a6:=ZZ aH.rd;have a3:=ZZ (ak.o.below ac zL);have aO:=ZZ (V.o.trans (ac.mono V.o.size));have a8:=ZZ aO.o.size;clear aH ac
    go_wp2_with(at_builtin;refine ZaE _ rfl _ _ rfl w.heap.size _ P rfl a3.o _ D rfl a6.o aX.o a8.o ?_)
    intro v8 W8 aq av;rw[T.o] at aq;have a0:=ZZ aq;have aU:=ZZ (aO.o.trans av);clear aq av;go_wp2;go_roundw
    case rel=>exact⟨k+1,by go_num,by omega,a0,aU⟩
    case measure=>simp[intOf];omega
   ·have aP:l.take k=l:=take_of_length_le (by omega)
    rw[aP] at ak;clear aP;go_wp2;go_ret2;exact⟨_,rfl,ak.o.rd,V.o⟩
 ·simp only [if_neg d]
  have HT:=ZZ (decide_eq_false d);clear d
  go_enter func141,ntmps141
  go_wp2_with fail
  refine(ap.o _ (u.o _)).mono ?_;rintro e W1 ⟨rfl,f⟩;rw[HT.o];have K:=ZZ ((u.o _).trans (f.mono (u.o _).size));clear f;go_wp2;go_ret2;exact⟨_,rfl,Rd.nil _,K.o⟩
def ZAU (i n m:Nat):List UInt8:=115::(Lib.uvarint 3++(Lib.uvarint i++(Lib.uvarint n++Lib.leBytes 4 m)))
theorem ZzB (i:Nat) (l:List UInt8):ZAU i l.length (Zaz 0 l)=Ziu i l:=rfl
theorem ZxE (W:World) (N:Nat) (a:N=W.heap.size):Rd (W.alloc (.cells #[.int .u8 115] 5)) (.slice (some ⟨N,0,none⟩) 1 1) [115]:=by
 subst a;refine⟨some ⟨W.heap.size,0,none⟩,1,rfl,Nat.le_refl _,by unfold maxLen;omega,(fun h=>by cases h),.inr ⟨W.heap.size,0,rfl,fun j b=>?_⟩⟩
 have e:j=0:=by simpa using b
 subst e;rw[cell_of_row _ W.heap.size _ _ 5 (0,0) (heap_alloc_new W _)];rfl
theorem ZBQ (W:World) (N:Nat) (a:N=W.heap.size):Rd (W.alloc (.cells #[.int .u8 115] 5)).drew (.slice (some ⟨N,0,none⟩) 1 1) [115]:=
 (ZxE W N a).below (((Below.refl _ _)).drew) zL
theorem ZAV (W:World) (N:Nat) (x:N=W.heap.size) (l g k h i:Value) (f a d b c:List UInt8) (q:Rd W l f) (n:Rd W g a) (w:Rd W k d) (t:Rd W h b) (z:Rd W i c) (A:f.length+a.length+d.length+b.length+c.length<=1000000):
 Calls prog 131 #[.slice (some ⟨N,0,none⟩) 5 5] (W.alloc (.cells #[l,g,k,h,i] 53)) fun e w'=>∃ v',e=.returned v'∧Own w' W.heap.size v' (f++(a++(d++(b++c))))∧Below W.heap.size W w':=by
 have y:=RdL.built W N x #[l,g,k,h,i] [f,a,d,b,c] (by simp) (fun j u=>by
  match j,u with
  | 0,_=>exact⟨l,rfl,q⟩
  | 1,_=>exact⟨g,rfl,n⟩
  | 2,_=>exact⟨k,rfl,w⟩
  | 3,_=>exact⟨h,rfl,t⟩
  | 4,_=>exact⟨i,rfl,z⟩)
 refine(Zgv _ _ _ y (by simp;omega) (by simp)).mono ?_
 rintro e w' ⟨v',rfl,m,v⟩;have p:[f,a,d,b,c].flatten=f++(a++(d++(b++c))):=by simp
 rw[p] at m;exact⟨v',rfl,m.mono (by simp),((Below.refl _ _).alloc zL _).trans (v.mono (by simp))⟩
def Bm (w:World) (b:Nat) (x y z:Value):Prop:=w.heap[b]?=some (.cells #[x,y,z] 147 (0,0))
theorem Bm.lt {w:World} {b:Nat} {x y z:Value} (h:Bm w b x y z):b<w.heap.size:=(Array.getElem?_eq_some_iff.1 h).1
theorem Bm.below {w w':World} {b B:Nat} {x y z:Value} (h:Bm w b x y z) (a:Below B w w') (c:w.heap.size<=B):Bm w' b x y z:=(a.block b (by have:=h.lt;omega)).trans h
theorem Bm.cells {w:World} {b:Nat} {x y z:Value} (h:Bm w b x y z):w.cell? ⟨b,0,none⟩=some x∧w.cell? ⟨b,1,none⟩=some y∧w.cell? ⟨b,2,none⟩=some z:=
 ⟨cell_of_row w b 0 _ _ _ h,cell_of_row w b 1 _ _ _ h,cell_of_row w b 2 _ _ _ h⟩
theorem ZzC (i n:Int) (m:Nat) (w:World) (hi:0<=i∧i<4611686018427387904) (hn:0<=n∧n<4611686018427387904) (hm:m<4294967296):
 Calls prog 101 #[.agg #[.int .i64 i,.int .i64 n,.int .u32 (m:Int)]] w fun e w'=>∃ v',e=.returned v'∧Own w' w.heap.size v' (ZAU i.toNat n.toNat m)∧Below w.heap.size w w':=by
 have U:Hid (∀ k W,0<=k->k<4611686018427387904->Calls prog 132 #[.slice none 0 0,.int .i64 k] W fun e w'=>∃ v',e=.returned v'∧Own w' W.heap.size v' (g.uvarint k.toNat)∧Below W.heap.size W w'):=ZZ (fun k W h0 h1=>by
  have h:=ZeN (.slice none 0 0) [] k W (Rd.nil W) (by simp)
  rw[Zcg h0 h1,nil_append] at h
  exact h)
 have al:=ZZ (fun W=>U.o 3 W (by omega) (by omega))
 have ah:=ZZ (fun W=>U.o i W hi.1 hi.2)
 have ac:=ZZ (fun W=>U.o n W hn.1 hn.2)
 have V:=ZZ (fun W=>ZkO m W hm)
 have q1:(g.uvarint (3:Int).toNat).length<=10:=ZdD (by decide)
 have q2:(g.uvarint i.toNat).length<=10:=ZdD (by omega)
 have q3:(g.uvarint n.toNat).length<=10:=ZdD (by omega)
 have q4:(g.leBytes 4 m).length<=10:=by rw[g.leBytes_length];decide
 have HE:Hid (ZAU i.toNat n.toNat m=[115]++(g.uvarint (3:Int).toNat++(g.uvarint i.toNat++(g.uvarint n.toNat++g.leBytes 4 m)))):=ZZ rfl;rw[HE.o];have an:=ZZ (fun W N v0 v1 v2 v3 v4 hN h0 h1 h2 h3 h4=>ZAV W N hN v0 v1 v2 v3 v4 [115] (g.uvarint (3:Int).toNat) (g.uvarint i.toNat) (g.uvarint n.toNat) (g.leBytes 4 m) h0 h1 h2 h3 h4 (by simp only [length_singleton];omega))
 generalize g.uvarint (3:Int).toNat=L1 at *;generalize g.uvarint i.toNat=L2 at *;generalize g.uvarint n.toNat=L3 at *;generalize g.leBytes 4 m=L4 at *;generalize [115]++(L1++(L2++(L3++L4)))=LL at *;obtain⟨M,hM⟩:∃ M:Int,M=(m:Int):=⟨_,rfl⟩;rw[<-hM] at V ⊢;clear hM HE U q1 q2 q3 q4 hi hn hm;obtain⟨a,T⟩:∃ a,a=w.alloc (.cells #[.int .i64 i,.int .i64 n,.int .u32 M] 147):=⟨_,rfl⟩;have Y:Hid (Below w.heap.size w a):=ZZ (by rw[T];exact(Below.refl _ _).alloc zL _)
 have ap:Hid (Bm a w.heap.size (.int .i64 i) (.int .i64 n) (.int .u32 M)):=ZZ (by rw[T];exact heap_alloc_new w _)
 have p:Hid (∀ W,Below a.heap.size a W->W.cell? ⟨w.heap.size,0,none⟩=some (.int .i64 i)∧W.cell? ⟨w.heap.size,1,none⟩=some (.int .i64 n)∧W.cell? ⟨w.heap.size,2,none⟩=some (.int .u32 M)):=ZZ (fun W h=>(ap.o.below h zL).cells)
 have E:Hid (∀ W X,Below a.heap.size a W->Below a.heap.size a (W.alloc X)):=ZZ (fun W X h=>h.alloc h.size X)
 have ar:Hid (∀ W,Below a.heap.size a W->Below a.heap.size a W.drew):=ZZ (fun W h=>h.drew)
 have ae:Hid (Below a.heap.size a a.drew):=ZZ ((Below.refl _ _).drew);have af:Hid (Below a.heap.size a (a.alloc (.cells #[.int .u8 115] 5)).drew):=ZZ (((Below.refl _ _).alloc zL _).drew)
 go_enter func101,ntmps101
 go_upto_region 1 with fail
 rw[<-T];clear T;have F:Hid (∀ args w,(callFunc 132 args).run prog w=.ok (.enter 132 args) w):=ZZ (enters_of func132 (by kernel_rfl) rfl)
 have ad:Hid (∀ args w,(callFunc 135 args).run prog w=.ok (.enter 135 args) w):=ZZ (enters_of func135 (by kernel_rfl) rfl)
 have ao:Hid (∀ args w,(callFunc 131 args).run prog w=.ok (.enter 131 args) w):=ZZ (enters_of func131 (by kernel_rfl) rfl)
 go_region_held2(fun w'=>w'.cell? ⟨w.heap.size,0,none⟩=some (.int .i64 i)∧w'.cell? ⟨w.heap.size,1,none⟩=some (.int .i64 n)∧w'.cell? ⟨w.heap.size,2,none⟩=some (.int .u32 M))
  (first | (with_reducible exact p.o _ ae.o) | (with_reducible exact p.o _ af.o) | (with_reducible exact p.o _ ag) | (with_reducible exact p.o _ v) | (with_reducible exact p.o _ z) | (with_reducible exact p.o _ y) | (with_reducible exact p.o _ B) | (with_reducible exact p.o _ (E.o _ _ v)) | (with_reducible exact p.o _ (E.o _ _ z)) | (with_reducible exact p.o _ (E.o _ _ y)) | (with_reducible exact p.o _ (E.o _ _ B)) | (with_reducible exact p.o _ (E.o _ _ (E.o _ _ v))))
  (first
   | ((with_reducible refine Zbp 132 _ _ rfl rfl #[.slice none 0 0,.int .i64 3] (by simp[Act.eval]) F.o (al.o a.drew) ?_);rintro v1 l ⟨G,H⟩;have B:Below a.heap.size a l:=ae.o.trans (H.mono ae.o.size);obtain⟨a1,c1,c,-⟩:=G.rd;subst c;have ab:=ZZ G.rd;clear G H)
   | ((with_reducible refine Zbp 132 _ _ rfl rfl #[.slice none 0 0,.int .i64 3] (by simp[Act.eval]) F.o (al.o (a.alloc (.cells #[.int .u8 115] 5)).drew) ?_);rintro v1 l ⟨G,H⟩;have B:Below a.heap.size a l:=af.o.trans (H.mono af.o.size);have aq:=ZZ ((ZBQ a _ rfl).below H zL);obtain⟨a1,c1,c,-⟩:=G.rd;subst c;have ab:=ZZ G.rd;clear G H)
   | (have t:=aq.o;(with_reducible refine Zbp 132 _ _ rfl rfl #[.slice none 0 0,.int .i64 i] (by simp[Act.eval]) F.o (ah.o l) ?_);rintro v2 d ⟨q,A⟩;have b:Below l.heap.size l d:=A;have y:Below a.heap.size a d:=B.trans (b.mono B.size);have ai:=ZZ (t.below b zL);clear t;have Q:=ZZ (ab.o.below b zL);clear b;obtain⟨a2,c2,c,-⟩:=q.rd;subst c;have I:=ZZ q.rd;clear q A)
   | ((with_reducible refine Zbp 132 _ _ rfl rfl #[.slice none 0 0,.int .i64 i] (by simp[Act.eval]) F.o (ah.o l) ?_);rintro v2 d ⟨q,A⟩;have b:Below l.heap.size l d:=A;have y:Below a.heap.size a d:=B.trans (b.mono B.size);have Q:=ZZ (ab.o.below b zL);clear b;obtain⟨a2,c2,c,-⟩:=q.rd;subst c;have I:=ZZ q.rd;clear q A)
   | ((with_reducible refine Zbp 132 _ _ rfl rfl #[.slice none 0 0,.int .i64 i] (by simp[Act.eval]) F.o (ah.o (l.alloc (.cells #[.int .u8 115] 5))) ?_);rintro v2 d ⟨q,A⟩;have b:Below l.heap.size l d:=((Below.refl _ _).alloc zL _).trans (A.mono (by simp));have y:Below a.heap.size a d:=B.trans (b.mono B.size);have ai:=ZZ ((ZxE l _ rfl).below A zL);have Q:=ZZ (ab.o.below b zL);clear b;obtain⟨a2,c2,c,-⟩:=q.rd;subst c;have I:=ZZ q.rd;clear q A)
   | (have t:=ai.o;(with_reducible refine Zbp 132 _ _ rfl rfl #[.slice none 0 0,.int .i64 n] (by simp[Act.eval]) F.o (ac.o d) ?_);rintro v3 f ⟨x,D⟩;have b:Below d.heap.size d f:=D;have z:Below a.heap.size a f:=y.trans (b.mono y.size);have ak:=ZZ (t.below b zL);clear t;have L:=ZZ (Q.o.below b zL);have O:=ZZ (I.o.below b zL);clear b;obtain⟨a3,c3,c,-⟩:=x.rd;subst c;have K:=ZZ x.rd;clear x D)
   | ((with_reducible refine Zbp 132 _ _ rfl rfl #[.slice none 0 0,.int .i64 n] (by simp[Act.eval]) F.o (ac.o d) ?_);rintro v3 f ⟨x,D⟩;have b:Below d.heap.size d f:=D;have z:Below a.heap.size a f:=y.trans (b.mono y.size);have L:=ZZ (Q.o.below b zL);have O:=ZZ (I.o.below b zL);clear b;obtain⟨a3,c3,c,-⟩:=x.rd;subst c;have K:=ZZ x.rd;clear x D)
   | ((with_reducible refine Zbp 132 _ _ rfl rfl #[.slice none 0 0,.int .i64 n] (by simp[Act.eval]) F.o (ac.o (d.alloc (.cells #[.int .u8 115] 5))) ?_);rintro v3 f ⟨x,D⟩;have b:Below d.heap.size d f:=((Below.refl _ _).alloc zL _).trans (D.mono (by simp));have z:Below a.heap.size a f:=y.trans (b.mono y.size);have ak:=ZZ ((ZxE d _ rfl).below D zL);have L:=ZZ (Q.o.below b zL);have O:=ZZ (I.o.below b zL);clear b;obtain⟨a3,c3,c,-⟩:=x.rd;subst c;have K:=ZZ x.rd;clear x D)
   | (have t:=ak.o;(with_reducible refine Zbp 135 _ _ rfl rfl #[.int .u32 M] (by simp[Act.eval]) ad.o (V.o f) ?_);rintro v4 j ⟨u,C⟩;have b:Below f.heap.size f j:=C;have v:Below a.heap.size a j:=z.trans (b.mono z.size);have aj:=ZZ (t.below b zL);clear t;have R:=ZZ (L.o.below b zL);have aa:=ZZ (O.o.below b zL);have S:=ZZ (K.o.below b zL);clear b;obtain⟨a4,c4,c,-⟩:=u.rd;subst c;have Z:=ZZ u.rd;clear u C)
   | ((with_reducible refine Zbp 135 _ _ rfl rfl #[.int .u32 M] (by simp[Act.eval]) ad.o (V.o f) ?_);rintro v4 j ⟨u,C⟩;have b:Below f.heap.size f j:=C;have v:Below a.heap.size a j:=z.trans (b.mono z.size);have R:=ZZ (L.o.below b zL);have aa:=ZZ (O.o.below b zL);have S:=ZZ (K.o.below b zL);clear b;obtain⟨a4,c4,c,-⟩:=u.rd;subst c;have Z:=ZZ u.rd;clear u C)
   | ((with_reducible refine Zbp 135 _ _ rfl rfl #[.int .u32 M] (by simp[Act.eval]) ad.o (V.o (f.alloc (.cells #[.int .u8 115] 5))) ?_);rintro v4 j ⟨u,C⟩;have b:Below f.heap.size f j:=((Below.refl _ _).alloc zL _).trans (C.mono (by simp));have v:Below a.heap.size a j:=z.trans (b.mono z.size);have aj:=ZZ ((ZxE f _ rfl).below C zL);have R:=ZZ (L.o.below b zL);have aa:=ZZ (O.o.below b zL);have S:=ZZ (K.o.below b zL);clear b;obtain⟨a4,c4,c,-⟩:=u.rd;subst c;have Z:=ZZ u.rd;clear u C)
   | (have t:=aj.o;(with_reducible refine Zbp 131 _ _ rfl rfl #[.slice (some ⟨j.heap.size,0,none⟩) 5 5] (by simp[Act.eval]) ao.o (an.o j j.heap.size _ _ _ _ _ rfl t R.o aa.o S.o Z.o) ?_);rintro v5 W5 ⟨J,P⟩;have ag:Below a.heap.size a W5:=v.trans (P.mono v.size);have am:=ZZ (J.mono (Nat.le_trans Y.o.size v.size));clear J P t)
   | (refine Zbp 131 _ _ rfl rfl #[.slice (some ⟨j.heap.size+1,0,none⟩) 5 5] (by simp[Act.eval]) ao.o (an.o (j.alloc (.cells #[.int .u8 115] 5)) (j.heap.size+1) _ _ _ _ _ (by simp) (ZxE j _ rfl) (R.o.below ((Below.refl _ _).alloc zL _) zL) (aa.o.below ((Below.refl _ _).alloc zL _) zL) (S.o.below ((Below.refl _ _).alloc zL _) zL) (Z.o.below ((Below.refl _ _).alloc zL _) zL)) ?_;rintro v5 W5 ⟨J,P⟩;have ag:Below a.heap.size a W5:=(E.o _ _ v).trans (P.mono (E.o _ _ v).size);have am:=ZZ (J.mono (Nat.le_trans Y.o.size (E.o _ _ v).size));clear J P))
 all_goals
  go_wp2;go_ret;exact⟨_,rfl,am.o,Y.o.trans (ag.mono Y.o.size)⟩
theorem Zsa (t:List Ent) (q:Nat) (a:q<t.length):Zcs (t.take (q+1))=Zcs (t.take q)++ZyS (t.getD q ZaP):=by
 have b:t.take (q+1)=t.take q++[t.getD q ZaP]:=by
  rw[take_add_one,List.getElem?_eq_getElem a];simp[List.getD,a]
 rw[b];unfold Zcs;rw[List.flatMap_append];simp
theorem Zov (t:List Ent) (q:Nat):(Zcs (t.take q)).length<=(Zcs t).length:=by
 have h:Zcs t=Zcs (t.take q)++Zcs (t.drop q):=by
  unfold Zcs;rw[<-List.flatMap_append,List.take_append_drop]
 rw[h,length_append];omega
theorem Zsb (v:Value) (s:ZaW) (w:World) (hs:SnV w v s) (m:ZgA s):
 Calls prog 99 #[v] w fun e w'=>∃ v',e=.returned v'∧Own w' w.heap.size v' (Zbc s)∧Below w.heap.size w w':=by
 obtain⟨vl,vt,rfl,hl,A,E,ht,hi⟩:=hs;have aZ:=Zkr m.2.1;have bd:=Zpm m.2.2;have ak:=Zfa m;have a0:=Zwy m.2.1;have S:=ZZ (fun W (h:Below w.heap.size w W)=>Zlw (.agg #[.int .i64 s.st.kind,vl,.bool s.st.shut,.int .i64 s.st.eng]) s.st W ⟨vl,rfl,hl.below h zL,A,E⟩ (by omega))
 unfold ZCr at S;rw[if_pos m.2.1,if_pos m.2.1] at S;have aO:Hid (∀ q,q<s.tab.length->Zfo (s.tab.getD q ZaP)):=ZZ (fun q Q=>(m.2.2 q Q).1)
 have B:Hid (∀ d l k W,Rd W d l->l.length<=10000->0<=k->k<4611686018427387904->Calls prog 132 #[d,.int .i64 k] W fun e w'=>∃ v',e=.returned v'∧Own w' W.heap.size v' (l++b.uvarint k.toNat)∧Below W.heap.size W w'):=ZZ (fun d l k W h hl z t=>by
  have h:=ZeN d l k W h (by omega)
  rw[Zcg z t] at h
  exact h)
 have aL:Hid (∀ d l k W,Rd W d l->l.length<=10000->I64 k->Calls prog 142 #[d,.int .i64 k] W fun e w'=>∃ v',e=.returned v'∧Own w' W.heap.size v' (l++b.uvarint (b.zigzag k))∧Below W.heap.size W w'):=ZZ (fun d l k W h hl A=>Zck d l k W h (by omega) A.1 A.2)
 have aP:Hid (∀ q,q<s.tab.length->Zcs (s.tab.take (q+1))=Zcs (s.tab.take q)++ZyS (s.tab.getD q ZaP)):=ZZ (fun q Q=>Zsa _ q Q)
 have aH:Hid (∀ q,(Zcs (s.tab.take q)).length<=(Zcs s.tab).length):=ZZ (fun q=>Zov _ q)
 have HW:Hid (Zbc s=(b.uvarint (ZjP s.st).length++(ZjP s.st++b.uvarint s.tab.length))++Zcs s.tab):=ZZ (by
  unfold Zbc ZBA
  simp only [append_assoc])
 have aQ:Hid ((b.uvarint (ZjP s.st).length++(ZjP s.st++b.uvarint s.tab.length)).length+(Zcs s.tab).length<=5000):=ZZ (by
  rw[HW.o,length_append] at ak
  exact ak)
 rw[HW.o];have u1:(b.uvarint (ZjP s.st).length).length<=10:=ZdD (by omega)
 have u3:(b.uvarint s.tab.length).length<=10:=ZdD (by omega)
 have aG:Hid (∀ W,Calls prog 132 #[.slice none 0 0,.int .i64 ((ZjP s.st).length:Int)] W fun e w'=>∃ v',e=.returned v'∧Own w' W.heap.size v' (b.uvarint (ZjP s.st).length)∧Below W.heap.size W w'):=ZZ (fun W=>by
  have h:=B.o (.slice none 0 0) [] ((ZjP s.st).length:Int) W (Rd.nil W) (by simp) (by omega) (by omega)
  rw[nil_append,Int.toNat_natCast] at h
  exact h)
 have I:Hid (∀ W,Calls prog 132 #[.slice none 0 0,.int .i64 (s.tab.length:Int)] W fun e w'=>∃ v',e=.returned v'∧Own w' W.heap.size v' (b.uvarint s.tab.length)∧Below W.heap.size W w'):=ZZ (fun W=>by
  have h:=B.o (.slice none 0 0) [] (s.tab.length:Int) W (Rd.nil W) (by simp) (by omega) (by omega)
  rw[nil_append,Int.toNat_natCast] at h
  exact h)
 have aS:Hid (∀ W N v0 d F,N=W.heap.size->Rd W v0 (b.uvarint (ZjP s.st).length)->Rd W d (ZjP s.st)->Rd W F (b.uvarint s.tab.length)->Calls prog 131 #[.slice (some ⟨N,0,none⟩) 3 3] (W.alloc (.cells #[v0,d,F] 53)) fun e w'=>∃ v',e=.returned v'∧Own w' W.heap.size v' (b.uvarint (ZjP s.st).length++(ZjP s.st++b.uvarint s.tab.length))∧Below W.heap.size W w'):=ZZ (fun W N v0 d F hN z t h2=>Zxw W N hN v0 d F _ _ _ z t h2 (by omega))
 obtain⟨ta,Y,bc,-,-,-,-,aI⟩:=ht;subst bc;have aC:=ZZ aI;obtain⟨la,lc,bl,-⟩:=hl;subst bl;obtain⟨idx,⟨kind,L,T,Z⟩,f⟩:=s
 dsimp only at *
 clear A E hi m aZ ak a0 u1 u3 HW aI;have bt:(f.length:Int)<=65:=by omega
 clear bd;generalize ZjP ⟨kind,L,T,Z⟩=ES at *;generalize b.uvarint ES.length=U1 at *;generalize b.uvarint f.length=U3 at *;generalize U1++(ES++U3)=H at *;obtain⟨V,U⟩:∃ V,V=w.alloc (.cells #[.int .i64 idx,.int .i64 kind,.slice la L.length lc,.bool T,.int .i64 Z,.slice ta f.length Y] 41):=⟨_,rfl⟩;have ad:Hid (Below w.heap.size w V):=ZZ (by rw[U];exact(Below.refl _ _).alloc zL _)
 have u:Hid (Bn V w.heap.size #[.int .i64 idx,.int .i64 kind,.slice la L.length lc,.bool T,.int .i64 Z,.slice ta f.length Y]):=ZZ (by rw[U];exact heap_alloc_new w _)
 obtain⟨p1,-⟩:=u.o.cell 1;obtain⟨p2,-⟩:=u.o.cell 2;obtain⟨p3,-⟩:=u.o.cell 3;obtain⟨p4,-⟩:=u.o.cell 4
 go_enter func99,ntmps99
 go_upto_region 1 with fail
 rw[<-U];clear U
 go_wp2_with fail
 refine(S.o _ ad.o).mono ?_;rintro e W1 ⟨d,rfl,aN,af⟩;have ai:=ZZ (u.o.below af zL);have ax:=ZZ (ad.o.trans (af.mono ad.o.size));have aF:=ZZ aN;obtain⟨a1,K,bh,-⟩:=aN;subst bh;obtain⟨q5,-⟩:=ai.o.cell 5;clear af S u ad p1 p2 p3 p4
 go_upto_region 2 with fail
 go_cut[5] (fun vo J=>Hid (Own J w.heap.size vo H)∧Hid (Bn J w.heap.size #[.int .i64 idx,.int .i64 kind,.slice la L.length lc,.bool T,.int .i64 Z,.slice ta f.length Y])∧Hid (Below w.heap.size w J))
 case first=>
  go_region_held(fun w'=>w'.cell? ⟨w.heap.size,5,none⟩=some (.slice ta f.length Y)) (go_keep)
   (first
    | (go_at_call_of 132 (Value.int .i64 (ES.length:Int));refine(aG.o _).mono ?_;rintro e W2 ⟨F,rfl,ah,aA⟩;have O:Below W1.heap.size W1 W2:=((Below.refl _ _).drew).trans aA;have ar:=ai.o.below O zL;have bo:=ZZ ar;have aJ:=ZZ (ax.o.trans (O.mono ax.o.size));have bf:=ZZ (aF.o.below O zL);obtain⟨a2,R,rfl,-⟩:=ah.rd;have aX:=ZZ ah.rd;obtain⟨r5,-⟩:=ar.cell 5;clear ah aA ar O)
    | (go_at_call_of 132 (Value.int .i64 (f.length:Int));refine(I.o _).mono ?_;rintro e W3 ⟨v3,rfl,ay,D⟩;have am:=bo.o.below D zL;have a5:=ZZ am;have au:=ZZ (aJ.o.trans (D.mono aJ.o.size));have bp:=ZZ (bf.o.below D zL);have bq:=ZZ (aX.o.below D zL);obtain⟨a3,c3,rfl,-⟩:=ay.rd;have bb:=ZZ ay.rd;obtain⟨s5,-⟩:=am.cell 5;clear ay D am)
    | (go_at_call 131;refine(aS.o W3 W3.heap.size _ _ _ rfl bq.o bp.o bb.o).mono ?_;rintro e W4 ⟨v4,rfl,aR,al⟩;have aw:=a5.o.below al zL;have a4:=ZZ aw;have ba:=ZZ (au.o.trans (al.mono au.o.size));have bm:=ZZ (aR.mono au.o.size);obtain⟨t5,-⟩:=aw.cell 5;clear aR al aw))
  all_goals
   go_wp2_with fail
   go_meet
   exact⟨bm,a4,ba⟩
 case rest=>
  obtain⟨WC,rfl⟩:∃ W,W=J:=⟨_,rfl⟩;obtain⟨HO,HX,HB⟩:=hcut;obtain⟨bj,-⟩:=HX.o.cell 5;clear ai ax aF q5 aG I aS;go_wp2
  go_loopw[5,27] (fun vo vi j=>∃ q:Nat,vi=.int .i64 (q:Int)∧q<=f.length∧Hid (Own j w.heap.size vo (H++Zcs (f.take q)))∧Hid (Below w.heap.size w j)) (fun _ vi _=>f.length-(intOf vi).toNat)
  case atStart=>exact⟨0,rfl,Nat.zero_le _,by simpa[Zcs] using HO,HB⟩
  case round=>
   clear HO HX HB bj;obtain⟨q,rfl,Q,hO,G⟩:=hrel;by_cases x:q<f.length
   case neg=>
    obtain rfl:q=f.length:=by omega
    rw[take_length] at hO;go_wp2;go_ret;exact⟨_,rfl,hO.o,G.o⟩
   have bu:(q:Int)<(f.length:Int):=by omega
   rcases aC.o with z | ⟨c,off,rfl,hc⟩
   ·rw[z] at x;simp at x
   obtain⟨c0,K,R⟩:=(hc q x).keep (G.o.block c (hc q x).lt);have ao:=ZZ (aO.o q x);have ab:=ZZ (aP.o q x)
   have X:Hid ((H++Zcs (f.take q)).length<=5000):=ZZ (by
    have t:=aH.o q;have h2:=aQ.o;rw[length_append]
    omega)
   obtain⟨e,E⟩:∃ e,e=f.getD q ZaP:=⟨_,rfl⟩;rw[<-E] at c0 K R ao ab;clear E hc aO aP aH aC aQ;obtain⟨g,i,p⟩:=e;have aE:Hid (ZyS ⟨g,i,p⟩=b.uvarint g.toNat++(b.uvarint i.toNat++b.uvarint (b.zigzag p))):=ZZ rfl;rw[aE.o,<-append_assoc] at ab
   have aU:Hid (H++Zcs (f.take (q+1))=(((H++Zcs (f.take q))++b.uvarint g.toNat)++b.uvarint i.toNat)++b.uvarint (b.zigzag p)):=ZZ (by
    rw[ab.o]
    simp only [append_assoc])
   have n:Hid ((0<=g∧g<4611686018427387904)∧(0<=i∧i<4611686018427387904)∧I64 p):=ZZ (by
    obtain⟨t,h2,h3,h4,h5,h6⟩:=ao.o
    dsimp only at t h2 h3 h4 h5 h6
    exact⟨⟨t,by omega⟩,⟨h3,h4⟩,⟨by omega,by omega⟩⟩)
   have u1:(b.uvarint g.toNat).length<=10:=ZdD (by have:=n.o;omega)
   have u2:(b.uvarint i.toNat).length<=10:=ZdD (by have:=n.o;omega)
   dsimp only at c0 K R
   generalize H++Zcs (f.take q)=P at *;have aY:=ZZ (fun d W h=>B.o d P g W h (by have:=X.o;omega) n.o.1.1 n.o.1.2)
   have be:=ZZ (fun d W h=>B.o d (P++b.uvarint g.toNat) i W h (by have:=X.o;rw[length_append];omega) n.o.2.1.1 n.o.2.1.2)
   have aj:=ZZ (fun d W h=>aL.o d ((P++b.uvarint g.toNat)++b.uvarint i.toNat) p W h (by have:=X.o;rw[length_append,length_append];omega) n.o.2.2)
   rw[<-aU.o] at aj;clear B aL ab aE aU X u1 u2 n ao;generalize P++b.uvarint g.toNat=P1 at *;generalize P1++b.uvarint i.toNat=P2 at *;obtain⟨P3,ap⟩:∃ P3,P3=H++Zcs (f.take (q+1)):=⟨_,rfl⟩;rw[<-ap] at aj;have I:=ZZ ap;clear ap
   go_upto_region 6 with fail
   obtain⟨y,M⟩:∃ y,y=j.alloc (.cells #[.int .i64 g,.int .i64 i,.int .i64 p] 85):=⟨_,rfl⟩;have av:Hid (Below j.heap.size j y):=ZZ (by rw[M];exact(Below.refl _ _).alloc zL _)
   have aa:Hid (Be y j.heap.size #[.int .i64 g,.int .i64 i,.int .i64 p]):=ZZ (by rw[M];exact heap_alloc_new j _)
   rw[<-M];clear M c0 K R;obtain⟨QB,aK⟩:∃ QB,QB=j.heap.size:=⟨_,rfl⟩;rw[<-aK] at aa ⊢;clear aK;have aB:=ZZ (hO.o.rd.below av.o zL);have aM:=ZZ (G.o.trans (av.o.mono G.o.size));obtain⟨va,vc,bi⟩:∃ a c,u5=.slice a P.length c:=by obtain⟨a,c,h,-⟩:=aB.o;exact⟨a,c,h⟩
   subst bi;obtain⟨x0,-⟩:=aa.o.cell 0;obtain⟨x1,-⟩:=aa.o.cell 1;clear hO G av
   go_region_held(fun w'=>w'.cell? ⟨QB,0,none⟩=some (.int .i64 g)∧w'.cell? ⟨QB,1,none⟩=some (.int .i64 i)) (go_keep)
    (first
     | (go_at_call_of 132 (Value.int .i64 g);refine(aY.o _ _ (aB.o.below ((Below.refl _ _).drew) zL)).mono ?_;rintro e W6 ⟨v6,rfl,an,aT⟩;have ag:Below y.heap.size y W6:=((Below.refl _ _).drew).trans aT;have ac:=aa.o.below ag zL;have bk:=ZZ ac;have aV:=ZZ (aM.o.trans (ag.mono aM.o.size));obtain⟨a6,c6,rfl,-⟩:=an.rd;have a8:=ZZ an.rd;obtain⟨y0,-⟩:=ac.cell 0;obtain⟨y1,-⟩:=ac.cell 1;clear an aT ac ag)
     | (go_at_call_of 132 (Value.int .i64 i);refine(be.o _ _ a8.o).mono ?_;rintro e W7 ⟨v7,rfl,aq,ae⟩;have C:=bk.o.below ae zL;have br:=ZZ C;have az:=ZZ (aV.o.trans (ae.mono aV.o.size));obtain⟨a7,c7,rfl,-⟩:=aq.rd;have bn:=ZZ aq.rd;obtain⟨z0,-⟩:=C.cell 0;obtain⟨z1,-⟩:=C.cell 1;obtain⟨z2,-⟩:=C.cell 2;clear aq ae C))
   all_goals
    go_wp2_with fail
    refine(aj.o _ _ bn.o).mono ?_;rintro e W8 ⟨v8,rfl,aW,aD⟩;have a9:=ZZ (az.o.trans (aD.mono az.o.size));have bg:=ZZ (aW.mono az.o.size);clear aW aD;go_wp2;go_roundw
    case rel=>exact⟨q+1,by go_num,by omega,ZZ (by rw[<-I.o];exact bg.o),a9⟩
    case measure=>simp[intOf];omega
theorem ZxF (F:Value) (a:St) (E:Value) (b:St) (w:World) (I:StV w F a) (L:StV w E b):
 Calls prog 45 #[F,E] w fun e w'=>e=.returned (.bool (decide (ZoY a b)))∧Below w.heap.size w w':=by
 obtain⟨D,rfl,A,-,-⟩:=I;obtain⟨C,rfl,u,-,-⟩:=L;obtain⟨k,t,n,p⟩:=a;obtain⟨j,z,q,l⟩:=b;simp only at A u ⊢;have O:Hid (∀ W,Below w.heap.size w W->Calls prog 89 #[D,C] W fun e w'=>e=.returned (.bool (decide (t=z)))∧Below W.heap.size W w'):=fun W h=>ZuG D t C z W (A.below h zL) (u.below h zL)
 have d:Hid (∀ x y,Below w.heap.size w ((w.alloc x).alloc y)):=fun x y=>((Below.refl _ _).alloc zL x).alloc (by simp) y
 obtain⟨R,v⟩:∃ R,R=decide (ZoY ⟨k,t,n,p⟩ ⟨j,z,q,l⟩):=⟨_,rfl⟩;rw[<-v];have m:=Zac v;clear v A u;by_cases c:k=j
 ·have P:(k == j)=true:=beq_iff_eq.2 c
  have G:=Zac c;clear c;by_cases g:n=q
  ·have M:(n == q)=true:=beq_iff_eq.2 g
   have J:=Zac g;clear g;by_cases f:p=l
   ·have N:(p == l)=true:=beq_iff_eq.2 f
    have H:=Zac f;clear f
    go_enter func45,ntmps45
    go_wp2_with fail
    refine(O.o _ (d.o _ _)).mono ?_;rintro e Q ⟨rfl,B⟩;have K:=Zac ((d.o _ _).trans (B.mono (d.o _ _).size));clear B;go_wp2;go_ret;refine⟨ZbZ ?_,K.o⟩;rw[m.o];exact decide_eq_decide.2 ⟨fun h=>⟨G.o,J.o,H.o,h⟩,fun h=>h.2.2.2⟩
   ·have N:(p == l)=false:=beq_eq_false_iff_ne.2 f
    have i:Hid (R=false):=m.o.trans (decide_eq_false fun h=>f h.2.2.1)
    clear f
    go_enter func45,ntmps45
    go_wp2;go_ret;exact⟨ZbZ i.o.symm,d.o _ _⟩
  ·have M:(n == q)=false:=beq_eq_false_iff_ne.2 g
   have i:Hid (R=false):=m.o.trans (decide_eq_false fun h=>g h.2.1)
   clear g
   go_enter func45,ntmps45
   go_wp2;go_ret;exact⟨ZbZ i.o.symm,d.o _ _⟩
 ·have P:(k == j)=false:=beq_eq_false_iff_ne.2 c
  have i:Hid (R=false):=m.o.trans (decide_eq_false fun h=>c h.1)
  clear c
  go_enter func45,ntmps45
  go_wp2;go_ret;exact⟨ZbZ i.o.symm,d.o _ _⟩
theorem Zqi (e:Ent) (w:World):
 Calls prog 189 #[ZuC e] w fun x w'=>x=.returned (.bool (decide (Zfo e)))∧Below w.heap.size w w':=by
 have b:=ZZ (fun W=>ZkY ⟨0,e.proc,e.seq,⟨0,0,0⟩,e.resp⟩ W)
 have c:decide (ZaA ⟨0,e.proc,e.seq,⟨0,0,0⟩,e.resp⟩)=decide (Zfo e):=decide_eq_decide.2 (ZwS e);rw[c] at b;clear c;generalize decide (Zfo e)=D at *;obtain⟨p,s,r⟩:=e;unfold ZuC ZuH at *
 dsimp only at *
 have a:Hid (∀ X,Below w.heap.size w (w.alloc X)):=fun X=>(Below.refl _ _).alloc zL X
 go_enter func189,ntmps189
 go_wp2_with fail
 refine(b.o _).mono ?_;rintro x g ⟨rfl,d⟩;have f:=ZZ ((a.o _).trans (d.mono (a.o _).size));clear d;go_wp2;go_ret;exact⟨rfl,f.o⟩
theorem Zqj (v:Value) (t:List Ent) (w:World) (hr:RdE w v t):
 Calls prog 140 #[v] w fun x w'=>x=.returned (.bool (decide (ZhB t)))∧Below w.heap.size w w':=by
 obtain⟨va,vc,rfl,ae,Q,-,hw,N⟩:=hr;have C:=ZZ N;have aj:(t.length:Int)<=9223372036854775807:=by unfold maxLen at Q;omega
 obtain⟨D,m⟩:∃ D,D=decide (ZhB t):=⟨_,rfl⟩;rw[<-m];have R:Hid (Zdz t t.length->D=true):=ZZ (fun h=>by rw[m];exact decide_eq_true h)
 have L:Hid (∀ k,k<t.length->¬ Zdz t (k+1)->D=false):=ZZ (fun k G h=>by rw[m];exact decide_eq_false (fun B=>h (Zdz.mono B G)))
 have J:=ZZ (fun e W=>Zqi e W)
 have H:Hid (ZkQ t 0=0):=ZZ rfl;have I:Hid (∀ k,ZkQ t (k+1)=(t.getD k ZaP).proc+1):=ZZ (fun k=>rfl)
 have K:Hid (∀ k,Zdz t (k+1)↔Zdz t k∧Zfo (t.getD k ZaP)∧ZkQ t k<=(t.getD k ZaP).proc):=ZZ (fun k=>Zrz)
 clear m Q ae N hw
 go_enter func140,ntmps140
 go_wp2
 go_loopw[3,8] (fun vl u g=>∃ (k:Nat) (f:Int),u=.int .i64 (k:Int)∧vl=.int .i64 f∧k<=t.length∧Hid (f=ZkQ t k)∧Hid (Zdz t k)∧Hid (Below w.heap.size w g)) (fun _ u _=>t.length-(intOf u).toNat)
 case atStart=>exact⟨0,0,rfl,rfl,Nat.zero_le _,ZZ H.o.symm,ZZ (Zdz.zero t),Below.refl _ _⟩
 case round=>
  obtain⟨k,f,rfl,rfl,G,ab,O,n⟩:=hrel;by_cases i:k<t.length
  case neg=>
   obtain rfl:k=t.length:=by omega
   have S:=ZZ (R.o O.o);go_wp2;go_ret;rw[S.o];exact⟨rfl,n.o⟩
  have ag:(k:Int)<(t.length:Int):=by omega
  rcases C.o with h0 | ⟨c,off,rfl,hc⟩
  ·rw[h0] at i;simp at i
  obtain⟨c0,T,U⟩:=(hc k i).keep (n.o.block c (hc k i).lt);have b:=ZZ (K.o k);have l:=ZZ (L.o k i);have E:=ZZ (I.o k);have d:=ZZ (fun W=>J.o (t.getD k ZaP) W)
  rw[<-ab.o] at b;obtain⟨e,M⟩:∃ e,e=t.getD k ZaP:=⟨_,rfl⟩;rw[<-M] at c0 T U b E d;clear M hc J K L R I H C;obtain⟨a,z⟩:∃ a,a=decide (Zfo e):=⟨_,rfl⟩;rw[<-z] at d;have j:=ZZ z;have y:Hid (∀ X,Below w.heap.size w (g.alloc X)):=ZZ (fun X=>n.o.alloc n.o.size X)
  have HX:Hid (∀ cs,Be (g.alloc (.cells cs 85)) g.heap.size cs):=ZZ (fun cs=>heap_alloc_new g _)
  clear z;unfold ZuC at d
  have af:Hid (a=true->0<=e.proc∧e.proc<=64):=ZZ (fun h=>by
   have:Zfo e:=of_decide_eq_true (j.o.symm.trans h)
   exact⟨this.1,this.2.1⟩)
  by_cases ah:e.proc<f
  ·have A:=ZZ (l.o (fun h=>by have:=(b.o.1 h).2.2;omega))
   obtain⟨p,s,r⟩:=e
   dsimp only at *
   clear b l d j;go_wp2;go_ret;rw[A.o];exact⟨rfl,y.o _⟩
  ·have ad:f<=e.proc:=by omega
   have V:Hid (a=true->Zdz t (k+1)):=ZZ (fun h=>b.o.2 ⟨O.o,of_decide_eq_true (j.o.symm.trans h),ad⟩)
   have ac:Hid (a=false->D=false):=ZZ (fun h=>l.o (fun B=>by
    have Z:=(b.o.1 B).2.1;have F:a=true:=j.o.trans (decide_eq_true Z);rw[h] at F
    cases F))
   obtain⟨p,s,r⟩:=e
   dsimp only at *
   clear b l j
   go_wp2_with fail
   refine(d.o _).mono ?_;rintro x W1 ⟨rfl,q⟩;have P:=ZZ ((y.o _).trans (q.mono (y.o _).size));have Y:=ZZ ((HX.o _).below q zL);obtain⟨q0,f0⟩:=Y.o.cell 0;clear q d
   cases a with
   | false=>
    have A:=ZZ (ac.o rfl);go_wp2;go_ret;rw[A.o];exact⟨rfl,P.o⟩
   | true=>
    obtain⟨ak,ai⟩:=af.o rfl;have aa:=ZZ (V.o rfl);go_wp2;go_roundw
    case rel=>exact⟨k+1,p+1,by go_num,by go_num,by omega,ZZ E.o.symm,aa,P⟩
    case measure=>simp[intOf];omega
theorem Ztx (v:Value) (s:ZaW) (w:World) (I:SnV w v s):
 Calls prog 98 #[v] w fun e w'=>e=.returned (.bool (decide (ZgA s)))∧Below w.heap.size w w':=by
 obtain⟨G,J,rfl,C,F,E,q,K⟩:=I;have a:Hid (∀ X,Below w.heap.size w (w.alloc X)):=fun X=>(Below.refl _ _).alloc zL X
 have P:Hid (∀ cs,Bn (w.alloc (.cells cs 41)) w.heap.size cs):=ZZ (fun cs=>heap_alloc_new w _)
 have k:=ZZ (fun W (h:Below w.heap.size w W)=>Zol (.agg #[.int .i64 s.st.kind,G,.bool s.st.shut,.int .i64 s.st.eng]) s.st W ⟨G,rfl,C.below h zL,F,E⟩)
 have j:=ZZ (fun W (h:Below w.heap.size w W)=>Zqj J s.tab W (q.below h zL))
 obtain⟨la,lc,O,-⟩:=C;obtain⟨ta,Y,N⟩:=q.shape;subst O N;clear q;obtain⟨D,f⟩:∃ D,D=decide (ZgA s):=⟨_,rfl⟩;rw[<-f];have b:Hid (D=decide (ZgA s)):=ZZ f;have c:Hid (ZgA s↔(0<=s.idx∧s.idx<4611686018427387904)∧ZcD s.st∧ZhB s.tab):=ZZ Iff.rfl;obtain⟨m,i⟩:∃ m,m=decide (ZcD s.st):=⟨_,rfl⟩;obtain⟨n,l⟩:∃ n,n=decide (ZhB s.tab):=⟨_,rfl⟩;rw[<-i] at k;rw[<-l] at j;have z:=ZZ i;have B:=ZZ l;clear f i l F E K;obtain⟨idx,⟨kind,L,T,Z⟩,Q⟩:=s
 dsimp only at *
 by_cases y:0<=idx
 case neg=>
  have p:Hid (D=false):=ZZ (by rw[b.o];exact decide_eq_false (fun h=>y (c.o.1 h).1.1))
  go_enter func98,ntmps98
  go_wp2;go_ret;rw[p.o];exact⟨rfl,a.o _⟩
 by_cases u:idx<4611686018427387904
 case neg=>
  have p:Hid (D=false):=ZZ (by rw[b.o];exact decide_eq_false (fun h=>u (c.o.1 h).1.2))
  go_enter func98,ntmps98
  go_wp2;go_ret;rw[p.o];exact⟨rfl,a.o _⟩
 have A:Hid (D=(m && n)):=ZZ (by
  rw[b.o,z.o,B.o,<-Bool.decide_and]
  exact decide_eq_decide.2 (c.o.trans ⟨fun h=>h.2,fun h=>⟨⟨y,u⟩,h⟩⟩))
 clear b c z B
 go_enter func98,ntmps98
 go_wp2_with fail
 refine(k.o _ (a.o _)).mono ?_;rintro x R ⟨rfl,g⟩;have d:=ZZ ((a.o _).trans (g.mono (a.o _).size));have H:=ZZ ((P.o _).below g zL);obtain⟨U,V⟩:=H.o.cell 5;clear g k
 cases m with
 | false=>
  go_wp2;go_ret;rw[A.o];exact⟨rfl,d.o⟩
 | true=>
  go_wp2_with fail
  refine(j.o _ d.o).mono ?_;rintro x S ⟨rfl,t⟩;have M:=ZZ (d.o.trans (t.mono d.o.size));clear t j;go_wp2;go_ret;rw[A.o];exact⟨rfl,M.o⟩
theorem ZuZ (E:Value) (A:List Ent) (z:Value) (B:List Ent) (w:World) (L:RdE w E A) (Q:RdE w z B):
 Calls prog 46 #[E,z] w fun e w'=>e=.returned (.bool (decide (A=B)))∧Below w.heap.size w w':=by
 obtain⟨U,X,rfl,ae,x,-,-,C⟩:=L;obtain⟨ba,Z,rfl,-,N,-,-,u⟩:=Q;have G:=ZZ C;have S:=ZZ u;obtain⟨D,f⟩:∃ D,D=decide (A=B):=⟨_,rfl⟩;rw[<-f];have y:Hid (A=B->D=true):=fun h=>by rw[f];exact decide_eq_true h
 have p:Hid (¬ A=B->D=false):=fun h=>by rw[f];exact decide_eq_false h
 have ad:=ZwV;have ab:(A.length:Int)<=9223372036854775807:=by unfold maxLen at x;omega
 clear f C u x N;by_cases a:A.length=B.length
 case neg=>
  have K:((A.length:Int) != (B.length:Int))=true:=by rw[bne_iff_ne];omega
  have R:=ZZ (p.o (fun h=>a (by rw[h])))
  clear a
  go_enter func46,ntmps46
  go_wp2;go_ret;rw[R.o];exact⟨rfl,Below.refl _ _⟩
 have K:((A.length:Int) != (B.length:Int))=false:=by rw[bne_eq_false_iff_eq];omega
 have d:=ZZ a
 have q:Hid (A.take A.length=B.take A.length->D=true):=ZZ (fun h=>y.o (by
  rw[take_length,d.o,take_length] at h
  exact h))
 have t:Hid (∀ k,k<A.length->A.getD k ZaP≠B.getD k ZaP->D=false):=ZZ (fun k T h=>p.o (fun J=>h (by rw[J])))
 clear a y p
 go_enter func46,ntmps46
 go_wp2
 go_loopw[13] (fun j I=>∃ k:Nat,j=.int .i64 (k:Int)∧k<=A.length∧Hid (A.take k=B.take k)∧Hid (∃ n,I=w.drewN n)) (fun j _=>A.length-(intOf j).toNat)
 case atStart=>exact⟨0,rfl,Nat.zero_le _,rfl,⟨0,rfl⟩⟩
 case round=>
  obtain⟨k,rfl,T,v,O⟩:=hrel;obtain⟨nw,P⟩:=O.o;subst P;by_cases b:k<A.length
  case neg=>
   obtain rfl:k=A.length:=by omega
   have M:=ZZ (q.o v.o);go_wp2;go_ret;rw[M.o];exact⟨rfl,ZaI (Below.refl _ _) _⟩
  rcases G.o with h0 | ⟨c,off,rfl,hc⟩
  ·rw[h0] at b;simp at b
  rcases S.o with h0 | ⟨c',off',rfl,hc'⟩
  ·have a:=d.o;rw[h0] at a;simp at a;rw[a] at b;simp at b
  obtain⟨c0,c1,c2⟩:=hc k b;obtain⟨d0,d1,Y⟩:=hc' k (by have:=d.o;omega)
  have V:(k:Int)<(A.length:Int):=by omega
  have af:(k:Int)<(B.length:Int):=by have:=d.o;omega
  have l:=ZZ (t.o k b);have i:Hid (A.getD k ZaP=B.getD k ZaP->A.take (k+1)=B.take (k+1)):=fun h=>by rw[Znb b,Znb (by have:=d.o;omega),v.o,h]
  clear hc hc' q t;generalize A.getD k ZaP=r at *;generalize B.getD k ZaP=s at *;by_cases g:r=s
  ·subst g
   have F:=ZZ (i.o rfl);have m:=fun W=>ZwU W r r
   rw[ZuD] at m;clear l i
   go_upto_region 6 with fail
   go_quiet(fail)
   go_wp2;go_roundw
   case rel=>exact⟨k+1,by go_num,by omega,F,⟨_,rfl⟩⟩
   case measure=>simp[intOf];omega
  ·have H:=ZZ (l.o g)
   have m:=fun W=>ZwU W r s
   rw[ZwW g] at m;clear l i g
   go_upto_region 6 with fail
   go_quiet(fail)
   go_wp2;go_ret;rw[H.o];exact⟨rfl,ZaI (ZaI (Below.refl _ _) _) _⟩
theorem ZxG (M:Value) (a:ZaW) (C:Value) (b:ZaW) (w:World) (V:SnV w M a) (R:SnV w C b):
 Calls prog 20 #[M,C] w fun e w'=>e=.returned (.bool (decide (ZrG a b)))∧Below w.heap.size w w':=by
 obtain⟨K,P,rfl,O,E,J,t,Z⟩:=V;obtain⟨vl',ac,rfl,G,B,F,k,ad⟩:=R;have g:Hid (∀ X Y,Below w.heap.size w ((w.alloc X).alloc Y)):=fun X Y=>((Below.refl _ _).alloc zL X).alloc (by simp) Y
 have ab:Hid (∀ cs d,Bn ((w.alloc (.cells cs 41)).alloc (.cells d 41)) w.heap.size cs):=fun cs d=>(Below.heap_alloc _ _ _ (by simp)).trans (heap_alloc_new w _)
 have af:Hid (∀ cs d,Bn ((w.alloc (.cells cs 41)).alloc (.cells d 41)) (w.heap.size+1) d):=fun cs d=>Zhc w _ _
 have y:=ZZ (fun W (h:Below w.heap.size w W)=>ZxF (.agg #[.int .i64 a.st.kind,K,.bool a.st.shut,.int .i64 a.st.eng]) a.st (.agg #[.int .i64 b.st.kind,vl',.bool b.st.shut,.int .i64 b.st.eng]) b.st W ⟨K,rfl,O.below h zL,E,J⟩ ⟨vl',rfl,G.below h zL,B,F⟩)
 have p:=ZZ (fun W (h:Below w.heap.size w W)=>ZuZ P a.tab ac b.tab W (t.below h zL) (k.below h zL))
 obtain⟨la,lc,T,-⟩:=O;obtain⟨an,al,S,-⟩:=G;obtain⟨ta,tc,Q⟩:=t.shape;obtain⟨au,ap,ag⟩:=k.shape;subst T Q S ag;obtain⟨D,u⟩:∃ D,D=decide (ZrG a b):=⟨_,rfl⟩;rw[<-u];have j:Hid (D=decide (ZrG a b)):=ZZ u;have z:Hid (ZrG a b↔ZoY a.st b.st∧a.idx=b.idx∧a.tab=b.tab):=ZZ Iff.rfl;obtain⟨m,l⟩:∃ m,m=decide (ZoY a.st b.st):=⟨_,rfl⟩;obtain⟨n,q⟩:∃ n,n=decide (a.tab=b.tab):=⟨_,rfl⟩;rw[<-l] at y;rw[<-q] at p;have H:=ZZ l;have I:=ZZ q;clear u l q E J Z B F ad t k;obtain⟨idx,⟨kind,L,ai,ak⟩,aq⟩:=a;obtain⟨v,⟨am,L',ao,aj⟩,ar⟩:=b
 dsimp only at *
 by_cases c:idx=v
 case neg=>
  have ah:(idx == v)=false:=beq_eq_false_iff_ne.2 c;have HF:Hid (D=false):=ZZ (by rw[j.o];exact decide_eq_false (fun h=>c (z.o.1 h).2.1))
  clear c
  go_enter func20,ntmps20
  go_wp2;go_ret;rw[HF.o];exact⟨rfl,g.o _ _⟩
 have ah:(idx == v)=true:=beq_iff_eq.2 c
 have N:Hid (D=(m && n)):=ZZ (by
  rw[j.o,H.o,I.o,<-Bool.decide_and]
  exact decide_eq_decide.2 (z.o.trans ⟨fun h=>⟨h.1,h.2.2⟩,fun h=>⟨h.1,c,h.2⟩⟩))
 clear j z H I c
 go_enter func20,ntmps20
 go_wp2_with fail
 refine(y.o _ (g.o _ _)).mono ?_;rintro x W1 ⟨rfl,f⟩;have i:=ZZ ((g.o _ _).trans (f.mono (g.o _ _).size));have U:=ZZ ((ab.o _ _).below f zL);have ae:=ZZ ((af.o _ _).below f zL);obtain⟨q5,f5⟩:=U.o.cell 5;obtain⟨r5,g5⟩:=ae.o.cell 5;clear f y
 cases m with
 | false=>
  go_wp2;go_ret;rw[N.o];exact⟨rfl,i.o⟩
 | true=>
  go_wp2_with fail
  refine(p.o _ i.o).mono ?_;rintro x W2 ⟨rfl,A⟩;have aa:=ZZ (i.o.trans (A.mono i.o.size));clear A p;go_wp2;go_ret;rw[N.o];exact⟨rfl,aa.o⟩
def Zty (w:World) (s:ZaW) (e:Ending) (w':World):Prop:=
 ∃ v',e=.returned (.tuple #[v',.int .i64 (if ZgA s then 0 else 1)])∧Own w' w.heap.size v' (if ZgA s then ZyE s else[])∧Below w.heap.size w w'
theorem Zdk:∀ (n:Nat) (l:List UInt8),l.length<=n->(Zaf (Zbd l)).length<=15*l.length
 | 0,l,h=>by
  have e:l=[]:=List.eq_nil_of_length_eq_zero (by omega)
  rw[e,Zba];simp[Zaf]
 | n+1,l,h=>by
  by_cases e:l=[]
  ·rw[e,Zba]
   simp[Zaf]
  ·have c:l.length≠0:=by simpa using e
   have b:=Zdk n (l.drop 64) (by rw[length_drop];omega)
   have a:=Zcc (d:=l.take 64) (by rw[List.length_take];omega)
   rw[Zbx e,ZaV,length_append];rw[length_drop] at b;rw[List.length_take] at a;omega
theorem ZzD {s:ZaW} (h:ZgA s):(ZyE s).length<=80000:=by
 have f:=Zfa h;have a:s.idx.toNat<4611686018427387904:=by have:=h.1;omega
 have e:=ZhF a (w:=Zbc s) (by omega)
 have b:=Zcc (d:=Ziu s.idx.toNat (Zbc s)) (by omega)
 have c:=Zdk _ (Zbc s) zL;unfold ZyE Zee;rw[ZaV,length_append];omega
theorem Ztz (n:Int) (w:World) (l:-9223372036854775808<=n) (k:n<=9223372036854775807):
 Calls prog 134 #[.int .i64 n] w fun e w'=>e=.returned (.int .i64 (ZjC n:Nat))∧Below w.heap.size w w':=by
 by_cases h:0<=n∧n<=1048576
 ·obtain⟨g,f⟩:=h
  have a:Hid (ZjC n=(Lib.uvarint n.toNat).length+4+n.toNat):=if_pos ⟨g,f⟩
  have b:Hid (∀ w,Calls prog 132 #[.slice none 0 0,.int .i64 n] w fun e w'=>∃ ao cap,e=.returned (.slice ao (Lib.uvarint n.toNat).length cap)∧Below w.heap.size w w'):=by
   intro w;refine(ZeN (.slice none 0 0) [] n w (Rd.nil _) (by simp)).mono ?_
   have e:Zuw [] n=Lib.uvarint n.toNat:=if_pos ⟨by omega,by omega⟩
   rintro m w' ⟨v',rfl,c,j⟩;rw[e] at c;obtain⟨ao,cap,rfl,_⟩:=c.rd;exact⟨ao,cap,rfl,j⟩
  have p:(Lib.uvarint n.toNat).length<=3:=ZBz (by omega)
  generalize (Lib.uvarint n.toNat).length=q at *
  go_enter func134,ntmps134
  go_wp2_with fail
  refine(b.o _).mono ?_;rintro e t ⟨ao,cap,rfl,d⟩;have i:=ZZ d;clear d b;go_wp2;go_ret;refine⟨Zfi ?_,i.o⟩;rw[a.o];omega
 ·have a:Hid (ZjC n=0):=if_neg h
  by_cases g:n<0
  ·clear h
   go_enter func134,ntmps134
   go_wp2;go_ret;exact⟨Zfi (by rw[a.o];rfl),Below.refl _ _⟩
  ·have f:1048576<n:=by omega
   clear h
   go_enter func134,ntmps134
   go_wp2;go_ret;exact⟨Zfi (by rw[a.o];rfl),Below.refl _ _⟩
theorem ZAW (v:Value) (l:List UInt8) (w:World) (q:Rd w v l):
 Calls prog 217 #[v] w fun e w'=>e=.returned (.bool (decide (Zdf l)))∧w'=w:=by
 obtain⟨ao,cap,rfl,A,p,t,d⟩:=q;clear t;have x:(l.length:Int)<=9223372036854775807:=by unfold maxLen at p;omega
 by_cases z:(l.length:Int)<10
 ·go_enter func217,ntmps217
  go_wp2
  go_loop [10] (fun i=>∃ k:Nat,i=.int .i64 k∧k<=l.length∧Hid (∀ j,j<k->128<=(l.getD j 0).toNat)) (fun i=>l.length-(intOf i).toNat)
  case atStart=>exact⟨0,rfl,by omega,fun j m=>by omega⟩
  case round=>
   obtain⟨k,rfl,u,h⟩:=hrel;by_cases c:k<l.length
   ·rcases d with d | ⟨b,off,rfl,hc⟩
    ·subst d;simp at c
    ·have n:=hc k c
     clear hc;obtain⟨y,f⟩:∃ y,y=(l.getD k 0).toNat:=⟨_,rfl⟩;rw[<-f] at n;have g:Hid (y=(l.getD k 0).toNat):=f;clear f;by_cases B:(y:Int)<128
     ·go_wp2
      go_ret;refine⟨Zho ?_,rfl⟩
      symm
      refine decide_eq_false fun a=>?_
      have:=a.2 k c;rw[<-g.o] at this;omega
     ·go_wp2
      go_round
      case rel=>
       refine⟨k+1,by go_num,by omega,fun j m=>?_⟩
       by_cases e:j=k
       ·rw[e,<-g.o];omega
       ·exact h.o j (by omega)
      case measure=>simp[intOf];omega
   ·go_wp2
    go_ret;refine⟨Zho ?_,rfl⟩
    symm
    exact decide_eq_true ⟨by omega,fun j m=>h.o j (by omega)⟩
 ·go_enter func217,ntmps217
  go_wp2;go_ret;refine⟨Zho ?_,rfl⟩
  symm
  exact decide_eq_false fun a=>by have:=a.1;omega
theorem Own.made0 (w:World) (B:Nat) (a:B<=w.heap.size):Own (w.alloc (.cells #[] 5)) B (.slice (some ⟨w.heap.size,0,none⟩) 0 0) []:=
 ⟨rfl,.inr ⟨w.heap.size,0,#[],rfl,a,heap_alloc_new w _,Nat.le_refl _,Nat.zero_le _,rfl,rfl⟩⟩
theorem ZxH (v:Value) (l:List UInt8) (w:World) (g:Rd w v l) (B:l.length<=70368744177664):
 Calls prog 113 #[v] w fun e w'=>∃ v',e=.returned v'∧Own w' w.heap.size v' l∧Below w.heap.size w w':=by
 have m:=ZZ g;obtain⟨ao,cap,rfl,y,u,b,c⟩:=g
 cases ao with
 | none=>
  have q:=b rfl;have t:l=[]:=List.eq_nil_of_length_eq_zero (by omega)
  subst t;subst q;clear c b;have j:∀ w,(binOp .eql 53 (.slice none 0 0) (.slice none 0 0)).run prog w=.ok (.bool true) w:=fun w=>run_eql_slice_nil w _ _ none 0 0 underlying53
  go_enter func113,ntmps113
  go_wp2;go_ret;exact⟨_,rfl,Own.nil _ _,Below.refl _ _⟩
 | some d=>
  clear c b y u;have j:∀ w,(binOp .eql 53 (.slice (some d) l.length cap) (.slice none 0 0)).run prog w=.ok (.bool false) w:=fun w=>run_eql_slice_nil w _ _ (some d) _ _ underlying53
  have x:=ZZ (Own.made0 w w.heap.size zL);have a:=ZZ ((Below.refl w.heap.size w).alloc zL (.cells #[] 5));have z:=ZZ (m.o.below a.o zL);have p:Hid (w.heap.size<=(w.alloc (.cells #[] 5)).heap.size):=a.o.size
  go_enter func113,ntmps113
  go_wp2_with(at_builtin;refine ZaE _ rfl _ _ rfl w.heap.size _ [] rfl x.o _ l rfl z.o (by simp;omega) p.o ?_)
  intro n A h f;have i:=ZZ h;have k:=ZZ (a.o.trans f);clear h f;go_wp2;go_ret;exact⟨n,rfl,i.o,k.o⟩
theorem Zgw (v:Value) (l:List UInt8) (w:World) (P:Rd w v l):
 Calls prog 91 #[v] w fun e w'=>∃ v',e=.returned (.tuple #[v',.int .i64 ((ZAn l).2:Nat)])∧Own w' w.heap.size v' (ZAn l).1∧Below w.heap.size w w':=by
 have HR:=ZZ P;obtain⟨i0,hi,aj,ai,au⟩:=info_parts ZnJ;obtain⟨ao,cap,rfl,ay,av,W,ak⟩:=P;clear W ak;have aw:(l.length:Int)<=9223372036854775807:=by unfold maxLen at av;omega
 by_cases h:(l.length:Int)<=1048576
 ·have b:Hid (ZAn l=(ZbI l++a.leBytes 4 (Zaz 0 (ZbI l)),0)):=if_pos (by omega)
  have J:Hid (∀ w,Calls prog 132 #[.slice none 0 0,.int .i64 (l.length:Int)] w fun e w'=>∃ v',e=.returned v'∧Own w' w.heap.size v' (a.uvarint l.length)∧Below w.heap.size w w'):=by
   intro w;have:=ZeN (.slice none 0 0) [] (l.length:Int) w (Rd.nil _) (by simp)
   have e:Zuw [] (l.length:Int)=a.uvarint l.length:=if_pos ⟨by omega,by omega⟩
   rwa [e] at this
  have H:Hid (∀ w,Calls prog 134 #[.int .i64 (l.length:Int)] w fun e w'=>e=.returned (.int .i64 (ZjC (l.length:Int):Nat))∧Below w.heap.size w w'):=fun w=>Ztz _ w (by omega) (by omega)
  have i:Hid (∀ v w,Rd w v (ZbI l)->Calls prog 136 #[v] w fun e w'=>e=.returned (.int .u32 (Zaz 0 (ZbI l):Nat))∧Below w.heap.size w w'):=fun v w h=>Zou v _ w h
  have m:Hid (∀ w,Calls prog 135 #[.int .u32 (Zaz 0 (ZbI l):Nat)] w fun e w'=>∃ v',e=.returned v'∧Own w' w.heap.size v' (a.leBytes 4 (Zaz 0 (ZbI l)))∧Below w.heap.size w w'):=fun w=>ZkO _ w (Ztc _)
  have p:Hid (ZbI l=a.uvarint l.length++l):=rfl;have aq:Hid ((a.leBytes 4 (Zaz 0 (ZbI l))).length=4):=a.leBytes_length 4 _;have c:Hid ((a.uvarint l.length).length<=3):=ZBz (by omega)
  have ax:ZjC (l.length:Int)<=2000000:=by
   have e:ZjC (l.length:Int)=(a.uvarint l.length).length+4+l.length:=if_pos ⟨by omega,h⟩
   have:=c.o;rw[e];omega
  generalize ZjC (l.length:Int)=z at *;generalize Zaz 0 (ZbI l)=s at *;obtain⟨S,x⟩:∃ S:Int,S=(s:Int):=⟨_,rfl⟩;rw[<-x] at m i;clear x;generalize a.leBytes 4 s=q at *;generalize a.uvarint l.length=u at *;generalize ZbI l=hd at *;have hh:=p.o;subst hh;clear p
  go_enter func91,ntmps91
  go_wp2_with fail
  refine(H.o _).mono ?_;rintro e Y ⟨rfl,f⟩;have ar:=ZZ f;have A:=f.size;clear f H
  go_wp2_with(at_make;refine wpList_make_own _ rfl _ _ 53 rfl w.heap.size 5 i0 (.int .u8 0) 1 underlying53 hi aj ai _ _ _ z rfl rfl (by omega) (by rw[au];omega) (by unfold maxLen;omega) A ?_)
  intro w2 K y;have T:Hid (Own w2 w.heap.size (.slice (some ⟨Y.heap.size,0,none⟩) 0 z) []):=K;have D:=ZZ (ar.o.grown y A (fun k X=>by cases X))
  have al:=D.o.size;clear K y
  go_wp2_with fail
  refine(J.o _).mono ?_;rintro e w3 ⟨v3,rfl,N,j⟩;have L:=ZZ (D.o.trans (j.mono al));have Z:=ZZ N.rd;have ae:=ZZ (T.o.below j zL);have ap:=L.o.size;clear N j J
  go_wp2_with(at_builtin;refine ZaE _ rfl _ _ rfl w.heap.size _ [] rfl ae.o _ u rfl Z.o (by have:=c.o;simp;omega) ap ?_)
  intro v4 V I C;have g:=ZZ (L.o.trans C);have am:Hid (Own V w.heap.size v4 u):=I;have U:=g.o.size;clear I C
  go_wp2_with(at_builtin;refine ZaE _ rfl _ _ rfl w.heap.size _ u rfl am.o _ l rfl (HR.o.below g.o zL) (by have:=c.o;omega) U ?_)
  intro v5 w5 B E;have M:=ZZ (g.o.trans E);have F:Hid (Own w5 w.heap.size v5 (u++l)):=B;have aa:=M.o.size;clear B E
  go_wp2_with fail
  refine(i.o _ _ F.o.rd).mono ?_;rintro e w6 ⟨rfl,n⟩;have Q:=ZZ (M.o.trans (n.mono aa));have ab:=ZZ (F.o.below n zL);have ad:=Q.o.size;clear n i
  go_wp2_with fail
  refine(m.o _).mono ?_;rintro e w7 ⟨v7,rfl,G,d⟩;have O:=ZZ (Q.o.trans (d.mono ad));have ag:=ZZ G.rd;have an:=ZZ (ab.o.below d zL);have af:=O.o.size;clear G d m
  go_wp2_with(at_builtin;refine ZaE _ rfl _ _ rfl w.heap.size _ (u++l) rfl an.o _ q rfl ag.o (by have:=c.o;have:=aq.o;simp;omega) af ?_)
  intro v8 w8 R t;have ac:=ZZ (O.o.trans t);have ah:=ZZ R;clear R t;go_wp2;go_ret2;exact⟨v8,by rw[b.o];rfl,by rw[b.o];show Own _ _ _ (u++l++q);rw[append_assoc];exact ah.o,ac.o⟩
 ·have b:Hid (ZAn l=([],5)):=if_neg (by omega)
  go_enter func91,ntmps91
  go_wp2;go_ret2;exact⟨_,by rw[b.o];rfl,by rw[b.o];exact Own.nil _ _,Below.refl _ _⟩
end Go.Proofs.YtnahjngbneicaaaGreatDoor
