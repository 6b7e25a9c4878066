import Derived.Deep.WholeRow
import Derived.Test.YtnahjngbneicaaaGreatDoorPack8
namespace Go.Proofs.YtnahjngbneicaaaGreatDoor
open _root_.Go.Proofs.Tryz
open List (append_assoc length_append length_drop length_singleton nil_append take_add_one take_length take_of_length_le)
set_option maxHeartbeats 40000000
set_option maxRecDepth 100000
open Go.RowKit
variable {w:World} {B b:Nat} {v x y z:Value} {l:List UInt8} {xs:List Value} {L:List (List UInt8)}
theorem Own.empty {X:Obj} {cur:Array Value} {N:Nat} (a:w.heap.size=N) (b:X=.cells cur 5 (0,0)) (c:B<=N) (cap:Nat) (d:cap<=maxLen) (f:cur.size=cap):Own (w.alloc X) B (.slice (some ⟨N,0,none⟩) 0 cap) []:=by
 subst a b;have h:=World.ownsRow_made (e:=5) (size:=1) (base:=B) w cur cap c d (by omega)
 exact h
theorem Ztu (n:Nat) (w:World) (t:n<=1000000):
 Calls prog 182 #[.slice none 0 0,.int .i64 (n:Int)] w fun e w'=>∃ v',e=.returned v'∧Own w' w.heap.size v' []∧Below w.heap.size w w':=by
 obtain⟨d,j,l,m,b⟩:=info_parts ZnJ;by_cases i:n=0
 ·subst i
  go_enter func182,ntmps182
  go_wp2;go_ret;exact⟨_,rfl,Own.nil _ _,Below.refl _ _⟩
 ·have f:∀ ty,(Builtin.append_ #[53,3] ty #[.slice none 0 0,.int .i64 (n:Int)]).run prog w =
   .ok (.slice (some ⟨w.heap.size,0,none⟩) n (grownCap w n 0 5)) (w.drew.alloc (.cells (#[]++Builtin.zeroCells #[.int .u8 0] n++Builtin.zeroCells #[.int .u8 0] (grownCap w n 0 5-n)) 5)):=fun ty=>by
   have h:=Lib.run_append_grow_zeros (P:=prog) w 53 3 ty 5 d (.int .u8 0) .i64 .i64 underlying53 underlying3 j l none 0 0 [] (run_firstCells_none w.drew d.size 0 0 0) n (by omega) (by omega) (by omega) (by omega) (by rw[b];omega)
    (by rw[Nat.zero_add];exact growslice_fits (by omega) (by rw[b];omega))
   rw[Nat.zero_add] at h;exact h
  have u:n<=grownCap w n 0 5:=grownCap_ge w _ _ _;have a:=grownCap_le_maxLen w n 0 5 (by unfold maxLen;omega)
  generalize grownCap w n 0 5=G at *
  have q:G<=9223372036854775807:=by
   unfold maxLen at a;omega
  have c:(#[]++Builtin.zeroCells #[Value.int .u8 0] n++Builtin.zeroCells #[Value.int .u8 0] (G-n)).size=G:=by
   simp[Builtin.zeroCells];omega
  generalize (#[]++Builtin.zeroCells #[Value.int .u8 0] n++Builtin.zeroCells #[Value.int .u8 0] (G-n))=Z at *;have p:(0:Int)<(n:Int):=by omega
  have g:Hid (Own (w.drew.alloc (.cells Z 5)) w.heap.size (.slice (some ⟨w.heap.size,0,none⟩) 0 G) []):=ZZ (Own.empty rfl rfl zL G a c);have k:Hid (Below w.heap.size w (w.drew.alloc (.cells Z 5))):=ZZ (((Below.refl _ _).drew).alloc zL _);clear c a
  go_enter func182,ntmps182
  go_wp2_with(at_builtin;refine Lib.wpList_append_run _ rfl _ _ _ _ rfl _ _ rfl rfl _ _ (f _) ?_)
  all_goals (go_ret;exact⟨_,rfl,g.o,k.o⟩)
theorem Zqb (L:List (List UInt8)) (k:Nat) (a:k<L.length):(L.take (k+1)).flatten=(L.take k).flatten++L.getD k []:=by
 have e:L.take (k+1)=L.take k++[L.getD k []]:=by
  rw[take_add_one];simp[List.getD,a]
 rw[e,List.flatten_append];simp
theorem ZAS (L:List (List UInt8)) (k:Nat):((L.take k).flatten).length<=L.flatten.length:=by
 have e:L.flatten=(L.take k).flatten++(L.drop k).flatten:=by rw[<-List.flatten_append,List.take_append_drop]
 rw[e,length_append];omega
def Zos (L:List (List UInt8)) (k:Nat):Nat:=(L.take k).flatten.length
def Zxt (L:List (List UInt8)) (k:Nat):List UInt8:=(L.take k).flatten
theorem Zqc (L:List (List UInt8)) (k:Nat) (a:k<L.length):Zxt L (k+1)=Zxt L k++L.getD k []:=Zqb L k a
theorem Zqd (L:List (List UInt8)) (k:Nat) (a:k<L.length):(Zos L (k+1):Int)=(Zos L k:Int)+((L.getD k []).length:Int):=by
 unfold Zos;rw[Zqb L k a,length_append];omega
theorem Zxu (L:List (List UInt8)) (k:Nat):Zos L k<=L.flatten.length:=ZAS L k
theorem Ztv (L:List (List UInt8)) (k:Nat):(Zxt L k).length=Zos L k:=rfl
theorem Ztw (L:List (List UInt8)) (k:Nat) (a:L.length<=k):Zxt L k=L.flatten:=by
 unfold Zxt;rw[take_of_length_le a]
theorem Zgv (v:Value) (L:List (List UInt8)) (w:World) (B:RdL w v L) (J:L.flatten.length<=1000000) (hn:L.length<=1000):
 Calls prog 131 #[v] w fun e w'=>∃ v',e=.returned v'∧Own w' w.heap.size v' L.flatten∧Below w.heap.size w w':=by
 have HG:=ZZ (fun n W h=>Ztu n W h)
 have af:=ZZ B;have t:Hid (∀ k,Zos L k<=1000000):=fun k=>Nat.le_trans (Zxu L k) J
 have H:=ZZ (Zqd L);have ac:=ZZ (Zqc L);have O:=ZZ (Ztw L);have Y:=ZZ (Ztv L);obtain⟨F,y⟩:∃ F,F=L.flatten:=⟨_,rfl⟩;rw[<-y];rw[<-y] at O;obtain⟨ao,cap,rfl,-,-,-,G⟩:=B;have N:=ZZ G;clear G y J
 go_enter func131,ntmps131
 go_wp2
 go_loopw[3,11] (fun vs a wr=>∃ (k:Nat),vs=.int .i64 (Zos L k:Int)∧a=.int .i64 (k:Int)∧k<=L.length∧wr=w) (fun _ a _=>L.length-(intOf a).toNat)
 case atStart=>exact⟨0,rfl,rfl,Nat.zero_le _,rfl⟩
 case round=>
  obtain⟨k,rfl,rfl,hk,C⟩:=hrel;have X:=C.symm;subst X;clear C;by_cases d:k<L.length
  ·rcases N.o with q | ⟨c,ad,rfl,b⟩
   ·rw[q] at d;simp at d
   obtain⟨x,S,i⟩:=b k d;have E:=t.o (k+1);have u:=H.o k d;obtain⟨ax,cx,rfl,-⟩:=i;have h3:¬ ((Zos L k:Int)+((L.getD k []).length:Int)<0):=by omega
   have h4:(Zos L k:Int)+((L.getD k []).length:Int)<=1000000:=by omega
   have H2:=ZZ u;clear b E u;generalize Zos L k=A at *;generalize (L.getD k []).length=D at *;go_wp2;go_roundw
   case rel=>exact⟨k+1,by rw[H2.o],by go_num,by omega,trivial⟩
   case measure=>simp[intOf];omega
  ·have T:=ZZ (HG.o (Zos L k) w (t.o k))
   generalize Zos L k=A at *
   go_wp2_with fail
   refine T.o.mono ?_;rintro e W1 ⟨v1,rfl,Q,K⟩;have R:=ZZ Q;have M:=ZZ K;clear Q K hk d;go_wp2
   go_loopw[6,27] (fun Z a I=>∃ (j:Nat),a=.int .i64 (j:Int)∧j<=L.length∧Hid (Own I w.heap.size Z (Zxt L j))∧Hid (Below w.heap.size w I)) (fun _ a _=>L.length-(intOf a).toNat)
   case atStart=>exact⟨0,rfl,Nat.zero_le _,R,M⟩
   case round=>
    clear R M;obtain⟨j,rfl,hj,l,f⟩:=hrel;by_cases g:j<L.length
    ·rcases N.o with q | ⟨c,ad,rfl,b⟩
     ·rw[q] at g;simp at g
     obtain⟨x,m,i⟩:=b j g;have S:=(f.o.cell (World.block_lt_of_cell? _ _ m)).trans m;have ae:=ZZ (i.below f.o zL);obtain⟨ax,cx,rfl,-⟩:=i
     have V:Hid ((Zxt L j).length+(L.getD j []).length<=70368744177664):=ZZ (by
      have E:=t.o (j+1);have u:=H.o j g;rw[Y.o]
      omega)
     have ab:=ZZ f.o.size;have HN:=ZZ (ac.o j g);clear b m;generalize L.getD j []=D at *;generalize Zxt L j=P at *
     go_wp2_with(at_builtin;refine ZaE _ rfl _ _ rfl w.heap.size _ P rfl l.o _ D rfl ae.o V.o ab.o ?_)
     intro v3 W3 p z;rw[<-HN.o] at p;have U:=ZZ p;have aa:=ZZ (f.o.trans z);clear p z;go_wp2;go_roundw
     case rel=>exact⟨j+1,by go_num,by omega,U,aa⟩
     case measure=>simp[intOf];omega
    ·have HE:=ZZ (O.o j (by omega))
     rw[HE.o] at l;go_wp2;go_ret;exact⟨_,rfl,l.o,f.o⟩
theorem RdL.built (W:World) (N:Nat) (a:N=W.heap.size) (vs:Array Value) (L:List (List UInt8)) (f:L.length<=1000) (h:∀ j,j<L.length->∃ x,vs[j]?=some x∧Rd W x (L.getD j [])):
 RdL (W.alloc (.cells vs 53)) (.slice (some ⟨N,0,none⟩) L.length L.length) L:=by
 subst a;refine⟨some ⟨W.heap.size,0,none⟩,L.length,rfl,Nat.le_refl _,by unfold maxLen;omega,fun e=>(by cases e),.inr ⟨W.heap.size,0,rfl,fun j b=>?_⟩⟩
 obtain⟨x,d,c⟩:=h j b;refine⟨x,?_,c.below ((Below.refl _ _).alloc zL _) zL⟩;rw[Nat.zero_add,cell_of_row _ W.heap.size j vs 53 (0,0) (heap_alloc_new W _)];exact d
theorem Zxv (W:World) (N:Nat) (v:N=W.heap.size) (i h f g:Value) (d c a b:List UInt8) (q:Rd W i d) (w:Rd W h c) (t:Rd W f a) (n:Rd W g b) (x:d.length+c.length+a.length+b.length<=1000000):
 Calls prog 131 #[.slice (some ⟨N,0,none⟩) 4 4] (W.alloc (.cells #[i,h,f,g] 53)) fun e w'=>∃ v',e=.returned v'∧Own w' W.heap.size v' (d++(c++(a++b)))∧Below W.heap.size W w':=by
 have u:=RdL.built W N v #[i,h,f,g] [d,c,a,b] (by simp) (fun j m=>by
  match j,m with
  | 0,_=>exact⟨i,rfl,q⟩
  | 1,_=>exact⟨h,rfl,w⟩
  | 2,_=>exact⟨f,rfl,t⟩
  | 3,_=>exact⟨g,rfl,n⟩)
 have k:[d,c,a,b].flatten=d++(c++(a++b)):=by simp
 refine(Zgv _ _ _ u (by rw[k];simp only [length_append];omega) (by simp)).mono ?_
 rintro e w' ⟨v',rfl,l,p⟩;rw[k] at l;exact⟨v',rfl,l.mono (by simp),((Below.refl _ _).alloc zL _).trans (p.mono (by simp))⟩
theorem Zxw (W:World) (N:Nat) (q:N=W.heap.size) (g f d:Value) (c b a:List UInt8) (m:Rd W g c) (t:Rd W f b) (n:Rd W d a) (u:c.length+b.length+a.length<=1000000):
 Calls prog 131 #[.slice (some ⟨N,0,none⟩) 3 3] (W.alloc (.cells #[g,f,d] 53)) fun e w'=>∃ v',e=.returned v'∧Own w' W.heap.size v' (c++(b++a))∧Below W.heap.size W w':=by
 have p:=RdL.built W N q #[g,f,d] [c,b,a] (by simp) (fun j k=>by
  match j,k with
  | 0,_=>exact⟨g,rfl,m⟩
  | 1,_=>exact⟨f,rfl,t⟩
  | 2,_=>exact⟨d,rfl,n⟩)
 have h:[c,b,a].flatten=c++(b++a):=by simp
 refine(Zgv _ _ _ p (by rw[h];simp only [length_append];omega) (by simp)).mono ?_
 rintro e w' ⟨v',rfl,i,l⟩;rw[h] at i;exact⟨v',rfl,i.mono (by simp),((Below.refl _ _).alloc zL _).trans (l.mono (by simp))⟩
theorem ZuV (v:Value) (l:List UInt8) (w:World) (f:Rd w v l) (p:l.length<=1000000):
 Calls prog 214 #[v] w fun e w'=>∃ v',e=.returned v'∧Own w' w.heap.size v' l∧Below w.heap.size w w':=by
 have h:=ZZ f;obtain⟨ao,cap,rfl,m,-,b,-⟩:=f
 cases ao with
 | none=>
  obtain rfl:cap=0:=b rfl;obtain rfl:l=[]:=List.eq_nil_of_length_eq_zero (by omega)
  clear b m;have j:∀ w,(binOp .eql 53 (.slice none 0 0) (.slice none 0 0)).run prog w=.ok (.bool true) w:=fun w=>run_eql_slice_nil w _ _ none 0 0 underlying53
  go_enter func214,ntmps214
  go_wp2;go_ret;exact⟨_,rfl,Own.nil _ _,Below.refl _ _⟩
 | some a=>
  clear b;have j:∀ w,(binOp .eql 53 (.slice (some a) l.length cap) (.slice none 0 0)).run prog w=.ok (.bool false) w:=fun w=>run_eql_slice_nil w _ _ (some a) _ _ underlying53
  have d:Hid (∀ X,Below w.heap.size w (w.alloc X)):=fun X=>(Below.refl _ _).alloc zL X
  have k:Hid (Own (w.alloc (.cells #[] 5)) w.heap.size (.slice (some ⟨w.heap.size,0,none⟩) 0 0) []):=ZZ (Own.empty rfl rfl zL 0 (Nat.zero_le _) rfl)
  go_enter func214,ntmps214
  go_wp2_with(at_builtin;refine ZaE _ rfl _ _ rfl w.heap.size _ [] rfl k.o _ l rfl (h.o.below (d.o _) zL) (by simp;omega) (by simp) ?_)
  intro t q c g;have n:=ZZ c;have i:=ZZ ((d.o _).trans g);clear c g;go_wp2;go_ret;exact⟨_,rfl,n.o,i.o⟩
def ZaL:Array Value:=((List.range 256).map fun c=>Value.int .u32 ((Zgz c:Nat):Int)).toArray
def ZbX:Array Value:=(List.replicate 256 (Value.int .u32 0)).toArray
theorem ZjX:(prog.info? 266).map (fun i=>(i.zero,i.size))=some (some (.agg ZbX),256):=by kernel_rfl
theorem Zcm:ZaL.size=256:=by simp[ZaL]
theorem Zgd:ZbX.size=256:=by
 unfold ZbX;rw[List.size_toArray,List.length_replicate]
theorem Zjo:ZaL.all (·.oneCell')=true:=by
 rw[Array.all_eq_true];intro i a;simp[ZaL,Value.oneCell']
theorem Zlq (k:Nat) (h:k<256):ZaL[k]?=some (.int .u32 ((Zgz k:Nat):Int)):=by
 simp[ZaL,h]
theorem Zxx (w:World):(Instr.storeAt 266 (.pointer (some ⟨w.heap.size,0,none⟩)) (.agg ZaL)).run prog (w.alloc (.cells ZbX 266))=.ok () (w.alloc (.cells ZaL 266)):=
 run_storeAt_new w 266 ZbX ZaL (by rw[Zcm];exact(zero_of_info ZjX).2) (by rw[Zcm,Zgd]) Zjo
def Zzx (w:World) (b:Nat):Prop:=∀ k,k<256->w.cell? ⟨b,k,none⟩=some (.int .u32 ((Zgz k:Nat):Int))
theorem Zzx.made (w:World):Zzx (w.alloc (.cells ZaL 266)) w.heap.size:=by
 intro k a;rw[cell_of_row _ w.heap.size k ZaL 266 (0,0) (heap_alloc_last w _)];exact Zlq k a
theorem Zlr (w:World) {b:Array Oper} {rest:List Oper} {o:Oper} {a:Act} {Q:Exit->Act->World->Prop} (f:o.guard=none) (x y:Operand) (d:o.op=.store 266 x y)
 (i:a.eval x=.pointer (some ⟨w.heap.size,0,none⟩)) (g:a.eval y=.agg ZaL)
 (h:∀ w',Below w.heap.size w w'->Zzx w' w.heap.size->wpList prog b Q rest (a.put o.dst undef) w'):wpList prog b Q (o::rest) a (w.alloc (.cells ZbX 266)):=
 wpList_plain f fun _ e=>by
  have c:=Zxx w;unfold Oper.wp execOp;simp only [d,i,g,c,Sem.run_bind,Sem.run_pure,Result.andThen_ok];exact e _ _ (h _ ((Below.refl _ _).alloc zL _) (Zzx.made w))
def Zls (k:Nat):Array Value:=((List.range 256).map fun c=>if c<k then Value.int .u32 ((Zgz c:Nat):Int) else Value.int .u32 0).toArray
theorem Zfd (k:Nat):(Zls k).size=256:=by simp[Zls]
theorem Zge (k i:Nat) (h:i<256):(Zls k)[i]?=some (if i<k then Value.int .u32 ((Zgz i:Nat):Int) else Value.int .u32 0):=by
 simp[Zls,h]
theorem ZuW:Zls 0=ZbX:=by
 apply Array.ext_getElem?;intro i;by_cases h:i<256
 ·rw[Zge 0 i h]
  unfold ZbX;rw[List.getElem?_toArray,List.getElem?_replicate_of_lt h];simp
 ·rw[Array.getElem?_eq_none (by rw[Zfd];omega),Array.getElem?_eq_none (by rw[Zgd];omega)]
theorem ZuX:Zls 256=ZaL:=by
 apply Array.ext_getElem?;intro i;by_cases h:i<256
 ·rw[Zge 256 i h,if_pos h,Zlq i h]
 ·rw[Array.getElem?_eq_none (by rw[Zfd];omega),Array.getElem?_eq_none (by rw[Zcm];omega)]
theorem Zxy (k:Nat) (b:k<256):(Zls k).setIfInBounds k (Value.int .u32 ((Zgz k:Nat):Int))=Zls (k+1):=by
 apply Array.ext_getElem?;intro i;rw[Array.getElem?_setIfInBounds];by_cases h:i<256
 ·rw[Zge (k+1) i h,Zge k i h,Zfd]
  by_cases a:k=i
  ·subst a
   simp[b]
  ·rw[if_neg a]
   have e:(i<k+1)=(i<k):=by
    apply propext;omega
   simp only [e]
 ·have a:¬ k=i:=by omega
  rw[if_neg a,Array.getElem?_eq_none (by rw[Zfd];omega),Array.getElem?_eq_none (by rw[Zfd];omega)]
theorem Zot {C:Array Value} (h:C.size=256):(prog.info? 266).map (·.size)=some C.size:=by
 rw[h];exact(zero_of_info ZjX).2
theorem Zlt (w:World) {c:Array Oper} {rest:List Oper} {o:Oper} {a:Act} {Q:Exit->Act->World->Prop} (j:o.guard=none) (x:Operand) (k:o.op=.load 266 x)
 (g:Nat) (C:Array Value) (b:Nat × Nat) (i:a.eval x=.pointer (some ⟨g,0,none⟩)) (e:w.heap[g]?=some (.cells C 266 b)) (l:C.size=256)
 (h:wpList prog c Q rest (a.put o.dst (.agg C)) w):wpList prog c Q (o::rest) a w:=
 wpList_plain j fun _ d=>by
  have f:=run_loadVar_row (P:=prog) w g 266 266 C b _ e underlying266 rfl (Zot l);unfold Oper.wp execOp;simp only [k,i,Instr.loadAt,Instr.sureAddr,Sem.run_bind,Sem.run_pure,Result.andThen_ok,f];exact d _ _ h
theorem ZjF (w:World) {c:Array Oper} {rest:List Oper} {o:Oper} {a:Act} {Q:Exit->Act->World->Prop} (j:o.guard=none) (x y:Operand) (l:o.op=.store 266 x y)
 (g:Nat) (C D:Array Value) (i:a.eval x=.pointer (some ⟨g,0,none⟩)) (k:a.eval y=.agg D) (e:w.heap[g]?=some (.cells C 266 (0,0))) (m:C.size=256) (b:D.size=256) (n:D.all (·.oneCell')=true)
 (h:wpList prog c Q rest (a.put o.dst undef) (w.setRow g D)):wpList prog c Q (o::rest) a w:=
 wpList_plain j fun _ d=>by
  have f:=run_storeVar_row (P:=prog) w g 266 266 C D e (Zot b) (by rw[m,b]) n
  unfold Oper.wp execOp;simp only [l,i,k,Instr.storeAt,Instr.sureAddr,Sem.run_bind,Sem.run_pure,Result.andThen_ok,f];exact d _ _ h
theorem Zqe {fn:Func} {p:Tmp} {ty:TypeId} (h:fn.results=#[.cell p ty]) (b:Array Value) (P:Program) (w:World):
 (results fn b).run P w=((asAddr (b.getD p undef)).run P w).andThen fun a c=>(loadVar ty a).run P c:=by
 simp only [results,h];simp[Sem.run_bind,Result.andThen]
theorem Zxz (k:Nat) (i:k<256) (w:World):Calls prog 225 #[.int .u32 (k:Int)] w fun e w'=>e=.returned (.int .u32 (Zgz k:Nat))∧w'=w:=by
 have v:=ZZ i;clear i
 go_enter func225,ntmps225
 go_wp2
 go_loop [0,4] (fun x j=>∃ m:Nat,m<=8∧j=.int .i64 (m:Int)∧x=.int .u32 (ZdM m k:Nat)) (fun _ j=>8-(intOf j).toNat)
 case atStart=>exact⟨0,Nat.zero_le _,rfl,rfl⟩
 case round=>
  obtain⟨m,B,rfl,rfl⟩:=hrel;by_cases z:m<8
  ·have l:=ZZ (ZuR m k)
   have h:ZdM m k<4294967296:=Zxj m (by have:=v.o;omega)
   generalize ZdM m k=y at *;obtain⟨Y,c⟩:∃ Y:Int,Y=(y:Int):=⟨_,rfl⟩;rw[<-c];have A:0<=Y:=by omega
   have C:Y<4294967296:=by omega
   have g:=ZZ c;have p:=ZZ h;clear c h;by_cases a:Y % 2=1
   ·have n:(Y % 2 == 1)=true:=beq_iff_eq.2 a
    have d:=ZZ a;clear a;go_wp2
    go_round
    case rel=>
     have e:=g.o;have u:=d.o;refine⟨m+1,by omega,by go_num,?_⟩
     have f:Y / 2=((y / 2:Nat):Int):=by omega
     have q:(2197175160:Int)=((2197175160:Nat):Int):=rfl;have b:ZtZ y=y / 2 ^^^ 2197175160:=if_pos (by omega)
     rw[l.o,b,f,q,ZrW _ _ (by have:=p.o;omega) (by decide)]
    case measure=>simp[intOf];omega
   ·have n:(Y % 2 == 1)=false:=beq_eq_false_iff_ne.2 a
    have d:=ZZ a;clear a;go_wp2
    go_round
    case rel=>
     have e:=g.o;have u:=d.o;refine⟨m+1,by omega,by go_num,?_⟩
     have f:Y / 2=((y / 2:Nat):Int):=by omega
     have b:ZtZ y=y / 2:=if_neg (by omega)
     rw[l.o,b,f]
    case measure=>simp[intOf];omega
  ·have t:Hid (ZdM m k=Zgz k):=by
    have e:m=8:=by omega
    rw[e];exact rfl
   generalize ZdM m k=y at *;go_wp2;go_ret;refine⟨Zfi ?_,rfl⟩;rw[t.o]
theorem ZxA (w:World):Calls prog 215 #[] w fun e w'=>e=.returned (.agg ZaL)∧Below w.heap.size w w':=by
 have A:=(zero_of_info ZjX).1;have q:Hid (∀ (k:Nat) (w:World),k<256->Calls prog 225 #[.int .u32 (k:Int)] w fun e w'=>e=.returned (.int .u32 (Zgz k:Nat))∧w'=w):=fun k w f=>Zxz k f w
 go_enter func215,ntmps215
 go_wp2
 go_loopw[3] (fun i wr=>∃ k:Nat,k<=256∧i=.int .i64 (k:Int)∧Hid (wr.heap[w.heap.size+1]?=some (.cells (Zls k) 266 (0,0)))∧Hid (wr.heap[w.heap.size]?=some (.cells ZbX 266 (0,0)))∧Hid (Below w.heap.size w wr)) (fun i _=>256-(intOf i).toNat)
 case atStart=>
  have u:((w.alloc (.cells ZbX 266)).alloc (.cells ZbX 266)).heap[w.heap.size+1]?=some (.cells (Zls 0) 266 (0,0)):=by
   rw[ZuW];have h:=heap_alloc_last (w.alloc (.cells ZbX 266)) (.cells ZbX 266);have p:(w.alloc (.cells ZbX 266)).heap.size=w.heap.size+1:=by simp
   rw[p] at h;exact h
  have m:((w.alloc (.cells ZbX 266)).alloc (.cells ZbX 266)).heap[w.heap.size]?=some (.cells ZbX 266 (0,0)):=
   (Below.heap_alloc _ _ w.heap.size (by simp)).trans (heap_alloc_last w _)
  exact⟨0,Nat.zero_le _,rfl,u,m,((Below.refl _ _).alloc zL _).alloc (by simp) _⟩
 case round=>
  obtain⟨k,f,rfl,b,d,a⟩:=hrel;by_cases c:k<256
  ·have B:wr.cell? ⟨w.heap.size+1,k,none⟩=some (.int .u32 0):=by
    rw[cell_of_row wr _ k _ _ _ b.out,Zge k k c];simp
   have z:wr.frozen? ⟨w.heap.size+1,k,none⟩=false:=frozen_of_row wr _ k _ _ b.out
   have n:Hid ((wr.setCell ⟨w.heap.size+1,k,none⟩ (.int .u32 ((Zgz k:Nat):Int))).heap[w.heap.size+1]?=some (.cells (Zls (k+1)) 266 (0,0))):=by
    have h:=heap_setCell_same wr (w.heap.size+1) k _ _ (.int .u32 ((Zgz k:Nat):Int)) b.out;rw[Zxy k c] at h;exact h
   go_wp2_with fail
   refine(q.o k wr c).mono ?_;rintro e C ⟨rfl,rfl⟩;go_wp2;go_roundw
   case rel=>exact⟨k+1,by omega,by go_num,n,(Below.heap_setCell _ _ _ _ (by show w.heap.size≠w.heap.size+1;omega)).trans d.out,a.out.setCell (by show w.heap.size<=w.heap.size+1;omega) _⟩
   case measure=>simp[intOf];omega
  ·have g:wr.heap[w.heap.size+1]?=some (.cells ZaL 266 (0,0)):=by
    have e:k=256:=by omega
    rw[<-ZuX,<-e];exact b.out
   have y:=ZZ g
   have t:Hid ((loadVar 266 ⟨w.heap.size,0,none⟩).run prog (wr.setRow w.heap.size ZaL)=.ok (.agg ZaL) (wr.setRow w.heap.size ZaL)):=
    run_loadVar_row (P:=prog) _ _ 266 266 ZaL (0,0) _ (setRow_heap wr _ _ ZaL _ _ d.out) underlying266 rfl (Zot Zcm)
   have x:Hid (Below w.heap.size w (wr.setRow w.heap.size ZaL)):=
    ⟨a.out.os,a.out.tape,a.out.output,by have:=a.out.size;simp[World.setRow];omega,fun j l=>(setRow_other wr _ j _ (by omega)).trans (a.out.block j l)⟩
   clear g b
   go_wp2_with(first
    | refine Zlt _ rfl _ rfl (w.heap.size+1) ZaL (0,0) rfl y.o Zcm ?_
    | refine ZjF _ rfl _ _ rfl w.heap.size ZbX ZaL rfl rfl d.out Zgd Zcm Zjo ?_)
   refine bodyPost_ret (v:=.agg ZaL) ?_ rfl ⟨rfl,x.o⟩;have h:=t.o;rw[Zqe Tryz.results215];have e:(asAddr (.pointer (some ⟨w.heap.size,0,none⟩))).run prog (wr.setRow w.heap.size ZaL)=.ok ⟨w.heap.size,0,none⟩ (wr.setRow w.heap.size ZaL):=by simp[asAddr]
   simp only [Act.put,List.setIfInBounds_toArray,List.set_cons_succ,List.set_cons_zero];show((asAddr (.pointer (some ⟨w.heap.size,0,none⟩))).run prog (wr.setRow w.heap.size ZaL)).andThen _=_;rw[e];simp only [Result.andThen];rw[h]
theorem Zzy (s:Nat) (v:Value) (l:List UInt8) (w:World) (A:Rd w v l) (f:s<4294967296):
 Calls prog 187 #[.int .u32 (s:Int),v] w fun e w'=>e=.returned (.int .u32 (Zaz s l:Nat))∧Below w.heap.size w w':=by
 have F:=ZZ A;obtain⟨ao,cap,rfl,aa,P,Q,a⟩:=A;clear Q;have M:=ZZ a;clear a;have W:(l.length:Int)<=9223372036854775807:=by unfold maxLen at P;omega
 have G:=ZZ (Zxk s f);have K:Hid (∀ k,Zev (s ^^^ 4294967295) (l.take k)<4294967296):=fun k=>Zks _ (Zws f)
 have L:Hid (Zaz s l=Zev (s ^^^ 4294967295) l ^^^ 4294967295):=rfl;have D:=ZZ (fun w=>ZxA w)
 have J:=(zero_of_info ZjX).1;generalize s ^^^ 4294967295=h at *;clear f
 go_enter func187,ntmps187
 go_wp2_with fail
 refine(D.o _).mono ?_;rintro e Y ⟨rfl,q⟩;have C:=ZZ q;clear q D
 go_wp2_with(refine Zlr _ rfl _ _ rfl rfl rfl ?_)
 intro R t B;have u:=ZZ (C.o.trans (t.mono C.o.size));have O:=ZZ B;clear t B J;go_wp2
 go_loop [6,14] (fun x i=>∃ k:Nat,k<=l.length∧i=.int .i64 k∧x=.int .u32 (Zev h (l.take k):Nat)) (fun _ i=>l.length-(intOf i).toNat)
 case atStart=>
  refine⟨0,Nat.zero_le _,rfl,?_⟩;rw[G.o];rfl
 case round=>
  obtain⟨k,S,rfl,rfl⟩:=hrel;have N:=K.o k;by_cases d:k<l.length
  ·have I:=ZZ (ZrX l h k d)
   rcases M.o with a | ⟨b,U,rfl,_⟩
   ·subst a;simp at d
   have T:=(F.o.below u.o zL).at k d;have g:(l.getD k 0).toNat<256:=UInt8.toNat_lt _;generalize Zev h (l.take k)=y at *;generalize (l.getD k 0).toNat=c at *;have n:=ZAO y c g
   have X:bits .xor .u8 ((y:Int) % 256) (c:Int)=((y % 256 ^^^ c:Nat):Int):=by
    have e:(y:Int) % 256=((y % 256:Nat):Int):=by omega
    rw[e];exact ZBH _ _ (by omega) g
   have j:Hid (bits .xor .u32 ((Zgz (y % 256 ^^^ c):Nat):Int) ((y:Int) / 256)=((ZgR y c:Nat):Int)):=by
    have e:(y:Int) / 256=((y / 256:Nat):Int):=by omega
    rw[e,ZrW _ _ (Zzu _ n) (by omega)]
    unfold ZgR;rw[Zzt y c g];exact rfl
   have H:=O.o (y % 256 ^^^ c) n;generalize z:y % 256 ^^^ c=m at *;have Z:=ZZ z;clear z;have V:(m:Int)<256:=by omega
   obtain⟨E,p⟩:∃ E:Int,E=((Zgz m:Nat):Int):=⟨_,rfl⟩;rw[<-p] at H j;clear p;go_wp2
   go_round
   case rel=>exact⟨k+1,by omega,by go_num,by rw[I.o,<-j.o]⟩
   case measure=>simp[intOf];omega
  ·go_wp2
   go_ret;refine⟨Zfi ?_,u.o⟩;rw[L.o,Zxk _ N,take_of_length_le (by omega)]
theorem Zou (v:Value) (l:List UInt8) (w:World) (c:Rd w v l):
 Calls prog 136 #[v] w fun e w'=>e=.returned (.int .u32 (Zaz 0 l:Nat))∧Below w.heap.size w w':=by
 have a:Hid (Calls prog 187 #[.int .u32 0,v] w fun e w'=>e=.returned (.int .u32 (Zaz 0 l:Nat))∧Below w.heap.size w w'):=Zzy 0 v l w c (by decide)
 generalize Zaz 0 l=m at *;clear c
 go_enter func136,ntmps136
 go_wp2_with fail
 refine a.o.mono ?_;rintro e w' ⟨rfl,b⟩;have d:=ZZ b;clear b a;go_wp2;go_ret;exact⟨rfl,d.o⟩
def ZjG (v:Value) (l:List UInt8) (xs:List Value) (L:List (List UInt8)):Prop:=
 xs.length=L.length∧∀ j,j<L.length->∃ x,xs[j]?=some x∧x.oneCell'=true∧∀ W,Rd W v l->Rd W x (L.getD j [])
theorem ZjG.nil (v:Value) (l:List UInt8):ZjG v l [] []:=⟨rfl,fun j a=>absurd a (by simp)⟩
theorem ZjG.snoc (h:ZjG v l xs L) {x:Value} {d:List UInt8} (m:x.oneCell'=true) (g:∀ W,Rd W v l->Rd W x d):ZjG v l (xs++[x]) (L++[d]):=by
 refine⟨by simp[h.1],fun j b=>?_⟩
 rw[length_append,length_singleton] at b;by_cases a:j<L.length
 ·obtain⟨y,i,k,f⟩:=h.2 j a
  refine⟨y,by rw[List.getElem?_append_left (by rw[h.1];exact a)];exact i,k,?_⟩
  have e:(L++[d]).getD j []=L.getD j []:=by simp[List.getD,List.getElem?_append_left a]
  rw[e];exact f
 ·have c:j=L.length:=by omega
  subst c;refine⟨x,by rw[List.getElem?_append_right (by rw[h.1];omega),h.1];simp,m,?_⟩
  have e:(L++[d]).getD L.length []=d:=by simp[List.getD]
  rw[e];exact g
theorem ZjG.one (h:ZjG v l xs L):∀ u ∈ xs,u.oneCell'=true:=fun u d=>by
 obtain⟨j,a,rfl⟩:=List.getElem_of_mem d;obtain⟨x,b,c,-⟩:=h.2 j (by rw[<-h.1];exact a)
 rw[List.getElem?_eq_getElem a] at b;obtain rfl:=Option.some.inj b;exact c
theorem ZxB:(prog.info? 53).map (fun i=>(i.zero,i.size,i.bytes))=some (some (.slice none 0 0),1,24):=by kernel_rfl
theorem Zlu (w:World) (ty:TypeId) (B:Nat) (v:Value) (n:Nat) (xs:List Value) (h:w.ownsRow B 53 1 v n xs) (a:Addr) (m cap:Nat) (b:List Value) (l:b.length=m) (y:∀ j u,b[j]?=some u->w.cell? (a.add j)=some u) (q:∀ u ∈ b,u.oneCell'=true) (A:n+m<=1000000) (c:B<=w.heap.size):
 ∃ v' w',(Builtin.append_ #[144,144] ty #[v,.slice (some a) m cap]).run prog w=.ok v' w'∧w'.ownsRow B 53 1 v' (n+m) (xs++b)∧Below B w w':=by
 obtain⟨t,p,z,e,f⟩:=info_parts ZxB
 obtain⟨v',w',i,x,d,_⟩:=run_append_own (P:=prog) w B 144 ty 53 t (.slice none 0 0) 1 24 underlying144 p z e f rfl (by decide) v n xs h
  a m cap b (by rw[l,Nat.mul_one]) y q (by unfold maxLen;omega) (by omega) c
 exact⟨v',w',i,x,(Below.refl _ _).grown d c (fun k g=>(World.ownsRow.lt h k g).1)⟩
theorem ZcY (w:World) {c:Array Oper} {rest:List Oper} {o:Oper} {a:Act} {Q:Exit->Act->World->Prop} (y:o.guard=none) (s x:Operand)
 (C:o.op=.call { callee:=.builtin .append,args:=#[s,x],argTypes:=#[144,144] })
 (B:Nat) (v:Value) (n:Nat) (xs:List Value) (g:a.eval s=v) (z:w.ownsRow B 53 1 v n xs) (d:Addr) (m cap:Nat) (b:List Value) (l:a.eval x=.slice (some d) m cap) (t:b.length=m) (D:∀ j u,b[j]?=some u->w.cell? (d.add j)=some u) (A:∀ u ∈ b,u.oneCell'=true)
 (e:n+m<=1000000) (p:B<=w.heap.size)
 (h:∀ v' w',w'.ownsRow B 53 1 v' (n+m) (xs++b)->Below B w w'->wpList prog c Q rest (a.put o.dst v') w'):wpList prog c Q (o::rest) a w:=
 wpList_plain y fun _ f=>by
  obtain⟨v',w',k,q,i⟩:=Zlu w o.type B v n xs z d m cap b t D A e p;unfold Oper.wp execOp;simp only [C,resolve,invoke,builtin,Sem.run_bind,Sem.run_pure,Result.andThen_ok,List.map_toArray,List.map_cons,List.map_nil,g,l,k];exact f _ _ (h v' w' q i)
theorem Zzz (ao:Option Addr) (l:List UInt8) (cap:Nat) (g:l.length<=cap) (i j:Nat) (e:i<=j) (f:j<=l.length):
 ∃ a b c,(∀ W,(Instr.sliceAt 53 (.slice ao l.length cap) (some (.int .i64 (i:Int))) (some (.int .i64 (j:Int))) (some (.int .i64 (j:Int)))).run prog W=.ok (.slice a b c) W)∧∀ W,Rd W (.slice ao l.length cap) l->Rd W (.slice a b c) ((l.drop i).take (j-i)):=by
 have d:∃ a b c,sliced ao i j j 1=.slice a b c:=by
  unfold sliced;exact⟨_,_,_,rfl⟩
 obtain⟨a,b,c,d⟩:=d;refine⟨a,b,c,fun W=>?_,fun W h=>?_⟩
 ·rw[run_sliceAt_slice W 53 _ _ _ _ ZaF,run_slice_lhm W 53 ao l.length cap ZaF .i64 .i64 .i64 (i:Int) (j:Int) (j:Int) (by omega) (by omega) (by omega) (by omega),ZbU,Zfs]
  simp only [Int.toNat_natCast];rw[<-d];rfl
 ·rw[<-d]
  exact h.mid i j j e f zL (by omega)
theorem Zlv (w:World) (x:Obj):w.heap.size<=(w.alloc x).heap.size:=((Below.refl w.heap.size w).alloc zL x).size
theorem Zqf (w:World) (v:Value):∀ j u,[v][j]?=some u->(w.alloc (.cells #[v] 53)).cell? ((⟨w.heap.size,0,none⟩:Addr).add j)=some u:=fun j u a=>by
 rw[Addr.add_lit,Nat.zero_add,cell_of_row _ w.heap.size j _ 53 (0,0) (heap_alloc_new w _)];rw[<-List.getElem?_toArray] at a;exact a
def ZAT (w:World) (v:Value) (l:List UInt8) (L:List (List UInt8)) (e:Ending) (w':World):Prop:=
 ∃ v' xs,e=.returned v'∧w'.ownsRow w.heap.size 53 1 v' L.length xs∧ZjG v l xs L∧Below w.heap.size w w'
theorem Znk (v:Value) (l:List UInt8) (w:World) (V:Rd w v l) (ac:l.length<=100000):
 Calls prog 102 #[v] w fun e w'=>ZAT w v l (Zbd l) e w':=by
 obtain⟨ao,cap,rfl,aa,X,-⟩:=V;have m:=ZZ (fun i j=>Zzz ao l cap aa i j)
 have J:Hid (∀ A,A<l.length->Zbd (l.drop A)=(l.drop A).take 64::Zbd (l.drop (A+64))):=ZZ (fun A h=>Zry h)
 have K:Hid (Zbd l=[]++Zbd (l.drop 0)):=ZZ (by simp)
 have q:Hid (∀ A,l.length<=A->Zbd (l.drop A)=[]):=ZZ (fun A h=>by rw[List.drop_eq_nil_of_le h,Zba])
 have y:Hid (∀ A,l.length<=A+64->(l.drop A).take (l.length-A)=(l.drop A).take 64):=ZZ (fun A h=>by
  rw[take_of_length_le (by rw[length_drop];omega),take_of_length_le (by rw[length_drop];omega)])
 obtain⟨n,O⟩:∃ n,n=Zbd l:=⟨_,rfl⟩;rw[<-O] at K ⊢;clear O X
 go_enter func102,ntmps102
 go_wp2
 go_loopw[3,4] (fun Y I wr=>∃ (A:Nat) (P:List (List UInt8)) (xs:List Value),I=.int .i64 (A:Int)∧P.length<=A∧A<=l.length+64∧Hid (wr.ownsRow w.heap.size 53 1 Y P.length xs)∧Hid (ZjG (.slice ao l.length cap) l xs P)∧Hid (n=P++Zbd (l.drop A))∧Hid (Below w.heap.size w wr)) (fun _ I _=>l.length+64-(intOf I).toNat)
 case atStart=>exact⟨0,[],[],rfl,Nat.le_refl _,by omega,ZZ (World.ownsRow_nil w w.heap.size 53 1),ZZ (ZjG.nil _ _),K,Below.refl _ _⟩
 case round=>
  clear K;obtain⟨A,P,xs,rfl,ae,hA,p,F,z,f⟩:=hrel;by_cases R:A<l.length
  case neg=>
   have ad:¬ (A:Int)<(l.length:Int):=by omega
   have S:Hid (n=P):=ZZ (by rw[z.out,q.o A (by omega),List.append_nil])
   go_wp2;go_ret;rw[S.o];exact⟨_,xs,rfl,p.out,F.out,f.out⟩
  have af:(A:Int)<(l.length:Int):=by omega
  have M:=ZZ (J.o A R);by_cases h:A+64<=l.length
  ·obtain⟨a,b,c,hcut,d⟩:=m.o A (A+64) (by omega) h
   have N:((A+64:Nat):Int)=(A:Int)+64:=by omega
   have Q:A+64-A=64:=by omega
   rw[N] at hcut;rw[Q] at d;have E:=ZZ d;have Z:(A:Int)+64<=(l.length:Int):=by omega
   have U:min ((A:Int)+64) (l.length:Int)=(A:Int)+64:=by omega
   have ab:¬ (l.length:Int)<(A:Int)+64:=by omega
   have B:Hid (w.heap.size<=(wr.alloc (.cells #[.slice a b c] 53)).heap.size):=ZZ (Nat.le_trans f.out.size (Zlv wr _));have G:Hid ((wr.alloc (.cells #[.slice a b c] 53)).ownsRow w.heap.size 53 1 _ P.length xs):=ZZ (World.ownsRow.alloc p.out _);have C:=ZZ (Zqf wr (.slice a b c));have D:Hid (∀ u ∈ [Value.slice a b c],u.oneCell'=true):=ZZ (fun u L=>by rw[List.mem_singleton.1 L];rfl)
   have t:P.length+1<=1000000:=by omega
   clear d N Q J m q y h
   go_wp2_with(at_builtin;refine ZcY _ rfl _ _ rfl w.heap.size _ P.length xs rfl G.o ⟨wr.heap.size,0,none⟩ 1 1 [.slice a b c] rfl rfl C.o D.o t B.o ?_)
   intro W T g k;have H:=ZZ g;have x:=ZZ ((f.out.alloc f.out.size _).trans k);clear g k;go_wp2;go_roundw
   case rel=>exact⟨A+64,P++[(l.drop A).take 64],xs++[.slice a b c],by go_num,by simp;omega,by omega,ZZ (by rw[length_append,length_singleton];exact H.o),ZZ (F.out.snoc rfl E.o),ZZ (by rw[z.out,M.o,append_assoc];rfl),x⟩
   case measure=>simp[intOf];omega
  ·obtain⟨a,b,c,hcut,d⟩:=m.o A l.length (by omega) zL
   rw[y.o A (by omega)] at d
   have E:=ZZ d;have Z:(l.length:Int)<(A:Int)+64:=by omega
   have U:min ((A:Int)+64) (l.length:Int)=(l.length:Int):=by omega
   have ab:¬ (A:Int)+64<=(l.length:Int):=by omega
   have B:Hid (w.heap.size<=(wr.alloc (.cells #[.slice a b c] 53)).heap.size):=ZZ (Nat.le_trans f.out.size (Zlv wr _));have G:Hid ((wr.alloc (.cells #[.slice a b c] 53)).ownsRow w.heap.size 53 1 _ P.length xs):=ZZ (World.ownsRow.alloc p.out _);have C:=ZZ (Zqf wr (.slice a b c));have D:Hid (∀ u ∈ [Value.slice a b c],u.oneCell'=true):=ZZ (fun u L=>by rw[List.mem_singleton.1 L];rfl)
   have t:P.length+1<=1000000:=by omega
   clear d J m q y h
   go_wp2_with(at_builtin;refine ZcY _ rfl _ _ rfl w.heap.size _ P.length xs rfl G.o ⟨wr.heap.size,0,none⟩ 1 1 [.slice a b c] rfl rfl C.o D.o t B.o ?_)
   intro W T g k;have H:=ZZ g;have x:=ZZ ((f.out.alloc f.out.size _).trans k);clear g k;go_wp2;go_roundw
   case rel=>exact⟨A+64,P++[(l.drop A).take 64],xs++[.slice a b c],by go_num,by simp;omega,by omega,ZZ (by rw[length_append,length_singleton];exact H.o),ZZ (F.out.snoc rfl E.o),ZZ (by rw[z.out,M.o,append_assoc];rfl),x⟩
   case measure=>simp[intOf];omega
theorem Zmw (i:Int) (v:Value) (l:List UInt8) (w:World) (g:Rd w v l):
 Calls prog 100 #[.int .i64 i,v] w fun e w'=>e=.returned (.agg #[.int .i64 i,.int .i64 (l.length:Int),.int .u32 ((Zaz 0 l:Nat):Int)])∧Below w.heap.size w w':=by
 have c:Hid (∀ X,Below w.heap.size w (w.alloc X)):=fun X=>(Below.refl _ _).alloc zL X
 have f:=ZZ (fun W (h:Below w.heap.size w W)=>Zou v l W (g.below h zL))
 obtain⟨ao,cap,rfl,-⟩:=g;generalize Zaz 0 l=m at *;obtain⟨M,j⟩:∃ M:Int,M=(m:Int):=⟨_,rfl⟩;rw[<-j] at f ⊢;clear j;have p:Hid (∀ cs,(w.alloc (.cells cs 147)).heap[w.heap.size]?=some (.cells cs 147 (0,0))):=fun cs=>heap_alloc_new w _
 go_enter func100,ntmps100
 go_wp2_with fail
 refine(f.o _ (c.o _)).mono ?_;rintro x b ⟨rfl,d⟩;have n:=ZZ ((c.o _).trans (d.mono (c.o _).size));have a:=(d.block w.heap.size (by simp)).trans (p.o _)
 have k:=cell_of_row b w.heap.size 0 _ _ _ a;have t:=cell_of_row b w.heap.size 1 _ _ _ a;have q:=cell_of_row b w.heap.size 2 _ _ _ a;have u:=frozen_of_row b w.heap.size 0 _ _ a;have z:=frozen_of_row b w.heap.size 1 _ _ a;have y:=frozen_of_row b w.heap.size 2 _ _ a;clear d a;go_wp2;refine bodyPost_ret (v:=.agg #[.int .i64 i,.int .i64 (l.length:Int),.int .u32 M]) (by simp[results,Tryz.results100,go_sem,k,t,q]) rfl ?_
 exact⟨rfl,((n.o.setCell zL _).setCell zL _).setCell zL _⟩
theorem Zqg:∀ (A B:List Int),ZcR (A++B)=ZcR A++ZcR B
 | [],_=>rfl
 | x::r,B=>by rw[List.cons_append,ZcR,Zqg r B,ZcR,append_assoc]
theorem Zjp:∀ (L:List Int),(∀ x ∈ L,I64 x)->(ZcR L).length<=10*L.length
 | [],_=>by simp[ZcR]
 | x::r,h=>by
  have b:=Zjp r (fun y a=>h y (by simp[a]))
  have c:=ZyG (h x (by simp))
  rw[ZcR,length_append,List.length_cons];omega
theorem ZuY (L:List Int) (k:Nat) (a:k<L.length):ZcR (L.take (k+1))=ZcR (L.take k)++Lib.uvarint (Lib.zigzag (L.getD k 0)):=by
 have e:L.take (k+1)=L.take k++[L.getD k 0]:=by
  rw[take_add_one];simp[List.getD,a]
 rw[e,Zqg];simp[ZcR]
def ZxC (s:St):List UInt8:=(Lib.uvarint s.kind.toNat++Lib.uvarint (ZeH s))++Lib.uvarint s.L.length
theorem ZxD (s:St):ZjP s=ZxC s++ZcR s.L:=by
 unfold ZjP ZxC;simp[append_assoc]
theorem ZzA (a:Bool) (g:Int) (h:0<=g):(if a=true then g+1 else 0)=((ZeH ⟨0,[],a,g⟩:Nat):Int):=by
 unfold ZeH
 cases a
 ·rfl
 ·simp
  omega
theorem Zqh (k:Int) (l:List Int) (a:Bool) (g:Int):ZeH ⟨k,l,a,g⟩=ZeH ⟨0,[],a,g⟩:=rfl
def ZCr (w:World) (s:St) (e:Ending) (w':World):Prop:=
 ∃ v',e=.returned (.tuple #[v',.int .i64 (if ZcD s then 0 else 1)])∧Rd w' v' (if ZcD s then ZjP s else[])∧Below w.heap.size w w'
theorem Zmx (kind:Int) (ao:Option Addr) (n cap:Nat) (a:Bool) (g:Int) (w:World) (d:0<=g) (f:g<=2):
 Calls prog 190 #[.agg #[.int .i64 kind,.slice ao n cap,.bool a,.int .i64 g]] w fun e w'=>e=.returned (.int .i64 ((ZeH ⟨0,[],a,g⟩:Nat):Int))∧Below w.heap.size w w':=by
 have c:Hid (∀ X,Below w.heap.size w (w.alloc X)):=fun X=>(Below.refl _ _).alloc zL X
 have b:=ZZ (ZzA a g d);generalize ZeH ⟨0,[],a,g⟩=m at *
 cases a
 ·go_enter func190,ntmps190
  go_wp2;go_ret;refine⟨?_,c.o _⟩;rw[<-b.o];rfl
 ·go_enter func190,ntmps190
  go_wp2;go_ret;refine⟨?_,c.o _⟩;rw[<-b.o];rfl
theorem Zlw (v:Value) (s:St) (w:World) (hs:StV w v s) (aZ:s.L.length<=1000):
 Calls prog 141 #[v] w fun e w'=>ZCr w s e w':=by
 obtain⟨vl,rfl,Q,ab,aj⟩:=hs;obtain⟨kind,l,a,g⟩:=s;simp only at Q ab aj aZ ⊢;have ak:Hid (∀ W,Below w.heap.size w W->Calls prog 82 #[.agg #[.int .i64 kind,vl,.bool a,.int .i64 g]] W fun e w'=>e=.returned (.bool (decide (ZcD ⟨kind,l,a,g⟩)))∧Below W.heap.size W w'):=fun W h=>Zol _ ⟨kind,l,a,g⟩ W ⟨vl,rfl,Q.below h zL,ab,aj⟩
 have p:Hid (∀ X,Below w.heap.size w (w.alloc X)):=fun X=>(Below.refl _ _).alloc zL X
 have bb:=ZZ Q;obtain⟨ao,cap,rfl,-,-,-,hi,aC⟩:=Q;have ba:=ZZ aC;clear aC ab aj;unfold ZCr;by_cases b:ZcD ⟨kind,l,a,g⟩
 ·simp only [if_pos b]
  have HT:=ZZ (decide_eq_true b);have aX:0<=kind:=b.2.2.2.1;have bc:kind<6:=b.2.2.2.2.1;have a0:0<=g:=b.1;have a7:g<=2:=b.2.1;have aW:=Ztb b;rw[Zqh] at aW;have HI:=ZZ hi;have u1:=ZdD (n:=kind.toNat) (by omega)
  have u2:=ZdD (n:=ZeH ⟨0,[],a,g⟩) (by omega)
  have u3:=ZdD (n:=l.length) (by omega)
  have K:Hid (∀ (n:Int),0<=n->n<4611686018427387904->∀ W,Calls prog 132 #[.slice none 0 0,.int .i64 n] W fun e w'=>∃ v',e=.returned v'∧Own w' W.heap.size v' (Lib.uvarint n.toNat)∧Below W.heap.size W w'):=fun n I R W=>by
   have h:=ZeN (.slice none 0 0) [] n W (Rd.nil W) (by simp)
   rw[Zcg I R,nil_append] at h;exact h
  have aE:=ZZ (K.o kind aX (by omega))
  have aq:=ZZ (K.o ((ZeH ⟨0,[],a,g⟩:Nat):Int) (by omega) (by omega))
  have aa:=ZZ (K.o (l.length:Int) (by omega) (by omega))
  rw[Int.toNat_natCast] at aq aa;have S:=ZZ (fun W=>Zmx kind ao l.length cap a g W a0 a7)
  have a9:Hid (∀ x,I64 x->∀ W,Calls prog 142 #[.slice none 0 0,.int .i64 x] W fun e w'=>∃ v',e=.returned v'∧Own w' W.heap.size v' (Lib.uvarint (Lib.zigzag x))∧Below W.heap.size W w'):=fun x T W=>by
   have h:=Zck (.slice none 0 0) [] x W (Rd.nil W) (by simp) T.1 T.2
   rw[nil_append] at h;exact h
  have au:Hid (ZjP ⟨kind,l,a,g⟩=(Lib.uvarint kind.toNat++(Lib.uvarint (ZeH ⟨0,[],a,g⟩)++Lib.uvarint l.length))++ZcR l):=by
   refine ZZ ?_;rw[ZxD];unfold ZxC;rw[Zqh];simp only [append_assoc]
  have aV:Hid (∀ k,(ZcR (l.take k)).length<=10*1000):=fun k=>by
   have R:=Zjp (l.take k) (fun x T=>hi x (List.mem_of_mem_take T))
   have h2:(l.take k).length<=l.length:=by simp;omega
   omega
  have aA:Hid (∀ W N U V F,N=W.heap.size->Rd W U (Lib.uvarint kind.toNat)->Rd W V (Lib.uvarint (ZeH ⟨0,[],a,g⟩))->Rd W F (Lib.uvarint l.length)->Calls prog 131 #[.slice (some ⟨N,0,none⟩) 3 3] (W.alloc (.cells #[U,V,F] 53)) fun e w'=>∃ v',e=.returned v'∧Own w' W.heap.size v' (Lib.uvarint kind.toNat++(Lib.uvarint (ZeH ⟨0,[],a,g⟩)++Lib.uvarint l.length))∧Below W.heap.size W w'):=fun W N U V F hN I R h2=>Zxw W N hN U V F _ _ _ I R h2 (by omega)
  rw[au.o]
  have be:(Lib.uvarint kind.toNat++(Lib.uvarint (ZeH ⟨0,[],a,g⟩)++Lib.uvarint l.length)).length<=30:=by
   simp only [length_append];omega
  clear b hi au K u1 u2 u3;generalize ZeH ⟨0,[],a,g⟩=m at *;generalize Lib.uvarint kind.toNat=A at *;generalize Lib.uvarint m=B at *;generalize Lib.uvarint l.length=C at *;generalize A++(B++C)=H at *
  go_enter func141,ntmps141
  go_wp2_with fail
  refine(ak.o _ (p.o _)).mono ?_;rintro e W1 ⟨rfl,z⟩;rw[HT.o];have j:Bx W1 w.heap.size _:=(z.block w.heap.size (by simp)).trans (heap_alloc_new w _)
  have aL:=ZZ j;have J:=ZZ ((p.o _).trans (z.mono (p.o _).size));obtain⟨p0,-⟩:=j.cell 0;obtain⟨p1,-⟩:=j.cell 1;obtain⟨p2,-⟩:=j.cell 2;obtain⟨p3,-⟩:=j.cell 3;clear z j;go_wp2
  go_region_held(fun w'=>w'.cell? ⟨w.heap.size,0,none⟩=some (.int .i64 kind)∧w'.cell? ⟨w.heap.size,1,none⟩=some (.slice ao l.length cap)∧w'.cell? ⟨w.heap.size,2,none⟩=some (.bool a)∧w'.cell? ⟨w.heap.size,3,none⟩=some (.int .i64 g)) (go_keep)
   (first
    | (go_at_call_of 132 (Value.int .i64 kind);refine(aE.o _).mono ?_;rintro e W2 ⟨F,rfl,ag,an⟩;have q:=aL.o.below (((Below.refl _ _).drew).trans an) zL;have ax:=ZZ q;have am:=ZZ (J.o.trans ((((Below.refl _ _).drew).trans an).mono J.o.size));obtain⟨a2,c2,rfl,-⟩:=ag.rd;have az:=ZZ ag.rd;obtain⟨q0,-⟩:=q.cell 0;obtain⟨q1,-⟩:=q.cell 1;obtain⟨q2,-⟩:=q.cell 2;obtain⟨q3,-⟩:=q.cell 3;clear ag an q)
    | (go_at_call 190;refine(S.o _).mono ?_;rintro e W3 ⟨rfl,O⟩;have d:=ax.o.below O zL;have aP:=ZZ d;have ai:=ZZ (am.o.trans (O.mono am.o.size));have ar:=ZZ (az.o.below O zL);obtain⟨r0,-⟩:=d.cell 0;obtain⟨r1,-⟩:=d.cell 1;obtain⟨r2,-⟩:=d.cell 2;obtain⟨r3,-⟩:=d.cell 3;clear O d)
    | (go_at_call_of 132 (Value.int .i64 (m:Int));refine(aq.o _).mono ?_;rintro e W4 ⟨v4,rfl,ah,Y⟩;have f:=aP.o.below Y zL;have aQ:=ZZ f;have af:=ZZ (ai.o.trans (Y.mono ai.o.size));have aD:=ZZ (ar.o.below Y zL);obtain⟨a4,c4,rfl,-⟩:=ah.rd;have aR:=ZZ ah.rd;obtain⟨s0,-⟩:=f.cell 0;obtain⟨s1,-⟩:=f.cell 1;obtain⟨s2,-⟩:=f.cell 2;obtain⟨s3,-⟩:=f.cell 3;clear ah Y f)
    | (go_at_call_of 132 (Value.int .i64 (l.length:Int));refine(aa.o _).mono ?_;rintro e W5 ⟨v5,rfl,ae,E⟩;have t:=aQ.o.below E zL;have aO:=ZZ t;have Z:=ZZ (af.o.trans (E.mono af.o.size));have aJ:=ZZ (aD.o.below E zL);have av:=ZZ (aR.o.below E zL);obtain⟨a5,c5,rfl,-⟩:=ae.rd;have ay:=ZZ ae.rd;obtain⟨t0,-⟩:=t.cell 0;obtain⟨t1,-⟩:=t.cell 1;obtain⟨t2,-⟩:=t.cell 2;obtain⟨t3,-⟩:=t.cell 3;clear ae E t)
    | (go_at_call 131;refine(aA.o W5 W5.heap.size _ _ _ rfl aJ.o av.o ay.o).mono ?_;rintro e W6 ⟨v6,rfl,aI,al⟩;have u:=aO.o.below al zL;have aT:=ZZ u;have aB:=ZZ (aI.mono Z.o.size);have aH:=ZZ (Z.o.trans (al.mono Z.o.size));obtain⟨y0,-⟩:=u.cell 0;obtain⟨y1,-⟩:=u.cell 1;obtain⟨y2,-⟩:=u.cell 2;obtain⟨y3,-⟩:=u.cell 3;clear aI al u))
  clear p0 p1 p2 p3 q0 q1 q2 q3 r0 r1 r2 r3 s0 s1 s2 s3 t0 t1 t2 t3 aL ax aP aQ aO J am ai af Z az ar aD aJ aR av ay aE aq aa S aA ak;go_wp2
  go_loopw[4,25] (fun vo i wr=>∃ k:Nat,i=.int .i64 k∧k<=l.length∧Hid (Own wr w.heap.size vo (H++ZcR (l.take k)))∧Hid (Below w.heap.size w wr)) (fun _ i _=>l.length-(intOf i).toNat)
  case atStart=>exact⟨0,rfl,Nat.zero_le _,by simpa[ZcR] using aB,aH⟩
  case round=>
   clear y0 y1 y2 y3 aT aB aH;obtain⟨k,rfl,hk,ap,M⟩:=hrel;by_cases G:k<l.length
   ·rcases ba.o with I | ⟨c,aM,rfl,hc⟩
    ·rw[I] at G;simp at G
    have bd:wr.cell? ⟨c,aM+k,none⟩=some (.int .i64 (l.getD k 0)):=(M.out.cell (World.block_lt_of_cell? w ⟨c,aM+k,none⟩ (hc k G))).trans (hc k G);have aK:Hid (I64 (l.getD k 0)):=ZyH HI.o k;have aY:=ZZ (a9.o (l.getD k 0) aK.o)
    have aS:Hid ((H++ZcR (l.take k)).length+(Lib.uvarint (Lib.zigzag (l.getD k 0))).length<=70368744177664):=by
     refine ZZ ?_;have:=aV.o k;have:=ZyG aK.o;rw[length_append];omega
    have S:Hid ((H++ZcR (l.take k))++Lib.uvarint (Lib.zigzag (l.getD k 0))=H++ZcR (l.take (k+1))):=by
     refine ZZ ?_;rw[ZuY l k G,append_assoc]
    clear hc;generalize l.getD k 0=y at *;generalize H++ZcR (l.take k)=P at *;generalize Lib.uvarint (Lib.zigzag y)=D at *
    go_wp2_with fail
    refine(aY.o _).mono ?_;rintro e W7 ⟨v7,rfl,aG,ac⟩;have a8:=ZZ aG.rd;have a3:=ZZ (ap.out.below ac zL);have aN:=ZZ (M.out.trans (ac.mono M.out.size));have a6:=ZZ aN.o.size;clear aG ac
    go_wp2_with(at_builtin;refine ZaE _ rfl _ _ rfl w.heap.size _ P rfl a3.o _ D rfl a8.o aS.o a6.o ?_)
    intro v8 W8 ad aF;rw[S.o] at ad;have aU:=ZZ ad;have a1:=ZZ (aN.o.trans aF);clear ad aF;go_wp2;go_roundw
    case rel=>exact⟨k+1,by go_num,by omega,aU,a1⟩
    case measure=>simp[intOf];omega
   ·have aw:l.take k=l:=take_of_length_le (by omega)
    rw[aw] at ap;clear aw;go_wp2;go_ret2;exact⟨_,rfl,ap.out.rd,M.out⟩
 ·simp only [if_neg b]
  have HT:=ZZ (decide_eq_false b);clear b
  go_enter func141,ntmps141
  go_wp2_with fail
  refine(ak.o _ (p.o _)).mono ?_;rintro e W1 ⟨rfl,z⟩;rw[HT.o];have J:=ZZ ((p.o _).trans (z.mono (p.o _).size));clear z;go_wp2;go_ret2;exact⟨_,rfl,Rd.nil _,J.o⟩
def ZAU (i n m:Nat):List UInt8:=115::(Lib.uvarint 3++(Lib.uvarint i++(Lib.uvarint n++Lib.leBytes 4 m)))
theorem ZzB (i:Nat) (l:List UInt8):ZAU i l.length (Zaz 0 l)=Ziu i l:=rfl
theorem ZxE (W:World) (N:Nat) (a:N=W.heap.size):Rd (W.alloc (.cells #[.int .u8 115] 5)) (.slice (some ⟨N,0,none⟩) 1 1) [115]:=by
 subst a;refine⟨some ⟨W.heap.size,0,none⟩,1,rfl,Nat.le_refl _,by unfold maxLen;omega,(fun h=>by cases h),.inr ⟨W.heap.size,0,rfl,fun j b=>?_⟩⟩
 have e:j=0:=by simpa using b
 subst e;rw[cell_of_row _ W.heap.size _ _ 5 (0,0) (heap_alloc_new W _)];rfl
theorem ZBQ (W:World) (N:Nat) (a:N=W.heap.size):Rd (W.alloc (.cells #[.int .u8 115] 5)).drew (.slice (some ⟨N,0,none⟩) 1 1) [115]:=
 (ZxE W N a).below (((Below.refl _ _)).drew) zL
theorem ZAV (W:World) (N:Nat) (y:N=W.heap.size) (k i g h l:Value) (f d a c b:List UInt8) (v:Rd W k f) (z:Rd W i d) (w:Rd W g a) (q:Rd W h c) (p:Rd W l b) (A:f.length+d.length+a.length+c.length+b.length<=1000000):
 Calls prog 131 #[.slice (some ⟨N,0,none⟩) 5 5] (W.alloc (.cells #[k,i,g,h,l] 53)) fun e w'=>∃ v',e=.returned v'∧Own w' W.heap.size v' (f++(d++(a++(c++b))))∧Below W.heap.size W w':=by
 have x:=RdL.built W N y #[k,i,g,h,l] [f,d,a,c,b] (by simp) (fun j n=>by
  match j,n with
  | 0,_=>exact⟨k,rfl,v⟩
  | 1,_=>exact⟨i,rfl,z⟩
  | 2,_=>exact⟨g,rfl,w⟩
  | 3,_=>exact⟨h,rfl,q⟩
  | 4,_=>exact⟨l,rfl,p⟩)
 refine(Zgv _ _ _ x (by simp;omega) (by simp)).mono ?_
 rintro e w' ⟨v',rfl,m,u⟩;have t:[f,d,a,c,b].flatten=f++(d++(a++(c++b))):=by simp
 rw[t] at m;exact⟨v',rfl,m.mono (by simp),((Below.refl _ _).alloc zL _).trans (u.mono (by simp))⟩
def Bm (w:World) (b:Nat) (x y z:Value):Prop:=w.heap[b]?=some (.cells #[x,y,z] 147 (0,0))
theorem Bm.lt (h:Bm w b x y z):b<w.heap.size:=(Array.getElem?_eq_some_iff.1 h).1
theorem Bm.below {w':World} (h:Bm w b x y z) (a:Below B w w') (c:w.heap.size<=B):Bm w' b x y z:=(a.block b (by have:=h.lt;omega)).trans h
theorem Bm.cells (h:Bm w b x y z):w.cell? ⟨b,0,none⟩=some x∧w.cell? ⟨b,1,none⟩=some y∧w.cell? ⟨b,2,none⟩=some z:=
 ⟨cell_of_row w b 0 _ _ _ h,cell_of_row w b 1 _ _ _ h,cell_of_row w b 2 _ _ _ h⟩
theorem ZzC (i n:Int) (m:Nat) (w:World) (hi:0<=i∧i<4611686018427387904) (hn:0<=n∧n<4611686018427387904) (hm:m<4294967296):
 Calls prog 101 #[.agg #[.int .i64 i,.int .i64 n,.int .u32 (m:Int)]] w fun e w'=>∃ v',e=.returned v'∧Own w' w.heap.size v' (ZAU i.toNat n.toNat m)∧Below w.heap.size w w':=by
 have R:Hid (∀ k W,0<=k->k<4611686018427387904->Calls prog 132 #[.slice none 0 0,.int .i64 k] W fun e w'=>∃ v',e=.returned v'∧Own w' W.heap.size v' (Lib.uvarint k.toNat)∧Below W.heap.size W w'):=ZZ (fun k W h0 h1=>by
  have h:=ZeN (.slice none 0 0) [] k W (Rd.nil W) (by simp)
  rw[Zcg h0 h1,nil_append] at h
  exact h)
 have an:=ZZ (fun W=>R.o 3 W (by omega) (by omega))
 have aj:=ZZ (fun W=>R.o i W hi.1 hi.2)
 have ae:=ZZ (fun W=>R.o n W hn.1 hn.2)
 have aa:=ZZ (fun W=>ZkO m W hm)
 have q1:(Lib.uvarint (3:Int).toNat).length<=10:=ZdD (by decide)
 have q2:(Lib.uvarint i.toNat).length<=10:=ZdD (by omega)
 have q3:(Lib.uvarint n.toNat).length<=10:=ZdD (by omega)
 have q4:(Lib.leBytes 4 m).length<=10:=by rw[Lib.leBytes_length];decide
 have HE:Hid (ZAU i.toNat n.toNat m=[115]++(Lib.uvarint (3:Int).toNat++(Lib.uvarint i.toNat++(Lib.uvarint n.toNat++Lib.leBytes 4 m)))):=ZZ rfl;rw[HE.o];have am:=ZZ (fun W N v0 v1 T Q V hN h0 h1 h2 h3 h4=>ZAV W N hN v0 v1 T Q V [115] (Lib.uvarint (3:Int).toNat) (Lib.uvarint i.toNat) (Lib.uvarint n.toNat) (Lib.leBytes 4 m) h0 h1 h2 h3 h4 (by simp only [length_singleton];omega))
 generalize Lib.uvarint (3:Int).toNat=L1 at *;generalize Lib.uvarint i.toNat=L2 at *;generalize Lib.uvarint n.toNat=L3 at *;generalize Lib.leBytes 4 m=L4 at *;generalize [115]++(L1++(L2++(L3++L4)))=LL at *;obtain⟨M,hM⟩:∃ M:Int,M=(m:Int):=⟨_,rfl⟩;rw[<-hM] at aa ⊢;clear hM HE R q1 q2 q3 q4 hi hn hm;obtain⟨a,Y⟩:∃ a,a=w.alloc (.cells #[.int .i64 i,.int .i64 n,.int .u32 M] 147):=⟨_,rfl⟩;have U:Hid (Below w.heap.size w a):=ZZ (by rw[Y];exact(Below.refl _ _).alloc zL _)
 have ar:Hid (Bm a w.heap.size (.int .i64 i) (.int .i64 n) (.int .u32 M)):=ZZ (by rw[Y];exact heap_alloc_new w _)
 have l:Hid (∀ W,Below a.heap.size a W->W.cell? ⟨w.heap.size,0,none⟩=some (.int .i64 i)∧W.cell? ⟨w.heap.size,1,none⟩=some (.int .i64 n)∧W.cell? ⟨w.heap.size,2,none⟩=some (.int .u32 M)):=ZZ (fun W h=>(ar.o.below h zL).cells)
 have z:Hid (∀ W X,Below a.heap.size a W->Below a.heap.size a (W.alloc X)):=ZZ (fun W X h=>h.alloc h.size X)
 have av:Hid (∀ W,Below a.heap.size a W->Below a.heap.size a W.drew):=ZZ (fun W h=>h.drew)
 have ai:Hid (Below a.heap.size a a.drew):=ZZ ((Below.refl _ _).drew);have af:Hid (Below a.heap.size a (a.alloc (.cells #[.int .u8 115] 5)).drew):=ZZ (((Below.refl _ _).alloc zL _).drew)
 go_enter func101,ntmps101
 go_upto_region 1 with fail
 rw[<-Y];clear Y;have E:Hid (∀ args w,(callFunc 132 args).run prog w=.ok (.enter 132 args) w):=ZZ (enters_of func132 (by kernel_rfl) rfl)
 have ag:Hid (∀ args w,(callFunc 135 args).run prog w=.ok (.enter 135 args) w):=ZZ (enters_of func135 (by kernel_rfl) rfl)
 have ak:Hid (∀ args w,(callFunc 131 args).run prog w=.ok (.enter 131 args) w):=ZZ (enters_of func131 (by kernel_rfl) rfl)
 go_region_held2(fun w'=>w'.cell? ⟨w.heap.size,0,none⟩=some (.int .i64 i)∧w'.cell? ⟨w.heap.size,1,none⟩=some (.int .i64 n)∧w'.cell? ⟨w.heap.size,2,none⟩=some (.int .u32 M))
  (first | (with_reducible exact l.o _ ai.o) | (with_reducible exact l.o _ af.o) | (with_reducible exact l.o _ ah) | (with_reducible exact l.o _ q) | (with_reducible exact l.o _ x) | (with_reducible exact l.o _ y) | (with_reducible exact l.o _ B) | (with_reducible exact l.o _ (z.o _ _ q)) | (with_reducible exact l.o _ (z.o _ _ x)) | (with_reducible exact l.o _ (z.o _ _ y)) | (with_reducible exact l.o _ (z.o _ _ B)) | (with_reducible exact l.o _ (z.o _ _ (z.o _ _ q))))
  (first
   | ((with_reducible refine Zbp 132 _ _ rfl rfl #[.slice none 0 0,.int .i64 3] (by simp[Act.eval]) E.o (an.o a.drew) ?_);rintro v1 j ⟨F,G⟩;have B:Below a.heap.size a j:=ai.o.trans (G.mono ai.o.size);obtain⟨a1,c1,c,-⟩:=F.rd;subst c;have ad:=ZZ F.rd;clear F G)
   | ((with_reducible refine Zbp 132 _ _ rfl rfl #[.slice none 0 0,.int .i64 3] (by simp[Act.eval]) E.o (an.o (a.alloc (.cells #[.int .u8 115] 5)).drew) ?_);rintro v1 j ⟨F,G⟩;have B:Below a.heap.size a j:=af.o.trans (G.mono af.o.size);have au:=ZZ ((ZBQ a _ rfl).below G zL);obtain⟨a1,c1,c,-⟩:=F.rd;subst c;have ad:=ZZ F.rd;clear F G)
   | (have p:=au.o;(with_reducible refine Zbp 132 _ _ rfl rfl #[.slice none 0 0,.int .i64 i] (by simp[Act.eval]) E.o (aj.o j) ?_);rintro T d ⟨t,D⟩;have b:Below j.heap.size j d:=D;have y:Below a.heap.size a d:=B.trans (b.mono B.size);have aq:=ZZ (p.below b zL);clear p;have H:=ZZ (ad.o.below b zL);clear b;obtain⟨a2,c2,c,-⟩:=t.rd;subst c;have K:=ZZ t.rd;clear t D)
   | ((with_reducible refine Zbp 132 _ _ rfl rfl #[.slice none 0 0,.int .i64 i] (by simp[Act.eval]) E.o (aj.o j) ?_);rintro T d ⟨t,D⟩;have b:Below j.heap.size j d:=D;have y:Below a.heap.size a d:=B.trans (b.mono B.size);have H:=ZZ (ad.o.below b zL);clear b;obtain⟨a2,c2,c,-⟩:=t.rd;subst c;have K:=ZZ t.rd;clear t D)
   | ((with_reducible refine Zbp 132 _ _ rfl rfl #[.slice none 0 0,.int .i64 i] (by simp[Act.eval]) E.o (aj.o (j.alloc (.cells #[.int .u8 115] 5))) ?_);rintro T d ⟨t,D⟩;have b:Below j.heap.size j d:=((Below.refl _ _).alloc zL _).trans (D.mono (by simp));have y:Below a.heap.size a d:=B.trans (b.mono B.size);have aq:=ZZ ((ZxE j _ rfl).below D zL);have H:=ZZ (ad.o.below b zL);clear b;obtain⟨a2,c2,c,-⟩:=t.rd;subst c;have K:=ZZ t.rd;clear t D)
   | (have p:=aq.o;(with_reducible refine Zbp 132 _ _ rfl rfl #[.slice none 0 0,.int .i64 n] (by simp[Act.eval]) E.o (ae.o d) ?_);rintro Q f ⟨v,A⟩;have b:Below d.heap.size d f:=A;have x:Below a.heap.size a f:=y.trans (b.mono y.size);have ao:=ZZ (p.below b zL);clear p;have O:=ZZ (H.o.below b zL);have P:=ZZ (K.o.below b zL);clear b;obtain⟨a3,c3,c,-⟩:=v.rd;subst c;have L:=ZZ v.rd;clear v A)
   | ((with_reducible refine Zbp 132 _ _ rfl rfl #[.slice none 0 0,.int .i64 n] (by simp[Act.eval]) E.o (ae.o d) ?_);rintro Q f ⟨v,A⟩;have b:Below d.heap.size d f:=A;have x:Below a.heap.size a f:=y.trans (b.mono y.size);have O:=ZZ (H.o.below b zL);have P:=ZZ (K.o.below b zL);clear b;obtain⟨a3,c3,c,-⟩:=v.rd;subst c;have L:=ZZ v.rd;clear v A)
   | ((with_reducible refine Zbp 132 _ _ rfl rfl #[.slice none 0 0,.int .i64 n] (by simp[Act.eval]) E.o (ae.o (d.alloc (.cells #[.int .u8 115] 5))) ?_);rintro Q f ⟨v,A⟩;have b:Below d.heap.size d f:=((Below.refl _ _).alloc zL _).trans (A.mono (by simp));have x:Below a.heap.size a f:=y.trans (b.mono y.size);have ao:=ZZ ((ZxE d _ rfl).below A zL);have O:=ZZ (H.o.below b zL);have P:=ZZ (K.o.below b zL);clear b;obtain⟨a3,c3,c,-⟩:=v.rd;subst c;have L:=ZZ v.rd;clear v A)
   | (have p:=ao.o;(with_reducible refine Zbp 135 _ _ rfl rfl #[.int .u32 M] (by simp[Act.eval]) ag.o (aa.o f) ?_);rintro V g ⟨u,C⟩;have b:Below f.heap.size f g:=C;have q:Below a.heap.size a g:=x.trans (b.mono x.size);have ap:=ZZ (p.below b zL);clear p;have S:=ZZ (O.o.below b zL);have Z:=ZZ (P.o.below b zL);have ab:=ZZ (L.o.below b zL);clear b;obtain⟨a4,c4,c,-⟩:=u.rd;subst c;have ac:=ZZ u.rd;clear u C)
   | ((with_reducible refine Zbp 135 _ _ rfl rfl #[.int .u32 M] (by simp[Act.eval]) ag.o (aa.o f) ?_);rintro V g ⟨u,C⟩;have b:Below f.heap.size f g:=C;have q:Below a.heap.size a g:=x.trans (b.mono x.size);have S:=ZZ (O.o.below b zL);have Z:=ZZ (P.o.below b zL);have ab:=ZZ (L.o.below b zL);clear b;obtain⟨a4,c4,c,-⟩:=u.rd;subst c;have ac:=ZZ u.rd;clear u C)
   | ((with_reducible refine Zbp 135 _ _ rfl rfl #[.int .u32 M] (by simp[Act.eval]) ag.o (aa.o (f.alloc (.cells #[.int .u8 115] 5))) ?_);rintro V g ⟨u,C⟩;have b:Below f.heap.size f g:=((Below.refl _ _).alloc zL _).trans (C.mono (by simp));have q:Below a.heap.size a g:=x.trans (b.mono x.size);have ap:=ZZ ((ZxE f _ rfl).below C zL);have S:=ZZ (O.o.below b zL);have Z:=ZZ (P.o.below b zL);have ab:=ZZ (L.o.below b zL);clear b;obtain⟨a4,c4,c,-⟩:=u.rd;subst c;have ac:=ZZ u.rd;clear u C)
   | (have p:=ap.o;(with_reducible refine Zbp 131 _ _ rfl rfl #[.slice (some ⟨g.heap.size,0,none⟩) 5 5] (by simp[Act.eval]) ak.o (am.o g g.heap.size _ _ _ _ _ rfl p S.o Z.o ab.o ac.o) ?_);rintro v5 W5 ⟨J,I⟩;have ah:Below a.heap.size a W5:=q.trans (I.mono q.size);have al:=ZZ (J.mono (Nat.le_trans U.o.size q.size));clear J I p)
   | (refine Zbp 131 _ _ rfl rfl #[.slice (some ⟨g.heap.size+1,0,none⟩) 5 5] (by simp[Act.eval]) ak.o (am.o (g.alloc (.cells #[.int .u8 115] 5)) (g.heap.size+1) _ _ _ _ _ (by simp) (ZxE g _ rfl) (S.o.below ((Below.refl _ _).alloc zL _) zL) (Z.o.below ((Below.refl _ _).alloc zL _) zL) (ab.o.below ((Below.refl _ _).alloc zL _) zL) (ac.o.below ((Below.refl _ _).alloc zL _) zL)) ?_;rintro v5 W5 ⟨J,I⟩;have ah:Below a.heap.size a W5:=(z.o _ _ q).trans (I.mono (z.o _ _ q).size);have al:=ZZ (J.mono (Nat.le_trans U.o.size (z.o _ _ q).size));clear J I))
 all_goals
  go_wp2;go_ret;exact⟨_,rfl,al.o,U.o.trans (ah.mono U.o.size)⟩
theorem Zsa (t:List Ent) (q:Nat) (a:q<t.length):Zcs (t.take (q+1))=Zcs (t.take q)++ZyS (t.getD q ZaP):=by
 have b:t.take (q+1)=t.take q++[t.getD q ZaP]:=by
  rw[take_add_one,List.getElem?_eq_getElem a];simp[List.getD,a]
 rw[b];unfold Zcs;rw[List.flatMap_append];simp
theorem Zov (t:List Ent) (q:Nat):(Zcs (t.take q)).length<=(Zcs t).length:=by
 have h:Zcs t=Zcs (t.take q)++Zcs (t.drop q):=by
  unfold Zcs;rw[<-List.flatMap_append,List.take_append_drop]
 rw[h,length_append];omega
theorem Zsb (v:Value) (s:ZaW) (w:World) (hs:SnV w v s) (j:ZgA s):
 Calls prog 99 #[v] w fun e w'=>∃ v',e=.returned v'∧Own w' w.heap.size v' (Zbc s)∧Below w.heap.size w w':=by
 obtain⟨vl,vt,rfl,T,E,A,ht,hi⟩:=hs;have bi:=Zkr j.2.1;have bh:=Zpm j.2.2;have ax:=Zfa j;have bk:=Zwy j.2.1;have J:=ZZ (fun W (h:Below w.heap.size w W)=>Zlw (.agg #[.int .i64 s.st.kind,vl,.bool s.st.shut,.int .i64 s.st.eng]) s.st W ⟨vl,rfl,T.below h zL,E,A⟩ (by omega))
 unfold ZCr at J;rw[if_pos j.2.1,if_pos j.2.1] at J;have aH:Hid (∀ q,q<s.tab.length->Zfo (s.tab.getD q ZaP)):=ZZ (fun q O=>(j.2.2 q O).1)
 have x:Hid (∀ b l k W,Rd W b l->l.length<=10000->0<=k->k<4611686018427387904->Calls prog 132 #[b,.int .i64 k] W fun e w'=>∃ v',e=.returned v'∧Own w' W.heap.size v' (l++Lib.uvarint k.toNat)∧Below W.heap.size W w'):=ZZ (fun b l k W h T B m=>by
  have h:=ZeN b l k W h (by omega)
  rw[Zcg B m] at h
  exact h)
 have aU:Hid (∀ b l k W,Rd W b l->l.length<=10000->I64 k->Calls prog 142 #[b,.int .i64 k] W fun e w'=>∃ v',e=.returned v'∧Own w' W.heap.size v' (l++Lib.uvarint (Lib.zigzag k))∧Below W.heap.size W w'):=ZZ (fun b l k W h T E=>Zck b l k W h (by omega) E.1 E.2)
 have aE:Hid (∀ q,q<s.tab.length->Zcs (s.tab.take (q+1))=Zcs (s.tab.take q)++ZyS (s.tab.getD q ZaP)):=ZZ (fun q O=>Zsa _ q O)
 have aS:Hid (∀ q,(Zcs (s.tab.take q)).length<=(Zcs s.tab).length):=ZZ (fun q=>Zov _ q)
 have HW:Hid (Zbc s=(Lib.uvarint (ZjP s.st).length++(ZjP s.st++Lib.uvarint s.tab.length))++Zcs s.tab):=ZZ (by
  unfold Zbc ZBA
  simp only [append_assoc])
 have aQ:Hid ((Lib.uvarint (ZjP s.st).length++(ZjP s.st++Lib.uvarint s.tab.length)).length+(Zcs s.tab).length<=5000):=ZZ (by
  rw[HW.o,length_append] at ax
  exact ax)
 rw[HW.o];have u1:(Lib.uvarint (ZjP s.st).length).length<=10:=ZdD (by omega)
 have u3:(Lib.uvarint s.tab.length).length<=10:=ZdD (by omega)
 have aF:Hid (∀ W,Calls prog 132 #[.slice none 0 0,.int .i64 ((ZjP s.st).length:Int)] W fun e w'=>∃ v',e=.returned v'∧Own w' W.heap.size v' (Lib.uvarint (ZjP s.st).length)∧Below W.heap.size W w'):=ZZ (fun W=>by
  have h:=x.o (.slice none 0 0) [] ((ZjP s.st).length:Int) W (Rd.nil W) (by simp) (by omega) (by omega)
  rw[nil_append,Int.toNat_natCast] at h
  exact h)
 have F:Hid (∀ W,Calls prog 132 #[.slice none 0 0,.int .i64 (s.tab.length:Int)] W fun e w'=>∃ v',e=.returned v'∧Own w' W.heap.size v' (Lib.uvarint s.tab.length)∧Below W.heap.size W w'):=ZZ (fun W=>by
  have h:=x.o (.slice none 0 0) [] (s.tab.length:Int) W (Rd.nil W) (by simp) (by omega) (by omega)
  rw[nil_append,Int.toNat_natCast] at h
  exact h)
 have aC:Hid (∀ W N X b z,N=W.heap.size->Rd W X (Lib.uvarint (ZjP s.st).length)->Rd W b (ZjP s.st)->Rd W z (Lib.uvarint s.tab.length)->Calls prog 131 #[.slice (some ⟨N,0,none⟩) 3 3] (W.alloc (.cells #[X,b,z] 53)) fun e w'=>∃ v',e=.returned v'∧Own w' W.heap.size v' (Lib.uvarint (ZjP s.st).length++(ZjP s.st++Lib.uvarint s.tab.length))∧Below W.heap.size W w'):=ZZ (fun W N X b z hN B m h2=>Zxw W N hN X b z _ _ _ B m h2 (by omega))
 obtain⟨ta,M,bc,-,-,-,-,aN⟩:=ht;subst bc;have aM:=ZZ aN;obtain⟨la,lc,aW,-⟩:=T;subst aW;obtain⟨idx,⟨kind,L,Z,U⟩,d⟩:=s
 dsimp only at *
 clear E A hi j bi ax bk u1 u3 HW aN;have bq:(d.length:Int)<=65:=by omega
 clear bh;generalize ZjP ⟨kind,L,Z,U⟩=ES at *;generalize Lib.uvarint ES.length=U1 at *;generalize Lib.uvarint d.length=U3 at *;generalize U1++(ES++U3)=H at *;obtain⟨K,Y⟩:∃ K,K=w.alloc (.cells #[.int .i64 idx,.int .i64 kind,.slice la L.length lc,.bool Z,.int .i64 U,.slice ta d.length M] 41):=⟨_,rfl⟩;have S:Hid (Below w.heap.size w K):=ZZ (by rw[Y];exact(Below.refl _ _).alloc zL _)
 have t:Hid (Bn K w.heap.size #[.int .i64 idx,.int .i64 kind,.slice la L.length lc,.bool Z,.int .i64 U,.slice ta d.length M]):=ZZ (by rw[Y];exact heap_alloc_new w _)
 obtain⟨p1,-⟩:=t.o.cell 1;obtain⟨p2,-⟩:=t.o.cell 2;obtain⟨p3,-⟩:=t.o.cell 3;obtain⟨p4,-⟩:=t.o.cell 4
 go_enter func99,ntmps99
 go_upto_region 1 with fail
 rw[<-Y];clear Y
 go_wp2_with fail
 refine(J.o _ S.o).mono ?_;rintro e W1 ⟨b,rfl,aR,ar⟩;have av:=ZZ (t.o.below ar zL);have au:=ZZ (S.o.trans (ar.mono S.o.size));have aG:=ZZ aR;obtain⟨a1,Q,a0,-⟩:=aR;subst a0;obtain⟨q5,-⟩:=av.o.cell 5;clear ar J t S p1 p2 p3 p4
 go_upto_region 2 with fail
 go_cut[5] (fun vo wc=>Hid (Own wc w.heap.size vo H)∧Hid (Bn wc w.heap.size #[.int .i64 idx,.int .i64 kind,.slice la L.length lc,.bool Z,.int .i64 U,.slice ta d.length M])∧Hid (Below w.heap.size w wc))
 case first=>
  go_region_held(fun w'=>w'.cell? ⟨w.heap.size,5,none⟩=some (.slice ta d.length M)) (go_keep)
   (first
    | (go_at_call_of 132 (Value.int .i64 (ES.length:Int));refine(aF.o _).mono ?_;rintro e W2 ⟨z,rfl,ai,aT⟩;have V:Below W1.heap.size W1 W2:=((Below.refl _ _).drew).trans aT;have al:=av.o.below V zL;have aZ:=ZZ al;have aP:=ZZ (au.o.trans (V.mono au.o.size));have a5:=ZZ (aG.o.below V zL);obtain⟨a2,G,rfl,-⟩:=ai.rd;have a9:=ZZ ai.rd;obtain⟨r5,-⟩:=al.cell 5;clear ai aT al V)
    | (go_at_call_of 132 (Value.int .i64 (d.length:Int));refine(F.o _).mono ?_;rintro e W3 ⟨v3,rfl,ak,y⟩;have ag:=aZ.o.below y zL;have bm:=ZZ ag;have an:=ZZ (aP.o.trans (y.mono aP.o.size));have bj:=ZZ (a5.o.below y zL);have aY:=ZZ (a9.o.below y zL);obtain⟨a3,c3,rfl,-⟩:=ak.rd;have be:=ZZ ak.rd;obtain⟨s5,-⟩:=ag.cell 5;clear ak y ag)
    | (go_at_call 131;refine(aC.o W3 W3.heap.size _ _ _ rfl aY.o bj.o be.o).mono ?_;rintro e W4 ⟨v4,rfl,aI,ap⟩;have ah:=bm.o.below ap zL;have bo:=ZZ ah;have bb:=ZZ (an.o.trans (ap.mono an.o.size));have bp:=ZZ (aI.mono an.o.size);obtain⟨t5,-⟩:=ah.cell 5;clear aI ap ah))
  all_goals
   go_wp2_with fail
   go_meet
   exact⟨bp,bo,bb⟩
 case rest=>
  obtain⟨WC,rfl⟩:∃ W,W=wc:=⟨_,rfl⟩;obtain⟨HO,HX,HB⟩:=hcut;obtain⟨bd,-⟩:=HX.o.cell 5;clear av au aG q5 aF F aC;go_wp2
  go_loopw[5,27] (fun vo vi wr=>∃ q:Nat,vi=.int .i64 (q:Int)∧q<=d.length∧Hid (Own wr w.heap.size vo (H++Zcs (d.take q)))∧Hid (Below w.heap.size w wr)) (fun _ vi _=>d.length-(intOf vi).toNat)
  case atStart=>exact⟨0,rfl,Nat.zero_le _,by simpa[Zcs] using HO,HB⟩
  case round=>
   clear HO HX HB bd;obtain⟨q,rfl,O,hO,D⟩:=hrel;by_cases p:q<d.length
   case neg=>
    obtain rfl:q=d.length:=by omega
    rw[take_length] at hO;go_wp2;go_ret;exact⟨_,rfl,hO.out,D.out⟩
   have br:(q:Int)<(d.length:Int):=by omega
   rcases aM.o with B | ⟨c,bu,rfl,hc⟩
   ·rw[B] at p;simp at p
   obtain⟨c0,Q,G⟩:=(hc q p).keep (D.out.block c (hc q p).lt);have am:=ZZ (aH.o q p);have I:=ZZ (aE.o q p)
   have ac:Hid ((H++Zcs (d.take q)).length<=5000):=ZZ (by
    have m:=aS.o q;have h2:=aQ.o;rw[length_append]
    omega)
   obtain⟨e,A⟩:∃ e,e=d.getD q ZaP:=⟨_,rfl⟩;rw[<-A] at c0 Q G am I;clear A hc aH aE aS aM aQ;obtain⟨f,g,n⟩:=e;have aL:Hid (ZyS ⟨f,g,n⟩=Lib.uvarint f.toNat++(Lib.uvarint g.toNat++Lib.uvarint (Lib.zigzag n))):=ZZ rfl;rw[aL.o,<-append_assoc] at I
   have aA:Hid (H++Zcs (d.take (q+1))=(((H++Zcs (d.take q))++Lib.uvarint f.toNat)++Lib.uvarint g.toNat)++Lib.uvarint (Lib.zigzag n)):=ZZ (by
    rw[I.o]
    simp only [append_assoc])
   have i:Hid ((0<=f∧f<4611686018427387904)∧(0<=g∧g<4611686018427387904)∧I64 n):=ZZ (by
    obtain⟨m,h2,h3,h4,h5,h6⟩:=am.o
    dsimp only at m h2 h3 h4 h5 h6
    exact⟨⟨m,by omega⟩,⟨h3,h4⟩,⟨by omega,by omega⟩⟩)
   have u1:(Lib.uvarint f.toNat).length<=10:=ZdD (by have:=i.o;omega)
   have u2:(Lib.uvarint g.toNat).length<=10:=ZdD (by have:=i.o;omega)
   dsimp only at c0 Q G
   generalize H++Zcs (d.take q)=P at *;have aX:=ZZ (fun b W h=>x.o b P f W h (by have:=ac.o;omega) i.o.1.1 i.o.1.2)
   have a8:=ZZ (fun b W h=>x.o b (P++Lib.uvarint f.toNat) g W h (by have:=ac.o;rw[length_append];omega) i.o.2.1.1 i.o.2.1.2)
   have ad:=ZZ (fun b W h=>aU.o b ((P++Lib.uvarint f.toNat)++Lib.uvarint g.toNat) n W h (by have:=ac.o;rw[length_append,length_append];omega) i.o.2.2)
   rw[<-aA.o] at ad;clear x aU I aL aA ac u1 u2 i am;generalize P++Lib.uvarint f.toNat=P1 at *;generalize P1++Lib.uvarint g.toNat=P2 at *;obtain⟨P3,ae⟩:∃ P3,P3=H++Zcs (d.take (q+1)):=⟨_,rfl⟩;rw[<-ae] at ad;have F:=ZZ ae;clear ae
   go_upto_region 6 with fail
   obtain⟨u,ab⟩:∃ u,u=wr.alloc (.cells #[.int .i64 f,.int .i64 g,.int .i64 n] 85):=⟨_,rfl⟩;have aq:Hid (Below wr.heap.size wr u):=ZZ (by rw[ab];exact(Below.refl _ _).alloc zL _)
   have R:Hid (Be u wr.heap.size #[.int .i64 f,.int .i64 g,.int .i64 n]):=ZZ (by rw[ab];exact heap_alloc_new wr _)
   rw[<-ab];clear ab c0 Q G;obtain⟨QB,aV⟩:∃ QB,QB=wr.heap.size:=⟨_,rfl⟩;rw[<-aV] at R ⊢;clear aV;have aD:=ZZ (hO.out.rd.below aq.o zL);have az:=ZZ (D.out.trans (aq.o.mono D.out.size));obtain⟨va,vc,bn⟩:∃ a c,u5=.slice a P.length c:=by obtain⟨a,c,h,-⟩:=aD.o;exact⟨a,c,h⟩
   subst bn;obtain⟨x0,-⟩:=R.o.cell 0;obtain⟨x1,-⟩:=R.o.cell 1;clear hO D aq
   go_region_held(fun w'=>w'.cell? ⟨QB,0,none⟩=some (.int .i64 f)∧w'.cell? ⟨QB,1,none⟩=some (.int .i64 g)) (go_keep)
    (first
     | (go_at_call_of 132 (Value.int .i64 f);refine(aX.o _ _ (aD.o.below ((Below.refl _ _).drew) zL)).mono ?_;rintro e W6 ⟨v6,rfl,ao,aO⟩;have ay:Below u.heap.size u W6:=((Below.refl _ _).drew).trans aO;have aa:=R.o.below ay zL;have bf:=ZZ aa;have aK:=ZZ (az.o.trans (ay.mono az.o.size));obtain⟨a6,c6,rfl,-⟩:=ao.rd;have ba:=ZZ ao.rd;obtain⟨y0,-⟩:=aa.cell 0;obtain⟨y1,-⟩:=aa.cell 1;clear ao aO aa ay)
     | (go_at_call_of 132 (Value.int .i64 g);refine(a8.o _ _ ba.o).mono ?_;rintro e W7 ⟨v7,rfl,aj,af⟩;have C:=bf.o.below af zL;have bt:=ZZ C;have aw:=ZZ (aK.o.trans (af.mono aK.o.size));obtain⟨a7,c7,rfl,-⟩:=aj.rd;have bl:=ZZ aj.rd;obtain⟨z0,-⟩:=C.cell 0;obtain⟨z1,-⟩:=C.cell 1;obtain⟨z2,-⟩:=C.cell 2;clear aj af C))
   all_goals
    go_wp2_with fail
    refine(ad.o _ _ bl.o).mono ?_;rintro e W8 ⟨v8,rfl,aB,aJ⟩;have bg:=ZZ (aw.o.trans (aJ.mono aw.o.size));have a4:=ZZ (aB.mono aw.o.size);clear aB aJ;go_wp2;go_roundw
    case rel=>exact⟨q+1,by go_num,by omega,ZZ (by rw[<-F.o];exact a4.o),bg⟩
    case measure=>simp[intOf];omega
theorem ZxF (E:Value) (a:St) (B:Value) (b:St) (w:World) (O:StV w E a) (L:StV w B b):
 Calls prog 45 #[E,B] w fun e w'=>e=.returned (.bool (decide (ZoY a b)))∧Below w.heap.size w w':=by
 obtain⟨C,rfl,A,-,-⟩:=O;obtain⟨D,rfl,v,-,-⟩:=L;obtain⟨q,z,l,k⟩:=a;obtain⟨p,u,n,m⟩:=b;simp only at A v ⊢;have K:Hid (∀ W,Below w.heap.size w W->Calls prog 89 #[C,D] W fun e w'=>e=.returned (.bool (decide (z=u)))∧Below W.heap.size W w'):=fun W h=>ZuG C z D u W (A.below h zL) (v.below h zL)
 have f:Hid (∀ x y,Below w.heap.size w ((w.alloc x).alloc y)):=fun x y=>((Below.refl _ _).alloc zL x).alloc (by simp) y
 obtain⟨R,t⟩:∃ R,R=decide (ZoY ⟨q,z,l,k⟩ ⟨p,u,n,m⟩):=⟨_,rfl⟩;rw[<-t];have j:=Zac t;clear t A v;by_cases g:q=p
 ·have G:(q == p)=true:=beq_iff_eq.2 g
  have M:=Zac g;clear g;by_cases d:l=n
  ·have H:(l == n)=true:=beq_iff_eq.2 d
   have J:=Zac d;clear d;by_cases c:k=m
   ·have N:(k == m)=true:=beq_iff_eq.2 c
    have P:=Zac c;clear c
    go_enter func45,ntmps45
    go_wp2_with fail
    refine(K.o _ (f.o _ _)).mono ?_;rintro e Q ⟨rfl,F⟩;have I:=Zac ((f.o _ _).trans (F.mono (f.o _ _).size));clear F;go_wp2;go_ret;refine⟨ZbZ ?_,I.o⟩;rw[j.o];exact decide_eq_decide.2 ⟨fun h=>⟨M.o,J.o,P.o,h⟩,fun h=>h.2.2.2⟩
   ·have N:(k == m)=false:=beq_eq_false_iff_ne.2 c
    have i:Hid (R=false):=j.o.trans (decide_eq_false fun h=>c h.2.2.1)
    clear c
    go_enter func45,ntmps45
    go_wp2;go_ret;exact⟨ZbZ i.o.symm,f.o _ _⟩
  ·have H:(l == n)=false:=beq_eq_false_iff_ne.2 d
   have i:Hid (R=false):=j.o.trans (decide_eq_false fun h=>d h.2.1)
   clear d
   go_enter func45,ntmps45
   go_wp2;go_ret;exact⟨ZbZ i.o.symm,f.o _ _⟩
 ·have G:(q == p)=false:=beq_eq_false_iff_ne.2 g
  have i:Hid (R=false):=j.o.trans (decide_eq_false fun h=>g h.1)
  clear g
  go_enter func45,ntmps45
  go_wp2;go_ret;exact⟨ZbZ i.o.symm,f.o _ _⟩
theorem Zqi (e:Ent) (w:World):
 Calls prog 189 #[ZuC e] w fun x w'=>x=.returned (.bool (decide (Zfo e)))∧Below w.heap.size w w':=by
 have b:=ZZ (fun W=>ZkY ⟨0,e.proc,e.seq,⟨0,0,0⟩,e.resp⟩ W)
 have d:decide (ZaA ⟨0,e.proc,e.seq,⟨0,0,0⟩,e.resp⟩)=decide (Zfo e):=decide_eq_decide.2 (ZwS e);rw[d] at b;clear d;generalize decide (Zfo e)=D at *;obtain⟨p,s,r⟩:=e;unfold ZuC ZuH at *
 dsimp only at *
 have c:Hid (∀ X,Below w.heap.size w (w.alloc X)):=fun X=>(Below.refl _ _).alloc zL X
 go_enter func189,ntmps189
 go_wp2_with fail
 refine(b.o _).mono ?_;rintro x g ⟨rfl,a⟩;have f:=ZZ ((c.o _).trans (a.mono (c.o _).size));clear a;go_wp2;go_ret;exact⟨rfl,f.o⟩
theorem Zqj (v:Value) (t:List Ent) (w:World) (V:RdE w v t):
 Calls prog 140 #[v] w fun x w'=>x=.returned (.bool (decide (ZhB t)))∧Below w.heap.size w w':=by
 obtain⟨va,vc,rfl,aa,J,-,U,H⟩:=V;have R:=ZZ H;have ai:(t.length:Int)<=9223372036854775807:=by unfold maxLen at J;omega
 obtain⟨D,m⟩:∃ D,D=decide (ZhB t):=⟨_,rfl⟩;rw[<-m];have G:Hid (Zdz t t.length->D=true):=ZZ (fun h=>by rw[m];exact decide_eq_true h)
 have I:Hid (∀ k,k<t.length->¬ Zdz t (k+1)->D=false):=ZZ (fun k Q h=>by rw[m];exact decide_eq_false (fun A=>h (Zdz.mono A Q)))
 have E:=ZZ (fun e W=>Zqi e W)
 have N:Hid (ZkQ t 0=0):=ZZ rfl;have O:Hid (∀ k,ZkQ t (k+1)=(t.getD k ZaP).proc+1):=ZZ (fun k=>rfl)
 have L:Hid (∀ k,Zdz t (k+1)↔Zdz t k∧Zfo (t.getD k ZaP)∧ZkQ t k<=(t.getD k ZaP).proc):=ZZ (fun k=>Zrz)
 clear m J aa H U
 go_enter func140,ntmps140
 go_wp2
 go_loopw[3,8] (fun vl q wr=>∃ (k:Nat) (i:Int),q=.int .i64 (k:Int)∧vl=.int .i64 i∧k<=t.length∧Hid (i=ZkQ t k)∧Hid (Zdz t k)∧Hid (Below w.heap.size w wr)) (fun _ q _=>t.length-(intOf q).toNat)
 case atStart=>exact⟨0,0,rfl,rfl,Nat.zero_le _,ZZ N.o.symm,ZZ (Zdz.zero t),Below.refl _ _⟩
 case round=>
  obtain⟨k,i,rfl,rfl,Q,Y,C,l⟩:=hrel;by_cases g:k<t.length
  case neg=>
   obtain rfl:k=t.length:=by omega
   have HT:=ZZ (G.o C.out);go_wp2;go_ret;rw[HT.o];exact⟨rfl,l.out⟩
  have af:(k:Int)<(t.length:Int):=by omega
  rcases R.o with h0 | ⟨c,ak,rfl,n⟩
  ·rw[h0] at g;simp at g
  obtain⟨c0,c1,S⟩:=(n k g).keep (l.out.block c (n k g).lt);have a:=ZZ (L.o k);have j:=ZZ (I.o k g);have P:=ZZ (O.o k);have d:=ZZ (fun W=>E.o (t.getD k ZaP) W)
  rw[<-Y.out] at a;obtain⟨e,K⟩:∃ e,e=t.getD k ZaP:=⟨_,rfl⟩;rw[<-K] at c0 c1 S a P d;clear K n E L I G O N R;obtain⟨b,B⟩:∃ b,b=decide (Zfo e):=⟨_,rfl⟩;rw[<-B] at d;have f:=ZZ B;have z:Hid (∀ X,Below w.heap.size w (wr.alloc X)):=ZZ (fun X=>l.out.alloc l.out.size X)
  have HX:Hid (∀ cs,Be (wr.alloc (.cells cs 85)) wr.heap.size cs):=ZZ (fun cs=>heap_alloc_new wr _)
  clear B;unfold ZuC at d
  have Z:Hid (b=true->0<=e.proc∧e.proc<=64):=ZZ (fun h=>by
   have:Zfo e:=of_decide_eq_true (f.o.symm.trans h)
   exact⟨this.1,this.2.1⟩)
  by_cases aj:e.proc<i
  ·have u:=ZZ (j.o (fun h=>by have:=(a.o.1 h).2.2;omega))
   obtain⟨p,s,r⟩:=e
   dsimp only at *
   clear a j d f;go_wp2;go_ret;rw[u.o];exact⟨rfl,z.o _⟩
  ·have ae:i<=e.proc:=by omega
   have T:Hid (b=true->Zdz t (k+1)):=ZZ (fun h=>a.o.2 ⟨C.out,of_decide_eq_true (f.o.symm.trans h),ae⟩)
   have ad:Hid (b=false->D=false):=ZZ (fun h=>j.o (fun A=>by
    have h3:=(a.o.1 A).2.1;have F:b=true:=f.o.trans (decide_eq_true h3);rw[h] at F
    cases F))
   obtain⟨p,s,r⟩:=e
   dsimp only at *
   clear a j f
   go_wp2_with fail
   refine(d.o _).mono ?_;rintro x W1 ⟨rfl,y⟩;have M:=ZZ ((z.o _).trans (y.mono (z.o _).size));have ac:=ZZ ((HX.o _).below y zL);obtain⟨q0,f0⟩:=ac.o.cell 0;clear y d
   cases b with
   | false=>
    have u:=ZZ (ad.o rfl);go_wp2;go_ret;rw[u.o];exact⟨rfl,M.o⟩
   | true=>
    obtain⟨ag,ah⟩:=Z.o rfl;have ab:=ZZ (T.o rfl);go_wp2;go_roundw
    case rel=>exact⟨k+1,p+1,by go_num,by go_num,by omega,ZZ P.o.symm,ab,M⟩
    case measure=>simp[intOf];omega
theorem Ztx (v:Value) (s:ZaW) (w:World) (H:SnV w v s):
 Calls prog 98 #[v] w fun e w'=>e=.returned (.bool (decide (ZgA s)))∧Below w.heap.size w w':=by
 obtain⟨z,N,rfl,E,u,t,i,M⟩:=H;have a:Hid (∀ X,Below w.heap.size w (w.alloc X)):=fun X=>(Below.refl _ _).alloc zL X
 have J:Hid (∀ cs,Bn (w.alloc (.cells cs 41)) w.heap.size cs):=ZZ (fun cs=>heap_alloc_new w _)
 have p:=ZZ (fun W (h:Below w.heap.size w W)=>Zol (.agg #[.int .i64 s.st.kind,z,.bool s.st.shut,.int .i64 s.st.eng]) s.st W ⟨z,rfl,E.below h zL,u,t⟩)
 have f:=ZZ (fun W (h:Below w.heap.size w W)=>Zqj N s.tab W (i.below h zL))
 obtain⟨U,lc,K,-⟩:=E;obtain⟨Q,tc,O⟩:=i.shape;subst K O;clear i;obtain⟨D,j⟩:∃ D,D=decide (ZgA s):=⟨_,rfl⟩;rw[<-j];have c:Hid (D=decide (ZgA s)):=ZZ j;have d:Hid (ZgA s↔(0<=s.idx∧s.idx<4611686018427387904)∧ZcD s.st∧ZhB s.tab):=ZZ Iff.rfl;obtain⟨m,k⟩:∃ m,m=decide (ZcD s.st):=⟨_,rfl⟩;obtain⟨n,l⟩:∃ n,n=decide (ZhB s.tab):=⟨_,rfl⟩;rw[<-k] at p;rw[<-l] at f;have F:=ZZ k;have y:=ZZ l;clear j k l u t M;obtain⟨idx,⟨kind,L,Z,aa⟩,T⟩:=s
 dsimp only at *
 by_cases B:0<=idx
 case neg=>
  have g:Hid (D=false):=ZZ (by rw[c.o];exact decide_eq_false (fun h=>B (d.o.1 h).1.1))
  go_enter func98,ntmps98
  go_wp2;go_ret;rw[g.o];exact⟨rfl,a.o _⟩
 by_cases G:idx<4611686018427387904
 case neg=>
  have g:Hid (D=false):=ZZ (by rw[c.o];exact decide_eq_false (fun h=>G (d.o.1 h).1.2))
  go_enter func98,ntmps98
  go_wp2;go_ret;rw[g.o];exact⟨rfl,a.o _⟩
 have C:Hid (D=(m && n)):=ZZ (by
  rw[c.o,F.o,y.o,<-Bool.decide_and]
  exact decide_eq_decide.2 (d.o.trans ⟨fun h=>h.2,fun h=>⟨⟨B,G⟩,h⟩⟩))
 clear c d F y
 go_enter func98,ntmps98
 go_wp2_with fail
 refine(p.o _ (a.o _)).mono ?_;rintro x R ⟨rfl,q⟩;have b:=ZZ ((a.o _).trans (q.mono (a.o _).size));have I:=ZZ ((J.o _).below q zL);obtain⟨V,Y⟩:=I.o.cell 5;clear q p
 cases m with
 | false=>
  go_wp2;go_ret;rw[C.o];exact⟨rfl,b.o⟩
 | true=>
  go_wp2_with fail
  refine(f.o _ b.o).mono ?_;rintro x S ⟨rfl,A⟩;have P:=ZZ (b.o.trans (A.mono b.o.size));clear A f;go_wp2;go_ret;rw[C.o];exact⟨rfl,P.o⟩
theorem ZuZ (E:Value) (A:List Ent) (t:Value) (B:List Ent) (w:World) (S:RdE w E A) (Q:RdE w t B):
 Calls prog 46 #[E,t] w fun e w'=>e=.returned (.bool (decide (A=B)))∧Below w.heap.size w w':=by
 obtain⟨aa,X,rfl,ah,G,-,-,C⟩:=S;obtain⟨ba,bc,rfl,-,R,-,-,u⟩:=Q;have J:=ZZ C;have N:=ZZ u;obtain⟨D,g⟩:∃ D,D=decide (A=B):=⟨_,rfl⟩;rw[<-g];have x:Hid (A=B->D=true):=fun h=>by rw[g];exact decide_eq_true h
 have l:Hid (¬ A=B->D=false):=fun h=>by rw[g];exact decide_eq_false h
 have ag:=ZwV;have af:(A.length:Int)<=9223372036854775807:=by unfold maxLen at G;omega
 clear g C u G R;by_cases a:A.length=B.length
 case neg=>
  have U:((A.length:Int) != (B.length:Int))=true:=by rw[bne_iff_ne];omega
  have P:=ZZ (l.o (fun h=>a (by rw[h])))
  clear a
  go_enter func46,ntmps46
  go_wp2;go_ret;rw[P.o];exact⟨rfl,Below.refl _ _⟩
 have U:((A.length:Int) != (B.length:Int))=false:=by rw[bne_eq_false_iff_eq];omega
 have d:=ZZ a
 have F:Hid (A.take A.length=B.take A.length->D=true):=ZZ (fun h=>x.o (by
  rw[take_length,d.o,take_length] at h
  exact h))
 have y:Hid (∀ k,k<A.length->A.getD k ZaP≠B.getD k ZaP->D=false):=ZZ (fun k L h=>l.o (fun K=>h (by rw[K])))
 clear a x l
 go_enter func46,ntmps46
 go_wp2
 go_loopw[13] (fun j wr=>∃ k:Nat,j=.int .i64 (k:Int)∧k<=A.length∧Hid (A.take k=B.take k)∧Hid (∃ n,wr=w.drewN n)) (fun j _=>A.length-(intOf j).toNat)
 case atStart=>exact⟨0,rfl,Nat.zero_le _,rfl,⟨0,rfl⟩⟩
 case round=>
  obtain⟨k,rfl,L,z,I⟩:=hrel;obtain⟨nw,T⟩:=I.out;subst T;by_cases b:k<A.length
  case neg=>
   obtain rfl:k=A.length:=by omega
   have V:=ZZ (F.o z.out);go_wp2;go_ret;rw[V.o];exact⟨rfl,ZaI (Below.refl _ _) _⟩
  rcases J.o with m | ⟨c,ae,rfl,H⟩
  ·rw[m] at b;simp at b
  rcases N.o with m | ⟨c',ad,rfl,v⟩
  ·have a:=d.o;rw[m] at a;simp at a;rw[a] at b;simp at b
  obtain⟨c0,Z,c2⟩:=H k b;obtain⟨d0,d1,d2⟩:=v k (by have:=d.o;omega)
  have ab:(k:Int)<(A.length:Int):=by omega
  have Y:(k:Int)<(B.length:Int):=by have:=d.o;omega
  have q:=ZZ (y.o k b);have i:Hid (A.getD k ZaP=B.getD k ZaP->A.take (k+1)=B.take (k+1)):=fun h=>by rw[Znb b,Znb (by have:=d.o;omega),z.out,h]
  clear H v F y;generalize A.getD k ZaP=r at *;generalize B.getD k ZaP=s at *;by_cases f:r=s
  ·subst f
   have O:=ZZ (i.o rfl);have p:=fun W=>ZwU W r r
   rw[ZuD] at p;clear q i
   go_upto_region 6 with fail
   go_quiet(fail)
   go_wp2;go_roundw
   case rel=>exact⟨k+1,by go_num,by omega,O,⟨_,rfl⟩⟩
   case measure=>simp[intOf];omega
  ·have M:=ZZ (q.o f)
   have p:=fun W=>ZwU W r s
   rw[ZwW f] at p;clear q i f
   go_upto_region 6 with fail
   go_quiet(fail)
   go_wp2;go_ret;rw[M.o];exact⟨rfl,ZaI (ZaI (Below.refl _ _) _) _⟩
theorem ZxG (J:Value) (a:ZaW) (F:Value) (b:ZaW) (w:World) (ha:SnV w J a) (U:SnV w F b):
 Calls prog 20 #[J,F] w fun e w'=>e=.returned (.bool (decide (ZrG a b)))∧Below w.heap.size w w':=by
 obtain⟨N,vt,rfl,E,M,G,k,V⟩:=ha;obtain⟨vl',af,rfl,B,I,K,t,ac⟩:=U;have f:Hid (∀ X Y,Below w.heap.size w ((w.alloc X).alloc Y)):=fun X Y=>((Below.refl _ _).alloc zL X).alloc (by simp) Y
 have Z:Hid (∀ cs d,Bn ((w.alloc (.cells cs 41)).alloc (.cells d 41)) w.heap.size cs):=fun cs d=>(Below.heap_alloc _ _ _ (by simp)).trans (heap_alloc_new w _)
 have ae:Hid (∀ cs d,Bn ((w.alloc (.cells cs 41)).alloc (.cells d 41)) (w.heap.size+1) d):=fun cs d=>Zhc w _ _
 have p:=ZZ (fun W (h:Below w.heap.size w W)=>ZxF (.agg #[.int .i64 a.st.kind,N,.bool a.st.shut,.int .i64 a.st.eng]) a.st (.agg #[.int .i64 b.st.kind,vl',.bool b.st.shut,.int .i64 b.st.eng]) b.st W ⟨N,rfl,E.below h zL,M,G⟩ ⟨vl',rfl,B.below h zL,I,K⟩)
 have v:=ZZ (fun W (h:Below w.heap.size w W)=>ZuZ vt a.tab af b.tab W (k.below h zL) (t.below h zL))
 obtain⟨la,lc,R,-⟩:=E;obtain⟨aq,an,aa,-⟩:=B;obtain⟨ta,tc,S⟩:=k.shape;obtain⟨ah,al,T⟩:=t.shape;subst R S aa T;obtain⟨D,y⟩:∃ D,D=decide (ZrG a b):=⟨_,rfl⟩;rw[<-y];have j:Hid (D=decide (ZrG a b)):=ZZ y;have u:Hid (ZrG a b↔ZoY a.st b.st∧a.idx=b.idx∧a.tab=b.tab):=ZZ Iff.rfl;obtain⟨m,q⟩:∃ m,m=decide (ZoY a.st b.st):=⟨_,rfl⟩;obtain⟨n,l⟩:∃ n,n=decide (a.tab=b.tab):=⟨_,rfl⟩;rw[<-q] at p;rw[<-l] at v;have A:=ZZ q;have H:=ZZ l;clear y q l M G V I K ac k t;obtain⟨idx,⟨kind,L,ap,am⟩,aj⟩:=a;obtain⟨z,⟨ao,L',ak,ai⟩,ag⟩:=b
 dsimp only at *
 by_cases c:idx=z
 case neg=>
  have Q:(idx == z)=false:=beq_eq_false_iff_ne.2 c;have HF:Hid (D=false):=ZZ (by rw[j.o];exact decide_eq_false (fun h=>c (u.o.1 h).2.1))
  clear c
  go_enter func20,ntmps20
  go_wp2;go_ret;rw[HF.o];exact⟨rfl,f.o _ _⟩
 have Q:(idx == z)=true:=beq_iff_eq.2 c
 have C:Hid (D=(m && n)):=ZZ (by
  rw[j.o,A.o,H.o,<-Bool.decide_and]
  exact decide_eq_decide.2 (u.o.trans ⟨fun h=>⟨h.1,h.2.2⟩,fun h=>⟨h.1,c,h.2⟩⟩))
 clear j u A H c
 go_enter func20,ntmps20
 go_wp2_with fail
 refine(p.o _ (f.o _ _)).mono ?_;rintro x W1 ⟨rfl,g⟩;have i:=ZZ ((f.o _ _).trans (g.mono (f.o _ _).size));have ad:=ZZ ((Z.o _ _).below g zL);have P:=ZZ ((ae.o _ _).below g zL);obtain⟨q5,f5⟩:=ad.o.cell 5;obtain⟨r5,g5⟩:=P.o.cell 5;clear g p
 cases m with
 | false=>
  go_wp2;go_ret;rw[C.o];exact⟨rfl,i.o⟩
 | true=>
  go_wp2_with fail
  refine(v.o _ i.o).mono ?_;rintro x W2 ⟨rfl,O⟩;have ab:=ZZ (i.o.trans (O.mono i.o.size));clear O v;go_wp2;go_ret;rw[C.o];exact⟨rfl,ab.o⟩
def Zty (w:World) (s:ZaW) (e:Ending) (w':World):Prop:=
 ∃ v',e=.returned (.tuple #[v',.int .i64 (if ZgA s then 0 else 1)])∧Own w' w.heap.size v' (if ZgA s then ZyE s else[])∧Below w.heap.size w w'
theorem Zdk:∀ (n:Nat) (l:List UInt8),l.length<=n->(Zaf (Zbd l)).length<=15*l.length
 | 0,l,h=>by
  have e:l=[]:=List.eq_nil_of_length_eq_zero (by omega)
  rw[e,Zba];simp[Zaf]
 | n+1,l,h=>by
  by_cases e:l=[]
  ·rw[e,Zba]
   simp[Zaf]
  ·have c:l.length≠0:=by simpa using e
   have b:=Zdk n (l.drop 64) (by rw[length_drop];omega)
   have a:=Zcc (d:=l.take 64) (by rw[List.length_take];omega)
   rw[Zbx e,ZaV,length_append];rw[length_drop] at b;rw[List.length_take] at a;omega
theorem ZzD {s:ZaW} (h:ZgA s):(ZyE s).length<=80000:=by
 have c:=Zfa h;have a:s.idx.toNat<4611686018427387904:=by have:=h.1;omega
 have f:=ZhF a (w:=Zbc s) (by omega)
 have e:=Zcc (d:=Ziu s.idx.toNat (Zbc s)) (by omega)
 have b:=Zdk _ (Zbc s) zL;unfold ZyE Zee;rw[ZaV,length_append];omega
theorem Ztz (n:Int) (w:World) (m:-9223372036854775808<=n) (t:n<=9223372036854775807):
 Calls prog 134 #[.int .i64 n] w fun e w'=>e=.returned (.int .i64 (ZjC n:Nat))∧Below w.heap.size w w':=by
 by_cases h:0<=n∧n<=1048576
 ·obtain⟨d,b⟩:=h
  have a:Hid (ZjC n=(Lib.uvarint n.toNat).length+4+n.toNat):=if_pos ⟨d,b⟩
  have c:Hid (∀ w,Calls prog 132 #[.slice none 0 0,.int .i64 n] w fun e w'=>∃ ao cap,e=.returned (.slice ao (Lib.uvarint n.toNat).length cap)∧Below w.heap.size w w'):=by
   intro w;refine(ZeN (.slice none 0 0) [] n w (Rd.nil _) (by simp)).mono ?_
   have e:Zuw [] n=Lib.uvarint n.toNat:=if_pos ⟨by omega,by omega⟩
   rintro k w' ⟨v',rfl,f,j⟩;rw[e] at f;obtain⟨ao,cap,rfl,_⟩:=f.rd;exact⟨ao,cap,rfl,j⟩
  have l:(Lib.uvarint n.toNat).length<=3:=ZBz (by omega)
  generalize (Lib.uvarint n.toNat).length=q at *
  go_enter func134,ntmps134
  go_wp2_with fail
  refine(c.o _).mono ?_;rintro e p ⟨ao,cap,rfl,g⟩;have i:=ZZ g;clear g c;go_wp2;go_ret;refine⟨Zfi ?_,i.o⟩;rw[a.o];omega
 ·have a:Hid (ZjC n=0):=if_neg h
  by_cases d:n<0
  ·clear h
   go_enter func134,ntmps134
   go_wp2;go_ret;exact⟨Zfi (by rw[a.o];rfl),Below.refl _ _⟩
  ·have b:1048576<n:=by omega
   clear h
   go_enter func134,ntmps134
   go_wp2;go_ret;exact⟨Zfi (by rw[a.o];rfl),Below.refl _ _⟩
theorem ZAW (v:Value) (l:List UInt8) (w:World) (q:Rd w v l):
 Calls prog 217 #[v] w fun e w'=>e=.returned (.bool (decide (Zdf l)))∧w'=w:=by
 obtain⟨ao,cap,rfl,D,t,u,c⟩:=q;clear u;have A:(l.length:Int)<=9223372036854775807:=by unfold maxLen at t;omega
 by_cases C:(l.length:Int)<10
 ·go_enter func217,ntmps217
  go_wp2
  go_loop [10] (fun i=>∃ k:Nat,i=.int .i64 k∧k<=l.length∧Hid (∀ j,j<k->128<=(l.getD j 0).toNat)) (fun i=>l.length-(intOf i).toNat)
  case atStart=>exact⟨0,rfl,by omega,fun j g=>by omega⟩
  case round=>
   obtain⟨k,rfl,x,n⟩:=hrel;by_cases a:k<l.length
   ·rcases c with c | ⟨b,z,rfl,m⟩
    ·subst c;simp at a
    ·have p:=m k a
     clear m;obtain⟨y,d⟩:∃ y,y=(l.getD k 0).toNat:=⟨_,rfl⟩;rw[<-d] at p;have h:Hid (y=(l.getD k 0).toNat):=d;clear d;by_cases B:(y:Int)<128
     ·go_wp2
      go_ret;refine⟨Zho ?_,rfl⟩
      symm
      refine decide_eq_false fun f=>?_
      have:=f.2 k a;rw[<-h.o] at this;omega
     ·go_wp2
      go_round
      case rel=>
       refine⟨k+1,by go_num,by omega,fun j g=>?_⟩
       by_cases e:j=k
       ·rw[e,<-h.o];omega
       ·exact n.out j (by omega)
      case measure=>simp[intOf];omega
   ·go_wp2
    go_ret;refine⟨Zho ?_,rfl⟩
    symm
    exact decide_eq_true ⟨by omega,fun j g=>n.out j (by omega)⟩
 ·go_enter func217,ntmps217
  go_wp2;go_ret;refine⟨Zho ?_,rfl⟩
  symm
  exact decide_eq_false fun f=>by have:=f.1;omega
theorem Own.made0 (w:World) (B:Nat) (a:B<=w.heap.size):Own (w.alloc (.cells #[] 5)) B (.slice (some ⟨w.heap.size,0,none⟩) 0 0) []:=
 ⟨rfl,.inr ⟨w.heap.size,0,#[],rfl,a,heap_alloc_new w _,Nat.le_refl _,Nat.zero_le _,rfl,rfl⟩⟩
theorem ZxH (v:Value) (l:List UInt8) (w:World) (g:Rd w v l) (A:l.length<=70368744177664):
 Calls prog 113 #[v] w fun e w'=>∃ v',e=.returned v'∧Own w' w.heap.size v' l∧Below w.heap.size w w':=by
 have i:=ZZ g;obtain⟨ao,cap,rfl,x,t,b,d⟩:=g
 cases ao with
 | none=>
  have u:=b rfl;have q:l=[]:=List.eq_nil_of_length_eq_zero (by omega)
  subst q;subst u;clear d b;have p:∀ w,(binOp .eql 53 (.slice none 0 0) (.slice none 0 0)).run prog w=.ok (.bool true) w:=fun w=>run_eql_slice_nil w _ _ none 0 0 underlying53
  go_enter func113,ntmps113
  go_wp2;go_ret;exact⟨_,rfl,Own.nil _ _,Below.refl _ _⟩
 | some c=>
  clear d b x t;have p:∀ w,(binOp .eql 53 (.slice (some c) l.length cap) (.slice none 0 0)).run prog w=.ok (.bool false) w:=fun w=>run_eql_slice_nil w _ _ (some c) _ _ underlying53
  have n:=ZZ (Own.made0 w w.heap.size zL);have a:=ZZ ((Below.refl w.heap.size w).alloc zL (.cells #[] 5));have m:=ZZ (i.o.below a.o zL);have k:Hid (w.heap.size<=(w.alloc (.cells #[] 5)).heap.size):=a.o.size
  go_enter func113,ntmps113
  go_wp2_with(at_builtin;refine ZaE _ rfl _ _ rfl w.heap.size _ [] rfl n.o _ l rfl m.o (by simp;omega) k.o ?_)
  intro z B f h;have y:=ZZ f;have j:=ZZ (a.o.trans h);clear f h;go_wp2;go_ret;exact⟨z,rfl,y.o,j.o⟩
theorem Zgw (v:Value) (l:List UInt8) (w:World) (A:Rd w v l):
 Calls prog 91 #[v] w fun e w'=>∃ v',e=.returned (.tuple #[v',.int .i64 ((ZAn l).2:Nat)])∧Own w' w.heap.size v' (ZAn l).1∧Below w.heap.size w w':=by
 have HR:=ZZ A;obtain⟨i0,hi,ak,Y,Z⟩:=info_parts ZnJ;obtain⟨ao,cap,rfl,aq,ae,af,ab⟩:=A;clear af ab;have ar:(l.length:Int)<=9223372036854775807:=by unfold maxLen at ae;omega
 by_cases h:(l.length:Int)<=1048576
 ·have a:Hid (ZAn l=(ZbI l++Lib.leBytes 4 (Zaz 0 (ZbI l)),0)):=if_pos (by omega)
  have H:Hid (∀ w,Calls prog 132 #[.slice none 0 0,.int .i64 (l.length:Int)] w fun e w'=>∃ v',e=.returned v'∧Own w' w.heap.size v' (Lib.uvarint l.length)∧Below w.heap.size w w'):=by
   intro w;have:=ZeN (.slice none 0 0) [] (l.length:Int) w (Rd.nil _) (by simp)
   have e:Zuw [] (l.length:Int)=Lib.uvarint l.length:=if_pos ⟨by omega,by omega⟩
   rwa [e] at this
  have n:Hid (∀ w,Calls prog 134 #[.int .i64 (l.length:Int)] w fun e w'=>e=.returned (.int .i64 (ZjC (l.length:Int):Nat))∧Below w.heap.size w w'):=fun w=>Ztz _ w (by omega) (by omega)
  have g:Hid (∀ v w,Rd w v (ZbI l)->Calls prog 136 #[v] w fun e w'=>e=.returned (.int .u32 (Zaz 0 (ZbI l):Nat))∧Below w.heap.size w w'):=fun v w h=>Zou v _ w h
  have i:Hid (∀ w,Calls prog 135 #[.int .u32 (Zaz 0 (ZbI l):Nat)] w fun e w'=>∃ v',e=.returned v'∧Own w' w.heap.size v' (Lib.leBytes 4 (Zaz 0 (ZbI l)))∧Below w.heap.size w w'):=fun w=>ZkO _ w (Ztc _)
  have x:Hid (ZbI l=Lib.uvarint l.length++l):=rfl;have T:Hid ((Lib.leBytes 4 (Zaz 0 (ZbI l))).length=4):=Lib.leBytes_length 4 _;have b:Hid ((Lib.uvarint l.length).length<=3):=ZBz (by omega)
  have au:ZjC (l.length:Int)<=2000000:=by
   have e:ZjC (l.length:Int)=(Lib.uvarint l.length).length+4+l.length:=if_pos ⟨by omega,h⟩
   have:=b.o;rw[e];omega
  generalize ZjC (l.length:Int)=z at *;generalize Zaz 0 (ZbI l)=s at *;obtain⟨S,N⟩:∃ S:Int,S=(s:Int):=⟨_,rfl⟩;rw[<-N] at i g;clear N;generalize Lib.leBytes 4 s=q at *;generalize Lib.uvarint l.length=u at *;generalize ZbI l=hd at *;have hh:=x.o;subst hh;clear x
  go_enter func91,ntmps91
  go_wp2_with fail
  refine(n.o _).mono ?_;rintro e w1 ⟨rfl,m⟩;have am:=ZZ m;have J:=m.size;clear m n
  go_wp2_with(at_make;refine wpList_make_own _ rfl _ _ 53 rfl w.heap.size 5 i0 (.int .u8 0) 1 underlying53 hi ak Y _ _ _ z rfl rfl (by omega) (by rw[Z];omega) (by unfold maxLen;omega) J ?_)
  intro w2 P Q;have W:Hid (Own w2 w.heap.size (.slice (some ⟨w1.heap.size,0,none⟩) 0 z) []):=P;have M:=ZZ (am.o.grown Q J (fun k hk=>by cases hk))
  have ah:=M.o.size;clear P Q
  go_wp2_with fail
  refine(H.o _).mono ?_;rintro e w3 ⟨v3,rfl,F,d⟩;have I:=ZZ (M.o.trans (d.mono ah));have ac:=ZZ F.rd;have ad:=ZZ (W.o.below d zL);have al:=I.o.size;clear F d H
  go_wp2_with(at_builtin;refine ZaE _ rfl _ _ rfl w.heap.size _ [] rfl ad.o _ u rfl ac.o (by have:=b.o;simp;omega) al ?_)
  intro v4 w4 D K;have f:=ZZ (I.o.trans K);have ap:Hid (Own w4 w.heap.size v4 u):=D;have aa:=f.o.size;clear D K
  go_wp2_with(at_builtin;refine ZaE _ rfl _ _ rfl w.heap.size _ u rfl ap.o _ l rfl (HR.o.below f.o zL) (by have:=b.o;omega) aa ?_)
  intro v5 w5 y t;have L:=ZZ (f.o.trans t);have B:Hid (Own w5 w.heap.size v5 (u++l)):=y;have U:=L.o.size;clear y t
  go_wp2_with fail
  refine(g.o _ _ B.o.rd).mono ?_;rintro e w6 ⟨rfl,j⟩;have G:=ZZ (L.o.trans (j.mono U));have X:=ZZ (B.o.below j zL);have ai:=G.o.size;clear j g
  go_wp2_with fail
  refine(i.o _).mono ?_;rintro e w7 ⟨v7,rfl,E,c⟩;have O:=ZZ (G.o.trans (c.mono ai));have R:=ZZ E.rd;have an:=ZZ (X.o.below c zL);have aj:=O.o.size;clear E c i
  go_wp2_with(at_builtin;refine ZaE _ rfl _ _ rfl w.heap.size _ (u++l) rfl an.o _ q rfl R.o (by have:=b.o;have:=T.o;simp;omega) aj ?_)
  intro v8 w8 p C;have ag:=ZZ (O.o.trans C);have V:=ZZ p;clear p C;go_wp2;go_ret2;exact⟨v8,by rw[a.o];rfl,by rw[a.o];show Own _ _ _ (u++l++q);rw[append_assoc];exact V.o,ag.o⟩
 ·have a:Hid (ZAn l=([],5)):=if_neg (by omega)
  go_enter func91,ntmps91
  go_wp2;go_ret2;exact⟨_,by rw[a.o];rfl,by rw[a.o];exact Own.nil _ _,Below.refl _ _⟩
end Go.Proofs.YtnahjngbneicaaaGreatDoor
