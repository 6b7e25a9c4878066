import Derived.Deep.WholeRow
import Derived.Test.YtnahjngbneicaaaGreatDoorPack8
namespace Go.Proofs.YtnahjngbneicaaaGreatDoor
open _root_.Go.Proofs.Tryz
open List (append_assoc length_append length_drop length_singleton nil_append take_add_one take_length take_of_length_le)
set_option maxHeartbeats 40000000
set_option maxRecDepth 100000
open Go.RowKit
variable {w:World} {B b:Nat} {v x y z:Value} {l:List UInt8} {xs:List Value} {L:List (List UInt8)}
theorem Own.empty {X:Obj} {cur:Array Value} {N:Nat} (a:w.heap.size=N) (d:X=.cells cur 5 (0,0)) (c:B<=N) (cap:Nat) (b:cap<=maxLen) (f:cur.size=cap):Own (w.alloc X) B (.slice (some ⟨N,0,none⟩) 0 cap) []:=by
 subst a d;have h:=World.ownsRow_made (e:=5) (size:=1) (base:=B) w cur cap c b (by omega)
 exact h
theorem Zqe (n:Nat) (w:World) (u:n<=1000000):
 Calls prog 182 #[.slice none 0 0,.int .i64 (n:Int)] w fun e w'=>∃ v',e=.returned v'∧Own w' w.heap.size v' []∧Below w.heap.size w w':=by
 obtain⟨b,i,j,t,c⟩:=info_parts Zkt;by_cases k:n=0
 ·subst k
  go_enter func182,ntmps182
  go_wp2;go_ret;exact⟨_,rfl,Own.nil _ _,Below.refl _ _⟩
 ·have l:∀ ty,(Builtin.append_ #[53,3] ty #[.slice none 0 0,.int .i64 (n:Int)]).run prog w =
   .ok (.slice (some ⟨w.heap.size,0,none⟩) n (grownCap w n 0 5)) (w.drew.alloc (.cells (#[]++Builtin.zeroCells #[.int .u8 0] n++Builtin.zeroCells #[.int .u8 0] (grownCap w n 0 5-n)) 5)):=fun ty=>by
   have h:=Lib.run_append_grow_zeros (P:=prog) w 53 3 ty 5 b (.int .u8 0) .i64 .i64 underlying53 underlying3 i j none 0 0 [] (run_firstCells_none w.drew b.size 0 0 0) n (by omega) (by omega) (by omega) (by omega) (by rw[c];omega)
    (by rw[Nat.zero_add];exact growslice_fits (by omega) (by rw[c];omega))
   rw[Nat.zero_add] at h;exact h
  have m:n<=grownCap w n 0 5:=grownCap_ge w _ _ _;have a:=grownCap_le_maxLen w n 0 5 (by unfold maxLen;omega)
  generalize grownCap w n 0 5=G at *
  have q:G<=9223372036854775807:=by
   unfold maxLen at a;omega
  have d:(#[]++Builtin.zeroCells #[Value.int .u8 0] n++Builtin.zeroCells #[Value.int .u8 0] (G-n)).size=G:=by
   simp[Builtin.zeroCells];omega
  generalize (#[]++Builtin.zeroCells #[Value.int .u8 0] n++Builtin.zeroCells #[Value.int .u8 0] (G-n))=Z at *;have p:(0:Int)<(n:Int):=by omega
  have g:Hid (Own (w.drew.alloc (.cells Z 5)) w.heap.size (.slice (some ⟨w.heap.size,0,none⟩) 0 G) []):=ZZ (Own.empty rfl rfl zL G a d);have f:Hid (Below w.heap.size w (w.drew.alloc (.cells Z 5))):=ZZ (((Below.refl _ _).drew).alloc zL _);clear d a
  go_enter func182,ntmps182
  go_wp2_with(at_builtin;refine Lib.wpList_append_run _ rfl _ _ _ _ rfl _ _ rfl rfl _ _ (l _) ?_)
  all_goals (go_ret;exact⟨_,rfl,g.o,f.o⟩)
theorem ZmL (L:List (List UInt8)) (k:Nat) (a:k<L.length):(L.take (k+1)).flatten=(L.take k).flatten++L.getD k []:=by
 have e:L.take (k+1)=L.take k++[L.getD k []]:=by
  rw[take_add_one];simp[List.getD,a]
 rw[e,List.flatten_append];simp
theorem ZxC (L:List (List UInt8)) (k:Nat):((L.take k).flatten).length<=L.flatten.length:=by
 have e:L.flatten=(L.take k).flatten++(L.drop k).flatten:=by rw[<-List.flatten_append,List.take_append_drop]
 rw[e,length_append];omega
def Zlc (L:List (List UInt8)) (k:Nat):Nat:=(L.take k).flatten.length
def Zud (L:List (List UInt8)) (k:Nat):List UInt8:=(L.take k).flatten
theorem ZmM (L:List (List UInt8)) (k:Nat) (a:k<L.length):Zud L (k+1)=Zud L k++L.getD k []:=ZmL L k a
theorem ZmN (L:List (List UInt8)) (k:Nat) (a:k<L.length):(Zlc L (k+1):Int)=(Zlc L k:Int)+((L.getD k []).length:Int):=by
 unfold Zlc;rw[ZmL L k a,length_append];omega
theorem Zue (L:List (List UInt8)) (k:Nat):Zlc L k<=L.flatten.length:=ZxC L k
theorem Zqf (L:List (List UInt8)) (k:Nat):(Zud L k).length=Zlc L k:=rfl
theorem Zqg (L:List (List UInt8)) (k:Nat) (a:L.length<=k):Zud L k=L.flatten:=by
 unfold Zud;rw[take_of_length_le a]
theorem Zdf (v:Value) (L:List (List UInt8)) (w:World) (H:RdL w v L) (z:L.flatten.length<=1000000) (hn:L.length<=1000):
 Calls prog 131 #[v] w fun e w'=>∃ v',e=.returned v'∧Own w' w.heap.size v' L.flatten∧Below w.heap.size w w':=by
 have X:=ZZ (fun n W h=>Zqe n W h)
 have al:=ZZ H;have l:Hid (∀ k,Zlc L k<=1000000):=fun k=>Nat.le_trans (Zue L k) z
 have C:=ZZ (ZmN L);have ae:=ZZ (ZmM L);have O:=ZZ (Zqg L);have ai:=ZZ (Zqf L);obtain⟨F,p⟩:∃ F,F=L.flatten:=⟨_,rfl⟩;rw[<-p];rw[<-p] at O;obtain⟨ao,cap,rfl,-,-,-,R⟩:=H;have G:=ZZ R;clear R p z
 go_enter func131,ntmps131
 go_wp2
 go_loopw[3,11] (fun vs a wr=>∃ (k:Nat),vs=.int .i64 (Zlc L k:Int)∧a=.int .i64 (k:Int)∧k<=L.length∧wr=w) (fun _ a _=>L.length-(intOf a).toNat)
 case atStart=>exact⟨0,rfl,rfl,Nat.zero_le _,rfl⟩
 case round=>
  obtain⟨k,rfl,rfl,V,B⟩:=hrel;have ac:=B.symm;subst ac;clear B;by_cases b:k<L.length
  ·rcases G.o with u | ⟨c,aa,rfl,g⟩
   ·rw[u] at b;simp at b
   obtain⟨x,S,i⟩:=g k b;have J:=l.o (k+1);have q:=C.o k b;obtain⟨Y,cx,rfl,-⟩:=i;have h3:¬ ((Zlc L k:Int)+((L.getD k []).length:Int)<0):=by omega
   have h4:(Zlc L k:Int)+((L.getD k []).length:Int)<=1000000:=by omega
   have Z:=ZZ q;clear g J q;generalize Zlc L k=A at *;generalize (L.getD k []).length=D at *;go_wp2;go_roundw
   case rel=>exact⟨k+1,by rw[Z.o],by go_num,by omega,trivial⟩
   case measure=>simp[intOf];omega
  ·have ak:=ZZ (X.o (Zlc L k) w (l.o k))
   generalize Zlc L k=A at *
   go_wp2_with fail
   refine ak.o.mono ?_;rintro e W1 ⟨v1,rfl,M,Q⟩;have N:=ZZ M;have E:=ZZ Q;clear M Q V b;go_wp2
   go_loopw[6,27] (fun T a I=>∃ (j:Nat),a=.int .i64 (j:Int)∧j<=L.length∧Hid (Own I w.heap.size T (Zud L j))∧Hid (Below w.heap.size w I)) (fun _ a _=>L.length-(intOf a).toNat)
   case atStart=>exact⟨0,rfl,Nat.zero_le _,N,E⟩
   case round=>
    clear N E;obtain⟨j,rfl,hj,m,d⟩:=hrel;by_cases f:j<L.length
    ·rcases G.o with u | ⟨c,aa,rfl,g⟩
     ·rw[u] at f;simp at f
     obtain⟨x,y,i⟩:=g j f;have S:=(d.o.cell (World.block_lt_of_cell? _ _ y)).trans y;have ad:=ZZ (i.below d.o zL);obtain⟨Y,cx,rfl,-⟩:=i
     have ag:Hid ((Zud L j).length+(L.getD j []).length<=70368744177664):=ZZ (by
      have J:=l.o (j+1);have q:=C.o j f;rw[ai.o]
      omega)
     have ab:=ZZ d.o.size;have HN:=ZZ (ae.o j f);clear g y;generalize L.getD j []=D at *;generalize Zud L j=P at *
     go_wp2_with(at_builtin;refine Xi _ rfl _ _ rfl w.heap.size _ P rfl m.o _ D rfl ad.o ag.o ab.o ?_)
     intro v3 W3 t K;rw[<-HN.o] at t;have aj:=ZZ t;have af:=ZZ (d.o.trans K);clear t K;go_wp2;go_roundw
     case rel=>exact⟨j+1,by go_num,by omega,aj,af⟩
     case measure=>simp[intOf];omega
    ·have U:=ZZ (O.o j (by omega))
     rw[U.o] at m;go_wp2;go_ret;exact⟨_,rfl,m.o,d.o⟩
theorem RdL.built (W:World) (N:Nat) (a:N=W.heap.size) (vs:Array Value) (L:List (List UInt8)) (f:L.length<=1000) (h:∀ j,j<L.length->∃ x,vs[j]?=some x∧Rd W x (L.getD j [])):
 RdL (W.alloc (.cells vs 53)) (.slice (some ⟨N,0,none⟩) L.length L.length) L:=by
 subst a;refine⟨some ⟨W.heap.size,0,none⟩,L.length,rfl,Nat.le_refl _,by unfold maxLen;omega,fun e=>(by cases e),.inr ⟨W.heap.size,0,rfl,fun j c=>?_⟩⟩
 obtain⟨x,b,d⟩:=h j c;refine⟨x,?_,d.below ((Below.refl _ _).alloc zL _) zL⟩;rw[Nat.zero_add,cell_of_row _ W.heap.size j vs 53 (0,0) (heap_alloc_new W _)];exact b
theorem Zuf (W:World) (N:Nat) (x:N=W.heap.size) (i k g f:Value) (a c d b:List UInt8) (v:Rd W i a) (w:Rd W k c) (t:Rd W g d) (p:Rd W f b) (y:a.length+c.length+d.length+b.length<=1000000):
 Calls prog 131 #[.slice (some ⟨N,0,none⟩) 4 4] (W.alloc (.cells #[i,k,g,f] 53)) fun e w'=>∃ v',e=.returned v'∧Own w' W.heap.size v' (a++(c++(d++b)))∧Below W.heap.size W w':=by
 have q:=RdL.built W N x #[i,k,g,f] [a,c,d,b] (by simp) (fun j u=>by
  match j,u with
  | 0,_=>exact⟨i,rfl,v⟩
  | 1,_=>exact⟨k,rfl,w⟩
  | 2,_=>exact⟨g,rfl,t⟩
  | 3,_=>exact⟨f,rfl,p⟩)
 have l:[a,c,d,b].flatten=a++(c++(d++b)):=by simp
 refine(Zdf _ _ _ q (by rw[l];simp only [length_append];omega) (by simp)).mono ?_
 rintro e w' ⟨v',rfl,m,n⟩;rw[l] at m;exact⟨v',rfl,m.mono (by simp),((Below.refl _ _).alloc zL _).trans (n.mono (by simp))⟩
theorem Zug (W:World) (N:Nat) (u:N=W.heap.size) (f g d:Value) (a b c:List UInt8) (q:Rd W f a) (t:Rd W g b) (n:Rd W d c) (v:a.length+b.length+c.length<=1000000):
 Calls prog 131 #[.slice (some ⟨N,0,none⟩) 3 3] (W.alloc (.cells #[f,g,d] 53)) fun e w'=>∃ v',e=.returned v'∧Own w' W.heap.size v' (a++(b++c))∧Below W.heap.size W w':=by
 have m:=RdL.built W N u #[f,g,d] [a,b,c] (by simp) (fun j p=>by
  match j,p with
  | 0,_=>exact⟨f,rfl,q⟩
  | 1,_=>exact⟨g,rfl,t⟩
  | 2,_=>exact⟨d,rfl,n⟩)
 have i:[a,b,c].flatten=a++(b++c):=by simp
 refine(Zdf _ _ _ m (by rw[i];simp only [length_append];omega) (by simp)).mono ?_
 rintro e w' ⟨v',rfl,k,l⟩;rw[i] at k;exact⟨v',rfl,k.mono (by simp),((Below.refl _ _).alloc zL _).trans (l.mono (by simp))⟩
theorem ZrF (v:Value) (l:List UInt8) (w:World) (d:Rd w v l) (u:l.length<=1000000):
 Calls prog 214 #[v] w fun e w'=>∃ v',e=.returned v'∧Own w' w.heap.size v' l∧Below w.heap.size w w':=by
 have k:=ZZ d;obtain⟨ao,cap,rfl,n,-,b,-⟩:=d
 cases ao with
 | none=>
  obtain rfl:cap=0:=b rfl;obtain rfl:l=[]:=List.eq_nil_of_length_eq_zero (by omega)
  clear b n;have m:∀ w,(binOp .eql 53 (.slice none 0 0) (.slice none 0 0)).run prog w=.ok (.bool true) w:=fun w=>run_eql_slice_nil w _ _ none 0 0 underlying53
  go_enter func214,ntmps214
  go_wp2;go_ret;exact⟨_,rfl,Own.nil _ _,Below.refl _ _⟩
 | some a=>
  clear b;have m:∀ w,(binOp .eql 53 (.slice (some a) l.length cap) (.slice none 0 0)).run prog w=.ok (.bool false) w:=fun w=>run_eql_slice_nil w _ _ (some a) _ _ underlying53
  have f:Hid (∀ X,Below w.heap.size w (w.alloc X)):=fun X=>(Below.refl _ _).alloc zL X
  have i:Hid (Own (w.alloc (.cells #[] 5)) w.heap.size (.slice (some ⟨w.heap.size,0,none⟩) 0 0) []):=ZZ (Own.empty rfl rfl zL 0 (Nat.zero_le _) rfl)
  go_enter func214,ntmps214
  go_wp2_with(at_builtin;refine Xi _ rfl _ _ rfl w.heap.size _ [] rfl i.o _ l rfl (k.o.below (f.o _) zL) (by simp;omega) (by simp) ?_)
  intro t q g c;have p:=ZZ g;have j:=ZZ ((f.o _).trans c);clear g c;go_wp2;go_ret;exact⟨_,rfl,p.o,j.o⟩
def Xk:Array Value:=((List.range 256).map fun c=>Value.int .u32 ((Zdj c:Nat):Int)).toArray
def Zh:Array Value:=(List.replicate 256 (Value.int .u32 0)).toArray
theorem ZgH:(prog.info? 266).map (fun i=>(i.zero,i.size))=some (some (.agg Zh),256):=by kernel_rfl
theorem Jm:Xk.size=256:=by simp[Xk]
theorem ZcN:Zh.size=256:=by
 unfold Zh;rw[List.size_toArray,List.length_replicate]
theorem ZfY:Xk.all (·.oneCell')=true:=by
 rw[Array.all_eq_true];intro i a;simp[Xk,Value.oneCell']
theorem Zia (k:Nat) (h:k<256):Xk[k]?=some (.int .u32 ((Zdj k:Nat):Int)):=by
 simp[Xk,h]
theorem Zuh (w:World):(Instr.storeAt 266 (.pointer (some ⟨w.heap.size,0,none⟩)) (.agg Xk)).run prog (w.alloc (.cells Zh 266))=.ok () (w.alloc (.cells Xk 266)):=
 run_storeAt_new w 266 Zh Xk (by rw[Jm];exact(zero_of_info ZgH).2) (by rw[Jm,ZcN]) ZfY
def Zwh (w:World) (b:Nat):Prop:=∀ k,k<256->w.cell? ⟨b,k,none⟩=some (.int .u32 ((Zdj k:Nat):Int))
theorem Zwh.made (w:World):Zwh (w.alloc (.cells Xk 266)) w.heap.size:=by
 intro k a;rw[cell_of_row _ w.heap.size k Xk 266 (0,0) (heap_alloc_last w _)];exact Zia k a
theorem Zib (w:World) {b:Array Oper} {rest:List Oper} {o:Oper} {a:Act} {Q:Exit->Act->World->Prop} (d:o.guard=none) (x y:Operand) (e:o.op=.store 266 x y)
 (i:a.eval x=.pointer (some ⟨w.heap.size,0,none⟩)) (f:a.eval y=.agg Xk)
 (h:∀ w',Below w.heap.size w w'->Zwh w' w.heap.size->wpList prog b Q rest (a.put o.dst undef) w'):wpList prog b Q (o::rest) a (w.alloc (.cells Zh 266)):=
 wpList_plain d fun _ c=>by
  have g:=Zuh w;unfold Oper.wp execOp;simp only [e,i,f,g,Sem.run_bind,Sem.run_pure,Result.andThen_ok];exact c _ _ (h _ ((Below.refl _ _).alloc zL _) (Zwh.made w))
def Zic (k:Nat):Array Value:=((List.range 256).map fun c=>if c<k then Value.int .u32 ((Zdj c:Nat):Int) else Value.int .u32 0).toArray
theorem ZbP (k:Nat):(Zic k).size=256:=by simp[Zic]
theorem ZcO (k i:Nat) (h:i<256):(Zic k)[i]?=some (if i<k then Value.int .u32 ((Zdj i:Nat):Int) else Value.int .u32 0):=by
 simp[Zic,h]
theorem ZrG:Zic 0=Zh:=by
 apply Array.ext_getElem?;intro i;by_cases h:i<256
 ·rw[ZcO 0 i h]
  unfold Zh;rw[List.getElem?_toArray,List.getElem?_replicate_of_lt h];simp
 ·rw[Array.getElem?_eq_none (by rw[ZbP];omega),Array.getElem?_eq_none (by rw[ZcN];omega)]
theorem ZrH:Zic 256=Xk:=by
 apply Array.ext_getElem?;intro i;by_cases h:i<256
 ·rw[ZcO 256 i h,if_pos h,Zia i h]
 ·rw[Array.getElem?_eq_none (by rw[ZbP];omega),Array.getElem?_eq_none (by rw[Jm];omega)]
theorem Zui (k:Nat) (b:k<256):(Zic k).setIfInBounds k (Value.int .u32 ((Zdj k:Nat):Int))=Zic (k+1):=by
 apply Array.ext_getElem?;intro i;rw[Array.getElem?_setIfInBounds];by_cases h:i<256
 ·rw[ZcO (k+1) i h,ZcO k i h,ZbP]
  by_cases a:k=i
  ·subst a
   simp[b]
  ·rw[if_neg a]
   have e:(i<k+1)=(i<k):=by
    apply propext;omega
   simp only [e]
 ·have a:¬ k=i:=by omega
  rw[if_neg a,Array.getElem?_eq_none (by rw[ZbP];omega),Array.getElem?_eq_none (by rw[ZbP];omega)]
theorem Zld {C:Array Value} (h:C.size=256):(prog.info? 266).map (·.size)=some C.size:=by
 rw[h];exact(zero_of_info ZgH).2
theorem Zid (w:World) {b:Array Oper} {rest:List Oper} {o:Oper} {a:Act} {Q:Exit->Act->World->Prop} (d:o.guard=none) (x:Operand) (l:o.op=.load 266 x)
 (g:Nat) (C:Array Value) (c:Nat × Nat) (e:a.eval x=.pointer (some ⟨g,0,none⟩)) (f:w.heap[g]?=some (.cells C 266 c)) (k:C.size=256)
 (h:wpList prog b Q rest (a.put o.dst (.agg C)) w):wpList prog b Q (o::rest) a w:=
 wpList_plain d fun _ i=>by
  have j:=run_loadVar_row (P:=prog) w g 266 266 C c _ f underlying266 rfl (Zld k);unfold Oper.wp execOp;simp only [l,e,Instr.loadAt,Instr.sureAddr,Sem.run_bind,Sem.run_pure,Result.andThen_ok,j];exact i _ _ h
theorem Zgp (w:World) {b:Array Oper} {rest:List Oper} {o:Oper} {a:Act} {Q:Exit->Act->World->Prop} (d:o.guard=none) (x y:Operand) (n:o.op=.store 266 x y)
 (g:Nat) (C D:Array Value) (e:a.eval x=.pointer (some ⟨g,0,none⟩)) (k:a.eval y=.agg D) (f:w.heap[g]?=some (.cells C 266 (0,0))) (m:C.size=256) (c:D.size=256) (l:D.all (·.oneCell')=true)
 (h:wpList prog b Q rest (a.put o.dst undef) (w.setRow g D)):wpList prog b Q (o::rest) a w:=
 wpList_plain d fun _ i=>by
  have j:=run_storeVar_row (P:=prog) w g 266 266 C D f (Zld c) (by rw[m,c]) l
  unfold Oper.wp execOp;simp only [n,e,k,Instr.storeAt,Instr.sureAddr,Sem.run_bind,Sem.run_pure,Result.andThen_ok,j];exact i _ _ h
theorem ZmO {fn:Func} {p:Tmp} {ty:TypeId} (h:fn.results=#[.cell p ty]) (b:Array Value) (P:Program) (w:World):
 (results fn b).run P w=((asAddr (b.getD p undef)).run P w).andThen fun a c=>(loadVar ty a).run P c:=by
 simp only [results,h];simp[Sem.run_bind,Result.andThen]
theorem Zuj (k:Nat) (l:k<256) (w:World):Calls prog 225 #[.int .u32 (k:Int)] w fun e w'=>e=.returned (.int .u32 (Zdj k:Nat))∧w'=w:=by
 have q:=ZZ l;clear l
 go_enter func225,ntmps225
 go_wp2
 go_loop [0,4] (fun x j=>∃ m:Nat,m<=8∧j=.int .i64 (m:Int)∧x=.int .u32 (Jt m k:Nat)) (fun _ j=>8-(intOf j).toNat)
 case atStart=>exact⟨0,Nat.zero_le _,rfl,rfl⟩
 case round=>
  obtain⟨m,A,rfl,rfl⟩:=hrel;by_cases C:m<8
  ·have i:=ZZ (ZrB m k)
   have g:Jt m k<4294967296:=ZtT m (by have:=q.o;omega)
   generalize Jt m k=y at *;obtain⟨Y,f⟩:∃ Y:Int,Y=(y:Int):=⟨_,rfl⟩;rw[<-f];have D:0<=Y:=by omega
   have B:Y<4294967296:=by omega
   have n:=ZZ f;have v:=ZZ g;clear f g;by_cases a:Y % 2=1
   ·have z:(Y % 2 == 1)=true:=beq_iff_eq.2 a
    have b:=ZZ a;clear a;go_wp2
    go_round
    case rel=>
     have e:=n.o;have p:=b.o;refine⟨m+1,by omega,by go_num,?_⟩
     have d:Y / 2=((y / 2:Nat):Int):=by omega
     have t:(2197175160:Int)=((2197175160:Nat):Int):=rfl;have c:ZqJ y=y / 2 ^^^ 2197175160:=if_pos (by omega)
     rw[i.o,c,d,t,ZoG _ _ (by have:=v.o;omega) (by decide)]
    case measure=>simp[intOf];omega
   ·have z:(Y % 2 == 1)=false:=beq_eq_false_iff_ne.2 a
    have b:=ZZ a;clear a;go_wp2
    go_round
    case rel=>
     have e:=n.o;have p:=b.o;refine⟨m+1,by omega,by go_num,?_⟩
     have d:Y / 2=((y / 2:Nat):Int):=by omega
     have c:ZqJ y=y / 2:=if_neg (by omega)
     rw[i.o,c,d]
    case measure=>simp[intOf];omega
  ·have u:Hid (Jt m k=Zdj k):=by
    have e:m=8:=by omega
    rw[e];exact rfl
   generalize Jt m k=y at *;go_wp2;go_ret;refine⟨ZbT ?_,rfl⟩;rw[u.o]
theorem Zuk (w:World):Calls prog 215 #[] w fun e w'=>e=.returned (.agg Xk)∧Below w.heap.size w w':=by
 have z:=(zero_of_info ZgH).1;have n:Hid (∀ (k:Nat) (w:World),k<256->Calls prog 225 #[.int .u32 (k:Int)] w fun e w'=>e=.returned (.int .u32 (Zdj k:Nat))∧w'=w):=fun k w f=>Zuj k f w
 go_enter func215,ntmps215
 go_wp2
 go_loopw[3] (fun i wr=>∃ k:Nat,k<=256∧i=.int .i64 (k:Int)∧Hid (wr.heap[w.heap.size+1]?=some (.cells (Zic k) 266 (0,0)))∧Hid (wr.heap[w.heap.size]?=some (.cells Zh 266 (0,0)))∧Hid (Below w.heap.size w wr)) (fun i _=>256-(intOf i).toNat)
 case atStart=>
  have m:((w.alloc (.cells Zh 266)).alloc (.cells Zh 266)).heap[w.heap.size+1]?=some (.cells (Zic 0) 266 (0,0)):=by
   rw[ZrG];have h:=heap_alloc_last (w.alloc (.cells Zh 266)) (.cells Zh 266);have p:(w.alloc (.cells Zh 266)).heap.size=w.heap.size+1:=by simp
   rw[p] at h;exact h
  have x:((w.alloc (.cells Zh 266)).alloc (.cells Zh 266)).heap[w.heap.size]?=some (.cells Zh 266 (0,0)):=
   (Below.heap_alloc _ _ w.heap.size (by simp)).trans (heap_alloc_last w _)
  exact⟨0,Nat.zero_le _,rfl,m,x,((Below.refl _ _).alloc zL _).alloc (by simp) _⟩
 case round=>
  obtain⟨k,f,rfl,b,d,a⟩:=hrel;by_cases c:k<256
  ·have B:wr.cell? ⟨w.heap.size+1,k,none⟩=some (.int .u32 0):=by
    rw[cell_of_row wr _ k _ _ _ b.out,ZcO k k c];simp
   have A:wr.frozen? ⟨w.heap.size+1,k,none⟩=false:=frozen_of_row wr _ k _ _ b.out
   have y:Hid ((wr.setCell ⟨w.heap.size+1,k,none⟩ (.int .u32 ((Zdj k:Nat):Int))).heap[w.heap.size+1]?=some (.cells (Zic (k+1)) 266 (0,0))):=by
    have h:=heap_setCell_same wr (w.heap.size+1) k _ _ (.int .u32 ((Zdj k:Nat):Int)) b.out;rw[Zui k c] at h;exact h
   go_wp2_with fail
   refine(n.o k wr c).mono ?_;rintro e C ⟨rfl,rfl⟩;go_wp2;go_roundw
   case rel=>exact⟨k+1,by omega,by go_num,y,(Below.heap_setCell _ _ _ _ (by show w.heap.size≠w.heap.size+1;omega)).trans d.out,a.out.setCell (by show w.heap.size<=w.heap.size+1;omega) _⟩
   case measure=>simp[intOf];omega
  ·have g:wr.heap[w.heap.size+1]?=some (.cells Xk 266 (0,0)):=by
    have e:k=256:=by omega
    rw[<-ZrH,<-e];exact b.out
   have u:=ZZ g
   have q:Hid ((loadVar 266 ⟨w.heap.size,0,none⟩).run prog (wr.setRow w.heap.size Xk)=.ok (.agg Xk) (wr.setRow w.heap.size Xk)):=
    run_loadVar_row (P:=prog) _ _ 266 266 Xk (0,0) _ (setRow_heap wr _ _ Xk _ _ d.out) underlying266 rfl (Zld Jm)
   have l:Hid (Below w.heap.size w (wr.setRow w.heap.size Xk)):=
    ⟨a.out.os,a.out.tape,a.out.output,by have:=a.out.size;simp[World.setRow];omega,fun j t=>(setRow_other wr _ j _ (by omega)).trans (a.out.block j t)⟩
   clear g b
   go_wp2_with(first
    | refine Zid _ rfl _ rfl (w.heap.size+1) Xk (0,0) rfl u.o Jm ?_
    | refine Zgp _ rfl _ _ rfl w.heap.size Zh Xk rfl rfl d.out ZcN Jm ZfY ?_)
   refine bodyPost_ret (v:=.agg Xk) ?_ rfl ⟨rfl,l.o⟩;have h:=q.o;rw[ZmO Tryz.results215];have e:(asAddr (.pointer (some ⟨w.heap.size,0,none⟩))).run prog (wr.setRow w.heap.size Xk)=.ok ⟨w.heap.size,0,none⟩ (wr.setRow w.heap.size Xk):=by simp[asAddr]
   simp only [Act.put,List.setIfInBounds_toArray,List.set_cons_succ,List.set_cons_zero];show((asAddr (.pointer (some ⟨w.heap.size,0,none⟩))).run prog (wr.setRow w.heap.size Xk)).andThen _=_;rw[e];simp only [Result.andThen];rw[h]
theorem Zwi (s:Nat) (v:Value) (l:List UInt8) (w:World) (B:Rd w v l) (j:s<4294967296):
 Calls prog 187 #[.int .u32 (s:Int),v] w fun e w'=>e=.returned (.int .u32 (Q2 s l:Nat))∧Below w.heap.size w w':=by
 have L:=ZZ B;obtain⟨ao,cap,rfl,aa,P,Q,a⟩:=B;clear Q;have K:=ZZ a;clear a;have U:(l.length:Int)<=9223372036854775807:=by unfold maxLen at P;omega
 have G:=ZZ (ZtU s j);have R:Hid (∀ k,Zbk (s ^^^ 4294967295) (l.take k)<4294967296):=fun k=>Zhc _ (Ztc j)
 have J:Hid (Q2 s l=Zbk (s ^^^ 4294967295) l ^^^ 4294967295):=rfl;have A:=ZZ (fun w=>Zuk w)
 have H:=(zero_of_info ZgH).1;generalize s ^^^ 4294967295=d at *;clear j
 go_enter func187,ntmps187
 go_wp2_with fail
 refine(A.o _).mono ?_;rintro e X ⟨rfl,t⟩;have q:=ZZ t;clear t A
 go_wp2_with(refine Zib _ rfl _ _ rfl rfl rfl ?_)
 intro W D C;have z:=ZZ (q.o.trans (D.mono q.o.size));have O:=ZZ C;clear D C H;go_wp2
 go_loop [6,14] (fun x i=>∃ k:Nat,k<=l.length∧i=.int .i64 k∧x=.int .u32 (Zbk d (l.take k):Nat)) (fun _ i=>l.length-(intOf i).toNat)
 case atStart=>
  refine⟨0,Nat.zero_le _,rfl,?_⟩;rw[G.o];rfl
 case round=>
  obtain⟨k,Z,rfl,rfl⟩:=hrel;have M:=R.o k;by_cases f:k<l.length
  ·have I:=ZZ (ZoH l d k f)
   rcases K.o with a | ⟨b,S,rfl,_⟩
   ·subst a;simp at f
   have Y:=(L.o.below z.o zL).at k f;have g:(l.getD k 0).toNat<256:=UInt8.toNat_lt _;generalize Zbk d (l.take k)=y at *;generalize (l.getD k 0).toNat=c at *;have u:=Zxy y c g
   have T:bits .xor .u8 ((y:Int) % 256) (c:Int)=((y % 256 ^^^ c:Nat):Int):=by
    have e:(y:Int) % 256=((y % 256:Nat):Int):=by omega
    rw[e];exact Zyr _ _ (by omega) g
   have F:Hid (bits .xor .u32 ((Zdj (y % 256 ^^^ c):Nat):Int) ((y:Int) / 256)=((ZdB y c:Nat):Int)):=by
    have e:(y:Int) / 256=((y / 256:Nat):Int):=by omega
    rw[e,ZoG _ _ (Zwe _ u) (by omega)]
    unfold ZdB;rw[Zwd y c g];exact rfl
   have N:=O.o (y % 256 ^^^ c) u;generalize p:y % 256 ^^^ c=m at *;have HM:=ZZ p;clear p;have V:(m:Int)<256:=by omega
   obtain⟨E,n⟩:∃ E:Int,E=((Zdj m:Nat):Int):=⟨_,rfl⟩;rw[<-n] at N F;clear n;go_wp2
   go_round
   case rel=>exact⟨k+1,by omega,by go_num,by rw[I.o,<-F.o]⟩
   case measure=>simp[intOf];omega
  ·go_wp2
   go_ret;refine⟨ZbT ?_,z.o⟩;rw[J.o,ZtU _ M,take_of_length_le (by omega)]
theorem Zle (v:Value) (l:List UInt8) (w:World) (a:Rd w v l):
 Calls prog 136 #[v] w fun e w'=>e=.returned (.int .u32 (Q2 0 l:Nat))∧Below w.heap.size w w':=by
 have c:Hid (Calls prog 187 #[.int .u32 0,v] w fun e w'=>e=.returned (.int .u32 (Q2 0 l:Nat))∧Below w.heap.size w w'):=Zwi 0 v l w a (by decide)
 generalize Q2 0 l=m at *;clear a
 go_enter func136,ntmps136
 go_wp2_with fail
 refine c.o.mono ?_;rintro e w' ⟨rfl,b⟩;have d:=ZZ b;clear b c;go_wp2;go_ret;exact⟨rfl,d.o⟩
def Zgq (v:Value) (l:List UInt8) (xs:List Value) (L:List (List UInt8)):Prop:=
 xs.length=L.length∧∀ j,j<L.length->∃ x,xs[j]?=some x∧x.oneCell'=true∧∀ W,Rd W v l->Rd W x (L.getD j [])
theorem Zgq.nil (v:Value) (l:List UInt8):Zgq v l [] []:=⟨rfl,fun j a=>absurd a (by simp)⟩
theorem Zgq.snoc (h:Zgq v l xs L) {x:Value} {d:List UInt8} (k:x.oneCell'=true) (g:∀ W,Rd W v l->Rd W x d):Zgq v l (xs++[x]) (L++[d]):=by
 refine⟨by simp[h.1],fun j i=>?_⟩
 rw[length_append,length_singleton] at i;by_cases a:j<L.length
 ·obtain⟨y,c,f,b⟩:=h.2 j a
  refine⟨y,by rw[List.getElem?_append_left (by rw[h.1];exact a)];exact c,f,?_⟩
  have e:(L++[d]).getD j []=L.getD j []:=by simp[List.getD,List.getElem?_append_left a]
  rw[e];exact b
 ·have m:j=L.length:=by omega
  subst m;refine⟨x,by rw[List.getElem?_append_right (by rw[h.1];omega),h.1];simp,k,?_⟩
  have e:(L++[d]).getD L.length []=d:=by simp[List.getD]
  rw[e];exact g
theorem Zgq.one (h:Zgq v l xs L):∀ u ∈ xs,u.oneCell'=true:=fun u c=>by
 obtain⟨j,b,rfl⟩:=List.getElem_of_mem c;obtain⟨x,a,d,-⟩:=h.2 j (by rw[<-h.1];exact b)
 rw[List.getElem?_eq_getElem b] at a;obtain rfl:=Option.some.inj a;exact d
theorem Zul:(prog.info? 53).map (fun i=>(i.zero,i.size,i.bytes))=some (some (.slice none 0 0),1,24):=by kernel_rfl
theorem Zie (w:World) (ty:TypeId) (B:Nat) (v:Value) (n:Nat) (xs:List Value) (h:w.ownsRow B 53 1 v n xs) (a:Addr) (m cap:Nat) (b:List Value) (e:b.length=m) (p:∀ j u,b[j]?=some u->w.cell? (a.add j)=some u) (t:∀ u ∈ b,u.oneCell'=true) (A:n+m<=1000000) (c:B<=w.heap.size):
 ∃ v' w',(Builtin.append_ #[144,144] ty #[v,.slice (some a) m cap]).run prog w=.ok v' w'∧w'.ownsRow B 53 1 v' (n+m) (xs++b)∧Below B w w':=by
 obtain⟨d,g,x,l,f⟩:=info_parts Zul
 obtain⟨v',w',i,z,q,_⟩:=run_append_own (P:=prog) w B 144 ty 53 d (.slice none 0 0) 1 24 underlying144 g x l f rfl (by decide) v n xs h
  a m cap b (by rw[e,Nat.mul_one]) p t (by unfold maxLen;omega) (by omega) c
 exact⟨v',w',i,z,(Below.refl _ _).grown q c (fun k y=>(World.ownsRow.lt h k y).1)⟩
theorem Zal (w:World) {c:Array Oper} {rest:List Oper} {o:Oper} {a:Act} {Q:Exit->Act->World->Prop} (e:o.guard=none) (s x:Operand)
 (C:o.op=.call { callee:=.builtin .append,args:=#[s,x],argTypes:=#[144,144] })
 (B:Nat) (v:Value) (n:Nat) (xs:List Value) (z:a.eval s=v) (g:w.ownsRow B 53 1 v n xs) (d:Addr) (m cap:Nat) (b:List Value) (i:a.eval x=.slice (some d) m cap) (f:b.length=m) (q:∀ j u,b[j]?=some u->w.cell? (d.add j)=some u) (t:∀ u ∈ b,u.oneCell'=true)
 (D:n+m<=1000000) (A:B<=w.heap.size)
 (h:∀ v' w',w'.ownsRow B 53 1 v' (n+m) (xs++b)->Below B w w'->wpList prog c Q rest (a.put o.dst v') w'):wpList prog c Q (o::rest) a w:=
 wpList_plain e fun _ l=>by
  obtain⟨v',w',p,y,k⟩:=Zie w o.type B v n xs g d m cap b f q t D A;unfold Oper.wp execOp;simp only [C,resolve,invoke,builtin,Sem.run_bind,Sem.run_pure,Result.andThen_ok,List.map_toArray,List.map_cons,List.map_nil,z,i,p];exact l _ _ (h v' w' y k)
theorem Zwj (ao:Option Addr) (l:List UInt8) (cap:Nat) (g:l.length<=cap) (i j:Nat) (e:i<=j) (f:j<=l.length):
 ∃ a c b,(∀ W,(Instr.sliceAt 53 (.slice ao l.length cap) (some (.int .i64 (i:Int))) (some (.int .i64 (j:Int))) (some (.int .i64 (j:Int)))).run prog W=.ok (.slice a c b) W)∧∀ W,Rd W (.slice ao l.length cap) l->Rd W (.slice a c b) ((l.drop i).take (j-i)):=by
 have d:∃ a c b,sliced ao i j j 1=.slice a c b:=by
  unfold sliced;exact⟨_,_,_,rfl⟩
 obtain⟨a,c,b,d⟩:=d;refine⟨a,c,b,fun W=>?_,fun W h=>?_⟩
 ·rw[run_sliceAt_slice W 53 _ _ _ _ Xf,run_slice_lhm W 53 ao l.length cap Xf .i64 .i64 .i64 (i:Int) (j:Int) (j:Int) (by omega) (by omega) (by omega) (by omega),Zw,Zcd]
  simp only [Int.toNat_natCast];rw[<-d];rfl
 ·rw[<-d]
  exact h.mid i j j e f zL (by omega)
theorem Zif (w:World) (x:Obj):w.heap.size<=(w.alloc x).heap.size:=((Below.refl w.heap.size w).alloc zL x).size
theorem ZmP (w:World) (v:Value):∀ j u,[v][j]?=some u->(w.alloc (.cells #[v] 53)).cell? ((⟨w.heap.size,0,none⟩:Addr).add j)=some u:=fun j u a=>by
 rw[Addr.add_lit,Nat.zero_add,cell_of_row _ w.heap.size j _ 53 (0,0) (heap_alloc_new w _)];rw[<-List.getElem?_toArray] at a;exact a
def ZxD (w:World) (v:Value) (l:List UInt8) (L:List (List UInt8)) (e:Ending) (w':World):Prop:=
 ∃ v' xs,e=.returned v'∧w'.ownsRow w.heap.size 53 1 v' L.length xs∧Zgq v l xs L∧Below w.heap.size w w'
theorem ZjU (v:Value) (l:List UInt8) (w:World) (U:Rd w v l) (ac:l.length<=100000):
 Calls prog 102 #[v] w fun e w'=>ZxD w v l (Xu l) e w':=by
 obtain⟨ao,cap,rfl,Z,Y,-⟩:=U;have n:=ZZ (fun i j=>Zwj ao l cap Z i j)
 have t:Hid (∀ A,A<l.length->Xu (l.drop A)=(l.drop A).take 64::Xu (l.drop (A+64))):=ZZ (fun A h=>Zoi h)
 have F:Hid (Xu l=[]++Xu (l.drop 0)):=ZZ (by simp)
 have z:Hid (∀ A,l.length<=A->Xu (l.drop A)=[]):=ZZ (fun A h=>by rw[List.drop_eq_nil_of_le h,X7])
 have G:Hid (∀ A,l.length<=A+64->(l.drop A).take (l.length-A)=(l.drop A).take 64):=ZZ (fun A h=>by
  rw[take_of_length_le (by rw[length_drop];omega),take_of_length_le (by rw[length_drop];omega)])
 obtain⟨m,M⟩:∃ m,m=Xu l:=⟨_,rfl⟩;rw[<-M] at F ⊢;clear M Y
 go_enter func102,ntmps102
 go_wp2
 go_loopw[3,4] (fun S C wr=>∃ (A:Nat) (P:List (List UInt8)) (xs:List Value),C=.int .i64 (A:Int)∧P.length<=A∧A<=l.length+64∧Hid (wr.ownsRow w.heap.size 53 1 S P.length xs)∧Hid (Zgq (.slice ao l.length cap) l xs P)∧Hid (m=P++Xu (l.drop A))∧Hid (Below w.heap.size w wr)) (fun _ C _=>l.length+64-(intOf C).toNat)
 case atStart=>exact⟨0,[],[],rfl,Nat.le_refl _,by omega,ZZ (World.ownsRow_nil w w.heap.size 53 1),ZZ (Zgq.nil _ _),F,Below.refl _ _⟩
 case round=>
  clear F;obtain⟨A,P,xs,rfl,ab,hA,D,B,p,d⟩:=hrel;by_cases V:A<l.length
  case neg=>
   have aa:¬ (A:Int)<(l.length:Int):=by omega
   have HF:Hid (m=P):=ZZ (by rw[p.out,z.o A (by omega),List.append_nil])
   go_wp2;go_ret;rw[HF.o];exact⟨_,xs,rfl,D.out,B.out,d.out⟩
  have ad:(A:Int)<(l.length:Int):=by omega
  have Q:=ZZ (t.o A V);by_cases h:A+64<=l.length
  ·obtain⟨a,b,c,hcut,f⟩:=n.o A (A+64) (by omega) h
   have N:((A+64:Nat):Int)=(A:Int)+64:=by omega
   have O:A+64-A=64:=by omega
   rw[N] at hcut;rw[O] at f;have y:=ZZ f;have R:(A:Int)+64<=(l.length:Int):=by omega
   have T:min ((A:Int)+64) (l.length:Int)=(A:Int)+64:=by omega
   have X:¬ (l.length:Int)<(A:Int)+64:=by omega
   have q:Hid (w.heap.size<=(wr.alloc (.cells #[.slice a b c] 53)).heap.size):=ZZ (Nat.le_trans d.out.size (Zif wr _));have K:Hid ((wr.alloc (.cells #[.slice a b c] 53)).ownsRow w.heap.size 53 1 _ P.length xs):=ZZ (World.ownsRow.alloc D.out _);have E:=ZZ (ZmP wr (.slice a b c));have H:Hid (∀ u ∈ [Value.slice a b c],u.oneCell'=true):=ZZ (fun u I=>by rw[List.mem_singleton.1 I];rfl)
   have L:P.length+1<=1000000:=by omega
   clear f N O t n z G h
   go_wp2_with(at_builtin;refine Zal _ rfl _ _ rfl w.heap.size _ P.length xs rfl K.o ⟨wr.heap.size,0,none⟩ 1 1 [.slice a b c] rfl rfl E.o H.o L q.o ?_)
   intro v1 W k g;have J:=ZZ k;have x:=ZZ ((d.out.alloc d.out.size _).trans g);clear k g;go_wp2;go_roundw
   case rel=>exact⟨A+64,P++[(l.drop A).take 64],xs++[.slice a b c],by go_num,by simp;omega,by omega,ZZ (by rw[length_append,length_singleton];exact J.o),ZZ (B.out.snoc rfl y.o),ZZ (by rw[p.out,Q.o,append_assoc];rfl),x⟩
   case measure=>simp[intOf];omega
  ·obtain⟨a,b,c,hcut,f⟩:=n.o A l.length (by omega) zL
   rw[G.o A (by omega)] at f
   have y:=ZZ f;have R:(l.length:Int)<(A:Int)+64:=by omega
   have T:min ((A:Int)+64) (l.length:Int)=(l.length:Int):=by omega
   have X:¬ (A:Int)+64<=(l.length:Int):=by omega
   have q:Hid (w.heap.size<=(wr.alloc (.cells #[.slice a b c] 53)).heap.size):=ZZ (Nat.le_trans d.out.size (Zif wr _));have K:Hid ((wr.alloc (.cells #[.slice a b c] 53)).ownsRow w.heap.size 53 1 _ P.length xs):=ZZ (World.ownsRow.alloc D.out _);have E:=ZZ (ZmP wr (.slice a b c));have H:Hid (∀ u ∈ [Value.slice a b c],u.oneCell'=true):=ZZ (fun u I=>by rw[List.mem_singleton.1 I];rfl)
   have L:P.length+1<=1000000:=by omega
   clear f t n z G h
   go_wp2_with(at_builtin;refine Zal _ rfl _ _ rfl w.heap.size _ P.length xs rfl K.o ⟨wr.heap.size,0,none⟩ 1 1 [.slice a b c] rfl rfl E.o H.o L q.o ?_)
   intro v1 W k g;have J:=ZZ k;have x:=ZZ ((d.out.alloc d.out.size _).trans g);clear k g;go_wp2;go_roundw
   case rel=>exact⟨A+64,P++[(l.drop A).take 64],xs++[.slice a b c],by go_num,by simp;omega,by omega,ZZ (by rw[length_append,length_singleton];exact J.o),ZZ (B.out.snoc rfl y.o),ZZ (by rw[p.out,Q.o,append_assoc];rfl),x⟩
   case measure=>simp[intOf];omega
theorem Zjg (i:Int) (v:Value) (l:List UInt8) (w:World) (j:Rd w v l):
 Calls prog 100 #[.int .i64 i,v] w fun e w'=>e=.returned (.agg #[.int .i64 i,.int .i64 (l.length:Int),.int .u32 ((Q2 0 l:Nat):Int)])∧Below w.heap.size w w':=by
 have d:Hid (∀ X,Below w.heap.size w (w.alloc X)):=fun X=>(Below.refl _ _).alloc zL X
 have g:=ZZ (fun W (h:Below w.heap.size w W)=>Zle v l W (j.below h zL))
 obtain⟨ao,cap,rfl,-⟩:=j;generalize Q2 0 l=m at *;obtain⟨M,f⟩:∃ M:Int,M=(m:Int):=⟨_,rfl⟩;rw[<-f] at g ⊢;clear f;have t:Hid (∀ cs,(w.alloc (.cells cs 147)).heap[w.heap.size]?=some (.cells cs 147 (0,0))):=fun cs=>heap_alloc_new w _
 go_enter func100,ntmps100
 go_wp2_with fail
 refine(g.o _ (d.o _)).mono ?_;rintro x b ⟨rfl,c⟩;have n:=ZZ ((d.o _).trans (c.mono (d.o _).size));have a:=(c.block w.heap.size (by simp)).trans (t.o _)
 have q:=cell_of_row b w.heap.size 0 _ _ _ a;have k:=cell_of_row b w.heap.size 1 _ _ _ a;have p:=cell_of_row b w.heap.size 2 _ _ _ a;have y:=frozen_of_row b w.heap.size 0 _ _ a;have z:=frozen_of_row b w.heap.size 1 _ _ a;have u:=frozen_of_row b w.heap.size 2 _ _ a;clear c a;go_wp2;refine bodyPost_ret (v:=.agg #[.int .i64 i,.int .i64 (l.length:Int),.int .u32 M]) (by simp[results,Tryz.results100,go_sem,q,k,p]) rfl ?_
 exact⟨rfl,((n.o.setCell zL _).setCell zL _).setCell zL _⟩
theorem ZmQ:∀ (A B:List Int),Zs (A++B)=Zs A++Zs B
 | [],_=>rfl
 | x::r,B=>by rw[List.cons_append,Zs,ZmQ r B,Zs,append_assoc]
theorem ZfZ:∀ (L:List Int),(∀ x ∈ L,I64 x)->(Zs L).length<=10*L.length
 | [],_=>by simp[Zs]
 | x::r,h=>by
  have b:=ZfZ r (fun y a=>h y (by simp[a]))
  have c:=Zvq (h x (by simp))
  rw[Zs,length_append,List.length_cons];omega
theorem ZrI (L:List Int) (k:Nat) (a:k<L.length):Zs (L.take (k+1))=Zs (L.take k)++Lib.uvarint (Lib.zigzag (L.getD k 0)):=by
 have e:L.take (k+1)=L.take k++[L.getD k 0]:=by
  rw[take_add_one];simp[List.getD,a]
 rw[e,ZmQ];simp[Zs]
def Zum (s:St):List UInt8:=(Lib.uvarint s.kind.toNat++Lib.uvarint (Zbu s))++Lib.uvarint s.L.length
theorem Zun (s:St):Zgz s=Zum s++Zs s.L:=by
 unfold Zgz Zum;simp[append_assoc]
theorem Zwk (a:Bool) (g:Int) (h:0<=g):(if a=true then g+1 else 0)=((Zbu ⟨0,[],a,g⟩:Nat):Int):=by
 unfold Zbu
 cases a
 ·rfl
 ·simp
  omega
theorem ZmR (k:Int) (l:List Int) (a:Bool) (g:Int):Zbu ⟨k,l,a,g⟩=Zbu ⟨0,[],a,g⟩:=rfl
def Zzb (w:World) (s:St) (e:Ending) (w':World):Prop:=
 ∃ v',e=.returned (.tuple #[v',.int .i64 (if X8 s then 0 else 1)])∧Rd w' v' (if X8 s then Zgz s else[])∧Below w.heap.size w w'
theorem Zjh (kind:Int) (ao:Option Addr) (n cap:Nat) (a:Bool) (g:Int) (w:World) (d:0<=g) (f:g<=2):
 Calls prog 190 #[.agg #[.int .i64 kind,.slice ao n cap,.bool a,.int .i64 g]] w fun e w'=>e=.returned (.int .i64 ((Zbu ⟨0,[],a,g⟩:Nat):Int))∧Below w.heap.size w w':=by
 have b:Hid (∀ X,Below w.heap.size w (w.alloc X)):=fun X=>(Below.refl _ _).alloc zL X
 have c:=ZZ (Zwk a g d);generalize Zbu ⟨0,[],a,g⟩=m at *
 cases a
 ·go_enter func190,ntmps190
  go_wp2;go_ret;refine⟨?_,b.o _⟩;rw[<-c.o];rfl
 ·go_enter func190,ntmps190
  go_wp2;go_ret;refine⟨?_,b.o _⟩;rw[<-c.o];rfl
theorem Zig (v:Value) (s:St) (w:World) (hs:StV w v s) (bb:s.L.length<=1000):
 Calls prog 141 #[v] w fun e w'=>Zzb w s e w':=by
 obtain⟨vl,rfl,Q,an,ar⟩:=hs;obtain⟨kind,l,a,g⟩:=s;simp only at Q an ar bb ⊢;have ad:Hid (∀ W,Below w.heap.size w W->Calls prog 82 #[.agg #[.int .i64 kind,vl,.bool a,.int .i64 g]] W fun e w'=>e=.returned (.bool (decide (X8 ⟨kind,l,a,g⟩)))∧Below W.heap.size W w'):=fun W h=>ZkV _ ⟨kind,l,a,g⟩ W ⟨vl,rfl,Q.below h zL,an,ar⟩
 have q:Hid (∀ X,Below w.heap.size w (w.alloc X)):=fun X=>(Below.refl _ _).alloc zL X
 have bc:=ZZ Q;obtain⟨ao,cap,rfl,-,-,-,hi,aR⟩:=Q;have aW:=ZZ aR;clear aR an ar;unfold Zzb;by_cases b:X8 ⟨kind,l,a,g⟩
 ·simp only [if_pos b]
  have HT:=ZZ (decide_eq_true b);have a0:0<=kind:=b.2.2.2.1;have be:kind<6:=b.2.2.2.2.1;have aZ:0<=g:=b.1;have ba:g<=2:=b.2.1;have a7:=ZpL b;rw[ZmR] at a7;have HI:=ZZ hi;have u1:=Ji (n:=kind.toNat) (by omega)
  have u2:=Ji (n:=Zbu ⟨0,[],a,g⟩) (by omega)
  have u3:=Ji (n:=l.length) (by omega)
  have Z:Hid (∀ (n:Int),0<=n->n<4611686018427387904->∀ W,Calls prog 132 #[.slice none 0 0,.int .i64 n] W fun e w'=>∃ v',e=.returned v'∧Own w' W.heap.size v' (Lib.uvarint n.toNat)∧Below W.heap.size W w'):=fun n J S W=>by
   have h:=ZbA (.slice none 0 0) [] n W (Rd.nil W) (by simp)
   rw[Z7 J S,nil_append] at h;exact h
  have aH:=ZZ (Z.o kind a0 (by omega))
  have ae:=ZZ (Z.o ((Zbu ⟨0,[],a,g⟩:Nat):Int) (by omega) (by omega))
  have am:=ZZ (Z.o (l.length:Int) (by omega) (by omega))
  rw[Int.toNat_natCast] at ae am;have K:=ZZ (fun W=>Zjh kind ao l.length cap a g W aZ ba)
  have aT:Hid (∀ x,I64 x->∀ W,Calls prog 142 #[.slice none 0 0,.int .i64 x] W fun e w'=>∃ v',e=.returned v'∧Own w' W.heap.size v' (Lib.uvarint (Lib.zigzag x))∧Below W.heap.size W w'):=fun x M W=>by
   have h:=Jk (.slice none 0 0) [] x W (Rd.nil W) (by simp) M.1 M.2
   rw[nil_append] at h;exact h
  have aK:Hid (Zgz ⟨kind,l,a,g⟩=(Lib.uvarint kind.toNat++(Lib.uvarint (Zbu ⟨0,[],a,g⟩)++Lib.uvarint l.length))++Zs l):=by
   refine ZZ ?_;rw[Zun];unfold Zum;rw[ZmR];simp only [append_assoc]
  have a3:Hid (∀ k,(Zs (l.take k)).length<=10*1000):=fun k=>by
   have S:=ZfZ (l.take k) (fun x M=>hi x (List.mem_of_mem_take M))
   have h2:(l.take k).length<=l.length:=by simp;omega
   omega
  have aF:Hid (∀ W N V Y F,N=W.heap.size->Rd W V (Lib.uvarint kind.toNat)->Rd W Y (Lib.uvarint (Zbu ⟨0,[],a,g⟩))->Rd W F (Lib.uvarint l.length)->Calls prog 131 #[.slice (some ⟨N,0,none⟩) 3 3] (W.alloc (.cells #[V,Y,F] 53)) fun e w'=>∃ v',e=.returned v'∧Own w' W.heap.size v' (Lib.uvarint kind.toNat++(Lib.uvarint (Zbu ⟨0,[],a,g⟩)++Lib.uvarint l.length))∧Below W.heap.size W w'):=fun W N V Y F hN J S h2=>Zug W N hN V Y F _ _ _ J S h2 (by omega)
  rw[aK.o]
  have bf:(Lib.uvarint kind.toNat++(Lib.uvarint (Zbu ⟨0,[],a,g⟩)++Lib.uvarint l.length)).length<=30:=by
   simp only [length_append];omega
  clear b hi aK Z u1 u2 u3;generalize Zbu ⟨0,[],a,g⟩=m at *;generalize Lib.uvarint kind.toNat=A at *;generalize Lib.uvarint m=B at *;generalize Lib.uvarint l.length=C at *;generalize A++(B++C)=H at *
  go_enter func141,ntmps141
  go_wp2_with fail
  refine(ad.o _ (q.o _)).mono ?_;rintro e W1 ⟨rfl,u⟩;rw[HT.o];have j:Bx W1 w.heap.size _:=(u.block w.heap.size (by simp)).trans (heap_alloc_new w _)
  have aI:=ZZ j;have I:=ZZ ((q.o _).trans (u.mono (q.o _).size));obtain⟨p0,-⟩:=j.cell 0;obtain⟨p1,-⟩:=j.cell 1;obtain⟨p2,-⟩:=j.cell 2;obtain⟨p3,-⟩:=j.cell 3;clear u j;go_wp2
  go_region_held(fun w'=>w'.cell? ⟨w.heap.size,0,none⟩=some (.int .i64 kind)∧w'.cell? ⟨w.heap.size,1,none⟩=some (.slice ao l.length cap)∧w'.cell? ⟨w.heap.size,2,none⟩=some (.bool a)∧w'.cell? ⟨w.heap.size,3,none⟩=some (.int .i64 g)) (go_keep)
   (first
    | (go_at_call_of 132 (Value.int .i64 kind);refine(aH.o _).mono ?_;rintro e W2 ⟨F,rfl,ai,aa⟩;have t:=aI.o.below (((Below.refl _ _).drew).trans aa) zL;have ay:=ZZ t;have ag:=ZZ (I.o.trans ((((Below.refl _ _).drew).trans aa).mono I.o.size));obtain⟨a2,c2,rfl,-⟩:=ai.rd;have aB:=ZZ ai.rd;obtain⟨q0,-⟩:=t.cell 0;obtain⟨q1,-⟩:=t.cell 1;obtain⟨q2,-⟩:=t.cell 2;obtain⟨q3,-⟩:=t.cell 3;clear ai aa t)
    | (go_at_call 190;refine(K.o _).mono ?_;rintro e W3 ⟨rfl,T⟩;have f:=ay.o.below T zL;have aL:=ZZ f;have al:=ZZ (ag.o.trans (T.mono ag.o.size));have aw:=ZZ (aB.o.below T zL);obtain⟨r0,-⟩:=f.cell 0;obtain⟨r1,-⟩:=f.cell 1;obtain⟨r2,-⟩:=f.cell 2;obtain⟨r3,-⟩:=f.cell 3;clear T f)
    | (go_at_call_of 132 (Value.int .i64 (m:Int));refine(ae.o _).mono ?_;rintro e W4 ⟨v4,rfl,af,O⟩;have z:=aL.o.below O zL;have au:=ZZ z;have aj:=ZZ (al.o.trans (O.mono al.o.size));have av:=ZZ (aw.o.below O zL);obtain⟨a4,c4,rfl,-⟩:=af.rd;have aM:=ZZ af.rd;obtain⟨s0,-⟩:=z.cell 0;obtain⟨s1,-⟩:=z.cell 1;obtain⟨s2,-⟩:=z.cell 2;obtain⟨s3,-⟩:=z.cell 3;clear af O z)
    | (go_at_call_of 132 (Value.int .i64 (l.length:Int));refine(am.o _).mono ?_;rintro e W5 ⟨v5,rfl,ab,E⟩;have p:=au.o.below E zL;have aP:=ZZ p;have U:=ZZ (aj.o.trans (E.mono aj.o.size));have az:=ZZ (av.o.below E zL);have ax:=ZZ (aM.o.below E zL);obtain⟨a5,c5,rfl,-⟩:=ab.rd;have aA:=ZZ ab.rd;obtain⟨t0,-⟩:=p.cell 0;obtain⟨t1,-⟩:=p.cell 1;obtain⟨t2,-⟩:=p.cell 2;obtain⟨t3,-⟩:=p.cell 3;clear ab E p)
    | (go_at_call 131;refine(aF.o W5 W5.heap.size _ _ _ rfl az.o ax.o aA.o).mono ?_;rintro e W6 ⟨v6,rfl,aS,aq⟩;have d:=aP.o.below aq zL;have a8:=ZZ d;have aN:=ZZ (aS.mono U.o.size);have aQ:=ZZ (U.o.trans (aq.mono U.o.size));obtain⟨y0,-⟩:=d.cell 0;obtain⟨y1,-⟩:=d.cell 1;obtain⟨y2,-⟩:=d.cell 2;obtain⟨y3,-⟩:=d.cell 3;clear aS aq d))
  clear p0 p1 p2 p3 q0 q1 q2 q3 r0 r1 r2 r3 s0 s1 s2 s3 t0 t1 t2 t3 aI ay aL au aP I ag al aj U aB aw av az aM ax aA aH ae am K aF ad;go_wp2
  go_loopw[4,25] (fun vo i wr=>∃ k:Nat,i=.int .i64 k∧k<=l.length∧Hid (Own wr w.heap.size vo (H++Zs (l.take k)))∧Hid (Below w.heap.size w wr)) (fun _ i _=>l.length-(intOf i).toNat)
  case atStart=>exact⟨0,rfl,Nat.zero_le _,by simpa[Zs] using aN,aQ⟩
  case round=>
   clear y0 y1 y2 y3 a8 aN aQ;obtain⟨k,rfl,hk,ap,R⟩:=hrel;by_cases G:k<l.length
   ·rcases aW.o with J | ⟨c,aD,rfl,hc⟩
    ·rw[J] at G;simp at G
    have bd:wr.cell? ⟨c,aD+k,none⟩=some (.int .i64 (l.getD k 0)):=(R.out.cell (World.block_lt_of_cell? w ⟨c,aD+k,none⟩ (hc k G))).trans (hc k G);have aG:Hid (I64 (l.getD k 0)):=Zvr HI.o k;have a6:=ZZ (aT.o (l.getD k 0) aG.o)
    have aV:Hid ((H++Zs (l.take k)).length+(Lib.uvarint (Lib.zigzag (l.getD k 0))).length<=70368744177664):=by
     refine ZZ ?_;have:=a3.o k;have:=Zvq aG.o;rw[length_append];omega
    have K:Hid ((H++Zs (l.take k))++Lib.uvarint (Lib.zigzag (l.getD k 0))=H++Zs (l.take (k+1))):=by
     refine ZZ ?_;rw[ZrI l k G,append_assoc]
    clear hc;generalize l.getD k 0=y at *;generalize H++Zs (l.take k)=P at *;generalize Lib.uvarint (Lib.zigzag y)=D at *
    go_wp2_with fail
    refine(a6.o _).mono ?_;rintro e W7 ⟨v7,rfl,aJ,ak⟩;have aY:=ZZ aJ.rd;have a9:=ZZ (ap.out.below ak zL);have aO:=ZZ (R.out.trans (ak.mono R.out.size));have aX:=ZZ aO.o.size;clear aJ ak
    go_wp2_with(at_builtin;refine Xi _ rfl _ _ rfl w.heap.size _ P rfl a9.o _ D rfl aY.o aV.o aX.o ?_)
    intro v8 W8 ac aE;rw[K.o] at ac;have a1:=ZZ ac;have aU:=ZZ (aO.o.trans aE);clear ac aE;go_wp2;go_roundw
    case rel=>exact⟨k+1,by go_num,by omega,a1,aU⟩
    case measure=>simp[intOf];omega
   ·have aC:l.take k=l:=take_of_length_le (by omega)
    rw[aC] at ap;clear aC;go_wp2;go_ret2;exact⟨_,rfl,ap.out.rd,R.out⟩
 ·simp only [if_neg b]
  have HT:=ZZ (decide_eq_false b);clear b
  go_enter func141,ntmps141
  go_wp2_with fail
  refine(ad.o _ (q.o _)).mono ?_;rintro e W1 ⟨rfl,u⟩;rw[HT.o];have I:=ZZ ((q.o _).trans (u.mono (q.o _).size));clear u;go_wp2;go_ret2;exact⟨_,rfl,Rd.nil _,I.o⟩
def ZxE (i n m:Nat):List UInt8:=115::(Lib.uvarint 3++(Lib.uvarint i++(Lib.uvarint n++Lib.leBytes 4 m)))
theorem Zwl (i:Nat) (l:List UInt8):ZxE i l.length (Q2 0 l)=Zfe i l:=rfl
theorem Zuo (W:World) (N:Nat) (a:N=W.heap.size):Rd (W.alloc (.cells #[.int .u8 115] 5)) (.slice (some ⟨N,0,none⟩) 1 1) [115]:=by
 subst a;refine⟨some ⟨W.heap.size,0,none⟩,1,rfl,Nat.le_refl _,by unfold maxLen;omega,(fun h=>by cases h),.inr ⟨W.heap.size,0,rfl,fun j b=>?_⟩⟩
 have e:j=0:=by simpa using b
 subst e;rw[cell_of_row _ W.heap.size _ _ 5 (0,0) (heap_alloc_new W _)];rfl
theorem ZyA (W:World) (N:Nat) (a:N=W.heap.size):Rd (W.alloc (.cells #[.int .u8 115] 5)).drew (.slice (some ⟨N,0,none⟩) 1 1) [115]:=
 (Zuo W N a).below (((Below.refl _ _)).drew) zL
theorem ZxF (W:World) (N:Nat) (A:N=W.heap.size) (l m k g i:Value) (a c f b d:List UInt8) (y:Rd W l a) (z:Rd W m c) (w:Rd W k f) (q:Rd W g b) (t:Rd W i d) (B:a.length+c.length+f.length+b.length+d.length<=1000000):
 Calls prog 131 #[.slice (some ⟨N,0,none⟩) 5 5] (W.alloc (.cells #[l,m,k,g,i] 53)) fun e w'=>∃ v',e=.returned v'∧Own w' W.heap.size v' (a++(c++(f++(b++d))))∧Below W.heap.size W w':=by
 have v:=RdL.built W N A #[l,m,k,g,i] [a,c,f,b,d] (by simp) (fun j x=>by
  match j,x with
  | 0,_=>exact⟨l,rfl,y⟩
  | 1,_=>exact⟨m,rfl,z⟩
  | 2,_=>exact⟨k,rfl,w⟩
  | 3,_=>exact⟨g,rfl,q⟩
  | 4,_=>exact⟨i,rfl,t⟩)
 refine(Zdf _ _ _ v (by simp;omega) (by simp)).mono ?_
 rintro e w' ⟨v',rfl,n,p⟩;have u:[a,c,f,b,d].flatten=a++(c++(f++(b++d))):=by simp
 rw[u] at n;exact⟨v',rfl,n.mono (by simp),((Below.refl _ _).alloc zL _).trans (p.mono (by simp))⟩
def Bm (w:World) (b:Nat) (x y z:Value):Prop:=w.heap[b]?=some (.cells #[x,y,z] 147 (0,0))
theorem Bm.lt (h:Bm w b x y z):b<w.heap.size:=(Array.getElem?_eq_some_iff.1 h).1
theorem Bm.below {w':World} (h:Bm w b x y z) (a:Below B w w') (c:w.heap.size<=B):Bm w' b x y z:=(a.block b (by have:=h.lt;omega)).trans h
theorem Bm.cells (h:Bm w b x y z):w.cell? ⟨b,0,none⟩=some x∧w.cell? ⟨b,1,none⟩=some y∧w.cell? ⟨b,2,none⟩=some z:=
 ⟨cell_of_row w b 0 _ _ _ h,cell_of_row w b 1 _ _ _ h,cell_of_row w b 2 _ _ _ h⟩
theorem Zwm (i n:Int) (m:Nat) (w:World) (hi:0<=i∧i<4611686018427387904) (hn:0<=n∧n<4611686018427387904) (hm:m<4294967296):
 Calls prog 101 #[.agg #[.int .i64 i,.int .i64 n,.int .u32 (m:Int)]] w fun e w'=>∃ v',e=.returned v'∧Own w' w.heap.size v' (ZxE i.toNat n.toNat m)∧Below w.heap.size w w':=by
 have T:Hid (∀ k W,0<=k->k<4611686018427387904->Calls prog 132 #[.slice none 0 0,.int .i64 k] W fun e w'=>∃ v',e=.returned v'∧Own w' W.heap.size v' (Lib.uvarint k.toNat)∧Below W.heap.size W w'):=ZZ (fun k W h0 h1=>by
  have h:=ZbA (.slice none 0 0) [] k W (Rd.nil W) (by simp)
  rw[Z7 h0 h1,nil_append] at h
  exact h)
 have ar:=ZZ (fun W=>T.o 3 W (by omega) (by omega))
 have ae:=ZZ (fun W=>T.o i W hi.1 hi.2)
 have aj:=ZZ (fun W=>T.o n W hn.1 hn.2)
 have V:=ZZ (fun W=>Zhy m W hm)
 have q1:(Lib.uvarint (3:Int).toNat).length<=10:=Ji (by decide)
 have q2:(Lib.uvarint i.toNat).length<=10:=Ji (by omega)
 have q3:(Lib.uvarint n.toNat).length<=10:=Ji (by omega)
 have q4:(Lib.leBytes 4 m).length<=10:=by rw[Lib.leBytes_length];decide
 have HE:Hid (ZxE i.toNat n.toNat m=[115]++(Lib.uvarint (3:Int).toNat++(Lib.uvarint i.toNat++(Lib.uvarint n.toNat++Lib.leBytes 4 m)))):=ZZ rfl;rw[HE.o];have ap:=ZZ (fun W N v0 v1 Q R Y hN h0 h1 h2 h3 h4=>ZxF W N hN v0 v1 Q R Y [115] (Lib.uvarint (3:Int).toNat) (Lib.uvarint i.toNat) (Lib.uvarint n.toNat) (Lib.leBytes 4 m) h0 h1 h2 h3 h4 (by simp only [length_singleton];omega))
 generalize Lib.uvarint (3:Int).toNat=L1 at *;generalize Lib.uvarint i.toNat=L2 at *;generalize Lib.uvarint n.toNat=L3 at *;generalize Lib.leBytes 4 m=L4 at *;generalize [115]++(L1++(L2++(L3++L4)))=LL at *;obtain⟨M,hM⟩:∃ M:Int,M=(m:Int):=⟨_,rfl⟩;rw[<-hM] at V ⊢;clear hM HE T q1 q2 q3 q4 hi hn hm;obtain⟨a,ac⟩:∃ a,a=w.alloc (.cells #[.int .i64 i,.int .i64 n,.int .u32 M] 147):=⟨_,rfl⟩;have U:Hid (Below w.heap.size w a):=ZZ (by rw[ac];exact(Below.refl _ _).alloc zL _)
 have au:Hid (Bm a w.heap.size (.int .i64 i) (.int .i64 n) (.int .u32 M)):=ZZ (by rw[ac];exact heap_alloc_new w _)
 have l:Hid (∀ W,Below a.heap.size a W->W.cell? ⟨w.heap.size,0,none⟩=some (.int .i64 i)∧W.cell? ⟨w.heap.size,1,none⟩=some (.int .i64 n)∧W.cell? ⟨w.heap.size,2,none⟩=some (.int .u32 M)):=ZZ (fun W h=>(au.o.below h zL).cells)
 have D:Hid (∀ W X,Below a.heap.size a W->Below a.heap.size a (W.alloc X)):=ZZ (fun W X h=>h.alloc h.size X)
 have aw:Hid (∀ W,Below a.heap.size a W->Below a.heap.size a W.drew):=ZZ (fun W h=>h.drew)
 have ai:Hid (Below a.heap.size a a.drew):=ZZ ((Below.refl _ _).drew);have af:Hid (Below a.heap.size a (a.alloc (.cells #[.int .u8 115] 5)).drew):=ZZ (((Below.refl _ _).alloc zL _).drew)
 go_enter func101,ntmps101
 go_upto_region 1 with fail
 rw[<-ac];clear ac;have E:Hid (∀ args w,(callFunc 132 args).run prog w=.ok (.enter 132 args) w):=ZZ (enters_of func132 (by kernel_rfl) rfl)
 have ag:Hid (∀ args w,(callFunc 135 args).run prog w=.ok (.enter 135 args) w):=ZZ (enters_of func135 (by kernel_rfl) rfl)
 have aq:Hid (∀ args w,(callFunc 131 args).run prog w=.ok (.enter 131 args) w):=ZZ (enters_of func131 (by kernel_rfl) rfl)
 go_region_held2(fun w'=>w'.cell? ⟨w.heap.size,0,none⟩=some (.int .i64 i)∧w'.cell? ⟨w.heap.size,1,none⟩=some (.int .i64 n)∧w'.cell? ⟨w.heap.size,2,none⟩=some (.int .u32 M))
  (first | (with_reducible exact l.o _ ai.o) | (with_reducible exact l.o _ af.o) | (with_reducible exact l.o _ ak) | (with_reducible exact l.o _ p) | (with_reducible exact l.o _ y) | (with_reducible exact l.o _ x) | (with_reducible exact l.o _ C) | (with_reducible exact l.o _ (D.o _ _ p)) | (with_reducible exact l.o _ (D.o _ _ y)) | (with_reducible exact l.o _ (D.o _ _ x)) | (with_reducible exact l.o _ (D.o _ _ C)) | (with_reducible exact l.o _ (D.o _ _ (D.o _ _ p))))
  (first
   | ((with_reducible refine Yj 132 _ _ rfl rfl #[.slice none 0 0,.int .i64 3] (by simp[Act.eval]) E.o (ar.o a.drew) ?_);rintro v1 j ⟨F,G⟩;have C:Below a.heap.size a j:=ai.o.trans (G.mono ai.o.size);obtain⟨a1,c1,c,-⟩:=F.rd;subst c;have aa:=ZZ F.rd;clear F G)
   | ((with_reducible refine Yj 132 _ _ rfl rfl #[.slice none 0 0,.int .i64 3] (by simp[Act.eval]) E.o (ar.o (a.alloc (.cells #[.int .u8 115] 5)).drew) ?_);rintro v1 j ⟨F,G⟩;have C:Below a.heap.size a j:=af.o.trans (G.mono af.o.size);have av:=ZZ ((ZyA a _ rfl).below G zL);obtain⟨a1,c1,c,-⟩:=F.rd;subst c;have aa:=ZZ F.rd;clear F G)
   | (have v:=av.o;(with_reducible refine Yj 132 _ _ rfl rfl #[.slice none 0 0,.int .i64 i] (by simp[Act.eval]) E.o (ae.o j) ?_);rintro Q f ⟨t,z⟩;have b:Below j.heap.size j f:=z;have x:Below a.heap.size a f:=C.trans (b.mono C.size);have an:=ZZ (v.below b zL);clear v;have O:=ZZ (aa.o.below b zL);clear b;obtain⟨a2,c2,c,-⟩:=t.rd;subst c;have K:=ZZ t.rd;clear t z)
   | ((with_reducible refine Yj 132 _ _ rfl rfl #[.slice none 0 0,.int .i64 i] (by simp[Act.eval]) E.o (ae.o j) ?_);rintro Q f ⟨t,z⟩;have b:Below j.heap.size j f:=z;have x:Below a.heap.size a f:=C.trans (b.mono C.size);have O:=ZZ (aa.o.below b zL);clear b;obtain⟨a2,c2,c,-⟩:=t.rd;subst c;have K:=ZZ t.rd;clear t z)
   | ((with_reducible refine Yj 132 _ _ rfl rfl #[.slice none 0 0,.int .i64 i] (by simp[Act.eval]) E.o (ae.o (j.alloc (.cells #[.int .u8 115] 5))) ?_);rintro Q f ⟨t,z⟩;have b:Below j.heap.size j f:=((Below.refl _ _).alloc zL _).trans (z.mono (by simp));have x:Below a.heap.size a f:=C.trans (b.mono C.size);have an:=ZZ ((Zuo j _ rfl).below z zL);have O:=ZZ (aa.o.below b zL);clear b;obtain⟨a2,c2,c,-⟩:=t.rd;subst c;have K:=ZZ t.rd;clear t z)
   | (have v:=an.o;(with_reducible refine Yj 132 _ _ rfl rfl #[.slice none 0 0,.int .i64 n] (by simp[Act.eval]) E.o (aj.o f) ?_);rintro R d ⟨u,B⟩;have b:Below f.heap.size f d:=B;have y:Below a.heap.size a d:=x.trans (b.mono x.size);have al:=ZZ (v.below b zL);clear v;have L:=ZZ (O.o.below b zL);have H:=ZZ (K.o.below b zL);clear b;obtain⟨a3,c3,c,-⟩:=u.rd;subst c;have P:=ZZ u.rd;clear u B)
   | ((with_reducible refine Yj 132 _ _ rfl rfl #[.slice none 0 0,.int .i64 n] (by simp[Act.eval]) E.o (aj.o f) ?_);rintro R d ⟨u,B⟩;have b:Below f.heap.size f d:=B;have y:Below a.heap.size a d:=x.trans (b.mono x.size);have L:=ZZ (O.o.below b zL);have H:=ZZ (K.o.below b zL);clear b;obtain⟨a3,c3,c,-⟩:=u.rd;subst c;have P:=ZZ u.rd;clear u B)
   | ((with_reducible refine Yj 132 _ _ rfl rfl #[.slice none 0 0,.int .i64 n] (by simp[Act.eval]) E.o (aj.o (f.alloc (.cells #[.int .u8 115] 5))) ?_);rintro R d ⟨u,B⟩;have b:Below f.heap.size f d:=((Below.refl _ _).alloc zL _).trans (B.mono (by simp));have y:Below a.heap.size a d:=x.trans (b.mono x.size);have al:=ZZ ((Zuo f _ rfl).below B zL);have L:=ZZ (O.o.below b zL);have H:=ZZ (K.o.below b zL);clear b;obtain⟨a3,c3,c,-⟩:=u.rd;subst c;have P:=ZZ u.rd;clear u B)
   | (have v:=al.o;(with_reducible refine Yj 135 _ _ rfl rfl #[.int .u32 M] (by simp[Act.eval]) ag.o (V.o d) ?_);rintro Y g ⟨q,A⟩;have b:Below d.heap.size d g:=A;have p:Below a.heap.size a g:=y.trans (b.mono y.size);have am:=ZZ (v.below b zL);clear v;have S:=ZZ (L.o.below b zL);have ad:=ZZ (H.o.below b zL);have Z:=ZZ (P.o.below b zL);clear b;obtain⟨a4,c4,c,-⟩:=q.rd;subst c;have ab:=ZZ q.rd;clear q A)
   | ((with_reducible refine Yj 135 _ _ rfl rfl #[.int .u32 M] (by simp[Act.eval]) ag.o (V.o d) ?_);rintro Y g ⟨q,A⟩;have b:Below d.heap.size d g:=A;have p:Below a.heap.size a g:=y.trans (b.mono y.size);have S:=ZZ (L.o.below b zL);have ad:=ZZ (H.o.below b zL);have Z:=ZZ (P.o.below b zL);clear b;obtain⟨a4,c4,c,-⟩:=q.rd;subst c;have ab:=ZZ q.rd;clear q A)
   | ((with_reducible refine Yj 135 _ _ rfl rfl #[.int .u32 M] (by simp[Act.eval]) ag.o (V.o (d.alloc (.cells #[.int .u8 115] 5))) ?_);rintro Y g ⟨q,A⟩;have b:Below d.heap.size d g:=((Below.refl _ _).alloc zL _).trans (A.mono (by simp));have p:Below a.heap.size a g:=y.trans (b.mono y.size);have am:=ZZ ((Zuo d _ rfl).below A zL);have S:=ZZ (L.o.below b zL);have ad:=ZZ (H.o.below b zL);have Z:=ZZ (P.o.below b zL);clear b;obtain⟨a4,c4,c,-⟩:=q.rd;subst c;have ab:=ZZ q.rd;clear q A)
   | (have v:=am.o;(with_reducible refine Yj 131 _ _ rfl rfl #[.slice (some ⟨g.heap.size,0,none⟩) 5 5] (by simp[Act.eval]) aq.o (ap.o g g.heap.size _ _ _ _ _ rfl v S.o ad.o Z.o ab.o) ?_);rintro v5 W5 ⟨I,J⟩;have ak:Below a.heap.size a W5:=p.trans (J.mono p.size);have ao:=ZZ (I.mono (Nat.le_trans U.o.size p.size));clear I J v)
   | (refine Yj 131 _ _ rfl rfl #[.slice (some ⟨g.heap.size+1,0,none⟩) 5 5] (by simp[Act.eval]) aq.o (ap.o (g.alloc (.cells #[.int .u8 115] 5)) (g.heap.size+1) _ _ _ _ _ (by simp) (Zuo g _ rfl) (S.o.below ((Below.refl _ _).alloc zL _) zL) (ad.o.below ((Below.refl _ _).alloc zL _) zL) (Z.o.below ((Below.refl _ _).alloc zL _) zL) (ab.o.below ((Below.refl _ _).alloc zL _) zL)) ?_;rintro v5 W5 ⟨I,J⟩;have ak:Below a.heap.size a W5:=(D.o _ _ p).trans (J.mono (D.o _ _ p).size);have ao:=ZZ (I.mono (Nat.le_trans U.o.size (D.o _ _ p).size));clear I J))
 all_goals
  go_wp2;go_ret;exact⟨_,rfl,ao.o,U.o.trans (ak.mono U.o.size)⟩
theorem ZoK (t:List Ent) (q:Nat) (a:q<t.length):Yz (t.take (q+1))=Yz (t.take q)++ZvC (t.getD q Q8):=by
 have b:t.take (q+1)=t.take q++[t.getD q Q8]:=by
  rw[take_add_one,List.getElem?_eq_getElem a];simp[List.getD,a]
 rw[b];unfold Yz;rw[List.flatMap_append];simp
theorem Zlf (t:List Ent) (q:Nat):(Yz (t.take q)).length<=(Yz t).length:=by
 have h:Yz t=Yz (t.take q)++Yz (t.drop q):=by
  unfold Yz;rw[<-List.flatMap_append,List.take_append_drop]
 rw[h,length_append];omega
theorem ZoL (v:Value) (s:Qv) (w:World) (hs:SnV w v s) (j:Zdk s):
 Calls prog 99 #[v] w fun e w'=>∃ v',e=.returned v'∧Own w' w.heap.size v' (Xt s)∧Below w.heap.size w w':=by
 obtain⟨vl,vt,rfl,I,z,D,ht,hi⟩:=hs;have bd:=Zhb j.2.1;have bn:=ZlW j.2.2;have ai:=ZbM j;have a9:=Zti j.2.1;have ab:=ZZ (fun W (h:Below w.heap.size w W)=>Zig (.agg #[.int .i64 s.st.kind,vl,.bool s.st.shut,.int .i64 s.st.eng]) s.st W ⟨vl,rfl,I.below h zL,z,D⟩ (by omega))
 unfold Zzb at ab;rw[if_pos j.2.1,if_pos j.2.1] at ab;have aK:Hid (∀ q,q<s.tab.length->ZbZ (s.tab.getD q Q8)):=ZZ (fun q J=>(j.2.2 q J).1)
 have C:Hid (∀ b l k W,Rd W b l->l.length<=10000->0<=k->k<4611686018427387904->Calls prog 132 #[b,.int .i64 k] W fun e w'=>∃ v',e=.returned v'∧Own w' W.heap.size v' (l++Lib.uvarint k.toNat)∧Below W.heap.size W w'):=ZZ (fun b l k W h I A n=>by
  have h:=ZbA b l k W h (by omega)
  rw[Z7 A n] at h
  exact h)
 have aG:Hid (∀ b l k W,Rd W b l->l.length<=10000->I64 k->Calls prog 142 #[b,.int .i64 k] W fun e w'=>∃ v',e=.returned v'∧Own w' W.heap.size v' (l++Lib.uvarint (Lib.zigzag k))∧Below W.heap.size W w'):=ZZ (fun b l k W h I z=>Jk b l k W h (by omega) z.1 z.2)
 have aC:Hid (∀ q,q<s.tab.length->Yz (s.tab.take (q+1))=Yz (s.tab.take q)++ZvC (s.tab.getD q Q8)):=ZZ (fun q J=>ZoK _ q J)
 have aO:Hid (∀ q,(Yz (s.tab.take q)).length<=(Yz s.tab).length):=ZZ (fun q=>Zlf _ q)
 have HW:Hid (Xt s=(Lib.uvarint (Zgz s.st).length++(Zgz s.st++Lib.uvarint s.tab.length))++Yz s.tab):=ZZ (by
  unfold Xt Zyk
  simp only [append_assoc])
 have aJ:Hid ((Lib.uvarint (Zgz s.st).length++(Zgz s.st++Lib.uvarint s.tab.length)).length+(Yz s.tab).length<=5000):=ZZ (by
  rw[HW.o,length_append] at ai
  exact ai)
 rw[HW.o];have u1:(Lib.uvarint (Zgz s.st).length).length<=10:=Ji (by omega)
 have u3:(Lib.uvarint s.tab.length).length<=10:=Ji (by omega)
 have aS:Hid (∀ W,Calls prog 132 #[.slice none 0 0,.int .i64 ((Zgz s.st).length:Int)] W fun e w'=>∃ v',e=.returned v'∧Own w' W.heap.size v' (Lib.uvarint (Zgz s.st).length)∧Below W.heap.size W w'):=ZZ (fun W=>by
  have h:=C.o (.slice none 0 0) [] ((Zgz s.st).length:Int) W (Rd.nil W) (by simp) (by omega) (by omega)
  rw[nil_append,Int.toNat_natCast] at h
  exact h)
 have Z:Hid (∀ W,Calls prog 132 #[.slice none 0 0,.int .i64 (s.tab.length:Int)] W fun e w'=>∃ v',e=.returned v'∧Own w' W.heap.size v' (Lib.uvarint s.tab.length)∧Below W.heap.size W w'):=ZZ (fun W=>by
  have h:=C.o (.slice none 0 0) [] (s.tab.length:Int) W (Rd.nil W) (by simp) (by omega) (by omega)
  rw[nil_append,Int.toNat_natCast] at h
  exact h)
 have aR:Hid (∀ W N Y b y,N=W.heap.size->Rd W Y (Lib.uvarint (Zgz s.st).length)->Rd W b (Zgz s.st)->Rd W y (Lib.uvarint s.tab.length)->Calls prog 131 #[.slice (some ⟨N,0,none⟩) 3 3] (W.alloc (.cells #[Y,b,y] 53)) fun e w'=>∃ v',e=.returned v'∧Own w' W.heap.size v' (Lib.uvarint (Zgz s.st).length++(Zgz s.st++Lib.uvarint s.tab.length))∧Below W.heap.size W w'):=ZZ (fun W N Y b y hN A n Q=>Zug W N hN Y b y _ _ _ A n Q (by omega))
 obtain⟨G,tc,be,-,-,-,-,aD⟩:=ht;subst be;have aU:=ZZ aD;obtain⟨la,lc,bl,-⟩:=I;subst bl;obtain⟨idx,⟨kind,L,S,aa⟩,d⟩:=s
 dsimp only at *
 clear z D hi j bd ai a9 u1 u3 HW aD;have bx:(d.length:Int)<=65:=by omega
 clear bn;generalize Zgz ⟨kind,L,S,aa⟩=ES at *;generalize Lib.uvarint ES.length=U1 at *;generalize Lib.uvarint d.length=U3 at *;generalize U1++(ES++U3)=H at *;obtain⟨M,ae⟩:∃ M,M=w.alloc (.cells #[.int .i64 idx,.int .i64 kind,.slice la L.length lc,.bool S,.int .i64 aa,.slice G d.length tc] 41):=⟨_,rfl⟩;have O:Hid (Below w.heap.size w M):=ZZ (by rw[ae];exact(Below.refl _ _).alloc zL _)
 have p:Hid (Bn M w.heap.size #[.int .i64 idx,.int .i64 kind,.slice la L.length lc,.bool S,.int .i64 aa,.slice G d.length tc]):=ZZ (by rw[ae];exact heap_alloc_new w _)
 obtain⟨p1,-⟩:=p.o.cell 1;obtain⟨p2,-⟩:=p.o.cell 2;obtain⟨p3,-⟩:=p.o.cell 3;obtain⟨p4,-⟩:=p.o.cell 4
 go_enter func99,ntmps99
 go_upto_region 1 with fail
 rw[<-ae];clear ae
 go_wp2_with fail
 refine(ab.o _ O.o).mono ?_;rintro e W1 ⟨b,rfl,aP,ax⟩;have au:=ZZ (p.o.below ax zL);have ak:=ZZ (O.o.trans (ax.mono O.o.size));have aV:=ZZ aP;obtain⟨a1,c1,bo,-⟩:=aP;subst bo;obtain⟨q5,-⟩:=au.o.cell 5;clear ax ab p O p1 p2 p3 p4
 go_upto_region 2 with fail
 go_cut[5] (fun vo wc=>Hid (Own wc w.heap.size vo H)∧Hid (Bn wc w.heap.size #[.int .i64 idx,.int .i64 kind,.slice la L.length lc,.bool S,.int .i64 aa,.slice G d.length tc])∧Hid (Below w.heap.size w wc))
 case first=>
  go_region_held(fun w'=>w'.cell? ⟨w.heap.size,5,none⟩=some (.slice G d.length tc)) (go_keep)
   (first
    | (go_at_call_of 132 (Value.int .i64 (ES.length:Int));refine(aS.o _).mono ?_;rintro e W2 ⟨y,rfl,al,aF⟩;have T:Below W1.heap.size W1 W2:=((Below.refl _ _).drew).trans aF;have aw:=au.o.below T zL;have a8:=ZZ aw;have aL:=ZZ (ak.o.trans (T.mono ak.o.size));have bu:=ZZ (aV.o.below T zL);obtain⟨a2,U,rfl,-⟩:=al.rd;have bb:=ZZ al.rd;obtain⟨r5,-⟩:=aw.cell 5;clear al aF aw T)
    | (go_at_call_of 132 (Value.int .i64 (d.length:Int));refine(Z.o _).mono ?_;rintro e W3 ⟨v3,rfl,an,B⟩;have ag:=a8.o.below B zL;have bq:=ZZ ag;have ap:=ZZ (aL.o.trans (B.mono aL.o.size));have bj:=ZZ (bu.o.below B zL);have a4:=ZZ (bb.o.below B zL);obtain⟨a3,c3,rfl,-⟩:=an.rd;have bp:=ZZ an.rd;obtain⟨s5,-⟩:=ag.cell 5;clear an B ag)
    | (go_at_call 131;refine(aR.o W3 W3.heap.size _ _ _ rfl a4.o bj.o bp.o).mono ?_;rintro e W4 ⟨v4,rfl,aI,am⟩;have az:=bq.o.below am zL;have aZ:=ZZ az;have bi:=ZZ (ap.o.trans (am.mono ap.o.size));have br:=ZZ (aI.mono ap.o.size);obtain⟨t5,-⟩:=az.cell 5;clear aI am az))
  all_goals
   go_wp2_with fail
   go_meet
   exact⟨br,aZ,bi⟩
 case rest=>
  obtain⟨WC,rfl⟩:∃ W,W=wc:=⟨_,rfl⟩;obtain⟨HO,HX,HB⟩:=hcut;obtain⟨a5,-⟩:=HX.o.cell 5;clear au ak aV q5 aS Z aR;go_wp2
  go_loopw[5,27] (fun vo vi wr=>∃ q:Nat,vi=.int .i64 (q:Int)∧q<=d.length∧Hid (Own wr w.heap.size vo (H++Yz (d.take q)))∧Hid (Below w.heap.size w wr)) (fun _ vi _=>d.length-(intOf vi).toNat)
  case atStart=>exact⟨0,rfl,Nat.zero_le _,by simpa[Yz] using HO,HB⟩
  case round=>
   clear HO HX HB a5;obtain⟨q,rfl,J,X,x⟩:=hrel;by_cases t:q<d.length
   case neg=>
    obtain rfl:q=d.length:=by omega
    rw[take_length] at X;go_wp2;go_ret;exact⟨_,rfl,X.out,x.out⟩
   have bz:(q:Int)<(d.length:Int):=by omega
   rcases aU.o with A | ⟨c,bv,rfl,hc⟩
   ·rw[A] at t;simp at t
   obtain⟨c0,c1,U⟩:=(hc q t).keep (x.out.block c (hc q t).lt);have aj:=ZZ (aK.o q t);have R:=ZZ (aC.o q t)
   have ad:Hid ((H++Yz (d.take q)).length<=5000):=ZZ (by
    have n:=aO.o q;have Q:=aJ.o;rw[length_append]
    omega)
   obtain⟨e,D⟩:∃ e,e=d.getD q Q8:=⟨_,rfl⟩;rw[<-D] at c0 c1 U aj R;clear D hc aK aC aO aU aJ;obtain⟨f,g,m⟩:=e;have aM:Hid (ZvC ⟨f,g,m⟩=Lib.uvarint f.toNat++(Lib.uvarint g.toNat++Lib.uvarint (Lib.zigzag m))):=ZZ rfl;rw[aM.o,<-append_assoc] at R
   have aN:Hid (H++Yz (d.take (q+1))=(((H++Yz (d.take q))++Lib.uvarint f.toNat)++Lib.uvarint g.toNat)++Lib.uvarint (Lib.zigzag m)):=ZZ (by
    rw[R.o]
    simp only [append_assoc])
   have i:Hid ((0<=f∧f<4611686018427387904)∧(0<=g∧g<4611686018427387904)∧I64 m):=ZZ (by
    obtain⟨n,Q,h3,h4,h5,h6⟩:=aj.o
    dsimp only at n Q h3 h4 h5 h6
    exact⟨⟨n,by omega⟩,⟨h3,h4⟩,⟨by omega,by omega⟩⟩)
   have u1:(Lib.uvarint f.toNat).length<=10:=Ji (by have:=i.o;omega)
   have u2:(Lib.uvarint g.toNat).length<=10:=Ji (by have:=i.o;omega)
   dsimp only at c0 c1 U
   generalize H++Yz (d.take q)=P at *;have a0:=ZZ (fun b W h=>C.o b P f W h (by have:=ad.o;omega) i.o.1.1 i.o.1.2)
   have bk:=ZZ (fun b W h=>C.o b (P++Lib.uvarint f.toNat) g W h (by have:=ad.o;rw[length_append];omega) i.o.2.1.1 i.o.2.1.2)
   have ar:=ZZ (fun b W h=>aG.o b ((P++Lib.uvarint f.toNat)++Lib.uvarint g.toNat) m W h (by have:=ad.o;rw[length_append,length_append];omega) i.o.2.2)
   rw[<-aN.o] at ar;clear C aG R aM aN ad u1 u2 i aj;generalize P++Lib.uvarint f.toNat=P1 at *;generalize P1++Lib.uvarint g.toNat=P2 at *;obtain⟨P3,aB⟩:∃ P3,P3=H++Yz (d.take (q+1)):=⟨_,rfl⟩;rw[<-aB] at ar;have Z:=ZZ aB;clear aB
   go_upto_region 6 with fail
   obtain⟨u,ac⟩:∃ u,u=wr.alloc (.cells #[.int .i64 f,.int .i64 g,.int .i64 m] 85):=⟨_,rfl⟩;have aq:Hid (Below wr.heap.size wr u):=ZZ (by rw[ac];exact(Below.refl _ _).alloc zL _)
   have V:Hid (Be u wr.heap.size #[.int .i64 f,.int .i64 g,.int .i64 m]):=ZZ (by rw[ac];exact heap_alloc_new wr _)
   rw[<-ac];clear ac c0 c1 U;obtain⟨K,aY⟩:∃ K,K=wr.heap.size:=⟨_,rfl⟩;rw[<-aY] at V ⊢;clear aY;have aE:=ZZ (X.out.rd.below aq.o zL);have aT:=ZZ (x.out.trans (aq.o.mono x.out.size));obtain⟨va,vc,bf⟩:∃ a c,u5=.slice a P.length c:=by obtain⟨a,c,h,-⟩:=aE.o;exact⟨a,c,h⟩
   subst bf;obtain⟨x0,-⟩:=V.o.cell 0;obtain⟨x1,-⟩:=V.o.cell 1;clear X x aq
   go_region_held(fun w'=>w'.cell? ⟨K,0,none⟩=some (.int .i64 f)∧w'.cell? ⟨K,1,none⟩=some (.int .i64 g)) (go_keep)
    (first
     | (go_at_call_of 132 (Value.int .i64 f);refine(a0.o _ _ (aE.o.below ((Below.refl _ _).drew) zL)).mono ?_;rintro e W6 ⟨v6,rfl,aA,aW⟩;have af:Below u.heap.size u W6:=((Below.refl _ _).drew).trans aW;have F:=V.o.below af zL;have ba:=ZZ F;have aX:=ZZ (aT.o.trans (af.mono aT.o.size));obtain⟨a6,c6,rfl,-⟩:=aA.rd;have bt:=ZZ aA.rd;obtain⟨y0,-⟩:=F.cell 0;obtain⟨y1,-⟩:=F.cell 1;clear aA aW F af)
     | (go_at_call_of 132 (Value.int .i64 g);refine(bk.o _ _ bt.o).mono ?_;rintro e W7 ⟨v7,rfl,av,ao⟩;have E:=ba.o.below ao zL;have bw:=ZZ E;have ay:=ZZ (aX.o.trans (ao.mono aX.o.size));obtain⟨a7,c7,rfl,-⟩:=av.rd;have bg:=ZZ av.rd;obtain⟨z0,-⟩:=E.cell 0;obtain⟨z1,-⟩:=E.cell 1;obtain⟨z2,-⟩:=E.cell 2;clear av ao E))
   all_goals
    go_wp2_with fail
    refine(ar.o _ _ bg.o).mono ?_;rintro e W8 ⟨v8,rfl,aH,aQ⟩;have bc:=ZZ (ay.o.trans (aQ.mono ay.o.size));have bm:=ZZ (aH.mono ay.o.size);clear aH aQ;go_wp2;go_roundw
    case rel=>exact⟨q+1,by go_num,by omega,ZZ (by rw[<-Z.o];exact bm.o),bc⟩
    case measure=>simp[intOf];omega
theorem Zup (D:Value) (a:St) (F:Value) (b:St) (w:World) (J:StV w D a) (G:StV w F b):
 Calls prog 45 #[D,F] w fun e w'=>e=.returned (.bool (decide (ZlI a b)))∧Below w.heap.size w w':=by
 obtain⟨E,rfl,v,-,-⟩:=J;obtain⟨C,rfl,t,-,-⟩:=G;obtain⟨l,u,q,m⟩:=a;obtain⟨k,z,j,p⟩:=b;simp only at v t ⊢;have L:Hid (∀ W,Below w.heap.size w W->Calls prog 89 #[E,C] W fun e w'=>e=.returned (.bool (decide (u=z)))∧Below W.heap.size W w'):=fun W h=>Zrq E u C z W (v.below h zL) (t.below h zL)
 have g:Hid (∀ x y,Below w.heap.size w ((w.alloc x).alloc y)):=fun x y=>((Below.refl _ _).alloc zL x).alloc (by simp) y
 obtain⟨R,A⟩:∃ R,R=decide (ZlI ⟨l,u,q,m⟩ ⟨k,z,j,p⟩):=⟨_,rfl⟩;rw[<-A];have n:=Qc A;clear A v t;by_cases f:l=k
 ·have O:(l == k)=true:=beq_iff_eq.2 f
  have N:=Qc f;clear f;by_cases d:q=j
  ·have K:(q == j)=true:=beq_iff_eq.2 d
   have P:=Qc d;clear d;by_cases c:m=p
   ·have H:(m == p)=true:=beq_iff_eq.2 c
    have M:=Qc c;clear c
    go_enter func45,ntmps45
    go_wp2_with fail
    refine(L.o _ (g.o _ _)).mono ?_;rintro e Q ⟨rfl,B⟩;have I:=Qc ((g.o _ _).trans (B.mono (g.o _ _).size));clear B;go_wp2;go_ret;refine⟨Yk ?_,I.o⟩;rw[n.o];exact decide_eq_decide.2 ⟨fun h=>⟨N.o,P.o,M.o,h⟩,fun h=>h.2.2.2⟩
   ·have H:(m == p)=false:=beq_eq_false_iff_ne.2 c
    have i:Hid (R=false):=n.o.trans (decide_eq_false fun h=>c h.2.2.1)
    clear c
    go_enter func45,ntmps45
    go_wp2;go_ret;exact⟨Yk i.o.symm,g.o _ _⟩
  ·have K:(q == j)=false:=beq_eq_false_iff_ne.2 d
   have i:Hid (R=false):=n.o.trans (decide_eq_false fun h=>d h.2.1)
   clear d
   go_enter func45,ntmps45
   go_wp2;go_ret;exact⟨Yk i.o.symm,g.o _ _⟩
 ·have O:(l == k)=false:=beq_eq_false_iff_ne.2 f
  have i:Hid (R=false):=n.o.trans (decide_eq_false fun h=>f h.1)
  clear f
  go_enter func45,ntmps45
  go_wp2;go_ret;exact⟨Yk i.o.symm,g.o _ _⟩
theorem ZmS (e:Ent) (w:World):
 Calls prog 189 #[Zrm e] w fun x w'=>x=.returned (.bool (decide (ZbZ e)))∧Below w.heap.size w w':=by
 have c:=ZZ (fun W=>ZhI ⟨0,e.proc,e.seq,⟨0,0,0⟩,e.resp⟩ W)
 have a:decide (Qw ⟨0,e.proc,e.seq,⟨0,0,0⟩,e.resp⟩)=decide (ZbZ e):=decide_eq_decide.2 (ZtC e);rw[a] at c;clear a;generalize decide (ZbZ e)=D at *;obtain⟨p,s,r⟩:=e;unfold Zrm Zrr at *
 dsimp only at *
 have b:Hid (∀ X,Below w.heap.size w (w.alloc X)):=fun X=>(Below.refl _ _).alloc zL X
 go_enter func189,ntmps189
 go_wp2_with fail
 refine(c.o _).mono ?_;rintro x g ⟨rfl,d⟩;have f:=ZZ ((b.o _).trans (d.mono (b.o _).size));clear d;go_wp2;go_ret;exact⟨rfl,f.o⟩
theorem ZmT (v:Value) (t:List Ent) (w:World) (V:RdE w v t):
 Calls prog 140 #[v] w fun x w'=>x=.returned (.bool (decide (Zel t)))∧Below w.heap.size w w':=by
 obtain⟨va,vc,rfl,T,J,-,hw,R⟩:=V;have H:=ZZ R;have ag:(t.length:Int)<=9223372036854775807:=by unfold maxLen at J;omega
 obtain⟨D,j⟩:∃ D,D=decide (Zel t):=⟨_,rfl⟩;rw[<-j];have Q:Hid (Jh t t.length->D=true):=ZZ (fun h=>by rw[j];exact decide_eq_true h)
 have O:Hid (∀ k,k<t.length->¬ Jh t (k+1)->D=false):=ZZ (fun k E h=>by rw[j];exact decide_eq_false (fun y=>h (Jh.mono y E)))
 have K:=ZZ (fun e W=>ZmS e W)
 have F:Hid (ZhA t 0=0):=ZZ rfl;have C:Hid (∀ k,ZhA t (k+1)=(t.getD k Q8).proc+1):=ZZ (fun k=>rfl)
 have G:Hid (∀ k,Jh t (k+1)↔Jh t k∧ZbZ (t.getD k Q8)∧ZhA t k<=(t.getD k Q8).proc):=ZZ (fun k=>Zoj)
 clear j J T R hw
 go_enter func140,ntmps140
 go_wp2
 go_loopw[3,8] (fun Y u wr=>∃ (k:Nat) (g:Int),u=.int .i64 (k:Int)∧Y=.int .i64 g∧k<=t.length∧Hid (g=ZhA t k)∧Hid (Jh t k)∧Hid (Below w.heap.size w wr)) (fun _ u _=>t.length-(intOf u).toNat)
 case atStart=>exact⟨0,0,rfl,rfl,Nat.zero_le _,ZZ F.o.symm,ZZ (Jh.zero t),Below.refl _ _⟩
 case round=>
  obtain⟨k,g,rfl,rfl,E,ad,M,l⟩:=hrel;by_cases f:k<t.length
  case neg=>
   obtain rfl:k=t.length:=by omega
   have HT:=ZZ (Q.o M.out);go_wp2;go_ret;rw[HT.o];exact⟨rfl,l.out⟩
  have al:(k:Int)<(t.length:Int):=by omega
  rcases H.o with Z | ⟨c,ai,rfl,B⟩
  ·rw[Z] at f;simp at f
  obtain⟨c0,c1,c2⟩:=(B k f).keep (l.out.block c (B k f).lt);have b:=ZZ (G.o k);have m:=ZZ (O.o k f);have N:=ZZ (C.o k);have d:=ZZ (fun W=>K.o (t.getD k Q8) W)
  rw[<-ad.out] at b;obtain⟨e,P⟩:∃ e,e=t.getD k Q8:=⟨_,rfl⟩;rw[<-P] at c0 c1 c2 b N d;clear P B K G O Q C F H;obtain⟨a,z⟩:∃ a,a=decide (ZbZ e):=⟨_,rfl⟩;rw[<-z] at d;have i:=ZZ z;have q:Hid (∀ X,Below w.heap.size w (wr.alloc X)):=ZZ (fun X=>l.out.alloc l.out.size X)
  have U:Hid (∀ cs,Be (wr.alloc (.cells cs 85)) wr.heap.size cs):=ZZ (fun cs=>heap_alloc_new wr _)
  clear z;unfold Zrm at d
  have aa:Hid (a=true->0<=e.proc∧e.proc<=64):=ZZ (fun h=>by
   have:ZbZ e:=of_decide_eq_true (i.o.symm.trans h)
   exact⟨this.1,this.2.1⟩)
  by_cases am:e.proc<g
  ·have n:=ZZ (m.o (fun h=>by have:=(b.o.1 h).2.2;omega))
   obtain⟨p,s,r⟩:=e
   dsimp only at *
   clear b m d i;go_wp2;go_ret;rw[n.o];exact⟨rfl,q.o _⟩
  ·have af:g<=e.proc:=by omega
   have ab:Hid (a=true->Jh t (k+1)):=ZZ (fun h=>b.o.2 ⟨M.out,of_decide_eq_true (i.o.symm.trans h),af⟩)
   have S:Hid (a=false->D=false):=ZZ (fun h=>m.o (fun y=>by
    have h3:=(b.o.1 y).2.1;have I:a=true:=i.o.trans (decide_eq_true h3);rw[h] at I
    cases I))
   obtain⟨p,s,r⟩:=e
   dsimp only at *
   clear b m i
   go_wp2_with fail
   refine(d.o _).mono ?_;rintro x W1 ⟨rfl,A⟩;have L:=ZZ ((q.o _).trans (A.mono (q.o _).size));have ac:=ZZ ((U.o _).below A zL);obtain⟨q0,f0⟩:=ac.o.cell 0;clear A d
   cases a with
   | false=>
    have n:=ZZ (S.o rfl);go_wp2;go_ret;rw[n.o];exact⟨rfl,L.o⟩
   | true=>
    obtain⟨ak,aj⟩:=aa.o rfl;have ae:=ZZ (ab.o rfl);go_wp2;go_roundw
    case rel=>exact⟨k+1,p+1,by go_num,by go_num,by omega,ZZ N.o.symm,ae,L⟩
    case measure=>simp[intOf];omega
theorem Zqh (v:Value) (s:Qv) (w:World) (O:SnV w v s):
 Calls prog 98 #[v] w fun e w'=>e=.returned (.bool (decide (Zdk s)))∧Below w.heap.size w w':=by
 obtain⟨A,M,rfl,y,F,C,k,J⟩:=O;have a:Hid (∀ X,Below w.heap.size w (w.alloc X)):=fun X=>(Below.refl _ _).alloc zL X
 have P:Hid (∀ cs,Bn (w.alloc (.cells cs 41)) w.heap.size cs):=ZZ (fun cs=>heap_alloc_new w _)
 have p:=ZZ (fun W (h:Below w.heap.size w W)=>ZkV (.agg #[.int .i64 s.st.kind,A,.bool s.st.shut,.int .i64 s.st.eng]) s.st W ⟨A,rfl,y.below h zL,F,C⟩)
 have j:=ZZ (fun W (h:Below w.heap.size w W)=>ZmT M s.tab W (k.below h zL))
 obtain⟨S,lc,K,-⟩:=y;obtain⟨T,U,I⟩:=k.shape;subst K I;clear k;obtain⟨D,f⟩:∃ D,D=decide (Zdk s):=⟨_,rfl⟩;rw[<-f];have c:Hid (D=decide (Zdk s)):=ZZ f;have d:Hid (Zdk s↔(0<=s.idx∧s.idx<4611686018427387904)∧X8 s.st∧Zel s.tab):=ZZ Iff.rfl;obtain⟨m,g⟩:∃ m,m=decide (X8 s.st):=⟨_,rfl⟩;obtain⟨n,q⟩:∃ n,n=decide (Zel s.tab):=⟨_,rfl⟩;rw[<-g] at p;rw[<-q] at j;have G:=ZZ g;have t:=ZZ q;clear f g q F C J;obtain⟨idx,⟨kind,L,R,Z⟩,Y⟩:=s
 dsimp only at *
 by_cases B:0<=idx
 case neg=>
  have l:Hid (D=false):=ZZ (by rw[c.o];exact decide_eq_false (fun h=>B (d.o.1 h).1.1))
  go_enter func98,ntmps98
  go_wp2;go_ret;rw[l.o];exact⟨rfl,a.o _⟩
 by_cases E:idx<4611686018427387904
 case neg=>
  have l:Hid (D=false):=ZZ (by rw[c.o];exact decide_eq_false (fun h=>E (d.o.1 h).1.2))
  go_enter func98,ntmps98
  go_wp2;go_ret;rw[l.o];exact⟨rfl,a.o _⟩
 have z:Hid (D=(m && n)):=ZZ (by
  rw[c.o,G.o,t.o,<-Bool.decide_and]
  exact decide_eq_decide.2 (d.o.trans ⟨fun h=>h.2,fun h=>⟨⟨B,E⟩,h⟩⟩))
 clear c d G t
 go_enter func98,ntmps98
 go_wp2_with fail
 refine(p.o _ (a.o _)).mono ?_;rintro x V ⟨rfl,i⟩;have b:=ZZ ((a.o _).trans (i.mono (a.o _).size));have N:=ZZ ((P.o _).below i zL);obtain⟨q5,Q⟩:=N.o.cell 5;clear i p
 cases m with
 | false=>
  go_wp2;go_ret;rw[z.o];exact⟨rfl,b.o⟩
 | true=>
  go_wp2_with fail
  refine(j.o _ b.o).mono ?_;rintro x W2 ⟨rfl,u⟩;have H:=ZZ (b.o.trans (u.mono b.o.size));clear u j;go_wp2;go_ret;rw[z.o];exact⟨rfl,H.o⟩
theorem ZrJ (y:Value) (A:List Ent) (G:Value) (B:List Ent) (w:World) (K:RdE w y A) (I:RdE w G B):
 Calls prog 46 #[y,G] w fun e w'=>e=.returned (.bool (decide (A=B)))∧Below w.heap.size w w':=by
 obtain⟨aa,ac,rfl,ag,E,-,-,u⟩:=K;obtain⟨ba,Z,rfl,-,R,-,-,C⟩:=I;have Q:=ZZ u;have L:=ZZ C;obtain⟨D,f⟩:∃ D,D=decide (A=B):=⟨_,rfl⟩;rw[<-f];have F:Hid (A=B->D=true):=fun h=>by rw[f];exact decide_eq_true h
 have l:Hid (¬ A=B->D=false):=fun h=>by rw[f];exact decide_eq_false h
 have X:=ZtF;have ae:(A.length:Int)<=9223372036854775807:=by unfold maxLen at E;omega
 clear f u C E R;by_cases a:A.length=B.length
 case neg=>
  have J:((A.length:Int) != (B.length:Int))=true:=by rw[bne_iff_ne];omega
  have M:=ZZ (l.o (fun h=>a (by rw[h])))
  clear a
  go_enter func46,ntmps46
  go_wp2;go_ret;rw[M.o];exact⟨rfl,Below.refl _ _⟩
 have J:((A.length:Int) != (B.length:Int))=false:=by rw[bne_eq_false_iff_eq];omega
 have d:=ZZ a
 have t:Hid (A.take A.length=B.take A.length->D=true):=ZZ (fun h=>F.o (by
  rw[take_length,d.o,take_length] at h
  exact h))
 have x:Hid (∀ k,k<A.length->A.getD k Q8≠B.getD k Q8->D=false):=ZZ (fun k U h=>l.o (fun T=>h (by rw[T])))
 clear a F l
 go_enter func46,ntmps46
 go_wp2
 go_loopw[13] (fun j wr=>∃ k:Nat,j=.int .i64 (k:Int)∧k<=A.length∧Hid (A.take k=B.take k)∧Hid (∃ n,wr=w.drewN n)) (fun j _=>A.length-(intOf j).toNat)
 case atStart=>exact⟨0,rfl,Nat.zero_le _,rfl,⟨0,rfl⟩⟩
 case round=>
  obtain⟨k,rfl,U,v,O⟩:=hrel;obtain⟨nw,S⟩:=O.out;subst S;by_cases b:k<A.length
  case neg=>
   obtain rfl:k=A.length:=by omega
   have N:=ZZ (t.o v.out);go_wp2;go_ret;rw[N.o];exact⟨rfl,Xn (Below.refl _ _) _⟩
  rcases Q.o with m | ⟨c,ab,rfl,z⟩
  ·rw[m] at b;simp at b
  rcases L.o with m | ⟨c',ad,rfl,H⟩
  ·have a:=d.o;rw[m] at a;simp at a;rw[a] at b;simp at b
  obtain⟨c0,c1,c2⟩:=z k b;obtain⟨d0,d1,d2⟩:=H k (by have:=d.o;omega)
  have Y:(k:Int)<(A.length:Int):=by omega
  have af:(k:Int)<(B.length:Int):=by have:=d.o;omega
  have p:=ZZ (x.o k b);have i:Hid (A.getD k Q8=B.getD k Q8->A.take (k+1)=B.take (k+1)):=fun h=>by rw[ZjL b,ZjL (by have:=d.o;omega),v.out,h]
  clear z H t x;generalize A.getD k Q8=r at *;generalize B.getD k Q8=s at *;by_cases g:r=s
  ·subst g
   have P:=ZZ (i.o rfl);have q:=fun W=>ZtE W r r
   rw[Zrn] at q;clear p i
   go_upto_region 6 with fail
   go_quiet(fail)
   go_wp2;go_roundw
   case rel=>exact⟨k+1,by go_num,by omega,P,⟨_,rfl⟩⟩
   case measure=>simp[intOf];omega
  ·have V:=ZZ (p.o g)
   have q:=fun W=>ZtE W r s
   rw[ZtG g] at q;clear p i g
   go_upto_region 6 with fail
   go_quiet(fail)
   go_wp2;go_ret;rw[V.o];exact⟨rfl,Xn (Xn (Below.refl _ _) _) _⟩
theorem Zuq (G:Value) (a:Qv) (O:Value) (b:Qv) (w:World) (ha:SnV w G a) (hb:SnV w O b):
 Calls prog 20 #[G,O] w fun e w'=>e=.returned (.bool (decide (Zoq a b)))∧Below w.heap.size w w':=by
 obtain⟨H,vt,rfl,B,C,N,l,hi⟩:=ha;obtain⟨vl',ae,rfl,F,J,I,v,ac⟩:=hb;have g:Hid (∀ X Y,Below w.heap.size w ((w.alloc X).alloc Y)):=fun X Y=>((Below.refl _ _).alloc zL X).alloc (by simp) Y
 have P:Hid (∀ cs d,Bn ((w.alloc (.cells cs 41)).alloc (.cells d 41)) w.heap.size cs):=fun cs d=>(Below.heap_alloc _ _ _ (by simp)).trans (heap_alloc_new w _)
 have R:Hid (∀ cs d,Bn ((w.alloc (.cells cs 41)).alloc (.cells d 41)) (w.heap.size+1) d):=fun cs d=>ZdM w _ _
 have p:=ZZ (fun W (h:Below w.heap.size w W)=>Zup (.agg #[.int .i64 a.st.kind,H,.bool a.st.shut,.int .i64 a.st.eng]) a.st (.agg #[.int .i64 b.st.kind,vl',.bool b.st.shut,.int .i64 b.st.eng]) b.st W ⟨H,rfl,B.below h zL,C,N⟩ ⟨vl',rfl,F.below h zL,J,I⟩)
 have q:=ZZ (fun W (h:Below w.heap.size w W)=>ZrJ vt a.tab ae b.tab W (l.below h zL) (v.below h zL))
 obtain⟨la,lc,V,-⟩:=B;obtain⟨af,al,ad,-⟩:=F;obtain⟨ta,tc,Q⟩:=l.shape;obtain⟨aj,am,Z⟩:=v.shape;subst V Q ad Z;obtain⟨D,j⟩:∃ D,D=decide (Zoq a b):=⟨_,rfl⟩;rw[<-j];have t:Hid (D=decide (Zoq a b)):=ZZ j;have y:Hid (Zoq a b↔ZlI a.st b.st∧a.idx=b.idx∧a.tab=b.tab):=ZZ Iff.rfl;obtain⟨m,u⟩:∃ m,m=decide (ZlI a.st b.st):=⟨_,rfl⟩;obtain⟨n,z⟩:∃ n,n=decide (a.tab=b.tab):=⟨_,rfl⟩;rw[<-u] at p;rw[<-z] at q;have E:=ZZ u;have M:=ZZ z;clear j u z C N hi J I ac l v;obtain⟨idx,⟨kind,L,ai,ao⟩,aq⟩:=a;obtain⟨k,⟨ap,L',ag,an⟩,ak⟩:=b
 dsimp only at *
 by_cases c:idx=k
 case neg=>
  have ab:(idx == k)=false:=beq_eq_false_iff_ne.2 c;have T:Hid (D=false):=ZZ (by rw[t.o];exact decide_eq_false (fun h=>c (y.o.1 h).2.1))
  clear c
  go_enter func20,ntmps20
  go_wp2;go_ret;rw[T.o];exact⟨rfl,g.o _ _⟩
 have ab:(idx == k)=true:=beq_iff_eq.2 c
 have K:Hid (D=(m && n)):=ZZ (by
  rw[t.o,E.o,M.o,<-Bool.decide_and]
  exact decide_eq_decide.2 (y.o.trans ⟨fun h=>⟨h.1,h.2.2⟩,fun h=>⟨h.1,c,h.2⟩⟩))
 clear t y E M c
 go_enter func20,ntmps20
 go_wp2_with fail
 refine(p.o _ (g.o _ _)).mono ?_;rintro x W1 ⟨rfl,i⟩;have f:=ZZ ((g.o _ _).trans (i.mono (g.o _ _).size));have aa:=ZZ ((P.o _ _).below i zL);have S:=ZZ ((R.o _ _).below i zL);obtain⟨q5,f5⟩:=aa.o.cell 5;obtain⟨r5,g5⟩:=S.o.cell 5;clear i p
 cases m with
 | false=>
  go_wp2;go_ret;rw[K.o];exact⟨rfl,f.o⟩
 | true=>
  go_wp2_with fail
  refine(q.o _ f.o).mono ?_;rintro x W2 ⟨rfl,A⟩;have U:=ZZ (f.o.trans (A.mono f.o.size));clear A q;go_wp2;go_ret;rw[K.o];exact⟨rfl,U.o⟩
def Zqi (w:World) (s:Qv) (e:Ending) (w':World):Prop:=
 ∃ v',e=.returned (.tuple #[v',.int .i64 (if Zdk s then 0 else 1)])∧Own w' w.heap.size v' (if Zdk s then Zvo s else[])∧Below w.heap.size w w'
theorem Zaq:∀ (n:Nat) (l:List UInt8),l.length<=n->(Qf (Xu l)).length<=15*l.length
 | 0,l,h=>by
  have e:l=[]:=List.eq_nil_of_length_eq_zero (by omega)
  rw[e,X7];simp[Qf]
 | n+1,l,h=>by
  by_cases e:l=[]
  ·rw[e,X7]
   simp[Qf]
  ·have c:l.length≠0:=by simpa using e
   have a:=Zaq n (l.drop 64) (by rw[length_drop];omega)
   have b:=Jb (d:=l.take 64) (by rw[List.length_take];omega)
   rw[Y7 e,X4,length_append];rw[length_drop] at a;rw[List.length_take] at b;omega
theorem Zwn {s:Qv} (h:Zdk s):(Zvo s).length<=80000:=by
 have f:=ZbM h;have a:s.idx.toNat<4611686018427387904:=by have:=h.1;omega
 have b:=Zep a (w:=Xt s) (by omega)
 have c:=Jb (d:=Zfe s.idx.toNat (Xt s)) (by omega)
 have e:=Zaq _ (Xt s) zL;unfold Zvo ZaV;rw[X4,length_append];omega
theorem Zqj (n:Int) (w:World) (m:-9223372036854775808<=n) (p:n<=9223372036854775807):
 Calls prog 134 #[.int .i64 n] w fun e w'=>e=.returned (.int .i64 (Zgm n:Nat))∧Below w.heap.size w w':=by
 by_cases h:0<=n∧n<=1048576
 ·obtain⟨d,b⟩:=h
  have a:Hid (Zgm n=(Lib.uvarint n.toNat).length+4+n.toNat):=if_pos ⟨d,b⟩
  have g:Hid (∀ w,Calls prog 132 #[.slice none 0 0,.int .i64 n] w fun e w'=>∃ ao cap,e=.returned (.slice ao (Lib.uvarint n.toNat).length cap)∧Below w.heap.size w w'):=by
   intro w;refine(ZbA (.slice none 0 0) [] n w (Rd.nil _) (by simp)).mono ?_
   have e:Zrg [] n=Lib.uvarint n.toNat:=if_pos ⟨by omega,by omega⟩
   rintro t w' ⟨v',rfl,f,i⟩;rw[e] at f;obtain⟨ao,cap,rfl,_⟩:=f.rd;exact⟨ao,cap,rfl,i⟩
  have k:(Lib.uvarint n.toNat).length<=3:=Zyj (by omega)
  generalize (Lib.uvarint n.toNat).length=q at *
  go_enter func134,ntmps134
  go_wp2_with fail
  refine(g.o _).mono ?_;rintro e l ⟨ao,cap,rfl,c⟩;have j:=ZZ c;clear c g;go_wp2;go_ret;refine⟨ZbT ?_,j.o⟩;rw[a.o];omega
 ·have a:Hid (Zgm n=0):=if_neg h
  by_cases d:n<0
  ·clear h
   go_enter func134,ntmps134
   go_wp2;go_ret;exact⟨ZbT (by rw[a.o];rfl),Below.refl _ _⟩
  ·have b:1048576<n:=by omega
   clear h
   go_enter func134,ntmps134
   go_wp2;go_ret;exact⟨ZbT (by rw[a.o];rfl),Below.refl _ _⟩
theorem ZxG (v:Value) (l:List UInt8) (w:World) (q:Rd w v l):
 Calls prog 217 #[v] w fun e w'=>e=.returned (.bool (decide (Jp l)))∧w'=w:=by
 obtain⟨ao,cap,rfl,D,u,x,f⟩:=q;clear x;have A:(l.length:Int)<=9223372036854775807:=by unfold maxLen at u;omega
 by_cases C:(l.length:Int)<10
 ·go_enter func217,ntmps217
  go_wp2
  go_loop [10] (fun i=>∃ k:Nat,i=.int .i64 k∧k<=l.length∧Hid (∀ j,j<k->128<=(l.getD j 0).toNat)) (fun i=>l.length-(intOf i).toNat)
  case atStart=>exact⟨0,rfl,by omega,fun j n=>by omega⟩
  case round=>
   obtain⟨k,rfl,B,m⟩:=hrel;by_cases c:k<l.length
   ·rcases f with f | ⟨b,z,rfl,g⟩
    ·subst f;simp at c
    ·have t:=g k c
     clear g;obtain⟨y,a⟩:∃ y,y=(l.getD k 0).toNat:=⟨_,rfl⟩;rw[<-a] at t;have p:Hid (y=(l.getD k 0).toNat):=a;clear a;by_cases E:(y:Int)<128
     ·go_wp2
      go_ret;refine⟨ZdY ?_,rfl⟩
      symm
      refine decide_eq_false fun d=>?_
      have:=d.2 k c;rw[<-p.o] at this;omega
     ·go_wp2
      go_round
      case rel=>
       refine⟨k+1,by go_num,by omega,fun j n=>?_⟩
       by_cases e:j=k
       ·rw[e,<-p.o];omega
       ·exact m.out j (by omega)
      case measure=>simp[intOf];omega
   ·go_wp2
    go_ret;refine⟨ZdY ?_,rfl⟩
    symm
    exact decide_eq_true ⟨by omega,fun j n=>m.out j (by omega)⟩
 ·go_enter func217,ntmps217
  go_wp2;go_ret;refine⟨ZdY ?_,rfl⟩
  symm
  exact decide_eq_false fun d=>by have:=d.1;omega
theorem Own.made0 (w:World) (B:Nat) (a:B<=w.heap.size):Own (w.alloc (.cells #[] 5)) B (.slice (some ⟨w.heap.size,0,none⟩) 0 0) []:=
 ⟨rfl,.inr ⟨w.heap.size,0,#[],rfl,a,heap_alloc_new w _,Nat.le_refl _,Nat.zero_le _,rfl,rfl⟩⟩
theorem Zur (v:Value) (l:List UInt8) (w:World) (d:Rd w v l) (C:l.length<=70368744177664):
 Calls prog 113 #[v] w fun e w'=>∃ v',e=.returned v'∧Own w' w.heap.size v' l∧Below w.heap.size w w':=by
 have u:=ZZ d;obtain⟨ao,cap,rfl,A,z,b,i⟩:=d
 cases ao with
 | none=>
  have q:=b rfl;have t:l=[]:=List.eq_nil_of_length_eq_zero (by omega)
  subst t;subst q;clear i b;have x:∀ w,(binOp .eql 53 (.slice none 0 0) (.slice none 0 0)).run prog w=.ok (.bool true) w:=fun w=>run_eql_slice_nil w _ _ none 0 0 underlying53
  go_enter func113,ntmps113
  go_wp2;go_ret;exact⟨_,rfl,Own.nil _ _,Below.refl _ _⟩
 | some f=>
  clear i b A z;have x:∀ w,(binOp .eql 53 (.slice (some f) l.length cap) (.slice none 0 0)).run prog w=.ok (.bool false) w:=fun w=>run_eql_slice_nil w _ _ (some f) _ _ underlying53
  have j:=ZZ (Own.made0 w w.heap.size zL);have a:=ZZ ((Below.refl w.heap.size w).alloc zL (.cells #[] 5));have m:=ZZ (u.o.below a.o zL);have n:Hid (w.heap.size<=(w.alloc (.cells #[] 5)).heap.size):=a.o.size
  go_enter func113,ntmps113
  go_wp2_with(at_builtin;refine Xi _ rfl _ _ rfl w.heap.size _ [] rfl j.o _ l rfl m.o (by simp;omega) n.o ?_)
  intro k B g c;have p:=ZZ g;have y:=ZZ (a.o.trans c);clear g c;go_wp2;go_ret;exact⟨k,rfl,p.o,y.o⟩
theorem Zdg (v:Value) (l:List UInt8) (w:World) (D:Rd w v l):
 Calls prog 91 #[v] w fun e w'=>∃ v',e=.returned (.tuple #[v',.int .i64 ((ZwX l).2:Nat)])∧Own w' w.heap.size v' (ZwX l).1∧Below w.heap.size w w':=by
 have HR:=ZZ D;obtain⟨i0,hi,af,am,aj⟩:=info_parts Zkt;obtain⟨ao,cap,rfl,aw,ad,ar,au⟩:=D;clear ar au;have av:(l.length:Int)<=9223372036854775807:=by unfold maxLen at ad;omega
 by_cases h:(l.length:Int)<=1048576
 ·have a:Hid (ZwX l=(Yr l++Lib.leBytes 4 (Q2 0 (Yr l)),0)):=if_pos (by omega)
  have G:Hid (∀ w,Calls prog 132 #[.slice none 0 0,.int .i64 (l.length:Int)] w fun e w'=>∃ v',e=.returned v'∧Own w' w.heap.size v' (Lib.uvarint l.length)∧Below w.heap.size w w'):=by
   intro w;have:=ZbA (.slice none 0 0) [] (l.length:Int) w (Rd.nil _) (by simp)
   have e:Zrg [] (l.length:Int)=Lib.uvarint l.length:=if_pos ⟨by omega,by omega⟩
   rwa [e] at this
  have N:Hid (∀ w,Calls prog 134 #[.int .i64 (l.length:Int)] w fun e w'=>e=.returned (.int .i64 (Zgm (l.length:Int):Nat))∧Below w.heap.size w w'):=fun w=>Zqj _ w (by omega) (by omega)
  have c:Hid (∀ v w,Rd w v (Yr l)->Calls prog 136 #[v] w fun e w'=>e=.returned (.int .u32 (Q2 0 (Yr l):Nat))∧Below w.heap.size w w'):=fun v w h=>Zle v _ w h
  have d:Hid (∀ w,Calls prog 135 #[.int .u32 (Q2 0 (Yr l):Nat)] w fun e w'=>∃ v',e=.returned v'∧Own w' w.heap.size v' (Lib.leBytes 4 (Q2 0 (Yr l)))∧Below w.heap.size w w'):=fun w=>Zhy _ w (ZpM _)
  have H:Hid (Yr l=Lib.uvarint l.length++l):=rfl;have ab:Hid ((Lib.leBytes 4 (Q2 0 (Yr l))).length=4):=Lib.leBytes_length 4 _;have b:Hid ((Lib.uvarint l.length).length<=3):=Zyj (by omega)
  have ax:Zgm (l.length:Int)<=2000000:=by
   have e:Zgm (l.length:Int)=(Lib.uvarint l.length).length+4+l.length:=if_pos ⟨by omega,h⟩
   have:=b.o;rw[e];omega
  generalize Zgm (l.length:Int)=z at *;generalize Q2 0 (Yr l)=s at *;obtain⟨S,O⟩:∃ S:Int,S=(s:Int):=⟨_,rfl⟩;rw[<-O] at d c;clear O;generalize Lib.leBytes 4 s=q at *;generalize Lib.uvarint l.length=u at *;generalize Yr l=hd at *;have hh:=H.o;subst hh;clear H
  go_enter func91,ntmps91
  go_wp2_with fail
  refine(N.o _).mono ?_;rintro e T ⟨rfl,j⟩;have aa:=ZZ j;have K:=j.size;clear j N
  go_wp2_with(at_make;refine wpList_make_own _ rfl _ _ 53 rfl w.heap.size 5 i0 (.int .u8 0) 1 underlying53 hi af am _ _ _ z rfl rfl (by omega) (by rw[aj];omega) (by unfold maxLen;omega) K ?_)
  intro w2 M x;have W:Hid (Own w2 w.heap.size (.slice (some ⟨T.heap.size,0,none⟩) 0 z) []):=M;have B:=ZZ (aa.o.grown x K (fun k V=>by cases V))
  have al:=B.o.size;clear M x
  go_wp2_with fail
  refine(G.o _).mono ?_;rintro e w3 ⟨v3,rfl,E,i⟩;have I:=ZZ (B.o.trans (i.mono al));have X:=ZZ E.rd;have ak:=ZZ (W.o.below i zL);have R:=I.o.size;clear E i G
  go_wp2_with(at_builtin;refine Xi _ rfl _ _ rfl w.heap.size _ [] rfl ak.o _ u rfl X.o (by have:=b.o;simp;omega) R ?_)
  intro v4 w4 y C;have f:=ZZ (I.o.trans C);have an:Hid (Own w4 w.heap.size v4 u):=y;have ae:=f.o.size;clear y C
  go_wp2_with(at_builtin;refine Xi _ rfl _ _ rfl w.heap.size _ u rfl an.o _ l rfl (HR.o.below f.o zL) (by have:=b.o;omega) ae ?_)
  intro v5 w5 n p;have J:=ZZ (f.o.trans p);have A:Hid (Own w5 w.heap.size v5 (u++l)):=n;have U:=J.o.size;clear n p
  go_wp2_with fail
  refine(c.o _ _ A.o.rd).mono ?_;rintro e w6 ⟨rfl,m⟩;have Q:=ZZ (J.o.trans (m.mono U));have aq:=ZZ (A.o.below m zL);have ag:=Q.o.size;clear m c
  go_wp2_with fail
  refine(d.o _).mono ?_;rintro e w7 ⟨v7,rfl,L,g⟩;have P:=ZZ (Q.o.trans (g.mono ag));have Y:=ZZ L.rd;have ac:=ZZ (aq.o.below g zL);have ap:=P.o.size;clear L g d
  go_wp2_with(at_builtin;refine Xi _ rfl _ _ rfl w.heap.size _ (u++l) rfl ac.o _ q rfl Y.o (by have:=b.o;have:=ab.o;simp;omega) ap ?_)
  intro v8 w8 t F;have Z:=ZZ (P.o.trans F);have ai:=ZZ t;clear t F;go_wp2;go_ret2;exact⟨v8,by rw[a.o];rfl,by rw[a.o];show Own _ _ _ (u++l++q);rw[append_assoc];exact ai.o,Z.o⟩
 ·have a:Hid (ZwX l=([],5)):=if_neg (by omega)
  go_enter func91,ntmps91
  go_wp2;go_ret2;exact⟨_,by rw[a.o];rfl,by rw[a.o];exact Own.nil _ _,Below.refl _ _⟩
end Go.Proofs.YtnahjngbneicaaaGreatDoor
