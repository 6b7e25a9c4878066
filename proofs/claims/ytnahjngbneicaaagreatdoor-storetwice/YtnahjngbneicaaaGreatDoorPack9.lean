import Derived.Deep.WholeRow
import Derived.Test.YtnahjngbneicaaaGreatDoorPack8
namespace Go.Proofs.YtnahjngbneicaaaGreatDoor
open _root_.Go.Proofs.Tryz
open List (append_assoc length_append length_drop length_singleton nil_append take_add_one take_length take_of_length_le)
set_option maxHeartbeats 40000000
set_option maxRecDepth 100000
open Go.RowKit
variable {w:World} {B b:Nat} {v x y z:Value} {l:List UInt8} {xs:List Value} {L:List (List UInt8)}
theorem Own.empty {X:Obj} {cur:Array Value} {N:Nat} (a:w.heap.size=N) (d:X=.cells cur 5 (0,0)) (c:B<=N) (cap:Nat) (b:cap<=maxLen) (f:cur.size=cap):Own (w.alloc X) B (.slice (some ⟨N,0,none⟩) 0 cap) []:=by
 subst a d;have h:=World.ownsRow_made (e:=5) (size:=1) (base:=B) w cur cap c b (by omega)
 exact h
theorem Zqe (n:Nat) (w:World) (t:n<=1000000):
 Calls prog 182 #[.slice none 0 0,.int .i64 (n:Int)] w fun e w'=>∃ v',e=.returned v'∧Own w' w.heap.size v' []∧Below w.heap.size w w':=by
 obtain⟨d,j,l,q,b⟩:=info_parts Zkt;by_cases f:n=0
 ·subst f
  go_enter func182,ntmps182
  go_wp2;go_ret;exact⟨_,rfl,Own.nil _ _,Below.refl _ _⟩
 ·have g:∀ ty,(Builtin.append_ #[53,3] ty #[.slice none 0 0,.int .i64 (n:Int)]).run prog w =
   .ok (.slice (some ⟨w.heap.size,0,none⟩) n (grownCap w n 0 5)) (w.drew.alloc (.cells (#[]++Builtin.zeroCells #[.int .u8 0] n++Builtin.zeroCells #[.int .u8 0] (grownCap w n 0 5-n)) 5)):=fun ty=>by
   have h:=Lib.run_append_grow_zeros (P:=prog) w 53 3 ty 5 d (.int .u8 0) .i64 .i64 underlying53 underlying3 j l none 0 0 [] (run_firstCells_none w.drew d.size 0 0 0) n (by omega) (by omega) (by omega) (by omega) (by rw[b];omega)
    (by rw[Nat.zero_add];exact growslice_fits (by omega) (by rw[b];omega))
   rw[Nat.zero_add] at h;exact h
  have p:n<=grownCap w n 0 5:=grownCap_ge w _ _ _;have a:=grownCap_le_maxLen w n 0 5 (by unfold maxLen;omega)
  generalize grownCap w n 0 5=G at *
  have m:G<=9223372036854775807:=by
   unfold maxLen at a;omega
  have c:(#[]++Builtin.zeroCells #[Value.int .u8 0] n++Builtin.zeroCells #[Value.int .u8 0] (G-n)).size=G:=by
   simp[Builtin.zeroCells];omega
  generalize (#[]++Builtin.zeroCells #[Value.int .u8 0] n++Builtin.zeroCells #[Value.int .u8 0] (G-n))=Z at *;have u:(0:Int)<(n:Int):=by omega
  have k:Hid (Own (w.drew.alloc (.cells Z 5)) w.heap.size (.slice (some ⟨w.heap.size,0,none⟩) 0 G) []):=ZZ (Own.empty rfl rfl zL G a c);have i:Hid (Below w.heap.size w (w.drew.alloc (.cells Z 5))):=ZZ (((Below.refl _ _).drew).alloc zL _);clear c a
  go_enter func182,ntmps182
  go_wp2_with(at_builtin;refine Lib.wpList_append_run _ rfl _ _ _ _ rfl _ _ rfl rfl _ _ (g _) ?_)
  all_goals (go_ret;exact⟨_,rfl,k.o,i.o⟩)
theorem ZmL (L:List (List UInt8)) (k:Nat) (a:k<L.length):(L.take (k+1)).flatten=(L.take k).flatten++L.getD k []:=by
 have e:L.take (k+1)=L.take k++[L.getD k []]:=by
  rw[take_add_one];simp[List.getD,a]
 rw[e,List.flatten_append];simp
theorem ZxC (L:List (List UInt8)) (k:Nat):((L.take k).flatten).length<=L.flatten.length:=by
 have e:L.flatten=(L.take k).flatten++(L.drop k).flatten:=by rw[<-List.flatten_append,List.take_append_drop]
 rw[e,length_append];omega
def Zlc (L:List (List UInt8)) (k:Nat):Nat:=(L.take k).flatten.length
def Zud (L:List (List UInt8)) (k:Nat):List UInt8:=(L.take k).flatten
theorem ZmM (L:List (List UInt8)) (k:Nat) (a:k<L.length):Zud L (k+1)=Zud L k++L.getD k []:=ZmL L k a
theorem ZmN (L:List (List UInt8)) (k:Nat) (a:k<L.length):(Zlc L (k+1):Int)=(Zlc L k:Int)+((L.getD k []).length:Int):=by
 unfold Zlc;rw[ZmL L k a,length_append];omega
theorem Zue (L:List (List UInt8)) (k:Nat):Zlc L k<=L.flatten.length:=ZxC L k
theorem Zqf (L:List (List UInt8)) (k:Nat):(Zud L k).length=Zlc L k:=rfl
theorem Zqg (L:List (List UInt8)) (k:Nat) (a:L.length<=k):Zud L k=L.flatten:=by
 unfold Zud;rw[take_of_length_le a]
theorem Zdf (v:Value) (L:List (List UInt8)) (w:World) (R:RdL w v L) (N:L.flatten.length<=1000000) (hn:L.length<=1000):
 Calls prog 131 #[v] w fun e w'=>∃ v',e=.returned v'∧Own w' w.heap.size v' L.flatten∧Below w.heap.size w w':=by
 have T:=ZZ (fun n W h=>Zqe n W h)
 have ai:=ZZ R;have u:Hid (∀ k,Zlc L k<=1000000):=fun k=>Nat.le_trans (Zue L k) N
 have I:=ZZ (ZmN L);have af:=ZZ (ZmM L);have M:=ZZ (Zqg L);have ac:=ZZ (Zqf L);obtain⟨F,p⟩:∃ F,F=L.flatten:=⟨_,rfl⟩;rw[<-p];rw[<-p] at M;obtain⟨ao,cap,rfl,-,-,-,H⟩:=R;have J:=ZZ H;clear H p N
 go_enter func131,ntmps131
 go_wp2
 go_loopw[3,11] (fun vs a wr=>∃ (k:Nat),vs=.int .i64 (Zlc L k:Int)∧a=.int .i64 (k:Int)∧k<=L.length∧wr=w) (fun _ a _=>L.length-(intOf a).toNat)
 case atStart=>exact⟨0,rfl,rfl,Nat.zero_le _,rfl⟩
 case round=>
  obtain⟨k,rfl,rfl,hk,z⟩:=hrel;have ab:=z.symm;subst ab;clear z;by_cases d:k<L.length
  ·rcases J.o with m | ⟨c,ad,rfl,g⟩
   ·rw[m] at d;simp at d
   obtain⟨x,hx,i⟩:=g k d;have G:=u.o (k+1);have l:=I.o k d;obtain⟨ax,U,rfl,-⟩:=i;have h3:¬ ((Zlc L k:Int)+((L.getD k []).length:Int)<0):=by omega
   have h4:(Zlc L k:Int)+((L.getD k []).length:Int)<=1000000:=by omega
   have Y:=ZZ l;clear g G l;generalize Zlc L k=A at *;generalize (L.getD k []).length=D at *;go_wp2;go_roundw
   case rel=>exact⟨k+1,by rw[Y.o],by go_num,by omega,trivial⟩
   case measure=>simp[intOf];omega
  ·have aa:=ZZ (T.o (Zlc L k) w (u.o k))
   generalize Zlc L k=A at *
   go_wp2_with fail
   refine aa.o.mono ?_;rintro e W1 ⟨v1,rfl,Q,O⟩;have C:=ZZ Q;have K:=ZZ O;clear Q O hk d;go_wp2
   go_loopw[6,27] (fun Z a E=>∃ (j:Nat),a=.int .i64 (j:Int)∧j<=L.length∧Hid (Own E w.heap.size Z (Zud L j))∧Hid (Below w.heap.size w E)) (fun _ a _=>L.length-(intOf a).toNat)
   case atStart=>exact⟨0,rfl,Nat.zero_le _,C,K⟩
   case round=>
    clear C K;obtain⟨j,rfl,hj,y,f⟩:=hrel;by_cases b:j<L.length
    ·rcases J.o with m | ⟨c,ad,rfl,g⟩
     ·rw[m] at b;simp at b
     obtain⟨x,q,i⟩:=g j b;have hx:=(f.o.cell (World.block_lt_of_cell? _ _ q)).trans q;have S:=ZZ (i.below f.o zL);obtain⟨ax,U,rfl,-⟩:=i
     have V:Hid ((Zud L j).length+(L.getD j []).length<=70368744177664):=ZZ (by
      have G:=u.o (j+1);have l:=I.o j b;rw[ac.o]
      omega)
     have ag:=ZZ f.o.size;have HN:=ZZ (af.o j b);clear g q;generalize L.getD j []=D at *;generalize Zud L j=P at *
     go_wp2_with(at_builtin;refine Xi _ rfl _ _ rfl w.heap.size _ P rfl y.o _ D rfl S.o V.o ag.o ?_)
     intro v3 W3 t B;rw[<-HN.o] at t;have ae:=ZZ t;have X:=ZZ (f.o.trans B);clear t B;go_wp2;go_roundw
     case rel=>exact⟨j+1,by go_num,by omega,ae,X⟩
     case measure=>simp[intOf];omega
    ·have HE:=ZZ (M.o j (by omega))
     rw[HE.o] at y;go_wp2;go_ret;exact⟨_,rfl,y.o,f.o⟩
theorem RdL.built (W:World) (N:Nat) (b:N=W.heap.size) (vs:Array Value) (L:List (List UInt8)) (f:L.length<=1000) (h:∀ j,j<L.length->∃ x,vs[j]?=some x∧Rd W x (L.getD j [])):
 RdL (W.alloc (.cells vs 53)) (.slice (some ⟨N,0,none⟩) L.length L.length) L:=by
 subst b;refine⟨some ⟨W.heap.size,0,none⟩,L.length,rfl,Nat.le_refl _,by unfold maxLen;omega,fun e=>(by cases e),.inr ⟨W.heap.size,0,rfl,fun j d=>?_⟩⟩
 obtain⟨x,a,c⟩:=h j d;refine⟨x,?_,c.below ((Below.refl _ _).alloc zL _) zL⟩;rw[Nat.zero_add,cell_of_row _ W.heap.size j vs 53 (0,0) (heap_alloc_new W _)];exact a
theorem Zuf (W:World) (N:Nat) (x:N=W.heap.size) (f k g i:Value) (b a d c:List UInt8) (u:Rd W f b) (t:Rd W k a) (p:Rd W g d) (w:Rd W i c) (y:b.length+a.length+d.length+c.length<=1000000):
 Calls prog 131 #[.slice (some ⟨N,0,none⟩) 4 4] (W.alloc (.cells #[f,k,g,i] 53)) fun e w'=>∃ v',e=.returned v'∧Own w' W.heap.size v' (b++(a++(d++c)))∧Below W.heap.size W w':=by
 have v:=RdL.built W N x #[f,k,g,i] [b,a,d,c] (by simp) (fun j q=>by
  match j,q with
  | 0,_=>exact⟨f,rfl,u⟩
  | 1,_=>exact⟨k,rfl,t⟩
  | 2,_=>exact⟨g,rfl,p⟩
  | 3,_=>exact⟨i,rfl,w⟩)
 have l:[b,a,d,c].flatten=b++(a++(d++c)):=by simp
 refine(Zdf _ _ _ v (by rw[l];simp only [length_append];omega) (by simp)).mono ?_
 rintro e w' ⟨v',rfl,m,n⟩;rw[l] at m;exact⟨v',rfl,m.mono (by simp),((Below.refl _ _).alloc zL _).trans (n.mono (by simp))⟩
theorem Zug (W:World) (N:Nat) (u:N=W.heap.size) (d g f:Value) (b a c:List UInt8) (q:Rd W d b) (p:Rd W g a) (m:Rd W f c) (v:b.length+a.length+c.length<=1000000):
 Calls prog 131 #[.slice (some ⟨N,0,none⟩) 3 3] (W.alloc (.cells #[d,g,f] 53)) fun e w'=>∃ v',e=.returned v'∧Own w' W.heap.size v' (b++(a++c))∧Below W.heap.size W w':=by
 have t:=RdL.built W N u #[d,g,f] [b,a,c] (by simp) (fun j n=>by
  match j,n with
  | 0,_=>exact⟨d,rfl,q⟩
  | 1,_=>exact⟨g,rfl,p⟩
  | 2,_=>exact⟨f,rfl,m⟩)
 have i:[b,a,c].flatten=b++(a++c):=by simp
 refine(Zdf _ _ _ t (by rw[i];simp only [length_append];omega) (by simp)).mono ?_
 rintro e w' ⟨v',rfl,k,l⟩;rw[i] at k;exact⟨v',rfl,k.mono (by simp),((Below.refl _ _).alloc zL _).trans (l.mono (by simp))⟩
theorem ZrF (v:Value) (l:List UInt8) (w:World) (g:Rd w v l) (t:l.length<=1000000):
 Calls prog 214 #[v] w fun e w'=>∃ v',e=.returned v'∧Own w' w.heap.size v' l∧Below w.heap.size w w':=by
 have i:=ZZ g;obtain⟨ao,cap,rfl,m,-,b,-⟩:=g
 cases ao with
 | none=>
  obtain rfl:cap=0:=b rfl;obtain rfl:l=[]:=List.eq_nil_of_length_eq_zero (by omega)
  clear b m;have k:∀ w,(binOp .eql 53 (.slice none 0 0) (.slice none 0 0)).run prog w=.ok (.bool true) w:=fun w=>run_eql_slice_nil w _ _ none 0 0 underlying53
  go_enter func214,ntmps214
  go_wp2;go_ret;exact⟨_,rfl,Own.nil _ _,Below.refl _ _⟩
 | some a=>
  clear b;have k:∀ w,(binOp .eql 53 (.slice (some a) l.length cap) (.slice none 0 0)).run prog w=.ok (.bool false) w:=fun w=>run_eql_slice_nil w _ _ (some a) _ _ underlying53
  have c:Hid (∀ X,Below w.heap.size w (w.alloc X)):=fun X=>(Below.refl _ _).alloc zL X
  have p:Hid (Own (w.alloc (.cells #[] 5)) w.heap.size (.slice (some ⟨w.heap.size,0,none⟩) 0 0) []):=ZZ (Own.empty rfl rfl zL 0 (Nat.zero_le _) rfl)
  go_enter func214,ntmps214
  go_wp2_with(at_builtin;refine Xi _ rfl _ _ rfl w.heap.size _ [] rfl p.o _ l rfl (i.o.below (c.o _) zL) (by simp;omega) (by simp) ?_)
  intro q u d f;have n:=ZZ d;have j:=ZZ ((c.o _).trans f);clear d f;go_wp2;go_ret;exact⟨_,rfl,n.o,j.o⟩
def Xk:Array Value:=((List.range 256).map fun c=>Value.int .u32 ((Zdj c:Nat):Int)).toArray
def Zh:Array Value:=(List.replicate 256 (Value.int .u32 0)).toArray
theorem ZgH:(prog.info? 266).map (fun i=>(i.zero,i.size))=some (some (.agg Zh),256):=by kernel_rfl
theorem Jm:Xk.size=256:=by simp[Xk]
theorem ZcN:Zh.size=256:=by
 unfold Zh;rw[List.size_toArray,List.length_replicate]
theorem ZfY:Xk.all (·.oneCell')=true:=by
 rw[Array.all_eq_true];intro i a;simp[Xk,Value.oneCell']
theorem Zia (k:Nat) (h:k<256):Xk[k]?=some (.int .u32 ((Zdj k:Nat):Int)):=by
 simp[Xk,h]
theorem Zuh (w:World):(Instr.storeAt 266 (.pointer (some ⟨w.heap.size,0,none⟩)) (.agg Xk)).run prog (w.alloc (.cells Zh 266))=.ok () (w.alloc (.cells Xk 266)):=
 run_storeAt_new w 266 Zh Xk (by rw[Jm];exact(zero_of_info ZgH).2) (by rw[Jm,ZcN]) ZfY
def Zwh (w:World) (b:Nat):Prop:=∀ k,k<256->w.cell? ⟨b,k,none⟩=some (.int .u32 ((Zdj k:Nat):Int))
theorem Zwh.made (w:World):Zwh (w.alloc (.cells Xk 266)) w.heap.size:=by
 intro k a;rw[cell_of_row _ w.heap.size k Xk 266 (0,0) (heap_alloc_last w _)];exact Zia k a
theorem Zib (w:World) {b:Array Oper} {rest:List Oper} {o:Oper} {a:Act} {Q:Exit->Act->World->Prop} (i:o.guard=none) (x y:Operand) (e:o.op=.store 266 x y)
 (c:a.eval x=.pointer (some ⟨w.heap.size,0,none⟩)) (g:a.eval y=.agg Xk)
 (h:∀ w',Below w.heap.size w w'->Zwh w' w.heap.size->wpList prog b Q rest (a.put o.dst undef) w'):wpList prog b Q (o::rest) a (w.alloc (.cells Zh 266)):=
 wpList_plain i fun _ f=>by
  have d:=Zuh w;unfold Oper.wp execOp;simp only [e,c,g,d,Sem.run_bind,Sem.run_pure,Result.andThen_ok];exact f _ _ (h _ ((Below.refl _ _).alloc zL _) (Zwh.made w))
def Zic (k:Nat):Array Value:=((List.range 256).map fun c=>if c<k then Value.int .u32 ((Zdj c:Nat):Int) else Value.int .u32 0).toArray
theorem ZbP (k:Nat):(Zic k).size=256:=by simp[Zic]
theorem ZcO (k i:Nat) (h:i<256):(Zic k)[i]?=some (if i<k then Value.int .u32 ((Zdj i:Nat):Int) else Value.int .u32 0):=by
 simp[Zic,h]
theorem ZrG:Zic 0=Zh:=by
 apply Array.ext_getElem?;intro i;by_cases h:i<256
 ·rw[ZcO 0 i h]
  unfold Zh;rw[List.getElem?_toArray,List.getElem?_replicate_of_lt h];simp
 ·rw[Array.getElem?_eq_none (by rw[ZbP];omega),Array.getElem?_eq_none (by rw[ZcN];omega)]
theorem ZrH:Zic 256=Xk:=by
 apply Array.ext_getElem?;intro i;by_cases h:i<256
 ·rw[ZcO 256 i h,if_pos h,Zia i h]
 ·rw[Array.getElem?_eq_none (by rw[ZbP];omega),Array.getElem?_eq_none (by rw[Jm];omega)]
theorem Zui (k:Nat) (b:k<256):(Zic k).setIfInBounds k (Value.int .u32 ((Zdj k:Nat):Int))=Zic (k+1):=by
 apply Array.ext_getElem?;intro i;rw[Array.getElem?_setIfInBounds];by_cases h:i<256
 ·rw[ZcO (k+1) i h,ZcO k i h,ZbP]
  by_cases a:k=i
  ·subst a
   simp[b]
  ·rw[if_neg a]
   have e:(i<k+1)=(i<k):=by
    apply propext;omega
   simp only [e]
 ·have a:¬ k=i:=by omega
  rw[if_neg a,Array.getElem?_eq_none (by rw[ZbP];omega),Array.getElem?_eq_none (by rw[ZbP];omega)]
theorem Zld {C:Array Value} (h:C.size=256):(prog.info? 266).map (·.size)=some C.size:=by
 rw[h];exact(zero_of_info ZgH).2
theorem Zid (w:World) {b:Array Oper} {rest:List Oper} {o:Oper} {a:Act} {Q:Exit->Act->World->Prop} (e:o.guard=none) (x:Operand) (k:o.op=.load 266 x)
 (g:Nat) (C:Array Value) (c:Nat × Nat) (i:a.eval x=.pointer (some ⟨g,0,none⟩)) (f:w.heap[g]?=some (.cells C 266 c)) (l:C.size=256)
 (h:wpList prog b Q rest (a.put o.dst (.agg C)) w):wpList prog b Q (o::rest) a w:=
 wpList_plain e fun _ d=>by
  have j:=run_loadVar_row (P:=prog) w g 266 266 C c _ f underlying266 rfl (Zld l);unfold Oper.wp execOp;simp only [k,i,Instr.loadAt,Instr.sureAddr,Sem.run_bind,Sem.run_pure,Result.andThen_ok,j];exact d _ _ h
theorem Zgp (w:World) {b:Array Oper} {rest:List Oper} {o:Oper} {a:Act} {Q:Exit->Act->World->Prop} (i:o.guard=none) (x y:Operand) (m:o.op=.store 266 x y)
 (g:Nat) (C D:Array Value) (k:a.eval x=.pointer (some ⟨g,0,none⟩)) (e:a.eval y=.agg D) (j:w.heap[g]?=some (.cells C 266 (0,0))) (n:C.size=256) (c:D.size=256) (f:D.all (·.oneCell')=true)
 (h:wpList prog b Q rest (a.put o.dst undef) (w.setRow g D)):wpList prog b Q (o::rest) a w:=
 wpList_plain i fun _ d=>by
  have l:=run_storeVar_row (P:=prog) w g 266 266 C D j (Zld c) (by rw[n,c]) f
  unfold Oper.wp execOp;simp only [m,k,e,Instr.storeAt,Instr.sureAddr,Sem.run_bind,Sem.run_pure,Result.andThen_ok,l];exact d _ _ h
theorem ZmO {fn:Func} {p:Tmp} {ty:TypeId} (h:fn.results=#[.cell p ty]) (b:Array Value) (P:Program) (w:World):
 (results fn b).run P w=((asAddr (b.getD p undef)).run P w).andThen fun a c=>(loadVar ty a).run P c:=by
 simp only [results,h];simp[Sem.run_bind,Result.andThen]
theorem Zuj (k:Nat) (g:k<256) (w:World):Calls prog 225 #[.int .u32 (k:Int)] w fun e w'=>e=.returned (.int .u32 (Zdj k:Nat))∧w'=w:=by
 have v:=ZZ g;clear g
 go_enter func225,ntmps225
 go_wp2
 go_loop [0,4] (fun x j=>∃ m:Nat,m<=8∧j=.int .i64 (m:Int)∧x=.int .u32 (Jt m k:Nat)) (fun _ j=>8-(intOf j).toNat)
 case atStart=>exact⟨0,Nat.zero_le _,rfl,rfl⟩
 case round=>
  obtain⟨m,B,rfl,rfl⟩:=hrel;by_cases A:m<8
  ·have i:=ZZ (ZrB m k)
   have n:Jt m k<4294967296:=ZtT m (by have:=v.o;omega)
   generalize Jt m k=y at *;obtain⟨Y,b⟩:∃ Y:Int,Y=(y:Int):=⟨_,rfl⟩;rw[<-b];have D:0<=Y:=by omega
   have C:Y<4294967296:=by omega
   have l:=ZZ b;have t:=ZZ n;clear b n;by_cases a:Y % 2=1
   ·have q:(Y % 2 == 1)=true:=beq_iff_eq.2 a
    have d:=ZZ a;clear a;go_wp2
    go_round
    case rel=>
     have e:=l.o;have p:=d.o;refine⟨m+1,by omega,by go_num,?_⟩
     have f:Y / 2=((y / 2:Nat):Int):=by omega
     have z:(2197175160:Int)=((2197175160:Nat):Int):=rfl;have c:ZqJ y=y / 2 ^^^ 2197175160:=if_pos (by omega)
     rw[i.o,c,f,z,ZoG _ _ (by have:=t.o;omega) (by decide)]
    case measure=>simp[intOf];omega
   ·have q:(Y % 2 == 1)=false:=beq_eq_false_iff_ne.2 a
    have d:=ZZ a;clear a;go_wp2
    go_round
    case rel=>
     have e:=l.o;have p:=d.o;refine⟨m+1,by omega,by go_num,?_⟩
     have f:Y / 2=((y / 2:Nat):Int):=by omega
     have c:ZqJ y=y / 2:=if_neg (by omega)
     rw[i.o,c,f]
    case measure=>simp[intOf];omega
  ·have u:Hid (Jt m k=Zdj k):=by
    have e:m=8:=by omega
    rw[e];exact rfl
   generalize Jt m k=y at *;go_wp2;go_ret;refine⟨ZbT ?_,rfl⟩;rw[u.o]
theorem Zuk (w:World):Calls prog 215 #[] w fun e w'=>e=.returned (.agg Xk)∧Below w.heap.size w w':=by
 have C:=(zero_of_info ZgH).1;have n:Hid (∀ (k:Nat) (w:World),k<256->Calls prog 225 #[.int .u32 (k:Int)] w fun e w'=>e=.returned (.int .u32 (Zdj k:Nat))∧w'=w):=fun k w f=>Zuj k f w
 go_enter func215,ntmps215
 go_wp2
 go_loopw[3] (fun i wr=>∃ k:Nat,k<=256∧i=.int .i64 (k:Int)∧Hid (wr.heap[w.heap.size+1]?=some (.cells (Zic k) 266 (0,0)))∧Hid (wr.heap[w.heap.size]?=some (.cells Zh 266 (0,0)))∧Hid (Below w.heap.size w wr)) (fun i _=>256-(intOf i).toNat)
 case atStart=>
  have q:((w.alloc (.cells Zh 266)).alloc (.cells Zh 266)).heap[w.heap.size+1]?=some (.cells (Zic 0) 266 (0,0)):=by
   rw[ZrG];have h:=heap_alloc_last (w.alloc (.cells Zh 266)) (.cells Zh 266);have y:(w.alloc (.cells Zh 266)).heap.size=w.heap.size+1:=by simp
   rw[y] at h;exact h
  have t:((w.alloc (.cells Zh 266)).alloc (.cells Zh 266)).heap[w.heap.size]?=some (.cells Zh 266 (0,0)):=
   (Below.heap_alloc _ _ w.heap.size (by simp)).trans (heap_alloc_last w _)
  exact⟨0,Nat.zero_le _,rfl,q,t,((Below.refl _ _).alloc zL _).alloc (by simp) _⟩
 case round=>
  obtain⟨k,f,rfl,b,d,a⟩:=hrel;by_cases c:k<256
  ·have A:wr.cell? ⟨w.heap.size+1,k,none⟩=some (.int .u32 0):=by
    rw[cell_of_row wr _ k _ _ _ b.out,ZcO k k c];simp
   have B:wr.frozen? ⟨w.heap.size+1,k,none⟩=false:=frozen_of_row wr _ k _ _ b.out
   have p:Hid ((wr.setCell ⟨w.heap.size+1,k,none⟩ (.int .u32 ((Zdj k:Nat):Int))).heap[w.heap.size+1]?=some (.cells (Zic (k+1)) 266 (0,0))):=by
    have h:=heap_setCell_same wr (w.heap.size+1) k _ _ (.int .u32 ((Zdj k:Nat):Int)) b.out;rw[Zui k c] at h;exact h
   go_wp2_with fail
   refine(n.o k wr c).mono ?_;rintro e z ⟨rfl,rfl⟩;go_wp2;go_roundw
   case rel=>exact⟨k+1,by omega,by go_num,p,(Below.heap_setCell _ _ _ _ (by show w.heap.size≠w.heap.size+1;omega)).trans d.out,a.out.setCell (by show w.heap.size<=w.heap.size+1;omega) _⟩
   case measure=>simp[intOf];omega
  ·have g:wr.heap[w.heap.size+1]?=some (.cells Xk 266 (0,0)):=by
    have e:k=256:=by omega
    rw[<-ZrH,<-e];exact b.out
   have m:=ZZ g
   have u:Hid ((loadVar 266 ⟨w.heap.size,0,none⟩).run prog (wr.setRow w.heap.size Xk)=.ok (.agg Xk) (wr.setRow w.heap.size Xk)):=
    run_loadVar_row (P:=prog) _ _ 266 266 Xk (0,0) _ (setRow_heap wr _ _ Xk _ _ d.out) underlying266 rfl (Zld Jm)
   have x:Hid (Below w.heap.size w (wr.setRow w.heap.size Xk)):=
    ⟨a.out.os,a.out.tape,a.out.output,by have:=a.out.size;simp[World.setRow];omega,fun j l=>(setRow_other wr _ j _ (by omega)).trans (a.out.block j l)⟩
   clear g b
   go_wp2_with(first
    | refine Zid _ rfl _ rfl (w.heap.size+1) Xk (0,0) rfl m.o Jm ?_
    | refine Zgp _ rfl _ _ rfl w.heap.size Zh Xk rfl rfl d.out ZcN Jm ZfY ?_)
   refine bodyPost_ret (v:=.agg Xk) ?_ rfl ⟨rfl,x.o⟩;have h:=u.o;rw[ZmO Tryz.results215];have e:(asAddr (.pointer (some ⟨w.heap.size,0,none⟩))).run prog (wr.setRow w.heap.size Xk)=.ok ⟨w.heap.size,0,none⟩ (wr.setRow w.heap.size Xk):=by simp[asAddr]
   simp only [Act.put,List.setIfInBounds_toArray,List.set_cons_succ,List.set_cons_zero];show((asAddr (.pointer (some ⟨w.heap.size,0,none⟩))).run prog (wr.setRow w.heap.size Xk)).andThen _=_;rw[e];simp only [Result.andThen];rw[h]
theorem Zwi (s:Nat) (v:Value) (l:List UInt8) (w:World) (A:Rd w v l) (g:s<4294967296):
 Calls prog 187 #[.int .u32 (s:Int),v] w fun e w'=>e=.returned (.int .u32 (Q2 s l:Nat))∧Below w.heap.size w w':=by
 have G:=ZZ A;obtain⟨ao,cap,rfl,Z,N,O,a⟩:=A;clear O;have R:=ZZ a;clear a;have T:(l.length:Int)<=9223372036854775807:=by unfold maxLen at N;omega
 have P:=ZZ (ZtU s g);have K:Hid (∀ k,Zbk (s ^^^ 4294967295) (l.take k)<4294967296):=fun k=>Zhc _ (Ztc g)
 have L:Hid (Q2 s l=Zbk (s ^^^ 4294967295) l ^^^ 4294967295):=rfl;have F:=ZZ (fun w=>Zuk w)
 have Q:=(zero_of_info ZgH).1;generalize s ^^^ 4294967295=j at *;clear g
 go_enter func187,ntmps187
 go_wp2_with fail
 refine(F.o _).mono ?_;rintro e V ⟨rfl,n⟩;have D:=ZZ n;clear n F
 go_wp2_with(refine Zib _ rfl _ _ rfl rfl rfl ?_)
 intro w3 t C;have q:=ZZ (D.o.trans (t.mono D.o.size));have J:=ZZ C;clear t C Q;go_wp2
 go_loop [6,14] (fun x i=>∃ k:Nat,k<=l.length∧i=.int .i64 k∧x=.int .u32 (Zbk j (l.take k):Nat)) (fun _ i=>l.length-(intOf i).toNat)
 case atStart=>
  refine⟨0,Nat.zero_le _,rfl,?_⟩;rw[P.o];rfl
 case round=>
  obtain⟨k,U,rfl,rfl⟩:=hrel;have I:=K.o k;by_cases d:k<l.length
  ·have H:=ZZ (ZoH l j k d)
   rcases R.o with a | ⟨b,Y,rfl,_⟩
   ·subst a;simp at d
   have W:=(G.o.below q.o zL).at k d;have f:(l.getD k 0).toNat<256:=UInt8.toNat_lt _;generalize Zbk j (l.take k)=y at *;generalize (l.getD k 0).toNat=c at *;have B:=Zxy y c f
   have aa:bits .xor .u8 ((y:Int) % 256) (c:Int)=((y % 256 ^^^ c:Nat):Int):=by
    have e:(y:Int) % 256=((y % 256:Nat):Int):=by omega
    rw[e];exact Zyr _ _ (by omega) f
   have z:Hid (bits .xor .u32 ((Zdj (y % 256 ^^^ c):Nat):Int) ((y:Int) / 256)=((ZdB y c:Nat):Int)):=by
    have e:(y:Int) / 256=((y / 256:Nat):Int):=by omega
    rw[e,ZoG _ _ (Zwe _ B) (by omega)]
    unfold ZdB;rw[Zwd y c f];exact rfl
   have M:=J.o (y % 256 ^^^ c) B;generalize p:y % 256 ^^^ c=m at *;have S:=ZZ p;clear p;have X:(m:Int)<256:=by omega
   obtain⟨E,u⟩:∃ E:Int,E=((Zdj m:Nat):Int):=⟨_,rfl⟩;rw[<-u] at M z;clear u;go_wp2
   go_round
   case rel=>exact⟨k+1,by omega,by go_num,by rw[H.o,<-z.o]⟩
   case measure=>simp[intOf];omega
  ·go_wp2
   go_ret;refine⟨ZbT ?_,q.o⟩;rw[L.o,ZtU _ I,take_of_length_le (by omega)]
theorem Zle (v:Value) (l:List UInt8) (w:World) (b:Rd w v l):
 Calls prog 136 #[v] w fun e w'=>e=.returned (.int .u32 (Q2 0 l:Nat))∧Below w.heap.size w w':=by
 have c:Hid (Calls prog 187 #[.int .u32 0,v] w fun e w'=>e=.returned (.int .u32 (Q2 0 l:Nat))∧Below w.heap.size w w'):=Zwi 0 v l w b (by decide)
 generalize Q2 0 l=m at *;clear b
 go_enter func136,ntmps136
 go_wp2_with fail
 refine c.o.mono ?_;rintro e w' ⟨rfl,a⟩;have d:=ZZ a;clear a c;go_wp2;go_ret;exact⟨rfl,d.o⟩
def Zgq (v:Value) (l:List UInt8) (xs:List Value) (L:List (List UInt8)):Prop:=
 xs.length=L.length∧∀ j,j<L.length->∃ x,xs[j]?=some x∧x.oneCell'=true∧∀ W,Rd W v l->Rd W x (L.getD j [])
theorem Zgq.nil (v:Value) (l:List UInt8):Zgq v l [] []:=⟨rfl,fun j a=>absurd a (by simp)⟩
theorem Zgq.snoc (h:Zgq v l xs L) {x:Value} {d:List UInt8} (g:x.oneCell'=true) (b:∀ W,Rd W v l->Rd W x d):Zgq v l (xs++[x]) (L++[d]):=by
 refine⟨by simp[h.1],fun j c=>?_⟩
 rw[length_append,length_singleton] at c;by_cases a:j<L.length
 ·obtain⟨y,f,k,m⟩:=h.2 j a
  refine⟨y,by rw[List.getElem?_append_left (by rw[h.1];exact a)];exact f,k,?_⟩
  have e:(L++[d]).getD j []=L.getD j []:=by simp[List.getD,List.getElem?_append_left a]
  rw[e];exact m
 ·have i:j=L.length:=by omega
  subst i;refine⟨x,by rw[List.getElem?_append_right (by rw[h.1];omega),h.1];simp,g,?_⟩
  have e:(L++[d]).getD L.length []=d:=by simp[List.getD]
  rw[e];exact b
theorem Zgq.one (h:Zgq v l xs L):∀ u ∈ xs,u.oneCell'=true:=fun u c=>by
 obtain⟨j,b,rfl⟩:=List.getElem_of_mem c;obtain⟨x,a,d,-⟩:=h.2 j (by rw[<-h.1];exact b)
 rw[List.getElem?_eq_getElem b] at a;obtain rfl:=Option.some.inj a;exact d
theorem Zul:(prog.info? 53).map (fun i=>(i.zero,i.size,i.bytes))=some (some (.slice none 0 0),1,24):=by kernel_rfl
theorem Zie (w:World) (ty:TypeId) (B:Nat) (v:Value) (n:Nat) (xs:List Value) (h:w.ownsRow B 53 1 v n xs) (a:Addr) (m cap:Nat) (b:List Value) (e:b.length=m) (i:∀ j u,b[j]?=some u->w.cell? (a.add j)=some u) (f:∀ u ∈ b,u.oneCell'=true) (A:n+m<=1000000) (c:B<=w.heap.size):
 ∃ v' w',(Builtin.append_ #[144,144] ty #[v,.slice (some a) m cap]).run prog w=.ok v' w'∧w'.ownsRow B 53 1 v' (n+m) (xs++b)∧Below B w w':=by
 obtain⟨z,q,x,l,g⟩:=info_parts Zul
 obtain⟨v',w',t,y,p,_⟩:=run_append_own (P:=prog) w B 144 ty 53 z (.slice none 0 0) 1 24 underlying144 q x l g rfl (by decide) v n xs h
  a m cap b (by rw[e,Nat.mul_one]) i f (by unfold maxLen;omega) (by omega) c
 exact⟨v',w',t,y,(Below.refl _ _).grown p c (fun k d=>(World.ownsRow.lt h k d).1)⟩
theorem Zal (w:World) {c:Array Oper} {rest:List Oper} {o:Oper} {a:Act} {Q:Exit->Act->World->Prop} (y:o.guard=none) (s x:Operand)
 (D:o.op=.call { callee:=.builtin .append,args:=#[s,x],argTypes:=#[144,144] })
 (B:Nat) (v:Value) (n:Nat) (xs:List Value) (q:a.eval s=v) (l:w.ownsRow B 53 1 v n xs) (d:Addr) (m cap:Nat) (b:List Value) (z:a.eval x=.slice (some d) m cap) (g:b.length=m) (k:∀ j u,b[j]?=some u->w.cell? (d.add j)=some u) (i:∀ u ∈ b,u.oneCell'=true)
 (p:n+m<=1000000) (A:B<=w.heap.size)
 (h:∀ v' w',w'.ownsRow B 53 1 v' (n+m) (xs++b)->Below B w w'->wpList prog c Q rest (a.put o.dst v') w'):wpList prog c Q (o::rest) a w:=
 wpList_plain y fun _ f=>by
  obtain⟨v',w',C,e,t⟩:=Zie w o.type B v n xs l d m cap b g k i p A;unfold Oper.wp execOp;simp only [D,resolve,invoke,builtin,Sem.run_bind,Sem.run_pure,Result.andThen_ok,List.map_toArray,List.map_cons,List.map_nil,q,z,C];exact f _ _ (h v' w' e t)
theorem Zwj (ao:Option Addr) (l:List UInt8) (cap:Nat) (g:l.length<=cap) (i j:Nat) (e:i<=j) (f:j<=l.length):
 ∃ a c b,(∀ W,(Instr.sliceAt 53 (.slice ao l.length cap) (some (.int .i64 (i:Int))) (some (.int .i64 (j:Int))) (some (.int .i64 (j:Int)))).run prog W=.ok (.slice a c b) W)∧∀ W,Rd W (.slice ao l.length cap) l->Rd W (.slice a c b) ((l.drop i).take (j-i)):=by
 have d:∃ a c b,sliced ao i j j 1=.slice a c b:=by
  unfold sliced;exact⟨_,_,_,rfl⟩
 obtain⟨a,c,b,d⟩:=d;refine⟨a,c,b,fun W=>?_,fun W h=>?_⟩
 ·rw[run_sliceAt_slice W 53 _ _ _ _ Xf,run_slice_lhm W 53 ao l.length cap Xf .i64 .i64 .i64 (i:Int) (j:Int) (j:Int) (by omega) (by omega) (by omega) (by omega),Zw,Zcd]
  simp only [Int.toNat_natCast];rw[<-d];rfl
 ·rw[<-d]
  exact h.mid i j j e f zL (by omega)
theorem Zif (w:World) (x:Obj):w.heap.size<=(w.alloc x).heap.size:=((Below.refl w.heap.size w).alloc zL x).size
theorem ZmP (w:World) (v:Value):∀ j u,[v][j]?=some u->(w.alloc (.cells #[v] 53)).cell? ((⟨w.heap.size,0,none⟩:Addr).add j)=some u:=fun j u a=>by
 rw[Addr.add_lit,Nat.zero_add,cell_of_row _ w.heap.size j _ 53 (0,0) (heap_alloc_new w _)];rw[<-List.getElem?_toArray] at a;exact a
def ZxD (w:World) (v:Value) (l:List UInt8) (L:List (List UInt8)) (e:Ending) (w':World):Prop:=
 ∃ v' xs,e=.returned v'∧w'.ownsRow w.heap.size 53 1 v' L.length xs∧Zgq v l xs L∧Below w.heap.size w w'
theorem ZjU (v:Value) (l:List UInt8) (w:World) (W:Rd w v l) (ac:l.length<=100000):
 Calls prog 102 #[v] w fun e w'=>ZxD w v l (Xu l) e w':=by
 obtain⟨ao,cap,rfl,Z,Y,-⟩:=W;have n:=ZZ (fun i j=>Zwj ao l cap Z i j)
 have H:Hid (∀ A,A<l.length->Xu (l.drop A)=(l.drop A).take 64::Xu (l.drop (A+64))):=ZZ (fun A h=>Zoi h)
 have x:Hid (Xu l=[]++Xu (l.drop 0)):=ZZ (by simp)
 have I:Hid (∀ A,l.length<=A->Xu (l.drop A)=[]):=ZZ (fun A h=>by rw[List.drop_eq_nil_of_le h,X7])
 have p:Hid (∀ A,l.length<=A+64->(l.drop A).take (l.length-A)=(l.drop A).take 64):=ZZ (fun A h=>by
  rw[take_of_length_le (by rw[length_drop];omega),take_of_length_le (by rw[length_drop];omega)])
 obtain⟨m,O⟩:∃ m,m=Xu l:=⟨_,rfl⟩;rw[<-O] at x ⊢;clear O Y
 go_enter func102,ntmps102
 go_wp2
 go_loopw[3,4] (fun X F wr=>∃ (A:Nat) (P:List (List UInt8)) (xs:List Value),F=.int .i64 (A:Int)∧P.length<=A∧A<=l.length+64∧Hid (wr.ownsRow w.heap.size 53 1 X P.length xs)∧Hid (Zgq (.slice ao l.length cap) l xs P)∧Hid (m=P++Xu (l.drop A))∧Hid (Below w.heap.size w wr)) (fun _ F _=>l.length+64-(intOf F).toNat)
 case atStart=>exact⟨0,[],[],rfl,Nat.le_refl _,by omega,ZZ (World.ownsRow_nil w w.heap.size 53 1),ZZ (Zgq.nil _ _),x,Below.refl _ _⟩
 case round=>
  clear x;obtain⟨A,P,xs,rfl,ad,hA,z,K,B,d⟩:=hrel;by_cases R:A<l.length
  case neg=>
   have ab:¬ (A:Int)<(l.length:Int):=by omega
   have V:Hid (m=P):=ZZ (by rw[B.out,I.o A (by omega),List.append_nil])
   go_wp2;go_ret;rw[V.o];exact⟨_,xs,rfl,z.out,K.out,d.out⟩
  have ae:(A:Int)<(l.length:Int):=by omega
  have M:=ZZ (H.o A R);by_cases h:A+64<=l.length
  ·obtain⟨b,a,c,hcut,f⟩:=n.o A (A+64) (by omega) h
   have N:((A+64:Nat):Int)=(A:Int)+64:=by omega
   have Q:A+64-A=64:=by omega
   rw[N] at hcut;rw[Q] at f;have D:=ZZ f;have aa:(A:Int)+64<=(l.length:Int):=by omega
   have S:min ((A:Int)+64) (l.length:Int)=(A:Int)+64:=by omega
   have T:¬ (l.length:Int)<(A:Int)+64:=by omega
   have y:Hid (w.heap.size<=(wr.alloc (.cells #[.slice b a c] 53)).heap.size):=ZZ (Nat.le_trans d.out.size (Zif wr _));have q:Hid ((wr.alloc (.cells #[.slice b a c] 53)).ownsRow w.heap.size 53 1 _ P.length xs):=ZZ (World.ownsRow.alloc z.out _);have L:=ZZ (ZmP wr (.slice b a c));have G:Hid (∀ u ∈ [Value.slice b a c],u.oneCell'=true):=ZZ (fun u C=>by rw[List.mem_singleton.1 C];rfl)
   have E:P.length+1<=1000000:=by omega
   clear f N Q H n I p h
   go_wp2_with(at_builtin;refine Zal _ rfl _ _ rfl w.heap.size _ P.length xs rfl q.o ⟨wr.heap.size,0,none⟩ 1 1 [.slice b a c] rfl rfl L.o G.o E y.o ?_)
   intro U W1 g k;have J:=ZZ g;have t:=ZZ ((d.out.alloc d.out.size _).trans k);clear g k;go_wp2;go_roundw
   case rel=>exact⟨A+64,P++[(l.drop A).take 64],xs++[.slice b a c],by go_num,by simp;omega,by omega,ZZ (by rw[length_append,length_singleton];exact J.o),ZZ (K.out.snoc rfl D.o),ZZ (by rw[B.out,M.o,append_assoc];rfl),t⟩
   case measure=>simp[intOf];omega
  ·obtain⟨b,a,c,hcut,f⟩:=n.o A l.length (by omega) zL
   rw[p.o A (by omega)] at f
   have D:=ZZ f;have aa:(l.length:Int)<(A:Int)+64:=by omega
   have S:min ((A:Int)+64) (l.length:Int)=(l.length:Int):=by omega
   have T:¬ (A:Int)+64<=(l.length:Int):=by omega
   have y:Hid (w.heap.size<=(wr.alloc (.cells #[.slice b a c] 53)).heap.size):=ZZ (Nat.le_trans d.out.size (Zif wr _));have q:Hid ((wr.alloc (.cells #[.slice b a c] 53)).ownsRow w.heap.size 53 1 _ P.length xs):=ZZ (World.ownsRow.alloc z.out _);have L:=ZZ (ZmP wr (.slice b a c));have G:Hid (∀ u ∈ [Value.slice b a c],u.oneCell'=true):=ZZ (fun u C=>by rw[List.mem_singleton.1 C];rfl)
   have E:P.length+1<=1000000:=by omega
   clear f H n I p h
   go_wp2_with(at_builtin;refine Zal _ rfl _ _ rfl w.heap.size _ P.length xs rfl q.o ⟨wr.heap.size,0,none⟩ 1 1 [.slice b a c] rfl rfl L.o G.o E y.o ?_)
   intro U W1 g k;have J:=ZZ g;have t:=ZZ ((d.out.alloc d.out.size _).trans k);clear g k;go_wp2;go_roundw
   case rel=>exact⟨A+64,P++[(l.drop A).take 64],xs++[.slice b a c],by go_num,by simp;omega,by omega,ZZ (by rw[length_append,length_singleton];exact J.o),ZZ (K.out.snoc rfl D.o),ZZ (by rw[B.out,M.o,append_assoc];rfl),t⟩
   case measure=>simp[intOf];omega
theorem Zjg (i:Int) (v:Value) (l:List UInt8) (w:World) (g:Rd w v l):
 Calls prog 100 #[.int .i64 i,v] w fun e w'=>e=.returned (.agg #[.int .i64 i,.int .i64 (l.length:Int),.int .u32 ((Q2 0 l:Nat):Int)])∧Below w.heap.size w w':=by
 have c:Hid (∀ X,Below w.heap.size w (w.alloc X)):=fun X=>(Below.refl _ _).alloc zL X
 have f:=ZZ (fun W (h:Below w.heap.size w W)=>Zle v l W (g.below h zL))
 obtain⟨ao,cap,rfl,-⟩:=g;generalize Q2 0 l=m at *;obtain⟨M,j⟩:∃ M:Int,M=(m:Int):=⟨_,rfl⟩;rw[<-j] at f ⊢;clear j;have k:Hid (∀ cs,(w.alloc (.cells cs 147)).heap[w.heap.size]?=some (.cells cs 147 (0,0))):=fun cs=>heap_alloc_new w _
 go_enter func100,ntmps100
 go_wp2_with fail
 refine(f.o _ (c.o _)).mono ?_;rintro x b ⟨rfl,d⟩;have p:=ZZ ((c.o _).trans (d.mono (c.o _).size));have a:=(d.block w.heap.size (by simp)).trans (k.o _)
 have n:=cell_of_row b w.heap.size 0 _ _ _ a;have t:=cell_of_row b w.heap.size 1 _ _ _ a;have q:=cell_of_row b w.heap.size 2 _ _ _ a;have u:=frozen_of_row b w.heap.size 0 _ _ a;have z:=frozen_of_row b w.heap.size 1 _ _ a;have y:=frozen_of_row b w.heap.size 2 _ _ a;clear d a;go_wp2;refine bodyPost_ret (v:=.agg #[.int .i64 i,.int .i64 (l.length:Int),.int .u32 M]) (by simp[results,Tryz.results100,go_sem,n,t,q]) rfl ?_
 exact⟨rfl,((p.o.setCell zL _).setCell zL _).setCell zL _⟩
theorem ZmQ:∀ (A B:List Int),Zs (A++B)=Zs A++Zs B
 | [],_=>rfl
 | x::r,B=>by rw[List.cons_append,Zs,ZmQ r B,Zs,append_assoc]
theorem ZfZ:∀ (L:List Int),(∀ x ∈ L,I64 x)->(Zs L).length<=10*L.length
 | [],_=>by simp[Zs]
 | x::r,h=>by
  have b:=ZfZ r (fun y a=>h y (by simp[a]))
  have c:=Zvq (h x (by simp))
  rw[Zs,length_append,List.length_cons];omega
theorem ZrI (L:List Int) (k:Nat) (a:k<L.length):Zs (L.take (k+1))=Zs (L.take k)++Lib.uvarint (Lib.zigzag (L.getD k 0)):=by
 have e:L.take (k+1)=L.take k++[L.getD k 0]:=by
  rw[take_add_one];simp[List.getD,a]
 rw[e,ZmQ];simp[Zs]
def Zum (s:St):List UInt8:=(Lib.uvarint s.kind.toNat++Lib.uvarint (Zbu s))++Lib.uvarint s.L.length
theorem Zun (s:St):Zgz s=Zum s++Zs s.L:=by
 unfold Zgz Zum;simp[append_assoc]
theorem Zwk (a:Bool) (g:Int) (h:0<=g):(if a=true then g+1 else 0)=((Zbu ⟨0,[],a,g⟩:Nat):Int):=by
 unfold Zbu
 cases a
 ·rfl
 ·simp
  omega
theorem ZmR (k:Int) (l:List Int) (a:Bool) (g:Int):Zbu ⟨k,l,a,g⟩=Zbu ⟨0,[],a,g⟩:=rfl
def Zzb (w:World) (s:St) (e:Ending) (w':World):Prop:=
 ∃ v',e=.returned (.tuple #[v',.int .i64 (if X8 s then 0 else 1)])∧Rd w' v' (if X8 s then Zgz s else[])∧Below w.heap.size w w'
theorem Zjh (kind:Int) (ao:Option Addr) (n cap:Nat) (a:Bool) (g:Int) (w:World) (d:0<=g) (f:g<=2):
 Calls prog 190 #[.agg #[.int .i64 kind,.slice ao n cap,.bool a,.int .i64 g]] w fun e w'=>e=.returned (.int .i64 ((Zbu ⟨0,[],a,g⟩:Nat):Int))∧Below w.heap.size w w':=by
 have b:Hid (∀ X,Below w.heap.size w (w.alloc X)):=fun X=>(Below.refl _ _).alloc zL X
 have c:=ZZ (Zwk a g d);generalize Zbu ⟨0,[],a,g⟩=m at *
 cases a
 ·go_enter func190,ntmps190
  go_wp2;go_ret;refine⟨?_,b.o _⟩;rw[<-c.o];rfl
 ·go_enter func190,ntmps190
  go_wp2;go_ret;refine⟨?_,b.o _⟩;rw[<-c.o];rfl
theorem Zig (v:Value) (s:St) (w:World) (hs:StV w v s) (a1:s.L.length<=1000):
 Calls prog 141 #[v] w fun e w'=>Zzb w s e w':=by
 obtain⟨vl,rfl,Y,ac,am⟩:=hs;obtain⟨kind,l,a,g⟩:=s;simp only at Y ac am a1 ⊢;have aa:Hid (∀ W,Below w.heap.size w W->Calls prog 82 #[.agg #[.int .i64 kind,vl,.bool a,.int .i64 g]] W fun e w'=>e=.returned (.bool (decide (X8 ⟨kind,l,a,g⟩)))∧Below W.heap.size W w'):=fun W h=>ZkV _ ⟨kind,l,a,g⟩ W ⟨vl,rfl,Y.below h zL,ac,am⟩
 have q:Hid (∀ X,Below w.heap.size w (w.alloc X)):=fun X=>(Below.refl _ _).alloc zL X
 have bc:=ZZ Y;obtain⟨ao,cap,rfl,-,-,-,hi,aD⟩:=Y;have aV:=ZZ aD;clear aD ac am;unfold Zzb;by_cases b:X8 ⟨kind,l,a,g⟩
 ·simp only [if_pos b]
  have HT:=ZZ (decide_eq_true b);have aX:0<=kind:=b.2.2.2.1;have be:kind<6:=b.2.2.2.2.1;have aW:0<=g:=b.1;have a3:g<=2:=b.2.1;have aZ:=ZpL b;rw[ZmR] at aZ;have HI:=ZZ hi;have u1:=Ji (n:=kind.toNat) (by omega)
  have u2:=Ji (n:=Zbu ⟨0,[],a,g⟩) (by omega)
  have u3:=Ji (n:=l.length) (by omega)
  have O:Hid (∀ (n:Int),0<=n->n<4611686018427387904->∀ W,Calls prog 132 #[.slice none 0 0,.int .i64 n] W fun e w'=>∃ v',e=.returned v'∧Own w' W.heap.size v' (Lib.uvarint n.toNat)∧Below W.heap.size W w'):=fun n G R W=>by
   have h:=ZbA (.slice none 0 0) [] n W (Rd.nil W) (by simp)
   rw[Z7 G R,nil_append] at h;exact h
  have au:=ZZ (O.o kind aX (by omega))
  have ab:=ZZ (O.o ((Zbu ⟨0,[],a,g⟩:Nat):Int) (by omega) (by omega))
  have ad:=ZZ (O.o (l.length:Int) (by omega) (by omega))
  rw[Int.toNat_natCast] at ab ad;have M:=ZZ (fun W=>Zjh kind ao l.length cap a g W aW a3)
  have a0:Hid (∀ x,I64 x->∀ W,Calls prog 142 #[.slice none 0 0,.int .i64 x] W fun e w'=>∃ v',e=.returned v'∧Own w' W.heap.size v' (Lib.uvarint (Lib.zigzag x))∧Below W.heap.size W w'):=fun x Z W=>by
   have h:=Jk (.slice none 0 0) [] x W (Rd.nil W) (by simp) Z.1 Z.2
   rw[nil_append] at h;exact h
  have aE:Hid (Zgz ⟨kind,l,a,g⟩=(Lib.uvarint kind.toNat++(Lib.uvarint (Zbu ⟨0,[],a,g⟩)++Lib.uvarint l.length))++Zs l):=by
   refine ZZ ?_;rw[Zun];unfold Zum;rw[ZmR];simp only [append_assoc]
  have ba:Hid (∀ k,(Zs (l.take k)).length<=10*1000):=fun k=>by
   have R:=ZfZ (l.take k) (fun x Z=>hi x (List.mem_of_mem_take Z))
   have h2:(l.take k).length<=l.length:=by simp;omega
   omega
  have az:Hid (∀ W N T V E,N=W.heap.size->Rd W T (Lib.uvarint kind.toNat)->Rd W V (Lib.uvarint (Zbu ⟨0,[],a,g⟩))->Rd W E (Lib.uvarint l.length)->Calls prog 131 #[.slice (some ⟨N,0,none⟩) 3 3] (W.alloc (.cells #[T,V,E] 53)) fun e w'=>∃ v',e=.returned v'∧Own w' W.heap.size v' (Lib.uvarint kind.toNat++(Lib.uvarint (Zbu ⟨0,[],a,g⟩)++Lib.uvarint l.length))∧Below W.heap.size W w'):=fun W N T V E hN G R h2=>Zug W N hN T V E _ _ _ G R h2 (by omega)
  rw[aE.o]
  have bf:(Lib.uvarint kind.toNat++(Lib.uvarint (Zbu ⟨0,[],a,g⟩)++Lib.uvarint l.length)).length<=30:=by
   simp only [length_append];omega
  clear b hi aE O u1 u2 u3;generalize Zbu ⟨0,[],a,g⟩=m at *;generalize Lib.uvarint kind.toNat=A at *;generalize Lib.uvarint m=B at *;generalize Lib.uvarint l.length=C at *;generalize A++(B++C)=H at *
  go_enter func141,ntmps141
  go_wp2_with fail
  refine(aa.o _ (q.o _)).mono ?_;rintro e W1 ⟨rfl,t⟩;rw[HT.o];have z:Bx W1 w.heap.size _:=(t.block w.heap.size (by simp)).trans (heap_alloc_new w _)
  have av:=ZZ z;have J:=ZZ ((q.o _).trans (t.mono (q.o _).size));obtain⟨p0,-⟩:=z.cell 0;obtain⟨p1,-⟩:=z.cell 1;obtain⟨p2,-⟩:=z.cell 2;obtain⟨p3,-⟩:=z.cell 3;clear t z;go_wp2
  go_region_held(fun w'=>w'.cell? ⟨w.heap.size,0,none⟩=some (.int .i64 kind)∧w'.cell? ⟨w.heap.size,1,none⟩=some (.slice ao l.length cap)∧w'.cell? ⟨w.heap.size,2,none⟩=some (.bool a)∧w'.cell? ⟨w.heap.size,3,none⟩=some (.int .i64 g)) (go_keep)
   (first
    | (go_at_call_of 132 (Value.int .i64 kind);refine(au.o _).mono ?_;rintro e W2 ⟨E,rfl,aq,ag⟩;have j:=av.o.below (((Below.refl _ _).drew).trans ag) zL;have aS:=ZZ j;have al:=ZZ (J.o.trans ((((Below.refl _ _).drew).trans ag).mono J.o.size));obtain⟨a2,c2,rfl,-⟩:=aq.rd;have aI:=ZZ aq.rd;obtain⟨q0,-⟩:=j.cell 0;obtain⟨q1,-⟩:=j.cell 1;obtain⟨q2,-⟩:=j.cell 2;obtain⟨q3,-⟩:=j.cell 3;clear aq ag j)
    | (go_at_call 190;refine(M.o _).mono ?_;rintro e W3 ⟨rfl,Q⟩;have d:=aS.o.below Q zL;have aF:=ZZ d;have ae:=ZZ (al.o.trans (Q.mono al.o.size));have ay:=ZZ (aI.o.below Q zL);obtain⟨r0,-⟩:=d.cell 0;obtain⟨r1,-⟩:=d.cell 1;obtain⟨r2,-⟩:=d.cell 2;obtain⟨r3,-⟩:=d.cell 3;clear Q d)
    | (go_at_call_of 132 (Value.int .i64 (m:Int));refine(ab.o _).mono ?_;rintro e W4 ⟨v4,rfl,ak,K⟩;have p:=aF.o.below K zL;have aQ:=ZZ p;have ai:=ZZ (ae.o.trans (K.mono ae.o.size));have aJ:=ZZ (ay.o.below K zL);obtain⟨a4,c4,rfl,-⟩:=ak.rd;have aC:=ZZ ak.rd;obtain⟨s0,-⟩:=p.cell 0;obtain⟨s1,-⟩:=p.cell 1;obtain⟨s2,-⟩:=p.cell 2;obtain⟨s3,-⟩:=p.cell 3;clear ak K p)
    | (go_at_call_of 132 (Value.int .i64 (l.length:Int));refine(ad.o _).mono ?_;rintro e W5 ⟨v5,rfl,ap,I⟩;have f:=aQ.o.below I zL;have aw:=ZZ f;have U:=ZZ (ai.o.trans (I.mono ai.o.size));have aN:=ZZ (aJ.o.below I zL);have ax:=ZZ (aC.o.below I zL);obtain⟨a5,c5,rfl,-⟩:=ap.rd;have aB:=ZZ ap.rd;obtain⟨t0,-⟩:=f.cell 0;obtain⟨t1,-⟩:=f.cell 1;obtain⟨t2,-⟩:=f.cell 2;obtain⟨t3,-⟩:=f.cell 3;clear ap I f)
    | (go_at_call 131;refine(az.o W5 W5.heap.size _ _ _ rfl aN.o ax.o aB.o).mono ?_;rintro e W6 ⟨v6,rfl,aL,ar⟩;have u:=aw.o.below ar zL;have a6:=ZZ u;have aP:=ZZ (aL.mono U.o.size);have aK:=ZZ (U.o.trans (ar.mono U.o.size));obtain⟨y0,-⟩:=u.cell 0;obtain⟨y1,-⟩:=u.cell 1;obtain⟨y2,-⟩:=u.cell 2;obtain⟨y3,-⟩:=u.cell 3;clear aL ar u))
  clear p0 p1 p2 p3 q0 q1 q2 q3 r0 r1 r2 r3 s0 s1 s2 s3 t0 t1 t2 t3 av aS aF aQ aw J al ae ai U aI ay aJ aN aC ax aB au ab ad M az aa;go_wp2
  go_loopw[4,25] (fun vo i wr=>∃ k:Nat,i=.int .i64 k∧k<=l.length∧Hid (Own wr w.heap.size vo (H++Zs (l.take k)))∧Hid (Below w.heap.size w wr)) (fun _ i _=>l.length-(intOf i).toNat)
  case atStart=>exact⟨0,rfl,Nat.zero_le _,by simpa[Zs] using aP,aK⟩
  case round=>
   clear y0 y1 y2 y3 a6 aP aK;obtain⟨k,rfl,hk,an,S⟩:=hrel;by_cases F:k<l.length
   ·rcases aV.o with G | ⟨c,aM,rfl,hc⟩
    ·rw[G] at F;simp at F
    have bd:wr.cell? ⟨c,aM+k,none⟩=some (.int .i64 (l.getD k 0)):=(S.out.cell (World.block_lt_of_cell? w ⟨c,aM+k,none⟩ (hc k F))).trans (hc k F);have aA:Hid (I64 (l.getD k 0)):=Zvr HI.o k;have aT:=ZZ (a0.o (l.getD k 0) aA.o)
    have bb:Hid ((H++Zs (l.take k)).length+(Lib.uvarint (Lib.zigzag (l.getD k 0))).length<=70368744177664):=by
     refine ZZ ?_;have:=ba.o k;have:=Zvq aA.o;rw[length_append];omega
    have M:Hid ((H++Zs (l.take k))++Lib.uvarint (Lib.zigzag (l.getD k 0))=H++Zs (l.take (k+1))):=by
     refine ZZ ?_;rw[ZrI l k F,append_assoc]
    clear hc;generalize l.getD k 0=y at *;generalize H++Zs (l.take k)=P at *;generalize Lib.uvarint (Lib.zigzag y)=D at *
    go_wp2_with fail
    refine(aT.o _).mono ?_;rintro e W7 ⟨v7,rfl,aH,aj⟩;have aY:=ZZ aH.rd;have a9:=ZZ (an.out.below aj zL);have aG:=ZZ (S.out.trans (aj.mono S.out.size));have a7:=ZZ aG.o.size;clear aH aj
    go_wp2_with(at_builtin;refine Xi _ rfl _ _ rfl w.heap.size _ P rfl a9.o _ D rfl aY.o bb.o a7.o ?_)
    intro v8 W8 af aO;rw[M.o] at af;have a8:=ZZ af;have aU:=ZZ (aG.o.trans aO);clear af aO;go_wp2;go_roundw
    case rel=>exact⟨k+1,by go_num,by omega,a8,aU⟩
    case measure=>simp[intOf];omega
   ·have aR:l.take k=l:=take_of_length_le (by omega)
    rw[aR] at an;clear aR;go_wp2;go_ret2;exact⟨_,rfl,an.out.rd,S.out⟩
 ·simp only [if_neg b]
  have HT:=ZZ (decide_eq_false b);clear b
  go_enter func141,ntmps141
  go_wp2_with fail
  refine(aa.o _ (q.o _)).mono ?_;rintro e W1 ⟨rfl,t⟩;rw[HT.o];have J:=ZZ ((q.o _).trans (t.mono (q.o _).size));clear t;go_wp2;go_ret2;exact⟨_,rfl,Rd.nil _,J.o⟩
def ZxE (i n m:Nat):List UInt8:=115::(Lib.uvarint 3++(Lib.uvarint i++(Lib.uvarint n++Lib.leBytes 4 m)))
theorem Zwl (i:Nat) (l:List UInt8):ZxE i l.length (Q2 0 l)=Zfe i l:=rfl
theorem Zuo (W:World) (N:Nat) (a:N=W.heap.size):Rd (W.alloc (.cells #[.int .u8 115] 5)) (.slice (some ⟨N,0,none⟩) 1 1) [115]:=by
 subst a;refine⟨some ⟨W.heap.size,0,none⟩,1,rfl,Nat.le_refl _,by unfold maxLen;omega,(fun h=>by cases h),.inr ⟨W.heap.size,0,rfl,fun j b=>?_⟩⟩
 have e:j=0:=by simpa using b
 subst e;rw[cell_of_row _ W.heap.size _ _ 5 (0,0) (heap_alloc_new W _)];rfl
theorem ZyA (W:World) (N:Nat) (a:N=W.heap.size):Rd (W.alloc (.cells #[.int .u8 115] 5)).drew (.slice (some ⟨N,0,none⟩) 1 1) [115]:=
 (Zuo W N a).below (((Below.refl _ _)).drew) zL
theorem ZxF (W:World) (N:Nat) (z:N=W.heap.size) (g l i k m:Value) (c b f d a:List UInt8) (v:Rd W g c) (u:Rd W l b) (q:Rd W i f) (x:Rd W k d) (y:Rd W m a) (B:c.length+b.length+f.length+d.length+a.length<=1000000):
 Calls prog 131 #[.slice (some ⟨N,0,none⟩) 5 5] (W.alloc (.cells #[g,l,i,k,m] 53)) fun e w'=>∃ v',e=.returned v'∧Own w' W.heap.size v' (c++(b++(f++(d++a))))∧Below W.heap.size W w':=by
 have w:=RdL.built W N z #[g,l,i,k,m] [c,b,f,d,a] (by simp) (fun j t=>by
  match j,t with
  | 0,_=>exact⟨g,rfl,v⟩
  | 1,_=>exact⟨l,rfl,u⟩
  | 2,_=>exact⟨i,rfl,q⟩
  | 3,_=>exact⟨k,rfl,x⟩
  | 4,_=>exact⟨m,rfl,y⟩)
 refine(Zdf _ _ _ w (by simp;omega) (by simp)).mono ?_
 rintro e w' ⟨v',rfl,n,p⟩;have A:[c,b,f,d,a].flatten=c++(b++(f++(d++a))):=by simp
 rw[A] at n;exact⟨v',rfl,n.mono (by simp),((Below.refl _ _).alloc zL _).trans (p.mono (by simp))⟩
def Bm (w:World) (b:Nat) (x y z:Value):Prop:=w.heap[b]?=some (.cells #[x,y,z] 147 (0,0))
theorem Bm.lt (h:Bm w b x y z):b<w.heap.size:=(Array.getElem?_eq_some_iff.1 h).1
theorem Bm.below {w':World} (h:Bm w b x y z) (a:Below B w w') (c:w.heap.size<=B):Bm w' b x y z:=(a.block b (by have:=h.lt;omega)).trans h
theorem Bm.cells (h:Bm w b x y z):w.cell? ⟨b,0,none⟩=some x∧w.cell? ⟨b,1,none⟩=some y∧w.cell? ⟨b,2,none⟩=some z:=
 ⟨cell_of_row w b 0 _ _ _ h,cell_of_row w b 1 _ _ _ h,cell_of_row w b 2 _ _ _ h⟩
theorem Zwm (i n:Int) (m:Nat) (w:World) (hi:0<=i∧i<4611686018427387904) (hn:0<=n∧n<4611686018427387904) (hm:m<4294967296):
 Calls prog 101 #[.agg #[.int .i64 i,.int .i64 n,.int .u32 (m:Int)]] w fun e w'=>∃ v',e=.returned v'∧Own w' w.heap.size v' (ZxE i.toNat n.toNat m)∧Below w.heap.size w w':=by
 have U:Hid (∀ k W,0<=k->k<4611686018427387904->Calls prog 132 #[.slice none 0 0,.int .i64 k] W fun e w'=>∃ v',e=.returned v'∧Own w' W.heap.size v' (Lib.uvarint k.toNat)∧Below W.heap.size W w'):=ZZ (fun k W h0 h1=>by
  have h:=ZbA (.slice none 0 0) [] k W (Rd.nil W) (by simp)
  rw[Z7 h0 h1,nil_append] at h
  exact h)
 have ak:=ZZ (fun W=>U.o 3 W (by omega) (by omega))
 have ad:=ZZ (fun W=>U.o i W hi.1 hi.2)
 have ae:=ZZ (fun W=>U.o n W hn.1 hn.2)
 have aa:=ZZ (fun W=>Zhy m W hm)
 have q1:(Lib.uvarint (3:Int).toNat).length<=10:=Ji (by decide)
 have q2:(Lib.uvarint i.toNat).length<=10:=Ji (by omega)
 have q3:(Lib.uvarint n.toNat).length<=10:=Ji (by omega)
 have q4:(Lib.leBytes 4 m).length<=10:=by rw[Lib.leBytes_length];decide
 have HE:Hid (ZxE i.toNat n.toNat m=[115]++(Lib.uvarint (3:Int).toNat++(Lib.uvarint i.toNat++(Lib.uvarint n.toNat++Lib.leBytes 4 m)))):=ZZ rfl;rw[HE.o];have al:=ZZ (fun W N v0 v1 Q v3 v4 hN h0 h1 h2 h3 h4=>ZxF W N hN v0 v1 Q v3 v4 [115] (Lib.uvarint (3:Int).toNat) (Lib.uvarint i.toNat) (Lib.uvarint n.toNat) (Lib.leBytes 4 m) h0 h1 h2 h3 h4 (by simp only [length_singleton];omega))
 generalize Lib.uvarint (3:Int).toNat=L1 at *;generalize Lib.uvarint i.toNat=L2 at *;generalize Lib.uvarint n.toNat=L3 at *;generalize Lib.leBytes 4 m=L4 at *;generalize [115]++(L1++(L2++(L3++L4)))=LL at *;obtain⟨M,hM⟩:∃ M:Int,M=(m:Int):=⟨_,rfl⟩;rw[<-hM] at aa ⊢;clear hM HE U q1 q2 q3 q4 hi hn hm;obtain⟨a,Y⟩:∃ a,a=w.alloc (.cells #[.int .i64 i,.int .i64 n,.int .u32 M] 147):=⟨_,rfl⟩;have Z:Hid (Below w.heap.size w a):=ZZ (by rw[Y];exact(Below.refl _ _).alloc zL _)
 have ar:Hid (Bm a w.heap.size (.int .i64 i) (.int .i64 n) (.int .u32 M)):=ZZ (by rw[Y];exact heap_alloc_new w _)
 have l:Hid (∀ W,Below a.heap.size a W->W.cell? ⟨w.heap.size,0,none⟩=some (.int .i64 i)∧W.cell? ⟨w.heap.size,1,none⟩=some (.int .i64 n)∧W.cell? ⟨w.heap.size,2,none⟩=some (.int .u32 M)):=ZZ (fun W h=>(ar.o.below h zL).cells)
 have C:Hid (∀ W X,Below a.heap.size a W->Below a.heap.size a (W.alloc X)):=ZZ (fun W X h=>h.alloc h.size X)
 have au:Hid (∀ W,Below a.heap.size a W->Below a.heap.size a W.drew):=ZZ (fun W h=>h.drew)
 have ac:Hid (Below a.heap.size a a.drew):=ZZ ((Below.refl _ _).drew);have af:Hid (Below a.heap.size a (a.alloc (.cells #[.int .u8 115] 5)).drew):=ZZ (((Below.refl _ _).alloc zL _).drew)
 go_enter func101,ntmps101
 go_upto_region 1 with fail
 rw[<-Y];clear Y;have E:Hid (∀ args w,(callFunc 132 args).run prog w=.ok (.enter 132 args) w):=ZZ (enters_of func132 (by kernel_rfl) rfl)
 have ag:Hid (∀ args w,(callFunc 135 args).run prog w=.ok (.enter 135 args) w):=ZZ (enters_of func135 (by kernel_rfl) rfl)
 have ap:Hid (∀ args w,(callFunc 131 args).run prog w=.ok (.enter 131 args) w):=ZZ (enters_of func131 (by kernel_rfl) rfl)
 go_region_held2(fun w'=>w'.cell? ⟨w.heap.size,0,none⟩=some (.int .i64 i)∧w'.cell? ⟨w.heap.size,1,none⟩=some (.int .i64 n)∧w'.cell? ⟨w.heap.size,2,none⟩=some (.int .u32 M))
  (first | (with_reducible exact l.o _ ac.o) | (with_reducible exact l.o _ af.o) | (with_reducible exact l.o _ ai) | (with_reducible exact l.o _ p) | (with_reducible exact l.o _ y) | (with_reducible exact l.o _ x) | (with_reducible exact l.o _ D) | (with_reducible exact l.o _ (C.o _ _ p)) | (with_reducible exact l.o _ (C.o _ _ y)) | (with_reducible exact l.o _ (C.o _ _ x)) | (with_reducible exact l.o _ (C.o _ _ D)) | (with_reducible exact l.o _ (C.o _ _ (C.o _ _ p))))
  (first
   | ((with_reducible refine Yj 132 _ _ rfl rfl #[.slice none 0 0,.int .i64 3] (by simp[Act.eval]) E.o (ak.o a.drew) ?_);rintro v1 j ⟨F,G⟩;have D:Below a.heap.size a j:=ac.o.trans (G.mono ac.o.size);obtain⟨a1,c1,c,-⟩:=F.rd;subst c;have S:=ZZ F.rd;clear F G)
   | ((with_reducible refine Yj 132 _ _ rfl rfl #[.slice none 0 0,.int .i64 3] (by simp[Act.eval]) E.o (ak.o (a.alloc (.cells #[.int .u8 115] 5)).drew) ?_);rintro v1 j ⟨F,G⟩;have D:Below a.heap.size a j:=af.o.trans (G.mono af.o.size);have aq:=ZZ ((ZyA a _ rfl).below G zL);obtain⟨a1,c1,c,-⟩:=F.rd;subst c;have S:=ZZ F.rd;clear F G)
   | (have u:=aq.o;(with_reducible refine Yj 132 _ _ rfl rfl #[.slice none 0 0,.int .i64 i] (by simp[Act.eval]) E.o (ad.o j) ?_);rintro Q d ⟨v,B⟩;have b:Below j.heap.size j d:=B;have x:Below a.heap.size a d:=D.trans (b.mono D.size);have am:=ZZ (u.below b zL);clear u;have K:=ZZ (S.o.below b zL);clear b;obtain⟨a2,c2,c,-⟩:=v.rd;subst c;have J:=ZZ v.rd;clear v B)
   | ((with_reducible refine Yj 132 _ _ rfl rfl #[.slice none 0 0,.int .i64 i] (by simp[Act.eval]) E.o (ad.o j) ?_);rintro Q d ⟨v,B⟩;have b:Below j.heap.size j d:=B;have x:Below a.heap.size a d:=D.trans (b.mono D.size);have K:=ZZ (S.o.below b zL);clear b;obtain⟨a2,c2,c,-⟩:=v.rd;subst c;have J:=ZZ v.rd;clear v B)
   | ((with_reducible refine Yj 132 _ _ rfl rfl #[.slice none 0 0,.int .i64 i] (by simp[Act.eval]) E.o (ad.o (j.alloc (.cells #[.int .u8 115] 5))) ?_);rintro Q d ⟨v,B⟩;have b:Below j.heap.size j d:=((Below.refl _ _).alloc zL _).trans (B.mono (by simp));have x:Below a.heap.size a d:=D.trans (b.mono D.size);have am:=ZZ ((Zuo j _ rfl).below B zL);have K:=ZZ (S.o.below b zL);clear b;obtain⟨a2,c2,c,-⟩:=v.rd;subst c;have J:=ZZ v.rd;clear v B)
   | (have u:=am.o;(with_reducible refine Yj 132 _ _ rfl rfl #[.slice none 0 0,.int .i64 n] (by simp[Act.eval]) E.o (ae.o d) ?_);rintro v3 f ⟨t,A⟩;have b:Below d.heap.size d f:=A;have y:Below a.heap.size a f:=x.trans (b.mono x.size);have ao:=ZZ (u.below b zL);clear u;have H:=ZZ (K.o.below b zL);have P:=ZZ (J.o.below b zL);clear b;obtain⟨a3,c3,c,-⟩:=t.rd;subst c;have O:=ZZ t.rd;clear t A)
   | ((with_reducible refine Yj 132 _ _ rfl rfl #[.slice none 0 0,.int .i64 n] (by simp[Act.eval]) E.o (ae.o d) ?_);rintro v3 f ⟨t,A⟩;have b:Below d.heap.size d f:=A;have y:Below a.heap.size a f:=x.trans (b.mono x.size);have H:=ZZ (K.o.below b zL);have P:=ZZ (J.o.below b zL);clear b;obtain⟨a3,c3,c,-⟩:=t.rd;subst c;have O:=ZZ t.rd;clear t A)
   | ((with_reducible refine Yj 132 _ _ rfl rfl #[.slice none 0 0,.int .i64 n] (by simp[Act.eval]) E.o (ae.o (d.alloc (.cells #[.int .u8 115] 5))) ?_);rintro v3 f ⟨t,A⟩;have b:Below d.heap.size d f:=((Below.refl _ _).alloc zL _).trans (A.mono (by simp));have y:Below a.heap.size a f:=x.trans (b.mono x.size);have ao:=ZZ ((Zuo d _ rfl).below A zL);have H:=ZZ (K.o.below b zL);have P:=ZZ (J.o.below b zL);clear b;obtain⟨a3,c3,c,-⟩:=t.rd;subst c;have O:=ZZ t.rd;clear t A)
   | (have u:=ao.o;(with_reducible refine Yj 135 _ _ rfl rfl #[.int .u32 M] (by simp[Act.eval]) ag.o (aa.o f) ?_);rintro v4 g ⟨q,z⟩;have b:Below f.heap.size f g:=z;have p:Below a.heap.size a g:=y.trans (b.mono y.size);have aj:=ZZ (u.below b zL);clear u;have ab:=ZZ (H.o.below b zL);have T:=ZZ (P.o.below b zL);have R:=ZZ (O.o.below b zL);clear b;obtain⟨a4,c4,c,-⟩:=q.rd;subst c;have V:=ZZ q.rd;clear q z)
   | ((with_reducible refine Yj 135 _ _ rfl rfl #[.int .u32 M] (by simp[Act.eval]) ag.o (aa.o f) ?_);rintro v4 g ⟨q,z⟩;have b:Below f.heap.size f g:=z;have p:Below a.heap.size a g:=y.trans (b.mono y.size);have ab:=ZZ (H.o.below b zL);have T:=ZZ (P.o.below b zL);have R:=ZZ (O.o.below b zL);clear b;obtain⟨a4,c4,c,-⟩:=q.rd;subst c;have V:=ZZ q.rd;clear q z)
   | ((with_reducible refine Yj 135 _ _ rfl rfl #[.int .u32 M] (by simp[Act.eval]) ag.o (aa.o (f.alloc (.cells #[.int .u8 115] 5))) ?_);rintro v4 g ⟨q,z⟩;have b:Below f.heap.size f g:=((Below.refl _ _).alloc zL _).trans (z.mono (by simp));have p:Below a.heap.size a g:=y.trans (b.mono y.size);have aj:=ZZ ((Zuo f _ rfl).below z zL);have ab:=ZZ (H.o.below b zL);have T:=ZZ (P.o.below b zL);have R:=ZZ (O.o.below b zL);clear b;obtain⟨a4,c4,c,-⟩:=q.rd;subst c;have V:=ZZ q.rd;clear q z)
   | (have u:=aj.o;(with_reducible refine Yj 131 _ _ rfl rfl #[.slice (some ⟨g.heap.size,0,none⟩) 5 5] (by simp[Act.eval]) ap.o (al.o g g.heap.size _ _ _ _ _ rfl u ab.o T.o R.o V.o) ?_);rintro v5 W5 ⟨L,I⟩;have ai:Below a.heap.size a W5:=p.trans (I.mono p.size);have an:=ZZ (L.mono (Nat.le_trans Z.o.size p.size));clear L I u)
   | (refine Yj 131 _ _ rfl rfl #[.slice (some ⟨g.heap.size+1,0,none⟩) 5 5] (by simp[Act.eval]) ap.o (al.o (g.alloc (.cells #[.int .u8 115] 5)) (g.heap.size+1) _ _ _ _ _ (by simp) (Zuo g _ rfl) (ab.o.below ((Below.refl _ _).alloc zL _) zL) (T.o.below ((Below.refl _ _).alloc zL _) zL) (R.o.below ((Below.refl _ _).alloc zL _) zL) (V.o.below ((Below.refl _ _).alloc zL _) zL)) ?_;rintro v5 W5 ⟨L,I⟩;have ai:Below a.heap.size a W5:=(C.o _ _ p).trans (I.mono (C.o _ _ p).size);have an:=ZZ (L.mono (Nat.le_trans Z.o.size (C.o _ _ p).size));clear L I))
 all_goals
  go_wp2;go_ret;exact⟨_,rfl,an.o,Z.o.trans (ai.mono Z.o.size)⟩
theorem ZoK (t:List Ent) (q:Nat) (a:q<t.length):Yz (t.take (q+1))=Yz (t.take q)++ZvC (t.getD q Q8):=by
 have b:t.take (q+1)=t.take q++[t.getD q Q8]:=by
  rw[take_add_one,List.getElem?_eq_getElem a];simp[List.getD,a]
 rw[b];unfold Yz;rw[List.flatMap_append];simp
theorem Zlf (t:List Ent) (q:Nat):(Yz (t.take q)).length<=(Yz t).length:=by
 have h:Yz t=Yz (t.take q)++Yz (t.drop q):=by
  unfold Yz;rw[<-List.flatMap_append,List.take_append_drop]
 rw[h,length_append];omega
theorem ZoL (v:Value) (s:Qv) (w:World) (hs:SnV w v s) (i:Zdk s):
 Calls prog 99 #[v] w fun e w'=>∃ v',e=.returned v'∧Own w' w.heap.size v' (Xt s)∧Below w.heap.size w w':=by
 obtain⟨vl,vt,rfl,hl,B,C,ht,hi⟩:=hs;have aZ:=Zhb i.2.1;have bq:=ZlW i.2.2;have af:=ZbM i;have bd:=Zti i.2.1;have R:=ZZ (fun W (h:Below w.heap.size w W)=>Zig (.agg #[.int .i64 s.st.kind,vl,.bool s.st.shut,.int .i64 s.st.eng]) s.st W ⟨vl,rfl,hl.below h zL,B,C⟩ (by omega))
 unfold Zzb at R;rw[if_pos i.2.1,if_pos i.2.1] at R;have aW:Hid (∀ q,q<s.tab.length->ZbZ (s.tab.getD q Q8)):=ZZ (fun q hq=>(i.2.2 q hq).1)
 have E:Hid (∀ b l k W,Rd W b l->l.length<=10000->0<=k->k<4611686018427387904->Calls prog 132 #[b,.int .i64 k] W fun e w'=>∃ v',e=.returned v'∧Own w' W.heap.size v' (l++Lib.uvarint k.toNat)∧Below W.heap.size W w'):=ZZ (fun b l k W h hl z m=>by
  have h:=ZbA b l k W h (by omega)
  rw[Z7 z m] at h
  exact h)
 have aQ:Hid (∀ b l k W,Rd W b l->l.length<=10000->I64 k->Calls prog 142 #[b,.int .i64 k] W fun e w'=>∃ v',e=.returned v'∧Own w' W.heap.size v' (l++Lib.uvarint (Lib.zigzag k))∧Below W.heap.size W w'):=ZZ (fun b l k W h hl B=>Jk b l k W h (by omega) B.1 B.2)
 have aC:Hid (∀ q,q<s.tab.length->Yz (s.tab.take (q+1))=Yz (s.tab.take q)++ZvC (s.tab.getD q Q8)):=ZZ (fun q hq=>ZoK _ q hq)
 have aH:Hid (∀ q,(Yz (s.tab.take q)).length<=(Yz s.tab).length):=ZZ (fun q=>Zlf _ q)
 have HW:Hid (Xt s=(Lib.uvarint (Zgz s.st).length++(Zgz s.st++Lib.uvarint s.tab.length))++Yz s.tab):=ZZ (by
  unfold Xt Zyk
  simp only [append_assoc])
 have aI:Hid ((Lib.uvarint (Zgz s.st).length++(Zgz s.st++Lib.uvarint s.tab.length)).length+(Yz s.tab).length<=5000):=ZZ (by
  rw[HW.o,length_append] at af
  exact af)
 rw[HW.o];have u1:(Lib.uvarint (Zgz s.st).length).length<=10:=Ji (by omega)
 have u3:(Lib.uvarint s.tab.length).length<=10:=Ji (by omega)
 have aE:Hid (∀ W,Calls prog 132 #[.slice none 0 0,.int .i64 ((Zgz s.st).length:Int)] W fun e w'=>∃ v',e=.returned v'∧Own w' W.heap.size v' (Lib.uvarint (Zgz s.st).length)∧Below W.heap.size W w'):=ZZ (fun W=>by
  have h:=E.o (.slice none 0 0) [] ((Zgz s.st).length:Int) W (Rd.nil W) (by simp) (by omega) (by omega)
  rw[nil_append,Int.toNat_natCast] at h
  exact h)
 have G:Hid (∀ W,Calls prog 132 #[.slice none 0 0,.int .i64 (s.tab.length:Int)] W fun e w'=>∃ v',e=.returned v'∧Own w' W.heap.size v' (Lib.uvarint s.tab.length)∧Below W.heap.size W w'):=ZZ (fun W=>by
  have h:=E.o (.slice none 0 0) [] (s.tab.length:Int) W (Rd.nil W) (by simp) (by omega) (by omega)
  rw[nil_append,Int.toNat_natCast] at h
  exact h)
 have aG:Hid (∀ W N V b x,N=W.heap.size->Rd W V (Lib.uvarint (Zgz s.st).length)->Rd W b (Zgz s.st)->Rd W x (Lib.uvarint s.tab.length)->Calls prog 131 #[.slice (some ⟨N,0,none⟩) 3 3] (W.alloc (.cells #[V,b,x] 53)) fun e w'=>∃ v',e=.returned v'∧Own w' W.heap.size v' (Lib.uvarint (Zgz s.st).length++(Zgz s.st++Lib.uvarint s.tab.length))∧Below W.heap.size W w'):=ZZ (fun W N V b x hN z m J=>Zug W N hN V b x _ _ _ z m J (by omega))
 obtain⟨Z,tc,a5,-,-,-,-,aP⟩:=ht;subst a5;have aB:=ZZ aP;obtain⟨la,lc,bb,-⟩:=hl;subst bb;obtain⟨idx,⟨kind,L,Q,I⟩,d⟩:=s
 dsimp only at *
 clear B C hi i aZ af bd u1 u3 HW aP;have bx:(d.length:Int)<=65:=by omega
 clear bq;generalize Zgz ⟨kind,L,Q,I⟩=ES at *;generalize Lib.uvarint ES.length=U1 at *;generalize Lib.uvarint d.length=U3 at *;generalize U1++(ES++U3)=H at *;obtain⟨Y,U⟩:∃ Y,Y=w.alloc (.cells #[.int .i64 idx,.int .i64 kind,.slice la L.length lc,.bool Q,.int .i64 I,.slice Z d.length tc] 41):=⟨_,rfl⟩;have aa:Hid (Below w.heap.size w Y):=ZZ (by rw[U];exact(Below.refl _ _).alloc zL _)
 have u:Hid (Bn Y w.heap.size #[.int .i64 idx,.int .i64 kind,.slice la L.length lc,.bool Q,.int .i64 I,.slice Z d.length tc]):=ZZ (by rw[U];exact heap_alloc_new w _)
 obtain⟨p1,-⟩:=u.o.cell 1;obtain⟨p2,-⟩:=u.o.cell 2;obtain⟨p3,-⟩:=u.o.cell 3;obtain⟨p4,-⟩:=u.o.cell 4
 go_enter func99,ntmps99
 go_upto_region 1 with fail
 rw[<-U];clear U
 go_wp2_with fail
 refine(R.o _ aa.o).mono ?_;rintro e W1 ⟨b,rfl,aJ,aw⟩;have aj:=ZZ (u.o.below aw zL);have ar:=ZZ (aa.o.trans (aw.mono aa.o.size));have aD:=ZZ aJ;obtain⟨a1,X,bk,-⟩:=aJ;subst bk;obtain⟨q5,-⟩:=aj.o.cell 5;clear aw R u aa p1 p2 p3 p4
 go_upto_region 2 with fail
 go_cut[5] (fun vo wc=>Hid (Own wc w.heap.size vo H)∧Hid (Bn wc w.heap.size #[.int .i64 idx,.int .i64 kind,.slice la L.length lc,.bool Q,.int .i64 I,.slice Z d.length tc])∧Hid (Below w.heap.size w wc))
 case first=>
  go_region_held(fun w'=>w'.cell? ⟨w.heap.size,5,none⟩=some (.slice Z d.length tc)) (go_keep)
   (first
    | (go_at_call_of 132 (Value.int .i64 (ES.length:Int));refine(aE.o _).mono ?_;rintro e W2 ⟨x,rfl,aA,aL⟩;have T:Below W1.heap.size W1 W2:=((Below.refl _ _).drew).trans aL;have al:=aj.o.below T zL;have br:=ZZ al;have aN:=ZZ (ar.o.trans (T.mono ar.o.size));have a0:=ZZ (aD.o.below T zL);obtain⟨a2,S,rfl,-⟩:=aA.rd;have bj:=ZZ aA.rd;obtain⟨r5,-⟩:=al.cell 5;clear aA aL al T)
    | (go_at_call_of 132 (Value.int .i64 (d.length:Int));refine(G.o _).mono ?_;rintro e W3 ⟨v3,rfl,au,y⟩;have ai:=br.o.below y zL;have bc:=ZZ ai;have ak:=ZZ (aN.o.trans (y.mono aN.o.size));have bl:=ZZ (a0.o.below y zL);have a4:=ZZ (bj.o.below y zL);obtain⟨a3,c3,rfl,-⟩:=au.rd;have bm:=ZZ au.rd;obtain⟨s5,-⟩:=ai.cell 5;clear au y ai)
    | (go_at_call 131;refine(aG.o W3 W3.heap.size _ _ _ rfl a4.o bl.o bm.o).mono ?_;rintro e W4 ⟨v4,rfl,aM,ae⟩;have av:=bc.o.below ae zL;have bo:=ZZ av;have a8:=ZZ (ak.o.trans (ae.mono ak.o.size));have ba:=ZZ (aM.mono ak.o.size);obtain⟨t5,-⟩:=av.cell 5;clear aM ae av))
  all_goals
   go_wp2_with fail
   go_meet
   exact⟨ba,bo,a8⟩
 case rest=>
  obtain⟨WC,rfl⟩:∃ W,W=wc:=⟨_,rfl⟩;obtain⟨HO,HX,HB⟩:=hcut;obtain⟨be,-⟩:=HX.o.cell 5;clear aj ar aD q5 aE G aG;go_wp2
  go_loopw[5,27] (fun vo vi wr=>∃ q:Nat,vi=.int .i64 (q:Int)∧q<=d.length∧Hid (Own wr w.heap.size vo (H++Yz (d.take q)))∧Hid (Below w.heap.size w wr)) (fun _ vi _=>d.length-(intOf vi).toNat)
  case atStart=>exact⟨0,rfl,Nat.zero_le _,by simpa[Yz] using HO,HB⟩
  case round=>
   clear HO HX HB be;obtain⟨q,rfl,hq,O,D⟩:=hrel;by_cases p:q<d.length
   case neg=>
    obtain rfl:q=d.length:=by omega
    rw[take_length] at O;go_wp2;go_ret;exact⟨_,rfl,O.out,D.out⟩
   have bu:(q:Int)<(d.length:Int):=by omega
   rcases aB.o with z | ⟨c,bw,rfl,hc⟩
   ·rw[z] at p;simp at p
   obtain⟨c0,X,S⟩:=(hc q p).keep (D.out.block c (hc q p).lt);have ay:=ZZ (aW.o q p);have ab:=ZZ (aC.o q p)
   have ad:Hid ((H++Yz (d.take q)).length<=5000):=ZZ (by
    have m:=aH.o q;have J:=aI.o;rw[length_append]
    omega)
   obtain⟨e,C⟩:∃ e,e=d.getD q Q8:=⟨_,rfl⟩;rw[<-C] at c0 X S ay ab;clear C hc aW aC aH aB aI;obtain⟨f,g,n⟩:=e;have aR:Hid (ZvC ⟨f,g,n⟩=Lib.uvarint f.toNat++(Lib.uvarint g.toNat++Lib.uvarint (Lib.zigzag n))):=ZZ rfl;rw[aR.o,<-append_assoc] at ab
   have aX:Hid (H++Yz (d.take (q+1))=(((H++Yz (d.take q))++Lib.uvarint f.toNat)++Lib.uvarint g.toNat)++Lib.uvarint (Lib.zigzag n)):=ZZ (by
    rw[ab.o]
    simp only [append_assoc])
   have j:Hid ((0<=f∧f<4611686018427387904)∧(0<=g∧g<4611686018427387904)∧I64 n):=ZZ (by
    obtain⟨m,J,h3,h4,h5,h6⟩:=ay.o
    dsimp only at m J h3 h4 h5 h6
    exact⟨⟨m,by omega⟩,⟨h3,h4⟩,⟨by omega,by omega⟩⟩)
   have u1:(Lib.uvarint f.toNat).length<=10:=Ji (by have:=j.o;omega)
   have u2:(Lib.uvarint g.toNat).length<=10:=Ji (by have:=j.o;omega)
   dsimp only at c0 X S
   generalize H++Yz (d.take q)=P at *;have bi:=ZZ (fun b W h=>E.o b P f W h (by have:=ad.o;omega) j.o.1.1 j.o.1.2)
   have bf:=ZZ (fun b W h=>E.o b (P++Lib.uvarint f.toNat) g W h (by have:=ad.o;rw[length_append];omega) j.o.2.1.1 j.o.2.1.2)
   have an:=ZZ (fun b W h=>aQ.o b ((P++Lib.uvarint f.toNat)++Lib.uvarint g.toNat) n W h (by have:=ad.o;rw[length_append,length_append];omega) j.o.2.2)
   rw[<-aX.o] at an;clear E aQ ab aR aX ad u1 u2 j ay;generalize P++Lib.uvarint f.toNat=P1 at *;generalize P1++Lib.uvarint g.toNat=P2 at *;obtain⟨P3,ag⟩:∃ P3,P3=H++Yz (d.take (q+1)):=⟨_,rfl⟩;rw[<-ag] at an;have G:=ZZ ag;clear ag
   go_upto_region 6 with fail
   obtain⟨t,K⟩:∃ t,t=wr.alloc (.cells #[.int .i64 f,.int .i64 g,.int .i64 n] 85):=⟨_,rfl⟩;have az:Hid (Below wr.heap.size wr t):=ZZ (by rw[K];exact(Below.refl _ _).alloc zL _)
   have M:Hid (Be t wr.heap.size #[.int .i64 f,.int .i64 g,.int .i64 n]):=ZZ (by rw[K];exact heap_alloc_new wr _)
   rw[<-K];clear K c0 X S;obtain⟨F,aV⟩:∃ F,F=wr.heap.size:=⟨_,rfl⟩;rw[<-aV] at M ⊢;clear aV;have aO:=ZZ (O.out.rd.below az.o zL);have aF:=ZZ (D.out.trans (az.o.mono D.out.size));obtain⟨va,vc,bp⟩:∃ a c,u5=.slice a P.length c:=by obtain⟨a,c,h,-⟩:=aO.o;exact⟨a,c,h⟩
   subst bp;obtain⟨x0,-⟩:=M.o.cell 0;obtain⟨x1,-⟩:=M.o.cell 1;clear O D az
   go_region_held(fun w'=>w'.cell? ⟨F,0,none⟩=some (.int .i64 f)∧w'.cell? ⟨F,1,none⟩=some (.int .i64 g)) (go_keep)
    (first
     | (go_at_call_of 132 (Value.int .i64 f);refine(bi.o _ _ (aO.o.below ((Below.refl _ _).drew) zL)).mono ?_;rintro e W6 ⟨v6,rfl,ax,aU⟩;have ap:Below t.heap.size t W6:=((Below.refl _ _).drew).trans aU;have ac:=M.o.below ap zL;have aY:=ZZ ac;have aS:=ZZ (aF.o.trans (ap.mono aF.o.size));obtain⟨a6,c6,rfl,-⟩:=ax.rd;have bn:=ZZ ax.rd;obtain⟨y0,-⟩:=ac.cell 0;obtain⟨y1,-⟩:=ac.cell 1;clear ax aU ac ap)
     | (go_at_call_of 132 (Value.int .i64 g);refine(bf.o _ _ bn.o).mono ?_;rintro e W7 ⟨v7,rfl,aq,am⟩;have A:=aY.o.below am zL;have bv:=ZZ A;have ao:=ZZ (aS.o.trans (am.mono aS.o.size));obtain⟨a7,c7,rfl,-⟩:=aq.rd;have bg:=ZZ aq.rd;obtain⟨z0,-⟩:=A.cell 0;obtain⟨z1,-⟩:=A.cell 1;obtain⟨z2,-⟩:=A.cell 2;clear aq am A))
   all_goals
    go_wp2_with fail
    refine(an.o _ _ bg.o).mono ?_;rintro e W8 ⟨v8,rfl,aK,aT⟩;have a9:=ZZ (ao.o.trans (aT.mono ao.o.size));have bt:=ZZ (aK.mono ao.o.size);clear aK aT;go_wp2;go_roundw
    case rel=>exact⟨q+1,by go_num,by omega,ZZ (by rw[<-G.o];exact bt.o),a9⟩
    case measure=>simp[intOf];omega
theorem Zup (F:Value) (a:St) (E:Value) (b:St) (w:World) (K:StV w F a) (H:StV w E b):
 Calls prog 45 #[F,E] w fun e w'=>e=.returned (.bool (decide (ZlI a b)))∧Below w.heap.size w w':=by
 obtain⟨C,rfl,v,-,-⟩:=K;obtain⟨B,rfl,t,-,-⟩:=H;obtain⟨n,u,q,k⟩:=a;obtain⟨m,z,l,p⟩:=b;simp only at v t ⊢;have M:Hid (∀ W,Below w.heap.size w W->Calls prog 89 #[C,B] W fun e w'=>e=.returned (.bool (decide (u=z)))∧Below W.heap.size W w'):=fun W h=>Zrq C u B z W (v.below h zL) (t.below h zL)
 have g:Hid (∀ x y,Below w.heap.size w ((w.alloc x).alloc y)):=fun x y=>((Below.refl _ _).alloc zL x).alloc (by simp) y
 obtain⟨R,A⟩:∃ R,R=decide (ZlI ⟨n,u,q,k⟩ ⟨m,z,l,p⟩):=⟨_,rfl⟩;rw[<-A];have j:=Qc A;clear A v t;by_cases d:n=m
 ·have G:(n == m)=true:=beq_iff_eq.2 d
  have J:=Qc d;clear d;by_cases c:q=l
  ·have P:(q == l)=true:=beq_iff_eq.2 c
   have N:=Qc c;clear c;by_cases f:k=p
   ·have L:(k == p)=true:=beq_iff_eq.2 f
    have O:=Qc f;clear f
    go_enter func45,ntmps45
    go_wp2_with fail
    refine(M.o _ (g.o _ _)).mono ?_;rintro e Q ⟨rfl,D⟩;have I:=Qc ((g.o _ _).trans (D.mono (g.o _ _).size));clear D;go_wp2;go_ret;refine⟨Yk ?_,I.o⟩;rw[j.o];exact decide_eq_decide.2 ⟨fun h=>⟨J.o,N.o,O.o,h⟩,fun h=>h.2.2.2⟩
   ·have L:(k == p)=false:=beq_eq_false_iff_ne.2 f
    have i:Hid (R=false):=j.o.trans (decide_eq_false fun h=>f h.2.2.1)
    clear f
    go_enter func45,ntmps45
    go_wp2;go_ret;exact⟨Yk i.o.symm,g.o _ _⟩
  ·have P:(q == l)=false:=beq_eq_false_iff_ne.2 c
   have i:Hid (R=false):=j.o.trans (decide_eq_false fun h=>c h.2.1)
   clear c
   go_enter func45,ntmps45
   go_wp2;go_ret;exact⟨Yk i.o.symm,g.o _ _⟩
 ·have G:(n == m)=false:=beq_eq_false_iff_ne.2 d
  have i:Hid (R=false):=j.o.trans (decide_eq_false fun h=>d h.1)
  clear d
  go_enter func45,ntmps45
  go_wp2;go_ret;exact⟨Yk i.o.symm,g.o _ _⟩
theorem ZmS (e:Ent) (w:World):
 Calls prog 189 #[Zrm e] w fun x w'=>x=.returned (.bool (decide (ZbZ e)))∧Below w.heap.size w w':=by
 have a:=ZZ (fun W=>ZhI ⟨0,e.proc,e.seq,⟨0,0,0⟩,e.resp⟩ W)
 have d:decide (Qw ⟨0,e.proc,e.seq,⟨0,0,0⟩,e.resp⟩)=decide (ZbZ e):=decide_eq_decide.2 (ZtC e);rw[d] at a;clear d;generalize decide (ZbZ e)=D at *;obtain⟨p,s,r⟩:=e;unfold Zrm Zrr at *
 dsimp only at *
 have c:Hid (∀ X,Below w.heap.size w (w.alloc X)):=fun X=>(Below.refl _ _).alloc zL X
 go_enter func189,ntmps189
 go_wp2_with fail
 refine(a.o _).mono ?_;rintro x g ⟨rfl,b⟩;have f:=ZZ ((c.o _).trans (b.mono (c.o _).size));clear b;go_wp2;go_ret;exact⟨rfl,f.o⟩
theorem ZmT (v:Value) (t:List Ent) (w:World) (hr:RdE w v t):
 Calls prog 140 #[v] w fun x w'=>x=.returned (.bool (decide (Zel t)))∧Below w.heap.size w w':=by
 obtain⟨va,vc,rfl,ab,M,-,Y,G⟩:=hr;have K:=ZZ G;have af:(t.length:Int)<=9223372036854775807:=by unfold maxLen at M;omega
 obtain⟨D,m⟩:∃ D,D=decide (Zel t):=⟨_,rfl⟩;rw[<-m];have N:Hid (Jh t t.length->D=true):=ZZ (fun h=>by rw[m];exact decide_eq_true h)
 have H:Hid (∀ k,k<t.length->¬ Jh t (k+1)->D=false):=ZZ (fun k L h=>by rw[m];exact decide_eq_false (fun q=>h (Jh.mono q L)))
 have C:=ZZ (fun e W=>ZmS e W)
 have O:Hid (ZhA t 0=0):=ZZ rfl;have R:Hid (∀ k,ZhA t (k+1)=(t.getD k Q8).proc+1):=ZZ (fun k=>rfl)
 have I:Hid (∀ k,Jh t (k+1)↔Jh t k∧ZbZ (t.getD k Q8)∧ZhA t k<=(t.getD k Q8).proc):=ZZ (fun k=>Zoj)
 clear m M ab G Y
 go_enter func140,ntmps140
 go_wp2
 go_loopw[3,8] (fun V z wr=>∃ (k:Nat) (i:Int),z=.int .i64 (k:Int)∧V=.int .i64 i∧k<=t.length∧Hid (i=ZhA t k)∧Hid (Jh t k)∧Hid (Below w.heap.size w wr)) (fun _ z _=>t.length-(intOf z).toNat)
 case atStart=>exact⟨0,0,rfl,rfl,Nat.zero_le _,ZZ O.o.symm,ZZ (Jh.zero t),Below.refl _ _⟩
 case round=>
  obtain⟨k,i,rfl,rfl,L,U,J,l⟩:=hrel;by_cases f:k<t.length
  case neg=>
   obtain rfl:k=t.length:=by omega
   have HT:=ZZ (N.o J.out);go_wp2;go_ret;rw[HT.o];exact⟨rfl,l.out⟩
  have ag:(k:Int)<(t.length:Int):=by omega
  rcases K.o with h0 | ⟨c,ai,rfl,A⟩
  ·rw[h0] at f;simp at f
  obtain⟨c0,c1,c2⟩:=(A k f).keep (l.out.block c (A k f).lt);have a:=ZZ (I.o k);have j:=ZZ (H.o k f);have Q:=ZZ (R.o k);have d:=ZZ (fun W=>C.o (t.getD k Q8) W)
  rw[<-U.out] at a;obtain⟨e,P⟩:∃ e,e=t.getD k Q8:=⟨_,rfl⟩;rw[<-P] at c0 c1 c2 a Q d;clear P A C I H N R O K;obtain⟨b,u⟩:∃ b,b=decide (ZbZ e):=⟨_,rfl⟩;rw[<-u] at d;have g:=ZZ u;have y:Hid (∀ X,Below w.heap.size w (wr.alloc X)):=ZZ (fun X=>l.out.alloc l.out.size X)
  have S:Hid (∀ cs,Be (wr.alloc (.cells cs 85)) wr.heap.size cs):=ZZ (fun cs=>heap_alloc_new wr _)
  clear u;unfold Zrm at d
  have Z:Hid (b=true->0<=e.proc∧e.proc<=64):=ZZ (fun h=>by
   have:ZbZ e:=of_decide_eq_true (g.o.symm.trans h)
   exact⟨this.1,this.2.1⟩)
  by_cases al:e.proc<i
  ·have n:=ZZ (j.o (fun h=>by have:=(a.o.1 h).2.2;omega))
   obtain⟨p,s,r⟩:=e
   dsimp only at *
   clear a j d g;go_wp2;go_ret;rw[n.o];exact⟨rfl,y.o _⟩
  ·have T:i<=e.proc:=by omega
   have ac:Hid (b=true->Jh t (k+1)):=ZZ (fun h=>a.o.2 ⟨J.out,of_decide_eq_true (g.o.symm.trans h),T⟩)
   have ad:Hid (b=false->D=false):=ZZ (fun h=>j.o (fun q=>by
    have h3:=(a.o.1 q).2.1;have E:b=true:=g.o.trans (decide_eq_true h3);rw[h] at E
    cases E))
   obtain⟨p,s,r⟩:=e
   dsimp only at *
   clear a j g
   go_wp2_with fail
   refine(d.o _).mono ?_;rintro x W1 ⟨rfl,B⟩;have F:=ZZ ((y.o _).trans (B.mono (y.o _).size));have aa:=ZZ ((S.o _).below B zL);obtain⟨q0,f0⟩:=aa.o.cell 0;clear B d
   cases b with
   | false=>
    have n:=ZZ (ad.o rfl);go_wp2;go_ret;rw[n.o];exact⟨rfl,F.o⟩
   | true=>
    obtain⟨ak,aj⟩:=Z.o rfl;have ae:=ZZ (ac.o rfl);go_wp2;go_roundw
    case rel=>exact⟨k+1,p+1,by go_num,by go_num,by omega,ZZ Q.o.symm,ae,F⟩
    case measure=>simp[intOf];omega
theorem Zqh (v:Value) (s:Qv) (w:World) (K:SnV w v s):
 Calls prog 98 #[v] w fun e w'=>e=.returned (.bool (decide (Zdk s)))∧Below w.heap.size w w':=by
 obtain⟨E,P,rfl,A,t,G,l,M⟩:=K;have a:Hid (∀ X,Below w.heap.size w (w.alloc X)):=fun X=>(Below.refl _ _).alloc zL X
 have H:Hid (∀ cs,Bn (w.alloc (.cells cs 41)) w.heap.size cs):=ZZ (fun cs=>heap_alloc_new w _)
 have f:=ZZ (fun W (h:Below w.heap.size w W)=>ZkV (.agg #[.int .i64 s.st.kind,E,.bool s.st.shut,.int .i64 s.st.eng]) s.st W ⟨E,rfl,A.below h zL,t,G⟩)
 have q:=ZZ (fun W (h:Below w.heap.size w W)=>ZmT P s.tab W (l.below h zL))
 obtain⟨Z,lc,N,-⟩:=A;obtain⟨S,T,I⟩:=l.shape;subst N I;clear l;obtain⟨D,p⟩:∃ D,D=decide (Zdk s):=⟨_,rfl⟩;rw[<-p];have b:Hid (D=decide (Zdk s)):=ZZ p;have d:Hid (Zdk s↔(0<=s.idx∧s.idx<4611686018427387904)∧X8 s.st∧Zel s.tab):=ZZ Iff.rfl;obtain⟨m,g⟩:∃ m,m=decide (X8 s.st):=⟨_,rfl⟩;obtain⟨n,k⟩:∃ n,n=decide (Zel s.tab):=⟨_,rfl⟩;rw[<-g] at f;rw[<-k] at q;have z:=ZZ g;have F:=ZZ k;clear p g k t G M;obtain⟨idx,⟨kind,L,Y,Q⟩,U⟩:=s
 dsimp only at *
 by_cases C:0<=idx
 case neg=>
  have i:Hid (D=false):=ZZ (by rw[b.o];exact decide_eq_false (fun h=>C (d.o.1 h).1.1))
  go_enter func98,ntmps98
  go_wp2;go_ret;rw[i.o];exact⟨rfl,a.o _⟩
 by_cases y:idx<4611686018427387904
 case neg=>
  have i:Hid (D=false):=ZZ (by rw[b.o];exact decide_eq_false (fun h=>y (d.o.1 h).1.2))
  go_enter func98,ntmps98
  go_wp2;go_ret;rw[i.o];exact⟨rfl,a.o _⟩
 have u:Hid (D=(m && n)):=ZZ (by
  rw[b.o,z.o,F.o,<-Bool.decide_and]
  exact decide_eq_decide.2 (d.o.trans ⟨fun h=>h.2,fun h=>⟨⟨C,y⟩,h⟩⟩))
 clear b d z F
 go_enter func98,ntmps98
 go_wp2_with fail
 refine(f.o _ (a.o _)).mono ?_;rintro x W1 ⟨rfl,j⟩;have c:=ZZ ((a.o _).trans (j.mono (a.o _).size));have J:=ZZ ((H.o _).below j zL);obtain⟨V,R⟩:=J.o.cell 5;clear j f
 cases m with
 | false=>
  go_wp2;go_ret;rw[u.o];exact⟨rfl,c.o⟩
 | true=>
  go_wp2_with fail
  refine(q.o _ c.o).mono ?_;rintro x W2 ⟨rfl,B⟩;have O:=ZZ (c.o.trans (B.mono c.o.size));clear B q;go_wp2;go_ret;rw[u.o];exact⟨rfl,O.o⟩
theorem ZrJ (G:Value) (A:List Ent) (C:Value) (B:List Ent) (w:World) (P:RdE w G A) (J:RdE w C B):
 Calls prog 46 #[G,C] w fun e w'=>e=.returned (.bool (decide (A=B)))∧Below w.heap.size w w':=by
 obtain⟨aa,ac,rfl,af,E,-,-,x⟩:=P;obtain⟨ba,bc,rfl,-,U,-,-,H⟩:=J;have N:=ZZ x;have Q:=ZZ H;obtain⟨D,g⟩:∃ D,D=decide (A=B):=⟨_,rfl⟩;rw[<-g];have F:Hid (A=B->D=true):=fun h=>by rw[g];exact decide_eq_true h
 have l:Hid (¬ A=B->D=false):=fun h=>by rw[g];exact decide_eq_false h
 have ab:=ZtF;have X:(A.length:Int)<=9223372036854775807:=by unfold maxLen at E;omega
 clear g x H E U;by_cases a:A.length=B.length
 case neg=>
  have O:((A.length:Int) != (B.length:Int))=true:=by rw[bne_iff_ne];omega
  have R:=ZZ (l.o (fun h=>a (by rw[h])))
  clear a
  go_enter func46,ntmps46
  go_wp2;go_ret;rw[R.o];exact⟨rfl,Below.refl _ _⟩
 have O:((A.length:Int) != (B.length:Int))=false:=by rw[bne_eq_false_iff_eq];omega
 have d:=ZZ a
 have y:Hid (A.take A.length=B.take A.length->D=true):=ZZ (fun h=>F.o (by
  rw[take_length,d.o,take_length] at h
  exact h))
 have z:Hid (∀ k,k<A.length->A.getD k Q8≠B.getD k Q8->D=false):=ZZ (fun k K h=>l.o (fun T=>h (by rw[T])))
 clear a F l
 go_enter func46,ntmps46
 go_wp2
 go_loopw[13] (fun i wr=>∃ k:Nat,i=.int .i64 (k:Int)∧k<=A.length∧Hid (A.take k=B.take k)∧Hid (∃ n,wr=w.drewN n)) (fun i _=>A.length-(intOf i).toNat)
 case atStart=>exact⟨0,rfl,Nat.zero_le _,rfl,⟨0,rfl⟩⟩
 case round=>
  obtain⟨k,rfl,K,t,M⟩:=hrel;obtain⟨nw,L⟩:=M.out;subst L;by_cases b:k<A.length
  case neg=>
   obtain rfl:k=A.length:=by omega
   have V:=ZZ (y.o t.out);go_wp2;go_ret;rw[V.o];exact⟨rfl,Xn (Below.refl _ _) _⟩
  rcases N.o with j | ⟨c,ad,rfl,u⟩
  ·rw[j] at b;simp at b
  rcases Q.o with j | ⟨c',Z,rfl,v⟩
  ·have a:=d.o;rw[j] at a;simp at a;rw[a] at b;simp at b
  obtain⟨c0,Y,c2⟩:=u k b;obtain⟨d0,d1,d2⟩:=v k (by have:=d.o;omega)
  have ae:(k:Int)<(A.length:Int):=by omega
  have ag:(k:Int)<(B.length:Int):=by have:=d.o;omega
  have q:=ZZ (z.o k b);have p:Hid (A.getD k Q8=B.getD k Q8->A.take (k+1)=B.take (k+1)):=fun h=>by rw[ZjL b,ZjL (by have:=d.o;omega),t.out,h]
  clear u v y z;generalize A.getD k Q8=r at *;generalize B.getD k Q8=s at *;by_cases f:r=s
  ·subst f
   have S:=ZZ (p.o rfl);have m:=fun W=>ZtE W r r
   rw[Zrn] at m;clear q p
   go_upto_region 6 with fail
   go_quiet(fail)
   go_wp2;go_roundw
   case rel=>exact⟨k+1,by go_num,by omega,S,⟨_,rfl⟩⟩
   case measure=>simp[intOf];omega
  ·have I:=ZZ (q.o f)
   have m:=fun W=>ZtE W r s
   rw[ZtG f] at m;clear q p f
   go_upto_region 6 with fail
   go_quiet(fail)
   go_wp2;go_ret;rw[I.o];exact⟨rfl,Xn (Xn (Below.refl _ _) _) _⟩
theorem Zuq (C:Value) (a:Qv) (F:Value) (b:Qv) (w:World) (ha:SnV w C a) (hb:SnV w F b):
 Calls prog 20 #[C,F] w fun e w'=>e=.returned (.bool (decide (Zoq a b)))∧Below w.heap.size w w':=by
 obtain⟨B,U,rfl,K,G,I,y,hi⟩:=ha;obtain⟨vl',S,rfl,N,M,J,l,ae⟩:=hb;have g:Hid (∀ X Y,Below w.heap.size w ((w.alloc X).alloc Y)):=fun X Y=>((Below.refl _ _).alloc zL X).alloc (by simp) Y
 have af:Hid (∀ cs d,Bn ((w.alloc (.cells cs 41)).alloc (.cells d 41)) w.heap.size cs):=fun cs d=>(Below.heap_alloc _ _ _ (by simp)).trans (heap_alloc_new w _)
 have Z:Hid (∀ cs d,Bn ((w.alloc (.cells cs 41)).alloc (.cells d 41)) (w.heap.size+1) d):=fun cs d=>ZdM w _ _
 have k:=ZZ (fun W (h:Below w.heap.size w W)=>Zup (.agg #[.int .i64 a.st.kind,B,.bool a.st.shut,.int .i64 a.st.eng]) a.st (.agg #[.int .i64 b.st.kind,vl',.bool b.st.shut,.int .i64 b.st.eng]) b.st W ⟨B,rfl,K.below h zL,G,I⟩ ⟨vl',rfl,N.below h zL,M,J⟩)
 have u:=ZZ (fun W (h:Below w.heap.size w W)=>ZrJ U a.tab S b.tab W (y.below h zL) (l.below h zL))
 obtain⟨la,lc,T,-⟩:=K;obtain⟨an,ak,V,-⟩:=N;obtain⟨ta,tc,ad⟩:=y.shape;obtain⟨al,ar,P⟩:=l.shape;subst T ad V P;obtain⟨D,z⟩:∃ D,D=decide (Zoq a b):=⟨_,rfl⟩;rw[<-z];have j:Hid (D=decide (Zoq a b)):=ZZ z;have p:Hid (Zoq a b↔ZlI a.st b.st∧a.idx=b.idx∧a.tab=b.tab):=ZZ Iff.rfl;obtain⟨m,v⟩:∃ m,m=decide (ZlI a.st b.st):=⟨_,rfl⟩;obtain⟨n,q⟩:∃ n,n=decide (a.tab=b.tab):=⟨_,rfl⟩;rw[<-v] at k;rw[<-q] at u;have A:=ZZ v;have O:=ZZ q;clear z v q G I hi M J ae y l;obtain⟨idx,⟨kind,L,aj,ai⟩,ap⟩:=a;obtain⟨t,⟨ao,L',ag,aq⟩,am⟩:=b
 dsimp only at *
 by_cases c:idx=t
 case neg=>
  have ac:(idx == t)=false:=beq_eq_false_iff_ne.2 c;have R:Hid (D=false):=ZZ (by rw[j.o];exact decide_eq_false (fun h=>c (p.o.1 h).2.1))
  clear c
  go_enter func20,ntmps20
  go_wp2;go_ret;rw[R.o];exact⟨rfl,g.o _ _⟩
 have ac:(idx == t)=true:=beq_iff_eq.2 c
 have H:Hid (D=(m && n)):=ZZ (by
  rw[j.o,A.o,O.o,<-Bool.decide_and]
  exact decide_eq_decide.2 (p.o.trans ⟨fun h=>⟨h.1,h.2.2⟩,fun h=>⟨h.1,c,h.2⟩⟩))
 clear j p A O c
 go_enter func20,ntmps20
 go_wp2_with fail
 refine(k.o _ (g.o _ _)).mono ?_;rintro x W1 ⟨rfl,i⟩;have f:=ZZ ((g.o _ _).trans (i.mono (g.o _ _).size));have Q:=ZZ ((af.o _ _).below i zL);have ab:=ZZ ((Z.o _ _).below i zL);obtain⟨q5,f5⟩:=Q.o.cell 5;obtain⟨r5,g5⟩:=ab.o.cell 5;clear i k
 cases m with
 | false=>
  go_wp2;go_ret;rw[H.o];exact⟨rfl,f.o⟩
 | true=>
  go_wp2_with fail
  refine(u.o _ f.o).mono ?_;rintro x W2 ⟨rfl,E⟩;have aa:=ZZ (f.o.trans (E.mono f.o.size));clear E u;go_wp2;go_ret;rw[H.o];exact⟨rfl,aa.o⟩
def Zqi (w:World) (s:Qv) (e:Ending) (w':World):Prop:=
 ∃ v',e=.returned (.tuple #[v',.int .i64 (if Zdk s then 0 else 1)])∧Own w' w.heap.size v' (if Zdk s then Zvo s else[])∧Below w.heap.size w w'
theorem Zaq:∀ (n:Nat) (l:List UInt8),l.length<=n->(Qf (Xu l)).length<=15*l.length
 | 0,l,h=>by
  have e:l=[]:=List.eq_nil_of_length_eq_zero (by omega)
  rw[e,X7];simp[Qf]
 | n+1,l,h=>by
  by_cases e:l=[]
  ·rw[e,X7]
   simp[Qf]
  ·have c:l.length≠0:=by simpa using e
   have a:=Zaq n (l.drop 64) (by rw[length_drop];omega)
   have b:=Jb (d:=l.take 64) (by rw[List.length_take];omega)
   rw[Y7 e,X4,length_append];rw[length_drop] at a;rw[List.length_take] at b;omega
theorem Zwn {s:Qv} (h:Zdk s):(Zvo s).length<=80000:=by
 have c:=ZbM h;have a:s.idx.toNat<4611686018427387904:=by have:=h.1;omega
 have b:=Zep a (w:=Xt s) (by omega)
 have e:=Jb (d:=Zfe s.idx.toNat (Xt s)) (by omega)
 have f:=Zaq _ (Xt s) zL;unfold Zvo ZaV;rw[X4,length_append];omega
theorem Zqj (n:Int) (w:World) (l:-9223372036854775808<=n) (k:n<=9223372036854775807):
 Calls prog 134 #[.int .i64 n] w fun e w'=>e=.returned (.int .i64 (Zgm n:Nat))∧Below w.heap.size w w':=by
 by_cases h:0<=n∧n<=1048576
 ·obtain⟨b,d⟩:=h
  have a:Hid (Zgm n=(Lib.uvarint n.toNat).length+4+n.toNat):=if_pos ⟨b,d⟩
  have f:Hid (∀ w,Calls prog 132 #[.slice none 0 0,.int .i64 n] w fun e w'=>∃ ao cap,e=.returned (.slice ao (Lib.uvarint n.toNat).length cap)∧Below w.heap.size w w'):=by
   intro w;refine(ZbA (.slice none 0 0) [] n w (Rd.nil _) (by simp)).mono ?_
   have e:Zrg [] n=Lib.uvarint n.toNat:=if_pos ⟨by omega,by omega⟩
   rintro m w' ⟨v',rfl,g,i⟩;rw[e] at g;obtain⟨ao,cap,rfl,_⟩:=g.rd;exact⟨ao,cap,rfl,i⟩
  have p:(Lib.uvarint n.toNat).length<=3:=Zyj (by omega)
  generalize (Lib.uvarint n.toNat).length=q at *
  go_enter func134,ntmps134
  go_wp2_with fail
  refine(f.o _).mono ?_;rintro e t ⟨ao,cap,rfl,c⟩;have j:=ZZ c;clear c f;go_wp2;go_ret;refine⟨ZbT ?_,j.o⟩;rw[a.o];omega
 ·have a:Hid (Zgm n=0):=if_neg h
  by_cases b:n<0
  ·clear h
   go_enter func134,ntmps134
   go_wp2;go_ret;exact⟨ZbT (by rw[a.o];rfl),Below.refl _ _⟩
  ·have d:1048576<n:=by omega
   clear h
   go_enter func134,ntmps134
   go_wp2;go_ret;exact⟨ZbT (by rw[a.o];rfl),Below.refl _ _⟩
theorem ZxG (v:Value) (l:List UInt8) (w:World) (t:Rd w v l):
 Calls prog 217 #[v] w fun e w'=>e=.returned (.bool (decide (Jp l)))∧w'=w:=by
 obtain⟨ao,cap,rfl,D,u,x,d⟩:=t;clear x;have z:(l.length:Int)<=9223372036854775807:=by unfold maxLen at u;omega
 by_cases C:(l.length:Int)<10
 ·go_enter func217,ntmps217
  go_wp2
  go_loop [10] (fun i=>∃ k:Nat,i=.int .i64 k∧k<=l.length∧Hid (∀ j,j<k->128<=(l.getD j 0).toNat)) (fun i=>l.length-(intOf i).toNat)
  case atStart=>exact⟨0,rfl,by omega,fun j g=>by omega⟩
  case round=>
   obtain⟨k,rfl,E,p⟩:=hrel;by_cases a:k<l.length
   ·rcases d with d | ⟨b,A,rfl,m⟩
    ·subst d;simp at a
    ·have q:=m k a
     clear m;obtain⟨y,c⟩:∃ y,y=(l.getD k 0).toNat:=⟨_,rfl⟩;rw[<-c] at q;have n:Hid (y=(l.getD k 0).toNat):=c;clear c;by_cases B:(y:Int)<128
     ·go_wp2
      go_ret;refine⟨ZdY ?_,rfl⟩
      symm
      refine decide_eq_false fun f=>?_
      have:=f.2 k a;rw[<-n.o] at this;omega
     ·go_wp2
      go_round
      case rel=>
       refine⟨k+1,by go_num,by omega,fun j g=>?_⟩
       by_cases e:j=k
       ·rw[e,<-n.o];omega
       ·exact p.out j (by omega)
      case measure=>simp[intOf];omega
   ·go_wp2
    go_ret;refine⟨ZdY ?_,rfl⟩
    symm
    exact decide_eq_true ⟨by omega,fun j g=>p.out j (by omega)⟩
 ·go_enter func217,ntmps217
  go_wp2;go_ret;refine⟨ZdY ?_,rfl⟩
  symm
  exact decide_eq_false fun f=>by have:=f.1;omega
theorem Own.made0 (w:World) (B:Nat) (a:B<=w.heap.size):Own (w.alloc (.cells #[] 5)) B (.slice (some ⟨w.heap.size,0,none⟩) 0 0) []:=
 ⟨rfl,.inr ⟨w.heap.size,0,#[],rfl,a,heap_alloc_new w _,Nat.le_refl _,Nat.zero_le _,rfl,rfl⟩⟩
theorem Zur (v:Value) (l:List UInt8) (w:World) (f:Rd w v l) (B:l.length<=70368744177664):
 Calls prog 113 #[v] w fun e w'=>∃ v',e=.returned v'∧Own w' w.heap.size v' l∧Below w.heap.size w w':=by
 have j:=ZZ f;obtain⟨ao,cap,rfl,z,y,b,g⟩:=f
 cases ao with
 | none=>
  have m:=b rfl;have q:l=[]:=List.eq_nil_of_length_eq_zero (by omega)
  subst q;subst m;clear g b;have n:∀ w,(binOp .eql 53 (.slice none 0 0) (.slice none 0 0)).run prog w=.ok (.bool true) w:=fun w=>run_eql_slice_nil w _ _ none 0 0 underlying53
  go_enter func113,ntmps113
  go_wp2;go_ret;exact⟨_,rfl,Own.nil _ _,Below.refl _ _⟩
 | some d=>
  clear g b z y;have n:∀ w,(binOp .eql 53 (.slice (some d) l.length cap) (.slice none 0 0)).run prog w=.ok (.bool false) w:=fun w=>run_eql_slice_nil w _ _ (some d) _ _ underlying53
  have x:=ZZ (Own.made0 w w.heap.size zL);have a:=ZZ ((Below.refl w.heap.size w).alloc zL (.cells #[] 5));have p:=ZZ (j.o.below a.o zL);have k:Hid (w.heap.size<=(w.alloc (.cells #[] 5)).heap.size):=a.o.size
  go_enter func113,ntmps113
  go_wp2_with(at_builtin;refine Xi _ rfl _ _ rfl w.heap.size _ [] rfl x.o _ l rfl p.o (by simp;omega) k.o ?_)
  intro A C i c;have u:=ZZ i;have t:=ZZ (a.o.trans c);clear i c;go_wp2;go_ret;exact⟨A,rfl,u.o,t.o⟩
theorem Zdg (v:Value) (l:List UInt8) (w:World) (P:Rd w v l):
 Calls prog 91 #[v] w fun e w'=>∃ v',e=.returned (.tuple #[v',.int .i64 ((ZwX l).2:Nat)])∧Own w' w.heap.size v' (ZwX l).1∧Below w.heap.size w w':=by
 have R:=ZZ P;obtain⟨W,hi,ac,ag,an⟩:=info_parts Zkt;obtain⟨ao,cap,rfl,ay,aj,ar,ab⟩:=P;clear ar ab;have aw:(l.length:Int)<=9223372036854775807:=by unfold maxLen at aj;omega
 by_cases h:(l.length:Int)<=1048576
 ·have a:Hid (ZwX l=(Yr l++Lib.leBytes 4 (Q2 0 (Yr l)),0)):=if_pos (by omega)
  have p:Hid (∀ w,Calls prog 132 #[.slice none 0 0,.int .i64 (l.length:Int)] w fun e w'=>∃ v',e=.returned v'∧Own w' w.heap.size v' (Lib.uvarint l.length)∧Below w.heap.size w w'):=by
   intro w;have:=ZbA (.slice none 0 0) [] (l.length:Int) w (Rd.nil _) (by simp)
   have e:Zrg [] (l.length:Int)=Lib.uvarint l.length:=if_pos ⟨by omega,by omega⟩
   rwa [e] at this
  have L:Hid (∀ w,Calls prog 134 #[.int .i64 (l.length:Int)] w fun e w'=>e=.returned (.int .i64 (Zgm (l.length:Int):Nat))∧Below w.heap.size w w'):=fun w=>Zqj _ w (by omega) (by omega)
  have f:Hid (∀ v w,Rd w v (Yr l)->Calls prog 136 #[v] w fun e w'=>e=.returned (.int .u32 (Q2 0 (Yr l):Nat))∧Below w.heap.size w w'):=fun v w h=>Zle v _ w h
  have d:Hid (∀ w,Calls prog 135 #[.int .u32 (Q2 0 (Yr l):Nat)] w fun e w'=>∃ v',e=.returned v'∧Own w' w.heap.size v' (Lib.leBytes 4 (Q2 0 (Yr l)))∧Below w.heap.size w w'):=fun w=>Zhy _ w (ZpM _)
  have H:Hid (Yr l=Lib.uvarint l.length++l):=rfl;have ap:Hid ((Lib.leBytes 4 (Q2 0 (Yr l))).length=4):=Lib.leBytes_length 4 _;have b:Hid ((Lib.uvarint l.length).length<=3):=Zyj (by omega)
  have ax:Zgm (l.length:Int)<=2000000:=by
   have e:Zgm (l.length:Int)=(Lib.uvarint l.length).length+4+l.length:=if_pos ⟨by omega,h⟩
   have:=b.o;rw[e];omega
  generalize Zgm (l.length:Int)=z at *;generalize Q2 0 (Yr l)=s at *;obtain⟨S,M⟩:∃ S:Int,S=(s:Int):=⟨_,rfl⟩;rw[<-M] at d f;clear M;generalize Lib.leBytes 4 s=q at *;generalize Lib.uvarint l.length=u at *;generalize Yr l=hd at *;have hh:=H.o;subst hh;clear H
  go_enter func91,ntmps91
  go_wp2_with fail
  refine(L.o _).mono ?_;rintro e w1 ⟨rfl,j⟩;have ae:=ZZ j;have Q:=j.size;clear j L
  go_wp2_with(at_make;refine wpList_make_own _ rfl _ _ 53 rfl w.heap.size 5 W (.int .u8 0) 1 underlying53 hi ac ag _ _ _ z rfl rfl (by omega) (by rw[an];omega) (by unfold maxLen;omega) Q ?_)
  intro X G J;have ai:Hid (Own X w.heap.size (.slice (some ⟨w1.heap.size,0,none⟩) 0 z) []):=G;have B:=ZZ (ae.o.grown J Q (fun k hk=>by cases hk))
  have ak:=B.o.size;clear G J
  go_wp2_with fail
  refine(p.o _).mono ?_;rintro e w3 ⟨v3,rfl,F,c⟩;have t:=ZZ (B.o.trans (c.mono ak));have Y:=ZZ F.rd;have al:=ZZ (ai.o.below c zL);have au:=t.o.size;clear F c p
  go_wp2_with(at_builtin;refine Xi _ rfl _ _ rfl w.heap.size _ [] rfl al.o _ u rfl Y.o (by have:=b.o;simp;omega) au ?_)
  intro v4 w4 A n;have g:=ZZ (t.o.trans n);have aa:Hid (Own w4 w.heap.size v4 u):=A;have U:=g.o.size;clear A n
  go_wp2_with(at_builtin;refine Xi _ rfl _ _ rfl w.heap.size _ u rfl aa.o _ l rfl (R.o.below g.o zL) (by have:=b.o;omega) U ?_)
  intro v5 w5 K C;have N:=ZZ (g.o.trans C);have y:Hid (Own w5 w.heap.size v5 (u++l)):=K;have T:=N.o.size;clear K C
  go_wp2_with fail
  refine(f.o _ _ y.o.rd).mono ?_;rintro e w6 ⟨rfl,m⟩;have I:=ZZ (N.o.trans (m.mono T));have am:=ZZ (y.o.below m zL);have V:=I.o.size;clear m f
  go_wp2_with fail
  refine(d.o _).mono ?_;rintro e w7 ⟨v7,rfl,E,i⟩;have D:=ZZ (I.o.trans (i.mono V));have ad:=ZZ E.rd;have af:=ZZ (am.o.below i zL);have aq:=D.o.size;clear E i d
  go_wp2_with(at_builtin;refine Xi _ rfl _ _ rfl w.heap.size _ (u++l) rfl af.o _ q rfl ad.o (by have:=b.o;have:=ap.o;simp;omega) aq ?_)
  intro v8 w8 x O;have Z:=ZZ (D.o.trans O);have av:=ZZ x;clear x O;go_wp2;go_ret2;exact⟨v8,by rw[a.o];rfl,by rw[a.o];show Own _ _ _ (u++l++q);rw[append_assoc];exact av.o,Z.o⟩
 ·have a:Hid (ZwX l=([],5)):=if_neg (by omega)
  go_enter func91,ntmps91
  go_wp2;go_ret2;exact⟨_,by rw[a.o];rfl,by rw[a.o];exact Own.nil _ _,Below.refl _ _⟩
end Go.Proofs.YtnahjngbneicaaaGreatDoor
