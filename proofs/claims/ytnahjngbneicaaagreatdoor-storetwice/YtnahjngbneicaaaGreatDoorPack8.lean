import Derived.Test.YtnahjngbneicaaaGreatDoorPack7
import Derived.Deep.RegionHeld2
namespace Go.Proofs.YtnahjngbneicaaaGreatDoor
open _root_.Go.Proofs.Tryz
open List (append_nil getElem_mem length_drop length_map length_set length_take map_cons map_nil)
set_option maxHeartbeats 4000000
set_option maxRecDepth 100000
open Go.RowKit
variable {l:List Int} {B N N' T T' b base i j n o p pd:Nat} {L:ZdP} {w w':World} {g:Lgb} {F I K M:Nat->Prop} {s s':Sto} {d:Dk} {pv rv v:Value} {t:TypeId} {xs:List Value} {cs:Array Value}
theorem ZhS (h:j<l.length):l.getD j 0 ∈ l:=by
 rw[show l.getD j 0=l[j] by simp[List.getD,h]]
 exact getElem_mem h
def Zyy (p:Int->Bool) (l:List Int) (k:Int):Prop:=(k=-1∧∀ j,j<l.length->p (l.getD j 0)=false)∨∃ i:Nat,k=(i:Int)∧i<l.length∧(∀ j,j<i->p (l.getD j 0)=false)∧p (l.getD i 0)=true
theorem Zje (g R:Nat) (p:Int->Bool) (v:Value) (l:List Int) (w:World) (H:RdI w v l)
 (Y:∀ args W,(callFunc g args).run prog W=.ok (.enter g args) W)
 (B:∀ W e,e ∈ l->Below w.heap.size w W->Calls prog g #[.int .i64 e,.pointer (some ⟨R,0,none⟩)] W fun x w'=>x=.returned (.bool (p e))∧Below W.heap.size W w'):
 Calls prog 158 #[v,.func (.func g) #[] #[.pointer (some ⟨R,0,none⟩)]] w fun x w'=>∃ k:Int,x=.returned (.int .i64 k)∧Zyy p l k∧Below w.heap.size w w':=by
 have M:=ZZ H;have K:=ZZ B;obtain⟨T,U,rfl,O,I,-,-,J⟩:=H;have G:=ZZ J;have S:(l.length:Int)<=9223372036854775807:=by unfold maxLen at I;omega
 clear B O I J
 go_enter func158,ntmps158
 go_wp2
 go_loopw[8] (fun n wr=>∃ q:Nat,n=.int .i64 (q:Int)∧q<=l.length∧Hid (∀ j,j<q->p (l.getD j 0)=false)∧Hid (Below w.heap.size w wr)) (fun n _=>l.length-(intOf n).toNat)
 case atStart=>exact⟨0,rfl,Nat.zero_le _,ZZ (fun j i=>absurd i (Nat.not_lt_zero _)),Below.refl _ _⟩
 case round=>
  obtain⟨q,rfl,X,z,d⟩:=hrel;by_cases c:q<l.length
  case neg=>
   obtain rfl:q=l.length:=by omega
   go_wp2;go_ret;exact⟨-1,rfl,.inl ⟨rfl,z.out⟩,d.out⟩
  have Q:(q:Int)<(l.length:Int):=by omega
  rcases G.o with N | ⟨b,m,rfl,t⟩
  ·rw[N] at c;simp at c
  have L:wr.cell? ⟨b,m+q,none⟩=some (.int .i64 (l.getD q 0)):=(World.cell?_of_block (a:=⟨b,m+q,none⟩) (d.out.block b (World.block_lt_of_cell? w ⟨b,m+q,none⟩ (t q c)))).trans (t q c);have f:=ZZ (K.o wr (l.getD q 0) (ZhS c) d.out);have P:Hid (∀ j,j<q+1->j=q∨j<q):=ZZ (fun j i=>by omega)
  obtain⟨e,y⟩:∃ e,e=l.getD q 0:=⟨_,rfl⟩;rw[<-y] at f L;have F:=ZZ y;obtain⟨A,u⟩:∃ A,A=p e:=⟨_,rfl⟩;rw[<-u] at f;have D:=ZZ u;clear y t K G M u
  go_wp2_with fail
  refine f.o.mono ?_;rintro x V ⟨rfl,E⟩;have C:=ZZ (d.out.trans (E.mono d.out.size));clear E f
  cases A with
  | true=>
   go_wp2;go_ret;exact⟨(q:Int),rfl,.inr ⟨q,rfl,c,z.out,by rw[<-F.o];exact D.o.symm⟩,C.o⟩
  | false=>
   go_wp2;go_roundw
   case rel=>exact⟨q+1,by go_num,by omega,ZZ (fun j i=>by
    rcases P.o j i with h | h
    ·rw[h,<-F.o];exact D.o.symm
    ·exact z.out j h),C⟩
   case measure=>simp[intOf];omega
theorem ZcL (p:Int->Bool) (l:List Int) (j:Nat) (a:j<l.length):(l.take (j+1)).filter (fun e=>!p e)=(l.take j).filter (fun e=>!p e)++if p (l.getD j 0)=true then[] else[l.getD j 0]:=by
 have b:l.take (j+1)=l.take j++[l.getD j 0]:=by
  rw[List.take_add_one,List.getElem?_eq_getElem a];simp[List.getD,a]
 rw[b,List.filter_append]
 congr 1
 generalize l.getD j 0=x
 cases h:p x <;> simp[h]
theorem ZfW (p:Int->Bool) (l:List Int) (i:Nat) (c:i<=l.length) (h:∀ j,j<i->p (l.getD j 0)=false):(l.take i).filter (fun e=>!p e)=l.take i:=by
 rw[List.filter_eq_self];intro e b;obtain⟨j,a,rfl⟩:=List.getElem_of_mem b;rw[length_take] at a;have:=h j (by omega)
 rw[List.getElem_take];simp only [List.getD,List.getElem?_eq_getElem (show j<l.length by omega),Option.getD_some] at this
 simp[this]
def ZsK (p:Int->Bool) (l L:List Int) (i j:Nat):Prop:=L.length=l.length∧L.take i=(l.take j).filter (fun e=>!p e)∧L.drop j=l.drop j∧i<j
theorem ZsK.start {p:Int->Bool} (b:i<l.length) (h:∀ j,j<i->p (l.getD j 0)=false) (a:p (l.getD i 0)=true):ZsK p l l i (i+1):=by
 refine⟨rfl,?_,rfl,Nat.lt_succ_self _⟩;rw[ZcL p l i b,if_pos a,append_nil,ZfW p l i (by omega) h]
theorem ZsK.at {p:Int->Bool} {L:List Int} (h:ZsK p l L i j):L.getD j 0=l.getD j 0:=by
 obtain⟨d,e,c,f⟩:=h;have b:(L.drop j).getD 0 0=L.getD j 0:=by simp[List.getD]
 have a:(l.drop j).getD 0 0=l.getD j 0:=by simp[List.getD]
 rw[<-b,<-a,c]
theorem ZjP {L:List Int} (h:L.drop j=l.drop j):L.drop (j+1)=l.drop (j+1):=by
 rw[<-List.drop_drop,<-List.drop_drop,h]
theorem ZsK.skip {p:Int->Bool} {L:List Int} (h:ZsK p l L i j) (e:j<l.length) (a:p (l.getD j 0)=true):ZsK p l L i (j+1):=by
 obtain⟨b,c,d,f⟩:=h;refine⟨b,?_,ZjP d,by omega⟩
 rw[ZcL p l j e,if_pos a,append_nil,c]
theorem ZsK.keep {p:Int->Bool} {L:List Int} (h:ZsK p l L i j) (e:j<l.length) (a:p (l.getD j 0)=false):ZsK p l (L.set i (l.getD j 0)) (i+1) (j+1):=by
 obtain⟨b,c,d,f⟩:=h;refine⟨by rw[length_set,b],?_,?_,by omega⟩
 ·rw[ZcL p l j e,if_neg (by rw[a];simp),<-c,List.take_add_one,List.take_set_of_le zL]
  congr 1
  rw[List.getElem?_set_self (by omega)]
  rfl
 ·rw[List.drop_set_of_lt (by omega)]
  exact ZjP d
theorem Qo.cutClear {g cap:Nat} (h:Qo w B (.slice (some ⟨g,0,none⟩) n cap) l) (i:Nat) (p:i<=l.length) (vs:List Value):Qo (w.setCells g i vs) B (.slice (some ⟨g,0,none⟩) i cap) (l.take i):=by
 rcases h.row with ⟨a,-⟩ | ⟨g',q,cur,a,c,t,d,u,b,k,f⟩
 ·cases a
 ·injection a with a _ h3
  injection a with a
  injection a with a
  subst a h3;have e:=Xl g _ vs i w cur d;refine Qo.ofRowN (by rw[length_take];omega) c e (by rw[length_take];omega) b (by rw[Xd];exact k) fun j m=>?_
  rw[length_take] at m;rw[Yb _ _ _ _ (by omega),if_neg (by omega),f j (by omega)]
  simp[List.getD,show j<i by omega]
theorem ZhT (g R:Nat) (p:Int->Bool) (v:Value) (l:List Int) (B:Nat) (w:World) (t:Qo w B v l) (hI:∀ e ∈ l,I64 e) (D:B<=w.heap.size) (ap:l.length<=1000000)
 (eg:∀ args W,(callFunc g args).run prog W=.ok (.enter g args) W)
 (y:∀ W e,e ∈ l->Below B w W->Calls prog g #[.int .i64 e,.pointer (some ⟨R,0,none⟩)] W fun x w'=>x=.returned (.bool (p e))∧Below W.heap.size W w'):
 Calls prog 112 #[v,.func (.func g) #[] #[.pointer (some ⟨R,0,none⟩)]] w fun x w'=>∃ v',x=.returned v'∧Qo w' B v' (l.filter (fun e=>!p e))∧Below B w w':=by
 have Q:=ZZ t;have HP:=ZZ y;have ab:=ZZ (Zje g R p v l w (t.rd hI) eg (fun W e n h=>y W e n (h.mono D)))
 obtain⟨va,c,hv⟩:=t.shape;subst hv;clear t y
 go_enter func112,ntmps112
 go_wp2_with fail
 refine ab.o.mono ?_;rintro x W0 ⟨k,rfl,b,O⟩;have F:=ZZ (O.mono D);have q:=ZZ (Q.o.below O zL);clear ab O Q;rcases b with ⟨rfl,b⟩ | ⟨P,rfl,G,b,S⟩
 ·have HE:Hid (l.filter (fun e=>!p e)=l):=ZZ (by
   have:=ZfW p l l.length zL b
   rwa [List.take_length] at this)
  clear b;go_wp2;go_ret;exact⟨_,rfl,by rw[HE.o];exact q.o,F.o⟩
 have ac:=ZZ (ZsK.start G b S);clear b S;rcases q.o.row with ⟨-,h2⟩ | ⟨d,cap,cur,I,U,-,-,au,ai,-,-⟩
 ·rw[h2] at G;simp at G
 injection I with I _ h3
 subst I h3;have an:(l.length:Int)<=1000000:=by omega
 clear cur ai;have ei:((P:Int) == -1)=false:=beq_eq_false_iff_ne.2 (by omega)
 go_wp2
 go_loopw[5,6] (fun v5 K wr=>∃ (i j:Nat) (L:List Int),v5=.int .i64 (i:Int)∧K=.int .i64 (j:Int)∧i<j∧j<=l.length∧Hid (Qo wr B (.slice (some ⟨d,0,none⟩) l.length c) L)∧Hid (ZsK p l L i j)∧Hid (Below B w wr)) (fun _ K _=>l.length-(intOf K).toNat)
 case atStart=>exact⟨P,P+1,l,rfl,by go_num,by omega,by omega,q,ac,F⟩
 case round=>
  clear q ac F ei;obtain⟨i,j,L,rfl,rfl,aB,aA,f,a,m⟩:=hrel;by_cases z:j<l.length
  case neg=>
   obtain rfl:j=l.length:=by omega
   have hL:L.length=l.length:=a.out.1;have HT:Hid (L.take i=l.filter (fun e=>!p e)):=ZZ (by rw[a.out.2.1,List.take_length])
   obtain⟨g',al,H,-,ag,-,-,-,-⟩:=f.out.put i (by omega) 0
   injection H with e1 e2 e3
   clear e2
   injection e1 with e1
   injection e1 with e1
   subst e1 e3
   have Z:Hid (∀ k,k<l.length->wr.frozen? ⟨d,k,none⟩=false∧(wr.cell? ⟨d,k,none⟩).isSome=true):=ZZ (fun k T=>by
    obtain⟨g2,ae,N,am,af,-⟩:=f.out.put k (by omega) 0
    injection N with f1 _ _
    injection f1 with f1
    injection f1 with f1
    subst f1
    exact⟨af,by rw[am];rfl⟩)
   have HK:Hid (∀ ty,(Builtin.clear_ #[23] ty #[.slice (some ⟨d,i,none⟩) (l.length-i) (c-i)]).run prog wr=.ok (.tuple #[]) (wr.setCells d i (List.replicate (l.length-i) (.int .i64 0)))):=ZZ (fun ty=>
    Go.Lib.run_clear_slice wr _ _ ty (.int .i64 0) underlying23 Tryz.zeroValue3 rfl rfl d i (l.length-i) (c-i) (by omega) (fun k T=>(Z.o (i+k) (by omega)).2) (fun k T=>(Z.o (i+k) (by omega)).1))
   have X:=ZZ (f.out.cutClear i (by omega) (List.replicate (l.length-i) (.int .i64 0)))
   rw[HT.o] at X;have ak:=ZZ (Jw U (List.replicate (l.length-i) (.int .i64 0)) i wr m.out);have ay:¬ (c=i):=by omega
   have u:(i:Int)<=(l.length:Int):=by omega
   have ao:(i:Int)<=(c:Int):=by omega
   have ax:i<=l.length:=by omega
   have aw:i<=c:=by omega
   clear ag;have hK:=HK.o;go_wp2;go_ret;exact⟨_,rfl,X.o,ak.o⟩
  have aq:(j:Int)<(l.length:Int):=by omega
  have az:L.length=l.length:=a.out.1;obtain⟨g',al,H,M,-⟩:=f.out.put j (by omega) 0
  injection H with e1 e2 e3
  clear e2
  injection e1 with e1
  injection e1 with e1
  subst e1 e3;rw[a.out.at] at M;have J:=ZZ (a.out.skip z);have A:=ZZ (a.out.keep z);obtain⟨e,n⟩:∃ e,e=l.getD j 0:=⟨_,rfl⟩;rw[<-n] at M J A;obtain⟨C,ad⟩:∃ C,C=p e:=⟨_,rfl⟩;have E:=ZZ (fun W h=>HP.o W e (by rw[n];exact ZhS z) h)
  rw[<-ad] at E J A;clear n ad a
  go_wp2_with fail
  refine(E.o _ m.out).mono ?_;rintro x W1 ⟨rfl,u⟩;have V:=ZZ (m.out.trans (u.mono (Nat.le_trans D m.out.size)));have aa:=ZZ (f.out.below u zL);clear u E M f m
  cases C with
  | true=>
   go_wp2;go_roundw
   case rel=>exact⟨i,j+1,L,rfl,by go_num,by omega,by omega,aa,ZZ (J.o (by simp)),V⟩
   case measure=>simp[intOf];omega
  | false=>
   obtain⟨g2,ae,N,d0,z0,-,-,Y,-⟩:=aa.o.put i (by omega) e
   injection N with f1 f2 f3
   clear f2
   injection f1 with f1
   injection f1 with f1
   subst f1 f3;have aj:=ZZ Y;clear Y;have av:(i:Int)<(l.length:Int):=by omega
   have ar:i<l.length:=by omega
   go_wp2;go_roundw
   case rel=>exact⟨i+1,j+1,L.set i e,by go_num,by go_num,by omega,by omega,aj,ZZ (A.o (by simp)),ZZ (V.o.setCell U _)⟩
   case measure=>simp[intOf];omega
theorem Yj {c:Array Oper} {o:Oper} {a:Act} {K:Act->World->Prop} {Q:Exit->Act->World->Prop} {E:Prop} {R:Value->World->Prop}
 (f:FuncId) (xs:Array Operand) (ts:Array TypeId) (g:o.guard=none) (n:o.op=Op.call { callee:=Callee.value (Operand.func f),args:=xs,argTypes:=ts }) (b:Array Value) (j:xs.map a.eval=b)
 (d:∀ args w,(callFunc f args).run prog w=.ok (.enter f args) w) (m:Calls prog f b w fun e w'=>∃ v',e=.returned v'∧R v' w') (i:∀ v' w',R v' w'->K (a.put o.dst v') w'):
 if Region.wanted o (yielded c a.tmps)=true then Oper.wp prog o a w K Q else E:=by
 have p:Region.wanted o (yielded c a.tmps)=true:=by simp[Region.wanted,g]
 rw[if_pos p];unfold Oper.wp
 have h:(execOp a.eval o).run prog w=.ok (.enter f b) w:=by
  have l:a.eval (Operand.func f)=.func (.func f) #[] #[]:=rfl;simp[execOp,n,resolve,invoke,j,l,Deferred.ofValue,d]
 rw[h,Oper.upon_enter];refine m.mono ?_;rintro e w' ⟨v',rfl,k⟩;exact i v' w' k
theorem ZkY (b o:Nat) (f:Int) (d:Option Addr) (n a:Nat) (w:World) (j:w.cell? ⟨b,o,none⟩=some (.int .i64 f)) (k:w.cell? ⟨b,o+1,none⟩=some (.slice d n a)) (l:0<=f) (g:f+n<=9000000000000000000):
 Calls prog 38 #[.pointer (some ⟨b,o,none⟩)] w fun e w'=>e=.returned (.int .i64 (f+n))∧Below w.heap.size w w':=by
 have c:IntKind.i64.wrap (f+(n:Int))=f+n:=by rw[IntKind.wrap_i64];omega
 have i:(n:Int)<=9000000000000000000:=by omega
 go_enter func38,ntmps38
 go_upto_region 1 with fail
 go_quiet(fail)
 go_wp2;go_ret;refine⟨?_,Xn (Below.refl _ _) _⟩
 first | rfl | (rw[c])
structure ZoJ (s:Sto):Prop where
 f0:0<=s.log.first
 f1:s.next<=4611686018427387904
 sy:I64 s.synced
 cu:I64 s.cur
theorem ZhU (w:World) (h:Z0 M I w p pd L s) (i:ZoJ s):
 Calls prog 14 #[ptr p] w fun e w'=>e=.returned (.int .i64 s.next)∧Below w.heap.size w w':=by
 obtain⟨n,l,c⟩:=h.recs.shape;obtain⟨-,g,a,-⟩:=h.cs;rw[c] at a;have f:=i.f1;have d:=i.f0;unfold Sto.next Lgb.next at f;have k:=ZZ (ZkY p 1 s.log.first n s.log.recs.length l w g a d (by omega))
 have m:Hid (s.next=s.log.first+s.log.recs.length):=ZZ rfl;rw[m.o];generalize s.log.first+(s.log.recs.length:Int)=nx at *;clear g a c f d
 go_enter func14,ntmps14
 go_wp2_with fail
 refine k.o.mono ?_;rintro e w' ⟨rfl,b⟩;have j:=ZZ b;clear b;go_wp2;go_ret;exact⟨rfl,j.o⟩
theorem ZjQ (w:World) (h:Z0 M I w p pd L s):
 Calls prog 18 #[ptr p] w fun e w'=>e=.returned (.int .i64 s.log.first)∧w'=w:=by
 obtain⟨-,a,-⟩:=h.cs;clear h
 go_enter func18,ntmps18
 go_wp2;go_ret;exact⟨rfl,rfl⟩
theorem ZhV (w:World) (h:Z0 M I w p pd L s):
 Calls prog 11 #[ptr p] w fun e w'=>e=.returned (.int .i64 s.synced)∧w'=w:=by
 obtain⟨-,-,-,-,-,-,a,-⟩:=h.cs;clear h
 go_enter func11,ntmps11
 go_wp2;go_ret;exact⟨rfl,rfl⟩
theorem ZtW (v:Value) (l:List Int) (x:Int) (w:World) (u:RdI w v l) (z:l.length<=1000000000):
 Calls prog 92 #[v,.int .i64 x] w fun e w'=>e=.returned (.int .i64 (l.getD (l.length-1) x))∧w'=w:=by
 obtain⟨ao,cap,rfl,p,f,-,-,c⟩:=u;have i:(l.length:Int)<=9223372036854775807:=by unfold maxLen at f;omega
 by_cases a:l.length=0
 ·have e:l=[]:=List.eq_nil_of_length_eq_zero a
  subst e;have j:((0:Int) == 0)=true:=rfl;clear c f p a;have t:([]:List Int).length=0:=rfl;rw[t]
  go_enter func92,ntmps92
  go_wp2;go_ret;exact⟨rfl,rfl⟩
 ·rcases c with c | ⟨b,B,rfl,k⟩
  ·rw[c] at a;simp at a
  have j:((l.length:Int) == 0)=false:=beq_eq_false_iff_ne.2 (by omega)
  have d:=k (l.length-1) (by omega)
  have e:l.getD (l.length-1) x=l.getD (l.length-1) 0:=by
   simp[List.getD,show l.length-1<l.length by omega]
  rw[e];obtain⟨y,n⟩:∃ y,y=l.getD (l.length-1) 0:=⟨_,rfl⟩;rw[<-n] at d ⊢;obtain⟨m,g⟩:∃ m,l.length=m+1:=⟨l.length-1,by omega⟩
  rw[g] at d j i ⊢;have q:m+1-1=m:=by omega
  rw[q] at d;have A:(m:Int)<=1000000000:=by omega
  clear n k e f p a g i z
  go_enter func92,ntmps92
  go_wp2;go_ret;exact⟨rfl,rfl⟩
def ZeB (first n:Int):Bool:=decide (n<first) || decide ((n-first) % 2≠0)
theorem ZmG (l:List Int) (first:Int):Xg l first=l.filter fun n=>!ZeB first n:=rfl
theorem ZtX (R:Nat) (first n:Int) (w:World) (c:w.cell? ⟨R,0,none⟩=some (.int .i64 first)) (i:0<=first) (k:first<=1000) (m:-1000000000000000000<=n) (l:n<=1000000000000000000):
 Calls prog 111 #[.int .i64 n,.pointer (some ⟨R,0,none⟩)] w fun e w'=>e=.returned (.bool (ZeB first n))∧Below w.heap.size w w':=by
 by_cases b:n<first
 ·have e:ZeB first n=true:=by unfold ZeB;rw[decide_eq_true b];rfl
  rw[e];clear e
  go_enter func111,ntmps111
  go_wp2;go_ret;exact⟨rfl,Below.refl _ _⟩
 ·have j:IntKind.i64.wrap (n-first)=n-first:=by rw[IntKind.wrap_i64];omega
  have d:(n-first).tmod 2=(n-first) % 2:=Int.tmod_eq_emod_of_nonneg (by omega)
  by_cases a:(n-first) % 2=0
  ·have e:ZeB first n=false:=by unfold ZeB;rw[decide_eq_false b,decide_eq_false (fun h=>h a)];rfl
   have f:((n-first) % 2 != 0)=false:=by rw[a];rfl
   have g:((n-first).tmod 2 != 0)=false:=by rw[d,a];rfl
   rw[e];clear e a
   go_enter func111,ntmps111
   go_wp2;go_ret;exact⟨rfl,Below.refl _ _⟩
  ·have e:ZeB first n=true:=by unfold ZeB;rw[decide_eq_false b,decide_eq_true a];rfl
   have f:((n-first) % 2 != 0)=true:=by rw[bne_iff_ne];exact a
   have g:((n-first).tmod 2 != 0)=true:=by rw[d,bne_iff_ne];exact a
   rw[e];clear e a
   go_enter func111,ntmps111
   go_wp2;go_ret;exact⟨rfl,Below.refl _ _⟩
theorem ZaZ (h:OkD d):∀ n ∈ Ql d,0<=n∧n<1048576:=fun n b=>by
 obtain⟨e,c,rfl⟩:=List.mem_map.1 b;have a:=(h.dir.may e c).1;unfold ZfK at a;simp only [Bool.and_eq_true,decide_eq_true_eq] at a;exact a
theorem Zci (first:Int) (w:World) (h:Dsk F w p d N T) (P:N<=1000000) (O:0<=first) (K:first<=1000):
 Calls prog 74 #[ptr p,.int .i64 first] w fun e w'=>∃ v,e=.returned v∧Qo w' w.heap.size v (Xg (Ql d) first)∧Below w.heap.size w w':=by
 obtain⟨b,i⟩:∃ b,b=w.alloc (.cells #[.int .i64 first] 3):=⟨_,rfl⟩;have f:Hid (Below w.heap.size w b):=ZZ (by rw[i];exact Jc _ _)
 have x:Hid (Bk 3 b w.heap.size #[.int .i64 first]):=ZZ (by rw[i];exact heap_alloc_new w _)
 have u:=ZZ (h.below f.o)
 have z:Hid (Calls prog 28 #[ptr p] b fun e w'=>∃ v,e=.returned v∧Qo w' b.heap.size v (Ql d)∧Below b.heap.size b w'):=ZZ (by
  obtain⟨L,q,j,-⟩:=u.o
  exact Zet b q j P)
 have m:Hid (∀ n ∈ Ql d,0<=n∧n<1048576):=ZZ (by
  obtain⟨L,q,j,-⟩:=u.o
  exact ZaZ j)
 have S:Hid ((Ql d).length<=1000000):=ZZ (by
  obtain⟨L,q,j,Q,-⟩:=u.o;have I:=Zbn d d.waits.length;rw[ZcY] at I;have:=Q.names;unfold Ql;rw[length_map]
  omega)
 clear h
 go_enter func74,ntmps74
 go_upto_region 1 with fail
 rw[<-i];clear i
 go_wp2_with fail
 refine z.o.mono ?_;rintro e C ⟨D,rfl,t,g⟩;have H:=ZZ (f.o.trans (g.mono f.o.size));have J:Hid (∀ W,Below b.heap.size C W->W.cell? ⟨w.heap.size,0,none⟩=some (.int .i64 first)):=ZZ (fun W l=>((x.o.keep ((l.block _ x.o.lt).trans (g.block _ x.o.lt))).cell 0 rfl).1)
 have B:=ZZ (ZhT 111 w.heap.size (ZeB first) D (Ql d) b.heap.size C t (fun n k=>by
  have:=m.o n k
  exact⟨by omega,by omega⟩) g.size S.o (enters_of func111 (by kernel_rfl) rfl) (fun W n k l=>ZtX w.heap.size first n W (J.o W l) O K (by have:=m.o n k;omega) (by have:=m.o n k;omega)))
 rw[<-ZmG] at B
 obtain⟨X,U,Y,G⟩:∃ a n c,D=.slice a n c:=by
  obtain⟨a,c,M⟩:=t.shape;exact⟨a,_,c,M⟩
 subst G;clear t g z
 go_wp2_with fail
 refine B.o.mono ?_;rintro e Z ⟨V,rfl,y,A⟩;have R:=ZZ (y.mono f.o.size);have E:=ZZ (H.o.trans (A.mono f.o.size));clear y A;go_wp2;go_ret;exact⟨_,rfl,R.o,E.o⟩
theorem ZfX (first:Int) (w:World) (h:Z0 M I w p pd L s) (b:Dsk F w pd d N T) (P:N<=1000000) (Z:2<=first) (H:first<=1000):
 Calls prog 50 #[ptr p,.int .i64 first] w fun e w'=>e=.returned (.int .i64 (Ya d first))∧Below w.heap.size w w':=by
 have A:=ZZ (Zci first w b P (by omega) H)
 have k:Hid (∀ n ∈ Xg (Ql d) first,0<=n∧n<1048576):=ZZ (by
  obtain⟨L,G,q,-⟩:=b
  exact fun n j=>ZaZ q n (List.mem_filter.1 j).1)
 have Q:Hid ((Ql d).length<=1000000000):=ZZ (by
  obtain⟨L,G,q,U,-⟩:=b;have B:=Zbn d d.waits.length;rw[ZcY] at B;have:=U.names;unfold Ql;rw[length_map]
  omega)
 obtain⟨C,-⟩:=h.cs;have D:Hid (Ya d first=(Xg (Ql d) first).getD ((Xg (Ql d) first).length-1) (first-2)+2):=ZZ rfl
 have f:Hid (0<=(Xg (Ql d) first).getD ((Xg (Ql d) first).length-1) (first-2)∧(Xg (Ql d) first).getD ((Xg (Ql d) first).length-1) (first-2)<=1048576):=ZZ (by
  by_cases O:(Xg (Ql d) first).length=0
  ·rw[List.eq_nil_of_length_eq_zero O]
   show 0<=first-2∧first-2<=1048576;omega
  ·have v:(Xg (Ql d) first).getD ((Xg (Ql d) first).length-1) (first-2) ∈ Xg (Ql d) first:=by
    rw[show(Xg (Ql d) first).getD ((Xg (Ql d) first).length-1) (first-2)=(Xg (Ql d) first)[(Xg (Ql d) first).length-1]'(by omega) by simp[List.getD,show(Xg (Ql d) first).length-1<(Xg (Ql d) first).length by omega]]
    exact getElem_mem _
   have:=k.o _ v
   omega)
 clear h b;rw[D.o];have E:Hid ((Xg (Ql d) first).length<=1000000000):=ZZ (Nat.le_trans (List.length_filter_le _ _) Q.o);generalize Xg (Ql d) first=l at *;obtain⟨y,g⟩:∃ y,y=l.getD (l.length-1) (first-2):=⟨_,rfl⟩;rw[<-g] at f ⊢;have R:=ZZ g;clear g
 go_enter func50,ntmps50
 go_wp2_with fail
 refine A.o.mono ?_;rintro e K ⟨S,rfl,i,m⟩;have z:=ZZ m
 have t:=ZZ (i.rd (fun n j=>by
  have:=k.o n j
  exact⟨by omega,by omega⟩))
 obtain⟨Y,W,c1,x⟩:∃ a n c,S=.slice a n c:=by
  obtain⟨a,c,J⟩:=i.shape;exact⟨a,_,c,J⟩
 subst x;have u:=ZZ (ZtW _ l (first-2) K t.o E.o);rw[<-R.o] at u;have X:=f.o.1;have V:=f.o.2;clear i m t C
 go_wp2_with fail
 refine u.o.mono ?_;rintro e W2 ⟨rfl,rfl⟩;go_wp2;go_ret;exact⟨rfl,z.o⟩
def Zyz:Qv × Value × Value:=(Xr,.slice none 0 0,.slice none 0 0)
def Zcj (l:List (Qv × Value × Value)):Qv × Value × Value:=l.getD (l.length-1) Zyz
theorem ZjR (h:L.bs.map Prod.fst=s.bases):(Zcj L.bs).1=s.base:=by
 unfold Zcj Sto.base;rw[<-h,length_map];simp only [List.getD,List.getElem?_map]
 cases L.bs[L.bs.length-1]? <;> rfl
theorem ZhW {l:List (Qv × Value × Value)} (h:l.length≠0):Zcj l ∈ l:=by
 unfold Zcj;rw[show l.getD (l.length-1) Zyz=l[l.length-1]'(by omega) by simp[List.getD,show l.length-1<l.length by omega]]
 exact getElem_mem _
theorem ZtY {l:List (Qv × Value × Value)} (h:w.ownsRow 0 41 6 v l.length (Xh l)) (j:l.length≠0):
 ∃ g cap,v=.slice (some ⟨g,0,none⟩) l.length cap∧∀ k u,k<6->(snC (Zcj l))[k]?=some u->w.cell? ⟨g,(l.length-1)*6+k,none⟩=some u:=by
 rcases h.2 with ⟨_,n⟩ | ⟨g,cap,cur,i,_,f,q,t,p,d⟩
 ·exact absurd n j
 ·refine⟨g,cap,i,fun k u m c=>?_⟩
  have b:l.length-1<l.length:=by omega
  have e:Zcj l=l[l.length-1]:=by unfold Zcj;simp[List.getD,b]
  rw[e] at c;rw[cell_of_row w g _ _ _ _ f];have a:=ZhR l (l.length-1) k b m;rw[c,<-d,List.getElem?_take] at a;rw[if_pos (by omega)] at a
  rw[<-Array.getElem?_toList];exact a
theorem ZtZ (v:Value) (l:List (Qv × Value × Value)) (w:World) (h:w.ownsRow 0 41 6 v l.length (Xh l)) (K:l.length≠0) (X:l.length<=1000000000) (H:∃ a n c a' n' c',(Zcj l).2.1=.slice a n c∧(Zcj l).2.2=.slice a' n' c'):
 Calls prog 78 #[v,.agg #[.int .i64 0,.int .i64 0,.slice none 0 0,.bool false,.int .i64 0,.slice none 0 0]] w fun e w'=>e=.returned (snV (Zcj l))∧Below w.heap.size w w':=by
 obtain⟨g,cap,rfl,d⟩:=ZtY h K;obtain⟨x,A⟩:∃ x,x=Zcj l:=⟨_,rfl⟩;rw[<-A] at d H ⊢;obtain⟨m,u⟩:∃ m,l.length=m+1:=⟨l.length-1,by omega⟩
 have t:l.length-1=m:=by omega
 rw[t] at d;obtain⟨⟨N,⟨kd,LL,B,P⟩,Z⟩,vl,vt⟩:=x;obtain⟨E,y,lc,F,C,G,M,J⟩:=H
 dsimp only at M J
 subst M J;have q:=d 0 _ (by decide) rfl
 have O:=d 1 _ (by decide) rfl
 have D:=d 2 _ (by decide) rfl
 have I:=d 3 _ (by decide) rfl
 have z:=d 4 _ (by decide) rfl
 have L:=d 5 _ (by decide) rfl
 have i:g<w.heap.size:=World.block_lt_of_cell? w ⟨g,m*6+0,none⟩ q;rw[u];have U:((m+1:Nat):Int)≠0:=by omega
 have aa:((((m+1:Nat):Int)) == 0)=false:=beq_eq_false_iff_ne.2 U;have Y:(m:Int)<=1000000000:=by omega
 obtain⟨b,k⟩:∃ b,b=(w.alloc (.cells #[.int .i64 0,.int .i64 0,.slice none 0 0,.bool false,.int .i64 0,.slice none 0 0] 41)).alloc (.cells #[.int .i64 0,.int .i64 0,.slice none 0 0,.bool false,.int .i64 0,.slice none 0 0] 41):=⟨_,rfl⟩;have f:Hid (Below w.heap.size w b):=ZZ (by rw[k];exact((Below.refl _ _).alloc zL _).alloc (by simp) _)
 have j:Hid (Bn b (w.heap.size+1) #[.int .i64 0,.int .i64 0,.slice none 0 0,.bool false,.int .i64 0,.slice none 0 0]):=ZZ (by rw[k];exact ZdM w _ _)
 have e0:b.cell? ⟨g,m*6,none⟩=some (.int .i64 N):=(f.o.cell (p:=⟨g,m*6,none⟩) i).trans q;have e1:b.cell? ⟨g,m*6+1,none⟩=some (.int .i64 kd):=(f.o.cell (p:=⟨g,m*6+1,none⟩) i).trans O;have e2:b.cell? ⟨g,m*6+2,none⟩=some (.slice E y lc):=(f.o.cell (p:=⟨g,m*6+2,none⟩) i).trans D;have e3:b.cell? ⟨g,m*6+3,none⟩=some (.bool B):=(f.o.cell (p:=⟨g,m*6+3,none⟩) i).trans I;have e4:b.cell? ⟨g,m*6+4,none⟩=some (.int .i64 P):=(f.o.cell (p:=⟨g,m*6+4,none⟩) i).trans z;have e5:b.cell? ⟨g,m*6+5,none⟩=some (.slice F C G):=(f.o.cell (p:=⟨g,m*6+5,none⟩) i).trans L;obtain⟨W,y0⟩:=j.o.cell 0;obtain⟨Q,y1⟩:=j.o.cell 1;obtain⟨S,y2⟩:=j.o.cell 2;obtain⟨T,y3⟩:=j.o.cell 3;obtain⟨R,y4⟩:=j.o.cell 4;obtain⟨V,y5⟩:=j.o.cell 5;clear q O D I z L d h A u t K X
 go_enter func78,ntmps78
 go_upto_region 1 with fail
 rw[<-k];clear k;go_wp2;refine bodyPost_ret (v:=.agg #[.int .i64 N,.int .i64 kd,.slice E y lc,.bool B,.int .i64 P,.slice F C G]) (by simp[results,Tryz.results78,go_sem,W,Q,S,T,R,V]) rfl ?_
 exact⟨rfl,ZaY f.o _ (by omega) _ _ _ _ _ _⟩
theorem SnR.shape {x:Qv × Value × Value} (h:SnR w x):∃ a n c a' n' c',x.2.1=.slice a n c∧x.2.2=.slice a' n' c':=by
 obtain⟨a,c,b,-⟩:=h.l;obtain⟨a',c',d⟩:=h.t.shape;exact⟨a,_,c,a',_,c',b,d⟩
theorem Zqd (w:World) (h:Z0 M I w p pd L s) (U:s.bases.length≠0) (Y:s.bases.length<=1000000000):
 Calls prog 37 #[ptr p] w fun e w'=>e=.returned (snV (Zcj L.bs))∧Below w.heap.size w w':=by
 have S:L.bs.length=s.bases.length:=by rw[<-h.bsEq,length_map]
 have u:=ZhW (l:=L.bs) (by omega)
 have i:=ZZ (h.base _ u);obtain⟨d,j⟩:∃ d,d=w.alloc (.cells #[.int .i64 0,.int .i64 0,.slice none 0 0,.bool false,.int .i64 0,.slice none 0 0] 41):=⟨_,rfl⟩;have t:Hid (Below w.heap.size w d):=ZZ (by rw[j];exact Jc _ _)
 have W:Hid (Bn d w.heap.size #[.int .i64 0,.int .i64 0,.slice none 0 0,.bool false,.int .i64 0,.slice none 0 0]):=ZZ (by rw[j];exact heap_alloc_new w _)
 have m:=ZZ (h.below t.o);obtain⟨-,-,-,-,y,-⟩:=m.o.cs;have f:=ZZ (ZtZ L.bv L.bs d m.o.bases (by omega) (by omega) i.o.shape)
 obtain⟨ba,bn,bc,A⟩:∃ a n c,L.bv=.slice a n c:=by
  rcases h.bases.2 with ⟨k,_⟩ | ⟨g,cap,cur,k,_⟩
  ·exact⟨_,_,_,k⟩
  ·exact⟨_,_,_,k⟩
 rw[A] at y f;obtain⟨x,z⟩:∃ x,x=Zcj L.bs:=⟨_,rfl⟩;rw[<-z] at f i ⊢;obtain⟨K,E,lc,O,J,T,C,B⟩:=i.o.shape;obtain⟨⟨V,⟨kd,LL,G,X⟩,Z⟩,vl,vt⟩:=x
 dsimp only at C B
 subst C B;unfold snV snC at f ⊢
 dsimp only at f ⊢
 clear h A z u S U Y m i
 go_enter func37,ntmps37
 go_upto_region 1 with fail
 rw[<-j];clear j
 go_wp2_with fail
 refine f.o.mono ?_;rintro e W1 ⟨rfl,q⟩;have F:=ZZ (t.o.trans (q.mono t.o.size));have b:=W.o.below q zL;obtain⟨R,y0⟩:=b.cell 0;obtain⟨D,y1⟩:=b.cell 1;obtain⟨N,y2⟩:=b.cell 2;obtain⟨P,y3⟩:=b.cell 3;obtain⟨H,y4⟩:=b.cell 4;obtain⟨Q,y5⟩:=b.cell 5;clear q b y;go_wp2;refine bodyPost_ret (v:=.agg #[.int .i64 V,.int .i64 kd,.slice K E lc,.bool G,.int .i64 X,.slice O J T]) (by simp[results,Tryz.results37,go_sem,R,D,N,P,H,Q]) rfl ?_
 exact⟨rfl,ZaY F.o _ (by omega) _ _ _ _ _ _⟩
def Zxz (w:World) (s:Qv) (e:Ending) (w':World):Prop:=
 ∃ vl vt,e=.returned (snV (s,vl,vt))∧SnR w' (s,vl,vt)∧(∀ b,vl.ownBlock=some b->w.heap.size<=b)∧(∀ b,vt.ownBlock=some b->w.heap.size<=b)∧Below w.heap.size w w'
theorem ZrD (x:Qv × Value × Value) (w:World) (hx:SnR w x) (F:x.1.st.L.length<=1000000) (M:x.1.tab.length<=1000000):
 Calls prog 47 #[snV x] w fun e w'=>Zxz w x.1 e w':=by
 obtain⟨⟨idx,⟨kind,L,y,z⟩,k⟩,vl,vt⟩:=x;obtain⟨q,u,l,p,m⟩:=hx
 dsimp only at q u l p m F M ⊢
 obtain⟨R,lc,rfl,-⟩:=id q;obtain⟨S,tc,rfl⟩:=u.shape;have X:=ZZ (fun W (h:Below w.heap.size w W)=>Zfr _ L W (q.below h zL) F)
 have U:=ZZ (fun W (h:Below w.heap.size w W)=>Zfs _ k W (u.below h zL) M)
 have H:=ZZ q.i64;have Y:∀ e ∈ k,ZkN e:=u.choose_spec.choose_spec.2.2.2.2.1;have T:=ZZ Y;obtain⟨d,n⟩:∃ d,d=(w.alloc (.cells #[.int .i64 idx,.int .i64 kind,.slice R L.length lc,.bool y,.int .i64 z,.slice S k.length tc] 41)).alloc (.cells #[.int .i64 0,.int .i64 0,.slice none 0 0,.bool false,.int .i64 0,.slice none 0 0] 41):=⟨_,rfl⟩;have j:Hid (Below w.heap.size w d):=ZZ (by rw[n];exact((Below.refl _ _).alloc zL _).alloc (by simp) _)
 have f:Hid (Bn d w.heap.size #[.int .i64 idx,.int .i64 kind,.slice R L.length lc,.bool y,.int .i64 z,.slice S k.length tc]):=ZZ (by rw[n];exact(Below.heap_alloc _ _ _ (by simp)).trans (heap_alloc_new w _))
 have ad:Hid (Bn d (w.heap.size+1) #[.int .i64 0,.int .i64 0,.slice none 0 0,.bool false,.int .i64 0,.slice none 0 0]):=ZZ (by rw[n];exact ZdM w _ _)
 have ak:d.heap.size=w.heap.size+2:=by rw[n];simp
 unfold snV snC
 dsimp only
 clear q u Y F M
 go_enter func47,ntmps47
 go_upto_region 1 with fail
 rw[<-n];clear n;obtain⟨p2,g2⟩:=f.o.cell 2;obtain⟨P,g5⟩:=f.o.cell 5
 go_cut[] (fun wc=>Hid (ZmD w ⟨idx,⟨kind,L,y,z⟩,k⟩ wc))
 case first=>
  go_region_with
   (first
    | (go_at_call 39;refine(X.o _ (by first | exact j.o.drew | exact j.o)).mono ?_;rintro e W1 ⟨v1,rfl,I,K⟩;have D:Below d.heap.size d W1:=(by first | exact((Below.refl _ _).drew).trans K | exact K);have ag:=ZZ I;have B:=ZZ D;obtain⟨a1,c1,ai⟩:∃ a c,v1=.slice a L.length c:=(by obtain⟨a,c,h,-⟩:=I.rd H.o;exact⟨a,c,h⟩);subst ai;obtain⟨q2,k2⟩:=(f.o.below D zL).cell 2;obtain⟨q5,k5⟩:=(f.o.below D zL).cell 5;clear I K D)
    | (go_at_call 40;refine(U.o _ (j.o.trans (B.o.mono j.o.size))).mono ?_;rintro e W2 ⟨v2,rfl,G,E⟩;have af:=ZZ G;have t:=ZZ (B.o.trans (E.mono B.o.size));have ae:=ZZ (ag.o.below E zL);obtain⟨a2,c2,aj⟩:=G.shape;subst aj;obtain⟨r2,j2⟩:=(f.o.below t.o zL).cell 2;obtain⟨r5,j5⟩:=(f.o.below t.o zL).cell 5;clear G E))
  all_goals
   go_wp2_with fail
   go_meet
   exact ZZ (ZhK (f.o.below t.o zL) (ad.o.below t.o zL) (ae.o.mono (by first | omega | (show w.heap.size+2<=d.heap.size;omega))) H.o (af.o.mono (by have:=B.o.size;omega)) T.o m l p (j.o.trans (t.o.mono j.o.size)))
 case rest=>
  have Q:=hcut;clear hcut j f ad ak p2 g2 P g5 X U H T d l p m;obtain⟨W,rfl⟩:∃ W,W=wc:=⟨_,rfl⟩;obtain⟨sa,sc,ea,Z,i,g,hL,ab,N,ac,m,l,p,O⟩:=Q.o;have HY:=ZZ g;have HL:=ZZ hL;have J:=ZZ ab;have A:=ZZ N;have aa:=ZZ ac;have C:=ZZ (And.intro m (And.intro l p));have HB:=ZZ O
  dsimp only at i HL J A aa C
  obtain⟨p0,g0⟩:=i.cell 0;obtain⟨p1,g1⟩:=i.cell 1;obtain⟨p2,g2⟩:=i.cell 2;obtain⟨p3,g3⟩:=i.cell 3;obtain⟨p4,g4⟩:=i.cell 4;obtain⟨P,g5⟩:=i.cell 5;obtain⟨z0,y0⟩:=g.cell 0;obtain⟨z1,y1⟩:=g.cell 1;obtain⟨z2,y2⟩:=g.cell 2;obtain⟨z3,y3⟩:=g.cell 3;obtain⟨z4,y4⟩:=g.cell 4;obtain⟨z5,y5⟩:=g.cell 5;have al:¬ (w.heap.size=w.heap.size+1):=by omega
  clear i g hL ab N ac m l p O Q;go_wp2;refine bodyPost_ret (v:=.agg #[.int .i64 idx,.int .i64 kind,.slice sa L.length sc,.bool y,.int .i64 z,.slice ea k.length Z]) (by simp[results,Tryz.results47,go_sem,z0,z1,z2,z3,z4,z5]) rfl ?_
  have V:=ZpZ W (w.heap.size+1) (.int .i64 idx) (.int .i64 kind) (.slice sa L.length sc) (.bool y) (.int .i64 z) (.slice ea k.length Z);exact⟨_,_,rfl,⟨HL.o.but V (.inr fun b h=>by have:=J.o b h;omega),(A.o.rd aa.o).but V (.inr fun b h=>by have:=A.o.fresh b h;omega),C.o.2.1,C.o.2.2,C.o.1⟩,fun b h=>by have:=J.o b h;omega,fun b h=>by have:=A.o.fresh b h;omega,Zew HB.o _ (by omega) _ _ _ _ _ _⟩
theorem ZxA:(prog.info? 108).map (fun i=>(i.zero,i.size,i.bytes))=some (some (.agg #[.int .i64 0,.int .i64 0,.int .i64 0]),3,24):=by kernel_rfl
theorem ZkZ (w:World) (ty:TypeId) (v:Value) (l:List Pce) (h:w.ownsRow 0 108 3 v l.length (Qx l)) (c:Pce) (n:l.length<=10000000):
 ∃ v' w',(Builtin.append_ #[71,71] ty #[v,.slice (some ⟨w.heap.size,0,none⟩) 1 1]).run prog (w.alloc (.cells (pcC c) 108))=.ok v' w'∧
  w'.ownsRow 0 108 3 v' (l++[c]).length (Qx (l++[c]))∧(w.alloc (.cells (pcC c) 108)).grownBy w' v.ownBlock∧(v'.ownBlock=v.ownBlock∨v'.ownBlock=some (w.heap.size+1)):=by
 obtain⟨m,d,g,f,a⟩:=info_parts ZxA
 obtain⟨v',w',e,k,b,_,hl⟩:=run_append_own_at (P:=prog) (w.alloc (.cells (pcC c) 108)) 0 71 ty 108 m _ 3 24 underlying71 d g f a rfl (by decide) v l.length (Qx l) (World.ownsRow.alloc h _)
  ⟨w.heap.size,0,none⟩ 1 1 (Qx [c]) (Zas [c]) (fun j u i=>by
   rw[Addr.add_lit,Nat.zero_add,cell_of_row _ w.heap.size j _ 108 (0,0) (heap_alloc_new w _)]
   simpa[Qx] using i) (ZoI [c]) (by unfold maxLen;omega) (by omega) (Nat.zero_le _)
 refine⟨v',w',e,?_,b,?_⟩
 ·rw[List.length_append,ZhP]
  exact k
 ·rcases hl with hl | hl
  ·exact .inl hl
  ·exact .inr (by rw[hl];simp)
theorem Zaa (w:World) {b:Array Oper} {rest:List Oper} {o:Oper} {a:Act} {Q:Exit->Act->World->Prop} (d:o.guard=none) (s x:Operand)
 (n:o.op=.call { callee:=.builtin .append,args:=#[s,x],argTypes:=#[71,71] })
 (v:Value) (l:List Pce) (m:a.eval s=v) (h:w.ownsRow 0 108 3 v l.length (Qx l)) (c:Pce) (e:a.eval x=.slice (some ⟨w.heap.size,0,none⟩) 1 1) (q:l.length<=10000000)
 (g:∀ v' w',w'.ownsRow 0 108 3 v' (l++[c]).length (Qx (l++[c]))->(w.alloc (.cells (pcC c) 108)).grownBy w' v.ownBlock->(v'.ownBlock=v.ownBlock∨v'.ownBlock=some (w.heap.size+1))->
  wpList prog b Q rest (a.put o.dst v') w'):wpList prog b Q (o::rest) a (w.alloc (.cells (pcC c) 108)):=
 wpList_plain d fun _ p=>by
  obtain⟨v',w',i,k,f,j⟩:=ZkZ w o.type v l h c q;unfold Oper.wp execOp;simp only [n,resolve,invoke,builtin,Sem.run_bind,Sem.run_pure,Result.andThen_ok,List.map_toArray,map_cons,map_nil,m,e,i];exact p _ _ (g v' w' k f j)
theorem ZhX (w:World) (ty:TypeId) (v:Value) (b:List Rec) (c:Q9 w 0 v b) (i:Value) (l:List Rec) (p:RdR w i l) (A:b.length+l.length<=10000000):
 ∃ v' w',(Builtin.append_ #[29,29] ty #[v,i]).run prog w=.ok v' w'∧Q9 w' 0 v' (b++l)∧w.grownBy w' v.ownBlock∧(v'.ownBlock=v.ownBlock∨v'.ownBlock=some w.heap.size):=by
 obtain⟨f,g,q,m,j⟩:=info_parts Zdc;obtain⟨ao,cap,rfl,z,y,u,_,x⟩:=p
 cases ao with
 | none=>
  have n:=u rfl;subst n;have e:l=[]:=List.eq_nil_of_length_eq_zero (by omega)
  subst e;have d:=run_append_owned_none (P:=prog) w 0 29 ty 62 f 7 underlying29 g v b.length (Qq b) c;exact⟨v,w,d,by rw[append_nil];exact c,⟨rfl,rfl,rfl,Nat.le_refl _,fun _ _ _=>rfl⟩,.inl rfl⟩
 | some a=>
  obtain⟨v',w',d,t,k,_,e⟩:=run_append_own_at (P:=prog) w 0 29 ty 62 f _ 7 56 underlying29 g q m j rfl (by decide) v b.length (Qq b) c a l.length cap (Qq l)
   (Yx l) (RdR.cells x a rfl) (Zbq l) (by unfold maxLen;omega) (by omega) (Nat.zero_le _)
  refine⟨v',w',d,?_,k,e⟩;unfold Q9;rw[List.length_append,Zax];exact t
theorem Zbs (w:World) {d:Array Oper} {rest:List Oper} {o:Oper} {a:Act} {Q:Exit->Act->World->Prop} (e:o.guard=none) (s x:Operand)
 (t:o.op=.call { callee:=.builtin .append,args:=#[s,x],argTypes:=#[29,29] })
 (v:Value) (b:List Rec) (q:a.eval s=v) (f:Q9 w 0 v b) (c:Value) (l:List Rec) (g:a.eval x=c) (n:RdR w c l) (u:b.length+l.length<=10000000)
 (h:∀ v' w',Q9 w' 0 v' (b++l)->w.grownBy w' v.ownBlock->(v'.ownBlock=v.ownBlock∨v'.ownBlock=some w.heap.size)->wpList prog d Q rest (a.put o.dst v') w'):wpList prog d Q (o::rest) a w:=
 wpList_plain e fun _ j=>by
  obtain⟨v',w',k,p,i,m⟩:=ZhX w o.type v b f c l n u;unfold Oper.wp execOp;simp only [t,resolve,invoke,builtin,Sem.run_bind,Sem.run_pure,Result.andThen_ok,List.map_toArray,map_cons,map_nil,q,g,k];exact j _ _ (h v' w' p i m)
theorem Xm {s:Nat} (h:w.ownsRow base t s v n xs) {g:Nat} (a:v.ownBlock=some g):∃ cs,Bk t w g cs:=by
 rcases h.2 with ⟨b,_⟩ | ⟨g',cap,cur,b,_,c,_⟩
 ·rw[b] at a;cases a
 ·rw[b] at a
  obtain rfl:g'=g:=by simpa[Value.ownBlock] using a
  exact⟨_,c⟩
theorem Zg {s:Nat} (h:w.ownsRow base t s v n xs):∃ a c,v=.slice a n c:=by
 rcases h.2 with ⟨b,d⟩ | ⟨g',cap,cur,b,_⟩
 ·exact⟨_,_,by rw[b,d]⟩
 ·exact⟨_,_,b⟩
structure ZhY (t:TypeId) (w:World) (b o:Nat) (cs:Array Value) (rv pv:Value) (g:Lgb):Prop where
 blk:Bk t w b cs
 c0:cs[o]?=some (.int .i64 g.first)
 c1:cs[o+1]?=some rv
 c2:cs[o+2]?=some pv
 recs:Q9 w 0 rv g.recs
 pcs:w.ownsRow 0 108 3 pv g.pcs.length (Qx g.pcs)
def Zjf (b:Nat) (rv pv:Value) (k:Nat):Prop:=k=b∨rv.ownBlock=some k∨pv.ownBlock=some k
theorem ZhY.neR (h:ZhY t w b o cs rv pv g) (c:t≠62):rv.ownBlock≠some b:=fun e=>by
 obtain⟨d,a⟩:=Xm h.recs e;exact(h.blk.ne a c) rfl
theorem ZhY.neP (h:ZhY t w b o cs rv pv g) (c:t≠108):pv.ownBlock≠some b:=fun e=>by
 obtain⟨d,a⟩:=Xm h.pcs e;exact(h.blk.ne a c) rfl
theorem ZhY.neRP (h:ZhY t w b o cs rv pv g):∀ k,rv.ownBlock=some k->pv.ownBlock≠some k:=fun k a c=>by
 obtain⟨f,d⟩:=Xm h.recs a;obtain⟨i,e⟩:=Xm h.pcs c;exact(d.ne e (by decide)) rfl
theorem ZhY.below (h:ZhY t w b o cs rv pv g) (a:Below w.heap.size w w'):ZhY t w' b o cs rv pv g:=
 ⟨h.blk.keep (a.block b h.blk.lt),h.c0,h.c1,h.c2,h.recs.below a zL,Qh h.pcs fun g d=>a.block g (by
  obtain⟨e,c⟩:=Xm h.pcs d
  exact c.lt)⟩
def ZeC (t:TypeId) (w:World) (b o:Nat) (cs:Array Value) (rv pv:Value) (g:Lgb) (w':World):Prop:=
 ∃ rv' pv',ZhY t w' b o (((cs.setIfInBounds o (.int .i64 g.first)).setIfInBounds (o+1) rv').setIfInBounds (o+2) pv') rv' pv' g∧Qj (Zjf b rv pv) w w'∧
  (∀ k,Zjf b rv' pv' k->Zjf b rv pv k∨w.heap.size<=k)
theorem ZeC.more {a d:World} (h:ZeC t w b o cs rv pv g a) (c:Below a.heap.size a d):ZeC t w b o cs rv pv g d:=by
 obtain⟨l,e,k,j,f⟩:=h;exact⟨l,e,k.below c,j.trans (G:=fun _=>False) (Qj.ofBelow c) (fun _ _ i=>i.elim),f⟩
theorem ZeD {x:Value} (h:cs[j]?=some x):cs.setIfInBounds j x=cs:=by
 apply Array.ext_getElem?;intro i;rw[Array.getElem?_setIfInBounds];by_cases e:j=i
 ·subst e
  have a:j<cs.size:=(Array.getElem?_eq_some_iff.1 h).1;rw[if_pos rfl,if_pos a,h]
 ·simp[e]
theorem ZjS (t:TypeId) (X:t≠62) (I:t≠108) (b o:Nat) (cs:Array Value) (rv pv:Value) (g:Lgb) (name first:Int) (w:World) (h:ZhY t w b o cs rv pv g) (aj:g.pcs.length<=1000000):
 Calls prog 53 #[.pointer (some ⟨b,o,none⟩),.int .i64 name,.int .i64 first] w fun e w'=>e=.returned (.tuple #[])∧ZeC t w b o cs rv pv (g.start name first) w':=by
 obtain⟨H,Q,A⟩:=Zg h.pcs
 -- the world ahead of the append
 obtain⟨a,n⟩:∃ a,a=if g.pcs.length=0 then w.setCell ⟨b,o,none⟩ (.int .i64 first) else w:=⟨_,rfl⟩
 obtain⟨m,p⟩:∃ m,m=if g.pcs.length=0 then cs.setIfInBounds o (.int .i64 first) else cs:=⟨_,rfl⟩
 have af:a.heap.size=w.heap.size:=by
  rw[n];split
  ·simp
  ·rfl
 have M:∀ k,k≠b->a.heap[k]?=w.heap[k]?:=fun k hk=>by
  rw[n];split
  ·exact Below.heap_setCell _ _ _ _ hk
  ·rfl
 have S:Qj (Zjf b rv pv) w a:=by
  rw[n];split
  ·exact(Qj.refl _ _).setCell o (fun _=>.inl rfl) _
  ·exact Qj.refl _ _
 have Y:Bk t a b m:=by
  rw[n,p];split
  ·exact h.blk.set o _
  ·exact h.blk
 have T:g.start name first=⟨if g.pcs.length=0 then first else g.first,g.recs,g.pcs++[(⟨name,first,first⟩:Pce)]⟩:=rfl
 have c:ZhY t a b o m rv pv ⟨if g.pcs.length=0 then first else g.first,g.recs,g.pcs⟩:=by
  refine⟨Y,?_,?_,?_,Qh h.recs fun k hk=>M k (fun e=>h.neR X (by subst e;exact hk)),Qh h.pcs fun k hk=>M k (fun e=>h.neP I (by subst e;exact hk))⟩
  ·rw[p]
   have J:o<cs.size:=(Array.getElem?_eq_some_iff.1 h.c0).1;split
   ·simp[J]
   ·exact h.c0
  ·rw[p]
   split
   ·rw[Array.getElem?_setIfInBounds,if_neg (by omega)]
    exact h.c1
   ·exact h.c1
  ·rw[p]
   split
   ·rw[Array.getElem?_setIfInBounds,if_neg (by omega)]
    exact h.c2
   ·exact h.c2
 have L:Hid (∀ d f,f.ownsRow 0 108 3 d (g.pcs++[(⟨name,first,first⟩:Pce)]).length (Qx (g.pcs++[(⟨name,first,first⟩:Pce)]))->(a.alloc (.cells (pcC ⟨name,first,first⟩) 108)).grownBy f pv.ownBlock->(d.ownBlock=pv.ownBlock∨d.ownBlock=some (a.heap.size+1))->
  ZeC t w b o cs rv pv (g.start name first) (f.setCell ⟨b,o+2,none⟩ d)∧f.cell? ⟨b,o+2,none⟩=some pv∧f.frozen? ⟨b,o+2,none⟩=false):=ZZ (fun d f i j hv=>by
  have U:∀ k,k<a.heap.size->pv.ownBlock≠some k->f.heap[k]?=a.heap[k]?:=fun k hk ac=>by
   rw[j.block k (by simp;omega) (fun e=>ac e.symm),Below.heap_alloc _ _ _ hk]
  have B:Bk t f b m:=c.blk.keep (U b c.blk.lt (c.neP I));have ag:a.heap.size+1<=f.heap.size:=by have:=j.size;simpa using this
  have ab:((cs.setIfInBounds o (.int .i64 (g.start name first).first)).setIfInBounds (o+1) rv).setIfInBounds (o+2) d=m.setIfInBounds (o+2) d:=by
   congr 1
   rw[T,p]
   dsimp only
   by_cases l:g.pcs.length=0
   ·rw[if_pos l,if_pos l]
    exact ZeD (by rw[Array.getElem?_setIfInBounds,if_neg (by omega)];exact h.c1)
   ·rw[if_neg l,if_neg l,ZeD h.c0,ZeD h.c1]
  have aa:d.ownBlock≠some b:=fun e=>by
   obtain⟨ad,O⟩:=Xm i e;exact(B.ne O I) rfl
  refine⟨⟨rv,d,?_,?_,?_⟩,(B.cell _ c.c2).1,(B.cell _ c.c2).2⟩
  ·rw[ab]
   have J:o+2<m.size:=(Array.getElem?_eq_some_iff.1 c.c2).1;refine⟨B.set _ _,?_,?_,by simp[J],Qh c.recs fun k hk=>?_,Qh i fun k hk=>Below.heap_setCell _ _ _ _ (fun e=>aa (by subst e;exact hk))⟩
   ·rw[Array.getElem?_setIfInBounds,if_neg (by omega)]
    exact c.c0
   ·rw[Array.getElem?_setIfInBounds,if_neg (by omega)]
    exact c.c1
   ·obtain⟨ad,O⟩:=Xm c.recs hk
    rw[Below.heap_setCell _ _ _ _ (fun e=>c.neR X (by subst e;exact hk)),U k O.lt (c.neRP k hk)]
  ·refine(S.trans (G:=Zjf b rv pv) ?_ (fun _ _ E=>E)).setCell _ (fun _=>.inl rfl) _
   exact((Qj.refl _ a).alloc _).trans (Qj.ofGrown (F:=Zjf b rv pv) j fun k e _=>.inr (.inr e)) (fun _ _ E=>E)
  ·intro k hk
   rcases hk with hk | hk | hk
   ·exact .inl (.inl hk)
   ·exact .inl (.inr (.inl hk))
   ·rcases hv with hv | hv
    ·exact .inl (.inr (.inr (by rw[<-hv];exact hk)))
    ·rw[hv] at hk
     have:=Option.some.inj hk
     exact .inr (by omega))
 have P:Hid (a.ownsRow 0 108 3 (.slice H g.pcs.length Q) g.pcs.length (Qx g.pcs)):=ZZ (by rw[<-A];exact c.pcs)
 have Z:Hid (g.pcs.length<=10000000):=ZZ (by omega)
 have q:=ZZ A;have D:=(h.blk.cell _ h.c2).1;have z:=(h.blk.cell _ h.c0);obtain⟨z,W⟩:=z;have K:=(c.blk.cell _ c.c2).1;rw[A] at D K;have V:=ZZ n;have ai:(g.pcs.length:Int)<=1000000:=by omega
 clear A c Y M S af T p h n;by_cases l:g.pcs.length=0
 ·have ae:((g.pcs.length:Int) == 0)=true:=by rw[beq_iff_eq];omega
  have C:Hid (a=w.setCell ⟨b,o,none⟩ (.int .i64 first)):=ZZ (by rw[V.o,if_pos l])
  clear l
  go_enter func53,ntmps53
  go_upto_region 2 with fail
  rw[<-C.o];clear C z W D
  go_wp2_with(at_builtin;refine(fun(h:True->_)=>h trivial) ?_)
  intro _;refine Zaa a rfl _ _ rfl (.slice H g.pcs.length Q) g.pcs rfl P.o (⟨name,first,first⟩:Pce) rfl Z.o ?_;intro d f i j hv;obtain⟨v,N,s2⟩:=L.o d f i (by rw[q.o];exact j) (by rw[q.o];exact hv)
  rw[q.o] at N;have R:=ZZ v;obtain⟨a9,c9,y⟩:=Zg i;obtain⟨x,u⟩:∃ x,x=(g.pcs++[(⟨name,first,first⟩:Pce)]).length:=⟨_,rfl⟩;rw[<-u] at y;subst y;clear v i j hv u K;go_wp2;go_end0;exact⟨rfl,R.o⟩
 ·have ae:((g.pcs.length:Int) == 0)=false:=beq_eq_false_iff_ne.2 (by omega)
  have C:Hid (a=w):=ZZ (by rw[V.o,if_neg l])
  clear l z W K;rw[C.o] at L P
  go_enter func53,ntmps53
  go_wp2_with(at_builtin;refine(fun(h:True->_)=>h trivial) ?_)
  intro _;refine Zaa w rfl _ _ rfl (.slice H g.pcs.length Q) g.pcs rfl P.o (⟨name,first,first⟩:Pce) rfl Z.o ?_;intro d f i j hv;obtain⟨v,N,s2⟩:=L.o d f i (by rw[q.o];exact j) (by rw[q.o];exact hv)
  rw[q.o] at N;have R:=ZZ v;obtain⟨a9,c9,y⟩:=Zg i;obtain⟨x,u⟩:∃ x,x=(g.pcs++[(⟨name,first,first⟩:Pce)]).length:=⟨_,rfl⟩;rw[<-u] at y;subst y;clear v i j hv u D;go_wp2;go_end0;exact⟨rfl,R.o⟩
theorem ZhZ:∀ (l:List Pce) (j:Nat) (p:Pce),j<l.length->Qx (l.set j p)=((((Qx l).set (j*3) (.int .i64 p.name)).set (j*3+1) (.int .i64 p.first)).set (j*3+2) (.int .i64 p.stop))
 | c::l,0,p,_=>by
  rw[List.set_cons_zero,Qx,Qx];rfl
 | c::l,j+1,p,hj=>by
  have a:=ZhZ l j p (by simpa using hj)
  rw[List.set_cons_succ,Qx,a,Qx];have e:(j+1)*3=(j*3)+1+1+1:=by omega
  rw[e];rfl
theorem ZmH {l:List Pce} (h:w.ownsRow 0 108 3 v l.length (Qx l)) (j:Nat) (t:j<l.length) (x:Int):
 ∃ g cap,v=.slice (some ⟨g,0,none⟩) l.length cap∧g<w.heap.size∧l.length<=cap∧w.cell? ⟨g,j*3+2,none⟩=some (.int .i64 (l.getD j Yv).stop)∧w.frozen? ⟨g,j*3+2,none⟩=false∧
  (w.setCell ⟨g,j*3+2,none⟩ (.int .i64 x)).ownsRow 0 108 3 v l.length (Qx (l.set j ⟨(l.getD j Yv).name,(l.getD j Yv).first,x⟩)):=by
 rcases h.2 with ⟨_,D⟩ | ⟨g,cap,cur,m,z,a,q,A,p,f⟩
 ·omega
 ·have e:∀ k,k<3->cur[j*3+k]?=(pcC (l.getD j Yv))[k]?:=fun k B=>by
   have b:=Zch l j k t B;rw[<-f,List.getElem?_take,if_pos (by omega),Array.getElem?_toList] at b
   exact b
  refine⟨g,cap,m,(Array.getElem?_eq_some_iff.1 a).1,q,?_,frozen_of_row w g _ _ _ a,?_,.inr ⟨g,cap,cur.setIfInBounds (j*3+2) (.int .i64 x),m,z,heap_setCell_same w g _ _ _ _ a,q,A,by simpa using p,?_⟩⟩
  ·rw[cell_of_row w g _ _ _ _ a]
   exact e 2 (by decide)
  ·rw[Zas,length_set]
  ·rw[ZhZ l j _ t]
   have u:=e 0 (by decide)
   have b:=e 1 (by decide)
   rw[<-f];apply List.ext_getElem?;intro i;rw[List.getElem?_take];by_cases c:i<l.length*3
   ·rw[if_pos c,Array.getElem?_toList,Array.getElem?_setIfInBounds]
    simp only [List.getElem?_set,length_set,length_take,Array.length_toList,List.getElem?_take,c,if_true,Array.getElem?_toList];have C:cur.size=cap*3:=p;by_cases d:j*3+2=i
    ·subst d
     rw[if_pos rfl,if_pos rfl,if_pos (by omega),if_pos (by omega)]
    ·rw[if_neg d,if_neg d]
     by_cases n:j*3+1=i
     ·subst n
      rw[if_pos rfl,if_pos (by omega),b]
      rfl
     ·rw[if_neg n]
      by_cases y:j*3=i
      ·subst y
       rw[if_pos rfl,if_pos (by omega)]
       rw[Nat.add_zero] at u;rw[u];rfl
      ·rw[if_neg y]
   ·rw[if_neg c,List.getElem?_eq_none (by simp;omega)]
theorem Zua (t:TypeId) (N:t≠62) (ax:t≠108) (b o:Nat) (cs:Array Value) (rv pv:Value) (g:Lgb) (O:Value) (l:List Rec) (w:World) (h:ZhY t w b o cs rv pv g) (D:RdR w O l) (av:g.pcs.length≠0) (aA:g.pcs.length<=1000000) (U:g.recs.length+l.length<=10000000)
 (J:∀ p ∈ g.pcs,0<=p.stop∧p.stop<=4611686018427387904):
 Calls prog 54 #[.pointer (some ⟨b,o,none⟩),O] w fun e w'=>e=.returned (.tuple #[])∧ZeC t w b o cs rv pv (g.add l) w':=by
 obtain⟨la,lc,rfl,-⟩:=id D;obtain⟨R,Z,B⟩:=h.recs.shape;obtain⟨m,C⟩:∃ m,g.pcs.length=m+1:=⟨g.pcs.length-1,by omega⟩
 obtain⟨i,A⟩:∃ i,i=(g.pcs.getD m Yv).stop:=⟨_,rfl⟩
 have ab:0<=i∧i<=4611686018427387904:=by
  rw[A];refine J _ ?_;rw[show g.pcs.getD m Yv=g.pcs[m]'(by omega) by simp[List.getD,show m<g.pcs.length by omega]]
  exact getElem_mem _
 obtain⟨j,S,z,K,ao,-,-,-⟩:=ZmH h.pcs m (by omega) 0
 -- behind the append,and the store of the records
 have ay:Hid (∀ d f,Q9 f 0 d (g.recs++l)->w.grownBy f rv.ownBlock->(d.ownBlock=rv.ownBlock∨d.ownBlock=some w.heap.size)->
  (f.cell? ⟨b,o+1,none⟩=some rv∧f.frozen? ⟨b,o+1,none⟩=false)∧
  ((f.setCell ⟨b,o+1,none⟩ d).cell? ⟨b,o+2,none⟩=some pv∧(f.setCell ⟨b,o+1,none⟩ d).cell? ⟨j,m*3+2,none⟩=some (.int .i64 i)∧(f.setCell ⟨b,o+1,none⟩ d).frozen? ⟨j,m*3+2,none⟩=false)∧
  ZeC t w b o cs rv pv (g.add l) (((f.setCell ⟨b,o+1,none⟩ d)).setCell ⟨j,m*3+2,none⟩ (.int .i64 (i+l.length)))):=ZZ (fun d f q x hv=>by
  have L:∀ k,k<w.heap.size->rv.ownBlock≠some k->f.heap[k]?=w.heap[k]?:=fun k hk al=>x.block k hk (fun e=>al e.symm)
  have v:Bk t f b cs:=h.blk.keep (L b h.blk.lt (h.neR N));have y:pv.ownBlock=some j:=by rw[z];rfl
  have H:j≠b:=fun e=>h.neP ax (by rw[y,e])
  have ag:rv.ownBlock≠some j:=fun e=>h.neRP j e y
  have M:(f.setCell ⟨b,o+1,none⟩ d).ownsRow 0 108 3 pv g.pcs.length (Qx g.pcs):=Qh h.pcs fun k hk=>by
   have e:k=j:=by rw[y] at hk;exact(Option.some.inj hk).symm
   subst e;rw[Below.heap_setCell _ _ _ _ H,L _ K ag]
  obtain⟨g',aF,P,-,-,X,aa,aj⟩:=ZmH M m (by omega) (i+l.length)
  have eg:g'=j:=by
   rw[z] at P
   injection P with u _ _
   injection u with u
   injection u with u
   exact u.symm
  subst eg;rw[<-A] at X
  have ac:d.ownBlock≠some b:=fun e=>by
   obtain⟨an,I⟩:=Xm q e;exact(v.ne I N) rfl
  have au:d.ownBlock≠some g':=fun e=>by
   obtain⟨an,I⟩:=Xm q e;obtain⟨ae,ap⟩:=Xm M y
   have aq:Bk 108 f g' ae:=by
    have:=ap;unfold Bk at this ⊢;rw[Below.heap_setCell _ _ _ _ H] at this;exact this
   exact(I.ne aq (by decide)) rfl
  refine⟨⟨(v.cell _ h.c1).1,(v.cell _ h.c1).2⟩,⟨?_,X,aa⟩,d,pv,?_,?_,?_⟩
  ·refine((v.set (o+1) d).cell _ ?_).1
   rw[Array.getElem?_setIfInBounds,if_neg (by omega)]
   exact h.c2
  ·have ak:((cs.setIfInBounds o (.int .i64 (g.add l).first)).setIfInBounds (o+1) d).setIfInBounds (o+2) pv=cs.setIfInBounds (o+1) d:=by
    have u:(g.add l).first=g.first:=rfl;rw[u,ZeD h.c0];exact ZeD (by rw[Array.getElem?_setIfInBounds,if_neg (by omega)];exact h.c2)
   rw[ak];have ad:o+1<cs.size:=(Array.getElem?_eq_some_iff.1 h.c1).1;refine⟨(v.set _ _).other _ _ _ (fun e=>H e.symm),?_,by simp[ad],?_,Qh q fun k hk=>?_,?_⟩
   ·rw[Array.getElem?_setIfInBounds,if_neg (by omega)]
    exact h.c0
   ·rw[Array.getElem?_setIfInBounds,if_neg (by omega)]
    exact h.c2
   ·rw[Below.heap_setCell _ _ _ _ (fun e=>au (by subst e;exact hk)),Below.heap_setCell _ _ _ _ (fun e=>ac (by subst e;exact hk))]
   ·have e3:(g.add l).pcs=g.pcs.set m ⟨(g.pcs.getD m Yv).name,(g.pcs.getD m Yv).first,i+l.length⟩:=by
     show Zq g.pcs l.length=_;unfold Zq;rw[C,Nat.add_sub_cancel,<-A]
    rw[e3,length_set];exact aj
  ·exact((Qj.ofGrown (F:=Zjf b rv pv) x fun k e _=>.inr (.inl e)).setCell _ (fun _=>.inl rfl) _).setCell _ (fun _=>.inr (.inr y)) _
  ·intro k hk
   rcases hk with hk | hk | hk
   ·exact .inl (.inl hk)
   ·rcases hv with hv | hv
    ·exact .inl (.inr (.inl (by rw[<-hv];exact hk)))
    ·rw[hv] at hk
     have:=Option.some.inj hk;exact .inr (by omega)
   ·exact .inl (.inr (.inr hk)))
 have aw:Hid (Q9 w 0 (.slice R g.recs.length Z) g.recs):=ZZ (by rw[<-B];exact h.recs)
 have ai:=ZZ D;have E:=ZZ B;have aC:=ZZ z;have az:=ZZ U;obtain⟨Q,-⟩:=h.blk.cell _ h.c1;rw[B] at Q;have hw:IntKind.i64.wrap (i+(l.length:Int))=i+l.length:=by rw[IntKind.wrap_i64];omega
 have aD:(m:Int)<=1000000:=by omega
 have af:g.pcs.length=m+1:=C;have am:Hid (pv=.slice (some ⟨j,0,none⟩) (m+1) S):=ZZ (by rw[z,C])
 have aE:(l.length:Int)<=10000000:=by omega
 obtain⟨aH,aG⟩:=ab;have aB:m+1<=S:=by omega
 clear B z h D J A av aA U C af ao K
 go_enter func54,ntmps54
 go_wp2_with(at_builtin;refine(fun(h:True->_)=>h trivial) ?_)
 intro _;refine Zbs w rfl _ _ rfl (.slice R g.recs.length Z) g.recs rfl aw.o _ l rfl ai.o az.o ?_;intro d f q x hv;obtain⟨⟨V,s1⟩,⟨W,u3,u4⟩,Y⟩:=ay.o d f q (by rw[E.o];exact x) (by rw[E.o];exact hv)
 rw[E.o] at V;rw[am.o] at W;have T:=ZZ Y
 obtain⟨a9,n9,c9,ar⟩:∃ a n c,d=.slice a n c:=by
  obtain⟨a,c,hh⟩:=q.shape;exact⟨a,_,c,hh⟩
 subst ar;obtain⟨W2,G⟩:∃ W2,W2=f.setCell ⟨b,o+1,none⟩ (.slice a9 n9 c9):=⟨_,rfl⟩;rw[<-G] at W u3 u4 T;clear Y q x hv Q
 go_upto_region 1 with fail
 rw[<-G];clear G V s1
 go_region
 go_wp2;go_end0;exact⟨rfl,T.o.more (Below.refl _ _).drew⟩
theorem Q9.empty (w:World) (B:Nat) (a:B<=w.heap.size):Q9 (w.alloc (.cells #[] 62)) B (.slice (some ⟨w.heap.size,0,none⟩) 0 0) []:=
 ⟨rfl,.inr ⟨w.heap.size,0,#[],rfl,a,heap_alloc_new w _,Nat.le_refl _,Nat.zero_le _,rfl,rfl⟩⟩
theorem ZjT (v:Value) (l:List Rec) (w:World) (d:RdR w v l) (u:l.length<=1000000):
 Calls prog 44 #[v] w fun e w'=>∃ v',e=.returned v'∧Q9 w' w.heap.size v' l∧Below w.heap.size w w':=by
 have k:=ZZ d;obtain⟨ao,cap,rfl,n,-,b,-⟩:=d
 cases ao with
 | none=>
  obtain rfl:cap=0:=b rfl;obtain rfl:l=[]:=List.eq_nil_of_length_eq_zero (by omega)
  clear b n;have m:∀ w,(binOp .eql 29 (.slice none 0 0) (.slice none 0 0)).run prog w=.ok (.bool true) w:=fun w=>run_eql_slice_nil w _ _ none 0 0 underlying29
  go_enter func44,ntmps44
  go_wp2;go_ret;exact⟨_,rfl,Q9.nil _ _,Below.refl _ _⟩
 | some a=>
  clear b;have m:∀ w,(binOp .eql 29 (.slice (some a) l.length cap) (.slice none 0 0)).run prog w=.ok (.bool false) w:=fun w=>run_eql_slice_nil w _ _ (some a) _ _ underlying29
  have f:Hid (∀ X,Below w.heap.size w (w.alloc X)):=fun X=>(Below.refl _ _).alloc zL X
  have i:Hid (Q9 (w.alloc (.cells #[] 62)) w.heap.size (.slice (some ⟨w.heap.size,0,none⟩) 0 0) []):=ZZ (Q9.empty w _ zL)
  go_enter func44,ntmps44
  go_wp2_with(at_builtin;refine ZeA _ rfl _ _ rfl w.heap.size _ [] rfl i.o _ l rfl (k.o.below (f.o _) zL) (by simp;omega) (by simp) ?_)
  intro t q g c;have p:=ZZ g;have j:=ZZ ((f.o _).trans c);clear g c;go_wp2;go_ret;exact⟨_,rfl,p.o,j.o⟩
theorem Zub (w:World) (ao:Option Addr) (l:List Rec) (cap:Nat) (b:RdR w (.slice ao l.length cap) l) (i:Nat) (d:i<=l.length):
 ∃ a' c',RdR w (.slice a' (l.drop i).length c') (l.drop i)∧∀ x:Int,x=(i:Int)->∀ W,(Instr.sliceAt 29 (.slice ao l.length cap) (some (.int .i64 x)) none none).run prog W=.ok (.slice a' (l.drop i).length c') W:=by
 have f:l.length<=cap:=by
  obtain⟨a,c,e,h,-⟩:=b;simp only [Value.slice.injEq] at e;omega
 have h:=b.mid i l.length cap d zL f zL;rw[List.take_of_length_le (by rw[length_drop];omega)] at h
 unfold sliced at h;refine⟨_,_,by rw[length_drop];exact h,fun x g W=>?_⟩
 subst g;rw[run_sliceAt_slice W 29 _ _ _ _ Zdd,run_slice_l W 29 ao l.length cap Zdd .i64 (i:Int) (by omega) (by omega),ZhH,Zqa,length_drop]
 rfl
theorem Zwg (w:World) (ao:Option Addr) (l:List Rec) (cap:Nat) (b:RdR w (.slice ao l.length cap) l) (i j:Nat) (k:i<=j) (g:j<=l.length):
 ∃ a' c',RdR w (.slice a' (j-i) c') ((l.drop i).take (j-i))∧∀ x y:Int,x=(i:Int)->y=(j:Int)->∀ W,(Instr.sliceAt 29 (.slice ao l.length cap) (some (.int .i64 x)) (some (.int .i64 y)) none).run prog W=.ok (.slice a' (j-i) c') W:=by
 have m:l.length<=cap:=by
  obtain⟨a,c,e,h,-⟩:=b;simp only [Value.slice.injEq] at e;omega
 have h:=b.mid i j cap k g (by omega) zL
 unfold sliced at h;refine⟨_,_,h,fun x y d f W=>?_⟩
 subst d f;rw[run_sliceAt_slice W 29 _ _ _ _ Zdd,run_slice_lh W 29 ao l.length cap Zdd .i64 .i64 (i:Int) (j:Int) (by omega) (by omega) (by omega),ZhH,Zqa]
 rfl
theorem Z0.toLog (h:Z0 M I w p pd L s):ZhY 76 w p 1 (stC pd L s) L.rv L.pv s.log:=
 ⟨h.head,rfl,rfl,rfl,h.recs,h.pcs⟩
theorem Z0.logF (h:Z0 M I w p pd L s):∀ k,Zjf p L.rv L.pv k->M k:=fun k hk=>by
 rcases hk with rfl | hk | hk
 ·exact h.mh
 ·exact h.mr k hk
 ·exact h.mp k hk
theorem Z0.ofLog (h:Z0 M I w p pd L s) (t:ZeC 76 w p 1 (stC pd L s) L.rv L.pv g w'):
 ∃ M' L',Z0 M' I w' p pd L' { s with log:=g }∧L'.nl=L.nl∧L'.nt=L.nt∧Qj M w w'∧∀ k,M' k->M k∨w.heap.size<=k:=by
 obtain⟨d,c,a,q,m⟩:=t;have e:Qj M w w':=q.mono h.logF;have n:∀ k,I k->w'.heap[k]?=w.heap[k]?:=fun k hk=>e.block k (h.ltI k hk) fun a=>h.dis k a hk
 have v:((((stC pd L s).setIfInBounds 1 (.int .i64 g.first)).setIfInBounds (1+1) d).setIfInBounds (1+2) c)=stC pd { L with rv:=d,pv:=c } { s with log:=g }:=rfl
 rw[v] at a
 have z:∀ k,Zjf p d c k->k<w'.heap.size:=fun k hk=>by
  rcases hk with rfl | hk | hk
  ·exact a.blk.lt
  ·obtain⟨j,b⟩:=Xm a.recs hk
   exact b.lt
  ·obtain⟨j,b⟩:=Xm a.pcs hk
   exact b.lt
 have u:∀ k,L.bv.ownBlock=some k->¬ Zjf p L.rv L.pv k:=fun k hk hl=>by
  obtain⟨j,b⟩:=Xm h.bases hk;rcases hl with rfl | hl | hl
  ·exact(b.ne h.head (by decide)) rfl
  ·obtain⟨y,i⟩:=Xm h.recs hl
   exact(b.ne i (by decide)) rfl
  ·obtain⟨y,i⟩:=Xm h.pcs hl
   exact(b.ne i (by decide)) rfl
 refine⟨fun k=>M k∨Zjf p d c k,{ L with rv:=d,pv:=c },⟨a.blk,a.recs,a.pcs,Qh h.bases fun k hk=>?_,h.bsEq,h.now.keep h.inow n,fun x l=>(h.base x l).keep (h.ibase x l) n,.inr (.inl rfl),fun k hk=>.inr (.inr (.inl hk)),fun k hk=>.inr (.inr (.inr hk)),fun k hk=>.inl (h.mb k hk),h.inow,h.ibase,fun k hk=>?_,fun k hk=>Nat.lt_of_lt_of_le (h.ltI k hk) e.size,fun k hk f=>?_⟩,rfl,rfl,e,fun k hk=>?_⟩
 ·obtain⟨j,b⟩:=Xm h.bases hk
  exact q.block k b.lt (u k hk)
 ·rcases hk with hk | hk
  ·exact Nat.lt_of_lt_of_le (h.ltM k hk) e.size
  ·exact z k hk
 ·rcases hk with hk | hk
  ·exact h.dis k hk f
  ·rcases m k hk with h1 | h1
   ·exact h.dis k (h.logF k h1) f
   ·have:=h.ltI k f
    omega
 ·rcases hk with hk | hk
  ·exact .inl hk
  ·rcases m k hk with h1 | h1
   ·exact .inl (h.logF k h1)
   ·exact .inr h1
theorem ZrE {l:List Pce} (h:w.ownsRow 0 108 3 v l.length (Qx l)) (e:0<l.length):
 ∃ g cap,v=.slice (some ⟨g,0,none⟩) l.length cap∧w.cell? ⟨g,1,none⟩=some (.int .i64 (l.getD 0 Yv).first):=by
 rcases h.2 with ⟨_,m⟩ | ⟨g,cap,cur,b,i,c,k,f,j,d⟩
 ·omega
 ·refine⟨g,cap,b,?_⟩
  have a:=Zch l 0 1 e (by decide)
  rw[<-d,List.getElem?_take,if_pos (by omega),Array.getElem?_toList] at a
  rw[cell_of_row w g _ _ _ _ c];exact a
theorem Q9.own0 {l:List Rec} (h:Q9 w B v l):Q9 w 0 v l:=h.mono (Nat.zero_le _)
theorem Q9.freshR {l:List Rec} (h:Q9 w B v l):∀ b,v.ownBlock=some b->B<=b∧b<w.heap.size:=fun b a=>World.ownsRow.lt h b a
theorem Zuc (t:TypeId) (al:t≠108) (b o:Nat) (cs:Array Value) (rv pv:Value) (g:Lgb) (l:Value) (left:List Pce) (base:Int) (w:World) (h:ZhY t w b o cs rv pv g) (y:w.ownsRow 0 108 3 l left.length (Qx left))
 (au:left.length<=1000000) (av:g.recs.length<=1000000) (ai:∀ r ∈ g.recs,ZcK r) (aj:g.first<=Yt left base) (af:Yt left base<=g.first+g.recs.length) (aw:0<=g.first) (az:g.first+g.recs.length<=4611686018427387904):
 Calls prog 70 #[.pointer (some ⟨b,o,none⟩),l,.int .i64 base] w fun e w'=>e=.returned (.tuple #[])∧
  ∃ q,ZhY t w' b o (((cs.setIfInBounds o (.int .i64 (g.letGo left base).first)).setIfInBounds (o+1) q).setIfInBounds (o+2) l) q l (g.letGo left base)∧Qj (fun k=>k=b) w w'∧∀ k,q.ownBlock=some k->w.heap.size<=k:=by
 obtain⟨f,x⟩:∃ f,f=Yt left base:=⟨_,rfl⟩;rw[<-x] at aj af;obtain⟨ra,rc,J⟩:=h.recs.shape;obtain⟨la,lc,S⟩:=Zg y;have aa:=h.recs.rd ai;rw[J] at aa;obtain⟨a',c',ab,hcut⟩:=Zub w ra g.recs rc aa (f-g.first).toNat (by omega)
 have ax:=hcut (f-g.first) (by omega)
 obtain⟨d0,f0⟩:=h.blk.cell _ h.c0;obtain⟨O,f1⟩:=h.blk.cell _ h.c1;obtain⟨d2,f2⟩:=h.blk.cell _ h.c2;rw[J] at O;have aC:=ZZ ab
 have D:Hid (∀ W,Below w.heap.size w W->(W.cell? ⟨b,o,none⟩=some (.int .i64 g.first)∧W.cell? ⟨b,o+1,none⟩=some (.slice ra g.recs.length rc))∧(W.frozen? ⟨b,o,none⟩=false∧W.frozen? ⟨b,o+1,none⟩=false∧W.frozen? ⟨b,o+2,none⟩=false)∧W.cell? ⟨b,o+2,none⟩=some pv):=ZZ (fun W v=>by
  have j:=h.blk.keep (v.block b h.blk.lt)
  exact⟨⟨(j.cell _ h.c0).1,by rw[<-J];exact(j.cell _ h.c1).1⟩,⟨(j.cell _ h.c0).2,(j.cell _ h.c1).2,(j.cell _ h.c2).2⟩,(j.cell _ h.c2).1⟩)
 have ae:Hid (Below w.heap.size w w.drew):=ZZ ((Below.refl _ _).drew)
 have T:Hid (∀ W,Below w.heap.size w W->Calls prog 44 #[.slice a' (g.recs.drop (f-g.first).toNat).length c'] W fun e w'=>∃ v',e=.returned v'∧Q9 w' w.heap.size v' (g.recs.drop (f-g.first).toNat)∧Below w.heap.size w w'):=ZZ (fun W H=>(ZjT _ _ W (ab.below H zL) (by rw[length_drop];omega)).mono (by
  rintro e w' ⟨v',rfl,z,v⟩
  exact⟨v',rfl,z.mono H.size,H.trans (v.mono H.size)⟩))
 have K:Hid (∀ i d,Q9 d w.heap.size i (g.recs.drop (f-g.first).toNat)->Below w.heap.size w d->
  ∃ q,ZhY t (((d.setCell ⟨b,o+1,none⟩ i).setCell ⟨b,o,none⟩ (.int .i64 f)).setCell ⟨b,o+2,none⟩ l) b o (((cs.setIfInBounds o (.int .i64 (g.letGo left base).first)).setIfInBounds (o+1) q).setIfInBounds (o+2) l) q l (g.letGo left base)∧Qj (fun k=>k=b) w (((d.setCell ⟨b,o+1,none⟩ i).setCell ⟨b,o,none⟩ (.int .i64 f)).setCell ⟨b,o+2,none⟩ l)∧∀ k,q.ownBlock=some k->w.heap.size<=k):=ZZ (fun i d z v=>by
  have j:=h.blk.keep (v.block b h.blk.lt);have I:(g.letGo left base).first=f:=x.symm;have ay:o<cs.size:=(Array.getElem?_eq_some_iff.1 h.c0).1;have aq:o+1<cs.size:=(Array.getElem?_eq_some_iff.1 h.c1).1;have aA:o+2<cs.size:=(Array.getElem?_eq_some_iff.1 h.c2).1
  have ap:(((cs.setIfInBounds (o+1) i).setIfInBounds o (.int .i64 f)).setIfInBounds (o+2) l)=(((cs.setIfInBounds o (.int .i64 f)).setIfInBounds (o+1) i).setIfInBounds (o+2) l):=by
   congr 1
   exact Array.setIfInBounds_comm _ _ (by omega)
  have am:∀ k,k≠b->(((d.setCell ⟨b,o+1,none⟩ i).setCell ⟨b,o,none⟩ (.int .i64 f)).setCell ⟨b,o+2,none⟩ l).heap[k]?=d.heap[k]?:=fun k m=>by
   rw[Below.heap_setCell _ _ _ _ m,Below.heap_setCell _ _ _ _ m,Below.heap_setCell _ _ _ _ m]
  refine⟨i,?_,?_,fun k m=>(z.freshR k m).1⟩
  ·rw[I,<-ap]
   refine⟨((j.set _ _).set _ _).set _ _,?_,?_,?_,Qh (show d.ownsRow 0 62 7 i (g.letGo left base).recs.length (Qq (g.letGo left base).recs) from by show Q9 d 0 i (g.recs.drop (Yt left base-g.first).toNat);rw[<-x];exact z.own0) fun k m=>am k (fun e=>?_),Qh y fun k m=>?_⟩
   ·rw[Array.getElem?_setIfInBounds,if_neg (by omega),Array.getElem?_setIfInBounds,if_pos rfl,if_pos (by simpa using ay),I]
   ·rw[Array.getElem?_setIfInBounds,if_neg (by omega),Array.getElem?_setIfInBounds,if_neg (by omega),Array.getElem?_setIfInBounds,if_pos rfl,if_pos aq]
   ·rw[Array.getElem?_setIfInBounds,if_pos rfl,if_pos (by simpa using aA)]
   ·subst e
    have:=(z.freshR _ m).1;have:=h.blk.lt;omega
   ·obtain⟨aF,an⟩:=Xm y m
    rw[am k (an.ne h.blk (fun e=>al e.symm)),v.block k an.lt]
  ·exact(((Qj.ofBelow (F:=fun k=>k=b) v).setCell (b:=b) _ (fun _=>rfl) _).setCell (b:=b) _ (fun _=>rfl) _).setCell (b:=b) _ (fun _=>rfl) _)
 have hw:IntKind.i64.wrap (f-g.first)=f-g.first:=by rw[IntKind.wrap_i64];omega
 obtain⟨n1,ad⟩:∃ n1,n1=(g.recs.drop (f-g.first).toNat).length:=⟨_,rfl⟩;rw[<-ad] at ax T
 obtain⟨pa,pn,pc,ak⟩:∃ a n c,pv=.slice a n c:=by
  obtain⟨a,c,C⟩:=Zg h.pcs;exact⟨a,_,c,C⟩
 rw[ak] at D d2;have ar:-9223372036854775808<=f-g.first∧f-g.first<=9223372036854775807:=by omega
 have Z:Hid (left.length≠0->∃ E ag,l=.slice (some ⟨E,0,none⟩) left.length ag∧w.cell? ⟨E,1,none⟩=some (.int .i64 f)):=ZZ (fun p=>by
  obtain⟨E,cap,I,e2⟩:=ZrE y (by omega)
  have e3:f=(left.getD 0 Yv).first:=by rw[x];unfold Yt;rw[if_neg p]
  exact⟨E,cap,I,by rw[e3];exact e2⟩)
 have P:Hid (left.length=0->base=f):=ZZ (fun p=>by rw[x];unfold Yt;rw[if_pos p])
 obtain⟨aD,aB⟩:=ar;clear J ab hcut h y x ai aa ad aj af aw az av ak d2 f2 al;by_cases p:left.length=0
 ·have ao:decide ((left.length:Int)>0)=false:=decide_eq_false (by omega)
  obtain rfl:=P.o p;rw[p] at S ao;subst S;clear p Z P au
  go_enter func70,ntmps70
  go_upto_region 3 with fail
  go_cut[] (fun wc=>Hid (∃ i d,wc=d.setCell ⟨b,o+1,none⟩ i∧Q9 d w.heap.size i (g.recs.drop (base-g.first).toNat)∧Below w.heap.size w d))
  case first=>
   go_region_with
    (first | (go_at_call 44;refine(T.o _ (by first | exact ae.o | exact Below.refl _ _)).mono ?_;rintro e W1 ⟨X,rfl,u,G⟩;have V:=ZZ u;have A:=ZZ G;obtain⟨z1,z2,z3,R⟩:∃ a n c,X=Value.slice a n c:=(by obtain⟨a,c,C⟩:=u.shape;exact⟨a,_,c,C⟩);subst R;obtain⟨⟨L,M⟩,⟨U,Y,r2⟩,-⟩:=D.o W1 A.o;clear u G))
   all_goals
    go_wp2_with fail
    go_meet
    exact ZZ ⟨_,_,rfl,V.o,A.o⟩
  case rest=>
   obtain⟨i,d,N,B,j⟩:=hcut.out;subst N;have Q:=ZZ (K.o i d B j);obtain⟨⟨L,M⟩,⟨U,Y,r2⟩,q2⟩:=D.o d j;clear hcut B j d0 O f0 f1;go_wp2;go_end0;exact⟨rfl,Q.o⟩
 ·have ao:decide ((left.length:Int)>0)=true:=decide_eq_true (by omega)
  have aE:(0:Int)<(left.length:Int):=by omega
  obtain⟨E,ag,ac,aG⟩:=Z.o p;rw[ac] at K;rw[ac];clear p Z P S ac;have aH:(left.length:Int)<=1000000:=by omega
  generalize left.length=ln at *
  go_enter func70,ntmps70
  go_upto_region 3 with fail
  go_cut[] (fun wc=>Hid (∃ i d,wc=d.setCell ⟨b,o+1,none⟩ i∧Q9 d w.heap.size i (g.recs.drop (f-g.first).toNat)∧Below w.heap.size w d))
  case first=>
   go_region_with
    (first | (go_at_call 44;refine(T.o _ (by first | exact ae.o | exact Below.refl _ _)).mono ?_;rintro e W1 ⟨X,rfl,u,G⟩;have V:=ZZ u;have A:=ZZ G;obtain⟨z1,z2,z3,R⟩:∃ a n c,X=Value.slice a n c:=(by obtain⟨a,c,C⟩:=u.shape;exact⟨a,_,c,C⟩);subst R;obtain⟨⟨L,M⟩,⟨U,Y,r2⟩,-⟩:=D.o W1 A.o;clear u G))
   all_goals
    go_wp2_with fail
    go_meet
    exact ZZ ⟨_,_,rfl,V.o,A.o⟩
  case rest=>
   obtain⟨i,d,N,B,j⟩:=hcut.out;subst N;have Q:=ZZ (K.o i d B j);obtain⟨⟨L,M⟩,⟨U,Y,r2⟩,q2⟩:=D.o d j;clear hcut B j d0 O f0 f1;go_wp2;go_end0;exact⟨rfl,Q.o⟩
theorem ZmI (a b:Int) (w:World) (h:Z0 M I w p pd L s) (y:ZoJ s) (S:∀ r ∈ s.log.recs,ZcK r) (ag:s.log.recs.length<=1000000):
 Calls prog 17 #[ptr p,.int .i64 a,.int .i64 b] w fun e w'=>∃ v,e=.returned (.tuple #[v,.int .i64 (ZgA s a b).2])∧Q9 w' w.heap.size v (ZgA s a b).1∧Below w.heap.size w w':=by
 have u:=ZZ (fun W (i:Below w.heap.size w W)=>ZhU W (h.below i) y)
 have C:=ZZ (fun W (i:Below w.heap.size w W)=>ZjQ W (h.below i))
 unfold ZgA;obtain⟨nx,d⟩:∃ nx,nx=s.next:=⟨_,rfl⟩;obtain⟨f,c⟩:∃ f,f=s.log.first:=⟨_,rfl⟩;have n:nx=f+s.log.recs.length:=by rw[d,c];rfl
 rw[<-d] at u ⊢;rw[<-c] at C ⊢;have k:=y.f0;have m:=y.f1;rw[<-c] at k;rw[<-d] at m;by_cases U:a<0
 ·rw[if_pos (.inl U)]
  clear d c n k m h
  go_enter func17,ntmps17
  go_wp2;go_ret2;exact⟨_,rfl,Q9.nil _ _,Below.refl _ _⟩
 by_cases X:b<a
 ·rw[if_pos (.inr (.inl X))]
  clear d c n k m h
  go_enter func17,ntmps17
  go_wp2;go_ret2;exact⟨_,rfl,Q9.nil _ _,Below.refl _ _⟩
 by_cases g3:nx<b
 ·rw[if_pos (.inr (.inr g3))]
  clear d c n k m h
  go_enter func17,ntmps17
  go_wp2_with fail
  refine(u.o _ (Below.refl _ _)).mono ?_;rintro e x ⟨rfl,g⟩;have j:=ZZ g;clear g;go_wp2;go_ret2;exact⟨_,rfl,Q9.nil _ _,j.o⟩
 rw[if_neg (by omega)]
 by_cases J:a<f
 ·rw[if_pos J]
  clear d c n k m h
  go_enter func17,ntmps17
  go_wp2_with fail
  refine(u.o _ (Below.refl _ _)).mono ?_;rintro e x ⟨rfl,g⟩;have j:=ZZ g;clear g
  go_wp2_with fail
  refine(C.o _ j.o).mono ?_;rintro e W2 ⟨rfl,rfl⟩;go_wp2;go_ret2;exact⟨_,rfl,Q9.nil _ _,j.o⟩
 rw[if_neg J];obtain⟨D,A,B⟩:=h.recs.shape;have z:=h.recs.rd S;rw[B] at z;obtain⟨a',c',q,hcut⟩:=Zwg w D s.log.recs A z (a-f).toNat (b-f).toNat (by omega) (by omega)
 have T:=hcut (a-f) (b-f) (by omega) (by omega)
 have G:Hid ((s.log.recs.drop (a-f).toNat).take ((b-f).toNat-(a-f).toNat)=(s.log.recs.take (b-f).toNat).drop (a-f).toNat):=ZZ (by rw[List.drop_take])
 rw[G.o] at q;generalize (s.log.recs.take (b-f).toNat).drop (a-f).toNat=l at *
 have R:Hid (∀ W,Below w.heap.size w W->Calls prog 44 #[.slice a' ((b-f).toNat-(a-f).toNat) c'] W fun e w'=>∃ v',e=.returned v'∧Q9 w' w.heap.size v' l∧Below w.heap.size w w'):=ZZ (fun W t=>(ZjT _ _ W (q.below t zL) (by
  obtain⟨_,_,e,-⟩:=q
  injection e with _ e _
  omega)).mono (by
  rintro e w' ⟨v',rfl,Z,i⟩
  exact⟨v',rfl,Z.mono t.size,t.trans (i.mono t.size)⟩))
 have E:Hid (∀ W,Below w.heap.size w W->W.cell? ⟨p,1,none⟩=some (.int .i64 f)∧W.cell? ⟨p,2,none⟩=some (.slice D s.log.recs.length A)):=ZZ (fun W i=>by
  obtain⟨-,c1,K,-⟩:=(h.below i).cs;rw[B] at K;rw[c]
  exact⟨c1,K⟩)
 have af:IntKind.i64.wrap (a-f)=a-f:=by rw[IntKind.wrap_i64];omega
 have ae:IntKind.i64.wrap (b-f)=b-f:=by rw[IntKind.wrap_i64];omega
 have Y:-9223372036854775808<=a-f∧a-f<=9223372036854775807:=by omega
 have V:-9223372036854775808<=b-f∧b-f<=9223372036854775807:=by omega
 obtain⟨ab,ac⟩:=Y;obtain⟨ad,ai⟩:=V;obtain⟨Q,N⟩:∃ Q,Q=(b-f).toNat-(a-f).toNat:=⟨_,rfl⟩;rw[<-N] at T R;clear d c n k m h q hcut z B N G S y
 go_enter func17,ntmps17
 go_wp2_with fail
 refine(u.o _ (Below.refl _ _)).mono ?_;rintro e x ⟨rfl,g⟩;have j:=ZZ g;clear g
 go_wp2_with fail
 refine(C.o _ j.o).mono ?_;rintro e x ⟨rfl,rfl⟩;have P:Hid (Below w.heap.size w x.drew):=ZZ (j.o.drew)
 go_upto_region 5 with fail
 go_region_held(fun W=>W.cell? ⟨p,1,none⟩=some (.int .i64 f)∧W.cell? ⟨p,2,none⟩=some (.slice D s.log.recs.length A))
  (first | (with_reducible exact E.o _ P.o) | (with_reducible exact E.o _ F.o))
  (first | (go_at_call 44;refine(R.o _ P.o).mono ?_;rintro e W2 ⟨v2,rfl,H,O⟩;have aa:=ZZ H;have F:=ZZ O;clear H O))
 all_goals
  go_wp2;go_ret2;exact⟨_,rfl,aa.o,F.o⟩
theorem ZxB (w:World) (h:Z0 M I w p pd L s) (ab:s.now.st.L.length<=1000000) (ac:s.now.tab.length<=1000000):
 Calls prog 21 #[ptr p] w fun e w'=>Zxz w s.now e w':=by
 obtain⟨c,m⟩:∃ c,c=w.alloc (.cells #[.int .i64 0,.int .i64 0,.slice none 0 0,.bool false,.int .i64 0,.slice none 0 0] 41):=⟨_,rfl⟩;have j:Hid (Below w.heap.size w c):=ZZ (by rw[m];exact Jc _ _)
 have HY:Hid (Bn c w.heap.size #[.int .i64 0,.int .i64 0,.slice none 0 0,.bool false,.int .i64 0,.slice none 0 0]):=ZZ (by rw[m];exact heap_alloc_new w _)
 have f:=ZZ (h.below j.o);obtain⟨-,-,-,-,-,⟨c5,c6,Z,c8,c9,U⟩,-⟩:=f.o.cs;have g:=ZZ (ZrD (L.nx s) c f.o.now ab ac);obtain⟨F,C,lc,H,E,R,G,V⟩:=f.o.now.shape;have q:L.nl=.slice F C lc:=G;have x:L.nt=.slice H E R:=V;rw[q] at Z;rw[x] at U
 have z:Hid (snV (L.nx s)=.agg #[.int .i64 s.now.idx,.int .i64 s.now.st.kind,.slice F C lc,.bool s.now.st.shut,.int .i64 s.now.st.eng,.slice H E R]):=ZZ (by
  unfold snV snC ZdP.nx
  dsimp only
  rw[q,x])
 rw[z.o] at g;have D:(L.nx s).1=s.now:=rfl;rw[D] at g;clear h G V q x z f D
 go_enter func21,ntmps21
 go_upto_region 1 with fail
 rw[<-m];clear m
 go_wp2_with fail
 refine g.o.mono ?_;rintro e W1 ⟨vl,vt,rfl,y,Q,X,u⟩;have aa:=ZZ (j.o.trans (u.mono j.o.size));have d:=ZZ y;have n:=ZZ (And.intro Q X);have a:=HY.o.below u zL;have N:=ZZ j.o.size;obtain⟨z0,y0⟩:=a.cell 0;obtain⟨z1,y1⟩:=a.cell 1;obtain⟨z2,y2⟩:=a.cell 2;obtain⟨z3,y3⟩:=a.cell 3;obtain⟨z4,y4⟩:=a.cell 4;obtain⟨z5,y5⟩:=a.cell 5;obtain⟨B,O,xc,J,T,K,P,W⟩:=y.shape
 dsimp only at P W
 subst P W;have S:w.heap.size<c.heap.size:=HY.o.lt;have Y:=ZZ S;unfold snV snC
 dsimp only
 clear u a c5 c6 Z c8 c9 U y Q X g S;go_wp2;refine bodyPost_ret (v:=.agg #[.int .i64 s.now.idx,.int .i64 s.now.st.kind,.slice B O xc,.bool s.now.st.shut,.int .i64 s.now.st.eng,.slice J T K]) (by simp[results,Tryz.results21,go_sem,z0,z1,z2,z3,z4,z5]) rfl ?_
 have A:=ZpZ W1 w.heap.size (.int .i64 s.now.idx) (.int .i64 s.now.st.kind) (.slice B O xc) (.bool s.now.st.shut) (.int .i64 s.now.st.eng) (.slice J T K);refine⟨_,_,rfl,⟨d.o.l.but A (.inr fun b h=>?_),d.o.t.but A (.inr fun b h=>?_),d.o.k,d.o.e,d.o.i⟩,fun b h=>?_,fun b h=>?_,Zew aa.o _ (by omega) _ _ _ _ _ _⟩
 ·have:=n.o.1 b h
  have:=Y.o;omega
 ·have:=n.o.2 b h
  have:=Y.o;omega
 ·exact Nat.le_trans N.o (n.o.1 b h)
 ·exact Nat.le_trans N.o (n.o.2 b h)
structure Stp where
 g:Nat
 bd:Array Value
 cp:Array Value
def Stp.val (s:Stp):Value:=.func (.func s.g) s.bd s.cp
theorem ZmJ (b x cap:Nat) (n:Nat) (fs:Nat->Stp) (w:World) (P:Nat->World->Prop) (Q:Int->World->Prop) (R:n<=1000000)
 (D:∀ i W,i<n->P i W->W.cell? ⟨b,x+i,none⟩=some (fs i).val)
 (A:∀ i W,i<n->P i W->Calls prog (fs i).g ((fs i).bd++(fs i).cp) W fun e w'=>∃ c:Int,e=.returned (.int .i64 c)∧(c=0->P (i+1) w')∧(c≠0->Q c w'))
 (C:∀ i,i<n->∀ args W,(callFunc (fs i).g args).run prog W=.ok (.enter (fs i).g args) W) (F:P 0 w):
 Calls prog 62 #[.slice (some ⟨b,x,none⟩) n cap] w fun e w'=>∃ c:Int,e=.returned (.int .i64 c)∧(c=0->P n w')∧(c≠0->Q c w'):=by
 have B:=ZZ D;have y:=ZZ A;have z:=ZZ C;have M:(n:Int)<=1000000:=by omega
 clear D A C;have E:=ZZ F;clear F
 go_enter func62,ntmps62
 go_wp2
 go_loopw[8] (fun m wr=>∃ i:Nat,m=.int .i64 (i:Int)∧i<=n∧Hid (P i wr)) (fun m _=>n-(intOf m).toNat)
 case atStart=>exact⟨0,rfl,Nat.zero_le _,E⟩
 case round=>
  clear E;obtain⟨i,rfl,L,j⟩:=hrel;by_cases p:i<n
  case neg=>
   obtain rfl:i=n:=by omega
   go_wp2;go_ret;exact⟨0,rfl,fun _=>j.o,fun h=>absurd rfl h⟩
  have d:=B.o i wr p j.o;have f:=ZZ (y.o i wr p j.o);have k:=z.o i p;unfold Stp.val at d;obtain⟨g,l⟩:∃ g,g=(fs i).g:=⟨_,rfl⟩;obtain⟨H,G⟩:∃ H,H=(fs i).bd:=⟨_,rfl⟩;obtain⟨u,v⟩:∃ u,u=(fs i).cp:=⟨_,rfl⟩;rw[<-l,<-G,<-v] at d f;rw[<-l] at k;have S:(i:Int)<(n:Int):=by omega
  clear j l G v B y z
  go_wp2_with fail
  refine f.o.mono ?_;rintro e O ⟨c,rfl,q,t⟩;by_cases a:c=0
  ·subst a
   have I:=ZZ (q rfl);clear q t d k f;go_wp2;go_roundw
   case rel=>exact⟨i+1,by go_num,by omega,I⟩
   case measure=>simp[intOf];omega
  ·have K:=ZZ (t a)
   have N:(c != 0)=true:=by rw[bne_iff_ne];exact a
   have J:=ZZ a;clear q t d k f a;go_wp2;go_ret;exact⟨c,rfl,fun h=>absurd h J.o,fun _=>K.o⟩
theorem Z0.setHead (h:Z0 M I w p pd L s) (j:Nat) (x:Value) (m:s'.log=s.log) (q:s'.bases=s.bases) (D:s'.now=s.now) (A:(stC pd L s).setIfInBounds j x=stC pd L s'):
 Z0 M I (w.setCell ⟨p,j,none⟩ x) p pd L s':=by
 have b:∀ k,k≠p->(w.setCell ⟨p,j,none⟩ x).heap[k]?=w.heap[k]?:=fun k b=>Below.heap_setCell _ _ _ _ b
 have d:∀ {t:TypeId} {n sz g:Nat} {v:Value} {xs:List Value},w.ownsRow 0 t sz v n xs->v.ownBlock=some g->t≠76->g≠p:=fun B a C=>by
  obtain⟨E,u⟩:=Xm B a;exact u.ne h.head C
 have i:∀ k,I k->(w.setCell ⟨p,j,none⟩ x).heap[k]?=w.heap[k]?:=fun k z=>b k fun e=>h.dis p h.mh (by rw[<-e];exact z)
 have f:L.nx s'=L.nx s:=by unfold ZdP.nx;rw[D]
 refine⟨by rw[<-A];exact h.head.set j x,?_,?_,Qh h.bases fun g a=>b g (d h.bases a (by decide)),by rw[q];exact h.bsEq,by rw[f];exact h.now.keep h.inow i,fun y l=>(h.base y l).keep (h.ibase y l) i,h.mh,h.mr,h.mp,h.mb,by rw[f];exact h.inow,h.ibase,fun k c=>by simpa using h.ltM k c,fun k c=>by simpa using h.ltI k c,h.dis⟩
 ·rw[m]
  exact Qh h.recs fun g a=>b g (d h.recs a (by decide))
 ·rw[m]
  exact Qh h.pcs fun g a=>b g (d h.pcs a (by decide))
theorem SD.setHead (h:SD K w pd p s d N T) (f:∀ k,K k->k<w.heap.size) (j:Nat) (x:Value) (m:s'.log=s.log) (c:s'.bases=s.bases) (t:s'.now=s.now) (g:∀ L,(stC pd L s).setIfInBounds j x=stC pd L s'):
 SD K (w.setCell ⟨p,j,none⟩ x) pd p s' d N T∧Qj (fun k=>¬ K k) w (w.setCell ⟨p,j,none⟩ x):=by
 obtain⟨F,M,I,L,n,b,e,i,q,l,u⟩:=h;exact SD.own f n e i q l u ((Qj.refl M w).setCell j (fun _=>b.mh) x) (b.setHead j x m c t (g L)) (fun _ a=>.inl a) (fun _ a=>.inl a)
theorem SD.cells (h:SD K w pd p s d N T):
 (w.cell? ⟨p,0,none⟩=some (ptr pd)∧w.cell? ⟨p,11,none⟩=some (.int .i64 s.synced)∧w.cell? ⟨p,12,none⟩=some (.int .i64 s.cur)∧w.cell? ⟨p,13,none⟩=some (.bool s.nw))∧∀ j,w.frozen? ⟨p,j,none⟩=false:=by
 obtain⟨F,M,I,L,g,a,-⟩:=h;obtain⟨b,-,-,-,-,-,f,c,e⟩:=a.cs;exact⟨⟨b,f,c,e⟩,a.fz⟩
theorem ZcM (w:World) (h:SD K w pd p s d N T) (g:∀ k,K k->k<w.heap.size):
 Calls prog 64 #[ptr p] w fun e w'=>Z6 K w pd p (Qt (s,d)) (N+2) T e w':=by
 unfold Qt;obtain⟨⟨d',c⟩,f⟩:∃ r,r=Xs d:=⟨_,rfl⟩
 have n:=ZZ (h.disk (d':=d') (c:=c) (N':=N+2) (T':=T) g (fun F x _=>by
  have:=Zof w x;rw[<-f] at this
  exact this))
 obtain⟨⟨y,-⟩,-⟩:=h.cells
 dsimp only
 rw[<-f]
 dsimp only
 have u:=ZZ g;obtain⟨R,l⟩:∃ R:SDk × Int,R=((if c=0 then { s with nw:=false } else s,d'),c):=⟨_,rfl⟩
 rw[<-l];have b:=ZZ l;clear h f g l
 go_enter func64,ntmps64
 go_wp2_with fail
 refine n.o.mono ?_;rintro e z ⟨rfl,j,i⟩;have m:=ZZ j;have t:=ZZ i;have v:Hid (∀ k,K k->k<z.heap.size):=ZZ (fun k A=>Nat.lt_of_lt_of_le (u.o k A) i.size)
 obtain⟨⟨-,-,-,D⟩,fz⟩:=j.cells;have B:=fz 13;clear j i n y fz;by_cases a:c=0
 ·subst a
  rw[if_pos rfl] at b;have q:=ZZ (m.o.setHead (s':={ s with nw:=false }) v.o 13 (.bool false) rfl rfl rfl (fun _=>rfl))
  go_wp2;go_ret;rw[b.o];exact⟨rfl,q.o.1,t.o.trans q.o.2 (fun _ _ h=>h)⟩
 ·rw[if_neg a] at b
  have C:(c == 0)=false:=beq_eq_false_iff_ne.2 a;clear a;go_wp2;go_ret;rw[b.o];exact⟨rfl,m.o,t.o⟩
theorem Zla (w:World) (h:SD K w pd p s d N T) (l:∀ k,K k->k<w.heap.size):
 Calls prog 66 #[ptr p] w fun e w'=>Z6 K w pd p (Xj (s,d)) (N+2) T e w':=by
 unfold Xj;have a:=ZZ (ZcM w h l);obtain⟨⟨-,-,-,f⟩,-⟩:=h.cells;have b:=ZZ h
 dsimp only
 cases hb:s.nw with
 | false=>
  rw[hb] at f;rw[if_neg (by simp)]
  clear h hb a
  go_enter func66,ntmps66
  go_wp2;go_ret;exact⟨rfl,b.o.mono (by omega) zL,Qj.refl _ _⟩
 | true=>
  rw[hb] at f;rw[if_pos rfl];obtain⟨r,c⟩:∃ r,r=Qt (s,d):=⟨_,rfl⟩;rw[<-c] at a ⊢;clear h hb b c
  go_enter func66,ntmps66
  go_wp2_with fail
  refine a.o.mono ?_;rintro e m ⟨rfl,i,g⟩;have j:=ZZ (And.intro i g);clear i g a;go_wp2;go_ret;exact⟨rfl,j.o⟩
theorem Z6.from {K2:Nat->Prop} {W:World} {r:SDk × Int} {e:Ending} (h:Z6 K2 W pd p r N T e w') (a:∀ k,K k->K2 k) (f:Qj (fun k=>¬ K k) w W) (d:N<=N') (b:T<=T'):Z6 K w pd p r N' T' e w':=
 ⟨h.1,(h.2.1.less a).mono d b,f.trans (h.2.2.mono (fun k c g=>c (a k g))) (fun _ _ h=>h)⟩
theorem SD.step {f:Nat} {args:Array Value} (g:Dk->Dk × Int) (h:SD K w pd p s d N T) (a:∀ k,K k->k<w.heap.size)
 (b:∀ F,Dsk F w pd d N T->(∀ k,F k->¬ K k)->Calls prog f args w fun e w'=>ZfU F w pd (g d).1 (g d).2 N' T' e w'):Calls prog f args w fun e w'=>Z6 K w pd p (X0 g (s,d)) N' T' e w':=
 h.disk a b
theorem ZmK {R:Nat} (w:World) (h:SD K w pd p s d N T) (c:∀ k,K k->k<w.heap.size) (x:w.cell? ⟨R,0,none⟩=some (ptr p)) (f:I64 s.cur):
 Calls prog 65 #[.pointer (some ⟨R,0,none⟩)] w fun e w'=>Z6 K w pd p (Xb (s,d)) (N+2) T e w':=by
 have i:=ZZ ((h.below (Below.refl _ _).drew).step (fun d=>Jf d s.cur) c (fun F n _=>ZpV s.cur f _ n))
 obtain⟨⟨t,-,u,-⟩,-⟩:=h.cells;have m:Hid (Qj (fun k=>¬ K k) w w.drew):=ZZ (Qj.ofBelow (Below.refl _ _).drew)
 obtain⟨r,a⟩:∃ r,r=Xb (s,d):=⟨_,rfl⟩;have g:X0 (fun d=>Jf d s.cur) (s,d)=r:=a.symm
 rw[g] at i;rw[<-a];generalize s.cur=q at *;clear h c f g a
 go_enter func65,ntmps65
 go_upto_region 1 with fail
 go_region_with(first | (go_at_call 59;refine i.o.mono ?_;rintro e v ⟨rfl,l,j⟩;have b:=ZZ (And.intro l j);clear l j))
 all_goals
  go_wp2;go_ret;exact⟨rfl,b.o.1,m.o.trans b.o.2 (fun _ _ h=>h)⟩
theorem Zlb (x:SDk):(Q3 [Xb,Xj] x).1.1=x.1∨(Q3 [Xb,Xj] x).1.1={ x.1 with nw:=false }:=by
 unfold Q3 Q3;split
 ·split
  ·unfold Q3 Xj Qt
   split
   ·dsimp only
    split
    ·exact .inr rfl
    ·exact .inl rfl
   ·exact .inl rfl
  ·unfold Xj Qt
   split
   ·dsimp only
    split
    ·exact .inr rfl
    ·exact .inl rfl
   ·exact .inl rfl
 ·exact .inl rfl
theorem ZoJ.nw (h:ZoJ s) (b:Bool):ZoJ { s with nw:=b }:=⟨h.f0,h.f1,h.sy,h.cu⟩
theorem SD.synced (h:SD K w pd p s d N T) (a:∀ k,K k->k<w.heap.size):
 SD K (w.setCell ⟨p,11,none⟩ (.int .i64 s.next)) pd p (Zbw s) d N T∧Qj (fun k=>¬ K k) w (w.setCell ⟨p,11,none⟩ (.int .i64 s.next)):=
 h.setHead a 11 _ rfl rfl rfl (fun _=>rfl)
theorem SD.next (h:SD K w pd p s d N T) (b:ZoJ s):
 Calls prog 14 #[ptr p] w fun e w'=>e=.returned (.int .i64 s.next)∧Below w.heap.size w w':=by
 obtain⟨F,M,I,L,c,a,-⟩:=h;exact ZhU w a b
theorem ZeE (w:World) (h:SD K w pd p s d N T) (hK:∀ k,K k->k<w.heap.size) (n:ZoJ s):
 Calls prog 27 #[ptr p] w fun e w'=>Z6 K w pd p (Zf (s,d)) (N+4) T e w':=by
 obtain⟨a,D⟩:∃ a,a=w.alloc (.cells #[ptr p] 28):=⟨_,rfl⟩;have ad:Hid (Below w.heap.size w a):=ZZ (by rw[D];exact Jc _ _)
 have HX:Hid (Bk 28 a w.heap.size #[ptr p]):=ZZ (by rw[D];exact heap_alloc_new w _)
 obtain⟨u,I⟩:∃ u:Nat->Prop,u=fun k=>K k∨(w.heap.size<=k∧k<a.heap.size):=⟨_,rfl⟩
 have A:Hid (SD u a pd p s d N T):=ZZ (by rw[I];exact h.fresh ad.o)
 have an:Hid (∀ k,u k->k<a.heap.size):=ZZ (by
  rw[I];intro k hk;rcases hk with hk | hk
  ·exact Nat.lt_of_lt_of_le (hK k hk) ad.o.size
  ·exact hk.2)
 have ar:Hid (∀ k,K k->u k):=ZZ (by rw[I];exact fun k hk=>.inl hk)
 have aG:Hid (u w.heap.size):=ZZ (by rw[I];exact .inr ⟨Nat.le_refl _,HX.o.lt⟩)
 have ak:Hid (Qj (fun k=>¬ K k) w a):=ZZ (Qj.ofBelow ad.o)
 have S:Hid (∀ W,Qj (fun k=>¬ u k) a W->W.cell? ⟨w.heap.size,0,none⟩=some (ptr p)):=ZZ (fun W Z=>((HX.o.keep (Z.block _ HX.o.lt (fun n=>n aG.o))).cell 0 rfl).1)
 have P:=ZZ n;have r0:=S.o a (Qj.refl _ _);obtain⟨⟨-,-,au,-⟩,-⟩:=A.o.cells;obtain⟨v,X⟩:∃ v,v=Zf (s,d):=⟨_,rfl⟩;have E:=ZZ X;rw[<-X];clear h hK I X;by_cases q:s.cur=0
 ·have ax:(s.cur != 0)=false:=by rw[q];rfl
  have y:Hid (v=((Zbw s,d),0)):=ZZ (by rw[E.o];unfold Zf;rw[if_pos q])
  have ae:Hid (∀ W,Below a.heap.size a W->Calls prog 14 #[ptr p] W fun e w'=>e=.returned (.int .i64 s.next)∧Below a.heap.size a w'):=ZZ (fun W f=>((A.o.below f).next P.o).mono (by
   rintro e w' ⟨rfl,C⟩
   exact⟨rfl,f.trans (C.mono f.size)⟩))
  have Q:Hid (∀ W,Below a.heap.size a W->W.cell? ⟨w.heap.size,0,none⟩=some (ptr p)∧W.cell? ⟨p,11,none⟩=some (.int .i64 s.synced)∧W.frozen? ⟨p,11,none⟩=false):=ZZ (fun W f=>by
   obtain⟨⟨-,Y,-⟩,fz⟩:=(A.o.below f).cells
   exact⟨S.o W (Qj.ofBelow f),Y,fz 11⟩)
  have ab:Hid (Below a.heap.size a a.drew):=ZZ (Below.refl _ _).drew
  have J:Hid (∀ W,Below a.heap.size a W->Z6 K w pd p v (N+4) T (.returned (.int .i64 0)) (W.setCell ⟨p,11,none⟩ (.int .i64 s.next))):=ZZ (fun W f=>by
   rw[y.o];have m:=(A.o.below f).synced (fun k hk=>Nat.lt_of_lt_of_le (an.o k hk) f.size)
   exact Z6.from (K2:=u) (W:=W) ⟨rfl,m.1,m.2⟩ ar.o (ak.o.trans (Qj.ofBelow (F:=fun _=>False) f) (fun _ _ h=>h.elim)) (by omega) zL)
  generalize s.next=nx at *;generalize s.cur=cu at *;clear q y E n
  go_enter func27,ntmps27
  go_upto_region 1 with fail
  rw[<-D];clear D
  go_upto_region 6 with fail
  go_region_with(first | (go_at_call 14;refine(ae.o _ (by first | exact ab.o | exact Below.refl _ _)).mono ?_;rintro e g ⟨rfl,aj⟩;have x:=ZZ aj;obtain⟨q0,aH,qf⟩:=Q.o g aj;clear aj))
  all_goals
   go_wp2;go_ret;exact J.o _ x.o
 ·have ax:(s.cur != 0)=true:=by rw[bne_iff_ne];exact q
  obtain⟨b,B⟩:∃ b,b=Q3 [Xb,Xj] (s,d):=⟨_,rfl⟩;have y:Hid (v=if b.2=0 then((Zbw b.1.1,b.1.2),0) else b):=ZZ (by rw[E.o,B];unfold Zf;rw[if_neg q])
  have av:Hid (ZoJ b.1.1):=ZZ (by
   rcases Zlb (s,d) with hh | hh
   ·rw[B,hh];exact P.o
   ·rw[B,hh];exact P.o.nw false)
  obtain⟨g,U⟩:∃ g,g=a.alloc (.cells #[.func (.func 65) #[] #[.pointer (some ⟨w.heap.size,0,none⟩)],.func (.func 66) #[ptr p] #[]] 153):=⟨_,rfl⟩;have x:Hid (Below a.heap.size a g):=ZZ (by rw[U];exact Jc _ _)
  have HY:Hid (Bk 153 g a.heap.size #[.func (.func 65) #[] #[.pointer (some ⟨w.heap.size,0,none⟩)],.func (.func 66) #[ptr p] #[]]):=ZZ (by rw[U];exact heap_alloc_new a _)
  obtain⟨K2,G⟩:∃ K2:Nat->Prop,K2=fun k=>u k∨(a.heap.size<=k∧k<g.heap.size):=⟨_,rfl⟩
  have aF:Hid (SD K2 g pd p s d N T):=ZZ (by rw[G];exact A.o.fresh x.o)
  have ao:Hid (∀ k,K2 k->k<g.heap.size):=ZZ (by
   rw[G];intro k hk;rcases hk with hk | hk
   ·exact Nat.lt_of_lt_of_le (an.o k hk) x.o.size
   ·exact hk.2)
  have V:Hid (∀ k,u k->K2 k):=ZZ (by rw[G];exact fun k hk=>.inl hk)
  have aD:Hid (K2 a.heap.size):=ZZ (by rw[G];exact .inr ⟨Nat.le_refl _,HY.o.lt⟩)
  have ay:Hid (Calls prog 62 #[.slice (some ⟨a.heap.size,0,none⟩) 2 2] g fun e w'=>∃ c:Int,e=.returned (.int .i64 c)∧(c=0->SD K2 w' pd p b.1.1 b.1.2 (N+4) T∧b.2=0∧Qj (fun k=>¬ K2 k) g w')∧(c≠0->SD K2 w' pd p b.1.1 b.1.2 (N+4) T∧b.2=c∧Qj (fun k=>¬ K2 k) g w')):=ZZ (by
   have hs:=ZmJ a.heap.size 0 2 2 (fun i=>if i=0 then⟨65,#[],#[.pointer (some ⟨w.heap.size,0,none⟩)]⟩ else⟨66,#[ptr p],#[]⟩) g
    (fun i W=>Qj (fun k=>¬ K2 k) g W∧(i=0->SD K2 W pd p s d N T)∧(i=1->(Xb (s,d)).2=0∧SD K2 W pd p (Xb (s,d)).1.1 (Xb (s,d)).1.2 (N+2) T)∧(i=2->b.2=0∧SD K2 W pd p b.1.1 b.1.2 (N+4) T))
    (fun c W=>SD K2 W pd p b.1.1 b.1.2 (N+4) T∧b.2=c∧Qj (fun k=>¬ K2 k) g W) (by decide)
    (fun i W M t=>by
     have C:=HY.o.keep (t.1.block _ HY.o.lt (fun n=>n aD.o))
     match i,M with
     | 0,_=>exact(C.cell 0 rfl).1
     | 1,_=>exact(C.cell 1 rfl).1)
    (fun i W M t=>by
     have al:∀ k,K2 k->k<W.heap.size:=fun k hk=>Nat.lt_of_lt_of_le (ao.o k hk) t.1.size
     match i,M with
     | 0,_=>
      refine(ZmK (R:=w.heap.size) W (t.2.1 rfl) al (S.o W ((Qj.ofBelow x.o).trans (t.1.mono (fun k hk n=>hk (V.o k n))) (fun _ _ h=>h))) P.o.cu).mono ?_
      rintro e w' ⟨rfl,m,L⟩;refine⟨_,rfl,fun j=>⟨t.1.trans L (fun _ _ h=>h),fun h=>absurd h (by decide),fun _=>⟨j,m⟩,fun h=>absurd h (by decide)⟩,fun j=>?_⟩
      have H:b=Xb (s,d):=by rw[B];unfold Q3;rw[if_neg j]
      rw[H];exact⟨m.mono (by omega) zL,rfl,t.1.trans L (fun _ _ h=>h)⟩
     | 1,_=>
      obtain⟨aB,aC⟩:=t.2.2.1 rfl;refine(Zla W aC al).mono ?_;rintro e w' ⟨rfl,m,L⟩;have e2:Xj ((Xb (s,d)).1.1,(Xb (s,d)).1.2)=Xj (Xb (s,d)).1:=rfl;rw[e2] at m ⊢
      have H:(Xj (Xb (s,d)).1).1=b.1∧(Xj (Xb (s,d)).1).2=b.2:=by
       rw[B];unfold Q3;rw[if_pos aB];unfold Q3;split
       ·rename_i j
        exact⟨rfl,j⟩
       ·exact⟨rfl,rfl⟩
      rw[H.1] at m
      exact⟨_,rfl,fun j=>⟨t.1.trans L (fun _ _ h=>h),fun h=>absurd h (by decide),fun h=>absurd h (by decide),fun _=>⟨by rw[<-H.2];exact j,m⟩⟩,fun j=>⟨m,H.2.symm,t.1.trans L (fun _ _ h=>h)⟩⟩)
    (fun i M=>by
     match i,M with
     | 0,_=>exact enters_of func65 (by kernel_rfl) rfl
     | 1,_=>exact enters_of func66 (by kernel_rfl) rfl)
    ⟨Qj.refl _ _,fun _=>aF.o,fun h=>absurd h (by decide),fun h=>absurd h (by decide)⟩
   refine hs.mono ?_;rintro e w' ⟨c,rfl,g1,g2⟩;refine⟨c,rfl,fun j=>?_,g2⟩
   obtain⟨h1,-,-,h4⟩:=g1 j
   exact⟨(h4 rfl).2,(h4 rfl).1,h1⟩)
  have ap:Hid (Qj (fun k=>¬ K k) w g):=ZZ (ak.o.trans (Qj.ofBelow (F:=fun _=>False) x.o) (fun _ _ h=>h.elim))
  have af:Hid (∀ k,K k->K2 k):=ZZ (fun k hk=>V.o k (ar.o k hk))
  have aw:Hid (∀ W,Qj (fun k=>¬ K2 k) g W->W.cell? ⟨w.heap.size,0,none⟩=some (ptr p)):=ZZ (fun W Z=>S.o W ((Qj.ofBelow x.o).trans (Z.mono (fun k hk n=>hk (V.o k n))) (fun _ _ h=>h)))
  have aq:=ZZ U;have aK:=A;generalize s.cur=cu at *;clear q B G n U
  go_enter func27,ntmps27
  go_upto_region 1 with fail
  rw[<-D];clear D
  go_wp2_with(go_at_call 62;rw[<-aq.o];refine ay.o.mono ?_)
  rintro e l ⟨c,rfl,ac,ag⟩;clear aq r0 au;by_cases q:c=0
  ·subst q
   obtain⟨O,j,z⟩:=ac rfl;have az:Hid (v=((Zbw b.1.1,b.1.2),0)):=ZZ (by rw[y.o,if_pos j])
   have aE:Hid (∀ k,K2 k->k<l.heap.size):=ZZ (fun k hk=>Nat.lt_of_lt_of_le (ao.o k hk) z.size)
   have aa:=ZZ O;have am:=ZZ z
   have ae:Hid (∀ W,Below l.heap.size l W->Calls prog 14 #[ptr p] W fun e w'=>e=.returned (.int .i64 b.1.1.next)∧Below l.heap.size l w'):=ZZ (fun W f=>((aa.o.below f).next av.o).mono (by
    rintro e w' ⟨rfl,C⟩
    exact⟨rfl,f.trans (C.mono f.size)⟩))
   have Q:Hid (∀ W,Below l.heap.size l W->W.cell? ⟨w.heap.size,0,none⟩=some (ptr p)∧W.cell? ⟨p,11,none⟩=some (.int .i64 b.1.1.synced)∧W.frozen? ⟨p,11,none⟩=false):=ZZ (fun W f=>by
    obtain⟨⟨-,Y,-⟩,fz⟩:=(aa.o.below f).cells
    exact⟨aw.o W (am.o.trans (Qj.ofBelow (F:=fun _=>False) f) (fun _ _ h=>h.elim)),Y,fz 11⟩)
   have ab:Hid (Below l.heap.size l l.drew):=ZZ (Below.refl _ _).drew
   have J:Hid (∀ W,Below l.heap.size l W->Z6 K w pd p v (N+4) T (.returned (.int .i64 0)) (W.setCell ⟨p,11,none⟩ (.int .i64 b.1.1.next))):=ZZ (fun W f=>by
    rw[az.o];have m:=(aa.o.below f).synced (fun k hk=>Nat.lt_of_lt_of_le (aE.o k hk) f.size)
    exact Z6.from (K2:=K2) (W:=W) ⟨rfl,m.1,m.2⟩ af.o ((ap.o.trans (am.o.mono (fun k hk n=>hk (af.o k n))) (fun _ _ h=>h)).trans (Qj.ofBelow (F:=fun _=>False) f) (fun _ _ h=>h.elim)) (by omega) zL)
   obtain⟨q0,aH,qf⟩:=Q.o l (Below.refl _ _);generalize b.1.1.next=nx at *;generalize b.1.1.synced=sy at *;clear ac ag O j z y E
   go_upto_region 6 with fail
   go_region_with(first | (go_at_call 14;refine(ae.o _ (by first | exact ab.o | exact Below.refl _ _)).mono ?_;rintro e W3 ⟨rfl,ai⟩;have aA:=ZZ ai;obtain⟨x0,aI,xf⟩:=Q.o W3 ai;clear ai))
   all_goals
    go_wp2;go_ret;exact J.o _ aA.o
  ·obtain⟨O,j,z⟩:=ag q
   have J:Hid (Z6 K w pd p v (N+4) T (.returned (.int .i64 c)) l):=ZZ (by
    rw[y.o,if_neg (by rw[j];exact q)]
    exact Z6.from (K2:=K2) (W:=g) ⟨by rw[j],O,z⟩ af.o ap.o zL zL)
   have aJ:(c != 0)=true:=by rw[bne_iff_ne];exact q
   clear ac ag O j z y E q;go_wp2;go_ret;exact J.o
end Go.Proofs.YtnahjngbneicaaaGreatDoor
