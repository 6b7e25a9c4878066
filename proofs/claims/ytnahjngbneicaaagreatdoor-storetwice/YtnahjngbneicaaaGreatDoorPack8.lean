import Derived.Test.YtnahjngbneicaaaGreatDoorPack7
import Derived.Deep.RegionHeld2
namespace Go.Proofs.YtnahjngbneicaaaGreatDoor
open _root_.Go.Proofs.Tryz
open List (append_nil getElem_mem length_drop length_map length_set length_take map_cons map_nil)
set_option maxHeartbeats 4000000
set_option maxRecDepth 100000
open Go.RowKit
variable {l:List Int} {B N N' T T' b base i j n o p pd:Nat} {L:ZdP} {w w':World} {g:Lgb} {F I K M:Nat->Prop} {s s':Sto} {d:Dk} {pv rv v:Value} {t:TypeId} {xs:List Value} {cs:Array Value}
theorem ZhS (h:j<l.length):l.getD j 0 ∈ l:=by
 rw[show l.getD j 0=l[j] by simp[List.getD,h]]
 exact getElem_mem h
def Zyy (p:Int->Bool) (l:List Int) (k:Int):Prop:=(k=-1∧∀ j,j<l.length->p (l.getD j 0)=false)∨∃ i:Nat,k=(i:Int)∧i<l.length∧(∀ j,j<i->p (l.getD j 0)=false)∧p (l.getD i 0)=true
theorem Zje (g R:Nat) (p:Int->Bool) (v:Value) (l:List Int) (w:World) (D:RdI w v l)
 (V:∀ args W,(callFunc g args).run prog W=.ok (.enter g args) W)
 (K:∀ W e,e ∈ l->Below w.heap.size w W->Calls prog g #[.int .i64 e,.pointer (some ⟨R,0,none⟩)] W fun x w'=>x=.returned (.bool (p e))∧Below W.heap.size W w'):
 Calls prog 158 #[v,.func (.func g) #[] #[.pointer (some ⟨R,0,none⟩)]] w fun x w'=>∃ k:Int,x=.returned (.int .i64 k)∧Zyy p l k∧Below w.heap.size w w':=by
 have M:=ZZ D;have G:=ZZ K;obtain⟨X,T,rfl,O,I,-,-,F⟩:=D;have J:=ZZ F;have S:(l.length:Int)<=9223372036854775807:=by unfold maxLen at I;omega
 clear K O I F
 go_enter func158,ntmps158
 go_wp2
 go_loopw[8] (fun m wr=>∃ q:Nat,m=.int .i64 (q:Int)∧q<=l.length∧Hid (∀ j,j<q->p (l.getD j 0)=false)∧Hid (Below w.heap.size w wr)) (fun m _=>l.length-(intOf m).toNat)
 case atStart=>exact⟨0,rfl,Nat.zero_le _,ZZ (fun j f=>absurd f (Nat.not_lt_zero _)),Below.refl _ _⟩
 case round=>
  obtain⟨q,rfl,U,z,d⟩:=hrel;by_cases c:q<l.length
  case neg=>
   obtain rfl:q=l.length:=by omega
   go_wp2;go_ret;exact⟨-1,rfl,.inl ⟨rfl,z.out⟩,d.out⟩
  have Q:(q:Int)<(l.length:Int):=by omega
  rcases J.o with N | ⟨b,y,rfl,t⟩
  ·rw[N] at c;simp at c
  have P:wr.cell? ⟨b,y+q,none⟩=some (.int .i64 (l.getD q 0)):=(World.cell?_of_block (a:=⟨b,y+q,none⟩) (d.out.block b (World.block_lt_of_cell? w ⟨b,y+q,none⟩ (t q c)))).trans (t q c);have i:=ZZ (G.o wr (l.getD q 0) (ZhS c) d.out);have L:Hid (∀ j,j<q+1->j=q∨j<q):=ZZ (fun j f=>by omega)
  obtain⟨e,A⟩:∃ e,e=l.getD q 0:=⟨_,rfl⟩;rw[<-A] at i P;have C:=ZZ A;obtain⟨n,u⟩:∃ n,n=p e:=⟨_,rfl⟩;rw[<-u] at i;have H:=ZZ u;clear A t G J M u
  go_wp2_with fail
  refine i.o.mono ?_;rintro x Y ⟨rfl,E⟩;have B:=ZZ (d.out.trans (E.mono d.out.size));clear E i
  cases n with
  | true=>
   go_wp2;go_ret;exact⟨(q:Int),rfl,.inr ⟨q,rfl,c,z.out,by rw[<-C.o];exact H.o.symm⟩,B.o⟩
  | false=>
   go_wp2;go_roundw
   case rel=>exact⟨q+1,by go_num,by omega,ZZ (fun j f=>by
    rcases L.o j f with h | h
    ·rw[h,<-C.o];exact H.o.symm
    ·exact z.out j h),B⟩
   case measure=>simp[intOf];omega
theorem ZcL (p:Int->Bool) (l:List Int) (j:Nat) (a:j<l.length):(l.take (j+1)).filter (fun e=>!p e)=(l.take j).filter (fun e=>!p e)++if p (l.getD j 0)=true then[] else[l.getD j 0]:=by
 have b:l.take (j+1)=l.take j++[l.getD j 0]:=by
  rw[List.take_add_one,List.getElem?_eq_getElem a];simp[List.getD,a]
 rw[b,List.filter_append]
 congr 1
 generalize l.getD j 0=x
 cases h:p x <;> simp[h]
theorem ZfW (p:Int->Bool) (l:List Int) (i:Nat) (c:i<=l.length) (h:∀ j,j<i->p (l.getD j 0)=false):(l.take i).filter (fun e=>!p e)=l.take i:=by
 rw[List.filter_eq_self];intro e b;obtain⟨j,a,rfl⟩:=List.getElem_of_mem b;rw[length_take] at a;have:=h j (by omega)
 rw[List.getElem_take];simp only [List.getD,List.getElem?_eq_getElem (show j<l.length by omega),Option.getD_some] at this
 simp[this]
def ZsK (p:Int->Bool) (l L:List Int) (i j:Nat):Prop:=L.length=l.length∧L.take i=(l.take j).filter (fun e=>!p e)∧L.drop j=l.drop j∧i<j
theorem ZsK.start {p:Int->Bool} (a:i<l.length) (h:∀ j,j<i->p (l.getD j 0)=false) (b:p (l.getD i 0)=true):ZsK p l l i (i+1):=by
 refine⟨rfl,?_,rfl,Nat.lt_succ_self _⟩;rw[ZcL p l i a,if_pos b,append_nil,ZfW p l i (by omega) h]
theorem ZsK.at {p:Int->Bool} {L:List Int} (h:ZsK p l L i j):L.getD j 0=l.getD j 0:=by
 obtain⟨e,f,c,d⟩:=h;have b:(L.drop j).getD 0 0=L.getD j 0:=by simp[List.getD]
 have a:(l.drop j).getD 0 0=l.getD j 0:=by simp[List.getD]
 rw[<-b,<-a,c]
theorem ZjP {L:List Int} (h:L.drop j=l.drop j):L.drop (j+1)=l.drop (j+1):=by
 rw[<-List.drop_drop,<-List.drop_drop,h]
theorem ZsK.skip {p:Int->Bool} {L:List Int} (h:ZsK p l L i j) (d:j<l.length) (e:p (l.getD j 0)=true):ZsK p l L i (j+1):=by
 obtain⟨a,b,c,f⟩:=h;refine⟨a,?_,ZjP c,by omega⟩
 rw[ZcL p l j d,if_pos e,append_nil,b]
theorem ZsK.keep {p:Int->Bool} {L:List Int} (h:ZsK p l L i j) (d:j<l.length) (e:p (l.getD j 0)=false):ZsK p l (L.set i (l.getD j 0)) (i+1) (j+1):=by
 obtain⟨a,b,c,f⟩:=h;refine⟨by rw[length_set,a],?_,?_,by omega⟩
 ·rw[ZcL p l j d,if_neg (by rw[e];simp),<-b,List.take_add_one,List.take_set_of_le zL]
  congr 1
  rw[List.getElem?_set_self (by omega)]
  rfl
 ·rw[List.drop_set_of_lt (by omega)]
  exact ZjP c
theorem Qo.cutClear {g cap:Nat} (h:Qo w B (.slice (some ⟨g,0,none⟩) n cap) l) (i:Nat) (t:i<=l.length) (vs:List Value):Qo (w.setCells g i vs) B (.slice (some ⟨g,0,none⟩) i cap) (l.take i):=by
 rcases h.row with ⟨a,-⟩ | ⟨g',u,cur,a,d,p,m,q,c,f,e⟩
 ·cases a
 ·injection a with a _ h3
  injection a with a
  injection a with a
  subst a h3;have k:=Xl g _ vs i w cur m;refine Qo.ofRowN (by rw[length_take];omega) d k (by rw[length_take];omega) c (by rw[Xd];exact f) fun j b=>?_
  rw[length_take] at b;rw[Yb _ _ _ _ (by omega),if_neg (by omega),e j (by omega)]
  simp[List.getD,show j<i by omega]
theorem ZhT (g R:Nat) (p:Int->Bool) (v:Value) (l:List Int) (B:Nat) (w:World) (t:Qo w B v l) (hI:∀ e ∈ l,I64 e) (O:B<=w.heap.size) (ax:l.length<=1000000)
 (eg:∀ args W,(callFunc g args).run prog W=.ok (.enter g args) W)
 (y:∀ W e,e ∈ l->Below B w W->Calls prog g #[.int .i64 e,.pointer (some ⟨R,0,none⟩)] W fun x w'=>x=.returned (.bool (p e))∧Below W.heap.size W w'):
 Calls prog 112 #[v,.func (.func g) #[] #[.pointer (some ⟨R,0,none⟩)]] w fun x w'=>∃ v',x=.returned v'∧Qo w' B v' (l.filter (fun e=>!p e))∧Below B w w':=by
 have Z:=ZZ t;have HP:=ZZ y;have Q:=ZZ (Zje g R p v l w (t.rd hI) eg (fun W e m h=>y W e m (h.mono O)))
 obtain⟨va,d,hv⟩:=t.shape;subst hv;clear t y
 go_enter func112,ntmps112
 go_wp2_with fail
 refine Q.o.mono ?_;rintro x W0 ⟨k,rfl,a,K⟩;have J:=ZZ (K.mono O);have q:=ZZ (Z.o.below K zL);clear Q K Z;rcases a with ⟨rfl,a⟩ | ⟨z,rfl,N,a,T⟩
 ·have HE:Hid (l.filter (fun e=>!p e)=l):=ZZ (by
   have:=ZfW p l l.length zL a
   rwa [List.take_length] at this)
  clear a;go_wp2;go_ret;exact⟨_,rfl,by rw[HE.o];exact q.o,J.o⟩
 have U:=ZZ (ZsK.start N a T);clear a T;rcases q.o.row with ⟨-,h2⟩ | ⟨f,cap,cur,D,ab,-,-,ay,ak,-,-⟩
 ·rw[h2] at N;simp at N
 injection D with D _ h3
 subst D h3;have ao:(l.length:Int)<=1000000:=by omega
 clear cur ak;have ei:((z:Int) == -1)=false:=beq_eq_false_iff_ne.2 (by omega)
 go_wp2
 go_loopw[5,6] (fun v5 M wr=>∃ (i j:Nat) (L:List Int),v5=.int .i64 (i:Int)∧M=.int .i64 (j:Int)∧i<j∧j<=l.length∧Hid (Qo wr B (.slice (some ⟨f,0,none⟩) l.length d) L)∧Hid (ZsK p l L i j)∧Hid (Below B w wr)) (fun _ M _=>l.length-(intOf M).toNat)
 case atStart=>exact⟨z,z+1,l,rfl,by go_num,by omega,by omega,q,U,J⟩
 case round=>
  clear q U J ei;obtain⟨i,j,L,rfl,rfl,aB,ar,c,b,n⟩:=hrel;by_cases C:j<l.length
  case neg=>
   obtain rfl:j=l.length:=by omega
   have hL:L.length=l.length:=b.out.1;have HT:Hid (L.take i=l.filter (fun e=>!p e)):=ZZ (by rw[b.out.2.1,List.take_length])
   obtain⟨g',am,E,-,al,-,-,-,-⟩:=c.out.put i (by omega) 0
   injection E with e1 e2 e3
   clear e2
   injection e1 with e1
   injection e1 with e1
   subst e1 e3
   have X:Hid (∀ k,k<l.length->wr.frozen? ⟨f,k,none⟩=false∧(wr.cell? ⟨f,k,none⟩).isSome=true):=ZZ (fun k V=>by
    obtain⟨g2,ae,I,ag,aj,-⟩:=c.out.put k (by omega) 0
    injection I with f1 _ _
    injection f1 with f1
    injection f1 with f1
    subst f1
    exact⟨aj,by rw[ag];rfl⟩)
   have HK:Hid (∀ ty,(Builtin.clear_ #[23] ty #[.slice (some ⟨f,i,none⟩) (l.length-i) (d-i)]).run prog wr=.ok (.tuple #[]) (wr.setCells f i (List.replicate (l.length-i) (.int .i64 0)))):=ZZ (fun ty=>
    Go.Lib.run_clear_slice wr _ _ ty (.int .i64 0) underlying23 Tryz.zeroValue3 rfl rfl f i (l.length-i) (d-i) (by omega) (fun k V=>(X.o (i+k) (by omega)).2) (fun k V=>(X.o (i+k) (by omega)).1))
   have ad:=ZZ (c.out.cutClear i (by omega) (List.replicate (l.length-i) (.int .i64 0)))
   rw[HT.o] at ad;have af:=ZZ (Jw ab (List.replicate (l.length-i) (.int .i64 0)) i wr n.out);have az:¬ (d=i):=by omega
   have u:(i:Int)<=(l.length:Int):=by omega
   have au:(i:Int)<=(d:Int):=by omega
   have aq:i<=l.length:=by omega
   have an:i<=d:=by omega
   clear al;have hK:=HK.o;go_wp2;go_ret;exact⟨_,rfl,ad.o,af.o⟩
  have ap:(j:Int)<(l.length:Int):=by omega
  have aw:L.length=l.length:=b.out.1;obtain⟨g',am,E,F,-⟩:=c.out.put j (by omega) 0
  injection E with e1 e2 e3
  clear e2
  injection e1 with e1
  injection e1 with e1
  subst e1 e3;rw[b.out.at] at F;have A:=ZZ (b.out.skip C);have P:=ZZ (b.out.keep C);obtain⟨e,m⟩:∃ e,e=l.getD j 0:=⟨_,rfl⟩;rw[<-m] at F A P;obtain⟨H,Y⟩:∃ H,H=p e:=⟨_,rfl⟩;have G:=ZZ (fun W h=>HP.o W e (by rw[m];exact ZhS C) h)
  rw[<-Y] at G A P;clear m Y b
  go_wp2_with fail
  refine(G.o _ n.out).mono ?_;rintro x W1 ⟨rfl,u⟩;have S:=ZZ (n.out.trans (u.mono (Nat.le_trans O n.out.size)));have aa:=ZZ (c.out.below u zL);clear u G F c n
  cases H with
  | true=>
   go_wp2;go_roundw
   case rel=>exact⟨i,j+1,L,rfl,by go_num,by omega,by omega,aa,ZZ (A.o (by simp)),S⟩
   case measure=>simp[intOf];omega
  | false=>
   obtain⟨g2,ae,I,d0,z0,-,-,ac,-⟩:=aa.o.put i (by omega) e
   injection I with f1 f2 f3
   clear f2
   injection f1 with f1
   injection f1 with f1
   subst f1 f3;have ai:=ZZ ac;clear ac;have av:(i:Int)<(l.length:Int):=by omega
   have aA:i<l.length:=by omega
   go_wp2;go_roundw
   case rel=>exact⟨i+1,j+1,L.set i e,by go_num,by go_num,by omega,by omega,ai,ZZ (P.o (by simp)),ZZ (S.o.setCell ab _)⟩
   case measure=>simp[intOf];omega
theorem Yj {c:Array Oper} {o:Oper} {a:Act} {K:Act->World->Prop} {Q:Exit->Act->World->Prop} {E:Prop} {R:Value->World->Prop}
 (f:FuncId) (xs:Array Operand) (ts:Array TypeId) (m:o.guard=none) (l:o.op=Op.call { callee:=Callee.value (Operand.func f),args:=xs,argTypes:=ts }) (b:Array Value) (i:xs.map a.eval=b)
 (j:∀ args w,(callFunc f args).run prog w=.ok (.enter f args) w) (n:Calls prog f b w fun e w'=>∃ v',e=.returned v'∧R v' w') (d:∀ v' w',R v' w'->K (a.put o.dst v') w'):
 if Region.wanted o (yielded c a.tmps)=true then Oper.wp prog o a w K Q else E:=by
 have g:Region.wanted o (yielded c a.tmps)=true:=by simp[Region.wanted,m]
 rw[if_pos g];unfold Oper.wp
 have h:(execOp a.eval o).run prog w=.ok (.enter f b) w:=by
  have p:a.eval (Operand.func f)=.func (.func f) #[] #[]:=rfl;simp[execOp,l,resolve,invoke,i,p,Deferred.ofValue,j]
 rw[h,Oper.upon_enter];refine n.mono ?_;rintro e w' ⟨v',rfl,k⟩;exact d v' w' k
theorem ZkY (b o:Nat) (f:Int) (a:Option Addr) (n c:Nat) (w:World) (i:w.cell? ⟨b,o,none⟩=some (.int .i64 f)) (j:w.cell? ⟨b,o+1,none⟩=some (.slice a n c)) (k:0<=f) (g:f+n<=9000000000000000000):
 Calls prog 38 #[.pointer (some ⟨b,o,none⟩)] w fun e w'=>e=.returned (.int .i64 (f+n))∧Below w.heap.size w w':=by
 have d:IntKind.i64.wrap (f+(n:Int))=f+n:=by rw[IntKind.wrap_i64];omega
 have l:(n:Int)<=9000000000000000000:=by omega
 go_enter func38,ntmps38
 go_upto_region 1 with fail
 go_quiet(fail)
 go_wp2;go_ret;refine⟨?_,Xn (Below.refl _ _) _⟩
 first | rfl | (rw[d])
structure ZoJ (s:Sto):Prop where
 f0:0<=s.log.first
 f1:s.next<=4611686018427387904
 sy:I64 s.synced
 cu:I64 s.cur
theorem ZhU (w:World) (h:Z0 M I w p pd L s) (g:ZoJ s):
 Calls prog 14 #[ptr p] w fun e w'=>e=.returned (.int .i64 s.next)∧Below w.heap.size w w':=by
 obtain⟨k,m,i⟩:=h.recs.shape;obtain⟨-,c,a,-⟩:=h.cs;rw[i] at a;have d:=g.f1;have f:=g.f0;unfold Sto.next Lgb.next at d;have n:=ZZ (ZkY p 1 s.log.first k s.log.recs.length m w c a f (by omega))
 have j:Hid (s.next=s.log.first+s.log.recs.length):=ZZ rfl;rw[j.o];generalize s.log.first+(s.log.recs.length:Int)=nx at *;clear c a i d f
 go_enter func14,ntmps14
 go_wp2_with fail
 refine n.o.mono ?_;rintro e w' ⟨rfl,b⟩;have l:=ZZ b;clear b;go_wp2;go_ret;exact⟨rfl,l.o⟩
theorem ZjQ (w:World) (h:Z0 M I w p pd L s):
 Calls prog 18 #[ptr p] w fun e w'=>e=.returned (.int .i64 s.log.first)∧w'=w:=by
 obtain⟨-,a,-⟩:=h.cs;clear h
 go_enter func18,ntmps18
 go_wp2;go_ret;exact⟨rfl,rfl⟩
theorem ZhV (w:World) (h:Z0 M I w p pd L s):
 Calls prog 11 #[ptr p] w fun e w'=>e=.returned (.int .i64 s.synced)∧w'=w:=by
 obtain⟨-,-,-,-,-,-,a,-⟩:=h.cs;clear h
 go_enter func11,ntmps11
 go_wp2;go_ret;exact⟨rfl,rfl⟩
theorem ZtW (v:Value) (l:List Int) (x:Int) (w:World) (u:RdI w v l) (t:l.length<=1000000000):
 Calls prog 92 #[v,.int .i64 x] w fun e w'=>e=.returned (.int .i64 (l.getD (l.length-1) x))∧w'=w:=by
 obtain⟨ao,cap,rfl,n,f,-,-,c⟩:=u;have g:(l.length:Int)<=9223372036854775807:=by unfold maxLen at f;omega
 by_cases a:l.length=0
 ·have e:l=[]:=List.eq_nil_of_length_eq_zero a
  subst e;have p:((0:Int) == 0)=true:=rfl;clear c f n a;have z:([]:List Int).length=0:=rfl;rw[z]
  go_enter func92,ntmps92
  go_wp2;go_ret;exact⟨rfl,rfl⟩
 ·rcases c with c | ⟨b,B,rfl,k⟩
  ·rw[c] at a;simp at a
  have p:((l.length:Int) == 0)=false:=beq_eq_false_iff_ne.2 (by omega)
  have d:=k (l.length-1) (by omega)
  have e:l.getD (l.length-1) x=l.getD (l.length-1) 0:=by
   simp[List.getD,show l.length-1<l.length by omega]
  rw[e];obtain⟨y,j⟩:∃ y,y=l.getD (l.length-1) 0:=⟨_,rfl⟩;rw[<-j] at d ⊢;obtain⟨m,i⟩:∃ m,l.length=m+1:=⟨l.length-1,by omega⟩
  rw[i] at d p g ⊢;have q:m+1-1=m:=by omega
  rw[q] at d;have A:(m:Int)<=1000000000:=by omega
  clear j k e f n a i g t
  go_enter func92,ntmps92
  go_wp2;go_ret;exact⟨rfl,rfl⟩
def ZeB (first n:Int):Bool:=decide (n<first) || decide ((n-first) % 2≠0)
theorem ZmG (l:List Int) (first:Int):Xg l first=l.filter fun n=>!ZeB first n:=rfl
theorem ZtX (R:Nat) (first n:Int) (w:World) (c:w.cell? ⟨R,0,none⟩=some (.int .i64 first)) (j:0<=first) (k:first<=1000) (l:-1000000000000000000<=n) (i:n<=1000000000000000000):
 Calls prog 111 #[.int .i64 n,.pointer (some ⟨R,0,none⟩)] w fun e w'=>e=.returned (.bool (ZeB first n))∧Below w.heap.size w w':=by
 by_cases b:n<first
 ·have e:ZeB first n=true:=by unfold ZeB;rw[decide_eq_true b];rfl
  rw[e];clear e
  go_enter func111,ntmps111
  go_wp2;go_ret;exact⟨rfl,Below.refl _ _⟩
 ·have m:IntKind.i64.wrap (n-first)=n-first:=by rw[IntKind.wrap_i64];omega
  have d:(n-first).tmod 2=(n-first) % 2:=Int.tmod_eq_emod_of_nonneg (by omega)
  by_cases a:(n-first) % 2=0
  ·have e:ZeB first n=false:=by unfold ZeB;rw[decide_eq_false b,decide_eq_false (fun h=>h a)];rfl
   have g:((n-first) % 2 != 0)=false:=by rw[a];rfl
   have f:((n-first).tmod 2 != 0)=false:=by rw[d,a];rfl
   rw[e];clear e a
   go_enter func111,ntmps111
   go_wp2;go_ret;exact⟨rfl,Below.refl _ _⟩
  ·have e:ZeB first n=true:=by unfold ZeB;rw[decide_eq_false b,decide_eq_true a];rfl
   have g:((n-first) % 2 != 0)=true:=by rw[bne_iff_ne];exact a
   have f:((n-first).tmod 2 != 0)=true:=by rw[d,bne_iff_ne];exact a
   rw[e];clear e a
   go_enter func111,ntmps111
   go_wp2;go_ret;exact⟨rfl,Below.refl _ _⟩
theorem ZaZ (h:OkD d):∀ n ∈ Ql d,0<=n∧n<1048576:=fun n b=>by
 obtain⟨e,c,rfl⟩:=List.mem_map.1 b;have a:=(h.dir.may e c).1;unfold ZfK at a;simp only [Bool.and_eq_true,decide_eq_true_eq] at a;exact a
theorem Zci (first:Int) (w:World) (h:Dsk F w p d N T) (R:N<=1000000) (J:0<=first) (G:first<=1000):
 Calls prog 74 #[ptr p,.int .i64 first] w fun e w'=>∃ v,e=.returned v∧Qo w' w.heap.size v (Xg (Ql d) first)∧Below w.heap.size w w':=by
 obtain⟨b,g⟩:∃ b,b=w.alloc (.cells #[.int .i64 first] 3):=⟨_,rfl⟩;have f:Hid (Below w.heap.size w b):=ZZ (by rw[g];exact Jc _ _)
 have q:Hid (Bk 3 b w.heap.size #[.int .i64 first]):=ZZ (by rw[g];exact heap_alloc_new w _)
 have l:=ZZ (h.below f.o)
 have D:Hid (Calls prog 28 #[ptr p] b fun e w'=>∃ v,e=.returned v∧Qo w' b.heap.size v (Ql d)∧Below b.heap.size b w'):=ZZ (by
  obtain⟨L,t,i,-⟩:=l.o
  exact Zet b t i R)
 have u:Hid (∀ n ∈ Ql d,0<=n∧n<1048576):=ZZ (by
  obtain⟨L,t,i,-⟩:=l.o
  exact ZaZ i)
 have K:Hid ((Ql d).length<=1000000):=ZZ (by
  obtain⟨L,t,i,I,-⟩:=l.o;have P:=Zbn d d.waits.length;rw[ZcY] at P;have:=I.names;unfold Ql;rw[length_map]
  omega)
 clear h
 go_enter func74,ntmps74
 go_upto_region 1 with fail
 rw[<-g];clear g
 go_wp2_with fail
 refine D.o.mono ?_;rintro e C ⟨A,rfl,x,j⟩;have H:=ZZ (f.o.trans (j.mono f.o.size));have E:Hid (∀ W,Below b.heap.size C W->W.cell? ⟨w.heap.size,0,none⟩=some (.int .i64 first)):=ZZ (fun W m=>((q.o.keep ((m.block _ q.o.lt).trans (j.block _ q.o.lt))).cell 0 rfl).1)
 have B:=ZZ (ZhT 111 w.heap.size (ZeB first) A (Ql d) b.heap.size C x (fun n k=>by
  have:=u.o n k
  exact⟨by omega,by omega⟩) j.size K.o (enters_of func111 (by kernel_rfl) rfl) (fun W n k m=>ZtX w.heap.size first n W (E.o W m) J G (by have:=u.o n k;omega) (by have:=u.o n k;omega)))
 rw[<-ZmG] at B
 obtain⟨X,U,V,O⟩:∃ a n c,A=.slice a n c:=by
  obtain⟨a,c,Q⟩:=x.shape;exact⟨a,_,c,Q⟩
 subst O;clear x j D
 go_wp2_with fail
 refine B.o.mono ?_;rintro e Z ⟨Y,rfl,y,z⟩;have M:=ZZ (y.mono f.o.size);have S:=ZZ (H.o.trans (z.mono f.o.size));clear y z;go_wp2;go_ret;exact⟨_,rfl,M.o,S.o⟩
theorem ZfX (first:Int) (w:World) (h:Z0 M I w p pd L s) (b:Dsk F w pd d N T) (Q:N<=1000000) (Y:2<=first) (x:first<=1000):
 Calls prog 50 #[ptr p,.int .i64 first] w fun e w'=>e=.returned (.int .i64 (Ya d first))∧Below w.heap.size w w':=by
 have v:=ZZ (Zci first w b Q (by omega) x)
 have q:Hid (∀ n ∈ Xg (Ql d) first,0<=n∧n<1048576):=ZZ (by
  obtain⟨L,A,t,-⟩:=b
  exact fun n i=>ZaZ t n (List.mem_filter.1 i).1)
 have D:Hid ((Ql d).length<=1000000000):=ZZ (by
  obtain⟨L,A,t,B,-⟩:=b;have K:=Zbn d d.waits.length;rw[ZcY] at K;have:=B.names;unfold Ql;rw[length_map]
  omega)
 obtain⟨S,-⟩:=h.cs;have P:Hid (Ya d first=(Xg (Ql d) first).getD ((Xg (Ql d) first).length-1) (first-2)+2):=ZZ rfl
 have j:Hid (0<=(Xg (Ql d) first).getD ((Xg (Ql d) first).length-1) (first-2)∧(Xg (Ql d) first).getD ((Xg (Ql d) first).length-1) (first-2)<=1048576):=ZZ (by
  by_cases E:(Xg (Ql d) first).length=0
  ·rw[List.eq_nil_of_length_eq_zero E]
   show 0<=first-2∧first-2<=1048576;omega
  ·have C:(Xg (Ql d) first).getD ((Xg (Ql d) first).length-1) (first-2) ∈ Xg (Ql d) first:=by
    rw[show(Xg (Ql d) first).getD ((Xg (Ql d) first).length-1) (first-2)=(Xg (Ql d) first)[(Xg (Ql d) first).length-1]'(by omega) by simp[List.getD,show(Xg (Ql d) first).length-1<(Xg (Ql d) first).length by omega]]
    exact getElem_mem _
   have:=q.o _ C
   omega)
 clear h b;rw[P.o];have R:Hid ((Xg (Ql d) first).length<=1000000000):=ZZ (Nat.le_trans (List.length_filter_le _ _) D.o);generalize Xg (Ql d) first=l at *;obtain⟨y,f⟩:∃ y,y=l.getD (l.length-1) (first-2):=⟨_,rfl⟩;rw[<-f] at j ⊢;have J:=ZZ f;clear f
 go_enter func50,ntmps50
 go_wp2_with fail
 refine v.o.mono ?_;rintro e U ⟨G,rfl,g,u⟩;have z:=ZZ u
 have m:=ZZ (g.rd (fun n i=>by
  have:=q.o n i
  exact⟨by omega,by omega⟩))
 obtain⟨X,V,W,H⟩:∃ a n c,G=.slice a n c:=by
  obtain⟨a,c,O⟩:=g.shape;exact⟨a,_,c,O⟩
 subst H;have k:=ZZ (ZtW _ l (first-2) U m.o R.o);rw[<-J.o] at k;have aa:=j.o.1;have Z:=j.o.2;clear g u m S
 go_wp2_with fail
 refine k.o.mono ?_;rintro e W2 ⟨rfl,rfl⟩;go_wp2;go_ret;exact⟨rfl,z.o⟩
def Zyz:Qv × Value × Value:=(Xr,.slice none 0 0,.slice none 0 0)
def Zcj (l:List (Qv × Value × Value)):Qv × Value × Value:=l.getD (l.length-1) Zyz
theorem ZjR (h:L.bs.map Prod.fst=s.bases):(Zcj L.bs).1=s.base:=by
 unfold Zcj Sto.base;rw[<-h,length_map];simp only [List.getD,List.getElem?_map]
 cases L.bs[L.bs.length-1]? <;> rfl
theorem ZhW {l:List (Qv × Value × Value)} (h:l.length≠0):Zcj l ∈ l:=by
 unfold Zcj;rw[show l.getD (l.length-1) Zyz=l[l.length-1]'(by omega) by simp[List.getD,show l.length-1<l.length by omega]]
 exact getElem_mem _
theorem ZtY {l:List (Qv × Value × Value)} (h:w.ownsRow 0 41 6 v l.length (Xh l)) (i:l.length≠0):
 ∃ g cap,v=.slice (some ⟨g,0,none⟩) l.length cap∧∀ k u,k<6->(snC (Zcj l))[k]?=some u->w.cell? ⟨g,(l.length-1)*6+k,none⟩=some u:=by
 rcases h.2 with ⟨_,m⟩ | ⟨g,cap,cur,f,_,n,p,t,q,j⟩
 ·exact absurd m i
 ·refine⟨g,cap,f,fun k u d c=>?_⟩
  have b:l.length-1<l.length:=by omega
  have e:Zcj l=l[l.length-1]:=by unfold Zcj;simp[List.getD,b]
  rw[e] at c;rw[cell_of_row w g _ _ _ _ n];have a:=ZhR l (l.length-1) k b d;rw[c,<-j,List.getElem?_take] at a;rw[if_pos (by omega)] at a
  rw[<-Array.getElem?_toList];exact a
theorem ZtZ (v:Value) (l:List (Qv × Value × Value)) (w:World) (h:w.ownsRow 0 41 6 v l.length (Xh l)) (H:l.length≠0) (U:l.length<=1000000000) (t:∃ a n c a' n' c',(Zcj l).2.1=.slice a n c∧(Zcj l).2.2=.slice a' n' c'):
 Calls prog 78 #[v,.agg #[.int .i64 0,.int .i64 0,.slice none 0 0,.bool false,.int .i64 0,.slice none 0 0]] w fun e w'=>e=.returned (snV (Zcj l))∧Below w.heap.size w w':=by
 obtain⟨g,cap,rfl,d⟩:=ZtY h H;obtain⟨x,M⟩:∃ x,x=Zcj l:=⟨_,rfl⟩;rw[<-M] at d t ⊢;obtain⟨m,C⟩:∃ m,l.length=m+1:=⟨l.length-1,by omega⟩
 have u:l.length-1=m:=by omega
 rw[u] at d;obtain⟨⟨L,⟨kd,LL,y,J⟩,tb⟩,vl,vt⟩:=x;obtain⟨K,B,lc,F,P,G,E,z⟩:=t
 dsimp only at E z
 subst E z;have q:=d 0 _ (by decide) rfl
 have A:=d 1 _ (by decide) rfl
 have N:=d 2 _ (by decide) rfl
 have O:=d 3 _ (by decide) rfl
 have I:=d 4 _ (by decide) rfl
 have D:=d 5 _ (by decide) rfl
 have j:g<w.heap.size:=World.block_lt_of_cell? w ⟨g,m*6+0,none⟩ q;rw[C];have W:((m+1:Nat):Int)≠0:=by omega
 have aa:((((m+1:Nat):Int)) == 0)=false:=beq_eq_false_iff_ne.2 W;have ab:(m:Int)<=1000000000:=by omega
 obtain⟨b,k⟩:∃ b,b=(w.alloc (.cells #[.int .i64 0,.int .i64 0,.slice none 0 0,.bool false,.int .i64 0,.slice none 0 0] 41)).alloc (.cells #[.int .i64 0,.int .i64 0,.slice none 0 0,.bool false,.int .i64 0,.slice none 0 0] 41):=⟨_,rfl⟩;have f:Hid (Below w.heap.size w b):=ZZ (by rw[k];exact((Below.refl _ _).alloc zL _).alloc (by simp) _)
 have i:Hid (Bn b (w.heap.size+1) #[.int .i64 0,.int .i64 0,.slice none 0 0,.bool false,.int .i64 0,.slice none 0 0]):=ZZ (by rw[k];exact ZdM w _ _)
 have e0:b.cell? ⟨g,m*6,none⟩=some (.int .i64 L):=(f.o.cell (p:=⟨g,m*6,none⟩) j).trans q;have e1:b.cell? ⟨g,m*6+1,none⟩=some (.int .i64 kd):=(f.o.cell (p:=⟨g,m*6+1,none⟩) j).trans A;have e2:b.cell? ⟨g,m*6+2,none⟩=some (.slice K B lc):=(f.o.cell (p:=⟨g,m*6+2,none⟩) j).trans N;have e3:b.cell? ⟨g,m*6+3,none⟩=some (.bool y):=(f.o.cell (p:=⟨g,m*6+3,none⟩) j).trans O;have e4:b.cell? ⟨g,m*6+4,none⟩=some (.int .i64 J):=(f.o.cell (p:=⟨g,m*6+4,none⟩) j).trans I;have e5:b.cell? ⟨g,m*6+5,none⟩=some (.slice F P G):=(f.o.cell (p:=⟨g,m*6+5,none⟩) j).trans D;obtain⟨Q,y0⟩:=i.o.cell 0;obtain⟨T,y1⟩:=i.o.cell 1;obtain⟨R,Z⟩:=i.o.cell 2;obtain⟨V,y3⟩:=i.o.cell 3;obtain⟨S,y4⟩:=i.o.cell 4;obtain⟨X,Y⟩:=i.o.cell 5;clear q A N O I D d h M C u H U
 go_enter func78,ntmps78
 go_upto_region 1 with fail
 rw[<-k];clear k;go_wp2;refine bodyPost_ret (v:=.agg #[.int .i64 L,.int .i64 kd,.slice K B lc,.bool y,.int .i64 J,.slice F P G]) (by simp[results,Tryz.results78,go_sem,Q,T,R,V,S,X]) rfl ?_
 exact⟨rfl,ZaY f.o _ (by omega) _ _ _ _ _ _⟩
theorem SnR.shape {x:Qv × Value × Value} (h:SnR w x):∃ a n c a' n' c',x.2.1=.slice a n c∧x.2.2=.slice a' n' c':=by
 obtain⟨a,c,b,-⟩:=h.l;obtain⟨a',c',d⟩:=h.t.shape;exact⟨a,_,c,a',_,c',b,d⟩
theorem Zqd (w:World) (h:Z0 M I w p pd L s) (O:s.bases.length≠0) (R:s.bases.length<=1000000000):
 Calls prog 37 #[ptr p] w fun e w'=>e=.returned (snV (Zcj L.bs))∧Below w.heap.size w w':=by
 have H:L.bs.length=s.bases.length:=by rw[<-h.bsEq,length_map]
 have y:=ZhW (l:=L.bs) (by omega)
 have j:=ZZ (h.base _ y);obtain⟨d,i⟩:∃ d,d=w.alloc (.cells #[.int .i64 0,.int .i64 0,.slice none 0 0,.bool false,.int .i64 0,.slice none 0 0] 41):=⟨_,rfl⟩;have m:Hid (Below w.heap.size w d):=ZZ (by rw[i];exact Jc _ _)
 have S:Hid (Bn d w.heap.size #[.int .i64 0,.int .i64 0,.slice none 0 0,.bool false,.int .i64 0,.slice none 0 0]):=ZZ (by rw[i];exact heap_alloc_new w _)
 have q:=ZZ (h.below m.o);obtain⟨-,-,-,-,B,-⟩:=q.o.cs;have f:=ZZ (ZtZ L.bv L.bs d q.o.bases (by omega) (by omega) j.o.shape)
 obtain⟨ba,bn,bc,A⟩:∃ a n c,L.bv=.slice a n c:=by
  rcases h.bases.2 with ⟨k,_⟩ | ⟨g,cap,cur,k,_⟩
  ·exact⟨_,_,_,k⟩
  ·exact⟨_,_,_,k⟩
 rw[A] at B f;obtain⟨x,C⟩:∃ x,x=Zcj L.bs:=⟨_,rfl⟩;rw[<-C] at f j ⊢;obtain⟨U,G,lc,K,Y,N,z,u⟩:=j.o.shape;obtain⟨⟨V,⟨kd,LL,D,T⟩,tb⟩,vl,vt⟩:=x
 dsimp only at z u
 subst z u;unfold snV snC at f ⊢
 dsimp only at f ⊢
 clear h A C y H O R q j
 go_enter func37,ntmps37
 go_upto_region 1 with fail
 rw[<-i];clear i
 go_wp2_with fail
 refine f.o.mono ?_;rintro e W1 ⟨rfl,t⟩;have F:=ZZ (m.o.trans (t.mono m.o.size));have b:=S.o.below t zL;obtain⟨E,y0⟩:=b.cell 0;obtain⟨Q,y1⟩:=b.cell 1;obtain⟨J,y2⟩:=b.cell 2;obtain⟨W,y3⟩:=b.cell 3;obtain⟨P,y4⟩:=b.cell 4;obtain⟨X,Z⟩:=b.cell 5;clear t b B;go_wp2;refine bodyPost_ret (v:=.agg #[.int .i64 V,.int .i64 kd,.slice U G lc,.bool D,.int .i64 T,.slice K Y N]) (by simp[results,Tryz.results37,go_sem,E,Q,J,W,P,X]) rfl ?_
 exact⟨rfl,ZaY F.o _ (by omega) _ _ _ _ _ _⟩
def Zxz (w:World) (s:Qv) (e:Ending) (w':World):Prop:=
 ∃ vl vt,e=.returned (snV (s,vl,vt))∧SnR w' (s,vl,vt)∧(∀ b,vl.ownBlock=some b->w.heap.size<=b)∧(∀ b,vt.ownBlock=some b->w.heap.size<=b)∧Below w.heap.size w w'
theorem ZrD (x:Qv × Value × Value) (w:World) (hx:SnR w x) (G:x.1.st.L.length<=1000000) (M:x.1.tab.length<=1000000):
 Calls prog 47 #[snV x] w fun e w'=>Zxz w x.1 e w':=by
 obtain⟨⟨idx,⟨kind,L,t,q⟩,k⟩,vl,vt⟩:=x;obtain⟨y,z,m,p,n⟩:=hx
 dsimp only at y z m p n G M ⊢
 obtain⟨P,lc,rfl,-⟩:=id y;obtain⟨Z,tc,rfl⟩:=z.shape;have aa:=ZZ (fun W (h:Below w.heap.size w W)=>Zfr _ L W (y.below h zL) G)
 have ae:=ZZ (fun W (h:Below w.heap.size w W)=>Zfs _ k W (z.below h zL) M)
 have E:=ZZ y.i64;have ab:∀ e ∈ k,ZkN e:=z.choose_spec.choose_spec.2.2.2.2.1;have ad:=ZZ ab;obtain⟨d,l⟩:∃ d,d=(w.alloc (.cells #[.int .i64 idx,.int .i64 kind,.slice P L.length lc,.bool t,.int .i64 q,.slice Z k.length tc] 41)).alloc (.cells #[.int .i64 0,.int .i64 0,.slice none 0 0,.bool false,.int .i64 0,.slice none 0 0] 41):=⟨_,rfl⟩;have j:Hid (Below w.heap.size w d):=ZZ (by rw[l];exact((Below.refl _ _).alloc zL _).alloc (by simp) _)
 have g:Hid (Bn d w.heap.size #[.int .i64 idx,.int .i64 kind,.slice P L.length lc,.bool t,.int .i64 q,.slice Z k.length tc]):=ZZ (by rw[l];exact(Below.heap_alloc _ _ _ (by simp)).trans (heap_alloc_new w _))
 have Y:Hid (Bn d (w.heap.size+1) #[.int .i64 0,.int .i64 0,.slice none 0 0,.bool false,.int .i64 0,.slice none 0 0]):=ZZ (by rw[l];exact ZdM w _ _)
 have ai:d.heap.size=w.heap.size+2:=by rw[l];simp
 unfold snV snC
 dsimp only
 clear y z ab G M
 go_enter func47,ntmps47
 go_upto_region 1 with fail
 rw[<-l];clear l;obtain⟨Q,O⟩:=g.o.cell 2;obtain⟨p5,g5⟩:=g.o.cell 5
 go_cut[] (fun wc=>Hid (ZmD w ⟨idx,⟨kind,L,t,q⟩,k⟩ wc))
 case first=>
  go_region_with
   (first
    | (go_at_call 39;refine(aa.o _ (by first | exact j.o.drew | exact j.o)).mono ?_;rintro e W1 ⟨v1,rfl,K,I⟩;have D:Below d.heap.size d W1:=(by first | exact((Below.refl _ _).drew).trans I | exact I);have ag:=ZZ K;have B:=ZZ D;obtain⟨a1,c1,am⟩:∃ a c,v1=.slice a L.length c:=(by obtain⟨a,c,h,-⟩:=K.rd E.o;exact⟨a,c,h⟩);subst am;obtain⟨q2,k2⟩:=(g.o.below D zL).cell 2;obtain⟨q5,k5⟩:=(g.o.below D zL).cell 5;clear K I D)
    | (go_at_call 40;refine(ae.o _ (j.o.trans (B.o.mono j.o.size))).mono ?_;rintro e W2 ⟨v2,rfl,J,H⟩;have al:=ZZ J;have u:=ZZ (B.o.trans (H.mono B.o.size));have aj:=ZZ (ag.o.below H zL);obtain⟨a2,c2,ak⟩:=J.shape;subst ak;obtain⟨r2,j2⟩:=(g.o.below u.o zL).cell 2;obtain⟨r5,j5⟩:=(g.o.below u.o zL).cell 5;clear J H))
  all_goals
   go_wp2_with fail
   go_meet
   exact ZZ (ZhK (g.o.below u.o zL) (Y.o.below u.o zL) (aj.o.mono (by first | omega | (show w.heap.size+2<=d.heap.size;omega))) E.o (al.o.mono (by have:=B.o.size;omega)) ad.o n m p (j.o.trans (u.o.mono j.o.size)))
 case rest=>
  have V:=hcut;clear hcut j g Y ai Q O p5 g5 aa ae E ad d m p n;obtain⟨W,rfl⟩:∃ W,W=wc:=⟨_,rfl⟩;obtain⟨X,sc,U,ec,f,i,R,ac,hE,T,n,m,p,hB⟩:=V.o;have HY:=ZZ i;have S:=ZZ R;have F:=ZZ ac;have C:=ZZ hE;have N:=ZZ T;have A:=ZZ (And.intro n (And.intro m p));have HB:=ZZ hB
  dsimp only at f S F C N A
  obtain⟨p0,g0⟩:=f.cell 0;obtain⟨p1,g1⟩:=f.cell 1;obtain⟨Q,O⟩:=f.cell 2;obtain⟨p3,g3⟩:=f.cell 3;obtain⟨p4,g4⟩:=f.cell 4;obtain⟨p5,g5⟩:=f.cell 5;obtain⟨z0,y0⟩:=i.cell 0;obtain⟨z1,y1⟩:=i.cell 1;obtain⟨z2,y2⟩:=i.cell 2;obtain⟨z3,y3⟩:=i.cell 3;obtain⟨z4,y4⟩:=i.cell 4;obtain⟨z5,y5⟩:=i.cell 5;have an:¬ (w.heap.size=w.heap.size+1):=by omega
  clear f i R ac hE T n m p hB V;go_wp2;refine bodyPost_ret (v:=.agg #[.int .i64 idx,.int .i64 kind,.slice X L.length sc,.bool t,.int .i64 q,.slice U k.length ec]) (by simp[results,Tryz.results47,go_sem,z0,z1,z2,z3,z4,z5]) rfl ?_
  have af:=ZpZ W (w.heap.size+1) (.int .i64 idx) (.int .i64 kind) (.slice X L.length sc) (.bool t) (.int .i64 q) (.slice U k.length ec);exact⟨_,_,rfl,⟨S.o.but af (.inr fun b h=>by have:=F.o b h;omega),(C.o.rd N.o).but af (.inr fun b h=>by have:=C.o.fresh b h;omega),A.o.2.1,A.o.2.2,A.o.1⟩,fun b h=>by have:=F.o b h;omega,fun b h=>by have:=C.o.fresh b h;omega,Zew HB.o _ (by omega) _ _ _ _ _ _⟩
theorem ZxA:(prog.info? 108).map (fun i=>(i.zero,i.size,i.bytes))=some (some (.agg #[.int .i64 0,.int .i64 0,.int .i64 0]),3,24):=by kernel_rfl
theorem ZkZ (w:World) (ty:TypeId) (v:Value) (l:List Pce) (h:w.ownsRow 0 108 3 v l.length (Qx l)) (c:Pce) (n:l.length<=10000000):
 ∃ v' w',(Builtin.append_ #[71,71] ty #[v,.slice (some ⟨w.heap.size,0,none⟩) 1 1]).run prog (w.alloc (.cells (pcC c) 108))=.ok v' w'∧
  w'.ownsRow 0 108 3 v' (l++[c]).length (Qx (l++[c]))∧(w.alloc (.cells (pcC c) 108)).grownBy w' v.ownBlock∧(v'.ownBlock=v.ownBlock∨v'.ownBlock=some (w.heap.size+1)):=by
 obtain⟨m,e,i,d,b⟩:=info_parts ZxA
 obtain⟨v',w',g,k,f,_,hl⟩:=run_append_own_at (P:=prog) (w.alloc (.cells (pcC c) 108)) 0 71 ty 108 m _ 3 24 underlying71 e i d b rfl (by decide) v l.length (Qx l) (World.ownsRow.alloc h _)
  ⟨w.heap.size,0,none⟩ 1 1 (Qx [c]) (Zas [c]) (fun j u a=>by
   rw[Addr.add_lit,Nat.zero_add,cell_of_row _ w.heap.size j _ 108 (0,0) (heap_alloc_new w _)]
   simpa[Qx] using a) (ZoI [c]) (by unfold maxLen;omega) (by omega) (Nat.zero_le _)
 refine⟨v',w',g,?_,f,?_⟩
 ·rw[List.length_append,ZhP]
  exact k
 ·rcases hl with hl | hl
  ·exact .inl hl
  ·exact .inr (by rw[hl];simp)
theorem Zaa (w:World) {b:Array Oper} {rest:List Oper} {o:Oper} {a:Act} {Q:Exit->Act->World->Prop} (k:o.guard=none) (s x:Operand)
 (q:o.op=.call { callee:=.builtin .append,args:=#[s,x],argTypes:=#[71,71] })
 (v:Value) (l:List Pce) (i:a.eval s=v) (h:w.ownsRow 0 108 3 v l.length (Qx l)) (c:Pce) (m:a.eval x=.slice (some ⟨w.heap.size,0,none⟩) 1 1) (g:l.length<=10000000)
 (e:∀ v' w',w'.ownsRow 0 108 3 v' (l++[c]).length (Qx (l++[c]))->(w.alloc (.cells (pcC c) 108)).grownBy w' v.ownBlock->(v'.ownBlock=v.ownBlock∨v'.ownBlock=some (w.heap.size+1))->
  wpList prog b Q rest (a.put o.dst v') w'):wpList prog b Q (o::rest) a (w.alloc (.cells (pcC c) 108)):=
 wpList_plain k fun _ f=>by
  obtain⟨v',w',p,d,j,n⟩:=ZkZ w o.type v l h c g;unfold Oper.wp execOp;simp only [q,resolve,invoke,builtin,Sem.run_bind,Sem.run_pure,Result.andThen_ok,List.map_toArray,map_cons,map_nil,i,m,p];exact f _ _ (e v' w' d j n)
theorem ZhX (w:World) (ty:TypeId) (v:Value) (b:List Rec) (c:Q9 w 0 v b) (g:Value) (l:List Rec) (n:RdR w g l) (y:b.length+l.length<=10000000):
 ∃ v' w',(Builtin.append_ #[29,29] ty #[v,g]).run prog w=.ok v' w'∧Q9 w' 0 v' (b++l)∧w.grownBy w' v.ownBlock∧(v'.ownBlock=v.ownBlock∨v'.ownBlock=some w.heap.size):=by
 obtain⟨i,f,u,m,j⟩:=info_parts Zdc;obtain⟨ao,cap,rfl,A,z,t,_,p⟩:=n
 cases ao with
 | none=>
  have k:=t rfl;subst k;have d:l=[]:=List.eq_nil_of_length_eq_zero (by omega)
  subst d;have e:=run_append_owned_none (P:=prog) w 0 29 ty 62 i 7 underlying29 f v b.length (Qq b) c;exact⟨v,w,e,by rw[append_nil];exact c,⟨rfl,rfl,rfl,Nat.le_refl _,fun _ _ _=>rfl⟩,.inl rfl⟩
 | some a=>
  obtain⟨v',w',e,x,q,_,d⟩:=run_append_own_at (P:=prog) w 0 29 ty 62 i _ 7 56 underlying29 f u m j rfl (by decide) v b.length (Qq b) c a l.length cap (Qq l)
   (Yx l) (RdR.cells p a rfl) (Zbq l) (by unfold maxLen;omega) (by omega) (Nat.zero_le _)
  refine⟨v',w',e,?_,q,d⟩;unfold Q9;rw[List.length_append,Zax];exact x
theorem Zbs (w:World) {d:Array Oper} {rest:List Oper} {o:Oper} {a:Act} {Q:Exit->Act->World->Prop} (n:o.guard=none) (s x:Operand)
 (u:o.op=.call { callee:=.builtin .append,args:=#[s,x],argTypes:=#[29,29] })
 (v:Value) (b:List Rec) (k:a.eval s=v) (g:Q9 w 0 v b) (c:Value) (l:List Rec) (p:a.eval x=c) (j:RdR w c l) (i:b.length+l.length<=10000000)
 (h:∀ v' w',Q9 w' 0 v' (b++l)->w.grownBy w' v.ownBlock->(v'.ownBlock=v.ownBlock∨v'.ownBlock=some w.heap.size)->wpList prog d Q rest (a.put o.dst v') w'):wpList prog d Q (o::rest) a w:=
 wpList_plain n fun _ f=>by
  obtain⟨v',w',t,e,m,q⟩:=ZhX w o.type v b g c l j i;unfold Oper.wp execOp;simp only [u,resolve,invoke,builtin,Sem.run_bind,Sem.run_pure,Result.andThen_ok,List.map_toArray,map_cons,map_nil,k,p,t];exact f _ _ (h v' w' e m q)
theorem Xm {s:Nat} (h:w.ownsRow base t s v n xs) {g:Nat} (a:v.ownBlock=some g):∃ cs,Bk t w g cs:=by
 rcases h.2 with ⟨b,_⟩ | ⟨g',cap,cur,b,_,c,_⟩
 ·rw[b] at a;cases a
 ·rw[b] at a
  obtain rfl:g'=g:=by simpa[Value.ownBlock] using a
  exact⟨_,c⟩
theorem Zg {s:Nat} (h:w.ownsRow base t s v n xs):∃ a c,v=.slice a n c:=by
 rcases h.2 with ⟨b,d⟩ | ⟨g',cap,cur,b,_⟩
 ·exact⟨_,_,by rw[b,d]⟩
 ·exact⟨_,_,b⟩
structure ZhY (t:TypeId) (w:World) (b o:Nat) (cs:Array Value) (rv pv:Value) (g:Lgb):Prop where
 blk:Bk t w b cs
 c0:cs[o]?=some (.int .i64 g.first)
 c1:cs[o+1]?=some rv
 c2:cs[o+2]?=some pv
 recs:Q9 w 0 rv g.recs
 pcs:w.ownsRow 0 108 3 pv g.pcs.length (Qx g.pcs)
def Zjf (b:Nat) (rv pv:Value) (k:Nat):Prop:=k=b∨rv.ownBlock=some k∨pv.ownBlock=some k
theorem ZhY.neR (h:ZhY t w b o cs rv pv g) (c:t≠62):rv.ownBlock≠some b:=fun e=>by
 obtain⟨d,a⟩:=Xm h.recs e;exact(h.blk.ne a c) rfl
theorem ZhY.neP (h:ZhY t w b o cs rv pv g) (c:t≠108):pv.ownBlock≠some b:=fun e=>by
 obtain⟨d,a⟩:=Xm h.pcs e;exact(h.blk.ne a c) rfl
theorem ZhY.neRP (h:ZhY t w b o cs rv pv g):∀ k,rv.ownBlock=some k->pv.ownBlock≠some k:=fun k c a=>by
 obtain⟨i,d⟩:=Xm h.recs c;obtain⟨f,e⟩:=Xm h.pcs a;exact(d.ne e (by decide)) rfl
theorem ZhY.below (h:ZhY t w b o cs rv pv g) (a:Below w.heap.size w w'):ZhY t w' b o cs rv pv g:=
 ⟨h.blk.keep (a.block b h.blk.lt),h.c0,h.c1,h.c2,h.recs.below a zL,Qh h.pcs fun g d=>a.block g (by
  obtain⟨e,c⟩:=Xm h.pcs d
  exact c.lt)⟩
def ZeC (t:TypeId) (w:World) (b o:Nat) (cs:Array Value) (rv pv:Value) (g:Lgb) (w':World):Prop:=
 ∃ rv' pv',ZhY t w' b o (((cs.setIfInBounds o (.int .i64 g.first)).setIfInBounds (o+1) rv').setIfInBounds (o+2) pv') rv' pv' g∧Qj (Zjf b rv pv) w w'∧
  (∀ k,Zjf b rv' pv' k->Zjf b rv pv k∨w.heap.size<=k)
theorem ZeC.more {a d:World} (h:ZeC t w b o cs rv pv g a) (c:Below a.heap.size a d):ZeC t w b o cs rv pv g d:=by
 obtain⟨e,i,j,f,k⟩:=h;exact⟨e,i,j.below c,f.trans (G:=fun _=>False) (Qj.ofBelow c) (fun _ _ l=>l.elim),k⟩
theorem ZeD {x:Value} (h:cs[j]?=some x):cs.setIfInBounds j x=cs:=by
 apply Array.ext_getElem?;intro i;rw[Array.getElem?_setIfInBounds];by_cases e:j=i
 ·subst e
  have a:j<cs.size:=(Array.getElem?_eq_some_iff.1 h).1;rw[if_pos rfl,if_pos a,h]
 ·simp[e]
theorem ZjS (t:TypeId) (Z:t≠62) (P:t≠108) (b o:Nat) (cs:Array Value) (rv pv:Value) (g:Lgb) (name first:Int) (w:World) (h:ZhY t w b o cs rv pv g) (ag:g.pcs.length<=1000000):
 Calls prog 53 #[.pointer (some ⟨b,o,none⟩),.int .i64 name,.int .i64 first] w fun e w'=>e=.returned (.tuple #[])∧ZeC t w b o cs rv pv (g.start name first) w':=by
 obtain⟨E,D,C⟩:=Zg h.pcs
 -- the world ahead of the append
 obtain⟨a,p⟩:∃ a,a=if g.pcs.length=0 then w.setCell ⟨b,o,none⟩ (.int .i64 first) else w:=⟨_,rfl⟩
 obtain⟨m,q⟩:∃ m,m=if g.pcs.length=0 then cs.setIfInBounds o (.int .i64 first) else cs:=⟨_,rfl⟩
 have ac:a.heap.size=w.heap.size:=by
  rw[p];split
  ·simp
  ·rfl
 have L:∀ k,k≠b->a.heap[k]?=w.heap[k]?:=fun k hk=>by
  rw[p];split
  ·exact Below.heap_setCell _ _ _ _ hk
  ·rfl
 have Y:Qj (Zjf b rv pv) w a:=by
  rw[p];split
  ·exact(Qj.refl _ _).setCell o (fun _=>.inl rfl) _
  ·exact Qj.refl _ _
 have W:Bk t a b m:=by
  rw[p,q];split
  ·exact h.blk.set o _
  ·exact h.blk
 have U:g.start name first=⟨if g.pcs.length=0 then first else g.first,g.recs,g.pcs++[(⟨name,first,first⟩:Pce)]⟩:=rfl
 have c:ZhY t a b o m rv pv ⟨if g.pcs.length=0 then first else g.first,g.recs,g.pcs⟩:=by
  refine⟨W,?_,?_,?_,Qh h.recs fun k hk=>L k (fun e=>h.neR Z (by subst e;exact hk)),Qh h.pcs fun k hk=>L k (fun e=>h.neP P (by subst e;exact hk))⟩
  ·rw[q]
   have H:o<cs.size:=(Array.getElem?_eq_some_iff.1 h.c0).1;split
   ·simp[H]
   ·exact h.c0
  ·rw[q]
   split
   ·rw[Array.getElem?_setIfInBounds,if_neg (by omega)]
    exact h.c1
   ·exact h.c1
  ·rw[q]
   split
   ·rw[Array.getElem?_setIfInBounds,if_neg (by omega)]
    exact h.c2
   ·exact h.c2
 have Q:Hid (∀ f d,d.ownsRow 0 108 3 f (g.pcs++[(⟨name,first,first⟩:Pce)]).length (Qx (g.pcs++[(⟨name,first,first⟩:Pce)]))->(a.alloc (.cells (pcC ⟨name,first,first⟩) 108)).grownBy d pv.ownBlock->(f.ownBlock=pv.ownBlock∨f.ownBlock=some (a.heap.size+1))->
  ZeC t w b o cs rv pv (g.start name first) (d.setCell ⟨b,o+2,none⟩ f)∧d.cell? ⟨b,o+2,none⟩=some pv∧d.frozen? ⟨b,o+2,none⟩=false):=ZZ (fun f d i l hv=>by
  have T:∀ k,k<a.heap.size->pv.ownBlock≠some k->d.heap[k]?=a.heap[k]?:=fun k hk ab=>by
   rw[l.block k (by simp;omega) (fun e=>ab e.symm),Below.heap_alloc _ _ _ hk]
  have A:Bk t d b m:=c.blk.keep (T b c.blk.lt (c.neP P));have ai:a.heap.size+1<=d.heap.size:=by have:=l.size;simpa using this
  have ae:((cs.setIfInBounds o (.int .i64 (g.start name first).first)).setIfInBounds (o+1) rv).setIfInBounds (o+2) f=m.setIfInBounds (o+2) f:=by
   congr 1
   rw[U,q]
   dsimp only
   by_cases j:g.pcs.length=0
   ·rw[if_pos j,if_pos j]
    exact ZeD (by rw[Array.getElem?_setIfInBounds,if_neg (by omega)];exact h.c1)
   ·rw[if_neg j,if_neg j,ZeD h.c0,ZeD h.c1]
  have ad:f.ownBlock≠some b:=fun e=>by
   obtain⟨aa,M⟩:=Xm i e;exact(A.ne M P) rfl
  refine⟨⟨rv,f,?_,?_,?_⟩,(A.cell _ c.c2).1,(A.cell _ c.c2).2⟩
  ·rw[ae]
   have H:o+2<m.size:=(Array.getElem?_eq_some_iff.1 c.c2).1;refine⟨A.set _ _,?_,?_,by simp[H],Qh c.recs fun k hk=>?_,Qh i fun k hk=>Below.heap_setCell _ _ _ _ (fun e=>ad (by subst e;exact hk))⟩
   ·rw[Array.getElem?_setIfInBounds,if_neg (by omega)]
    exact c.c0
   ·rw[Array.getElem?_setIfInBounds,if_neg (by omega)]
    exact c.c1
   ·obtain⟨aa,M⟩:=Xm c.recs hk
    rw[Below.heap_setCell _ _ _ _ (fun e=>c.neR Z (by subst e;exact hk)),T k M.lt (c.neRP k hk)]
  ·refine(Y.trans (G:=Zjf b rv pv) ?_ (fun _ _ O=>O)).setCell _ (fun _=>.inl rfl) _
   exact((Qj.refl _ a).alloc _).trans (Qj.ofGrown (F:=Zjf b rv pv) l fun k e _=>.inr (.inr e)) (fun _ _ O=>O)
  ·intro k hk
   rcases hk with hk | hk | hk
   ·exact .inl (.inl hk)
   ·exact .inl (.inr (.inl hk))
   ·rcases hv with hv | hv
    ·exact .inl (.inr (.inr (by rw[<-hv];exact hk)))
    ·rw[hv] at hk
     have:=Option.some.inj hk
     exact .inr (by omega))
 have J:Hid (a.ownsRow 0 108 3 (.slice E g.pcs.length D) g.pcs.length (Qx g.pcs)):=ZZ (by rw[<-C];exact c.pcs)
 have V:Hid (g.pcs.length<=10000000):=ZZ (by omega)
 have n:=ZZ C;have R:=(h.blk.cell _ h.c2).1;have z:=(h.blk.cell _ h.c0);obtain⟨z,S⟩:=z;have N:=(c.blk.cell _ c.c2).1;rw[C] at R N;have X:=ZZ p;have aj:(g.pcs.length:Int)<=1000000:=by omega
 clear C c W L Y ac U q h p;by_cases j:g.pcs.length=0
 ·have af:((g.pcs.length:Int) == 0)=true:=by rw[beq_iff_eq];omega
  have B:Hid (a=w.setCell ⟨b,o,none⟩ (.int .i64 first)):=ZZ (by rw[X.o,if_pos j])
  clear j
  go_enter func53,ntmps53
  go_upto_region 2 with fail
  rw[<-B.o];clear B z S R
  go_wp2_with(at_builtin;refine(fun(h:True->_)=>h trivial) ?_)
  intro _;refine Zaa a rfl _ _ rfl (.slice E g.pcs.length D) g.pcs rfl J.o (⟨name,first,first⟩:Pce) rfl V.o ?_;intro f d i l hv;obtain⟨v,K,s2⟩:=Q.o f d i (by rw[n.o];exact l) (by rw[n.o];exact hv)
  rw[n.o] at K;have I:=ZZ v;obtain⟨a9,c9,x⟩:=Zg i;obtain⟨u,y⟩:∃ u,u=(g.pcs++[(⟨name,first,first⟩:Pce)]).length:=⟨_,rfl⟩;rw[<-y] at x;subst x;clear v i l hv y N;go_wp2;go_end0;exact⟨rfl,I.o⟩
 ·have af:((g.pcs.length:Int) == 0)=false:=beq_eq_false_iff_ne.2 (by omega)
  have B:Hid (a=w):=ZZ (by rw[X.o,if_neg j])
  clear j z S N;rw[B.o] at Q J
  go_enter func53,ntmps53
  go_wp2_with(at_builtin;refine(fun(h:True->_)=>h trivial) ?_)
  intro _;refine Zaa w rfl _ _ rfl (.slice E g.pcs.length D) g.pcs rfl J.o (⟨name,first,first⟩:Pce) rfl V.o ?_;intro f d i l hv;obtain⟨v,K,s2⟩:=Q.o f d i (by rw[n.o];exact l) (by rw[n.o];exact hv)
  rw[n.o] at K;have I:=ZZ v;obtain⟨a9,c9,x⟩:=Zg i;obtain⟨u,y⟩:∃ u,u=(g.pcs++[(⟨name,first,first⟩:Pce)]).length:=⟨_,rfl⟩;rw[<-y] at x;subst x;clear v i l hv y R;go_wp2;go_end0;exact⟨rfl,I.o⟩
theorem ZhZ:∀ (l:List Pce) (j:Nat) (p:Pce),j<l.length->Qx (l.set j p)=((((Qx l).set (j*3) (.int .i64 p.name)).set (j*3+1) (.int .i64 p.first)).set (j*3+2) (.int .i64 p.stop))
 | c::l,0,p,_=>by
  rw[List.set_cons_zero,Qx,Qx];rfl
 | c::l,j+1,p,hj=>by
  have a:=ZhZ l j p (by simpa using hj)
  rw[List.set_cons_succ,Qx,a,Qx];have e:(j+1)*3=(j*3)+1+1+1:=by omega
  rw[e];rfl
theorem ZmH {l:List Pce} (h:w.ownsRow 0 108 3 v l.length (Qx l)) (j:Nat) (f:j<l.length) (x:Int):
 ∃ g cap,v=.slice (some ⟨g,0,none⟩) l.length cap∧g<w.heap.size∧l.length<=cap∧w.cell? ⟨g,j*3+2,none⟩=some (.int .i64 (l.getD j Yv).stop)∧w.frozen? ⟨g,j*3+2,none⟩=false∧
  (w.setCell ⟨g,j*3+2,none⟩ (.int .i64 x)).ownsRow 0 108 3 v l.length (Qx (l.set j ⟨(l.getD j Yv).name,(l.getD j Yv).first,x⟩)):=by
 rcases h.2 with ⟨_,C⟩ | ⟨g,cap,cur,p,z,b,u,B,y,t⟩
 ·omega
 ·have c:∀ k,k<3->cur[j*3+k]?=(pcC (l.getD j Yv))[k]?:=fun k A=>by
   have a:=Zch l j k f A;rw[<-t,List.getElem?_take,if_pos (by omega),Array.getElem?_toList] at a
   exact a
  refine⟨g,cap,p,(Array.getElem?_eq_some_iff.1 b).1,u,?_,frozen_of_row w g _ _ _ b,?_,.inr ⟨g,cap,cur.setIfInBounds (j*3+2) (.int .i64 x),p,z,heap_setCell_same w g _ _ _ _ b,u,B,by simpa using y,?_⟩⟩
  ·rw[cell_of_row w g _ _ _ _ b]
   exact c 2 (by decide)
  ·rw[Zas,length_set]
  ·rw[ZhZ l j _ f]
   have q:=c 0 (by decide)
   have a:=c 1 (by decide)
   rw[<-t];apply List.ext_getElem?;intro i;rw[List.getElem?_take];by_cases d:i<l.length*3
   ·rw[if_pos d,Array.getElem?_toList,Array.getElem?_setIfInBounds]
    simp only [List.getElem?_set,length_set,length_take,Array.length_toList,List.getElem?_take,d,if_true,Array.getElem?_toList];have D:cur.size=cap*3:=y;by_cases e:j*3+2=i
    ·subst e
     rw[if_pos rfl,if_pos rfl,if_pos (by omega),if_pos (by omega)]
    ·rw[if_neg e,if_neg e]
     by_cases m:j*3+1=i
     ·subst m
      rw[if_pos rfl,if_pos (by omega),a]
      rfl
     ·rw[if_neg m]
      by_cases n:j*3=i
      ·subst n
       rw[if_pos rfl,if_pos (by omega)]
       rw[Nat.add_zero] at q;rw[q];rfl
      ·rw[if_neg n]
   ·rw[if_neg d,List.getElem?_eq_none (by simp;omega)]
theorem Zua (t:TypeId) (N:t≠62) (av:t≠108) (b o:Nat) (cs:Array Value) (rv pv:Value) (g:Lgb) (L:Value) (l:List Rec) (w:World) (h:ZhY t w b o cs rv pv g) (H:RdR w L l) (az:g.pcs.length≠0) (ar:g.pcs.length<=1000000) (Z:g.recs.length+l.length<=10000000)
 (R:∀ p ∈ g.pcs,0<=p.stop∧p.stop<=4611686018427387904):
 Calls prog 54 #[.pointer (some ⟨b,o,none⟩),L] w fun e w'=>e=.returned (.tuple #[])∧ZeC t w b o cs rv pv (g.add l) w':=by
 obtain⟨la,lc,rfl,-⟩:=id H;obtain⟨S,K,B⟩:=h.recs.shape;obtain⟨m,C⟩:∃ m,g.pcs.length=m+1:=⟨g.pcs.length-1,by omega⟩
 obtain⟨i,A⟩:∃ i,i=(g.pcs.getD m Yv).stop:=⟨_,rfl⟩
 have ax:0<=i∧i<=4611686018427387904:=by
  rw[A];refine R _ ?_;rw[show g.pcs.getD m Yv=g.pcs[m]'(by omega) by simp[List.getD,show m<g.pcs.length by omega]]
  exact getElem_mem _
 obtain⟨j,X,z,aa,ac,-,-,-⟩:=ZmH h.pcs m (by omega) 0
 -- behind the append,and the store of the records
 have aB:Hid (∀ d f,Q9 f 0 d (g.recs++l)->w.grownBy f rv.ownBlock->(d.ownBlock=rv.ownBlock∨d.ownBlock=some w.heap.size)->
  (f.cell? ⟨b,o+1,none⟩=some rv∧f.frozen? ⟨b,o+1,none⟩=false)∧
  ((f.setCell ⟨b,o+1,none⟩ d).cell? ⟨b,o+2,none⟩=some pv∧(f.setCell ⟨b,o+1,none⟩ d).cell? ⟨j,m*3+2,none⟩=some (.int .i64 i)∧(f.setCell ⟨b,o+1,none⟩ d).frozen? ⟨j,m*3+2,none⟩=false)∧
  ZeC t w b o cs rv pv (g.add l) (((f.setCell ⟨b,o+1,none⟩ d)).setCell ⟨j,m*3+2,none⟩ (.int .i64 (i+l.length)))):=ZZ (fun d f q x hv=>by
  have J:∀ k,k<w.heap.size->rv.ownBlock≠some k->f.heap[k]?=w.heap[k]?:=fun k hk ap=>x.block k hk (fun e=>ap e.symm)
  have v:Bk t f b cs:=h.blk.keep (J b h.blk.lt (h.neR N));have y:pv.ownBlock=some j:=by rw[z];rfl
  have D:j≠b:=fun e=>h.neP av (by rw[y,e])
  have au:rv.ownBlock≠some j:=fun e=>h.neRP j e y
  have V:(f.setCell ⟨b,o+1,none⟩ d).ownsRow 0 108 3 pv g.pcs.length (Qx g.pcs):=Qh h.pcs fun k hk=>by
   have e:k=j:=by rw[y] at hk;exact(Option.some.inj hk).symm
   subst e;rw[Below.heap_setCell _ _ _ _ D,J _ aa au]
  obtain⟨g',aH,P,-,-,U,aw,ae⟩:=ZmH V m (by omega) (i+l.length)
  have eg:g'=j:=by
   rw[z] at P
   injection P with u _ _
   injection u with u
   injection u with u
   exact u.symm
  subst eg;rw[<-A] at U
  have am:d.ownBlock≠some b:=fun e=>by
   obtain⟨ag,I⟩:=Xm q e;exact(v.ne I N) rfl
  have ai:d.ownBlock≠some g':=fun e=>by
   obtain⟨ag,I⟩:=Xm q e;obtain⟨aq,ay⟩:=Xm V y
   have ab:Bk 108 f g' aq:=by
    have:=ay;unfold Bk at this ⊢;rw[Below.heap_setCell _ _ _ _ D] at this;exact this
   exact(I.ne ab (by decide)) rfl
  refine⟨⟨(v.cell _ h.c1).1,(v.cell _ h.c1).2⟩,⟨?_,U,aw⟩,d,pv,?_,?_,?_⟩
  ·refine((v.set (o+1) d).cell _ ?_).1
   rw[Array.getElem?_setIfInBounds,if_neg (by omega)]
   exact h.c2
  ·have aA:((cs.setIfInBounds o (.int .i64 (g.add l).first)).setIfInBounds (o+1) d).setIfInBounds (o+2) pv=cs.setIfInBounds (o+1) d:=by
    have u:(g.add l).first=g.first:=rfl;rw[u,ZeD h.c0];exact ZeD (by rw[Array.getElem?_setIfInBounds,if_neg (by omega)];exact h.c2)
   rw[aA];have af:o+1<cs.size:=(Array.getElem?_eq_some_iff.1 h.c1).1;refine⟨(v.set _ _).other _ _ _ (fun e=>D e.symm),?_,by simp[af],?_,Qh q fun k hk=>?_,?_⟩
   ·rw[Array.getElem?_setIfInBounds,if_neg (by omega)]
    exact h.c0
   ·rw[Array.getElem?_setIfInBounds,if_neg (by omega)]
    exact h.c2
   ·rw[Below.heap_setCell _ _ _ _ (fun e=>ai (by subst e;exact hk)),Below.heap_setCell _ _ _ _ (fun e=>am (by subst e;exact hk))]
   ·have e3:(g.add l).pcs=g.pcs.set m ⟨(g.pcs.getD m Yv).name,(g.pcs.getD m Yv).first,i+l.length⟩:=by
     show Zq g.pcs l.length=_;unfold Zq;rw[C,Nat.add_sub_cancel,<-A]
    rw[e3,length_set];exact ae
  ·exact((Qj.ofGrown (F:=Zjf b rv pv) x fun k e _=>.inr (.inl e)).setCell _ (fun _=>.inl rfl) _).setCell _ (fun _=>.inr (.inr y)) _
  ·intro k hk
   rcases hk with hk | hk | hk
   ·exact .inl (.inl hk)
   ·rcases hv with hv | hv
    ·exact .inl (.inr (.inl (by rw[<-hv];exact hk)))
    ·rw[hv] at hk
     have:=Option.some.inj hk;exact .inr (by omega)
   ·exact .inl (.inr (.inr hk)))
 have an:Hid (Q9 w 0 (.slice S g.recs.length K) g.recs):=ZZ (by rw[<-B];exact h.recs)
 have aj:=ZZ H;have G:=ZZ B;have aG:=ZZ z;have ak:=ZZ Z;obtain⟨M,-⟩:=h.blk.cell _ h.c1;rw[B] at M;have hw:IntKind.i64.wrap (i+(l.length:Int))=i+l.length:=by rw[IntKind.wrap_i64];omega
 have aD:(m:Int)<=1000000:=by omega
 have ad:g.pcs.length=m+1:=C;have ao:Hid (pv=.slice (some ⟨j,0,none⟩) (m+1) X):=ZZ (by rw[z,C])
 have aF:(l.length:Int)<=10000000:=by omega
 obtain⟨aC,aI⟩:=ax;have aE:m+1<=X:=by omega
 clear B z h H R A az ar Z C ad ac aa
 go_enter func54,ntmps54
 go_wp2_with(at_builtin;refine(fun(h:True->_)=>h trivial) ?_)
 intro _;refine Zbs w rfl _ _ rfl (.slice S g.recs.length K) g.recs rfl an.o _ l rfl aj.o ak.o ?_;intro d f q x hv;obtain⟨⟨Y,s1⟩,⟨W,u3,u4⟩,O⟩:=aB.o d f q (by rw[G.o];exact x) (by rw[G.o];exact hv)
 rw[G.o] at Y;rw[ao.o] at W;have Q:=ZZ O
 obtain⟨a9,n9,c9,al⟩:∃ a n c,d=.slice a n c:=by
  obtain⟨a,c,hh⟩:=q.shape;exact⟨a,_,c,hh⟩
 subst al;obtain⟨T,E⟩:∃ T,T=f.setCell ⟨b,o+1,none⟩ (.slice a9 n9 c9):=⟨_,rfl⟩;rw[<-E] at W u3 u4 Q;clear O q x hv M
 go_upto_region 1 with fail
 rw[<-E];clear E Y s1
 go_region
 go_wp2;go_end0;exact⟨rfl,Q.o.more (Below.refl _ _).drew⟩
theorem Q9.empty (w:World) (B:Nat) (a:B<=w.heap.size):Q9 (w.alloc (.cells #[] 62)) B (.slice (some ⟨w.heap.size,0,none⟩) 0 0) []:=
 ⟨rfl,.inr ⟨w.heap.size,0,#[],rfl,a,heap_alloc_new w _,Nat.le_refl _,Nat.zero_le _,rfl,rfl⟩⟩
theorem ZjT (v:Value) (l:List Rec) (w:World) (g:RdR w v l) (t:l.length<=1000000):
 Calls prog 44 #[v] w fun e w'=>∃ v',e=.returned v'∧Q9 w' w.heap.size v' l∧Below w.heap.size w w':=by
 have i:=ZZ g;obtain⟨ao,cap,rfl,m,-,b,-⟩:=g
 cases ao with
 | none=>
  obtain rfl:cap=0:=b rfl;obtain rfl:l=[]:=List.eq_nil_of_length_eq_zero (by omega)
  clear b m;have k:∀ w,(binOp .eql 29 (.slice none 0 0) (.slice none 0 0)).run prog w=.ok (.bool true) w:=fun w=>run_eql_slice_nil w _ _ none 0 0 underlying29
  go_enter func44,ntmps44
  go_wp2;go_ret;exact⟨_,rfl,Q9.nil _ _,Below.refl _ _⟩
 | some a=>
  clear b;have k:∀ w,(binOp .eql 29 (.slice (some a) l.length cap) (.slice none 0 0)).run prog w=.ok (.bool false) w:=fun w=>run_eql_slice_nil w _ _ (some a) _ _ underlying29
  have c:Hid (∀ X,Below w.heap.size w (w.alloc X)):=fun X=>(Below.refl _ _).alloc zL X
  have p:Hid (Q9 (w.alloc (.cells #[] 62)) w.heap.size (.slice (some ⟨w.heap.size,0,none⟩) 0 0) []):=ZZ (Q9.empty w _ zL)
  go_enter func44,ntmps44
  go_wp2_with(at_builtin;refine ZeA _ rfl _ _ rfl w.heap.size _ [] rfl p.o _ l rfl (i.o.below (c.o _) zL) (by simp;omega) (by simp) ?_)
  intro q u d f;have n:=ZZ d;have j:=ZZ ((c.o _).trans f);clear d f;go_wp2;go_ret;exact⟨_,rfl,n.o,j.o⟩
theorem Zub (w:World) (ao:Option Addr) (l:List Rec) (cap:Nat) (b:RdR w (.slice ao l.length cap) l) (i:Nat) (g:i<=l.length):
 ∃ a' c',RdR w (.slice a' (l.drop i).length c') (l.drop i)∧∀ x:Int,x=(i:Int)->∀ W,(Instr.sliceAt 29 (.slice ao l.length cap) (some (.int .i64 x)) none none).run prog W=.ok (.slice a' (l.drop i).length c') W:=by
 have f:l.length<=cap:=by
  obtain⟨a,c,e,h,-⟩:=b;simp only [Value.slice.injEq] at e;omega
 have h:=b.mid i l.length cap g zL f zL;rw[List.take_of_length_le (by rw[length_drop];omega)] at h
 unfold sliced at h;refine⟨_,_,by rw[length_drop];exact h,fun x d W=>?_⟩
 subst d;rw[run_sliceAt_slice W 29 _ _ _ _ Zdd,run_slice_l W 29 ao l.length cap Zdd .i64 (i:Int) (by omega) (by omega),ZhH,Zqa,length_drop]
 rfl
theorem Zwg (w:World) (ao:Option Addr) (l:List Rec) (cap:Nat) (b:RdR w (.slice ao l.length cap) l) (i j:Nat) (k:i<=j) (d:j<=l.length):
 ∃ a' c',RdR w (.slice a' (j-i) c') ((l.drop i).take (j-i))∧∀ x y:Int,x=(i:Int)->y=(j:Int)->∀ W,(Instr.sliceAt 29 (.slice ao l.length cap) (some (.int .i64 x)) (some (.int .i64 y)) none).run prog W=.ok (.slice a' (j-i) c') W:=by
 have m:l.length<=cap:=by
  obtain⟨a,c,e,h,-⟩:=b;simp only [Value.slice.injEq] at e;omega
 have h:=b.mid i j cap k d (by omega) zL
 unfold sliced at h;refine⟨_,_,h,fun x y g f W=>?_⟩
 subst g f;rw[run_sliceAt_slice W 29 _ _ _ _ Zdd,run_slice_lh W 29 ao l.length cap Zdd .i64 .i64 (i:Int) (j:Int) (by omega) (by omega) (by omega),ZhH,Zqa]
 rfl
theorem Z0.toLog (h:Z0 M I w p pd L s):ZhY 76 w p 1 (stC pd L s) L.rv L.pv s.log:=
 ⟨h.head,rfl,rfl,rfl,h.recs,h.pcs⟩
theorem Z0.logF (h:Z0 M I w p pd L s):∀ k,Zjf p L.rv L.pv k->M k:=fun k hk=>by
 rcases hk with rfl | hk | hk
 ·exact h.mh
 ·exact h.mr k hk
 ·exact h.mp k hk
theorem Z0.ofLog (h:Z0 M I w p pd L s) (z:ZeC 76 w p 1 (stC pd L s) L.rv L.pv g w'):
 ∃ M' L',Z0 M' I w' p pd L' { s with log:=g }∧L'.nl=L.nl∧L'.nt=L.nt∧Qj M w w'∧∀ k,M' k->M k∨w.heap.size<=k:=by
 obtain⟨c,d,b,q,n⟩:=z;have e:Qj M w w':=q.mono h.logF;have l:∀ k,I k->w'.heap[k]?=w.heap[k]?:=fun k hk=>e.block k (h.ltI k hk) fun b=>h.dis k b hk
 have v:((((stC pd L s).setIfInBounds 1 (.int .i64 g.first)).setIfInBounds (1+1) c).setIfInBounds (1+2) d)=stC pd { L with rv:=c,pv:=d } { s with log:=g }:=rfl
 rw[v] at b
 have y:∀ k,Zjf p c d k->k<w'.heap.size:=fun k hk=>by
  rcases hk with rfl | hk | hk
  ·exact b.blk.lt
  ·obtain⟨f,a⟩:=Xm b.recs hk
   exact a.lt
  ·obtain⟨f,a⟩:=Xm b.pcs hk
   exact a.lt
 have u:∀ k,L.bv.ownBlock=some k->¬ Zjf p L.rv L.pv k:=fun k hk hl=>by
  obtain⟨f,a⟩:=Xm h.bases hk;rcases hl with rfl | hl | hl
  ·exact(a.ne h.head (by decide)) rfl
  ·obtain⟨t,i⟩:=Xm h.recs hl
   exact(a.ne i (by decide)) rfl
  ·obtain⟨t,i⟩:=Xm h.pcs hl
   exact(a.ne i (by decide)) rfl
 refine⟨fun k=>M k∨Zjf p c d k,{ L with rv:=c,pv:=d },⟨b.blk,b.recs,b.pcs,Qh h.bases fun k hk=>?_,h.bsEq,h.now.keep h.inow l,fun x m=>(h.base x m).keep (h.ibase x m) l,.inr (.inl rfl),fun k hk=>.inr (.inr (.inl hk)),fun k hk=>.inr (.inr (.inr hk)),fun k hk=>.inl (h.mb k hk),h.inow,h.ibase,fun k hk=>?_,fun k hk=>Nat.lt_of_lt_of_le (h.ltI k hk) e.size,fun k hk j=>?_⟩,rfl,rfl,e,fun k hk=>?_⟩
 ·obtain⟨f,a⟩:=Xm h.bases hk
  exact q.block k a.lt (u k hk)
 ·rcases hk with hk | hk
  ·exact Nat.lt_of_lt_of_le (h.ltM k hk) e.size
  ·exact y k hk
 ·rcases hk with hk | hk
  ·exact h.dis k hk j
  ·rcases n k hk with h1 | h1
   ·exact h.dis k (h.logF k h1) j
   ·have:=h.ltI k j
    omega
 ·rcases hk with hk | hk
  ·exact .inl hk
  ·rcases n k hk with h1 | h1
   ·exact .inl (h.logF k h1)
   ·exact .inr h1
theorem ZrE {l:List Pce} (h:w.ownsRow 0 108 3 v l.length (Qx l)) (d:0<l.length):
 ∃ g cap,v=.slice (some ⟨g,0,none⟩) l.length cap∧w.cell? ⟨g,1,none⟩=some (.int .i64 (l.getD 0 Yv).first):=by
 rcases h.2 with ⟨_,k⟩ | ⟨g,cap,cur,c,j,e,i,m,f,b⟩
 ·omega
 ·refine⟨g,cap,c,?_⟩
  have a:=Zch l 0 1 d (by decide)
  rw[<-b,List.getElem?_take,if_pos (by omega),Array.getElem?_toList] at a
  rw[cell_of_row w g _ _ _ _ e];exact a
theorem Q9.own0 {l:List Rec} (h:Q9 w B v l):Q9 w 0 v l:=h.mono (Nat.zero_le _)
theorem Q9.freshR {l:List Rec} (h:Q9 w B v l):∀ b,v.ownBlock=some b->B<=b∧b<w.heap.size:=fun b a=>World.ownsRow.lt h b a
theorem Zuc (t:TypeId) (ai:t≠108) (b o:Nat) (cs:Array Value) (rv pv:Value) (g:Lgb) (l:Value) (left:List Pce) (base:Int) (w:World) (h:ZhY t w b o cs rv pv g) (E:w.ownsRow 0 108 3 l left.length (Qx left))
 (aq:left.length<=1000000) (au:g.recs.length<=1000000) (ab:∀ r ∈ g.recs,ZcK r) (ad:g.first<=Yt left base) (ag:Yt left base<=g.first+g.recs.length) (ar:0<=g.first) (ap:g.first+g.recs.length<=4611686018427387904):
 Calls prog 70 #[.pointer (some ⟨b,o,none⟩),l,.int .i64 base] w fun e w'=>e=.returned (.tuple #[])∧
  ∃ u,ZhY t w' b o (((cs.setIfInBounds o (.int .i64 (g.letGo left base).first)).setIfInBounds (o+1) u).setIfInBounds (o+2) l) u l (g.letGo left base)∧Qj (fun k=>k=b) w w'∧∀ k,u.ownBlock=some k->w.heap.size<=k:=by
 obtain⟨f,x⟩:∃ f,f=Yt left base:=⟨_,rfl⟩;rw[<-x] at ad ag;obtain⟨ra,rc,I⟩:=h.recs.shape;obtain⟨la,lc,Y⟩:=Zg E;have M:=h.recs.rd ab;rw[I] at M;obtain⟨a',c',R,hcut⟩:=Zub w ra g.recs rc M (f-g.first).toNat (by omega)
 have av:=hcut (f-g.first) (by omega)
 obtain⟨d0,f0⟩:=h.blk.cell _ h.c0;obtain⟨P,f1⟩:=h.blk.cell _ h.c1;obtain⟨d2,f2⟩:=h.blk.cell _ h.c2;rw[I] at P;have aE:=ZZ R
 have G:Hid (∀ W,Below w.heap.size w W->(W.cell? ⟨b,o,none⟩=some (.int .i64 g.first)∧W.cell? ⟨b,o+1,none⟩=some (.slice ra g.recs.length rc))∧(W.frozen? ⟨b,o,none⟩=false∧W.frozen? ⟨b,o+1,none⟩=false∧W.frozen? ⟨b,o+2,none⟩=false)∧W.cell? ⟨b,o+2,none⟩=some pv):=ZZ (fun W q=>by
  have j:=h.blk.keep (q.block b h.blk.lt)
  exact⟨⟨(j.cell _ h.c0).1,by rw[<-I];exact(j.cell _ h.c1).1⟩,⟨(j.cell _ h.c0).2,(j.cell _ h.c1).2,(j.cell _ h.c2).2⟩,(j.cell _ h.c2).1⟩)
 have aj:Hid (Below w.heap.size w w.drew):=ZZ ((Below.refl _ _).drew)
 have N:Hid (∀ W,Below w.heap.size w W->Calls prog 44 #[.slice a' (g.recs.drop (f-g.first).toNat).length c'] W fun e w'=>∃ v',e=.returned v'∧Q9 w' w.heap.size v' (g.recs.drop (f-g.first).toNat)∧Below w.heap.size w w'):=ZZ (fun W H=>(ZjT _ _ W (R.below H zL) (by rw[length_drop];omega)).mono (by
  rintro e w' ⟨v',rfl,A,q⟩
  exact⟨v',rfl,A.mono H.size,H.trans (q.mono H.size)⟩))
 have Z:Hid (∀ i d,Q9 d w.heap.size i (g.recs.drop (f-g.first).toNat)->Below w.heap.size w d->
  ∃ u,ZhY t (((d.setCell ⟨b,o+1,none⟩ i).setCell ⟨b,o,none⟩ (.int .i64 f)).setCell ⟨b,o+2,none⟩ l) b o (((cs.setIfInBounds o (.int .i64 (g.letGo left base).first)).setIfInBounds (o+1) u).setIfInBounds (o+2) l) u l (g.letGo left base)∧Qj (fun k=>k=b) w (((d.setCell ⟨b,o+1,none⟩ i).setCell ⟨b,o,none⟩ (.int .i64 f)).setCell ⟨b,o+2,none⟩ l)∧∀ k,u.ownBlock=some k->w.heap.size<=k):=ZZ (fun i d A q=>by
  have j:=h.blk.keep (q.block b h.blk.lt);have J:(g.letGo left base).first=f:=x.symm;have aw:o<cs.size:=(Array.getElem?_eq_some_iff.1 h.c0).1;have ao:o+1<cs.size:=(Array.getElem?_eq_some_iff.1 h.c1).1;have ax:o+2<cs.size:=(Array.getElem?_eq_some_iff.1 h.c2).1
  have ay:(((cs.setIfInBounds (o+1) i).setIfInBounds o (.int .i64 f)).setIfInBounds (o+2) l)=(((cs.setIfInBounds o (.int .i64 f)).setIfInBounds (o+1) i).setIfInBounds (o+2) l):=by
   congr 1
   exact Array.setIfInBounds_comm _ _ (by omega)
  have ae:∀ k,k≠b->(((d.setCell ⟨b,o+1,none⟩ i).setCell ⟨b,o,none⟩ (.int .i64 f)).setCell ⟨b,o+2,none⟩ l).heap[k]?=d.heap[k]?:=fun k p=>by
   rw[Below.heap_setCell _ _ _ _ p,Below.heap_setCell _ _ _ _ p,Below.heap_setCell _ _ _ _ p]
  refine⟨i,?_,?_,fun k p=>(A.freshR k p).1⟩
  ·rw[J,<-ay]
   refine⟨((j.set _ _).set _ _).set _ _,?_,?_,?_,Qh (show d.ownsRow 0 62 7 i (g.letGo left base).recs.length (Qq (g.letGo left base).recs) from by show Q9 d 0 i (g.recs.drop (Yt left base-g.first).toNat);rw[<-x];exact A.own0) fun k p=>ae k (fun e=>?_),Qh E fun k p=>?_⟩
   ·rw[Array.getElem?_setIfInBounds,if_neg (by omega),Array.getElem?_setIfInBounds,if_pos rfl,if_pos (by simpa using aw),J]
   ·rw[Array.getElem?_setIfInBounds,if_neg (by omega),Array.getElem?_setIfInBounds,if_neg (by omega),Array.getElem?_setIfInBounds,if_pos rfl,if_pos ao]
   ·rw[Array.getElem?_setIfInBounds,if_pos rfl,if_pos (by simpa using ax)]
   ·subst e
    have:=(A.freshR _ p).1;have:=h.blk.lt;omega
   ·obtain⟨aA,ak⟩:=Xm E p
    rw[ae k (ak.ne h.blk (fun e=>ai e.symm)),q.block k ak.lt]
  ·exact(((Qj.ofBelow (F:=fun k=>k=b) q).setCell (b:=b) _ (fun _=>rfl) _).setCell (b:=b) _ (fun _=>rfl) _).setCell (b:=b) _ (fun _=>rfl) _)
 have hw:IntKind.i64.wrap (f-g.first)=f-g.first:=by rw[IntKind.wrap_i64];omega
 obtain⟨n1,af⟩:∃ n1,n1=(g.recs.drop (f-g.first).toNat).length:=⟨_,rfl⟩;rw[<-af] at av N
 obtain⟨pa,pn,pc,al⟩:∃ a n c,pv=.slice a n c:=by
  obtain⟨a,c,z⟩:=Zg h.pcs;exact⟨a,_,c,z⟩
 rw[al] at G d2;have an:-9223372036854775808<=f-g.first∧f-g.first<=9223372036854775807:=by omega
 have L:Hid (left.length≠0->∃ y ac,l=.slice (some ⟨y,0,none⟩) left.length ac∧w.cell? ⟨y,1,none⟩=some (.int .i64 f)):=ZZ (fun m=>by
  obtain⟨y,cap,J,e2⟩:=ZrE E (by omega)
  have e3:f=(left.getD 0 Yv).first:=by rw[x];unfold Yt;rw[if_neg m]
  exact⟨y,cap,J,by rw[e3];exact e2⟩)
 have aa:Hid (left.length=0->base=f):=ZZ (fun m=>by rw[x];unfold Yt;rw[if_pos m])
 obtain⟨aF,az⟩:=an;clear I R hcut h E x ab M af ad ag ar ap au al d2 f2 ai;by_cases m:left.length=0
 ·have am:decide ((left.length:Int)>0)=false:=decide_eq_false (by omega)
  obtain rfl:=aa.o m;rw[m] at Y am;subst Y;clear m L aa aq
  go_enter func70,ntmps70
  go_upto_region 3 with fail
  go_cut[] (fun wc=>Hid (∃ i d,wc=d.setCell ⟨b,o+1,none⟩ i∧Q9 d w.heap.size i (g.recs.drop (base-g.first).toNat)∧Below w.heap.size w d))
  case first=>
   go_region_with
    (first | (go_at_call 44;refine(N.o _ (by first | exact aj.o | exact Below.refl _ _)).mono ?_;rintro e W1 ⟨v1,rfl,v,C⟩;have S:=ZZ v;have B:=ZZ C;obtain⟨z1,z2,z3,Q⟩:∃ a n c,v1=Value.slice a n c:=(by obtain⟨a,c,z⟩:=v.shape;exact⟨a,_,c,z⟩);subst Q;obtain⟨⟨V,T⟩,⟨r0,r1,U⟩,-⟩:=G.o W1 B.o;clear v C))
   all_goals
    go_wp2_with fail
    go_meet
    exact ZZ ⟨_,_,rfl,S.o,B.o⟩
  case rest=>
   obtain⟨i,d,K,D,j⟩:=hcut.out;subst K;have X:=ZZ (Z.o i d D j);obtain⟨⟨V,T⟩,⟨r0,r1,U⟩,q2⟩:=G.o d j;clear hcut D j d0 P f0 f1;go_wp2;go_end0;exact⟨rfl,X.o⟩
 ·have am:decide ((left.length:Int)>0)=true:=decide_eq_true (by omega)
  have aD:(0:Int)<(left.length:Int):=by omega
  obtain⟨y,ac,O,aC⟩:=L.o m;rw[O] at Z;rw[O];clear m L aa Y O;have aB:(left.length:Int)<=1000000:=by omega
  generalize left.length=ln at *
  go_enter func70,ntmps70
  go_upto_region 3 with fail
  go_cut[] (fun wc=>Hid (∃ i d,wc=d.setCell ⟨b,o+1,none⟩ i∧Q9 d w.heap.size i (g.recs.drop (f-g.first).toNat)∧Below w.heap.size w d))
  case first=>
   go_region_with
    (first | (go_at_call 44;refine(N.o _ (by first | exact aj.o | exact Below.refl _ _)).mono ?_;rintro e W1 ⟨v1,rfl,v,C⟩;have S:=ZZ v;have B:=ZZ C;obtain⟨z1,z2,z3,Q⟩:∃ a n c,v1=Value.slice a n c:=(by obtain⟨a,c,z⟩:=v.shape;exact⟨a,_,c,z⟩);subst Q;obtain⟨⟨V,T⟩,⟨r0,r1,U⟩,-⟩:=G.o W1 B.o;clear v C))
   all_goals
    go_wp2_with fail
    go_meet
    exact ZZ ⟨_,_,rfl,S.o,B.o⟩
  case rest=>
   obtain⟨i,d,K,D,j⟩:=hcut.out;subst K;have X:=ZZ (Z.o i d D j);obtain⟨⟨V,T⟩,⟨r0,r1,U⟩,q2⟩:=G.o d j;clear hcut D j d0 P f0 f1;go_wp2;go_end0;exact⟨rfl,X.o⟩
theorem ZmI (a b:Int) (w:World) (h:Z0 M I w p pd L s) (t:ZoJ s) (E:∀ r ∈ s.log.recs,ZcK r) (af:s.log.recs.length<=1000000):
 Calls prog 17 #[ptr p,.int .i64 a,.int .i64 b] w fun e w'=>∃ v,e=.returned (.tuple #[v,.int .i64 (ZgA s a b).2])∧Q9 w' w.heap.size v (ZgA s a b).1∧Below w.heap.size w w':=by
 have x:=ZZ (fun W (i:Below w.heap.size w W)=>ZhU W (h.below i) t)
 have B:=ZZ (fun W (i:Below w.heap.size w W)=>ZjQ W (h.below i))
 unfold ZgA;obtain⟨nx,g⟩:∃ nx,nx=s.next:=⟨_,rfl⟩;obtain⟨f,c⟩:∃ f,f=s.log.first:=⟨_,rfl⟩;have n:nx=f+s.log.recs.length:=by rw[g,c];rfl
 rw[<-g] at x ⊢;rw[<-c] at B ⊢;have m:=t.f0;have k:=t.f1;rw[<-c] at m;rw[<-g] at k;by_cases U:a<0
 ·rw[if_pos (.inl U)]
  clear g c n m k h
  go_enter func17,ntmps17
  go_wp2;go_ret2;exact⟨_,rfl,Q9.nil _ _,Below.refl _ _⟩
 by_cases g2:b<a
 ·rw[if_pos (.inr (.inl g2))]
  clear g c n m k h
  go_enter func17,ntmps17
  go_wp2;go_ret2;exact⟨_,rfl,Q9.nil _ _,Below.refl _ _⟩
 by_cases V:nx<b
 ·rw[if_pos (.inr (.inr V))]
  clear g c n m k h
  go_enter func17,ntmps17
  go_wp2_with fail
  refine(x.o _ (Below.refl _ _)).mono ?_;rintro e y ⟨rfl,d⟩;have j:=ZZ d;clear d;go_wp2;go_ret2;exact⟨_,rfl,Q9.nil _ _,j.o⟩
 rw[if_neg (by omega)]
 by_cases S:a<f
 ·rw[if_pos S]
  clear g c n m k h
  go_enter func17,ntmps17
  go_wp2_with fail
  refine(x.o _ (Below.refl _ _)).mono ?_;rintro e y ⟨rfl,d⟩;have j:=ZZ d;clear d
  go_wp2_with fail
  refine(B.o _ j.o).mono ?_;rintro e W2 ⟨rfl,rfl⟩;go_wp2;go_ret2;exact⟨_,rfl,Q9.nil _ _,j.o⟩
 rw[if_neg S];obtain⟨z,C,D⟩:=h.recs.shape;have A:=h.recs.rd E;rw[D] at A;obtain⟨a',c',u,hcut⟩:=Zwg w z s.log.recs C A (a-f).toNat (b-f).toNat (by omega) (by omega)
 have T:=hcut (a-f) (b-f) (by omega) (by omega)
 have P:Hid ((s.log.recs.drop (a-f).toNat).take ((b-f).toNat-(a-f).toNat)=(s.log.recs.take (b-f).toNat).drop (a-f).toNat):=ZZ (by rw[List.drop_take])
 rw[P.o] at u;generalize (s.log.recs.take (b-f).toNat).drop (a-f).toNat=l at *
 have K:Hid (∀ W,Below w.heap.size w W->Calls prog 44 #[.slice a' ((b-f).toNat-(a-f).toNat) c'] W fun e w'=>∃ v',e=.returned v'∧Q9 w' w.heap.size v' l∧Below w.heap.size w w'):=ZZ (fun W q=>(ZjT _ _ W (u.below q zL) (by
  obtain⟨_,_,e,-⟩:=u
  injection e with _ e _
  omega)).mono (by
  rintro e w' ⟨v',rfl,ho,i⟩
  exact⟨v',rfl,ho.mono q.size,q.trans (i.mono q.size)⟩))
 have R:Hid (∀ W,Below w.heap.size w W->W.cell? ⟨p,1,none⟩=some (.int .i64 f)∧W.cell? ⟨p,2,none⟩=some (.slice z s.log.recs.length C)):=ZZ (fun W i=>by
  obtain⟨-,X,O,-⟩:=(h.below i).cs;rw[D] at O;rw[c]
  exact⟨X,O⟩)
 have ae:IntKind.i64.wrap (a-f)=a-f:=by rw[IntKind.wrap_i64];omega
 have ag:IntKind.i64.wrap (b-f)=b-f:=by rw[IntKind.wrap_i64];omega
 have Z:-9223372036854775808<=a-f∧a-f<=9223372036854775807:=by omega
 have aa:-9223372036854775808<=b-f∧b-f<=9223372036854775807:=by omega
 obtain⟨ad,ac⟩:=Z;obtain⟨ab,ai⟩:=aa;obtain⟨F,N⟩:∃ F,F=(b-f).toNat-(a-f).toNat:=⟨_,rfl⟩;rw[<-N] at T K;clear g c n m k h u hcut A D N P E t
 go_enter func17,ntmps17
 go_wp2_with fail
 refine(x.o _ (Below.refl _ _)).mono ?_;rintro e y ⟨rfl,d⟩;have j:=ZZ d;clear d
 go_wp2_with fail
 refine(B.o _ j.o).mono ?_;rintro e y ⟨rfl,rfl⟩;have J:Hid (Below w.heap.size w y.drew):=ZZ (j.o.drew)
 go_upto_region 5 with fail
 go_region_held(fun W=>W.cell? ⟨p,1,none⟩=some (.int .i64 f)∧W.cell? ⟨p,2,none⟩=some (.slice z s.log.recs.length C))
  (first | (with_reducible exact R.o _ J.o) | (with_reducible exact R.o _ Q.o))
  (first | (go_at_call 44;refine(K.o _ J.o).mono ?_;rintro e W2 ⟨v2,rfl,G,H⟩;have Y:=ZZ G;have Q:=ZZ H;clear G H))
 all_goals
  go_wp2;go_ret2;exact⟨_,rfl,Y.o,Q.o⟩
theorem ZxB (w:World) (h:Z0 M I w p pd L s) (ad:s.now.st.L.length<=1000000) (ac:s.now.tab.length<=1000000):
 Calls prog 21 #[ptr p] w fun e w'=>Zxz w s.now e w':=by
 obtain⟨c,f⟩:∃ c,c=w.alloc (.cells #[.int .i64 0,.int .i64 0,.slice none 0 0,.bool false,.int .i64 0,.slice none 0 0] 41):=⟨_,rfl⟩;have j:Hid (Below w.heap.size w c):=ZZ (by rw[f];exact Jc _ _)
 have Q:Hid (Bn c w.heap.size #[.int .i64 0,.int .i64 0,.slice none 0 0,.bool false,.int .i64 0,.slice none 0 0]):=ZZ (by rw[f];exact heap_alloc_new w _)
 have n:=ZZ (h.below j.o);obtain⟨-,-,-,-,-,⟨c5,c6,E,c8,c9,N⟩,-⟩:=n.o.cs;have g:=ZZ (ZrD (L.nx s) c n.o.now ad ac);obtain⟨T,B,lc,H,tn,J,F,V⟩:=n.o.now.shape;have q:L.nl=.slice T B lc:=F;have y:L.nt=.slice H tn J:=V;rw[q] at E;rw[y] at N
 have U:Hid (snV (L.nx s)=.agg #[.int .i64 s.now.idx,.int .i64 s.now.st.kind,.slice T B lc,.bool s.now.st.shut,.int .i64 s.now.st.eng,.slice H tn J]):=ZZ (by
  unfold snV snC ZdP.nx
  dsimp only
  rw[q,y])
 rw[U.o] at g;have X:(L.nx s).1=s.now:=rfl;rw[X] at g;clear h F V q y U n X
 go_enter func21,ntmps21
 go_upto_region 1 with fail
 rw[<-f];clear f
 go_wp2_with fail
 refine g.o.mono ?_;rintro e W1 ⟨vl,vt,rfl,x,R,S,u⟩;have ab:=ZZ (j.o.trans (u.mono j.o.size));have d:=ZZ x;have m:=ZZ (And.intro R S);have a:=Q.o.below u zL;have K:=ZZ j.o.size;obtain⟨z0,y0⟩:=a.cell 0;obtain⟨z1,y1⟩:=a.cell 1;obtain⟨z2,y2⟩:=a.cell 2;obtain⟨z3,y3⟩:=a.cell 3;obtain⟨z4,y4⟩:=a.cell 4;obtain⟨z5,y5⟩:=a.cell 5;obtain⟨G,C,Y,Z,W,D,A,P⟩:=x.shape
 dsimp only at A P
 subst A P;have z:w.heap.size<c.heap.size:=Q.o.lt;have O:=ZZ z;unfold snV snC
 dsimp only
 clear u a c5 c6 E c8 c9 N x R S g z;go_wp2;refine bodyPost_ret (v:=.agg #[.int .i64 s.now.idx,.int .i64 s.now.st.kind,.slice G C Y,.bool s.now.st.shut,.int .i64 s.now.st.eng,.slice Z W D]) (by simp[results,Tryz.results21,go_sem,z0,z1,z2,z3,z4,z5]) rfl ?_
 have aa:=ZpZ W1 w.heap.size (.int .i64 s.now.idx) (.int .i64 s.now.st.kind) (.slice G C Y) (.bool s.now.st.shut) (.int .i64 s.now.st.eng) (.slice Z W D);refine⟨_,_,rfl,⟨d.o.l.but aa (.inr fun b h=>?_),d.o.t.but aa (.inr fun b h=>?_),d.o.k,d.o.e,d.o.i⟩,fun b h=>?_,fun b h=>?_,Zew ab.o _ (by omega) _ _ _ _ _ _⟩
 ·have:=m.o.1 b h
  have:=O.o;omega
 ·have:=m.o.2 b h
  have:=O.o;omega
 ·exact Nat.le_trans K.o (m.o.1 b h)
 ·exact Nat.le_trans K.o (m.o.2 b h)
structure Stp where
 g:Nat
 bd:Array Value
 cp:Array Value
def Stp.val (s:Stp):Value:=.func (.func s.g) s.bd s.cp
theorem ZmJ (b D cap:Nat) (n:Nat) (fs:Nat->Stp) (w:World) (P:Nat->World->Prop) (Q:Int->World->Prop) (N:n<=1000000)
 (C:∀ i W,i<n->P i W->W.cell? ⟨b,D+i,none⟩=some (fs i).val)
 (z:∀ i W,i<n->P i W->Calls prog (fs i).g ((fs i).bd++(fs i).cp) W fun e w'=>∃ c:Int,e=.returned (.int .i64 c)∧(c=0->P (i+1) w')∧(c≠0->Q c w'))
 (E:∀ i,i<n->∀ args W,(callFunc (fs i).g args).run prog W=.ok (.enter (fs i).g args) W) (A:P 0 w):
 Calls prog 62 #[.slice (some ⟨b,D,none⟩) n cap] w fun e w'=>∃ c:Int,e=.returned (.int .i64 c)∧(c=0->P n w')∧(c≠0->Q c w'):=by
 have y:=ZZ C;have v:=ZZ z;have B:=ZZ E;have L:(n:Int)<=1000000:=by omega
 clear C z E;have x:=ZZ A;clear A
 go_enter func62,ntmps62
 go_wp2
 go_loopw[8] (fun l wr=>∃ i:Nat,l=.int .i64 (i:Int)∧i<=n∧Hid (P i wr)) (fun l _=>n-(intOf l).toNat)
 case atStart=>exact⟨0,rfl,Nat.zero_le _,x⟩
 case round=>
  clear x;obtain⟨i,rfl,R,d⟩:=hrel;by_cases k:i<n
  case neg=>
   obtain rfl:i=n:=by omega
   go_wp2;go_ret;exact⟨0,rfl,fun _=>d.o,fun h=>absurd rfl h⟩
  have f:=y.o i wr k d.o;have j:=ZZ (v.o i wr k d.o);have q:=B.o i k;unfold Stp.val at f;obtain⟨g,t⟩:∃ g,g=(fs i).g:=⟨_,rfl⟩;obtain⟨H,G⟩:∃ H,H=(fs i).bd:=⟨_,rfl⟩;obtain⟨u,F⟩:∃ u,u=(fs i).cp:=⟨_,rfl⟩;rw[<-t,<-G,<-F] at f j;rw[<-t] at q;have O:(i:Int)<(n:Int):=by omega
  clear d t G F y v B
  go_wp2_with fail
  refine j.o.mono ?_;rintro e S ⟨c,rfl,p,m⟩;by_cases a:c=0
  ·subst a
   have J:=ZZ (p rfl);clear p m f q j;go_wp2;go_roundw
   case rel=>exact⟨i+1,by go_num,by omega,J⟩
   case measure=>simp[intOf];omega
  ·have K:=ZZ (m a)
   have M:(c != 0)=true:=by rw[bne_iff_ne];exact a
   have I:=ZZ a;clear p m f q j a;go_wp2;go_ret;exact⟨c,rfl,fun h=>absurd h I.o,fun _=>K.o⟩
theorem Z0.setHead (h:Z0 M I w p pd L s) (j:Nat) (x:Value) (l:s'.log=s.log) (z:s'.bases=s.bases) (D:s'.now=s.now) (u:(stC pd L s).setIfInBounds j x=stC pd L s'):
 Z0 M I (w.setCell ⟨p,j,none⟩ x) p pd L s':=by
 have b:∀ k,k≠p->(w.setCell ⟨p,j,none⟩ x).heap[k]?=w.heap[k]?:=fun k b=>Below.heap_setCell _ _ _ _ b
 have d:∀ {t:TypeId} {n sz g:Nat} {v:Value} {xs:List Value},w.ownsRow 0 t sz v n xs->v.ownBlock=some g->t≠76->g≠p:=fun A a C=>by
  obtain⟨E,q⟩:=Xm A a;exact q.ne h.head C
 have i:∀ k,I k->(w.setCell ⟨p,j,none⟩ x).heap[k]?=w.heap[k]?:=fun k B=>b k fun e=>h.dis p h.mh (by rw[<-e];exact B)
 have m:L.nx s'=L.nx s:=by unfold ZdP.nx;rw[D]
 refine⟨by rw[<-u];exact h.head.set j x,?_,?_,Qh h.bases fun g a=>b g (d h.bases a (by decide)),by rw[z];exact h.bsEq,by rw[m];exact h.now.keep h.inow i,fun y f=>(h.base y f).keep (h.ibase y f) i,h.mh,h.mr,h.mp,h.mb,by rw[m];exact h.inow,h.ibase,fun k c=>by simpa using h.ltM k c,fun k c=>by simpa using h.ltI k c,h.dis⟩
 ·rw[l]
  exact Qh h.recs fun g a=>b g (d h.recs a (by decide))
 ·rw[l]
  exact Qh h.pcs fun g a=>b g (d h.pcs a (by decide))
theorem SD.setHead (h:SD K w pd p s d N T) (c:∀ k,K k->k<w.heap.size) (j:Nat) (x:Value) (n:s'.log=s.log) (g:s'.bases=s.bases) (t:s'.now=s.now) (f:∀ L,(stC pd L s).setIfInBounds j x=stC pd L s'):
 SD K (w.setCell ⟨p,j,none⟩ x) pd p s' d N T∧Qj (fun k=>¬ K k) w (w.setCell ⟨p,j,none⟩ x):=by
 obtain⟨F,M,I,L,i,b,l,q,e,u,m⟩:=h;exact SD.own c i l q e u m ((Qj.refl M w).setCell j (fun _=>b.mh) x) (b.setHead j x n g t (f L)) (fun _ a=>.inl a) (fun _ a=>.inl a)
theorem SD.cells (h:SD K w pd p s d N T):
 (w.cell? ⟨p,0,none⟩=some (ptr pd)∧w.cell? ⟨p,11,none⟩=some (.int .i64 s.synced)∧w.cell? ⟨p,12,none⟩=some (.int .i64 s.cur)∧w.cell? ⟨p,13,none⟩=some (.bool s.nw))∧∀ j,w.frozen? ⟨p,j,none⟩=false:=by
 obtain⟨F,M,I,L,g,a,-⟩:=h;obtain⟨e,-,-,-,-,-,b,f,c⟩:=a.cs;exact⟨⟨e,b,f,c⟩,a.fz⟩
theorem ZcM (w:World) (h:SD K w pd p s d N T) (f:∀ k,K k->k<w.heap.size):
 Calls prog 64 #[ptr p] w fun e w'=>Z6 K w pd p (Qt (s,d)) (N+2) T e w':=by
 unfold Qt;obtain⟨⟨d',c⟩,i⟩:∃ r,r=Xs d:=⟨_,rfl⟩
 have m:=ZZ (h.disk (d':=d') (c:=c) (N':=N+2) (T':=T) f (fun F x _=>by
  have:=Zof w x;rw[<-i] at this
  exact this))
 obtain⟨⟨y,-⟩,-⟩:=h.cells
 dsimp only
 rw[<-i]
 dsimp only
 have z:=ZZ f;obtain⟨R,l⟩:∃ R:SDk × Int,R=((if c=0 then { s with nw:=false } else s,d'),c):=⟨_,rfl⟩
 rw[<-l];have a:=ZZ l;clear h i f l
 go_enter func64,ntmps64
 go_wp2_with fail
 refine m.o.mono ?_;rintro e A ⟨rfl,j,g⟩;have t:=ZZ j;have q:=ZZ g;have v:Hid (∀ k,K k->k<A.heap.size):=ZZ (fun k u=>Nat.lt_of_lt_of_le (z.o k u) g.size)
 obtain⟨⟨-,-,-,C⟩,fz⟩:=j.cells;have D:=fz 13;clear j g m y fz;by_cases b:c=0
 ·subst b
  rw[if_pos rfl] at a;have n:=ZZ (t.o.setHead (s':={ s with nw:=false }) v.o 13 (.bool false) rfl rfl rfl (fun _=>rfl))
  go_wp2;go_ret;rw[a.o];exact⟨rfl,n.o.1,q.o.trans n.o.2 (fun _ _ h=>h)⟩
 ·rw[if_neg b] at a
  have B:(c == 0)=false:=beq_eq_false_iff_ne.2 b;clear b;go_wp2;go_ret;rw[a.o];exact⟨rfl,t.o,q.o⟩
theorem Zla (w:World) (h:SD K w pd p s d N T) (j:∀ k,K k->k<w.heap.size):
 Calls prog 66 #[ptr p] w fun e w'=>Z6 K w pd p (Xj (s,d)) (N+2) T e w':=by
 unfold Xj;have a:=ZZ (ZcM w h j);obtain⟨⟨-,-,-,g⟩,-⟩:=h.cells;have b:=ZZ h
 dsimp only
 cases hb:s.nw with
 | false=>
  rw[hb] at g;rw[if_neg (by simp)]
  clear h hb a
  go_enter func66,ntmps66
  go_wp2;go_ret;exact⟨rfl,b.o.mono (by omega) zL,Qj.refl _ _⟩
 | true=>
  rw[hb] at g;rw[if_pos rfl];obtain⟨r,f⟩:∃ r,r=Qt (s,d):=⟨_,rfl⟩;rw[<-f] at a ⊢;clear h hb b f
  go_enter func66,ntmps66
  go_wp2_with fail
  refine a.o.mono ?_;rintro e m ⟨rfl,i,c⟩;have l:=ZZ (And.intro i c);clear i c a;go_wp2;go_ret;exact⟨rfl,l.o⟩
theorem Z6.from {K2:Nat->Prop} {W:World} {r:SDk × Int} {e:Ending} (h:Z6 K2 W pd p r N T e w') (a:∀ k,K k->K2 k) (f:Qj (fun k=>¬ K k) w W) (d:N<=N') (g:T<=T'):Z6 K w pd p r N' T' e w':=
 ⟨h.1,(h.2.1.less a).mono d g,f.trans (h.2.2.mono (fun k b c=>b (a k c))) (fun _ _ h=>h)⟩
theorem SD.step {f:Nat} {args:Array Value} (g:Dk->Dk × Int) (h:SD K w pd p s d N T) (a:∀ k,K k->k<w.heap.size)
 (b:∀ F,Dsk F w pd d N T->(∀ k,F k->¬ K k)->Calls prog f args w fun e w'=>ZfU F w pd (g d).1 (g d).2 N' T' e w'):Calls prog f args w fun e w'=>Z6 K w pd p (X0 g (s,d)) N' T' e w':=
 h.disk a b
theorem ZmK {R:Nat} (w:World) (h:SD K w pd p s d N T) (c:∀ k,K k->k<w.heap.size) (u:w.cell? ⟨R,0,none⟩=some (ptr p)) (b:I64 s.cur):
 Calls prog 65 #[.pointer (some ⟨R,0,none⟩)] w fun e w'=>Z6 K w pd p (Xb (s,d)) (N+2) T e w':=by
 have f:=ZZ ((h.below (Below.refl _ _).drew).step (fun d=>Jf d s.cur) c (fun F m _=>ZpV s.cur b _ m))
 obtain⟨⟨v,-,t,-⟩,-⟩:=h.cells;have n:Hid (Qj (fun k=>¬ K k) w w.drew):=ZZ (Qj.ofBelow (Below.refl _ _).drew)
 obtain⟨r,a⟩:∃ r,r=Xb (s,d):=⟨_,rfl⟩;have g:X0 (fun d=>Jf d s.cur) (s,d)=r:=a.symm
 rw[g] at f;rw[<-a];generalize s.cur=q at *;clear h c b g a
 go_enter func65,ntmps65
 go_upto_region 1 with fail
 go_region_with(first | (go_at_call 59;refine f.o.mono ?_;rintro e x ⟨rfl,j,i⟩;have l:=ZZ (And.intro j i);clear j i))
 all_goals
  go_wp2;go_ret;exact⟨rfl,l.o.1,n.o.trans l.o.2 (fun _ _ h=>h)⟩
theorem Zlb (x:SDk):(Q3 [Xb,Xj] x).1.1=x.1∨(Q3 [Xb,Xj] x).1.1={ x.1 with nw:=false }:=by
 unfold Q3 Q3;split
 ·split
  ·unfold Q3 Xj Qt
   split
   ·dsimp only
    split
    ·exact .inr rfl
    ·exact .inl rfl
   ·exact .inl rfl
  ·unfold Xj Qt
   split
   ·dsimp only
    split
    ·exact .inr rfl
    ·exact .inl rfl
   ·exact .inl rfl
 ·exact .inl rfl
theorem ZoJ.nw (h:ZoJ s) (b:Bool):ZoJ { s with nw:=b }:=⟨h.f0,h.f1,h.sy,h.cu⟩
theorem SD.synced (h:SD K w pd p s d N T) (a:∀ k,K k->k<w.heap.size):
 SD K (w.setCell ⟨p,11,none⟩ (.int .i64 s.next)) pd p (Zbw s) d N T∧Qj (fun k=>¬ K k) w (w.setCell ⟨p,11,none⟩ (.int .i64 s.next)):=
 h.setHead a 11 _ rfl rfl rfl (fun _=>rfl)
theorem SD.next (h:SD K w pd p s d N T) (a:ZoJ s):
 Calls prog 14 #[ptr p] w fun e w'=>e=.returned (.int .i64 s.next)∧Below w.heap.size w w':=by
 obtain⟨F,M,I,L,c,b,-⟩:=h;exact ZhU w b a
theorem ZeE (w:World) (h:SD K w pd p s d N T) (hK:∀ k,K k->k<w.heap.size) (n:ZoJ s):
 Calls prog 27 #[ptr p] w fun e w'=>Z6 K w pd p (Zf (s,d)) (N+4) T e w':=by
 obtain⟨a,C⟩:∃ a,a=w.alloc (.cells #[ptr p] 28):=⟨_,rfl⟩;have ae:Hid (Below w.heap.size w a):=ZZ (by rw[C];exact Jc _ _)
 have V:Hid (Bk 28 a w.heap.size #[ptr p]):=ZZ (by rw[C];exact heap_alloc_new w _)
 obtain⟨u,G⟩:∃ u:Nat->Prop,u=fun k=>K k∨(w.heap.size<=k∧k<a.heap.size):=⟨_,rfl⟩
 have z:Hid (SD u a pd p s d N T):=ZZ (by rw[G];exact h.fresh ae.o)
 have ak:Hid (∀ k,u k->k<a.heap.size):=ZZ (by
  rw[G];intro k hk;rcases hk with hk | hk
  ·exact Nat.lt_of_lt_of_le (hK k hk) ae.o.size
  ·exact hk.2)
 have an:Hid (∀ k,K k->u k):=ZZ (by rw[G];exact fun k hk=>.inl hk)
 have aA:Hid (u w.heap.size):=ZZ (by rw[G];exact .inr ⟨Nat.le_refl _,V.o.lt⟩)
 have am:Hid (Qj (fun k=>¬ K k) w a):=ZZ (Qj.ofBelow ae.o)
 have Q:Hid (∀ W,Qj (fun k=>¬ u k) a W->W.cell? ⟨w.heap.size,0,none⟩=some (ptr p)):=ZZ (fun W ho=>((V.o.keep (ho.block _ V.o.lt (fun n=>n aA.o))).cell 0 rfl).1)
 have P:=ZZ n;have r0:=Q.o a (Qj.refl _ _);obtain⟨⟨-,-,ax,-⟩,-⟩:=z.o.cells;obtain⟨v,Y⟩:∃ v,v=Zf (s,d):=⟨_,rfl⟩;have E:=ZZ Y;rw[<-Y];clear h hK G Y;by_cases q:s.cur=0
 ·have av:(s.cur != 0)=false:=by rw[q];rfl
  have x:Hid (v=((Zbw s,d),0)):=ZZ (by rw[E.o];unfold Zf;rw[if_pos q])
  have aa:Hid (∀ W,Below a.heap.size a W->Calls prog 14 #[ptr p] W fun e w'=>e=.returned (.int .i64 s.next)∧Below a.heap.size a w'):=ZZ (fun W f=>((z.o.below f).next P.o).mono (by
   rintro e w' ⟨rfl,B⟩
   exact⟨rfl,f.trans (B.mono f.size)⟩))
  have U:Hid (∀ W,Below a.heap.size a W->W.cell? ⟨w.heap.size,0,none⟩=some (ptr p)∧W.cell? ⟨p,11,none⟩=some (.int .i64 s.synced)∧W.frozen? ⟨p,11,none⟩=false):=ZZ (fun W f=>by
   obtain⟨⟨-,af,-⟩,fz⟩:=(z.o.below f).cells
   exact⟨Q.o W (Qj.ofBelow f),af,fz 11⟩)
  have aj:Hid (Below a.heap.size a a.drew):=ZZ (Below.refl _ _).drew
  have M:Hid (∀ W,Below a.heap.size a W->Z6 K w pd p v (N+4) T (.returned (.int .i64 0)) (W.setCell ⟨p,11,none⟩ (.int .i64 s.next))):=ZZ (fun W f=>by
   rw[x.o];have m:=(z.o.below f).synced (fun k hk=>Nat.lt_of_lt_of_le (ak.o k hk) f.size)
   exact Z6.from (K2:=u) (W:=W) ⟨rfl,m.1,m.2⟩ an.o (am.o.trans (Qj.ofBelow (F:=fun _=>False) f) (fun _ _ h=>h.elim)) (by omega) zL)
  generalize s.next=nx at *;generalize s.cur=cu at *;clear q x E n
  go_enter func27,ntmps27
  go_upto_region 1 with fail
  rw[<-C];clear C
  go_upto_region 6 with fail
  go_region_with(first | (go_at_call 14;refine(aa.o _ (by first | exact aj.o | exact Below.refl _ _)).mono ?_;rintro e g ⟨rfl,ag⟩;have y:=ZZ ag;obtain⟨q0,aC,qf⟩:=U.o g ag;clear ag))
  all_goals
   go_wp2;go_ret;exact M.o _ y.o
 ·have av:(s.cur != 0)=true:=by rw[bne_iff_ne];exact q
  obtain⟨b,A⟩:∃ b,b=Q3 [Xb,Xj] (s,d):=⟨_,rfl⟩;have x:Hid (v=if b.2=0 then((Zbw b.1.1,b.1.2),0) else b):=ZZ (by rw[E.o,A];unfold Zf;rw[if_neg q])
  have aD:Hid (ZoJ b.1.1):=ZZ (by
   rcases Zlb (s,d) with hh | hh
   ·rw[A,hh];exact P.o
   ·rw[A,hh];exact P.o.nw false)
  obtain⟨g,S⟩:∃ g,g=a.alloc (.cells #[.func (.func 65) #[] #[.pointer (some ⟨w.heap.size,0,none⟩)],.func (.func 66) #[ptr p] #[]] 153):=⟨_,rfl⟩;have y:Hid (Below a.heap.size a g):=ZZ (by rw[S];exact Jc _ _)
  have HY:Hid (Bk 153 g a.heap.size #[.func (.func 65) #[] #[.pointer (some ⟨w.heap.size,0,none⟩)],.func (.func 66) #[ptr p] #[]]):=ZZ (by rw[S];exact heap_alloc_new a _)
  obtain⟨K2,H⟩:∃ K2:Nat->Prop,K2=fun k=>u k∨(a.heap.size<=k∧k<g.heap.size):=⟨_,rfl⟩
  have aG:Hid (SD K2 g pd p s d N T):=ZZ (by rw[H];exact z.o.fresh y.o)
  have aq:Hid (∀ k,K2 k->k<g.heap.size):=ZZ (by
   rw[H];intro k hk;rcases hk with hk | hk
   ·exact Nat.lt_of_lt_of_le (ak.o k hk) y.o.size
   ·exact hk.2)
  have X:Hid (∀ k,u k->K2 k):=ZZ (by rw[H];exact fun k hk=>.inl hk)
  have au:Hid (K2 a.heap.size):=ZZ (by rw[H];exact .inr ⟨Nat.le_refl _,HY.o.lt⟩)
  have aF:Hid (Calls prog 62 #[.slice (some ⟨a.heap.size,0,none⟩) 2 2] g fun e w'=>∃ c:Int,e=.returned (.int .i64 c)∧(c=0->SD K2 w' pd p b.1.1 b.1.2 (N+4) T∧b.2=0∧Qj (fun k=>¬ K2 k) g w')∧(c≠0->SD K2 w' pd p b.1.1 b.1.2 (N+4) T∧b.2=c∧Qj (fun k=>¬ K2 k) g w')):=ZZ (by
   have hs:=ZmJ a.heap.size 0 2 2 (fun i=>if i=0 then⟨65,#[],#[.pointer (some ⟨w.heap.size,0,none⟩)]⟩ else⟨66,#[ptr p],#[]⟩) g
    (fun i W=>Qj (fun k=>¬ K2 k) g W∧(i=0->SD K2 W pd p s d N T)∧(i=1->(Xb (s,d)).2=0∧SD K2 W pd p (Xb (s,d)).1.1 (Xb (s,d)).1.2 (N+2) T)∧(i=2->b.2=0∧SD K2 W pd p b.1.1 b.1.2 (N+4) T))
    (fun c W=>SD K2 W pd p b.1.1 b.1.2 (N+4) T∧b.2=c∧Qj (fun k=>¬ K2 k) g W) (by decide)
    (fun i W I t=>by
     have B:=HY.o.keep (t.1.block _ HY.o.lt (fun n=>n au.o))
     match i,I with
     | 0,_=>exact(B.cell 0 rfl).1
     | 1,_=>exact(B.cell 1 rfl).1)
    (fun i W I t=>by
     have ar:∀ k,K2 k->k<W.heap.size:=fun k hk=>Nat.lt_of_lt_of_le (aq.o k hk) t.1.size
     match i,I with
     | 0,_=>
      refine(ZmK (R:=w.heap.size) W (t.2.1 rfl) ar (Q.o W ((Qj.ofBelow y.o).trans (t.1.mono (fun k hk n=>hk (X.o k n))) (fun _ _ h=>h))) P.o.cu).mono ?_
      rintro e w' ⟨rfl,m,O⟩;refine⟨_,rfl,fun j=>⟨t.1.trans O (fun _ _ h=>h),fun h=>absurd h (by decide),fun _=>⟨j,m⟩,fun h=>absurd h (by decide)⟩,fun j=>?_⟩
      have L:b=Xb (s,d):=by rw[A];unfold Q3;rw[if_neg j]
      rw[L];exact⟨m.mono (by omega) zL,rfl,t.1.trans O (fun _ _ h=>h)⟩
     | 1,_=>
      obtain⟨aE,aH⟩:=t.2.2.1 rfl;refine(Zla W aH ar).mono ?_;rintro e w' ⟨rfl,m,O⟩;have e2:Xj ((Xb (s,d)).1.1,(Xb (s,d)).1.2)=Xj (Xb (s,d)).1:=rfl;rw[e2] at m ⊢
      have L:(Xj (Xb (s,d)).1).1=b.1∧(Xj (Xb (s,d)).1).2=b.2:=by
       rw[A];unfold Q3;rw[if_pos aE];unfold Q3;split
       ·rename_i j
        exact⟨rfl,j⟩
       ·exact⟨rfl,rfl⟩
      rw[L.1] at m
      exact⟨_,rfl,fun j=>⟨t.1.trans O (fun _ _ h=>h),fun h=>absurd h (by decide),fun h=>absurd h (by decide),fun _=>⟨by rw[<-L.2];exact j,m⟩⟩,fun j=>⟨m,L.2.symm,t.1.trans O (fun _ _ h=>h)⟩⟩)
    (fun i I=>by
     match i,I with
     | 0,_=>exact enters_of func65 (by kernel_rfl) rfl
     | 1,_=>exact enters_of func66 (by kernel_rfl) rfl)
    ⟨Qj.refl _ _,fun _=>aG.o,fun h=>absurd h (by decide),fun h=>absurd h (by decide)⟩
   refine hs.mono ?_;rintro e w' ⟨c,rfl,g1,g2⟩;refine⟨c,rfl,fun j=>?_,g2⟩
   obtain⟨h1,-,-,h4⟩:=g1 j
   exact⟨(h4 rfl).2,(h4 rfl).1,h1⟩)
  have al:Hid (Qj (fun k=>¬ K k) w g):=ZZ (am.o.trans (Qj.ofBelow (F:=fun _=>False) y.o) (fun _ _ h=>h.elim))
  have ai:Hid (∀ k,K k->K2 k):=ZZ (fun k hk=>X.o k (an.o k hk))
  have aw:Hid (∀ W,Qj (fun k=>¬ K2 k) g W->W.cell? ⟨w.heap.size,0,none⟩=some (ptr p)):=ZZ (fun W ho=>Q.o W ((Qj.ofBelow y.o).trans (ho.mono (fun k hk n=>hk (X.o k n))) (fun _ _ h=>h)))
  have ap:=ZZ S;have aK:=z;generalize s.cur=cu at *;clear q A H n S
  go_enter func27,ntmps27
  go_upto_region 1 with fail
  rw[<-C];clear C
  go_wp2_with(go_at_call 62;rw[<-ap.o];refine aF.o.mono ?_)
  rintro e l ⟨c,rfl,ab,ac⟩;clear ap r0 ax;by_cases q:c=0
  ·subst q
   obtain⟨J,j,D⟩:=ab rfl;have ay:Hid (v=((Zbw b.1.1,b.1.2),0)):=ZZ (by rw[x.o,if_pos j])
   have aB:Hid (∀ k,K2 k->k<l.heap.size):=ZZ (fun k hk=>Nat.lt_of_lt_of_le (aq.o k hk) D.size)
   have ad:=ZZ J;have ao:=ZZ D
   have aa:Hid (∀ W,Below l.heap.size l W->Calls prog 14 #[ptr p] W fun e w'=>e=.returned (.int .i64 b.1.1.next)∧Below l.heap.size l w'):=ZZ (fun W f=>((ad.o.below f).next aD.o).mono (by
    rintro e w' ⟨rfl,B⟩
    exact⟨rfl,f.trans (B.mono f.size)⟩))
   have U:Hid (∀ W,Below l.heap.size l W->W.cell? ⟨w.heap.size,0,none⟩=some (ptr p)∧W.cell? ⟨p,11,none⟩=some (.int .i64 b.1.1.synced)∧W.frozen? ⟨p,11,none⟩=false):=ZZ (fun W f=>by
    obtain⟨⟨-,af,-⟩,fz⟩:=(ad.o.below f).cells
    exact⟨aw.o W (ao.o.trans (Qj.ofBelow (F:=fun _=>False) f) (fun _ _ h=>h.elim)),af,fz 11⟩)
   have aj:Hid (Below l.heap.size l l.drew):=ZZ (Below.refl _ _).drew
   have M:Hid (∀ W,Below l.heap.size l W->Z6 K w pd p v (N+4) T (.returned (.int .i64 0)) (W.setCell ⟨p,11,none⟩ (.int .i64 b.1.1.next))):=ZZ (fun W f=>by
    rw[ay.o];have m:=(ad.o.below f).synced (fun k hk=>Nat.lt_of_lt_of_le (aB.o k hk) f.size)
    exact Z6.from (K2:=K2) (W:=W) ⟨rfl,m.1,m.2⟩ ai.o ((al.o.trans (ao.o.mono (fun k hk n=>hk (ai.o k n))) (fun _ _ h=>h)).trans (Qj.ofBelow (F:=fun _=>False) f) (fun _ _ h=>h.elim)) (by omega) zL)
   obtain⟨q0,aC,qf⟩:=U.o l (Below.refl _ _);generalize b.1.1.next=nx at *;generalize b.1.1.synced=sy at *;clear ab ac J j D x E
   go_upto_region 6 with fail
   go_region_with(first | (go_at_call 14;refine(aa.o _ (by first | exact aj.o | exact Below.refl _ _)).mono ?_;rintro e W3 ⟨rfl,Z⟩;have az:=ZZ Z;obtain⟨x0,aI,xf⟩:=U.o W3 Z;clear Z))
   all_goals
    go_wp2;go_ret;exact M.o _ az.o
  ·obtain⟨J,j,D⟩:=ac q
   have M:Hid (Z6 K w pd p v (N+4) T (.returned (.int .i64 c)) l):=ZZ (by
    rw[x.o,if_neg (by rw[j];exact q)]
    exact Z6.from (K2:=K2) (W:=g) ⟨by rw[j],J,D⟩ ai.o al.o zL zL)
   have aJ:(c != 0)=true:=by rw[bne_iff_ne];exact q
   clear ab ac J j D x E q;go_wp2;go_ret;exact M.o
end Go.Proofs.YtnahjngbneicaaaGreatDoor
