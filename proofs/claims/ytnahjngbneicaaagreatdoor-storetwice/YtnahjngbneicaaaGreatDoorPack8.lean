import Derived.Test.YtnahjngbneicaaaGreatDoorPack7
import Derived.Deep.RegionHeld2
namespace Go.Proofs.YtnahjngbneicaaaGreatDoor
open _root_.Go.Proofs.Tryz
open List (append_nil getElem_mem length_drop length_map length_set length_take map_cons map_nil)
set_option maxHeartbeats 4000000
set_option maxRecDepth 100000
open Go.RowKit
variable {l:List Int} {B N N' T T' b base i j n o p pd:Nat} {L:Zhf} {w w':World} {g:Lgb} {F I K M:Nat->Prop} {s s':Sto} {d:Dk} {pv rv v:Value} {t:TypeId} {xs:List Value} {cs:Array Value}
theorem Zli (h:j<l.length):l.getD j 0 ∈ l:=by
 rw[show l.getD j 0=l[j] by simp[List.getD,h]]
 exact getElem_mem h
def ZBO (p:Int->Bool) (l:List Int) (k:Int):Prop:=(k=-1∧∀ j,j<l.length->p (l.getD j 0)=false)∨∃ i:Nat,k=(i:Int)∧i<l.length∧(∀ j,j<i->p (l.getD j 0)=false)∧p (l.getD i 0)=true
theorem Zmu (g R:Nat) (p:Int->Bool) (v:Value) (l:List Int) (w:World) (H:RdI w v l)
 (T:∀ args W,(callFunc g args).run prog W=.ok (.enter g args) W)
 (I:∀ W e,e ∈ l->Below w.heap.size w W->Calls prog g #[.int .i64 e,.pointer (some ⟨R,0,none⟩)] W fun x w'=>x=.returned (.bool (p e))∧Below W.heap.size W w'):
 Calls prog 158 #[v,.func (.func g) #[] #[.pointer (some ⟨R,0,none⟩)]] w fun x w'=>∃ k:Int,x=.returned (.int .i64 k)∧ZBO p l k∧Below w.heap.size w w':=by
 have L:=ZZ H;have C:=ZZ I;obtain⟨V,X,rfl,P,J,-,-,D⟩:=H;have G:=ZZ D;have U:(l.length:Int)<=9223372036854775807:=by unfold maxLen at J;omega
 clear I P J D
 go_enter func158,ntmps158
 go_wp2
 go_loopw[8] (fun m wr=>∃ q:Nat,m=.int .i64 (q:Int)∧q<=l.length∧Hid (∀ j,j<q->p (l.getD j 0)=false)∧Hid (Below w.heap.size w wr)) (fun m _=>l.length-(intOf m).toNat)
 case atStart=>exact⟨0,rfl,Nat.zero_le _,ZZ (fun j f=>absurd f (Nat.not_lt_zero _)),Below.refl _ _⟩
 case round=>
  obtain⟨q,rfl,Y,y,d⟩:=hrel;by_cases c:q<l.length
  case neg=>
   obtain rfl:q=l.length:=by omega
   go_wp2;go_ret;exact⟨-1,rfl,.inl ⟨rfl,y.out⟩,d.out⟩
  have S:(q:Int)<(l.length:Int):=by omega
  rcases G.o with N | ⟨b,t,rfl,z⟩
  ·rw[N] at c;simp at c
  have O:wr.cell? ⟨b,t+q,none⟩=some (.int .i64 (l.getD q 0)):=(World.cell?_of_block (a:=⟨b,t+q,none⟩) (d.out.block b (World.block_lt_of_cell? w ⟨b,t+q,none⟩ (z q c)))).trans (z q c);have i:=ZZ (C.o wr (l.getD q 0) (Zli c) d.out);have M:Hid (∀ j,j<q+1->j=q∨j<q):=ZZ (fun j f=>by omega)
  obtain⟨e,n⟩:∃ e,e=l.getD q 0:=⟨_,rfl⟩;rw[<-n] at i O;have F:=ZZ n;obtain⟨A,u⟩:∃ A,A=p e:=⟨_,rfl⟩;rw[<-u] at i;have E:=ZZ u;clear n z C G L u
  go_wp2_with fail
  refine i.o.mono ?_;rintro x Q ⟨rfl,K⟩;have B:=ZZ (d.out.trans (K.mono d.out.size));clear K i
  cases A with
  | true=>
   go_wp2;go_ret;exact⟨(q:Int),rfl,.inr ⟨q,rfl,c,y.out,by rw[<-F.o];exact E.o.symm⟩,B.o⟩
  | false=>
   go_wp2;go_roundw
   case rel=>exact⟨q+1,by go_num,by omega,ZZ (fun j f=>by
    rcases M.o j f with h | h
    ·rw[h,<-F.o];exact E.o.symm
    ·exact y.out j h),B⟩
   case measure=>simp[intOf];omega
theorem Zgb (p:Int->Bool) (l:List Int) (j:Nat) (a:j<l.length):(l.take (j+1)).filter (fun e=>!p e)=(l.take j).filter (fun e=>!p e)++if p (l.getD j 0)=true then[] else[l.getD j 0]:=by
 have b:l.take (j+1)=l.take j++[l.getD j 0]:=by
  rw[List.take_add_one,List.getElem?_eq_getElem a];simp[List.getD,a]
 rw[b,List.filter_append]
 congr 1
 generalize l.getD j 0=x
 cases h:p x <;> simp[h]
theorem Zjm (p:Int->Bool) (l:List Int) (i:Nat) (c:i<=l.length) (h:∀ j,j<i->p (l.getD j 0)=false):(l.take i).filter (fun e=>!p e)=l.take i:=by
 rw[List.filter_eq_self];intro e b;obtain⟨j,a,rfl⟩:=List.getElem_of_mem b;rw[length_take] at a;have:=h j (by omega)
 rw[List.getElem_take];simp only [List.getD,List.getElem?_eq_getElem (show j<l.length by omega),Option.getD_some] at this
 simp[this]
def Zwa (p:Int->Bool) (l L:List Int) (i j:Nat):Prop:=L.length=l.length∧L.take i=(l.take j).filter (fun e=>!p e)∧L.drop j=l.drop j∧i<j
theorem Zwa.start {p:Int->Bool} (b:i<l.length) (h:∀ j,j<i->p (l.getD j 0)=false) (a:p (l.getD i 0)=true):Zwa p l l i (i+1):=by
 refine⟨rfl,?_,rfl,Nat.lt_succ_self _⟩;rw[Zgb p l i b,if_pos a,append_nil,Zjm p l i (by omega) h]
theorem Zwa.at {p:Int->Bool} {L:List Int} (h:Zwa p l L i j):L.getD j 0=l.getD j 0:=by
 obtain⟨f,d,a,e⟩:=h;have c:(L.drop j).getD 0 0=L.getD j 0:=by simp[List.getD]
 have b:(l.drop j).getD 0 0=l.getD j 0:=by simp[List.getD]
 rw[<-c,<-b,a]
theorem Znf {L:List Int} (h:L.drop j=l.drop j):L.drop (j+1)=l.drop (j+1):=by
 rw[<-List.drop_drop,<-List.drop_drop,h]
theorem Zwa.skip {p:Int->Bool} {L:List Int} (h:Zwa p l L i j) (b:j<l.length) (d:p (l.getD j 0)=true):Zwa p l L i (j+1):=by
 obtain⟨e,c,a,f⟩:=h;refine⟨e,?_,Znf a,by omega⟩
 rw[Zgb p l j b,if_pos d,append_nil,c]
theorem Zwa.keep {p:Int->Bool} {L:List Int} (h:Zwa p l L i j) (b:j<l.length) (d:p (l.getD j 0)=false):Zwa p l (L.set i (l.getD j 0)) (i+1) (j+1):=by
 obtain⟨e,c,a,f⟩:=h;refine⟨by rw[length_set,e],?_,?_,by omega⟩
 ·rw[Zgb p l j b,if_neg (by rw[d];simp),<-c,List.take_add_one,List.take_set_of_le zL]
  congr 1
  rw[List.getElem?_set_self (by omega)]
  rfl
 ·rw[List.drop_set_of_lt (by omega)]
  exact Znf a
theorem ZaB.cutClear {g cap:Nat} (h:ZaB w B (.slice (some ⟨g,0,none⟩) n cap) l) (i:Nat) (t:i<=l.length) (vs:List Value):ZaB (w.setCells g i vs) B (.slice (some ⟨g,0,none⟩) i cap) (l.take i):=by
 rcases h.row with ⟨a,-⟩ | ⟨g',q,cur,a,c,p,d,u,f,e,m⟩
 ·cases a
 ·injection a with a _ h3
  injection a with a
  injection a with a
  subst a h3;have k:=ZaH g _ vs i w cur d;refine ZaB.ofRowN (by rw[length_take];omega) c k (by rw[length_take];omega) f (by rw[ZaG];exact e) fun j b=>?_
  rw[length_take] at b;rw[Zbg _ _ _ _ (by omega),if_neg (by omega),m j (by omega)]
  simp[List.getD,show j<i by omega]
theorem Zlj (g R:Nat) (p:Int->Bool) (v:Value) (l:List Int) (B:Nat) (w:World) (q:ZaB w B v l) (hI:∀ e ∈ l,I64 e) (z:B<=w.heap.size) (aq:l.length<=1000000)
 (eg:∀ args W,(callFunc g args).run prog W=.ok (.enter g args) W)
 (E:∀ W e,e ∈ l->Below B w W->Calls prog g #[.int .i64 e,.pointer (some ⟨R,0,none⟩)] W fun x w'=>x=.returned (.bool (p e))∧Below W.heap.size W w'):
 Calls prog 112 #[v,.func (.func g) #[] #[.pointer (some ⟨R,0,none⟩)]] w fun x w'=>∃ v',x=.returned v'∧ZaB w' B v' (l.filter (fun e=>!p e))∧Below B w w':=by
 have HO:=ZZ q;have HP:=ZZ E;have Q:=ZZ (Zmu g R p v l w (q.rd hI) eg (fun W e m h=>E W e m (h.mono z)))
 obtain⟨va,f,hv⟩:=q.shape;subst hv;clear q E
 go_enter func112,ntmps112
 go_wp2_with fail
 refine Q.o.mono ?_;rintro x W0 ⟨k,rfl,a,J⟩;have D:=ZZ (J.mono z);have u:=ZZ (HO.o.below J zL);clear Q J HO;rcases a with ⟨rfl,a⟩ | ⟨P,rfl,y,a,aa⟩
 ·have HE:Hid (l.filter (fun e=>!p e)=l):=ZZ (by
   have:=Zjm p l l.length zL a
   rwa [List.take_length] at this)
  clear a;go_wp2;go_ret;exact⟨_,rfl,by rw[HE.o];exact u.o,D.o⟩
 have T:=ZZ (Zwa.start y a aa);clear a aa;rcases u.o.row with ⟨-,h2⟩ | ⟨c,cap,cur,A,S,-,-,ao,ag,-,-⟩
 ·rw[h2] at y;simp at y
 injection A with A _ h3
 subst A h3;have au:(l.length:Int)<=1000000:=by omega
 clear cur ag;have ei:((P:Int) == -1)=false:=beq_eq_false_iff_ne.2 (by omega)
 go_wp2
 go_loopw[5,6] (fun v5 K wr=>∃ (i j:Nat) (L:List Int),v5=.int .i64 (i:Int)∧K=.int .i64 (j:Int)∧i<j∧j<=l.length∧Hid (ZaB wr B (.slice (some ⟨c,0,none⟩) l.length f) L)∧Hid (Zwa p l L i j)∧Hid (Below B w wr)) (fun _ K _=>l.length-(intOf K).toNat)
 case atStart=>exact⟨P,P+1,l,rfl,by go_num,by omega,by omega,u,T,D⟩
 case round=>
  clear u T D ei;obtain⟨i,j,L,rfl,rfl,ak,aw,d,b,n⟩:=hrel;by_cases G:j<l.length
  case neg=>
   obtain rfl:j=l.length:=by omega
   have hL:L.length=l.length:=b.out.1;have HT:Hid (L.take i=l.filter (fun e=>!p e)):=ZZ (by rw[b.out.2.1,List.take_length])
   obtain⟨g',ai,C,-,ac,-,-,-,-⟩:=d.out.put i (by omega) 0
   injection C with e1 e2 e3
   clear e2
   injection e1 with e1
   injection e1 with e1
   subst e1 e3
   have Y:Hid (∀ k,k<l.length->wr.frozen? ⟨c,k,none⟩=false∧(wr.cell? ⟨c,k,none⟩).isSome=true):=ZZ (fun k hk=>by
    obtain⟨g2,aj,M,ad,af,-⟩:=d.out.put k (by omega) 0
    injection M with f1 _ _
    injection f1 with f1
    injection f1 with f1
    subst f1
    exact⟨af,by rw[ad];rfl⟩)
   have HK:Hid (∀ ty,(Builtin.clear_ #[23] ty #[.slice (some ⟨c,i,none⟩) (l.length-i) (f-i)]).run prog wr=.ok (.tuple #[]) (wr.setCells c i (List.replicate (l.length-i) (.int .i64 0)))):=ZZ (fun ty=>
    Go.Lib.run_clear_slice wr _ _ ty (.int .i64 0) underlying23 Tryz.zeroValue3 rfl rfl c i (l.length-i) (f-i) (by omega) (fun k hk=>(Y.o (i+k) (by omega)).2) (fun k hk=>(Y.o (i+k) (by omega)).1))
   have Z:=ZZ (d.out.cutClear i (by omega) (List.replicate (l.length-i) (.int .i64 0)))
   rw[HT.o] at Z;have ah:=ZZ (ZcI S (List.replicate (l.length-i) (.int .i64 0)) i wr n.out);have ax:¬ (f=i):=by omega
   have t:(i:Int)<=(l.length:Int):=by omega
   have ay:(i:Int)<=(f:Int):=by omega
   have al:i<=l.length:=by omega
   have av:i<=f:=by omega
   clear ac;have hK:=HK.o;go_wp2;go_ret;exact⟨_,rfl,Z.o,ah.o⟩
  have am:(j:Int)<(l.length:Int):=by omega
  have an:L.length=l.length:=b.out.1;obtain⟨g',ai,C,O,-⟩:=d.out.put j (by omega) 0
  injection C with e1 e2 e3
  clear e2
  injection e1 with e1
  injection e1 with e1
  subst e1 e3;rw[b.out.at] at O;have I:=ZZ (b.out.skip G);have H:=ZZ (b.out.keep G);obtain⟨e,m⟩:∃ e,e=l.getD j 0:=⟨_,rfl⟩;rw[<-m] at O I H;obtain⟨F,V⟩:∃ F,F=p e:=⟨_,rfl⟩;have N:=ZZ (fun W h=>HP.o W e (by rw[m];exact Zli G) h)
  rw[<-V] at N I H;clear m V b
  go_wp2_with fail
  refine(N.o _ n.out).mono ?_;rintro x W1 ⟨rfl,t⟩;have X:=ZZ (n.out.trans (t.mono (Nat.le_trans z n.out.size)));have U:=ZZ (d.out.below t zL);clear t N O d n
  cases F with
  | true=>
   go_wp2;go_roundw
   case rel=>exact⟨i,j+1,L,rfl,by go_num,by omega,by omega,U,ZZ (I.o (by simp)),X⟩
   case measure=>simp[intOf];omega
  | false=>
   obtain⟨g2,aj,M,d0,z0,-,-,ab,-⟩:=U.o.put i (by omega) e
   injection M with f1 f2 f3
   clear f2
   injection f1 with f1
   injection f1 with f1
   subst f1 f3;have ae:=ZZ ab;clear ab;have ap:(i:Int)<(l.length:Int):=by omega
   have ar:i<l.length:=by omega
   go_wp2;go_roundw
   case rel=>exact⟨i+1,j+1,L.set i e,by go_num,by go_num,by omega,by omega,ae,ZZ (H.o (by simp)),ZZ (X.o.setCell S _)⟩
   case measure=>simp[intOf];omega
theorem Zbp {c:Array Oper} {o:Oper} {a:Act} {K:Act->World->Prop} {Q:Exit->Act->World->Prop} {E:Prop} {R:Value->World->Prop}
 (f:FuncId) (xs:Array Operand) (ts:Array TypeId) (j:o.guard=none) (g:o.op=Op.call { callee:=Callee.value (Operand.func f),args:=xs,argTypes:=ts }) (b:Array Value) (d:xs.map a.eval=b)
 (m:∀ args w,(callFunc f args).run prog w=.ok (.enter f args) w) (p:Calls prog f b w fun e w'=>∃ v',e=.returned v'∧R v' w') (i:∀ v' w',R v' w'->K (a.put o.dst v') w'):
 if Region.wanted o (yielded c a.tmps)=true then Oper.wp prog o a w K Q else E:=by
 have l:Region.wanted o (yielded c a.tmps)=true:=by simp[Region.wanted,j]
 rw[if_pos l];unfold Oper.wp
 have h:(execOp a.eval o).run prog w=.ok (.enter f b) w:=by
  have k:a.eval (Operand.func f)=.func (.func f) #[] #[]:=rfl;simp[execOp,g,resolve,invoke,d,k,Deferred.ofValue,m]
 rw[h,Oper.upon_enter];refine p.mono ?_;rintro e w' ⟨v',rfl,n⟩;exact i v' w' n
theorem Zoo (b o:Nat) (f:Int) (c:Option Addr) (n d:Nat) (w:World) (g:w.cell? ⟨b,o,none⟩=some (.int .i64 f)) (h:w.cell? ⟨b,o+1,none⟩=some (.slice c n d)) (k:0<=f) (i:f+n<=9000000000000000000):
 Calls prog 38 #[.pointer (some ⟨b,o,none⟩)] w fun e w'=>e=.returned (.int .i64 (f+n))∧Below w.heap.size w w':=by
 have a:IntKind.i64.wrap (f+(n:Int))=f+n:=by rw[IntKind.wrap_i64];omega
 have j:(n:Int)<=9000000000000000000:=by omega
 go_enter func38,ntmps38
 go_upto_region 1 with fail
 go_quiet(fail)
 go_wp2;go_ret;refine⟨?_,ZaI (Below.refl _ _) _⟩
 first | rfl | (rw[a])
structure ZrZ (s:Sto):Prop where
 f0:0<=s.log.first
 f1:s.next<=4611686018427387904
 sy:I64 s.synced
 cu:I64 s.cur
theorem Zlk (w:World) (h:ZeO M I w p pd L s) (g:ZrZ s):
 Calls prog 14 #[ptr p] w fun e w'=>e=.returned (.int .i64 s.next)∧Below w.heap.size w w':=by
 obtain⟨k,l,c⟩:=h.recs.shape;obtain⟨-,b,a,-⟩:=h.cs;rw[c] at a;have i:=g.f1;have f:=g.f0;unfold Sto.next Lgb.next at i;have j:=ZZ (Zoo p 1 s.log.first k s.log.recs.length l w b a f (by omega))
 have m:Hid (s.next=s.log.first+s.log.recs.length):=ZZ rfl;rw[m.o];generalize s.log.first+(s.log.recs.length:Int)=nx at *;clear b a c i f
 go_enter func14,ntmps14
 go_wp2_with fail
 refine j.o.mono ?_;rintro e w' ⟨rfl,d⟩;have n:=ZZ d;clear d;go_wp2;go_ret;exact⟨rfl,n.o⟩
theorem Zng (w:World) (h:ZeO M I w p pd L s):
 Calls prog 18 #[ptr p] w fun e w'=>e=.returned (.int .i64 s.log.first)∧w'=w:=by
 obtain⟨-,a,-⟩:=h.cs;clear h
 go_enter func18,ntmps18
 go_wp2;go_ret;exact⟨rfl,rfl⟩
theorem Zll (w:World) (h:ZeO M I w p pd L s):
 Calls prog 11 #[ptr p] w fun e w'=>e=.returned (.int .i64 s.synced)∧w'=w:=by
 obtain⟨-,-,-,-,-,-,a,-⟩:=h.cs;clear h
 go_enter func11,ntmps11
 go_wp2;go_ret;exact⟨rfl,rfl⟩
theorem Zxm (v:Value) (l:List Int) (x:Int) (w:World) (u:RdI w v l) (p:l.length<=1000000000):
 Calls prog 92 #[v,.int .i64 x] w fun e w'=>e=.returned (.int .i64 (l.getD (l.length-1) x))∧w'=w:=by
 obtain⟨ao,cap,rfl,n,d,-,-,c⟩:=u;have h:(l.length:Int)<=9223372036854775807:=by unfold maxLen at d;omega
 by_cases a:l.length=0
 ·have e:l=[]:=List.eq_nil_of_length_eq_zero a
  subst e;have g:((0:Int) == 0)=true:=rfl;clear c d n a;have t:([]:List Int).length=0:=rfl;rw[t]
  go_enter func92,ntmps92
  go_wp2;go_ret;exact⟨rfl,rfl⟩
 ·rcases c with c | ⟨b,z,rfl,k⟩
  ·rw[c] at a;simp at a
  have g:((l.length:Int) == 0)=false:=beq_eq_false_iff_ne.2 (by omega)
  have f:=k (l.length-1) (by omega)
  have e:l.getD (l.length-1) x=l.getD (l.length-1) 0:=by
   simp[List.getD,show l.length-1<l.length by omega]
  rw[e];obtain⟨y,j⟩:∃ y,y=l.getD (l.length-1) 0:=⟨_,rfl⟩;rw[<-j] at f ⊢;obtain⟨m,i⟩:∃ m,l.length=m+1:=⟨l.length-1,by omega⟩
  rw[i] at f g h ⊢;have q:m+1-1=m:=by omega
  rw[q] at f;have A:(m:Int)<=1000000000:=by omega
  clear j k e d n a i h p
  go_enter func92,ntmps92
  go_wp2;go_ret;exact⟨rfl,rfl⟩
def ZhR (first n:Int):Bool:=decide (n<first) || decide ((n-first) % 2≠0)
theorem ZpW (l:List Int) (first:Int):ZaY l first=l.filter fun n=>!ZhR first n:=rfl
theorem Zxn (R:Nat) (first n:Int) (w:World) (c:w.cell? ⟨R,0,none⟩=some (.int .i64 first)) (m:0<=first) (k:first<=1000) (i:-1000000000000000000<=n) (l:n<=1000000000000000000):
 Calls prog 111 #[.int .i64 n,.pointer (some ⟨R,0,none⟩)] w fun e w'=>e=.returned (.bool (ZhR first n))∧Below w.heap.size w w':=by
 by_cases b:n<first
 ·have e:ZhR first n=true:=by unfold ZhR;rw[decide_eq_true b];rfl
  rw[e];clear e
  go_enter func111,ntmps111
  go_wp2;go_ret;exact⟨rfl,Below.refl _ _⟩
 ·have j:IntKind.i64.wrap (n-first)=n-first:=by rw[IntKind.wrap_i64];omega
  have d:(n-first).tmod 2=(n-first) % 2:=Int.tmod_eq_emod_of_nonneg (by omega)
  by_cases a:(n-first) % 2=0
  ·have e:ZhR first n=false:=by unfold ZhR;rw[decide_eq_false b,decide_eq_false (fun h=>h a)];rfl
   have f:((n-first) % 2 != 0)=false:=by rw[a];rfl
   have g:((n-first).tmod 2 != 0)=false:=by rw[d,a];rfl
   rw[e];clear e a
   go_enter func111,ntmps111
   go_wp2;go_ret;exact⟨rfl,Below.refl _ _⟩
  ·have e:ZhR first n=true:=by unfold ZhR;rw[decide_eq_false b,decide_eq_true a];rfl
   have f:((n-first) % 2 != 0)=true:=by rw[bne_iff_ne];exact a
   have g:((n-first).tmod 2 != 0)=true:=by rw[d,bne_iff_ne];exact a
   rw[e];clear e a
   go_enter func111,ntmps111
   go_wp2;go_ret;exact⟨rfl,Below.refl _ _⟩
theorem Zej (h:OkD d):∀ n ∈ Zak d,0<=n∧n<1048576:=fun n c=>by
 obtain⟨e,b,rfl⟩:=List.mem_map.1 c;have a:=(h.dir.may e b).1;unfold Zja at a;simp only [Bool.and_eq_true,decide_eq_true_eq] at a;exact a
theorem Zfx (first:Int) (w:World) (h:Dsk F w p d N T) (P:N<=1000000) (S:0<=first) (M:first<=1000):
 Calls prog 74 #[ptr p,.int .i64 first] w fun e w'=>∃ v,e=.returned v∧ZaB w' w.heap.size v (ZaY (Zak d) first)∧Below w.heap.size w w':=by
 obtain⟨b,g⟩:∃ b,b=w.alloc (.cells #[.int .i64 first] 3):=⟨_,rfl⟩;have f:Hid (Below w.heap.size w b):=ZZ (by rw[g];exact ZcW _ _)
 have t:Hid (Bk 3 b w.heap.size #[.int .i64 first]):=ZZ (by rw[g];exact heap_alloc_new w _)
 have q:=ZZ (h.below f.o)
 have B:Hid (Calls prog 28 #[ptr p] b fun e w'=>∃ v,e=.returned v∧ZaB w' b.heap.size v (Zak d)∧Below b.heap.size b w'):=ZZ (by
  obtain⟨L,m,i,-⟩:=q.o
  exact ZhJ b m i P)
 have l:Hid (∀ n ∈ Zak d,0<=n∧n<1048576):=ZZ (by
  obtain⟨L,m,i,-⟩:=q.o
  exact Zej i)
 have K:Hid ((Zak d).length<=1000000):=ZZ (by
  obtain⟨L,m,i,O,-⟩:=q.o;have H:=Zey d d.waits.length;rw[Zgo] at H;have:=O.names;unfold Zak;rw[length_map]
  omega)
 clear h
 go_enter func74,ntmps74
 go_upto_region 1 with fail
 rw[<-g];clear g
 go_wp2_with fail
 refine B.o.mono ?_;rintro e y ⟨D,rfl,x,k⟩;have I:=ZZ (f.o.trans (k.mono f.o.size));have G:Hid (∀ W,Below b.heap.size y W->W.cell? ⟨w.heap.size,0,none⟩=some (.int .i64 first)):=ZZ (fun W u=>((t.o.keep ((u.block _ t.o.lt).trans (k.block _ t.o.lt))).cell 0 rfl).1)
 have z:=ZZ (Zlj 111 w.heap.size (ZhR first) D (Zak d) b.heap.size y x (fun n j=>by
  have:=l.o n j
  exact⟨by omega,by omega⟩) k.size K.o (enters_of func111 (by kernel_rfl) rfl) (fun W n j u=>Zxn w.heap.size first n W (G.o W u) S M (by have:=l.o n j;omega) (by have:=l.o n j;omega)))
 rw[<-ZpW] at z
 obtain⟨Y,Z,V,J⟩:∃ a n c,D=.slice a n c:=by
  obtain⟨a,c,E⟩:=x.shape;exact⟨a,_,c,E⟩
 subst J;clear x k B
 go_wp2_with fail
 refine z.o.mono ?_;rintro e X ⟨U,rfl,C,A⟩;have Q:=ZZ (C.mono f.o.size);have R:=ZZ (I.o.trans (A.mono f.o.size));clear C A;go_wp2;go_ret;exact⟨_,rfl,Q.o,R.o⟩
theorem Zjn (first:Int) (w:World) (h:ZeO M I w p pd L s) (b:Dsk F w pd d N T) (S:N<=1000000) (h1:2<=first) (K:first<=1000):
 Calls prog 50 #[ptr p,.int .i64 first] w fun e w'=>e=.returned (.int .i64 (Zbf d first))∧Below w.heap.size w w':=by
 have U:=ZZ (Zfx first w b S (by omega) K)
 have k:Hid (∀ n ∈ ZaY (Zak d) first,0<=n∧n<1048576):=ZZ (by
  obtain⟨L,A,m,-⟩:=b
  exact fun n g=>Zej m n (List.mem_filter.1 g).1)
 have B:Hid ((Zak d).length<=1000000000):=ZZ (by
  obtain⟨L,A,m,Q,-⟩:=b;have C:=Zey d d.waits.length;rw[Zgo] at C;have:=Q.names;unfold Zak;rw[length_map]
  omega)
 obtain⟨J,-⟩:=h.cs;have E:Hid (Zbf d first=(ZaY (Zak d) first).getD ((ZaY (Zak d) first).length-1) (first-2)+2):=ZZ rfl
 have f:Hid (0<=(ZaY (Zak d) first).getD ((ZaY (Zak d) first).length-1) (first-2)∧(ZaY (Zak d) first).getD ((ZaY (Zak d) first).length-1) (first-2)<=1048576):=ZZ (by
  by_cases H:(ZaY (Zak d) first).length=0
  ·rw[List.eq_nil_of_length_eq_zero H]
   show 0<=first-2∧first-2<=1048576;omega
  ·have O:(ZaY (Zak d) first).getD ((ZaY (Zak d) first).length-1) (first-2) ∈ ZaY (Zak d) first:=by
    rw[show(ZaY (Zak d) first).getD ((ZaY (Zak d) first).length-1) (first-2)=(ZaY (Zak d) first)[(ZaY (Zak d) first).length-1]'(by omega) by simp[List.getD,show(ZaY (Zak d) first).length-1<(ZaY (Zak d) first).length by omega]]
    exact getElem_mem _
   have:=k.o _ O
   omega)
 clear h b;rw[E.o];have P:Hid ((ZaY (Zak d) first).length<=1000000000):=ZZ (Nat.le_trans (List.length_filter_le _ _) B.o);generalize ZaY (Zak d) first=l at *;obtain⟨y,i⟩:∃ y,y=l.getD (l.length-1) (first-2):=⟨_,rfl⟩;rw[<-i] at f ⊢;have x:=ZZ i;clear i
 go_enter func50,ntmps50
 go_wp2_with fail
 refine U.o.mono ?_;rintro e z ⟨R,rfl,j,u⟩;have D:=ZZ u
 have q:=ZZ (j.rd (fun n g=>by
  have:=k.o n g
  exact⟨by omega,by omega⟩))
 obtain⟨Y,Z,V,G⟩:∃ a n c,R=.slice a n c:=by
  obtain⟨a,c,v⟩:=j.shape;exact⟨a,_,c,v⟩
 subst G;have t:=ZZ (Zxm _ l (first-2) z q.o P.o);rw[<-x.o] at t;have aa:=f.o.1;have X:=f.o.2;clear j u q J
 go_wp2_with fail
 refine t.o.mono ?_;rintro e W ⟨rfl,rfl⟩;go_wp2;go_ret;exact⟨rfl,D.o⟩
def ZBP:ZaW × Value × Value:=(Zbl,.slice none 0 0,.slice none 0 0)
def Zfy (l:List (ZaW × Value × Value)):ZaW × Value × Value:=l.getD (l.length-1) ZBP
theorem Znh (h:L.bs.map Prod.fst=s.bases):(Zfy L.bs).1=s.base:=by
 unfold Zfy Sto.base;rw[<-h,length_map];simp only [List.getD,List.getElem?_map]
 cases L.bs[L.bs.length-1]? <;> rfl
theorem Zlm {l:List (ZaW × Value × Value)} (h:l.length≠0):Zfy l ∈ l:=by
 unfold Zfy;rw[show l.getD (l.length-1) ZBP=l[l.length-1]'(by omega) by simp[List.getD,show l.length-1<l.length by omega]]
 exact getElem_mem _
theorem Zxo {l:List (ZaW × Value × Value)} (h:w.ownsRow 0 41 6 v l.length (ZaN l)) (m:l.length≠0):
 ∃ g cap,v=.slice (some ⟨g,0,none⟩) l.length cap∧∀ k u,k<6->(snC (Zfy l))[k]?=some u->w.cell? ⟨g,(l.length-1)*6+k,none⟩=some u:=by
 rcases h.2 with ⟨_,n⟩ | ⟨g,cap,cur,d,_,i,q,t,p,f⟩
 ·exact absurd n m
 ·refine⟨g,cap,d,fun k u j c=>?_⟩
  have b:l.length-1<l.length:=by omega
  have e:Zfy l=l[l.length-1]:=by unfold Zfy;simp[List.getD,b]
  rw[e] at c;rw[cell_of_row w g _ _ _ _ i];have a:=Zlh l (l.length-1) k b j;rw[c,<-f,List.getElem?_take] at a;rw[if_pos (by omega)] at a
  rw[<-Array.getElem?_toList];exact a
theorem Zxp (v:Value) (l:List (ZaW × Value × Value)) (w:World) (h:w.ownsRow 0 41 6 v l.length (ZaN l)) (F:l.length≠0) (Q:l.length<=1000000000) (z:∃ a n c a' n' c',(Zfy l).2.1=.slice a n c∧(Zfy l).2.2=.slice a' n' c'):
 Calls prog 78 #[v,.agg #[.int .i64 0,.int .i64 0,.slice none 0 0,.bool false,.int .i64 0,.slice none 0 0]] w fun e w'=>e=.returned (snV (Zfy l))∧Below w.heap.size w w':=by
 obtain⟨g,cap,rfl,d⟩:=Zxo h F;obtain⟨x,D⟩:∃ x,x=Zfy l:=⟨_,rfl⟩;rw[<-D] at d z ⊢;obtain⟨m,H⟩:∃ m,l.length=m+1:=⟨l.length-1,by omega⟩
 have A:l.length-1=m:=by omega
 rw[A] at d;obtain⟨⟨K,⟨kd,LL,N,B⟩,tb⟩,vl,vt⟩:=x;obtain⟨C,O,lc,t,L,J,P,G⟩:=z
 dsimp only at P G
 subst P G;have q:=d 0 _ (by decide) rfl
 have u:=d 1 _ (by decide) rfl
 have y:=d 2 _ (by decide) rfl
 have I:=d 3 _ (by decide) rfl
 have M:=d 4 _ (by decide) rfl
 have E:=d 5 _ (by decide) rfl
 have i:g<w.heap.size:=World.block_lt_of_cell? w ⟨g,m*6+0,none⟩ q;rw[H];have S:((m+1:Nat):Int)≠0:=by omega
 have Y:((((m+1:Nat):Int)) == 0)=false:=beq_eq_false_iff_ne.2 S;have aa:(m:Int)<=1000000000:=by omega
 obtain⟨b,k⟩:∃ b,b=(w.alloc (.cells #[.int .i64 0,.int .i64 0,.slice none 0 0,.bool false,.int .i64 0,.slice none 0 0] 41)).alloc (.cells #[.int .i64 0,.int .i64 0,.slice none 0 0,.bool false,.int .i64 0,.slice none 0 0] 41):=⟨_,rfl⟩;have f:Hid (Below w.heap.size w b):=ZZ (by rw[k];exact((Below.refl _ _).alloc zL _).alloc (by simp) _)
 have j:Hid (Bn b (w.heap.size+1) #[.int .i64 0,.int .i64 0,.slice none 0 0,.bool false,.int .i64 0,.slice none 0 0]):=ZZ (by rw[k];exact Zhc w _ _)
 have Z:b.cell? ⟨g,m*6,none⟩=some (.int .i64 K):=(f.o.cell (p:=⟨g,m*6,none⟩) i).trans q;have e1:b.cell? ⟨g,m*6+1,none⟩=some (.int .i64 kd):=(f.o.cell (p:=⟨g,m*6+1,none⟩) i).trans u;have e2:b.cell? ⟨g,m*6+2,none⟩=some (.slice C O lc):=(f.o.cell (p:=⟨g,m*6+2,none⟩) i).trans y;have e3:b.cell? ⟨g,m*6+3,none⟩=some (.bool N):=(f.o.cell (p:=⟨g,m*6+3,none⟩) i).trans I;have e4:b.cell? ⟨g,m*6+4,none⟩=some (.int .i64 B):=(f.o.cell (p:=⟨g,m*6+4,none⟩) i).trans M;have e5:b.cell? ⟨g,m*6+5,none⟩=some (.slice t L J):=(f.o.cell (p:=⟨g,m*6+5,none⟩) i).trans E;obtain⟨T,y0⟩:=j.o.cell 0;obtain⟨X,y1⟩:=j.o.cell 1;obtain⟨V,y2⟩:=j.o.cell 2;obtain⟨R,y3⟩:=j.o.cell 3;obtain⟨U,y4⟩:=j.o.cell 4;obtain⟨W,y5⟩:=j.o.cell 5;clear q u y I M E d h D H A F Q
 go_enter func78,ntmps78
 go_upto_region 1 with fail
 rw[<-k];clear k;go_wp2;refine bodyPost_ret (v:=.agg #[.int .i64 K,.int .i64 kd,.slice C O lc,.bool N,.int .i64 B,.slice t L J]) (by simp[results,Tryz.results78,go_sem,T,X,V,R,U,W]) rfl ?_
 exact⟨rfl,Zei f.o _ (by omega) _ _ _ _ _ _⟩
theorem SnR.shape {x:ZaW × Value × Value} (h:SnR w x):∃ a n c a' n' c',x.2.1=.slice a n c∧x.2.2=.slice a' n' c':=by
 obtain⟨a,c,d,-⟩:=h.l;obtain⟨a',c',b⟩:=h.t.shape;exact⟨a,_,c,a',_,c',d,b⟩
theorem Ztt (w:World) (h:ZeO M I w p pd L s) (Q:s.bases.length≠0) (D:s.bases.length<=1000000000):
 Calls prog 37 #[ptr p] w fun e w'=>e=.returned (snV (Zfy L.bs))∧Below w.heap.size w w':=by
 have S:L.bs.length=s.bases.length:=by rw[<-h.bsEq,length_map]
 have A:=Zlm (l:=L.bs) (by omega)
 have j:=ZZ (h.base _ A);obtain⟨f,i⟩:∃ f,f=w.alloc (.cells #[.int .i64 0,.int .i64 0,.slice none 0 0,.bool false,.int .i64 0,.slice none 0 0] 41):=⟨_,rfl⟩;have m:Hid (Below w.heap.size w f):=ZZ (by rw[i];exact ZcW _ _)
 have G:Hid (Bn f w.heap.size #[.int .i64 0,.int .i64 0,.slice none 0 0,.bool false,.int .i64 0,.slice none 0 0]):=ZZ (by rw[i];exact heap_alloc_new w _)
 have q:=ZZ (h.below m.o);obtain⟨-,-,-,-,B,-⟩:=q.o.cs;have d:=ZZ (Zxp L.bv L.bs f q.o.bases (by omega) (by omega) j.o.shape)
 obtain⟨ba,bn,bc,u⟩:∃ a n c,L.bv=.slice a n c:=by
  rcases h.bases.2 with ⟨k,_⟩ | ⟨g,cap,cur,k,_⟩
  ·exact⟨_,_,_,k⟩
  ·exact⟨_,_,_,k⟩
 rw[u] at B d;obtain⟨x,y⟩:∃ x,x=Zfy L.bs:=⟨_,rfl⟩;rw[<-y] at d j ⊢;obtain⟨O,Y,lc,F,W,T,C,z⟩:=j.o.shape;obtain⟨⟨V,⟨kd,Z,X,K⟩,tb⟩,vl,vt⟩:=x
 dsimp only at C z
 subst C z;unfold snV snC at d ⊢
 dsimp only at d ⊢
 clear h u y A S Q D q j
 go_enter func37,ntmps37
 go_upto_region 1 with fail
 rw[<-i];clear i
 go_wp2_with fail
 refine d.o.mono ?_;rintro e W1 ⟨rfl,t⟩;have J:=ZZ (m.o.trans (t.mono m.o.size));have b:=G.o.below t zL;obtain⟨H,y0⟩:=b.cell 0;obtain⟨U,y1⟩:=b.cell 1;obtain⟨P,y2⟩:=b.cell 2;obtain⟨E,y3⟩:=b.cell 3;obtain⟨N,y4⟩:=b.cell 4;obtain⟨R,y5⟩:=b.cell 5;clear t b B;go_wp2;refine bodyPost_ret (v:=.agg #[.int .i64 V,.int .i64 kd,.slice O Y lc,.bool X,.int .i64 K,.slice F W T]) (by simp[results,Tryz.results37,go_sem,H,U,P,E,N,R]) rfl ?_
 exact⟨rfl,Zei J.o _ (by omega) _ _ _ _ _ _⟩
def ZAP (w:World) (s:ZaW) (e:Ending) (w':World):Prop:=
 ∃ vl vt,e=.returned (snV (s,vl,vt))∧SnR w' (s,vl,vt)∧(∀ b,vl.ownBlock=some b->w.heap.size<=b)∧(∀ b,vt.ownBlock=some b->w.heap.size<=b)∧Below w.heap.size w w'
theorem ZuT (x:ZaW × Value × Value) (w:World) (hx:SnR w x) (G:x.1.st.L.length<=1000000) (I:x.1.tab.length<=1000000):
 Calls prog 47 #[snV x] w fun e w'=>ZAP w x.1 e w':=by
 obtain⟨⟨idx,⟨kind,L,y,u⟩,j⟩,vl,vt⟩:=x;obtain⟨t,q,p,n,l⟩:=hx
 dsimp only at t q p n l G I ⊢
 obtain⟨U,lc,rfl,-⟩:=id t;obtain⟨ta,O,rfl⟩:=q.shape;have Q:=ZZ (fun W (h:Below w.heap.size w W)=>ZiH _ L W (t.below h zL) G)
 have R:=ZZ (fun W (h:Below w.heap.size w W)=>ZiI _ j W (q.below h zL) I)
 have F:=ZZ t.i64;have X:∀ e ∈ j,Zod e:=q.choose_spec.choose_spec.2.2.2.2.1;have V:=ZZ X;obtain⟨d,m⟩:∃ d,d=(w.alloc (.cells #[.int .i64 idx,.int .i64 kind,.slice U L.length lc,.bool y,.int .i64 u,.slice ta j.length O] 41)).alloc (.cells #[.int .i64 0,.int .i64 0,.slice none 0 0,.bool false,.int .i64 0,.slice none 0 0] 41):=⟨_,rfl⟩;have k:Hid (Below w.heap.size w d):=ZZ (by rw[m];exact((Below.refl _ _).alloc zL _).alloc (by simp) _)
 have i:Hid (Bn d w.heap.size #[.int .i64 idx,.int .i64 kind,.slice U L.length lc,.bool y,.int .i64 u,.slice ta j.length O]):=ZZ (by rw[m];exact(Below.heap_alloc _ _ _ (by simp)).trans (heap_alloc_new w _))
 have P:Hid (Bn d (w.heap.size+1) #[.int .i64 0,.int .i64 0,.slice none 0 0,.bool false,.int .i64 0,.slice none 0 0]):=ZZ (by rw[m];exact Zhc w _ _)
 have ah:d.heap.size=w.heap.size+2:=by rw[m];simp
 unfold snV snC
 dsimp only
 clear t q X G I
 go_enter func47,ntmps47
 go_upto_region 1 with fail
 rw[<-m];clear m;obtain⟨Y,T⟩:=i.o.cell 2;obtain⟨p5,S⟩:=i.o.cell 5
 go_cut[] (fun wc=>Hid (ZpT w ⟨idx,⟨kind,L,y,u⟩,j⟩ wc))
 case first=>
  go_region_with
   (first
    | (go_at_call 39;refine(Q.o _ (by first | exact k.o.drew | exact k.o)).mono ?_;rintro e W1 ⟨v1,rfl,K,H⟩;have A:Below d.heap.size d W1:=(by first | exact((Below.refl _ _).drew).trans H | exact H);have ak:=ZZ K;have D:=ZZ A;obtain⟨a1,c1,af⟩:∃ a c,v1=.slice a L.length c:=(by obtain⟨a,c,h,-⟩:=K.rd F.o;exact⟨a,c,h⟩);subst af;obtain⟨q2,k2⟩:=(i.o.below A zL).cell 2;obtain⟨q5,k5⟩:=(i.o.below A zL).cell 5;clear K H A)
    | (go_at_call 40;refine(R.o _ (k.o.trans (D.o.mono k.o.size))).mono ?_;rintro e W2 ⟨v2,rfl,E,J⟩;have ag:=ZZ E;have z:=ZZ (D.o.trans (J.mono D.o.size));have ai:=ZZ (ak.o.below J zL);obtain⟨a2,c2,aj⟩:=E.shape;subst aj;obtain⟨r2,j2⟩:=(i.o.below z.o zL).cell 2;obtain⟨r5,j5⟩:=(i.o.below z.o zL).cell 5;clear E J))
  all_goals
   go_wp2_with fail
   go_meet
   exact ZZ (Zla (i.o.below z.o zL) (P.o.below z.o zL) (ai.o.mono (by first | omega | (show w.heap.size+2<=d.heap.size;omega))) F.o (ag.o.mono (by have:=D.o.size;omega)) V.o l p n (k.o.trans (z.o.mono k.o.size)))
 case rest=>
  have ac:=hcut;clear hcut k i P ah Y T p5 S Q R F V d p n l;obtain⟨W,rfl⟩:∃ W,W=wc:=⟨_,rfl⟩;obtain⟨sa,sc,Z,ec,f,g,hL,ae,N,ad,l,p,n,hB⟩:=ac.o;have HY:=ZZ g;have HL:=ZZ hL;have M:=ZZ ae;have B:=ZZ N;have aa:=ZZ ad;have C:=ZZ (And.intro l (And.intro p n));have HB:=ZZ hB
  dsimp only at f HL M B aa C
  obtain⟨p0,g0⟩:=f.cell 0;obtain⟨p1,g1⟩:=f.cell 1;obtain⟨Y,T⟩:=f.cell 2;obtain⟨p3,g3⟩:=f.cell 3;obtain⟨p4,g4⟩:=f.cell 4;obtain⟨p5,S⟩:=f.cell 5;obtain⟨z0,y0⟩:=g.cell 0;obtain⟨z1,y1⟩:=g.cell 1;obtain⟨z2,y2⟩:=g.cell 2;obtain⟨z3,y3⟩:=g.cell 3;obtain⟨z4,y4⟩:=g.cell 4;obtain⟨z5,y5⟩:=g.cell 5;have al:¬ (w.heap.size=w.heap.size+1):=by omega
  clear f g hL ae N ad l p n hB ac;go_wp2;refine bodyPost_ret (v:=.agg #[.int .i64 idx,.int .i64 kind,.slice sa L.length sc,.bool y,.int .i64 u,.slice Z j.length ec]) (by simp[results,Tryz.results47,go_sem,z0,z1,z2,z3,z4,z5]) rfl ?_
  have ab:=Ztp W (w.heap.size+1) (.int .i64 idx) (.int .i64 kind) (.slice sa L.length sc) (.bool y) (.int .i64 u) (.slice Z j.length ec);exact⟨_,_,rfl,⟨HL.o.but ab (.inr fun b h=>by have:=M.o b h;omega),(B.o.rd aa.o).but ab (.inr fun b h=>by have:=B.o.fresh b h;omega),C.o.2.1,C.o.2.2,C.o.1⟩,fun b h=>by have:=M.o b h;omega,fun b h=>by have:=B.o.fresh b h;omega,ZhM HB.o _ (by omega) _ _ _ _ _ _⟩
theorem ZAQ:(prog.info? 108).map (fun i=>(i.zero,i.size,i.bytes))=some (some (.agg #[.int .i64 0,.int .i64 0,.int .i64 0]),3,24):=by kernel_rfl
theorem Zop (w:World) (ty:TypeId) (v:Value) (l:List Pce) (h:w.ownsRow 0 108 3 v l.length (Zau l)) (c:Pce) (n:l.length<=10000000):
 ∃ v' w',(Builtin.append_ #[71,71] ty #[v,.slice (some ⟨w.heap.size,0,none⟩) 1 1]).run prog (w.alloc (.cells (pcC c) 108))=.ok v' w'∧
  w'.ownsRow 0 108 3 v' (l++[c]).length (Zau (l++[c]))∧(w.alloc (.cells (pcC c) 108)).grownBy w' v.ownBlock∧(v'.ownBlock=v.ownBlock∨v'.ownBlock=some (w.heap.size+1)):=by
 obtain⟨i,g,m,b,e⟩:=info_parts ZAQ
 obtain⟨v',w',f,k,d,_,hl⟩:=run_append_own_at (P:=prog) (w.alloc (.cells (pcC c) 108)) 0 71 ty 108 i _ 3 24 underlying71 g m b e rfl (by decide) v l.length (Zau l) (World.ownsRow.alloc h _)
  ⟨w.heap.size,0,none⟩ 1 1 (Zau [c]) (Zdn [c]) (fun j u a=>by
   rw[Addr.add_lit,Nat.zero_add,cell_of_row _ w.heap.size j _ 108 (0,0) (heap_alloc_new w _)]
   simpa[Zau] using a) (ZrY [c]) (by unfold maxLen;omega) (by omega) (Nat.zero_le _)
 refine⟨v',w',f,?_,d,?_⟩
 ·rw[List.length_append,Zlf]
  exact k
 ·rcases hl with hl | hl
  ·exact .inl hl
  ·exact .inr (by rw[hl];simp)
theorem ZcA (w:World) {b:Array Oper} {rest:List Oper} {o:Oper} {a:Act} {Q:Exit->Act->World->Prop} (p:o.guard=none) (s x:Operand)
 (q:o.op=.call { callee:=.builtin .append,args:=#[s,x],argTypes:=#[71,71] })
 (v:Value) (l:List Pce) (g:a.eval s=v) (h:w.ownsRow 0 108 3 v l.length (Zau l)) (c:Pce) (m:a.eval x=.slice (some ⟨w.heap.size,0,none⟩) 1 1) (d:l.length<=10000000)
 (e:∀ v' w',w'.ownsRow 0 108 3 v' (l++[c]).length (Zau (l++[c]))->(w.alloc (.cells (pcC c) 108)).grownBy w' v.ownBlock->(v'.ownBlock=v.ownBlock∨v'.ownBlock=some (w.heap.size+1))->
  wpList prog b Q rest (a.put o.dst v') w'):wpList prog b Q (o::rest) a (w.alloc (.cells (pcC c) 108)):=
 wpList_plain p fun _ k=>by
  obtain⟨v',w',j,n,i,f⟩:=Zop w o.type v l h c d;unfold Oper.wp execOp;simp only [q,resolve,invoke,builtin,Sem.run_bind,Sem.run_pure,Result.andThen_ok,List.map_toArray,map_cons,map_nil,g,m,j];exact k _ _ (e v' w' n i f)
theorem Zln (w:World) (ty:TypeId) (v:Value) (b:List Rec) (d:Zbq w 0 v b) (f:Value) (l:List Rec) (n:RdR w f l) (x:b.length+l.length<=10000000):
 ∃ v' w',(Builtin.append_ #[29,29] ty #[v,f]).run prog w=.ok v' w'∧Zbq w' 0 v' (b++l)∧w.grownBy w' v.ownBlock∧(v'.ownBlock=v.ownBlock∨v'.ownBlock=some w.heap.size):=by
 obtain⟨h,g,u,i,k⟩:=info_parts Zgs;obtain⟨ao,cap,rfl,z,y,t,_,m⟩:=n
 cases ao with
 | none=>
  have q:=t rfl;subst q;have e:l=[]:=List.eq_nil_of_length_eq_zero (by omega)
  subst e;have c:=run_append_owned_none (P:=prog) w 0 29 ty 62 h 7 underlying29 g v b.length (Zan b) d;exact⟨v,w,c,by rw[append_nil];exact d,⟨rfl,rfl,rfl,Nat.le_refl _,fun _ _ _=>rfl⟩,.inl rfl⟩
 | some a=>
  obtain⟨v',w',c,p,j,_,e⟩:=run_append_own_at (P:=prog) w 0 29 ty 62 h _ 7 56 underlying29 g u i k rfl (by decide) v b.length (Zan b) d a l.length cap (Zan l)
   (Zbo l) (RdR.cells m a rfl) (ZeB l) (by unfold maxLen;omega) (by omega) (Nat.zero_le _)
  refine⟨v',w',c,?_,j,e⟩;unfold Zbq;rw[List.length_append,Zdv];exact p
theorem ZeD (w:World) {d:Array Oper} {rest:List Oper} {o:Oper} {a:Act} {Q:Exit->Act->World->Prop} (p:o.guard=none) (s x:Operand)
 (u:o.op=.call { callee:=.builtin .append,args:=#[s,x],argTypes:=#[29,29] })
 (v:Value) (b:List Rec) (i:a.eval s=v) (q:Zbq w 0 v b) (c:Value) (l:List Rec) (m:a.eval x=c) (t:RdR w c l) (e:b.length+l.length<=10000000)
 (h:∀ v' w',Zbq w' 0 v' (b++l)->w.grownBy w' v.ownBlock->(v'.ownBlock=v.ownBlock∨v'.ownBlock=some w.heap.size)->wpList prog d Q rest (a.put o.dst v') w'):wpList prog d Q (o::rest) a w:=
 wpList_plain p fun _ f=>by
  obtain⟨v',w',k,n,j,g⟩:=Zln w o.type v b q c l t e;unfold Oper.wp execOp;simp only [u,resolve,invoke,builtin,Sem.run_bind,Sem.run_pure,Result.andThen_ok,List.map_toArray,map_cons,map_nil,i,m,k];exact f _ _ (h v' w' n j g)
theorem ZaR {s:Nat} (h:w.ownsRow base t s v n xs) {g:Nat} (a:v.ownBlock=some g):∃ cs,Bk t w g cs:=by
 rcases h.2 with ⟨b,_⟩ | ⟨g',cap,cur,b,_,c,_⟩
 ·rw[b] at a;cases a
 ·rw[b] at a
  obtain rfl:g'=g:=by simpa[Value.ownBlock] using a
  exact⟨_,c⟩
theorem ZbW {s:Nat} (h:w.ownsRow base t s v n xs):∃ a c,v=.slice a n c:=by
 rcases h.2 with ⟨b,d⟩ | ⟨g',cap,cur,b,_⟩
 ·exact⟨_,_,by rw[b,d]⟩
 ·exact⟨_,_,b⟩
structure Zlo (t:TypeId) (w:World) (b o:Nat) (cs:Array Value) (rv pv:Value) (g:Lgb):Prop where
 blk:Bk t w b cs
 c0:cs[o]?=some (.int .i64 g.first)
 c1:cs[o+1]?=some rv
 c2:cs[o+2]?=some pv
 recs:Zbq w 0 rv g.recs
 pcs:w.ownsRow 0 108 3 pv g.pcs.length (Zau g.pcs)
def Zmv (b:Nat) (rv pv:Value) (k:Nat):Prop:=k=b∨rv.ownBlock=some k∨pv.ownBlock=some k
theorem Zlo.neR (h:Zlo t w b o cs rv pv g) (c:t≠62):rv.ownBlock≠some b:=fun e=>by
 obtain⟨d,a⟩:=ZaR h.recs e;exact(h.blk.ne a c) rfl
theorem Zlo.neP (h:Zlo t w b o cs rv pv g) (c:t≠108):pv.ownBlock≠some b:=fun e=>by
 obtain⟨d,a⟩:=ZaR h.pcs e;exact(h.blk.ne a c) rfl
theorem Zlo.neRP (h:Zlo t w b o cs rv pv g):∀ k,rv.ownBlock=some k->pv.ownBlock≠some k:=fun k c a=>by
 obtain⟨i,e⟩:=ZaR h.recs c;obtain⟨f,d⟩:=ZaR h.pcs a;exact(e.ne d (by decide)) rfl
theorem Zlo.below (h:Zlo t w b o cs rv pv g) (a:Below w.heap.size w w'):Zlo t w' b o cs rv pv g:=
 ⟨h.blk.keep (a.block b h.blk.lt),h.c0,h.c1,h.c2,h.recs.below a zL,Zae h.pcs fun g c=>a.block g (by
  obtain⟨e,d⟩:=ZaR h.pcs c
  exact d.lt)⟩
def ZhS (t:TypeId) (w:World) (b o:Nat) (cs:Array Value) (rv pv:Value) (g:Lgb) (w':World):Prop:=
 ∃ rv' pv',Zlo t w' b o (((cs.setIfInBounds o (.int .i64 g.first)).setIfInBounds (o+1) rv').setIfInBounds (o+2) pv') rv' pv' g∧Zap (Zmv b rv pv) w w'∧
  (∀ k,Zmv b rv' pv' k->Zmv b rv pv k∨w.heap.size<=k)
theorem ZhS.more {a d:World} (h:ZhS t w b o cs rv pv g a) (c:Below a.heap.size a d):ZhS t w b o cs rv pv g d:=by
 obtain⟨i,f,l,k,e⟩:=h;exact⟨i,f,l.below c,k.trans (G:=fun _=>False) (Zap.ofBelow c) (fun _ _ j=>j.elim),e⟩
theorem ZhT {x:Value} (h:cs[j]?=some x):cs.setIfInBounds j x=cs:=by
 apply Array.ext_getElem?;intro i;rw[Array.getElem?_setIfInBounds];by_cases e:j=i
 ·subst e
  have a:j<cs.size:=(Array.getElem?_eq_some_iff.1 h).1;rw[if_pos rfl,if_pos a,h]
 ·simp[e]
theorem Zni (t:TypeId) (S:t≠62) (P:t≠108) (b o:Nat) (cs:Array Value) (rv pv:Value) (g:Lgb) (name first:Int) (w:World) (h:Zlo t w b o cs rv pv g) (ag:g.pcs.length<=1000000):
 Calls prog 53 #[.pointer (some ⟨b,o,none⟩),.int .i64 name,.int .i64 first] w fun e w'=>e=.returned (.tuple #[])∧ZhS t w b o cs rv pv (g.start name first) w':=by
 obtain⟨L,R,C⟩:=ZbW h.pcs
 -- the world ahead of the append
 obtain⟨a,p⟩:∃ a,a=if g.pcs.length=0 then w.setCell ⟨b,o,none⟩ (.int .i64 first) else w:=⟨_,rfl⟩
 obtain⟨m,n⟩:∃ m,m=if g.pcs.length=0 then cs.setIfInBounds o (.int .i64 first) else cs:=⟨_,rfl⟩
 have ab:a.heap.size=w.heap.size:=by
  rw[p];split
  ·simp
  ·rfl
 have O:∀ k,k≠b->a.heap[k]?=w.heap[k]?:=fun k hk=>by
  rw[p];split
  ·exact Below.heap_setCell _ _ _ _ hk
  ·rfl
 have W:Zap (Zmv b rv pv) w a:=by
  rw[p];split
  ·exact(Zap.refl _ _).setCell o (fun _=>.inl rfl) _
  ·exact Zap.refl _ _
 have V:Bk t a b m:=by
  rw[p,n];split
  ·exact h.blk.set o _
  ·exact h.blk
 have X:g.start name first=⟨if g.pcs.length=0 then first else g.first,g.recs,g.pcs++[(⟨name,first,first⟩:Pce)]⟩:=rfl
 have c:Zlo t a b o m rv pv ⟨if g.pcs.length=0 then first else g.first,g.recs,g.pcs⟩:=by
  refine⟨V,?_,?_,?_,Zae h.recs fun k hk=>O k (fun e=>h.neR S (by subst e;exact hk)),Zae h.pcs fun k hk=>O k (fun e=>h.neP P (by subst e;exact hk))⟩
  ·rw[n]
   have D:o<cs.size:=(Array.getElem?_eq_some_iff.1 h.c0).1;split
   ·simp[D]
   ·exact h.c0
  ·rw[n]
   split
   ·rw[Array.getElem?_setIfInBounds,if_neg (by omega)]
    exact h.c1
   ·exact h.c1
  ·rw[n]
   split
   ·rw[Array.getElem?_setIfInBounds,if_neg (by omega)]
    exact h.c2
   ·exact h.c2
 have M:Hid (∀ d f,f.ownsRow 0 108 3 d (g.pcs++[(⟨name,first,first⟩:Pce)]).length (Zau (g.pcs++[(⟨name,first,first⟩:Pce)]))->(a.alloc (.cells (pcC ⟨name,first,first⟩) 108)).grownBy f pv.ownBlock->(d.ownBlock=pv.ownBlock∨d.ownBlock=some (a.heap.size+1))->
  ZhS t w b o cs rv pv (g.start name first) (f.setCell ⟨b,o+2,none⟩ d)∧f.cell? ⟨b,o+2,none⟩=some pv∧f.frozen? ⟨b,o+2,none⟩=false):=ZZ (fun d f i j hv=>by
  have U:∀ k,k<a.heap.size->pv.ownBlock≠some k->f.heap[k]?=a.heap[k]?:=fun k hk ac=>by
   rw[j.block k (by simp;omega) (fun e=>ac e.symm),Below.heap_alloc _ _ _ hk]
  have z:Bk t f b m:=c.blk.keep (U b c.blk.lt (c.neP P));have ah:a.heap.size+1<=f.heap.size:=by have:=j.size;simpa using this
  have aa:((cs.setIfInBounds o (.int .i64 (g.start name first).first)).setIfInBounds (o+1) rv).setIfInBounds (o+2) d=m.setIfInBounds (o+2) d:=by
   congr 1
   rw[X,n]
   dsimp only
   by_cases l:g.pcs.length=0
   ·rw[if_pos l,if_pos l]
    exact ZhT (by rw[Array.getElem?_setIfInBounds,if_neg (by omega)];exact h.c1)
   ·rw[if_neg l,if_neg l,ZhT h.c0,ZhT h.c1]
  have ad:d.ownBlock≠some b:=fun e=>by
   obtain⟨ae,E⟩:=ZaR i e;exact(z.ne E P) rfl
  refine⟨⟨rv,d,?_,?_,?_⟩,(z.cell _ c.c2).1,(z.cell _ c.c2).2⟩
  ·rw[aa]
   have D:o+2<m.size:=(Array.getElem?_eq_some_iff.1 c.c2).1;refine⟨z.set _ _,?_,?_,by simp[D],Zae c.recs fun k hk=>?_,Zae i fun k hk=>Below.heap_setCell _ _ _ _ (fun e=>ad (by subst e;exact hk))⟩
   ·rw[Array.getElem?_setIfInBounds,if_neg (by omega)]
    exact c.c0
   ·rw[Array.getElem?_setIfInBounds,if_neg (by omega)]
    exact c.c1
   ·obtain⟨ae,E⟩:=ZaR c.recs hk
    rw[Below.heap_setCell _ _ _ _ (fun e=>c.neR S (by subst e;exact hk)),U k E.lt (c.neRP k hk)]
  ·refine(W.trans (G:=Zmv b rv pv) ?_ (fun _ _ K=>K)).setCell _ (fun _=>.inl rfl) _
   exact((Zap.refl _ a).alloc _).trans (Zap.ofGrown (F:=Zmv b rv pv) j fun k e _=>.inr (.inr e)) (fun _ _ K=>K)
  ·intro k hk
   rcases hk with hk | hk | hk
   ·exact .inl (.inl hk)
   ·exact .inl (.inr (.inl hk))
   ·rcases hv with hv | hv
    ·exact .inl (.inr (.inr (by rw[<-hv];exact hk)))
    ·rw[hv] at hk
     have:=Option.some.inj hk
     exact .inr (by omega))
 have I:Hid (a.ownsRow 0 108 3 (.slice L g.pcs.length R) g.pcs.length (Zau g.pcs)):=ZZ (by rw[<-C];exact c.pcs)
 have Y:Hid (g.pcs.length<=10000000):=ZZ (by omega)
 have q:=ZZ C;have N:=(h.blk.cell _ h.c2).1;have B:=(h.blk.cell _ h.c0);obtain⟨B,T⟩:=B;have Q:=(c.blk.cell _ c.c2).1;rw[C] at N Q;have Z:=ZZ p;have ai:(g.pcs.length:Int)<=1000000:=by omega
 clear C c V O W ab X n h p;by_cases l:g.pcs.length=0
 ·have af:((g.pcs.length:Int) == 0)=true:=by rw[beq_iff_eq];omega
  have A:Hid (a=w.setCell ⟨b,o,none⟩ (.int .i64 first)):=ZZ (by rw[Z.o,if_pos l])
  clear l
  go_enter func53,ntmps53
  go_upto_region 2 with fail
  rw[<-A.o];clear A B T N
  go_wp2_with(at_builtin;refine(fun(h:True->_)=>h trivial) ?_)
  intro _;refine ZcA a rfl _ _ rfl (.slice L g.pcs.length R) g.pcs rfl I.o (⟨name,first,first⟩:Pce) rfl Y.o ?_;intro d f i j hv;obtain⟨u,H,s2⟩:=M.o d f i (by rw[q.o];exact j) (by rw[q.o];exact hv)
  rw[q.o] at H;have J:=ZZ u;obtain⟨a9,c9,y⟩:=ZbW i;obtain⟨v,x⟩:∃ v,v=(g.pcs++[(⟨name,first,first⟩:Pce)]).length:=⟨_,rfl⟩;rw[<-x] at y;subst y;clear u i j hv x Q;go_wp2;go_end0;exact⟨rfl,J.o⟩
 ·have af:((g.pcs.length:Int) == 0)=false:=beq_eq_false_iff_ne.2 (by omega)
  have A:Hid (a=w):=ZZ (by rw[Z.o,if_neg l])
  clear l B T Q;rw[A.o] at M I
  go_enter func53,ntmps53
  go_wp2_with(at_builtin;refine(fun(h:True->_)=>h trivial) ?_)
  intro _;refine ZcA w rfl _ _ rfl (.slice L g.pcs.length R) g.pcs rfl I.o (⟨name,first,first⟩:Pce) rfl Y.o ?_;intro d f i j hv;obtain⟨u,H,s2⟩:=M.o d f i (by rw[q.o];exact j) (by rw[q.o];exact hv)
  rw[q.o] at H;have J:=ZZ u;obtain⟨a9,c9,y⟩:=ZbW i;obtain⟨v,x⟩:∃ v,v=(g.pcs++[(⟨name,first,first⟩:Pce)]).length:=⟨_,rfl⟩;rw[<-x] at y;subst y;clear u i j hv x N;go_wp2;go_end0;exact⟨rfl,J.o⟩
theorem Zlp:∀ (l:List Pce) (j:Nat) (p:Pce),j<l.length->Zau (l.set j p)=((((Zau l).set (j*3) (.int .i64 p.name)).set (j*3+1) (.int .i64 p.first)).set (j*3+2) (.int .i64 p.stop))
 | c::l,0,p,_=>by
  rw[List.set_cons_zero,Zau,Zau];rfl
 | c::l,j+1,p,hj=>by
  have a:=Zlp l j p (by simpa using hj)
  rw[List.set_cons_succ,Zau,a,Zau];have e:(j+1)*3=(j*3)+1+1+1:=by omega
  rw[e];rfl
theorem ZpX {l:List Pce} (h:w.ownsRow 0 108 3 v l.length (Zau l)) (j:Nat) (m:j<l.length) (x:Int):
 ∃ g cap,v=.slice (some ⟨g,0,none⟩) l.length cap∧g<w.heap.size∧l.length<=cap∧w.cell? ⟨g,j*3+2,none⟩=some (.int .i64 (l.getD j Zce).stop)∧w.frozen? ⟨g,j*3+2,none⟩=false∧
  (w.setCell ⟨g,j*3+2,none⟩ (.int .i64 x)).ownsRow 0 108 3 v l.length (Zau (l.set j ⟨(l.getD j Zce).name,(l.getD j Zce).first,x⟩)):=by
 rcases h.2 with ⟨_,D⟩ | ⟨g,cap,cur,f,A,a,t,B,q,n⟩
 ·omega
 ·have c:∀ k,k<3->cur[j*3+k]?=(pcC (l.getD j Zce))[k]?:=fun k z=>by
   have b:=Zfw l j k m z;rw[<-n,List.getElem?_take,if_pos (by omega),Array.getElem?_toList] at b
   exact b
  refine⟨g,cap,f,(Array.getElem?_eq_some_iff.1 a).1,t,?_,frozen_of_row w g _ _ _ a,?_,.inr ⟨g,cap,cur.setIfInBounds (j*3+2) (.int .i64 x),f,A,heap_setCell_same w g _ _ _ _ a,t,B,by simpa using q,?_⟩⟩
  ·rw[cell_of_row w g _ _ _ _ a]
   exact c 2 (by decide)
  ·rw[Zdn,length_set]
  ·rw[Zlp l j _ m]
   have u:=c 0 (by decide)
   have b:=c 1 (by decide)
   rw[<-n];apply List.ext_getElem?;intro i;rw[List.getElem?_take];by_cases d:i<l.length*3
   ·rw[if_pos d,Array.getElem?_toList,Array.getElem?_setIfInBounds]
    simp only [List.getElem?_set,length_set,length_take,Array.length_toList,List.getElem?_take,d,if_true,Array.getElem?_toList];have C:cur.size=cap*3:=q;by_cases e:j*3+2=i
    ·subst e
     rw[if_pos rfl,if_pos rfl,if_pos (by omega),if_pos (by omega)]
    ·rw[if_neg e,if_neg e]
     by_cases y:j*3+1=i
     ·subst y
      rw[if_pos rfl,if_pos (by omega),b]
      rfl
     ·rw[if_neg y]
      by_cases p:j*3=i
      ·subst p
       rw[if_pos rfl,if_pos (by omega)]
       rw[Nat.add_zero] at u;rw[u];rfl
      ·rw[if_neg p]
   ·rw[if_neg d,List.getElem?_eq_none (by simp;omega)]
theorem Zxq (t:TypeId) (Y:t≠62) (az:t≠108) (b o:Nat) (cs:Array Value) (rv pv:Value) (g:Lgb) (vl:Value) (l:List Rec) (w:World) (h:Zlo t w b o cs rv pv g) (E:RdR w vl l) (ah:g.pcs.length≠0) (av:g.pcs.length<=1000000) (V:g.recs.length+l.length<=10000000)
 (N:∀ p ∈ g.pcs,0<=p.stop∧p.stop<=4611686018427387904):
 Calls prog 54 #[.pointer (some ⟨b,o,none⟩),vl] w fun e w'=>e=.returned (.tuple #[])∧ZhS t w b o cs rv pv (g.add l) w':=by
 obtain⟨la,lc,rfl,-⟩:=id E;obtain⟨Z,R,A⟩:=h.recs.shape;obtain⟨m,C⟩:∃ m,g.pcs.length=m+1:=⟨g.pcs.length-1,by omega⟩
 obtain⟨i,B⟩:∃ i,i=(g.pcs.getD m Zce).stop:=⟨_,rfl⟩
 have ab:0<=i∧i<=4611686018427387904:=by
  rw[B];refine N _ ?_;rw[show g.pcs.getD m Zce=g.pcs[m]'(by omega) by simp[List.getD,show m<g.pcs.length by omega]]
  exact getElem_mem _
 obtain⟨j,X,x,J,af,-,-,-⟩:=ZpX h.pcs m (by omega) 0
 -- behind the append,and the store of the records
 have aj:Hid (∀ d f,Zbq f 0 d (g.recs++l)->w.grownBy f rv.ownBlock->(d.ownBlock=rv.ownBlock∨d.ownBlock=some w.heap.size)->
  (f.cell? ⟨b,o+1,none⟩=some rv∧f.frozen? ⟨b,o+1,none⟩=false)∧
  ((f.setCell ⟨b,o+1,none⟩ d).cell? ⟨b,o+2,none⟩=some pv∧(f.setCell ⟨b,o+1,none⟩ d).cell? ⟨j,m*3+2,none⟩=some (.int .i64 i)∧(f.setCell ⟨b,o+1,none⟩ d).frozen? ⟨j,m*3+2,none⟩=false)∧
  ZhS t w b o cs rv pv (g.add l) (((f.setCell ⟨b,o+1,none⟩ d)).setCell ⟨j,m*3+2,none⟩ (.int .i64 (i+l.length)))):=ZZ (fun d f u v hv=>by
  have L:∀ k,k<w.heap.size->rv.ownBlock≠some k->f.heap[k]?=w.heap[k]?:=fun k hk ar=>v.block k hk (fun e=>ar e.symm)
  have z:Bk t f b cs:=h.blk.keep (L b h.blk.lt (h.neR Y));have y:pv.ownBlock=some j:=by rw[x];rfl
  have I:j≠b:=fun e=>h.neP az (by rw[y,e])
  have au:rv.ownBlock≠some j:=fun e=>h.neRP j e y
  have S:(f.setCell ⟨b,o+1,none⟩ d).ownsRow 0 108 3 pv g.pcs.length (Zau g.pcs):=Zae h.pcs fun k hk=>by
   have e:k=j:=by rw[y] at hk;exact(Option.some.inj hk).symm
   subst e;rw[Below.heap_setCell _ _ _ _ I,L _ J au]
  obtain⟨g',aG,P,-,-,O,aa,ao⟩:=ZpX S m (by omega) (i+l.length)
  have eg:g'=j:=by
   rw[x] at P
   injection P with q _ _
   injection q with q
   injection q with q
   exact q.symm
  subst eg;rw[<-B] at O
  have ad:d.ownBlock≠some b:=fun e=>by
   obtain⟨am,G⟩:=ZaR u e;exact(z.ne G Y) rfl
  have ae:d.ownBlock≠some g':=fun e=>by
   obtain⟨am,G⟩:=ZaR u e;obtain⟨ak,al⟩:=ZaR S y
   have ai:Bk 108 f g' ak:=by
    have:=al;unfold Bk at this ⊢;rw[Below.heap_setCell _ _ _ _ I] at this;exact this
   exact(G.ne ai (by decide)) rfl
  refine⟨⟨(z.cell _ h.c1).1,(z.cell _ h.c1).2⟩,⟨?_,O,aa⟩,d,pv,?_,?_,?_⟩
  ·refine((z.set (o+1) d).cell _ ?_).1
   rw[Array.getElem?_setIfInBounds,if_neg (by omega)]
   exact h.c2
  ·have an:((cs.setIfInBounds o (.int .i64 (g.add l).first)).setIfInBounds (o+1) d).setIfInBounds (o+2) pv=cs.setIfInBounds (o+1) d:=by
    have q:(g.add l).first=g.first:=rfl;rw[q,ZhT h.c0];exact ZhT (by rw[Array.getElem?_setIfInBounds,if_neg (by omega)];exact h.c2)
   rw[an];have aw:o+1<cs.size:=(Array.getElem?_eq_some_iff.1 h.c1).1;refine⟨(z.set _ _).other _ _ _ (fun e=>I e.symm),?_,by simp[aw],?_,Zae u fun k hk=>?_,?_⟩
   ·rw[Array.getElem?_setIfInBounds,if_neg (by omega)]
    exact h.c0
   ·rw[Array.getElem?_setIfInBounds,if_neg (by omega)]
    exact h.c2
   ·rw[Below.heap_setCell _ _ _ _ (fun e=>ae (by subst e;exact hk)),Below.heap_setCell _ _ _ _ (fun e=>ad (by subst e;exact hk))]
   ·have e3:(g.add l).pcs=g.pcs.set m ⟨(g.pcs.getD m Zce).name,(g.pcs.getD m Zce).first,i+l.length⟩:=by
     show ZbY g.pcs l.length=_;unfold ZbY;rw[C,Nat.add_sub_cancel,<-B]
    rw[e3,length_set];exact ao
  ·exact((Zap.ofGrown (F:=Zmv b rv pv) v fun k e _=>.inr (.inl e)).setCell _ (fun _=>.inl rfl) _).setCell _ (fun _=>.inr (.inr y)) _
  ·intro k hk
   rcases hk with hk | hk | hk
   ·exact .inl (.inl hk)
   ·rcases hv with hv | hv
    ·exact .inl (.inr (.inl (by rw[<-hv];exact hk)))
    ·rw[hv] at hk
     have:=Option.some.inj hk;exact .inr (by omega)
   ·exact .inl (.inr (.inr hk)))
 have ap:Hid (Zbq w 0 (.slice Z g.recs.length R) g.recs):=ZZ (by rw[<-A];exact h.recs)
 have ag:=ZZ E;have D:=ZZ A;have aC:=ZZ x;have aq:=ZZ V;obtain⟨T,-⟩:=h.blk.cell _ h.c1;rw[A] at T;have hw:IntKind.i64.wrap (i+(l.length:Int))=i+l.length:=by rw[IntKind.wrap_i64];omega
 have aA:(m:Int)<=1000000:=by omega
 have ac:g.pcs.length=m+1:=C;have ay:Hid (pv=.slice (some ⟨j,0,none⟩) (m+1) X):=ZZ (by rw[x,C])
 have aB:(l.length:Int)<=10000000:=by omega
 obtain⟨aD,aE⟩:=ab;have aF:m+1<=X:=by omega
 clear A x h E N B ah av V C ac af J
 go_enter func54,ntmps54
 go_wp2_with(at_builtin;refine(fun(h:True->_)=>h trivial) ?_)
 intro _;refine ZeD w rfl _ _ rfl (.slice Z g.recs.length R) g.recs rfl ap.o _ l rfl ag.o aq.o ?_;intro d f u v hv;obtain⟨⟨K,s1⟩,⟨M,u3,u4⟩,U⟩:=aj.o d f u (by rw[D.o];exact v) (by rw[D.o];exact hv)
 rw[D.o] at K;rw[ay.o] at M;have W:=ZZ U
 obtain⟨a9,n9,c9,ax⟩:∃ a n c,d=.slice a n c:=by
  obtain⟨a,c,hh⟩:=u.shape;exact⟨a,_,c,hh⟩
 subst ax;obtain⟨Q,H⟩:∃ Q,Q=f.setCell ⟨b,o+1,none⟩ (.slice a9 n9 c9):=⟨_,rfl⟩;rw[<-H] at M u3 u4 W;clear U u v hv T
 go_upto_region 1 with fail
 rw[<-H];clear H K s1
 go_region
 go_wp2;go_end0;exact⟨rfl,W.o.more (Below.refl _ _).drew⟩
theorem Zbq.empty (w:World) (B:Nat) (a:B<=w.heap.size):Zbq (w.alloc (.cells #[] 62)) B (.slice (some ⟨w.heap.size,0,none⟩) 0 0) []:=
 ⟨rfl,.inr ⟨w.heap.size,0,#[],rfl,a,heap_alloc_new w _,Nat.le_refl _,Nat.zero_le _,rfl,rfl⟩⟩
theorem Znj (v:Value) (l:List Rec) (w:World) (f:RdR w v l) (p:l.length<=1000000):
 Calls prog 44 #[v] w fun e w'=>∃ v',e=.returned v'∧Zbq w' w.heap.size v' l∧Below w.heap.size w w':=by
 have h:=ZZ f;obtain⟨ao,cap,rfl,m,-,b,-⟩:=f
 cases ao with
 | none=>
  obtain rfl:cap=0:=b rfl;obtain rfl:l=[]:=List.eq_nil_of_length_eq_zero (by omega)
  clear b m;have j:∀ w,(binOp .eql 29 (.slice none 0 0) (.slice none 0 0)).run prog w=.ok (.bool true) w:=fun w=>run_eql_slice_nil w _ _ none 0 0 underlying29
  go_enter func44,ntmps44
  go_wp2;go_ret;exact⟨_,rfl,Zbq.nil _ _,Below.refl _ _⟩
 | some a=>
  clear b;have j:∀ w,(binOp .eql 29 (.slice (some a) l.length cap) (.slice none 0 0)).run prog w=.ok (.bool false) w:=fun w=>run_eql_slice_nil w _ _ (some a) _ _ underlying29
  have d:Hid (∀ X,Below w.heap.size w (w.alloc X)):=fun X=>(Below.refl _ _).alloc zL X
  have k:Hid (Zbq (w.alloc (.cells #[] 62)) w.heap.size (.slice (some ⟨w.heap.size,0,none⟩) 0 0) []):=ZZ (Zbq.empty w _ zL)
  go_enter func44,ntmps44
  go_wp2_with(at_builtin;refine ZhQ _ rfl _ _ rfl w.heap.size _ [] rfl k.o _ l rfl (h.o.below (d.o _) zL) (by simp;omega) (by simp) ?_)
  intro t q c g;have n:=ZZ c;have i:=ZZ ((d.o _).trans g);clear c g;go_wp2;go_ret;exact⟨_,rfl,n.o,i.o⟩
theorem Zxr (w:World) (ao:Option Addr) (l:List Rec) (cap:Nat) (b:RdR w (.slice ao l.length cap) l) (i:Nat) (f:i<=l.length):
 ∃ a' c',RdR w (.slice a' (l.drop i).length c') (l.drop i)∧∀ x:Int,x=(i:Int)->∀ W,(Instr.sliceAt 29 (.slice ao l.length cap) (some (.int .i64 x)) none none).run prog W=.ok (.slice a' (l.drop i).length c') W:=by
 have d:l.length<=cap:=by
  obtain⟨a,c,e,h,-⟩:=b;simp only [Value.slice.injEq] at e;omega
 have h:=b.mid i l.length cap f zL d zL;rw[List.take_of_length_le (by rw[length_drop];omega)] at h
 unfold sliced at h;refine⟨_,_,by rw[length_drop];exact h,fun x g W=>?_⟩
 subst g;rw[run_sliceAt_slice W 29 _ _ _ _ Zgt,run_slice_l W 29 ao l.length cap Zgt .i64 (i:Int) (by omega) (by omega),ZkX,Ztq,length_drop]
 rfl
theorem Zzw (w:World) (ao:Option Addr) (l:List Rec) (cap:Nat) (b:RdR w (.slice ao l.length cap) l) (i j:Nat) (f:i<=j) (d:j<=l.length):
 ∃ a' c',RdR w (.slice a' (j-i) c') ((l.drop i).take (j-i))∧∀ x y:Int,x=(i:Int)->y=(j:Int)->∀ W,(Instr.sliceAt 29 (.slice ao l.length cap) (some (.int .i64 x)) (some (.int .i64 y)) none).run prog W=.ok (.slice a' (j-i) c') W:=by
 have m:l.length<=cap:=by
  obtain⟨a,c,e,h,-⟩:=b;simp only [Value.slice.injEq] at e;omega
 have h:=b.mid i j cap f d (by omega) zL
 unfold sliced at h;refine⟨_,_,h,fun x y g k W=>?_⟩
 subst g k;rw[run_sliceAt_slice W 29 _ _ _ _ Zgt,run_slice_lh W 29 ao l.length cap Zgt .i64 .i64 (i:Int) (j:Int) (by omega) (by omega) (by omega),ZkX,Ztq]
 rfl
theorem ZeO.toLog (h:ZeO M I w p pd L s):Zlo 76 w p 1 (stC pd L s) L.rv L.pv s.log:=
 ⟨h.head,rfl,rfl,rfl,h.recs,h.pcs⟩
theorem ZeO.logF (h:ZeO M I w p pd L s):∀ k,Zmv p L.rv L.pv k->M k:=fun k hk=>by
 rcases hk with rfl | hk | hk
 ·exact h.mh
 ·exact h.mr k hk
 ·exact h.mp k hk
theorem ZeO.ofLog (h:ZeO M I w p pd L s) (v:ZhS 76 w p 1 (stC pd L s) L.rv L.pv g w'):
 ∃ M' L',ZeO M' I w' p pd L' { s with log:=g }∧L'.nl=L.nl∧L'.nt=L.nt∧Zap M w w'∧∀ k,M' k->M k∨w.heap.size<=k:=by
 obtain⟨d,c,b,q,n⟩:=v;have e:Zap M w w':=q.mono h.logF;have l:∀ k,I k->w'.heap[k]?=w.heap[k]?:=fun k hk=>e.block k (h.ltI k hk) fun b=>h.dis k b hk
 have t:((((stC pd L s).setIfInBounds 1 (.int .i64 g.first)).setIfInBounds (1+1) d).setIfInBounds (1+2) c)=stC pd { L with rv:=d,pv:=c } { s with log:=g }:=rfl
 rw[t] at b
 have z:∀ k,Zmv p d c k->k<w'.heap.size:=fun k hk=>by
  rcases hk with rfl | hk | hk
  ·exact b.blk.lt
  ·obtain⟨i,a⟩:=ZaR b.recs hk
   exact a.lt
  ·obtain⟨i,a⟩:=ZaR b.pcs hk
   exact a.lt
 have u:∀ k,L.bv.ownBlock=some k->¬ Zmv p L.rv L.pv k:=fun k hk hl=>by
  obtain⟨i,a⟩:=ZaR h.bases hk;rcases hl with rfl | hl | hl
  ·exact(a.ne h.head (by decide)) rfl
  ·obtain⟨y,f⟩:=ZaR h.recs hl
   exact(a.ne f (by decide)) rfl
  ·obtain⟨y,f⟩:=ZaR h.pcs hl
   exact(a.ne f (by decide)) rfl
 refine⟨fun k=>M k∨Zmv p d c k,{ L with rv:=d,pv:=c },⟨b.blk,b.recs,b.pcs,Zae h.bases fun k hk=>?_,h.bsEq,h.now.keep h.inow l,fun x m=>(h.base x m).keep (h.ibase x m) l,.inr (.inl rfl),fun k hk=>.inr (.inr (.inl hk)),fun k hk=>.inr (.inr (.inr hk)),fun k hk=>.inl (h.mb k hk),h.inow,h.ibase,fun k hk=>?_,fun k hk=>Nat.lt_of_lt_of_le (h.ltI k hk) e.size,fun k hk j=>?_⟩,rfl,rfl,e,fun k hk=>?_⟩
 ·obtain⟨i,a⟩:=ZaR h.bases hk
  exact q.block k a.lt (u k hk)
 ·rcases hk with hk | hk
  ·exact Nat.lt_of_lt_of_le (h.ltM k hk) e.size
  ·exact z k hk
 ·rcases hk with hk | hk
  ·exact h.dis k hk j
  ·rcases n k hk with h1 | h1
   ·exact h.dis k (h.logF k h1) j
   ·have:=h.ltI k j
    omega
 ·rcases hk with hk | hk
  ·exact .inl hk
  ·rcases n k hk with h1 | h1
   ·exact .inl (h.logF k h1)
   ·exact .inr h1
theorem ZuU {l:List Pce} (h:w.ownsRow 0 108 3 v l.length (Zau l)) (c:0<l.length):
 ∃ g cap,v=.slice (some ⟨g,0,none⟩) l.length cap∧w.cell? ⟨g,1,none⟩=some (.int .i64 (l.getD 0 Zce).first):=by
 rcases h.2 with ⟨_,j⟩ | ⟨g,cap,cur,b,m,e,k,f,i,d⟩
 ·omega
 ·refine⟨g,cap,b,?_⟩
  have a:=Zfw l 0 1 c (by decide)
  rw[<-d,List.getElem?_take,if_pos (by omega),Array.getElem?_toList] at a
  rw[cell_of_row w g _ _ _ _ e];exact a
theorem Zbq.own0 {l:List Rec} (h:Zbq w B v l):Zbq w 0 v l:=h.mono (Nat.zero_le _)
theorem Zbq.freshR {l:List Rec} (h:Zbq w B v l):∀ b,v.ownBlock=some b->B<=b∧b<w.heap.size:=fun b a=>World.ownsRow.lt h b a
theorem Zxs (t:TypeId) (ao:t≠108) (b o:Nat) (cs:Array Value) (rv pv:Value) (g:Lgb) (l:Value) (left:List Pce) (base:Int) (w:World) (h:Zlo t w b o cs rv pv g) (A:w.ownsRow 0 108 3 l left.length (Zau left))
 (ap:left.length<=1000000) (ar:g.recs.length<=1000000) (am:∀ r ∈ g.recs,Zga r) (an:g.first<=ZbK left base) (ag:ZbK left base<=g.first+g.recs.length) (aw:0<=g.first) (aA:g.first+g.recs.length<=4611686018427387904):
 Calls prog 70 #[.pointer (some ⟨b,o,none⟩),l,.int .i64 base] w fun e w'=>e=.returned (.tuple #[])∧
  ∃ q,Zlo t w' b o (((cs.setIfInBounds o (.int .i64 (g.letGo left base).first)).setIfInBounds (o+1) q).setIfInBounds (o+2) l) q l (g.letGo left base)∧Zap (fun k=>k=b) w w'∧∀ k,q.ownBlock=some k->w.heap.size<=k:=by
 obtain⟨f,x⟩:∃ f,f=ZbK left base:=⟨_,rfl⟩;rw[<-x] at an ag;obtain⟨ra,rc,H⟩:=h.recs.shape;obtain⟨la,lc,K⟩:=ZbW A;have ab:=h.recs.rd am;rw[H] at ab;obtain⟨a',c',N,hcut⟩:=Zxr w ra g.recs rc ab (f-g.first).toNat (by omega)
 have az:=hcut (f-g.first) (by omega)
 obtain⟨d0,f0⟩:=h.blk.cell _ h.c0;obtain⟨R,f1⟩:=h.blk.cell _ h.c1;obtain⟨d2,f2⟩:=h.blk.cell _ h.c2;rw[H] at R;have aE:=ZZ N
 have y:Hid (∀ W,Below w.heap.size w W->(W.cell? ⟨b,o,none⟩=some (.int .i64 g.first)∧W.cell? ⟨b,o+1,none⟩=some (.slice ra g.recs.length rc))∧(W.frozen? ⟨b,o,none⟩=false∧W.frozen? ⟨b,o+1,none⟩=false∧W.frozen? ⟨b,o+2,none⟩=false)∧W.cell? ⟨b,o+2,none⟩=some pv):=ZZ (fun W u=>by
  have j:=h.blk.keep (u.block b h.blk.lt)
  exact⟨⟨(j.cell _ h.c0).1,by rw[<-H];exact(j.cell _ h.c1).1⟩,⟨(j.cell _ h.c0).2,(j.cell _ h.c1).2,(j.cell _ h.c2).2⟩,(j.cell _ h.c2).1⟩)
 have aj:Hid (Below w.heap.size w w.drew):=ZZ ((Below.refl _ _).drew)
 have M:Hid (∀ W,Below w.heap.size w W->Calls prog 44 #[.slice a' (g.recs.drop (f-g.first).toNat).length c'] W fun e w'=>∃ v',e=.returned v'∧Zbq w' w.heap.size v' (g.recs.drop (f-g.first).toNat)∧Below w.heap.size w w'):=ZZ (fun W I=>(Znj _ _ W (N.below I zL) (by rw[length_drop];omega)).mono (by
  rintro e w' ⟨v',rfl,C,u⟩
  exact⟨v',rfl,C.mono I.size,I.trans (u.mono I.size)⟩))
 have X:Hid (∀ i d,Zbq d w.heap.size i (g.recs.drop (f-g.first).toNat)->Below w.heap.size w d->
  ∃ q,Zlo t (((d.setCell ⟨b,o+1,none⟩ i).setCell ⟨b,o,none⟩ (.int .i64 f)).setCell ⟨b,o+2,none⟩ l) b o (((cs.setIfInBounds o (.int .i64 (g.letGo left base).first)).setIfInBounds (o+1) q).setIfInBounds (o+2) l) q l (g.letGo left base)∧Zap (fun k=>k=b) w (((d.setCell ⟨b,o+1,none⟩ i).setCell ⟨b,o,none⟩ (.int .i64 f)).setCell ⟨b,o+2,none⟩ l)∧∀ k,q.ownBlock=some k->w.heap.size<=k):=ZZ (fun i d C u=>by
  have j:=h.blk.keep (u.block b h.blk.lt);have J:(g.letGo left base).first=f:=x.symm;have av:o<cs.size:=(Array.getElem?_eq_some_iff.1 h.c0).1;have au:o+1<cs.size:=(Array.getElem?_eq_some_iff.1 h.c1).1;have ay:o+2<cs.size:=(Array.getElem?_eq_some_iff.1 h.c2).1
  have aq:(((cs.setIfInBounds (o+1) i).setIfInBounds o (.int .i64 f)).setIfInBounds (o+2) l)=(((cs.setIfInBounds o (.int .i64 f)).setIfInBounds (o+1) i).setIfInBounds (o+2) l):=by
   congr 1
   exact Array.setIfInBounds_comm _ _ (by omega)
  have ae:∀ k,k≠b->(((d.setCell ⟨b,o+1,none⟩ i).setCell ⟨b,o,none⟩ (.int .i64 f)).setCell ⟨b,o+2,none⟩ l).heap[k]?=d.heap[k]?:=fun k p=>by
   rw[Below.heap_setCell _ _ _ _ p,Below.heap_setCell _ _ _ _ p,Below.heap_setCell _ _ _ _ p]
  refine⟨i,?_,?_,fun k p=>(C.freshR k p).1⟩
  ·rw[J,<-aq]
   refine⟨((j.set _ _).set _ _).set _ _,?_,?_,?_,Zae (show d.ownsRow 0 62 7 i (g.letGo left base).recs.length (Zan (g.letGo left base).recs) from by show Zbq d 0 i (g.recs.drop (ZbK left base-g.first).toNat);rw[<-x];exact C.own0) fun k p=>ae k (fun e=>?_),Zae A fun k p=>?_⟩
   ·rw[Array.getElem?_setIfInBounds,if_neg (by omega),Array.getElem?_setIfInBounds,if_pos rfl,if_pos (by simpa using av),J]
   ·rw[Array.getElem?_setIfInBounds,if_neg (by omega),Array.getElem?_setIfInBounds,if_neg (by omega),Array.getElem?_setIfInBounds,if_pos rfl,if_pos au]
   ·rw[Array.getElem?_setIfInBounds,if_pos rfl,if_pos (by simpa using ay)]
   ·subst e
    have:=(C.freshR _ p).1;have:=h.blk.lt;omega
   ·obtain⟨aB,ah⟩:=ZaR A p
    rw[ae k (ah.ne h.blk (fun e=>ao e.symm)),u.block k ah.lt]
  ·exact(((Zap.ofBelow (F:=fun k=>k=b) u).setCell (b:=b) _ (fun _=>rfl) _).setCell (b:=b) _ (fun _=>rfl) _).setCell (b:=b) _ (fun _=>rfl) _)
 have hw:IntKind.i64.wrap (f-g.first)=f-g.first:=by rw[IntKind.wrap_i64];omega
 obtain⟨n1,ai⟩:∃ n1,n1=(g.recs.drop (f-g.first).toNat).length:=⟨_,rfl⟩;rw[<-ai] at az M
 obtain⟨pa,pn,pc,ak⟩:∃ a n c,pv=.slice a n c:=by
  obtain⟨a,c,B⟩:=ZbW h.pcs;exact⟨a,_,c,B⟩
 rw[ak] at y d2;have ax:-9223372036854775808<=f-g.first∧f-g.first<=9223372036854775807:=by omega
 have ac:Hid (left.length≠0->∃ G af,l=.slice (some ⟨G,0,none⟩) left.length af∧w.cell? ⟨G,1,none⟩=some (.int .i64 f)):=ZZ (fun m=>by
  obtain⟨G,cap,J,e2⟩:=ZuU A (by omega)
  have e3:f=(left.getD 0 Zce).first:=by rw[x];unfold ZbK;rw[if_neg m]
  exact⟨G,cap,J,by rw[e3];exact e2⟩)
 have Y:Hid (left.length=0->base=f):=ZZ (fun m=>by rw[x];unfold ZbK;rw[if_pos m])
 obtain⟨aG,aC⟩:=ax;clear H N hcut h A x am ab ai an ag aw aA ar ak d2 f2 ao;by_cases m:left.length=0
 ·have al:decide ((left.length:Int)>0)=false:=decide_eq_false (by omega)
  obtain rfl:=Y.o m;rw[m] at K al;subst K;clear m ac Y ap
  go_enter func70,ntmps70
  go_upto_region 3 with fail
  go_cut[] (fun wc=>Hid (∃ i d,wc=d.setCell ⟨b,o+1,none⟩ i∧Zbq d w.heap.size i (g.recs.drop (base-g.first).toNat)∧Below w.heap.size w d))
  case first=>
   go_region_with
    (first | (go_at_call 44;refine(M.o _ (by first | exact aj.o | exact Below.refl _ _)).mono ?_;rintro e Z ⟨V,rfl,v,D⟩;have ad:=ZZ v;have E:=ZZ D;obtain⟨z1,z2,z3,Q⟩:∃ a n c,V=Value.slice a n c:=(by obtain⟨a,c,B⟩:=v.shape;exact⟨a,_,c,B⟩);subst Q;obtain⟨⟨q0,O⟩,⟨S,T,L⟩,-⟩:=y.o Z E.o;clear v D))
   all_goals
    go_wp2_with fail
    go_meet
    exact ZZ ⟨_,_,rfl,ad.o,E.o⟩
  case rest=>
   obtain⟨i,d,aa,z,j⟩:=hcut.out;subst aa;have U:=ZZ (X.o i d z j);obtain⟨⟨q0,O⟩,⟨S,T,L⟩,q2⟩:=y.o d j;clear hcut z j d0 R f0 f1;go_wp2;go_end0;exact⟨rfl,U.o⟩
 ·have al:decide ((left.length:Int)>0)=true:=decide_eq_true (by omega)
  have aH:(0:Int)<(left.length:Int):=by omega
  obtain⟨G,af,P,aF⟩:=ac.o m;rw[P] at X;rw[P];clear m ac Y K P;have aD:(left.length:Int)<=1000000:=by omega
  generalize left.length=ln at *
  go_enter func70,ntmps70
  go_upto_region 3 with fail
  go_cut[] (fun wc=>Hid (∃ i d,wc=d.setCell ⟨b,o+1,none⟩ i∧Zbq d w.heap.size i (g.recs.drop (f-g.first).toNat)∧Below w.heap.size w d))
  case first=>
   go_region_with
    (first | (go_at_call 44;refine(M.o _ (by first | exact aj.o | exact Below.refl _ _)).mono ?_;rintro e Z ⟨V,rfl,v,D⟩;have ad:=ZZ v;have E:=ZZ D;obtain⟨z1,z2,z3,Q⟩:∃ a n c,V=Value.slice a n c:=(by obtain⟨a,c,B⟩:=v.shape;exact⟨a,_,c,B⟩);subst Q;obtain⟨⟨q0,O⟩,⟨S,T,L⟩,-⟩:=y.o Z E.o;clear v D))
   all_goals
    go_wp2_with fail
    go_meet
    exact ZZ ⟨_,_,rfl,ad.o,E.o⟩
  case rest=>
   obtain⟨i,d,aa,z,j⟩:=hcut.out;subst aa;have U:=ZZ (X.o i d z j);obtain⟨⟨q0,O⟩,⟨S,T,L⟩,q2⟩:=y.o d j;clear hcut z j d0 R f0 f1;go_wp2;go_end0;exact⟨rfl,U.o⟩
theorem ZpY (a b:Int) (w:World) (h:ZeO M I w p pd L s) (x:ZrZ s) (O:∀ r ∈ s.log.recs,Zga r) (ac:s.log.recs.length<=1000000):
 Calls prog 17 #[ptr p,.int .i64 a,.int .i64 b] w fun e w'=>∃ v,e=.returned (.tuple #[v,.int .i64 (ZjQ s a b).2])∧Zbq w' w.heap.size v (ZjQ s a b).1∧Below w.heap.size w w':=by
 have u:=ZZ (fun W (j:Below w.heap.size w W)=>Zlk W (h.below j) x)
 have C:=ZZ (fun W (j:Below w.heap.size w W)=>Zng W (h.below j))
 unfold ZjQ;obtain⟨nx,d⟩:∃ nx,nx=s.next:=⟨_,rfl⟩;obtain⟨f,c⟩:∃ f,f=s.log.first:=⟨_,rfl⟩;have n:nx=f+s.log.recs.length:=by rw[d,c];rfl
 rw[<-d] at u ⊢;rw[<-c] at C ⊢;have k:=x.f0;have m:=x.f1;rw[<-c] at k;rw[<-d] at m;by_cases V:a<0
 ·rw[if_pos (.inl V)]
  clear d c n k m h
  go_enter func17,ntmps17
  go_wp2;go_ret2;exact⟨_,rfl,Zbq.nil _ _,Below.refl _ _⟩
 by_cases Y:b<a
 ·rw[if_pos (.inr (.inl Y))]
  clear d c n k m h
  go_enter func17,ntmps17
  go_wp2;go_ret2;exact⟨_,rfl,Zbq.nil _ _,Below.refl _ _⟩
 by_cases g3:nx<b
 ·rw[if_pos (.inr (.inr g3))]
  clear d c n k m h
  go_enter func17,ntmps17
  go_wp2_with fail
  refine(u.o _ (Below.refl _ _)).mono ?_;rintro e t ⟨rfl,g⟩;have i:=ZZ g;clear g;go_wp2;go_ret2;exact⟨_,rfl,Zbq.nil _ _,i.o⟩
 rw[if_neg (by omega)]
 by_cases F:a<f
 ·rw[if_pos F]
  clear d c n k m h
  go_enter func17,ntmps17
  go_wp2_with fail
  refine(u.o _ (Below.refl _ _)).mono ?_;rintro e t ⟨rfl,g⟩;have i:=ZZ g;clear g
  go_wp2_with fail
  refine(C.o _ i.o).mono ?_;rintro e X ⟨rfl,rfl⟩;go_wp2;go_ret2;exact⟨_,rfl,Zbq.nil _ _,i.o⟩
 rw[if_neg F];obtain⟨A,B,z⟩:=h.recs.shape;have D:=h.recs.rd O;rw[z] at D;obtain⟨a',c',y,hcut⟩:=Zzw w A s.log.recs B D (a-f).toNat (b-f).toNat (by omega) (by omega)
 have U:=hcut (a-f) (b-f) (by omega) (by omega)
 have G:Hid ((s.log.recs.drop (a-f).toNat).take ((b-f).toNat-(a-f).toNat)=(s.log.recs.take (b-f).toNat).drop (a-f).toNat):=ZZ (by rw[List.drop_take])
 rw[G.o] at y;generalize (s.log.recs.take (b-f).toNat).drop (a-f).toNat=l at *
 have Q:Hid (∀ W,Below w.heap.size w W->Calls prog 44 #[.slice a' ((b-f).toNat-(a-f).toNat) c'] W fun e w'=>∃ v',e=.returned v'∧Zbq w' w.heap.size v' l∧Below w.heap.size w w'):=ZZ (fun W q=>(Znj _ _ W (y.below q zL) (by
  obtain⟨_,_,e,-⟩:=y
  injection e with _ e _
  omega)).mono (by
  rintro e w' ⟨v',rfl,ho,j⟩
  exact⟨v',rfl,ho.mono q.size,q.trans (j.mono q.size)⟩))
 have R:Hid (∀ W,Below w.heap.size w W->W.cell? ⟨p,1,none⟩=some (.int .i64 f)∧W.cell? ⟨p,2,none⟩=some (.slice A s.log.recs.length B)):=ZZ (fun W j=>by
  obtain⟨-,T,E,-⟩:=(h.below j).cs;rw[z] at E;rw[c]
  exact⟨T,E⟩)
 have ag:IntKind.i64.wrap (a-f)=a-f:=by rw[IntKind.wrap_i64];omega
 have ad:IntKind.i64.wrap (b-f)=b-f:=by rw[IntKind.wrap_i64];omega
 have Z:-9223372036854775808<=a-f∧a-f<=9223372036854775807:=by omega
 have aa:-9223372036854775808<=b-f∧b-f<=9223372036854775807:=by omega
 obtain⟨af,ai⟩:=Z;obtain⟨ah,ae⟩:=aa;obtain⟨P,K⟩:∃ P,P=(b-f).toNat-(a-f).toNat:=⟨_,rfl⟩;rw[<-K] at U Q;clear d c n k m h y hcut D z K G O x
 go_enter func17,ntmps17
 go_wp2_with fail
 refine(u.o _ (Below.refl _ _)).mono ?_;rintro e t ⟨rfl,g⟩;have i:=ZZ g;clear g
 go_wp2_with fail
 refine(C.o _ i.o).mono ?_;rintro e t ⟨rfl,rfl⟩;have N:Hid (Below w.heap.size w t.drew):=ZZ (i.o.drew)
 go_upto_region 5 with fail
 go_region_held(fun W=>W.cell? ⟨p,1,none⟩=some (.int .i64 f)∧W.cell? ⟨p,2,none⟩=some (.slice A s.log.recs.length B))
  (first | (with_reducible exact R.o _ N.o) | (with_reducible exact R.o _ S.o))
  (first | (go_at_call 44;refine(Q.o _ N.o).mono ?_;rintro e X ⟨v2,rfl,J,H⟩;have ab:=ZZ J;have S:=ZZ H;clear J H))
 all_goals
  go_wp2;go_ret2;exact⟨_,rfl,ab.o,S.o⟩
theorem ZAR (w:World) (h:ZeO M I w p pd L s) (aa:s.now.st.L.length<=1000000) (ab:s.now.tab.length<=1000000):
 Calls prog 21 #[ptr p] w fun e w'=>ZAP w s.now e w':=by
 obtain⟨c,f⟩:∃ c,c=w.alloc (.cells #[.int .i64 0,.int .i64 0,.slice none 0 0,.bool false,.int .i64 0,.slice none 0 0] 41):=⟨_,rfl⟩;have m:Hid (Below w.heap.size w c):=ZZ (by rw[f];exact ZcW _ _)
 have A:Hid (Bn c w.heap.size #[.int .i64 0,.int .i64 0,.slice none 0 0,.bool false,.int .i64 0,.slice none 0 0]):=ZZ (by rw[f];exact heap_alloc_new w _)
 have n:=ZZ (h.below m.o);obtain⟨-,-,-,-,-,⟨c5,c6,T,c8,c9,P⟩,-⟩:=n.o.cs;have j:=ZZ (ZuT (L.nx s) c n.o.now aa ab);obtain⟨K,ln,lc,z,Z,U,R,W⟩:=n.o.now.shape;have q:L.nl=.slice K ln lc:=R;have x:L.nt=.slice z Z U:=W;rw[q] at T;rw[x] at P
 have Y:Hid (snV (L.nx s)=.agg #[.int .i64 s.now.idx,.int .i64 s.now.st.kind,.slice K ln lc,.bool s.now.st.shut,.int .i64 s.now.st.eng,.slice z Z U]):=ZZ (by
  unfold snV snC Zhf.nx
  dsimp only
  rw[q,x])
 rw[Y.o] at j;have E:(L.nx s).1=s.now:=rfl;rw[E] at j;clear h R W q x Y n E
 go_enter func21,ntmps21
 go_upto_region 1 with fail
 rw[<-f];clear f
 go_wp2_with fail
 refine j.o.mono ?_;rintro e W1 ⟨vl,vt,rfl,u,Q,X,y⟩;have ac:=ZZ (m.o.trans (y.mono m.o.size));have d:=ZZ u;have g:=ZZ (And.intro Q X);have a:=A.o.below y zL;have V:=ZZ m.o.size;obtain⟨z0,y0⟩:=a.cell 0;obtain⟨z1,y1⟩:=a.cell 1;obtain⟨z2,y2⟩:=a.cell 2;obtain⟨z3,y3⟩:=a.cell 3;obtain⟨z4,y4⟩:=a.cell 4;obtain⟨z5,y5⟩:=a.cell 5;obtain⟨G,S,xc,O,H,F,D,J⟩:=u.shape
 dsimp only at D J
 subst D J;have B:w.heap.size<c.heap.size:=A.o.lt;have N:=ZZ B;unfold snV snC
 dsimp only
 clear y a c5 c6 T c8 c9 P u Q X j B;go_wp2;refine bodyPost_ret (v:=.agg #[.int .i64 s.now.idx,.int .i64 s.now.st.kind,.slice G S xc,.bool s.now.st.shut,.int .i64 s.now.st.eng,.slice O H F]) (by simp[results,Tryz.results21,go_sem,z0,z1,z2,z3,z4,z5]) rfl ?_
 have C:=Ztp W1 w.heap.size (.int .i64 s.now.idx) (.int .i64 s.now.st.kind) (.slice G S xc) (.bool s.now.st.shut) (.int .i64 s.now.st.eng) (.slice O H F);refine⟨_,_,rfl,⟨d.o.l.but C (.inr fun b h=>?_),d.o.t.but C (.inr fun b h=>?_),d.o.k,d.o.e,d.o.i⟩,fun b h=>?_,fun b h=>?_,ZhM ac.o _ (by omega) _ _ _ _ _ _⟩
 ·have:=g.o.1 b h
  have:=N.o;omega
 ·have:=g.o.2 b h
  have:=N.o;omega
 ·exact Nat.le_trans V.o (g.o.1 b h)
 ·exact Nat.le_trans V.o (g.o.2 b h)
structure Stp where
 g:Nat
 bd:Array Value
 cp:Array Value
def Stp.val (s:Stp):Value:=.func (.func s.g) s.bd s.cp
theorem ZpZ (b A cap:Nat) (n:Nat) (fs:Nat->Stp) (w:World) (P:Nat->World->Prop) (Q:Int->World->Prop) (S:n<=1000000)
 (C:∀ i W,i<n->P i W->W.cell? ⟨b,A+i,none⟩=some (fs i).val)
 (v:∀ i W,i<n->P i W->Calls prog (fs i).g ((fs i).bd++(fs i).cp) W fun e w'=>∃ c:Int,e=.returned (.int .i64 c)∧(c=0->P (i+1) w')∧(c≠0->Q c w'))
 (E:∀ i,i<n->∀ args W,(callFunc (fs i).g args).run prog W=.ok (.enter (fs i).g args) W) (D:P 0 w):
 Calls prog 62 #[.slice (some ⟨b,A,none⟩) n cap] w fun e w'=>∃ c:Int,e=.returned (.int .i64 c)∧(c=0->P n w')∧(c≠0->Q c w'):=by
 have y:=ZZ C;have z:=ZZ v;have B:=ZZ E;have O:(n:Int)<=1000000:=by omega
 clear C v E;have H:=ZZ D;clear D
 go_enter func62,ntmps62
 go_wp2
 go_loopw[8] (fun k wr=>∃ i:Nat,k=.int .i64 (i:Int)∧i<=n∧Hid (P i wr)) (fun k _=>n-(intOf k).toNat)
 case atStart=>exact⟨0,rfl,Nat.zero_le _,H⟩
 case round=>
  clear H;obtain⟨i,rfl,R,d⟩:=hrel;by_cases m:i<n
  case neg=>
   obtain rfl:i=n:=by omega
   go_wp2;go_ret;exact⟨0,rfl,fun _=>d.o,fun h=>absurd rfl h⟩
  have f:=y.o i wr m d.o;have j:=ZZ (z.o i wr m d.o);have q:=B.o i m;unfold Stp.val at f;obtain⟨g,l⟩:∃ g,g=(fs i).g:=⟨_,rfl⟩;obtain⟨u,x⟩:∃ u,u=(fs i).bd:=⟨_,rfl⟩;obtain⟨F,G⟩:∃ F,F=(fs i).cp:=⟨_,rfl⟩;rw[<-l,<-x,<-G] at f j;rw[<-l] at q;have L:(i:Int)<(n:Int):=by omega
  clear d l x G y z B
  go_wp2_with fail
  refine j.o.mono ?_;rintro e N ⟨c,rfl,t,p⟩;by_cases a:c=0
  ·subst a
   have J:=ZZ (t rfl);clear t p f q j;go_wp2;go_roundw
   case rel=>exact⟨i+1,by go_num,by omega,J⟩
   case measure=>simp[intOf];omega
  ·have K:=ZZ (p a)
   have M:(c != 0)=true:=by rw[bne_iff_ne];exact a
   have I:=ZZ a;clear t p f q j a;go_wp2;go_ret;exact⟨c,rfl,fun h=>absurd h I.o,fun _=>K.o⟩
theorem ZeO.setHead (h:ZeO M I w p pd L s) (j:Nat) (x:Value) (i:s'.log=s.log) (q:s'.bases=s.bases) (A:s'.now=s.now) (D:(stC pd L s).setIfInBounds j x=stC pd L s'):
 ZeO M I (w.setCell ⟨p,j,none⟩ x) p pd L s':=by
 have b:∀ k,k≠p->(w.setCell ⟨p,j,none⟩ x).heap[k]?=w.heap[k]?:=fun k b=>Below.heap_setCell _ _ _ _ b
 have d:∀ {t:TypeId} {n sz g:Nat} {v:Value} {xs:List Value},w.ownsRow 0 t sz v n xs->v.ownBlock=some g->t≠76->g≠p:=fun C a u=>by
  obtain⟨E,z⟩:=ZaR C a;exact z.ne h.head u
 have f:∀ k,I k->(w.setCell ⟨p,j,none⟩ x).heap[k]?=w.heap[k]?:=fun k B=>b k fun e=>h.dis p h.mh (by rw[<-e];exact B)
 have l:L.nx s'=L.nx s:=by unfold Zhf.nx;rw[A]
 refine⟨by rw[<-D];exact h.head.set j x,?_,?_,Zae h.bases fun g a=>b g (d h.bases a (by decide)),by rw[q];exact h.bsEq,by rw[l];exact h.now.keep h.inow f,fun y m=>(h.base y m).keep (h.ibase y m) f,h.mh,h.mr,h.mp,h.mb,by rw[l];exact h.inow,h.ibase,fun k c=>by simpa using h.ltM k c,fun k c=>by simpa using h.ltI k c,h.dis⟩
 ·rw[i]
  exact Zae h.recs fun g a=>b g (d h.recs a (by decide))
 ·rw[i]
  exact Zae h.pcs fun g a=>b g (d h.pcs a (by decide))
theorem SD.setHead (h:SD K w pd p s d N T) (c:∀ k,K k->k<w.heap.size) (j:Nat) (x:Value) (l:s'.log=s.log) (f:s'.bases=s.bases) (n:s'.now=s.now) (t:∀ L,(stC pd L s).setIfInBounds j x=stC pd L s'):
 SD K (w.setCell ⟨p,j,none⟩ x) pd p s' d N T∧Zap (fun k=>¬ K k) w (w.setCell ⟨p,j,none⟩ x):=by
 obtain⟨F,M,I,L,u,b,g,e,q,i,m⟩:=h;exact SD.own c u g e q i m ((Zap.refl M w).setCell j (fun _=>b.mh) x) (b.setHead j x l f n (t L)) (fun _ a=>.inl a) (fun _ a=>.inl a)
theorem SD.cells (h:SD K w pd p s d N T):
 (w.cell? ⟨p,0,none⟩=some (ptr pd)∧w.cell? ⟨p,11,none⟩=some (.int .i64 s.synced)∧w.cell? ⟨p,12,none⟩=some (.int .i64 s.cur)∧w.cell? ⟨p,13,none⟩=some (.bool s.nw))∧∀ j,w.frozen? ⟨p,j,none⟩=false:=by
 obtain⟨F,M,I,L,g,a,-⟩:=h;obtain⟨f,-,-,-,-,-,e,c,b⟩:=a.cs;exact⟨⟨f,e,c,b⟩,a.fz⟩
theorem Zgc (w:World) (h:SD K w pd p s d N T) (f:∀ k,K k->k<w.heap.size):
 Calls prog 64 #[ptr p] w fun e w'=>Zff K w pd p (Zar (s,d)) (N+2) T e w':=by
 unfold Zar;obtain⟨⟨d',c⟩,i⟩:∃ r,r=ZaS d:=⟨_,rfl⟩
 have q:=ZZ (h.disk (d':=d') (c:=c) (N':=N+2) (T':=T) f (fun F z _=>by
  have:=Zrv w z;rw[<-i] at this
  exact this))
 obtain⟨⟨y,-⟩,-⟩:=h.cells
 dsimp only
 rw[<-i]
 dsimp only
 have A:=ZZ f;obtain⟨R,g⟩:∃ R:SDk × Int,R=((if c=0 then { s with nw:=false } else s,d'),c):=⟨_,rfl⟩
 rw[<-g];have a:=ZZ g;clear h i f g
 go_enter func64,ntmps64
 go_wp2_with fail
 refine q.o.mono ?_;rintro e v ⟨rfl,l,j⟩;have n:=ZZ l;have t:=ZZ j;have u:Hid (∀ k,K k->k<v.heap.size):=ZZ (fun k x=>Nat.lt_of_lt_of_le (A.o k x) j.size)
 obtain⟨⟨-,-,-,B⟩,fz⟩:=l.cells;have D:=fz 13;clear l j q y fz;by_cases b:c=0
 ·subst b
  rw[if_pos rfl] at a;have m:=ZZ (n.o.setHead (s':={ s with nw:=false }) u.o 13 (.bool false) rfl rfl rfl (fun _=>rfl))
  go_wp2;go_ret;rw[a.o];exact⟨rfl,m.o.1,t.o.trans m.o.2 (fun _ _ h=>h)⟩
 ·rw[if_neg b] at a
  have C:(c == 0)=false:=beq_eq_false_iff_ne.2 b;clear b;go_wp2;go_ret;rw[a.o];exact⟨rfl,n.o,t.o⟩
theorem Zoq (w:World) (h:SD K w pd p s d N T) (j:∀ k,K k->k<w.heap.size):
 Calls prog 66 #[ptr p] w fun e w'=>Zff K w pd p (ZaJ (s,d)) (N+2) T e w':=by
 unfold ZaJ;have a:=ZZ (Zgc w h j);obtain⟨⟨-,-,-,b⟩,-⟩:=h.cells;have c:=ZZ h
 dsimp only
 cases hb:s.nw with
 | false=>
  rw[hb] at b;rw[if_neg (by simp)]
  clear h hb a
  go_enter func66,ntmps66
  go_wp2;go_ret;exact⟨rfl,c.o.mono (by omega) zL,Zap.refl _ _⟩
 | true=>
  rw[hb] at b;rw[if_pos rfl];obtain⟨r,g⟩:∃ r,r=Zar (s,d):=⟨_,rfl⟩;rw[<-g] at a ⊢;clear h hb c g
  go_enter func66,ntmps66
  go_wp2_with fail
  refine a.o.mono ?_;rintro e m ⟨rfl,i,f⟩;have l:=ZZ (And.intro i f);clear i f a;go_wp2;go_ret;exact⟨rfl,l.o⟩
theorem Zff.from {K2:Nat->Prop} {W:World} {r:SDk × Int} {e:Ending} (h:Zff K2 W pd p r N T e w') (a:∀ k,K k->K2 k) (g:Zap (fun k=>¬ K k) w W) (f:N<=N') (c:T<=T'):Zff K w pd p r N' T' e w':=
 ⟨h.1,(h.2.1.less a).mono f c,g.trans (h.2.2.mono (fun k b d=>b (a k d))) (fun _ _ h=>h)⟩
theorem SD.step {f:Nat} {args:Array Value} (g:Dk->Dk × Int) (h:SD K w pd p s d N T) (a:∀ k,K k->k<w.heap.size)
 (b:∀ F,Dsk F w pd d N T->(∀ k,F k->¬ K k)->Calls prog f args w fun e w'=>Zjk F w pd (g d).1 (g d).2 N' T' e w'):Calls prog f args w fun e w'=>Zff K w pd p (Zbv g (s,d)) N' T' e w':=
 h.disk a b
theorem Zqa {R:Nat} (w:World) (h:SD K w pd p s d N T) (b:∀ k,K k->k<w.heap.size) (t:w.cell? ⟨R,0,none⟩=some (ptr p)) (l:I64 s.cur):
 Calls prog 65 #[.pointer (some ⟨R,0,none⟩)] w fun e w'=>Zff K w pd p (ZaD (s,d)) (N+2) T e w':=by
 have f:=ZZ ((h.below (Below.refl _ _).drew).step (fun d=>Zdx d s.cur) b (fun F n _=>Ztl s.cur l _ n))
 obtain⟨⟨x,-,q,-⟩,-⟩:=h.cells;have m:Hid (Zap (fun k=>¬ K k) w w.drew):=ZZ (Zap.ofBelow (Below.refl _ _).drew)
 obtain⟨r,a⟩:∃ r,r=ZaD (s,d):=⟨_,rfl⟩;have g:Zbv (fun d=>Zdx d s.cur) (s,d)=r:=a.symm
 rw[g] at f;rw[<-a];generalize s.cur=v at *;clear h b l g a
 go_enter func65,ntmps65
 go_upto_region 1 with fail
 go_region_with(first | (go_at_call 59;refine f.o.mono ?_;rintro e u ⟨rfl,j,i⟩;have c:=ZZ (And.intro j i);clear j i))
 all_goals
  go_wp2;go_ret;exact⟨rfl,c.o.1,m.o.trans c.o.2 (fun _ _ h=>h)⟩
theorem Zor (x:SDk):(Zbj [ZaD,ZaJ] x).1.1=x.1∨(Zbj [ZaD,ZaJ] x).1.1={ x.1 with nw:=false }:=by
 unfold Zbj Zbj;split
 ·split
  ·unfold Zbj ZaJ Zar
   split
   ·dsimp only
    split
    ·exact .inr rfl
    ·exact .inl rfl
   ·exact .inl rfl
  ·unfold ZaJ Zar
   split
   ·dsimp only
    split
    ·exact .inr rfl
    ·exact .inl rfl
   ·exact .inl rfl
 ·exact .inl rfl
theorem ZrZ.nw (h:ZrZ s) (b:Bool):ZrZ { s with nw:=b }:=⟨h.f0,h.f1,h.sy,h.cu⟩
theorem SD.synced (h:SD K w pd p s d N T) (a:∀ k,K k->k<w.heap.size):
 SD K (w.setCell ⟨p,11,none⟩ (.int .i64 s.next)) pd p (ZeJ s) d N T∧Zap (fun k=>¬ K k) w (w.setCell ⟨p,11,none⟩ (.int .i64 s.next)):=
 h.setHead a 11 _ rfl rfl rfl (fun _=>rfl)
theorem SD.next (h:SD K w pd p s d N T) (b:ZrZ s):
 Calls prog 14 #[ptr p] w fun e w'=>e=.returned (.int .i64 s.next)∧Below w.heap.size w w':=by
 obtain⟨F,M,I,L,c,a,-⟩:=h;exact Zlk w a b
theorem ZhU (w:World) (h:SD K w pd p s d N T) (hK:∀ k,K k->k<w.heap.size) (m:ZrZ s):
 Calls prog 27 #[ptr p] w fun e w'=>Zff K w pd p (ZcE (s,d)) (N+4) T e w':=by
 obtain⟨a,B⟩:∃ a,a=w.alloc (.cells #[ptr p] 28):=⟨_,rfl⟩;have aa:Hid (Below w.heap.size w a):=ZZ (by rw[B];exact ZcW _ _)
 have HX:Hid (Bk 28 a w.heap.size #[ptr p]):=ZZ (by rw[B];exact heap_alloc_new w _)
 obtain⟨t,L⟩:∃ t:Nat->Prop,t=fun k=>K k∨(w.heap.size<=k∧k<a.heap.size):=⟨_,rfl⟩
 have D:Hid (SD t a pd p s d N T):=ZZ (by rw[L];exact h.fresh aa.o)
 have an:Hid (∀ k,t k->k<a.heap.size):=ZZ (by
  rw[L];intro k hk;rcases hk with hk | hk
  ·exact Nat.lt_of_lt_of_le (hK k hk) aa.o.size
  ·exact hk.2)
 have ak:Hid (∀ k,K k->t k):=ZZ (by rw[L];exact fun k hk=>.inl hk)
 have aA:Hid (t w.heap.size):=ZZ (by rw[L];exact .inr ⟨Nat.le_refl _,HX.o.lt⟩)
 have ap:Hid (Zap (fun k=>¬ K k) w a):=ZZ (Zap.ofBelow aa.o)
 have P:Hid (∀ W,Zap (fun k=>¬ t k) a W->W.cell? ⟨w.heap.size,0,none⟩=some (ptr p)):=ZZ (fun W ho=>((HX.o.keep (ho.block _ HX.o.lt (fun m=>m aA.o))).cell 0 rfl).1)
 have U:=ZZ m;have r0:=P.o a (Zap.refl _ _);obtain⟨⟨-,-,ar,-⟩,-⟩:=D.o.cells;obtain⟨v,ab⟩:∃ v,v=ZcE (s,d):=⟨_,rfl⟩;have M:=ZZ ab;rw[<-ab];clear h hK L ab;by_cases q:s.cur=0
 ·have ax:(s.cur != 0)=false:=by rw[q];rfl
  have x:Hid (v=((ZeJ s,d),0)):=ZZ (by rw[M.o];unfold ZcE;rw[if_pos q])
  have ah:Hid (∀ W,Below a.heap.size a W->Calls prog 14 #[ptr p] W fun e w'=>e=.returned (.int .i64 s.next)∧Below a.heap.size a w'):=ZZ (fun W f=>((D.o.below f).next U.o).mono (by
   rintro e w' ⟨rfl,A⟩
   exact⟨rfl,f.trans (A.mono f.size)⟩))
  have Q:Hid (∀ W,Below a.heap.size a W->W.cell? ⟨w.heap.size,0,none⟩=some (ptr p)∧W.cell? ⟨p,11,none⟩=some (.int .i64 s.synced)∧W.frozen? ⟨p,11,none⟩=false):=ZZ (fun W f=>by
   obtain⟨⟨-,ag,-⟩,fz⟩:=(D.o.below f).cells
   exact⟨P.o W (Zap.ofBelow f),ag,fz 11⟩)
  have ad:Hid (Below a.heap.size a a.drew):=ZZ (Below.refl _ _).drew
  have O:Hid (∀ W,Below a.heap.size a W->Zff K w pd p v (N+4) T (.returned (.int .i64 0)) (W.setCell ⟨p,11,none⟩ (.int .i64 s.next))):=ZZ (fun W f=>by
   rw[x.o];have n:=(D.o.below f).synced (fun k hk=>Nat.lt_of_lt_of_le (an.o k hk) f.size)
   exact Zff.from (K2:=t) (W:=W) ⟨rfl,n.1,n.2⟩ ak.o (ap.o.trans (Zap.ofBelow (F:=fun _=>False) f) (fun _ _ h=>h.elim)) (by omega) zL)
  generalize s.next=nx at *;generalize s.cur=cu at *;clear q x M m
  go_enter func27,ntmps27
  go_upto_region 1 with fail
  rw[<-B];clear B
  go_upto_region 6 with fail
  go_region_with(first | (go_at_call 14;refine(ah.o _ (by first | exact ad.o | exact Below.refl _ _)).mono ?_;rintro e g ⟨rfl,ae⟩;have y:=ZZ ae;obtain⟨q0,aw,qf⟩:=Q.o g ae;clear ae))
  all_goals
   go_wp2;go_ret;exact O.o _ y.o
 ·have ax:(s.cur != 0)=true:=by rw[bne_iff_ne];exact q
  obtain⟨b,C⟩:∃ b,b=Zbj [ZaD,ZaJ] (s,d):=⟨_,rfl⟩;have x:Hid (v=if b.2=0 then((ZeJ b.1.1,b.1.2),0) else b):=ZZ (by rw[M.o,C];unfold ZcE;rw[if_neg q])
  have av:Hid (ZrZ b.1.1):=ZZ (by
   rcases Zor (s,d) with hh | hh
   ·rw[C,hh];exact U.o
   ·rw[C,hh];exact U.o.nw false)
  obtain⟨g,S⟩:∃ g,g=a.alloc (.cells #[.func (.func 65) #[] #[.pointer (some ⟨w.heap.size,0,none⟩)],.func (.func 66) #[ptr p] #[]] 153):=⟨_,rfl⟩;have y:Hid (Below a.heap.size a g):=ZZ (by rw[S];exact ZcW _ _)
  have V:Hid (Bk 153 g a.heap.size #[.func (.func 65) #[] #[.pointer (some ⟨w.heap.size,0,none⟩)],.func (.func 66) #[ptr p] #[]]):=ZZ (by rw[S];exact heap_alloc_new a _)
  obtain⟨K2,E⟩:∃ K2:Nat->Prop,K2=fun k=>t k∨(a.heap.size<=k∧k<g.heap.size):=⟨_,rfl⟩
  have au:Hid (SD K2 g pd p s d N T):=ZZ (by rw[E];exact D.o.fresh y.o)
  have ao:Hid (∀ k,K2 k->k<g.heap.size):=ZZ (by
   rw[E];intro k hk;rcases hk with hk | hk
   ·exact Nat.lt_of_lt_of_le (an.o k hk) y.o.size
   ·exact hk.2)
  have X:Hid (∀ k,t k->K2 k):=ZZ (by rw[E];exact fun k hk=>.inl hk)
  have aF:Hid (K2 a.heap.size):=ZZ (by rw[E];exact .inr ⟨Nat.le_refl _,V.o.lt⟩)
  have az:Hid (Calls prog 62 #[.slice (some ⟨a.heap.size,0,none⟩) 2 2] g fun e w'=>∃ c:Int,e=.returned (.int .i64 c)∧(c=0->SD K2 w' pd p b.1.1 b.1.2 (N+4) T∧b.2=0∧Zap (fun k=>¬ K2 k) g w')∧(c≠0->SD K2 w' pd p b.1.1 b.1.2 (N+4) T∧b.2=c∧Zap (fun k=>¬ K2 k) g w')):=ZZ (by
   have hs:=ZpZ a.heap.size 0 2 2 (fun i=>if i=0 then⟨65,#[],#[.pointer (some ⟨w.heap.size,0,none⟩)]⟩ else⟨66,#[ptr p],#[]⟩) g
    (fun i W=>Zap (fun k=>¬ K2 k) g W∧(i=0->SD K2 W pd p s d N T)∧(i=1->(ZaD (s,d)).2=0∧SD K2 W pd p (ZaD (s,d)).1.1 (ZaD (s,d)).1.2 (N+2) T)∧(i=2->b.2=0∧SD K2 W pd p b.1.1 b.1.2 (N+4) T))
    (fun c W=>SD K2 W pd p b.1.1 b.1.2 (N+4) T∧b.2=c∧Zap (fun k=>¬ K2 k) g W) (by decide)
    (fun i W H u=>by
     have A:=V.o.keep (u.1.block _ V.o.lt (fun m=>m aF.o))
     match i,H with
     | 0,_=>exact(A.cell 0 rfl).1
     | 1,_=>exact(A.cell 1 rfl).1)
    (fun i W H u=>by
     have am:∀ k,K2 k->k<W.heap.size:=fun k hk=>Nat.lt_of_lt_of_le (ao.o k hk) u.1.size
     match i,H with
     | 0,_=>
      refine(Zqa (R:=w.heap.size) W (u.2.1 rfl) am (P.o W ((Zap.ofBelow y.o).trans (u.1.mono (fun k hk m=>hk (X.o k m))) (fun _ _ h=>h))) U.o.cu).mono ?_
      rintro e w' ⟨rfl,n,I⟩;refine⟨_,rfl,fun j=>⟨u.1.trans I (fun _ _ h=>h),fun h=>absurd h (by decide),fun _=>⟨j,n⟩,fun h=>absurd h (by decide)⟩,fun j=>?_⟩
      have G:b=ZaD (s,d):=by rw[C];unfold Zbj;rw[if_neg j]
      rw[G];exact⟨n.mono (by omega) zL,rfl,u.1.trans I (fun _ _ h=>h)⟩
     | 1,_=>
      obtain⟨aE,aD⟩:=u.2.2.1 rfl;refine(Zoq W aD am).mono ?_;rintro e w' ⟨rfl,n,I⟩;have e2:ZaJ ((ZaD (s,d)).1.1,(ZaD (s,d)).1.2)=ZaJ (ZaD (s,d)).1:=rfl;rw[e2] at n ⊢
      have G:(ZaJ (ZaD (s,d)).1).1=b.1∧(ZaJ (ZaD (s,d)).1).2=b.2:=by
       rw[C];unfold Zbj;rw[if_pos aE];unfold Zbj;split
       ·rename_i j
        exact⟨rfl,j⟩
       ·exact⟨rfl,rfl⟩
      rw[G.1] at n
      exact⟨_,rfl,fun j=>⟨u.1.trans I (fun _ _ h=>h),fun h=>absurd h (by decide),fun h=>absurd h (by decide),fun _=>⟨by rw[<-G.2];exact j,n⟩⟩,fun j=>⟨n,G.2.symm,u.1.trans I (fun _ _ h=>h)⟩⟩)
    (fun i H=>by
     match i,H with
     | 0,_=>exact enters_of func65 (by kernel_rfl) rfl
     | 1,_=>exact enters_of func66 (by kernel_rfl) rfl)
    ⟨Zap.refl _ _,fun _=>au.o,fun h=>absurd h (by decide),fun h=>absurd h (by decide)⟩
   refine hs.mono ?_;rintro e w' ⟨c,rfl,g1,g2⟩;refine⟨c,rfl,fun j=>?_,g2⟩
   obtain⟨h1,-,-,h4⟩:=g1 j
   exact⟨(h4 rfl).2,(h4 rfl).1,h1⟩)
  have aq:Hid (Zap (fun k=>¬ K k) w g):=ZZ (ap.o.trans (Zap.ofBelow (F:=fun _=>False) y.o) (fun _ _ h=>h.elim))
  have Z:Hid (∀ k,K k->K2 k):=ZZ (fun k hk=>X.o k (ak.o k hk))
  have ay:Hid (∀ W,Zap (fun k=>¬ K2 k) g W->W.cell? ⟨w.heap.size,0,none⟩=some (ptr p)):=ZZ (fun W ho=>P.o W ((Zap.ofBelow y.o).trans (ho.mono (fun k hk m=>hk (X.o k m))) (fun _ _ h=>h)))
  have aj:=ZZ S;have aJ:=D;generalize s.cur=cu at *;clear q C E m S
  go_enter func27,ntmps27
  go_upto_region 1 with fail
  rw[<-B];clear B
  go_wp2_with(go_at_call 62;rw[<-aj.o];refine az.o.mono ?_)
  rintro e l ⟨c,rfl,ac,ai⟩;clear aj r0 ar;by_cases q:c=0
  ·subst q
   obtain⟨J,j,z⟩:=ac rfl;have aG:Hid (v=((ZeJ b.1.1,b.1.2),0)):=ZZ (by rw[x.o,if_pos j])
   have aB:Hid (∀ k,K2 k->k<l.heap.size):=ZZ (fun k hk=>Nat.lt_of_lt_of_le (ao.o k hk) z.size)
   have af:=ZZ J;have al:=ZZ z
   have ah:Hid (∀ W,Below l.heap.size l W->Calls prog 14 #[ptr p] W fun e w'=>e=.returned (.int .i64 b.1.1.next)∧Below l.heap.size l w'):=ZZ (fun W f=>((af.o.below f).next av.o).mono (by
    rintro e w' ⟨rfl,A⟩
    exact⟨rfl,f.trans (A.mono f.size)⟩))
   have Q:Hid (∀ W,Below l.heap.size l W->W.cell? ⟨w.heap.size,0,none⟩=some (ptr p)∧W.cell? ⟨p,11,none⟩=some (.int .i64 b.1.1.synced)∧W.frozen? ⟨p,11,none⟩=false):=ZZ (fun W f=>by
    obtain⟨⟨-,ag,-⟩,fz⟩:=(af.o.below f).cells
    exact⟨ay.o W (al.o.trans (Zap.ofBelow (F:=fun _=>False) f) (fun _ _ h=>h.elim)),ag,fz 11⟩)
   have ad:Hid (Below l.heap.size l l.drew):=ZZ (Below.refl _ _).drew
   have O:Hid (∀ W,Below l.heap.size l W->Zff K w pd p v (N+4) T (.returned (.int .i64 0)) (W.setCell ⟨p,11,none⟩ (.int .i64 b.1.1.next))):=ZZ (fun W f=>by
    rw[aG.o];have n:=(af.o.below f).synced (fun k hk=>Nat.lt_of_lt_of_le (aB.o k hk) f.size)
    exact Zff.from (K2:=K2) (W:=W) ⟨rfl,n.1,n.2⟩ Z.o ((aq.o.trans (al.o.mono (fun k hk m=>hk (Z.o k m))) (fun _ _ h=>h)).trans (Zap.ofBelow (F:=fun _=>False) f) (fun _ _ h=>h.elim)) (by omega) zL)
   obtain⟨q0,aw,qf⟩:=Q.o l (Below.refl _ _);generalize b.1.1.next=nx at *;generalize b.1.1.synced=sy at *;clear ac ai J j z x M
   go_upto_region 6 with fail
   go_region_with(first | (go_at_call 14;refine(ah.o _ (by first | exact ad.o | exact Below.refl _ _)).mono ?_;rintro e W3 ⟨rfl,Y⟩;have aC:=ZZ Y;obtain⟨x0,aH,xf⟩:=Q.o W3 Y;clear Y))
   all_goals
    go_wp2;go_ret;exact O.o _ aC.o
  ·obtain⟨J,j,z⟩:=ai q
   have O:Hid (Zff K w pd p v (N+4) T (.returned (.int .i64 c)) l):=ZZ (by
    rw[x.o,if_neg (by rw[j];exact q)]
    exact Zff.from (K2:=K2) (W:=g) ⟨by rw[j],J,z⟩ Z.o aq.o zL zL)
   have aI:(c != 0)=true:=by rw[bne_iff_ne];exact q
   clear ac ai J j z x M q;go_wp2;go_ret;exact O.o
end Go.Proofs.YtnahjngbneicaaaGreatDoor
