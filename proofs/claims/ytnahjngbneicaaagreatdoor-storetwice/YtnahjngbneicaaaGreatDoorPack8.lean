import Derived.Test.YtnahjngbneicaaaGreatDoorPack7
import Derived.Lib.SliceRun
import Derived.Test.YtnahjngbneicaaaGreatDoorPack4
import Derived.Shelf.Abstract
import Derived.Deep.QuietTactic
import Derived.BigQuiet
import Derived.Deep.RegionHeld2
import Derived.BigRegion
import Derived.Deep.DeepCutAuto
namespace Go.Proofs.YtnahjngbneicaaaGreatDoor
open _root_.Go.Proofs.Tryz
open List (append_nil getElem_mem length_drop length_map length_set length_take map_cons map_nil)
set_option maxHeartbeats 4000000
set_option maxRecDepth 100000
open Go.RowKit
theorem Zli {l:List Int} {j:Nat} (h:j<l.length):l.getD j 0 ∈ l:=by
 rw[show l.getD j 0=l[j] by simp[List.getD,h]]
 exact getElem_mem h
def ZBO (p:Int->Bool) (l:List Int) (k:Int):Prop:=(k=-1∧∀ j,j<l.length->p (l.getD j 0)=false)∨∃ i:Nat,k=(i:Int)∧i<l.length∧(∀ j,j<i->p (l.getD j 0)=false)∧p (l.getD i 0)=true
theorem Zmu (g R:Nat) (p:Int->Bool) (v:Value) (l:List Int) (w:World) (J:RdI w v l)
 (P:∀ args W,(callFunc g args).run prog W=.ok (.enter g args) W)
 (I:∀ W e,e ∈ l->Below w.heap.size w W->Calls prog g #[.int .i64 e,.pointer (some ⟨R,0,none⟩)] W fun x w'=>x=.returned (.bool (p e))∧Below W.heap.size W w'):
 Calls prog 158 #[v,.func (.func g) #[] #[.pointer (some ⟨R,0,none⟩)]] w fun x w'=>∃ k:Int,x=.returned (.int .i64 k)∧ZBO p l k∧Below w.heap.size w w':=by
 have L:=ZZ J;have A:=ZZ I;obtain⟨V,T,rfl,M,F,-,-,B⟩:=J;have D:=ZZ B;have S:(l.length:Int)<=9223372036854775807:=by unfold maxLen at F;omega
 clear I M F B
 go_enter func158,ntmps158
 go_wp2
 go_loopw[8] (fun n m=>∃ q:Nat,n=.int .i64 (q:Int)∧q<=l.length∧Hid (∀ j,j<q->p (l.getD j 0)=false)∧Hid (Below w.heap.size w m)) (fun n _=>l.length-(intOf n).toNat)
 case atStart=>exact⟨0,rfl,Nat.zero_le _,ZZ (fun j f=>absurd f (Nat.not_lt_zero _)),Below.refl _ _⟩
 case round=>
  obtain⟨q,rfl,U,y,d⟩:=hrel;by_cases c:q<l.length
  case neg=>
   obtain rfl:q=l.length:=by omega
   go_wp2;go_ret;exact⟨-1,rfl,.inl ⟨rfl,y.o⟩,d.o⟩
  have O:(q:Int)<(l.length:Int):=by omega
  rcases D.o with h0 | ⟨b,off,rfl,hc⟩
  ·rw[h0] at c;simp at c
  have K:m.cell? ⟨b,off+q,none⟩=some (.int .i64 (l.getD q 0)):=(World.cell?_of_block (a:=⟨b,off+q,none⟩) (d.o.block b (World.block_lt_of_cell? w ⟨b,off+q,none⟩ (hc q c)))).trans (hc q c);have i:=ZZ (A.o m (l.getD q 0) (Zli c) d.o);have N:Hid (∀ j,j<q+1->j=q∨j<q):=ZZ (fun j f=>by omega)
  obtain⟨e,z⟩:∃ e,e=l.getD q 0:=⟨_,rfl⟩;rw[<-z] at i K;have G:=ZZ z;obtain⟨t,u⟩:∃ t,t=p e:=⟨_,rfl⟩;rw[<-u] at i;have H:=ZZ u;clear z hc A D L u
  go_wp2_with fail
  refine i.o.mono ?_;rintro x Q ⟨rfl,C⟩;have E:=ZZ (d.o.trans (C.mono d.o.size));clear C i
  cases t with
  | true=>
   go_wp2;go_ret;exact⟨(q:Int),rfl,.inr ⟨q,rfl,c,y.o,by rw[<-G.o];exact H.o.symm⟩,E.o⟩
  | false=>
   go_wp2;go_roundw
   case rel=>exact⟨q+1,by go_num,by omega,ZZ (fun j f=>by
    rcases N.o j f with h | h
    ·rw[h,<-G.o];exact H.o.symm
    ·exact y.o j h),E⟩
   case measure=>simp[intOf];omega
theorem Zgb (p:Int->Bool) (l:List Int) (j:Nat) (a:j<l.length):(l.take (j+1)).filter (fun e=>!p e)=(l.take j).filter (fun e=>!p e)++if p (l.getD j 0)=true then[] else[l.getD j 0]:=by
 have b:l.take (j+1)=l.take j++[l.getD j 0]:=by
  rw[List.take_add_one,List.getElem?_eq_getElem a];simp[List.getD,a]
 rw[b,List.filter_append]
 congr 1
 generalize l.getD j 0=x
 cases h:p x <;> simp[h]
theorem Zjm (p:Int->Bool) (l:List Int) (i:Nat) (c:i<=l.length) (h:∀ j,j<i->p (l.getD j 0)=false):(l.take i).filter (fun e=>!p e)=l.take i:=by
 rw[List.filter_eq_self];intro e a;obtain⟨j,b,rfl⟩:=List.getElem_of_mem a;rw[length_take] at b;have:=h j (by omega)
 rw[List.getElem_take];simp only [List.getD,List.getElem?_eq_getElem (show j<l.length by omega),Option.getD_some] at this
 simp[this]
def Zwa (p:Int->Bool) (l L:List Int) (i j:Nat):Prop:=L.length=l.length∧L.take i=(l.take j).filter (fun e=>!p e)∧L.drop j=l.drop j∧i<j
theorem Zwa.start {p:Int->Bool} {l:List Int} {i:Nat} (b:i<l.length) (h:∀ j,j<i->p (l.getD j 0)=false) (a:p (l.getD i 0)=true):Zwa p l l i (i+1):=by
 refine⟨rfl,?_,rfl,Nat.lt_succ_self _⟩;rw[Zgb p l i b,if_pos a,append_nil,Zjm p l i (by omega) h]
theorem Zwa.at {p:Int->Bool} {l L:List Int} {i j:Nat} (h:Zwa p l L i j):L.getD j 0=l.getD j 0:=by
 obtain⟨e,d,b,f⟩:=h;have a:(L.drop j).getD 0 0=L.getD j 0:=by simp[List.getD]
 have c:(l.drop j).getD 0 0=l.getD j 0:=by simp[List.getD]
 rw[<-a,<-c,b]
theorem Znf {L l:List Int} {j:Nat} (h:L.drop j=l.drop j):L.drop (j+1)=l.drop (j+1):=by
 rw[<-List.drop_drop,<-List.drop_drop,h]
theorem Zwa.skip {p:Int->Bool} {l L:List Int} {i j:Nat} (h:Zwa p l L i j) (e:j<l.length) (b:p (l.getD j 0)=true):Zwa p l L i (j+1):=by
 obtain⟨d,a,c,f⟩:=h;refine⟨d,?_,Znf c,by omega⟩
 rw[Zgb p l j e,if_pos b,append_nil,a]
theorem Zwa.keep {p:Int->Bool} {l L:List Int} {i j:Nat} (h:Zwa p l L i j) (e:j<l.length) (b:p (l.getD j 0)=false):Zwa p l (L.set i (l.getD j 0)) (i+1) (j+1):=by
 obtain⟨d,a,c,f⟩:=h;refine⟨by rw[length_set,d],?_,?_,by omega⟩
 ·rw[Zgb p l j e,if_neg (by rw[b];simp),<-a,List.take_add_one,List.take_set_of_le zL]
  congr 1
  rw[List.getElem?_set_self (by omega)]
  rfl
 ·rw[List.drop_set_of_lt (by omega)]
  exact Znf c
theorem ZaB.cutClear {w:World} {B g n cap:Nat} {l:List Int} (h:ZaB w B (.slice (some ⟨g,0,none⟩) n cap) l) (i:Nat) (q:i<=l.length) (vs:List Value):ZaB (w.setCells g i vs) B (.slice (some ⟨g,0,none⟩) i cap) (l.take i):=by
 rcases h.row with ⟨a,-⟩ | ⟨g',u,cur,a,k,p,m,t,d,b,e⟩
 ·cases a
 ·injection a with a _ h3
  injection a with a
  injection a with a
  subst a h3;have f:=ZaH g _ vs i w cur m;refine ZaB.ofRowN (by rw[length_take];omega) k f (by rw[length_take];omega) d (by rw[ZaG];exact b) fun j c=>?_
  rw[length_take] at c;rw[Zbg _ _ _ _ (by omega),if_neg (by omega),e j (by omega)]
  simp[List.getD,show j<i by omega]
theorem Zlj (g R:Nat) (p:Int->Bool) (v:Value) (l:List Int) (B:Nat) (w:World) (t:ZaB w B v l) (hI:∀ e ∈ l,I64 e) (Q:B<=w.heap.size) (aA:l.length<=1000000)
 (eg:∀ args W,(callFunc g args).run prog W=.ok (.enter g args) W)
 (K:∀ W e,e ∈ l->Below B w W->Calls prog g #[.int .i64 e,.pointer (some ⟨R,0,none⟩)] W fun x w'=>x=.returned (.bool (p e))∧Below W.heap.size W w'):
 Calls prog 112 #[v,.func (.func g) #[] #[.pointer (some ⟨R,0,none⟩)]] w fun x w'=>∃ v',x=.returned v'∧ZaB w' B v' (l.filter (fun e=>!p e))∧Below B w w':=by
 have HO:=ZZ t;have HP:=ZZ K;have V:=ZZ (Zmu g R p v l w (t.rd hI) eg (fun W e n h=>K W e n (h.mono Q)))
 obtain⟨va,d,hv⟩:=t.shape;subst hv;clear t K
 go_enter func112,ntmps112
 go_wp2_with fail
 refine V.o.mono ?_;rintro x W0 ⟨k,rfl,c,A⟩;have M:=ZZ (A.mono Q);have y:=ZZ (HO.o.below A zL);clear V A HO;rcases c with ⟨rfl,c⟩ | ⟨I,rfl,D,c,Y⟩
 ·have HE:Hid (l.filter (fun e=>!p e)=l):=ZZ (by
   have:=Zjm p l l.length zL c
   rwa [List.take_length] at this)
  clear c;go_wp2;go_ret;exact⟨_,rfl,by rw[HE.o];exact y.o,M.o⟩
 have ab:=ZZ (Zwa.start D c Y);clear c Y;rcases y.o.row with ⟨-,h2⟩ | ⟨f,cap,cur,C,Z,-,-,az,ak,-,-⟩
 ·rw[h2] at D;simp at D
 injection C with C _ h3
 subst C h3;have aw:(l.length:Int)<=1000000:=by omega
 clear cur ak;have ei:((I:Int) == -1)=false:=beq_eq_false_iff_ne.2 (by omega)
 go_wp2
 go_loopw[5,6] (fun v5 O a=>∃ (i j:Nat) (L:List Int),v5=.int .i64 (i:Int)∧O=.int .i64 (j:Int)∧i<j∧j<=l.length∧Hid (ZaB a B (.slice (some ⟨f,0,none⟩) l.length d) L)∧Hid (Zwa p l L i j)∧Hid (Below B w a)) (fun _ O _=>l.length-(intOf O).toNat)
 case atStart=>exact⟨I,I+1,l,rfl,by go_num,by omega,by omega,y,ab,M⟩
 case round=>
  clear y ab M ei;obtain⟨i,j,L,rfl,rfl,ap,ay,m,b,q⟩:=hrel;by_cases N:j<l.length
  case neg=>
   obtain rfl:j=l.length:=by omega
   have hL:L.length=l.length:=b.o.1;have HT:Hid (L.take i=l.filter (fun e=>!p e)):=ZZ (by rw[b.o.2.1,List.take_length])
   obtain⟨g',al,z,-,af,-,-,-,-⟩:=m.o.put i (by omega) 0
   injection z with e1 e2 e3
   clear e2
   injection e1 with e1
   injection e1 with e1
   subst e1 e3
   have ac:Hid (∀ k,k<l.length->a.frozen? ⟨f,k,none⟩=false∧(a.cell? ⟨f,k,none⟩).isSome=true):=ZZ (fun k T=>by
    obtain⟨g2,ae,P,aj,ah,-⟩:=m.o.put k (by omega) 0
    injection P with f1 _ _
    injection f1 with f1
    injection f1 with f1
    subst f1
    exact⟨ah,by rw[aj];rfl⟩)
   have HK:Hid (∀ ty,(Builtin.clear_ #[23] ty #[.slice (some ⟨f,i,none⟩) (l.length-i) (d-i)]).run prog a=.ok (.tuple #[]) (a.setCells f i (List.replicate (l.length-i) (.int .i64 0)))):=ZZ (fun ty=>
    Go.Lib.run_clear_slice a _ _ ty (.int .i64 0) underlying23 Tryz.zeroValue3 rfl rfl f i (l.length-i) (d-i) (by omega) (fun k T=>(ac.o (i+k) (by omega)).2) (fun k T=>(ac.o (i+k) (by omega)).1))
   have S:=ZZ (m.o.cutClear i (by omega) (List.replicate (l.length-i) (.int .i64 0)))
   rw[HT.o] at S;have ag:=ZZ (ZcI Z (List.replicate (l.length-i) (.int .i64 0)) i a q.o);have au:¬ (d=i):=by omega
   have u:(i:Int)<=(l.length:Int):=by omega
   have am:(i:Int)<=(d:Int):=by omega
   have av:i<=l.length:=by omega
   have ar:i<=d:=by omega
   clear af;have hK:=HK.o;go_wp2;go_ret;exact⟨_,rfl,S.o,ag.o⟩
  have ax:(j:Int)<(l.length:Int):=by omega
  have aq:L.length=l.length:=b.o.1;obtain⟨g',al,z,E,-⟩:=m.o.put j (by omega) 0
  injection z with e1 e2 e3
  clear e2
  injection e1 with e1
  injection e1 with e1
  subst e1 e3;rw[b.o.at] at E;have H:=ZZ (b.o.skip N);have G:=ZZ (b.o.keep N);obtain⟨e,n⟩:∃ e,e=l.getD j 0:=⟨_,rfl⟩;rw[<-n] at E H G;obtain⟨F,X⟩:∃ F,F=p e:=⟨_,rfl⟩;have J:=ZZ (fun W h=>HP.o W e (by rw[n];exact Zli N) h)
  rw[<-X] at J H G;clear n X b
  go_wp2_with fail
  refine(J.o _ q.o).mono ?_;rintro x W1 ⟨rfl,u⟩;have ad:=ZZ (q.o.trans (u.mono (Nat.le_trans Q q.o.size)));have U:=ZZ (m.o.below u zL);clear u J E m q
  cases F with
  | true=>
   go_wp2;go_roundw
   case rel=>exact⟨i,j+1,L,rfl,by go_num,by omega,by omega,U,ZZ (H.o (by simp)),ad⟩
   case measure=>simp[intOf];omega
  | false=>
   obtain⟨g2,ae,P,d0,z0,-,-,aa,-⟩:=U.o.put i (by omega) e
   injection P with f1 f2 f3
   clear f2
   injection f1 with f1
   injection f1 with f1
   subst f1 f3;have ai:=ZZ aa;clear aa;have ao:(i:Int)<(l.length:Int):=by omega
   have an:i<l.length:=by omega
   go_wp2;go_roundw
   case rel=>exact⟨i+1,j+1,L.set i e,by go_num,by go_num,by omega,by omega,ai,ZZ (G.o (by simp)),ZZ (ad.o.setCell Z _)⟩
   case measure=>simp[intOf];omega
theorem Zbp {c:Array Oper} {o:Oper} {a:Act} {w:World} {K:Act->World->Prop} {Q:Exit->Act->World->Prop} {E:Prop} {R:Value->World->Prop}
 (f:FuncId) (xs:Array Operand) (ts:Array TypeId) (m:o.guard=none) (k:o.op=Op.call { callee:=Callee.value (Operand.func f),args:=xs,argTypes:=ts }) (b:Array Value) (i:xs.map a.eval=b)
 (n:∀ args w,(callFunc f args).run prog w=.ok (.enter f args) w) (d:Calls prog f b w fun e w'=>∃ v',e=.returned v'∧R v' w') (j:∀ v' w',R v' w'->K (a.put o.dst v') w'):
 if Region.wanted o (yielded c a.tmps)=true then Oper.wp prog o a w K Q else E:=by
 have g:Region.wanted o (yielded c a.tmps)=true:=by simp[Region.wanted,m]
 rw[if_pos g];unfold Oper.wp
 have h:(execOp a.eval o).run prog w=.ok (.enter f b) w:=by
  have l:a.eval (Operand.func f)=.func (.func f) #[] #[]:=rfl;simp[execOp,k,resolve,invoke,i,l,Deferred.ofValue,n]
 rw[h,Oper.upon_enter];refine d.mono ?_;rintro e w' ⟨v',rfl,p⟩;exact j v' w' p
theorem Zoo (b o:Nat) (f:Int) (d:Option Addr) (n c:Nat) (w:World) (h:w.cell? ⟨b,o,none⟩=some (.int .i64 f)) (i:w.cell? ⟨b,o+1,none⟩=some (.slice d n c)) (g:0<=f) (j:f+n<=9000000000000000000):
 Calls prog 38 #[.pointer (some ⟨b,o,none⟩)] w fun e w'=>e=.returned (.int .i64 (f+n))∧Below w.heap.size w w':=by
 have a:IntKind.i64.wrap (f+(n:Int))=f+n:=by rw[IntKind.wrap_i64];omega
 have k:(n:Int)<=9000000000000000000:=by omega
 go_enter func38,ntmps38
 go_upto_region 1 with fail
 go_quiet(fail)
 go_wp2;go_ret;refine⟨?_,ZaI (Below.refl _ _) _⟩
 first | rfl | (rw[a])
structure ZrZ (s:Sto):Prop where
 f0:0<=s.log.first
 f1:s.next<=4611686018427387904
 sy:I64 s.synced
 cu:I64 s.cur
theorem Zlk {M I:Nat->Prop} {p pd:Nat} {L:Zhf} {s:Sto} (w:World) (h:ZeO M I w p pd L s) (i:ZrZ s):
 Calls prog 14 #[ptr p] w fun e w'=>e=.returned (.int .i64 s.next)∧Below w.heap.size w w':=by
 obtain⟨n,l,d⟩:=h.recs.shape;obtain⟨-,f,a,-⟩:=h.cs;rw[d] at a;have b:=i.f1;have c:=i.f0;unfold Sto.next Lgb.next at b;have k:=ZZ (Zoo p 1 s.log.first n s.log.recs.length l w f a c (by omega))
 have m:Hid (s.next=s.log.first+s.log.recs.length):=ZZ rfl;rw[m.o];generalize s.log.first+(s.log.recs.length:Int)=nx at *;clear f a d b c
 go_enter func14,ntmps14
 go_wp2_with fail
 refine k.o.mono ?_;rintro e w' ⟨rfl,g⟩;have j:=ZZ g;clear g;go_wp2;go_ret;exact⟨rfl,j.o⟩
theorem Zng {M I:Nat->Prop} {p pd:Nat} {L:Zhf} {s:Sto} (w:World) (h:ZeO M I w p pd L s):
 Calls prog 18 #[ptr p] w fun e w'=>e=.returned (.int .i64 s.log.first)∧w'=w:=by
 obtain⟨-,a,-⟩:=h.cs;clear h
 go_enter func18,ntmps18
 go_wp2;go_ret;exact⟨rfl,rfl⟩
theorem Zll {M I:Nat->Prop} {p pd:Nat} {L:Zhf} {s:Sto} (w:World) (h:ZeO M I w p pd L s):
 Calls prog 11 #[ptr p] w fun e w'=>e=.returned (.int .i64 s.synced)∧w'=w:=by
 obtain⟨-,-,-,-,-,-,a,-⟩:=h.cs;clear h
 go_enter func11,ntmps11
 go_wp2;go_ret;exact⟨rfl,rfl⟩
theorem Zxm (v:Value) (l:List Int) (x:Int) (w:World) (q:RdI w v l) (p:l.length<=1000000000):
 Calls prog 92 #[v,.int .i64 x] w fun e w'=>e=.returned (.int .i64 (l.getD (l.length-1) x))∧w'=w:=by
 obtain⟨ao,cap,rfl,j,d,-,-,c⟩:=q;have h:(l.length:Int)<=9223372036854775807:=by unfold maxLen at d;omega
 by_cases a:l.length=0
 ·have e:l=[]:=List.eq_nil_of_length_eq_zero a
  subst e;have k:((0:Int) == 0)=true:=rfl;clear c d j a;have t:([]:List Int).length=0:=rfl;rw[t]
  go_enter func92,ntmps92
  go_wp2;go_ret;exact⟨rfl,rfl⟩
 ·rcases c with c | ⟨b,off,rfl,hc⟩
  ·rw[c] at a;simp at a
  have k:((l.length:Int) == 0)=false:=beq_eq_false_iff_ne.2 (by omega)
  have f:=hc (l.length-1) (by omega)
  have e:l.getD (l.length-1) x=l.getD (l.length-1) 0:=by
   simp[List.getD,show l.length-1<l.length by omega]
  rw[e];obtain⟨y,i⟩:∃ y,y=l.getD (l.length-1) 0:=⟨_,rfl⟩;rw[<-i] at f ⊢;obtain⟨m,g⟩:∃ m,l.length=m+1:=⟨l.length-1,by omega⟩
  rw[g] at f k h ⊢;have n:m+1-1=m:=by omega
  rw[n] at f;have u:(m:Int)<=1000000000:=by omega
  clear i hc e d j a g h p
  go_enter func92,ntmps92
  go_wp2;go_ret;exact⟨rfl,rfl⟩
def ZhR (first n:Int):Bool:=decide (n<first) || decide ((n-first) % 2≠0)
theorem ZpW (l:List Int) (first:Int):ZaY l first=l.filter fun n=>!ZhR first n:=rfl
theorem Zxn (R:Nat) (first n:Int) (w:World) (c:w.cell? ⟨R,0,none⟩=some (.int .i64 first)) (k:0<=first) (i:first<=1000) (j:-1000000000000000000<=n) (m:n<=1000000000000000000):
 Calls prog 111 #[.int .i64 n,.pointer (some ⟨R,0,none⟩)] w fun e w'=>e=.returned (.bool (ZhR first n))∧Below w.heap.size w w':=by
 by_cases b:n<first
 ·have e:ZhR first n=true:=by unfold ZhR;rw[decide_eq_true b];rfl
  rw[e];clear e
  go_enter func111,ntmps111
  go_wp2;go_ret;exact⟨rfl,Below.refl _ _⟩
 ·have l:IntKind.i64.wrap (n-first)=n-first:=by rw[IntKind.wrap_i64];omega
  have d:(n-first).tmod 2=(n-first) % 2:=Int.tmod_eq_emod_of_nonneg (by omega)
  by_cases a:(n-first) % 2=0
  ·have e:ZhR first n=false:=by unfold ZhR;rw[decide_eq_false b,decide_eq_false (fun h=>h a)];rfl
   have f:((n-first) % 2 != 0)=false:=by rw[a];rfl
   have g:((n-first).tmod 2 != 0)=false:=by rw[d,a];rfl
   rw[e];clear e a
   go_enter func111,ntmps111
   go_wp2;go_ret;exact⟨rfl,Below.refl _ _⟩
  ·have e:ZhR first n=true:=by unfold ZhR;rw[decide_eq_false b,decide_eq_true a];rfl
   have f:((n-first) % 2 != 0)=true:=by rw[bne_iff_ne];exact a
   have g:((n-first).tmod 2 != 0)=true:=by rw[d,bne_iff_ne];exact a
   rw[e];clear e a
   go_enter func111,ntmps111
   go_wp2;go_ret;exact⟨rfl,Below.refl _ _⟩
theorem Zej {d:Dk} (h:OkD d):∀ n ∈ Zak d,0<=n∧n<1048576:=fun n c=>by
 obtain⟨e,b,rfl⟩:=List.mem_map.1 c;have a:=(h.dir.may e b).1;unfold Zja at a;simp only [Bool.and_eq_true,decide_eq_true_eq] at a;exact a
theorem Zfx {F:Nat->Prop} {p:Nat} {d:Dk} {N T:Nat} (first:Int) (w:World) (h:Dsk F w p d N T) (S:N<=1000000) (H:0<=first) (R:first<=1000):
 Calls prog 74 #[ptr p,.int .i64 first] w fun e w'=>∃ v,e=.returned v∧ZaB w' w.heap.size v (ZaY (Zak d) first)∧Below w.heap.size w w':=by
 obtain⟨b,j⟩:∃ b,b=w.alloc (.cells #[.int .i64 first] 3):=⟨_,rfl⟩;have f:Hid (Below w.heap.size w b):=ZZ (by rw[j];exact ZcW _ _)
 have x:Hid (Bk 3 b w.heap.size #[.int .i64 first]):=ZZ (by rw[j];exact heap_alloc_new w _)
 have m:=ZZ (h.below f.o)
 have C:Hid (Calls prog 28 #[ptr p] b fun e w'=>∃ v,e=.returned v∧ZaB w' b.heap.size v (Zak d)∧Below b.heap.size b w'):=ZZ (by
  obtain⟨L,t,i,-⟩:=m.o
  exact ZhJ b t i S)
 have l:Hid (∀ n ∈ Zak d,0<=n∧n<1048576):=ZZ (by
  obtain⟨L,t,i,-⟩:=m.o
  exact Zej i)
 have G:Hid ((Zak d).length<=1000000):=ZZ (by
  obtain⟨L,t,i,J,-⟩:=m.o;have K:=Zey d d.waits.length;rw[Zgo] at K;have:=J.names;unfold Zak;rw[length_map]
  omega)
 clear h
 go_enter func74,ntmps74
 go_upto_region 1 with fail
 rw[<-j];clear j
 go_wp2_with fail
 refine C.o.mono ?_;rintro e B ⟨D,rfl,q,g⟩;have P:=ZZ (f.o.trans (g.mono f.o.size));have M:Hid (∀ W,Below b.heap.size B W->W.cell? ⟨w.heap.size,0,none⟩=some (.int .i64 first)):=ZZ (fun W u=>((x.o.keep ((u.block _ x.o.lt).trans (g.block _ x.o.lt))).cell 0 rfl).1)
 have A:=ZZ (Zlj 111 w.heap.size (ZhR first) D (Zak d) b.heap.size B q (fun n k=>by
  have:=l.o n k
  exact⟨by omega,by omega⟩) g.size G.o (enters_of func111 (by kernel_rfl) rfl) (fun W n k u=>Zxn w.heap.size first n W (M.o W u) H R (by have:=l.o n k;omega) (by have:=l.o n k;omega)))
 rw[<-ZpW] at A
 obtain⟨V,U,Y,I⟩:∃ a n c,D=.slice a n c:=by
  obtain⟨a,c,Q⟩:=q.shape;exact⟨a,_,c,Q⟩
 subst I;clear q g C
 go_wp2_with fail
 refine A.o.mono ?_;rintro e X ⟨Z,rfl,z,y⟩;have E:=ZZ (z.mono f.o.size);have O:=ZZ (P.o.trans (y.mono f.o.size));clear z y;go_wp2;go_ret;exact⟨_,rfl,E.o,O.o⟩
theorem Zjn {F M I:Nat->Prop} {p pd:Nat} {L:Zhf} {s:Sto} {d:Dk} {N T:Nat} (first:Int) (w:World) (h:ZeO M I w p pd L s) (b:Dsk F w pd d N T) (U:N<=1000000) (X:2<=first) (S:first<=1000):
 Calls prog 50 #[ptr p,.int .i64 first] w fun e w'=>e=.returned (.int .i64 (Zbf d first))∧Below w.heap.size w w':=by
 have O:=ZZ (Zfx first w b U (by omega) S)
 have k:Hid (∀ n ∈ ZaY (Zak d) first,0<=n∧n<1048576):=ZZ (by
  obtain⟨L,Q,t,-⟩:=b
  exact fun n j=>Zej t n (List.mem_filter.1 j).1)
 have x:Hid ((Zak d).length<=1000000000):=ZZ (by
  obtain⟨L,Q,t,C,-⟩:=b;have G:=Zey d d.waits.length;rw[Zgo] at G;have:=C.names;unfold Zak;rw[length_map]
  omega)
 obtain⟨J,-⟩:=h.cs;have v:Hid (Zbf d first=(ZaY (Zak d) first).getD ((ZaY (Zak d) first).length-1) (first-2)+2):=ZZ rfl
 have f:Hid (0<=(ZaY (Zak d) first).getD ((ZaY (Zak d) first).length-1) (first-2)∧(ZaY (Zak d) first).getD ((ZaY (Zak d) first).length-1) (first-2)<=1048576):=ZZ (by
  by_cases D:(ZaY (Zak d) first).length=0
  ·rw[List.eq_nil_of_length_eq_zero D]
   show 0<=first-2∧first-2<=1048576;omega
  ·have H:(ZaY (Zak d) first).getD ((ZaY (Zak d) first).length-1) (first-2) ∈ ZaY (Zak d) first:=by
    rw[show(ZaY (Zak d) first).getD ((ZaY (Zak d) first).length-1) (first-2)=(ZaY (Zak d) first)[(ZaY (Zak d) first).length-1]'(by omega) by simp[List.getD,show(ZaY (Zak d) first).length-1<(ZaY (Zak d) first).length by omega]]
    exact getElem_mem _
   have:=k.o _ H
   omega)
 clear h b;rw[v.o];have z:Hid ((ZaY (Zak d) first).length<=1000000000):=ZZ (Nat.le_trans (List.length_filter_le _ _) x.o);generalize ZaY (Zak d) first=l at *;obtain⟨y,i⟩:∃ y,y=l.getD (l.length-1) (first-2):=⟨_,rfl⟩;rw[<-i] at f ⊢;have B:=ZZ i;clear i
 go_enter func50,ntmps50
 go_wp2_with fail
 refine O.o.mono ?_;rintro e E ⟨K,rfl,g,m⟩;have P:=ZZ m
 have u:=ZZ (g.rd (fun n j=>by
  have:=k.o n j
  exact⟨by omega,by omega⟩))
 obtain⟨Y,W,c1,A⟩:∃ a n c,K=.slice a n c:=by
  obtain⟨a,c,R⟩:=g.shape;exact⟨a,_,c,R⟩
 subst A;have q:=ZZ (Zxm _ l (first-2) E u.o z.o);rw[<-B.o] at q;have aa:=f.o.1;have V:=f.o.2;clear g m u J
 go_wp2_with fail
 refine q.o.mono ?_;rintro e Z ⟨rfl,rfl⟩;go_wp2;go_ret;exact⟨rfl,P.o⟩
def ZBP:ZaW × Value × Value:=(Zbl,.slice none 0 0,.slice none 0 0)
def Zfy (l:List (ZaW × Value × Value)):ZaW × Value × Value:=l.getD (l.length-1) ZBP
theorem Znh {L:Zhf} {s:Sto} (h:L.bs.map Prod.fst=s.bases):(Zfy L.bs).1=s.base:=by
 unfold Zfy Sto.base;rw[<-h,length_map];simp only [List.getD,List.getElem?_map]
 cases L.bs[L.bs.length-1]? <;> rfl
theorem Zlm {l:List (ZaW × Value × Value)} (h:l.length≠0):Zfy l ∈ l:=by
 unfold Zfy;rw[show l.getD (l.length-1) ZBP=l[l.length-1]'(by omega) by simp[List.getD,show l.length-1<l.length by omega]]
 exact getElem_mem _
theorem Zxo {w:World} {v:Value} {l:List (ZaW × Value × Value)} (h:w.ownsRow 0 41 6 v l.length (ZaN l)) (d:l.length≠0):
 ∃ g cap,v=.slice (some ⟨g,0,none⟩) l.length cap∧∀ k u,k<6->(snC (Zfy l))[k]?=some u->w.cell? ⟨g,(l.length-1)*6+k,none⟩=some u:=by
 rcases h.2 with ⟨_,j⟩ | ⟨g,cap,cur,f,_,m,t,p,q,i⟩
 ·exact absurd j d
 ·refine⟨g,cap,f,fun k u n c=>?_⟩
  have b:l.length-1<l.length:=by omega
  have e:Zfy l=l[l.length-1]:=by unfold Zfy;simp[List.getD,b]
  rw[e] at c;rw[cell_of_row w g _ _ _ _ m];have a:=Zlh l (l.length-1) k b n;rw[c,<-i,List.getElem?_take] at a;rw[if_pos (by omega)] at a
  rw[<-Array.getElem?_toList];exact a
theorem Zxp (v:Value) (l:List (ZaW × Value × Value)) (w:World) (h:w.ownsRow 0 41 6 v l.length (ZaN l)) (u:l.length≠0) (X:l.length<=1000000000) (J:∃ a n c a' n' c',(Zfy l).2.1=.slice a n c∧(Zfy l).2.2=.slice a' n' c'):
 Calls prog 78 #[v,.agg #[.int .i64 0,.int .i64 0,.slice none 0 0,.bool false,.int .i64 0,.slice none 0 0]] w fun e w'=>e=.returned (snV (Zfy l))∧Below w.heap.size w w':=by
 obtain⟨g,cap,rfl,d⟩:=Zxo h u;obtain⟨x,t⟩:∃ x,x=Zfy l:=⟨_,rfl⟩;rw[<-t] at d J ⊢;obtain⟨m,y⟩:∃ m,l.length=m+1:=⟨l.length-1,by omega⟩
 have M:l.length-1=m:=by omega
 rw[M] at d;obtain⟨⟨H,⟨kd,LL,N,L⟩,Y⟩,vl,vt⟩:=x;obtain⟨I,D,lc,P,E,G,C,O⟩:=J
 dsimp only at C O
 subst C O;have q:=d 0 _ (by decide) rfl
 have z:=d 1 _ (by decide) rfl
 have B:=d 2 _ (by decide) rfl
 have K:=d 3 _ (by decide) rfl
 have F:=d 4 _ (by decide) rfl
 have A:=d 5 _ (by decide) rfl
 have i:g<w.heap.size:=World.block_lt_of_cell? w ⟨g,m*6+0,none⟩ q;rw[y];have V:((m+1:Nat):Int)≠0:=by omega
 have aa:((((m+1:Nat):Int)) == 0)=false:=beq_eq_false_iff_ne.2 V;have ab:(m:Int)<=1000000000:=by omega
 obtain⟨b,k⟩:∃ b,b=(w.alloc (.cells #[.int .i64 0,.int .i64 0,.slice none 0 0,.bool false,.int .i64 0,.slice none 0 0] 41)).alloc (.cells #[.int .i64 0,.int .i64 0,.slice none 0 0,.bool false,.int .i64 0,.slice none 0 0] 41):=⟨_,rfl⟩;have f:Hid (Below w.heap.size w b):=ZZ (by rw[k];exact((Below.refl _ _).alloc zL _).alloc (by simp) _)
 have j:Hid (Bn b (w.heap.size+1) #[.int .i64 0,.int .i64 0,.slice none 0 0,.bool false,.int .i64 0,.slice none 0 0]):=ZZ (by rw[k];exact Zhc w _ _)
 have e0:b.cell? ⟨g,m*6,none⟩=some (.int .i64 H):=(f.o.cell (p:=⟨g,m*6,none⟩) i).trans q;have e1:b.cell? ⟨g,m*6+1,none⟩=some (.int .i64 kd):=(f.o.cell (p:=⟨g,m*6+1,none⟩) i).trans z;have e2:b.cell? ⟨g,m*6+2,none⟩=some (.slice I D lc):=(f.o.cell (p:=⟨g,m*6+2,none⟩) i).trans B;have e3:b.cell? ⟨g,m*6+3,none⟩=some (.bool N):=(f.o.cell (p:=⟨g,m*6+3,none⟩) i).trans K;have e4:b.cell? ⟨g,m*6+4,none⟩=some (.int .i64 L):=(f.o.cell (p:=⟨g,m*6+4,none⟩) i).trans F;have Z:b.cell? ⟨g,m*6+5,none⟩=some (.slice P E G):=(f.o.cell (p:=⟨g,m*6+5,none⟩) i).trans A;obtain⟨S,y0⟩:=j.o.cell 0;obtain⟨Q,y1⟩:=j.o.cell 1;obtain⟨U,y2⟩:=j.o.cell 2;obtain⟨R,y3⟩:=j.o.cell 3;obtain⟨T,y4⟩:=j.o.cell 4;obtain⟨W,y5⟩:=j.o.cell 5;clear q z B K F A d h t y M u X
 go_enter func78,ntmps78
 go_upto_region 1 with fail
 rw[<-k];clear k;go_wp2;refine bodyPost_ret (v:=.agg #[.int .i64 H,.int .i64 kd,.slice I D lc,.bool N,.int .i64 L,.slice P E G]) (by simp[results,Tryz.results78,go_sem,S,Q,U,R,T,W]) rfl ?_
 exact⟨rfl,Zei f.o _ (by omega) _ _ _ _ _ _⟩
theorem SnR.shape {w:World} {x:ZaW × Value × Value} (h:SnR w x):∃ a n c a' n' c',x.2.1=.slice a n c∧x.2.2=.slice a' n' c':=by
 obtain⟨a,c,d,-⟩:=h.l;obtain⟨a',c',b⟩:=h.t.shape;exact⟨a,_,c,a',_,c',d,b⟩
theorem Ztt {M I:Nat->Prop} {p pd:Nat} {L:Zhf} {s:Sto} (w:World) (h:ZeO M I w p pd L s) (D:s.bases.length≠0) (X:s.bases.length<=1000000000):
 Calls prog 37 #[ptr p] w fun e w'=>e=.returned (snV (Zfy L.bs))∧Below w.heap.size w w':=by
 have W:L.bs.length=s.bases.length:=by rw[<-h.bsEq,length_map]
 have y:=Zlm (l:=L.bs) (by omega)
 have j:=ZZ (h.base _ y);obtain⟨d,i⟩:∃ d,d=w.alloc (.cells #[.int .i64 0,.int .i64 0,.slice none 0 0,.bool false,.int .i64 0,.slice none 0 0] 41):=⟨_,rfl⟩;have q:Hid (Below w.heap.size w d):=ZZ (by rw[i];exact ZcW _ _)
 have J:Hid (Bn d w.heap.size #[.int .i64 0,.int .i64 0,.slice none 0 0,.bool false,.int .i64 0,.slice none 0 0]):=ZZ (by rw[i];exact heap_alloc_new w _)
 have m:=ZZ (h.below q.o);obtain⟨-,-,-,-,A,-⟩:=m.o.cs;have f:=ZZ (Zxp L.bv L.bs d m.o.bases (by omega) (by omega) j.o.shape)
 obtain⟨ba,bn,bc,B⟩:∃ a n c,L.bv=.slice a n c:=by
  rcases h.bases.2 with ⟨t,_⟩ | ⟨g,cap,cur,t,_⟩
  ·exact⟨_,_,_,t⟩
  ·exact⟨_,_,_,t⟩
 rw[B] at A f;obtain⟨x,u⟩:∃ x,x=Zfy L.bs:=⟨_,rfl⟩;rw[<-u] at f j ⊢;obtain⟨R,K,lc,Y,N,O,z,C⟩:=j.o.shape;obtain⟨⟨P,⟨kd,LL,U,S⟩,Z⟩,vl,vt⟩:=x
 dsimp only at z C
 subst z C;unfold snV snC at f ⊢
 dsimp only at f ⊢
 clear h B u y W D X m j
 go_enter func37,ntmps37
 go_upto_region 1 with fail
 rw[<-i];clear i
 go_wp2_with fail
 refine f.o.mono ?_;rintro e W1 ⟨rfl,k⟩;have V:=ZZ (q.o.trans (k.mono q.o.size));have b:=J.o.below k zL;obtain⟨G,y0⟩:=b.cell 0;obtain⟨E,y1⟩:=b.cell 1;obtain⟨Q,y2⟩:=b.cell 2;obtain⟨F,y3⟩:=b.cell 3;obtain⟨H,y4⟩:=b.cell 4;obtain⟨T,y5⟩:=b.cell 5;clear k b A;go_wp2;refine bodyPost_ret (v:=.agg #[.int .i64 P,.int .i64 kd,.slice R K lc,.bool U,.int .i64 S,.slice Y N O]) (by simp[results,Tryz.results37,go_sem,G,E,Q,F,H,T]) rfl ?_
 exact⟨rfl,Zei V.o _ (by omega) _ _ _ _ _ _⟩
def ZAP (w:World) (s:ZaW) (e:Ending) (w':World):Prop:=
 ∃ vl vt,e=.returned (snV (s,vl,vt))∧SnR w' (s,vl,vt)∧(∀ b,vl.ownBlock=some b->w.heap.size<=b)∧(∀ b,vt.ownBlock=some b->w.heap.size<=b)∧Below w.heap.size w w'
theorem ZuT (x:ZaW × Value × Value) (w:World) (hx:SnR w x) (M:x.1.st.L.length<=1000000) (H:x.1.tab.length<=1000000):
 Calls prog 47 #[snV x] w fun e w'=>ZAP w x.1 e w':=by
 obtain⟨⟨idx,⟨kind,L,t,y⟩,j⟩,vl,vt⟩:=x;obtain⟨z,q,l,p,m⟩:=hx
 dsimp only at z q l p m M H ⊢
 obtain⟨la,lc,rfl,-⟩:=id z;obtain⟨ta,T,rfl⟩:=q.shape;have ac:=ZZ (fun W (h:Below w.heap.size w W)=>ZiH _ L W (z.below h zL) M)
 have ae:=ZZ (fun W (h:Below w.heap.size w W)=>ZiI _ j W (q.below h zL) H)
 have J:=ZZ z.i64;have ab:∀ e ∈ j,Zod e:=q.choose_spec.choose_spec.2.2.2.2.1;have X:=ZZ ab;obtain⟨d,n⟩:∃ d,d=(w.alloc (.cells #[.int .i64 idx,.int .i64 kind,.slice la L.length lc,.bool t,.int .i64 y,.slice ta j.length T] 41)).alloc (.cells #[.int .i64 0,.int .i64 0,.slice none 0 0,.bool false,.int .i64 0,.slice none 0 0] 41):=⟨_,rfl⟩;have k:Hid (Below w.heap.size w d):=ZZ (by rw[n];exact((Below.refl _ _).alloc zL _).alloc (by simp) _)
 have g:Hid (Bn d w.heap.size #[.int .i64 idx,.int .i64 kind,.slice la L.length lc,.bool t,.int .i64 y,.slice ta j.length T]):=ZZ (by rw[n];exact(Below.heap_alloc _ _ _ (by simp)).trans (heap_alloc_new w _))
 have Y:Hid (Bn d (w.heap.size+1) #[.int .i64 0,.int .i64 0,.slice none 0 0,.bool false,.int .i64 0,.slice none 0 0]):=ZZ (by rw[n];exact Zhc w _ _)
 have ah:d.heap.size=w.heap.size+2:=by rw[n];simp
 unfold snV snC
 dsimp only
 clear z q ab M H
 go_enter func47,ntmps47
 go_upto_region 1 with fail
 rw[<-n];clear n;obtain⟨p2,R⟩:=g.o.cell 2;obtain⟨p5,N⟩:=g.o.cell 5
 go_cut[] (fun O=>Hid (ZpT w ⟨idx,⟨kind,L,t,y⟩,j⟩ O))
 case first=>
  go_region_with
   (first
    | (go_at_call 39;refine(ac.o _ (by first | exact k.o.drew | exact k.o)).mono ?_;rintro e W1 ⟨v1,rfl,G,F⟩;have A:Below d.heap.size d W1:=(by first | exact((Below.refl _ _).drew).trans F | exact F);have ak:=ZZ G;have C:=ZZ A;obtain⟨a1,c1,ag⟩:∃ a c,v1=.slice a L.length c:=(by obtain⟨a,c,h,-⟩:=G.rd J.o;exact⟨a,c,h⟩);subst ag;obtain⟨q2,k2⟩:=(g.o.below A zL).cell 2;obtain⟨q5,k5⟩:=(g.o.below A zL).cell 5;clear G F A)
    | (go_at_call 40;refine(ae.o _ (k.o.trans (C.o.mono k.o.size))).mono ?_;rintro e W2 ⟨v2,rfl,I,E⟩;have af:=ZZ I;have u:=ZZ (C.o.trans (E.mono C.o.size));have ai:=ZZ (ak.o.below E zL);obtain⟨a2,c2,aj⟩:=I.shape;subst aj;obtain⟨r2,j2⟩:=(g.o.below u.o zL).cell 2;obtain⟨r5,j5⟩:=(g.o.below u.o zL).cell 5;clear I E))
  all_goals
   go_wp2_with fail
   go_meet
   exact ZZ (Zla (g.o.below u.o zL) (Y.o.below u.o zL) (ai.o.mono (by first | omega | (show w.heap.size+2<=d.heap.size;omega))) J.o (af.o.mono (by have:=C.o.size;omega)) X.o m l p (k.o.trans (u.o.mono k.o.size)))
 case rest=>
  have ad:=hcut;clear hcut k g Y ah p2 R p5 N ac ae J X d l p m;obtain⟨W,rfl⟩:∃ W,W=O:=⟨_,rfl⟩;obtain⟨sa,sc,S,ec,i,f,hL,P,U,aa,m,l,p,hB⟩:=ad.o;have HY:=ZZ f;have Z:=ZZ hL;have K:=ZZ P;have D:=ZZ U;have V:=ZZ aa;have B:=ZZ (And.intro m (And.intro l p));have HB:=ZZ hB
  dsimp only at i Z K D V B
  obtain⟨p0,g0⟩:=i.cell 0;obtain⟨p1,g1⟩:=i.cell 1;obtain⟨p2,R⟩:=i.cell 2;obtain⟨p3,g3⟩:=i.cell 3;obtain⟨p4,g4⟩:=i.cell 4;obtain⟨p5,N⟩:=i.cell 5;obtain⟨z0,y0⟩:=f.cell 0;obtain⟨z1,y1⟩:=f.cell 1;obtain⟨z2,y2⟩:=f.cell 2;obtain⟨z3,y3⟩:=f.cell 3;obtain⟨z4,y4⟩:=f.cell 4;obtain⟨z5,y5⟩:=f.cell 5;have al:¬ (w.heap.size=w.heap.size+1):=by omega
  clear i f hL P U aa m l p hB ad;go_wp2;refine bodyPost_ret (v:=.agg #[.int .i64 idx,.int .i64 kind,.slice sa L.length sc,.bool t,.int .i64 y,.slice S j.length ec]) (by simp[results,Tryz.results47,go_sem,z0,z1,z2,z3,z4,z5]) rfl ?_
  have Q:=Ztp W (w.heap.size+1) (.int .i64 idx) (.int .i64 kind) (.slice sa L.length sc) (.bool t) (.int .i64 y) (.slice S j.length ec);exact⟨_,_,rfl,⟨Z.o.but Q (.inr fun b h=>by have:=K.o b h;omega),(D.o.rd V.o).but Q (.inr fun b h=>by have:=D.o.fresh b h;omega),B.o.2.1,B.o.2.2,B.o.1⟩,fun b h=>by have:=K.o b h;omega,fun b h=>by have:=D.o.fresh b h;omega,ZhM HB.o _ (by omega) _ _ _ _ _ _⟩
theorem ZAQ:(prog.info? 108).map (fun i=>(i.zero,i.size,i.bytes))=some (some (.agg #[.int .i64 0,.int .i64 0,.int .i64 0]),3,24):=by kernel_rfl
theorem Zop (w:World) (ty:TypeId) (v:Value) (l:List Pce) (h:w.ownsRow 0 108 3 v l.length (Zau l)) (c:Pce) (n:l.length<=10000000):
 ∃ v' w',(Builtin.append_ #[71,71] ty #[v,.slice (some ⟨w.heap.size,0,none⟩) 1 1]).run prog (w.alloc (.cells (pcC c) 108))=.ok v' w'∧
  w'.ownsRow 0 108 3 v' (l++[c]).length (Zau (l++[c]))∧(w.alloc (.cells (pcC c) 108)).grownBy w' v.ownBlock∧(v'.ownBlock=v.ownBlock∨v'.ownBlock=some (w.heap.size+1)):=by
 obtain⟨e,f,k,g,i⟩:=info_parts ZAQ
 obtain⟨v',w',b,a,m,_,hl⟩:=run_append_own_at (P:=prog) (w.alloc (.cells (pcC c) 108)) 0 71 ty 108 e _ 3 24 underlying71 f k g i rfl (by decide) v l.length (Zau l) (World.ownsRow.alloc h _)
  ⟨w.heap.size,0,none⟩ 1 1 (Zau [c]) (Zdn [c]) (fun j u d=>by
   rw[Addr.add_lit,Nat.zero_add,cell_of_row _ w.heap.size j _ 108 (0,0) (heap_alloc_new w _)]
   simpa[Zau] using d) (ZrY [c]) (by unfold maxLen;omega) (by omega) (Nat.zero_le _)
 refine⟨v',w',b,?_,m,?_⟩
 ·rw[List.length_append,Zlf]
  exact a
 ·rcases hl with hl | hl
  ·exact .inl hl
  ·exact .inr (by rw[hl];simp)
theorem ZcA (w:World) {b:Array Oper} {rest:List Oper} {o:Oper} {a:Act} {Q:Exit->Act->World->Prop} (k:o.guard=none) (s x:Operand)
 (d:o.op=.call { callee:=.builtin .append,args:=#[s,x],argTypes:=#[71,71] })
 (v:Value) (l:List Pce) (j:a.eval s=v) (h:w.ownsRow 0 108 3 v l.length (Zau l)) (c:Pce) (e:a.eval x=.slice (some ⟨w.heap.size,0,none⟩) 1 1) (n:l.length<=10000000)
 (g:∀ v' w',w'.ownsRow 0 108 3 v' (l++[c]).length (Zau (l++[c]))->(w.alloc (.cells (pcC c) 108)).grownBy w' v.ownBlock->(v'.ownBlock=v.ownBlock∨v'.ownBlock=some (w.heap.size+1))->
  wpList prog b Q rest (a.put o.dst v') w'):wpList prog b Q (o::rest) a (w.alloc (.cells (pcC c) 108)):=
 wpList_plain k fun _ q=>by
  obtain⟨v',w',f,m,i,p⟩:=Zop w o.type v l h c n;unfold Oper.wp execOp;simp only [d,resolve,invoke,builtin,Sem.run_bind,Sem.run_pure,Result.andThen_ok,List.map_toArray,map_cons,map_nil,j,e,f];exact q _ _ (g v' w' m i p)
theorem Zln (w:World) (ty:TypeId) (v:Value) (b:List Rec) (c:Zbq w 0 v b) (f:Value) (l:List Rec) (t:RdR w f l) (z:b.length+l.length<=10000000):
 ∃ v' w',(Builtin.append_ #[29,29] ty #[v,f]).run prog w=.ok v' w'∧Zbq w' 0 v' (b++l)∧w.grownBy w' v.ownBlock∧(v'.ownBlock=v.ownBlock∨v'.ownBlock=some w.heap.size):=by
 obtain⟨g,h,p,k,m⟩:=info_parts Zgs;obtain⟨ao,cap,rfl,y,x,u,_,j⟩:=t
 cases ao with
 | none=>
  have n:=u rfl;subst n;have e:l=[]:=List.eq_nil_of_length_eq_zero (by omega)
  subst e;have d:=run_append_owned_none (P:=prog) w 0 29 ty 62 g 7 underlying29 h v b.length (Zan b) c;exact⟨v,w,d,by rw[append_nil];exact c,⟨rfl,rfl,rfl,Nat.le_refl _,fun _ _ _=>rfl⟩,.inl rfl⟩
 | some a=>
  obtain⟨v',w',d,i,q,_,e⟩:=run_append_own_at (P:=prog) w 0 29 ty 62 g _ 7 56 underlying29 h p k m rfl (by decide) v b.length (Zan b) c a l.length cap (Zan l)
   (Zbo l) (RdR.cells j a rfl) (ZeB l) (by unfold maxLen;omega) (by omega) (Nat.zero_le _)
  refine⟨v',w',d,?_,q,e⟩;unfold Zbq;rw[List.length_append,Zdv];exact i
theorem ZeD (w:World) {d:Array Oper} {rest:List Oper} {o:Oper} {a:Act} {Q:Exit->Act->World->Prop} (n:o.guard=none) (s x:Operand)
 (f:o.op=.call { callee:=.builtin .append,args:=#[s,x],argTypes:=#[29,29] })
 (v:Value) (b:List Rec) (m:a.eval s=v) (e:Zbq w 0 v b) (c:Value) (l:List Rec) (g:a.eval x=c) (t:RdR w c l) (q:b.length+l.length<=10000000)
 (h:∀ v' w',Zbq w' 0 v' (b++l)->w.grownBy w' v.ownBlock->(v'.ownBlock=v.ownBlock∨v'.ownBlock=some w.heap.size)->wpList prog d Q rest (a.put o.dst v') w'):wpList prog d Q (o::rest) a w:=
 wpList_plain n fun _ j=>by
  obtain⟨v',w',i,p,k,u⟩:=Zln w o.type v b e c l t q;unfold Oper.wp execOp;simp only [f,resolve,invoke,builtin,Sem.run_bind,Sem.run_pure,Result.andThen_ok,List.map_toArray,map_cons,map_nil,m,g,i];exact j _ _ (h v' w' p k u)
theorem ZaR {w:World} {base n s:Nat} {t:TypeId} {v:Value} {xs:List Value} (h:w.ownsRow base t s v n xs) {g:Nat} (a:v.ownBlock=some g):∃ cs,Bk t w g cs:=by
 rcases h.2 with ⟨b,_⟩ | ⟨g',cap,cur,b,_,c,_⟩
 ·rw[b] at a;cases a
 ·rw[b] at a
  obtain rfl:g'=g:=by simpa[Value.ownBlock] using a
  exact⟨_,c⟩
theorem ZbW {w:World} {base n s:Nat} {t:TypeId} {v:Value} {xs:List Value} (h:w.ownsRow base t s v n xs):∃ a c,v=.slice a n c:=by
 rcases h.2 with ⟨b,d⟩ | ⟨g',cap,cur,b,_⟩
 ·exact⟨_,_,by rw[b,d]⟩
 ·exact⟨_,_,b⟩
structure Zlo (t:TypeId) (w:World) (b o:Nat) (cs:Array Value) (rv pv:Value) (g:Lgb):Prop where
 blk:Bk t w b cs
 c0:cs[o]?=some (.int .i64 g.first)
 c1:cs[o+1]?=some rv
 c2:cs[o+2]?=some pv
 recs:Zbq w 0 rv g.recs
 pcs:w.ownsRow 0 108 3 pv g.pcs.length (Zau g.pcs)
def Zmv (b:Nat) (rv pv:Value) (k:Nat):Prop:=k=b∨rv.ownBlock=some k∨pv.ownBlock=some k
theorem Zlo.neR {t:TypeId} {w:World} {b o:Nat} {cs:Array Value} {rv pv:Value} {g:Lgb} (h:Zlo t w b o cs rv pv g) (a:t≠62):rv.ownBlock≠some b:=fun e=>by
 obtain⟨d,c⟩:=ZaR h.recs e;exact(h.blk.ne c a) rfl
theorem Zlo.neP {t:TypeId} {w:World} {b o:Nat} {cs:Array Value} {rv pv:Value} {g:Lgb} (h:Zlo t w b o cs rv pv g) (a:t≠108):pv.ownBlock≠some b:=fun e=>by
 obtain⟨d,c⟩:=ZaR h.pcs e;exact(h.blk.ne c a) rfl
theorem Zlo.neRP {t:TypeId} {w:World} {b o:Nat} {cs:Array Value} {rv pv:Value} {g:Lgb} (h:Zlo t w b o cs rv pv g):∀ k,rv.ownBlock=some k->pv.ownBlock≠some k:=fun k a e=>by
 obtain⟨i,d⟩:=ZaR h.recs a;obtain⟨f,c⟩:=ZaR h.pcs e;exact(d.ne c (by decide)) rfl
theorem Zlo.below {t:TypeId} {w w':World} {b o:Nat} {cs:Array Value} {rv pv:Value} {g:Lgb} (h:Zlo t w b o cs rv pv g) (a:Below w.heap.size w w'):Zlo t w' b o cs rv pv g:=
 ⟨h.blk.keep (a.block b h.blk.lt),h.c0,h.c1,h.c2,h.recs.below a zL,Zae h.pcs fun g d=>a.block g (by
  obtain⟨e,c⟩:=ZaR h.pcs d
  exact c.lt)⟩
def ZhS (t:TypeId) (w:World) (b o:Nat) (cs:Array Value) (rv pv:Value) (g:Lgb) (w':World):Prop:=
 ∃ rv' pv',Zlo t w' b o (((cs.setIfInBounds o (.int .i64 g.first)).setIfInBounds (o+1) rv').setIfInBounds (o+2) pv') rv' pv' g∧Zap (Zmv b rv pv) w w'∧
  (∀ k,Zmv b rv' pv' k->Zmv b rv pv k∨w.heap.size<=k)
theorem ZhS.more {t:TypeId} {w a d:World} {b o:Nat} {cs:Array Value} {rv pv:Value} {g:Lgb} (h:ZhS t w b o cs rv pv g a) (c:Below a.heap.size a d):ZhS t w b o cs rv pv g d:=by
 obtain⟨k,l,e,j,f⟩:=h;exact⟨k,l,e.below c,j.trans (G:=fun _=>False) (Zap.ofBelow c) (fun _ _ i=>i.elim),f⟩
theorem ZhT {cs:Array Value} {j:Nat} {x:Value} (h:cs[j]?=some x):cs.setIfInBounds j x=cs:=by
 apply Array.ext_getElem?;intro i;rw[Array.getElem?_setIfInBounds];by_cases e:j=i
 ·subst e
  have a:j<cs.size:=(Array.getElem?_eq_some_iff.1 h).1;rw[if_pos rfl,if_pos a,h]
 ·simp[e]
theorem Zni (t:TypeId) (T:t≠62) (R:t≠108) (b o:Nat) (cs:Array Value) (rv pv:Value) (g:Lgb) (name first:Int) (w:World) (h:Zlo t w b o cs rv pv g) (ai:g.pcs.length<=1000000):
 Calls prog 53 #[.pointer (some ⟨b,o,none⟩),.int .i64 name,.int .i64 first] w fun e w'=>e=.returned (.tuple #[])∧ZhS t w b o cs rv pv (g.start name first) w':=by
 obtain⟨D,I,A⟩:=ZbW h.pcs
 -- the world ahead of the append
 obtain⟨a,q⟩:∃ a,a=if g.pcs.length=0 then w.setCell ⟨b,o,none⟩ (.int .i64 first) else w:=⟨_,rfl⟩
 obtain⟨m,n⟩:∃ m,m=if g.pcs.length=0 then cs.setIfInBounds o (.int .i64 first) else cs:=⟨_,rfl⟩
 have af:a.heap.size=w.heap.size:=by
  rw[q];split
  ·simp
  ·rfl
 have H:∀ k,k≠b->a.heap[k]?=w.heap[k]?:=fun k hk=>by
  rw[q];split
  ·exact Below.heap_setCell _ _ _ _ hk
  ·rfl
 have Z:Zap (Zmv b rv pv) w a:=by
  rw[q];split
  ·exact(Zap.refl _ _).setCell o (fun _=>.inl rfl) _
  ·exact Zap.refl _ _
 have X:Bk t a b m:=by
  rw[q,n];split
  ·exact h.blk.set o _
  ·exact h.blk
 have W:g.start name first=⟨if g.pcs.length=0 then first else g.first,g.recs,g.pcs++[(⟨name,first,first⟩:Pce)]⟩:=rfl
 have c:Zlo t a b o m rv pv ⟨if g.pcs.length=0 then first else g.first,g.recs,g.pcs⟩:=by
  refine⟨X,?_,?_,?_,Zae h.recs fun k hk=>H k (fun e=>h.neR T (by subst e;exact hk)),Zae h.pcs fun k hk=>H k (fun e=>h.neP R (by subst e;exact hk))⟩
  ·rw[n]
   have P:o<cs.size:=(Array.getElem?_eq_some_iff.1 h.c0).1;split
   ·simp[P]
   ·exact h.c0
  ·rw[n]
   split
   ·rw[Array.getElem?_setIfInBounds,if_neg (by omega)]
    exact h.c1
   ·exact h.c1
  ·rw[n]
   split
   ·rw[Array.getElem?_setIfInBounds,if_neg (by omega)]
    exact h.c2
   ·exact h.c2
 have E:Hid (∀ f d,d.ownsRow 0 108 3 f (g.pcs++[(⟨name,first,first⟩:Pce)]).length (Zau (g.pcs++[(⟨name,first,first⟩:Pce)]))->(a.alloc (.cells (pcC ⟨name,first,first⟩) 108)).grownBy d pv.ownBlock->(f.ownBlock=pv.ownBlock∨f.ownBlock=some (a.heap.size+1))->
  ZhS t w b o cs rv pv (g.start name first) (d.setCell ⟨b,o+2,none⟩ f)∧d.cell? ⟨b,o+2,none⟩=some pv∧d.frozen? ⟨b,o+2,none⟩=false):=ZZ (fun f d i l hv=>by
  have Y:∀ k,k<a.heap.size->pv.ownBlock≠some k->d.heap[k]?=a.heap[k]?:=fun k hk ab=>by
   rw[l.block k (by simp;omega) (fun e=>ab e.symm),Below.heap_alloc _ _ _ hk]
  have z:Bk t d b m:=c.blk.keep (Y b c.blk.lt (c.neP R));have ah:a.heap.size+1<=d.heap.size:=by have:=l.size;simpa using this
  have ad:((cs.setIfInBounds o (.int .i64 (g.start name first).first)).setIfInBounds (o+1) rv).setIfInBounds (o+2) f=m.setIfInBounds (o+2) f:=by
   congr 1
   rw[W,n]
   dsimp only
   by_cases j:g.pcs.length=0
   ·rw[if_pos j,if_pos j]
    exact ZhT (by rw[Array.getElem?_setIfInBounds,if_neg (by omega)];exact h.c1)
   ·rw[if_neg j,if_neg j,ZhT h.c0,ZhT h.c1]
  have ac:f.ownBlock≠some b:=fun e=>by
   obtain⟨ae,K⟩:=ZaR i e;exact(z.ne K R) rfl
  refine⟨⟨rv,f,?_,?_,?_⟩,(z.cell _ c.c2).1,(z.cell _ c.c2).2⟩
  ·rw[ad]
   have P:o+2<m.size:=(Array.getElem?_eq_some_iff.1 c.c2).1;refine⟨z.set _ _,?_,?_,by simp[P],Zae c.recs fun k hk=>?_,Zae i fun k hk=>Below.heap_setCell _ _ _ _ (fun e=>ac (by subst e;exact hk))⟩
   ·rw[Array.getElem?_setIfInBounds,if_neg (by omega)]
    exact c.c0
   ·rw[Array.getElem?_setIfInBounds,if_neg (by omega)]
    exact c.c1
   ·obtain⟨ae,K⟩:=ZaR c.recs hk
    rw[Below.heap_setCell _ _ _ _ (fun e=>c.neR T (by subst e;exact hk)),Y k K.lt (c.neRP k hk)]
  ·refine(Z.trans (G:=Zmv b rv pv) ?_ (fun _ _ L=>L)).setCell _ (fun _=>.inl rfl) _
   exact((Zap.refl _ a).alloc _).trans (Zap.ofGrown (F:=Zmv b rv pv) l fun k e _=>.inr (.inr e)) (fun _ _ L=>L)
  ·intro k hk
   rcases hk with hk | hk | hk
   ·exact .inl (.inl hk)
   ·exact .inl (.inr (.inl hk))
   ·rcases hv with hv | hv
    ·exact .inl (.inr (.inr (by rw[<-hv];exact hk)))
    ·rw[hv] at hk
     have:=Option.some.inj hk
     exact .inr (by omega))
 have M:Hid (a.ownsRow 0 108 3 (.slice D g.pcs.length I) g.pcs.length (Zau g.pcs)):=ZZ (by rw[<-A];exact c.pcs)
 have U:Hid (g.pcs.length<=10000000):=ZZ (by omega)
 have p:=ZZ A;have O:=(h.blk.cell _ h.c2).1;have B:=(h.blk.cell _ h.c0);obtain⟨B,S⟩:=B;have Q:=(c.blk.cell _ c.c2).1;rw[A] at O Q;have V:=ZZ q;have ag:(g.pcs.length:Int)<=1000000:=by omega
 clear A c X H Z af W n h q;by_cases j:g.pcs.length=0
 ·have aa:((g.pcs.length:Int) == 0)=true:=by rw[beq_iff_eq];omega
  have C:Hid (a=w.setCell ⟨b,o,none⟩ (.int .i64 first)):=ZZ (by rw[V.o,if_pos j])
  clear j
  go_enter func53,ntmps53
  go_upto_region 2 with fail
  rw[<-C.o];clear C B S O
  go_wp2_with(at_builtin;refine(fun(h:True->_)=>h trivial) ?_)
  intro _;refine ZcA a rfl _ _ rfl (.slice D g.pcs.length I) g.pcs rfl M.o (⟨name,first,first⟩:Pce) rfl U.o ?_;intro f d i l hv;obtain⟨y,N,s2⟩:=E.o f d i (by rw[p.o];exact l) (by rw[p.o];exact hv)
  rw[p.o] at N;have J:=ZZ y;obtain⟨a9,c9,u⟩:=ZbW i;obtain⟨x,v⟩:∃ x,x=(g.pcs++[(⟨name,first,first⟩:Pce)]).length:=⟨_,rfl⟩;rw[<-v] at u;subst u;clear y i l hv v Q;go_wp2;go_end0;exact⟨rfl,J.o⟩
 ·have aa:((g.pcs.length:Int) == 0)=false:=beq_eq_false_iff_ne.2 (by omega)
  have C:Hid (a=w):=ZZ (by rw[V.o,if_neg j])
  clear j B S Q;rw[C.o] at E M
  go_enter func53,ntmps53
  go_wp2_with(at_builtin;refine(fun(h:True->_)=>h trivial) ?_)
  intro _;refine ZcA w rfl _ _ rfl (.slice D g.pcs.length I) g.pcs rfl M.o (⟨name,first,first⟩:Pce) rfl U.o ?_;intro f d i l hv;obtain⟨y,N,s2⟩:=E.o f d i (by rw[p.o];exact l) (by rw[p.o];exact hv)
  rw[p.o] at N;have J:=ZZ y;obtain⟨a9,c9,u⟩:=ZbW i;obtain⟨x,v⟩:∃ x,x=(g.pcs++[(⟨name,first,first⟩:Pce)]).length:=⟨_,rfl⟩;rw[<-v] at u;subst u;clear y i l hv v O;go_wp2;go_end0;exact⟨rfl,J.o⟩
theorem Zlp:∀ (l:List Pce) (j:Nat) (p:Pce),j<l.length->Zau (l.set j p)=((((Zau l).set (j*3) (.int .i64 p.name)).set (j*3+1) (.int .i64 p.first)).set (j*3+2) (.int .i64 p.stop))
 | c::l,0,p,_=>by
  rw[List.set_cons_zero,Zau,Zau];rfl
 | c::l,j+1,p,hj=>by
  have a:=Zlp l j p (by simpa using hj)
  rw[List.set_cons_succ,Zau,a,Zau];have e:(j+1)*3=(j*3)+1+1+1:=by omega
  rw[e];rfl
theorem ZpX {w:World} {v:Value} {l:List Pce} (h:w.ownsRow 0 108 3 v l.length (Zau l)) (j:Nat) (n:j<l.length) (x:Int):
 ∃ g cap,v=.slice (some ⟨g,0,none⟩) l.length cap∧g<w.heap.size∧l.length<=cap∧w.cell? ⟨g,j*3+2,none⟩=some (.int .i64 (l.getD j Zce).stop)∧w.frozen? ⟨g,j*3+2,none⟩=false∧
  (w.setCell ⟨g,j*3+2,none⟩ (.int .i64 x)).ownsRow 0 108 3 v l.length (Zau (l.set j ⟨(l.getD j Zce).name,(l.getD j Zce).first,x⟩)):=by
 rcases h.2 with ⟨_,D⟩ | ⟨g,cap,cur,m,z,b,u,A,q,p⟩
 ·omega
 ·have c:∀ k,k<3->cur[j*3+k]?=(pcC (l.getD j Zce))[k]?:=fun k B=>by
   have a:=Zfw l j k n B;rw[<-p,List.getElem?_take,if_pos (by omega),Array.getElem?_toList] at a
   exact a
  refine⟨g,cap,m,(Array.getElem?_eq_some_iff.1 b).1,u,?_,frozen_of_row w g _ _ _ b,?_,.inr ⟨g,cap,cur.setIfInBounds (j*3+2) (.int .i64 x),m,z,heap_setCell_same w g _ _ _ _ b,u,A,by simpa using q,?_⟩⟩
  ·rw[cell_of_row w g _ _ _ _ b]
   exact c 2 (by decide)
  ·rw[Zdn,length_set]
  ·rw[Zlp l j _ n]
   have f:=c 0 (by decide)
   have a:=c 1 (by decide)
   rw[<-p];apply List.ext_getElem?;intro i;rw[List.getElem?_take];by_cases e:i<l.length*3
   ·rw[if_pos e,Array.getElem?_toList,Array.getElem?_setIfInBounds]
    simp only [List.getElem?_set,length_set,length_take,Array.length_toList,List.getElem?_take,e,if_true,Array.getElem?_toList];have C:cur.size=cap*3:=q;by_cases d:j*3+2=i
    ·subst d
     rw[if_pos rfl,if_pos rfl,if_pos (by omega),if_pos (by omega)]
    ·rw[if_neg d,if_neg d]
     by_cases t:j*3+1=i
     ·subst t
      rw[if_pos rfl,if_pos (by omega),a]
      rfl
     ·rw[if_neg t]
      by_cases y:j*3=i
      ·subst y
       rw[if_pos rfl,if_pos (by omega)]
       rw[Nat.add_zero] at f;rw[f];rfl
      ·rw[if_neg y]
   ·rw[if_neg e,List.getElem?_eq_none (by simp;omega)]
theorem Zxq (t:TypeId) (L:t≠62) (ax:t≠108) (b o:Nat) (cs:Array Value) (rv pv:Value) (g:Lgb) (X:Value) (l:List Rec) (w:World) (h:Zlo t w b o cs rv pv g) (I:RdR w X l) (ap:g.pcs.length≠0) (az:g.pcs.length<=1000000) (V:g.recs.length+l.length<=10000000)
 (S:∀ p ∈ g.pcs,0<=p.stop∧p.stop<=4611686018427387904):
 Calls prog 54 #[.pointer (some ⟨b,o,none⟩),X] w fun e w'=>e=.returned (.tuple #[])∧ZhS t w b o cs rv pv (g.add l) w':=by
 obtain⟨la,lc,rfl,-⟩:=id I;obtain⟨Z,K,A⟩:=h.recs.shape;obtain⟨m,B⟩:∃ m,g.pcs.length=m+1:=⟨g.pcs.length-1,by omega⟩
 obtain⟨i,C⟩:∃ i,i=(g.pcs.getD m Zce).stop:=⟨_,rfl⟩
 have aj:0<=i∧i<=4611686018427387904:=by
  rw[C];refine S _ ?_;rw[show g.pcs.getD m Zce=g.pcs[m]'(by omega) by simp[List.getD,show m<g.pcs.length by omega]]
  exact getElem_mem _
 obtain⟨j,O,z,M,af,-,-,-⟩:=ZpX h.pcs m (by omega) 0
 -- behind the append,and the store of the records
 have ad:Hid (∀ d f,Zbq f 0 d (g.recs++l)->w.grownBy f rv.ownBlock->(d.ownBlock=rv.ownBlock∨d.ownBlock=some w.heap.size)->
  (f.cell? ⟨b,o+1,none⟩=some rv∧f.frozen? ⟨b,o+1,none⟩=false)∧
  ((f.setCell ⟨b,o+1,none⟩ d).cell? ⟨b,o+2,none⟩=some pv∧(f.setCell ⟨b,o+1,none⟩ d).cell? ⟨j,m*3+2,none⟩=some (.int .i64 i)∧(f.setCell ⟨b,o+1,none⟩ d).frozen? ⟨j,m*3+2,none⟩=false)∧
  ZhS t w b o cs rv pv (g.add l) (((f.setCell ⟨b,o+1,none⟩ d)).setCell ⟨j,m*3+2,none⟩ (.int .i64 (i+l.length)))):=ZZ (fun d f q y hv=>by
  have aa:∀ k,k<w.heap.size->rv.ownBlock≠some k->f.heap[k]?=w.heap[k]?:=fun k hk ak=>y.block k hk (fun e=>ak e.symm)
  have v:Bk t f b cs:=h.blk.keep (aa b h.blk.lt (h.neR L));have x:pv.ownBlock=some j:=by rw[z];rfl
  have G:j≠b:=fun e=>h.neP ax (by rw[x,e])
  have aw:rv.ownBlock≠some j:=fun e=>h.neRP j e x
  have Q:(f.setCell ⟨b,o+1,none⟩ d).ownsRow 0 108 3 pv g.pcs.length (Zau g.pcs):=Zae h.pcs fun k hk=>by
   have e:k=j:=by rw[x] at hk;exact(Option.some.inj hk).symm
   subst e;rw[Below.heap_setCell _ _ _ _ G,aa _ M aw]
  obtain⟨g',aH,J,-,-,N,au,ar⟩:=ZpX Q m (by omega) (i+l.length)
  have eg:g'=j:=by
   rw[z] at J
   injection J with u _ _
   injection u with u
   injection u with u
   exact u.symm
  subst eg;rw[<-C] at N
  have aA:d.ownBlock≠some b:=fun e=>by
   obtain⟨av,E⟩:=ZaR q e;exact(v.ne E L) rfl
  have ao:d.ownBlock≠some g':=fun e=>by
   obtain⟨av,E⟩:=ZaR q e;obtain⟨ay,ae⟩:=ZaR Q x
   have am:Bk 108 f g' ay:=by
    have:=ae;unfold Bk at this ⊢;rw[Below.heap_setCell _ _ _ _ G] at this;exact this
   exact(E.ne am (by decide)) rfl
  refine⟨⟨(v.cell _ h.c1).1,(v.cell _ h.c1).2⟩,⟨?_,N,au⟩,d,pv,?_,?_,?_⟩
  ·refine((v.set (o+1) d).cell _ ?_).1
   rw[Array.getElem?_setIfInBounds,if_neg (by omega)]
   exact h.c2
  ·have an:((cs.setIfInBounds o (.int .i64 (g.add l).first)).setIfInBounds (o+1) d).setIfInBounds (o+2) pv=cs.setIfInBounds (o+1) d:=by
    have u:(g.add l).first=g.first:=rfl;rw[u,ZhT h.c0];exact ZhT (by rw[Array.getElem?_setIfInBounds,if_neg (by omega)];exact h.c2)
   rw[an];have aq:o+1<cs.size:=(Array.getElem?_eq_some_iff.1 h.c1).1;refine⟨(v.set _ _).other _ _ _ (fun e=>G e.symm),?_,by simp[aq],?_,Zae q fun k hk=>?_,?_⟩
   ·rw[Array.getElem?_setIfInBounds,if_neg (by omega)]
    exact h.c0
   ·rw[Array.getElem?_setIfInBounds,if_neg (by omega)]
    exact h.c2
   ·rw[Below.heap_setCell _ _ _ _ (fun e=>ao (by subst e;exact hk)),Below.heap_setCell _ _ _ _ (fun e=>aA (by subst e;exact hk))]
   ·have e3:(g.add l).pcs=g.pcs.set m ⟨(g.pcs.getD m Zce).name,(g.pcs.getD m Zce).first,i+l.length⟩:=by
     show ZbY g.pcs l.length=_;unfold ZbY;rw[B,Nat.add_sub_cancel,<-C]
    rw[e3,length_set];exact ar
  ·exact((Zap.ofGrown (F:=Zmv b rv pv) y fun k e _=>.inr (.inl e)).setCell _ (fun _=>.inl rfl) _).setCell _ (fun _=>.inr (.inr x)) _
  ·intro k hk
   rcases hk with hk | hk | hk
   ·exact .inl (.inl hk)
   ·rcases hv with hv | hv
    ·exact .inl (.inr (.inl (by rw[<-hv];exact hk)))
    ·rw[hv] at hk
     have:=Option.some.inj hk;exact .inr (by omega)
   ·exact .inl (.inr (.inr hk)))
 have ai:Hid (Zbq w 0 (.slice Z g.recs.length K) g.recs):=ZZ (by rw[<-A];exact h.recs)
 have ac:=ZZ I;have D:=ZZ A;have aB:=ZZ z;have ag:=ZZ V;obtain⟨P,-⟩:=h.blk.cell _ h.c1;rw[A] at P;have hw:IntKind.i64.wrap (i+(l.length:Int))=i+l.length:=by rw[IntKind.wrap_i64];omega
 have aD:(m:Int)<=1000000:=by omega
 have al:g.pcs.length=m+1:=B;have ah:Hid (pv=.slice (some ⟨j,0,none⟩) (m+1) O):=ZZ (by rw[z,B])
 have aE:(l.length:Int)<=10000000:=by omega
 obtain⟨aG,aC⟩:=aj;have aF:m+1<=O:=by omega
 clear A z h I S C ap az V B al af M
 go_enter func54,ntmps54
 go_wp2_with(at_builtin;refine(fun(h:True->_)=>h trivial) ?_)
 intro _;refine ZeD w rfl _ _ rfl (.slice Z g.recs.length K) g.recs rfl ai.o _ l rfl ac.o ag.o ?_;intro d f q y hv;obtain⟨⟨W,s1⟩,⟨R,u3,u4⟩,Y⟩:=ad.o d f q (by rw[D.o];exact y) (by rw[D.o];exact hv)
 rw[D.o] at W;rw[ah.o] at R;have T:=ZZ Y
 obtain⟨a9,n9,c9,ab⟩:∃ a n c,d=.slice a n c:=by
  obtain⟨a,c,hh⟩:=q.shape;exact⟨a,_,c,hh⟩
 subst ab;obtain⟨U,H⟩:∃ U,U=f.setCell ⟨b,o+1,none⟩ (.slice a9 n9 c9):=⟨_,rfl⟩;rw[<-H] at R u3 u4 T;clear Y q y hv P
 go_upto_region 1 with fail
 rw[<-H];clear H W s1
 go_region
 go_wp2;go_end0;exact⟨rfl,T.o.more (Below.refl _ _).drew⟩
theorem Zbq.empty (w:World) (B:Nat) (a:B<=w.heap.size):Zbq (w.alloc (.cells #[] 62)) B (.slice (some ⟨w.heap.size,0,none⟩) 0 0) []:=
 ⟨rfl,.inr ⟨w.heap.size,0,#[],rfl,a,heap_alloc_new w _,Nat.le_refl _,Nat.zero_le _,rfl,rfl⟩⟩
theorem Znj (v:Value) (l:List Rec) (w:World) (f:RdR w v l) (t:l.length<=1000000):
 Calls prog 44 #[v] w fun e w'=>∃ v',e=.returned v'∧Zbq w' w.heap.size v' l∧Below w.heap.size w w':=by
 have j:=ZZ f;obtain⟨ao,cap,rfl,m,-,b,-⟩:=f
 cases ao with
 | none=>
  obtain rfl:cap=0:=b rfl;obtain rfl:l=[]:=List.eq_nil_of_length_eq_zero (by omega)
  clear b m;have i:∀ w,(binOp .eql 29 (.slice none 0 0) (.slice none 0 0)).run prog w=.ok (.bool true) w:=fun w=>run_eql_slice_nil w _ _ none 0 0 underlying29
  go_enter func44,ntmps44
  go_wp2;go_ret;exact⟨_,rfl,Zbq.nil _ _,Below.refl _ _⟩
 | some a=>
  clear b;have i:∀ w,(binOp .eql 29 (.slice (some a) l.length cap) (.slice none 0 0)).run prog w=.ok (.bool false) w:=fun w=>run_eql_slice_nil w _ _ (some a) _ _ underlying29
  have g:Hid (∀ X,Below w.heap.size w (w.alloc X)):=fun X=>(Below.refl _ _).alloc zL X
  have h:Hid (Zbq (w.alloc (.cells #[] 62)) w.heap.size (.slice (some ⟨w.heap.size,0,none⟩) 0 0) []):=ZZ (Zbq.empty w _ zL)
  go_enter func44,ntmps44
  go_wp2_with(at_builtin;refine ZhQ _ rfl _ _ rfl w.heap.size _ [] rfl h.o _ l rfl (j.o.below (g.o _) zL) (by simp;omega) (by simp) ?_)
  intro q p d c;have n:=ZZ d;have k:=ZZ ((g.o _).trans c);clear d c;go_wp2;go_ret;exact⟨_,rfl,n.o,k.o⟩
theorem Zxr (w:World) (ao:Option Addr) (l:List Rec) (cap:Nat) (b:RdR w (.slice ao l.length cap) l) (i:Nat) (g:i<=l.length):
 ∃ a' c',RdR w (.slice a' (l.drop i).length c') (l.drop i)∧∀ x:Int,x=(i:Int)->∀ W,(Instr.sliceAt 29 (.slice ao l.length cap) (some (.int .i64 x)) none none).run prog W=.ok (.slice a' (l.drop i).length c') W:=by
 have d:l.length<=cap:=by
  obtain⟨a,c,e,h,-⟩:=b;simp only [Value.slice.injEq] at e;omega
 have h:=b.mid i l.length cap g zL d zL;rw[List.take_of_length_le (by rw[length_drop];omega)] at h
 unfold sliced at h;refine⟨_,_,by rw[length_drop];exact h,fun x f W=>?_⟩
 subst f;rw[run_sliceAt_slice W 29 _ _ _ _ Zgt,run_slice_l W 29 ao l.length cap Zgt .i64 (i:Int) (by omega) (by omega),ZkX,Ztq,length_drop]
 rfl
theorem Zzw (w:World) (ao:Option Addr) (l:List Rec) (cap:Nat) (b:RdR w (.slice ao l.length cap) l) (i j:Nat) (f:i<=j) (g:j<=l.length):
 ∃ a' c',RdR w (.slice a' (j-i) c') ((l.drop i).take (j-i))∧∀ x y:Int,x=(i:Int)->y=(j:Int)->∀ W,(Instr.sliceAt 29 (.slice ao l.length cap) (some (.int .i64 x)) (some (.int .i64 y)) none).run prog W=.ok (.slice a' (j-i) c') W:=by
 have m:l.length<=cap:=by
  obtain⟨a,c,e,h,-⟩:=b;simp only [Value.slice.injEq] at e;omega
 have h:=b.mid i j cap f g (by omega) zL
 unfold sliced at h;refine⟨_,_,h,fun x y d k W=>?_⟩
 subst d k;rw[run_sliceAt_slice W 29 _ _ _ _ Zgt,run_slice_lh W 29 ao l.length cap Zgt .i64 .i64 (i:Int) (j:Int) (by omega) (by omega) (by omega),ZkX,Ztq]
 rfl
theorem ZeO.toLog {M I:Nat->Prop} {w:World} {p pd:Nat} {L:Zhf} {s:Sto} (h:ZeO M I w p pd L s):Zlo 76 w p 1 (stC pd L s) L.rv L.pv s.log:=
 ⟨h.head,rfl,rfl,rfl,h.recs,h.pcs⟩
theorem ZeO.logF {M I:Nat->Prop} {w:World} {p pd:Nat} {L:Zhf} {s:Sto} (h:ZeO M I w p pd L s):∀ k,Zmv p L.rv L.pv k->M k:=fun k hk=>by
 rcases hk with rfl | hk | hk
 ·exact h.mh
 ·exact h.mr k hk
 ·exact h.mp k hk
theorem ZeO.ofLog {M I:Nat->Prop} {w w':World} {p pd:Nat} {L:Zhf} {s:Sto} {g:Lgb} (h:ZeO M I w p pd L s) (t:ZhS 76 w p 1 (stC pd L s) L.rv L.pv g w'):
 ∃ M' L',ZeO M' I w' p pd L' { s with log:=g }∧L'.nl=L.nl∧L'.nt=L.nt∧Zap M w w'∧∀ k,M' k->M k∨w.heap.size<=k:=by
 obtain⟨c,d,a,l,n⟩:=t;have e:Zap M w w':=l.mono h.logF;have q:∀ k,I k->w'.heap[k]?=w.heap[k]?:=fun k hk=>e.block k (h.ltI k hk) fun a=>h.dis k a hk
 have v:((((stC pd L s).setIfInBounds 1 (.int .i64 g.first)).setIfInBounds (1+1) c).setIfInBounds (1+2) d)=stC pd { L with rv:=c,pv:=d } { s with log:=g }:=rfl
 rw[v] at a
 have u:∀ k,Zmv p c d k->k<w'.heap.size:=fun k hk=>by
  rcases hk with rfl | hk | hk
  ·exact a.blk.lt
  ·obtain⟨i,b⟩:=ZaR a.recs hk
   exact b.lt
  ·obtain⟨i,b⟩:=ZaR a.pcs hk
   exact b.lt
 have z:∀ k,L.bv.ownBlock=some k->¬ Zmv p L.rv L.pv k:=fun k hk hl=>by
  obtain⟨i,b⟩:=ZaR h.bases hk;rcases hl with rfl | hl | hl
  ·exact(b.ne h.head (by decide)) rfl
  ·obtain⟨y,f⟩:=ZaR h.recs hl
   exact(b.ne f (by decide)) rfl
  ·obtain⟨y,f⟩:=ZaR h.pcs hl
   exact(b.ne f (by decide)) rfl
 refine⟨fun k=>M k∨Zmv p c d k,{ L with rv:=c,pv:=d },⟨a.blk,a.recs,a.pcs,Zae h.bases fun k hk=>?_,h.bsEq,h.now.keep h.inow q,fun x m=>(h.base x m).keep (h.ibase x m) q,.inr (.inl rfl),fun k hk=>.inr (.inr (.inl hk)),fun k hk=>.inr (.inr (.inr hk)),fun k hk=>.inl (h.mb k hk),h.inow,h.ibase,fun k hk=>?_,fun k hk=>Nat.lt_of_lt_of_le (h.ltI k hk) e.size,fun k hk j=>?_⟩,rfl,rfl,e,fun k hk=>?_⟩
 ·obtain⟨i,b⟩:=ZaR h.bases hk
  exact l.block k b.lt (z k hk)
 ·rcases hk with hk | hk
  ·exact Nat.lt_of_lt_of_le (h.ltM k hk) e.size
  ·exact u k hk
 ·rcases hk with hk | hk
  ·exact h.dis k hk j
  ·rcases n k hk with h1 | h1
   ·exact h.dis k (h.logF k h1) j
   ·have:=h.ltI k j
    omega
 ·rcases hk with hk | hk
  ·exact .inl hk
  ·rcases n k hk with h1 | h1
   ·exact .inl (h.logF k h1)
   ·exact .inr h1
theorem ZuU {w:World} {v:Value} {l:List Pce} (h:w.ownsRow 0 108 3 v l.length (Zau l)) (e:0<l.length):
 ∃ g cap,v=.slice (some ⟨g,0,none⟩) l.length cap∧w.cell? ⟨g,1,none⟩=some (.int .i64 (l.getD 0 Zce).first):=by
 rcases h.2 with ⟨_,k⟩ | ⟨g,cap,cur,b,j,d,i,f,m,c⟩
 ·omega
 ·refine⟨g,cap,b,?_⟩
  have a:=Zfw l 0 1 e (by decide)
  rw[<-c,List.getElem?_take,if_pos (by omega),Array.getElem?_toList] at a
  rw[cell_of_row w g _ _ _ _ d];exact a
theorem Zbq.own0 {w:World} {B:Nat} {v:Value} {l:List Rec} (h:Zbq w B v l):Zbq w 0 v l:=h.mono (Nat.zero_le _)
theorem Zbq.freshR {w:World} {B:Nat} {v:Value} {l:List Rec} (h:Zbq w B v l):∀ b,v.ownBlock=some b->B<=b∧b<w.heap.size:=fun b a=>World.ownsRow.lt h b a
theorem Zxs (t:TypeId) (an:t≠108) (b o:Nat) (cs:Array Value) (rv pv:Value) (g:Lgb) (l:Value) (left:List Pce) (base:Int) (w:World) (h:Zlo t w b o cs rv pv g) (G:w.ownsRow 0 108 3 l left.length (Zau left))
 (au:left.length<=1000000) (ay:g.recs.length<=1000000) (ap:∀ r ∈ g.recs,Zga r) (ag:g.first<=ZbK left base) (am:ZbK left base<=g.first+g.recs.length) (ax:0<=g.first) (aC:g.first+g.recs.length<=4611686018427387904):
 Calls prog 70 #[.pointer (some ⟨b,o,none⟩),l,.int .i64 base] w fun e w'=>e=.returned (.tuple #[])∧
  ∃ v,Zlo t w' b o (((cs.setIfInBounds o (.int .i64 (g.letGo left base).first)).setIfInBounds (o+1) v).setIfInBounds (o+2) l) v l (g.letGo left base)∧Zap (fun k=>k=b) w w'∧∀ k,v.ownBlock=some k->w.heap.size<=k:=by
 obtain⟨f,x⟩:∃ f,f=ZbK left base:=⟨_,rfl⟩;rw[<-x] at ag am;obtain⟨ra,rc,H⟩:=h.recs.shape;obtain⟨la,lc,ad⟩:=ZbW G;have af:=h.recs.rd ap;rw[H] at af;obtain⟨a',c',Y,hcut⟩:=Zxr w ra g.recs rc af (f-g.first).toNat (by omega)
 have av:=hcut (f-g.first) (by omega)
 obtain⟨d0,f0⟩:=h.blk.cell _ h.c0;obtain⟨S,f1⟩:=h.blk.cell _ h.c1;obtain⟨d2,f2⟩:=h.blk.cell _ h.c2;rw[H] at S;have aF:=ZZ Y
 have C:Hid (∀ W,Below w.heap.size w W->(W.cell? ⟨b,o,none⟩=some (.int .i64 g.first)∧W.cell? ⟨b,o+1,none⟩=some (.slice ra g.recs.length rc))∧(W.frozen? ⟨b,o,none⟩=false∧W.frozen? ⟨b,o+1,none⟩=false∧W.frozen? ⟨b,o+2,none⟩=false)∧W.cell? ⟨b,o+2,none⟩=some pv):=ZZ (fun W u=>by
  have j:=h.blk.keep (u.block b h.blk.lt)
  exact⟨⟨(j.cell _ h.c0).1,by rw[<-H];exact(j.cell _ h.c1).1⟩,⟨(j.cell _ h.c0).2,(j.cell _ h.c1).2,(j.cell _ h.c2).2⟩,(j.cell _ h.c2).1⟩)
 have ai:Hid (Below w.heap.size w w.drew):=ZZ ((Below.refl _ _).drew)
 have Q:Hid (∀ W,Below w.heap.size w W->Calls prog 44 #[.slice a' (g.recs.drop (f-g.first).toNat).length c'] W fun e w'=>∃ v',e=.returned v'∧Zbq w' w.heap.size v' (g.recs.drop (f-g.first).toNat)∧Below w.heap.size w w'):=ZZ (fun W J=>(Znj _ _ W (Y.below J zL) (by rw[length_drop];omega)).mono (by
  rintro e w' ⟨v',rfl,y,u⟩
  exact⟨v',rfl,y.mono J.size,J.trans (u.mono J.size)⟩))
 have Z:Hid (∀ i d,Zbq d w.heap.size i (g.recs.drop (f-g.first).toNat)->Below w.heap.size w d->
  ∃ v,Zlo t (((d.setCell ⟨b,o+1,none⟩ i).setCell ⟨b,o,none⟩ (.int .i64 f)).setCell ⟨b,o+2,none⟩ l) b o (((cs.setIfInBounds o (.int .i64 (g.letGo left base).first)).setIfInBounds (o+1) v).setIfInBounds (o+2) l) v l (g.letGo left base)∧Zap (fun k=>k=b) w (((d.setCell ⟨b,o+1,none⟩ i).setCell ⟨b,o,none⟩ (.int .i64 f)).setCell ⟨b,o+2,none⟩ l)∧∀ k,v.ownBlock=some k->w.heap.size<=k):=ZZ (fun i d y u=>by
  have j:=h.blk.keep (u.block b h.blk.lt);have I:(g.letGo left base).first=f:=x.symm;have aA:o<cs.size:=(Array.getElem?_eq_some_iff.1 h.c0).1;have aB:o+1<cs.size:=(Array.getElem?_eq_some_iff.1 h.c1).1;have ar:o+2<cs.size:=(Array.getElem?_eq_some_iff.1 h.c2).1
  have aw:(((cs.setIfInBounds (o+1) i).setIfInBounds o (.int .i64 f)).setIfInBounds (o+2) l)=(((cs.setIfInBounds o (.int .i64 f)).setIfInBounds (o+1) i).setIfInBounds (o+2) l):=by
   congr 1
   exact Array.setIfInBounds_comm _ _ (by omega)
  have aq:∀ k,k≠b->(((d.setCell ⟨b,o+1,none⟩ i).setCell ⟨b,o,none⟩ (.int .i64 f)).setCell ⟨b,o+2,none⟩ l).heap[k]?=d.heap[k]?:=fun k p=>by
   rw[Below.heap_setCell _ _ _ _ p,Below.heap_setCell _ _ _ _ p,Below.heap_setCell _ _ _ _ p]
  refine⟨i,?_,?_,fun k p=>(y.freshR k p).1⟩
  ·rw[I,<-aw]
   refine⟨((j.set _ _).set _ _).set _ _,?_,?_,?_,Zae (show d.ownsRow 0 62 7 i (g.letGo left base).recs.length (Zan (g.letGo left base).recs) from by show Zbq d 0 i (g.recs.drop (ZbK left base-g.first).toNat);rw[<-x];exact y.own0) fun k p=>aq k (fun e=>?_),Zae G fun k p=>?_⟩
   ·rw[Array.getElem?_setIfInBounds,if_neg (by omega),Array.getElem?_setIfInBounds,if_pos rfl,if_pos (by simpa using aA),I]
   ·rw[Array.getElem?_setIfInBounds,if_neg (by omega),Array.getElem?_setIfInBounds,if_neg (by omega),Array.getElem?_setIfInBounds,if_pos rfl,if_pos aB]
   ·rw[Array.getElem?_setIfInBounds,if_pos rfl,if_pos (by simpa using ar)]
   ·subst e
    have:=(y.freshR _ p).1;have:=h.blk.lt;omega
   ·obtain⟨aJ,ak⟩:=ZaR G p
    rw[aq k (ak.ne h.blk (fun e=>an e.symm)),u.block k ak.lt]
  ·exact(((Zap.ofBelow (F:=fun k=>k=b) u).setCell (b:=b) _ (fun _=>rfl) _).setCell (b:=b) _ (fun _=>rfl) _).setCell (b:=b) _ (fun _=>rfl) _)
 have hw:IntKind.i64.wrap (f-g.first)=f-g.first:=by rw[IntKind.wrap_i64];omega
 obtain⟨n1,ah⟩:∃ n1,n1=(g.recs.drop (f-g.first).toNat).length:=⟨_,rfl⟩;rw[<-ah] at av Q
 obtain⟨pa,pn,pc,aj⟩:∃ a n c,pv=.slice a n c:=by
  obtain⟨a,c,B⟩:=ZbW h.pcs;exact⟨a,_,c,B⟩
 rw[aj] at C d2;have az:-9223372036854775808<=f-g.first∧f-g.first<=9223372036854775807:=by omega
 have ab:Hid (left.length≠0->∃ D al,l=.slice (some ⟨D,0,none⟩) left.length al∧w.cell? ⟨D,1,none⟩=some (.int .i64 f)):=ZZ (fun m=>by
  obtain⟨D,cap,I,e2⟩:=ZuU G (by omega)
  have e3:f=(left.getD 0 Zce).first:=by rw[x];unfold ZbK;rw[if_neg m]
  exact⟨D,cap,I,by rw[e3];exact e2⟩)
 have aa:Hid (left.length=0->base=f):=ZZ (fun m=>by rw[x];unfold ZbK;rw[if_pos m])
 obtain⟨aD,aH⟩:=az;clear H Y hcut h G x ap af ah ag am ax aC ay aj d2 f2 an;by_cases m:left.length=0
 ·have ao:decide ((left.length:Int)>0)=false:=decide_eq_false (by omega)
  obtain rfl:=aa.o m;rw[m] at ad ao;subst ad;clear m ab aa au
  go_enter func70,ntmps70
  go_upto_region 3 with fail
  go_cut[] (fun O=>Hid (∃ i d,O=d.setCell ⟨b,o+1,none⟩ i∧Zbq d w.heap.size i (g.recs.drop (base-g.first).toNat)∧Below w.heap.size w d))
  case first=>
   go_region_with
    (first | (go_at_call 44;refine(Q.o _ (by first | exact ai.o | exact Below.refl _ _)).mono ?_;rintro e L ⟨N,rfl,q,z⟩;have ae:=ZZ q;have E:=ZZ z;obtain⟨z1,z2,z3,U⟩:∃ a n c,N=Value.slice a n c:=(by obtain⟨a,c,B⟩:=q.shape;exact⟨a,_,c,B⟩);subst U;obtain⟨⟨K,V⟩,⟨M,R,P⟩,-⟩:=C.o L E.o;clear q z))
   all_goals
    go_wp2_with fail
    go_meet
    exact ZZ ⟨_,_,rfl,ae.o,E.o⟩
  case rest=>
   obtain⟨i,d,ac,A,j⟩:=hcut.o;subst ac;have X:=ZZ (Z.o i d A j);obtain⟨⟨K,V⟩,⟨M,R,P⟩,q2⟩:=C.o d j;clear hcut A j d0 S f0 f1;go_wp2;go_end0;exact⟨rfl,X.o⟩
 ·have ao:decide ((left.length:Int)>0)=true:=decide_eq_true (by omega)
  have aG:(0:Int)<(left.length:Int):=by omega
  obtain⟨D,al,T,aE⟩:=ab.o m;rw[T] at Z;rw[T];clear m ab aa ad T;have aI:(left.length:Int)<=1000000:=by omega
  generalize left.length=ln at *
  go_enter func70,ntmps70
  go_upto_region 3 with fail
  go_cut[] (fun O=>Hid (∃ i d,O=d.setCell ⟨b,o+1,none⟩ i∧Zbq d w.heap.size i (g.recs.drop (f-g.first).toNat)∧Below w.heap.size w d))
  case first=>
   go_region_with
    (first | (go_at_call 44;refine(Q.o _ (by first | exact ai.o | exact Below.refl _ _)).mono ?_;rintro e L ⟨N,rfl,q,z⟩;have ae:=ZZ q;have E:=ZZ z;obtain⟨z1,z2,z3,U⟩:∃ a n c,N=Value.slice a n c:=(by obtain⟨a,c,B⟩:=q.shape;exact⟨a,_,c,B⟩);subst U;obtain⟨⟨K,V⟩,⟨M,R,P⟩,-⟩:=C.o L E.o;clear q z))
   all_goals
    go_wp2_with fail
    go_meet
    exact ZZ ⟨_,_,rfl,ae.o,E.o⟩
  case rest=>
   obtain⟨i,d,ac,A,j⟩:=hcut.o;subst ac;have X:=ZZ (Z.o i d A j);obtain⟨⟨K,V⟩,⟨M,R,P⟩,q2⟩:=C.o d j;clear hcut A j d0 S f0 f1;go_wp2;go_end0;exact⟨rfl,X.o⟩
theorem ZpY {M I:Nat->Prop} {p pd:Nat} {L:Zhf} {s:Sto} (a b:Int) (w:World) (h:ZeO M I w p pd L s) (y:ZrZ s) (P:∀ r ∈ s.log.recs,Zga r) (ah:s.log.recs.length<=1000000):
 Calls prog 17 #[ptr p,.int .i64 a,.int .i64 b] w fun e w'=>∃ v,e=.returned (.tuple #[v,.int .i64 (ZjQ s a b).2])∧Zbq w' w.heap.size v (ZjQ s a b).1∧Below w.heap.size w w':=by
 have t:=ZZ (fun W (j:Below w.heap.size w W)=>Zlk W (h.below j) y)
 have B:=ZZ (fun W (j:Below w.heap.size w W)=>Zng W (h.below j))
 unfold ZjQ;obtain⟨nx,g⟩:∃ nx,nx=s.next:=⟨_,rfl⟩;obtain⟨f,c⟩:∃ f,f=s.log.first:=⟨_,rfl⟩;have n:nx=f+s.log.recs.length:=by rw[g,c];rfl
 rw[<-g] at t ⊢;rw[<-c] at B ⊢;have m:=y.f0;have k:=y.f1;rw[<-c] at m;rw[<-g] at k;by_cases g1:a<0
 ·rw[if_pos (.inl g1)]
  clear g c n m k h
  go_enter func17,ntmps17
  go_wp2;go_ret2;exact⟨_,rfl,Zbq.nil _ _,Below.refl _ _⟩
 by_cases g2:b<a
 ·rw[if_pos (.inr (.inl g2))]
  clear g c n m k h
  go_enter func17,ntmps17
  go_wp2;go_ret2;exact⟨_,rfl,Zbq.nil _ _,Below.refl _ _⟩
 by_cases X:nx<b
 ·rw[if_pos (.inr (.inr X))]
  clear g c n m k h
  go_enter func17,ntmps17
  go_wp2_with fail
  refine(t.o _ (Below.refl _ _)).mono ?_;rintro e u ⟨rfl,d⟩;have i:=ZZ d;clear d;go_wp2;go_ret2;exact⟨_,rfl,Zbq.nil _ _,i.o⟩
 rw[if_neg (by omega)]
 by_cases H:a<f
 ·rw[if_pos H]
  clear g c n m k h
  go_enter func17,ntmps17
  go_wp2_with fail
  refine(t.o _ (Below.refl _ _)).mono ?_;rintro e u ⟨rfl,d⟩;have i:=ZZ d;clear d
  go_wp2_with fail
  refine(B.o _ i.o).mono ?_;rintro e Y ⟨rfl,rfl⟩;go_wp2;go_ret2;exact⟨_,rfl,Zbq.nil _ _,i.o⟩
 rw[if_neg H];obtain⟨C,z,A⟩:=h.recs.shape;have D:=h.recs.rd P;rw[A] at D;obtain⟨a',c',q,hcut⟩:=Zzw w C s.log.recs z D (a-f).toNat (b-f).toNat (by omega) (by omega)
 have aa:=hcut (a-f) (b-f) (by omega) (by omega)
 have K:Hid ((s.log.recs.drop (a-f).toNat).take ((b-f).toNat-(a-f).toNat)=(s.log.recs.take (b-f).toNat).drop (a-f).toNat):=ZZ (by rw[List.drop_take])
 rw[K.o] at q;generalize (s.log.recs.take (b-f).toNat).drop (a-f).toNat=l at *
 have Q:Hid (∀ W,Below w.heap.size w W->Calls prog 44 #[.slice a' ((b-f).toNat-(a-f).toNat) c'] W fun e w'=>∃ v',e=.returned v'∧Zbq w' w.heap.size v' l∧Below w.heap.size w w'):=ZZ (fun W x=>(Znj _ _ W (q.below x zL) (by
  obtain⟨_,_,e,-⟩:=q
  injection e with _ e _
  omega)).mono (by
  rintro e w' ⟨v',rfl,V,j⟩
  exact⟨v',rfl,V.mono x.size,x.trans (j.mono x.size)⟩))
 have N:Hid (∀ W,Below w.heap.size w W->W.cell? ⟨p,1,none⟩=some (.int .i64 f)∧W.cell? ⟨p,2,none⟩=some (.slice C s.log.recs.length z)):=ZZ (fun W j=>by
  obtain⟨-,c1,R,-⟩:=(h.below j).cs;rw[A] at R;rw[c]
  exact⟨c1,R⟩)
 have ac:IntKind.i64.wrap (a-f)=a-f:=by rw[IntKind.wrap_i64];omega
 have ad:IntKind.i64.wrap (b-f)=b-f:=by rw[IntKind.wrap_i64];omega
 have U:-9223372036854775808<=a-f∧a-f<=9223372036854775807:=by omega
 have Z:-9223372036854775808<=b-f∧b-f<=9223372036854775807:=by omega
 obtain⟨ae,ag⟩:=U;obtain⟨ab,af⟩:=Z;obtain⟨E,S⟩:∃ E,E=(b-f).toNat-(a-f).toNat:=⟨_,rfl⟩;rw[<-S] at aa Q;clear g c n m k h q hcut D A S K P y
 go_enter func17,ntmps17
 go_wp2_with fail
 refine(t.o _ (Below.refl _ _)).mono ?_;rintro e u ⟨rfl,d⟩;have i:=ZZ d;clear d
 go_wp2_with fail
 refine(B.o _ i.o).mono ?_;rintro e u ⟨rfl,rfl⟩;have J:Hid (Below w.heap.size w u.drew):=ZZ (i.o.drew)
 go_upto_region 5 with fail
 go_region_held(fun W=>W.cell? ⟨p,1,none⟩=some (.int .i64 f)∧W.cell? ⟨p,2,none⟩=some (.slice C s.log.recs.length z))
  (first | (with_reducible exact N.o _ J.o) | (with_reducible exact N.o _ O.o))
  (first | (go_at_call 44;refine(Q.o _ J.o).mono ?_;rintro e Y ⟨v2,rfl,F,G⟩;have T:=ZZ F;have O:=ZZ G;clear F G))
 all_goals
  go_wp2;go_ret2;exact⟨_,rfl,T.o,O.o⟩
theorem ZAR {M I:Nat->Prop} {p pd:Nat} {L:Zhf} {s:Sto} (w:World) (h:ZeO M I w p pd L s) (ac:s.now.st.L.length<=1000000) (aa:s.now.tab.length<=1000000):
 Calls prog 21 #[ptr p] w fun e w'=>ZAP w s.now e w':=by
 obtain⟨c,g⟩:∃ c,c=w.alloc (.cells #[.int .i64 0,.int .i64 0,.slice none 0 0,.bool false,.int .i64 0,.slice none 0 0] 41):=⟨_,rfl⟩;have m:Hid (Below w.heap.size w c):=ZZ (by rw[g];exact ZcW _ _)
 have C:Hid (Bn c w.heap.size #[.int .i64 0,.int .i64 0,.slice none 0 0,.bool false,.int .i64 0,.slice none 0 0]):=ZZ (by rw[g];exact heap_alloc_new w _)
 have f:=ZZ (h.below m.o);obtain⟨-,-,-,-,-,⟨c5,c6,Z,c8,c9,S⟩,-⟩:=f.o.cs;have j:=ZZ (ZuT (L.nx s) c f.o.now ac aa);obtain⟨R,D,lc,ta,G,J,A,X⟩:=f.o.now.shape;have x:L.nl=.slice R D lc:=A;have y:L.nt=.slice ta G J:=X;rw[x] at Z;rw[y] at S
 have W:Hid (snV (L.nx s)=.agg #[.int .i64 s.now.idx,.int .i64 s.now.st.kind,.slice R D lc,.bool s.now.st.shut,.int .i64 s.now.st.eng,.slice ta G J]):=ZZ (by
  unfold snV snC Zhf.nx
  dsimp only
  rw[x,y])
 rw[W.o] at j;have H:(L.nx s).1=s.now:=rfl;rw[H] at j;clear h A X x y W f H
 go_enter func21,ntmps21
 go_upto_region 1 with fail
 rw[<-g];clear g
 go_wp2_with fail
 refine j.o.mono ?_;rintro e W1 ⟨vl,vt,rfl,u,V,N,q⟩;have ab:=ZZ (m.o.trans (q.mono m.o.size));have d:=ZZ u;have n:=ZZ (And.intro V N);have a:=C.o.below q zL;have Y:=ZZ m.o.size;obtain⟨z0,y0⟩:=a.cell 0;obtain⟨z1,y1⟩:=a.cell 1;obtain⟨z2,y2⟩:=a.cell 2;obtain⟨z3,y3⟩:=a.cell 3;obtain⟨z4,y4⟩:=a.cell 4;obtain⟨z5,y5⟩:=a.cell 5;obtain⟨xa,P,B,K,T,O,Q,F⟩:=u.shape
 dsimp only at Q F
 subst Q F;have U:w.heap.size<c.heap.size:=C.o.lt;have z:=ZZ U;unfold snV snC
 dsimp only
 clear q a c5 c6 Z c8 c9 S u V N j U;go_wp2;refine bodyPost_ret (v:=.agg #[.int .i64 s.now.idx,.int .i64 s.now.st.kind,.slice xa P B,.bool s.now.st.shut,.int .i64 s.now.st.eng,.slice K T O]) (by simp[results,Tryz.results21,go_sem,z0,z1,z2,z3,z4,z5]) rfl ?_
 have E:=Ztp W1 w.heap.size (.int .i64 s.now.idx) (.int .i64 s.now.st.kind) (.slice xa P B) (.bool s.now.st.shut) (.int .i64 s.now.st.eng) (.slice K T O);refine⟨_,_,rfl,⟨d.o.l.but E (.inr fun b h=>?_),d.o.t.but E (.inr fun b h=>?_),d.o.k,d.o.e,d.o.i⟩,fun b h=>?_,fun b h=>?_,ZhM ab.o _ (by omega) _ _ _ _ _ _⟩
 ·have:=n.o.1 b h
  have:=z.o;omega
 ·have:=n.o.2 b h
  have:=z.o;omega
 ·exact Nat.le_trans Y.o (n.o.1 b h)
 ·exact Nat.le_trans Y.o (n.o.2 b h)
structure Stp where
 g:Nat
 bd:Array Value
 cp:Array Value
def Stp.val (s:Stp):Value:=.func (.func s.g) s.bd s.cp
theorem ZpZ (b y cap:Nat) (n:Nat) (fs:Nat->Stp) (w:World) (P:Nat->World->Prop) (Q:Int->World->Prop) (S:n<=1000000)
 (v:∀ i W,i<n->P i W->W.cell? ⟨b,y+i,none⟩=some (fs i).val)
 (I:∀ i W,i<n->P i W->Calls prog (fs i).g ((fs i).bd++(fs i).cp) W fun e w'=>∃ c:Int,e=.returned (.int .i64 c)∧(c=0->P (i+1) w')∧(c≠0->Q c w'))
 (B:∀ i,i<n->∀ args W,(callFunc (fs i).g args).run prog W=.ok (.enter (fs i).g args) W) (A:P 0 w):
 Calls prog 62 #[.slice (some ⟨b,y,none⟩) n cap] w fun e w'=>∃ c:Int,e=.returned (.int .i64 c)∧(c=0->P n w')∧(c≠0->Q c w'):=by
 have D:=ZZ v;have E:=ZZ I;have F:=ZZ B;have R:(n:Int)<=1000000:=by omega
 clear v I B;have G:=ZZ A;clear A
 go_enter func62,ntmps62
 go_wp2
 go_loopw[8] (fun p m=>∃ i:Nat,p=.int .i64 (i:Int)∧i<=n∧Hid (P i m)) (fun p _=>n-(intOf p).toNat)
 case atStart=>exact⟨0,rfl,Nat.zero_le _,G⟩
 case round=>
  clear G;obtain⟨i,rfl,O,d⟩:=hrel;by_cases k:i<n
  case neg=>
   obtain rfl:i=n:=by omega
   go_wp2;go_ret;exact⟨0,rfl,fun _=>d.o,fun h=>absurd rfl h⟩
  have j:=D.o i m k d.o;have f:=ZZ (E.o i m k d.o);have t:=F.o i k;unfold Stp.val at j;obtain⟨g,q⟩:∃ g,g=(fs i).g:=⟨_,rfl⟩;obtain⟨H,z⟩:∃ H,H=(fs i).bd:=⟨_,rfl⟩;obtain⟨x,C⟩:∃ x,x=(fs i).cp:=⟨_,rfl⟩;rw[<-q,<-z,<-C] at j f;rw[<-q] at t;have M:(i:Int)<(n:Int):=by omega
  clear d q z C D E F
  go_wp2_with fail
  refine f.o.mono ?_;rintro e N ⟨c,rfl,u,l⟩;by_cases a:c=0
  ·subst a
   have J:=ZZ (u rfl);clear u l j t f;go_wp2;go_roundw
   case rel=>exact⟨i+1,by go_num,by omega,J⟩
   case measure=>simp[intOf];omega
  ·have L:=ZZ (l a)
   have T:(c != 0)=true:=by rw[bne_iff_ne];exact a
   have K:=ZZ a;clear u l j t f a;go_wp2;go_ret;exact⟨c,rfl,fun h=>absurd h K.o,fun _=>L.o⟩
theorem ZeO.setHead {M I:Nat->Prop} {w:World} {p pd:Nat} {L:Zhf} {s s':Sto} (h:ZeO M I w p pd L s) (j:Nat) (x:Value) (m:s'.log=s.log) (u:s'.bases=s.bases) (q:s'.now=s.now) (B:(stC pd L s).setIfInBounds j x=stC pd L s'):
 ZeO M I (w.setCell ⟨p,j,none⟩ x) p pd L s':=by
 have b:∀ k,k≠p->(w.setCell ⟨p,j,none⟩ x).heap[k]?=w.heap[k]?:=fun k b=>Below.heap_setCell _ _ _ _ b
 have c:∀ {t:TypeId} {n sz g:Nat} {v:Value} {xs:List Value},w.ownsRow 0 t sz v n xs->v.ownBlock=some g->t≠76->g≠p:=fun C a D=>by
  obtain⟨E,A⟩:=ZaR C a;exact A.ne h.head D
 have l:∀ k,I k->(w.setCell ⟨p,j,none⟩ x).heap[k]?=w.heap[k]?:=fun k z=>b k fun e=>h.dis p h.mh (by rw[<-e];exact z)
 have f:L.nx s'=L.nx s:=by unfold Zhf.nx;rw[q]
 refine⟨by rw[<-B];exact h.head.set j x,?_,?_,Zae h.bases fun g a=>b g (c h.bases a (by decide)),by rw[u];exact h.bsEq,by rw[f];exact h.now.keep h.inow l,fun y i=>(h.base y i).keep (h.ibase y i) l,h.mh,h.mr,h.mp,h.mb,by rw[f];exact h.inow,h.ibase,fun k d=>by simpa using h.ltM k d,fun k d=>by simpa using h.ltI k d,h.dis⟩
 ·rw[m]
  exact Zae h.recs fun g a=>b g (c h.recs a (by decide))
 ·rw[m]
  exact Zae h.pcs fun g a=>b g (c h.pcs a (by decide))
theorem SD.setHead {K:Nat->Prop} {w:World} {pd p:Nat} {s s':Sto} {d:Dk} {N T:Nat} (h:SD K w pd p s d N T) (f:∀ k,K k->k<w.heap.size) (j:Nat) (x:Value) (q:s'.log=s.log) (l:s'.bases=s.bases) (e:s'.now=s.now) (n:∀ L,(stC pd L s).setIfInBounds j x=stC pd L s'):
 SD K (w.setCell ⟨p,j,none⟩ x) pd p s' d N T∧Zap (fun k=>¬ K k) w (w.setCell ⟨p,j,none⟩ x):=by
 obtain⟨F,M,I,L,c,b,g,t,m,i,u⟩:=h;exact SD.own f c g t m i u ((Zap.refl M w).setCell j (fun _=>b.mh) x) (b.setHead j x q l e (n L)) (fun _ a=>.inl a) (fun _ a=>.inl a)
theorem SD.cells {K:Nat->Prop} {w:World} {pd p:Nat} {s:Sto} {d:Dk} {N T:Nat} (h:SD K w pd p s d N T):
 (w.cell? ⟨p,0,none⟩=some (ptr pd)∧w.cell? ⟨p,11,none⟩=some (.int .i64 s.synced)∧w.cell? ⟨p,12,none⟩=some (.int .i64 s.cur)∧w.cell? ⟨p,13,none⟩=some (.bool s.nw))∧∀ j,w.frozen? ⟨p,j,none⟩=false:=by
 obtain⟨F,M,I,L,g,a,-⟩:=h;obtain⟨f,-,-,-,-,-,c,b,e⟩:=a.cs;exact⟨⟨f,c,b,e⟩,a.fz⟩
theorem Zgc {K:Nat->Prop} {pd p:Nat} {s:Sto} {d:Dk} {N T:Nat} (w:World) (h:SD K w pd p s d N T) (f:∀ k,K k->k<w.heap.size):
 Calls prog 64 #[ptr p] w fun e w'=>Zff K w pd p (Zar (s,d)) (N+2) T e w':=by
 unfold Zar;obtain⟨⟨d',c⟩,j⟩:∃ r,r=ZaS d:=⟨_,rfl⟩
 have n:=ZZ (h.disk (d':=d') (c:=c) (N':=N+2) (T':=T) f (fun F z _=>by
  have:=Zrv w z;rw[<-j] at this
  exact this))
 obtain⟨⟨x,-⟩,-⟩:=h.cells
 dsimp only
 rw[<-j]
 dsimp only
 have y:=ZZ f;obtain⟨R,i⟩:∃ R:SDk × Int,R=((if c=0 then { s with nw:=false } else s,d'),c):=⟨_,rfl⟩
 rw[<-i];have a:=ZZ i;clear h j f i
 go_enter func64,ntmps64
 go_wp2_with fail
 refine n.o.mono ?_;rintro e v ⟨rfl,l,g⟩;have m:=ZZ l;have t:=ZZ g;have u:Hid (∀ k,K k->k<v.heap.size):=ZZ (fun k A=>Nat.lt_of_lt_of_le (y.o k A) g.size)
 obtain⟨⟨-,-,-,C⟩,fz⟩:=l.cells;have B:=fz 13;clear l g n x fz;by_cases b:c=0
 ·subst b
  rw[if_pos rfl] at a;have q:=ZZ (m.o.setHead (s':={ s with nw:=false }) u.o 13 (.bool false) rfl rfl rfl (fun _=>rfl))
  go_wp2;go_ret;rw[a.o];exact⟨rfl,q.o.1,t.o.trans q.o.2 (fun _ _ h=>h)⟩
 ·rw[if_neg b] at a
  have D:(c == 0)=false:=beq_eq_false_iff_ne.2 b;clear b;go_wp2;go_ret;rw[a.o];exact⟨rfl,m.o,t.o⟩
theorem Zoq {K:Nat->Prop} {pd p:Nat} {s:Sto} {d:Dk} {N T:Nat} (w:World) (h:SD K w pd p s d N T) (j:∀ k,K k->k<w.heap.size):
 Calls prog 66 #[ptr p] w fun e w'=>Zff K w pd p (ZaJ (s,d)) (N+2) T e w':=by
 unfold ZaJ;have a:=ZZ (Zgc w h j);obtain⟨⟨-,-,-,b⟩,-⟩:=h.cells;have f:=ZZ h
 dsimp only
 cases hb:s.nw with
 | false=>
  rw[hb] at b;rw[if_neg (by simp)]
  clear h hb a
  go_enter func66,ntmps66
  go_wp2;go_ret;exact⟨rfl,f.o.mono (by omega) zL,Zap.refl _ _⟩
 | true=>
  rw[hb] at b;rw[if_pos rfl];obtain⟨r,i⟩:∃ r,r=Zar (s,d):=⟨_,rfl⟩;rw[<-i] at a ⊢;clear h hb f i
  go_enter func66,ntmps66
  go_wp2_with fail
  refine a.o.mono ?_;rintro e m ⟨rfl,g,c⟩;have l:=ZZ (And.intro g c);clear g c a;go_wp2;go_ret;exact⟨rfl,l.o⟩
theorem Zff.from {K K2:Nat->Prop} {w W:World} {pd p:Nat} {r:SDk × Int} {N T N' T':Nat} {e:Ending} {w':World} (h:Zff K2 W pd p r N T e w') (a:∀ k,K k->K2 k) (b:Zap (fun k=>¬ K k) w W) (f:N<=N') (c:T<=T'):Zff K w pd p r N' T' e w':=
 ⟨h.1,(h.2.1.less a).mono f c,b.trans (h.2.2.mono (fun k g d=>g (a k d))) (fun _ _ h=>h)⟩
theorem SD.step {K:Nat->Prop} {w:World} {pd p:Nat} {s:Sto} {d:Dk} {N T N' T':Nat} {f:Nat} {args:Array Value} (g:Dk->Dk × Int) (h:SD K w pd p s d N T) (a:∀ k,K k->k<w.heap.size)
 (b:∀ F,Dsk F w pd d N T->(∀ k,F k->¬ K k)->Calls prog f args w fun e w'=>Zjk F w pd (g d).1 (g d).2 N' T' e w'):Calls prog f args w fun e w'=>Zff K w pd p (Zbv g (s,d)) N' T' e w':=
 h.disk a b
theorem Zqa {K:Nat->Prop} {pd p R:Nat} {s:Sto} {d:Dk} {N T:Nat} (w:World) (h:SD K w pd p s d N T) (b:∀ k,K k->k<w.heap.size) (v:w.cell? ⟨R,0,none⟩=some (ptr p)) (l:I64 s.cur):
 Calls prog 65 #[.pointer (some ⟨R,0,none⟩)] w fun e w'=>Zff K w pd p (ZaD (s,d)) (N+2) T e w':=by
 have g:=ZZ ((h.below (Below.refl _ _).drew).step (fun d=>Zdx d s.cur) b (fun F m _=>Ztl s.cur l _ m))
 obtain⟨⟨u,-,q,-⟩,-⟩:=h.cells;have n:Hid (Zap (fun k=>¬ K k) w w.drew):=ZZ (Zap.ofBelow (Below.refl _ _).drew)
 obtain⟨r,a⟩:∃ r,r=ZaD (s,d):=⟨_,rfl⟩;have i:Zbv (fun d=>Zdx d s.cur) (s,d)=r:=a.symm
 rw[i] at g;rw[<-a];generalize s.cur=cu at *;clear h b l i a
 go_enter func65,ntmps65
 go_upto_region 1 with fail
 go_region_with(first | (go_at_call 59;refine g.o.mono ?_;rintro e t ⟨rfl,j,c⟩;have f:=ZZ (And.intro j c);clear j c))
 all_goals
  go_wp2;go_ret;exact⟨rfl,f.o.1,n.o.trans f.o.2 (fun _ _ h=>h)⟩
theorem Zor (x:SDk):(Zbj [ZaD,ZaJ] x).1.1=x.1∨(Zbj [ZaD,ZaJ] x).1.1={ x.1 with nw:=false }:=by
 unfold Zbj Zbj;split
 ·split
  ·unfold Zbj ZaJ Zar
   split
   ·dsimp only
    split
    ·exact .inr rfl
    ·exact .inl rfl
   ·exact .inl rfl
  ·unfold ZaJ Zar
   split
   ·dsimp only
    split
    ·exact .inr rfl
    ·exact .inl rfl
   ·exact .inl rfl
 ·exact .inl rfl
theorem ZrZ.nw {s:Sto} (h:ZrZ s) (b:Bool):ZrZ { s with nw:=b }:=⟨h.f0,h.f1,h.sy,h.cu⟩
theorem SD.synced {K:Nat->Prop} {w:World} {pd p:Nat} {s:Sto} {d:Dk} {N T:Nat} (h:SD K w pd p s d N T) (a:∀ k,K k->k<w.heap.size):
 SD K (w.setCell ⟨p,11,none⟩ (.int .i64 s.next)) pd p (ZeJ s) d N T∧Zap (fun k=>¬ K k) w (w.setCell ⟨p,11,none⟩ (.int .i64 s.next)):=
 h.setHead a 11 _ rfl rfl rfl (fun _=>rfl)
theorem SD.next {K:Nat->Prop} {w:World} {pd p:Nat} {s:Sto} {d:Dk} {N T:Nat} (h:SD K w pd p s d N T) (b:ZrZ s):
 Calls prog 14 #[ptr p] w fun e w'=>e=.returned (.int .i64 s.next)∧Below w.heap.size w w':=by
 obtain⟨F,M,I,L,c,a,-⟩:=h;exact Zlk w a b
theorem ZhU {K:Nat->Prop} {pd p:Nat} {s:Sto} {d:Dk} {N T:Nat} (w:World) (h:SD K w pd p s d N T) (hK:∀ k,K k->k<w.heap.size) (m:ZrZ s):
 Calls prog 27 #[ptr p] w fun e w'=>Zff K w pd p (ZcE (s,d)) (N+4) T e w':=by
 obtain⟨a,C⟩:∃ a,a=w.alloc (.cells #[ptr p] 28):=⟨_,rfl⟩;have ag:Hid (Below w.heap.size w a):=ZZ (by rw[C];exact ZcW _ _)
 have HX:Hid (Bk 28 a w.heap.size #[ptr p]):=ZZ (by rw[C];exact heap_alloc_new w _)
 obtain⟨u,E⟩:∃ u:Nat->Prop,u=fun k=>K k∨(w.heap.size<=k∧k<a.heap.size):=⟨_,rfl⟩
 have B:Hid (SD u a pd p s d N T):=ZZ (by rw[E];exact h.fresh ag.o)
 have ak:Hid (∀ k,u k->k<a.heap.size):=ZZ (by
  rw[E];intro k hk;rcases hk with hk | hk
  ·exact Nat.lt_of_lt_of_le (hK k hk) ag.o.size
  ·exact hk.2)
 have an:Hid (∀ k,K k->u k):=ZZ (by rw[E];exact fun k hk=>.inl hk)
 have aE:Hid (u w.heap.size):=ZZ (by rw[E];exact .inr ⟨Nat.le_refl _,HX.o.lt⟩)
 have al:Hid (Zap (fun k=>¬ K k) w a):=ZZ (Zap.ofBelow ag.o)
 have P:Hid (∀ W,Zap (fun k=>¬ u k) a W->W.cell? ⟨w.heap.size,0,none⟩=some (ptr p)):=ZZ (fun W V=>((HX.o.keep (V.block _ HX.o.lt (fun m=>m aE.o))).cell 0 rfl).1)
 have U:=ZZ m;have r0:=P.o a (Zap.refl _ _);obtain⟨⟨-,-,au,-⟩,-⟩:=B.o.cells;obtain⟨v,Z⟩:∃ v,v=ZcE (s,d):=⟨_,rfl⟩;have L:=ZZ Z;rw[<-Z];clear h hK E Z;by_cases q:s.cur=0
 ·have aA:(s.cur != 0)=false:=by rw[q];rfl
  have x:Hid (v=((ZeJ s,d),0)):=ZZ (by rw[L.o];unfold ZcE;rw[if_pos q])
  have aa:Hid (∀ W,Below a.heap.size a W->Calls prog 14 #[ptr p] W fun e w'=>e=.returned (.int .i64 s.next)∧Below a.heap.size a w'):=ZZ (fun W f=>((B.o.below f).next U.o).mono (by
   rintro e w' ⟨rfl,z⟩
   exact⟨rfl,f.trans (z.mono f.size)⟩))
  have S:Hid (∀ W,Below a.heap.size a W->W.cell? ⟨w.heap.size,0,none⟩=some (ptr p)∧W.cell? ⟨p,11,none⟩=some (.int .i64 s.synced)∧W.frozen? ⟨p,11,none⟩=false):=ZZ (fun W f=>by
   obtain⟨⟨-,ai,-⟩,fz⟩:=(B.o.below f).cells
   exact⟨P.o W (Zap.ofBelow f),ai,fz 11⟩)
  have ad:Hid (Below a.heap.size a a.drew):=ZZ (Below.refl _ _).drew
  have J:Hid (∀ W,Below a.heap.size a W->Zff K w pd p v (N+4) T (.returned (.int .i64 0)) (W.setCell ⟨p,11,none⟩ (.int .i64 s.next))):=ZZ (fun W f=>by
   rw[x.o];have n:=(B.o.below f).synced (fun k hk=>Nat.lt_of_lt_of_le (ak.o k hk) f.size)
   exact Zff.from (K2:=u) (W:=W) ⟨rfl,n.1,n.2⟩ an.o (al.o.trans (Zap.ofBelow (F:=fun _=>False) f) (fun _ _ h=>h.elim)) (by omega) zL)
  generalize s.next=nx at *;generalize s.cur=cu at *;clear q x L m
  go_enter func27,ntmps27
  go_upto_region 1 with fail
  rw[<-C];clear C
  go_upto_region 6 with fail
  go_region_with(first | (go_at_call 14;refine(aa.o _ (by first | exact ad.o | exact Below.refl _ _)).mono ?_;rintro e g ⟨rfl,X⟩;have y:=ZZ X;obtain⟨q0,aC,qf⟩:=S.o g X;clear X))
  all_goals
   go_wp2;go_ret;exact J.o _ y.o
 ·have aA:(s.cur != 0)=true:=by rw[bne_iff_ne];exact q
  obtain⟨b,D⟩:∃ b,b=Zbj [ZaD,ZaJ] (s,d):=⟨_,rfl⟩;have x:Hid (v=if b.2=0 then((ZeJ b.1.1,b.1.2),0) else b):=ZZ (by rw[L.o,D];unfold ZcE;rw[if_neg q])
  have ar:Hid (ZrZ b.1.1):=ZZ (by
   rcases Zor (s,d) with hh | hh
   ·rw[D,hh];exact U.o
   ·rw[D,hh];exact U.o.nw false)
  obtain⟨g,Q⟩:∃ g,g=a.alloc (.cells #[.func (.func 65) #[] #[.pointer (some ⟨w.heap.size,0,none⟩)],.func (.func 66) #[ptr p] #[]] 153):=⟨_,rfl⟩;have y:Hid (Below a.heap.size a g):=ZZ (by rw[Q];exact ZcW _ _)
  have HY:Hid (Bk 153 g a.heap.size #[.func (.func 65) #[] #[.pointer (some ⟨w.heap.size,0,none⟩)],.func (.func 66) #[ptr p] #[]]):=ZZ (by rw[Q];exact heap_alloc_new a _)
  obtain⟨K2,M⟩:∃ K2:Nat->Prop,K2=fun k=>u k∨(a.heap.size<=k∧k<g.heap.size):=⟨_,rfl⟩
  have av:Hid (SD K2 g pd p s d N T):=ZZ (by rw[M];exact B.o.fresh y.o)
  have ao:Hid (∀ k,K2 k->k<g.heap.size):=ZZ (by
   rw[M];intro k hk;rcases hk with hk | hk
   ·exact Nat.lt_of_lt_of_le (ak.o k hk) y.o.size
   ·exact hk.2)
  have Y:Hid (∀ k,u k->K2 k):=ZZ (by rw[M];exact fun k hk=>.inl hk)
  have aB:Hid (K2 a.heap.size):=ZZ (by rw[M];exact .inr ⟨Nat.le_refl _,HY.o.lt⟩)
  have ax:Hid (Calls prog 62 #[.slice (some ⟨a.heap.size,0,none⟩) 2 2] g fun e w'=>∃ c:Int,e=.returned (.int .i64 c)∧(c=0->SD K2 w' pd p b.1.1 b.1.2 (N+4) T∧b.2=0∧Zap (fun k=>¬ K2 k) g w')∧(c≠0->SD K2 w' pd p b.1.1 b.1.2 (N+4) T∧b.2=c∧Zap (fun k=>¬ K2 k) g w')):=ZZ (by
   have hs:=ZpZ a.heap.size 0 2 2 (fun i=>if i=0 then⟨65,#[],#[.pointer (some ⟨w.heap.size,0,none⟩)]⟩ else⟨66,#[ptr p],#[]⟩) g
    (fun i W=>Zap (fun k=>¬ K2 k) g W∧(i=0->SD K2 W pd p s d N T)∧(i=1->(ZaD (s,d)).2=0∧SD K2 W pd p (ZaD (s,d)).1.1 (ZaD (s,d)).1.2 (N+2) T)∧(i=2->b.2=0∧SD K2 W pd p b.1.1 b.1.2 (N+4) T))
    (fun c W=>SD K2 W pd p b.1.1 b.1.2 (N+4) T∧b.2=c∧Zap (fun k=>¬ K2 k) g W) (by decide)
    (fun i W I t=>by
     have z:=HY.o.keep (t.1.block _ HY.o.lt (fun m=>m aB.o))
     match i,I with
     | 0,_=>exact(z.cell 0 rfl).1
     | 1,_=>exact(z.cell 1 rfl).1)
    (fun i W I t=>by
     have ap:∀ k,K2 k->k<W.heap.size:=fun k hk=>Nat.lt_of_lt_of_le (ao.o k hk) t.1.size
     match i,I with
     | 0,_=>
      refine(Zqa (R:=w.heap.size) W (t.2.1 rfl) ap (P.o W ((Zap.ofBelow y.o).trans (t.1.mono (fun k hk m=>hk (Y.o k m))) (fun _ _ h=>h))) U.o.cu).mono ?_
      rintro e w' ⟨rfl,n,H⟩;refine⟨_,rfl,fun j=>⟨t.1.trans H (fun _ _ h=>h),fun h=>absurd h (by decide),fun _=>⟨j,n⟩,fun h=>absurd h (by decide)⟩,fun j=>?_⟩
      have G:b=ZaD (s,d):=by rw[D];unfold Zbj;rw[if_neg j]
      rw[G];exact⟨n.mono (by omega) zL,rfl,t.1.trans H (fun _ _ h=>h)⟩
     | 1,_=>
      obtain⟨aD,aw⟩:=t.2.2.1 rfl;refine(Zoq W aw ap).mono ?_;rintro e w' ⟨rfl,n,H⟩;have e2:ZaJ ((ZaD (s,d)).1.1,(ZaD (s,d)).1.2)=ZaJ (ZaD (s,d)).1:=rfl;rw[e2] at n ⊢
      have G:(ZaJ (ZaD (s,d)).1).1=b.1∧(ZaJ (ZaD (s,d)).1).2=b.2:=by
       rw[D];unfold Zbj;rw[if_pos aD];unfold Zbj;split
       ·rename_i j
        exact⟨rfl,j⟩
       ·exact⟨rfl,rfl⟩
      rw[G.1] at n
      exact⟨_,rfl,fun j=>⟨t.1.trans H (fun _ _ h=>h),fun h=>absurd h (by decide),fun h=>absurd h (by decide),fun _=>⟨by rw[<-G.2];exact j,n⟩⟩,fun j=>⟨n,G.2.symm,t.1.trans H (fun _ _ h=>h)⟩⟩)
    (fun i I=>by
     match i,I with
     | 0,_=>exact enters_of func65 (by kernel_rfl) rfl
     | 1,_=>exact enters_of func66 (by kernel_rfl) rfl)
    ⟨Zap.refl _ _,fun _=>av.o,fun h=>absurd h (by decide),fun h=>absurd h (by decide)⟩
   refine hs.mono ?_;rintro e w' ⟨c,rfl,g1,g2⟩;refine⟨c,rfl,fun j=>?_,g2⟩
   obtain⟨h1,-,-,h4⟩:=g1 j
   exact⟨(h4 rfl).2,(h4 rfl).1,h1⟩)
  have aq:Hid (Zap (fun k=>¬ K k) w g):=ZZ (al.o.trans (Zap.ofBelow (F:=fun _=>False) y.o) (fun _ _ h=>h.elim))
  have ae:Hid (∀ k,K k->K2 k):=ZZ (fun k hk=>Y.o k (an.o k hk))
  have az:Hid (∀ W,Zap (fun k=>¬ K2 k) g W->W.cell? ⟨w.heap.size,0,none⟩=some (ptr p)):=ZZ (fun W V=>P.o W ((Zap.ofBelow y.o).trans (V.mono (fun k hk m=>hk (Y.o k m))) (fun _ _ h=>h)))
  have am:=ZZ Q;have aI:=B;generalize s.cur=cu at *;clear q D M m Q
  go_enter func27,ntmps27
  go_upto_region 1 with fail
  rw[<-C];clear C
  go_wp2_with(go_at_call 62;rw[<-am.o];refine ax.o.mono ?_)
  rintro e l ⟨c,rfl,ah,ac⟩;clear am r0 au;by_cases q:c=0
  ·subst q
   obtain⟨O,j,A⟩:=ah rfl;have aF:Hid (v=((ZeJ b.1.1,b.1.2),0)):=ZZ (by rw[x.o,if_pos j])
   have ay:Hid (∀ k,K2 k->k<l.heap.size):=ZZ (fun k hk=>Nat.lt_of_lt_of_le (ao.o k hk) A.size)
   have ab:=ZZ O;have aj:=ZZ A
   have aa:Hid (∀ W,Below l.heap.size l W->Calls prog 14 #[ptr p] W fun e w'=>e=.returned (.int .i64 b.1.1.next)∧Below l.heap.size l w'):=ZZ (fun W f=>((ab.o.below f).next ar.o).mono (by
    rintro e w' ⟨rfl,z⟩
    exact⟨rfl,f.trans (z.mono f.size)⟩))
   have S:Hid (∀ W,Below l.heap.size l W->W.cell? ⟨w.heap.size,0,none⟩=some (ptr p)∧W.cell? ⟨p,11,none⟩=some (.int .i64 b.1.1.synced)∧W.frozen? ⟨p,11,none⟩=false):=ZZ (fun W f=>by
    obtain⟨⟨-,ai,-⟩,fz⟩:=(ab.o.below f).cells
    exact⟨az.o W (aj.o.trans (Zap.ofBelow (F:=fun _=>False) f) (fun _ _ h=>h.elim)),ai,fz 11⟩)
   have ad:Hid (Below l.heap.size l l.drew):=ZZ (Below.refl _ _).drew
   have J:Hid (∀ W,Below l.heap.size l W->Zff K w pd p v (N+4) T (.returned (.int .i64 0)) (W.setCell ⟨p,11,none⟩ (.int .i64 b.1.1.next))):=ZZ (fun W f=>by
    rw[aF.o];have n:=(ab.o.below f).synced (fun k hk=>Nat.lt_of_lt_of_le (ay.o k hk) f.size)
    exact Zff.from (K2:=K2) (W:=W) ⟨rfl,n.1,n.2⟩ ae.o ((aq.o.trans (aj.o.mono (fun k hk m=>hk (ae.o k m))) (fun _ _ h=>h)).trans (Zap.ofBelow (F:=fun _=>False) f) (fun _ _ h=>h.elim)) (by omega) zL)
   obtain⟨q0,aC,qf⟩:=S.o l (Below.refl _ _);generalize b.1.1.next=nx at *;generalize b.1.1.synced=sy at *;clear ah ac O j A x L
   go_upto_region 6 with fail
   go_region_with(first | (go_at_call 14;refine(aa.o _ (by first | exact ad.o | exact Below.refl _ _)).mono ?_;rintro e W3 ⟨rfl,af⟩;have aG:=ZZ af;obtain⟨x0,aJ,xf⟩:=S.o W3 af;clear af))
   all_goals
    go_wp2;go_ret;exact J.o _ aG.o
  ·obtain⟨O,j,A⟩:=ac q
   have J:Hid (Zff K w pd p v (N+4) T (.returned (.int .i64 c)) l):=ZZ (by
    rw[x.o,if_neg (by rw[j];exact q)]
    exact Zff.from (K2:=K2) (W:=g) ⟨by rw[j],O,A⟩ ae.o aq.o zL zL)
   have aH:(c != 0)=true:=by rw[bne_iff_ne];exact q
   clear ah ac O j A x L q;go_wp2;go_ret;exact J.o
end Go.Proofs.YtnahjngbneicaaaGreatDoor
