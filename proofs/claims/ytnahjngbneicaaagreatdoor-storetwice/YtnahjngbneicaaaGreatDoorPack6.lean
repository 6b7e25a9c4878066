import Derived.Test.YtnahjngbneicaaaGreatDoorPack5
namespace Go.Proofs.YtnahjngbneicaaaGreatDoor
open _root_.Go.Proofs.Tryz
open List (length_append)
set_option maxHeartbeats 2000000
set_option maxRecDepth 100000
open Go.RowKit
variable {w w':World} {B B' b o:Nat} {r:Rec} {v v':Value} {L' l:List Int} {a key least:Int}
def Zja (w:World) (b o:Nat) (r:Rec):Prop:=
 w.cell? ⟨b,o,none⟩=some (.int .i64 r.idx)∧w.cell? ⟨b,o+1,none⟩=some (.int .i64 r.proc)∧w.cell? ⟨b,o+2,none⟩=some (.int .i64 r.seq)∧w.cell? ⟨b,o+3,none⟩=some (.int .i64 r.op.code)∧w.cell? ⟨b,o+4,none⟩=some (.int .i64 r.op.a)∧w.cell? ⟨b,o+5,none⟩=some (.int .i64 r.op.b)∧w.cell? ⟨b,o+6,none⟩=some (.int .i64 r.resp)
theorem Zja.lt (h:Zja w b o r):b<w.heap.size:=World.block_lt_of_cell? w ⟨b,o,none⟩ h.1
theorem Zja.keep (h:Zja w b o r) (c:w'.heap[b]?=w.heap[b]?):Zja w' b o r:=by
 have d:∀ i,w'.cell? ⟨b,i,none⟩=w.cell? ⟨b,i,none⟩:=fun i=>World.cell?_of_block (a:=⟨b,i,none⟩) c
 unfold Zja at h ⊢;simp only [d];exact h
def RdR (w:World) (v:Value) (l:List Rec):Prop:=
 ∃ ao cap,v=.slice ao l.length cap∧l.length<=cap∧cap<=maxLen∧(ao=none->cap=0)∧(∀ r ∈ l,ZcK r)∧
  (l=[]∨∃ b off,ao=some ⟨b,off,none⟩∧∀ j,j<l.length->Zja w b (off+j*7) (l.getD j Qi))
theorem RdR.nil (w:World):RdR w (.slice none 0 0) []:=⟨none,0,rfl,Nat.le_refl _,Nat.zero_le _,fun _=>rfl,(fun r h=>by simp at h),.inl rfl⟩
theorem RdR.below {l:List Rec} (h:RdR w v l) {B:Nat} (d:Below B w w') (t:w.heap.size<=B):RdR w' v l:=by
 obtain⟨ao,cap,m,g,e,q,p,a⟩:=h;refine⟨ao,cap,m,g,e,q,p,?_⟩;rcases a with a | ⟨b,f,n,i⟩
 ·exact .inl a
 ·refine .inr ⟨b,f,n,fun j k=>?_⟩
  have c:=i j k;exact c.keep (d.block b (by have:=c.lt;omega))
def Qq:List Rec->List Value
 | []=>[]
 | r::t=>(Zi r).toList++Qq t
theorem Yx:∀ l:List Rec,(Qq l).length=l.length*7
 | []=>rfl
 | r::t=>by
  rw[Qq,length_append,Yx t,List.length_cons];simp[Zi];omega
theorem Zax:∀ a b:List Rec,Qq (a++b)=Qq a++Qq b
 | [],_=>rfl
 | r::t,b=>by rw[List.cons_append,Qq,Zax t b,Qq,List.append_assoc]
theorem Zbp:∀ (l:List Rec) (j k:Nat),j<l.length->k<7->(Qq l)[j*7+k]?=(Zi (l.getD j Qi))[k]?
 | r::t,0,k,_,hk=>by
  rw[Qq,Nat.zero_mul,Nat.zero_add,List.getElem?_append_left (by simp[Zi];omega)]
  simp[List.getD]
 | r::t,j+1,k,hj,hk=>by
  have e:(j+1)*7+k=(Zi r).toList.length+(j*7+k):=by simp[Zi];omega
  rw[Qq,e,List.getElem?_append_right (by omega),Nat.add_sub_cancel_left,Zbp t j k (by simpa using hj) hk]
  simp[List.getD]
theorem Zbq (l:List Rec):∀ u ∈ Qq l,u.oneCell'=true:=by
 induction l with
 | nil=>intro u a;simp[Qq] at a
 | cons r t b=>
  intro u a;rw[Qq] at a;rcases List.mem_append.1 a with h | h
  ·simp[Zi] at h
   rcases h with rfl | rfl | rfl | rfl | rfl | rfl | rfl <;> rfl
  ·exact b u h
def Q9 (w:World) (B:Nat) (v:Value) (l:List Rec):Prop:=w.ownsRow B 62 7 v l.length (Qq l)
theorem Q9.nil (w:World) (B:Nat):Q9 w B (.slice none 0 0) []:=World.ownsRow_nil w B 62 7
theorem Q9.rd {l:List Rec} (h:Q9 w B v l) (c:∀ r ∈ l,ZcK r):RdR w v l:=by
 rcases h.2 with ⟨b,d⟩ | ⟨g,cap,cur,b,q,x,f,m,y,t⟩
 ·exact⟨none,0,by rw[b,d],by omega,Nat.zero_le _,fun _=>rfl,c,.inl (List.eq_nil_of_length_eq_zero d)⟩
 ·refine⟨some ⟨g,0,none⟩,cap,b,f,m,(fun e=>by cases e),c,.inr ⟨g,0,rfl,fun j i=>?_⟩⟩
  have a:∀ k u,k<7->(Zi (l.getD j Qi))[k]?=some u->w.cell? ⟨g,0+j*7+k,none⟩=some u:=fun k u n p=>by
   have:=World.ownsRow.cells h (g:=g) (by rw[b];rfl) (j*7+k) u ((Zbp l j k i n).trans p)
   rw[Addr.add_lit] at this;rw[Nat.add_assoc];exact this
  exact⟨a 0 _ (by decide) rfl,a 1 _ (by decide) rfl,a 2 _ (by decide) rfl,a 3 _ (by decide) rfl,a 4 _ (by decide) rfl,a 5 _ (by decide) rfl,a 6 _ (by decide) rfl⟩
theorem Q9.below {l:List Rec} (h:Q9 w B v l) (c:Below B' w w') (i:w.heap.size<=B'):Q9 w' B v l:=by
 obtain⟨e,a⟩:=h;refine⟨e,?_⟩;rcases a with a | ⟨g,cap,cur,d,f,b,r⟩
 ·exact .inl a
 ·have j:g<w.heap.size:=(Array.getElem?_eq_some_iff.1 b).1
  exact .inr ⟨g,cap,cur,d,f,by rw[c.block g (by omega)];exact b,r⟩
theorem Q9.mono {l:List Rec} (h:Q9 w B v l) (e:B'<=B):Q9 w B' v l:=by
 obtain⟨b,a⟩:=h;refine⟨b,?_⟩;rcases a with a | ⟨g,cap,cur,c,d,r⟩
 ·exact .inl a
 ·exact .inr ⟨g,cap,cur,c,by omega,r⟩
theorem Q9.shape {l:List Rec} (h:Q9 w B v l):∃ ao cap,v=.slice ao l.length cap:=by
 rcases h.2 with ⟨a,b⟩ | ⟨g,cap,cur,a,_⟩
 ·exact⟨none,0,by rw[a,b]⟩
 ·exact⟨_,_,a⟩
theorem Zdc:(prog.info? 62).map (fun i=>(i.zero,i.size,i.bytes))=some (some (.agg #[.int .i64 0,.int .i64 0,.int .i64 0,.int .i64 0,.int .i64 0,.int .i64 0,.int .i64 0]),7,56):=by kernel_rfl
theorem Zjb (w:World) (ty:TypeId) (B:Nat) (v:Value) (l:List Rec) (h:Q9 w B v l) (r:Rec) (q:l.length<=1000000) (i:B<=w.heap.size):
 ∃ v' w',(Builtin.append_ #[29,29] ty #[v,.slice (some ⟨w.heap.size,0,none⟩) 1 1]).run prog (w.alloc (.cells (Zi r) 62))=.ok v' w'∧Q9 w' B v' (l++[r])∧Below B w w':=by
 obtain⟨p,c,f,e,a⟩:=info_parts Zdc
 obtain⟨v',w',d,n,b,_⟩:=run_append_own (P:=prog) (w.alloc (.cells (Zi r) 62)) B 29 ty 62 p _ 7 56 underlying29 c f e a rfl (by decide) v l.length (Qq l) (h.alloc _)
  ⟨w.heap.size,0,none⟩ 1 1 (Qq [r]) (Yx [r]) (fun j u g=>by
   rw[Addr.add_lit,Nat.zero_add,cell_of_row _ w.heap.size j _ 62 (0,0) (heap_alloc_new w _)]
   simpa[Qq] using g) (Zbq [r]) (by unfold maxLen;omega) (by omega) (by simp;omega)
 refine⟨v',w',d,?_,?_⟩
 ·unfold Q9
  rw[length_append,Zax];exact n
 ·exact((Below.refl _ _).alloc i _).grown b (by simp;omega) (fun k m=>(World.ownsRow.lt h k m).1)
theorem Zft (w:World) {b:Array Oper} {rest:List Oper} {o:Oper} {a:Act} {Q:Exit->Act->World->Prop} (c:o.guard=none) (s x:Operand)
 (n:o.op=.call { callee:=.builtin .append,args:=#[s,x],argTypes:=#[29,29] })
 (B:Nat) (v:Value) (l:List Rec) (k:a.eval s=v) (d:Q9 w B v l) (r:Rec) (e:a.eval x=.slice (some ⟨w.heap.size,0,none⟩) 1 1)
 (p:l.length<=1000000) (m:B<=w.heap.size)
 (h:∀ v' w',Q9 w' B v' (l++[r])->Below B w w'->wpList prog b Q rest (a.put o.dst v') w'):wpList prog b Q (o::rest) a (w.alloc (.cells (Zi r) 62)):=
 wpList_plain c fun _ g=>by
  obtain⟨v',w',i,j,f⟩:=Zjb w o.type B v l d r p m;unfold Oper.wp execOp;simp only [n,resolve,invoke,builtin,Sem.run_bind,Sem.run_pure,Result.andThen_ok,List.map_toArray,List.map_cons,List.map_nil,k,e,i];exact g _ _ (h v' w' j f)
theorem ZhH:prog.elem 29=62:=by kernel_rfl
theorem Zdd:prog.underlying 29=some (.slice (prog.elem 29)):=by rw[ZhH];exact underlying29
theorem Zqa (w:World):(sizeOf 62).run prog w=.ok 7 w:=by
 obtain⟨c,a,_,b,_⟩:=info_parts Zdc;simp[sizeOf,typeInfo,a,b]
theorem Br.set {cs:Array Value} (h:Br w b cs) (j:Nat) (x:Value):Br (w.setCell ⟨b,j,none⟩ x) b (cs.setIfInBounds j x):=by
 have:=heap_setCell_same w b j _ _ x h;unfold Br;simpa using this
theorem Zdq (n lo c:Int) (a b:Nat) (w:World) (j:w.cell? ⟨a,0,none⟩=some (.int .i64 lo)) (i:w.cell? ⟨b,0,none⟩=some (.int .i64 c)):
 Calls prog 170 #[.int .i64 n,.pointer (some ⟨a,0,none⟩),.pointer (some ⟨b,0,none⟩)] w fun e w'=>e=.returned (.bool (decide (lo<=n∧n<=c)))∧w'=w:=by
 have f:Hid ((decide (lo<=n) && decide (n<=c))=decide (lo<=n∧n<=c)):=(Bool.decide_and _ _).symm;have g:Hid (lo<=n->decide (n<=c)=decide (lo<=n∧n<=c)):=fun h=>by rw[<-f.o,decide_eq_true h,Bool.true_and]
 by_cases d:lo<=n
 ·go_enter func170,ntmps170
  go_wp2;go_ret;exact⟨Yk (g.o d),rfl⟩
 ·go_enter func170,ntmps170
  go_wp2;go_ret;exact⟨Yk (by rw[decide_eq_false (Int.not_le.2 d),Bool.false_and]),rfl⟩
theorem Jx (lo c:Int) (w:World):
 Calls prog 121 #[.int .i64 lo,.int .i64 c] w fun e w'=>∃ a b,e=.returned (.func (.func 170) #[] #[.pointer (some ⟨a,0,none⟩),.pointer (some ⟨b,0,none⟩)])∧w'.cell? ⟨a,0,none⟩=some (.int .i64 lo)∧w'.cell? ⟨b,0,none⟩=some (.int .i64 c)∧Below w.heap.size w w':=by
 have f:∀ (fn:Fn) (first cap:Array Value) (w:World),(Instr.makeFunc fn first cap).run prog w=.ok (.func fn first cap) w:=fun _ _ _ _=>rfl
 have d:Hid (∀ x y,Below w.heap.size w ((w.alloc x).alloc y)):=fun x y=>((Below.refl _ _).alloc zL x).alloc (by simp) y
 go_enter func121,ntmps121
 go_wp2;go_ret;refine⟨_,_,rfl,?_,?_,d.o _ _⟩
 ·rw[World.cell?_alloc_past _ _ _ (by simp),World.cell?_alloc_at _ _ _ _ rfl];rfl
 ·rw[World.cell?_alloc_at _ _ _ _ (by simp)];rfl
theorem Zfu (n:Int):max (-1099511627776) (min n 1099511627776)=Zz n:=by
 unfold Zz;split
 ·omega
 ·split <;> omega
theorem Zex (n:Int) (w:World):Calls prog 173 #[.int .i64 n] w fun e w'=>e=.returned (.int .i64 (Zz n))∧w'=w:=by
 by_cases a:1099511627776<n
 ·go_enter func173,ntmps173
  go_wp2;go_ret;refine⟨Zxg ?_,rfl⟩
  first
   | exact Zfu n
   | (unfold Zz;split <;> (try split) <;> omega)
 by_cases b:n<=-1099511627776
 ·go_enter func173,ntmps173
  go_wp2;go_ret;refine⟨Zxg ?_,rfl⟩
  first
   | exact Zfu n
   | (unfold Zz;split <;> (try split) <;> omega)
 ·go_enter func173,ntmps173
  go_wp2;go_ret;refine⟨Zxg ?_,rfl⟩
  first
   | exact Zfu n
   | (unfold Zz;split <;> (try split) <;> omega)
theorem ZkR (ao:Option Addr) (n cap:Nat) (w:World):Calls prog 177 #[.slice ao n cap] w fun e w'=>e=.returned (.bool (decide (n=128)))∧w'=w:=by
 by_cases h:n=128
 ·have a:Hid (decide (n=128)=true):=decide_eq_true h
  have b:((n:Int) == 128)=true:=beq_iff_eq.2 (by omega)
  clear h
  go_enter func177,ntmps177
  go_wp2;go_ret;exact⟨Yk a.o.symm,rfl⟩
 ·have a:Hid (decide (n=128)=false):=decide_eq_false h
  have b:((n:Int) == 128)=false:=beq_eq_false_iff_ne.2 (by omega)
  clear h
  go_enter func177,ntmps177
  go_wp2;go_ret;exact⟨Yk a.o.symm,rfl⟩
theorem Zqb {b:Int} {c d:Bool} (h:a=b) (e:c=d):Ending.returned (.tuple #[.int .i64 a,.bool c])=.returned (.tuple #[.int .i64 b,.bool d]):=by rw[h,e]
theorem ZtM (v:Value) (l:List Int) (key:Int) (w:World) (C:RdI w v l) (G:l.length % 2=0) (M:l.length<=1000000):
 Calls prog 211 #[v,.int .i64 key] w fun e w'=>e=.returned (.tuple #[.int .i64 (Qs key l),.bool (decide (Qs key l<l.length∧l.getD (Qs key l) 0=key))])∧Below w.heap.size w w':=by
 obtain⟨ao,cap,rfl,-,-,-,-,x⟩:=C;have B:=Qc x;clear x;obtain⟨P,c⟩:∃ P,P=Qs key l:=⟨_,rfl⟩;obtain⟨R,n⟩:∃ R,R=decide (P<l.length∧l.getD P 0=key):=⟨_,rfl⟩;rw[<-c,<-n];have J:=Qc c;have u:=Qc n;clear c n
 go_enter func211,ntmps211
 go_wp2
 go_loop [6] (fun i=>∃ k:Nat,i=.int .i64 k∧k<=l.length∧k % 2=0∧Hid (∀ j,j<k->j % 2=0->l.getD j 0<key)) (fun i=>l.length-(intOf i).toNat)
 case atStart=>exact⟨0,rfl,Nat.zero_le _,rfl,fun j F=>by omega⟩
 case round=>
  obtain⟨k,rfl,I,A,t⟩:=hrel;have p:Hid (P=k+Qs key (l.drop k)):=J.o.trans (Zhk key l k G A I t.out);by_cases b:k<l.length
  ·rcases B.o with H | ⟨g,K,rfl,q⟩
   ·rw[H] at b;simp at b
   have E:=q k b;clear q;obtain⟨y,d⟩:∃ y,y=l.getD k 0:=⟨_,rfl⟩;rw[<-d] at E;have m:=Qc d;clear d;by_cases D:key<=y
   ·have a:Hid (P=k):=p.o.trans (by rw[ZnR key l k (by omega) (by rw[<-m.o];exact D)];exact Nat.add_zero k)
    have f:Hid (R=(y == key)):=by
     rw[u.o,a.o,<-m.o];by_cases e:y=key
     ·rw[beq_iff_eq.2 e];exact decide_eq_true ⟨b,e⟩
     ·rw[beq_eq_false_iff_ne.2 e];exact decide_eq_false (fun h=>e h.2)
    have L:(k:Int)<(l.length:Int):=by omega
    go_wp2
    go_quiet(fail)
    go_wp2;go_ret2;exact⟨Zqb (by rw[a.o]) f.o.symm,Xn (Below.refl _ _) _⟩
   ·go_wp2
    go_round
    case rel=>
     refine⟨k+2,by go_num,by omega,by omega,fun j F z=>?_⟩
     by_cases e:j=k
     ·rw[e,<-m.o];omega
     ·exact t.out j (by omega) z
    case measure=>simp[intOf];omega
  ·have a:Hid (P=l.length):=by
    have e:k=l.length:=by omega
    rw[p.o,e,List.drop_length];exact rfl
   have f:Hid (R=false):=u.o.trans (decide_eq_false (fun h=>by have:=h.1;rw[a.o] at this;omega))
   go_wp2;go_ret2;exact⟨Zqb (by rw[a.o]) f.o.symm,Below.refl _ _⟩
theorem Zfv (v:Value) (l:List Int) (key least lo:Int) (w:World) (c:RdI w v l) (a:Qr least lo l) (b:l.length<=1000000):
 Calls prog 211 #[v,.int .i64 key] w fun e w'=>e=.returned (.tuple #[.int .i64 (Qs key l),.bool (Y6 key l)])∧Below w.heap.size w w':=by
 rw[(ZbL key least l lo a).1];exact ZtM v l key w c (ZbG a) b
theorem Zay:∀ {l:List Int} {lo:Int},-1099511627776<=least->-1<=lo->Qr least lo l->∀ x ∈ l,I64 x
 | [],_,_,_,_,x,hx=>by simp at hx
 | [_],_,_,_,h,_,_=>by simp[Qr] at h
 | a::b::r,lo,hl,hlo,h,x,hx=>by
  unfold Qr at h;have c:=Zay (l:=r) (lo:=a) hl (by omega) h.2.2.2.2 x
  simp at hx;rcases hx with rfl | rfl | hx
  ·exact Qk (by omega) (by omega)
  ·exact Qk (by omega) (by omega)
  ·exact c hx
theorem ZgF (v:Value) (l:List Int) (key least lo:Int) (w:World) (t:RdI w v l) (d:Qr least lo l) (D:l.length<=1000000):
 Calls prog 175 #[v,.int .i64 key] w fun e w'=>e=.returned (.tuple #[.int .i64 ((Xx key l).getD 0),.bool (Y6 key l)])∧Below w.heap.size w w':=by
 have c:Hid (Calls prog 211 #[v,.int .i64 key] w fun e w'=>e=.returned (.tuple #[.int .i64 (Qs key l),.bool (Y6 key l)])∧Below w.heap.size w w'):=Zfv v l key least lo w t d D
 have i:=Qc (ZbL key least l lo d).2;obtain⟨ao,cap,rfl,-,-,-,-,z⟩:=t;have q:=Qc z;obtain⟨G,m⟩:∃ G,G=(Xx key l).getD 0:=⟨_,rfl⟩;rw[<-m];have n:=Qc m;clear z d m
 cases hh:Y6 key l
 ·rw[hh] at c
  have j:Hid (0=G):=by
   have:Xx key l=none:=by
    unfold Y6 at hh
    cases h:Xx key l with
    | none=>rfl
    | some x=>rw[h] at hh;simp at hh
   rw[n.o,this];exact rfl
  clear hh i
  go_enter func175,ntmps175
  go_wp2_with fail
  refine c.o.mono ?_;rintro e B ⟨rfl,a⟩;have f:=Qc a;clear a;go_wp2;go_ret2;exact⟨Zqb j.o rfl,f.o⟩
 ·rw[hh] at c
  obtain⟨u,b⟩:=i.o hh
  have j:Hid (l.getD (Qs key l+1) 0=G):=by
   rw[n.o,u];exact rfl
  rcases q.o with C | ⟨g,p,rfl,k⟩
  ·rw[C] at b;simp at b
  have A:Hid (∀ W,Below w.heap.size w W->W.cell? ⟨g,p+(Qs key l+1),none⟩=some (.int .i64 (l.getD (Qs key l+1) 0))):=fun W h=>(h.cell (World.block_lt_of_cell? w ⟨g,p+(Qs key l+1),none⟩ (k _ b))).trans (k _ b)
  clear hh i u q k n;generalize l.getD (Qs key l+1) 0=y at *;generalize Qs key l=P at *;have F:(P:Int)+1<(l.length:Int):=by omega
  clear b
  go_enter func175,ntmps175
  go_wp2_with fail
  refine c.o.mono ?_;rintro e B ⟨rfl,a⟩;have f:=Qc a;have E:=A.o _ a;clear a;go_wp2;go_ret2;exact⟨Zqb j.o rfl,f.o⟩
theorem ZgG (v:Value) (l:List Int) (key n least lo:Int) (B:Nat) (w:World) (j:Qo w B v l) (L:B<=w.heap.size) (D:∀ x ∈ l,I64 x) (a:Qr least lo l) (J:l.length<=1000000):
 Calls prog 178 #[v,.int .i64 key,.int .i64 n] w fun e w'=>∃ v',e=.returned v'∧Qo w' B v' (Q5 key n false l)∧Mv w w' v v':=by
 have k:Hid (Calls prog 211 #[v,.int .i64 key] w fun e w'=>e=.returned (.tuple #[.int .i64 (Qs key l),.bool (Y6 key l)])∧Below w.heap.size w w'):=Zfv v l key least lo w (j.rd D) a J
 have q:=(Zhj key l (ZbG a)).1;have p:=Qc (ZbL key least l lo a).2;have m:=Qc j
 cases hh:Y6 key l
 ·rw[hh] at k
  have b:=Qc (ZfO key n least l lo a hh)
  have C:Hid (∀ W,Qo W B v l->B<=W.heap.size->Calls prog 212 #[v,.int .i64 (Qs key l),.slice (some ⟨W.heap.size,0,none⟩) 2 2] (W.alloc (.cells #[.int .i64 key,.int .i64 n] 3)) fun e w'=>∃ v',e=.returned v'∧Qo w' B v' (l.take (Qs key l)++([key,n]++l.drop (Qs key l)))∧Mv W w' v v'):=
   fun W t i=>Zol v l B W t i J (Qs key l) q _ rfl key n _ rfl
  obtain⟨L',c⟩:∃ L',L'=Q5 key n false l:=⟨_,rfl⟩;rw[<-c];rw[<-c] at b;have H:=Qc b.o.symm;rw[H.o] at C;clear c b H j a p hh q;generalize Qs key l=P at *
  go_enter func178,ntmps178
  go_wp2_with fail
  refine k.o.mono ?_;rintro e I ⟨rfl,f⟩;have d:=Qc f;clear f
  go_wp2_with fail
  refine(C.o I (m.o.below d.o zL) (Nat.le_trans L d.o.size)).mono ?_;rintro e W2 ⟨Z,rfl,A,G⟩;have K:=Qc ((Mv.ofBelow d.o v).trans G);have U:=Qc A;clear G A;go_wp2;go_ret;exact⟨_,rfl,U.o,K.o⟩
 ·rw[hh] at k
  have b:=Qc (ZlT key n least l lo a hh);obtain⟨t,i⟩:=p.o hh;obtain⟨L',c⟩:∃ L',L'=Q5 key n false l:=⟨_,rfl⟩;rw[<-c];rw[<-c] at b;have R:=j.put _ i n;obtain⟨g,cap,rfl,-,-,Y,V,-,-⟩:=R
  have O:Hid (∀ W,Below w.heap.size w W->W.cell? ⟨g,Qs key l+1,none⟩=some (.int .i64 (l.getD (Qs key l+1) 0))∧W.frozen? ⟨g,Qs key l+1,none⟩=false∧Qo (W.setCell ⟨g,Qs key l+1,none⟩ (.int .i64 n)) B (.slice (some ⟨g,0,none⟩) l.length cap) L'∧Mv w (W.setCell ⟨g,Qs key l+1,none⟩ (.int .i64 n)) (.slice (some ⟨g,0,none⟩) l.length cap) (.slice (some ⟨g,0,none⟩) l.length cap)):=fun W u=>by
   obtain⟨g',X,E,M,Q,h5,h6,S,N⟩:=(m.o.below u zL).put _ i n;simp only [Value.slice.injEq,Option.some.injEq,Addr.mk.injEq] at E;obtain⟨⟨rfl,_⟩,_,rfl⟩:=E;exact⟨M,Q,by rw[b.o];exact S,(Mv.ofBelow u _).trans N⟩
  clear c b j a p hh q t m D;generalize l.getD (Qs key l+1) 0=y at *;generalize Qs key l=P at *;have aa:(P:Int)+1<(l.length:Int):=by omega
  clear i
  go_enter func178,ntmps178
  go_wp2_with fail
  refine k.o.mono ?_;rintro e I ⟨rfl,f⟩;obtain⟨c1,f1,z,F⟩:=O.o _ f;have T:=Qc z;have d:=Qc F;clear f z F;go_wp2;go_ret;exact⟨_,rfl,T.o,d.o⟩
theorem ZvW (v:Value) (l:List Int) (key least lo:Int) (B:Nat) (w:World) (g:Qo w B v l) (n:∀ x ∈ l,I64 x) (a:Qr least lo l) (F:l.length<=1000000):
 Calls prog 176 #[v,.int .i64 key] w fun e w'=>∃ v',e=.returned v'∧Qo w' B v' (X9 key l)∧Mv w w' v v':=by
 have f:Hid (Calls prog 211 #[v,.int .i64 key] w fun e w'=>e=.returned (.tuple #[.int .i64 (Qs key l),.bool (Y6 key l)])∧Below w.heap.size w w'):=Zfv v l key least lo w (g.rd n) a F
 have t:=(Zhj key l (ZbG a)).1;have i:=Qc (ZbL key least l lo a).2;have k:=Qc g
 cases hh:Y6 key l
 ·rw[hh] at f
  have b:=Qc (ZfP key least l lo a hh);rw[b.o];clear b g a i hh t n;generalize Qs key l=P at *
  go_enter func176,ntmps176
  go_wp2_with fail
  refine f.o.mono ?_;rintro e u ⟨rfl,d⟩;have c:=Qc d;clear d;go_wp2;go_ret;exact⟨_,rfl,k.o.below c.o zL,Mv.ofBelow c.o v⟩
 ·rw[hh] at f
  have b:=Qc (ZfQ key least l lo a hh);obtain⟨E,D⟩:=i.o hh
  have y:Hid (∀ W J,Qo W B v l->J=((Qs key l+2:Nat):Int)->Calls prog 210 #[v,.int .i64 (Qs key l),.int .i64 J] W fun e w'=>∃ v',e=.returned v'∧Qo w' B v' (l.take (Qs key l)++l.drop (Qs key l+2))∧Mv W w' v v'):=
   fun W J A C=>ZhD v l B W A (Qs key l) (Qs key l+2) (by omega) (by omega) _ _ rfl C
  obtain⟨L',j⟩:∃ L',L'=X9 key l:=⟨_,rfl⟩;rw[<-j];rw[<-j] at b;have q:=Qc b.o.symm;rw[q.o] at y;clear j b q g a i hh t E;generalize Qs key l=P at *;have K:(P:Int)+1<(l.length:Int):=by omega
  clear D
  go_enter func176,ntmps176
  go_wp2_with fail
  refine f.o.mono ?_;rintro e u ⟨rfl,d⟩;have c:=Qc d;clear d
  go_wp2_with fail
  refine(y.o u _ (k.o.below c.o zL) (by omega)).mono ?_
  rintro e I ⟨H,rfl,m,p⟩;have z:=Qc ((Mv.ofBelow c.o v).trans p);have G:=Qc m;clear p m;go_wp2;go_ret;exact⟨_,rfl,G.o,z.o⟩
def ZdN (B:Nat) (w:World) (v:Value) (L:List Int) (n:Int) (e:Ending) (w':World):Prop:=
 ∃ v',e=.returned (.tuple #[v',.int .i64 n])∧Qo w' B v' L∧Mv w w' v v'
theorem Qo.alloc (h:Qo w B v l) (X:Obj):Qo (w.alloc X) B v l:=World.ownsRow.alloc h X
theorem Qo.single (h:Qo w B v l) (d:l.length=1):
 ∃ g cap,v=.slice (some ⟨g,0,none⟩) 1 cap∧(∀ X,(w.alloc X).cell? ⟨g,0,none⟩=some (.int .i64 (l.getD 0 0))∧(w.alloc X).frozen? ⟨g,0,none⟩=false)∧g<w.heap.size∧
  ∀ X n,Qo ((w.setCell ⟨g,0,none⟩ (.int .i64 n)).alloc X) B v [n]∧Mv w ((w.setCell ⟨g,0,none⟩ (.int .i64 n)).alloc X) v v:=by
 obtain⟨g,cap,rfl,-,-,m,i,-,-⟩:=h.put 0 (by omega) 0
 refine⟨g,cap,by rw[d],fun X=>?_,i,fun X n=>?_⟩
 ·obtain⟨g',k,a,b,c,_⟩:=(h.alloc X).put 0 (by omega) 0
  simp only [Value.slice.injEq,Option.some.injEq,Addr.mk.injEq] at a;obtain⟨⟨rfl,_⟩,_,rfl⟩:=a;exact⟨b,c⟩
 ·obtain⟨g',k,a,b,c,_,_,f,j⟩:=h.put 0 (by omega) n
  simp only [Value.slice.injEq,Option.some.injEq,Addr.mk.injEq] at a;obtain⟨⟨rfl,_⟩,_,rfl⟩:=a
  have e:l.set 0 n=[n]:=by
   match l,d with
   | [_],_=>rfl
  rw[e] at f;exact⟨f.alloc X,j.trans (Mv.alloc _ _ X)⟩
theorem Zor (v:Value) (l:List Int) (o:Opn) (f:Bool) (g:Int) (B:Nat) (w:World) (q:Qo w B v l) (y:l.length=1) (G:-1099511627776<=l.getD 0 0) (D:l.getD 0 0<=1099511627776):
 Calls prog 124 #[v,opV o] w fun e w'=>e=.returned (.int .i64 (ZdX ⟨0,l,f,g⟩ o).2)∧Qo w' B v (ZdX ⟨0,l,f,g⟩ o).1.L∧Mv w w' v v:=by
 obtain⟨d,a,b⟩:=o;have t:=Qc q;have z:Hid (∀ X,Mv w (w.alloc X) v v):=fun X=>Mv.alloc w v X
 have F:=Qc (fun n w=>Zex n w)
 obtain⟨c,cap,rfl,p,K,x⟩:=q.single y;have C:=Qc x;have E:=fun X=>(p X).1
 have I:=fun X=>(p X).2
 clear x q p;obtain⟨n,m⟩:∃ n,n=l.getD 0 0:=⟨_,rfl⟩;rw[<-m] at G D;simp only [<-m] at E;have u:=Qc m;have H:=ZbU a;clear m y;show Calls prog _ #[_,.agg #[.int .i64 d,.int .i64 a,.int .i64 b]] w _;by_cases k:d=1
 ·subst k
  have j:Hid (ZdX ⟨0,l,f,g⟩ ⟨1,a,b⟩=(⟨0,[Zz (n+Zz a)],f,g⟩,n)):=by rw[u.o];exact if_pos ⟨rfl,rfl⟩
  rw[j.o]
  go_enter func124,ntmps124
  go_wp2_with(first | (go_at_call 173;refine(F.o _ _).mono ?_;rintro e M ⟨rfl,rfl⟩))
  go_ret;exact⟨rfl,C.o _ _⟩
 ·have J:(d == 1)=false:=beq_eq_false_iff_ne.2 k
  by_cases i:d=7
  ·have A:(d == 7)=true:=beq_iff_eq.2 i
   have j:Hid (ZdX ⟨0,l,f,g⟩ ⟨d,a,b⟩=(⟨0,l,f,g⟩,n)):=by
    rw[u.o];unfold ZdX;rw[if_neg (by simp;omega),if_neg (by simp),if_pos i]
    exact rfl
   rw[j.o];clear k i
   go_enter func124,ntmps124
   go_wp2;go_ret;exact⟨rfl,t.o.alloc _,z.o _⟩
  ·have A:(d == 7)=false:=beq_eq_false_iff_ne.2 i
   have j:Hid (ZdX ⟨0,l,f,g⟩ ⟨d,a,b⟩=(⟨0,l,f,g⟩,0)):=by
    unfold ZdX;rw[if_neg (by simp;omega),if_neg (by simp),if_neg i]
    exact rfl
   rw[j.o];clear k i
   go_enter func124,ntmps124
   go_wp2;go_ret;exact⟨rfl,t.o.alloc _,z.o _⟩
theorem Zmz (v:Value) (l:List Int) (o:Opn) (f:Bool) (g:Int) (B:Nat) (w:World) (p:Qo w B v l) (y:l.length=1):
 Calls prog 125 #[v,opV o] w fun e w'=>e=.returned (.int .i64 (ZdX ⟨1,l,f,g⟩ o).2)∧Qo w' B v (ZdX ⟨1,l,f,g⟩ o).1.L∧Mv w w' v v:=by
 obtain⟨d,a,b⟩:=o;have t:=Qc p;have z:Hid (∀ X,Mv w (w.alloc X) v v):=fun X=>Mv.alloc w v X
 have E:=Qc (fun n w=>Zex n w)
 obtain⟨c,cap,rfl,m,H,x⟩:=p.single y;have C:=Qc x;have D:=fun X=>(m X).1
 have F:=fun X=>(m X).2
 clear x p m;obtain⟨n,q⟩:∃ n,n=l.getD 0 0:=⟨_,rfl⟩;simp only [<-q] at D;have u:=Qc q;clear q y;show Calls prog _ #[_,.agg #[.int .i64 d,.int .i64 a,.int .i64 b]] w _;by_cases k:d=2
 ·subst k
  have j:Hid (ZdX ⟨1,l,f,g⟩ ⟨2,a,b⟩=(⟨1,[Zz a],f,g⟩,n)):=by rw[u.o];exact rfl
  rw[j.o]
  go_enter func125,ntmps125
  go_wp2_with(first | (go_at_call 173;refine(E.o _ _).mono ?_;rintro e I ⟨rfl,rfl⟩))
  go_ret;exact⟨rfl,C.o _ _⟩
 ·have G:(d == 2)=false:=beq_eq_false_iff_ne.2 k
  by_cases i:d=7
  ·have A:(d == 7)=true:=beq_iff_eq.2 i
   have j:Hid (ZdX ⟨1,l,f,g⟩ ⟨d,a,b⟩=(⟨1,l,f,g⟩,n)):=by
    rw[u.o];unfold ZdX;rw[if_neg (by simp),if_neg (by simp;omega),if_pos i]
    exact rfl
   rw[j.o];clear k i
   go_enter func125,ntmps125
   go_wp2;go_ret;exact⟨rfl,t.o.alloc _,z.o _⟩
  ·have A:(d == 7)=false:=beq_eq_false_iff_ne.2 i
   have j:Hid (ZdX ⟨1,l,f,g⟩ ⟨d,a,b⟩=(⟨1,l,f,g⟩,0)):=by
    unfold ZdX;rw[if_neg (by simp),if_neg (by simp;omega),if_neg i]
    exact rfl
   rw[j.o];clear k i
   go_enter func125,ntmps125
   go_wp2;go_ret;exact⟨rfl,t.o.alloc _,z.o _⟩
theorem Zxv (kind:Int) (U:kind=2∨kind=3) (v:Value) (l:List Int) (f:Bool) (g a b:Int) (B:Nat) (w:World) (k:Qo w B v l) (n:∀ x ∈ l,I64 x) (N:l.length<=64):
 Calls prog 174 #[.int .i64 kind,v] w fun e w'=>ZdN B w v (Yy ⟨kind,l,f,g⟩ ⟨4,a,b⟩).1.L (Yy ⟨kind,l,f,g⟩ ⟨4,a,b⟩).2 e w':=by
 have m:=Qc k;have K:=k.shape;by_cases d:l.length=0
 ·have j:Hid (Yy ⟨kind,l,f,g⟩ ⟨4,a,b⟩=(⟨kind,l,f,g⟩,-1)):=by
   unfold Yy;rw[if_neg (by simp),if_pos rfl,if_pos d]
   exact rfl
  rw[j.o];obtain⟨ao,cap,rfl⟩:=K;rw[d]
  have O:Hid (Qo w B (.slice ao 0 cap) l):=by
   have h:=m.o
   rwa [d] at h
  clear m k d j n N
  go_enter func174,ntmps174
  go_wp2;go_ret2;exact⟨_,rfl,O.o,Mv.refl _ _⟩
 ·have R:((l.length:Int) == 0)=false:=beq_eq_false_iff_ne.2 (by omega)
  have D:l≠[]:=fun h=>d (by rw[h];rfl)
  have Q:=k.rd n;obtain⟨ao,cap,rfl⟩:=K
  have z:Hid (∀ i:Nat,i<l.length->∀ I J,I=(i:Int)->J=((i+1:Nat):Int)->Calls prog 210 #[.slice ao l.length cap,.int .i64 I,.int .i64 J] w fun e w'=>∃ v',e=.returned v'∧Qo w' B v' (l.take i++l.drop (i+1))∧Mv w w' (.slice ao l.length cap) v'):=
   fun i n I J V S=>ZhD _ l B w m.o i (i+1) (by omega) (by omega) I J V S
  obtain⟨Z,aa,G,-,-,-,-,W⟩:=Q;simp only [Value.slice.injEq] at G;obtain⟨rfl,-,rfl⟩:=G;rcases W with P | ⟨c,Y,rfl,u⟩
  ·exact absurd P D
  rcases U with rfl | rfl
  ·have j:Hid (Yy ⟨2,l,f,g⟩ ⟨4,a,b⟩=(⟨2,l.take 0++l.drop (0+1),f,g⟩,l.getD 0 0)):=by
    unfold Yy;rw[if_neg (by simp),if_pos rfl,if_neg d,if_pos rfl]
    exact rfl
   rw[j.o];have C:=u 0 (by omega)
   rw[Nat.add_zero] at C;have q:=Qc (z.o 0 (by omega))
   have ac:(0:Int)<(l.length:Int):=by omega
   generalize l.getD 0 0=y at *;generalize l.take 0++l.drop (0+1)=L' at *;clear u z j d D k n m
   go_enter func174,ntmps174
   go_wp2_with fail
   refine(q.o _ _ (by simp) (by simp)).mono ?_
   rintro e T ⟨X,rfl,t,p⟩;have E:=Qc t;have A:=Qc p;clear t p;go_wp2;go_ret2;exact⟨_,rfl,E.o,A.o⟩
  ·have j:Hid (Yy ⟨3,l,f,g⟩ ⟨4,a,b⟩=(⟨3,l.take (l.length-1)++l.drop (l.length-1+1),f,g⟩,l.getD (l.length-1) 0)):=by
    unfold Yy;rw[if_neg (by simp),if_pos rfl,if_neg d,if_neg (by simp)]
    have e:l.drop (l.length-1+1)=[]:=List.drop_of_length_le (by omega)
    rw[e,List.append_nil];exact rfl
   rw[j.o];have C:=u (l.length-1) (by omega)
   have q:=Qc (z.o (l.length-1) (by omega))
   obtain⟨M,F⟩:∃ M,M=l.length-1:=⟨_,rfl⟩;rw[<-F] at C q ⊢;have H:l.length=M+1:=by omega
   generalize l.getD M 0=y at *;generalize l.take M++l.drop (M+1)=L' at *;clear u z j d D k n m F R;rw[H] at q ⊢;have ab:(M:Int)<64:=by omega
   clear H N
   go_enter func174,ntmps174
   go_wp2_with fail
   refine(q.o _ _ (by simp) (by simp)).mono ?_
   rintro e T ⟨X,rfl,t,p⟩;have E:=Qc t;have A:=Qc p;clear t p;go_wp2;go_ret2;exact⟨_,rfl,E.o,A.o⟩
theorem Yu {b:Int} (h:a=b):Ending.returned (.tuple #[v,.int .i64 a])=.returned (.tuple #[v,.int .i64 b]):=by rw[h]
theorem ZvX (kind:Int) (q:kind=2∨kind=3) (v:Value) (l:List Int) (o:Opn) (c:Bool) (g:Int) (B:Nat) (w:World) (i:Qo w B v l) (S:B<=w.heap.size) (p:∀ x ∈ l,I64 x) (A:l.length<=64):
 Calls prog 126 #[.int .i64 kind,v,opV o] w fun e w'=>ZdN B w v (Yy ⟨kind,l,c,g⟩ o).1.L (Yy ⟨kind,l,c,g⟩ o).2 e w':=by
 obtain⟨f,a,b⟩:=o;have u:=Qc i;have z:Hid (∀ X,Mv w (w.alloc X) v v):=fun X=>Mv.alloc w v X
 have M:=Qc (fun n w=>Zex n w)
 show Calls prog _ #[_,_,.agg #[.int .i64 f,.int .i64 a,.int .i64 b]] w _;by_cases j:f=3
 ·subst j
  obtain⟨ao,cap,rfl⟩:=i.shape;by_cases C:l.length=64
  ·have d:Hid (Yy ⟨kind,l,c,g⟩ ⟨3,a,b⟩=(⟨kind,l,c,g⟩,-1)):=by
    unfold Yy;rw[if_pos rfl,if_pos C];exact rfl
   rw[d.o];have O:((l.length:Int) == 64)=true:=beq_iff_eq.2 (by omega)
   clear C d i p A q
   go_enter func126,ntmps126
   go_wp2;go_ret2;exact⟨_,rfl,u.o.alloc _,z.o _⟩
  ·have d:Hid (Yy ⟨kind,l,c,g⟩ ⟨3,a,b⟩=(⟨kind,l++[Zz a],c,g⟩,(l.length:Int)+1)):=by
    unfold Yy;rw[if_pos rfl,if_neg C];exact rfl
   rw[d.o];have O:((l.length:Int) == 64)=false:=beq_eq_false_iff_ne.2 (by omega)
   obtain⟨L',D⟩:∃ L',L'=l++[Zz a]:=⟨_,rfl⟩;rw[<-D];have K:=Qc D;have R:Hid ((L'.length:Int)=(l.length:Int)+1):=by rw[D,length_append];exact rfl
   clear C d i p q D
   go_enter func126,ntmps126
   go_wp2_with(first | (go_at_call 173;refine(M.o _ _).mono ?_;rintro e V ⟨rfl,rfl⟩) | (at_builtin;refine Zei _ rfl _ _ rfl B _ l rfl (u.o.alloc _) _ _ rfl (by simp[Act.eval]) (by omega) (by simp;omega) ?_))
   intro Q N k G H;have y:=Mv.app G (by simp) H
   clear G H;rw[<-K.o] at k;have F:=Qc k;obtain⟨W,U,rfl⟩:=k.shape;have E:=Qc ((z.o _).trans y);clear k y;go_wp2;go_ret2;exact⟨_,Yu R.o,F.o,E.o⟩
 ·have J:(f == 3)=false:=beq_eq_false_iff_ne.2 j
  by_cases m:f=4
  ·subst m
   have P:Hid (∀ X,Calls prog 174 #[.int .i64 kind,v] (w.alloc X) fun e w'=>ZdN B (w.alloc X) v (Yy ⟨kind,l,c,g⟩ ⟨4,a,b⟩).1.L (Yy ⟨kind,l,c,g⟩ ⟨4,a,b⟩).2 e w'):=fun X=>Zxv kind q v l c g a b B (w.alloc X) (u.o.alloc X) p A
   generalize (Yy ⟨kind,l,c,g⟩ ⟨4,a,b⟩).1.L=L' at *;generalize (Yy ⟨kind,l,c,g⟩ ⟨4,a,b⟩).2=n at *;clear i p A q j J
   go_enter func126,ntmps126
   go_wp2_with fail
   refine(P.o _).mono ?_;rintro e N ⟨Q,rfl,k,y⟩;have F:=Qc k;have E:=Qc ((z.o _).trans y);clear k y;go_wp2;go_ret2;exact⟨_,rfl,F.o,E.o⟩
  ·have T:(f == 4)=false:=beq_eq_false_iff_ne.2 m
   obtain⟨ao,cap,rfl⟩:=i.shape;by_cases t:f=7
   ·have I:(f == 7)=true:=beq_iff_eq.2 t
    have d:Hid (Yy ⟨kind,l,c,g⟩ ⟨f,a,b⟩=(⟨kind,l,c,g⟩,(l.length:Int))):=by
     unfold Yy;rw[if_neg j,if_neg m,if_pos t];exact rfl
    rw[d.o];clear i p A q j m t d
    go_enter func126,ntmps126
    go_wp2;go_ret2;exact⟨_,rfl,u.o.alloc _,z.o _⟩
   ·have I:(f == 7)=false:=beq_eq_false_iff_ne.2 t
    have d:Hid (Yy ⟨kind,l,c,g⟩ ⟨f,a,b⟩=(⟨kind,l,c,g⟩,0)):=by
     unfold Yy;rw[if_neg j,if_neg m,if_neg t];exact rfl
    rw[d.o];clear i p A q j m t d
    go_enter func126,ntmps126
    go_wp2;go_ret2;exact⟨_,rfl,u.o.alloc _,z.o _⟩
theorem Qo.drew (h:Qo w B v l):Qo w.drew B v l:=h
theorem Zbr (key:Int) (l:List Int):Z8 key 0 l<0↔Y6 key l=false:=by
 rw[Zeg];unfold Y6
 cases Xx key l <;> simp
theorem ZtN (h:Y6 key l=true):ZqC key l=(Xx key l).getD 0:=by
 rw[ZnK];unfold Y6 at h
 cases hg:Xx key l with
 | none=>rw[hg] at h;simp at h
 | some x=>rfl
theorem ZkS (h:Y6 key l=false):ZqC key l=-1:=by
 rw[ZnK];unfold Y6 at h
 cases hg:Xx key l with
 | none=>rfl
 | some x=>rw[hg] at h;simp at h
theorem Zrt (v:Value) (l:List Int) (o:Opn) (ab:Bool) (g:Int) (B:Nat) (w:World) (ho:Qo w B v l) (hB:B<=w.heap.size) (S:Qr (-1099511627776) (-1) l) (aj:l.length<=128):
 Calls prog 127 #[v,opV o] w fun e w'=>ZdN B w v (Ze ⟨4,l,ab,g⟩ o).1.L (Ze ⟨4,l,ab,g⟩ o).2 e w':=by
 obtain⟨c,a,b⟩:=o;have hi:=Zay (by decide) (by decide) S
 have HO:=Qc ho;have ad:Hid (∀ X,Mv w (w.alloc X) v v):=fun X=>Mv.alloc w v X
 have HC:=Qc (fun n w=>Zex n w)
 have HW:=Qc (fun p q W=>Jx p q W)
 have HS:=Qc (fun n l2 f a2 b2 W R p2=>Zdq n l2 f a2 b2 W R p2)
 have aa:Hid (∀ W,Qo W B v l->Calls prog 175 #[v,.int .i64 a] W fun e w'=>e=.returned (.tuple #[.int .i64 ((Xx a l).getD 0),.bool (Y6 a l)])∧Below W.heap.size W w'):=fun W h=>ZgF v l a _ _ W (h.rd hi) S (by omega)
 have af:Hid (∀ n W,Qo W B v l->B<=W.heap.size->Calls prog 178 #[v,.int .i64 a,.int .i64 n] W fun e w'=>∃ v',e=.returned v'∧Qo w' B v' (Q5 a n false l)∧Mv W w' v v'):=fun n W i f=>ZgG v l a n _ _ B W i f hi S (by omega)
 have ai:Hid (∀ W,Qo W B v l->B<=W.heap.size->Calls prog 176 #[v,.int .i64 a] W fun e w'=>∃ v',e=.returned v'∧Qo w' B v' (X9 a l)∧Mv W w' v v'):=fun W i _=>ZvW v l a _ _ B W i hi S (by omega)
 obtain⟨ao,cap,rfl⟩:=ho.shape;have ag:Hid (∀ W,Calls prog 177 #[.slice ao l.length cap] W fun e w'=>e=.returned (.bool (decide (l.length=128)))∧w'=W):=fun W=>ZkR ao l.length cap W
 obtain⟨L',n',hE⟩:∃ L' n',Ze ⟨4,l,ab,g⟩ ⟨c,a,b⟩=(⟨4,L',ab,g⟩,n'):=by
  unfold Ze
  repeat' split
  all_goals exact⟨_,_,rfl⟩
 rw[hE];have D:=Qc hE;clear hE ho S hi;show Calls prog _ #[_,.agg #[.int .i64 c,.int .i64 a,.int .i64 b]] w fun e w'=>ZdN B w (.slice ao l.length cap) L' n' e w'
 by_cases Y:0<=a∧a<=255
 ·have Z:=Qc (decide_eq_true Y)
  have G:Hid (¬ (a<0∨255<a)):=by
   show ¬ (a<0∨255<a);omega
  clear Y
  cases hh:Y6 a l
  ·have ae:=Qc ((Zbr a l).2 hh)
   have N:=Qc (ZkS hh);rw[hh] at aa;clear hh;generalize (Xx a l).getD 0=y at *
   go_enter func127,ntmps127
   go_wp2_with fail
   refine(HW.o _ _ _).mono ?_;rintro e V ⟨a1,b1,rfl,I,K,k⟩;have j:=(k.block w.heap.size (by simp)).trans (heap_alloc_new w _)
   have R:=cell_of_row V w.heap.size 1 _ _ _ j;have J:=Qc j;have M:=Qc ((ad.o _).trans (Mv.ofBelow k _));have H:=Qc ((HO.o.alloc _).below k zL);clear k j
   go_wp2_with fail
   refine(HS.o _ _ _ _ _ _ I K).mono ?_;rintro e z ⟨rfl,rfl⟩;rw[Z.o];clear I K
   go_wp2_with fail
   refine(aa.o _ H.o).mono ?_;rintro e z ⟨rfl,F⟩;have j:=(F.block w.heap.size (Array.getElem?_eq_some_iff.1 J.o).1).trans J.o;have p0:=cell_of_row z w.heap.size 0 _ _ _ j;have q1:=cell_of_row z w.heap.size 1 _ _ _ j;have q2:=cell_of_row z w.heap.size 2 _ _ _ j;have u:=Qc (M.o.trans (Mv.ofBelow F _));have E:=Qc (H.o.below F zL);have U:B<=z.heap.size:=Nat.le_trans hB u.o.size;clear F j J M H R;by_cases m:c=7
   ·have d:Hid (L'=l∧n'=-1):=by
     have h:=D.o;unfold Ze at h;rw[if_neg G.o,if_neg (show ¬ (c≠7∧c≠6∧c≠5) by omega),if_neg (show ¬ c=6 by omega),if_neg (show ¬ c=5 by omega),N.o] at h
     injection h with i f
     injection i with _ h3
     exact⟨h3.symm,f.symm⟩
    have e7:(c == 7)=true:=beq_iff_eq.2 m;clear m;go_wp2;go_ret2;exact⟨_,Yu d.o.2.symm,by rw[d.o.1];exact E.o,u.o⟩
   ·have e7:(c == 7)=false:=beq_eq_false_iff_ne.2 m
    by_cases x:c=6
    ·have d:Hid (L'=X9 a l∧n'=-1):=by
      have h:=D.o;unfold Ze at h;rw[if_neg G.o,if_neg (show ¬ (c≠7∧c≠6∧c≠5) by omega),if_pos (show c=6 by omega),N.o] at h
      injection h with i f
      injection i with _ h3
      exact⟨h3.symm,f.symm⟩
     have e6:(c == 6)=true:=beq_iff_eq.2 x;clear x m
     go_wp2_with fail
     refine(ai.o _ E.o U).mono ?_;rintro e T ⟨v3,rfl,A,C⟩;have O:=Qc (u.o.trans C);have P:=Qc A;clear A C;go_wp2;go_ret2;exact⟨_,Yu d.o.2.symm,by rw[d.o.1];exact P.o,O.o⟩
    ·have e6:(c == 6)=false:=beq_eq_false_iff_ne.2 x
     by_cases t:c=5
     ·have e5:(c == 5)=true:=beq_iff_eq.2 t
      by_cases Q:l.length=128
      ·have d:Hid (L'=l∧n'=-2):=by
        have h:=D.o;unfold Ze at h;rw[if_neg G.o,if_neg (show ¬ (c≠7∧c≠6∧c≠5) by omega),if_neg (show ¬ c=6 by omega),if_pos t,if_pos ⟨ae.o,Q⟩] at h
        injection h with i f
        injection i with _ h3
        exact⟨h3.symm,f.symm⟩
       have ac:=Qc (decide_eq_true Q);clear t x m Q
       go_wp2_with fail
       refine(ag.o _).mono ?_;rintro e T ⟨rfl,rfl⟩;rw[ac.o];go_wp2;go_ret2;exact⟨_,Yu d.o.2.symm,by rw[d.o.1];exact E.o,u.o⟩
      ·have d:Hid (L'=Q5 a (Zz b) false l∧n'=-1):=by
        have h:=D.o;unfold Ze at h;rw[if_neg G.o,if_neg (show ¬ (c≠7∧c≠6∧c≠5) by omega),if_neg (show ¬ c=6 by omega),if_pos t,if_neg (fun h=>Q h.2),N.o] at h
        injection h with i f
        injection i with _ h3
        exact⟨h3.symm,f.symm⟩
       have ac:=Qc (decide_eq_false Q);clear Q;clear t x m
       go_wp2_with fail
       refine(ag.o _).mono ?_;rintro e T ⟨rfl,rfl⟩;rw[ac.o];go_wp2
       go_region_with
        (first
         | (go_at_call 173;refine(HC.o _ _).mono ?_;rintro e w3 ⟨rfl,rfl⟩)
         | (go_at_call 178;refine(af.o _ _ E.o.drew U).mono ?_;rintro e T ⟨v3,rfl,A,C⟩;have O:=Qc (u.o.drew.trans C);have P:=Qc A;clear A C))
       all_goals
        go_wp2;go_ret2;exact⟨_,Yu d.o.2.symm,by rw[d.o.1];exact P.o,O.o⟩
     ·have e5:(c == 5)=false:=beq_eq_false_iff_ne.2 t
      have d:Hid (L'=l∧n'=0):=by
       have h:=D.o;unfold Ze at h;rw[if_neg G.o,if_pos (show(c≠7∧c≠6∧c≠5) by omega)] at h
       injection h with i f
       injection i with _ h3
       exact⟨h3.symm,f.symm⟩
      clear t x m;go_wp2;go_ret2;exact⟨_,Yu d.o.2.symm,by rw[d.o.1];exact E.o,u.o⟩
  ·have ae:Hid (¬ Z8 a 0 l<0):=fun h=>by rw[(Zbr a l).1 h] at hh;cases hh
   have N:=Qc (ZtN hh);rw[hh] at aa;clear hh;generalize (Xx a l).getD 0=y at *
   go_enter func127,ntmps127
   go_wp2_with fail
   refine(HW.o _ _ _).mono ?_;rintro e V ⟨a1,b1,rfl,I,K,k⟩;have j:=(k.block w.heap.size (by simp)).trans (heap_alloc_new w _)
   have R:=cell_of_row V w.heap.size 1 _ _ _ j;have J:=Qc j;have M:=Qc ((ad.o _).trans (Mv.ofBelow k _));have H:=Qc ((HO.o.alloc _).below k zL);clear k j
   go_wp2_with fail
   refine(HS.o _ _ _ _ _ _ I K).mono ?_;rintro e z ⟨rfl,rfl⟩;rw[Z.o];clear I K
   go_wp2_with fail
   refine(aa.o _ H.o).mono ?_;rintro e z ⟨rfl,F⟩;have j:=(F.block w.heap.size (Array.getElem?_eq_some_iff.1 J.o).1).trans J.o;have p0:=cell_of_row z w.heap.size 0 _ _ _ j;have q1:=cell_of_row z w.heap.size 1 _ _ _ j;have q2:=cell_of_row z w.heap.size 2 _ _ _ j;have u:=Qc (M.o.trans (Mv.ofBelow F _));have E:=Qc (H.o.below F zL);have U:B<=z.heap.size:=Nat.le_trans hB u.o.size;clear F j J M H R;by_cases m:c=7
   ·have d:Hid (L'=l∧n'=y):=by
     have h:=D.o;unfold Ze at h;rw[if_neg G.o,if_neg (show ¬ (c≠7∧c≠6∧c≠5) by omega),if_neg (show ¬ c=6 by omega),if_neg (show ¬ c=5 by omega),N.o] at h
     injection h with i f
     injection i with _ h3
     exact⟨h3.symm,f.symm⟩
    have e7:(c == 7)=true:=beq_iff_eq.2 m;clear m;go_wp2;go_ret2;exact⟨_,Yu d.o.2.symm,by rw[d.o.1];exact E.o,u.o⟩
   ·have e7:(c == 7)=false:=beq_eq_false_iff_ne.2 m
    by_cases x:c=6
    ·have d:Hid (L'=X9 a l∧n'=y):=by
      have h:=D.o;unfold Ze at h;rw[if_neg G.o,if_neg (show ¬ (c≠7∧c≠6∧c≠5) by omega),if_pos (show c=6 by omega),N.o] at h
      injection h with i f
      injection i with _ h3
      exact⟨h3.symm,f.symm⟩
     have e6:(c == 6)=true:=beq_iff_eq.2 x;clear x m
     go_wp2_with fail
     refine(ai.o _ E.o U).mono ?_;rintro e T ⟨v3,rfl,A,C⟩;have O:=Qc (u.o.trans C);have P:=Qc A;clear A C;go_wp2;go_ret2;exact⟨_,Yu d.o.2.symm,by rw[d.o.1];exact P.o,O.o⟩
    ·have e6:(c == 6)=false:=beq_eq_false_iff_ne.2 x
     by_cases t:c=5
     ·have e5:(c == 5)=true:=beq_iff_eq.2 t
      have d:Hid (L'=Q5 a (Zz b) false l∧n'=y):=by
       have h:=D.o;unfold Ze at h;rw[if_neg G.o,if_neg (show ¬ (c≠7∧c≠6∧c≠5) by omega),if_neg (show ¬ c=6 by omega),if_pos t,if_neg (fun h=>absurd (show Z8 a 0 l<0 from h.1) (by have:=ae.o;omega)),N.o] at h
       injection h with i f
       injection i with _ h3
       exact⟨h3.symm,f.symm⟩
      clear t x m;go_wp2
      go_region_with
       (first
        | (go_at_call 173;refine(HC.o _ _).mono ?_;rintro e w3 ⟨rfl,rfl⟩)
        | (go_at_call 178;refine(af.o _ _ E.o.drew U).mono ?_;rintro e T ⟨v3,rfl,A,C⟩;have O:=Qc (u.o.drew.trans C);have P:=Qc A;clear A C))
      all_goals
       go_wp2;go_ret2;exact⟨_,Yu d.o.2.symm,by rw[d.o.1];exact P.o,O.o⟩
     ·have e5:(c == 5)=false:=beq_eq_false_iff_ne.2 t
      have d:Hid (L'=l∧n'=0):=by
       have h:=D.o;unfold Ze at h;rw[if_neg G.o,if_pos (show(c≠7∧c≠6∧c≠5) by omega)] at h
       injection h with i f
       injection i with _ h3
       exact⟨h3.symm,f.symm⟩
      clear t x m;go_wp2;go_ret2;exact⟨_,Yu d.o.2.symm,by rw[d.o.1];exact E.o,u.o⟩
 ·have Z:=Qc (decide_eq_false Y)
  have d:Hid (L'=l∧n'=-1):=by
   have h:=D.o;unfold Ze at h;rw[if_pos (show a<0∨255<a by omega)] at h
   injection h with i f
   injection i with _ h3
   exact⟨h3.symm,f.symm⟩
  clear Y
  go_enter func127,ntmps127
  go_wp2_with fail
  refine(HW.o _ _ _).mono ?_;rintro e V ⟨a1,b1,rfl,I,K,k⟩;have j:=(k.block w.heap.size (by simp)).trans (heap_alloc_new w _)
  have R:=cell_of_row V w.heap.size 1 _ _ _ j;have J:=Qc j;have M:=Qc ((ad.o _).trans (Mv.ofBelow k _));have H:=Qc ((HO.o.alloc _).below k zL);clear k j
  go_wp2_with fail
  refine(HS.o _ _ _ _ _ _ I K).mono ?_;rintro e z ⟨rfl,rfl⟩;rw[Z.o];clear I K;go_wp2;go_ret2;exact⟨_,Yu d.o.2.symm,by rw[d.o.1];exact H.o,M.o⟩
theorem Zos (v:Value) (l:List Int) (a b:Int) (i:Bool) (g:Int) (B:Nat) (w:World) (U:Qo w B v l) (hB:B<=w.heap.size) (z:Qr 0 (-1) l) (ae:l.length<=128):
 Calls prog 179 #[v,.int .i64 a,.int .i64 b] w fun e w'=>ZdN B w v (Xv ⟨5,l,i,g⟩ ⟨8,a,b⟩).1.L (Xv ⟨5,l,i,g⟩ ⟨8,a,b⟩).2 e w':=by
 have N:=Zay (by decide) (by decide) z
 have J:=Qc U;have HC:=Qc (fun n w=>Zex n w)
 have T:=Qc (fun p q W=>Jx p q W)
 have O:=Qc (fun n l2 f a2 b2 W p1 p2=>Zdq n l2 f a2 b2 W p1 p2)
 have ab:Hid (∀ W,Qo W B v l->Calls prog 175 #[v,.int .i64 a] W fun e w'=>e=.returned (.tuple #[.int .i64 (Yh a l),.bool (Y6 a l)])∧Below W.heap.size W w'):=fun W h=>by
  rw[ZgU];exact ZgF v l a _ _ W (h.rd N) z (by omega)
 have X:Hid (∀ n W,Qo W B v l->B<=W.heap.size->Calls prog 178 #[v,.int .i64 a,.int .i64 n] W fun e w'=>∃ v',e=.returned v'∧Qo w' B v' (Q5 a n false l)∧Mv W w' v v'):=fun n W k f=>ZgG v l a n _ _ B W k f N z (by omega)
 have ac:=ZaP z a;obtain⟨ao,cap,rfl⟩:=U.shape;have Y:Hid (∀ W,Calls prog 177 #[.slice ao l.length cap] W fun e w'=>e=.returned (.bool (decide (l.length=128)))∧w'=W):=fun W=>ZkR ao l.length cap W
 obtain⟨L',n',I⟩:∃ L' n',Xv ⟨5,l,i,g⟩ ⟨8,a,b⟩=(⟨5,L',i,g⟩,n'):=by
  unfold Xv;rw[if_neg (by simp),if_neg (by simp)]
  repeat' split
  all_goals exact⟨_,_,rfl⟩
 rw[I];have Z:=Qc I
 have F:Hid ((if a<0∨255<a then((⟨5,l,i,g⟩:St),(-1:Int)) else if b<0 then(⟨5,l,i,g⟩,-1) else if Z8 a 0 l<0∧l.length=128 then(⟨5,l,i,g⟩,-2) else(⟨5,Q5 a (Zz (Yh a l+Zz b)) false l,i,g⟩,Zz (Yh a l+Zz b)))=(⟨5,L',i,g⟩,n')):=by
  refine Qc ?_;have h:=Z.o;unfold Xv at h;rw[if_neg (by simp),if_neg (by simp)] at h
  simpa using h
 clear I U z N Z;show Calls prog _ _ w fun e w'=>ZdN B w (.slice ao l.length cap) L' n' e w'
 have ad:=ZbU b;by_cases G:0<=a∧a<=255
 ·have E:=Qc (decide_eq_true G)
  have K:Hid (¬ (a<0∨255<a)):=by
   show ¬ (a<0∨255<a);omega
  clear G;by_cases hb:b<0
  ·have c:Hid (L'=l∧n'=-1):=by
    have h:=F.o;rw[if_neg K.o,if_pos hb] at h
    injection h with k f
    injection k with _ h3
    exact⟨h3.symm,f.symm⟩
   go_enter func179,ntmps179
   go_wp2_with fail
   refine(T.o _ _ _).mono ?_;rintro e W1 ⟨a1,b1,rfl,u,x,d⟩;have t:=Qc (Mv.ofBelow d (.slice ao l.length cap));have m:=Qc (J.o.below d zL);clear d
   go_wp2_with fail
   refine(O.o _ _ _ _ _ _ u x).mono ?_;rintro e H ⟨rfl,rfl⟩;rw[E.o];go_wp2;go_ret2;exact⟨_,Yu c.o.2.symm,by rw[c.o.1];exact m.o,t.o⟩
  ·go_enter func179,ntmps179
   go_wp2_with fail
   refine(T.o _ _ _).mono ?_;rintro e W1 ⟨a1,b1,rfl,u,x,d⟩;have t:=Qc (Mv.ofBelow d (.slice ao l.length cap));have m:=Qc (J.o.below d zL);clear d
   go_wp2_with fail
   refine(O.o _ _ _ _ _ _ u x).mono ?_;rintro e H ⟨rfl,rfl⟩;rw[E.o];clear u x
   go_wp2_with fail
   refine(ab.o _ m.o).mono ?_;rintro e H ⟨rfl,P⟩;have D:=Qc (t.o.trans (Mv.ofBelow P _));have V:=Qc (m.o.below P zL);have aa:B<=H.heap.size:=Nat.le_trans hB D.o.size;clear P t m;by_cases j:Y6 a l=false∧l.length=128
   ·have c:Hid (L'=l∧n'=-2):=by
     have h:=F.o;rw[if_neg K.o,if_neg (show ¬ b<0 by omega),if_pos ⟨(Zbr a l).2 j.1,j.2⟩] at h
     injection h with k f
     injection k with _ h3
     exact⟨h3.symm,f.symm⟩
    have S:=Qc (decide_eq_true j.2);rw[j.1];clear j
    go_wp2_with fail
    refine(Y.o _).mono ?_;rintro e Q ⟨rfl,rfl⟩;rw[S.o];go_wp2;go_ret2;exact⟨_,Yu c.o.2.symm,by rw[c.o.1];exact V.o,D.o⟩
   ·have c:Hid (L'=Q5 a (Zz (Yh a l+Zz b)) false l∧n'=Zz (Yh a l+Zz b)):=by
     have h:=F.o;rw[if_neg K.o,if_neg (show ¬ b<0 by omega),if_neg (fun h=>j ⟨(Zbr a l).1 h.1,h.2⟩)] at h
     injection h with k f
     injection k with _ h3
     exact⟨h3.symm,f.symm⟩
    generalize Yh a l=y at *
    cases hh:Y6 a l
    ·have S:=Qc (decide_eq_false (fun h=>j ⟨hh,h⟩))
     clear j hh
     go_wp2_with fail
     refine(Y.o _).mono ?_;rintro e Q ⟨rfl,rfl⟩;rw[S.o]
     go_wp2_with(first | (go_at_call 173;refine(HC.o _ _).mono ?_;rintro e w3 ⟨rfl,rfl⟩) | (go_at_call 178;refine(X.o _ _ V.o aa).mono ?_;rintro e Q ⟨v3,rfl,A,C⟩;have R:=Qc (D.o.trans C);have M:=Qc A;clear A C))
     go_ret2;exact⟨_,Yu c.o.2.symm,by rw[c.o.1];exact M.o,R.o⟩
    ·clear j hh
     go_wp2_with(first | (go_at_call 173;refine(HC.o _ _).mono ?_;rintro e w3 ⟨rfl,rfl⟩) | (go_at_call 178;refine(X.o _ _ V.o aa).mono ?_;rintro e Q ⟨v3,rfl,A,C⟩;have R:=Qc (D.o.trans C);have M:=Qc A;clear A C))
     go_ret2;exact⟨_,Yu c.o.2.symm,by rw[c.o.1];exact M.o,R.o⟩
 ·have E:=Qc (decide_eq_false G)
  have c:Hid (L'=l∧n'=-1):=by
   have h:=F.o;rw[if_pos (show a<0∨255<a by omega)] at h
   injection h with k f
   injection k with _ h3
   exact⟨h3.symm,f.symm⟩
  clear G
  go_enter func179,ntmps179
  go_wp2_with fail
  refine(T.o _ _ _).mono ?_;rintro e W1 ⟨a1,b1,rfl,u,x,d⟩;have t:=Qc (Mv.ofBelow d (.slice ao l.length cap));have m:=Qc (J.o.below d zL);clear d
  go_wp2_with fail
  refine(O.o _ _ _ _ _ _ u x).mono ?_;rintro e H ⟨rfl,rfl⟩;rw[E.o];go_wp2;go_ret2;exact⟨_,Yu c.o.2.symm,by rw[c.o.1];exact m.o,t.o⟩
theorem ZvY (v:Value) (l:List Int) (aa a b:Int) (t:Bool) (g:Int) (B:Nat) (w:World) (ho:Qo w B v l) (V:B<=w.heap.size) (U:Qr 0 (-1) l) (aL:l.length<=128):
 Calls prog 180 #[v,.int .i64 a,.int .i64 b] w fun e w'=>ZdN B w v (Zbe ⟨5,l,t,g⟩ ⟨aa,a,b⟩).1.L (Zbe ⟨5,l,t,g⟩ ⟨aa,a,b⟩).2 e w':=by
 have hi:=Zay (by decide) (by decide) U
 have HO:=Qc ho;have HW:=Qc (fun p q W=>Jx p q W)
 have HS:=Qc (fun n l2 d a2 b2 W p1 p2=>Zdq n l2 d a2 b2 W p1 p2)
 have af:Hid (∀ k W,Qo W B v l->Calls prog 175 #[v,.int .i64 k] W fun e w'=>e=.returned (.tuple #[.int .i64 (Yh k l),.bool (Y6 k l)])∧Below W.heap.size W w'):=fun k W h=>by
  rw[ZgU];exact ZgF v l k _ _ W (h.rd hi) U (by omega)
 obtain⟨ao,cap,rfl⟩:=ho.shape;have ai:Hid (∀ W,Calls prog 177 #[.slice ao l.length cap] W fun e w'=>e=.returned (.bool (decide (l.length=128)))∧w'=W):=fun W=>ZkR ao l.length cap W
 obtain⟨L',n',hE⟩:∃ L' n',Zbe ⟨5,l,t,g⟩ ⟨aa,a,b⟩=(⟨5,L',t,g⟩,n'):=by
  unfold Zbe
  repeat' split
  all_goals exact⟨_,_,rfl⟩
 rw[hE];have X:=Qc hE;have HP:=Qc U;have HI:=Qc hi;clear hE ho U hi;show Calls prog _ _ w fun e w'=>ZdN B w (.slice ao l.length cap) L' n' e w'
 by_cases Y:0<=a∧a<=65535
 ·have Z:=Qc (decide_eq_true Y)
  obtain⟨au,aJ⟩:=Y;by_cases hb:b<0
  ·have c:Hid (L'=l∧n'=0):=by
    have h:=X.o;unfold Zbe at h;rw[if_pos (.inr (.inr hb))] at h
    injection h with f d
    injection f with _ h3
    exact⟨h3.symm,d.symm⟩
   go_enter func180,ntmps180
   go_wp2_with fail
   refine(HW.o _ _ _).mono ?_;rintro e W1 ⟨a1,b1,rfl,E,I,j⟩;have D:=Qc (Mv.ofBelow j (.slice ao l.length cap));have u:=Qc (HO.o.below j zL);clear j
   go_wp2_with fail
   refine(HS.o _ _ _ _ _ _ E I).mono ?_;rintro e W2 ⟨rfl,rfl⟩;rw[Z.o];go_wp2;go_ret2;exact⟨_,Yu c.o.2.symm,by rw[c.o.1];exact u.o,D.o⟩
  ·have aK:0<=b:=by omega
   have m:Hid ((if Z8 (a / 256) 0 l<0∨Yh (a / 256) l<b then((⟨5,l,t,g⟩:St),(0:Int)) else if a / 256=a % 256 then(⟨5,l,t,g⟩,1) else if(Z8 (a % 256) 0 l<0∧l.length=128)∨1099511627776<Yh (a % 256) l+b then(⟨5,l,t,g⟩,0) else(⟨5,Q5 (a % 256) (Yh (a % 256) l+b) false (Q5 (a / 256) (Yh (a / 256) l-b) false l),t,g⟩,1))=(⟨5,L',t,g⟩,n')):=by
    have h:=X.o;unfold Zbe at h;rw[if_neg (by simp;omega)] at h
    exact h
   clear X hb;have az:Hid (a.tdiv 256=a / 256):=Int.tdiv_eq_ediv_of_nonneg au;have ay:Hid (a.tmod 256=a % 256):=Int.tmod_eq_emod_of_nonneg au;have aC:0<=a / 256:=by omega
   have aw:a / 256<=255:=by omega
   have aF:0<=a % 256:=by omega
   have aA:a % 256<=255:=by omega
   have aE:=ZaP HP.o (a / 256);have aB:=ZaP HP.o (a % 256);obtain⟨F,hF⟩:∃ F,F=a / 256:=⟨_,rfl⟩;obtain⟨T,hT⟩:∃ T,T=a % 256:=⟨_,rfl⟩;rw[<-hF] at az m aC aw aE;rw[<-hT] at ay m aF aA aB;clear hF hT;have aI:=az.o;have aH:=ay.o
   go_enter func180,ntmps180
   go_wp2_with fail
   refine(HW.o _ _ _).mono ?_;rintro e W1 ⟨a1,b1,rfl,E,I,j⟩;have D:=Qc (Mv.ofBelow j (.slice ao l.length cap));have u:=Qc (HO.o.below j zL);clear j
   go_wp2_with fail
   refine(HS.o _ _ _ _ _ _ E I).mono ?_;rintro e W2 ⟨rfl,rfl⟩;rw[Z.o];clear E I
   go_wp2_with fail
   refine(af.o _ _ u.o).mono ?_;rintro e W2 ⟨rfl,ac⟩;have C:=Qc (D.o.trans (Mv.ofBelow ac _));have A:=Qc (u.o.below ac zL);have aG:B<=W2.heap.size:=Nat.le_trans V C.o.size;clear ac D u
   cases hh:Y6 F l
   ·have c:Hid (L'=l∧n'=0):=by
     have h:=m.o;rw[if_pos (.inl ((Zbr F l).2 hh))] at h
     injection h with f d
     injection f with _ h3
     exact⟨h3.symm,d.symm⟩
    clear hh;go_wp2;go_ret2;exact⟨_,Yu c.o.2.symm,by rw[c.o.1];exact A.o,C.o⟩
   ·have J:Hid (¬ Z8 F 0 l<0):=fun h=>by rw[(Zbr F l).1 h] at hh;cases hh
    clear hh;by_cases ad:Yh F l<b
    ·have c:Hid (L'=l∧n'=0):=by
      have h:=m.o;rw[if_pos (.inr ad)] at h
      injection h with f d
      injection f with _ h3
      exact⟨h3.symm,d.symm⟩
     clear J;go_wp2;go_ret2;exact⟨_,Yu c.o.2.symm,by rw[c.o.1];exact A.o,C.o⟩
    ·by_cases G:F=T
     ·have hq:(F == T)=true:=beq_iff_eq.2 G
      have c:Hid (L'=l∧n'=1):=by
       have h:=m.o;rw[if_neg (fun h=>h.elim J.o ad),if_pos G] at h
       injection h with f d
       injection f with _ h3
       exact⟨h3.symm,d.symm⟩
      clear J G;go_wp2;go_ret2;exact⟨_,Yu c.o.2.symm,by rw[c.o.1];exact A.o,C.o⟩
     ·have hq:(F == T)=false:=beq_eq_false_iff_ne.2 G
      have al:=Qc G;have ak:=Qc ad;clear G
      go_wp2_with fail
      refine(af.o _ _ A.o).mono ?_;rintro e W3 ⟨rfl,ag⟩;have H:=Qc (C.o.trans (Mv.ofBelow ag _));have Q:=Qc (A.o.below ag zL);have ar:B<=W3.heap.size:=Nat.le_trans V H.o.size;clear ag C A aG;by_cases i:Y6 T l=false∧l.length=128
      ·have N:=Qc (decide_eq_true i.2)
       have c:Hid (L'=l∧n'=0):=by
        have h:=m.o;rw[if_neg (fun h=>by have:=J.o;have:=ak.o;omega),if_neg al.o,if_pos (.inl ⟨(Zbr T l).2 i.1,i.2⟩)] at h
        injection h with f d
        injection f with _ h3
        exact⟨h3.symm,d.symm⟩
       rw[i.1];clear i
       go_wp2_with fail
       refine(ai.o _).mono ?_;rintro e W4 ⟨rfl,rfl⟩;rw[N.o];go_wp2;go_ret2;exact⟨_,Yu c.o.2.symm,by rw[c.o.1];exact Q.o,H.o⟩
      ·by_cases ax:1099511627776<Yh T l+b
       ·have c:Hid (L'=l∧n'=0):=by
         have h:=m.o;rw[if_neg (fun h=>by have:=J.o;have:=ak.o;omega),if_neg al.o,if_pos (.inr ax)] at h
         injection h with f d
         injection f with _ h3
         exact⟨h3.symm,d.symm⟩
        cases hh:Y6 T l
        ·have N:=Qc (decide_eq_false (fun h=>i ⟨hh,h⟩))
         clear i hh
         go_wp2_with fail
         refine(ai.o _).mono ?_;rintro e W4 ⟨rfl,rfl⟩;rw[N.o];go_wp2;go_ret2;exact⟨_,Yu c.o.2.symm,by rw[c.o.1];exact Q.o,H.o⟩
        ·clear i hh
         go_wp2;go_ret2;exact⟨_,Yu c.o.2.symm,by rw[c.o.1];exact Q.o,H.o⟩
       ·have aD:=Qc ax
        have c:Hid (L'=Q5 T (Yh T l+b) false (Q5 F (Yh F l-b) false l)∧n'=1):=by
         have h:=m.o;rw[if_neg (fun h=>by have:=J.o;have:=ak.o;omega),if_neg al.o,if_neg (fun h=>h.elim (fun x=>i ⟨(Zbr T l).1 x.1,x.2⟩) (fun x=>by have:=aD.o;omega))] at h
         injection h with f d
         injection f with _ h3
         exact⟨h3.symm,d.symm⟩
        have aj:Hid (Qr 0 (-1) (Q5 F (Yh F l-b) false l)):=ZaT F _ 0 (by omega) (by omega) aw l (-1) HP.o (by omega)
        have ap:Hid ((Q5 F (Yh F l-b) false l).length<=1000000):=by
         have:=ZfM F (Yh F l-b) l false;show(Q5 F (Yh F l-b) false l).length<=1000000;omega
        have aq:Hid (∀ W,Qo W B (.slice ao l.length cap) l->B<=W.heap.size->Calls prog 178 #[.slice ao l.length cap,.int .i64 F,.int .i64 (Yh F l-b)] W fun e w'=>∃ v',e=.returned v'∧Qo w' B v' (Q5 F (Yh F l-b) false l)∧Mv W w' (.slice ao l.length cap) v'):=fun W f d=>ZgG _ l F _ _ _ B W f d HI.o HP.o (by omega)
        have av:Hid (∀ P W,Qo W B P (Q5 F (Yh F l-b) false l)->B<=W.heap.size->Calls prog 178 #[P,.int .i64 T,.int .i64 (Yh T l+b)] W fun e w'=>∃ v',e=.returned v'∧Qo w' B v' (Q5 T (Yh T l+b) false (Q5 F (Yh F l-b) false l))∧Mv W w' P v'):=fun P W f d=>ZgG P _ T _ _ _ B W f d (Zay (by decide) (by decide) aj.o) aj.o ap.o
        generalize Q5 T (Yh T l+b) false (Q5 F (Yh F l-b) false l)=L2 at *;generalize Q5 F (Yh F l-b) false l=L1 at *;generalize Yh F l=y at *;generalize Yh T l=z at *;clear aj ap m af
        cases hh:Y6 T l
        ·have N:=Qc (decide_eq_false (fun h=>i ⟨hh,h⟩))
         clear i hh
         go_wp2_with fail
         refine(ai.o _).mono ?_;rintro e W4 ⟨rfl,rfl⟩;rw[N.o]
         go_wp2_with fail
         refine(aq.o _ Q.o ar).mono ?_;rintro e W5 ⟨v5,rfl,K,M⟩;have O:=Qc (H.o.trans M);have ae:=Qc K;have ab:B<=W5.heap.size:=Nat.le_trans V O.o.size;clear K M
         go_wp2_with fail
         refine(av.o _ _ ae.o ab).mono ?_;rintro e W6 ⟨v6,rfl,S,R⟩;have an:=Qc (O.o.trans R);have am:=Qc S;clear S R;go_wp2;go_ret2;exact⟨_,Yu c.o.2.symm,by rw[c.o.1];exact am.o,an.o⟩
        ·clear i hh
         go_wp2_with fail
         refine(aq.o _ Q.o ar).mono ?_;rintro e W5 ⟨v5,rfl,K,M⟩;have O:=Qc (H.o.trans M);have ae:=Qc K;have ab:B<=W5.heap.size:=Nat.le_trans V O.o.size;clear K M
         go_wp2_with fail
         refine(av.o _ _ ae.o ab).mono ?_;rintro e W6 ⟨v6,rfl,S,R⟩;have an:=Qc (O.o.trans R);have am:=Qc S;clear S R;go_wp2;go_ret2;exact⟨_,Yu c.o.2.symm,by rw[c.o.1];exact am.o,an.o⟩
 ·have Z:=Qc (decide_eq_false Y)
  have c:Hid (L'=l∧n'=0):=by
   have h:=X.o;unfold Zbe at h;rw[if_pos (show a<0∨65535<a∨b<0 by omega)] at h
   injection h with f d
   injection f with _ h3
   exact⟨h3.symm,d.symm⟩
  clear Y
  go_enter func180,ntmps180
  go_wp2_with fail
  refine(HW.o _ _ _).mono ?_;rintro e W1 ⟨a1,b1,rfl,E,I,j⟩;have D:=Qc (Mv.ofBelow j (.slice ao l.length cap));have u:=Qc (HO.o.below j zL);clear j
  go_wp2_with fail
  refine(HS.o _ _ _ _ _ _ E I).mono ?_;rintro e W2 ⟨rfl,rfl⟩;rw[Z.o];go_wp2;go_ret2;exact⟨_,Yu c.o.2.symm,by rw[c.o.1];exact u.o,D.o⟩
theorem ZtO (a:Qr least (-1) l) (h:Y6 key l=true):0<=key∧key<=255:=by
 unfold Y6 at h
 cases hg:Xx key l with
 | none=>rw[hg] at h;simp at h
 | some x=>
  have:=Zkv a hg;omega
theorem Zot (v:Value) (l:List Int) (o:Opn) (c:Bool) (g:Int) (B:Nat) (w:World) (D:Qo w B v l) (O:B<=w.heap.size) (i:Qr 0 (-1) l) (J:l.length<=128):
 Calls prog 128 #[v,opV o] w fun e w'=>ZdN B w v (Xv ⟨5,l,c,g⟩ o).1.L (Xv ⟨5,l,c,g⟩ o).2 e w':=by
 obtain⟨d,a,b⟩:=o;have z:=Zay (by decide) (by decide) i
 have m:=Qc D;have E:Hid (∀ X,Mv w (w.alloc X) v v):=fun X=>Mv.alloc w v X
 show Calls prog _ #[_,.agg #[.int .i64 d,.int .i64 a,.int .i64 b]] w _;by_cases u:d=7
 ·subst u
  have F:Hid (∀ W,Qo W B v l->Calls prog 175 #[v,.int .i64 a] W fun e w'=>e=.returned (.tuple #[.int .i64 ((Xx a l).getD 0),.bool (Y6 a l)])∧Below W.heap.size W w'):=fun W h=>ZgF v l a _ _ W (h.rd z) i (by omega)
  have j:Hid (Xv ⟨5,l,c,g⟩ ⟨7,a,b⟩=(⟨5,l,c,g⟩,ZqC a l)):=by
   refine Qc ?_;unfold Xv;rw[if_neg (by simp),if_neg (by simp)]
   by_cases I:a<0∨255<a
   ·rw[if_pos I]
    have k:Y6 a l=false:=by
     cases h:Y6 a l
     ·rfl
     ·have:=ZtO i h
      omega
    rw[ZkS k]
   ·rw[if_neg I,if_pos rfl]
  rw[j.o];clear j D i z
  cases k:Y6 a l
  ·have x:=Qc (ZkS k)
   rw[x.o];rw[k] at F;clear x k;generalize (Xx a l).getD 0=y at *
   go_enter func128,ntmps128
   go_wp2_with fail
   refine(F.o _ (m.o.alloc _)).mono ?_;rintro e G ⟨rfl,f⟩;have p:=Qc ((E.o _).trans (Mv.ofBelow f _));have q:=Qc ((m.o.alloc _).below f zL);clear f;go_wp2;go_ret2;exact⟨_,rfl,q.o,p.o⟩
  ·have x:=Qc (ZtN k)
   rw[x.o];rw[k] at F;clear x k;generalize (Xx a l).getD 0=y at *
   go_enter func128,ntmps128
   go_wp2_with fail
   refine(F.o _ (m.o.alloc _)).mono ?_;rintro e G ⟨rfl,f⟩;have p:=Qc ((E.o _).trans (Mv.ofBelow f _));have q:=Qc ((m.o.alloc _).below f zL);clear f;go_wp2;go_ret2;exact⟨_,rfl,q.o,p.o⟩
 ·have K:(d == 7)=false:=beq_eq_false_iff_ne.2 u
  by_cases A:d=8
  ·subst A
   have H:Hid (∀ X,Calls prog 179 #[v,.int .i64 a,.int .i64 b] (w.alloc X) fun e w'=>ZdN B (w.alloc X) v (Xv ⟨5,l,c,g⟩ ⟨8,a,b⟩).1.L (Xv ⟨5,l,c,g⟩ ⟨8,a,b⟩).2 e w'):=fun X=>Zos v l a b c g B (w.alloc X) (m.o.alloc X) (by simp;omega) i J
   generalize (Xv ⟨5,l,c,g⟩ ⟨8,a,b⟩).1.L=L' at *;generalize (Xv ⟨5,l,c,g⟩ ⟨8,a,b⟩).2=n at *;clear D z i u K
   go_enter func128,ntmps128
   go_wp2_with fail
   refine(H.o _).mono ?_;rintro e G ⟨N,rfl,C,f⟩;have q:=Qc C;have p:=Qc ((E.o _).trans f);clear C f;go_wp2;go_ret2;exact⟨_,rfl,q.o,p.o⟩
  ·have P:(d == 8)=false:=beq_eq_false_iff_ne.2 A
   by_cases t:d=9
   ·have j:Hid (Xv ⟨5,l,c,g⟩ ⟨d,a,b⟩=Zbe ⟨5,l,c,g⟩ ⟨d,a,b⟩):=if_pos t
    rw[j.o];have M:(d == 9)=true:=beq_iff_eq.2 t;have H:Hid (∀ X,Calls prog 180 #[v,.int .i64 a,.int .i64 b] (w.alloc X) fun e w'=>ZdN B (w.alloc X) v (Zbe ⟨5,l,c,g⟩ ⟨d,a,b⟩).1.L (Zbe ⟨5,l,c,g⟩ ⟨d,a,b⟩).2 e w'):=fun X=>ZvY v l d a b c g B (w.alloc X) (m.o.alloc X) (by simp;omega) i J
    generalize (Zbe ⟨5,l,c,g⟩ ⟨d,a,b⟩).1.L=L' at *;generalize (Zbe ⟨5,l,c,g⟩ ⟨d,a,b⟩).2=n at *;clear D z i u A t j
    go_enter func128,ntmps128
    go_wp2_with fail
    refine(H.o _).mono ?_;rintro e G ⟨N,rfl,C,f⟩;have q:=Qc C;have p:=Qc ((E.o _).trans f);clear C f;go_wp2;go_ret2;exact⟨_,rfl,q.o,p.o⟩
   ·have M:(d == 9)=false:=beq_eq_false_iff_ne.2 t
    have j:Hid (Xv ⟨5,l,c,g⟩ ⟨d,a,b⟩=(⟨5,l,c,g⟩,0)):=by
     refine Qc ?_;unfold Xv;rw[if_neg t,if_pos ⟨u,A⟩]
    rw[j.o];clear D z i u A t j
    go_enter func128,ntmps128
    go_wp2;go_ret2;exact⟨_,rfl,m.o.alloc _,E.o _⟩
theorem ZvZ (kind:Int) (ao:Option Addr) (n cap:Nat) (M:Bool) (g a:Int) (w:World):
 Calls prog 123 #[.agg #[.int .i64 kind,.slice ao n cap,.bool M,.int .i64 g],.int .i64 a] w fun e w'=>e=.returned (.agg #[.int .i64 kind,.slice ao n cap,.bool true,.int .i64 (if 0<=a∧a<=2 then a else g)])∧Below w.heap.size w w':=by
 have G:=Qc (fun p q W=>Jx p q W)
 have F:=Qc (fun n U Q L T W V Z=>Zdq n U Q L T W V Z)
 have k:Hid (∀ x y,Below w.heap.size w ((w.alloc x).alloc y)):=fun x y=>((Below.refl _ _).alloc zL x).alloc (by simp) y
 by_cases f:0<=a∧a<=2
 ·rw[if_pos f]
  have m:=Qc (decide_eq_true f);clear f
  go_enter func123,ntmps123
  go_wp2_with fail
  refine(G.o _ _ _).mono ?_;rintro e d ⟨C,A,rfl,i,j,c⟩;have b:ZnM d w.heap.size _ _:=(ZnM.made w _ _).below c (by simp)
  have I:=(b.s 0).1;have Y:=(b.s 1).1;have N:=(b.s 2).1;have H:=(b.s 3).1;have J:=(b.s 2).2;have S:=(b.s 3).2;have D:=(b.r 0).1;have l:=(b.r 1).1;have u:=(b.r 2).1;have E:=(b.r 3).1;have P:=(b.r 0).2;have R:=(b.r 1).2;have K:=(b.r 2).2;have O:=(b.r 3).2;have t:=Qc ((k.o _ _).trans (c.mono (k.o _ _).size));have z:Hid (∀ x,(d.setCell ⟨w.heap.size,2,none⟩ x).cell? ⟨C,0,none⟩=some (.int .i64 0)):=fun x=>(World.cell?_setCell_other _ _ _ _ (by simp)).trans i
  have B:Hid (∀ x,(d.setCell ⟨w.heap.size,2,none⟩ x).cell? ⟨A,0,none⟩=some (.int .i64 2)):=fun x=>(World.cell?_setCell_other _ _ _ _ (by simp)).trans j
  clear c b i j
  go_wp2_with fail
  refine(F.o _ _ _ _ _ _ (z.o _) (B.o _)).mono ?_;rintro e X ⟨rfl,rfl⟩;rw[m.o];go_wp2;refine bodyPost_ret (v:=.agg #[.int .i64 kind,.slice ao n cap,.bool true,.int .i64 a]) (by simp[results,Tryz.results123,go_sem,D,l,u,E]) rfl ?_
  exact⟨rfl,((((((t.o.setCell zL _).setCell zL _).setCell (Nat.le_succ _) _).setCell (Nat.le_succ _) _).setCell (Nat.le_succ _) _).setCell (Nat.le_succ _) _)⟩
 ·rw[if_neg f]
  have m:=Qc (decide_eq_false f);clear f
  go_enter func123,ntmps123
  go_wp2_with fail
  refine(G.o _ _ _).mono ?_;rintro e d ⟨C,A,rfl,i,j,c⟩;have b:ZnM d w.heap.size _ _:=(ZnM.made w _ _).below c (by simp)
  have I:=(b.s 0).1;have Y:=(b.s 1).1;have N:=(b.s 2).1;have H:=(b.s 3).1;have J:=(b.s 2).2;have S:=(b.s 3).2;have D:=(b.r 0).1;have l:=(b.r 1).1;have u:=(b.r 2).1;have E:=(b.r 3).1;have P:=(b.r 0).2;have R:=(b.r 1).2;have K:=(b.r 2).2;have O:=(b.r 3).2;have t:=Qc ((k.o _ _).trans (c.mono (k.o _ _).size));have z:Hid (∀ x,(d.setCell ⟨w.heap.size,2,none⟩ x).cell? ⟨C,0,none⟩=some (.int .i64 0)):=fun x=>(World.cell?_setCell_other _ _ _ _ (by simp)).trans i
  have B:Hid (∀ x,(d.setCell ⟨w.heap.size,2,none⟩ x).cell? ⟨A,0,none⟩=some (.int .i64 2)):=fun x=>(World.cell?_setCell_other _ _ _ _ (by simp)).trans j
  clear c b i j
  go_wp2_with fail
  refine(F.o _ _ _ _ _ _ (z.o _) (B.o _)).mono ?_;rintro e X ⟨rfl,rfl⟩;rw[m.o];go_wp2;refine bodyPost_ret (v:=.agg #[.int .i64 kind,.slice ao n cap,.bool true,.int .i64 g]) (by simp[results,Tryz.results123,go_sem,D,l,u,E]) rfl ?_
  exact⟨rfl,(((((t.o.setCell zL _).setCell (Nat.le_succ _) _).setCell (Nat.le_succ _) _).setCell (Nat.le_succ _) _).setCell (Nat.le_succ _) _)⟩
theorem J2.mv {W a:World} {N:Nat} {s o r:Array Value} (h:J2 W N s o r) (g:∀ b,v.ownBlock=some b->b<N) (d:Mv W a v v'):J2 a N s o r:=by
 obtain⟨j,i,f⟩:=h
 have lt:∀ k x,W.heap[k]?=some x->N<=k->a.heap[k]?=some x:=fun k x c l=>by
  rw[d.grown.block k (Array.getElem?_eq_some_iff.1 c).1 (fun e=>by have:=g k e.symm;omega)]
  exact c
 exact⟨lt _ _ j (by omega),lt _ _ i (by omega),lt _ _ f (by omega)⟩
theorem ZkT {e f F:World} (m:Qo w B v l) (d:Below w.heap.size w e) (q:e.heap.size=w.heap.size+3) (a:Mv e f v v') (p:Qo f B v' L') (c:But w.heap.size (w.heap.size+1+1) f F):Qo F B v' L'∧Mv w F v v':=by
 have i:∀ b,v.ownBlock=some b->b<w.heap.size:=fun b h=>(World.ownsRow.lt m b h).2
 have g:∀ b,v'.ownBlock=some b->v.ownBlock=some b∨w.heap.size+3<=b:=fun b h=>by
  rcases a.lies b h with h' | h'
  ·exact .inl h'
  ·exact .inr (by omega)
 have t:=a.size;refine⟨p.but c (fun b h=>?_),⟨⟨c.os.trans (a.grown.os.trans d.os),c.tape.trans (a.grown.tape.trans d.tape),c.output.trans (a.grown.output.trans d.output),by have:=c.size;omega,fun k n j=>?_⟩,fun b h=>?_⟩⟩
 ·rcases g b h with h' | h'
  ·have:=i b h'
   omega
  ·omega
 ·rw[c.block k (by omega) (by omega) (by omega),a.grown.block k (by omega) j]
  exact d.block k n
 ·rcases g b h with h' | h'
  ·exact .inl h'
  ·exact .inr (by omega)
theorem Y8 (w:World) (x y z:Obj):Below w.heap.size w (((w.alloc x).alloc y).alloc z)∧(((w.alloc x).alloc y).alloc z).heap.size=w.heap.size+3:=
 ⟨(((Below.refl _ _).alloc zL x).alloc (by simp) y).alloc (by simp;omega) z,by simp⟩
theorem Qo.alloc3 (h:Qo w B v l) (x y z:Obj):Qo (((w.alloc x).alloc y).alloc z) B v l:=((h.alloc x).alloc y).alloc z
def Did (B:Nat) (w:World) (v:Value) (r:St × Int) (e:Ending) (w':World):Prop:=
 ∃ v',e=.returned (.tuple #[.agg #[.int .i64 r.1.kind,v',.bool r.1.shut,.int .i64 r.1.eng],.int .i64 r.2])∧Qo w' B v' r.1.L∧Mv w w' v v'
theorem Zou (kind g:Int) (l:List Int) (v:Value) (o:Opn) (B:Nat) (w:World) (c:Qo w B v l):
 Calls prog 83 #[.agg #[.int .i64 kind,v,.bool true,.int .i64 g],opV o] w fun e w'=>Did B w v (⟨kind,l,true,g⟩,-1125899906842624) e w':=by
 obtain⟨f,a,b⟩:=o;have d:=Qc c;obtain⟨ao,cap,rfl⟩:=c.shape;have i:Hid (∀ x y z,Mv w (((w.alloc x).alloc y).alloc z) (.slice ao l.length cap) (.slice ao l.length cap)):=fun x y z=>Mv.ofBelow (Y8 w x y z).1 _
 clear c;show Calls prog _ #[_,.agg #[.int .i64 f,.int .i64 a,.int .i64 b]] w _
 go_enter func83,ntmps83
 go_wp2;refine bodyPost_ret (v:=.tuple #[.agg #[.int .i64 kind,.slice ao l.length cap,.bool true,.int .i64 g],.int .i64 (-1125899906842624)]) (by simp[results,Tryz.results83,go_sem]) rfl ?_
 exact⟨_,rfl,d.o.alloc3 _ _ _,i.o _ _ _⟩
theorem Zov (kind g a b:Int) (l:List Int) (v:Value) (B:Nat) (w:World) (f:Qo w B v l):
 Calls prog 83 #[.agg #[.int .i64 kind,v,.bool false,.int .i64 g],.agg #[.int .i64 10,.int .i64 a,.int .i64 b]] w fun e w'=>Did B w v (⟨kind,l,true,if 0<=a∧a<=2 then a else g⟩,0) e w':=by
 have i:=Qc f;obtain⟨ao,cap,rfl⟩:=f.shape;have p:=Qc (fun W=>ZvZ kind ao l.length cap false g a W)
 generalize (if 0<=a∧a<=2 then a else g)=t at *
 clear f
 go_enter func83,ntmps83
 go_wp2_with fail
 refine(p.o _).mono ?_;rintro e C ⟨rfl,d⟩;have c:=(J2.made w _ _ _).below d (by simp)
 obtain⟨q,z⟩:=c.r 0;obtain⟨j,A⟩:=c.r 1;obtain⟨m,x⟩:=c.r 2;obtain⟨u,y⟩:=c.r 3;have k:=Qc (fun F n=>ZkT (F:=F) i.o (Y8 w _ _ _).1 (Y8 w _ _ _).2 (Mv.ofBelow d _) ((i.o.alloc3 _ _ _).below d zL) n)
 clear d c;go_wp2;refine bodyPost_ret (v:=.tuple #[.agg #[.int .i64 kind,.slice ao l.length cap,.bool true,.int .i64 t],.int .i64 0]) (by simp[results,Tryz.results83,go_sem,q,j,m,u]) rfl ?_
 exact⟨_,rfl,k.o _ ((But.refl _ _ _).four _ (.inr rfl) _ _ _ _)⟩
theorem Zru (kind g:Int) (N:kind=0∨kind=1) (l:List Int) (v:Value) (o:Opn) (I:o.code≠10) (B:Nat) (w:World) (m:Qo w B v l) (x:l.length=1) (K:-1099511627776<=l.getD 0 0) (H:l.getD 0 0<=1099511627776):
 Calls prog 83 #[.agg #[.int .i64 kind,v,.bool false,.int .i64 g],opV o] w fun e w'=>Did B w v (ZdX ⟨kind,l,false,g⟩ o) e w':=by
 have j:=Qc m;have J:=Zkw ⟨kind,l,false,g⟩ o
 obtain⟨L',n',i⟩:∃ L' n',ZdX ⟨kind,l,false,g⟩ o=(⟨kind,L',false,g⟩,n'):=by
  obtain⟨z,y,t⟩:=J;refine⟨(ZdX ⟨kind,l,false,g⟩ o).1.L,(ZdX ⟨kind,l,false,g⟩ o).2,?_⟩;rcases hr:ZdX ⟨kind,l,false,g⟩ o with ⟨⟨X,Z,M,g1⟩,n1⟩
  rw[hr] at z y t;simp only at z y t;rw[z,y,t]
 have k:Hid (∀ W,Qo W B v l->Calls prog (if kind=0 then 124 else 125) #[v,opV o] W fun e w'=>e=.returned (.int .i64 n')∧Qo w' B v L'∧Mv W w' v v):=fun W h=>by
  rcases N with rfl | rfl
  ·have:=Zor v l o false g B W h x K H
   rw[i] at this;exact this
  ·have:=Zmz v l o false g B W h x
   rw[i] at this;exact this
 rw[i];obtain⟨D,a,b⟩:=o;have Y:(D == 10)=false:=beq_eq_false_iff_ne.2 I;obtain⟨ao,cap,rfl⟩:=m.shape;have G:∀ b,(Value.slice ao l.length cap).ownBlock=some b->b<w.heap.size:=fun b h=>(World.ownsRow.lt m b h).2
 have E:=Qc G;clear m i J I x K H G;show Calls prog _ #[_,.agg #[.int .i64 D,.int .i64 a,.int .i64 b]] w _;rcases N with rfl | rfl
 ·rw[if_pos rfl] at k
  go_enter func83,ntmps83
  go_wp2_with fail
  refine(k.o _ (j.o.alloc3 _ _ _)).mono ?_;rintro e U ⟨rfl,f,d⟩;have c:=(J2.made w _ _ _).mv E.o d;obtain⟨P,-⟩:=c.s 0;obtain⟨V,-⟩:=c.s 1;obtain⟨R,-⟩:=c.s 2;obtain⟨O,-⟩:=c.s 3;obtain⟨A,T⟩:=c.r 0;obtain⟨n,M⟩:=c.r 1;obtain⟨q,Q⟩:=c.r 2;obtain⟨C,S⟩:=c.r 3;have p:=Qc (fun F u=>ZkT (F:=F) j.o (Y8 w _ _ _).1 (Y8 w _ _ _).2 d f u)
  clear c f d;go_wp2;refine bodyPost_ret (v:=.tuple #[.agg #[.int .i64 0,.slice ao l.length cap,.bool false,.int .i64 g],.int .i64 n']) (by simp[results,Tryz.results83,go_sem,A,n,q,C]) rfl ?_
  exact⟨_,rfl,p.o _ ((But.refl _ _ _).four _ (.inr rfl) _ _ _ _)⟩
 ·rw[if_neg (by decide)] at k
  go_enter func83,ntmps83
  go_wp2_with fail
  refine(k.o _ (j.o.alloc3 _ _ _)).mono ?_;rintro e U ⟨rfl,f,d⟩;have c:=(J2.made w _ _ _).mv E.o d;obtain⟨P,-⟩:=c.s 0;obtain⟨V,-⟩:=c.s 1;obtain⟨R,-⟩:=c.s 2;obtain⟨O,-⟩:=c.s 3;obtain⟨A,T⟩:=c.r 0;obtain⟨n,M⟩:=c.r 1;obtain⟨q,Q⟩:=c.r 2;obtain⟨C,S⟩:=c.r 3;have p:=Qc (fun F u=>ZkT (F:=F) j.o (Y8 w _ _ _).1 (Y8 w _ _ _).2 d f u)
  clear c f d;go_wp2;refine bodyPost_ret (v:=.tuple #[.agg #[.int .i64 1,.slice ao l.length cap,.bool false,.int .i64 g],.int .i64 n']) (by simp[results,Tryz.results83,go_sem,A,n,q,C]) rfl ?_
  exact⟨_,rfl,p.o _ ((But.refl _ _ _).four _ (.inr rfl) _ _ _ _)⟩
theorem Zqc {c:World} {kind g:Int} {ao b:Option Addr} {cap a:Nat} {xs e i:Array Value} (d:Qo w B (.slice ao l.length cap) l) (j:Qo c B (.slice b L'.length a) L') (f:Mv (((w.alloc (.cells xs 38)).alloc (.cells e 52)).alloc (.cells i 38)) c (.slice ao l.length cap) (.slice b L'.length a)):
 Qo (ZpI c w.heap.size (w.heap.size+1+1) (.slice b L'.length a) (.int .i64 kind) (.slice b L'.length a) (.bool false) (.int .i64 g)) B (.slice b L'.length a) L'∧Mv w (ZpI c w.heap.size (w.heap.size+1+1) (.slice b L'.length a) (.int .i64 kind) (.slice b L'.length a) (.bool false) (.int .i64 g)) (.slice ao l.length cap) (.slice b L'.length a):=
 ZkT d (Y8 w _ _ _).1 (Y8 w _ _ _).2 f j (((But.refl _ _ _).set _ _ (.inl rfl) _).four _ (.inr rfl) _ _ _ _)
theorem Zow (kind g:Int) (M:kind=2∨kind=3) (l L':List Int) (n':Int) (v:Value) (j a b:Int) (A:j≠10) (B:Nat) (w:World) (k:Qo w B v l)
 (C:Hid (∀ W,Qo W B v l->B<=W.heap.size->Calls prog 126 #[.int .i64 kind,v,.agg #[.int .i64 j,.int .i64 a,.int .i64 b]] W fun e w'=>ZdN B W v L' n' e w')) (P:B<=w.heap.size):
 Calls prog 83 #[.agg #[.int .i64 kind,v,.bool false,.int .i64 g],.agg #[.int .i64 j,.int .i64 a,.int .i64 b]] w fun e w'=>Did B w v (⟨kind,L',false,g⟩,n') e w':=by
 have i:=Qc k;have Q:(j == 10)=false:=beq_eq_false_iff_ne.2 A;obtain⟨ao,cap,rfl⟩:=k.shape;have z:∀ b,(Value.slice ao l.length cap).ownBlock=some b->b<w.heap.size:=fun b h=>(World.ownsRow.lt k b h).2
 have y:=Qc z;clear k A z;rcases M with rfl | rfl
 ·go_enter func83,ntmps83
  go_wp2_with fail
  refine(C.o _ (i.o.alloc3 _ _ _) (by simp;omega)).mono ?_
  rintro e L ⟨J,rfl,f,d⟩;obtain⟨t,q,rfl⟩:=f.shape;have c:=(J2.made w _ _ _).mv y.o d;obtain⟨E,-⟩:=c.s 0;obtain⟨O,N⟩:=c.s 1;obtain⟨G,-⟩:=c.s 2;obtain⟨D,-⟩:=c.s 3;obtain⟨u,I⟩:=c.r 0;obtain⟨m,K⟩:=c.r 1;obtain⟨p,F⟩:=c.r 2;obtain⟨x,H⟩:=c.r 3;have n:=Qc (fun kind=>Zqc (kind:=kind) (g:=g) i.o f d)
  clear c f d;go_wp2;refine bodyPost_ret (v:=.tuple #[.agg #[.int .i64 2,.slice t L'.length q,.bool false,.int .i64 g],.int .i64 n']) (by simp[results,Tryz.results83,go_sem,u,m,p,x]) rfl ?_
  exact⟨_,rfl,n.o _⟩
 ·go_enter func83,ntmps83
  go_wp2_with fail
  refine(C.o _ (i.o.alloc3 _ _ _) (by simp;omega)).mono ?_
  rintro e L ⟨J,rfl,f,d⟩;obtain⟨t,q,rfl⟩:=f.shape;have c:=(J2.made w _ _ _).mv y.o d;obtain⟨E,-⟩:=c.s 0;obtain⟨O,N⟩:=c.s 1;obtain⟨G,-⟩:=c.s 2;obtain⟨D,-⟩:=c.s 3;obtain⟨u,I⟩:=c.r 0;obtain⟨m,K⟩:=c.r 1;obtain⟨p,F⟩:=c.r 2;obtain⟨x,H⟩:=c.r 3;have n:=Qc (fun kind=>Zqc (kind:=kind) (g:=g) i.o f d)
  clear c f d;go_wp2;refine bodyPost_ret (v:=.tuple #[.agg #[.int .i64 3,.slice t L'.length q,.bool false,.int .i64 g],.int .i64 n']) (by simp[results,Tryz.results83,go_sem,u,m,p,x]) rfl ?_
  exact⟨_,rfl,n.o _⟩
theorem ZmA (kind g:Int) (A:kind=4) (l L':List Int) (n':Int) (v:Value) (d a b:Int) (n:d≠10) (B:Nat) (w:World) (f:Qo w B v l)
 (y:Hid (∀ W,Qo W B v l->B<=W.heap.size->Calls prog 127 #[v,.agg #[.int .i64 d,.int .i64 a,.int .i64 b]] W fun e w'=>ZdN B W v L' n' e w')) (H:B<=w.heap.size):
 Calls prog 83 #[.agg #[.int .i64 kind,v,.bool false,.int .i64 g],.agg #[.int .i64 d,.int .i64 a,.int .i64 b]] w fun e w'=>Did B w v (⟨kind,L',false,g⟩,n') e w':=by
 have k:=Qc f;have J:(d == 10)=false:=beq_eq_false_iff_ne.2 n;obtain⟨ao,cap,rfl⟩:=f.shape;have m:∀ b,(Value.slice ao l.length cap).ownBlock=some b->b<w.heap.size:=fun b h=>(World.ownsRow.lt f b h).2
 have u:=Qc m;clear f n m;subst A
 all_goals
  go_enter func83,ntmps83
  go_wp2_with fail
  refine(y.o _ (k.o.alloc3 _ _ _) (by simp;omega)).mono ?_
  rintro e O ⟨M,rfl,j,i⟩;obtain⟨z,x,rfl⟩:=j.shape;have c:=(J2.made w _ _ _).mv u.o i;obtain⟨F,-⟩:=c.s 0;obtain⟨Q,P⟩:=c.s 1;obtain⟨I,-⟩:=c.s 2;obtain⟨E,-⟩:=c.s 3;obtain⟨C,L⟩:=c.r 0;obtain⟨p,N⟩:=c.r 1;obtain⟨t,G⟩:=c.r 2;obtain⟨D,K⟩:=c.r 3;have q:=Qc (fun kind=>Zqc (kind:=kind) (g:=g) k.o j i)
  clear c j i;go_wp2;refine bodyPost_ret (v:=.tuple #[.agg #[.int .i64 4,.slice z L'.length x,.bool false,.int .i64 g],.int .i64 n']) (by simp[results,Tryz.results83,go_sem,C,p,t,D]) rfl ?_
  exact⟨_,rfl,q.o _⟩
theorem ZkU (kind g:Int) (A:kind=5) (l L':List Int) (n':Int) (v:Value) (d a b:Int) (n:d≠10) (B:Nat) (w:World) (f:Qo w B v l)
 (y:Hid (∀ W,Qo W B v l->B<=W.heap.size->Calls prog 128 #[v,.agg #[.int .i64 d,.int .i64 a,.int .i64 b]] W fun e w'=>ZdN B W v L' n' e w')) (H:B<=w.heap.size):
 Calls prog 83 #[.agg #[.int .i64 kind,v,.bool false,.int .i64 g],.agg #[.int .i64 d,.int .i64 a,.int .i64 b]] w fun e w'=>Did B w v (⟨kind,L',false,g⟩,n') e w':=by
 have k:=Qc f;have J:(d == 10)=false:=beq_eq_false_iff_ne.2 n;obtain⟨ao,cap,rfl⟩:=f.shape;have m:∀ b,(Value.slice ao l.length cap).ownBlock=some b->b<w.heap.size:=fun b h=>(World.ownsRow.lt f b h).2
 have u:=Qc m;clear f n m;subst A
 all_goals
  go_enter func83,ntmps83
  go_wp2_with fail
  refine(y.o _ (k.o.alloc3 _ _ _) (by simp;omega)).mono ?_
  rintro e O ⟨M,rfl,j,i⟩;obtain⟨z,x,rfl⟩:=j.shape;have c:=(J2.made w _ _ _).mv u.o i;obtain⟨F,-⟩:=c.s 0;obtain⟨Q,P⟩:=c.s 1;obtain⟨I,-⟩:=c.s 2;obtain⟨E,-⟩:=c.s 3;obtain⟨C,L⟩:=c.r 0;obtain⟨p,N⟩:=c.r 1;obtain⟨t,G⟩:=c.r 2;obtain⟨D,K⟩:=c.r 3;have q:=Qc (fun kind=>Zqc (kind:=kind) (g:=g) k.o j i)
  clear c j i;go_wp2;refine bodyPost_ret (v:=.tuple #[.agg #[.int .i64 5,.slice z L'.length x,.bool false,.int .i64 g],.int .i64 n']) (by simp[results,Tryz.results83,go_sem,C,p,t,D]) rfl ?_
  exact⟨_,rfl,q.o _⟩
theorem Zox (v:Value) (l:List Int) (a b:Nat) (w:World) (H:RdI w v l) (z:w.cell? ⟨a,0,none⟩=some (.int .i64 (-1099511627776))) (u:w.cell? ⟨b,0,none⟩=some (.int .i64 1099511627776)):
 Calls prog 171 #[v,.func (.func 170) #[] #[.pointer (some ⟨a,0,none⟩),.pointer (some ⟨b,0,none⟩)]] w fun e w'=>e=.returned (.bool (decide (l.length<=64∧J0 l)))∧w'=w:=by
 have x:=Qc (fun n=>Zdq n _ _ a b w z u)
 obtain⟨ao,cap,rfl,-,-,-,-,D⟩:=H;have G:=Qc D;clear D z u;obtain⟨R,t⟩:∃ R,R=decide (l.length<=64∧J0 l):=⟨_,rfl⟩;rw[<-t];have p:=Qc t;clear t;by_cases E:l.length<=64
 ·have L:¬ (64<(l.length:Int)):=by omega
  go_enter func171,ntmps171
  go_wp2
  go_loop [12] (fun i=>∃ k:Nat,i=.int .i64 k∧k<=l.length∧Hid (∀ j,j<k->-1099511627776<=l.getD j 0∧l.getD j 0<=1099511627776)) (fun i=>l.length-(intOf i).toNat)
  case atStart=>exact⟨0,rfl,Nat.zero_le _,fun j C=>by omega⟩
  case round=>
   obtain⟨k,rfl,N,B⟩:=hrel;by_cases f:k<l.length
   ·rcases G.o with K | ⟨g,M,rfl,A⟩
    ·rw[K] at f;simp at f
    have J:=A k f;clear A;obtain⟨y,q⟩:∃ y,y=l.getD k 0:=⟨_,rfl⟩;rw[<-q] at J;have F:=Qc q;clear q;by_cases c:-1099511627776<=y∧y<=1099511627776
    ·have d:=Qc (decide_eq_true c)
     have m:=Qc c;clear c
     go_wp2_with(first | (go_at_call 170;refine(x.o _).mono ?_;rintro e I ⟨rfl,rfl⟩;rw[d.o]))
     go_round
     case rel=>
      refine⟨k+1,by go_num,by omega,fun j C=>?_⟩
      by_cases e:j=k
      ·rw[e,<-F.o];exact m.o
      ·exact B.out j (by omega)
     case measure=>simp[intOf];omega
    ·have d:=Qc (decide_eq_false c)
     have m:=Qc c;clear c
     go_wp2_with(first | (go_at_call 170;refine(x.o _).mono ?_;rintro e I ⟨rfl,rfl⟩;rw[d.o]))
     go_ret;refine⟨Yk (p.o.trans (decide_eq_false fun h=>m.o ?_)).symm,rfl⟩
     rw[F.o];exact h.2 k f
   ·go_wp2
    go_ret;exact⟨Yk (p.o.trans (decide_eq_true ⟨E,fun j C=>B.out j (by omega)⟩)).symm,rfl⟩
 ·have L:64<(l.length:Int):=by omega
  have d:Hid (decide (l.length<=64∧J0 l)=false):=decide_eq_false (fun h=>E h.1)
  go_enter func171,ntmps171
  go_wp2;go_ret;exact⟨Yk (p.o.trans d.o).symm,rfl⟩
def Zfw (l:List Int) (k:Nat):Int:=if k=0 then 0 else l.getD (k-2) 0+1
theorem ZmB {lo:Int} {k:Nat} (d:k % 2=0) (b:∀ j,j<k->j % 2=0->ZgR lo l j):ZgR lo l k↔(Zfw l k<=l.getD k 0∧l.getD k 0<=255)∧lo<=l.getD (k+1) 0∧l.getD (k+1) 0<=1099511627776:=by
 unfold ZgR Zfw;by_cases a:k=0
 ·subst a
  simp;omega
 ·rw[if_neg a]
  have c:=(b (k-2) (by omega) (by omega)).1
  constructor
  ·rintro⟨h1,h2,h3,h4,h5⟩
   exact⟨⟨by have:=h3 (by omega);omega,h2⟩,h4,h5⟩
  ·rintro⟨⟨h1,h2⟩,h4,h5⟩
   exact⟨by omega,h2,fun _=>by omega,h4,h5⟩
theorem ZmC (v:Value) (l:List Int) (lo:Int) (a b:Nat) (w:World) (hr:RdI w v l) (V:w.cell? ⟨a,0,none⟩=some (.int .i64 lo)) (S:w.cell? ⟨b,0,none⟩=some (.int .i64 1099511627776)):
 Calls prog 172 #[v,.func (.func 170) #[] #[.pointer (some ⟨a,0,none⟩),.pointer (some ⟨b,0,none⟩)]] w fun e w'=>e=.returned (.bool (decide (Zan lo l)))∧Below w.heap.size w w':=by
 have Y:Hid (∀ n W,Below w.heap.size w W->Calls prog 170 #[.int .i64 n,.pointer (some ⟨a,0,none⟩),.pointer (some ⟨b,0,none⟩)] W fun e w'=>e=.returned (.bool (decide (lo<=n∧n<=1099511627776)))∧w'=W):=fun n W h=>
  Zdq n _ _ a b W ((h.cell (World.block_lt_of_cell? w ⟨a,0,none⟩ V)).trans V) ((h.cell (World.block_lt_of_cell? w ⟨b,0,none⟩ S)).trans S)
 have M:=Qc (fun n l2 h2 I F W p1 p2=>Zdq n l2 h2 I F W p1 p2)
 have O:=Qc (fun p q W=>Jx p q W)
 obtain⟨ao,cap,rfl,-,-,-,-,af⟩:=hr;have ai:=Qc af;clear af V S;obtain⟨R,X⟩:∃ R,R=decide (Zan lo l):=⟨_,rfl⟩;rw[<-X];have A:=Qc X;clear X;by_cases he:l.length % 2=0
 ·by_cases Z:l.length<=128
  ·have ae:(((l.length:Int).tmod 2) != 0)=false:=by rw[bne_eq_false_iff_eq,Int.tmod_eq_emod_of_nonneg (by omega)];omega
   have hq:¬ (128<(l.length:Int)):=by omega
   go_enter func172,ntmps172
   go_wp2
   go_loopw[5,6] (fun y i wr=>∃ k:Nat,y=.int .i64 (Zfw l k)∧i=.int .i64 k∧k<=l.length∧k % 2=0∧Hid (∀ j,j<k->j % 2=0->ZgR lo l j)∧Hid (Below w.heap.size w wr)) (fun _ i _=>l.length-(intOf i).toNat)
   case atStart=>exact⟨0,rfl,rfl,Nat.zero_le _,rfl,fun j hj=>by omega,Below.refl _ _⟩
   case round=>
    obtain⟨k,rfl,rfl,hk,P,N,t⟩:=hrel;by_cases u:k<l.length
    ·rcases ai.o with h0 | ⟨g,G,rfl,D⟩
     ·rw[h0] at u;simp at u
     have ab:k+1<l.length:=by omega
     have H:Hid (∀ W,Below w.heap.size w W->W.cell? ⟨g,G+k,none⟩=some (.int .i64 (l.getD k 0))):=fun W h=>(h.cell (World.block_lt_of_cell? w ⟨g,G+k,none⟩ (D k u))).trans (D k u)
     have E:Hid (∀ W,Below w.heap.size w W->W.cell? ⟨g,G+(k+1),none⟩=some (.int .i64 (l.getD (k+1) 0))):=fun W h=>(h.cell (World.block_lt_of_cell? w ⟨g,G+(k+1),none⟩ (D (k+1) ab))).trans (D (k+1) ab)
     clear D;have x:=Qc (ZmB (lo:=lo) P N.out)
     have aa:Hid (Zfw l (k+2)=l.getD k 0+1):=by
      unfold Zfw;rw[if_neg (by omega)]
      exact rfl
     generalize Zfw l k=ls at *;obtain⟨y,d⟩:∃ y,y=l.getD k 0:=⟨_,rfl⟩;obtain⟨z,f⟩:∃ z,z=l.getD (k+1) 0:=⟨_,rfl⟩;rw[<-d] at H x aa;rw[<-f] at E x;have ag:=Qc d;clear d f;by_cases d:ls<=y∧y<=255
     ·have L:=Qc (decide_eq_true d)
      have J:=Qc d;by_cases f:lo<=z∧z<=1099511627776
      ·have U:=Qc (decide_eq_true f)
       have K:=Qc f;have ak:=d.2;have aj:0<=y:=by rw[ag.o];exact(x.o.2 ⟨J.o,K.o⟩).1
       clear d f
       go_wp2_with fail
       refine(O.o _ _ _).mono ?_;rintro e W1 ⟨I,F,rfl,B,C,m⟩;have c:=Qc (t.out.trans (m.mono t.out.size));have ac:=H.o _ c.o;have ad:=E.o _ c.o;clear m
       go_wp2_with fail
       refine(M.o _ _ _ _ _ _ B C).mono ?_;rintro e W2 ⟨rfl,rfl⟩;rw[L.o]
       go_wp2_with fail
       refine(Y.o _ _ c.o).mono ?_;rintro e W3 ⟨rfl,rfl⟩;rw[U.o];go_wp2;go_roundw
       case rel=>
        refine⟨k+2,by rw[aa.o],by go_num,by omega,by omega,fun j hj T=>?_,c⟩
        by_cases e:j=k
        ·rw[e];exact x.o.2 ⟨J.o,K.o⟩
        ·exact N.out j (by omega) T
       case measure=>simp[intOf];omega
      ·have U:=Qc (decide_eq_false f)
       have K:=Qc f;clear d f
       go_wp2_with fail
       refine(O.o _ _ _).mono ?_;rintro e W1 ⟨I,F,rfl,B,C,m⟩;have c:=Qc (t.out.trans (m.mono t.out.size));have ac:=H.o _ c.o;have ad:=E.o _ c.o;clear m
       go_wp2_with fail
       refine(M.o _ _ _ _ _ _ B C).mono ?_;rintro e W2 ⟨rfl,rfl⟩;rw[L.o]
       go_wp2_with fail
       refine(Y.o _ _ c.o).mono ?_;rintro e W3 ⟨rfl,rfl⟩;rw[U.o];go_wp2;go_ret;exact⟨Yk (A.o.trans (decide_eq_false fun h=>K.o (x.o.1 (h.2.2 k u P)).2)).symm,c.o⟩
     ·have L:=Qc (decide_eq_false d)
      have J:=Qc d;clear d
      go_wp2_with fail
      refine(O.o _ _ _).mono ?_;rintro e W1 ⟨I,F,rfl,B,C,m⟩;have c:=Qc (t.out.trans (m.mono t.out.size));have ac:=H.o _ c.o;have ad:=E.o _ c.o;clear m
      go_wp2_with fail
      refine(M.o _ _ _ _ _ _ B C).mono ?_;rintro e W2 ⟨rfl,rfl⟩;rw[L.o];go_wp2;go_ret;exact⟨Yk (A.o.trans (decide_eq_false fun h=>J.o (x.o.1 (h.2.2 k u P)).1)).symm,c.o⟩
    ·go_wp2
     go_ret;exact⟨Yk (A.o.trans (decide_eq_true ⟨he,Z,fun j hj T=>N.out j (by omega) T⟩)).symm,t.out⟩
  ·have ae:(((l.length:Int).tmod 2) != 0)=false:=by rw[bne_eq_false_iff_eq,Int.tmod_eq_emod_of_nonneg (by omega)];omega
   have hq:128<(l.length:Int):=by omega
   have Q:Hid (decide (Zan lo l)=false):=decide_eq_false (fun h=>Z h.2.1)
   go_enter func172,ntmps172
   go_wp2;go_ret;exact⟨Yk (A.o.trans Q.o).symm,Below.refl _ _⟩
 ·have ae:(((l.length:Int).tmod 2) != 0)=true:=by rw[bne_iff_ne,Int.tmod_eq_emod_of_nonneg (by omega)];omega
  have Q:Hid (decide (Zan lo l)=false):=decide_eq_false (fun h=>he h.1)
  go_enter func172,ntmps172
  go_wp2;go_ret;exact⟨Yk (A.o.trans Q.o).symm,Below.refl _ _⟩
end Go.Proofs.YtnahjngbneicaaaGreatDoor
