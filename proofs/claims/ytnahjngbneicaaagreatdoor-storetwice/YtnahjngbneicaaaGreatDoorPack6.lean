import Derived.Test.YtnahjngbneicaaaGreatDoorPack5
namespace Go.Proofs.YtnahjngbneicaaaGreatDoor
open _root_.Go.Proofs.Tryz
open List (length_append)
set_option maxHeartbeats 2000000
set_option maxRecDepth 100000
open Go.RowKit
variable {w w':World} {B B' b o:Nat} {r:Rec} {v v':Value} {L' l:List Int} {a key least:Int}
def Zja (w:World) (b o:Nat) (r:Rec):Prop:=
 w.cell? ⟨b,o,none⟩=some (.int .i64 r.idx)∧w.cell? ⟨b,o+1,none⟩=some (.int .i64 r.proc)∧w.cell? ⟨b,o+2,none⟩=some (.int .i64 r.seq)∧w.cell? ⟨b,o+3,none⟩=some (.int .i64 r.op.code)∧w.cell? ⟨b,o+4,none⟩=some (.int .i64 r.op.a)∧w.cell? ⟨b,o+5,none⟩=some (.int .i64 r.op.b)∧w.cell? ⟨b,o+6,none⟩=some (.int .i64 r.resp)
theorem Zja.lt (h:Zja w b o r):b<w.heap.size:=World.block_lt_of_cell? w ⟨b,o,none⟩ h.1
theorem Zja.keep (h:Zja w b o r) (c:w'.heap[b]?=w.heap[b]?):Zja w' b o r:=by
 have d:∀ i,w'.cell? ⟨b,i,none⟩=w.cell? ⟨b,i,none⟩:=fun i=>World.cell?_of_block (a:=⟨b,i,none⟩) c
 unfold Zja at h ⊢;simp only [d];exact h
def RdR (w:World) (v:Value) (l:List Rec):Prop:=
 ∃ ao cap,v=.slice ao l.length cap∧l.length<=cap∧cap<=maxLen∧(ao=none->cap=0)∧(∀ r ∈ l,ZcK r)∧
  (l=[]∨∃ b off,ao=some ⟨b,off,none⟩∧∀ j,j<l.length->Zja w b (off+j*7) (l.getD j Qi))
theorem RdR.nil (w:World):RdR w (.slice none 0 0) []:=⟨none,0,rfl,Nat.le_refl _,Nat.zero_le _,fun _=>rfl,(fun r h=>by simp at h),.inl rfl⟩
theorem RdR.below {l:List Rec} (h:RdR w v l) {B:Nat} (d:Below B w w') (t:w.heap.size<=B):RdR w' v l:=by
 obtain⟨ao,cap,k,e,n,m,i,a⟩:=h;refine⟨ao,cap,k,e,n,m,i,?_⟩;rcases a with a | ⟨b,p,g,q⟩
 ·exact .inl a
 ·refine .inr ⟨b,p,g,fun j f=>?_⟩
  have c:=q j f;exact c.keep (d.block b (by have:=c.lt;omega))
def Qq:List Rec->List Value
 | []=>[]
 | r::t=>(Zi r).toList++Qq t
theorem Yx:∀ l:List Rec,(Qq l).length=l.length*7
 | []=>rfl
 | r::t=>by
  rw[Qq,length_append,Yx t,List.length_cons];simp[Zi];omega
theorem Zax:∀ a b:List Rec,Qq (a++b)=Qq a++Qq b
 | [],_=>rfl
 | r::t,b=>by rw[List.cons_append,Qq,Zax t b,Qq,List.append_assoc]
theorem Zbp:∀ (l:List Rec) (j k:Nat),j<l.length->k<7->(Qq l)[j*7+k]?=(Zi (l.getD j Qi))[k]?
 | r::t,0,k,_,hk=>by
  rw[Qq,Nat.zero_mul,Nat.zero_add,List.getElem?_append_left (by simp[Zi];omega)]
  simp[List.getD]
 | r::t,j+1,k,hj,hk=>by
  have e:(j+1)*7+k=(Zi r).toList.length+(j*7+k):=by simp[Zi];omega
  rw[Qq,e,List.getElem?_append_right (by omega),Nat.add_sub_cancel_left,Zbp t j k (by simpa using hj) hk]
  simp[List.getD]
theorem Zbq (l:List Rec):∀ u ∈ Qq l,u.oneCell'=true:=by
 induction l with
 | nil=>intro u a;simp[Qq] at a
 | cons r t b=>
  intro u a;rw[Qq] at a;rcases List.mem_append.1 a with h | h
  ·simp[Zi] at h
   rcases h with rfl | rfl | rfl | rfl | rfl | rfl | rfl <;> rfl
  ·exact b u h
def Q9 (w:World) (B:Nat) (v:Value) (l:List Rec):Prop:=w.ownsRow B 62 7 v l.length (Qq l)
theorem Q9.nil (w:World) (B:Nat):Q9 w B (.slice none 0 0) []:=World.ownsRow_nil w B 62 7
theorem Q9.rd {l:List Rec} (h:Q9 w B v l) (c:∀ r ∈ l,ZcK r):RdR w v l:=by
 rcases h.2 with ⟨b,d⟩ | ⟨g,cap,cur,b,q,y,m,p,x,t⟩
 ·exact⟨none,0,by rw[b,d],by omega,Nat.zero_le _,fun _=>rfl,c,.inl (List.eq_nil_of_length_eq_zero d)⟩
 ·refine⟨some ⟨g,0,none⟩,cap,b,m,p,(fun e=>by cases e),c,.inr ⟨g,0,rfl,fun j i=>?_⟩⟩
  have a:∀ k u,k<7->(Zi (l.getD j Qi))[k]?=some u->w.cell? ⟨g,0+j*7+k,none⟩=some u:=fun k u f n=>by
   have:=World.ownsRow.cells h (g:=g) (by rw[b];rfl) (j*7+k) u ((Zbp l j k i f).trans n)
   rw[Addr.add_lit] at this;rw[Nat.add_assoc];exact this
  exact⟨a 0 _ (by decide) rfl,a 1 _ (by decide) rfl,a 2 _ (by decide) rfl,a 3 _ (by decide) rfl,a 4 _ (by decide) rfl,a 5 _ (by decide) rfl,a 6 _ (by decide) rfl⟩
theorem Q9.below {l:List Rec} (h:Q9 w B v l) (c:Below B' w w') (j:w.heap.size<=B'):Q9 w' B v l:=by
 obtain⟨d,a⟩:=h;refine⟨d,?_⟩;rcases a with a | ⟨g,cap,cur,e,f,b,r⟩
 ·exact .inl a
 ·have i:g<w.heap.size:=(Array.getElem?_eq_some_iff.1 b).1
  exact .inr ⟨g,cap,cur,e,f,by rw[c.block g (by omega)];exact b,r⟩
theorem Q9.mono {l:List Rec} (h:Q9 w B v l) (e:B'<=B):Q9 w B' v l:=by
 obtain⟨b,a⟩:=h;refine⟨b,?_⟩;rcases a with a | ⟨g,cap,cur,c,d,r⟩
 ·exact .inl a
 ·exact .inr ⟨g,cap,cur,c,by omega,r⟩
theorem Q9.shape {l:List Rec} (h:Q9 w B v l):∃ ao cap,v=.slice ao l.length cap:=by
 rcases h.2 with ⟨a,b⟩ | ⟨g,cap,cur,a,_⟩
 ·exact⟨none,0,by rw[a,b]⟩
 ·exact⟨_,_,a⟩
theorem Zdc:(prog.info? 62).map (fun i=>(i.zero,i.size,i.bytes))=some (some (.agg #[.int .i64 0,.int .i64 0,.int .i64 0,.int .i64 0,.int .i64 0,.int .i64 0,.int .i64 0]),7,56):=by kernel_rfl
theorem Zjb (w:World) (ty:TypeId) (B:Nat) (v:Value) (l:List Rec) (h:Q9 w B v l) (r:Rec) (q:l.length<=1000000) (g:B<=w.heap.size):
 ∃ v' w',(Builtin.append_ #[29,29] ty #[v,.slice (some ⟨w.heap.size,0,none⟩) 1 1]).run prog (w.alloc (.cells (Zi r) 62))=.ok v' w'∧Q9 w' B v' (l++[r])∧Below B w w':=by
 obtain⟨p,e,m,d,c⟩:=info_parts Zdc
 obtain⟨v',w',i,n,f,_⟩:=run_append_own (P:=prog) (w.alloc (.cells (Zi r) 62)) B 29 ty 62 p _ 7 56 underlying29 e m d c rfl (by decide) v l.length (Qq l) (h.alloc _)
  ⟨w.heap.size,0,none⟩ 1 1 (Qq [r]) (Yx [r]) (fun j u b=>by
   rw[Addr.add_lit,Nat.zero_add,cell_of_row _ w.heap.size j _ 62 (0,0) (heap_alloc_new w _)]
   simpa[Qq] using b) (Zbq [r]) (by unfold maxLen;omega) (by omega) (by simp;omega)
 refine⟨v',w',i,?_,?_⟩
 ·unfold Q9
  rw[length_append,Zax];exact n
 ·exact((Below.refl _ _).alloc g _).grown f (by simp;omega) (fun k a=>(World.ownsRow.lt h k a).1)
theorem Zft (w:World) {b:Array Oper} {rest:List Oper} {o:Oper} {a:Act} {Q:Exit->Act->World->Prop} (j:o.guard=none) (s x:Operand)
 (p:o.op=.call { callee:=.builtin .append,args:=#[s,x],argTypes:=#[29,29] })
 (B:Nat) (v:Value) (l:List Rec) (g:a.eval s=v) (e:Q9 w B v l) (r:Rec) (k:a.eval x=.slice (some ⟨w.heap.size,0,none⟩) 1 1)
 (f:l.length<=1000000) (m:B<=w.heap.size)
 (h:∀ v' w',Q9 w' B v' (l++[r])->Below B w w'->wpList prog b Q rest (a.put o.dst v') w'):wpList prog b Q (o::rest) a (w.alloc (.cells (Zi r) 62)):=
 wpList_plain j fun _ d=>by
  obtain⟨v',w',n,c,i⟩:=Zjb w o.type B v l e r f m;unfold Oper.wp execOp;simp only [p,resolve,invoke,builtin,Sem.run_bind,Sem.run_pure,Result.andThen_ok,List.map_toArray,List.map_cons,List.map_nil,g,k,n];exact d _ _ (h v' w' c i)
theorem ZhH:prog.elem 29=62:=by kernel_rfl
theorem Zdd:prog.underlying 29=some (.slice (prog.elem 29)):=by rw[ZhH];exact underlying29
theorem Zqa (w:World):(sizeOf 62).run prog w=.ok 7 w:=by
 obtain⟨c,a,_,b,_⟩:=info_parts Zdc;simp[sizeOf,typeInfo,a,b]
theorem Br.set {cs:Array Value} (h:Br w b cs) (j:Nat) (x:Value):Br (w.setCell ⟨b,j,none⟩ x) b (cs.setIfInBounds j x):=by
 have:=heap_setCell_same w b j _ _ x h;unfold Br;simpa using this
theorem Zdq (n lo c:Int) (a b:Nat) (w:World) (i:w.cell? ⟨a,0,none⟩=some (.int .i64 lo)) (j:w.cell? ⟨b,0,none⟩=some (.int .i64 c)):
 Calls prog 170 #[.int .i64 n,.pointer (some ⟨a,0,none⟩),.pointer (some ⟨b,0,none⟩)] w fun e w'=>e=.returned (.bool (decide (lo<=n∧n<=c)))∧w'=w:=by
 have f:Hid ((decide (lo<=n) && decide (n<=c))=decide (lo<=n∧n<=c)):=(Bool.decide_and _ _).symm;have g:Hid (lo<=n->decide (n<=c)=decide (lo<=n∧n<=c)):=fun h=>by rw[<-f.o,decide_eq_true h,Bool.true_and]
 by_cases d:lo<=n
 ·go_enter func170,ntmps170
  go_wp2;go_ret;exact⟨Yk (g.o d),rfl⟩
 ·go_enter func170,ntmps170
  go_wp2;go_ret;exact⟨Yk (by rw[decide_eq_false (Int.not_le.2 d),Bool.false_and]),rfl⟩
theorem Jx (lo c:Int) (w:World):
 Calls prog 121 #[.int .i64 lo,.int .i64 c] w fun e w'=>∃ a b,e=.returned (.func (.func 170) #[] #[.pointer (some ⟨a,0,none⟩),.pointer (some ⟨b,0,none⟩)])∧w'.cell? ⟨a,0,none⟩=some (.int .i64 lo)∧w'.cell? ⟨b,0,none⟩=some (.int .i64 c)∧Below w.heap.size w w':=by
 have f:∀ (fn:Fn) (first cap:Array Value) (w:World),(Instr.makeFunc fn first cap).run prog w=.ok (.func fn first cap) w:=fun _ _ _ _=>rfl
 have d:Hid (∀ x y,Below w.heap.size w ((w.alloc x).alloc y)):=fun x y=>((Below.refl _ _).alloc zL x).alloc (by simp) y
 go_enter func121,ntmps121
 go_wp2;go_ret;refine⟨_,_,rfl,?_,?_,d.o _ _⟩
 ·rw[World.cell?_alloc_past _ _ _ (by simp),World.cell?_alloc_at _ _ _ _ rfl];rfl
 ·rw[World.cell?_alloc_at _ _ _ _ (by simp)];rfl
theorem Zfu (n:Int):max (-1099511627776) (min n 1099511627776)=Zz n:=by
 unfold Zz;split
 ·omega
 ·split <;> omega
theorem Zex (n:Int) (w:World):Calls prog 173 #[.int .i64 n] w fun e w'=>e=.returned (.int .i64 (Zz n))∧w'=w:=by
 by_cases a:1099511627776<n
 ·go_enter func173,ntmps173
  go_wp2;go_ret;refine⟨Zxg ?_,rfl⟩
  first
   | exact Zfu n
   | (unfold Zz;split <;> (try split) <;> omega)
 by_cases b:n<=-1099511627776
 ·go_enter func173,ntmps173
  go_wp2;go_ret;refine⟨Zxg ?_,rfl⟩
  first
   | exact Zfu n
   | (unfold Zz;split <;> (try split) <;> omega)
 ·go_enter func173,ntmps173
  go_wp2;go_ret;refine⟨Zxg ?_,rfl⟩
  first
   | exact Zfu n
   | (unfold Zz;split <;> (try split) <;> omega)
theorem ZkR (ao:Option Addr) (n cap:Nat) (w:World):Calls prog 177 #[.slice ao n cap] w fun e w'=>e=.returned (.bool (decide (n=128)))∧w'=w:=by
 by_cases h:n=128
 ·have a:Hid (decide (n=128)=true):=decide_eq_true h
  have b:((n:Int) == 128)=true:=beq_iff_eq.2 (by omega)
  clear h
  go_enter func177,ntmps177
  go_wp2;go_ret;exact⟨Yk a.o.symm,rfl⟩
 ·have a:Hid (decide (n=128)=false):=decide_eq_false h
  have b:((n:Int) == 128)=false:=beq_eq_false_iff_ne.2 (by omega)
  clear h
  go_enter func177,ntmps177
  go_wp2;go_ret;exact⟨Yk a.o.symm,rfl⟩
theorem Zqb {b:Int} {c d:Bool} (h:a=b) (e:c=d):Ending.returned (.tuple #[.int .i64 a,.bool c])=.returned (.tuple #[.int .i64 b,.bool d]):=by rw[h,e]
theorem ZtM (v:Value) (l:List Int) (key:Int) (w:World) (F:RdI w v l) (J:l.length % 2=0) (K:l.length<=1000000):
 Calls prog 211 #[v,.int .i64 key] w fun e w'=>e=.returned (.tuple #[.int .i64 (Qs key l),.bool (decide (Qs key l<l.length∧l.getD (Qs key l) 0=key))])∧Below w.heap.size w w':=by
 obtain⟨ao,cap,rfl,-,-,-,-,u⟩:=F;have I:=Qc u;clear u;obtain⟨P,c⟩:∃ P,P=Qs key l:=⟨_,rfl⟩;obtain⟨R,n⟩:∃ R,R=decide (P<l.length∧l.getD P 0=key):=⟨_,rfl⟩;rw[<-c,<-n];have G:=Qc c;have p:=Qc n;clear c n
 go_enter func211,ntmps211
 go_wp2
 go_loop [6] (fun i=>∃ k:Nat,i=.int .i64 k∧k<=l.length∧k % 2=0∧Hid (∀ j,j<k->j % 2=0->l.getD j 0<key)) (fun i=>l.length-(intOf i).toNat)
 case atStart=>exact⟨0,rfl,Nat.zero_le _,rfl,fun j B=>by omega⟩
 case round=>
  obtain⟨k,rfl,A,C,x⟩:=hrel;have t:Hid (P=k+Qs key (l.drop k)):=G.o.trans (Zhk key l k J C A x.out);by_cases b:k<l.length
  ·rcases I.o with E | ⟨g,L,rfl,q⟩
   ·rw[E] at b;simp at b
   have D:=q k b;clear q;obtain⟨y,d⟩:∃ y,y=l.getD k 0:=⟨_,rfl⟩;rw[<-d] at D;have m:=Qc d;clear d;by_cases z:key<=y
   ·have a:Hid (P=k):=t.o.trans (by rw[ZnR key l k (by omega) (by rw[<-m.o];exact z)];exact Nat.add_zero k)
    have f:Hid (R=(y == key)):=by
     rw[p.o,a.o,<-m.o];by_cases e:y=key
     ·rw[beq_iff_eq.2 e];exact decide_eq_true ⟨b,e⟩
     ·rw[beq_eq_false_iff_ne.2 e];exact decide_eq_false (fun h=>e h.2)
    have M:(k:Int)<(l.length:Int):=by omega
    go_wp2
    go_quiet(fail)
    go_wp2;go_ret2;exact⟨Zqb (by rw[a.o]) f.o.symm,Xn (Below.refl _ _) _⟩
   ·go_wp2
    go_round
    case rel=>
     refine⟨k+2,by go_num,by omega,by omega,fun j B H=>?_⟩
     by_cases e:j=k
     ·rw[e,<-m.o];omega
     ·exact x.out j (by omega) H
    case measure=>simp[intOf];omega
  ·have a:Hid (P=l.length):=by
    have e:k=l.length:=by omega
    rw[t.o,e,List.drop_length];exact rfl
   have f:Hid (R=false):=p.o.trans (decide_eq_false (fun h=>by have:=h.1;rw[a.o] at this;omega))
   go_wp2;go_ret2;exact⟨Zqb (by rw[a.o]) f.o.symm,Below.refl _ _⟩
theorem Zfv (v:Value) (l:List Int) (key least lo:Int) (w:World) (c:RdI w v l) (a:Qr least lo l) (b:l.length<=1000000):
 Calls prog 211 #[v,.int .i64 key] w fun e w'=>e=.returned (.tuple #[.int .i64 (Qs key l),.bool (Y6 key l)])∧Below w.heap.size w w':=by
 rw[(ZbL key least l lo a).1];exact ZtM v l key w c (ZbG a) b
theorem Zay:∀ {l:List Int} {lo:Int},-1099511627776<=least->-1<=lo->Qr least lo l->∀ x ∈ l,I64 x
 | [],_,_,_,_,x,hx=>by simp at hx
 | [_],_,_,_,h,_,_=>by simp[Qr] at h
 | a::b::r,lo,hl,hlo,h,x,hx=>by
  unfold Qr at h;have c:=Zay (l:=r) (lo:=a) hl (by omega) h.2.2.2.2 x
  simp at hx;rcases hx with rfl | rfl | hx
  ·exact Qk (by omega) (by omega)
  ·exact Qk (by omega) (by omega)
  ·exact c hx
theorem ZgF (v:Value) (l:List Int) (key least lo:Int) (w:World) (q:RdI w v l) (n:Qr least lo l) (C:l.length<=1000000):
 Calls prog 175 #[v,.int .i64 key] w fun e w'=>e=.returned (.tuple #[.int .i64 ((Xx key l).getD 0),.bool (Y6 key l)])∧Below w.heap.size w w':=by
 have c:Hid (Calls prog 211 #[v,.int .i64 key] w fun e w'=>e=.returned (.tuple #[.int .i64 (Qs key l),.bool (Y6 key l)])∧Below w.heap.size w w'):=Zfv v l key least lo w q n C
 have k:=Qc (ZbL key least l lo n).2;obtain⟨ao,cap,rfl,-,-,-,-,t⟩:=q;have z:=Qc t;obtain⟨G,f⟩:∃ G,G=(Xx key l).getD 0:=⟨_,rfl⟩;rw[<-f];have j:=Qc f;clear t n f
 cases hh:Y6 key l
 ·rw[hh] at c
  have m:Hid (0=G):=by
   have:Xx key l=none:=by
    unfold Y6 at hh
    cases h:Xx key l with
    | none=>rfl
    | some x=>rw[h] at hh;simp at hh
   rw[j.o,this];exact rfl
  clear hh k
  go_enter func175,ntmps175
  go_wp2_with fail
  refine c.o.mono ?_;rintro e D ⟨rfl,a⟩;have d:=Qc a;clear a;go_wp2;go_ret2;exact⟨Zqb m.o rfl,d.o⟩
 ·rw[hh] at c
  obtain⟨p,b⟩:=k.o hh
  have m:Hid (l.getD (Qs key l+1) 0=G):=by
   rw[j.o,p];exact rfl
  rcases z.o with B | ⟨g,u,rfl,i⟩
  ·rw[B] at b;simp at b
  have A:Hid (∀ W,Below w.heap.size w W->W.cell? ⟨g,u+(Qs key l+1),none⟩=some (.int .i64 (l.getD (Qs key l+1) 0))):=fun W h=>(h.cell (World.block_lt_of_cell? w ⟨g,u+(Qs key l+1),none⟩ (i _ b))).trans (i _ b)
  clear hh k p z i j;generalize l.getD (Qs key l+1) 0=y at *;generalize Qs key l=P at *;have F:(P:Int)+1<(l.length:Int):=by omega
  clear b
  go_enter func175,ntmps175
  go_wp2_with fail
  refine c.o.mono ?_;rintro e D ⟨rfl,a⟩;have d:=Qc a;have E:=A.o _ a;clear a;go_wp2;go_ret2;exact⟨Zqb m.o rfl,d.o⟩
theorem ZgG (v:Value) (l:List Int) (key n least lo:Int) (B:Nat) (w:World) (j:Qo w B v l) (M:B<=w.heap.size) (I:∀ x ∈ l,I64 x) (c:Qr least lo l) (G:l.length<=1000000):
 Calls prog 178 #[v,.int .i64 key,.int .i64 n] w fun e w'=>∃ v',e=.returned v'∧Qo w' B v' (Q5 key n false l)∧Mv w w' v v':=by
 have k:Hid (Calls prog 211 #[v,.int .i64 key] w fun e w'=>e=.returned (.tuple #[.int .i64 (Qs key l),.bool (Y6 key l)])∧Below w.heap.size w w'):=Zfv v l key least lo w (j.rd I) c G
 have p:=(Zhj key l (ZbG c)).1;have q:=Qc (ZbL key least l lo c).2;have t:=Qc j
 cases hh:Y6 key l
 ·rw[hh] at k
  have b:=Qc (ZfO key n least l lo c hh)
  have D:Hid (∀ W,Qo W B v l->B<=W.heap.size->Calls prog 212 #[v,.int .i64 (Qs key l),.slice (some ⟨W.heap.size,0,none⟩) 2 2] (W.alloc (.cells #[.int .i64 key,.int .i64 n] 3)) fun e w'=>∃ v',e=.returned v'∧Qo w' B v' (l.take (Qs key l)++([key,n]++l.drop (Qs key l)))∧Mv W w' v v'):=
   fun W m d=>Zol v l B W m d G (Qs key l) p _ rfl key n _ rfl
  obtain⟨L',a⟩:∃ L',L'=Q5 key n false l:=⟨_,rfl⟩;rw[<-a];rw[<-a] at b;have F:=Qc b.o.symm;rw[F.o] at D;clear a b F j c q hh p;generalize Qs key l=P at *
  go_enter func178,ntmps178
  go_wp2_with fail
  refine k.o.mono ?_;rintro e J ⟨rfl,i⟩;have f:=Qc i;clear i
  go_wp2_with fail
  refine(D.o J (t.o.below f.o zL) (Nat.le_trans M f.o.size)).mono ?_;rintro e W2 ⟨Z,rfl,A,C⟩;have T:=Qc ((Mv.ofBelow f.o v).trans C);have O:=Qc A;clear C A;go_wp2;go_ret;exact⟨_,rfl,O.o,T.o⟩
 ·rw[hh] at k
  have b:=Qc (ZlT key n least l lo c hh);obtain⟨m,d⟩:=q.o hh;obtain⟨L',a⟩:∃ L',L'=Q5 key n false l:=⟨_,rfl⟩;rw[<-a];rw[<-a] at b;have N:=j.put _ d n;obtain⟨g,cap,rfl,-,-,V,ac,-,-⟩:=N
  have L:Hid (∀ W,Below w.heap.size w W->W.cell? ⟨g,Qs key l+1,none⟩=some (.int .i64 (l.getD (Qs key l+1) 0))∧W.frozen? ⟨g,Qs key l+1,none⟩=false∧Qo (W.setCell ⟨g,Qs key l+1,none⟩ (.int .i64 n)) B (.slice (some ⟨g,0,none⟩) l.length cap) L'∧Mv w (W.setCell ⟨g,Qs key l+1,none⟩ (.int .i64 n)) (.slice (some ⟨g,0,none⟩) l.length cap) (.slice (some ⟨g,0,none⟩) l.length cap)):=fun W z=>by
   obtain⟨g',aa,E,Q,S,Y,h6,R,K⟩:=(t.o.below z zL).put _ d n;simp only [Value.slice.injEq,Option.some.injEq,Addr.mk.injEq] at E;obtain⟨⟨rfl,_⟩,_,rfl⟩:=E;exact⟨Q,S,by rw[b.o];exact R,(Mv.ofBelow z _).trans K⟩
  clear a b j c q hh p m t I;generalize l.getD (Qs key l+1) 0=y at *;generalize Qs key l=P at *;have ab:(P:Int)+1<(l.length:Int):=by omega
  clear d
  go_enter func178,ntmps178
  go_wp2_with fail
  refine k.o.mono ?_;rintro e J ⟨rfl,i⟩;obtain⟨X,f1,u,H⟩:=L.o _ i;have U:=Qc u;have f:=Qc H;clear i u H;go_wp2;go_ret;exact⟨_,rfl,U.o,f.o⟩
theorem ZvW (v:Value) (l:List Int) (key least lo:Int) (B:Nat) (w:World) (g:Qo w B v l) (t:∀ x ∈ l,I64 x) (a:Qr least lo l) (D:l.length<=1000000):
 Calls prog 176 #[v,.int .i64 key] w fun e w'=>∃ v',e=.returned v'∧Qo w' B v' (X9 key l)∧Mv w w' v v':=by
 have f:Hid (Calls prog 211 #[v,.int .i64 key] w fun e w'=>e=.returned (.tuple #[.int .i64 (Qs key l),.bool (Y6 key l)])∧Below w.heap.size w w'):=Zfv v l key least lo w (g.rd t) a D
 have n:=(Zhj key l (ZbG a)).1;have j:=Qc (ZbL key least l lo a).2;have u:=Qc g
 cases hh:Y6 key l
 ·rw[hh] at f
  have b:=Qc (ZfP key least l lo a hh);rw[b.o];clear b g a j hh n t;generalize Qs key l=P at *
  go_enter func176,ntmps176
  go_wp2_with fail
  refine f.o.mono ?_;rintro e y ⟨rfl,d⟩;have c:=Qc d;clear d;go_wp2;go_ret;exact⟨_,rfl,u.o.below c.o zL,Mv.ofBelow c.o v⟩
 ·rw[hh] at f
  have b:=Qc (ZfQ key least l lo a hh);obtain⟨A,z⟩:=j.o hh
  have k:Hid (∀ W J,Qo W B v l->J=((Qs key l+2:Nat):Int)->Calls prog 210 #[v,.int .i64 (Qs key l),.int .i64 J] W fun e w'=>∃ v',e=.returned v'∧Qo w' B v' (l.take (Qs key l)++l.drop (Qs key l+2))∧Mv W w' v v'):=
   fun W J E F=>ZhD v l B W E (Qs key l) (Qs key l+2) (by omega) (by omega) _ _ rfl F
  obtain⟨L',i⟩:∃ L',L'=X9 key l:=⟨_,rfl⟩;rw[<-i];rw[<-i] at b;have q:=Qc b.o.symm;rw[q.o] at k;clear i b q g a j hh n A;generalize Qs key l=P at *;have K:(P:Int)+1<(l.length:Int):=by omega
  clear z
  go_enter func176,ntmps176
  go_wp2_with fail
  refine f.o.mono ?_;rintro e y ⟨rfl,d⟩;have c:=Qc d;clear d
  go_wp2_with fail
  refine(k.o y _ (u.o.below c.o zL) (by omega)).mono ?_
  rintro e I ⟨H,rfl,m,p⟩;have G:=Qc ((Mv.ofBelow c.o v).trans p);have C:=Qc m;clear p m;go_wp2;go_ret;exact⟨_,rfl,C.o,G.o⟩
def ZdN (B:Nat) (w:World) (v:Value) (L:List Int) (n:Int) (e:Ending) (w':World):Prop:=
 ∃ v',e=.returned (.tuple #[v',.int .i64 n])∧Qo w' B v' L∧Mv w w' v v'
theorem Qo.alloc (h:Qo w B v l) (X:Obj):Qo (w.alloc X) B v l:=World.ownsRow.alloc h X
theorem Qo.single (h:Qo w B v l) (b:l.length=1):
 ∃ g cap,v=.slice (some ⟨g,0,none⟩) 1 cap∧(∀ X,(w.alloc X).cell? ⟨g,0,none⟩=some (.int .i64 (l.getD 0 0))∧(w.alloc X).frozen? ⟨g,0,none⟩=false)∧g<w.heap.size∧
  ∀ X n,Qo ((w.setCell ⟨g,0,none⟩ (.int .i64 n)).alloc X) B v [n]∧Mv w ((w.setCell ⟨g,0,none⟩ (.int .i64 n)).alloc X) v v:=by
 obtain⟨g,cap,rfl,-,-,m,j,-,-⟩:=h.put 0 (by omega) 0
 refine⟨g,cap,by rw[b],fun X=>?_,j,fun X n=>?_⟩
 ·obtain⟨g',k,a,c,f,_⟩:=(h.alloc X).put 0 (by omega) 0
  simp only [Value.slice.injEq,Option.some.injEq,Addr.mk.injEq] at a;obtain⟨⟨rfl,_⟩,_,rfl⟩:=a;exact⟨c,f⟩
 ·obtain⟨g',k,a,c,f,_,_,d,i⟩:=h.put 0 (by omega) n
  simp only [Value.slice.injEq,Option.some.injEq,Addr.mk.injEq] at a;obtain⟨⟨rfl,_⟩,_,rfl⟩:=a
  have e:l.set 0 n=[n]:=by
   match l,b with
   | [_],_=>rfl
  rw[e] at d;exact⟨d.alloc X,i.trans (Mv.alloc _ _ X)⟩
theorem Zor (v:Value) (l:List Int) (o:Opn) (d:Bool) (g:Int) (B:Nat) (w:World) (q:Qo w B v l) (u:l.length=1) (G:-1099511627776<=l.getD 0 0) (F:l.getD 0 0<=1099511627776):
 Calls prog 124 #[v,opV o] w fun e w'=>e=.returned (.int .i64 (ZdX ⟨0,l,d,g⟩ o).2)∧Qo w' B v (ZdX ⟨0,l,d,g⟩ o).1.L∧Mv w w' v v:=by
 obtain⟨f,a,b⟩:=o;have y:=Qc q;have x:Hid (∀ X,Mv w (w.alloc X) v v):=fun X=>Mv.alloc w v X
 have A:=Qc (fun n w=>Zex n w)
 obtain⟨c,cap,rfl,p,H,t⟩:=q.single u;have D:=Qc t;have C:=fun X=>(p X).1
 have K:=fun X=>(p X).2
 clear t q p;obtain⟨n,m⟩:∃ n,n=l.getD 0 0:=⟨_,rfl⟩;rw[<-m] at G F;simp only [<-m] at C;have z:=Qc m;have M:=ZbU a;clear m u;show Calls prog _ #[_,.agg #[.int .i64 f,.int .i64 a,.int .i64 b]] w _;by_cases k:f=1
 ·subst k
  have j:Hid (ZdX ⟨0,l,d,g⟩ ⟨1,a,b⟩=(⟨0,[Zz (n+Zz a)],d,g⟩,n)):=by rw[z.o];exact if_pos ⟨rfl,rfl⟩
  rw[j.o]
  go_enter func124,ntmps124
  go_wp2_with(first | (go_at_call 173;refine(A.o _ _).mono ?_;rintro e I ⟨rfl,rfl⟩))
  go_ret;exact⟨rfl,D.o _ _⟩
 ·have J:(f == 1)=false:=beq_eq_false_iff_ne.2 k
  by_cases i:f=7
  ·have E:(f == 7)=true:=beq_iff_eq.2 i
   have j:Hid (ZdX ⟨0,l,d,g⟩ ⟨f,a,b⟩=(⟨0,l,d,g⟩,n)):=by
    rw[z.o];unfold ZdX;rw[if_neg (by simp;omega),if_neg (by simp),if_pos i]
    exact rfl
   rw[j.o];clear k i
   go_enter func124,ntmps124
   go_wp2;go_ret;exact⟨rfl,y.o.alloc _,x.o _⟩
  ·have E:(f == 7)=false:=beq_eq_false_iff_ne.2 i
   have j:Hid (ZdX ⟨0,l,d,g⟩ ⟨f,a,b⟩=(⟨0,l,d,g⟩,0)):=by
    unfold ZdX;rw[if_neg (by simp;omega),if_neg (by simp),if_neg i]
    exact rfl
   rw[j.o];clear k i
   go_enter func124,ntmps124
   go_wp2;go_ret;exact⟨rfl,y.o.alloc _,x.o _⟩
theorem Zmz (v:Value) (l:List Int) (o:Opn) (d:Bool) (g:Int) (B:Nat) (w:World) (q:Qo w B v l) (u:l.length=1):
 Calls prog 125 #[v,opV o] w fun e w'=>e=.returned (.int .i64 (ZdX ⟨1,l,d,g⟩ o).2)∧Qo w' B v (ZdX ⟨1,l,d,g⟩ o).1.L∧Mv w w' v v:=by
 obtain⟨f,a,b⟩:=o;have y:=Qc q;have x:Hid (∀ X,Mv w (w.alloc X) v v):=fun X=>Mv.alloc w v X
 have A:=Qc (fun n w=>Zex n w)
 obtain⟨c,cap,rfl,p,F,t⟩:=q.single u;have D:=Qc t;have C:=fun X=>(p X).1
 have I:=fun X=>(p X).2
 clear t q p;obtain⟨n,m⟩:∃ n,n=l.getD 0 0:=⟨_,rfl⟩;simp only [<-m] at C;have z:=Qc m;clear m u;show Calls prog _ #[_,.agg #[.int .i64 f,.int .i64 a,.int .i64 b]] w _;by_cases k:f=2
 ·subst k
  have j:Hid (ZdX ⟨1,l,d,g⟩ ⟨2,a,b⟩=(⟨1,[Zz a],d,g⟩,n)):=by rw[z.o];exact rfl
  rw[j.o]
  go_enter func125,ntmps125
  go_wp2_with(first | (go_at_call 173;refine(A.o _ _).mono ?_;rintro e G ⟨rfl,rfl⟩))
  go_ret;exact⟨rfl,D.o _ _⟩
 ·have H:(f == 2)=false:=beq_eq_false_iff_ne.2 k
  by_cases i:f=7
  ·have E:(f == 7)=true:=beq_iff_eq.2 i
   have j:Hid (ZdX ⟨1,l,d,g⟩ ⟨f,a,b⟩=(⟨1,l,d,g⟩,n)):=by
    rw[z.o];unfold ZdX;rw[if_neg (by simp),if_neg (by simp;omega),if_pos i]
    exact rfl
   rw[j.o];clear k i
   go_enter func125,ntmps125
   go_wp2;go_ret;exact⟨rfl,y.o.alloc _,x.o _⟩
  ·have E:(f == 7)=false:=beq_eq_false_iff_ne.2 i
   have j:Hid (ZdX ⟨1,l,d,g⟩ ⟨f,a,b⟩=(⟨1,l,d,g⟩,0)):=by
    unfold ZdX;rw[if_neg (by simp),if_neg (by simp;omega),if_neg i]
    exact rfl
   rw[j.o];clear k i
   go_enter func125,ntmps125
   go_wp2;go_ret;exact⟨rfl,y.o.alloc _,x.o _⟩
theorem Zxv (kind:Int) (P:kind=2∨kind=3) (v:Value) (l:List Int) (j:Bool) (g a b:Int) (B:Nat) (w:World) (k:Qo w B v l) (q:∀ x ∈ l,I64 x) (H:l.length<=64):
 Calls prog 174 #[.int .i64 kind,v] w fun e w'=>ZdN B w v (Yy ⟨kind,l,j,g⟩ ⟨4,a,b⟩).1.L (Yy ⟨kind,l,j,g⟩ ⟨4,a,b⟩).2 e w':=by
 have t:=Qc k;have F:=k.shape;by_cases d:l.length=0
 ·have f:Hid (Yy ⟨kind,l,j,g⟩ ⟨4,a,b⟩=(⟨kind,l,j,g⟩,-1)):=by
   unfold Yy;rw[if_neg (by simp),if_pos rfl,if_pos d]
   exact rfl
  rw[f.o];obtain⟨ao,cap,rfl⟩:=F;rw[d]
  have X:Hid (Qo w B (.slice ao 0 cap) l):=by
   have h:=t.o
   rwa [d] at h
  clear t k d f q H
  go_enter func174,ntmps174
  go_wp2;go_ret2;exact⟨_,rfl,X.o,Mv.refl _ _⟩
 ·have Q:((l.length:Int) == 0)=false:=beq_eq_false_iff_ne.2 (by omega)
  have E:l≠[]:=fun h=>d (by rw[h];rfl)
  have S:=k.rd q;obtain⟨ao,cap,rfl⟩:=F
  have u:Hid (∀ i:Nat,i<l.length->∀ I J,I=(i:Int)->J=((i+1:Nat):Int)->Calls prog 210 #[.slice ao l.length cap,.int .i64 I,.int .i64 J] w fun e w'=>∃ v',e=.returned v'∧Qo w' B v' (l.take i++l.drop (i+1))∧Mv w w' (.slice ao l.length cap) v'):=
   fun i q I J R O=>ZhD _ l B w t.o i (i+1) (by omega) (by omega) I J R O
  obtain⟨aa,ab,G,-,-,-,-,U⟩:=S;simp only [Value.slice.injEq] at G;obtain⟨rfl,-,rfl⟩:=G;rcases U with V | ⟨c,Z,rfl,z⟩
  ·exact absurd V E
  rcases P with rfl | rfl
  ·have f:Hid (Yy ⟨2,l,j,g⟩ ⟨4,a,b⟩=(⟨2,l.take 0++l.drop (0+1),j,g⟩,l.getD 0 0)):=by
    unfold Yy;rw[if_neg (by simp),if_pos rfl,if_neg d,if_pos rfl]
    exact rfl
   rw[f.o];have D:=z 0 (by omega)
   rw[Nat.add_zero] at D;have m:=Qc (u.o 0 (by omega))
   have Y:(0:Int)<(l.length:Int):=by omega
   generalize l.getD 0 0=y at *;generalize l.take 0++l.drop (0+1)=L' at *;clear z u f d E k q t
   go_enter func174,ntmps174
   go_wp2_with fail
   refine(m.o _ _ (by simp) (by simp)).mono ?_
   rintro e W ⟨T,rfl,n,p⟩;have C:=Qc n;have A:=Qc p;clear n p;go_wp2;go_ret2;exact⟨_,rfl,C.o,A.o⟩
  ·have f:Hid (Yy ⟨3,l,j,g⟩ ⟨4,a,b⟩=(⟨3,l.take (l.length-1)++l.drop (l.length-1+1),j,g⟩,l.getD (l.length-1) 0)):=by
    unfold Yy;rw[if_neg (by simp),if_pos rfl,if_neg d,if_neg (by simp)]
    have e:l.drop (l.length-1+1)=[]:=List.drop_of_length_le (by omega)
    rw[e,List.append_nil];exact rfl
   rw[f.o];have D:=z (l.length-1) (by omega)
   have m:=Qc (u.o (l.length-1) (by omega))
   obtain⟨M,K⟩:∃ M,M=l.length-1:=⟨_,rfl⟩;rw[<-K] at D m ⊢;have N:l.length=M+1:=by omega
   generalize l.getD M 0=y at *;generalize l.take M++l.drop (M+1)=L' at *;clear z u f d E k q t K Q;rw[N] at m ⊢;have ac:(M:Int)<64:=by omega
   clear N H
   go_enter func174,ntmps174
   go_wp2_with fail
   refine(m.o _ _ (by simp) (by simp)).mono ?_
   rintro e W ⟨T,rfl,n,p⟩;have C:=Qc n;have A:=Qc p;clear n p;go_wp2;go_ret2;exact⟨_,rfl,C.o,A.o⟩
theorem Yu {b:Int} (h:a=b):Ending.returned (.tuple #[v,.int .i64 a])=.returned (.tuple #[v,.int .i64 b]):=by rw[h]
theorem ZvX (kind:Int) (m:kind=2∨kind=3) (v:Value) (l:List Int) (o:Opn) (c:Bool) (g:Int) (B:Nat) (w:World) (i:Qo w B v l) (U:B<=w.heap.size) (t:∀ x ∈ l,I64 x) (A:l.length<=64):
 Calls prog 126 #[.int .i64 kind,v,opV o] w fun e w'=>ZdN B w v (Yy ⟨kind,l,c,g⟩ o).1.L (Yy ⟨kind,l,c,g⟩ o).2 e w':=by
 obtain⟨f,a,b⟩:=o;have z:=Qc i;have y:Hid (∀ X,Mv w (w.alloc X) v v):=fun X=>Mv.alloc w v X
 have I:=Qc (fun n w=>Zex n w)
 show Calls prog _ #[_,_,.agg #[.int .i64 f,.int .i64 a,.int .i64 b]] w _;by_cases k:f=3
 ·subst k
  obtain⟨ao,cap,rfl⟩:=i.shape;by_cases D:l.length=64
  ·have d:Hid (Yy ⟨kind,l,c,g⟩ ⟨3,a,b⟩=(⟨kind,l,c,g⟩,-1)):=by
    unfold Yy;rw[if_pos rfl,if_pos D];exact rfl
   rw[d.o];have N:((l.length:Int) == 64)=true:=beq_iff_eq.2 (by omega)
   clear D d i t A m
   go_enter func126,ntmps126
   go_wp2;go_ret2;exact⟨_,rfl,z.o.alloc _,y.o _⟩
  ·have d:Hid (Yy ⟨kind,l,c,g⟩ ⟨3,a,b⟩=(⟨kind,l++[Zz a],c,g⟩,(l.length:Int)+1)):=by
    unfold Yy;rw[if_pos rfl,if_neg D];exact rfl
   rw[d.o];have N:((l.length:Int) == 64)=false:=beq_eq_false_iff_ne.2 (by omega)
   obtain⟨L',C⟩:∃ L',L'=l++[Zz a]:=⟨_,rfl⟩;rw[<-C];have P:=Qc C;have K:Hid ((L'.length:Int)=(l.length:Int)+1):=by rw[C,length_append];exact rfl
   clear D d i t m C
   go_enter func126,ntmps126
   go_wp2_with(first | (go_at_call 173;refine(I.o _ _).mono ?_;rintro e T ⟨rfl,rfl⟩) | (at_builtin;refine Zei _ rfl _ _ rfl B _ l rfl (z.o.alloc _) _ _ rfl (by simp[Act.eval]) (by omega) (by simp;omega) ?_))
   intro M R j H G;have u:=Mv.app H (by simp) G
   clear H G;rw[<-P.o] at j;have F:=Qc j;obtain⟨W,S,rfl⟩:=j.shape;have E:=Qc ((y.o _).trans u);clear j u;go_wp2;go_ret2;exact⟨_,Yu K.o,F.o,E.o⟩
 ·have Q:(f == 3)=false:=beq_eq_false_iff_ne.2 k
  by_cases q:f=4
  ·subst q
   have O:Hid (∀ X,Calls prog 174 #[.int .i64 kind,v] (w.alloc X) fun e w'=>ZdN B (w.alloc X) v (Yy ⟨kind,l,c,g⟩ ⟨4,a,b⟩).1.L (Yy ⟨kind,l,c,g⟩ ⟨4,a,b⟩).2 e w'):=fun X=>Zxv kind m v l c g a b B (w.alloc X) (z.o.alloc X) t A
   generalize (Yy ⟨kind,l,c,g⟩ ⟨4,a,b⟩).1.L=L' at *;generalize (Yy ⟨kind,l,c,g⟩ ⟨4,a,b⟩).2=n at *;clear i t A m k Q
   go_enter func126,ntmps126
   go_wp2_with fail
   refine(O.o _).mono ?_;rintro e R ⟨M,rfl,j,u⟩;have F:=Qc j;have E:=Qc ((y.o _).trans u);clear j u;go_wp2;go_ret2;exact⟨_,rfl,F.o,E.o⟩
  ·have V:(f == 4)=false:=beq_eq_false_iff_ne.2 q
   obtain⟨ao,cap,rfl⟩:=i.shape;by_cases p:f=7
   ·have J:(f == 7)=true:=beq_iff_eq.2 p
    have d:Hid (Yy ⟨kind,l,c,g⟩ ⟨f,a,b⟩=(⟨kind,l,c,g⟩,(l.length:Int))):=by
     unfold Yy;rw[if_neg k,if_neg q,if_pos p];exact rfl
    rw[d.o];clear i t A m k q p d
    go_enter func126,ntmps126
    go_wp2;go_ret2;exact⟨_,rfl,z.o.alloc _,y.o _⟩
   ·have J:(f == 7)=false:=beq_eq_false_iff_ne.2 p
    have d:Hid (Yy ⟨kind,l,c,g⟩ ⟨f,a,b⟩=(⟨kind,l,c,g⟩,0)):=by
     unfold Yy;rw[if_neg k,if_neg q,if_neg p];exact rfl
    rw[d.o];clear i t A m k q p d
    go_enter func126,ntmps126
    go_wp2;go_ret2;exact⟨_,rfl,z.o.alloc _,y.o _⟩
theorem Qo.drew (h:Qo w B v l):Qo w.drew B v l:=h
theorem Zbr (key:Int) (l:List Int):Z8 key 0 l<0↔Y6 key l=false:=by
 rw[Zeg];unfold Y6
 cases Xx key l <;> simp
theorem ZtN (h:Y6 key l=true):ZqC key l=(Xx key l).getD 0:=by
 rw[ZnK];unfold Y6 at h
 cases hg:Xx key l with
 | none=>rw[hg] at h;simp at h
 | some x=>rfl
theorem ZkS (h:Y6 key l=false):ZqC key l=-1:=by
 rw[ZnK];unfold Y6 at h
 cases hg:Xx key l with
 | none=>rfl
 | some x=>rw[hg] at h;simp at h
theorem Zrt (v:Value) (l:List Int) (o:Opn) (Y:Bool) (g:Int) (B:Nat) (w:World) (ho:Qo w B v l) (hB:B<=w.heap.size) (S:Qr (-1099511627776) (-1) l) (ai:l.length<=128):
 Calls prog 127 #[v,opV o] w fun e w'=>ZdN B w v (Ze ⟨4,l,Y,g⟩ o).1.L (Ze ⟨4,l,Y,g⟩ o).2 e w':=by
 obtain⟨c,a,b⟩:=o;have hi:=Zay (by decide) (by decide) S
 have HO:=Qc ho;have ac:Hid (∀ X,Mv w (w.alloc X) v v):=fun X=>Mv.alloc w v X
 have HC:=Qc (fun n w=>Zex n w)
 have HW:=Qc (fun p q W=>Jx p q W)
 have HS:=Qc (fun n l2 f a2 b2 W Q p2=>Zdq n l2 f a2 b2 W Q p2)
 have aa:Hid (∀ W,Qo W B v l->Calls prog 175 #[v,.int .i64 a] W fun e w'=>e=.returned (.tuple #[.int .i64 ((Xx a l).getD 0),.bool (Y6 a l)])∧Below W.heap.size W w'):=fun W h=>ZgF v l a _ _ W (h.rd hi) S (by omega)
 have ae:Hid (∀ n W,Qo W B v l->B<=W.heap.size->Calls prog 178 #[v,.int .i64 a,.int .i64 n] W fun e w'=>∃ v',e=.returned v'∧Qo w' B v' (Q5 a n false l)∧Mv W w' v v'):=fun n W i f=>ZgG v l a n _ _ B W i f hi S (by omega)
 have af:Hid (∀ W,Qo W B v l->B<=W.heap.size->Calls prog 176 #[v,.int .i64 a] W fun e w'=>∃ v',e=.returned v'∧Qo w' B v' (X9 a l)∧Mv W w' v v'):=fun W i _=>ZvW v l a _ _ B W i hi S (by omega)
 obtain⟨ao,cap,rfl⟩:=ho.shape;have ag:Hid (∀ W,Calls prog 177 #[.slice ao l.length cap] W fun e w'=>e=.returned (.bool (decide (l.length=128)))∧w'=W):=fun W=>ZkR ao l.length cap W
 obtain⟨L',n',hE⟩:∃ L' n',Ze ⟨4,l,Y,g⟩ ⟨c,a,b⟩=(⟨4,L',Y,g⟩,n'):=by
  unfold Ze
  repeat' split
  all_goals exact⟨_,_,rfl⟩
 rw[hE];have E:=Qc hE;clear hE ho S hi;show Calls prog _ #[_,.agg #[.int .i64 c,.int .i64 a,.int .i64 b]] w fun e w'=>ZdN B w (.slice ao l.length cap) L' n' e w'
 by_cases hk:0<=a∧a<=255
 ·have Z:=Qc (decide_eq_true hk)
  have H:Hid (¬ (a<0∨255<a)):=by
   show ¬ (a<0∨255<a);omega
  clear hk
  cases hh:Y6 a l
  ·have ab:=Qc ((Zbr a l).2 hh)
   have O:=Qc (ZkS hh);rw[hh] at aa;clear hh;generalize (Xx a l).getD 0=y at *
   go_enter func127,ntmps127
   go_wp2_with fail
   refine(HW.o _ _ _).mono ?_;rintro e U ⟨a1,b1,rfl,K,J,k⟩;have j:=(k.block w.heap.size (by simp)).trans (heap_alloc_new w _)
   have Q:=cell_of_row U w.heap.size 1 _ _ _ j;have I:=Qc j;have N:=Qc ((ac.o _).trans (Mv.ofBelow k _));have F:=Qc ((HO.o.alloc _).below k zL);clear k j
   go_wp2_with fail
   refine(HS.o _ _ _ _ _ _ K J).mono ?_;rintro e u ⟨rfl,rfl⟩;rw[Z.o];clear K J
   go_wp2_with fail
   refine(aa.o _ F.o).mono ?_;rintro e u ⟨rfl,G⟩;have j:=(G.block w.heap.size (Array.getElem?_eq_some_iff.1 I.o).1).trans I.o;have p0:=cell_of_row u w.heap.size 0 _ _ _ j;have q1:=cell_of_row u w.heap.size 1 _ _ _ j;have q2:=cell_of_row u w.heap.size 2 _ _ _ j;have z:=Qc (N.o.trans (Mv.ofBelow G _));have D:=Qc (F.o.below G zL);have T:B<=u.heap.size:=Nat.le_trans hB z.o.size;clear G j I N F Q;by_cases m:c=7
   ·have d:Hid (L'=l∧n'=-1):=by
     have h:=E.o;unfold Ze at h;rw[if_neg H.o,if_neg (show ¬ (c≠7∧c≠6∧c≠5) by omega),if_neg (show ¬ c=6 by omega),if_neg (show ¬ c=5 by omega),O.o] at h
     injection h with i f
     injection i with _ h3
     exact⟨h3.symm,f.symm⟩
    have e7:(c == 7)=true:=beq_iff_eq.2 m;clear m;go_wp2;go_ret2;exact⟨_,Yu d.o.2.symm,by rw[d.o.1];exact D.o,z.o⟩
   ·have e7:(c == 7)=false:=beq_eq_false_iff_ne.2 m
    by_cases x:c=6
    ·have d:Hid (L'=X9 a l∧n'=-1):=by
      have h:=E.o;unfold Ze at h;rw[if_neg H.o,if_neg (show ¬ (c≠7∧c≠6∧c≠5) by omega),if_pos (show c=6 by omega),O.o] at h
      injection h with i f
      injection i with _ h3
      exact⟨h3.symm,f.symm⟩
     have e6:(c == 6)=true:=beq_iff_eq.2 x;clear x m
     go_wp2_with fail
     refine(af.o _ D.o T).mono ?_;rintro e V ⟨v3,rfl,C,A⟩;have M:=Qc (z.o.trans A);have P:=Qc C;clear C A;go_wp2;go_ret2;exact⟨_,Yu d.o.2.symm,by rw[d.o.1];exact P.o,M.o⟩
    ·have e6:(c == 6)=false:=beq_eq_false_iff_ne.2 x
     by_cases t:c=5
     ·have e5:(c == 5)=true:=beq_iff_eq.2 t
      by_cases R:l.length=128
      ·have d:Hid (L'=l∧n'=-2):=by
        have h:=E.o;unfold Ze at h;rw[if_neg H.o,if_neg (show ¬ (c≠7∧c≠6∧c≠5) by omega),if_neg (show ¬ c=6 by omega),if_pos t,if_pos ⟨ab.o,R⟩] at h
        injection h with i f
        injection i with _ h3
        exact⟨h3.symm,f.symm⟩
       have ad:=Qc (decide_eq_true R);clear t x m R
       go_wp2_with fail
       refine(ag.o _).mono ?_;rintro e V ⟨rfl,rfl⟩;rw[ad.o];go_wp2;go_ret2;exact⟨_,Yu d.o.2.symm,by rw[d.o.1];exact D.o,z.o⟩
      ·have d:Hid (L'=Q5 a (Zz b) false l∧n'=-1):=by
        have h:=E.o;unfold Ze at h;rw[if_neg H.o,if_neg (show ¬ (c≠7∧c≠6∧c≠5) by omega),if_neg (show ¬ c=6 by omega),if_pos t,if_neg (fun h=>R h.2),O.o] at h
        injection h with i f
        injection i with _ h3
        exact⟨h3.symm,f.symm⟩
       have ad:=Qc (decide_eq_false R);clear R;clear t x m
       go_wp2_with fail
       refine(ag.o _).mono ?_;rintro e V ⟨rfl,rfl⟩;rw[ad.o];go_wp2
       go_region_with
        (first
         | (go_at_call 173;refine(HC.o _ _).mono ?_;rintro e w3 ⟨rfl,rfl⟩)
         | (go_at_call 178;refine(ae.o _ _ D.o.drew T).mono ?_;rintro e V ⟨v3,rfl,C,A⟩;have M:=Qc (z.o.drew.trans A);have P:=Qc C;clear C A))
       all_goals
        go_wp2;go_ret2;exact⟨_,Yu d.o.2.symm,by rw[d.o.1];exact P.o,M.o⟩
     ·have e5:(c == 5)=false:=beq_eq_false_iff_ne.2 t
      have d:Hid (L'=l∧n'=0):=by
       have h:=E.o;unfold Ze at h;rw[if_neg H.o,if_pos (show(c≠7∧c≠6∧c≠5) by omega)] at h
       injection h with i f
       injection i with _ h3
       exact⟨h3.symm,f.symm⟩
      clear t x m;go_wp2;go_ret2;exact⟨_,Yu d.o.2.symm,by rw[d.o.1];exact D.o,z.o⟩
  ·have ab:Hid (¬ Z8 a 0 l<0):=fun h=>by rw[(Zbr a l).1 h] at hh;cases hh
   have O:=Qc (ZtN hh);rw[hh] at aa;clear hh;generalize (Xx a l).getD 0=y at *
   go_enter func127,ntmps127
   go_wp2_with fail
   refine(HW.o _ _ _).mono ?_;rintro e U ⟨a1,b1,rfl,K,J,k⟩;have j:=(k.block w.heap.size (by simp)).trans (heap_alloc_new w _)
   have Q:=cell_of_row U w.heap.size 1 _ _ _ j;have I:=Qc j;have N:=Qc ((ac.o _).trans (Mv.ofBelow k _));have F:=Qc ((HO.o.alloc _).below k zL);clear k j
   go_wp2_with fail
   refine(HS.o _ _ _ _ _ _ K J).mono ?_;rintro e u ⟨rfl,rfl⟩;rw[Z.o];clear K J
   go_wp2_with fail
   refine(aa.o _ F.o).mono ?_;rintro e u ⟨rfl,G⟩;have j:=(G.block w.heap.size (Array.getElem?_eq_some_iff.1 I.o).1).trans I.o;have p0:=cell_of_row u w.heap.size 0 _ _ _ j;have q1:=cell_of_row u w.heap.size 1 _ _ _ j;have q2:=cell_of_row u w.heap.size 2 _ _ _ j;have z:=Qc (N.o.trans (Mv.ofBelow G _));have D:=Qc (F.o.below G zL);have T:B<=u.heap.size:=Nat.le_trans hB z.o.size;clear G j I N F Q;by_cases m:c=7
   ·have d:Hid (L'=l∧n'=y):=by
     have h:=E.o;unfold Ze at h;rw[if_neg H.o,if_neg (show ¬ (c≠7∧c≠6∧c≠5) by omega),if_neg (show ¬ c=6 by omega),if_neg (show ¬ c=5 by omega),O.o] at h
     injection h with i f
     injection i with _ h3
     exact⟨h3.symm,f.symm⟩
    have e7:(c == 7)=true:=beq_iff_eq.2 m;clear m;go_wp2;go_ret2;exact⟨_,Yu d.o.2.symm,by rw[d.o.1];exact D.o,z.o⟩
   ·have e7:(c == 7)=false:=beq_eq_false_iff_ne.2 m
    by_cases x:c=6
    ·have d:Hid (L'=X9 a l∧n'=y):=by
      have h:=E.o;unfold Ze at h;rw[if_neg H.o,if_neg (show ¬ (c≠7∧c≠6∧c≠5) by omega),if_pos (show c=6 by omega),O.o] at h
      injection h with i f
      injection i with _ h3
      exact⟨h3.symm,f.symm⟩
     have e6:(c == 6)=true:=beq_iff_eq.2 x;clear x m
     go_wp2_with fail
     refine(af.o _ D.o T).mono ?_;rintro e V ⟨v3,rfl,C,A⟩;have M:=Qc (z.o.trans A);have P:=Qc C;clear C A;go_wp2;go_ret2;exact⟨_,Yu d.o.2.symm,by rw[d.o.1];exact P.o,M.o⟩
    ·have e6:(c == 6)=false:=beq_eq_false_iff_ne.2 x
     by_cases t:c=5
     ·have e5:(c == 5)=true:=beq_iff_eq.2 t
      have d:Hid (L'=Q5 a (Zz b) false l∧n'=y):=by
       have h:=E.o;unfold Ze at h;rw[if_neg H.o,if_neg (show ¬ (c≠7∧c≠6∧c≠5) by omega),if_neg (show ¬ c=6 by omega),if_pos t,if_neg (fun h=>absurd (show Z8 a 0 l<0 from h.1) (by have:=ab.o;omega)),O.o] at h
       injection h with i f
       injection i with _ h3
       exact⟨h3.symm,f.symm⟩
      clear t x m;go_wp2
      go_region_with
       (first
        | (go_at_call 173;refine(HC.o _ _).mono ?_;rintro e w3 ⟨rfl,rfl⟩)
        | (go_at_call 178;refine(ae.o _ _ D.o.drew T).mono ?_;rintro e V ⟨v3,rfl,C,A⟩;have M:=Qc (z.o.drew.trans A);have P:=Qc C;clear C A))
      all_goals
       go_wp2;go_ret2;exact⟨_,Yu d.o.2.symm,by rw[d.o.1];exact P.o,M.o⟩
     ·have e5:(c == 5)=false:=beq_eq_false_iff_ne.2 t
      have d:Hid (L'=l∧n'=0):=by
       have h:=E.o;unfold Ze at h;rw[if_neg H.o,if_pos (show(c≠7∧c≠6∧c≠5) by omega)] at h
       injection h with i f
       injection i with _ h3
       exact⟨h3.symm,f.symm⟩
      clear t x m;go_wp2;go_ret2;exact⟨_,Yu d.o.2.symm,by rw[d.o.1];exact D.o,z.o⟩
 ·have Z:=Qc (decide_eq_false hk)
  have d:Hid (L'=l∧n'=-1):=by
   have h:=E.o;unfold Ze at h;rw[if_pos (show a<0∨255<a by omega)] at h
   injection h with i f
   injection i with _ h3
   exact⟨h3.symm,f.symm⟩
  clear hk
  go_enter func127,ntmps127
  go_wp2_with fail
  refine(HW.o _ _ _).mono ?_;rintro e U ⟨a1,b1,rfl,K,J,k⟩;have j:=(k.block w.heap.size (by simp)).trans (heap_alloc_new w _)
  have Q:=cell_of_row U w.heap.size 1 _ _ _ j;have I:=Qc j;have N:=Qc ((ac.o _).trans (Mv.ofBelow k _));have F:=Qc ((HO.o.alloc _).below k zL);clear k j
  go_wp2_with fail
  refine(HS.o _ _ _ _ _ _ K J).mono ?_;rintro e u ⟨rfl,rfl⟩;rw[Z.o];clear K J;go_wp2;go_ret2;exact⟨_,Yu d.o.2.symm,by rw[d.o.1];exact F.o,N.o⟩
theorem Zos (v:Value) (l:List Int) (a b:Int) (j:Bool) (g:Int) (B:Nat) (w:World) (T:Qo w B v l) (hB:B<=w.heap.size) (C:Qr 0 (-1) l) (af:l.length<=128):
 Calls prog 179 #[v,.int .i64 a,.int .i64 b] w fun e w'=>ZdN B w v (Xv ⟨5,l,j,g⟩ ⟨8,a,b⟩).1.L (Xv ⟨5,l,j,g⟩ ⟨8,a,b⟩).2 e w':=by
 have R:=Zay (by decide) (by decide) C
 have S:=Qc T;have Z:=Qc (fun n w=>Zex n w)
 have V:=Qc (fun p q W=>Jx p q W)
 have K:=Qc (fun n l2 d a2 b2 W p1 p2=>Zdq n l2 d a2 b2 W p1 p2)
 have ad:Hid (∀ W,Qo W B v l->Calls prog 175 #[v,.int .i64 a] W fun e w'=>e=.returned (.tuple #[.int .i64 (Yh a l),.bool (Y6 a l)])∧Below W.heap.size W w'):=fun W h=>by
  rw[ZgU];exact ZgF v l a _ _ W (h.rd R) C (by omega)
 have aa:Hid (∀ n W,Qo W B v l->B<=W.heap.size->Calls prog 178 #[v,.int .i64 a,.int .i64 n] W fun e w'=>∃ v',e=.returned v'∧Qo w' B v' (Q5 a n false l)∧Mv W w' v v'):=fun n W i d=>ZgG v l a n _ _ B W i d R C (by omega)
 have ag:=ZaP C a;obtain⟨ao,cap,rfl⟩:=T.shape;have ac:Hid (∀ W,Calls prog 177 #[.slice ao l.length cap] W fun e w'=>e=.returned (.bool (decide (l.length=128)))∧w'=W):=fun W=>ZkR ao l.length cap W
 obtain⟨L',n',Q⟩:∃ L' n',Xv ⟨5,l,j,g⟩ ⟨8,a,b⟩=(⟨5,L',j,g⟩,n'):=by
  unfold Xv;rw[if_neg (by simp),if_neg (by simp)]
  repeat' split
  all_goals exact⟨_,_,rfl⟩
 rw[Q];have X:=Qc Q
 have E:Hid ((if a<0∨255<a then((⟨5,l,j,g⟩:St),(-1:Int)) else if b<0 then(⟨5,l,j,g⟩,-1) else if Z8 a 0 l<0∧l.length=128 then(⟨5,l,j,g⟩,-2) else(⟨5,Q5 a (Zz (Yh a l+Zz b)) false l,j,g⟩,Zz (Yh a l+Zz b)))=(⟨5,L',j,g⟩,n')):=by
  refine Qc ?_;have h:=X.o;unfold Xv at h;rw[if_neg (by simp),if_neg (by simp)] at h
  simpa using h
 clear Q T C R X;show Calls prog _ _ w fun e w'=>ZdN B w (.slice ao l.length cap) L' n' e w'
 have ae:=ZbU b;by_cases D:0<=a∧a<=255
 ·have G:=Qc (decide_eq_true D)
  have U:Hid (¬ (a<0∨255<a)):=by
   show ¬ (a<0∨255<a);omega
  clear D;by_cases hb:b<0
  ·have c:Hid (L'=l∧n'=-1):=by
    have h:=E.o;rw[if_neg U.o,if_pos hb] at h
    injection h with i d
    injection i with _ h3
    exact⟨h3.symm,d.symm⟩
   go_enter func179,ntmps179
   go_wp2_with fail
   refine(V.o _ _ _).mono ?_;rintro e W1 ⟨Y,b1,rfl,u,x,f⟩;have t:=Qc (Mv.ofBelow f (.slice ao l.length cap));have m:=Qc (S.o.below f zL);clear f
   go_wp2_with fail
   refine(K.o _ _ _ _ _ _ u x).mono ?_;rintro e F ⟨rfl,rfl⟩;rw[G.o];go_wp2;go_ret2;exact⟨_,Yu c.o.2.symm,by rw[c.o.1];exact m.o,t.o⟩
  ·go_enter func179,ntmps179
   go_wp2_with fail
   refine(V.o _ _ _).mono ?_;rintro e W1 ⟨Y,b1,rfl,u,x,f⟩;have t:=Qc (Mv.ofBelow f (.slice ao l.length cap));have m:=Qc (S.o.below f zL);clear f
   go_wp2_with fail
   refine(K.o _ _ _ _ _ _ u x).mono ?_;rintro e F ⟨rfl,rfl⟩;rw[G.o];clear u x
   go_wp2_with fail
   refine(ad.o _ m.o).mono ?_;rintro e F ⟨rfl,O⟩;have H:=Qc (t.o.trans (Mv.ofBelow O _));have P:=Qc (m.o.below O zL);have ab:B<=F.heap.size:=Nat.le_trans hB H.o.size;clear O t m;by_cases k:Y6 a l=false∧l.length=128
   ·have c:Hid (L'=l∧n'=-2):=by
     have h:=E.o;rw[if_neg U.o,if_neg (show ¬ b<0 by omega),if_pos ⟨(Zbr a l).2 k.1,k.2⟩] at h
     injection h with i d
     injection i with _ h3
     exact⟨h3.symm,d.symm⟩
    have N:=Qc (decide_eq_true k.2);rw[k.1];clear k
    go_wp2_with fail
    refine(ac.o _).mono ?_;rintro e J ⟨rfl,rfl⟩;rw[N.o];go_wp2;go_ret2;exact⟨_,Yu c.o.2.symm,by rw[c.o.1];exact P.o,H.o⟩
   ·have c:Hid (L'=Q5 a (Zz (Yh a l+Zz b)) false l∧n'=Zz (Yh a l+Zz b)):=by
     have h:=E.o;rw[if_neg U.o,if_neg (show ¬ b<0 by omega),if_neg (fun h=>k ⟨(Zbr a l).1 h.1,h.2⟩)] at h
     injection h with i d
     injection i with _ h3
     exact⟨h3.symm,d.symm⟩
    generalize Yh a l=y at *
    cases hh:Y6 a l
    ·have N:=Qc (decide_eq_false (fun h=>k ⟨hh,h⟩))
     clear k hh
     go_wp2_with fail
     refine(ac.o _).mono ?_;rintro e J ⟨rfl,rfl⟩;rw[N.o]
     go_wp2_with(first | (go_at_call 173;refine(Z.o _ _).mono ?_;rintro e w3 ⟨rfl,rfl⟩) | (go_at_call 178;refine(aa.o _ _ P.o ab).mono ?_;rintro e J ⟨v3,rfl,z,A⟩;have M:=Qc (H.o.trans A);have I:=Qc z;clear z A))
     go_ret2;exact⟨_,Yu c.o.2.symm,by rw[c.o.1];exact I.o,M.o⟩
    ·clear k hh
     go_wp2_with(first | (go_at_call 173;refine(Z.o _ _).mono ?_;rintro e w3 ⟨rfl,rfl⟩) | (go_at_call 178;refine(aa.o _ _ P.o ab).mono ?_;rintro e J ⟨v3,rfl,z,A⟩;have M:=Qc (H.o.trans A);have I:=Qc z;clear z A))
     go_ret2;exact⟨_,Yu c.o.2.symm,by rw[c.o.1];exact I.o,M.o⟩
 ·have G:=Qc (decide_eq_false D)
  have c:Hid (L'=l∧n'=-1):=by
   have h:=E.o;rw[if_pos (show a<0∨255<a by omega)] at h
   injection h with i d
   injection i with _ h3
   exact⟨h3.symm,d.symm⟩
  clear D
  go_enter func179,ntmps179
  go_wp2_with fail
  refine(V.o _ _ _).mono ?_;rintro e W1 ⟨Y,b1,rfl,u,x,f⟩;have t:=Qc (Mv.ofBelow f (.slice ao l.length cap));have m:=Qc (S.o.below f zL);clear f
  go_wp2_with fail
  refine(K.o _ _ _ _ _ _ u x).mono ?_;rintro e F ⟨rfl,rfl⟩;rw[G.o];go_wp2;go_ret2;exact⟨_,Yu c.o.2.symm,by rw[c.o.1];exact m.o,t.o⟩
theorem ZvY (v:Value) (l:List Int) (am a b:Int) (m:Bool) (g:Int) (B:Nat) (w:World) (ho:Qo w B v l) (hB:B<=w.heap.size) (V:Qr 0 (-1) l) (aI:l.length<=128):
 Calls prog 180 #[v,.int .i64 a,.int .i64 b] w fun e w'=>ZdN B w v (Zbe ⟨5,l,m,g⟩ ⟨am,a,b⟩).1.L (Zbe ⟨5,l,m,g⟩ ⟨am,a,b⟩).2 e w':=by
 have hi:=Zay (by decide) (by decide) V
 have HO:=Qc ho;have HW:=Qc (fun p q W=>Jx p q W)
 have HS:=Qc (fun n l2 d a2 b2 W p1 p2=>Zdq n l2 d a2 b2 W p1 p2)
 have an:Hid (∀ k W,Qo W B v l->Calls prog 175 #[v,.int .i64 k] W fun e w'=>e=.returned (.tuple #[.int .i64 (Yh k l),.bool (Y6 k l)])∧Below W.heap.size W w'):=fun k W h=>by
  rw[ZgU];exact ZgF v l k _ _ W (h.rd hi) V (by omega)
 obtain⟨ao,cap,rfl⟩:=ho.shape;have al:Hid (∀ W,Calls prog 177 #[.slice ao l.length cap] W fun e w'=>e=.returned (.bool (decide (l.length=128)))∧w'=W):=fun W=>ZkR ao l.length cap W
 obtain⟨L',n',hE⟩:∃ L' n',Zbe ⟨5,l,m,g⟩ ⟨am,a,b⟩=(⟨5,L',m,g⟩,n'):=by
  unfold Zbe
  repeat' split
  all_goals exact⟨_,_,rfl⟩
 rw[hE];have HE:=Qc hE;have U:=Qc V;have HI:=Qc hi;clear hE ho V hi;show Calls prog _ _ w fun e w'=>ZdN B w (.slice ao l.length cap) L' n' e w'
 by_cases Z:0<=a∧a<=65535
 ·have Y:=Qc (decide_eq_true Z)
  obtain⟨au,aK⟩:=Z;by_cases hb:b<0
  ·have c:Hid (L'=l∧n'=0):=by
    have h:=HE.o;unfold Zbe at h;rw[if_pos (.inr (.inr hb))] at h
    injection h with f d
    injection f with _ h3
    exact⟨h3.symm,d.symm⟩
   go_enter func180,ntmps180
   go_wp2_with fail
   refine(HW.o _ _ _).mono ?_;rintro e W1 ⟨a1,b1,rfl,I,E,j⟩;have H:=Qc (Mv.ofBelow j (.slice ao l.length cap));have u:=Qc (HO.o.below j zL);clear j
   go_wp2_with fail
   refine(HS.o _ _ _ _ _ _ I E).mono ?_;rintro e X ⟨rfl,rfl⟩;rw[Y.o];go_wp2;go_ret2;exact⟨_,Yu c.o.2.symm,by rw[c.o.1];exact u.o,H.o⟩
  ·have aL:0<=b:=by omega
   have t:Hid ((if Z8 (a / 256) 0 l<0∨Yh (a / 256) l<b then((⟨5,l,m,g⟩:St),(0:Int)) else if a / 256=a % 256 then(⟨5,l,m,g⟩,1) else if(Z8 (a % 256) 0 l<0∧l.length=128)∨1099511627776<Yh (a % 256) l+b then(⟨5,l,m,g⟩,0) else(⟨5,Q5 (a % 256) (Yh (a % 256) l+b) false (Q5 (a / 256) (Yh (a / 256) l-b) false l),m,g⟩,1))=(⟨5,L',m,g⟩,n')):=by
    have h:=HE.o;unfold Zbe at h;rw[if_neg (by simp;omega)] at h
    exact h
   clear HE hb;have ay:Hid (a.tdiv 256=a / 256):=Int.tdiv_eq_ediv_of_nonneg au;have aq:Hid (a.tmod 256=a % 256):=Int.tmod_eq_emod_of_nonneg au;have aB:0<=a / 256:=by omega
   have ap:a / 256<=255:=by omega
   have aE:0<=a % 256:=by omega
   have aF:a % 256<=255:=by omega
   have aA:=ZaP U.o (a / 256);have aC:=ZaP U.o (a % 256);obtain⟨F,hF⟩:∃ F,F=a / 256:=⟨_,rfl⟩;obtain⟨T,hT⟩:∃ T,T=a % 256:=⟨_,rfl⟩;rw[<-hF] at ay t aB ap aA;rw[<-hT] at aq t aE aF aC;clear hF hT;have aJ:=ay.o;have aH:=aq.o
   go_enter func180,ntmps180
   go_wp2_with fail
   refine(HW.o _ _ _).mono ?_;rintro e W1 ⟨a1,b1,rfl,I,E,j⟩;have H:=Qc (Mv.ofBelow j (.slice ao l.length cap));have u:=Qc (HO.o.below j zL);clear j
   go_wp2_with fail
   refine(HS.o _ _ _ _ _ _ I E).mono ?_;rintro e X ⟨rfl,rfl⟩;rw[Y.o];clear I E
   go_wp2_with fail
   refine(an.o _ _ u.o).mono ?_;rintro e X ⟨rfl,ad⟩;have G:=Qc (H.o.trans (Mv.ofBelow ad _));have J:=Qc (u.o.below ad zL);have aD:B<=X.heap.size:=Nat.le_trans hB G.o.size;clear ad H u
   cases hh:Y6 F l
   ·have c:Hid (L'=l∧n'=0):=by
     have h:=t.o;rw[if_pos (.inl ((Zbr F l).2 hh))] at h
     injection h with f d
     injection f with _ h3
     exact⟨h3.symm,d.symm⟩
    clear hh;go_wp2;go_ret2;exact⟨_,Yu c.o.2.symm,by rw[c.o.1];exact J.o,G.o⟩
   ·have C:Hid (¬ Z8 F 0 l<0):=fun h=>by rw[(Zbr F l).1 h] at hh;cases hh
    clear hh;by_cases ac:Yh F l<b
    ·have c:Hid (L'=l∧n'=0):=by
      have h:=t.o;rw[if_pos (.inr ac)] at h
      injection h with f d
      injection f with _ h3
      exact⟨h3.symm,d.symm⟩
     clear C;go_wp2;go_ret2;exact⟨_,Yu c.o.2.symm,by rw[c.o.1];exact J.o,G.o⟩
    ·by_cases A:F=T
     ·have hq:(F == T)=true:=beq_iff_eq.2 A
      have c:Hid (L'=l∧n'=1):=by
       have h:=t.o;rw[if_neg (fun h=>h.elim C.o ac),if_pos A] at h
       injection h with f d
       injection f with _ h3
       exact⟨h3.symm,d.symm⟩
      clear C A;go_wp2;go_ret2;exact⟨_,Yu c.o.2.symm,by rw[c.o.1];exact J.o,G.o⟩
     ·have hq:(F == T)=false:=beq_eq_false_iff_ne.2 A
      have ag:=Qc A;have ae:=Qc ac;clear A
      go_wp2_with fail
      refine(an.o _ _ J.o).mono ?_;rintro e W3 ⟨rfl,aa⟩;have D:=Qc (G.o.trans (Mv.ofBelow aa _));have P:=Qc (J.o.below aa zL);have ax:B<=W3.heap.size:=Nat.le_trans hB D.o.size;clear aa G J aD;by_cases i:Y6 T l=false∧l.length=128
      ·have Q:=Qc (decide_eq_true i.2)
       have c:Hid (L'=l∧n'=0):=by
        have h:=t.o;rw[if_neg (fun h=>by have:=C.o;have:=ae.o;omega),if_neg ag.o,if_pos (.inl ⟨(Zbr T l).2 i.1,i.2⟩)] at h
        injection h with f d
        injection f with _ h3
        exact⟨h3.symm,d.symm⟩
       rw[i.1];clear i
       go_wp2_with fail
       refine(al.o _).mono ?_;rintro e W4 ⟨rfl,rfl⟩;rw[Q.o];go_wp2;go_ret2;exact⟨_,Yu c.o.2.symm,by rw[c.o.1];exact P.o,D.o⟩
      ·by_cases aw:1099511627776<Yh T l+b
       ·have c:Hid (L'=l∧n'=0):=by
         have h:=t.o;rw[if_neg (fun h=>by have:=C.o;have:=ae.o;omega),if_neg ag.o,if_pos (.inr aw)] at h
         injection h with f d
         injection f with _ h3
         exact⟨h3.symm,d.symm⟩
        cases hh:Y6 T l
        ·have Q:=Qc (decide_eq_false (fun h=>i ⟨hh,h⟩))
         clear i hh
         go_wp2_with fail
         refine(al.o _).mono ?_;rintro e W4 ⟨rfl,rfl⟩;rw[Q.o];go_wp2;go_ret2;exact⟨_,Yu c.o.2.symm,by rw[c.o.1];exact P.o,D.o⟩
        ·clear i hh
         go_wp2;go_ret2;exact⟨_,Yu c.o.2.symm,by rw[c.o.1];exact P.o,D.o⟩
       ·have aG:=Qc aw
        have c:Hid (L'=Q5 T (Yh T l+b) false (Q5 F (Yh F l-b) false l)∧n'=1):=by
         have h:=t.o;rw[if_neg (fun h=>by have:=C.o;have:=ae.o;omega),if_neg ag.o,if_neg (fun h=>h.elim (fun x=>i ⟨(Zbr T l).1 x.1,x.2⟩) (fun x=>by have:=aG.o;omega))] at h
         injection h with f d
         injection f with _ h3
         exact⟨h3.symm,d.symm⟩
        have ab:Hid (Qr 0 (-1) (Q5 F (Yh F l-b) false l)):=ZaT F _ 0 (by omega) (by omega) ap l (-1) U.o (by omega)
        have az:Hid ((Q5 F (Yh F l-b) false l).length<=1000000):=by
         have:=ZfM F (Yh F l-b) l false;show(Q5 F (Yh F l-b) false l).length<=1000000;omega
        have av:Hid (∀ W,Qo W B (.slice ao l.length cap) l->B<=W.heap.size->Calls prog 178 #[.slice ao l.length cap,.int .i64 F,.int .i64 (Yh F l-b)] W fun e w'=>∃ v',e=.returned v'∧Qo w' B v' (Q5 F (Yh F l-b) false l)∧Mv W w' (.slice ao l.length cap) v'):=fun W f d=>ZgG _ l F _ _ _ B W f d HI.o U.o (by omega)
        have ar:Hid (∀ S W,Qo W B S (Q5 F (Yh F l-b) false l)->B<=W.heap.size->Calls prog 178 #[S,.int .i64 T,.int .i64 (Yh T l+b)] W fun e w'=>∃ v',e=.returned v'∧Qo w' B v' (Q5 T (Yh T l+b) false (Q5 F (Yh F l-b) false l))∧Mv W w' S v'):=fun S W f d=>ZgG S _ T _ _ _ B W f d (Zay (by decide) (by decide) ab.o) ab.o az.o
        generalize Q5 T (Yh T l+b) false (Q5 F (Yh F l-b) false l)=L2 at *;generalize Q5 F (Yh F l-b) false l=L1 at *;generalize Yh F l=y at *;generalize Yh T l=z at *;clear ab az t an
        cases hh:Y6 T l
        ·have Q:=Qc (decide_eq_false (fun h=>i ⟨hh,h⟩))
         clear i hh
         go_wp2_with fail
         refine(al.o _).mono ?_;rintro e W4 ⟨rfl,rfl⟩;rw[Q.o]
         go_wp2_with fail
         refine(av.o _ P.o ax).mono ?_;rintro e W5 ⟨v5,rfl,N,K⟩;have O:=Qc (D.o.trans K);have af:=Qc N;have aj:B<=W5.heap.size:=Nat.le_trans hB O.o.size;clear N K
         go_wp2_with fail
         refine(ar.o _ _ af.o aj).mono ?_;rintro e W6 ⟨v6,rfl,M,R⟩;have ai:=Qc (O.o.trans R);have ak:=Qc M;clear M R;go_wp2;go_ret2;exact⟨_,Yu c.o.2.symm,by rw[c.o.1];exact ak.o,ai.o⟩
        ·clear i hh
         go_wp2_with fail
         refine(av.o _ P.o ax).mono ?_;rintro e W5 ⟨v5,rfl,N,K⟩;have O:=Qc (D.o.trans K);have af:=Qc N;have aj:B<=W5.heap.size:=Nat.le_trans hB O.o.size;clear N K
         go_wp2_with fail
         refine(ar.o _ _ af.o aj).mono ?_;rintro e W6 ⟨v6,rfl,M,R⟩;have ai:=Qc (O.o.trans R);have ak:=Qc M;clear M R;go_wp2;go_ret2;exact⟨_,Yu c.o.2.symm,by rw[c.o.1];exact ak.o,ai.o⟩
 ·have Y:=Qc (decide_eq_false Z)
  have c:Hid (L'=l∧n'=0):=by
   have h:=HE.o;unfold Zbe at h;rw[if_pos (show a<0∨65535<a∨b<0 by omega)] at h
   injection h with f d
   injection f with _ h3
   exact⟨h3.symm,d.symm⟩
  clear Z
  go_enter func180,ntmps180
  go_wp2_with fail
  refine(HW.o _ _ _).mono ?_;rintro e W1 ⟨a1,b1,rfl,I,E,j⟩;have H:=Qc (Mv.ofBelow j (.slice ao l.length cap));have u:=Qc (HO.o.below j zL);clear j
  go_wp2_with fail
  refine(HS.o _ _ _ _ _ _ I E).mono ?_;rintro e X ⟨rfl,rfl⟩;rw[Y.o];go_wp2;go_ret2;exact⟨_,Yu c.o.2.symm,by rw[c.o.1];exact u.o,H.o⟩
theorem ZtO (a:Qr least (-1) l) (h:Y6 key l=true):0<=key∧key<=255:=by
 unfold Y6 at h
 cases hg:Xx key l with
 | none=>rw[hg] at h;simp at h
 | some x=>
  have:=Zkv a hg;omega
theorem Zot (v:Value) (l:List Int) (o:Opn) (c:Bool) (g:Int) (B:Nat) (w:World) (E:Qo w B v l) (O:B<=w.heap.size) (i:Qr 0 (-1) l) (J:l.length<=128):
 Calls prog 128 #[v,opV o] w fun e w'=>ZdN B w v (Xv ⟨5,l,c,g⟩ o).1.L (Xv ⟨5,l,c,g⟩ o).2 e w':=by
 obtain⟨d,a,b⟩:=o;have A:=Zay (by decide) (by decide) i
 have p:=Qc E;have C:Hid (∀ X,Mv w (w.alloc X) v v):=fun X=>Mv.alloc w v X
 show Calls prog _ #[_,.agg #[.int .i64 d,.int .i64 a,.int .i64 b]] w _;by_cases t:d=7
 ·subst t
  have F:Hid (∀ W,Qo W B v l->Calls prog 175 #[v,.int .i64 a] W fun e w'=>e=.returned (.tuple #[.int .i64 ((Xx a l).getD 0),.bool (Y6 a l)])∧Below W.heap.size W w'):=fun W h=>ZgF v l a _ _ W (h.rd A) i (by omega)
  have j:Hid (Xv ⟨5,l,c,g⟩ ⟨7,a,b⟩=(⟨5,l,c,g⟩,ZqC a l)):=by
   refine Qc ?_;unfold Xv;rw[if_neg (by simp),if_neg (by simp)]
   by_cases I:a<0∨255<a
   ·rw[if_pos I]
    have k:Y6 a l=false:=by
     cases h:Y6 a l
     ·rfl
     ·have:=ZtO i h
      omega
    rw[ZkS k]
   ·rw[if_neg I,if_pos rfl]
  rw[j.o];clear j E i A
  cases k:Y6 a l
  ·have D:=Qc (ZkS k)
   rw[D.o];rw[k] at F;clear D k;generalize (Xx a l).getD 0=y at *
   go_enter func128,ntmps128
   go_wp2_with fail
   refine(F.o _ (p.o.alloc _)).mono ?_;rintro e H ⟨rfl,f⟩;have m:=Qc ((C.o _).trans (Mv.ofBelow f _));have q:=Qc ((p.o.alloc _).below f zL);clear f;go_wp2;go_ret2;exact⟨_,rfl,q.o,m.o⟩
  ·have D:=Qc (ZtN k)
   rw[D.o];rw[k] at F;clear D k;generalize (Xx a l).getD 0=y at *
   go_enter func128,ntmps128
   go_wp2_with fail
   refine(F.o _ (p.o.alloc _)).mono ?_;rintro e H ⟨rfl,f⟩;have m:=Qc ((C.o _).trans (Mv.ofBelow f _));have q:=Qc ((p.o.alloc _).below f zL);clear f;go_wp2;go_ret2;exact⟨_,rfl,q.o,m.o⟩
 ·have K:(d == 7)=false:=beq_eq_false_iff_ne.2 t
  by_cases x:d=8
  ·subst x
   have G:Hid (∀ X,Calls prog 179 #[v,.int .i64 a,.int .i64 b] (w.alloc X) fun e w'=>ZdN B (w.alloc X) v (Xv ⟨5,l,c,g⟩ ⟨8,a,b⟩).1.L (Xv ⟨5,l,c,g⟩ ⟨8,a,b⟩).2 e w'):=fun X=>Zos v l a b c g B (w.alloc X) (p.o.alloc X) (by simp;omega) i J
   generalize (Xv ⟨5,l,c,g⟩ ⟨8,a,b⟩).1.L=L' at *;generalize (Xv ⟨5,l,c,g⟩ ⟨8,a,b⟩).2=n at *;clear E A i t K
   go_enter func128,ntmps128
   go_wp2_with fail
   refine(G.o _).mono ?_;rintro e H ⟨M,rfl,z,f⟩;have q:=Qc z;have m:=Qc ((C.o _).trans f);clear z f;go_wp2;go_ret2;exact⟨_,rfl,q.o,m.o⟩
  ·have P:(d == 8)=false:=beq_eq_false_iff_ne.2 x
   by_cases u:d=9
   ·have j:Hid (Xv ⟨5,l,c,g⟩ ⟨d,a,b⟩=Zbe ⟨5,l,c,g⟩ ⟨d,a,b⟩):=if_pos u
    rw[j.o];have N:(d == 9)=true:=beq_iff_eq.2 u;have G:Hid (∀ X,Calls prog 180 #[v,.int .i64 a,.int .i64 b] (w.alloc X) fun e w'=>ZdN B (w.alloc X) v (Zbe ⟨5,l,c,g⟩ ⟨d,a,b⟩).1.L (Zbe ⟨5,l,c,g⟩ ⟨d,a,b⟩).2 e w'):=fun X=>ZvY v l d a b c g B (w.alloc X) (p.o.alloc X) (by simp;omega) i J
    generalize (Zbe ⟨5,l,c,g⟩ ⟨d,a,b⟩).1.L=L' at *;generalize (Zbe ⟨5,l,c,g⟩ ⟨d,a,b⟩).2=n at *;clear E A i t x u j
    go_enter func128,ntmps128
    go_wp2_with fail
    refine(G.o _).mono ?_;rintro e H ⟨M,rfl,z,f⟩;have q:=Qc z;have m:=Qc ((C.o _).trans f);clear z f;go_wp2;go_ret2;exact⟨_,rfl,q.o,m.o⟩
   ·have N:(d == 9)=false:=beq_eq_false_iff_ne.2 u
    have j:Hid (Xv ⟨5,l,c,g⟩ ⟨d,a,b⟩=(⟨5,l,c,g⟩,0)):=by
     refine Qc ?_;unfold Xv;rw[if_neg u,if_pos ⟨t,x⟩]
    rw[j.o];clear E A i t x u j
    go_enter func128,ntmps128
    go_wp2;go_ret2;exact⟨_,rfl,p.o.alloc _,C.o _⟩
theorem ZvZ (kind:Int) (ao:Option Addr) (n cap:Nat) (S:Bool) (g a:Int) (w:World):
 Calls prog 123 #[.agg #[.int .i64 kind,.slice ao n cap,.bool S,.int .i64 g],.int .i64 a] w fun e w'=>e=.returned (.agg #[.int .i64 kind,.slice ao n cap,.bool true,.int .i64 (if 0<=a∧a<=2 then a else g)])∧Below w.heap.size w w':=by
 have G:=Qc (fun p q W=>Jx p q W)
 have F:=Qc (fun n U I P O W Q Y=>Zdq n U I P O W Q Y)
 have k:Hid (∀ x y,Below w.heap.size w ((w.alloc x).alloc y)):=fun x y=>((Below.refl _ _).alloc zL x).alloc (by simp) y
 by_cases f:0<=a∧a<=2
 ·rw[if_pos f]
  have B:=Qc (decide_eq_true f);clear f
  go_enter func123,ntmps123
  go_wp2_with fail
  refine(G.o _ _ _).mono ?_;rintro e d ⟨t,A,rfl,i,j,c⟩;have b:ZnM d w.heap.size _ _:=(ZnM.made w _ _).below c (by simp)
  have M:=(b.s 0).1;have H:=(b.s 1).1;have X:=(b.s 2).1;have N:=(b.s 3).1;have K:=(b.s 2).2;have L:=(b.s 3).2;have z:=(b.r 0).1;have E:=(b.r 1).1;have l:=(b.r 2).1;have u:=(b.r 3).1;have Z:=(b.r 0).2;have V:=(b.r 1).2;have J:=(b.r 2).2;have R:=(b.r 3).2;have m:=Qc ((k.o _ _).trans (c.mono (k.o _ _).size));have C:Hid (∀ x,(d.setCell ⟨w.heap.size,2,none⟩ x).cell? ⟨t,0,none⟩=some (.int .i64 0)):=fun x=>(World.cell?_setCell_other _ _ _ _ (by simp)).trans i
  have D:Hid (∀ x,(d.setCell ⟨w.heap.size,2,none⟩ x).cell? ⟨A,0,none⟩=some (.int .i64 2)):=fun x=>(World.cell?_setCell_other _ _ _ _ (by simp)).trans j
  clear c b i j
  go_wp2_with fail
  refine(F.o _ _ _ _ _ _ (C.o _) (D.o _)).mono ?_;rintro e T ⟨rfl,rfl⟩;rw[B.o];go_wp2;refine bodyPost_ret (v:=.agg #[.int .i64 kind,.slice ao n cap,.bool true,.int .i64 a]) (by simp[results,Tryz.results123,go_sem,z,E,l,u]) rfl ?_
  exact⟨rfl,((((((m.o.setCell zL _).setCell zL _).setCell (Nat.le_succ _) _).setCell (Nat.le_succ _) _).setCell (Nat.le_succ _) _).setCell (Nat.le_succ _) _)⟩
 ·rw[if_neg f]
  have B:=Qc (decide_eq_false f);clear f
  go_enter func123,ntmps123
  go_wp2_with fail
  refine(G.o _ _ _).mono ?_;rintro e d ⟨t,A,rfl,i,j,c⟩;have b:ZnM d w.heap.size _ _:=(ZnM.made w _ _).below c (by simp)
  have M:=(b.s 0).1;have H:=(b.s 1).1;have X:=(b.s 2).1;have N:=(b.s 3).1;have K:=(b.s 2).2;have L:=(b.s 3).2;have z:=(b.r 0).1;have E:=(b.r 1).1;have l:=(b.r 2).1;have u:=(b.r 3).1;have Z:=(b.r 0).2;have V:=(b.r 1).2;have J:=(b.r 2).2;have R:=(b.r 3).2;have m:=Qc ((k.o _ _).trans (c.mono (k.o _ _).size));have C:Hid (∀ x,(d.setCell ⟨w.heap.size,2,none⟩ x).cell? ⟨t,0,none⟩=some (.int .i64 0)):=fun x=>(World.cell?_setCell_other _ _ _ _ (by simp)).trans i
  have D:Hid (∀ x,(d.setCell ⟨w.heap.size,2,none⟩ x).cell? ⟨A,0,none⟩=some (.int .i64 2)):=fun x=>(World.cell?_setCell_other _ _ _ _ (by simp)).trans j
  clear c b i j
  go_wp2_with fail
  refine(F.o _ _ _ _ _ _ (C.o _) (D.o _)).mono ?_;rintro e T ⟨rfl,rfl⟩;rw[B.o];go_wp2;refine bodyPost_ret (v:=.agg #[.int .i64 kind,.slice ao n cap,.bool true,.int .i64 g]) (by simp[results,Tryz.results123,go_sem,z,E,l,u]) rfl ?_
  exact⟨rfl,(((((m.o.setCell zL _).setCell (Nat.le_succ _) _).setCell (Nat.le_succ _) _).setCell (Nat.le_succ _) _).setCell (Nat.le_succ _) _)⟩
theorem J2.mv {W a:World} {N:Nat} {s o r:Array Value} (h:J2 W N s o r) (i:∀ b,v.ownBlock=some b->b<N) (f:Mv W a v v'):J2 a N s o r:=by
 obtain⟨g,d,j⟩:=h
 have lt:∀ k x,W.heap[k]?=some x->N<=k->a.heap[k]?=some x:=fun k x c l=>by
  rw[f.grown.block k (Array.getElem?_eq_some_iff.1 c).1 (fun e=>by have:=i k e.symm;omega)]
  exact c
 exact⟨lt _ _ g (by omega),lt _ _ d (by omega),lt _ _ j (by omega)⟩
theorem ZkT {e f F:World} (n:Qo w B v l) (d:Below w.heap.size w e) (t:e.heap.size=w.heap.size+3) (a:Mv e f v v') (p:Qo f B v' L') (c:But w.heap.size (w.heap.size+1+1) f F):Qo F B v' L'∧Mv w F v v':=by
 have m:∀ b,v.ownBlock=some b->b<w.heap.size:=fun b h=>(World.ownsRow.lt n b h).2
 have g:∀ b,v'.ownBlock=some b->v.ownBlock=some b∨w.heap.size+3<=b:=fun b h=>by
  rcases a.lies b h with h' | h'
  ·exact .inl h'
  ·exact .inr (by omega)
 have q:=a.size;refine⟨p.but c (fun b h=>?_),⟨⟨c.os.trans (a.grown.os.trans d.os),c.tape.trans (a.grown.tape.trans d.tape),c.output.trans (a.grown.output.trans d.output),by have:=c.size;omega,fun k i j=>?_⟩,fun b h=>?_⟩⟩
 ·rcases g b h with h' | h'
  ·have:=m b h'
   omega
  ·omega
 ·rw[c.block k (by omega) (by omega) (by omega),a.grown.block k (by omega) j]
  exact d.block k i
 ·rcases g b h with h' | h'
  ·exact .inl h'
  ·exact .inr (by omega)
theorem Y8 (w:World) (x y z:Obj):Below w.heap.size w (((w.alloc x).alloc y).alloc z)∧(((w.alloc x).alloc y).alloc z).heap.size=w.heap.size+3:=
 ⟨(((Below.refl _ _).alloc zL x).alloc (by simp) y).alloc (by simp;omega) z,by simp⟩
theorem Qo.alloc3 (h:Qo w B v l) (x y z:Obj):Qo (((w.alloc x).alloc y).alloc z) B v l:=((h.alloc x).alloc y).alloc z
def Did (B:Nat) (w:World) (v:Value) (r:St × Int) (e:Ending) (w':World):Prop:=
 ∃ v',e=.returned (.tuple #[.agg #[.int .i64 r.1.kind,v',.bool r.1.shut,.int .i64 r.1.eng],.int .i64 r.2])∧Qo w' B v' r.1.L∧Mv w w' v v'
theorem Zou (kind g:Int) (l:List Int) (v:Value) (o:Opn) (B:Nat) (w:World) (c:Qo w B v l):
 Calls prog 83 #[.agg #[.int .i64 kind,v,.bool true,.int .i64 g],opV o] w fun e w'=>Did B w v (⟨kind,l,true,g⟩,-1125899906842624) e w':=by
 obtain⟨i,a,b⟩:=o;have f:=Qc c;obtain⟨ao,cap,rfl⟩:=c.shape;have d:Hid (∀ x y z,Mv w (((w.alloc x).alloc y).alloc z) (.slice ao l.length cap) (.slice ao l.length cap)):=fun x y z=>Mv.ofBelow (Y8 w x y z).1 _
 clear c;show Calls prog _ #[_,.agg #[.int .i64 i,.int .i64 a,.int .i64 b]] w _
 go_enter func83,ntmps83
 go_wp2;refine bodyPost_ret (v:=.tuple #[.agg #[.int .i64 kind,.slice ao l.length cap,.bool true,.int .i64 g],.int .i64 (-1125899906842624)]) (by simp[results,Tryz.results83,go_sem]) rfl ?_
 exact⟨_,rfl,f.o.alloc3 _ _ _,d.o _ _ _⟩
theorem Zov (kind g a b:Int) (l:List Int) (v:Value) (B:Nat) (w:World) (f:Qo w B v l):
 Calls prog 83 #[.agg #[.int .i64 kind,v,.bool false,.int .i64 g],.agg #[.int .i64 10,.int .i64 a,.int .i64 b]] w fun e w'=>Did B w v (⟨kind,l,true,if 0<=a∧a<=2 then a else g⟩,0) e w':=by
 have i:=Qc f;obtain⟨ao,cap,rfl⟩:=f.shape;have u:=Qc (fun W=>ZvZ kind ao l.length cap false g a W)
 generalize (if 0<=a∧a<=2 then a else g)=t at *
 clear f
 go_enter func83,ntmps83
 go_wp2_with fail
 refine(u.o _).mono ?_;rintro e C ⟨rfl,d⟩;have c:=(J2.made w _ _ _).below d (by simp)
 obtain⟨m,A⟩:=c.r 0;obtain⟨q,z⟩:=c.r 1;obtain⟨j,x⟩:=c.r 2;obtain⟨k,y⟩:=c.r 3;have p:=Qc (fun F n=>ZkT (F:=F) i.o (Y8 w _ _ _).1 (Y8 w _ _ _).2 (Mv.ofBelow d _) ((i.o.alloc3 _ _ _).below d zL) n)
 clear d c;go_wp2;refine bodyPost_ret (v:=.tuple #[.agg #[.int .i64 kind,.slice ao l.length cap,.bool true,.int .i64 t],.int .i64 0]) (by simp[results,Tryz.results83,go_sem,m,q,j,k]) rfl ?_
 exact⟨_,rfl,p.o _ ((But.refl _ _ _).four _ (.inr rfl) _ _ _ _)⟩
theorem Zru (kind g:Int) (D:kind=0∨kind=1) (l:List Int) (v:Value) (o:Opn) (G:o.code≠10) (B:Nat) (w:World) (m:Qo w B v l) (t:l.length=1) (M:-1099511627776<=l.getD 0 0) (I:l.getD 0 0<=1099511627776):
 Calls prog 83 #[.agg #[.int .i64 kind,v,.bool false,.int .i64 g],opV o] w fun e w'=>Did B w v (ZdX ⟨kind,l,false,g⟩ o) e w':=by
 have k:=Qc m;have E:=Zkw ⟨kind,l,false,g⟩ o
 obtain⟨L',n',j⟩:∃ L' n',ZdX ⟨kind,l,false,g⟩ o=(⟨kind,L',false,g⟩,n'):=by
  obtain⟨q,p,z⟩:=E;refine⟨(ZdX ⟨kind,l,false,g⟩ o).1.L,(ZdX ⟨kind,l,false,g⟩ o).2,?_⟩;rcases hr:ZdX ⟨kind,l,false,g⟩ o with ⟨⟨k1,l1,K,Z⟩,X⟩
  rw[hr] at q p z;simp only at q p z;rw[q,p,z]
 have i:Hid (∀ W,Qo W B v l->Calls prog (if kind=0 then 124 else 125) #[v,opV o] W fun e w'=>e=.returned (.int .i64 n')∧Qo w' B v L'∧Mv W w' v v):=fun W h=>by
  rcases D with rfl | rfl
  ·have:=Zor v l o false g B W h t M I
   rw[j] at this;exact this
  ·have:=Zmz v l o false g B W h t
   rw[j] at this;exact this
 rw[j];obtain⟨N,a,b⟩:=o;have Y:(N == 10)=false:=beq_eq_false_iff_ne.2 G;obtain⟨ao,cap,rfl⟩:=m.shape;have H:∀ b,(Value.slice ao l.length cap).ownBlock=some b->b<w.heap.size:=fun b h=>(World.ownsRow.lt m b h).2
 have J:=Qc H;clear m j E G t M I H;show Calls prog _ #[_,.agg #[.int .i64 N,.int .i64 a,.int .i64 b]] w _;rcases D with rfl | rfl
 ·rw[if_pos rfl] at i
  go_enter func83,ntmps83
  go_wp2_with fail
  refine(i.o _ (k.o.alloc3 _ _ _)).mono ?_;rintro e V ⟨rfl,f,d⟩;have c:=(J2.made w _ _ _).mv J.o d;obtain⟨Q,-⟩:=c.s 0;obtain⟨O,-⟩:=c.s 1;obtain⟨T,-⟩:=c.s 2;obtain⟨R,-⟩:=c.s 3;obtain⟨x,U⟩:=c.r 0;obtain⟨C,K⟩:=c.r 1;obtain⟨n,P⟩:=c.r 2;obtain⟨u,S⟩:=c.r 3;have A:=Qc (fun F y=>ZkT (F:=F) k.o (Y8 w _ _ _).1 (Y8 w _ _ _).2 d f y)
  clear c f d;go_wp2;refine bodyPost_ret (v:=.tuple #[.agg #[.int .i64 0,.slice ao l.length cap,.bool false,.int .i64 g],.int .i64 n']) (by simp[results,Tryz.results83,go_sem,x,C,n,u]) rfl ?_
  exact⟨_,rfl,A.o _ ((But.refl _ _ _).four _ (.inr rfl) _ _ _ _)⟩
 ·rw[if_neg (by decide)] at i
  go_enter func83,ntmps83
  go_wp2_with fail
  refine(i.o _ (k.o.alloc3 _ _ _)).mono ?_;rintro e V ⟨rfl,f,d⟩;have c:=(J2.made w _ _ _).mv J.o d;obtain⟨Q,-⟩:=c.s 0;obtain⟨O,-⟩:=c.s 1;obtain⟨T,-⟩:=c.s 2;obtain⟨R,-⟩:=c.s 3;obtain⟨x,U⟩:=c.r 0;obtain⟨C,K⟩:=c.r 1;obtain⟨n,P⟩:=c.r 2;obtain⟨u,S⟩:=c.r 3;have A:=Qc (fun F y=>ZkT (F:=F) k.o (Y8 w _ _ _).1 (Y8 w _ _ _).2 d f y)
  clear c f d;go_wp2;refine bodyPost_ret (v:=.tuple #[.agg #[.int .i64 1,.slice ao l.length cap,.bool false,.int .i64 g],.int .i64 n']) (by simp[results,Tryz.results83,go_sem,x,C,n,u]) rfl ?_
  exact⟨_,rfl,A.o _ ((But.refl _ _ _).four _ (.inr rfl) _ _ _ _)⟩
theorem Zqc {c:World} {kind g:Int} {ao b:Option Addr} {cap a:Nat} {xs d i:Array Value} (j:Qo w B (.slice ao l.length cap) l) (e:Qo c B (.slice b L'.length a) L') (f:Mv (((w.alloc (.cells xs 38)).alloc (.cells d 52)).alloc (.cells i 38)) c (.slice ao l.length cap) (.slice b L'.length a)):
 Qo (ZpI c w.heap.size (w.heap.size+1+1) (.slice b L'.length a) (.int .i64 kind) (.slice b L'.length a) (.bool false) (.int .i64 g)) B (.slice b L'.length a) L'∧Mv w (ZpI c w.heap.size (w.heap.size+1+1) (.slice b L'.length a) (.int .i64 kind) (.slice b L'.length a) (.bool false) (.int .i64 g)) (.slice ao l.length cap) (.slice b L'.length a):=
 ZkT j (Y8 w _ _ _).1 (Y8 w _ _ _).2 f e (((But.refl _ _ _).set _ _ (.inl rfl) _).four _ (.inr rfl) _ _ _ _)
theorem Zow (kind g:Int) (F:kind=2∨kind=3) (l L':List Int) (n':Int) (v:Value) (k a b:Int) (y:k≠10) (B:Nat) (w:World) (j:Qo w B v l)
 (z:Hid (∀ W,Qo W B v l->B<=W.heap.size->Calls prog 126 #[.int .i64 kind,v,.agg #[.int .i64 k,.int .i64 a,.int .i64 b]] W fun e w'=>ZdN B W v L' n' e w')) (Q:B<=w.heap.size):
 Calls prog 83 #[.agg #[.int .i64 kind,v,.bool false,.int .i64 g],.agg #[.int .i64 k,.int .i64 a,.int .i64 b]] w fun e w'=>Did B w v (⟨kind,L',false,g⟩,n') e w':=by
 have i:=Qc j;have P:(k == 10)=false:=beq_eq_false_iff_ne.2 y;obtain⟨ao,cap,rfl⟩:=j.shape;have A:∀ b,(Value.slice ao l.length cap).ownBlock=some b->b<w.heap.size:=fun b h=>(World.ownsRow.lt j b h).2
 have C:=Qc A;clear j y A;rcases F with rfl | rfl
 ·go_enter func83,ntmps83
  go_wp2_with fail
  refine(z.o _ (i.o.alloc3 _ _ _) (by simp;omega)).mono ?_
  rintro e O ⟨I,rfl,f,d⟩;obtain⟨u,n,rfl⟩:=f.shape;have c:=(J2.made w _ _ _).mv C.o d;obtain⟨G,-⟩:=c.s 0;obtain⟨D,L⟩:=c.s 1;obtain⟨M,-⟩:=c.s 2;obtain⟨H,-⟩:=c.s 3;obtain⟨q,N⟩:=c.r 0;obtain⟨x,K⟩:=c.r 1;obtain⟨m,E⟩:=c.r 2;obtain⟨p,J⟩:=c.r 3;have t:=Qc (fun kind=>Zqc (kind:=kind) (g:=g) i.o f d)
  clear c f d;go_wp2;refine bodyPost_ret (v:=.tuple #[.agg #[.int .i64 2,.slice u L'.length n,.bool false,.int .i64 g],.int .i64 n']) (by simp[results,Tryz.results83,go_sem,q,x,m,p]) rfl ?_
  exact⟨_,rfl,t.o _⟩
 ·go_enter func83,ntmps83
  go_wp2_with fail
  refine(z.o _ (i.o.alloc3 _ _ _) (by simp;omega)).mono ?_
  rintro e O ⟨I,rfl,f,d⟩;obtain⟨u,n,rfl⟩:=f.shape;have c:=(J2.made w _ _ _).mv C.o d;obtain⟨G,-⟩:=c.s 0;obtain⟨D,L⟩:=c.s 1;obtain⟨M,-⟩:=c.s 2;obtain⟨H,-⟩:=c.s 3;obtain⟨q,N⟩:=c.r 0;obtain⟨x,K⟩:=c.r 1;obtain⟨m,E⟩:=c.r 2;obtain⟨p,J⟩:=c.r 3;have t:=Qc (fun kind=>Zqc (kind:=kind) (g:=g) i.o f d)
  clear c f d;go_wp2;refine bodyPost_ret (v:=.tuple #[.agg #[.int .i64 3,.slice u L'.length n,.bool false,.int .i64 g],.int .i64 n']) (by simp[results,Tryz.results83,go_sem,q,x,m,p]) rfl ?_
  exact⟨_,rfl,t.o _⟩
theorem ZmA (kind g:Int) (t:kind=4) (l L':List Int) (n':Int) (v:Value) (f a b:Int) (k:f≠10) (B:Nat) (w:World) (d:Qo w B v l)
 (u:Hid (∀ W,Qo W B v l->B<=W.heap.size->Calls prog 127 #[v,.agg #[.int .i64 f,.int .i64 a,.int .i64 b]] W fun e w'=>ZdN B W v L' n' e w')) (H:B<=w.heap.size):
 Calls prog 83 #[.agg #[.int .i64 kind,v,.bool false,.int .i64 g],.agg #[.int .i64 f,.int .i64 a,.int .i64 b]] w fun e w'=>Did B w v (⟨kind,L',false,g⟩,n') e w':=by
 have n:=Qc d;have F:(f == 10)=false:=beq_eq_false_iff_ne.2 k;obtain⟨ao,cap,rfl⟩:=d.shape;have m:∀ b,(Value.slice ao l.length cap).ownBlock=some b->b<w.heap.size:=fun b h=>(World.ownsRow.lt d b h).2
 have z:=Qc m;clear d k m;subst t
 all_goals
  go_enter func83,ntmps83
  go_wp2_with fail
  refine(u.o _ (n.o.alloc3 _ _ _) (by simp;omega)).mono ?_
  rintro e Q ⟨K,rfl,j,i⟩;obtain⟨C,q,rfl⟩:=j.shape;have c:=(J2.made w _ _ _).mv z.o i;obtain⟨I,-⟩:=c.s 0;obtain⟨E,N⟩:=c.s 1;obtain⟨O,-⟩:=c.s 2;obtain⟨J,-⟩:=c.s 3;obtain⟨y,P⟩:=c.r 0;obtain⟨D,M⟩:=c.r 1;obtain⟨p,G⟩:=c.r 2;obtain⟨x,L⟩:=c.r 3;have A:=Qc (fun kind=>Zqc (kind:=kind) (g:=g) n.o j i)
  clear c j i;go_wp2;refine bodyPost_ret (v:=.tuple #[.agg #[.int .i64 4,.slice C L'.length q,.bool false,.int .i64 g],.int .i64 n']) (by simp[results,Tryz.results83,go_sem,y,D,p,x]) rfl ?_
  exact⟨_,rfl,A.o _⟩
theorem ZkU (kind g:Int) (t:kind=5) (l L':List Int) (n':Int) (v:Value) (f a b:Int) (k:f≠10) (B:Nat) (w:World) (d:Qo w B v l)
 (u:Hid (∀ W,Qo W B v l->B<=W.heap.size->Calls prog 128 #[v,.agg #[.int .i64 f,.int .i64 a,.int .i64 b]] W fun e w'=>ZdN B W v L' n' e w')) (H:B<=w.heap.size):
 Calls prog 83 #[.agg #[.int .i64 kind,v,.bool false,.int .i64 g],.agg #[.int .i64 f,.int .i64 a,.int .i64 b]] w fun e w'=>Did B w v (⟨kind,L',false,g⟩,n') e w':=by
 have n:=Qc d;have F:(f == 10)=false:=beq_eq_false_iff_ne.2 k;obtain⟨ao,cap,rfl⟩:=d.shape;have m:∀ b,(Value.slice ao l.length cap).ownBlock=some b->b<w.heap.size:=fun b h=>(World.ownsRow.lt d b h).2
 have z:=Qc m;clear d k m;subst t
 all_goals
  go_enter func83,ntmps83
  go_wp2_with fail
  refine(u.o _ (n.o.alloc3 _ _ _) (by simp;omega)).mono ?_
  rintro e Q ⟨K,rfl,j,i⟩;obtain⟨C,q,rfl⟩:=j.shape;have c:=(J2.made w _ _ _).mv z.o i;obtain⟨I,-⟩:=c.s 0;obtain⟨E,N⟩:=c.s 1;obtain⟨O,-⟩:=c.s 2;obtain⟨J,-⟩:=c.s 3;obtain⟨y,P⟩:=c.r 0;obtain⟨D,M⟩:=c.r 1;obtain⟨p,G⟩:=c.r 2;obtain⟨x,L⟩:=c.r 3;have A:=Qc (fun kind=>Zqc (kind:=kind) (g:=g) n.o j i)
  clear c j i;go_wp2;refine bodyPost_ret (v:=.tuple #[.agg #[.int .i64 5,.slice C L'.length q,.bool false,.int .i64 g],.int .i64 n']) (by simp[results,Tryz.results83,go_sem,y,D,p,x]) rfl ?_
  exact⟨_,rfl,A.o _⟩
theorem Zox (v:Value) (l:List Int) (a b:Nat) (w:World) (K:RdI w v l) (A:w.cell? ⟨a,0,none⟩=some (.int .i64 (-1099511627776))) (u:w.cell? ⟨b,0,none⟩=some (.int .i64 1099511627776)):
 Calls prog 171 #[v,.func (.func 170) #[] #[.pointer (some ⟨a,0,none⟩),.pointer (some ⟨b,0,none⟩)]] w fun e w'=>e=.returned (.bool (decide (l.length<=64∧J0 l)))∧w'=w:=by
 have B:=Qc (fun n=>Zdq n _ _ a b w A u)
 obtain⟨ao,cap,rfl,-,-,-,-,D⟩:=K;have L:=Qc D;clear D A u;obtain⟨R,t⟩:∃ R,R=decide (l.length<=64∧J0 l):=⟨_,rfl⟩;rw[<-t];have m:=Qc t;clear t;by_cases F:l.length<=64
 ·have J:¬ (64<(l.length:Int)):=by omega
  go_enter func171,ntmps171
  go_wp2
  go_loop [12] (fun i=>∃ k:Nat,i=.int .i64 k∧k<=l.length∧Hid (∀ j,j<k->-1099511627776<=l.getD j 0∧l.getD j 0<=1099511627776)) (fun i=>l.length-(intOf i).toNat)
  case atStart=>exact⟨0,rfl,Nat.zero_le _,fun j x=>by omega⟩
  case round=>
   obtain⟨k,rfl,M,E⟩:=hrel;by_cases f:k<l.length
   ·rcases L.o with I | ⟨g,N,rfl,z⟩
    ·rw[I] at f;simp at f
    have H:=z k f;clear z;obtain⟨y,p⟩:∃ y,y=l.getD k 0:=⟨_,rfl⟩;rw[<-p] at H;have C:=Qc p;clear p;by_cases c:-1099511627776<=y∧y<=1099511627776
    ·have d:=Qc (decide_eq_true c)
     have q:=Qc c;clear c
     go_wp2_with(first | (go_at_call 170;refine(B.o _).mono ?_;rintro e G ⟨rfl,rfl⟩;rw[d.o]))
     go_round
     case rel=>
      refine⟨k+1,by go_num,by omega,fun j x=>?_⟩
      by_cases e:j=k
      ·rw[e,<-C.o];exact q.o
      ·exact E.out j (by omega)
     case measure=>simp[intOf];omega
    ·have d:=Qc (decide_eq_false c)
     have q:=Qc c;clear c
     go_wp2_with(first | (go_at_call 170;refine(B.o _).mono ?_;rintro e G ⟨rfl,rfl⟩;rw[d.o]))
     go_ret;refine⟨Yk (m.o.trans (decide_eq_false fun h=>q.o ?_)).symm,rfl⟩
     rw[C.o];exact h.2 k f
   ·go_wp2
    go_ret;exact⟨Yk (m.o.trans (decide_eq_true ⟨F,fun j x=>E.out j (by omega)⟩)).symm,rfl⟩
 ·have J:64<(l.length:Int):=by omega
  have d:Hid (decide (l.length<=64∧J0 l)=false):=decide_eq_false (fun h=>F h.1)
  go_enter func171,ntmps171
  go_wp2;go_ret;exact⟨Yk (m.o.trans d.o).symm,rfl⟩
def Zfw (l:List Int) (k:Nat):Int:=if k=0 then 0 else l.getD (k-2) 0+1
theorem ZmB {lo:Int} {k:Nat} (c:k % 2=0) (b:∀ j,j<k->j % 2=0->ZgR lo l j):ZgR lo l k↔(Zfw l k<=l.getD k 0∧l.getD k 0<=255)∧lo<=l.getD (k+1) 0∧l.getD (k+1) 0<=1099511627776:=by
 unfold ZgR Zfw;by_cases a:k=0
 ·subst a
  simp;omega
 ·rw[if_neg a]
  have d:=(b (k-2) (by omega) (by omega)).1
  constructor
  ·rintro⟨h1,h2,h3,h4,h5⟩
   exact⟨⟨by have:=h3 (by omega);omega,h2⟩,h4,h5⟩
  ·rintro⟨⟨h1,h2⟩,h4,h5⟩
   exact⟨by omega,h2,fun _=>by omega,h4,h5⟩
theorem ZmC (v:Value) (l:List Int) (lo:Int) (a b:Nat) (w:World) (hr:RdI w v l) (U:w.cell? ⟨a,0,none⟩=some (.int .i64 lo)) (T:w.cell? ⟨b,0,none⟩=some (.int .i64 1099511627776)):
 Calls prog 172 #[v,.func (.func 170) #[] #[.pointer (some ⟨a,0,none⟩),.pointer (some ⟨b,0,none⟩)]] w fun e w'=>e=.returned (.bool (decide (Zan lo l)))∧Below w.heap.size w w':=by
 have Z:Hid (∀ n W,Below w.heap.size w W->Calls prog 170 #[.int .i64 n,.pointer (some ⟨a,0,none⟩),.pointer (some ⟨b,0,none⟩)] W fun e w'=>e=.returned (.bool (decide (lo<=n∧n<=1099511627776)))∧w'=W):=fun n W h=>
  Zdq n _ _ a b W ((h.cell (World.block_lt_of_cell? w ⟨a,0,none⟩ U)).trans U) ((h.cell (World.block_lt_of_cell? w ⟨b,0,none⟩ T)).trans T)
 have Q:=Qc (fun n l2 h2 E G W p1 p2=>Zdq n l2 h2 E G W p1 p2)
 have X:=Qc (fun p q W=>Jx p q W)
 obtain⟨ao,cap,rfl,-,-,-,-,aa⟩:=hr;have ai:=Qc aa;clear aa U T;obtain⟨R,V⟩:∃ R,R=decide (Zan lo l):=⟨_,rfl⟩;rw[<-V];have A:=Qc V;clear V;by_cases he:l.length % 2=0
 ·by_cases ab:l.length<=128
  ·have af:(((l.length:Int).tmod 2) != 0)=false:=by rw[bne_eq_false_iff_eq,Int.tmod_eq_emod_of_nonneg (by omega)];omega
   have hq:¬ (128<(l.length:Int)):=by omega
   go_enter func172,ntmps172
   go_wp2
   go_loopw[5,6] (fun y i wr=>∃ k:Nat,y=.int .i64 (Zfw l k)∧i=.int .i64 k∧k<=l.length∧k % 2=0∧Hid (∀ j,j<k->j % 2=0->ZgR lo l j)∧Hid (Below w.heap.size w wr)) (fun _ i _=>l.length-(intOf i).toNat)
   case atStart=>exact⟨0,rfl,rfl,Nat.zero_le _,rfl,fun j hj=>by omega,Below.refl _ _⟩
   case round=>
    obtain⟨k,rfl,rfl,hk,N,P,t⟩:=hrel;by_cases x:k<l.length
    ·rcases ai.o with h0 | ⟨g,I,rfl,C⟩
     ·rw[h0] at x;simp at x
     have ac:k+1<l.length:=by omega
     have L:Hid (∀ W,Below w.heap.size w W->W.cell? ⟨g,I+k,none⟩=some (.int .i64 (l.getD k 0))):=fun W h=>(h.cell (World.block_lt_of_cell? w ⟨g,I+k,none⟩ (C k x))).trans (C k x)
     have F:Hid (∀ W,Below w.heap.size w W->W.cell? ⟨g,I+(k+1),none⟩=some (.int .i64 (l.getD (k+1) 0))):=fun W h=>(h.cell (World.block_lt_of_cell? w ⟨g,I+(k+1),none⟩ (C (k+1) ac))).trans (C (k+1) ac)
     clear C;have u:=Qc (ZmB (lo:=lo) N P.out)
     have ae:Hid (Zfw l (k+2)=l.getD k 0+1):=by
      unfold Zfw;rw[if_neg (by omega)]
      exact rfl
     generalize Zfw l k=ls at *;obtain⟨y,d⟩:∃ y,y=l.getD k 0:=⟨_,rfl⟩;obtain⟨z,f⟩:∃ z,z=l.getD (k+1) 0:=⟨_,rfl⟩;rw[<-d] at L u ae;rw[<-f] at F u;have ag:=Qc d;clear d f;by_cases d:ls<=y∧y<=255
     ·have J:=Qc (decide_eq_true d)
      have H:=Qc d;by_cases f:lo<=z∧z<=1099511627776
      ·have O:=Qc (decide_eq_true f)
       have K:=Qc f;have ak:=d.2;have aj:0<=y:=by rw[ag.o];exact(u.o.2 ⟨H.o,K.o⟩).1
       clear d f
       go_wp2_with fail
       refine(X.o _ _ _).mono ?_;rintro e W1 ⟨E,G,rfl,D,B,m⟩;have c:=Qc (t.out.trans (m.mono t.out.size));have ad:=L.o _ c.o;have Y:=F.o _ c.o;clear m
       go_wp2_with fail
       refine(Q.o _ _ _ _ _ _ D B).mono ?_;rintro e W2 ⟨rfl,rfl⟩;rw[J.o]
       go_wp2_with fail
       refine(Z.o _ _ c.o).mono ?_;rintro e W3 ⟨rfl,rfl⟩;rw[O.o];go_wp2;go_roundw
       case rel=>
        refine⟨k+2,by rw[ae.o],by go_num,by omega,by omega,fun j hj S=>?_,c⟩
        by_cases e:j=k
        ·rw[e];exact u.o.2 ⟨H.o,K.o⟩
        ·exact P.out j (by omega) S
       case measure=>simp[intOf];omega
      ·have O:=Qc (decide_eq_false f)
       have K:=Qc f;clear d f
       go_wp2_with fail
       refine(X.o _ _ _).mono ?_;rintro e W1 ⟨E,G,rfl,D,B,m⟩;have c:=Qc (t.out.trans (m.mono t.out.size));have ad:=L.o _ c.o;have Y:=F.o _ c.o;clear m
       go_wp2_with fail
       refine(Q.o _ _ _ _ _ _ D B).mono ?_;rintro e W2 ⟨rfl,rfl⟩;rw[J.o]
       go_wp2_with fail
       refine(Z.o _ _ c.o).mono ?_;rintro e W3 ⟨rfl,rfl⟩;rw[O.o];go_wp2;go_ret;exact⟨Yk (A.o.trans (decide_eq_false fun h=>K.o (u.o.1 (h.2.2 k x N)).2)).symm,c.o⟩
     ·have J:=Qc (decide_eq_false d)
      have H:=Qc d;clear d
      go_wp2_with fail
      refine(X.o _ _ _).mono ?_;rintro e W1 ⟨E,G,rfl,D,B,m⟩;have c:=Qc (t.out.trans (m.mono t.out.size));have ad:=L.o _ c.o;have Y:=F.o _ c.o;clear m
      go_wp2_with fail
      refine(Q.o _ _ _ _ _ _ D B).mono ?_;rintro e W2 ⟨rfl,rfl⟩;rw[J.o];go_wp2;go_ret;exact⟨Yk (A.o.trans (decide_eq_false fun h=>H.o (u.o.1 (h.2.2 k x N)).1)).symm,c.o⟩
    ·go_wp2
     go_ret;exact⟨Yk (A.o.trans (decide_eq_true ⟨he,ab,fun j hj S=>P.out j (by omega) S⟩)).symm,t.out⟩
  ·have af:(((l.length:Int).tmod 2) != 0)=false:=by rw[bne_eq_false_iff_eq,Int.tmod_eq_emod_of_nonneg (by omega)];omega
   have hq:128<(l.length:Int):=by omega
   have M:Hid (decide (Zan lo l)=false):=decide_eq_false (fun h=>ab h.2.1)
   go_enter func172,ntmps172
   go_wp2;go_ret;exact⟨Yk (A.o.trans M.o).symm,Below.refl _ _⟩
 ·have af:(((l.length:Int).tmod 2) != 0)=true:=by rw[bne_iff_ne,Int.tmod_eq_emod_of_nonneg (by omega)];omega
  have M:Hid (decide (Zan lo l)=false):=decide_eq_false (fun h=>he h.1)
  go_enter func172,ntmps172
  go_wp2;go_ret;exact⟨Yk (A.o.trans M.o).symm,Below.refl _ _⟩
end Go.Proofs.YtnahjngbneicaaaGreatDoor
