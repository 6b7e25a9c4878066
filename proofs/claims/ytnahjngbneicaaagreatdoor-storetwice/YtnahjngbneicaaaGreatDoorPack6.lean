import Derived.Test.YtnahjngbneicaaaGreatDoorPack5
namespace Go.Proofs.YtnahjngbneicaaaGreatDoor
open _root_.Go.Proofs.Tryz
open List (length_append)
set_option maxHeartbeats 2000000
set_option maxRecDepth 100000
open Go.RowKit
variable {w w':World} {B B' b o:Nat} {r:Rec} {v v':Value} {L' l:List Int} {a key least:Int}
def Zmq (w:World) (b o:Nat) (r:Rec):Prop:=
 w.cell? ⟨b,o,none⟩=some (.int .i64 r.idx)∧w.cell? ⟨b,o+1,none⟩=some (.int .i64 r.proc)∧w.cell? ⟨b,o+2,none⟩=some (.int .i64 r.seq)∧w.cell? ⟨b,o+3,none⟩=some (.int .i64 r.op.code)∧w.cell? ⟨b,o+4,none⟩=some (.int .i64 r.op.a)∧w.cell? ⟨b,o+5,none⟩=some (.int .i64 r.op.b)∧w.cell? ⟨b,o+6,none⟩=some (.int .i64 r.resp)
theorem Zmq.lt (h:Zmq w b o r):b<w.heap.size:=World.block_lt_of_cell? w ⟨b,o,none⟩ h.1
theorem Zmq.keep (h:Zmq w b o r) (d:w'.heap[b]?=w.heap[b]?):Zmq w' b o r:=by
 have c:∀ i,w'.cell? ⟨b,i,none⟩=w.cell? ⟨b,i,none⟩:=fun i=>World.cell?_of_block (a:=⟨b,i,none⟩) d
 unfold Zmq at h ⊢;simp only [c];exact h
def RdR (w:World) (v:Value) (l:List Rec):Prop:=
 ∃ ao cap,v=.slice ao l.length cap∧l.length<=cap∧cap<=maxLen∧(ao=none->cap=0)∧(∀ r ∈ l,Zga r)∧
  (l=[]∨∃ b off,ao=some ⟨b,off,none⟩∧∀ j,j<l.length->Zmq w b (off+j*7) (l.getD j Zaj))
theorem RdR.nil (w:World):RdR w (.slice none 0 0) []:=⟨none,0,rfl,Nat.le_refl _,Nat.zero_le _,fun _=>rfl,(fun r h=>by simp at h),.inl rfl⟩
theorem RdR.below {l:List Rec} (h:RdR w v l) {B:Nat} (k:Below B w w') (t:w.heap.size<=B):RdR w' v l:=by
 obtain⟨ao,cap,q,m,e,n,f,a⟩:=h;refine⟨ao,cap,q,m,e,n,f,?_⟩;rcases a with a | ⟨b,g,p,i⟩
 ·exact .inl a
 ·refine .inr ⟨b,g,p,fun j d=>?_⟩
  have c:=i j d;exact c.keep (k.block b (by have:=c.lt;omega))
def Zan:List Rec->List Value
 | []=>[]
 | r::t=>(Zeo r).toList++Zan t
theorem Zbo:∀ l:List Rec,(Zan l).length=l.length*7
 | []=>rfl
 | r::t=>by
  rw[Zan,length_append,Zbo t,List.length_cons];simp[Zeo];omega
theorem Zdv:∀ a b:List Rec,Zan (a++b)=Zan a++Zan b
 | [],_=>rfl
 | r::t,b=>by rw[List.cons_append,Zan,Zdv t b,Zan,List.append_assoc]
theorem ZeA:∀ (l:List Rec) (j k:Nat),j<l.length->k<7->(Zan l)[j*7+k]?=(Zeo (l.getD j Zaj))[k]?
 | r::t,0,k,_,hk=>by
  rw[Zan,Nat.zero_mul,Nat.zero_add,List.getElem?_append_left (by simp[Zeo];omega)]
  simp[List.getD]
 | r::t,j+1,k,hj,hk=>by
  have e:(j+1)*7+k=(Zeo r).toList.length+(j*7+k):=by simp[Zeo];omega
  rw[Zan,e,List.getElem?_append_right (by omega),Nat.add_sub_cancel_left,ZeA t j k (by simpa using hj) hk]
  simp[List.getD]
theorem ZeB (l:List Rec):∀ u ∈ Zan l,u.oneCell'=true:=by
 induction l with
 | nil=>intro u a;simp[Zan] at a
 | cons r t b=>
  intro u a;rw[Zan] at a;rcases List.mem_append.1 a with h | h
  ·simp[Zeo] at h
   rcases h with rfl | rfl | rfl | rfl | rfl | rfl | rfl <;> rfl
  ·exact b u h
def Zbq (w:World) (B:Nat) (v:Value) (l:List Rec):Prop:=w.ownsRow B 62 7 v l.length (Zan l)
theorem Zbq.nil (w:World) (B:Nat):Zbq w B (.slice none 0 0) []:=World.ownsRow_nil w B 62 7
theorem Zbq.rd {l:List Rec} (h:Zbq w B v l) (c:∀ r ∈ l,Zga r):RdR w v l:=by
 rcases h.2 with ⟨b,d⟩ | ⟨g,cap,cur,b,y,t,m,n,x,q⟩
 ·exact⟨none,0,by rw[b,d],by omega,Nat.zero_le _,fun _=>rfl,c,.inl (List.eq_nil_of_length_eq_zero d)⟩
 ·refine⟨some ⟨g,0,none⟩,cap,b,m,n,(fun e=>by cases e),c,.inr ⟨g,0,rfl,fun j f=>?_⟩⟩
  have a:∀ k u,k<7->(Zeo (l.getD j Zaj))[k]?=some u->w.cell? ⟨g,0+j*7+k,none⟩=some u:=fun k u i p=>by
   have:=World.ownsRow.cells h (g:=g) (by rw[b];rfl) (j*7+k) u ((ZeA l j k f i).trans p)
   rw[Addr.add_lit] at this;rw[Nat.add_assoc];exact this
  exact⟨a 0 _ (by decide) rfl,a 1 _ (by decide) rfl,a 2 _ (by decide) rfl,a 3 _ (by decide) rfl,a 4 _ (by decide) rfl,a 5 _ (by decide) rfl,a 6 _ (by decide) rfl⟩
theorem Zbq.below {l:List Rec} (h:Zbq w B v l) (e:Below B' w w') (i:w.heap.size<=B'):Zbq w' B v l:=by
 obtain⟨f,a⟩:=h;refine⟨f,?_⟩;rcases a with a | ⟨g,cap,cur,c,d,b,r⟩
 ·exact .inl a
 ·have j:g<w.heap.size:=(Array.getElem?_eq_some_iff.1 b).1
  exact .inr ⟨g,cap,cur,c,d,by rw[e.block g (by omega)];exact b,r⟩
theorem Zbq.mono {l:List Rec} (h:Zbq w B v l) (d:B'<=B):Zbq w B' v l:=by
 obtain⟨c,a⟩:=h;refine⟨c,?_⟩;rcases a with a | ⟨g,cap,cur,b,e,r⟩
 ·exact .inl a
 ·exact .inr ⟨g,cap,cur,b,by omega,r⟩
theorem Zbq.shape {l:List Rec} (h:Zbq w B v l):∃ ao cap,v=.slice ao l.length cap:=by
 rcases h.2 with ⟨a,b⟩ | ⟨g,cap,cur,a,_⟩
 ·exact⟨none,0,by rw[a,b]⟩
 ·exact⟨_,_,a⟩
theorem Zgs:(prog.info? 62).map (fun i=>(i.zero,i.size,i.bytes))=some (some (.agg #[.int .i64 0,.int .i64 0,.int .i64 0,.int .i64 0,.int .i64 0,.int .i64 0,.int .i64 0]),7,56):=by kernel_rfl
theorem Zmr (w:World) (ty:TypeId) (B:Nat) (v:Value) (l:List Rec) (h:Zbq w B v l) (r:Rec) (q:l.length<=1000000) (g:B<=w.heap.size):
 ∃ v' w',(Builtin.append_ #[29,29] ty #[v,.slice (some ⟨w.heap.size,0,none⟩) 1 1]).run prog (w.alloc (.cells (Zeo r) 62))=.ok v' w'∧Zbq w' B v' (l++[r])∧Below B w w':=by
 obtain⟨m,i,p,b,d⟩:=info_parts Zgs
 obtain⟨v',w',f,n,c,_⟩:=run_append_own (P:=prog) (w.alloc (.cells (Zeo r) 62)) B 29 ty 62 m _ 7 56 underlying29 i p b d rfl (by decide) v l.length (Zan l) (h.alloc _)
  ⟨w.heap.size,0,none⟩ 1 1 (Zan [r]) (Zbo [r]) (fun j u a=>by
   rw[Addr.add_lit,Nat.zero_add,cell_of_row _ w.heap.size j _ 62 (0,0) (heap_alloc_new w _)]
   simpa[Zan] using a) (ZeB [r]) (by unfold maxLen;omega) (by omega) (by simp;omega)
 refine⟨v',w',f,?_,?_⟩
 ·unfold Zbq
  rw[length_append,Zdv];exact n
 ·exact((Below.refl _ _).alloc g _).grown c (by simp;omega) (fun k e=>(World.ownsRow.lt h k e).1)
theorem ZiJ (w:World) {b:Array Oper} {rest:List Oper} {o:Oper} {a:Act} {Q:Exit->Act->World->Prop} (m:o.guard=none) (s x:Operand)
 (p:o.op=.call { callee:=.builtin .append,args:=#[s,x],argTypes:=#[29,29] })
 (B:Nat) (v:Value) (l:List Rec) (e:a.eval s=v) (n:Zbq w B v l) (r:Rec) (i:a.eval x=.slice (some ⟨w.heap.size,0,none⟩) 1 1)
 (c:l.length<=1000000) (j:B<=w.heap.size)
 (h:∀ v' w',Zbq w' B v' (l++[r])->Below B w w'->wpList prog b Q rest (a.put o.dst v') w'):wpList prog b Q (o::rest) a (w.alloc (.cells (Zeo r) 62)):=
 wpList_plain m fun _ d=>by
  obtain⟨v',w',g,k,f⟩:=Zmr w o.type B v l n r c j;unfold Oper.wp execOp;simp only [p,resolve,invoke,builtin,Sem.run_bind,Sem.run_pure,Result.andThen_ok,List.map_toArray,List.map_cons,List.map_nil,e,i,g];exact d _ _ (h v' w' k f)
theorem ZkX:prog.elem 29=62:=by kernel_rfl
theorem Zgt:prog.underlying 29=some (.slice (prog.elem 29)):=by rw[ZkX];exact underlying29
theorem Ztq (w:World):(sizeOf 62).run prog w=.ok 7 w:=by
 obtain⟨c,b,_,a,_⟩:=info_parts Zgs;simp[sizeOf,typeInfo,b,a]
theorem Br.set {cs:Array Value} (h:Br w b cs) (j:Nat) (x:Value):Br (w.setCell ⟨b,j,none⟩ x) b (cs.setIfInBounds j x):=by
 have:=heap_setCell_same w b j _ _ x h;unfold Br;simpa using this
theorem ZgG (n lo c:Int) (a b:Nat) (w:World) (i:w.cell? ⟨a,0,none⟩=some (.int .i64 lo)) (j:w.cell? ⟨b,0,none⟩=some (.int .i64 c)):
 Calls prog 170 #[.int .i64 n,.pointer (some ⟨a,0,none⟩),.pointer (some ⟨b,0,none⟩)] w fun e w'=>e=.returned (.bool (decide (lo<=n∧n<=c)))∧w'=w:=by
 have f:Hid ((decide (lo<=n) && decide (n<=c))=decide (lo<=n∧n<=c)):=(Bool.decide_and _ _).symm;have g:Hid (lo<=n->decide (n<=c)=decide (lo<=n∧n<=c)):=fun h=>by rw[<-f.o,decide_eq_true h,Bool.true_and]
 by_cases d:lo<=n
 ·go_enter func170,ntmps170
  go_wp2;go_ret;exact⟨ZbZ (g.o d),rfl⟩
 ·go_enter func170,ntmps170
  go_wp2;go_ret;exact⟨ZbZ (by rw[decide_eq_false (Int.not_le.2 d),Bool.false_and]),rfl⟩
theorem ZcJ (lo c:Int) (w:World):
 Calls prog 121 #[.int .i64 lo,.int .i64 c] w fun e w'=>∃ a b,e=.returned (.func (.func 170) #[] #[.pointer (some ⟨a,0,none⟩),.pointer (some ⟨b,0,none⟩)])∧w'.cell? ⟨a,0,none⟩=some (.int .i64 lo)∧w'.cell? ⟨b,0,none⟩=some (.int .i64 c)∧Below w.heap.size w w':=by
 have f:∀ (fn:Fn) (first cap:Array Value) (w:World),(Instr.makeFunc fn first cap).run prog w=.ok (.func fn first cap) w:=fun _ _ _ _=>rfl
 have d:Hid (∀ x y,Below w.heap.size w ((w.alloc x).alloc y)):=fun x y=>((Below.refl _ _).alloc zL x).alloc (by simp) y
 go_enter func121,ntmps121
 go_wp2;go_ret;refine⟨_,_,rfl,?_,?_,d.o _ _⟩
 ·rw[World.cell?_alloc_past _ _ _ (by simp),World.cell?_alloc_at _ _ _ _ rfl];rfl
 ·rw[World.cell?_alloc_at _ _ _ _ (by simp)];rfl
theorem ZiK (n:Int):max (-1099511627776) (min n 1099511627776)=ZeG n:=by
 unfold ZeG;split
 ·omega
 ·split <;> omega
theorem ZhN (n:Int) (w:World):Calls prog 173 #[.int .i64 n] w fun e w'=>e=.returned (.int .i64 (ZeG n))∧w'=w:=by
 by_cases b:1099511627776<n
 ·go_enter func173,ntmps173
  go_wp2;go_ret;refine⟨ZAw ?_,rfl⟩
  first
   | exact ZiK n
   | (unfold ZeG;split <;> (try split) <;> omega)
 by_cases a:n<=-1099511627776
 ·go_enter func173,ntmps173
  go_wp2;go_ret;refine⟨ZAw ?_,rfl⟩
  first
   | exact ZiK n
   | (unfold ZeG;split <;> (try split) <;> omega)
 ·go_enter func173,ntmps173
  go_wp2;go_ret;refine⟨ZAw ?_,rfl⟩
  first
   | exact ZiK n
   | (unfold ZeG;split <;> (try split) <;> omega)
theorem Zoh (ao:Option Addr) (n cap:Nat) (w:World):Calls prog 177 #[.slice ao n cap] w fun e w'=>e=.returned (.bool (decide (n=128)))∧w'=w:=by
 by_cases h:n=128
 ·have a:Hid (decide (n=128)=true):=decide_eq_true h
  have b:((n:Int) == 128)=true:=beq_iff_eq.2 (by omega)
  clear h
  go_enter func177,ntmps177
  go_wp2;go_ret;exact⟨ZbZ a.o.symm,rfl⟩
 ·have a:Hid (decide (n=128)=false):=decide_eq_false h
  have b:((n:Int) == 128)=false:=beq_eq_false_iff_ne.2 (by omega)
  clear h
  go_enter func177,ntmps177
  go_wp2;go_ret;exact⟨ZbZ a.o.symm,rfl⟩
theorem Ztr {b:Int} {c d:Bool} (h:a=b) (e:c=d):Ending.returned (.tuple #[.int .i64 a,.bool c])=.returned (.tuple #[.int .i64 b,.bool d]):=by rw[h,e]
theorem Zxc (v:Value) (l:List Int) (key:Int) (w:World) (J:RdI w v l) (A:l.length % 2=0) (K:l.length<=1000000):
 Calls prog 211 #[v,.int .i64 key] w fun e w'=>e=.returned (.tuple #[.int .i64 (Zaq key l),.bool (decide (Zaq key l<l.length∧l.getD (Zaq key l) 0=key))])∧Below w.heap.size w w':=by
 obtain⟨ao,cap,rfl,-,-,-,-,q⟩:=J;have I:=Zac q;clear q;obtain⟨P,f⟩:∃ P,P=Zaq key l:=⟨_,rfl⟩;obtain⟨R,d⟩:∃ R,R=decide (P<l.length∧l.getD P 0=key):=⟨_,rfl⟩;rw[<-f,<-d];have E:=Zac f;have p:=Zac d;clear f d
 go_enter func211,ntmps211
 go_wp2
 go_loop [6] (fun i=>∃ k:Nat,i=.int .i64 k∧k<=l.length∧k % 2=0∧Hid (∀ j,j<k->j % 2=0->l.getD j 0<key)) (fun i=>l.length-(intOf i).toNat)
 case atStart=>exact⟨0,rfl,Nat.zero_le _,rfl,fun j z=>by omega⟩
 case round=>
  obtain⟨k,rfl,C,G,x⟩:=hrel;have t:Hid (P=k+Zaq key (l.drop k)):=E.o.trans (ZkA key l k A G C x.out);by_cases b:k<l.length
  ·rcases I.o with H | ⟨g,M,rfl,u⟩
   ·rw[H] at b;simp at b
   have D:=u k b;clear u;obtain⟨y,m⟩:∃ y,y=l.getD k 0:=⟨_,rfl⟩;rw[<-m] at D;have c:=Zac m;clear m;by_cases F:key<=y
   ·have a:Hid (P=k):=t.o.trans (by rw[Zrh key l k (by omega) (by rw[<-c.o];exact F)];exact Nat.add_zero k)
    have n:Hid (R=(y == key)):=by
     rw[p.o,a.o,<-c.o];by_cases e:y=key
     ·rw[beq_iff_eq.2 e];exact decide_eq_true ⟨b,e⟩
     ·rw[beq_eq_false_iff_ne.2 e];exact decide_eq_false (fun h=>e h.2)
    have L:(k:Int)<(l.length:Int):=by omega
    go_wp2
    go_quiet(fail)
    go_wp2;go_ret2;exact⟨Ztr (by rw[a.o]) n.o.symm,ZaI (Below.refl _ _) _⟩
   ·go_wp2
    go_round
    case rel=>
     refine⟨k+2,by go_num,by omega,by omega,fun j z B=>?_⟩
     by_cases e:j=k
     ·rw[e,<-c.o];omega
     ·exact x.out j (by omega) B
    case measure=>simp[intOf];omega
  ·have a:Hid (P=l.length):=by
    have e:k=l.length:=by omega
    rw[t.o,e,List.drop_length];exact rfl
   have n:Hid (R=false):=p.o.trans (decide_eq_false (fun h=>by have:=h.1;rw[a.o] at this;omega))
   go_wp2;go_ret2;exact⟨Ztr (by rw[a.o]) n.o.symm,Below.refl _ _⟩
theorem ZiL (v:Value) (l:List Int) (key least lo:Int) (w:World) (c:RdI w v l) (a:Zat least lo l) (b:l.length<=1000000):
 Calls prog 211 #[v,.int .i64 key] w fun e w'=>e=.returned (.tuple #[.int .i64 (Zaq key l),.bool (ZdO key l)])∧Below w.heap.size w w':=by
 rw[(ZeZ key least l lo a).1];exact Zxc v l key w c (ZeU a) b
theorem Zdw:∀ {l:List Int} {lo:Int},-1099511627776<=least->-1<=lo->Zat least lo l->∀ x ∈ l,I64 x
 | [],_,_,_,_,x,hx=>by simp at hx
 | [_],_,_,_,h,_,_=>by simp[Zat] at h
 | a::b::r,lo,hl,hlo,h,x,hx=>by
  unfold Zat at h;have c:=Zdw (l:=r) (lo:=a) hl (by omega) h.2.2.2.2 x
  simp at hx;rcases hx with rfl | rfl | hx
  ·exact Zai (by omega) (by omega)
  ·exact Zai (by omega) (by omega)
  ·exact c hx
theorem ZjV (v:Value) (l:List Int) (key least lo:Int) (w:World) (u:RdI w v l) (m:Zat least lo l) (A:l.length<=1000000):
 Calls prog 175 #[v,.int .i64 key] w fun e w'=>e=.returned (.tuple #[.int .i64 ((Zcp key l).getD 0),.bool (ZdO key l)])∧Below w.heap.size w w':=by
 have c:Hid (Calls prog 211 #[v,.int .i64 key] w fun e w'=>e=.returned (.tuple #[.int .i64 (Zaq key l),.bool (ZdO key l)])∧Below w.heap.size w w'):=ZiL v l key least lo w u m A
 have j:=Zac (ZeZ key least l lo m).2;obtain⟨ao,cap,rfl,-,-,-,-,p⟩:=u;have t:=Zac p;obtain⟨G,i⟩:∃ G,G=(Zcp key l).getD 0:=⟨_,rfl⟩;rw[<-i];have k:=Zac i;clear p m i
 cases hh:ZdO key l
 ·rw[hh] at c
  have d:Hid (0=G):=by
   have:Zcp key l=none:=by
    unfold ZdO at hh
    cases h:Zcp key l with
    | none=>rfl
    | some x=>rw[h] at hh;simp at hh
   rw[k.o,this];exact rfl
  clear hh j
  go_enter func175,ntmps175
  go_wp2_with fail
  refine c.o.mono ?_;rintro e B ⟨rfl,a⟩;have f:=Zac a;clear a;go_wp2;go_ret2;exact⟨Ztr d.o rfl,f.o⟩
 ·rw[hh] at c
  obtain⟨z,b⟩:=j.o hh
  have d:Hid (l.getD (Zaq key l+1) 0=G):=by
   rw[k.o,z];exact rfl
  rcases t.o with D | ⟨g,q,rfl,n⟩
  ·rw[D] at b;simp at b
  have C:Hid (∀ W,Below w.heap.size w W->W.cell? ⟨g,q+(Zaq key l+1),none⟩=some (.int .i64 (l.getD (Zaq key l+1) 0))):=fun W h=>(h.cell (World.block_lt_of_cell? w ⟨g,q+(Zaq key l+1),none⟩ (n _ b))).trans (n _ b)
  clear hh j z t n k;generalize l.getD (Zaq key l+1) 0=y at *;generalize Zaq key l=P at *;have E:(P:Int)+1<(l.length:Int):=by omega
  clear b
  go_enter func175,ntmps175
  go_wp2_with fail
  refine c.o.mono ?_;rintro e B ⟨rfl,a⟩;have f:=Zac a;have F:=C.o _ a;clear a;go_wp2;go_ret2;exact⟨Ztr d.o rfl,f.o⟩
theorem ZjW (v:Value) (l:List Int) (key n least lo:Int) (B:Nat) (w:World) (h:ZaB w B v l) (J:B<=w.heap.size) (G:∀ x ∈ l,I64 x) (b:Zat least lo l) (t:l.length<=1000000):
 Calls prog 178 #[v,.int .i64 key,.int .i64 n] w fun e w'=>∃ v',e=.returned v'∧ZaB w' B v' (ZaO key n false l)∧Mv w w' v v':=by
 have j:Hid (Calls prog 211 #[v,.int .i64 key] w fun e w'=>e=.returned (.tuple #[.int .i64 (Zaq key l),.bool (ZdO key l)])∧Below w.heap.size w w'):=ZiL v l key least lo w (h.rd G) b t
 have m:=(Zkz key l (ZeU b)).1;have p:=Zac (ZeZ key least l lo b).2;have k:=Zac h
 cases hh:ZdO key l
 ·rw[hh] at j
  have c:=Zac (Zje key n least l lo b hh)
  have A:Hid (∀ W,ZaB W B v l->B<=W.heap.size->Calls prog 212 #[v,.int .i64 (Zaq key l),.slice (some ⟨W.heap.size,0,none⟩) 2 2] (W.alloc (.cells #[.int .i64 key,.int .i64 n] 3)) fun e w'=>∃ v',e=.returned v'∧ZaB w' B v' (l.take (Zaq key l)++([key,n]++l.drop (Zaq key l)))∧Mv W w' v v'):=
   fun W q f=>ZrB v l B W q f t (Zaq key l) m _ rfl key n _ rfl
  obtain⟨L',a⟩:∃ L',L'=ZaO key n false l:=⟨_,rfl⟩;rw[<-a];rw[<-a] at c;have z:=Zac c.o.symm;rw[z.o] at A;clear a c z h b p hh m;generalize Zaq key l=P at *
  go_enter func178,ntmps178
  go_wp2_with fail
  refine j.o.mono ?_;rintro e C ⟨rfl,i⟩;have d:=Zac i;clear i
  go_wp2_with fail
  refine(A.o C (k.o.below d.o zL) (Nat.le_trans J d.o.size)).mono ?_;rintro e Z ⟨V,rfl,E,D⟩;have S:=Zac ((Mv.ofBelow d.o v).trans D);have R:=Zac E;clear D E;go_wp2;go_ret;exact⟨_,rfl,R.o,S.o⟩
 ·rw[hh] at j
  have c:=Zac (Zpj key n least l lo b hh);obtain⟨q,f⟩:=p.o hh;obtain⟨L',a⟩:∃ L',L'=ZaO key n false l:=⟨_,rfl⟩;rw[<-a];rw[<-a] at c;have Q:=h.put _ f n;obtain⟨g,cap,rfl,-,-,ab,X,-,-⟩:=Q
  have M:Hid (∀ W,Below w.heap.size w W->W.cell? ⟨g,Zaq key l+1,none⟩=some (.int .i64 (l.getD (Zaq key l+1) 0))∧W.frozen? ⟨g,Zaq key l+1,none⟩=false∧ZaB (W.setCell ⟨g,Zaq key l+1,none⟩ (.int .i64 n)) B (.slice (some ⟨g,0,none⟩) l.length cap) L'∧Mv w (W.setCell ⟨g,Zaq key l+1,none⟩ (.int .i64 n)) (.slice (some ⟨g,0,none⟩) l.length cap) (.slice (some ⟨g,0,none⟩) l.length cap)):=fun W F=>by
   obtain⟨g',aa,u,L,K,h5,h6,O,N⟩:=(k.o.below F zL).put _ f n;simp only [Value.slice.injEq,Option.some.injEq,Addr.mk.injEq] at u;obtain⟨⟨rfl,_⟩,_,rfl⟩:=u;exact⟨L,K,by rw[c.o];exact O,(Mv.ofBelow F _).trans N⟩
  clear a c h b p hh m q k G;generalize l.getD (Zaq key l+1) 0=y at *;generalize Zaq key l=P at *;have U:(P:Int)+1<(l.length:Int):=by omega
  clear f
  go_enter func178,ntmps178
  go_wp2_with fail
  refine j.o.mono ?_;rintro e C ⟨rfl,i⟩;obtain⟨Y,f1,I,H⟩:=M.o _ i;have T:=Zac I;have d:=Zac H;clear i I H;go_wp2;go_ret;exact⟨_,rfl,T.o,d.o⟩
theorem Zzm (v:Value) (l:List Int) (key least lo:Int) (B:Nat) (w:World) (g:ZaB w B v l) (t:∀ x ∈ l,I64 x) (a:Zat least lo l) (y:l.length<=1000000):
 Calls prog 176 #[v,.int .i64 key] w fun e w'=>∃ v',e=.returned v'∧ZaB w' B v' (Zbe key l)∧Mv w w' v v':=by
 have f:Hid (Calls prog 211 #[v,.int .i64 key] w fun e w'=>e=.returned (.tuple #[.int .i64 (Zaq key l),.bool (ZdO key l)])∧Below w.heap.size w w'):=ZiL v l key least lo w (g.rd t) a y
 have u:=(Zkz key l (ZeU a)).1;have i:=Zac (ZeZ key least l lo a).2;have p:=Zac g
 cases hh:ZdO key l
 ·rw[hh] at f
  have b:=Zac (Zjf key least l lo a hh);rw[b.o];clear b g a i hh u t;generalize Zaq key l=P at *
  go_enter func176,ntmps176
  go_wp2_with fail
  refine f.o.mono ?_;rintro e k ⟨rfl,d⟩;have c:=Zac d;clear d;go_wp2;go_ret;exact⟨_,rfl,p.o.below c.o zL,Mv.ofBelow c.o v⟩
 ·rw[hh] at f
  have b:=Zac (Zjg key least l lo a hh);obtain⟨F,C⟩:=i.o hh
  have m:Hid (∀ W J,ZaB W B v l->J=((Zaq key l+2:Nat):Int)->Calls prog 210 #[v,.int .i64 (Zaq key l),.int .i64 J] W fun e w'=>∃ v',e=.returned v'∧ZaB w' B v' (l.take (Zaq key l)++l.drop (Zaq key l+2))∧Mv W w' v v'):=
   fun W J A z=>ZkT v l B W A (Zaq key l) (Zaq key l+2) (by omega) (by omega) _ _ rfl z
  obtain⟨L',h⟩:∃ L',L'=Zbe key l:=⟨_,rfl⟩;rw[<-h];rw[<-h] at b;have j:=Zac b.o.symm;rw[j.o] at m;clear h b j g a i hh u F;generalize Zaq key l=P at *;have H:(P:Int)+1<(l.length:Int):=by omega
  clear C
  go_enter func176,ntmps176
  go_wp2_with fail
  refine f.o.mono ?_;rintro e k ⟨rfl,d⟩;have c:=Zac d;clear d
  go_wp2_with fail
  refine(m.o k _ (p.o.below c.o zL) (by omega)).mono ?_
  rintro e I ⟨G,rfl,q,n⟩;have E:=Zac ((Mv.ofBelow c.o v).trans n);have D:=Zac q;clear n q;go_wp2;go_ret;exact⟨_,rfl,D.o,E.o⟩
def Zhd (B:Nat) (w:World) (v:Value) (L:List Int) (n:Int) (e:Ending) (w':World):Prop:=
 ∃ v',e=.returned (.tuple #[v',.int .i64 n])∧ZaB w' B v' L∧Mv w w' v v'
theorem ZaB.alloc (h:ZaB w B v l) (X:Obj):ZaB (w.alloc X) B v l:=World.ownsRow.alloc h X
theorem ZaB.single (h:ZaB w B v l) (f:l.length=1):
 ∃ g cap,v=.slice (some ⟨g,0,none⟩) 1 cap∧(∀ X,(w.alloc X).cell? ⟨g,0,none⟩=some (.int .i64 (l.getD 0 0))∧(w.alloc X).frozen? ⟨g,0,none⟩=false)∧g<w.heap.size∧
  ∀ X n,ZaB ((w.setCell ⟨g,0,none⟩ (.int .i64 n)).alloc X) B v [n]∧Mv w ((w.setCell ⟨g,0,none⟩ (.int .i64 n)).alloc X) v v:=by
 obtain⟨g,cap,rfl,-,-,m,i,-,-⟩:=h.put 0 (by omega) 0
 refine⟨g,cap,by rw[f],fun X=>?_,i,fun X n=>?_⟩
 ·obtain⟨g',j,a,c,b,_⟩:=(h.alloc X).put 0 (by omega) 0
  simp only [Value.slice.injEq,Option.some.injEq,Addr.mk.injEq] at a;obtain⟨⟨rfl,_⟩,_,rfl⟩:=a;exact⟨c,b⟩
 ·obtain⟨g',j,a,c,b,_,_,d,k⟩:=h.put 0 (by omega) n
  simp only [Value.slice.injEq,Option.some.injEq,Addr.mk.injEq] at a;obtain⟨⟨rfl,_⟩,_,rfl⟩:=a
  have e:l.set 0 n=[n]:=by
   match l,f with
   | [_],_=>rfl
  rw[e] at d;exact⟨d.alloc X,k.trans (Mv.alloc _ _ X)⟩
theorem ZrH (v:Value) (l:List Int) (o:Opn) (d:Bool) (g:Int) (B:Nat) (w:World) (p:ZaB w B v l) (x:l.length=1) (F:-1099511627776<=l.getD 0 0) (E:l.getD 0 0<=1099511627776):
 Calls prog 124 #[v,opV o] w fun e w'=>e=.returned (.int .i64 (Zhn ⟨0,l,d,g⟩ o).2)∧ZaB w' B v (Zhn ⟨0,l,d,g⟩ o).1.L∧Mv w w' v v:=by
 obtain⟨f,a,b⟩:=o;have u:=Zac p;have y:Hid (∀ X,Mv w (w.alloc X) v v):=fun X=>Mv.alloc w v X
 have A:=Zac (fun n w=>ZhN n w)
 obtain⟨c,cap,rfl,m,G,q⟩:=p.single x;have z:=Zac q;have D:=fun X=>(m X).1
 have H:=fun X=>(m X).2
 clear q p m;obtain⟨n,k⟩:∃ n,n=l.getD 0 0:=⟨_,rfl⟩;rw[<-k] at F E;simp only [<-k] at D;have t:=Zac k;have J:=Zfj a;clear k x;show Calls prog _ #[_,.agg #[.int .i64 f,.int .i64 a,.int .i64 b]] w _;by_cases j:f=1
 ·subst j
  have i:Hid (Zhn ⟨0,l,d,g⟩ ⟨1,a,b⟩=(⟨0,[ZeG (n+ZeG a)],d,g⟩,n)):=by rw[t.o];exact if_pos ⟨rfl,rfl⟩
  rw[i.o]
  go_enter func124,ntmps124
  go_wp2_with(first | (go_at_call 173;refine(A.o _ _).mono ?_;rintro e K ⟨rfl,rfl⟩))
  go_ret;exact⟨rfl,z.o _ _⟩
 ·have I:(f == 1)=false:=beq_eq_false_iff_ne.2 j
  by_cases h:f=7
  ·have C:(f == 7)=true:=beq_iff_eq.2 h
   have i:Hid (Zhn ⟨0,l,d,g⟩ ⟨f,a,b⟩=(⟨0,l,d,g⟩,n)):=by
    rw[t.o];unfold Zhn;rw[if_neg (by simp;omega),if_neg (by simp),if_pos h]
    exact rfl
   rw[i.o];clear j h
   go_enter func124,ntmps124
   go_wp2;go_ret;exact⟨rfl,u.o.alloc _,y.o _⟩
  ·have C:(f == 7)=false:=beq_eq_false_iff_ne.2 h
   have i:Hid (Zhn ⟨0,l,d,g⟩ ⟨f,a,b⟩=(⟨0,l,d,g⟩,0)):=by
    unfold Zhn;rw[if_neg (by simp;omega),if_neg (by simp),if_neg h]
    exact rfl
   rw[i.o];clear j h
   go_enter func124,ntmps124
   go_wp2;go_ret;exact⟨rfl,u.o.alloc _,y.o _⟩
theorem ZpP (v:Value) (l:List Int) (o:Opn) (d:Bool) (g:Int) (B:Nat) (w:World) (p:ZaB w B v l) (x:l.length=1):
 Calls prog 125 #[v,opV o] w fun e w'=>e=.returned (.int .i64 (Zhn ⟨1,l,d,g⟩ o).2)∧ZaB w' B v (Zhn ⟨1,l,d,g⟩ o).1.L∧Mv w w' v v:=by
 obtain⟨f,a,b⟩:=o;have u:=Zac p;have y:Hid (∀ X,Mv w (w.alloc X) v v):=fun X=>Mv.alloc w v X
 have A:=Zac (fun n w=>ZhN n w)
 obtain⟨c,cap,rfl,k,E,q⟩:=p.single x;have z:=Zac q;have D:=fun X=>(k X).1
 have F:=fun X=>(k X).2
 clear q p k;obtain⟨n,m⟩:∃ n,n=l.getD 0 0:=⟨_,rfl⟩;simp only [<-m] at D;have t:=Zac m;clear m x;show Calls prog _ #[_,.agg #[.int .i64 f,.int .i64 a,.int .i64 b]] w _;by_cases j:f=2
 ·subst j
  have i:Hid (Zhn ⟨1,l,d,g⟩ ⟨2,a,b⟩=(⟨1,[ZeG a],d,g⟩,n)):=by rw[t.o];exact rfl
  rw[i.o]
  go_enter func125,ntmps125
  go_wp2_with(first | (go_at_call 173;refine(A.o _ _).mono ?_;rintro e H ⟨rfl,rfl⟩))
  go_ret;exact⟨rfl,z.o _ _⟩
 ·have G:(f == 2)=false:=beq_eq_false_iff_ne.2 j
  by_cases h:f=7
  ·have C:(f == 7)=true:=beq_iff_eq.2 h
   have i:Hid (Zhn ⟨1,l,d,g⟩ ⟨f,a,b⟩=(⟨1,l,d,g⟩,n)):=by
    rw[t.o];unfold Zhn;rw[if_neg (by simp),if_neg (by simp;omega),if_pos h]
    exact rfl
   rw[i.o];clear j h
   go_enter func125,ntmps125
   go_wp2;go_ret;exact⟨rfl,u.o.alloc _,y.o _⟩
  ·have C:(f == 7)=false:=beq_eq_false_iff_ne.2 h
   have i:Hid (Zhn ⟨1,l,d,g⟩ ⟨f,a,b⟩=(⟨1,l,d,g⟩,0)):=by
    unfold Zhn;rw[if_neg (by simp),if_neg (by simp;omega),if_neg h]
    exact rfl
   rw[i.o];clear j h
   go_enter func125,ntmps125
   go_wp2;go_ret;exact⟨rfl,u.o.alloc _,y.o _⟩
theorem ZAL (kind:Int) (P:kind=2∨kind=3) (v:Value) (l:List Int) (j:Bool) (g a b:Int) (B:Nat) (w:World) (k:ZaB w B v l) (q:∀ x ∈ l,I64 x) (K:l.length<=64):
 Calls prog 174 #[.int .i64 kind,v] w fun e w'=>Zhd B w v (Zcr ⟨kind,l,j,g⟩ ⟨4,a,b⟩).1.L (Zcr ⟨kind,l,j,g⟩ ⟨4,a,b⟩).2 e w':=by
 have n:=Zac k;have H:=k.shape;by_cases d:l.length=0
 ·have f:Hid (Zcr ⟨kind,l,j,g⟩ ⟨4,a,b⟩=(⟨kind,l,j,g⟩,-1)):=by
   unfold Zcr;rw[if_neg (by simp),if_pos rfl,if_pos d]
   exact rfl
  rw[f.o];obtain⟨ao,cap,rfl⟩:=H;rw[d]
  have U:Hid (ZaB w B (.slice ao 0 cap) l):=by
   have h:=n.o
   rwa [d] at h
  clear n k d f q K
  go_enter func174,ntmps174
  go_wp2;go_ret2;exact⟨_,rfl,U.o,Mv.refl _ _⟩
 ·have W:((l.length:Int) == 0)=false:=beq_eq_false_iff_ne.2 (by omega)
  have D:l≠[]:=fun h=>d (by rw[h];rfl)
  have V:=k.rd q;obtain⟨ao,cap,rfl⟩:=H
  have u:Hid (∀ i:Nat,i<l.length->∀ I J,I=(i:Int)->J=((i+1:Nat):Int)->Calls prog 210 #[.slice ao l.length cap,.int .i64 I,.int .i64 J] w fun e w'=>∃ v',e=.returned v'∧ZaB w' B v' (l.take i++l.drop (i+1))∧Mv w w' (.slice ao l.length cap) v'):=
   fun i q I J X S=>ZkT _ l B w n.o i (i+1) (by omega) (by omega) I J X S
  obtain⟨ac,Z,F,-,-,-,-,Q⟩:=V;simp only [Value.slice.injEq] at F;obtain⟨rfl,-,rfl⟩:=F;rcases Q with R | ⟨c,aa,rfl,z⟩
  ·exact absurd R D
  rcases P with rfl | rfl
  ·have f:Hid (Zcr ⟨2,l,j,g⟩ ⟨4,a,b⟩=(⟨2,l.take 0++l.drop (0+1),j,g⟩,l.getD 0 0)):=by
    unfold Zcr;rw[if_neg (by simp),if_pos rfl,if_neg d,if_pos rfl]
    exact rfl
   rw[f.o];have C:=z 0 (by omega)
   rw[Nat.add_zero] at C;have p:=Zac (u.o 0 (by omega))
   have Y:(0:Int)<(l.length:Int):=by omega
   generalize l.getD 0 0=y at *;generalize l.take 0++l.drop (0+1)=L' at *;clear z u f d D k q n
   go_enter func174,ntmps174
   go_wp2_with fail
   refine(p.o _ _ (by simp) (by simp)).mono ?_
   rintro e O ⟨T,rfl,t,m⟩;have E:=Zac t;have A:=Zac m;clear t m;go_wp2;go_ret2;exact⟨_,rfl,E.o,A.o⟩
  ·have f:Hid (Zcr ⟨3,l,j,g⟩ ⟨4,a,b⟩=(⟨3,l.take (l.length-1)++l.drop (l.length-1+1),j,g⟩,l.getD (l.length-1) 0)):=by
    unfold Zcr;rw[if_neg (by simp),if_pos rfl,if_neg d,if_neg (by simp)]
    have e:l.drop (l.length-1+1)=[]:=List.drop_of_length_le (by omega)
    rw[e,List.append_nil];exact rfl
   rw[f.o];have C:=z (l.length-1) (by omega)
   have p:=Zac (u.o (l.length-1) (by omega))
   obtain⟨M,N⟩:∃ M,M=l.length-1:=⟨_,rfl⟩;rw[<-N] at C p ⊢;have G:l.length=M+1:=by omega
   generalize l.getD M 0=y at *;generalize l.take M++l.drop (M+1)=L' at *;clear z u f d D k q n N W;rw[G] at p ⊢;have ab:(M:Int)<64:=by omega
   clear G K
   go_enter func174,ntmps174
   go_wp2_with fail
   refine(p.o _ _ (by simp) (by simp)).mono ?_
   rintro e O ⟨T,rfl,t,m⟩;have E:=Zac t;have A:=Zac m;clear t m;go_wp2;go_ret2;exact⟨_,rfl,E.o,A.o⟩
theorem ZbL {b:Int} (h:a=b):Ending.returned (.tuple #[v,.int .i64 a])=.returned (.tuple #[v,.int .i64 b]):=by rw[h]
theorem Zzn (kind:Int) (k:kind=2∨kind=3) (v:Value) (l:List Int) (o:Opn) (c:Bool) (g:Int) (B:Nat) (w:World) (h:ZaB w B v l) (R:B<=w.heap.size) (m:∀ x ∈ l,I64 x) (u:l.length<=64):
 Calls prog 126 #[.int .i64 kind,v,opV o] w fun e w'=>Zhd B w v (Zcr ⟨kind,l,c,g⟩ o).1.L (Zcr ⟨kind,l,c,g⟩ o).2 e w':=by
 obtain⟨f,a,b⟩:=o;have t:=Zac h;have y:Hid (∀ X,Mv w (w.alloc X) v v):=fun X=>Mv.alloc w v X
 have K:=Zac (fun n w=>ZhN n w)
 show Calls prog _ #[_,_,.agg #[.int .i64 f,.int .i64 a,.int .i64 b]] w _;by_cases j:f=3
 ·subst j
  obtain⟨ao,cap,rfl⟩:=h.shape;by_cases C:l.length=64
  ·have d:Hid (Zcr ⟨kind,l,c,g⟩ ⟨3,a,b⟩=(⟨kind,l,c,g⟩,-1)):=by
    unfold Zcr;rw[if_pos rfl,if_pos C];exact rfl
   rw[d.o];have Q:((l.length:Int) == 64)=true:=beq_iff_eq.2 (by omega)
   clear C d h m u k
   go_enter func126,ntmps126
   go_wp2;go_ret2;exact⟨_,rfl,t.o.alloc _,y.o _⟩
  ·have d:Hid (Zcr ⟨kind,l,c,g⟩ ⟨3,a,b⟩=(⟨kind,l++[ZeG a],c,g⟩,(l.length:Int)+1)):=by
    unfold Zcr;rw[if_pos rfl,if_neg C];exact rfl
   rw[d.o];have Q:((l.length:Int) == 64)=false:=beq_eq_false_iff_ne.2 (by omega)
   obtain⟨L',A⟩:∃ L',L'=l++[ZeG a]:=⟨_,rfl⟩;rw[<-A];have N:=Zac A;have M:Hid ((L'.length:Int)=(l.length:Int)+1):=by rw[A,length_append];exact rfl
   clear C d h m k A
   go_enter func126,ntmps126
   go_wp2_with(first | (go_at_call 173;refine(K.o _ _).mono ?_;rintro e U ⟨rfl,rfl⟩) | (at_builtin;refine Zhy _ rfl _ _ rfl B _ l rfl (t.o.alloc _) _ _ rfl (by simp[Act.eval]) (by omega) (by simp;omega) ?_))
   intro P H i F G;have z:=Mv.app F (by simp) G
   clear F G;rw[<-N.o] at i;have E:=Zac i;obtain⟨S,T,rfl⟩:=i.shape;have D:=Zac ((y.o _).trans z);clear i z;go_wp2;go_ret2;exact⟨_,ZbL M.o,E.o,D.o⟩
 ·have J:(f == 3)=false:=beq_eq_false_iff_ne.2 j
  by_cases q:f=4
  ·subst q
   have I:Hid (∀ X,Calls prog 174 #[.int .i64 kind,v] (w.alloc X) fun e w'=>Zhd B (w.alloc X) v (Zcr ⟨kind,l,c,g⟩ ⟨4,a,b⟩).1.L (Zcr ⟨kind,l,c,g⟩ ⟨4,a,b⟩).2 e w'):=fun X=>ZAL kind k v l c g a b B (w.alloc X) (t.o.alloc X) m u
   generalize (Zcr ⟨kind,l,c,g⟩ ⟨4,a,b⟩).1.L=L' at *;generalize (Zcr ⟨kind,l,c,g⟩ ⟨4,a,b⟩).2=n at *;clear h m u k j J
   go_enter func126,ntmps126
   go_wp2_with fail
   refine(I.o _).mono ?_;rintro e H ⟨P,rfl,i,z⟩;have E:=Zac i;have D:=Zac ((y.o _).trans z);clear i z;go_wp2;go_ret2;exact⟨_,rfl,E.o,D.o⟩
  ·have V:(f == 4)=false:=beq_eq_false_iff_ne.2 q
   obtain⟨ao,cap,rfl⟩:=h.shape;by_cases p:f=7
   ·have O:(f == 7)=true:=beq_iff_eq.2 p
    have d:Hid (Zcr ⟨kind,l,c,g⟩ ⟨f,a,b⟩=(⟨kind,l,c,g⟩,(l.length:Int))):=by
     unfold Zcr;rw[if_neg j,if_neg q,if_pos p];exact rfl
    rw[d.o];clear h m u k j q p d
    go_enter func126,ntmps126
    go_wp2;go_ret2;exact⟨_,rfl,t.o.alloc _,y.o _⟩
   ·have O:(f == 7)=false:=beq_eq_false_iff_ne.2 p
    have d:Hid (Zcr ⟨kind,l,c,g⟩ ⟨f,a,b⟩=(⟨kind,l,c,g⟩,0)):=by
     unfold Zcr;rw[if_neg j,if_neg q,if_neg p];exact rfl
    rw[d.o];clear h m u k j q p d
    go_enter func126,ntmps126
    go_wp2;go_ret2;exact⟨_,rfl,t.o.alloc _,y.o _⟩
theorem ZaB.drew (h:ZaB w B v l):ZaB w.drew B v l:=h
theorem ZeC (key:Int) (l:List Int):Zdr key 0 l<0↔ZdO key l=false:=by
 rw[Zhw];unfold ZdO
 cases Zcp key l <;> simp
theorem Zxd (h:ZdO key l=true):ZtS key l=(Zcp key l).getD 0:=by
 rw[Zra];unfold ZdO at h
 cases hg:Zcp key l with
 | none=>rw[hg] at h;simp at h
 | some x=>rfl
theorem Zoi (h:ZdO key l=false):ZtS key l=-1:=by
 rw[Zra];unfold ZdO at h
 cases hg:Zcp key l with
 | none=>rfl
 | some x=>rw[hg] at h;simp at h
theorem ZuJ (v:Value) (l:List Int) (o:Opn) (aa:Bool) (g:Int) (B:Nat) (w:World) (ho:ZaB w B v l) (hB:B<=w.heap.size) (T:Zat (-1099511627776) (-1) l) (ah:l.length<=128):
 Calls prog 127 #[v,opV o] w fun e w'=>Zhd B w v (Zcd ⟨4,l,aa,g⟩ o).1.L (Zcd ⟨4,l,aa,g⟩ o).2 e w':=by
 obtain⟨c,a,b⟩:=o;have Z:=Zdw (by decide) (by decide) T
 have HO:=Zac ho;have ad:Hid (∀ X,Mv w (w.alloc X) v v):=fun X=>Mv.alloc w v X
 have HC:=Zac (fun n w=>ZhN n w)
 have HW:=Zac (fun p q W=>ZcJ p q W)
 have HS:=Zac (fun n l2 i a2 b2 W Q p2=>ZgG n l2 i a2 b2 W Q p2)
 have Y:Hid (∀ W,ZaB W B v l->Calls prog 175 #[v,.int .i64 a] W fun e w'=>e=.returned (.tuple #[.int .i64 ((Zcp a l).getD 0),.bool (ZdO a l)])∧Below W.heap.size W w'):=fun W h=>ZjV v l a _ _ W (h.rd Z) T (by omega)
 have ag:Hid (∀ n W,ZaB W B v l->B<=W.heap.size->Calls prog 178 #[v,.int .i64 a,.int .i64 n] W fun e w'=>∃ v',e=.returned v'∧ZaB w' B v' (ZaO a n false l)∧Mv W w' v v'):=fun n W f i=>ZjW v l a n _ _ B W f i Z T (by omega)
 have af:Hid (∀ W,ZaB W B v l->B<=W.heap.size->Calls prog 176 #[v,.int .i64 a] W fun e w'=>∃ v',e=.returned v'∧ZaB w' B v' (Zbe a l)∧Mv W w' v v'):=fun W f _=>Zzm v l a _ _ B W f Z T (by omega)
 obtain⟨ao,cap,rfl⟩:=ho.shape;have ae:Hid (∀ W,Calls prog 177 #[.slice ao l.length cap] W fun e w'=>e=.returned (.bool (decide (l.length=128)))∧w'=W):=fun W=>Zoh ao l.length cap W
 obtain⟨L',n',hE⟩:∃ L' n',Zcd ⟨4,l,aa,g⟩ ⟨c,a,b⟩=(⟨4,L',aa,g⟩,n'):=by
  unfold Zcd
  repeat' split
  all_goals exact⟨_,_,rfl⟩
 rw[hE];have E:=Zac hE;clear hE ho T Z;show Calls prog _ #[_,.agg #[.int .i64 c,.int .i64 a,.int .i64 b]] w fun e w'=>Zhd B w (.slice ao l.length cap) L' n' e w'
 by_cases hk:0<=a∧a<=255
 ·have HN:=Zac (decide_eq_true hk)
  have F:Hid (¬ (a<0∨255<a)):=by
   show ¬ (a<0∨255<a);omega
  clear hk
  cases hh:ZdO a l
  ·have ab:=Zac ((ZeC a l).2 hh)
   have O:=Zac (Zoi hh);rw[hh] at Y;clear hh;generalize (Zcp a l).getD 0=y at *
   go_enter func127,ntmps127
   go_wp2_with fail
   refine(HW.o _ _ _).mono ?_;rintro e V ⟨a1,b1,rfl,K,I,k⟩;have j:=(k.block w.heap.size (by simp)).trans (heap_alloc_new w _)
   have Q:=cell_of_row V w.heap.size 1 _ _ _ j;have J:=Zac j;have P:=Zac ((ad.o _).trans (Mv.ofBelow k _));have H:=Zac ((HO.o.alloc _).below k zL);clear k j
   go_wp2_with fail
   refine(HS.o _ _ _ _ _ _ K I).mono ?_;rintro e u ⟨rfl,rfl⟩;rw[HN.o];clear K I
   go_wp2_with fail
   refine(Y.o _ H.o).mono ?_;rintro e u ⟨rfl,G⟩;have j:=(G.block w.heap.size (Array.getElem?_eq_some_iff.1 J.o).1).trans J.o;have p0:=cell_of_row u w.heap.size 0 _ _ _ j;have q1:=cell_of_row u w.heap.size 1 _ _ _ j;have q2:=cell_of_row u w.heap.size 2 _ _ _ j;have z:=Zac (P.o.trans (Mv.ofBelow G _));have D:=Zac (H.o.below G zL);have S:B<=u.heap.size:=Nat.le_trans hB z.o.size;clear G j J P H Q;by_cases m:c=7
   ·have d:Hid (L'=l∧n'=-1):=by
     have h:=E.o;unfold Zcd at h;rw[if_neg F.o,if_neg (show ¬ (c≠7∧c≠6∧c≠5) by omega),if_neg (show ¬ c=6 by omega),if_neg (show ¬ c=5 by omega),O.o] at h
     injection h with f i
     injection f with _ h3
     exact⟨h3.symm,i.symm⟩
    have e7:(c == 7)=true:=beq_iff_eq.2 m;clear m;go_wp2;go_ret2;exact⟨_,ZbL d.o.2.symm,by rw[d.o.1];exact D.o,z.o⟩
   ·have e7:(c == 7)=false:=beq_eq_false_iff_ne.2 m
    by_cases x:c=6
    ·have d:Hid (L'=Zbe a l∧n'=-1):=by
      have h:=E.o;unfold Zcd at h;rw[if_neg F.o,if_neg (show ¬ (c≠7∧c≠6∧c≠5) by omega),if_pos (show c=6 by omega),O.o] at h
      injection h with f i
      injection f with _ h3
      exact⟨h3.symm,i.symm⟩
     have e6:(c == 6)=true:=beq_iff_eq.2 x;clear x m
     go_wp2_with fail
     refine(af.o _ D.o S).mono ?_;rintro e U ⟨v3,rfl,C,A⟩;have N:=Zac (z.o.trans A);have M:=Zac C;clear C A;go_wp2;go_ret2;exact⟨_,ZbL d.o.2.symm,by rw[d.o.1];exact M.o,N.o⟩
    ·have e6:(c == 6)=false:=beq_eq_false_iff_ne.2 x
     by_cases t:c=5
     ·have e5:(c == 5)=true:=beq_iff_eq.2 t
      by_cases R:l.length=128
      ·have d:Hid (L'=l∧n'=-2):=by
        have h:=E.o;unfold Zcd at h;rw[if_neg F.o,if_neg (show ¬ (c≠7∧c≠6∧c≠5) by omega),if_neg (show ¬ c=6 by omega),if_pos t,if_pos ⟨ab.o,R⟩] at h
        injection h with f i
        injection f with _ h3
        exact⟨h3.symm,i.symm⟩
       have ac:=Zac (decide_eq_true R);clear t x m R
       go_wp2_with fail
       refine(ae.o _).mono ?_;rintro e U ⟨rfl,rfl⟩;rw[ac.o];go_wp2;go_ret2;exact⟨_,ZbL d.o.2.symm,by rw[d.o.1];exact D.o,z.o⟩
      ·have d:Hid (L'=ZaO a (ZeG b) false l∧n'=-1):=by
        have h:=E.o;unfold Zcd at h;rw[if_neg F.o,if_neg (show ¬ (c≠7∧c≠6∧c≠5) by omega),if_neg (show ¬ c=6 by omega),if_pos t,if_neg (fun h=>R h.2),O.o] at h
        injection h with f i
        injection f with _ h3
        exact⟨h3.symm,i.symm⟩
       have ac:=Zac (decide_eq_false R);clear R;clear t x m
       go_wp2_with fail
       refine(ae.o _).mono ?_;rintro e U ⟨rfl,rfl⟩;rw[ac.o];go_wp2
       go_region_with
        (first
         | (go_at_call 173;refine(HC.o _ _).mono ?_;rintro e w3 ⟨rfl,rfl⟩)
         | (go_at_call 178;refine(ag.o _ _ D.o.drew S).mono ?_;rintro e U ⟨v3,rfl,C,A⟩;have N:=Zac (z.o.drew.trans A);have M:=Zac C;clear C A))
       all_goals
        go_wp2;go_ret2;exact⟨_,ZbL d.o.2.symm,by rw[d.o.1];exact M.o,N.o⟩
     ·have e5:(c == 5)=false:=beq_eq_false_iff_ne.2 t
      have d:Hid (L'=l∧n'=0):=by
       have h:=E.o;unfold Zcd at h;rw[if_neg F.o,if_pos (show(c≠7∧c≠6∧c≠5) by omega)] at h
       injection h with f i
       injection f with _ h3
       exact⟨h3.symm,i.symm⟩
      clear t x m;go_wp2;go_ret2;exact⟨_,ZbL d.o.2.symm,by rw[d.o.1];exact D.o,z.o⟩
  ·have ab:Hid (¬ Zdr a 0 l<0):=fun h=>by rw[(ZeC a l).1 h] at hh;cases hh
   have O:=Zac (Zxd hh);rw[hh] at Y;clear hh;generalize (Zcp a l).getD 0=y at *
   go_enter func127,ntmps127
   go_wp2_with fail
   refine(HW.o _ _ _).mono ?_;rintro e V ⟨a1,b1,rfl,K,I,k⟩;have j:=(k.block w.heap.size (by simp)).trans (heap_alloc_new w _)
   have Q:=cell_of_row V w.heap.size 1 _ _ _ j;have J:=Zac j;have P:=Zac ((ad.o _).trans (Mv.ofBelow k _));have H:=Zac ((HO.o.alloc _).below k zL);clear k j
   go_wp2_with fail
   refine(HS.o _ _ _ _ _ _ K I).mono ?_;rintro e u ⟨rfl,rfl⟩;rw[HN.o];clear K I
   go_wp2_with fail
   refine(Y.o _ H.o).mono ?_;rintro e u ⟨rfl,G⟩;have j:=(G.block w.heap.size (Array.getElem?_eq_some_iff.1 J.o).1).trans J.o;have p0:=cell_of_row u w.heap.size 0 _ _ _ j;have q1:=cell_of_row u w.heap.size 1 _ _ _ j;have q2:=cell_of_row u w.heap.size 2 _ _ _ j;have z:=Zac (P.o.trans (Mv.ofBelow G _));have D:=Zac (H.o.below G zL);have S:B<=u.heap.size:=Nat.le_trans hB z.o.size;clear G j J P H Q;by_cases m:c=7
   ·have d:Hid (L'=l∧n'=y):=by
     have h:=E.o;unfold Zcd at h;rw[if_neg F.o,if_neg (show ¬ (c≠7∧c≠6∧c≠5) by omega),if_neg (show ¬ c=6 by omega),if_neg (show ¬ c=5 by omega),O.o] at h
     injection h with f i
     injection f with _ h3
     exact⟨h3.symm,i.symm⟩
    have e7:(c == 7)=true:=beq_iff_eq.2 m;clear m;go_wp2;go_ret2;exact⟨_,ZbL d.o.2.symm,by rw[d.o.1];exact D.o,z.o⟩
   ·have e7:(c == 7)=false:=beq_eq_false_iff_ne.2 m
    by_cases x:c=6
    ·have d:Hid (L'=Zbe a l∧n'=y):=by
      have h:=E.o;unfold Zcd at h;rw[if_neg F.o,if_neg (show ¬ (c≠7∧c≠6∧c≠5) by omega),if_pos (show c=6 by omega),O.o] at h
      injection h with f i
      injection f with _ h3
      exact⟨h3.symm,i.symm⟩
     have e6:(c == 6)=true:=beq_iff_eq.2 x;clear x m
     go_wp2_with fail
     refine(af.o _ D.o S).mono ?_;rintro e U ⟨v3,rfl,C,A⟩;have N:=Zac (z.o.trans A);have M:=Zac C;clear C A;go_wp2;go_ret2;exact⟨_,ZbL d.o.2.symm,by rw[d.o.1];exact M.o,N.o⟩
    ·have e6:(c == 6)=false:=beq_eq_false_iff_ne.2 x
     by_cases t:c=5
     ·have e5:(c == 5)=true:=beq_iff_eq.2 t
      have d:Hid (L'=ZaO a (ZeG b) false l∧n'=y):=by
       have h:=E.o;unfold Zcd at h;rw[if_neg F.o,if_neg (show ¬ (c≠7∧c≠6∧c≠5) by omega),if_neg (show ¬ c=6 by omega),if_pos t,if_neg (fun h=>absurd (show Zdr a 0 l<0 from h.1) (by have:=ab.o;omega)),O.o] at h
       injection h with f i
       injection f with _ h3
       exact⟨h3.symm,i.symm⟩
      clear t x m;go_wp2
      go_region_with
       (first
        | (go_at_call 173;refine(HC.o _ _).mono ?_;rintro e w3 ⟨rfl,rfl⟩)
        | (go_at_call 178;refine(ag.o _ _ D.o.drew S).mono ?_;rintro e U ⟨v3,rfl,C,A⟩;have N:=Zac (z.o.drew.trans A);have M:=Zac C;clear C A))
      all_goals
       go_wp2;go_ret2;exact⟨_,ZbL d.o.2.symm,by rw[d.o.1];exact M.o,N.o⟩
     ·have e5:(c == 5)=false:=beq_eq_false_iff_ne.2 t
      have d:Hid (L'=l∧n'=0):=by
       have h:=E.o;unfold Zcd at h;rw[if_neg F.o,if_pos (show(c≠7∧c≠6∧c≠5) by omega)] at h
       injection h with f i
       injection f with _ h3
       exact⟨h3.symm,i.symm⟩
      clear t x m;go_wp2;go_ret2;exact⟨_,ZbL d.o.2.symm,by rw[d.o.1];exact D.o,z.o⟩
 ·have HN:=Zac (decide_eq_false hk)
  have d:Hid (L'=l∧n'=-1):=by
   have h:=E.o;unfold Zcd at h;rw[if_pos (show a<0∨255<a by omega)] at h
   injection h with f i
   injection f with _ h3
   exact⟨h3.symm,i.symm⟩
  clear hk
  go_enter func127,ntmps127
  go_wp2_with fail
  refine(HW.o _ _ _).mono ?_;rintro e V ⟨a1,b1,rfl,K,I,k⟩;have j:=(k.block w.heap.size (by simp)).trans (heap_alloc_new w _)
  have Q:=cell_of_row V w.heap.size 1 _ _ _ j;have J:=Zac j;have P:=Zac ((ad.o _).trans (Mv.ofBelow k _));have H:=Zac ((HO.o.alloc _).below k zL);clear k j
  go_wp2_with fail
  refine(HS.o _ _ _ _ _ _ K I).mono ?_;rintro e u ⟨rfl,rfl⟩;rw[HN.o];clear K I;go_wp2;go_ret2;exact⟨_,ZbL d.o.2.symm,by rw[d.o.1];exact H.o,P.o⟩
theorem ZrI (v:Value) (l:List Int) (a b:Int) (i:Bool) (g:Int) (B:Nat) (w:World) (T:ZaB w B v l) (hB:B<=w.heap.size) (C:Zat 0 (-1) l) (ad:l.length<=128):
 Calls prog 179 #[v,.int .i64 a,.int .i64 b] w fun e w'=>Zhd B w v (ZaZ ⟨5,l,i,g⟩ ⟨8,a,b⟩).1.L (ZaZ ⟨5,l,i,g⟩ ⟨8,a,b⟩).2 e w':=by
 have R:=Zdw (by decide) (by decide) C
 have N:=Zac T;have HC:=Zac (fun n w=>ZhN n w)
 have V:=Zac (fun p q W=>ZcJ p q W)
 have K:=Zac (fun n l2 d a2 b2 W p1 p2=>ZgG n l2 d a2 b2 W p1 p2)
 have ac:Hid (∀ W,ZaB W B v l->Calls prog 175 #[v,.int .i64 a] W fun e w'=>e=.returned (.tuple #[.int .i64 (Zde a l),.bool (ZdO a l)])∧Below W.heap.size W w'):=fun W h=>by
  rw[Zkk];exact ZjV v l a _ _ W (h.rd R) C (by omega)
 have Z:Hid (∀ n W,ZaB W B v l->B<=W.heap.size->Calls prog 178 #[v,.int .i64 a,.int .i64 n] W fun e w'=>∃ v',e=.returned v'∧ZaB w' B v' (ZaO a n false l)∧Mv W w' v v'):=fun n W k d=>ZjW v l a n _ _ B W k d R C (by omega)
 have af:=ZdX C a;obtain⟨ao,cap,rfl⟩:=T.shape;have ab:Hid (∀ W,Calls prog 177 #[.slice ao l.length cap] W fun e w'=>e=.returned (.bool (decide (l.length=128)))∧w'=W):=fun W=>Zoh ao l.length cap W
 obtain⟨L',n',J⟩:∃ L' n',ZaZ ⟨5,l,i,g⟩ ⟨8,a,b⟩=(⟨5,L',i,g⟩,n'):=by
  unfold ZaZ;rw[if_neg (by simp),if_neg (by simp)]
  repeat' split
  all_goals exact⟨_,_,rfl⟩
 rw[J];have X:=Zac J
 have G:Hid ((if a<0∨255<a then((⟨5,l,i,g⟩:St),(-1:Int)) else if b<0 then(⟨5,l,i,g⟩,-1) else if Zdr a 0 l<0∧l.length=128 then(⟨5,l,i,g⟩,-2) else(⟨5,ZaO a (ZeG (Zde a l+ZeG b)) false l,i,g⟩,ZeG (Zde a l+ZeG b)))=(⟨5,L',i,g⟩,n')):=by
  refine Zac ?_;have h:=X.o;unfold ZaZ at h;rw[if_neg (by simp),if_neg (by simp)] at h
  simpa using h
 clear J T C R X;show Calls prog _ _ w fun e w'=>Zhd B w (.slice ao l.length cap) L' n' e w'
 have ae:=Zfj b;by_cases F:0<=a∧a<=255
 ·have E:=Zac (decide_eq_true F)
  have S:Hid (¬ (a<0∨255<a)):=by
   show ¬ (a<0∨255<a);omega
  clear F;by_cases hb:b<0
  ·have c:Hid (L'=l∧n'=-1):=by
    have h:=G.o;rw[if_neg S.o,if_pos hb] at h
    injection h with k d
    injection k with _ h3
    exact⟨h3.symm,d.symm⟩
   go_enter func179,ntmps179
   go_wp2_with fail
   refine(V.o _ _ _).mono ?_;rintro e Y ⟨a1,b1,rfl,u,x,f⟩;have t:=Zac (Mv.ofBelow f (.slice ao l.length cap));have m:=Zac (N.o.below f zL);clear f
   go_wp2_with fail
   refine(K.o _ _ _ _ _ _ u x).mono ?_;rintro e D ⟨rfl,rfl⟩;rw[E.o];go_wp2;go_ret2;exact⟨_,ZbL c.o.2.symm,by rw[c.o.1];exact m.o,t.o⟩
  ·go_enter func179,ntmps179
   go_wp2_with fail
   refine(V.o _ _ _).mono ?_;rintro e Y ⟨a1,b1,rfl,u,x,f⟩;have t:=Zac (Mv.ofBelow f (.slice ao l.length cap));have m:=Zac (N.o.below f zL);clear f
   go_wp2_with fail
   refine(K.o _ _ _ _ _ _ u x).mono ?_;rintro e D ⟨rfl,rfl⟩;rw[E.o];clear u x
   go_wp2_with fail
   refine(ac.o _ m.o).mono ?_;rintro e D ⟨rfl,M⟩;have H:=Zac (t.o.trans (Mv.ofBelow M _));have U:=Zac (m.o.below M zL);have aa:B<=D.heap.size:=Nat.le_trans hB H.o.size;clear M t m;by_cases j:ZdO a l=false∧l.length=128
   ·have c:Hid (L'=l∧n'=-2):=by
     have h:=G.o;rw[if_neg S.o,if_neg (show ¬ b<0 by omega),if_pos ⟨(ZeC a l).2 j.1,j.2⟩] at h
     injection h with k d
     injection k with _ h3
     exact⟨h3.symm,d.symm⟩
    have I:=Zac (decide_eq_true j.2);rw[j.1];clear j
    go_wp2_with fail
    refine(ab.o _).mono ?_;rintro e O ⟨rfl,rfl⟩;rw[I.o];go_wp2;go_ret2;exact⟨_,ZbL c.o.2.symm,by rw[c.o.1];exact U.o,H.o⟩
   ·have c:Hid (L'=ZaO a (ZeG (Zde a l+ZeG b)) false l∧n'=ZeG (Zde a l+ZeG b)):=by
     have h:=G.o;rw[if_neg S.o,if_neg (show ¬ b<0 by omega),if_neg (fun h=>j ⟨(ZeC a l).1 h.1,h.2⟩)] at h
     injection h with k d
     injection k with _ h3
     exact⟨h3.symm,d.symm⟩
    generalize Zde a l=y at *
    cases hh:ZdO a l
    ·have I:=Zac (decide_eq_false (fun h=>j ⟨hh,h⟩))
     clear j hh
     go_wp2_with fail
     refine(ab.o _).mono ?_;rintro e O ⟨rfl,rfl⟩;rw[I.o]
     go_wp2_with(first | (go_at_call 173;refine(HC.o _ _).mono ?_;rintro e w3 ⟨rfl,rfl⟩) | (go_at_call 178;refine(Z.o _ _ U.o aa).mono ?_;rintro e O ⟨v3,rfl,A,z⟩;have P:=Zac (H.o.trans z);have Q:=Zac A;clear A z))
     go_ret2;exact⟨_,ZbL c.o.2.symm,by rw[c.o.1];exact Q.o,P.o⟩
    ·clear j hh
     go_wp2_with(first | (go_at_call 173;refine(HC.o _ _).mono ?_;rintro e w3 ⟨rfl,rfl⟩) | (go_at_call 178;refine(Z.o _ _ U.o aa).mono ?_;rintro e O ⟨v3,rfl,A,z⟩;have P:=Zac (H.o.trans z);have Q:=Zac A;clear A z))
     go_ret2;exact⟨_,ZbL c.o.2.symm,by rw[c.o.1];exact Q.o,P.o⟩
 ·have E:=Zac (decide_eq_false F)
  have c:Hid (L'=l∧n'=-1):=by
   have h:=G.o;rw[if_pos (show a<0∨255<a by omega)] at h
   injection h with k d
   injection k with _ h3
   exact⟨h3.symm,d.symm⟩
  clear F
  go_enter func179,ntmps179
  go_wp2_with fail
  refine(V.o _ _ _).mono ?_;rintro e Y ⟨a1,b1,rfl,u,x,f⟩;have t:=Zac (Mv.ofBelow f (.slice ao l.length cap));have m:=Zac (N.o.below f zL);clear f
  go_wp2_with fail
  refine(K.o _ _ _ _ _ _ u x).mono ?_;rintro e D ⟨rfl,rfl⟩;rw[E.o];go_wp2;go_ret2;exact⟨_,ZbL c.o.2.symm,by rw[c.o.1];exact m.o,t.o⟩
theorem Zzo (v:Value) (l:List Int) (ai a b:Int) (t:Bool) (g:Int) (B:Nat) (w:World) (ho:ZaB w B v l) (hB:B<=w.heap.size) (V:Zat 0 (-1) l) (aH:l.length<=128):
 Calls prog 180 #[v,.int .i64 a,.int .i64 b] w fun e w'=>Zhd B w v (Zep ⟨5,l,t,g⟩ ⟨ai,a,b⟩).1.L (Zep ⟨5,l,t,g⟩ ⟨ai,a,b⟩).2 e w':=by
 have hi:=Zdw (by decide) (by decide) V
 have HO:=Zac ho;have HW:=Zac (fun p q W=>ZcJ p q W)
 have HS:=Zac (fun n l2 d a2 b2 W p1 p2=>ZgG n l2 d a2 b2 W p1 p2)
 have aa:Hid (∀ k W,ZaB W B v l->Calls prog 175 #[v,.int .i64 k] W fun e w'=>e=.returned (.tuple #[.int .i64 (Zde k l),.bool (ZdO k l)])∧Below W.heap.size W w'):=fun k W h=>by
  rw[Zkk];exact ZjV v l k _ _ W (h.rd hi) V (by omega)
 obtain⟨ao,cap,rfl⟩:=ho.shape;have ac:Hid (∀ W,Calls prog 177 #[.slice ao l.length cap] W fun e w'=>e=.returned (.bool (decide (l.length=128)))∧w'=W):=fun W=>Zoh ao l.length cap W
 obtain⟨L',n',hE⟩:∃ L' n',Zep ⟨5,l,t,g⟩ ⟨ai,a,b⟩=(⟨5,L',t,g⟩,n'):=by
  unfold Zep
  repeat' split
  all_goals exact⟨_,_,rfl⟩
 rw[hE];have Z:=Zac hE;have Y:=Zac V;have HI:=Zac hi;clear hE ho V hi;show Calls prog _ _ w fun e w'=>Zhd B w (.slice ao l.length cap) L' n' e w'
 by_cases hk:0<=a∧a<=65535
 ·have X:=Zac (decide_eq_true hk)
  obtain⟨aq,aI⟩:=hk;by_cases hb:b<0
  ·have c:Hid (L'=l∧n'=0):=by
    have h:=Z.o;unfold Zep at h;rw[if_pos (.inr (.inr hb))] at h
    injection h with f d
    injection f with _ h3
    exact⟨h3.symm,d.symm⟩
   go_enter func180,ntmps180
   go_wp2_with fail
   refine(HW.o _ _ _).mono ?_;rintro e W1 ⟨a1,b1,rfl,J,C,j⟩;have I:=Zac (Mv.ofBelow j (.slice ao l.length cap));have u:=Zac (HO.o.below j zL);clear j
   go_wp2_with fail
   refine(HS.o _ _ _ _ _ _ J C).mono ?_;rintro e U ⟨rfl,rfl⟩;rw[X.o];go_wp2;go_ret2;exact⟨_,ZbL c.o.2.symm,by rw[c.o.1];exact u.o,I.o⟩
  ·have aG:0<=b:=by omega
   have m:Hid ((if Zdr (a / 256) 0 l<0∨Zde (a / 256) l<b then((⟨5,l,t,g⟩:St),(0:Int)) else if a / 256=a % 256 then(⟨5,l,t,g⟩,1) else if(Zdr (a % 256) 0 l<0∧l.length=128)∨1099511627776<Zde (a % 256) l+b then(⟨5,l,t,g⟩,0) else(⟨5,ZaO (a % 256) (Zde (a % 256) l+b) false (ZaO (a / 256) (Zde (a / 256) l-b) false l),t,g⟩,1))=(⟨5,L',t,g⟩,n')):=by
    have h:=Z.o;unfold Zep at h;rw[if_neg (by simp;omega)] at h
    exact h
   clear Z hb;have ap:Hid (a.tdiv 256=a / 256):=Int.tdiv_eq_ediv_of_nonneg aq;have aw:Hid (a.tmod 256=a % 256):=Int.tmod_eq_emod_of_nonneg aq;have aC:0<=a / 256:=by omega
   have ay:a / 256<=255:=by omega
   have aE:0<=a % 256:=by omega
   have aD:a % 256<=255:=by omega
   have aF:=ZdX Y.o (a / 256);have az:=ZdX Y.o (a % 256);obtain⟨F,hF⟩:∃ F,F=a / 256:=⟨_,rfl⟩;obtain⟨T,hT⟩:∃ T,T=a % 256:=⟨_,rfl⟩;rw[<-hF] at ap m aC ay aF;rw[<-hT] at aw m aE aD az;clear hF hT;have aJ:=ap.o;have aK:=aw.o
   go_enter func180,ntmps180
   go_wp2_with fail
   refine(HW.o _ _ _).mono ?_;rintro e W1 ⟨a1,b1,rfl,J,C,j⟩;have I:=Zac (Mv.ofBelow j (.slice ao l.length cap));have u:=Zac (HO.o.below j zL);clear j
   go_wp2_with fail
   refine(HS.o _ _ _ _ _ _ J C).mono ?_;rintro e U ⟨rfl,rfl⟩;rw[X.o];clear J C
   go_wp2_with fail
   refine(aa.o _ _ u.o).mono ?_;rintro e U ⟨rfl,am⟩;have H:=Zac (I.o.trans (Mv.ofBelow am _));have D:=Zac (u.o.below am zL);have aA:B<=U.heap.size:=Nat.le_trans hB H.o.size;clear am I u
   cases hh:ZdO F l
   ·have c:Hid (L'=l∧n'=0):=by
     have h:=m.o;rw[if_pos (.inl ((ZeC F l).2 hh))] at h
     injection h with f d
     injection f with _ h3
     exact⟨h3.symm,d.symm⟩
    clear hh;go_wp2;go_ret2;exact⟨_,ZbL c.o.2.symm,by rw[c.o.1];exact D.o,H.o⟩
   ·have E:Hid (¬ Zdr F 0 l<0):=fun h=>by rw[(ZeC F l).1 h] at hh;cases hh
    clear hh;by_cases ak:Zde F l<b
    ·have c:Hid (L'=l∧n'=0):=by
      have h:=m.o;rw[if_pos (.inr ak)] at h
      injection h with f d
      injection f with _ h3
      exact⟨h3.symm,d.symm⟩
     clear E;go_wp2;go_ret2;exact⟨_,ZbL c.o.2.symm,by rw[c.o.1];exact D.o,H.o⟩
    ·by_cases A:F=T
     ·have hq:(F == T)=true:=beq_iff_eq.2 A
      have c:Hid (L'=l∧n'=1):=by
       have h:=m.o;rw[if_neg (fun h=>h.elim E.o ak),if_pos A] at h
       injection h with f d
       injection f with _ h3
       exact⟨h3.symm,d.symm⟩
      clear E A;go_wp2;go_ret2;exact⟨_,ZbL c.o.2.symm,by rw[c.o.1];exact D.o,H.o⟩
     ·have hq:(F == T)=false:=beq_eq_false_iff_ne.2 A
      have ae:=Zac A;have al:=Zac ak;clear A
      go_wp2_with fail
      refine(aa.o _ _ D.o).mono ?_;rintro e W3 ⟨rfl,ad⟩;have G:=Zac (H.o.trans (Mv.ofBelow ad _));have N:=Zac (D.o.below ad zL);have au:B<=W3.heap.size:=Nat.le_trans hB G.o.size;clear ad H D aA;by_cases i:ZdO T l=false∧l.length=128
      ·have O:=Zac (decide_eq_true i.2)
       have c:Hid (L'=l∧n'=0):=by
        have h:=m.o;rw[if_neg (fun h=>by have:=E.o;have:=al.o;omega),if_neg ae.o,if_pos (.inl ⟨(ZeC T l).2 i.1,i.2⟩)] at h
        injection h with f d
        injection f with _ h3
        exact⟨h3.symm,d.symm⟩
       rw[i.1];clear i
       go_wp2_with fail
       refine(ac.o _).mono ?_;rintro e W4 ⟨rfl,rfl⟩;rw[O.o];go_wp2;go_ret2;exact⟨_,ZbL c.o.2.symm,by rw[c.o.1];exact N.o,G.o⟩
      ·by_cases ar:1099511627776<Zde T l+b
       ·have c:Hid (L'=l∧n'=0):=by
         have h:=m.o;rw[if_neg (fun h=>by have:=E.o;have:=al.o;omega),if_neg ae.o,if_pos (.inr ar)] at h
         injection h with f d
         injection f with _ h3
         exact⟨h3.symm,d.symm⟩
        cases hh:ZdO T l
        ·have O:=Zac (decide_eq_false (fun h=>i ⟨hh,h⟩))
         clear i hh
         go_wp2_with fail
         refine(ac.o _).mono ?_;rintro e W4 ⟨rfl,rfl⟩;rw[O.o];go_wp2;go_ret2;exact⟨_,ZbL c.o.2.symm,by rw[c.o.1];exact N.o,G.o⟩
        ·clear i hh
         go_wp2;go_ret2;exact⟨_,ZbL c.o.2.symm,by rw[c.o.1];exact N.o,G.o⟩
       ·have aB:=Zac ar
        have c:Hid (L'=ZaO T (Zde T l+b) false (ZaO F (Zde F l-b) false l)∧n'=1):=by
         have h:=m.o;rw[if_neg (fun h=>by have:=E.o;have:=al.o;omega),if_neg ae.o,if_neg (fun h=>h.elim (fun x=>i ⟨(ZeC T l).1 x.1,x.2⟩) (fun x=>by have:=aB.o;omega))] at h
         injection h with f d
         injection f with _ h3
         exact⟨h3.symm,d.symm⟩
        have ah:Hid (Zat 0 (-1) (ZaO F (Zde F l-b) false l)):=Zeb F _ 0 (by omega) (by omega) ay l (-1) Y.o (by omega)
        have ax:Hid ((ZaO F (Zde F l-b) false l).length<=1000000):=by
         have:=Zjc F (Zde F l-b) l false;show(ZaO F (Zde F l-b) false l).length<=1000000;omega
        have av:Hid (∀ W,ZaB W B (.slice ao l.length cap) l->B<=W.heap.size->Calls prog 178 #[.slice ao l.length cap,.int .i64 F,.int .i64 (Zde F l-b)] W fun e w'=>∃ v',e=.returned v'∧ZaB w' B v' (ZaO F (Zde F l-b) false l)∧Mv W w' (.slice ao l.length cap) v'):=fun W f d=>ZjW _ l F _ _ _ B W f d HI.o Y.o (by omega)
        have an:Hid (∀ Q W,ZaB W B Q (ZaO F (Zde F l-b) false l)->B<=W.heap.size->Calls prog 178 #[Q,.int .i64 T,.int .i64 (Zde T l+b)] W fun e w'=>∃ v',e=.returned v'∧ZaB w' B v' (ZaO T (Zde T l+b) false (ZaO F (Zde F l-b) false l))∧Mv W w' Q v'):=fun Q W f d=>ZjW Q _ T _ _ _ B W f d (Zdw (by decide) (by decide) ah.o) ah.o ax.o
        generalize ZaO T (Zde T l+b) false (ZaO F (Zde F l-b) false l)=L2 at *;generalize ZaO F (Zde F l-b) false l=L1 at *;generalize Zde F l=y at *;generalize Zde T l=z at *;clear ah ax m aa
        cases hh:ZdO T l
        ·have O:=Zac (decide_eq_false (fun h=>i ⟨hh,h⟩))
         clear i hh
         go_wp2_with fail
         refine(ac.o _).mono ?_;rintro e W4 ⟨rfl,rfl⟩;rw[O.o]
         go_wp2_with fail
         refine(av.o _ N.o au).mono ?_;rintro e W5 ⟨v5,rfl,M,K⟩;have R:=Zac (G.o.trans K);have af:=Zac M;have ab:B<=W5.heap.size:=Nat.le_trans hB R.o.size;clear M K
         go_wp2_with fail
         refine(an.o _ _ af.o ab).mono ?_;rintro e W6 ⟨v6,rfl,P,S⟩;have aj:=Zac (R.o.trans S);have ag:=Zac P;clear P S;go_wp2;go_ret2;exact⟨_,ZbL c.o.2.symm,by rw[c.o.1];exact ag.o,aj.o⟩
        ·clear i hh
         go_wp2_with fail
         refine(av.o _ N.o au).mono ?_;rintro e W5 ⟨v5,rfl,M,K⟩;have R:=Zac (G.o.trans K);have af:=Zac M;have ab:B<=W5.heap.size:=Nat.le_trans hB R.o.size;clear M K
         go_wp2_with fail
         refine(an.o _ _ af.o ab).mono ?_;rintro e W6 ⟨v6,rfl,P,S⟩;have aj:=Zac (R.o.trans S);have ag:=Zac P;clear P S;go_wp2;go_ret2;exact⟨_,ZbL c.o.2.symm,by rw[c.o.1];exact ag.o,aj.o⟩
 ·have X:=Zac (decide_eq_false hk)
  have c:Hid (L'=l∧n'=0):=by
   have h:=Z.o;unfold Zep at h;rw[if_pos (show a<0∨65535<a∨b<0 by omega)] at h
   injection h with f d
   injection f with _ h3
   exact⟨h3.symm,d.symm⟩
  clear hk
  go_enter func180,ntmps180
  go_wp2_with fail
  refine(HW.o _ _ _).mono ?_;rintro e W1 ⟨a1,b1,rfl,J,C,j⟩;have I:=Zac (Mv.ofBelow j (.slice ao l.length cap));have u:=Zac (HO.o.below j zL);clear j
  go_wp2_with fail
  refine(HS.o _ _ _ _ _ _ J C).mono ?_;rintro e U ⟨rfl,rfl⟩;rw[X.o];go_wp2;go_ret2;exact⟨_,ZbL c.o.2.symm,by rw[c.o.1];exact u.o,I.o⟩
theorem Zxe (a:Zat least (-1) l) (h:ZdO key l=true):0<=key∧key<=255:=by
 unfold ZdO at h
 cases hg:Zcp key l with
 | none=>rw[hg] at h;simp at h
 | some x=>
  have:=ZnL a hg;omega
theorem ZrJ (v:Value) (l:List Int) (o:Opn) (c:Bool) (g:Int) (B:Nat) (w:World) (D:ZaB w B v l) (O:B<=w.heap.size) (i:Zat 0 (-1) l) (I:l.length<=128):
 Calls prog 128 #[v,opV o] w fun e w'=>Zhd B w v (ZaZ ⟨5,l,c,g⟩ o).1.L (ZaZ ⟨5,l,c,g⟩ o).2 e w':=by
 obtain⟨d,a,b⟩:=o;have z:=Zdw (by decide) (by decide) i
 have p:=Zac D;have E:Hid (∀ X,Mv w (w.alloc X) v v):=fun X=>Mv.alloc w v X
 show Calls prog _ #[_,.agg #[.int .i64 d,.int .i64 a,.int .i64 b]] w _;by_cases u:d=7
 ·subst u
  have F:Hid (∀ W,ZaB W B v l->Calls prog 175 #[v,.int .i64 a] W fun e w'=>e=.returned (.tuple #[.int .i64 ((Zcp a l).getD 0),.bool (ZdO a l)])∧Below W.heap.size W w'):=fun W h=>ZjV v l a _ _ W (h.rd z) i (by omega)
  have k:Hid (ZaZ ⟨5,l,c,g⟩ ⟨7,a,b⟩=(⟨5,l,c,g⟩,ZtS a l)):=by
   refine Zac ?_;unfold ZaZ;rw[if_neg (by simp),if_neg (by simp)]
   by_cases J:a<0∨255<a
   ·rw[if_pos J]
    have j:ZdO a l=false:=by
     cases h:ZdO a l
     ·rfl
     ·have:=Zxe i h
      omega
    rw[Zoi j]
   ·rw[if_neg J,if_pos rfl]
  rw[k.o];clear k D i z
  cases j:ZdO a l
  ·have A:=Zac (Zoi j)
   rw[A.o];rw[j] at F;clear A j;generalize (Zcp a l).getD 0=y at *
   go_enter func128,ntmps128
   go_wp2_with fail
   refine(F.o _ (p.o.alloc _)).mono ?_;rintro e G ⟨rfl,f⟩;have m:=Zac ((E.o _).trans (Mv.ofBelow f _));have q:=Zac ((p.o.alloc _).below f zL);clear f;go_wp2;go_ret2;exact⟨_,rfl,q.o,m.o⟩
  ·have A:=Zac (Zxd j)
   rw[A.o];rw[j] at F;clear A j;generalize (Zcp a l).getD 0=y at *
   go_enter func128,ntmps128
   go_wp2_with fail
   refine(F.o _ (p.o.alloc _)).mono ?_;rintro e G ⟨rfl,f⟩;have m:=Zac ((E.o _).trans (Mv.ofBelow f _));have q:=Zac ((p.o.alloc _).below f zL);clear f;go_wp2;go_ret2;exact⟨_,rfl,q.o,m.o⟩
 ·have K:(d == 7)=false:=beq_eq_false_iff_ne.2 u
  by_cases x:d=8
  ·subst x
   have H:Hid (∀ X,Calls prog 179 #[v,.int .i64 a,.int .i64 b] (w.alloc X) fun e w'=>Zhd B (w.alloc X) v (ZaZ ⟨5,l,c,g⟩ ⟨8,a,b⟩).1.L (ZaZ ⟨5,l,c,g⟩ ⟨8,a,b⟩).2 e w'):=fun X=>ZrI v l a b c g B (w.alloc X) (p.o.alloc X) (by simp;omega) i I
   generalize (ZaZ ⟨5,l,c,g⟩ ⟨8,a,b⟩).1.L=L' at *;generalize (ZaZ ⟨5,l,c,g⟩ ⟨8,a,b⟩).2=n at *;clear D z i u K
   go_enter func128,ntmps128
   go_wp2_with fail
   refine(H.o _).mono ?_;rintro e G ⟨M,rfl,C,f⟩;have q:=Zac C;have m:=Zac ((E.o _).trans f);clear C f;go_wp2;go_ret2;exact⟨_,rfl,q.o,m.o⟩
  ·have P:(d == 8)=false:=beq_eq_false_iff_ne.2 x
   by_cases t:d=9
   ·have k:Hid (ZaZ ⟨5,l,c,g⟩ ⟨d,a,b⟩=Zep ⟨5,l,c,g⟩ ⟨d,a,b⟩):=if_pos t
    rw[k.o];have N:(d == 9)=true:=beq_iff_eq.2 t;have H:Hid (∀ X,Calls prog 180 #[v,.int .i64 a,.int .i64 b] (w.alloc X) fun e w'=>Zhd B (w.alloc X) v (Zep ⟨5,l,c,g⟩ ⟨d,a,b⟩).1.L (Zep ⟨5,l,c,g⟩ ⟨d,a,b⟩).2 e w'):=fun X=>Zzo v l d a b c g B (w.alloc X) (p.o.alloc X) (by simp;omega) i I
    generalize (Zep ⟨5,l,c,g⟩ ⟨d,a,b⟩).1.L=L' at *;generalize (Zep ⟨5,l,c,g⟩ ⟨d,a,b⟩).2=n at *;clear D z i u x t k
    go_enter func128,ntmps128
    go_wp2_with fail
    refine(H.o _).mono ?_;rintro e G ⟨M,rfl,C,f⟩;have q:=Zac C;have m:=Zac ((E.o _).trans f);clear C f;go_wp2;go_ret2;exact⟨_,rfl,q.o,m.o⟩
   ·have N:(d == 9)=false:=beq_eq_false_iff_ne.2 t
    have k:Hid (ZaZ ⟨5,l,c,g⟩ ⟨d,a,b⟩=(⟨5,l,c,g⟩,0)):=by
     refine Zac ?_;unfold ZaZ;rw[if_neg t,if_pos ⟨u,x⟩]
    rw[k.o];clear D z i u x t k
    go_enter func128,ntmps128
    go_wp2;go_ret2;exact⟨_,rfl,p.o.alloc _,E.o _⟩
theorem Zzp (kind:Int) (ao:Option Addr) (n cap:Nat) (T:Bool) (g a:Int) (w:World):
 Calls prog 123 #[.agg #[.int .i64 kind,.slice ao n cap,.bool T,.int .i64 g],.int .i64 a] w fun e w'=>e=.returned (.agg #[.int .i64 kind,.slice ao n cap,.bool true,.int .i64 (if 0<=a∧a<=2 then a else g)])∧Below w.heap.size w w':=by
 have F:=Zac (fun p q W=>ZcJ p q W)
 have E:=Zac (fun n M S O L W R U=>ZgG n M S O L W R U)
 have j:Hid (∀ x y,Below w.heap.size w ((w.alloc x).alloc y)):=fun x y=>((Below.refl _ _).alloc zL x).alloc (by simp) y
 by_cases f:0<=a∧a<=2
 ·rw[if_pos f]
  have m:=Zac (decide_eq_true f);clear f
  go_enter func123,ntmps123
  go_wp2_with fail
  refine(F.o _ _ _).mono ?_;rintro e c ⟨A,C,rfl,h,i,d⟩;have b:Zrc c w.heap.size _ _:=(Zrc.made w _ _).below d (by simp)
  have V:=(b.s 0).1;have G:=(b.s 1).1;have H:=(b.s 2).1;have X:=(b.s 3).1;have K:=(b.s 2).2;have I:=(b.s 3).2;have u:=(b.r 0).1;have z:=(b.r 1).1;have k:=(b.r 2).1;have D:=(b.r 3).1;have Q:=(b.r 0).2;have Y:=(b.r 1).2;have N:=(b.r 2).2;have P:=(b.r 3).2;have t:=Zac ((j.o _ _).trans (d.mono (j.o _ _).size));have l:Hid (∀ x,(c.setCell ⟨w.heap.size,2,none⟩ x).cell? ⟨A,0,none⟩=some (.int .i64 0)):=fun x=>(World.cell?_setCell_other _ _ _ _ (by simp)).trans h
  have B:Hid (∀ x,(c.setCell ⟨w.heap.size,2,none⟩ x).cell? ⟨C,0,none⟩=some (.int .i64 2)):=fun x=>(World.cell?_setCell_other _ _ _ _ (by simp)).trans i
  clear d b h i
  go_wp2_with fail
  refine(E.o _ _ _ _ _ _ (l.o _) (B.o _)).mono ?_;rintro e J ⟨rfl,rfl⟩;rw[m.o];go_wp2;refine bodyPost_ret (v:=.agg #[.int .i64 kind,.slice ao n cap,.bool true,.int .i64 a]) (by simp[results,Tryz.results123,go_sem,u,z,k,D]) rfl ?_
  exact⟨rfl,((((((t.o.setCell zL _).setCell zL _).setCell (Nat.le_succ _) _).setCell (Nat.le_succ _) _).setCell (Nat.le_succ _) _).setCell (Nat.le_succ _) _)⟩
 ·rw[if_neg f]
  have m:=Zac (decide_eq_false f);clear f
  go_enter func123,ntmps123
  go_wp2_with fail
  refine(F.o _ _ _).mono ?_;rintro e c ⟨A,C,rfl,h,i,d⟩;have b:Zrc c w.heap.size _ _:=(Zrc.made w _ _).below d (by simp)
  have V:=(b.s 0).1;have G:=(b.s 1).1;have H:=(b.s 2).1;have X:=(b.s 3).1;have K:=(b.s 2).2;have I:=(b.s 3).2;have u:=(b.r 0).1;have z:=(b.r 1).1;have k:=(b.r 2).1;have D:=(b.r 3).1;have Q:=(b.r 0).2;have Y:=(b.r 1).2;have N:=(b.r 2).2;have P:=(b.r 3).2;have t:=Zac ((j.o _ _).trans (d.mono (j.o _ _).size));have l:Hid (∀ x,(c.setCell ⟨w.heap.size,2,none⟩ x).cell? ⟨A,0,none⟩=some (.int .i64 0)):=fun x=>(World.cell?_setCell_other _ _ _ _ (by simp)).trans h
  have B:Hid (∀ x,(c.setCell ⟨w.heap.size,2,none⟩ x).cell? ⟨C,0,none⟩=some (.int .i64 2)):=fun x=>(World.cell?_setCell_other _ _ _ _ (by simp)).trans i
  clear d b h i
  go_wp2_with fail
  refine(E.o _ _ _ _ _ _ (l.o _) (B.o _)).mono ?_;rintro e J ⟨rfl,rfl⟩;rw[m.o];go_wp2;refine bodyPost_ret (v:=.agg #[.int .i64 kind,.slice ao n cap,.bool true,.int .i64 g]) (by simp[results,Tryz.results123,go_sem,u,z,k,D]) rfl ?_
  exact⟨rfl,(((((t.o.setCell zL _).setCell (Nat.le_succ _) _).setCell (Nat.le_succ _) _).setCell (Nat.le_succ _) _).setCell (Nat.le_succ _) _)⟩
theorem Zec.mv {W a:World} {N:Nat} {s o r:Array Value} (h:Zec W N s o r) (d:∀ b,v.ownBlock=some b->b<N) (i:Mv W a v v'):Zec a N s o r:=by
 obtain⟨j,g,f⟩:=h
 have lt:∀ k x,W.heap[k]?=some x->N<=k->a.heap[k]?=some x:=fun k x c l=>by
  rw[i.grown.block k (Array.getElem?_eq_some_iff.1 c).1 (fun e=>by have:=d k e.symm;omega)]
  exact c
 exact⟨lt _ _ j (by omega),lt _ _ g (by omega),lt _ _ f (by omega)⟩
theorem Zoj {f e F:World} (m:ZaB w B v l) (d:Below w.heap.size w f) (q:f.heap.size=w.heap.size+3) (a:Mv f e v v') (n:ZaB e B v' L') (c:But w.heap.size (w.heap.size+1+1) e F):ZaB F B v' L'∧Mv w F v v':=by
 have i:∀ b,v.ownBlock=some b->b<w.heap.size:=fun b h=>(World.ownsRow.lt m b h).2
 have g:∀ b,v'.ownBlock=some b->v.ownBlock=some b∨w.heap.size+3<=b:=fun b h=>by
  rcases a.lies b h with h' | h'
  ·exact .inl h'
  ·exact .inr (by omega)
 have t:=a.size;refine⟨n.but c (fun b h=>?_),⟨⟨c.os.trans (a.grown.os.trans d.os),c.tape.trans (a.grown.tape.trans d.tape),c.output.trans (a.grown.output.trans d.output),by have:=c.size;omega,fun k j p=>?_⟩,fun b h=>?_⟩⟩
 ·rcases g b h with h' | h'
  ·have:=i b h'
   omega
  ·omega
 ·rw[c.block k (by omega) (by omega) (by omega),a.grown.block k (by omega) p]
  exact d.block k j
 ·rcases g b h with h' | h'
  ·exact .inl h'
  ·exact .inr (by omega)
theorem ZbA (w:World) (x y z:Obj):Below w.heap.size w (((w.alloc x).alloc y).alloc z)∧(((w.alloc x).alloc y).alloc z).heap.size=w.heap.size+3:=
 ⟨(((Below.refl _ _).alloc zL x).alloc (by simp) y).alloc (by simp;omega) z,by simp⟩
theorem ZaB.alloc3 (h:ZaB w B v l) (x y z:Obj):ZaB (((w.alloc x).alloc y).alloc z) B v l:=((h.alloc x).alloc y).alloc z
def Did (B:Nat) (w:World) (v:Value) (r:St × Int) (e:Ending) (w':World):Prop:=
 ∃ v',e=.returned (.tuple #[.agg #[.int .i64 r.1.kind,v',.bool r.1.shut,.int .i64 r.1.eng],.int .i64 r.2])∧ZaB w' B v' r.1.L∧Mv w w' v v'
theorem ZrK (kind g:Int) (l:List Int) (v:Value) (o:Opn) (B:Nat) (w:World) (c:ZaB w B v l):
 Calls prog 83 #[.agg #[.int .i64 kind,v,.bool true,.int .i64 g],opV o] w fun e w'=>Did B w v (⟨kind,l,true,g⟩,-1125899906842624) e w':=by
 obtain⟨h,a,b⟩:=o;have d:=Zac c;obtain⟨ao,cap,rfl⟩:=c.shape;have f:Hid (∀ x y z,Mv w (((w.alloc x).alloc y).alloc z) (.slice ao l.length cap) (.slice ao l.length cap)):=fun x y z=>Mv.ofBelow (ZbA w x y z).1 _
 clear c;show Calls prog _ #[_,.agg #[.int .i64 h,.int .i64 a,.int .i64 b]] w _
 go_enter func83,ntmps83
 go_wp2;refine bodyPost_ret (v:=.tuple #[.agg #[.int .i64 kind,.slice ao l.length cap,.bool true,.int .i64 g],.int .i64 (-1125899906842624)]) (by simp[results,Tryz.results83,go_sem]) rfl ?_
 exact⟨_,rfl,d.o.alloc3 _ _ _,f.o _ _ _⟩
theorem ZrL (kind g a b:Int) (l:List Int) (v:Value) (B:Nat) (w:World) (f:ZaB w B v l):
 Calls prog 83 #[.agg #[.int .i64 kind,v,.bool false,.int .i64 g],.agg #[.int .i64 10,.int .i64 a,.int .i64 b]] w fun e w'=>Did B w v (⟨kind,l,true,if 0<=a∧a<=2 then a else g⟩,0) e w':=by
 have h:=Zac f;obtain⟨ao,cap,rfl⟩:=f.shape;have j:=Zac (fun W=>Zzp kind ao l.length cap false g a W)
 generalize (if 0<=a∧a<=2 then a else g)=t at *
 clear f
 go_enter func83,ntmps83
 go_wp2_with fail
 refine(j.o _).mono ?_;rintro e u ⟨rfl,d⟩;have c:=(Zec.made w _ _ _).below d (by simp)
 obtain⟨k,z⟩:=c.r 0;obtain⟨m,A⟩:=c.r 1;obtain⟨i,x⟩:=c.r 2;obtain⟨p,y⟩:=c.r 3;have q:=Zac (fun F n=>Zoj (F:=F) h.o (ZbA w _ _ _).1 (ZbA w _ _ _).2 (Mv.ofBelow d _) ((h.o.alloc3 _ _ _).below d zL) n)
 clear d c;go_wp2;refine bodyPost_ret (v:=.tuple #[.agg #[.int .i64 kind,.slice ao l.length cap,.bool true,.int .i64 t],.int .i64 0]) (by simp[results,Tryz.results83,go_sem,k,m,i,p]) rfl ?_
 exact⟨_,rfl,q.o _ ((But.refl _ _ _).four _ (.inr rfl) _ _ _ _)⟩
theorem ZuK (kind g:Int) (G:kind=0∨kind=1) (l:List Int) (v:Value) (o:Opn) (J:o.code≠10) (B:Nat) (w:World) (m:ZaB w B v l) (z:l.length=1) (E:-1099511627776<=l.getD 0 0) (H:l.getD 0 0<=1099511627776):
 Calls prog 83 #[.agg #[.int .i64 kind,v,.bool false,.int .i64 g],opV o] w fun e w'=>Did B w v (Zhn ⟨kind,l,false,g⟩ o) e w':=by
 have k:=Zac m;have K:=ZnM ⟨kind,l,false,g⟩ o
 obtain⟨L',n',j⟩:∃ L' n',Zhn ⟨kind,l,false,g⟩ o=(⟨kind,L',false,g⟩,n'):=by
  obtain⟨t,x,p⟩:=K;refine⟨(Zhn ⟨kind,l,false,g⟩ o).1.L,(Zhn ⟨kind,l,false,g⟩ o).2,?_⟩;rcases hr:Zhn ⟨kind,l,false,g⟩ o with ⟨⟨Y,l1,M,X⟩,Z⟩
  rw[hr] at t x p;simp only at t x p;rw[t,x,p]
 have i:Hid (∀ W,ZaB W B v l->Calls prog (if kind=0 then 124 else 125) #[v,opV o] W fun e w'=>e=.returned (.int .i64 n')∧ZaB w' B v L'∧Mv W w' v v):=fun W h=>by
  rcases G with rfl | rfl
  ·have:=ZrH v l o false g B W h z E H
   rw[j] at this;exact this
  ·have:=ZpP v l o false g B W h z
   rw[j] at this;exact this
 rw[j];obtain⟨N,a,b⟩:=o;have aa:(N == 10)=false:=beq_eq_false_iff_ne.2 J;obtain⟨ao,cap,rfl⟩:=m.shape;have D:∀ b,(Value.slice ao l.length cap).ownBlock=some b->b<w.heap.size:=fun b h=>(World.ownsRow.lt m b h).2
 have I:=Zac D;clear m j K J z E H D;show Calls prog _ #[_,.agg #[.int .i64 N,.int .i64 a,.int .i64 b]] w _;rcases G with rfl | rfl
 ·rw[if_pos rfl] at i
  go_enter func83,ntmps83
  go_wp2_with fail
  refine(i.o _ (k.o.alloc3 _ _ _)).mono ?_;rintro e Q ⟨rfl,f,d⟩;have c:=(Zec.made w _ _ _).mv I.o d;obtain⟨U,-⟩:=c.s 0;obtain⟨O,-⟩:=c.s 1;obtain⟨P,-⟩:=c.s 2;obtain⟨V,-⟩:=c.s 3;obtain⟨q,T⟩:=c.r 0;obtain⟨u,M⟩:=c.r 1;obtain⟨n,R⟩:=c.r 2;obtain⟨A,S⟩:=c.r 3;have C:=Zac (fun F y=>Zoj (F:=F) k.o (ZbA w _ _ _).1 (ZbA w _ _ _).2 d f y)
  clear c f d;go_wp2;refine bodyPost_ret (v:=.tuple #[.agg #[.int .i64 0,.slice ao l.length cap,.bool false,.int .i64 g],.int .i64 n']) (by simp[results,Tryz.results83,go_sem,q,u,n,A]) rfl ?_
  exact⟨_,rfl,C.o _ ((But.refl _ _ _).four _ (.inr rfl) _ _ _ _)⟩
 ·rw[if_neg (by decide)] at i
  go_enter func83,ntmps83
  go_wp2_with fail
  refine(i.o _ (k.o.alloc3 _ _ _)).mono ?_;rintro e Q ⟨rfl,f,d⟩;have c:=(Zec.made w _ _ _).mv I.o d;obtain⟨U,-⟩:=c.s 0;obtain⟨O,-⟩:=c.s 1;obtain⟨P,-⟩:=c.s 2;obtain⟨V,-⟩:=c.s 3;obtain⟨q,T⟩:=c.r 0;obtain⟨u,M⟩:=c.r 1;obtain⟨n,R⟩:=c.r 2;obtain⟨A,S⟩:=c.r 3;have C:=Zac (fun F y=>Zoj (F:=F) k.o (ZbA w _ _ _).1 (ZbA w _ _ _).2 d f y)
  clear c f d;go_wp2;refine bodyPost_ret (v:=.tuple #[.agg #[.int .i64 1,.slice ao l.length cap,.bool false,.int .i64 g],.int .i64 n']) (by simp[results,Tryz.results83,go_sem,q,u,n,A]) rfl ?_
  exact⟨_,rfl,C.o _ ((But.refl _ _ _).four _ (.inr rfl) _ _ _ _)⟩
theorem Zts {c:World} {kind g:Int} {ao b:Option Addr} {cap a:Nat} {xs e f:Array Value} (i:ZaB w B (.slice ao l.length cap) l) (h:ZaB c B (.slice b L'.length a) L') (d:Mv (((w.alloc (.cells xs 38)).alloc (.cells e 52)).alloc (.cells f 38)) c (.slice ao l.length cap) (.slice b L'.length a)):
 ZaB (ZsY c w.heap.size (w.heap.size+1+1) (.slice b L'.length a) (.int .i64 kind) (.slice b L'.length a) (.bool false) (.int .i64 g)) B (.slice b L'.length a) L'∧Mv w (ZsY c w.heap.size (w.heap.size+1+1) (.slice b L'.length a) (.int .i64 kind) (.slice b L'.length a) (.bool false) (.int .i64 g)) (.slice ao l.length cap) (.slice b L'.length a):=
 Zoj i (ZbA w _ _ _).1 (ZbA w _ _ _).2 d h (((But.refl _ _ _).set _ _ (.inl rfl) _).four _ (.inr rfl) _ _ _ _)
theorem ZrM (kind g:Int) (G:kind=2∨kind=3) (l L':List Int) (n':Int) (v:Value) (k a b:Int) (C:k≠10) (B:Nat) (w:World) (j:ZaB w B v l)
 (z:Hid (∀ W,ZaB W B v l->B<=W.heap.size->Calls prog 126 #[.int .i64 kind,v,.agg #[.int .i64 k,.int .i64 a,.int .i64 b]] W fun e w'=>Zhd B W v L' n' e w')) (P:B<=w.heap.size):
 Calls prog 83 #[.agg #[.int .i64 kind,v,.bool false,.int .i64 g],.agg #[.int .i64 k,.int .i64 a,.int .i64 b]] w fun e w'=>Did B w v (⟨kind,L',false,g⟩,n') e w':=by
 have i:=Zac j;have Q:(k == 10)=false:=beq_eq_false_iff_ne.2 C;obtain⟨ao,cap,rfl⟩:=j.shape;have y:∀ b,(Value.slice ao l.length cap).ownBlock=some b->b<w.heap.size:=fun b h=>(World.ownsRow.lt j b h).2
 have A:=Zac y;clear j C y;rcases G with rfl | rfl
 ·go_enter func83,ntmps83
  go_wp2_with fail
  refine(z.o _ (i.o.alloc3 _ _ _) (by simp;omega)).mono ?_
  rintro e F ⟨K,rfl,f,d⟩;obtain⟨q,t,rfl⟩:=f.shape;have c:=(Zec.made w _ _ _).mv A.o d;obtain⟨L,-⟩:=c.s 0;obtain⟨D,O⟩:=c.s 1;obtain⟨E,-⟩:=c.s 2;obtain⟨M,-⟩:=c.s 3;obtain⟨n,J⟩:=c.r 0;obtain⟨p,N⟩:=c.r 1;obtain⟨m,H⟩:=c.r 2;obtain⟨x,I⟩:=c.r 3;have u:=Zac (fun kind=>Zts (kind:=kind) (g:=g) i.o f d)
  clear c f d;go_wp2;refine bodyPost_ret (v:=.tuple #[.agg #[.int .i64 2,.slice q L'.length t,.bool false,.int .i64 g],.int .i64 n']) (by simp[results,Tryz.results83,go_sem,n,p,m,x]) rfl ?_
  exact⟨_,rfl,u.o _⟩
 ·go_enter func83,ntmps83
  go_wp2_with fail
  refine(z.o _ (i.o.alloc3 _ _ _) (by simp;omega)).mono ?_
  rintro e F ⟨K,rfl,f,d⟩;obtain⟨q,t,rfl⟩:=f.shape;have c:=(Zec.made w _ _ _).mv A.o d;obtain⟨L,-⟩:=c.s 0;obtain⟨D,O⟩:=c.s 1;obtain⟨E,-⟩:=c.s 2;obtain⟨M,-⟩:=c.s 3;obtain⟨n,J⟩:=c.r 0;obtain⟨p,N⟩:=c.r 1;obtain⟨m,H⟩:=c.r 2;obtain⟨x,I⟩:=c.r 3;have u:=Zac (fun kind=>Zts (kind:=kind) (g:=g) i.o f d)
  clear c f d;go_wp2;refine bodyPost_ret (v:=.tuple #[.agg #[.int .i64 3,.slice q L'.length t,.bool false,.int .i64 g],.int .i64 n']) (by simp[results,Tryz.results83,go_sem,n,p,m,x]) rfl ?_
  exact⟨_,rfl,u.o _⟩
theorem ZpQ (kind g:Int) (q:kind=4) (l L':List Int) (n':Int) (v:Value) (f a b:Int) (n:f≠10) (B:Nat) (w:World) (d:ZaB w B v l)
 (t:Hid (∀ W,ZaB W B v l->B<=W.heap.size->Calls prog 127 #[v,.agg #[.int .i64 f,.int .i64 a,.int .i64 b]] W fun e w'=>Zhd B W v L' n' e w')) (G:B<=w.heap.size):
 Calls prog 83 #[.agg #[.int .i64 kind,v,.bool false,.int .i64 g],.agg #[.int .i64 f,.int .i64 a,.int .i64 b]] w fun e w'=>Did B w v (⟨kind,L',false,g⟩,n') e w':=by
 have m:=Zac d;have M:(f == 10)=false:=beq_eq_false_iff_ne.2 n;obtain⟨ao,cap,rfl⟩:=d.shape;have k:∀ b,(Value.slice ao l.length cap).ownBlock=some b->b<w.heap.size:=fun b h=>(World.ownsRow.lt d b h).2
 have A:=Zac k;clear d n k;subst q
 all_goals
  go_enter func83,ntmps83
  go_wp2_with fail
  refine(t.o _ (m.o.alloc3 _ _ _) (by simp;omega)).mono ?_
  rintro e H ⟨L,rfl,j,i⟩;obtain⟨y,z,rfl⟩:=j.shape;have c:=(Zec.made w _ _ _).mv A.o i;obtain⟨N,-⟩:=c.s 0;obtain⟨E,Q⟩:=c.s 1;obtain⟨F,-⟩:=c.s 2;obtain⟨O,-⟩:=c.s 3;obtain⟨u,K⟩:=c.r 0;obtain⟨x,P⟩:=c.r 1;obtain⟨p,I⟩:=c.r 2;obtain⟨D,J⟩:=c.r 3;have C:=Zac (fun kind=>Zts (kind:=kind) (g:=g) m.o j i)
  clear c j i;go_wp2;refine bodyPost_ret (v:=.tuple #[.agg #[.int .i64 4,.slice y L'.length z,.bool false,.int .i64 g],.int .i64 n']) (by simp[results,Tryz.results83,go_sem,u,x,p,D]) rfl ?_
  exact⟨_,rfl,C.o _⟩
theorem Zok (kind g:Int) (q:kind=5) (l L':List Int) (n':Int) (v:Value) (f a b:Int) (n:f≠10) (B:Nat) (w:World) (d:ZaB w B v l)
 (t:Hid (∀ W,ZaB W B v l->B<=W.heap.size->Calls prog 128 #[v,.agg #[.int .i64 f,.int .i64 a,.int .i64 b]] W fun e w'=>Zhd B W v L' n' e w')) (G:B<=w.heap.size):
 Calls prog 83 #[.agg #[.int .i64 kind,v,.bool false,.int .i64 g],.agg #[.int .i64 f,.int .i64 a,.int .i64 b]] w fun e w'=>Did B w v (⟨kind,L',false,g⟩,n') e w':=by
 have m:=Zac d;have M:(f == 10)=false:=beq_eq_false_iff_ne.2 n;obtain⟨ao,cap,rfl⟩:=d.shape;have k:∀ b,(Value.slice ao l.length cap).ownBlock=some b->b<w.heap.size:=fun b h=>(World.ownsRow.lt d b h).2
 have A:=Zac k;clear d n k;subst q
 all_goals
  go_enter func83,ntmps83
  go_wp2_with fail
  refine(t.o _ (m.o.alloc3 _ _ _) (by simp;omega)).mono ?_
  rintro e H ⟨L,rfl,j,i⟩;obtain⟨y,z,rfl⟩:=j.shape;have c:=(Zec.made w _ _ _).mv A.o i;obtain⟨N,-⟩:=c.s 0;obtain⟨E,Q⟩:=c.s 1;obtain⟨F,-⟩:=c.s 2;obtain⟨O,-⟩:=c.s 3;obtain⟨u,K⟩:=c.r 0;obtain⟨x,P⟩:=c.r 1;obtain⟨p,I⟩:=c.r 2;obtain⟨D,J⟩:=c.r 3;have C:=Zac (fun kind=>Zts (kind:=kind) (g:=g) m.o j i)
  clear c j i;go_wp2;refine bodyPost_ret (v:=.tuple #[.agg #[.int .i64 5,.slice y L'.length z,.bool false,.int .i64 g],.int .i64 n']) (by simp[results,Tryz.results83,go_sem,u,x,p,D]) rfl ?_
  exact⟨_,rfl,C.o _⟩
theorem ZrN (v:Value) (l:List Int) (a b:Nat) (w:World) (K:RdI w v l) (F:w.cell? ⟨a,0,none⟩=some (.int .i64 (-1099511627776))) (B:w.cell? ⟨b,0,none⟩=some (.int .i64 1099511627776)):
 Calls prog 171 #[v,.func (.func 170) #[] #[.pointer (some ⟨a,0,none⟩),.pointer (some ⟨b,0,none⟩)]] w fun e w'=>e=.returned (.bool (decide (l.length<=64∧ZcN l)))∧w'=w:=by
 have z:=Zac (fun n=>ZgG n _ _ a b w F B)
 obtain⟨ao,cap,rfl,-,-,-,-,A⟩:=K;have I:=Zac A;clear A F B;obtain⟨R,p⟩:∃ R,R=decide (l.length<=64∧ZcN l):=⟨_,rfl⟩;rw[<-p];have m:=Zac p;clear p;by_cases C:l.length<=64
 ·have L:¬ (64<(l.length:Int)):=by omega
  go_enter func171,ntmps171
  go_wp2
  go_loop [12] (fun i=>∃ k:Nat,i=.int .i64 k∧k<=l.length∧Hid (∀ j,j<k->-1099511627776<=l.getD j 0∧l.getD j 0<=1099511627776)) (fun i=>l.length-(intOf i).toNat)
  case atStart=>exact⟨0,rfl,Nat.zero_le _,fun j u=>by omega⟩
  case round=>
   obtain⟨k,rfl,M,E⟩:=hrel;by_cases f:k<l.length
   ·rcases I.o with H | ⟨g,N,rfl,D⟩
    ·rw[H] at f;simp at f
    have G:=D k f;clear D;obtain⟨y,t⟩:∃ y,y=l.getD k 0:=⟨_,rfl⟩;rw[<-t] at G;have x:=Zac t;clear t;by_cases c:-1099511627776<=y∧y<=1099511627776
    ·have d:=Zac (decide_eq_true c)
     have q:=Zac c;clear c
     go_wp2_with(first | (go_at_call 170;refine(z.o _).mono ?_;rintro e J ⟨rfl,rfl⟩;rw[d.o]))
     go_round
     case rel=>
      refine⟨k+1,by go_num,by omega,fun j u=>?_⟩
      by_cases e:j=k
      ·rw[e,<-x.o];exact q.o
      ·exact E.out j (by omega)
     case measure=>simp[intOf];omega
    ·have d:=Zac (decide_eq_false c)
     have q:=Zac c;clear c
     go_wp2_with(first | (go_at_call 170;refine(z.o _).mono ?_;rintro e J ⟨rfl,rfl⟩;rw[d.o]))
     go_ret;refine⟨ZbZ (m.o.trans (decide_eq_false fun h=>q.o ?_)).symm,rfl⟩
     rw[x.o];exact h.2 k f
   ·go_wp2
    go_ret;exact⟨ZbZ (m.o.trans (decide_eq_true ⟨C,fun j u=>E.out j (by omega)⟩)).symm,rfl⟩
 ·have L:64<(l.length:Int):=by omega
  have d:Hid (decide (l.length<=64∧ZcN l)=false):=decide_eq_false (fun h=>C h.1)
  go_enter func171,ntmps171
  go_wp2;go_ret;exact⟨ZbZ (m.o.trans d.o).symm,rfl⟩
def ZiM (l:List Int) (k:Nat):Int:=if k=0 then 0 else l.getD (k-2) 0+1
theorem ZpR {lo:Int} {k:Nat} (d:k % 2=0) (b:∀ j,j<k->j % 2=0->Zkh lo l j):Zkh lo l k↔(ZiM l k<=l.getD k 0∧l.getD k 0<=255)∧lo<=l.getD (k+1) 0∧l.getD (k+1) 0<=1099511627776:=by
 unfold Zkh ZiM;by_cases a:k=0
 ·subst a
  simp;omega
 ·rw[if_neg a]
  have c:=(b (k-2) (by omega) (by omega)).1
  constructor
  ·rintro⟨h1,h2,h3,h4,h5⟩
   exact⟨⟨by have:=h3 (by omega);omega,h2⟩,h4,h5⟩
  ·rintro⟨⟨h1,h2⟩,h4,h5⟩
   exact⟨by omega,h2,fun _=>by omega,h4,h5⟩
theorem ZpS (v:Value) (l:List Int) (lo:Int) (a b:Nat) (w:World) (hr:RdI w v l) (X:w.cell? ⟨a,0,none⟩=some (.int .i64 lo)) (T:w.cell? ⟨b,0,none⟩=some (.int .i64 1099511627776)):
 Calls prog 172 #[v,.func (.func 170) #[] #[.pointer (some ⟨a,0,none⟩),.pointer (some ⟨b,0,none⟩)]] w fun e w'=>e=.returned (.bool (decide (Zdh lo l)))∧Below w.heap.size w w':=by
 have Y:Hid (∀ n W,Below w.heap.size w W->Calls prog 170 #[.int .i64 n,.pointer (some ⟨a,0,none⟩),.pointer (some ⟨b,0,none⟩)] W fun e w'=>e=.returned (.bool (decide (lo<=n∧n<=1099511627776)))∧w'=W):=fun n W h=>
  ZgG n _ _ a b W ((h.cell (World.block_lt_of_cell? w ⟨a,0,none⟩ X)).trans X) ((h.cell (World.block_lt_of_cell? w ⟨b,0,none⟩ T)).trans T)
 have S:=Zac (fun n l2 h2 G J W p1 p2=>ZgG n l2 h2 G J W p1 p2)
 have P:=Zac (fun p q W=>ZcJ p q W)
 obtain⟨ao,cap,rfl,-,-,-,-,ac⟩:=hr;have ah:=Zac ac;clear ac X T;obtain⟨R,Q⟩:∃ R,R=decide (Zdh lo l):=⟨_,rfl⟩;rw[<-Q];have C:=Zac Q;clear Q;by_cases he:l.length % 2=0
 ·by_cases Z:l.length<=128
  ·have aa:(((l.length:Int).tmod 2) != 0)=false:=by rw[bne_eq_false_iff_eq,Int.tmod_eq_emod_of_nonneg (by omega)];omega
   have hq:¬ (128<(l.length:Int)):=by omega
   go_enter func172,ntmps172
   go_wp2
   go_loopw[5,6] (fun y i wr=>∃ k:Nat,y=.int .i64 (ZiM l k)∧i=.int .i64 k∧k<=l.length∧k % 2=0∧Hid (∀ j,j<k->j % 2=0->Zkh lo l j)∧Hid (Below w.heap.size w wr)) (fun _ i _=>l.length-(intOf i).toNat)
   case atStart=>exact⟨0,rfl,rfl,Nat.zero_le _,rfl,fun j hj=>by omega,Below.refl _ _⟩
   case round=>
    obtain⟨k,rfl,rfl,hk,O,U,t⟩:=hrel;by_cases u:k<l.length
    ·rcases ah.o with h0 | ⟨g,L,rfl,B⟩
     ·rw[h0] at u;simp at u
     have ae:k+1<l.length:=by omega
     have H:Hid (∀ W,Below w.heap.size w W->W.cell? ⟨g,L+k,none⟩=some (.int .i64 (l.getD k 0))):=fun W h=>(h.cell (World.block_lt_of_cell? w ⟨g,L+k,none⟩ (B k u))).trans (B k u)
     have K:Hid (∀ W,Below w.heap.size w W->W.cell? ⟨g,L+(k+1),none⟩=some (.int .i64 (l.getD (k+1) 0))):=fun W h=>(h.cell (World.block_lt_of_cell? w ⟨g,L+(k+1),none⟩ (B (k+1) ae))).trans (B (k+1) ae)
     clear B;have x:=Zac (ZpR (lo:=lo) O U.out)
     have ab:Hid (ZiM l (k+2)=l.getD k 0+1):=by
      unfold ZiM;rw[if_neg (by omega)]
      exact rfl
     generalize ZiM l k=ls at *;obtain⟨y,d⟩:∃ y,y=l.getD k 0:=⟨_,rfl⟩;obtain⟨z,f⟩:∃ z,z=l.getD (k+1) 0:=⟨_,rfl⟩;rw[<-d] at H x ab;rw[<-f] at K x;have ag:=Zac d;clear d f;by_cases d:ls<=y∧y<=255
     ·have I:=Zac (decide_eq_true d)
      have F:=Zac d;by_cases f:lo<=z∧z<=1099511627776
      ·have V:=Zac (decide_eq_true f)
       have E:=Zac f;have ai:=d.2;have aj:0<=y:=by rw[ag.o];exact(x.o.2 ⟨F.o,E.o⟩).1
       clear d f
       go_wp2_with fail
       refine(P.o _ _ _).mono ?_;rintro e W1 ⟨G,J,rfl,D,A,m⟩;have c:=Zac (t.out.trans (m.mono t.out.size));have ad:=H.o _ c.o;have af:=K.o _ c.o;clear m
       go_wp2_with fail
       refine(S.o _ _ _ _ _ _ D A).mono ?_;rintro e W2 ⟨rfl,rfl⟩;rw[I.o]
       go_wp2_with fail
       refine(Y.o _ _ c.o).mono ?_;rintro e W3 ⟨rfl,rfl⟩;rw[V.o];go_wp2;go_roundw
       case rel=>
        refine⟨k+2,by rw[ab.o],by go_num,by omega,by omega,fun j hj M=>?_,c⟩
        by_cases e:j=k
        ·rw[e];exact x.o.2 ⟨F.o,E.o⟩
        ·exact U.out j (by omega) M
       case measure=>simp[intOf];omega
      ·have V:=Zac (decide_eq_false f)
       have E:=Zac f;clear d f
       go_wp2_with fail
       refine(P.o _ _ _).mono ?_;rintro e W1 ⟨G,J,rfl,D,A,m⟩;have c:=Zac (t.out.trans (m.mono t.out.size));have ad:=H.o _ c.o;have af:=K.o _ c.o;clear m
       go_wp2_with fail
       refine(S.o _ _ _ _ _ _ D A).mono ?_;rintro e W2 ⟨rfl,rfl⟩;rw[I.o]
       go_wp2_with fail
       refine(Y.o _ _ c.o).mono ?_;rintro e W3 ⟨rfl,rfl⟩;rw[V.o];go_wp2;go_ret;exact⟨ZbZ (C.o.trans (decide_eq_false fun h=>E.o (x.o.1 (h.2.2 k u O)).2)).symm,c.o⟩
     ·have I:=Zac (decide_eq_false d)
      have F:=Zac d;clear d
      go_wp2_with fail
      refine(P.o _ _ _).mono ?_;rintro e W1 ⟨G,J,rfl,D,A,m⟩;have c:=Zac (t.out.trans (m.mono t.out.size));have ad:=H.o _ c.o;have af:=K.o _ c.o;clear m
      go_wp2_with fail
      refine(S.o _ _ _ _ _ _ D A).mono ?_;rintro e W2 ⟨rfl,rfl⟩;rw[I.o];go_wp2;go_ret;exact⟨ZbZ (C.o.trans (decide_eq_false fun h=>F.o (x.o.1 (h.2.2 k u O)).1)).symm,c.o⟩
    ·go_wp2
     go_ret;exact⟨ZbZ (C.o.trans (decide_eq_true ⟨he,Z,fun j hj M=>U.out j (by omega) M⟩)).symm,t.out⟩
  ·have aa:(((l.length:Int).tmod 2) != 0)=false:=by rw[bne_eq_false_iff_eq,Int.tmod_eq_emod_of_nonneg (by omega)];omega
   have hq:128<(l.length:Int):=by omega
   have N:Hid (decide (Zdh lo l)=false):=decide_eq_false (fun h=>Z h.2.1)
   go_enter func172,ntmps172
   go_wp2;go_ret;exact⟨ZbZ (C.o.trans N.o).symm,Below.refl _ _⟩
 ·have aa:(((l.length:Int).tmod 2) != 0)=true:=by rw[bne_iff_ne,Int.tmod_eq_emod_of_nonneg (by omega)];omega
  have N:Hid (decide (Zdh lo l)=false):=decide_eq_false (fun h=>he h.1)
  go_enter func172,ntmps172
  go_wp2;go_ret;exact⟨ZbZ (C.o.trans N.o).symm,Below.refl _ _⟩
end Go.Proofs.YtnahjngbneicaaaGreatDoor
