import Derived.Test.YtnahjngbneicaaaGreatDoorPack2
import Derived.Test.YtnahjngbneicaaaGreatDoorPack5
import Derived.Test.YtnahjngbneicaaaGreatDoorPack4
import Derived.Test.YtnahjngbneicaaaGreatDoorPack1
namespace Go.Proofs.YtnahjngbneicaaaGreatDoor
open _root_.Go.Proofs.Tryz
open List (length_append)
set_option maxHeartbeats 2000000
set_option maxRecDepth 100000
open Go.RowKit
def Zmq (w:World) (b o:Nat) (r:Rec):Prop:=
 w.cell? ⟨b,o,none⟩=some (.int .i64 r.idx)∧w.cell? ⟨b,o+1,none⟩=some (.int .i64 r.proc)∧w.cell? ⟨b,o+2,none⟩=some (.int .i64 r.seq)∧w.cell? ⟨b,o+3,none⟩=some (.int .i64 r.op.code)∧w.cell? ⟨b,o+4,none⟩=some (.int .i64 r.op.a)∧w.cell? ⟨b,o+5,none⟩=some (.int .i64 r.op.b)∧w.cell? ⟨b,o+6,none⟩=some (.int .i64 r.resp)
theorem Zmq.lt {w:World} {b o:Nat} {r:Rec} (h:Zmq w b o r):b<w.heap.size:=World.block_lt_of_cell? w ⟨b,o,none⟩ h.1
theorem Zmq.keep {w w':World} {b o:Nat} {r:Rec} (h:Zmq w b o r) (c:w'.heap[b]?=w.heap[b]?):Zmq w' b o r:=by
 have d:∀ i,w'.cell? ⟨b,i,none⟩=w.cell? ⟨b,i,none⟩:=fun i=>World.cell?_of_block (a:=⟨b,i,none⟩) c
 unfold Zmq at h ⊢;simp only [d];exact h
def RdR (w:World) (v:Value) (l:List Rec):Prop:=
 ∃ ao cap,v=.slice ao l.length cap∧l.length<=cap∧cap<=maxLen∧(ao=none->cap=0)∧(∀ r ∈ l,Zga r)∧
  (l=[]∨∃ b off,ao=some ⟨b,off,none⟩∧∀ j,j<l.length->Zmq w b (off+j*7) (l.getD j Zaj))
theorem RdR.nil (w:World):RdR w (.slice none 0 0) []:=⟨none,0,rfl,Nat.le_refl _,Nat.zero_le _,fun _=>rfl,(fun r h=>by simp at h),.inl rfl⟩
theorem RdR.below {w w':World} {v:Value} {l:List Rec} (h:RdR w v l) {B:Nat} (i:Below B w w') (n:w.heap.size<=B):RdR w' v l:=by
 obtain⟨ao,cap,d,m,f,k,e,a⟩:=h;refine⟨ao,cap,d,m,f,k,e,?_⟩;rcases a with a | ⟨b,off,h5,h6⟩
 ·exact .inl a
 ·refine .inr ⟨b,off,h5,fun j g=>?_⟩
  have c:=h6 j g;exact c.keep (i.block b (by have:=c.lt;omega))
def Zan:List Rec->List Value
 | []=>[]
 | r::t=>(Zeo r).toList++Zan t
theorem Zbo:∀ l:List Rec,(Zan l).length=l.length*7
 | []=>rfl
 | r::t=>by
  rw[Zan,length_append,Zbo t,List.length_cons];simp[Zeo];omega
theorem Zdv:∀ a b:List Rec,Zan (a++b)=Zan a++Zan b
 | [],_=>rfl
 | r::t,b=>by rw[List.cons_append,Zan,Zdv t b,Zan,List.append_assoc]
theorem ZeA:∀ (l:List Rec) (j k:Nat),j<l.length->k<7->(Zan l)[j*7+k]?=(Zeo (l.getD j Zaj))[k]?
 | r::t,0,k,_,hk=>by
  rw[Zan,Nat.zero_mul,Nat.zero_add,List.getElem?_append_left (by simp[Zeo];omega)]
  simp[List.getD]
 | r::t,j+1,k,hj,hk=>by
  have e:(j+1)*7+k=(Zeo r).toList.length+(j*7+k):=by simp[Zeo];omega
  rw[Zan,e,List.getElem?_append_right (by omega),Nat.add_sub_cancel_left,ZeA t j k (by simpa using hj) hk]
  simp[List.getD]
theorem ZeB (l:List Rec):∀ u ∈ Zan l,u.oneCell'=true:=by
 induction l with
 | nil=>intro u a;simp[Zan] at a
 | cons r t b=>
  intro u a;rw[Zan] at a;rcases List.mem_append.1 a with h | h
  ·simp[Zeo] at h
   rcases h with rfl | rfl | rfl | rfl | rfl | rfl | rfl <;> rfl
  ·exact b u h
def Zbq (w:World) (B:Nat) (v:Value) (l:List Rec):Prop:=w.ownsRow B 62 7 v l.length (Zan l)
theorem Zbq.nil (w:World) (B:Nat):Zbq w B (.slice none 0 0) []:=World.ownsRow_nil w B 62 7
theorem Zbq.rd {w:World} {B:Nat} {v:Value} {l:List Rec} (h:Zbq w B v l) (c:∀ r ∈ l,Zga r):RdR w v l:=by
 rcases h.2 with ⟨b,d⟩ | ⟨g,cap,cur,b,t,y,n,m,x,q⟩
 ·exact⟨none,0,by rw[b,d],by omega,Nat.zero_le _,fun _=>rfl,c,.inl (List.eq_nil_of_length_eq_zero d)⟩
 ·refine⟨some ⟨g,0,none⟩,cap,b,n,m,(fun e=>by cases e),c,.inr ⟨g,0,rfl,fun j f=>?_⟩⟩
  have a:∀ k u,k<7->(Zeo (l.getD j Zaj))[k]?=some u->w.cell? ⟨g,0+j*7+k,none⟩=some u:=fun k u p i=>by
   have:=World.ownsRow.cells h (g:=g) (by rw[b];rfl) (j*7+k) u ((ZeA l j k f p).trans i)
   rw[Addr.add_lit] at this;rw[Nat.add_assoc];exact this
  exact⟨a 0 _ (by decide) rfl,a 1 _ (by decide) rfl,a 2 _ (by decide) rfl,a 3 _ (by decide) rfl,a 4 _ (by decide) rfl,a 5 _ (by decide) rfl,a 6 _ (by decide) rfl⟩
theorem Zbq.below {w w':World} {B B':Nat} {v:Value} {l:List Rec} (h:Zbq w B v l) (c:Below B' w w') (d:w.heap.size<=B'):Zbq w' B v l:=by
 obtain⟨b,a⟩:=h;refine⟨b,?_⟩;rcases a with a | ⟨g,cap,cur,hv,hbg,hg,r⟩
 ·exact .inl a
 ·have e:g<w.heap.size:=(Array.getElem?_eq_some_iff.1 hg).1
  exact .inr ⟨g,cap,cur,hv,hbg,by rw[c.block g (by omega)];exact hg,r⟩
theorem Zbq.mono {w:World} {B B':Nat} {v:Value} {l:List Rec} (h:Zbq w B v l) (c:B'<=B):Zbq w B' v l:=by
 obtain⟨b,a⟩:=h;refine⟨b,?_⟩;rcases a with a | ⟨g,cap,cur,hv,hb,r⟩
 ·exact .inl a
 ·exact .inr ⟨g,cap,cur,hv,by omega,r⟩
theorem Zbq.shape {w:World} {B:Nat} {v:Value} {l:List Rec} (h:Zbq w B v l):∃ ao cap,v=.slice ao l.length cap:=by
 rcases h.2 with ⟨a,b⟩ | ⟨g,cap,cur,a,_⟩
 ·exact⟨none,0,by rw[a,b]⟩
 ·exact⟨_,_,a⟩
theorem Zgs:(prog.info? 62).map (fun i=>(i.zero,i.size,i.bytes))=some (some (.agg #[.int .i64 0,.int .i64 0,.int .i64 0,.int .i64 0,.int .i64 0,.int .i64 0,.int .i64 0]),7,56):=by kernel_rfl
theorem Zmr (w:World) (ty:TypeId) (B:Nat) (v:Value) (l:List Rec) (h:Zbq w B v l) (r:Rec) (q:l.length<=1000000) (g:B<=w.heap.size):
 ∃ v' w',(Builtin.append_ #[29,29] ty #[v,.slice (some ⟨w.heap.size,0,none⟩) 1 1]).run prog (w.alloc (.cells (Zeo r) 62))=.ok v' w'∧Zbq w' B v' (l++[r])∧Below B w w':=by
 obtain⟨d,e,m,f,i⟩:=info_parts Zgs
 obtain⟨v',w',b,a,n,_⟩:=run_append_own (P:=prog) (w.alloc (.cells (Zeo r) 62)) B 29 ty 62 d _ 7 56 underlying29 e m f i rfl (by decide) v l.length (Zan l) (h.alloc _)
  ⟨w.heap.size,0,none⟩ 1 1 (Zan [r]) (Zbo [r]) (fun j u c=>by
   rw[Addr.add_lit,Nat.zero_add,cell_of_row _ w.heap.size j _ 62 (0,0) (heap_alloc_new w _)]
   simpa[Zan] using c) (ZeB [r]) (by unfold maxLen;omega) (by omega) (by simp;omega)
 refine⟨v',w',b,?_,?_⟩
 ·unfold Zbq
  rw[length_append,Zdv];exact a
 ·exact((Below.refl _ _).alloc g _).grown n (by simp;omega) (fun k p=>(World.ownsRow.lt h k p).1)
theorem ZiJ (w:World) {b:Array Oper} {rest:List Oper} {o:Oper} {a:Act} {Q:Exit->Act->World->Prop} (m:o.guard=none) (s x:Operand)
 (d:o.op=.call { callee:=.builtin .append,args:=#[s,x],argTypes:=#[29,29] })
 (B:Nat) (v:Value) (l:List Rec) (j:a.eval s=v) (c:Zbq w B v l) (r:Rec) (e:a.eval x=.slice (some ⟨w.heap.size,0,none⟩) 1 1)
 (p:l.length<=1000000) (k:B<=w.heap.size)
 (h:∀ v' w',Zbq w' B v' (l++[r])->Below B w w'->wpList prog b Q rest (a.put o.dst v') w'):wpList prog b Q (o::rest) a (w.alloc (.cells (Zeo r) 62)):=
 wpList_plain m fun _ g=>by
  obtain⟨v',w',f,n,i⟩:=Zmr w o.type B v l c r p k;unfold Oper.wp execOp;simp only [d,resolve,invoke,builtin,Sem.run_bind,Sem.run_pure,Result.andThen_ok,List.map_toArray,List.map_cons,List.map_nil,j,e,f];exact g _ _ (h v' w' n i)
theorem ZkX:prog.elem 29=62:=by kernel_rfl
theorem Zgt:prog.underlying 29=some (.slice (prog.elem 29)):=by rw[ZkX];exact underlying29
theorem Ztq (w:World):(sizeOf 62).run prog w=.ok 7 w:=by
 obtain⟨c,b,_,a,_⟩:=info_parts Zgs;simp[sizeOf,typeInfo,b,a]
theorem Br.set {w:World} {b:Nat} {cs:Array Value} (h:Br w b cs) (j:Nat) (x:Value):Br (w.setCell ⟨b,j,none⟩ x) b (cs.setIfInBounds j x):=by
 have:=heap_setCell_same w b j _ _ x h;unfold Br;simpa using this
theorem ZgG (n lo c:Int) (a b:Nat) (w:World) (j:w.cell? ⟨a,0,none⟩=some (.int .i64 lo)) (i:w.cell? ⟨b,0,none⟩=some (.int .i64 c)):
 Calls prog 170 #[.int .i64 n,.pointer (some ⟨a,0,none⟩),.pointer (some ⟨b,0,none⟩)] w fun e w'=>e=.returned (.bool (decide (lo<=n∧n<=c)))∧w'=w:=by
 have g:Hid ((decide (lo<=n) && decide (n<=c))=decide (lo<=n∧n<=c)):=(Bool.decide_and _ _).symm;have f:Hid (lo<=n->decide (n<=c)=decide (lo<=n∧n<=c)):=fun h=>by rw[<-g.o,decide_eq_true h,Bool.true_and]
 by_cases d:lo<=n
 ·go_enter func170,ntmps170
  go_wp2;go_ret;exact⟨ZbZ (f.o d),rfl⟩
 ·go_enter func170,ntmps170
  go_wp2;go_ret;exact⟨ZbZ (by rw[decide_eq_false (Int.not_le.2 d),Bool.false_and]),rfl⟩
theorem ZcJ (lo c:Int) (w:World):
 Calls prog 121 #[.int .i64 lo,.int .i64 c] w fun e w'=>∃ a b,e=.returned (.func (.func 170) #[] #[.pointer (some ⟨a,0,none⟩),.pointer (some ⟨b,0,none⟩)])∧w'.cell? ⟨a,0,none⟩=some (.int .i64 lo)∧w'.cell? ⟨b,0,none⟩=some (.int .i64 c)∧Below w.heap.size w w':=by
 have f:∀ (fn:Fn) (first cap:Array Value) (w:World),(Instr.makeFunc fn first cap).run prog w=.ok (.func fn first cap) w:=fun _ _ _ _=>rfl
 have d:Hid (∀ x y,Below w.heap.size w ((w.alloc x).alloc y)):=fun x y=>((Below.refl _ _).alloc zL x).alloc (by simp) y
 go_enter func121,ntmps121
 go_wp2;go_ret;refine⟨_,_,rfl,?_,?_,d.o _ _⟩
 ·rw[World.cell?_alloc_past _ _ _ (by simp),World.cell?_alloc_at _ _ _ _ rfl];rfl
 ·rw[World.cell?_alloc_at _ _ _ _ (by simp)];rfl
theorem ZiK (n:Int):max (-1099511627776) (min n 1099511627776)=ZeG n:=by
 unfold ZeG;split
 ·omega
 ·split <;> omega
theorem ZhN (n:Int) (w:World):Calls prog 173 #[.int .i64 n] w fun e w'=>e=.returned (.int .i64 (ZeG n))∧w'=w:=by
 by_cases b:1099511627776<n
 ·go_enter func173,ntmps173
  go_wp2;go_ret;refine⟨ZAw ?_,rfl⟩
  first
   | exact ZiK n
   | (unfold ZeG;split <;> (try split) <;> omega)
 by_cases a:n<=-1099511627776
 ·go_enter func173,ntmps173
  go_wp2;go_ret;refine⟨ZAw ?_,rfl⟩
  first
   | exact ZiK n
   | (unfold ZeG;split <;> (try split) <;> omega)
 ·go_enter func173,ntmps173
  go_wp2;go_ret;refine⟨ZAw ?_,rfl⟩
  first
   | exact ZiK n
   | (unfold ZeG;split <;> (try split) <;> omega)
theorem Zoh (ao:Option Addr) (n cap:Nat) (w:World):Calls prog 177 #[.slice ao n cap] w fun e w'=>e=.returned (.bool (decide (n=128)))∧w'=w:=by
 by_cases h:n=128
 ·have a:Hid (decide (n=128)=true):=decide_eq_true h
  have b:((n:Int) == 128)=true:=beq_iff_eq.2 (by omega)
  clear h
  go_enter func177,ntmps177
  go_wp2;go_ret;exact⟨ZbZ a.o.symm,rfl⟩
 ·have a:Hid (decide (n=128)=false):=decide_eq_false h
  have b:((n:Int) == 128)=false:=beq_eq_false_iff_ne.2 (by omega)
  clear h
  go_enter func177,ntmps177
  go_wp2;go_ret;exact⟨ZbZ a.o.symm,rfl⟩
theorem Ztr {a b:Int} {c d:Bool} (h:a=b) (e:c=d):Ending.returned (.tuple #[.int .i64 a,.bool c])=.returned (.tuple #[.int .i64 b,.bool d]):=by rw[h,e]
theorem Zxc (v:Value) (l:List Int) (key:Int) (w:World) (H:RdI w v l) (F:l.length % 2=0) (I:l.length<=1000000):
 Calls prog 211 #[v,.int .i64 key] w fun e w'=>e=.returned (.tuple #[.int .i64 (Zaq key l),.bool (decide (Zaq key l<l.length∧l.getD (Zaq key l) 0=key))])∧Below w.heap.size w w':=by
 obtain⟨ao,cap,rfl,-,-,-,-,p⟩:=H;have C:=Zac p;clear p;obtain⟨P,n⟩:∃ P,P=Zaq key l:=⟨_,rfl⟩;obtain⟨R,f⟩:∃ R,R=decide (P<l.length∧l.getD P 0=key):=⟨_,rfl⟩;rw[<-n,<-f];have x:=Zac n;have t:=Zac f;clear n f
 go_enter func211,ntmps211
 go_wp2
 go_loop [6] (fun i=>∃ k:Nat,i=.int .i64 k∧k<=l.length∧k % 2=0∧Hid (∀ j,j<k->j % 2=0->l.getD j 0<key)) (fun i=>l.length-(intOf i).toNat)
 case atStart=>exact⟨0,rfl,Nat.zero_le _,rfl,fun j B=>by omega⟩
 case round=>
  obtain⟨k,rfl,G,D,q⟩:=hrel;have u:Hid (P=k+Zaq key (l.drop k)):=x.o.trans (ZkA key l k F D G q.o);by_cases b:k<l.length
  ·rcases C.o with h0 | ⟨g,off,rfl,hc⟩
   ·rw[h0] at b;simp at b
   have z:=hc k b;clear hc;obtain⟨y,m⟩:∃ y,y=l.getD k 0:=⟨_,rfl⟩;rw[<-m] at z;have c:=Zac m;clear m;by_cases E:key<=y
   ·have a:Hid (P=k):=u.o.trans (by rw[Zrh key l k (by omega) (by rw[<-c.o];exact E)];exact Nat.add_zero k)
    have d:Hid (R=(y == key)):=by
     rw[t.o,a.o,<-c.o];by_cases e:y=key
     ·rw[beq_iff_eq.2 e];exact decide_eq_true ⟨b,e⟩
     ·rw[beq_eq_false_iff_ne.2 e];exact decide_eq_false (fun h=>e h.2)
    have J:(k:Int)<(l.length:Int):=by omega
    go_wp2
    go_quiet(fail)
    go_wp2;go_ret2;exact⟨Ztr (by rw[a.o]) d.o.symm,ZaI (Below.refl _ _) _⟩
   ·go_wp2
    go_round
    case rel=>
     refine⟨k+2,by go_num,by omega,by omega,fun j B A=>?_⟩
     by_cases e:j=k
     ·rw[e,<-c.o];omega
     ·exact q.o j (by omega) A
    case measure=>simp[intOf];omega
  ·have a:Hid (P=l.length):=by
    have e:k=l.length:=by omega
    rw[u.o,e,List.drop_length];exact rfl
   have d:Hid (R=false):=t.o.trans (decide_eq_false (fun h=>by have:=h.1;rw[a.o] at this;omega))
   go_wp2;go_ret2;exact⟨Ztr (by rw[a.o]) d.o.symm,Below.refl _ _⟩
theorem ZiL (v:Value) (l:List Int) (key least lo:Int) (w:World) (b:RdI w v l) (a:Zat least lo l) (c:l.length<=1000000):
 Calls prog 211 #[v,.int .i64 key] w fun e w'=>e=.returned (.tuple #[.int .i64 (Zaq key l),.bool (ZdO key l)])∧Below w.heap.size w w':=by
 rw[(ZeZ key least l lo a).1];exact Zxc v l key w b (ZeU a) c
theorem Zdw {least:Int}:∀ {l:List Int} {lo:Int},-1099511627776<=least->-1<=lo->Zat least lo l->∀ x ∈ l,I64 x
 | [],_,_,_,_,x,hx=>by simp at hx
 | [_],_,_,_,h,_,_=>by simp[Zat] at h
 | a::b::r,lo,hl,hlo,h,x,hx=>by
  unfold Zat at h;have c:=Zdw (l:=r) (lo:=a) hl (by omega) h.2.2.2.2 x
  simp at hx;rcases hx with rfl | rfl | hx
  ·exact Zai (by omega) (by omega)
  ·exact Zai (by omega) (by omega)
  ·exact c hx
theorem ZjV (v:Value) (l:List Int) (key least lo:Int) (w:World) (t:RdI w v l) (m:Zat least lo l) (A:l.length<=1000000):
 Calls prog 175 #[v,.int .i64 key] w fun e w'=>e=.returned (.tuple #[.int .i64 ((Zcp key l).getD 0),.bool (ZdO key l)])∧Below w.heap.size w w':=by
 have c:Hid (Calls prog 211 #[v,.int .i64 key] w fun e w'=>e=.returned (.tuple #[.int .i64 (Zaq key l),.bool (ZdO key l)])∧Below w.heap.size w w'):=ZiL v l key least lo w t m A
 have d:=Zac (ZeZ key least l lo m).2;obtain⟨ao,cap,rfl,-,-,-,-,p⟩:=t;have q:=Zac p;obtain⟨G,i⟩:∃ G,G=(Zcp key l).getD 0:=⟨_,rfl⟩;rw[<-i];have f:=Zac i;clear p m i
 cases hh:ZdO key l
 ·rw[hh] at c
  have k:Hid (0=G):=by
   have:Zcp key l=none:=by
    unfold ZdO at hh
    cases h:Zcp key l with
    | none=>rfl
    | some x=>rw[h] at hh;simp at hh
   rw[f.o,this];exact rfl
  clear hh d
  go_enter func175,ntmps175
  go_wp2_with fail
  refine c.o.mono ?_;rintro e u ⟨rfl,a⟩;have j:=Zac a;clear a;go_wp2;go_ret2;exact⟨Ztr k.o rfl,j.o⟩
 ·rw[hh] at c
  obtain⟨n,b⟩:=d.o hh
  have k:Hid (l.getD (Zaq key l+1) 0=G):=by
   rw[f.o,n];exact rfl
  rcases q.o with h0 | ⟨g,off,rfl,hc⟩
  ·rw[h0] at b;simp at b
  have z:Hid (∀ W,Below w.heap.size w W->W.cell? ⟨g,off+(Zaq key l+1),none⟩=some (.int .i64 (l.getD (Zaq key l+1) 0))):=fun W h=>(h.cell (World.block_lt_of_cell? w ⟨g,off+(Zaq key l+1),none⟩ (hc _ b))).trans (hc _ b)
  clear hh d n q hc f;generalize l.getD (Zaq key l+1) 0=y at *;generalize Zaq key l=P at *;have B:(P:Int)+1<(l.length:Int):=by omega
  clear b
  go_enter func175,ntmps175
  go_wp2_with fail
  refine c.o.mono ?_;rintro e u ⟨rfl,a⟩;have j:=Zac a;have C:=z.o _ a;clear a;go_wp2;go_ret2;exact⟨Ztr k.o rfl,j.o⟩
theorem ZjW (v:Value) (l:List Int) (key n least lo:Int) (B:Nat) (w:World) (d:ZaB w B v l) (Q:B<=w.heap.size) (E:∀ x ∈ l,I64 x) (c:Zat least lo l) (H:l.length<=1000000):
 Calls prog 178 #[v,.int .i64 key,.int .i64 n] w fun e w'=>∃ v',e=.returned v'∧ZaB w' B v' (ZaO key n false l)∧Mv w w' v v':=by
 have j:Hid (Calls prog 211 #[v,.int .i64 key] w fun e w'=>e=.returned (.tuple #[.int .i64 (Zaq key l),.bool (ZdO key l)])∧Below w.heap.size w w'):=ZiL v l key least lo w (d.rd E) c H
 have p:=(Zkz key l (ZeU c)).1;have m:=Zac (ZeZ key least l lo c).2;have q:=Zac d
 cases hh:ZdO key l
 ·rw[hh] at j
  have b:=Zac (Zje key n least l lo c hh)
  have t:Hid (∀ W,ZaB W B v l->B<=W.heap.size->Calls prog 212 #[v,.int .i64 (Zaq key l),.slice (some ⟨W.heap.size,0,none⟩) 2 2] (W.alloc (.cells #[.int .i64 key,.int .i64 n] 3)) fun e w'=>∃ v',e=.returned v'∧ZaB w' B v' (l.take (Zaq key l)++([key,n]++l.drop (Zaq key l)))∧Mv W w' v v'):=
   fun W k i=>ZrB v l B W k i H (Zaq key l) p _ rfl key n _ rfl
  obtain⟨L',a⟩:∃ L',L'=ZaO key n false l:=⟨_,rfl⟩;rw[<-a];rw[<-a] at b;have A:=Zac b.o.symm;rw[A.o] at t;clear a b A d c m hh p;generalize Zaq key l=P at *
  go_enter func178,ntmps178
  go_wp2_with fail
  refine j.o.mono ?_;rintro e C ⟨rfl,f⟩;have h:=Zac f;clear f
  go_wp2_with fail
  refine(t.o C (q.o.below h.o zL) (Nat.le_trans Q h.o.size)).mono ?_;rintro e V ⟨v2,rfl,z,u⟩;have M:=Zac ((Mv.ofBelow h.o v).trans u);have J:=Zac z;clear u z;go_wp2;go_ret;exact⟨_,rfl,J.o,M.o⟩
 ·rw[hh] at j
  have b:=Zac (Zpj key n least l lo c hh);obtain⟨k,i⟩:=m.o hh;obtain⟨L',a⟩:∃ L',L'=ZaO key n false l:=⟨_,rfl⟩;rw[<-a];rw[<-a] at b;have K:=d.put _ i n;obtain⟨g,cap,rfl,-,-,Y,ab,-,-⟩:=K
  have N:Hid (∀ W,Below w.heap.size w W->W.cell? ⟨g,Zaq key l+1,none⟩=some (.int .i64 (l.getD (Zaq key l+1) 0))∧W.frozen? ⟨g,Zaq key l+1,none⟩=false∧ZaB (W.setCell ⟨g,Zaq key l+1,none⟩ (.int .i64 n)) B (.slice (some ⟨g,0,none⟩) l.length cap) L'∧Mv w (W.setCell ⟨g,Zaq key l+1,none⟩ (.int .i64 n)) (.slice (some ⟨g,0,none⟩) l.length cap) (.slice (some ⟨g,0,none⟩) l.length cap)):=fun W G=>by
   obtain⟨g',ac,D,L,R,h5,X,T,O⟩:=(q.o.below G zL).put _ i n;simp only [Value.slice.injEq,Option.some.injEq,Addr.mk.injEq] at D;obtain⟨⟨rfl,_⟩,_,rfl⟩:=D;exact⟨L,R,by rw[b.o];exact T,(Mv.ofBelow G _).trans O⟩
  clear a b d c m hh p k q E;generalize l.getD (Zaq key l+1) 0=y at *;generalize Zaq key l=P at *;have aa:(P:Int)+1<(l.length:Int):=by omega
  clear i
  go_enter func178,ntmps178
  go_wp2_with fail
  refine j.o.mono ?_;rintro e C ⟨rfl,f⟩;obtain⟨Z,U,F,I⟩:=N.o _ f;have S:=Zac F;have h:=Zac I;clear f F I;go_wp2;go_ret;exact⟨_,rfl,S.o,h.o⟩
theorem Zzm (v:Value) (l:List Int) (key least lo:Int) (B:Nat) (w:World) (g:ZaB w B v l) (q:∀ x ∈ l,I64 x) (a:Zat least lo l) (E:l.length<=1000000):
 Calls prog 176 #[v,.int .i64 key] w fun e w'=>∃ v',e=.returned v'∧ZaB w' B v' (Zbe key l)∧Mv w w' v v':=by
 have f:Hid (Calls prog 211 #[v,.int .i64 key] w fun e w'=>e=.returned (.tuple #[.int .i64 (Zaq key l),.bool (ZdO key l)])∧Below w.heap.size w w'):=ZiL v l key least lo w (g.rd q) a E
 have t:=(Zkz key l (ZeU a)).1;have i:=Zac (ZeZ key least l lo a).2;have u:=Zac g
 cases hh:ZdO key l
 ·rw[hh] at f
  have b:=Zac (Zjf key least l lo a hh);rw[b.o];clear b g a i hh t q;generalize Zaq key l=P at *
  go_enter func176,ntmps176
  go_wp2_with fail
  refine f.o.mono ?_;rintro e p ⟨rfl,c⟩;have d:=Zac c;clear c;go_wp2;go_ret;exact⟨_,rfl,u.o.below d.o zL,Mv.ofBelow d.o v⟩
 ·rw[hh] at f
  have b:=Zac (Zjg key least l lo a hh);obtain⟨z,D⟩:=i.o hh
  have m:Hid (∀ W J,ZaB W B v l->J=((Zaq key l+2:Nat):Int)->Calls prog 210 #[v,.int .i64 (Zaq key l),.int .i64 J] W fun e w'=>∃ v',e=.returned v'∧ZaB w' B v' (l.take (Zaq key l)++l.drop (Zaq key l+2))∧Mv W w' v v'):=
   fun W J A F=>ZkT v l B W A (Zaq key l) (Zaq key l+2) (by omega) (by omega) _ _ rfl F
  obtain⟨L',h⟩:∃ L',L'=Zbe key l:=⟨_,rfl⟩;rw[<-h];rw[<-h] at b;have n:=Zac b.o.symm;rw[n.o] at m;clear h b n g a i hh t z;generalize Zaq key l=P at *;have H:(P:Int)+1<(l.length:Int):=by omega
  clear D
  go_enter func176,ntmps176
  go_wp2_with fail
  refine f.o.mono ?_;rintro e p ⟨rfl,c⟩;have d:=Zac c;clear c
  go_wp2_with fail
  refine(m.o p _ (u.o.below d.o zL) (by omega)).mono ?_
  rintro e G ⟨I,rfl,k,j⟩;have C:=Zac ((Mv.ofBelow d.o v).trans j);have y:=Zac k;clear j k;go_wp2;go_ret;exact⟨_,rfl,y.o,C.o⟩
def Zhd (B:Nat) (w:World) (v:Value) (L:List Int) (n:Int) (e:Ending) (w':World):Prop:=
 ∃ v',e=.returned (.tuple #[v',.int .i64 n])∧ZaB w' B v' L∧Mv w w' v v'
theorem ZaB.alloc {w:World} {B:Nat} {v:Value} {l:List Int} (h:ZaB w B v l) (X:Obj):ZaB (w.alloc X) B v l:=World.ownsRow.alloc h X
theorem ZaB.single {w:World} {B:Nat} {v:Value} {l:List Int} (h:ZaB w B v l) (c:l.length=1):
 ∃ g cap,v=.slice (some ⟨g,0,none⟩) 1 cap∧(∀ X,(w.alloc X).cell? ⟨g,0,none⟩=some (.int .i64 (l.getD 0 0))∧(w.alloc X).frozen? ⟨g,0,none⟩=false)∧g<w.heap.size∧
  ∀ X n,ZaB ((w.setCell ⟨g,0,none⟩ (.int .i64 n)).alloc X) B v [n]∧Mv w ((w.setCell ⟨g,0,none⟩ (.int .i64 n)).alloc X) v v:=by
 obtain⟨g,cap,rfl,-,-,m,j,-,-⟩:=h.put 0 (by omega) 0
 refine⟨g,cap,by rw[c],fun X=>?_,j,fun X n=>?_⟩
 ·obtain⟨g',k,a,b,d,_⟩:=(h.alloc X).put 0 (by omega) 0
  simp only [Value.slice.injEq,Option.some.injEq,Addr.mk.injEq] at a;obtain⟨⟨rfl,_⟩,_,rfl⟩:=a;exact⟨b,d⟩
 ·obtain⟨g',k,a,b,d,_,_,f,i⟩:=h.put 0 (by omega) n
  simp only [Value.slice.injEq,Option.some.injEq,Addr.mk.injEq] at a;obtain⟨⟨rfl,_⟩,_,rfl⟩:=a
  have e:l.set 0 n=[n]:=by
   match l,c with
   | [_],_=>rfl
  rw[e] at f;exact⟨f.alloc X,i.trans (Mv.alloc _ _ X)⟩
theorem ZrH (v:Value) (l:List Int) (o:Opn) (d:Bool) (g:Int) (B:Nat) (w:World) (p:ZaB w B v l) (u:l.length=1) (C:-1099511627776<=l.getD 0 0) (z:l.getD 0 0<=1099511627776):
 Calls prog 124 #[v,opV o] w fun e w'=>e=.returned (.int .i64 (Zhn ⟨0,l,d,g⟩ o).2)∧ZaB w' B v (Zhn ⟨0,l,d,g⟩ o).1.L∧Mv w w' v v:=by
 obtain⟨f,a,b⟩:=o;have x:=Zac p;have t:Hid (∀ X,Mv w (w.alloc X) v v):=fun X=>Mv.alloc w v X
 have E:=Zac (fun n w=>ZhN n w)
 obtain⟨c,cap,rfl,m,G,y⟩:=p.single u;have D:=Zac y;have F:=fun X=>(m X).1
 have H:=fun X=>(m X).2
 clear y p m;obtain⟨n,k⟩:∃ n,n=l.getD 0 0:=⟨_,rfl⟩;rw[<-k] at C z;simp only [<-k] at F;have q:=Zac k;have I:=Zfj a;clear k u;show Calls prog _ #[_,.agg #[.int .i64 f,.int .i64 a,.int .i64 b]] w _;by_cases j:f=1
 ·subst j
  have i:Hid (Zhn ⟨0,l,d,g⟩ ⟨1,a,b⟩=(⟨0,[ZeG (n+ZeG a)],d,g⟩,n)):=by rw[q.o];exact if_pos ⟨rfl,rfl⟩
  rw[i.o]
  go_enter func124,ntmps124
  go_wp2_with(first | (go_at_call 173;refine(E.o _ _).mono ?_;rintro e K ⟨rfl,rfl⟩))
  go_ret;exact⟨rfl,D.o _ _⟩
 ·have J:(f == 1)=false:=beq_eq_false_iff_ne.2 j
  by_cases h:f=7
  ·have A:(f == 7)=true:=beq_iff_eq.2 h
   have i:Hid (Zhn ⟨0,l,d,g⟩ ⟨f,a,b⟩=(⟨0,l,d,g⟩,n)):=by
    rw[q.o];unfold Zhn;rw[if_neg (by simp;omega),if_neg (by simp),if_pos h]
    exact rfl
   rw[i.o];clear j h
   go_enter func124,ntmps124
   go_wp2;go_ret;exact⟨rfl,x.o.alloc _,t.o _⟩
  ·have A:(f == 7)=false:=beq_eq_false_iff_ne.2 h
   have i:Hid (Zhn ⟨0,l,d,g⟩ ⟨f,a,b⟩=(⟨0,l,d,g⟩,0)):=by
    unfold Zhn;rw[if_neg (by simp;omega),if_neg (by simp),if_neg h]
    exact rfl
   rw[i.o];clear j h
   go_enter func124,ntmps124
   go_wp2;go_ret;exact⟨rfl,x.o.alloc _,t.o _⟩
theorem ZpP (v:Value) (l:List Int) (o:Opn) (d:Bool) (g:Int) (B:Nat) (w:World) (m:ZaB w B v l) (u:l.length=1):
 Calls prog 125 #[v,opV o] w fun e w'=>e=.returned (.int .i64 (Zhn ⟨1,l,d,g⟩ o).2)∧ZaB w' B v (Zhn ⟨1,l,d,g⟩ o).1.L∧Mv w w' v v:=by
 obtain⟨f,a,b⟩:=o;have x:=Zac m;have t:Hid (∀ X,Mv w (w.alloc X) v v):=fun X=>Mv.alloc w v X
 have C:=Zac (fun n w=>ZhN n w)
 obtain⟨c,cap,rfl,k,E,y⟩:=m.single u;have A:=Zac y;have D:=fun X=>(k X).1
 have F:=fun X=>(k X).2
 clear y m k;obtain⟨n,p⟩:∃ n,n=l.getD 0 0:=⟨_,rfl⟩;simp only [<-p] at D;have q:=Zac p;clear p u;show Calls prog _ #[_,.agg #[.int .i64 f,.int .i64 a,.int .i64 b]] w _;by_cases j:f=2
 ·subst j
  have i:Hid (Zhn ⟨1,l,d,g⟩ ⟨2,a,b⟩=(⟨1,[ZeG a],d,g⟩,n)):=by rw[q.o];exact rfl
  rw[i.o]
  go_enter func125,ntmps125
  go_wp2_with(first | (go_at_call 173;refine(C.o _ _).mono ?_;rintro e H ⟨rfl,rfl⟩))
  go_ret;exact⟨rfl,A.o _ _⟩
 ·have G:(f == 2)=false:=beq_eq_false_iff_ne.2 j
  by_cases h:f=7
  ·have z:(f == 7)=true:=beq_iff_eq.2 h
   have i:Hid (Zhn ⟨1,l,d,g⟩ ⟨f,a,b⟩=(⟨1,l,d,g⟩,n)):=by
    rw[q.o];unfold Zhn;rw[if_neg (by simp),if_neg (by simp;omega),if_pos h]
    exact rfl
   rw[i.o];clear j h
   go_enter func125,ntmps125
   go_wp2;go_ret;exact⟨rfl,x.o.alloc _,t.o _⟩
  ·have z:(f == 7)=false:=beq_eq_false_iff_ne.2 h
   have i:Hid (Zhn ⟨1,l,d,g⟩ ⟨f,a,b⟩=(⟨1,l,d,g⟩,0)):=by
    unfold Zhn;rw[if_neg (by simp),if_neg (by simp;omega),if_neg h]
    exact rfl
   rw[i.o];clear j h
   go_enter func125,ntmps125
   go_wp2;go_ret;exact⟨rfl,x.o.alloc _,t.o _⟩
theorem ZAL (kind:Int) (U:kind=2∨kind=3) (v:Value) (l:List Int) (f:Bool) (g a b:Int) (B:Nat) (w:World) (k:ZaB w B v l) (p:∀ x ∈ l,I64 x) (F:l.length<=64):
 Calls prog 174 #[.int .i64 kind,v] w fun e w'=>Zhd B w v (Zcr ⟨kind,l,f,g⟩ ⟨4,a,b⟩).1.L (Zcr ⟨kind,l,f,g⟩ ⟨4,a,b⟩).2 e w':=by
 have t:=Zac k;have G:=k.shape;by_cases d:l.length=0
 ·have j:Hid (Zcr ⟨kind,l,f,g⟩ ⟨4,a,b⟩=(⟨kind,l,f,g⟩,-1)):=by
   unfold Zcr;rw[if_neg (by simp),if_pos rfl,if_pos d]
   exact rfl
  rw[j.o];obtain⟨ao,cap,rfl⟩:=G;rw[d]
  have N:Hid (ZaB w B (.slice ao 0 cap) l):=by
   have h:=t.o
   rwa [d] at h
  clear t k d j p F
  go_enter func174,ntmps174
  go_wp2;go_ret2;exact⟨_,rfl,N.o,Mv.refl _ _⟩
 ·have R:((l.length:Int) == 0)=false:=beq_eq_false_iff_ne.2 (by omega)
  have A:l≠[]:=fun h=>d (by rw[h];rfl)
  have V:=k.rd p;obtain⟨ao,cap,rfl⟩:=G
  have u:Hid (∀ i:Nat,i<l.length->∀ I J,I=(i:Int)->J=((i+1:Nat):Int)->Calls prog 210 #[.slice ao l.length cap,.int .i64 I,.int .i64 J] w fun e w'=>∃ v',e=.returned v'∧ZaB w' B v' (l.take i++l.drop (i+1))∧Mv w w' (.slice ao l.length cap) v'):=
   fun i p I J O T=>ZkT _ l B w t.o i (i+1) (by omega) (by omega) I J O T
  obtain⟨X,Y,H,-,-,-,-,P⟩:=V;simp only [Value.slice.injEq] at H;obtain⟨rfl,-,rfl⟩:=H;rcases P with hx | ⟨c,off,rfl,hc⟩
  ·exact absurd hx A
  rcases U with rfl | rfl
  ·have j:Hid (Zcr ⟨2,l,f,g⟩ ⟨4,a,b⟩=(⟨2,l.take 0++l.drop (0+1),f,g⟩,l.getD 0 0)):=by
    unfold Zcr;rw[if_neg (by simp),if_pos rfl,if_neg d,if_pos rfl]
    exact rfl
   rw[j.o];have D:=hc 0 (by omega)
   rw[Nat.add_zero] at D;have q:=Zac (u.o 0 (by omega))
   have Z:(0:Int)<(l.length:Int):=by omega
   generalize l.getD 0 0=y at *;generalize l.take 0++l.drop (0+1)=L' at *;clear hc u j d A k p t
   go_enter func174,ntmps174
   go_wp2_with fail
   refine(q.o _ _ (by simp) (by simp)).mono ?_
   rintro e Q ⟨S,rfl,n,m⟩;have z:=Zac n;have C:=Zac m;clear n m;go_wp2;go_ret2;exact⟨_,rfl,z.o,C.o⟩
  ·have j:Hid (Zcr ⟨3,l,f,g⟩ ⟨4,a,b⟩=(⟨3,l.take (l.length-1)++l.drop (l.length-1+1),f,g⟩,l.getD (l.length-1) 0)):=by
    unfold Zcr;rw[if_neg (by simp),if_pos rfl,if_neg d,if_neg (by simp)]
    have e:l.drop (l.length-1+1)=[]:=List.drop_of_length_le (by omega)
    rw[e,List.append_nil];exact rfl
   rw[j.o];have D:=hc (l.length-1) (by omega)
   have q:=Zac (u.o (l.length-1) (by omega))
   obtain⟨M,K⟩:∃ M,M=l.length-1:=⟨_,rfl⟩;rw[<-K] at D q ⊢;have E:l.length=M+1:=by omega
   generalize l.getD M 0=y at *;generalize l.take M++l.drop (M+1)=L' at *;clear hc u j d A k p t K R;rw[E] at q ⊢;have W:(M:Int)<64:=by omega
   clear E F
   go_enter func174,ntmps174
   go_wp2_with fail
   refine(q.o _ _ (by simp) (by simp)).mono ?_
   rintro e Q ⟨S,rfl,n,m⟩;have z:=Zac n;have C:=Zac m;clear n m;go_wp2;go_ret2;exact⟨_,rfl,z.o,C.o⟩
theorem ZbL {v:Value} {a b:Int} (h:a=b):Ending.returned (.tuple #[v,.int .i64 a])=.returned (.tuple #[v,.int .i64 b]):=by rw[h]
theorem Zzn (kind:Int) (q:kind=2∨kind=3) (v:Value) (l:List Int) (o:Opn) (c:Bool) (g:Int) (B:Nat) (w:World) (h:ZaB w B v l) (V:B<=w.heap.size) (k:∀ x ∈ l,I64 x) (t:l.length<=64):
 Calls prog 126 #[.int .i64 kind,v,opV o] w fun e w'=>Zhd B w v (Zcr ⟨kind,l,c,g⟩ o).1.L (Zcr ⟨kind,l,c,g⟩ o).2 e w':=by
 obtain⟨f,a,b⟩:=o;have z:=Zac h;have u:Hid (∀ X,Mv w (w.alloc X) v v):=fun X=>Mv.alloc w v X
 have P:=Zac (fun n w=>ZhN n w)
 show Calls prog _ #[_,_,.agg #[.int .i64 f,.int .i64 a,.int .i64 b]] w _;by_cases i:f=3
 ·subst i
  obtain⟨ao,cap,rfl⟩:=h.shape;by_cases C:l.length=64
  ·have d:Hid (Zcr ⟨kind,l,c,g⟩ ⟨3,a,b⟩=(⟨kind,l,c,g⟩,-1)):=by
    unfold Zcr;rw[if_pos rfl,if_pos C];exact rfl
   rw[d.o];have Q:((l.length:Int) == 64)=true:=beq_iff_eq.2 (by omega)
   clear C d h k t q
   go_enter func126,ntmps126
   go_wp2;go_ret2;exact⟨_,rfl,z.o.alloc _,u.o _⟩
  ·have d:Hid (Zcr ⟨kind,l,c,g⟩ ⟨3,a,b⟩=(⟨kind,l++[ZeG a],c,g⟩,(l.length:Int)+1)):=by
    unfold Zcr;rw[if_pos rfl,if_neg C];exact rfl
   rw[d.o];have Q:((l.length:Int) == 64)=false:=beq_eq_false_iff_ne.2 (by omega)
   obtain⟨L',A⟩:∃ L',L'=l++[ZeG a]:=⟨_,rfl⟩;rw[<-A];have J:=Zac A;have I:Hid ((L'.length:Int)=(l.length:Int)+1):=by rw[A,length_append];exact rfl
   clear C d h k q A
   go_enter func126,ntmps126
   go_wp2_with(first | (go_at_call 173;refine(P.o _ _).mono ?_;rintro e Y ⟨rfl,rfl⟩) | (U;refine Zhy _ rfl _ _ rfl B _ l rfl (z.o.alloc _) _ _ rfl (by simp[R.eval]) (by omega) (by simp;omega) ?_))
   intro N K j G F;have y:=Mv.app G (by simp) F
   clear G F;rw[<-J.o] at j;have E:=Zac j;obtain⟨S,W,rfl⟩:=j.shape;have D:=Zac ((u.o _).trans y);clear j y;go_wp2;go_ret2;exact⟨_,ZbL I.o,E.o,D.o⟩
 ·have O:(f == 3)=false:=beq_eq_false_iff_ne.2 i
  by_cases m:f=4
  ·subst m
   have H:Hid (∀ X,Calls prog 174 #[.int .i64 kind,v] (w.alloc X) fun e w'=>Zhd B (w.alloc X) v (Zcr ⟨kind,l,c,g⟩ ⟨4,a,b⟩).1.L (Zcr ⟨kind,l,c,g⟩ ⟨4,a,b⟩).2 e w'):=fun X=>ZAL kind q v l c g a b B (w.alloc X) (z.o.alloc X) k t
   generalize (Zcr ⟨kind,l,c,g⟩ ⟨4,a,b⟩).1.L=L' at *;generalize (Zcr ⟨kind,l,c,g⟩ ⟨4,a,b⟩).2=n at *;clear h k t q i O
   go_enter func126,ntmps126
   go_wp2_with fail
   refine(H.o _).mono ?_;rintro e K ⟨N,rfl,j,y⟩;have E:=Zac j;have D:=Zac ((u.o _).trans y);clear j y;go_wp2;go_ret2;exact⟨_,rfl,E.o,D.o⟩
  ·have T:(f == 4)=false:=beq_eq_false_iff_ne.2 m
   obtain⟨ao,cap,rfl⟩:=h.shape;by_cases p:f=7
   ·have M:(f == 7)=true:=beq_iff_eq.2 p
    have d:Hid (Zcr ⟨kind,l,c,g⟩ ⟨f,a,b⟩=(⟨kind,l,c,g⟩,(l.length:Int))):=by
     unfold Zcr;rw[if_neg i,if_neg m,if_pos p];exact rfl
    rw[d.o];clear h k t q i m p d
    go_enter func126,ntmps126
    go_wp2;go_ret2;exact⟨_,rfl,z.o.alloc _,u.o _⟩
   ·have M:(f == 7)=false:=beq_eq_false_iff_ne.2 p
    have d:Hid (Zcr ⟨kind,l,c,g⟩ ⟨f,a,b⟩=(⟨kind,l,c,g⟩,0)):=by
     unfold Zcr;rw[if_neg i,if_neg m,if_neg p];exact rfl
    rw[d.o];clear h k t q i m p d
    go_enter func126,ntmps126
    go_wp2;go_ret2;exact⟨_,rfl,z.o.alloc _,u.o _⟩
theorem ZaB.drew {w:World} {B:Nat} {v:Value} {l:List Int} (h:ZaB w B v l):ZaB w.drew B v l:=h
theorem ZeC (key:Int) (l:List Int):Zdr key 0 l<0↔ZdO key l=false:=by
 rw[Zhw];unfold ZdO
 cases Zcp key l <;> simp
theorem Zxd {key:Int} {l:List Int} (h:ZdO key l=true):ZtS key l=(Zcp key l).getD 0:=by
 rw[Zra];unfold ZdO at h
 cases hg:Zcp key l with
 | none=>rw[hg] at h;simp at h
 | some x=>rfl
theorem Zoi {key:Int} {l:List Int} (h:ZdO key l=false):ZtS key l=-1:=by
 rw[Zra];unfold ZdO at h
 cases hg:Zcp key l with
 | none=>rfl
 | some x=>rw[hg] at h;simp at h
theorem ZuJ (v:Value) (l:List Int) (o:Opn) (Z:Bool) (g:Int) (B:Nat) (w:World) (ho:ZaB w B v l) (hB:B<=w.heap.size) (T:Zat (-1099511627776) (-1) l) (ah:l.length<=128):
 Calls prog 127 #[v,opV o] w fun e w'=>Zhd B w v (Zcd ⟨4,l,Z,g⟩ o).1.L (Zcd ⟨4,l,Z,g⟩ o).2 e w':=by
 obtain⟨c,a,b⟩:=o;have hi:=Zdw (by decide) (by decide) T
 have HO:=Zac ho;have ad:Hid (∀ X,Mv w (w.alloc X) v v):=fun X=>Mv.alloc w v X
 have HC:=Zac (fun n w=>ZhN n w)
 have HW:=Zac (fun p q W=>ZcJ p q W)
 have HS:=Zac (fun n l2 i a2 b2 W Q p2=>ZgG n l2 i a2 b2 W Q p2)
 have aa:Hid (∀ W,ZaB W B v l->Calls prog 175 #[v,.int .i64 a] W fun e w'=>e=.returned (.tuple #[.int .i64 ((Zcp a l).getD 0),.bool (ZdO a l)])∧Below W.heap.size W w'):=fun W h=>ZjV v l a _ _ W (h.rd hi) T (by omega)
 have af:Hid (∀ n W,ZaB W B v l->B<=W.heap.size->Calls prog 178 #[v,.int .i64 a,.int .i64 n] W fun e w'=>∃ v',e=.returned v'∧ZaB w' B v' (ZaO a n false l)∧Mv W w' v v'):=fun n W f i=>ZjW v l a n _ _ B W f i hi T (by omega)
 have ae:Hid (∀ W,ZaB W B v l->B<=W.heap.size->Calls prog 176 #[v,.int .i64 a] W fun e w'=>∃ v',e=.returned v'∧ZaB w' B v' (Zbe a l)∧Mv W w' v v'):=fun W f _=>Zzm v l a _ _ B W f hi T (by omega)
 obtain⟨ao,cap,rfl⟩:=ho.shape;have ag:Hid (∀ W,Calls prog 177 #[.slice ao l.length cap] W fun e w'=>e=.returned (.bool (decide (l.length=128)))∧w'=W):=fun W=>Zoh ao l.length cap W
 obtain⟨L',n',hE⟩:∃ L' n',Zcd ⟨4,l,Z,g⟩ ⟨c,a,b⟩=(⟨4,L',Z,g⟩,n'):=by
  unfold Zcd
  repeat' split
  all_goals exact⟨_,_,rfl⟩
 rw[hE];have E:=Zac hE;clear hE ho T hi;show Calls prog _ #[_,.agg #[.int .i64 c,.int .i64 a,.int .i64 b]] w fun e w'=>Zhd B w (.slice ao l.length cap) L' n' e w'
 by_cases Y:0<=a∧a<=255
 ·have HN:=Zac (decide_eq_true Y)
  have G:Hid (¬ (a<0∨255<a)):=by
   show ¬ (a<0∨255<a);omega
  clear Y
  cases hh:ZdO a l
  ·have ab:=Zac ((ZeC a l).2 hh)
   have N:=Zac (Zoi hh);rw[hh] at aa;clear hh;generalize (Zcp a l).getD 0=y at *
   go_enter func127,ntmps127
   go_wp2_with fail
   refine(HW.o _ _ _).mono ?_;rintro e S ⟨a1,b1,rfl,J,K,k⟩;have j:=(k.block w.heap.size (by simp)).trans (heap_alloc_new w _)
   have Q:=cell_of_row S w.heap.size 1 _ _ _ j;have I:=Zac j;have P:=Zac ((ad.o _).trans (Mv.ofBelow k _));have H:=Zac ((HO.o.alloc _).below k zL);clear k j
   go_wp2_with fail
   refine(HS.o _ _ _ _ _ _ J K).mono ?_;rintro e x ⟨rfl,rfl⟩;rw[HN.o];clear J K
   go_wp2_with fail
   refine(aa.o _ H.o).mono ?_;rintro e x ⟨rfl,F⟩;have j:=(F.block w.heap.size (Array.getElem?_eq_some_iff.1 I.o).1).trans I.o;have p0:=cell_of_row x w.heap.size 0 _ _ _ j;have q1:=cell_of_row x w.heap.size 1 _ _ _ j;have q2:=cell_of_row x w.heap.size 2 _ _ _ j;have u:=Zac (P.o.trans (Mv.ofBelow F _));have D:=Zac (H.o.below F zL);have V:B<=x.heap.size:=Nat.le_trans hB u.o.size;clear F j I P H Q;by_cases m:c=7
   ·have d:Hid (L'=l∧n'=-1):=by
     have h:=E.o;unfold Zcd at h;rw[if_neg G.o,if_neg (show ¬ (c≠7∧c≠6∧c≠5) by omega),if_neg (show ¬ c=6 by omega),if_neg (show ¬ c=5 by omega),N.o] at h
     injection h with f i
     injection f with _ h3
     exact⟨h3.symm,i.symm⟩
    have e7:(c == 7)=true:=beq_iff_eq.2 m;clear m;go_wp2;go_ret2;exact⟨_,ZbL d.o.2.symm,by rw[d.o.1];exact D.o,u.o⟩
   ·have e7:(c == 7)=false:=beq_eq_false_iff_ne.2 m
    by_cases z:c=6
    ·have d:Hid (L'=Zbe a l∧n'=-1):=by
      have h:=E.o;unfold Zcd at h;rw[if_neg G.o,if_neg (show ¬ (c≠7∧c≠6∧c≠5) by omega),if_pos (show c=6 by omega),N.o] at h
      injection h with f i
      injection f with _ h3
      exact⟨h3.symm,i.symm⟩
     have e6:(c == 6)=true:=beq_iff_eq.2 z;clear z m
     go_wp2_with fail
     refine(ae.o _ D.o V).mono ?_;rintro e U ⟨v3,rfl,C,A⟩;have O:=Zac (u.o.trans A);have M:=Zac C;clear C A;go_wp2;go_ret2;exact⟨_,ZbL d.o.2.symm,by rw[d.o.1];exact M.o,O.o⟩
    ·have e6:(c == 6)=false:=beq_eq_false_iff_ne.2 z
     by_cases t:c=5
     ·have e5:(c == 5)=true:=beq_iff_eq.2 t
      by_cases R:l.length=128
      ·have d:Hid (L'=l∧n'=-2):=by
        have h:=E.o;unfold Zcd at h;rw[if_neg G.o,if_neg (show ¬ (c≠7∧c≠6∧c≠5) by omega),if_neg (show ¬ c=6 by omega),if_pos t,if_pos ⟨ab.o,R⟩] at h
        injection h with f i
        injection f with _ h3
        exact⟨h3.symm,i.symm⟩
       have ac:=Zac (decide_eq_true R);clear t z m R
       go_wp2_with fail
       refine(ag.o _).mono ?_;rintro e U ⟨rfl,rfl⟩;rw[ac.o];go_wp2;go_ret2;exact⟨_,ZbL d.o.2.symm,by rw[d.o.1];exact D.o,u.o⟩
      ·have d:Hid (L'=ZaO a (ZeG b) false l∧n'=-1):=by
        have h:=E.o;unfold Zcd at h;rw[if_neg G.o,if_neg (show ¬ (c≠7∧c≠6∧c≠5) by omega),if_neg (show ¬ c=6 by omega),if_pos t,if_neg (fun h=>R h.2),N.o] at h
        injection h with f i
        injection f with _ h3
        exact⟨h3.symm,i.symm⟩
       have ac:=Zac (decide_eq_false R);clear R;clear t z m
       go_wp2_with fail
       refine(ag.o _).mono ?_;rintro e U ⟨rfl,rfl⟩;rw[ac.o];go_wp2
       go_region_with
        (first
         | (go_at_call 173;refine(HC.o _ _).mono ?_;rintro e w3 ⟨rfl,rfl⟩)
         | (go_at_call 178;refine(af.o _ _ D.o.drew V).mono ?_;rintro e U ⟨v3,rfl,C,A⟩;have O:=Zac (u.o.drew.trans A);have M:=Zac C;clear C A))
       all_goals
        go_wp2;go_ret2;exact⟨_,ZbL d.o.2.symm,by rw[d.o.1];exact M.o,O.o⟩
     ·have e5:(c == 5)=false:=beq_eq_false_iff_ne.2 t
      have d:Hid (L'=l∧n'=0):=by
       have h:=E.o;unfold Zcd at h;rw[if_neg G.o,if_pos (show(c≠7∧c≠6∧c≠5) by omega)] at h
       injection h with f i
       injection f with _ h3
       exact⟨h3.symm,i.symm⟩
      clear t z m;go_wp2;go_ret2;exact⟨_,ZbL d.o.2.symm,by rw[d.o.1];exact D.o,u.o⟩
  ·have ab:Hid (¬ Zdr a 0 l<0):=fun h=>by rw[(ZeC a l).1 h] at hh;cases hh
   have N:=Zac (Zxd hh);rw[hh] at aa;clear hh;generalize (Zcp a l).getD 0=y at *
   go_enter func127,ntmps127
   go_wp2_with fail
   refine(HW.o _ _ _).mono ?_;rintro e S ⟨a1,b1,rfl,J,K,k⟩;have j:=(k.block w.heap.size (by simp)).trans (heap_alloc_new w _)
   have Q:=cell_of_row S w.heap.size 1 _ _ _ j;have I:=Zac j;have P:=Zac ((ad.o _).trans (Mv.ofBelow k _));have H:=Zac ((HO.o.alloc _).below k zL);clear k j
   go_wp2_with fail
   refine(HS.o _ _ _ _ _ _ J K).mono ?_;rintro e x ⟨rfl,rfl⟩;rw[HN.o];clear J K
   go_wp2_with fail
   refine(aa.o _ H.o).mono ?_;rintro e x ⟨rfl,F⟩;have j:=(F.block w.heap.size (Array.getElem?_eq_some_iff.1 I.o).1).trans I.o;have p0:=cell_of_row x w.heap.size 0 _ _ _ j;have q1:=cell_of_row x w.heap.size 1 _ _ _ j;have q2:=cell_of_row x w.heap.size 2 _ _ _ j;have u:=Zac (P.o.trans (Mv.ofBelow F _));have D:=Zac (H.o.below F zL);have V:B<=x.heap.size:=Nat.le_trans hB u.o.size;clear F j I P H Q;by_cases m:c=7
   ·have d:Hid (L'=l∧n'=y):=by
     have h:=E.o;unfold Zcd at h;rw[if_neg G.o,if_neg (show ¬ (c≠7∧c≠6∧c≠5) by omega),if_neg (show ¬ c=6 by omega),if_neg (show ¬ c=5 by omega),N.o] at h
     injection h with f i
     injection f with _ h3
     exact⟨h3.symm,i.symm⟩
    have e7:(c == 7)=true:=beq_iff_eq.2 m;clear m;go_wp2;go_ret2;exact⟨_,ZbL d.o.2.symm,by rw[d.o.1];exact D.o,u.o⟩
   ·have e7:(c == 7)=false:=beq_eq_false_iff_ne.2 m
    by_cases z:c=6
    ·have d:Hid (L'=Zbe a l∧n'=y):=by
      have h:=E.o;unfold Zcd at h;rw[if_neg G.o,if_neg (show ¬ (c≠7∧c≠6∧c≠5) by omega),if_pos (show c=6 by omega),N.o] at h
      injection h with f i
      injection f with _ h3
      exact⟨h3.symm,i.symm⟩
     have e6:(c == 6)=true:=beq_iff_eq.2 z;clear z m
     go_wp2_with fail
     refine(ae.o _ D.o V).mono ?_;rintro e U ⟨v3,rfl,C,A⟩;have O:=Zac (u.o.trans A);have M:=Zac C;clear C A;go_wp2;go_ret2;exact⟨_,ZbL d.o.2.symm,by rw[d.o.1];exact M.o,O.o⟩
    ·have e6:(c == 6)=false:=beq_eq_false_iff_ne.2 z
     by_cases t:c=5
     ·have e5:(c == 5)=true:=beq_iff_eq.2 t
      have d:Hid (L'=ZaO a (ZeG b) false l∧n'=y):=by
       have h:=E.o;unfold Zcd at h;rw[if_neg G.o,if_neg (show ¬ (c≠7∧c≠6∧c≠5) by omega),if_neg (show ¬ c=6 by omega),if_pos t,if_neg (fun h=>absurd (show Zdr a 0 l<0 from h.1) (by have:=ab.o;omega)),N.o] at h
       injection h with f i
       injection f with _ h3
       exact⟨h3.symm,i.symm⟩
      clear t z m;go_wp2
      go_region_with
       (first
        | (go_at_call 173;refine(HC.o _ _).mono ?_;rintro e w3 ⟨rfl,rfl⟩)
        | (go_at_call 178;refine(af.o _ _ D.o.drew V).mono ?_;rintro e U ⟨v3,rfl,C,A⟩;have O:=Zac (u.o.drew.trans A);have M:=Zac C;clear C A))
      all_goals
       go_wp2;go_ret2;exact⟨_,ZbL d.o.2.symm,by rw[d.o.1];exact M.o,O.o⟩
     ·have e5:(c == 5)=false:=beq_eq_false_iff_ne.2 t
      have d:Hid (L'=l∧n'=0):=by
       have h:=E.o;unfold Zcd at h;rw[if_neg G.o,if_pos (show(c≠7∧c≠6∧c≠5) by omega)] at h
       injection h with f i
       injection f with _ h3
       exact⟨h3.symm,i.symm⟩
      clear t z m;go_wp2;go_ret2;exact⟨_,ZbL d.o.2.symm,by rw[d.o.1];exact D.o,u.o⟩
 ·have HN:=Zac (decide_eq_false Y)
  have d:Hid (L'=l∧n'=-1):=by
   have h:=E.o;unfold Zcd at h;rw[if_pos (show a<0∨255<a by omega)] at h
   injection h with f i
   injection f with _ h3
   exact⟨h3.symm,i.symm⟩
  clear Y
  go_enter func127,ntmps127
  go_wp2_with fail
  refine(HW.o _ _ _).mono ?_;rintro e S ⟨a1,b1,rfl,J,K,k⟩;have j:=(k.block w.heap.size (by simp)).trans (heap_alloc_new w _)
  have Q:=cell_of_row S w.heap.size 1 _ _ _ j;have I:=Zac j;have P:=Zac ((ad.o _).trans (Mv.ofBelow k _));have H:=Zac ((HO.o.alloc _).below k zL);clear k j
  go_wp2_with fail
  refine(HS.o _ _ _ _ _ _ J K).mono ?_;rintro e x ⟨rfl,rfl⟩;rw[HN.o];clear J K;go_wp2;go_ret2;exact⟨_,ZbL d.o.2.symm,by rw[d.o.1];exact H.o,P.o⟩
theorem ZrI (v:Value) (l:List Int) (a b:Int) (k:Bool) (g:Int) (B:Nat) (w:World) (K:ZaB w B v l) (hB:B<=w.heap.size) (A:Zat 0 (-1) l) (ag:l.length<=128):
 Calls prog 179 #[v,.int .i64 a,.int .i64 b] w fun e w'=>Zhd B w v (ZaZ ⟨5,l,k,g⟩ ⟨8,a,b⟩).1.L (ZaZ ⟨5,l,k,g⟩ ⟨8,a,b⟩).2 e w':=by
 have N:=Zdw (by decide) (by decide) A
 have V:=Zac K;have HC:=Zac (fun n w=>ZhN n w)
 have S:=Zac (fun p q W=>ZcJ p q W)
 have O:=Zac (fun n l2 f a2 b2 W p1 p2=>ZgG n l2 f a2 b2 W p1 p2)
 have ad:Hid (∀ W,ZaB W B v l->Calls prog 175 #[v,.int .i64 a] W fun e w'=>e=.returned (.tuple #[.int .i64 (Zde a l),.bool (ZdO a l)])∧Below W.heap.size W w'):=fun W h=>by
  rw[Zkk];exact ZjV v l a _ _ W (h.rd N) A (by omega)
 have aa:Hid (∀ n W,ZaB W B v l->B<=W.heap.size->Calls prog 178 #[v,.int .i64 a,.int .i64 n] W fun e w'=>∃ v',e=.returned v'∧ZaB w' B v' (ZaO a n false l)∧Mv W w' v v'):=fun n W j f=>ZjW v l a n _ _ B W j f N A (by omega)
 have af:=ZdX A a;obtain⟨ao,cap,rfl⟩:=K.shape;have ac:Hid (∀ W,Calls prog 177 #[.slice ao l.length cap] W fun e w'=>e=.returned (.bool (decide (l.length=128)))∧w'=W):=fun W=>Zoh ao l.length cap W
 obtain⟨L',n',Q⟩:∃ L' n',ZaZ ⟨5,l,k,g⟩ ⟨8,a,b⟩=(⟨5,L',k,g⟩,n'):=by
  unfold ZaZ;rw[if_neg (by simp),if_neg (by simp)]
  repeat' split
  all_goals exact⟨_,_,rfl⟩
 rw[Q];have Y:=Zac Q
 have H:Hid ((if a<0∨255<a then((⟨5,l,k,g⟩:St),(-1:Int)) else if b<0 then(⟨5,l,k,g⟩,-1) else if Zdr a 0 l<0∧l.length=128 then(⟨5,l,k,g⟩,-2) else(⟨5,ZaO a (ZeG (Zde a l+ZeG b)) false l,k,g⟩,ZeG (Zde a l+ZeG b)))=(⟨5,L',k,g⟩,n')):=by
  refine Zac ?_;have h:=Y.o;unfold ZaZ at h;rw[if_neg (by simp),if_neg (by simp)] at h
  simpa using h
 clear Q K A N Y;show Calls prog _ _ w fun e w'=>Zhd B w (.slice ao l.length cap) L' n' e w'
 have ae:=Zfj b;by_cases D:0<=a∧a<=255
 ·have F:=Zac (decide_eq_true D)
  have R:Hid (¬ (a<0∨255<a)):=by
   show ¬ (a<0∨255<a);omega
  clear D;by_cases hb:b<0
  ·have c:Hid (L'=l∧n'=-1):=by
    have h:=H.o;rw[if_neg R.o,if_pos hb] at h
    injection h with j f
    injection j with _ h3
    exact⟨h3.symm,f.symm⟩
   go_enter func179,ntmps179
   go_wp2_with fail
   refine(S.o _ _ _).mono ?_;rintro e X ⟨Z,b1,rfl,t,u,d⟩;have x:=Zac (Mv.ofBelow d (.slice ao l.length cap));have m:=Zac (V.o.below d zL);clear d
   go_wp2_with fail
   refine(O.o _ _ _ _ _ _ t u).mono ?_;rintro e G ⟨rfl,rfl⟩;rw[F.o];go_wp2;go_ret2;exact⟨_,ZbL c.o.2.symm,by rw[c.o.1];exact m.o,x.o⟩
  ·go_enter func179,ntmps179
   go_wp2_with fail
   refine(S.o _ _ _).mono ?_;rintro e X ⟨Z,b1,rfl,t,u,d⟩;have x:=Zac (Mv.ofBelow d (.slice ao l.length cap));have m:=Zac (V.o.below d zL);clear d
   go_wp2_with fail
   refine(O.o _ _ _ _ _ _ t u).mono ?_;rintro e G ⟨rfl,rfl⟩;rw[F.o];clear t u
   go_wp2_with fail
   refine(ad.o _ m.o).mono ?_;rintro e G ⟨rfl,J⟩;have E:=Zac (x.o.trans (Mv.ofBelow J _));have I:=Zac (m.o.below J zL);have ab:B<=G.heap.size:=Nat.le_trans hB E.o.size;clear J x m;by_cases i:ZdO a l=false∧l.length=128
   ·have c:Hid (L'=l∧n'=-2):=by
     have h:=H.o;rw[if_neg R.o,if_neg (show ¬ b<0 by omega),if_pos ⟨(ZeC a l).2 i.1,i.2⟩] at h
     injection h with j f
     injection j with _ h3
     exact⟨h3.symm,f.symm⟩
    have P:=Zac (decide_eq_true i.2);rw[i.1];clear i
    go_wp2_with fail
    refine(ac.o _).mono ?_;rintro e T ⟨rfl,rfl⟩;rw[P.o];go_wp2;go_ret2;exact⟨_,ZbL c.o.2.symm,by rw[c.o.1];exact I.o,E.o⟩
   ·have c:Hid (L'=ZaO a (ZeG (Zde a l+ZeG b)) false l∧n'=ZeG (Zde a l+ZeG b)):=by
     have h:=H.o;rw[if_neg R.o,if_neg (show ¬ b<0 by omega),if_neg (fun h=>i ⟨(ZeC a l).1 h.1,h.2⟩)] at h
     injection h with j f
     injection j with _ h3
     exact⟨h3.symm,f.symm⟩
    generalize Zde a l=y at *
    cases hh:ZdO a l
    ·have P:=Zac (decide_eq_false (fun h=>i ⟨hh,h⟩))
     clear i hh
     go_wp2_with fail
     refine(ac.o _).mono ?_;rintro e T ⟨rfl,rfl⟩;rw[P.o]
     go_wp2_with(first | (go_at_call 173;refine(HC.o _ _).mono ?_;rintro e w3 ⟨rfl,rfl⟩) | (go_at_call 178;refine(aa.o _ _ I.o ab).mono ?_;rintro e T ⟨v3,rfl,C,z⟩;have U:=Zac (E.o.trans z);have M:=Zac C;clear C z))
     go_ret2;exact⟨_,ZbL c.o.2.symm,by rw[c.o.1];exact M.o,U.o⟩
    ·clear i hh
     go_wp2_with(first | (go_at_call 173;refine(HC.o _ _).mono ?_;rintro e w3 ⟨rfl,rfl⟩) | (go_at_call 178;refine(aa.o _ _ I.o ab).mono ?_;rintro e T ⟨v3,rfl,C,z⟩;have U:=Zac (E.o.trans z);have M:=Zac C;clear C z))
     go_ret2;exact⟨_,ZbL c.o.2.symm,by rw[c.o.1];exact M.o,U.o⟩
 ·have F:=Zac (decide_eq_false D)
  have c:Hid (L'=l∧n'=-1):=by
   have h:=H.o;rw[if_pos (show a<0∨255<a by omega)] at h
   injection h with j f
   injection j with _ h3
   exact⟨h3.symm,f.symm⟩
  clear D
  go_enter func179,ntmps179
  go_wp2_with fail
  refine(S.o _ _ _).mono ?_;rintro e X ⟨Z,b1,rfl,t,u,d⟩;have x:=Zac (Mv.ofBelow d (.slice ao l.length cap));have m:=Zac (V.o.below d zL);clear d
  go_wp2_with fail
  refine(O.o _ _ _ _ _ _ t u).mono ?_;rintro e G ⟨rfl,rfl⟩;rw[F.o];go_wp2;go_ret2;exact⟨_,ZbL c.o.2.symm,by rw[c.o.1];exact m.o,x.o⟩
theorem Zzo (v:Value) (l:List Int) (ah a b:Int) (m:Bool) (g:Int) (B:Nat) (w:World) (ho:ZaB w B v l) (hB:B<=w.heap.size) (Y:Zat 0 (-1) l) (aK:l.length<=128):
 Calls prog 180 #[v,.int .i64 a,.int .i64 b] w fun e w'=>Zhd B w v (Zep ⟨5,l,m,g⟩ ⟨ah,a,b⟩).1.L (Zep ⟨5,l,m,g⟩ ⟨ah,a,b⟩).2 e w':=by
 have hi:=Zdw (by decide) (by decide) Y
 have HO:=Zac ho;have HW:=Zac (fun p q W=>ZcJ p q W)
 have HS:=Zac (fun n l2 d a2 b2 W p1 p2=>ZgG n l2 d a2 b2 W p1 p2)
 have ae:Hid (∀ k W,ZaB W B v l->Calls prog 175 #[v,.int .i64 k] W fun e w'=>e=.returned (.tuple #[.int .i64 (Zde k l),.bool (ZdO k l)])∧Below W.heap.size W w'):=fun k W h=>by
  rw[Zkk];exact ZjV v l k _ _ W (h.rd hi) Y (by omega)
 obtain⟨ao,cap,rfl⟩:=ho.shape;have al:Hid (∀ W,Calls prog 177 #[.slice ao l.length cap] W fun e w'=>e=.returned (.bool (decide (l.length=128)))∧w'=W):=fun W=>Zoh ao l.length cap W
 obtain⟨L',n',hE⟩:∃ L' n',Zep ⟨5,l,m,g⟩ ⟨ah,a,b⟩=(⟨5,L',m,g⟩,n'):=by
  unfold Zep
  repeat' split
  all_goals exact⟨_,_,rfl⟩
 rw[hE];have HE:=Zac hE;have Z:=Zac Y;have HI:=Zac hi;clear hE ho Y hi;show Calls prog _ _ w fun e w'=>Zhd B w (.slice ao l.length cap) L' n' e w'
 by_cases U:0<=a∧a<=65535
 ·have V:=Zac (decide_eq_true U)
  obtain⟨au,aG⟩:=U;by_cases hb:b<0
  ·have c:Hid (L'=l∧n'=0):=by
    have h:=HE.o;unfold Zep at h;rw[if_pos (.inr (.inr hb))] at h
    injection h with f d
    injection f with _ h3
    exact⟨h3.symm,d.symm⟩
   go_enter func180,ntmps180
   go_wp2_with fail
   refine(HW.o _ _ _).mono ?_;rintro e W1 ⟨a1,b1,rfl,E,I,j⟩;have J:=Zac (Mv.ofBelow j (.slice ao l.length cap));have u:=Zac (HO.o.below j zL);clear j
   go_wp2_with fail
   refine(HS.o _ _ _ _ _ _ E I).mono ?_;rintro e X ⟨rfl,rfl⟩;rw[V.o];go_wp2;go_ret2;exact⟨_,ZbL c.o.2.symm,by rw[c.o.1];exact u.o,J.o⟩
  ·have aI:0<=b:=by omega
   have t:Hid ((if Zdr (a / 256) 0 l<0∨Zde (a / 256) l<b then((⟨5,l,m,g⟩:St),(0:Int)) else if a / 256=a % 256 then(⟨5,l,m,g⟩,1) else if(Zdr (a % 256) 0 l<0∧l.length=128)∨1099511627776<Zde (a % 256) l+b then(⟨5,l,m,g⟩,0) else(⟨5,ZaO (a % 256) (Zde (a % 256) l+b) false (ZaO (a / 256) (Zde (a / 256) l-b) false l),m,g⟩,1))=(⟨5,L',m,g⟩,n')):=by
    have h:=HE.o;unfold Zep at h;rw[if_neg (by simp;omega)] at h
    exact h
   clear HE hb;have ax:Hid (a.tdiv 256=a / 256):=Int.tdiv_eq_ediv_of_nonneg au;have aq:Hid (a.tmod 256=a % 256):=Int.tmod_eq_emod_of_nonneg au;have aC:0<=a / 256:=by omega
   have an:a / 256<=255:=by omega
   have aA:0<=a % 256:=by omega
   have az:a % 256<=255:=by omega
   have aF:=ZdX Z.o (a / 256);have aD:=ZdX Z.o (a % 256);obtain⟨F,hF⟩:∃ F,F=a / 256:=⟨_,rfl⟩;obtain⟨T,hT⟩:∃ T,T=a % 256:=⟨_,rfl⟩;rw[<-hF] at ax t aC an aF;rw[<-hT] at aq t aA az aD;clear hF hT;have aH:=ax.o;have aJ:=aq.o
   go_enter func180,ntmps180
   go_wp2_with fail
   refine(HW.o _ _ _).mono ?_;rintro e W1 ⟨a1,b1,rfl,E,I,j⟩;have J:=Zac (Mv.ofBelow j (.slice ao l.length cap));have u:=Zac (HO.o.below j zL);clear j
   go_wp2_with fail
   refine(HS.o _ _ _ _ _ _ E I).mono ?_;rintro e X ⟨rfl,rfl⟩;rw[V.o];clear E I
   go_wp2_with fail
   refine(ae.o _ _ u.o).mono ?_;rintro e X ⟨rfl,aa⟩;have G:=Zac (J.o.trans (Mv.ofBelow aa _));have A:=Zac (u.o.below aa zL);have aE:B<=X.heap.size:=Nat.le_trans hB G.o.size;clear aa J u
   cases hh:ZdO F l
   ·have c:Hid (L'=l∧n'=0):=by
     have h:=t.o;rw[if_pos (.inl ((ZeC F l).2 hh))] at h
     injection h with f d
     injection f with _ h3
     exact⟨h3.symm,d.symm⟩
    clear hh;go_wp2;go_ret2;exact⟨_,ZbL c.o.2.symm,by rw[c.o.1];exact A.o,G.o⟩
   ·have D:Hid (¬ Zdr F 0 l<0):=fun h=>by rw[(ZeC F l).1 h] at hh;cases hh
    clear hh;by_cases aj:Zde F l<b
    ·have c:Hid (L'=l∧n'=0):=by
      have h:=t.o;rw[if_pos (.inr aj)] at h
      injection h with f d
      injection f with _ h3
      exact⟨h3.symm,d.symm⟩
     clear D;go_wp2;go_ret2;exact⟨_,ZbL c.o.2.symm,by rw[c.o.1];exact A.o,G.o⟩
    ·by_cases C:F=T
     ·have hq:(F == T)=true:=beq_iff_eq.2 C
      have c:Hid (L'=l∧n'=1):=by
       have h:=t.o;rw[if_neg (fun h=>h.elim D.o aj),if_pos C] at h
       injection h with f d
       injection f with _ h3
       exact⟨h3.symm,d.symm⟩
      clear D C;go_wp2;go_ret2;exact⟨_,ZbL c.o.2.symm,by rw[c.o.1];exact A.o,G.o⟩
     ·have hq:(F == T)=false:=beq_eq_false_iff_ne.2 C
      have ak:=Zac C;have ab:=Zac aj;clear C
      go_wp2_with fail
      refine(ae.o _ _ A.o).mono ?_;rintro e W3 ⟨rfl,af⟩;have H:=Zac (G.o.trans (Mv.ofBelow af _));have N:=Zac (A.o.below af zL);have aw:B<=W3.heap.size:=Nat.le_trans hB H.o.size;clear af G A aE;by_cases i:ZdO T l=false∧l.length=128
      ·have O:=Zac (decide_eq_true i.2)
       have c:Hid (L'=l∧n'=0):=by
        have h:=t.o;rw[if_neg (fun h=>by have:=D.o;have:=ab.o;omega),if_neg ak.o,if_pos (.inl ⟨(ZeC T l).2 i.1,i.2⟩)] at h
        injection h with f d
        injection f with _ h3
        exact⟨h3.symm,d.symm⟩
       rw[i.1];clear i
       go_wp2_with fail
       refine(al.o _).mono ?_;rintro e W4 ⟨rfl,rfl⟩;rw[O.o];go_wp2;go_ret2;exact⟨_,ZbL c.o.2.symm,by rw[c.o.1];exact N.o,H.o⟩
      ·by_cases av:1099511627776<Zde T l+b
       ·have c:Hid (L'=l∧n'=0):=by
         have h:=t.o;rw[if_neg (fun h=>by have:=D.o;have:=ab.o;omega),if_neg ak.o,if_pos (.inr av)] at h
         injection h with f d
         injection f with _ h3
         exact⟨h3.symm,d.symm⟩
        cases hh:ZdO T l
        ·have O:=Zac (decide_eq_false (fun h=>i ⟨hh,h⟩))
         clear i hh
         go_wp2_with fail
         refine(al.o _).mono ?_;rintro e W4 ⟨rfl,rfl⟩;rw[O.o];go_wp2;go_ret2;exact⟨_,ZbL c.o.2.symm,by rw[c.o.1];exact N.o,H.o⟩
        ·clear i hh
         go_wp2;go_ret2;exact⟨_,ZbL c.o.2.symm,by rw[c.o.1];exact N.o,H.o⟩
       ·have aB:=Zac av
        have c:Hid (L'=ZaO T (Zde T l+b) false (ZaO F (Zde F l-b) false l)∧n'=1):=by
         have h:=t.o;rw[if_neg (fun h=>by have:=D.o;have:=ab.o;omega),if_neg ak.o,if_neg (fun h=>h.elim (fun x=>i ⟨(ZeC T l).1 x.1,x.2⟩) (fun x=>by have:=aB.o;omega))] at h
         injection h with f d
         injection f with _ h3
         exact⟨h3.symm,d.symm⟩
        have ac:Hid (Zat 0 (-1) (ZaO F (Zde F l-b) false l)):=Zeb F _ 0 (by omega) (by omega) an l (-1) Z.o (by omega)
        have ar:Hid ((ZaO F (Zde F l-b) false l).length<=1000000):=by
         have:=Zjc F (Zde F l-b) l false;show(ZaO F (Zde F l-b) false l).length<=1000000;omega
        have ap:Hid (∀ W,ZaB W B (.slice ao l.length cap) l->B<=W.heap.size->Calls prog 178 #[.slice ao l.length cap,.int .i64 F,.int .i64 (Zde F l-b)] W fun e w'=>∃ v',e=.returned v'∧ZaB w' B v' (ZaO F (Zde F l-b) false l)∧Mv W w' (.slice ao l.length cap) v'):=fun W f d=>ZjW _ l F _ _ _ B W f d HI.o Z.o (by omega)
        have ay:Hid (∀ K W,ZaB W B K (ZaO F (Zde F l-b) false l)->B<=W.heap.size->Calls prog 178 #[K,.int .i64 T,.int .i64 (Zde T l+b)] W fun e w'=>∃ v',e=.returned v'∧ZaB w' B v' (ZaO T (Zde T l+b) false (ZaO F (Zde F l-b) false l))∧Mv W w' K v'):=fun K W f d=>ZjW K _ T _ _ _ B W f d (Zdw (by decide) (by decide) ac.o) ac.o ar.o
        generalize ZaO T (Zde T l+b) false (ZaO F (Zde F l-b) false l)=L2 at *;generalize ZaO F (Zde F l-b) false l=L1 at *;generalize Zde F l=y at *;generalize Zde T l=z at *;clear ac ar t ae
        cases hh:ZdO T l
        ·have O:=Zac (decide_eq_false (fun h=>i ⟨hh,h⟩))
         clear i hh
         go_wp2_with fail
         refine(al.o _).mono ?_;rintro e W4 ⟨rfl,rfl⟩;rw[O.o]
         go_wp2_with fail
         refine(ap.o _ N.o aw).mono ?_;rintro e W5 ⟨v5,rfl,M,P⟩;have R:=Zac (H.o.trans P);have ag:=Zac M;have ai:B<=W5.heap.size:=Nat.le_trans hB R.o.size;clear M P
         go_wp2_with fail
         refine(ay.o _ _ ag.o ai).mono ?_;rintro e W6 ⟨v6,rfl,Q,S⟩;have am:=Zac (R.o.trans S);have ad:=Zac Q;clear Q S;go_wp2;go_ret2;exact⟨_,ZbL c.o.2.symm,by rw[c.o.1];exact ad.o,am.o⟩
        ·clear i hh
         go_wp2_with fail
         refine(ap.o _ N.o aw).mono ?_;rintro e W5 ⟨v5,rfl,M,P⟩;have R:=Zac (H.o.trans P);have ag:=Zac M;have ai:B<=W5.heap.size:=Nat.le_trans hB R.o.size;clear M P
         go_wp2_with fail
         refine(ay.o _ _ ag.o ai).mono ?_;rintro e W6 ⟨v6,rfl,Q,S⟩;have am:=Zac (R.o.trans S);have ad:=Zac Q;clear Q S;go_wp2;go_ret2;exact⟨_,ZbL c.o.2.symm,by rw[c.o.1];exact ad.o,am.o⟩
 ·have V:=Zac (decide_eq_false U)
  have c:Hid (L'=l∧n'=0):=by
   have h:=HE.o;unfold Zep at h;rw[if_pos (show a<0∨65535<a∨b<0 by omega)] at h
   injection h with f d
   injection f with _ h3
   exact⟨h3.symm,d.symm⟩
  clear U
  go_enter func180,ntmps180
  go_wp2_with fail
  refine(HW.o _ _ _).mono ?_;rintro e W1 ⟨a1,b1,rfl,E,I,j⟩;have J:=Zac (Mv.ofBelow j (.slice ao l.length cap));have u:=Zac (HO.o.below j zL);clear j
  go_wp2_with fail
  refine(HS.o _ _ _ _ _ _ E I).mono ?_;rintro e X ⟨rfl,rfl⟩;rw[V.o];go_wp2;go_ret2;exact⟨_,ZbL c.o.2.symm,by rw[c.o.1];exact u.o,J.o⟩
theorem Zxe {least key:Int} {l:List Int} (a:Zat least (-1) l) (h:ZdO key l=true):0<=key∧key<=255:=by
 unfold ZdO at h
 cases hg:Zcp key l with
 | none=>rw[hg] at h;simp at h
 | some x=>
  have:=ZnL a hg;omega
theorem ZrJ (v:Value) (l:List Int) (o:Opn) (c:Bool) (g:Int) (B:Nat) (w:World) (x:ZaB w B v l) (O:B<=w.heap.size) (i:Zat 0 (-1) l) (J:l.length<=128):
 Calls prog 128 #[v,opV o] w fun e w'=>Zhd B w v (ZaZ ⟨5,l,c,g⟩ o).1.L (ZaZ ⟨5,l,c,g⟩ o).2 e w':=by
 obtain⟨d,a,b⟩:=o;have D:=Zdw (by decide) (by decide) i
 have p:=Zac x;have z:Hid (∀ X,Mv w (w.alloc X) v v):=fun X=>Mv.alloc w v X
 show Calls prog _ #[_,.agg #[.int .i64 d,.int .i64 a,.int .i64 b]] w _;by_cases u:d=7
 ·subst u
  have F:Hid (∀ W,ZaB W B v l->Calls prog 175 #[v,.int .i64 a] W fun e w'=>e=.returned (.tuple #[.int .i64 ((Zcp a l).getD 0),.bool (ZdO a l)])∧Below W.heap.size W w'):=fun W h=>ZjV v l a _ _ W (h.rd D) i (by omega)
  have k:Hid (ZaZ ⟨5,l,c,g⟩ ⟨7,a,b⟩=(⟨5,l,c,g⟩,ZtS a l)):=by
   refine Zac ?_;unfold ZaZ;rw[if_neg (by simp),if_neg (by simp)]
   by_cases I:a<0∨255<a
   ·rw[if_pos I]
    have j:ZdO a l=false:=by
     cases h:ZdO a l
     ·rfl
     ·have:=Zxe i h
      omega
    rw[Zoi j]
   ·rw[if_neg I,if_pos rfl]
  rw[k.o];clear k x i D
  cases j:ZdO a l
  ·have A:=Zac (Zoi j)
   rw[A.o];rw[j] at F;clear A j;generalize (Zcp a l).getD 0=y at *
   go_enter func128,ntmps128
   go_wp2_with fail
   refine(F.o _ (p.o.alloc _)).mono ?_;rintro e H ⟨rfl,f⟩;have m:=Zac ((z.o _).trans (Mv.ofBelow f _));have q:=Zac ((p.o.alloc _).below f zL);clear f;go_wp2;go_ret2;exact⟨_,rfl,q.o,m.o⟩
  ·have A:=Zac (Zxd j)
   rw[A.o];rw[j] at F;clear A j;generalize (Zcp a l).getD 0=y at *
   go_enter func128,ntmps128
   go_wp2_with fail
   refine(F.o _ (p.o.alloc _)).mono ?_;rintro e H ⟨rfl,f⟩;have m:=Zac ((z.o _).trans (Mv.ofBelow f _));have q:=Zac ((p.o.alloc _).below f zL);clear f;go_wp2;go_ret2;exact⟨_,rfl,q.o,m.o⟩
 ·have K:(d == 7)=false:=beq_eq_false_iff_ne.2 u
  by_cases E:d=8
  ·subst E
   have G:Hid (∀ X,Calls prog 179 #[v,.int .i64 a,.int .i64 b] (w.alloc X) fun e w'=>Zhd B (w.alloc X) v (ZaZ ⟨5,l,c,g⟩ ⟨8,a,b⟩).1.L (ZaZ ⟨5,l,c,g⟩ ⟨8,a,b⟩).2 e w'):=fun X=>ZrI v l a b c g B (w.alloc X) (p.o.alloc X) (by simp;omega) i J
   generalize (ZaZ ⟨5,l,c,g⟩ ⟨8,a,b⟩).1.L=L' at *;generalize (ZaZ ⟨5,l,c,g⟩ ⟨8,a,b⟩).2=n at *;clear x D i u K
   go_enter func128,ntmps128
   go_wp2_with fail
   refine(G.o _).mono ?_;rintro e H ⟨M,rfl,C,f⟩;have q:=Zac C;have m:=Zac ((z.o _).trans f);clear C f;go_wp2;go_ret2;exact⟨_,rfl,q.o,m.o⟩
  ·have P:(d == 8)=false:=beq_eq_false_iff_ne.2 E
   by_cases t:d=9
   ·have k:Hid (ZaZ ⟨5,l,c,g⟩ ⟨d,a,b⟩=Zep ⟨5,l,c,g⟩ ⟨d,a,b⟩):=if_pos t
    rw[k.o];have N:(d == 9)=true:=beq_iff_eq.2 t;have G:Hid (∀ X,Calls prog 180 #[v,.int .i64 a,.int .i64 b] (w.alloc X) fun e w'=>Zhd B (w.alloc X) v (Zep ⟨5,l,c,g⟩ ⟨d,a,b⟩).1.L (Zep ⟨5,l,c,g⟩ ⟨d,a,b⟩).2 e w'):=fun X=>Zzo v l d a b c g B (w.alloc X) (p.o.alloc X) (by simp;omega) i J
    generalize (Zep ⟨5,l,c,g⟩ ⟨d,a,b⟩).1.L=L' at *;generalize (Zep ⟨5,l,c,g⟩ ⟨d,a,b⟩).2=n at *;clear x D i u E t k
    go_enter func128,ntmps128
    go_wp2_with fail
    refine(G.o _).mono ?_;rintro e H ⟨M,rfl,C,f⟩;have q:=Zac C;have m:=Zac ((z.o _).trans f);clear C f;go_wp2;go_ret2;exact⟨_,rfl,q.o,m.o⟩
   ·have N:(d == 9)=false:=beq_eq_false_iff_ne.2 t
    have k:Hid (ZaZ ⟨5,l,c,g⟩ ⟨d,a,b⟩=(⟨5,l,c,g⟩,0)):=by
     refine Zac ?_;unfold ZaZ;rw[if_neg t,if_pos ⟨u,E⟩]
    rw[k.o];clear x D i u E t k
    go_enter func128,ntmps128
    go_wp2;go_ret2;exact⟨_,rfl,p.o.alloc _,z.o _⟩
theorem Zzp (kind:Int) (ao:Option Addr) (n cap:Nat) (K:Bool) (g a:Int) (w:World):
 Calls prog 123 #[.agg #[.int .i64 kind,.slice ao n cap,.bool K,.int .i64 g],.int .i64 a] w fun e w'=>e=.returned (.agg #[.int .i64 kind,.slice ao n cap,.bool true,.int .i64 (if 0<=a∧a<=2 then a else g)])∧Below w.heap.size w w':=by
 have E:=Zac (fun p q W=>ZcJ p q W)
 have F:=Zac (fun n V U G S W L N=>ZgG n V U G S W L N)
 have j:Hid (∀ x y,Below w.heap.size w ((w.alloc x).alloc y)):=fun x y=>((Below.refl _ _).alloc zL x).alloc (by simp) y
 by_cases f:0<=a∧a<=2
 ·rw[if_pos f]
  have k:=Zac (decide_eq_true f);clear f
  go_enter func123,ntmps123
  go_wp2_with fail
  refine(E.o _ _ _).mono ?_;rintro e d ⟨t,D,rfl,h,i,c⟩;have b:Zrc d w.heap.size _ _:=(Zrc.made w _ _).below c (by simp)
  have H:=(b.s 0).1;have X:=(b.s 1).1;have Q:=(b.s 2).1;have T:=(b.s 3).1;have R:=(b.s 2).2;have O:=(b.s 3).2;have u:=(b.r 0).1;have l:=(b.r 1).1;have C:=(b.r 2).1;have z:=(b.r 3).1;have M:=(b.r 0).2;have P:=(b.r 1).2;have Y:=(b.r 2).2;have I:=(b.r 3).2;have A:=Zac ((j.o _ _).trans (c.mono (j.o _ _).size));have m:Hid (∀ x,(d.setCell ⟨w.heap.size,2,none⟩ x).cell? ⟨t,0,none⟩=some (.int .i64 0)):=fun x=>(World.cell?_setCell_other _ _ _ _ (by simp)).trans h
  have B:Hid (∀ x,(d.setCell ⟨w.heap.size,2,none⟩ x).cell? ⟨D,0,none⟩=some (.int .i64 2)):=fun x=>(World.cell?_setCell_other _ _ _ _ (by simp)).trans i
  clear c b h i
  go_wp2_with fail
  refine(F.o _ _ _ _ _ _ (m.o _) (B.o _)).mono ?_;rintro e J ⟨rfl,rfl⟩;rw[k.o];go_wp2;refine bodyPost_ret (v:=.agg #[.int .i64 kind,.slice ao n cap,.bool true,.int .i64 a]) (by simp[results,Tryz.results123,go_sem,u,l,C,z]) rfl ?_
  exact⟨rfl,((((((A.o.setCell zL _).setCell zL _).setCell (Nat.le_succ _) _).setCell (Nat.le_succ _) _).setCell (Nat.le_succ _) _).setCell (Nat.le_succ _) _)⟩
 ·rw[if_neg f]
  have k:=Zac (decide_eq_false f);clear f
  go_enter func123,ntmps123
  go_wp2_with fail
  refine(E.o _ _ _).mono ?_;rintro e d ⟨t,D,rfl,h,i,c⟩;have b:Zrc d w.heap.size _ _:=(Zrc.made w _ _).below c (by simp)
  have H:=(b.s 0).1;have X:=(b.s 1).1;have Q:=(b.s 2).1;have T:=(b.s 3).1;have R:=(b.s 2).2;have O:=(b.s 3).2;have u:=(b.r 0).1;have l:=(b.r 1).1;have C:=(b.r 2).1;have z:=(b.r 3).1;have M:=(b.r 0).2;have P:=(b.r 1).2;have Y:=(b.r 2).2;have I:=(b.r 3).2;have A:=Zac ((j.o _ _).trans (c.mono (j.o _ _).size));have m:Hid (∀ x,(d.setCell ⟨w.heap.size,2,none⟩ x).cell? ⟨t,0,none⟩=some (.int .i64 0)):=fun x=>(World.cell?_setCell_other _ _ _ _ (by simp)).trans h
  have B:Hid (∀ x,(d.setCell ⟨w.heap.size,2,none⟩ x).cell? ⟨D,0,none⟩=some (.int .i64 2)):=fun x=>(World.cell?_setCell_other _ _ _ _ (by simp)).trans i
  clear c b h i
  go_wp2_with fail
  refine(F.o _ _ _ _ _ _ (m.o _) (B.o _)).mono ?_;rintro e J ⟨rfl,rfl⟩;rw[k.o];go_wp2;refine bodyPost_ret (v:=.agg #[.int .i64 kind,.slice ao n cap,.bool true,.int .i64 g]) (by simp[results,Tryz.results123,go_sem,u,l,C,z]) rfl ?_
  exact⟨rfl,(((((A.o.setCell zL _).setCell (Nat.le_succ _) _).setCell (Nat.le_succ _) _).setCell (Nat.le_succ _) _).setCell (Nat.le_succ _) _)⟩
theorem Zec.mv {W a:World} {N:Nat} {s o r:Array Value} {v v':Value} (h:Zec W N s o r) (f:∀ b,v.ownBlock=some b->b<N) (i:Mv W a v v'):Zec a N s o r:=by
 obtain⟨d,j,g⟩:=h
 have lt:∀ k x,W.heap[k]?=some x->N<=k->a.heap[k]?=some x:=fun k x c l=>by
  rw[i.grown.block k (Array.getElem?_eq_some_iff.1 c).1 (fun e=>by have:=f k e.symm;omega)]
  exact c
 exact⟨lt _ _ d (by omega),lt _ _ j (by omega),lt _ _ g (by omega)⟩
theorem Zoj {w f e F:World} {B:Nat} {v v':Value} {l L':List Int} (j:ZaB w B v l) (d:Below w.heap.size w f) (q:f.heap.size=w.heap.size+3) (a:Mv f e v v') (i:ZaB e B v' L') (c:But w.heap.size (w.heap.size+1+1) e F):ZaB F B v' L'∧Mv w F v v':=by
 have m:∀ b,v.ownBlock=some b->b<w.heap.size:=fun b h=>(World.ownsRow.lt j b h).2
 have g:∀ b,v'.ownBlock=some b->v.ownBlock=some b∨w.heap.size+3<=b:=fun b h=>by
  rcases a.lies b h with h' | h'
  ·exact .inl h'
  ·exact .inr (by omega)
 have t:=a.size;refine⟨i.but c (fun b h=>?_),⟨⟨c.os.trans (a.grown.os.trans d.os),c.tape.trans (a.grown.tape.trans d.tape),c.output.trans (a.grown.output.trans d.output),by have:=c.size;omega,fun k p n=>?_⟩,fun b h=>?_⟩⟩
 ·rcases g b h with h' | h'
  ·have:=m b h'
   omega
  ·omega
 ·rw[c.block k (by omega) (by omega) (by omega),a.grown.block k (by omega) n]
  exact d.block k p
 ·rcases g b h with h' | h'
  ·exact .inl h'
  ·exact .inr (by omega)
theorem ZbA (w:World) (x y z:Obj):Below w.heap.size w (((w.alloc x).alloc y).alloc z)∧(((w.alloc x).alloc y).alloc z).heap.size=w.heap.size+3:=
 ⟨(((Below.refl _ _).alloc zL x).alloc (by simp) y).alloc (by simp;omega) z,by simp⟩
theorem ZaB.alloc3 {w:World} {B:Nat} {v:Value} {l:List Int} (h:ZaB w B v l) (x y z:Obj):ZaB (((w.alloc x).alloc y).alloc z) B v l:=((h.alloc x).alloc y).alloc z
def Did (B:Nat) (w:World) (v:Value) (r:St × Int) (e:Ending) (w':World):Prop:=
 ∃ v',e=.returned (.tuple #[.agg #[.int .i64 r.1.kind,v',.bool r.1.shut,.int .i64 r.1.eng],.int .i64 r.2])∧ZaB w' B v' r.1.L∧Mv w w' v v'
theorem ZrK (kind g:Int) (l:List Int) (v:Value) (o:Opn) (B:Nat) (w:World) (c:ZaB w B v l):
 Calls prog 83 #[.agg #[.int .i64 kind,v,.bool true,.int .i64 g],opV o] w fun e w'=>Did B w v (⟨kind,l,true,g⟩,-1125899906842624) e w':=by
 obtain⟨f,a,b⟩:=o;have h:=Zac c;obtain⟨ao,cap,rfl⟩:=c.shape;have d:Hid (∀ x y z,Mv w (((w.alloc x).alloc y).alloc z) (.slice ao l.length cap) (.slice ao l.length cap)):=fun x y z=>Mv.ofBelow (ZbA w x y z).1 _
 clear c;show Calls prog _ #[_,.agg #[.int .i64 f,.int .i64 a,.int .i64 b]] w _
 go_enter func83,ntmps83
 go_wp2;refine bodyPost_ret (v:=.tuple #[.agg #[.int .i64 kind,.slice ao l.length cap,.bool true,.int .i64 g],.int .i64 (-1125899906842624)]) (by simp[results,Tryz.results83,go_sem]) rfl ?_
 exact⟨_,rfl,h.o.alloc3 _ _ _,d.o _ _ _⟩
theorem ZrL (kind g a b:Int) (l:List Int) (v:Value) (B:Nat) (w:World) (f:ZaB w B v l):
 Calls prog 83 #[.agg #[.int .i64 kind,v,.bool false,.int .i64 g],.agg #[.int .i64 10,.int .i64 a,.int .i64 b]] w fun e w'=>Did B w v (⟨kind,l,true,if 0<=a∧a<=2 then a else g⟩,0) e w':=by
 have h:=Zac f;obtain⟨ao,cap,rfl⟩:=f.shape;have p:=Zac (fun W=>Zzp kind ao l.length cap false g a W)
 generalize (if 0<=a∧a<=2 then a else g)=t at *
 clear f
 go_enter func83,ntmps83
 go_wp2_with fail
 refine(p.o _).mono ?_;rintro e u ⟨rfl,d⟩;have c:=(Zec.made w _ _ _).below d (by simp)
 obtain⟨k,y⟩:=c.r 0;obtain⟨i,z⟩:=c.r 1;obtain⟨q,A⟩:=c.r 2;obtain⟨m,x⟩:=c.r 3;have j:=Zac (fun F n=>Zoj (F:=F) h.o (ZbA w _ _ _).1 (ZbA w _ _ _).2 (Mv.ofBelow d _) ((h.o.alloc3 _ _ _).below d zL) n)
 clear d c;go_wp2;refine bodyPost_ret (v:=.tuple #[.agg #[.int .i64 kind,.slice ao l.length cap,.bool true,.int .i64 t],.int .i64 0]) (by simp[results,Tryz.results83,go_sem,k,i,q,m]) rfl ?_
 exact⟨_,rfl,j.o _ ((But.refl _ _ _).four _ (.inr rfl) _ _ _ _)⟩
theorem ZuK (kind g:Int) (N:kind=0∨kind=1) (l:List Int) (v:Value) (o:Opn) (K:o.code≠10) (B:Nat) (w:World) (i:ZaB w B v l) (z:l.length=1) (H:-1099511627776<=l.getD 0 0) (D:l.getD 0 0<=1099511627776):
 Calls prog 83 #[.agg #[.int .i64 kind,v,.bool false,.int .i64 g],opV o] w fun e w'=>Did B w v (Zhn ⟨kind,l,false,g⟩ o) e w':=by
 have k:=Zac i;have J:=ZnM ⟨kind,l,false,g⟩ o
 obtain⟨L',n',m⟩:∃ L' n',Zhn ⟨kind,l,false,g⟩ o=(⟨kind,L',false,g⟩,n'):=by
  obtain⟨n,A,t⟩:=J;refine⟨(Zhn ⟨kind,l,false,g⟩ o).1.L,(Zhn ⟨kind,l,false,g⟩ o).2,?_⟩;rcases hr:Zhn ⟨kind,l,false,g⟩ o with ⟨⟨Z,Y,I,g1⟩,X⟩
  rw[hr] at n A t;simp only at n A t;rw[n,A,t]
 have j:Hid (∀ W,ZaB W B v l->Calls prog (if kind=0 then 124 else 125) #[v,opV o] W fun e w'=>e=.returned (.int .i64 n')∧ZaB w' B v L'∧Mv W w' v v):=fun W h=>by
  rcases N with rfl | rfl
  ·have:=ZrH v l o false g B W h z H D
   rw[m] at this;exact this
  ·have:=ZpP v l o false g B W h z
   rw[m] at this;exact this
 rw[m];obtain⟨M,a,b⟩:=o;have aa:(M == 10)=false:=beq_eq_false_iff_ne.2 K;obtain⟨ao,cap,rfl⟩:=i.shape;have G:∀ b,(Value.slice ao l.length cap).ownBlock=some b->b<w.heap.size:=fun b h=>(World.ownsRow.lt i b h).2
 have E:=Zac G;clear i m J K z H D G;show Calls prog _ #[_,.agg #[.int .i64 M,.int .i64 a,.int .i64 b]] w _;rcases N with rfl | rfl
 ·rw[if_pos rfl] at j
  go_enter func83,ntmps83
  go_wp2_with fail
  refine(j.o _ (k.o.alloc3 _ _ _)).mono ?_;rintro e P ⟨rfl,f,d⟩;have c:=(Zec.made w _ _ _).mv E.o d;obtain⟨O,-⟩:=c.s 0;obtain⟨U,-⟩:=c.s 1;obtain⟨S,-⟩:=c.s 2;obtain⟨T,-⟩:=c.s 3;obtain⟨u,R⟩:=c.r 0;obtain⟨p,I⟩:=c.r 1;obtain⟨C,V⟩:=c.r 2;obtain⟨x,Q⟩:=c.r 3;have q:=Zac (fun F y=>Zoj (F:=F) k.o (ZbA w _ _ _).1 (ZbA w _ _ _).2 d f y)
  clear c f d;go_wp2;refine bodyPost_ret (v:=.tuple #[.agg #[.int .i64 0,.slice ao l.length cap,.bool false,.int .i64 g],.int .i64 n']) (by simp[results,Tryz.results83,go_sem,u,p,C,x]) rfl ?_
  exact⟨_,rfl,q.o _ ((But.refl _ _ _).four _ (.inr rfl) _ _ _ _)⟩
 ·rw[if_neg (by decide)] at j
  go_enter func83,ntmps83
  go_wp2_with fail
  refine(j.o _ (k.o.alloc3 _ _ _)).mono ?_;rintro e P ⟨rfl,f,d⟩;have c:=(Zec.made w _ _ _).mv E.o d;obtain⟨O,-⟩:=c.s 0;obtain⟨U,-⟩:=c.s 1;obtain⟨S,-⟩:=c.s 2;obtain⟨T,-⟩:=c.s 3;obtain⟨u,R⟩:=c.r 0;obtain⟨p,I⟩:=c.r 1;obtain⟨C,V⟩:=c.r 2;obtain⟨x,Q⟩:=c.r 3;have q:=Zac (fun F y=>Zoj (F:=F) k.o (ZbA w _ _ _).1 (ZbA w _ _ _).2 d f y)
  clear c f d;go_wp2;refine bodyPost_ret (v:=.tuple #[.agg #[.int .i64 1,.slice ao l.length cap,.bool false,.int .i64 g],.int .i64 n']) (by simp[results,Tryz.results83,go_sem,u,p,C,x]) rfl ?_
  exact⟨_,rfl,q.o _ ((But.refl _ _ _).four _ (.inr rfl) _ _ _ _)⟩
theorem Zts {w c:World} {B:Nat} {kind g:Int} {l L':List Int} {ao b:Option Addr} {cap a:Nat} {xs h e:Array Value} (d:ZaB w B (.slice ao l.length cap) l) (f:ZaB c B (.slice b L'.length a) L') (i:Mv (((w.alloc (.cells xs 38)).alloc (.cells h 52)).alloc (.cells e 38)) c (.slice ao l.length cap) (.slice b L'.length a)):
 ZaB (ZsY c w.heap.size (w.heap.size+1+1) (.slice b L'.length a) (.int .i64 kind) (.slice b L'.length a) (.bool false) (.int .i64 g)) B (.slice b L'.length a) L'∧Mv w (ZsY c w.heap.size (w.heap.size+1+1) (.slice b L'.length a) (.int .i64 kind) (.slice b L'.length a) (.bool false) (.int .i64 g)) (.slice ao l.length cap) (.slice b L'.length a):=
 Zoj d (ZbA w _ _ _).1 (ZbA w _ _ _).2 i f (((But.refl _ _ _).set _ _ (.inl rfl) _).four _ (.inr rfl) _ _ _ _)
theorem ZrM (kind g:Int) (O:kind=2∨kind=3) (l L':List Int) (n':Int) (v:Value) (j a b:Int) (C:j≠10) (B:Nat) (w:World) (i:ZaB w B v l)
 (A:Hid (∀ W,ZaB W B v l->B<=W.heap.size->Calls prog 126 #[.int .i64 kind,v,.agg #[.int .i64 j,.int .i64 a,.int .i64 b]] W fun e w'=>Zhd B W v L' n' e w')) (Q:B<=w.heap.size):
 Calls prog 83 #[.agg #[.int .i64 kind,v,.bool false,.int .i64 g],.agg #[.int .i64 j,.int .i64 a,.int .i64 b]] w fun e w'=>Did B w v (⟨kind,L',false,g⟩,n') e w':=by
 have k:=Zac i;have P:(j == 10)=false:=beq_eq_false_iff_ne.2 C;obtain⟨ao,cap,rfl⟩:=i.shape;have z:∀ b,(Value.slice ao l.length cap).ownBlock=some b->b<w.heap.size:=fun b h=>(World.ownsRow.lt i b h).2
 have y:=Zac z;clear i C z;rcases O with rfl | rfl
 ·go_enter func83,ntmps83
  go_wp2_with fail
  refine(A.o _ (k.o.alloc3 _ _ _) (by simp;omega)).mono ?_
  rintro e F ⟨I,rfl,d,f⟩;obtain⟨m,x,rfl⟩:=d.shape;have c:=(Zec.made w _ _ _).mv y.o f;obtain⟨E,-⟩:=c.s 0;obtain⟨M,D⟩:=c.s 1;obtain⟨K,-⟩:=c.s 2;obtain⟨L,-⟩:=c.s 3;obtain⟨q,H⟩:=c.r 0;obtain⟨n,J⟩:=c.r 1;obtain⟨u,N⟩:=c.r 2;obtain⟨t,G⟩:=c.r 3;have p:=Zac (fun kind=>Zts (kind:=kind) (g:=g) k.o d f)
  clear c d f;go_wp2;refine bodyPost_ret (v:=.tuple #[.agg #[.int .i64 2,.slice m L'.length x,.bool false,.int .i64 g],.int .i64 n']) (by simp[results,Tryz.results83,go_sem,q,n,u,t]) rfl ?_
  exact⟨_,rfl,p.o _⟩
 ·go_enter func83,ntmps83
  go_wp2_with fail
  refine(A.o _ (k.o.alloc3 _ _ _) (by simp;omega)).mono ?_
  rintro e F ⟨I,rfl,d,f⟩;obtain⟨m,x,rfl⟩:=d.shape;have c:=(Zec.made w _ _ _).mv y.o f;obtain⟨E,-⟩:=c.s 0;obtain⟨M,D⟩:=c.s 1;obtain⟨K,-⟩:=c.s 2;obtain⟨L,-⟩:=c.s 3;obtain⟨q,H⟩:=c.r 0;obtain⟨n,J⟩:=c.r 1;obtain⟨u,N⟩:=c.r 2;obtain⟨t,G⟩:=c.r 3;have p:=Zac (fun kind=>Zts (kind:=kind) (g:=g) k.o d f)
  clear c d f;go_wp2;refine bodyPost_ret (v:=.tuple #[.agg #[.int .i64 3,.slice m L'.length x,.bool false,.int .i64 g],.int .i64 n']) (by simp[results,Tryz.results83,go_sem,q,n,u,t]) rfl ?_
  exact⟨_,rfl,p.o _⟩
theorem ZpQ (kind g:Int) (D:kind=4) (l L':List Int) (n':Int) (v:Value) (f a b:Int) (m:f≠10) (B:Nat) (w:World) (d:ZaB w B v l)
 (z:Hid (∀ W,ZaB W B v l->B<=W.heap.size->Calls prog 127 #[v,.agg #[.int .i64 f,.int .i64 a,.int .i64 b]] W fun e w'=>Zhd B W v L' n' e w')) (O:B<=w.heap.size):
 Calls prog 83 #[.agg #[.int .i64 kind,v,.bool false,.int .i64 g],.agg #[.int .i64 f,.int .i64 a,.int .i64 b]] w fun e w'=>Did B w v (⟨kind,L',false,g⟩,n') e w':=by
 have n:=Zac d;have I:(f == 10)=false:=beq_eq_false_iff_ne.2 m;obtain⟨ao,cap,rfl⟩:=d.shape;have k:∀ b,(Value.slice ao l.length cap).ownBlock=some b->b<w.heap.size:=fun b h=>(World.ownsRow.lt d b h).2
 have u:=Zac k;clear d m k;subst D
 all_goals
  go_enter func83,ntmps83
  go_wp2_with fail
  refine(z.o _ (n.o.alloc3 _ _ _) (by simp;omega)).mono ?_
  rintro e G ⟨K,rfl,i,j⟩;obtain⟨p,C,rfl⟩:=i.shape;have c:=(Zec.made w _ _ _).mv u.o j;obtain⟨F,-⟩:=c.s 0;obtain⟨P,E⟩:=c.s 1;obtain⟨M,-⟩:=c.s 2;obtain⟨N,-⟩:=c.s 3;obtain⟨x,J⟩:=c.r 0;obtain⟨q,L⟩:=c.r 1;obtain⟨A,Q⟩:=c.r 2;obtain⟨y,H⟩:=c.r 3;have t:=Zac (fun kind=>Zts (kind:=kind) (g:=g) n.o i j)
  clear c i j;go_wp2;refine bodyPost_ret (v:=.tuple #[.agg #[.int .i64 4,.slice p L'.length C,.bool false,.int .i64 g],.int .i64 n']) (by simp[results,Tryz.results83,go_sem,x,q,A,y]) rfl ?_
  exact⟨_,rfl,t.o _⟩
theorem Zok (kind g:Int) (D:kind=5) (l L':List Int) (n':Int) (v:Value) (f a b:Int) (m:f≠10) (B:Nat) (w:World) (d:ZaB w B v l)
 (z:Hid (∀ W,ZaB W B v l->B<=W.heap.size->Calls prog 128 #[v,.agg #[.int .i64 f,.int .i64 a,.int .i64 b]] W fun e w'=>Zhd B W v L' n' e w')) (O:B<=w.heap.size):
 Calls prog 83 #[.agg #[.int .i64 kind,v,.bool false,.int .i64 g],.agg #[.int .i64 f,.int .i64 a,.int .i64 b]] w fun e w'=>Did B w v (⟨kind,L',false,g⟩,n') e w':=by
 have n:=Zac d;have I:(f == 10)=false:=beq_eq_false_iff_ne.2 m;obtain⟨ao,cap,rfl⟩:=d.shape;have k:∀ b,(Value.slice ao l.length cap).ownBlock=some b->b<w.heap.size:=fun b h=>(World.ownsRow.lt d b h).2
 have u:=Zac k;clear d m k;subst D
 all_goals
  go_enter func83,ntmps83
  go_wp2_with fail
  refine(z.o _ (n.o.alloc3 _ _ _) (by simp;omega)).mono ?_
  rintro e G ⟨K,rfl,i,j⟩;obtain⟨p,C,rfl⟩:=i.shape;have c:=(Zec.made w _ _ _).mv u.o j;obtain⟨F,-⟩:=c.s 0;obtain⟨P,E⟩:=c.s 1;obtain⟨M,-⟩:=c.s 2;obtain⟨N,-⟩:=c.s 3;obtain⟨x,J⟩:=c.r 0;obtain⟨q,L⟩:=c.r 1;obtain⟨A,Q⟩:=c.r 2;obtain⟨y,H⟩:=c.r 3;have t:=Zac (fun kind=>Zts (kind:=kind) (g:=g) n.o i j)
  clear c i j;go_wp2;refine bodyPost_ret (v:=.tuple #[.agg #[.int .i64 5,.slice p L'.length C,.bool false,.int .i64 g],.int .i64 n']) (by simp[results,Tryz.results83,go_sem,x,q,A,y]) rfl ?_
  exact⟨_,rfl,t.o _⟩
theorem ZrN (v:Value) (l:List Int) (a b:Nat) (w:World) (I:RdI w v l) (D:w.cell? ⟨a,0,none⟩=some (.int .i64 (-1099511627776))) (E:w.cell? ⟨b,0,none⟩=some (.int .i64 1099511627776)):
 Calls prog 171 #[v,.func (.func 170) #[] #[.pointer (some ⟨a,0,none⟩),.pointer (some ⟨b,0,none⟩)]] w fun e w'=>e=.returned (.bool (decide (l.length<=64∧ZcN l)))∧w'=w:=by
 have u:=Zac (fun n=>ZgG n _ _ a b w D E)
 obtain⟨ao,cap,rfl,-,-,-,-,A⟩:=I;have G:=Zac A;clear A D E;obtain⟨R,q⟩:∃ R,R=decide (l.length<=64∧ZcN l):=⟨_,rfl⟩;rw[<-q];have p:=Zac q;clear q;by_cases x:l.length<=64
 ·have J:¬ (64<(l.length:Int)):=by omega
  go_enter func171,ntmps171
  go_wp2
  go_loop [12] (fun i=>∃ k:Nat,i=.int .i64 k∧k<=l.length∧Hid (∀ j,j<k->-1099511627776<=l.getD j 0∧l.getD j 0<=1099511627776)) (fun i=>l.length-(intOf i).toNat)
  case atStart=>exact⟨0,rfl,Nat.zero_le _,fun j C=>by omega⟩
  case round=>
   obtain⟨k,rfl,K,B⟩:=hrel;by_cases f:k<l.length
   ·rcases G.o with h0 | ⟨g,off,rfl,hc⟩
    ·rw[h0] at f;simp at f
    have F:=hc k f;clear hc;obtain⟨y,t⟩:∃ y,y=l.getD k 0:=⟨_,rfl⟩;rw[<-t] at F;have z:=Zac t;clear t;by_cases c:-1099511627776<=y∧y<=1099511627776
    ·have d:=Zac (decide_eq_true c)
     have m:=Zac c;clear c
     go_wp2_with(first | (go_at_call 170;refine(u.o _).mono ?_;rintro e H ⟨rfl,rfl⟩;rw[d.o]))
     go_round
     case rel=>
      refine⟨k+1,by go_num,by omega,fun j C=>?_⟩
      by_cases e:j=k
      ·rw[e,<-z.o];exact m.o
      ·exact B.o j (by omega)
     case measure=>simp[intOf];omega
    ·have d:=Zac (decide_eq_false c)
     have m:=Zac c;clear c
     go_wp2_with(first | (go_at_call 170;refine(u.o _).mono ?_;rintro e H ⟨rfl,rfl⟩;rw[d.o]))
     go_ret;refine⟨ZbZ (p.o.trans (decide_eq_false fun h=>m.o ?_)).symm,rfl⟩
     rw[z.o];exact h.2 k f
   ·go_wp2
    go_ret;exact⟨ZbZ (p.o.trans (decide_eq_true ⟨x,fun j C=>B.o j (by omega)⟩)).symm,rfl⟩
 ·have J:64<(l.length:Int):=by omega
  have d:Hid (decide (l.length<=64∧ZcN l)=false):=decide_eq_false (fun h=>x h.1)
  go_enter func171,ntmps171
  go_wp2;go_ret;exact⟨ZbZ (p.o.trans d.o).symm,rfl⟩
def ZiM (l:List Int) (k:Nat):Int:=if k=0 then 0 else l.getD (k-2) 0+1
theorem ZpR {lo:Int} {l:List Int} {k:Nat} (i:k % 2=0) (e:∀ j,j<k->j % 2=0->Zkh lo l j):Zkh lo l k↔(ZiM l k<=l.getD k 0∧l.getD k 0<=255)∧lo<=l.getD (k+1) 0∧l.getD (k+1) 0<=1099511627776:=by
 unfold Zkh ZiM;by_cases d:k=0
 ·subst d
  simp;omega
 ·rw[if_neg d]
  have h:=(e (k-2) (by omega) (by omega)).1
  constructor
  ·rintro⟨g,a,f,c,b⟩
   exact⟨⟨by have:=f (by omega);omega,a⟩,c,b⟩
  ·rintro⟨⟨g,a⟩,c,b⟩
   exact⟨by omega,a,fun _=>by omega,c,b⟩
theorem ZpS (v:Value) (l:List Int) (lo:Int) (a b:Nat) (w:World) (hr:RdI w v l) (P:w.cell? ⟨a,0,none⟩=some (.int .i64 lo)) (M:w.cell? ⟨b,0,none⟩=some (.int .i64 1099511627776)):
 Calls prog 172 #[v,.func (.func 170) #[] #[.pointer (some ⟨a,0,none⟩),.pointer (some ⟨b,0,none⟩)]] w fun e w'=>e=.returned (.bool (decide (Zdh lo l)))∧Below w.heap.size w w':=by
 have X:Hid (∀ n W,Below w.heap.size w W->Calls prog 170 #[.int .i64 n,.pointer (some ⟨a,0,none⟩),.pointer (some ⟨b,0,none⟩)] W fun e w'=>e=.returned (.bool (decide (lo<=n∧n<=1099511627776)))∧w'=W):=fun n W h=>
  ZgG n _ _ a b W ((h.cell (World.block_lt_of_cell? w ⟨a,0,none⟩ P)).trans P) ((h.cell (World.block_lt_of_cell? w ⟨b,0,none⟩ M)).trans M)
 have Q:=Zac (fun n l2 h2 E D W p1 p2=>ZgG n l2 h2 E D W p1 p2)
 have T:=Zac (fun p q W=>ZcJ p q W)
 obtain⟨ao,cap,rfl,-,-,-,-,ad⟩:=hr;have af:=Zac ad;clear ad P M;obtain⟨R,L⟩:∃ R,R=decide (Zdh lo l):=⟨_,rfl⟩;rw[<-L];have B:=Zac L;clear L;by_cases he:l.length % 2=0
 ·by_cases ac:l.length<=128
  ·have ab:(((l.length:Int).tmod 2) != 0)=false:=by rw[bne_eq_false_iff_eq,Int.tmod_eq_emod_of_nonneg (by omega)];omega
   have hq:¬ (128<(l.length:Int)):=by omega
   go_enter func172,ntmps172
   go_wp2
   go_loopw[5,6] (fun y i wr=>∃ k:Nat,y=.int .i64 (ZiM l k)∧i=.int .i64 k∧k<=l.length∧k % 2=0∧Hid (∀ j,j<k->j % 2=0->Zkh lo l j)∧Hid (Below w.heap.size w wr)) (fun _ i _=>l.length-(intOf i).toNat)
   case atStart=>exact⟨0,rfl,rfl,Nat.zero_le _,rfl,fun j hj=>by omega,Below.refl _ _⟩
   case round=>
    obtain⟨k,rfl,rfl,hk,U,O,t⟩:=hrel;by_cases x:k<l.length
    ·rcases af.o with h0 | ⟨g,off,rfl,hc⟩
     ·rw[h0] at x;simp at x
     have Y:k+1<l.length:=by omega
     have H:Hid (∀ W,Below w.heap.size w W->W.cell? ⟨g,off+k,none⟩=some (.int .i64 (l.getD k 0))):=fun W h=>(h.cell (World.block_lt_of_cell? w ⟨g,off+k,none⟩ (hc k x))).trans (hc k x)
     have G:Hid (∀ W,Below w.heap.size w W->W.cell? ⟨g,off+(k+1),none⟩=some (.int .i64 (l.getD (k+1) 0))):=fun W h=>(h.cell (World.block_lt_of_cell? w ⟨g,off+(k+1),none⟩ (hc (k+1) Y))).trans (hc (k+1) Y)
     clear hc;have u:=Zac (ZpR (lo:=lo) U O.o)
     have aa:Hid (ZiM l (k+2)=l.getD k 0+1):=by
      unfold ZiM;rw[if_neg (by omega)]
      exact rfl
     generalize ZiM l k=ls at *;obtain⟨y,d⟩:∃ y,y=l.getD k 0:=⟨_,rfl⟩;obtain⟨z,f⟩:∃ z,z=l.getD (k+1) 0:=⟨_,rfl⟩;rw[<-d] at H u aa;rw[<-f] at G u;have ag:=Zac d;clear d f;by_cases d:ls<=y∧y<=255
     ·have J:=Zac (decide_eq_true d)
      have F:=Zac d;by_cases f:lo<=z∧z<=1099511627776
      ·have N:=Zac (decide_eq_true f)
       have I:=Zac f;have ai:=d.2;have ah:0<=y:=by rw[ag.o];exact(u.o.2 ⟨F.o,I.o⟩).1
       clear d f
       go_wp2_with fail
       refine(T.o _ _ _).mono ?_;rintro e V ⟨E,D,rfl,A,C,m⟩;have c:=Zac (t.o.trans (m.mono t.o.size));have Z:=H.o _ c.o;have ae:=G.o _ c.o;clear m
       go_wp2_with fail
       refine(Q.o _ _ _ _ _ _ A C).mono ?_;rintro e W2 ⟨rfl,rfl⟩;rw[J.o]
       go_wp2_with fail
       refine(X.o _ _ c.o).mono ?_;rintro e W3 ⟨rfl,rfl⟩;rw[N.o];go_wp2;go_roundw
       case rel=>
        refine⟨k+2,by rw[aa.o],by go_num,by omega,by omega,fun j hj S=>?_,c⟩
        by_cases e:j=k
        ·rw[e];exact u.o.2 ⟨F.o,I.o⟩
        ·exact O.o j (by omega) S
       case measure=>simp[intOf];omega
      ·have N:=Zac (decide_eq_false f)
       have I:=Zac f;clear d f
       go_wp2_with fail
       refine(T.o _ _ _).mono ?_;rintro e V ⟨E,D,rfl,A,C,m⟩;have c:=Zac (t.o.trans (m.mono t.o.size));have Z:=H.o _ c.o;have ae:=G.o _ c.o;clear m
       go_wp2_with fail
       refine(Q.o _ _ _ _ _ _ A C).mono ?_;rintro e W2 ⟨rfl,rfl⟩;rw[J.o]
       go_wp2_with fail
       refine(X.o _ _ c.o).mono ?_;rintro e W3 ⟨rfl,rfl⟩;rw[N.o];go_wp2;go_ret;exact⟨ZbZ (B.o.trans (decide_eq_false fun h=>I.o (u.o.1 (h.2.2 k x U)).2)).symm,c.o⟩
     ·have J:=Zac (decide_eq_false d)
      have F:=Zac d;clear d
      go_wp2_with fail
      refine(T.o _ _ _).mono ?_;rintro e V ⟨E,D,rfl,A,C,m⟩;have c:=Zac (t.o.trans (m.mono t.o.size));have Z:=H.o _ c.o;have ae:=G.o _ c.o;clear m
      go_wp2_with fail
      refine(Q.o _ _ _ _ _ _ A C).mono ?_;rintro e W2 ⟨rfl,rfl⟩;rw[J.o];go_wp2;go_ret;exact⟨ZbZ (B.o.trans (decide_eq_false fun h=>F.o (u.o.1 (h.2.2 k x U)).1)).symm,c.o⟩
    ·go_wp2
     go_ret;exact⟨ZbZ (B.o.trans (decide_eq_true ⟨he,ac,fun j hj S=>O.o j (by omega) S⟩)).symm,t.o⟩
  ·have ab:(((l.length:Int).tmod 2) != 0)=false:=by rw[bne_eq_false_iff_eq,Int.tmod_eq_emod_of_nonneg (by omega)];omega
   have hq:128<(l.length:Int):=by omega
   have K:Hid (decide (Zdh lo l)=false):=decide_eq_false (fun h=>ac h.2.1)
   go_enter func172,ntmps172
   go_wp2;go_ret;exact⟨ZbZ (B.o.trans K.o).symm,Below.refl _ _⟩
 ·have ab:(((l.length:Int).tmod 2) != 0)=true:=by rw[bne_iff_ne,Int.tmod_eq_emod_of_nonneg (by omega)];omega
  have K:Hid (decide (Zdh lo l)=false):=decide_eq_false (fun h=>he h.1)
  go_enter func172,ntmps172
  go_wp2;go_ret;exact⟨ZbZ (B.o.trans K.o).symm,Below.refl _ _⟩
end Go.Proofs.YtnahjngbneicaaaGreatDoor
