import Derived.Test.YtnahjngbneicaaaGreatDoorPack7
import Derived.Deep.RegionHeld2
namespace Go.Proofs.YtnahjngbneicaaaGreatDoor
open _root_.Go.Proofs.Tryz
open List (append_nil getElem_mem length_append length_drop length_map length_set length_take map_cons map_nil map_toArray)
set_option maxHeartbeats 4000000
set_option maxRecDepth 100000
open Go.RowKit
variable {w w':World} {ao:Option Addr} {B N N' T T' b base cap i j n o p pd:Nat} {L l:List Int} {x:Q0 × Value × Value} {F I K M:Nat->Prop} {pv rv v:Value} {s:Sto} {d:Dk} {g:Lgb} {t:TypeId} {xs:List Value}
theorem RdR.mid {l:List Rec} (h:RdR w (.slice ao n cap) l) (i j m:Nat) (K:i<=j) (D:j<=l.length) (I:j<=m) (G:m<=cap):RdR w (sliced ao i j m 7) ((l.drop i).take (j-i)):=by
 obtain⟨H,F,p,J,E,g,z,c⟩:=h;simp only [Value.slice.injEq] at p;obtain⟨rfl,rfl,rfl⟩:=p;have f:((l.drop i).take (j-i)).length=j-i:=by simp;omega
 have u:∀ n ∈ (l.drop i).take (j-i),Zcx n:=fun n a=>z n (List.mem_of_mem_drop (List.mem_of_mem_take a))
 unfold sliced;by_cases q:m=i
 ·rw[if_pos q]
  have e:j-i=0:=by omega
  refine⟨ao,m-i,by rw[f],by omega,by omega,fun a=>by have:=g a;omega,u,.inl ?_⟩
  rw[e];simp
 ·rw[if_neg q]
  refine⟨ao.map (·.add (i*7)),m-i,by rw[f],by omega,by omega,fun a=>?_,u,?_⟩
  ·have y:ao=none:=by simpa using a
   have:=g y;omega
  ·rcases c with c | ⟨b,d,C,A⟩
   ·exact .inl (by rw[c];simp)
   ·refine .inr ⟨b,d+i*7,?_,fun k t=>?_⟩
    ·rw[C,Option.map_some,Addr.add_lit]
    ·rw[f] at t
     have v:=A (i+k) (by omega)
     have B:d+i*7+k*7=d+(i+k)*7:=by omega
     have x:((l.drop i).take (j-i)).getD k Qi=l.getD (i+k) Qi:=by simp[List.getD,t]
     rw[B,x];exact v
theorem RdL.mid {l:List (List UInt8)} (h:RdL w (.slice ao n cap) l) (i j m:Nat) (J:i<=j) (C:j<=l.length) (H:j<=m) (F:m<=cap):RdL w (sliced ao i j m 1) ((l.drop i).take (j-i)):=by
 obtain⟨G,E,g,I,D,f,a⟩:=h;simp only [Value.slice.injEq] at g;obtain⟨rfl,rfl,rfl⟩:=g;have c:((l.drop i).take (j-i)).length=j-i:=by simp;omega
 unfold sliced;by_cases p:m=i
 ·rw[if_pos p]
  have e:j-i=0:=by omega
  refine⟨ao,m-i,by rw[c],by omega,by omega,fun d=>by have:=f d;omega,.inl ?_⟩
  rw[e];simp
 ·rw[if_neg p]
  refine⟨ao.map (·.add (i*1)),m-i,by rw[c],by omega,by omega,fun d=>?_,?_⟩
  ·have v:ao=none:=by simpa using d
   have:=f v;omega
  ·rcases a with a | ⟨b,t,B,z⟩
   ·exact .inl (by rw[a];simp)
   ·refine .inr ⟨b,t+i,?_,fun k q=>?_⟩
    ·rw[B,Nat.mul_one,Option.map_some,Addr.add_lit]
    ·rw[c] at q
     obtain⟨x,y,A⟩:=z (i+k) (by omega)
     refine⟨x,by rw[Nat.add_assoc];exact y,?_⟩
     have u:((l.drop i).take (j-i)).getD k []=l.getD (i+k) []:=by simp[List.getD,q]
     rw[u];exact A
theorem RdR.cells {l:List Rec} (h:l=[]∨∃ b c,ao=some ⟨b,c,none⟩∧∀ j,j<l.length->ZjI w b (c+j*7) (l.getD j Qi)) (a:Addr) (d:ao=some a):
 ∀ j u,(Qt l)[j]?=some u->w.cell? (a.add j)=some u:=by
 intro j u f;rcases h with h | ⟨b,c,A,v⟩
 ·rw[h] at f
  simp[Qt] at f
 ·rw[A] at d
  injection d with d
  subst d;have m:j<(Qt l).length:=(List.getElem?_eq_some_iff.1 f).1;rw[Zl] at m;have i:j=j / 7*7+j % 7:=by omega
  have g:=Zbv l (j / 7) (j % 7) (by omega) (by omega)
  rw[<-i,f] at g;obtain⟨t,z,q,y,p,x,n⟩:=v (j / 7) (by omega)
  have e:∀ k,k<7->c+(j / 7*7+k)=c+j / 7*7+k:=fun k _=>by omega
  rw[Addr.add_lit,i,e (j % 7) (by omega)]
  have hk:j % 7=0∨j % 7=1∨j % 7=2∨j % 7=3∨j % 7=4∨j % 7=5∨j % 7=6:=by omega
  rcases hk with hk | hk | hk | hk | hk | hk | hk
  all_goals
   rw[hk] at g ⊢;rw[g]
   first | exact t | exact z | exact q | exact y | exact p | exact x | exact n
theorem Zin (w:World) (ty:TypeId) (B:Nat) (v:Value) (b:List Rec) (c:Xj w B v b) (g:Value) (l:List Rec) (j:RdR w g l)
 (C:b.length+l.length<=1000000) (f:B<=w.heap.size):
 ∃ v' w',(Builtin.append_ #[29,29] ty #[v,g]).run prog w=.ok v' w'∧Xj w' B v' (b++l)∧Below B w w':=by
 obtain⟨i,e,z,n,A⟩:=info_parts Zdg;obtain⟨ao,cap,rfl,E,D,m,_,y⟩:=j
 cases ao with
 | none=>
  have t:=m rfl;subst t;have p:l=[]:=List.eq_nil_of_length_eq_zero (by omega)
  subst p;have d:=run_append_owned_none (P:=prog) w B 29 ty 62 i 7 underlying29 e v b.length (Qt b) c;exact⟨v,w,d,by rw[append_nil];exact c,Below.refl _ _⟩
 | some a=>
  obtain⟨v',w',d,q,u,_⟩:=run_append_own (P:=prog) w B 29 ty 62 i _ 7 56 underlying29 e z n A rfl (by decide) v b.length (Qt b) c a l.length cap (Qt l)
   (Zl l) (RdR.cells y a rfl) (Zbw l) (by unfold maxLen;omega) (by omega) f
  refine⟨v',w',d,?_,?_⟩
  ·unfold Xj
   rw[length_append,ZaA];exact q
  ·exact(Below.refl _ _).grown u f (fun k x=>(World.ownsRow.lt c k x).1)
theorem ZeK (w:World) {d:Array Oper} {rest:List Oper} {o:Oper} {a:Act} {Q:Exit->Act->World->Prop} (p:o.guard=none) (s x:Operand)
 (m:o.op=.call { callee:=.builtin .append,args:=#[s,x],argTypes:=#[29,29] })
 (B:Nat) (v:Value) (b:List Rec) (q:a.eval s=v) (n:Xj w B v b) (c:Value) (l:List Rec) (t:a.eval x=c) (e:RdR w c l)
 (k:b.length+l.length<=1000000) (j:B<=w.heap.size)
 (h:∀ v' w',Xj w' B v' (b++l)->Below B w w'->wpList prog d Q rest (a.put o.dst v') w'):wpList prog d Q (o::rest) a w:=
 wpList_plain p fun _ f=>by
  obtain⟨v',w',u,g,i⟩:=Zin w o.type B v b n c l e k j;unfold Oper.wp execOp;simp only [m,resolve,invoke,builtin,Sem.run_bind,Sem.run_pure,Result.andThen_ok,map_toArray,map_cons,map_nil,q,t,u];exact f _ _ (h v' w' g i)
def Bsg (w:World) (b:Nat) (cs:Array Value):Prop:=w.heap[b]?=some (.cells cs 217 (0,0))
theorem Bsg.lt {cs:Array Value} (h:Bsg w b cs):b<w.heap.size:=(Array.getElem?_eq_some_iff.1 h).1
theorem Bsg.below {cs:Array Value} (h:Bsg w b cs) (a:Below B w w') (c:w.heap.size<=B):Bsg w' b cs:=(a.block b (by have:=h.lt;omega)).trans h
theorem Bsg.cell {cs:Array Value} (h:Bsg w b cs) (j:Nat):w.cell? ⟨b,j,none⟩=cs[j]?∧w.frozen? ⟨b,j,none⟩=false:=⟨cell_of_row w b j _ _ _ h,frozen_of_row w b j _ _ h⟩
def pcC (p:Pce):Array Value:=#[.int .i64 p.name,.int .i64 p.first,.int .i64 p.stop]
def Q6:List Pce->List Value
 | []=>[]
 | c::l=>(pcC c).toList++Q6 l
theorem Zas:∀ l:List Pce,(Q6 l).length=l.length*3
 | []=>rfl
 | c::l=>by
  rw[Q6,length_append,Zas l,List.length_cons];show 3+_=_;omega
theorem Zio:∀ a b:List Pce,Q6 (a++b)=Q6 a++Q6 b
 | [],_=>rfl
 | c::l,b=>by rw[List.cons_append,Q6,Zio l b,Q6,List.append_assoc]
theorem Zci:∀ (l:List Pce) (j k:Nat),j<l.length->k<3->(Q6 l)[j*3+k]?=(pcC (l.getD j Zj))[k]?
 | c::l,0,k,_,hk=>by
  rw[Q6,Nat.zero_mul,Nat.zero_add,List.getElem?_append_left (by show k<3;exact hk)]
  simp
 | c::l,j+1,k,hj,hk=>by
  have e:(j+1)*3+k=(pcC c).toList.length+(j*3+k):=by show _=3+_;omega
  rw[Q6,e,List.getElem?_append_right (by omega),Nat.add_sub_cancel_left,Zci l j k (by simpa using hj) hk]
  rfl
theorem ZpD (l:List Pce):∀ u ∈ Q6 l,u.oneCell'=true:=by
 induction l with
 | nil=>intro u a;cases a
 | cons c l b=>
  intro u a;rw[Q6] at a;rcases List.mem_append.1 a with h | h
  ·simp[pcC] at h
   rcases h with rfl | rfl | rfl <;> rfl
  ·exact b u h
def snC (x:Q0 × Value × Value):Array Value:=#[.int .i64 x.1.idx,.int .i64 x.1.st.kind,x.2.1,.bool x.1.st.shut,.int .i64 x.1.st.eng,x.2.2]
def snV (x:Q0 × Value × Value):Value:=.agg (snC x)
def Xv:List (Q0 × Value × Value)->List Value
 | []=>[]
 | c::l=>(snC c).toList++Xv l
theorem Zdv:∀ l:List (Q0 × Value × Value),(Xv l).length=l.length*6
 | []=>rfl
 | c::l=>by
  rw[Xv,length_append,Zdv l,List.length_cons];show 6+_=_;omega
theorem Zip:∀ a b:List (Q0 × Value × Value),Xv (a++b)=Xv a++Xv b
 | [],_=>rfl
 | c::l,b=>by rw[List.cons_append,Xv,Zip l b,Xv,List.append_assoc]
theorem Ziq:∀ (l:List (Q0 × Value × Value)) (j k:Nat) (a:j<l.length),k<6->(Xv l)[j*6+k]?=(snC l[j])[k]?
 | c::l,0,k,_,hk=>by
  rw[Xv,Nat.zero_mul,Nat.zero_add,List.getElem?_append_left (by show k<6;exact hk)]
  simp
 | c::l,j+1,k,a,hk=>by
  have e:(j+1)*6+k=(snC c).toList.length+(j*6+k):=by show _=6+_;omega
  rw[Xv,e,List.getElem?_append_right (by omega),Nat.add_sub_cancel_left,Ziq l j k (by simpa using a) hk]
  rfl
structure SnR (w:World) (x:Q0 × Value × Value):Prop where
 l:RdI w x.2.1 x.1.st.L
 t:RdE w x.2.2 x.1.tab
 k:I64 x.1.st.kind
 e:I64 x.1.st.eng
 i:I64 x.1.idx
theorem SnR.snV {w:World} {x:Q0 × Value × Value} (h:SnR w x):SnV w (snV x) x.1:=⟨x.2.1,x.2.2,rfl,h.l,h.k,h.e,h.t,h.i⟩
theorem SnR.below (h:SnR w x) {B:Nat} (a:Below B w w') (b:w.heap.size<=B):SnR w' x:=⟨h.l.below a b,h.t.below a b,h.k,h.e,h.i⟩
def Zmp (I:Nat->Prop) (x:Q0 × Value × Value):Prop:=(x.1.st.L=[]∨∀ g,x.2.1.ownBlock=some g->I g)∧(x.1.tab=[]∨∀ g,x.2.2.ownBlock=some g->I g)
theorem Zmp.mono {J:Nat->Prop} (h:Zmp I x) (b:∀ k,I k->J k):Zmp J x:=by
 obtain⟨c,d⟩:=h;exact⟨c.imp id fun h g a=>b g (h g a),d.imp id fun h g a=>b g (h g a)⟩
theorem RdE.keepS {l:List Ent} (h:RdE w v l) (hk:l=[]∨∀ g,v.ownBlock=some g->w'.heap[g]?=w.heap[g]?):RdE w' v l:=by
 obtain⟨ao,cap,rfl,e,f,m,k,a⟩:=h;refine⟨ao,cap,rfl,e,f,m,k,?_⟩;rcases a with a | ⟨b,c,rfl,i⟩
 ·exact .inl a
 ·rcases hk with hk | hk
  ·exact .inl hk
  ·exact .inr ⟨b,c,rfl,fun j d=>(i j d).keep (hk b rfl)⟩
theorem RdI.keepS (h:RdI w v l) (hk:l=[]∨∀ g,v.ownBlock=some g->w'.heap[g]?=w.heap[g]?):RdI w' v l:=by
 obtain⟨ao,cap,rfl,f,i,n,m,c⟩:=h;refine⟨ao,cap,rfl,f,i,n,m,?_⟩;rcases c with c | ⟨b,d,rfl,k⟩
 ·exact .inl c
 ·rcases hk with hk | hk
  ·exact .inl hk
  ·exact .inr ⟨b,d,rfl,fun j e=>(World.cell?_of_block (a:=⟨b,d+j,none⟩) (hk b rfl)).trans (k j e)⟩
theorem SnR.keep (h:SnR w x) (c:Zmp I x) (b:∀ g,I g->w'.heap[g]?=w.heap[g]?):SnR w' x:=
 ⟨h.l.keepS (c.1.imp id fun h g a=>b g (h g a)),h.t.keepS (c.2.imp id fun h g a=>b g (h g a)),h.k,h.e,h.i⟩
structure ZdU where
 rv:Value
 pv:Value
 bv:Value
 nl:Value
 nt:Value
 bs:List (Q0 × Value × Value)
def ZdU.nx (L:ZdU) (s:Sto):Q0 × Value × Value:=(s.now,L.nl,L.nt)
def stC (pd:Nat) (L:ZdU) (s:Sto):Array Value:=
 #[ptr pd,.int .i64 s.log.first,L.rv,L.pv,L.bv,.int .i64 s.now.idx,.int .i64 s.now.st.kind,L.nl,.bool s.now.st.shut,.int .i64 s.now.st.eng,L.nt,.int .i64 s.synced,.int .i64 s.cur,.bool s.nw]
structure Jq (M I:Nat->Prop) (w:World) (p pd:Nat) (L:ZdU) (s:Sto):Prop where
 head:Bk 76 w p (stC pd L s)
 recs:Xj w 0 L.rv s.log.recs
 pcs:w.ownsRow 0 108 3 L.pv s.log.pcs.length (Q6 s.log.pcs)
 bases:w.ownsRow 0 41 6 L.bv L.bs.length (Xv L.bs)
 bsEq:L.bs.map Prod.fst=s.bases
 now:SnR w (L.nx s)
 base:∀ x ∈ L.bs,SnR w x
 mh:M p
 mr:∀ g,L.rv.ownBlock=some g->M g
 mp:∀ g,L.pv.ownBlock=some g->M g
 mb:∀ g,L.bv.ownBlock=some g->M g
 inow:Zmp I (L.nx s)
 ibase:∀ x ∈ L.bs,Zmp I x
 ltM:∀ k,M k->k<w.heap.size
 ltI:∀ k,I k->k<w.heap.size
 dis:∀ k,M k->¬ I k
theorem Jq.keep {L:ZdU} (h:Jq M I w p pd L s) (b:∀ k,(M k∨I k)->w'.heap[k]?=w.heap[k]?) (d:w.heap.size<=w'.heap.size):Jq M I w' p pd L s:=
 ⟨h.head.keep (b p (.inl h.mh)),Qh h.recs fun g a=>b g (.inl (h.mr g a)),Qh h.pcs fun g a=>b g (.inl (h.mp g a)),Qh h.bases fun g a=>b g (.inl (h.mb g a)),h.bsEq,
  h.now.keep h.inow fun g a=>b g (.inr a),fun x e=>(h.base x e).keep (h.ibase x e) fun g a=>b g (.inr a),h.mh,h.mr,h.mp,h.mb,h.inow,h.ibase,fun k c=>Nat.lt_of_lt_of_le (h.ltM k c) d,fun k c=>Nat.lt_of_lt_of_le (h.ltI k c) d,h.dis⟩
theorem Jq.only {G:Nat->Prop} {L:ZdU} (h:Jq M I w p pd L s) (a:Ql G w w') (b:∀ k,M k->¬ G k) (c:∀ k,I k->¬ G k):Jq M I w' p pd L s:=
 h.keep (fun k hk=>by
  rcases hk with hk | hk
  ·exact a.block k (h.ltM k hk) (b k hk)
  ·exact a.block k (h.ltI k hk) (c k hk)) a.size
theorem Jq.below {L:ZdU} (h:Jq M I w p pd L s) (a:Below w.heap.size w w'):Jq M I w' p pd L s:=
 h.keep (fun k hk=>a.block k (by
  rcases hk with hk | hk
  ·exact h.ltM k hk
  ·exact h.ltI k hk)) a.size
theorem Jq.cs {L:ZdU} (h:Jq M I w p pd L s):
 w.cell? ⟨p,0,none⟩=some (ptr pd)∧w.cell? ⟨p,1,none⟩=some (.int .i64 s.log.first)∧w.cell? ⟨p,2,none⟩=some L.rv∧w.cell? ⟨p,3,none⟩=some L.pv∧w.cell? ⟨p,4,none⟩=some L.bv∧
 (w.cell? ⟨p,5,none⟩=some (.int .i64 s.now.idx)∧w.cell? ⟨p,6,none⟩=some (.int .i64 s.now.st.kind)∧w.cell? ⟨p,7,none⟩=some L.nl∧w.cell? ⟨p,8,none⟩=some (.bool s.now.st.shut)∧w.cell? ⟨p,9,none⟩=some (.int .i64 s.now.st.eng)∧w.cell? ⟨p,10,none⟩=some L.nt)∧
 w.cell? ⟨p,11,none⟩=some (.int .i64 s.synced)∧w.cell? ⟨p,12,none⟩=some (.int .i64 s.cur)∧w.cell? ⟨p,13,none⟩=some (.bool s.nw):=
 ⟨(h.head.cell 0 rfl).1,(h.head.cell 1 rfl).1,(h.head.cell 2 rfl).1,(h.head.cell 3 rfl).1,(h.head.cell 4 rfl).1,⟨(h.head.cell 5 rfl).1,(h.head.cell 6 rfl).1,(h.head.cell 7 rfl).1,(h.head.cell 8 rfl).1,(h.head.cell 9 rfl).1,(h.head.cell 10 rfl).1⟩,(h.head.cell 11 rfl).1,(h.head.cell 12 rfl).1,(h.head.cell 13 rfl).1⟩
theorem Jq.fz {L:ZdU} (h:Jq M I w p pd L s) (j:Nat):w.frozen? ⟨p,j,none⟩=false:=frozen_of_row w p j _ _ h.head
def SD (K:Nat->Prop) (w:World) (pd p:Nat) (s:Sto) (d:Dk) (N T:Nat):Prop:=
 ∃ F M I L,Dsk F w pd d N T∧Jq M I w p pd L s∧(∀ k,F k->¬ K k)∧(∀ k,M k->¬ K k)∧(∀ k,I k->¬ K k)∧(∀ k,F k->¬ M k)∧(∀ k,F k->¬ I k)
def Jz (K:Nat->Prop) (w:World) (pd p:Nat) (r:SDk × Int) (N T:Nat) (e:Ending) (w':World):Prop:=
 e=.returned (.int .i64 r.2)∧SD K w' pd p r.1.1 r.1.2 N T∧Ql (fun k=>¬ K k) w w'
theorem SD.below (h:SD K w pd p s d N T) (a:Below w.heap.size w w'):SD K w' pd p s d N T:=by
 obtain⟨F,M,I,L,b,c,e⟩:=h;exact⟨F,M,I,L,b.below a,c.below a,e⟩
theorem SD.mono (h:SD K w pd p s d N T) (c:N<=N') (e:T<=T'):SD K w pd p s d N' T':=by
 obtain⟨F,M,I,L,f,a,b⟩:=h;exact⟨F,M,I,L,f.mono c e,a,b⟩
theorem SD.less {e:Nat->Prop} (h:SD K w pd p s d N T) (c:∀ k,e k->K k):SD e w pd p s d N T:=by
 obtain⟨F,M,I,L,l,g,i,f,m,j⟩:=h;exact⟨F,M,I,L,l,g,fun k a b=>i k a (c k b),fun k a b=>f k a (c k b),fun k a b=>m k a (c k b),j⟩
theorem SD.fresh (h:SD K w pd p s d N T) (c:Below w.heap.size w w'):SD (fun k=>K k∨(w.heap.size<=k∧k<w'.heap.size)) w' pd p s d N T:=by
 obtain⟨F,M,I,L,e,b,g,f,j,i⟩:=h;refine⟨F,M,I,L,e.below c,b.below c,fun k a hh=>?_,fun k a hh=>?_,fun k a hh=>?_,i⟩
 ·rcases hh with hh | hh
  ·exact g k a hh
  ·have:=e.ltF k a
   omega
 ·rcases hh with hh | hh
  ·exact f k a hh
  ·have:=b.ltM k a
   omega
 ·rcases hh with hh | hh
  ·exact j k a hh
  ·have:=b.ltI k a
   omega
theorem SD.onlyK (h:SD K w pd p s d N T) (c:Ql K w w'):SD K w' pd p s d N T:=by
 obtain⟨F,M,I,L,i,f,b,a,e,g⟩:=h;exact⟨F,M,I,L,i.only c b,f.only c a e,b,a,e,g⟩
theorem SD.disk {d':Dk} {f:Nat} {args:Array Value} {c:Int} (h:SD K w pd p s d N T) (u:∀ k,K k->k<w.heap.size)
 (v:∀ F,Dsk F w pd d N T->(∀ k,F k->¬ K k)->Calls prog f args w fun e w'=>Zgk F w pd d' c N' T' e w'):Calls prog f args w fun e w'=>e=.returned (.int .i64 c)∧SD K w' pd p s d' N' T'∧Ql (fun k=>¬ K k) w w':=by
 obtain⟨F,M,I,L,z,g,i,t,A,q,m⟩:=h;refine(v F z i).mono ?_;rintro e w' ⟨x,F',y,n,l⟩;refine⟨x,⟨F',M,I,L,y,g.only n (fun k a j=>q k j a) (fun k a j=>m k j a),fun k a b=>?_,t,A,fun k a b=>?_,fun k a b=>?_⟩,n.mono i⟩
 ·rcases l k a with hx | hx
  ·exact i k hx b
  ·have:=u k b
   omega
 ·rcases l k a with hx | hx
  ·exact q k hx b
  ·have:=g.ltM k b
   omega
 ·rcases l k a with hx | hx
  ·exact m k hx b
  ·have:=g.ltI k b
   omega
theorem SD.own {M' I':Nat->Prop} {s':Sto} {L':ZdU} (f:∀ k,K k->k<w.heap.size) (c:Dsk F w pd d N T) (n:∀ k,F k->¬ K k) (e:∀ k,M k->¬ K k) (q:∀ k,I k->¬ K k) (i:∀ k,F k->¬ M k) (m:∀ k,F k->¬ I k)
 (g:Ql M w w') (t:Jq M' I' w' p pd L' s') (j:∀ k,M' k->M k∨w.heap.size<=k) (l:∀ k,I' k->I k∨w.heap.size<=k):SD K w' pd p s' d N T∧Ql (fun k=>¬ K k) w w':=by
 refine⟨⟨F,M',I',L',c.only g i,t,n,fun k a b=>?_,fun k a b=>?_,fun k a b=>?_,fun k a b=>?_⟩,g.mono e⟩
 ·rcases j k a with hx | hx
  ·exact e k hx b
  ·have:=f k b
   omega
 ·rcases l k a with hx | hx
  ·exact q k hx b
  ·have:=f k b
   omega
 ·rcases j k b with hx | hx
  ·exact i k a hx
  ·have:=c.ltF k a
   omega
 ·rcases l k b with hx | hx
  ·exact m k a hx
  ·have:=c.ltF k a
   omega
theorem Zir (h:j<l.length):l.getD j 0 ∈ l:=by
 rw[show l.getD j 0=l[j] by simp[List.getD,h]]
 exact getElem_mem h
def ZzM (p:Int->Bool) (l:List Int) (k:Int):Prop:=(k=-1∧∀ j,j<l.length->p (l.getD j 0)=false)∨∃ i:Nat,k=(i:Int)∧i<l.length∧(∀ j,j<i->p (l.getD j 0)=false)∧p (l.getD i 0)=true
theorem ZjM (g R:Nat) (p:Int->Bool) (v:Value) (l:List Int) (w:World) (B:RdI w v l)
 (Q:∀ args W,(callFunc g args).run prog W=.ok (.enter g args) W)
 (K:∀ W e,e ∈ l->Below w.heap.size w W->Calls prog g #[.int .i64 e,.pointer (some ⟨R,0,none⟩)] W fun x w'=>x=.returned (.bool (p e))∧Below W.heap.size W w'):
 Calls prog 158 #[v,.func (.func g) #[] #[.pointer (some ⟨R,0,none⟩)]] w fun x w'=>∃ k:Int,x=.returned (.int .i64 k)∧ZzM p l k∧Below w.heap.size w w':=by
 have N:=ZZ B;have J:=ZZ K;obtain⟨U,X,rfl,O,F,-,-,H⟩:=B;have I:=ZZ H;have Y:(l.length:Int)<=9223372036854775807:=by unfold maxLen at F;omega
 clear K O F H
 go_enter func158,ntmps158
 go_wp2
 go_loopw[8] (fun A wr=>∃ q:Nat,A=.int .i64 (q:Int)∧q<=l.length∧Hid (∀ j,j<q->p (l.getD j 0)=false)∧Hid (Below w.heap.size w wr)) (fun A _=>l.length-(intOf A).toNat)
 case atStart=>exact⟨0,rfl,Nat.zero_le _,ZZ (fun j f=>absurd f (Nat.not_lt_zero _)),Below.refl _ _⟩
 case round=>
  obtain⟨q,rfl,V,t,d⟩:=hrel;by_cases c:q<l.length
  case neg=>
   obtain rfl:q=l.length:=by omega
   go_wp2;go_ret;exact⟨-1,rfl,.inl ⟨rfl,t.out⟩,d.out⟩
  have T:(q:Int)<(l.length:Int):=by omega
  rcases I.o with L | ⟨b,m,rfl,y⟩
  ·rw[L] at c;simp at c
  have M:wr.cell? ⟨b,m+q,none⟩=some (.int .i64 (l.getD q 0)):=(World.cell?_of_block (a:=⟨b,m+q,none⟩) (d.out.block b (World.block_lt_of_cell? w ⟨b,m+q,none⟩ (y q c)))).trans (y q c);have i:=ZZ (J.o wr (l.getD q 0) (Zir c) d.out);have P:Hid (∀ j,j<q+1->j=q∨j<q):=ZZ (fun j f=>by omega)
  obtain⟨e,z⟩:∃ e,e=l.getD q 0:=⟨_,rfl⟩;rw[<-z] at i M;have C:=ZZ z;obtain⟨n,u⟩:∃ n,n=p e:=⟨_,rfl⟩;rw[<-u] at i;have G:=ZZ u;clear z y J I N u
  go_wp2_with fail
  refine i.o.mono ?_;rintro x S ⟨rfl,D⟩;have E:=ZZ (d.out.trans (D.mono d.out.size));clear D i
  cases n with
  | true=>
   go_wp2;go_ret;exact⟨(q:Int),rfl,.inr ⟨q,rfl,c,t.out,by rw[<-C.o];exact G.o.symm⟩,E.o⟩
  | false=>
   go_wp2;go_roundw
   case rel=>exact⟨q+1,by go_num,by omega,ZZ (fun j f=>by
    rcases P.o j f with h | h
    ·rw[h,<-C.o];exact G.o.symm
    ·exact t.out j h),E⟩
   case measure=>simp[intOf];omega
theorem ZcL (p:Int->Bool) (l:List Int) (j:Nat) (a:j<l.length):(l.take (j+1)).filter (fun e=>!p e)=(l.take j).filter (fun e=>!p e)++if p (l.getD j 0)=true then[] else[l.getD j 0]:=by
 have b:l.take (j+1)=l.take j++[l.getD j 0]:=by
  rw[List.take_add_one,List.getElem?_eq_getElem a];simp[List.getD,a]
 rw[b,List.filter_append]
 congr 1
 generalize l.getD j 0=x
 cases h:p x <;> simp[h]
theorem Zgm (p:Int->Bool) (l:List Int) (i:Nat) (c:i<=l.length) (h:∀ j,j<i->p (l.getD j 0)=false):(l.take i).filter (fun e=>!p e)=l.take i:=by
 rw[List.filter_eq_self];intro e a;obtain⟨j,b,rfl⟩:=List.getElem_of_mem a;rw[length_take] at b;have:=h j (by omega)
 rw[List.getElem_take];simp only [List.getD,List.getElem?_eq_getElem (show j<l.length by omega),Option.getD_some] at this
 simp[this]
def ZtP (p:Int->Bool) (l L:List Int) (i j:Nat):Prop:=L.length=l.length∧L.take i=(l.take j).filter (fun e=>!p e)∧L.drop j=l.drop j∧i<j
theorem ZtP.start {p:Int->Bool} (b:i<l.length) (h:∀ j,j<i->p (l.getD j 0)=false) (a:p (l.getD i 0)=true):ZtP p l l i (i+1):=by
 refine⟨rfl,?_,rfl,Nat.lt_succ_self _⟩;rw[ZcL p l i b,if_pos a,append_nil,Zgm p l i (by omega) h]
theorem ZtP.at {p:Int->Bool} (h:ZtP p l L i j):L.getD j 0=l.getD j 0:=by
 obtain⟨e,f,b,d⟩:=h;have c:(L.drop j).getD 0 0=L.getD j 0:=by simp[List.getD]
 have a:(l.drop j).getD 0 0=l.getD j 0:=by simp[List.getD]
 rw[<-c,<-a,b]
theorem Zkw (h:L.drop j=l.drop j):L.drop (j+1)=l.drop (j+1):=by
 rw[<-List.drop_drop,<-List.drop_drop,h]
theorem ZtP.skip {p:Int->Bool} (h:ZtP p l L i j) (a:j<l.length) (e:p (l.getD j 0)=true):ZtP p l L i (j+1):=by
 obtain⟨b,c,d,f⟩:=h;refine⟨b,?_,Zkw d,by omega⟩
 rw[ZcL p l j a,if_pos e,append_nil,c]
theorem ZtP.keep {p:Int->Bool} (h:ZtP p l L i j) (a:j<l.length) (e:p (l.getD j 0)=false):ZtP p l (L.set i (l.getD j 0)) (i+1) (j+1):=by
 obtain⟨b,c,d,f⟩:=h;refine⟨by rw[length_set,b],?_,?_,by omega⟩
 ·rw[ZcL p l j a,if_neg (by rw[e];simp),<-c,List.take_add_one,List.take_set_of_le zL]
  congr 1
  rw[List.getElem?_set_self (by omega)]
  rfl
 ·rw[List.drop_set_of_lt (by omega)]
  exact Zkw d
theorem Qs.cutClear {g:Nat} (h:Qs w B (.slice (some ⟨g,0,none⟩) n cap) l) (i:Nat) (q:i<=l.length) (vs:List Value):Qs (w.setCells g i vs) B (.slice (some ⟨g,0,none⟩) i cap) (l.take i):=by
 rcases h.row with ⟨a,-⟩ | ⟨g',p,cur,a,k,t,e,u,f,m,d⟩
 ·cases a
 ·injection a with a _ h3
  injection a with a
  injection a with a
  subst a h3;have c:=Xy g _ vs i w cur e;refine Qs.ofRowN (by rw[length_take];omega) k c (by rw[length_take];omega) f (by rw[Xr];exact m) fun j b=>?_
  rw[length_take] at b;rw[Yq _ _ _ _ (by omega),if_neg (by omega),d j (by omega)]
  simp[List.getD,show j<i by omega]
theorem Zis (g R:Nat) (p:Int->Bool) (v:Value) (l:List Int) (B:Nat) (w:World) (q:Qs w B v l) (hI:∀ e ∈ l,I64 e) (z:B<=w.heap.size) (aw:l.length<=1000000)
 (eg:∀ args W,(callFunc g args).run prog W=.ok (.enter g args) W)
 (P:∀ W e,e ∈ l->Below B w W->Calls prog g #[.int .i64 e,.pointer (some ⟨R,0,none⟩)] W fun x w'=>x=.returned (.bool (p e))∧Below W.heap.size W w'):
 Calls prog 112 #[v,.func (.func g) #[] #[.pointer (some ⟨R,0,none⟩)]] w fun x w'=>∃ v',x=.returned v'∧Qs w' B v' (l.filter (fun e=>!p e))∧Below B w w':=by
 have T:=ZZ q;have HP:=ZZ P;have X:=ZZ (ZjM g R p v l w (q.rd hI) eg (fun W e m h=>P W e m (h.mono z)))
 obtain⟨va,d,hv⟩:=q.shape;subst hv;clear q P
 go_enter func112,ntmps112
 go_wp2_with fail
 refine X.o.mono ?_;rintro x W0 ⟨k,rfl,a,G⟩;have N:=ZZ (G.mono z);have u:=ZZ (T.o.below G zL);clear X G T;rcases a with ⟨rfl,a⟩ | ⟨I,rfl,F,a,aa⟩
 ·have HE:Hid (l.filter (fun e=>!p e)=l):=ZZ (by
   have:=Zgm p l l.length zL a
   rwa [List.take_length] at this)
  clear a;go_wp2;go_ret;exact⟨_,rfl,by rw[HE.o];exact u.o,N.o⟩
 have Z:=ZZ (ZtP.start F a aa);clear a aa;rcases u.o.row with ⟨-,h2⟩ | ⟨f,cap,cur,J,ac,-,-,ap,al,-,-⟩
 ·rw[h2] at F;simp at F
 injection J with J _ h3
 subst J h3;have am:(l.length:Int)<=1000000:=by omega
 clear cur al;have ei:((I:Int) == -1)=false:=beq_eq_false_iff_ne.2 (by omega)
 go_wp2
 go_loopw[5,6] (fun v5 E wr=>∃ (i j:Nat) (L:List Int),v5=.int .i64 (i:Int)∧E=.int .i64 (j:Int)∧i<j∧j<=l.length∧Hid (Qs wr B (.slice (some ⟨f,0,none⟩) l.length d) L)∧Hid (ZtP p l L i j)∧Hid (Below B w wr)) (fun _ E _=>l.length-(intOf E).toNat)
 case atStart=>exact⟨I,I+1,l,rfl,by go_num,by omega,by omega,u,Z,N⟩
 case round=>
  clear u Z N ei;obtain⟨i,j,L,rfl,rfl,an,aq,c,b,n⟩:=hrel;by_cases M:j<l.length
  case neg=>
   obtain rfl:j=l.length:=by omega
   have hL:L.length=l.length:=b.out.1;have HT:Hid (L.take i=l.filter (fun e=>!p e)):=ZZ (by rw[b.out.2.1,List.take_length])
   obtain⟨g',ae,A,-,ag,-,-,-,-⟩:=c.out.put i (by omega) 0
   injection A with e1 e2 e3
   clear e2
   injection e1 with e1
   injection e1 with e1
   subst e1 e3
   have Y:Hid (∀ k,k<l.length->wr.frozen? ⟨f,k,none⟩=false∧(wr.cell? ⟨f,k,none⟩).isSome=true):=ZZ (fun k hk=>by
    obtain⟨g2,af,C,ad,ak,-⟩:=c.out.put k (by omega) 0
    injection C with f1 _ _
    injection f1 with f1
    injection f1 with f1
    subst f1
    exact⟨ak,by rw[ad];rfl⟩)
   have HK:Hid (∀ ty,(Builtin.clear_ #[23] ty #[.slice (some ⟨f,i,none⟩) (l.length-i) (d-i)]).run prog wr=.ok (.tuple #[]) (wr.setCells f i (List.replicate (l.length-i) (.int .i64 0)))):=ZZ (fun ty=>
    Go.Lib.run_clear_slice wr _ _ ty (.int .i64 0) underlying23 Tryz.zeroValue3 rfl rfl f i (l.length-i) (d-i) (by omega) (fun k hk=>(Y.o (i+k) (by omega)).2) (fun k hk=>(Y.o (i+k) (by omega)).1))
   have ab:=ZZ (c.out.cutClear i (by omega) (List.replicate (l.length-i) (.int .i64 0)))
   rw[HT.o] at ab;have aj:=ZZ (Gy ac (List.replicate (l.length-i) (.int .i64 0)) i wr n.out);have ax:¬ (d=i):=by omega
   have t:(i:Int)<=(l.length:Int):=by omega
   have ar:(i:Int)<=(d:Int):=by omega
   have av:i<=l.length:=by omega
   have ao:i<=d:=by omega
   clear ag;have hK:=HK.o;go_wp2;go_ret;exact⟨_,rfl,ab.o,aj.o⟩
  have au:(j:Int)<(l.length:Int):=by omega
  have az:L.length=l.length:=b.out.1;obtain⟨g',ae,A,K,-⟩:=c.out.put j (by omega) 0
  injection A with e1 e2 e3
  clear e2
  injection e1 with e1
  injection e1 with e1
  subst e1 e3;rw[b.out.at] at K;have D:=ZZ (b.out.skip M);have H:=ZZ (b.out.keep M);obtain⟨e,m⟩:∃ e,e=l.getD j 0:=⟨_,rfl⟩;rw[<-m] at K D H;obtain⟨y,Q⟩:∃ y,y=p e:=⟨_,rfl⟩;have O:=ZZ (fun W h=>HP.o W e (by rw[m];exact Zir M) h)
  rw[<-Q] at O D H;clear m Q b
  go_wp2_with fail
  refine(O.o _ n.out).mono ?_;rintro x W1 ⟨rfl,t⟩;have U:=ZZ (n.out.trans (t.mono (Nat.le_trans z n.out.size)));have V:=ZZ (c.out.below t zL);clear t O K c n
  cases y with
  | true=>
   go_wp2;go_roundw
   case rel=>exact⟨i,j+1,L,rfl,by go_num,by omega,by omega,V,ZZ (D.o (by simp)),U⟩
   case measure=>simp[intOf];omega
  | false=>
   obtain⟨g2,af,C,d0,z0,-,-,S,-⟩:=V.o.put i (by omega) e
   injection C with f1 f2 f3
   clear f2
   injection f1 with f1
   injection f1 with f1
   subst f1 f3;have ai:=ZZ S;clear S;have ay:(i:Int)<(l.length:Int):=by omega
   have aA:i<l.length:=by omega
   go_wp2;go_roundw
   case rel=>exact⟨i+1,j+1,L.set i e,by go_num,by go_num,by omega,by omega,ai,ZZ (H.o (by simp)),ZZ (U.o.setCell ac _)⟩
   case measure=>simp[intOf];omega
theorem Y4 {c:Array Oper} {o:Oper} {a:Act} {K:Act->World->Prop} {Q:Exit->Act->World->Prop} {E:Prop} {R:Value->World->Prop}
 (f:FuncId) (xs:Array Operand) (ts:Array TypeId) (k:o.guard=none) (m:o.op=Op.call { callee:=Callee.value (Operand.func f),args:=xs,argTypes:=ts }) (b:Array Value) (i:xs.map a.eval=b)
 (n:∀ args w,(callFunc f args).run prog w=.ok (.enter f args) w) (j:Calls prog f b w fun e w'=>∃ v',e=.returned v'∧R v' w') (g:∀ v' w',R v' w'->K (a.put o.dst v') w'):
 if Region.wanted o (yielded c a.tmps)=true then Oper.wp prog o a w K Q else E:=by
 have p:Region.wanted o (yielded c a.tmps)=true:=by simp[Region.wanted,k]
 rw[if_pos p];unfold Oper.wp
 have h:(execOp a.eval o).run prog w=.ok (.enter f b) w:=by
  have l:a.eval (Operand.func f)=.func (.func f) #[] #[]:=rfl;simp[execOp,m,resolve,invoke,i,l,Deferred.ofValue,n]
 rw[h,Oper.upon_enter];refine j.mono ?_;rintro e w' ⟨v',rfl,d⟩;exact g v' w' d
theorem ZlK (b o:Nat) (f:Int) (d:Option Addr) (n c:Nat) (w:World) (k:w.cell? ⟨b,o,none⟩=some (.int .i64 f)) (g:w.cell? ⟨b,o+1,none⟩=some (.slice d n c)) (l:0<=f) (j:f+n<=9000000000000000000):
 Calls prog 38 #[.pointer (some ⟨b,o,none⟩)] w fun e w'=>e=.returned (.int .i64 (f+n))∧Below w.heap.size w w':=by
 have a:IntKind.i64.wrap (f+(n:Int))=f+n:=by rw[IntKind.wrap_i64];omega
 have i:(n:Int)<=9000000000000000000:=by omega
 go_enter func38,ntmps38
 go_upto_region 1 with fail
 go_quiet(fail)
 go_wp2;go_ret;refine⟨?_,Xo (Below.refl _ _) _⟩
 first | rfl | (rw[a])
structure ZpE (s:Sto):Prop where
 f0:0<=s.log.first
 f1:s.next<=4611686018427387904
 sy:I64 s.synced
 cu:I64 s.cur
theorem Zit {L:ZdU} (w:World) (h:Jq M I w p pd L s) (g:ZpE s):
 Calls prog 14 #[ptr p] w fun e w'=>e=.returned (.int .i64 s.next)∧Below w.heap.size w w':=by
 obtain⟨n,k,i⟩:=h.recs.shape;obtain⟨-,d,a,-⟩:=h.cs;rw[i] at a;have f:=g.f1;have b:=g.f0;unfold Sto.next Lgb.next at f;have l:=ZZ (ZlK p 1 s.log.first n s.log.recs.length k w d a b (by omega))
 have j:Hid (s.next=s.log.first+s.log.recs.length):=ZZ rfl;rw[j.o];generalize s.log.first+(s.log.recs.length:Int)=nx at *;clear d a i f b
 go_enter func14,ntmps14
 go_wp2_with fail
 refine l.o.mono ?_;rintro e w' ⟨rfl,c⟩;have m:=ZZ c;clear c;go_wp2;go_ret;exact⟨rfl,m.o⟩
theorem Zkx {L:ZdU} (w:World) (h:Jq M I w p pd L s):
 Calls prog 18 #[ptr p] w fun e w'=>e=.returned (.int .i64 s.log.first)∧w'=w:=by
 obtain⟨-,a,-⟩:=h.cs;clear h
 go_enter func18,ntmps18
 go_wp2;go_ret;exact⟨rfl,rfl⟩
theorem Ziu {L:ZdU} (w:World) (h:Jq M I w p pd L s):
 Calls prog 11 #[ptr p] w fun e w'=>e=.returned (.int .i64 s.synced)∧w'=w:=by
 obtain⟨-,-,-,-,-,-,a,-⟩:=h.cs;clear h
 go_enter func11,ntmps11
 go_wp2;go_ret;exact⟨rfl,rfl⟩
theorem Zva (v:Value) (l:List Int) (x:Int) (w:World) (q:RdI w v l) (t:l.length<=1000000000):
 Calls prog 92 #[v,.int .i64 x] w fun e w'=>e=.returned (.int .i64 (l.getD (l.length-1) x))∧w'=w:=by
 obtain⟨ao,cap,rfl,p,f,-,-,c⟩:=q;have n:(l.length:Int)<=9223372036854775807:=by unfold maxLen at f;omega
 by_cases a:l.length=0
 ·have e:l=[]:=List.eq_nil_of_length_eq_zero a
  subst e;have g:((0:Int) == 0)=true:=rfl;clear c f p a;have z:([]:List Int).length=0:=rfl;rw[z]
  go_enter func92,ntmps92
  go_wp2;go_ret;exact⟨rfl,rfl⟩
 ·rcases c with c | ⟨b,A,rfl,j⟩
  ·rw[c] at a;simp at a
  have g:((l.length:Int) == 0)=false:=beq_eq_false_iff_ne.2 (by omega)
  have d:=j (l.length-1) (by omega)
  have e:l.getD (l.length-1) x=l.getD (l.length-1) 0:=by
   simp[List.getD,show l.length-1<l.length by omega]
  rw[e];obtain⟨y,i⟩:∃ y,y=l.getD (l.length-1) 0:=⟨_,rfl⟩;rw[<-i] at d ⊢;obtain⟨m,k⟩:∃ m,l.length=m+1:=⟨l.length-1,by omega⟩
  rw[k] at d g n ⊢;have u:m+1-1=m:=by omega
  rw[u] at d;have B:(m:Int)<=1000000000:=by omega
  clear i j e f p a k n t
  go_enter func92,ntmps92
  go_wp2;go_ret;exact⟨rfl,rfl⟩
def ZeL (first n:Int):Bool:=decide (n<first) || decide ((n-first) % 2≠0)
theorem Znv (l:List Int) (first:Int):Xk l first=l.filter fun n=>!ZeL first n:=rfl
theorem Zvb (R:Nat) (first n:Int) (w:World) (c:w.cell? ⟨R,0,none⟩=some (.int .i64 first)) (k:0<=first) (l:first<=1000) (m:-1000000000000000000<=n) (i:n<=1000000000000000000):
 Calls prog 111 #[.int .i64 n,.pointer (some ⟨R,0,none⟩)] w fun e w'=>e=.returned (.bool (ZeL first n))∧Below w.heap.size w w':=by
 by_cases b:n<first
 ·have e:ZeL first n=true:=by unfold ZeL;rw[decide_eq_true b];rfl
  rw[e];clear e
  go_enter func111,ntmps111
  go_wp2;go_ret;exact⟨rfl,Below.refl _ _⟩
 ·have j:IntKind.i64.wrap (n-first)=n-first:=by rw[IntKind.wrap_i64];omega
  have d:(n-first).tmod 2=(n-first) % 2:=Int.tmod_eq_emod_of_nonneg (by omega)
  by_cases a:(n-first) % 2=0
  ·have e:ZeL first n=false:=by unfold ZeL;rw[decide_eq_false b,decide_eq_false (fun h=>h a)];rfl
   have f:((n-first) % 2 != 0)=false:=by rw[a];rfl
   have g:((n-first).tmod 2 != 0)=false:=by rw[d,a];rfl
   rw[e];clear e a
   go_enter func111,ntmps111
   go_wp2;go_ret;exact⟨rfl,Below.refl _ _⟩
  ·have e:ZeL first n=true:=by unfold ZeL;rw[decide_eq_false b,decide_eq_true a];rfl
   have f:((n-first) % 2 != 0)=true:=by rw[bne_iff_ne];exact a
   have g:((n-first).tmod 2 != 0)=true:=by rw[d,bne_iff_ne];exact a
   rw[e];clear e a
   go_enter func111,ntmps111
   go_wp2;go_ret;exact⟨rfl,Below.refl _ _⟩
theorem Zbg (h:OkD d):∀ n ∈ Qk d,0<=n∧n<1048576:=fun n c=>by
 obtain⟨e,b,rfl⟩:=List.mem_map.1 c;have a:=(h.dir.may e b).1;unfold ZdE at a;simp only [Bool.and_eq_true,decide_eq_true_eq] at a;exact a
theorem Zcj (first:Int) (w:World) (h:Dsk F w p d N T) (I:N<=1000000) (Q:0<=first) (G:first<=1000):
 Calls prog 74 #[ptr p,.int .i64 first] w fun e w'=>∃ v,e=.returned v∧Qs w' w.heap.size v (Xk (Qk d) first)∧Below w.heap.size w w':=by
 obtain⟨b,i⟩:∃ b,b=w.alloc (.cells #[.int .i64 first] 3):=⟨_,rfl⟩;have f:Hid (Below w.heap.size w b):=ZZ (by rw[i];exact Jw _ _)
 have u:Hid (Bk 3 b w.heap.size #[.int .i64 first]):=ZZ (by rw[i];exact heap_alloc_new w _)
 have t:=ZZ (h.below f.o)
 have z:Hid (Calls prog 28 #[ptr p] b fun e w'=>∃ v,e=.returned v∧Qs w' b.heap.size v (Qk d)∧Below b.heap.size b w'):=ZZ (by
  obtain⟨L,q,j,-⟩:=t.o
  exact ZeC b q j I)
 have l:Hid (∀ n ∈ Qk d,0<=n∧n<1048576):=ZZ (by
  obtain⟨L,q,j,-⟩:=t.o
  exact Zbg j)
 have M:Hid ((Qk d).length<=1000000):=ZZ (by
  obtain⟨L,q,j,K,-⟩:=t.o;have E:=Zbt d d.waits.length;rw[Zdc] at E;have:=K.names;unfold Qk;rw[length_map]
  omega)
 clear h
 go_enter func74,ntmps74
 go_upto_region 1 with fail
 rw[<-i];clear i
 go_wp2_with fail
 refine z.o.mono ?_;rintro e y ⟨D,rfl,x,g⟩;have H:=ZZ (f.o.trans (g.mono f.o.size));have O:Hid (∀ W,Below b.heap.size y W->W.cell? ⟨w.heap.size,0,none⟩=some (.int .i64 first)):=ZZ (fun W m=>((u.o.keep ((m.block _ u.o.lt).trans (g.block _ u.o.lt))).cell 0 rfl).1)
 have C:=ZZ (Zis 111 w.heap.size (ZeL first) D (Qk d) b.heap.size y x (fun n k=>by
  have:=l.o n k
  exact⟨by omega,by omega⟩) g.size M.o (enters_of func111 (by kernel_rfl) rfl) (fun W n k m=>Zvb w.heap.size first n W (O.o W m) Q G (by have:=l.o n k;omega) (by have:=l.o n k;omega)))
 rw[<-Znv] at C
 obtain⟨V,Y,Z,J⟩:∃ a n c,D=.slice a n c:=by
  obtain⟨a,c,R⟩:=x.shape;exact⟨a,_,c,R⟩
 subst J;clear x g z
 go_wp2_with fail
 refine C.o.mono ?_;rintro e X ⟨U,rfl,A,B⟩;have S:=ZZ (A.mono f.o.size);have P:=ZZ (H.o.trans (B.mono f.o.size));clear A B;go_wp2;go_ret;exact⟨_,rfl,S.o,P.o⟩
theorem Zgn {L:ZdU} (first:Int) (w:World) (h:Jq M I w p pd L s) (b:Dsk F w pd d N T) (G:N<=1000000) (h1:2<=first) (A:first<=1000):
 Calls prog 50 #[ptr p,.int .i64 first] w fun e w'=>e=.returned (.int .i64 (Xs d first))∧Below w.heap.size w w':=by
 have H:=ZZ (Zcj first w b G (by omega) A)
 have m:Hid (∀ n ∈ Xk (Qk d) first,0<=n∧n<1048576):=ZZ (by
  obtain⟨L,K,u,-⟩:=b
  exact fun n j=>Zbg u n (List.mem_filter.1 j).1)
 have R:Hid ((Qk d).length<=1000000000):=ZZ (by
  obtain⟨L,K,u,Q,-⟩:=b;have z:=Zbt d d.waits.length;rw[Zdc] at z;have:=Q.names;unfold Qk;rw[length_map]
  omega)
 obtain⟨J,-⟩:=h.cs;have x:Hid (Xs d first=(Xk (Qk d) first).getD ((Xk (Qk d) first).length-1) (first-2)+2):=ZZ rfl
 have i:Hid (0<=(Xk (Qk d) first).getD ((Xk (Qk d) first).length-1) (first-2)∧(Xk (Qk d) first).getD ((Xk (Qk d) first).length-1) (first-2)<=1048576):=ZZ (by
  by_cases E:(Xk (Qk d) first).length=0
  ·rw[List.eq_nil_of_length_eq_zero E]
   show 0<=first-2∧first-2<=1048576;omega
  ·have P:(Xk (Qk d) first).getD ((Xk (Qk d) first).length-1) (first-2) ∈ Xk (Qk d) first:=by
    rw[show(Xk (Qk d) first).getD ((Xk (Qk d) first).length-1) (first-2)=(Xk (Qk d) first)[(Xk (Qk d) first).length-1]'(by omega) by simp[List.getD,show(Xk (Qk d) first).length-1<(Xk (Qk d) first).length by omega]]
    exact getElem_mem _
   have:=m.o _ P
   omega)
 clear h b;rw[x.o];have v:Hid ((Xk (Qk d) first).length<=1000000000):=ZZ (Nat.le_trans (List.length_filter_le _ _) R.o);generalize Xk (Qk d) first=l at *;obtain⟨y,g⟩:∃ y,y=l.getD (l.length-1) (first-2):=⟨_,rfl⟩;rw[<-g] at i ⊢;have B:=ZZ g;clear g
 go_enter func50,ntmps50
 go_wp2_with fail
 refine H.o.mono ?_;rintro e D ⟨U,rfl,f,k⟩;have C:=ZZ k
 have q:=ZZ (f.rd (fun n j=>by
  have:=m.o n j
  exact⟨by omega,by omega⟩))
 obtain⟨V,Y,c1,O⟩:∃ a n c,U=.slice a n c:=by
  obtain⟨a,c,S⟩:=f.shape;exact⟨a,_,c,S⟩
 subst O;have t:=ZZ (Zva _ l (first-2) D q.o v.o);rw[<-B.o] at t;have X:=i.o.1;have Z:=i.o.2;clear f k q J
 go_wp2_with fail
 refine t.o.mono ?_;rintro e W ⟨rfl,rfl⟩;go_wp2;go_ret;exact⟨rfl,C.o⟩
def ZzN:Q0 × Value × Value:=(Yb,.slice none 0 0,.slice none 0 0)
def Zck (l:List (Q0 × Value × Value)):Q0 × Value × Value:=l.getD (l.length-1) ZzN
theorem Zky {L:ZdU} (h:L.bs.map Prod.fst=s.bases):(Zck L.bs).1=s.base:=by
 unfold Zck Sto.base;rw[<-h,length_map];simp only [List.getD,List.getElem?_map]
 cases L.bs[L.bs.length-1]? <;> rfl
theorem Ziv {l:List (Q0 × Value × Value)} (h:l.length≠0):Zck l ∈ l:=by
 unfold Zck;rw[show l.getD (l.length-1) ZzN=l[l.length-1]'(by omega) by simp[List.getD,show l.length-1<l.length by omega]]
 exact getElem_mem _
theorem Zvc {l:List (Q0 × Value × Value)} (h:w.ownsRow 0 41 6 v l.length (Xv l)) (d:l.length≠0):
 ∃ g cap,v=.slice (some ⟨g,0,none⟩) l.length cap∧∀ k u,k<6->(snC (Zck l))[k]?=some u->w.cell? ⟨g,(l.length-1)*6+k,none⟩=some u:=by
 rcases h.2 with ⟨_,n⟩ | ⟨g,cap,cur,f,_,j,q,t,p,i⟩
 ·exact absurd n d
 ·refine⟨g,cap,f,fun k u m b=>?_⟩
  have c:l.length-1<l.length:=by omega
  have e:Zck l=l[l.length-1]:=by unfold Zck;simp[List.getD,c]
  rw[e] at b;rw[cell_of_row w g _ _ _ _ j];have a:=Ziq l (l.length-1) k c m;rw[b,<-i,List.getElem?_take] at a;rw[if_pos (by omega)] at a
  rw[<-Array.getElem?_toList];exact a
theorem Zvd (v:Value) (l:List (Q0 × Value × Value)) (w:World) (h:w.ownsRow 0 41 6 v l.length (Xv l)) (A:l.length≠0) (T:l.length<=1000000000) (G:∃ a n c a' n' c',(Zck l).2.1=.slice a n c∧(Zck l).2.2=.slice a' n' c'):
 Calls prog 78 #[v,.agg #[.int .i64 0,.int .i64 0,.slice none 0 0,.bool false,.int .i64 0,.slice none 0 0]] w fun e w'=>e=.returned (snV (Zck l))∧Below w.heap.size w w':=by
 obtain⟨g,cap,rfl,d⟩:=Zvc h A;obtain⟨x,P⟩:∃ x,x=Zck l:=⟨_,rfl⟩;rw[<-P] at d G ⊢;obtain⟨m,J⟩:∃ m,l.length=m+1:=⟨l.length-1,by omega⟩
 have K:l.length-1=m:=by omega
 rw[K] at d;obtain⟨⟨O,⟨kd,LL,u,y⟩,tb⟩,vl,vt⟩:=x;obtain⟨B,D,lc,L,F,E,N,z⟩:=G
 dsimp only at N z
 subst N z;have q:=d 0 _ (by decide) rfl
 have M:=d 1 _ (by decide) rfl
 have C:=d 2 _ (by decide) rfl
 have I:=d 3 _ (by decide) rfl
 have t:=d 4 _ (by decide) rfl
 have H:=d 5 _ (by decide) rfl
 have j:g<w.heap.size:=World.block_lt_of_cell? w ⟨g,m*6+0,none⟩ q;rw[J];have Q:((m+1:Nat):Int)≠0:=by omega
 have ab:((((m+1:Nat):Int)) == 0)=false:=beq_eq_false_iff_ne.2 Q;have aa:(m:Int)<=1000000000:=by omega
 obtain⟨b,k⟩:∃ b,b=(w.alloc (.cells #[.int .i64 0,.int .i64 0,.slice none 0 0,.bool false,.int .i64 0,.slice none 0 0] 41)).alloc (.cells #[.int .i64 0,.int .i64 0,.slice none 0 0,.bool false,.int .i64 0,.slice none 0 0] 41):=⟨_,rfl⟩;have f:Hid (Below w.heap.size w b):=ZZ (by rw[k];exact((Below.refl _ _).alloc zL _).alloc (by simp) _)
 have i:Hid (Bn b (w.heap.size+1) #[.int .i64 0,.int .i64 0,.slice none 0 0,.bool false,.int .i64 0,.slice none 0 0]):=ZZ (by rw[k];exact ZdR w _ _)
 have e0:b.cell? ⟨g,m*6,none⟩=some (.int .i64 O):=(f.o.cell (p:=⟨g,m*6,none⟩) j).trans q;have e1:b.cell? ⟨g,m*6+1,none⟩=some (.int .i64 kd):=(f.o.cell (p:=⟨g,m*6+1,none⟩) j).trans M;have Z:b.cell? ⟨g,m*6+2,none⟩=some (.slice B D lc):=(f.o.cell (p:=⟨g,m*6+2,none⟩) j).trans C;have e3:b.cell? ⟨g,m*6+3,none⟩=some (.bool u):=(f.o.cell (p:=⟨g,m*6+3,none⟩) j).trans I;have e4:b.cell? ⟨g,m*6+4,none⟩=some (.int .i64 y):=(f.o.cell (p:=⟨g,m*6+4,none⟩) j).trans t;have e5:b.cell? ⟨g,m*6+5,none⟩=some (.slice L F E):=(f.o.cell (p:=⟨g,m*6+5,none⟩) j).trans H;obtain⟨U,Y⟩:=i.o.cell 0;obtain⟨S,y1⟩:=i.o.cell 1;obtain⟨W,y2⟩:=i.o.cell 2;obtain⟨V,y3⟩:=i.o.cell 3;obtain⟨R,y4⟩:=i.o.cell 4;obtain⟨X,y5⟩:=i.o.cell 5;clear q M C I t H d h P J K A T
 go_enter func78,ntmps78
 go_upto_region 1 with fail
 rw[<-k];clear k;go_wp2;refine bodyPost_ret (v:=.agg #[.int .i64 O,.int .i64 kd,.slice B D lc,.bool u,.int .i64 y,.slice L F E]) (by simp[results,Tryz.results78,go_sem,U,S,W,V,R,X]) rfl ?_
 exact⟨rfl,Zbf f.o _ (by omega) _ _ _ _ _ _⟩
theorem SnR.shape (h:SnR w x):∃ a n c a' n' c',x.2.1=.slice a n c∧x.2.2=.slice a' n' c':=by
 obtain⟨a,c,b,-⟩:=h.l;obtain⟨a',c',d⟩:=h.t.shape;exact⟨a,_,c,a',_,c',b,d⟩
theorem ZqT {L:ZdU} (w:World) (h:Jq M I w p pd L s) (J:s.bases.length≠0) (P:s.bases.length<=1000000000):
 Calls prog 37 #[ptr p] w fun e w'=>e=.returned (snV (Zck L.bs))∧Below w.heap.size w w':=by
 have O:L.bs.length=s.bases.length:=by rw[<-h.bsEq,length_map]
 have z:=Ziv (l:=L.bs) (by omega)
 have j:=ZZ (h.base _ z);obtain⟨d,i⟩:∃ d,d=w.alloc (.cells #[.int .i64 0,.int .i64 0,.slice none 0 0,.bool false,.int .i64 0,.slice none 0 0] 41):=⟨_,rfl⟩;have t:Hid (Below w.heap.size w d):=ZZ (by rw[i];exact Jw _ _)
 have G:Hid (Bn d w.heap.size #[.int .i64 0,.int .i64 0,.slice none 0 0,.bool false,.int .i64 0,.slice none 0 0]):=ZZ (by rw[i];exact heap_alloc_new w _)
 have m:=ZZ (h.below t.o);obtain⟨-,-,-,-,u,-⟩:=m.o.cs;have f:=ZZ (Zvd L.bv L.bs d m.o.bases (by omega) (by omega) j.o.shape)
 obtain⟨Z,bn,bc,A⟩:∃ a n c,L.bv=.slice a n c:=by
  rcases h.bases.2 with ⟨q,_⟩ | ⟨g,cap,cur,q,_⟩
  ·exact⟨_,_,_,q⟩
  ·exact⟨_,_,_,q⟩
 rw[A] at u f;obtain⟨x,C⟩:∃ x,x=Zck L.bs:=⟨_,rfl⟩;rw[<-C] at f j ⊢;obtain⟨K,Q,lc,U,S,R,B,y⟩:=j.o.shape;obtain⟨⟨W,⟨kd,LL,E,F⟩,tb⟩,vl,vt⟩:=x
 dsimp only at B y
 subst B y;unfold snV snC at f ⊢
 dsimp only at f ⊢
 clear h A C z O J P m j
 go_enter func37,ntmps37
 go_upto_region 1 with fail
 rw[<-i];clear i
 go_wp2_with fail
 refine f.o.mono ?_;rintro e W1 ⟨rfl,k⟩;have H:=ZZ (t.o.trans (k.mono t.o.size));have b:=G.o.below k zL;obtain⟨T,y0⟩:=b.cell 0;obtain⟨N,y1⟩:=b.cell 1;obtain⟨X,y2⟩:=b.cell 2;obtain⟨V,y3⟩:=b.cell 3;obtain⟨D,y4⟩:=b.cell 4;obtain⟨Y,y5⟩:=b.cell 5;clear k b u;go_wp2;refine bodyPost_ret (v:=.agg #[.int .i64 W,.int .i64 kd,.slice K Q lc,.bool E,.int .i64 F,.slice U S R]) (by simp[results,Tryz.results37,go_sem,T,N,X,V,D,Y]) rfl ?_
 exact⟨rfl,Zbf H.o _ (by omega) _ _ _ _ _ _⟩
def ZyP (w:World) (s:Q0) (e:Ending) (w':World):Prop:=
 ∃ vl vt,e=.returned (snV (s,vl,vt))∧SnR w' (s,vl,vt)∧(∀ b,vl.ownBlock=some b->w.heap.size<=b)∧(∀ b,vt.ownBlock=some b->w.heap.size<=b)∧Below w.heap.size w w'
theorem ZsA (x:Q0 × Value × Value) (w:World) (hx:SnR w x) (H:x.1.st.L.length<=1000000) (G:x.1.tab.length<=1000000):
 Calls prog 47 #[snV x] w fun e w'=>ZyP w x.1 e w':=by
 obtain⟨⟨idx,⟨kind,L,t,z⟩,k⟩,vl,vt⟩:=x;obtain⟨u,q,p,n,m⟩:=hx
 dsimp only at u q p n m H G ⊢
 obtain⟨T,lc,rfl,-⟩:=id u;obtain⟨ta,tc,rfl⟩:=q.shape;have ab:=ZZ (fun W (h:Below w.heap.size w W)=>ZfI _ L W (u.below h zL) H)
 have Q:=ZZ (fun W (h:Below w.heap.size w W)=>ZfJ _ k W (q.below h zL) G)
 have F:=ZZ u.i64;have P:∀ e ∈ k,Zlx e:=q.choose_spec.choose_spec.2.2.2.2.1;have aa:=ZZ P;obtain⟨d,l⟩:∃ d,d=(w.alloc (.cells #[.int .i64 idx,.int .i64 kind,.slice T L.length lc,.bool t,.int .i64 z,.slice ta k.length tc] 41)).alloc (.cells #[.int .i64 0,.int .i64 0,.slice none 0 0,.bool false,.int .i64 0,.slice none 0 0] 41):=⟨_,rfl⟩;have j:Hid (Below w.heap.size w d):=ZZ (by rw[l];exact((Below.refl _ _).alloc zL _).alloc (by simp) _)
 have f:Hid (Bn d w.heap.size #[.int .i64 idx,.int .i64 kind,.slice T L.length lc,.bool t,.int .i64 z,.slice ta k.length tc]):=ZZ (by rw[l];exact(Below.heap_alloc _ _ _ (by simp)).trans (heap_alloc_new w _))
 have S:Hid (Bn d (w.heap.size+1) #[.int .i64 0,.int .i64 0,.slice none 0 0,.bool false,.int .i64 0,.slice none 0 0]):=ZZ (by rw[l];exact ZdR w _ _)
 have ae:d.heap.size=w.heap.size+2:=by rw[l];simp
 unfold snV snC
 dsimp only
 clear u q P H G
 go_enter func47,ntmps47
 go_upto_region 1 with fail
 rw[<-l];clear l;obtain⟨R,g2⟩:=f.o.cell 2;obtain⟨O,g5⟩:=f.o.cell 5
 go_cut[] (fun wc=>Hid (Znt w ⟨idx,⟨kind,L,t,z⟩,k⟩ wc))
 case first=>
  go_region_with
   (first
    | (go_at_call 39;refine(ab.o _ (by first | exact j.o.drew | exact j.o)).mono ?_;rintro e W1 ⟨v1,rfl,J,K⟩;have B:Below d.heap.size d W1:=(by first | exact((Below.refl _ _).drew).trans K | exact K);have ai:=ZZ J;have A:=ZZ B;obtain⟨a1,c1,af⟩:∃ a c,v1=.slice a L.length c:=(by obtain⟨a,c,h,-⟩:=J.rd F.o;exact⟨a,c,h⟩);subst af;obtain⟨q2,k2⟩:=(f.o.below B zL).cell 2;obtain⟨q5,k5⟩:=(f.o.below B zL).cell 5;clear J K B)
    | (go_at_call 40;refine(Q.o _ (j.o.trans (A.o.mono j.o.size))).mono ?_;rintro e W2 ⟨v2,rfl,E,I⟩;have aj:=ZZ E;have y:=ZZ (A.o.trans (I.mono A.o.size));have ag:=ZZ (ai.o.below I zL);obtain⟨a2,c2,ad⟩:=E.shape;subst ad;obtain⟨r2,j2⟩:=(f.o.below y.o zL).cell 2;obtain⟨r5,j5⟩:=(f.o.below y.o zL).cell 5;clear E I))
  all_goals
   go_wp2_with fail
   go_meet
   exact ZZ (Zii (f.o.below y.o zL) (S.o.below y.o zL) (ag.o.mono (by first | omega | (show w.heap.size+2<=d.heap.size;omega))) F.o (aj.o.mono (by have:=A.o.size;omega)) aa.o m p n (j.o.trans (y.o.mono j.o.size)))
 case rest=>
  have ac:=hcut;clear hcut j f S ae R g2 O g5 ab Q F aa d p n m;obtain⟨W,rfl⟩:∃ W,W=wc:=⟨_,rfl⟩;obtain⟨sa,sc,Y,X,i,g,hL,V,hE,N,m,p,n,hB⟩:=ac.o;have HY:=ZZ g;have HL:=ZZ hL;have M:=ZZ V;have D:=ZZ hE;have Z:=ZZ N;have C:=ZZ (And.intro m (And.intro p n));have HB:=ZZ hB
  dsimp only at i HL M D Z C
  obtain⟨p0,g0⟩:=i.cell 0;obtain⟨p1,g1⟩:=i.cell 1;obtain⟨R,g2⟩:=i.cell 2;obtain⟨p3,g3⟩:=i.cell 3;obtain⟨p4,g4⟩:=i.cell 4;obtain⟨O,g5⟩:=i.cell 5;obtain⟨z0,y0⟩:=g.cell 0;obtain⟨z1,y1⟩:=g.cell 1;obtain⟨z2,y2⟩:=g.cell 2;obtain⟨z3,y3⟩:=g.cell 3;obtain⟨z4,y4⟩:=g.cell 4;obtain⟨z5,y5⟩:=g.cell 5;have ak:¬ (w.heap.size=w.heap.size+1):=by omega
  clear i g hL V hE N m p n hB ac;go_wp2;refine bodyPost_ret (v:=.agg #[.int .i64 idx,.int .i64 kind,.slice sa L.length sc,.bool t,.int .i64 z,.slice Y k.length X]) (by simp[results,Tryz.results47,go_sem,z0,z1,z2,z3,z4,z5]) rfl ?_
  have U:=ZqQ W (w.heap.size+1) (.int .i64 idx) (.int .i64 kind) (.slice sa L.length sc) (.bool t) (.int .i64 z) (.slice Y k.length X);exact⟨_,_,rfl,⟨HL.o.but U (.inr fun b h=>by have:=M.o b h;omega),(D.o.rd Z.o).but U (.inr fun b h=>by have:=D.o.fresh b h;omega),C.o.2.1,C.o.2.2,C.o.1⟩,fun b h=>by have:=M.o b h;omega,fun b h=>by have:=D.o.fresh b h;omega,ZeF HB.o _ (by omega) _ _ _ _ _ _⟩
theorem ZyQ:(prog.info? 108).map (fun i=>(i.zero,i.size,i.bytes))=some (some (.agg #[.int .i64 0,.int .i64 0,.int .i64 0]),3,24):=by kernel_rfl
theorem ZlL (w:World) (ty:TypeId) (v:Value) (l:List Pce) (h:w.ownsRow 0 108 3 v l.length (Q6 l)) (c:Pce) (n:l.length<=10000000):
 ∃ v' w',(Builtin.append_ #[71,71] ty #[v,.slice (some ⟨w.heap.size,0,none⟩) 1 1]).run prog (w.alloc (.cells (pcC c) 108))=.ok v' w'∧
  w'.ownsRow 0 108 3 v' (l++[c]).length (Q6 (l++[c]))∧(w.alloc (.cells (pcC c) 108)).grownBy w' v.ownBlock∧(v'.ownBlock=v.ownBlock∨v'.ownBlock=some (w.heap.size+1)):=by
 obtain⟨g,d,i,b,k⟩:=info_parts ZyQ
 obtain⟨v',w',m,e,f,_,hl⟩:=run_append_own_at (P:=prog) (w.alloc (.cells (pcC c) 108)) 0 71 ty 108 g _ 3 24 underlying71 d i b k rfl (by decide) v l.length (Q6 l) (World.ownsRow.alloc h _)
  ⟨w.heap.size,0,none⟩ 1 1 (Q6 [c]) (Zas [c]) (fun j u a=>by
   rw[Addr.add_lit,Nat.zero_add,cell_of_row _ w.heap.size j _ 108 (0,0) (heap_alloc_new w _)]
   simpa[Q6] using a) (ZpD [c]) (by unfold maxLen;omega) (by omega) (Nat.zero_le _)
 refine⟨v',w',m,?_,f,?_⟩
 ·rw[length_append,Zio]
  exact e
 ·rcases hl with hl | hl
  ·exact .inl hl
  ·exact .inr (by rw[hl];simp)
theorem Zaa (w:World) {b:Array Oper} {rest:List Oper} {o:Oper} {a:Act} {Q:Exit->Act->World->Prop} (m:o.guard=none) (s x:Operand)
 (k:o.op=.call { callee:=.builtin .append,args:=#[s,x],argTypes:=#[71,71] })
 (v:Value) (l:List Pce) (n:a.eval s=v) (h:w.ownsRow 0 108 3 v l.length (Q6 l)) (c:Pce) (p:a.eval x=.slice (some ⟨w.heap.size,0,none⟩) 1 1) (j:l.length<=10000000)
 (f:∀ v' w',w'.ownsRow 0 108 3 v' (l++[c]).length (Q6 (l++[c]))->(w.alloc (.cells (pcC c) 108)).grownBy w' v.ownBlock->(v'.ownBlock=v.ownBlock∨v'.ownBlock=some (w.heap.size+1))->
  wpList prog b Q rest (a.put o.dst v') w'):wpList prog b Q (o::rest) a (w.alloc (.cells (pcC c) 108)):=
 wpList_plain m fun _ d=>by
  obtain⟨v',w',q,g,i,e⟩:=ZlL w o.type v l h c j;unfold Oper.wp execOp;simp only [k,resolve,invoke,builtin,Sem.run_bind,Sem.run_pure,Result.andThen_ok,map_toArray,map_cons,map_nil,n,p,q];exact d _ _ (f v' w' g i e)
theorem Ziw (w:World) (ty:TypeId) (v:Value) (b:List Rec) (d:Xj w 0 v b) (g:Value) (l:List Rec) (j:RdR w g l) (y:b.length+l.length<=10000000):
 ∃ v' w',(Builtin.append_ #[29,29] ty #[v,g]).run prog w=.ok v' w'∧Xj w' 0 v' (b++l)∧w.grownBy w' v.ownBlock∧(v'.ownBlock=v.ownBlock∨v'.ownBlock=some w.heap.size):=by
 obtain⟨i,f,u,m,x⟩:=info_parts Zdg;obtain⟨ao,cap,rfl,A,z,k,_,t⟩:=j
 cases ao with
 | none=>
  have p:=k rfl;subst p;have c:l=[]:=List.eq_nil_of_length_eq_zero (by omega)
  subst c;have e:=run_append_owned_none (P:=prog) w 0 29 ty 62 i 7 underlying29 f v b.length (Qt b) d;exact⟨v,w,e,by rw[append_nil];exact d,⟨rfl,rfl,rfl,Nat.le_refl _,fun _ _ _=>rfl⟩,.inl rfl⟩
 | some a=>
  obtain⟨v',w',e,n,q,_,c⟩:=run_append_own_at (P:=prog) w 0 29 ty 62 i _ 7 56 underlying29 f u m x rfl (by decide) v b.length (Qt b) d a l.length cap (Qt l)
   (Zl l) (RdR.cells t a rfl) (Zbw l) (by unfold maxLen;omega) (by omega) (Nat.zero_le _)
  refine⟨v',w',e,?_,q,c⟩;unfold Xj;rw[length_append,ZaA];exact n
theorem Zby (w:World) {d:Array Oper} {rest:List Oper} {o:Oper} {a:Act} {Q:Exit->Act->World->Prop} (p:o.guard=none) (s x:Operand)
 (m:o.op=.call { callee:=.builtin .append,args:=#[s,x],argTypes:=#[29,29] })
 (v:Value) (b:List Rec) (q:a.eval s=v) (n:Xj w 0 v b) (c:Value) (l:List Rec) (t:a.eval x=c) (e:RdR w c l) (k:b.length+l.length<=10000000)
 (h:∀ v' w',Xj w' 0 v' (b++l)->w.grownBy w' v.ownBlock->(v'.ownBlock=v.ownBlock∨v'.ownBlock=some w.heap.size)->wpList prog d Q rest (a.put o.dst v') w'):wpList prog d Q (o::rest) a w:=
 wpList_plain p fun _ g=>by
  obtain⟨v',w',u,i,j,f⟩:=Ziw w o.type v b n c l e k;unfold Oper.wp execOp;simp only [m,resolve,invoke,builtin,Sem.run_bind,Sem.run_pure,Result.andThen_ok,map_toArray,map_cons,map_nil,q,t,u];exact g _ _ (h v' w' i j f)
theorem X0 {s:Nat} (h:w.ownsRow base t s v n xs) {g:Nat} (a:v.ownBlock=some g):∃ cs,Bk t w g cs:=by
 rcases h.2 with ⟨b,_⟩ | ⟨g',cap,cur,b,_,c,_⟩
 ·rw[b] at a;cases a
 ·rw[b] at a
  obtain rfl:g'=g:=by simpa[Value.ownBlock] using a
  exact⟨_,c⟩
theorem Z8 {s:Nat} (h:w.ownsRow base t s v n xs):∃ a c,v=.slice a n c:=by
 rcases h.2 with ⟨b,d⟩ | ⟨g',cap,cur,b,_⟩
 ·exact⟨_,_,by rw[b,d]⟩
 ·exact⟨_,_,b⟩
structure Zix (t:TypeId) (w:World) (b o:Nat) (cs:Array Value) (rv pv:Value) (g:Lgb):Prop where
 blk:Bk t w b cs
 c0:cs[o]?=some (.int .i64 g.first)
 c1:cs[o+1]?=some rv
 c2:cs[o+2]?=some pv
 recs:Xj w 0 rv g.recs
 pcs:w.ownsRow 0 108 3 pv g.pcs.length (Q6 g.pcs)
def ZjN (b:Nat) (rv pv:Value) (k:Nat):Prop:=k=b∨rv.ownBlock=some k∨pv.ownBlock=some k
theorem Zix.neR {cs:Array Value} (h:Zix t w b o cs rv pv g) (a:t≠62):rv.ownBlock≠some b:=fun e=>by
 obtain⟨d,c⟩:=X0 h.recs e;exact(h.blk.ne c a) rfl
theorem Zix.neP {cs:Array Value} (h:Zix t w b o cs rv pv g) (a:t≠108):pv.ownBlock≠some b:=fun e=>by
 obtain⟨d,c⟩:=X0 h.pcs e;exact(h.blk.ne c a) rfl
theorem Zix.neRP {cs:Array Value} (h:Zix t w b o cs rv pv g):∀ k,rv.ownBlock=some k->pv.ownBlock≠some k:=fun k e d=>by
 obtain⟨i,c⟩:=X0 h.recs e;obtain⟨f,a⟩:=X0 h.pcs d;exact(c.ne a (by decide)) rfl
theorem Zix.below {cs:Array Value} (h:Zix t w b o cs rv pv g) (a:Below w.heap.size w w'):Zix t w' b o cs rv pv g:=
 ⟨h.blk.keep (a.block b h.blk.lt),h.c0,h.c1,h.c2,h.recs.below a zL,Qh h.pcs fun g d=>a.block g (by
  obtain⟨e,c⟩:=X0 h.pcs d
  exact c.lt)⟩
def ZeM (t:TypeId) (w:World) (b o:Nat) (cs:Array Value) (rv pv:Value) (g:Lgb) (w':World):Prop:=
 ∃ rv' pv',Zix t w' b o (((cs.setIfInBounds o (.int .i64 g.first)).setIfInBounds (o+1) rv').setIfInBounds (o+2) pv') rv' pv' g∧Ql (ZjN b rv pv) w w'∧
  (∀ k,ZjN b rv' pv' k->ZjN b rv pv k∨w.heap.size<=k)
theorem ZeM.more {a d:World} {cs:Array Value} (h:ZeM t w b o cs rv pv g a) (c:Below a.heap.size a d):ZeM t w b o cs rv pv g d:=by
 obtain⟨j,l,k,f,e⟩:=h;exact⟨j,l,k.below c,f.trans (G:=fun _=>False) (Ql.ofBelow c) (fun _ _ i=>i.elim),e⟩
theorem ZeN {cs:Array Value} {x:Value} (h:cs[j]?=some x):cs.setIfInBounds j x=cs:=by
 apply Array.ext_getElem?;intro i;rw[Array.getElem?_setIfInBounds];by_cases e:j=i
 ·subst e
  have a:j<cs.size:=(Array.getElem?_eq_some_iff.1 h).1;rw[if_pos rfl,if_pos a,h]
 ·simp[e]
theorem Zkz (t:TypeId) (Z:t≠62) (R:t≠108) (b o:Nat) (cs:Array Value) (rv pv:Value) (g:Lgb) (name first:Int) (w:World) (h:Zix t w b o cs rv pv g) (ag:g.pcs.length<=1000000):
 Calls prog 53 #[.pointer (some ⟨b,o,none⟩),.int .i64 name,.int .i64 first] w fun e w'=>e=.returned (.tuple #[])∧ZeM t w b o cs rv pv (g.start name first) w':=by
 obtain⟨H,N,A⟩:=Z8 h.pcs
 -- the world ahead of the append
 obtain⟨a,q⟩:∃ a,a=if g.pcs.length=0 then w.setCell ⟨b,o,none⟩ (.int .i64 first) else w:=⟨_,rfl⟩
 obtain⟨m,n⟩:∃ m,m=if g.pcs.length=0 then cs.setIfInBounds o (.int .i64 first) else cs:=⟨_,rfl⟩
 have ab:a.heap.size=w.heap.size:=by
  rw[q];split
  ·simp
  ·rfl
 have E:∀ k,k≠b->a.heap[k]?=w.heap[k]?:=fun k hk=>by
  rw[q];split
  ·exact Below.heap_setCell _ _ _ _ hk
  ·rfl
 have S:Ql (ZjN b rv pv) w a:=by
  rw[q];split
  ·exact(Ql.refl _ _).setCell o (fun _=>.inl rfl) _
  ·exact Ql.refl _ _
 have U:Bk t a b m:=by
  rw[q,n];split
  ·exact h.blk.set o _
  ·exact h.blk
 have T:g.start name first=⟨if g.pcs.length=0 then first else g.first,g.recs,g.pcs++[(⟨name,first,first⟩:Pce)]⟩:=rfl
 have c:Zix t a b o m rv pv ⟨if g.pcs.length=0 then first else g.first,g.recs,g.pcs⟩:=by
  refine⟨U,?_,?_,?_,Qh h.recs fun k hk=>E k (fun e=>h.neR Z (by subst e;exact hk)),Qh h.pcs fun k hk=>E k (fun e=>h.neP R (by subst e;exact hk))⟩
  ·rw[n]
   have O:o<cs.size:=(Array.getElem?_eq_some_iff.1 h.c0).1;split
   ·simp[O]
   ·exact h.c0
  ·rw[n]
   split
   ·rw[Array.getElem?_setIfInBounds,if_neg (by omega)]
    exact h.c1
   ·exact h.c1
  ·rw[n]
   split
   ·rw[Array.getElem?_setIfInBounds,if_neg (by omega)]
    exact h.c2
   ·exact h.c2
 have K:Hid (∀ d f,f.ownsRow 0 108 3 d (g.pcs++[(⟨name,first,first⟩:Pce)]).length (Q6 (g.pcs++[(⟨name,first,first⟩:Pce)]))->(a.alloc (.cells (pcC ⟨name,first,first⟩) 108)).grownBy f pv.ownBlock->(d.ownBlock=pv.ownBlock∨d.ownBlock=some (a.heap.size+1))->
  ZeM t w b o cs rv pv (g.start name first) (f.setCell ⟨b,o+2,none⟩ d)∧f.cell? ⟨b,o+2,none⟩=some pv∧f.frozen? ⟨b,o+2,none⟩=false):=ZZ (fun d f i l hv=>by
  have W:∀ k,k<a.heap.size->pv.ownBlock≠some k->f.heap[k]?=a.heap[k]?:=fun k hk aa=>by
   rw[l.block k (by simp;omega) (fun e=>aa e.symm),Below.heap_alloc _ _ _ hk]
  have C:Bk t f b m:=c.blk.keep (W b c.blk.lt (c.neP R));have ai:a.heap.size+1<=f.heap.size:=by have:=l.size;simpa using this
  have af:((cs.setIfInBounds o (.int .i64 (g.start name first).first)).setIfInBounds (o+1) rv).setIfInBounds (o+2) d=m.setIfInBounds (o+2) d:=by
   congr 1
   rw[T,n]
   dsimp only
   by_cases j:g.pcs.length=0
   ·rw[if_pos j,if_pos j]
    exact ZeN (by rw[Array.getElem?_setIfInBounds,if_neg (by omega)];exact h.c1)
   ·rw[if_neg j,if_neg j,ZeN h.c0,ZeN h.c1]
  have ae:d.ownBlock≠some b:=fun e=>by
   obtain⟨ac,Q⟩:=X0 i e;exact(C.ne Q R) rfl
  refine⟨⟨rv,d,?_,?_,?_⟩,(C.cell _ c.c2).1,(C.cell _ c.c2).2⟩
  ·rw[af]
   have O:o+2<m.size:=(Array.getElem?_eq_some_iff.1 c.c2).1;refine⟨C.set _ _,?_,?_,by simp[O],Qh c.recs fun k hk=>?_,Qh i fun k hk=>Below.heap_setCell _ _ _ _ (fun e=>ae (by subst e;exact hk))⟩
   ·rw[Array.getElem?_setIfInBounds,if_neg (by omega)]
    exact c.c0
   ·rw[Array.getElem?_setIfInBounds,if_neg (by omega)]
    exact c.c1
   ·obtain⟨ac,Q⟩:=X0 c.recs hk
    rw[Below.heap_setCell _ _ _ _ (fun e=>c.neR Z (by subst e;exact hk)),W k Q.lt (c.neRP k hk)]
  ·refine(S.trans (G:=ZjN b rv pv) ?_ (fun _ _ J=>J)).setCell _ (fun _=>.inl rfl) _
   exact((Ql.refl _ a).alloc _).trans (Ql.ofGrown (F:=ZjN b rv pv) l fun k e _=>.inr (.inr e)) (fun _ _ J=>J)
  ·intro k hk
   rcases hk with hk | hk | hk
   ·exact .inl (.inl hk)
   ·exact .inl (.inr (.inl hk))
   ·rcases hv with hv | hv
    ·exact .inl (.inr (.inr (by rw[<-hv];exact hk)))
    ·rw[hv] at hk
     have:=Option.some.inj hk
     exact .inr (by omega))
 have P:Hid (a.ownsRow 0 108 3 (.slice H g.pcs.length N) g.pcs.length (Q6 g.pcs)):=ZZ (by rw[<-A];exact c.pcs)
 have X:Hid (g.pcs.length<=10000000):=ZZ (by omega)
 have p:=ZZ A;have I:=(h.blk.cell _ h.c2).1;have B:=(h.blk.cell _ h.c0);obtain⟨B,Y⟩:=B;have D:=(c.blk.cell _ c.c2).1;rw[A] at I D;have V:=ZZ q;have aj:(g.pcs.length:Int)<=1000000:=by omega
 clear A c U E S ab T n h q;by_cases j:g.pcs.length=0
 ·have ad:((g.pcs.length:Int) == 0)=true:=by rw[beq_iff_eq];omega
  have z:Hid (a=w.setCell ⟨b,o,none⟩ (.int .i64 first)):=ZZ (by rw[V.o,if_pos j])
  clear j
  go_enter func53,ntmps53
  go_upto_region 2 with fail
  rw[<-z.o];clear z B Y I
  go_wp2_with(at_builtin;refine(fun(h:True->_)=>h trivial) ?_)
  intro _;refine Zaa a rfl _ _ rfl (.slice H g.pcs.length N) g.pcs rfl P.o (⟨name,first,first⟩:Pce) rfl X.o ?_;intro d f i l hv;obtain⟨y,L,s2⟩:=K.o d f i (by rw[p.o];exact l) (by rw[p.o];exact hv)
  rw[p.o] at L;have M:=ZZ y;obtain⟨a9,c9,v⟩:=Z8 i;obtain⟨x,u⟩:∃ x,x=(g.pcs++[(⟨name,first,first⟩:Pce)]).length:=⟨_,rfl⟩;rw[<-u] at v;subst v;clear y i l hv u D;go_wp2;go_end0;exact⟨rfl,M.o⟩
 ·have ad:((g.pcs.length:Int) == 0)=false:=beq_eq_false_iff_ne.2 (by omega)
  have z:Hid (a=w):=ZZ (by rw[V.o,if_neg j])
  clear j B Y D;rw[z.o] at K P
  go_enter func53,ntmps53
  go_wp2_with(at_builtin;refine(fun(h:True->_)=>h trivial) ?_)
  intro _;refine Zaa w rfl _ _ rfl (.slice H g.pcs.length N) g.pcs rfl P.o (⟨name,first,first⟩:Pce) rfl X.o ?_;intro d f i l hv;obtain⟨y,L,s2⟩:=K.o d f i (by rw[p.o];exact l) (by rw[p.o];exact hv)
  rw[p.o] at L;have M:=ZZ y;obtain⟨a9,c9,v⟩:=Z8 i;obtain⟨x,u⟩:∃ x,x=(g.pcs++[(⟨name,first,first⟩:Pce)]).length:=⟨_,rfl⟩;rw[<-u] at v;subst v;clear y i l hv u I;go_wp2;go_end0;exact⟨rfl,M.o⟩
theorem Ziy:∀ (l:List Pce) (j:Nat) (p:Pce),j<l.length->Q6 (l.set j p)=((((Q6 l).set (j*3) (.int .i64 p.name)).set (j*3+1) (.int .i64 p.first)).set (j*3+2) (.int .i64 p.stop))
 | c::l,0,p,_=>by
  rw[List.set_cons_zero,Q6,Q6];rfl
 | c::l,j+1,p,hj=>by
  have a:=Ziy l j p (by simpa using hj)
  rw[List.set_cons_succ,Q6,a,Q6];have e:(j+1)*3=(j*3)+1+1+1:=by omega
  rw[e];rfl
theorem Znw {l:List Pce} (h:w.ownsRow 0 108 3 v l.length (Q6 l)) (j:Nat) (f:j<l.length) (x:Int):
 ∃ g cap,v=.slice (some ⟨g,0,none⟩) l.length cap∧g<w.heap.size∧l.length<=cap∧w.cell? ⟨g,j*3+2,none⟩=some (.int .i64 (l.getD j Zj).stop)∧w.frozen? ⟨g,j*3+2,none⟩=false∧
  (w.setCell ⟨g,j*3+2,none⟩ (.int .i64 x)).ownsRow 0 108 3 v l.length (Q6 (l.set j ⟨(l.getD j Zj).name,(l.getD j Zj).first,x⟩)):=by
 rcases h.2 with ⟨_,D⟩ | ⟨g,cap,cur,p,z,a,t,A,m,q⟩
 ·omega
 ·have e:∀ k,k<3->cur[j*3+k]?=(pcC (l.getD j Zj))[k]?:=fun k B=>by
   have b:=Zci l j k f B;rw[<-q,List.getElem?_take,if_pos (by omega),Array.getElem?_toList] at b
   exact b
  refine⟨g,cap,p,(Array.getElem?_eq_some_iff.1 a).1,t,?_,frozen_of_row w g _ _ _ a,?_,.inr ⟨g,cap,cur.setIfInBounds (j*3+2) (.int .i64 x),p,z,heap_setCell_same w g _ _ _ _ a,t,A,by simpa using m,?_⟩⟩
  ·rw[cell_of_row w g _ _ _ _ a]
   exact e 2 (by decide)
  ·rw[Zas,length_set]
  ·rw[Ziy l j _ f]
   have n:=e 0 (by decide)
   have b:=e 1 (by decide)
   rw[<-q];apply List.ext_getElem?;intro i;rw[List.getElem?_take];by_cases d:i<l.length*3
   ·rw[if_pos d,Array.getElem?_toList,Array.getElem?_setIfInBounds]
    simp only [List.getElem?_set,length_set,length_take,Array.length_toList,List.getElem?_take,d,if_true,Array.getElem?_toList];have C:cur.size=cap*3:=m;by_cases c:j*3+2=i
    ·subst c
     rw[if_pos rfl,if_pos rfl,if_pos (by omega),if_pos (by omega)]
    ·rw[if_neg c,if_neg c]
     by_cases u:j*3+1=i
     ·subst u
      rw[if_pos rfl,if_pos (by omega),b]
      rfl
     ·rw[if_neg u]
      by_cases y:j*3=i
      ·subst y
       rw[if_pos rfl,if_pos (by omega)]
       rw[Nat.add_zero] at n;rw[n];rfl
      ·rw[if_neg y]
   ·rw[if_neg d,List.getElem?_eq_none (by simp;omega)]
theorem Zve (t:TypeId) (W:t≠62) (al:t≠108) (b o:Nat) (cs:Array Value) (rv pv:Value) (g:Lgb) (O:Value) (l:List Rec) (w:World) (h:Zix t w b o cs rv pv g) (D:RdR w O l) (ac:g.pcs.length≠0) (ax:g.pcs.length<=1000000) (V:g.recs.length+l.length<=10000000)
 (S:∀ p ∈ g.pcs,0<=p.stop∧p.stop<=4611686018427387904):
 Calls prog 54 #[.pointer (some ⟨b,o,none⟩),O] w fun e w'=>e=.returned (.tuple #[])∧ZeM t w b o cs rv pv (g.add l) w':=by
 obtain⟨la,lc,rfl,-⟩:=id D;obtain⟨P,M,B⟩:=h.recs.shape;obtain⟨m,A⟩:∃ m,g.pcs.length=m+1:=⟨g.pcs.length-1,by omega⟩
 obtain⟨i,C⟩:∃ i,i=(g.pcs.getD m Zj).stop:=⟨_,rfl⟩
 have av:0<=i∧i<=4611686018427387904:=by
  rw[C];refine S _ ?_;rw[show g.pcs.getD m Zj=g.pcs[m]'(by omega) by simp[List.getD,show m<g.pcs.length by omega]]
  exact getElem_mem _
 obtain⟨j,Z,y,N,az,-,-,-⟩:=Znw h.pcs m (by omega) 0
 -- behind the append,and the store of the records
 have an:Hid (∀ d f,Xj f 0 d (g.recs++l)->w.grownBy f rv.ownBlock->(d.ownBlock=rv.ownBlock∨d.ownBlock=some w.heap.size)->
  (f.cell? ⟨b,o+1,none⟩=some rv∧f.frozen? ⟨b,o+1,none⟩=false)∧
  ((f.setCell ⟨b,o+1,none⟩ d).cell? ⟨b,o+2,none⟩=some pv∧(f.setCell ⟨b,o+1,none⟩ d).cell? ⟨j,m*3+2,none⟩=some (.int .i64 i)∧(f.setCell ⟨b,o+1,none⟩ d).frozen? ⟨j,m*3+2,none⟩=false)∧
  ZeM t w b o cs rv pv (g.add l) (((f.setCell ⟨b,o+1,none⟩ d)).setCell ⟨j,m*3+2,none⟩ (.int .i64 (i+l.length)))):=ZZ (fun d f q x hv=>by
  have T:∀ k,k<w.heap.size->rv.ownBlock≠some k->f.heap[k]?=w.heap[k]?:=fun k hk aa=>x.block k hk (fun e=>aa e.symm)
  have z:Bk t f b cs:=h.blk.keep (T b h.blk.lt (h.neR W));have v:pv.ownBlock=some j:=by rw[y];rfl
  have G:j≠b:=fun e=>h.neP al (by rw[v,e])
  have aj:rv.ownBlock≠some j:=fun e=>h.neRP j e v
  have X:(f.setCell ⟨b,o+1,none⟩ d).ownsRow 0 108 3 pv g.pcs.length (Q6 g.pcs):=Qh h.pcs fun k hk=>by
   have e:k=j:=by rw[v] at hk;exact(Option.some.inj hk).symm
   subst e;rw[Below.heap_setCell _ _ _ _ G,T _ N aj]
  obtain⟨g',aB,J,-,-,Y,ae,af⟩:=Znw X m (by omega) (i+l.length)
  have eg:g'=j:=by
   rw[y] at J
   injection J with u _ _
   injection u with u
   injection u with u
   exact u.symm
  subst eg;rw[<-C] at Y
  have aq:d.ownBlock≠some b:=fun e=>by
   obtain⟨ag,I⟩:=X0 q e;exact(z.ne I W) rfl
  have ay:d.ownBlock≠some g':=fun e=>by
   obtain⟨ag,I⟩:=X0 q e;obtain⟨ao,aw⟩:=X0 X v
   have au:Bk 108 f g' ao:=by
    have:=aw;unfold Bk at this ⊢;rw[Below.heap_setCell _ _ _ _ G] at this;exact this
   exact(I.ne au (by decide)) rfl
  refine⟨⟨(z.cell _ h.c1).1,(z.cell _ h.c1).2⟩,⟨?_,Y,ae⟩,d,pv,?_,?_,?_⟩
  ·refine((z.set (o+1) d).cell _ ?_).1
   rw[Array.getElem?_setIfInBounds,if_neg (by omega)]
   exact h.c2
  ·have ar:((cs.setIfInBounds o (.int .i64 (g.add l).first)).setIfInBounds (o+1) d).setIfInBounds (o+2) pv=cs.setIfInBounds (o+1) d:=by
    have u:(g.add l).first=g.first:=rfl;rw[u,ZeN h.c0];exact ZeN (by rw[Array.getElem?_setIfInBounds,if_neg (by omega)];exact h.c2)
   rw[ar];have ap:o+1<cs.size:=(Array.getElem?_eq_some_iff.1 h.c1).1;refine⟨(z.set _ _).other _ _ _ (fun e=>G e.symm),?_,by simp[ap],?_,Qh q fun k hk=>?_,?_⟩
   ·rw[Array.getElem?_setIfInBounds,if_neg (by omega)]
    exact h.c0
   ·rw[Array.getElem?_setIfInBounds,if_neg (by omega)]
    exact h.c2
   ·rw[Below.heap_setCell _ _ _ _ (fun e=>ay (by subst e;exact hk)),Below.heap_setCell _ _ _ _ (fun e=>aq (by subst e;exact hk))]
   ·have e3:(g.add l).pcs=g.pcs.set m ⟨(g.pcs.getD m Zj).name,(g.pcs.getD m Zj).first,i+l.length⟩:=by
     show Zc g.pcs l.length=_;unfold Zc;rw[A,Nat.add_sub_cancel,<-C]
    rw[e3,length_set];exact af
  ·exact((Ql.ofGrown (F:=ZjN b rv pv) x fun k e _=>.inr (.inl e)).setCell _ (fun _=>.inl rfl) _).setCell _ (fun _=>.inr (.inr v)) _
  ·intro k hk
   rcases hk with hk | hk | hk
   ·exact .inl (.inl hk)
   ·rcases hv with hv | hv
    ·exact .inl (.inr (.inl (by rw[<-hv];exact hk)))
    ·rw[hv] at hk
     have:=Option.some.inj hk;exact .inr (by omega)
   ·exact .inl (.inr (.inr hk)))
 have aA:Hid (Xj w 0 (.slice P g.recs.length M) g.recs):=ZZ (by rw[<-B];exact h.recs)
 have ad:=ZZ D;have E:=ZZ B;have aG:=ZZ y;have ak:=ZZ V;obtain⟨K,-⟩:=h.blk.cell _ h.c1;rw[B] at K;have hw:IntKind.i64.wrap (i+(l.length:Int))=i+l.length:=by rw[IntKind.wrap_i64];omega
 have aH:(m:Int)<=1000000:=by omega
 have am:g.pcs.length=m+1:=A;have ab:Hid (pv=.slice (some ⟨j,0,none⟩) (m+1) Z):=ZZ (by rw[y,A])
 have aC:(l.length:Int)<=10000000:=by omega
 obtain⟨aF,aD⟩:=av;have aE:m+1<=Z:=by omega
 clear B y h D S C ac ax V A am az N
 go_enter func54,ntmps54
 go_wp2_with(at_builtin;refine(fun(h:True->_)=>h trivial) ?_)
 intro _;refine Zby w rfl _ _ rfl (.slice P g.recs.length M) g.recs rfl aA.o _ l rfl ad.o ak.o ?_;intro d f q x hv;obtain⟨⟨R,s1⟩,⟨Q,u3,u4⟩,hL⟩:=an.o d f q (by rw[E.o];exact x) (by rw[E.o];exact hv)
 rw[E.o] at R;rw[ab.o] at Q;have U:=ZZ hL
 obtain⟨a9,n9,c9,ai⟩:∃ a n c,d=.slice a n c:=by
  obtain⟨a,c,hh⟩:=q.shape;exact⟨a,_,c,hh⟩
 subst ai;obtain⟨L,H⟩:∃ L,L=f.setCell ⟨b,o+1,none⟩ (.slice a9 n9 c9):=⟨_,rfl⟩;rw[<-H] at Q u3 u4 U;clear hL q x hv K
 go_upto_region 1 with fail
 rw[<-H];clear H R s1
 go_region
 go_wp2;go_end0;exact⟨rfl,U.o.more (Below.refl _ _).drew⟩
theorem Xj.empty (w:World) (B:Nat) (a:B<=w.heap.size):Xj (w.alloc (.cells #[] 62)) B (.slice (some ⟨w.heap.size,0,none⟩) 0 0) []:=
 ⟨rfl,.inr ⟨w.heap.size,0,#[],rfl,a,heap_alloc_new w _,Nat.le_refl _,Nat.zero_le _,rfl,rfl⟩⟩
theorem ZkA (v:Value) (l:List Rec) (w:World) (c:RdR w v l) (t:l.length<=1000000):
 Calls prog 44 #[v] w fun e w'=>∃ v',e=.returned v'∧Xj w' w.heap.size v' l∧Below w.heap.size w w':=by
 have k:=ZZ c;obtain⟨ao,cap,rfl,p,-,b,-⟩:=c
 cases ao with
 | none=>
  obtain rfl:cap=0:=b rfl;obtain rfl:l=[]:=List.eq_nil_of_length_eq_zero (by omega)
  clear b p;have j:∀ w,(binOp .eql 29 (.slice none 0 0) (.slice none 0 0)).run prog w=.ok (.bool true) w:=fun w=>run_eql_slice_nil w _ _ none 0 0 underlying29
  go_enter func44,ntmps44
  go_wp2;go_ret;exact⟨_,rfl,Xj.nil _ _,Below.refl _ _⟩
 | some a=>
  clear b;have j:∀ w,(binOp .eql 29 (.slice (some a) l.length cap) (.slice none 0 0)).run prog w=.ok (.bool false) w:=fun w=>run_eql_slice_nil w _ _ (some a) _ _ underlying29
  have g:Hid (∀ X,Below w.heap.size w (w.alloc X)):=fun X=>(Below.refl _ _).alloc zL X
  have m:Hid (Xj (w.alloc (.cells #[] 62)) w.heap.size (.slice (some ⟨w.heap.size,0,none⟩) 0 0) []):=ZZ (Xj.empty w _ zL)
  go_enter func44,ntmps44
  go_wp2_with(at_builtin;refine ZeK _ rfl _ _ rfl w.heap.size _ [] rfl m.o _ l rfl (k.o.below (g.o _) zL) (by simp;omega) (by simp) ?_)
  intro u q f d;have n:=ZZ f;have i:=ZZ ((g.o _).trans d);clear f d;go_wp2;go_ret;exact⟨_,rfl,n.o,i.o⟩
theorem Zvf (w:World) (ao:Option Addr) (l:List Rec) (cap:Nat) (b:RdR w (.slice ao l.length cap) l) (i:Nat) (f:i<=l.length):
 ∃ a' c',RdR w (.slice a' (l.drop i).length c') (l.drop i)∧∀ x:Int,x=(i:Int)->∀ W,(Instr.sliceAt 29 (.slice ao l.length cap) (some (.int .i64 x)) none none).run prog W=.ok (.slice a' (l.drop i).length c') W:=by
 have d:l.length<=cap:=by
  obtain⟨a,c,e,h,-⟩:=b;simp only [Value.slice.injEq] at e;omega
 have h:=b.mid i l.length cap f zL d zL;rw[List.take_of_length_le (by rw[length_drop];omega)] at h
 unfold sliced at h;refine⟨_,_,by rw[length_drop];exact h,fun x g W=>?_⟩
 subst g;rw[run_sliceAt_slice W 29 _ _ _ _ Zba,run_slice_l W 29 ao l.length cap Zba .i64 (i:Int) (by omega) (by omega),ZeG,ZlB,length_drop]
 rfl
theorem ZqU (w:World) (ao:Option Addr) (l:List Rec) (cap:Nat) (b:RdR w (.slice ao l.length cap) l) (i j:Nat) (g:i<=j) (d:j<=l.length):
 ∃ a' c',RdR w (.slice a' (j-i) c') ((l.drop i).take (j-i))∧∀ x y:Int,x=(i:Int)->y=(j:Int)->∀ W,(Instr.sliceAt 29 (.slice ao l.length cap) (some (.int .i64 x)) (some (.int .i64 y)) none).run prog W=.ok (.slice a' (j-i) c') W:=by
 have m:l.length<=cap:=by
  obtain⟨a,c,e,h,-⟩:=b;simp only [Value.slice.injEq] at e;omega
 have h:=b.mid i j cap g d (by omega) zL
 unfold sliced at h;refine⟨_,_,h,fun x y k f W=>?_⟩
 subst k f;rw[run_sliceAt_slice W 29 _ _ _ _ Zba,run_slice_lh W 29 ao l.length cap Zba .i64 .i64 (i:Int) (j:Int) (by omega) (by omega) (by omega),ZeG,ZlB]
 rfl
theorem Jq.toLog {L:ZdU} (h:Jq M I w p pd L s):Zix 76 w p 1 (stC pd L s) L.rv L.pv s.log:=
 ⟨h.head,rfl,rfl,rfl,h.recs,h.pcs⟩
theorem Jq.logF {L:ZdU} (h:Jq M I w p pd L s):∀ k,ZjN p L.rv L.pv k->M k:=fun k hk=>by
 rcases hk with rfl | hk | hk
 ·exact h.mh
 ·exact h.mr k hk
 ·exact h.mp k hk
theorem Jq.ofLog {L:ZdU} (h:Jq M I w p pd L s) (z:ZeM 76 w p 1 (stC pd L s) L.rv L.pv g w'):
 ∃ M' L',Jq M' I w' p pd L' { s with log:=g }∧L'.nl=L.nl∧L'.nt=L.nt∧Ql M w w'∧∀ k,M' k->M k∨w.heap.size<=k:=by
 obtain⟨c,d,b,m,l⟩:=z;have e:Ql M w w':=m.mono h.logF;have n:∀ k,I k->w'.heap[k]?=w.heap[k]?:=fun k hk=>e.block k (h.ltI k hk) fun b=>h.dis k b hk
 have t:((((stC pd L s).setIfInBounds 1 (.int .i64 g.first)).setIfInBounds (1+1) c).setIfInBounds (1+2) d)=stC pd { L with rv:=c,pv:=d } { s with log:=g }:=rfl
 rw[t] at b
 have u:∀ k,ZjN p c d k->k<w'.heap.size:=fun k hk=>by
  rcases hk with rfl | hk | hk
  ·exact b.blk.lt
  ·obtain⟨i,a⟩:=X0 b.recs hk
   exact a.lt
  ·obtain⟨i,a⟩:=X0 b.pcs hk
   exact a.lt
 have y:∀ k,L.bv.ownBlock=some k->¬ ZjN p L.rv L.pv k:=fun k hk hl=>by
  obtain⟨i,a⟩:=X0 h.bases hk;rcases hl with rfl | hl | hl
  ·exact(a.ne h.head (by decide)) rfl
  ·obtain⟨v,j⟩:=X0 h.recs hl
   exact(a.ne j (by decide)) rfl
  ·obtain⟨v,j⟩:=X0 h.pcs hl
   exact(a.ne j (by decide)) rfl
 refine⟨fun k=>M k∨ZjN p c d k,{ L with rv:=c,pv:=d },⟨b.blk,b.recs,b.pcs,Qh h.bases fun k hk=>?_,h.bsEq,h.now.keep h.inow n,fun x q=>(h.base x q).keep (h.ibase x q) n,.inr (.inl rfl),fun k hk=>.inr (.inr (.inl hk)),fun k hk=>.inr (.inr (.inr hk)),fun k hk=>.inl (h.mb k hk),h.inow,h.ibase,fun k hk=>?_,fun k hk=>Nat.lt_of_lt_of_le (h.ltI k hk) e.size,fun k hk f=>?_⟩,rfl,rfl,e,fun k hk=>?_⟩
 ·obtain⟨i,a⟩:=X0 h.bases hk
  exact m.block k a.lt (y k hk)
 ·rcases hk with hk | hk
  ·exact Nat.lt_of_lt_of_le (h.ltM k hk) e.size
  ·exact u k hk
 ·rcases hk with hk | hk
  ·exact h.dis k hk f
  ·rcases l k hk with h1 | h1
   ·exact h.dis k (h.logF k h1) f
   ·have:=h.ltI k f
    omega
 ·rcases hk with hk | hk
  ·exact .inl hk
  ·rcases l k hk with h1 | h1
   ·exact .inl (h.logF k h1)
   ·exact .inr h1
theorem ZsB {l:List Pce} (h:w.ownsRow 0 108 3 v l.length (Q6 l)) (b:0<l.length):
 ∃ g cap,v=.slice (some ⟨g,0,none⟩) l.length cap∧w.cell? ⟨g,1,none⟩=some (.int .i64 (l.getD 0 Zj).first):=by
 rcases h.2 with ⟨_,m⟩ | ⟨g,cap,cur,c,i,e,f,j,k,d⟩
 ·omega
 ·refine⟨g,cap,c,?_⟩
  have a:=Zci l 0 1 b (by decide)
  rw[<-d,List.getElem?_take,if_pos (by omega),Array.getElem?_toList] at a
  rw[cell_of_row w g _ _ _ _ e];exact a
theorem Xj.own0 {l:List Rec} (h:Xj w B v l):Xj w 0 v l:=h.mono (Nat.zero_le _)
theorem Xj.freshR {l:List Rec} (h:Xj w B v l):∀ b,v.ownBlock=some b->B<=b∧b<w.heap.size:=fun b a=>World.ownsRow.lt h b a
theorem Zvg (t:TypeId) (af:t≠108) (b o:Nat) (cs:Array Value) (rv pv:Value) (g:Lgb) (l:Value) (left:List Pce) (base:Int) (w:World) (h:Zix t w b o cs rv pv g) (C:w.ownsRow 0 108 3 l left.length (Q6 left))
 (au:left.length<=1000000) (av:g.recs.length<=1000000) (ag:∀ r ∈ g.recs,Zcx r) (al:g.first<=Zg left base) (ad:Zg left base<=g.first+g.recs.length) (aq:0<=g.first) (az:g.first+g.recs.length<=4611686018427387904):
 Calls prog 70 #[.pointer (some ⟨b,o,none⟩),l,.int .i64 base] w fun e w'=>e=.returned (.tuple #[])∧
  ∃ q,Zix t w' b o (((cs.setIfInBounds o (.int .i64 (g.letGo left base).first)).setIfInBounds (o+1) q).setIfInBounds (o+2) l) q l (g.letGo left base)∧Ql (fun k=>k=b) w w'∧∀ k,q.ownBlock=some k->w.heap.size<=k:=by
 obtain⟨f,x⟩:∃ f,f=Zg left base:=⟨_,rfl⟩;rw[<-x] at al ad;obtain⟨ra,rc,J⟩:=h.recs.shape;obtain⟨la,lc,Z⟩:=Z8 C;have K:=h.recs.rd ag;rw[J] at K;obtain⟨a',c',aa,hcut⟩:=Zvf w ra g.recs rc K (f-g.first).toNat (by omega)
 have aA:=hcut (f-g.first) (by omega)
 obtain⟨d0,f0⟩:=h.blk.cell _ h.c0;obtain⟨L,f1⟩:=h.blk.cell _ h.c1;obtain⟨d2,f2⟩:=h.blk.cell _ h.c2;rw[J] at L;have aF:=ZZ aa
 have D:Hid (∀ W,Below w.heap.size w W->(W.cell? ⟨b,o,none⟩=some (.int .i64 g.first)∧W.cell? ⟨b,o+1,none⟩=some (.slice ra g.recs.length rc))∧(W.frozen? ⟨b,o,none⟩=false∧W.frozen? ⟨b,o+1,none⟩=false∧W.frozen? ⟨b,o+2,none⟩=false)∧W.cell? ⟨b,o+2,none⟩=some pv):=ZZ (fun W v=>by
  have j:=h.blk.keep (v.block b h.blk.lt)
  exact⟨⟨(j.cell _ h.c0).1,by rw[<-J];exact(j.cell _ h.c1).1⟩,⟨(j.cell _ h.c0).2,(j.cell _ h.c1).2,(j.cell _ h.c2).2⟩,(j.cell _ h.c2).1⟩)
 have am:Hid (Below w.heap.size w w.drew):=ZZ ((Below.refl _ _).drew)
 have ab:Hid (∀ W,Below w.heap.size w W->Calls prog 44 #[.slice a' (g.recs.drop (f-g.first).toNat).length c'] W fun e w'=>∃ v',e=.returned v'∧Xj w' w.heap.size v' (g.recs.drop (f-g.first).toNat)∧Below w.heap.size w w'):=ZZ (fun W H=>(ZkA _ _ W (aa.below H zL) (by rw[length_drop];omega)).mono (by
  rintro e w' ⟨v',rfl,z,v⟩
  exact⟨v',rfl,z.mono H.size,H.trans (v.mono H.size)⟩))
 have Y:Hid (∀ i d,Xj d w.heap.size i (g.recs.drop (f-g.first).toNat)->Below w.heap.size w d->
  ∃ q,Zix t (((d.setCell ⟨b,o+1,none⟩ i).setCell ⟨b,o,none⟩ (.int .i64 f)).setCell ⟨b,o+2,none⟩ l) b o (((cs.setIfInBounds o (.int .i64 (g.letGo left base).first)).setIfInBounds (o+1) q).setIfInBounds (o+2) l) q l (g.letGo left base)∧Ql (fun k=>k=b) w (((d.setCell ⟨b,o+1,none⟩ i).setCell ⟨b,o,none⟩ (.int .i64 f)).setCell ⟨b,o+2,none⟩ l)∧∀ k,q.ownBlock=some k->w.heap.size<=k):=ZZ (fun i d z v=>by
  have j:=h.blk.keep (v.block b h.blk.lt);have I:(g.letGo left base).first=f:=x.symm;have ay:o<cs.size:=(Array.getElem?_eq_some_iff.1 h.c0).1;have aw:o+1<cs.size:=(Array.getElem?_eq_some_iff.1 h.c1).1;have ar:o+2<cs.size:=(Array.getElem?_eq_some_iff.1 h.c2).1
  have ax:(((cs.setIfInBounds (o+1) i).setIfInBounds o (.int .i64 f)).setIfInBounds (o+2) l)=(((cs.setIfInBounds o (.int .i64 f)).setIfInBounds (o+1) i).setIfInBounds (o+2) l):=by
   congr 1
   exact Array.setIfInBounds_comm _ _ (by omega)
  have an:∀ k,k≠b->(((d.setCell ⟨b,o+1,none⟩ i).setCell ⟨b,o,none⟩ (.int .i64 f)).setCell ⟨b,o+2,none⟩ l).heap[k]?=d.heap[k]?:=fun k p=>by
   rw[Below.heap_setCell _ _ _ _ p,Below.heap_setCell _ _ _ _ p,Below.heap_setCell _ _ _ _ p]
  refine⟨i,?_,?_,fun k p=>(z.freshR k p).1⟩
  ·rw[I,<-ax]
   refine⟨((j.set _ _).set _ _).set _ _,?_,?_,?_,Qh (show d.ownsRow 0 62 7 i (g.letGo left base).recs.length (Qt (g.letGo left base).recs) from by show Xj d 0 i (g.recs.drop (Zg left base-g.first).toNat);rw[<-x];exact z.own0) fun k p=>an k (fun e=>?_),Qh C fun k p=>?_⟩
   ·rw[Array.getElem?_setIfInBounds,if_neg (by omega),Array.getElem?_setIfInBounds,if_pos rfl,if_pos (by simpa using ay),I]
   ·rw[Array.getElem?_setIfInBounds,if_neg (by omega),Array.getElem?_setIfInBounds,if_neg (by omega),Array.getElem?_setIfInBounds,if_pos rfl,if_pos aw]
   ·rw[Array.getElem?_setIfInBounds,if_pos rfl,if_pos (by simpa using ar)]
   ·subst e
    have:=(z.freshR _ p).1;have:=h.blk.lt;omega
   ·obtain⟨aE,ao⟩:=X0 C p
    rw[an k (ao.ne h.blk (fun e=>af e.symm)),v.block k ao.lt]
  ·exact(((Ql.ofBelow (F:=fun k=>k=b) v).setCell (b:=b) _ (fun _=>rfl) _).setCell (b:=b) _ (fun _=>rfl) _).setCell (b:=b) _ (fun _=>rfl) _)
 have hw:IntKind.i64.wrap (f-g.first)=f-g.first:=by rw[IntKind.wrap_i64];omega
 obtain⟨n1,ae⟩:∃ n1,n1=(g.recs.drop (f-g.first).toNat).length:=⟨_,rfl⟩;rw[<-ae] at aA ab
 obtain⟨pa,pn,pc,aj⟩:∃ a n c,pv=.slice a n c:=by
  obtain⟨a,c,E⟩:=Z8 h.pcs;exact⟨a,_,c,E⟩
 rw[aj] at D d2;have ap:-9223372036854775808<=f-g.first∧f-g.first<=9223372036854775807:=by omega
 have ac:Hid (left.length≠0->∃ A ai,l=.slice (some ⟨A,0,none⟩) left.length ai∧w.cell? ⟨A,1,none⟩=some (.int .i64 f)):=ZZ (fun m=>by
  obtain⟨A,cap,I,e2⟩:=ZsB C (by omega)
  have e3:f=(left.getD 0 Zj).first:=by rw[x];unfold Zg;rw[if_neg m]
  exact⟨A,cap,I,by rw[e3];exact e2⟩)
 have O:Hid (left.length=0->base=f):=ZZ (fun m=>by rw[x];unfold Zg;rw[if_pos m])
 obtain⟨aC,aD⟩:=ap;clear J aa hcut h C x ag K ae al ad aq az av aj d2 f2 af;by_cases m:left.length=0
 ·have ak:decide ((left.length:Int)>0)=false:=decide_eq_false (by omega)
  obtain rfl:=O.o m;rw[m] at Z ak;subst Z;clear m ac O au
  go_enter func70,ntmps70
  go_upto_region 3 with fail
  go_cut[] (fun wc=>Hid (∃ i d,wc=d.setCell ⟨b,o+1,none⟩ i∧Xj d w.heap.size i (g.recs.drop (base-g.first).toNat)∧Below w.heap.size w d))
  case first=>
   go_region_with
    (first | (go_at_call 44;refine(ab.o _ (by first | exact am.o | exact Below.refl _ _)).mono ?_;rintro e N ⟨R,rfl,u,G⟩;have X:=ZZ u;have y:=ZZ G;obtain⟨z1,z2,z3,V⟩:∃ a n c,R=Value.slice a n c:=(by obtain⟨a,c,E⟩:=u.shape;exact⟨a,_,c,E⟩);subst V;obtain⟨⟨M,Q⟩,⟨T,r1,r2⟩,-⟩:=D.o N y.o;clear u G))
   all_goals
    go_wp2_with fail
    go_meet
    exact ZZ ⟨_,_,rfl,X.o,y.o⟩
  case rest=>
   obtain⟨i,d,S,B,j⟩:=hcut.out;subst S;have U:=ZZ (Y.o i d B j);obtain⟨⟨M,Q⟩,⟨T,r1,r2⟩,q2⟩:=D.o d j;clear hcut B j d0 L f0 f1;go_wp2;go_end0;exact⟨rfl,U.o⟩
 ·have ak:decide ((left.length:Int)>0)=true:=decide_eq_true (by omega)
  have aH:(0:Int)<(left.length:Int):=by omega
  obtain⟨A,ai,P,aG⟩:=ac.o m;rw[P] at Y;rw[P];clear m ac O Z P;have aB:(left.length:Int)<=1000000:=by omega
  generalize left.length=ln at *
  go_enter func70,ntmps70
  go_upto_region 3 with fail
  go_cut[] (fun wc=>Hid (∃ i d,wc=d.setCell ⟨b,o+1,none⟩ i∧Xj d w.heap.size i (g.recs.drop (f-g.first).toNat)∧Below w.heap.size w d))
  case first=>
   go_region_with
    (first | (go_at_call 44;refine(ab.o _ (by first | exact am.o | exact Below.refl _ _)).mono ?_;rintro e N ⟨R,rfl,u,G⟩;have X:=ZZ u;have y:=ZZ G;obtain⟨z1,z2,z3,V⟩:∃ a n c,R=Value.slice a n c:=(by obtain⟨a,c,E⟩:=u.shape;exact⟨a,_,c,E⟩);subst V;obtain⟨⟨M,Q⟩,⟨T,r1,r2⟩,-⟩:=D.o N y.o;clear u G))
   all_goals
    go_wp2_with fail
    go_meet
    exact ZZ ⟨_,_,rfl,X.o,y.o⟩
  case rest=>
   obtain⟨i,d,S,B,j⟩:=hcut.out;subst S;have U:=ZZ (Y.o i d B j);obtain⟨⟨M,Q⟩,⟨T,r1,r2⟩,q2⟩:=D.o d j;clear hcut B j d0 L f0 f1;go_wp2;go_end0;exact⟨rfl,U.o⟩
theorem Zgo {L:ZdU} (a b:Int) (w:World) (h:Jq M I w p pd L s) (q:ZpE s) (E:∀ r ∈ s.log.recs,Zcx r) (af:s.log.recs.length<=1000000):
 Calls prog 17 #[ptr p,.int .i64 a,.int .i64 b] w fun e w'=>∃ v,e=.returned (.tuple #[v,.int .i64 (Zbs s a b).2])∧Xj w' w.heap.size v (Zbs s a b).1∧Below w.heap.size w w':=by
 have y:=ZZ (fun W (j:Below w.heap.size w W)=>Zit W (h.below j) q)
 have z:=ZZ (fun W (j:Below w.heap.size w W)=>Zkx W (h.below j))
 unfold Zbs;obtain⟨nx,g⟩:∃ nx,nx=s.next:=⟨_,rfl⟩;obtain⟨f,c⟩:∃ f,f=s.log.first:=⟨_,rfl⟩;have n:nx=f+s.log.recs.length:=by rw[g,c];rfl
 rw[<-g] at y ⊢;rw[<-c] at z ⊢;have k:=q.f0;have m:=q.f1;rw[<-c] at k;rw[<-g] at m;by_cases X:a<0
 ·rw[if_pos (.inl X)]
  clear g c n k m h
  go_enter func17,ntmps17
  go_wp2;go_ret2;exact⟨_,rfl,Xj.nil _ _,Below.refl _ _⟩
 by_cases g2:b<a
 ·rw[if_pos (.inr (.inl g2))]
  clear g c n k m h
  go_enter func17,ntmps17
  go_wp2;go_ret2;exact⟨_,rfl,Xj.nil _ _,Below.refl _ _⟩
 by_cases Y:nx<b
 ·rw[if_pos (.inr (.inr Y))]
  clear g c n k m h
  go_enter func17,ntmps17
  go_wp2_with fail
  refine(y.o _ (Below.refl _ _)).mono ?_;rintro e t ⟨rfl,d⟩;have i:=ZZ d;clear d;go_wp2;go_ret2;exact⟨_,rfl,Xj.nil _ _,i.o⟩
 rw[if_neg (by omega)]
 by_cases F:a<f
 ·rw[if_pos F]
  clear g c n k m h
  go_enter func17,ntmps17
  go_wp2_with fail
  refine(y.o _ (Below.refl _ _)).mono ?_;rintro e t ⟨rfl,d⟩;have i:=ZZ d;clear d
  go_wp2_with fail
  refine(z.o _ i.o).mono ?_;rintro e T ⟨rfl,rfl⟩;go_wp2;go_ret2;exact⟨_,rfl,Xj.nil _ _,i.o⟩
 rw[if_neg F];obtain⟨D,A,B⟩:=h.recs.shape;have C:=h.recs.rd E;rw[B] at C;obtain⟨a',c',u,hcut⟩:=ZqU w D s.log.recs A C (a-f).toNat (b-f).toNat (by omega) (by omega)
 have aa:=hcut (a-f) (b-f) (by omega) (by omega)
 have R:Hid ((s.log.recs.drop (a-f).toNat).take ((b-f).toNat-(a-f).toNat)=(s.log.recs.take (b-f).toNat).drop (a-f).toNat):=ZZ (by rw[List.drop_take])
 rw[R.o] at u;generalize (s.log.recs.take (b-f).toNat).drop (a-f).toNat=l at *
 have Q:Hid (∀ W,Below w.heap.size w W->Calls prog 44 #[.slice a' ((b-f).toNat-(a-f).toNat) c'] W fun e w'=>∃ v',e=.returned v'∧Xj w' w.heap.size v' l∧Below w.heap.size w w'):=ZZ (fun W x=>(ZkA _ _ W (u.below x zL) (by
  obtain⟨_,_,e,-⟩:=u
  injection e with _ e _
  omega)).mono (by
  rintro e w' ⟨v',rfl,U,j⟩
  exact⟨v',rfl,U.mono x.size,x.trans (j.mono x.size)⟩))
 have N:Hid (∀ W,Below w.heap.size w W->W.cell? ⟨p,1,none⟩=some (.int .i64 f)∧W.cell? ⟨p,2,none⟩=some (.slice D s.log.recs.length A)):=ZZ (fun W j=>by
  obtain⟨-,c1,H,-⟩:=(h.below j).cs;rw[B] at H;rw[c]
  exact⟨c1,H⟩)
 have ad:IntKind.i64.wrap (a-f)=a-f:=by rw[IntKind.wrap_i64];omega
 have ai:IntKind.i64.wrap (b-f)=b-f:=by rw[IntKind.wrap_i64];omega
 have Z:-9223372036854775808<=a-f∧a-f<=9223372036854775807:=by omega
 have V:-9223372036854775808<=b-f∧b-f<=9223372036854775807:=by omega
 obtain⟨ac,ag⟩:=Z;obtain⟨ae,aj⟩:=V;obtain⟨K,G⟩:∃ K,K=(b-f).toNat-(a-f).toNat:=⟨_,rfl⟩;rw[<-G] at aa Q;clear g c n k m h u hcut C B G R E q
 go_enter func17,ntmps17
 go_wp2_with fail
 refine(y.o _ (Below.refl _ _)).mono ?_;rintro e t ⟨rfl,d⟩;have i:=ZZ d;clear d
 go_wp2_with fail
 refine(z.o _ i.o).mono ?_;rintro e t ⟨rfl,rfl⟩;have J:Hid (Below w.heap.size w t.drew):=ZZ (i.o.drew)
 go_upto_region 5 with fail
 go_region_held(fun W=>W.cell? ⟨p,1,none⟩=some (.int .i64 f)∧W.cell? ⟨p,2,none⟩=some (.slice D s.log.recs.length A))
  (first | (with_reducible exact N.o _ J.o) | (with_reducible exact N.o _ O.o))
  (first | (go_at_call 44;refine(Q.o _ J.o).mono ?_;rintro e T ⟨v2,rfl,S,P⟩;have ab:=ZZ S;have O:=ZZ P;clear S P))
 all_goals
  go_wp2;go_ret2;exact⟨_,rfl,ab.o,O.o⟩
theorem ZyR {L:ZdU} (w:World) (h:Jq M I w p pd L s) (ab:s.now.st.L.length<=1000000) (ac:s.now.tab.length<=1000000):
 Calls prog 21 #[ptr p] w fun e w'=>ZyP w s.now e w':=by
 obtain⟨c,f⟩:∃ c,c=w.alloc (.cells #[.int .i64 0,.int .i64 0,.slice none 0 0,.bool false,.int .i64 0,.slice none 0 0] 41):=⟨_,rfl⟩;have n:Hid (Below w.heap.size w c):=ZZ (by rw[f];exact Jw _ _)
 have E:Hid (Bn c w.heap.size #[.int .i64 0,.int .i64 0,.slice none 0 0,.bool false,.int .i64 0,.slice none 0 0]):=ZZ (by rw[f];exact heap_alloc_new w _)
 have j:=ZZ (h.below n.o);obtain⟨-,-,-,-,-,⟨c5,c6,W,c8,c9,B⟩,-⟩:=j.o.cs;have g:=ZZ (ZsA (L.nx s) c j.o.now ab ac);obtain⟨G,N,lc,T,P,K,U,C⟩:=j.o.now.shape;have x:L.nl=.slice G N lc:=U;have u:L.nt=.slice T P K:=C;rw[x] at W;rw[u] at B
 have F:Hid (snV (L.nx s)=.agg #[.int .i64 s.now.idx,.int .i64 s.now.st.kind,.slice G N lc,.bool s.now.st.shut,.int .i64 s.now.st.eng,.slice T P K]):=ZZ (by
  unfold snV snC ZdU.nx
  dsimp only
  rw[x,u])
 rw[F.o] at g;have X:(L.nx s).1=s.now:=rfl;rw[X] at g;clear h U C x u F j X
 go_enter func21,ntmps21
 go_upto_region 1 with fail
 rw[<-f];clear f
 go_wp2_with fail
 refine g.o.mono ?_;rintro e W1 ⟨vl,vt,rfl,y,H,R,q⟩;have aa:=ZZ (n.o.trans (q.mono n.o.size));have d:=ZZ y;have m:=ZZ (And.intro H R);have a:=E.o.below q zL;have O:=ZZ n.o.size;obtain⟨z0,y0⟩:=a.cell 0;obtain⟨z1,y1⟩:=a.cell 1;obtain⟨z2,y2⟩:=a.cell 2;obtain⟨z3,y3⟩:=a.cell 3;obtain⟨z4,y4⟩:=a.cell 4;obtain⟨z5,y5⟩:=a.cell 5;obtain⟨z,A,xc,Y,Z,D,Q,g2⟩:=y.shape
 dsimp only at Q g2
 subst Q g2;have V:w.heap.size<c.heap.size:=E.o.lt;have S:=ZZ V;unfold snV snC
 dsimp only
 clear q a c5 c6 W c8 c9 B y H R g V;go_wp2;refine bodyPost_ret (v:=.agg #[.int .i64 s.now.idx,.int .i64 s.now.st.kind,.slice z A xc,.bool s.now.st.shut,.int .i64 s.now.st.eng,.slice Y Z D]) (by simp[results,Tryz.results21,go_sem,z0,z1,z2,z3,z4,z5]) rfl ?_
 have J:=ZqQ W1 w.heap.size (.int .i64 s.now.idx) (.int .i64 s.now.st.kind) (.slice z A xc) (.bool s.now.st.shut) (.int .i64 s.now.st.eng) (.slice Y Z D);refine⟨_,_,rfl,⟨d.o.l.but J (.inr fun b h=>?_),d.o.t.but J (.inr fun b h=>?_),d.o.k,d.o.e,d.o.i⟩,fun b h=>?_,fun b h=>?_,ZeF aa.o _ (by omega) _ _ _ _ _ _⟩
 ·have:=m.o.1 b h
  have:=S.o;omega
 ·have:=m.o.2 b h
  have:=S.o;omega
 ·exact Nat.le_trans O.o (m.o.1 b h)
 ·exact Nat.le_trans O.o (m.o.2 b h)
end Go.Proofs.YtnahjngbneicaaaGreatDoor
