import Derived.Test.YtnahjngbneicaaaGreatDoorPack7
import Derived.Deep.RegionHeld2
namespace Go.Proofs.YtnahjngbneicaaaGreatDoor
open _root_.Go.Proofs.Tryz
open List (append_nil getElem_mem length_append length_drop length_map length_set length_take map_cons map_nil map_toArray)
set_option maxHeartbeats 4000000
set_option maxRecDepth 100000
open Go.RowKit
variable {w w':World} {ao:Option Addr} {B N N' T T' b base cap i j n o p pd:Nat} {L l:List Int} {x:Q0 × Value × Value} {F I K M:Nat->Prop} {pv rv v:Value} {s:Sto} {d:Dk} {g:Lgb} {t:TypeId} {xs:List Value}
theorem RdR.mid {l:List Rec} (h:RdR w (.slice ao n cap) l) (i j m:Nat) (F:i<=j) (J:j<=l.length) (E:j<=m) (H:m<=cap):RdR w (sliced ao i j m 7) ((l.drop i).take (j-i)):=by
 obtain⟨I,D,q,K,G,p,y,c⟩:=h;simp only [Value.slice.injEq] at q;obtain⟨rfl,rfl,rfl⟩:=q;have d:((l.drop i).take (j-i)).length=j-i:=by simp;omega
 have t:∀ n ∈ (l.drop i).take (j-i),Zcx n:=fun n a=>y n (List.mem_of_mem_drop (List.mem_of_mem_take a))
 unfold sliced;by_cases u:m=i
 ·rw[if_pos u]
  have e:j-i=0:=by omega
  refine⟨ao,m-i,by rw[d],by omega,by omega,fun a=>by have:=p a;omega,t,.inl ?_⟩
  rw[e];simp
 ·rw[if_neg u]
  refine⟨ao.map (·.add (i*7)),m-i,by rw[d],by omega,by omega,fun a=>?_,t,?_⟩
  ·have B:ao=none:=by simpa using a
   have:=p B;omega
  ·rcases c with c | ⟨b,f,v,z⟩
   ·exact .inl (by rw[c];simp)
   ·refine .inr ⟨b,f+i*7,?_,fun k g=>?_⟩
    ·rw[v,Option.map_some,Addr.add_lit]
    ·rw[d] at g
     have x:=z (i+k) (by omega)
     have C:f+i*7+k*7=f+(i+k)*7:=by omega
     have A:((l.drop i).take (j-i)).getD k Qi=l.getD (i+k) Qi:=by simp[List.getD,g]
     rw[C,A];exact x
theorem RdL.mid {l:List (List UInt8)} (h:RdL w (.slice ao n cap) l) (i j m:Nat) (E:i<=j) (I:j<=l.length) (D:j<=m) (G:m<=cap):RdL w (sliced ao i j m 1) ((l.drop i).take (j-i)):=by
 obtain⟨H,C,p,J,F,g,a⟩:=h;simp only [Value.slice.injEq] at p;obtain⟨rfl,rfl,rfl⟩:=p;have c:((l.drop i).take (j-i)).length=j-i:=by simp;omega
 unfold sliced;by_cases q:m=i
 ·rw[if_pos q]
  have e:j-i=0:=by omega
  refine⟨ao,m-i,by rw[c],by omega,by omega,fun d=>by have:=g d;omega,.inl ?_⟩
  rw[e];simp
 ·rw[if_neg q]
  refine⟨ao.map (·.add (i*1)),m-i,by rw[c],by omega,by omega,fun d=>?_,?_⟩
  ·have z:ao=none:=by simpa using d
   have:=g z;omega
  ·rcases a with a | ⟨b,y,B,u⟩
   ·exact .inl (by rw[a];simp)
   ·refine .inr ⟨b,y+i,?_,fun k f=>?_⟩
    ·rw[B,Nat.mul_one,Option.map_some,Addr.add_lit]
    ·rw[c] at f
     obtain⟨x,t,A⟩:=u (i+k) (by omega)
     refine⟨x,by rw[Nat.add_assoc];exact t,?_⟩
     have v:((l.drop i).take (j-i)).getD k []=l.getD (i+k) []:=by simp[List.getD,f]
     rw[v];exact A
theorem RdR.cells {l:List Rec} (h:l=[]∨∃ b c,ao=some ⟨b,c,none⟩∧∀ j,j<l.length->ZjI w b (c+j*7) (l.getD j Qi)) (a:Addr) (f:ao=some a):
 ∀ j u,(Qt l)[j]?=some u->w.cell? (a.add j)=some u:=by
 intro j u d;rcases h with h | ⟨b,c,A,v⟩
 ·rw[h] at d
  simp[Qt] at d
 ·rw[A] at f
  injection f with f
  subst f;have z:j<(Qt l).length:=(List.getElem?_eq_some_iff.1 d).1;rw[Zl] at z;have i:j=j / 7*7+j % 7:=by omega
  have g:=Zbv l (j / 7) (j % 7) (by omega) (by omega)
  rw[<-i,d] at g;obtain⟨p,n,t,y,m,q,x⟩:=v (j / 7) (by omega)
  have e:∀ k,k<7->c+(j / 7*7+k)=c+j / 7*7+k:=fun k _=>by omega
  rw[Addr.add_lit,i,e (j % 7) (by omega)]
  have hk:j % 7=0∨j % 7=1∨j % 7=2∨j % 7=3∨j % 7=4∨j % 7=5∨j % 7=6:=by omega
  rcases hk with hk | hk | hk | hk | hk | hk | hk
  all_goals
   rw[hk] at g ⊢;rw[g]
   first | exact p | exact n | exact t | exact y | exact m | exact q | exact x
theorem Zin (w:World) (ty:TypeId) (B:Nat) (v:Value) (b:List Rec) (c:Xj w B v b) (h:Value) (l:List Rec) (m:RdR w h l)
 (C:b.length+l.length<=1000000) (g:B<=w.heap.size):
 ∃ v' w',(Builtin.append_ #[29,29] ty #[v,h]).run prog w=.ok v' w'∧Xj w' B v' (b++l)∧Below B w w':=by
 obtain⟨e,f,x,t,n⟩:=info_parts Zdg;obtain⟨ao,cap,rfl,A,D,p,_,q⟩:=m
 cases ao with
 | none=>
  have z:=p rfl;subst z;have j:l=[]:=List.eq_nil_of_length_eq_zero (by omega)
  subst j;have d:=run_append_owned_none (P:=prog) w B 29 ty 62 e 7 underlying29 f v b.length (Qt b) c;exact⟨v,w,d,by rw[append_nil];exact c,Below.refl _ _⟩
 | some a=>
  obtain⟨v',w',d,y,u,_⟩:=run_append_own (P:=prog) w B 29 ty 62 e _ 7 56 underlying29 f x t n rfl (by decide) v b.length (Qt b) c a l.length cap (Qt l)
   (Zl l) (RdR.cells q a rfl) (Zbw l) (by unfold maxLen;omega) (by omega) g
  refine⟨v',w',d,?_,?_⟩
  ·unfold Xj
   rw[length_append,ZaA];exact y
  ·exact(Below.refl _ _).grown u g (fun k i=>(World.ownsRow.lt c k i).1)
theorem ZeK (w:World) {d:Array Oper} {rest:List Oper} {o:Oper} {a:Act} {Q:Exit->Act->World->Prop} (p:o.guard=none) (s x:Operand)
 (u:o.op=.call { callee:=.builtin .append,args:=#[s,x],argTypes:=#[29,29] })
 (B:Nat) (v:Value) (b:List Rec) (i:a.eval s=v) (j:Xj w B v b) (c:Value) (l:List Rec) (e:a.eval x=c) (g:RdR w c l)
 (k:b.length+l.length<=1000000) (t:B<=w.heap.size)
 (h:∀ v' w',Xj w' B v' (b++l)->Below B w w'->wpList prog d Q rest (a.put o.dst v') w'):wpList prog d Q (o::rest) a w:=
 wpList_plain p fun _ f=>by
  obtain⟨v',w',q,m,n⟩:=Zin w o.type B v b j c l g k t;unfold Oper.wp execOp;simp only [u,resolve,invoke,builtin,Sem.run_bind,Sem.run_pure,Result.andThen_ok,map_toArray,map_cons,map_nil,i,e,q];exact f _ _ (h v' w' m n)
def Bsg (w:World) (b:Nat) (cs:Array Value):Prop:=w.heap[b]?=some (.cells cs 217 (0,0))
theorem Bsg.lt {cs:Array Value} (h:Bsg w b cs):b<w.heap.size:=(Array.getElem?_eq_some_iff.1 h).1
theorem Bsg.below {cs:Array Value} (h:Bsg w b cs) (a:Below B w w') (c:w.heap.size<=B):Bsg w' b cs:=(a.block b (by have:=h.lt;omega)).trans h
theorem Bsg.cell {cs:Array Value} (h:Bsg w b cs) (j:Nat):w.cell? ⟨b,j,none⟩=cs[j]?∧w.frozen? ⟨b,j,none⟩=false:=⟨cell_of_row w b j _ _ _ h,frozen_of_row w b j _ _ h⟩
def pcC (p:Pce):Array Value:=#[.int .i64 p.name,.int .i64 p.first,.int .i64 p.stop]
def Q6:List Pce->List Value
 | []=>[]
 | c::l=>(pcC c).toList++Q6 l
theorem Zas:∀ l:List Pce,(Q6 l).length=l.length*3
 | []=>rfl
 | c::l=>by
  rw[Q6,length_append,Zas l,List.length_cons];show 3+_=_;omega
theorem Zio:∀ a b:List Pce,Q6 (a++b)=Q6 a++Q6 b
 | [],_=>rfl
 | c::l,b=>by rw[List.cons_append,Q6,Zio l b,Q6,List.append_assoc]
theorem Zci:∀ (l:List Pce) (j k:Nat),j<l.length->k<3->(Q6 l)[j*3+k]?=(pcC (l.getD j Zj))[k]?
 | c::l,0,k,_,hk=>by
  rw[Q6,Nat.zero_mul,Nat.zero_add,List.getElem?_append_left (by show k<3;exact hk)]
  simp
 | c::l,j+1,k,hj,hk=>by
  have e:(j+1)*3+k=(pcC c).toList.length+(j*3+k):=by show _=3+_;omega
  rw[Q6,e,List.getElem?_append_right (by omega),Nat.add_sub_cancel_left,Zci l j k (by simpa using hj) hk]
  rfl
theorem ZpD (l:List Pce):∀ u ∈ Q6 l,u.oneCell'=true:=by
 induction l with
 | nil=>intro u a;cases a
 | cons c l b=>
  intro u a;rw[Q6] at a;rcases List.mem_append.1 a with h | h
  ·simp[pcC] at h
   rcases h with rfl | rfl | rfl <;> rfl
  ·exact b u h
def snC (x:Q0 × Value × Value):Array Value:=#[.int .i64 x.1.idx,.int .i64 x.1.st.kind,x.2.1,.bool x.1.st.shut,.int .i64 x.1.st.eng,x.2.2]
def snV (x:Q0 × Value × Value):Value:=.agg (snC x)
def Xv:List (Q0 × Value × Value)->List Value
 | []=>[]
 | c::l=>(snC c).toList++Xv l
theorem Zdv:∀ l:List (Q0 × Value × Value),(Xv l).length=l.length*6
 | []=>rfl
 | c::l=>by
  rw[Xv,length_append,Zdv l,List.length_cons];show 6+_=_;omega
theorem Zip:∀ a b:List (Q0 × Value × Value),Xv (a++b)=Xv a++Xv b
 | [],_=>rfl
 | c::l,b=>by rw[List.cons_append,Xv,Zip l b,Xv,List.append_assoc]
theorem Ziq:∀ (l:List (Q0 × Value × Value)) (j k:Nat) (a:j<l.length),k<6->(Xv l)[j*6+k]?=(snC l[j])[k]?
 | c::l,0,k,_,hk=>by
  rw[Xv,Nat.zero_mul,Nat.zero_add,List.getElem?_append_left (by show k<6;exact hk)]
  simp
 | c::l,j+1,k,a,hk=>by
  have e:(j+1)*6+k=(snC c).toList.length+(j*6+k):=by show _=6+_;omega
  rw[Xv,e,List.getElem?_append_right (by omega),Nat.add_sub_cancel_left,Ziq l j k (by simpa using a) hk]
  rfl
structure SnR (w:World) (x:Q0 × Value × Value):Prop where
 l:RdI w x.2.1 x.1.st.L
 t:RdE w x.2.2 x.1.tab
 k:I64 x.1.st.kind
 e:I64 x.1.st.eng
 i:I64 x.1.idx
theorem SnR.snV (h:SnR w x):SnV w (snV x) x.1:=⟨x.2.1,x.2.2,rfl,h.l,h.k,h.e,h.t,h.i⟩
theorem SnR.below (h:SnR w x) {B:Nat} (b:Below B w w') (a:w.heap.size<=B):SnR w' x:=⟨h.l.below b a,h.t.below b a,h.k,h.e,h.i⟩
def Zmp (I:Nat->Prop) (x:Q0 × Value × Value):Prop:=(x.1.st.L=[]∨∀ g,x.2.1.ownBlock=some g->I g)∧(x.1.tab=[]∨∀ g,x.2.2.ownBlock=some g->I g)
theorem Zmp.mono {J:Nat->Prop} (h:Zmp I x) (b:∀ k,I k->J k):Zmp J x:=by
 obtain⟨d,c⟩:=h;exact⟨d.imp id fun h g a=>b g (h g a),c.imp id fun h g a=>b g (h g a)⟩
theorem RdE.keepS {l:List Ent} (h:RdE w v l) (hk:l=[]∨∀ g,v.ownBlock=some g->w'.heap[g]?=w.heap[g]?):RdE w' v l:=by
 obtain⟨ao,cap,rfl,d,e,k,c,a⟩:=h;refine⟨ao,cap,rfl,d,e,k,c,?_⟩;rcases a with a | ⟨b,i,rfl,f⟩
 ·exact .inl a
 ·rcases hk with hk | hk
  ·exact .inl hk
  ·exact .inr ⟨b,i,rfl,fun j m=>(f j m).keep (hk b rfl)⟩
theorem RdI.keepS (h:RdI w v l) (hk:l=[]∨∀ g,v.ownBlock=some g->w'.heap[g]?=w.heap[g]?):RdI w' v l:=by
 obtain⟨ao,cap,rfl,f,i,m,e,c⟩:=h;refine⟨ao,cap,rfl,f,i,m,e,?_⟩;rcases c with c | ⟨b,d,rfl,k⟩
 ·exact .inl c
 ·rcases hk with hk | hk
  ·exact .inl hk
  ·exact .inr ⟨b,d,rfl,fun j n=>(World.cell?_of_block (a:=⟨b,d+j,none⟩) (hk b rfl)).trans (k j n)⟩
theorem SnR.keep (h:SnR w x) (c:Zmp I x) (b:∀ g,I g->w'.heap[g]?=w.heap[g]?):SnR w' x:=
 ⟨h.l.keepS (c.1.imp id fun h g a=>b g (h g a)),h.t.keepS (c.2.imp id fun h g a=>b g (h g a)),h.k,h.e,h.i⟩
structure ZdU where
 rv:Value
 pv:Value
 bv:Value
 nl:Value
 nt:Value
 bs:List (Q0 × Value × Value)
def ZdU.nx (L:ZdU) (s:Sto):Q0 × Value × Value:=(s.now,L.nl,L.nt)
def stC (pd:Nat) (L:ZdU) (s:Sto):Array Value:=
 #[ptr pd,.int .i64 s.log.first,L.rv,L.pv,L.bv,.int .i64 s.now.idx,.int .i64 s.now.st.kind,L.nl,.bool s.now.st.shut,.int .i64 s.now.st.eng,L.nt,.int .i64 s.synced,.int .i64 s.cur,.bool s.nw]
structure Jq (M I:Nat->Prop) (w:World) (p pd:Nat) (L:ZdU) (s:Sto):Prop where
 head:Bk 76 w p (stC pd L s)
 recs:Xj w 0 L.rv s.log.recs
 pcs:w.ownsRow 0 108 3 L.pv s.log.pcs.length (Q6 s.log.pcs)
 bases:w.ownsRow 0 41 6 L.bv L.bs.length (Xv L.bs)
 bsEq:L.bs.map Prod.fst=s.bases
 now:SnR w (L.nx s)
 base:∀ x ∈ L.bs,SnR w x
 mh:M p
 mr:∀ g,L.rv.ownBlock=some g->M g
 mp:∀ g,L.pv.ownBlock=some g->M g
 mb:∀ g,L.bv.ownBlock=some g->M g
 inow:Zmp I (L.nx s)
 ibase:∀ x ∈ L.bs,Zmp I x
 ltM:∀ k,M k->k<w.heap.size
 ltI:∀ k,I k->k<w.heap.size
 dis:∀ k,M k->¬ I k
theorem Jq.keep {L:ZdU} (h:Jq M I w p pd L s) (b:∀ k,(M k∨I k)->w'.heap[k]?=w.heap[k]?) (e:w.heap.size<=w'.heap.size):Jq M I w' p pd L s:=
 ⟨h.head.keep (b p (.inl h.mh)),Qh h.recs fun g a=>b g (.inl (h.mr g a)),Qh h.pcs fun g a=>b g (.inl (h.mp g a)),Qh h.bases fun g a=>b g (.inl (h.mb g a)),h.bsEq,
  h.now.keep h.inow fun g a=>b g (.inr a),fun x d=>(h.base x d).keep (h.ibase x d) fun g a=>b g (.inr a),h.mh,h.mr,h.mp,h.mb,h.inow,h.ibase,fun k c=>Nat.lt_of_lt_of_le (h.ltM k c) e,fun k c=>Nat.lt_of_lt_of_le (h.ltI k c) e,h.dis⟩
theorem Jq.only {G:Nat->Prop} {L:ZdU} (h:Jq M I w p pd L s) (a:Ql G w w') (c:∀ k,M k->¬ G k) (b:∀ k,I k->¬ G k):Jq M I w' p pd L s:=
 h.keep (fun k hk=>by
  rcases hk with hk | hk
  ·exact a.block k (h.ltM k hk) (c k hk)
  ·exact a.block k (h.ltI k hk) (b k hk)) a.size
theorem Jq.below {L:ZdU} (h:Jq M I w p pd L s) (a:Below w.heap.size w w'):Jq M I w' p pd L s:=
 h.keep (fun k hk=>a.block k (by
  rcases hk with hk | hk
  ·exact h.ltM k hk
  ·exact h.ltI k hk)) a.size
theorem Jq.cs {L:ZdU} (h:Jq M I w p pd L s):
 w.cell? ⟨p,0,none⟩=some (ptr pd)∧w.cell? ⟨p,1,none⟩=some (.int .i64 s.log.first)∧w.cell? ⟨p,2,none⟩=some L.rv∧w.cell? ⟨p,3,none⟩=some L.pv∧w.cell? ⟨p,4,none⟩=some L.bv∧
 (w.cell? ⟨p,5,none⟩=some (.int .i64 s.now.idx)∧w.cell? ⟨p,6,none⟩=some (.int .i64 s.now.st.kind)∧w.cell? ⟨p,7,none⟩=some L.nl∧w.cell? ⟨p,8,none⟩=some (.bool s.now.st.shut)∧w.cell? ⟨p,9,none⟩=some (.int .i64 s.now.st.eng)∧w.cell? ⟨p,10,none⟩=some L.nt)∧
 w.cell? ⟨p,11,none⟩=some (.int .i64 s.synced)∧w.cell? ⟨p,12,none⟩=some (.int .i64 s.cur)∧w.cell? ⟨p,13,none⟩=some (.bool s.nw):=
 ⟨(h.head.cell 0 rfl).1,(h.head.cell 1 rfl).1,(h.head.cell 2 rfl).1,(h.head.cell 3 rfl).1,(h.head.cell 4 rfl).1,⟨(h.head.cell 5 rfl).1,(h.head.cell 6 rfl).1,(h.head.cell 7 rfl).1,(h.head.cell 8 rfl).1,(h.head.cell 9 rfl).1,(h.head.cell 10 rfl).1⟩,(h.head.cell 11 rfl).1,(h.head.cell 12 rfl).1,(h.head.cell 13 rfl).1⟩
theorem Jq.fz {L:ZdU} (h:Jq M I w p pd L s) (j:Nat):w.frozen? ⟨p,j,none⟩=false:=frozen_of_row w p j _ _ h.head
def SD (K:Nat->Prop) (w:World) (pd p:Nat) (s:Sto) (d:Dk) (N T:Nat):Prop:=
 ∃ F M I L,Dsk F w pd d N T∧Jq M I w p pd L s∧(∀ k,F k->¬ K k)∧(∀ k,M k->¬ K k)∧(∀ k,I k->¬ K k)∧(∀ k,F k->¬ M k)∧(∀ k,F k->¬ I k)
def Jz (K:Nat->Prop) (w:World) (pd p:Nat) (r:SDk × Int) (N T:Nat) (e:Ending) (w':World):Prop:=
 e=.returned (.int .i64 r.2)∧SD K w' pd p r.1.1 r.1.2 N T∧Ql (fun k=>¬ K k) w w'
theorem SD.below (h:SD K w pd p s d N T) (a:Below w.heap.size w w'):SD K w' pd p s d N T:=by
 obtain⟨F,M,I,L,e,b,c⟩:=h;exact⟨F,M,I,L,e.below a,b.below a,c⟩
theorem SD.mono (h:SD K w pd p s d N T) (c:N<=N') (e:T<=T'):SD K w pd p s d N' T':=by
 obtain⟨F,M,I,L,f,a,b⟩:=h;exact⟨F,M,I,L,f.mono c e,a,b⟩
theorem SD.less {e:Nat->Prop} (h:SD K w pd p s d N T) (c:∀ k,e k->K k):SD e w pd p s d N T:=by
 obtain⟨F,M,I,L,l,f,g,j,m,i⟩:=h;exact⟨F,M,I,L,l,f,fun k a b=>g k a (c k b),fun k a b=>j k a (c k b),fun k a b=>m k a (c k b),i⟩
theorem SD.fresh (h:SD K w pd p s d N T) (c:Below w.heap.size w w'):SD (fun k=>K k∨(w.heap.size<=k∧k<w'.heap.size)) w' pd p s d N T:=by
 obtain⟨F,M,I,L,e,b,f,i,j,g⟩:=h;refine⟨F,M,I,L,e.below c,b.below c,fun k a hh=>?_,fun k a hh=>?_,fun k a hh=>?_,g⟩
 ·rcases hh with hh | hh
  ·exact f k a hh
  ·have:=e.ltF k a
   omega
 ·rcases hh with hh | hh
  ·exact i k a hh
  ·have:=b.ltM k a
   omega
 ·rcases hh with hh | hh
  ·exact j k a hh
  ·have:=b.ltI k a
   omega
theorem SD.onlyK (h:SD K w pd p s d N T) (c:Ql K w w'):SD K w' pd p s d N T:=by
 obtain⟨F,M,I,L,i,f,a,b,e,g⟩:=h;exact⟨F,M,I,L,i.only c a,f.only c b e,a,b,e,g⟩
theorem SD.disk {d':Dk} {f:Nat} {args:Array Value} {c:Int} (h:SD K w pd p s d N T) (u:∀ k,K k->k<w.heap.size)
 (A:∀ F,Dsk F w pd d N T->(∀ k,F k->¬ K k)->Calls prog f args w fun e w'=>Zgk F w pd d' c N' T' e w'):Calls prog f args w fun e w'=>e=.returned (.int .i64 c)∧SD K w' pd p s d' N' T'∧Ql (fun k=>¬ K k) w w':=by
 obtain⟨F,M,I,L,y,i,j,v,t,n,m⟩:=h;refine(A F y j).mono ?_;rintro e w' ⟨z,F',x,q,l⟩;refine⟨z,⟨F',M,I,L,x,i.only q (fun k a g=>n k g a) (fun k a g=>m k g a),fun k a b=>?_,v,t,fun k a b=>?_,fun k a b=>?_⟩,q.mono j⟩
 ·rcases l k a with hx | hx
  ·exact j k hx b
  ·have:=u k b
   omega
 ·rcases l k a with hx | hx
  ·exact n k hx b
  ·have:=i.ltM k b
   omega
 ·rcases l k a with hx | hx
  ·exact m k hx b
  ·have:=i.ltI k b
   omega
theorem SD.own {M' I':Nat->Prop} {s':Sto} {L':ZdU} (e:∀ k,K k->k<w.heap.size) (c:Dsk F w pd d N T) (n:∀ k,F k->¬ K k) (g:∀ k,M k->¬ K k) (q:∀ k,I k->¬ K k) (f:∀ k,F k->¬ M k) (l:∀ k,F k->¬ I k)
 (i:Ql M w w') (m:Jq M' I' w' p pd L' s') (h:∀ k,M' k->M k∨w.heap.size<=k) (j:∀ k,I' k->I k∨w.heap.size<=k):SD K w' pd p s' d N T∧Ql (fun k=>¬ K k) w w':=by
 refine⟨⟨F,M',I',L',c.only i f,m,n,fun k a b=>?_,fun k a b=>?_,fun k a b=>?_,fun k a b=>?_⟩,i.mono g⟩
 ·rcases h k a with hx | hx
  ·exact g k hx b
  ·have:=e k b
   omega
 ·rcases j k a with hx | hx
  ·exact q k hx b
  ·have:=e k b
   omega
 ·rcases h k b with hx | hx
  ·exact f k a hx
  ·have:=c.ltF k a
   omega
 ·rcases j k b with hx | hx
  ·exact l k a hx
  ·have:=c.ltF k a
   omega
theorem Zir (h:j<l.length):l.getD j 0 ∈ l:=by
 rw[show l.getD j 0=l[j] by simp[List.getD,h]]
 exact getElem_mem h
def ZzM (p:Int->Bool) (l:List Int) (k:Int):Prop:=(k=-1∧∀ j,j<l.length->p (l.getD j 0)=false)∨∃ i:Nat,k=(i:Int)∧i<l.length∧(∀ j,j<i->p (l.getD j 0)=false)∧p (l.getD i 0)=true
theorem ZjM (g R:Nat) (p:Int->Bool) (v:Value) (l:List Int) (w:World) (B:RdI w v l)
 (T:∀ args W,(callFunc g args).run prog W=.ok (.enter g args) W)
 (J:∀ W e,e ∈ l->Below w.heap.size w W->Calls prog g #[.int .i64 e,.pointer (some ⟨R,0,none⟩)] W fun x w'=>x=.returned (.bool (p e))∧Below W.heap.size W w'):
 Calls prog 158 #[v,.func (.func g) #[] #[.pointer (some ⟨R,0,none⟩)]] w fun x w'=>∃ k:Int,x=.returned (.int .i64 k)∧ZzM p l k∧Below w.heap.size w w':=by
 have N:=ZZ B;have G:=ZZ J;obtain⟨Q,Y,rfl,M,D,-,-,E⟩:=B;have H:=ZZ E;have X:(l.length:Int)<=9223372036854775807:=by unfold maxLen at D;omega
 clear J M D E
 go_enter func158,ntmps158
 go_wp2
 go_loopw[8] (fun n wr=>∃ q:Nat,n=.int .i64 (q:Int)∧q<=l.length∧Hid (∀ j,j<q->p (l.getD j 0)=false)∧Hid (Below w.heap.size w wr)) (fun n _=>l.length-(intOf n).toNat)
 case atStart=>exact⟨0,rfl,Nat.zero_le _,ZZ (fun j i=>absurd i (Nat.not_lt_zero _)),Below.refl _ _⟩
 case round=>
  obtain⟨q,rfl,U,y,d⟩:=hrel;by_cases c:q<l.length
  case neg=>
   obtain rfl:q=l.length:=by omega
   go_wp2;go_ret;exact⟨-1,rfl,.inl ⟨rfl,y.out⟩,d.out⟩
  have V:(q:Int)<(l.length:Int):=by omega
  rcases H.o with P | ⟨b,z,rfl,A⟩
  ·rw[P] at c;simp at c
  have L:wr.cell? ⟨b,z+q,none⟩=some (.int .i64 (l.getD q 0)):=(World.cell?_of_block (a:=⟨b,z+q,none⟩) (d.out.block b (World.block_lt_of_cell? w ⟨b,z+q,none⟩ (A q c)))).trans (A q c);have f:=ZZ (G.o wr (l.getD q 0) (Zir c) d.out);have O:Hid (∀ j,j<q+1->j=q∨j<q):=ZZ (fun j i=>by omega)
  obtain⟨e,m⟩:∃ e,e=l.getD q 0:=⟨_,rfl⟩;rw[<-m] at f L;have K:=ZZ m;obtain⟨u,t⟩:∃ u,u=p e:=⟨_,rfl⟩;rw[<-t] at f;have I:=ZZ t;clear m A G H N t
  go_wp2_with fail
  refine f.o.mono ?_;rintro x S ⟨rfl,F⟩;have C:=ZZ (d.out.trans (F.mono d.out.size));clear F f
  cases u with
  | true=>
   go_wp2;go_ret;exact⟨(q:Int),rfl,.inr ⟨q,rfl,c,y.out,by rw[<-K.o];exact I.o.symm⟩,C.o⟩
  | false=>
   go_wp2;go_roundw
   case rel=>exact⟨q+1,by go_num,by omega,ZZ (fun j i=>by
    rcases O.o j i with h | h
    ·rw[h,<-K.o];exact I.o.symm
    ·exact y.out j h),C⟩
   case measure=>simp[intOf];omega
theorem ZcL (p:Int->Bool) (l:List Int) (j:Nat) (a:j<l.length):(l.take (j+1)).filter (fun e=>!p e)=(l.take j).filter (fun e=>!p e)++if p (l.getD j 0)=true then[] else[l.getD j 0]:=by
 have b:l.take (j+1)=l.take j++[l.getD j 0]:=by
  rw[List.take_add_one,List.getElem?_eq_getElem a];simp[List.getD,a]
 rw[b,List.filter_append]
 congr 1
 generalize l.getD j 0=x
 cases h:p x <;> simp[h]
theorem Zgm (p:Int->Bool) (l:List Int) (i:Nat) (c:i<=l.length) (h:∀ j,j<i->p (l.getD j 0)=false):(l.take i).filter (fun e=>!p e)=l.take i:=by
 rw[List.filter_eq_self];intro e b;obtain⟨j,a,rfl⟩:=List.getElem_of_mem b;rw[length_take] at a;have:=h j (by omega)
 rw[List.getElem_take];simp only [List.getD,List.getElem?_eq_getElem (show j<l.length by omega),Option.getD_some] at this
 simp[this]
def ZtP (p:Int->Bool) (l L:List Int) (i j:Nat):Prop:=L.length=l.length∧L.take i=(l.take j).filter (fun e=>!p e)∧L.drop j=l.drop j∧i<j
theorem ZtP.start {p:Int->Bool} (a:i<l.length) (h:∀ j,j<i->p (l.getD j 0)=false) (b:p (l.getD i 0)=true):ZtP p l l i (i+1):=by
 refine⟨rfl,?_,rfl,Nat.lt_succ_self _⟩;rw[ZcL p l i a,if_pos b,append_nil,Zgm p l i (by omega) h]
theorem ZtP.at {p:Int->Bool} (h:ZtP p l L i j):L.getD j 0=l.getD j 0:=by
 obtain⟨f,d,a,e⟩:=h;have c:(L.drop j).getD 0 0=L.getD j 0:=by simp[List.getD]
 have b:(l.drop j).getD 0 0=l.getD j 0:=by simp[List.getD]
 rw[<-c,<-b,a]
theorem Zkw (h:L.drop j=l.drop j):L.drop (j+1)=l.drop (j+1):=by
 rw[<-List.drop_drop,<-List.drop_drop,h]
theorem ZtP.skip {p:Int->Bool} (h:ZtP p l L i j) (d:j<l.length) (c:p (l.getD j 0)=true):ZtP p l L i (j+1):=by
 obtain⟨e,a,b,f⟩:=h;refine⟨e,?_,Zkw b,by omega⟩
 rw[ZcL p l j d,if_pos c,append_nil,a]
theorem ZtP.keep {p:Int->Bool} (h:ZtP p l L i j) (d:j<l.length) (c:p (l.getD j 0)=false):ZtP p l (L.set i (l.getD j 0)) (i+1) (j+1):=by
 obtain⟨e,a,b,f⟩:=h;refine⟨by rw[length_set,e],?_,?_,by omega⟩
 ·rw[ZcL p l j d,if_neg (by rw[c];simp),<-a,List.take_add_one,List.take_set_of_le zL]
  congr 1
  rw[List.getElem?_set_self (by omega)]
  rfl
 ·rw[List.drop_set_of_lt (by omega)]
  exact Zkw b
theorem Qs.cutClear {g:Nat} (h:Qs w B (.slice (some ⟨g,0,none⟩) n cap) l) (i:Nat) (p:i<=l.length) (vs:List Value):Qs (w.setCells g i vs) B (.slice (some ⟨g,0,none⟩) i cap) (l.take i):=by
 rcases h.row with ⟨a,-⟩ | ⟨g',q,cur,a,d,t,e,u,c,b,m⟩
 ·cases a
 ·injection a with a _ h3
  injection a with a
  injection a with a
  subst a h3;have f:=Xy g _ vs i w cur e;refine Qs.ofRowN (by rw[length_take];omega) d f (by rw[length_take];omega) c (by rw[Xr];exact b) fun j k=>?_
  rw[length_take] at k;rw[Yq _ _ _ _ (by omega),if_neg (by omega),m j (by omega)]
  simp[List.getD,show j<i by omega]
theorem Zis (g R:Nat) (p:Int->Bool) (v:Value) (l:List Int) (B:Nat) (w:World) (t:Qs w B v l) (hI:∀ e ∈ l,I64 e) (P:B<=w.heap.size) (au:l.length<=1000000)
 (eg:∀ args W,(callFunc g args).run prog W=.ok (.enter g args) W)
 (A:∀ W e,e ∈ l->Below B w W->Calls prog g #[.int .i64 e,.pointer (some ⟨R,0,none⟩)] W fun x w'=>x=.returned (.bool (p e))∧Below W.heap.size W w'):
 Calls prog 112 #[v,.func (.func g) #[] #[.pointer (some ⟨R,0,none⟩)]] w fun x w'=>∃ v',x=.returned v'∧Qs w' B v' (l.filter (fun e=>!p e))∧Below B w w':=by
 have HO:=ZZ t;have HP:=ZZ A;have Q:=ZZ (ZjM g R p v l w (t.rd hI) eg (fun W e n h=>A W e n (h.mono P)))
 obtain⟨va,d,hv⟩:=t.shape;subst hv;clear t A
 go_enter func112,ntmps112
 go_wp2_with fail
 refine Q.o.mono ?_;rintro x W0 ⟨k,rfl,a,M⟩;have y:=ZZ (M.mono P);have u:=ZZ (HO.o.below M zL);clear Q M HO;rcases a with ⟨rfl,a⟩ | ⟨O,rfl,H,a,ac⟩
 ·have HE:Hid (l.filter (fun e=>!p e)=l):=ZZ (by
   have:=Zgm p l l.length zL a
   rwa [List.take_length] at this)
  clear a;go_wp2;go_ret;exact⟨_,rfl,by rw[HE.o];exact u.o,y.o⟩
 have aa:=ZZ (ZtP.start H a ac);clear a ac;rcases u.o.row with ⟨-,h2⟩ | ⟨f,cap,cur,C,Y,-,-,ax,ag,-,-⟩
 ·rw[h2] at H;simp at H
 injection C with C _ h3
 subst C h3;have aq:(l.length:Int)<=1000000:=by omega
 clear cur ag;have ei:((O:Int) == -1)=false:=beq_eq_false_iff_ne.2 (by omega)
 go_wp2
 go_loopw[5,6] (fun v5 G wr=>∃ (i j:Nat) (L:List Int),v5=.int .i64 (i:Int)∧G=.int .i64 (j:Int)∧i<j∧j<=l.length∧Hid (Qs wr B (.slice (some ⟨f,0,none⟩) l.length d) L)∧Hid (ZtP p l L i j)∧Hid (Below B w wr)) (fun _ G _=>l.length-(intOf G).toNat)
 case atStart=>exact⟨O,O+1,l,rfl,by go_num,by omega,by omega,u,aa,y⟩
 case round=>
  clear u aa y ei;obtain⟨i,j,L,rfl,rfl,am,ay,c,b,m⟩:=hrel;by_cases E:j<l.length
  case neg=>
   obtain rfl:j=l.length:=by omega
   have hL:L.length=l.length:=b.out.1;have HT:Hid (L.take i=l.filter (fun e=>!p e)):=ZZ (by rw[b.out.2.1,List.take_length])
   obtain⟨g',af,J,-,ak,-,-,-,-⟩:=c.out.put i (by omega) 0
   injection J with e1 e2 e3
   clear e2
   injection e1 with e1
   injection e1 with e1
   subst e1 e3
   have U:Hid (∀ k,k<l.length->wr.frozen? ⟨f,k,none⟩=false∧(wr.cell? ⟨f,k,none⟩).isSome=true):=ZZ (fun k X=>by
    obtain⟨g2,aj,N,ae,ad,-⟩:=c.out.put k (by omega) 0
    injection N with f1 _ _
    injection f1 with f1
    injection f1 with f1
    subst f1
    exact⟨ad,by rw[ae];rfl⟩)
   have HK:Hid (∀ ty,(Builtin.clear_ #[23] ty #[.slice (some ⟨f,i,none⟩) (l.length-i) (d-i)]).run prog wr=.ok (.tuple #[]) (wr.setCells f i (List.replicate (l.length-i) (.int .i64 0)))):=ZZ (fun ty=>
    Go.Lib.run_clear_slice wr _ _ ty (.int .i64 0) underlying23 Tryz.zeroValue3 rfl rfl f i (l.length-i) (d-i) (by omega) (fun k X=>(U.o (i+k) (by omega)).2) (fun k X=>(U.o (i+k) (by omega)).1))
   have Z:=ZZ (c.out.cutClear i (by omega) (List.replicate (l.length-i) (.int .i64 0)))
   rw[HT.o] at Z;have ah:=ZZ (Gy Y (List.replicate (l.length-i) (.int .i64 0)) i wr m.out);have ap:¬ (d=i):=by omega
   have q:(i:Int)<=(l.length:Int):=by omega
   have al:(i:Int)<=(d:Int):=by omega
   have ar:i<=l.length:=by omega
   have aw:i<=d:=by omega
   clear ak;have hK:=HK.o;go_wp2;go_ret;exact⟨_,rfl,Z.o,ah.o⟩
  have av:(j:Int)<(l.length:Int):=by omega
  have an:L.length=l.length:=b.out.1;obtain⟨g',af,J,I,-⟩:=c.out.put j (by omega) 0
  injection J with e1 e2 e3
  clear e2
  injection e1 with e1
  injection e1 with e1
  subst e1 e3;rw[b.out.at] at I;have z:=ZZ (b.out.skip E);have K:=ZZ (b.out.keep E);obtain⟨e,n⟩:∃ e,e=l.getD j 0:=⟨_,rfl⟩;rw[<-n] at I z K;obtain⟨D,ab⟩:∃ D,D=p e:=⟨_,rfl⟩;have F:=ZZ (fun W h=>HP.o W e (by rw[n];exact Zir E) h)
  rw[<-ab] at F z K;clear n ab b
  go_wp2_with fail
  refine(F.o _ m.out).mono ?_;rintro x W1 ⟨rfl,q⟩;have S:=ZZ (m.out.trans (q.mono (Nat.le_trans P m.out.size)));have V:=ZZ (c.out.below q zL);clear q F I c m
  cases D with
  | true=>
   go_wp2;go_roundw
   case rel=>exact⟨i,j+1,L,rfl,by go_num,by omega,by omega,V,ZZ (z.o (by simp)),S⟩
   case measure=>simp[intOf];omega
  | false=>
   obtain⟨g2,aj,N,d0,z0,-,-,T,-⟩:=V.o.put i (by omega) e
   injection N with f1 f2 f3
   clear f2
   injection f1 with f1
   injection f1 with f1
   subst f1 f3;have ai:=ZZ T;clear T;have az:(i:Int)<(l.length:Int):=by omega
   have ao:i<l.length:=by omega
   go_wp2;go_roundw
   case rel=>exact⟨i+1,j+1,L.set i e,by go_num,by go_num,by omega,by omega,ai,ZZ (K.o (by simp)),ZZ (S.o.setCell Y _)⟩
   case measure=>simp[intOf];omega
theorem Y4 {c:Array Oper} {o:Oper} {a:Act} {K:Act->World->Prop} {Q:Exit->Act->World->Prop} {E:Prop} {R:Value->World->Prop}
 (f:FuncId) (xs:Array Operand) (ts:Array TypeId) (n:o.guard=none) (d:o.op=Op.call { callee:=Callee.value (Operand.func f),args:=xs,argTypes:=ts }) (b:Array Value) (m:xs.map a.eval=b)
 (l:∀ args w,(callFunc f args).run prog w=.ok (.enter f args) w) (g:Calls prog f b w fun e w'=>∃ v',e=.returned v'∧R v' w') (j:∀ v' w',R v' w'->K (a.put o.dst v') w'):
 if Region.wanted o (yielded c a.tmps)=true then Oper.wp prog o a w K Q else E:=by
 have i:Region.wanted o (yielded c a.tmps)=true:=by simp[Region.wanted,n]
 rw[if_pos i];unfold Oper.wp
 have h:(execOp a.eval o).run prog w=.ok (.enter f b) w:=by
  have p:a.eval (Operand.func f)=.func (.func f) #[] #[]:=rfl;simp[execOp,d,resolve,invoke,m,p,Deferred.ofValue,l]
 rw[h,Oper.upon_enter];refine g.mono ?_;rintro e w' ⟨v',rfl,k⟩;exact j v' w' k
theorem ZlK (b o:Nat) (f:Int) (d:Option Addr) (n a:Nat) (w:World) (i:w.cell? ⟨b,o,none⟩=some (.int .i64 f)) (h:w.cell? ⟨b,o+1,none⟩=some (.slice d n a)) (j:0<=f) (k:f+n<=9000000000000000000):
 Calls prog 38 #[.pointer (some ⟨b,o,none⟩)] w fun e w'=>e=.returned (.int .i64 (f+n))∧Below w.heap.size w w':=by
 have c:IntKind.i64.wrap (f+(n:Int))=f+n:=by rw[IntKind.wrap_i64];omega
 have g:(n:Int)<=9000000000000000000:=by omega
 go_enter func38,ntmps38
 go_upto_region 1 with fail
 go_quiet(fail)
 go_wp2;go_ret;refine⟨?_,Xo (Below.refl _ _) _⟩
 first | rfl | (rw[c])
structure ZpE (s:Sto):Prop where
 f0:0<=s.log.first
 f1:s.next<=4611686018427387904
 sy:I64 s.synced
 cu:I64 s.cur
theorem Zit {L:ZdU} (w:World) (h:Jq M I w p pd L s) (f:ZpE s):
 Calls prog 14 #[ptr p] w fun e w'=>e=.returned (.int .i64 s.next)∧Below w.heap.size w w':=by
 obtain⟨j,k,c⟩:=h.recs.shape;obtain⟨-,b,a,-⟩:=h.cs;rw[c] at a;have g:=f.f1;have i:=f.f0;unfold Sto.next Lgb.next at g;have l:=ZZ (ZlK p 1 s.log.first j s.log.recs.length k w b a i (by omega))
 have n:Hid (s.next=s.log.first+s.log.recs.length):=ZZ rfl;rw[n.o];generalize s.log.first+(s.log.recs.length:Int)=nx at *;clear b a c g i
 go_enter func14,ntmps14
 go_wp2_with fail
 refine l.o.mono ?_;rintro e w' ⟨rfl,d⟩;have m:=ZZ d;clear d;go_wp2;go_ret;exact⟨rfl,m.o⟩
theorem Zkx {L:ZdU} (w:World) (h:Jq M I w p pd L s):
 Calls prog 18 #[ptr p] w fun e w'=>e=.returned (.int .i64 s.log.first)∧w'=w:=by
 obtain⟨-,a,-⟩:=h.cs;clear h
 go_enter func18,ntmps18
 go_wp2;go_ret;exact⟨rfl,rfl⟩
theorem Ziu {L:ZdU} (w:World) (h:Jq M I w p pd L s):
 Calls prog 11 #[ptr p] w fun e w'=>e=.returned (.int .i64 s.synced)∧w'=w:=by
 obtain⟨-,-,-,-,-,-,a,-⟩:=h.cs;clear h
 go_enter func11,ntmps11
 go_wp2;go_ret;exact⟨rfl,rfl⟩
theorem Zva (v:Value) (l:List Int) (x:Int) (w:World) (p:RdI w v l) (q:l.length<=1000000000):
 Calls prog 92 #[v,.int .i64 x] w fun e w'=>e=.returned (.int .i64 (l.getD (l.length-1) x))∧w'=w:=by
 obtain⟨ao,cap,rfl,h,d,-,-,c⟩:=p;have k:(l.length:Int)<=9223372036854775807:=by unfold maxLen at d;omega
 by_cases a:l.length=0
 ·have e:l=[]:=List.eq_nil_of_length_eq_zero a
  subst e;have j:((0:Int) == 0)=true:=rfl;clear c d h a;have u:([]:List Int).length=0:=rfl;rw[u]
  go_enter func92,ntmps92
  go_wp2;go_ret;exact⟨rfl,rfl⟩
 ·rcases c with c | ⟨b,z,rfl,n⟩
  ·rw[c] at a;simp at a
  have j:((l.length:Int) == 0)=false:=beq_eq_false_iff_ne.2 (by omega)
  have f:=n (l.length-1) (by omega)
  have e:l.getD (l.length-1) x=l.getD (l.length-1) 0:=by
   simp[List.getD,show l.length-1<l.length by omega]
  rw[e];obtain⟨y,g⟩:∃ y,y=l.getD (l.length-1) 0:=⟨_,rfl⟩;rw[<-g] at f ⊢;obtain⟨m,i⟩:∃ m,l.length=m+1:=⟨l.length-1,by omega⟩
  rw[i] at f j k ⊢;have t:m+1-1=m:=by omega
  rw[t] at f;have A:(m:Int)<=1000000000:=by omega
  clear g n e d h a i k q
  go_enter func92,ntmps92
  go_wp2;go_ret;exact⟨rfl,rfl⟩
def ZeL (first n:Int):Bool:=decide (n<first) || decide ((n-first) % 2≠0)
theorem Znv (l:List Int) (first:Int):Xk l first=l.filter fun n=>!ZeL first n:=rfl
theorem Zvb (R:Nat) (first n:Int) (w:World) (c:w.cell? ⟨R,0,none⟩=some (.int .i64 first)) (m:0<=first) (i:first<=1000) (j:-1000000000000000000<=n) (l:n<=1000000000000000000):
 Calls prog 111 #[.int .i64 n,.pointer (some ⟨R,0,none⟩)] w fun e w'=>e=.returned (.bool (ZeL first n))∧Below w.heap.size w w':=by
 by_cases b:n<first
 ·have e:ZeL first n=true:=by unfold ZeL;rw[decide_eq_true b];rfl
  rw[e];clear e
  go_enter func111,ntmps111
  go_wp2;go_ret;exact⟨rfl,Below.refl _ _⟩
 ·have k:IntKind.i64.wrap (n-first)=n-first:=by rw[IntKind.wrap_i64];omega
  have d:(n-first).tmod 2=(n-first) % 2:=Int.tmod_eq_emod_of_nonneg (by omega)
  by_cases a:(n-first) % 2=0
  ·have e:ZeL first n=false:=by unfold ZeL;rw[decide_eq_false b,decide_eq_false (fun h=>h a)];rfl
   have g:((n-first) % 2 != 0)=false:=by rw[a];rfl
   have f:((n-first).tmod 2 != 0)=false:=by rw[d,a];rfl
   rw[e];clear e a
   go_enter func111,ntmps111
   go_wp2;go_ret;exact⟨rfl,Below.refl _ _⟩
  ·have e:ZeL first n=true:=by unfold ZeL;rw[decide_eq_false b,decide_eq_true a];rfl
   have g:((n-first) % 2 != 0)=true:=by rw[bne_iff_ne];exact a
   have f:((n-first).tmod 2 != 0)=true:=by rw[d,bne_iff_ne];exact a
   rw[e];clear e a
   go_enter func111,ntmps111
   go_wp2;go_ret;exact⟨rfl,Below.refl _ _⟩
theorem Zbg (h:OkD d):∀ n ∈ Qk d,0<=n∧n<1048576:=fun n b=>by
 obtain⟨e,c,rfl⟩:=List.mem_map.1 b;have a:=(h.dir.may e c).1;unfold ZdE at a;simp only [Bool.and_eq_true,decide_eq_true_eq] at a;exact a
theorem Zcj (first:Int) (w:World) (h:Dsk F w p d N T) (P:N<=1000000) (R:0<=first) (I:first<=1000):
 Calls prog 74 #[ptr p,.int .i64 first] w fun e w'=>∃ v,e=.returned v∧Qs w' w.heap.size v (Xk (Qk d) first)∧Below w.heap.size w w':=by
 obtain⟨b,g⟩:∃ b,b=w.alloc (.cells #[.int .i64 first] 3):=⟨_,rfl⟩;have f:Hid (Below w.heap.size w b):=ZZ (by rw[g];exact Jw _ _)
 have u:Hid (Bk 3 b w.heap.size #[.int .i64 first]):=ZZ (by rw[g];exact heap_alloc_new w _)
 have q:=ZZ (h.below f.o)
 have z:Hid (Calls prog 28 #[ptr p] b fun e w'=>∃ v,e=.returned v∧Qs w' b.heap.size v (Qk d)∧Below b.heap.size b w'):=ZZ (by
  obtain⟨L,x,k,-⟩:=q.o
  exact ZeC b x k P)
 have m:Hid (∀ n ∈ Qk d,0<=n∧n<1048576):=ZZ (by
  obtain⟨L,x,k,-⟩:=q.o
  exact Zbg k)
 have O:Hid ((Qk d).length<=1000000):=ZZ (by
  obtain⟨L,x,k,K,-⟩:=q.o;have H:=Zbt d d.waits.length;rw[Zdc] at H;have:=K.names;unfold Qk;rw[length_map]
  omega)
 clear h
 go_enter func74,ntmps74
 go_upto_region 1 with fail
 rw[<-g];clear g
 go_wp2_with fail
 refine z.o.mono ?_;rintro e B ⟨D,rfl,l,i⟩;have G:=ZZ (f.o.trans (i.mono f.o.size));have J:Hid (∀ W,Below b.heap.size B W->W.cell? ⟨w.heap.size,0,none⟩=some (.int .i64 first)):=ZZ (fun W t=>((u.o.keep ((t.block _ u.o.lt).trans (i.block _ u.o.lt))).cell 0 rfl).1)
 have A:=ZZ (Zis 111 w.heap.size (ZeL first) D (Qk d) b.heap.size B l (fun n j=>by
  have:=m.o n j
  exact⟨by omega,by omega⟩) i.size O.o (enters_of func111 (by kernel_rfl) rfl) (fun W n j t=>Zvb w.heap.size first n W (J.o W t) R I (by have:=m.o n j;omega) (by have:=m.o n j;omega)))
 rw[<-Znv] at A
 obtain⟨V,X,U,S⟩:∃ a n c,D=.slice a n c:=by
  obtain⟨a,c,E⟩:=l.shape;exact⟨a,_,c,E⟩
 subst S;clear l i z
 go_wp2_with fail
 refine A.o.mono ?_;rintro e Y ⟨Z,rfl,C,y⟩;have M:=ZZ (C.mono f.o.size);have Q:=ZZ (G.o.trans (y.mono f.o.size));clear C y;go_wp2;go_ret;exact⟨_,rfl,M.o,Q.o⟩
theorem Zgn {L:ZdU} (first:Int) (w:World) (h:Jq M I w p pd L s) (b:Dsk F w pd d N T) (K:N<=1000000) (h1:2<=first) (E:first<=1000):
 Calls prog 50 #[ptr p,.int .i64 first] w fun e w'=>e=.returned (.int .i64 (Xs d first))∧Below w.heap.size w w':=by
 have G:=ZZ (Zcj first w b K (by omega) E)
 have q:Hid (∀ n ∈ Xk (Qk d) first,0<=n∧n<1048576):=ZZ (by
  obtain⟨L,U,u,-⟩:=b
  exact fun n j=>Zbg u n (List.mem_filter.1 j).1)
 have x:Hid ((Qk d).length<=1000000000):=ZZ (by
  obtain⟨L,U,u,H,-⟩:=b;have D:=Zbt d d.waits.length;rw[Zdc] at D;have:=H.names;unfold Qk;rw[length_map]
  omega)
 obtain⟨v,-⟩:=h.cs;have J:Hid (Xs d first=(Xk (Qk d) first).getD ((Xk (Qk d) first).length-1) (first-2)+2):=ZZ rfl
 have g:Hid (0<=(Xk (Qk d) first).getD ((Xk (Qk d) first).length-1) (first-2)∧(Xk (Qk d) first).getD ((Xk (Qk d) first).length-1) (first-2)<=1048576):=ZZ (by
  by_cases S:(Xk (Qk d) first).length=0
  ·rw[List.eq_nil_of_length_eq_zero S]
   show 0<=first-2∧first-2<=1048576;omega
  ·have B:(Xk (Qk d) first).getD ((Xk (Qk d) first).length-1) (first-2) ∈ Xk (Qk d) first:=by
    rw[show(Xk (Qk d) first).getD ((Xk (Qk d) first).length-1) (first-2)=(Xk (Qk d) first)[(Xk (Qk d) first).length-1]'(by omega) by simp[List.getD,show(Xk (Qk d) first).length-1<(Xk (Qk d) first).length by omega]]
    exact getElem_mem _
   have:=q.o _ B
   omega)
 clear h b;rw[J.o];have Q:Hid ((Xk (Qk d) first).length<=1000000000):=ZZ (Nat.le_trans (List.length_filter_le _ _) x.o);generalize Xk (Qk d) first=l at *;obtain⟨y,f⟩:∃ y,y=l.getD (l.length-1) (first-2):=⟨_,rfl⟩;rw[<-f] at g ⊢;have O:=ZZ f;clear f
 go_enter func50,ntmps50
 go_wp2_with fail
 refine G.o.mono ?_;rintro e A ⟨P,rfl,i,t⟩;have C:=ZZ t
 have m:=ZZ (i.rd (fun n j=>by
  have:=q.o n j
  exact⟨by omega,by omega⟩))
 obtain⟨X,Y,V,R⟩:∃ a n c,P=.slice a n c:=by
  obtain⟨a,c,z⟩:=i.shape;exact⟨a,_,c,z⟩
 subst R;have k:=ZZ (Zva _ l (first-2) A m.o Q.o);rw[<-O.o] at k;have aa:=g.o.1;have W:=g.o.2;clear i t m v
 go_wp2_with fail
 refine k.o.mono ?_;rintro e Z ⟨rfl,rfl⟩;go_wp2;go_ret;exact⟨rfl,C.o⟩
def ZzN:Q0 × Value × Value:=(Yb,.slice none 0 0,.slice none 0 0)
def Zck (l:List (Q0 × Value × Value)):Q0 × Value × Value:=l.getD (l.length-1) ZzN
theorem Zky {L:ZdU} (h:L.bs.map Prod.fst=s.bases):(Zck L.bs).1=s.base:=by
 unfold Zck Sto.base;rw[<-h,length_map];simp only [List.getD,List.getElem?_map]
 cases L.bs[L.bs.length-1]? <;> rfl
theorem Ziv {l:List (Q0 × Value × Value)} (h:l.length≠0):Zck l ∈ l:=by
 unfold Zck;rw[show l.getD (l.length-1) ZzN=l[l.length-1]'(by omega) by simp[List.getD,show l.length-1<l.length by omega]]
 exact getElem_mem _
theorem Zvc {l:List (Q0 × Value × Value)} (h:w.ownsRow 0 41 6 v l.length (Xv l)) (n:l.length≠0):
 ∃ g cap,v=.slice (some ⟨g,0,none⟩) l.length cap∧∀ k u,k<6->(snC (Zck l))[k]?=some u->w.cell? ⟨g,(l.length-1)*6+k,none⟩=some u:=by
 rcases h.2 with ⟨_,j⟩ | ⟨g,cap,cur,f,_,i,q,p,t,m⟩
 ·exact absurd j n
 ·refine⟨g,cap,f,fun k u d b=>?_⟩
  have c:l.length-1<l.length:=by omega
  have e:Zck l=l[l.length-1]:=by unfold Zck;simp[List.getD,c]
  rw[e] at b;rw[cell_of_row w g _ _ _ _ i];have a:=Ziq l (l.length-1) k c d;rw[b,<-m,List.getElem?_take] at a;rw[if_pos (by omega)] at a
  rw[<-Array.getElem?_toList];exact a
theorem Zvd (v:Value) (l:List (Q0 × Value × Value)) (w:World) (h:w.ownsRow 0 41 6 v l.length (Xv l)) (P:l.length≠0) (T:l.length<=1000000000) (N:∃ a n c a' n' c',(Zck l).2.1=.slice a n c∧(Zck l).2.2=.slice a' n' c'):
 Calls prog 78 #[v,.agg #[.int .i64 0,.int .i64 0,.slice none 0 0,.bool false,.int .i64 0,.slice none 0 0]] w fun e w'=>e=.returned (snV (Zck l))∧Below w.heap.size w w':=by
 obtain⟨g,cap,rfl,d⟩:=Zvc h P;obtain⟨x,y⟩:∃ x,x=Zck l:=⟨_,rfl⟩;rw[<-y] at d N ⊢;obtain⟨m,C⟩:∃ m,l.length=m+1:=⟨l.length-1,by omega⟩
 have M:l.length-1=m:=by omega
 rw[M] at d;obtain⟨⟨z,⟨kd,LL,A,D⟩,tb⟩,vl,vt⟩:=x;obtain⟨J,K,lc,H,E,L,O,G⟩:=N
 dsimp only at O G
 subst O G;have q:=d 0 _ (by decide) rfl
 have u:=d 1 _ (by decide) rfl
 have F:=d 2 _ (by decide) rfl
 have I:=d 3 _ (by decide) rfl
 have t:=d 4 _ (by decide) rfl
 have B:=d 5 _ (by decide) rfl
 have i:g<w.heap.size:=World.block_lt_of_cell? w ⟨g,m*6+0,none⟩ q;rw[C];have S:((m+1:Nat):Int)≠0:=by omega
 have Y:((((m+1:Nat):Int)) == 0)=false:=beq_eq_false_iff_ne.2 S;have aa:(m:Int)<=1000000000:=by omega
 obtain⟨b,k⟩:∃ b,b=(w.alloc (.cells #[.int .i64 0,.int .i64 0,.slice none 0 0,.bool false,.int .i64 0,.slice none 0 0] 41)).alloc (.cells #[.int .i64 0,.int .i64 0,.slice none 0 0,.bool false,.int .i64 0,.slice none 0 0] 41):=⟨_,rfl⟩;have f:Hid (Below w.heap.size w b):=ZZ (by rw[k];exact((Below.refl _ _).alloc zL _).alloc (by simp) _)
 have j:Hid (Bn b (w.heap.size+1) #[.int .i64 0,.int .i64 0,.slice none 0 0,.bool false,.int .i64 0,.slice none 0 0]):=ZZ (by rw[k];exact ZdR w _ _)
 have e0:b.cell? ⟨g,m*6,none⟩=some (.int .i64 z):=(f.o.cell (p:=⟨g,m*6,none⟩) i).trans q;have e1:b.cell? ⟨g,m*6+1,none⟩=some (.int .i64 kd):=(f.o.cell (p:=⟨g,m*6+1,none⟩) i).trans u;have e2:b.cell? ⟨g,m*6+2,none⟩=some (.slice J K lc):=(f.o.cell (p:=⟨g,m*6+2,none⟩) i).trans F;have e3:b.cell? ⟨g,m*6+3,none⟩=some (.bool A):=(f.o.cell (p:=⟨g,m*6+3,none⟩) i).trans I;have e4:b.cell? ⟨g,m*6+4,none⟩=some (.int .i64 D):=(f.o.cell (p:=⟨g,m*6+4,none⟩) i).trans t;have e5:b.cell? ⟨g,m*6+5,none⟩=some (.slice H E L):=(f.o.cell (p:=⟨g,m*6+5,none⟩) i).trans B;obtain⟨X,Z⟩:=j.o.cell 0;obtain⟨V,y1⟩:=j.o.cell 1;obtain⟨Q,y2⟩:=j.o.cell 2;obtain⟨U,y3⟩:=j.o.cell 3;obtain⟨W,y4⟩:=j.o.cell 4;obtain⟨R,y5⟩:=j.o.cell 5;clear q u F I t B d h y C M P T
 go_enter func78,ntmps78
 go_upto_region 1 with fail
 rw[<-k];clear k;go_wp2;refine bodyPost_ret (v:=.agg #[.int .i64 z,.int .i64 kd,.slice J K lc,.bool A,.int .i64 D,.slice H E L]) (by simp[results,Tryz.results78,go_sem,X,V,Q,U,W,R]) rfl ?_
 exact⟨rfl,Zbf f.o _ (by omega) _ _ _ _ _ _⟩
theorem SnR.shape (h:SnR w x):∃ a n c a' n' c',x.2.1=.slice a n c∧x.2.2=.slice a' n' c':=by
 obtain⟨a,c,d,-⟩:=h.l;obtain⟨a',c',b⟩:=h.t.shape;exact⟨a,_,c,a',_,c',d,b⟩
theorem ZqT {L:ZdU} (w:World) (h:Jq M I w p pd L s) (Y:s.bases.length≠0) (O:s.bases.length<=1000000000):
 Calls prog 37 #[ptr p] w fun e w'=>e=.returned (snV (Zck L.bs))∧Below w.heap.size w w':=by
 have G:L.bs.length=s.bases.length:=by rw[<-h.bsEq,length_map]
 have A:=Ziv (l:=L.bs) (by omega)
 have j:=ZZ (h.base _ A);obtain⟨f,i⟩:∃ f,f=w.alloc (.cells #[.int .i64 0,.int .i64 0,.slice none 0 0,.bool false,.int .i64 0,.slice none 0 0] 41):=⟨_,rfl⟩;have t:Hid (Below w.heap.size w f):=ZZ (by rw[i];exact Jw _ _)
 have V:Hid (Bn f w.heap.size #[.int .i64 0,.int .i64 0,.slice none 0 0,.bool false,.int .i64 0,.slice none 0 0]):=ZZ (by rw[i];exact heap_alloc_new w _)
 have q:=ZZ (h.below t.o);obtain⟨-,-,-,-,u,-⟩:=q.o.cs;have d:=ZZ (Zvd L.bv L.bs f q.o.bases (by omega) (by omega) j.o.shape)
 obtain⟨ba,bn,bc,z⟩:∃ a n c,L.bv=.slice a n c:=by
  rcases h.bases.2 with ⟨k,_⟩ | ⟨g,cap,cur,k,_⟩
  ·exact⟨_,_,_,k⟩
  ·exact⟨_,_,_,k⟩
 rw[z] at u d;obtain⟨x,y⟩:∃ x,x=Zck L.bs:=⟨_,rfl⟩;rw[<-y] at d j ⊢;obtain⟨S,T,lc,P,K,U,C,B⟩:=j.o.shape;obtain⟨⟨F,⟨kd,LL,H,J⟩,tb⟩,vl,vt⟩:=x
 dsimp only at C B
 subst C B;unfold snV snC at d ⊢
 dsimp only at d ⊢
 clear h z y A G Y O q j
 go_enter func37,ntmps37
 go_upto_region 1 with fail
 rw[<-i];clear i
 go_wp2_with fail
 refine d.o.mono ?_;rintro e Z ⟨rfl,m⟩;have N:=ZZ (t.o.trans (m.mono t.o.size));have b:=V.o.below m zL;obtain⟨X,y0⟩:=b.cell 0;obtain⟨R,y1⟩:=b.cell 1;obtain⟨D,y2⟩:=b.cell 2;obtain⟨Q,y3⟩:=b.cell 3;obtain⟨W,y4⟩:=b.cell 4;obtain⟨E,y5⟩:=b.cell 5;clear m b u;go_wp2;refine bodyPost_ret (v:=.agg #[.int .i64 F,.int .i64 kd,.slice S T lc,.bool H,.int .i64 J,.slice P K U]) (by simp[results,Tryz.results37,go_sem,X,R,D,Q,W,E]) rfl ?_
 exact⟨rfl,Zbf N.o _ (by omega) _ _ _ _ _ _⟩
def ZyP (w:World) (s:Q0) (e:Ending) (w':World):Prop:=
 ∃ vl vt,e=.returned (snV (s,vl,vt))∧SnR w' (s,vl,vt)∧(∀ b,vl.ownBlock=some b->w.heap.size<=b)∧(∀ b,vt.ownBlock=some b->w.heap.size<=b)∧Below w.heap.size w w'
theorem ZsA (x:Q0 × Value × Value) (w:World) (hx:SnR w x) (J:x.1.st.L.length<=1000000) (H:x.1.tab.length<=1000000):
 Calls prog 47 #[snV x] w fun e w'=>ZyP w x.1 e w':=by
 obtain⟨⟨idx,⟨kind,L,t,z⟩,j⟩,vl,vt⟩:=x;obtain⟨y,u,m,l,n⟩:=hx
 dsimp only at y u m l n J H ⊢
 obtain⟨la,lc,rfl,-⟩:=id y;obtain⟨T,Y,rfl⟩:=u.shape;have N:=ZZ (fun W (h:Below w.heap.size w W)=>ZfI _ L W (y.below h zL) J)
 have aa:=ZZ (fun W (h:Below w.heap.size w W)=>ZfJ _ j W (u.below h zL) H)
 have K:=ZZ y.i64;have X:∀ e ∈ j,Zlx e:=u.choose_spec.choose_spec.2.2.2.2.1;have V:=ZZ X;obtain⟨d,p⟩:∃ d,d=(w.alloc (.cells #[.int .i64 idx,.int .i64 kind,.slice la L.length lc,.bool t,.int .i64 z,.slice T j.length Y] 41)).alloc (.cells #[.int .i64 0,.int .i64 0,.slice none 0 0,.bool false,.int .i64 0,.slice none 0 0] 41):=⟨_,rfl⟩;have k:Hid (Below w.heap.size w d):=ZZ (by rw[p];exact((Below.refl _ _).alloc zL _).alloc (by simp) _)
 have f:Hid (Bn d w.heap.size #[.int .i64 idx,.int .i64 kind,.slice la L.length lc,.bool t,.int .i64 z,.slice T j.length Y]):=ZZ (by rw[p];exact(Below.heap_alloc _ _ _ (by simp)).trans (heap_alloc_new w _))
 have af:Hid (Bn d (w.heap.size+1) #[.int .i64 0,.int .i64 0,.slice none 0 0,.bool false,.int .i64 0,.slice none 0 0]):=ZZ (by rw[p];exact ZdR w _ _)
 have al:d.heap.size=w.heap.size+2:=by rw[p];simp
 unfold snV snC
 dsimp only
 clear y u X J H
 go_enter func47,ntmps47
 go_upto_region 1 with fail
 rw[<-p];clear p;obtain⟨Q,Z⟩:=f.o.cell 2;obtain⟨p5,R⟩:=f.o.cell 5
 go_cut[] (fun wc=>Hid (Znt w ⟨idx,⟨kind,L,t,z⟩,j⟩ wc))
 case first=>
  go_region_with
   (first
    | (go_at_call 39;refine(N.o _ (by first | exact k.o.drew | exact k.o)).mono ?_;rintro e W1 ⟨v1,rfl,I,G⟩;have A:Below d.heap.size d W1:=(by first | exact((Below.refl _ _).drew).trans G | exact G);have ag:=ZZ I;have D:=ZZ A;obtain⟨a1,c1,aj⟩:∃ a c,v1=.slice a L.length c:=(by obtain⟨a,c,h,-⟩:=I.rd K.o;exact⟨a,c,h⟩);subst aj;obtain⟨q2,k2⟩:=(f.o.below A zL).cell 2;obtain⟨q5,k5⟩:=(f.o.below A zL).cell 5;clear I G A)
    | (go_at_call 40;refine(aa.o _ (k.o.trans (D.o.mono k.o.size))).mono ?_;rintro e W2 ⟨v2,rfl,M,E⟩;have ah:=ZZ M;have q:=ZZ (D.o.trans (E.mono D.o.size));have ai:=ZZ (ag.o.below E zL);obtain⟨a2,c2,ak⟩:=M.shape;subst ak;obtain⟨r2,j2⟩:=(f.o.below q.o zL).cell 2;obtain⟨r5,j5⟩:=(f.o.below q.o zL).cell 5;clear M E))
  all_goals
   go_wp2_with fail
   go_meet
   exact ZZ (Zii (f.o.below q.o zL) (af.o.below q.o zL) (ai.o.mono (by first | omega | (show w.heap.size+2<=d.heap.size;omega))) K.o (ah.o.mono (by have:=D.o.size;omega)) V.o n m l (k.o.trans (q.o.mono k.o.size)))
 case rest=>
  have ab:=hcut;clear hcut k f af al Q Z p5 R N aa K V d m l n;obtain⟨W,rfl⟩:∃ W,W=wc:=⟨_,rfl⟩;obtain⟨sa,sc,ea,ec,g,i,P,ad,hE,ac,n,m,l,U⟩:=ab.o;have HY:=ZZ i;have O:=ZZ P;have F:=ZZ ad;have B:=ZZ hE;have ae:=ZZ ac;have C:=ZZ (And.intro n (And.intro m l));have HB:=ZZ U
  dsimp only at g O F B ae C
  obtain⟨p0,g0⟩:=g.cell 0;obtain⟨p1,g1⟩:=g.cell 1;obtain⟨Q,Z⟩:=g.cell 2;obtain⟨p3,g3⟩:=g.cell 3;obtain⟨p4,g4⟩:=g.cell 4;obtain⟨p5,R⟩:=g.cell 5;obtain⟨z0,y0⟩:=i.cell 0;obtain⟨z1,y1⟩:=i.cell 1;obtain⟨z2,y2⟩:=i.cell 2;obtain⟨z3,y3⟩:=i.cell 3;obtain⟨z4,y4⟩:=i.cell 4;obtain⟨z5,y5⟩:=i.cell 5;have am:¬ (w.heap.size=w.heap.size+1):=by omega
  clear g i P ad hE ac n m l U ab;go_wp2;refine bodyPost_ret (v:=.agg #[.int .i64 idx,.int .i64 kind,.slice sa L.length sc,.bool t,.int .i64 z,.slice ea j.length ec]) (by simp[results,Tryz.results47,go_sem,z0,z1,z2,z3,z4,z5]) rfl ?_
  have S:=ZqQ W (w.heap.size+1) (.int .i64 idx) (.int .i64 kind) (.slice sa L.length sc) (.bool t) (.int .i64 z) (.slice ea j.length ec);exact⟨_,_,rfl,⟨O.o.but S (.inr fun b h=>by have:=F.o b h;omega),(B.o.rd ae.o).but S (.inr fun b h=>by have:=B.o.fresh b h;omega),C.o.2.1,C.o.2.2,C.o.1⟩,fun b h=>by have:=F.o b h;omega,fun b h=>by have:=B.o.fresh b h;omega,ZeF HB.o _ (by omega) _ _ _ _ _ _⟩
theorem ZyQ:(prog.info? 108).map (fun i=>(i.zero,i.size,i.bytes))=some (some (.agg #[.int .i64 0,.int .i64 0,.int .i64 0]),3,24):=by kernel_rfl
theorem ZlL (w:World) (ty:TypeId) (v:Value) (l:List Pce) (h:w.ownsRow 0 108 3 v l.length (Q6 l)) (c:Pce) (n:l.length<=10000000):
 ∃ v' w',(Builtin.append_ #[71,71] ty #[v,.slice (some ⟨w.heap.size,0,none⟩) 1 1]).run prog (w.alloc (.cells (pcC c) 108))=.ok v' w'∧
  w'.ownsRow 0 108 3 v' (l++[c]).length (Q6 (l++[c]))∧(w.alloc (.cells (pcC c) 108)).grownBy w' v.ownBlock∧(v'.ownBlock=v.ownBlock∨v'.ownBlock=some (w.heap.size+1)):=by
 obtain⟨a,b,i,e,d⟩:=info_parts ZyQ
 obtain⟨v',w',f,m,g,_,hl⟩:=run_append_own_at (P:=prog) (w.alloc (.cells (pcC c) 108)) 0 71 ty 108 a _ 3 24 underlying71 b i e d rfl (by decide) v l.length (Q6 l) (World.ownsRow.alloc h _)
  ⟨w.heap.size,0,none⟩ 1 1 (Q6 [c]) (Zas [c]) (fun j u k=>by
   rw[Addr.add_lit,Nat.zero_add,cell_of_row _ w.heap.size j _ 108 (0,0) (heap_alloc_new w _)]
   simpa[Q6] using k) (ZpD [c]) (by unfold maxLen;omega) (by omega) (Nat.zero_le _)
 refine⟨v',w',f,?_,g,?_⟩
 ·rw[length_append,Zio]
  exact m
 ·rcases hl with hl | hl
  ·exact .inl hl
  ·exact .inr (by rw[hl];simp)
theorem Zaa (w:World) {b:Array Oper} {rest:List Oper} {o:Oper} {a:Act} {Q:Exit->Act->World->Prop} (m:o.guard=none) (s x:Operand)
 (q:o.op=.call { callee:=.builtin .append,args:=#[s,x],argTypes:=#[71,71] })
 (v:Value) (l:List Pce) (f:a.eval s=v) (h:w.ownsRow 0 108 3 v l.length (Q6 l)) (c:Pce) (d:a.eval x=.slice (some ⟨w.heap.size,0,none⟩) 1 1) (g:l.length<=10000000)
 (e:∀ v' w',w'.ownsRow 0 108 3 v' (l++[c]).length (Q6 (l++[c]))->(w.alloc (.cells (pcC c) 108)).grownBy w' v.ownBlock->(v'.ownBlock=v.ownBlock∨v'.ownBlock=some (w.heap.size+1))->
  wpList prog b Q rest (a.put o.dst v') w'):wpList prog b Q (o::rest) a (w.alloc (.cells (pcC c) 108)):=
 wpList_plain m fun _ p=>by
  obtain⟨v',w',n,i,j,k⟩:=ZlL w o.type v l h c g;unfold Oper.wp execOp;simp only [q,resolve,invoke,builtin,Sem.run_bind,Sem.run_pure,Result.andThen_ok,map_toArray,map_cons,map_nil,f,d,n];exact p _ _ (e v' w' i j k)
theorem Ziw (w:World) (ty:TypeId) (v:Value) (b:List Rec) (d:Xj w 0 v b) (h:Value) (l:List Rec) (i:RdR w h l) (y:b.length+l.length<=10000000):
 ∃ v' w',(Builtin.append_ #[29,29] ty #[v,h]).run prog w=.ok v' w'∧Xj w' 0 v' (b++l)∧w.grownBy w' v.ownBlock∧(v'.ownBlock=v.ownBlock∨v'.ownBlock=some w.heap.size):=by
 obtain⟨f,g,q,n,j⟩:=info_parts Zdg;obtain⟨ao,cap,rfl,x,z,k,_,m⟩:=i
 cases ao with
 | none=>
  have u:=k rfl;subst u;have c:l=[]:=List.eq_nil_of_length_eq_zero (by omega)
  subst c;have e:=run_append_owned_none (P:=prog) w 0 29 ty 62 f 7 underlying29 g v b.length (Qt b) d;exact⟨v,w,e,by rw[append_nil];exact d,⟨rfl,rfl,rfl,Nat.le_refl _,fun _ _ _=>rfl⟩,.inl rfl⟩
 | some a=>
  obtain⟨v',w',e,t,p,_,c⟩:=run_append_own_at (P:=prog) w 0 29 ty 62 f _ 7 56 underlying29 g q n j rfl (by decide) v b.length (Qt b) d a l.length cap (Qt l)
   (Zl l) (RdR.cells m a rfl) (Zbw l) (by unfold maxLen;omega) (by omega) (Nat.zero_le _)
  refine⟨v',w',e,?_,p,c⟩;unfold Xj;rw[length_append,ZaA];exact t
theorem Zby (w:World) {d:Array Oper} {rest:List Oper} {o:Oper} {a:Act} {Q:Exit->Act->World->Prop} (q:o.guard=none) (s x:Operand)
 (u:o.op=.call { callee:=.builtin .append,args:=#[s,x],argTypes:=#[29,29] })
 (v:Value) (b:List Rec) (i:a.eval s=v) (j:Xj w 0 v b) (c:Value) (l:List Rec) (e:a.eval x=c) (g:RdR w c l) (k:b.length+l.length<=10000000)
 (h:∀ v' w',Xj w' 0 v' (b++l)->w.grownBy w' v.ownBlock->(v'.ownBlock=v.ownBlock∨v'.ownBlock=some w.heap.size)->wpList prog d Q rest (a.put o.dst v') w'):wpList prog d Q (o::rest) a w:=
 wpList_plain q fun _ f=>by
  obtain⟨v',w',t,m,n,p⟩:=Ziw w o.type v b j c l g k;unfold Oper.wp execOp;simp only [u,resolve,invoke,builtin,Sem.run_bind,Sem.run_pure,Result.andThen_ok,map_toArray,map_cons,map_nil,i,e,t];exact f _ _ (h v' w' m n p)
theorem X0 {s:Nat} (h:w.ownsRow base t s v n xs) {g:Nat} (a:v.ownBlock=some g):∃ cs,Bk t w g cs:=by
 rcases h.2 with ⟨b,_⟩ | ⟨g',cap,cur,b,_,c,_⟩
 ·rw[b] at a;cases a
 ·rw[b] at a
  obtain rfl:g'=g:=by simpa[Value.ownBlock] using a
  exact⟨_,c⟩
theorem Z8 {s:Nat} (h:w.ownsRow base t s v n xs):∃ a c,v=.slice a n c:=by
 rcases h.2 with ⟨b,d⟩ | ⟨g',cap,cur,b,_⟩
 ·exact⟨_,_,by rw[b,d]⟩
 ·exact⟨_,_,b⟩
structure Zix (t:TypeId) (w:World) (b o:Nat) (cs:Array Value) (rv pv:Value) (g:Lgb):Prop where
 blk:Bk t w b cs
 c0:cs[o]?=some (.int .i64 g.first)
 c1:cs[o+1]?=some rv
 c2:cs[o+2]?=some pv
 recs:Xj w 0 rv g.recs
 pcs:w.ownsRow 0 108 3 pv g.pcs.length (Q6 g.pcs)
def ZjN (b:Nat) (rv pv:Value) (k:Nat):Prop:=k=b∨rv.ownBlock=some k∨pv.ownBlock=some k
theorem Zix.neR {cs:Array Value} (h:Zix t w b o cs rv pv g) (a:t≠62):rv.ownBlock≠some b:=fun e=>by
 obtain⟨d,c⟩:=X0 h.recs e;exact(h.blk.ne c a) rfl
theorem Zix.neP {cs:Array Value} (h:Zix t w b o cs rv pv g) (a:t≠108):pv.ownBlock≠some b:=fun e=>by
 obtain⟨d,c⟩:=X0 h.pcs e;exact(h.blk.ne c a) rfl
theorem Zix.neRP {cs:Array Value} (h:Zix t w b o cs rv pv g):∀ k,rv.ownBlock=some k->pv.ownBlock≠some k:=fun k e c=>by
 obtain⟨i,d⟩:=X0 h.recs e;obtain⟨f,a⟩:=X0 h.pcs c;exact(d.ne a (by decide)) rfl
theorem Zix.below {cs:Array Value} (h:Zix t w b o cs rv pv g) (a:Below w.heap.size w w'):Zix t w' b o cs rv pv g:=
 ⟨h.blk.keep (a.block b h.blk.lt),h.c0,h.c1,h.c2,h.recs.below a zL,Qh h.pcs fun g c=>a.block g (by
  obtain⟨e,d⟩:=X0 h.pcs c
  exact d.lt)⟩
def ZeM (t:TypeId) (w:World) (b o:Nat) (cs:Array Value) (rv pv:Value) (g:Lgb) (w':World):Prop:=
 ∃ rv' pv',Zix t w' b o (((cs.setIfInBounds o (.int .i64 g.first)).setIfInBounds (o+1) rv').setIfInBounds (o+2) pv') rv' pv' g∧Ql (ZjN b rv pv) w w'∧
  (∀ k,ZjN b rv' pv' k->ZjN b rv pv k∨w.heap.size<=k)
theorem ZeM.more {a c:World} {cs:Array Value} (h:ZeM t w b o cs rv pv g a) (d:Below a.heap.size a c):ZeM t w b o cs rv pv g c:=by
 obtain⟨j,l,k,f,i⟩:=h;exact⟨j,l,k.below d,f.trans (G:=fun _=>False) (Ql.ofBelow d) (fun _ _ e=>e.elim),i⟩
theorem ZeN {cs:Array Value} {x:Value} (h:cs[j]?=some x):cs.setIfInBounds j x=cs:=by
 apply Array.ext_getElem?;intro i;rw[Array.getElem?_setIfInBounds];by_cases e:j=i
 ·subst e
  have a:j<cs.size:=(Array.getElem?_eq_some_iff.1 h).1;rw[if_pos rfl,if_pos a,h]
 ·simp[e]
theorem Zkz (t:TypeId) (X:t≠62) (N:t≠108) (b o:Nat) (cs:Array Value) (rv pv:Value) (g:Lgb) (name first:Int) (w:World) (h:Zix t w b o cs rv pv g) (ag:g.pcs.length<=1000000):
 Calls prog 53 #[.pointer (some ⟨b,o,none⟩),.int .i64 name,.int .i64 first] w fun e w'=>e=.returned (.tuple #[])∧ZeM t w b o cs rv pv (g.start name first) w':=by
 obtain⟨L,I,B⟩:=Z8 h.pcs
 -- the world ahead of the append
 obtain⟨a,n⟩:∃ a,a=if g.pcs.length=0 then w.setCell ⟨b,o,none⟩ (.int .i64 first) else w:=⟨_,rfl⟩
 obtain⟨m,p⟩:∃ m,m=if g.pcs.length=0 then cs.setIfInBounds o (.int .i64 first) else cs:=⟨_,rfl⟩
 have aa:a.heap.size=w.heap.size:=by
  rw[n];split
  ·simp
  ·rfl
 have O:∀ k,k≠b->a.heap[k]?=w.heap[k]?:=fun k hk=>by
  rw[n];split
  ·exact Below.heap_setCell _ _ _ _ hk
  ·rfl
 have T:Ql (ZjN b rv pv) w a:=by
  rw[n];split
  ·exact(Ql.refl _ _).setCell o (fun _=>.inl rfl) _
  ·exact Ql.refl _ _
 have Z:Bk t a b m:=by
  rw[n,p];split
  ·exact h.blk.set o _
  ·exact h.blk
 have W:g.start name first=⟨if g.pcs.length=0 then first else g.first,g.recs,g.pcs++[(⟨name,first,first⟩:Pce)]⟩:=rfl
 have c:Zix t a b o m rv pv ⟨if g.pcs.length=0 then first else g.first,g.recs,g.pcs⟩:=by
  refine⟨Z,?_,?_,?_,Qh h.recs fun k hk=>O k (fun e=>h.neR X (by subst e;exact hk)),Qh h.pcs fun k hk=>O k (fun e=>h.neP N (by subst e;exact hk))⟩
  ·rw[p]
   have K:o<cs.size:=(Array.getElem?_eq_some_iff.1 h.c0).1;split
   ·simp[K]
   ·exact h.c0
  ·rw[p]
   split
   ·rw[Array.getElem?_setIfInBounds,if_neg (by omega)]
    exact h.c1
   ·exact h.c1
  ·rw[p]
   split
   ·rw[Array.getElem?_setIfInBounds,if_neg (by omega)]
    exact h.c2
   ·exact h.c2
 have E:Hid (∀ f d,d.ownsRow 0 108 3 f (g.pcs++[(⟨name,first,first⟩:Pce)]).length (Q6 (g.pcs++[(⟨name,first,first⟩:Pce)]))->(a.alloc (.cells (pcC ⟨name,first,first⟩) 108)).grownBy d pv.ownBlock->(f.ownBlock=pv.ownBlock∨f.ownBlock=some (a.heap.size+1))->
  ZeM t w b o cs rv pv (g.start name first) (d.setCell ⟨b,o+2,none⟩ f)∧d.cell? ⟨b,o+2,none⟩=some pv∧d.frozen? ⟨b,o+2,none⟩=false):=ZZ (fun f d i j hv=>by
  have Y:∀ k,k<a.heap.size->pv.ownBlock≠some k->d.heap[k]?=a.heap[k]?:=fun k hk ae=>by
   rw[j.block k (by simp;omega) (fun e=>ae e.symm),Below.heap_alloc _ _ _ hk]
  have A:Bk t d b m:=c.blk.keep (Y b c.blk.lt (c.neP N));have ah:a.heap.size+1<=d.heap.size:=by have:=j.size;simpa using this
  have ab:((cs.setIfInBounds o (.int .i64 (g.start name first).first)).setIfInBounds (o+1) rv).setIfInBounds (o+2) f=m.setIfInBounds (o+2) f:=by
   congr 1
   rw[W,p]
   dsimp only
   by_cases l:g.pcs.length=0
   ·rw[if_pos l,if_pos l]
    exact ZeN (by rw[Array.getElem?_setIfInBounds,if_neg (by omega)];exact h.c1)
   ·rw[if_neg l,if_neg l,ZeN h.c0,ZeN h.c1]
  have ad:f.ownBlock≠some b:=fun e=>by
   obtain⟨ac,H⟩:=X0 i e;exact(A.ne H N) rfl
  refine⟨⟨rv,f,?_,?_,?_⟩,(A.cell _ c.c2).1,(A.cell _ c.c2).2⟩
  ·rw[ab]
   have K:o+2<m.size:=(Array.getElem?_eq_some_iff.1 c.c2).1;refine⟨A.set _ _,?_,?_,by simp[K],Qh c.recs fun k hk=>?_,Qh i fun k hk=>Below.heap_setCell _ _ _ _ (fun e=>ad (by subst e;exact hk))⟩
   ·rw[Array.getElem?_setIfInBounds,if_neg (by omega)]
    exact c.c0
   ·rw[Array.getElem?_setIfInBounds,if_neg (by omega)]
    exact c.c1
   ·obtain⟨ac,H⟩:=X0 c.recs hk
    rw[Below.heap_setCell _ _ _ _ (fun e=>c.neR X (by subst e;exact hk)),Y k H.lt (c.neRP k hk)]
  ·refine(T.trans (G:=ZjN b rv pv) ?_ (fun _ _ D=>D)).setCell _ (fun _=>.inl rfl) _
   exact((Ql.refl _ a).alloc _).trans (Ql.ofGrown (F:=ZjN b rv pv) j fun k e _=>.inr (.inr e)) (fun _ _ D=>D)
  ·intro k hk
   rcases hk with hk | hk | hk
   ·exact .inl (.inl hk)
   ·exact .inl (.inr (.inl hk))
   ·rcases hv with hv | hv
    ·exact .inl (.inr (.inr (by rw[<-hv];exact hk)))
    ·rw[hv] at hk
     have:=Option.some.inj hk
     exact .inr (by omega))
 have J:Hid (a.ownsRow 0 108 3 (.slice L g.pcs.length I) g.pcs.length (Q6 g.pcs)):=ZZ (by rw[<-B];exact c.pcs)
 have S:Hid (g.pcs.length<=10000000):=ZZ (by omega)
 have q:=ZZ B;have R:=(h.blk.cell _ h.c2).1;have C:=(h.blk.cell _ h.c0);obtain⟨C,V⟩:=C;have P:=(c.blk.cell _ c.c2).1;rw[B] at R P;have U:=ZZ n;have ai:(g.pcs.length:Int)<=1000000:=by omega
 clear B c Z O T aa W p h n;by_cases l:g.pcs.length=0
 ·have af:((g.pcs.length:Int) == 0)=true:=by rw[beq_iff_eq];omega
  have z:Hid (a=w.setCell ⟨b,o,none⟩ (.int .i64 first)):=ZZ (by rw[U.o,if_pos l])
  clear l
  go_enter func53,ntmps53
  go_upto_region 2 with fail
  rw[<-z.o];clear z C V R
  go_wp2_with(at_builtin;refine(fun(h:True->_)=>h trivial) ?_)
  intro _;refine Zaa a rfl _ _ rfl (.slice L g.pcs.length I) g.pcs rfl J.o (⟨name,first,first⟩:Pce) rfl S.o ?_;intro f d i j hv;obtain⟨x,Q,s2⟩:=E.o f d i (by rw[q.o];exact j) (by rw[q.o];exact hv)
  rw[q.o] at Q;have M:=ZZ x;obtain⟨a9,c9,y⟩:=Z8 i;obtain⟨u,v⟩:∃ u,u=(g.pcs++[(⟨name,first,first⟩:Pce)]).length:=⟨_,rfl⟩;rw[<-v] at y;subst y;clear x i j hv v P;go_wp2;go_end0;exact⟨rfl,M.o⟩
 ·have af:((g.pcs.length:Int) == 0)=false:=beq_eq_false_iff_ne.2 (by omega)
  have z:Hid (a=w):=ZZ (by rw[U.o,if_neg l])
  clear l C V P;rw[z.o] at E J
  go_enter func53,ntmps53
  go_wp2_with(at_builtin;refine(fun(h:True->_)=>h trivial) ?_)
  intro _;refine Zaa w rfl _ _ rfl (.slice L g.pcs.length I) g.pcs rfl J.o (⟨name,first,first⟩:Pce) rfl S.o ?_;intro f d i j hv;obtain⟨x,Q,s2⟩:=E.o f d i (by rw[q.o];exact j) (by rw[q.o];exact hv)
  rw[q.o] at Q;have M:=ZZ x;obtain⟨a9,c9,y⟩:=Z8 i;obtain⟨u,v⟩:∃ u,u=(g.pcs++[(⟨name,first,first⟩:Pce)]).length:=⟨_,rfl⟩;rw[<-v] at y;subst y;clear x i j hv v R;go_wp2;go_end0;exact⟨rfl,M.o⟩
theorem Ziy:∀ (l:List Pce) (j:Nat) (p:Pce),j<l.length->Q6 (l.set j p)=((((Q6 l).set (j*3) (.int .i64 p.name)).set (j*3+1) (.int .i64 p.first)).set (j*3+2) (.int .i64 p.stop))
 | c::l,0,p,_=>by
  rw[List.set_cons_zero,Q6,Q6];rfl
 | c::l,j+1,p,hj=>by
  have a:=Ziy l j p (by simpa using hj)
  rw[List.set_cons_succ,Q6,a,Q6];have e:(j+1)*3=(j*3)+1+1+1:=by omega
  rw[e];rfl
theorem Znw {l:List Pce} (h:w.ownsRow 0 108 3 v l.length (Q6 l)) (j:Nat) (t:j<l.length) (x:Int):
 ∃ g cap,v=.slice (some ⟨g,0,none⟩) l.length cap∧g<w.heap.size∧l.length<=cap∧w.cell? ⟨g,j*3+2,none⟩=some (.int .i64 (l.getD j Zj).stop)∧w.frozen? ⟨g,j*3+2,none⟩=false∧
  (w.setCell ⟨g,j*3+2,none⟩ (.int .i64 x)).ownsRow 0 108 3 v l.length (Q6 (l.set j ⟨(l.getD j Zj).name,(l.getD j Zj).first,x⟩)):=by
 rcases h.2 with ⟨_,C⟩ | ⟨g,cap,cur,n,B,a,f,A,p,q⟩
 ·omega
 ·have d:∀ k,k<3->cur[j*3+k]?=(pcC (l.getD j Zj))[k]?:=fun k z=>by
   have b:=Zci l j k t z;rw[<-q,List.getElem?_take,if_pos (by omega),Array.getElem?_toList] at b
   exact b
  refine⟨g,cap,n,(Array.getElem?_eq_some_iff.1 a).1,f,?_,frozen_of_row w g _ _ _ a,?_,.inr ⟨g,cap,cur.setIfInBounds (j*3+2) (.int .i64 x),n,B,heap_setCell_same w g _ _ _ _ a,f,A,by simpa using p,?_⟩⟩
  ·rw[cell_of_row w g _ _ _ _ a]
   exact d 2 (by decide)
  ·rw[Zas,length_set]
  ·rw[Ziy l j _ t]
   have u:=d 0 (by decide)
   have b:=d 1 (by decide)
   rw[<-q];apply List.ext_getElem?;intro i;rw[List.getElem?_take];by_cases c:i<l.length*3
   ·rw[if_pos c,Array.getElem?_toList,Array.getElem?_setIfInBounds]
    simp only [List.getElem?_set,length_set,length_take,Array.length_toList,List.getElem?_take,c,if_true,Array.getElem?_toList];have D:cur.size=cap*3:=p;by_cases e:j*3+2=i
    ·subst e
     rw[if_pos rfl,if_pos rfl,if_pos (by omega),if_pos (by omega)]
    ·rw[if_neg e,if_neg e]
     by_cases y:j*3+1=i
     ·subst y
      rw[if_pos rfl,if_pos (by omega),b]
      rfl
     ·rw[if_neg y]
      by_cases m:j*3=i
      ·subst m
       rw[if_pos rfl,if_pos (by omega)]
       rw[Nat.add_zero] at u;rw[u];rfl
      ·rw[if_neg m]
   ·rw[if_neg c,List.getElem?_eq_none (by simp;omega)]
theorem Zve (t:TypeId) (M:t≠62) (ac:t≠108) (b o:Nat) (cs:Array Value) (rv pv:Value) (g:Lgb) (Y:Value) (l:List Rec) (w:World) (h:Zix t w b o cs rv pv g) (G:RdR w Y l) (ay:g.pcs.length≠0) (an:g.pcs.length<=1000000) (L:g.recs.length+l.length<=10000000)
 (Z:∀ p ∈ g.pcs,0<=p.stop∧p.stop<=4611686018427387904):
 Calls prog 54 #[.pointer (some ⟨b,o,none⟩),Y] w fun e w'=>e=.returned (.tuple #[])∧ZeM t w b o cs rv pv (g.add l) w':=by
 obtain⟨la,lc,rfl,-⟩:=id G;obtain⟨O,rc,A⟩:=h.recs.shape;obtain⟨m,B⟩:∃ m,g.pcs.length=m+1:=⟨g.pcs.length-1,by omega⟩
 obtain⟨j,C⟩:∃ j,j=(g.pcs.getD m Zj).stop:=⟨_,rfl⟩
 have aq:0<=j∧j<=4611686018427387904:=by
  rw[C];refine Z _ ?_;rw[show g.pcs.getD m Zj=g.pcs[m]'(by omega) by simp[List.getD,show m<g.pcs.length by omega]]
  exact getElem_mem _
 obtain⟨i,R,z,J,ao,-,-,-⟩:=Znw h.pcs m (by omega) 0
 -- behind the append,and the store of the records
 have al:Hid (∀ d f,Xj f 0 d (g.recs++l)->w.grownBy f rv.ownBlock->(d.ownBlock=rv.ownBlock∨d.ownBlock=some w.heap.size)->
  (f.cell? ⟨b,o+1,none⟩=some rv∧f.frozen? ⟨b,o+1,none⟩=false)∧
  ((f.setCell ⟨b,o+1,none⟩ d).cell? ⟨b,o+2,none⟩=some pv∧(f.setCell ⟨b,o+1,none⟩ d).cell? ⟨i,m*3+2,none⟩=some (.int .i64 j)∧(f.setCell ⟨b,o+1,none⟩ d).frozen? ⟨i,m*3+2,none⟩=false)∧
  ZeM t w b o cs rv pv (g.add l) (((f.setCell ⟨b,o+1,none⟩ d)).setCell ⟨i,m*3+2,none⟩ (.int .i64 (j+l.length)))):=ZZ (fun d f q x hv=>by
  have U:∀ k,k<w.heap.size->rv.ownBlock≠some k->f.heap[k]?=w.heap[k]?:=fun k hk ax=>x.block k hk (fun e=>ax e.symm)
  have v:Bk t f b cs:=h.blk.keep (U b h.blk.lt (h.neR M));have y:pv.ownBlock=some i:=by rw[z];rfl
  have E:i≠b:=fun e=>h.neP ac (by rw[y,e])
  have aw:rv.ownBlock≠some i:=fun e=>h.neRP i e y
  have S:(f.setCell ⟨b,o+1,none⟩ d).ownsRow 0 108 3 pv g.pcs.length (Q6 g.pcs):=Qh h.pcs fun k hk=>by
   have e:k=i:=by rw[y] at hk;exact(Option.some.inj hk).symm
   subst e;rw[Below.heap_setCell _ _ _ _ E,U _ J aw]
  obtain⟨g',aD,T,-,-,X,ad,az⟩:=Znw S m (by omega) (j+l.length)
  have eg:g'=i:=by
   rw[z] at T
   injection T with u _ _
   injection u with u
   injection u with u
   exact u.symm
  subst eg;rw[<-C] at X
  have ar:d.ownBlock≠some b:=fun e=>by
   obtain⟨ae,H⟩:=X0 q e;exact(v.ne H M) rfl
  have av:d.ownBlock≠some g':=fun e=>by
   obtain⟨ae,H⟩:=X0 q e;obtain⟨am,aj⟩:=X0 S y
   have ak:Bk 108 f g' am:=by
    have:=aj;unfold Bk at this ⊢;rw[Below.heap_setCell _ _ _ _ E] at this;exact this
   exact(H.ne ak (by decide)) rfl
  refine⟨⟨(v.cell _ h.c1).1,(v.cell _ h.c1).2⟩,⟨?_,X,ad⟩,d,pv,?_,?_,?_⟩
  ·refine((v.set (o+1) d).cell _ ?_).1
   rw[Array.getElem?_setIfInBounds,if_neg (by omega)]
   exact h.c2
  ·have aa:((cs.setIfInBounds o (.int .i64 (g.add l).first)).setIfInBounds (o+1) d).setIfInBounds (o+2) pv=cs.setIfInBounds (o+1) d:=by
    have u:(g.add l).first=g.first:=rfl;rw[u,ZeN h.c0];exact ZeN (by rw[Array.getElem?_setIfInBounds,if_neg (by omega)];exact h.c2)
   rw[aa];have ag:o+1<cs.size:=(Array.getElem?_eq_some_iff.1 h.c1).1;refine⟨(v.set _ _).other _ _ _ (fun e=>E e.symm),?_,by simp[ag],?_,Qh q fun k hk=>?_,?_⟩
   ·rw[Array.getElem?_setIfInBounds,if_neg (by omega)]
    exact h.c0
   ·rw[Array.getElem?_setIfInBounds,if_neg (by omega)]
    exact h.c2
   ·rw[Below.heap_setCell _ _ _ _ (fun e=>av (by subst e;exact hk)),Below.heap_setCell _ _ _ _ (fun e=>ar (by subst e;exact hk))]
   ·have e3:(g.add l).pcs=g.pcs.set m ⟨(g.pcs.getD m Zj).name,(g.pcs.getD m Zj).first,j+l.length⟩:=by
     show Zc g.pcs l.length=_;unfold Zc;rw[B,Nat.add_sub_cancel,<-C]
    rw[e3,length_set];exact az
  ·exact((Ql.ofGrown (F:=ZjN b rv pv) x fun k e _=>.inr (.inl e)).setCell _ (fun _=>.inl rfl) _).setCell _ (fun _=>.inr (.inr y)) _
  ·intro k hk
   rcases hk with hk | hk | hk
   ·exact .inl (.inl hk)
   ·rcases hv with hv | hv
    ·exact .inl (.inr (.inl (by rw[<-hv];exact hk)))
    ·rw[hv] at hk
     have:=Option.some.inj hk;exact .inr (by omega)
   ·exact .inl (.inr (.inr hk)))
 have ai:Hid (Xj w 0 (.slice O g.recs.length rc) g.recs):=ZZ (by rw[<-A];exact h.recs)
 have ap:=ZZ G;have I:=ZZ A;have aC:=ZZ z;have af:=ZZ L;obtain⟨P,-⟩:=h.blk.cell _ h.c1;rw[A] at P;have hw:IntKind.i64.wrap (j+(l.length:Int))=j+l.length:=by rw[IntKind.wrap_i64];omega
 have aG:(m:Int)<=1000000:=by omega
 have ah:g.pcs.length=m+1:=B;have ab:Hid (pv=.slice (some ⟨i,0,none⟩) (m+1) R):=ZZ (by rw[z,B])
 have aB:(l.length:Int)<=10000000:=by omega
 obtain⟨aE,aA⟩:=aq;have aF:m+1<=R:=by omega
 clear A z h G Z C ay an L B ah ao J
 go_enter func54,ntmps54
 go_wp2_with(at_builtin;refine(fun(h:True->_)=>h trivial) ?_)
 intro _;refine Zby w rfl _ _ rfl (.slice O g.recs.length rc) g.recs rfl ai.o _ l rfl ap.o af.o ?_;intro d f q x hv;obtain⟨⟨W,s1⟩,⟨V,u3,u4⟩,Q⟩:=al.o d f q (by rw[I.o];exact x) (by rw[I.o];exact hv)
 rw[I.o] at W;rw[ab.o] at V;have K:=ZZ Q
 obtain⟨a9,n9,c9,au⟩:∃ a n c,d=.slice a n c:=by
  obtain⟨a,c,hh⟩:=q.shape;exact⟨a,_,c,hh⟩
 subst au;obtain⟨N,D⟩:∃ N,N=f.setCell ⟨b,o+1,none⟩ (.slice a9 n9 c9):=⟨_,rfl⟩;rw[<-D] at V u3 u4 K;clear Q q x hv P
 go_upto_region 1 with fail
 rw[<-D];clear D W s1
 go_region
 go_wp2;go_end0;exact⟨rfl,K.o.more (Below.refl _ _).drew⟩
theorem Xj.empty (w:World) (B:Nat) (a:B<=w.heap.size):Xj (w.alloc (.cells #[] 62)) B (.slice (some ⟨w.heap.size,0,none⟩) 0 0) []:=
 ⟨rfl,.inr ⟨w.heap.size,0,#[],rfl,a,heap_alloc_new w _,Nat.le_refl _,Nat.zero_le _,rfl,rfl⟩⟩
theorem ZkA (v:Value) (l:List Rec) (w:World) (c:RdR w v l) (q:l.length<=1000000):
 Calls prog 44 #[v] w fun e w'=>∃ v',e=.returned v'∧Xj w' w.heap.size v' l∧Below w.heap.size w w':=by
 have m:=ZZ c;obtain⟨ao,cap,rfl,h,-,b,-⟩:=c
 cases ao with
 | none=>
  obtain rfl:cap=0:=b rfl;obtain rfl:l=[]:=List.eq_nil_of_length_eq_zero (by omega)
  clear b h;have k:∀ w,(binOp .eql 29 (.slice none 0 0) (.slice none 0 0)).run prog w=.ok (.bool true) w:=fun w=>run_eql_slice_nil w _ _ none 0 0 underlying29
  go_enter func44,ntmps44
  go_wp2;go_ret;exact⟨_,rfl,Xj.nil _ _,Below.refl _ _⟩
 | some a=>
  clear b;have k:∀ w,(binOp .eql 29 (.slice (some a) l.length cap) (.slice none 0 0)).run prog w=.ok (.bool false) w:=fun w=>run_eql_slice_nil w _ _ (some a) _ _ underlying29
  have g:Hid (∀ X,Below w.heap.size w (w.alloc X)):=fun X=>(Below.refl _ _).alloc zL X
  have j:Hid (Xj (w.alloc (.cells #[] 62)) w.heap.size (.slice (some ⟨w.heap.size,0,none⟩) 0 0) []):=ZZ (Xj.empty w _ zL)
  go_enter func44,ntmps44
  go_wp2_with(at_builtin;refine ZeK _ rfl _ _ rfl w.heap.size _ [] rfl j.o _ l rfl (m.o.below (g.o _) zL) (by simp;omega) (by simp) ?_)
  intro t p d f;have n:=ZZ d;have i:=ZZ ((g.o _).trans f);clear d f;go_wp2;go_ret;exact⟨_,rfl,n.o,i.o⟩
theorem Zvf (w:World) (ao:Option Addr) (l:List Rec) (cap:Nat) (b:RdR w (.slice ao l.length cap) l) (i:Nat) (f:i<=l.length):
 ∃ a' c',RdR w (.slice a' (l.drop i).length c') (l.drop i)∧∀ x:Int,x=(i:Int)->∀ W,(Instr.sliceAt 29 (.slice ao l.length cap) (some (.int .i64 x)) none none).run prog W=.ok (.slice a' (l.drop i).length c') W:=by
 have g:l.length<=cap:=by
  obtain⟨a,c,e,h,-⟩:=b;simp only [Value.slice.injEq] at e;omega
 have h:=b.mid i l.length cap f zL g zL;rw[List.take_of_length_le (by rw[length_drop];omega)] at h
 unfold sliced at h;refine⟨_,_,by rw[length_drop];exact h,fun x d W=>?_⟩
 subst d;rw[run_sliceAt_slice W 29 _ _ _ _ Zba,run_slice_l W 29 ao l.length cap Zba .i64 (i:Int) (by omega) (by omega),ZeG,ZlB,length_drop]
 rfl
theorem ZqU (w:World) (ao:Option Addr) (l:List Rec) (cap:Nat) (b:RdR w (.slice ao l.length cap) l) (i j:Nat) (g:i<=j) (k:j<=l.length):
 ∃ a' c',RdR w (.slice a' (j-i) c') ((l.drop i).take (j-i))∧∀ x y:Int,x=(i:Int)->y=(j:Int)->∀ W,(Instr.sliceAt 29 (.slice ao l.length cap) (some (.int .i64 x)) (some (.int .i64 y)) none).run prog W=.ok (.slice a' (j-i) c') W:=by
 have m:l.length<=cap:=by
  obtain⟨a,c,e,h,-⟩:=b;simp only [Value.slice.injEq] at e;omega
 have h:=b.mid i j cap g k (by omega) zL
 unfold sliced at h;refine⟨_,_,h,fun x y d f W=>?_⟩
 subst d f;rw[run_sliceAt_slice W 29 _ _ _ _ Zba,run_slice_lh W 29 ao l.length cap Zba .i64 .i64 (i:Int) (j:Int) (by omega) (by omega) (by omega),ZeG,ZlB]
 rfl
theorem Jq.toLog {L:ZdU} (h:Jq M I w p pd L s):Zix 76 w p 1 (stC pd L s) L.rv L.pv s.log:=
 ⟨h.head,rfl,rfl,rfl,h.recs,h.pcs⟩
theorem Jq.logF {L:ZdU} (h:Jq M I w p pd L s):∀ k,ZjN p L.rv L.pv k->M k:=fun k hk=>by
 rcases hk with rfl | hk | hk
 ·exact h.mh
 ·exact h.mr k hk
 ·exact h.mp k hk
theorem Jq.ofLog {L:ZdU} (h:Jq M I w p pd L s) (y:ZeM 76 w p 1 (stC pd L s) L.rv L.pv g w'):
 ∃ M' L',Jq M' I w' p pd L' { s with log:=g }∧L'.nl=L.nl∧L'.nt=L.nt∧Ql M w w'∧∀ k,M' k->M k∨w.heap.size<=k:=by
 obtain⟨c,d,a,n,m⟩:=y;have e:Ql M w w':=n.mono h.logF;have q:∀ k,I k->w'.heap[k]?=w.heap[k]?:=fun k hk=>e.block k (h.ltI k hk) fun a=>h.dis k a hk
 have z:((((stC pd L s).setIfInBounds 1 (.int .i64 g.first)).setIfInBounds (1+1) c).setIfInBounds (1+2) d)=stC pd { L with rv:=c,pv:=d } { s with log:=g }:=rfl
 rw[z] at a
 have t:∀ k,ZjN p c d k->k<w'.heap.size:=fun k hk=>by
  rcases hk with rfl | hk | hk
  ·exact a.blk.lt
  ·obtain⟨j,b⟩:=X0 a.recs hk
   exact b.lt
  ·obtain⟨j,b⟩:=X0 a.pcs hk
   exact b.lt
 have v:∀ k,L.bv.ownBlock=some k->¬ ZjN p L.rv L.pv k:=fun k hk hl=>by
  obtain⟨j,b⟩:=X0 h.bases hk;rcases hl with rfl | hl | hl
  ·exact(b.ne h.head (by decide)) rfl
  ·obtain⟨u,f⟩:=X0 h.recs hl
   exact(b.ne f (by decide)) rfl
  ·obtain⟨u,f⟩:=X0 h.pcs hl
   exact(b.ne f (by decide)) rfl
 refine⟨fun k=>M k∨ZjN p c d k,{ L with rv:=c,pv:=d },⟨a.blk,a.recs,a.pcs,Qh h.bases fun k hk=>?_,h.bsEq,h.now.keep h.inow q,fun x l=>(h.base x l).keep (h.ibase x l) q,.inr (.inl rfl),fun k hk=>.inr (.inr (.inl hk)),fun k hk=>.inr (.inr (.inr hk)),fun k hk=>.inl (h.mb k hk),h.inow,h.ibase,fun k hk=>?_,fun k hk=>Nat.lt_of_lt_of_le (h.ltI k hk) e.size,fun k hk i=>?_⟩,rfl,rfl,e,fun k hk=>?_⟩
 ·obtain⟨j,b⟩:=X0 h.bases hk
  exact n.block k b.lt (v k hk)
 ·rcases hk with hk | hk
  ·exact Nat.lt_of_lt_of_le (h.ltM k hk) e.size
  ·exact t k hk
 ·rcases hk with hk | hk
  ·exact h.dis k hk i
  ·rcases m k hk with h1 | h1
   ·exact h.dis k (h.logF k h1) i
   ·have:=h.ltI k i
    omega
 ·rcases hk with hk | hk
  ·exact .inl hk
  ·rcases m k hk with h1 | h1
   ·exact .inl (h.logF k h1)
   ·exact .inr h1
theorem ZsB {l:List Pce} (h:w.ownsRow 0 108 3 v l.length (Q6 l)) (d:0<l.length):
 ∃ g cap,v=.slice (some ⟨g,0,none⟩) l.length cap∧w.cell? ⟨g,1,none⟩=some (.int .i64 (l.getD 0 Zj).first):=by
 rcases h.2 with ⟨_,f⟩ | ⟨g,cap,cur,e,k,b,i,j,m,c⟩
 ·omega
 ·refine⟨g,cap,e,?_⟩
  have a:=Zci l 0 1 d (by decide)
  rw[<-c,List.getElem?_take,if_pos (by omega),Array.getElem?_toList] at a
  rw[cell_of_row w g _ _ _ _ b];exact a
theorem Xj.own0 {l:List Rec} (h:Xj w B v l):Xj w 0 v l:=h.mono (Nat.zero_le _)
theorem Xj.freshR {l:List Rec} (h:Xj w B v l):∀ b,v.ownBlock=some b->B<=b∧b<w.heap.size:=fun b a=>World.ownsRow.lt h b a
theorem Zvg (t:TypeId) (af:t≠108) (b o:Nat) (cs:Array Value) (rv pv:Value) (g:Lgb) (l:Value) (left:List Pce) (base:Int) (w:World) (h:Zix t w b o cs rv pv g) (D:w.ownsRow 0 108 3 l left.length (Q6 left))
 (aA:left.length<=1000000) (aw:g.recs.length<=1000000) (ah:∀ r ∈ g.recs,Zcx r) (ag:g.first<=Zg left base) (aj:Zg left base<=g.first+g.recs.length) (au:0<=g.first) (az:g.first+g.recs.length<=4611686018427387904):
 Calls prog 70 #[.pointer (some ⟨b,o,none⟩),l,.int .i64 base] w fun e w'=>e=.returned (.tuple #[])∧
  ∃ u,Zix t w' b o (((cs.setIfInBounds o (.int .i64 (g.letGo left base).first)).setIfInBounds (o+1) u).setIfInBounds (o+2) l) u l (g.letGo left base)∧Ql (fun k=>k=b) w w'∧∀ k,u.ownBlock=some k->w.heap.size<=k:=by
 obtain⟨f,x⟩:∃ f,f=Zg left base:=⟨_,rfl⟩;rw[<-x] at ag aj;obtain⟨ra,rc,H⟩:=h.recs.shape;obtain⟨la,lc,S⟩:=Z8 D;have aa:=h.recs.rd ah;rw[H] at aa;obtain⟨a',c',Y,hcut⟩:=Zvf w ra g.recs rc aa (f-g.first).toNat (by omega)
 have aq:=hcut (f-g.first) (by omega)
 obtain⟨d0,f0⟩:=h.blk.cell _ h.c0;obtain⟨O,f1⟩:=h.blk.cell _ h.c1;obtain⟨d2,f2⟩:=h.blk.cell _ h.c2;rw[H] at O;have aB:=ZZ Y
 have z:Hid (∀ W,Below w.heap.size w W->(W.cell? ⟨b,o,none⟩=some (.int .i64 g.first)∧W.cell? ⟨b,o+1,none⟩=some (.slice ra g.recs.length rc))∧(W.frozen? ⟨b,o,none⟩=false∧W.frozen? ⟨b,o+1,none⟩=false∧W.frozen? ⟨b,o+2,none⟩=false)∧W.cell? ⟨b,o+2,none⟩=some pv):=ZZ (fun W v=>by
  have j:=h.blk.keep (v.block b h.blk.lt)
  exact⟨⟨(j.cell _ h.c0).1,by rw[<-H];exact(j.cell _ h.c1).1⟩,⟨(j.cell _ h.c0).2,(j.cell _ h.c1).2,(j.cell _ h.c2).2⟩,(j.cell _ h.c2).1⟩)
 have ao:Hid (Below w.heap.size w w.drew):=ZZ ((Below.refl _ _).drew)
 have ac:Hid (∀ W,Below w.heap.size w W->Calls prog 44 #[.slice a' (g.recs.drop (f-g.first).toNat).length c'] W fun e w'=>∃ v',e=.returned v'∧Xj w' w.heap.size v' (g.recs.drop (f-g.first).toNat)∧Below w.heap.size w w'):=ZZ (fun W I=>(ZkA _ _ W (Y.below I zL) (by rw[length_drop];omega)).mono (by
  rintro e w' ⟨v',rfl,A,v⟩
  exact⟨v',rfl,A.mono I.size,I.trans (v.mono I.size)⟩))
 have U:Hid (∀ i d,Xj d w.heap.size i (g.recs.drop (f-g.first).toNat)->Below w.heap.size w d->
  ∃ u,Zix t (((d.setCell ⟨b,o+1,none⟩ i).setCell ⟨b,o,none⟩ (.int .i64 f)).setCell ⟨b,o+2,none⟩ l) b o (((cs.setIfInBounds o (.int .i64 (g.letGo left base).first)).setIfInBounds (o+1) u).setIfInBounds (o+2) l) u l (g.letGo left base)∧Ql (fun k=>k=b) w (((d.setCell ⟨b,o+1,none⟩ i).setCell ⟨b,o,none⟩ (.int .i64 f)).setCell ⟨b,o+2,none⟩ l)∧∀ k,u.ownBlock=some k->w.heap.size<=k):=ZZ (fun i d A v=>by
  have j:=h.blk.keep (v.block b h.blk.lt);have J:(g.letGo left base).first=f:=x.symm;have av:o<cs.size:=(Array.getElem?_eq_some_iff.1 h.c0).1;have ay:o+1<cs.size:=(Array.getElem?_eq_some_iff.1 h.c1).1;have ax:o+2<cs.size:=(Array.getElem?_eq_some_iff.1 h.c2).1
  have ar:(((cs.setIfInBounds (o+1) i).setIfInBounds o (.int .i64 f)).setIfInBounds (o+2) l)=(((cs.setIfInBounds o (.int .i64 f)).setIfInBounds (o+1) i).setIfInBounds (o+2) l):=by
   congr 1
   exact Array.setIfInBounds_comm _ _ (by omega)
  have ai:∀ k,k≠b->(((d.setCell ⟨b,o+1,none⟩ i).setCell ⟨b,o,none⟩ (.int .i64 f)).setCell ⟨b,o+2,none⟩ l).heap[k]?=d.heap[k]?:=fun k p=>by
   rw[Below.heap_setCell _ _ _ _ p,Below.heap_setCell _ _ _ _ p,Below.heap_setCell _ _ _ _ p]
  refine⟨i,?_,?_,fun k p=>(A.freshR k p).1⟩
  ·rw[J,<-ar]
   refine⟨((j.set _ _).set _ _).set _ _,?_,?_,?_,Qh (show d.ownsRow 0 62 7 i (g.letGo left base).recs.length (Qt (g.letGo left base).recs) from by show Xj d 0 i (g.recs.drop (Zg left base-g.first).toNat);rw[<-x];exact A.own0) fun k p=>ai k (fun e=>?_),Qh D fun k p=>?_⟩
   ·rw[Array.getElem?_setIfInBounds,if_neg (by omega),Array.getElem?_setIfInBounds,if_pos rfl,if_pos (by simpa using av),J]
   ·rw[Array.getElem?_setIfInBounds,if_neg (by omega),Array.getElem?_setIfInBounds,if_neg (by omega),Array.getElem?_setIfInBounds,if_pos rfl,if_pos ay]
   ·rw[Array.getElem?_setIfInBounds,if_pos rfl,if_pos (by simpa using ax)]
   ·subst e
    have:=(A.freshR _ p).1;have:=h.blk.lt;omega
   ·obtain⟨aD,al⟩:=X0 D p
    rw[ai k (al.ne h.blk (fun e=>af e.symm)),v.block k al.lt]
  ·exact(((Ql.ofBelow (F:=fun k=>k=b) v).setCell (b:=b) _ (fun _=>rfl) _).setCell (b:=b) _ (fun _=>rfl) _).setCell (b:=b) _ (fun _=>rfl) _)
 have hw:IntKind.i64.wrap (f-g.first)=f-g.first:=by rw[IntKind.wrap_i64];omega
 obtain⟨n1,ae⟩:∃ n1,n1=(g.recs.drop (f-g.first).toNat).length:=⟨_,rfl⟩;rw[<-ae] at aq ac
 obtain⟨pa,pn,pc,am⟩:∃ a n c,pv=.slice a n c:=by
  obtain⟨a,c,B⟩:=Z8 h.pcs;exact⟨a,_,c,B⟩
 rw[am] at z d2;have ap:-9223372036854775808<=f-g.first∧f-g.first<=9223372036854775807:=by omega
 have K:Hid (left.length≠0->∃ G an,l=.slice (some ⟨G,0,none⟩) left.length an∧w.cell? ⟨G,1,none⟩=some (.int .i64 f)):=ZZ (fun m=>by
  obtain⟨G,cap,J,e2⟩:=ZsB D (by omega)
  have e3:f=(left.getD 0 Zj).first:=by rw[x];unfold Zg;rw[if_neg m]
  exact⟨G,cap,J,by rw[e3];exact e2⟩)
 have X:Hid (left.length=0->base=f):=ZZ (fun m=>by rw[x];unfold Zg;rw[if_pos m])
 obtain⟨aG,aC⟩:=ap;clear H Y hcut h D x ah aa ae ag aj au az aw am d2 f2 af;by_cases m:left.length=0
 ·have ak:decide ((left.length:Int)>0)=false:=decide_eq_false (by omega)
  obtain rfl:=X.o m;rw[m] at S ak;subst S;clear m K X aA
  go_enter func70,ntmps70
  go_upto_region 3 with fail
  go_cut[] (fun wc=>Hid (∃ i d,wc=d.setCell ⟨b,o+1,none⟩ i∧Xj d w.heap.size i (g.recs.drop (base-g.first).toNat)∧Below w.heap.size w d))
  case first=>
   go_region_with
    (first | (go_at_call 44;refine(ac.o _ (by first | exact ao.o | exact Below.refl _ _)).mono ?_;rintro e R ⟨Q,rfl,q,y⟩;have L:=ZZ q;have C:=ZZ y;obtain⟨z1,z2,z3,Z⟩:∃ a n c,Q=Value.slice a n c:=(by obtain⟨a,c,B⟩:=q.shape;exact⟨a,_,c,B⟩);subst Z;obtain⟨⟨P,V⟩,⟨M,r1,T⟩,-⟩:=z.o R C.o;clear q y))
   all_goals
    go_wp2_with fail
    go_meet
    exact ZZ ⟨_,_,rfl,L.o,C.o⟩
  case rest=>
   obtain⟨i,d,ab,E,j⟩:=hcut.out;subst ab;have N:=ZZ (U.o i d E j);obtain⟨⟨P,V⟩,⟨M,r1,T⟩,q2⟩:=z.o d j;clear hcut E j d0 O f0 f1;go_wp2;go_end0;exact⟨rfl,N.o⟩
 ·have ak:decide ((left.length:Int)>0)=true:=decide_eq_true (by omega)
  have aF:(0:Int)<(left.length:Int):=by omega
  obtain⟨G,an,ad,aH⟩:=K.o m;rw[ad] at U;rw[ad];clear m K X S ad;have aE:(left.length:Int)<=1000000:=by omega
  generalize left.length=ln at *
  go_enter func70,ntmps70
  go_upto_region 3 with fail
  go_cut[] (fun wc=>Hid (∃ i d,wc=d.setCell ⟨b,o+1,none⟩ i∧Xj d w.heap.size i (g.recs.drop (f-g.first).toNat)∧Below w.heap.size w d))
  case first=>
   go_region_with
    (first | (go_at_call 44;refine(ac.o _ (by first | exact ao.o | exact Below.refl _ _)).mono ?_;rintro e R ⟨Q,rfl,q,y⟩;have L:=ZZ q;have C:=ZZ y;obtain⟨z1,z2,z3,Z⟩:∃ a n c,Q=Value.slice a n c:=(by obtain⟨a,c,B⟩:=q.shape;exact⟨a,_,c,B⟩);subst Z;obtain⟨⟨P,V⟩,⟨M,r1,T⟩,-⟩:=z.o R C.o;clear q y))
   all_goals
    go_wp2_with fail
    go_meet
    exact ZZ ⟨_,_,rfl,L.o,C.o⟩
  case rest=>
   obtain⟨i,d,ab,E,j⟩:=hcut.out;subst ab;have N:=ZZ (U.o i d E j);obtain⟨⟨P,V⟩,⟨M,r1,T⟩,q2⟩:=z.o d j;clear hcut E j d0 O f0 f1;go_wp2;go_end0;exact⟨rfl,N.o⟩
theorem Zgo {L:ZdU} (a b:Int) (w:World) (h:Jq M I w p pd L s) (x:ZpE s) (R:∀ r ∈ s.log.recs,Zcx r) (ae:s.log.recs.length<=1000000):
 Calls prog 17 #[ptr p,.int .i64 a,.int .i64 b] w fun e w'=>∃ v,e=.returned (.tuple #[v,.int .i64 (Zbs s a b).2])∧Xj w' w.heap.size v (Zbs s a b).1∧Below w.heap.size w w':=by
 have y:=ZZ (fun W (j:Below w.heap.size w W)=>Zit W (h.below j) x)
 have A:=ZZ (fun W (j:Below w.heap.size w W)=>Zkx W (h.below j))
 unfold Zbs;obtain⟨nx,d⟩:∃ nx,nx=s.next:=⟨_,rfl⟩;obtain⟨f,c⟩:∃ f,f=s.log.first:=⟨_,rfl⟩;have n:nx=f+s.log.recs.length:=by rw[d,c];rfl
 rw[<-d] at y ⊢;rw[<-c] at A ⊢;have m:=x.f0;have k:=x.f1;rw[<-c] at m;rw[<-d] at k;by_cases g1:a<0
 ·rw[if_pos (.inl g1)]
  clear d c n m k h
  go_enter func17,ntmps17
  go_wp2;go_ret2;exact⟨_,rfl,Xj.nil _ _,Below.refl _ _⟩
 by_cases g2:b<a
 ·rw[if_pos (.inr (.inl g2))]
  clear d c n m k h
  go_enter func17,ntmps17
  go_wp2;go_ret2;exact⟨_,rfl,Xj.nil _ _,Below.refl _ _⟩
 by_cases U:nx<b
 ·rw[if_pos (.inr (.inr U))]
  clear d c n m k h
  go_enter func17,ntmps17
  go_wp2_with fail
  refine(y.o _ (Below.refl _ _)).mono ?_;rintro e q ⟨rfl,g⟩;have i:=ZZ g;clear g;go_wp2;go_ret2;exact⟨_,rfl,Xj.nil _ _,i.o⟩
 rw[if_neg (by omega)]
 by_cases N:a<f
 ·rw[if_pos N]
  clear d c n m k h
  go_enter func17,ntmps17
  go_wp2_with fail
  refine(y.o _ (Below.refl _ _)).mono ?_;rintro e q ⟨rfl,g⟩;have i:=ZZ g;clear g
  go_wp2_with fail
  refine(A.o _ i.o).mono ?_;rintro e Z ⟨rfl,rfl⟩;go_wp2;go_ret2;exact⟨_,rfl,Xj.nil _ _,i.o⟩
 rw[if_neg N];obtain⟨C,D,B⟩:=h.recs.shape;have z:=h.recs.rd R;rw[B] at z;obtain⟨a',c',u,hcut⟩:=ZqU w C s.log.recs D z (a-f).toNat (b-f).toNat (by omega) (by omega)
 have aa:=hcut (a-f) (b-f) (by omega) (by omega)
 have F:Hid ((s.log.recs.drop (a-f).toNat).take ((b-f).toNat-(a-f).toNat)=(s.log.recs.take (b-f).toNat).drop (a-f).toNat):=ZZ (by rw[List.drop_take])
 rw[F.o] at u;generalize (s.log.recs.take (b-f).toNat).drop (a-f).toNat=l at *
 have J:Hid (∀ W,Below w.heap.size w W->Calls prog 44 #[.slice a' ((b-f).toNat-(a-f).toNat) c'] W fun e w'=>∃ v',e=.returned v'∧Xj w' w.heap.size v' l∧Below w.heap.size w w'):=ZZ (fun W t=>(ZkA _ _ W (u.below t zL) (by
  obtain⟨_,_,e,-⟩:=u
  injection e with _ e _
  omega)).mono (by
  rintro e w' ⟨v',rfl,ho,j⟩
  exact⟨v',rfl,ho.mono t.size,t.trans (j.mono t.size)⟩))
 have P:Hid (∀ W,Below w.heap.size w W->W.cell? ⟨p,1,none⟩=some (.int .i64 f)∧W.cell? ⟨p,2,none⟩=some (.slice C s.log.recs.length D)):=ZZ (fun W j=>by
  obtain⟨-,T,H,-⟩:=(h.below j).cs;rw[B] at H;rw[c]
  exact⟨T,H⟩)
 have ab:IntKind.i64.wrap (a-f)=a-f:=by rw[IntKind.wrap_i64];omega
 have af:IntKind.i64.wrap (b-f)=b-f:=by rw[IntKind.wrap_i64];omega
 have Y:-9223372036854775808<=a-f∧a-f<=9223372036854775807:=by omega
 have V:-9223372036854775808<=b-f∧b-f<=9223372036854775807:=by omega
 obtain⟨ac,ag⟩:=Y;obtain⟨ad,ah⟩:=V;obtain⟨K,O⟩:∃ K,K=(b-f).toNat-(a-f).toNat:=⟨_,rfl⟩;rw[<-O] at aa J;clear d c n m k h u hcut z B O F R x
 go_enter func17,ntmps17
 go_wp2_with fail
 refine(y.o _ (Below.refl _ _)).mono ?_;rintro e q ⟨rfl,g⟩;have i:=ZZ g;clear g
 go_wp2_with fail
 refine(A.o _ i.o).mono ?_;rintro e q ⟨rfl,rfl⟩;have Q:Hid (Below w.heap.size w q.drew):=ZZ (i.o.drew)
 go_upto_region 5 with fail
 go_region_held(fun W=>W.cell? ⟨p,1,none⟩=some (.int .i64 f)∧W.cell? ⟨p,2,none⟩=some (.slice C s.log.recs.length D))
  (first | (with_reducible exact P.o _ Q.o) | (with_reducible exact P.o _ S.o))
  (first | (go_at_call 44;refine(J.o _ Q.o).mono ?_;rintro e Z ⟨v2,rfl,G,E⟩;have X:=ZZ G;have S:=ZZ E;clear G E))
 all_goals
  go_wp2;go_ret2;exact⟨_,rfl,X.o,S.o⟩
theorem ZyR {L:ZdU} (w:World) (h:Jq M I w p pd L s) (ab:s.now.st.L.length<=1000000) (ac:s.now.tab.length<=1000000):
 Calls prog 21 #[ptr p] w fun e w'=>ZyP w s.now e w':=by
 obtain⟨c,f⟩:∃ c,c=w.alloc (.cells #[.int .i64 0,.int .i64 0,.slice none 0 0,.bool false,.int .i64 0,.slice none 0 0] 41):=⟨_,rfl⟩;have n:Hid (Below w.heap.size w c):=ZZ (by rw[f];exact Jw _ _)
 have Y:Hid (Bn c w.heap.size #[.int .i64 0,.int .i64 0,.slice none 0 0,.bool false,.int .i64 0,.slice none 0 0]):=ZZ (by rw[f];exact heap_alloc_new w _)
 have m:=ZZ (h.below n.o);obtain⟨-,-,-,-,-,⟨c5,c6,N,c8,c9,O⟩,-⟩:=m.o.cs;have j:=ZZ (ZsA (L.nx s) c m.o.now ab ac);obtain⟨R,S,lc,K,F,V,e1,T⟩:=m.o.now.shape;have x:L.nl=.slice R S lc:=e1;have y:L.nt=.slice K F V:=T;rw[x] at N;rw[y] at O
 have C:Hid (snV (L.nx s)=.agg #[.int .i64 s.now.idx,.int .i64 s.now.st.kind,.slice R S lc,.bool s.now.st.shut,.int .i64 s.now.st.eng,.slice K F V]):=ZZ (by
  unfold snV snC ZdU.nx
  dsimp only
  rw[x,y])
 rw[C.o] at j;have G:(L.nx s).1=s.now:=rfl;rw[G] at j;clear h e1 T x y C m G
 go_enter func21,ntmps21
 go_upto_region 1 with fail
 rw[<-f];clear f
 go_wp2_with fail
 refine j.o.mono ?_;rintro e W1 ⟨vl,vt,rfl,q,D,J,u⟩;have aa:=ZZ (n.o.trans (u.mono n.o.size));have d:=ZZ q;have g:=ZZ (And.intro D J);have a:=Y.o.below u zL;have W:=ZZ n.o.size;obtain⟨z0,y0⟩:=a.cell 0;obtain⟨z1,y1⟩:=a.cell 1;obtain⟨z2,y2⟩:=a.cell 2;obtain⟨z3,y3⟩:=a.cell 3;obtain⟨z4,y4⟩:=a.cell 4;obtain⟨z5,y5⟩:=a.cell 5;obtain⟨z,B,Q,U,E,X,A,g2⟩:=q.shape
 dsimp only at A g2
 subst A g2;have P:w.heap.size<c.heap.size:=Y.o.lt;have Z:=ZZ P;unfold snV snC
 dsimp only
 clear u a c5 c6 N c8 c9 O q D J j P;go_wp2;refine bodyPost_ret (v:=.agg #[.int .i64 s.now.idx,.int .i64 s.now.st.kind,.slice z B Q,.bool s.now.st.shut,.int .i64 s.now.st.eng,.slice U E X]) (by simp[results,Tryz.results21,go_sem,z0,z1,z2,z3,z4,z5]) rfl ?_
 have H:=ZqQ W1 w.heap.size (.int .i64 s.now.idx) (.int .i64 s.now.st.kind) (.slice z B Q) (.bool s.now.st.shut) (.int .i64 s.now.st.eng) (.slice U E X);refine⟨_,_,rfl,⟨d.o.l.but H (.inr fun b h=>?_),d.o.t.but H (.inr fun b h=>?_),d.o.k,d.o.e,d.o.i⟩,fun b h=>?_,fun b h=>?_,ZeF aa.o _ (by omega) _ _ _ _ _ _⟩
 ·have:=g.o.1 b h
  have:=Z.o;omega
 ·have:=g.o.2 b h
  have:=Z.o;omega
 ·exact Nat.le_trans W.o (g.o.1 b h)
 ·exact Nat.le_trans W.o (g.o.2 b h)
end Go.Proofs.YtnahjngbneicaaaGreatDoor
