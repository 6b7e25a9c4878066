import Derived.Test.YtnahjngbneicaaaGreatDoorPack7
import Derived.Deep.RegionHeld2
namespace Go.Proofs.YtnahjngbneicaaaGreatDoor
open _root_.Go.Proofs.Tryz
open List (append_nil getElem_mem length_append length_drop length_map length_set length_take map_cons map_nil map_toArray)
set_option maxHeartbeats 4000000
set_option maxRecDepth 100000
open Go.RowKit
variable {w w':World} {ao:Option Addr} {B N N' T T' b base cap i j n o p pd:Nat} {L l:List Int} {x:Q0 × Value × Value} {F I K M:Nat->Prop} {pv rv v:Value} {s:Sto} {d:Dk} {g:Lgb} {t:TypeId} {xs:List Value}
abbrev za0:=@Array.getElem?_setIfInBounds
abbrev zdq:=@List.getElem?_take
abbrev zfb:=@Array.ext_getElem?
abbrev zfe:=@List.drop_take
abbrev zf9:=@List.set_cons_zero
abbrev zga:=@List.set_cons_succ
theorem RdR.mid {l:List Rec} (h:RdR w (.slice ao n cap) l) (i j m:Nat) (H:i<=j) (G:j<=l.length) (J:j<=m) (D:m<=cap):RdR w (sliced ao i j m 7) ((l.drop i).take (j-i)):=by
 obtain⟨E,K,p,I,F,g,v,c⟩:=h;simp only [za1] at p;obtain⟨rfl,rfl,rfl⟩:=p;have d:((l.drop i).take (j-i)).length=j-i:=by simp;omega
 have t:∀ n ∈ (l.drop i).take (j-i),Zcx n:=fun n a=>v n (zex (zbq a))
 unfold sliced;by_cases u:m=i
 ·rw[zab u]
  have e:j-i=0:=by omega
  refine⟨ao,m-i,by rw[d],by omega,by omega,fun a=>by have:=g a;omega,t,.inl ?_⟩
  rw[e];simp
 ·rw[zaa u]
  refine⟨ao.map (·.add (i*7)),m-i,by rw[d],by omega,by omega,fun a=>?_,t,?_⟩
  ·have B:ao=none:=by simpa using a
   have:=g B;omega
  ·rcases c with c | ⟨b,f,z,x⟩
   ·exact .inl (by rw[c];simp)
   ·refine .inr ⟨b,f+i*7,?_,fun k q=>?_⟩
    ·rw[z,zcy,zbg]
    ·rw[d] at q
     have A:=x (i+k) (by omega)
     have y:f+i*7+k*7=f+(i+k)*7:=by omega
     have C:((l.drop i).take (j-i)).getD k Qi=l.getD (i+k) Qi:=by simp[List.getD,q]
     rw[y,C];exact A
theorem RdL.mid {l:List (List UInt8)} (h:RdL w (.slice ao n cap) l) (i j m:Nat) (G:i<=j) (F:j<=l.length) (I:j<=m) (C:m<=cap):RdL w (sliced ao i j m 1) ((l.drop i).take (j-i)):=by
 obtain⟨D,J,g,H,E,f,c⟩:=h;simp only [za1] at g;obtain⟨rfl,rfl,rfl⟩:=g;have d:((l.drop i).take (j-i)).length=j-i:=by simp;omega
 unfold sliced;by_cases q:m=i
 ·rw[zab q]
  have e:j-i=0:=by omega
  refine⟨ao,m-i,by rw[d],by omega,by omega,fun a=>by have:=f a;omega,.inl ?_⟩
  rw[e];simp
 ·rw[zaa q]
  refine⟨ao.map (·.add (i*1)),m-i,by rw[d],by omega,by omega,fun a=>?_,?_⟩
  ·have y:ao=none:=by simpa using a
   have:=f y;omega
  ·rcases c with c | ⟨b,A,v,u⟩
   ·exact .inl (by rw[c];simp)
   ·refine .inr ⟨b,A+i,?_,fun k p=>?_⟩
    ·rw[v,zch,zcy,zbg]
    ·rw[d] at p
     obtain⟨x,B,t⟩:=u (i+k) (by omega)
     refine⟨x,by rw[zbs];exact B,?_⟩
     have z:((l.drop i).take (j-i)).getD k []=l.getD (i+k) []:=by simp[List.getD,p]
     rw[z];exact t
theorem RdR.cells {l:List Rec} (h:l=[]∨∃ b c,ao=some ⟨b,c,none⟩∧∀ j,j<l.length->ZjI w b (c+j*7) (l.getD j Qi)) (a:Addr) (f:ao=some a):
 ∀ j u,(Qt l)[j]?=some u->w.cell? (a.add j)=some u:=by
 intro j u d;rcases h with h | ⟨b,c,v,t⟩
 ·rw[h] at d
  simp[Qt] at d
 ·rw[v] at f
  injection f with f
  subst f;have z:j<(Qt l).length:=(zbm.1 d).1;rw[Zl] at z;have i:j=j / 7*7+j % 7:=by omega
  have g:=Zbv l (j / 7) (j % 7) (by omega) (by omega)
  rw[<-i,d] at g;obtain⟨m,p,y,n,x,q,A⟩:=t (j / 7) (by omega)
  have e:∀ k,k<7->c+(j / 7*7+k)=c+j / 7*7+k:=fun k _=>by omega
  rw[zbg,i,e (j % 7) (by omega)]
  have hk:j % 7=0∨j % 7=1∨j % 7=2∨j % 7=3∨j % 7=4∨j % 7=5∨j % 7=6:=by omega
  rcases hk with hk | hk | hk | hk | hk | hk | hk
  all_goals
   rw[hk] at g ⊢;rw[g]
   first | exact m | exact p | exact y | exact n | exact x | exact q | exact A
theorem Zin (w:World) (ty:TypeId) (B:Nat) (v:Value) (b:List Rec) (c:Xj w B v b) (f:Value) (l:List Rec) (q:RdR w f l)
 (E:b.length+l.length<=1000000) (e:B<=w.heap.size):
 ∃ v' w',(Builtin.append_ #[29,29] ty #[v,f]).run prog w=.ok v' w'∧Xj w' B v' (b++l)∧Below B w w':=by
 obtain⟨g,i,j,m,A⟩:=zbo Zdg;obtain⟨ao,cap,rfl,C,D,u,_,x⟩:=q
 cases ao with
 | none=>
  have y:=u rfl;subst y;have t:l=[]:=zaj (by omega)
  subst t;have d:=zc5 (P:=prog) w B 29 ty 62 g 7 underlying29 i v b.length (Qt b) c;exact⟨v,w,d,by rw[append_nil];exact c,zac _ _⟩
 | some a=>
  obtain⟨v',w',d,z,p,_⟩:=zdc (P:=prog) w B 29 ty 62 g _ 7 56 underlying29 i j m A rfl (by decide) v b.length (Qt b) c a l.length cap (Qt l)
   (Zl l) (RdR.cells x a rfl) (Zbw l) (by unfold maxLen;omega) (by omega) e
  refine⟨v',w',d,?_,?_⟩
  ·unfold Xj
   rw[length_append,ZaA];exact z
  ·exact(zac _ _).grown p e (fun k n=>(zar c k n).1)
theorem ZeK (w:World) {d:Array Oper} {rest:List Oper} {o:Oper} {a:Act} {Q:Exit->Act->World->Prop} (g:o.guard=none) (s x:Operand)
 (p:o.op=.call { callee:=.builtin .append,args:=#[s,x],argTypes:=#[29,29] })
 (B:Nat) (v:Value) (b:List Rec) (q:a.eval s=v) (m:Xj w B v b) (c:Value) (l:List Rec) (u:a.eval x=c) (k:RdR w c l)
 (i:b.length+l.length<=1000000) (f:B<=w.heap.size)
 (h:∀ v' w',Xj w' B v' (b++l)->Below B w w'->wpList prog d Q rest (a.put o.dst v') w'):wpList prog d Q (o::rest) a w:=
 zbr g fun _ t=>by
  obtain⟨v',w',n,j,e⟩:=Zin w o.type B v b m c l k i f;unfold Oper.wp execOp;simp only [p,resolve,invoke,builtin,zbk,zbn,za7,map_toArray,map_cons,map_nil,q,u,n];exact t _ _ (h v' w' j e)
def Bsg (w:World) (b:Nat) (cs:Array Value):Prop:=w.heap[b]?=some (.cells cs 217 (0,0))
theorem Bsg.lt {cs:Array Value} (h:Bsg w b cs):b<w.heap.size:=(zan.1 h).1
theorem Bsg.below {cs:Array Value} (h:Bsg w b cs) (a:Below B w w') (c:w.heap.size<=B):Bsg w' b cs:=(a.block b (by have:=h.lt;omega)).trans h
theorem Bsg.cell {cs:Array Value} (h:Bsg w b cs) (j:Nat):w.cell? ⟨b,j,none⟩=cs[j]?∧w.frozen? ⟨b,j,none⟩=false:=⟨zam w b j _ _ _ h,za2 w b j _ _ h⟩
def pcC (p:Pce):Array Value:=#[.int .i64 p.name,.int .i64 p.first,.int .i64 p.stop]
def Q6:List Pce->List Value
 | []=>[]
 | c::l=>(pcC c).toList++Q6 l
theorem Zas:∀ l:List Pce,(Q6 l).length=l.length*3
 | []=>rfl
 | c::l=>by
  rw[Q6,length_append,Zas l,zb9];show 3+_=_;omega
theorem Zio:∀ a b:List Pce,Q6 (a++b)=Q6 a++Q6 b
 | [],_=>rfl
 | c::l,b=>by rw[zck,Q6,Zio l b,Q6,zcn]
theorem Zci:∀ (l:List Pce) (j k:Nat),j<l.length->k<3->(Q6 l)[j*3+k]?=(pcC (l.getD j Zj))[k]?
 | c::l,0,k,_,hk=>by
  rw[Q6,zc3,za5,zbb (by show k<3;exact hk)]
  simp
 | c::l,j+1,k,hj,hk=>by
  have e:(j+1)*3+k=(pcC c).toList.length+(j*3+k):=by show _=3+_;omega
  rw[Q6,e,zbp (by omega),zcf,Zci l j k (by simpa using hj) hk]
  rfl
theorem ZpD (l:List Pce):∀ u ∈ Q6 l,u.oneCell'=true:=by
 induction l with
 | nil=>intro u a;cases a
 | cons c l b=>
  intro u a;rw[Q6] at a;rcases zaw.1 a with h | h
  ·simp[pcC] at h
   rcases h with rfl | rfl | rfl <;> rfl
  ·exact b u h
def snC (x:Q0 × Value × Value):Array Value:=#[.int .i64 x.1.idx,.int .i64 x.1.st.kind,x.2.1,.bool x.1.st.shut,.int .i64 x.1.st.eng,x.2.2]
def snV (x:Q0 × Value × Value):Value:=.agg (snC x)
def Xv:List (Q0 × Value × Value)->List Value
 | []=>[]
 | c::l=>(snC c).toList++Xv l
theorem Zdv:∀ l:List (Q0 × Value × Value),(Xv l).length=l.length*6
 | []=>rfl
 | c::l=>by
  rw[Xv,length_append,Zdv l,zb9];show 6+_=_;omega
theorem Zip:∀ a b:List (Q0 × Value × Value),Xv (a++b)=Xv a++Xv b
 | [],_=>rfl
 | c::l,b=>by rw[zck,Xv,Zip l b,Xv,zcn]
theorem Ziq:∀ (l:List (Q0 × Value × Value)) (j k:Nat) (a:j<l.length),k<6->(Xv l)[j*6+k]?=(snC l[j])[k]?
 | c::l,0,k,_,hk=>by
  rw[Xv,zc3,za5,zbb (by show k<6;exact hk)]
  simp
 | c::l,j+1,k,a,hk=>by
  have e:(j+1)*6+k=(snC c).toList.length+(j*6+k):=by show _=6+_;omega
  rw[Xv,e,zbp (by omega),zcf,Ziq l j k (by simpa using a) hk]
  rfl
structure SnR (w:World) (x:Q0 × Value × Value):Prop where
 l:RdI w x.2.1 x.1.st.L
 t:RdE w x.2.2 x.1.tab
 k:I64 x.1.st.kind
 e:I64 x.1.st.eng
 i:I64 x.1.idx
theorem SnR.snV (h:SnR w x):SnV w (snV x) x.1:=⟨x.2.1,x.2.2,rfl,h.l,h.k,h.e,h.t,h.i⟩
theorem SnR.below (h:SnR w x) {B:Nat} (a:Below B w w') (b:w.heap.size<=B):SnR w' x:=⟨h.l.below a b,h.t.below a b,h.k,h.e,h.i⟩
def Zmp (I:Nat->Prop) (x:Q0 × Value × Value):Prop:=(x.1.st.L=[]∨∀ g,x.2.1.ownBlock=some g->I g)∧(x.1.tab=[]∨∀ g,x.2.2.ownBlock=some g->I g)
theorem Zmp.mono {J:Nat->Prop} (h:Zmp I x) (b:∀ k,I k->J k):Zmp J x:=by
 obtain⟨c,d⟩:=h;exact⟨c.imp id fun h g a=>b g (h g a),d.imp id fun h g a=>b g (h g a)⟩
theorem RdE.keepS {l:List Ent} (h:RdE w v l) (hk:l=[]∨∀ g,v.ownBlock=some g->w'.heap[g]?=w.heap[g]?):RdE w' v l:=by
 obtain⟨ao,cap,rfl,i,c,f,d,a⟩:=h;refine⟨ao,cap,rfl,i,c,f,d,?_⟩;rcases a with a | ⟨b,m,rfl,e⟩
 ·exact .inl a
 ·rcases hk with hk | hk
  ·exact .inl hk
  ·exact .inr ⟨b,m,rfl,fun j k=>(e j k).keep (hk b rfl)⟩
theorem RdI.keepS (h:RdI w v l) (hk:l=[]∨∀ g,v.ownBlock=some g->w'.heap[g]?=w.heap[g]?):RdI w' v l:=by
 obtain⟨ao,cap,rfl,m,e,k,f,c⟩:=h;refine⟨ao,cap,rfl,m,e,k,f,?_⟩;rcases c with c | ⟨b,d,rfl,i⟩
 ·exact .inl c
 ·rcases hk with hk | hk
  ·exact .inl hk
  ·exact .inr ⟨b,d,rfl,fun j n=>(zb2 (a:=⟨b,d+j,none⟩) (hk b rfl)).trans (i j n)⟩
theorem SnR.keep (h:SnR w x) (c:Zmp I x) (b:∀ g,I g->w'.heap[g]?=w.heap[g]?):SnR w' x:=
 ⟨h.l.keepS (c.1.imp id fun h g a=>b g (h g a)),h.t.keepS (c.2.imp id fun h g a=>b g (h g a)),h.k,h.e,h.i⟩
structure ZdU where
 rv:Value
 pv:Value
 bv:Value
 nl:Value
 nt:Value
 bs:List (Q0 × Value × Value)
def ZdU.nx (L:ZdU) (s:Sto):Q0 × Value × Value:=(s.now,L.nl,L.nt)
def stC (pd:Nat) (L:ZdU) (s:Sto):Array Value:=
 #[ptr pd,.int .i64 s.log.first,L.rv,L.pv,L.bv,.int .i64 s.now.idx,.int .i64 s.now.st.kind,L.nl,.bool s.now.st.shut,.int .i64 s.now.st.eng,L.nt,.int .i64 s.synced,.int .i64 s.cur,.bool s.nw]
structure Jq (M I:Nat->Prop) (w:World) (p pd:Nat) (L:ZdU) (s:Sto):Prop where
 head:Bk 76 w p (stC pd L s)
 recs:Xj w 0 L.rv s.log.recs
 pcs:w.ownsRow 0 108 3 L.pv s.log.pcs.length (Q6 s.log.pcs)
 bases:w.ownsRow 0 41 6 L.bv L.bs.length (Xv L.bs)
 bsEq:L.bs.map Prod.fst=s.bases
 now:SnR w (L.nx s)
 base:∀ x ∈ L.bs,SnR w x
 mh:M p
 mr:∀ g,L.rv.ownBlock=some g->M g
 mp:∀ g,L.pv.ownBlock=some g->M g
 mb:∀ g,L.bv.ownBlock=some g->M g
 inow:Zmp I (L.nx s)
 ibase:∀ x ∈ L.bs,Zmp I x
 ltM:∀ k,M k->k<w.heap.size
 ltI:∀ k,I k->k<w.heap.size
 dis:∀ k,M k->¬ I k
theorem Jq.keep {L:ZdU} (h:Jq M I w p pd L s) (b:∀ k,(M k∨I k)->w'.heap[k]?=w.heap[k]?) (d:w.heap.size<=w'.heap.size):Jq M I w' p pd L s:=
 ⟨h.head.keep (b p (.inl h.mh)),Qh h.recs fun g a=>b g (.inl (h.mr g a)),Qh h.pcs fun g a=>b g (.inl (h.mp g a)),Qh h.bases fun g a=>b g (.inl (h.mb g a)),h.bsEq,
  h.now.keep h.inow fun g a=>b g (.inr a),fun x e=>(h.base x e).keep (h.ibase x e) fun g a=>b g (.inr a),h.mh,h.mr,h.mp,h.mb,h.inow,h.ibase,fun k c=>zav (h.ltM k c) d,fun k c=>zav (h.ltI k c) d,h.dis⟩
theorem Jq.only {G:Nat->Prop} {L:ZdU} (h:Jq M I w p pd L s) (a:Ql G w w') (b:∀ k,M k->¬ G k) (c:∀ k,I k->¬ G k):Jq M I w' p pd L s:=
 h.keep (fun k hk=>by
  rcases hk with hk | hk
  ·exact a.block k (h.ltM k hk) (b k hk)
  ·exact a.block k (h.ltI k hk) (c k hk)) a.size
theorem Jq.below {L:ZdU} (h:Jq M I w p pd L s) (a:Below w.heap.size w w'):Jq M I w' p pd L s:=
 h.keep (fun k hk=>a.block k (by
  rcases hk with hk | hk
  ·exact h.ltM k hk
  ·exact h.ltI k hk)) a.size
theorem Jq.cs {L:ZdU} (h:Jq M I w p pd L s):
 w.cell? ⟨p,0,none⟩=some (ptr pd)∧w.cell? ⟨p,1,none⟩=some (.int .i64 s.log.first)∧w.cell? ⟨p,2,none⟩=some L.rv∧w.cell? ⟨p,3,none⟩=some L.pv∧w.cell? ⟨p,4,none⟩=some L.bv∧
 (w.cell? ⟨p,5,none⟩=some (.int .i64 s.now.idx)∧w.cell? ⟨p,6,none⟩=some (.int .i64 s.now.st.kind)∧w.cell? ⟨p,7,none⟩=some L.nl∧w.cell? ⟨p,8,none⟩=some (.bool s.now.st.shut)∧w.cell? ⟨p,9,none⟩=some (.int .i64 s.now.st.eng)∧w.cell? ⟨p,10,none⟩=some L.nt)∧
 w.cell? ⟨p,11,none⟩=some (.int .i64 s.synced)∧w.cell? ⟨p,12,none⟩=some (.int .i64 s.cur)∧w.cell? ⟨p,13,none⟩=some (.bool s.nw):=
 ⟨(h.head.cell 0 rfl).1,(h.head.cell 1 rfl).1,(h.head.cell 2 rfl).1,(h.head.cell 3 rfl).1,(h.head.cell 4 rfl).1,⟨(h.head.cell 5 rfl).1,(h.head.cell 6 rfl).1,(h.head.cell 7 rfl).1,(h.head.cell 8 rfl).1,(h.head.cell 9 rfl).1,(h.head.cell 10 rfl).1⟩,(h.head.cell 11 rfl).1,(h.head.cell 12 rfl).1,(h.head.cell 13 rfl).1⟩
theorem Jq.fz {L:ZdU} (h:Jq M I w p pd L s) (j:Nat):w.frozen? ⟨p,j,none⟩=false:=za2 w p j _ _ h.head
def SD (K:Nat->Prop) (w:World) (pd p:Nat) (s:Sto) (d:Dk) (N T:Nat):Prop:=
 ∃ F M I L,Dsk F w pd d N T∧Jq M I w p pd L s∧(∀ k,F k->¬ K k)∧(∀ k,M k->¬ K k)∧(∀ k,I k->¬ K k)∧(∀ k,F k->¬ M k)∧(∀ k,F k->¬ I k)
def Jz (K:Nat->Prop) (w:World) (pd p:Nat) (r:SDk × Int) (N T:Nat) (e:Ending) (w':World):Prop:=
 e=.returned (.int .i64 r.2)∧SD K w' pd p r.1.1 r.1.2 N T∧Ql (fun k=>¬ K k) w w'
theorem SD.below (h:SD K w pd p s d N T) (a:Below w.heap.size w w'):SD K w' pd p s d N T:=by
 obtain⟨F,M,I,L,c,e,b⟩:=h;exact⟨F,M,I,L,c.below a,e.below a,b⟩
theorem SD.mono (h:SD K w pd p s d N T) (b:N<=N') (c:T<=T'):SD K w pd p s d N' T':=by
 obtain⟨F,M,I,L,f,e,a⟩:=h;exact⟨F,M,I,L,f.mono b c,e,a⟩
theorem SD.less {e:Nat->Prop} (h:SD K w pd p s d N T) (c:∀ k,e k->K k):SD e w pd p s d N T:=by
 obtain⟨F,M,I,L,m,j,f,l,i,g⟩:=h;exact⟨F,M,I,L,m,j,fun k a b=>f k a (c k b),fun k a b=>l k a (c k b),fun k a b=>i k a (c k b),g⟩
theorem SD.fresh (h:SD K w pd p s d N T) (c:Below w.heap.size w w'):SD (fun k=>K k∨(w.heap.size<=k∧k<w'.heap.size)) w' pd p s d N T:=by
 obtain⟨F,M,I,L,e,b,f,j,i,g⟩:=h;refine⟨F,M,I,L,e.below c,b.below c,fun k a hh=>?_,fun k a hh=>?_,fun k a hh=>?_,g⟩
 ·rcases hh with hh | hh
  ·exact f k a hh
  ·have:=e.ltF k a
   omega
 ·rcases hh with hh | hh
  ·exact j k a hh
  ·have:=b.ltM k a
   omega
 ·rcases hh with hh | hh
  ·exact i k a hh
  ·have:=b.ltI k a
   omega
theorem SD.onlyK (h:SD K w pd p s d N T) (e:Ql K w w'):SD K w' pd p s d N T:=by
 obtain⟨F,M,I,L,i,g,a,c,b,f⟩:=h;exact⟨F,M,I,L,i.only e a,g.only e c b,a,c,b,f⟩
theorem SD.disk {d':Dk} {f:Nat} {args:Array Value} {c:Int} (h:SD K w pd p s d N T) (z:∀ k,K k->k<w.heap.size)
 (y:∀ F,Dsk F w pd d N T->(∀ k,F k->¬ K k)->Calls prog f args w fun e w'=>Zgk F w pd d' c N' T' e w'):Calls prog f args w fun e w'=>e=.returned (.int .i64 c)∧SD K w' pd p s d' N' T'∧Ql (fun k=>¬ K k) w w':=by
 obtain⟨F,M,I,L,A,j,g,x,v,m,n⟩:=h;refine(y F A g).mono ?_;rintro e w' ⟨t,F',u,q,i⟩;refine⟨t,⟨F',M,I,L,u,j.only q (fun k a l=>m k l a) (fun k a l=>n k l a),fun k a b=>?_,x,v,fun k a b=>?_,fun k a b=>?_⟩,q.mono g⟩
 ·rcases i k a with hx | hx
  ·exact g k hx b
  ·have:=z k b
   omega
 ·rcases i k a with hx | hx
  ·exact m k hx b
  ·have:=j.ltM k b
   omega
 ·rcases i k a with hx | hx
  ·exact n k hx b
  ·have:=j.ltI k b
   omega
theorem SD.own {M' I':Nat->Prop} {s':Sto} {L':ZdU} (j:∀ k,K k->k<w.heap.size) (c:Dsk F w pd d N T) (m:∀ k,F k->¬ K k) (f:∀ k,M k->¬ K k) (n:∀ k,I k->¬ K k) (e:∀ k,F k->¬ M k) (q:∀ k,F k->¬ I k)
 (g:Ql M w w') (t:Jq M' I' w' p pd L' s') (i:∀ k,M' k->M k∨w.heap.size<=k) (l:∀ k,I' k->I k∨w.heap.size<=k):SD K w' pd p s' d N T∧Ql (fun k=>¬ K k) w w':=by
 refine⟨⟨F,M',I',L',c.only g e,t,m,fun k a b=>?_,fun k a b=>?_,fun k a b=>?_,fun k a b=>?_⟩,g.mono f⟩
 ·rcases i k a with hx | hx
  ·exact f k hx b
  ·have:=j k b
   omega
 ·rcases l k a with hx | hx
  ·exact n k hx b
  ·have:=j k b
   omega
 ·rcases i k b with hx | hx
  ·exact e k a hx
  ·have:=c.ltF k a
   omega
 ·rcases l k b with hx | hx
  ·exact q k a hx
  ·have:=c.ltF k a
   omega
theorem Zir (h:j<l.length):l.getD j 0 ∈ l:=by
 rw[show l.getD j 0=l[j] by simp[List.getD,h]]
 exact getElem_mem h
def ZzM (p:Int->Bool) (l:List Int) (k:Int):Prop:=(k=-1∧∀ j,j<l.length->p (l.getD j 0)=false)∨∃ i:Nat,k=(i:Int)∧i<l.length∧(∀ j,j<i->p (l.getD j 0)=false)∧p (l.getD i 0)=true
theorem ZjM (g R:Nat) (p:Int->Bool) (v:Value) (l:List Int) (w:World) (E:RdI w v l)
 (S:∀ args W,(callFunc g args).run prog W=.ok (.enter g args) W)
 (J:∀ W e,e ∈ l->Below w.heap.size w W->Calls prog g #[.int .i64 e,.pointer (some ⟨R,0,none⟩)] W fun x w'=>x=.returned (.bool (p e))∧Below W.heap.size W w'):
 Calls prog 158 #[v,.func (.func g) #[] #[.pointer (some ⟨R,0,none⟩)]] w fun x w'=>∃ k:Int,x=.returned (.int .i64 k)∧ZzM p l k∧Below w.heap.size w w':=by
 have N:=ZZ E;have H:=ZZ J;obtain⟨U,T,rfl,M,D,-,-,F⟩:=E;have K:=ZZ F;have Y:(l.length:Int)<=9223372036854775807:=by unfold maxLen at D;omega
 clear J M D F
 go_enter func158,ntmps158
 go_wp2
 go_loopw[8] (fun u wr=>∃ q:Nat,u=.int .i64 (q:Int)∧q<=l.length∧Hid (∀ j,j<q->p (l.getD j 0)=false)∧Hid (Below w.heap.size w wr)) (fun u _=>l.length-(intOf u).toNat)
 case atStart=>exact⟨0,rfl,zai _,ZZ (fun j i=>absurd i (zcj _)),zac _ _⟩
 case round=>
  obtain⟨q,rfl,V,t,d⟩:=hrel;by_cases c:q<l.length
  case neg=>
   obtain rfl:q=l.length:=by omega
   go_wp2;go_ret;exact⟨-1,rfl,.inl ⟨rfl,t.out⟩,d.out⟩
  have Q:(q:Int)<(l.length:Int):=by omega
  rcases K.o with P | ⟨b,A,rfl,z⟩
  ·rw[P] at c;simp at c
  have L:wr.cell? ⟨b,A+q,none⟩=some (.int .i64 (l.getD q 0)):=(zb2 (a:=⟨b,A+q,none⟩) (d.out.block b (zau w ⟨b,A+q,none⟩ (z q c)))).trans (z q c);have f:=ZZ (H.o wr (l.getD q 0) (Zir c) d.out);have O:Hid (∀ j,j<q+1->j=q∨j<q):=ZZ (fun j i=>by omega)
  obtain⟨e,m⟩:=zgy (l.getD q 0);rw[<-m] at f L;have B:=ZZ m;obtain⟨n,y⟩:=zgy (p e);rw[<-y] at f;have C:=ZZ y;clear m z H K N y
  go_wp2_with fail
  refine f.o.mono ?_;rintro x X ⟨rfl,I⟩;have G:=ZZ (d.out.trans (I.mono d.out.size));clear I f
  cases n with
  | true=>
   go_wp2;go_ret;exact⟨(q:Int),rfl,.inr ⟨q,rfl,c,t.out,by rw[<-B.o];exact C.o.symm⟩,G.o⟩
  | false=>
   go_wp2;go_roundw
   case rel=>exact⟨q+1,by go_num,by omega,ZZ (fun j i=>by
    rcases O.o j i with h | h
    ·rw[h,<-B.o];exact C.o.symm
    ·exact t.out j h),G⟩
   case measure=>simp[intOf];omega
theorem ZcL (p:Int->Bool) (l:List Int) (j:Nat) (a:j<l.length):(l.take (j+1)).filter (fun e=>!p e)=(l.take j).filter (fun e=>!p e)++if p (l.getD j 0)=true then[] else[l.getD j 0]:=by
 have b:l.take (j+1)=l.take j++[l.getD j 0]:=by
  rw[zb4,za3 a];simp[List.getD,a]
 rw[b,zeo]
 congr 1
 generalize l.getD j 0=x
 cases h:p x <;> simp[h]
theorem Zgm (p:Int->Bool) (l:List Int) (i:Nat) (c:i<=l.length) (h:∀ j,j<i->p (l.getD j 0)=false):(l.take i).filter (fun e=>!p e)=l.take i:=by
 rw[zdz];intro e b;obtain⟨j,a,rfl⟩:=zdh b;rw[length_take] at a;have:=h j (by omega)
 rw[List.getElem_take];simp only [List.getD,za3 (show j<l.length by omega),zgn] at this
 simp[this]
def ZtP (p:Int->Bool) (l L:List Int) (i j:Nat):Prop:=L.length=l.length∧L.take i=(l.take j).filter (fun e=>!p e)∧L.drop j=l.drop j∧i<j
theorem ZtP.start {p:Int->Bool} (b:i<l.length) (h:∀ j,j<i->p (l.getD j 0)=false) (a:p (l.getD i 0)=true):ZtP p l l i (i+1):=by
 refine⟨rfl,?_,rfl,zey _⟩;rw[ZcL p l i b,zab a,append_nil,Zgm p l i (by omega) h]
theorem ZtP.at {p:Int->Bool} (h:ZtP p l L i j):L.getD j 0=l.getD j 0:=by
 obtain⟨e,f,a,d⟩:=h;have c:(L.drop j).getD 0 0=L.getD j 0:=by simp[List.getD]
 have b:(l.drop j).getD 0 0=l.getD j 0:=by simp[List.getD]
 rw[<-c,<-b,a]
theorem Zkw (h:L.drop j=l.drop j):L.drop (j+1)=l.drop (j+1):=by
 rw[<-zdp,<-zdp,h]
theorem ZtP.skip {p:Int->Bool} (h:ZtP p l L i j) (b:j<l.length) (c:p (l.getD j 0)=true):ZtP p l L i (j+1):=by
 obtain⟨d,e,a,f⟩:=h;refine⟨d,?_,Zkw a,by omega⟩
 rw[ZcL p l j b,zab c,append_nil,e]
theorem ZtP.keep {p:Int->Bool} (h:ZtP p l L i j) (b:j<l.length) (c:p (l.getD j 0)=false):ZtP p l (L.set i (l.getD j 0)) (i+1) (j+1):=by
 obtain⟨d,e,a,f⟩:=h;refine⟨by rw[length_set,d],?_,?_,by omega⟩
 ·rw[ZcL p l j b,zaa (by rw[c];simp),<-e,zb4,zf2 zL]
  congr 1
  rw[List.getElem?_set_self (by omega)]
  rfl
 ·rw[List.drop_set_of_lt (by omega)]
  exact Zkw a
theorem Qs.cutClear {g:Nat} (h:Qs w B (.slice (some ⟨g,0,none⟩) n cap) l) (i:Nat) (p:i<=l.length) (vs:List Value):Qs (w.setCells g i vs) B (.slice (some ⟨g,0,none⟩) i cap) (l.take i):=by
 rcases h.row with ⟨a,-⟩ | ⟨g',u,cur,a,b,q,d,t,m,k,f⟩
 ·cases a
 ·injection a with a _ h3
  injection a with a
  injection a with a
  subst a h3;have c:=Xy g _ vs i w cur d;refine Qs.ofRowN (by rw[length_take];omega) b c (by rw[length_take];omega) m (by rw[Xr];exact k) fun j e=>?_
  rw[length_take] at e;rw[Yq _ _ _ _ (by omega),zaa (by omega),f j (by omega)]
  simp[List.getD,show j<i by omega]
theorem Zis (g R:Nat) (p:Int->Bool) (v:Value) (l:List Int) (B:Nat) (w:World) (t:Qs w B v l) (hI:∀ e ∈ l,I64 e) (P:B<=w.heap.size) (an:l.length<=1000000)
 (eg:∀ args W,(callFunc g args).run prog W=.ok (.enter g args) W)
 (C:∀ W e,e ∈ l->Below B w W->Calls prog g #[.int .i64 e,.pointer (some ⟨R,0,none⟩)] W fun x w'=>x=.returned (.bool (p e))∧Below W.heap.size W w'):
 Calls prog 112 #[v,.func (.func g) #[] #[.pointer (some ⟨R,0,none⟩)]] w fun x w'=>∃ v',x=.returned v'∧Qs w' B v' (l.filter (fun e=>!p e))∧Below B w w':=by
 have HO:=ZZ t;have HP:=ZZ C;have X:=ZZ (ZjM g R p v l w (t.rd hI) eg (fun W e m h=>C W e m (h.mono P)))
 obtain⟨va,c,hv⟩:=t.shape;subst hv;clear t C
 go_enter func112,ntmps112
 go_wp2_with fail
 refine X.o.mono ?_;rintro x W0 ⟨k,rfl,b,A⟩;have z:=ZZ (A.mono P);have q:=ZZ (HO.o.below A zL);clear X A HO;rcases b with ⟨rfl,b⟩ | ⟨F,rfl,J,b,ac⟩
 ·have HE:Hid (l.filter (fun e=>!p e)=l):=ZZ (by
   have:=Zgm p l l.length zL b
   rwa [zb1] at this)
  clear b;go_wp2;go_ret;exact⟨_,rfl,by rw[HE.o];exact q.o,z.o⟩
 have U:=ZZ (ZtP.start J b ac);clear b ac;rcases q.o.row with ⟨-,h2⟩ | ⟨d,cap,cur,H,Q,-,-,ax,ai,-,-⟩
 ·rw[h2] at J;simp at J
 injection H with H _ h3
 subst H h3;have aA:(l.length:Int)<=1000000:=by omega
 clear cur ai;have ei:((F:Int) == -1)=false:=zad.2 (by omega)
 go_wp2
 go_loopw[5,6] (fun v5 M wr=>∃ (i j:Nat) (L:List Int),v5=.int .i64 (i:Int)∧M=.int .i64 (j:Int)∧i<j∧j<=l.length∧Hid (Qs wr B (.slice (some ⟨d,0,none⟩) l.length c) L)∧Hid (ZtP p l L i j)∧Hid (Below B w wr)) (fun _ M _=>l.length-(intOf M).toNat)
 case atStart=>exact⟨F,F+1,l,rfl,by go_num,by omega,by omega,q,U,z⟩
 case round=>
  clear q U z ei;obtain⟨i,j,L,rfl,rfl,aq,am,f,a,n⟩:=hrel;by_cases y:j<l.length
  case neg=>
   obtain rfl:j=l.length:=by omega
   have hL:L.length=l.length:=a.out.1;have HT:Hid (L.take i=l.filter (fun e=>!p e)):=ZZ (by rw[a.out.2.1,zb1])
   obtain⟨g',al,G,-,aj,-,-,-,-⟩:=f.out.put i (by omega) 0
   injection G with e1 e2 e3
   clear e2
   injection e1 with e1
   injection e1 with e1
   subst e1 e3
   have aa:Hid (∀ k,k<l.length->wr.frozen? ⟨d,k,none⟩=false∧(wr.cell? ⟨d,k,none⟩).isSome=true):=ZZ (fun k V=>by
    obtain⟨g2,af,O,ag,ad,-⟩:=f.out.put k (by omega) 0
    injection O with f1 _ _
    injection f1 with f1
    injection f1 with f1
    subst f1
    exact⟨ad,by rw[ag];rfl⟩)
   have HK:Hid (∀ ty,(Builtin.clear_ #[23] ty #[.slice (some ⟨d,i,none⟩) (l.length-i) (c-i)]).run prog wr=.ok (.tuple #[]) (wr.setCells d i (List.replicate (l.length-i) (.int .i64 0)))):=ZZ (fun ty=>
    Go.Lib.run_clear_slice wr _ _ ty (.int .i64 0) underlying23 Tryz.zeroValue3 rfl rfl d i (l.length-i) (c-i) (by omega) (fun k V=>(aa.o (i+k) (by omega)).2) (fun k V=>(aa.o (i+k) (by omega)).1))
   have Y:=ZZ (f.out.cutClear i (by omega) (List.replicate (l.length-i) (.int .i64 0)))
   rw[HT.o] at Y;have ak:=ZZ (Gy Q (List.replicate (l.length-i) (.int .i64 0)) i wr n.out);have ao:¬ (c=i):=by omega
   have u:(i:Int)<=(l.length:Int):=by omega
   have ay:(i:Int)<=(c:Int):=by omega
   have ar:i<=l.length:=by omega
   have az:i<=c:=by omega
   clear aj;have hK:=HK.o;go_wp2;go_ret;exact⟨_,rfl,Y.o,ak.o⟩
  have au:(j:Int)<(l.length:Int):=by omega
  have av:L.length=l.length:=a.out.1;obtain⟨g',al,G,D,-⟩:=f.out.put j (by omega) 0
  injection G with e1 e2 e3
  clear e2
  injection e1 with e1
  injection e1 with e1
  subst e1 e3;rw[a.out.at] at D;have K:=ZZ (a.out.skip y);have I:=ZZ (a.out.keep y);obtain⟨e,m⟩:=zgy (l.getD j 0);rw[<-m] at D K I;obtain⟨E,ab⟩:=zgy (p e);have N:=ZZ (fun W h=>HP.o W e (by rw[m];exact Zir y) h)
  rw[<-ab] at N K I;clear m ab a
  go_wp2_with fail
  refine(N.o _ n.out).mono ?_;rintro x W1 ⟨rfl,u⟩;have Z:=ZZ (n.out.trans (u.mono (zas P n.out.size)));have S:=ZZ (f.out.below u zL);clear u N D f n
  cases E with
  | true=>
   go_wp2;go_roundw
   case rel=>exact⟨i,j+1,L,rfl,by go_num,by omega,by omega,S,ZZ (K.o (by simp)),Z⟩
   case measure=>simp[intOf];omega
  | false=>
   obtain⟨g2,af,O,d0,z0,-,-,T,-⟩:=S.o.put i (by omega) e
   injection O with f1 f2 f3
   clear f2
   injection f1 with f1
   injection f1 with f1
   subst f1 f3;have ae:=ZZ T;clear T;have ap:(i:Int)<(l.length:Int):=by omega
   have aw:i<l.length:=by omega
   go_wp2;go_roundw
   case rel=>exact⟨i+1,j+1,L.set i e,by go_num,by go_num,by omega,by omega,ae,ZZ (I.o (by simp)),ZZ (Z.o.setCell Q _)⟩
   case measure=>simp[intOf];omega
theorem Y4 {c:Array Oper} {o:Oper} {a:Act} {K:Act->World->Prop} {Q:Exit->Act->World->Prop} {E:Prop} {R:Value->World->Prop}
 (f:FuncId) (xs:Array Operand) (ts:Array TypeId) (j:o.guard=none) (n:o.op=Op.call { callee:=Callee.value (Operand.func f),args:=xs,argTypes:=ts }) (b:Array Value) (g:xs.map a.eval=b)
 (l:∀ args w,(callFunc f args).run prog w=.ok (.enter f args) w) (d:Calls prog f b w fun e w'=>∃ v',e=.returned v'∧R v' w') (p:∀ v' w',R v' w'->K (a.put o.dst v') w'):
 if Region.wanted o (yielded c a.tmps)=true then Oper.wp prog o a w K Q else E:=by
 have k:Region.wanted o (yielded c a.tmps)=true:=by simp[Region.wanted,j]
 rw[zab k];unfold Oper.wp
 have h:(execOp a.eval o).run prog w=.ok (.enter f b) w:=by
  have i:a.eval (Operand.func f)=.func (.func f) #[] #[]:=rfl;simp[execOp,n,resolve,invoke,g,i,Deferred.ofValue,l]
 rw[h,Oper.upon_enter];refine d.mono ?_;rintro e w' ⟨v',rfl,m⟩;exact p v' w' m
theorem ZlK (b o:Nat) (f:Int) (d:Option Addr) (n c:Nat) (w:World) (g:w.cell? ⟨b,o,none⟩=some (.int .i64 f)) (l:w.cell? ⟨b,o+1,none⟩=some (.slice d n c)) (i:0<=f) (k:f+n<=9000000000000000000):
 Calls prog 38 #[.pointer (some ⟨b,o,none⟩)] w fun e w'=>e=.returned (.int .i64 (f+n))∧Below w.heap.size w w':=by
 have a:IntKind.i64.wrap (f+(n:Int))=f+n:=by rw[zbe];omega
 have j:(n:Int)<=9000000000000000000:=by omega
 go_enter func38,ntmps38
 go_upto_region 1 with fail
 go_quiet(fail)
 go_wp2;go_ret;refine⟨?_,Xo (zac _ _) _⟩
 first | rfl | (rw[a])
structure ZpE (s:Sto):Prop where
 f0:0<=s.log.first
 f1:s.next<=4611686018427387904
 sy:I64 s.synced
 cu:I64 s.cur
theorem Zit {L:ZdU} (w:World) (h:Jq M I w p pd L s) (f:ZpE s):
 Calls prog 14 #[ptr p] w fun e w'=>e=.returned (.int .i64 s.next)∧Below w.heap.size w w':=by
 obtain⟨n,l,b⟩:=h.recs.shape;obtain⟨-,c,a,-⟩:=h.cs;rw[b] at a;have i:=f.f1;have d:=f.f0;unfold Sto.next Lgb.next at i;have m:=ZZ (ZlK p 1 s.log.first n s.log.recs.length l w c a d (by omega))
 have j:Hid (s.next=s.log.first+s.log.recs.length):=ZZ rfl;rw[j.o];generalize s.log.first+(s.log.recs.length:Int)=nx at *;clear c a b i d
 go_enter func14,ntmps14
 go_wp2_with fail
 refine m.o.mono ?_;rintro e w' ⟨rfl,g⟩;have k:=ZZ g;clear g;go_wp2;go_ret;exact⟨rfl,k.o⟩
theorem Zkx {L:ZdU} (w:World) (h:Jq M I w p pd L s):
 Calls prog 18 #[ptr p] w fun e w'=>e=.returned (.int .i64 s.log.first)∧w'=w:=by
 obtain⟨-,a,-⟩:=h.cs;clear h
 go_enter func18,ntmps18
 go_wp2;go_ret;exact⟨rfl,rfl⟩
theorem Ziu {L:ZdU} (w:World) (h:Jq M I w p pd L s):
 Calls prog 11 #[ptr p] w fun e w'=>e=.returned (.int .i64 s.synced)∧w'=w:=by
 obtain⟨-,-,-,-,-,-,a,-⟩:=h.cs;clear h
 go_enter func11,ntmps11
 go_wp2;go_ret;exact⟨rfl,rfl⟩
theorem Zva (v:Value) (l:List Int) (x:Int) (w:World) (u:RdI w v l) (t:l.length<=1000000000):
 Calls prog 92 #[v,.int .i64 x] w fun e w'=>e=.returned (.int .i64 (l.getD (l.length-1) x))∧w'=w:=by
 obtain⟨ao,cap,rfl,g,d,-,-,c⟩:=u;have p:(l.length:Int)<=9223372036854775807:=by unfold maxLen at d;omega
 by_cases a:l.length=0
 ·have e:l=[]:=zaj a
  subst e;have i:((0:Int) == 0)=true:=rfl;clear c d g a;have q:([]:List Int).length=0:=rfl;rw[q]
  go_enter func92,ntmps92
  go_wp2;go_ret;exact⟨rfl,rfl⟩
 ·rcases c with c | ⟨b,B,rfl,k⟩
  ·rw[c] at a;simp at a
  have i:((l.length:Int) == 0)=false:=zad.2 (by omega)
  have f:=k (l.length-1) (by omega)
  have e:l.getD (l.length-1) x=l.getD (l.length-1) 0:=by
   simp[List.getD,show l.length-1<l.length by omega]
  rw[e];obtain⟨y,j⟩:=zgy (l.getD (l.length-1) 0);rw[<-j] at f ⊢;obtain⟨m,n⟩:∃ m,l.length=m+1:=⟨l.length-1,by omega⟩
  rw[n] at f i p ⊢;have z:m+1-1=m:=by omega
  rw[z] at f;have A:(m:Int)<=1000000000:=by omega
  clear j k e d g a n p t
  go_enter func92,ntmps92
  go_wp2;go_ret;exact⟨rfl,rfl⟩
def ZeL (first n:Int):Bool:=decide (n<first) || decide ((n-first) % 2≠0)
theorem Znv (l:List Int) (first:Int):Xk l first=l.filter fun n=>!ZeL first n:=rfl
theorem Zvb (R:Nat) (first n:Int) (w:World) (c:w.cell? ⟨R,0,none⟩=some (.int .i64 first)) (l:0<=first) (m:first<=1000) (i:-1000000000000000000<=n) (j:n<=1000000000000000000):
 Calls prog 111 #[.int .i64 n,.pointer (some ⟨R,0,none⟩)] w fun e w'=>e=.returned (.bool (ZeL first n))∧Below w.heap.size w w':=by
 by_cases b:n<first
 ·have e:ZeL first n=true:=by unfold ZeL;rw[zah b];rfl
  rw[e];clear e
  go_enter func111,ntmps111
  go_wp2;go_ret;exact⟨rfl,zac _ _⟩
 ·have k:IntKind.i64.wrap (n-first)=n-first:=by rw[zbe];omega
  have d:(n-first).tmod 2=(n-first) % 2:=zco (by omega)
  by_cases a:(n-first) % 2=0
  ·have e:ZeL first n=false:=by unfold ZeL;rw[zae b,zae (fun h=>h a)];rfl
   have g:((n-first) % 2 != 0)=false:=by rw[a];rfl
   have f:((n-first).tmod 2 != 0)=false:=by rw[d,a];rfl
   rw[e];clear e a
   go_enter func111,ntmps111
   go_wp2;go_ret;exact⟨rfl,zac _ _⟩
  ·have e:ZeL first n=true:=by unfold ZeL;rw[zae b,zah a];rfl
   have g:((n-first) % 2 != 0)=true:=by rw[zbf];exact a
   have f:((n-first).tmod 2 != 0)=true:=by rw[d,zbf];exact a
   rw[e];clear e a
   go_enter func111,ntmps111
   go_wp2;go_ret;exact⟨rfl,zac _ _⟩
theorem Zbg (h:OkD d):∀ n ∈ Qk d,0<=n∧n<1048576:=fun n b=>by
 obtain⟨e,c,rfl⟩:=zbd.1 b;have a:=(h.dir.may e c).1;unfold ZdE at a;simp only [zgm,zde] at a;exact a
theorem Zcj (first:Int) (w:World) (h:Dsk F w p d N T) (J:N<=1000000) (S:0<=first) (O:first<=1000):
 Calls prog 74 #[ptr p,.int .i64 first] w fun e w'=>∃ v,e=.returned v∧Qs w' w.heap.size v (Xk (Qk d) first)∧Below w.heap.size w w':=by
 obtain⟨b,g⟩:=zgy (w.alloc (.cells #[.int .i64 first] 3));have f:Hid (Below w.heap.size w b):=ZZ (by rw[g];exact Jw _ _)
 have m:Hid (Bk 3 b w.heap.size #[.int .i64 first]):=ZZ (by rw[g];exact zaf w _)
 have l:=ZZ (h.below f.o)
 have y:Hid (Calls prog 28 #[ptr p] b fun e w'=>∃ v,e=.returned v∧Qs w' b.heap.size v (Qk d)∧Below b.heap.size b w'):=ZZ (by
  obtain⟨L,q,j,-⟩:=l.o
  exact ZeC b q j J)
 have x:Hid (∀ n ∈ Qk d,0<=n∧n<1048576):=ZZ (by
  obtain⟨L,q,j,-⟩:=l.o
  exact Zbg j)
 have H:Hid ((Qk d).length<=1000000):=ZZ (by
  obtain⟨L,q,j,G,-⟩:=l.o;have E:=Zbt d d.waits.length;rw[Zdc] at E;have:=G.names;unfold Qk;rw[length_map]
  omega)
 clear h
 go_enter func74,ntmps74
 go_upto_region 1 with fail
 rw[<-g];clear g
 go_wp2_with fail
 refine y.o.mono ?_;rintro e C ⟨D,rfl,t,k⟩;have Q:=ZZ (f.o.trans (k.mono f.o.size));have I:Hid (∀ W,Below b.heap.size C W->W.cell? ⟨w.heap.size,0,none⟩=some (.int .i64 first)):=ZZ (fun W u=>((m.o.keep ((u.block _ m.o.lt).trans (k.block _ m.o.lt))).cell 0 rfl).1)
 have B:=ZZ (Zis 111 w.heap.size (ZeL first) D (Qk d) b.heap.size C t (fun n i=>by
  have:=x.o n i
  exact⟨by omega,by omega⟩) k.size H.o (enters_of func111 (by kernel_rfl) rfl) (fun W n i u=>Zvb w.heap.size first n W (I.o W u) S O (by have:=x.o n i;omega) (by have:=x.o n i;omega)))
 rw[<-Znv] at B
 obtain⟨Z,U,V,R⟩:∃ a n c,D=.slice a n c:=by
  obtain⟨a,c,M⟩:=t.shape;exact⟨a,_,c,M⟩
 subst R;clear t k y
 go_wp2_with fail
 refine B.o.mono ?_;rintro e Y ⟨X,rfl,A,z⟩;have P:=ZZ (A.mono f.o.size);have K:=ZZ (Q.o.trans (z.mono f.o.size));clear A z;go_wp2;go_ret;exact⟨_,rfl,P.o,K.o⟩
theorem Zgn {L:ZdU} (first:Int) (w:World) (h:Jq M I w p pd L s) (b:Dsk F w pd d N T) (C:N<=1000000) (h1:2<=first) (J:first<=1000):
 Calls prog 50 #[ptr p,.int .i64 first] w fun e w'=>e=.returned (.int .i64 (Xs d first))∧Below w.heap.size w w':=by
 have H:=ZZ (Zcj first w b C (by omega) J)
 have q:Hid (∀ n ∈ Xk (Qk d) first,0<=n∧n<1048576):=ZZ (by
  obtain⟨L,D,k,-⟩:=b
  exact fun n f=>Zbg k n (zax.1 f).1)
 have E:Hid ((Qk d).length<=1000000000):=ZZ (by
  obtain⟨L,D,k,x,-⟩:=b;have v:=Zbt d d.waits.length;rw[Zdc] at v;have:=x.names;unfold Qk;rw[length_map]
  omega)
 obtain⟨z,-⟩:=h.cs;have O:Hid (Xs d first=(Xk (Qk d) first).getD ((Xk (Qk d) first).length-1) (first-2)+2):=ZZ rfl
 have j:Hid (0<=(Xk (Qk d) first).getD ((Xk (Qk d) first).length-1) (first-2)∧(Xk (Qk d) first).getD ((Xk (Qk d) first).length-1) (first-2)<=1048576):=ZZ (by
  by_cases B:(Xk (Qk d) first).length=0
  ·rw[zaj B]
   show 0<=first-2∧first-2<=1048576;omega
  ·have S:(Xk (Qk d) first).getD ((Xk (Qk d) first).length-1) (first-2) ∈ Xk (Qk d) first:=by
    rw[show(Xk (Qk d) first).getD ((Xk (Qk d) first).length-1) (first-2)=(Xk (Qk d) first)[(Xk (Qk d) first).length-1]'(by omega) by simp[List.getD,show(Xk (Qk d) first).length-1<(Xk (Qk d) first).length by omega]]
    exact getElem_mem _
   have:=q.o _ S
   omega)
 clear h b;rw[O.o];have U:Hid ((Xk (Qk d) first).length<=1000000000):=ZZ (zas (zdn _ _) E.o);generalize Xk (Qk d) first=l at *;obtain⟨y,i⟩:=zgy (l.getD (l.length-1) (first-2));rw[<-i] at j ⊢;have A:=ZZ i;clear i
 go_enter func50,ntmps50
 go_wp2_with fail
 refine H.o.mono ?_;rintro e Q ⟨R,rfl,g,t⟩;have K:=ZZ t
 have m:=ZZ (g.rd (fun n f=>by
  have:=q.o n f
  exact⟨by omega,by omega⟩))
 obtain⟨a1,V,W,P⟩:∃ a n c,R=.slice a n c:=by
  obtain⟨a,c,G⟩:=g.shape;exact⟨a,_,c,G⟩
 subst P;have u:=ZZ (Zva _ l (first-2) Q m.o U.o);rw[<-A.o] at u;have Y:=j.o.1;have X:=j.o.2;clear g t m z
 go_wp2_with fail
 refine u.o.mono ?_;rintro e Z ⟨rfl,rfl⟩;go_wp2;go_ret;exact⟨rfl,K.o⟩
def ZzN:Q0 × Value × Value:=(Yb,.slice none 0 0,.slice none 0 0)
def Zck (l:List (Q0 × Value × Value)):Q0 × Value × Value:=l.getD (l.length-1) ZzN
theorem Zky {L:ZdU} (h:L.bs.map Prod.fst=s.bases):(Zck L.bs).1=s.base:=by
 unfold Zck Sto.base;rw[<-h,length_map];simp only [List.getD,List.getElem?_map]
 cases L.bs[L.bs.length-1]? <;> rfl
theorem Ziv {l:List (Q0 × Value × Value)} (h:l.length≠0):Zck l ∈ l:=by
 unfold Zck;rw[show l.getD (l.length-1) ZzN=l[l.length-1]'(by omega) by simp[List.getD,show l.length-1<l.length by omega]]
 exact getElem_mem _
theorem Zvc {l:List (Q0 × Value × Value)} (h:w.ownsRow 0 41 6 v l.length (Xv l)) (j:l.length≠0):
 ∃ g cap,v=.slice (some ⟨g,0,none⟩) l.length cap∧∀ k u,k<6->(snC (Zck l))[k]?=some u->w.cell? ⟨g,(l.length-1)*6+k,none⟩=some u:=by
 rcases h.2 with ⟨_,m⟩ | ⟨g,cap,cur,d,_,i,t,q,p,n⟩
 ·exact absurd m j
 ·refine⟨g,cap,d,fun k u f b=>?_⟩
  have c:l.length-1<l.length:=by omega
  have e:Zck l=l[l.length-1]:=by unfold Zck;simp[List.getD,c]
  rw[e] at b;rw[zam w g _ _ _ _ i];have a:=Ziq l (l.length-1) k c f;rw[b,<-n,zdq] at a;rw[zab (by omega)] at a
  rw[<-zby];exact a
theorem Zvd (v:Value) (l:List (Q0 × Value × Value)) (w:World) (h:w.ownsRow 0 41 6 v l.length (Xv l)) (C:l.length≠0) (S:l.length<=1000000000) (L:∃ a n c a' n' c',(Zck l).2.1=.slice a n c∧(Zck l).2.2=.slice a' n' c'):
 Calls prog 78 #[v,.agg #[.int .i64 0,.int .i64 0,.slice none 0 0,.bool false,.int .i64 0,.slice none 0 0]] w fun e w'=>e=.returned (snV (Zck l))∧Below w.heap.size w w':=by
 obtain⟨g,cap,rfl,d⟩:=Zvc h C;obtain⟨x,N⟩:=zgy (Zck l);rw[<-N] at d L ⊢;obtain⟨m,P⟩:∃ m,l.length=m+1:=⟨l.length-1,by omega⟩
 have M:l.length-1=m:=by omega
 rw[M] at d;obtain⟨⟨t,⟨kd,LL,K,E⟩,tb⟩,vl,vt⟩:=x;obtain⟨B,y,lc,J,u,I,O,F⟩:=L
 dsimp only at O F
 subst O F;have q:=d 0 _ (by decide) rfl
 have A:=d 1 _ (by decide) rfl
 have H:=d 2 _ (by decide) rfl
 have z:=d 3 _ (by decide) rfl
 have G:=d 4 _ (by decide) rfl
 have D:=d 5 _ (by decide) rfl
 have j:g<w.heap.size:=zau w ⟨g,m*6+0,none⟩ q;rw[P];have X:((m+1:Nat):Int)≠0:=by omega
 have aa:((((m+1:Nat):Int)) == 0)=false:=zad.2 X;have ab:(m:Int)<=1000000000:=by omega
 obtain⟨b,k⟩:=zgy ((w.alloc (.cells #[.int .i64 0,.int .i64 0,.slice none 0 0,.bool false,.int .i64 0,.slice none 0 0] 41)).alloc (.cells #[.int .i64 0,.int .i64 0,.slice none 0 0,.bool false,.int .i64 0,.slice none 0 0] 41));have f:Hid (Below w.heap.size w b):=ZZ (by rw[k];exact((zac _ _).alloc zL _).alloc (by simp) _)
 have i:Hid (Bn b (w.heap.size+1) #[.int .i64 0,.int .i64 0,.slice none 0 0,.bool false,.int .i64 0,.slice none 0 0]):=ZZ (by rw[k];exact ZdR w _ _)
 have e0:b.cell? ⟨g,m*6,none⟩=some (.int .i64 t):=(f.o.cell (p:=⟨g,m*6,none⟩) j).trans q;have e1:b.cell? ⟨g,m*6+1,none⟩=some (.int .i64 kd):=(f.o.cell (p:=⟨g,m*6+1,none⟩) j).trans A;have e2:b.cell? ⟨g,m*6+2,none⟩=some (.slice B y lc):=(f.o.cell (p:=⟨g,m*6+2,none⟩) j).trans H;have e3:b.cell? ⟨g,m*6+3,none⟩=some (.bool K):=(f.o.cell (p:=⟨g,m*6+3,none⟩) j).trans z;have e4:b.cell? ⟨g,m*6+4,none⟩=some (.int .i64 E):=(f.o.cell (p:=⟨g,m*6+4,none⟩) j).trans G;have e5:b.cell? ⟨g,m*6+5,none⟩=some (.slice J u I):=(f.o.cell (p:=⟨g,m*6+5,none⟩) j).trans D;obtain⟨Q,Y⟩:=i.o.cell 0;obtain⟨U,Z⟩:=i.o.cell 1;obtain⟨T,y2⟩:=i.o.cell 2;obtain⟨R,y3⟩:=i.o.cell 3;obtain⟨V,y4⟩:=i.o.cell 4;obtain⟨W,y5⟩:=i.o.cell 5;clear q A H z G D d h N P M C S
 go_enter func78,ntmps78
 go_upto_region 1 with fail
 rw[<-k];clear k;go_wp2;refine zap (v:=.agg #[.int .i64 t,.int .i64 kd,.slice B y lc,.bool K,.int .i64 E,.slice J u I]) (by simp[results,Tryz.results78,go_sem,Q,U,T,R,V,W]) rfl ?_
 exact⟨rfl,Zbf f.o _ (by omega) _ _ _ _ _ _⟩
theorem SnR.shape (h:SnR w x):∃ a n c a' n' c',x.2.1=.slice a n c∧x.2.2=.slice a' n' c':=by
 obtain⟨a,c,b,-⟩:=h.l;obtain⟨a',c',d⟩:=h.t.shape;exact⟨a,_,c,a',_,c',b,d⟩
theorem ZqT {L:ZdU} (w:World) (h:Jq M I w p pd L s) (N:s.bases.length≠0) (O:s.bases.length<=1000000000):
 Calls prog 37 #[ptr p] w fun e w'=>e=.returned (snV (Zck L.bs))∧Below w.heap.size w w':=by
 have R:L.bs.length=s.bases.length:=by rw[<-h.bsEq,length_map]
 have C:=Ziv (l:=L.bs) (by omega)
 have j:=ZZ (h.base _ C);obtain⟨f,i⟩:=zgy (w.alloc (.cells #[.int .i64 0,.int .i64 0,.slice none 0 0,.bool false,.int .i64 0,.slice none 0 0] 41));have q:Hid (Below w.heap.size w f):=ZZ (by rw[i];exact Jw _ _)
 have F:Hid (Bn f w.heap.size #[.int .i64 0,.int .i64 0,.slice none 0 0,.bool false,.int .i64 0,.slice none 0 0]):=ZZ (by rw[i];exact zaf w _)
 have m:=ZZ (h.below q.o);obtain⟨-,-,-,-,y,-⟩:=m.o.cs;have d:=ZZ (Zvd L.bv L.bs f m.o.bases (by omega) (by omega) j.o.shape)
 obtain⟨ba,bn,bc,z⟩:∃ a n c,L.bv=.slice a n c:=by
  rcases h.bases.2 with ⟨k,_⟩ | ⟨g,cap,cur,k,_⟩
  ·exact⟨_,_,_,k⟩
  ·exact⟨_,_,_,k⟩
 rw[z] at y d;obtain⟨x,A⟩:=zgy (Zck L.bs);rw[<-A] at d j ⊢;obtain⟨H,G,lc,U,E,T,B,u⟩:=j.o.shape;obtain⟨⟨D,⟨kd,LL,V,Q⟩,tb⟩,vl,vt⟩:=x
 dsimp only at B u
 subst B u;unfold snV snC at d ⊢
 dsimp only at d ⊢
 clear h z A C R N O m j
 go_enter func37,ntmps37
 go_upto_region 1 with fail
 rw[<-i];clear i
 go_wp2_with fail
 refine d.o.mono ?_;rintro e W1 ⟨rfl,t⟩;have W:=ZZ (q.o.trans (t.mono q.o.size));have b:=F.o.below t zL;obtain⟨J,Z⟩:=b.cell 0;obtain⟨S,y1⟩:=b.cell 1;obtain⟨P,y2⟩:=b.cell 2;obtain⟨K,y3⟩:=b.cell 3;obtain⟨X,y4⟩:=b.cell 4;obtain⟨Y,y5⟩:=b.cell 5;clear t b y;go_wp2;refine zap (v:=.agg #[.int .i64 D,.int .i64 kd,.slice H G lc,.bool V,.int .i64 Q,.slice U E T]) (by simp[results,Tryz.results37,go_sem,J,S,P,K,X,Y]) rfl ?_
 exact⟨rfl,Zbf W.o _ (by omega) _ _ _ _ _ _⟩
def ZyP (w:World) (s:Q0) (e:Ending) (w':World):Prop:=
 ∃ vl vt,e=.returned (snV (s,vl,vt))∧SnR w' (s,vl,vt)∧(∀ b,vl.ownBlock=some b->w.heap.size<=b)∧(∀ b,vt.ownBlock=some b->w.heap.size<=b)∧Below w.heap.size w w'
theorem ZsA (x:Q0 × Value × Value) (w:World) (hx:SnR w x) (E:x.1.st.L.length<=1000000) (F:x.1.tab.length<=1000000):
 Calls prog 47 #[snV x] w fun e w'=>ZyP w x.1 e w':=by
 obtain⟨⟨idx,⟨kind,L,z,y⟩,k⟩,vl,vt⟩:=x;obtain⟨u,t,n,l,p⟩:=hx
 dsimp only at u t n l p E F ⊢
 obtain⟨la,lc,rfl,-⟩:=id u;obtain⟨T,Z,rfl⟩:=t.shape;have ab:=ZZ (fun W (h:Below w.heap.size w W)=>ZfI _ L W (u.below h zL) E)
 have ae:=ZZ (fun W (h:Below w.heap.size w W)=>ZfJ _ k W (t.below h zL) F)
 have H:=ZZ u.i64;have aa:∀ e ∈ k,Zlx e:=t.choose_spec.choose_spec.2.2.2.2.1;have Y:=ZZ aa;obtain⟨d,m⟩:=zgy ((w.alloc (.cells #[.int .i64 idx,.int .i64 kind,.slice la L.length lc,.bool z,.int .i64 y,.slice T k.length Z] 41)).alloc (.cells #[.int .i64 0,.int .i64 0,.slice none 0 0,.bool false,.int .i64 0,.slice none 0 0] 41));have j:Hid (Below w.heap.size w d):=ZZ (by rw[m];exact((zac _ _).alloc zL _).alloc (by simp) _)
 have f:Hid (Bn d w.heap.size #[.int .i64 idx,.int .i64 kind,.slice la L.length lc,.bool z,.int .i64 y,.slice T k.length Z]):=ZZ (by rw[m];exact(zao _ _ _ (by simp)).trans (zaf w _))
 have Q:Hid (Bn d (w.heap.size+1) #[.int .i64 0,.int .i64 0,.slice none 0 0,.bool false,.int .i64 0,.slice none 0 0]):=ZZ (by rw[m];exact ZdR w _ _)
 have ai:d.heap.size=w.heap.size+2:=by rw[m];simp
 unfold snV snC
 dsimp only
 clear u t aa E F
 go_enter func47,ntmps47
 go_upto_region 1 with fail
 rw[<-m];clear m;obtain⟨N,g2⟩:=f.o.cell 2;obtain⟨p5,S⟩:=f.o.cell 5
 go_cut[] (fun wc=>Hid (Znt w ⟨idx,⟨kind,L,z,y⟩,k⟩ wc))
 case first=>
  go_region_with
   (first
    | (go_at_call 39;refine(ab.o _ (by first | exact j.o.drew | exact j.o)).mono ?_;rintro e W1 ⟨v1,rfl,I,M⟩;have A:Below d.heap.size d W1:=(by first | exact((zac _ _).drew).trans M | exact M);have ag:=ZZ I;have D:=ZZ A;obtain⟨a1,c1,ak⟩:∃ a c,v1=.slice a L.length c:=(by obtain⟨a,c,h,-⟩:=I.rd H.o;exact⟨a,c,h⟩);subst ak;obtain⟨q2,k2⟩:=(f.o.below A zL).cell 2;obtain⟨q5,k5⟩:=(f.o.below A zL).cell 5;clear I M A)
    | (go_at_call 40;refine(ae.o _ (j.o.trans (D.o.mono j.o.size))).mono ?_;rintro e W2 ⟨v2,rfl,K,J⟩;have aj:=ZZ K;have q:=ZZ (D.o.trans (J.mono D.o.size));have am:=ZZ (ag.o.below J zL);obtain⟨a2,c2,al⟩:=K.shape;subst al;obtain⟨r2,j2⟩:=(f.o.below q.o zL).cell 2;obtain⟨r5,j5⟩:=(f.o.below q.o zL).cell 5;clear K J))
  all_goals
   go_wp2_with fail
   go_meet
   exact ZZ (Zii (f.o.below q.o zL) (Q.o.below q.o zL) (am.o.mono (by first | omega | (show w.heap.size+2<=d.heap.size;omega))) H.o (aj.o.mono (by have:=D.o.size;omega)) Y.o p n l (j.o.trans (q.o.mono j.o.size)))
 case rest=>
  have ac:=hcut;clear hcut j f Q ai N g2 p5 S ab ae H Y d n l p;obtain⟨W,rfl⟩:=zgy wc;obtain⟨sa,sc,U,P,i,g,V,ad,X,af,p,n,l,hB⟩:=ac.o;have HY:=ZZ g;have HL:=ZZ V;have G:=ZZ ad;have B:=ZZ X;have O:=ZZ af;have C:=ZZ (And.intro p (And.intro n l));have HB:=ZZ hB
  dsimp only at i HL G B O C
  obtain⟨p0,g0⟩:=i.cell 0;obtain⟨p1,g1⟩:=i.cell 1;obtain⟨N,g2⟩:=i.cell 2;obtain⟨p3,g3⟩:=i.cell 3;obtain⟨p4,g4⟩:=i.cell 4;obtain⟨p5,S⟩:=i.cell 5;obtain⟨z0,y0⟩:=g.cell 0;obtain⟨z1,y1⟩:=g.cell 1;obtain⟨z2,y2⟩:=g.cell 2;obtain⟨z3,y3⟩:=g.cell 3;obtain⟨z4,y4⟩:=g.cell 4;obtain⟨z5,y5⟩:=g.cell 5;have an:¬ (w.heap.size=w.heap.size+1):=by omega
  clear i g V ad X af p n l hB ac;go_wp2;refine zap (v:=.agg #[.int .i64 idx,.int .i64 kind,.slice sa L.length sc,.bool z,.int .i64 y,.slice U k.length P]) (by simp[results,Tryz.results47,go_sem,z0,z1,z2,z3,z4,z5]) rfl ?_
  have R:=ZqQ W (w.heap.size+1) (.int .i64 idx) (.int .i64 kind) (.slice sa L.length sc) (.bool z) (.int .i64 y) (.slice U k.length P);exact⟨_,_,rfl,⟨HL.o.but R (.inr fun b h=>by have:=G.o b h;omega),(B.o.rd O.o).but R (.inr fun b h=>by have:=B.o.fresh b h;omega),C.o.2.1,C.o.2.2,C.o.1⟩,fun b h=>by have:=G.o b h;omega,fun b h=>by have:=B.o.fresh b h;omega,ZeF HB.o _ (by omega) _ _ _ _ _ _⟩
theorem ZyQ:(prog.info? 108).map (fun i=>(i.zero,i.size,i.bytes))=some (some (.agg #[.int .i64 0,.int .i64 0,.int .i64 0]),3,24):=by kernel_rfl
theorem ZlL (w:World) (ty:TypeId) (v:Value) (l:List Pce) (h:w.ownsRow 0 108 3 v l.length (Q6 l)) (c:Pce) (n:l.length<=10000000):
 ∃ v' w',(Builtin.append_ #[71,71] ty #[v,.slice (some ⟨w.heap.size,0,none⟩) 1 1]).run prog (w.alloc (.cells (pcC c) 108))=.ok v' w'∧
  w'.ownsRow 0 108 3 v' (l++[c]).length (Q6 (l++[c]))∧(w.alloc (.cells (pcC c) 108)).grownBy w' v.ownBlock∧(v'.ownBlock=v.ownBlock∨v'.ownBlock=some (w.heap.size+1)):=by
 obtain⟨e,d,a,b,m⟩:=zbo ZyQ
 obtain⟨v',w',i,k,f,_,hl⟩:=zdx (P:=prog) (w.alloc (.cells (pcC c) 108)) 0 71 ty 108 e _ 3 24 underlying71 d a b m rfl (by decide) v l.length (Q6 l) (zb0 h _)
  ⟨w.heap.size,0,none⟩ 1 1 (Q6 [c]) (Zas [c]) (fun j u g=>by
   rw[zbg,za5,zam _ w.heap.size j _ 108 (0,0) (zaf w _)]
   simpa[Q6] using g) (ZpD [c]) (by unfold maxLen;omega) (by omega) (zai _)
 refine⟨v',w',i,?_,f,?_⟩
 ·rw[length_append,Zio]
  exact k
 ·rcases hl with hl | hl
  ·exact .inl hl
  ·exact .inr (by rw[hl];simp)
theorem Zaa (w:World) {b:Array Oper} {rest:List Oper} {o:Oper} {a:Act} {Q:Exit->Act->World->Prop} (e:o.guard=none) (s x:Operand)
 (k:o.op=.call { callee:=.builtin .append,args:=#[s,x],argTypes:=#[71,71] })
 (v:Value) (l:List Pce) (n:a.eval s=v) (h:w.ownsRow 0 108 3 v l.length (Q6 l)) (c:Pce) (q:a.eval x=.slice (some ⟨w.heap.size,0,none⟩) 1 1) (f:l.length<=10000000)
 (p:∀ v' w',w'.ownsRow 0 108 3 v' (l++[c]).length (Q6 (l++[c]))->(w.alloc (.cells (pcC c) 108)).grownBy w' v.ownBlock->(v'.ownBlock=v.ownBlock∨v'.ownBlock=some (w.heap.size+1))->
  wpList prog b Q rest (a.put o.dst v') w'):wpList prog b Q (o::rest) a (w.alloc (.cells (pcC c) 108)):=
 zbr e fun _ m=>by
  obtain⟨v',w',j,g,d,i⟩:=ZlL w o.type v l h c f;unfold Oper.wp execOp;simp only [k,resolve,invoke,builtin,zbk,zbn,za7,map_toArray,map_cons,map_nil,n,q,j];exact m _ _ (p v' w' g d i)
theorem Ziw (w:World) (ty:TypeId) (v:Value) (b:List Rec) (c:Xj w 0 v b) (f:Value) (l:List Rec) (n:RdR w f l) (A:b.length+l.length<=10000000):
 ∃ v' w',(Builtin.append_ #[29,29] ty #[v,f]).run prog w=.ok v' w'∧Xj w' 0 v' (b++l)∧w.grownBy w' v.ownBlock∧(v'.ownBlock=v.ownBlock∨v'.ownBlock=some w.heap.size):=by
 obtain⟨i,g,j,k,x⟩:=zbo Zdg;obtain⟨ao,cap,rfl,y,z,p,_,q⟩:=n
 cases ao with
 | none=>
  have t:=p rfl;subst t;have d:l=[]:=zaj (by omega)
  subst d;have e:=zc5 (P:=prog) w 0 29 ty 62 i 7 underlying29 g v b.length (Qt b) c;exact⟨v,w,e,by rw[append_nil];exact c,⟨rfl,rfl,rfl,zat _,fun _ _ _=>rfl⟩,.inl rfl⟩
 | some a=>
  obtain⟨v',w',e,u,m,_,d⟩:=zdx (P:=prog) w 0 29 ty 62 i _ 7 56 underlying29 g j k x rfl (by decide) v b.length (Qt b) c a l.length cap (Qt l)
   (Zl l) (RdR.cells q a rfl) (Zbw l) (by unfold maxLen;omega) (by omega) (zai _)
  refine⟨v',w',e,?_,m,d⟩;unfold Xj;rw[length_append,ZaA];exact u
theorem Zby (w:World) {d:Array Oper} {rest:List Oper} {o:Oper} {a:Act} {Q:Exit->Act->World->Prop} (f:o.guard=none) (s x:Operand)
 (p:o.op=.call { callee:=.builtin .append,args:=#[s,x],argTypes:=#[29,29] })
 (v:Value) (b:List Rec) (q:a.eval s=v) (k:Xj w 0 v b) (c:Value) (l:List Rec) (u:a.eval x=c) (j:RdR w c l) (g:b.length+l.length<=10000000)
 (h:∀ v' w',Xj w' 0 v' (b++l)->w.grownBy w' v.ownBlock->(v'.ownBlock=v.ownBlock∨v'.ownBlock=some w.heap.size)->wpList prog d Q rest (a.put o.dst v') w'):wpList prog d Q (o::rest) a w:=
 zbr f fun _ t=>by
  obtain⟨v',w',n,i,e,m⟩:=Ziw w o.type v b k c l j g;unfold Oper.wp execOp;simp only [p,resolve,invoke,builtin,zbk,zbn,za7,map_toArray,map_cons,map_nil,q,u,n];exact t _ _ (h v' w' i e m)
theorem X0 {s:Nat} (h:w.ownsRow base t s v n xs) {g:Nat} (a:v.ownBlock=some g):∃ cs,Bk t w g cs:=by
 rcases h.2 with ⟨b,_⟩ | ⟨g',cap,cur,b,_,c,_⟩
 ·rw[b] at a;cases a
 ·rw[b] at a
  obtain rfl:g'=g:=by simpa[Value.ownBlock] using a
  exact⟨_,c⟩
theorem Z8 {s:Nat} (h:w.ownsRow base t s v n xs):∃ a c,v=.slice a n c:=by
 rcases h.2 with ⟨b,d⟩ | ⟨g',cap,cur,b,_⟩
 ·exact⟨_,_,by rw[b,d]⟩
 ·exact⟨_,_,b⟩
structure Zix (t:TypeId) (w:World) (b o:Nat) (cs:Array Value) (rv pv:Value) (g:Lgb):Prop where
 blk:Bk t w b cs
 c0:cs[o]?=some (.int .i64 g.first)
 c1:cs[o+1]?=some rv
 c2:cs[o+2]?=some pv
 recs:Xj w 0 rv g.recs
 pcs:w.ownsRow 0 108 3 pv g.pcs.length (Q6 g.pcs)
def ZjN (b:Nat) (rv pv:Value) (k:Nat):Prop:=k=b∨rv.ownBlock=some k∨pv.ownBlock=some k
theorem Zix.neR {cs:Array Value} (h:Zix t w b o cs rv pv g) (c:t≠62):rv.ownBlock≠some b:=fun e=>by
 obtain⟨d,a⟩:=X0 h.recs e;exact(h.blk.ne a c) rfl
theorem Zix.neP {cs:Array Value} (h:Zix t w b o cs rv pv g) (c:t≠108):pv.ownBlock≠some b:=fun e=>by
 obtain⟨d,a⟩:=X0 h.pcs e;exact(h.blk.ne a c) rfl
theorem Zix.neRP {cs:Array Value} (h:Zix t w b o cs rv pv g):∀ k,rv.ownBlock=some k->pv.ownBlock≠some k:=fun k e d=>by
 obtain⟨f,a⟩:=X0 h.recs e;obtain⟨i,c⟩:=X0 h.pcs d;exact(a.ne c (by decide)) rfl
theorem Zix.below {cs:Array Value} (h:Zix t w b o cs rv pv g) (a:Below w.heap.size w w'):Zix t w' b o cs rv pv g:=
 ⟨h.blk.keep (a.block b h.blk.lt),h.c0,h.c1,h.c2,h.recs.below a zL,Qh h.pcs fun g c=>a.block g (by
  obtain⟨e,d⟩:=X0 h.pcs c
  exact d.lt)⟩
def ZeM (t:TypeId) (w:World) (b o:Nat) (cs:Array Value) (rv pv:Value) (g:Lgb) (w':World):Prop:=
 ∃ rv' pv',Zix t w' b o (((cs.setIfInBounds o (.int .i64 g.first)).setIfInBounds (o+1) rv').setIfInBounds (o+2) pv') rv' pv' g∧Ql (ZjN b rv pv) w w'∧
  (∀ k,ZjN b rv' pv' k->ZjN b rv pv k∨w.heap.size<=k)
theorem ZeM.more {a d:World} {cs:Array Value} (h:ZeM t w b o cs rv pv g a) (c:Below a.heap.size a d):ZeM t w b o cs rv pv g d:=by
 obtain⟨j,l,k,f,e⟩:=h;exact⟨j,l,k.below c,f.trans (G:=fun _=>False) (Ql.ofBelow c) (fun _ _ i=>i.elim),e⟩
theorem ZeN {cs:Array Value} {x:Value} (h:cs[j]?=some x):cs.setIfInBounds j x=cs:=by
 apply zfb;intro i;rw[za0];by_cases e:j=i
 ·subst e
  have a:j<cs.size:=(zan.1 h).1;rw[zab rfl,zab a,h]
 ·simp[e]
theorem Zkz (t:TypeId) (S:t≠62) (D:t≠108) (b o:Nat) (cs:Array Value) (rv pv:Value) (g:Lgb) (name first:Int) (w:World) (h:Zix t w b o cs rv pv g) (ag:g.pcs.length<=1000000):
 Calls prog 53 #[.pointer (some ⟨b,o,none⟩),.int .i64 name,.int .i64 first] w fun e w'=>e=.returned (.tuple #[])∧ZeM t w b o cs rv pv (g.start name first) w':=by
 obtain⟨P,K,A⟩:=Z8 h.pcs
 -- the world ahead of the append
 obtain⟨a,n⟩:=zgy (if g.pcs.length=0 then w.setCell ⟨b,o,none⟩ (.int .i64 first) else w)
 obtain⟨m,p⟩:=zgy (if g.pcs.length=0 then cs.setIfInBounds o (.int .i64 first) else cs)
 have ae:a.heap.size=w.heap.size:=by
  rw[n];split
  ·simp
  ·rfl
 have J:∀ k,k≠b->a.heap[k]?=w.heap[k]?:=fun k hk=>by
  rw[n];split
  ·exact zal _ _ _ _ hk
  ·rfl
 have T:Ql (ZjN b rv pv) w a:=by
  rw[n];split
  ·exact(Ql.refl _ _).setCell o (fun _=>.inl rfl) _
  ·exact Ql.refl _ _
 have U:Bk t a b m:=by
  rw[n,p];split
  ·exact h.blk.set o _
  ·exact h.blk
 have Y:g.start name first=⟨if g.pcs.length=0 then first else g.first,g.recs,g.pcs++[(⟨name,first,first⟩:Pce)]⟩:=rfl
 have c:Zix t a b o m rv pv ⟨if g.pcs.length=0 then first else g.first,g.recs,g.pcs⟩:=by
  refine⟨U,?_,?_,?_,Qh h.recs fun k hk=>J k (fun e=>h.neR S (by subst e;exact hk)),Qh h.pcs fun k hk=>J k (fun e=>h.neP D (by subst e;exact hk))⟩
  ·rw[p]
   have L:o<cs.size:=(zan.1 h.c0).1;split
   ·simp[L]
   ·exact h.c0
  ·rw[p]
   split
   ·rw[za0,zaa (by omega)]
    exact h.c1
   ·exact h.c1
  ·rw[p]
   split
   ·rw[za0,zaa (by omega)]
    exact h.c2
   ·exact h.c2
 have I:Hid (∀ d f,f.ownsRow 0 108 3 d (g.pcs++[(⟨name,first,first⟩:Pce)]).length (Q6 (g.pcs++[(⟨name,first,first⟩:Pce)]))->(a.alloc (.cells (pcC ⟨name,first,first⟩) 108)).grownBy f pv.ownBlock->(d.ownBlock=pv.ownBlock∨d.ownBlock=some (a.heap.size+1))->
  ZeM t w b o cs rv pv (g.start name first) (f.setCell ⟨b,o+2,none⟩ d)∧f.cell? ⟨b,o+2,none⟩=some pv∧f.frozen? ⟨b,o+2,none⟩=false):=ZZ (fun d f i j hv=>by
  have X:∀ k,k<a.heap.size->pv.ownBlock≠some k->f.heap[k]?=a.heap[k]?:=fun k hk ab=>by
   rw[j.block k (by simp;omega) (fun e=>ab e.symm),zao _ _ _ hk]
  have B:Bk t f b m:=c.blk.keep (X b c.blk.lt (c.neP D));have ai:a.heap.size+1<=f.heap.size:=by have:=j.size;simpa using this
  have ac:((cs.setIfInBounds o (.int .i64 (g.start name first).first)).setIfInBounds (o+1) rv).setIfInBounds (o+2) d=m.setIfInBounds (o+2) d:=by
   congr 1
   rw[Y,p]
   dsimp only
   by_cases l:g.pcs.length=0
   ·rw[zab l,zab l]
    exact ZeN (by rw[za0,zaa (by omega)];exact h.c1)
   ·rw[zaa l,zaa l,ZeN h.c0,ZeN h.c1]
  have aa:d.ownBlock≠some b:=fun e=>by
   obtain⟨af,H⟩:=X0 i e;exact(B.ne H D) rfl
  refine⟨⟨rv,d,?_,?_,?_⟩,(B.cell _ c.c2).1,(B.cell _ c.c2).2⟩
  ·rw[ac]
   have L:o+2<m.size:=(zan.1 c.c2).1;refine⟨B.set _ _,?_,?_,by simp[L],Qh c.recs fun k hk=>?_,Qh i fun k hk=>zal _ _ _ _ (fun e=>aa (by subst e;exact hk))⟩
   ·rw[za0,zaa (by omega)]
    exact c.c0
   ·rw[za0,zaa (by omega)]
    exact c.c1
   ·obtain⟨af,H⟩:=X0 c.recs hk
    rw[zal _ _ _ _ (fun e=>c.neR S (by subst e;exact hk)),X k H.lt (c.neRP k hk)]
  ·refine(T.trans (G:=ZjN b rv pv) ?_ (fun _ _ N=>N)).setCell _ (fun _=>.inl rfl) _
   exact((Ql.refl _ a).alloc _).trans (Ql.ofGrown (F:=ZjN b rv pv) j fun k e _=>.inr (.inr e)) (fun _ _ N=>N)
  ·intro k hk
   rcases hk with hk | hk | hk
   ·exact .inl (.inl hk)
   ·exact .inl (.inr (.inl hk))
   ·rcases hv with hv | hv
    ·exact .inl (.inr (.inr (by rw[<-hv];exact hk)))
    ·rw[hv] at hk
     have:=zak hk
     exact .inr (by omega))
 have Q:Hid (a.ownsRow 0 108 3 (.slice P g.pcs.length K) g.pcs.length (Q6 g.pcs)):=ZZ (by rw[<-A];exact c.pcs)
 have W:Hid (g.pcs.length<=10000000):=ZZ (by omega)
 have q:=ZZ A;have O:=(h.blk.cell _ h.c2).1;have C:=(h.blk.cell _ h.c0);obtain⟨C,Z⟩:=C;have R:=(c.blk.cell _ c.c2).1;rw[A] at O R;have V:=ZZ n;have aj:(g.pcs.length:Int)<=1000000:=by omega
 clear A c U J T ae Y p h n;by_cases l:g.pcs.length=0
 ·have ad:((g.pcs.length:Int) == 0)=true:=by rw[za8];omega
  have z:Hid (a=w.setCell ⟨b,o,none⟩ (.int .i64 first)):=ZZ (by rw[V.o,zab l])
  clear l
  go_enter func53,ntmps53
  go_upto_region 2 with fail
  rw[<-z.o];clear z C Z O
  go_wp2_with(at_builtin;refine(fun(h:True->_)=>h trivial) ?_)
  intro _;refine Zaa a rfl _ _ rfl (.slice P g.pcs.length K) g.pcs rfl Q.o (⟨name,first,first⟩:Pce) rfl W.o ?_;intro d f i j hv;obtain⟨u,M,s2⟩:=I.o d f i (by rw[q.o];exact j) (by rw[q.o];exact hv)
  rw[q.o] at M;have E:=ZZ u;obtain⟨a9,c9,v⟩:=Z8 i;obtain⟨y,x⟩:=zgy ((g.pcs++[(⟨name,first,first⟩:Pce)]).length);rw[<-x] at v;subst v;clear u i j hv x R;go_wp2;go_end0;exact⟨rfl,E.o⟩
 ·have ad:((g.pcs.length:Int) == 0)=false:=zad.2 (by omega)
  have z:Hid (a=w):=ZZ (by rw[V.o,zaa l])
  clear l C Z R;rw[z.o] at I Q
  go_enter func53,ntmps53
  go_wp2_with(at_builtin;refine(fun(h:True->_)=>h trivial) ?_)
  intro _;refine Zaa w rfl _ _ rfl (.slice P g.pcs.length K) g.pcs rfl Q.o (⟨name,first,first⟩:Pce) rfl W.o ?_;intro d f i j hv;obtain⟨u,M,s2⟩:=I.o d f i (by rw[q.o];exact j) (by rw[q.o];exact hv)
  rw[q.o] at M;have E:=ZZ u;obtain⟨a9,c9,v⟩:=Z8 i;obtain⟨y,x⟩:=zgy ((g.pcs++[(⟨name,first,first⟩:Pce)]).length);rw[<-x] at v;subst v;clear u i j hv x O;go_wp2;go_end0;exact⟨rfl,E.o⟩
theorem Ziy:∀ (l:List Pce) (j:Nat) (p:Pce),j<l.length->Q6 (l.set j p)=((((Q6 l).set (j*3) (.int .i64 p.name)).set (j*3+1) (.int .i64 p.first)).set (j*3+2) (.int .i64 p.stop))
 | c::l,0,p,_=>by
  rw[zf9,Q6,Q6];rfl
 | c::l,j+1,p,hj=>by
  have a:=Ziy l j p (by simpa using hj)
  rw[zga,Q6,a,Q6];have e:(j+1)*3=(j*3)+1+1+1:=by omega
  rw[e];rfl
theorem Znw {l:List Pce} (h:w.ownsRow 0 108 3 v l.length (Q6 l)) (j:Nat) (q:j<l.length) (x:Int):
 ∃ g cap,v=.slice (some ⟨g,0,none⟩) l.length cap∧g<w.heap.size∧l.length<=cap∧w.cell? ⟨g,j*3+2,none⟩=some (.int .i64 (l.getD j Zj).stop)∧w.frozen? ⟨g,j*3+2,none⟩=false∧
  (w.setCell ⟨g,j*3+2,none⟩ (.int .i64 x)).ownsRow 0 108 3 v l.length (Q6 (l.set j ⟨(l.getD j Zj).name,(l.getD j Zj).first,x⟩)):=by
 rcases h.2 with ⟨_,D⟩ | ⟨g,cap,cur,m,B,a,u,z,f,y⟩
 ·omega
 ·have e:∀ k,k<3->cur[j*3+k]?=(pcC (l.getD j Zj))[k]?:=fun k A=>by
   have b:=Zci l j k q A;rw[<-y,zdq,zab (by omega),zby] at b
   exact b
  refine⟨g,cap,m,(zan.1 a).1,u,?_,za2 w g _ _ _ a,?_,.inr ⟨g,cap,cur.setIfInBounds (j*3+2) (.int .i64 x),m,B,zba w g _ _ _ _ a,u,z,by simpa using f,?_⟩⟩
  ·rw[zam w g _ _ _ _ a]
   exact e 2 (by decide)
  ·rw[Zas,length_set]
  ·rw[Ziy l j _ q]
   have n:=e 0 (by decide)
   have b:=e 1 (by decide)
   rw[<-y];apply zet;intro i;rw[zdq];by_cases c:i<l.length*3
   ·rw[zab c,zby,za0]
    simp only [List.getElem?_set,length_set,length_take,Array.length_toList,zdq,c,zej,zby];have C:cur.size=cap*3:=f;by_cases d:j*3+2=i
    ·subst d
     rw[zab rfl,zab rfl,zab (by omega),zab (by omega)]
    ·rw[zaa d,zaa d]
     by_cases p:j*3+1=i
     ·subst p
      rw[zab rfl,zab (by omega),b]
      rfl
     ·rw[zaa p]
      by_cases t:j*3=i
      ·subst t
       rw[zab rfl,zab (by omega)]
       rw[zcw] at n;rw[n];rfl
      ·rw[zaa t]
   ·rw[zaa c,zbw (by simp;omega)]
theorem Zve (t:TypeId) (M:t≠62) (aw:t≠108) (b o:Nat) (cs:Array Value) (rv pv:Value) (g:Lgb) (T:Value) (l:List Rec) (w:World) (h:Zix t w b o cs rv pv g) (D:RdR w T l) (ag:g.pcs.length≠0) (ab:g.pcs.length<=1000000) (aa:g.recs.length+l.length<=10000000)
 (X:∀ p ∈ g.pcs,0<=p.stop∧p.stop<=4611686018427387904):
 Calls prog 54 #[.pointer (some ⟨b,o,none⟩),T] w fun e w'=>e=.returned (.tuple #[])∧ZeM t w b o cs rv pv (g.add l) w':=by
 obtain⟨la,lc,rfl,-⟩:=id D;obtain⟨L,V,B⟩:=h.recs.shape;obtain⟨m,C⟩:∃ m,g.pcs.length=m+1:=⟨g.pcs.length-1,by omega⟩
 obtain⟨i,A⟩:=zgy ((g.pcs.getD m Zj).stop)
 have aq:0<=i∧i<=4611686018427387904:=by
  rw[A];refine X _ ?_;rw[show g.pcs.getD m Zj=g.pcs[m]'(by omega) by simp[List.getD,show m<g.pcs.length by omega]]
  exact getElem_mem _
 obtain⟨j,J,v,Z,au,-,-,-⟩:=Znw h.pcs m (by omega) 0
 -- behind the append,and the store of the records
 have al:Hid (∀ d f,Xj f 0 d (g.recs++l)->w.grownBy f rv.ownBlock->(d.ownBlock=rv.ownBlock∨d.ownBlock=some w.heap.size)->
  (f.cell? ⟨b,o+1,none⟩=some rv∧f.frozen? ⟨b,o+1,none⟩=false)∧
  ((f.setCell ⟨b,o+1,none⟩ d).cell? ⟨b,o+2,none⟩=some pv∧(f.setCell ⟨b,o+1,none⟩ d).cell? ⟨j,m*3+2,none⟩=some (.int .i64 i)∧(f.setCell ⟨b,o+1,none⟩ d).frozen? ⟨j,m*3+2,none⟩=false)∧
  ZeM t w b o cs rv pv (g.add l) (((f.setCell ⟨b,o+1,none⟩ d)).setCell ⟨j,m*3+2,none⟩ (.int .i64 (i+l.length)))):=ZZ (fun d f u x hv=>by
  have K:∀ k,k<w.heap.size->rv.ownBlock≠some k->f.heap[k]?=w.heap[k]?:=fun k hk ax=>x.block k hk (fun e=>ax e.symm)
  have y:Bk t f b cs:=h.blk.keep (K b h.blk.lt (h.neR M));have z:pv.ownBlock=some j:=by rw[v];rfl
  have G:j≠b:=fun e=>h.neP aw (by rw[z,e])
  have aA:rv.ownBlock≠some j:=fun e=>h.neRP j e z
  have Y:(f.setCell ⟨b,o+1,none⟩ d).ownsRow 0 108 3 pv g.pcs.length (Q6 g.pcs):=Qh h.pcs fun k hk=>by
   have e:k=j:=by rw[z] at hk;exact(zak hk).symm
   subst e;rw[zal _ _ _ _ G,K _ Z aA]
  obtain⟨g',aI,Q,-,-,P,ai,an⟩:=Znw Y m (by omega) (i+l.length)
  have eg:g'=j:=by
   rw[v] at Q
   injection Q with q _ _
   injection q with q
   injection q with q
   exact q.symm
  subst eg;rw[<-A] at P
  have aB:d.ownBlock≠some b:=fun e=>by
   obtain⟨ar,H⟩:=X0 u e;exact(y.ne H M) rfl
  have ae:d.ownBlock≠some g':=fun e=>by
   obtain⟨ar,H⟩:=X0 u e;obtain⟨az,ao⟩:=X0 Y z
   have ak:Bk 108 f g' az:=by
    have:=ao;unfold Bk at this ⊢;rw[zal _ _ _ _ G] at this;exact this
   exact(H.ne ak (by decide)) rfl
  refine⟨⟨(y.cell _ h.c1).1,(y.cell _ h.c1).2⟩,⟨?_,P,ai⟩,d,pv,?_,?_,?_⟩
  ·refine((y.set (o+1) d).cell _ ?_).1
   rw[za0,zaa (by omega)]
   exact h.c2
  ·have ay:((cs.setIfInBounds o (.int .i64 (g.add l).first)).setIfInBounds (o+1) d).setIfInBounds (o+2) pv=cs.setIfInBounds (o+1) d:=by
    have q:(g.add l).first=g.first:=rfl;rw[q,ZeN h.c0];exact ZeN (by rw[za0,zaa (by omega)];exact h.c2)
   rw[ay];have ad:o+1<cs.size:=(zan.1 h.c1).1;refine⟨(y.set _ _).other _ _ _ (fun e=>G e.symm),?_,by simp[ad],?_,Qh u fun k hk=>?_,?_⟩
   ·rw[za0,zaa (by omega)]
    exact h.c0
   ·rw[za0,zaa (by omega)]
    exact h.c2
   ·rw[zal _ _ _ _ (fun e=>ae (by subst e;exact hk)),zal _ _ _ _ (fun e=>aB (by subst e;exact hk))]
   ·have e3:(g.add l).pcs=g.pcs.set m ⟨(g.pcs.getD m Zj).name,(g.pcs.getD m Zj).first,i+l.length⟩:=by
     show Zc g.pcs l.length=_;unfold Zc;rw[C,zda,<-A]
    rw[e3,length_set];exact an
  ·exact((Ql.ofGrown (F:=ZjN b rv pv) x fun k e _=>.inr (.inl e)).setCell _ (fun _=>.inl rfl) _).setCell _ (fun _=>.inr (.inr z)) _
  ·intro k hk
   rcases hk with hk | hk | hk
   ·exact .inl (.inl hk)
   ·rcases hv with hv | hv
    ·exact .inl (.inr (.inl (by rw[<-hv];exact hk)))
    ·rw[hv] at hk
     have:=zak hk;exact .inr (by omega)
   ·exact .inl (.inr (.inr hk)))
 have aj:Hid (Xj w 0 (.slice L g.recs.length V) g.recs):=ZZ (by rw[<-B];exact h.recs)
 have ap:=ZZ D;have E:=ZZ B;have aE:=ZZ v;have af:=ZZ aa;obtain⟨U,-⟩:=h.blk.cell _ h.c1;rw[B] at U;have hw:IntKind.i64.wrap (i+(l.length:Int))=i+l.length:=by rw[zbe];omega
 have aF:(m:Int)<=1000000:=by omega
 have am:g.pcs.length=m+1:=C;have av:Hid (pv=.slice (some ⟨j,0,none⟩) (m+1) J):=ZZ (by rw[v,C])
 have aC:(l.length:Int)<=10000000:=by omega
 obtain⟨aD,aG⟩:=aq;have aH:m+1<=J:=by omega
 clear B v h D X A ag ab aa C am au Z
 go_enter func54,ntmps54
 go_wp2_with(at_builtin;refine(fun(h:True->_)=>h trivial) ?_)
 intro _;refine Zby w rfl _ _ rfl (.slice L g.recs.length V) g.recs rfl aj.o _ l rfl ap.o af.o ?_;intro d f u x hv;obtain⟨⟨O,s1⟩,⟨R,u3,u4⟩,N⟩:=al.o d f u (by rw[E.o];exact x) (by rw[E.o];exact hv)
 rw[E.o] at O;rw[av.o] at R;have S:=ZZ N
 obtain⟨a9,n9,c9,ac⟩:∃ a n c,d=.slice a n c:=by
  obtain⟨a,c,hh⟩:=u.shape;exact⟨a,_,c,hh⟩
 subst ac;obtain⟨W,I⟩:=zgy (f.setCell ⟨b,o+1,none⟩ (.slice a9 n9 c9));rw[<-I] at R u3 u4 S;clear N u x hv U
 go_upto_region 1 with fail
 rw[<-I];clear I O s1
 go_region
 go_wp2;go_end0;exact⟨rfl,S.o.more (zac _ _).drew⟩
theorem Xj.empty (w:World) (B:Nat) (a:B<=w.heap.size):Xj (w.alloc (.cells #[] 62)) B (.slice (some ⟨w.heap.size,0,none⟩) 0 0) []:=
 ⟨rfl,.inr ⟨w.heap.size,0,#[],rfl,a,zaf w _,zat _,zai _,rfl,rfl⟩⟩
theorem ZkA (v:Value) (l:List Rec) (w:World) (f:RdR w v l) (q:l.length<=1000000):
 Calls prog 44 #[v] w fun e w'=>∃ v',e=.returned v'∧Xj w' w.heap.size v' l∧Below w.heap.size w w':=by
 have k:=ZZ f;obtain⟨ao,cap,rfl,j,-,b,-⟩:=f
 cases ao with
 | none=>
  obtain rfl:cap=0:=b rfl;obtain rfl:l=[]:=zaj (by omega)
  clear b j;have p:∀ w,(binOp .eql 29 (.slice none 0 0) (.slice none 0 0)).run prog w=.ok (.bool true) w:=fun w=>zcu w _ _ none 0 0 underlying29
  go_enter func44,ntmps44
  go_wp2;go_ret;exact⟨_,rfl,Xj.nil _ _,zac _ _⟩
 | some a=>
  clear b;have p:∀ w,(binOp .eql 29 (.slice (some a) l.length cap) (.slice none 0 0)).run prog w=.ok (.bool false) w:=fun w=>zcu w _ _ (some a) _ _ underlying29
  have d:Hid (∀ X,Below w.heap.size w (w.alloc X)):=fun X=>(zac _ _).alloc zL X
  have i:Hid (Xj (w.alloc (.cells #[] 62)) w.heap.size (.slice (some ⟨w.heap.size,0,none⟩) 0 0) []):=ZZ (Xj.empty w _ zL)
  go_enter func44,ntmps44
  go_wp2_with(at_builtin;refine ZeK _ rfl _ _ rfl w.heap.size _ [] rfl i.o _ l rfl (k.o.below (d.o _) zL) (by simp;omega) (by simp) ?_)
  intro u t c g;have m:=ZZ c;have n:=ZZ ((d.o _).trans g);clear c g;go_wp2;go_ret;exact⟨_,rfl,m.o,n.o⟩
theorem Zvf (w:World) (ao:Option Addr) (l:List Rec) (cap:Nat) (b:RdR w (.slice ao l.length cap) l) (i:Nat) (g:i<=l.length):
 ∃ a' c',RdR w (.slice a' (l.drop i).length c') (l.drop i)∧∀ x:Int,x=(i:Int)->∀ W,(Instr.sliceAt 29 (.slice ao l.length cap) (some (.int .i64 x)) none none).run prog W=.ok (.slice a' (l.drop i).length c') W:=by
 have d:l.length<=cap:=by
  obtain⟨a,c,e,h,-⟩:=b;simp only [za1] at e;omega
 have h:=b.mid i l.length cap g zL d zL;rw[zbc (by rw[length_drop];omega)] at h
 unfold sliced at h;refine⟨_,_,by rw[length_drop];exact h,fun x f W=>?_⟩
 subst f;rw[zb5 W 29 _ _ _ _ Zba,zfi W 29 ao l.length cap Zba .i64 (i:Int) (by omega) (by omega),ZeG,ZlB,length_drop]
 rfl
theorem ZqU (w:World) (ao:Option Addr) (l:List Rec) (cap:Nat) (b:RdR w (.slice ao l.length cap) l) (i j:Nat) (g:i<=j) (f:j<=l.length):
 ∃ a' c',RdR w (.slice a' (j-i) c') ((l.drop i).take (j-i))∧∀ x y:Int,x=(i:Int)->y=(j:Int)->∀ W,(Instr.sliceAt 29 (.slice ao l.length cap) (some (.int .i64 x)) (some (.int .i64 y)) none).run prog W=.ok (.slice a' (j-i) c') W:=by
 have m:l.length<=cap:=by
  obtain⟨a,c,e,h,-⟩:=b;simp only [za1] at e;omega
 have h:=b.mid i j cap g f (by omega) zL
 unfold sliced at h;refine⟨_,_,h,fun x y k d W=>?_⟩
 subst k d;rw[zb5 W 29 _ _ _ _ Zba,run_slice_lh W 29 ao l.length cap Zba .i64 .i64 (i:Int) (j:Int) (by omega) (by omega) (by omega),ZeG,ZlB]
 rfl
theorem Jq.toLog {L:ZdU} (h:Jq M I w p pd L s):Zix 76 w p 1 (stC pd L s) L.rv L.pv s.log:=
 ⟨h.head,rfl,rfl,rfl,h.recs,h.pcs⟩
theorem Jq.logF {L:ZdU} (h:Jq M I w p pd L s):∀ k,ZjN p L.rv L.pv k->M k:=fun k hk=>by
 rcases hk with rfl | hk | hk
 ·exact h.mh
 ·exact h.mr k hk
 ·exact h.mp k hk
theorem Jq.ofLog {L:ZdU} (h:Jq M I w p pd L s) (u:ZeM 76 w p 1 (stC pd L s) L.rv L.pv g w'):
 ∃ M' L',Jq M' I w' p pd L' { s with log:=g }∧L'.nl=L.nl∧L'.nt=L.nt∧Ql M w w'∧∀ k,M' k->M k∨w.heap.size<=k:=by
 obtain⟨c,d,b,m,l⟩:=u;have e:Ql M w w':=m.mono h.logF;have q:∀ k,I k->w'.heap[k]?=w.heap[k]?:=fun k hk=>e.block k (h.ltI k hk) fun b=>h.dis k b hk
 have t:((((stC pd L s).setIfInBounds 1 (.int .i64 g.first)).setIfInBounds (1+1) c).setIfInBounds (1+2) d)=stC pd { L with rv:=c,pv:=d } { s with log:=g }:=rfl
 rw[t] at b
 have v:∀ k,ZjN p c d k->k<w'.heap.size:=fun k hk=>by
  rcases hk with rfl | hk | hk
  ·exact b.blk.lt
  ·obtain⟨j,a⟩:=X0 b.recs hk
   exact a.lt
  ·obtain⟨j,a⟩:=X0 b.pcs hk
   exact a.lt
 have y:∀ k,L.bv.ownBlock=some k->¬ ZjN p L.rv L.pv k:=fun k hk hl=>by
  obtain⟨j,a⟩:=X0 h.bases hk;rcases hl with rfl | hl | hl
  ·exact(a.ne h.head (by decide)) rfl
  ·obtain⟨z,i⟩:=X0 h.recs hl
   exact(a.ne i (by decide)) rfl
  ·obtain⟨z,i⟩:=X0 h.pcs hl
   exact(a.ne i (by decide)) rfl
 refine⟨fun k=>M k∨ZjN p c d k,{ L with rv:=c,pv:=d },⟨b.blk,b.recs,b.pcs,Qh h.bases fun k hk=>?_,h.bsEq,h.now.keep h.inow q,fun x n=>(h.base x n).keep (h.ibase x n) q,.inr (.inl rfl),fun k hk=>.inr (.inr (.inl hk)),fun k hk=>.inr (.inr (.inr hk)),fun k hk=>.inl (h.mb k hk),h.inow,h.ibase,fun k hk=>?_,fun k hk=>zav (h.ltI k hk) e.size,fun k hk f=>?_⟩,rfl,rfl,e,fun k hk=>?_⟩
 ·obtain⟨j,a⟩:=X0 h.bases hk
  exact m.block k a.lt (y k hk)
 ·rcases hk with hk | hk
  ·exact zav (h.ltM k hk) e.size
  ·exact v k hk
 ·rcases hk with hk | hk
  ·exact h.dis k hk f
  ·rcases l k hk with h1 | h1
   ·exact h.dis k (h.logF k h1) f
   ·have:=h.ltI k f
    omega
 ·rcases hk with hk | hk
  ·exact .inl hk
  ·rcases l k hk with h1 | h1
   ·exact .inl (h.logF k h1)
   ·exact .inr h1
theorem ZsB {l:List Pce} (h:w.ownsRow 0 108 3 v l.length (Q6 l)) (c:0<l.length):
 ∃ g cap,v=.slice (some ⟨g,0,none⟩) l.length cap∧w.cell? ⟨g,1,none⟩=some (.int .i64 (l.getD 0 Zj).first):=by
 rcases h.2 with ⟨_,j⟩ | ⟨g,cap,cur,d,f,b,k,m,i,e⟩
 ·omega
 ·refine⟨g,cap,d,?_⟩
  have a:=Zci l 0 1 c (by decide)
  rw[<-e,zdq,zab (by omega),zby] at a
  rw[zam w g _ _ _ _ b];exact a
theorem Xj.own0 {l:List Rec} (h:Xj w B v l):Xj w 0 v l:=h.mono (zai _)
theorem Xj.freshR {l:List Rec} (h:Xj w B v l):∀ b,v.ownBlock=some b->B<=b∧b<w.heap.size:=fun b a=>zar h b a
theorem Zvg (t:TypeId) (aj:t≠108) (b o:Nat) (cs:Array Value) (rv pv:Value) (g:Lgb) (l:Value) (left:List Pce) (base:Int) (w:World) (h:Zix t w b o cs rv pv g) (z:w.ownsRow 0 108 3 l left.length (Q6 left))
 (aq:left.length<=1000000) (az:g.recs.length<=1000000) (af:∀ r ∈ g.recs,Zcx r) (an:g.first<=Zg left base) (ai:Zg left base<=g.first+g.recs.length) (ap:0<=g.first) (ax:g.first+g.recs.length<=4611686018427387904):
 Calls prog 70 #[.pointer (some ⟨b,o,none⟩),l,.int .i64 base] w fun e w'=>e=.returned (.tuple #[])∧
  ∃ u,Zix t w' b o (((cs.setIfInBounds o (.int .i64 (g.letGo left base).first)).setIfInBounds (o+1) u).setIfInBounds (o+2) l) u l (g.letGo left base)∧Ql (fun k=>k=b) w w'∧∀ k,u.ownBlock=some k->w.heap.size<=k:=by
 obtain⟨f,x⟩:=zgy (Zg left base);rw[<-x] at an ai;obtain⟨ra,rc,I⟩:=h.recs.shape;obtain⟨la,lc,M⟩:=Z8 z;have Y:=h.recs.rd af;rw[I] at Y;obtain⟨a',c',aa,hcut⟩:=Zvf w ra g.recs rc Y (f-g.first).toNat (by omega)
 have ao:=hcut (f-g.first) (by omega)
 obtain⟨d0,f0⟩:=h.blk.cell _ h.c0;obtain⟨Z,f1⟩:=h.blk.cell _ h.c1;obtain⟨d2,f2⟩:=h.blk.cell _ h.c2;rw[I] at Z;have aB:=ZZ aa
 have y:Hid (∀ W,Below w.heap.size w W->(W.cell? ⟨b,o,none⟩=some (.int .i64 g.first)∧W.cell? ⟨b,o+1,none⟩=some (.slice ra g.recs.length rc))∧(W.frozen? ⟨b,o,none⟩=false∧W.frozen? ⟨b,o+1,none⟩=false∧W.frozen? ⟨b,o+2,none⟩=false)∧W.cell? ⟨b,o+2,none⟩=some pv):=ZZ (fun W v=>by
  have j:=h.blk.keep (v.block b h.blk.lt)
  exact⟨⟨(j.cell _ h.c0).1,by rw[<-I];exact(j.cell _ h.c1).1⟩,⟨(j.cell _ h.c0).2,(j.cell _ h.c1).2,(j.cell _ h.c2).2⟩,(j.cell _ h.c2).1⟩)
 have am:Hid (Below w.heap.size w w.drew):=ZZ ((zac _ _).drew)
 have R:Hid (∀ W,Below w.heap.size w W->Calls prog 44 #[.slice a' (g.recs.drop (f-g.first).toNat).length c'] W fun e w'=>∃ v',e=.returned v'∧Xj w' w.heap.size v' (g.recs.drop (f-g.first).toNat)∧Below w.heap.size w w'):=ZZ (fun W J=>(ZkA _ _ W (aa.below J zL) (by rw[length_drop];omega)).mono (by
  rintro e w' ⟨v',rfl,B,v⟩
  exact⟨v',rfl,B.mono J.size,J.trans (v.mono J.size)⟩))
 have U:Hid (∀ i d,Xj d w.heap.size i (g.recs.drop (f-g.first).toNat)->Below w.heap.size w d->
  ∃ u,Zix t (((d.setCell ⟨b,o+1,none⟩ i).setCell ⟨b,o,none⟩ (.int .i64 f)).setCell ⟨b,o+2,none⟩ l) b o (((cs.setIfInBounds o (.int .i64 (g.letGo left base).first)).setIfInBounds (o+1) u).setIfInBounds (o+2) l) u l (g.letGo left base)∧Ql (fun k=>k=b) w (((d.setCell ⟨b,o+1,none⟩ i).setCell ⟨b,o,none⟩ (.int .i64 f)).setCell ⟨b,o+2,none⟩ l)∧∀ k,u.ownBlock=some k->w.heap.size<=k):=ZZ (fun i d B v=>by
  have j:=h.blk.keep (v.block b h.blk.lt);have H:(g.letGo left base).first=f:=x.symm;have aw:o<cs.size:=(zan.1 h.c0).1;have ar:o+1<cs.size:=(zan.1 h.c1).1;have av:o+2<cs.size:=(zan.1 h.c2).1
  have ay:(((cs.setIfInBounds (o+1) i).setIfInBounds o (.int .i64 f)).setIfInBounds (o+2) l)=(((cs.setIfInBounds o (.int .i64 f)).setIfInBounds (o+1) i).setIfInBounds (o+2) l):=by
   congr 1
   exact Array.setIfInBounds_comm _ _ (by omega)
  have ak:∀ k,k≠b->(((d.setCell ⟨b,o+1,none⟩ i).setCell ⟨b,o,none⟩ (.int .i64 f)).setCell ⟨b,o+2,none⟩ l).heap[k]?=d.heap[k]?:=fun k p=>by
   rw[zal _ _ _ _ p,zal _ _ _ _ p,zal _ _ _ _ p]
  refine⟨i,?_,?_,fun k p=>(B.freshR k p).1⟩
  ·rw[H,<-ay]
   refine⟨((j.set _ _).set _ _).set _ _,?_,?_,?_,Qh (show d.ownsRow 0 62 7 i (g.letGo left base).recs.length (Qt (g.letGo left base).recs) from by show Xj d 0 i (g.recs.drop (Zg left base-g.first).toNat);rw[<-x];exact B.own0) fun k p=>ak k (fun e=>?_),Qh z fun k p=>?_⟩
   ·rw[za0,zaa (by omega),za0,zab rfl,zab (by simpa using aw),H]
   ·rw[za0,zaa (by omega),za0,zaa (by omega),za0,zab rfl,zab ar]
   ·rw[za0,zab rfl,zab (by simpa using av)]
   ·subst e
    have:=(B.freshR _ p).1;have:=h.blk.lt;omega
   ·obtain⟨aD,al⟩:=X0 z p
    rw[ak k (al.ne h.blk (fun e=>aj e.symm)),v.block k al.lt]
  ·exact(((Ql.ofBelow (F:=fun k=>k=b) v).setCell (b:=b) _ (fun _=>rfl) _).setCell (b:=b) _ (fun _=>rfl) _).setCell (b:=b) _ (fun _=>rfl) _)
 have hw:IntKind.i64.wrap (f-g.first)=f-g.first:=by rw[zbe];omega
 obtain⟨n1,ag⟩:=zgy ((g.recs.drop (f-g.first).toNat).length);rw[<-ag] at ao R
 obtain⟨pa,pn,pc,ac⟩:∃ a n c,pv=.slice a n c:=by
  obtain⟨a,c,A⟩:=Z8 h.pcs;exact⟨a,_,c,A⟩
 rw[ac] at y d2;have au:-9223372036854775808<=f-g.first∧f-g.first<=9223372036854775807:=by omega
 have T:Hid (left.length≠0->∃ C ad,l=.slice (some ⟨C,0,none⟩) left.length ad∧w.cell? ⟨C,1,none⟩=some (.int .i64 f)):=ZZ (fun m=>by
  obtain⟨C,cap,H,e2⟩:=ZsB z (by omega)
  have e3:f=(left.getD 0 Zj).first:=by rw[x];unfold Zg;rw[zaa m]
  exact⟨C,cap,H,by rw[e3];exact e2⟩)
 have N:Hid (left.length=0->base=f):=ZZ (fun m=>by rw[x];unfold Zg;rw[zab m])
 obtain⟨aF,aG⟩:=au;clear I aa hcut h z x af Y ag an ai ap ax az ac d2 f2 aj;by_cases m:left.length=0
 ·have ae:decide ((left.length:Int)>0)=false:=zae (by omega)
  obtain rfl:=N.o m;rw[m] at M ae;subst M;clear m T N aq
  go_enter func70,ntmps70
  go_upto_region 3 with fail
  go_cut[] (fun wc=>Hid (∃ i d,wc=d.setCell ⟨b,o+1,none⟩ i∧Xj d w.heap.size i (g.recs.drop (base-g.first).toNat)∧Below w.heap.size w d))
  case first=>
   go_region_with
    (first | (go_at_call 44;refine(R.o _ (by first | exact am.o | exact zac _ _)).mono ?_;rintro e W1 ⟨v1,rfl,q,G⟩;have O:=ZZ q;have E:=ZZ G;obtain⟨z1,z2,z3,K⟩:∃ a n c,v1=Value.slice a n c:=(by obtain⟨a,c,A⟩:=q.shape;exact⟨a,_,c,A⟩);subst K;obtain⟨⟨X,q1⟩,⟨P,S,Q⟩,-⟩:=y.o W1 E.o;clear q G))
   all_goals
    go_wp2_with fail
    go_meet
    exact ZZ ⟨_,_,rfl,O.o,E.o⟩
  case rest=>
   obtain⟨i,d,ab,D,j⟩:=hcut.out;subst ab;have V:=ZZ (U.o i d D j);obtain⟨⟨X,q1⟩,⟨P,S,Q⟩,q2⟩:=y.o d j;clear hcut D j d0 Z f0 f1;go_wp2;go_end0;exact⟨rfl,V.o⟩
 ·have ae:decide ((left.length:Int)>0)=true:=zah (by omega)
  have aE:(0:Int)<(left.length:Int):=by omega
  obtain⟨C,ad,L,aC⟩:=T.o m;rw[L] at U;rw[L];clear m T N M L;have aA:(left.length:Int)<=1000000:=by omega
  generalize left.length=ln at *
  go_enter func70,ntmps70
  go_upto_region 3 with fail
  go_cut[] (fun wc=>Hid (∃ i d,wc=d.setCell ⟨b,o+1,none⟩ i∧Xj d w.heap.size i (g.recs.drop (f-g.first).toNat)∧Below w.heap.size w d))
  case first=>
   go_region_with
    (first | (go_at_call 44;refine(R.o _ (by first | exact am.o | exact zac _ _)).mono ?_;rintro e W1 ⟨v1,rfl,q,G⟩;have O:=ZZ q;have E:=ZZ G;obtain⟨z1,z2,z3,K⟩:∃ a n c,v1=Value.slice a n c:=(by obtain⟨a,c,A⟩:=q.shape;exact⟨a,_,c,A⟩);subst K;obtain⟨⟨X,q1⟩,⟨P,S,Q⟩,-⟩:=y.o W1 E.o;clear q G))
   all_goals
    go_wp2_with fail
    go_meet
    exact ZZ ⟨_,_,rfl,O.o,E.o⟩
  case rest=>
   obtain⟨i,d,ab,D,j⟩:=hcut.out;subst ab;have V:=ZZ (U.o i d D j);obtain⟨⟨X,q1⟩,⟨P,S,Q⟩,q2⟩:=y.o d j;clear hcut D j d0 Z f0 f1;go_wp2;go_end0;exact⟨rfl,V.o⟩
theorem Zgo {L:ZdU} (a b:Int) (w:World) (h:Jq M I w p pd L s) (q:ZpE s) (S:∀ r ∈ s.log.recs,Zcx r) (ad:s.log.recs.length<=1000000):
 Calls prog 17 #[ptr p,.int .i64 a,.int .i64 b] w fun e w'=>∃ v,e=.returned (.tuple #[v,.int .i64 (Zbs s a b).2])∧Xj w' w.heap.size v (Zbs s a b).1∧Below w.heap.size w w':=by
 have u:=ZZ (fun W (i:Below w.heap.size w W)=>Zit W (h.below i) q)
 have C:=ZZ (fun W (i:Below w.heap.size w W)=>Zkx W (h.below i))
 unfold Zbs;obtain⟨nx,d⟩:=zgy s.next;obtain⟨f,c⟩:=zgy s.log.first;have n:nx=f+s.log.recs.length:=by rw[d,c];rfl
 rw[<-d] at u ⊢;rw[<-c] at C ⊢;have k:=q.f0;have m:=q.f1;rw[<-c] at k;rw[<-d] at m;by_cases Y:a<0
 ·rw[zab (.inl Y)]
  clear d c n k m h
  go_enter func17,ntmps17
  go_wp2;go_ret2;exact⟨_,rfl,Xj.nil _ _,zac _ _⟩
 by_cases g2:b<a
 ·rw[zab (.inr (.inl g2))]
  clear d c n k m h
  go_enter func17,ntmps17
  go_wp2;go_ret2;exact⟨_,rfl,Xj.nil _ _,zac _ _⟩
 by_cases T:nx<b
 ·rw[zab (.inr (.inr T))]
  clear d c n k m h
  go_enter func17,ntmps17
  go_wp2_with fail
  refine(u.o _ (zac _ _)).mono ?_;rintro e y ⟨rfl,g⟩;have j:=ZZ g;clear g;go_wp2;go_ret2;exact⟨_,rfl,Xj.nil _ _,j.o⟩
 rw[zaa (by omega)]
 by_cases P:a<f
 ·rw[zab P]
  clear d c n k m h
  go_enter func17,ntmps17
  go_wp2_with fail
  refine(u.o _ (zac _ _)).mono ?_;rintro e y ⟨rfl,g⟩;have j:=ZZ g;clear g
  go_wp2_with fail
  refine(C.o _ j.o).mono ?_;rintro e W2 ⟨rfl,rfl⟩;go_wp2;go_ret2;exact⟨_,rfl,Xj.nil _ _,j.o⟩
 rw[zaa P];obtain⟨D,B,A⟩:=h.recs.shape;have z:=h.recs.rd S;rw[A] at z;obtain⟨a',c',t,hcut⟩:=ZqU w D s.log.recs B z (a-f).toNat (b-f).toNat (by omega) (by omega)
 have V:=hcut (a-f) (b-f) (by omega) (by omega)
 have Q:Hid ((s.log.recs.drop (a-f).toNat).take ((b-f).toNat-(a-f).toNat)=(s.log.recs.take (b-f).toNat).drop (a-f).toNat):=ZZ (by rw[zfe])
 rw[Q.o] at t;generalize (s.log.recs.take (b-f).toNat).drop (a-f).toNat=l at *
 have J:Hid (∀ W,Below w.heap.size w W->Calls prog 44 #[.slice a' ((b-f).toNat-(a-f).toNat) c'] W fun e w'=>∃ v',e=.returned v'∧Xj w' w.heap.size v' l∧Below w.heap.size w w'):=ZZ (fun W x=>(ZkA _ _ W (t.below x zL) (by
  obtain⟨_,_,e,-⟩:=t
  injection e with _ e _
  omega)).mono (by
  rintro e w' ⟨v',rfl,ho,i⟩
  exact⟨v',rfl,ho.mono x.size,x.trans (i.mono x.size)⟩))
 have O:Hid (∀ W,Below w.heap.size w W->W.cell? ⟨p,1,none⟩=some (.int .i64 f)∧W.cell? ⟨p,2,none⟩=some (.slice D s.log.recs.length B)):=ZZ (fun W i=>by
  obtain⟨-,X,R,-⟩:=(h.below i).cs;rw[A] at R;rw[c]
  exact⟨X,R⟩)
 have ag:IntKind.i64.wrap (a-f)=a-f:=by rw[zbe];omega
 have af:IntKind.i64.wrap (b-f)=b-f:=by rw[zbe];omega
 have U:-9223372036854775808<=a-f∧a-f<=9223372036854775807:=by omega
 have Z:-9223372036854775808<=b-f∧b-f<=9223372036854775807:=by omega
 obtain⟨ai,ae⟩:=U;obtain⟨ac,ab⟩:=Z;obtain⟨F,G⟩:=zgy ((b-f).toNat-(a-f).toNat);rw[<-G] at V J;clear d c n k m h t hcut z A G Q S q
 go_enter func17,ntmps17
 go_wp2_with fail
 refine(u.o _ (zac _ _)).mono ?_;rintro e y ⟨rfl,g⟩;have j:=ZZ g;clear g
 go_wp2_with fail
 refine(C.o _ j.o).mono ?_;rintro e y ⟨rfl,rfl⟩;have K:Hid (Below w.heap.size w y.drew):=ZZ (j.o.drew)
 go_upto_region 5 with fail
 go_region_held(fun W=>W.cell? ⟨p,1,none⟩=some (.int .i64 f)∧W.cell? ⟨p,2,none⟩=some (.slice D s.log.recs.length B))
  (first | (with_reducible exact O.o _ K.o) | (with_reducible exact O.o _ H.o))
  (first | (go_at_call 44;refine(J.o _ K.o).mono ?_;rintro e W2 ⟨v2,rfl,N,E⟩;have aa:=ZZ N;have H:=ZZ E;clear N E))
 all_goals
  go_wp2;go_ret2;exact⟨_,rfl,aa.o,H.o⟩
theorem ZyR {L:ZdU} (w:World) (h:Jq M I w p pd L s) (aa:s.now.st.L.length<=1000000) (ac:s.now.tab.length<=1000000):
 Calls prog 21 #[ptr p] w fun e w'=>ZyP w s.now e w':=by
 obtain⟨c,f⟩:=zgy (w.alloc (.cells #[.int .i64 0,.int .i64 0,.slice none 0 0,.bool false,.int .i64 0,.slice none 0 0] 41));have n:Hid (Below w.heap.size w c):=ZZ (by rw[f];exact Jw _ _)
 have A:Hid (Bn c w.heap.size #[.int .i64 0,.int .i64 0,.slice none 0 0,.bool false,.int .i64 0,.slice none 0 0]):=ZZ (by rw[f];exact zaf w _)
 have j:=ZZ (h.below n.o);obtain⟨-,-,-,-,-,⟨c5,c6,c7,c8,c9,G⟩,-⟩:=j.o.cs;have g:=ZZ (ZsA (L.nx s) c j.o.now aa ac);obtain⟨E,B,lc,U,z,R,N,Y⟩:=j.o.now.shape;have q:L.nl=.slice E B lc:=N;have y:L.nt=.slice U z R:=Y;rw[q] at c7;rw[y] at G
 have T:Hid (snV (L.nx s)=.agg #[.int .i64 s.now.idx,.int .i64 s.now.st.kind,.slice E B lc,.bool s.now.st.shut,.int .i64 s.now.st.eng,.slice U z R]):=ZZ (by
  unfold snV snC ZdU.nx
  dsimp only
  rw[q,y])
 rw[T.o] at g;have Z:(L.nx s).1=s.now:=rfl;rw[Z] at g;clear h N Y q y T j Z
 go_enter func21,ntmps21
 go_upto_region 1 with fail
 rw[<-f];clear f
 go_wp2_with fail
 refine g.o.mono ?_;rintro e W1 ⟨vl,vt,rfl,u,X,O,x⟩;have ab:=ZZ (n.o.trans (x.mono n.o.size));have d:=ZZ u;have m:=ZZ (And.intro X O);have a:=A.o.below x zL;have P:=ZZ n.o.size;obtain⟨z0,y0⟩:=a.cell 0;obtain⟨z1,y1⟩:=a.cell 1;obtain⟨z2,y2⟩:=a.cell 2;obtain⟨z3,y3⟩:=a.cell 3;obtain⟨z4,y4⟩:=a.cell 4;obtain⟨z5,y5⟩:=a.cell 5;obtain⟨W,C,D,V,un,H,J,S⟩:=u.shape
 dsimp only at J S
 subst J S;have K:w.heap.size<c.heap.size:=A.o.lt;have F:=ZZ K;unfold snV snC
 dsimp only
 clear x a c5 c6 c7 c8 c9 G u X O g K;go_wp2;refine zap (v:=.agg #[.int .i64 s.now.idx,.int .i64 s.now.st.kind,.slice W C D,.bool s.now.st.shut,.int .i64 s.now.st.eng,.slice V un H]) (by simp[results,Tryz.results21,go_sem,z0,z1,z2,z3,z4,z5]) rfl ?_
 have Q:=ZqQ W1 w.heap.size (.int .i64 s.now.idx) (.int .i64 s.now.st.kind) (.slice W C D) (.bool s.now.st.shut) (.int .i64 s.now.st.eng) (.slice V un H);refine⟨_,_,rfl,⟨d.o.l.but Q (.inr fun b h=>?_),d.o.t.but Q (.inr fun b h=>?_),d.o.k,d.o.e,d.o.i⟩,fun b h=>?_,fun b h=>?_,ZeF ab.o _ (by omega) _ _ _ _ _ _⟩
 ·have:=m.o.1 b h
  have:=F.o;omega
 ·have:=m.o.2 b h
  have:=F.o;omega
 ·exact zas P.o (m.o.1 b h)
 ·exact zas P.o (m.o.2 b h)
end Go.Proofs.YtnahjngbneicaaaGreatDoor
