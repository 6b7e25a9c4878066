import Derived.Test.YtnahjngbneicaaaGreatDoorPack7
import Derived.Deep.RegionHeld2
namespace Go.Proofs.YtnahjngbneicaaaGreatDoor
set_option linter.unusedSimpArgs false
open _root_.Go.Proofs.Tryz
open List (append_nil getElem_mem length_append length_drop length_map length_set length_take map_cons map_nil map_toArray)
set_option maxHeartbeats 4000000
set_option maxRecDepth 100000
open Go.RowKit
variable {w w':World} {ao:Option Addr} {B N N' T T' b base cap i j n o p pd:Nat} {L l:List Int} {x:Q0 × Value × Value} {F I K M:Nat->Prop} {pv rv v:Value} {s:Sto} {d:Dk} {g:Lgb} {t:TypeId} {xs:List Value}
abbrev zal:=@List.set_cons_zero
abbrev zam:=@List.set_cons_succ
abbrev zba:=@Array.getElem?_setIfInBounds
abbrev zdl:=@List.getElem?_take
abbrev zfj:=@Array.ext_getElem?
abbrev zfo:=@List.drop_take
abbrev zfr:=@List.getElem?_map
theorem RdR.mid {l:List Rec} (h:RdR w (.slice ao n cap) l) (i j m:Nat) (G:i<=j) (F:j<=l.length) (K:j<=m) (D:m<=cap):RdR w (sliced ao i j m 7) ((l.drop i).take (j-i)):=by
 obtain⟨E,H,u,I,J,t,B,c⟩:=h;simp only [zbb] at u;obtain⟨rfl,rfl,rfl⟩:=u;have f:((l.drop i).take (j-i)).length=j-i:=by simp;omega
 have q:∀ n ∈ (l.drop i).take (j-i),ZcJ n:=fun n a=>B n (ze8 (zbz a))
 unfold sliced;by_cases p:m=i
 ·rw[zab p]
  have e:j-i=0:=by omega
  refine⟨ao,m-i,by rw[f],by omega,by omega,fun a=>by have:=t a;omega,q,.inl ?_⟩
  rw[e];simp
 ·rw[zaa p]
  refine⟨ao.map (·.add (i*7)),m-i,by rw[f],by omega,by omega,fun a=>?_,q,?_⟩
  ·have v:ao=none:=by simpa using a
   have:=t v;omega
  ·rcases c with c | ⟨b,d,x,z⟩
   ·exact .inl (by rw[c];simp)
   ·refine .inr ⟨b,d+i*7,?_,fun k g=>?_⟩
    ·rw[x,zc9,zbn]
    ·rw[f] at g
     have C:=z (i+k) (by omega)
     have A:d+i*7+k*7=d+(i+k)*7:=by omega
     have y:((l.drop i).take (j-i)).getD k Qj=l.getD (i+k) Qj:=by simp[List.getD,g]
     rw[A,y];exact C
theorem RdL.mid {l:List (List UInt8)} (h:RdL w (.slice ao n cap) l) (i j m:Nat) (F:i<=j) (E:j<=l.length) (J:j<=m) (C:m<=cap):RdL w (sliced ao i j m 1) ((l.drop i).take (j-i)):=by
 obtain⟨D,G,q,H,I,p,c⟩:=h;simp only [zbb] at q;obtain⟨rfl,rfl,rfl⟩:=q;have d:((l.drop i).take (j-i)).length=j-i:=by simp;omega
 unfold sliced;by_cases g:m=i
 ·rw[zab g]
  have e:j-i=0:=by omega
  refine⟨ao,m-i,by rw[d],by omega,by omega,fun a=>by have:=p a;omega,.inl ?_⟩
  rw[e];simp
 ·rw[zaa g]
  refine⟨ao.map (·.add (i*1)),m-i,by rw[d],by omega,by omega,fun a=>?_,?_⟩
  ·have t:ao=none:=by simpa using a
   have:=p t;omega
  ·rcases c with c | ⟨b,z,v,A⟩
   ·exact .inl (by rw[c];simp)
   ·refine .inr ⟨b,z+i,?_,fun k f=>?_⟩
    ·rw[v,zct,zc9,zbn]
    ·rw[d] at f
     obtain⟨x,B,u⟩:=A (i+k) (by omega)
     refine⟨x,by rw[zb1];exact B,?_⟩
     have y:((l.drop i).take (j-i)).getD k []=l.getD (i+k) []:=by simp[List.getD,f]
     rw[y];exact u
theorem RdR.cells {l:List Rec} (h:l=[]∨∃ b c,ao=some ⟨b,c,none⟩∧∀ j,j<l.length->ZjV w b (c+j*7) (l.getD j Qj)) (a:Addr) (f:ao=some a):
 ∀ j u,(Qx l)[j]?=some u->w.cell? (a.add j)=some u:=by
 intro j u d;rcases h with h | ⟨b,c,A,x⟩
 ·rw[h] at d
  simp[Qx] at d
 ·rw[A] at f
  injection f with f
  subst f;have t:j<(Qx l).length:=(zbr.1 d).1;rw[Zq] at t;have i:j=j / 7*7+j % 7:=by omega
  have g:=Zbs l (j / 7) (j % 7) (by omega) (by omega)
  rw[<-i,d] at g;obtain⟨m,v,p,q,n,y,z⟩:=x (j / 7) (by omega)
  have e:∀ k,k<7->c+(j / 7*7+k)=c+j / 7*7+k:=fun k _=>by omega
  rw[zbn,i,e (j % 7) (by omega)]
  have hk:j % 7=0∨j % 7=1∨j % 7=2∨j % 7=3∨j % 7=4∨j % 7=5∨j % 7=6:=by omega
  rcases hk with hk | hk | hk | hk | hk | hk | hk
  all_goals
   rw[hk] at g ⊢;rw[g]
   first | exact m | exact v | exact p | exact q | exact n | exact y | exact z
theorem ZiA (w:World) (ty:TypeId) (B:Nat) (v:Value) (b:List Rec) (c:Xl w B v b) (e:Value) (l:List Rec) (q:RdR w e l)
 (C:b.length+l.length<=1000000) (f:B<=w.heap.size):
 ∃ v' w',(Builtin.append_ #[29,29] ty #[v,e]).run prog w=.ok v' w'∧Xl w' B v' (b++l)∧Below B w w':=by
 obtain⟨g,i,n,m,z⟩:=zbx Zdl;obtain⟨ao,cap,rfl,D,E,p,_,y⟩:=q
 cases ao with
 | none=>
  have j:=p rfl;subst j;have A:l=[]:=zao (by omega)
  subst A;have d:=zc6 (P:=prog) w B 29 ty 62 g 7 underlying29 i v b.length (Qx b) c;exact⟨v,w,d,by rw[append_nil];exact c,zac _ _⟩
 | some a=>
  obtain⟨v',w',d,u,x,_⟩:=zdn (P:=prog) w B 29 ty 62 g _ 7 56 underlying29 i n m z rfl (by decide) v b.length (Qx b) c a l.length cap (Qx l)
   (Zq l) (RdR.cells y a rfl) (Zbt l) (by unfold maxLen;omega) (by omega) f
  refine⟨v',w',d,?_,?_⟩
  ·unfold Xl
   rw[length_append,ZaB];exact u
  ·exact(zac _ _).grown x f (fun k t=>(zaz c k t).1)
theorem ZeS (w:World) {d:Array Oper} {rest:List Oper} {o:Oper} {a:Act} {Q:Exit->Act->World->Prop} (j:o.guard=none) (s x:Operand)
 (n:o.op=.call { callee:=.builtin .append,args:=#[s,x],argTypes:=#[29,29] })
 (B:Nat) (v:Value) (b:List Rec) (e:a.eval s=v) (p:Xl w B v b) (c:Value) (l:List Rec) (t:a.eval x=c) (k:RdR w c l)
 (f:b.length+l.length<=1000000) (m:B<=w.heap.size)
 (h:∀ v' w',Xl w' B v' (b++l)->Below B w w'->wpList prog d Q rest (a.put o.dst v') w'):wpList prog d Q (o::rest) a w:=
 zb0 j fun _ g=>by
  obtain⟨v',w',i,u,q⟩:=ZiA w o.type B v b p c l k f m;unfold Oper.wp execOp;simp only [n,resolve,invoke,builtin,zbt,zbv,zbe,map_toArray,map_cons,map_nil,e,t,i];exact g _ _ (h v' w' u q)
def Bsg (w:World) (b:Nat) (cs:Array Value):Prop:=w.heap[b]?=some (.cells cs 217 (0,0))
theorem Bsg.lt {cs:Array Value} (h:Bsg w b cs):b<w.heap.size:=(zar.1 h).1
theorem Bsg.below {cs:Array Value} (h:Bsg w b cs) (a:Below B w w') (c:w.heap.size<=B):Bsg w' b cs:=(a.block b (by have:=h.lt;omega)).trans h
theorem Bsg.cell {cs:Array Value} (h:Bsg w b cs) (j:Nat):w.cell? ⟨b,j,none⟩=cs[j]?∧w.frozen? ⟨b,j,none⟩=false:=⟨zas w b j _ _ _ h,zbc w b j _ _ h⟩
def pcC (p:Pce):Array Value:=#[.int .i64 p.name,.int .i64 p.first,.int .i64 p.stop]
def Q7:List Pce->List Value
 | []=>[]
 | c::l=>(pcC c).toList++Q7 l
theorem Zat:∀ l:List Pce,(Q7 l).length=l.length*3
 | []=>rfl
 | c::l=>by
  rw[Q7,length_append,Zat l,zcb];show 3+_=_;omega
theorem ZiB:∀ a b:List Pce,Q7 (a++b)=Q7 a++Q7 b
 | [],_=>rfl
 | c::l,b=>by rw[zcq,Q7,ZiB l b,Q7,zcr]
theorem Zch:∀ (l:List Pce) (j k:Nat),j<l.length->k<3->(Q7 l)[j*3+k]?=(pcC (l.getD j Zm))[k]?
 | c::l,0,k,_,hk=>by
  rw[Q7,zc7,za9,zbg (by show k<3;exact hk)]
  simp
 | c::l,j+1,k,hj,hk=>by
  have e:(j+1)*3+k=(pcC c).toList.length+(j*3+k):=by show _=3+_;omega
  rw[Q7,e,zbs (by omega),zcf,Zch l j k (by simpa using hj) hk]
  rfl
theorem ZpU (l:List Pce):∀ u ∈ Q7 l,u.oneCell'=true:=by
 induction l with
 | nil=>intro u a;cases a
 | cons c l b=>
  intro u a;rw[Q7] at a;rcases za2.1 a with h | h
  ·simp[pcC] at h
   rcases h with rfl | rfl | rfl <;> rfl
  ·exact b u h
def snC (x:Q0 × Value × Value):Array Value:=#[.int .i64 x.1.idx,.int .i64 x.1.st.kind,x.2.1,.bool x.1.st.shut,.int .i64 x.1.st.eng,x.2.2]
def snV (x:Q0 × Value × Value):Value:=.agg (snC x)
def Xw:List (Q0 × Value × Value)->List Value
 | []=>[]
 | c::l=>(snC c).toList++Xw l
theorem ZdC:∀ l:List (Q0 × Value × Value),(Xw l).length=l.length*6
 | []=>rfl
 | c::l=>by
  rw[Xw,length_append,ZdC l,zcb];show 6+_=_;omega
theorem ZiC:∀ a b:List (Q0 × Value × Value),Xw (a++b)=Xw a++Xw b
 | [],_=>rfl
 | c::l,b=>by rw[zcq,Xw,ZiC l b,Xw,zcr]
theorem ZiD:∀ (l:List (Q0 × Value × Value)) (j k:Nat) (a:j<l.length),k<6->(Xw l)[j*6+k]?=(snC l[j])[k]?
 | c::l,0,k,_,hk=>by
  rw[Xw,zc7,za9,zbg (by show k<6;exact hk)]
  simp
 | c::l,j+1,k,a,hk=>by
  have e:(j+1)*6+k=(snC c).toList.length+(j*6+k):=by show _=6+_;omega
  rw[Xw,e,zbs (by omega),zcf,ZiD l j k (by simpa using a) hk]
  rfl
structure SnR (w:World) (x:Q0 × Value × Value):Prop where
 l:RdI w x.2.1 x.1.st.L
 t:RdE w x.2.2 x.1.tab
 k:I64 x.1.st.kind
 e:I64 x.1.st.eng
 i:I64 x.1.idx
theorem SnR.snV {w:World} {x:Q0 × Value × Value} (h:SnR w x):SnV w (snV x) x.1:=⟨x.2.1,x.2.2,rfl,h.l,h.k,h.e,h.t,h.i⟩
theorem SnR.below (h:SnR w x) {B:Nat} (b:Below B w w') (a:w.heap.size<=B):SnR w' x:=⟨h.l.below b a,h.t.below b a,h.k,h.e,h.i⟩
def Zma (I:Nat->Prop) (x:Q0 × Value × Value):Prop:=(x.1.st.L=[]∨∀ g,x.2.1.ownBlock=some g->I g)∧(x.1.tab=[]∨∀ g,x.2.2.ownBlock=some g->I g)
theorem Zma.mono {J:Nat->Prop} (h:Zma I x) (b:∀ k,I k->J k):Zma J x:=by
 obtain⟨d,c⟩:=h;exact⟨d.imp id fun h g a=>b g (h g a),c.imp id fun h g a=>b g (h g a)⟩
theorem RdE.keepS {l:List Ent} (h:RdE w v l) (hk:l=[]∨∀ g,v.ownBlock=some g->w'.heap[g]?=w.heap[g]?):RdE w' v l:=by
 obtain⟨ao,cap,rfl,m,k,d,f,a⟩:=h;refine⟨ao,cap,rfl,m,k,d,f,?_⟩;rcases a with a | ⟨b,e,rfl,i⟩
 ·exact .inl a
 ·rcases hk with hk | hk
  ·exact .inl hk
  ·exact .inr ⟨b,e,rfl,fun j c=>(i j c).keep (hk b rfl)⟩
theorem RdI.keepS (h:RdI w v l) (hk:l=[]∨∀ g,v.ownBlock=some g->w'.heap[g]?=w.heap[g]?):RdI w' v l:=by
 obtain⟨ao,cap,rfl,n,m,f,i,c⟩:=h;refine⟨ao,cap,rfl,n,m,f,i,?_⟩;rcases c with c | ⟨b,d,rfl,k⟩
 ·exact .inl c
 ·rcases hk with hk | hk
  ·exact .inl hk
  ·exact .inr ⟨b,d,rfl,fun j e=>(zb4 (a:=⟨b,d+j,none⟩) (hk b rfl)).trans (k j e)⟩
theorem SnR.keep (h:SnR w x) (c:Zma I x) (b:∀ g,I g->w'.heap[g]?=w.heap[g]?):SnR w' x:=
 ⟨h.l.keepS (c.1.imp id fun h g a=>b g (h g a)),h.t.keepS (c.2.imp id fun h g a=>b g (h g a)),h.k,h.e,h.i⟩
structure ZdD where
 rv:Value
 pv:Value
 bv:Value
 nl:Value
 nt:Value
 bs:List (Q0 × Value × Value)
def ZdD.nx (L:ZdD) (s:Sto):Q0 × Value × Value:=(s.now,L.nl,L.nt)
def stC (pd:Nat) (L:ZdD) (s:Sto):Array Value:=
 #[ptr pd,.int .i64 s.log.first,L.rv,L.pv,L.bv,.int .i64 s.now.idx,.int .i64 s.now.st.kind,L.nl,.bool s.now.st.shut,.int .i64 s.now.st.eng,L.nt,.int .i64 s.synced,.int .i64 s.cur,.bool s.nw]
structure Jr (M I:Nat->Prop) (w:World) (p pd:Nat) (L:ZdD) (s:Sto):Prop where
 head:Bk 76 w p (stC pd L s)
 recs:Xl w 0 L.rv s.log.recs
 pcs:w.ownsRow 0 108 3 L.pv s.log.pcs.length (Q7 s.log.pcs)
 bases:w.ownsRow 0 41 6 L.bv L.bs.length (Xw L.bs)
 bsEq:L.bs.map Prod.fst=s.bases
 now:SnR w (L.nx s)
 base:∀ x ∈ L.bs,SnR w x
 mh:M p
 mr:∀ g,L.rv.ownBlock=some g->M g
 mp:∀ g,L.pv.ownBlock=some g->M g
 mb:∀ g,L.bv.ownBlock=some g->M g
 inow:Zma I (L.nx s)
 ibase:∀ x ∈ L.bs,Zma I x
 ltM:∀ k,M k->k<w.heap.size
 ltI:∀ k,I k->k<w.heap.size
 dis:∀ k,M k->¬ I k
theorem Jr.keep {L:ZdD} (h:Jr M I w p pd L s) (b:∀ k,(M k∨I k)->w'.heap[k]?=w.heap[k]?) (d:w.heap.size<=w'.heap.size):Jr M I w' p pd L s:=
 ⟨h.head.keep (b p (.inl h.mh)),Qh h.recs fun g a=>b g (.inl (h.mr g a)),Qh h.pcs fun g a=>b g (.inl (h.mp g a)),Qh h.bases fun g a=>b g (.inl (h.mb g a)),h.bsEq,
  h.now.keep h.inow fun g a=>b g (.inr a),fun x e=>(h.base x e).keep (h.ibase x e) fun g a=>b g (.inr a),h.mh,h.mr,h.mp,h.mb,h.inow,h.ibase,fun k c=>zay (h.ltM k c) d,fun k c=>zay (h.ltI k c) d,h.dis⟩
theorem Jr.only {G:Nat->Prop} {L:ZdD} (h:Jr M I w p pd L s) (a:Ql G w w') (b:∀ k,M k->¬ G k) (c:∀ k,I k->¬ G k):Jr M I w' p pd L s:=
 h.keep (fun k hk=>by
  rcases hk with hk | hk
  ·exact a.block k (h.ltM k hk) (b k hk)
  ·exact a.block k (h.ltI k hk) (c k hk)) a.size
theorem Jr.below {L:ZdD} (h:Jr M I w p pd L s) (a:Below w.heap.size w w'):Jr M I w' p pd L s:=
 h.keep (fun k hk=>a.block k (by
  rcases hk with hk | hk
  ·exact h.ltM k hk
  ·exact h.ltI k hk)) a.size
theorem Jr.cs {L:ZdD} (h:Jr M I w p pd L s):
 w.cell? ⟨p,0,none⟩=some (ptr pd)∧w.cell? ⟨p,1,none⟩=some (.int .i64 s.log.first)∧w.cell? ⟨p,2,none⟩=some L.rv∧w.cell? ⟨p,3,none⟩=some L.pv∧w.cell? ⟨p,4,none⟩=some L.bv∧
 (w.cell? ⟨p,5,none⟩=some (.int .i64 s.now.idx)∧w.cell? ⟨p,6,none⟩=some (.int .i64 s.now.st.kind)∧w.cell? ⟨p,7,none⟩=some L.nl∧w.cell? ⟨p,8,none⟩=some (.bool s.now.st.shut)∧w.cell? ⟨p,9,none⟩=some (.int .i64 s.now.st.eng)∧w.cell? ⟨p,10,none⟩=some L.nt)∧
 w.cell? ⟨p,11,none⟩=some (.int .i64 s.synced)∧w.cell? ⟨p,12,none⟩=some (.int .i64 s.cur)∧w.cell? ⟨p,13,none⟩=some (.bool s.nw):=
 ⟨(h.head.cell 0 rfl).1,(h.head.cell 1 rfl).1,(h.head.cell 2 rfl).1,(h.head.cell 3 rfl).1,(h.head.cell 4 rfl).1,⟨(h.head.cell 5 rfl).1,(h.head.cell 6 rfl).1,(h.head.cell 7 rfl).1,(h.head.cell 8 rfl).1,(h.head.cell 9 rfl).1,(h.head.cell 10 rfl).1⟩,(h.head.cell 11 rfl).1,(h.head.cell 12 rfl).1,(h.head.cell 13 rfl).1⟩
theorem Jr.fz {L:ZdD} (h:Jr M I w p pd L s) (j:Nat):w.frozen? ⟨p,j,none⟩=false:=zbc w p j _ _ h.head
def SD (K:Nat->Prop) (w:World) (pd p:Nat) (s:Sto) (d:Dk) (N T:Nat):Prop:=
 ∃ F M I L,Dsk F w pd d N T∧Jr M I w p pd L s∧(∀ k,F k->¬ K k)∧(∀ k,M k->¬ K k)∧(∀ k,I k->¬ K k)∧(∀ k,F k->¬ M k)∧(∀ k,F k->¬ I k)
def J3 (K:Nat->Prop) (w:World) (pd p:Nat) (r:SDk × Int) (N T:Nat) (e:Ending) (w':World):Prop:=
 e=.returned (.int .i64 r.2)∧SD K w' pd p r.1.1 r.1.2 N T∧Ql (fun k=>¬ K k) w w'
theorem SD.below (h:SD K w pd p s d N T) (a:Below w.heap.size w w'):SD K w' pd p s d N T:=by
 obtain⟨F,M,I,L,b,e,c⟩:=h;exact⟨F,M,I,L,b.below a,e.below a,c⟩
theorem SD.mono (h:SD K w pd p s d N T) (e:N<=N') (a:T<=T'):SD K w pd p s d N' T':=by
 obtain⟨F,M,I,L,b,f,c⟩:=h;exact⟨F,M,I,L,b.mono e a,f,c⟩
theorem SD.less {e:Nat->Prop} (h:SD K w pd p s d N T) (c:∀ k,e k->K k):SD e w pd p s d N T:=by
 obtain⟨F,M,I,L,i,m,l,g,f,j⟩:=h;exact⟨F,M,I,L,i,m,fun k a b=>l k a (c k b),fun k a b=>g k a (c k b),fun k a b=>f k a (c k b),j⟩
theorem SD.fresh (h:SD K w pd p s d N T) (e:Below w.heap.size w w'):SD (fun k=>K k∨(w.heap.size<=k∧k<w'.heap.size)) w' pd p s d N T:=by
 obtain⟨F,M,I,L,c,b,j,g,f,i⟩:=h;refine⟨F,M,I,L,c.below e,b.below e,fun k a hh=>?_,fun k a hh=>?_,fun k a hh=>?_,i⟩
 ·rcases hh with hh | hh
  ·exact j k a hh
  ·have:=c.ltF k a
   omega
 ·rcases hh with hh | hh
  ·exact g k a hh
  ·have:=b.ltM k a
   omega
 ·rcases hh with hh | hh
  ·exact f k a hh
  ·have:=b.ltI k a
   omega
theorem SD.onlyK (h:SD K w pd p s d N T) (c:Ql K w w'):SD K w' pd p s d N T:=by
 obtain⟨F,M,I,L,f,i,e,b,a,g⟩:=h;exact⟨F,M,I,L,f.only c e,i.only c b a,e,b,a,g⟩
theorem SD.disk {d':Dk} {f:Nat} {args:Array Value} {c:Int} (h:SD K w pd p s d N T) (v:∀ k,K k->k<w.heap.size)
 (u:∀ F,Dsk F w pd d N T->(∀ k,F k->¬ K k)->Calls prog f args w fun e w'=>Zgv F w pd d' c N' T' e w'):Calls prog f args w fun e w'=>e=.returned (.int .i64 c)∧SD K w' pd p s d' N' T'∧Ql (fun k=>¬ K k) w w':=by
 obtain⟨F,M,I,L,z,l,g,y,x,n,q⟩:=h;refine(u F z g).mono ?_;rintro e w' ⟨A,F',t,m,j⟩;refine⟨A,⟨F',M,I,L,t,l.only m (fun k a i=>n k i a) (fun k a i=>q k i a),fun k a b=>?_,y,x,fun k a b=>?_,fun k a b=>?_⟩,m.mono g⟩
 ·rcases j k a with hx | hx
  ·exact g k hx b
  ·have:=v k b
   omega
 ·rcases j k a with hx | hx
  ·exact n k hx b
  ·have:=l.ltM k b
   omega
 ·rcases j k a with hx | hx
  ·exact q k hx b
  ·have:=l.ltI k b
   omega
theorem SD.own {M' I':Nat->Prop} {s':Sto} {L':ZdD} (e:∀ k,K k->k<w.heap.size) (c:Dsk F w pd d N T) (n:∀ k,F k->¬ K k) (f:∀ k,M k->¬ K k) (t:∀ k,I k->¬ K k) (i:∀ k,F k->¬ M k) (q:∀ k,F k->¬ I k)
 (g:Ql M w w') (m:Jr M' I' w' p pd L' s') (l:∀ k,M' k->M k∨w.heap.size<=k) (j:∀ k,I' k->I k∨w.heap.size<=k):SD K w' pd p s' d N T∧Ql (fun k=>¬ K k) w w':=by
 refine⟨⟨F,M',I',L',c.only g i,m,n,fun k a b=>?_,fun k a b=>?_,fun k a b=>?_,fun k a b=>?_⟩,g.mono f⟩
 ·rcases l k a with hx | hx
  ·exact f k hx b
  ·have:=e k b
   omega
 ·rcases j k a with hx | hx
  ·exact t k hx b
  ·have:=e k b
   omega
 ·rcases l k b with hx | hx
  ·exact i k a hx
  ·have:=c.ltF k a
   omega
 ·rcases j k b with hx | hx
  ·exact q k a hx
  ·have:=c.ltF k a
   omega
theorem ZiE (h:j<l.length):l.getD j 0 ∈ l:=by
 rw[show l.getD j 0=l[j] by simp[List.getD,h]]
 exact getElem_mem h
def ZAs (p:Int->Bool) (l:List Int) (k:Int):Prop:=(k=-1∧∀ j,j<l.length->p (l.getD j 0)=false)∨∃ i:Nat,k=(i:Int)∧i<l.length∧(∀ j,j<i->p (l.getD j 0)=false)∧p (l.getD i 0)=true
theorem ZjZ (g R:Nat) (p:Int->Bool) (v:Value) (l:List Int) (w:World) (D:RdI w v l)
 (T:∀ args W,(callFunc g args).run prog W=.ok (.enter g args) W)
 (J:∀ W e,e ∈ l->Below w.heap.size w W->Calls prog g #[.int .i64 e,.pointer (some ⟨R,0,none⟩)] W fun x w'=>x=.returned (.bool (p e))∧Below W.heap.size W w'):
 Calls prog 158 #[v,.func (.func g) #[] #[.pointer (some ⟨R,0,none⟩)]] w fun x w'=>∃ k:Int,x=.returned (.int .i64 k)∧ZAs p l k∧Below w.heap.size w w':=by
 have O:=ZZ D;have B:=ZZ J;obtain⟨V,X,rfl,M,C,-,-,E⟩:=D;have F:=ZZ E;have Y:(l.length:Int)<=9223372036854775807:=by unfold maxLen at C;omega
 clear J M C E
 go_enter func158,ntmps158
 go_wp2
 go_loopw[8] (fun t wr=>∃ q:Nat,t=.int .i64 (q:Int)∧q<=l.length∧Hid (∀ j,j<q->p (l.getD j 0)=false)∧Hid (Below w.heap.size w wr)) (fun t _=>l.length-(intOf t).toNat)
 case atStart=>exact⟨0,rfl,zap _,ZZ (fun j f=>absurd f (zcg _)),zac _ _⟩
 case round=>
  obtain⟨q,rfl,Q,A,d⟩:=hrel;by_cases c:q<l.length
  case neg=>
   obtain rfl:q=l.length:=by omega
   go_wp2;go_ret;exact⟨-1,rfl,.inl ⟨rfl,A.out⟩,d.out⟩
  have S:(q:Int)<(l.length:Int):=by omega
  rcases F.o with P | ⟨b,u,rfl,m⟩
  ·rw[P] at c;simp at c
  have L:wr.cell? ⟨b,u+q,none⟩=some (.int .i64 (l.getD q 0)):=(zb4 (a:=⟨b,u+q,none⟩) (d.out.block b (za1 w ⟨b,u+q,none⟩ (m q c)))).trans (m q c);have i:=ZZ (B.o wr (l.getD q 0) (ZiE c) d.out);have N:Hid (∀ j,j<q+1->j=q∨j<q):=ZZ (fun j f=>by omega)
  obtain⟨e,y⟩:=zg7 (l.getD q 0);rw[<-y] at i L;have I:=ZZ y;obtain⟨z,n⟩:=zg7 (p e);rw[<-n] at i;have K:=ZZ n;clear y m B F O n
  go_wp2_with fail
  refine i.o.mono ?_;rintro x U ⟨rfl,H⟩;have G:=ZZ (d.out.trans (H.mono d.out.size));clear H i
  cases z with
  | true=>
   go_wp2;go_ret;exact⟨(q:Int),rfl,.inr ⟨q,rfl,c,A.out,by rw[<-I.o];exact K.o.symm⟩,G.o⟩
  | false=>
   go_wp2;go_roundw
   case rel=>exact⟨q+1,by go_num,by omega,ZZ (fun j f=>by
    rcases N.o j f with h | h
    ·rw[h,<-I.o];exact K.o.symm
    ·exact A.out j h),G⟩
   case measure=>simp[intOf];omega
theorem ZcK (p:Int->Bool) (l:List Int) (j:Nat) (a:j<l.length):(l.take (j+1)).filter (fun e=>!p e)=(l.take j).filter (fun e=>!p e)++if p (l.getD j 0)=true then[] else[l.getD j 0]:=by
 have b:l.take (j+1)=l.take j++[l.getD j 0]:=by
  rw[zcl,za4 a];simp[List.getD,a]
 rw[b,zez]
 congr 1
 generalize l.getD j 0=x
 cases h:p x <;> simp[h]
theorem Zgx (p:Int->Bool) (l:List Int) (i:Nat) (c:i<=l.length) (h:∀ j,j<i->p (l.getD j 0)=false):(l.take i).filter (fun e=>!p e)=l.take i:=by
 rw[zd9];intro e b;obtain⟨j,a,rfl⟩:=zds b;rw[length_take] at a;have:=h j (by omega)
 rw[List.getElem_take];simp only [List.getD,za4 (show j<l.length by omega),zgy] at this
 simp[this]
def Zuj (p:Int->Bool) (l L:List Int) (i j:Nat):Prop:=L.length=l.length∧L.take i=(l.take j).filter (fun e=>!p e)∧L.drop j=l.drop j∧i<j
theorem Zuj.start {p:Int->Bool} (b:i<l.length) (h:∀ j,j<i->p (l.getD j 0)=false) (a:p (l.getD i 0)=true):Zuj p l l i (i+1):=by
 refine⟨rfl,?_,rfl,zeq _⟩;rw[ZcK p l i b,zab a,append_nil,Zgx p l i (by omega) h]
theorem Zuj.at {p:Int->Bool} (h:Zuj p l L i j):L.getD j 0=l.getD j 0:=by
 obtain⟨f,e,c,d⟩:=h;have b:(L.drop j).getD 0 0=L.getD j 0:=by simp[List.getD]
 have a:(l.drop j).getD 0 0=l.getD j 0:=by simp[List.getD]
 rw[<-b,<-a,c]
theorem ZkK (h:L.drop j=l.drop j):L.drop (j+1)=l.drop (j+1):=by
 rw[<-zdz,<-zdz,h]
theorem Zuj.skip {p:Int->Bool} (h:Zuj p l L i j) (a:j<l.length) (c:p (l.getD j 0)=true):Zuj p l L i (j+1):=by
 obtain⟨e,d,b,f⟩:=h;refine⟨e,?_,ZkK b,by omega⟩
 rw[ZcK p l j a,zab c,append_nil,d]
theorem Zuj.keep {p:Int->Bool} (h:Zuj p l L i j) (a:j<l.length) (c:p (l.getD j 0)=false):Zuj p l (L.set i (l.getD j 0)) (i+1) (j+1):=by
 obtain⟨e,d,b,f⟩:=h;refine⟨by rw[length_set,e],?_,?_,by omega⟩
 ·rw[ZcK p l j a,zaa (by rw[c];simp),<-d,zcl,zgf zL]
  congr 1
  rw[List.getElem?_set_self (by omega)]
  rfl
 ·rw[List.drop_set_of_lt (by omega)]
  exact ZkK b
theorem Qt.cutClear {g:Nat} (h:Qt w B (.slice (some ⟨g,0,none⟩) n cap) l) (i:Nat) (t:i<=l.length) (vs:List Value):Qt (w.setCells g i vs) B (.slice (some ⟨g,0,none⟩) i cap) (l.take i):=by
 rcases h.row with ⟨a,-⟩ | ⟨g',q,cur,a,k,u,f,p,m,b,d⟩
 ·cases a
 ·injection a with a _ h3
  injection a with a
  injection a with a
  subst a h3;have c:=X3 g _ vs i w cur f;refine Qt.ofRowN (by rw[length_take];omega) k c (by rw[length_take];omega) m (by rw[Xr];exact b) fun j e=>?_
  rw[length_take] at e;rw[Ys _ _ _ _ (by omega),zaa (by omega),d j (by omega)]
  simp[List.getD,show j<i by omega]
theorem ZiF (g R:Nat) (p:Int->Bool) (v:Value) (l:List Int) (B:Nat) (w:World) (u:Qt w B v l) (hI:∀ e ∈ l,I64 e) (C:B<=w.heap.size) (ay:l.length<=1000000)
 (eg:∀ args W,(callFunc g args).run prog W=.ok (.enter g args) W)
 (H:∀ W e,e ∈ l->Below B w W->Calls prog g #[.int .i64 e,.pointer (some ⟨R,0,none⟩)] W fun x w'=>x=.returned (.bool (p e))∧Below W.heap.size W w'):
 Calls prog 112 #[v,.func (.func g) #[] #[.pointer (some ⟨R,0,none⟩)]] w fun x w'=>∃ v',x=.returned v'∧Qt w' B v' (l.filter (fun e=>!p e))∧Below B w w':=by
 have T:=ZZ u;have HP:=ZZ H;have U:=ZZ (ZjZ g R p v l w (u.rd hI) eg (fun W e m h=>H W e m (h.mono C)))
 obtain⟨va,c,hv⟩:=u.shape;subst hv;clear u H
 go_enter func112,ntmps112
 go_wp2_with fail
 refine U.o.mono ?_;rintro x W0 ⟨k,rfl,a,O⟩;have y:=ZZ (O.mono C);have q:=ZZ (T.o.below O zL);clear U O T;rcases a with ⟨rfl,a⟩ | ⟨J,rfl,z,a,ad⟩
 ·have HE:Hid (l.filter (fun e=>!p e)=l):=ZZ (by
   have:=Zgx p l l.length zL a
   rwa [zdd] at this)
  clear a;go_wp2;go_ret;exact⟨_,rfl,by rw[HE.o];exact q.o,y.o⟩
 have Q:=ZZ (Zuj.start z a ad);clear a ad;rcases q.o.row with ⟨-,h2⟩ | ⟨d,cap,cur,P,Z,-,-,an,ag,-,-⟩
 ·rw[h2] at z;simp at z
 injection P with P _ h3
 subst P h3;have ao:(l.length:Int)<=1000000:=by omega
 clear cur ag;have ei:((J:Int) == -1)=false:=zah.2 (by omega)
 go_wp2
 go_loopw[5,6] (fun v5 N wr=>∃ (i j:Nat) (L:List Int),v5=.int .i64 (i:Int)∧N=.int .i64 (j:Int)∧i<j∧j<=l.length∧Hid (Qt wr B (.slice (some ⟨d,0,none⟩) l.length c) L)∧Hid (Zuj p l L i j)∧Hid (Below B w wr)) (fun _ N _=>l.length-(intOf N).toNat)
 case atStart=>exact⟨J,J+1,l,rfl,by go_num,by omega,by omega,q,Q,y⟩
 case round=>
  clear q Q y ei;obtain⟨i,j,L,rfl,rfl,az,ar,f,b,n⟩:=hrel;by_cases D:j<l.length
  case neg=>
   obtain rfl:j=l.length:=by omega
   have hL:L.length=l.length:=b.out.1;have HT:Hid (L.take i=l.filter (fun e=>!p e)):=ZZ (by rw[b.out.2.1,zdd])
   obtain⟨g',ak,A,-,ae,-,-,-,-⟩:=f.out.put i (by omega) 0
   injection A with e1 e2 e3
   clear e2
   injection e1 with e1
   injection e1 with e1
   subst e1 e3
   have X:Hid (∀ k,k<l.length->wr.frozen? ⟨d,k,none⟩=false∧(wr.cell? ⟨d,k,none⟩).isSome=true):=ZZ (fun k V=>by
    obtain⟨g2,am,F,ai,al,-⟩:=f.out.put k (by omega) 0
    injection F with f1 _ _
    injection f1 with f1
    injection f1 with f1
    subst f1
    exact⟨al,by rw[ai];rfl⟩)
   have HK:Hid (∀ ty,(Builtin.clear_ #[23] ty #[.slice (some ⟨d,i,none⟩) (l.length-i) (c-i)]).run prog wr=.ok (.tuple #[]) (wr.setCells d i (List.replicate (l.length-i) (.int .i64 0)))):=ZZ (fun ty=>
    Go.Lib.run_clear_slice wr _ _ ty (.int .i64 0) underlying23 Tryz.zeroValue3 rfl rfl d i (l.length-i) (c-i) (by omega) (fun k V=>(X.o (i+k) (by omega)).2) (fun k V=>(X.o (i+k) (by omega)).1))
   have ac:=ZZ (f.out.cutClear i (by omega) (List.replicate (l.length-i) (.int .i64 0)))
   rw[HT.o] at ac;have af:=ZZ (G8 Z (List.replicate (l.length-i) (.int .i64 0)) i wr n.out);have ap:¬ (c=i):=by omega
   have t:(i:Int)<=(l.length:Int):=by omega
   have ax:(i:Int)<=(c:Int):=by omega
   have au:i<=l.length:=by omega
   have aw:i<=c:=by omega
   clear ae;have hK:=HK.o;go_wp2;go_ret;exact⟨_,rfl,ac.o,af.o⟩
  have aq:(j:Int)<(l.length:Int):=by omega
  have aA:L.length=l.length:=b.out.1;obtain⟨g',ak,A,M,-⟩:=f.out.put j (by omega) 0
  injection A with e1 e2 e3
  clear e2
  injection e1 with e1
  injection e1 with e1
  subst e1 e3;rw[b.out.at] at M;have I:=ZZ (b.out.skip D);have E:=ZZ (b.out.keep D);obtain⟨e,m⟩:=zg7 (l.getD j 0);rw[<-m] at M I E;obtain⟨G,S⟩:=zg7 (p e);have K:=ZZ (fun W h=>HP.o W e (by rw[m];exact ZiE D) h)
  rw[<-S] at K I E;clear m S b
  go_wp2_with fail
  refine(K.o _ n.out).mono ?_;rintro x W1 ⟨rfl,t⟩;have aa:=ZZ (n.out.trans (t.mono (zau C n.out.size)));have ab:=ZZ (f.out.below t zL);clear t K M f n
  cases G with
  | true=>
   go_wp2;go_roundw
   case rel=>exact⟨i,j+1,L,rfl,by go_num,by omega,by omega,ab,ZZ (I.o (by simp)),aa⟩
   case measure=>simp[intOf];omega
  | false=>
   obtain⟨g2,am,F,d0,z0,-,-,Y,-⟩:=ab.o.put i (by omega) e
   injection F with f1 f2 f3
   clear f2
   injection f1 with f1
   injection f1 with f1
   subst f1 f3;have aj:=ZZ Y;clear Y;have av:(i:Int)<(l.length:Int):=by omega
   have aB:i<l.length:=by omega
   go_wp2;go_roundw
   case rel=>exact⟨i+1,j+1,L.set i e,by go_num,by go_num,by omega,by omega,aj,ZZ (E.o (by simp)),ZZ (aa.o.setCell Z _)⟩
   case measure=>simp[intOf];omega
theorem Y8 {c:Array Oper} {o:Oper} {a:Act} {K:Act->World->Prop} {Q:Exit->Act->World->Prop} {E:Prop} {R:Value->World->Prop}
 (f:FuncId) (xs:Array Operand) (ts:Array TypeId) (l:o.guard=none) (m:o.op=Op.call { callee:=Callee.value (Operand.func f),args:=xs,argTypes:=ts }) (b:Array Value) (p:xs.map a.eval=b)
 (g:∀ args w,(callFunc f args).run prog w=.ok (.enter f args) w) (n:Calls prog f b w fun e w'=>∃ v',e=.returned v'∧R v' w') (d:∀ v' w',R v' w'->K (a.put o.dst v') w'):
 if Region.wanted o (yielded c a.tmps)=true then Oper.wp prog o a w K Q else E:=by
 have j:Region.wanted o (yielded c a.tmps)=true:=by simp[Region.wanted,l]
 rw[zab j];unfold Oper.wp
 have h:(execOp a.eval o).run prog w=.ok (.enter f b) w:=by
  have k:a.eval (Operand.func f)=.func (.func f) #[] #[]:=rfl;simp[execOp,m,resolve,invoke,p,k,Deferred.ofValue,g]
 rw[h,Oper.upon_enter];refine n.mono ?_;rintro e w' ⟨v',rfl,i⟩;exact d v' w' i
theorem Zmb (b o:Nat) (f:Int) (c:Option Addr) (n a:Nat) (w:World) (i:w.cell? ⟨b,o,none⟩=some (.int .i64 f)) (j:w.cell? ⟨b,o+1,none⟩=some (.slice c n a)) (k:0<=f) (l:f+n<=9000000000000000000):
 Calls prog 38 #[.pointer (some ⟨b,o,none⟩)] w fun e w'=>e=.returned (.int .i64 (f+n))∧Below w.heap.size w w':=by
 have d:IntKind.i64.wrap (f+(n:Int))=f+n:=by rw[zbo];omega
 have g:(n:Int)<=9000000000000000000:=by omega
 go_enter func38,ntmps38
 go_upto_region 1 with fail
 go_quiet(fail)
 go_wp2;go_ret;refine⟨?_,X6 (zac _ _) _⟩
 first | rfl | (rw[d])
structure ZpV (s:Sto):Prop where
 f0:0<=s.log.first
 f1:s.next<=4611686018427387904
 sy:I64 s.synced
 cu:I64 s.cur
theorem ZiG {L:ZdD} (w:World) (h:Jr M I w p pd L s) (b:ZpV s):
 Calls prog 14 #[ptr p] w fun e w'=>e=.returned (.int .i64 s.next)∧Below w.heap.size w w':=by
 obtain⟨k,m,c⟩:=h.recs.shape;obtain⟨-,d,a,-⟩:=h.cs;rw[c] at a;have f:=b.f1;have i:=b.f0;unfold Sto.next Lgb.next at f;have j:=ZZ (Zmb p 1 s.log.first k s.log.recs.length m w d a i (by omega))
 have n:Hid (s.next=s.log.first+s.log.recs.length):=ZZ rfl;rw[n.o];generalize s.log.first+(s.log.recs.length:Int)=nx at *;clear d a c f i
 go_enter func14,ntmps14
 go_wp2_with fail
 refine j.o.mono ?_;rintro e w' ⟨rfl,g⟩;have l:=ZZ g;clear g;go_wp2;go_ret;exact⟨rfl,l.o⟩
theorem ZsU {L:ZdD} (w:World) (h:Jr M I w p pd L s):
 Calls prog 18 #[ptr p] w fun e w'=>e=.returned (.int .i64 s.log.first)∧w'=w:=by
 obtain⟨-,a,-⟩:=h.cs;clear h
 go_enter func18,ntmps18
 go_wp2;go_ret;exact⟨rfl,rfl⟩
theorem ZiH {L:ZdD} (w:World) (h:Jr M I w p pd L s):
 Calls prog 11 #[ptr p] w fun e w'=>e=.returned (.int .i64 s.synced)∧w'=w:=by
 obtain⟨-,-,-,-,-,-,a,-⟩:=h.cs;clear h
 go_enter func11,ntmps11
 go_wp2;go_ret;exact⟨rfl,rfl⟩
theorem Zvu (v:Value) (l:List Int) (x:Int) (w:World) (t:RdI w v l) (q:l.length<=1000000000):
 Calls prog 92 #[v,.int .i64 x] w fun e w'=>e=.returned (.int .i64 (l.getD (l.length-1) x))∧w'=w:=by
 obtain⟨ao,cap,rfl,i,d,-,-,c⟩:=t;have p:(l.length:Int)<=9223372036854775807:=by unfold maxLen at d;omega
 by_cases a:l.length=0
 ·have e:l=[]:=zao a
  subst e;have k:((0:Int) == 0)=true:=rfl;clear c d i a;have u:([]:List Int).length=0:=rfl;rw[u]
  go_enter func92,ntmps92
  go_wp2;go_ret;exact⟨rfl,rfl⟩
 ·rcases c with c | ⟨b,A,rfl,g⟩
  ·rw[c] at a;simp at a
  have k:((l.length:Int) == 0)=false:=zah.2 (by omega)
  have f:=g (l.length-1) (by omega)
  have e:l.getD (l.length-1) x=l.getD (l.length-1) 0:=by
   simp[List.getD,show l.length-1<l.length by omega]
  rw[e];obtain⟨y,j⟩:=zg7 (l.getD (l.length-1) 0);rw[<-j] at f ⊢;obtain⟨m,n⟩:∃ m,l.length=m+1:=⟨l.length-1,by omega⟩
  rw[n] at f k p ⊢;have z:m+1-1=m:=by omega
  rw[z] at f;have B:(m:Int)<=1000000000:=by omega
  clear j g e d i a n p q
  go_enter func92,ntmps92
  go_wp2;go_ret;exact⟨rfl,rfl⟩
def ZeT (first n:Int):Bool:=decide (n<first) || decide ((n-first) % 2≠0)
theorem ZnO (l:List Int) (first:Int):Xm l first=l.filter fun n=>!ZeT first n:=rfl
theorem Zvv (R:Nat) (first n:Int) (w:World) (c:w.cell? ⟨R,0,none⟩=some (.int .i64 first)) (m:0<=first) (i:first<=1000) (k:-1000000000000000000<=n) (j:n<=1000000000000000000):
 Calls prog 111 #[.int .i64 n,.pointer (some ⟨R,0,none⟩)] w fun e w'=>e=.returned (.bool (ZeT first n))∧Below w.heap.size w w':=by
 by_cases b:n<first
 ·have e:ZeT first n=true:=by unfold ZeT;rw[zan b];rfl
  rw[e];clear e
  go_enter func111,ntmps111
  go_wp2;go_ret;exact⟨rfl,zac _ _⟩
 ·have l:IntKind.i64.wrap (n-first)=n-first:=by rw[zbo];omega
  have d:(n-first).tmod 2=(n-first) % 2:=zcx (by omega)
  by_cases a:(n-first) % 2=0
  ·have e:ZeT first n=false:=by unfold ZeT;rw[zai b,zai (fun h=>h a)];rfl
   have f:((n-first) % 2 != 0)=false:=by rw[a];rfl
   have g:((n-first).tmod 2 != 0)=false:=by rw[d,a];rfl
   rw[e];clear e a
   go_enter func111,ntmps111
   go_wp2;go_ret;exact⟨rfl,zac _ _⟩
  ·have e:ZeT first n=true:=by unfold ZeT;rw[zai b,zan a];rfl
   have f:((n-first) % 2 != 0)=true:=by rw[zbq];exact a
   have g:((n-first).tmod 2 != 0)=true:=by rw[d,zbq];exact a
   rw[e];clear e a
   go_enter func111,ntmps111
   go_wp2;go_ret;exact⟨rfl,zac _ _⟩
theorem Zbg (h:OkD d):∀ n ∈ Qk d,0<=n∧n<1048576:=fun n b=>by
 obtain⟨e,c,rfl⟩:=zbm.1 b;have a:=(h.dir.may e c).1;unfold ZdM at a;simp only [zgx,zdp] at a;exact a
theorem Zci (first:Int) (w:World) (h:Dsk F w p d N T) (Q:N<=1000000) (I:0<=first) (S:first<=1000):
 Calls prog 74 #[ptr p,.int .i64 first] w fun e w'=>∃ v,e=.returned v∧Qt w' w.heap.size v (Xm (Qk d) first)∧Below w.heap.size w w':=by
 obtain⟨b,k⟩:=zg7 (w.alloc (.cells #[.int .i64 first] 3));have f:Hid (Below w.heap.size w b):=ZZ (by rw[k];exact Z3 _ _)
 have t:Hid (Bk 3 b w.heap.size #[.int .i64 first]):=ZZ (by rw[k];exact zak w _)
 have l:=ZZ (h.below f.o)
 have z:Hid (Calls prog 28 #[ptr p] b fun e w'=>∃ v,e=.returned v∧Qt w' b.heap.size v (Qk d)∧Below b.heap.size b w'):=ZZ (by
  obtain⟨L,m,i,-⟩:=l.o
  exact ZeM b m i Q)
 have q:Hid (∀ n ∈ Qk d,0<=n∧n<1048576):=ZZ (by
  obtain⟨L,m,i,-⟩:=l.o
  exact Zbg i)
 have H:Hid ((Qk d).length<=1000000):=ZZ (by
  obtain⟨L,m,i,K,-⟩:=l.o;have M:=Zbq d d.waits.length;rw[Zdg] at M;have:=K.names;unfold Qk;rw[length_map]
  omega)
 clear h
 go_enter func74,ntmps74
 go_upto_region 1 with fail
 rw[<-k];clear k
 go_wp2_with fail
 refine z.o.mono ?_;rintro e B ⟨C,rfl,x,j⟩;have O:=ZZ (f.o.trans (j.mono f.o.size));have P:Hid (∀ W,Below b.heap.size B W->W.cell? ⟨w.heap.size,0,none⟩=some (.int .i64 first)):=ZZ (fun W u=>((t.o.keep ((u.block _ t.o.lt).trans (j.block _ t.o.lt))).cell 0 rfl).1)
 have D:=ZZ (ZiF 111 w.heap.size (ZeT first) C (Qk d) b.heap.size B x (fun n g=>by
  have:=q.o n g
  exact⟨by omega,by omega⟩) j.size H.o (enters_of func111 (by kernel_rfl) rfl) (fun W n g u=>Zvv w.heap.size first n W (P.o W u) I S (by have:=q.o n g;omega) (by have:=q.o n g;omega)))
 rw[<-ZnO] at D
 obtain⟨V,Y,U,E⟩:∃ a n c,C=.slice a n c:=by
  obtain⟨a,c,J⟩:=x.shape;exact⟨a,_,c,J⟩
 subst E;clear x j z
 go_wp2_with fail
 refine D.o.mono ?_;rintro e Z ⟨X,rfl,A,y⟩;have G:=ZZ (A.mono f.o.size);have R:=ZZ (O.o.trans (y.mono f.o.size));clear A y;go_wp2;go_ret;exact⟨_,rfl,G.o,R.o⟩
theorem Zgy {L:ZdD} (first:Int) (w:World) (h:Jr M I w p pd L s) (b:Dsk F w pd d N T) (R:N<=1000000) (Y:2<=first) (U:first<=1000):
 Calls prog 50 #[ptr p,.int .i64 first] w fun e w'=>e=.returned (.int .i64 (Xs d first))∧Below w.heap.size w w':=by
 have B:=ZZ (Zci first w b R (by omega) U)
 have t:Hid (∀ n ∈ Xm (Qk d) first,0<=n∧n<1048576):=ZZ (by
  obtain⟨L,H,k,-⟩:=b
  exact fun n f=>Zbg k n (za3.1 f).1)
 have A:Hid ((Qk d).length<=1000000000):=ZZ (by
  obtain⟨L,H,k,J,-⟩:=b;have K:=Zbq d d.waits.length;rw[Zdg] at K;have:=J.names;unfold Qk;rw[length_map]
  omega)
 obtain⟨v,-⟩:=h.cs;have C:Hid (Xs d first=(Xm (Qk d) first).getD ((Xm (Qk d) first).length-1) (first-2)+2):=ZZ rfl
 have g:Hid (0<=(Xm (Qk d) first).getD ((Xm (Qk d) first).length-1) (first-2)∧(Xm (Qk d) first).getD ((Xm (Qk d) first).length-1) (first-2)<=1048576):=ZZ (by
  by_cases S:(Xm (Qk d) first).length=0
  ·rw[zao S]
   show 0<=first-2∧first-2<=1048576;omega
  ·have Q:(Xm (Qk d) first).getD ((Xm (Qk d) first).length-1) (first-2) ∈ Xm (Qk d) first:=by
    rw[show(Xm (Qk d) first).getD ((Xm (Qk d) first).length-1) (first-2)=(Xm (Qk d) first)[(Xm (Qk d) first).length-1]'(by omega) by simp[List.getD,show(Xm (Qk d) first).length-1<(Xm (Qk d) first).length by omega]]
    exact getElem_mem _
   have:=t.o _ Q
   omega)
 clear h b;rw[C.o];have z:Hid ((Xm (Qk d) first).length<=1000000000):=ZZ (zau (zdh _ _) A.o);generalize Xm (Qk d) first=l at *;obtain⟨y,i⟩:=zg7 (l.getD (l.length-1) (first-2));rw[<-i] at g ⊢;have O:=ZZ i;clear i
 go_enter func50,ntmps50
 go_wp2_with fail
 refine B.o.mono ?_;rintro e D ⟨E,rfl,j,u⟩;have P:=ZZ u
 have q:=ZZ (j.rd (fun n f=>by
  have:=t.o n f
  exact⟨by omega,by omega⟩))
 obtain⟨Z,n1,X,x⟩:∃ a n c,E=.slice a n c:=by
  obtain⟨a,c,G⟩:=j.shape;exact⟨a,_,c,G⟩
 subst x;have m:=ZZ (Zvu _ l (first-2) D q.o z.o);rw[<-O.o] at m;have W:=g.o.1;have V:=g.o.2;clear j u q v
 go_wp2_with fail
 refine m.o.mono ?_;rintro e W2 ⟨rfl,rfl⟩;go_wp2;go_ret;exact⟨rfl,P.o⟩
def ZAt:Q0 × Value × Value:=(Yf,.slice none 0 0,.slice none 0 0)
def Zbm (l:List (Q0 × Value × Value)):Q0 × Value × Value:=l.getD (l.length-1) ZAt
theorem ZfY {L:ZdD} (h:L.bs.map Prod.fst=s.bases):(Zbm L.bs).1=s.base:=by
 unfold Zbm Sto.base;rw[<-h,length_map];simp only [List.getD,zfr]
 cases L.bs[L.bs.length-1]? <;> rfl
theorem ZeU {l:List (Q0 × Value × Value)} (h:l.length≠0):Zbm l ∈ l:=by
 unfold Zbm;rw[show l.getD (l.length-1) ZAt=l[l.length-1]'(by omega) by simp[List.getD,show l.length-1<l.length by omega]]
 exact getElem_mem _
theorem Zvw {l:List (Q0 × Value × Value)} (h:w.ownsRow 0 41 6 v l.length (Xw l)) (n:l.length≠0):
 ∃ g cap,v=.slice (some ⟨g,0,none⟩) l.length cap∧∀ k u,k<6->(snC (Zbm l))[k]?=some u->w.cell? ⟨g,(l.length-1)*6+k,none⟩=some u:=by
 rcases h.2 with ⟨_,d⟩ | ⟨g,cap,cur,m,_,i,p,q,t,j⟩
 ·exact absurd d n
 ·refine⟨g,cap,m,fun k u f b=>?_⟩
  have c:l.length-1<l.length:=by omega
  have e:Zbm l=l[l.length-1]:=by unfold Zbm;simp[List.getD,c]
  rw[e] at b;rw[zas w g _ _ _ _ i];have a:=ZiD l (l.length-1) k c f;rw[b,<-j,zdl] at a;rw[zab (by omega)] at a
  rw[<-zb2];exact a
theorem Zvx (v:Value) (l:List (Q0 × Value × Value)) (w:World) (h:w.ownsRow 0 41 6 v l.length (Xw l)) (N:l.length≠0) (Q:l.length<=1000000000) (t:∃ a n c a' n' c',(Zbm l).2.1=.slice a n c∧(Zbm l).2.2=.slice a' n' c'):
 Calls prog 78 #[v,.agg #[.int .i64 0,.int .i64 0,.slice none 0 0,.bool false,.int .i64 0,.slice none 0 0]] w fun e w'=>e=.returned (snV (Zbm l))∧Below w.heap.size w w':=by
 obtain⟨g,cap,rfl,d⟩:=Zvw h N;obtain⟨x,G⟩:=zg7 (Zbm l);rw[<-G] at d t ⊢;obtain⟨m,M⟩:∃ m,l.length=m+1:=⟨l.length-1,by omega⟩
 have K:l.length-1=m:=by omega
 rw[K] at d;obtain⟨⟨I,⟨kd,LL,E,C⟩,tb⟩,vl,vt⟩:=x;obtain⟨P,L,lc,J,A,F,D,O⟩:=t
 dsimp only at D O
 subst D O;have q:=d 0 _ (by decide) rfl
 have B:=d 1 _ (by decide) rfl
 have z:=d 2 _ (by decide) rfl
 have y:=d 3 _ (by decide) rfl
 have u:=d 4 _ (by decide) rfl
 have H:=d 5 _ (by decide) rfl
 have i:g<w.heap.size:=za1 w ⟨g,m*6+0,none⟩ q;rw[M];have V:((m+1:Nat):Int)≠0:=by omega
 have aa:((((m+1:Nat):Int)) == 0)=false:=zah.2 V;have ab:(m:Int)<=1000000000:=by omega
 obtain⟨b,k⟩:=zg7 ((w.alloc (.cells #[.int .i64 0,.int .i64 0,.slice none 0 0,.bool false,.int .i64 0,.slice none 0 0] 41)).alloc (.cells #[.int .i64 0,.int .i64 0,.slice none 0 0,.bool false,.int .i64 0,.slice none 0 0] 41));have f:Hid (Below w.heap.size w b):=ZZ (by rw[k];exact((zac _ _).alloc zL _).alloc (by simp) _)
 have j:Hid (Bn b (w.heap.size+1) #[.int .i64 0,.int .i64 0,.slice none 0 0,.bool false,.int .i64 0,.slice none 0 0]):=ZZ (by rw[k];exact Zeb w _ _)
 have e0:b.cell? ⟨g,m*6,none⟩=some (.int .i64 I):=(f.o.cell (p:=⟨g,m*6,none⟩) i).trans q;have e1:b.cell? ⟨g,m*6+1,none⟩=some (.int .i64 kd):=(f.o.cell (p:=⟨g,m*6+1,none⟩) i).trans B;have e2:b.cell? ⟨g,m*6+2,none⟩=some (.slice P L lc):=(f.o.cell (p:=⟨g,m*6+2,none⟩) i).trans z;have e3:b.cell? ⟨g,m*6+3,none⟩=some (.bool E):=(f.o.cell (p:=⟨g,m*6+3,none⟩) i).trans y;have e4:b.cell? ⟨g,m*6+4,none⟩=some (.int .i64 C):=(f.o.cell (p:=⟨g,m*6+4,none⟩) i).trans u;have Z:b.cell? ⟨g,m*6+5,none⟩=some (.slice J A F):=(f.o.cell (p:=⟨g,m*6+5,none⟩) i).trans H;obtain⟨X,y0⟩:=j.o.cell 0;obtain⟨R,Y⟩:=j.o.cell 1;obtain⟨T,y2⟩:=j.o.cell 2;obtain⟨W,y3⟩:=j.o.cell 3;obtain⟨U,y4⟩:=j.o.cell 4;obtain⟨S,y5⟩:=j.o.cell 5;clear q B z y u H d h G M K N Q
 go_enter func78,ntmps78
 go_upto_region 1 with fail
 rw[<-k];clear k;go_wp2;refine zax (v:=.agg #[.int .i64 I,.int .i64 kd,.slice P L lc,.bool E,.int .i64 C,.slice J A F]) (by simp[results,Tryz.results78,go_sem,X,R,T,W,U,S]) rfl ?_
 exact⟨rfl,Zbf f.o _ (by omega) _ _ _ _ _ _⟩
theorem SnR.shape (h:SnR w x):∃ a n c a' n' c',x.2.1=.slice a n c∧x.2.2=.slice a' n' c':=by
 obtain⟨a,c,d,-⟩:=h.l;obtain⟨a',c',b⟩:=h.t.shape;exact⟨a,_,c,a',_,c',d,b⟩
theorem Zmc {L:ZdD} (w:World) (h:Jr M I w p pd L s) (X:s.bases.length≠0) (D:s.bases.length<=1000000000):
 Calls prog 37 #[ptr p] w fun e w'=>e=.returned (snV (Zbm L.bs))∧Below w.heap.size w w':=by
 have W:L.bs.length=s.bases.length:=by rw[<-h.bsEq,length_map]
 have C:=ZeU (l:=L.bs) (by omega)
 have j:=ZZ (h.base _ C);obtain⟨d,i⟩:=zg7 (w.alloc (.cells #[.int .i64 0,.int .i64 0,.slice none 0 0,.bool false,.int .i64 0,.slice none 0 0] 41));have k:Hid (Below w.heap.size w d):=ZZ (by rw[i];exact Z3 _ _)
 have R:Hid (Bn d w.heap.size #[.int .i64 0,.int .i64 0,.slice none 0 0,.bool false,.int .i64 0,.slice none 0 0]):=ZZ (by rw[i];exact zak w _)
 have m:=ZZ (h.below k.o);obtain⟨-,-,-,-,u,-⟩:=m.o.cs;have f:=ZZ (Zvx L.bv L.bs d m.o.bases (by omega) (by omega) j.o.shape)
 obtain⟨ba,Z,bc,A⟩:∃ a n c,L.bv=.slice a n c:=by
  rcases h.bases.2 with ⟨t,_⟩ | ⟨g,cap,cur,t,_⟩
  ·exact⟨_,_,_,t⟩
  ·exact⟨_,_,_,t⟩
 rw[A] at u f;obtain⟨x,z⟩:=zg7 (Zbm L.bs);rw[<-z] at f j ⊢;obtain⟨Y,U,lc,P,F,O,y,B⟩:=j.o.shape;obtain⟨⟨Q,⟨kd,LL,J,H⟩,tb⟩,vl,vt⟩:=x
 dsimp only at y B
 subst y B;unfold snV snC at f ⊢
 dsimp only at f ⊢
 clear h A z C W X D m j
 go_enter func37,ntmps37
 go_upto_region 1 with fail
 rw[<-i];clear i
 go_wp2_with fail
 refine f.o.mono ?_;rintro e W1 ⟨rfl,q⟩;have T:=ZZ (k.o.trans (q.mono k.o.size));have b:=R.o.below q zL;obtain⟨V,y0⟩:=b.cell 0;obtain⟨E,y1⟩:=b.cell 1;obtain⟨K,y2⟩:=b.cell 2;obtain⟨S,y3⟩:=b.cell 3;obtain⟨N,y4⟩:=b.cell 4;obtain⟨G,y5⟩:=b.cell 5;clear q b u;go_wp2;refine zax (v:=.agg #[.int .i64 Q,.int .i64 kd,.slice Y U lc,.bool J,.int .i64 H,.slice P F O]) (by simp[results,Tryz.results37,go_sem,V,E,K,S,N,G]) rfl ?_
 exact⟨rfl,Zbf T.o _ (by omega) _ _ _ _ _ _⟩
def ZsV (w:World) (s:Q0) (e:Ending) (w':World):Prop:=
 ∃ vl vt,e=.returned (snV (s,vl,vt))∧SnR w' (s,vl,vt)∧(∀ b,vl.ownBlock=some b->w.heap.size<=b)∧(∀ b,vt.ownBlock=some b->w.heap.size<=b)∧Below w.heap.size w w'
theorem ZkL (x:Q0 × Value × Value) (w:World) (hx:SnR w x) (E:x.1.st.L.length<=1000000) (K:x.1.tab.length<=1000000):
 Calls prog 47 #[snV x] w fun e w'=>ZsV w x.1 e w':=by
 obtain⟨⟨idx,⟨kind,L,q,u⟩,j⟩,vl,vt⟩:=x;obtain⟨y,t,l,m,p⟩:=hx
 dsimp only at y t l m p E K ⊢
 obtain⟨Q,lc,rfl,-⟩:=id y;obtain⟨V,tc,rfl⟩:=t.shape;have S:=ZZ (fun W (h:Below w.heap.size w W)=>ZfQ _ L W (y.below h zL) E)
 have T:=ZZ (fun W (h:Below w.heap.size w W)=>ZfR _ j W (t.below h zL) K)
 have H:=ZZ y.i64;have P:∀ e ∈ j,ZlO e:=t.choose_spec.choose_spec.2.2.2.2.1;have aa:=ZZ P;obtain⟨d,n⟩:=zg7 ((w.alloc (.cells #[.int .i64 idx,.int .i64 kind,.slice Q L.length lc,.bool q,.int .i64 u,.slice V j.length tc] 41)).alloc (.cells #[.int .i64 0,.int .i64 0,.slice none 0 0,.bool false,.int .i64 0,.slice none 0 0] 41));have k:Hid (Below w.heap.size w d):=ZZ (by rw[n];exact((zac _ _).alloc zL _).alloc (by simp) _)
 have i:Hid (Bn d w.heap.size #[.int .i64 idx,.int .i64 kind,.slice Q L.length lc,.bool q,.int .i64 u,.slice V j.length tc]):=ZZ (by rw[n];exact(zav _ _ _ (by simp)).trans (zak w _))
 have ad:Hid (Bn d (w.heap.size+1) #[.int .i64 0,.int .i64 0,.slice none 0 0,.bool false,.int .i64 0,.slice none 0 0]):=ZZ (by rw[n];exact Zeb w _ _)
 have al:d.heap.size=w.heap.size+2:=by rw[n];simp
 unfold snV snC
 dsimp only
 clear y t P E K
 go_enter func47,ntmps47
 go_upto_region 1 with fail
 rw[<-n];clear n;obtain⟨p2,g2⟩:=i.o.cell 2;obtain⟨p5,R⟩:=i.o.cell 5
 go_cut[] (fun wc=>Hid (ZnL w ⟨idx,⟨kind,L,q,u⟩,j⟩ wc))
 case first=>
  go_region_with
   (first
    | (go_at_call 39;refine(S.o _ (by first | exact k.o.drew | exact k.o)).mono ?_;rintro e W1 ⟨v1,rfl,J,G⟩;have B:Below d.heap.size d W1:=(by first | exact((zac _ _).drew).trans G | exact G);have ag:=ZZ J;have D:=ZZ B;obtain⟨a1,c1,af⟩:∃ a c,v1=.slice a L.length c:=(by obtain⟨a,c,h,-⟩:=J.rd H.o;exact⟨a,c,h⟩);subst af;obtain⟨q2,k2⟩:=(i.o.below B zL).cell 2;obtain⟨q5,k5⟩:=(i.o.below B zL).cell 5;clear J G B)
    | (go_at_call 40;refine(T.o _ (k.o.trans (D.o.mono k.o.size))).mono ?_;rintro e W2 ⟨v2,rfl,F,M⟩;have ai:=ZZ F;have z:=ZZ (D.o.trans (M.mono D.o.size));have aj:=ZZ (ag.o.below M zL);obtain⟨a2,c2,ak⟩:=F.shape;subst ak;obtain⟨r2,j2⟩:=(i.o.below z.o zL).cell 2;obtain⟨r5,j5⟩:=(i.o.below z.o zL).cell 5;clear F M))
  all_goals
   go_wp2_with fail
   go_meet
   exact ZZ (Ziw (i.o.below z.o zL) (ad.o.below z.o zL) (aj.o.mono (by first | omega | (show w.heap.size+2<=d.heap.size;omega))) H.o (ai.o.mono (by have:=D.o.size;omega)) aa.o p l m (k.o.trans (z.o.mono k.o.size)))
 case rest=>
  have U:=hcut;clear hcut k i ad al p2 g2 p5 R S T H aa d l m p;obtain⟨W,rfl⟩:=zg7 wc;obtain⟨N,sc,ea,Z,g,f,hL,ac,hE,ab,p,l,m,X⟩:=U.o;have HY:=ZZ f;have O:=ZZ hL;have I:=ZZ ac;have A:=ZZ hE;have ae:=ZZ ab;have C:=ZZ (And.intro p (And.intro l m));have HB:=ZZ X
  dsimp only at g O I A ae C
  obtain⟨p0,g0⟩:=g.cell 0;obtain⟨p1,g1⟩:=g.cell 1;obtain⟨p2,g2⟩:=g.cell 2;obtain⟨p3,g3⟩:=g.cell 3;obtain⟨p4,g4⟩:=g.cell 4;obtain⟨p5,R⟩:=g.cell 5;obtain⟨z0,y0⟩:=f.cell 0;obtain⟨z1,y1⟩:=f.cell 1;obtain⟨z2,y2⟩:=f.cell 2;obtain⟨z3,y3⟩:=f.cell 3;obtain⟨z4,y4⟩:=f.cell 4;obtain⟨z5,y5⟩:=f.cell 5;have am:¬ (w.heap.size=w.heap.size+1):=by omega
  clear g f hL ac hE ab p l m X U;go_wp2;refine zax (v:=.agg #[.int .i64 idx,.int .i64 kind,.slice N L.length sc,.bool q,.int .i64 u,.slice ea j.length Z]) (by simp[results,Tryz.results47,go_sem,z0,z1,z2,z3,z4,z5]) rfl ?_
  have Y:=ZnG W (w.heap.size+1) (.int .i64 idx) (.int .i64 kind) (.slice N L.length sc) (.bool q) (.int .i64 u) (.slice ea j.length Z);exact⟨_,_,rfl,⟨O.o.but Y (.inr fun b h=>by have:=I.o b h;omega),(A.o.rd ae.o).but Y (.inr fun b h=>by have:=A.o.fresh b h;omega),C.o.2.1,C.o.2.2,C.o.1⟩,fun b h=>by have:=I.o b h;omega,fun b h=>by have:=A.o.fresh b h;omega,Zdk HB.o _ (by omega) _ _ _ _ _ _⟩
theorem Zzw:(prog.info? 108).map (fun i=>(i.zero,i.size,i.bytes))=some (some (.agg #[.int .i64 0,.int .i64 0,.int .i64 0]),3,24):=by kernel_rfl
theorem Zmd (w:World) (ty:TypeId) (v:Value) (l:List Pce) (h:w.ownsRow 0 108 3 v l.length (Q7 l)) (c:Pce) (n:l.length<=10000000):
 ∃ v' w',(Builtin.append_ #[71,71] ty #[v,.slice (some ⟨w.heap.size,0,none⟩) 1 1]).run prog (w.alloc (.cells (pcC c) 108))=.ok v' w'∧
  w'.ownsRow 0 108 3 v' (l++[c]).length (Q7 (l++[c]))∧(w.alloc (.cells (pcC c) 108)).grownBy w' v.ownBlock∧(v'.ownBlock=v.ownBlock∨v'.ownBlock=some (w.heap.size+1)):=by
 obtain⟨g,m,b,a,k⟩:=zbx Zzw
 obtain⟨v',w',e,f,i,_,hl⟩:=zdf (P:=prog) (w.alloc (.cells (pcC c) 108)) 0 71 ty 108 g _ 3 24 underlying71 m b a k rfl (by decide) v l.length (Q7 l) (zb3 h _)
  ⟨w.heap.size,0,none⟩ 1 1 (Q7 [c]) (Zat [c]) (fun j u d=>by
   rw[zbn,za9,zas _ w.heap.size j _ 108 (0,0) (zak w _)]
   simpa[Q7] using d) (ZpU [c]) (by unfold maxLen;omega) (by omega) (zap _)
 refine⟨v',w',e,?_,i,?_⟩
 ·rw[length_append,ZiB]
  exact f
 ·rcases hl with hl | hl
  ·exact .inl hl
  ·exact .inr (by rw[hl];simp)
theorem Zaa (w:World) {b:Array Oper} {rest:List Oper} {o:Oper} {a:Act} {Q:Exit->Act->World->Prop} (i:o.guard=none) (s x:Operand)
 (k:o.op=.call { callee:=.builtin .append,args:=#[s,x],argTypes:=#[71,71] })
 (v:Value) (l:List Pce) (d:a.eval s=v) (h:w.ownsRow 0 108 3 v l.length (Q7 l)) (c:Pce) (p:a.eval x=.slice (some ⟨w.heap.size,0,none⟩) 1 1) (e:l.length<=10000000)
 (f:∀ v' w',w'.ownsRow 0 108 3 v' (l++[c]).length (Q7 (l++[c]))->(w.alloc (.cells (pcC c) 108)).grownBy w' v.ownBlock->(v'.ownBlock=v.ownBlock∨v'.ownBlock=some (w.heap.size+1))->
  wpList prog b Q rest (a.put o.dst v') w'):wpList prog b Q (o::rest) a (w.alloc (.cells (pcC c) 108)):=
 zb0 i fun _ m=>by
  obtain⟨v',w',g,q,n,j⟩:=Zmd w o.type v l h c e;unfold Oper.wp execOp;simp only [k,resolve,invoke,builtin,zbt,zbv,zbe,map_toArray,map_cons,map_nil,d,p,g];exact m _ _ (f v' w' q n j)
theorem ZiI (w:World) (ty:TypeId) (v:Value) (b:List Rec) (d:Xl w 0 v b) (f:Value) (l:List Rec) (p:RdR w f l) (y:b.length+l.length<=10000000):
 ∃ v' w',(Builtin.append_ #[29,29] ty #[v,f]).run prog w=.ok v' w'∧Xl w' 0 v' (b++l)∧w.grownBy w' v.ownBlock∧(v'.ownBlock=v.ownBlock∨v'.ownBlock=some w.heap.size):=by
 obtain⟨g,i,m,k,x⟩:=zbx Zdl;obtain⟨ao,cap,rfl,z,A,n,_,u⟩:=p
 cases ao with
 | none=>
  have j:=n rfl;subst j;have e:l=[]:=zao (by omega)
  subst e;have c:=zc6 (P:=prog) w 0 29 ty 62 g 7 underlying29 i v b.length (Qx b) d;exact⟨v,w,c,by rw[append_nil];exact d,⟨rfl,rfl,rfl,za0 _,fun _ _ _=>rfl⟩,.inl rfl⟩
 | some a=>
  obtain⟨v',w',c,q,t,_,e⟩:=zdf (P:=prog) w 0 29 ty 62 g _ 7 56 underlying29 i m k x rfl (by decide) v b.length (Qx b) d a l.length cap (Qx l)
   (Zq l) (RdR.cells u a rfl) (Zbt l) (by unfold maxLen;omega) (by omega) (zap _)
  refine⟨v',w',c,?_,t,e⟩;unfold Xl;rw[length_append,ZaB];exact q
theorem Zbv (w:World) {d:Array Oper} {rest:List Oper} {o:Oper} {a:Act} {Q:Exit->Act->World->Prop} (j:o.guard=none) (s x:Operand)
 (n:o.op=.call { callee:=.builtin .append,args:=#[s,x],argTypes:=#[29,29] })
 (v:Value) (b:List Rec) (e:a.eval s=v) (p:Xl w 0 v b) (c:Value) (l:List Rec) (t:a.eval x=c) (m:RdR w c l) (f:b.length+l.length<=10000000)
 (h:∀ v' w',Xl w' 0 v' (b++l)->w.grownBy w' v.ownBlock->(v'.ownBlock=v.ownBlock∨v'.ownBlock=some w.heap.size)->wpList prog d Q rest (a.put o.dst v') w'):wpList prog d Q (o::rest) a w:=
 zb0 j fun _ g=>by
  obtain⟨v',w',i,u,q,k⟩:=ZiI w o.type v b p c l m f;unfold Oper.wp execOp;simp only [n,resolve,invoke,builtin,zbt,zbv,zbe,map_toArray,map_cons,map_nil,e,t,i];exact g _ _ (h v' w' u q k)
theorem X5 {s:Nat} (h:w.ownsRow base t s v n xs) {g:Nat} (a:v.ownBlock=some g):∃ cs,Bk t w g cs:=by
 rcases h.2 with ⟨b,_⟩ | ⟨g',cap,cur,b,_,c,_⟩
 ·rw[b] at a;cases a
 ·rw[b] at a
  obtain rfl:g'=g:=by simpa[Value.ownBlock] using a
  exact⟨_,c⟩
theorem Je {s:Nat} (h:w.ownsRow base t s v n xs):∃ a c,v=.slice a n c:=by
 rcases h.2 with ⟨b,d⟩ | ⟨g',cap,cur,b,_⟩
 ·exact⟨_,_,by rw[b,d]⟩
 ·exact⟨_,_,b⟩
structure ZiJ (t:TypeId) (w:World) (b o:Nat) (cs:Array Value) (rv pv:Value) (g:Lgb):Prop where
 blk:Bk t w b cs
 c0:cs[o]?=some (.int .i64 g.first)
 c1:cs[o+1]?=some rv
 c2:cs[o+2]?=some pv
 recs:Xl w 0 rv g.recs
 pcs:w.ownsRow 0 108 3 pv g.pcs.length (Q7 g.pcs)
def Zka (b:Nat) (rv pv:Value) (k:Nat):Prop:=k=b∨rv.ownBlock=some k∨pv.ownBlock=some k
theorem ZiJ.neR {cs:Array Value} (h:ZiJ t w b o cs rv pv g) (c:t≠62):rv.ownBlock≠some b:=fun e=>by
 obtain⟨d,a⟩:=X5 h.recs e;exact(h.blk.ne a c) rfl
theorem ZiJ.neP {cs:Array Value} (h:ZiJ t w b o cs rv pv g) (c:t≠108):pv.ownBlock≠some b:=fun e=>by
 obtain⟨d,a⟩:=X5 h.pcs e;exact(h.blk.ne a c) rfl
theorem ZiJ.neRP {cs:Array Value} (h:ZiJ t w b o cs rv pv g):∀ k,rv.ownBlock=some k->pv.ownBlock≠some k:=fun k e c=>by
 obtain⟨f,d⟩:=X5 h.recs e;obtain⟨i,a⟩:=X5 h.pcs c;exact(d.ne a (by decide)) rfl
theorem ZiJ.below {cs:Array Value} (h:ZiJ t w b o cs rv pv g) (a:Below w.heap.size w w'):ZiJ t w' b o cs rv pv g:=
 ⟨h.blk.keep (a.block b h.blk.lt),h.c0,h.c1,h.c2,h.recs.below a zL,Qh h.pcs fun g c=>a.block g (by
  obtain⟨e,d⟩:=X5 h.pcs c
  exact d.lt)⟩
def ZeV (t:TypeId) (w:World) (b o:Nat) (cs:Array Value) (rv pv:Value) (g:Lgb) (w':World):Prop:=
 ∃ rv' pv',ZiJ t w' b o (((cs.setIfInBounds o (.int .i64 g.first)).setIfInBounds (o+1) rv').setIfInBounds (o+2) pv') rv' pv' g∧Ql (Zka b rv pv) w w'∧
  (∀ k,Zka b rv' pv' k->Zka b rv pv k∨w.heap.size<=k)
theorem ZeV.more {a c:World} {cs:Array Value} (h:ZeV t w b o cs rv pv g a) (d:Below a.heap.size a c):ZeV t w b o cs rv pv g c:=by
 obtain⟨f,j,e,l,i⟩:=h;exact⟨f,j,e.below d,l.trans (G:=fun _=>False) (Ql.ofBelow d) (fun _ _ k=>k.elim),i⟩
theorem ZeW {cs:Array Value} {x:Value} (h:cs[j]?=some x):cs.setIfInBounds j x=cs:=by
 apply zfj;intro i;rw[zba];by_cases e:j=i
 ·subst e
  have a:j<cs.size:=(zar.1 h).1;rw[zab rfl,zab a,h]
 ·simp[e]
theorem ZkM (t:TypeId) (S:t≠62) (P:t≠108) (b o:Nat) (cs:Array Value) (rv pv:Value) (g:Lgb) (name first:Int) (w:World) (h:ZiJ t w b o cs rv pv g) (ag:g.pcs.length<=1000000):
 Calls prog 53 #[.pointer (some ⟨b,o,none⟩),.int .i64 name,.int .i64 first] w fun e w'=>e=.returned (.tuple #[])∧ZeV t w b o cs rv pv (g.start name first) w':=by
 obtain⟨R,N,B⟩:=Je h.pcs
 -- the world ahead of the append
 obtain⟨a,q⟩:=zg7 (if g.pcs.length=0 then w.setCell ⟨b,o,none⟩ (.int .i64 first) else w)
 obtain⟨m,n⟩:=zg7 (if g.pcs.length=0 then cs.setIfInBounds o (.int .i64 first) else cs)
 have af:a.heap.size=w.heap.size:=by
  rw[q];split
  ·simp
  ·rfl
 have M:∀ k,k≠b->a.heap[k]?=w.heap[k]?:=fun k hk=>by
  rw[q];split
  ·exact zat _ _ _ _ hk
  ·rfl
 have U:Ql (Zka b rv pv) w a:=by
  rw[q];split
  ·exact(Ql.refl _ _).setCell o (fun _=>.inl rfl) _
  ·exact Ql.refl _ _
 have X:Bk t a b m:=by
  rw[q,n];split
  ·exact h.blk.set o _
  ·exact h.blk
 have W:g.start name first=⟨if g.pcs.length=0 then first else g.first,g.recs,g.pcs++[(⟨name,first,first⟩:Pce)]⟩:=rfl
 have c:ZiJ t a b o m rv pv ⟨if g.pcs.length=0 then first else g.first,g.recs,g.pcs⟩:=by
  refine⟨X,?_,?_,?_,Qh h.recs fun k hk=>M k (fun e=>h.neR S (by subst e;exact hk)),Qh h.pcs fun k hk=>M k (fun e=>h.neP P (by subst e;exact hk))⟩
  ·rw[n]
   have O:o<cs.size:=(zar.1 h.c0).1;split
   ·simp[O]
   ·exact h.c0
  ·rw[n]
   split
   ·rw[zba,zaa (by omega)]
    exact h.c1
   ·exact h.c1
  ·rw[n]
   split
   ·rw[zba,zaa (by omega)]
    exact h.c2
   ·exact h.c2
 have I:Hid (∀ f d,d.ownsRow 0 108 3 f (g.pcs++[(⟨name,first,first⟩:Pce)]).length (Q7 (g.pcs++[(⟨name,first,first⟩:Pce)]))->(a.alloc (.cells (pcC ⟨name,first,first⟩) 108)).grownBy d pv.ownBlock->(f.ownBlock=pv.ownBlock∨f.ownBlock=some (a.heap.size+1))->
  ZeV t w b o cs rv pv (g.start name first) (d.setCell ⟨b,o+2,none⟩ f)∧d.cell? ⟨b,o+2,none⟩=some pv∧d.frozen? ⟨b,o+2,none⟩=false):=ZZ (fun f d i j hv=>by
  have T:∀ k,k<a.heap.size->pv.ownBlock≠some k->d.heap[k]?=a.heap[k]?:=fun k hk ac=>by
   rw[j.block k (by simp;omega) (fun e=>ac e.symm),zav _ _ _ hk]
  have z:Bk t d b m:=c.blk.keep (T b c.blk.lt (c.neP P));have aj:a.heap.size+1<=d.heap.size:=by have:=j.size;simpa using this
  have aa:((cs.setIfInBounds o (.int .i64 (g.start name first).first)).setIfInBounds (o+1) rv).setIfInBounds (o+2) f=m.setIfInBounds (o+2) f:=by
   congr 1
   rw[W,n]
   dsimp only
   by_cases l:g.pcs.length=0
   ·rw[zab l,zab l]
    exact ZeW (by rw[zba,zaa (by omega)];exact h.c1)
   ·rw[zaa l,zaa l,ZeW h.c0,ZeW h.c1]
  have ab:f.ownBlock≠some b:=fun e=>by
   obtain⟨ae,L⟩:=X5 i e;exact(z.ne L P) rfl
  refine⟨⟨rv,f,?_,?_,?_⟩,(z.cell _ c.c2).1,(z.cell _ c.c2).2⟩
  ·rw[aa]
   have O:o+2<m.size:=(zar.1 c.c2).1;refine⟨z.set _ _,?_,?_,by simp[O],Qh c.recs fun k hk=>?_,Qh i fun k hk=>zat _ _ _ _ (fun e=>ab (by subst e;exact hk))⟩
   ·rw[zba,zaa (by omega)]
    exact c.c0
   ·rw[zba,zaa (by omega)]
    exact c.c1
   ·obtain⟨ae,L⟩:=X5 c.recs hk
    rw[zat _ _ _ _ (fun e=>c.neR S (by subst e;exact hk)),T k L.lt (c.neRP k hk)]
  ·refine(U.trans (G:=Zka b rv pv) ?_ (fun _ _ Q=>Q)).setCell _ (fun _=>.inl rfl) _
   exact((Ql.refl _ a).alloc _).trans (Ql.ofGrown (F:=Zka b rv pv) j fun k e _=>.inr (.inr e)) (fun _ _ Q=>Q)
  ·intro k hk
   rcases hk with hk | hk | hk
   ·exact .inl (.inl hk)
   ·exact .inl (.inr (.inl hk))
   ·rcases hv with hv | hv
    ·exact .inl (.inr (.inr (by rw[<-hv];exact hk)))
    ·rw[hv] at hk
     have:=zaq hk
     exact .inr (by omega))
 have D:Hid (a.ownsRow 0 108 3 (.slice R g.pcs.length N) g.pcs.length (Q7 g.pcs)):=ZZ (by rw[<-B];exact c.pcs)
 have V:Hid (g.pcs.length<=10000000):=ZZ (by omega)
 have p:=ZZ B;have K:=(h.blk.cell _ h.c2).1;have A:=(h.blk.cell _ h.c0);obtain⟨A,Y⟩:=A;have H:=(c.blk.cell _ c.c2).1;rw[B] at K H;have Z:=ZZ q;have ai:(g.pcs.length:Int)<=1000000:=by omega
 clear B c X M U af W n h q;by_cases l:g.pcs.length=0
 ·have ad:((g.pcs.length:Int) == 0)=true:=by rw[zbi];omega
  have C:Hid (a=w.setCell ⟨b,o,none⟩ (.int .i64 first)):=ZZ (by rw[Z.o,zab l])
  clear l
  go_enter func53,ntmps53
  go_upto_region 2 with fail
  rw[<-C.o];clear C A Y K
  go_wp2_with(at_builtin;refine(fun(h:True->_)=>h trivial) ?_)
  intro _;refine Zaa a rfl _ _ rfl (.slice R g.pcs.length N) g.pcs rfl D.o (⟨name,first,first⟩:Pce) rfl V.o ?_;intro f d i j hv;obtain⟨v,E,s2⟩:=I.o f d i (by rw[p.o];exact j) (by rw[p.o];exact hv)
  rw[p.o] at E;have J:=ZZ v;obtain⟨a9,c9,u⟩:=Je i;obtain⟨x,y⟩:=zg7 ((g.pcs++[(⟨name,first,first⟩:Pce)]).length);rw[<-y] at u;subst u;clear v i j hv y H;go_wp2;go_end0;exact⟨rfl,J.o⟩
 ·have ad:((g.pcs.length:Int) == 0)=false:=zah.2 (by omega)
  have C:Hid (a=w):=ZZ (by rw[Z.o,zaa l])
  clear l A Y H;rw[C.o] at I D
  go_enter func53,ntmps53
  go_wp2_with(at_builtin;refine(fun(h:True->_)=>h trivial) ?_)
  intro _;refine Zaa w rfl _ _ rfl (.slice R g.pcs.length N) g.pcs rfl D.o (⟨name,first,first⟩:Pce) rfl V.o ?_;intro f d i j hv;obtain⟨v,E,s2⟩:=I.o f d i (by rw[p.o];exact j) (by rw[p.o];exact hv)
  rw[p.o] at E;have J:=ZZ v;obtain⟨a9,c9,u⟩:=Je i;obtain⟨x,y⟩:=zg7 ((g.pcs++[(⟨name,first,first⟩:Pce)]).length);rw[<-y] at u;subst u;clear v i j hv y K;go_wp2;go_end0;exact⟨rfl,J.o⟩
theorem ZiK:∀ (l:List Pce) (j:Nat) (p:Pce),j<l.length->Q7 (l.set j p)=((((Q7 l).set (j*3) (.int .i64 p.name)).set (j*3+1) (.int .i64 p.first)).set (j*3+2) (.int .i64 p.stop))
 | c::l,0,p,_=>by
  rw[zal,Q7,Q7];rfl
 | c::l,j+1,p,hj=>by
  have a:=ZiK l j p (by simpa using hj)
  rw[zam,Q7,a,Q7];have e:(j+1)*3=(j*3)+1+1+1:=by omega
  rw[e];rfl
theorem ZnP {l:List Pce} (h:w.ownsRow 0 108 3 v l.length (Q7 l)) (j:Nat) (f:j<l.length) (x:Int):
 ∃ g cap,v=.slice (some ⟨g,0,none⟩) l.length cap∧g<w.heap.size∧l.length<=cap∧w.cell? ⟨g,j*3+2,none⟩=some (.int .i64 (l.getD j Zm).stop)∧w.frozen? ⟨g,j*3+2,none⟩=false∧
  (w.setCell ⟨g,j*3+2,none⟩ (.int .i64 x)).ownsRow 0 108 3 v l.length (Q7 (l.set j ⟨(l.getD j Zm).name,(l.getD j Zm).first,x⟩)):=by
 rcases h.2 with ⟨_,C⟩ | ⟨g,cap,cur,u,B,b,m,z,t,p⟩
 ·omega
 ·have c:∀ k,k<3->cur[j*3+k]?=(pcC (l.getD j Zm))[k]?:=fun k A=>by
   have a:=Zch l j k f A;rw[<-p,zdl,zab (by omega),zb2] at a
   exact a
  refine⟨g,cap,u,(zar.1 b).1,m,?_,zbc w g _ _ _ b,?_,.inr ⟨g,cap,cur.setIfInBounds (j*3+2) (.int .i64 x),u,B,zbk w g _ _ _ _ b,m,z,by simpa using t,?_⟩⟩
  ·rw[zas w g _ _ _ _ b]
   exact c 2 (by decide)
  ·rw[Zat,length_set]
  ·rw[ZiK l j _ f]
   have y:=c 0 (by decide)
   have a:=c 1 (by decide)
   rw[<-p];apply zek;intro i;rw[zdl];by_cases e:i<l.length*3
   ·rw[zab e,zb2,zba]
    simp only [List.getElem?_set,length_set,length_take,Array.length_toList,zdl,e,zeu,zb2];have D:cur.size=cap*3:=t;by_cases d:j*3+2=i
    ·subst d
     rw[zab rfl,zab rfl,zab (by omega),zab (by omega)]
    ·rw[zaa d,zaa d]
     by_cases q:j*3+1=i
     ·subst q
      rw[zab rfl,zab (by omega),a]
      rfl
     ·rw[zaa q]
      by_cases n:j*3=i
      ·subst n
       rw[zab rfl,zab (by omega)]
       rw[zc2] at y;rw[y];rfl
      ·rw[zaa n]
   ·rw[zaa e,zbw (by simp;omega)]
theorem Zvy (t:TypeId) (M:t≠62) (al:t≠108) (b o:Nat) (cs:Array Value) (rv pv:Value) (g:Lgb) (R:Value) (l:List Rec) (w:World) (h:ZiJ t w b o cs rv pv g) (E:RdR w R l) (ay:g.pcs.length≠0) (ar:g.pcs.length<=1000000) (V:g.recs.length+l.length<=10000000)
 (Z:∀ p ∈ g.pcs,0<=p.stop∧p.stop<=4611686018427387904):
 Calls prog 54 #[.pointer (some ⟨b,o,none⟩),R] w fun e w'=>e=.returned (.tuple #[])∧ZeV t w b o cs rv pv (g.add l) w':=by
 obtain⟨la,lc,rfl,-⟩:=id E;obtain⟨O,P,B⟩:=h.recs.shape;obtain⟨m,C⟩:∃ m,g.pcs.length=m+1:=⟨g.pcs.length-1,by omega⟩
 obtain⟨j,A⟩:=zg7 ((g.pcs.getD m Zm).stop)
 have ap:0<=j∧j<=4611686018427387904:=by
  rw[A];refine Z _ ?_;rw[show g.pcs.getD m Zm=g.pcs[m]'(by omega) by simp[List.getD,show m<g.pcs.length by omega]]
  exact getElem_mem _
 obtain⟨i,Q,y,S,ac,-,-,-⟩:=ZnP h.pcs m (by omega) 0
 -- behind the append,and the store of the records
 have az:Hid (∀ d f,Xl f 0 d (g.recs++l)->w.grownBy f rv.ownBlock->(d.ownBlock=rv.ownBlock∨d.ownBlock=some w.heap.size)->
  (f.cell? ⟨b,o+1,none⟩=some rv∧f.frozen? ⟨b,o+1,none⟩=false)∧
  ((f.setCell ⟨b,o+1,none⟩ d).cell? ⟨b,o+2,none⟩=some pv∧(f.setCell ⟨b,o+1,none⟩ d).cell? ⟨i,m*3+2,none⟩=some (.int .i64 j)∧(f.setCell ⟨b,o+1,none⟩ d).frozen? ⟨i,m*3+2,none⟩=false)∧
  ZeV t w b o cs rv pv (g.add l) (((f.setCell ⟨b,o+1,none⟩ d)).setCell ⟨i,m*3+2,none⟩ (.int .i64 (j+l.length)))):=ZZ (fun d f q z hv=>by
  have N:∀ k,k<w.heap.size->rv.ownBlock≠some k->f.heap[k]?=w.heap[k]?:=fun k hk ab=>z.block k hk (fun e=>ab e.symm)
  have x:Bk t f b cs:=h.blk.keep (N b h.blk.lt (h.neR M));have v:pv.ownBlock=some i:=by rw[y];rfl
  have G:i≠b:=fun e=>h.neP al (by rw[v,e])
  have av:rv.ownBlock≠some i:=fun e=>h.neRP i e v
  have X:(f.setCell ⟨b,o+1,none⟩ d).ownsRow 0 108 3 pv g.pcs.length (Q7 g.pcs):=Qh h.pcs fun k hk=>by
   have e:k=i:=by rw[v] at hk;exact(zaq hk).symm
   subst e;rw[zat _ _ _ _ G,N _ S av]
  obtain⟨g',aG,L,-,-,J,aa,ak⟩:=ZnP X m (by omega) (j+l.length)
  have eg:g'=i:=by
   rw[y] at L
   injection L with u _ _
   injection u with u
   injection u with u
   exact u.symm
  subst eg;rw[<-A] at J
  have au:d.ownBlock≠some b:=fun e=>by
   obtain⟨ag,I⟩:=X5 q e;exact(x.ne I M) rfl
  have aq:d.ownBlock≠some g':=fun e=>by
   obtain⟨ag,I⟩:=X5 q e;obtain⟨ae,ad⟩:=X5 X v
   have an:Bk 108 f g' ae:=by
    have:=ad;unfold Bk at this ⊢;rw[zat _ _ _ _ G] at this;exact this
   exact(I.ne an (by decide)) rfl
  refine⟨⟨(x.cell _ h.c1).1,(x.cell _ h.c1).2⟩,⟨?_,J,aa⟩,d,pv,?_,?_,?_⟩
  ·refine((x.set (o+1) d).cell _ ?_).1
   rw[zba,zaa (by omega)]
   exact h.c2
  ·have am:((cs.setIfInBounds o (.int .i64 (g.add l).first)).setIfInBounds (o+1) d).setIfInBounds (o+2) pv=cs.setIfInBounds (o+1) d:=by
    have u:(g.add l).first=g.first:=rfl;rw[u,ZeW h.c0];exact ZeW (by rw[zba,zaa (by omega)];exact h.c2)
   rw[am];have ai:o+1<cs.size:=(zar.1 h.c1).1;refine⟨(x.set _ _).other _ _ _ (fun e=>G e.symm),?_,by simp[ai],?_,Qh q fun k hk=>?_,?_⟩
   ·rw[zba,zaa (by omega)]
    exact h.c0
   ·rw[zba,zaa (by omega)]
    exact h.c2
   ·rw[zat _ _ _ _ (fun e=>aq (by subst e;exact hk)),zat _ _ _ _ (fun e=>au (by subst e;exact hk))]
   ·have e3:(g.add l).pcs=g.pcs.set m ⟨(g.pcs.getD m Zm).name,(g.pcs.getD m Zm).first,j+l.length⟩:=by
     show Ze g.pcs l.length=_;unfold Ze;rw[C,zdk,<-A]
    rw[e3,length_set];exact ak
  ·exact((Ql.ofGrown (F:=Zka b rv pv) z fun k e _=>.inr (.inl e)).setCell _ (fun _=>.inl rfl) _).setCell _ (fun _=>.inr (.inr v)) _
  ·intro k hk
   rcases hk with hk | hk | hk
   ·exact .inl (.inl hk)
   ·rcases hv with hv | hv
    ·exact .inl (.inr (.inl (by rw[<-hv];exact hk)))
    ·rw[hv] at hk
     have:=zaq hk;exact .inr (by omega)
   ·exact .inl (.inr (.inr hk)))
 have ax:Hid (Xl w 0 (.slice O g.recs.length P) g.recs):=ZZ (by rw[<-B];exact h.recs)
 have ao:=ZZ E;have D:=ZZ B;have aE:=ZZ y;have af:=ZZ V;obtain⟨U,-⟩:=h.blk.cell _ h.c1;rw[B] at U;have hw:IntKind.i64.wrap (j+(l.length:Int))=j+l.length:=by rw[zbo];omega
 have aD:(m:Int)<=1000000:=by omega
 have aA:g.pcs.length=m+1:=C;have aj:Hid (pv=.slice (some ⟨i,0,none⟩) (m+1) Q):=ZZ (by rw[y,C])
 have aB:(l.length:Int)<=10000000:=by omega
 obtain⟨aF,aH⟩:=ap;have aC:m+1<=Q:=by omega
 clear B y h E Z A ay ar V C aA ac S
 go_enter func54,ntmps54
 go_wp2_with(at_builtin;refine(fun(h:True->_)=>h trivial) ?_)
 intro _;refine Zbv w rfl _ _ rfl (.slice O g.recs.length P) g.recs rfl ax.o _ l rfl ao.o af.o ?_;intro d f q z hv;obtain⟨⟨W,s1⟩,⟨Y,u3,u4⟩,T⟩:=az.o d f q (by rw[D.o];exact z) (by rw[D.o];exact hv)
 rw[D.o] at W;rw[aj.o] at Y;have K:=ZZ T
 obtain⟨a9,n9,c9,aw⟩:∃ a n c,d=.slice a n c:=by
  obtain⟨a,c,hh⟩:=q.shape;exact⟨a,_,c,hh⟩
 subst aw;obtain⟨W2,H⟩:=zg7 (f.setCell ⟨b,o+1,none⟩ (.slice a9 n9 c9));rw[<-H] at Y u3 u4 K;clear T q z hv U
 go_upto_region 1 with fail
 rw[<-H];clear H W s1
 go_region
 go_wp2;go_end0;exact⟨rfl,K.o.more (zac _ _).drew⟩
theorem Xl.empty (w:World) (B:Nat) (a:B<=w.heap.size):Xl (w.alloc (.cells #[] 62)) B (.slice (some ⟨w.heap.size,0,none⟩) 0 0) []:=
 ⟨rfl,.inr ⟨w.heap.size,0,#[],rfl,a,zak w _,za0 _,zap _,rfl,rfl⟩⟩
theorem ZkN (v:Value) (l:List Rec) (w:World) (d:RdR w v l) (q:l.length<=1000000):
 Calls prog 44 #[v] w fun e w'=>∃ v',e=.returned v'∧Xl w' w.heap.size v' l∧Below w.heap.size w w':=by
 have p:=ZZ d;obtain⟨ao,cap,rfl,k,-,b,-⟩:=d
 cases ao with
 | none=>
  obtain rfl:cap=0:=b rfl;obtain rfl:l=[]:=zao (by omega)
  clear b k;have i:∀ w,(binOp .eql 29 (.slice none 0 0) (.slice none 0 0)).run prog w=.ok (.bool true) w:=fun w=>zc5 w _ _ none 0 0 underlying29
  go_enter func44,ntmps44
  go_wp2;go_ret;exact⟨_,rfl,Xl.nil _ _,zac _ _⟩
 | some a=>
  clear b;have i:∀ w,(binOp .eql 29 (.slice (some a) l.length cap) (.slice none 0 0)).run prog w=.ok (.bool false) w:=fun w=>zc5 w _ _ (some a) _ _ underlying29
  have c:Hid (∀ X,Below w.heap.size w (w.alloc X)):=fun X=>(zac _ _).alloc zL X
  have j:Hid (Xl (w.alloc (.cells #[] 62)) w.heap.size (.slice (some ⟨w.heap.size,0,none⟩) 0 0) []):=ZZ (Xl.empty w _ zL)
  go_enter func44,ntmps44
  go_wp2_with(at_builtin;refine ZeS _ rfl _ _ rfl w.heap.size _ [] rfl j.o _ l rfl (p.o.below (c.o _) zL) (by simp;omega) (by simp) ?_)
  intro u t g f;have m:=ZZ g;have n:=ZZ ((c.o _).trans f);clear g f;go_wp2;go_ret;exact⟨_,rfl,m.o,n.o⟩
theorem Zvz (w:World) (ao:Option Addr) (l:List Rec) (cap:Nat) (b:RdR w (.slice ao l.length cap) l) (i:Nat) (f:i<=l.length):
 ∃ a' c',RdR w (.slice a' (l.drop i).length c') (l.drop i)∧∀ x:Int,x=(i:Int)->∀ W,(Instr.sliceAt 29 (.slice ao l.length cap) (some (.int .i64 x)) none none).run prog W=.ok (.slice a' (l.drop i).length c') W:=by
 have g:l.length<=cap:=by
  obtain⟨a,c,e,h,-⟩:=b;simp only [zbb] at e;omega
 have h:=b.mid i l.length cap f zL g zL;rw[zbl (by rw[length_drop];omega)] at h
 unfold sliced at h;refine⟨_,_,by rw[length_drop];exact h,fun x d W=>?_⟩
 subst d;rw[zcn W 29 _ _ _ _ Zdm,zfs W 29 ao l.length cap Zdm .i64 (i:Int) (by omega) (by omega),Zit,Zrj,length_drop]
 rfl
theorem ZxJ (w:World) (ao:Option Addr) (l:List Rec) (cap:Nat) (b:RdR w (.slice ao l.length cap) l) (i j:Nat) (f:i<=j) (d:j<=l.length):
 ∃ a' c',RdR w (.slice a' (j-i) c') ((l.drop i).take (j-i))∧∀ x y:Int,x=(i:Int)->y=(j:Int)->∀ W,(Instr.sliceAt 29 (.slice ao l.length cap) (some (.int .i64 x)) (some (.int .i64 y)) none).run prog W=.ok (.slice a' (j-i) c') W:=by
 have m:l.length<=cap:=by
  obtain⟨a,c,e,h,-⟩:=b;simp only [zbb] at e;omega
 have h:=b.mid i j cap f d (by omega) zL
 unfold sliced at h;refine⟨_,_,h,fun x y k g W=>?_⟩
 subst k g;rw[zcn W 29 _ _ _ _ Zdm,run_slice_lh W 29 ao l.length cap Zdm .i64 .i64 (i:Int) (j:Int) (by omega) (by omega) (by omega),Zit,Zrj]
 rfl
theorem Jr.toLog {L:ZdD} (h:Jr M I w p pd L s):ZiJ 76 w p 1 (stC pd L s) L.rv L.pv s.log:=
 ⟨h.head,rfl,rfl,rfl,h.recs,h.pcs⟩
theorem Jr.logF {L:ZdD} (h:Jr M I w p pd L s):∀ k,Zka p L.rv L.pv k->M k:=fun k hk=>by
 rcases hk with rfl | hk | hk
 ·exact h.mh
 ·exact h.mr k hk
 ·exact h.mp k hk
theorem Jr.ofLog {L:ZdD} (h:Jr M I w p pd L s) (t:ZeV 76 w p 1 (stC pd L s) L.rv L.pv g w'):
 ∃ M' L',Jr M' I w' p pd L' { s with log:=g }∧L'.nl=L.nl∧L'.nt=L.nt∧Ql M w w'∧∀ k,M' k->M k∨w.heap.size<=k:=by
 obtain⟨c,d,b,l,n⟩:=t;have e:Ql M w w':=l.mono h.logF;have m:∀ k,I k->w'.heap[k]?=w.heap[k]?:=fun k hk=>e.block k (h.ltI k hk) fun b=>h.dis k b hk
 have y:((((stC pd L s).setIfInBounds 1 (.int .i64 g.first)).setIfInBounds (1+1) c).setIfInBounds (1+2) d)=stC pd { L with rv:=c,pv:=d } { s with log:=g }:=rfl
 rw[y] at b
 have u:∀ k,Zka p c d k->k<w'.heap.size:=fun k hk=>by
  rcases hk with rfl | hk | hk
  ·exact b.blk.lt
  ·obtain⟨i,a⟩:=X5 b.recs hk
   exact a.lt
  ·obtain⟨i,a⟩:=X5 b.pcs hk
   exact a.lt
 have z:∀ k,L.bv.ownBlock=some k->¬ Zka p L.rv L.pv k:=fun k hk hl=>by
  obtain⟨i,a⟩:=X5 h.bases hk;rcases hl with rfl | hl | hl
  ·exact(a.ne h.head (by decide)) rfl
  ·obtain⟨v,f⟩:=X5 h.recs hl
   exact(a.ne f (by decide)) rfl
  ·obtain⟨v,f⟩:=X5 h.pcs hl
   exact(a.ne f (by decide)) rfl
 refine⟨fun k=>M k∨Zka p c d k,{ L with rv:=c,pv:=d },⟨b.blk,b.recs,b.pcs,Qh h.bases fun k hk=>?_,h.bsEq,h.now.keep h.inow m,fun x q=>(h.base x q).keep (h.ibase x q) m,.inr (.inl rfl),fun k hk=>.inr (.inr (.inl hk)),fun k hk=>.inr (.inr (.inr hk)),fun k hk=>.inl (h.mb k hk),h.inow,h.ibase,fun k hk=>?_,fun k hk=>zay (h.ltI k hk) e.size,fun k hk j=>?_⟩,rfl,rfl,e,fun k hk=>?_⟩
 ·obtain⟨i,a⟩:=X5 h.bases hk
  exact l.block k a.lt (z k hk)
 ·rcases hk with hk | hk
  ·exact zay (h.ltM k hk) e.size
  ·exact u k hk
 ·rcases hk with hk | hk
  ·exact h.dis k hk j
  ·rcases n k hk with h1 | h1
   ·exact h.dis k (h.logF k h1) j
   ·have:=h.ltI k j
    omega
 ·rcases hk with hk | hk
  ·exact .inl hk
  ·rcases n k hk with h1 | h1
   ·exact .inl (h.logF k h1)
   ·exact .inr h1
theorem ZsW {l:List Pce} (h:w.ownsRow 0 108 3 v l.length (Q7 l)) (e:0<l.length):
 ∃ g cap,v=.slice (some ⟨g,0,none⟩) l.length cap∧w.cell? ⟨g,1,none⟩=some (.int .i64 (l.getD 0 Zm).first):=by
 rcases h.2 with ⟨_,m⟩ | ⟨g,cap,cur,d,j,b,f,i,k,c⟩
 ·omega
 ·refine⟨g,cap,d,?_⟩
  have a:=Zch l 0 1 e (by decide)
  rw[<-c,zdl,zab (by omega),zb2] at a
  rw[zas w g _ _ _ _ b];exact a
theorem Xl.own0 {l:List Rec} (h:Xl w B v l):Xl w 0 v l:=h.mono (zap _)
theorem Xl.freshR {l:List Rec} (h:Xl w B v l):∀ b,v.ownBlock=some b->B<=b∧b<w.heap.size:=fun b a=>zaz h b a
theorem ZvA (t:TypeId) (ag:t≠108) (b o:Nat) (cs:Array Value) (rv pv:Value) (g:Lgb) (l:Value) (left:List Pce) (base:Int) (w:World) (h:ZiJ t w b o cs rv pv g) (G:w.ownsRow 0 108 3 l left.length (Q7 left))
 (aq:left.length<=1000000) (aA:g.recs.length<=1000000) (ai:∀ r ∈ g.recs,ZcJ r) (ae:g.first<=Zj left base) (af:Zj left base<=g.first+g.recs.length) (ax:0<=g.first) (az:g.first+g.recs.length<=4611686018427387904):
 Calls prog 70 #[.pointer (some ⟨b,o,none⟩),l,.int .i64 base] w fun e w'=>e=.returned (.tuple #[])∧
  ∃ u,ZiJ t w' b o (((cs.setIfInBounds o (.int .i64 (g.letGo left base).first)).setIfInBounds (o+1) u).setIfInBounds (o+2) l) u l (g.letGo left base)∧Ql (fun k=>k=b) w w'∧∀ k,u.ownBlock=some k->w.heap.size<=k:=by
 obtain⟨f,x⟩:=zg7 (Zj left base);rw[<-x] at ae af;obtain⟨ra,rc,H⟩:=h.recs.shape;obtain⟨la,lc,P⟩:=Je G;have aa:=h.recs.rd ai;rw[H] at aa;obtain⟨a',c',X,hcut⟩:=Zvz w ra g.recs rc aa (f-g.first).toNat (by omega)
 have av:=hcut (f-g.first) (by omega)
 obtain⟨d0,f0⟩:=h.blk.cell _ h.c0;obtain⟨V,f1⟩:=h.blk.cell _ h.c1;obtain⟨d2,f2⟩:=h.blk.cell _ h.c2;rw[H] at V;have aD:=ZZ X
 have C:Hid (∀ W,Below w.heap.size w W->(W.cell? ⟨b,o,none⟩=some (.int .i64 g.first)∧W.cell? ⟨b,o+1,none⟩=some (.slice ra g.recs.length rc))∧(W.frozen? ⟨b,o,none⟩=false∧W.frozen? ⟨b,o+1,none⟩=false∧W.frozen? ⟨b,o+2,none⟩=false)∧W.cell? ⟨b,o+2,none⟩=some pv):=ZZ (fun W v=>by
  have j:=h.blk.keep (v.block b h.blk.lt)
  exact⟨⟨(j.cell _ h.c0).1,by rw[<-H];exact(j.cell _ h.c1).1⟩,⟨(j.cell _ h.c0).2,(j.cell _ h.c1).2,(j.cell _ h.c2).2⟩,(j.cell _ h.c2).1⟩)
 have ak:Hid (Below w.heap.size w w.drew):=ZZ ((zac _ _).drew)
 have ab:Hid (∀ W,Below w.heap.size w W->Calls prog 44 #[.slice a' (g.recs.drop (f-g.first).toNat).length c'] W fun e w'=>∃ v',e=.returned v'∧Xl w' w.heap.size v' (g.recs.drop (f-g.first).toNat)∧Below w.heap.size w w'):=ZZ (fun W I=>(ZkN _ _ W (X.below I zL) (by rw[length_drop];omega)).mono (by
  rintro e w' ⟨v',rfl,E,v⟩
  exact⟨v',rfl,E.mono I.size,I.trans (v.mono I.size)⟩))
 have O:Hid (∀ i d,Xl d w.heap.size i (g.recs.drop (f-g.first).toNat)->Below w.heap.size w d->
  ∃ u,ZiJ t (((d.setCell ⟨b,o+1,none⟩ i).setCell ⟨b,o,none⟩ (.int .i64 f)).setCell ⟨b,o+2,none⟩ l) b o (((cs.setIfInBounds o (.int .i64 (g.letGo left base).first)).setIfInBounds (o+1) u).setIfInBounds (o+2) l) u l (g.letGo left base)∧Ql (fun k=>k=b) w (((d.setCell ⟨b,o+1,none⟩ i).setCell ⟨b,o,none⟩ (.int .i64 f)).setCell ⟨b,o+2,none⟩ l)∧∀ k,u.ownBlock=some k->w.heap.size<=k):=ZZ (fun i d E v=>by
  have j:=h.blk.keep (v.block b h.blk.lt);have J:(g.letGo left base).first=f:=x.symm;have au:o<cs.size:=(zar.1 h.c0).1;have ap:o+1<cs.size:=(zar.1 h.c1).1;have aw:o+2<cs.size:=(zar.1 h.c2).1
  have ay:(((cs.setIfInBounds (o+1) i).setIfInBounds o (.int .i64 f)).setIfInBounds (o+2) l)=(((cs.setIfInBounds o (.int .i64 f)).setIfInBounds (o+1) i).setIfInBounds (o+2) l):=by
   congr 1
   exact Array.setIfInBounds_comm _ _ (by omega)
  have ao:∀ k,k≠b->(((d.setCell ⟨b,o+1,none⟩ i).setCell ⟨b,o,none⟩ (.int .i64 f)).setCell ⟨b,o+2,none⟩ l).heap[k]?=d.heap[k]?:=fun k m=>by
   rw[zat _ _ _ _ m,zat _ _ _ _ m,zat _ _ _ _ m]
  refine⟨i,?_,?_,fun k m=>(E.freshR k m).1⟩
  ·rw[J,<-ay]
   refine⟨((j.set _ _).set _ _).set _ _,?_,?_,?_,Qh (show d.ownsRow 0 62 7 i (g.letGo left base).recs.length (Qx (g.letGo left base).recs) from by show Xl d 0 i (g.recs.drop (Zj left base-g.first).toNat);rw[<-x];exact E.own0) fun k m=>ao k (fun e=>?_),Qh G fun k m=>?_⟩
   ·rw[zba,zaa (by omega),zba,zab rfl,zab (by simpa using au),J]
   ·rw[zba,zaa (by omega),zba,zaa (by omega),zba,zab rfl,zab ap]
   ·rw[zba,zab rfl,zab (by simpa using aw)]
   ·subst e
    have:=(E.freshR _ m).1;have:=h.blk.lt;omega
   ·obtain⟨aB,am⟩:=X5 G m
    rw[ao k (am.ne h.blk (fun e=>ag e.symm)),v.block k am.lt]
  ·exact(((Ql.ofBelow (F:=fun k=>k=b) v).setCell (b:=b) _ (fun _=>rfl) _).setCell (b:=b) _ (fun _=>rfl) _).setCell (b:=b) _ (fun _=>rfl) _)
 have hw:IntKind.i64.wrap (f-g.first)=f-g.first:=by rw[zbo];omega
 obtain⟨n1,ad⟩:=zg7 ((g.recs.drop (f-g.first).toNat).length);rw[<-ad] at av ab
 obtain⟨pa,pn,pc,al⟩:∃ a n c,pv=.slice a n c:=by
  obtain⟨a,c,B⟩:=Je h.pcs;exact⟨a,_,c,B⟩
 rw[al] at C d2;have ar:-9223372036854775808<=f-g.first∧f-g.first<=9223372036854775807:=by omega
 have U:Hid (left.length≠0->∃ A aj,l=.slice (some ⟨A,0,none⟩) left.length aj∧w.cell? ⟨A,1,none⟩=some (.int .i64 f)):=ZZ (fun p=>by
  obtain⟨A,cap,J,e2⟩:=ZsW G (by omega)
  have e3:f=(left.getD 0 Zm).first:=by rw[x];unfold Zj;rw[zaa p]
  exact⟨A,cap,J,by rw[e3];exact e2⟩)
 have ac:Hid (left.length=0->base=f):=ZZ (fun p=>by rw[x];unfold Zj;rw[zab p])
 obtain⟨aF,aH⟩:=ar;clear H X hcut h G x ai aa ad ae af ax az aA al d2 f2 ag;by_cases p:left.length=0
 ·have an:decide ((left.length:Int)>0)=false:=zai (by omega)
  obtain rfl:=ac.o p;rw[p] at P an;subst P;clear p U ac aq
  go_enter func70,ntmps70
  go_upto_region 3 with fail
  go_cut[] (fun wc=>Hid (∃ i d,wc=d.setCell ⟨b,o+1,none⟩ i∧Xl d w.heap.size i (g.recs.drop (base-g.first).toNat)∧Below w.heap.size w d))
  case first=>
   go_region_with
    (first | (go_at_call 44;refine(ab.o _ (by first | exact ak.o | exact zac _ _)).mono ?_;rintro e W1 ⟨R,rfl,q,z⟩;have L:=ZZ q;have D:=ZZ z;obtain⟨z1,z2,z3,hz⟩:∃ a n c,R=Value.slice a n c:=(by obtain⟨a,c,B⟩:=q.shape;exact⟨a,_,c,B⟩);subst hz;obtain⟨⟨Z,Q⟩,⟨Y,S,T⟩,-⟩:=C.o W1 D.o;clear q z))
   all_goals
    go_wp2_with fail
    go_meet
    exact ZZ ⟨_,_,rfl,L.o,D.o⟩
  case rest=>
   obtain⟨i,d,K,y,j⟩:=hcut.out;subst K;have M:=ZZ (O.o i d y j);obtain⟨⟨Z,Q⟩,⟨Y,S,T⟩,q2⟩:=C.o d j;clear hcut y j d0 V f0 f1;go_wp2;go_end0;exact⟨rfl,M.o⟩
 ·have an:decide ((left.length:Int)>0)=true:=zan (by omega)
  have aG:(0:Int)<(left.length:Int):=by omega
  obtain⟨A,aj,N,aE⟩:=U.o p;rw[N] at O;rw[N];clear p U ac P N;have aC:(left.length:Int)<=1000000:=by omega
  generalize left.length=ln at *
  go_enter func70,ntmps70
  go_upto_region 3 with fail
  go_cut[] (fun wc=>Hid (∃ i d,wc=d.setCell ⟨b,o+1,none⟩ i∧Xl d w.heap.size i (g.recs.drop (f-g.first).toNat)∧Below w.heap.size w d))
  case first=>
   go_region_with
    (first | (go_at_call 44;refine(ab.o _ (by first | exact ak.o | exact zac _ _)).mono ?_;rintro e W1 ⟨R,rfl,q,z⟩;have L:=ZZ q;have D:=ZZ z;obtain⟨z1,z2,z3,hz⟩:∃ a n c,R=Value.slice a n c:=(by obtain⟨a,c,B⟩:=q.shape;exact⟨a,_,c,B⟩);subst hz;obtain⟨⟨Z,Q⟩,⟨Y,S,T⟩,-⟩:=C.o W1 D.o;clear q z))
   all_goals
    go_wp2_with fail
    go_meet
    exact ZZ ⟨_,_,rfl,L.o,D.o⟩
  case rest=>
   obtain⟨i,d,K,y,j⟩:=hcut.out;subst K;have M:=ZZ (O.o i d y j);obtain⟨⟨Z,Q⟩,⟨Y,S,T⟩,q2⟩:=C.o d j;clear hcut y j d0 V f0 f1;go_wp2;go_end0;exact⟨rfl,M.o⟩
theorem ZnQ {L:ZdD} (a b:Int) (w:World) (h:Jr M I w p pd L s) (u:ZpV s) (R:∀ r ∈ s.log.recs,ZcJ r) (ab:s.log.recs.length<=1000000):
 Calls prog 17 #[ptr p,.int .i64 a,.int .i64 b] w fun e w'=>∃ v,e=.returned (.tuple #[v,.int .i64 (Zhi s a b).2])∧Xl w' w.heap.size v (Zhi s a b).1∧Below w.heap.size w w':=by
 have q:=ZZ (fun W (j:Below w.heap.size w W)=>ZiG W (h.below j) u)
 have z:=ZZ (fun W (j:Below w.heap.size w W)=>ZsU W (h.below j))
 unfold Zhi;obtain⟨nx,d⟩:=zg7 s.next;obtain⟨f,c⟩:=zg7 s.log.first;have n:nx=f+s.log.recs.length:=by rw[d,c];rfl
 rw[<-d] at q ⊢;rw[<-c] at z ⊢;have m:=u.f0;have k:=u.f1;rw[<-c] at m;rw[<-d] at k;by_cases g1:a<0
 ·rw[zab (.inl g1)]
  clear d c n m k h
  go_enter func17,ntmps17
  go_wp2;go_ret2;exact⟨_,rfl,Xl.nil _ _,zac _ _⟩
 by_cases Y:b<a
 ·rw[zab (.inr (.inl Y))]
  clear d c n m k h
  go_enter func17,ntmps17
  go_wp2;go_ret2;exact⟨_,rfl,Xl.nil _ _,zac _ _⟩
 by_cases g3:nx<b
 ·rw[zab (.inr (.inr g3))]
  clear d c n m k h
  go_enter func17,ntmps17
  go_wp2_with fail
  refine(q.o _ (zac _ _)).mono ?_;rintro e x ⟨rfl,g⟩;have i:=ZZ g;clear g;go_wp2;go_ret2;exact⟨_,rfl,Xl.nil _ _,i.o⟩
 rw[zaa (by omega)]
 by_cases H:a<f
 ·rw[zab H]
  clear d c n m k h
  go_enter func17,ntmps17
  go_wp2_with fail
  refine(q.o _ (zac _ _)).mono ?_;rintro e x ⟨rfl,g⟩;have i:=ZZ g;clear g
  go_wp2_with fail
  refine(z.o _ i.o).mono ?_;rintro e W2 ⟨rfl,rfl⟩;go_wp2;go_ret2;exact⟨_,rfl,Xl.nil _ _,i.o⟩
 rw[zaa H];obtain⟨B,D,A⟩:=h.recs.shape;have C:=h.recs.rd R;rw[A] at C;obtain⟨a',c',t,hcut⟩:=ZxJ w B s.log.recs D C (a-f).toNat (b-f).toNat (by omega) (by omega)
 have V:=hcut (a-f) (b-f) (by omega) (by omega)
 have P:Hid ((s.log.recs.drop (a-f).toNat).take ((b-f).toNat-(a-f).toNat)=(s.log.recs.take (b-f).toNat).drop (a-f).toNat):=ZZ (by rw[zfo])
 rw[P.o] at t;generalize (s.log.recs.take (b-f).toNat).drop (a-f).toNat=l at *
 have K:Hid (∀ W,Below w.heap.size w W->Calls prog 44 #[.slice a' ((b-f).toNat-(a-f).toNat) c'] W fun e w'=>∃ v',e=.returned v'∧Xl w' w.heap.size v' l∧Below w.heap.size w w'):=ZZ (fun W y=>(ZkN _ _ W (t.below y zL) (by
  obtain⟨_,_,e,-⟩:=t
  injection e with _ e _
  omega)).mono (by
  rintro e w' ⟨v',rfl,Z,j⟩
  exact⟨v',rfl,Z.mono y.size,y.trans (j.mono y.size)⟩))
 have O:Hid (∀ W,Below w.heap.size w W->W.cell? ⟨p,1,none⟩=some (.int .i64 f)∧W.cell? ⟨p,2,none⟩=some (.slice B s.log.recs.length D)):=ZZ (fun W j=>by
  obtain⟨-,X,F,-⟩:=(h.below j).cs;rw[A] at F;rw[c]
  exact⟨X,F⟩)
 have ac:IntKind.i64.wrap (a-f)=a-f:=by rw[zbo];omega
 have ai:IntKind.i64.wrap (b-f)=b-f:=by rw[zbo];omega
 have aa:-9223372036854775808<=a-f∧a-f<=9223372036854775807:=by omega
 have T:-9223372036854775808<=b-f∧b-f<=9223372036854775807:=by omega
 obtain⟨af,ag⟩:=aa;obtain⟨ae,ad⟩:=T;obtain⟨Q,J⟩:=zg7 ((b-f).toNat-(a-f).toNat);rw[<-J] at V K;clear d c n m k h t hcut C A J P R u
 go_enter func17,ntmps17
 go_wp2_with fail
 refine(q.o _ (zac _ _)).mono ?_;rintro e x ⟨rfl,g⟩;have i:=ZZ g;clear g
 go_wp2_with fail
 refine(z.o _ i.o).mono ?_;rintro e x ⟨rfl,rfl⟩;have N:Hid (Below w.heap.size w x.drew):=ZZ (i.o.drew)
 go_upto_region 5 with fail
 go_region_held(fun W=>W.cell? ⟨p,1,none⟩=some (.int .i64 f)∧W.cell? ⟨p,2,none⟩=some (.slice B s.log.recs.length D))
  (first | (with_reducible exact O.o _ N.o) | (with_reducible exact O.o _ S.o))
  (first | (go_at_call 44;refine(K.o _ N.o).mono ?_;rintro e W2 ⟨v2,rfl,G,E⟩;have U:=ZZ G;have S:=ZZ E;clear G E))
 all_goals
  go_wp2;go_ret2;exact⟨_,rfl,U.o,S.o⟩
theorem Zzx {L:ZdD} (w:World) (h:Jr M I w p pd L s) (ab:s.now.st.L.length<=1000000) (ac:s.now.tab.length<=1000000):
 Calls prog 21 #[ptr p] w fun e w'=>ZsV w s.now e w':=by
 obtain⟨c,n⟩:=zg7 (w.alloc (.cells #[.int .i64 0,.int .i64 0,.slice none 0 0,.bool false,.int .i64 0,.slice none 0 0] 41));have f:Hid (Below w.heap.size w c):=ZZ (by rw[n];exact Z3 _ _)
 have U:Hid (Bn c w.heap.size #[.int .i64 0,.int .i64 0,.slice none 0 0,.bool false,.int .i64 0,.slice none 0 0]):=ZZ (by rw[n];exact zak w _)
 have g:=ZZ (h.below f.o);obtain⟨-,-,-,-,-,⟨c5,c6,X,c8,c9,A⟩,-⟩:=g.o.cs;have j:=ZZ (ZkL (L.nx s) c g.o.now ab ac);obtain⟨la,Y,lc,S,F,O,T,E⟩:=g.o.now.shape;have y:L.nl=.slice la Y lc:=T;have u:L.nt=.slice S F O:=E;rw[y] at X;rw[u] at A
 have H:Hid (snV (L.nx s)=.agg #[.int .i64 s.now.idx,.int .i64 s.now.st.kind,.slice la Y lc,.bool s.now.st.shut,.int .i64 s.now.st.eng,.slice S F O]):=ZZ (by
  unfold snV snC ZdD.nx
  dsimp only
  rw[y,u])
 rw[H.o] at j;have J:(L.nx s).1=s.now:=rfl;rw[J] at j;clear h T E y u H g J
 go_enter func21,ntmps21
 go_upto_region 1 with fail
 rw[<-n];clear n
 go_wp2_with fail
 refine j.o.mono ?_;rintro e W1 ⟨vl,vt,rfl,q,Q,N,x⟩;have ad:=ZZ (f.o.trans (x.mono f.o.size));have d:=ZZ q;have m:=ZZ (And.intro Q N);have a:=U.o.below x zL;have R:=ZZ f.o.size;obtain⟨z0,y0⟩:=a.cell 0;obtain⟨z1,y1⟩:=a.cell 1;obtain⟨z2,y2⟩:=a.cell 2;obtain⟨z3,y3⟩:=a.cell 3;obtain⟨z4,y4⟩:=a.cell 4;obtain⟨z5,y5⟩:=a.cell 5;obtain⟨C,V,D,z,Z,G,P,K⟩:=q.shape
 dsimp only at P K
 subst P K;have W:w.heap.size<c.heap.size:=U.o.lt;have B:=ZZ W;unfold snV snC
 dsimp only
 clear x a c5 c6 X c8 c9 A q Q N j W;go_wp2;refine zax (v:=.agg #[.int .i64 s.now.idx,.int .i64 s.now.st.kind,.slice C V D,.bool s.now.st.shut,.int .i64 s.now.st.eng,.slice z Z G]) (by simp[results,Tryz.results21,go_sem,z0,z1,z2,z3,z4,z5]) rfl ?_
 have aa:=ZnG W1 w.heap.size (.int .i64 s.now.idx) (.int .i64 s.now.st.kind) (.slice C V D) (.bool s.now.st.shut) (.int .i64 s.now.st.eng) (.slice z Z G);refine⟨_,_,rfl,⟨d.o.l.but aa (.inr fun b h=>?_),d.o.t.but aa (.inr fun b h=>?_),d.o.k,d.o.e,d.o.i⟩,fun b h=>?_,fun b h=>?_,Zdk ad.o _ (by omega) _ _ _ _ _ _⟩
 ·have:=m.o.1 b h
  have:=B.o;omega
 ·have:=m.o.2 b h
  have:=B.o;omega
 ·exact zau R.o (m.o.1 b h)
 ·exact zau R.o (m.o.2 b h)
theorem ZxK {L:ZdD} (w:World) (h:Jr M I w p pd L s) (h0:s.bases.length≠0) (Z:s.bases.length<=1000000000) (F:s.base.st.L.length<=1000000) (N:s.base.tab.length<=1000000):
 Calls prog 25 #[ptr p] w fun e w'=>ZsV w s.base e w':=by
 obtain⟨c,q⟩:=zg7 (w.alloc (.cells #[.int .i64 0,.int .i64 0,.slice none 0 0,.bool false,.int .i64 0,.slice none 0 0] 41));have y:Hid (Below w.heap.size w c):=ZZ (by rw[q];exact Z3 _ _)
 have T:Hid (Bn c w.heap.size #[.int .i64 0,.int .i64 0,.slice none 0 0,.bool false,.int .i64 0,.slice none 0 0]):=ZZ (by rw[q];exact zak w _)
 have z:=ZZ (h.below y.o);have R:=ZZ (Zmc c z.o h0 Z);have hl:L.bs.length=s.bases.length:=by rw[<-h.bsEq,length_map]
 have g:=ZZ (ZfY h.bsEq)
 have A:Hid (∀ W,Below c.heap.size c W->Calls prog 47 #[snV (Zbm L.bs)] W fun e w'=>ZsV W s.base e w'):=ZZ (fun W hW=>by
  have:=ZkL (Zbm L.bs) W ((z.o.below hW).base _ (ZeU (by omega))) (by rw[g.o];exact F) (by rw[g.o];exact N)
  rw[g.o] at this
  exact this)
 obtain⟨a,H⟩:=zg7 s.base;rw[<-H] at A ⊢;clear h z hl H g F N
 go_enter func25,ntmps25
 go_upto_region 1 with fail
 rw[<-q];clear q;generalize snV (Zbm L.bs)=x at *
 go_wp2_with fail
 refine R.o.mono ?_;rintro e J ⟨rfl,V⟩;have n:=ZZ V;clear V
 go_wp2_with fail
 refine(A.o J n.o).mono ?_;rintro e W2 ⟨vl,vt,rfl,u,Q,O,B⟩;have S:=ZZ (n.o.trans (B.mono n.o.size));have aa:=ZZ (y.o.trans (S.o.mono y.o.size));have f:=ZZ u;have m:=ZZ (And.intro Q O);have d:=T.o.below S.o zL;have j:Hid (w.heap.size<J.heap.size):=ZZ (zay T.o.lt n.o.size);obtain⟨z0,y0⟩:=d.cell 0;obtain⟨z1,y1⟩:=d.cell 1;obtain⟨z2,y2⟩:=d.cell 2;obtain⟨z3,y3⟩:=d.cell 3;obtain⟨z4,y4⟩:=d.cell 4;obtain⟨z5,y5⟩:=d.cell 5;obtain⟨D,U,E,C,X,G,P,K⟩:=u.shape
 dsimp only at P K
 subst P K;unfold snV snC
 dsimp only
 clear B d u Q O A R;go_wp2;refine zax (v:=.agg #[.int .i64 a.idx,.int .i64 a.st.kind,.slice D U E,.bool a.st.shut,.int .i64 a.st.eng,.slice C X G]) (by simp[results,Tryz.results25,go_sem,z0,z1,z2,z3,z4,z5]) rfl ?_
 have Y:=ZnG W2 w.heap.size (.int .i64 a.idx) (.int .i64 a.st.kind) (.slice D U E) (.bool a.st.shut) (.int .i64 a.st.eng) (.slice C X G);refine⟨_,_,rfl,⟨f.o.l.but Y (.inr fun b h=>?_),f.o.t.but Y (.inr fun b h=>?_),f.o.k,f.o.e,f.o.i⟩,fun b h=>?_,fun b h=>?_,Zdk aa.o _ (by omega) _ _ _ _ _ _⟩
 ·have:=m.o.1 b h
  have:=j.o;omega
 ·have:=m.o.2 b h
  have:=j.o;omega
 ·have:=m.o.1 b h
  have:=j.o;omega
 ·have:=m.o.2 b h
  have:=j.o;omega
end Go.Proofs.YtnahjngbneicaaaGreatDoor
