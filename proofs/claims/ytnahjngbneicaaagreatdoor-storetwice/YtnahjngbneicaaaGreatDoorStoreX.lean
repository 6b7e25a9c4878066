import Derived.Test.YtnahjngbneicaaaGreatDoorStoreOpenM
namespace Go.Proofs.YtnahjngbneicaaaGreatDoor
open _root_.Go.Proofs.Tryz
set_option maxRecDepth 100000
open Go.RowKit
variable {W W' w:World} {a b c d e g pv rv:Value} {f:Int} {C:Nat}
theorem ZkZ.inside {w':World} {x:ZaW × Value × Value} {I:Nat->Prop} {l:List Rec} {r:ZaW × Int} (n:SnR w x) (hi:ZoR I x) (i:RdI w' c r.1.st.L) (g1:c=x.2.1∨∀ b,c.ownBlock=some b->w.heap.size<=b)
 (g2:(l=[]∧e=x.2.2)∨Zbt w' w.heap.size e r.1.tab) (p:l=[]->r.1=x.1):ZoR (fun k=>I k∨(w.heap.size<=k∧k<w'.heap.size)) (r.1,c,e):=by
 refine⟨?_,?_⟩
 ·rcases i.block with t | ⟨v,k,h,m⟩
  ·exact .inl t
  ·rcases g1 with g1 | g1
   ·rcases hi.1 with hi | hi
    ·obtain⟨y,u,f,-⟩:=n.l
     obtain⟨A,z,d,-⟩:=i;rw[hi] at f;rw[g1,f] at d
     injection d with _ d _
     exact .inl (List.eq_nil_of_length_eq_zero (by rw[<-d];rfl))
    ·exact .inr fun g a=>.inl (hi g (by rw[<-g1];exact a))
   ·refine .inr fun g a=>.inr ⟨g1 g a,?_⟩
    have q:c.ownBlock=some g:=a;rw[q] at h;obtain rfl:=Option.some.inj h;exact m
 ·rcases g2 with ⟨j,g2⟩ | g2
  ·rcases hi.2 with hi | hi
   ·exact .inl (by show r.1.tab=[];rw[p j];exact hi)
   ·exact .inr fun g a=>.inl (hi g (by rw[<-g2];exact a))
  ·exact .inr fun g a=>.inr (World.ownsRow.lt g2 g a)
theorem ZCa (w:World) (X Y Z:Obj):(((w.alloc X).alloc Y).alloc Z).heap[w.heap.size+2]?=some Z:=by
 have h:=heap_alloc_new ((w.alloc X).alloc Y) Z;have e:((w.alloc X).alloc Y).heap.size=w.heap.size+2:=by simp
 rw[e] at h;exact h
theorem ZCb (w:World) (X Y Z U:Obj):((((w.alloc X).alloc Y).alloc Z).alloc U).heap[w.heap.size+3]?=some U:=by
 have h:=heap_alloc_new (((w.alloc X).alloc Y).alloc Z) U;have e:(((w.alloc X).alloc Y).alloc Z).heap.size=w.heap.size+3:=by simp
 rw[e] at h;exact h
def ZfE (I:Nat->Prop) (w:World) (rv pv:Value) (r:Lgb × ZaW) (e:Ending) (w':World):Prop:=
 ∃ rv' pv' vl vt,e=.returned (.tuple #[.agg #[.int .i64 r.1.first,rv',pv'],snV (r.2,vl,vt)])∧Zbq w' 0 rv' r.1.recs∧w'.ownsRow 0 108 3 pv' r.1.pcs.length (Zau r.1.pcs)∧(rv'=rv∨rv'=.slice none 0 0)∧(pv'=pv∨pv'=.slice none 0 0)∧
  SnR w' (r.2,vl,vt)∧ZoR (fun k=>I k∨(w.heap.size<=k∧k<w'.heap.size)) (r.2,vl,vt)∧Below w.heap.size w w'
structure ZAr (w:World) (f:Int) (rv pv:Value) (x0 x1 x2 x3 x4 x5:Value) (W:World):Prop where
 lg:Bk 73 W w.heap.size #[.int .i64 f,rv,pv]
 sn:Bk 41 W (w.heap.size+1) #[x0,x1,x2,x3,x4,x5]
 ol:Bk 73 W (w.heap.size+2) #[.int .i64 0,.slice none 0 0,.slice none 0 0]
 os:Bk 41 W (w.heap.size+3) #[.int .i64 0,.int .i64 0,.slice none 0 0,.bool false,.int .i64 0,.slice none 0 0]
 old:Below w.heap.size w W
theorem ZAr.below {i:Value} (h:ZAr w f rv pv c g d b e i W) (a:Below W.heap.size W W'):ZAr w f rv pv c g d b e i W':=
 ⟨h.lg.keep (a.block _ h.lg.lt),h.sn.keep (a.block _ h.sn.lt),h.ol.keep (a.block _ h.ol.lt),h.os.keep (a.block _ h.os.lt),h.old.trans (a.mono h.old.size)⟩
theorem ZAr.lc (h:ZAr w f rv pv b e d a c g W):W.cell? ⟨w.heap.size,0,none⟩=some (.int .i64 f)∧W.cell? ⟨w.heap.size,1,none⟩=some rv∧W.cell? ⟨w.heap.size,2,none⟩=some pv:=
 ⟨(h.lg.cell 0 rfl).1,(h.lg.cell 1 rfl).1,(h.lg.cell 2 rfl).1⟩
theorem ZAr.sc (h:ZAr w f rv pv b e d a c g W):
 W.cell? ⟨w.heap.size+1,0,none⟩=some b∧W.cell? ⟨w.heap.size+1,1,none⟩=some e∧W.cell? ⟨w.heap.size+1,2,none⟩=some d∧W.cell? ⟨w.heap.size+1,3,none⟩=some a∧W.cell? ⟨w.heap.size+1,4,none⟩=some c∧W.cell? ⟨w.heap.size+1,5,none⟩=some g:=
 ⟨(h.sn.cell 0 rfl).1,(h.sn.cell 1 rfl).1,(h.sn.cell 2 rfl).1,(h.sn.cell 3 rfl).1,(h.sn.cell 4 rfl).1,(h.sn.cell 5 rfl).1⟩
def ZqP (w:World) (C:Nat) (k:Nat):Prop:=(k=w.heap.size+2∨k=w.heap.size+3)∨(w.heap.size+4<=k∧k<C)
theorem ZqP.more {k:Nat} (h:ZqP w 0 k):ZqP w C k:=by
 rcases h with h | h
 ·exact .inl h
 ·omega
theorem ZzZ (w W:World) (c a:Nat) (l:c=w.heap.size+2) (m:a=w.heap.size+3) (g p e h i j f k n:Value):Zap (ZqP w 0) W (((((((((W.setCell ⟨c,0,none⟩ g).setCell ⟨c,1,none⟩ p).setCell ⟨c,2,none⟩ e).setCell ⟨a,0,none⟩ h).setCell ⟨a,1,none⟩ i).setCell ⟨a,2,none⟩ j).setCell ⟨a,3,none⟩ f).setCell ⟨a,4,none⟩ k).setCell ⟨a,5,none⟩ n):=by
 have d:ZqP w 0 c:=.inl (.inl l);have b:ZqP w 0 a:=.inl (.inr m);exact(((((((((Zap.refl _ _).setCell _ (fun _=>d) _).setCell _ (fun _=>d) _).setCell _ (fun _=>d) _).setCell _ (fun _=>b) _).setCell _ (fun _=>b) _).setCell _ (fun _=>b) _).setCell _ (fun _=>b) _).setCell _ (fun _=>b) _).setCell _ (fun _=>b) _
theorem ZoO (w W:World) (b a:Nat) (I:b=w.heap.size+2) (H:a=w.heap.size+3) {E C B z x y D v G:Value} (F:Bk 73 W b #[E,C,B]) (A:Bk 41 W a #[z,x,y,D,v,G]) (f h i j d e k l g:Value):
 ∃ c,c=(((((((((W.setCell ⟨b,0,none⟩ f).setCell ⟨b,1,none⟩ h).setCell ⟨b,2,none⟩ i).setCell ⟨a,0,none⟩ j).setCell ⟨a,1,none⟩ d).setCell ⟨a,2,none⟩ e).setCell ⟨a,3,none⟩ k).setCell ⟨a,4,none⟩ l).setCell ⟨a,5,none⟩ g).drew∧Zap (ZqP w 0) W c∧(c.cell? ⟨b,0,none⟩=some f∧c.cell? ⟨b,1,none⟩=some h∧c.cell? ⟨b,2,none⟩=some i)∧(c.cell? ⟨a,0,none⟩=some j∧c.cell? ⟨a,1,none⟩=some d∧c.cell? ⟨a,2,none⟩=some e∧c.cell? ⟨a,3,none⟩=some k∧c.cell? ⟨a,4,none⟩=some l∧c.cell? ⟨a,5,none⟩=some g):=by
 have m:b≠a:=by omega
 have u:Bk 73 (((((((((W.setCell ⟨b,0,none⟩ f).setCell ⟨b,1,none⟩ h).setCell ⟨b,2,none⟩ i).setCell ⟨a,0,none⟩ j).setCell ⟨a,1,none⟩ d).setCell ⟨a,2,none⟩ e).setCell ⟨a,3,none⟩ k).setCell ⟨a,4,none⟩ l).setCell ⟨a,5,none⟩ g) b #[f,h,i]:=((((((((F.set 0 f).set 1 h).set 2 i).other a 0 j m).other a 1 d m).other a 2 e m).other a 3 k m).other a 4 l m).other a 5 g m;have t:Bk 41 (((((((((W.setCell ⟨b,0,none⟩ f).setCell ⟨b,1,none⟩ h).setCell ⟨b,2,none⟩ i).setCell ⟨a,0,none⟩ j).setCell ⟨a,1,none⟩ d).setCell ⟨a,2,none⟩ e).setCell ⟨a,3,none⟩ k).setCell ⟨a,4,none⟩ l).setCell ⟨a,5,none⟩ g) a #[j,d,e,k,l,g]:=(((((((((A.other b 0 f m.symm).other b 1 h m.symm).other b 2 i m.symm).set 0 j).set 1 d).set 2 e).set 3 k).set 4 l).set 5 g);have n:=ZzZ w W b a I H f h i j d e k l g
 revert u t n
 generalize (((((((((W.setCell ⟨b,0,none⟩ f).setCell ⟨b,1,none⟩ h).setCell ⟨b,2,none⟩ i).setCell ⟨a,0,none⟩ j).setCell ⟨a,1,none⟩ d).setCell ⟨a,2,none⟩ e).setCell ⟨a,3,none⟩ k).setCell ⟨a,4,none⟩ l).setCell ⟨a,5,none⟩ g)=Y;intro u t n;have q:Bk 73 Y.drew b #[f,h,i]:=u;have p:Bk 41 Y.drew a #[j,d,e,k,l,g]:=t;exact⟨Y.drew,rfl,⟨n.os,n.tape,n.output,n.size,n.block⟩,⟨(q.cell 0 rfl).1,(q.cell 1 rfl).1,(q.cell 2 rfl).1⟩,(p.cell 0 rfl).1,(p.cell 1 rfl).1,(p.cell 2 rfl).1,(p.cell 3 rfl).1,(p.cell 4 rfl).1,(p.cell 5 rfl).1⟩
theorem ZnD (c:Below w.heap.size w W) (b:w.heap.size<=W.heap.size) (a:Zap (ZqP w C) W W'):Below w.heap.size w W':=
 c.trans (a.below b fun k hk=>by
  rcases hk with hk | hk
  ·omega
  ·omega)
theorem ZBl (W:World) (R:Nat) (c f e b d g:Value) (G:Nat->Prop) (a:G R):Zap G W ((((((W.setCell ⟨R,0,none⟩ c).setCell ⟨R,1,none⟩ f).setCell ⟨R,2,none⟩ e).setCell ⟨R,3,none⟩ b).setCell ⟨R,4,none⟩ d).setCell ⟨R,5,none⟩ g):=
 ((((((Zap.refl G W).setCell 0 (fun _=>a) c).setCell 1 (fun _=>a) f).setCell 2 (fun _=>a) e).setCell 3 (fun _=>a) b).setCell 4 (fun _=>a) d).setCell 5 (fun _=>a) g
theorem ZCy (a:World) (X:Obj):a.heap.size<(a.alloc X).drew.heap.size:=by
 have:(a.alloc X).drew.heap.size=a.heap.size+1:=by simp[World.drew]
 omega
theorem ZBm (a:World) (cs:Array Value) (b:World) (d:Below (a.alloc (.cells cs 41)).drew.heap.size (a.alloc (.cells cs 41)).drew b):Bk 41 b a.heap.size cs:=by
 have c:Bk 41 (a.alloc (.cells cs 41)).drew a.heap.size cs:=heap_alloc_new a _;exact c.keep (d.block _ c.lt)
theorem ZqQ {B:Nat} {a:World} (h:Below B a W) (R:Nat) (b:B<=R) (e i g c f d:Value):Below B a ((((((W.setCell ⟨R,0,none⟩ e).setCell ⟨R,1,none⟩ i).setCell ⟨R,2,none⟩ g).setCell ⟨R,3,none⟩ c).setCell ⟨R,4,none⟩ f).setCell ⟨R,5,none⟩ d):=
 (((((h.setCell (p:=⟨R,0,none⟩) b e).setCell (p:=⟨R,1,none⟩) b i).setCell (p:=⟨R,2,none⟩) b g).setCell (p:=⟨R,3,none⟩) b c).setCell (p:=⟨R,4,none⟩) b f).setCell (p:=⟨R,5,none⟩) b d
set_option maxHeartbeats 4000000 in
theorem ZvP (I:Nat->Prop) (g:Lgb) (rv pv:Value) (x:ZaW × Value × Value) (w:World) (hr:Zbq w 0 rv g.recs) (hp:w.ownsRow 0 108 3 pv g.pcs.length (Zau g.pcs)) (hx:SnR w x) (hi:ZoR I x) (bl:∀ k,I k->k<w.heap.size) (aK:OkG g) (hs:SnS x.1) (bc:g.recs.length<=9000000) (bp:g.pcs.length<=900000):
 Calls prog 36 #[.agg #[.int .i64 g.first,rv,pv],snV x] w fun e w'=>ZfE I w rv pv (g.behind x.1) e w':=by
 obtain⟨D,C,bq⟩:=hr.shape;obtain⟨U,X,bA⟩:=ZbW hp;obtain⟨H,M,lc,N,K,F,a4,a5⟩:=hx.shape;have aR:Hid (snV x=.agg #[.int .i64 x.1.idx,.int .i64 x.1.st.kind,.slice H M lc,.bool x.1.st.shut,.int .i64 x.1.st.eng,.slice N K F]):=ZZ (by unfold snV snC;rw[a4,a5])
 have bm:=aK.f0;have bo:=aK.top;have a2:=ZZ (hr.rd aK.recOk)
 have aO:Hid (¬ g.leads x.1->∀ W W',Below w.heap.size w W->Zap (ZqP w 0) W W'->ZfE I w rv pv (g.behind x.1) (.returned (.tuple #[.agg #[.int .i64 x.1.idx,.slice none 0 0,.slice none 0 0],.agg #[.int .i64 x.1.idx,.int .i64 x.1.st.kind,.slice H M lc,.bool x.1.st.shut,.int .i64 x.1.st.eng,.slice N K F]])) W'):=ZZ (fun hn W W' Y ho=>by
  have ap:=ZnD Y Y.size ho;unfold Lgb.behind;rw[if_neg hn]
  refine⟨_,_,x.2.1,x.2.2,by rw[<-aR.o],Zbq.nil _ _,World.ownsRow_nil _ _ _ _,.inr rfl,.inr rfl,hx.below ap zL,hi.mono (fun k hk=>.inl hk),ap⟩)
 have aJ:Hid (g.leads x.1->∀ (W t W':World) (vx vu:Value),Below w.heap.size w W->w.heap.size+4<=W.heap.size->RdI t vx (ZaQ x.1 (g.recs.drop (x.1.idx-g.first).toNat)).1.st.L->RdE t vu (ZaQ x.1 (g.recs.drop (x.1.idx-g.first).toNat)).1.tab->I64 (ZaQ x.1 (g.recs.drop (x.1.idx-g.first).toNat)).1.st.kind->I64 (ZaQ x.1 (g.recs.drop (x.1.idx-g.first).toNat)).1.st.eng->I64 (ZaQ x.1 (g.recs.drop (x.1.idx-g.first).toNat)).1.idx->
  ZoR (fun k=>I k∨(W.heap.size<=k∧k<t.heap.size)) ((ZaQ x.1 (g.recs.drop (x.1.idx-g.first).toNat)).1,vx,vu)->Below W.heap.size W t->(∃ Z,Below t.heap.size t Z∧Zap (ZqP w W.heap.size) Z W')->
  ZfE I w rv pv (g.behind x.1) (.returned (.tuple #[.agg #[.int .i64 g.first,rv,pv],.agg #[.int .i64 (ZaQ x.1 (g.recs.drop (x.1.idx-g.first).toNat)).1.idx,.int .i64 (ZaQ x.1 (g.recs.drop (x.1.idx-g.first).toNat)).1.st.kind,vx,.bool (ZaQ x.1 (g.recs.drop (x.1.idx-g.first).toNat)).1.st.shut,.int .i64 (ZaQ x.1 (g.recs.drop (x.1.idx-g.first).toNat)).1.st.eng,vu]])) W'):=ZZ (fun hn W t W' vx vu Y bS k1 k2 k3 k4 k5 k6 aX ⟨Z,aA,ho⟩=>by
  have aM:Below w.heap.size w t:=Y.trans (aX.mono Y.size);have bb:Below w.heap.size w Z:=aM.trans (aA.mono aM.size);have ap:=ZnD bb bb.size ho;have bL:=aX.size;have bO:=aA.size;have bH:=ho.size
  have bu:∀ k,(I k∨(W.heap.size<=k∧k<t.heap.size))->W'.heap[k]?=t.heap[k]?:=fun k hk=>by
   have a3:k<t.heap.size∧¬ ZqP w W.heap.size k:=by
    rcases hk with hk | hk
    ·have:=bl k hk
     refine⟨by have:=aM.size;omega,fun h=>?_⟩
     rcases h with h | h <;> omega
    ·refine⟨hk.2,fun h=>?_⟩
     rcases h with h | h <;> omega
   rw[ho.block k (by omega) a3.2,aA.block k a3.1]
  have hS:SnR t ((ZaQ x.1 (g.recs.drop (x.1.idx-g.first).toNat)).1,vx,vu):=⟨k1,k2,k3,k4,k5⟩;unfold Lgb.behind;rw[if_pos hn]
  exact⟨rv,pv,vx,vu,rfl,hr.below ap zL,Zae hp (fun k hk=>ap.block k (World.ownsRow.lt hp k hk).2),.inl rfl,.inl rfl,hS.keep k6 bu,k6.mono (fun k hk=>hk.imp id (fun h=>⟨by have:=Y.size;omega,by omega⟩)),ap⟩)
 have an:=ZZ (And.intro hx (And.intro hi hs));obtain⟨E,au⟩:∃ E,E=(((w.alloc (.cells #[.int .i64 g.first,.slice D g.recs.length C,.slice U g.pcs.length X] 73)).alloc (.cells #[.int .i64 x.1.idx,.int .i64 x.1.st.kind,.slice H M lc,.bool x.1.st.shut,.int .i64 x.1.st.eng,.slice N K F] 41)).alloc (.cells #[.int .i64 0,.slice none 0 0,.slice none 0 0] 73)).alloc (.cells #[.int .i64 0,.int .i64 0,.slice none 0 0,.bool false,.int .i64 0,.slice none 0 0] 41):=⟨_,rfl⟩;have bN:E.heap.size=w.heap.size+4:=by rw[au];simp
 have ac:Hid (ZAr w g.first (.slice D g.recs.length C) (.slice U g.pcs.length X) (.int .i64 x.1.idx) (.int .i64 x.1.st.kind) (.slice H M lc) (.bool x.1.st.shut) (.int .i64 x.1.st.eng) (.slice N K F) E):=ZZ (by
  rw[au];refine⟨?_,?_,?_,?_,(((Below.refl _ _).alloc zL _).alloc (by simp) _).alloc (by simp;omega) _ |>.alloc (by simp;omega) _⟩
  ·exact(Below.heap_alloc _ _ _ (by simp;omega)).trans ((Below.heap_alloc _ _ _ (by simp;omega)).trans ((Below.heap_alloc _ _ _ (by simp)).trans (heap_alloc_new w _)))
  ·exact(Below.heap_alloc _ _ _ (by simp)).trans ((Below.heap_alloc _ _ _ (by simp)).trans (Zhc w _ _))
  ·exact(Below.heap_alloc _ _ _ (by simp)).trans (ZCa w _ _ _)
  ·exact ZCb w _ _ _ _)
 obtain⟨⟨a,⟨kd,LL,G,J⟩,tb⟩,bJ,bI⟩:=x
 dsimp only at *
 subst a4 a5;obtain⟨c,aC⟩:∃ c,c=ZaQ ⟨a,⟨kd,LL,G,J⟩,tb⟩ (g.recs.drop (a-g.first).toNat):=⟨_,rfl⟩;rw[<-aC] at aJ;have aU:=ZZ aC
 have aN:Hid (g.leads ⟨a,⟨kd,LL,G,J⟩,tb⟩↔(g.pcs.length≠0∧g.first<=a∧a<=g.first+(g.recs.length:Int))∧c.2=0):=ZZ (by
  unfold Lgb.leads;rw[aC,and_assoc,and_assoc]
  exact Iff.rfl)
 rw[aR.o];subst bq bA;obtain⟨R,hR⟩:∃ R,R=g.behind ⟨a,⟨kd,LL,G,J⟩,tb⟩:=⟨_,rfl⟩;rw[<-hR] at aO aJ ⊢;have bk:=ZZ (And.intro bc hr);have bv:(g.recs.length:Int)<=9000000:=by omega
 have bC:(g.pcs.length:Int)<=900000:=by omega
 have bD:g.first+(g.recs.length:Int)<=4611686018427387904:=bo
 have aG:Hid (∀ (n1:Nat) (Q:Option Addr) (O:Nat) (W:World),Below E.heap.size E W->RdR w (.slice Q n1 O) (g.recs.drop (a-g.first).toNat)->Calls prog 15 #[.agg #[.int .i64 a,.int .i64 kd,.slice H M lc,.bool G,.int .i64 J,.slice N K F],.slice Q n1 O] W fun e w'=>∃ n y p j z q,e=.returned (.tuple #[.agg #[.int .i64 c.1.idx,.int .i64 c.1.st.kind,.slice n y p,.bool c.1.st.shut,.int .i64 c.1.st.eng,.slice j z q],.int .i64 c.2])∧Hid (Below W.heap.size W w')∧Hid (c.2=0->∀ W',(∃ Z,Below w'.heap.size w' Z∧Zap (ZqP w W.heap.size) Z W')->(g.pcs.length≠0∧g.first<=a∧a<=g.first+(g.recs.length:Int))->ZfE I w (.slice D g.recs.length C) (.slice U g.pcs.length X) R (.returned (.tuple #[.agg #[.int .i64 g.first,.slice D g.recs.length C,.slice U g.pcs.length X],.agg #[.int .i64 c.1.idx,.int .i64 c.1.st.kind,.slice n y p,.bool c.1.st.shut,.int .i64 c.1.st.eng,.slice j z q]])) W')):=ZZ (fun n1 Q O W hW aY=>by
  have aZ:Below w.heap.size w W:=ac.o.old.trans (hW.mono ac.o.old.size);have bG:=hW.size;have bg:=an.o.1.below aZ zL;have bx:=bg.snV;have hL:LL.length<=1000:=by have:=ZrP an.o.2.2.1;exact Nat.le_trans this (by decide)
  have hT:tb.length<=1000:=by have:=an.o.2.2.2.few;exact Nat.le_trans this (by decide)
  refine(ZpU (P:=SnS) (fun S r hS hf=>hS.next hf) (fun S hS=>by have:=hS.2.few;omega) _ _ _ _ _ _ ⟨a,⟨kd,LL,G,J⟩,tb⟩ _ _ W bx (aY.below aZ zL) hL hT (by rw[List.length_drop];have:=bk.o.1;omega) an.o.2.2).mono ?_
  rw[<-aU.o];rintro e w' ⟨vx,vu,rfl,r1,r2,r3,r4,r5,g1,g2,Y⟩;have aE:=ZkZ.inside (x:=(⟨a,⟨kd,LL,G,J⟩,tb⟩,.slice H M lc,.slice N K F)) (l:=g.recs.drop (a-g.first).toNat) bg an.o.2.1 r1 g1 g2 (fun hl=>by rw[aU.o,hl];rfl)
  obtain⟨n,p,br,-⟩:=id r1;obtain⟨j,q,hu⟩:=r4.shape;have HP:=fun h0 hc=>aJ.o (aN.o.2 ⟨hc,h0⟩) W w'
  subst br hu
  exact⟨n,_,p,j,_,q,rfl,ZZ Y,ZZ (fun h0 W' aL hc=>HP h0 hc W' _ _ aZ (by omega) r1 r4 r2 r3 r5 aE Y aL)⟩)
 obtain⟨Q,O,a6,bh⟩:∃ Q O,(g.first<=a->a<=g.first+(g.recs.length:Int)->RdR w (.slice Q (g.recs.drop (a-g.first).toNat).length O) (g.recs.drop (a-g.first).toNat))∧(g.first<=a->a<=g.first+(g.recs.length:Int)->∀ W,(Instr.sliceAt 29 (.slice D g.recs.length C) (some (.int .i64 (a-g.first))) none none).run prog W=.ok (.slice Q (g.recs.drop (a-g.first).toNat).length O) W):=by
  by_cases aE:g.first<=a∧a<=g.first+(g.recs.length:Int)
  ·obtain⟨Q,O,h1,h2⟩:=Zxr w D g.recs C a2.o (a-g.first).toNat (by omega)
   exact⟨Q,O,fun _ _=>h1,fun _ _=>h2 _ (by omega)⟩
  ·exact⟨none,0,fun h1 h2=>absurd ⟨h1,h2⟩ aE,fun h1 h2=>absurd ⟨h1,h2⟩ aE⟩
 have aV:=ZZ a6;have aH:=ZZ bh;clear a6 bh;have aj:Hid (¬ ((g.pcs.length≠0∧g.first<=a∧a<=g.first+(g.recs.length:Int))∧c.2=0)->∀ W W',Below w.heap.size w W->Zap (ZqP w 0) W W'->ZfE I w (.slice D g.recs.length C) (.slice U g.pcs.length X) R (.returned (.tuple #[.agg #[.int .i64 a,.slice none 0 0,.slice none 0 0],.agg #[.int .i64 a,.int .i64 kd,.slice H M lc,.bool G,.int .i64 J,.slice N K F]])) W'):=ZZ (fun hn=>aO.o (fun h=>hn (aN.o.1 h)))
 have aW:Hid (∀ W,Below E.heap.size E W->Calls prog 38 #[.pointer (some ⟨w.heap.size,0,none⟩)] W fun e w'=>e=.returned (.int .i64 (g.first+(g.recs.length:Int)))∧Below E.heap.size E w'):=ZZ (fun W hW=>by
  obtain⟨l0,l1,l2⟩:=(ac.o.below hW).lc;refine(Zoo w.heap.size 0 g.first D g.recs.length C W l0 l1 bm (by omega)).mono ?_
  rintro e w' ⟨rfl,Y⟩
  exact⟨rfl,hW.trans (Y.mono hW.size)⟩)
 obtain⟨n1,be⟩:∃ n1,n1=(g.recs.drop (a-g.first).toNat).length:=⟨_,rfl⟩;rw[<-be] at aV aH;obtain⟨u,ag⟩:∃ u,u=g.recs.length:=⟨_,rfl⟩;obtain⟨A,ao⟩:∃ A,A=g.pcs.length:=⟨_,rfl⟩;obtain⟨d,af⟩:∃ d,d=g.first:=⟨_,rfl⟩
 replace aG:=ZZ (fun Q O W hW aY=>aG.o n1 Q O W hW aY)
 have aQ:Hid (d<=a->a<=d+(u:Int)->∀ W,Below E.heap.size E W->Calls prog 15 #[.agg #[.int .i64 a,.int .i64 kd,.slice H M lc,.bool G,.int .i64 J,.slice N K F],.slice Q n1 O] W fun e w'=>∃ n y p j z q,e=.returned (.tuple #[.agg #[.int .i64 c.1.idx,.int .i64 c.1.st.kind,.slice n y p,.bool c.1.st.shut,.int .i64 c.1.st.eng,.slice j z q],.int .i64 c.2])∧Hid (Below W.heap.size W w')∧Hid (c.2=0->∀ W',(∃ Z,Below w'.heap.size w' Z∧Zap (ZqP w W.heap.size) Z W')->(A≠0∧d<=a∧a<=d+(u:Int))->ZfE I w (.slice D u C) (.slice U A X) R (.returned (.tuple #[.agg #[.int .i64 d,.slice D u C,.slice U A X],.agg #[.int .i64 c.1.idx,.int .i64 c.1.st.kind,.slice n y p,.bool c.1.st.shut,.int .i64 c.1.st.eng,.slice j z q]])) W')):=ZZ (by
  rw[ag,ao,af]
  exact fun h1 h2 W hW=>aG.o Q O W hW (aV.o h1 h2))
 rw[<-ag,<-ao,<-af] at aj;rw[<-ag,<-af] at aW aH bD;rw[<-ag,<-ao,<-af] at ac au;rw[<-ag] at bv;rw[<-ao] at bC;rw[<-af] at bm;rw[<-ag,<-ao,<-af];clear aG aV aO aJ aN aU aC hR bc bp aK hs bo a2 an bk aR hr hp hx hi bl be ag ao af;obtain⟨Bc,a7⟩:∃ Bc:Bool,Bc=decide (A≠0∧d<=a∧a<=d+(u:Int)):=⟨_,rfl⟩;have ab:=ZZ a7;clear a7
 go_enter func36,ntmps36
 go_upto_region 1 with fail
 rw[<-au];clear au
 go_cut[24] (fun v wc=>v=.bool Bc∧Hid (Below E.heap.size E wc))
 case first=>
  obtain⟨ι,bK,V,hV,aT⟩:=Zqq E.heap.size E;have HV:=ZZ hV;obtain⟨i0,az⟩:=aT E.drew (Below.refl _ _).drew;have d0:∀ i,(V i).cell? ⟨w.heap.size,0,none⟩=some (.int .i64 d):=fun i=>(ac.o.below (HV.o i)).lc.1
  have d2:∀ i,(V i).cell? ⟨w.heap.size,2,none⟩=some (.slice U A X):=fun i=>(ac.o.below (HV.o i)).lc.2.2
  have e0:∀ i,(V i).cell? ⟨w.heap.size+1,0,none⟩=some (.int .i64 a):=fun i=>(ac.o.below (HV.o i)).sc.1
  have bd:Hid (∀ i,Calls prog 38 #[.pointer (some ⟨w.heap.size,0,none⟩)] (V i) fun e w'=>e=.returned (.int .i64 (d+(u:Int)))∧∃ m,w'=V m):=ZZ (fun i=>(aW.o (V i) (HV.o i)).mono fun e w' h=>⟨h.1,aT w' h.2⟩)
  clear hV aT;by_cases q1:A=0
  ·have bB:decide ((A:Int)>0)=false:=decide_eq_false (by omega)
   have bw:decide (0<A)=false:=decide_eq_false (by omega)
   have am:Bc=false:=by rw[ab.o];exact decide_eq_false (fun h=>h.1 q1)
   clear q1;refine ZbP V i0 (by kernel_rfl) (by kernel_rfl) az.symm ?_
   repeat (go_big_quiet_step (fail))
   refine wpQuiet_nil ?_;intro _ ai;obtain⟨nq,ae⟩:=ai;subst ae
   go_wp2_with fail
   go_meet
   exact⟨by rw[am],ZZ (HV.o _)⟩
  have bB:(A:Int)>0:=by omega
  have bw:0<A:=by omega
  by_cases q2:d<=a
  case neg=>
   have aX:decide (d<=a)=false:=decide_eq_false q2;have am:Bc=false:=by rw[ab.o];exact decide_eq_false (fun h=>q2 h.2.1)
   clear q1 q2;refine ZbP V i0 (by kernel_rfl) (by kernel_rfl) az.symm ?_
   repeat (go_big_quiet_step (fail))
   refine wpQuiet_nil ?_;intro _ ai;obtain⟨nq,ae⟩:=ai;subst ae
   go_wp2_with fail
   go_meet
   exact⟨by rw[am],ZZ (HV.o _)⟩
  by_cases q3:a<=d+(u:Int)
  ·have am:Bc=true:=by rw[ab.o];exact decide_eq_true ⟨q1,q2,q3⟩
   clear q1 ab;generalize d+(u:Int)=NX at *;refine ZbP V i0 (by kernel_rfl) (by kernel_rfl) az.symm ?_
   repeat (go_big_quiet_step ((go_at_call 38;exact bd.o _)))
   refine wpQuiet_nil ?_;intro _ ai;obtain⟨nq,ae⟩:=ai;subst ae
   go_wp2_with fail
   go_meet
   exact⟨by rw[am],ZZ (HV.o _)⟩
  ·have aA:decide (a<=d+(u:Int))=false:=decide_eq_false q3
   have am:Bc=false:=by rw[ab.o];exact decide_eq_false (fun h=>q3 h.2.2)
   clear q1 q3 ab;generalize d+(u:Int)=NX at *;refine ZbP V i0 (by kernel_rfl) (by kernel_rfl) az.symm ?_
   repeat (go_big_quiet_step ((go_at_call 38;exact bd.o _)))
   refine wpQuiet_nil ?_;intro _ ai;obtain⟨nq,ae⟩:=ai;subst ae
   go_wp2_with fail
   go_meet
   exact⟨by rw[am],ZZ (HV.o _)⟩
 case rest=>
 obtain⟨f,rfl⟩:∃ W,W=wc:=⟨_,rfl⟩;obtain⟨rfl,aI⟩:=hcut;clear aW;have B:=ZZ (ac.o.below aI.o)
 cases Bc with
 | false=>
  have bn:Hid (¬ ((A≠0∧d<=a∧a<=d+(u:Int))∧c.2=0)):=ZZ (fun h=>of_decide_eq_false ab.o.symm h.1)
  have ax:=ZZ (aj.o bn.o);clear aj bn aQ;obtain⟨l0,l1,l2⟩:=B.o.lc;obtain⟨s0,s1,s2,s3,s4,s5⟩:=B.o.sc;obtain⟨o0,p0⟩:=B.o.ol.cell 0 rfl;obtain⟨o1,p1⟩:=B.o.ol.cell 1 rfl;obtain⟨o2,p2⟩:=B.o.ol.cell 2 rfl;obtain⟨u0,v0⟩:=B.o.os.cell 0 rfl;obtain⟨u1,v1⟩:=B.o.os.cell 1 rfl;obtain⟨u2,v2⟩:=B.o.os.cell 2 rfl;obtain⟨u3,v3⟩:=B.o.os.cell 3 rfl;obtain⟨u4,v4⟩:=B.o.os.cell 4 rfl;obtain⟨u5,v5⟩:=B.o.os.cell 5 rfl
  go_upto_region 5 with fail
  go_region
  obtain⟨XX,ad,aw,⟨k0,k1,k2⟩,k3,k4,k5,k6,k7,k8⟩:=ZoO w f (w.heap.size+1+1) (w.heap.size+1+1+1) rfl rfl B.o.ol B.o.os (.int .i64 a) (.slice none 0 0) (.slice none 0 0) (.int .i64 a) (.int .i64 kd) (.slice H M lc) (.bool G) (.int .i64 J) (.slice N K F);have ar:=ZZ ad;clear ad;go_wp2;rw[<-ar.o];refine bodyPost_ret (v:=.tuple #[.agg #[.int .i64 a,.slice none 0 0,.slice none 0 0],.agg #[.int .i64 a,.int .i64 kd,.slice H M lc,.bool G,.int .i64 J,.slice N K F]]) (by simp[results,Tryz.results36,go_sem,k0,k1,k2,k3,k4,k5,k6,k7,k8]) rfl ?_
  exact ax.o f _ B.o.old aw
 | true=>
  have hc:=of_decide_eq_true ab.o.symm;have bt:=ZZ hc;obtain⟨bQ,a0,a9⟩:=hc;have hcut:=aH.o a0 a9;have a8:=ZZ (aQ.o a0 a9);have hw:IntKind.i64.wrap (a-d)=a-d:=by rw[IntKind.wrap_i64];omega
  have bF:-9223372036854775808<=a-d:=by omega
  have bT:a-d<=9223372036854775807:=by omega
  obtain⟨l0,l1,l2⟩:=B.o.lc;obtain⟨s0,s1,s2,s3,s4,s5⟩:=B.o.sc;clear aQ aH ab;have HE:Hid (∀ args w,(callFunc 15 args).run prog w=.ok (.enter 15 args) w):=ZZ (enters_of func15 (by kernel_rfl) rfl)
  have aB:Hid (∀ W,Below f.heap.size f W->Calls prog 15 #[.agg #[.int .i64 a,.int .i64 kd,.slice H M lc,.bool G,.int .i64 J,.slice N K F],.slice Q n1 O] W fun e w'=>∃ v',e=.returned v'∧∃ n y p j z q,v'=.tuple #[.agg #[.int .i64 c.1.idx,.int .i64 c.1.st.kind,.slice n y p,.bool c.1.st.shut,.int .i64 c.1.st.eng,.slice j z q],.int .i64 c.2]∧Hid (Below W.heap.size W w')∧Hid (c.2=0->∀ W',(∃ Z,Below w'.heap.size w' Z∧Zap (ZqP w W.heap.size) Z W')->ZfE I w (.slice D u C) (.slice U A X) R (.returned (.tuple #[.agg #[.int .i64 d,.slice D u C,.slice U A X],.agg #[.int .i64 c.1.idx,.int .i64 c.1.st.kind,.slice n y p,.bool c.1.st.shut,.int .i64 c.1.st.eng,.slice j z q]])) W')):=ZZ (fun W hW=>by
   refine(a8.o W (aI.o.trans (hW.mono aI.o.size))).mono ?_;rintro e w' ⟨n,y,p,j,z,q,rfl,Y,hf⟩
   exact⟨_,rfl,n,y,p,j,z,q,rfl,Y,ZZ (fun h0 W' aL=>hf.out h0 W' aL bt.o)⟩)
  clear a8
  have aq:Hid (∀ W,Below f.heap.size f W->(W.cell? ⟨w.heap.size+1,0,none⟩=some (.int .i64 a)∧W.cell? ⟨w.heap.size+1,1,none⟩=some (.int .i64 kd)∧W.cell? ⟨w.heap.size+1,2,none⟩=some (.slice H M lc)∧W.cell? ⟨w.heap.size+1,3,none⟩=some (.bool G)∧W.cell? ⟨w.heap.size+1,4,none⟩=some (.int .i64 J)∧W.cell? ⟨w.heap.size+1,5,none⟩=some (.slice N K F)∧W.cell? ⟨w.heap.size,0,none⟩=some (.int .i64 d)∧W.cell? ⟨w.heap.size,1,none⟩=some (.slice D u C))):=ZZ (fun W h=>by
   obtain⟨g0,g1,g2⟩:=(B.o.below h).lc;obtain⟨e0,e1,e2,e3,e4,e5⟩:=(B.o.below h).sc
   exact⟨e0,e1,e2,e3,e4,e5,g0,g1⟩)
  obtain⟨T1,bf⟩:∃ T1,T1=c.1.idx:=⟨_,rfl⟩;obtain⟨T2,bi⟩:∃ T2,T2=c.1.st.kind:=⟨_,rfl⟩;obtain⟨T3,bj⟩:∃ T3,T3=c.1.st.shut:=⟨_,rfl⟩;obtain⟨T4,ba⟩:∃ T4,T4=c.1.st.eng:=⟨_,rfl⟩;obtain⟨T5,aP⟩:∃ T5,T5=c.2:=⟨_,rfl⟩;rw[<-bf,<-bi,<-bj,<-ba,<-aP] at aB;rw[<-aP] at aj;clear bf bi bj ba aP;have aD:Hid (Below f.heap.size f f.drew):=ZZ (Below.refl _ _).drew;have av:Hid (Below f.heap.size f (f.alloc (.cells #[.int .i64 0,.int .i64 0,.slice none 0 0,.bool false,.int .i64 0,.slice none 0 0] 41)).drew):=ZZ ((Below.refl _ _).alloc zL _).drew;have aS:Hid (w.heap.size+4<=f.heap.size):=ZZ (by have:=aI.o.size;omega)
  clear l0 l1 l2 s0 s1 s2 s3 s4 s5
  go_upto_region 2 with fail
  go_cut[6,7] (fun v6 v7 wc=>∃ (b:Nat) (n:Option Addr) (y p:Nat) (j:Option Addr) (z q:Nat),v6=.pointer (some ⟨b,0,none⟩)∧v7=.int .i64 T5∧Hid (w.heap.size+4<=b)∧Hid (Bk 41 wc b #[.int .i64 T1,.int .i64 T2,.slice n y p,.bool T3,.int .i64 T4,.slice j z q])∧Hid (Below f.heap.size f wc)∧
   Hid (T5=0->∀ W',Zap (ZqP w 0) wc W'->ZfE I w (.slice D u C) (.slice U A X) R (.returned (.tuple #[.agg #[.int .i64 d,.slice D u C,.slice U A X],.agg #[.int .i64 T1,.int .i64 T2,.slice n y p,.bool T3,.int .i64 T4,.slice j z q]])) W'))
  case first=>
   go_region_held2(fun W=>W.cell? ⟨w.heap.size+1,0,none⟩=some (.int .i64 a)∧W.cell? ⟨w.heap.size+1,1,none⟩=some (.int .i64 kd)∧W.cell? ⟨w.heap.size+1,2,none⟩=some (.slice H M lc)∧W.cell? ⟨w.heap.size+1,3,none⟩=some (.bool G)∧W.cell? ⟨w.heap.size+1,4,none⟩=some (.int .i64 J)∧W.cell? ⟨w.heap.size+1,5,none⟩=some (.slice N K F)∧W.cell? ⟨w.heap.size,0,none⟩=some (.int .i64 d)∧W.cell? ⟨w.heap.size,1,none⟩=some (.slice D u C))
    (first | (with_reducible exact aq.o _ aD.o) | (with_reducible exact aq.o _ av.o) | (with_reducible exact aq.o _ aa.o) | (with_reducible exact aq.o _ (ZqQ aa.o _ zL _ _ _ _ _ _)) | (with_reducible exact aq.o _ (aa.o.alloc aa.o.size _)))
    (first
     | ((with_reducible refine Zbp 15 _ _ rfl rfl #[.agg #[.int .i64 a,.int .i64 kd,.slice H M lc,.bool G,.int .i64 J,.slice N K F],.slice Q n1 O] (by simp[Act.eval]) HE.o (aB.o f.drew aD.o) ?_);rintro v' t ⟨n,y,p,j,z,q,rfl,aF,ah⟩;have aa:Hid (Below f.heap.size f t):=ZZ (aD.o.trans aF.o))
     | ((with_reducible refine Zbp 15 _ _ rfl rfl #[.agg #[.int .i64 a,.int .i64 kd,.slice H M lc,.bool G,.int .i64 J,.slice N K F],.slice Q n1 O] (by simp[Act.eval]) HE.o (aB.o (f.alloc (.cells #[.int .i64 0,.int .i64 0,.slice none 0 0,.bool false,.int .i64 0,.slice none 0 0] 41)).drew av.o) ?_);rintro v' t ⟨n,y,p,j,z,q,rfl,aF,ah⟩;have aa:Hid (Below f.heap.size f t):=ZZ (av.o.trans (aF.o.mono av.o.size));have al:Hid (Bk 41 t f.heap.size #[.int .i64 0,.int .i64 0,.slice none 0 0,.bool false,.int .i64 0,.slice none 0 0]):=ZZ (ZBm f _ t aF.o);obtain⟨z0,y0⟩:=al.o.cell 0 rfl;obtain⟨z1,y1⟩:=al.o.cell 1 rfl;obtain⟨z2,y2⟩:=al.o.cell 2 rfl;obtain⟨z3,y3⟩:=al.o.cell 3 rfl;obtain⟨z4,y4⟩:=al.o.cell 4 rfl;obtain⟨z5,y5⟩:=al.o.cell 5 rfl))
   all_goals
    go_wp2_with fail
    go_meet
    first
     | exact⟨_,n,y,p,j,z,q,rfl,rfl,aS,ZZ ((((((al.o.set 0 _).set 1 _).set 2 _).set 3 _).set 4 _).set 5 _),ZZ (ZqQ aa.o _ zL _ _ _ _ _ _),ZZ (fun h0 W' ho=>ah.o h0 W' ⟨_,Below.refl _ _,(ZBl t f.heap.size _ _ _ _ _ _ (fun k=>ZqP w (f.alloc (.cells #[.int .i64 0,.int .i64 0,.slice none 0 0,.bool false,.int .i64 0,.slice none 0 0] 41)).drew.heap.size k) (.inr ⟨aS.o,ZCy f _⟩)).trans (ho.mono (fun k hk=>hk.more)) (fun _ _ h=>h)⟩)⟩
     | exact⟨_,n,y,p,j,z,q,rfl,rfl,ZZ (Nat.le_trans aS.o aa.o.size),ZZ (heap_alloc_new t _),ZZ (aa.o.alloc aa.o.size _),ZZ (fun h0 W' ho=>ah.o h0 W' ⟨_,ZcW t _,ho.mono (fun k hk=>hk.more)⟩)⟩
  case rest=>
  obtain⟨b,n,y,p,j,z,q,rfl,rfl,ay,ak,bz,ah⟩:=hcut;obtain⟨WC,rfl⟩:∃ W,W=wc:=⟨_,rfl⟩;have T:=ZZ (B.o.below bz.o);clear aB aq aD av HE hcut;obtain⟨l0,l1,l2⟩:=T.o.lc;obtain⟨s0,s1,s2,s3,s4,s5⟩:=T.o.sc;obtain⟨o0,p0⟩:=T.o.ol.cell 0 rfl;obtain⟨o1,p1⟩:=T.o.ol.cell 1 rfl;obtain⟨o2,p2⟩:=T.o.ol.cell 2 rfl;obtain⟨u0,v0⟩:=T.o.os.cell 0 rfl;obtain⟨u1,v1⟩:=T.o.os.cell 1 rfl;obtain⟨u2,v2⟩:=T.o.os.cell 2 rfl;obtain⟨u3,v3⟩:=T.o.os.cell 3 rfl;obtain⟨u4,v4⟩:=T.o.os.cell 4 rfl;obtain⟨u5,v5⟩:=T.o.os.cell 5 rfl;by_cases hT:T5=0
  case neg=>
   have bE:(T5 == 0)=false:=beq_eq_false_iff_ne.2 hT;have ax:=ZZ (aj.o (fun h=>hT h.2))
   clear aj ah ak hT
   go_upto_region 5 with fail
   go_region
   obtain⟨XX,ad,aw,⟨k0,k1,k2⟩,k3,k4,k5,k6,k7,k8⟩:=ZoO w WC (w.heap.size+1+1) (w.heap.size+1+1+1) rfl rfl T.o.ol T.o.os (.int .i64 a) (.slice none 0 0) (.slice none 0 0) (.int .i64 a) (.int .i64 kd) (.slice H M lc) (.bool G) (.int .i64 J) (.slice N K F);have ar:=ZZ ad;clear ad;go_wp2;rw[<-ar.o];refine bodyPost_ret (v:=.tuple #[.agg #[.int .i64 a,.slice none 0 0,.slice none 0 0],.agg #[.int .i64 a,.int .i64 kd,.slice H M lc,.bool G,.int .i64 J,.slice N K F]]) (by simp[results,Tryz.results36,go_sem,k0,k1,k2,k3,k4,k5,k6,k7,k8]) rfl ?_
   exact ax.o WC _ T.o.old aw
  have bE:(T5 == 0)=true:=by rw[beq_iff_eq];exact hT
  have ax:=ZZ (ah.o hT);obtain⟨x0,-⟩:=ak.o.cell 0 rfl;obtain⟨x1,-⟩:=ak.o.cell 1 rfl;obtain⟨x2,-⟩:=ak.o.cell 2 rfl;obtain⟨x3,-⟩:=ak.o.cell 3 rfl;obtain⟨x4,-⟩:=ak.o.cell 4 rfl;obtain⟨x5,-⟩:=ak.o.cell 5 rfl;have bP:¬ (b=w.heap.size+1+1):=by have:=ay.o;omega
  have bU:¬ (b=w.heap.size+1+1+1):=by have:=ay.o;omega
  have bM:¬ (w.heap.size+1+1=b):=by have:=ay.o;omega
  have bR:¬ (w.heap.size+1+1+1=b):=by have:=ay.o;omega
  clear aj ah hT s0 s1 s2 s3 s4 s5
  go_upto_region 4 with fail
  go_region
  obtain⟨XX,ad,aw,⟨k0,k1,k2⟩,k3,k4,k5,k6,k7,k8⟩:=ZoO w WC (w.heap.size+1+1) (w.heap.size+1+1+1) rfl rfl T.o.ol T.o.os (.int .i64 d) (.slice D u C) (.slice U A X) (.int .i64 T1) (.int .i64 T2) (.slice n y p) (.bool T3) (.int .i64 T4) (.slice j z q);have ar:=ZZ ad;clear ad;go_wp2;rw[<-ar.o];refine bodyPost_ret (v:=.tuple #[.agg #[.int .i64 d,.slice D u C,.slice U A X],.agg #[.int .i64 T1,.int .i64 T2,.slice n y p,.bool T3,.int .i64 T4,.slice j z q]]) (by simp[results,Tryz.results36,go_sem,k0,k1,k2,k3,k4,k5,k6,k7,k8]) rfl ?_
  exact ax.o _ aw
end Go.Proofs.YtnahjngbneicaaaGreatDoor
