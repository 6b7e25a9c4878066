import Derived.Test.YtnahjngbneicaaaGreatDoorStoreOpenM
namespace Go.Proofs.YtnahjngbneicaaaGreatDoor
open _root_.Go.Proofs.Tryz
set_option maxRecDepth 100000
open Go.RowKit
variable {W W' w:World} {a b c d e g pv rv:Value} {f:Int} {C:Nat}
theorem Zih.inside {w':World} {x:Q0 × Value × Value} {I:Nat->Prop} {l:List Rec} {r:Q0 × Int} (u:SnR w x) (hi:Zmp I x) (i:RdI w' c r.1.st.L) (g1:c=x.2.1∨∀ b,c.ownBlock=some b->w.heap.size<=b)
 (g2:(l=[]∧e=x.2.2)∨Xn w' w.heap.size e r.1.tab) (n:l=[]->r.1=x.1):Zmp (fun k=>I k∨(w.heap.size<=k∧k<w'.heap.size)) (r.1,c,e):=by
 refine⟨?_,?_⟩
 ·rcases i.block with p | ⟨v,k,f,q⟩
  ·exact .inl p
  ·rcases g1 with g1 | g1
   ·rcases hi.1 with hi | hi
    ·obtain⟨z,y,j,-⟩:=u.l
     obtain⟨A,B,d,-⟩:=i;rw[hi] at j;rw[g1,j] at d
     injection d with _ d _
     exact .inl (List.eq_nil_of_length_eq_zero (by rw[<-d];rfl))
    ·exact .inr fun g a=>.inl (hi g (by rw[<-g1];exact a))
   ·refine .inr fun g a=>.inr ⟨g1 g a,?_⟩
    have t:c.ownBlock=some g:=a;rw[t] at f;obtain rfl:=Option.some.inj f;exact q
 ·rcases g2 with ⟨m,g2⟩ | g2
  ·rcases hi.2 with hi | hi
   ·exact .inl (by show r.1.tab=[];rw[n m];exact hi)
   ·exact .inr fun g a=>.inl (hi g (by rw[<-g2];exact a))
  ·exact .inr fun g a=>.inr (World.ownsRow.lt g2 g a)
theorem ZzX (w:World) (X Y Z:Obj):(((w.alloc X).alloc Y).alloc Z).heap[w.heap.size+2]?=some Z:=by
 have h:=heap_alloc_new ((w.alloc X).alloc Y) Z;have e:((w.alloc X).alloc Y).heap.size=w.heap.size+2:=by simp
 rw[e] at h;exact h
theorem ZzY (w:World) (X Y Z U:Obj):((((w.alloc X).alloc Y).alloc Z).alloc U).heap[w.heap.size+3]?=some U:=by
 have h:=heap_alloc_new (((w.alloc X).alloc Y).alloc Z) U;have e:(((w.alloc X).alloc Y).alloc Z).heap.size=w.heap.size+3:=by simp
 rw[e] at h;exact h
def Zcq (I:Nat->Prop) (w:World) (rv pv:Value) (r:Lgb × Q0) (e:Ending) (w':World):Prop:=
 ∃ rv' pv' vl vt,e=.returned (.tuple #[.agg #[.int .i64 r.1.first,rv',pv'],snV (r.2,vl,vt)])∧Xj w' 0 rv' r.1.recs∧w'.ownsRow 0 108 3 pv' r.1.pcs.length (Q6 r.1.pcs)∧(rv'=rv∨rv'=.slice none 0 0)∧(pv'=pv∨pv'=.slice none 0 0)∧
  SnR w' (r.2,vl,vt)∧Zmp (fun k=>I k∨(w.heap.size<=k∧k<w'.heap.size)) (r.2,vl,vt)∧Below w.heap.size w w'
structure Zyn (w:World) (f:Int) (rv pv:Value) (x0 x1 x2 x3 x4 x5:Value) (W:World):Prop where
 lg:Bk 73 W w.heap.size #[.int .i64 f,rv,pv]
 sn:Bk 41 W (w.heap.size+1) #[x0,x1,x2,x3,x4,x5]
 ol:Bk 73 W (w.heap.size+2) #[.int .i64 0,.slice none 0 0,.slice none 0 0]
 os:Bk 41 W (w.heap.size+3) #[.int .i64 0,.int .i64 0,.slice none 0 0,.bool false,.int .i64 0,.slice none 0 0]
 old:Below w.heap.size w W
theorem Zyn.below {i:Value} (h:Zyn w f rv pv c e b d g i W) (a:Below W.heap.size W W'):Zyn w f rv pv c e b d g i W':=
 ⟨h.lg.keep (a.block _ h.lg.lt),h.sn.keep (a.block _ h.sn.lt),h.ol.keep (a.block _ h.ol.lt),h.os.keep (a.block _ h.os.lt),h.old.trans (a.mono h.old.size)⟩
theorem Zyn.lc (h:Zyn w f rv pv b d a c e g W):W.cell? ⟨w.heap.size,0,none⟩=some (.int .i64 f)∧W.cell? ⟨w.heap.size,1,none⟩=some rv∧W.cell? ⟨w.heap.size,2,none⟩=some pv:=
 ⟨(h.lg.cell 0 rfl).1,(h.lg.cell 1 rfl).1,(h.lg.cell 2 rfl).1⟩
theorem Zyn.sc (h:Zyn w f rv pv b d a c e g W):
 W.cell? ⟨w.heap.size+1,0,none⟩=some b∧W.cell? ⟨w.heap.size+1,1,none⟩=some d∧W.cell? ⟨w.heap.size+1,2,none⟩=some a∧W.cell? ⟨w.heap.size+1,3,none⟩=some c∧W.cell? ⟨w.heap.size+1,4,none⟩=some e∧W.cell? ⟨w.heap.size+1,5,none⟩=some g:=
 ⟨(h.sn.cell 0 rfl).1,(h.sn.cell 1 rfl).1,(h.sn.cell 2 rfl).1,(h.sn.cell 3 rfl).1,(h.sn.cell 4 rfl).1,(h.sn.cell 5 rfl).1⟩
def Zon (w:World) (C:Nat) (k:Nat):Prop:=(k=w.heap.size+2∨k=w.heap.size+3)∨(w.heap.size+4<=k∧k<C)
theorem Zon.more {k:Nat} (h:Zon w 0 k):Zon w C k:=by
 rcases h with h | h
 ·exact .inl h
 ·omega
theorem ZxQ (w W:World) (c a:Nat) (p:c=w.heap.size+2) (k:a=w.heap.size+3) (f l n j g i e m q:Value):Ql (Zon w 0) W (((((((((W.setCell ⟨c,0,none⟩ f).setCell ⟨c,1,none⟩ l).setCell ⟨c,2,none⟩ n).setCell ⟨a,0,none⟩ j).setCell ⟨a,1,none⟩ g).setCell ⟨a,2,none⟩ i).setCell ⟨a,3,none⟩ e).setCell ⟨a,4,none⟩ m).setCell ⟨a,5,none⟩ q):=by
 have d:Zon w 0 c:=.inl (.inl p);have b:Zon w 0 a:=.inl (.inr k);exact(((((((((Ql.refl _ _).setCell _ (fun _=>d) _).setCell _ (fun _=>d) _).setCell _ (fun _=>d) _).setCell _ (fun _=>b) _).setCell _ (fun _=>b) _).setCell _ (fun _=>b) _).setCell _ (fun _=>b) _).setCell _ (fun _=>b) _).setCell _ (fun _=>b) _
theorem Zml (w W:World) (b a:Nat) (F:b=w.heap.size+2) (y:a=w.heap.size+3) {B G E x H D J C z:Value} (A:Bk 73 W b #[B,G,E]) (I:Bk 41 W a #[x,H,D,J,C,z]) (l e i g m f k d j:Value):
 ∃ c,c=(((((((((W.setCell ⟨b,0,none⟩ l).setCell ⟨b,1,none⟩ e).setCell ⟨b,2,none⟩ i).setCell ⟨a,0,none⟩ g).setCell ⟨a,1,none⟩ m).setCell ⟨a,2,none⟩ f).setCell ⟨a,3,none⟩ k).setCell ⟨a,4,none⟩ d).setCell ⟨a,5,none⟩ j).drew∧Ql (Zon w 0) W c∧(c.cell? ⟨b,0,none⟩=some l∧c.cell? ⟨b,1,none⟩=some e∧c.cell? ⟨b,2,none⟩=some i)∧(c.cell? ⟨a,0,none⟩=some g∧c.cell? ⟨a,1,none⟩=some m∧c.cell? ⟨a,2,none⟩=some f∧c.cell? ⟨a,3,none⟩=some k∧c.cell? ⟨a,4,none⟩=some d∧c.cell? ⟨a,5,none⟩=some j):=by
 have n:b≠a:=by omega
 have v:Bk 73 (((((((((W.setCell ⟨b,0,none⟩ l).setCell ⟨b,1,none⟩ e).setCell ⟨b,2,none⟩ i).setCell ⟨a,0,none⟩ g).setCell ⟨a,1,none⟩ m).setCell ⟨a,2,none⟩ f).setCell ⟨a,3,none⟩ k).setCell ⟨a,4,none⟩ d).setCell ⟨a,5,none⟩ j) b #[l,e,i]:=((((((((A.set 0 l).set 1 e).set 2 i).other a 0 g n).other a 1 m n).other a 2 f n).other a 3 k n).other a 4 d n).other a 5 j n;have u:Bk 41 (((((((((W.setCell ⟨b,0,none⟩ l).setCell ⟨b,1,none⟩ e).setCell ⟨b,2,none⟩ i).setCell ⟨a,0,none⟩ g).setCell ⟨a,1,none⟩ m).setCell ⟨a,2,none⟩ f).setCell ⟨a,3,none⟩ k).setCell ⟨a,4,none⟩ d).setCell ⟨a,5,none⟩ j) a #[g,m,f,k,d,j]:=(((((((((I.other b 0 l n.symm).other b 1 e n.symm).other b 2 i n.symm).set 0 g).set 1 m).set 2 f).set 3 k).set 4 d).set 5 j);have p:=ZxQ w W b a F y l e i g m f k d j
 revert v u p
 generalize (((((((((W.setCell ⟨b,0,none⟩ l).setCell ⟨b,1,none⟩ e).setCell ⟨b,2,none⟩ i).setCell ⟨a,0,none⟩ g).setCell ⟨a,1,none⟩ m).setCell ⟨a,2,none⟩ f).setCell ⟨a,3,none⟩ k).setCell ⟨a,4,none⟩ d).setCell ⟨a,5,none⟩ j)=Y;intro v u p;have t:Bk 73 Y.drew b #[l,e,i]:=v;have q:Bk 41 Y.drew a #[g,m,f,k,d,j]:=u;exact⟨Y.drew,rfl,⟨p.os,p.tape,p.output,p.size,p.block⟩,⟨(t.cell 0 rfl).1,(t.cell 1 rfl).1,(t.cell 2 rfl).1⟩,(q.cell 0 rfl).1,(q.cell 1 rfl).1,(q.cell 2 rfl).1,(q.cell 3 rfl).1,(q.cell 4 rfl).1,(q.cell 5 rfl).1⟩
theorem ZkS (a:Below w.heap.size w W) (c:w.heap.size<=W.heap.size) (b:Ql (Zon w C) W W'):Below w.heap.size w W':=
 a.trans (b.below c fun k hk=>by
  rcases hk with hk | hk
  ·omega
  ·omega)
theorem Zzj (W:World) (R:Nat) (b e d c f g:Value) (G:Nat->Prop) (a:G R):Ql G W ((((((W.setCell ⟨R,0,none⟩ b).setCell ⟨R,1,none⟩ e).setCell ⟨R,2,none⟩ d).setCell ⟨R,3,none⟩ c).setCell ⟨R,4,none⟩ f).setCell ⟨R,5,none⟩ g):=
 ((((((Ql.refl G W).setCell 0 (fun _=>a) b).setCell 1 (fun _=>a) e).setCell 2 (fun _=>a) d).setCell 3 (fun _=>a) c).setCell 4 (fun _=>a) f).setCell 5 (fun _=>a) g
theorem ZAw (a:World) (X:Obj):a.heap.size<(a.alloc X).drew.heap.size:=by
 have:(a.alloc X).drew.heap.size=a.heap.size+1:=by simp[World.drew]
 omega
theorem Zzk (a:World) (cs:Array Value) (b:World) (d:Below (a.alloc (.cells cs 41)).drew.heap.size (a.alloc (.cells cs 41)).drew b):Bk 41 b a.heap.size cs:=by
 have c:Bk 41 (a.alloc (.cells cs 41)).drew a.heap.size cs:=heap_alloc_new a _;exact c.keep (d.block _ c.lt)
theorem Zoo {B:Nat} {a:World} (h:Below B a W) (R:Nat) (b:B<=R) (c f e d g i:Value):Below B a ((((((W.setCell ⟨R,0,none⟩ c).setCell ⟨R,1,none⟩ f).setCell ⟨R,2,none⟩ e).setCell ⟨R,3,none⟩ d).setCell ⟨R,4,none⟩ g).setCell ⟨R,5,none⟩ i):=
 (((((h.setCell (p:=⟨R,0,none⟩) b c).setCell (p:=⟨R,1,none⟩) b f).setCell (p:=⟨R,2,none⟩) b e).setCell (p:=⟨R,3,none⟩) b d).setCell (p:=⟨R,4,none⟩) b g).setCell (p:=⟨R,5,none⟩) b i
set_option maxHeartbeats 4000000 in
theorem Ztu (I:Nat->Prop) (g:Lgb) (rv pv:Value) (x:Q0 × Value × Value) (w:World) (hr:Xj w 0 rv g.recs) (hp:w.ownsRow 0 108 3 pv g.pcs.length (Q6 g.pcs)) (hx:SnR w x) (hi:Zmp I x) (a3:∀ k,I k->k<w.heap.size) (aG:OkG g) (hs:SnS x.1) (bm:g.recs.length<=9000000) (bx:g.pcs.length<=900000):
 Calls prog 36 #[.agg #[.int .i64 g.first,rv,pv],snV x] w fun e w'=>Zcq I w rv pv (g.behind x.1) e w':=by
 obtain⟨D,C,bE⟩:=hr.shape;obtain⟨U,X,bC⟩:=Z8 hp;obtain⟨H,J,lc,K,N,M,be,bq⟩:=hx.shape;have aW:Hid (snV x=.agg #[.int .i64 x.1.idx,.int .i64 x.1.st.kind,.slice H J lc,.bool x.1.st.shut,.int .i64 x.1.st.eng,.slice K N M]):=ZZ (by unfold snV snC;rw[be,bq])
 have bk:=aG.f0;have bf:=aG.top;have a5:=ZZ (hr.rd aG.recOk)
 have aY:Hid (¬ g.leads x.1->∀ W W',Below w.heap.size w W->Ql (Zon w 0) W W'->Zcq I w rv pv (g.behind x.1) (.returned (.tuple #[.agg #[.int .i64 x.1.idx,.slice none 0 0,.slice none 0 0],.agg #[.int .i64 x.1.idx,.int .i64 x.1.st.kind,.slice H J lc,.bool x.1.st.shut,.int .i64 x.1.st.eng,.slice K N M]])) W'):=ZZ (fun hn W W' Z ho=>by
  have ar:=ZkS Z Z.size ho;unfold Lgb.behind;rw[if_neg hn]
  refine⟨_,_,x.2.1,x.2.2,by rw[<-aW.o],Xj.nil _ _,World.ownsRow_nil _ _ _ _,.inr rfl,.inr rfl,hx.below ar zL,hi.mono (fun k hk=>.inl hk),ar⟩)
 have aI:Hid (g.leads x.1->∀ (W u W':World) (vx vu:Value),Below w.heap.size w W->w.heap.size+4<=W.heap.size->RdI u vx (Q3 x.1 (g.recs.drop (x.1.idx-g.first).toNat)).1.st.L->RdE u vu (Q3 x.1 (g.recs.drop (x.1.idx-g.first).toNat)).1.tab->I64 (Q3 x.1 (g.recs.drop (x.1.idx-g.first).toNat)).1.st.kind->I64 (Q3 x.1 (g.recs.drop (x.1.idx-g.first).toNat)).1.st.eng->I64 (Q3 x.1 (g.recs.drop (x.1.idx-g.first).toNat)).1.idx->
  Zmp (fun k=>I k∨(W.heap.size<=k∧k<u.heap.size)) ((Q3 x.1 (g.recs.drop (x.1.idx-g.first).toNat)).1,vx,vu)->Below W.heap.size W u->(∃ Y,Below u.heap.size u Y∧Ql (Zon w W.heap.size) Y W')->
  Zcq I w rv pv (g.behind x.1) (.returned (.tuple #[.agg #[.int .i64 g.first,rv,pv],.agg #[.int .i64 (Q3 x.1 (g.recs.drop (x.1.idx-g.first).toNat)).1.idx,.int .i64 (Q3 x.1 (g.recs.drop (x.1.idx-g.first).toNat)).1.st.kind,vx,.bool (Q3 x.1 (g.recs.drop (x.1.idx-g.first).toNat)).1.st.shut,.int .i64 (Q3 x.1 (g.recs.drop (x.1.idx-g.first).toNat)).1.st.eng,vu]])) W'):=ZZ (fun hn W u W' vx vu Z bV k1 k2 k3 k4 k5 k6 aV ⟨Y,aK,ho⟩=>by
  have aR:Below w.heap.size w u:=Z.trans (aV.mono Z.size);have bd:Below w.heap.size w Y:=aR.trans (aK.mono aR.size);have ar:=ZkS bd bd.size ho;have bS:=aV.size;have bI:=aK.size;have bQ:=ho.size
  have bw:∀ k,(I k∨(W.heap.size<=k∧k<u.heap.size))->W'.heap[k]?=u.heap[k]?:=fun k hk=>by
   have bi:k<u.heap.size∧¬ Zon w W.heap.size k:=by
    rcases hk with hk | hk
    ·have:=a3 k hk
     refine⟨by have:=aR.size;omega,fun h=>?_⟩
     rcases h with h | h <;> omega
    ·refine⟨hk.2,fun h=>?_⟩
     rcases h with h | h <;> omega
   rw[ho.block k (by omega) bi.2,aK.block k bi.1]
  have hS:SnR u ((Q3 x.1 (g.recs.drop (x.1.idx-g.first).toNat)).1,vx,vu):=⟨k1,k2,k3,k4,k5⟩;unfold Lgb.behind;rw[if_pos hn]
  exact⟨rv,pv,vx,vu,rfl,hr.below ar zL,Qh hp (fun k hk=>ar.block k (World.ownsRow.lt hp k hk).2),.inl rfl,.inl rfl,hS.keep k6 bw,k6.mono (fun k hk=>hk.imp id (fun h=>⟨by have:=Z.size;omega,by omega⟩)),ar⟩)
 have ao:=ZZ (And.intro hx (And.intro hi hs));obtain⟨G,au⟩:∃ G,G=(((w.alloc (.cells #[.int .i64 g.first,.slice D g.recs.length C,.slice U g.pcs.length X] 73)).alloc (.cells #[.int .i64 x.1.idx,.int .i64 x.1.st.kind,.slice H J lc,.bool x.1.st.shut,.int .i64 x.1.st.eng,.slice K N M] 41)).alloc (.cells #[.int .i64 0,.slice none 0 0,.slice none 0 0] 73)).alloc (.cells #[.int .i64 0,.int .i64 0,.slice none 0 0,.bool false,.int .i64 0,.slice none 0 0] 41):=⟨_,rfl⟩;have bK:G.heap.size=w.heap.size+4:=by rw[au];simp
 have ac:Hid (Zyn w g.first (.slice D g.recs.length C) (.slice U g.pcs.length X) (.int .i64 x.1.idx) (.int .i64 x.1.st.kind) (.slice H J lc) (.bool x.1.st.shut) (.int .i64 x.1.st.eng) (.slice K N M) G):=ZZ (by
  rw[au];refine⟨?_,?_,?_,?_,(((Below.refl _ _).alloc zL _).alloc (by simp) _).alloc (by simp;omega) _ |>.alloc (by simp;omega) _⟩
  ·exact(Below.heap_alloc _ _ _ (by simp;omega)).trans ((Below.heap_alloc _ _ _ (by simp;omega)).trans ((Below.heap_alloc _ _ _ (by simp)).trans (heap_alloc_new w _)))
  ·exact(Below.heap_alloc _ _ _ (by simp)).trans ((Below.heap_alloc _ _ _ (by simp)).trans (ZdR w _ _))
  ·exact(Below.heap_alloc _ _ _ (by simp)).trans (ZzX w _ _ _)
  ·exact ZzY w _ _ _ _)
 obtain⟨⟨a,⟨kd,LL,E,F⟩,tb⟩,bO,bN⟩:=x
 dsimp only at *
 subst be bq;obtain⟨c,aE⟩:∃ c,c=Q3 ⟨a,⟨kd,LL,E,F⟩,tb⟩ (g.recs.drop (a-g.first).toNat):=⟨_,rfl⟩;rw[<-aE] at aI;have a0:=ZZ aE
 have aZ:Hid (g.leads ⟨a,⟨kd,LL,E,F⟩,tb⟩↔(g.pcs.length≠0∧g.first<=a∧a<=g.first+(g.recs.length:Int))∧c.2=0):=ZZ (by
  unfold Lgb.leads;rw[aE,and_assoc,and_assoc]
  exact Iff.rfl)
 rw[aW.o];subst bE bC;obtain⟨R,hR⟩:∃ R,R=g.behind ⟨a,⟨kd,LL,E,F⟩,tb⟩:=⟨_,rfl⟩;rw[<-hR] at aY aI ⊢;have a6:=ZZ (And.intro bm hr);have bt:(g.recs.length:Int)<=9000000:=by omega
 have bz:(g.pcs.length:Int)<=900000:=by omega
 have bD:g.first+(g.recs.length:Int)<=4611686018427387904:=bf
 have aD:Hid (∀ (n1:Nat) (O:Option Addr) (T:Nat) (W:World),Below G.heap.size G W->RdR w (.slice O n1 T) (g.recs.drop (a-g.first).toNat)->Calls prog 15 #[.agg #[.int .i64 a,.int .i64 kd,.slice H J lc,.bool E,.int .i64 F,.slice K N M],.slice O n1 T] W fun e w'=>∃ n y j p z q,e=.returned (.tuple #[.agg #[.int .i64 c.1.idx,.int .i64 c.1.st.kind,.slice n y j,.bool c.1.st.shut,.int .i64 c.1.st.eng,.slice p z q],.int .i64 c.2])∧Hid (Below W.heap.size W w')∧Hid (c.2=0->∀ W',(∃ Y,Below w'.heap.size w' Y∧Ql (Zon w W.heap.size) Y W')->(g.pcs.length≠0∧g.first<=a∧a<=g.first+(g.recs.length:Int))->Zcq I w (.slice D g.recs.length C) (.slice U g.pcs.length X) R (.returned (.tuple #[.agg #[.int .i64 g.first,.slice D g.recs.length C,.slice U g.pcs.length X],.agg #[.int .i64 c.1.idx,.int .i64 c.1.st.kind,.slice n y j,.bool c.1.st.shut,.int .i64 c.1.st.eng,.slice p z q]])) W')):=ZZ (fun n1 O T W hW aN=>by
  have aX:Below w.heap.size w W:=ac.o.old.trans (hW.mono ac.o.old.size);have bT:=hW.size;have a8:=ao.o.1.below aX zL;have bB:=a8.snV;have hL:LL.length<=1000:=by have:=ZlJ ao.o.2.2.1;exact Nat.le_trans this (by decide)
  have hT:tb.length<=1000:=by have:=ao.o.2.2.2.few;exact Nat.le_trans this (by decide)
  refine(Zij (P:=SnS) (fun S r hS hf=>hS.next hf) (fun S hS=>by have:=hS.2.few;omega) _ _ _ _ _ _ ⟨a,⟨kd,LL,E,F⟩,tb⟩ _ _ W bB (aN.below aX zL) hL hT (by rw[List.length_drop];have:=a6.o.1;omega) ao.o.2.2).mono ?_
  rw[<-a0.o];rintro e w' ⟨vx,vu,rfl,r1,r2,r3,r4,r5,g1,g2,Z⟩;have aA:=Zih.inside (x:=(⟨a,⟨kd,LL,E,F⟩,tb⟩,.slice H J lc,.slice K N M)) (l:=g.recs.drop (a-g.first).toNat) a8 ao.o.2.1 r1 g1 g2 (fun hl=>by rw[a0.o,hl];rfl)
  obtain⟨n,j,bu,-⟩:=id r1;obtain⟨p,q,hu⟩:=r4.shape;have HP:=fun h0 hc=>aI.o (aZ.o.2 ⟨hc,h0⟩) W w'
  subst bu hu
  exact⟨n,_,j,p,_,q,rfl,ZZ Z,ZZ (fun h0 W' aM hc=>HP h0 hc W' _ _ aX (by omega) r1 r4 r2 r3 r5 aA Z aM)⟩)
 obtain⟨O,T,bl,bo⟩:∃ O T,(g.first<=a->a<=g.first+(g.recs.length:Int)->RdR w (.slice O (g.recs.drop (a-g.first).toNat).length T) (g.recs.drop (a-g.first).toNat))∧(g.first<=a->a<=g.first+(g.recs.length:Int)->∀ W,(Instr.sliceAt 29 (.slice D g.recs.length C) (some (.int .i64 (a-g.first))) none none).run prog W=.ok (.slice O (g.recs.drop (a-g.first).toNat).length T) W):=by
  by_cases aA:g.first<=a∧a<=g.first+(g.recs.length:Int)
  ·obtain⟨O,T,h1,h2⟩:=Zvf w D g.recs C a5.o (a-g.first).toNat (by omega)
   exact⟨O,T,fun _ _=>h1,fun _ _=>h2 _ (by omega)⟩
  ·exact⟨none,0,fun h1 h2=>absurd ⟨h1,h2⟩ aA,fun h1 h2=>absurd ⟨h1,h2⟩ aA⟩
 have aQ:=ZZ bl;have aJ:=ZZ bo;clear bl bo;have an:Hid (¬ ((g.pcs.length≠0∧g.first<=a∧a<=g.first+(g.recs.length:Int))∧c.2=0)->∀ W W',Below w.heap.size w W->Ql (Zon w 0) W W'->Zcq I w (.slice D g.recs.length C) (.slice U g.pcs.length X) R (.returned (.tuple #[.agg #[.int .i64 a,.slice none 0 0,.slice none 0 0],.agg #[.int .i64 a,.int .i64 kd,.slice H J lc,.bool E,.int .i64 F,.slice K N M]])) W'):=ZZ (fun hn=>aY.o (fun h=>hn (aZ.o.1 h)))
 have aP:Hid (∀ W,Below G.heap.size G W->Calls prog 38 #[.pointer (some ⟨w.heap.size,0,none⟩)] W fun e w'=>e=.returned (.int .i64 (g.first+(g.recs.length:Int)))∧Below G.heap.size G w'):=ZZ (fun W hW=>by
  obtain⟨l0,l1,l2⟩:=(ac.o.below hW).lc;refine(ZlK w.heap.size 0 g.first D g.recs.length C W l0 l1 bk (by omega)).mono ?_
  rintro e w' ⟨rfl,Z⟩
  exact⟨rfl,hW.trans (Z.mono hW.size)⟩)
 obtain⟨n1,a9⟩:∃ n1,n1=(g.recs.drop (a-g.first).toNat).length:=⟨_,rfl⟩;rw[<-a9] at aQ aJ;obtain⟨t,ak⟩:∃ t,t=g.recs.length:=⟨_,rfl⟩;obtain⟨A,aq⟩:∃ A,A=g.pcs.length:=⟨_,rfl⟩;obtain⟨d,al⟩:∃ d,d=g.first:=⟨_,rfl⟩
 replace aD:=ZZ (fun O T W hW aN=>aD.o n1 O T W hW aN)
 have aO:Hid (d<=a->a<=d+(t:Int)->∀ W,Below G.heap.size G W->Calls prog 15 #[.agg #[.int .i64 a,.int .i64 kd,.slice H J lc,.bool E,.int .i64 F,.slice K N M],.slice O n1 T] W fun e w'=>∃ n y j p z q,e=.returned (.tuple #[.agg #[.int .i64 c.1.idx,.int .i64 c.1.st.kind,.slice n y j,.bool c.1.st.shut,.int .i64 c.1.st.eng,.slice p z q],.int .i64 c.2])∧Hid (Below W.heap.size W w')∧Hid (c.2=0->∀ W',(∃ Y,Below w'.heap.size w' Y∧Ql (Zon w W.heap.size) Y W')->(A≠0∧d<=a∧a<=d+(t:Int))->Zcq I w (.slice D t C) (.slice U A X) R (.returned (.tuple #[.agg #[.int .i64 d,.slice D t C,.slice U A X],.agg #[.int .i64 c.1.idx,.int .i64 c.1.st.kind,.slice n y j,.bool c.1.st.shut,.int .i64 c.1.st.eng,.slice p z q]])) W')):=ZZ (by
  rw[ak,aq,al]
  exact fun h1 h2 W hW=>aD.o O T W hW (aQ.o h1 h2))
 rw[<-ak,<-aq,<-al] at an;rw[<-ak,<-al] at aP aJ bD;rw[<-ak,<-aq,<-al] at ac au;rw[<-ak] at bt;rw[<-aq] at bz;rw[<-al] at bk;rw[<-ak,<-aq,<-al];clear aD aQ aY aI aZ a0 aE hR bm bx aG hs bf a5 ao a6 aW hr hp hx hi a3 a9 ak aq al;obtain⟨Bc,bc⟩:∃ Bc:Bool,Bc=decide (A≠0∧d<=a∧a<=d+(t:Int)):=⟨_,rfl⟩;have aa:=ZZ bc;clear bc
 go_enter func36,ntmps36
 go_upto_region 1 with fail
 rw[<-au];clear au
 go_cut[24] (fun v wc=>v=.bool Bc∧Hid (Below G.heap.size G wc))
 case first=>
  obtain⟨ι,bH,V,hV,aU⟩:=ZnO G.heap.size G;have HV:=ZZ hV;obtain⟨i0,aF⟩:=aU G.drew (Below.refl _ _).drew;have d0:∀ i,(V i).cell? ⟨w.heap.size,0,none⟩=some (.int .i64 d):=fun i=>(ac.o.below (HV.o i)).lc.1
  have d2:∀ i,(V i).cell? ⟨w.heap.size,2,none⟩=some (.slice U A X):=fun i=>(ac.o.below (HV.o i)).lc.2.2
  have e0:∀ i,(V i).cell? ⟨w.heap.size+1,0,none⟩=some (.int .i64 a):=fun i=>(ac.o.below (HV.o i)).sc.1
  have a7:Hid (∀ i,Calls prog 38 #[.pointer (some ⟨w.heap.size,0,none⟩)] (V i) fun e w'=>e=.returned (.int .i64 (d+(t:Int)))∧∃ m,w'=V m):=ZZ (fun i=>(aP.o (V i) (HV.o i)).mono fun e w' h=>⟨h.1,aU w' h.2⟩)
  clear hV aU;by_cases q1:A=0
  ·have bG:decide ((A:Int)>0)=false:=decide_eq_false (by omega)
   have br:decide (0<A)=false:=decide_eq_false (by omega)
   have ae:Bc=false:=by rw[aa.o];exact decide_eq_false (fun h=>h.1 q1)
   clear q1;refine Jn V i0 (by kernel_rfl) (by kernel_rfl) aF.symm ?_
   repeat (go_big_quiet_step (fail))
   refine wpQuiet_nil ?_;intro _ am;obtain⟨nq,aj⟩:=am;subst aj
   go_wp2_with fail
   go_meet
   exact⟨by rw[ae],ZZ (HV.o _)⟩
  have bG:(A:Int)>0:=by omega
  have br:0<A:=by omega
  by_cases q2:d<=a
  case neg=>
   have aV:decide (d<=a)=false:=decide_eq_false q2;have ae:Bc=false:=by rw[aa.o];exact decide_eq_false (fun h=>q2 h.2.1)
   clear q1 q2;refine Jn V i0 (by kernel_rfl) (by kernel_rfl) aF.symm ?_
   repeat (go_big_quiet_step (fail))
   refine wpQuiet_nil ?_;intro _ am;obtain⟨nq,aj⟩:=am;subst aj
   go_wp2_with fail
   go_meet
   exact⟨by rw[ae],ZZ (HV.o _)⟩
  by_cases q3:a<=d+(t:Int)
  ·have ae:Bc=true:=by rw[aa.o];exact decide_eq_true ⟨q1,q2,q3⟩
   clear q1 aa;generalize d+(t:Int)=NX at *;refine Jn V i0 (by kernel_rfl) (by kernel_rfl) aF.symm ?_
   repeat (go_big_quiet_step ((go_at_call 38;exact a7.o _)))
   refine wpQuiet_nil ?_;intro _ am;obtain⟨nq,aj⟩:=am;subst aj
   go_wp2_with fail
   go_meet
   exact⟨by rw[ae],ZZ (HV.o _)⟩
  ·have aK:decide (a<=d+(t:Int))=false:=decide_eq_false q3
   have ae:Bc=false:=by rw[aa.o];exact decide_eq_false (fun h=>q3 h.2.2)
   clear q1 q3 aa;generalize d+(t:Int)=NX at *;refine Jn V i0 (by kernel_rfl) (by kernel_rfl) aF.symm ?_
   repeat (go_big_quiet_step ((go_at_call 38;exact a7.o _)))
   refine wpQuiet_nil ?_;intro _ am;obtain⟨nq,aj⟩:=am;subst aj
   go_wp2_with fail
   go_meet
   exact⟨by rw[ae],ZZ (HV.o _)⟩
 case rest=>
 obtain⟨f,rfl⟩:∃ W,W=wc:=⟨_,rfl⟩;obtain⟨rfl,az⟩:=hcut;clear aP;have B:=ZZ (ac.o.below az.o)
 cases Bc with
 | false=>
  have bb:Hid (¬ ((A≠0∧d<=a∧a<=d+(t:Int))∧c.2=0)):=ZZ (fun h=>of_decide_eq_false aa.o.symm h.1)
  have ax:=ZZ (an.o bb.o);clear an bb aO;obtain⟨l0,l1,l2⟩:=B.o.lc;obtain⟨s0,s1,s2,s3,s4,s5⟩:=B.o.sc;obtain⟨o0,p0⟩:=B.o.ol.cell 0 rfl;obtain⟨o1,p1⟩:=B.o.ol.cell 1 rfl;obtain⟨o2,p2⟩:=B.o.ol.cell 2 rfl;obtain⟨u0,v0⟩:=B.o.os.cell 0 rfl;obtain⟨u1,v1⟩:=B.o.os.cell 1 rfl;obtain⟨u2,v2⟩:=B.o.os.cell 2 rfl;obtain⟨u3,v3⟩:=B.o.os.cell 3 rfl;obtain⟨u4,v4⟩:=B.o.os.cell 4 rfl;obtain⟨u5,v5⟩:=B.o.os.cell 5 rfl
  go_upto_region 5 with fail
  go_region
  obtain⟨XX,ad,aw,⟨k0,k1,k2⟩,k3,k4,k5,k6,k7,k8⟩:=Zml w f (w.heap.size+1+1) (w.heap.size+1+1+1) rfl rfl B.o.ol B.o.os (.int .i64 a) (.slice none 0 0) (.slice none 0 0) (.int .i64 a) (.int .i64 kd) (.slice H J lc) (.bool E) (.int .i64 F) (.slice K N M);have ay:=ZZ ad;clear ad;go_wp2;rw[<-ay.o];refine bodyPost_ret (v:=.tuple #[.agg #[.int .i64 a,.slice none 0 0,.slice none 0 0],.agg #[.int .i64 a,.int .i64 kd,.slice H J lc,.bool E,.int .i64 F,.slice K N M]]) (by simp[results,Tryz.results36,go_sem,k0,k1,k2,k3,k4,k5,k6,k7,k8]) rfl ?_
  exact ax.o f _ B.o.old aw
 | true=>
  have hc:=of_decide_eq_true aa.o.symm;have bA:=ZZ hc;obtain⟨bR,a2,bg⟩:=hc;have hcut:=aJ.o a2 bg;have bn:=ZZ (aO.o a2 bg);have hw:IntKind.i64.wrap (a-d)=a-d:=by rw[IntKind.wrap_i64];omega
  have bL:-9223372036854775808<=a-d:=by omega
  have bJ:a-d<=9223372036854775807:=by omega
  obtain⟨l0,l1,l2⟩:=B.o.lc;obtain⟨s0,s1,s2,s3,s4,s5⟩:=B.o.sc;clear aO aJ aa;have HE:Hid (∀ args w,(callFunc 15 args).run prog w=.ok (.enter 15 args) w):=ZZ (enters_of func15 (by kernel_rfl) rfl)
  have aH:Hid (∀ W,Below f.heap.size f W->Calls prog 15 #[.agg #[.int .i64 a,.int .i64 kd,.slice H J lc,.bool E,.int .i64 F,.slice K N M],.slice O n1 T] W fun e w'=>∃ v',e=.returned v'∧∃ n y j p z q,v'=.tuple #[.agg #[.int .i64 c.1.idx,.int .i64 c.1.st.kind,.slice n y j,.bool c.1.st.shut,.int .i64 c.1.st.eng,.slice p z q],.int .i64 c.2]∧Hid (Below W.heap.size W w')∧Hid (c.2=0->∀ W',(∃ Y,Below w'.heap.size w' Y∧Ql (Zon w W.heap.size) Y W')->Zcq I w (.slice D t C) (.slice U A X) R (.returned (.tuple #[.agg #[.int .i64 d,.slice D t C,.slice U A X],.agg #[.int .i64 c.1.idx,.int .i64 c.1.st.kind,.slice n y j,.bool c.1.st.shut,.int .i64 c.1.st.eng,.slice p z q]])) W')):=ZZ (fun W hW=>by
   refine(bn.o W (az.o.trans (hW.mono az.o.size))).mono ?_;rintro e w' ⟨n,y,j,p,z,q,rfl,Z,hf⟩
   exact⟨_,rfl,n,y,j,p,z,q,rfl,Z,ZZ (fun h0 W' aM=>hf.out h0 W' aM bA.o)⟩)
  clear bn
  have ap:Hid (∀ W,Below f.heap.size f W->(W.cell? ⟨w.heap.size+1,0,none⟩=some (.int .i64 a)∧W.cell? ⟨w.heap.size+1,1,none⟩=some (.int .i64 kd)∧W.cell? ⟨w.heap.size+1,2,none⟩=some (.slice H J lc)∧W.cell? ⟨w.heap.size+1,3,none⟩=some (.bool E)∧W.cell? ⟨w.heap.size+1,4,none⟩=some (.int .i64 F)∧W.cell? ⟨w.heap.size+1,5,none⟩=some (.slice K N M)∧W.cell? ⟨w.heap.size,0,none⟩=some (.int .i64 d)∧W.cell? ⟨w.heap.size,1,none⟩=some (.slice D t C))):=ZZ (fun W h=>by
   obtain⟨g0,g1,g2⟩:=(B.o.below h).lc;obtain⟨e0,e1,e2,e3,e4,e5⟩:=(B.o.below h).sc
   exact⟨e0,e1,e2,e3,e4,e5,g0,g1⟩)
  obtain⟨T1,ba⟩:∃ T1,T1=c.1.idx:=⟨_,rfl⟩;obtain⟨T2,a4⟩:∃ T2,T2=c.1.st.kind:=⟨_,rfl⟩;obtain⟨T3,bp⟩:∃ T3,T3=c.1.st.shut:=⟨_,rfl⟩;obtain⟨T4,bj⟩:∃ T4,T4=c.1.st.eng:=⟨_,rfl⟩;obtain⟨T5,aT⟩:∃ T5,T5=c.2:=⟨_,rfl⟩;rw[<-ba,<-a4,<-bp,<-bj,<-aT] at aH;rw[<-aT] at an;clear ba a4 bp bj aT;have aC:Hid (Below f.heap.size f f.drew):=ZZ (Below.refl _ _).drew;have av:Hid (Below f.heap.size f (f.alloc (.cells #[.int .i64 0,.int .i64 0,.slice none 0 0,.bool false,.int .i64 0,.slice none 0 0] 41)).drew):=ZZ ((Below.refl _ _).alloc zL _).drew;have aS:Hid (w.heap.size+4<=f.heap.size):=ZZ (by have:=az.o.size;omega)
  clear l0 l1 l2 s0 s1 s2 s3 s4 s5
  go_upto_region 2 with fail
  go_cut[6,7] (fun v6 v7 wc=>∃ (b:Nat) (n:Option Addr) (y j:Nat) (p:Option Addr) (z q:Nat),v6=.pointer (some ⟨b,0,none⟩)∧v7=.int .i64 T5∧Hid (w.heap.size+4<=b)∧Hid (Bk 41 wc b #[.int .i64 T1,.int .i64 T2,.slice n y j,.bool T3,.int .i64 T4,.slice p z q])∧Hid (Below f.heap.size f wc)∧
   Hid (T5=0->∀ W',Ql (Zon w 0) wc W'->Zcq I w (.slice D t C) (.slice U A X) R (.returned (.tuple #[.agg #[.int .i64 d,.slice D t C,.slice U A X],.agg #[.int .i64 T1,.int .i64 T2,.slice n y j,.bool T3,.int .i64 T4,.slice p z q]])) W'))
  case first=>
   go_region_held2(fun W=>W.cell? ⟨w.heap.size+1,0,none⟩=some (.int .i64 a)∧W.cell? ⟨w.heap.size+1,1,none⟩=some (.int .i64 kd)∧W.cell? ⟨w.heap.size+1,2,none⟩=some (.slice H J lc)∧W.cell? ⟨w.heap.size+1,3,none⟩=some (.bool E)∧W.cell? ⟨w.heap.size+1,4,none⟩=some (.int .i64 F)∧W.cell? ⟨w.heap.size+1,5,none⟩=some (.slice K N M)∧W.cell? ⟨w.heap.size,0,none⟩=some (.int .i64 d)∧W.cell? ⟨w.heap.size,1,none⟩=some (.slice D t C))
    (first | (with_reducible exact ap.o _ aC.o) | (with_reducible exact ap.o _ av.o) | (with_reducible exact ap.o _ ab.o) | (with_reducible exact ap.o _ (Zoo ab.o _ zL _ _ _ _ _ _)) | (with_reducible exact ap.o _ (ab.o.alloc ab.o.size _)))
    (first
     | ((with_reducible refine Y4 15 _ _ rfl rfl #[.agg #[.int .i64 a,.int .i64 kd,.slice H J lc,.bool E,.int .i64 F,.slice K N M],.slice O n1 T] (by simp[Act.eval]) HE.o (aH.o f.drew aC.o) ?_);rintro v' u ⟨n,y,j,p,z,q,rfl,aB,af⟩;have ab:Hid (Below f.heap.size f u):=ZZ (aC.o.trans aB.o))
     | ((with_reducible refine Y4 15 _ _ rfl rfl #[.agg #[.int .i64 a,.int .i64 kd,.slice H J lc,.bool E,.int .i64 F,.slice K N M],.slice O n1 T] (by simp[Act.eval]) HE.o (aH.o (f.alloc (.cells #[.int .i64 0,.int .i64 0,.slice none 0 0,.bool false,.int .i64 0,.slice none 0 0] 41)).drew av.o) ?_);rintro v' u ⟨n,y,j,p,z,q,rfl,aB,af⟩;have ab:Hid (Below f.heap.size f u):=ZZ (av.o.trans (aB.o.mono av.o.size));have ai:Hid (Bk 41 u f.heap.size #[.int .i64 0,.int .i64 0,.slice none 0 0,.bool false,.int .i64 0,.slice none 0 0]):=ZZ (Zzk f _ u aB.o);obtain⟨z0,y0⟩:=ai.o.cell 0 rfl;obtain⟨z1,y1⟩:=ai.o.cell 1 rfl;obtain⟨z2,y2⟩:=ai.o.cell 2 rfl;obtain⟨z3,y3⟩:=ai.o.cell 3 rfl;obtain⟨z4,y4⟩:=ai.o.cell 4 rfl;obtain⟨z5,y5⟩:=ai.o.cell 5 rfl))
   all_goals
    go_wp2_with fail
    go_meet
    first
     | exact⟨_,n,y,j,p,z,q,rfl,rfl,aS,ZZ ((((((ai.o.set 0 _).set 1 _).set 2 _).set 3 _).set 4 _).set 5 _),ZZ (Zoo ab.o _ zL _ _ _ _ _ _),ZZ (fun h0 W' ho=>af.o h0 W' ⟨_,Below.refl _ _,(Zzj u f.heap.size _ _ _ _ _ _ (fun k=>Zon w (f.alloc (.cells #[.int .i64 0,.int .i64 0,.slice none 0 0,.bool false,.int .i64 0,.slice none 0 0] 41)).drew.heap.size k) (.inr ⟨aS.o,ZAw f _⟩)).trans (ho.mono (fun k hk=>hk.more)) (fun _ _ h=>h)⟩)⟩
     | exact⟨_,n,y,j,p,z,q,rfl,rfl,ZZ (Nat.le_trans aS.o ab.o.size),ZZ (heap_alloc_new u _),ZZ (ab.o.alloc ab.o.size _),ZZ (fun h0 W' ho=>af.o h0 W' ⟨_,Jw u _,ho.mono (fun k hk=>hk.more)⟩)⟩
  case rest=>
  obtain⟨b,n,y,j,p,z,q,rfl,rfl,aL,ag,bF,af⟩:=hcut;obtain⟨WC,rfl⟩:∃ W,W=wc:=⟨_,rfl⟩;have Q:=ZZ (B.o.below bF.o);clear aH ap aC av HE hcut;obtain⟨l0,l1,l2⟩:=Q.o.lc;obtain⟨s0,s1,s2,s3,s4,s5⟩:=Q.o.sc;obtain⟨o0,p0⟩:=Q.o.ol.cell 0 rfl;obtain⟨o1,p1⟩:=Q.o.ol.cell 1 rfl;obtain⟨o2,p2⟩:=Q.o.ol.cell 2 rfl;obtain⟨u0,v0⟩:=Q.o.os.cell 0 rfl;obtain⟨u1,v1⟩:=Q.o.os.cell 1 rfl;obtain⟨u2,v2⟩:=Q.o.os.cell 2 rfl;obtain⟨u3,v3⟩:=Q.o.os.cell 3 rfl;obtain⟨u4,v4⟩:=Q.o.os.cell 4 rfl;obtain⟨u5,v5⟩:=Q.o.os.cell 5 rfl;by_cases hT:T5=0
  case neg=>
   have bv:(T5 == 0)=false:=beq_eq_false_iff_ne.2 hT;have ax:=ZZ (an.o (fun h=>hT h.2))
   clear an af ag hT
   go_upto_region 5 with fail
   go_region
   obtain⟨XX,ad,aw,⟨k0,k1,k2⟩,k3,k4,k5,k6,k7,k8⟩:=Zml w WC (w.heap.size+1+1) (w.heap.size+1+1+1) rfl rfl Q.o.ol Q.o.os (.int .i64 a) (.slice none 0 0) (.slice none 0 0) (.int .i64 a) (.int .i64 kd) (.slice H J lc) (.bool E) (.int .i64 F) (.slice K N M);have ay:=ZZ ad;clear ad;go_wp2;rw[<-ay.o];refine bodyPost_ret (v:=.tuple #[.agg #[.int .i64 a,.slice none 0 0,.slice none 0 0],.agg #[.int .i64 a,.int .i64 kd,.slice H J lc,.bool E,.int .i64 F,.slice K N M]]) (by simp[results,Tryz.results36,go_sem,k0,k1,k2,k3,k4,k5,k6,k7,k8]) rfl ?_
   exact ax.o WC _ Q.o.old aw
  have bv:(T5 == 0)=true:=by rw[beq_iff_eq];exact hT
  have ax:=ZZ (af.o hT);obtain⟨x0,-⟩:=ag.o.cell 0 rfl;obtain⟨x1,-⟩:=ag.o.cell 1 rfl;obtain⟨x2,-⟩:=ag.o.cell 2 rfl;obtain⟨x3,-⟩:=ag.o.cell 3 rfl;obtain⟨x4,-⟩:=ag.o.cell 4 rfl;obtain⟨x5,-⟩:=ag.o.cell 5 rfl;have bW:¬ (b=w.heap.size+1+1):=by have:=aL.o;omega
  have bP:¬ (b=w.heap.size+1+1+1):=by have:=aL.o;omega
  have bU:¬ (w.heap.size+1+1=b):=by have:=aL.o;omega
  have bM:¬ (w.heap.size+1+1+1=b):=by have:=aL.o;omega
  clear an af hT s0 s1 s2 s3 s4 s5
  go_upto_region 4 with fail
  go_region
  obtain⟨XX,ad,aw,⟨k0,k1,k2⟩,k3,k4,k5,k6,k7,k8⟩:=Zml w WC (w.heap.size+1+1) (w.heap.size+1+1+1) rfl rfl Q.o.ol Q.o.os (.int .i64 d) (.slice D t C) (.slice U A X) (.int .i64 T1) (.int .i64 T2) (.slice n y j) (.bool T3) (.int .i64 T4) (.slice p z q);have ay:=ZZ ad;clear ad;go_wp2;rw[<-ay.o];refine bodyPost_ret (v:=.tuple #[.agg #[.int .i64 d,.slice D t C,.slice U A X],.agg #[.int .i64 T1,.int .i64 T2,.slice n y j,.bool T3,.int .i64 T4,.slice p z q]]) (by simp[results,Tryz.results36,go_sem,k0,k1,k2,k3,k4,k5,k6,k7,k8]) rfl ?_
  exact ax.o _ aw
end Go.Proofs.YtnahjngbneicaaaGreatDoor
