import Derived.Test.YtnahjngbneicaaaGreatDoorStoreOpenM
namespace Go.Proofs.YtnahjngbneicaaaGreatDoor
open _root_.Go.Proofs.Tryz
set_option maxRecDepth 100000
open Go.RowKit
variable {W W' w:World} {a b c d e g pv rv:Value} {f:Int} {C:Nat}
theorem Zih.inside {w':World} {x:Q0 × Value × Value} {I:Nat->Prop} {l:List Rec} {r:Q0 × Int} (j:SnR w x) (hi:Zmp I x) (i:RdI w' c r.1.st.L) (g1:c=x.2.1∨∀ b,c.ownBlock=some b->w.heap.size<=b)
 (g2:(l=[]∧e=x.2.2)∨Xn w' w.heap.size e r.1.tab) (m:l=[]->r.1=x.1):Zmp (fun k=>I k∨(w.heap.size<=k∧k<w'.heap.size)) (r.1,c,e):=by
 refine⟨?_,?_⟩
 ·rcases i.block with q | ⟨y,k,f,p⟩
  ·exact .inl q
  ·rcases g1 with g1 | g1
   ·rcases hi.1 with hi | hi
    ·obtain⟨A,v,h,-⟩:=j.l
     obtain⟨u,z,d,-⟩:=i;rw[hi] at h;rw[g1,h] at d
     injection d with _ d _
     exact .inl (List.eq_nil_of_length_eq_zero (by rw[<-d];rfl))
    ·exact .inr fun g a=>.inl (hi g (by rw[<-g1];exact a))
   ·refine .inr fun g a=>.inr ⟨g1 g a,?_⟩
    have n:c.ownBlock=some g:=a;rw[n] at f;obtain rfl:=Option.some.inj f;exact p
 ·rcases g2 with ⟨t,g2⟩ | g2
  ·rcases hi.2 with hi | hi
   ·exact .inl (by show r.1.tab=[];rw[m t];exact hi)
   ·exact .inr fun g a=>.inl (hi g (by rw[<-g2];exact a))
  ·exact .inr fun g a=>.inr (World.ownsRow.lt g2 g a)
theorem ZzX (w:World) (X Y Z:Obj):(((w.alloc X).alloc Y).alloc Z).heap[w.heap.size+2]?=some Z:=by
 have h:=heap_alloc_new ((w.alloc X).alloc Y) Z;have e:((w.alloc X).alloc Y).heap.size=w.heap.size+2:=by simp
 rw[e] at h;exact h
theorem ZzY (w:World) (X Y Z U:Obj):((((w.alloc X).alloc Y).alloc Z).alloc U).heap[w.heap.size+3]?=some U:=by
 have h:=heap_alloc_new (((w.alloc X).alloc Y).alloc Z) U;have e:(((w.alloc X).alloc Y).alloc Z).heap.size=w.heap.size+3:=by simp
 rw[e] at h;exact h
def Zcq (I:Nat->Prop) (w:World) (rv pv:Value) (r:Lgb × Q0) (e:Ending) (w':World):Prop:=
 ∃ rv' pv' vl vt,e=.returned (.tuple #[.agg #[.int .i64 r.1.first,rv',pv'],snV (r.2,vl,vt)])∧Xj w' 0 rv' r.1.recs∧w'.ownsRow 0 108 3 pv' r.1.pcs.length (Q6 r.1.pcs)∧(rv'=rv∨rv'=.slice none 0 0)∧(pv'=pv∨pv'=.slice none 0 0)∧
  SnR w' (r.2,vl,vt)∧Zmp (fun k=>I k∨(w.heap.size<=k∧k<w'.heap.size)) (r.2,vl,vt)∧Below w.heap.size w w'
structure Zyn (w:World) (f:Int) (rv pv:Value) (x0 x1 x2 x3 x4 x5:Value) (W:World):Prop where
 lg:Bk 73 W w.heap.size #[.int .i64 f,rv,pv]
 sn:Bk 41 W (w.heap.size+1) #[x0,x1,x2,x3,x4,x5]
 ol:Bk 73 W (w.heap.size+2) #[.int .i64 0,.slice none 0 0,.slice none 0 0]
 os:Bk 41 W (w.heap.size+3) #[.int .i64 0,.int .i64 0,.slice none 0 0,.bool false,.int .i64 0,.slice none 0 0]
 old:Below w.heap.size w W
theorem Zyn.below {i:Value} (h:Zyn w f rv pv g c b d i e W) (a:Below W.heap.size W W'):Zyn w f rv pv g c b d i e W':=
 ⟨h.lg.keep (a.block _ h.lg.lt),h.sn.keep (a.block _ h.sn.lt),h.ol.keep (a.block _ h.ol.lt),h.os.keep (a.block _ h.os.lt),h.old.trans (a.mono h.old.size)⟩
theorem Zyn.lc (h:Zyn w f rv pv e b a c g d W):W.cell? ⟨w.heap.size,0,none⟩=some (.int .i64 f)∧W.cell? ⟨w.heap.size,1,none⟩=some rv∧W.cell? ⟨w.heap.size,2,none⟩=some pv:=
 ⟨(h.lg.cell 0 rfl).1,(h.lg.cell 1 rfl).1,(h.lg.cell 2 rfl).1⟩
theorem Zyn.sc (h:Zyn w f rv pv e b a c g d W):
 W.cell? ⟨w.heap.size+1,0,none⟩=some e∧W.cell? ⟨w.heap.size+1,1,none⟩=some b∧W.cell? ⟨w.heap.size+1,2,none⟩=some a∧W.cell? ⟨w.heap.size+1,3,none⟩=some c∧W.cell? ⟨w.heap.size+1,4,none⟩=some g∧W.cell? ⟨w.heap.size+1,5,none⟩=some d:=
 ⟨(h.sn.cell 0 rfl).1,(h.sn.cell 1 rfl).1,(h.sn.cell 2 rfl).1,(h.sn.cell 3 rfl).1,(h.sn.cell 4 rfl).1,(h.sn.cell 5 rfl).1⟩
def Zon (w:World) (C:Nat) (k:Nat):Prop:=(k=w.heap.size+2∨k=w.heap.size+3)∨(w.heap.size+4<=k∧k<C)
theorem Zon.more {k:Nat} (h:Zon w 0 k):Zon w C k:=by
 rcases h with h | h
 ·exact .inl h
 ·omega
theorem ZxQ (w W:World) (c a:Nat) (m:c=w.heap.size+2) (n:a=w.heap.size+3) (k i l h g e j f p:Value):Ql (Zon w 0) W (((((((((W.setCell ⟨c,0,none⟩ k).setCell ⟨c,1,none⟩ i).setCell ⟨c,2,none⟩ l).setCell ⟨a,0,none⟩ h).setCell ⟨a,1,none⟩ g).setCell ⟨a,2,none⟩ e).setCell ⟨a,3,none⟩ j).setCell ⟨a,4,none⟩ f).setCell ⟨a,5,none⟩ p):=by
 have d:Zon w 0 c:=.inl (.inl m);have b:Zon w 0 a:=.inl (.inr n);exact(((((((((Ql.refl _ _).setCell _ (fun _=>d) _).setCell _ (fun _=>d) _).setCell _ (fun _=>d) _).setCell _ (fun _=>b) _).setCell _ (fun _=>b) _).setCell _ (fun _=>b) _).setCell _ (fun _=>b) _).setCell _ (fun _=>b) _).setCell _ (fun _=>b) _
theorem Zml (w W:World) (b a:Nat) (D:b=w.heap.size+2) (B:a=w.heap.size+3) {E A G z C F I H x:Value} (v:Bk 73 W b #[E,A,G]) (y:Bk 41 W a #[z,C,F,I,H,x]) (k g l f e i j d h:Value):
 ∃ c,c=(((((((((W.setCell ⟨b,0,none⟩ k).setCell ⟨b,1,none⟩ g).setCell ⟨b,2,none⟩ l).setCell ⟨a,0,none⟩ f).setCell ⟨a,1,none⟩ e).setCell ⟨a,2,none⟩ i).setCell ⟨a,3,none⟩ j).setCell ⟨a,4,none⟩ d).setCell ⟨a,5,none⟩ h).drew∧Ql (Zon w 0) W c∧(c.cell? ⟨b,0,none⟩=some k∧c.cell? ⟨b,1,none⟩=some g∧c.cell? ⟨b,2,none⟩=some l)∧(c.cell? ⟨a,0,none⟩=some f∧c.cell? ⟨a,1,none⟩=some e∧c.cell? ⟨a,2,none⟩=some i∧c.cell? ⟨a,3,none⟩=some j∧c.cell? ⟨a,4,none⟩=some d∧c.cell? ⟨a,5,none⟩=some h):=by
 have m:b≠a:=by omega
 have u:Bk 73 (((((((((W.setCell ⟨b,0,none⟩ k).setCell ⟨b,1,none⟩ g).setCell ⟨b,2,none⟩ l).setCell ⟨a,0,none⟩ f).setCell ⟨a,1,none⟩ e).setCell ⟨a,2,none⟩ i).setCell ⟨a,3,none⟩ j).setCell ⟨a,4,none⟩ d).setCell ⟨a,5,none⟩ h) b #[k,g,l]:=((((((((v.set 0 k).set 1 g).set 2 l).other a 0 f m).other a 1 e m).other a 2 i m).other a 3 j m).other a 4 d m).other a 5 h m;have q:Bk 41 (((((((((W.setCell ⟨b,0,none⟩ k).setCell ⟨b,1,none⟩ g).setCell ⟨b,2,none⟩ l).setCell ⟨a,0,none⟩ f).setCell ⟨a,1,none⟩ e).setCell ⟨a,2,none⟩ i).setCell ⟨a,3,none⟩ j).setCell ⟨a,4,none⟩ d).setCell ⟨a,5,none⟩ h) a #[f,e,i,j,d,h]:=(((((((((y.other b 0 k m.symm).other b 1 g m.symm).other b 2 l m.symm).set 0 f).set 1 e).set 2 i).set 3 j).set 4 d).set 5 h);have n:=ZxQ w W b a D B k g l f e i j d h
 revert u q n
 generalize (((((((((W.setCell ⟨b,0,none⟩ k).setCell ⟨b,1,none⟩ g).setCell ⟨b,2,none⟩ l).setCell ⟨a,0,none⟩ f).setCell ⟨a,1,none⟩ e).setCell ⟨a,2,none⟩ i).setCell ⟨a,3,none⟩ j).setCell ⟨a,4,none⟩ d).setCell ⟨a,5,none⟩ h)=Y;intro u q n;have t:Bk 73 Y.drew b #[k,g,l]:=u;have p:Bk 41 Y.drew a #[f,e,i,j,d,h]:=q;exact⟨Y.drew,rfl,⟨n.os,n.tape,n.output,n.size,n.block⟩,⟨(t.cell 0 rfl).1,(t.cell 1 rfl).1,(t.cell 2 rfl).1⟩,(p.cell 0 rfl).1,(p.cell 1 rfl).1,(p.cell 2 rfl).1,(p.cell 3 rfl).1,(p.cell 4 rfl).1,(p.cell 5 rfl).1⟩
theorem ZkS (a:Below w.heap.size w W) (c:w.heap.size<=W.heap.size) (b:Ql (Zon w C) W W'):Below w.heap.size w W':=
 a.trans (b.below c fun k hk=>by
  rcases hk with hk | hk
  ·omega
  ·omega)
theorem Zzj (W:World) (R:Nat) (f c b d g e:Value) (G:Nat->Prop) (a:G R):Ql G W ((((((W.setCell ⟨R,0,none⟩ f).setCell ⟨R,1,none⟩ c).setCell ⟨R,2,none⟩ b).setCell ⟨R,3,none⟩ d).setCell ⟨R,4,none⟩ g).setCell ⟨R,5,none⟩ e):=
 ((((((Ql.refl G W).setCell 0 (fun _=>a) f).setCell 1 (fun _=>a) c).setCell 2 (fun _=>a) b).setCell 3 (fun _=>a) d).setCell 4 (fun _=>a) g).setCell 5 (fun _=>a) e
theorem ZAw (a:World) (X:Obj):a.heap.size<(a.alloc X).drew.heap.size:=by
 have:(a.alloc X).drew.heap.size=a.heap.size+1:=by simp[World.drew]
 omega
theorem Zzk (a:World) (cs:Array Value) (b:World) (d:Below (a.alloc (.cells cs 41)).drew.heap.size (a.alloc (.cells cs 41)).drew b):Bk 41 b a.heap.size cs:=by
 have c:Bk 41 (a.alloc (.cells cs 41)).drew a.heap.size cs:=heap_alloc_new a _;exact c.keep (d.block _ c.lt)
theorem Zoo {B:Nat} {a:World} (h:Below B a W) (R:Nat) (b:B<=R) (g d c e i f:Value):Below B a ((((((W.setCell ⟨R,0,none⟩ g).setCell ⟨R,1,none⟩ d).setCell ⟨R,2,none⟩ c).setCell ⟨R,3,none⟩ e).setCell ⟨R,4,none⟩ i).setCell ⟨R,5,none⟩ f):=
 (((((h.setCell (p:=⟨R,0,none⟩) b g).setCell (p:=⟨R,1,none⟩) b d).setCell (p:=⟨R,2,none⟩) b c).setCell (p:=⟨R,3,none⟩) b e).setCell (p:=⟨R,4,none⟩) b i).setCell (p:=⟨R,5,none⟩) b f
set_option maxHeartbeats 4000000 in
theorem Ztu (I:Nat->Prop) (g:Lgb) (rv pv:Value) (x:Q0 × Value × Value) (w:World) (hr:Xj w 0 rv g.recs) (hp:w.ownsRow 0 108 3 pv g.pcs.length (Q6 g.pcs)) (hx:SnR w x) (hi:Zmp I x) (bj:∀ k,I k->k<w.heap.size) (aD:OkG g) (hs:SnS x.1) (bb:g.recs.length<=9000000) (br:g.pcs.length<=900000):
 Calls prog 36 #[.agg #[.int .i64 g.first,rv,pv],snV x] w fun e w'=>Zcq I w rv pv (g.behind x.1) e w':=by
 obtain⟨C,D,bp⟩:=hr.shape;obtain⟨U,X,bB⟩:=Z8 hp;obtain⟨M,F,lc,H,N,J,bh,ba⟩:=hx.shape;have aQ:Hid (snV x=.agg #[.int .i64 x.1.idx,.int .i64 x.1.st.kind,.slice M F lc,.bool x.1.st.shut,.int .i64 x.1.st.eng,.slice H N J]):=ZZ (by unfold snV snC;rw[bh,ba])
 have a7:=aD.f0;have bm:=aD.top;have bc:=ZZ (hr.rd aD.recOk)
 have aS:Hid (¬ g.leads x.1->∀ W W',Below w.heap.size w W->Ql (Zon w 0) W W'->Zcq I w rv pv (g.behind x.1) (.returned (.tuple #[.agg #[.int .i64 x.1.idx,.slice none 0 0,.slice none 0 0],.agg #[.int .i64 x.1.idx,.int .i64 x.1.st.kind,.slice M F lc,.bool x.1.st.shut,.int .i64 x.1.st.eng,.slice H N J]])) W'):=ZZ (fun hn W W' Z ho=>by
  have aq:=ZkS Z Z.size ho;unfold Lgb.behind;rw[if_neg hn]
  refine⟨_,_,x.2.1,x.2.2,by rw[<-aQ.o],Xj.nil _ _,World.ownsRow_nil _ _ _ _,.inr rfl,.inr rfl,hx.below aq zL,hi.mono (fun k hk=>.inl hk),aq⟩)
 have aB:Hid (g.leads x.1->∀ (W u W':World) (vx vu:Value),Below w.heap.size w W->w.heap.size+4<=W.heap.size->RdI u vx (Q3 x.1 (g.recs.drop (x.1.idx-g.first).toNat)).1.st.L->RdE u vu (Q3 x.1 (g.recs.drop (x.1.idx-g.first).toNat)).1.tab->I64 (Q3 x.1 (g.recs.drop (x.1.idx-g.first).toNat)).1.st.kind->I64 (Q3 x.1 (g.recs.drop (x.1.idx-g.first).toNat)).1.st.eng->I64 (Q3 x.1 (g.recs.drop (x.1.idx-g.first).toNat)).1.idx->
  Zmp (fun k=>I k∨(W.heap.size<=k∧k<u.heap.size)) ((Q3 x.1 (g.recs.drop (x.1.idx-g.first).toNat)).1,vx,vu)->Below W.heap.size W u->(∃ Y,Below u.heap.size u Y∧Ql (Zon w W.heap.size) Y W')->
  Zcq I w rv pv (g.behind x.1) (.returned (.tuple #[.agg #[.int .i64 g.first,rv,pv],.agg #[.int .i64 (Q3 x.1 (g.recs.drop (x.1.idx-g.first).toNat)).1.idx,.int .i64 (Q3 x.1 (g.recs.drop (x.1.idx-g.first).toNat)).1.st.kind,vx,.bool (Q3 x.1 (g.recs.drop (x.1.idx-g.first).toNat)).1.st.shut,.int .i64 (Q3 x.1 (g.recs.drop (x.1.idx-g.first).toNat)).1.st.eng,vu]])) W'):=ZZ (fun hn W u W' vx vu Z bG k1 k2 k3 k4 k5 k6 aL ⟨Y,aF,ho⟩=>by
  have aM:Below w.heap.size w u:=Z.trans (aL.mono Z.size);have a3:Below w.heap.size w Y:=aM.trans (aF.mono aM.size);have aq:=ZkS a3 a3.size ho;have bM:=aL.size;have bK:=aF.size;have bT:=ho.size
  have bD:∀ k,(I k∨(W.heap.size<=k∧k<u.heap.size))->W'.heap[k]?=u.heap[k]?:=fun k hk=>by
   have bk:k<u.heap.size∧¬ Zon w W.heap.size k:=by
    rcases hk with hk | hk
    ·have:=bj k hk
     refine⟨by have:=aM.size;omega,fun h=>?_⟩
     rcases h with h | h <;> omega
    ·refine⟨hk.2,fun h=>?_⟩
     rcases h with h | h <;> omega
   rw[ho.block k (by omega) bk.2,aF.block k bk.1]
  have hS:SnR u ((Q3 x.1 (g.recs.drop (x.1.idx-g.first).toNat)).1,vx,vu):=⟨k1,k2,k3,k4,k5⟩;unfold Lgb.behind;rw[if_pos hn]
  exact⟨rv,pv,vx,vu,rfl,hr.below aq zL,Qh hp (fun k hk=>aq.block k (World.ownsRow.lt hp k hk).2),.inl rfl,.inl rfl,hS.keep k6 bD,k6.mono (fun k hk=>hk.imp id (fun h=>⟨by have:=Z.size;omega,by omega⟩)),aq⟩)
 have ap:=ZZ (And.intro hx (And.intro hi hs));obtain⟨K,ax⟩:∃ K,K=(((w.alloc (.cells #[.int .i64 g.first,.slice C g.recs.length D,.slice U g.pcs.length X] 73)).alloc (.cells #[.int .i64 x.1.idx,.int .i64 x.1.st.kind,.slice M F lc,.bool x.1.st.shut,.int .i64 x.1.st.eng,.slice H N J] 41)).alloc (.cells #[.int .i64 0,.slice none 0 0,.slice none 0 0] 73)).alloc (.cells #[.int .i64 0,.int .i64 0,.slice none 0 0,.bool false,.int .i64 0,.slice none 0 0] 41):=⟨_,rfl⟩;have bO:K.heap.size=w.heap.size+4:=by rw[ax];simp
 have ad:Hid (Zyn w g.first (.slice C g.recs.length D) (.slice U g.pcs.length X) (.int .i64 x.1.idx) (.int .i64 x.1.st.kind) (.slice M F lc) (.bool x.1.st.shut) (.int .i64 x.1.st.eng) (.slice H N J) K):=ZZ (by
  rw[ax];refine⟨?_,?_,?_,?_,(((Below.refl _ _).alloc zL _).alloc (by simp) _).alloc (by simp;omega) _ |>.alloc (by simp;omega) _⟩
  ·exact(Below.heap_alloc _ _ _ (by simp;omega)).trans ((Below.heap_alloc _ _ _ (by simp;omega)).trans ((Below.heap_alloc _ _ _ (by simp)).trans (heap_alloc_new w _)))
  ·exact(Below.heap_alloc _ _ _ (by simp)).trans ((Below.heap_alloc _ _ _ (by simp)).trans (ZdR w _ _))
  ·exact(Below.heap_alloc _ _ _ (by simp)).trans (ZzX w _ _ _)
  ·exact ZzY w _ _ _ _)
 obtain⟨⟨a,⟨kd,LL,E,G⟩,tb⟩,bQ,bN⟩:=x
 dsimp only at *
 subst bh ba;obtain⟨c,aK⟩:∃ c,c=Q3 ⟨a,⟨kd,LL,E,G⟩,tb⟩ (g.recs.drop (a-g.first).toNat):=⟨_,rfl⟩;rw[<-aK] at aB;have aN:=ZZ aK
 have aT:Hid (g.leads ⟨a,⟨kd,LL,E,G⟩,tb⟩↔(g.pcs.length≠0∧g.first<=a∧a<=g.first+(g.recs.length:Int))∧c.2=0):=ZZ (by
  unfold Lgb.leads;rw[aK,and_assoc,and_assoc]
  exact Iff.rfl)
 rw[aQ.o];subst bp bB;obtain⟨R,hR⟩:∃ R,R=g.behind ⟨a,⟨kd,LL,E,G⟩,tb⟩:=⟨_,rfl⟩;rw[<-hR] at aS aB ⊢;have a0:=ZZ (And.intro bb hr);have bA:(g.recs.length:Int)<=9000000:=by omega
 have bC:(g.pcs.length:Int)<=900000:=by omega
 have bz:g.first+(g.recs.length:Int)<=4611686018427387904:=bm
 have aH:Hid (∀ (n1:Nat) (O:Option Addr) (T:Nat) (W:World),Below K.heap.size K W->RdR w (.slice O n1 T) (g.recs.drop (a-g.first).toNat)->Calls prog 15 #[.agg #[.int .i64 a,.int .i64 kd,.slice M F lc,.bool E,.int .i64 G,.slice H N J],.slice O n1 T] W fun e w'=>∃ n z j p y q,e=.returned (.tuple #[.agg #[.int .i64 c.1.idx,.int .i64 c.1.st.kind,.slice n z j,.bool c.1.st.shut,.int .i64 c.1.st.eng,.slice p y q],.int .i64 c.2])∧Hid (Below W.heap.size W w')∧Hid (c.2=0->∀ W',(∃ Y,Below w'.heap.size w' Y∧Ql (Zon w W.heap.size) Y W')->(g.pcs.length≠0∧g.first<=a∧a<=g.first+(g.recs.length:Int))->Zcq I w (.slice C g.recs.length D) (.slice U g.pcs.length X) R (.returned (.tuple #[.agg #[.int .i64 g.first,.slice C g.recs.length D,.slice U g.pcs.length X],.agg #[.int .i64 c.1.idx,.int .i64 c.1.st.kind,.slice n z j,.bool c.1.st.shut,.int .i64 c.1.st.eng,.slice p y q]])) W')):=ZZ (fun n1 O T W hW aY=>by
  have aR:Below w.heap.size w W:=ad.o.old.trans (hW.mono ad.o.old.size);have bJ:=hW.size;have bo:=ap.o.1.below aR zL;have bE:=bo.snV;have hL:LL.length<=1000:=by have:=ZlJ ap.o.2.2.1;exact Nat.le_trans this (by decide)
  have hT:tb.length<=1000:=by have:=ap.o.2.2.2.few;exact Nat.le_trans this (by decide)
  refine(Zij (P:=SnS) (fun S r hS hf=>hS.next hf) (fun S hS=>by have:=hS.2.few;omega) _ _ _ _ _ _ ⟨a,⟨kd,LL,E,G⟩,tb⟩ _ _ W bE (aY.below aR zL) hL hT (by rw[List.length_drop];have:=a0.o.1;omega) ap.o.2.2).mono ?_
  rw[<-aN.o];rintro e w' ⟨vx,vu,rfl,r1,r2,r3,r4,r5,g1,g2,Z⟩;have aA:=Zih.inside (x:=(⟨a,⟨kd,LL,E,G⟩,tb⟩,.slice M F lc,.slice H N J)) (l:=g.recs.drop (a-g.first).toNat) bo ap.o.2.1 r1 g1 g2 (fun hl=>by rw[aN.o,hl];rfl)
  obtain⟨n,j,bv,-⟩:=id r1;obtain⟨p,q,hu⟩:=r4.shape;have HP:=fun h0 hc=>aB.o (aT.o.2 ⟨hc,h0⟩) W w'
  subst bv hu
  exact⟨n,_,j,p,_,q,rfl,ZZ Z,ZZ (fun h0 W' aU hc=>HP h0 hc W' _ _ aR (by omega) r1 r4 r2 r3 r5 aA Z aU)⟩)
 obtain⟨O,T,bg,a4⟩:∃ O T,(g.first<=a->a<=g.first+(g.recs.length:Int)->RdR w (.slice O (g.recs.drop (a-g.first).toNat).length T) (g.recs.drop (a-g.first).toNat))∧(g.first<=a->a<=g.first+(g.recs.length:Int)->∀ W,(Instr.sliceAt 29 (.slice C g.recs.length D) (some (.int .i64 (a-g.first))) none none).run prog W=.ok (.slice O (g.recs.drop (a-g.first).toNat).length T) W):=by
  by_cases aA:g.first<=a∧a<=g.first+(g.recs.length:Int)
  ·obtain⟨O,T,h1,h2⟩:=Zvf w C g.recs D bc.o (a-g.first).toNat (by omega)
   exact⟨O,T,fun _ _=>h1,fun _ _=>h2 _ (by omega)⟩
  ·exact⟨none,0,fun h1 h2=>absurd ⟨h1,h2⟩ aA,fun h1 h2=>absurd ⟨h1,h2⟩ aA⟩
 have aP:=ZZ bg;have aJ:=ZZ a4;clear bg a4;have ah:Hid (¬ ((g.pcs.length≠0∧g.first<=a∧a<=g.first+(g.recs.length:Int))∧c.2=0)->∀ W W',Below w.heap.size w W->Ql (Zon w 0) W W'->Zcq I w (.slice C g.recs.length D) (.slice U g.pcs.length X) R (.returned (.tuple #[.agg #[.int .i64 a,.slice none 0 0,.slice none 0 0],.agg #[.int .i64 a,.int .i64 kd,.slice M F lc,.bool E,.int .i64 G,.slice H N J]])) W'):=ZZ (fun hn=>aS.o (fun h=>hn (aT.o.1 h)))
 have aO:Hid (∀ W,Below K.heap.size K W->Calls prog 38 #[.pointer (some ⟨w.heap.size,0,none⟩)] W fun e w'=>e=.returned (.int .i64 (g.first+(g.recs.length:Int)))∧Below K.heap.size K w'):=ZZ (fun W hW=>by
  obtain⟨l0,l1,l2⟩:=(ad.o.below hW).lc;refine(ZlK w.heap.size 0 g.first C g.recs.length D W l0 l1 a7 (by omega)).mono ?_
  rintro e w' ⟨rfl,Z⟩
  exact⟨rfl,hW.trans (Z.mono hW.size)⟩)
 obtain⟨n1,a2⟩:∃ n1,n1=(g.recs.drop (a-g.first).toNat).length:=⟨_,rfl⟩;rw[<-a2] at aP aJ;obtain⟨t,af⟩:∃ t,t=g.recs.length:=⟨_,rfl⟩;obtain⟨B,ao⟩:∃ B,B=g.pcs.length:=⟨_,rfl⟩;obtain⟨d,aj⟩:∃ d,d=g.first:=⟨_,rfl⟩
 replace aH:=ZZ (fun O T W hW aY=>aH.o n1 O T W hW aY)
 have aW:Hid (d<=a->a<=d+(t:Int)->∀ W,Below K.heap.size K W->Calls prog 15 #[.agg #[.int .i64 a,.int .i64 kd,.slice M F lc,.bool E,.int .i64 G,.slice H N J],.slice O n1 T] W fun e w'=>∃ n z j p y q,e=.returned (.tuple #[.agg #[.int .i64 c.1.idx,.int .i64 c.1.st.kind,.slice n z j,.bool c.1.st.shut,.int .i64 c.1.st.eng,.slice p y q],.int .i64 c.2])∧Hid (Below W.heap.size W w')∧Hid (c.2=0->∀ W',(∃ Y,Below w'.heap.size w' Y∧Ql (Zon w W.heap.size) Y W')->(B≠0∧d<=a∧a<=d+(t:Int))->Zcq I w (.slice C t D) (.slice U B X) R (.returned (.tuple #[.agg #[.int .i64 d,.slice C t D,.slice U B X],.agg #[.int .i64 c.1.idx,.int .i64 c.1.st.kind,.slice n z j,.bool c.1.st.shut,.int .i64 c.1.st.eng,.slice p y q]])) W')):=ZZ (by
  rw[af,ao,aj]
  exact fun h1 h2 W hW=>aH.o O T W hW (aP.o h1 h2))
 rw[<-af,<-ao,<-aj] at ah;rw[<-af,<-aj] at aO aJ bz;rw[<-af,<-ao,<-aj] at ad ax;rw[<-af] at bA;rw[<-ao] at bC;rw[<-aj] at a7;rw[<-af,<-ao,<-aj];clear aH aP aS aB aT aN aK hR bb br aD hs bm bc ap a0 aQ hr hp hx hi bj a2 af ao aj;obtain⟨Bc,bf⟩:∃ Bc:Bool,Bc=decide (B≠0∧d<=a∧a<=d+(t:Int)):=⟨_,rfl⟩;have ab:=ZZ bf;clear bf
 go_enter func36,ntmps36
 go_upto_region 1 with fail
 rw[<-ax];clear ax
 go_cut[24] (fun v wc=>v=.bool Bc∧Hid (Below K.heap.size K wc))
 case first=>
  obtain⟨ι,bS,V,hV,aV⟩:=ZnO K.heap.size K;have HV:=ZZ hV;obtain⟨i0,aE⟩:=aV K.drew (Below.refl _ _).drew;have d0:∀ i,(V i).cell? ⟨w.heap.size,0,none⟩=some (.int .i64 d):=fun i=>(ad.o.below (HV.o i)).lc.1
  have d2:∀ i,(V i).cell? ⟨w.heap.size,2,none⟩=some (.slice U B X):=fun i=>(ad.o.below (HV.o i)).lc.2.2
  have e0:∀ i,(V i).cell? ⟨w.heap.size+1,0,none⟩=some (.int .i64 a):=fun i=>(ad.o.below (HV.o i)).sc.1
  have a6:Hid (∀ i,Calls prog 38 #[.pointer (some ⟨w.heap.size,0,none⟩)] (V i) fun e w'=>e=.returned (.int .i64 (d+(t:Int)))∧∃ m,w'=V m):=ZZ (fun i=>(aO.o (V i) (HV.o i)).mono fun e w' h=>⟨h.1,aV w' h.2⟩)
  clear hV aV;by_cases q1:B=0
  ·have bq:decide ((B:Int)>0)=false:=decide_eq_false (by omega)
   have bu:decide (0<B)=false:=decide_eq_false (by omega)
   have ae:Bc=false:=by rw[ab.o];exact decide_eq_false (fun h=>h.1 q1)
   clear q1;refine Jn V i0 (by kernel_rfl) (by kernel_rfl) aE.symm ?_
   repeat (go_big_quiet_step (fail))
   refine wpQuiet_nil ?_;intro _ am;obtain⟨nq,ag⟩:=am;subst ag
   go_wp2_with fail
   go_meet
   exact⟨by rw[ae],ZZ (HV.o _)⟩
  have bq:(B:Int)>0:=by omega
  have bu:0<B:=by omega
  by_cases q2:d<=a
  case neg=>
   have aL:decide (d<=a)=false:=decide_eq_false q2;have ae:Bc=false:=by rw[ab.o];exact decide_eq_false (fun h=>q2 h.2.1)
   clear q1 q2;refine Jn V i0 (by kernel_rfl) (by kernel_rfl) aE.symm ?_
   repeat (go_big_quiet_step (fail))
   refine wpQuiet_nil ?_;intro _ am;obtain⟨nq,ag⟩:=am;subst ag
   go_wp2_with fail
   go_meet
   exact⟨by rw[ae],ZZ (HV.o _)⟩
  by_cases q3:a<=d+(t:Int)
  ·have ae:Bc=true:=by rw[ab.o];exact decide_eq_true ⟨q1,q2,q3⟩
   clear q1 ab;generalize d+(t:Int)=NX at *;refine Jn V i0 (by kernel_rfl) (by kernel_rfl) aE.symm ?_
   repeat (go_big_quiet_step ((go_at_call 38;exact a6.o _)))
   refine wpQuiet_nil ?_;intro _ am;obtain⟨nq,ag⟩:=am;subst ag
   go_wp2_with fail
   go_meet
   exact⟨by rw[ae],ZZ (HV.o _)⟩
  ·have aF:decide (a<=d+(t:Int))=false:=decide_eq_false q3
   have ae:Bc=false:=by rw[ab.o];exact decide_eq_false (fun h=>q3 h.2.2)
   clear q1 q3 ab;generalize d+(t:Int)=NX at *;refine Jn V i0 (by kernel_rfl) (by kernel_rfl) aE.symm ?_
   repeat (go_big_quiet_step ((go_at_call 38;exact a6.o _)))
   refine wpQuiet_nil ?_;intro _ am;obtain⟨nq,ag⟩:=am;subst ag
   go_wp2_with fail
   go_meet
   exact⟨by rw[ae],ZZ (HV.o _)⟩
 case rest=>
 obtain⟨f,rfl⟩:∃ W,W=wc:=⟨_,rfl⟩;obtain⟨rfl,aG⟩:=hcut;clear aO;have A:=ZZ (ad.o.below aG.o)
 cases Bc with
 | false=>
  have bl:Hid (¬ ((B≠0∧d<=a∧a<=d+(t:Int))∧c.2=0)):=ZZ (fun h=>of_decide_eq_false ab.o.symm h.1)
  have ar:=ZZ (ah.o bl.o);clear ah bl aW;obtain⟨l0,l1,l2⟩:=A.o.lc;obtain⟨s0,s1,s2,s3,s4,s5⟩:=A.o.sc;obtain⟨o0,p0⟩:=A.o.ol.cell 0 rfl;obtain⟨o1,p1⟩:=A.o.ol.cell 1 rfl;obtain⟨o2,p2⟩:=A.o.ol.cell 2 rfl;obtain⟨u0,v0⟩:=A.o.os.cell 0 rfl;obtain⟨u1,v1⟩:=A.o.os.cell 1 rfl;obtain⟨u2,v2⟩:=A.o.os.cell 2 rfl;obtain⟨u3,v3⟩:=A.o.os.cell 3 rfl;obtain⟨u4,v4⟩:=A.o.os.cell 4 rfl;obtain⟨u5,v5⟩:=A.o.os.cell 5 rfl
  go_upto_region 5 with fail
  go_region
  obtain⟨XX,ac,au,⟨k0,k1,k2⟩,k3,k4,k5,k6,k7,k8⟩:=Zml w f (w.heap.size+1+1) (w.heap.size+1+1+1) rfl rfl A.o.ol A.o.os (.int .i64 a) (.slice none 0 0) (.slice none 0 0) (.int .i64 a) (.int .i64 kd) (.slice M F lc) (.bool E) (.int .i64 G) (.slice H N J);have aw:=ZZ ac;clear ac;go_wp2;rw[<-aw.o];refine bodyPost_ret (v:=.tuple #[.agg #[.int .i64 a,.slice none 0 0,.slice none 0 0],.agg #[.int .i64 a,.int .i64 kd,.slice M F lc,.bool E,.int .i64 G,.slice H N J]]) (by simp[results,Tryz.results36,go_sem,k0,k1,k2,k3,k4,k5,k6,k7,k8]) rfl ?_
  exact ar.o f _ A.o.old au
 | true=>
  have hc:=of_decide_eq_true ab.o.symm;have bw:=ZZ hc;obtain⟨bL,a5,bn⟩:=hc;have hcut:=aJ.o a5 bn;have a9:=ZZ (aW.o a5 bn);have hw:IntKind.i64.wrap (a-d)=a-d:=by rw[IntKind.wrap_i64];omega
  have bI:-9223372036854775808<=a-d:=by omega
  have bH:a-d<=9223372036854775807:=by omega
  obtain⟨l0,l1,l2⟩:=A.o.lc;obtain⟨s0,s1,s2,s3,s4,s5⟩:=A.o.sc;clear aW aJ ab;have HE:Hid (∀ args w,(callFunc 15 args).run prog w=.ok (.enter 15 args) w):=ZZ (enters_of func15 (by kernel_rfl) rfl)
  have aC:Hid (∀ W,Below f.heap.size f W->Calls prog 15 #[.agg #[.int .i64 a,.int .i64 kd,.slice M F lc,.bool E,.int .i64 G,.slice H N J],.slice O n1 T] W fun e w'=>∃ v',e=.returned v'∧∃ n z j p y q,v'=.tuple #[.agg #[.int .i64 c.1.idx,.int .i64 c.1.st.kind,.slice n z j,.bool c.1.st.shut,.int .i64 c.1.st.eng,.slice p y q],.int .i64 c.2]∧Hid (Below W.heap.size W w')∧Hid (c.2=0->∀ W',(∃ Y,Below w'.heap.size w' Y∧Ql (Zon w W.heap.size) Y W')->Zcq I w (.slice C t D) (.slice U B X) R (.returned (.tuple #[.agg #[.int .i64 d,.slice C t D,.slice U B X],.agg #[.int .i64 c.1.idx,.int .i64 c.1.st.kind,.slice n z j,.bool c.1.st.shut,.int .i64 c.1.st.eng,.slice p y q]])) W')):=ZZ (fun W hW=>by
   refine(a9.o W (aG.o.trans (hW.mono aG.o.size))).mono ?_;rintro e w' ⟨n,z,j,p,y,q,rfl,Z,hf⟩
   exact⟨_,rfl,n,z,j,p,y,q,rfl,Z,ZZ (fun h0 W' aU=>hf.out h0 W' aU bw.o)⟩)
  clear a9
  have an:Hid (∀ W,Below f.heap.size f W->(W.cell? ⟨w.heap.size+1,0,none⟩=some (.int .i64 a)∧W.cell? ⟨w.heap.size+1,1,none⟩=some (.int .i64 kd)∧W.cell? ⟨w.heap.size+1,2,none⟩=some (.slice M F lc)∧W.cell? ⟨w.heap.size+1,3,none⟩=some (.bool E)∧W.cell? ⟨w.heap.size+1,4,none⟩=some (.int .i64 G)∧W.cell? ⟨w.heap.size+1,5,none⟩=some (.slice H N J)∧W.cell? ⟨w.heap.size,0,none⟩=some (.int .i64 d)∧W.cell? ⟨w.heap.size,1,none⟩=some (.slice C t D))):=ZZ (fun W h=>by
   obtain⟨g0,g1,g2⟩:=(A.o.below h).lc;obtain⟨e0,e1,e2,e3,e4,e5⟩:=(A.o.below h).sc
   exact⟨e0,e1,e2,e3,e4,e5,g0,g1⟩)
  obtain⟨T1,bd⟩:∃ T1,T1=c.1.idx:=⟨_,rfl⟩;obtain⟨T2,a8⟩:∃ T2,T2=c.1.st.kind:=⟨_,rfl⟩;obtain⟨T3,be⟩:∃ T3,T3=c.1.st.shut:=⟨_,rfl⟩;obtain⟨T4,bi⟩:∃ T4,T4=c.1.st.eng:=⟨_,rfl⟩;obtain⟨T5,aZ⟩:∃ T5,T5=c.2:=⟨_,rfl⟩;rw[<-bd,<-a8,<-be,<-bi,<-aZ] at aC;rw[<-aZ] at ah;clear bd a8 be bi aZ;have ay:Hid (Below f.heap.size f f.drew):=ZZ (Below.refl _ _).drew;have av:Hid (Below f.heap.size f (f.alloc (.cells #[.int .i64 0,.int .i64 0,.slice none 0 0,.bool false,.int .i64 0,.slice none 0 0] 41)).drew):=ZZ ((Below.refl _ _).alloc zL _).drew;have aX:Hid (w.heap.size+4<=f.heap.size):=ZZ (by have:=aG.o.size;omega)
  clear l0 l1 l2 s0 s1 s2 s3 s4 s5
  go_upto_region 2 with fail
  go_cut[6,7] (fun v6 v7 wc=>∃ (b:Nat) (n:Option Addr) (z j:Nat) (p:Option Addr) (y q:Nat),v6=.pointer (some ⟨b,0,none⟩)∧v7=.int .i64 T5∧Hid (w.heap.size+4<=b)∧Hid (Bk 41 wc b #[.int .i64 T1,.int .i64 T2,.slice n z j,.bool T3,.int .i64 T4,.slice p y q])∧Hid (Below f.heap.size f wc)∧
   Hid (T5=0->∀ W',Ql (Zon w 0) wc W'->Zcq I w (.slice C t D) (.slice U B X) R (.returned (.tuple #[.agg #[.int .i64 d,.slice C t D,.slice U B X],.agg #[.int .i64 T1,.int .i64 T2,.slice n z j,.bool T3,.int .i64 T4,.slice p y q]])) W'))
  case first=>
   go_region_held2(fun W=>W.cell? ⟨w.heap.size+1,0,none⟩=some (.int .i64 a)∧W.cell? ⟨w.heap.size+1,1,none⟩=some (.int .i64 kd)∧W.cell? ⟨w.heap.size+1,2,none⟩=some (.slice M F lc)∧W.cell? ⟨w.heap.size+1,3,none⟩=some (.bool E)∧W.cell? ⟨w.heap.size+1,4,none⟩=some (.int .i64 G)∧W.cell? ⟨w.heap.size+1,5,none⟩=some (.slice H N J)∧W.cell? ⟨w.heap.size,0,none⟩=some (.int .i64 d)∧W.cell? ⟨w.heap.size,1,none⟩=some (.slice C t D))
    (first | (with_reducible exact an.o _ ay.o) | (with_reducible exact an.o _ av.o) | (with_reducible exact an.o _ aa.o) | (with_reducible exact an.o _ (Zoo aa.o _ zL _ _ _ _ _ _)) | (with_reducible exact an.o _ (aa.o.alloc aa.o.size _)))
    (first
     | ((with_reducible refine Y4 15 _ _ rfl rfl #[.agg #[.int .i64 a,.int .i64 kd,.slice M F lc,.bool E,.int .i64 G,.slice H N J],.slice O n1 T] (by simp[Act.eval]) HE.o (aC.o f.drew ay.o) ?_);rintro v' u ⟨n,z,j,p,y,q,rfl,aI,al⟩;have aa:Hid (Below f.heap.size f u):=ZZ (ay.o.trans aI.o))
     | ((with_reducible refine Y4 15 _ _ rfl rfl #[.agg #[.int .i64 a,.int .i64 kd,.slice M F lc,.bool E,.int .i64 G,.slice H N J],.slice O n1 T] (by simp[Act.eval]) HE.o (aC.o (f.alloc (.cells #[.int .i64 0,.int .i64 0,.slice none 0 0,.bool false,.int .i64 0,.slice none 0 0] 41)).drew av.o) ?_);rintro v' u ⟨n,z,j,p,y,q,rfl,aI,al⟩;have aa:Hid (Below f.heap.size f u):=ZZ (av.o.trans (aI.o.mono av.o.size));have ak:Hid (Bk 41 u f.heap.size #[.int .i64 0,.int .i64 0,.slice none 0 0,.bool false,.int .i64 0,.slice none 0 0]):=ZZ (Zzk f _ u aI.o);obtain⟨z0,y0⟩:=ak.o.cell 0 rfl;obtain⟨z1,y1⟩:=ak.o.cell 1 rfl;obtain⟨z2,y2⟩:=ak.o.cell 2 rfl;obtain⟨z3,y3⟩:=ak.o.cell 3 rfl;obtain⟨z4,y4⟩:=ak.o.cell 4 rfl;obtain⟨z5,y5⟩:=ak.o.cell 5 rfl))
   all_goals
    go_wp2_with fail
    go_meet
    first
     | exact⟨_,n,z,j,p,y,q,rfl,rfl,aX,ZZ ((((((ak.o.set 0 _).set 1 _).set 2 _).set 3 _).set 4 _).set 5 _),ZZ (Zoo aa.o _ zL _ _ _ _ _ _),ZZ (fun h0 W' ho=>al.o h0 W' ⟨_,Below.refl _ _,(Zzj u f.heap.size _ _ _ _ _ _ (fun k=>Zon w (f.alloc (.cells #[.int .i64 0,.int .i64 0,.slice none 0 0,.bool false,.int .i64 0,.slice none 0 0] 41)).drew.heap.size k) (.inr ⟨aX.o,ZAw f _⟩)).trans (ho.mono (fun k hk=>hk.more)) (fun _ _ h=>h)⟩)⟩
     | exact⟨_,n,z,j,p,y,q,rfl,rfl,ZZ (Nat.le_trans aX.o aa.o.size),ZZ (heap_alloc_new u _),ZZ (aa.o.alloc aa.o.size _),ZZ (fun h0 W' ho=>al.o h0 W' ⟨_,Jw u _,ho.mono (fun k hk=>hk.more)⟩)⟩
  case rest=>
  obtain⟨b,n,z,j,p,y,q,rfl,rfl,az,ai,bx,al⟩:=hcut;obtain⟨WC,rfl⟩:∃ W,W=wc:=⟨_,rfl⟩;have Q:=ZZ (A.o.below bx.o);clear aC an ay av HE hcut;obtain⟨l0,l1,l2⟩:=Q.o.lc;obtain⟨s0,s1,s2,s3,s4,s5⟩:=Q.o.sc;obtain⟨o0,p0⟩:=Q.o.ol.cell 0 rfl;obtain⟨o1,p1⟩:=Q.o.ol.cell 1 rfl;obtain⟨o2,p2⟩:=Q.o.ol.cell 2 rfl;obtain⟨u0,v0⟩:=Q.o.os.cell 0 rfl;obtain⟨u1,v1⟩:=Q.o.os.cell 1 rfl;obtain⟨u2,v2⟩:=Q.o.os.cell 2 rfl;obtain⟨u3,v3⟩:=Q.o.os.cell 3 rfl;obtain⟨u4,v4⟩:=Q.o.os.cell 4 rfl;obtain⟨u5,v5⟩:=Q.o.os.cell 5 rfl;by_cases hT:T5=0
  case neg=>
   have bt:(T5 == 0)=false:=beq_eq_false_iff_ne.2 hT;have ar:=ZZ (ah.o (fun h=>hT h.2))
   clear ah al ai hT
   go_upto_region 5 with fail
   go_region
   obtain⟨XX,ac,au,⟨k0,k1,k2⟩,k3,k4,k5,k6,k7,k8⟩:=Zml w WC (w.heap.size+1+1) (w.heap.size+1+1+1) rfl rfl Q.o.ol Q.o.os (.int .i64 a) (.slice none 0 0) (.slice none 0 0) (.int .i64 a) (.int .i64 kd) (.slice M F lc) (.bool E) (.int .i64 G) (.slice H N J);have aw:=ZZ ac;clear ac;go_wp2;rw[<-aw.o];refine bodyPost_ret (v:=.tuple #[.agg #[.int .i64 a,.slice none 0 0,.slice none 0 0],.agg #[.int .i64 a,.int .i64 kd,.slice M F lc,.bool E,.int .i64 G,.slice H N J]]) (by simp[results,Tryz.results36,go_sem,k0,k1,k2,k3,k4,k5,k6,k7,k8]) rfl ?_
   exact ar.o WC _ Q.o.old au
  have bt:(T5 == 0)=true:=by rw[beq_iff_eq];exact hT
  have ar:=ZZ (al.o hT);obtain⟨x0,-⟩:=ai.o.cell 0 rfl;obtain⟨x1,-⟩:=ai.o.cell 1 rfl;obtain⟨x2,-⟩:=ai.o.cell 2 rfl;obtain⟨x3,-⟩:=ai.o.cell 3 rfl;obtain⟨x4,-⟩:=ai.o.cell 4 rfl;obtain⟨x5,-⟩:=ai.o.cell 5 rfl;have bP:¬ (b=w.heap.size+1+1):=by have:=az.o;omega
  have bU:¬ (b=w.heap.size+1+1+1):=by have:=az.o;omega
  have bR:¬ (w.heap.size+1+1=b):=by have:=az.o;omega
  have bF:¬ (w.heap.size+1+1+1=b):=by have:=az.o;omega
  clear ah al hT s0 s1 s2 s3 s4 s5
  go_upto_region 4 with fail
  go_region
  obtain⟨XX,ac,au,⟨k0,k1,k2⟩,k3,k4,k5,k6,k7,k8⟩:=Zml w WC (w.heap.size+1+1) (w.heap.size+1+1+1) rfl rfl Q.o.ol Q.o.os (.int .i64 d) (.slice C t D) (.slice U B X) (.int .i64 T1) (.int .i64 T2) (.slice n z j) (.bool T3) (.int .i64 T4) (.slice p y q);have aw:=ZZ ac;clear ac;go_wp2;rw[<-aw.o];refine bodyPost_ret (v:=.tuple #[.agg #[.int .i64 d,.slice C t D,.slice U B X],.agg #[.int .i64 T1,.int .i64 T2,.slice n z j,.bool T3,.int .i64 T4,.slice p y q]]) (by simp[results,Tryz.results36,go_sem,k0,k1,k2,k3,k4,k5,k6,k7,k8]) rfl ?_
  exact ar.o _ au
end Go.Proofs.YtnahjngbneicaaaGreatDoor
