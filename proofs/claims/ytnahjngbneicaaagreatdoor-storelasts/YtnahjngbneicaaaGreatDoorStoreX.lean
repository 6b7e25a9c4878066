import Derived.Test.YtnahjngbneicaaaGreatDoorStoreOpenM
namespace Go.Proofs.YtnahjngbneicaaaGreatDoor
open _root_.Go.Proofs.Tryz
set_option maxRecDepth 100000
open Go.RowKit
variable {W W' w:World} {a b c d e g pv rv:Value} {f:Int} {C:Nat}
theorem Zih.inside {w':World} {x:Q0 × Value × Value} {I:Nat->Prop} {l:List Rec} {r:Q0 × Int} (u:SnR w x) (hi:Zmp I x) (i:RdI w' c r.1.st.L) (g1:c=x.2.1∨∀ b,c.ownBlock=some b->w.heap.size<=b)
 (g2:(l=[]∧e=x.2.2)∨Xn w' w.heap.size e r.1.tab) (p:l=[]->r.1=x.1):Zmp (fun k=>I k∨(w.heap.size<=k∧k<w'.heap.size)) (r.1,c,e):=by
 refine⟨?_,?_⟩
 ·rcases i.block with q | ⟨y,k,f,n⟩
  ·exact .inl q
  ·rcases g1 with g1 | g1
   ·rcases hi.1 with hi | hi
    ·obtain⟨A,z,j,-⟩:=u.l
     obtain⟨B,v,d,-⟩:=i;rw[hi] at j;rw[g1,j] at d
     injection d with _ d _
     exact .inl (zaj (by rw[<-d];rfl))
    ·exact .inr fun g a=>.inl (hi g (by rw[<-g1];exact a))
   ·refine .inr fun g a=>.inr ⟨g1 g a,?_⟩
    have t:c.ownBlock=some g:=a;rw[t] at f;obtain rfl:=zak f;exact n
 ·rcases g2 with ⟨m,g2⟩ | g2
  ·rcases hi.2 with hi | hi
   ·exact .inl (by show r.1.tab=[];rw[p m];exact hi)
   ·exact .inr fun g a=>.inl (hi g (by rw[<-g2];exact a))
  ·exact .inr fun g a=>.inr (zar g2 g a)
theorem ZzX (w:World) (X Y Z:Obj):(((w.alloc X).alloc Y).alloc Z).heap[w.heap.size+2]?=some Z:=by
 have h:=zaf ((w.alloc X).alloc Y) Z;have e:((w.alloc X).alloc Y).heap.size=w.heap.size+2:=by simp
 rw[e] at h;exact h
theorem ZzY (w:World) (X Y Z U:Obj):((((w.alloc X).alloc Y).alloc Z).alloc U).heap[w.heap.size+3]?=some U:=by
 have h:=zaf (((w.alloc X).alloc Y).alloc Z) U;have e:(((w.alloc X).alloc Y).alloc Z).heap.size=w.heap.size+3:=by simp
 rw[e] at h;exact h
def Zcq (I:Nat->Prop) (w:World) (rv pv:Value) (r:Lgb × Q0) (e:Ending) (w':World):Prop:=
 ∃ rv' pv' vl vt,e=.returned (.tuple #[.agg #[.int .i64 r.1.first,rv',pv'],snV (r.2,vl,vt)])∧Xj w' 0 rv' r.1.recs∧w'.ownsRow 0 108 3 pv' r.1.pcs.length (Q6 r.1.pcs)∧(rv'=rv∨rv'=.slice none 0 0)∧(pv'=pv∨pv'=.slice none 0 0)∧
  SnR w' (r.2,vl,vt)∧Zmp (fun k=>I k∨(w.heap.size<=k∧k<w'.heap.size)) (r.2,vl,vt)∧Below w.heap.size w w'
structure Zyn (w:World) (f:Int) (rv pv:Value) (x0 x1 x2 x3 x4 x5:Value) (W:World):Prop where
 lg:Bk 73 W w.heap.size #[.int .i64 f,rv,pv]
 sn:Bk 41 W (w.heap.size+1) #[x0,x1,x2,x3,x4,x5]
 ol:Bk 73 W (w.heap.size+2) #[.int .i64 0,.slice none 0 0,.slice none 0 0]
 os:Bk 41 W (w.heap.size+3) #[.int .i64 0,.int .i64 0,.slice none 0 0,.bool false,.int .i64 0,.slice none 0 0]
 old:Below w.heap.size w W
theorem Zyn.below {i:Value} (h:Zyn w f rv pv i c b d g e W) (a:Below W.heap.size W W'):Zyn w f rv pv i c b d g e W':=
 ⟨h.lg.keep (a.block _ h.lg.lt),h.sn.keep (a.block _ h.sn.lt),h.ol.keep (a.block _ h.ol.lt),h.os.keep (a.block _ h.os.lt),h.old.trans (a.mono h.old.size)⟩
theorem Zyn.lc (h:Zyn w f rv pv g c a b e d W):W.cell? ⟨w.heap.size,0,none⟩=some (.int .i64 f)∧W.cell? ⟨w.heap.size,1,none⟩=some rv∧W.cell? ⟨w.heap.size,2,none⟩=some pv:=
 ⟨(h.lg.cell 0 rfl).1,(h.lg.cell 1 rfl).1,(h.lg.cell 2 rfl).1⟩
theorem Zyn.sc (h:Zyn w f rv pv g c a b e d W):
 W.cell? ⟨w.heap.size+1,0,none⟩=some g∧W.cell? ⟨w.heap.size+1,1,none⟩=some c∧W.cell? ⟨w.heap.size+1,2,none⟩=some a∧W.cell? ⟨w.heap.size+1,3,none⟩=some b∧W.cell? ⟨w.heap.size+1,4,none⟩=some e∧W.cell? ⟨w.heap.size+1,5,none⟩=some d:=
 ⟨(h.sn.cell 0 rfl).1,(h.sn.cell 1 rfl).1,(h.sn.cell 2 rfl).1,(h.sn.cell 3 rfl).1,(h.sn.cell 4 rfl).1,(h.sn.cell 5 rfl).1⟩
def Zon (w:World) (C:Nat) (k:Nat):Prop:=(k=w.heap.size+2∨k=w.heap.size+3)∨(w.heap.size+4<=k∧k<C)
theorem Zon.more {k:Nat} (h:Zon w 0 k):Zon w C k:=by
 rcases h with h | h
 ·exact .inl h
 ·omega
theorem ZxQ (w W:World) (c a:Nat) (l:c=w.heap.size+2) (e:a=w.heap.size+3) (p m i g q j n f k:Value):Ql (Zon w 0) W (((((((((W.setCell ⟨c,0,none⟩ p).setCell ⟨c,1,none⟩ m).setCell ⟨c,2,none⟩ i).setCell ⟨a,0,none⟩ g).setCell ⟨a,1,none⟩ q).setCell ⟨a,2,none⟩ j).setCell ⟨a,3,none⟩ n).setCell ⟨a,4,none⟩ f).setCell ⟨a,5,none⟩ k):=by
 have d:Zon w 0 c:=.inl (.inl l);have b:Zon w 0 a:=.inl (.inr e);exact(((((((((Ql.refl _ _).setCell _ (fun _=>d) _).setCell _ (fun _=>d) _).setCell _ (fun _=>d) _).setCell _ (fun _=>b) _).setCell _ (fun _=>b) _).setCell _ (fun _=>b) _).setCell _ (fun _=>b) _).setCell _ (fun _=>b) _).setCell _ (fun _=>b) _
theorem Zml (w W:World) (b a:Nat) (J:b=w.heap.size+2) (G:a=w.heap.size+3) {F B H x y z A E C:Value} (D:Bk 73 W b #[F,B,H]) (I:Bk 41 W a #[x,y,z,A,E,C]) (f l m d g k e j i:Value):
 ∃ c,c=(((((((((W.setCell ⟨b,0,none⟩ f).setCell ⟨b,1,none⟩ l).setCell ⟨b,2,none⟩ m).setCell ⟨a,0,none⟩ d).setCell ⟨a,1,none⟩ g).setCell ⟨a,2,none⟩ k).setCell ⟨a,3,none⟩ e).setCell ⟨a,4,none⟩ j).setCell ⟨a,5,none⟩ i).drew∧Ql (Zon w 0) W c∧(c.cell? ⟨b,0,none⟩=some f∧c.cell? ⟨b,1,none⟩=some l∧c.cell? ⟨b,2,none⟩=some m)∧(c.cell? ⟨a,0,none⟩=some d∧c.cell? ⟨a,1,none⟩=some g∧c.cell? ⟨a,2,none⟩=some k∧c.cell? ⟨a,3,none⟩=some e∧c.cell? ⟨a,4,none⟩=some j∧c.cell? ⟨a,5,none⟩=some i):=by
 have n:b≠a:=by omega
 have v:Bk 73 (((((((((W.setCell ⟨b,0,none⟩ f).setCell ⟨b,1,none⟩ l).setCell ⟨b,2,none⟩ m).setCell ⟨a,0,none⟩ d).setCell ⟨a,1,none⟩ g).setCell ⟨a,2,none⟩ k).setCell ⟨a,3,none⟩ e).setCell ⟨a,4,none⟩ j).setCell ⟨a,5,none⟩ i) b #[f,l,m]:=((((((((D.set 0 f).set 1 l).set 2 m).other a 0 d n).other a 1 g n).other a 2 k n).other a 3 e n).other a 4 j n).other a 5 i n;have u:Bk 41 (((((((((W.setCell ⟨b,0,none⟩ f).setCell ⟨b,1,none⟩ l).setCell ⟨b,2,none⟩ m).setCell ⟨a,0,none⟩ d).setCell ⟨a,1,none⟩ g).setCell ⟨a,2,none⟩ k).setCell ⟨a,3,none⟩ e).setCell ⟨a,4,none⟩ j).setCell ⟨a,5,none⟩ i) a #[d,g,k,e,j,i]:=(((((((((I.other b 0 f n.symm).other b 1 l n.symm).other b 2 m n.symm).set 0 d).set 1 g).set 2 k).set 3 e).set 4 j).set 5 i);have p:=ZxQ w W b a J G f l m d g k e j i
 revert v u p
 generalize (((((((((W.setCell ⟨b,0,none⟩ f).setCell ⟨b,1,none⟩ l).setCell ⟨b,2,none⟩ m).setCell ⟨a,0,none⟩ d).setCell ⟨a,1,none⟩ g).setCell ⟨a,2,none⟩ k).setCell ⟨a,3,none⟩ e).setCell ⟨a,4,none⟩ j).setCell ⟨a,5,none⟩ i)=Y;intro v u p;have t:Bk 73 Y.drew b #[f,l,m]:=v;have q:Bk 41 Y.drew a #[d,g,k,e,j,i]:=u;exact⟨Y.drew,rfl,⟨p.os,p.tape,p.output,p.size,p.block⟩,⟨(t.cell 0 rfl).1,(t.cell 1 rfl).1,(t.cell 2 rfl).1⟩,(q.cell 0 rfl).1,(q.cell 1 rfl).1,(q.cell 2 rfl).1,(q.cell 3 rfl).1,(q.cell 4 rfl).1,(q.cell 5 rfl).1⟩
theorem ZkS (a:Below w.heap.size w W) (b:w.heap.size<=W.heap.size) (c:Ql (Zon w C) W W'):Below w.heap.size w W':=
 a.trans (c.below b fun k hk=>by
  rcases hk with hk | hk
  ·omega
  ·omega)
theorem Zzj (W:World) (R:Nat) (g d b c f e:Value) (G:Nat->Prop) (a:G R):Ql G W ((((((W.setCell ⟨R,0,none⟩ g).setCell ⟨R,1,none⟩ d).setCell ⟨R,2,none⟩ b).setCell ⟨R,3,none⟩ c).setCell ⟨R,4,none⟩ f).setCell ⟨R,5,none⟩ e):=
 ((((((Ql.refl G W).setCell 0 (fun _=>a) g).setCell 1 (fun _=>a) d).setCell 2 (fun _=>a) b).setCell 3 (fun _=>a) c).setCell 4 (fun _=>a) f).setCell 5 (fun _=>a) e
theorem ZAw (a:World) (X:Obj):a.heap.size<(a.alloc X).drew.heap.size:=by
 have:(a.alloc X).drew.heap.size=a.heap.size+1:=by simp[World.drew]
 omega
theorem Zzk (a:World) (cs:Array Value) (b:World) (d:Below (a.alloc (.cells cs 41)).drew.heap.size (a.alloc (.cells cs 41)).drew b):Bk 41 b a.heap.size cs:=by
 have c:Bk 41 (a.alloc (.cells cs 41)).drew a.heap.size cs:=zaf a _;exact c.keep (d.block _ c.lt)
theorem Zoo {B:Nat} {a:World} (h:Below B a W) (R:Nat) (b:B<=R) (i e c d g f:Value):Below B a ((((((W.setCell ⟨R,0,none⟩ i).setCell ⟨R,1,none⟩ e).setCell ⟨R,2,none⟩ c).setCell ⟨R,3,none⟩ d).setCell ⟨R,4,none⟩ g).setCell ⟨R,5,none⟩ f):=
 (((((h.setCell (p:=⟨R,0,none⟩) b i).setCell (p:=⟨R,1,none⟩) b e).setCell (p:=⟨R,2,none⟩) b c).setCell (p:=⟨R,3,none⟩) b d).setCell (p:=⟨R,4,none⟩) b g).setCell (p:=⟨R,5,none⟩) b f
set_option maxHeartbeats 4000000 in
theorem Ztu (I:Nat->Prop) (g:Lgb) (rv pv:Value) (x:Q0 × Value × Value) (w:World) (hr:Xj w 0 rv g.recs) (hp:w.ownsRow 0 108 3 pv g.pcs.length (Q6 g.pcs)) (hx:SnR w x) (hi:Zmp I x) (bq:∀ k,I k->k<w.heap.size) (aB:OkG g) (hs:SnS x.1) (a6:g.recs.length<=9000000) (bC:g.pcs.length<=900000):
 Calls prog 36 #[.agg #[.int .i64 g.first,rv,pv],snV x] w fun e w'=>Zcq I w rv pv (g.behind x.1) e w':=by
 obtain⟨C,D,bB⟩:=hr.shape;obtain⟨X,U,br⟩:=Z8 hp;obtain⟨J,G,lc,F,N,H,a2,ba⟩:=hx.shape;have aV:Hid (snV x=.agg #[.int .i64 x.1.idx,.int .i64 x.1.st.kind,.slice J G lc,.bool x.1.st.shut,.int .i64 x.1.st.eng,.slice F N H]):=ZZ (by unfold snV snC;rw[a2,ba])
 have bo:=aB.f0;have bg:=aB.top;have bj:=ZZ (hr.rd aB.recOk)
 have aP:Hid (¬ g.leads x.1->∀ W W',Below w.heap.size w W->Ql (Zon w 0) W W'->Zcq I w rv pv (g.behind x.1) (.returned (.tuple #[.agg #[.int .i64 x.1.idx,.slice none 0 0,.slice none 0 0],.agg #[.int .i64 x.1.idx,.int .i64 x.1.st.kind,.slice J G lc,.bool x.1.st.shut,.int .i64 x.1.st.eng,.slice F N H]])) W'):=ZZ (fun hn W W' Z ho=>by
  have ar:=ZkS Z Z.size ho;unfold Lgb.behind;rw[zaa hn]
  refine⟨_,_,x.2.1,x.2.2,by rw[<-aV.o],Xj.nil _ _,zcb _ _ _ _,.inr rfl,.inr rfl,hx.below ar zL,hi.mono (fun k hk=>.inl hk),ar⟩)
 have aF:Hid (g.leads x.1->∀ (W u W':World) (vx vu:Value),Below w.heap.size w W->w.heap.size+4<=W.heap.size->RdI u vx (Q3 x.1 (g.recs.drop (x.1.idx-g.first).toNat)).1.st.L->RdE u vu (Q3 x.1 (g.recs.drop (x.1.idx-g.first).toNat)).1.tab->I64 (Q3 x.1 (g.recs.drop (x.1.idx-g.first).toNat)).1.st.kind->I64 (Q3 x.1 (g.recs.drop (x.1.idx-g.first).toNat)).1.st.eng->I64 (Q3 x.1 (g.recs.drop (x.1.idx-g.first).toNat)).1.idx->
  Zmp (fun k=>I k∨(W.heap.size<=k∧k<u.heap.size)) ((Q3 x.1 (g.recs.drop (x.1.idx-g.first).toNat)).1,vx,vu)->Below W.heap.size W u->(∃ Y,Below u.heap.size u Y∧Ql (Zon w W.heap.size) Y W')->
  Zcq I w rv pv (g.behind x.1) (.returned (.tuple #[.agg #[.int .i64 g.first,rv,pv],.agg #[.int .i64 (Q3 x.1 (g.recs.drop (x.1.idx-g.first).toNat)).1.idx,.int .i64 (Q3 x.1 (g.recs.drop (x.1.idx-g.first).toNat)).1.st.kind,vx,.bool (Q3 x.1 (g.recs.drop (x.1.idx-g.first).toNat)).1.st.shut,.int .i64 (Q3 x.1 (g.recs.drop (x.1.idx-g.first).toNat)).1.st.eng,vu]])) W'):=ZZ (fun hn W u W' vx vu Z bV k1 k2 k3 k4 k5 k6 aY ⟨Y,aD,ho⟩=>by
  have aO:Below w.heap.size w u:=Z.trans (aY.mono Z.size);have bf:Below w.heap.size w Y:=aO.trans (aD.mono aO.size);have ar:=ZkS bf bf.size ho;have bT:=aY.size;have bJ:=aD.size;have bK:=ho.size
  have bE:∀ k,(I k∨(W.heap.size<=k∧k<u.heap.size))->W'.heap[k]?=u.heap[k]?:=fun k hk=>by
   have a8:k<u.heap.size∧¬ Zon w W.heap.size k:=by
    rcases hk with hk | hk
    ·have:=bq k hk
     refine⟨by have:=aO.size;omega,fun h=>?_⟩
     rcases h with h | h <;> omega
    ·refine⟨hk.2,fun h=>?_⟩
     rcases h with h | h <;> omega
   rw[ho.block k (by omega) a8.2,aD.block k a8.1]
  have hS:SnR u ((Q3 x.1 (g.recs.drop (x.1.idx-g.first).toNat)).1,vx,vu):=⟨k1,k2,k3,k4,k5⟩;unfold Lgb.behind;rw[zab hn]
  exact⟨rv,pv,vx,vu,rfl,hr.below ar zL,Qh hp (fun k hk=>ar.block k (zar hp k hk).2),.inl rfl,.inl rfl,hS.keep k6 bE,k6.mono (fun k hk=>hk.imp id (fun h=>⟨by have:=Z.size;omega,by omega⟩)),ar⟩)
 have ap:=ZZ (And.intro hx (And.intro hi hs));obtain⟨E,av⟩:=zgy ((((w.alloc (.cells #[.int .i64 g.first,.slice C g.recs.length D,.slice X g.pcs.length U] 73)).alloc (.cells #[.int .i64 x.1.idx,.int .i64 x.1.st.kind,.slice J G lc,.bool x.1.st.shut,.int .i64 x.1.st.eng,.slice F N H] 41)).alloc (.cells #[.int .i64 0,.slice none 0 0,.slice none 0 0] 73)).alloc (.cells #[.int .i64 0,.int .i64 0,.slice none 0 0,.bool false,.int .i64 0,.slice none 0 0] 41));have bQ:E.heap.size=w.heap.size+4:=by rw[av];simp
 have ac:Hid (Zyn w g.first (.slice C g.recs.length D) (.slice X g.pcs.length U) (.int .i64 x.1.idx) (.int .i64 x.1.st.kind) (.slice J G lc) (.bool x.1.st.shut) (.int .i64 x.1.st.eng) (.slice F N H) E):=ZZ (by
  rw[av];refine⟨?_,?_,?_,?_,(((zac _ _).alloc zL _).alloc (by simp) _).alloc (by simp;omega) _ |>.alloc (by simp;omega) _⟩
  ·exact(zao _ _ _ (by simp;omega)).trans ((zao _ _ _ (by simp;omega)).trans ((zao _ _ _ (by simp)).trans (zaf w _)))
  ·exact(zao _ _ _ (by simp)).trans ((zao _ _ _ (by simp)).trans (ZdR w _ _))
  ·exact(zao _ _ _ (by simp)).trans (ZzX w _ _ _)
  ·exact ZzY w _ _ _ _)
 obtain⟨⟨a,⟨kd,LL,M,K⟩,tb⟩,bO,bH⟩:=x
 dsimp only at *
 subst a2 ba;obtain⟨c,aC⟩:=zgy (Q3 ⟨a,⟨kd,LL,M,K⟩,tb⟩ (g.recs.drop (a-g.first).toNat));rw[<-aC] at aF;have aR:=ZZ aC
 have aN:Hid (g.leads ⟨a,⟨kd,LL,M,K⟩,tb⟩↔(g.pcs.length≠0∧g.first<=a∧a<=g.first+(g.recs.length:Int))∧c.2=0):=ZZ (by
  unfold Lgb.leads;rw[aC,and_assoc,and_assoc]
  exact Iff.rfl)
 rw[aV.o];subst bB br;obtain⟨R,hR⟩:=zgy (g.behind ⟨a,⟨kd,LL,M,K⟩,tb⟩);rw[<-hR] at aP aF ⊢;have bk:=ZZ (And.intro a6 hr);have bA:(g.recs.length:Int)<=9000000:=by omega
 have bF:(g.pcs.length:Int)<=900000:=by omega
 have bx:g.first+(g.recs.length:Int)<=4611686018427387904:=bg
 have aA:Hid (∀ (n1:Nat) (Q:Option Addr) (T:Nat) (W:World),Below E.heap.size E W->RdR w (.slice Q n1 T) (g.recs.drop (a-g.first).toNat)->Calls prog 15 #[.agg #[.int .i64 a,.int .i64 kd,.slice J G lc,.bool M,.int .i64 K,.slice F N H],.slice Q n1 T] W fun e w'=>∃ n y j q z p,e=.returned (.tuple #[.agg #[.int .i64 c.1.idx,.int .i64 c.1.st.kind,.slice n y j,.bool c.1.st.shut,.int .i64 c.1.st.eng,.slice q z p],.int .i64 c.2])∧Hid (Below W.heap.size W w')∧Hid (c.2=0->∀ W',(∃ Y,Below w'.heap.size w' Y∧Ql (Zon w W.heap.size) Y W')->(g.pcs.length≠0∧g.first<=a∧a<=g.first+(g.recs.length:Int))->Zcq I w (.slice C g.recs.length D) (.slice X g.pcs.length U) R (.returned (.tuple #[.agg #[.int .i64 g.first,.slice C g.recs.length D,.slice X g.pcs.length U],.agg #[.int .i64 c.1.idx,.int .i64 c.1.st.kind,.slice n y j,.bool c.1.st.shut,.int .i64 c.1.st.eng,.slice q z p]])) W')):=ZZ (fun n1 Q T W hW aW=>by
  have aX:Below w.heap.size w W:=ac.o.old.trans (hW.mono ac.o.old.size);have bU:=hW.size;have a5:=ap.o.1.below aX zL;have bu:=a5.snV;have hL:LL.length<=1000:=by have:=ZlJ ap.o.2.2.1;exact zas this (by decide)
  have hT:tb.length<=1000:=by have:=ap.o.2.2.2.few;exact zas this (by decide)
  refine(Zij (P:=SnS) (fun S r hS hf=>hS.next hf) (fun S hS=>by have:=hS.2.few;omega) _ _ _ _ _ _ ⟨a,⟨kd,LL,M,K⟩,tb⟩ _ _ W bu (aW.below aX zL) hL hT (by rw[zce];have:=bk.o.1;omega) ap.o.2.2).mono ?_
  rw[<-aR.o];rintro e w' ⟨vx,vu,rfl,r1,r2,r3,r4,r5,g1,g2,Z⟩;have aK:=Zih.inside (x:=(⟨a,⟨kd,LL,M,K⟩,tb⟩,.slice J G lc,.slice F N H)) (l:=g.recs.drop (a-g.first).toNat) a5 ap.o.2.1 r1 g1 g2 (fun hl=>by rw[aR.o,hl];rfl)
  obtain⟨n,j,bt,-⟩:=id r1;obtain⟨q,p,hu⟩:=r4.shape;have HP:=fun h0 hc=>aF.o (aN.o.2 ⟨hc,h0⟩) W w'
  subst bt hu
  exact⟨n,_,j,q,_,p,rfl,ZZ Z,ZZ (fun h0 W' aZ hc=>HP h0 hc W' _ _ aX (by omega) r1 r4 r2 r3 r5 aK Z aZ)⟩)
 obtain⟨Q,T,bn,a4⟩:∃ Q T,(g.first<=a->a<=g.first+(g.recs.length:Int)->RdR w (.slice Q (g.recs.drop (a-g.first).toNat).length T) (g.recs.drop (a-g.first).toNat))∧(g.first<=a->a<=g.first+(g.recs.length:Int)->∀ W,(Instr.sliceAt 29 (.slice C g.recs.length D) (some (.int .i64 (a-g.first))) none none).run prog W=.ok (.slice Q (g.recs.drop (a-g.first).toNat).length T) W):=by
  by_cases aK:g.first<=a∧a<=g.first+(g.recs.length:Int)
  ·obtain⟨Q,T,h1,h2⟩:=Zvf w C g.recs D bj.o (a-g.first).toNat (by omega)
   exact⟨Q,T,fun _ _=>h1,fun _ _=>h2 _ (by omega)⟩
  ·exact⟨none,0,fun h1 h2=>absurd ⟨h1,h2⟩ aK,fun h1 h2=>absurd ⟨h1,h2⟩ aK⟩
 have aS:=ZZ bn;have aJ:=ZZ a4;clear bn a4;have aj:Hid (¬ ((g.pcs.length≠0∧g.first<=a∧a<=g.first+(g.recs.length:Int))∧c.2=0)->∀ W W',Below w.heap.size w W->Ql (Zon w 0) W W'->Zcq I w (.slice C g.recs.length D) (.slice X g.pcs.length U) R (.returned (.tuple #[.agg #[.int .i64 a,.slice none 0 0,.slice none 0 0],.agg #[.int .i64 a,.int .i64 kd,.slice J G lc,.bool M,.int .i64 K,.slice F N H]])) W'):=ZZ (fun hn=>aP.o (fun h=>hn (aN.o.1 h)))
 have aU:Hid (∀ W,Below E.heap.size E W->Calls prog 38 #[.pointer (some ⟨w.heap.size,0,none⟩)] W fun e w'=>e=.returned (.int .i64 (g.first+(g.recs.length:Int)))∧Below E.heap.size E w'):=ZZ (fun W hW=>by
  obtain⟨l0,l1,l2⟩:=(ac.o.below hW).lc;refine(ZlK w.heap.size 0 g.first C g.recs.length D W l0 l1 bo (by omega)).mono ?_
  rintro e w' ⟨rfl,Z⟩
  exact⟨rfl,hW.trans (Z.mono hW.size)⟩)
 obtain⟨n1,bb⟩:=zgy ((g.recs.drop (a-g.first).toNat).length);rw[<-bb] at aS aJ;obtain⟨t,ag⟩:=zgy g.recs.length;obtain⟨A,ao⟩:=zgy g.pcs.length;obtain⟨d,al⟩:=zgy g.first
 replace aA:=ZZ (fun Q T W hW aW=>aA.o n1 Q T W hW aW)
 have aT:Hid (d<=a->a<=d+(t:Int)->∀ W,Below E.heap.size E W->Calls prog 15 #[.agg #[.int .i64 a,.int .i64 kd,.slice J G lc,.bool M,.int .i64 K,.slice F N H],.slice Q n1 T] W fun e w'=>∃ n y j q z p,e=.returned (.tuple #[.agg #[.int .i64 c.1.idx,.int .i64 c.1.st.kind,.slice n y j,.bool c.1.st.shut,.int .i64 c.1.st.eng,.slice q z p],.int .i64 c.2])∧Hid (Below W.heap.size W w')∧Hid (c.2=0->∀ W',(∃ Y,Below w'.heap.size w' Y∧Ql (Zon w W.heap.size) Y W')->(A≠0∧d<=a∧a<=d+(t:Int))->Zcq I w (.slice C t D) (.slice X A U) R (.returned (.tuple #[.agg #[.int .i64 d,.slice C t D,.slice X A U],.agg #[.int .i64 c.1.idx,.int .i64 c.1.st.kind,.slice n y j,.bool c.1.st.shut,.int .i64 c.1.st.eng,.slice q z p]])) W')):=ZZ (by
  rw[ag,ao,al]
  exact fun h1 h2 W hW=>aA.o Q T W hW (aS.o h1 h2))
 rw[<-ag,<-ao,<-al] at aj;rw[<-ag,<-al] at aU aJ bx;rw[<-ag,<-ao,<-al] at ac av;rw[<-ag] at bA;rw[<-ao] at bF;rw[<-al] at bo;rw[<-ag,<-ao,<-al];clear aA aS aP aF aN aR aC hR a6 bC aB hs bg bj ap bk aV hr hp hx hi bq bb ag ao al;obtain⟨Bc,bp⟩:∃ Bc:Bool,Bc=decide (A≠0∧d<=a∧a<=d+(t:Int)):=⟨_,rfl⟩;have ab:=ZZ bp;clear bp
 go_enter func36,ntmps36
 go_upto_region 1 with fail
 rw[<-av];clear av
 go_cut[24] (fun v wc=>v=.bool Bc∧Hid (Below E.heap.size E wc))
 case first=>
  obtain⟨ι,bS,V,hV,aQ⟩:=ZnO E.heap.size E;have HV:=ZZ hV;obtain⟨i0,aH⟩:=aQ E.drew (zac _ _).drew;have d0:∀ i,(V i).cell? ⟨w.heap.size,0,none⟩=some (.int .i64 d):=fun i=>(ac.o.below (HV.o i)).lc.1
  have d2:∀ i,(V i).cell? ⟨w.heap.size,2,none⟩=some (.slice X A U):=fun i=>(ac.o.below (HV.o i)).lc.2.2
  have e0:∀ i,(V i).cell? ⟨w.heap.size+1,0,none⟩=some (.int .i64 a):=fun i=>(ac.o.below (HV.o i)).sc.1
  have a3:Hid (∀ i,Calls prog 38 #[.pointer (some ⟨w.heap.size,0,none⟩)] (V i) fun e w'=>e=.returned (.int .i64 (d+(t:Int)))∧∃ m,w'=V m):=ZZ (fun i=>(aU.o (V i) (HV.o i)).mono fun e w' h=>⟨h.1,aQ w' h.2⟩)
  clear hV aQ;by_cases q1:A=0
  ·have bG:decide ((A:Int)>0)=false:=zae (by omega)
   have bv:decide (0<A)=false:=zae (by omega)
   have ai:Bc=false:=by rw[ab.o];exact zae (fun h=>h.1 q1)
   clear q1;refine Jn V i0 (by kernel_rfl) (by kernel_rfl) aH.symm ?_
   repeat (go_big_quiet_step (fail))
   refine zdt ?_;intro _ ae;obtain⟨nq,am⟩:=ae;subst am
   go_wp2_with fail
   go_meet
   exact⟨by rw[ai],ZZ (HV.o _)⟩
  have bG:(A:Int)>0:=by omega
  have bv:0<A:=by omega
  by_cases q2:d<=a
  case neg=>
   have aY:decide (d<=a)=false:=zae q2;have ai:Bc=false:=by rw[ab.o];exact zae (fun h=>q2 h.2.1)
   clear q1 q2;refine Jn V i0 (by kernel_rfl) (by kernel_rfl) aH.symm ?_
   repeat (go_big_quiet_step (fail))
   refine zdt ?_;intro _ ae;obtain⟨nq,am⟩:=ae;subst am
   go_wp2_with fail
   go_meet
   exact⟨by rw[ai],ZZ (HV.o _)⟩
  by_cases q3:a<=d+(t:Int)
  ·have ai:Bc=true:=by rw[ab.o];exact zah ⟨q1,q2,q3⟩
   clear q1 ab;generalize d+(t:Int)=NX at *;refine Jn V i0 (by kernel_rfl) (by kernel_rfl) aH.symm ?_
   repeat (go_big_quiet_step ((go_at_call 38;exact a3.o _)))
   refine zdt ?_;intro _ ae;obtain⟨nq,am⟩:=ae;subst am
   go_wp2_with fail
   go_meet
   exact⟨by rw[ai],ZZ (HV.o _)⟩
  ·have aD:decide (a<=d+(t:Int))=false:=zae q3
   have ai:Bc=false:=by rw[ab.o];exact zae (fun h=>q3 h.2.2)
   clear q1 q3 ab;generalize d+(t:Int)=NX at *;refine Jn V i0 (by kernel_rfl) (by kernel_rfl) aH.symm ?_
   repeat (go_big_quiet_step ((go_at_call 38;exact a3.o _)))
   refine zdt ?_;intro _ ae;obtain⟨nq,am⟩:=ae;subst am
   go_wp2_with fail
   go_meet
   exact⟨by rw[ai],ZZ (HV.o _)⟩
 case rest=>
 obtain⟨f,rfl⟩:=zgy wc;obtain⟨rfl,aL⟩:=hcut;clear aU;have B:=ZZ (ac.o.below aL.o)
 cases Bc with
 | false=>
  have a7:Hid (¬ ((A≠0∧d<=a∧a<=d+(t:Int))∧c.2=0)):=ZZ (fun h=>zdo ab.o.symm h.1)
  have au:=ZZ (aj.o a7.o);clear aj a7 aT;obtain⟨l0,l1,l2⟩:=B.o.lc;obtain⟨s0,s1,s2,s3,s4,s5⟩:=B.o.sc;obtain⟨o0,p0⟩:=B.o.ol.cell 0 rfl;obtain⟨o1,p1⟩:=B.o.ol.cell 1 rfl;obtain⟨o2,p2⟩:=B.o.ol.cell 2 rfl;obtain⟨u0,v0⟩:=B.o.os.cell 0 rfl;obtain⟨u1,v1⟩:=B.o.os.cell 1 rfl;obtain⟨u2,v2⟩:=B.o.os.cell 2 rfl;obtain⟨u3,v3⟩:=B.o.os.cell 3 rfl;obtain⟨u4,v4⟩:=B.o.os.cell 4 rfl;obtain⟨u5,v5⟩:=B.o.os.cell 5 rfl
  go_upto_region 5 with fail
  go_region
  obtain⟨XX,ad,aw,⟨k0,k1,k2⟩,k3,k4,k5,k6,k7,k8⟩:=Zml w f (w.heap.size+1+1) (w.heap.size+1+1+1) rfl rfl B.o.ol B.o.os (.int .i64 a) (.slice none 0 0) (.slice none 0 0) (.int .i64 a) (.int .i64 kd) (.slice J G lc) (.bool M) (.int .i64 K) (.slice F N H);have ay:=ZZ ad;clear ad;go_wp2;rw[<-ay.o];refine zap (v:=.tuple #[.agg #[.int .i64 a,.slice none 0 0,.slice none 0 0],.agg #[.int .i64 a,.int .i64 kd,.slice J G lc,.bool M,.int .i64 K,.slice F N H]]) (by simp[results,Tryz.results36,go_sem,k0,k1,k2,k3,k4,k5,k6,k7,k8]) rfl ?_
  exact au.o f _ B.o.old aw
 | true=>
  have hc:=zcv ab.o.symm;have bz:=ZZ hc;obtain⟨bN,bd,bi⟩:=hc;have hcut:=aJ.o bd bi;have a9:=ZZ (aT.o bd bi);have hw:IntKind.i64.wrap (a-d)=a-d:=by rw[zbe];omega
  have bI:-9223372036854775808<=a-d:=by omega
  have bL:a-d<=9223372036854775807:=by omega
  obtain⟨l0,l1,l2⟩:=B.o.lc;obtain⟨s0,s1,s2,s3,s4,s5⟩:=B.o.sc;clear aT aJ ab;have HE:Hid (∀ args w,(callFunc 15 args).run prog w=.ok (.enter 15 args) w):=ZZ (enters_of func15 (by kernel_rfl) rfl)
  have aE:Hid (∀ W,Below f.heap.size f W->Calls prog 15 #[.agg #[.int .i64 a,.int .i64 kd,.slice J G lc,.bool M,.int .i64 K,.slice F N H],.slice Q n1 T] W fun e w'=>∃ v',e=.returned v'∧∃ n y j q z p,v'=.tuple #[.agg #[.int .i64 c.1.idx,.int .i64 c.1.st.kind,.slice n y j,.bool c.1.st.shut,.int .i64 c.1.st.eng,.slice q z p],.int .i64 c.2]∧Hid (Below W.heap.size W w')∧Hid (c.2=0->∀ W',(∃ Y,Below w'.heap.size w' Y∧Ql (Zon w W.heap.size) Y W')->Zcq I w (.slice C t D) (.slice X A U) R (.returned (.tuple #[.agg #[.int .i64 d,.slice C t D,.slice X A U],.agg #[.int .i64 c.1.idx,.int .i64 c.1.st.kind,.slice n y j,.bool c.1.st.shut,.int .i64 c.1.st.eng,.slice q z p]])) W')):=ZZ (fun W hW=>by
   refine(a9.o W (aL.o.trans (hW.mono aL.o.size))).mono ?_;rintro e w' ⟨n,y,j,q,z,p,rfl,Z,hf⟩
   exact⟨_,rfl,n,y,j,q,z,p,rfl,Z,ZZ (fun h0 W' aZ=>hf.out h0 W' aZ bz.o)⟩)
  clear a9
  have aq:Hid (∀ W,Below f.heap.size f W->(W.cell? ⟨w.heap.size+1,0,none⟩=some (.int .i64 a)∧W.cell? ⟨w.heap.size+1,1,none⟩=some (.int .i64 kd)∧W.cell? ⟨w.heap.size+1,2,none⟩=some (.slice J G lc)∧W.cell? ⟨w.heap.size+1,3,none⟩=some (.bool M)∧W.cell? ⟨w.heap.size+1,4,none⟩=some (.int .i64 K)∧W.cell? ⟨w.heap.size+1,5,none⟩=some (.slice F N H)∧W.cell? ⟨w.heap.size,0,none⟩=some (.int .i64 d)∧W.cell? ⟨w.heap.size,1,none⟩=some (.slice C t D))):=ZZ (fun W h=>by
   obtain⟨g0,g1,g2⟩:=(B.o.below h).lc;obtain⟨e0,e1,e2,e3,e4,e5⟩:=(B.o.below h).sc
   exact⟨e0,e1,e2,e3,e4,e5,g0,g1⟩)
  obtain⟨T1,bl⟩:=zgy c.1.idx;obtain⟨T2,bc⟩:=zgy c.1.st.kind;obtain⟨T3,be⟩:=zgy c.1.st.shut;obtain⟨T4,bm⟩:=zgy c.1.st.eng;obtain⟨T5,aM⟩:=zgy c.2;rw[<-bl,<-bc,<-be,<-bm,<-aM] at aE;rw[<-aM] at aj;clear bl bc be bm aM;have aI:Hid (Below f.heap.size f f.drew):=ZZ (zac _ _).drew;have ax:Hid (Below f.heap.size f (f.alloc (.cells #[.int .i64 0,.int .i64 0,.slice none 0 0,.bool false,.int .i64 0,.slice none 0 0] 41)).drew):=ZZ ((zac _ _).alloc zL _).drew;have a0:Hid (w.heap.size+4<=f.heap.size):=ZZ (by have:=aL.o.size;omega)
  clear l0 l1 l2 s0 s1 s2 s3 s4 s5
  go_upto_region 2 with fail
  go_cut[6,7] (fun v6 v7 wc=>∃ (b:Nat) (n:Option Addr) (y j:Nat) (q:Option Addr) (z p:Nat),v6=.pointer (some ⟨b,0,none⟩)∧v7=.int .i64 T5∧Hid (w.heap.size+4<=b)∧Hid (Bk 41 wc b #[.int .i64 T1,.int .i64 T2,.slice n y j,.bool T3,.int .i64 T4,.slice q z p])∧Hid (Below f.heap.size f wc)∧
   Hid (T5=0->∀ W',Ql (Zon w 0) wc W'->Zcq I w (.slice C t D) (.slice X A U) R (.returned (.tuple #[.agg #[.int .i64 d,.slice C t D,.slice X A U],.agg #[.int .i64 T1,.int .i64 T2,.slice n y j,.bool T3,.int .i64 T4,.slice q z p]])) W'))
  case first=>
   go_region_held2(fun W=>W.cell? ⟨w.heap.size+1,0,none⟩=some (.int .i64 a)∧W.cell? ⟨w.heap.size+1,1,none⟩=some (.int .i64 kd)∧W.cell? ⟨w.heap.size+1,2,none⟩=some (.slice J G lc)∧W.cell? ⟨w.heap.size+1,3,none⟩=some (.bool M)∧W.cell? ⟨w.heap.size+1,4,none⟩=some (.int .i64 K)∧W.cell? ⟨w.heap.size+1,5,none⟩=some (.slice F N H)∧W.cell? ⟨w.heap.size,0,none⟩=some (.int .i64 d)∧W.cell? ⟨w.heap.size,1,none⟩=some (.slice C t D))
    (first | (with_reducible exact aq.o _ aI.o) | (with_reducible exact aq.o _ ax.o) | (with_reducible exact aq.o _ aa.o) | (with_reducible exact aq.o _ (Zoo aa.o _ zL _ _ _ _ _ _)) | (with_reducible exact aq.o _ (aa.o.alloc aa.o.size _)))
    (first
     | ((with_reducible refine Y4 15 _ _ rfl rfl #[.agg #[.int .i64 a,.int .i64 kd,.slice J G lc,.bool M,.int .i64 K,.slice F N H],.slice Q n1 T] (by simp[Act.eval]) HE.o (aE.o f.drew aI.o) ?_);rintro v' u ⟨n,y,j,q,z,p,rfl,az,an⟩;have aa:Hid (Below f.heap.size f u):=ZZ (aI.o.trans az.o))
     | ((with_reducible refine Y4 15 _ _ rfl rfl #[.agg #[.int .i64 a,.int .i64 kd,.slice J G lc,.bool M,.int .i64 K,.slice F N H],.slice Q n1 T] (by simp[Act.eval]) HE.o (aE.o (f.alloc (.cells #[.int .i64 0,.int .i64 0,.slice none 0 0,.bool false,.int .i64 0,.slice none 0 0] 41)).drew ax.o) ?_);rintro v' u ⟨n,y,j,q,z,p,rfl,az,an⟩;have aa:Hid (Below f.heap.size f u):=ZZ (ax.o.trans (az.o.mono ax.o.size));have ak:Hid (Bk 41 u f.heap.size #[.int .i64 0,.int .i64 0,.slice none 0 0,.bool false,.int .i64 0,.slice none 0 0]):=ZZ (Zzk f _ u az.o);obtain⟨z0,y0⟩:=ak.o.cell 0 rfl;obtain⟨z1,y1⟩:=ak.o.cell 1 rfl;obtain⟨z2,y2⟩:=ak.o.cell 2 rfl;obtain⟨z3,y3⟩:=ak.o.cell 3 rfl;obtain⟨z4,y4⟩:=ak.o.cell 4 rfl;obtain⟨z5,y5⟩:=ak.o.cell 5 rfl))
   all_goals
    go_wp2_with fail
    go_meet
    first
     | exact⟨_,n,y,j,q,z,p,rfl,rfl,a0,ZZ ((((((ak.o.set 0 _).set 1 _).set 2 _).set 3 _).set 4 _).set 5 _),ZZ (Zoo aa.o _ zL _ _ _ _ _ _),ZZ (fun h0 W' ho=>an.o h0 W' ⟨_,zac _ _,(Zzj u f.heap.size _ _ _ _ _ _ (fun k=>Zon w (f.alloc (.cells #[.int .i64 0,.int .i64 0,.slice none 0 0,.bool false,.int .i64 0,.slice none 0 0] 41)).drew.heap.size k) (.inr ⟨a0.o,ZAw f _⟩)).trans (ho.mono (fun k hk=>hk.more)) (fun _ _ h=>h)⟩)⟩
     | exact⟨_,n,y,j,q,z,p,rfl,rfl,ZZ (zas a0.o aa.o.size),ZZ (zaf u _),ZZ (aa.o.alloc aa.o.size _),ZZ (fun h0 W' ho=>an.o h0 W' ⟨_,Jw u _,ho.mono (fun k hk=>hk.more)⟩)⟩
  case rest=>
  obtain⟨b,n,y,j,q,z,p,rfl,rfl,aG,af,bD,an⟩:=hcut;obtain⟨WC,rfl⟩:=zgy wc;have O:=ZZ (B.o.below bD.o);clear aE aq aI ax HE hcut;obtain⟨l0,l1,l2⟩:=O.o.lc;obtain⟨s0,s1,s2,s3,s4,s5⟩:=O.o.sc;obtain⟨o0,p0⟩:=O.o.ol.cell 0 rfl;obtain⟨o1,p1⟩:=O.o.ol.cell 1 rfl;obtain⟨o2,p2⟩:=O.o.ol.cell 2 rfl;obtain⟨u0,v0⟩:=O.o.os.cell 0 rfl;obtain⟨u1,v1⟩:=O.o.os.cell 1 rfl;obtain⟨u2,v2⟩:=O.o.os.cell 2 rfl;obtain⟨u3,v3⟩:=O.o.os.cell 3 rfl;obtain⟨u4,v4⟩:=O.o.os.cell 4 rfl;obtain⟨u5,v5⟩:=O.o.os.cell 5 rfl;by_cases hT:T5=0
  case neg=>
   have bw:(T5 == 0)=false:=zad.2 hT;have au:=ZZ (aj.o (fun h=>hT h.2))
   clear aj an af hT
   go_upto_region 5 with fail
   go_region
   obtain⟨XX,ad,aw,⟨k0,k1,k2⟩,k3,k4,k5,k6,k7,k8⟩:=Zml w WC (w.heap.size+1+1) (w.heap.size+1+1+1) rfl rfl O.o.ol O.o.os (.int .i64 a) (.slice none 0 0) (.slice none 0 0) (.int .i64 a) (.int .i64 kd) (.slice J G lc) (.bool M) (.int .i64 K) (.slice F N H);have ay:=ZZ ad;clear ad;go_wp2;rw[<-ay.o];refine zap (v:=.tuple #[.agg #[.int .i64 a,.slice none 0 0,.slice none 0 0],.agg #[.int .i64 a,.int .i64 kd,.slice J G lc,.bool M,.int .i64 K,.slice F N H]]) (by simp[results,Tryz.results36,go_sem,k0,k1,k2,k3,k4,k5,k6,k7,k8]) rfl ?_
   exact au.o WC _ O.o.old aw
  have bw:(T5 == 0)=true:=by rw[za8];exact hT
  have au:=ZZ (an.o hT);obtain⟨x0,-⟩:=af.o.cell 0 rfl;obtain⟨x1,-⟩:=af.o.cell 1 rfl;obtain⟨x2,-⟩:=af.o.cell 2 rfl;obtain⟨x3,-⟩:=af.o.cell 3 rfl;obtain⟨x4,-⟩:=af.o.cell 4 rfl;obtain⟨x5,-⟩:=af.o.cell 5 rfl;have bM:¬ (b=w.heap.size+1+1):=by have:=aG.o;omega
  have bR:¬ (b=w.heap.size+1+1+1):=by have:=aG.o;omega
  have bW:¬ (w.heap.size+1+1=b):=by have:=aG.o;omega
  have bP:¬ (w.heap.size+1+1+1=b):=by have:=aG.o;omega
  clear aj an hT s0 s1 s2 s3 s4 s5
  go_upto_region 4 with fail
  go_region
  obtain⟨XX,ad,aw,⟨k0,k1,k2⟩,k3,k4,k5,k6,k7,k8⟩:=Zml w WC (w.heap.size+1+1) (w.heap.size+1+1+1) rfl rfl O.o.ol O.o.os (.int .i64 d) (.slice C t D) (.slice X A U) (.int .i64 T1) (.int .i64 T2) (.slice n y j) (.bool T3) (.int .i64 T4) (.slice q z p);have ay:=ZZ ad;clear ad;go_wp2;rw[<-ay.o];refine zap (v:=.tuple #[.agg #[.int .i64 d,.slice C t D,.slice X A U],.agg #[.int .i64 T1,.int .i64 T2,.slice n y j,.bool T3,.int .i64 T4,.slice q z p]]) (by simp[results,Tryz.results36,go_sem,k0,k1,k2,k3,k4,k5,k6,k7,k8]) rfl ?_
  exact au.o _ aw
end Go.Proofs.YtnahjngbneicaaaGreatDoor
