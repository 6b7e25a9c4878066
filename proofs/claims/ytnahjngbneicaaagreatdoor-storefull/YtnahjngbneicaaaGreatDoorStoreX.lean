import Derived.Test.YtnahjngbneicaaaGreatDoorPack15
namespace Go.Proofs.YtnahjngbneicaaaGreatDoor
set_option linter.unusedSimpArgs false
open _root_.Go.Proofs.Tryz
set_option maxRecDepth 100000
open Go.RowKit
variable {W W' w:World} {a b c d e g pv rv:Value} {f:Int} {C:Nat}
theorem Ziv.inside {w':World} {x:Q0 × Value × Value} {I:Nat->Prop} {l:List Rec} {r:Q0 × Int} (u:SnR w x) (hi:Zma I x) (i:RdI w' c r.1.st.L) (g1:c=x.2.1∨∀ b,c.ownBlock=some b->w.heap.size<=b)
 (g2:(l=[]∧e=x.2.2)∨Xp w' w.heap.size e r.1.tab) (q:l=[]->r.1=x.1):Zma (fun k=>I k∨(w.heap.size<=k∧k<w'.heap.size)) (r.1,c,e):=by
 refine⟨?_,?_⟩
 ·rcases i.block with m | ⟨v,k,f,p⟩
  ·exact .inl m
  ·rcases g1 with g1 | g1
   ·rcases hi.1 with hi | hi
    ·obtain⟨B,z,j,-⟩:=u.l
     obtain⟨A,y,d,-⟩:=i;rw[hi] at j;rw[g1,j] at d
     injection d with _ d _
     exact .inl (zao (by rw[<-d];rfl))
    ·exact .inr fun g a=>.inl (hi g (by rw[<-g1];exact a))
   ·refine .inr fun g a=>.inr ⟨g1 g a,?_⟩
    have n:c.ownBlock=some g:=a;rw[n] at f;obtain rfl:=zaq f;exact p
 ·rcases g2 with ⟨t,g2⟩ | g2
  ·rcases hi.2 with hi | hi
   ·exact .inl (by show r.1.tab=[];rw[q t];exact hi)
   ·exact .inr fun g a=>.inl (hi g (by rw[<-g2];exact a))
  ·exact .inr fun g a=>.inr (zaz g2 g a)
theorem ZAD (w:World) (X Y Z:Obj):(((w.alloc X).alloc Y).alloc Z).heap[w.heap.size+2]?=some Z:=by
 have h:=zak ((w.alloc X).alloc Y) Z;have e:((w.alloc X).alloc Y).heap.size=w.heap.size+2:=by simp
 rw[e] at h;exact h
theorem ZAE (w:World) (X Y Z U:Obj):((((w.alloc X).alloc Y).alloc Z).alloc U).heap[w.heap.size+3]?=some U:=by
 have h:=zak (((w.alloc X).alloc Y).alloc Z) U;have e:(((w.alloc X).alloc Y).alloc Z).heap.size=w.heap.size+3:=by simp
 rw[e] at h;exact h
def Zcp (I:Nat->Prop) (w:World) (rv pv:Value) (r:Lgb × Q0) (e:Ending) (w':World):Prop:=
 ∃ rv' pv' vl vt,e=.returned (.tuple #[.agg #[.int .i64 r.1.first,rv',pv'],snV (r.2,vl,vt)])∧Xl w' 0 rv' r.1.recs∧w'.ownsRow 0 108 3 pv' r.1.pcs.length (Q7 r.1.pcs)∧(rv'=rv∨rv'=.slice none 0 0)∧(pv'=pv∨pv'=.slice none 0 0)∧
  SnR w' (r.2,vl,vt)∧Zma (fun k=>I k∨(w.heap.size<=k∧k<w'.heap.size)) (r.2,vl,vt)∧Below w.heap.size w w'
structure ZyU (w:World) (f:Int) (rv pv:Value) (x0 x1 x2 x3 x4 x5:Value) (W:World):Prop where
 lg:Bk 73 W w.heap.size #[.int .i64 f,rv,pv]
 sn:Bk 41 W (w.heap.size+1) #[x0,x1,x2,x3,x4,x5]
 ol:Bk 73 W (w.heap.size+2) #[.int .i64 0,.slice none 0 0,.slice none 0 0]
 os:Bk 41 W (w.heap.size+3) #[.int .i64 0,.int .i64 0,.slice none 0 0,.bool false,.int .i64 0,.slice none 0 0]
 old:Below w.heap.size w W
theorem ZyU.below {i:Value} (h:ZyU w f rv pv d e i c g b W) (a:Below W.heap.size W W'):ZyU w f rv pv d e i c g b W':=
 ⟨h.lg.keep (a.block _ h.lg.lt),h.sn.keep (a.block _ h.sn.lt),h.ol.keep (a.block _ h.ol.lt),h.os.keep (a.block _ h.os.lt),h.old.trans (a.mono h.old.size)⟩
theorem ZyU.lc (h:ZyU w f rv pv c d g b e a W):W.cell? ⟨w.heap.size,0,none⟩=some (.int .i64 f)∧W.cell? ⟨w.heap.size,1,none⟩=some rv∧W.cell? ⟨w.heap.size,2,none⟩=some pv:=
 ⟨(h.lg.cell 0 rfl).1,(h.lg.cell 1 rfl).1,(h.lg.cell 2 rfl).1⟩
theorem ZyU.sc (h:ZyU w f rv pv c d g b e a W):
 W.cell? ⟨w.heap.size+1,0,none⟩=some c∧W.cell? ⟨w.heap.size+1,1,none⟩=some d∧W.cell? ⟨w.heap.size+1,2,none⟩=some g∧W.cell? ⟨w.heap.size+1,3,none⟩=some b∧W.cell? ⟨w.heap.size+1,4,none⟩=some e∧W.cell? ⟨w.heap.size+1,5,none⟩=some a:=
 ⟨(h.sn.cell 0 rfl).1,(h.sn.cell 1 rfl).1,(h.sn.cell 2 rfl).1,(h.sn.cell 3 rfl).1,(h.sn.cell 4 rfl).1,(h.sn.cell 5 rfl).1⟩
def ZoF (w:World) (C:Nat) (k:Nat):Prop:=(k=w.heap.size+2∨k=w.heap.size+3)∨(w.heap.size+4<=k∧k<C)
theorem ZoF.more {k:Nat} (h:ZoF w 0 k):ZoF w C k:=by
 rcases h with h | h
 ·exact .inl h
 ·omega
theorem Zyo (w W:World) (c a:Nat) (q:c=w.heap.size+2) (i:a=w.heap.size+3) (g j p e f l k m n:Value):Ql (ZoF w 0) W (((((((((W.setCell ⟨c,0,none⟩ g).setCell ⟨c,1,none⟩ j).setCell ⟨c,2,none⟩ p).setCell ⟨a,0,none⟩ e).setCell ⟨a,1,none⟩ f).setCell ⟨a,2,none⟩ l).setCell ⟨a,3,none⟩ k).setCell ⟨a,4,none⟩ m).setCell ⟨a,5,none⟩ n):=by
 have d:ZoF w 0 c:=.inl (.inl q);have b:ZoF w 0 a:=.inl (.inr i);exact(((((((((Ql.refl _ _).setCell _ (fun _=>d) _).setCell _ (fun _=>d) _).setCell _ (fun _=>d) _).setCell _ (fun _=>b) _).setCell _ (fun _=>b) _).setCell _ (fun _=>b) _).setCell _ (fun _=>b) _).setCell _ (fun _=>b) _).setCell _ (fun _=>b) _
theorem ZmC (w W:World) (b a:Nat) (B:b=w.heap.size+2) (z:a=w.heap.size+3) {C F E D y H G I A:Value} (J:Bk 73 W b #[C,F,E]) (x:Bk 41 W a #[D,y,H,G,I,A]) (j k m d i f g e l:Value):
 ∃ c,c=(((((((((W.setCell ⟨b,0,none⟩ j).setCell ⟨b,1,none⟩ k).setCell ⟨b,2,none⟩ m).setCell ⟨a,0,none⟩ d).setCell ⟨a,1,none⟩ i).setCell ⟨a,2,none⟩ f).setCell ⟨a,3,none⟩ g).setCell ⟨a,4,none⟩ e).setCell ⟨a,5,none⟩ l).drew∧Ql (ZoF w 0) W c∧(c.cell? ⟨b,0,none⟩=some j∧c.cell? ⟨b,1,none⟩=some k∧c.cell? ⟨b,2,none⟩=some m)∧(c.cell? ⟨a,0,none⟩=some d∧c.cell? ⟨a,1,none⟩=some i∧c.cell? ⟨a,2,none⟩=some f∧c.cell? ⟨a,3,none⟩=some g∧c.cell? ⟨a,4,none⟩=some e∧c.cell? ⟨a,5,none⟩=some l):=by
 have n:b≠a:=by omega
 have t:Bk 73 (((((((((W.setCell ⟨b,0,none⟩ j).setCell ⟨b,1,none⟩ k).setCell ⟨b,2,none⟩ m).setCell ⟨a,0,none⟩ d).setCell ⟨a,1,none⟩ i).setCell ⟨a,2,none⟩ f).setCell ⟨a,3,none⟩ g).setCell ⟨a,4,none⟩ e).setCell ⟨a,5,none⟩ l) b #[j,k,m]:=((((((((J.set 0 j).set 1 k).set 2 m).other a 0 d n).other a 1 i n).other a 2 f n).other a 3 g n).other a 4 e n).other a 5 l n;have v:Bk 41 (((((((((W.setCell ⟨b,0,none⟩ j).setCell ⟨b,1,none⟩ k).setCell ⟨b,2,none⟩ m).setCell ⟨a,0,none⟩ d).setCell ⟨a,1,none⟩ i).setCell ⟨a,2,none⟩ f).setCell ⟨a,3,none⟩ g).setCell ⟨a,4,none⟩ e).setCell ⟨a,5,none⟩ l) a #[d,i,f,g,e,l]:=(((((((((x.other b 0 j n.symm).other b 1 k n.symm).other b 2 m n.symm).set 0 d).set 1 i).set 2 f).set 3 g).set 4 e).set 5 l);have p:=Zyo w W b a B z j k m d i f g e l
 revert t v p
 generalize (((((((((W.setCell ⟨b,0,none⟩ j).setCell ⟨b,1,none⟩ k).setCell ⟨b,2,none⟩ m).setCell ⟨a,0,none⟩ d).setCell ⟨a,1,none⟩ i).setCell ⟨a,2,none⟩ f).setCell ⟨a,3,none⟩ g).setCell ⟨a,4,none⟩ e).setCell ⟨a,5,none⟩ l)=Y;intro t v p;have u:Bk 73 Y.drew b #[j,k,m]:=t;have q:Bk 41 Y.drew a #[d,i,f,g,e,l]:=v;exact⟨Y.drew,rfl,⟨p.os,p.tape,p.output,p.size,p.block⟩,⟨(u.cell 0 rfl).1,(u.cell 1 rfl).1,(u.cell 2 rfl).1⟩,(q.cell 0 rfl).1,(q.cell 1 rfl).1,(q.cell 2 rfl).1,(q.cell 3 rfl).1,(q.cell 4 rfl).1,(q.cell 5 rfl).1⟩
theorem Zlg (b:Below w.heap.size w W) (a:w.heap.size<=W.heap.size) (c:Ql (ZoF w C) W W'):Below w.heap.size w W':=
 b.trans (c.below a fun k hk=>by
  rcases hk with hk | hk
  ·omega
  ·omega)
theorem ZzN (W:World) (R:Nat) (d e g c f b:Value) (G:Nat->Prop) (a:G R):Ql G W ((((((W.setCell ⟨R,0,none⟩ d).setCell ⟨R,1,none⟩ e).setCell ⟨R,2,none⟩ g).setCell ⟨R,3,none⟩ c).setCell ⟨R,4,none⟩ f).setCell ⟨R,5,none⟩ b):=
 ((((((Ql.refl G W).setCell 0 (fun _=>a) d).setCell 1 (fun _=>a) e).setCell 2 (fun _=>a) g).setCell 3 (fun _=>a) c).setCell 4 (fun _=>a) f).setCell 5 (fun _=>a) b
theorem ZBb (a:World) (X:Obj):a.heap.size<(a.alloc X).drew.heap.size:=by
 have:(a.alloc X).drew.heap.size=a.heap.size+1:=by simp[World.drew]
 omega
theorem ZzO (a:World) (cs:Array Value) (c:World) (d:Below (a.alloc (.cells cs 41)).drew.heap.size (a.alloc (.cells cs 41)).drew c):Bk 41 c a.heap.size cs:=by
 have b:Bk 41 (a.alloc (.cells cs 41)).drew a.heap.size cs:=zak a _;exact b.keep (d.block _ b.lt)
theorem ZoG {B:Nat} {a:World} (h:Below B a W) (R:Nat) (b:B<=R) (e f i d g c:Value):Below B a ((((((W.setCell ⟨R,0,none⟩ e).setCell ⟨R,1,none⟩ f).setCell ⟨R,2,none⟩ i).setCell ⟨R,3,none⟩ d).setCell ⟨R,4,none⟩ g).setCell ⟨R,5,none⟩ c):=
 (((((h.setCell (p:=⟨R,0,none⟩) b e).setCell (p:=⟨R,1,none⟩) b f).setCell (p:=⟨R,2,none⟩) b i).setCell (p:=⟨R,3,none⟩) b d).setCell (p:=⟨R,4,none⟩) b g).setCell (p:=⟨R,5,none⟩) b c
set_option maxHeartbeats 4000000 in
theorem ZtO (I:Nat->Prop) (g:Lgb) (rv pv:Value) (x:Q0 × Value × Value) (w:World) (hr:Xl w 0 rv g.recs) (hp:w.ownsRow 0 108 3 pv g.pcs.length (Q7 g.pcs)) (hx:SnR w x) (hi:Zma I x) (bb:∀ k,I k->k<w.heap.size) (aD:OkG g) (hs:SnS x.1) (bk:g.recs.length<=9000000) (bE:g.pcs.length<=900000):
 Calls prog 36 #[.agg #[.int .i64 g.first,rv,pv],snV x] w fun e w'=>Zcp I w rv pv (g.behind x.1) e w':=by
 obtain⟨C,D,bv⟩:=hr.shape;obtain⟨X,U,bD⟩:=Je hp;obtain⟨F,K,lc,G,H,J,bm,bn⟩:=hx.shape;have aQ:Hid (snV x=.agg #[.int .i64 x.1.idx,.int .i64 x.1.st.kind,.slice F K lc,.bool x.1.st.shut,.int .i64 x.1.st.eng,.slice G H J]):=ZZ (by unfold snV snC;rw[bm,bn])
 have ba:=aD.f0;have a6:=aD.top;have bj:=ZZ (hr.rd aD.recOk)
 have aN:Hid (¬ g.leads x.1->∀ W W',Below w.heap.size w W->Ql (ZoF w 0) W W'->Zcp I w rv pv (g.behind x.1) (.returned (.tuple #[.agg #[.int .i64 x.1.idx,.slice none 0 0,.slice none 0 0],.agg #[.int .i64 x.1.idx,.int .i64 x.1.st.kind,.slice F K lc,.bool x.1.st.shut,.int .i64 x.1.st.eng,.slice G H J]])) W'):=ZZ (fun hn W W' Z ho=>by
  have ar:=Zlg Z Z.size ho;unfold Lgb.behind;rw[zaa hn]
  refine⟨_,_,x.2.1,x.2.2,by rw[<-aQ.o],Xl.nil _ _,zck _ _ _ _,.inr rfl,.inr rfl,hx.below ar zL,hi.mono (fun k hk=>.inl hk),ar⟩)
 have aF:Hid (g.leads x.1->∀ (W u W':World) (vx vu:Value),Below w.heap.size w W->w.heap.size+4<=W.heap.size->RdI u vx (Q4 x.1 (g.recs.drop (x.1.idx-g.first).toNat)).1.st.L->RdE u vu (Q4 x.1 (g.recs.drop (x.1.idx-g.first).toNat)).1.tab->I64 (Q4 x.1 (g.recs.drop (x.1.idx-g.first).toNat)).1.st.kind->I64 (Q4 x.1 (g.recs.drop (x.1.idx-g.first).toNat)).1.st.eng->I64 (Q4 x.1 (g.recs.drop (x.1.idx-g.first).toNat)).1.idx->
  Zma (fun k=>I k∨(W.heap.size<=k∧k<u.heap.size)) ((Q4 x.1 (g.recs.drop (x.1.idx-g.first).toNat)).1,vx,vu)->Below W.heap.size W u->(∃ Y,Below u.heap.size u Y∧Ql (ZoF w W.heap.size) Y W')->
  Zcp I w rv pv (g.behind x.1) (.returned (.tuple #[.agg #[.int .i64 g.first,rv,pv],.agg #[.int .i64 (Q4 x.1 (g.recs.drop (x.1.idx-g.first).toNat)).1.idx,.int .i64 (Q4 x.1 (g.recs.drop (x.1.idx-g.first).toNat)).1.st.kind,vx,.bool (Q4 x.1 (g.recs.drop (x.1.idx-g.first).toNat)).1.st.shut,.int .i64 (Q4 x.1 (g.recs.drop (x.1.idx-g.first).toNat)).1.st.eng,vu]])) W'):=ZZ (fun hn W u W' vx vu Z bU k1 k2 k3 k4 k5 k6 aY ⟨Y,aG,ho⟩=>by
  have aV:Below w.heap.size w u:=Z.trans (aY.mono Z.size);have bo:Below w.heap.size w Y:=aV.trans (aG.mono aV.size);have ar:=Zlg bo bo.size ho;have bN:=aY.size;have bQ:=aG.size;have bK:=ho.size
  have bA:∀ k,(I k∨(W.heap.size<=k∧k<u.heap.size))->W'.heap[k]?=u.heap[k]?:=fun k hk=>by
   have a7:k<u.heap.size∧¬ ZoF w W.heap.size k:=by
    rcases hk with hk | hk
    ·have:=bb k hk
     refine⟨by have:=aV.size;omega,fun h=>?_⟩
     rcases h with h | h <;> omega
    ·refine⟨hk.2,fun h=>?_⟩
     rcases h with h | h <;> omega
   rw[ho.block k (by omega) a7.2,aG.block k a7.1]
  have hS:SnR u ((Q4 x.1 (g.recs.drop (x.1.idx-g.first).toNat)).1,vx,vu):=⟨k1,k2,k3,k4,k5⟩;unfold Lgb.behind;rw[zab hn]
  exact⟨rv,pv,vx,vu,rfl,hr.below ar zL,Qh hp (fun k hk=>ar.block k (zaz hp k hk).2),.inl rfl,.inl rfl,hS.keep k6 bA,k6.mono (fun k hk=>hk.imp id (fun h=>⟨by have:=Z.size;omega,by omega⟩)),ar⟩)
 have aq:=ZZ (And.intro hx (And.intro hi hs));obtain⟨M,aw⟩:=zg7 ((((w.alloc (.cells #[.int .i64 g.first,.slice C g.recs.length D,.slice X g.pcs.length U] 73)).alloc (.cells #[.int .i64 x.1.idx,.int .i64 x.1.st.kind,.slice F K lc,.bool x.1.st.shut,.int .i64 x.1.st.eng,.slice G H J] 41)).alloc (.cells #[.int .i64 0,.slice none 0 0,.slice none 0 0] 73)).alloc (.cells #[.int .i64 0,.int .i64 0,.slice none 0 0,.bool false,.int .i64 0,.slice none 0 0] 41));have bJ:M.heap.size=w.heap.size+4:=by rw[aw];simp
 have ad:Hid (ZyU w g.first (.slice C g.recs.length D) (.slice X g.pcs.length U) (.int .i64 x.1.idx) (.int .i64 x.1.st.kind) (.slice F K lc) (.bool x.1.st.shut) (.int .i64 x.1.st.eng) (.slice G H J) M):=ZZ (by
  rw[aw];refine⟨?_,?_,?_,?_,(((zac _ _).alloc zL _).alloc (by simp) _).alloc (by simp;omega) _ |>.alloc (by simp;omega) _⟩
  ·exact(zav _ _ _ (by simp;omega)).trans ((zav _ _ _ (by simp;omega)).trans ((zav _ _ _ (by simp)).trans (zak w _)))
  ·exact(zav _ _ _ (by simp)).trans ((zav _ _ _ (by simp)).trans (Zeb w _ _))
  ·exact(zav _ _ _ (by simp)).trans (ZAD w _ _ _)
  ·exact ZAE w _ _ _ _)
 obtain⟨⟨a,⟨kd,LL,N,E⟩,tb⟩,bO,bR⟩:=x
 dsimp only at *
 subst bm bn;obtain⟨c,aB⟩:=zg7 (Q4 ⟨a,⟨kd,LL,N,E⟩,tb⟩ (g.recs.drop (a-g.first).toNat));rw[<-aB] at aF;have aX:=ZZ aB
 have aW:Hid (g.leads ⟨a,⟨kd,LL,N,E⟩,tb⟩↔(g.pcs.length≠0∧g.first<=a∧a<=g.first+(g.recs.length:Int))∧c.2=0):=ZZ (by
  unfold Lgb.leads;rw[aB,and_assoc,and_assoc]
  exact Iff.rfl)
 rw[aQ.o];subst bv bD;obtain⟨R,hR⟩:=zg7 (g.behind ⟨a,⟨kd,LL,N,E⟩,tb⟩);rw[<-hR] at aN aF ⊢;have a4:=ZZ (And.intro bk hr);have bx:(g.recs.length:Int)<=9000000:=by omega
 have bC:(g.pcs.length:Int)<=900000:=by omega
 have bG:g.first+(g.recs.length:Int)<=4611686018427387904:=a6
 have aH:Hid (∀ (n1:Nat) (T:Option Addr) (O:Nat) (W:World),Below M.heap.size M W->RdR w (.slice T n1 O) (g.recs.drop (a-g.first).toNat)->Calls prog 15 #[.agg #[.int .i64 a,.int .i64 kd,.slice F K lc,.bool N,.int .i64 E,.slice G H J],.slice T n1 O] W fun e w'=>∃ n z j q y p,e=.returned (.tuple #[.agg #[.int .i64 c.1.idx,.int .i64 c.1.st.kind,.slice n z j,.bool c.1.st.shut,.int .i64 c.1.st.eng,.slice q y p],.int .i64 c.2])∧Hid (Below W.heap.size W w')∧Hid (c.2=0->∀ W',(∃ Y,Below w'.heap.size w' Y∧Ql (ZoF w W.heap.size) Y W')->(g.pcs.length≠0∧g.first<=a∧a<=g.first+(g.recs.length:Int))->Zcp I w (.slice C g.recs.length D) (.slice X g.pcs.length U) R (.returned (.tuple #[.agg #[.int .i64 g.first,.slice C g.recs.length D,.slice X g.pcs.length U],.agg #[.int .i64 c.1.idx,.int .i64 c.1.st.kind,.slice n z j,.bool c.1.st.shut,.int .i64 c.1.st.eng,.slice q y p]])) W')):=ZZ (fun n1 T O W hW a0=>by
  have aT:Below w.heap.size w W:=ad.o.old.trans (hW.mono ad.o.old.size);have bT:=hW.size;have bp:=aq.o.1.below aT zL;have bB:=bp.snV;have hL:LL.length<=1000:=by have:=ZlZ aq.o.2.2.1;exact zau this (by decide)
  have hT:tb.length<=1000:=by have:=aq.o.2.2.2.few;exact zau this (by decide)
  refine(ZnM (P:=SnS) (fun S r hS hf=>hS.next hf) (fun S hS=>by have:=hS.2.few;omega) _ _ _ _ _ _ ⟨a,⟨kd,LL,N,E⟩,tb⟩ _ _ W bB (a0.below aT zL) hL hT (by rw[zci];have:=a4.o.1;omega) aq.o.2.2).mono ?_
  rw[<-aX.o];rintro e w' ⟨vx,vu,rfl,r1,r2,r3,r4,r5,g1,g2,Z⟩;have aE:=Ziv.inside (x:=(⟨a,⟨kd,LL,N,E⟩,tb⟩,.slice F K lc,.slice G H J)) (l:=g.recs.drop (a-g.first).toNat) bp aq.o.2.1 r1 g1 g2 (fun hl=>by rw[aX.o,hl];rfl)
  obtain⟨n,j,bF,-⟩:=id r1;obtain⟨q,p,hu⟩:=r4.shape;have HP:=fun h0 hc=>aF.o (aW.o.2 ⟨hc,h0⟩) W w'
  subst bF hu
  exact⟨n,_,j,q,_,p,rfl,ZZ Z,ZZ (fun h0 W' aS hc=>HP h0 hc W' _ _ aT (by omega) r1 r4 r2 r3 r5 aE Z aS)⟩)
 obtain⟨T,O,bl,bf⟩:∃ T O,(g.first<=a->a<=g.first+(g.recs.length:Int)->RdR w (.slice T (g.recs.drop (a-g.first).toNat).length O) (g.recs.drop (a-g.first).toNat))∧(g.first<=a->a<=g.first+(g.recs.length:Int)->∀ W,(Instr.sliceAt 29 (.slice C g.recs.length D) (some (.int .i64 (a-g.first))) none none).run prog W=.ok (.slice T (g.recs.drop (a-g.first).toNat).length O) W):=by
  by_cases aE:g.first<=a∧a<=g.first+(g.recs.length:Int)
  ·obtain⟨T,O,h1,h2⟩:=Zvz w C g.recs D bj.o (a-g.first).toNat (by omega)
   exact⟨T,O,fun _ _=>h1,fun _ _=>h2 _ (by omega)⟩
  ·exact⟨none,0,fun h1 h2=>absurd ⟨h1,h2⟩ aE,fun h1 h2=>absurd ⟨h1,h2⟩ aE⟩
 have aP:=ZZ bl;have aA:=ZZ bf;clear bl bf;have am:Hid (¬ ((g.pcs.length≠0∧g.first<=a∧a<=g.first+(g.recs.length:Int))∧c.2=0)->∀ W W',Below w.heap.size w W->Ql (ZoF w 0) W W'->Zcp I w (.slice C g.recs.length D) (.slice X g.pcs.length U) R (.returned (.tuple #[.agg #[.int .i64 a,.slice none 0 0,.slice none 0 0],.agg #[.int .i64 a,.int .i64 kd,.slice F K lc,.bool N,.int .i64 E,.slice G H J]])) W'):=ZZ (fun hn=>aN.o (fun h=>hn (aW.o.1 h)))
 have aM:Hid (∀ W,Below M.heap.size M W->Calls prog 38 #[.pointer (some ⟨w.heap.size,0,none⟩)] W fun e w'=>e=.returned (.int .i64 (g.first+(g.recs.length:Int)))∧Below M.heap.size M w'):=ZZ (fun W hW=>by
  obtain⟨l0,l1,l2⟩:=(ad.o.below hW).lc;refine(Zmb w.heap.size 0 g.first C g.recs.length D W l0 l1 ba (by omega)).mono ?_
  rintro e w' ⟨rfl,Z⟩
  exact⟨rfl,hW.trans (Z.mono hW.size)⟩)
 obtain⟨n1,a8⟩:=zg7 ((g.recs.drop (a-g.first).toNat).length);rw[<-a8] at aP aA;obtain⟨t,al⟩:=zg7 g.recs.length;obtain⟨A,ap⟩:=zg7 g.pcs.length;obtain⟨d,ak⟩:=zg7 g.first
 replace aH:=ZZ (fun T O W hW a0=>aH.o n1 T O W hW a0)
 have aO:Hid (d<=a->a<=d+(t:Int)->∀ W,Below M.heap.size M W->Calls prog 15 #[.agg #[.int .i64 a,.int .i64 kd,.slice F K lc,.bool N,.int .i64 E,.slice G H J],.slice T n1 O] W fun e w'=>∃ n z j q y p,e=.returned (.tuple #[.agg #[.int .i64 c.1.idx,.int .i64 c.1.st.kind,.slice n z j,.bool c.1.st.shut,.int .i64 c.1.st.eng,.slice q y p],.int .i64 c.2])∧Hid (Below W.heap.size W w')∧Hid (c.2=0->∀ W',(∃ Y,Below w'.heap.size w' Y∧Ql (ZoF w W.heap.size) Y W')->(A≠0∧d<=a∧a<=d+(t:Int))->Zcp I w (.slice C t D) (.slice X A U) R (.returned (.tuple #[.agg #[.int .i64 d,.slice C t D,.slice X A U],.agg #[.int .i64 c.1.idx,.int .i64 c.1.st.kind,.slice n z j,.bool c.1.st.shut,.int .i64 c.1.st.eng,.slice q y p]])) W')):=ZZ (by
  rw[al,ap,ak]
  exact fun h1 h2 W hW=>aH.o T O W hW (aP.o h1 h2))
 rw[<-al,<-ap,<-ak] at am;rw[<-al,<-ak] at aM aA bG;rw[<-al,<-ap,<-ak] at ad aw;rw[<-al] at bx;rw[<-ap] at bC;rw[<-ak] at ba;rw[<-al,<-ap,<-ak];clear aH aP aN aF aW aX aB hR bk bE aD hs a6 bj aq a4 aQ hr hp hx hi bb a8 al ap ak;obtain⟨Bc,bq⟩:∃ Bc:Bool,Bc=decide (A≠0∧d<=a∧a<=d+(t:Int)):=⟨_,rfl⟩;have aa:=ZZ bq;clear bq
 go_enter func36,ntmps36
 go_upto_region 1 with fail
 rw[<-aw];clear aw
 go_cut[24] (fun v wc=>v=.bool Bc∧Hid (Below M.heap.size M wc))
 case first=>
  obtain⟨ι,bI,V,hV,aR⟩:=Zoi M.heap.size M;have HV:=ZZ hV;obtain⟨i0,az⟩:=aR M.drew (zac _ _).drew;have d0:∀ i,(V i).cell? ⟨w.heap.size,0,none⟩=some (.int .i64 d):=fun i=>(ad.o.below (HV.o i)).lc.1
  have d2:∀ i,(V i).cell? ⟨w.heap.size,2,none⟩=some (.slice X A U):=fun i=>(ad.o.below (HV.o i)).lc.2.2
  have e0:∀ i,(V i).cell? ⟨w.heap.size+1,0,none⟩=some (.int .i64 a):=fun i=>(ad.o.below (HV.o i)).sc.1
  have bg:Hid (∀ i,Calls prog 38 #[.pointer (some ⟨w.heap.size,0,none⟩)] (V i) fun e w'=>e=.returned (.int .i64 (d+(t:Int)))∧∃ m,w'=V m):=ZZ (fun i=>(aM.o (V i) (HV.o i)).mono fun e w' h=>⟨h.1,aR w' h.2⟩)
  clear hV aR;by_cases q1:A=0
  ·have bw:decide ((A:Int)>0)=false:=zai (by omega)
   have bt:decide (0<A)=false:=zai (by omega)
   have af:Bc=false:=by rw[aa.o];exact zai (fun h=>h.1 q1)
   clear q1;refine Js V i0 (by kernel_rfl) (by kernel_rfl) az.symm ?_
   repeat (go_big_quiet_step (fail))
   refine zd3 ?_;intro _ an;obtain⟨nq,aj⟩:=an;subst aj
   go_wp2_with fail
   go_meet
   exact⟨by rw[af],ZZ (HV.o _)⟩
  have bw:(A:Int)>0:=by omega
  have bt:0<A:=by omega
  by_cases q2:d<=a
  case neg=>
   have aY:decide (d<=a)=false:=zai q2;have af:Bc=false:=by rw[aa.o];exact zai (fun h=>q2 h.2.1)
   clear q1 q2;refine Js V i0 (by kernel_rfl) (by kernel_rfl) az.symm ?_
   repeat (go_big_quiet_step (fail))
   refine zd3 ?_;intro _ an;obtain⟨nq,aj⟩:=an;subst aj
   go_wp2_with fail
   go_meet
   exact⟨by rw[af],ZZ (HV.o _)⟩
  by_cases q3:a<=d+(t:Int)
  ·have af:Bc=true:=by rw[aa.o];exact zan ⟨q1,q2,q3⟩
   clear q1 aa;generalize d+(t:Int)=NX at *;refine Js V i0 (by kernel_rfl) (by kernel_rfl) az.symm ?_
   repeat (go_big_quiet_step ((go_at_call 38;exact bg.o _)))
   refine zd3 ?_;intro _ an;obtain⟨nq,aj⟩:=an;subst aj
   go_wp2_with fail
   go_meet
   exact⟨by rw[af],ZZ (HV.o _)⟩
  ·have aG:decide (a<=d+(t:Int))=false:=zai q3
   have af:Bc=false:=by rw[aa.o];exact zai (fun h=>q3 h.2.2)
   clear q1 q3 aa;generalize d+(t:Int)=NX at *;refine Js V i0 (by kernel_rfl) (by kernel_rfl) az.symm ?_
   repeat (go_big_quiet_step ((go_at_call 38;exact bg.o _)))
   refine zd3 ?_;intro _ an;obtain⟨nq,aj⟩:=an;subst aj
   go_wp2_with fail
   go_meet
   exact⟨by rw[af],ZZ (HV.o _)⟩
 case rest=>
 obtain⟨f,rfl⟩:=zg7 wc;obtain⟨rfl,aI⟩:=hcut;clear aM;have B:=ZZ (ad.o.below aI.o)
 cases Bc with
 | false=>
  have a3:Hid (¬ ((A≠0∧d<=a∧a<=d+(t:Int))∧c.2=0)):=ZZ (fun h=>zdy aa.o.symm h.1)
  have ax:=ZZ (am.o a3.o);clear am a3 aO;obtain⟨l0,l1,l2⟩:=B.o.lc;obtain⟨s0,s1,s2,s3,s4,s5⟩:=B.o.sc;obtain⟨o0,p0⟩:=B.o.ol.cell 0 rfl;obtain⟨o1,p1⟩:=B.o.ol.cell 1 rfl;obtain⟨o2,p2⟩:=B.o.ol.cell 2 rfl;obtain⟨u0,v0⟩:=B.o.os.cell 0 rfl;obtain⟨u1,v1⟩:=B.o.os.cell 1 rfl;obtain⟨u2,v2⟩:=B.o.os.cell 2 rfl;obtain⟨u3,v3⟩:=B.o.os.cell 3 rfl;obtain⟨u4,v4⟩:=B.o.os.cell 4 rfl;obtain⟨u5,v5⟩:=B.o.os.cell 5 rfl
  go_upto_region 5 with fail
  go_region
  obtain⟨XX,ac,au,⟨k0,k1,k2⟩,k3,k4,k5,k6,k7,k8⟩:=ZmC w f (w.heap.size+1+1) (w.heap.size+1+1+1) rfl rfl B.o.ol B.o.os (.int .i64 a) (.slice none 0 0) (.slice none 0 0) (.int .i64 a) (.int .i64 kd) (.slice F K lc) (.bool N) (.int .i64 E) (.slice G H J);have av:=ZZ ac;clear ac;go_wp2;rw[<-av.o];refine zax (v:=.tuple #[.agg #[.int .i64 a,.slice none 0 0,.slice none 0 0],.agg #[.int .i64 a,.int .i64 kd,.slice F K lc,.bool N,.int .i64 E,.slice G H J]]) (by simp[results,Tryz.results36,go_sem,k0,k1,k2,k3,k4,k5,k6,k7,k8]) rfl ?_
  exact ax.o f _ B.o.old au
 | true=>
  have hc:=zcm aa.o.symm;have bz:=ZZ hc;obtain⟨bL,bi,be⟩:=hc;have hcut:=aA.o bi be;have a2:=ZZ (aO.o bi be);have hw:IntKind.i64.wrap (a-d)=a-d:=by rw[zbo];omega
  have bM:-9223372036854775808<=a-d:=by omega
  have bH:a-d<=9223372036854775807:=by omega
  obtain⟨l0,l1,l2⟩:=B.o.lc;obtain⟨s0,s1,s2,s3,s4,s5⟩:=B.o.sc;clear aO aA aa;have HE:Hid (∀ args w,(callFunc 15 args).run prog w=.ok (.enter 15 args) w):=ZZ (enters_of func15 (by kernel_rfl) rfl)
  have aJ:Hid (∀ W,Below f.heap.size f W->Calls prog 15 #[.agg #[.int .i64 a,.int .i64 kd,.slice F K lc,.bool N,.int .i64 E,.slice G H J],.slice T n1 O] W fun e w'=>∃ v',e=.returned v'∧∃ n z j q y p,v'=.tuple #[.agg #[.int .i64 c.1.idx,.int .i64 c.1.st.kind,.slice n z j,.bool c.1.st.shut,.int .i64 c.1.st.eng,.slice q y p],.int .i64 c.2]∧Hid (Below W.heap.size W w')∧Hid (c.2=0->∀ W',(∃ Y,Below w'.heap.size w' Y∧Ql (ZoF w W.heap.size) Y W')->Zcp I w (.slice C t D) (.slice X A U) R (.returned (.tuple #[.agg #[.int .i64 d,.slice C t D,.slice X A U],.agg #[.int .i64 c.1.idx,.int .i64 c.1.st.kind,.slice n z j,.bool c.1.st.shut,.int .i64 c.1.st.eng,.slice q y p]])) W')):=ZZ (fun W hW=>by
   refine(a2.o W (aI.o.trans (hW.mono aI.o.size))).mono ?_;rintro e w' ⟨n,z,j,q,y,p,rfl,Z,hf⟩
   exact⟨_,rfl,n,z,j,q,y,p,rfl,Z,ZZ (fun h0 W' aS=>hf.out h0 W' aS bz.o)⟩)
  clear a2
  have ao:Hid (∀ W,Below f.heap.size f W->(W.cell? ⟨w.heap.size+1,0,none⟩=some (.int .i64 a)∧W.cell? ⟨w.heap.size+1,1,none⟩=some (.int .i64 kd)∧W.cell? ⟨w.heap.size+1,2,none⟩=some (.slice F K lc)∧W.cell? ⟨w.heap.size+1,3,none⟩=some (.bool N)∧W.cell? ⟨w.heap.size+1,4,none⟩=some (.int .i64 E)∧W.cell? ⟨w.heap.size+1,5,none⟩=some (.slice G H J)∧W.cell? ⟨w.heap.size,0,none⟩=some (.int .i64 d)∧W.cell? ⟨w.heap.size,1,none⟩=some (.slice C t D))):=ZZ (fun W h=>by
   obtain⟨g0,g1,g2⟩:=(B.o.below h).lc;obtain⟨e0,e1,e2,e3,e4,e5⟩:=(B.o.below h).sc
   exact⟨e0,e1,e2,e3,e4,e5,g0,g1⟩)
  obtain⟨T1,a5⟩:=zg7 c.1.idx;obtain⟨T2,bd⟩:=zg7 c.1.st.kind;obtain⟨T3,a9⟩:=zg7 c.1.st.shut;obtain⟨T4,bc⟩:=zg7 c.1.st.eng;obtain⟨T5,aZ⟩:=zg7 c.2;rw[<-a5,<-bd,<-a9,<-bc,<-aZ] at aJ;rw[<-aZ] at am;clear a5 bd a9 bc aZ;have aK:Hid (Below f.heap.size f f.drew):=ZZ (zac _ _).drew;have ay:Hid (Below f.heap.size f (f.alloc (.cells #[.int .i64 0,.int .i64 0,.slice none 0 0,.bool false,.int .i64 0,.slice none 0 0] 41)).drew):=ZZ ((zac _ _).alloc zL _).drew;have aU:Hid (w.heap.size+4<=f.heap.size):=ZZ (by have:=aI.o.size;omega)
  clear l0 l1 l2 s0 s1 s2 s3 s4 s5
  go_upto_region 2 with fail
  go_cut[6,7] (fun v6 v7 wc=>∃ (b:Nat) (n:Option Addr) (z j:Nat) (q:Option Addr) (y p:Nat),v6=.pointer (some ⟨b,0,none⟩)∧v7=.int .i64 T5∧Hid (w.heap.size+4<=b)∧Hid (Bk 41 wc b #[.int .i64 T1,.int .i64 T2,.slice n z j,.bool T3,.int .i64 T4,.slice q y p])∧Hid (Below f.heap.size f wc)∧
   Hid (T5=0->∀ W',Ql (ZoF w 0) wc W'->Zcp I w (.slice C t D) (.slice X A U) R (.returned (.tuple #[.agg #[.int .i64 d,.slice C t D,.slice X A U],.agg #[.int .i64 T1,.int .i64 T2,.slice n z j,.bool T3,.int .i64 T4,.slice q y p]])) W'))
  case first=>
   go_region_held2(fun W=>W.cell? ⟨w.heap.size+1,0,none⟩=some (.int .i64 a)∧W.cell? ⟨w.heap.size+1,1,none⟩=some (.int .i64 kd)∧W.cell? ⟨w.heap.size+1,2,none⟩=some (.slice F K lc)∧W.cell? ⟨w.heap.size+1,3,none⟩=some (.bool N)∧W.cell? ⟨w.heap.size+1,4,none⟩=some (.int .i64 E)∧W.cell? ⟨w.heap.size+1,5,none⟩=some (.slice G H J)∧W.cell? ⟨w.heap.size,0,none⟩=some (.int .i64 d)∧W.cell? ⟨w.heap.size,1,none⟩=some (.slice C t D))
    (first | (with_reducible exact ao.o _ aK.o) | (with_reducible exact ao.o _ ay.o) | (with_reducible exact ao.o _ ab.o) | (with_reducible exact ao.o _ (ZoG ab.o _ zL _ _ _ _ _ _)) | (with_reducible exact ao.o _ (ab.o.alloc ab.o.size _)))
    (first
     | ((with_reducible refine Y8 15 _ _ rfl rfl #[.agg #[.int .i64 a,.int .i64 kd,.slice F K lc,.bool N,.int .i64 E,.slice G H J],.slice T n1 O] (by simp[Act.eval]) HE.o (aJ.o f.drew aK.o) ?_);rintro v' u ⟨n,z,j,q,y,p,rfl,aC,ai⟩;have ab:Hid (Below f.heap.size f u):=ZZ (aK.o.trans aC.o))
     | ((with_reducible refine Y8 15 _ _ rfl rfl #[.agg #[.int .i64 a,.int .i64 kd,.slice F K lc,.bool N,.int .i64 E,.slice G H J],.slice T n1 O] (by simp[Act.eval]) HE.o (aJ.o (f.alloc (.cells #[.int .i64 0,.int .i64 0,.slice none 0 0,.bool false,.int .i64 0,.slice none 0 0] 41)).drew ay.o) ?_);rintro v' u ⟨n,z,j,q,y,p,rfl,aC,ai⟩;have ab:Hid (Below f.heap.size f u):=ZZ (ay.o.trans (aC.o.mono ay.o.size));have ag:Hid (Bk 41 u f.heap.size #[.int .i64 0,.int .i64 0,.slice none 0 0,.bool false,.int .i64 0,.slice none 0 0]):=ZZ (ZzO f _ u aC.o);obtain⟨z0,y0⟩:=ag.o.cell 0 rfl;obtain⟨z1,y1⟩:=ag.o.cell 1 rfl;obtain⟨z2,y2⟩:=ag.o.cell 2 rfl;obtain⟨z3,y3⟩:=ag.o.cell 3 rfl;obtain⟨z4,y4⟩:=ag.o.cell 4 rfl;obtain⟨z5,y5⟩:=ag.o.cell 5 rfl))
   all_goals
    go_wp2_with fail
    go_meet
    first
     | exact⟨_,n,z,j,q,y,p,rfl,rfl,aU,ZZ ((((((ag.o.set 0 _).set 1 _).set 2 _).set 3 _).set 4 _).set 5 _),ZZ (ZoG ab.o _ zL _ _ _ _ _ _),ZZ (fun h0 W' ho=>ai.o h0 W' ⟨_,zac _ _,(ZzN u f.heap.size _ _ _ _ _ _ (fun k=>ZoF w (f.alloc (.cells #[.int .i64 0,.int .i64 0,.slice none 0 0,.bool false,.int .i64 0,.slice none 0 0] 41)).drew.heap.size k) (.inr ⟨aU.o,ZBb f _⟩)).trans (ho.mono (fun k hk=>hk.more)) (fun _ _ h=>h)⟩)⟩
     | exact⟨_,n,z,j,q,y,p,rfl,rfl,ZZ (zau aU.o ab.o.size),ZZ (zak u _),ZZ (ab.o.alloc ab.o.size _),ZZ (fun h0 W' ho=>ai.o h0 W' ⟨_,Z3 u _,ho.mono (fun k hk=>hk.more)⟩)⟩
  case rest=>
  obtain⟨b,n,z,j,q,y,p,rfl,rfl,aL,ae,br,ai⟩:=hcut;obtain⟨WC,rfl⟩:=zg7 wc;have Q:=ZZ (B.o.below br.o);clear aJ ao aK ay HE hcut;obtain⟨l0,l1,l2⟩:=Q.o.lc;obtain⟨s0,s1,s2,s3,s4,s5⟩:=Q.o.sc;obtain⟨o0,p0⟩:=Q.o.ol.cell 0 rfl;obtain⟨o1,p1⟩:=Q.o.ol.cell 1 rfl;obtain⟨o2,p2⟩:=Q.o.ol.cell 2 rfl;obtain⟨u0,v0⟩:=Q.o.os.cell 0 rfl;obtain⟨u1,v1⟩:=Q.o.os.cell 1 rfl;obtain⟨u2,v2⟩:=Q.o.os.cell 2 rfl;obtain⟨u3,v3⟩:=Q.o.os.cell 3 rfl;obtain⟨u4,v4⟩:=Q.o.os.cell 4 rfl;obtain⟨u5,v5⟩:=Q.o.os.cell 5 rfl;by_cases hT:T5=0
  case neg=>
   have bu:(T5 == 0)=false:=zah.2 hT;have ax:=ZZ (am.o (fun h=>hT h.2))
   clear am ai ae hT
   go_upto_region 5 with fail
   go_region
   obtain⟨XX,ac,au,⟨k0,k1,k2⟩,k3,k4,k5,k6,k7,k8⟩:=ZmC w WC (w.heap.size+1+1) (w.heap.size+1+1+1) rfl rfl Q.o.ol Q.o.os (.int .i64 a) (.slice none 0 0) (.slice none 0 0) (.int .i64 a) (.int .i64 kd) (.slice F K lc) (.bool N) (.int .i64 E) (.slice G H J);have av:=ZZ ac;clear ac;go_wp2;rw[<-av.o];refine zax (v:=.tuple #[.agg #[.int .i64 a,.slice none 0 0,.slice none 0 0],.agg #[.int .i64 a,.int .i64 kd,.slice F K lc,.bool N,.int .i64 E,.slice G H J]]) (by simp[results,Tryz.results36,go_sem,k0,k1,k2,k3,k4,k5,k6,k7,k8]) rfl ?_
   exact ax.o WC _ Q.o.old au
  have bu:(T5 == 0)=true:=by rw[zbi];exact hT
  have ax:=ZZ (ai.o hT);obtain⟨x0,-⟩:=ae.o.cell 0 rfl;obtain⟨x1,-⟩:=ae.o.cell 1 rfl;obtain⟨x2,-⟩:=ae.o.cell 2 rfl;obtain⟨x3,-⟩:=ae.o.cell 3 rfl;obtain⟨x4,-⟩:=ae.o.cell 4 rfl;obtain⟨x5,-⟩:=ae.o.cell 5 rfl;have bS:¬ (b=w.heap.size+1+1):=by have:=aL.o;omega
  have bW:¬ (b=w.heap.size+1+1+1):=by have:=aL.o;omega
  have bP:¬ (w.heap.size+1+1=b):=by have:=aL.o;omega
  have bV:¬ (w.heap.size+1+1+1=b):=by have:=aL.o;omega
  clear am ai hT s0 s1 s2 s3 s4 s5
  go_upto_region 4 with fail
  go_region
  obtain⟨XX,ac,au,⟨k0,k1,k2⟩,k3,k4,k5,k6,k7,k8⟩:=ZmC w WC (w.heap.size+1+1) (w.heap.size+1+1+1) rfl rfl Q.o.ol Q.o.os (.int .i64 d) (.slice C t D) (.slice X A U) (.int .i64 T1) (.int .i64 T2) (.slice n z j) (.bool T3) (.int .i64 T4) (.slice q y p);have av:=ZZ ac;clear ac;go_wp2;rw[<-av.o];refine zax (v:=.tuple #[.agg #[.int .i64 d,.slice C t D,.slice X A U],.agg #[.int .i64 T1,.int .i64 T2,.slice n z j,.bool T3,.int .i64 T4,.slice q y p]]) (by simp[results,Tryz.results36,go_sem,k0,k1,k2,k3,k4,k5,k6,k7,k8]) rfl ?_
  exact ax.o _ au
end Go.Proofs.YtnahjngbneicaaaGreatDoor
