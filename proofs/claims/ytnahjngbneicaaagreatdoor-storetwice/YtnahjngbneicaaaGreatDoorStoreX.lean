import Derived.Test.YtnahjngbneicaaaGreatDoorStoreOpenM
namespace Go.Proofs.YtnahjngbneicaaaGreatDoor
open _root_.Go.Proofs.Tryz
set_option maxRecDepth 100000
open Go.RowKit
variable {W W' w:World} {a b c d e g pv rv:Value} {f:Int} {C:Nat}
theorem ZhJ.inside {w':World} {x:Qv × Value × Value} {I:Nat->Prop} {l:List Rec} {r:Qv × Int} (n:SnR w x) (hi:ZlB I x) (f:RdI w' c r.1.st.L) (g1:c=x.2.1∨∀ b,c.ownBlock=some b->w.heap.size<=b)
 (g2:(l=[]∧e=x.2.2)∨Xc w' w.heap.size e r.1.tab) (q:l=[]->r.1=x.1):ZlB (fun k=>I k∨(w.heap.size<=k∧k<w'.heap.size)) (r.1,c,e):=by
 refine⟨?_,?_⟩
 ·rcases f.block with u | ⟨z,k,j,t⟩
  ·exact .inl u
  ·rcases g1 with g1 | g1
   ·rcases hi.1 with hi | hi
    ·obtain⟨v,y,i,-⟩:=n.l
     obtain⟨B,A,d,-⟩:=f;rw[hi] at i;rw[g1,i] at d
     injection d with _ d _
     exact .inl (List.eq_nil_of_length_eq_zero (by rw[<-d];rfl))
    ·exact .inr fun g a=>.inl (hi g (by rw[<-g1];exact a))
   ·refine .inr fun g a=>.inr ⟨g1 g a,?_⟩
    have p:c.ownBlock=some g:=a;rw[p] at j;obtain rfl:=Option.some.inj j;exact t
 ·rcases g2 with ⟨m,g2⟩ | g2
  ·rcases hi.2 with hi | hi
   ·exact .inl (by show r.1.tab=[];rw[q m];exact hi)
   ·exact .inr fun g a=>.inl (hi g (by rw[<-g2];exact a))
  ·exact .inr fun g a=>.inr (World.ownsRow.lt g2 g a)
theorem ZyK (w:World) (X Y Z:Obj):(((w.alloc X).alloc Y).alloc Z).heap[w.heap.size+2]?=some Z:=by
 have h:=heap_alloc_new ((w.alloc X).alloc Y) Z;have e:((w.alloc X).alloc Y).heap.size=w.heap.size+2:=by simp
 rw[e] at h;exact h
theorem ZyL (w:World) (X Y Z U:Obj):((((w.alloc X).alloc Y).alloc Z).alloc U).heap[w.heap.size+3]?=some U:=by
 have h:=heap_alloc_new (((w.alloc X).alloc Y).alloc Z) U;have e:(((w.alloc X).alloc Y).alloc Z).heap.size=w.heap.size+3:=by simp
 rw[e] at h;exact h
def Zcp (I:Nat->Prop) (w:World) (rv pv:Value) (r:Lgb × Qv) (e:Ending) (w':World):Prop:=
 ∃ rv' pv' vl vt,e=.returned (.tuple #[.agg #[.int .i64 r.1.first,rv',pv'],snV (r.2,vl,vt)])∧Q9 w' 0 rv' r.1.recs∧w'.ownsRow 0 108 3 pv' r.1.pcs.length (Qx r.1.pcs)∧(rv'=rv∨rv'=.slice none 0 0)∧(pv'=pv∨pv'=.slice none 0 0)∧
  SnR w' (r.2,vl,vt)∧ZlB (fun k=>I k∨(w.heap.size<=k∧k<w'.heap.size)) (r.2,vl,vt)∧Below w.heap.size w w'
structure Zxb (w:World) (f:Int) (rv pv:Value) (x0 x1 x2 x3 x4 x5:Value) (W:World):Prop where
 lg:Bk 73 W w.heap.size #[.int .i64 f,rv,pv]
 sn:Bk 41 W (w.heap.size+1) #[x0,x1,x2,x3,x4,x5]
 ol:Bk 73 W (w.heap.size+2) #[.int .i64 0,.slice none 0 0,.slice none 0 0]
 os:Bk 41 W (w.heap.size+3) #[.int .i64 0,.int .i64 0,.slice none 0 0,.bool false,.int .i64 0,.slice none 0 0]
 old:Below w.heap.size w W
theorem Zxb.below {i:Value} (h:Zxb w f rv pv c d b g i e W) (a:Below W.heap.size W W'):Zxb w f rv pv c d b g i e W':=
 ⟨h.lg.keep (a.block _ h.lg.lt),h.sn.keep (a.block _ h.sn.lt),h.ol.keep (a.block _ h.ol.lt),h.os.keep (a.block _ h.os.lt),h.old.trans (a.mono h.old.size)⟩
theorem Zxb.lc (h:Zxb w f rv pv b c a e g d W):W.cell? ⟨w.heap.size,0,none⟩=some (.int .i64 f)∧W.cell? ⟨w.heap.size,1,none⟩=some rv∧W.cell? ⟨w.heap.size,2,none⟩=some pv:=
 ⟨(h.lg.cell 0 rfl).1,(h.lg.cell 1 rfl).1,(h.lg.cell 2 rfl).1⟩
theorem Zxb.sc (h:Zxb w f rv pv b c a e g d W):
 W.cell? ⟨w.heap.size+1,0,none⟩=some b∧W.cell? ⟨w.heap.size+1,1,none⟩=some c∧W.cell? ⟨w.heap.size+1,2,none⟩=some a∧W.cell? ⟨w.heap.size+1,3,none⟩=some e∧W.cell? ⟨w.heap.size+1,4,none⟩=some g∧W.cell? ⟨w.heap.size+1,5,none⟩=some d:=
 ⟨(h.sn.cell 0 rfl).1,(h.sn.cell 1 rfl).1,(h.sn.cell 2 rfl).1,(h.sn.cell 3 rfl).1,(h.sn.cell 4 rfl).1,(h.sn.cell 5 rfl).1⟩
def Znz (w:World) (C:Nat) (k:Nat):Prop:=(k=w.heap.size+2∨k=w.heap.size+3)∨(w.heap.size+4<=k∧k<C)
theorem Znz.more {k:Nat} (h:Znz w 0 k):Znz w C k:=by
 rcases h with h | h
 ·exact .inl h
 ·omega
theorem ZwJ (w W:World) (c a:Nat) (k:c=w.heap.size+2) (g:a=w.heap.size+3) (j e n l q i m p f:Value):Qj (Znz w 0) W (((((((((W.setCell ⟨c,0,none⟩ j).setCell ⟨c,1,none⟩ e).setCell ⟨c,2,none⟩ n).setCell ⟨a,0,none⟩ l).setCell ⟨a,1,none⟩ q).setCell ⟨a,2,none⟩ i).setCell ⟨a,3,none⟩ m).setCell ⟨a,4,none⟩ p).setCell ⟨a,5,none⟩ f):=by
 have d:Znz w 0 c:=.inl (.inl k);have b:Znz w 0 a:=.inl (.inr g);exact(((((((((Qj.refl _ _).setCell _ (fun _=>d) _).setCell _ (fun _=>d) _).setCell _ (fun _=>d) _).setCell _ (fun _=>b) _).setCell _ (fun _=>b) _).setCell _ (fun _=>b) _).setCell _ (fun _=>b) _).setCell _ (fun _=>b) _).setCell _ (fun _=>b) _
theorem Zly (w W:World) (b a:Nat) (B:b=w.heap.size+2) (z:a=w.heap.size+3) {x G I J A F E D y:Value} (C:Bk 73 W b #[x,G,I]) (H:Bk 41 W a #[J,A,F,E,D,y]) (i k d g m f j e l:Value):
 ∃ c,c=(((((((((W.setCell ⟨b,0,none⟩ i).setCell ⟨b,1,none⟩ k).setCell ⟨b,2,none⟩ d).setCell ⟨a,0,none⟩ g).setCell ⟨a,1,none⟩ m).setCell ⟨a,2,none⟩ f).setCell ⟨a,3,none⟩ j).setCell ⟨a,4,none⟩ e).setCell ⟨a,5,none⟩ l).drew∧Qj (Znz w 0) W c∧(c.cell? ⟨b,0,none⟩=some i∧c.cell? ⟨b,1,none⟩=some k∧c.cell? ⟨b,2,none⟩=some d)∧(c.cell? ⟨a,0,none⟩=some g∧c.cell? ⟨a,1,none⟩=some m∧c.cell? ⟨a,2,none⟩=some f∧c.cell? ⟨a,3,none⟩=some j∧c.cell? ⟨a,4,none⟩=some e∧c.cell? ⟨a,5,none⟩=some l):=by
 have n:b≠a:=by omega
 have v:Bk 73 (((((((((W.setCell ⟨b,0,none⟩ i).setCell ⟨b,1,none⟩ k).setCell ⟨b,2,none⟩ d).setCell ⟨a,0,none⟩ g).setCell ⟨a,1,none⟩ m).setCell ⟨a,2,none⟩ f).setCell ⟨a,3,none⟩ j).setCell ⟨a,4,none⟩ e).setCell ⟨a,5,none⟩ l) b #[i,k,d]:=((((((((C.set 0 i).set 1 k).set 2 d).other a 0 g n).other a 1 m n).other a 2 f n).other a 3 j n).other a 4 e n).other a 5 l n;have u:Bk 41 (((((((((W.setCell ⟨b,0,none⟩ i).setCell ⟨b,1,none⟩ k).setCell ⟨b,2,none⟩ d).setCell ⟨a,0,none⟩ g).setCell ⟨a,1,none⟩ m).setCell ⟨a,2,none⟩ f).setCell ⟨a,3,none⟩ j).setCell ⟨a,4,none⟩ e).setCell ⟨a,5,none⟩ l) a #[g,m,f,j,e,l]:=(((((((((H.other b 0 i n.symm).other b 1 k n.symm).other b 2 d n.symm).set 0 g).set 1 m).set 2 f).set 3 j).set 4 e).set 5 l);have p:=ZwJ w W b a B z i k d g m f j e l
 revert v u p
 generalize (((((((((W.setCell ⟨b,0,none⟩ i).setCell ⟨b,1,none⟩ k).setCell ⟨b,2,none⟩ d).setCell ⟨a,0,none⟩ g).setCell ⟨a,1,none⟩ m).setCell ⟨a,2,none⟩ f).setCell ⟨a,3,none⟩ j).setCell ⟨a,4,none⟩ e).setCell ⟨a,5,none⟩ l)=Y;intro v u p;have t:Bk 73 Y.drew b #[i,k,d]:=v;have q:Bk 41 Y.drew a #[g,m,f,j,e,l]:=u;exact⟨Y.drew,rfl,⟨p.os,p.tape,p.output,p.size,p.block⟩,⟨(t.cell 0 rfl).1,(t.cell 1 rfl).1,(t.cell 2 rfl).1⟩,(q.cell 0 rfl).1,(q.cell 1 rfl).1,(q.cell 2 rfl).1,(q.cell 3 rfl).1,(q.cell 4 rfl).1,(q.cell 5 rfl).1⟩
theorem Zkn (b:Below w.heap.size w W) (c:w.heap.size<=W.heap.size) (a:Qj (Znz w C) W W'):Below w.heap.size w W':=
 b.trans (a.below c fun k hk=>by
  rcases hk with hk | hk
  ·omega
  ·omega)
theorem ZxV (W:World) (R:Nat) (c d b f g e:Value) (G:Nat->Prop) (a:G R):Qj G W ((((((W.setCell ⟨R,0,none⟩ c).setCell ⟨R,1,none⟩ d).setCell ⟨R,2,none⟩ b).setCell ⟨R,3,none⟩ f).setCell ⟨R,4,none⟩ g).setCell ⟨R,5,none⟩ e):=
 ((((((Qj.refl G W).setCell 0 (fun _=>a) c).setCell 1 (fun _=>a) d).setCell 2 (fun _=>a) b).setCell 3 (fun _=>a) f).setCell 4 (fun _=>a) g).setCell 5 (fun _=>a) e
theorem Zzi (a:World) (X:Obj):a.heap.size<(a.alloc X).drew.heap.size:=by
 have:(a.alloc X).drew.heap.size=a.heap.size+1:=by simp[World.drew]
 omega
theorem ZxW (a:World) (cs:Array Value) (b:World) (d:Below (a.alloc (.cells cs 41)).drew.heap.size (a.alloc (.cells cs 41)).drew b):Bk 41 b a.heap.size cs:=by
 have c:Bk 41 (a.alloc (.cells cs 41)).drew a.heap.size cs:=heap_alloc_new a _;exact c.keep (d.block _ c.lt)
theorem ZnA {B:Nat} {a:World} (h:Below B a W) (R:Nat) (b:B<=R) (c e d g i f:Value):Below B a ((((((W.setCell ⟨R,0,none⟩ c).setCell ⟨R,1,none⟩ e).setCell ⟨R,2,none⟩ d).setCell ⟨R,3,none⟩ g).setCell ⟨R,4,none⟩ i).setCell ⟨R,5,none⟩ f):=
 (((((h.setCell (p:=⟨R,0,none⟩) b c).setCell (p:=⟨R,1,none⟩) b e).setCell (p:=⟨R,2,none⟩) b d).setCell (p:=⟨R,3,none⟩) b g).setCell (p:=⟨R,4,none⟩) b i).setCell (p:=⟨R,5,none⟩) b f
set_option maxHeartbeats 4000000 in
theorem Zsz (I:Nat->Prop) (g:Lgb) (rv pv:Value) (x:Qv × Value × Value) (w:World) (hr:Q9 w 0 rv g.recs) (hp:w.ownsRow 0 108 3 pv g.pcs.length (Qx g.pcs)) (hx:SnR w x) (hi:ZlB I x) (bf:∀ k,I k->k<w.heap.size) (aG:OkG g) (hs:SnS x.1) (bq:g.recs.length<=9000000) (bt:g.pcs.length<=900000):
 Calls prog 36 #[.agg #[.int .i64 g.first,rv,pv],snV x] w fun e w'=>Zcp I w rv pv (g.behind x.1) e w':=by
 obtain⟨C,D,bA⟩:=hr.shape;obtain⟨X,U,bD⟩:=Zg hp;obtain⟨G,E,lc,H,J,N,bc,a5⟩:=hx.shape;have aZ:Hid (snV x=.agg #[.int .i64 x.1.idx,.int .i64 x.1.st.kind,.slice G E lc,.bool x.1.st.shut,.int .i64 x.1.st.eng,.slice H J N]):=ZZ (by unfold snV snC;rw[bc,a5])
 have bi:=aG.f0;have a6:=aG.top;have a9:=ZZ (hr.rd aG.recOk)
 have aT:Hid (¬ g.leads x.1->∀ W W',Below w.heap.size w W->Qj (Znz w 0) W W'->Zcp I w rv pv (g.behind x.1) (.returned (.tuple #[.agg #[.int .i64 x.1.idx,.slice none 0 0,.slice none 0 0],.agg #[.int .i64 x.1.idx,.int .i64 x.1.st.kind,.slice G E lc,.bool x.1.st.shut,.int .i64 x.1.st.eng,.slice H J N]])) W'):=ZZ (fun hn W W' Z ho=>by
  have ar:=Zkn Z Z.size ho;unfold Lgb.behind;rw[if_neg hn]
  refine⟨_,_,x.2.1,x.2.2,by rw[<-aZ.o],Q9.nil _ _,World.ownsRow_nil _ _ _ _,.inr rfl,.inr rfl,hx.below ar zL,hi.mono (fun k hk=>.inl hk),ar⟩)
 have aK:Hid (g.leads x.1->∀ (W u W':World) (vx vu:Value),Below w.heap.size w W->w.heap.size+4<=W.heap.size->RdI u vx (Xa x.1 (g.recs.drop (x.1.idx-g.first).toNat)).1.st.L->RdE u vu (Xa x.1 (g.recs.drop (x.1.idx-g.first).toNat)).1.tab->I64 (Xa x.1 (g.recs.drop (x.1.idx-g.first).toNat)).1.st.kind->I64 (Xa x.1 (g.recs.drop (x.1.idx-g.first).toNat)).1.st.eng->I64 (Xa x.1 (g.recs.drop (x.1.idx-g.first).toNat)).1.idx->
  ZlB (fun k=>I k∨(W.heap.size<=k∧k<u.heap.size)) ((Xa x.1 (g.recs.drop (x.1.idx-g.first).toNat)).1,vx,vu)->Below W.heap.size W u->(∃ Y,Below u.heap.size u Y∧Qj (Znz w W.heap.size) Y W')->
  Zcp I w rv pv (g.behind x.1) (.returned (.tuple #[.agg #[.int .i64 g.first,rv,pv],.agg #[.int .i64 (Xa x.1 (g.recs.drop (x.1.idx-g.first).toNat)).1.idx,.int .i64 (Xa x.1 (g.recs.drop (x.1.idx-g.first).toNat)).1.st.kind,vx,.bool (Xa x.1 (g.recs.drop (x.1.idx-g.first).toNat)).1.st.shut,.int .i64 (Xa x.1 (g.recs.drop (x.1.idx-g.first).toNat)).1.st.eng,vu]])) W'):=ZZ (fun hn W u W' vx vu Z bK k1 k2 k3 k4 k5 k6 aM ⟨Y,aF,ho⟩=>by
  have aU:Below w.heap.size w u:=Z.trans (aM.mono Z.size);have a4:Below w.heap.size w Y:=aU.trans (aF.mono aU.size);have ar:=Zkn a4 a4.size ho;have bR:=aM.size;have bI:=aF.size;have bN:=ho.size
  have bB:∀ k,(I k∨(W.heap.size<=k∧k<u.heap.size))->W'.heap[k]?=u.heap[k]?:=fun k hk=>by
   have bb:k<u.heap.size∧¬ Znz w W.heap.size k:=by
    rcases hk with hk | hk
    ·have:=bf k hk
     refine⟨by have:=aU.size;omega,fun h=>?_⟩
     rcases h with h | h <;> omega
    ·refine⟨hk.2,fun h=>?_⟩
     rcases h with h | h <;> omega
   rw[ho.block k (by omega) bb.2,aF.block k bb.1]
  have hS:SnR u ((Xa x.1 (g.recs.drop (x.1.idx-g.first).toNat)).1,vx,vu):=⟨k1,k2,k3,k4,k5⟩;unfold Lgb.behind;rw[if_pos hn]
  exact⟨rv,pv,vx,vu,rfl,hr.below ar zL,Qh hp (fun k hk=>ar.block k (World.ownsRow.lt hp k hk).2),.inl rfl,.inl rfl,hS.keep k6 bB,k6.mono (fun k hk=>hk.imp id (fun h=>⟨by have:=Z.size;omega,by omega⟩)),ar⟩)
 have ap:=ZZ (And.intro hx (And.intro hi hs));obtain⟨K,ay⟩:∃ K,K=(((w.alloc (.cells #[.int .i64 g.first,.slice C g.recs.length D,.slice X g.pcs.length U] 73)).alloc (.cells #[.int .i64 x.1.idx,.int .i64 x.1.st.kind,.slice G E lc,.bool x.1.st.shut,.int .i64 x.1.st.eng,.slice H J N] 41)).alloc (.cells #[.int .i64 0,.slice none 0 0,.slice none 0 0] 73)).alloc (.cells #[.int .i64 0,.int .i64 0,.slice none 0 0,.bool false,.int .i64 0,.slice none 0 0] 41):=⟨_,rfl⟩;have bS:K.heap.size=w.heap.size+4:=by rw[ay];simp
 have ad:Hid (Zxb w g.first (.slice C g.recs.length D) (.slice X g.pcs.length U) (.int .i64 x.1.idx) (.int .i64 x.1.st.kind) (.slice G E lc) (.bool x.1.st.shut) (.int .i64 x.1.st.eng) (.slice H J N) K):=ZZ (by
  rw[ay];refine⟨?_,?_,?_,?_,(((Below.refl _ _).alloc zL _).alloc (by simp) _).alloc (by simp;omega) _ |>.alloc (by simp;omega) _⟩
  ·exact(Below.heap_alloc _ _ _ (by simp;omega)).trans ((Below.heap_alloc _ _ _ (by simp;omega)).trans ((Below.heap_alloc _ _ _ (by simp)).trans (heap_alloc_new w _)))
  ·exact(Below.heap_alloc _ _ _ (by simp)).trans ((Below.heap_alloc _ _ _ (by simp)).trans (ZdM w _ _))
  ·exact(Below.heap_alloc _ _ _ (by simp)).trans (ZyK w _ _ _)
  ·exact ZyL w _ _ _ _)
 obtain⟨⟨a,⟨kd,LL,F,M⟩,tb⟩,bJ,bT⟩:=x
 dsimp only at *
 subst bc a5;obtain⟨c,aI⟩:∃ c,c=Xa ⟨a,⟨kd,LL,F,M⟩,tb⟩ (g.recs.drop (a-g.first).toNat):=⟨_,rfl⟩;rw[<-aI] at aK;have aR:=ZZ aI
 have aO:Hid (g.leads ⟨a,⟨kd,LL,F,M⟩,tb⟩↔(g.pcs.length≠0∧g.first<=a∧a<=g.first+(g.recs.length:Int))∧c.2=0):=ZZ (by
  unfold Lgb.leads;rw[aI,and_assoc,and_assoc]
  exact Iff.rfl)
 rw[aZ.o];subst bA bD;obtain⟨R,hR⟩:∃ R,R=g.behind ⟨a,⟨kd,LL,F,M⟩,tb⟩:=⟨_,rfl⟩;rw[<-hR] at aT aK ⊢;have a8:=ZZ (And.intro bq hr);have bF:(g.recs.length:Int)<=9000000:=by omega
 have bu:(g.pcs.length:Int)<=900000:=by omega
 have bG:g.first+(g.recs.length:Int)<=4611686018427387904:=a6
 have aE:Hid (∀ (n1:Nat) (O:Option Addr) (T:Nat) (W:World),Below K.heap.size K W->RdR w (.slice O n1 T) (g.recs.drop (a-g.first).toNat)->Calls prog 15 #[.agg #[.int .i64 a,.int .i64 kd,.slice G E lc,.bool F,.int .i64 M,.slice H J N],.slice O n1 T] W fun e w'=>∃ p z n q y j,e=.returned (.tuple #[.agg #[.int .i64 c.1.idx,.int .i64 c.1.st.kind,.slice p z n,.bool c.1.st.shut,.int .i64 c.1.st.eng,.slice q y j],.int .i64 c.2])∧Hid (Below W.heap.size W w')∧Hid (c.2=0->∀ W',(∃ Y,Below w'.heap.size w' Y∧Qj (Znz w W.heap.size) Y W')->(g.pcs.length≠0∧g.first<=a∧a<=g.first+(g.recs.length:Int))->Zcp I w (.slice C g.recs.length D) (.slice X g.pcs.length U) R (.returned (.tuple #[.agg #[.int .i64 g.first,.slice C g.recs.length D,.slice X g.pcs.length U],.agg #[.int .i64 c.1.idx,.int .i64 c.1.st.kind,.slice p z n,.bool c.1.st.shut,.int .i64 c.1.st.eng,.slice q y j]])) W')):=ZZ (fun n1 O T W hW aV=>by
  have aW:Below w.heap.size w W:=ad.o.old.trans (hW.mono ad.o.old.size);have bH:=hW.size;have bk:=ap.o.1.below aW zL;have bv:=bk.snV;have hL:LL.length<=1000:=by have:=Zoz ap.o.2.2.1;exact Nat.le_trans this (by decide)
  have hT:tb.length<=1000:=by have:=ap.o.2.2.2.few;exact Nat.le_trans this (by decide)
  refine(ZmE (P:=SnS) (fun S r hS hf=>hS.next hf) (fun S hS=>by have:=hS.2.few;omega) _ _ _ _ _ _ ⟨a,⟨kd,LL,F,M⟩,tb⟩ _ _ W bv (aV.below aW zL) hL hT (by rw[List.length_drop];have:=a8.o.1;omega) ap.o.2.2).mono ?_
  rw[<-aR.o];rintro e w' ⟨vx,vu,rfl,r1,r2,r3,r4,r5,g1,g2,Z⟩;have az:=ZhJ.inside (x:=(⟨a,⟨kd,LL,F,M⟩,tb⟩,.slice G E lc,.slice H J N)) (l:=g.recs.drop (a-g.first).toNat) bk ap.o.2.1 r1 g1 g2 (fun hl=>by rw[aR.o,hl];rfl)
  obtain⟨p,n,bC,-⟩:=id r1;obtain⟨q,j,hu⟩:=r4.shape;have HP:=fun h0 hc=>aK.o (aO.o.2 ⟨hc,h0⟩) W w'
  subst bC hu
  exact⟨p,_,n,q,_,j,rfl,ZZ Z,ZZ (fun h0 W' a0 hc=>HP h0 hc W' _ _ aW (by omega) r1 r4 r2 r3 r5 az Z a0)⟩)
 obtain⟨O,T,bm,bg⟩:∃ O T,(g.first<=a->a<=g.first+(g.recs.length:Int)->RdR w (.slice O (g.recs.drop (a-g.first).toNat).length T) (g.recs.drop (a-g.first).toNat))∧(g.first<=a->a<=g.first+(g.recs.length:Int)->∀ W,(Instr.sliceAt 29 (.slice C g.recs.length D) (some (.int .i64 (a-g.first))) none none).run prog W=.ok (.slice O (g.recs.drop (a-g.first).toNat).length T) W):=by
  by_cases az:g.first<=a∧a<=g.first+(g.recs.length:Int)
  ·obtain⟨O,T,h1,h2⟩:=Zub w C g.recs D a9.o (a-g.first).toNat (by omega)
   exact⟨O,T,fun _ _=>h1,fun _ _=>h2 _ (by omega)⟩
  ·exact⟨none,0,fun h1 h2=>absurd ⟨h1,h2⟩ az,fun h1 h2=>absurd ⟨h1,h2⟩ az⟩
 have aN:=ZZ bm;have aH:=ZZ bg;clear bm bg;have ag:Hid (¬ ((g.pcs.length≠0∧g.first<=a∧a<=g.first+(g.recs.length:Int))∧c.2=0)->∀ W W',Below w.heap.size w W->Qj (Znz w 0) W W'->Zcp I w (.slice C g.recs.length D) (.slice X g.pcs.length U) R (.returned (.tuple #[.agg #[.int .i64 a,.slice none 0 0,.slice none 0 0],.agg #[.int .i64 a,.int .i64 kd,.slice G E lc,.bool F,.int .i64 M,.slice H J N]])) W'):=ZZ (fun hn=>aT.o (fun h=>hn (aO.o.1 h)))
 have aP:Hid (∀ W,Below K.heap.size K W->Calls prog 38 #[.pointer (some ⟨w.heap.size,0,none⟩)] W fun e w'=>e=.returned (.int .i64 (g.first+(g.recs.length:Int)))∧Below K.heap.size K w'):=ZZ (fun W hW=>by
  obtain⟨l0,l1,l2⟩:=(ad.o.below hW).lc;refine(ZkY w.heap.size 0 g.first C g.recs.length D W l0 l1 bi (by omega)).mono ?_
  rintro e w' ⟨rfl,Z⟩
  exact⟨rfl,hW.trans (Z.mono hW.size)⟩)
 obtain⟨n1,bd⟩:∃ n1,n1=(g.recs.drop (a-g.first).toNat).length:=⟨_,rfl⟩;rw[<-bd] at aN aH;obtain⟨t,am⟩:∃ t,t=g.recs.length:=⟨_,rfl⟩;obtain⟨A,ao⟩:∃ A,A=g.pcs.length:=⟨_,rfl⟩;obtain⟨d,aj⟩:∃ d,d=g.first:=⟨_,rfl⟩
 replace aE:=ZZ (fun O T W hW aV=>aE.o n1 O T W hW aV)
 have aY:Hid (d<=a->a<=d+(t:Int)->∀ W,Below K.heap.size K W->Calls prog 15 #[.agg #[.int .i64 a,.int .i64 kd,.slice G E lc,.bool F,.int .i64 M,.slice H J N],.slice O n1 T] W fun e w'=>∃ p z n q y j,e=.returned (.tuple #[.agg #[.int .i64 c.1.idx,.int .i64 c.1.st.kind,.slice p z n,.bool c.1.st.shut,.int .i64 c.1.st.eng,.slice q y j],.int .i64 c.2])∧Hid (Below W.heap.size W w')∧Hid (c.2=0->∀ W',(∃ Y,Below w'.heap.size w' Y∧Qj (Znz w W.heap.size) Y W')->(A≠0∧d<=a∧a<=d+(t:Int))->Zcp I w (.slice C t D) (.slice X A U) R (.returned (.tuple #[.agg #[.int .i64 d,.slice C t D,.slice X A U],.agg #[.int .i64 c.1.idx,.int .i64 c.1.st.kind,.slice p z n,.bool c.1.st.shut,.int .i64 c.1.st.eng,.slice q y j]])) W')):=ZZ (by
  rw[am,ao,aj]
  exact fun h1 h2 W hW=>aE.o O T W hW (aN.o h1 h2))
 rw[<-am,<-ao,<-aj] at ag;rw[<-am,<-aj] at aP aH bG;rw[<-am,<-ao,<-aj] at ad ay;rw[<-am] at bF;rw[<-ao] at bu;rw[<-aj] at bi;rw[<-am,<-ao,<-aj];clear aE aN aT aK aO aR aI hR bq bt aG hs a6 a9 ap a8 aZ hr hp hx hi bf bd am ao aj;obtain⟨Bc,bo⟩:∃ Bc:Bool,Bc=decide (A≠0∧d<=a∧a<=d+(t:Int)):=⟨_,rfl⟩;have ab:=ZZ bo;clear bo
 go_enter func36,ntmps36
 go_upto_region 1 with fail
 rw[<-ay];clear ay
 go_cut[24] (fun v wc=>v=.bool Bc∧Hid (Below K.heap.size K wc))
 case first=>
  obtain⟨ι,bL,V,hV,aS⟩:=Zna K.heap.size K;have HV:=ZZ hV;obtain⟨i0,aD⟩:=aS K.drew (Below.refl _ _).drew;have d0:∀ i,(V i).cell? ⟨w.heap.size,0,none⟩=some (.int .i64 d):=fun i=>(ad.o.below (HV.o i)).lc.1
  have d2:∀ i,(V i).cell? ⟨w.heap.size,2,none⟩=some (.slice X A U):=fun i=>(ad.o.below (HV.o i)).lc.2.2
  have e0:∀ i,(V i).cell? ⟨w.heap.size+1,0,none⟩=some (.int .i64 a):=fun i=>(ad.o.below (HV.o i)).sc.1
  have be:Hid (∀ i,Calls prog 38 #[.pointer (some ⟨w.heap.size,0,none⟩)] (V i) fun e w'=>e=.returned (.int .i64 (d+(t:Int)))∧∃ m,w'=V m):=ZZ (fun i=>(aP.o (V i) (HV.o i)).mono fun e w' h=>⟨h.1,aS w' h.2⟩)
  clear hV aS;by_cases q1:A=0
  ·have bE:decide ((A:Int)>0)=false:=decide_eq_false (by omega)
   have bw:decide (0<A)=false:=decide_eq_false (by omega)
   have al:Bc=false:=by rw[ab.o];exact decide_eq_false (fun h=>h.1 q1)
   clear q1;refine Zv V i0 (by kernel_rfl) (by kernel_rfl) aD.symm ?_
   repeat (go_big_quiet_step (fail))
   refine wpQuiet_nil ?_;intro _ ae;obtain⟨nq,ai⟩:=ae;subst ai
   go_wp2_with fail
   go_meet
   exact⟨by rw[al],ZZ (HV.o _)⟩
  have bE:(A:Int)>0:=by omega
  have bw:0<A:=by omega
  by_cases q2:d<=a
  case neg=>
   have aM:decide (d<=a)=false:=decide_eq_false q2;have al:Bc=false:=by rw[ab.o];exact decide_eq_false (fun h=>q2 h.2.1)
   clear q1 q2;refine Zv V i0 (by kernel_rfl) (by kernel_rfl) aD.symm ?_
   repeat (go_big_quiet_step (fail))
   refine wpQuiet_nil ?_;intro _ ae;obtain⟨nq,ai⟩:=ae;subst ai
   go_wp2_with fail
   go_meet
   exact⟨by rw[al],ZZ (HV.o _)⟩
  by_cases q3:a<=d+(t:Int)
  ·have al:Bc=true:=by rw[ab.o];exact decide_eq_true ⟨q1,q2,q3⟩
   clear q1 ab;generalize d+(t:Int)=NX at *;refine Zv V i0 (by kernel_rfl) (by kernel_rfl) aD.symm ?_
   repeat (go_big_quiet_step ((go_at_call 38;exact be.o _)))
   refine wpQuiet_nil ?_;intro _ ae;obtain⟨nq,ai⟩:=ae;subst ai
   go_wp2_with fail
   go_meet
   exact⟨by rw[al],ZZ (HV.o _)⟩
  ·have aF:decide (a<=d+(t:Int))=false:=decide_eq_false q3
   have al:Bc=false:=by rw[ab.o];exact decide_eq_false (fun h=>q3 h.2.2)
   clear q1 q3 ab;generalize d+(t:Int)=NX at *;refine Zv V i0 (by kernel_rfl) (by kernel_rfl) aD.symm ?_
   repeat (go_big_quiet_step ((go_at_call 38;exact be.o _)))
   refine wpQuiet_nil ?_;intro _ ae;obtain⟨nq,ai⟩:=ae;subst ai
   go_wp2_with fail
   go_meet
   exact⟨by rw[al],ZZ (HV.o _)⟩
 case rest=>
 obtain⟨f,rfl⟩:∃ W,W=wc:=⟨_,rfl⟩;obtain⟨rfl,aC⟩:=hcut;clear aP;have B:=ZZ (ad.o.below aC.o)
 cases Bc with
 | false=>
  have a3:Hid (¬ ((A≠0∧d<=a∧a<=d+(t:Int))∧c.2=0)):=ZZ (fun h=>of_decide_eq_false ab.o.symm h.1)
  have aw:=ZZ (ag.o a3.o);clear ag a3 aY;obtain⟨l0,l1,l2⟩:=B.o.lc;obtain⟨s0,s1,s2,s3,s4,s5⟩:=B.o.sc;obtain⟨o0,p0⟩:=B.o.ol.cell 0 rfl;obtain⟨o1,p1⟩:=B.o.ol.cell 1 rfl;obtain⟨o2,p2⟩:=B.o.ol.cell 2 rfl;obtain⟨u0,v0⟩:=B.o.os.cell 0 rfl;obtain⟨u1,v1⟩:=B.o.os.cell 1 rfl;obtain⟨u2,v2⟩:=B.o.os.cell 2 rfl;obtain⟨u3,v3⟩:=B.o.os.cell 3 rfl;obtain⟨u4,v4⟩:=B.o.os.cell 4 rfl;obtain⟨u5,v5⟩:=B.o.os.cell 5 rfl
  go_upto_region 5 with fail
  go_region
  obtain⟨XX,ac,av,⟨k0,k1,k2⟩,k3,k4,k5,k6,k7,k8⟩:=Zly w f (w.heap.size+1+1) (w.heap.size+1+1+1) rfl rfl B.o.ol B.o.os (.int .i64 a) (.slice none 0 0) (.slice none 0 0) (.int .i64 a) (.int .i64 kd) (.slice G E lc) (.bool F) (.int .i64 M) (.slice H J N);have au:=ZZ ac;clear ac;go_wp2;rw[<-au.o];refine bodyPost_ret (v:=.tuple #[.agg #[.int .i64 a,.slice none 0 0,.slice none 0 0],.agg #[.int .i64 a,.int .i64 kd,.slice G E lc,.bool F,.int .i64 M,.slice H J N]]) (by simp[results,Tryz.results36,go_sem,k0,k1,k2,k3,k4,k5,k6,k7,k8]) rfl ?_
  exact aw.o f _ B.o.old av
 | true=>
  have hc:=of_decide_eq_true ab.o.symm;have bx:=ZZ hc;obtain⟨bM,bl,bn⟩:=hc;have hcut:=aH.o bl bn;have a2:=ZZ (aY.o bl bn);have hw:IntKind.i64.wrap (a-d)=a-d:=by rw[IntKind.wrap_i64];omega
  have bW:-9223372036854775808<=a-d:=by omega
  have bV:a-d<=9223372036854775807:=by omega
  obtain⟨l0,l1,l2⟩:=B.o.lc;obtain⟨s0,s1,s2,s3,s4,s5⟩:=B.o.sc;clear aY aH ab;have HE:Hid (∀ args w,(callFunc 15 args).run prog w=.ok (.enter 15 args) w):=ZZ (enters_of func15 (by kernel_rfl) rfl)
  have aJ:Hid (∀ W,Below f.heap.size f W->Calls prog 15 #[.agg #[.int .i64 a,.int .i64 kd,.slice G E lc,.bool F,.int .i64 M,.slice H J N],.slice O n1 T] W fun e w'=>∃ v',e=.returned v'∧∃ p z n q y j,v'=.tuple #[.agg #[.int .i64 c.1.idx,.int .i64 c.1.st.kind,.slice p z n,.bool c.1.st.shut,.int .i64 c.1.st.eng,.slice q y j],.int .i64 c.2]∧Hid (Below W.heap.size W w')∧Hid (c.2=0->∀ W',(∃ Y,Below w'.heap.size w' Y∧Qj (Znz w W.heap.size) Y W')->Zcp I w (.slice C t D) (.slice X A U) R (.returned (.tuple #[.agg #[.int .i64 d,.slice C t D,.slice X A U],.agg #[.int .i64 c.1.idx,.int .i64 c.1.st.kind,.slice p z n,.bool c.1.st.shut,.int .i64 c.1.st.eng,.slice q y j]])) W')):=ZZ (fun W hW=>by
   refine(a2.o W (aC.o.trans (hW.mono aC.o.size))).mono ?_;rintro e w' ⟨p,z,n,q,y,j,rfl,Z,hf⟩
   exact⟨_,rfl,p,z,n,q,y,j,rfl,Z,ZZ (fun h0 W' a0=>hf.out h0 W' a0 bx.o)⟩)
  clear a2
  have aq:Hid (∀ W,Below f.heap.size f W->(W.cell? ⟨w.heap.size+1,0,none⟩=some (.int .i64 a)∧W.cell? ⟨w.heap.size+1,1,none⟩=some (.int .i64 kd)∧W.cell? ⟨w.heap.size+1,2,none⟩=some (.slice G E lc)∧W.cell? ⟨w.heap.size+1,3,none⟩=some (.bool F)∧W.cell? ⟨w.heap.size+1,4,none⟩=some (.int .i64 M)∧W.cell? ⟨w.heap.size+1,5,none⟩=some (.slice H J N)∧W.cell? ⟨w.heap.size,0,none⟩=some (.int .i64 d)∧W.cell? ⟨w.heap.size,1,none⟩=some (.slice C t D))):=ZZ (fun W h=>by
   obtain⟨g0,g1,g2⟩:=(B.o.below h).lc;obtain⟨e0,e1,e2,e3,e4,e5⟩:=(B.o.below h).sc
   exact⟨e0,e1,e2,e3,e4,e5,g0,g1⟩)
  obtain⟨T1,a7⟩:∃ T1,T1=c.1.idx:=⟨_,rfl⟩;obtain⟨T2,bp⟩:∃ T2,T2=c.1.st.kind:=⟨_,rfl⟩;obtain⟨T3,bj⟩:∃ T3,T3=c.1.st.shut:=⟨_,rfl⟩;obtain⟨T4,ba⟩:∃ T4,T4=c.1.st.eng:=⟨_,rfl⟩;obtain⟨T5,aQ⟩:∃ T5,T5=c.2:=⟨_,rfl⟩;rw[<-a7,<-bp,<-bj,<-ba,<-aQ] at aJ;rw[<-aQ] at ag;clear a7 bp bj ba aQ;have aL:Hid (Below f.heap.size f f.drew):=ZZ (Below.refl _ _).drew;have ax:Hid (Below f.heap.size f (f.alloc (.cells #[.int .i64 0,.int .i64 0,.slice none 0 0,.bool false,.int .i64 0,.slice none 0 0] 41)).drew):=ZZ ((Below.refl _ _).alloc zL _).drew;have aX:Hid (w.heap.size+4<=f.heap.size):=ZZ (by have:=aC.o.size;omega)
  clear l0 l1 l2 s0 s1 s2 s3 s4 s5
  go_upto_region 2 with fail
  go_cut[6,7] (fun v6 v7 wc=>∃ (b:Nat) (p:Option Addr) (z n:Nat) (q:Option Addr) (y j:Nat),v6=.pointer (some ⟨b,0,none⟩)∧v7=.int .i64 T5∧Hid (w.heap.size+4<=b)∧Hid (Bk 41 wc b #[.int .i64 T1,.int .i64 T2,.slice p z n,.bool T3,.int .i64 T4,.slice q y j])∧Hid (Below f.heap.size f wc)∧
   Hid (T5=0->∀ W',Qj (Znz w 0) wc W'->Zcp I w (.slice C t D) (.slice X A U) R (.returned (.tuple #[.agg #[.int .i64 d,.slice C t D,.slice X A U],.agg #[.int .i64 T1,.int .i64 T2,.slice p z n,.bool T3,.int .i64 T4,.slice q y j]])) W'))
  case first=>
   go_region_held2(fun W=>W.cell? ⟨w.heap.size+1,0,none⟩=some (.int .i64 a)∧W.cell? ⟨w.heap.size+1,1,none⟩=some (.int .i64 kd)∧W.cell? ⟨w.heap.size+1,2,none⟩=some (.slice G E lc)∧W.cell? ⟨w.heap.size+1,3,none⟩=some (.bool F)∧W.cell? ⟨w.heap.size+1,4,none⟩=some (.int .i64 M)∧W.cell? ⟨w.heap.size+1,5,none⟩=some (.slice H J N)∧W.cell? ⟨w.heap.size,0,none⟩=some (.int .i64 d)∧W.cell? ⟨w.heap.size,1,none⟩=some (.slice C t D))
    (first | (with_reducible exact aq.o _ aL.o) | (with_reducible exact aq.o _ ax.o) | (with_reducible exact aq.o _ aa.o) | (with_reducible exact aq.o _ (ZnA aa.o _ zL _ _ _ _ _ _)) | (with_reducible exact aq.o _ (aa.o.alloc aa.o.size _)))
    (first
     | ((with_reducible refine Yj 15 _ _ rfl rfl #[.agg #[.int .i64 a,.int .i64 kd,.slice G E lc,.bool F,.int .i64 M,.slice H J N],.slice O n1 T] (by simp[Act.eval]) HE.o (aJ.o f.drew aL.o) ?_);rintro v' u ⟨p,z,n,q,y,j,rfl,aB,af⟩;have aa:Hid (Below f.heap.size f u):=ZZ (aL.o.trans aB.o))
     | ((with_reducible refine Yj 15 _ _ rfl rfl #[.agg #[.int .i64 a,.int .i64 kd,.slice G E lc,.bool F,.int .i64 M,.slice H J N],.slice O n1 T] (by simp[Act.eval]) HE.o (aJ.o (f.alloc (.cells #[.int .i64 0,.int .i64 0,.slice none 0 0,.bool false,.int .i64 0,.slice none 0 0] 41)).drew ax.o) ?_);rintro v' u ⟨p,z,n,q,y,j,rfl,aB,af⟩;have aa:Hid (Below f.heap.size f u):=ZZ (ax.o.trans (aB.o.mono ax.o.size));have an:Hid (Bk 41 u f.heap.size #[.int .i64 0,.int .i64 0,.slice none 0 0,.bool false,.int .i64 0,.slice none 0 0]):=ZZ (ZxW f _ u aB.o);obtain⟨z0,y0⟩:=an.o.cell 0 rfl;obtain⟨z1,y1⟩:=an.o.cell 1 rfl;obtain⟨z2,y2⟩:=an.o.cell 2 rfl;obtain⟨z3,y3⟩:=an.o.cell 3 rfl;obtain⟨z4,y4⟩:=an.o.cell 4 rfl;obtain⟨z5,y5⟩:=an.o.cell 5 rfl))
   all_goals
    go_wp2_with fail
    go_meet
    first
     | exact⟨_,p,z,n,q,y,j,rfl,rfl,aX,ZZ ((((((an.o.set 0 _).set 1 _).set 2 _).set 3 _).set 4 _).set 5 _),ZZ (ZnA aa.o _ zL _ _ _ _ _ _),ZZ (fun h0 W' ho=>af.o h0 W' ⟨_,Below.refl _ _,(ZxV u f.heap.size _ _ _ _ _ _ (fun k=>Znz w (f.alloc (.cells #[.int .i64 0,.int .i64 0,.slice none 0 0,.bool false,.int .i64 0,.slice none 0 0] 41)).drew.heap.size k) (.inr ⟨aX.o,Zzi f _⟩)).trans (ho.mono (fun k hk=>hk.more)) (fun _ _ h=>h)⟩)⟩
     | exact⟨_,p,z,n,q,y,j,rfl,rfl,ZZ (Nat.le_trans aX.o aa.o.size),ZZ (heap_alloc_new u _),ZZ (aa.o.alloc aa.o.size _),ZZ (fun h0 W' ho=>af.o h0 W' ⟨_,Jc u _,ho.mono (fun k hk=>hk.more)⟩)⟩
  case rest=>
  obtain⟨b,p,z,n,q,y,j,rfl,rfl,aA,ak,bz,af⟩:=hcut;obtain⟨WC,rfl⟩:∃ W,W=wc:=⟨_,rfl⟩;have Q:=ZZ (B.o.below bz.o);clear aJ aq aL ax HE hcut;obtain⟨l0,l1,l2⟩:=Q.o.lc;obtain⟨s0,s1,s2,s3,s4,s5⟩:=Q.o.sc;obtain⟨o0,p0⟩:=Q.o.ol.cell 0 rfl;obtain⟨o1,p1⟩:=Q.o.ol.cell 1 rfl;obtain⟨o2,p2⟩:=Q.o.ol.cell 2 rfl;obtain⟨u0,v0⟩:=Q.o.os.cell 0 rfl;obtain⟨u1,v1⟩:=Q.o.os.cell 1 rfl;obtain⟨u2,v2⟩:=Q.o.os.cell 2 rfl;obtain⟨u3,v3⟩:=Q.o.os.cell 3 rfl;obtain⟨u4,v4⟩:=Q.o.os.cell 4 rfl;obtain⟨u5,v5⟩:=Q.o.os.cell 5 rfl;by_cases hT:T5=0
  case neg=>
   have br:(T5 == 0)=false:=beq_eq_false_iff_ne.2 hT;have aw:=ZZ (ag.o (fun h=>hT h.2))
   clear ag af ak hT
   go_upto_region 5 with fail
   go_region
   obtain⟨XX,ac,av,⟨k0,k1,k2⟩,k3,k4,k5,k6,k7,k8⟩:=Zly w WC (w.heap.size+1+1) (w.heap.size+1+1+1) rfl rfl Q.o.ol Q.o.os (.int .i64 a) (.slice none 0 0) (.slice none 0 0) (.int .i64 a) (.int .i64 kd) (.slice G E lc) (.bool F) (.int .i64 M) (.slice H J N);have au:=ZZ ac;clear ac;go_wp2;rw[<-au.o];refine bodyPost_ret (v:=.tuple #[.agg #[.int .i64 a,.slice none 0 0,.slice none 0 0],.agg #[.int .i64 a,.int .i64 kd,.slice G E lc,.bool F,.int .i64 M,.slice H J N]]) (by simp[results,Tryz.results36,go_sem,k0,k1,k2,k3,k4,k5,k6,k7,k8]) rfl ?_
   exact aw.o WC _ Q.o.old av
  have br:(T5 == 0)=true:=by rw[beq_iff_eq];exact hT
  have aw:=ZZ (af.o hT);obtain⟨x0,-⟩:=ak.o.cell 0 rfl;obtain⟨x1,-⟩:=ak.o.cell 1 rfl;obtain⟨x2,-⟩:=ak.o.cell 2 rfl;obtain⟨x3,-⟩:=ak.o.cell 3 rfl;obtain⟨x4,-⟩:=ak.o.cell 4 rfl;obtain⟨x5,-⟩:=ak.o.cell 5 rfl;have bU:¬ (b=w.heap.size+1+1):=by have:=aA.o;omega
  have bP:¬ (b=w.heap.size+1+1+1):=by have:=aA.o;omega
  have bQ:¬ (w.heap.size+1+1=b):=by have:=aA.o;omega
  have bO:¬ (w.heap.size+1+1+1=b):=by have:=aA.o;omega
  clear ag af hT s0 s1 s2 s3 s4 s5
  go_upto_region 4 with fail
  go_region
  obtain⟨XX,ac,av,⟨k0,k1,k2⟩,k3,k4,k5,k6,k7,k8⟩:=Zly w WC (w.heap.size+1+1) (w.heap.size+1+1+1) rfl rfl Q.o.ol Q.o.os (.int .i64 d) (.slice C t D) (.slice X A U) (.int .i64 T1) (.int .i64 T2) (.slice p z n) (.bool T3) (.int .i64 T4) (.slice q y j);have au:=ZZ ac;clear ac;go_wp2;rw[<-au.o];refine bodyPost_ret (v:=.tuple #[.agg #[.int .i64 d,.slice C t D,.slice X A U],.agg #[.int .i64 T1,.int .i64 T2,.slice p z n,.bool T3,.int .i64 T4,.slice q y j]]) (by simp[results,Tryz.results36,go_sem,k0,k1,k2,k3,k4,k5,k6,k7,k8]) rfl ?_
  exact aw.o _ av
end Go.Proofs.YtnahjngbneicaaaGreatDoor
