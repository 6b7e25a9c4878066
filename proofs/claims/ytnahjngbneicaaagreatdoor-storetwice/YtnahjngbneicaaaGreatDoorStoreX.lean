import Derived.Test.YtnahjngbneicaaaGreatDoorStoreOpenM
namespace Go.Proofs.YtnahjngbneicaaaGreatDoor
open _root_.Go.Proofs.Tryz
set_option maxRecDepth 100000
open Go.RowKit
variable {W W' w:World} {a b c d e g pv rv:Value} {f:Int} {C:Nat}
theorem ZhJ.inside {w':World} {x:Qv × Value × Value} {I:Nat->Prop} {l:List Rec} {r:Qv × Int} (t:SnR w x) (hi:ZlB I x) (j:RdI w' c r.1.st.L) (g1:c=x.2.1∨∀ b,c.ownBlock=some b->w.heap.size<=b)
 (g2:(l=[]∧e=x.2.2)∨Xc w' w.heap.size e r.1.tab) (p:l=[]->r.1=x.1):ZlB (fun k=>I k∨(w.heap.size<=k∧k<w'.heap.size)) (r.1,c,e):=by
 refine⟨?_,?_⟩
 ·rcases j.block with u | ⟨v,k,f,m⟩
  ·exact .inl u
  ·rcases g1 with g1 | g1
   ·rcases hi.1 with hi | hi
    ·obtain⟨z,A,i,-⟩:=t.l
     obtain⟨y,B,d,-⟩:=j;rw[hi] at i;rw[g1,i] at d
     injection d with _ d _
     exact .inl (List.eq_nil_of_length_eq_zero (by rw[<-d];rfl))
    ·exact .inr fun g a=>.inl (hi g (by rw[<-g1];exact a))
   ·refine .inr fun g a=>.inr ⟨g1 g a,?_⟩
    have q:c.ownBlock=some g:=a;rw[q] at f;obtain rfl:=Option.some.inj f;exact m
 ·rcases g2 with ⟨n,g2⟩ | g2
  ·rcases hi.2 with hi | hi
   ·exact .inl (by show r.1.tab=[];rw[p n];exact hi)
   ·exact .inr fun g a=>.inl (hi g (by rw[<-g2];exact a))
  ·exact .inr fun g a=>.inr (World.ownsRow.lt g2 g a)
theorem ZyK (w:World) (X Y Z:Obj):(((w.alloc X).alloc Y).alloc Z).heap[w.heap.size+2]?=some Z:=by
 have h:=heap_alloc_new ((w.alloc X).alloc Y) Z;have e:((w.alloc X).alloc Y).heap.size=w.heap.size+2:=by simp
 rw[e] at h;exact h
theorem ZyL (w:World) (X Y Z U:Obj):((((w.alloc X).alloc Y).alloc Z).alloc U).heap[w.heap.size+3]?=some U:=by
 have h:=heap_alloc_new (((w.alloc X).alloc Y).alloc Z) U;have e:(((w.alloc X).alloc Y).alloc Z).heap.size=w.heap.size+3:=by simp
 rw[e] at h;exact h
def Zcp (I:Nat->Prop) (w:World) (rv pv:Value) (r:Lgb × Qv) (e:Ending) (w':World):Prop:=
 ∃ rv' pv' vl vt,e=.returned (.tuple #[.agg #[.int .i64 r.1.first,rv',pv'],snV (r.2,vl,vt)])∧Q9 w' 0 rv' r.1.recs∧w'.ownsRow 0 108 3 pv' r.1.pcs.length (Qx r.1.pcs)∧(rv'=rv∨rv'=.slice none 0 0)∧(pv'=pv∨pv'=.slice none 0 0)∧
  SnR w' (r.2,vl,vt)∧ZlB (fun k=>I k∨(w.heap.size<=k∧k<w'.heap.size)) (r.2,vl,vt)∧Below w.heap.size w w'
structure Zxb (w:World) (f:Int) (rv pv:Value) (x0 x1 x2 x3 x4 x5:Value) (W:World):Prop where
 lg:Bk 73 W w.heap.size #[.int .i64 f,rv,pv]
 sn:Bk 41 W (w.heap.size+1) #[x0,x1,x2,x3,x4,x5]
 ol:Bk 73 W (w.heap.size+2) #[.int .i64 0,.slice none 0 0,.slice none 0 0]
 os:Bk 41 W (w.heap.size+3) #[.int .i64 0,.int .i64 0,.slice none 0 0,.bool false,.int .i64 0,.slice none 0 0]
 old:Below w.heap.size w W
theorem Zxb.below {i:Value} (h:Zxb w f rv pv d e c i g b W) (a:Below W.heap.size W W'):Zxb w f rv pv d e c i g b W':=
 ⟨h.lg.keep (a.block _ h.lg.lt),h.sn.keep (a.block _ h.sn.lt),h.ol.keep (a.block _ h.ol.lt),h.os.keep (a.block _ h.os.lt),h.old.trans (a.mono h.old.size)⟩
theorem Zxb.lc (h:Zxb w f rv pv c d b g e a W):W.cell? ⟨w.heap.size,0,none⟩=some (.int .i64 f)∧W.cell? ⟨w.heap.size,1,none⟩=some rv∧W.cell? ⟨w.heap.size,2,none⟩=some pv:=
 ⟨(h.lg.cell 0 rfl).1,(h.lg.cell 1 rfl).1,(h.lg.cell 2 rfl).1⟩
theorem Zxb.sc (h:Zxb w f rv pv c d b g e a W):
 W.cell? ⟨w.heap.size+1,0,none⟩=some c∧W.cell? ⟨w.heap.size+1,1,none⟩=some d∧W.cell? ⟨w.heap.size+1,2,none⟩=some b∧W.cell? ⟨w.heap.size+1,3,none⟩=some g∧W.cell? ⟨w.heap.size+1,4,none⟩=some e∧W.cell? ⟨w.heap.size+1,5,none⟩=some a:=
 ⟨(h.sn.cell 0 rfl).1,(h.sn.cell 1 rfl).1,(h.sn.cell 2 rfl).1,(h.sn.cell 3 rfl).1,(h.sn.cell 4 rfl).1,(h.sn.cell 5 rfl).1⟩
def Znz (w:World) (C:Nat) (k:Nat):Prop:=(k=w.heap.size+2∨k=w.heap.size+3)∨(w.heap.size+4<=k∧k<C)
theorem Znz.more {k:Nat} (h:Znz w 0 k):Znz w C k:=by
 rcases h with h | h
 ·exact .inl h
 ·omega
theorem ZwJ (w W:World) (c a:Nat) (e:c=w.heap.size+2) (j:a=w.heap.size+3) (n q i k m f g l p:Value):Qj (Znz w 0) W (((((((((W.setCell ⟨c,0,none⟩ n).setCell ⟨c,1,none⟩ q).setCell ⟨c,2,none⟩ i).setCell ⟨a,0,none⟩ k).setCell ⟨a,1,none⟩ m).setCell ⟨a,2,none⟩ f).setCell ⟨a,3,none⟩ g).setCell ⟨a,4,none⟩ l).setCell ⟨a,5,none⟩ p):=by
 have d:Znz w 0 c:=.inl (.inl e);have b:Znz w 0 a:=.inl (.inr j);exact(((((((((Qj.refl _ _).setCell _ (fun _=>d) _).setCell _ (fun _=>d) _).setCell _ (fun _=>d) _).setCell _ (fun _=>b) _).setCell _ (fun _=>b) _).setCell _ (fun _=>b) _).setCell _ (fun _=>b) _).setCell _ (fun _=>b) _).setCell _ (fun _=>b) _
theorem Zly (w W:World) (b a:Nat) (z:b=w.heap.size+2) (I:a=w.heap.size+3) {J F C H D y G A x:Value} (B:Bk 73 W b #[J,F,C]) (E:Bk 41 W a #[H,D,y,G,A,x]) (j f g m d k l i e:Value):
 ∃ c,c=(((((((((W.setCell ⟨b,0,none⟩ j).setCell ⟨b,1,none⟩ f).setCell ⟨b,2,none⟩ g).setCell ⟨a,0,none⟩ m).setCell ⟨a,1,none⟩ d).setCell ⟨a,2,none⟩ k).setCell ⟨a,3,none⟩ l).setCell ⟨a,4,none⟩ i).setCell ⟨a,5,none⟩ e).drew∧Qj (Znz w 0) W c∧(c.cell? ⟨b,0,none⟩=some j∧c.cell? ⟨b,1,none⟩=some f∧c.cell? ⟨b,2,none⟩=some g)∧(c.cell? ⟨a,0,none⟩=some m∧c.cell? ⟨a,1,none⟩=some d∧c.cell? ⟨a,2,none⟩=some k∧c.cell? ⟨a,3,none⟩=some l∧c.cell? ⟨a,4,none⟩=some i∧c.cell? ⟨a,5,none⟩=some e):=by
 have n:b≠a:=by omega
 have u:Bk 73 (((((((((W.setCell ⟨b,0,none⟩ j).setCell ⟨b,1,none⟩ f).setCell ⟨b,2,none⟩ g).setCell ⟨a,0,none⟩ m).setCell ⟨a,1,none⟩ d).setCell ⟨a,2,none⟩ k).setCell ⟨a,3,none⟩ l).setCell ⟨a,4,none⟩ i).setCell ⟨a,5,none⟩ e) b #[j,f,g]:=((((((((B.set 0 j).set 1 f).set 2 g).other a 0 m n).other a 1 d n).other a 2 k n).other a 3 l n).other a 4 i n).other a 5 e n;have t:Bk 41 (((((((((W.setCell ⟨b,0,none⟩ j).setCell ⟨b,1,none⟩ f).setCell ⟨b,2,none⟩ g).setCell ⟨a,0,none⟩ m).setCell ⟨a,1,none⟩ d).setCell ⟨a,2,none⟩ k).setCell ⟨a,3,none⟩ l).setCell ⟨a,4,none⟩ i).setCell ⟨a,5,none⟩ e) a #[m,d,k,l,i,e]:=(((((((((E.other b 0 j n.symm).other b 1 f n.symm).other b 2 g n.symm).set 0 m).set 1 d).set 2 k).set 3 l).set 4 i).set 5 e);have p:=ZwJ w W b a z I j f g m d k l i e
 revert u t p
 generalize (((((((((W.setCell ⟨b,0,none⟩ j).setCell ⟨b,1,none⟩ f).setCell ⟨b,2,none⟩ g).setCell ⟨a,0,none⟩ m).setCell ⟨a,1,none⟩ d).setCell ⟨a,2,none⟩ k).setCell ⟨a,3,none⟩ l).setCell ⟨a,4,none⟩ i).setCell ⟨a,5,none⟩ e)=Y;intro u t p;have v:Bk 73 Y.drew b #[j,f,g]:=u;have q:Bk 41 Y.drew a #[m,d,k,l,i,e]:=t;exact⟨Y.drew,rfl,⟨p.os,p.tape,p.output,p.size,p.block⟩,⟨(v.cell 0 rfl).1,(v.cell 1 rfl).1,(v.cell 2 rfl).1⟩,(q.cell 0 rfl).1,(q.cell 1 rfl).1,(q.cell 2 rfl).1,(q.cell 3 rfl).1,(q.cell 4 rfl).1,(q.cell 5 rfl).1⟩
theorem Zkn (a:Below w.heap.size w W) (c:w.heap.size<=W.heap.size) (b:Qj (Znz w C) W W'):Below w.heap.size w W':=
 a.trans (b.below c fun k hk=>by
  rcases hk with hk | hk
  ·omega
  ·omega)
theorem ZxV (W:World) (R:Nat) (d e c g f b:Value) (G:Nat->Prop) (a:G R):Qj G W ((((((W.setCell ⟨R,0,none⟩ d).setCell ⟨R,1,none⟩ e).setCell ⟨R,2,none⟩ c).setCell ⟨R,3,none⟩ g).setCell ⟨R,4,none⟩ f).setCell ⟨R,5,none⟩ b):=
 ((((((Qj.refl G W).setCell 0 (fun _=>a) d).setCell 1 (fun _=>a) e).setCell 2 (fun _=>a) c).setCell 3 (fun _=>a) g).setCell 4 (fun _=>a) f).setCell 5 (fun _=>a) b
theorem Zzi (a:World) (X:Obj):a.heap.size<(a.alloc X).drew.heap.size:=by
 have:(a.alloc X).drew.heap.size=a.heap.size+1:=by simp[World.drew]
 omega
theorem ZxW (a:World) (cs:Array Value) (b:World) (d:Below (a.alloc (.cells cs 41)).drew.heap.size (a.alloc (.cells cs 41)).drew b):Bk 41 b a.heap.size cs:=by
 have c:Bk 41 (a.alloc (.cells cs 41)).drew a.heap.size cs:=heap_alloc_new a _;exact c.keep (d.block _ c.lt)
theorem ZnA {B:Nat} {a:World} (h:Below B a W) (R:Nat) (b:B<=R) (e f d i g c:Value):Below B a ((((((W.setCell ⟨R,0,none⟩ e).setCell ⟨R,1,none⟩ f).setCell ⟨R,2,none⟩ d).setCell ⟨R,3,none⟩ i).setCell ⟨R,4,none⟩ g).setCell ⟨R,5,none⟩ c):=
 (((((h.setCell (p:=⟨R,0,none⟩) b e).setCell (p:=⟨R,1,none⟩) b f).setCell (p:=⟨R,2,none⟩) b d).setCell (p:=⟨R,3,none⟩) b i).setCell (p:=⟨R,4,none⟩) b g).setCell (p:=⟨R,5,none⟩) b c
set_option maxHeartbeats 4000000 in
theorem Zsz (I:Nat->Prop) (g:Lgb) (rv pv:Value) (x:Qv × Value × Value) (w:World) (hr:Q9 w 0 rv g.recs) (hp:w.ownsRow 0 108 3 pv g.pcs.length (Qx g.pcs)) (hx:SnR w x) (hi:ZlB I x) (a5:∀ k,I k->k<w.heap.size) (aA:OkG g) (hs:SnS x.1) (bj:g.recs.length<=9000000) (bt:g.pcs.length<=900000):
 Calls prog 36 #[.agg #[.int .i64 g.first,rv,pv],snV x] w fun e w'=>Zcp I w rv pv (g.behind x.1) e w':=by
 obtain⟨D,C,bC⟩:=hr.shape;obtain⟨U,X,bF⟩:=Zg hp;obtain⟨E,H,lc,K,G,M,a7,bm⟩:=hx.shape;have aY:Hid (snV x=.agg #[.int .i64 x.1.idx,.int .i64 x.1.st.kind,.slice E H lc,.bool x.1.st.shut,.int .i64 x.1.st.eng,.slice K G M]):=ZZ (by unfold snV snC;rw[a7,bm])
 have a4:=aA.f0;have a3:=aA.top;have ba:=ZZ (hr.rd aA.recOk)
 have aX:Hid (¬ g.leads x.1->∀ W W',Below w.heap.size w W->Qj (Znz w 0) W W'->Zcp I w rv pv (g.behind x.1) (.returned (.tuple #[.agg #[.int .i64 x.1.idx,.slice none 0 0,.slice none 0 0],.agg #[.int .i64 x.1.idx,.int .i64 x.1.st.kind,.slice E H lc,.bool x.1.st.shut,.int .i64 x.1.st.eng,.slice K G M]])) W'):=ZZ (fun hn W W' Y ho=>by
  have ar:=Zkn Y Y.size ho;unfold Lgb.behind;rw[if_neg hn]
  refine⟨_,_,x.2.1,x.2.2,by rw[<-aY.o],Q9.nil _ _,World.ownsRow_nil _ _ _ _,.inr rfl,.inr rfl,hx.below ar zL,hi.mono (fun k hk=>.inl hk),ar⟩)
 have aF:Hid (g.leads x.1->∀ (W t W':World) (vx vu:Value),Below w.heap.size w W->w.heap.size+4<=W.heap.size->RdI t vx (Xa x.1 (g.recs.drop (x.1.idx-g.first).toNat)).1.st.L->RdE t vu (Xa x.1 (g.recs.drop (x.1.idx-g.first).toNat)).1.tab->I64 (Xa x.1 (g.recs.drop (x.1.idx-g.first).toNat)).1.st.kind->I64 (Xa x.1 (g.recs.drop (x.1.idx-g.first).toNat)).1.st.eng->I64 (Xa x.1 (g.recs.drop (x.1.idx-g.first).toNat)).1.idx->
  ZlB (fun k=>I k∨(W.heap.size<=k∧k<t.heap.size)) ((Xa x.1 (g.recs.drop (x.1.idx-g.first).toNat)).1,vx,vu)->Below W.heap.size W t->(∃ Z,Below t.heap.size t Z∧Qj (Znz w W.heap.size) Z W')->
  Zcp I w rv pv (g.behind x.1) (.returned (.tuple #[.agg #[.int .i64 g.first,rv,pv],.agg #[.int .i64 (Xa x.1 (g.recs.drop (x.1.idx-g.first).toNat)).1.idx,.int .i64 (Xa x.1 (g.recs.drop (x.1.idx-g.first).toNat)).1.st.kind,vx,.bool (Xa x.1 (g.recs.drop (x.1.idx-g.first).toNat)).1.st.shut,.int .i64 (Xa x.1 (g.recs.drop (x.1.idx-g.first).toNat)).1.st.eng,vu]])) W'):=ZZ (fun hn W t W' vx vu Y bR k1 k2 k3 k4 k5 k6 aR ⟨Z,aC,ho⟩=>by
  have a0:Below w.heap.size w t:=Y.trans (aR.mono Y.size);have bi:Below w.heap.size w Z:=a0.trans (aC.mono a0.size);have ar:=Zkn bi bi.size ho;have bT:=aR.size;have bU:=aC.size;have bI:=ho.size
  have bE:∀ k,(I k∨(W.heap.size<=k∧k<t.heap.size))->W'.heap[k]?=t.heap[k]?:=fun k hk=>by
   have a2:k<t.heap.size∧¬ Znz w W.heap.size k:=by
    rcases hk with hk | hk
    ·have:=a5 k hk
     refine⟨by have:=a0.size;omega,fun h=>?_⟩
     rcases h with h | h <;> omega
    ·refine⟨hk.2,fun h=>?_⟩
     rcases h with h | h <;> omega
   rw[ho.block k (by omega) a2.2,aC.block k a2.1]
  have hS:SnR t ((Xa x.1 (g.recs.drop (x.1.idx-g.first).toNat)).1,vx,vu):=⟨k1,k2,k3,k4,k5⟩;unfold Lgb.behind;rw[if_pos hn]
  exact⟨rv,pv,vx,vu,rfl,hr.below ar zL,Qh hp (fun k hk=>ar.block k (World.ownsRow.lt hp k hk).2),.inl rfl,.inl rfl,hS.keep k6 bE,k6.mono (fun k hk=>hk.imp id (fun h=>⟨by have:=Y.size;omega,by omega⟩)),ar⟩)
 have ao:=ZZ (And.intro hx (And.intro hi hs));obtain⟨J,ax⟩:∃ J,J=(((w.alloc (.cells #[.int .i64 g.first,.slice D g.recs.length C,.slice U g.pcs.length X] 73)).alloc (.cells #[.int .i64 x.1.idx,.int .i64 x.1.st.kind,.slice E H lc,.bool x.1.st.shut,.int .i64 x.1.st.eng,.slice K G M] 41)).alloc (.cells #[.int .i64 0,.slice none 0 0,.slice none 0 0] 73)).alloc (.cells #[.int .i64 0,.int .i64 0,.slice none 0 0,.bool false,.int .i64 0,.slice none 0 0] 41):=⟨_,rfl⟩;have bW:J.heap.size=w.heap.size+4:=by rw[ax];simp
 have ac:Hid (Zxb w g.first (.slice D g.recs.length C) (.slice U g.pcs.length X) (.int .i64 x.1.idx) (.int .i64 x.1.st.kind) (.slice E H lc) (.bool x.1.st.shut) (.int .i64 x.1.st.eng) (.slice K G M) J):=ZZ (by
  rw[ax];refine⟨?_,?_,?_,?_,(((Below.refl _ _).alloc zL _).alloc (by simp) _).alloc (by simp;omega) _ |>.alloc (by simp;omega) _⟩
  ·exact(Below.heap_alloc _ _ _ (by simp;omega)).trans ((Below.heap_alloc _ _ _ (by simp;omega)).trans ((Below.heap_alloc _ _ _ (by simp)).trans (heap_alloc_new w _)))
  ·exact(Below.heap_alloc _ _ _ (by simp)).trans ((Below.heap_alloc _ _ _ (by simp)).trans (ZdM w _ _))
  ·exact(Below.heap_alloc _ _ _ (by simp)).trans (ZyK w _ _ _)
  ·exact ZyL w _ _ _ _)
 obtain⟨⟨a,⟨kd,LL,F,N⟩,tb⟩,bN,bV⟩:=x
 dsimp only at *
 subst a7 bm;obtain⟨c,aK⟩:∃ c,c=Xa ⟨a,⟨kd,LL,F,N⟩,tb⟩ (g.recs.drop (a-g.first).toNat):=⟨_,rfl⟩;rw[<-aK] at aF;have aU:=ZZ aK
 have aP:Hid (g.leads ⟨a,⟨kd,LL,F,N⟩,tb⟩↔(g.pcs.length≠0∧g.first<=a∧a<=g.first+(g.recs.length:Int))∧c.2=0):=ZZ (by
  unfold Lgb.leads;rw[aK,and_assoc,and_assoc]
  exact Iff.rfl)
 rw[aY.o];subst bC bF;obtain⟨R,hR⟩:∃ R,R=g.behind ⟨a,⟨kd,LL,F,N⟩,tb⟩:=⟨_,rfl⟩;rw[<-hR] at aX aF ⊢;have bf:=ZZ (And.intro bj hr);have br:(g.recs.length:Int)<=9000000:=by omega
 have bz:(g.pcs.length:Int)<=900000:=by omega
 have bG:g.first+(g.recs.length:Int)<=4611686018427387904:=a3
 have az:Hid (∀ (n1:Nat) (O:Option Addr) (Q:Nat) (W:World),Below J.heap.size J W->RdR w (.slice O n1 Q) (g.recs.drop (a-g.first).toNat)->Calls prog 15 #[.agg #[.int .i64 a,.int .i64 kd,.slice E H lc,.bool F,.int .i64 N,.slice K G M],.slice O n1 Q] W fun e w'=>∃ p y j q z n,e=.returned (.tuple #[.agg #[.int .i64 c.1.idx,.int .i64 c.1.st.kind,.slice p y j,.bool c.1.st.shut,.int .i64 c.1.st.eng,.slice q z n],.int .i64 c.2])∧Hid (Below W.heap.size W w')∧Hid (c.2=0->∀ W',(∃ Z,Below w'.heap.size w' Z∧Qj (Znz w W.heap.size) Z W')->(g.pcs.length≠0∧g.first<=a∧a<=g.first+(g.recs.length:Int))->Zcp I w (.slice D g.recs.length C) (.slice U g.pcs.length X) R (.returned (.tuple #[.agg #[.int .i64 g.first,.slice D g.recs.length C,.slice U g.pcs.length X],.agg #[.int .i64 c.1.idx,.int .i64 c.1.st.kind,.slice p y j,.bool c.1.st.shut,.int .i64 c.1.st.eng,.slice q z n]])) W')):=ZZ (fun n1 O Q W hW aO=>by
  have aT:Below w.heap.size w W:=ac.o.old.trans (hW.mono ac.o.old.size);have bH:=hW.size;have be:=ao.o.1.below aT zL;have bv:=be.snV;have hL:LL.length<=1000:=by have:=Zoz ao.o.2.2.1;exact Nat.le_trans this (by decide)
  have hT:tb.length<=1000:=by have:=ao.o.2.2.2.few;exact Nat.le_trans this (by decide)
  refine(ZmE (P:=SnS) (fun S r hS hf=>hS.next hf) (fun S hS=>by have:=hS.2.few;omega) _ _ _ _ _ _ ⟨a,⟨kd,LL,F,N⟩,tb⟩ _ _ W bv (aO.below aT zL) hL hT (by rw[List.length_drop];have:=bf.o.1;omega) ao.o.2.2).mono ?_
  rw[<-aU.o];rintro e w' ⟨vx,vu,rfl,r1,r2,r3,r4,r5,g1,g2,Y⟩;have aD:=ZhJ.inside (x:=(⟨a,⟨kd,LL,F,N⟩,tb⟩,.slice E H lc,.slice K G M)) (l:=g.recs.drop (a-g.first).toNat) be ao.o.2.1 r1 g1 g2 (fun hl=>by rw[aU.o,hl];rfl)
  obtain⟨p,j,bA,-⟩:=id r1;obtain⟨q,n,hu⟩:=r4.shape;have HP:=fun h0 hc=>aF.o (aP.o.2 ⟨hc,h0⟩) W w'
  subst bA hu
  exact⟨p,_,j,q,_,n,rfl,ZZ Y,ZZ (fun h0 W' aV hc=>HP h0 hc W' _ _ aT (by omega) r1 r4 r2 r3 r5 aD Y aV)⟩)
 obtain⟨O,Q,a9,bk⟩:∃ O Q,(g.first<=a->a<=g.first+(g.recs.length:Int)->RdR w (.slice O (g.recs.drop (a-g.first).toNat).length Q) (g.recs.drop (a-g.first).toNat))∧(g.first<=a->a<=g.first+(g.recs.length:Int)->∀ W,(Instr.sliceAt 29 (.slice D g.recs.length C) (some (.int .i64 (a-g.first))) none none).run prog W=.ok (.slice O (g.recs.drop (a-g.first).toNat).length Q) W):=by
  by_cases aD:g.first<=a∧a<=g.first+(g.recs.length:Int)
  ·obtain⟨O,Q,h1,h2⟩:=Zub w D g.recs C ba.o (a-g.first).toNat (by omega)
   exact⟨O,Q,fun _ _=>h1,fun _ _=>h2 _ (by omega)⟩
  ·exact⟨none,0,fun h1 h2=>absurd ⟨h1,h2⟩ aD,fun h1 h2=>absurd ⟨h1,h2⟩ aD⟩
 have aW:=ZZ a9;have aE:=ZZ bk;clear a9 bk;have am:Hid (¬ ((g.pcs.length≠0∧g.first<=a∧a<=g.first+(g.recs.length:Int))∧c.2=0)->∀ W W',Below w.heap.size w W->Qj (Znz w 0) W W'->Zcp I w (.slice D g.recs.length C) (.slice U g.pcs.length X) R (.returned (.tuple #[.agg #[.int .i64 a,.slice none 0 0,.slice none 0 0],.agg #[.int .i64 a,.int .i64 kd,.slice E H lc,.bool F,.int .i64 N,.slice K G M]])) W'):=ZZ (fun hn=>aX.o (fun h=>hn (aP.o.1 h)))
 have aQ:Hid (∀ W,Below J.heap.size J W->Calls prog 38 #[.pointer (some ⟨w.heap.size,0,none⟩)] W fun e w'=>e=.returned (.int .i64 (g.first+(g.recs.length:Int)))∧Below J.heap.size J w'):=ZZ (fun W hW=>by
  obtain⟨l0,l1,l2⟩:=(ac.o.below hW).lc;refine(ZkY w.heap.size 0 g.first D g.recs.length C W l0 l1 a4 (by omega)).mono ?_
  rintro e w' ⟨rfl,Y⟩
  exact⟨rfl,hW.trans (Y.mono hW.size)⟩)
 obtain⟨n1,bc⟩:∃ n1,n1=(g.recs.drop (a-g.first).toNat).length:=⟨_,rfl⟩;rw[<-bc] at aW aE;obtain⟨u,ak⟩:∃ u,u=g.recs.length:=⟨_,rfl⟩;obtain⟨B,aq⟩:∃ B,B=g.pcs.length:=⟨_,rfl⟩;obtain⟨d,ae⟩:∃ d,d=g.first:=⟨_,rfl⟩
 replace az:=ZZ (fun O Q W hW aO=>az.o n1 O Q W hW aO)
 have aZ:Hid (d<=a->a<=d+(u:Int)->∀ W,Below J.heap.size J W->Calls prog 15 #[.agg #[.int .i64 a,.int .i64 kd,.slice E H lc,.bool F,.int .i64 N,.slice K G M],.slice O n1 Q] W fun e w'=>∃ p y j q z n,e=.returned (.tuple #[.agg #[.int .i64 c.1.idx,.int .i64 c.1.st.kind,.slice p y j,.bool c.1.st.shut,.int .i64 c.1.st.eng,.slice q z n],.int .i64 c.2])∧Hid (Below W.heap.size W w')∧Hid (c.2=0->∀ W',(∃ Z,Below w'.heap.size w' Z∧Qj (Znz w W.heap.size) Z W')->(B≠0∧d<=a∧a<=d+(u:Int))->Zcp I w (.slice D u C) (.slice U B X) R (.returned (.tuple #[.agg #[.int .i64 d,.slice D u C,.slice U B X],.agg #[.int .i64 c.1.idx,.int .i64 c.1.st.kind,.slice p y j,.bool c.1.st.shut,.int .i64 c.1.st.eng,.slice q z n]])) W')):=ZZ (by
  rw[ak,aq,ae]
  exact fun h1 h2 W hW=>az.o O Q W hW (aW.o h1 h2))
 rw[<-ak,<-aq,<-ae] at am;rw[<-ak,<-ae] at aQ aE bG;rw[<-ak,<-aq,<-ae] at ac ax;rw[<-ak] at br;rw[<-aq] at bz;rw[<-ae] at a4;rw[<-ak,<-aq,<-ae];clear az aW aX aF aP aU aK hR bj bt aA hs a3 ba ao bf aY hr hp hx hi a5 bc ak aq ae;obtain⟨Bc,a6⟩:∃ Bc:Bool,Bc=decide (B≠0∧d<=a∧a<=d+(u:Int)):=⟨_,rfl⟩;have ab:=ZZ a6;clear a6
 go_enter func36,ntmps36
 go_upto_region 1 with fail
 rw[<-ax];clear ax
 go_cut[24] (fun v wc=>v=.bool Bc∧Hid (Below J.heap.size J wc))
 case first=>
  obtain⟨ι,bP,V,hV,aM⟩:=Zna J.heap.size J;have HV:=ZZ hV;obtain⟨i0,aL⟩:=aM J.drew (Below.refl _ _).drew;have d0:∀ i,(V i).cell? ⟨w.heap.size,0,none⟩=some (.int .i64 d):=fun i=>(ac.o.below (HV.o i)).lc.1
  have d2:∀ i,(V i).cell? ⟨w.heap.size,2,none⟩=some (.slice U B X):=fun i=>(ac.o.below (HV.o i)).lc.2.2
  have e0:∀ i,(V i).cell? ⟨w.heap.size+1,0,none⟩=some (.int .i64 a):=fun i=>(ac.o.below (HV.o i)).sc.1
  have bd:Hid (∀ i,Calls prog 38 #[.pointer (some ⟨w.heap.size,0,none⟩)] (V i) fun e w'=>e=.returned (.int .i64 (d+(u:Int)))∧∃ m,w'=V m):=ZZ (fun i=>(aQ.o (V i) (HV.o i)).mono fun e w' h=>⟨h.1,aM w' h.2⟩)
  clear hV aM;by_cases q1:B=0
  ·have bB:decide ((B:Int)>0)=false:=decide_eq_false (by omega)
   have bx:decide (0<B)=false:=decide_eq_false (by omega)
   have ag:Bc=false:=by rw[ab.o];exact decide_eq_false (fun h=>h.1 q1)
   clear q1;refine Zv V i0 (by kernel_rfl) (by kernel_rfl) aL.symm ?_
   repeat (go_big_quiet_step (fail))
   refine wpQuiet_nil ?_;intro _ an;obtain⟨nq,al⟩:=an;subst al
   go_wp2_with fail
   go_meet
   exact⟨by rw[ag],ZZ (HV.o _)⟩
  have bB:(B:Int)>0:=by omega
  have bx:0<B:=by omega
  by_cases q2:d<=a
  case neg=>
   have aR:decide (d<=a)=false:=decide_eq_false q2;have ag:Bc=false:=by rw[ab.o];exact decide_eq_false (fun h=>q2 h.2.1)
   clear q1 q2;refine Zv V i0 (by kernel_rfl) (by kernel_rfl) aL.symm ?_
   repeat (go_big_quiet_step (fail))
   refine wpQuiet_nil ?_;intro _ an;obtain⟨nq,al⟩:=an;subst al
   go_wp2_with fail
   go_meet
   exact⟨by rw[ag],ZZ (HV.o _)⟩
  by_cases q3:a<=d+(u:Int)
  ·have ag:Bc=true:=by rw[ab.o];exact decide_eq_true ⟨q1,q2,q3⟩
   clear q1 ab;generalize d+(u:Int)=NX at *;refine Zv V i0 (by kernel_rfl) (by kernel_rfl) aL.symm ?_
   repeat (go_big_quiet_step ((go_at_call 38;exact bd.o _)))
   refine wpQuiet_nil ?_;intro _ an;obtain⟨nq,al⟩:=an;subst al
   go_wp2_with fail
   go_meet
   exact⟨by rw[ag],ZZ (HV.o _)⟩
  ·have aC:decide (a<=d+(u:Int))=false:=decide_eq_false q3
   have ag:Bc=false:=by rw[ab.o];exact decide_eq_false (fun h=>q3 h.2.2)
   clear q1 q3 ab;generalize d+(u:Int)=NX at *;refine Zv V i0 (by kernel_rfl) (by kernel_rfl) aL.symm ?_
   repeat (go_big_quiet_step ((go_at_call 38;exact bd.o _)))
   refine wpQuiet_nil ?_;intro _ an;obtain⟨nq,al⟩:=an;subst al
   go_wp2_with fail
   go_meet
   exact⟨by rw[ag],ZZ (HV.o _)⟩
 case rest=>
 obtain⟨f,rfl⟩:∃ W,W=wc:=⟨_,rfl⟩;obtain⟨rfl,aG⟩:=hcut;clear aQ;have A:=ZZ (ac.o.below aG.o)
 cases Bc with
 | false=>
  have bl:Hid (¬ ((B≠0∧d<=a∧a<=d+(u:Int))∧c.2=0)):=ZZ (fun h=>of_decide_eq_false ab.o.symm h.1)
  have ay:=ZZ (am.o bl.o);clear am bl aZ;obtain⟨l0,l1,l2⟩:=A.o.lc;obtain⟨s0,s1,s2,s3,s4,s5⟩:=A.o.sc;obtain⟨o0,p0⟩:=A.o.ol.cell 0 rfl;obtain⟨o1,p1⟩:=A.o.ol.cell 1 rfl;obtain⟨o2,p2⟩:=A.o.ol.cell 2 rfl;obtain⟨u0,v0⟩:=A.o.os.cell 0 rfl;obtain⟨u1,v1⟩:=A.o.os.cell 1 rfl;obtain⟨u2,v2⟩:=A.o.os.cell 2 rfl;obtain⟨u3,v3⟩:=A.o.os.cell 3 rfl;obtain⟨u4,v4⟩:=A.o.os.cell 4 rfl;obtain⟨u5,v5⟩:=A.o.os.cell 5 rfl
  go_upto_region 5 with fail
  go_region
  obtain⟨XX,ad,au,⟨k0,k1,k2⟩,k3,k4,k5,k6,k7,k8⟩:=Zly w f (w.heap.size+1+1) (w.heap.size+1+1+1) rfl rfl A.o.ol A.o.os (.int .i64 a) (.slice none 0 0) (.slice none 0 0) (.int .i64 a) (.int .i64 kd) (.slice E H lc) (.bool F) (.int .i64 N) (.slice K G M);have aw:=ZZ ad;clear ad;go_wp2;rw[<-aw.o];refine bodyPost_ret (v:=.tuple #[.agg #[.int .i64 a,.slice none 0 0,.slice none 0 0],.agg #[.int .i64 a,.int .i64 kd,.slice E H lc,.bool F,.int .i64 N,.slice K G M]]) (by simp[results,Tryz.results36,go_sem,k0,k1,k2,k3,k4,k5,k6,k7,k8]) rfl ?_
  exact ay.o f _ A.o.old au
 | true=>
  have hc:=of_decide_eq_true ab.o.symm;have bu:=ZZ hc;obtain⟨bQ,bb,a8⟩:=hc;have hcut:=aE.o bb a8;have bg:=ZZ (aZ.o bb a8);have hw:IntKind.i64.wrap (a-d)=a-d:=by rw[IntKind.wrap_i64];omega
  have bS:-9223372036854775808<=a-d:=by omega
  have bJ:a-d<=9223372036854775807:=by omega
  obtain⟨l0,l1,l2⟩:=A.o.lc;obtain⟨s0,s1,s2,s3,s4,s5⟩:=A.o.sc;clear aZ aE ab;have HE:Hid (∀ args w,(callFunc 15 args).run prog w=.ok (.enter 15 args) w):=ZZ (enters_of func15 (by kernel_rfl) rfl)
  have aH:Hid (∀ W,Below f.heap.size f W->Calls prog 15 #[.agg #[.int .i64 a,.int .i64 kd,.slice E H lc,.bool F,.int .i64 N,.slice K G M],.slice O n1 Q] W fun e w'=>∃ v',e=.returned v'∧∃ p y j q z n,v'=.tuple #[.agg #[.int .i64 c.1.idx,.int .i64 c.1.st.kind,.slice p y j,.bool c.1.st.shut,.int .i64 c.1.st.eng,.slice q z n],.int .i64 c.2]∧Hid (Below W.heap.size W w')∧Hid (c.2=0->∀ W',(∃ Z,Below w'.heap.size w' Z∧Qj (Znz w W.heap.size) Z W')->Zcp I w (.slice D u C) (.slice U B X) R (.returned (.tuple #[.agg #[.int .i64 d,.slice D u C,.slice U B X],.agg #[.int .i64 c.1.idx,.int .i64 c.1.st.kind,.slice p y j,.bool c.1.st.shut,.int .i64 c.1.st.eng,.slice q z n]])) W')):=ZZ (fun W hW=>by
   refine(bg.o W (aG.o.trans (hW.mono aG.o.size))).mono ?_;rintro e w' ⟨p,y,j,q,z,n,rfl,Y,hf⟩
   exact⟨_,rfl,p,y,j,q,z,n,rfl,Y,ZZ (fun h0 W' aV=>hf.out h0 W' aV bu.o)⟩)
  clear bg
  have ap:Hid (∀ W,Below f.heap.size f W->(W.cell? ⟨w.heap.size+1,0,none⟩=some (.int .i64 a)∧W.cell? ⟨w.heap.size+1,1,none⟩=some (.int .i64 kd)∧W.cell? ⟨w.heap.size+1,2,none⟩=some (.slice E H lc)∧W.cell? ⟨w.heap.size+1,3,none⟩=some (.bool F)∧W.cell? ⟨w.heap.size+1,4,none⟩=some (.int .i64 N)∧W.cell? ⟨w.heap.size+1,5,none⟩=some (.slice K G M)∧W.cell? ⟨w.heap.size,0,none⟩=some (.int .i64 d)∧W.cell? ⟨w.heap.size,1,none⟩=some (.slice D u C))):=ZZ (fun W h=>by
   obtain⟨g0,g1,g2⟩:=(A.o.below h).lc;obtain⟨e0,e1,e2,e3,e4,e5⟩:=(A.o.below h).sc
   exact⟨e0,e1,e2,e3,e4,e5,g0,g1⟩)
  obtain⟨T1,bn⟩:∃ T1,T1=c.1.idx:=⟨_,rfl⟩;obtain⟨T2,bq⟩:∃ T2,T2=c.1.st.kind:=⟨_,rfl⟩;obtain⟨T3,bo⟩:∃ T3,T3=c.1.st.shut:=⟨_,rfl⟩;obtain⟨T4,bp⟩:∃ T4,T4=c.1.st.eng:=⟨_,rfl⟩;obtain⟨T5,aN⟩:∃ T5,T5=c.2:=⟨_,rfl⟩;rw[<-bn,<-bq,<-bo,<-bp,<-aN] at aH;rw[<-aN] at am;clear bn bq bo bp aN;have aJ:Hid (Below f.heap.size f f.drew):=ZZ (Below.refl _ _).drew;have av:Hid (Below f.heap.size f (f.alloc (.cells #[.int .i64 0,.int .i64 0,.slice none 0 0,.bool false,.int .i64 0,.slice none 0 0] 41)).drew):=ZZ ((Below.refl _ _).alloc zL _).drew;have aS:Hid (w.heap.size+4<=f.heap.size):=ZZ (by have:=aG.o.size;omega)
  clear l0 l1 l2 s0 s1 s2 s3 s4 s5
  go_upto_region 2 with fail
  go_cut[6,7] (fun v6 v7 wc=>∃ (b:Nat) (p:Option Addr) (y j:Nat) (q:Option Addr) (z n:Nat),v6=.pointer (some ⟨b,0,none⟩)∧v7=.int .i64 T5∧Hid (w.heap.size+4<=b)∧Hid (Bk 41 wc b #[.int .i64 T1,.int .i64 T2,.slice p y j,.bool T3,.int .i64 T4,.slice q z n])∧Hid (Below f.heap.size f wc)∧
   Hid (T5=0->∀ W',Qj (Znz w 0) wc W'->Zcp I w (.slice D u C) (.slice U B X) R (.returned (.tuple #[.agg #[.int .i64 d,.slice D u C,.slice U B X],.agg #[.int .i64 T1,.int .i64 T2,.slice p y j,.bool T3,.int .i64 T4,.slice q z n]])) W'))
  case first=>
   go_region_held2(fun W=>W.cell? ⟨w.heap.size+1,0,none⟩=some (.int .i64 a)∧W.cell? ⟨w.heap.size+1,1,none⟩=some (.int .i64 kd)∧W.cell? ⟨w.heap.size+1,2,none⟩=some (.slice E H lc)∧W.cell? ⟨w.heap.size+1,3,none⟩=some (.bool F)∧W.cell? ⟨w.heap.size+1,4,none⟩=some (.int .i64 N)∧W.cell? ⟨w.heap.size+1,5,none⟩=some (.slice K G M)∧W.cell? ⟨w.heap.size,0,none⟩=some (.int .i64 d)∧W.cell? ⟨w.heap.size,1,none⟩=some (.slice D u C))
    (first | (with_reducible exact ap.o _ aJ.o) | (with_reducible exact ap.o _ av.o) | (with_reducible exact ap.o _ aa.o) | (with_reducible exact ap.o _ (ZnA aa.o _ zL _ _ _ _ _ _)) | (with_reducible exact ap.o _ (aa.o.alloc aa.o.size _)))
    (first
     | ((with_reducible refine Yj 15 _ _ rfl rfl #[.agg #[.int .i64 a,.int .i64 kd,.slice E H lc,.bool F,.int .i64 N,.slice K G M],.slice O n1 Q] (by simp[Act.eval]) HE.o (aH.o f.drew aJ.o) ?_);rintro v' t ⟨p,y,j,q,z,n,rfl,aB,aj⟩;have aa:Hid (Below f.heap.size f t):=ZZ (aJ.o.trans aB.o))
     | ((with_reducible refine Yj 15 _ _ rfl rfl #[.agg #[.int .i64 a,.int .i64 kd,.slice E H lc,.bool F,.int .i64 N,.slice K G M],.slice O n1 Q] (by simp[Act.eval]) HE.o (aH.o (f.alloc (.cells #[.int .i64 0,.int .i64 0,.slice none 0 0,.bool false,.int .i64 0,.slice none 0 0] 41)).drew av.o) ?_);rintro v' t ⟨p,y,j,q,z,n,rfl,aB,aj⟩;have aa:Hid (Below f.heap.size f t):=ZZ (av.o.trans (aB.o.mono av.o.size));have ai:Hid (Bk 41 t f.heap.size #[.int .i64 0,.int .i64 0,.slice none 0 0,.bool false,.int .i64 0,.slice none 0 0]):=ZZ (ZxW f _ t aB.o);obtain⟨z0,y0⟩:=ai.o.cell 0 rfl;obtain⟨z1,y1⟩:=ai.o.cell 1 rfl;obtain⟨z2,y2⟩:=ai.o.cell 2 rfl;obtain⟨z3,y3⟩:=ai.o.cell 3 rfl;obtain⟨z4,y4⟩:=ai.o.cell 4 rfl;obtain⟨z5,y5⟩:=ai.o.cell 5 rfl))
   all_goals
    go_wp2_with fail
    go_meet
    first
     | exact⟨_,p,y,j,q,z,n,rfl,rfl,aS,ZZ ((((((ai.o.set 0 _).set 1 _).set 2 _).set 3 _).set 4 _).set 5 _),ZZ (ZnA aa.o _ zL _ _ _ _ _ _),ZZ (fun h0 W' ho=>aj.o h0 W' ⟨_,Below.refl _ _,(ZxV t f.heap.size _ _ _ _ _ _ (fun k=>Znz w (f.alloc (.cells #[.int .i64 0,.int .i64 0,.slice none 0 0,.bool false,.int .i64 0,.slice none 0 0] 41)).drew.heap.size k) (.inr ⟨aS.o,Zzi f _⟩)).trans (ho.mono (fun k hk=>hk.more)) (fun _ _ h=>h)⟩)⟩
     | exact⟨_,p,y,j,q,z,n,rfl,rfl,ZZ (Nat.le_trans aS.o aa.o.size),ZZ (heap_alloc_new t _),ZZ (aa.o.alloc aa.o.size _),ZZ (fun h0 W' ho=>aj.o h0 W' ⟨_,Jc t _,ho.mono (fun k hk=>hk.more)⟩)⟩
  case rest=>
  obtain⟨b,p,y,j,q,z,n,rfl,rfl,aI,af,bw,aj⟩:=hcut;obtain⟨WC,rfl⟩:∃ W,W=wc:=⟨_,rfl⟩;have T:=ZZ (A.o.below bw.o);clear aH ap aJ av HE hcut;obtain⟨l0,l1,l2⟩:=T.o.lc;obtain⟨s0,s1,s2,s3,s4,s5⟩:=T.o.sc;obtain⟨o0,p0⟩:=T.o.ol.cell 0 rfl;obtain⟨o1,p1⟩:=T.o.ol.cell 1 rfl;obtain⟨o2,p2⟩:=T.o.ol.cell 2 rfl;obtain⟨u0,v0⟩:=T.o.os.cell 0 rfl;obtain⟨u1,v1⟩:=T.o.os.cell 1 rfl;obtain⟨u2,v2⟩:=T.o.os.cell 2 rfl;obtain⟨u3,v3⟩:=T.o.os.cell 3 rfl;obtain⟨u4,v4⟩:=T.o.os.cell 4 rfl;obtain⟨u5,v5⟩:=T.o.os.cell 5 rfl;by_cases hT:T5=0
  case neg=>
   have bD:(T5 == 0)=false:=beq_eq_false_iff_ne.2 hT;have ay:=ZZ (am.o (fun h=>hT h.2))
   clear am aj af hT
   go_upto_region 5 with fail
   go_region
   obtain⟨XX,ad,au,⟨k0,k1,k2⟩,k3,k4,k5,k6,k7,k8⟩:=Zly w WC (w.heap.size+1+1) (w.heap.size+1+1+1) rfl rfl T.o.ol T.o.os (.int .i64 a) (.slice none 0 0) (.slice none 0 0) (.int .i64 a) (.int .i64 kd) (.slice E H lc) (.bool F) (.int .i64 N) (.slice K G M);have aw:=ZZ ad;clear ad;go_wp2;rw[<-aw.o];refine bodyPost_ret (v:=.tuple #[.agg #[.int .i64 a,.slice none 0 0,.slice none 0 0],.agg #[.int .i64 a,.int .i64 kd,.slice E H lc,.bool F,.int .i64 N,.slice K G M]]) (by simp[results,Tryz.results36,go_sem,k0,k1,k2,k3,k4,k5,k6,k7,k8]) rfl ?_
   exact ay.o WC _ T.o.old au
  have bD:(T5 == 0)=true:=by rw[beq_iff_eq];exact hT
  have ay:=ZZ (aj.o hT);obtain⟨x0,-⟩:=af.o.cell 0 rfl;obtain⟨x1,-⟩:=af.o.cell 1 rfl;obtain⟨x2,-⟩:=af.o.cell 2 rfl;obtain⟨x3,-⟩:=af.o.cell 3 rfl;obtain⟨x4,-⟩:=af.o.cell 4 rfl;obtain⟨x5,-⟩:=af.o.cell 5 rfl;have bO:¬ (b=w.heap.size+1+1):=by have:=aI.o;omega
  have bK:¬ (b=w.heap.size+1+1+1):=by have:=aI.o;omega
  have bL:¬ (w.heap.size+1+1=b):=by have:=aI.o;omega
  have bM:¬ (w.heap.size+1+1+1=b):=by have:=aI.o;omega
  clear am aj hT s0 s1 s2 s3 s4 s5
  go_upto_region 4 with fail
  go_region
  obtain⟨XX,ad,au,⟨k0,k1,k2⟩,k3,k4,k5,k6,k7,k8⟩:=Zly w WC (w.heap.size+1+1) (w.heap.size+1+1+1) rfl rfl T.o.ol T.o.os (.int .i64 d) (.slice D u C) (.slice U B X) (.int .i64 T1) (.int .i64 T2) (.slice p y j) (.bool T3) (.int .i64 T4) (.slice q z n);have aw:=ZZ ad;clear ad;go_wp2;rw[<-aw.o];refine bodyPost_ret (v:=.tuple #[.agg #[.int .i64 d,.slice D u C,.slice U B X],.agg #[.int .i64 T1,.int .i64 T2,.slice p y j,.bool T3,.int .i64 T4,.slice q z n]]) (by simp[results,Tryz.results36,go_sem,k0,k1,k2,k3,k4,k5,k6,k7,k8]) rfl ?_
  exact ay.o _ au
end Go.Proofs.YtnahjngbneicaaaGreatDoor
