import Derived.Test.YtnahjngbneicaaaGreatDoorStoreOpenM
import Derived.Test.YtnahjngbneicaaaGreatDoorPack11
import Derived.BigRegion
namespace Go.Proofs.YtnahjngbneicaaaGreatDoor
open _root_.Go.Proofs.Tryz
set_option maxRecDepth 100000
open Go.RowKit
theorem ZkZ.inside {w w':World} {x:ZaW × Value × Value} {I:Nat->Prop} {l:List Rec} {r:ZaW × Int} {c e:Value} (i:SnR w x) (hi:ZoR I x) (h:RdI w' c r.1.st.L) (g1:c=x.2.1∨∀ b,c.ownBlock=some b->w.heap.size<=b)
 (g2:(l=[]∧e=x.2.2)∨Zbt w' w.heap.size e r.1.tab) (m:l=[]->r.1=x.1):ZoR (fun k=>I k∨(w.heap.size<=k∧k<w'.heap.size)) (r.1,c,e):=by
 refine⟨?_,?_⟩
 ·rcases h.block with hb0 | ⟨hne,k,hk,hlt⟩
  ·exact .inl hb0
  ·rcases g1 with g1 | g1
   ·rcases hi.1 with hi | hi
    ·obtain⟨p,u,f,-⟩:=i.l
     obtain⟨t,q,d,-⟩:=h;rw[hi] at f;rw[g1,f] at d
     injection d with _ d _
     exact .inl (List.eq_nil_of_length_eq_zero (by rw[<-d];rfl))
    ·exact .inr fun g a=>.inl (hi g (by rw[<-g1];exact a))
   ·refine .inr fun g a=>.inr ⟨g1 g a,?_⟩
    have n:c.ownBlock=some g:=a;rw[n] at hk;obtain rfl:=Option.some.inj hk;exact hlt
 ·rcases g2 with ⟨j,g2⟩ | g2
  ·rcases hi.2 with hi | hi
   ·exact .inl (by show r.1.tab=[];rw[m j];exact hi)
   ·exact .inr fun g a=>.inl (hi g (by rw[<-g2];exact a))
  ·exact .inr fun g a=>.inr (World.ownsRow.lt g2 g a)
theorem ZCa (w:World) (X Y Z:Obj):(((w.alloc X).alloc Y).alloc Z).heap[w.heap.size+2]?=some Z:=by
 have h:=heap_alloc_new ((w.alloc X).alloc Y) Z;have e:((w.alloc X).alloc Y).heap.size=w.heap.size+2:=by simp
 rw[e] at h;exact h
theorem ZCb (w:World) (X Y Z U:Obj):((((w.alloc X).alloc Y).alloc Z).alloc U).heap[w.heap.size+3]?=some U:=by
 have h:=heap_alloc_new (((w.alloc X).alloc Y).alloc Z) U;have e:(((w.alloc X).alloc Y).alloc Z).heap.size=w.heap.size+3:=by simp
 rw[e] at h;exact h
def ZfE (I:Nat->Prop) (w:World) (rv pv:Value) (r:Lgb × ZaW) (e:Ending) (w':World):Prop:=
 ∃ rv' pv' vl vt,e=.returned (.tuple #[.agg #[.int .i64 r.1.first,rv',pv'],snV (r.2,vl,vt)])∧Zbq w' 0 rv' r.1.recs∧w'.ownsRow 0 108 3 pv' r.1.pcs.length (Zau r.1.pcs)∧(rv'=rv∨rv'=.slice none 0 0)∧(pv'=pv∨pv'=.slice none 0 0)∧
  SnR w' (r.2,vl,vt)∧ZoR (fun k=>I k∨(w.heap.size<=k∧k<w'.heap.size)) (r.2,vl,vt)∧Below w.heap.size w w'
structure ZAr (w:World) (f:Int) (rv pv:Value) (x0 x1 x2 x3 x4 x5:Value) (W:World):Prop where
 lg:Bk 73 W w.heap.size #[.int .i64 f,rv,pv]
 sn:Bk 41 W (w.heap.size+1) #[x0,x1,x2,x3,x4,x5]
 ol:Bk 73 W (w.heap.size+2) #[.int .i64 0,.slice none 0 0,.slice none 0 0]
 os:Bk 41 W (w.heap.size+3) #[.int .i64 0,.int .i64 0,.slice none 0 0,.bool false,.int .i64 0,.slice none 0 0]
 old:Below w.heap.size w W
theorem ZAr.below {w W W':World} {f:Int} {rv pv c g i e b d:Value} (h:ZAr w f rv pv c g i e b d W) (a:Below W.heap.size W W'):ZAr w f rv pv c g i e b d W':=
 ⟨h.lg.keep (a.block _ h.lg.lt),h.sn.keep (a.block _ h.sn.lt),h.ol.keep (a.block _ h.ol.lt),h.os.keep (a.block _ h.os.lt),h.old.trans (a.mono h.old.size)⟩
theorem ZAr.lc {w W:World} {f:Int} {rv pv b e g d a c:Value} (h:ZAr w f rv pv b e g d a c W):W.cell? ⟨w.heap.size,0,none⟩=some (.int .i64 f)∧W.cell? ⟨w.heap.size,1,none⟩=some rv∧W.cell? ⟨w.heap.size,2,none⟩=some pv:=
 ⟨(h.lg.cell 0 rfl).1,(h.lg.cell 1 rfl).1,(h.lg.cell 2 rfl).1⟩
theorem ZAr.sc {w W:World} {f:Int} {rv pv b e g d a c:Value} (h:ZAr w f rv pv b e g d a c W):
 W.cell? ⟨w.heap.size+1,0,none⟩=some b∧W.cell? ⟨w.heap.size+1,1,none⟩=some e∧W.cell? ⟨w.heap.size+1,2,none⟩=some g∧W.cell? ⟨w.heap.size+1,3,none⟩=some d∧W.cell? ⟨w.heap.size+1,4,none⟩=some a∧W.cell? ⟨w.heap.size+1,5,none⟩=some c:=
 ⟨(h.sn.cell 0 rfl).1,(h.sn.cell 1 rfl).1,(h.sn.cell 2 rfl).1,(h.sn.cell 3 rfl).1,(h.sn.cell 4 rfl).1,(h.sn.cell 5 rfl).1⟩
def ZqP (w:World) (C:Nat) (k:Nat):Prop:=(k=w.heap.size+2∨k=w.heap.size+3)∨(w.heap.size+4<=k∧k<C)
theorem ZqP.more {w:World} {C k:Nat} (h:ZqP w 0 k):ZqP w C k:=by
 rcases h with h | h
 ·exact .inl h
 ·omega
theorem ZzZ (w W:World) (c a:Nat) (m:c=w.heap.size+2) (h:a=w.heap.size+3) (i j e f g n p l k:Value):Zap (ZqP w 0) W (((((((((W.setCell ⟨c,0,none⟩ i).setCell ⟨c,1,none⟩ j).setCell ⟨c,2,none⟩ e).setCell ⟨a,0,none⟩ f).setCell ⟨a,1,none⟩ g).setCell ⟨a,2,none⟩ n).setCell ⟨a,3,none⟩ p).setCell ⟨a,4,none⟩ l).setCell ⟨a,5,none⟩ k):=by
 have d:ZqP w 0 c:=.inl (.inl m);have b:ZqP w 0 a:=.inl (.inr h);exact(((((((((Zap.refl _ _).setCell _ (fun _=>d) _).setCell _ (fun _=>d) _).setCell _ (fun _=>d) _).setCell _ (fun _=>b) _).setCell _ (fun _=>b) _).setCell _ (fun _=>b) _).setCell _ (fun _=>b) _).setCell _ (fun _=>b) _).setCell _ (fun _=>b) _
theorem ZoO (w W:World) (b a:Nat) (z:b=w.heap.size+2) (v:a=w.heap.size+3) {I F G A D y x C E:Value} (H:Bk 73 W b #[I,F,G]) (B:Bk 41 W a #[A,D,y,x,C,E]) (e g d h i l f j k:Value):
 ∃ c,c=(((((((((W.setCell ⟨b,0,none⟩ e).setCell ⟨b,1,none⟩ g).setCell ⟨b,2,none⟩ d).setCell ⟨a,0,none⟩ h).setCell ⟨a,1,none⟩ i).setCell ⟨a,2,none⟩ l).setCell ⟨a,3,none⟩ f).setCell ⟨a,4,none⟩ j).setCell ⟨a,5,none⟩ k).drew∧Zap (ZqP w 0) W c∧(c.cell? ⟨b,0,none⟩=some e∧c.cell? ⟨b,1,none⟩=some g∧c.cell? ⟨b,2,none⟩=some d)∧(c.cell? ⟨a,0,none⟩=some h∧c.cell? ⟨a,1,none⟩=some i∧c.cell? ⟨a,2,none⟩=some l∧c.cell? ⟨a,3,none⟩=some f∧c.cell? ⟨a,4,none⟩=some j∧c.cell? ⟨a,5,none⟩=some k):=by
 have m:b≠a:=by omega
 have q:Bk 73 (((((((((W.setCell ⟨b,0,none⟩ e).setCell ⟨b,1,none⟩ g).setCell ⟨b,2,none⟩ d).setCell ⟨a,0,none⟩ h).setCell ⟨a,1,none⟩ i).setCell ⟨a,2,none⟩ l).setCell ⟨a,3,none⟩ f).setCell ⟨a,4,none⟩ j).setCell ⟨a,5,none⟩ k) b #[e,g,d]:=((((((((H.set 0 e).set 1 g).set 2 d).other a 0 h m).other a 1 i m).other a 2 l m).other a 3 f m).other a 4 j m).other a 5 k m;have u:Bk 41 (((((((((W.setCell ⟨b,0,none⟩ e).setCell ⟨b,1,none⟩ g).setCell ⟨b,2,none⟩ d).setCell ⟨a,0,none⟩ h).setCell ⟨a,1,none⟩ i).setCell ⟨a,2,none⟩ l).setCell ⟨a,3,none⟩ f).setCell ⟨a,4,none⟩ j).setCell ⟨a,5,none⟩ k) a #[h,i,l,f,j,k]:=(((((((((B.other b 0 e m.symm).other b 1 g m.symm).other b 2 d m.symm).set 0 h).set 1 i).set 2 l).set 3 f).set 4 j).set 5 k);have n:=ZzZ w W b a z v e g d h i l f j k
 revert q u n
 generalize (((((((((W.setCell ⟨b,0,none⟩ e).setCell ⟨b,1,none⟩ g).setCell ⟨b,2,none⟩ d).setCell ⟨a,0,none⟩ h).setCell ⟨a,1,none⟩ i).setCell ⟨a,2,none⟩ l).setCell ⟨a,3,none⟩ f).setCell ⟨a,4,none⟩ j).setCell ⟨a,5,none⟩ k)=Y;intro q u n;have t:Bk 73 Y.drew b #[e,g,d]:=q;have p:Bk 41 Y.drew a #[h,i,l,f,j,k]:=u;exact⟨Y.drew,rfl,⟨n.os,n.tape,n.output,n.size,n.block⟩,⟨(t.cell 0 rfl).1,(t.cell 1 rfl).1,(t.cell 2 rfl).1⟩,(p.cell 0 rfl).1,(p.cell 1 rfl).1,(p.cell 2 rfl).1,(p.cell 3 rfl).1,(p.cell 4 rfl).1,(p.cell 5 rfl).1⟩
theorem ZnD {w W W':World} {C:Nat} (b:Below w.heap.size w W) (c:w.heap.size<=W.heap.size) (a:Zap (ZqP w C) W W'):Below w.heap.size w W':=
 b.trans (a.below c fun k hk=>by
  rcases hk with hk | hk
  ·omega
  ·omega)
theorem ZBl (W:World) (R:Nat) (c f g e b d:Value) (G:Nat->Prop) (a:G R):Zap G W ((((((W.setCell ⟨R,0,none⟩ c).setCell ⟨R,1,none⟩ f).setCell ⟨R,2,none⟩ g).setCell ⟨R,3,none⟩ e).setCell ⟨R,4,none⟩ b).setCell ⟨R,5,none⟩ d):=
 ((((((Zap.refl G W).setCell 0 (fun _=>a) c).setCell 1 (fun _=>a) f).setCell 2 (fun _=>a) g).setCell 3 (fun _=>a) e).setCell 4 (fun _=>a) b).setCell 5 (fun _=>a) d
theorem ZCy (a:World) (X:Obj):a.heap.size<(a.alloc X).drew.heap.size:=by
 have:(a.alloc X).drew.heap.size=a.heap.size+1:=by simp[World.drew]
 omega
theorem ZBm (a:World) (cs:Array Value) (c:World) (d:Below (a.alloc (.cells cs 41)).drew.heap.size (a.alloc (.cells cs 41)).drew c):Bk 41 c a.heap.size cs:=by
 have b:Bk 41 (a.alloc (.cells cs 41)).drew a.heap.size cs:=heap_alloc_new a _;exact b.keep (d.block _ b.lt)
theorem ZqQ {B:Nat} {a W:World} (h:Below B a W) (R:Nat) (b:B<=R) (d g i f c e:Value):Below B a ((((((W.setCell ⟨R,0,none⟩ d).setCell ⟨R,1,none⟩ g).setCell ⟨R,2,none⟩ i).setCell ⟨R,3,none⟩ f).setCell ⟨R,4,none⟩ c).setCell ⟨R,5,none⟩ e):=
 (((((h.setCell (p:=⟨R,0,none⟩) b d).setCell (p:=⟨R,1,none⟩) b g).setCell (p:=⟨R,2,none⟩) b i).setCell (p:=⟨R,3,none⟩) b f).setCell (p:=⟨R,4,none⟩) b c).setCell (p:=⟨R,5,none⟩) b e
set_option maxHeartbeats 4000000 in
theorem ZvP (I:Nat->Prop) (g:Lgb) (rv pv:Value) (x:ZaW × Value × Value) (w:World) (hr:Zbq w 0 rv g.recs) (hp:w.ownsRow 0 108 3 pv g.pcs.length (Zau g.pcs)) (hx:SnR w x) (hi:ZoR I x) (bd:∀ k,I k->k<w.heap.size) (aF:OkG g) (hs:SnS x.1) (bj:g.recs.length<=9000000) (bq:g.pcs.length<=900000):
 Calls prog 36 #[.agg #[.int .i64 g.first,rv,pv],snV x] w fun e w'=>ZfE I w rv pv (g.behind x.1) e w':=by
 obtain⟨D,C,bw⟩:=hr.shape;obtain⟨X,U,br⟩:=ZbW hp;obtain⟨G,H,lc,K,E,J,a8,a7⟩:=hx.shape;have aO:Hid (snV x=.agg #[.int .i64 x.1.idx,.int .i64 x.1.st.kind,.slice G H lc,.bool x.1.st.shut,.int .i64 x.1.st.eng,.slice K E J]):=ZZ (by unfold snV snC;rw[a8,a7])
 have bc:=aF.f0;have a0:=aF.top;have bk:=ZZ (hr.rd aF.recOk)
 have aV:Hid (¬ g.leads x.1->∀ W W',Below w.heap.size w W->Zap (ZqP w 0) W W'->ZfE I w rv pv (g.behind x.1) (.returned (.tuple #[.agg #[.int .i64 x.1.idx,.slice none 0 0,.slice none 0 0],.agg #[.int .i64 x.1.idx,.int .i64 x.1.st.kind,.slice G H lc,.bool x.1.st.shut,.int .i64 x.1.st.eng,.slice K E J]])) W'):=ZZ (fun hn W W' Y ho=>by
  have aq:=ZnD Y Y.size ho;unfold Lgb.behind;rw[if_neg hn]
  refine⟨_,_,x.2.1,x.2.2,by rw[<-aO.o],Zbq.nil _ _,World.ownsRow_nil _ _ _ _,.inr rfl,.inr rfl,hx.below aq zL,hi.mono (fun k hk=>.inl hk),aq⟩)
 have aH:Hid (g.leads x.1->∀ (W u W':World) (vx vu:Value),Below w.heap.size w W->w.heap.size+4<=W.heap.size->RdI u vx (ZaQ x.1 (g.recs.drop (x.1.idx-g.first).toNat)).1.st.L->RdE u vu (ZaQ x.1 (g.recs.drop (x.1.idx-g.first).toNat)).1.tab->I64 (ZaQ x.1 (g.recs.drop (x.1.idx-g.first).toNat)).1.st.kind->I64 (ZaQ x.1 (g.recs.drop (x.1.idx-g.first).toNat)).1.st.eng->I64 (ZaQ x.1 (g.recs.drop (x.1.idx-g.first).toNat)).1.idx->
  ZoR (fun k=>I k∨(W.heap.size<=k∧k<u.heap.size)) ((ZaQ x.1 (g.recs.drop (x.1.idx-g.first).toNat)).1,vx,vu)->Below W.heap.size W u->(∃ Z,Below u.heap.size u Z∧Zap (ZqP w W.heap.size) Z W')->
  ZfE I w rv pv (g.behind x.1) (.returned (.tuple #[.agg #[.int .i64 g.first,rv,pv],.agg #[.int .i64 (ZaQ x.1 (g.recs.drop (x.1.idx-g.first).toNat)).1.idx,.int .i64 (ZaQ x.1 (g.recs.drop (x.1.idx-g.first).toNat)).1.st.kind,vx,.bool (ZaQ x.1 (g.recs.drop (x.1.idx-g.first).toNat)).1.st.shut,.int .i64 (ZaQ x.1 (g.recs.drop (x.1.idx-g.first).toNat)).1.st.eng,vu]])) W'):=ZZ (fun hn W u W' vx vu Y bL k1 k2 k3 k4 k5 k6 aL ⟨Z,aE,ho⟩=>by
  have aM:Below w.heap.size w u:=Y.trans (aL.mono Y.size);have bg:Below w.heap.size w Z:=aM.trans (aE.mono aM.size);have aq:=ZnD bg bg.size ho;have bO:=aL.size;have bP:=aE.size;have bF:=ho.size
  have bA:∀ k,(I k∨(W.heap.size<=k∧k<u.heap.size))->W'.heap[k]?=u.heap[k]?:=fun k hk=>by
   have bi:k<u.heap.size∧¬ ZqP w W.heap.size k:=by
    rcases hk with hk | hk
    ·have:=bd k hk
     refine⟨by have:=aM.size;omega,fun h=>?_⟩
     rcases h with h | h <;> omega
    ·refine⟨hk.2,fun h=>?_⟩
     rcases h with h | h <;> omega
   rw[ho.block k (by omega) bi.2,aE.block k bi.1]
  have hS:SnR u ((ZaQ x.1 (g.recs.drop (x.1.idx-g.first).toNat)).1,vx,vu):=⟨k1,k2,k3,k4,k5⟩;unfold Lgb.behind;rw[if_pos hn]
  exact⟨rv,pv,vx,vu,rfl,hr.below aq zL,Zae hp (fun k hk=>aq.block k (World.ownsRow.lt hp k hk).2),.inl rfl,.inl rfl,hS.keep k6 bA,k6.mono (fun k hk=>hk.imp id (fun h=>⟨by have:=Y.size;omega,by omega⟩)),aq⟩)
 have ap:=ZZ (And.intro hx (And.intro hi hs));obtain⟨M,av⟩:∃ M,M=(((w.alloc (.cells #[.int .i64 g.first,.slice D g.recs.length C,.slice X g.pcs.length U] 73)).alloc (.cells #[.int .i64 x.1.idx,.int .i64 x.1.st.kind,.slice G H lc,.bool x.1.st.shut,.int .i64 x.1.st.eng,.slice K E J] 41)).alloc (.cells #[.int .i64 0,.slice none 0 0,.slice none 0 0] 73)).alloc (.cells #[.int .i64 0,.int .i64 0,.slice none 0 0,.bool false,.int .i64 0,.slice none 0 0] 41):=⟨_,rfl⟩;have bU:M.heap.size=w.heap.size+4:=by rw[av];simp
 have ad:Hid (ZAr w g.first (.slice D g.recs.length C) (.slice X g.pcs.length U) (.int .i64 x.1.idx) (.int .i64 x.1.st.kind) (.slice G H lc) (.bool x.1.st.shut) (.int .i64 x.1.st.eng) (.slice K E J) M):=ZZ (by
  rw[av];refine⟨?_,?_,?_,?_,(((Below.refl _ _).alloc zL _).alloc (by simp) _).alloc (by simp;omega) _ |>.alloc (by simp;omega) _⟩
  ·exact(Below.heap_alloc _ _ _ (by simp;omega)).trans ((Below.heap_alloc _ _ _ (by simp;omega)).trans ((Below.heap_alloc _ _ _ (by simp)).trans (heap_alloc_new w _)))
  ·exact(Below.heap_alloc _ _ _ (by simp)).trans ((Below.heap_alloc _ _ _ (by simp)).trans (Zhc w _ _))
  ·exact(Below.heap_alloc _ _ _ (by simp)).trans (ZCa w _ _ _)
  ·exact ZCb w _ _ _ _)
 obtain⟨⟨a,⟨kd,LL,N,F⟩,tb⟩,bJ,bG⟩:=x
 dsimp only at *
 subst a8 a7;obtain⟨c,aC⟩:∃ c,c=ZaQ ⟨a,⟨kd,LL,N,F⟩,tb⟩ (g.recs.drop (a-g.first).toNat):=⟨_,rfl⟩;rw[<-aC] at aH;have aQ:=ZZ aC
 have aN:Hid (g.leads ⟨a,⟨kd,LL,N,F⟩,tb⟩↔(g.pcs.length≠0∧g.first<=a∧a<=g.first+(g.recs.length:Int))∧c.2=0):=ZZ (by
  unfold Lgb.leads;rw[aC,and_assoc,and_assoc]
  exact Iff.rfl)
 rw[aO.o];subst bw br;obtain⟨R,hR⟩:∃ R,R=g.behind ⟨a,⟨kd,LL,N,F⟩,tb⟩:=⟨_,rfl⟩;rw[<-hR] at aV aH ⊢;have a4:=ZZ (And.intro bj hr);have bx:(g.recs.length:Int)<=9000000:=by omega
 have bz:(g.pcs.length:Int)<=900000:=by omega
 have bB:g.first+(g.recs.length:Int)<=4611686018427387904:=a0
 have aI:Hid (∀ (n1:Nat) (O:Option Addr) (Q:Nat) (W:World),Below M.heap.size M W->RdR w (.slice O n1 Q) (g.recs.drop (a-g.first).toNat)->Calls prog 15 #[.agg #[.int .i64 a,.int .i64 kd,.slice G H lc,.bool N,.int .i64 F,.slice K E J],.slice O n1 Q] W fun e w'=>∃ q z p j y n,e=.returned (.tuple #[.agg #[.int .i64 c.1.idx,.int .i64 c.1.st.kind,.slice q z p,.bool c.1.st.shut,.int .i64 c.1.st.eng,.slice j y n],.int .i64 c.2])∧Hid (Below W.heap.size W w')∧Hid (c.2=0->∀ W',(∃ Z,Below w'.heap.size w' Z∧Zap (ZqP w W.heap.size) Z W')->(g.pcs.length≠0∧g.first<=a∧a<=g.first+(g.recs.length:Int))->ZfE I w (.slice D g.recs.length C) (.slice X g.pcs.length U) R (.returned (.tuple #[.agg #[.int .i64 g.first,.slice D g.recs.length C,.slice X g.pcs.length U],.agg #[.int .i64 c.1.idx,.int .i64 c.1.st.kind,.slice q z p,.bool c.1.st.shut,.int .i64 c.1.st.eng,.slice j y n]])) W')):=ZZ (fun n1 O Q W hW aY=>by
  have aT:Below w.heap.size w W:=ad.o.old.trans (hW.mono ad.o.old.size);have bS:=hW.size;have bm:=ap.o.1.below aT zL;have bD:=bm.snV;have hL:LL.length<=1000:=by have:=ZrP ap.o.2.2.1;exact Nat.le_trans this (by decide)
  have hT:tb.length<=1000:=by have:=ap.o.2.2.2.few;exact Nat.le_trans this (by decide)
  refine(ZpU (P:=SnS) (fun S r hS hf=>hS.next hf) (fun S hS=>by have:=hS.2.few;omega) _ _ _ _ _ _ ⟨a,⟨kd,LL,N,F⟩,tb⟩ _ _ W bD (aY.below aT zL) hL hT (by rw[List.length_drop];have:=a4.o.1;omega) ap.o.2.2).mono ?_
  rw[<-aQ.o];rintro e w' ⟨vx,vu,rfl,r1,r2,r3,r4,r5,g1,g2,Y⟩;have ay:=ZkZ.inside (x:=(⟨a,⟨kd,LL,N,F⟩,tb⟩,.slice G H lc,.slice K E J)) (l:=g.recs.drop (a-g.first).toNat) bm ap.o.2.1 r1 g1 g2 (fun hl=>by rw[aQ.o,hl];rfl)
  obtain⟨q,p,bt,-⟩:=id r1;obtain⟨j,n,hu⟩:=r4.shape;have HP:=fun h0 hc=>aH.o (aN.o.2 ⟨hc,h0⟩) W w'
  subst bt hu
  exact⟨q,_,p,j,_,n,rfl,ZZ Y,ZZ (fun h0 W' aS hc=>HP h0 hc W' _ _ aT (by omega) r1 r4 r2 r3 r5 ay Y aS)⟩)
 obtain⟨O,Q,bf,bl⟩:∃ O Q,(g.first<=a->a<=g.first+(g.recs.length:Int)->RdR w (.slice O (g.recs.drop (a-g.first).toNat).length Q) (g.recs.drop (a-g.first).toNat))∧(g.first<=a->a<=g.first+(g.recs.length:Int)->∀ W,(bN.sliceAt 29 (.slice D g.recs.length C) (some (.int .i64 (a-g.first))) none none).run prog W=.ok (.slice O (g.recs.drop (a-g.first).toNat).length Q) W):=by
  by_cases ay:g.first<=a∧a<=g.first+(g.recs.length:Int)
  ·obtain⟨O,Q,h1,h2⟩:=Zxr w D g.recs C bk.o (a-g.first).toNat (by omega)
   exact⟨O,Q,fun _ _=>h1,fun _ _=>h2 _ (by omega)⟩
  ·exact⟨none,0,fun h1 h2=>absurd ⟨h1,h2⟩ ay,fun h1 h2=>absurd ⟨h1,h2⟩ ay⟩
 have aP:=ZZ bf;have az:=ZZ bl;clear bf bl;have ag:Hid (¬ ((g.pcs.length≠0∧g.first<=a∧a<=g.first+(g.recs.length:Int))∧c.2=0)->∀ W W',Below w.heap.size w W->Zap (ZqP w 0) W W'->ZfE I w (.slice D g.recs.length C) (.slice X g.pcs.length U) R (.returned (.tuple #[.agg #[.int .i64 a,.slice none 0 0,.slice none 0 0],.agg #[.int .i64 a,.int .i64 kd,.slice G H lc,.bool N,.int .i64 F,.slice K E J]])) W'):=ZZ (fun hn=>aV.o (fun h=>hn (aN.o.1 h)))
 have aW:Hid (∀ W,Below M.heap.size M W->Calls prog 38 #[.pointer (some ⟨w.heap.size,0,none⟩)] W fun e w'=>e=.returned (.int .i64 (g.first+(g.recs.length:Int)))∧Below M.heap.size M w'):=ZZ (fun W hW=>by
  obtain⟨l0,l1,l2⟩:=(ad.o.below hW).lc;refine(Zoo w.heap.size 0 g.first D g.recs.length C W l0 l1 bc (by omega)).mono ?_
  rintro e w' ⟨rfl,Y⟩
  exact⟨rfl,hW.trans (Y.mono hW.size)⟩)
 obtain⟨n1,be⟩:∃ n1,n1=(g.recs.drop (a-g.first).toNat).length:=⟨_,rfl⟩;rw[<-be] at aP az;obtain⟨t,am⟩:∃ t,t=g.recs.length:=⟨_,rfl⟩;obtain⟨B,an⟩:∃ B,B=g.pcs.length:=⟨_,rfl⟩;obtain⟨d,ae⟩:∃ d,d=g.first:=⟨_,rfl⟩
 replace aI:=ZZ (fun O Q W hW aY=>aI.o n1 O Q W hW aY)
 have aX:Hid (d<=a->a<=d+(t:Int)->∀ W,Below M.heap.size M W->Calls prog 15 #[.agg #[.int .i64 a,.int .i64 kd,.slice G H lc,.bool N,.int .i64 F,.slice K E J],.slice O n1 Q] W fun e w'=>∃ q z p j y n,e=.returned (.tuple #[.agg #[.int .i64 c.1.idx,.int .i64 c.1.st.kind,.slice q z p,.bool c.1.st.shut,.int .i64 c.1.st.eng,.slice j y n],.int .i64 c.2])∧Hid (Below W.heap.size W w')∧Hid (c.2=0->∀ W',(∃ Z,Below w'.heap.size w' Z∧Zap (ZqP w W.heap.size) Z W')->(B≠0∧d<=a∧a<=d+(t:Int))->ZfE I w (.slice D t C) (.slice X B U) R (.returned (.tuple #[.agg #[.int .i64 d,.slice D t C,.slice X B U],.agg #[.int .i64 c.1.idx,.int .i64 c.1.st.kind,.slice q z p,.bool c.1.st.shut,.int .i64 c.1.st.eng,.slice j y n]])) W')):=ZZ (by
  rw[am,an,ae]
  exact fun h1 h2 W hW=>aI.o O Q W hW (aP.o h1 h2))
 rw[<-am,<-an,<-ae] at ag;rw[<-am,<-ae] at aW az bB;rw[<-am,<-an,<-ae] at ad av;rw[<-am] at bx;rw[<-an] at bz;rw[<-ae] at bc;rw[<-am,<-an,<-ae];clear aI aP aV aH aN aQ aC hR bj bq aF hs a0 bk ap a4 aO hr hp hx hi bd be am an ae;obtain⟨Bc,bb⟩:∃ Bc:Bool,Bc=decide (B≠0∧d<=a∧a<=d+(t:Int)):=⟨_,rfl⟩;have aa:=ZZ bb;clear bb
 go_enter func36,ntmps36
 go_upto_region 1 with fail
 rw[<-av];clear av
 go_cut[24] (fun v wc=>v=.bool Bc∧Hid (Below M.heap.size M wc))
 case first=>
  obtain⟨ι,bM,V,hV,aR⟩:=Zqq M.heap.size M;have HV:=ZZ hV;obtain⟨i0,aG⟩:=aR M.drew (Below.refl _ _).drew;have d0:∀ i,(V i).cell? ⟨w.heap.size,0,none⟩=some (.int .i64 d):=fun i=>(ad.o.below (HV.o i)).lc.1
  have d2:∀ i,(V i).cell? ⟨w.heap.size,2,none⟩=some (.slice X B U):=fun i=>(ad.o.below (HV.o i)).lc.2.2
  have e0:∀ i,(V i).cell? ⟨w.heap.size+1,0,none⟩=some (.int .i64 a):=fun i=>(ad.o.below (HV.o i)).sc.1
  have a3:Hid (∀ i,Calls prog 38 #[.pointer (some ⟨w.heap.size,0,none⟩)] (V i) fun e w'=>e=.returned (.int .i64 (d+(t:Int)))∧∃ m,w'=V m):=ZZ (fun i=>(aW.o (V i) (HV.o i)).mono fun e w' h=>⟨h.1,aR w' h.2⟩)
  clear hV aR;by_cases q1:B=0
  ·have bC:decide ((B:Int)>0)=false:=decide_eq_false (by omega)
   have bE:decide (0<B)=false:=decide_eq_false (by omega)
   have al:Bc=false:=by rw[aa.o];exact decide_eq_false (fun h=>h.1 q1)
   clear q1;refine ZbP V i0 (by kernel_rfl) (by kernel_rfl) aG.symm ?_
   repeat (go_big_quiet_step (fail))
   refine wpQuiet_nil ?_;intro _ af;obtain⟨nq,ak⟩:=af;subst ak
   go_wp2_with fail
   go_meet
   exact⟨by rw[al],ZZ (HV.o _)⟩
  have bC:(B:Int)>0:=by omega
  have bE:0<B:=by omega
  by_cases q2:d<=a
  case neg=>
   have aL:decide (d<=a)=false:=decide_eq_false q2;have al:Bc=false:=by rw[aa.o];exact decide_eq_false (fun h=>q2 h.2.1)
   clear q1 q2;refine ZbP V i0 (by kernel_rfl) (by kernel_rfl) aG.symm ?_
   repeat (go_big_quiet_step (fail))
   refine wpQuiet_nil ?_;intro _ af;obtain⟨nq,ak⟩:=af;subst ak
   go_wp2_with fail
   go_meet
   exact⟨by rw[al],ZZ (HV.o _)⟩
  by_cases q3:a<=d+(t:Int)
  ·have al:Bc=true:=by rw[aa.o];exact decide_eq_true ⟨q1,q2,q3⟩
   clear q1 aa;generalize d+(t:Int)=NX at *;refine ZbP V i0 (by kernel_rfl) (by kernel_rfl) aG.symm ?_
   repeat (go_big_quiet_step ((go_at_call 38;exact a3.o _)))
   refine wpQuiet_nil ?_;intro _ af;obtain⟨nq,ak⟩:=af;subst ak
   go_wp2_with fail
   go_meet
   exact⟨by rw[al],ZZ (HV.o _)⟩
  ·have aE:decide (a<=d+(t:Int))=false:=decide_eq_false q3
   have al:Bc=false:=by rw[aa.o];exact decide_eq_false (fun h=>q3 h.2.2)
   clear q1 q3 aa;generalize d+(t:Int)=NX at *;refine ZbP V i0 (by kernel_rfl) (by kernel_rfl) aG.symm ?_
   repeat (go_big_quiet_step ((go_at_call 38;exact a3.o _)))
   refine wpQuiet_nil ?_;intro _ af;obtain⟨nq,ak⟩:=af;subst ak
   go_wp2_with fail
   go_meet
   exact⟨by rw[al],ZZ (HV.o _)⟩
 case rest=>
 obtain⟨f,rfl⟩:∃ W,W=wc:=⟨_,rfl⟩;obtain⟨rfl,aA⟩:=hcut;clear aW;have A:=ZZ (ad.o.below aA.o)
 cases Bc with
 | false=>
  have bn:Hid (¬ ((B≠0∧d<=a∧a<=d+(t:Int))∧c.2=0)):=ZZ (fun h=>of_decide_eq_false aa.o.symm h.1)
  have aw:=ZZ (ag.o bn.o);clear ag bn aX;obtain⟨l0,l1,l2⟩:=A.o.lc;obtain⟨s0,s1,s2,s3,s4,s5⟩:=A.o.sc;obtain⟨o0,p0⟩:=A.o.ol.cell 0 rfl;obtain⟨o1,p1⟩:=A.o.ol.cell 1 rfl;obtain⟨o2,p2⟩:=A.o.ol.cell 2 rfl;obtain⟨u0,v0⟩:=A.o.os.cell 0 rfl;obtain⟨u1,v1⟩:=A.o.os.cell 1 rfl;obtain⟨u2,v2⟩:=A.o.os.cell 2 rfl;obtain⟨u3,v3⟩:=A.o.os.cell 3 rfl;obtain⟨u4,v4⟩:=A.o.os.cell 4 rfl;obtain⟨u5,v5⟩:=A.o.os.cell 5 rfl
  go_upto_region 5 with fail
  go_region
  obtain⟨XX,ac,ar,⟨k0,k1,k2⟩,k3,k4,k5,k6,k7,k8⟩:=ZoO w f (w.heap.size+1+1) (w.heap.size+1+1+1) rfl rfl A.o.ol A.o.os (.int .i64 a) (.slice none 0 0) (.slice none 0 0) (.int .i64 a) (.int .i64 kd) (.slice G H lc) (.bool N) (.int .i64 F) (.slice K E J);have ax:=ZZ ac;clear ac;go_wp2;rw[<-ax.o];refine bodyPost_ret (v:=.tuple #[.agg #[.int .i64 a,.slice none 0 0,.slice none 0 0],.agg #[.int .i64 a,.int .i64 kd,.slice G H lc,.bool N,.int .i64 F,.slice K E J]]) (by simp[results,Tryz.results36,go_sem,k0,k1,k2,k3,k4,k5,k6,k7,k8]) rfl ?_
  exact aw.o f _ A.o.old ar
 | true=>
  have hc:=of_decide_eq_true aa.o.symm;have bv:=ZZ hc;obtain⟨bR,bo,a6⟩:=hc;have hcut:=az.o bo a6;have ba:=ZZ (aX.o bo a6);have hw:IntKind.i64.wrap (a-d)=a-d:=by rw[IntKind.wrap_i64];omega
  have bK:-9223372036854775808<=a-d:=by omega
  have bV:a-d<=9223372036854775807:=by omega
  obtain⟨l0,l1,l2⟩:=A.o.lc;obtain⟨s0,s1,s2,s3,s4,s5⟩:=A.o.sc;clear aX az aa;have HE:Hid (∀ args w,(callFunc 15 args).run prog w=.ok (.enter 15 args) w):=ZZ (enters_of func15 (by kernel_rfl) rfl)
  have aJ:Hid (∀ W,Below f.heap.size f W->Calls prog 15 #[.agg #[.int .i64 a,.int .i64 kd,.slice G H lc,.bool N,.int .i64 F,.slice K E J],.slice O n1 Q] W fun e w'=>∃ v',e=.returned v'∧∃ q z p j y n,v'=.tuple #[.agg #[.int .i64 c.1.idx,.int .i64 c.1.st.kind,.slice q z p,.bool c.1.st.shut,.int .i64 c.1.st.eng,.slice j y n],.int .i64 c.2]∧Hid (Below W.heap.size W w')∧Hid (c.2=0->∀ W',(∃ Z,Below w'.heap.size w' Z∧Zap (ZqP w W.heap.size) Z W')->ZfE I w (.slice D t C) (.slice X B U) R (.returned (.tuple #[.agg #[.int .i64 d,.slice D t C,.slice X B U],.agg #[.int .i64 c.1.idx,.int .i64 c.1.st.kind,.slice q z p,.bool c.1.st.shut,.int .i64 c.1.st.eng,.slice j y n]])) W')):=ZZ (fun W hW=>by
   refine(ba.o W (aA.o.trans (hW.mono aA.o.size))).mono ?_;rintro e w' ⟨q,z,p,j,y,n,rfl,Y,hf⟩
   exact⟨_,rfl,q,z,p,j,y,n,rfl,Y,ZZ (fun h0 W' aS=>hf.o h0 W' aS bv.o)⟩)
  clear ba
  have ao:Hid (∀ W,Below f.heap.size f W->(W.cell? ⟨w.heap.size+1,0,none⟩=some (.int .i64 a)∧W.cell? ⟨w.heap.size+1,1,none⟩=some (.int .i64 kd)∧W.cell? ⟨w.heap.size+1,2,none⟩=some (.slice G H lc)∧W.cell? ⟨w.heap.size+1,3,none⟩=some (.bool N)∧W.cell? ⟨w.heap.size+1,4,none⟩=some (.int .i64 F)∧W.cell? ⟨w.heap.size+1,5,none⟩=some (.slice K E J)∧W.cell? ⟨w.heap.size,0,none⟩=some (.int .i64 d)∧W.cell? ⟨w.heap.size,1,none⟩=some (.slice D t C))):=ZZ (fun W h=>by
   obtain⟨g0,g1,g2⟩:=(A.o.below h).lc;obtain⟨e0,e1,e2,e3,e4,e5⟩:=(A.o.below h).sc
   exact⟨e0,e1,e2,e3,e4,e5,g0,g1⟩)
  obtain⟨T1,a9⟩:∃ T1,T1=c.1.idx:=⟨_,rfl⟩;obtain⟨T2,a2⟩:∃ T2,T2=c.1.st.kind:=⟨_,rfl⟩;obtain⟨T3,bh⟩:∃ T3,T3=c.1.st.shut:=⟨_,rfl⟩;obtain⟨T4,a5⟩:∃ T4,T4=c.1.st.eng:=⟨_,rfl⟩;obtain⟨T5,aU⟩:∃ T5,T5=c.2:=⟨_,rfl⟩;rw[<-a9,<-a2,<-bh,<-a5,<-aU] at aJ;rw[<-aU] at ag;clear a9 a2 bh a5 aU;have aD:Hid (Below f.heap.size f f.drew):=ZZ (Below.refl _ _).drew;have au:Hid (Below f.heap.size f (f.alloc (.cells #[.int .i64 0,.int .i64 0,.slice none 0 0,.bool false,.int .i64 0,.slice none 0 0] 41)).drew):=ZZ ((Below.refl _ _).alloc zL _).drew;have aZ:Hid (w.heap.size+4<=f.heap.size):=ZZ (by have:=aA.o.size;omega)
  clear l0 l1 l2 s0 s1 s2 s3 s4 s5
  go_upto_region 2 with fail
  go_cut[6,7] (fun v6 v7 wc=>∃ (b:Nat) (q:Option Addr) (z p:Nat) (j:Option Addr) (y n:Nat),v6=.pointer (some ⟨b,0,none⟩)∧v7=.int .i64 T5∧Hid (w.heap.size+4<=b)∧Hid (Bk 41 wc b #[.int .i64 T1,.int .i64 T2,.slice q z p,.bool T3,.int .i64 T4,.slice j y n])∧Hid (Below f.heap.size f wc)∧
   Hid (T5=0->∀ W',Zap (ZqP w 0) wc W'->ZfE I w (.slice D t C) (.slice X B U) R (.returned (.tuple #[.agg #[.int .i64 d,.slice D t C,.slice X B U],.agg #[.int .i64 T1,.int .i64 T2,.slice q z p,.bool T3,.int .i64 T4,.slice j y n]])) W'))
  case first=>
   go_region_held2(fun W=>W.cell? ⟨w.heap.size+1,0,none⟩=some (.int .i64 a)∧W.cell? ⟨w.heap.size+1,1,none⟩=some (.int .i64 kd)∧W.cell? ⟨w.heap.size+1,2,none⟩=some (.slice G H lc)∧W.cell? ⟨w.heap.size+1,3,none⟩=some (.bool N)∧W.cell? ⟨w.heap.size+1,4,none⟩=some (.int .i64 F)∧W.cell? ⟨w.heap.size+1,5,none⟩=some (.slice K E J)∧W.cell? ⟨w.heap.size,0,none⟩=some (.int .i64 d)∧W.cell? ⟨w.heap.size,1,none⟩=some (.slice D t C))
    (first | (with_reducible exact ao.o _ aD.o) | (with_reducible exact ao.o _ au.o) | (with_reducible exact ao.o _ ab.o) | (with_reducible exact ao.o _ (ZqQ ab.o _ zL _ _ _ _ _ _)) | (with_reducible exact ao.o _ (ab.o.alloc ab.o.size _)))
    (first
     | ((with_reducible refine Zbp 15 _ _ rfl rfl #[.agg #[.int .i64 a,.int .i64 kd,.slice G H lc,.bool N,.int .i64 F,.slice K E J],.slice O n1 Q] (by simp[Act.eval]) HE.o (aJ.o f.drew aD.o) ?_);rintro v' u ⟨q,z,p,j,y,n,rfl,aB,ai⟩;have ab:Hid (Below f.heap.size f u):=ZZ (aD.o.trans aB.o))
     | ((with_reducible refine Zbp 15 _ _ rfl rfl #[.agg #[.int .i64 a,.int .i64 kd,.slice G H lc,.bool N,.int .i64 F,.slice K E J],.slice O n1 Q] (by simp[Act.eval]) HE.o (aJ.o (f.alloc (.cells #[.int .i64 0,.int .i64 0,.slice none 0 0,.bool false,.int .i64 0,.slice none 0 0] 41)).drew au.o) ?_);rintro v' u ⟨q,z,p,j,y,n,rfl,aB,ai⟩;have ab:Hid (Below f.heap.size f u):=ZZ (au.o.trans (aB.o.mono au.o.size));have aj:Hid (Bk 41 u f.heap.size #[.int .i64 0,.int .i64 0,.slice none 0 0,.bool false,.int .i64 0,.slice none 0 0]):=ZZ (ZBm f _ u aB.o);obtain⟨z0,y0⟩:=aj.o.cell 0 rfl;obtain⟨z1,y1⟩:=aj.o.cell 1 rfl;obtain⟨z2,y2⟩:=aj.o.cell 2 rfl;obtain⟨z3,y3⟩:=aj.o.cell 3 rfl;obtain⟨z4,y4⟩:=aj.o.cell 4 rfl;obtain⟨z5,y5⟩:=aj.o.cell 5 rfl))
   all_goals
    go_wp2_with fail
    go_meet
    first
     | exact⟨_,q,z,p,j,y,n,rfl,rfl,aZ,ZZ ((((((aj.o.set 0 _).set 1 _).set 2 _).set 3 _).set 4 _).set 5 _),ZZ (ZqQ ab.o _ zL _ _ _ _ _ _),ZZ (fun h0 W' ho=>ai.o h0 W' ⟨_,Below.refl _ _,(ZBl u f.heap.size _ _ _ _ _ _ (fun k=>ZqP w (f.alloc (.cells #[.int .i64 0,.int .i64 0,.slice none 0 0,.bool false,.int .i64 0,.slice none 0 0] 41)).drew.heap.size k) (.inr ⟨aZ.o,ZCy f _⟩)).trans (ho.mono (fun k hk=>hk.more)) (fun _ _ h=>h)⟩)⟩
     | exact⟨_,q,z,p,j,y,n,rfl,rfl,ZZ (Nat.le_trans aZ.o ab.o.size),ZZ (heap_alloc_new u _),ZZ (ab.o.alloc ab.o.size _),ZZ (fun h0 W' ho=>ai.o h0 W' ⟨_,ZcW u _,ho.mono (fun k hk=>hk.more)⟩)⟩
  case rest=>
  obtain⟨b,q,z,p,j,y,n,rfl,rfl,aK,ah,bp,ai⟩:=hcut;obtain⟨WC,rfl⟩:∃ W,W=wc:=⟨_,rfl⟩;have T:=ZZ (A.o.below bp.o);clear aJ ao aD au HE hcut;obtain⟨l0,l1,l2⟩:=T.o.lc;obtain⟨s0,s1,s2,s3,s4,s5⟩:=T.o.sc;obtain⟨o0,p0⟩:=T.o.ol.cell 0 rfl;obtain⟨o1,p1⟩:=T.o.ol.cell 1 rfl;obtain⟨o2,p2⟩:=T.o.ol.cell 2 rfl;obtain⟨u0,v0⟩:=T.o.os.cell 0 rfl;obtain⟨u1,v1⟩:=T.o.os.cell 1 rfl;obtain⟨u2,v2⟩:=T.o.os.cell 2 rfl;obtain⟨u3,v3⟩:=T.o.os.cell 3 rfl;obtain⟨u4,v4⟩:=T.o.os.cell 4 rfl;obtain⟨u5,v5⟩:=T.o.os.cell 5 rfl;by_cases hT:T5=0
  case neg=>
   have bu:(T5 == 0)=false:=beq_eq_false_iff_ne.2 hT;have aw:=ZZ (ag.o (fun h=>hT h.2))
   clear ag ai ah hT
   go_upto_region 5 with fail
   go_region
   obtain⟨XX,ac,ar,⟨k0,k1,k2⟩,k3,k4,k5,k6,k7,k8⟩:=ZoO w WC (w.heap.size+1+1) (w.heap.size+1+1+1) rfl rfl T.o.ol T.o.os (.int .i64 a) (.slice none 0 0) (.slice none 0 0) (.int .i64 a) (.int .i64 kd) (.slice G H lc) (.bool N) (.int .i64 F) (.slice K E J);have ax:=ZZ ac;clear ac;go_wp2;rw[<-ax.o];refine bodyPost_ret (v:=.tuple #[.agg #[.int .i64 a,.slice none 0 0,.slice none 0 0],.agg #[.int .i64 a,.int .i64 kd,.slice G H lc,.bool N,.int .i64 F,.slice K E J]]) (by simp[results,Tryz.results36,go_sem,k0,k1,k2,k3,k4,k5,k6,k7,k8]) rfl ?_
   exact aw.o WC _ T.o.old ar
  have bu:(T5 == 0)=true:=by rw[beq_iff_eq];exact hT
  have aw:=ZZ (ai.o hT);obtain⟨x0,-⟩:=ah.o.cell 0 rfl;obtain⟨x1,-⟩:=ah.o.cell 1 rfl;obtain⟨x2,-⟩:=ah.o.cell 2 rfl;obtain⟨x3,-⟩:=ah.o.cell 3 rfl;obtain⟨x4,-⟩:=ah.o.cell 4 rfl;obtain⟨x5,-⟩:=ah.o.cell 5 rfl;have bT:¬ (b=w.heap.size+1+1):=by have:=aK.o;omega
  have bI:¬ (b=w.heap.size+1+1+1):=by have:=aK.o;omega
  have bQ:¬ (w.heap.size+1+1=b):=by have:=aK.o;omega
  have bH:¬ (w.heap.size+1+1+1=b):=by have:=aK.o;omega
  clear ag ai hT s0 s1 s2 s3 s4 s5
  go_upto_region 4 with fail
  go_region
  obtain⟨XX,ac,ar,⟨k0,k1,k2⟩,k3,k4,k5,k6,k7,k8⟩:=ZoO w WC (w.heap.size+1+1) (w.heap.size+1+1+1) rfl rfl T.o.ol T.o.os (.int .i64 d) (.slice D t C) (.slice X B U) (.int .i64 T1) (.int .i64 T2) (.slice q z p) (.bool T3) (.int .i64 T4) (.slice j y n);have ax:=ZZ ac;clear ac;go_wp2;rw[<-ax.o];refine bodyPost_ret (v:=.tuple #[.agg #[.int .i64 d,.slice D t C,.slice X B U],.agg #[.int .i64 T1,.int .i64 T2,.slice q z p,.bool T3,.int .i64 T4,.slice j y n]]) (by simp[results,Tryz.results36,go_sem,k0,k1,k2,k3,k4,k5,k6,k7,k8]) rfl ?_
  exact aw.o _ ar
end Go.Proofs.YtnahjngbneicaaaGreatDoor
