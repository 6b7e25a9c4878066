import Derived.Test.YtnahjngbneicaaaGreatDoorStoreOpenM
import Derived.Test.YtnahjngbneicaaaGreatDoorPack9
import Derived.BigRegion
namespace Go.Proofs.YtnahjngbneicaaaGreatDoor
set_option maxRecDepth 100000
open Go.RowKit
theorem Zjv.inside {w w':World} {x:ZaX × Value × Value} {I:Nat->Prop} {l:List Rec} {r:ZaX × Int} {vx vu:Value} (hx:SnR w x) (hi:ZmJ I x) (r1:RdI w' vx r.1.st.L) (g1:vx=x.2.1∨∀ b,vx.ownBlock=some b->w.heap.size<=b)
 (g2:(l=[]∧vu=x.2.2)∨Zbh w' w.heap.size vu r.1.tab) (hl:l=[]->r.1=x.1):ZmJ (fun k=>I k∨(w.heap.size<=k∧k<w'.heap.size)) (r.1,vx,vu):=by
 refine⟨?_,?_⟩
 ·rcases r1.block with hb0 | ⟨hne,k,hk,hlt⟩
  ·exact .inl hb0
  ·rcases g1 with g1 | g1
   ·rcases hi.1 with hi | hi
    ·obtain⟨a2,c2,h9,-⟩:=hx.l
     obtain⟨a3,c3,h8,-⟩:=r1
     rw[hi] at h9
     rw[g1,h9] at h8
     injection h8 with _ h8 _
     exact .inl (List.eq_nil_of_length_eq_zero (by rw[<-h8];rfl))
    ·exact .inr fun g hg=>.inl (hi g (by rw[<-g1];exact hg))
   ·refine .inr fun g hg=>.inr ⟨g1 g hg,?_⟩
    have hg':vx.ownBlock=some g:=hg
    rw[hg'] at hk
    obtain rfl:=Option.some.inj hk
    exact hlt
 ·rcases g2 with ⟨hl0,g2⟩ | g2
  ·rcases hi.2 with hi | hi
   ·exact .inl (by show r.1.tab=[];rw[hl hl0];exact hi)
   ·exact .inr fun g hg=>.inl (hi g (by rw[<-g2];exact hg))
  ·exact .inr fun g hg=>.inr (World.ownsRow.lt g2 g hg)
theorem ZyQ (w:World) (X Y Z:Obj):(((w.alloc X).alloc Y).alloc Z).heap[w.heap.size+2]?=some Z:=by
 have h:=heap_alloc_new ((w.alloc X).alloc Y) Z
 have e:((w.alloc X).alloc Y).heap.size=w.heap.size+2:=by simp
 rw[e] at h
 exact h
theorem ZyR (w:World) (X Y Z U:Obj):((((w.alloc X).alloc Y).alloc Z).alloc U).heap[w.heap.size+3]?=some U:=by
 have h:=heap_alloc_new (((w.alloc X).alloc Y).alloc Z) U
 have e:(((w.alloc X).alloc Y).alloc Z).heap.size=w.heap.size+3:=by simp
 rw[e] at h
 exact h
def ZeI (I:Nat->Prop) (w:World) (rv pv:Value) (r:Lgb × ZaX) (e:Ending) (w':World):Prop:=
 ∃ rv' pv' vl vt,e=.returned (.tuple #[.agg #[.int .i64 r.1.first,rv',pv'],snV (r.2,vl,vt)])∧Zbp w' 0 rv' r.1.recs∧w'.ownsRow 0 108 3 pv' r.1.pcs.length (ZaB r.1.pcs)∧(rv'=rv∨rv'=.slice none 0 0)∧(pv'=pv∨pv'=.slice none 0 0)∧
  SnR w' (r.2,vl,vt)∧ZmJ (fun k=>I k∨(w.heap.size<=k∧k<w'.heap.size)) (r.2,vl,vt)∧Below w.heap.size w w'
structure Zxh (w:World) (f:Int) (rv pv:Value) (x0 x1 x2 x3 x4 x5:Value) (W:World):Prop where
 lg:Bk 73 W w.heap.size #[.int .i64 f,rv,pv]
 sn:Bk 41 W (w.heap.size+1) #[x0,x1,x2,x3,x4,x5]
 ol:Bk 73 W (w.heap.size+2) #[.int .i64 0,.slice none 0 0,.slice none 0 0]
 os:Bk 41 W (w.heap.size+3) #[.int .i64 0,.int .i64 0,.slice none 0 0,.bool false,.int .i64 0,.slice none 0 0]
 old:Below w.heap.size w W
theorem Zxh.below {w W W':World} {f:Int} {rv pv x0 x1 x2 x3 x4 x5:Value} (h:Zxh w f rv pv x0 x1 x2 x3 x4 x5 W) (hb:Below W.heap.size W W'):Zxh w f rv pv x0 x1 x2 x3 x4 x5 W':=
 ⟨h.lg.keep (hb.block _ h.lg.lt),h.sn.keep (hb.block _ h.sn.lt),h.ol.keep (hb.block _ h.ol.lt),h.os.keep (hb.block _ h.os.lt),h.old.trans (hb.mono h.old.size)⟩
theorem Zxh.lc {w W:World} {f:Int} {rv pv x0 x1 x2 x3 x4 x5:Value} (h:Zxh w f rv pv x0 x1 x2 x3 x4 x5 W):W.cell? ⟨w.heap.size,0,none⟩=some (.int .i64 f)∧W.cell? ⟨w.heap.size,1,none⟩=some rv∧W.cell? ⟨w.heap.size,2,none⟩=some pv:=
 ⟨(h.lg.cell 0 rfl).1,(h.lg.cell 1 rfl).1,(h.lg.cell 2 rfl).1⟩
theorem Zxh.sc {w W:World} {f:Int} {rv pv x0 x1 x2 x3 x4 x5:Value} (h:Zxh w f rv pv x0 x1 x2 x3 x4 x5 W):
 W.cell? ⟨w.heap.size+1,0,none⟩=some x0∧W.cell? ⟨w.heap.size+1,1,none⟩=some x1∧W.cell? ⟨w.heap.size+1,2,none⟩=some x2∧W.cell? ⟨w.heap.size+1,3,none⟩=some x3∧W.cell? ⟨w.heap.size+1,4,none⟩=some x4∧W.cell? ⟨w.heap.size+1,5,none⟩=some x5:=
 ⟨(h.sn.cell 0 rfl).1,(h.sn.cell 1 rfl).1,(h.sn.cell 2 rfl).1,(h.sn.cell 3 rfl).1,(h.sn.cell 4 rfl).1,(h.sn.cell 5 rfl).1⟩
def Zoz (w:World) (C:Nat) (k:Nat):Prop:=(k=w.heap.size+2∨k=w.heap.size+3)∨(w.heap.size+4<=k∧k<C)
theorem Zoz.more {w:World} {C k:Nat} (h:Zoz w 0 k):Zoz w C k:=by
 rcases h with h | h
 ·exact .inl h
 ·omega
theorem ZwM (w W:World) (b4 b5:Nat) (e4:b4=w.heap.size+2) (e5:b5=w.heap.size+3) (a0 a1 a2 c0 c1 c2 c3 c4 c5:Value):ZaE (Zoz w 0) W (((((((((W.setCell ⟨b4,0,none⟩ a0).setCell ⟨b4,1,none⟩ a1).setCell ⟨b4,2,none⟩ a2).setCell ⟨b5,0,none⟩ c0).setCell ⟨b5,1,none⟩ c1).setCell ⟨b5,2,none⟩ c2).setCell ⟨b5,3,none⟩ c3).setCell ⟨b5,4,none⟩ c4).setCell ⟨b5,5,none⟩ c5):=by
 have h4:Zoz w 0 b4:=.inl (.inl e4)
 have h5:Zoz w 0 b5:=.inl (.inr e5)
 exact(((((((((ZaE.refl _ _).setCell _ (fun _=>h4) _).setCell _ (fun _=>h4) _).setCell _ (fun _=>h4) _).setCell _ (fun _=>h5) _).setCell _ (fun _=>h5) _).setCell _ (fun _=>h5) _).setCell _ (fun _=>h5) _).setCell _ (fun _=>h5) _).setCell _ (fun _=>h5) _
theorem ZmF (w W:World) (b4 b5:Nat) (e4:b4=w.heap.size+2) (e5:b5=w.heap.size+3) {x0 x1 x2 y0 y1 y2 y3 y4 y5:Value} (hl:Bk 73 W b4 #[x0,x1,x2]) (hs:Bk 41 W b5 #[y0,y1,y2,y3,y4,y5]) (a0 a1 a2 c0 c1 c2 c3 c4 c5:Value):
 ∃ XX,XX=(((((((((W.setCell ⟨b4,0,none⟩ a0).setCell ⟨b4,1,none⟩ a1).setCell ⟨b4,2,none⟩ a2).setCell ⟨b5,0,none⟩ c0).setCell ⟨b5,1,none⟩ c1).setCell ⟨b5,2,none⟩ c2).setCell ⟨b5,3,none⟩ c3).setCell ⟨b5,4,none⟩ c4).setCell ⟨b5,5,none⟩ c5).drew∧ZaE (Zoz w 0) W XX∧(XX.cell? ⟨b4,0,none⟩=some a0∧XX.cell? ⟨b4,1,none⟩=some a1∧XX.cell? ⟨b4,2,none⟩=some a2)∧(XX.cell? ⟨b5,0,none⟩=some c0∧XX.cell? ⟨b5,1,none⟩=some c1∧XX.cell? ⟨b5,2,none⟩=some c2∧XX.cell? ⟨b5,3,none⟩=some c3∧XX.cell? ⟨b5,4,none⟩=some c4∧XX.cell? ⟨b5,5,none⟩=some c5):=by
 have hne:b4≠b5:=by omega
 have h1:Bk 73 (((((((((W.setCell ⟨b4,0,none⟩ a0).setCell ⟨b4,1,none⟩ a1).setCell ⟨b4,2,none⟩ a2).setCell ⟨b5,0,none⟩ c0).setCell ⟨b5,1,none⟩ c1).setCell ⟨b5,2,none⟩ c2).setCell ⟨b5,3,none⟩ c3).setCell ⟨b5,4,none⟩ c4).setCell ⟨b5,5,none⟩ c5) b4 #[a0,a1,a2]:=((((((((hl.set 0 a0).set 1 a1).set 2 a2).other b5 0 c0 hne).other b5 1 c1 hne).other b5 2 c2 hne).other b5 3 c3 hne).other b5 4 c4 hne).other b5 5 c5 hne
 have h2:Bk 41 (((((((((W.setCell ⟨b4,0,none⟩ a0).setCell ⟨b4,1,none⟩ a1).setCell ⟨b4,2,none⟩ a2).setCell ⟨b5,0,none⟩ c0).setCell ⟨b5,1,none⟩ c1).setCell ⟨b5,2,none⟩ c2).setCell ⟨b5,3,none⟩ c3).setCell ⟨b5,4,none⟩ c4).setCell ⟨b5,5,none⟩ c5) b5 #[c0,c1,c2,c3,c4,c5]:=(((((((((hs.other b4 0 a0 hne.symm).other b4 1 a1 hne.symm).other b4 2 a2 hne.symm).set 0 c0).set 1 c1).set 2 c2).set 3 c3).set 4 c4).set 5 c5)
 have ho:=ZwM w W b4 b5 e4 e5 a0 a1 a2 c0 c1 c2 c3 c4 c5
 revert h1 h2 ho
 generalize (((((((((W.setCell ⟨b4,0,none⟩ a0).setCell ⟨b4,1,none⟩ a1).setCell ⟨b4,2,none⟩ a2).setCell ⟨b5,0,none⟩ c0).setCell ⟨b5,1,none⟩ c1).setCell ⟨b5,2,none⟩ c2).setCell ⟨b5,3,none⟩ c3).setCell ⟨b5,4,none⟩ c4).setCell ⟨b5,5,none⟩ c5)=Y
 intro h1 h2 ho
 have h3:Bk 73 Y.drew b4 #[a0,a1,a2]:=h1
 have h4:Bk 41 Y.drew b5 #[c0,c1,c2,c3,c4,c5]:=h2
 exact⟨Y.drew,rfl,⟨ho.os,ho.tape,ho.output,ho.size,ho.block⟩,⟨(h3.cell 0 rfl).1,(h3.cell 1 rfl).1,(h3.cell 2 rfl).1⟩,(h4.cell 0 rfl).1,(h4.cell 1 rfl).1,(h4.cell 2 rfl).1,(h4.cell 3 rfl).1,(h4.cell 4 rfl).1,(h4.cell 5 rfl).1⟩
theorem Zlx {w W W':World} {C:Nat} (hb:Below w.heap.size w W) (hs:w.heap.size<=W.heap.size) (ho:ZaE (Zoz w C) W W'):Below w.heap.size w W':=
 hb.trans (ho.below hs fun k hk=>by
  rcases hk with hk | hk
  ·omega
  ·omega)
theorem Zye (W:World) (R:Nat) (x0 x1 x2 x3 x4 x5:Value) (G:Nat->Prop) (hR:G R):ZaE G W ((((((W.setCell ⟨R,0,none⟩ x0).setCell ⟨R,1,none⟩ x1).setCell ⟨R,2,none⟩ x2).setCell ⟨R,3,none⟩ x3).setCell ⟨R,4,none⟩ x4).setCell ⟨R,5,none⟩ x5):=
 ((((((ZaE.refl G W).setCell 0 (fun _=>hR) x0).setCell 1 (fun _=>hR) x1).setCell 2 (fun _=>hR) x2).setCell 3 (fun _=>hR) x3).setCell 4 (fun _=>hR) x4).setCell 5 (fun _=>hR) x5
theorem Zzo (W1:World) (X:Obj):W1.heap.size<(W1.alloc X).drew.heap.size:=by
 have:(W1.alloc X).drew.heap.size=W1.heap.size+1:=by simp[World.drew]
 omega
theorem Zyf (W1:World) (cs:Array Value) (W2:World) (hb:Below (W1.alloc (.cells cs 41)).drew.heap.size (W1.alloc (.cells cs 41)).drew W2):Bk 41 W2 W1.heap.size cs:=by
 have h0:Bk 41 (W1.alloc (.cells cs 41)).drew W1.heap.size cs:=heap_alloc_new W1 _
 exact h0.keep (hb.block _ h0.lt)
theorem ZoA {B:Nat} {a W:World} (h:Below B a W) (R:Nat) (hR:B<=R) (x0 x1 x2 x3 x4 x5:Value):Below B a ((((((W.setCell ⟨R,0,none⟩ x0).setCell ⟨R,1,none⟩ x1).setCell ⟨R,2,none⟩ x2).setCell ⟨R,3,none⟩ x3).setCell ⟨R,4,none⟩ x4).setCell ⟨R,5,none⟩ x5):=
 (((((h.setCell (p:=⟨R,0,none⟩) hR x0).setCell (p:=⟨R,1,none⟩) hR x1).setCell (p:=⟨R,2,none⟩) hR x2).setCell (p:=⟨R,3,none⟩) hR x3).setCell (p:=⟨R,4,none⟩) hR x4).setCell (p:=⟨R,5,none⟩) hR x5
set_option maxHeartbeats 4000000 in
theorem ZsT (I:Nat->Prop) (g:Lgb) (rv pv:Value) (x:ZaX × Value × Value) (w:World) (hr:Zbp w 0 rv g.recs) (hp:w.ownsRow 0 108 3 pv g.pcs.length (ZaB g.pcs)) (hx:SnR w x) (hi:ZmJ I x) (hltI:∀ k,I k->k<w.heap.size) (hok:OkG g) (hs:SnS x.1) (hlim:g.recs.length<=9000000) (hpl:g.pcs.length<=900000):
 Calls Tryz.prog 36 #[.agg #[.int .i64 g.first,rv,pv],snV x] w fun e w'=>ZeI I w rv pv (g.behind x.1) e w':=by
 obtain⟨ra,rc,hrv⟩:=hr.shape
 obtain⟨pa,pc,hpv⟩:=Zeb hp
 obtain⟨la,ln,lc,ta,tn,tc,hvl,hvt⟩:=hx.shape
 have HSX:Hid (snV x=.agg #[.int .i64 x.1.idx,.int .i64 x.1.st.kind,.slice la ln lc,.bool x.1.st.shut,.int .i64 x.1.st.eng,.slice ta tn tc]):=ZZ (by unfold snV snC;rw[hvl,hvt])
 have hf0:=hok.f0
 have hft:=hok.top
 have HRD:=ZZ (hr.rd hok.recOk)
 have HNEG:Hid (¬ g.leads x.1->∀ W W',Below w.heap.size w W->ZaE (Zoz w 0) W W'->ZeI I w rv pv (g.behind x.1) (.returned (.tuple #[.agg #[.int .i64 x.1.idx,.slice none 0 0,.slice none 0 0],.agg #[.int .i64 x.1.idx,.int .i64 x.1.st.kind,.slice la ln lc,.bool x.1.st.shut,.int .i64 x.1.st.eng,.slice ta tn tc]])) W'):=ZZ (fun hn W W' hb ho=>by
  have hb':=Zlx hb hb.size ho
  unfold Lgb.behind
  rw[if_neg hn]
  refine⟨_,_,x.2.1,x.2.2,by rw[<-HSX.out],Zbp.nil _ _,World.ownsRow_nil _ _ _ _,.inr rfl,.inr rfl,hx.below hb' zL,hi.mono (fun k hk=>.inl hk),hb'⟩)
 have HPOS:Hid (g.leads x.1->∀ (W W2 W':World) (vx vu:Value),Below w.heap.size w W->w.heap.size+4<=W.heap.size->RdI W2 vx (ZaG x.1 (g.recs.drop (x.1.idx-g.first).toNat)).1.st.L->RdE W2 vu (ZaG x.1 (g.recs.drop (x.1.idx-g.first).toNat)).1.tab->I64 (ZaG x.1 (g.recs.drop (x.1.idx-g.first).toNat)).1.st.kind->I64 (ZaG x.1 (g.recs.drop (x.1.idx-g.first).toNat)).1.st.eng->I64 (ZaG x.1 (g.recs.drop (x.1.idx-g.first).toNat)).1.idx->
  ZmJ (fun k=>I k∨(W.heap.size<=k∧k<W2.heap.size)) ((ZaG x.1 (g.recs.drop (x.1.idx-g.first).toNat)).1,vx,vu)->Below W.heap.size W W2->(∃ W3,Below W2.heap.size W2 W3∧ZaE (Zoz w W.heap.size) W3 W')->
  ZeI I w rv pv (g.behind x.1) (.returned (.tuple #[.agg #[.int .i64 g.first,rv,pv],.agg #[.int .i64 (ZaG x.1 (g.recs.drop (x.1.idx-g.first).toNat)).1.idx,.int .i64 (ZaG x.1 (g.recs.drop (x.1.idx-g.first).toNat)).1.st.kind,vx,.bool (ZaG x.1 (g.recs.drop (x.1.idx-g.first).toNat)).1.st.shut,.int .i64 (ZaG x.1 (g.recs.drop (x.1.idx-g.first).toNat)).1.st.eng,vu]])) W'):=ZZ (fun hn W W2 W' vx vu hb hsz k1 k2 k3 k4 k5 k6 hb2 ⟨W3,hb3,ho⟩=>by
  have hbW2:Below w.heap.size w W2:=hb.trans (hb2.mono hb.size)
  have hbW3:Below w.heap.size w W3:=hbW2.trans (hb3.mono hbW2.size)
  have hb':=Zlx hbW3 hbW3.size ho
  have hs2:=hb2.size
  have hs3:=hb3.size
  have hs4:=ho.size
  have hkeep:∀ k,(I k∨(W.heap.size<=k∧k<W2.heap.size))->W'.heap[k]?=W2.heap[k]?:=fun k hk=>by
   have hk2:k<W2.heap.size∧¬ Zoz w W.heap.size k:=by
    rcases hk with hk | hk
    ·have:=hltI k hk
     refine⟨by have:=hbW2.size;omega,fun h=>?_⟩
     rcases h with h | h <;> omega
    ·refine⟨hk.2,fun h=>?_⟩
     rcases h with h | h <;> omega
   rw[ho.block k (by omega) hk2.2,hb3.block k hk2.1]
  have hS:SnR W2 ((ZaG x.1 (g.recs.drop (x.1.idx-g.first).toNat)).1,vx,vu):=⟨k1,k2,k3,k4,k5⟩
  unfold Lgb.behind
  rw[if_pos hn]
  exact⟨rv,pv,vx,vu,rfl,hr.below hb' zL,Zah hp (fun k hk=>hb'.block k (World.ownsRow.lt hp k hk).2),.inl rfl,.inl rfl,hS.keep k6 hkeep,k6.mono (fun k hk=>hk.imp id (fun h=>⟨by have:=hb.size;omega,by omega⟩)),hb'⟩)
 have HIN:=ZZ (And.intro hx (And.intro hi hs))
 obtain⟨W0,hW0⟩:∃ W0,W0=(((w.alloc (.cells #[.int .i64 g.first,.slice ra g.recs.length rc,.slice pa g.pcs.length pc] 73)).alloc (.cells #[.int .i64 x.1.idx,.int .i64 x.1.st.kind,.slice la ln lc,.bool x.1.st.shut,.int .i64 x.1.st.eng,.slice ta tn tc] 41)).alloc (.cells #[.int .i64 0,.slice none 0 0,.slice none 0 0] 73)).alloc (.cells #[.int .i64 0,.int .i64 0,.slice none 0 0,.bool false,.int .i64 0,.slice none 0 0] 41):=⟨_,rfl⟩
 have hsz0:W0.heap.size=w.heap.size+4:=by rw[hW0];simp
 have HBI:Hid (Zxh w g.first (.slice ra g.recs.length rc) (.slice pa g.pcs.length pc) (.int .i64 x.1.idx) (.int .i64 x.1.st.kind) (.slice la ln lc) (.bool x.1.st.shut) (.int .i64 x.1.st.eng) (.slice ta tn tc) W0):=ZZ (by
  rw[hW0]
  refine⟨?_,?_,?_,?_,(((Below.refl _ _).alloc zL _).alloc (by simp) _).alloc (by simp;omega) _ |>.alloc (by simp;omega) _⟩
  ·exact(Below.heap_alloc _ _ _ (by simp;omega)).trans ((Below.heap_alloc _ _ _ (by simp;omega)).trans ((Below.heap_alloc _ _ _ (by simp)).trans (heap_alloc_new w _)))
  ·exact(Below.heap_alloc _ _ _ (by simp)).trans ((Below.heap_alloc _ _ _ (by simp)).trans (Zhs w _ _))
  ·exact(Below.heap_alloc _ _ _ (by simp)).trans (ZyQ w _ _ _)
  ·exact ZyR w _ _ _ _)
 obtain⟨⟨ix,⟨kd,LL,sh,eg⟩,tb⟩,vl0,vt0⟩:=x
 dsimp only at *
 subst hvl hvt
 obtain⟨TT,hTT⟩:∃ TT,TT=ZaG ⟨ix,⟨kd,LL,sh,eg⟩,tb⟩ (g.recs.drop (ix-g.first).toNat):=⟨_,rfl⟩
 rw[<-hTT] at HPOS
 have HTT:=ZZ hTT
 have HLD:Hid (g.leads ⟨ix,⟨kd,LL,sh,eg⟩,tb⟩↔(g.pcs.length≠0∧g.first<=ix∧ix<=g.first+(g.recs.length:Int))∧TT.2=0):=ZZ (by
  unfold Lgb.leads
  rw[hTT,and_assoc,and_assoc]
  exact Iff.rfl)
 rw[HSX.out]
 subst hrv hpv
 obtain⟨R,hR⟩:∃ R,R=g.behind ⟨ix,⟨kd,LL,sh,eg⟩,tb⟩:=⟨_,rfl⟩
 rw[<-hR] at HNEG HPOS ⊢
 have HREC:=ZZ (And.intro hlim hr)
 have hri:(g.recs.length:Int)<=9000000:=by omega
 have hpi:(g.pcs.length:Int)<=900000:=by omega
 have hgt:g.first+(g.recs.length:Int)<=4611686018427387904:=hft
 have HTK:Hid (∀ (n1:Nat) (a1:Option Addr) (c1:Nat) (W:World),Below W0.heap.size W0 W->RdR w (.slice a1 n1 c1) (g.recs.drop (ix-g.first).toNat)->Calls Tryz.prog 15 #[.agg #[.int .i64 ix,.int .i64 kd,.slice la ln lc,.bool sh,.int .i64 eg,.slice ta tn tc],.slice a1 n1 c1] W fun e w'=>∃ xa xn xc ua un uc,e=.returned (.tuple #[.agg #[.int .i64 TT.1.idx,.int .i64 TT.1.st.kind,.slice xa xn xc,.bool TT.1.st.shut,.int .i64 TT.1.st.eng,.slice ua un uc],.int .i64 TT.2])∧Hid (Below W.heap.size W w')∧Hid (TT.2=0->∀ W',(∃ W3,Below w'.heap.size w' W3∧ZaE (Zoz w W.heap.size) W3 W')->(g.pcs.length≠0∧g.first<=ix∧ix<=g.first+(g.recs.length:Int))->ZeI I w (.slice ra g.recs.length rc) (.slice pa g.pcs.length pc) R (.returned (.tuple #[.agg #[.int .i64 g.first,.slice ra g.recs.length rc,.slice pa g.pcs.length pc],.agg #[.int .i64 TT.1.idx,.int .i64 TT.1.st.kind,.slice xa xn xc,.bool TT.1.st.shut,.int .i64 TT.1.st.eng,.slice ua un uc]])) W')):=ZZ (fun n1 a1 c1 W hW hrd=>by
  have hbw:Below w.heap.size w W:=HBI.out.old.trans (hW.mono HBI.out.old.size)
  have hsW:=hW.size
  have hxW:=HIN.out.1.below hbw zL
  have hsv:=hxW.snV
  have hL:LL.length<=1000:=by have:=ZpB HIN.out.2.2.1;exact Nat.le_trans this (by decide)
  have hT:tb.length<=1000:=by have:=HIN.out.2.2.2.few;exact Nat.le_trans this (by decide)
  refine(ZnD (P:=SnS) (fun S r hS hf=>hS.next hf) (fun S hS=>by have:=hS.2.few;omega) _ _ _ _ _ _ ⟨ix,⟨kd,LL,sh,eg⟩,tb⟩ _ _ W hsv (hrd.below hbw zL) hL hT (by rw[List.length_drop];have:=HREC.out.1;omega) HIN.out.2.2).mono ?_
  rw[<-HTT.out]
  rintro e w' ⟨vx,vu,rfl,r1,r2,r3,r4,r5,g1,g2,hb⟩
  have hin:=Zjv.inside (x:=(⟨ix,⟨kd,LL,sh,eg⟩,tb⟩,.slice la ln lc,.slice ta tn tc)) (l:=g.recs.drop (ix-g.first).toNat) hxW HIN.out.2.1 r1 g1 g2 (fun hl=>by rw[HTT.out,hl];rfl)
  obtain⟨xa,xc,hx',-⟩:=id r1
  obtain⟨ua,uc,hu⟩:=r4.shape
  have HP:=fun h0 hc=>HPOS.out (HLD.out.2 ⟨hc,h0⟩) W w'
  subst hx' hu
  exact⟨xa,_,xc,ua,_,uc,rfl,ZZ hb,ZZ (fun h0 W' hW' hc=>HP h0 hc W' _ _ hbw (by omega) r1 r4 r2 r3 r5 hin hb hW')⟩)
 obtain⟨a1,c1,hcr,hcut1⟩:∃ a1 c1,(g.first<=ix->ix<=g.first+(g.recs.length:Int)->RdR w (.slice a1 (g.recs.drop (ix-g.first).toNat).length c1) (g.recs.drop (ix-g.first).toNat))∧(g.first<=ix->ix<=g.first+(g.recs.length:Int)->∀ W,(Instr.sliceAt 29 (.slice ra g.recs.length rc) (some (.int .i64 (ix-g.first))) none none).run Tryz.prog W=.ok (.slice a1 (g.recs.drop (ix-g.first).toNat).length c1) W):=by
  by_cases hin:g.first<=ix∧ix<=g.first+(g.recs.length:Int)
  ·obtain⟨a1,c1,h1,h2⟩:=ZxM w ra g.recs rc HRD.out (ix-g.first).toNat (by omega)
   exact⟨a1,c1,fun _ _=>h1,fun _ _=>h2 _ (by omega)⟩
  ·exact⟨none,0,fun h1 h2=>absurd ⟨h1,h2⟩ hin,fun h1 h2=>absurd ⟨h1,h2⟩ hin⟩
 have HCR:=ZZ hcr
 have HCUT:=ZZ hcut1
 clear hcr hcut1
 have HNEG2:Hid (¬ ((g.pcs.length≠0∧g.first<=ix∧ix<=g.first+(g.recs.length:Int))∧TT.2=0)->∀ W W',Below w.heap.size w W->ZaE (Zoz w 0) W W'->ZeI I w (.slice ra g.recs.length rc) (.slice pa g.pcs.length pc) R (.returned (.tuple #[.agg #[.int .i64 ix,.slice none 0 0,.slice none 0 0],.agg #[.int .i64 ix,.int .i64 kd,.slice la ln lc,.bool sh,.int .i64 eg,.slice ta tn tc]])) W'):=ZZ (fun hn=>HNEG.out (fun h=>hn (HLD.out.1 h)))
 have HNX:Hid (∀ W,Below W0.heap.size W0 W->Calls Tryz.prog 38 #[.pointer (some ⟨w.heap.size,0,none⟩)] W fun e w'=>e=.returned (.int .i64 (g.first+(g.recs.length:Int)))∧Below W0.heap.size W0 w'):=ZZ (fun W hW=>by
  obtain⟨l0,l1,l2⟩:=(HBI.out.below hW).lc
  refine(Zmj w.heap.size 0 g.first ra g.recs.length rc W l0 l1 hf0 (by omega)).mono ?_
  rintro e w' ⟨rfl,hb⟩
  exact⟨rfl,hW.trans (hb.mono hW.size)⟩)
 obtain⟨n1,hn1⟩:∃ n1,n1=(g.recs.drop (ix-g.first).toNat).length:=⟨_,rfl⟩
 rw[<-hn1] at HCR HCUT
 obtain⟨RL,hRL⟩:∃ RL,RL=g.recs.length:=⟨_,rfl⟩
 obtain⟨PL,hPL⟩:∃ PL,PL=g.pcs.length:=⟨_,rfl⟩
 obtain⟨gf,hgf⟩:∃ gf,gf=g.first:=⟨_,rfl⟩
 replace HTK:=ZZ (fun a1 c1 W hW hrd=>HTK.out n1 a1 c1 W hW hrd)
 have HTC:Hid (gf<=ix->ix<=gf+(RL:Int)->∀ W,Below W0.heap.size W0 W->Calls Tryz.prog 15 #[.agg #[.int .i64 ix,.int .i64 kd,.slice la ln lc,.bool sh,.int .i64 eg,.slice ta tn tc],.slice a1 n1 c1] W fun e w'=>∃ xa xn xc ua un uc,e=.returned (.tuple #[.agg #[.int .i64 TT.1.idx,.int .i64 TT.1.st.kind,.slice xa xn xc,.bool TT.1.st.shut,.int .i64 TT.1.st.eng,.slice ua un uc],.int .i64 TT.2])∧Hid (Below W.heap.size W w')∧Hid (TT.2=0->∀ W',(∃ W3,Below w'.heap.size w' W3∧ZaE (Zoz w W.heap.size) W3 W')->(PL≠0∧gf<=ix∧ix<=gf+(RL:Int))->ZeI I w (.slice ra RL rc) (.slice pa PL pc) R (.returned (.tuple #[.agg #[.int .i64 gf,.slice ra RL rc,.slice pa PL pc],.agg #[.int .i64 TT.1.idx,.int .i64 TT.1.st.kind,.slice xa xn xc,.bool TT.1.st.shut,.int .i64 TT.1.st.eng,.slice ua un uc]])) W')):=ZZ (by
  rw[hRL,hPL,hgf]
  exact fun h1 h2 W hW=>HTK.out a1 c1 W hW (HCR.out h1 h2))
 rw[<-hRL,<-hPL,<-hgf] at HNEG2
 rw[<-hRL,<-hgf] at HNX HCUT hgt
 rw[<-hRL,<-hPL,<-hgf] at HBI hW0
 rw[<-hRL] at hri
 rw[<-hPL] at hpi
 rw[<-hgf] at hf0
 rw[<-hRL,<-hPL,<-hgf]
 clear HTK HCR HNEG HPOS HLD HTT hTT hR hlim hpl hok hs hft HRD HIN HREC HSX hr hp hx hi hltI hn1 hRL hPL hgf
 obtain⟨Bc,hBc⟩:∃ Bc:Bool,Bc=decide (PL≠0∧gf<=ix∧ix<=gf+(RL:Int)):=⟨_,rfl⟩
 have HBc:=ZZ hBc
 clear hBc
 go_enter Tryz.func36,Tryz.ntmps36
 go_upto_region 1 with fail
 rw[<-hW0]
 clear hW0
 go_cut[24] (fun v wc=>v=.bool Bc∧Hid (Below W0.heap.size W0 wc))
 case first=>
  obtain⟨ι,hne,V,hV,hmem⟩:=Zod W0.heap.size W0
  have HV:=ZZ hV
  obtain⟨i0,hi0⟩:=hmem W0.drew (Below.refl _ _).drew
  have d0:∀ i,(V i).cell? ⟨w.heap.size,0,none⟩=some (.int .i64 gf):=fun i=>(HBI.out.below (HV.out i)).lc.1
  have d2:∀ i,(V i).cell? ⟨w.heap.size,2,none⟩=some (.slice pa PL pc):=fun i=>(HBI.out.below (HV.out i)).lc.2.2
  have e0:∀ i,(V i).cell? ⟨w.heap.size+1,0,none⟩=some (.int .i64 ix):=fun i=>(HBI.out.below (HV.out i)).sc.1
  have HNV:Hid (∀ i,Calls Tryz.prog 38 #[.pointer (some ⟨w.heap.size,0,none⟩)] (V i) fun e w'=>e=.returned (.int .i64 (gf+(RL:Int)))∧∃ m,w'=V m):=ZZ (fun i=>(HNX.out (V i) (HV.out i)).mono fun e w' h=>⟨h.1,hmem w' h.2⟩)
  clear hV hmem
  by_cases q1:PL=0
  ·have hb1:decide ((PL:Int)>0)=false:=decide_eq_false (by omega)
   have hb1n:decide (0<PL)=false:=decide_eq_false (by omega)
   have hBv:Bc=false:=by rw[HBc.out];exact decide_eq_false (fun h=>h.1 q1)
   clear q1
   refine ZbA V i0 (by kernel_rfl) (by kernel_rfl) hi0.symm ?_
   repeat (go_big_quiet_step (fail))
   refine wpQuiet_nil ?_
   intro _ hw'
   obtain⟨nq,hw''⟩:=hw'
   subst hw''
   go_wp2_with fail
   go_meet
   exact⟨by rw[hBv],ZZ (HV.out _)⟩
  have hb1:(PL:Int)>0:=by omega
  have hb1n:0<PL:=by omega
  by_cases q2:gf<=ix
  case neg=>
   have hb2:decide (gf<=ix)=false:=decide_eq_false q2
   have hBv:Bc=false:=by rw[HBc.out];exact decide_eq_false (fun h=>q2 h.2.1)
   clear q1 q2
   refine ZbA V i0 (by kernel_rfl) (by kernel_rfl) hi0.symm ?_
   repeat (go_big_quiet_step (fail))
   refine wpQuiet_nil ?_
   intro _ hw'
   obtain⟨nq,hw''⟩:=hw'
   subst hw''
   go_wp2_with fail
   go_meet
   exact⟨by rw[hBv],ZZ (HV.out _)⟩
  by_cases q3:ix<=gf+(RL:Int)
  ·have hBv:Bc=true:=by rw[HBc.out];exact decide_eq_true ⟨q1,q2,q3⟩
   clear q1 HBc
   generalize gf+(RL:Int)=NX at *
   refine ZbA V i0 (by kernel_rfl) (by kernel_rfl) hi0.symm ?_
   repeat (go_big_quiet_step ((go_at_call 38;exact HNV.out _)))
   refine wpQuiet_nil ?_
   intro _ hw'
   obtain⟨nq,hw''⟩:=hw'
   subst hw''
   go_wp2_with fail
   go_meet
   exact⟨by rw[hBv],ZZ (HV.out _)⟩
  ·have hb3:decide (ix<=gf+(RL:Int))=false:=decide_eq_false q3
   have hBv:Bc=false:=by rw[HBc.out];exact decide_eq_false (fun h=>q3 h.2.2)
   clear q1 q3 HBc
   generalize gf+(RL:Int)=NX at *
   refine ZbA V i0 (by kernel_rfl) (by kernel_rfl) hi0.symm ?_
   repeat (go_big_quiet_step ((go_at_call 38;exact HNV.out _)))
   refine wpQuiet_nil ?_
   intro _ hw'
   obtain⟨nq,hw''⟩:=hw'
   subst hw''
   go_wp2_with fail
   go_meet
   exact⟨by rw[hBv],ZZ (HV.out _)⟩
 case rest=>
 obtain⟨W1,rfl⟩:∃ W,W=wc:=⟨_,rfl⟩
 obtain⟨rfl,HB1⟩:=hcut
 clear HNX
 have HI1:=ZZ (HBI.out.below HB1.out)
 cases Bc with
 | false=>
  have HNF:Hid (¬ ((PL≠0∧gf<=ix∧ix<=gf+(RL:Int))∧TT.2=0)):=ZZ (fun h=>of_decide_eq_false HBc.out.symm h.1)
  have HFI:=ZZ (HNEG2.out HNF.out)
  clear HNEG2 HNF HTC
  obtain⟨l0,l1,l2⟩:=HI1.out.lc
  obtain⟨s0,s1,s2,s3,s4,s5⟩:=HI1.out.sc
  obtain⟨o0,p0⟩:=HI1.out.ol.cell 0 rfl
  obtain⟨o1,p1⟩:=HI1.out.ol.cell 1 rfl
  obtain⟨o2,p2⟩:=HI1.out.ol.cell 2 rfl
  obtain⟨u0,v0⟩:=HI1.out.os.cell 0 rfl
  obtain⟨u1,v1⟩:=HI1.out.os.cell 1 rfl
  obtain⟨u2,v2⟩:=HI1.out.os.cell 2 rfl
  obtain⟨u3,v3⟩:=HI1.out.os.cell 3 rfl
  obtain⟨u4,v4⟩:=HI1.out.os.cell 4 rfl
  obtain⟨u5,v5⟩:=HI1.out.os.cell 5 rfl
  go_upto_region 5 with fail
  go_region
  obtain⟨XX,hXX,HON,⟨k0,k1,k2⟩,k3,k4,k5,k6,k7,k8⟩:=ZmF w W1 (w.heap.size+1+1) (w.heap.size+1+1+1) rfl rfl HI1.out.ol HI1.out.os (.int .i64 ix) (.slice none 0 0) (.slice none 0 0) (.int .i64 ix) (.int .i64 kd) (.slice la ln lc) (.bool sh) (.int .i64 eg) (.slice ta tn tc)
  have HXX:=ZZ hXX
  clear hXX
  go_wp2
  rw[<-HXX.out]
  refine bodyPost_ret (v:=.tuple #[.agg #[.int .i64 ix,.slice none 0 0,.slice none 0 0],.agg #[.int .i64 ix,.int .i64 kd,.slice la ln lc,.bool sh,.int .i64 eg,.slice ta tn tc]]) (by simp[results,Tryz.results36,go_sem,k0,k1,k2,k3,k4,k5,k6,k7,k8]) rfl ?_
  exact HFI.out W1 _ HI1.out.old HON
 | true=>
  have hc:=of_decide_eq_true HBc.out.symm
  have HCC:=ZZ hc
  obtain⟨hc1,hc2,hc3⟩:=hc
  have hcut:=HCUT.out hc2 hc3
  have HTD:=ZZ (HTC.out hc2 hc3)
  have hw:IntKind.i64.wrap (ix-gf)=ix-gf:=by rw[IntKind.wrap_i64];omega
  have hq1:-9223372036854775808<=ix-gf:=by omega
  have hq2:ix-gf<=9223372036854775807:=by omega
  obtain⟨l0,l1,l2⟩:=HI1.out.lc
  obtain⟨s0,s1,s2,s3,s4,s5⟩:=HI1.out.sc
  clear HTC HCUT HBc
  have HE:Hid (∀ args w,(callFunc 15 args).run Tryz.prog w=.ok (.enter 15 args) w):=ZZ (enters_of Tryz.func15 (by kernel_rfl) rfl)
  have HTE:Hid (∀ W,Below W1.heap.size W1 W->Calls Tryz.prog 15 #[.agg #[.int .i64 ix,.int .i64 kd,.slice la ln lc,.bool sh,.int .i64 eg,.slice ta tn tc],.slice a1 n1 c1] W fun e w'=>∃ v',e=.returned v'∧∃ xa xn xc ua un uc,v'=.tuple #[.agg #[.int .i64 TT.1.idx,.int .i64 TT.1.st.kind,.slice xa xn xc,.bool TT.1.st.shut,.int .i64 TT.1.st.eng,.slice ua un uc],.int .i64 TT.2]∧Hid (Below W.heap.size W w')∧Hid (TT.2=0->∀ W',(∃ W3,Below w'.heap.size w' W3∧ZaE (Zoz w W.heap.size) W3 W')->ZeI I w (.slice ra RL rc) (.slice pa PL pc) R (.returned (.tuple #[.agg #[.int .i64 gf,.slice ra RL rc,.slice pa PL pc],.agg #[.int .i64 TT.1.idx,.int .i64 TT.1.st.kind,.slice xa xn xc,.bool TT.1.st.shut,.int .i64 TT.1.st.eng,.slice ua un uc]])) W')):=ZZ (fun W hW=>by
   refine(HTD.out W (HB1.out.trans (hW.mono HB1.out.size))).mono ?_
   rintro e w' ⟨xa,xn,xc,ua,un,uc,rfl,hb,hf⟩
   exact⟨_,rfl,xa,xn,xc,ua,un,uc,rfl,hb,ZZ (fun h0 W' hW'=>hf.out h0 W' hW' HCC.out)⟩)
  clear HTD
  have HSC:Hid (∀ W,Below W1.heap.size W1 W->(W.cell? ⟨w.heap.size+1,0,none⟩=some (.int .i64 ix)∧W.cell? ⟨w.heap.size+1,1,none⟩=some (.int .i64 kd)∧W.cell? ⟨w.heap.size+1,2,none⟩=some (.slice la ln lc)∧W.cell? ⟨w.heap.size+1,3,none⟩=some (.bool sh)∧W.cell? ⟨w.heap.size+1,4,none⟩=some (.int .i64 eg)∧W.cell? ⟨w.heap.size+1,5,none⟩=some (.slice ta tn tc)∧W.cell? ⟨w.heap.size,0,none⟩=some (.int .i64 gf)∧W.cell? ⟨w.heap.size,1,none⟩=some (.slice ra RL rc))):=ZZ (fun W h=>by
   obtain⟨g0,g1,g2⟩:=(HI1.out.below h).lc
   obtain⟨e0,e1,e2,e3,e4,e5⟩:=(HI1.out.below h).sc
   exact⟨e0,e1,e2,e3,e4,e5,g0,g1⟩)
  obtain⟨T1,hT1⟩:∃ T1,T1=TT.1.idx:=⟨_,rfl⟩
  obtain⟨T2,hT2⟩:∃ T2,T2=TT.1.st.kind:=⟨_,rfl⟩
  obtain⟨T3,hT3⟩:∃ T3,T3=TT.1.st.shut:=⟨_,rfl⟩
  obtain⟨T4,hT4⟩:∃ T4,T4=TT.1.st.eng:=⟨_,rfl⟩
  obtain⟨T5,hT5⟩:∃ T5,T5=TT.2:=⟨_,rfl⟩
  rw[<-hT1,<-hT2,<-hT3,<-hT4,<-hT5] at HTE
  rw[<-hT5] at HNEG2
  clear hT1 hT2 hT3 hT4 hT5
  have HD1:Hid (Below W1.heap.size W1 W1.drew):=ZZ (Below.refl _ _).drew
  have HD2:Hid (Below W1.heap.size W1 (W1.alloc (.cells #[.int .i64 0,.int .i64 0,.slice none 0 0,.bool false,.int .i64 0,.slice none 0 0] 41)).drew):=ZZ ((Below.refl _ _).alloc zL _).drew
  have HZ1:Hid (w.heap.size+4<=W1.heap.size):=ZZ (by have:=HB1.out.size;omega)
  clear l0 l1 l2 s0 s1 s2 s3 s4 s5
  go_upto_region 2 with fail
  go_cut[6,7] (fun v6 v7 wc=>∃ (b:Nat) (xa:Option Addr) (xn xc:Nat) (ua:Option Addr) (un uc:Nat),v6=.pointer (some ⟨b,0,none⟩)∧v7=.int .i64 T5∧Hid (w.heap.size+4<=b)∧Hid (Bk 41 wc b #[.int .i64 T1,.int .i64 T2,.slice xa xn xc,.bool T3,.int .i64 T4,.slice ua un uc])∧Hid (Below W1.heap.size W1 wc)∧
   Hid (T5=0->∀ W',ZaE (Zoz w 0) wc W'->ZeI I w (.slice ra RL rc) (.slice pa PL pc) R (.returned (.tuple #[.agg #[.int .i64 gf,.slice ra RL rc,.slice pa PL pc],.agg #[.int .i64 T1,.int .i64 T2,.slice xa xn xc,.bool T3,.int .i64 T4,.slice ua un uc]])) W'))
  case first=>
   go_region_held2(fun W=>W.cell? ⟨w.heap.size+1,0,none⟩=some (.int .i64 ix)∧W.cell? ⟨w.heap.size+1,1,none⟩=some (.int .i64 kd)∧W.cell? ⟨w.heap.size+1,2,none⟩=some (.slice la ln lc)∧W.cell? ⟨w.heap.size+1,3,none⟩=some (.bool sh)∧W.cell? ⟨w.heap.size+1,4,none⟩=some (.int .i64 eg)∧W.cell? ⟨w.heap.size+1,5,none⟩=some (.slice ta tn tc)∧W.cell? ⟨w.heap.size,0,none⟩=some (.int .i64 gf)∧W.cell? ⟨w.heap.size,1,none⟩=some (.slice ra RL rc))
    (first | (with_reducible exact HSC.out _ HD1.out) | (with_reducible exact HSC.out _ HD2.out) | (with_reducible exact HSC.out _ HBK.out) | (with_reducible exact HSC.out _ (ZoA HBK.out _ zL _ _ _ _ _ _)) | (with_reducible exact HSC.out _ (HBK.out.alloc HBK.out.size _)))
    (first
     | ((with_reducible refine ZnG 15 _ _ rfl rfl #[.agg #[.int .i64 ix,.int .i64 kd,.slice la ln lc,.bool sh,.int .i64 eg,.slice ta tn tc],.slice a1 n1 c1] (by simp[Act.eval]) HE.out (HTE.out W1.drew HD1.out) ?_);rintro v' W2 ⟨xa,xn,xc,ua,un,uc,rfl,HBT,HFN⟩;have HBK:Hid (Below W1.heap.size W1 W2):=ZZ (HD1.out.trans HBT.out))
     | ((with_reducible refine ZnG 15 _ _ rfl rfl #[.agg #[.int .i64 ix,.int .i64 kd,.slice la ln lc,.bool sh,.int .i64 eg,.slice ta tn tc],.slice a1 n1 c1] (by simp[Act.eval]) HE.out (HTE.out (W1.alloc (.cells #[.int .i64 0,.int .i64 0,.slice none 0 0,.bool false,.int .i64 0,.slice none 0 0] 41)).drew HD2.out) ?_);rintro v' W2 ⟨xa,xn,xc,ua,un,uc,rfl,HBT,HFN⟩;have HBK:Hid (Below W1.heap.size W1 W2):=ZZ (HD2.out.trans (HBT.out.mono HD2.out.size));have HZK:Hid (Bk 41 W2 W1.heap.size #[.int .i64 0,.int .i64 0,.slice none 0 0,.bool false,.int .i64 0,.slice none 0 0]):=ZZ (Zyf W1 _ W2 HBT.out);obtain⟨z0,y0⟩:=HZK.out.cell 0 rfl;obtain⟨z1,y1⟩:=HZK.out.cell 1 rfl;obtain⟨z2,y2⟩:=HZK.out.cell 2 rfl;obtain⟨z3,y3⟩:=HZK.out.cell 3 rfl;obtain⟨z4,y4⟩:=HZK.out.cell 4 rfl;obtain⟨z5,y5⟩:=HZK.out.cell 5 rfl))
   all_goals
    go_wp2_with fail
    go_meet
    first
     | exact⟨_,xa,xn,xc,ua,un,uc,rfl,rfl,HZ1,ZZ ((((((HZK.out.set 0 _).set 1 _).set 2 _).set 3 _).set 4 _).set 5 _),ZZ (ZoA HBK.out _ zL _ _ _ _ _ _),ZZ (fun h0 W' ho=>HFN.out h0 W' ⟨_,Below.refl _ _,(Zye W2 W1.heap.size _ _ _ _ _ _ (fun k=>Zoz w (W1.alloc (.cells #[.int .i64 0,.int .i64 0,.slice none 0 0,.bool false,.int .i64 0,.slice none 0 0] 41)).drew.heap.size k) (.inr ⟨HZ1.out,Zzo W1 _⟩)).trans (ho.mono (fun k hk=>hk.more)) (fun _ _ h=>h)⟩)⟩
     | exact⟨_,xa,xn,xc,ua,un,uc,rfl,rfl,ZZ (Nat.le_trans HZ1.out HBK.out.size),ZZ (heap_alloc_new W2 _),ZZ (HBK.out.alloc HBK.out.size _),ZZ (fun h0 W' ho=>HFN.out h0 W' ⟨_,ZcW W2 _,ho.mono (fun k hk=>hk.more)⟩)⟩
  case rest=>
  obtain⟨b,xa,xn,xc,ua,un,uc,rfl,rfl,HBZ,HBX,HBC,HFN⟩:=hcut
  obtain⟨WC,rfl⟩:∃ W,W=wc:=⟨_,rfl⟩
  have HIC:=ZZ (HI1.out.below HBC.out)
  clear HTE HSC HD1 HD2 HE hcut
  obtain⟨l0,l1,l2⟩:=HIC.out.lc
  obtain⟨s0,s1,s2,s3,s4,s5⟩:=HIC.out.sc
  obtain⟨o0,p0⟩:=HIC.out.ol.cell 0 rfl
  obtain⟨o1,p1⟩:=HIC.out.ol.cell 1 rfl
  obtain⟨o2,p2⟩:=HIC.out.ol.cell 2 rfl
  obtain⟨u0,v0⟩:=HIC.out.os.cell 0 rfl
  obtain⟨u1,v1⟩:=HIC.out.os.cell 1 rfl
  obtain⟨u2,v2⟩:=HIC.out.os.cell 2 rfl
  obtain⟨u3,v3⟩:=HIC.out.os.cell 3 rfl
  obtain⟨u4,v4⟩:=HIC.out.os.cell 4 rfl
  obtain⟨u5,v5⟩:=HIC.out.os.cell 5 rfl
  by_cases hT:T5=0
  case neg=>
   have hTb:(T5 == 0)=false:=beq_eq_false_iff_ne.2 hT
   have HFI:=ZZ (HNEG2.out (fun h=>hT h.2))
   clear HNEG2 HFN HBX hT
   go_upto_region 5 with fail
   go_region
   obtain⟨XX,hXX,HON,⟨k0,k1,k2⟩,k3,k4,k5,k6,k7,k8⟩:=ZmF w WC (w.heap.size+1+1) (w.heap.size+1+1+1) rfl rfl HIC.out.ol HIC.out.os (.int .i64 ix) (.slice none 0 0) (.slice none 0 0) (.int .i64 ix) (.int .i64 kd) (.slice la ln lc) (.bool sh) (.int .i64 eg) (.slice ta tn tc)
   have HXX:=ZZ hXX
   clear hXX
   go_wp2
   rw[<-HXX.out]
   refine bodyPost_ret (v:=.tuple #[.agg #[.int .i64 ix,.slice none 0 0,.slice none 0 0],.agg #[.int .i64 ix,.int .i64 kd,.slice la ln lc,.bool sh,.int .i64 eg,.slice ta tn tc]]) (by simp[results,Tryz.results36,go_sem,k0,k1,k2,k3,k4,k5,k6,k7,k8]) rfl ?_
   exact HFI.out WC _ HIC.out.old HON
  have hTb:(T5 == 0)=true:=by rw[beq_iff_eq];exact hT
  have HFI:=ZZ (HFN.out hT)
  obtain⟨x0,-⟩:=HBX.out.cell 0 rfl
  obtain⟨x1,-⟩:=HBX.out.cell 1 rfl
  obtain⟨x2,-⟩:=HBX.out.cell 2 rfl
  obtain⟨x3,-⟩:=HBX.out.cell 3 rfl
  obtain⟨x4,-⟩:=HBX.out.cell 4 rfl
  obtain⟨x5,-⟩:=HBX.out.cell 5 rfl
  have hne4:¬ (b=w.heap.size+1+1):=by have:=HBZ.out;omega
  have hne5:¬ (b=w.heap.size+1+1+1):=by have:=HBZ.out;omega
  have hne6:¬ (w.heap.size+1+1=b):=by have:=HBZ.out;omega
  have hne7:¬ (w.heap.size+1+1+1=b):=by have:=HBZ.out;omega
  clear HNEG2 HFN hT s0 s1 s2 s3 s4 s5
  go_upto_region 4 with fail
  go_region
  obtain⟨XX,hXX,HON,⟨k0,k1,k2⟩,k3,k4,k5,k6,k7,k8⟩:=ZmF w WC (w.heap.size+1+1) (w.heap.size+1+1+1) rfl rfl HIC.out.ol HIC.out.os (.int .i64 gf) (.slice ra RL rc) (.slice pa PL pc) (.int .i64 T1) (.int .i64 T2) (.slice xa xn xc) (.bool T3) (.int .i64 T4) (.slice ua un uc)
  have HXX:=ZZ hXX
  clear hXX
  go_wp2
  rw[<-HXX.out]
  refine bodyPost_ret (v:=.tuple #[.agg #[.int .i64 gf,.slice ra RL rc,.slice pa PL pc],.agg #[.int .i64 T1,.int .i64 T2,.slice xa xn xc,.bool T3,.int .i64 T4,.slice ua un uc]]) (by simp[results,Tryz.results36,go_sem,k0,k1,k2,k3,k4,k5,k6,k7,k8]) rfl ?_
  exact HFI.out _ HON
end Go.Proofs.YtnahjngbneicaaaGreatDoor
