import Derived.Test.YtnahjngbneicaaaGreatDoorStoreRetC
import Derived.Test.YtnahjngbneicaaaGreatDoorStoreRecs
import Derived.Test.YtnahjngbneicaaaGreatDoorStoreCm
import Derived.Test.YtnahjngbneicaaaGreatDoorStoreRunP
namespace Go.Proofs.YtnahjngbneicaaaGreatDoor
set_option linter.unusedSimpArgs false
open _root_.Go.Proofs.Tryz
set_option maxRecDepth 100000
open Go.RowKit
variable {K:Nat->Prop} {W W' b c w:World} {B N N' T T' p pd:Nat} {s:Sto} {d:Dk} {X x:Run} {a:Value}
theorem SD.grown {w':World} (h:SD K w pd p s d N T) (f:Ql K w w'):SD (fun k=>K k∨w.heap.size<=k) w' pd p s d N T:=by
 obtain⟨F,M,I,L,g,b,i,e,c,j,l⟩:=h;refine⟨F,M,I,L,g.only f i,b.only f e c,fun k a hh=>?_,fun k a hh=>?_,fun k a hh=>?_,j,l⟩
 ·rcases hh with hh | hh
  ·exact i k a hh
  ·have:=g.ltF k a
   omega
 ·rcases hh with hh | hh
  ·exact e k a hh
  ·have:=b.ltM k a
   omega
 ·rcases hh with hh | hh
  ·exact c k a hh
  ·have:=b.ltI k a
   omega
theorem SD.cut (n:Int) (l:I64 n) (h:SD K w pd p s d N T):
 Calls prog 30 #[ptr pd,.int .i64 n] w fun e w'=>e=.returned (.tuple #[])∧SD K w' pd p s (ZqS d n) N T∧Ql (fun k=>¬ K k) w w':=by
 obtain⟨F,M,I,L,t,v,g,q,m,f,i⟩:=h;refine(Zxp n l w t).mono ?_;rintro e w' ⟨u,j,c⟩;exact⟨u,⟨F,M,I,L,j,v.only c (fun k a b=>f k b a) (fun k a b=>i k b a),g,q,m,f,i⟩,c.mono g⟩
theorem ZoV {next:Int} {o:SOp} (e:0<=next) (d:next<=4611686018427387904) (b:ZyL o.op):∀ r ∈ Yz next o,ZcJ r:=by
 intro r a;unfold Yz at a;obtain⟨i,c,rfl⟩:=zbm.1 a;rw[List.mem_range] at c;have f:i<20:=by omega
 exact⟨⟨by show _<=next+(i:Int);omega,by show next+(i:Int)<=_;omega⟩,⟨by show _<=((i % 3:Nat):Int);omega,by show((i % 3:Nat):Int)<=_;omega⟩,⟨by show _<=next % 1000;omega,by show next % 1000<=_;omega⟩,b,(⟨by decide,by decide⟩:I64 0)⟩
structure ZjK (B:Nat) (w0:World) (pd p:Nat) (X:Run) (N T:Nat) (va:Value) (W:World):Prop where
 sd:SD (fun k=>k<B∨va.ownBlock=some k) W pd p X.1.1 X.1.2 N T
 own:Xl W B va X.2
 old:Below B w0 W
theorem ZjK.size (h:ZjK B b pd p X N T a W) (c:B<=b.heap.size):∀ k,(k<B∨a.ownBlock=some k)->k<W.heap.size:=fun k hk=>by
 rcases hk with hk | hk
 ·have:=h.old.size;omega
 ·exact(zaz h.own k hk).2
theorem ZjK.below {c:Value} (h:ZjK B b pd p X N T c W) (d:B<=b.heap.size) (a:Below W.heap.size W W'):ZjK B b pd p X N T c W':=
 ⟨h.sd.below a,h.own.below a zL,h.old.trans (a.mono (zau d h.old.size))⟩
theorem ZjK.did {b:Value} {r:SDk} (h:ZjK B c pd p X N T b W) (l:B<=c.heap.size) (a:∀ k,(k<B∨b.ownBlock=some k)->K k) (f:SD K W' pd p r.1 r.2 N' T') (d:Ql (fun k=>¬ K k) W W'):ZjK B c pd p (r,X.2) N' T' b W':=
 ⟨f.less a,Qh h.own fun g e=>d.block g (zaz h.own g e).2 (fun j=>j (a g (.inr e))),h.old.trans (d.below (zau l h.old.size) (fun k i=>by
  apply zca;intro m
  exact i (a k (.inl (by omega)))))⟩
theorem ZjK.more {v':Value} {l:List Rec} (h:ZjK B c pd p X N T a W) (n:B<=c.heap.size) (j:Xl W' 0 v' (X.2++l)) (b:W.grownBy W' a.ownBlock) (h3:v'.ownBlock=a.ownBlock∨v'.ownBlock=some W.heap.size):ZjK B c pd p (X.1,X.2++l) N T v' W':=by
 have m:B<=W.heap.size:=zau n h.old.size;have f:Ql (fun k=>a.ownBlock=some k) W W':=⟨b.os,b.tape,b.output,b.size,fun k hk i=>b.block k hk (fun e=>i e.symm)⟩
 have d:∀ k,a.ownBlock=some k->B<=k:=fun k hk=>(zaz h.own k hk).1
 have g:∀ k,v'.ownBlock=some k->B<=k:=fun k hk=>by
  rcases h3 with h3 | h3
  ·exact d k (by rw[<-h3];exact hk)
  ·rw[h3] at hk
   have:=zaq hk;omega
 refine⟨(h.sd.grown (f.mono (fun k hk=>.inr hk))).less fun k hk=>?_,ZaS j g,h.old.trans (f.below m d)⟩
 rcases hk with hk | hk
 ·exact .inl (.inl hk)
 ·rcases h3 with h3 | h3
  ·exact .inl (.inr (by rw[<-h3];exact hk))
  ·rw[h3] at hk
   have:=zaq hk;exact .inr (by omega)
theorem ZjK.mono (h:ZjK B b pd p X N T a W) (d:N<=N') (c:T<=T'):ZjK B b pd p X N' T' a W:=⟨h.sd.mono d c,h.own,h.old⟩
def runQ (x:Run) (l:List SOp) (i:Nat):Run:=(l.take i).foldl Zx x
theorem ZoW (x:Run) (l:List SOp) (i:Nat) (o:SOp) (h:l[i]?=some o):runQ x l (i+1)=Zx (runQ x l i) o:=by
 unfold runQ;rw[zcl,h,zdq];rfl
theorem ZyB (x:Run) (l:List SOp):runQ x l l.length=l.foldl Zx x:=by unfold runQ;rw[zdd]
theorem X0.runQ (h:X0 x.1 x.2 0) (l:List SOp) (i:Nat):i<=l.length->X0 (Go.Proofs.YtnahjngbneicaaaGreatDoor.runQ x l i).1 (Go.Proofs.YtnahjngbneicaaaGreatDoor.runQ x l i).2 i:=fun a=>by
 have:=X0.run (l.take i) h;rw[za9,zb5,zcy a] at this;exact this
def NmI (s:Sto):Prop:=∀ q ∈ s.log.pcs.map Pce.name,I64 q
theorem Zgk {s':Sto} (h:NmI s) (e:s'.log=s.log):NmI s':=by
 unfold NmI;rw[e];exact h
theorem Zuf (h:NmI s) (c:OkD d) (l:List Rec):NmI (Xc l (s,d)).1.1:=by
 unfold Xc;split
 ·exact h
 split
 ·exact h
 dsimp only
 split
 ·intro q b
  have a:q ∈ (Ze (if s.cur=0 then s.log.start (Ju s d) s.next else s.log).pcs l.length).map Pce.name:=b
  rw[Zdz] at a;split at a
  ·rename_i f
   have hq2:q ∈ (s.log.pcs++[(⟨Ju s d,s.next,s.next⟩:Pce)]).map Pce.name:=a;rw[zc1] at hq2;rcases za2.1 hq2 with hq2 | hq2
   ·exact h q hq2
   ·have e:q=Ju s d:=zaw.1 hq2
    rw[e];unfold Ju;rw[zab f];exact ZcP c 2 (by decide) (by decide)
  ·exact h q a
 ·exact h
theorem ZyC (h:NmI x.1.1) (f:OkD x.1.2) (o:SOp):NmI (Zx x o).1.1:=by
 obtain⟨⟨s,d⟩,all⟩:=x;have b:=(ZcU (s,d)).2.2;have a:=(Zjl (s,d)).2.2;unfold Zx;split
 ·exact Zuf h f _
 split
 ·exact Zgk h a
 split
 ·show NmI (Yb (s,d)).1.1
  unfold Yb;split
  ·exact Zgk h a
  ·exact Zgk h a
 split
 ·show NmI (Qs (s,d)).1.1
  unfold Qs;split
  ·exact Zgk h b
  ·exact Zgk h b
 split
 ·show NmI (Zn (s,d)).1.1
  have c:=Zft s d (s.log.pcs.filter (ZeG s));rw[<-ZmH] at c;unfold Zn;split
  ·intro q e
   have g:q ∈ (Gl s).map Pce.name:=e;obtain⟨p,i,rfl⟩:=zbm.1 g;exact h p.name (zbm.2 ⟨p,(za3.1 i).1,rfl⟩)
  ·exact Zgk h c
 split
 ·exact h
 ·exact h
theorem ZrJ {x:Run} (h:NmI x.1.1) (a:X0 x.1 x.2 0) (l:List SOp):∀ i,i<=l.length->NmI (runQ x l i).1.1
 | 0,_=>h
 | i+1,hi=>by
  have b:=ZrJ h a l i (by omega)
  have c:=X0.runQ a l i (by omega)
  rw[ZoW x l i l[i] (by simp)]
  exact ZyC b c.okd _
end Go.Proofs.YtnahjngbneicaaaGreatDoor
