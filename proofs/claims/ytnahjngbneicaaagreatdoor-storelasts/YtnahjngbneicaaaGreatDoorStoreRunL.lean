import Derived.Test.YtnahjngbneicaaaGreatDoorStoreRecs
import Derived.Test.YtnahjngbneicaaaGreatDoorStoreCm
import Derived.Test.YtnahjngbneicaaaGreatDoorStoreRunP
namespace Go.Proofs.YtnahjngbneicaaaGreatDoor
open _root_.Go.Proofs.Tryz
set_option maxRecDepth 100000
open Go.RowKit
variable {K:Nat->Prop} {W W' a c w:World} {B N N' T T' p pd:Nat} {s:Sto} {d:Dk} {X x:Run} {b:Value}
theorem SD.grown {w':World} (h:SD K w pd p s d N T) (f:Ql K w w'):SD (fun k=>K k∨w.heap.size<=k) w' pd p s d N T:=by
 obtain⟨F,M,I,L,g,b,e,c,i,l,j⟩:=h;refine⟨F,M,I,L,g.only f e,b.only f c i,fun k a hh=>?_,fun k a hh=>?_,fun k a hh=>?_,l,j⟩
 ·rcases hh with hh | hh
  ·exact e k a hh
  ·have:=g.ltF k a
   omega
 ·rcases hh with hh | hh
  ·exact c k a hh
  ·have:=b.ltM k a
   omega
 ·rcases hh with hh | hh
  ·exact i k a hh
  ·have:=b.ltI k a
   omega
theorem SD.cut (n:Int) (v:I64 n) (h:SD K w pd p s d N T):
 Calls prog 30 #[ptr pd,.int .i64 n] w fun e w'=>e=.returned (.tuple #[])∧SD K w' pd p s (Zqz d n) N T∧Ql (fun k=>¬ K k) w w':=by
 obtain⟨F,M,I,L,t,l,f,j,u,i,c⟩:=h;refine(ZwU n v w t).mono ?_;rintro e w' ⟨m,q,g⟩;exact⟨m,⟨F,M,I,L,q,l.only g (fun k b a=>i k a b) (fun k b a=>c k a b),f,j,u,i,c⟩,g.mono f⟩
theorem Zwk {next:Int} {o:SOp} (f:0<=next) (e:next<=4611686018427387904) (b:Zyw o.op):∀ r ∈ Zi next o,Zcx r:=by
 intro r a;unfold Zi at a;obtain⟨i,c,rfl⟩:=List.mem_map.1 a;rw[List.mem_range] at c;have d:i<20:=by omega
 exact⟨⟨by show _<=next+(i:Int);omega,by show next+(i:Int)<=_;omega⟩,⟨by show _<=((i % 3:Nat):Int);omega,by show((i % 3:Nat):Int)<=_;omega⟩,⟨by show _<=next % 1000;omega,by show next % 1000<=_;omega⟩,b,(⟨by decide,by decide⟩:I64 0)⟩
structure Zjp (B:Nat) (w0:World) (pd p:Nat) (X:Run) (N T:Nat) (va:Value) (W:World):Prop where
 sd:SD (fun k=>k<B∨va.ownBlock=some k) W pd p X.1.1 X.1.2 N T
 own:Xj W B va X.2
 old:Below B w0 W
theorem Zjp.size (h:Zjp B a pd p X N T b W) (c:B<=a.heap.size):∀ k,(k<B∨b.ownBlock=some k)->k<W.heap.size:=fun k hk=>by
 rcases hk with hk | hk
 ·have:=h.old.size;omega
 ·exact(World.ownsRow.lt h.own k hk).2
theorem Zjp.below {b:World} {c:Value} (h:Zjp B b pd p X N T c W) (d:B<=b.heap.size) (a:Below W.heap.size W W'):Zjp B b pd p X N T c W':=
 ⟨h.sd.below a,h.own.below a zL,h.old.trans (a.mono (Nat.le_trans d h.old.size))⟩
theorem Zjp.did {r:SDk} (h:Zjp B c pd p X N T b W) (i:B<=c.heap.size) (a:∀ k,(k<B∨b.ownBlock=some k)->K k) (j:SD K W' pd p r.1 r.2 N' T') (d:Ql (fun k=>¬ K k) W W'):Zjp B c pd p (r,X.2) N' T' b W':=
 ⟨j.less a,Qh h.own fun g e=>d.block g (World.ownsRow.lt h.own g e).2 (fun l=>l (a g (.inr e))),h.old.trans (d.below (Nat.le_trans i h.old.size) (fun k f=>by
  apply Classical.byContradiction;intro m
  exact f (a k (.inl (by omega)))))⟩
theorem Zjp.more {v':Value} {l:List Rec} (h:Zjp B c pd p X N T b W) (m:B<=c.heap.size) (n:Xj W' 0 v' (X.2++l)) (a:W.grownBy W' b.ownBlock) (h3:v'.ownBlock=b.ownBlock∨v'.ownBlock=some W.heap.size):Zjp B c pd p (X.1,X.2++l) N T v' W':=by
 have i:B<=W.heap.size:=Nat.le_trans m h.old.size;have d:Ql (fun k=>b.ownBlock=some k) W W':=⟨a.os,a.tape,a.output,a.size,fun k hk g=>a.block k hk (fun e=>g e.symm)⟩
 have f:∀ k,b.ownBlock=some k->B<=k:=fun k hk=>(World.ownsRow.lt h.own k hk).1
 have j:∀ k,v'.ownBlock=some k->B<=k:=fun k hk=>by
  rcases h3 with h3 | h3
  ·exact f k (by rw[<-h3];exact hk)
  ·rw[h3] at hk
   have:=Option.some.inj hk;omega
 refine⟨(h.sd.grown (d.mono (fun k hk=>.inr hk))).less fun k hk=>?_,ZaS n j,h.old.trans (d.below i f)⟩
 rcases hk with hk | hk
 ·exact .inl (.inl hk)
 ·rcases h3 with h3 | h3
  ·exact .inl (.inr (by rw[<-h3];exact hk))
  ·rw[h3] at hk
   have:=Option.some.inj hk;exact .inr (by omega)
theorem Zjp.mono (h:Zjp B a pd p X N T b W) (c:N<=N') (d:T<=T'):Zjp B a pd p X N' T' b W:=⟨h.sd.mono c d,h.own,h.old⟩
def runQ (x:Run) (l:List SOp) (i:Nat):Run:=(l.take i).foldl Jc x
theorem Zow (x:Run) (l:List SOp) (i:Nat) (o:SOp) (h:l[i]?=some o):runQ x l (i+1)=Jc (runQ x l i) o:=by
 unfold runQ;rw[List.take_add_one,h,List.foldl_append];rfl
theorem ZxT (x:Run) (l:List SOp):runQ x l l.length=l.foldl Jc x:=by unfold runQ;rw[List.take_length]
theorem X4.runQ (h:X4 x.1 x.2 0) (l:List SOp) (i:Nat):i<=l.length->X4 (Go.Proofs.YtnahjngbneicaaaGreatDoor.runQ x l i).1 (Go.Proofs.YtnahjngbneicaaaGreatDoor.runQ x l i).2 i:=fun a=>by
 have:=X4.run (l.take i) h;rw[Nat.zero_add,List.length_take,Nat.min_eq_left a] at this;exact this
def NmI (s:Sto):Prop:=∀ q ∈ s.log.pcs.map Pce.name,I64 q
theorem ZfZ {s':Sto} (h:NmI s) (e:s'.log=s.log):NmI s':=by
 unfold NmI;rw[e];exact h
theorem ZtB (h:NmI s) (b:OkD d) (l:List Rec):NmI (X5 l (s,d)).1.1:=by
 unfold X5;split
 ·exact h
 split
 ·exact h
 dsimp only
 split
 ·intro q c
  have a:q ∈ (Zc (if s.cur=0 then s.log.start (Jr s d) s.next else s.log).pcs l.length).map Pce.name:=c
  rw[Zds] at a;split at a
  ·rename_i f
   have hq2:q ∈ (s.log.pcs++[(⟨Jr s d,s.next,s.next⟩:Pce)]).map Pce.name:=a;rw[List.map_append] at hq2;rcases List.mem_append.1 hq2 with hq2 | hq2
   ·exact h q hq2
   ·have e:q=Jr s d:=List.mem_singleton.1 hq2
    rw[e];unfold Jr;rw[if_pos f];exact ZcQ b 2 (by decide) (by decide)
  ·exact h q a
 ·exact h
theorem ZxU (h:NmI x.1.1) (e:OkD x.1.2) (o:SOp):NmI (Jc x o).1.1:=by
 obtain⟨⟨s,d⟩,all⟩:=x;have c:=(Zfa (s,d)).2.2;have a:=(Zjb (s,d)).2.2;unfold Jc;split
 ·exact ZtB h e _
 split
 ·exact ZfZ h a
 split
 ·show NmI (Yf (s,d)).1.1
  unfold Yf;split
  ·exact ZfZ h a
  ·exact ZfZ h a
 split
 ·show NmI (Xp (s,d)).1.1
  unfold Xp;split
  ·exact ZfZ h c
  ·exact ZfZ h c
 split
 ·show NmI (Z7 (s,d)).1.1
  have b:=ZeZ s d (s.log.pcs.filter (Zex s));rw[<-Zmj] at b;unfold Z7;split
  ·intro q i
   have f:q ∈ (Gg s).map Pce.name:=i;obtain⟨p,g,rfl⟩:=List.mem_map.1 f;exact h p.name (List.mem_map.2 ⟨p,(List.mem_filter.1 g).1,rfl⟩)
  ·exact ZfZ h b
 split
 ·exact h
 ·exact h
theorem Zrm {x:Run} (h:NmI x.1.1) (a:X4 x.1 x.2 0) (l:List SOp):∀ i,i<=l.length->NmI (runQ x l i).1.1
 | 0,_=>h
 | i+1,hi=>by
  have b:=Zrm h a l i (by omega)
  have c:=X4.runQ a l i (by omega)
  rw[Zow x l i l[i] (by simp)]
  exact ZxU b c.okd _
end Go.Proofs.YtnahjngbneicaaaGreatDoor
