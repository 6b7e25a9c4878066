import Derived.Test.YtnahjngbneicaaaGreatDoorStoreRetC
import Derived.Test.YtnahjngbneicaaaGreatDoorStoreRecs
import Derived.Test.YtnahjngbneicaaaGreatDoorStoreCm
import Derived.Test.YtnahjngbneicaaaGreatDoorStoreRunP
namespace Go.Proofs.YtnahjngbneicaaaGreatDoor
open _root_.Go.Proofs.Tryz
set_option maxRecDepth 100000
open Go.RowKit
variable {K:Nat->Prop} {W W' b c w:World} {B N N' T T' p pd:Nat} {s:Sto} {d:Dk} {X x:Run} {a:Value}
theorem SD.grown {w':World} (h:SD K w pd p s d N T) (f:Zap K w w'):SD (fun k=>K k∨w.heap.size<=k) w' pd p s d N T:=by
 obtain⟨F,M,I,L,i,b,e,c,g,j,l⟩:=h;refine⟨F,M,I,L,i.only f e,b.only f c g,fun k a hh=>?_,fun k a hh=>?_,fun k a hh=>?_,j,l⟩
 ·rcases hh with hh | hh
  ·exact e k a hh
  ·have:=i.ltF k a
   omega
 ·rcases hh with hh | hh
  ·exact c k a hh
  ·have:=b.ltM k a
   omega
 ·rcases hh with hh | hh
  ·exact g k a hh
  ·have:=b.ltI k a
   omega
theorem SD.cut (n:Int) (t:I64 n) (h:SD K w pd p s d N T):
 Calls prog 30 #[ptr pd,.int .i64 n] w fun e w'=>e=.returned (.tuple #[])∧SD K w' pd p s (ZyD d n) N T∧Zap (fun k=>¬ K k) w w':=by
 obtain⟨F,M,I,L,v,q,c,j,u,f,g⟩:=h;refine(Zzd n t w v).mono ?_;rintro e w' ⟨l,m,i⟩;exact⟨l,⟨F,M,I,L,m,q.only i (fun k a b=>f k b a) (fun k a b=>g k b a),c,j,u,f,g⟩,i.mono c⟩
theorem Zyz {next:Int} {o:SOp} (f:0<=next) (e:next<=4611686018427387904) (b:ZAx o.op):∀ r ∈ Zcq next o,Zga r:=by
 intro r a;unfold Zcq at a;obtain⟨i,c,rfl⟩:=List.mem_map.1 a;rw[List.mem_range] at c;have d:i<20:=by omega
 exact⟨⟨by show _<=next+(i:Int);omega,by show next+(i:Int)<=_;omega⟩,⟨by show _<=((i % 3:Nat):Int);omega,by show((i % 3:Nat):Int)<=_;omega⟩,⟨by show _<=next % 1000;omega,by show next % 1000<=_;omega⟩,b,(⟨by decide,by decide⟩:I64 0)⟩
structure Zmf (B:Nat) (w0:World) (pd p:Nat) (X:Run) (N T:Nat) (va:Value) (W:World):Prop where
 sd:SD (fun k=>k<B∨va.ownBlock=some k) W pd p X.1.1 X.1.2 N T
 own:Zbq W B va X.2
 old:Below B w0 W
theorem Zmf.size (h:Zmf B b pd p X N T a W) (c:B<=b.heap.size):∀ k,(k<B∨a.ownBlock=some k)->k<W.heap.size:=fun k hk=>by
 rcases hk with hk | hk
 ·have:=h.old.size;omega
 ·exact(World.ownsRow.lt h.own k hk).2
theorem Zmf.below {a:World} {c:Value} (h:Zmf B a pd p X N T c W) (d:B<=a.heap.size) (b:Below W.heap.size W W'):Zmf B a pd p X N T c W':=
 ⟨h.sd.below b,h.own.below b zL,h.old.trans (b.mono (Nat.le_trans d h.old.size))⟩
theorem Zmf.did {b:Value} {r:SDk} (h:Zmf B c pd p X N T b W) (i:B<=c.heap.size) (a:∀ k,(k<B∨b.ownBlock=some k)->K k) (j:SD K W' pd p r.1 r.2 N' T') (e:Zap (fun k=>¬ K k) W W'):Zmf B c pd p (r,X.2) N' T' b W':=
 ⟨j.less a,Zae h.own fun g d=>e.block g (World.ownsRow.lt h.own g d).2 (fun f=>f (a g (.inr d))),h.old.trans (e.below (Nat.le_trans i h.old.size) (fun k l=>by
  apply Classical.byContradiction;intro m
  exact l (a k (.inl (by omega)))))⟩
theorem Zmf.more {b v':Value} {l:List Rec} (h:Zmf B c pd p X N T b W) (g:B<=c.heap.size) (n:Zbq W' 0 v' (X.2++l)) (a:W.grownBy W' b.ownBlock) (h3:v'.ownBlock=b.ownBlock∨v'.ownBlock=some W.heap.size):Zmf B c pd p (X.1,X.2++l) N T v' W':=by
 have i:B<=W.heap.size:=Nat.le_trans g h.old.size;have f:Zap (fun k=>b.ownBlock=some k) W W':=⟨a.os,a.tape,a.output,a.size,fun k hk j=>a.block k hk (fun e=>j e.symm)⟩
 have d:∀ k,b.ownBlock=some k->B<=k:=fun k hk=>(World.ownsRow.lt h.own k hk).1
 have m:∀ k,v'.ownBlock=some k->B<=k:=fun k hk=>by
  rcases h3 with h3 | h3
  ·exact d k (by rw[<-h3];exact hk)
  ·rw[h3] at hk
   have:=Option.some.inj hk;omega
 refine⟨(h.sd.grown (f.mono (fun k hk=>.inr hk))).less fun k hk=>?_,ZdT n m,h.old.trans (f.below i d)⟩
 rcases hk with hk | hk
 ·exact .inl (.inl hk)
 ·rcases h3 with h3 | h3
  ·exact .inl (.inr (by rw[<-h3];exact hk))
  ·rw[h3] at hk
   have:=Option.some.inj hk;exact .inr (by omega)
theorem Zmf.mono (h:Zmf B b pd p X N T a W) (d:N<=N') (c:T<=T'):Zmf B b pd p X N' T' a W:=⟨h.sd.mono d c,h.own,h.old⟩
def runQ (x:Run) (l:List SOp) (i:Nat):Run:=(l.take i).foldl Zer x
theorem ZqY (x:Run) (l:List SOp) (i:Nat) (o:SOp) (h:l[i]?=some o):runQ x l (i+1)=Zer (runQ x l i) o:=by
 unfold runQ;rw[List.take_add_one,h,List.foldl_append];rfl
theorem ZAd (x:Run) (l:List SOp):runQ x l l.length=l.foldl Zer x:=by unfold runQ;rw[List.take_length]
theorem ZcB.runQ (h:ZcB x.1 x.2 0) (l:List SOp) (i:Nat):i<=l.length->ZcB (Go.Proofs.YtnahjngbneicaaaGreatDoor.runQ x l i).1 (Go.Proofs.YtnahjngbneicaaaGreatDoor.runQ x l i).2 i:=fun a=>by
 have:=ZcB.run (l.take i) h;rw[Nat.zero_add,List.length_take,Nat.min_eq_left a] at this;exact this
def NmI (s:Sto):Prop:=∀ q ∈ s.log.pcs.map Pce.name,I64 q
theorem ZiW {s':Sto} (h:NmI s) (e:s'.log=s.log):NmI s':=by
 unfold NmI;rw[e];exact h
theorem ZvW (h:NmI s) (b:OkD d) (l:List Rec):NmI (Zbz l (s,d)).1.1:=by
 unfold Zbz;split
 ·exact h
 split
 ·exact h
 dsimp only
 split
 ·intro q c
  have a:q ∈ (ZbY (if s.cur=0 then s.log.start (ZfL s d) s.next else s.log).pcs l.length).map Pce.name:=c
  rw[ZgE] at a;split at a
  ·rename_i f
   have hq2:q ∈ (s.log.pcs++[(⟨ZfL s d,s.next,s.next⟩:Pce)]).map Pce.name:=a;rw[List.map_append] at hq2;rcases List.mem_append.1 hq2 with hq2 | hq2
   ·exact h q hq2
   ·have e:q=ZfL s d:=List.mem_singleton.1 hq2
    rw[e];unfold ZfL;rw[if_pos f];exact Zgf b 2 (by decide) (by decide)
  ·exact h q a
 ·exact h
theorem ZAe (h:NmI x.1.1) (e:OkD x.1.2) (o:SOp):NmI (Zer x o).1.1:=by
 obtain⟨⟨s,d⟩,j⟩:=x;have c:=(ZlS (s,d)).2.2;have a:=(ZlR (s,d)).2.2;unfold Zer;split
 ·exact ZvW h e _
 split
 ·exact ZiW h a
 split
 ·show NmI (ZeK (s,d)).1.1
  unfold ZeK;split
  ·exact ZiW h a
  ·exact ZiW h a
 split
 ·show NmI (Zbn (s,d)).1.1
  unfold Zbn;split
  ·exact ZiW h c
  ·exact ZiW h c
 split
 ·show NmI (ZdA (s,d)).1.1
  have b:=Zif s d (s.log.pcs.filter (ZnR s));rw[<-ZoM] at b;unfold ZdA;split
  ·intro q i
   have g:q ∈ (ZgW s).map Pce.name:=i;obtain⟨p,f,rfl⟩:=List.mem_map.1 g;exact h p.name (List.mem_map.2 ⟨p,(List.mem_filter.1 f).1,rfl⟩)
  ·exact ZiW h b
 split
 ·exact h
 ·exact h
theorem ZtN (h:NmI x.1.1) (a:ZcB x.1 x.2 0) (l:List SOp):∀ i,i<=l.length->NmI (runQ x l i).1.1
 | 0,_=>h
 | i+1,hi=>by
  have c:=ZtN h a l i (by omega)
  have b:=ZcB.runQ a l i (by omega)
  rw[ZqY x l i l[i] (by simp)]
  exact ZAe c b.okd _
end Go.Proofs.YtnahjngbneicaaaGreatDoor
