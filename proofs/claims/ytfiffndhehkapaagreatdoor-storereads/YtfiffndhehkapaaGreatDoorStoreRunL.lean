import Derived.Test.YtfiffndhehkapaaGreatDoorStoreRetC
import Derived.Test.YtfiffndhehkapaaGreatDoorStoreRecs
import Derived.Test.YtfiffndhehkapaaGreatDoorStoreCm
import Derived.Test.YtfiffndhehkapaaGreatDoorStoreAw
import Derived.Test.YtfiffndhehkapaaGreatDoorStoreRunP
namespace Go.Proofs.YtfiffndhehkapaaGreatDoor
set_option maxRecDepth 100000
open Go.RowKit
theorem SD.grown {K:Nat->Prop} {w w':World} {pd p:Nat} {s:Sto} {d:Dk} {N T:Nat} (h:SD K w pd p s d N T) (ho:Zas K w w'):SD (fun k=>K k∨w.heap.size<=k) w' pd p s d N T:=by
 obtain⟨F,M,I,L,h1,h2,h3,h4,h5,h6,h7⟩:=h
 refine⟨F,M,I,L,h1.only ho h3,h2.only ho h4 h5,fun k hk hh=>?_,fun k hk hh=>?_,fun k hk hh=>?_,h6,h7⟩
 ·rcases hh with hh | hh
  ·exact h3 k hk hh
  ·have:=h1.ltF k hk
   omega
 ·rcases hh with hh | hh
  ·exact h4 k hk hh
  ·have:=h2.ltM k hk
   omega
 ·rcases hh with hh | hh
  ·exact h5 k hk hh
  ·have:=h2.ltI k hk
   omega
theorem SD.cut {K:Nat->Prop} {w:World} {pd p:Nat} {s:Sto} {d:Dk} {N T:Nat} (n:Int) (hn:I64 n) (h:SD K w pd p s d N T):
 Calls Tryz.prog 31 #[ptr pd,.int .i64 n] w fun e w'=>e=.returned (.tuple #[])∧SD K w' pd p s (ZxH d n) N T∧Zas (fun k=>¬ K k) w w':=by
 obtain⟨F,M,I,L,h1,h2,h3,h4,h5,h6,h7⟩:=h
 refine(Zyg n hn w h1).mono ?_
 rintro e w' ⟨he,hd,ho⟩
 exact⟨he,⟨F,M,I,L,hd,h2.only ho (fun k hk hf=>h6 k hf hk) (fun k hk hf=>h7 k hf hk),h3,h4,h5,h6,h7⟩,ho.mono h3⟩
theorem ZxB {next:Int} {o:SOp} (h0:0<=next) (h1:next<=4611686018427387904) (ho:ZzD o.op):∀ r ∈ Zcn next o,ZfA r:=by
 intro r hr
 unfold Zcn at hr
 obtain⟨i,hi,rfl⟩:=List.mem_map.1 hr
 rw[List.mem_range] at hi
 have hi2:i<20:=by omega
 exact⟨⟨by show _<=next+(i:Int);omega,by show next+(i:Int)<=_;omega⟩,⟨by show _<=((i % 3:Nat):Int);omega,by show((i % 3:Nat):Int)<=_;omega⟩,⟨by show _<=next % 1000;omega,by show next % 1000<=_;omega⟩,ho,(⟨by decide,by decide⟩:I64 0)⟩
structure ZlE (B:Nat) (w0:World) (pd p:Nat) (X:Run) (N T:Nat) (va:Value) (W:World):Prop where
 sd:SD (fun k=>k<B∨va.ownBlock=some k) W pd p X.1.1 X.1.2 N T
 own:Zbm W B va X.2
 old:Below B w0 W
theorem ZlE.size {B:Nat} {w0:World} {pd p:Nat} {X:Run} {N T:Nat} {va:Value} {W:World} (h:ZlE B w0 pd p X N T va W) (hB:B<=w0.heap.size):∀ k,(k<B∨va.ownBlock=some k)->k<W.heap.size:=fun k hk=>by
 rcases hk with hk | hk
 ·have:=h.old.size;omega
 ·exact(World.ownsRow.lt h.own k hk).2
theorem ZlE.below {B:Nat} {w0:World} {pd p:Nat} {X:Run} {N T:Nat} {va:Value} {W W':World} (h:ZlE B w0 pd p X N T va W) (hB:B<=w0.heap.size) (hb:Below W.heap.size W W'):ZlE B w0 pd p X N T va W':=
 ⟨h.sd.below hb,h.own.below hb zL,h.old.trans (hb.mono (Nat.le_trans hB h.old.size))⟩
theorem ZlE.did {B:Nat} {w0:World} {pd p:Nat} {X:Run} {N T N' T':Nat} {va:Value} {W W':World} {K:Nat->Prop} {r:SDk} (h:ZlE B w0 pd p X N T va W) (hB:B<=w0.heap.size) (hK:∀ k,(k<B∨va.ownBlock=some k)->K k) (hs:SD K W' pd p r.1 r.2 N' T') (ho:Zas (fun k=>¬ K k) W W'):ZlE B w0 pd p (r,X.2) N' T' va W':=
 ⟨hs.less hK,Zaf h.own fun g hg=>ho.block g (World.ownsRow.lt h.own g hg).2 (fun hh=>hh (hK g (.inr hg))),h.old.trans (ho.below (Nat.le_trans hB h.old.size) (fun k hk=>by
  apply Classical.byContradiction
  intro hlt
  exact hk (hK k (.inl (by omega)))))⟩
theorem ZlE.more {B:Nat} {w0:World} {pd p:Nat} {X:Run} {N T:Nat} {va v':Value} {W W':World} {l:List Rec} (h:ZlE B w0 pd p X N T va W) (hB:B<=w0.heap.size) (h1:Zbm W' 0 v' (X.2++l)) (h2:W.grownBy W' va.ownBlock) (h3:v'.ownBlock=va.ownBlock∨v'.ownBlock=some W.heap.size):ZlE B w0 pd p (X.1,X.2++l) N T v' W':=by
 have hsz:B<=W.heap.size:=Nat.le_trans hB h.old.size
 have ho:Zas (fun k=>va.ownBlock=some k) W W':=⟨h2.os,h2.tape,h2.output,h2.size,fun k hk hn=>h2.block k hk (fun e=>hn e.symm)⟩
 have hlo:∀ k,va.ownBlock=some k->B<=k:=fun k hk=>(World.ownsRow.lt h.own k hk).1
 have hlo':∀ k,v'.ownBlock=some k->B<=k:=fun k hk=>by
  rcases h3 with h3 | h3
  ·exact hlo k (by rw[<-h3];exact hk)
  ·rw[h3] at hk
   have:=Option.some.inj hk
   omega
 refine⟨(h.sd.grown (ho.mono (fun k hk=>.inr hk))).less fun k hk=>?_,ZdN h1 hlo',h.old.trans (ho.below hsz hlo)⟩
 rcases hk with hk | hk
 ·exact .inl (.inl hk)
 ·rcases h3 with h3 | h3
  ·exact .inl (.inr (by rw[<-h3];exact hk))
  ·rw[h3] at hk
   have:=Option.some.inj hk
   exact .inr (by omega)
theorem ZlE.mono {B:Nat} {w0:World} {pd p:Nat} {X:Run} {N T N' T':Nat} {va:Value} {W:World} (h:ZlE B w0 pd p X N T va W) (hN:N<=N') (hT:T<=T'):ZlE B w0 pd p X N' T' va W:=⟨h.sd.mono hN hT,h.own,h.old⟩
def runQ (x:Run) (l:List SOp) (i:Nat):Run:=(l.take i).foldl Zel x
theorem Zqm (x:Run) (l:List SOp) (i:Nat) (o:SOp) (h:l[i]?=some o):runQ x l (i+1)=Zel (runQ x l i) o:=by
 unfold runQ
 rw[List.take_add_one,h,List.foldl_append]
 rfl
theorem Zzg (x:Run) (l:List SOp):runQ x l l.length=l.foldl Zel x:=by unfold runQ;rw[List.take_length]
theorem Zcw.runQ {x:Run} (h:Zcw x.1 x.2 0) (l:List SOp) (i:Nat):i<=l.length->Zcw (Go.Proofs.YtfiffndhehkapaaGreatDoor.runQ x l i).1 (Go.Proofs.YtfiffndhehkapaaGreatDoor.runQ x l i).2 i:=fun hi=>by
 have:=Zcw.run (l.take i) h
 rw[Nat.zero_add,List.length_take,Nat.min_eq_left hi] at this
 exact this
def NmI (s:Sto):Prop:=∀ q ∈ s.log.pcs.map Pce.name,I64 q
theorem ZiA {s s':Sto} (h:NmI s) (e:s'.log=s.log):NmI s':=by
 unfold NmI
 rw[e]
 exact h
theorem Zve {s:Sto} {d:Dk} (h:NmI s) (hok:OkD d) (l:List Rec):NmI (Zby l (s,d)).1.1:=by
 unfold Zby
 split
 ·exact h
 split
 ·exact h
 dsimp only
 split
 ·intro q hq
  have hq':q ∈ (ZbW (if s.cur=0 then s.log.start (Zfy s d) s.next else s.log).pcs l.length).map Pce.name:=hq
  rw[Zgr] at hq'
  split at hq'
  ·rename_i h0
   have hq2:q ∈ (s.log.pcs++[(⟨Zfy s d,s.next,s.next⟩:Pce)]).map Pce.name:=hq'
   rw[List.map_append] at hq2
   rcases List.mem_append.1 hq2 with hq2 | hq2
   ·exact h q hq2
   ·have e:q=Zfy s d:=List.mem_singleton.1 hq2
    rw[e]
    unfold Zfy
    rw[if_pos h0]
    exact ZfS hok 2 (by decide) (by decide)
  ·exact h q hq'
 ·exact h
theorem Zzh {x:Run} (h:NmI x.1.1) (hok:OkD x.1.2) (o:SOp):NmI (Zel x o).1.1:=by
 obtain⟨⟨s,d⟩,all⟩:=x
 have hm:=(Zlr (s,d)).2.2
 have hs:=(Zlq (s,d)).2.2
 unfold Zel
 split
 ·exact Zve h hok _
 split
 ·exact ZiA h hs
 split
 ·show NmI (ZeC (s,d)).1.1
  unfold ZeC
  split
  ·exact ZiA h hs
  ·exact ZiA h hs
 split
 ·show NmI (Zbk (s,d)).1.1
  unfold Zbk
  split
  ·exact ZiA h hm
  ·exact ZiA h hm
 split
 ·show NmI (Zdv (s,d)).1.1
  have hl:=ZhP s d (s.log.pcs.filter (Znr s))
  rw[<-Zol] at hl
  unfold Zdv
  split
  ·intro q hq
   have hq':q ∈ (ZgJ s).map Pce.name:=hq
   obtain⟨p,hp,rfl⟩:=List.mem_map.1 hq'
   exact h p.name (List.mem_map.2 ⟨p,(List.mem_filter.1 hp).1,rfl⟩)
  ·exact ZiA h hl
 split
 ·exact h
 ·exact h
theorem Ztb {x:Run} (h:NmI x.1.1) (hr:Zcw x.1 x.2 0) (l:List SOp):∀ i,i<=l.length->NmI (runQ x l i).1.1
 | 0,_=>h
 | i+1,hi=>by
  have ih:=Ztb h hr l i (by omega)
  have ho:=Zcw.runQ hr l i (by omega)
  rw[Zqm x l i l[i] (by simp)]
  exact Zzh ih ho.okd _
end Go.Proofs.YtfiffndhehkapaaGreatDoor
