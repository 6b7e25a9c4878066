import Derived.Test.YtnahjngbneicaaaGreatDoorStoreRetC
import Derived.Test.YtnahjngbneicaaaGreatDoorStoreRecs
import Derived.Test.YtnahjngbneicaaaGreatDoorStoreCm
import Derived.Test.YtnahjngbneicaaaGreatDoorStoreRunP
namespace Go.Proofs.YtnahjngbneicaaaGreatDoor
open _root_.Go.Proofs.Tryz
set_option maxRecDepth 100000
open Go.RowKit
variable {K:Nat->Prop} {W W' a w:World} {B N N' T T' p pd:Nat} {s:Sto} {d:Dk} {X x:Run} {b c:Value}
theorem SD.grown {w':World} (h:SD K w pd p s d N T) (i:Qj K w w'):SD (fun k=>K k∨w.heap.size<=k) w' pd p s d N T:=by
 obtain⟨F,M,I,L,e,b,f,g,c,l,j⟩:=h;refine⟨F,M,I,L,e.only i f,b.only i g c,fun k a hh=>?_,fun k a hh=>?_,fun k a hh=>?_,l,j⟩
 ·rcases hh with hh | hh
  ·exact f k a hh
  ·have:=e.ltF k a
   omega
 ·rcases hh with hh | hh
  ·exact g k a hh
  ·have:=b.ltM k a
   omega
 ·rcases hh with hh | hh
  ·exact c k a hh
  ·have:=b.ltI k a
   omega
theorem SD.cut (n:Int) (q:I64 n) (h:SD K w pd p s d N T):
 Calls prog 30 #[ptr pd,.int .i64 n] w fun e w'=>e=.returned (.tuple #[])∧SD K w' pd p s (Zvn d n) N T∧Qj (fun k=>¬ K k) w w':=by
 obtain⟨F,M,I,L,m,j,c,t,l,i,f⟩:=h;refine(ZvN n q w m).mono ?_;rintro e w' ⟨u,v,g⟩;exact⟨u,⟨F,M,I,L,v,j.only g (fun k a b=>i k b a) (fun k a b=>f k b a),c,t,l,i,f⟩,g.mono c⟩
theorem Zvj {next:Int} {o:SOp} (e:0<=next) (d:next<=4611686018427387904) (b:Zxh o.op):∀ r ∈ Zm next o,ZcK r:=by
 intro r a;unfold Zm at a;obtain⟨i,c,rfl⟩:=List.mem_map.1 a;rw[List.mem_range] at c;have f:i<20:=by omega
 exact⟨⟨by show _<=next+(i:Int);omega,by show next+(i:Int)<=_;omega⟩,⟨by show _<=((i % 3:Nat):Int);omega,by show((i % 3:Nat):Int)<=_;omega⟩,⟨by show _<=next % 1000;omega,by show next % 1000<=_;omega⟩,b,(⟨by decide,by decide⟩:I64 0)⟩
structure ZiP (B:Nat) (w0:World) (pd p:Nat) (X:Run) (N T:Nat) (va:Value) (W:World):Prop where
 sd:SD (fun k=>k<B∨va.ownBlock=some k) W pd p X.1.1 X.1.2 N T
 own:Q9 W B va X.2
 old:Below B w0 W
theorem ZiP.size (h:ZiP B a pd p X N T b W) (c:B<=a.heap.size):∀ k,(k<B∨b.ownBlock=some k)->k<W.heap.size:=fun k hk=>by
 rcases hk with hk | hk
 ·have:=h.old.size;omega
 ·exact(World.ownsRow.lt h.own k hk).2
theorem ZiP.below {b:World} (h:ZiP B b pd p X N T c W) (d:B<=b.heap.size) (a:Below W.heap.size W W'):ZiP B b pd p X N T c W':=
 ⟨h.sd.below a,h.own.below a zL,h.old.trans (a.mono (Nat.le_trans d h.old.size))⟩
theorem ZiP.did {b:World} {r:SDk} (h:ZiP B b pd p X N T c W) (i:B<=b.heap.size) (a:∀ k,(k<B∨c.ownBlock=some k)->K k) (l:SD K W' pd p r.1 r.2 N' T') (e:Qj (fun k=>¬ K k) W W'):ZiP B b pd p (r,X.2) N' T' c W':=
 ⟨l.less a,Qh h.own fun g d=>e.block g (World.ownsRow.lt h.own g d).2 (fun j=>j (a g (.inr d))),h.old.trans (e.below (Nat.le_trans i h.old.size) (fun k f=>by
  apply Classical.byContradiction;intro m
  exact f (a k (.inl (by omega)))))⟩
theorem ZiP.more {c:World} {v':Value} {l:List Rec} (h:ZiP B c pd p X N T b W) (g:B<=c.heap.size) (i:Q9 W' 0 v' (X.2++l)) (a:W.grownBy W' b.ownBlock) (h3:v'.ownBlock=b.ownBlock∨v'.ownBlock=some W.heap.size):ZiP B c pd p (X.1,X.2++l) N T v' W':=by
 have j:B<=W.heap.size:=Nat.le_trans g h.old.size;have f:Qj (fun k=>b.ownBlock=some k) W W':=⟨a.os,a.tape,a.output,a.size,fun k hk m=>a.block k hk (fun e=>m e.symm)⟩
 have d:∀ k,b.ownBlock=some k->B<=k:=fun k hk=>(World.ownsRow.lt h.own k hk).1
 have n:∀ k,v'.ownBlock=some k->B<=k:=fun k hk=>by
  rcases h3 with h3 | h3
  ·exact d k (by rw[<-h3];exact hk)
  ·rw[h3] at hk
   have:=Option.some.inj hk;omega
 refine⟨(h.sd.grown (f.mono (fun k hk=>.inr hk))).less fun k hk=>?_,ZaL i n,h.old.trans (f.below j d)⟩
 rcases hk with hk | hk
 ·exact .inl (.inl hk)
 ·rcases h3 with h3 | h3
  ·exact .inl (.inr (by rw[<-h3];exact hk))
  ·rw[h3] at hk
   have:=Option.some.inj hk;exact .inr (by omega)
theorem ZiP.mono (h:ZiP B a pd p X N T b W) (c:N<=N') (d:T<=T'):ZiP B a pd p X N' T' b W:=⟨h.sd.mono c d,h.own,h.old⟩
def runQ (x:Run) (l:List SOp) (i:Nat):Run:=(l.take i).foldl Zbg x
theorem ZnI (x:Run) (l:List SOp) (i:Nat) (o:SOp) (h:l[i]?=some o):runQ x l (i+1)=Zbg (runQ x l i) o:=by
 unfold runQ;rw[List.take_add_one,h,List.foldl_append];rfl
theorem ZwN (x:Run) (l:List SOp):runQ x l l.length=l.foldl Zbg x:=by unfold runQ;rw[List.take_length]
theorem X5.runQ (h:X5 x.1 x.2 0) (l:List SOp) (i:Nat):i<=l.length->X5 (Go.Proofs.YtnahjngbneicaaaGreatDoor.runQ x l i).1 (Go.Proofs.YtnahjngbneicaaaGreatDoor.runQ x l i).2 i:=fun a=>by
 have:=X5.run (l.take i) h;rw[Nat.zero_add,List.length_take,Nat.min_eq_left a] at this;exact this
def NmI (s:Sto):Prop:=∀ q ∈ s.log.pcs.map Pce.name,I64 q
theorem ZfG {s':Sto} (h:NmI s) (e:s'.log=s.log):NmI s':=by
 unfold NmI;rw[e];exact h
theorem ZsG (h:NmI s) (b:OkD d) (l:List Rec):NmI (Yn l (s,d)).1.1:=by
 unfold Yn;split
 ·exact h
 split
 ·exact h
 dsimp only
 split
 ·intro q c
  have a:q ∈ (Zq (if s.cur=0 then s.log.start (Zcw s d) s.next else s.log).pcs l.length).map Pce.name:=c
  rw[Zdo] at a;split at a
  ·rename_i f
   have hq2:q ∈ (s.log.pcs++[(⟨Zcw s d,s.next,s.next⟩:Pce)]).map Pce.name:=a;rw[List.map_append] at hq2;rcases List.mem_append.1 hq2 with hq2 | hq2
   ·exact h q hq2
   ·have e:q=Zcw s d:=List.mem_singleton.1 hq2
    rw[e];unfold Zcw;rw[if_pos f];exact ZcP b 2 (by decide) (by decide)
  ·exact h q a
 ·exact h
theorem ZwO (h:NmI x.1.1) (e:OkD x.1.2) (o:SOp):NmI (Zbg x o).1.1:=by
 obtain⟨⟨s,d⟩,j⟩:=x;have c:=(ZiC (s,d)).2.2;have a:=(ZiB (s,d)).2.2;unfold Zbg;split
 ·exact ZsG h e _
 split
 ·exact ZfG h a
 split
 ·show NmI (Zbx (s,d)).1.1
  unfold Zbx;split
  ·exact ZfG h a
  ·exact ZfG h a
 split
 ·show NmI (Yp (s,d)).1.1
  unfold Yp;split
  ·exact ZfG h c
  ·exact ZfG h c
 split
 ·show NmI (Zaz (s,d)).1.1
  have b:=ZeP s d (s.log.pcs.filter (ZkB s));rw[<-Zlw] at b;unfold Zaz;split
  ·intro q f
   have g:q ∈ (ZdG s).map Pce.name:=f;obtain⟨p,i,rfl⟩:=List.mem_map.1 g;exact h p.name (List.mem_map.2 ⟨p,(List.mem_filter.1 i).1,rfl⟩)
  ·exact ZfG h b
 split
 ·exact h
 ·exact h
theorem Zqx (h:NmI x.1.1) (a:X5 x.1 x.2 0) (l:List SOp):∀ i,i<=l.length->NmI (runQ x l i).1.1
 | 0,_=>h
 | i+1,hi=>by
  have b:=Zqx h a l i (by omega)
  have c:=X5.runQ a l i (by omega)
  rw[ZnI x l i l[i] (by simp)]
  exact ZwO b c.okd _
end Go.Proofs.YtnahjngbneicaaaGreatDoor
