import Derived.Test.YtfiffndhehkapaaGreatDoorStoreRunO
namespace Go.Proofs.YtfiffndhehkapaaGreatDoor
set_option maxRecDepth 100000
theorem Zql (s:Sto):∀ (ns:List Int) (d:Dk),ns.Pairwise (·≠·)->OkD d->(d.power≠0->∀ m ∈ ns,m ∈ Zak d)->
 (Zbh (ns.map fun m=>Zbu (fun d=>Zam d m)) (s,d)).1.1=s∧OkD (Zbh (ns.map fun m=>Zbu (fun d=>Zam d m)) (s,d)).1.2∧(∀ F B,SzD d F B->SzD (Zbh (ns.map fun m=>Zbu (fun d=>Zam d m)) (s,d)).1.2 F B)∧
 ((Zbh (ns.map fun m=>Zbu (fun d=>Zam d m)) (s,d)).1.2.power≠0->d.power≠0)∧((Zbh (ns.map fun m=>Zbu (fun d=>Zam d m)) (s,d)).2≠0->(Zbh (ns.map fun m=>Zbu (fun d=>Zam d m)) (s,d)).1.2.power=0)∧
 (∀ m,m ∉ ns->m ∈ Zak d->m ∈ Zak (Zbh (ns.map fun m=>Zbu (fun d=>Zam d m)) (s,d)).1.2)
 | [],d,_,hok,_=>⟨rfl,hok,fun _ _ h=>h,id,fun h=>absurd rfl h,fun _ _ h=>h⟩
 | n::ns,d,hp,hok,hin=>by
  rw[List.pairwise_cons] at hp
  rw[List.map_cons,Zbh]
  have e1:(Zbu (fun d=>Zam d n) (s,d)).2=(Zam d n).2:=rfl
  have e2:(Zbu (fun d=>Zam d n) (s,d)).1=(s,(Zam d n).1):=rfl
  rw[e1,e2]
  by_cases hc:(Zam d n).2=0
  ·rw[if_pos hc]
   obtain⟨i1,i2,i3,i4,i5,i6⟩:=Zql s ns (Zam d n).1 hp.2 (hok.remove n) (fun h m hm=>ZfX hok (fun e=>hp.1 m hm e.symm) (hin (ZlB h) m (List.mem_cons_of_mem _ hm)))
   refine⟨i1,i2,fun F B h=>i3 F B (Zqb h),fun h=>ZlB (i4 h),i5,fun m hm h=>i6 m (fun h1=>hm (List.mem_cons_of_mem _ h1)) (ZfX hok (fun e=>hm (by rw[e];exact List.mem_cons_self)) h)⟩
  ·rw[if_neg hc]
   have hd:Zbu (fun d=>Zam d n) (s,d)=((s,d),(Zam d n).2):=by
    show((s,(Zam d n).1),(Zam d n).2)=_
    rw[Zna hc]
   rw[hd]
   refine⟨rfl,hok,fun _ _ h=>h,id,fun _=>?_,fun _ _ h=>h⟩
   show d.power=0
   apply Classical.byContradiction
   intro hpw
   obtain⟨f,hf⟩:=(ZcE hok n).1 (hin hpw n List.mem_cons_self)
   apply hc
   unfold Zam
   rw[if_neg hpw,hf]
theorem Zzf {l:List Pce} (h:l.Pairwise (fun p q=>p.name<q.name)) {p q:Pce} (hp:p ∈ l) (hq:q ∈ l) (e:p.name=q.name):p=q:=by
 obtain⟨i,hi,rfl⟩:=List.mem_iff_getElem.1 hp
 obtain⟨j,hj,rfl⟩:=List.mem_iff_getElem.1 hq
 rcases Nat.lt_trichotomy i j with hij | hij | hij
 ·have:=List.pairwise_iff_getElem.1 h i j hi hj hij
  omega
 ·subst hij;rfl
 ·have:=List.pairwise_iff_getElem.1 h j i hj hi hij
  omega
theorem Zsi {d:Dk} (h:(ZaP d).2≠0):d.power=0∧(ZaP d).1=d:=by
 unfold ZaP at h ⊢
 split
 ·rename_i h1
  exact⟨h1,rfl⟩
 ·rename_i h1
  rw[if_neg h1] at h
  exact absurd rfl h
theorem Zcw.retain {x:SDk} {all:List Rec} {n:Nat} (h:Zcw x all n):Zcw (Zdv x).1 all n:=by
 obtain⟨s,d⟩:=x
 have hok:OkS s:=h.ok
 have hokd:OkD d:=h.okd
 have hnam:s.log.pcs.Pairwise (fun p q=>p.name<q.name):=h.nam
 have hcurL:s.cur≠0->∃ a p,s.log.pcs=a++[p]∧p.name=s.cur:=h.curL
 have htwo:∀ p ∈ s.log.pcs,2<=p.name∧p.name % 2=0:=h.two
 obtain⟨ns,hns⟩:∃ ns,ns=(s.log.pcs.filter (Znr s)).map Pce.name:=⟨_,rfl⟩
 have hdr:Zns s=ns.map fun m=>Zbu (fun d=>Zam d m):=by
  rw[hns,List.map_map]
  rfl
 have hpw:ns.Pairwise (·≠·):=by
  rw[hns,List.pairwise_map]
  exact(hnam.sublist List.filter_sublist).imp (fun hlt e=>by omega)
 have hin:d.power≠0->∀ m ∈ ns,m ∈ Zak d:=fun hp m hm=>by
  rw[hns] at hm
  obtain⟨p,hp2,rfl⟩:=List.mem_map.1 hm
  exact h.on hp p (List.mem_filter.1 hp2).1
 obtain⟨i1,i2,i3,i4,i5,i6⟩:=Zql s ns d hpw hokd hin
 unfold Zdv
 have hsq:Zbh (Zns s++[Zaq]) (s,d)=if(Zbh (ns.map fun m=>Zbu (fun d=>Zam d m)) (s,d)).2=0 then Zbh [Zaq] (Zbh (ns.map fun m=>Zbu (fun d=>Zam d m)) (s,d)).1 else Zbh (ns.map fun m=>Zbu (fun d=>Zam d m)) (s,d):=by
  rw[hdr]
  exact Zjy _ _ _
 rw[hsq]
 clear hsq
 generalize Zbh (ns.map fun m=>Zbu (fun d=>Zam d m)) (s,d)=R at i1 i2 i3 i4 i5 i6
 obtain⟨⟨s1,d1⟩,c1⟩:=R
 have i1':s1=s:=i1
 subst i1'
 have hdark:∀ d2:Dk,OkD d2->SzD d2 n (6200+1300*n)->d2.power=0->Zcw (s1,d2) all n:=fun d2 k1 k2 k3=>⟨hok,h.len,h.recs,h.bs0,h.bsn,h.bas,h.pcn,h.rcn,h.nam,h.two,h.curL,fun hh=>absurd k3 hh,k1,k2⟩
 by_cases hc1:c1=0
 case neg=>
  rw[if_neg hc1,if_neg hc1]
  exact hdark d1 i2 (i3 _ _ h.sz) (i5 hc1)
 rw[if_pos hc1]
 have hso:=ZsU Zaq (s1,d1)
 have hsd:Zaq (s1,d1)=((if(ZaP d1).2=0 then { s1 with nw:=false } else s1,(ZaP d1).1),(ZaP d1).2):=rfl
 by_cases hc2:(ZaP d1).2=0
 case neg=>
  have hcc:¬ (Zbh [Zaq] (s1,d1)).2=0:=by rw[hso.2,hsd];exact hc2
  rw[if_neg hcc]
  rw[hso.1,hsd,if_neg hc2]
  obtain⟨k1,k2⟩:=Zsi hc2
  show Zcw (s1,(ZaP d1).1) all n
  rw[k2]
  exact hdark d1 i2 (i3 _ _ h.sz) k1
 have hcc:(Zbh [Zaq] (s1,d1)).2=0:=by rw[hso.2,hsd];exact hc2
 rw[if_pos hcc,hso.1,hsd,if_pos hc2]
 have hkp:=ZmZ d1
 -- what is left
 have hcur:∀ p ∈ s1.log.pcs.dropLast,p.name≠s1.cur:=fun p hp=>by
  by_cases h0:s1.cur=0
  ·have:=(htwo p ((List.dropLast_sublist _).subset hp)).1
   omega
  ·obtain⟨a,q,hq1,hq2⟩:=hcurL h0
   rw[hq1,List.dropLast_concat] at hp
   rw[hq1,List.pairwise_append] at hnam
   have:=hnam.2.2 p hp q (by simp)
   omega
 obtain⟨k1,k2,k3,k4⟩:=hok.log.letGo (cur:=s1.cur) (base:=s1.base.idx) hcur h.bas.1 h.bas.2
 have hleft:s1.log.pcs.filter (fun p=>!(decide (p.stop<=s1.base.idx) && decide (p.name≠s1.cur)))=ZgJ s1:=rfl
 rw[hleft] at k1 k2 k3 k4
 have hf0:=hok.log.f0
 have hsub:∀ p ∈ ZgJ s1,p ∈ s1.log.pcs:=fun p hp=>(List.mem_filter.1 hp).1
 have hcl:s1.cur≠0->∃ a p,ZgJ s1=a++[p]∧p.name=s1.cur:=fun h0=>by
  obtain⟨a,q,hq1,hq2⟩:=hcurL h0
  refine⟨a.filter (fun p=>!Znr s1 p),q,?_,hq2⟩
  unfold ZgJ
  rw[hq1,List.filter_append]
  congr 1
  rw[List.filter_cons,if_pos (by unfold Znr;simp[hq2])]
  rfl
 refine⟨⟨k1,?_,hok.now,?_,hok.sy,hok.cu⟩,?_,?_,h.bs0,h.bsn,⟨k2,?_⟩,?_,h.rcn,?_,fun p hp=>htwo p (hsub p hp),hcl,fun h0 p hp=>?_,hkp.ok i2,hkp.sz _ _ (i3 _ _ h.sz)⟩
 ·show s1.now.idx=(s1.log.letGo (ZgJ s1) s1.base.idx).next
  rw[k3]
  exact hok.nx
 ·intro h0
  obtain⟨a,p,hp,-⟩:=hcl h0
  show(ZgJ s1).length≠0
  rw[hp]
  simp
 ·show(s1.log.letGo (ZgJ s1) s1.base.idx).next=_
  rw[k3]
  exact h.len
 ·show s1.log.recs.drop (ZbI (ZgJ s1) s1.base.idx-s1.log.first).toNat=all.drop (ZbI (ZgJ s1) s1.base.idx).toNat
  have hr:s1.log.recs=all.drop s1.log.first.toNat:=h.recs
  have k4':s1.log.first<=ZbI (ZgJ s1) s1.base.idx:=k4
  rw[hr,List.drop_drop]
  congr 1
  omega
 ·show s1.base.idx<=(s1.log.letGo (ZgJ s1) s1.base.idx).next
  rw[k3]
  exact h.bas.2
 ·exact Nat.le_trans (List.length_filter_le _ _) h.pcn
 ·exact hnam.sublist List.filter_sublist
 ·have hp1:d1.power≠0:=hkp.pw h0
  have hp2:d.power≠0:=i4 hp1
  have h1:p.name ∈ Zak d:=h.on hp2 p (hsub p hp)
  have h2:p.name ∉ ns:=fun hm=>by
   rw[hns] at hm
   obtain⟨q,hq,e⟩:=List.mem_map.1 hm
   have:=Zzf hnam (List.mem_filter.1 hq).1 (hsub p hp) e
   rw[this] at hq
   have h3:=(List.mem_filter.1 hq).2
   have h4:=(List.mem_filter.1 hp).2
   rw[h3] at h4
   cases h4
  exact hkp.nm i2 p.name (htwo p (hsub p hp)).1 (htwo p (hsub p hp)).2 (i6 p.name h2 h1)
theorem Zcw.step {x:Run} {n:Nat} (h:Zcw x.1 x.2 n) (o:SOp):Zcw (Zel x o).1 (Zel x o).2 (n+1):=by
 unfold Zel
 split
 ·exact h.append _ (ZmX _ _)
 split
 ·exact h.sync.more
 split
 ·exact h.rotate.more
 split
 ·exact h.checkpoint
 split
 ·exact h.retain.more
 split
 ·obtain⟨⟨s,d⟩,all⟩:=x
  exact(Zcw.cut h o.n).more
 ·exact h.more
theorem Zcw.run:∀ (l:List SOp) {x:Run} {n:Nat},Zcw x.1 x.2 n->Zcw (l.foldl Zel x).1 (l.foldl Zel x).2 (n+l.length)
 | [],_,_,h=>h
 | o::l,x,n,h=>by
  have:=Zcw.run l (h.step o)
  rw[List.length_cons,List.foldl_cons]
  rw[show n+(l.length+1)=n+1+l.length by omega]
  exact this
end Go.Proofs.YtfiffndhehkapaaGreatDoor
