import Derived.Test.YtnahjngbneicaaaGreatDoorStoreRunO
namespace Go.Proofs.YtnahjngbneicaaaGreatDoor
open _root_.Go.Proofs.Tryz
set_option maxRecDepth 100000
theorem ZqX (s:Sto):∀ (ns:List Int) (d:Dk),ns.Pairwise (·≠·)->OkD d->(d.power≠0->∀ m ∈ ns,m ∈ Zak d)->
 (Zbj (ns.map fun m=>Zbv (fun d=>Zam d m)) (s,d)).1.1=s∧OkD (Zbj (ns.map fun m=>Zbv (fun d=>Zam d m)) (s,d)).1.2∧(∀ F B,SzD d F B->SzD (Zbj (ns.map fun m=>Zbv (fun d=>Zam d m)) (s,d)).1.2 F B)∧
 ((Zbj (ns.map fun m=>Zbv (fun d=>Zam d m)) (s,d)).1.2.power≠0->d.power≠0)∧((Zbj (ns.map fun m=>Zbv (fun d=>Zam d m)) (s,d)).2≠0->(Zbj (ns.map fun m=>Zbv (fun d=>Zam d m)) (s,d)).1.2.power=0)∧
 (∀ m,m ∉ ns->m ∈ Zak d->m ∈ Zak (Zbj (ns.map fun m=>Zbv (fun d=>Zam d m)) (s,d)).1.2)
 | [],d,_,hok,_=>⟨rfl,hok,fun _ _ h=>h,id,fun h=>absurd rfl h,fun _ _ h=>h⟩
 | n::ns,d,hp,hok,hin=>by
  rw[List.pairwise_cons] at hp;rw[List.map_cons,Zbj];have t:(Zbv (fun d=>Zam d n) (s,d)).2=(Zam d n).2:=rfl
  have i:(Zbv (fun d=>Zam d n) (s,d)).1=(s,(Zam d n).1):=rfl
  rw[t,i];by_cases b:(Zam d n).2=0
  ·rw[if_pos b]
   obtain⟨k,p,w,v,q,u⟩:=ZqX s ns (Zam d n).1 hp.2 (hok.remove n) (fun h m a=>Zgk hok (fun e=>hp.1 m a e.symm) (hin (Zmc h) m (List.mem_cons_of_mem _ a)))
   refine⟨k,p,fun F B h=>w F B (ZqN h),fun h=>Zmc (v h),q,fun m a h=>u m (fun g=>a (List.mem_cons_of_mem _ g)) (Zgk hok (fun e=>a (by rw[e];exact List.mem_cons_self)) h)⟩
  ·rw[if_neg b]
   have l:Zbv (fun d=>Zam d n) (s,d)=((s,d),(Zam d n).2):=by
    show((s,(Zam d n).1),(Zam d n).2)=_;rw[ZnC b]
   rw[l];refine⟨rfl,hok,fun _ _ h=>h,id,fun _=>?_,fun _ _ h=>h⟩
   show d.power=0;apply Classical.byContradiction;intro c;obtain⟨f,j⟩:=(ZcK hok n).1 (hin c n List.mem_cons_self);apply b;unfold Zam;rw[if_neg c,j]
theorem ZAc {l:List Pce} (h:l.Pairwise (fun p q=>p.name<q.name)) {p q:Pce} (c:p ∈ l) (d:q ∈ l) (e:p.name=q.name):p=q:=by
 obtain⟨i,b,rfl⟩:=List.mem_iff_getElem.1 c;obtain⟨j,a,rfl⟩:=List.mem_iff_getElem.1 d;rcases Nat.lt_trichotomy i j with hij | hij | hij
 ·have:=List.pairwise_iff_getElem.1 h i j b a hij
  omega
 ·subst hij;rfl
 ·have:=List.pairwise_iff_getElem.1 h j i a b hij
  omega
theorem ZsR {d:Dk} (h:(ZaS d).2≠0):d.power=0∧(ZaS d).1=d:=by
 unfold ZaS at h ⊢;split
 ·rename_i a
  exact⟨a,rfl⟩
 ·rename_i a
  rw[if_neg a] at h;exact absurd rfl h
theorem ZcB.retain {x:SDk} {l:List Rec} {n:Nat} (h:ZcB x l n):ZcB (ZdA x).1 l n:=by
 obtain⟨s,d⟩:=x;have i:OkS s:=h.ok;have aa:OkD d:=h.okd;have A:s.log.pcs.Pairwise (fun p q=>p.name<q.name):=h.nam
 have Q:s.cur≠0->∃ a p,s.log.pcs=a++[p]∧p.name=s.cur:=h.curL;have H:∀ p ∈ s.log.pcs,2<=p.name∧p.name % 2=0:=h.two;obtain⟨ns,B⟩:∃ ns,ns=(s.log.pcs.filter (ZnR s)).map Pce.name:=⟨_,rfl⟩
 have ac:ZnS s=ns.map fun m=>Zbv (fun d=>Zam d m):=by
  rw[B,List.map_map];rfl
 have ae:ns.Pairwise (·≠·):=by
  rw[B,List.pairwise_map];exact(A.sublist List.filter_sublist).imp (fun ah e=>by omega)
 have ad:d.power≠0->∀ m ∈ ns,m ∈ Zak d:=fun c m v=>by
  rw[B] at v;obtain⟨p,L,rfl⟩:=List.mem_map.1 v;exact h.on c p (List.mem_filter.1 L).1
 obtain⟨P,z,I,V,T,U⟩:=ZqX s ns d ae aa ad;unfold ZdA
 have X:Zbj (ZnS s++[Zar]) (s,d)=if(Zbj (ns.map fun m=>Zbv (fun d=>Zam d m)) (s,d)).2=0 then Zbj [Zar] (Zbj (ns.map fun m=>Zbv (fun d=>Zam d m)) (s,d)).1 else Zbj (ns.map fun m=>Zbv (fun d=>Zam d m)) (s,d):=by
  rw[ac];exact ZjZ _ _ _
 rw[X];clear X;generalize Zbj (ns.map fun m=>Zbv (fun d=>Zam d m)) (s,d)=R at P z I V T U
 obtain⟨⟨b,f⟩,c1⟩:=R;have Z:b=s:=P;subst Z;have O:∀ u:Dk,OkD u->SzD u n (6200+1300*n)->u.power=0->ZcB (b,u) l n:=fun u k j t=>⟨i,h.len,h.recs,h.bs0,h.bsn,h.bas,h.pcn,h.rcn,h.nam,h.two,h.curL,fun hh=>absurd t hh,k,j⟩
 by_cases E:c1=0
 case neg=>
  rw[if_neg E,if_neg E];exact O f z (I _ _ h.sz) (T E)
 rw[if_pos E];have F:=ZtF Zar (b,f);have G:Zar (b,f)=((if(ZaS f).2=0 then { b with nw:=false } else b,(ZaS f).1),(ZaS f).2):=rfl
 by_cases w:(ZaS f).2=0
 case neg=>
  have J:¬ (Zbj [Zar] (b,f)).2=0:=by rw[F.2,G];exact w
  rw[if_neg J];rw[F.1,G,if_neg w];obtain⟨k,j⟩:=ZsR w;show ZcB (b,(ZaS f).1) l n;rw[j];exact O f z (I _ _ h.sz) k
 have J:(Zbj [Zar] (b,f)).2=0:=by rw[F.2,G];exact w
 rw[if_pos J,F.1,G,if_pos w]
 have D:=ZnB f
 -- what is left
 have ag:∀ p ∈ b.log.pcs.dropLast,p.name≠b.cur:=fun p c=>by
  by_cases g:b.cur=0
  ·have:=(H p ((List.dropLast_sublist _).subset c)).1
   omega
  ·obtain⟨a,q,C,K⟩:=Q g
   rw[C,List.dropLast_concat] at c;rw[C,List.pairwise_append] at A;have:=A.2.2 p c q (by simp)
   omega
 obtain⟨k,j,t,W⟩:=i.log.letGo (cur:=b.cur) (base:=b.base.idx) ag h.bas.1 h.bas.2;have af:b.log.pcs.filter (fun p=>!(decide (p.stop<=b.base.idx) && decide (p.name≠b.cur)))=ZgW b:=rfl
 rw[af] at k j t W;have ai:=i.log.f0;have y:∀ p ∈ ZgW b,p ∈ b.log.pcs:=fun p c=>(List.mem_filter.1 c).1
 have S:b.cur≠0->∃ a p,ZgW b=a++[p]∧p.name=b.cur:=fun g=>by
  obtain⟨a,q,C,K⟩:=Q g;refine⟨a.filter (fun p=>!ZnR b p),q,?_,K⟩
  unfold ZgW;rw[C,List.filter_append]
  congr 1
  rw[List.filter_cons,if_pos (by unfold ZnR;simp[K])]
  rfl
 refine⟨⟨k,?_,i.now,?_,i.sy,i.cu⟩,?_,?_,h.bs0,h.bsn,⟨j,?_⟩,?_,h.rcn,?_,fun p c=>H p (y p c),S,fun g p c=>?_,D.ok z,D.sz _ _ (I _ _ h.sz)⟩
 ·show b.now.idx=(b.log.letGo (ZgW b) b.base.idx).next
  rw[t];exact i.nx
 ·intro g
  obtain⟨a,p,c,-⟩:=S g;show(ZgW b).length≠0;rw[c];simp
 ·show(b.log.letGo (ZgW b) b.base.idx).next=_
  rw[t];exact h.len
 ·show b.log.recs.drop (ZbK (ZgW b) b.base.idx-b.log.first).toNat=l.drop (ZbK (ZgW b) b.base.idx).toNat
  have hr:b.log.recs=l.drop b.log.first.toNat:=h.recs;have aj:b.log.first<=ZbK (ZgW b) b.base.idx:=W;rw[hr,List.drop_drop]
  congr 1
  omega
 ·show b.base.idx<=(b.log.letGo (ZgW b) b.base.idx).next
  rw[t];exact h.bas.2
 ·exact Nat.le_trans (List.length_filter_le _ _) h.pcn
 ·exact A.sublist List.filter_sublist
 ·have ab:f.power≠0:=D.pw g
  have L:d.power≠0:=V ab;have Y:p.name ∈ Zak d:=h.on L p (y p c)
  have h2:p.name ∉ ns:=fun v=>by
   rw[B] at v;obtain⟨q,M,e⟩:=List.mem_map.1 v;have:=ZAc A (List.mem_filter.1 M).1 (y p c) e;rw[this] at M;have h3:=(List.mem_filter.1 M).2;have N:=(List.mem_filter.1 c).2;rw[h3] at N
   cases N
  exact D.nm z p.name (H p (y p c)).1 (H p (y p c)).2 (U p.name h2 Y)
theorem ZcB.step {x:Run} {n:Nat} (h:ZcB x.1 x.2 n) (o:SOp):ZcB (Zer x o).1 (Zer x o).2 (n+1):=by
 unfold Zer;split
 ·exact h.append _ (Znz _ _)
 split
 ·exact h.sync.more
 split
 ·exact h.rotate.more
 split
 ·exact h.checkpoint
 split
 ·exact h.retain.more
 split
 ·obtain⟨⟨s,d⟩,a⟩:=x
  exact(ZcB.cut h o.n).more
 ·exact h.more
theorem ZcB.run:∀ (l:List SOp) {x:Run} {n:Nat},ZcB x.1 x.2 n->ZcB (l.foldl Zer x).1 (l.foldl Zer x).2 (n+l.length)
 | [],_,_,h=>h
 | o::l,x,n,h=>by
  have:=ZcB.run l (h.step o);rw[List.length_cons,List.foldl_cons];rw[show n+(l.length+1)=n+1+l.length by omega]
  exact this
end Go.Proofs.YtnahjngbneicaaaGreatDoor
