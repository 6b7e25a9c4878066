import Derived.Test.YtnahjngbneicaaaGreatDoorStoreRunO
namespace Go.Proofs.YtnahjngbneicaaaGreatDoor
open _root_.Go.Proofs.Tryz
set_option maxRecDepth 100000
theorem Zjo (s:Sto):∀ (ns:List Int) (d:Dk),ns.Pairwise (·≠·)->OkD d->(d.power≠0->∀ m ∈ ns,m ∈ Qk d)->
 (Qv (ns.map fun m=>Xm (fun d=>Qj d m)) (s,d)).1.1=s∧OkD (Qv (ns.map fun m=>Xm (fun d=>Qj d m)) (s,d)).1.2∧(∀ F B,SzD d F B->SzD (Qv (ns.map fun m=>Xm (fun d=>Qj d m)) (s,d)).1.2 F B)∧
 ((Qv (ns.map fun m=>Xm (fun d=>Qj d m)) (s,d)).1.2.power≠0->d.power≠0)∧((Qv (ns.map fun m=>Xm (fun d=>Qj d m)) (s,d)).2≠0->(Qv (ns.map fun m=>Xm (fun d=>Qj d m)) (s,d)).1.2.power=0)∧
 (∀ m,m ∉ ns->m ∈ Qk d->m ∈ Qk (Qv (ns.map fun m=>Xm (fun d=>Qj d m)) (s,d)).1.2)
 | [],d,_,hok,_=>⟨rfl,hok,fun _ _ h=>h,id,fun h=>absurd rfl h,fun _ _ h=>h⟩
 | n::ns,d,hp,hok,hin=>by
  rw[List.pairwise_cons] at hp;rw[List.map_cons,Qv];have q:(Xm (fun d=>Qj d n) (s,d)).2=(Qj d n).2:=rfl
  have j:(Xm (fun d=>Qj d n) (s,d)).1=(s,(Qj d n).1):=rfl
  rw[q,j];by_cases b:(Qj d n).2=0
  ·rw[if_pos b]
   obtain⟨k,g,t,p,w,i⟩:=Zjo s ns (Qj d n).1 hp.2 (hok.remove n) (fun h m a=>ZbA hok (fun e=>hp.1 m a e.symm) (hin (Zfg h) m (List.mem_cons_of_mem _ a)))
   refine⟨k,g,fun F B h=>t F B (Zol h),fun h=>Zfg (p h),w,fun m a h=>i m (fun v=>a (List.mem_cons_of_mem _ v)) (ZbA hok (fun e=>a (by rw[e];exact List.mem_cons_self)) h)⟩
  ·rw[if_neg b]
   have u:Xm (fun d=>Qj d n) (s,d)=((s,d),(Qj d n).2):=by
    show((s,(Qj d n).1),(Qj d n).2)=_;rw[ZbR b]
   rw[u];refine⟨rfl,hok,fun _ _ h=>h,id,fun _=>?_,fun _ _ h=>h⟩
   show d.power=0;apply Classical.byContradiction;intro c;obtain⟨f,l⟩:=(Y2 hok n).1 (hin c n List.mem_cons_self);apply b;unfold Qj;rw[if_neg c,l]
theorem ZxS {l:List Pce} (h:l.Pairwise (fun p q=>p.name<q.name)) {p q:Pce} (c:p ∈ l) (d:q ∈ l) (e:p.name=q.name):p=q:=by
 obtain⟨i,b,rfl⟩:=List.mem_iff_getElem.1 c;obtain⟨j,a,rfl⟩:=List.mem_iff_getElem.1 d;rcases Nat.lt_trichotomy i j with hij | hij | hij
 ·have:=List.pairwise_iff_getElem.1 h i j b a hij
  omega
 ·subst hij;rfl
 ·have:=List.pairwise_iff_getElem.1 h j i a b hij
  omega
theorem Zed {d:Dk} (h:(Qn d).2≠0):d.power=0∧(Qn d).1=d:=by
 unfold Qn at h ⊢;split
 ·rename_i a
  exact⟨a,rfl⟩
 ·rename_i a
  rw[if_neg a] at h;exact absurd rfl h
theorem X4.retain {x:SDk} {all:List Rec} {n:Nat} (h:X4 x all n):X4 (Z7 x).1 all n:=by
 obtain⟨s,d⟩:=x;have g:OkS s:=h.ok;have ab:OkD d:=h.okd;have w:s.log.pcs.Pairwise (fun p q=>p.name<q.name):=h.nam
 have O:s.cur≠0->∃ a p,s.log.pcs=a++[p]∧p.name=s.cur:=h.curL;have D:∀ p ∈ s.log.pcs,2<=p.name∧p.name % 2=0:=h.two;obtain⟨ns,E⟩:∃ ns,ns=(s.log.pcs.filter (Zex s)).map Pce.name:=⟨_,rfl⟩
 have Z:ZfC s=ns.map fun m=>Xm (fun d=>Qj d m):=by
  rw[E,List.map_map];rfl
 have aa:ns.Pairwise (·≠·):=by
  rw[E,List.pairwise_map];exact(w.sublist List.filter_sublist).imp (fun ai e=>by omega)
 have ae:d.power≠0->∀ m ∈ ns,m ∈ Qk d:=fun c m y=>by
  rw[E] at y;obtain⟨p,L,rfl⟩:=List.mem_map.1 y;exact h.on c p (List.mem_filter.1 L).1
 obtain⟨P,u,F,Q,U,N⟩:=Zjo s ns d aa ab ae;unfold Z7
 have W:Qv (ZfC s++[Qq]) (s,d)=if(Qv (ns.map fun m=>Xm (fun d=>Qj d m)) (s,d)).2=0 then Qv [Qq] (Qv (ns.map fun m=>Xm (fun d=>Qj d m)) (s,d)).1 else Qv (ns.map fun m=>Xm (fun d=>Qj d m)) (s,d):=by
  rw[Z];exact ZeY _ _ _
 rw[W];clear W;generalize Qv (ns.map fun m=>Xm (fun d=>Qj d m)) (s,d)=R at P u F Q U N
 obtain⟨⟨b,f⟩,c1⟩:=R;have Y:b=s:=P;subst Y;have V:∀ v:Dk,OkD v->SzD v n (6200+1300*n)->v.power=0->X4 (b,v) all n:=fun v l k j=>⟨g,h.len,h.recs,h.bs0,h.bsn,h.bas,h.pcn,h.rcn,h.nam,h.two,h.curL,fun hh=>absurd j hh,l,k⟩
 by_cases A:c1=0
 case neg=>
  rw[if_neg A,if_neg A];exact V f u (F _ _ h.sz) (U A)
 rw[if_pos A];have H:=Zdm Qq (b,f);have C:Qq (b,f)=((if(Qn f).2=0 then { b with nw:=false } else b,(Qn f).1),(Qn f).2):=rfl
 by_cases t:(Qn f).2=0
 case neg=>
  have K:¬ (Qv [Qq] (b,f)).2=0:=by rw[H.2,C];exact t
  rw[if_neg K];rw[H.1,C,if_neg t];obtain⟨l,k⟩:=Zed t;show X4 (b,(Qn f).1) all n;rw[k];exact V f u (F _ _ h.sz) l
 have K:(Qv [Qq] (b,f)).2=0:=by rw[H.2,C];exact t
 rw[if_pos K,H.1,C,if_pos t]
 have B:=ZkR f
 -- what is left
 have af:∀ p ∈ b.log.pcs.dropLast,p.name≠b.cur:=fun p c=>by
  by_cases i:b.cur=0
  ·have:=(D p ((List.dropLast_sublist _).subset c)).1
   omega
  ·obtain⟨a,q,G,I⟩:=O i
   rw[G,List.dropLast_concat] at c;rw[G,List.pairwise_append] at w;have:=w.2.2 p c q (by simp)
   omega
 obtain⟨l,k,j,S⟩:=g.log.letGo (cur:=b.cur) (base:=b.base.idx) af h.bas.1 h.bas.2;have ac:b.log.pcs.filter (fun p=>!(decide (p.stop<=b.base.idx) && decide (p.name≠b.cur)))=Gg b:=rfl
 rw[ac] at l k j S;have aj:=g.log.f0;have z:∀ p ∈ Gg b,p ∈ b.log.pcs:=fun p c=>(List.mem_filter.1 c).1
 have T:b.cur≠0->∃ a p,Gg b=a++[p]∧p.name=b.cur:=fun i=>by
  obtain⟨a,q,G,I⟩:=O i;refine⟨a.filter (fun p=>!Zex b p),q,?_,I⟩
  unfold Gg;rw[G,List.filter_append]
  congr 1
  rw[List.filter_cons,if_pos (by unfold Zex;simp[I])]
  rfl
 refine⟨⟨l,?_,g.now,?_,g.sy,g.cu⟩,?_,?_,h.bs0,h.bsn,⟨k,?_⟩,?_,h.rcn,?_,fun p c=>D p (z p c),T,fun i p c=>?_,B.ok u,B.sz _ _ (F _ _ h.sz)⟩
 ·show b.now.idx=(b.log.letGo (Gg b) b.base.idx).next
  rw[j];exact g.nx
 ·intro i
  obtain⟨a,p,c,-⟩:=T i;show(Gg b).length≠0;rw[c];simp
 ·show(b.log.letGo (Gg b) b.base.idx).next=_
  rw[j];exact h.len
 ·show b.log.recs.drop (Zg (Gg b) b.base.idx-b.log.first).toNat=all.drop (Zg (Gg b) b.base.idx).toNat
  have X:b.log.recs=all.drop b.log.first.toNat:=h.recs;have ag:b.log.first<=Zg (Gg b) b.base.idx:=S;rw[X,List.drop_drop]
  congr 1
  omega
 ·show b.base.idx<=(b.log.letGo (Gg b) b.base.idx).next
  rw[j];exact h.bas.2
 ·exact Nat.le_trans (List.length_filter_le _ _) h.pcn
 ·exact w.sublist List.filter_sublist
 ·have ad:f.power≠0:=B.pw i
  have L:d.power≠0:=Q ad;have h1:p.name ∈ Qk d:=h.on L p (z p c)
  have h2:p.name ∉ ns:=fun y=>by
   rw[E] at y;obtain⟨q,J,e⟩:=List.mem_map.1 y;have:=ZxS w (List.mem_filter.1 J).1 (z p c) e;rw[this] at J;have h3:=(List.mem_filter.1 J).2;have M:=(List.mem_filter.1 c).2;rw[h3] at M
   cases M
  exact B.nm u p.name (D p (z p c)).1 (D p (z p c)).2 (N p.name h2 h1)
theorem X4.step {x:Run} {n:Nat} (h:X4 x.1 x.2 n) (o:SOp):X4 (Jc x o).1 (Jc x o).2 (n+1):=by
 unfold Jc;split
 ·exact h.append _ (ZkQ _ _)
 split
 ·exact h.sync.more
 split
 ·exact h.rotate.more
 split
 ·exact h.checkpoint
 split
 ·exact h.retain.more
 split
 ·obtain⟨⟨s,d⟩,all⟩:=x
  exact(X4.cut h o.n).more
 ·exact h.more
theorem X4.run:∀ (l:List SOp) {x:Run} {n:Nat},X4 x.1 x.2 n->X4 (l.foldl Jc x).1 (l.foldl Jc x).2 (n+l.length)
 | [],_,_,h=>h
 | o::l,x,n,h=>by
  have:=X4.run l (h.step o);rw[List.length_cons,List.foldl_cons];rw[show n+(l.length+1)=n+1+l.length by omega]
  exact this
end Go.Proofs.YtnahjngbneicaaaGreatDoor
