import Derived.Test.YtnahjngbneicaaaGreatDoorStoreRunO
namespace Go.Proofs.YtnahjngbneicaaaGreatDoor
open _root_.Go.Proofs.Tryz
set_option maxRecDepth 100000
theorem Zjo (s:Sto):∀ (ns:List Int) (d:Dk),ns.Pairwise (·≠·)->OkD d->(d.power≠0->∀ m ∈ ns,m ∈ Qk d)->
 (Qv (ns.map fun m=>Xm (fun d=>Qj d m)) (s,d)).1.1=s∧OkD (Qv (ns.map fun m=>Xm (fun d=>Qj d m)) (s,d)).1.2∧(∀ F B,SzD d F B->SzD (Qv (ns.map fun m=>Xm (fun d=>Qj d m)) (s,d)).1.2 F B)∧
 ((Qv (ns.map fun m=>Xm (fun d=>Qj d m)) (s,d)).1.2.power≠0->d.power≠0)∧((Qv (ns.map fun m=>Xm (fun d=>Qj d m)) (s,d)).2≠0->(Qv (ns.map fun m=>Xm (fun d=>Qj d m)) (s,d)).1.2.power=0)∧
 (∀ m,m ∉ ns->m ∈ Qk d->m ∈ Qk (Qv (ns.map fun m=>Xm (fun d=>Qj d m)) (s,d)).1.2)
 | [],d,_,hok,_=>⟨rfl,hok,fun _ _ h=>h,id,fun h=>absurd rfl h,fun _ _ h=>h⟩
 | n::ns,d,hp,hok,hin=>by
  rw[List.pairwise_cons] at hp;rw[List.map_cons,Qv];have w:(Xm (fun d=>Qj d n) (s,d)).2=(Qj d n).2:=rfl
  have q:(Xm (fun d=>Qj d n) (s,d)).1=(s,(Qj d n).1):=rfl
  rw[w,q];by_cases b:(Qj d n).2=0
  ·rw[if_pos b]
   obtain⟨l,j,u,k,t,i⟩:=Zjo s ns (Qj d n).1 hp.2 (hok.remove n) (fun h m a=>ZbA hok (fun e=>hp.1 m a e.symm) (hin (Zfg h) m (List.mem_cons_of_mem _ a)))
   refine⟨l,j,fun F B h=>u F B (Zol h),fun h=>Zfg (k h),t,fun m a h=>i m (fun v=>a (List.mem_cons_of_mem _ v)) (ZbA hok (fun e=>a (by rw[e];exact List.mem_cons_self)) h)⟩
  ·rw[if_neg b]
   have p:Xm (fun d=>Qj d n) (s,d)=((s,d),(Qj d n).2):=by
    show((s,(Qj d n).1),(Qj d n).2)=_;rw[ZbR b]
   rw[p];refine⟨rfl,hok,fun _ _ h=>h,id,fun _=>?_,fun _ _ h=>h⟩
   show d.power=0;apply Classical.byContradiction;intro c;obtain⟨f,g⟩:=(Y2 hok n).1 (hin c n List.mem_cons_self);apply b;unfold Qj;rw[if_neg c,g]
theorem ZxS {l:List Pce} (h:l.Pairwise (fun p q=>p.name<q.name)) {p q:Pce} (d:p ∈ l) (c:q ∈ l) (e:p.name=q.name):p=q:=by
 obtain⟨i,a,rfl⟩:=List.mem_iff_getElem.1 d;obtain⟨j,b,rfl⟩:=List.mem_iff_getElem.1 c;rcases Nat.lt_trichotomy i j with hij | hij | hij
 ·have:=List.pairwise_iff_getElem.1 h i j a b hij
  omega
 ·subst hij;rfl
 ·have:=List.pairwise_iff_getElem.1 h j i b a hij
  omega
theorem Zed {d:Dk} (h:(Qn d).2≠0):d.power=0∧(Qn d).1=d:=by
 unfold Qn at h ⊢;split
 ·rename_i a
  exact⟨a,rfl⟩
 ·rename_i a
  rw[if_neg a] at h;exact absurd rfl h
theorem X4.retain {x:SDk} {all:List Rec} {n:Nat} (h:X4 x all n):X4 (Z7 x).1 all n:=by
 obtain⟨s,d⟩:=x;have g:OkS s:=h.ok;have af:OkD d:=h.okd;have z:s.log.pcs.Pairwise (fun p q=>p.name<q.name):=h.nam
 have W:s.cur≠0->∃ a p,s.log.pcs=a++[p]∧p.name=s.cur:=h.curL;have A:∀ p ∈ s.log.pcs,2<=p.name∧p.name % 2=0:=h.two;obtain⟨ns,B⟩:∃ ns,ns=(s.log.pcs.filter (Zex s)).map Pce.name:=⟨_,rfl⟩
 have ab:ZfC s=ns.map fun m=>Xm (fun d=>Qj d m):=by
  rw[B,List.map_map];rfl
 have ah:ns.Pairwise (·≠·):=by
  rw[B,List.pairwise_map];exact(z.sublist List.filter_sublist).imp (fun ak e=>by omega)
 have aa:d.power≠0->∀ m ∈ ns,m ∈ Qk d:=fun c m t=>by
  rw[B] at t;obtain⟨p,J,rfl⟩:=List.mem_map.1 t;exact h.on c p (List.mem_filter.1 J).1
 obtain⟨T,u,H,S,V,M⟩:=Zjo s ns d ah af aa;unfold Z7
 have N:Qv (ZfC s++[Qq]) (s,d)=if(Qv (ns.map fun m=>Xm (fun d=>Qj d m)) (s,d)).2=0 then Qv [Qq] (Qv (ns.map fun m=>Xm (fun d=>Qj d m)) (s,d)).1 else Qv (ns.map fun m=>Xm (fun d=>Qj d m)) (s,d):=by
  rw[ab];exact ZeY _ _ _
 rw[N];clear N;generalize Qv (ns.map fun m=>Xm (fun d=>Qj d m)) (s,d)=R at T u H S V M
 obtain⟨⟨b,f⟩,X⟩:=R;have ad:b=s:=T;subst ad;have P:∀ w:Dk,OkD w->SzD w n (6200+1300*n)->w.power=0->X4 (b,w) all n:=fun w k j l=>⟨g,h.len,h.recs,h.bs0,h.bsn,h.bas,h.pcn,h.rcn,h.nam,h.two,h.curL,fun Y=>absurd l Y,k,j⟩
 by_cases C:X=0
 case neg=>
  rw[if_neg C,if_neg C];exact P f u (H _ _ h.sz) (V C)
 rw[if_pos C];have G:=Zdm Qq (b,f);have E:Qq (b,f)=((if(Qn f).2=0 then { b with nw:=false } else b,(Qn f).1),(Qn f).2):=rfl
 by_cases y:(Qn f).2=0
 case neg=>
  have I:¬ (Qv [Qq] (b,f)).2=0:=by rw[G.2,E];exact y
  rw[if_neg I];rw[G.1,E,if_neg y];obtain⟨k,j⟩:=Zed y;show X4 (b,(Qn f).1) all n;rw[j];exact P f u (H _ _ h.sz) k
 have I:(Qv [Qq] (b,f)).2=0:=by rw[G.2,E];exact y
 rw[if_pos I,G.1,E,if_pos y]
 have D:=ZkR f
 -- what is left
 have ac:∀ p ∈ b.log.pcs.dropLast,p.name≠b.cur:=fun p c=>by
  by_cases i:b.cur=0
  ·have:=(A p ((List.dropLast_sublist _).subset c)).1
   omega
  ·obtain⟨a,q,F,K⟩:=W i
   rw[F,List.dropLast_concat] at c;rw[F,List.pairwise_append] at z;have:=z.2.2 p c q (by simp)
   omega
 obtain⟨k,j,l,O⟩:=g.log.letGo (cur:=b.cur) (base:=b.base.idx) ac h.bas.1 h.bas.2;have ag:b.log.pcs.filter (fun p=>!(decide (p.stop<=b.base.idx) && decide (p.name≠b.cur)))=Gg b:=rfl
 rw[ag] at k j l O;have ai:=g.log.f0;have v:∀ p ∈ Gg b,p ∈ b.log.pcs:=fun p c=>(List.mem_filter.1 c).1
 have U:b.cur≠0->∃ a p,Gg b=a++[p]∧p.name=b.cur:=fun i=>by
  obtain⟨a,q,F,K⟩:=W i;refine⟨a.filter (fun p=>!Zex b p),q,?_,K⟩
  unfold Gg;rw[F,List.filter_append]
  congr 1
  rw[List.filter_cons,if_pos (by unfold Zex;simp[K])]
  rfl
 refine⟨⟨k,?_,g.now,?_,g.sy,g.cu⟩,?_,?_,h.bs0,h.bsn,⟨j,?_⟩,?_,h.rcn,?_,fun p c=>A p (v p c),U,fun i p c=>?_,D.ok u,D.sz _ _ (H _ _ h.sz)⟩
 ·show b.now.idx=(b.log.letGo (Gg b) b.base.idx).next
  rw[l];exact g.nx
 ·intro i
  obtain⟨a,p,c,-⟩:=U i;show(Gg b).length≠0;rw[c];simp
 ·show(b.log.letGo (Gg b) b.base.idx).next=_
  rw[l];exact h.len
 ·show b.log.recs.drop (Zg (Gg b) b.base.idx-b.log.first).toNat=all.drop (Zg (Gg b) b.base.idx).toNat
  have Z:b.log.recs=all.drop b.log.first.toNat:=h.recs;have aj:b.log.first<=Zg (Gg b) b.base.idx:=O;rw[Z,List.drop_drop]
  congr 1
  omega
 ·show b.base.idx<=(b.log.letGo (Gg b) b.base.idx).next
  rw[l];exact h.bas.2
 ·exact Nat.le_trans (List.length_filter_le _ _) h.pcn
 ·exact z.sublist List.filter_sublist
 ·have ae:f.power≠0:=D.pw i
  have J:d.power≠0:=S ae;have h1:p.name ∈ Qk d:=h.on J p (v p c)
  have h2:p.name ∉ ns:=fun t=>by
   rw[B] at t;obtain⟨q,L,e⟩:=List.mem_map.1 t;have:=ZxS z (List.mem_filter.1 L).1 (v p c) e;rw[this] at L;have h3:=(List.mem_filter.1 L).2;have Q:=(List.mem_filter.1 c).2;rw[h3] at Q
   cases Q
  exact D.nm u p.name (A p (v p c)).1 (A p (v p c)).2 (M p.name h2 h1)
theorem X4.step {x:Run} {n:Nat} (h:X4 x.1 x.2 n) (o:SOp):X4 (Jc x o).1 (Jc x o).2 (n+1):=by
 unfold Jc;split
 ·exact h.append _ (ZkQ _ _)
 split
 ·exact h.sync.more
 split
 ·exact h.rotate.more
 split
 ·exact h.checkpoint
 split
 ·exact h.retain.more
 split
 ·obtain⟨⟨s,d⟩,all⟩:=x
  exact(X4.cut h o.n).more
 ·exact h.more
theorem X4.run:∀ (l:List SOp) {x:Run} {n:Nat},X4 x.1 x.2 n->X4 (l.foldl Jc x).1 (l.foldl Jc x).2 (n+l.length)
 | [],_,_,h=>h
 | o::l,x,n,h=>by
  have:=X4.run l (h.step o);rw[List.length_cons,List.foldl_cons];rw[show n+(l.length+1)=n+1+l.length by omega]
  exact this
end Go.Proofs.YtnahjngbneicaaaGreatDoor
