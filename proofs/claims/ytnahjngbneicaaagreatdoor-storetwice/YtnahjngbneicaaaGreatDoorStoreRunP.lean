import Derived.Test.YtnahjngbneicaaaGreatDoorStoreRunO
namespace Go.Proofs.YtnahjngbneicaaaGreatDoor
open _root_.Go.Proofs.Tryz
set_option maxRecDepth 100000
theorem ZnH (s:Sto):∀ (ns:List Int) (d:Dk),ns.Pairwise (·≠·)->OkD d->(d.power≠0->∀ m ∈ ns,m ∈ Ql d)->
 (Q3 (ns.map fun m=>X0 (fun d=>Qp d m)) (s,d)).1.1=s∧OkD (Q3 (ns.map fun m=>X0 (fun d=>Qp d m)) (s,d)).1.2∧(∀ F B,SzD d F B->SzD (Q3 (ns.map fun m=>X0 (fun d=>Qp d m)) (s,d)).1.2 F B)∧
 ((Q3 (ns.map fun m=>X0 (fun d=>Qp d m)) (s,d)).1.2.power≠0->d.power≠0)∧((Q3 (ns.map fun m=>X0 (fun d=>Qp d m)) (s,d)).2≠0->(Q3 (ns.map fun m=>X0 (fun d=>Qp d m)) (s,d)).1.2.power=0)∧
 (∀ m,m ∉ ns->m ∈ Ql d->m ∈ Ql (Q3 (ns.map fun m=>X0 (fun d=>Qp d m)) (s,d)).1.2)
 | [],d,_,hok,_=>⟨rfl,hok,fun _ _ h=>h,id,fun h=>absurd rfl h,fun _ _ h=>h⟩
 | n::ns,d,hp,hok,hin=>by
  rw[List.pairwise_cons] at hp;rw[List.map_cons,Q3];have l:(X0 (fun d=>Qp d n) (s,d)).2=(Qp d n).2:=rfl
  have p:(X0 (fun d=>Qp d n) (s,d)).1=(s,(Qp d n).1):=rfl
  rw[l,p];by_cases b:(Qp d n).2=0
  ·rw[if_pos b]
   obtain⟨w,u,i,g,q,v⟩:=ZnH s ns (Qp d n).1 hp.2 (hok.remove n) (fun h m a=>ZcU hok (fun e=>hp.1 m a e.symm) (hin (ZiM h) m (List.mem_cons_of_mem _ a)))
   refine⟨w,u,fun F B h=>i F B (Znx h),fun h=>ZiM (g h),q,fun m a h=>v m (fun t=>a (List.mem_cons_of_mem _ t)) (ZcU hok (fun e=>a (by rw[e];exact List.mem_cons_self)) h)⟩
  ·rw[if_neg b]
   have j:X0 (fun d=>Qp d n) (s,d)=((s,d),(Qp d n).2):=by
    show((s,(Qp d n).1),(Qp d n).2)=_;rw[Zkm b]
   rw[j];refine⟨rfl,hok,fun _ _ h=>h,id,fun _=>?_,fun _ _ h=>h⟩
   show d.power=0;apply Classical.byContradiction;intro c;obtain⟨f,k⟩:=(Jy hok n).1 (hin c n List.mem_cons_self);apply b;unfold Qp;rw[if_neg c,k]
theorem ZwM {l:List Pce} (h:l.Pairwise (fun p q=>p.name<q.name)) {p q:Pce} (c:p ∈ l) (d:q ∈ l) (e:p.name=q.name):p=q:=by
 obtain⟨i,a,rfl⟩:=List.mem_iff_getElem.1 c;obtain⟨j,b,rfl⟩:=List.mem_iff_getElem.1 d;rcases Nat.lt_trichotomy i j with hij | hij | hij
 ·have:=List.pairwise_iff_getElem.1 h i j a b hij
  omega
 ·subst hij;rfl
 ·have:=List.pairwise_iff_getElem.1 h j i b a hij
  omega
theorem ZpB {d:Dk} (h:(Xs d).2≠0):d.power=0∧(Xs d).1=d:=by
 unfold Xs at h ⊢;split
 ·rename_i a
  exact⟨a,rfl⟩
 ·rename_i a
  rw[if_neg a] at h;exact absurd rfl h
theorem X5.retain {x:SDk} {l:List Rec} {n:Nat} (h:X5 x l n):X5 (Zaz x).1 l n:=by
 obtain⟨s,d⟩:=x;have i:OkS s:=h.ok;have ae:OkD d:=h.okd;have w:s.log.pcs.Pairwise (fun p q=>p.name<q.name):=h.nam
 have T:s.cur≠0->∃ a p,s.log.pcs=a++[p]∧p.name=s.cur:=h.curL;have E:∀ p ∈ s.log.pcs,2<=p.name∧p.name % 2=0:=h.two;obtain⟨ns,G⟩:∃ ns,ns=(s.log.pcs.filter (ZkB s)).map Pce.name:=⟨_,rfl⟩
 have Y:ZkC s=ns.map fun m=>X0 (fun d=>Qp d m):=by
  rw[G,List.map_map];rfl
 have ad:ns.Pairwise (·≠·):=by
  rw[G,List.pairwise_map];exact(w.sublist List.filter_sublist).imp (fun ag e=>by omega)
 have ab:d.power≠0->∀ m ∈ ns,m ∈ Ql d:=fun c m u=>by
  rw[G] at u;obtain⟨p,J,rfl⟩:=List.mem_map.1 u;exact h.on c p (List.mem_filter.1 J).1
 obtain⟨X,y,C,N,V,W⟩:=ZnH s ns d ad ae ab;unfold Zaz
 have U:Q3 (ZkC s++[Qt]) (s,d)=if(Q3 (ns.map fun m=>X0 (fun d=>Qp d m)) (s,d)).2=0 then Q3 [Qt] (Q3 (ns.map fun m=>X0 (fun d=>Qp d m)) (s,d)).1 else Q3 (ns.map fun m=>X0 (fun d=>Qp d m)) (s,d):=by
  rw[Y];exact ZgJ _ _ _
 rw[U];clear U;generalize Q3 (ns.map fun m=>X0 (fun d=>Qp d m)) (s,d)=R at X y C N V W
 obtain⟨⟨b,f⟩,c1⟩:=R;have af:b=s:=X;subst af;have Q:∀ v:Dk,OkD v->SzD v n (6200+1300*n)->v.power=0->X5 (b,v) l n:=fun v t j k=>⟨i,h.len,h.recs,h.bs0,h.bsn,h.bas,h.pcn,h.rcn,h.nam,h.two,h.curL,fun hh=>absurd k hh,t,j⟩
 by_cases I:c1=0
 case neg=>
  rw[if_neg I,if_neg I];exact Q f y (C _ _ h.sz) (V I)
 rw[if_pos I];have F:=Zqp Qt (b,f);have D:Qt (b,f)=((if(Xs f).2=0 then { b with nw:=false } else b,(Xs f).1),(Xs f).2):=rfl
 by_cases A:(Xs f).2=0
 case neg=>
  have L:¬ (Q3 [Qt] (b,f)).2=0:=by rw[F.2,D];exact A
  rw[if_neg L];rw[F.1,D,if_neg A];obtain⟨t,j⟩:=ZpB A;show X5 (b,(Xs f).1) l n;rw[j];exact Q f y (C _ _ h.sz) t
 have L:(Q3 [Qt] (b,f)).2=0:=by rw[F.2,D];exact A
 rw[if_pos L,F.1,D,if_pos A]
 have B:=Zkl f
 -- what is left
 have aa:∀ p ∈ b.log.pcs.dropLast,p.name≠b.cur:=fun p c=>by
  by_cases g:b.cur=0
  ·have:=(E p ((List.dropLast_sublist _).subset c)).1
   omega
  ·obtain⟨a,q,H,K⟩:=T g
   rw[H,List.dropLast_concat] at c;rw[H,List.pairwise_append] at w;have:=w.2.2 p c q (by simp)
   omega
 obtain⟨t,j,k,O⟩:=i.log.letGo (cur:=b.cur) (base:=b.base.idx) aa h.bas.1 h.bas.2;have ac:b.log.pcs.filter (fun p=>!(decide (p.stop<=b.base.idx) && decide (p.name≠b.cur)))=ZdG b:=rfl
 rw[ac] at t j k O;have aj:=i.log.f0;have z:∀ p ∈ ZdG b,p ∈ b.log.pcs:=fun p c=>(List.mem_filter.1 c).1
 have P:b.cur≠0->∃ a p,ZdG b=a++[p]∧p.name=b.cur:=fun g=>by
  obtain⟨a,q,H,K⟩:=T g;refine⟨a.filter (fun p=>!ZkB b p),q,?_,K⟩
  unfold ZdG;rw[H,List.filter_append]
  congr 1
  rw[List.filter_cons,if_pos (by unfold ZkB;simp[K])]
  rfl
 refine⟨⟨t,?_,i.now,?_,i.sy,i.cu⟩,?_,?_,h.bs0,h.bsn,⟨j,?_⟩,?_,h.rcn,?_,fun p c=>E p (z p c),P,fun g p c=>?_,B.ok y,B.sz _ _ (C _ _ h.sz)⟩
 ·show b.now.idx=(b.log.letGo (ZdG b) b.base.idx).next
  rw[k];exact i.nx
 ·intro g
  obtain⟨a,p,c,-⟩:=P g;show(ZdG b).length≠0;rw[c];simp
 ·show(b.log.letGo (ZdG b) b.base.idx).next=_
  rw[k];exact h.len
 ·show b.log.recs.drop (Yt (ZdG b) b.base.idx-b.log.first).toNat=l.drop (Yt (ZdG b) b.base.idx).toNat
  have hr:b.log.recs=l.drop b.log.first.toNat:=h.recs;have ai:b.log.first<=Yt (ZdG b) b.base.idx:=O;rw[hr,List.drop_drop]
  congr 1
  omega
 ·show b.base.idx<=(b.log.letGo (ZdG b) b.base.idx).next
  rw[k];exact h.bas.2
 ·exact Nat.le_trans (List.length_filter_le _ _) h.pcn
 ·exact w.sublist List.filter_sublist
 ·have Z:f.power≠0:=B.pw g
  have J:d.power≠0:=N Z;have h1:p.name ∈ Ql d:=h.on J p (z p c)
  have h2:p.name ∉ ns:=fun u=>by
   rw[G] at u;obtain⟨q,M,e⟩:=List.mem_map.1 u;have:=ZwM w (List.mem_filter.1 M).1 (z p c) e;rw[this] at M;have h3:=(List.mem_filter.1 M).2;have S:=(List.mem_filter.1 c).2;rw[h3] at S
   cases S
  exact B.nm y p.name (E p (z p c)).1 (E p (z p c)).2 (W p.name h2 h1)
theorem X5.step {x:Run} {n:Nat} (h:X5 x.1 x.2 n) (o:SOp):X5 (Zbg x o).1 (Zbg x o).2 (n+1):=by
 unfold Zbg;split
 ·exact h.append _ (Zkj _ _)
 split
 ·exact h.sync.more
 split
 ·exact h.rotate.more
 split
 ·exact h.checkpoint
 split
 ·exact h.retain.more
 split
 ·obtain⟨⟨s,d⟩,a⟩:=x
  exact(X5.cut h o.n).more
 ·exact h.more
theorem X5.run:∀ (l:List SOp) {x:Run} {n:Nat},X5 x.1 x.2 n->X5 (l.foldl Zbg x).1 (l.foldl Zbg x).2 (n+l.length)
 | [],_,_,h=>h
 | o::l,x,n,h=>by
  have:=X5.run l (h.step o);rw[List.length_cons,List.foldl_cons];rw[show n+(l.length+1)=n+1+l.length by omega]
  exact this
end Go.Proofs.YtnahjngbneicaaaGreatDoor
