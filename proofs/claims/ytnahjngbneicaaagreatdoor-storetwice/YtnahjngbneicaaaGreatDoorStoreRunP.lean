import Derived.Test.YtnahjngbneicaaaGreatDoorStoreRunO
namespace Go.Proofs.YtnahjngbneicaaaGreatDoor
open _root_.Go.Proofs.Tryz
set_option maxRecDepth 100000
theorem ZnH (s:Sto):∀ (ns:List Int) (d:Dk),ns.Pairwise (·≠·)->OkD d->(d.power≠0->∀ m ∈ ns,m ∈ Ql d)->
 (Q3 (ns.map fun m=>X0 (fun d=>Qp d m)) (s,d)).1.1=s∧OkD (Q3 (ns.map fun m=>X0 (fun d=>Qp d m)) (s,d)).1.2∧(∀ F B,SzD d F B->SzD (Q3 (ns.map fun m=>X0 (fun d=>Qp d m)) (s,d)).1.2 F B)∧
 ((Q3 (ns.map fun m=>X0 (fun d=>Qp d m)) (s,d)).1.2.power≠0->d.power≠0)∧((Q3 (ns.map fun m=>X0 (fun d=>Qp d m)) (s,d)).2≠0->(Q3 (ns.map fun m=>X0 (fun d=>Qp d m)) (s,d)).1.2.power=0)∧
 (∀ m,m ∉ ns->m ∈ Ql d->m ∈ Ql (Q3 (ns.map fun m=>X0 (fun d=>Qp d m)) (s,d)).1.2)
 | [],d,_,hok,_=>⟨rfl,hok,fun _ _ h=>h,id,fun h=>absurd rfl h,fun _ _ h=>h⟩
 | n::ns,d,hp,hok,hin=>by
  rw[List.pairwise_cons] at hp;rw[List.map_cons,Q3];have j:(X0 (fun d=>Qp d n) (s,d)).2=(Qp d n).2:=rfl
  have p:(X0 (fun d=>Qp d n) (s,d)).1=(s,(Qp d n).1):=rfl
  rw[j,p];by_cases b:(Qp d n).2=0
  ·rw[if_pos b]
   obtain⟨v,u,i,g,t,l⟩:=ZnH s ns (Qp d n).1 hp.2 (hok.remove n) (fun h m a=>ZcU hok (fun e=>hp.1 m a e.symm) (hin (ZiM h) m (List.mem_cons_of_mem _ a)))
   refine⟨v,u,fun F B h=>i F B (Znx h),fun h=>ZiM (g h),t,fun m a h=>l m (fun k=>a (List.mem_cons_of_mem _ k)) (ZcU hok (fun e=>a (by rw[e];exact List.mem_cons_self)) h)⟩
  ·rw[if_neg b]
   have w:X0 (fun d=>Qp d n) (s,d)=((s,d),(Qp d n).2):=by
    show((s,(Qp d n).1),(Qp d n).2)=_;rw[Zkm b]
   rw[w];refine⟨rfl,hok,fun _ _ h=>h,id,fun _=>?_,fun _ _ h=>h⟩
   show d.power=0;apply Classical.byContradiction;intro c;obtain⟨f,q⟩:=(Jy hok n).1 (hin c n List.mem_cons_self);apply b;unfold Qp;rw[if_neg c,q]
theorem ZwM {l:List Pce} (h:l.Pairwise (fun p q=>p.name<q.name)) {p q:Pce} (d:p ∈ l) (c:q ∈ l) (e:p.name=q.name):p=q:=by
 obtain⟨i,a,rfl⟩:=List.mem_iff_getElem.1 d;obtain⟨j,b,rfl⟩:=List.mem_iff_getElem.1 c;rcases Nat.lt_trichotomy i j with hij | hij | hij
 ·have:=List.pairwise_iff_getElem.1 h i j a b hij
  omega
 ·subst hij;rfl
 ·have:=List.pairwise_iff_getElem.1 h j i b a hij
  omega
theorem ZpB {d:Dk} (h:(Xs d).2≠0):d.power=0∧(Xs d).1=d:=by
 unfold Xs at h ⊢;split
 ·rename_i a
  exact⟨a,rfl⟩
 ·rename_i a
  rw[if_neg a] at h;exact absurd rfl h
theorem X5.retain {x:SDk} {l:List Rec} {n:Nat} (h:X5 x l n):X5 (Zaz x).1 l n:=by
 obtain⟨s,d⟩:=x;have g:OkS s:=h.ok;have Y:OkD d:=h.okd;have z:s.log.pcs.Pairwise (fun p q=>p.name<q.name):=h.nam
 have X:s.cur≠0->∃ a p,s.log.pcs=a++[p]∧p.name=s.cur:=h.curL;have B:∀ p ∈ s.log.pcs,2<=p.name∧p.name % 2=0:=h.two;obtain⟨ns,G⟩:∃ ns,ns=(s.log.pcs.filter (ZkB s)).map Pce.name:=⟨_,rfl⟩
 have ac:ZkC s=ns.map fun m=>X0 (fun d=>Qp d m):=by
  rw[G,List.map_map];rfl
 have ae:ns.Pairwise (·≠·):=by
  rw[G,List.pairwise_map];exact(z.sublist List.filter_sublist).imp (fun ag e=>by omega)
 have ad:d.power≠0->∀ m ∈ ns,m ∈ Ql d:=fun c m v=>by
  rw[G] at v;obtain⟨p,K,rfl⟩:=List.mem_map.1 v;exact h.on c p (List.mem_filter.1 K).1
 obtain⟨O,A,D,N,V,Q⟩:=ZnH s ns d ae Y ad;unfold Zaz
 have T:Q3 (ZkC s++[Qt]) (s,d)=if(Q3 (ns.map fun m=>X0 (fun d=>Qp d m)) (s,d)).2=0 then Q3 [Qt] (Q3 (ns.map fun m=>X0 (fun d=>Qp d m)) (s,d)).1 else Q3 (ns.map fun m=>X0 (fun d=>Qp d m)) (s,d):=by
  rw[ac];exact ZgJ _ _ _
 rw[T];clear T;generalize Q3 (ns.map fun m=>X0 (fun d=>Qp d m)) (s,d)=R at O A D N V Q
 obtain⟨⟨b,f⟩,c1⟩:=R;have Z:b=s:=O;subst Z;have P:∀ w:Dk,OkD w->SzD w n (6200+1300*n)->w.power=0->X5 (b,w) l n:=fun w t j k=>⟨g,h.len,h.recs,h.bs0,h.bsn,h.bas,h.pcn,h.rcn,h.nam,h.two,h.curL,fun hh=>absurd k hh,t,j⟩
 by_cases E:c1=0
 case neg=>
  rw[if_neg E,if_neg E];exact P f A (D _ _ h.sz) (V E)
 rw[if_pos E];have F:=Zqp Qt (b,f);have C:Qt (b,f)=((if(Xs f).2=0 then { b with nw:=false } else b,(Xs f).1),(Xs f).2):=rfl
 by_cases y:(Xs f).2=0
 case neg=>
  have M:¬ (Q3 [Qt] (b,f)).2=0:=by rw[F.2,C];exact y
  rw[if_neg M];rw[F.1,C,if_neg y];obtain⟨t,j⟩:=ZpB y;show X5 (b,(Xs f).1) l n;rw[j];exact P f A (D _ _ h.sz) t
 have M:(Q3 [Qt] (b,f)).2=0:=by rw[F.2,C];exact y
 rw[if_pos M,F.1,C,if_pos y]
 have I:=Zkl f
 -- what is left
 have ab:∀ p ∈ b.log.pcs.dropLast,p.name≠b.cur:=fun p c=>by
  by_cases i:b.cur=0
  ·have:=(B p ((List.dropLast_sublist _).subset c)).1
   omega
  ·obtain⟨a,q,H,L⟩:=X i
   rw[H,List.dropLast_concat] at c;rw[H,List.pairwise_append] at z;have:=z.2.2 p c q (by simp)
   omega
 obtain⟨t,j,k,S⟩:=g.log.letGo (cur:=b.cur) (base:=b.base.idx) ab h.bas.1 h.bas.2;have aa:b.log.pcs.filter (fun p=>!(decide (p.stop<=b.base.idx) && decide (p.name≠b.cur)))=ZdG b:=rfl
 rw[aa] at t j k S;have ai:=g.log.f0;have u:∀ p ∈ ZdG b,p ∈ b.log.pcs:=fun p c=>(List.mem_filter.1 c).1
 have W:b.cur≠0->∃ a p,ZdG b=a++[p]∧p.name=b.cur:=fun i=>by
  obtain⟨a,q,H,L⟩:=X i;refine⟨a.filter (fun p=>!ZkB b p),q,?_,L⟩
  unfold ZdG;rw[H,List.filter_append]
  congr 1
  rw[List.filter_cons,if_pos (by unfold ZkB;simp[L])]
  rfl
 refine⟨⟨t,?_,g.now,?_,g.sy,g.cu⟩,?_,?_,h.bs0,h.bsn,⟨j,?_⟩,?_,h.rcn,?_,fun p c=>B p (u p c),W,fun i p c=>?_,I.ok A,I.sz _ _ (D _ _ h.sz)⟩
 ·show b.now.idx=(b.log.letGo (ZdG b) b.base.idx).next
  rw[k];exact g.nx
 ·intro i
  obtain⟨a,p,c,-⟩:=W i;show(ZdG b).length≠0;rw[c];simp
 ·show(b.log.letGo (ZdG b) b.base.idx).next=_
  rw[k];exact h.len
 ·show b.log.recs.drop (Yt (ZdG b) b.base.idx-b.log.first).toNat=l.drop (Yt (ZdG b) b.base.idx).toNat
  have hr:b.log.recs=l.drop b.log.first.toNat:=h.recs;have aj:b.log.first<=Yt (ZdG b) b.base.idx:=S;rw[hr,List.drop_drop]
  congr 1
  omega
 ·show b.base.idx<=(b.log.letGo (ZdG b) b.base.idx).next
  rw[k];exact h.bas.2
 ·exact Nat.le_trans (List.length_filter_le _ _) h.pcn
 ·exact z.sublist List.filter_sublist
 ·have af:f.power≠0:=I.pw i
  have K:d.power≠0:=N af;have h1:p.name ∈ Ql d:=h.on K p (u p c)
  have h2:p.name ∉ ns:=fun v=>by
   rw[G] at v;obtain⟨q,J,e⟩:=List.mem_map.1 v;have:=ZwM z (List.mem_filter.1 J).1 (u p c) e;rw[this] at J;have h3:=(List.mem_filter.1 J).2;have U:=(List.mem_filter.1 c).2;rw[h3] at U
   cases U
  exact I.nm A p.name (B p (u p c)).1 (B p (u p c)).2 (Q p.name h2 h1)
theorem X5.step {x:Run} {n:Nat} (h:X5 x.1 x.2 n) (o:SOp):X5 (Zbg x o).1 (Zbg x o).2 (n+1):=by
 unfold Zbg;split
 ·exact h.append _ (Zkj _ _)
 split
 ·exact h.sync.more
 split
 ·exact h.rotate.more
 split
 ·exact h.checkpoint
 split
 ·exact h.retain.more
 split
 ·obtain⟨⟨s,d⟩,a⟩:=x
  exact(X5.cut h o.n).more
 ·exact h.more
theorem X5.run:∀ (l:List SOp) {x:Run} {n:Nat},X5 x.1 x.2 n->X5 (l.foldl Zbg x).1 (l.foldl Zbg x).2 (n+l.length)
 | [],_,_,h=>h
 | o::l,x,n,h=>by
  have:=X5.run l (h.step o);rw[List.length_cons,List.foldl_cons];rw[show n+(l.length+1)=n+1+l.length by omega]
  exact this
end Go.Proofs.YtnahjngbneicaaaGreatDoor
