import Derived.Test.YtnahjngbneicaaaGreatDoorStoreRunO
namespace Go.Proofs.YtnahjngbneicaaaGreatDoor
open _root_.Go.Proofs.Tryz
set_option maxRecDepth 100000
abbrev zfr:=@List.dropLast_sublist
abbrev zfy:=@List.dropLast_concat
theorem Zjo (s:Sto):∀ (ns:List Int) (d:Dk),ns.Pairwise (·≠·)->OkD d->(d.power≠0->∀ m ∈ ns,m ∈ Qk d)->
 (Qv (ns.map fun m=>Xm (fun d=>Qj d m)) (s,d)).1.1=s∧OkD (Qv (ns.map fun m=>Xm (fun d=>Qj d m)) (s,d)).1.2∧(∀ F B,SzD d F B->SzD (Qv (ns.map fun m=>Xm (fun d=>Qj d m)) (s,d)).1.2 F B)∧
 ((Qv (ns.map fun m=>Xm (fun d=>Qj d m)) (s,d)).1.2.power≠0->d.power≠0)∧((Qv (ns.map fun m=>Xm (fun d=>Qj d m)) (s,d)).2≠0->(Qv (ns.map fun m=>Xm (fun d=>Qj d m)) (s,d)).1.2.power=0)∧
 (∀ m,m ∉ ns->m ∈ Qk d->m ∈ Qk (Qv (ns.map fun m=>Xm (fun d=>Qj d m)) (s,d)).1.2)
 | [],d,_,hok,_=>⟨rfl,hok,fun _ _ h=>h,id,fun h=>absurd rfl h,fun _ _ h=>h⟩
 | n::ns,d,hp,hok,hin=>by
  rw[zb6] at hp;rw[zd9,Qv];have p:(Xm (fun d=>Qj d n) (s,d)).2=(Qj d n).2:=rfl
  have u:(Xm (fun d=>Qj d n) (s,d)).1=(s,(Qj d n).1):=rfl
  rw[p,u];by_cases b:(Qj d n).2=0
  ·rw[zab b]
   obtain⟨l,g,q,w,i,k⟩:=Zjo s ns (Qj d n).1 hp.2 (hok.remove n) (fun h m a=>ZbA hok (fun e=>hp.1 m a e.symm) (hin (Zfg h) m (za4 _ a)))
   refine⟨l,g,fun F B h=>q F B (Zol h),fun h=>Zfg (w h),i,fun m a h=>k m (fun v=>a (za4 _ v)) (ZbA hok (fun e=>a (by rw[e];exact zbi)) h)⟩
  ·rw[zaa b]
   have j:Xm (fun d=>Qj d n) (s,d)=((s,d),(Qj d n).2):=by
    show((s,(Qj d n).1),(Qj d n).2)=_;rw[ZbR b]
   rw[j];refine⟨rfl,hok,fun _ _ h=>h,id,fun _=>?_,fun _ _ h=>h⟩
   show d.power=0;apply zc4;intro c;obtain⟨f,t⟩:=(Y2 hok n).1 (hin c n zbi);apply b;unfold Qj;rw[zaa c,t]
theorem ZxS {l:List Pce} (h:l.Pairwise (fun p q=>p.name<q.name)) {p q:Pce} (c:p ∈ l) (d:q ∈ l) (e:p.name=q.name):p=q:=by
 obtain⟨i,b,rfl⟩:=ze0.1 c;obtain⟨j,a,rfl⟩:=ze0.1 d;rcases Nat.lt_trichotomy i j with hij | hij | hij
 ·have:=zec.1 h i j b a hij
  omega
 ·subst hij;rfl
 ·have:=zec.1 h j i a b hij
  omega
theorem Zed {d:Dk} (h:(Qn d).2≠0):d.power=0∧(Qn d).1=d:=by
 unfold Qn at h ⊢;split
 ·rename_i a
  exact⟨a,rfl⟩
 ·rename_i a
  rw[zaa a] at h;exact absurd rfl h
theorem X4.retain {x:SDk} {all:List Rec} {n:Nat} (h:X4 x all n):X4 (Z7 x).1 all n:=by
 obtain⟨s,d⟩:=x;have i:OkS s:=h.ok;have af:OkD d:=h.okd;have z:s.log.pcs.Pairwise (fun p q=>p.name<q.name):=h.nam
 have T:s.cur≠0->∃ a p,s.log.pcs=a++[p]∧p.name=s.cur:=h.curL;have C:∀ p ∈ s.log.pcs,2<=p.name∧p.name % 2=0:=h.two;obtain⟨ns,G⟩:=zgy ((s.log.pcs.filter (Zex s)).map Pce.name)
 have ae:ZfC s=ns.map fun m=>Xm (fun d=>Qj d m):=by
  rw[G,List.map_map];rfl
 have ad:ns.Pairwise (·≠·):=by
  rw[G,zea];exact(z.sublist zdy).imp (fun aj e=>by omega)
 have ab:d.power≠0->∀ m ∈ ns,m ∈ Qk d:=fun c m y=>by
  rw[G] at y;obtain⟨p,I,rfl⟩:=zbd.1 y;exact h.on c p (zax.1 I).1
 obtain⟨P,u,E,W,N,O⟩:=Zjo s ns d ad af ab;unfold Z7
 have M:Qv (ZfC s++[Qq]) (s,d)=if(Qv (ns.map fun m=>Xm (fun d=>Qj d m)) (s,d)).2=0 then Qv [Qq] (Qv (ns.map fun m=>Xm (fun d=>Qj d m)) (s,d)).1 else Qv (ns.map fun m=>Xm (fun d=>Qj d m)) (s,d):=by
  rw[ae];exact ZeY _ _ _
 rw[M];clear M;generalize Qv (ns.map fun m=>Xm (fun d=>Qj d m)) (s,d)=R at P u E W N O
 obtain⟨⟨b,f⟩,Z⟩:=R;have ac:b=s:=P;subst ac;have U:∀ w:Dk,OkD w->SzD w n (6200+1300*n)->w.power=0->X4 (b,w) all n:=fun w j k l=>⟨i,h.len,h.recs,h.bs0,h.bsn,h.bas,h.pcn,h.rcn,h.nam,h.two,h.curL,fun hh=>absurd l hh,j,k⟩
 by_cases H:Z=0
 case neg=>
  rw[zaa H,zaa H];exact U f u (E _ _ h.sz) (N H)
 rw[zab H];have D:=Zdm Qq (b,f);have A:Qq (b,f)=((if(Qn f).2=0 then { b with nw:=false } else b,(Qn f).1),(Qn f).2):=rfl
 by_cases v:(Qn f).2=0
 case neg=>
  have J:¬ (Qv [Qq] (b,f)).2=0:=by rw[D.2,A];exact v
  rw[zaa J];rw[D.1,A,zaa v];obtain⟨j,k⟩:=Zed v;show X4 (b,(Qn f).1) all n;rw[k];exact U f u (E _ _ h.sz) j
 have J:(Qv [Qq] (b,f)).2=0:=by rw[D.2,A];exact v
 rw[zab J,D.1,A,zab v]
 have F:=ZkR f
 -- what is left
 have Y:∀ p ∈ b.log.pcs.dropLast,p.name≠b.cur:=fun p c=>by
  by_cases g:b.cur=0
  ·have:=(C p ((zfr _).subset c)).1
   omega
  ·obtain⟨a,q,B,K⟩:=T g
   rw[B,zfy] at c;rw[B,zc2] at z;have:=z.2.2 p c q (by simp)
   omega
 obtain⟨j,k,l,Q⟩:=i.log.letGo (cur:=b.cur) (base:=b.base.idx) Y h.bas.1 h.bas.2;have ag:b.log.pcs.filter (fun p=>!(decide (p.stop<=b.base.idx) && decide (p.name≠b.cur)))=Gg b:=rfl
 rw[ag] at j k l Q;have ak:=i.log.f0;have t:∀ p ∈ Gg b,p ∈ b.log.pcs:=fun p c=>(zax.1 c).1
 have V:b.cur≠0->∃ a p,Gg b=a++[p]∧p.name=b.cur:=fun g=>by
  obtain⟨a,q,B,K⟩:=T g;refine⟨a.filter (fun p=>!Zex b p),q,?_,K⟩
  unfold Gg;rw[B,zeo]
  congr 1
  rw[zc6,zab (by unfold Zex;simp[K])]
  rfl
 refine⟨⟨j,?_,i.now,?_,i.sy,i.cu⟩,?_,?_,h.bs0,h.bsn,⟨k,?_⟩,?_,h.rcn,?_,fun p c=>C p (t p c),V,fun g p c=>?_,F.ok u,F.sz _ _ (E _ _ h.sz)⟩
 ·show b.now.idx=(b.log.letGo (Gg b) b.base.idx).next
  rw[l];exact i.nx
 ·intro g
  obtain⟨a,p,c,-⟩:=V g;show(Gg b).length≠0;rw[c];simp
 ·show(b.log.letGo (Gg b) b.base.idx).next=_
  rw[l];exact h.len
 ·show b.log.recs.drop (Zg (Gg b) b.base.idx-b.log.first).toNat=all.drop (Zg (Gg b) b.base.idx).toNat
  have hr:b.log.recs=all.drop b.log.first.toNat:=h.recs;have ai:b.log.first<=Zg (Gg b) b.base.idx:=Q;rw[hr,zdp]
  congr 1
  omega
 ·show b.base.idx<=(b.log.letGo (Gg b) b.base.idx).next
  rw[l];exact h.bas.2
 ·exact zas (zdn _ _) h.pcn
 ·exact z.sublist zdy
 ·have aa:f.power≠0:=F.pw g
  have I:d.power≠0:=W aa;have h1:p.name ∈ Qk d:=h.on I p (t p c)
  have h2:p.name ∉ ns:=fun y=>by
   rw[G] at y;obtain⟨q,L,e⟩:=zbd.1 y;have:=ZxS z (zax.1 L).1 (t p c) e;rw[this] at L;have X:=(zax.1 L).2;have S:=(zax.1 c).2;rw[X] at S
   cases S
  exact F.nm u p.name (C p (t p c)).1 (C p (t p c)).2 (O p.name h2 h1)
theorem X4.step {x:Run} {n:Nat} (h:X4 x.1 x.2 n) (o:SOp):X4 (Jc x o).1 (Jc x o).2 (n+1):=by
 unfold Jc;split
 ·exact h.append _ (ZkQ _ _)
 split
 ·exact h.sync.more
 split
 ·exact h.rotate.more
 split
 ·exact h.checkpoint
 split
 ·exact h.retain.more
 split
 ·obtain⟨⟨s,d⟩,all⟩:=x
  exact(X4.cut h o.n).more
 ·exact h.more
theorem X4.run:∀ (l:List SOp) {x:Run} {n:Nat},X4 x.1 x.2 n->X4 (l.foldl Jc x).1 (l.foldl Jc x).2 (n+l.length)
 | [],_,_,h=>h
 | o::l,x,n,h=>by
  have:=X4.run l (h.step o);rw[zb9,zd5];rw[show n+(l.length+1)=n+1+l.length by omega]
  exact this
end Go.Proofs.YtnahjngbneicaaaGreatDoor
