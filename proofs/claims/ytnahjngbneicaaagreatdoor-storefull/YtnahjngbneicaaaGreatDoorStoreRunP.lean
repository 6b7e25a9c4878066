import Derived.Test.YtnahjngbneicaaaGreatDoorStoreRunO
namespace Go.Proofs.YtnahjngbneicaaaGreatDoor
set_option linter.unusedSimpArgs false
open _root_.Go.Proofs.Tryz
set_option maxRecDepth 100000
abbrev zf1:=@List.dropLast_sublist
abbrev zga:=@List.dropLast_concat
theorem Zjy (s:Sto):∀ (ns:List Int) (d:Dk),ns.Pairwise (·≠·)->OkD d->(d.power≠0->∀ m ∈ ns,m ∈ Qk d)->
 (Qv (ns.map fun m=>Xo (fun d=>Qi d m)) (s,d)).1.1=s∧OkD (Qv (ns.map fun m=>Xo (fun d=>Qi d m)) (s,d)).1.2∧(∀ F B,SzD d F B->SzD (Qv (ns.map fun m=>Xo (fun d=>Qi d m)) (s,d)).1.2 F B)∧
 ((Qv (ns.map fun m=>Xo (fun d=>Qi d m)) (s,d)).1.2.power≠0->d.power≠0)∧((Qv (ns.map fun m=>Xo (fun d=>Qi d m)) (s,d)).2≠0->(Qv (ns.map fun m=>Xo (fun d=>Qi d m)) (s,d)).1.2.power=0)∧
 (∀ m,m ∉ ns->m ∈ Qk d->m ∈ Qk (Qv (ns.map fun m=>Xo (fun d=>Qi d m)) (s,d)).1.2)
 | [],d,_,hok,_=>⟨rfl,hok,fun _ _ h=>h,id,fun h=>absurd rfl h,fun _ _ h=>h⟩
 | n::ns,d,hp,hok,hin=>by
  rw[zcd] at hp;rw[zei,Qv];have p:(Xo (fun d=>Qi d n) (s,d)).2=(Qi d n).2:=rfl
  have j:(Xo (fun d=>Qi d n) (s,d)).1=(s,(Qi d n).1):=rfl
  rw[p,j];by_cases b:(Qi d n).2=0
  ·rw[zab b]
   obtain⟨w,i,v,t,l,q⟩:=Zjy s ns (Qi d n).1 hp.2 (hok.remove n) (fun h m a=>Zbx hok (fun e=>hp.1 m a e.symm) (hin (Zfn h) m (za6 _ a)))
   refine⟨w,i,fun F B h=>v F B (ZoE h),fun h=>Zfn (t h),l,fun m a h=>q m (fun k=>a (za6 _ k)) (Zbx hok (fun e=>a (by rw[e];exact zbp)) h)⟩
  ·rw[zaa b]
   have g:Xo (fun d=>Qi d n) (s,d)=((s,d),(Qi d n).2):=by
    show((s,(Qi d n).1),(Qi d n).2)=_;rw[ZbR b]
   rw[g];refine⟨rfl,hok,fun _ _ h=>h,id,fun _=>?_,fun _ _ h=>h⟩
   show d.power=0;apply zca;intro c;obtain⟨f,u⟩:=(Y6 hok n).1 (hin c n zbp);apply b;unfold Qi;rw[zaa c,u]
theorem Zyq {l:List Pce} (h:l.Pairwise (fun p q=>p.name<q.name)) {p q:Pce} (d:p ∈ l) (c:q ∈ l) (e:p.name=q.name):p=q:=by
 obtain⟨i,b,rfl⟩:=zem.1 d;obtain⟨j,a,rfl⟩:=zem.1 c;rcases Nat.lt_trichotomy i j with hij | hij | hij
 ·have:=zd1.1 h i j b a hij
  omega
 ·subst hij;rfl
 ·have:=zd1.1 h j i a b hij
  omega
theorem Zem {d:Dk} (h:(Qn d).2≠0):d.power=0∧(Qn d).1=d:=by
 unfold Qn at h ⊢;split
 ·rename_i a
  exact⟨a,rfl⟩
 ·rename_i a
  rw[zaa a] at h;exact absurd rfl h
theorem X0.retain {x:SDk} {all:List Rec} {n:Nat} (h:X0 x all n):X0 (Zn x).1 all n:=by
 obtain⟨s,d⟩:=x;have g:OkS s:=h.ok;have ae:OkD d:=h.okd;have z:s.log.pcs.Pairwise (fun p q=>p.name<q.name):=h.nam
 have M:s.cur≠0->∃ a p,s.log.pcs=a++[p]∧p.name=s.cur:=h.curL;have D:∀ p ∈ s.log.pcs,2<=p.name∧p.name % 2=0:=h.two;obtain⟨ns,E⟩:=zg7 ((s.log.pcs.filter (ZeG s)).map Pce.name)
 have ad:ZeH s=ns.map fun m=>Xo (fun d=>Qi d m):=by
  rw[E,List.map_map];rfl
 have Z:ns.Pairwise (·≠·):=by
  rw[E,zej];exact(z.sublist zd8).imp (fun ai e=>by omega)
 have aa:d.power≠0->∀ m ∈ ns,m ∈ Qk d:=fun c m y=>by
  rw[E] at y;obtain⟨p,I,rfl⟩:=zbm.1 y;exact h.on c p (za3.1 I).1
 obtain⟨O,t,B,W,Q,T⟩:=Zjy s ns d Z ae aa;unfold Zn
 have U:Qv (ZeH s++[Qp]) (s,d)=if(Qv (ns.map fun m=>Xo (fun d=>Qi d m)) (s,d)).2=0 then Qv [Qp] (Qv (ns.map fun m=>Xo (fun d=>Qi d m)) (s,d)).1 else Qv (ns.map fun m=>Xo (fun d=>Qi d m)) (s,d):=by
  rw[ad];exact Zfh _ _ _
 rw[U];clear U;generalize Qv (ns.map fun m=>Xo (fun d=>Qi d m)) (s,d)=R at O t B W Q T
 obtain⟨⟨b,f⟩,c1⟩:=R;have Y:b=s:=O;subst Y;have V:∀ w:Dk,OkD w->SzD w n (6200+1300*n)->w.power=0->X0 (b,w) all n:=fun w j l k=>⟨g,h.len,h.recs,h.bs0,h.bsn,h.bas,h.pcn,h.rcn,h.nam,h.two,h.curL,fun hh=>absurd k hh,j,l⟩
 by_cases F:c1=0
 case neg=>
  rw[zaa F,zaa F];exact V f t (B _ _ h.sz) (Q F)
 rw[zab F];have G:=Zds Qp (b,f);have A:Qp (b,f)=((if(Qn f).2=0 then { b with nw:=false } else b,(Qn f).1),(Qn f).2):=rfl
 by_cases v:(Qn f).2=0
 case neg=>
  have L:¬ (Qv [Qp] (b,f)).2=0:=by rw[G.2,A];exact v
  rw[zaa L];rw[G.1,A,zaa v];obtain⟨j,l⟩:=Zem v;show X0 (b,(Qn f).1) all n;rw[l];exact V f t (B _ _ h.sz) j
 have L:(Qv [Qp] (b,f)).2=0:=by rw[G.2,A];exact v
 rw[zab L,G.1,A,zab v]
 have C:=Zlf f
 -- what is left
 have X:∀ p ∈ b.log.pcs.dropLast,p.name≠b.cur:=fun p c=>by
  by_cases i:b.cur=0
  ·have:=(D p ((zf1 _).subset c)).1
   omega
  ·obtain⟨a,q,H,J⟩:=M i
   rw[H,zga] at c;rw[H,zde] at z;have:=z.2.2 p c q (by simp)
   omega
 obtain⟨j,l,k,S⟩:=g.log.letGo (cur:=b.cur) (base:=b.base.idx) X h.bas.1 h.bas.2;have ac:b.log.pcs.filter (fun p=>!(decide (p.stop<=b.base.idx) && decide (p.name≠b.cur)))=Gl b:=rfl
 rw[ac] at j l k S;have ag:=g.log.f0;have u:∀ p ∈ Gl b,p ∈ b.log.pcs:=fun p c=>(za3.1 c).1
 have P:b.cur≠0->∃ a p,Gl b=a++[p]∧p.name=b.cur:=fun i=>by
  obtain⟨a,q,H,J⟩:=M i;refine⟨a.filter (fun p=>!ZeG b p),q,?_,J⟩
  unfold Gl;rw[H,zez]
  congr 1
  rw[zdi,zab (by unfold ZeG;simp[J])]
  rfl
 refine⟨⟨j,?_,g.now,?_,g.sy,g.cu⟩,?_,?_,h.bs0,h.bsn,⟨l,?_⟩,?_,h.rcn,?_,fun p c=>D p (u p c),P,fun i p c=>?_,C.ok t,C.sz _ _ (B _ _ h.sz)⟩
 ·show b.now.idx=(b.log.letGo (Gl b) b.base.idx).next
  rw[k];exact g.nx
 ·intro i
  obtain⟨a,p,c,-⟩:=P i;show(Gl b).length≠0;rw[c];simp
 ·show(b.log.letGo (Gl b) b.base.idx).next=_
  rw[k];exact h.len
 ·show b.log.recs.drop (Zj (Gl b) b.base.idx-b.log.first).toNat=all.drop (Zj (Gl b) b.base.idx).toNat
  have hr:b.log.recs=all.drop b.log.first.toNat:=h.recs;have af:b.log.first<=Zj (Gl b) b.base.idx:=S;rw[hr,zdz]
  congr 1
  omega
 ·show b.base.idx<=(b.log.letGo (Gl b) b.base.idx).next
  rw[k];exact h.bas.2
 ·exact zau (zdh _ _) h.pcn
 ·exact z.sublist zd8
 ·have ab:f.power≠0:=C.pw i
  have I:d.power≠0:=W ab;have h1:p.name ∈ Qk d:=h.on I p (u p c)
  have h2:p.name ∉ ns:=fun y=>by
   rw[E] at y;obtain⟨q,K,e⟩:=zbm.1 y;have:=Zyq z (za3.1 K).1 (u p c) e;rw[this] at K;have h3:=(za3.1 K).2;have N:=(za3.1 c).2;rw[h3] at N
   cases N
  exact C.nm t p.name (D p (u p c)).1 (D p (u p c)).2 (T p.name h2 h1)
theorem X0.step {x:Run} {n:Nat} (h:X0 x.1 x.2 n) (o:SOp):X0 (Zx x o).1 (Zx x o).2 (n+1):=by
 unfold Zx;split
 ·exact h.append _ (Zgh _ _)
 split
 ·exact h.sync.more
 split
 ·exact h.rotate.more
 split
 ·exact h.checkpoint
 split
 ·exact h.retain.more
 split
 ·obtain⟨⟨s,d⟩,all⟩:=x
  exact(X0.cut h o.n).more
 ·exact h.more
theorem X0.run:∀ (l:List SOp) {x:Run} {n:Nat},X0 x.1 x.2 n->X0 (l.foldl Zx x).1 (l.foldl Zx x).2 (n+l.length)
 | [],_,_,h=>h
 | o::l,x,n,h=>by
  have:=X0.run l (h.step o);rw[zcb,zd6];rw[show n+(l.length+1)=n+1+l.length by omega]
  exact this
end Go.Proofs.YtnahjngbneicaaaGreatDoor
