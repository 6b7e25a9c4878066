import Derived.Test.YtnahjngbneicaaaGreatDoorStoreRunO
namespace Go.Proofs.YtnahjngbneicaaaGreatDoor
open _root_.Go.Proofs.Tryz
set_option maxRecDepth 100000
theorem ZqX (s:Sto):∀ (ns:List Int) (d:Dk),ns.Pairwise (·≠·)->OkD d->(d.power≠0->∀ m ∈ ns,m ∈ Zak d)->
 (Zbj (ns.map fun m=>Zbv (fun d=>Zam d m)) (s,d)).1.1=s∧OkD (Zbj (ns.map fun m=>Zbv (fun d=>Zam d m)) (s,d)).1.2∧(∀ F B,SzD d F B->SzD (Zbj (ns.map fun m=>Zbv (fun d=>Zam d m)) (s,d)).1.2 F B)∧
 ((Zbj (ns.map fun m=>Zbv (fun d=>Zam d m)) (s,d)).1.2.power≠0->d.power≠0)∧((Zbj (ns.map fun m=>Zbv (fun d=>Zam d m)) (s,d)).2≠0->(Zbj (ns.map fun m=>Zbv (fun d=>Zam d m)) (s,d)).1.2.power=0)∧
 (∀ m,m ∉ ns->m ∈ Zak d->m ∈ Zak (Zbj (ns.map fun m=>Zbv (fun d=>Zam d m)) (s,d)).1.2)
 | [],d,_,hok,_=>⟨rfl,hok,fun _ _ h=>h,id,fun h=>absurd rfl h,fun _ _ h=>h⟩
 | n::ns,d,hp,hok,hin=>by
  rw[List.pairwise_cons] at hp;rw[List.map_cons,Zbj];have l:(Zbv (fun d=>Zam d n) (s,d)).2=(Zam d n).2:=rfl
  have t:(Zbv (fun d=>Zam d n) (s,d)).1=(s,(Zam d n).1):=rfl
  rw[l,t];by_cases b:(Zam d n).2=0
  ·rw[if_pos b]
   obtain⟨u,p,g,q,v,i⟩:=ZqX s ns (Zam d n).1 hp.2 (hok.remove n) (fun h m a=>Zgk hok (fun e=>hp.1 m a e.symm) (hin (Zmc h) m (List.mem_cons_of_mem _ a)))
   refine⟨u,p,fun F B h=>g F B (ZqN h),fun h=>Zmc (q h),v,fun m a h=>i m (fun w=>a (List.mem_cons_of_mem _ w)) (Zgk hok (fun e=>a (by rw[e];exact List.mem_cons_self)) h)⟩
  ·rw[if_neg b]
   have j:Zbv (fun d=>Zam d n) (s,d)=((s,d),(Zam d n).2):=by
    show((s,(Zam d n).1),(Zam d n).2)=_;rw[ZnC b]
   rw[j];refine⟨rfl,hok,fun _ _ h=>h,id,fun _=>?_,fun _ _ h=>h⟩
   show d.power=0;apply Classical.byContradiction;intro c;obtain⟨f,k⟩:=(ZcK hok n).1 (hin c n List.mem_cons_self);apply b;unfold Zam;rw[if_neg c,k]
theorem ZAc {l:List Pce} (h:l.Pairwise (fun p q=>p.name<q.name)) {p q:Pce} (c:p ∈ l) (d:q ∈ l) (e:p.name=q.name):p=q:=by
 obtain⟨i,b,rfl⟩:=List.mem_iff_getElem.1 c;obtain⟨j,a,rfl⟩:=List.mem_iff_getElem.1 d;rcases Nat.lt_trichotomy i j with hij | hij | hij
 ·have:=List.pairwise_iff_getElem.1 h i j b a hij
  omega
 ·subst hij;rfl
 ·have:=List.pairwise_iff_getElem.1 h j i a b hij
  omega
theorem ZsR {d:Dk} (h:(ZaS d).2≠0):d.power=0∧(ZaS d).1=d:=by
 unfold ZaS at h ⊢;split
 ·rename_i a
  exact⟨a,rfl⟩
 ·rename_i a
  rw[if_neg a] at h;exact absurd rfl h
theorem ZcB.retain {x:SDk} {t:List Rec} {n:Nat} (h:ZcB x t n):ZcB (ZdA x).1 t n:=by
 obtain⟨s,d⟩:=x;have i:OkS s:=h.ok;have ac:OkD d:=h.okd;have A:s.log.pcs.Pairwise (fun p q=>p.name<q.name):=h.nam
 have P:s.cur≠0->∃ a p,s.log.pcs=a++[p]∧p.name=s.cur:=h.curL;have B:∀ p ∈ s.log.pcs,2<=p.name∧p.name % 2=0:=h.two;obtain⟨ns,D⟩:∃ ns,ns=(s.log.pcs.filter (ZnR s)).map Pce.name:=⟨_,rfl⟩
 have aa:ZnS s=ns.map fun m=>Zbv (fun d=>Zam d m):=by
  rw[D,List.map_map];rfl
 have ag:ns.Pairwise (·≠·):=by
  rw[D,List.pairwise_map];exact(A.sublist List.filter_sublist).imp (fun ai e=>by omega)
 have ab:d.power≠0->∀ m ∈ ns,m ∈ Zak d:=fun c m w=>by
  rw[D] at w;obtain⟨p,J,rfl⟩:=List.mem_map.1 w;exact h.on c p (List.mem_filter.1 J).1
 obtain⟨U,z,C,S,W,Q⟩:=ZqX s ns d ag ac ab;unfold ZdA
 have O:Zbj (ZnS s++[Zar]) (s,d)=if(Zbj (ns.map fun m=>Zbv (fun d=>Zam d m)) (s,d)).2=0 then Zbj [Zar] (Zbj (ns.map fun m=>Zbv (fun d=>Zam d m)) (s,d)).1 else Zbj (ns.map fun m=>Zbv (fun d=>Zam d m)) (s,d):=by
  rw[aa];exact ZjZ _ _ _
 rw[O];clear O;generalize Zbj (ns.map fun m=>Zbv (fun d=>Zam d m)) (s,d)=R at U z C S W Q
 obtain⟨⟨b,f⟩,c1⟩:=R;have ad:b=s:=U;subst ad;have T:∀ y:Dk,OkD y->SzD y n (6200+1300*n)->y.power=0->ZcB (b,y) t n:=fun y l j k=>⟨i,h.len,h.recs,h.bs0,h.bsn,h.bas,h.pcn,h.rcn,h.nam,h.two,h.curL,fun Y=>absurd k Y,l,j⟩
 by_cases E:c1=0
 case neg=>
  rw[if_neg E,if_neg E];exact T f z (C _ _ h.sz) (W E)
 rw[if_pos E];have H:=ZtF Zar (b,f);have G:Zar (b,f)=((if(ZaS f).2=0 then { b with nw:=false } else b,(ZaS f).1),(ZaS f).2):=rfl
 by_cases v:(ZaS f).2=0
 case neg=>
  have L:¬ (Zbj [Zar] (b,f)).2=0:=by rw[H.2,G];exact v
  rw[if_neg L];rw[H.1,G,if_neg v];obtain⟨l,j⟩:=ZsR v;show ZcB (b,(ZaS f).1) t n;rw[j];exact T f z (C _ _ h.sz) l
 have L:(Zbj [Zar] (b,f)).2=0:=by rw[H.2,G];exact v
 rw[if_pos L,H.1,G,if_pos v]
 have I:=ZnB f
 -- what is left
 have af:∀ p ∈ b.log.pcs.dropLast,p.name≠b.cur:=fun p c=>by
  by_cases g:b.cur=0
  ·have:=(B p ((List.dropLast_sublist _).subset c)).1
   omega
  ·obtain⟨a,q,F,K⟩:=P g
   rw[F,List.dropLast_concat] at c;rw[F,List.pairwise_append] at A;have:=A.2.2 p c q (by simp)
   omega
 obtain⟨l,j,k,X⟩:=i.log.letGo (cur:=b.cur) (base:=b.base.idx) af h.bas.1 h.bas.2;have Z:b.log.pcs.filter (fun p=>!(decide (p.stop<=b.base.idx) && decide (p.name≠b.cur)))=ZgW b:=rfl
 rw[Z] at l j k X;have aj:=i.log.f0;have u:∀ p ∈ ZgW b,p ∈ b.log.pcs:=fun p c=>(List.mem_filter.1 c).1
 have V:b.cur≠0->∃ a p,ZgW b=a++[p]∧p.name=b.cur:=fun g=>by
  obtain⟨a,q,F,K⟩:=P g;refine⟨a.filter (fun p=>!ZnR b p),q,?_,K⟩
  unfold ZgW;rw[F,List.filter_append]
  congr 1
  rw[List.filter_cons,if_pos (by unfold ZnR;simp[K])]
  rfl
 refine⟨⟨l,?_,i.now,?_,i.sy,i.cu⟩,?_,?_,h.bs0,h.bsn,⟨j,?_⟩,?_,h.rcn,?_,fun p c=>B p (u p c),V,fun g p c=>?_,I.ok z,I.sz _ _ (C _ _ h.sz)⟩
 ·show b.now.idx=(b.log.letGo (ZgW b) b.base.idx).next
  rw[k];exact i.nx
 ·intro g
  obtain⟨a,p,c,-⟩:=V g;show(ZgW b).length≠0;rw[c];simp
 ·show(b.log.letGo (ZgW b) b.base.idx).next=_
  rw[k];exact h.len
 ·show b.log.recs.drop (ZbK (ZgW b) b.base.idx-b.log.first).toNat=t.drop (ZbK (ZgW b) b.base.idx).toNat
  have hr:b.log.recs=t.drop b.log.first.toNat:=h.recs;have ah:b.log.first<=ZbK (ZgW b) b.base.idx:=X;rw[hr,List.drop_drop]
  congr 1
  omega
 ·show b.base.idx<=(b.log.letGo (ZgW b) b.base.idx).next
  rw[k];exact h.bas.2
 ·exact Nat.le_trans (List.length_filter_le _ _) h.pcn
 ·exact A.sublist List.filter_sublist
 ·have ae:f.power≠0:=I.pw g
  have J:d.power≠0:=S ae;have h1:p.name ∈ Zak d:=h.on J p (u p c)
  have h2:p.name ∉ ns:=fun w=>by
   rw[D] at w;obtain⟨q,M,e⟩:=List.mem_map.1 w;have:=ZAc A (List.mem_filter.1 M).1 (u p c) e;rw[this] at M;have h3:=(List.mem_filter.1 M).2;have N:=(List.mem_filter.1 c).2;rw[h3] at N
   cases N
  exact I.nm z p.name (B p (u p c)).1 (B p (u p c)).2 (Q p.name h2 h1)
theorem ZcB.step {x:Run} {n:Nat} (h:ZcB x.1 x.2 n) (o:SOp):ZcB (Zer x o).1 (Zer x o).2 (n+1):=by
 unfold Zer;split
 ·exact h.append _ (Znz _ _)
 split
 ·exact h.sync.more
 split
 ·exact h.rotate.more
 split
 ·exact h.checkpoint
 split
 ·exact h.retain.more
 split
 ·obtain⟨⟨s,d⟩,a⟩:=x
  exact(ZcB.cut h o.n).more
 ·exact h.more
theorem ZcB.run:∀ (l:List SOp) {x:Run} {n:Nat},ZcB x.1 x.2 n->ZcB (l.foldl Zer x).1 (l.foldl Zer x).2 (n+l.length)
 | [],_,_,h=>h
 | o::l,x,n,h=>by
  have:=ZcB.run l (h.step o);rw[List.length_cons,List.foldl_cons];rw[show n+(l.length+1)=n+1+l.length by omega]
  exact this
end Go.Proofs.YtnahjngbneicaaaGreatDoor
