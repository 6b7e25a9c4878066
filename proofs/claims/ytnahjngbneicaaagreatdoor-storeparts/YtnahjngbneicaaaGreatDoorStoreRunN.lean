import Derived.Test.YtnahjngbneicaaaGreatDoorStoreRunM
import Derived.Test.YtnahjngbneicaaaGreatDoorStoreAw
namespace Go.Proofs.YtnahjngbneicaaaGreatDoor
set_option maxRecDepth 100000
structure Zlz (x:SDk) (all:List Rec) (n:Nat):Prop where
 ok:OkS x.1
 len:x.1.next=all.length
 recs:x.1.log.recs=all.drop x.1.log.first.toNat
 bs0:x.1.bases.length≠0
 bsn:x.1.bases.length<=n+1
 bas:x.1.log.first<=x.1.base.idx∧x.1.base.idx<=x.1.next
 pcn:x.1.log.pcs.length<=n
 rcn:all.length<=20*n
 nam:x.1.log.pcs.Pairwise (fun p q=>p.name<q.name)
 two:∀ p ∈ x.1.log.pcs,2<=p.name∧p.name % 2=0
 curL:x.1.cur≠0->∃ a p,x.1.log.pcs=a++[p]∧p.name=x.1.cur
 on:x.2.power≠0->∀ p ∈ x.1.log.pcs,p.name ∈ Zan x.2
 okd:OkD x.2
 sz:SzD x.2 n (6200+1300*n)
theorem SzD.more {d:Dk} {F B F' B':Nat} (h:SzD d F B) (hF:F<=F') (hB:B<=B'):SzD d F' B':=⟨Nat.le_trans h.files hF,fun x hx=>Nat.le_trans (h.bytes x hx) hB⟩
theorem Zlz.more {x:SDk} {all:List Rec} {n:Nat} (h:Zlz x all n):Zlz x all (n+1):=
 ⟨h.ok,h.len,h.recs,h.bs0,by have:=h.bsn;omega,h.bas,by have:=h.pcn;omega,by have:=h.rcn;omega,h.nam,h.two,h.curL,h.on,h.okd,h.sz.more (by omega) (by omega)⟩
theorem ZwP (room kind:Int) (h0:0<=kind) (h1:kind<6):Zlz (ZmK kind,ZfL room) [] 0:=by
 have ho:=ZmE (d:=ZfL room) h0 h1
 rw[ZgV] at ho
 exact⟨ho,rfl,rfl,by show(1:Nat)≠0;decide,Nat.le_refl _,⟨Int.le_refl _,Int.le_refl _⟩,Nat.le_refl _,Nat.le_refl _,List.Pairwise.nil,(fun p hp=>by cases hp),fun hc=>absurd rfl hc,(fun _ p hp=>by cases hp),Zti room,⟨Nat.zero_le _,(fun x hx=>by cases hx)⟩⟩
theorem Zlz.head {s s':Sto} {d d':Dk} {all:List Rec} {n:Nat} (h:Zlz (s,d) all n) (hk:Kp d d') (hl:s'.log=s.log) (hb:s'.bases=s.bases) (hn:s'.now=s.now) (hs:s'.synced=s.synced∨s'.synced=s.next) (hc:s'.cur=s.cur∨s'.cur=0):Zlz (s',d') all n:=by
 have hnx:s'.next=s.next:=by unfold Sto.next;rw[hl]
 have hbs:s'.base=s.base:=by unfold Sto.base;rw[hb]
 have hok:OkS s:=h.ok
 have hin:I64 s.next:=by
  have h1:=hok.log.top
  have h2:=hok.log.f0
  have h3:0<=s.next:=by unfold Sto.next Lgb.next;omega
  exact⟨by omega,by unfold Sto.next;omega⟩
 have hcur:s'.cur≠0->s'.cur=s.cur:=fun h0=>hc.resolve_right h0
 refine⟨⟨by rw[hl];exact hok.log,by rw[hn,hnx];exact hok.nx,by rw[hn];exact hok.now,fun h0=>by rw[hl];exact hok.cur (by rw[<-hcur h0];exact h0),?_,?_⟩,by rw[hnx];exact h.len,by rw[hl];exact h.recs,by rw[hb];exact h.bs0,by rw[hb];exact h.bsn,by rw[hl,hbs,hnx];exact h.bas,by rw[hl];exact h.pcn,h.rcn,by rw[hl];exact h.nam,by rw[hl];exact h.two,fun h0=>by rw[hl,hcur h0];exact h.curL (by rw[<-hcur h0];exact h0),fun h0 p hp=>?_,hk.ok h.okd,hk.sz _ _ h.sz⟩
 ·rcases hs with e | e
  ·rw[e];exact hok.sy
  ·rw[e];exact hin
 ·rcases hc with e | e
  ·rw[e];exact hok.cu
  ·rw[e];exact⟨by decide,by decide⟩
 ·have hp':p ∈ s.log.pcs:=by rw[<-hl];exact hp
  exact hk.nm h.okd p.name (h.two p hp').1 (h.two p hp').2 (h.on (hk.pw h0) p hp')
theorem Zqu (x:SDk):Kp x.2 (Zco x).1.2∧(Zco x).1.1.cur=x.1.cur∧(Zco x).1.1.synced=x.1.synced:=by
 unfold Zco
 refine⟨ZsR _,?_,?_⟩
 ·split <;> rfl
 ·split <;> rfl
theorem ZoE (x:SDk):Kp x.2 (Zav x).1.2∧(Zav x).1.1.cur=x.1.cur∧(Zav x).1.1.synced=x.1.synced:=by
 unfold Zav
 split
 ·exact Zqu x
 ·exact⟨Kp.refl _,rfl,rfl⟩
theorem ZoF (x:SDk):Kp x.2 (Zas x).1.2∧(Zas x).1.1.cur=x.1.cur∧(Zas x).1.1.synced=x.1.synced:=⟨Zyd _ _,rfl,rfl⟩
theorem Zyi {gs:List (SDk->SDk × Int)} (h:∀ g ∈ gs,∀ x,Kp x.2 (g x).1.2∧(g x).1.1.cur=x.1.cur∧(g x).1.1.synced=x.1.synced):∀ x,Kp x.2 (ZgX gs x).1.2∧(ZgX gs x).1.1.cur=x.1.cur∧(ZgX gs x).1.1.synced=x.1.synced:=by
 induction gs with
 | nil=>exact fun x=>⟨Kp.refl _,rfl,rfl⟩
 | cons g gs ih=>
  intro x
  have h1:=h g List.mem_cons_self x
  unfold ZgX
  split
  ·have h2:=ih (fun g' hg=>h g' (List.mem_cons_of_mem _ hg)) (g x).1
   exact⟨h1.1.trans h2.1,h2.2.1.trans h1.2.1,h2.2.2.trans h1.2.2⟩
  ·exact h1
theorem ZwQ (x:SDk):Kp x.2 (Zch x).1.2∧(Zch x).1.1.cur=x.1.cur∧((Zch x).1.1.synced=x.1.synced∨(Zch x).1.1.synced=x.1.next):=by
 have h:=Zyi (gs:=[Zas,Zav]) (fun g hg=>by
  rcases List.mem_cons.1 hg with rfl | hg
  ·exact ZoF
  ·rw[List.mem_singleton.1 hg];exact ZoE) x
 have hn:(ZgX [Zas,Zav] x).1.1.next=x.1.next:=by
  rcases Zmn x with e | e
  ·rw[e]
  ·rw[e];rfl
 unfold Zch
 split
 ·exact⟨Kp.refl _,rfl,.inr rfl⟩
 ·split
  ·exact⟨h.1,h.2.1,.inr hn⟩
  ·exact⟨h.1,h.2.1,.inl h.2.2⟩
theorem Zlz.sync {x:SDk} {all:List Rec} {n:Nat} (h:Zlz x all n):Zlz (Zch x).1 all n:=by
 obtain⟨s,d⟩:=x
 have h1:=ZwQ (s,d)
 have h2:=Zop (s,d)
 exact Zlz.head (s':=(Zch (s,d)).1.1) (d':=(Zch (s,d)).1.2) h h1.1 h2.2.2 h2.2.1 h2.1 h1.2.2 (.inl h1.2.1)
theorem Zlz.rotate {x:SDk} {all:List Rec} {n:Nat} (h:Zlz x all n):Zlz (Zcc x).1 all n:=by
 have h1:=h.sync
 unfold Zcc
 split
 ·generalize (Zch x).1=y at h1
  obtain⟨s,d⟩:=y
  exact h1.head (s':={ s with cur:=0 }) (Kp.refl d) rfl rfl rfl (.inl rfl) (.inr rfl)
 ·exact h1
theorem ZsX {s:Sto} {l:List Rec} (h:ZaY l) (hl:l.length<=20) (hk:0<=s.now.st.kind∧s.now.st.kind<6) (hx:s.next<4611686018427387904):(ZcM s l).length<=1300:=by
 have h1:=ZmH h
 have h2:=ZdN (d:=ZcU l) (by omega)
 unfold ZcM
 split
 ·rw[List.length_append]
  have h3:=Zff (v:=3) (k:=s.now.st.kind.toNat) (f:=s.next.toNat) (by decide) (by omega) (by omega)
  have h4:=ZdN (d:=Zbk 3 s.now.st.kind.toNat s.next.toNat) (by omega)
  omega
 ·omega
def Ziy (s:Sto) (name:Int):Lgb:=if s.cur=0 then s.log.start name s.next else s.log
theorem ZlA {l:List Pce}:l.Pairwise (fun p q=>p.name<q.name)↔(l.map Pce.name).Pairwise (·<·):=by rw[List.pairwise_map]
theorem Zlz.append {x:SDk} {all:List Rec} {n:Nat} (h:Zlz x all n) (l:List Rec) (hl:l.length<=20):Zlz (ZaT l x).1 (if(ZaT l x).2=0 then all++l else all) (n+1):=by
 obtain⟨s,d⟩:=x
 have hok:OkS s:=h.ok
 have hokd:OkD d:=h.okd
 unfold ZaT
 by_cases hf:ZaY l
 case neg=>
  rw[if_pos hf,if_neg (show ¬ (1:Int)=0 by decide)]
  exact h.more
 rw[if_neg (fun hh=>hh hf)]
 by_cases hx:(l.headD Zai).idx=s.next
 case neg=>
  rw[if_pos hx,if_neg (show ¬ (15:Int)=0 by decide)]
  exact h.more
 rw[if_neg (fun hh=>hh hx)]
 dsimp only
 by_cases hc:(Zaw d (ZdJ s d) (ZcM s l)).2=0
 case neg=>
  rw[if_neg hc,if_neg hc,ZsQ hc]
  exact h.more
 rw[if_pos hc,if_pos rfl]
 have hon:=Zvg hc
 have hne:l≠[]:=fun e=>by rw[e] at hf;exact absurd hf.1 (by decide)
 have hlog:=hok.log
 have hf0:=hlog.f0
 have htop:=hlog.top
 have hn0:0<=s.next:=by unfold Sto.next Lgb.next;omega
 have hn1:s.next<=4611686018427387904:=htop
 have hnl:s.log.next=s.next:=rfl
 have hch:ZaO s.next l:=by rw[<-hx];exact hf.2.2.2
 have htl:=Zfo hch hf.2.2.1 hne
 have hlp:1<=l.length:=hf.1
 have hta:(ZaG s.now l).2=0:=Zge l s.now (by rw[hok.nx];exact hch) hf.2.2.1
 obtain⟨nm,hnm⟩:∃ nm,nm=ZdJ s d:=⟨_,rfl⟩
 rw[<-hnm] at hc ⊢
 have hb:=ZsX (s:=s) hf hl ⟨hok.now.1.2.2.2.1,hok.now.1.2.2.2.2.1⟩ (by omega)
 -- the log ahead of the records
 have hgs:(Ziy s nm).pcs.length≠0∧(Ziy s nm).next=s.next∧OkG (Ziy s nm)∧(Ziy s nm).recs=s.log.recs∧(Ziy s nm).first<=s.base.idx∧((Ziy s nm).first.toNat<=all.length)∧s.log.recs=all.drop (Ziy s nm).first.toNat∧(Ziy s nm).pcs.length<=n+1∧
  ((Ziy s nm).pcs.map Pce.name).Pairwise (·<·)∧(∀ q ∈ (Ziy s nm).pcs.map Pce.name,2<=q∧q % 2=0)∧(∃ a,(Ziy s nm).pcs.map Pce.name=a++[nm])∧I64 nm∧(∀ q ∈ (Ziy s nm).pcs.map Pce.name,q=nm∨q ∈ Zan d):=by
  have hlen:s.next=all.length:=h.len
  have hrec:s.log.recs=all.drop s.log.first.toNat:=h.recs
  have hfl:s.log.first.toNat<=all.length:=by
   have h1:s.next=s.log.first+s.log.recs.length:=rfl
   omega
  have hold:∀ q ∈ s.log.pcs.map Pce.name,q ∈ Zan d∧2<=q∧q % 2=0:=fun q hq=>by
   obtain⟨p,hp,rfl⟩:=List.mem_map.1 hq
   exact⟨h.on hon p hp,h.two p hp⟩
  have hpw:=ZlA.1 h.nam
  have hpcn:s.log.pcs.length<=n:=h.pcn
  unfold Ziy
  by_cases h0:s.cur=0
  ·have hnm':nm=Zbz d 2:=by rw[hnm];unfold ZdJ;rw[if_pos h0]
   have hso:=ZeH (d:=d) 2
   rw[if_pos h0]
   have hm:(s.log.start nm s.next).pcs.map Pce.name=s.log.pcs.map Pce.name++[nm]:=by
    show(s.log.pcs++[_]).map Pce.name=_
    rw[List.map_append]
    rfl
   rw[hm]
   refine⟨by show(s.log.pcs++[_]).length≠0;simp,s.log.start_next nm s.next hlog.empty (.inr rfl),hlog.start nm s.next hn0 hn1 (.inr rfl),rfl,?_,?_,?_,by show(s.log.pcs++[_]).length<=_;simp;omega,?_,?_,⟨_,rfl⟩,?_,?_⟩
   ·show(if s.log.pcs.length=0 then s.next else s.log.first)<=_
    split
    ·rename_i he
     have h1:=hlog.empty he
     have h2:s.next=s.log.first+s.log.recs.length:=rfl
     rw[h1] at h2
     have h3:s.log.first<=s.base.idx:=h.bas.1
     simp at h2
     omega
    ·exact h.bas.1
   ·show(if s.log.pcs.length=0 then s.next else s.log.first).toNat<=_
    split <;> omega
   ·show _=all.drop (if s.log.pcs.length=0 then s.next else s.log.first).toNat
    split
    ·rename_i he
     rw[hlog.empty he,hlen]
     simp
    ·exact hrec
   ·rw[List.pairwise_append]
    refine⟨hpw,List.pairwise_singleton _ _,fun a ha b hb=>?_⟩
    rw[List.mem_singleton.1 hb,hnm']
    have h1:=hold a ha
    exact Zqq hokd 2 a h1.1 h1.2.1 (by have:=h1.2.2;omega)
   ·intro q hq
    rcases List.mem_append.1 hq with hq | hq
    ·exact(hold q hq).2
    ·rw[List.mem_singleton.1 hq,hnm']
     omega
   ·rw[hnm']
    exact Zia hokd 2 (by decide) (by decide)
   ·intro q hq
    rcases List.mem_append.1 hq with hq | hq
    ·exact .inr (hold q hq).1
    ·exact .inl (List.mem_singleton.1 hq)
  ·have hnm':nm=s.cur:=by rw[hnm];unfold ZdJ;rw[if_neg h0]
   rw[if_neg h0]
   obtain⟨a,p,hp1,hp2⟩:=h.curL h0
   have hp1':s.log.pcs=a++[p]:=hp1
   refine⟨hok.cur h0,rfl,hlog,rfl,h.bas.1,hfl,hrec,by omega,hpw,fun q hq=>(hold q hq).2,⟨a.map Pce.name,?_⟩,by rw[hnm'];exact hok.cu,fun q hq=>.inr (hold q hq).1⟩
   rw[hp1',List.map_append,hnm',<-hp2]
   rfl
 obtain⟨g1,g2,g3,g4,g5,g6,g7,g8,g9,g10,⟨a0,g11⟩,g12,g13⟩:=hgs
 have hlg:(ZbE s nm l).log=(Ziy s nm).add l:=rfl
 have hnx:(ZbE s nm l).next=s.next+l.length:=by
  show((Ziy s nm).add l).next=_
  rw[Lgb.add_next,g2]
 have hmn:((Ziy s nm).add l).pcs.map Pce.name=(Ziy s nm).pcs.map Pce.name:=Zkv _ _
 have hst:=ZfR l s.now hta
 refine⟨⟨?_,?_,?_,?_,hok.sy,g12⟩,?_,?_,h.bs0,by have:=h.bsn;exact Nat.le_trans this (by omega),⟨g5,?_⟩,?_,?_,?_,?_,?_,?_,hokd.append _ _,?_⟩
 ·exact g3.add l g1 hf.2.2.1 (by rw[g2];exact hch) (by rw[g2];exact htl)
 ·rw[hnx]
  show(ZaG s.now l).1.idx=_
  rw[hst.2,hok.nx]
 ·exact hok.now.take hta
 ·intro _
  show((Ziy s nm).add l).pcs.length≠0
  show(ZbR (Ziy s nm).pcs l.length).length≠0
  rw[Zcq]
  exact g1
 ·rw[hnx,List.length_append]
  have hlen:s.next=all.length:=h.len
  omega
 ·show(Ziy s nm).recs++l=(all++l).drop (Ziy s nm).first.toNat
  rw[g4,g7,List.drop_append_of_le_length g6]
 ·rw[hnx]
  have h1:s.base.idx<=s.next:=h.bas.2
  show s.base.idx<=_
  omega
 ·show(ZbR (Ziy s nm).pcs l.length).length<=_
  rw[Zcq]
  exact g8
 ·rw[List.length_append]
  have:=h.rcn
  omega
 ·exact ZlA.2 (by rw[hlg,hmn];exact g9)
 ·intro p hp
  exact g10 p.name (by rw[<-hmn];exact List.mem_map.2 ⟨p,hp,rfl⟩)
 ·intro _
  have h1:(ZbE s nm l).log.pcs.length≠0:=by
   show(ZbR (Ziy s nm).pcs l.length).length≠0
   rw[Zcq]
   exact g1
  obtain⟨a,p,hap⟩:=ZoW h1
  refine⟨a,p,hap,?_⟩
  have h2:(ZbE s nm l).log.pcs.map Pce.name=a0++[nm]:=by rw[hlg,hmn,g11]
  rw[hap,List.map_append] at h2
  have h3:=(List.append_inj' h2 rfl).2
  exact List.head_eq_of_cons_eq h3
 ·intro _ p hp
  have h1:p.name ∈ (Ziy s nm).pcs.map Pce.name:=by rw[<-hmn];exact List.mem_map.2 ⟨p,hp,rfl⟩
  exact(Zif hokd hc p.name).2 (g13 p.name h1)
 ·exact(Zvi h.sz).more zL (by omega)
end Go.Proofs.YtnahjngbneicaaaGreatDoor
