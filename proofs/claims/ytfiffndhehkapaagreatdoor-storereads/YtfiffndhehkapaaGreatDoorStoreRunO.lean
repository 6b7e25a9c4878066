import Derived.Test.YtfiffndhehkapaaGreatDoorStoreRunN
namespace Go.Proofs.YtfiffndhehkapaaGreatDoor
set_option maxRecDepth 100000
theorem ZeT:∀ (n:Nat) (l:List UInt8),l.length<=n->(Zae (Zbb l)).length*64<=78*l.length+896
 | 0,l,h=>by
  have e:l=[]:=List.eq_nil_of_length_eq_zero (by omega)
  rw[e,ZaY]
  simp[Zae]
 | n+1,l,h=>by
  by_cases e:l=[]
  ·rw[e,ZaY]
   simp[Zae]
  ·rw[Zbw e,ZaS,List.length_append]
   have h1:=Zca (d:=l.take 64) (by rw[List.length_take];omega)
   have h0:l.length≠0:=fun h0=>e (List.eq_nil_of_length_eq_zero h0)
   have ih:=ZeT n (l.drop 64) (by rw[List.length_drop];omega)
   rw[List.length_drop] at ih
   rw[List.length_take] at h1
   by_cases h64:l.length<=64
   ·have e2:l.drop 64=[]:=List.drop_eq_nil_of_le h64
    rw[e2,ZaY]
    simp only [Zae,List.flatMap_nil,List.length_nil]
    omega
   ·omega
theorem Zvc (n:ZaU):(ZcS n).length<=6200:=by
 unfold ZcS
 split
 ·rename_i h
  unfold ZxJ ZdY
  rw[ZaS,List.length_append]
  have h1:=ZeO h
  have h2:=Zhp (i:=n.idx.toNat) (by have:=h.1;omega) (w:=Zba n) (by omega)
  have h3:=Zca (d:=Zid n.idx.toNat (Zba n)) (by omega)
  have h4:=ZeT _ (Zba n) zL
  omega
 ·exact Nat.zero_le _
theorem Zxz (x:SDk):Kp x.2 (ZcA x).1.2∧(ZcA x).1.1.cur=x.1.cur∧(ZcA x).1.1.synced=x.1.synced:=by
 unfold ZcA
 split
 ·exact⟨Zxp (by decide),rfl,rfl⟩
 ·exact⟨Kp.refl _,rfl,rfl⟩
theorem Zsg {x:SDk} (hok:OkD x.2) (h:(ZcA x).2=0):look (Zbo (ZcA x).1.2) 1=none:=by
 unfold ZcA at h ⊢
 split
 ·rename_i h1
  rw[if_pos h1] at h
  have h':(Zam x.2 1).2=0:=h
  show look (Zbo (Zam x.2 1).1) 1=none
  rw[ZlA hok h',if_pos rfl]
 ·rename_i h1
  show look (Zbo x.2) 1=none
  cases hl:look (Zbo x.2) 1 with
  | none=>rfl
  | some f=>exact absurd ((ZcE hok 1).2 ⟨f,hl⟩) h1
theorem Zvd (x:SDk):Kp x.2 (Zea x).1.2∧(Zea x).1.1.cur=x.1.cur∧(Zea x).1.1.synced=x.1.synced:=by
 have h:=ZhT (d:=x.2) 3
 exact⟨Zxq (by decide) (by omega),rfl,rfl⟩
theorem Zsh (x:SDk):Kp x.2 (Zbu (fun d=>Zds d 1) x).1.2∧(Zbu (fun d=>Zds d 1) x).1.1.cur=x.1.cur∧(Zbu (fun d=>Zds d 1) x).1.1.synced=x.1.synced:=⟨Zxo _ _,rfl,rfl⟩
theorem Zcw.kp {s:Sto} {d:Dk} {y:SDk} {all:List Rec} {n:Nat} (h:Zcw (s,d) all n) (hk:Kp d y.2∧y.1.cur=s.cur∧y.1.synced=s.synced) (hn:y.1.now=s.now∧y.1.bases=s.bases∧y.1.log=s.log):Zcw y all n:=
 Zcw.head (s':=y.1) (d':=y.2) h hk.1 hn.2.2 hn.2.1 hn.1 (.inl hk.2.2) (.inl hk.2.1)
theorem Zcw.write {s:Sto} {d:Dk} {all:List Rec} {n:Nat} (h:Zcw (s,d) all n) (hl:look (Zbo d) 1=none):Zcw (Zho (s,d)).1 all (n+1):=by
 have hb:=Zvc s.now
 have hok:OkD d:=h.okd
 show Zcw (s,(ZaI d 1 (ZcS s.now)).1) all (n+1)
 have hm:=h.more
 refine⟨hm.ok,hm.len,hm.recs,hm.bs0,hm.bsn,hm.bas,hm.pcn,hm.rcn,hm.nam,hm.two,hm.curL,fun h0 p hp=>?_,hok.append _ _,(Zqi h.sz hl (by omega)).more zL (by omega)⟩
 have h1:p.name ∈ Zak d:=h.on (Zxy h0) p hp
 by_cases hc:(ZaI d 1 (ZcS s.now)).2=0
 ·exact(Zje hok hc p.name).2 (.inr h1)
 ·show p.name ∈ Zak (ZaI d 1 (ZcS s.now)).1
  rw[ZmY hc]
  exact h1
theorem Zcw.made {x:SDk} {all:List Rec} {n:Nat} (h:Zcw x all n):Zcw (ZgI x).1 all (n+1):=by
 unfold ZgI
 have h1:=h.sync
 rw[Zbh]
 split
 case isFalse=>exact h1.more
 generalize (Zcz x).1=y1 at h1
 clear h
 rw[Zbh]
 split
 case isFalse=>exact h1.more
 have e1:(Znq y1).1=y1:=rfl
 rw[e1,Zbh]
 have h2:Zcw (ZcA y1).1 all n:=by
  obtain⟨s,d⟩:=y1
  exact h1.kp (Zxz (s,d)) (ZmT (s,d))
 split
 case isFalse=>exact h2.more
 rename_i hc2
 have hln:=Zsg h1.okd hc2
 generalize (ZcA y1).1=y2 at h2 hln
 clear h1 e1
 rw[Zbh]
 have h3:Zcw (Zho y2).1 all (n+1):=by
  obtain⟨s,d⟩:=y2
  exact h2.write hln
 split
 case isFalse=>exact h3
 generalize (Zho y2).1=y3 at h3
 clear h2 hln
 rw[Zbh]
 have h4:Zcw (Zbu (fun d=>Zds d 1) y3).1 all (n+1):=by
  obtain⟨s,d⟩:=y3
  exact h3.kp (Zsh (s,d)) ⟨rfl,rfl,rfl⟩
 split
 case isFalse=>exact h4
 generalize (Zbu (fun d=>Zds d 1) y3).1=y4 at h4
 clear h3
 rw[Zbh]
 have h5:Zcw (Zea y4).1 all (n+1):=by
  obtain⟨s,d⟩:=y4
  exact h4.kp (Zvd (s,d)) ⟨rfl,rfl,rfl⟩
 split
 case isFalse=>exact h5
 generalize (Zea y4).1=y5 at h5
 clear h4
 rw[Zbh]
 have h6:Zcw (Zaq y5).1 all (n+1):=by
  obtain⟨s,d⟩:=y5
  exact h5.kp (ZlD (s,d)) (Zjb (s,d))
 split
 ·exact h6
 ·exact h6
theorem ZxA (l:List ZaU) (x:ZaU):(l++[x]).getD ((l++[x]).length-1) Zbi=x:=by
 have e:(l++[x]).length-1=l.length:=by simp
 rw[e]
 simp[List.getD]
theorem Zcw.checkpoint {x:SDk} {all:List Rec} {n:Nat} (h:Zcw x all n):Zcw (Zbk x).1 all (n+1):=by
 have h1:=h.made
 have hb:=(Zlr x).2.1
 unfold Zbk
 split
 case isFalse=>exact h1
 have hbn:(ZgI x).1.1.bases.length<=n+1:=by rw[hb];exact h.bsn
 generalize (ZgI x).1=y at h1 hbn
 obtain⟨s,d⟩:=y
 have hok:OkS s:=h1.ok
 have he:({ s with bases:=s.bases++[s.now] }:Sto).base=s.now:=ZxA s.bases s.now
 have hf:s.log.first<=s.next:=by unfold Sto.next Lgb.next;omega
 refine⟨⟨hok.log,hok.nx,hok.now,hok.cur,hok.sy,hok.cu⟩,h1.len,h1.recs,by show(s.bases++[s.now]).length≠0;simp,by show(s.bases++[s.now]).length<=_;rw[List.length_append];have hbn':s.bases.length<=n+1:=hbn;simp;omega,?_,h1.pcn,h1.rcn,h1.nam,h1.two,h1.curL,h1.on,h1.okd,h1.sz⟩
 show s.log.first<=({ s with bases:=s.bases++[s.now] }:Sto).base.idx∧({ s with bases:=s.bases++[s.now] }:Sto).base.idx<=s.next
 rw[he,hok.nx]
 exact⟨hf,Int.le_refl _⟩
end Go.Proofs.YtfiffndhehkapaaGreatDoor
