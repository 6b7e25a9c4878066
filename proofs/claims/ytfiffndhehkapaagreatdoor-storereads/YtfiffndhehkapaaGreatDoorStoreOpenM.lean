import Derived.Test.YtfiffndhehkapaaGreatDoorStoreW
namespace Go.Proofs.YtfiffndhehkapaaGreatDoor
set_option maxRecDepth 100000
theorem ZBe (n:Nat):1<=(Lib.uvarint n).length:=by
 rw[Lib.uvarint]
 split <;> simp
theorem ZuQ (pre:List Rec) (r:Rec):1<=(ZbH pre r).length:=by
 unfold ZbH
 rw[List.length_append]
 have:=ZBe r.proc.toNat
 omega
theorem ZpV:∀ (l pre:List Rec),l.length<=(Zbq pre l).length
 | [],pre=>by simp
 | r::t,pre=>by
  rw[Zbq,List.length_append,List.length_cons]
  have:=ZpV t (pre++[r])
  have:=ZuQ pre r
  omega
theorem Zxj {d:List UInt8} {l:List Rec} (h:ZgH d=some l):l.length<=d.length:=by
 obtain⟨-,h2⟩:=Zii h
 rw[<-h2]
 unfold Zdy
 rw[List.length_append,List.length_append]
 have:=ZpV l []
 omega
def ZAD (B:List (List UInt8)):Nat:=(B.map List.length).sum
theorem Zlt (d:List UInt8) (t:List (List UInt8)):ZAD (d::t)=d.length+ZAD t:=by simp[ZAD]
theorem Zlu:∀ L:List (List UInt8),ZAD L<=(Zae L).length
 | []=>Nat.zero_le _
 | x::t=>by
  have ih:=Zlu t
  have e:Zae (x::t)=Zad x++Zae t:=by simp[Zae]
  rw[Zlt,e,List.length_append,Zar]
  omega
theorem ZuR (b:List UInt8):ZAD (Zao b).1<=b.length:=by
 obtain⟨h1,-⟩:=Zfo b.length b zL
 have h2:=Zlu (Zao b).1
 rw[h1,List.length_take] at h2
 omega
theorem Zlv (first:Int):∀ (B:List (List UInt8)) (acc:List Rec),(Zbx first B acc).length<=acc.length+ZAD B
 | [],acc=>by
  rw[Zbx]
  omega
 | d::t,acc=>by
  rw[Zex,Zlt]
  cases hd:ZgH d with
  | none=>dsimp only;omega
  | some l=>
   dsimp only
   split
   ·have ih:=Zlv first t (acc++l)
    have:=Zxj hd
    rw[List.length_append] at ih
    omega
   ·omega
theorem ZhR (first:Int):∀ (B:List (List UInt8)) (acc:List Rec),ZaZ first acc->ZaZ first (Zbx first B acc)
 | [],acc,h=>by
  rw[Zbx]
  exact h
 | d::t,acc,h=>by
  rw[Zex]
  cases hd:ZgH d with
  | none=>exact h
  | some l=>
   dsimp only
   split
   ·rename_i he
    refine ZhR first t (acc++l) (Zgc.2 ⟨h,?_⟩)
    rw[<-he]
    exact(Zii hd).1.2.2.2
   ·exact h
theorem ZpW {b:List UInt8} {kind:Int} {f:Nat} {l:List Rec} (h:ZxK b kind=some (f,l)):ZaZ f l∧l.length<=b.length:=by
 have hw:=ZuR b
 rw[ZrN] at h
 unfold ZwZ at h
 cases hL:(Zao b).1 with
 | nil=>rw[hL] at h;cases h
 | cons H B=>
  rw[hL] at h hw
  dsimp only at h
  cases hh:Zfe H kind with
  | none=>rw[hh] at h;cases h
  | some f'=>
   rw[hh] at h
   have h2:=Option.some.inj h
   injection h2 with e1 e2
   subst e1
   rw[<-e2]
   refine⟨ZhR _ B [] trivial,?_⟩
   have:=Zlv f' B []
   rw[Zlt] at hw
   simp only [List.length_nil] at this
   omega
theorem ZpX:∀ (m:Nat) (l:List Nat),l.Nodup->(∀ x ∈ l,x<m)->l.length<=m
 | 0,l,_,h=>by
  cases l with
  | nil=>exact Nat.le_refl _
  | cons x t=>exact absurd (h x List.mem_cons_self) (Nat.not_lt_zero _)
 | m+1,l,hd,h=>by
  have h1:=ZpX m (l.erase m) (hd.erase m) (fun x hx=>by
   have h2:=h x (List.mem_of_mem_erase hx)
   have h3:x≠m:=fun e=>by
    rw[e] at hx
    exact(List.Nodup.mem_erase_iff hd).1 hx |>.1 rfl
   omega)
  have h4:l.length<=(l.erase m).length+1:=by
   rw[List.length_erase]
   split <;> omega
  omega
theorem OkL.few {m:Nat} {l:Dir} (h:OkL m l):l.length<=m:=by
 have h1:(l.map Prod.snd).Nodup:=by
  unfold List.Nodup
  rw[List.pairwise_map]
  exact h.apart
 have h2:=ZpX m (l.map Prod.snd) h1 (fun x hx=>by
  obtain⟨p,hp,rfl⟩:=List.mem_map.1 hx
  exact(h.may p hp).2)
 rwa [List.length_map] at h2
structure SzD (d:Dk) (F B:Nat):Prop where
 files:d.files.length<=F
 bytes:∀ x ∈ d.files,x.b.length<=B
theorem SzD.fl {d:Dk} {F B:Nat} (h:SzD d F B) (f:Nat):(fl d.files f).b.length<=B:=by
 by_cases hf:f<d.files.length
 ·exact h.bytes _ (Zgo hf)
 ·unfold Go.Proofs.YtfiffndhehkapaaGreatDoor.fl
  rw[List.getD,List.getElem?_eq_none (by omega)]
  exact Nat.zero_le _
theorem SzD.read {d:Dk} {F B:Nat} (h:SzD d F B) (n:Int):(ZcU d n).1.length<=B:=by
 unfold ZcU
 split
 ·exact Nat.zero_le _
 ·split
  ·exact h.fl _
  ·exact Nat.zero_le _
theorem SzD.names {d:Dk} {F B:Nat} (h:SzD d F B) (hok:OkD d) (first:Int):(ZaW (Zak d) first).length<=F:=by
 refine Nat.le_trans (List.length_filter_le _ _) ?_
 unfold Zak
 rw[List.length_map]
 exact Nat.le_trans hok.dir.few h.files
theorem OkG.logOne {d:Dk} {kind:Int} {b:Lgb} (h:OkG b) (n:Int):OkG (logOne d kind b n):=by
 unfold Go.Proofs.YtfiffndhehkapaaGreatDoor.logOne
 cases hs:ZxK (ZcU d n).1 kind with
 | none=>exact h
 | some x=>
  obtain⟨f,l⟩:=x
  dsimp only
  obtain⟨h1,h2⟩:=Zxi hs
  obtain⟨h3,-⟩:=ZpW hs
  split
  ·rename_i hc
   have hst:=h.start n f (by omega) (by omega) hc
   have hnx:=b.start_next n f h.empty hc
   refine hst.add l ?_ h2 (by rw[hnx];exact h3) ?_
   ·show(b.pcs++[_]).length≠0
    simp
   ·rw[hnx]
    by_cases he:l=[]
    ·rw[he]
     simp only [List.length_nil]
     omega
    ·exact Zij h3 h2 he
  ·exact h
theorem ZpY {d:Dk} {kind:Int} {F B:Nat} (hz:SzD d F B) (b:Lgb) (n:Int):(logOne d kind b n).recs.length<=b.recs.length+B∧(logOne d kind b n).pcs.length<=b.pcs.length+1:=by
 unfold logOne
 cases hs:ZxK (ZcU d n).1 kind with
 | none=>exact⟨Nat.le_add_right _ _,Nat.le_add_right _ _⟩
 | some x=>
  obtain⟨f,l⟩:=x
  dsimp only
  obtain⟨-,h4⟩:=ZpW hs
  have h5:=hz.read n
  split
  ·refine⟨?_,?_⟩
   ·show(b.recs++l).length<=_
    rw[List.length_append]
    omega
   ·show(ZbW (b.pcs++[_]) l.length).length<=_
    rw[ZcN]
    simp
  ·exact⟨Nat.le_add_right _ _,Nat.le_add_right _ _⟩
theorem ZhS (d:Dk) (kind:Int) (l:List Int):∀ q,OkG (ZcR d kind l q)
 | 0=>Zsy 0 (by decide) (by decide)
 | q+1=>by
  by_cases hq:q<l.length
  ·rw[Zix d kind l q hq]
   exact(ZhS d kind l q).logOne _
  ·have e:ZcR d kind l (q+1)=ZcR d kind l q:=by
    unfold ZcR
    rw[List.take_of_length_le (by omega),List.take_of_length_le (by omega)]
   rw[e]
   exact ZhS d kind l q
theorem ZgU {d:Dk} {kind:Int} {F B:Nat} (hz:SzD d F B) (l:List Int):∀ q,(ZcR d kind l q).recs.length<=min q l.length*B∧(ZcR d kind l q).pcs.length<=min q l.length
 | 0=>⟨Nat.zero_le _,Nat.zero_le _⟩
 | q+1=>by
  have ih:=ZgU (kind:=kind) hz l q
  by_cases hq:q<l.length
  ·rw[Zix d kind l q hq]
   have h1:=ZpY (kind:=kind) hz (ZcR d kind l q) (l.getD q 0)
   have e1:min q l.length=q:=by omega
   have e2:min (q+1) l.length=q+1:=by omega
   rw[e1] at ih
   rw[e2,Nat.succ_mul]
   omega
  ·have e:ZcR d kind l (q+1)=ZcR d kind l q:=by
    unfold ZcR
    rw[List.take_of_length_le (by omega),List.take_of_length_le (by omega)]
   have e1:min (q+1) l.length=min q l.length:=by omega
   rw[e,e1]
   exact ih
theorem OkG.logOk {g:Lgb} (h:OkG g) (h1:g.recs.length<=9000000) (h2:g.pcs.length<=900000):ZAm g:=by
 have ht:=h.top
 have h0:=h.f0
 refine⟨h0,?_,h1,h2,fun p hp=>?_⟩
 ·unfold Lgb.next at ht
  omega
 ·have:=ZeP h.ch p hp
  omega
theorem ZyY {d:Dk} (kind:Int) {F B:Nat} (hz:SzD d F B) (hok:OkD d) (hF:F<=900) (hFB:F*B<=9000000) (q:Nat):ZAm (ZcR d kind (ZaW (Zak d) 2) q):=by
 have h1:=ZgU (kind:=kind) hz (ZaW (Zak d) 2) q
 have h2:=hz.names hok 2
 have h3:min q (ZaW (Zak d) 2).length<=F:=by omega
 refine(ZhS d kind _ q).logOk ?_ (by omega)
 have h4:min q (ZaW (Zak d) 2).length*B<=F*B:=Nat.mul_le_mul_right B h3
 omega
theorem ZsW (d:Dk) (kind:Int):OkG (ZiM d kind):=by
 have:=ZhS d kind (ZaW (Zak d) 2) (ZaW (Zak d) 2).length
 rwa [Zln d kind _ _ rfl] at this
theorem ZmW {d:Dk} (kind:Int) {F B:Nat} (hz:SzD d F B) (hok:OkD d):(ZiM d kind).recs.length<=F*B∧(ZiM d kind).pcs.length<=F:=by
 have h1:=ZgU (kind:=kind) hz (ZaW (Zak d) 2) (ZaW (Zak d) 2).length
 rw[Zln d kind _ _ rfl,Nat.min_self] at h1
 have h2:=hz.names hok 2
 have h3:=Nat.mul_le_mul_right B h2
 unfold ZiM
 omega
theorem ZuS {kind:Int} (h0:0<=kind) (h1:kind<6):Zcy (ZcV kind):=by
 have hk:kind=0∨kind=1∨kind=2∨kind=3∨kind=4∨kind=5:=by omega
 rcases hk with rfl | rfl | rfl | rfl | rfl | rfl <;> decide
theorem ZuT {kind:Int} (h0:0<=kind) (h1:kind<6):Zgm (Zdz kind):=⟨⟨by show(0:Int)<=0;decide,by show(0:Int)<4611686018427387904;decide⟩,ZuS h0 h1,Zdu.zero _⟩
theorem ZrV {kind:Int} (h0:0<=kind) (h1:kind<6):(Zdz kind).st.kind=kind:=by
 have hk:kind=0∨kind=1∨kind=2∨kind=3∨kind=4∨kind=5:=by omega
 rcases hk with rfl | rfl | rfl | rfl | rfl | rfl <;> rfl
theorem Zgm.snS {s:ZaU} (h:Zgm s):SnS s:=⟨h.2.1,h.2.2.tabR⟩
theorem Zjd {d:Dk} {kind:Int}:∀ (l:List Int) (b:List ZaU),(∀ x ∈ b,Zgm x∧x.st.kind=kind)->b≠[]->(∀ x ∈ l.foldl (Zdb d kind) b,Zgm x∧x.st.kind=kind)∧l.foldl (Zdb d kind) b≠[]
 | [],b,h,h0=>⟨h,h0⟩
 | n::l,b,h,h0=>by
  rw[List.foldl_cons]
  refine Zjd l _ ?_ ?_
  ·unfold Zdb
   split
   ·rename_i hc
    intro x hx
    rcases List.mem_append.1 hx with hx | hx
    ·exact h x hx
    ·rw[List.mem_singleton.1 hx]
     exact⟨(Ztv hc.1).1,hc.2⟩
   ·exact h
  ·unfold Zdb
   split
   ·simp
   ·exact h0
theorem Ziz {d:Dk} {kind:Int} (h0:0<=kind) (h1:kind<6):(∀ x ∈ Zbp d kind,Zgm x∧x.st.kind=kind)∧Zbp d kind≠[]:=
 Zjd _ _ (fun x hx=>by rw[List.mem_singleton.1 hx];exact⟨ZuT h0 h1,ZrV h0 h1⟩) (by simp)
theorem ZuU {l:List ZaU} (h:l≠[]):ZdZ l ∈ l:=by
 unfold ZdZ
 have hl:l.length-1<l.length:=by have:=List.length_pos_iff.2 h;omega
 rw[List.getD,List.getElem?_eq_getElem hl]
 exact List.getElem_mem _
theorem ZrW {d:Dk} {kind:Int} (h0:0<=kind) (h1:kind<6):Zgm (ZdZ (Zbp d kind))∧(ZdZ (Zbp d kind)).st.kind=kind:=by
 obtain⟨h2,h3⟩:=Ziz (d:=d) h0 h1
 exact h2 _ (ZuU h3)
theorem ZuV {d:Dk} {kind:Int} {F B:Nat} (hz:SzD d F B) (hok:OkD d):(Zbp d kind).length<=F+1:=by
 have h1:=Zls d kind (ZaW (Zak d) 3) (ZaW (Zak d) 3).length zL
 rw[ZpT d kind _ _ rfl] at h1
 have h2:=hz.names hok 3
 unfold Zbp
 omega
theorem Zjz {d:Dk} {kind:Int} (h0:0<=kind) (h1:kind<6):OkS (Zqy d kind):=by
 obtain⟨hb,-⟩:=ZrW (d:=d) h0 h1
 have hg:=ZsW d kind
 unfold Zqy
 generalize ZdZ (Zbp d kind)=b at hb ⊢
 unfold Lgb.behind
 have hb1:=hb.1
 by_cases hl:(ZiM d kind).leads b
 ·rw[if_pos hl]
  obtain⟨g1,g2,g3,g4⟩:=hl
  have hst:=(ZgG _ _ g4).2
  have hnx:(ZaN b ((ZiM d kind).recs.drop (b.idx-(ZiM d kind).first).toNat)).1.idx=(ZiM d kind).next:=by
   rw[hst,List.length_drop]
   unfold Lgb.next at g3 ⊢
   omega
  have ht:=hg.top
  have hf:=hg.f0
  have hn0:0<=(ZiM d kind).next:=by unfold Lgb.next;omega
  have hi:I64 (ZiM d kind).next:=⟨by omega,by omega⟩
  exact⟨hg,hnx,hb.snS.take g4,fun hc=>absurd rfl hc,hi,(Zai (by decide) (by decide):I64 0)⟩
 ·rw[if_neg hl]
  have e:(⟨b.idx,[],[]⟩:Lgb).next=b.idx:=by simp[Lgb.next]
  refine⟨Zsy _ (by omega) (by omega),?_,hb.snS,fun hc=>absurd rfl hc,?_,(Zai (by decide) (by decide):I64 0)⟩
  ·exact e.symm
  ·show I64 (⟨b.idx,[],[]⟩:Lgb).next
   rw[e]
   exact⟨by omega,by omega⟩
end Go.Proofs.YtfiffndhehkapaaGreatDoor
