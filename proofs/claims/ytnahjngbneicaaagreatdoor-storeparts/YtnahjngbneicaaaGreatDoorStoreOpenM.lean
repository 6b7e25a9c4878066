import Derived.Test.YtnahjngbneicaaaGreatDoorStoreW
namespace Go.Proofs.YtnahjngbneicaaaGreatDoor
set_option maxRecDepth 100000
theorem ZyN (n:Nat):1<=(Lib.uvarint n).length:=by
 rw[Lib.uvarint]
 split <;> simp
theorem ZsI (pre:List Rec) (r:Rec):1<=(Zbt pre r).length:=by
 unfold Zbt
 rw[List.length_append]
 have:=ZyN r.proc.toNat
 omega
theorem Zos:∀ (l pre:List Rec),l.length<=(Zbf pre l).length
 | [],pre=>by simp
 | r::t,pre=>by
  rw[Zbf,List.length_append,List.length_cons]
  have:=Zos t (pre++[r])
  have:=ZsI pre r
  omega
theorem Zvc {d:List UInt8} {l:List Rec} (h:ZfS d=some l):l.length<=d.length:=by
 obtain⟨-,h2⟩:=Zhk h
 rw[<-h2]
 unfold ZcU
 rw[List.length_append,List.length_append]
 have:=Zos l []
 omega
def Zyp (B:List (List UInt8)):Nat:=(B.map List.length).sum
theorem Zki (d:List UInt8) (t:List (List UInt8)):Zyp (d::t)=d.length+Zyp t:=by simp[Zyp]
theorem Zkj:∀ L:List (List UInt8),Zyp L<=(Zag L).length
 | []=>Nat.zero_le _
 | x::t=>by
  have ih:=Zkj t
  have e:Zag (x::t)=Zad x++Zag t:=by simp[Zag]
  rw[Zki,e,List.length_append,Zap]
  omega
theorem ZsJ (b:List UInt8):Zyp (Zal b).1<=b.length:=by
 obtain⟨h1,-⟩:=ZeC b.length b zL
 have h2:=Zkj (Zal b).1
 rw[h1,List.length_take] at h2
 omega
theorem Zkk (first:Int):∀ (B:List (List UInt8)) (acc:List Rec),(Zbl first B acc).length<=acc.length+Zyp B
 | [],acc=>by
  rw[Zbl]
  omega
 | d::t,acc=>by
  rw[ZdV,Zki]
  cases hd:ZfS d with
  | none=>dsimp only;omega
  | some l=>
   dsimp only
   split
   ·have ih:=Zkk first t (acc++l)
    have:=Zvc hd
    rw[List.length_append] at ih
    omega
   ·omega
theorem ZgT (first:Int):∀ (B:List (List UInt8)) (acc:List Rec),ZaO first acc->ZaO first (Zbl first B acc)
 | [],acc,h=>by
  rw[Zbl]
  exact h
 | d::t,acc,h=>by
  rw[ZdV]
  cases hd:ZfS d with
  | none=>exact h
  | some l=>
   dsimp only
   split
   ·rename_i he
    refine ZgT first t (acc++l) (Zfn.2 ⟨h,?_⟩)
    rw[<-he]
    exact(Zhk hd).1.2.2.2
   ·exact h
theorem Zot {b:List UInt8} {kind:Int} {f:Nat} {l:List Rec} (h:Zvv b kind=some (f,l)):ZaO f l∧l.length<=b.length:=by
 have hw:=ZsJ b
 rw[Zqd] at h
 unfold ZuY at h
 cases hL:(Zal b).1 with
 | nil=>rw[hL] at h;cases h
 | cons H B=>
  rw[hL] at h hw
  dsimp only at h
  cases hh:Zeu H kind with
  | none=>rw[hh] at h;cases h
  | some f'=>
   rw[hh] at h
   have h2:=Option.some.inj h
   injection h2 with e1 e2
   subst e1
   rw[<-e2]
   refine⟨ZgT _ B [] trivial,?_⟩
   have:=Zkk f' B []
   rw[Zki] at hw
   simp only [List.length_nil] at this
   omega
theorem Zou:∀ (m:Nat) (l:List Nat),l.Nodup->(∀ x ∈ l,x<m)->l.length<=m
 | 0,l,_,h=>by
  cases l with
  | nil=>exact Nat.le_refl _
  | cons x t=>exact absurd (h x List.mem_cons_self) (Nat.not_lt_zero _)
 | m+1,l,hd,h=>by
  have h1:=Zou m (l.erase m) (hd.erase m) (fun x hx=>by
   have h2:=h x (List.mem_of_mem_erase hx)
   have h3:x≠m:=fun e=>by
    rw[e] at hx
    exact(List.Nodup.mem_erase_iff hd).1 hx |>.1 rfl
   omega)
  have h4:l.length<=(l.erase m).length+1:=by
   rw[List.length_erase]
   split <;> omega
  omega
theorem OkL.few {m:Nat} {l:Dir} (h:OkL m l):l.length<=m:=by
 have h1:(l.map Prod.snd).Nodup:=by
  unfold List.Nodup
  rw[List.pairwise_map]
  exact h.apart
 have h2:=Zou m (l.map Prod.snd) h1 (fun x hx=>by
  obtain⟨p,hp,rfl⟩:=List.mem_map.1 hx
  exact(h.may p hp).2)
 rwa [List.length_map] at h2
structure SzD (d:Dk) (F B:Nat):Prop where
 files:d.files.length<=F
 bytes:∀ x ∈ d.files,x.b.length<=B
theorem SzD.fl {d:Dk} {F B:Nat} (h:SzD d F B) (f:Nat):(fl d.files f).b.length<=B:=by
 by_cases hf:f<d.files.length
 ·exact h.bytes _ (Zgk hf)
 ·unfold Go.Proofs.YtnahjngbneicaaaGreatDoor.fl
  rw[List.getD,List.getElem?_eq_none (by omega)]
  exact Nat.zero_le _
theorem SzD.read {d:Dk} {F B:Nat} (h:SzD d F B) (n:Int):(Zcv d n).1.length<=B:=by
 unfold Zcv
 split
 ·exact Nat.zero_le _
 ·split
  ·exact h.fl _
  ·exact Nat.zero_le _
theorem SzD.names {d:Dk} {F B:Nat} (h:SzD d F B) (hok:OkD d) (first:Int):(ZaR (Zan d) first).length<=F:=by
 refine Nat.le_trans (List.length_filter_le _ _) ?_
 unfold Zan
 rw[List.length_map]
 exact Nat.le_trans hok.dir.few h.files
theorem OkG.logOne {d:Dk} {kind:Int} {b:Lgb} (h:OkG b) (n:Int):OkG (logOne d kind b n):=by
 unfold Go.Proofs.YtnahjngbneicaaaGreatDoor.logOne
 cases hs:Zvv (Zcv d n).1 kind with
 | none=>exact h
 | some x=>
  obtain⟨f,l⟩:=x
  dsimp only
  obtain⟨h1,h2⟩:=Zvb hs
  obtain⟨h3,-⟩:=Zot hs
  split
  ·rename_i hc
   have hst:=h.start n f (by omega) (by omega) hc
   have hnx:=b.start_next n f h.empty hc
   refine hst.add l ?_ h2 (by rw[hnx];exact h3) ?_
   ·show(b.pcs++[_]).length≠0
    simp
   ·rw[hnx]
    by_cases he:l=[]
    ·rw[he]
     simp only [List.length_nil]
     omega
    ·exact Zfo h3 h2 he
  ·exact h
theorem Zov {d:Dk} {kind:Int} {F B:Nat} (hz:SzD d F B) (b:Lgb) (n:Int):(logOne d kind b n).recs.length<=b.recs.length+B∧(logOne d kind b n).pcs.length<=b.pcs.length+1:=by
 unfold logOne
 cases hs:Zvv (Zcv d n).1 kind with
 | none=>exact⟨Nat.le_add_right _ _,Nat.le_add_right _ _⟩
 | some x=>
  obtain⟨f,l⟩:=x
  dsimp only
  obtain⟨-,h4⟩:=Zot hs
  have h5:=hz.read n
  split
  ·refine⟨?_,?_⟩
   ·show(b.recs++l).length<=_
    rw[List.length_append]
    omega
   ·show(ZbR (b.pcs++[_]) l.length).length<=_
    rw[Zcq]
    simp
  ·exact⟨Nat.le_add_right _ _,Nat.le_add_right _ _⟩
theorem ZgU (d:Dk) (kind:Int) (l:List Int):∀ q,OkG (Zct d kind l q)
 | 0=>ZqI 0 (by decide) (by decide)
 | q+1=>by
  by_cases hq:q<l.length
  ·rw[ZhF d kind l q hq]
   exact(ZgU d kind l q).logOne _
  ·have e:Zct d kind l (q+1)=Zct d kind l q:=by
    unfold Zct
    rw[List.take_of_length_le (by omega),List.take_of_length_le (by omega)]
   rw[e]
   exact ZgU d kind l q
theorem Zgd {d:Dk} {kind:Int} {F B:Nat} (hz:SzD d F B) (l:List Int):∀ q,(Zct d kind l q).recs.length<=min q l.length*B∧(Zct d kind l q).pcs.length<=min q l.length
 | 0=>⟨Nat.zero_le _,Nat.zero_le _⟩
 | q+1=>by
  have ih:=Zgd (kind:=kind) hz l q
  by_cases hq:q<l.length
  ·rw[ZhF d kind l q hq]
   have h1:=Zov (kind:=kind) hz (Zct d kind l q) (l.getD q 0)
   have e1:min q l.length=q:=by omega
   have e2:min (q+1) l.length=q+1:=by omega
   rw[e1] at ih
   rw[e2,Nat.succ_mul]
   omega
  ·have e:Zct d kind l (q+1)=Zct d kind l q:=by
    unfold Zct
    rw[List.take_of_length_le (by omega),List.take_of_length_le (by omega)]
   have e1:min (q+1) l.length=min q l.length:=by omega
   rw[e,e1]
   exact ih
theorem OkG.logOk {g:Lgb} (h:OkG g) (h1:g.recs.length<=9000000) (h2:g.pcs.length<=900000):ZxZ g:=by
 have ht:=h.top
 have h0:=h.f0
 refine⟨h0,?_,h1,h2,fun p hp=>?_⟩
 ·unfold Lgb.next at ht
  omega
 ·have:=Zfm h.ch p hp
  omega
theorem ZwI {d:Dk} (kind:Int) {F B:Nat} (hz:SzD d F B) (hok:OkD d) (hF:F<=900) (hFB:F*B<=9000000) (q:Nat):ZxZ (Zct d kind (ZaR (Zan d) 2) q):=by
 have h1:=Zgd (kind:=kind) hz (ZaR (Zan d) 2) q
 have h2:=hz.names hok 2
 have h3:min q (ZaR (Zan d) 2).length<=F:=by omega
 refine(ZgU d kind _ q).logOk ?_ (by omega)
 have h4:min q (ZaR (Zan d) 2).length*B<=F*B:=Nat.mul_le_mul_right B h3
 omega
theorem ZqX (d:Dk) (kind:Int):OkG (ZhS d kind):=by
 have:=ZgU d kind (ZaR (Zan d) 2) (ZaR (Zan d) 2).length
 rwa [Zkg d kind _ _ rfl] at this
theorem Zlw {d:Dk} (kind:Int) {F B:Nat} (hz:SzD d F B) (hok:OkD d):(ZhS d kind).recs.length<=F*B∧(ZhS d kind).pcs.length<=F:=by
 have h1:=Zgd (kind:=kind) hz (ZaR (Zan d) 2) (ZaR (Zan d) 2).length
 rw[Zkg d kind _ _ rfl,Nat.min_self] at h1
 have h2:=hz.names hok 2
 have h3:=Nat.mul_le_mul_right B h2
 unfold ZhS
 omega
theorem ZsK {kind:Int} (h0:0<=kind) (h1:kind<6):Zcw (Zcx kind):=by
 have hk:kind=0∨kind=1∨kind=2∨kind=3∨kind=4∨kind=5:=by omega
 rcases hk with rfl | rfl | rfl | rfl | rfl | rfl <;> decide
theorem ZsL {kind:Int} (h0:0<=kind) (h1:kind<6):Zks (ZbV kind):=⟨⟨by show(0:Int)<=0;decide,by show(0:Int)<4611686018427387904;decide⟩,ZsK h0 h1,ZcT.zero _⟩
theorem Zqh {kind:Int} (h0:0<=kind) (h1:kind<6):(ZbV kind).st.kind=kind:=by
 have hk:kind=0∨kind=1∨kind=2∨kind=3∨kind=4∨kind=5:=by omega
 rcases hk with rfl | rfl | rfl | rfl | rfl | rfl <;> rfl
theorem Zks.snS {s:ZaX} (h:Zks s):SnS s:=⟨h.2.1,h.2.2.tabR⟩
theorem Zie {d:Dk} {kind:Int}:∀ (l:List Int) (b:List ZaX),(∀ x ∈ b,Zks x∧x.st.kind=kind)->b≠[]->(∀ x ∈ l.foldl (ZcE d kind) b,Zks x∧x.st.kind=kind)∧l.foldl (ZcE d kind) b≠[]
 | [],b,h,h0=>⟨h,h0⟩
 | n::l,b,h,h0=>by
  rw[List.foldl_cons]
  refine Zie l _ ?_ ?_
  ·unfold ZcE
   split
   ·rename_i hc
    intro x hx
    rcases List.mem_append.1 hx with hx | hx
    ·exact h x hx
    ·rw[List.mem_singleton.1 hx]
     exact⟨(Zru hc.1).1,hc.2⟩
   ·exact h
  ·unfold ZcE
   split
   ·simp
   ·exact h0
theorem ZhH {d:Dk} {kind:Int} (h0:0<=kind) (h1:kind<6):(∀ x ∈ Zbe d kind,Zks x∧x.st.kind=kind)∧Zbe d kind≠[]:=
 Zie _ _ (fun x hx=>by rw[List.mem_singleton.1 hx];exact⟨ZsL h0 h1,Zqh h0 h1⟩) (by simp)
theorem ZsM {l:List ZaX} (h:l≠[]):Zdx l ∈ l:=by
 unfold Zdx
 have hl:l.length-1<l.length:=by have:=List.length_pos_iff.2 h;omega
 rw[List.getD,List.getElem?_eq_getElem hl]
 exact List.getElem_mem _
theorem Zqi {d:Dk} {kind:Int} (h0:0<=kind) (h1:kind<6):Zks (Zdx (Zbe d kind))∧(Zdx (Zbe d kind)).st.kind=kind:=by
 obtain⟨h2,h3⟩:=ZhH (d:=d) h0 h1
 exact h2 _ (ZsM h3)
theorem ZsN {d:Dk} {kind:Int} {F B:Nat} (hz:SzD d F B) (hok:OkD d):(Zbe d kind).length<=F+1:=by
 have h1:=Zkh d kind (ZaR (Zan d) 3) (ZaR (Zan d) 3).length zL
 rw[Zoq d kind _ _ rfl] at h1
 have h2:=hz.names hok 3
 unfold Zbe
 omega
theorem ZmE {d:Dk} {kind:Int} (h0:0<=kind) (h1:kind<6):OkS (ZoT d kind):=by
 obtain⟨hb,-⟩:=Zqi (d:=d) h0 h1
 have hg:=ZqX d kind
 unfold ZoT
 generalize Zdx (Zbe d kind)=b at hb ⊢
 unfold Lgb.behind
 have hb1:=hb.1
 by_cases hl:(ZhS d kind).leads b
 ·rw[if_pos hl]
  obtain⟨g1,g2,g3,g4⟩:=hl
  have hst:=(ZfR _ _ g4).2
  have hnx:(ZaG b ((ZhS d kind).recs.drop (b.idx-(ZhS d kind).first).toNat)).1.idx=(ZhS d kind).next:=by
   rw[hst,List.length_drop]
   unfold Lgb.next at g3 ⊢
   omega
  have ht:=hg.top
  have hf:=hg.f0
  have hn0:0<=(ZhS d kind).next:=by unfold Lgb.next;omega
  have hi:I64 (ZhS d kind).next:=⟨by omega,by omega⟩
  exact⟨hg,hnx,hb.snS.take g4,fun hc=>absurd rfl hc,hi,(Zaj (by decide) (by decide):I64 0)⟩
 ·rw[if_neg hl]
  have e:(⟨b.idx,[],[]⟩:Lgb).next=b.idx:=by simp[Lgb.next]
  refine⟨ZqI _ (by omega) (by omega),?_,hb.snS,fun hc=>absurd rfl hc,?_,(Zaj (by decide) (by decide):I64 0)⟩
  ·exact e.symm
  ·show I64 (⟨b.idx,[],[]⟩:Lgb).next
   rw[e]
   exact⟨by omega,by omega⟩
end Go.Proofs.YtnahjngbneicaaaGreatDoor
