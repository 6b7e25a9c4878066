import Derived.Test.YtfiffndhehkapaaGreatDoorStoreCl
import Derived.Test.YtfiffndhehkapaaGreatDoorStoreOpenM
import Derived.Test.YtfiffndhehkapaaGreatDoorOpenStore
import Derived.Test.YtfiffndhehkapaaGreatDoorFilesLawM
namespace Go.Proofs.YtfiffndhehkapaaGreatDoor
set_option maxRecDepth 100000
def Zcn (next:Int) (o:SOp):List Rec:=(List.range (min o.many.toNat 20)).map fun(i:Nat)=>⟨next+(i:Int),((i % 3:Nat):Int),next % 1000,o.op,0⟩
theorem ZmX (next:Int) (o:SOp):(Zcn next o).length<=20:=by
 unfold Zcn
 rw[List.length_map,List.length_range]
 omega
abbrev Run:=SDk × List Rec
def Zel (x:Run) (o:SOp):Run:=
 if o.kind=0 then((Zby (Zcn x.1.1.next o) x.1).1,if(Zby (Zcn x.1.1.next o) x.1).2=0 then x.2++Zcn x.1.1.next o else x.2)
 else if o.kind=1 then((Zcz x.1).1,x.2)
 else if o.kind=2 then((ZeC x.1).1,x.2)
 else if o.kind=3 then((Zbk x.1).1,x.2)
 else if o.kind=4 then((Zdv x.1).1,x.2)
 else if o.kind=5 then((x.1.1,ZxH x.1.2 o.n),x.2)
 else x
theorem Zly:∀ (l:List Rec) (s:ZaU),ZaZ s.idx l->(∀ r ∈ l,Zaz r)->(ZaN s l).2=0
 | [],_,_,_=>rfl
 | r::l,s,h,hf=>by
  rw[ZaN,if_neg (fun hh=>hh h.1),if_neg (fun hh=>hh (hf r List.mem_cons_self))]
  refine Zly l (ZlL s r) ?_ (fun q hq=>hf q (List.mem_cons_of_mem _ hq))
  exact h.2
theorem ZcE {d:Dk} (h:OkD d) (n:Int):n ∈ Zak d↔∃ f,look (Zbo d) n=some f:=by
 unfold Zak
 rw[List.mem_map]
 constructor
 ·rintro⟨⟨m,f⟩,hm,rfl⟩
  exact⟨f,(Zdf h.dir.rise m f).2 hm⟩
 ·rintro⟨f,hf⟩
  exact⟨(n,f),(Zdf h.dir.rise n f).1 hf,rfl⟩
theorem Zsb {d:Dk} (h:OkD d) {n:Int} {b:List UInt8} (h0:(ZaI d n b).2=0) (m:Int):look (Zbo (ZaI d n b).1) m=if m=n then some ((look (Zbo d) n).getD d.files.length) else look (Zbo d) m:=by
 unfold ZaI at h0 ⊢
 split at h0
 ·cases h0
 ·rename_i h1
  rw[if_neg h1]
  split at h0
  ·cases h0
  ·rename_i h2
   rw[if_neg h2]
   split at h0
   ·cases h0
   ·rename_i h3
    rw[if_neg h3]
    cases hl:look (Zbo d) n with
    | some f=>
     show look (Zbo d) m=_
     by_cases e:m=n
     ·rw[if_pos e,e,hl];rfl
     ·rw[if_neg e]
    | none=>
     show look (Zbo (Zcl d n)) m=_
     rw[Zmj,ZgZ h.dir.rise _ (fun _ _ _ hh=>by cases hh)]
     rfl
theorem Zje {d:Dk} (h:OkD d) {n:Int} {b:List UInt8} (h0:(ZaI d n b).2=0) (m:Int):m ∈ Zak (ZaI d n b).1↔m=n∨m ∈ Zak d:=by
 rw[ZcE (h.append n b),ZcE h]
 simp only [Zsb h h0]
 by_cases e:m=n
 ·simp[e]
 ·simp[e]
theorem Zxn {d:Dk} {n:Int} {b:List UInt8} (h0:(ZaI d n b).2=0):d.power≠0:=by
 intro h
 rw[Zlx h] at h0
 cases h0
theorem ZmY {d:Dk} {n:Int} {b:List UInt8} (h0:(ZaI d n b).2≠0):(ZaI d n b).1=d:=by
 unfold ZaI at h0 ⊢
 split
 ·rfl
 ·rename_i h1
  rw[if_neg h1] at h0
  split
  ·rfl
  ·rename_i h2
   rw[if_neg h2] at h0
   split
   ·rfl
   ·rename_i h3
    rw[if_neg h3] at h0
    split at h0 <;> exact absurd rfl h0
theorem Zsc {d:Dk} (h:OkD d) (first:Int):∀ n ∈ Zak d,first<=n->(n-first) % 2=0->n<Zbd d first:=by
 intro n hn h1 h2
 have hm:n ∈ ZaW (Zak d) first:=by
  unfold ZaW
  rw[List.mem_filter]
  refine⟨hn,?_⟩
  simp only [Bool.not_eq_true',Bool.or_eq_false_iff,decide_eq_false_iff_not]
  exact⟨by omega,fun hh=>hh h2⟩
 have hp:(ZaW (Zak d) first).Pairwise (·<·):=(ZiC h.dir.rise).sublist List.filter_sublist
 unfold Zbd
 generalize ZaW (Zak d) first=l at hm hp
 obtain⟨i,hi,rfl⟩:=List.mem_iff_getElem.1 hm
 have e:l.getD (l.length-1) (first-2)=l[l.length-1]'(by omega):=by simp[List.getD,show l.length-1<l.length by omega]
 rw[e]
 by_cases hl:i=l.length-1
 ·subst hl;omega
 ·have:=List.pairwise_iff_getElem.1 hp i (l.length-1) hi (by omega) (by omega)
  omega
theorem ZhT {d:Dk} (first:Int):first<=Zbd d first∧(Zbd d first-first) % 2=0:=by
 unfold Zbd
 have hb:∀ n ∈ ZaW (Zak d) first,first<=n∧(n-first) % 2=0:=fun n hn=>by
  unfold ZaW at hn
  rw[List.mem_filter] at hn
  have:=hn.2
  simp only [Bool.not_eq_true',Bool.or_eq_false_iff,decide_eq_false_iff_not] at this
  exact⟨by omega,by have:=this.2;omega⟩
 generalize ZaW (Zak d) first=l at hb
 by_cases h1:l.length=0
 ·rw[List.eq_nil_of_length_eq_zero h1]
  show first<=first-2+2∧(first-2+2-first) % 2=0
  omega
 ·have e:l.getD (l.length-1) (first-2)=l[l.length-1]'(by omega):=by simp[List.getD,show l.length-1<l.length by omega]
  have:=hb _ (List.getElem_mem (show l.length-1<l.length by omega))
  rw[e]
  omega
structure Kp (d d':Dk):Prop where
 ok:OkD d->OkD d'
 pw:d'.power≠0->d.power≠0
 nm:OkD d->∀ m:Int,2<=m->m % 2=0->m ∈ Zak d->m ∈ Zak d'
 sz:∀ F B,SzD d F B->SzD d' F B
theorem Kp.refl (d:Dk):Kp d d:=⟨id,id,fun _ _ _ _ h=>h,fun _ _ h=>h⟩
theorem Kp.trans {a b c:Dk} (h:Kp a b) (k:Kp b c):Kp a c:=⟨fun h0=>k.ok (h.ok h0),fun h0=>h.pw (k.pw h0),fun h0 m h1 h2 h3=>k.nm (h.ok h0) m h1 h2 (h.nm h0 m h1 h2 h3),fun F B h0=>k.sz F B (h.sz F B h0)⟩
theorem Zlz {p:Int} (h:Zfx p≠0):p≠0:=by
 intro e
 rw[e] at h
 exact h rfl
theorem Zza {d:Dk} {F B f:Nat} {q:Int} (h:SzD d F B):SzD { d with files:=Zha d.files f,power:=q } F B:=by
 refine⟨by show(Zha d.files f).length<=F;unfold Zha;rw[List.length_set];exact h.files,fun x hx=>?_⟩
 have hx':x ∈ Zha d.files f:=hx
 unfold Zha at hx'
 rcases List.mem_or_eq_of_mem_set hx' with hx' | rfl
 ·exact h.bytes x hx'
 ·exact h.fl f
theorem Zxo (d:Dk) (n:Int):Kp d (Zds d n).1:=by
 refine⟨fun h=>h.sync n,?_,?_,?_⟩
 ·unfold Zds
  split
  ·exact id
  ·split
   ·exact fun h=>Zlz h
   ·exact id
 ·intro _ m _ _ hm
  unfold Zds
  split
  ·exact hm
  ·split <;> exact hm
 ·intro F B h
  unfold Zds
  split
  ·exact h
  ·split
   ·exact Zza h
   ·exact h
theorem ZmZ (d:Dk):Kp d (ZaP d).1:=by
 refine⟨fun h=>h.syncDir,?_,?_,?_⟩
 ·unfold ZaP
  split
  ·exact id
  ·exact fun h=>Zlz h
 ·intro _ m _ _ hm
  unfold ZaP
  split
  ·exact hm
  ·exact hm
 ·intro F B h
  unfold ZaP
  split
  ·exact h
  ·exact⟨h.files,h.bytes⟩
theorem ZBh (d:Dk) (n:Int):Kp d (ZxH d n):=by
 refine⟨fun h=>h.cut n,?_,fun _ m _ _ hm=>hm,fun F B h=>⟨h.files,h.bytes⟩⟩
 unfold ZxH
 intro h e
 exact h (by show(if d.power=0 then(0:Int) else max n 0)=0;rw[if_pos e])
theorem ZsX {d:Dk} {c:Ch} {p:Int}:Zbo { d with waits:=d.waits++[c],power:=p }=chD (Zbo d) c:=by
 show(d.waits++[c]).foldl chD d.kept=_
 rw[List.foldl_append]
 rfl
theorem ZlA {d:Dk} (h:OkD d) {n:Int} (h0:(Zam d n).2=0) (m:Int):look (Zbo (Zam d n).1) m=if m=n then none else look (Zbo d) m:=by
 unfold Zam at h0 ⊢
 split at h0
 ·cases h0
 ·rename_i h1
  rw[if_neg h1]
  split at h0
  ·rename_i f hf
   show look (Zbo { d with waits:=d.waits++[.take n],power:=Zfx d.power }) m=_
   rw[ZsX,ZgZ h.dir.rise _ (fun _ _ _ hh=>by cases hh)]
   rfl
  ·cases h0
theorem Zna {d:Dk} {n:Int} (h0:(Zam d n).2≠0):(Zam d n).1=d:=by
 unfold Zam at h0 ⊢
 split
 ·rfl
 ·rename_i h1
  rw[if_neg h1] at h0
  split
  ·rename_i f hf
   rw[hf] at h0
   exact absurd rfl h0
  ·rfl
theorem ZfX {d:Dk} (h:OkD d) {n m:Int} (hne:m≠n) (hm:m ∈ Zak d):m ∈ Zak (Zam d n).1:=by
 by_cases h0:(Zam d n).2=0
 ·rw[ZcE (h.remove n),ZlA h h0,if_neg hne]
  exact(ZcE h m).1 hm
 ·rw[Zna h0]
  exact hm
theorem ZlB {d:Dk} {n:Int}:(Zam d n).1.power≠0->d.power≠0:=by
 unfold Zam
 split
 ·exact id
 ·split
  ·exact fun h=>Zlz h
  ·exact id
theorem Zqb {d:Dk} {n:Int} {F B:Nat} (h:SzD d F B):SzD (Zam d n).1 F B:=by
 unfold Zam
 split
 ·exact h
 ·split
  ·exact⟨h.files,h.bytes⟩
  ·exact h
theorem Zxp {d:Dk} {n:Int} (hn:¬ (2<=n∧n % 2=0)):Kp d (Zam d n).1:=
 ⟨fun h=>h.remove n,ZlB,fun h m h1 h2 hm=>ZfX h (fun e=>hn (by rw[<-e];exact⟨h1,h2⟩)) hm,fun _ _ h=>Zqb h⟩
theorem Zxq {d:Dk} {n m:Int} (hn:¬ (2<=n∧n % 2=0)) (hm:¬ (2<=m∧m % 2=0)):Kp d (ZcZ d n m).1:=by
 refine⟨fun h=>h.rename n m,?_,?_,?_⟩
 ·unfold ZcZ
  split
  ·exact id
  ·split
   ·split
    ·exact id
    ·split
     ·exact fun h=>Zlz h
     ·exact fun h=>Zlz h
   ·exact id
 ·intro h k h1 h2 hk
  have hkn:k≠n:=fun e=>hn (by rw[<-e];exact⟨h1,h2⟩)
  have hkm:k≠m:=fun e=>hm (by rw[<-e];exact⟨h1,h2⟩)
  have hok:=h.rename n m
  rw[ZcE hok]
  rw[ZcE h] at hk
  obtain⟨f,hf⟩:=hk
  refine⟨f,?_⟩
  unfold ZcZ
  split
  ·exact hf
  ·split
   ·split
    ·exact hf
    ·split
     ·exact hf
     ·rename_i g hg _ hne
      show look (Zbo { d with waits:=d.waits++[.move n m g],power:=Zfx d.power }) k=_
      rw[ZsX,ZgZ h.dir.rise _ (fun _ _ _ hh=>by cases hh;exact hne)]
      show(if k=n then none else if k=m then some g else look (Zbo d) k)=_
      rw[if_neg hkn,if_neg hkm]
      exact hf
   ·exact hf
 ·intro F B h
  unfold ZcZ
  split
  ·exact h
  ·split
   ·split
    ·exact h
    ·split
     ·exact⟨h.files,h.bytes⟩
     ·exact⟨h.files,h.bytes⟩
   ·exact h
theorem Zxr {d:Dk} {n:Int} {b:List UInt8} {F B:Nat} (h:SzD d F B):SzD (ZaI d n b).1 (F+1) (B+b.length):=by
 have hm:SzD d (F+1) (B+b.length):=⟨by have:=h.files;omega,fun x hx=>by have:=h.bytes x hx;omega⟩
 have hg:∀ (fs:List Fl) (f:Nat) (w:List Ch) (q:Int),fs.length<=F+1->(∀ x ∈ fs,x.b.length<=B)->SzD { d with files:=ZeG fs f b,waits:=w,power:=q } (F+1) (B+b.length):=fun fs f w q h1 h2=>by
  refine⟨by show(ZeG fs f b).length<=_;unfold ZeG;rw[List.length_set];exact h1,fun x hx=>?_⟩
  have hx':x ∈ ZeG fs f b:=hx
  unfold ZeG at hx'
  rcases List.mem_or_eq_of_mem_set hx' with hx' | rfl
  ·have:=h2 x hx'
   omega
  ·show((fl fs f).b++b).length<=_
   rw[List.length_append]
   have:(fl fs f).b.length<=B:=by
    by_cases hf:f<fs.length
    ·exact h2 _ (Zgo hf)
    ·unfold fl
     rw[List.getD,List.getElem?_eq_none (by omega)]
     exact Nat.zero_le _
   omega
 unfold ZaI
 split
 ·exact hm
 ·split
  ·exact hm
  ·split
   ·exact hm
   ·split
    ·exact hg d.files _ d.waits _ (by have:=h.files;omega) h.bytes
    ·refine hg (d.files++[⟨[],0⟩]) _ (d.waits++[_]) _ (by have:=h.files;simp;omega) (fun x hx=>?_)
     rcases List.mem_append.1 hx with hx | hx
     ·exact h.bytes x hx
     ·rw[List.mem_singleton.1 hx]
      exact Nat.zero_le _
end Go.Proofs.YtfiffndhehkapaaGreatDoor
