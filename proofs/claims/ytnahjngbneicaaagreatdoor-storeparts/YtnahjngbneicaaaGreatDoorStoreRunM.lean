import Derived.Test.YtnahjngbneicaaaGreatDoorStoreCl
import Derived.Test.YtnahjngbneicaaaGreatDoorStoreOpenM
import Derived.Test.YtnahjngbneicaaaGreatDoorOpenStore
import Derived.Test.YtnahjngbneicaaaGreatDoorFilesLawM
namespace Go.Proofs.YtnahjngbneicaaaGreatDoor
set_option maxRecDepth 100000
def ZcX (next:Int) (o:SOp):List Rec:=(List.range (min o.many.toNat 20)).map fun(i:Nat)=>⟨next+(i:Int),((i % 3:Nat):Int),next % 1000,o.op,0⟩
theorem ZsP (next:Int) (o:SOp):(ZcX next o).length<=20:=by
 unfold ZcX
 rw[List.length_map,List.length_range]
 omega
theorem Zge:∀ (l:List Rec) (s:ZaX),ZaO s.idx l->(∀ r ∈ l,ZaF r)->(ZaG s l).2=0
 | [],_,_,_=>rfl
 | r::l,s,h,hf=>by
  rw[ZaG,if_neg (fun hh=>hh h.1),if_neg (fun hh=>hh (hf r List.mem_cons_self))]
  refine Zge l (Zkt s r) ?_ (fun q hq=>hf q (List.mem_cons_of_mem _ hq))
  exact h.2
theorem ZhI {d:Dk} (h:OkD d) (n:Int):n ∈ Zan d↔∃ f,look (ZbW d) n=some f:=by
 unfold Zan
 rw[List.mem_map]
 constructor
 ·rintro⟨⟨m,f⟩,hm,rfl⟩
  exact⟨f,(ZcY h.dir.rise m f).2 hm⟩
 ·rintro⟨f,hf⟩
  exact⟨(n,f),(ZcY h.dir.rise n f).1 hf,rfl⟩
theorem Zqp {d:Dk} (h:OkD d) {n:Int} {b:List UInt8} (h0:(Zaw d n b).2=0) (m:Int):look (ZbW (Zaw d n b).1) m=if m=n then some ((look (ZbW d) n).getD d.files.length) else look (ZbW d) m:=by
 unfold Zaw at h0 ⊢
 split at h0
 ·cases h0
 ·rename_i h1
  rw[if_neg h1]
  split at h0
  ·cases h0
  ·rename_i h2
   rw[if_neg h2]
   split at h0
   ·cases h0
   ·rename_i h3
    rw[if_neg h3]
    cases hl:look (ZbW d) n with
    | some f=>
     show look (ZbW d) m=_
     by_cases e:m=n
     ·rw[if_pos e,e,hl];rfl
     ·rw[if_neg e]
    | none=>
     show look (ZbW (ZbL d n)) m=_
     rw[ZkP,ZlC h.dir.rise _ (fun _ _ _ hh=>by cases hh)]
     rfl
theorem Zif {d:Dk} (h:OkD d) {n:Int} {b:List UInt8} (h0:(Zaw d n b).2=0) (m:Int):m ∈ Zan (Zaw d n b).1↔m=n∨m ∈ Zan d:=by
 rw[ZhI (h.append n b),ZhI h]
 simp only [Zqp h h0]
 by_cases e:m=n
 ·simp[e]
 ·simp[e]
theorem Zvg {d:Dk} {n:Int} {b:List UInt8} (h0:(Zaw d n b).2=0):d.power≠0:=by
 intro h
 rw[Zqn h] at h0
 cases h0
theorem ZsQ {d:Dk} {n:Int} {b:List UInt8} (h0:(Zaw d n b).2≠0):(Zaw d n b).1=d:=by
 unfold Zaw at h0 ⊢
 split
 ·rfl
 ·rename_i h1
  rw[if_neg h1] at h0
  split
  ·rfl
  ·rename_i h2
   rw[if_neg h2] at h0
   split
   ·rfl
   ·rename_i h3
    rw[if_neg h3] at h0
    split at h0 <;> exact absurd rfl h0
theorem Zqq {d:Dk} (h:OkD d) (first:Int):∀ n ∈ Zan d,first<=n->(n-first) % 2=0->n<Zbz d first:=by
 intro n hn h1 h2
 have hm:n ∈ ZaR (Zan d) first:=by
  unfold ZaR
  rw[List.mem_filter]
  refine⟨hn,?_⟩
  simp only [Bool.not_eq_true',Bool.or_eq_false_iff,decide_eq_false_iff_not]
  exact⟨by omega,fun hh=>hh h2⟩
 have hp:(ZaR (Zan d) first).Pairwise (·<·):=(ZhJ h.dir.rise).sublist List.filter_sublist
 unfold Zbz
 generalize ZaR (Zan d) first=l at hm hp
 obtain⟨i,hi,rfl⟩:=List.mem_iff_getElem.1 hm
 have e:l.getD (l.length-1) (first-2)=l[l.length-1]'(by omega):=by simp[List.getD,show l.length-1<l.length by omega]
 rw[e]
 by_cases hl:i=l.length-1
 ·subst hl;omega
 ·have:=List.pairwise_iff_getElem.1 hp i (l.length-1) hi (by omega) (by omega)
  omega
theorem ZeH {d:Dk} (first:Int):first<=Zbz d first∧(Zbz d first-first) % 2=0:=by
 unfold Zbz
 have hb:∀ n ∈ ZaR (Zan d) first,first<=n∧(n-first) % 2=0:=fun n hn=>by
  unfold ZaR at hn
  rw[List.mem_filter] at hn
  have:=hn.2
  simp only [Bool.not_eq_true',Bool.or_eq_false_iff,decide_eq_false_iff_not] at this
  exact⟨by omega,by have:=this.2;omega⟩
 generalize ZaR (Zan d) first=l at hb
 by_cases h1:l.length=0
 ·rw[List.eq_nil_of_length_eq_zero h1]
  show first<=first-2+2∧(first-2+2-first) % 2=0
  omega
 ·have e:l.getD (l.length-1) (first-2)=l[l.length-1]'(by omega):=by simp[List.getD,show l.length-1<l.length by omega]
  have:=hb _ (List.getElem_mem (show l.length-1<l.length by omega))
  rw[e]
  omega
structure Kp (d d':Dk):Prop where
 ok:OkD d->OkD d'
 pw:d'.power≠0->d.power≠0
 nm:OkD d->∀ m:Int,2<=m->m % 2=0->m ∈ Zan d->m ∈ Zan d'
 sz:∀ F B,SzD d F B->SzD d' F B
theorem Kp.refl (d:Dk):Kp d d:=⟨id,id,fun _ _ _ _ h=>h,fun _ _ h=>h⟩
theorem Kp.trans {a b c:Dk} (h:Kp a b) (k:Kp b c):Kp a c:=⟨fun h0=>k.ok (h.ok h0),fun h0=>h.pw (k.pw h0),fun h0 m h1 h2 h3=>k.nm (h.ok h0) m h1 h2 (h.nm h0 m h1 h2 h3),fun F B h0=>k.sz F B (h.sz F B h0)⟩
theorem Zvh {p:Int} (h:ZdW p≠0):p≠0:=by
 intro e
 rw[e] at h
 exact h rfl
theorem ZwL {d:Dk} {F B f:Nat} {q:Int} (h:SzD d F B):SzD { d with files:=Zfu d.files f,power:=q } F B:=by
 refine⟨by show(Zfu d.files f).length<=F;unfold Zfu;rw[List.length_set];exact h.files,fun x hx=>?_⟩
 have hx':x ∈ Zfu d.files f:=hx
 unfold Zfu at hx'
 rcases List.mem_or_eq_of_mem_set hx' with hx' | rfl
 ·exact h.bytes x hx'
 ·exact h.fl f
theorem Zyd (d:Dk) (n:Int):Kp d (ZdX d n).1:=by
 refine⟨fun h=>h.sync n,?_,?_,?_⟩
 ·unfold ZdX
  split
  ·exact id
  ·split
   ·exact fun h=>Zvh h
   ·exact id
 ·intro _ m _ _ hm
  unfold ZdX
  split
  ·exact hm
  ·split <;> exact hm
 ·intro F B h
  unfold ZdX
  split
  ·exact h
  ·split
   ·exact ZwL h
   ·exact h
theorem ZsR (d:Dk):Kp d (Zbd d).1:=by
 refine⟨fun h=>h.syncDir,?_,?_,?_⟩
 ·unfold Zbd
  split
  ·exact id
  ·exact fun h=>Zvh h
 ·intro _ m _ _ hm
  unfold Zbd
  split
  ·exact hm
  ·exact hm
 ·intro F B h
  unfold Zbd
  split
  ·exact h
  ·exact⟨h.files,h.bytes⟩
theorem Zvi {d:Dk} {n:Int} {b:List UInt8} {F B:Nat} (h:SzD d F B):SzD (Zaw d n b).1 (F+1) (B+b.length):=by
 have hm:SzD d (F+1) (B+b.length):=⟨by have:=h.files;omega,fun x hx=>by have:=h.bytes x hx;omega⟩
 have hg:∀ (fs:List Fl) (f:Nat) (w:List Ch) (q:Int),fs.length<=F+1->(∀ x ∈ fs,x.b.length<=B)->SzD { d with files:=ZfM fs f b,waits:=w,power:=q } (F+1) (B+b.length):=fun fs f w q h1 h2=>by
  refine⟨by show(ZfM fs f b).length<=_;unfold ZfM;rw[List.length_set];exact h1,fun x hx=>?_⟩
  have hx':x ∈ ZfM fs f b:=hx
  unfold ZfM at hx'
  rcases List.mem_or_eq_of_mem_set hx' with hx' | rfl
  ·have:=h2 x hx'
   omega
  ·show((fl fs f).b++b).length<=_
   rw[List.length_append]
   have:(fl fs f).b.length<=B:=by
    by_cases hf:f<fs.length
    ·exact h2 _ (Zgk hf)
    ·unfold fl
     rw[List.getD,List.getElem?_eq_none (by omega)]
     exact Nat.zero_le _
   omega
 unfold Zaw
 split
 ·exact hm
 ·split
  ·exact hm
  ·split
   ·exact hm
   ·split
    ·exact hg d.files _ d.waits _ (by have:=h.files;omega) h.bytes
    ·refine hg (d.files++[⟨[],0⟩]) _ (d.waits++[_]) _ (by have:=h.files;simp;omega) (fun x hx=>?_)
     rcases List.mem_append.1 hx with hx | hx
     ·exact h.bytes x hx
     ·rw[List.mem_singleton.1 hx]
      exact Nat.zero_le _
end Go.Proofs.YtnahjngbneicaaaGreatDoor
