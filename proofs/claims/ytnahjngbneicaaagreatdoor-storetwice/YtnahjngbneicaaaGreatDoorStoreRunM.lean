import Derived.Test.YtnahjngbneicaaaGreatDoorStoreCl
import Derived.Test.YtnahjngbneicaaaGreatDoorStoreOpenM
import Derived.Test.YtnahjngbneicaaaGreatDoorOpenStore
import Derived.Test.YtnahjngbneicaaaGreatDoorFilesLawM
namespace Go.Proofs.YtnahjngbneicaaaGreatDoor
open _root_.Go.Proofs.Tryz
set_option maxRecDepth 100000
variable {d:Dk} {n p:Int} {b:List UInt8} {B F:Nat}
def Zcq (next:Int) (o:SOp):List Rec:=(List.range (min o.many.toNat 20)).map fun(i:Nat)=>⟨next+(i:Int),((i % 3:Nat):Int),next % 1000,o.op,0⟩
theorem Znz (next:Int) (o:SOp):(Zcq next o).length<=20:=by
 unfold Zcq;rw[List.length_map,List.length_range];omega
abbrev Run:=SDk × List Rec
def Zer (x:Run) (o:SOp):Run:=
 if o.kind=0 then((Zbz (Zcq x.1.1.next o) x.1).1,if(Zbz (Zcq x.1.1.next o) x.1).2=0 then x.2++Zcq x.1.1.next o else x.2)
 else if o.kind=1 then((ZcE x.1).1,x.2)
 else if o.kind=2 then((ZeK x.1).1,x.2)
 else if o.kind=3 then((Zbn x.1).1,x.2)
 else if o.kind=4 then((ZdA x.1).1,x.2)
 else if o.kind=5 then((x.1.1,ZyD x.1.2 o.n),x.2)
 else x
theorem ZlZ:∀ (l:List Rec) (s:ZaW),Zbb s.idx l->(∀ r ∈ l,ZaA r)->(ZaQ s l).2=0
 | [],_,_,_=>rfl
 | r::l,s,h,hf=>by
  rw[ZaQ,if_neg (fun a=>a h.1),if_neg (fun a=>a (hf r List.mem_cons_self))]
  refine ZlZ l (Zmm s r) ?_ (fun q b=>hf q (List.mem_cons_of_mem _ b))
  exact h.2
theorem ZcK (h:OkD d) (n:Int):n ∈ Zak d↔∃ f,look (Zbk d) n=some f:=by
 unfold Zak;rw[List.mem_map];constructor
 ·rintro⟨⟨m,f⟩,hm,rfl⟩
  exact⟨f,(Zcz h.dir.rise m f).2 hm⟩
 ·rintro⟨f,hf⟩
  exact⟨(n,f),(Zcz h.dir.rise n f).1 hf,rfl⟩
theorem ZsK (h:OkD d) {n:Int} {b:List UInt8} (a:(ZaK d n b).2=0) (m:Int):look (Zbk (ZaK d n b).1) m=if m=n then some ((look (Zbk d) n).getD d.files.length) else look (Zbk d) m:=by
 unfold ZaK at a ⊢;split at a
 ·cases a
 ·rename_i j
  rw[if_neg j];split at a
  ·cases a
  ·rename_i i
   rw[if_neg i];split at a
   ·cases a
   ·rename_i c
    rw[if_neg c]
    cases hl:look (Zbk d) n with
    | some f=>
     show look (Zbk d) m=_;by_cases e:m=n
     ·rw[if_pos e,e,hl];rfl
     ·rw[if_neg e]
    | none=>
     show look (Zbk (Zcn d n)) m=_;rw[ZmM,Zgn h.dir.rise _ (fun _ _ _ g=>by cases g)]
     rfl
theorem Zjz (h:OkD d) {n:Int} {b:List UInt8} (a:(ZaK d n b).2=0) (m:Int):m ∈ Zak (ZaK d n b).1↔m=n∨m ∈ Zak d:=by
 rw[ZcK (h.append n b),ZcK h];simp only [ZsK h a];by_cases e:m=n
 ·simp[e]
 ·simp[e]
theorem Zyl (a:(ZaK d n b).2=0):d.power≠0:=by
 intro h;rw[ZlY h] at a
 cases a
theorem ZnA (a:(ZaK d n b).2≠0):(ZaK d n b).1=d:=by
 unfold ZaK at a ⊢;split
 ·rfl
 ·rename_i f
  rw[if_neg f] at a;split
  ·rfl
  ·rename_i e
   rw[if_neg e] at a;split
   ·rfl
   ·rename_i c
    rw[if_neg c] at a;split at a <;> exact absurd rfl a
theorem ZsL (h:OkD d) (first:Int):∀ n ∈ Zak d,first<=n->(n-first) % 2=0->n<Zbf d first:=by
 intro n k m g
 have b:n ∈ ZaY (Zak d) first:=by
  unfold ZaY;rw[List.mem_filter];refine⟨k,?_⟩;simp only [Bool.not_eq_true',Bool.or_eq_false_iff,decide_eq_false_iff_not];exact⟨by omega,fun c=>c g⟩
 have a:(ZaY (Zak d) first).Pairwise (·<·):=(ZiY h.dir.rise).sublist List.filter_sublist;unfold Zbf;generalize ZaY (Zak d) first=l at b a;obtain⟨i,j,rfl⟩:=List.mem_iff_getElem.1 b;have e:l.getD (l.length-1) (first-2)=l[l.length-1]'(by omega):=by simp[List.getD,show l.length-1<l.length by omega]
 rw[e];by_cases f:i=l.length-1
 ·subst f;omega
 ·have:=List.pairwise_iff_getElem.1 a i (l.length-1) j (by omega) (by omega)
  omega
theorem Zik (first:Int):first<=Zbf d first∧(Zbf d first-first) % 2=0:=by
 unfold Zbf
 have b:∀ n ∈ ZaY (Zak d) first,first<=n∧(n-first) % 2=0:=fun n a=>by
  unfold ZaY at a;rw[List.mem_filter] at a;have:=a.2;simp only [Bool.not_eq_true',Bool.or_eq_false_iff,decide_eq_false_iff_not] at this;exact⟨by omega,by have:=this.2;omega⟩
 generalize ZaY (Zak d) first=l at b;by_cases c:l.length=0
 ·rw[List.eq_nil_of_length_eq_zero c]
  show first<=first-2+2∧(first-2+2-first) % 2=0;omega
 ·have e:l.getD (l.length-1) (first-2)=l[l.length-1]'(by omega):=by simp[List.getD,show l.length-1<l.length by omega]
  have:=b _ (List.getElem_mem (show l.length-1<l.length by omega))
  rw[e];omega
structure Kp (d d':Dk):Prop where
 ok:OkD d->OkD d'
 pw:d'.power≠0->d.power≠0
 nm:OkD d->∀ m:Int,2<=m->m % 2=0->m ∈ Zak d->m ∈ Zak d'
 sz:∀ F B,SzD d F B->SzD d' F B
theorem Kp.refl (d:Dk):Kp d d:=⟨id,id,fun _ _ _ _ h=>h,fun _ _ h=>h⟩
theorem Kp.trans {a b c:Dk} (h:Kp a b) (k:Kp b c):Kp a c:=⟨fun d=>k.ok (h.ok d),fun d=>h.pw (k.pw d),fun d m f e g=>k.nm (h.ok d) m f e (h.nm d m f e g),fun F B d=>k.sz F B (h.sz F B d)⟩
theorem Zma (h:ZfK p≠0):p≠0:=by
 intro e;rw[e] at h;exact h rfl
theorem ZzY {f:Nat} {q:Int} (h:SzD d F B):SzD { d with files:=Zhr d.files f,power:=q } F B:=by
 refine⟨by show(Zhr d.files f).length<=F;unfold Zhr;rw[List.length_set];exact h.files,fun x b=>?_⟩
 have a:x ∈ Zhr d.files f:=b;unfold Zhr at a;rcases List.mem_or_eq_of_mem_set a with a | rfl
 ·exact h.bytes x a
 ·exact h.fl f
theorem Zym (d:Dk) (n:Int):Kp d (Zdx d n).1:=by
 refine⟨fun h=>h.sync n,?_,?_,?_⟩
 ·unfold Zdx
  split
  ·exact id
  ·split
   ·exact fun h=>Zma h
   ·exact id
 ·intro _ m _ _ a
  unfold Zdx;split
  ·exact a
  ·split <;> exact a
 ·intro F B h
  unfold Zdx;split
  ·exact h
  ·split
   ·exact ZzY h
   ·exact h
theorem ZnB (d:Dk):Kp d (ZaS d).1:=by
 refine⟨fun h=>h.syncDir,?_,?_,?_⟩
 ·unfold ZaS
  split
  ·exact id
  ·exact fun h=>Zma h
 ·intro _ m _ _ a
  unfold ZaS;split
  ·exact a
  ·exact a
 ·intro F B h
  unfold ZaS;split
  ·exact h
  ·exact⟨h.files,h.bytes⟩
theorem ZBZ (d:Dk) (n:Int):Kp d (ZyD d n):=by
 refine⟨fun h=>h.cut n,?_,fun _ m _ _ a=>a,fun F B h=>⟨h.files,h.bytes⟩⟩
 unfold ZyD;intro h e;exact h (by show(if d.power=0 then(0:Int) else max n 0)=0;rw[if_pos e])
theorem ZtI {c:Ch}:Zbk { d with waits:=d.waits++[c],power:=p }=chD (Zbk d) c:=by
 show(d.waits++[c]).foldl chD d.kept=_;rw[List.foldl_append];rfl
theorem Zmb (h:OkD d) {n:Int} (a:(Zam d n).2=0) (m:Int):look (Zbk (Zam d n).1) m=if m=n then none else look (Zbk d) m:=by
 unfold Zam at a ⊢;split at a
 ·cases a
 ·rename_i c
  rw[if_neg c];split at a
  ·rename_i f e
   show look (Zbk { d with waits:=d.waits++[.take n],power:=ZfK d.power }) m=_
   rw[ZtI,Zgn h.dir.rise _ (fun _ _ _ b=>by cases b)]
   rfl
  ·cases a
theorem ZnC (a:(Zam d n).2≠0):(Zam d n).1=d:=by
 unfold Zam at a ⊢;split
 ·rfl
 ·rename_i c
  rw[if_neg c] at a;split
  ·rename_i f b
   rw[b] at a;exact absurd rfl a
  ·rfl
theorem Zgk (h:OkD d) {n m:Int} (c:m≠n) (a:m ∈ Zak d):m ∈ Zak (Zam d n).1:=by
 by_cases b:(Zam d n).2=0
 ·rw[ZcK (h.remove n),Zmb h b,if_neg c]
  exact(ZcK h m).1 a
 ·rw[ZnC b]
  exact a
theorem Zmc:(Zam d n).1.power≠0->d.power≠0:=by
 unfold Zam;split
 ·exact id
 ·split
  ·exact fun h=>Zma h
  ·exact id
theorem ZqN (h:SzD d F B):SzD (Zam d n).1 F B:=by
 unfold Zam;split
 ·exact h
 ·split
  ·exact⟨h.files,h.bytes⟩
  ·exact h
theorem Zyn (c:¬ (2<=n∧n % 2=0)):Kp d (Zam d n).1:=
 ⟨fun h=>h.remove n,Zmc,fun h m f a b=>Zgk h (fun e=>c (by rw[<-e];exact⟨f,a⟩)) b,fun _ _ h=>ZqN h⟩
theorem Zyo {m:Int} (q:¬ (2<=n∧n % 2=0)) (p:¬ (2<=m∧m % 2=0)):Kp d (Zdg d n m).1:=by
 refine⟨fun h=>h.rename n m,?_,?_,?_⟩
 ·unfold Zdg
  split
  ·exact id
  ·split
   ·split
    ·exact id
    ·split
     ·exact fun h=>Zma h
     ·exact fun h=>Zma h
   ·exact id
 ·intro h k i c b
  have t:k≠n:=fun e=>q (by rw[<-e];exact⟨i,c⟩)
  have u:k≠m:=fun e=>p (by rw[<-e];exact⟨i,c⟩)
  have l:=h.rename n m;rw[ZcK l];rw[ZcK h] at b;obtain⟨f,a⟩:=b;refine⟨f,?_⟩;unfold Zdg;split
  ·exact a
  ·split
   ·split
    ·exact a
    ·split
     ·exact a
     ·rename_i g w _ v
      show look (Zbk { d with waits:=d.waits++[.move n m g],power:=ZfK d.power }) k=_
      rw[ZtI,Zgn h.dir.rise _ (fun _ _ _ j=>by cases j;exact v)]
      show(if k=n then none else if k=m then some g else look (Zbk d) k)=_
      rw[if_neg t,if_neg u];exact a
   ·exact a
 ·intro F B h
  unfold Zdg;split
  ·exact h
  ·split
   ·split
    ·exact h
    ·split
     ·exact⟨h.files,h.bytes⟩
     ·exact⟨h.files,h.bytes⟩
   ·exact h
theorem Zyp (h:SzD d F B):SzD (ZaK d n b).1 (F+1) (B+b.length):=by
 have c:SzD d (F+1) (B+b.length):=⟨by have:=h.files;omega,fun x hx=>by have:=h.bytes x hx;omega⟩
 have e:∀ (fs:List Fl) (f:Nat) (w:List Ch) (q:Int),fs.length<=F+1->(∀ x ∈ fs,x.b.length<=B)->SzD { d with files:=ZeR fs f b,waits:=w,power:=q } (F+1) (B+b.length):=fun fs f w q j g=>by
  refine⟨by show(ZeR fs f b).length<=_;unfold ZeR;rw[List.length_set];exact j,fun x hx=>?_⟩
  have a:x ∈ ZeR fs f b:=hx;unfold ZeR at a;rcases List.mem_or_eq_of_mem_set a with a | rfl
  ·have:=g x a
   omega
  ·show((fl fs f).b++b).length<=_
   rw[List.length_append]
   have:(fl fs f).b.length<=B:=by
    by_cases i:f<fs.length
    ·exact g _ (ZeS i)
    ·unfold fl
     rw[List.getD,List.getElem?_eq_none (by omega)]
     exact Nat.zero_le _
   omega
 unfold ZaK;split
 ·exact c
 ·split
  ·exact c
  ·split
   ·exact c
   ·split
    ·exact e d.files _ d.waits _ (by have:=h.files;omega) h.bytes
    ·refine e (d.files++[⟨[],0⟩]) _ (d.waits++[_]) _ (by have:=h.files;simp;omega) (fun x hx=>?_)
     rcases List.mem_append.1 hx with hx | hx
     ·exact h.bytes x hx
     ·rw[List.mem_singleton.1 hx]
      exact Nat.zero_le _
end Go.Proofs.YtnahjngbneicaaaGreatDoor
