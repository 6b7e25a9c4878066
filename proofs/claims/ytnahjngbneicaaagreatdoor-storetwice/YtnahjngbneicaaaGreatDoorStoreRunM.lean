import Derived.Test.YtnahjngbneicaaaGreatDoorStoreCl
import Derived.Test.YtnahjngbneicaaaGreatDoorStoreOpenM
import Derived.Test.YtnahjngbneicaaaGreatDoorOpenStore
import Derived.Test.YtnahjngbneicaaaGreatDoorFilesLawM
namespace Go.Proofs.YtnahjngbneicaaaGreatDoor
open _root_.Go.Proofs.Tryz
set_option maxRecDepth 100000
variable {d:Dk} {n p:Int} {b:List UInt8} {B F:Nat}
def Zm (next:Int) (o:SOp):List Rec:=(List.range (min o.many.toNat 20)).map fun(i:Nat)=>⟨next+(i:Int),((i % 3:Nat):Int),next % 1000,o.op,0⟩
theorem Zkj (next:Int) (o:SOp):(Zm next o).length<=20:=by
 unfold Zm;rw[List.length_map,List.length_range];omega
abbrev Run:=SDk × List Rec
def Zbg (x:Run) (o:SOp):Run:=
 if o.kind=0 then((Yn (Zm x.1.1.next o) x.1).1,if(Yn (Zm x.1.1.next o) x.1).2=0 then x.2++Zm x.1.1.next o else x.2)
 else if o.kind=1 then((Zf x.1).1,x.2)
 else if o.kind=2 then((Zbx x.1).1,x.2)
 else if o.kind=3 then((Yp x.1).1,x.2)
 else if o.kind=4 then((Zaz x.1).1,x.2)
 else if o.kind=5 then((x.1.1,Zvn x.1.2 o.n),x.2)
 else x
theorem ZiJ:∀ (l:List Rec) (s:Qv),Xq s.idx l->(∀ r ∈ l,Qw r)->(Xa s l).2=0
 | [],_,_,_=>rfl
 | r::l,s,h,hf=>by
  rw[Xa,if_neg (fun a=>a h.1),if_neg (fun a=>a (hf r List.mem_cons_self))]
  refine ZiJ l (ZiW s r) ?_ (fun q b=>hf q (List.mem_cons_of_mem _ b))
  exact h.2
theorem Jy (h:OkD d) (n:Int):n ∈ Ql d↔∃ f,look (Q6 d) n=some f:=by
 unfold Ql;rw[List.mem_map];constructor
 ·rintro⟨⟨m,f⟩,hm,rfl⟩
  exact⟨f,(Je h.dir.rise m f).2 hm⟩
 ·rintro⟨f,hf⟩
  exact⟨(n,f),(Je h.dir.rise n f).1 hf,rfl⟩
theorem Zpu (h:OkD d) {n:Int} {b:List UInt8} (a:(Xe d n b).2=0) (m:Int):look (Q6 (Xe d n b).1) m=if m=n then some ((look (Q6 d) n).getD d.files.length) else look (Q6 d) m:=by
 unfold Xe at a ⊢;split at a
 ·cases a
 ·rename_i c
  rw[if_neg c];split at a
  ·cases a
  ·rename_i g
   rw[if_neg g];split at a
   ·cases a
   ·rename_i i
    rw[if_neg i]
    cases hl:look (Q6 d) n with
    | some f=>
     show look (Q6 d) m=_;by_cases e:m=n
     ·rw[if_pos e,e,hl];rfl
     ·rw[if_neg e]
    | none=>
     show look (Q6 (Zk d n)) m=_;rw[Zjw,ZcX h.dir.rise _ (fun _ _ _ j=>by cases j)]
     rfl
theorem Zgj (h:OkD d) {n:Int} {b:List UInt8} (a:(Xe d n b).2=0) (m:Int):m ∈ Ql (Xe d n b).1↔m=n∨m ∈ Ql d:=by
 rw[Jy (h.append n b),Jy h];simp only [Zpu h a];by_cases e:m=n
 ·simp[e]
 ·simp[e]
theorem ZuV (a:(Xe d n b).2=0):d.power≠0:=by
 intro h;rw[ZiI h] at a
 cases a
theorem Zkk (a:(Xe d n b).2≠0):(Xe d n b).1=d:=by
 unfold Xe at a ⊢;split
 ·rfl
 ·rename_i c
  rw[if_neg c] at a;split
  ·rfl
  ·rename_i e
   rw[if_neg e] at a;split
   ·rfl
   ·rename_i f
    rw[if_neg f] at a;split at a <;> exact absurd rfl a
theorem Zpv (h:OkD d) (first:Int):∀ n ∈ Ql d,first<=n->(n-first) % 2=0->n<Ya d first:=by
 intro n g m f
 have a:n ∈ Xg (Ql d) first:=by
  unfold Xg;rw[List.mem_filter];refine⟨g,?_⟩;simp only [Bool.not_eq_true',Bool.or_eq_false_iff,decide_eq_false_iff_not];exact⟨by omega,fun j=>j f⟩
 have b:(Xg (Ql d) first).Pairwise (·<·):=(ZfI h.dir.rise).sublist List.filter_sublist;unfold Ya;generalize Xg (Ql d) first=l at a b;obtain⟨i,k,rfl⟩:=List.mem_iff_getElem.1 a;have e:l.getD (l.length-1) (first-2)=l[l.length-1]'(by omega):=by simp[List.getD,show l.length-1<l.length by omega]
 rw[e];by_cases c:i=l.length-1
 ·subst c;omega
 ·have:=List.pairwise_iff_getElem.1 b i (l.length-1) k (by omega) (by omega)
  omega
theorem ZeU (first:Int):first<=Ya d first∧(Ya d first-first) % 2=0:=by
 unfold Ya
 have b:∀ n ∈ Xg (Ql d) first,first<=n∧(n-first) % 2=0:=fun n a=>by
  unfold Xg at a;rw[List.mem_filter] at a;have:=a.2;simp only [Bool.not_eq_true',Bool.or_eq_false_iff,decide_eq_false_iff_not] at this;exact⟨by omega,by have:=this.2;omega⟩
 generalize Xg (Ql d) first=l at b;by_cases c:l.length=0
 ·rw[List.eq_nil_of_length_eq_zero c]
  show first<=first-2+2∧(first-2+2-first) % 2=0;omega
 ·have e:l.getD (l.length-1) (first-2)=l[l.length-1]'(by omega):=by simp[List.getD,show l.length-1<l.length by omega]
  have:=b _ (List.getElem_mem (show l.length-1<l.length by omega))
  rw[e];omega
structure Kp (d d':Dk):Prop where
 ok:OkD d->OkD d'
 pw:d'.power≠0->d.power≠0
 nm:OkD d->∀ m:Int,2<=m->m % 2=0->m ∈ Ql d->m ∈ Ql d'
 sz:∀ F B,SzD d F B->SzD d' F B
theorem Kp.refl (d:Dk):Kp d d:=⟨id,id,fun _ _ _ _ h=>h,fun _ _ h=>h⟩
theorem Kp.trans {a b c:Dk} (h:Kp a b) (k:Kp b c):Kp a c:=⟨fun d=>k.ok (h.ok d),fun d=>h.pw (k.pw d),fun d m e f g=>k.nm (h.ok d) m e f (h.nm d m e f g),fun F B d=>k.sz F B (h.sz F B d)⟩
theorem ZiK (h:Zcv p≠0):p≠0:=by
 intro e;rw[e] at h;exact h rfl
theorem ZwI {f:Nat} {q:Int} (h:SzD d F B):SzD { d with files:=Zeb d.files f,power:=q } F B:=by
 refine⟨by show(Zeb d.files f).length<=F;unfold Zeb;rw[List.length_set];exact h.files,fun x b=>?_⟩
 have a:x ∈ Zeb d.files f:=b;unfold Zeb at a;rcases List.mem_or_eq_of_mem_set a with a | rfl
 ·exact h.bytes x a
 ·exact h.fl f
theorem ZuW (d:Dk) (n:Int):Kp d (Jf d n).1:=by
 refine⟨fun h=>h.sync n,?_,?_,?_⟩
 ·unfold Jf
  split
  ·exact id
  ·split
   ·exact fun h=>ZiK h
   ·exact id
 ·intro _ m _ _ a
  unfold Jf;split
  ·exact a
  ·split <;> exact a
 ·intro F B h
  unfold Jf;split
  ·exact h
  ·split
   ·exact ZwI h
   ·exact h
theorem Zkl (d:Dk):Kp d (Xs d).1:=by
 refine⟨fun h=>h.syncDir,?_,?_,?_⟩
 ·unfold Xs
  split
  ·exact id
  ·exact fun h=>ZiK h
 ·intro _ m _ _ a
  unfold Xs;split
  ·exact a
  ·exact a
 ·intro F B h
  unfold Xs;split
  ·exact h
  ·exact⟨h.files,h.bytes⟩
theorem ZyJ (d:Dk) (n:Int):Kp d (Zvn d n):=by
 refine⟨fun h=>h.cut n,?_,fun _ m _ _ a=>a,fun F B h=>⟨h.files,h.bytes⟩⟩
 unfold Zvn;intro h e;exact h (by show(if d.power=0 then(0:Int) else max n 0)=0;rw[if_pos e])
theorem Zqs {c:Ch}:Q6 { d with waits:=d.waits++[c],power:=p }=chD (Q6 d) c:=by
 show(d.waits++[c]).foldl chD d.kept=_;rw[List.foldl_append];rfl
theorem ZiL (h:OkD d) {n:Int} (a:(Qp d n).2=0) (m:Int):look (Q6 (Qp d n).1) m=if m=n then none else look (Q6 d) m:=by
 unfold Qp at a ⊢;split at a
 ·cases a
 ·rename_i b
  rw[if_neg b];split at a
  ·rename_i f e
   show look (Q6 { d with waits:=d.waits++[.take n],power:=Zcv d.power }) m=_
   rw[Zqs,ZcX h.dir.rise _ (fun _ _ _ c=>by cases c)]
   rfl
  ·cases a
theorem Zkm (a:(Qp d n).2≠0):(Qp d n).1=d:=by
 unfold Qp at a ⊢;split
 ·rfl
 ·rename_i c
  rw[if_neg c] at a;split
  ·rename_i f b
   rw[b] at a;exact absurd rfl a
  ·rfl
theorem ZcU (h:OkD d) {n m:Int} (c:m≠n) (b:m ∈ Ql d):m ∈ Ql (Qp d n).1:=by
 by_cases a:(Qp d n).2=0
 ·rw[Jy (h.remove n),ZiL h a,if_neg c]
  exact(Jy h m).1 b
 ·rw[Zkm a]
  exact b
theorem ZiM:(Qp d n).1.power≠0->d.power≠0:=by
 unfold Qp;split
 ·exact id
 ·split
  ·exact fun h=>ZiK h
  ·exact id
theorem Znx (h:SzD d F B):SzD (Qp d n).1 F B:=by
 unfold Qp;split
 ·exact h
 ·split
  ·exact⟨h.files,h.bytes⟩
  ·exact h
theorem ZuX (c:¬ (2<=n∧n % 2=0)):Kp d (Qp d n).1:=
 ⟨fun h=>h.remove n,ZiM,fun h m a b f=>ZcU h (fun e=>c (by rw[<-e];exact⟨a,b⟩)) f,fun _ _ h=>Znx h⟩
theorem ZuY {m:Int} (q:¬ (2<=n∧n % 2=0)) (l:¬ (2<=m∧m % 2=0)):Kp d (Zam d n m).1:=by
 refine⟨fun h=>h.rename n m,?_,?_,?_⟩
 ·unfold Zam
  split
  ·exact id
  ·split
   ·split
    ·exact id
    ·split
     ·exact fun h=>ZiK h
     ·exact fun h=>ZiK h
   ·exact id
 ·intro h k i b c
  have u:k≠n:=fun e=>q (by rw[<-e];exact⟨i,b⟩)
  have v:k≠m:=fun e=>l (by rw[<-e];exact⟨i,b⟩)
  have j:=h.rename n m;rw[Jy j];rw[Jy h] at c;obtain⟨f,a⟩:=c;refine⟨f,?_⟩;unfold Zam;split
  ·exact a
  ·split
   ·split
    ·exact a
    ·split
     ·exact a
     ·rename_i g w _ p
      show look (Q6 { d with waits:=d.waits++[.move n m g],power:=Zcv d.power }) k=_
      rw[Zqs,ZcX h.dir.rise _ (fun _ _ _ t=>by cases t;exact p)]
      show(if k=n then none else if k=m then some g else look (Q6 d) k)=_
      rw[if_neg u,if_neg v];exact a
   ·exact a
 ·intro F B h
  unfold Zam;split
  ·exact h
  ·split
   ·split
    ·exact h
    ·split
     ·exact⟨h.files,h.bytes⟩
     ·exact⟨h.files,h.bytes⟩
   ·exact h
theorem ZuZ (h:SzD d F B):SzD (Xe d n b).1 (F+1) (B+b.length):=by
 have c:SzD d (F+1) (B+b.length):=⟨by have:=h.files;omega,fun x hx=>by have:=h.bytes x hx;omega⟩
 have g:∀ (fs:List Fl) (f:Nat) (w:List Ch) (q:Int),fs.length<=F+1->(∀ x ∈ fs,x.b.length<=B)->SzD { d with files:=ZbD fs f b,waits:=w,power:=q } (F+1) (B+b.length):=fun fs f w q i e=>by
  refine⟨by show(ZbD fs f b).length<=_;unfold ZbD;rw[List.length_set];exact i,fun x hx=>?_⟩
  have a:x ∈ ZbD fs f b:=hx;unfold ZbD at a;rcases List.mem_or_eq_of_mem_set a with a | rfl
  ·have:=e x a
   omega
  ·show((fl fs f).b++b).length<=_
   rw[List.length_append]
   have:(fl fs f).b.length<=B:=by
    by_cases j:f<fs.length
    ·exact e _ (ZbE j)
    ·unfold fl
     rw[List.getD,List.getElem?_eq_none (by omega)]
     exact Nat.zero_le _
   omega
 unfold Xe;split
 ·exact c
 ·split
  ·exact c
  ·split
   ·exact c
   ·split
    ·exact g d.files _ d.waits _ (by have:=h.files;omega) h.bytes
    ·refine g (d.files++[⟨[],0⟩]) _ (d.waits++[_]) _ (by have:=h.files;simp;omega) (fun x hx=>?_)
     rcases List.mem_append.1 hx with hx | hx
     ·exact h.bytes x hx
     ·rw[List.mem_singleton.1 hx]
      exact Nat.zero_le _
end Go.Proofs.YtnahjngbneicaaaGreatDoor
