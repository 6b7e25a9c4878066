import Derived.Test.YtnahjngbneicaaaGreatDoorStoreOpenM
import Derived.Test.YtnahjngbneicaaaGreatDoorOpenStore
import Derived.Test.YtnahjngbneicaaaGreatDoorFilesLawM
namespace Go.Proofs.YtnahjngbneicaaaGreatDoor
open _root_.Go.Proofs.Tryz
set_option maxRecDepth 100000
variable {d:Dk} {n p:Int} {b:List UInt8} {B F:Nat}
def Zi (next:Int) (o:SOp):List Rec:=(List.range (min o.many.toNat 20)).map fun(i:Nat)=>⟨next+(i:Int),((i % 3:Nat):Int),next % 1000,o.op,0⟩
theorem ZkQ (next:Int) (o:SOp):(Zi next o).length<=20:=by
 unfold Zi;rw[List.length_map,List.length_range];omega
abbrev Run:=SDk × List Rec
def Jc (x:Run) (o:SOp):Run:=
 if o.kind=0 then((X5 (Zi x.1.1.next o) x.1).1,if(X5 (Zi x.1.1.next o) x.1).2=0 then x.2++Zi x.1.1.next o else x.2)
 else if o.kind=1 then((Q5 x.1).1,x.2)
 else if o.kind=2 then((Yf x.1).1,x.2)
 else if o.kind=3 then((Xp x.1).1,x.2)
 else if o.kind=4 then((Z7 x.1).1,x.2)
 else if o.kind=5 then((x.1.1,Zqz x.1.2 o.n),x.2)
 else x
theorem Zeb:∀ (l:List Rec) (s:Q0),Xl s.idx l->(∀ r ∈ l,Qz r)->(Q3 s l).2=0
 | [],_,_,_=>rfl
 | r::l,s,h,hf=>by
  rw[Q3,if_neg (fun a=>a h.1),if_neg (fun a=>a (hf r List.mem_cons_self))]
  refine Zeb l (ZhH s r) ?_ (fun q b=>hf q (List.mem_cons_of_mem _ b))
  exact h.2
theorem Y2 (h:OkD d) (n:Int):n ∈ Qk d↔∃ f,look (Qm d) n=some f:=by
 unfold Qk;rw[List.mem_map];constructor
 ·rintro⟨⟨m,f⟩,hm,rfl⟩
  exact⟨f,(Zb h.dir.rise m f).2 hm⟩
 ·rintro⟨f,hf⟩
  exact⟨(n,f),(Zb h.dir.rise n f).1 hf,rfl⟩
theorem Zqp (h:OkD d) {n:Int} {b:List UInt8} (a:(Qy d n b).2=0) (m:Int):look (Qm (Qy d n b).1) m=if m=n then some ((look (Qm d) n).getD d.files.length) else look (Qm d) m:=by
 unfold Qy at a ⊢;split at a
 ·cases a
 ·rename_i c
  rw[if_neg c];split at a
  ·cases a
  ·rename_i i
   rw[if_neg i];split at a
   ·cases a
   ·rename_i g
    rw[if_neg g]
    cases hl:look (Qm d) n with
    | some f=>
     show look (Qm d) m=_;by_cases e:m=n
     ·rw[if_pos e,e,hl];rfl
     ·rw[if_neg e]
    | none=>
     show look (Qm (Jd d n)) m=_;rw[Zkd,Zdb h.dir.rise _ (fun _ _ _ j=>by cases j)]
     rfl
theorem Zbz (h:OkD d) {n:Int} {b:List UInt8} (a:(Qy d n b).2=0) (m:Int):m ∈ Qk (Qy d n b).1↔m=n∨m ∈ Qk d:=by
 rw[Y2 (h.append n b),Y2 h];simp only [Zqp h a];by_cases e:m=n
 ·simp[e]
 ·simp[e]
theorem Zff (a:(Qy d n b).2=0):d.power≠0:=by
 intro h;rw[Zcp h] at a
 cases a
theorem ZbQ (a:(Qy d n b).2≠0):(Qy d n b).1=d:=by
 unfold Qy at a ⊢;split
 ·rfl
 ·rename_i c
  rw[if_neg c] at a;split
  ·rfl
  ·rename_i f
   rw[if_neg f] at a;split
   ·rfl
   ·rename_i e
    rw[if_neg e] at a;split at a <;> exact absurd rfl a
theorem Zec (h:OkD d) (first:Int):∀ n ∈ Qk d,first<=n->(n-first) % 2=0->n<Xs d first:=by
 intro n j m f
 have b:n ∈ Xk (Qk d) first:=by
  unfold Xk;rw[List.mem_filter];refine⟨j,?_⟩;simp only [Bool.not_eq_true',Bool.or_eq_false_iff,decide_eq_false_iff_not];exact⟨by omega,fun g=>g f⟩
 have a:(Xk (Qk d) first).Pairwise (·<·):=(Zga h.dir.rise).sublist List.filter_sublist;unfold Xs;generalize Xk (Qk d) first=l at b a;obtain⟨i,k,rfl⟩:=List.mem_iff_getElem.1 b;have e:l.getD (l.length-1) (first-2)=l[l.length-1]'(by omega):=by simp[List.getD,show l.length-1<l.length by omega]
 rw[e];by_cases c:i=l.length-1
 ·subst c;omega
 ·have:=List.pairwise_iff_getElem.1 a i (l.length-1) k (by omega) (by omega)
  omega
theorem Zan (first:Int):first<=Xs d first∧(Xs d first-first) % 2=0:=by
 unfold Xs
 have b:∀ n ∈ Xk (Qk d) first,first<=n∧(n-first) % 2=0:=fun n a=>by
  unfold Xk at a;rw[List.mem_filter] at a;have:=a.2;simp only [Bool.not_eq_true',Bool.or_eq_false_iff,decide_eq_false_iff_not] at this;exact⟨by omega,by have:=this.2;omega⟩
 generalize Xk (Qk d) first=l at b;by_cases c:l.length=0
 ·rw[List.eq_nil_of_length_eq_zero c]
  show first<=first-2+2∧(first-2+2-first) % 2=0;omega
 ·have e:l.getD (l.length-1) (first-2)=l[l.length-1]'(by omega):=by simp[List.getD,show l.length-1<l.length by omega]
  have:=b _ (List.getElem_mem (show l.length-1<l.length by omega))
  rw[e];omega
structure Kp (d d':Dk):Prop where
 ok:OkD d->OkD d'
 pw:d'.power≠0->d.power≠0
 nm:OkD d->∀ m:Int,2<=m->m % 2=0->m ∈ Qk d->m ∈ Qk d'
 sz:∀ F B,SzD d F B->SzD d' F B
theorem Kp.refl (d:Dk):Kp d d:=⟨id,id,fun _ _ _ _ h=>h,fun _ _ h=>h⟩
theorem Kp.trans {a b c:Dk} (h:Kp a b) (k:Kp b c):Kp a c:=⟨fun d=>k.ok (h.ok d),fun d=>h.pw (k.pw d),fun d m e f g=>k.nm (h.ok d) m e f (h.nm d m e f g),fun F B d=>k.sz F B (h.sz F B d)⟩
theorem Zjj (h:Y5 p≠0):p≠0:=by
 intro e;rw[e] at h;exact h rfl
theorem ZxP {f:Nat} {q:Int} (h:SzD d F B):SzD { d with files:=Gd d.files f,power:=q } F B:=by
 refine⟨by show(Gd d.files f).length<=F;unfold Gd;rw[List.length_set];exact h.files,fun x b=>?_⟩
 have a:x ∈ Gd d.files f:=b;unfold Gd at a;rcases List.mem_or_eq_of_mem_set a with a | rfl
 ·exact h.bytes x a
 ·exact h.fl f
theorem ZvY (d:Dk) (n:Int):Kp d (X3 d n).1:=by
 refine⟨fun h=>h.sync n,?_,?_,?_⟩
 ·unfold X3
  split
  ·exact id
  ·split
   ·exact fun h=>Zjj h
   ·exact id
 ·intro _ m _ _ a
  unfold X3;split
  ·exact a
  ·split <;> exact a
 ·intro F B h
  unfold X3;split
  ·exact h
  ·split
   ·exact ZxP h
   ·exact h
theorem ZkR (d:Dk):Kp d (Qn d).1:=by
 refine⟨fun h=>h.syncDir,?_,?_,?_⟩
 ·unfold Qn
  split
  ·exact id
  ·exact fun h=>Zjj h
 ·intro _ m _ _ a
  unfold Qn;split
  ·exact a
  ·exact a
 ·intro F B h
  unfold Qn;split
  ·exact h
  ·exact⟨h.files,h.bytes⟩
theorem ZzW (d:Dk) (n:Int):Kp d (Zqz d n):=by
 refine⟨fun h=>h.cut n,?_,fun _ m _ _ a=>a,fun F B h=>⟨h.files,h.bytes⟩⟩
 unfold Zqz;intro h e;exact h (by show(if d.power=0 then(0:Int) else max n 0)=0;rw[if_pos e])
theorem Zri {c:Ch}:Qm { d with waits:=d.waits++[c],power:=p }=chD (Qm d) c:=by
 show(d.waits++[c]).foldl chD d.kept=_;rw[List.foldl_append];rfl
theorem Zjk (h:OkD d) {n:Int} (a:(Qj d n).2=0) (m:Int):look (Qm (Qj d n).1) m=if m=n then none else look (Qm d) m:=by
 unfold Qj at a ⊢;split at a
 ·cases a
 ·rename_i b
  rw[if_neg b];split at a
  ·rename_i f e
   show look (Qm { d with waits:=d.waits++[.take n],power:=Y5 d.power }) m=_
   rw[Zri,Zdb h.dir.rise _ (fun _ _ _ c=>by cases c)]
   rfl
  ·cases a
theorem ZbR (a:(Qj d n).2≠0):(Qj d n).1=d:=by
 unfold Qj at a ⊢;split
 ·rfl
 ·rename_i b
  rw[if_neg b] at a;split
  ·rename_i f c
   rw[c] at a;exact absurd rfl a
  ·rfl
theorem ZbA (h:OkD d) {n m:Int} (c:m≠n) (a:m ∈ Qk d):m ∈ Qk (Qj d n).1:=by
 by_cases b:(Qj d n).2=0
 ·rw[Y2 (h.remove n),Zjk h b,if_neg c]
  exact(Y2 h m).1 a
 ·rw[ZbR b]
  exact a
theorem Zfg:(Qj d n).1.power≠0->d.power≠0:=by
 unfold Qj;split
 ·exact id
 ·split
  ·exact fun h=>Zjj h
  ·exact id
theorem Zol (h:SzD d F B):SzD (Qj d n).1 F B:=by
 unfold Qj;split
 ·exact h
 ·split
  ·exact⟨h.files,h.bytes⟩
  ·exact h
theorem ZvZ (c:¬ (2<=n∧n % 2=0)):Kp d (Qj d n).1:=
 ⟨fun h=>h.remove n,Zfg,fun h m a b f=>ZbA h (fun e=>c (by rw[<-e];exact⟨a,b⟩)) f,fun _ _ h=>Zol h⟩
theorem Zwa {m:Int} (v:¬ (2<=n∧n % 2=0)) (q:¬ (2<=m∧m % 2=0)):Kp d (Ji d n m).1:=by
 refine⟨fun h=>h.rename n m,?_,?_,?_⟩
 ·unfold Ji
  split
  ·exact id
  ·split
   ·split
    ·exact id
    ·split
     ·exact fun h=>Zjj h
     ·exact fun h=>Zjj h
   ·exact id
 ·intro h k i b c
  have l:k≠n:=fun e=>v (by rw[<-e];exact⟨i,b⟩)
  have t:k≠m:=fun e=>q (by rw[<-e];exact⟨i,b⟩)
  have j:=h.rename n m;rw[Y2 j];rw[Y2 h] at c;obtain⟨f,a⟩:=c;refine⟨f,?_⟩;unfold Ji;split
  ·exact a
  ·split
   ·split
    ·exact a
    ·split
     ·exact a
     ·rename_i g w _ p
      show look (Qm { d with waits:=d.waits++[.move n m g],power:=Y5 d.power }) k=_
      rw[Zri,Zdb h.dir.rise _ (fun _ _ _ u=>by cases u;exact p)]
      show(if k=n then none else if k=m then some g else look (Qm d) k)=_
      rw[if_neg l,if_neg t];exact a
   ·exact a
 ·intro F B h
  unfold Ji;split
  ·exact h
  ·split
   ·split
    ·exact h
    ·split
     ·exact⟨h.files,h.bytes⟩
     ·exact⟨h.files,h.bytes⟩
   ·exact h
theorem Zwb (h:SzD d F B):SzD (Qy d n b).1 (F+1) (B+b.length):=by
 have c:SzD d (F+1) (B+b.length):=⟨by have:=h.files;omega,fun x hx=>by have:=h.bytes x hx;omega⟩
 have g:∀ (fs:List Fl) (f:Nat) (w:List Ch) (q:Int),fs.length<=F+1->(∀ x ∈ fs,x.b.length<=B)->SzD { d with files:=Yr fs f b,waits:=w,power:=q } (F+1) (B+b.length):=fun fs f w q j e=>by
  refine⟨by show(Yr fs f b).length<=_;unfold Yr;rw[List.length_set];exact j,fun x hx=>?_⟩
  have a:x ∈ Yr fs f b:=hx;unfold Yr at a;rcases List.mem_or_eq_of_mem_set a with a | rfl
  ·have:=e x a
   omega
  ·show((fl fs f).b++b).length<=_
   rw[List.length_append]
   have:(fl fs f).b.length<=B:=by
    by_cases i:f<fs.length
    ·exact e _ (ZbH i)
    ·unfold fl
     rw[List.getD,List.getElem?_eq_none (by omega)]
     exact Nat.zero_le _
   omega
 unfold Qy;split
 ·exact c
 ·split
  ·exact c
  ·split
   ·exact c
   ·split
    ·exact g d.files _ d.waits _ (by have:=h.files;omega) h.bytes
    ·refine g (d.files++[⟨[],0⟩]) _ (d.waits++[_]) _ (by have:=h.files;simp;omega) (fun x hx=>?_)
     rcases List.mem_append.1 hx with hx | hx
     ·exact h.bytes x hx
     ·rw[List.mem_singleton.1 hx]
      exact Nat.zero_le _
end Go.Proofs.YtnahjngbneicaaaGreatDoor
