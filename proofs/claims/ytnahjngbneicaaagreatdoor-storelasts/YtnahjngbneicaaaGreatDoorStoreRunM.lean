import Derived.Test.YtnahjngbneicaaaGreatDoorStoreOpenM
import Derived.Test.YtnahjngbneicaaaGreatDoorOpenStore
import Derived.Test.YtnahjngbneicaaaGreatDoorFilesLawM
namespace Go.Proofs.YtnahjngbneicaaaGreatDoor
open _root_.Go.Proofs.Tryz
set_option maxRecDepth 100000
variable {d:Dk} {n p:Int} {b:List UInt8} {B F:Nat}
abbrev ze1:=@Bool.or_eq_false_iff
def Zi (next:Int) (o:SOp):List Rec:=(List.range (min o.many.toNat 20)).map fun(i:Nat)=>⟨next+(i:Int),((i % 3:Nat):Int),next % 1000,o.op,0⟩
theorem ZkQ (next:Int) (o:SOp):(Zi next o).length<=20:=by
 unfold Zi;rw[zcz,List.length_range];omega
abbrev Run:=SDk × List Rec
def Jc (x:Run) (o:SOp):Run:=
 if o.kind=0 then((X5 (Zi x.1.1.next o) x.1).1,if(X5 (Zi x.1.1.next o) x.1).2=0 then x.2++Zi x.1.1.next o else x.2)
 else if o.kind=1 then((Q5 x.1).1,x.2)
 else if o.kind=2 then((Yf x.1).1,x.2)
 else if o.kind=3 then((Xp x.1).1,x.2)
 else if o.kind=4 then((Z7 x.1).1,x.2)
 else if o.kind=5 then((x.1.1,Zqz x.1.2 o.n),x.2)
 else x
theorem Zeb:∀ (l:List Rec) (s:Q0),Xl s.idx l->(∀ r ∈ l,Qz r)->(Q3 s l).2=0
 | [],_,_,_=>rfl
 | r::l,s,h,hf=>by
  rw[Q3,zaa (fun a=>a h.1),zaa (fun a=>a (hf r zbi))]
  refine Zeb l (ZhH s r) ?_ (fun q b=>hf q (za4 _ b))
  exact h.2
theorem Y2 (h:OkD d) (n:Int):n ∈ Qk d↔∃ f,look (Qm d) n=some f:=by
 unfold Qk;rw[zbd];constructor
 ·rintro⟨⟨m,f⟩,hm,rfl⟩
  exact⟨f,(Zb h.dir.rise m f).2 hm⟩
 ·rintro⟨f,hf⟩
  exact⟨(n,f),(Zb h.dir.rise n f).1 hf,rfl⟩
theorem Zqp (h:OkD d) {n:Int} {b:List UInt8} (a:(Qy d n b).2=0) (m:Int):look (Qm (Qy d n b).1) m=if m=n then some ((look (Qm d) n).getD d.files.length) else look (Qm d) m:=by
 unfold Qy at a ⊢;split at a
 ·cases a
 ·rename_i g
  rw[zaa g];split at a
  ·cases a
  ·rename_i j
   rw[zaa j];split at a
   ·cases a
   ·rename_i c
    rw[zaa c]
    cases hl:look (Qm d) n with
    | some f=>
     show look (Qm d) m=_;by_cases e:m=n
     ·rw[zab e,e,hl];rfl
     ·rw[zaa e]
    | none=>
     show look (Qm (Jd d n)) m=_;rw[Zkd,Zdb h.dir.rise _ (fun _ _ _ i=>by cases i)]
     rfl
theorem Zbz (h:OkD d) {n:Int} {b:List UInt8} (a:(Qy d n b).2=0) (m:Int):m ∈ Qk (Qy d n b).1↔m=n∨m ∈ Qk d:=by
 rw[Y2 (h.append n b),Y2 h];simp only [Zqp h a];by_cases e:m=n
 ·simp[e]
 ·simp[e]
theorem Zff (a:(Qy d n b).2=0):d.power≠0:=by
 intro h;rw[Zcp h] at a
 cases a
theorem ZbQ (a:(Qy d n b).2≠0):(Qy d n b).1=d:=by
 unfold Qy at a ⊢;split
 ·rfl
 ·rename_i e
  rw[zaa e] at a;split
  ·rfl
  ·rename_i f
   rw[zaa f] at a;split
   ·rfl
   ·rename_i c
    rw[zaa c] at a;split at a <;> exact absurd rfl a
theorem Zec (h:OkD d) (first:Int):∀ n ∈ Qk d,first<=n->(n-first) % 2=0->n<Xs d first:=by
 intro n f m j
 have b:n ∈ Xk (Qk d) first:=by
  unfold Xk;rw[zax];refine⟨f,?_⟩;simp only [zdw,ze1,zc1];exact⟨by omega,fun g=>g j⟩
 have a:(Xk (Qk d) first).Pairwise (·<·):=(Zga h.dir.rise).sublist zdy;unfold Xs;generalize Xk (Qk d) first=l at b a;obtain⟨i,c,rfl⟩:=ze0.1 b;have e:l.getD (l.length-1) (first-2)=l[l.length-1]'(by omega):=by simp[List.getD,show l.length-1<l.length by omega]
 rw[e];by_cases k:i=l.length-1
 ·subst k;omega
 ·have:=zec.1 a i (l.length-1) c (by omega) (by omega)
  omega
theorem Zan (first:Int):first<=Xs d first∧(Xs d first-first) % 2=0:=by
 unfold Xs
 have b:∀ n ∈ Xk (Qk d) first,first<=n∧(n-first) % 2=0:=fun n a=>by
  unfold Xk at a;rw[zax] at a;have:=a.2;simp only [zdw,ze1,zc1] at this;exact⟨by omega,by have:=this.2;omega⟩
 generalize Xk (Qk d) first=l at b;by_cases c:l.length=0
 ·rw[zaj c]
  show first<=first-2+2∧(first-2+2-first) % 2=0;omega
 ·have e:l.getD (l.length-1) (first-2)=l[l.length-1]'(by omega):=by simp[List.getD,show l.length-1<l.length by omega]
  have:=b _ (zcs (show l.length-1<l.length by omega))
  rw[e];omega
structure Kp (d d':Dk):Prop where
 ok:OkD d->OkD d'
 pw:d'.power≠0->d.power≠0
 nm:OkD d->∀ m:Int,2<=m->m % 2=0->m ∈ Qk d->m ∈ Qk d'
 sz:∀ F B,SzD d F B->SzD d' F B
theorem Kp.refl (d:Dk):Kp d d:=⟨id,id,fun _ _ _ _ h=>h,fun _ _ h=>h⟩
theorem Kp.trans {a b c:Dk} (h:Kp a b) (k:Kp b c):Kp a c:=⟨fun d=>k.ok (h.ok d),fun d=>h.pw (k.pw d),fun d m e f g=>k.nm (h.ok d) m e f (h.nm d m e f g),fun F B d=>k.sz F B (h.sz F B d)⟩
theorem Zjj (h:Y5 p≠0):p≠0:=by
 intro e;rw[e] at h;exact h rfl
theorem ZxP {f:Nat} {q:Int} (h:SzD d F B):SzD { d with files:=Gd d.files f,power:=q } F B:=by
 refine⟨by show(Gd d.files f).length<=F;unfold Gd;rw[zdu];exact h.files,fun x b=>?_⟩
 have a:x ∈ Gd d.files f:=b;unfold Gd at a;rcases zcg a with a | rfl
 ·exact h.bytes x a
 ·exact h.fl f
theorem ZvY (d:Dk) (n:Int):Kp d (X3 d n).1:=by
 refine⟨fun h=>h.sync n,?_,?_,?_⟩
 ·unfold X3
  split
  ·exact id
  ·split
   ·exact fun h=>Zjj h
   ·exact id
 ·intro _ m _ _ a
  unfold X3;split
  ·exact a
  ·split <;> exact a
 ·intro F B h
  unfold X3;split
  ·exact h
  ·split
   ·exact ZxP h
   ·exact h
theorem ZkR (d:Dk):Kp d (Qn d).1:=by
 refine⟨fun h=>h.syncDir,?_,?_,?_⟩
 ·unfold Qn
  split
  ·exact id
  ·exact fun h=>Zjj h
 ·intro _ m _ _ a
  unfold Qn;split
  ·exact a
  ·exact a
 ·intro F B h
  unfold Qn;split
  ·exact h
  ·exact⟨h.files,h.bytes⟩
theorem ZzW (d:Dk) (n:Int):Kp d (Zqz d n):=by
 refine⟨fun h=>h.cut n,?_,fun _ m _ _ a=>a,fun F B h=>⟨h.files,h.bytes⟩⟩
 unfold Zqz;intro h e;exact h (by show(if d.power=0 then(0:Int) else max n 0)=0;rw[zab e])
theorem Zri {c:Ch}:Qm { d with waits:=d.waits++[c],power:=p }=chD (Qm d) c:=by
 show(d.waits++[c]).foldl chD d.kept=_;rw[zdf];rfl
theorem Zjk (h:OkD d) {n:Int} (a:(Qj d n).2=0) (m:Int):look (Qm (Qj d n).1) m=if m=n then none else look (Qm d) m:=by
 unfold Qj at a ⊢;split at a
 ·cases a
 ·rename_i b
  rw[zaa b];split at a
  ·rename_i f e
   show look (Qm { d with waits:=d.waits++[.take n],power:=Y5 d.power }) m=_
   rw[Zri,Zdb h.dir.rise _ (fun _ _ _ c=>by cases c)]
   rfl
  ·cases a
theorem ZbR (a:(Qj d n).2≠0):(Qj d n).1=d:=by
 unfold Qj at a ⊢;split
 ·rfl
 ·rename_i b
  rw[zaa b] at a;split
  ·rename_i f c
   rw[c] at a;exact absurd rfl a
  ·rfl
theorem ZbA (h:OkD d) {n m:Int} (c:m≠n) (b:m ∈ Qk d):m ∈ Qk (Qj d n).1:=by
 by_cases a:(Qj d n).2=0
 ·rw[Y2 (h.remove n),Zjk h a,zaa c]
  exact(Y2 h m).1 b
 ·rw[ZbR a]
  exact b
theorem Zfg:(Qj d n).1.power≠0->d.power≠0:=by
 unfold Qj;split
 ·exact id
 ·split
  ·exact fun h=>Zjj h
  ·exact id
theorem Zol (h:SzD d F B):SzD (Qj d n).1 F B:=by
 unfold Qj;split
 ·exact h
 ·split
  ·exact⟨h.files,h.bytes⟩
  ·exact h
theorem ZvZ (c:¬ (2<=n∧n % 2=0)):Kp d (Qj d n).1:=
 ⟨fun h=>h.remove n,Zfg,fun h m b f a=>ZbA h (fun e=>c (by rw[<-e];exact⟨b,f⟩)) a,fun _ _ h=>Zol h⟩
theorem Zwa {m:Int} (q:¬ (2<=n∧n % 2=0)) (u:¬ (2<=m∧m % 2=0)):Kp d (Ji d n m).1:=by
 refine⟨fun h=>h.rename n m,?_,?_,?_⟩
 ·unfold Ji
  split
  ·exact id
  ·split
   ·split
    ·exact id
    ·split
     ·exact fun h=>Zjj h
     ·exact fun h=>Zjj h
   ·exact id
 ·intro h k i c b
  have j:k≠n:=fun e=>q (by rw[<-e];exact⟨i,c⟩)
  have p:k≠m:=fun e=>u (by rw[<-e];exact⟨i,c⟩)
  have v:=h.rename n m;rw[Y2 v];rw[Y2 h] at b;obtain⟨f,a⟩:=b;refine⟨f,?_⟩;unfold Ji;split
  ·exact a
  ·split
   ·split
    ·exact a
    ·split
     ·exact a
     ·rename_i g w _ l
      show look (Qm { d with waits:=d.waits++[.move n m g],power:=Y5 d.power }) k=_
      rw[Zri,Zdb h.dir.rise _ (fun _ _ _ t=>by cases t;exact l)]
      show(if k=n then none else if k=m then some g else look (Qm d) k)=_
      rw[zaa j,zaa p];exact a
   ·exact a
 ·intro F B h
  unfold Ji;split
  ·exact h
  ·split
   ·split
    ·exact h
    ·split
     ·exact⟨h.files,h.bytes⟩
     ·exact⟨h.files,h.bytes⟩
   ·exact h
theorem Zwb (h:SzD d F B):SzD (Qy d n b).1 (F+1) (B+b.length):=by
 have c:SzD d (F+1) (B+b.length):=⟨by have:=h.files;omega,fun x hx=>by have:=h.bytes x hx;omega⟩
 have e:∀ (fs:List Fl) (f:Nat) (w:List Ch) (q:Int),fs.length<=F+1->(∀ x ∈ fs,x.b.length<=B)->SzD { d with files:=Yr fs f b,waits:=w,power:=q } (F+1) (B+b.length):=fun fs f w q j g=>by
  refine⟨by show(Yr fs f b).length<=_;unfold Yr;rw[zdu];exact j,fun x hx=>?_⟩
  have a:x ∈ Yr fs f b:=hx;unfold Yr at a;rcases zcg a with a | rfl
  ·have:=g x a
   omega
  ·show((fl fs f).b++b).length<=_
   rw[zel]
   have:(fl fs f).b.length<=B:=by
    by_cases i:f<fs.length
    ·exact g _ (ZbH i)
    ·unfold fl
     rw[List.getD,zbw (by omega)]
     exact zai _
   omega
 unfold Qy;split
 ·exact c
 ·split
  ·exact c
  ·split
   ·exact c
   ·split
    ·exact e d.files _ d.waits _ (by have:=h.files;omega) h.bytes
    ·refine e (d.files++[⟨[],0⟩]) _ (d.waits++[_]) _ (by have:=h.files;simp;omega) (fun x hx=>?_)
     rcases zaw.1 hx with hx | hx
     ·exact h.bytes x hx
     ·rw[zaq.1 hx]
      exact zai _
end Go.Proofs.YtnahjngbneicaaaGreatDoor
