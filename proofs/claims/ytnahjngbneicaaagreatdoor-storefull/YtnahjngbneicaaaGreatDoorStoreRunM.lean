import Derived.Test.YtnahjngbneicaaaGreatDoorPack15
import Derived.Test.YtnahjngbneicaaaGreatDoorFilesLawM
namespace Go.Proofs.YtnahjngbneicaaaGreatDoor
set_option linter.unusedSimpArgs false
open _root_.Go.Proofs.Tryz
set_option maxRecDepth 100000
variable {d:Dk} {n p:Int} {b:List UInt8} {B F:Nat}
abbrev zfa:=@Bool.or_eq_false_iff
def Yz (next:Int) (o:SOp):List Rec:=(List.range (min o.many.toNat 20)).map fun(i:Nat)=>⟨next+(i:Int),((i % 3:Nat):Int),next % 1000,o.op,0⟩
theorem Zgh (next:Int) (o:SOp):(Yz next o).length<=20:=by
 unfold Yz;rw[zda,List.length_range];omega
abbrev Run:=SDk × List Rec
def Zx (x:Run) (o:SOp):Run:=
 if o.kind=0 then((Xc (Yz x.1.1.next o) x.1).1,if(Xc (Yz x.1.1.next o) x.1).2=0 then x.2++Yz x.1.1.next o else x.2)
 else if o.kind=1 then((Q5 x.1).1,x.2)
 else if o.kind=2 then((Yb x.1).1,x.2)
 else if o.kind=3 then((Qs x.1).1,x.2)
 else if o.kind=4 then((Zn x.1).1,x.2)
 else if o.kind=5 then((x.1.1,ZqS x.1.2 o.n),x.2)
 else x
theorem Zek:∀ (l:List Rec) (s:Q0),Xn s.idx l->(∀ r ∈ l,Q1 r)->(Q4 s l).2=0
 | [],_,_,_=>rfl
 | r::l,s,h,hf=>by
  rw[Q4,zaa (fun a=>a h.1),zaa (fun a=>a (hf r zbp))]
  refine Zek l (ZgS s r) ?_ (fun q b=>hf q (za6 _ b))
  exact h.2
theorem Y6 (h:OkD d) (n:Int):n ∈ Qk d↔∃ f,look (Qm d) n=some f:=by
 unfold Qk;rw[zbm];constructor
 ·rintro⟨⟨m,f⟩,hm,rfl⟩
  exact⟨f,(Y2 h.dir.rise m f).2 hm⟩
 ·rintro⟨f,hf⟩
  exact⟨(n,f),(Y2 h.dir.rise n f).1 hf,rfl⟩
theorem ZqB (h:OkD d) {n:Int} {b:List UInt8} (a:(Qy d n b).2=0) (m:Int):look (Qm (Qy d n b).1) m=if m=n then some ((look (Qm d) n).getD d.files.length) else look (Qm d) m:=by
 unfold Qy at a ⊢;split at a
 ·cases a
 ·rename_i j
  rw[zaa j];split at a
  ·cases a
  ·rename_i i
   rw[zaa i];split at a
   ·cases a
   ·rename_i g
    rw[zaa g]
    cases hl:look (Qm d) n with
    | some f=>
     show look (Qm d) m=_;by_cases e:m=n
     ·rw[zab e,e,hl];rfl
     ·rw[zaa e]
    | none=>
     show look (Qm (Ji d n)) m=_;rw[Zkr,Zdf h.dir.rise _ (fun _ _ _ c=>by cases c)]
     rfl
theorem Zbw (h:OkD d) {n:Int} {b:List UInt8} (a:(Qy d n b).2=0) (m:Int):m ∈ Qk (Qy d n b).1↔m=n∨m ∈ Qk d:=by
 rw[Y6 (h.append n b),Y6 h];simp only [ZqB h a];by_cases e:m=n
 ·simp[e]
 ·simp[e]
theorem Zfm (a:(Qy d n b).2=0):d.power≠0:=by
 intro h;rw[Zco h] at a
 cases a
theorem Zbb (a:(Qy d n b).2≠0):(Qy d n b).1=d:=by
 unfold Qy at a ⊢;split
 ·rfl
 ·rename_i f
  rw[zaa f] at a;split
  ·rfl
  ·rename_i e
   rw[zaa e] at a;split
   ·rfl
   ·rename_i c
    rw[zaa c] at a;split at a <;> exact absurd rfl a
theorem Zel (h:OkD d) (first:Int):∀ n ∈ Qk d,first<=n->(n-first) % 2=0->n<Xs d first:=by
 intro n j m k
 have a:n ∈ Xm (Qk d) first:=by
  unfold Xm;rw[za3];refine⟨j,?_⟩;simp only [zd7,zfa,zdc];exact⟨by omega,fun c=>c k⟩
 have b:(Xm (Qk d) first).Pairwise (·<·):=(Zgl h.dir.rise).sublist zd8;unfold Xs;generalize Xm (Qk d) first=l at a b;obtain⟨i,f,rfl⟩:=zem.1 a;have e:l.getD (l.length-1) (first-2)=l[l.length-1]'(by omega):=by simp[List.getD,show l.length-1<l.length by omega]
 rw[e];by_cases g:i=l.length-1
 ·subst g;omega
 ·have:=zd1.1 b i (l.length-1) f (by omega) (by omega)
  omega
theorem Zan (first:Int):first<=Xs d first∧(Xs d first-first) % 2=0:=by
 unfold Xs
 have b:∀ n ∈ Xm (Qk d) first,first<=n∧(n-first) % 2=0:=fun n a=>by
  unfold Xm at a;rw[za3] at a;have:=a.2;simp only [zd7,zfa,zdc] at this;exact⟨by omega,by have:=this.2;omega⟩
 generalize Xm (Qk d) first=l at b;by_cases c:l.length=0
 ·rw[zao c]
  show first<=first-2+2∧(first-2+2-first) % 2=0;omega
 ·have e:l.getD (l.length-1) (first-2)=l[l.length-1]'(by omega):=by simp[List.getD,show l.length-1<l.length by omega]
  have:=b _ (zcp (show l.length-1<l.length by omega))
  rw[e];omega
structure Kp (d d':Dk):Prop where
 ok:OkD d->OkD d'
 pw:d'.power≠0->d.power≠0
 nm:OkD d->∀ m:Int,2<=m->m % 2=0->m ∈ Qk d->m ∈ Qk d'
 sz:∀ F B,SzD d F B->SzD d' F B
theorem Kp.refl (d:Dk):Kp d d:=⟨id,id,fun _ _ _ _ h=>h,fun _ _ h=>h⟩
theorem Kp.trans {a b c:Dk} (h:Kp a b) (k:Kp b c):Kp a c:=⟨fun d=>k.ok (h.ok d),fun d=>h.pw (k.pw d),fun d m f e g=>k.nm (h.ok d) m f e (h.nm d m f e g),fun F B d=>k.sz F B (h.sz F B d)⟩
theorem Zju (h:Ye p≠0):p≠0:=by
 intro e;rw[e] at h;exact h rfl
theorem Zyn {f:Nat} {q:Int} (h:SzD d F B):SzD { d with files:=Gi d.files f,power:=q } F B:=by
 refine⟨by show(Gi d.files f).length<=F;unfold Gi;rw[zd4];exact h.files,fun x b=>?_⟩
 have a:x ∈ Gi d.files f:=b;unfold Gi at a;rcases zcs a with a | rfl
 ·exact h.bytes x a
 ·exact h.fl f
theorem Zwq (d:Dk) (n:Int):Kp d (Xz d n).1:=by
 refine⟨fun h=>h.sync n,?_,?_,?_⟩
 ·unfold Xz
  split
  ·exact id
  ·split
   ·exact fun h=>Zju h
   ·exact id
 ·intro _ m _ _ a
  unfold Xz;split
  ·exact a
  ·split <;> exact a
 ·intro F B h
  unfold Xz;split
  ·exact h
  ·split
   ·exact Zyn h
   ·exact h
theorem Zlf (d:Dk):Kp d (Qn d).1:=by
 refine⟨fun h=>h.syncDir,?_,?_,?_⟩
 ·unfold Qn
  split
  ·exact id
  ·exact fun h=>Zju h
 ·intro _ m _ _ a
  unfold Qn;split
  ·exact a
  ·exact a
 ·intro F B h
  unfold Qn;split
  ·exact h
  ·exact⟨h.files,h.bytes⟩
theorem ZAC (d:Dk) (n:Int):Kp d (ZqS d n):=by
 refine⟨fun h=>h.cut n,?_,fun _ m _ _ a=>a,fun F B h=>⟨h.files,h.bytes⟩⟩
 unfold ZqS;intro h e;exact h (by show(if d.power=0 then(0:Int) else max n 0)=0;rw[zab e])
theorem Zrz {c:Ch}:Qm { d with waits:=d.waits++[c],power:=p }=chD (Qm d) c:=by
 show(d.waits++[c]).foldl chD d.kept=_;rw[zdq];rfl
theorem Zjv (h:OkD d) {n:Int} (a:(Qi d n).2=0) (m:Int):look (Qm (Qi d n).1) m=if m=n then none else look (Qm d) m:=by
 unfold Qi at a ⊢;split at a
 ·cases a
 ·rename_i c
  rw[zaa c];split at a
  ·rename_i f e
   show look (Qm { d with waits:=d.waits++[.take n],power:=Ye d.power }) m=_
   rw[Zrz,Zdf h.dir.rise _ (fun _ _ _ b=>by cases b)]
   rfl
  ·cases a
theorem ZbR (a:(Qi d n).2≠0):(Qi d n).1=d:=by
 unfold Qi at a ⊢;split
 ·rfl
 ·rename_i c
  rw[zaa c] at a;split
  ·rename_i f b
   rw[b] at a;exact absurd rfl a
  ·rfl
theorem Zbx (h:OkD d) {n m:Int} (c:m≠n) (a:m ∈ Qk d):m ∈ Qk (Qi d n).1:=by
 by_cases b:(Qi d n).2=0
 ·rw[Y6 (h.remove n),Zjv h b,zaa c]
  exact(Y6 h m).1 a
 ·rw[ZbR b]
  exact a
theorem Zfn:(Qi d n).1.power≠0->d.power≠0:=by
 unfold Qi;split
 ·exact id
 ·split
  ·exact fun h=>Zju h
  ·exact id
theorem ZoE (h:SzD d F B):SzD (Qi d n).1 F B:=by
 unfold Qi;split
 ·exact h
 ·split
  ·exact⟨h.files,h.bytes⟩
  ·exact h
theorem Zwr (b:¬ (2<=n∧n % 2=0)):Kp d (Qi d n).1:=
 ⟨fun h=>h.remove n,Zfn,fun h m f c a=>Zbx h (fun e=>b (by rw[<-e];exact⟨f,c⟩)) a,fun _ _ h=>ZoE h⟩
theorem Zws {m:Int} (l:¬ (2<=n∧n % 2=0)) (u:¬ (2<=m∧m % 2=0)):Kp d (Z1 d n m).1:=by
 refine⟨fun h=>h.rename n m,?_,?_,?_⟩
 ·unfold Z1
  split
  ·exact id
  ·split
   ·split
    ·exact id
    ·split
     ·exact fun h=>Zju h
     ·exact fun h=>Zju h
   ·exact id
 ·intro h k c i b
  have t:k≠n:=fun e=>l (by rw[<-e];exact⟨c,i⟩)
  have p:k≠m:=fun e=>u (by rw[<-e];exact⟨c,i⟩)
  have v:=h.rename n m;rw[Y6 v];rw[Y6 h] at b;obtain⟨f,a⟩:=b;refine⟨f,?_⟩;unfold Z1;split
  ·exact a
  ·split
   ·split
    ·exact a
    ·split
     ·exact a
     ·rename_i g w _ j
      show look (Qm { d with waits:=d.waits++[.move n m g],power:=Ye d.power }) k=_
      rw[Zrz,Zdf h.dir.rise _ (fun _ _ _ q=>by cases q;exact j)]
      show(if k=n then none else if k=m then some g else look (Qm d) k)=_
      rw[zaa t,zaa p];exact a
   ·exact a
 ·intro F B h
  unfold Z1;split
  ·exact h
  ·split
   ·split
    ·exact h
    ·split
     ·exact⟨h.files,h.bytes⟩
     ·exact⟨h.files,h.bytes⟩
   ·exact h
theorem Zwt (h:SzD d F B):SzD (Qy d n b).1 (F+1) (B+b.length):=by
 have c:SzD d (F+1) (B+b.length):=⟨by have:=h.files;omega,fun x hx=>by have:=h.bytes x hx;omega⟩
 have e:∀ (fs:List Fl) (f:Nat) (w:List Ch) (q:Int),fs.length<=F+1->(∀ x ∈ fs,x.b.length<=B)->SzD { d with files:=Yt fs f b,waits:=w,power:=q } (F+1) (B+b.length):=fun fs f w q i g=>by
  refine⟨by show(Yt fs f b).length<=_;unfold Yt;rw[zd4];exact i,fun x hx=>?_⟩
  have a:x ∈ Yt fs f b:=hx;unfold Yt at a;rcases zcs a with a | rfl
  ·have:=g x a
   omega
  ·show((fl fs f).b++b).length<=_
   rw[zdb]
   have:(fl fs f).b.length<=B:=by
    by_cases j:f<fs.length
    ·exact g _ (ZbI j)
    ·unfold fl
     rw[List.getD,zbw (by omega)]
     exact zap _
   omega
 unfold Qy;split
 ·exact c
 ·split
  ·exact c
  ·split
   ·exact c
   ·split
    ·exact e d.files _ d.waits _ (by have:=h.files;omega) h.bytes
    ·refine e (d.files++[⟨[],0⟩]) _ (d.waits++[_]) _ (by have:=h.files;simp;omega) (fun x hx=>?_)
     rcases za2.1 hx with hx | hx
     ·exact h.bytes x hx
     ·rw[zaw.1 hx]
      exact zap _
end Go.Proofs.YtnahjngbneicaaaGreatDoor
