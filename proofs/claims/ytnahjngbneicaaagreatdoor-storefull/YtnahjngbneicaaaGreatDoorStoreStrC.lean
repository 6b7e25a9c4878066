import Derived.Test.YtnahjngbneicaaaGreatDoorStoreStrP
namespace Go.Proofs.YtnahjngbneicaaaGreatDoor
set_option linter.unusedSimpArgs false
open _root_.Go.Proofs.Tryz
open List (mem_cons_self)
set_option maxRecDepth 100000
variable {all:List Rec} {kind:Int} {a fs:List Fl} {lo:Nat} {l:Dir} {p:Int × Nat} {d:Dk}
theorem ZyW:∀ (l:List Rec) (s:Q0),(Q4 s l).2=0->(Q4 s l).1.st.kind=s.st.kind
 | [],s,_=>rfl
 | r::l,s,h=>by
  rw[Q4] at h ⊢;by_cases b:r.idx≠s.idx
  ·rw[zab b] at h
   exact absurd h (by decide)
  rw[zaa b] at h ⊢;by_cases a:¬ Q1 r
  ·rw[zab a] at h
   exact absurd h (by decide)
  rw[zaa a] at h ⊢;rw[ZyW l (ZgS s r) h];exact Zsc s.st r.op
theorem Zlo (h:ZbG all) {kind:Int} (a:0<=kind) (b:kind<6) (j:Nat):(Xv kind all j).st.kind=kind:=by
 unfold Xv;rw[ZyW _ _ (h.taken kind j),Zjq a b]
theorem ZjA.files:∀ {E:Dir} {i j:Nat},ZjA kind all fs lo E i j->(∀ p ∈ E,fl a p.2=fl fs p.2)->ZjA kind all a lo E i j
 | [],_,_,h,_=>h
 | [p],i,j,h,hf=>by
  have b:Zfv kind all (fl fs p.2) i j lo:=h;show Zfv kind all (fl a p.2) i j lo;rw[hf p mem_cons_self];exact b
 | p::q::t,i,j,⟨m,h1,h2,h3⟩,hf=>⟨m,h1,by rw[hf p mem_cons_self];exact h2,ZjA.files h3 (fun x c=>hf x (za6 _ c))⟩
theorem X4.files:∀ {E:Dir} {P:List Pce},X4 kind all fs lo E P->(∀ p ∈ E,fl a p.2=fl fs p.2)->X4 kind all a lo E P
 | [],[],_,_=>trivial
 | p::E,c::P,⟨h1,h2,h3,h4⟩,hf=>⟨h1,h2,by rw[hf p mem_cons_self];exact h3,X4.files h4 (fun q b=>hf q (za6 _ b))⟩
 | [],_::_,h,_=>h.elim
 | _::_,[],h,_=>h.elim
theorem Jo.files {b:List Fl} (h:Jo kind all lo fs l) (c:∀ p ∈ l,fl b p.2=fl fs p.2):Jo kind all lo b l:=by
 obtain⟨i,j,d,k,g,f,e⟩:=h;exact⟨i,j,d,k.files (fun p a=>c p (za3.1 a).1),g,ZjB.files f (fun p a=>c p (za3.1 a).1),e⟩
theorem Jo.sorts {a:Dir} (h:Jo kind all lo fs l) (c:Xg a=Xg l) (b:Dj a=Dj l):Jo kind all lo fs a:=by
 unfold Jo at h ⊢;rw[c,b];exact h
theorem Zhu (h:Xb l) (o:Option Nat):Xg (Yv l 1 o)=Xg l:=Jw h ZrE rfl o
theorem ZmF (h:Xb l) (o:Option Nat):Dj (Yv l 1 o)=Dj l:=Jw h Zul rfl o
theorem ZjD {kind:Int} {all:List Rec} {fs:List Fl} {p:Int × Nat} {j:Nat} (f:(fl fs p.2).k=(fl fs p.2).b.length) (e:(fl fs p.2).b=ZjN (Xv kind all j)) (d:Zs (Xv kind all j)∧j<=all.length) (c:(Xv kind all j).st.kind=kind):∀ {O:Dir} {a:List Nat},ZjB kind all fs O a->ZjB kind all fs (O++[p]) (a++[j])
 | [],[],_=>⟨f,e,d,c,trivial⟩
 | _::_,_::_,⟨g1,g2,g3,g4,g5⟩=>⟨g1,g2,g3,g4,ZjD f e d c g5⟩
 | [],_::_,h=>h.elim
 | _::_,[],h=>h.elim
theorem ZbT (a:List Nat) (j:Nat):(a++[j]).getLastD 0=j:=by simp
theorem Jo.base {a:Dir} (h:Jo kind all all.length fs l) (t:Xg a=Xg l) (m:Dj a=Dj l++[p]) (q:(fl fs p.2).k=(fl fs p.2).b.length) (x:(fl fs p.2).b=ZjN (Xv kind all all.length)) (w:Zs (Xv kind all all.length)) (g:(Xv kind all all.length).st.kind=kind):Jo kind all all.length fs a:=by
 obtain⟨i,j,f,v,n,u,y,e,z,d⟩:=h;unfold Jo;rw[t,m];refine⟨i,j,f++[all.length],v,n,ZjD q x ⟨w,za0 _⟩ g u,by rw[ZbT];exact za0 _,e,fun _=>by rw[ZbT];exact za0 _,fun c=>⟨?_,(d c).2⟩⟩
 rw[ZbT];have:=(d c).1;omega
structure OnI (kind:Int) (x:SDk) (all:List Rec) (lo n:Nat):Prop where
 str:Zen kind x all lo
 one:1 ∉ Qk x.2
 nam:∀ m ∈ Qk x.2,m<=2*(n:Int)+1
 cz:x.1.cur=0->lo=all.length
structure ZcZ (kind:Int) (x:SDk) (all:List Rec) (lo:Nat):Prop where
 al:ZbG all
 pw:x.2.power=0
 good:∀ k,Jo kind all lo x.2.files (Yo x.2 k)
 syn:x.1.synced=lo
 cz:x.1.cur=0->lo=all.length
theorem OnI.more {x:SDk} {n:Nat} (h:OnI kind x all lo n):OnI kind x all lo (n+1):=⟨h.str,h.one,fun m a=>by have:=h.nam m a;omega,h.cz⟩
theorem ZaE {d':Dk} (h:Qm d'=Qm d):Qk d'=Qk d:=by unfold Qk;rw[h]
theorem ZrG (d:Dk) (n:Int):Qm (Xz d n).1=Qm d:=by
 unfold Xz;split
 ·rfl
 ·split <;> rfl
theorem ZqI (d:Dk):Qm (Qn d).1=Qm d:=by
 unfold Qn;split <;> rfl
theorem ZjE (x:SDk):Qm (Q5 x).1.2=Qm x.2:=by
 obtain⟨s,d⟩:=x
 have b:∀ y:SDk,Qm (Qw y).1.2=Qm y.2:=fun y=>by
  unfold Qw;split
  ·exact ZqI y.2
  ·rfl
 have a:Qm (Qv [Q2,Qw] (s,d)).1.2=Qm d:=by
  rw[Qv];split
  ·rw[(Zds Qw _).1,b]
   exact ZrG d s.cur
  ·exact ZrG d s.cur
 unfold Q5;split
 ·rfl
 ·split
  ·exact a
  ·exact a
theorem ZtZ (h:(Qn d).2=0):d.power≠0:=fun e=>by
 rw[ZcV e] at h
 cases h
theorem ZjF {first B:Int} (h:∀ n ∈ Qk d,n<=B) (f:first-2<=B):Xs d first<=B+2:=by
 unfold Xs;have a:∀ n ∈ Xm (Qk d) first,n<=B:=fun n b=>h n (za3.1 b).1
 generalize Xm (Qk d) first=l at a;by_cases c:l.length=0
 ·rw[zao c]
  show first-2+2<=_;omega
 ·have e:l.getD (l.length-1) (first-2)=l[l.length-1]'(by omega):=by simp[List.getD,show l.length-1<l.length by omega]
  have:=a _ (zcp (show l.length-1<l.length by omega))
  rw[e];omega
end Go.Proofs.YtnahjngbneicaaaGreatDoor
