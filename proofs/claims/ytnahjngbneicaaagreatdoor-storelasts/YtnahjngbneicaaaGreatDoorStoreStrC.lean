import Derived.Test.YtnahjngbneicaaaGreatDoorStoreStrP
namespace Go.Proofs.YtnahjngbneicaaaGreatDoor
open _root_.Go.Proofs.Tryz
open List (mem_cons_self)
set_option maxRecDepth 100000
variable {all:List Rec} {kind:Int} {a fs:List Fl} {lo:Nat} {l:Dir} {p:Int × Nat} {d:Dk}
theorem Zyp:∀ (l:List Rec) (s:Q0),(Q3 s l).2=0->(Q3 s l).1.st.kind=s.st.kind
 | [],s,_=>rfl
 | r::l,s,h=>by
  rw[Q3] at h ⊢;by_cases a:r.idx≠s.idx
  ·rw[if_pos a] at h
   exact absurd h (by decide)
  rw[if_neg a] at h ⊢;by_cases b:¬ Qz r
  ·rw[if_pos b] at h
   exact absurd h (by decide)
  rw[if_neg b] at h ⊢;rw[Zyp l (ZhH s r) h];exact ZrI s.st r.op
theorem ZkY (h:ZbG all) {kind:Int} (b:0<=kind) (a:kind<6) (j:Nat):(X7 kind all j).st.kind=kind:=by
 unfold X7;rw[Zyp _ _ (h.taken kind j),Zjg b a]
theorem Zjr.files:∀ {E:Dir} {i j:Nat},Zjr kind all fs lo E i j->(∀ p ∈ E,fl a p.2=fl fs p.2)->Zjr kind all a lo E i j
 | [],_,_,h,_=>h
 | [p],i,j,h,hf=>by
  have b:Zfn kind all (fl fs p.2) i j lo:=h;show Zfn kind all (fl a p.2) i j lo;rw[hf p mem_cons_self];exact b
 | p::q::t,i,j,⟨m,h1,h2,h3⟩,hf=>⟨m,h1,by rw[hf p mem_cons_self];exact h2,Zjr.files h3 (fun x c=>hf x (List.mem_cons_of_mem _ c))⟩
theorem Xz.files:∀ {E:Dir} {P:List Pce},Xz kind all fs lo E P->(∀ p ∈ E,fl a p.2=fl fs p.2)->Xz kind all a lo E P
 | [],[],_,_=>trivial
 | p::E,c::P,⟨h1,h2,h3,h4⟩,hf=>⟨h1,h2,by rw[hf p mem_cons_self];exact h3,Xz.files h4 (fun q b=>hf q (List.mem_cons_of_mem _ b))⟩
 | [],_::_,h,_=>h.elim
 | _::_,[],h,_=>h.elim
theorem Jl.files {b:List Fl} (h:Jl kind all lo fs l) (c:∀ p ∈ l,fl b p.2=fl fs p.2):Jl kind all lo b l:=by
 obtain⟨i,j,e,f,g,k,d⟩:=h;exact⟨i,j,e,f.files (fun p a=>c p (List.mem_filter.1 a).1),g,Zjs.files k (fun p a=>c p (List.mem_filter.1 a).1),d⟩
theorem Jl.sorts {a:Dir} (h:Jl kind all lo fs l) (b:Xe a=Xe l) (c:Zdn a=Zdn l):Jl kind all lo fs a:=by
 unfold Jl at h ⊢;rw[b,c];exact h
theorem Zhe (h:Xa l) (o:Option Nat):Xe (Yt l 1 o)=Xe l:=Jt h Zro rfl o
theorem Zmo (h:Xa l) (o:Option Nat):Zdn (Yt l 1 o)=Zdn l:=Jt h ZtR rfl o
theorem Zjv {kind:Int} {all:List Rec} {fs:List Fl} {p:Int × Nat} {j:Nat} (d:(fl fs p.2).k=(fl fs p.2).b.length) (e:(fl fs p.2).b=ZjA (X7 kind all j)) (f:Z6 (X7 kind all j)∧j<=all.length) (a:(X7 kind all j).st.kind=kind):∀ {O:Dir} {c:List Nat},Zjs kind all fs O c->Zjs kind all fs (O++[p]) (c++[j])
 | [],[],_=>⟨d,e,f,a,trivial⟩
 | _::_,_::_,⟨g1,g2,g3,g4,g5⟩=>⟨g1,g2,g3,g4,Zjv d e f a g5⟩
 | [],_::_,h=>h.elim
 | _::_,[],h=>h.elim
theorem ZbT (a:List Nat) (j:Nat):(a++[j]).getLastD 0=j:=by simp
theorem Jl.base {a:Dir} (h:Jl kind all all.length fs l) (t:Xe a=Xe l) (n:Zdn a=Zdn l++[p]) (w:(fl fs p.2).k=(fl fs p.2).b.length) (g:(fl fs p.2).b=ZjA (X7 kind all all.length)) (m:Z6 (X7 kind all all.length)) (e:(X7 kind all all.length).st.kind=kind):Jl kind all all.length fs a:=by
 obtain⟨i,j,f,q,x,u,y,v,z,c⟩:=h;unfold Jl;rw[t,n];refine⟨i,j,f++[all.length],q,x,Zjv w g ⟨m,Nat.le_refl _⟩ e u,by rw[ZbT];exact Nat.le_refl _,v,fun _=>by rw[ZbT];exact Nat.le_refl _,fun d=>⟨?_,(c d).2⟩⟩
 rw[ZbT];have:=(c d).1;omega
structure OnI (kind:Int) (x:SDk) (all:List Rec) (lo n:Nat):Prop where
 str:Zfk kind x all lo
 one:1 ∉ Qk x.2
 nam:∀ m ∈ Qk x.2,m<=2*(n:Int)+1
 cz:x.1.cur=0->lo=all.length
structure ZcZ (kind:Int) (x:SDk) (all:List Rec) (lo:Nat):Prop where
 al:ZbG all
 pw:x.2.power=0
 good:∀ k,Jl kind all lo x.2.files (Ym x.2 k)
 syn:x.1.synced=lo
 cz:x.1.cur=0->lo=all.length
theorem OnI.more {x:SDk} {n:Nat} (h:OnI kind x all lo n):OnI kind x all lo (n+1):=⟨h.str,h.one,fun m a=>by have:=h.nam m a;omega,h.cz⟩
theorem ZaD {d':Dk} (h:Qm d'=Qm d):Qk d'=Qk d:=by unfold Qk;rw[h]
theorem Zrq (d:Dk) (n:Int):Qm (X3 d n).1=Qm d:=by
 unfold X3;split
 ·rfl
 ·split <;> rfl
theorem Zqx (d:Dk):Qm (Qn d).1=Qm d:=by
 unfold Qn;split <;> rfl
theorem Zjw (x:SDk):Qm (Q5 x).1.2=Qm x.2:=by
 obtain⟨s,d⟩:=x
 have b:∀ y:SDk,Qm (Qx y).1.2=Qm y.2:=fun y=>by
  unfold Qx;split
  ·exact Zqx y.2
  ·rfl
 have a:Qm (Qv [Q1,Qx] (s,d)).1.2=Qm d:=by
  rw[Qv];split
  ·rw[(Zdm Qx _).1,b]
   exact Zrq d s.cur
  ·exact Zrq d s.cur
 unfold Q5;split
 ·rfl
 ·split
  ·exact a
  ·exact a
theorem ZtJ (h:(Qn d).2=0):d.power≠0:=fun e=>by
 rw[ZcV e] at h
 cases h
theorem Zjx {first B:Int} (h:∀ n ∈ Qk d,n<=B) (f:first-2<=B):Xs d first<=B+2:=by
 unfold Xs;have a:∀ n ∈ Xk (Qk d) first,n<=B:=fun n c=>h n (List.mem_filter.1 c).1
 generalize Xk (Qk d) first=l at a;by_cases b:l.length=0
 ·rw[List.eq_nil_of_length_eq_zero b]
  show first-2+2<=_;omega
 ·have e:l.getD (l.length-1) (first-2)=l[l.length-1]'(by omega):=by simp[List.getD,show l.length-1<l.length by omega]
  have:=a _ (List.getElem_mem (show l.length-1<l.length by omega))
  rw[e];omega
end Go.Proofs.YtnahjngbneicaaaGreatDoor
