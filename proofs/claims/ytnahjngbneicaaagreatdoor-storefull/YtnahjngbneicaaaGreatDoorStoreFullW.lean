import Derived.Test.YtnahjngbneicaaaGreatDoorStoreFullM
import Derived.Test.YtnahjngbneicaaaGreatDoorStoreFall
import Derived.Test.YtnahjngbneicaaaGreatDoorStoreFell
namespace Go.Proofs.YtnahjngbneicaaaGreatDoor
set_option linter.unusedSimpArgs false
open _root_.Go.Proofs.Tryz
set_option maxRecDepth 100000
open Go.RowKit
variable {w w':World} {v:Value} {K:Nat->Prop} {B:Nat} {kind:Int}
theorem RdI.keepN {l:List Int} (h:RdI w v l) (q:∀ b,v.ownBlock=some b->B<=b) (m:Ql (fun k=>¬ (K k∨(B<=k∧k<w.heap.size))) w w'):RdI w' v l:=by
 obtain⟨ao,cap,rfl,u,n,i,p,c⟩:=h;refine⟨ao,cap,rfl,u,n,i,p,?_⟩;rcases c with c | ⟨b,d,rfl,f⟩
 ·exact .inl c
 ·refine .inr ⟨b,d,rfl,fun j e=>?_⟩
  have g:b<w.heap.size:=za1 w ⟨b,d+j,none⟩ (f j e);rw[zb4 (a:=⟨b,d+j,none⟩) (m.block b g (fun t=>t (.inr ⟨q b rfl,g⟩)))]
  exact f j e
theorem RdE.keepN {l:List Ent} (h:RdE w v l) (n:∀ b,v.ownBlock=some b->B<=b) (g:Ql (fun k=>¬ (K k∨(B<=k∧k<w.heap.size))) w w'):RdE w' v l:=by
 obtain⟨ao,cap,rfl,q,i,e,m,c⟩:=h;refine⟨ao,cap,rfl,q,i,e,m,?_⟩;rcases c with c | ⟨b,f,rfl,d⟩
 ·exact .inl c
 ·exact .inr ⟨b,f,rfl,fun j a=>(d j a).keep (g.block b (d j a).lt (fun p=>p (.inr ⟨n b rfl,(d j a).lt⟩)))⟩
theorem SnR.keepN {x:Q0 × Value × Value} (h:SnR w x) (c:∀ b,x.2.1.ownBlock=some b->B<=b) (d:∀ b,x.2.2.ownBlock=some b->B<=b) (a:Ql (fun k=>¬ (K k∨(B<=k∧k<w.heap.size))) w w'):SnR w' x:=
 ⟨h.l.keepN c a,h.t.keepN d a,h.k,h.e,h.i⟩
section
variable {P:Program} {ops:Array Oper} {Q:Exit->Act->World->Prop} {md:Region.Mode} {S:World->Prop} {v:Value} {oi:Oper} {fuel:Nat} {listed:Array Bool} {a:Act} {w:World}
theorem tkY (i:Nat) (j:S w) (l:ops[i]?=some oi) (e:∀ w,S w->(execOp a.eval oi).run P w=.ok (.value v) w) (h:wpAnyH P md ops Q S fuel (listed.setIfInBounds i true) (a.put oi.dst v) w)
 (b:Region.noSelect ops=true:=by kernel_rfl) (g:Region.free md ops listed i=true:=by kernel_rfl) (f:(Region.ready md ops listed).contains i=true:=by kernel_rfl) (k:Region.wanted oi (yielded ops a.tmps)=true:=by rfl)
 (d:∀ c a w,Q (.panic c) (a.put oi.dst v) w->Q (.panic c) a w:=by exact fun _ _ _ h=>h):wpAnyH P md ops Q S (fuel+1) listed a w:=
 za7 l b g f d (.inl ⟨k,e⟩) j h
theorem skY (i:Nat) (g:S w) (k:ops[i]?=some oi) (h:wpAnyH P md ops Q S fuel (listed.setIfInBounds i true) (a.put oi.dst undef) w)
 (b:Region.noSelect ops=true:=by kernel_rfl) (f:Region.free md ops listed i=true:=by kernel_rfl) (e:(Region.ready md ops listed).contains i=true:=by kernel_rfl) (j:Region.wanted oi (yielded ops a.tmps)=false:=by rfl)
 (d:∀ c a w,Q (.panic c) (a.put oi.dst undef) w->Q (.panic c) a w:=by exact fun _ _ _ h=>h):wpAnyH P md ops Q S (fuel+1) listed a w:=
 za7 k b f e d (.inr ⟨j,rfl⟩) g h
end
theorem SD.baseC {pd p:Nat} {d a:Dk} {N T:Nat} (h:SD K w pd p (ZbA a kind) d N T) (f:0<=kind) (b:kind<6) (j:SzD a 62 90000) (m:OkD a):Calls prog 25 #[ptr p] w fun e w'=>ZsV w (ZbA a kind).base e w':=by
 obtain⟨F,M,I,L,n,i,-⟩:=h;have k:=(Zjr (d:=a) f b).1;have l:=Zld (kind:=kind) j m;have g:(Ya a kind).length≠0:=fun e=>(Zdt (d:=a) f b).2 (zao e)
 have q:(ZbA a kind).bases.length<=63:=l;have c:Zs (ZbA a kind).base:=k;exact ZxK w i g (by omega) (by have:=ZlZ c.2.1;omega) (by have:=c.snS.2.few;omega)
theorem ZyF (e:0<=kind) (c:kind<6) {s:Sto} {d:Dk} {all:List Rec} {n:Nat} (h:JI kind (s,d) all n) (b:X0 (s,d) all n) (g:d.power=-1) (_i:n<=60) (l:List Rec) (f:l.length<=20):
 ∃ a,JI kind (Xc l (s,d)).1 a (n+1)∧X0 (Xc l (s,d)).1 a (n+1)∧(Xc l (s,d)).1.2.power=-1∧((Xc l (s,d)).2≠0->(Xc l (s,d)).1=(s,d)):=by
 obtain⟨lo,h | h⟩:=h
 case inr=>
  have j:d.power=0:=h.pw;omega
 exact⟨_,⟨lo,.inl (h.append b e c l)⟩,b.append l f,ZjH l (s,d) g,ZqM⟩
end Go.Proofs.YtnahjngbneicaaaGreatDoor
