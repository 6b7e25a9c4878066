import Derived.Test.YtnahjngbneicaaaGreatDoorStoreRunL
namespace Go.Proofs.YtnahjngbneicaaaGreatDoor
set_option maxRecDepth 100000
open Go.RowKit
def Zig (P:Nat->Prop) (W:World) (d1 p1:Nat) (x1:SDk) (N1 T1:Nat) (d2 p2:Nat) (x2:SDk) (N2 T2:Nat):Prop:=
 ∃ Z:Nat->Prop,SD (fun k=>P k∨¬ Z k) W d1 p1 x1.1 x1.2 N1 T1∧SD (fun k=>P k∨Z k) W d2 p2 x2.1 x2.2 N2 T2
theorem Zig.swap {P:Nat->Prop} {W:World} {d1 p1:Nat} {x1:SDk} {N1 T1 d2 p2:Nat} {x2:SDk} {N2 T2:Nat} (h:Zig P W d1 p1 x1 N1 T1 d2 p2 x2 N2 T2):Zig P W d2 p2 x2 N2 T2 d1 p1 x1 N1 T1:=by
 obtain⟨Z,h1,h2⟩:=h
 exact⟨fun k=>¬ Z k,h2.less (fun k hk=>hk.imp id fun hh=>Classical.not_not.1 hh),h1⟩
theorem Zig.below {P:Nat->Prop} {W W':World} {d1 p1:Nat} {x1:SDk} {N1 T1 d2 p2:Nat} {x2:SDk} {N2 T2:Nat} (h:Zig P W d1 p1 x1 N1 T1 d2 p2 x2 N2 T2) (hb:Below W.heap.size W W'):Zig P W' d1 p1 x1 N1 T1 d2 p2 x2 N2 T2:=by
 obtain⟨Z,h1,h2⟩:=h
 exact⟨Z,h1.below hb,h2.below hb⟩
theorem Zig.less {P P':Nat->Prop} {W:World} {d1 p1:Nat} {x1:SDk} {N1 T1 d2 p2:Nat} {x2:SDk} {N2 T2:Nat} (h:Zig P W d1 p1 x1 N1 T1 d2 p2 x2 N2 T2) (hP:∀ k,P' k->P k):Zig P' W d1 p1 x1 N1 T1 d2 p2 x2 N2 T2:=by
 obtain⟨Z,h1,h2⟩:=h
 exact⟨Z,h1.less (fun k hk=>hk.imp (hP k) id),h2.less (fun k hk=>hk.imp (hP k) id)⟩
theorem Zig.mono {P:Nat->Prop} {W:World} {d1 p1:Nat} {x1:SDk} {N1 T1 d2 p2:Nat} {x2:SDk} {N2 T2 N1' T1' N2' T2':Nat} (h:Zig P W d1 p1 x1 N1 T1 d2 p2 x2 N2 T2) (a:N1<=N1') (b:T1<=T1') (c:N2<=N2') (e:T2<=T2'):Zig P W d1 p1 x1 N1' T1' d2 p2 x2 N2' T2':=by
 obtain⟨Z,h1,h2⟩:=h
 exact⟨Z,h1.mono a b,h2.mono c e⟩
theorem Zig.fresh {P:Nat->Prop} {W W':World} {d1 p1:Nat} {x1:SDk} {N1 T1 d2 p2:Nat} {x2:SDk} {N2 T2:Nat} (h:Zig P W d1 p1 x1 N1 T1 d2 p2 x2 N2 T2) (hb:Below W.heap.size W W'):Zig (fun k=>P k∨(W.heap.size<=k∧k<W'.heap.size)) W' d1 p1 x1 N1 T1 d2 p2 x2 N2 T2:=by
 obtain⟨Z,h1,h2⟩:=h
 refine⟨Z,(h1.fresh hb).less fun k hk=>?_,(h2.fresh hb).less fun k hk=>?_⟩
 ·rcases hk with (hk | hk) | hk
  ·exact .inl (.inl hk)
  ·exact .inr hk
  ·exact .inl (.inr hk)
 ·rcases hk with (hk | hk) | hk
  ·exact .inl (.inl hk)
  ·exact .inr hk
  ·exact .inl (.inr hk)
theorem Zig.call {P:Nat->Prop} {W:World} {d1 p1:Nat} {x1:SDk} {N1 T1 d2 p2:Nat} {x2:SDk} {N2 T2:Nat} (h:Zig P W d1 p1 x1 N1 T1 d2 p2 x2 N2 T2) (hP:∀ k,P k->k<W.heap.size):
 ∃ K:Nat->Prop,(∀ k,K k->k<W.heap.size)∧(∀ k,P k->K k)∧SD K W d1 p1 x1.1 x1.2 N1 T1∧∀ (W':World) (y:SDk) (N T:Nat),SD K W' d1 p1 y.1 y.2 N T->ZaE (fun k=>¬ K k) W W'->Zig P W' d1 p1 y N T d2 p2 x2 N2 T2:=by
 obtain⟨Z,h1,h2⟩:=h
 refine⟨fun k=>(P k∨¬ Z k)∧k<W.heap.size,fun k hk=>hk.2,fun k hk=>⟨.inl hk,hP k hk⟩,h1.less (fun k hk=>hk.1),fun W' y N T hs ho=>⟨fun k=>(Z k∧k<W.heap.size)∨W.heap.size<=k,hs.less fun k hk=>?_,?_⟩⟩
 ·rcases hk with hk | hk
  ·exact⟨.inl hk,hP k hk⟩
  ·have hlt:k<W.heap.size:=by
    apply Classical.byContradiction
    intro hh
    exact hk (.inr (by omega))
   exact⟨.inr fun hz=>hk (.inl ⟨hz,hlt⟩),hlt⟩
 ·have ho2:ZaE (fun k=>P k∨Z k) W W':=⟨ho.os,ho.tape,ho.output,ho.size,fun k hk hn=>ho.block k hk (fun hh=>hh ⟨.inr fun hz=>hn (.inr hz),hk⟩)⟩
  refine(h2.grown ho2).less fun k hk=>?_
  rcases hk with hk | ⟨hk,-⟩ | hk
  ·exact .inl (.inl hk)
  ·exact .inl (.inr hk)
  ·exact .inr hk
theorem ZwR {B b c:Nat} {W1 W2:World} {d1 p1 d2 p2:Nat} {x1 x2:SDk} {N1 T1 N2 T2:Nat} (h1:SD (fun k=>k<B∨(b<=k∧k<c)) W1 d1 p1 x1.1 x1.2 N1 T1) (h2:SD (fun k=>k<b∨(c<=k∧k<W1.heap.size)) W2 d2 p2 x2.1 x2.2 N2 T2) (hB:B<=b) (hb:Below W1.heap.size W1 W2):Zig (fun k=>k<B) W2 d1 p1 x1 N1 T1 d2 p2 x2 N2 T2:=by
 refine⟨fun k=>¬ (b<=k∧k<c)∧k<W1.heap.size,?_,h2.less fun k hk=>?_⟩
 ·refine((h1.grown (ZaE.refl _ _)).below hb).less fun k hk=>?_
  rcases hk with hk | hk
  ·exact .inl (.inl hk)
  ·by_cases h:b<=k∧k<c
   ·exact .inl (.inr h)
   ·by_cases h':k<W1.heap.size
    ·exact absurd ⟨h,h'⟩ hk
    ·exact .inr (by omega)
 ·rcases hk with hk | ⟨hk,hk2⟩
  ·exact .inl (by omega)
  ·by_cases h:k<b
   ·exact .inl h
   ·by_cases h':k<c
    ·exact absurd ⟨by omega,h'⟩ hk
    ·exact .inr ⟨by omega,hk2⟩
theorem ZwS (w:World) (ao:Option Addr) (l:List Rec) (cap:Nat) (hr:RdR w (.slice ao l.length cap) l) (i j:Nat) (hij:i<=j) (hj:j<=l.length):
 ∃ a' c',RdR w (.slice a' (j-i) c') ((l.drop i).take (j-i))∧(∀ k,(Value.slice a' (j-i) c').ownBlock=some k->(Value.slice ao l.length cap).ownBlock=some k)∧∀ x y:Int,x=(i:Int)->y=(j:Int)->∀ W,(Instr.sliceAt 29 (.slice ao l.length cap) (some (.int .i64 x)) (some (.int .i64 y)) none).run Tryz.prog W=.ok (.slice a' (j-i) c') W:=by
 have hlc:l.length<=cap:=by
  obtain⟨a,c,e,h,-⟩:=hr
  simp only [Value.slice.injEq] at e
  omega
 have h:=hr.mid i j cap hij hj (by omega) zL
 unfold sliced at h
 refine⟨_,_,h,fun k hk=>?_,fun x y hx hy W=>?_⟩
 ·cases ao with
  | none=>
   split at hk
   ·cases hk
   ·cases hk
  | some a=>
   have e:(a.add (i*7)).block=a.block:=by
    unfold Addr.add
    split <;> rfl
   split at hk
   ·exact hk
   ·have hk':some (a.add (i*7)).block=some k:=hk
    rw[e] at hk'
    exact hk'
 ·subst hx hy
  rw[run_sliceAt_slice W 29 _ _ _ _ Zds,run_slice_lh W 29 ao l.length cap Zds .i64 .i64 (i:Int) (j:Int) (by omega) (by omega) (by omega),ZgB,Zmc]
  rfl
end Go.Proofs.YtnahjngbneicaaaGreatDoor
