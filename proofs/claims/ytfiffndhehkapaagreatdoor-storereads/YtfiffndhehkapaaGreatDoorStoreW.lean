import Derived.Test.YtfiffndhehkapaaGreatDoorStoreV
namespace Go.Proofs.YtfiffndhehkapaaGreatDoor
set_option maxRecDepth 100000
theorem Zjc (first:Int):∀ (B:List (List UInt8)) (acc:List Rec),(∀ r ∈ acc,Zaz r)->∀ r ∈ Zbx first B acc,Zaz r
 | [],acc,h=>by
  rw[Zbx]
  exact h
 | d::t,acc,h=>by
  rw[Zex]
  cases hd:ZgH d with
  | none=>exact h
  | some l=>
   dsimp only
   split
   ·refine Zjc first t (acc++l) fun r hr=>?_
    rcases List.mem_append.1 hr with hr | hr
    ·exact h r hr
    ·exact(Zii hd).1.2.2.1 r hr
   ·exact h
theorem ZyX {H:List UInt8} {kind:Int} {f:Nat} (hh:Zfe H kind=some f):f<4611686018427387904:=by
 unfold Zfe at hh
 split at hh
 ·rename_i v k f' hrd
  split at hh
  ·have:=(Zfn hrd).2.2.2.2
   rw[<-Option.some.inj hh]
   exact this
  ·cases hh
 ·cases hh
theorem Zxi {b:List UInt8} {kind:Int} {f:Nat} {l:List Rec} (h:ZxK b kind=some (f,l)):f<4611686018427387904∧∀ r ∈ l,Zaz r:=by
 rw[ZrN] at h
 unfold ZwZ at h
 cases hL:(Zao b).1 with
 | nil=>rw[hL] at h;cases h
 | cons H B=>
  rw[hL] at h
  dsimp only at h
  cases hh:Zfe H kind with
  | none=>rw[hh] at h;cases h
  | some f'=>
   rw[hh] at h
   have h2:=Option.some.inj h
   injection h2 with e1 e2
   subst e1
   exact⟨ZyX hh,by rw[<-e2];exact Zjc _ B [] fun r hr=>by cases hr⟩
end Go.Proofs.YtfiffndhehkapaaGreatDoor
