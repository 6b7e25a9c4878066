import Derived.Test.YtnahjngbneicaaaGreatDoorStoreV
namespace Go.Proofs.YtnahjngbneicaaaGreatDoor
set_option maxRecDepth 100000
theorem Zid (first:Int):∀ (B:List (List UInt8)) (acc:List Rec),(∀ r ∈ acc,ZaF r)->∀ r ∈ Zbl first B acc,ZaF r
 | [],acc,h=>by
  rw[Zbl]
  exact h
 | d::t,acc,h=>by
  rw[ZdV]
  cases hd:ZfS d with
  | none=>exact h
  | some l=>
   dsimp only
   split
   ·refine Zid first t (acc++l) fun r hr=>?_
    rcases List.mem_append.1 hr with hr | hr
    ·exact h r hr
    ·exact(Zhk hd).1.2.2.1 r hr
   ·exact h
theorem ZwH {H:List UInt8} {kind:Int} {f:Nat} (hh:Zeu H kind=some f):f<4611686018427387904:=by
 unfold Zeu at hh
 split at hh
 ·rename_i v k f' hrd
  split at hh
  ·have:=(ZeA hrd).2.2.2.2
   rw[<-Option.some.inj hh]
   exact this
  ·cases hh
 ·cases hh
theorem Zvb {b:List UInt8} {kind:Int} {f:Nat} {l:List Rec} (h:Zvv b kind=some (f,l)):f<4611686018427387904∧∀ r ∈ l,ZaF r:=by
 rw[Zqd] at h
 unfold ZuY at h
 cases hL:(Zal b).1 with
 | nil=>rw[hL] at h;cases h
 | cons H B=>
  rw[hL] at h
  dsimp only at h
  cases hh:Zeu H kind with
  | none=>rw[hh] at h;cases h
  | some f'=>
   rw[hh] at h
   have h2:=Option.some.inj h
   injection h2 with e1 e2
   subst e1
   exact⟨ZwH hh,by rw[<-e2];exact Zid _ B [] fun r hr=>by cases hr⟩
end Go.Proofs.YtnahjngbneicaaaGreatDoor
