import Derived.Test.YtnahjngbneicaaaGreatDoorStoreV
namespace Go.Proofs.YtnahjngbneicaaaGreatDoor
open _root_.Go.Proofs.Tryz
set_option maxRecDepth 100000
variable {kind:Int} {f:Nat}
theorem Zjx (first:Int):∀ (B:List (List UInt8)) (a:List Rec),(∀ r ∈ a,ZaA r)->∀ r ∈ Zby first B a,ZaA r
 | [],a,h=>by
  rw[Zby];exact h
 | d::t,a,h=>by
  rw[ZeE]
  cases hd:ZgU d with
  | none=>exact h
  | some l=>
   dsimp only
   split
   ·refine Zjx first t (a++l) fun r hr=>?_
    rcases List.mem_append.1 hr with hr | hr
    ·exact h r hr
    ·exact(Ziz hd).1.2.2.1 r hr
   ·exact h
theorem ZzV {H:List UInt8} (a:Zfp H kind=some f):f<4611686018427387904:=by
 unfold Zfp at a;split at a
 ·rename_i v k c b
  split at a
  ·have:=(Zfz b).2.2.2.2
   rw[<-Option.some.inj a];exact this
  ·cases a
 ·cases a
theorem Zyg {b:List UInt8} {l:List Rec} (h:ZyF b kind=some (f,l)):f<4611686018427387904∧∀ r ∈ l,ZaA r:=by
 rw[Zsw] at h;unfold ZxX at h
 cases hL:(Zao b).1 with
 | nil=>rw[hL] at h;cases h
 | cons H B=>
  rw[hL] at h
  dsimp only at h
  cases hh:Zfp H kind with
  | none=>rw[hh] at h;cases h
  | some d=>
   rw[hh] at h;have c:=Option.some.inj h
   injection c with e1 e2
   subst e1;exact⟨ZzV hh,by rw[<-e2];exact Zjx _ B [] fun r a=>by cases a⟩
end Go.Proofs.YtnahjngbneicaaaGreatDoor
