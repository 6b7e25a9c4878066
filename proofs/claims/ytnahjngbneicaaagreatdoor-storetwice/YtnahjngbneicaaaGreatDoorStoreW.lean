import Derived.Test.YtnahjngbneicaaaGreatDoorStoreV
namespace Go.Proofs.YtnahjngbneicaaaGreatDoor
open _root_.Go.Proofs.Tryz
set_option maxRecDepth 100000
variable {kind:Int} {f:Nat}
theorem Zgh (first:Int):∀ (B:List (List UInt8)) (a:List Rec),(∀ r ∈ a,Qw r)->∀ r ∈ Ym first B a,Qw r
 | [],a,h=>by
  rw[Ym];exact h
 | d::t,a,h=>by
  rw[Zbt]
  cases hd:ZdE d with
  | none=>exact h
  | some l=>
   dsimp only
   split
   ·refine Zgh first t (a++l) fun r hr=>?_
    rcases List.mem_append.1 hr with hr | hr
    ·exact h r hr
    ·exact(Zfj hd).1.2.2.1 r hr
   ·exact h
theorem ZwF {H:List UInt8} (a:Zca H kind=some f):f<4611686018427387904:=by
 unfold Zca at a;split at a
 ·rename_i v k c b
  split at a
  ·have:=(Zck b).2.2.2.2
   rw[<-Option.some.inj a];exact this
  ·cases a
 ·cases a
theorem ZuQ {b:List UInt8} {l:List Rec} (h:Zvp b kind=some (f,l)):f<4611686018427387904∧∀ r ∈ l,Qw r:=by
 rw[Zpg] at h;unfold ZuH at h
 cases hL:(Qm b).1 with
 | nil=>rw[hL] at h;cases h
 | cons H B=>
  rw[hL] at h
  dsimp only at h
  cases hh:Zca H kind with
  | none=>rw[hh] at h;cases h
  | some d=>
   rw[hh] at h;have c:=Option.some.inj h
   injection c with e1 e2
   subst e1;exact⟨ZwF hh,by rw[<-e2];exact Zgh _ B [] fun r a=>by cases a⟩
end Go.Proofs.YtnahjngbneicaaaGreatDoor
