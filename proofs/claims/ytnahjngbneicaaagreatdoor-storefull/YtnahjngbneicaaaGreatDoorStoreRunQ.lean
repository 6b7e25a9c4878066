import Derived.Test.YtnahjngbneicaaaGreatDoorStoreRunP
import Derived.Test.YtnahjngbneicaaaGreatDoorFilesKeepM
namespace Go.Proofs.YtnahjngbneicaaaGreatDoor
set_option linter.unusedSimpArgs false
open _root_.Go.Proofs.Tryz
set_option maxRecDepth 100000
theorem ZgJ (keep:List Int) {B:Nat}:∀ (l:Dir) (i:Nat) (fs:List Fl),(∀ x ∈ fs,x.b.length<=B)->∀ x ∈ Xd keep l i fs,x.b.length<=B
 | [],_,_,h=>h
 | p::l,i,fs,h=>by
  rw[Xd];refine ZgJ keep l (i+1) _ fun x a=>?_
  rcases zcs a with a | rfl
  ·exact h x a
  ·have c:(fl fs p.2).b.length<=B:=by
    by_cases c:p.2<fs.length
    ·exact h _ (ZbI c)
    ·unfold fl
     rw[List.getD,zbw (by omega)]
     exact zap _
   unfold Zlt;show((fl fs p.2).b.take _).length<=B;rw[zb5];omega
theorem SzD.crash {d:Dk} {F B:Nat} (h:SzD d F B) (names:Int) (keep:List Int):SzD (Jc d names keep) F B:=
 ⟨by show(Xd keep _ 0 d.files).length<=F;rw[Gn];exact h.files,ZgJ keep _ 0 _ h.bytes⟩
theorem X0.szOpen {x:SDk} {all:List Rec} {n:Nat} (h:X0 x all n) (a:n<=62):SzD x.2 62 90000:=h.sz.more a (by omega)
end Go.Proofs.YtnahjngbneicaaaGreatDoor
