import Derived.Test.YtnahjngbneicaaaGreatDoorStoreRunP
import Derived.Test.YtnahjngbneicaaaGreatDoorFilesKeepM
namespace Go.Proofs.YtnahjngbneicaaaGreatDoor
open _root_.Go.Proofs.Tryz
set_option maxRecDepth 100000
theorem ZgA (keep:List Int) {B:Nat}:∀ (l:Dir) (i:Nat) (fs:List Fl),(∀ x ∈ fs,x.b.length<=B)->∀ x ∈ Xb keep l i fs,x.b.length<=B
 | [],_,_,h=>h
 | p::l,i,fs,h=>by
  rw[Xb];refine ZgA keep l (i+1) _ fun x a=>?_
  rcases List.mem_or_eq_of_mem_set a with a | rfl
  ·exact h x a
  ·have c:(fl fs p.2).b.length<=B:=by
    by_cases c:p.2<fs.length
    ·exact h _ (ZbH c)
    ·unfold fl
     rw[List.getD,List.getElem?_eq_none (by omega)]
     exact Nat.zero_le _
   unfold Zlc;show((fl fs p.2).b.take _).length<=B;rw[List.length_take];omega
theorem SzD.crash {d:Dk} {F B:Nat} (h:SzD d F B) (names:Int) (keep:List Int):SzD (G7 d names keep) F B:=
 ⟨by show(Xb keep _ 0 d.files).length<=F;rw[Gi];exact h.files,ZgA keep _ 0 _ h.bytes⟩
theorem X4.szOpen {x:SDk} {all:List Rec} {n:Nat} (h:X4 x all n) (a:n<=62):SzD x.2 62 90000:=h.sz.more a (by omega)
end Go.Proofs.YtnahjngbneicaaaGreatDoor
