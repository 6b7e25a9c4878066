import Derived.Test.YtnahjngbneicaaaGreatDoorStoreRunP
import Derived.Test.YtnahjngbneicaaaGreatDoorFilesKeepM
namespace Go.Proofs.YtnahjngbneicaaaGreatDoor
open _root_.Go.Proofs.Tryz
set_option maxRecDepth 100000
theorem ZyC {x:Fl} (h:x.b.length=x.k):ZmL x 0=x:=by
 unfold ZmL
 have e:Zcv 0 (x.b.length-x.k)=0:=by
  unfold Zcv;rw[if_neg (by decide)]
  simp
 rw[e,Nat.add_zero,<-h,List.take_length,h]
theorem ZCe (fs:List Fl) (f:Nat):fs.set f (fl fs f)=fs:=by
 by_cases a:f<fs.length
 ·have e:fl fs f=fs[f]:=by unfold fl;simp[List.getD,a]
  rw[e,List.set_getElem_self]
 ·rw[List.set_eq_of_length_le (by omega)]
theorem Zmg:∀ (l:Dir) (i:Nat) (fs:List Fl),(∀ p ∈ l,(fl fs p.2).b.length=(fl fs p.2).k)->Zaw [] l i fs=fs
 | [],_,_,_=>rfl
 | p::l,i,fs,h=>by
  have e:ZjB [] i=0:=by unfold ZjB;rfl
  rw[Zaw,e,ZyC (h p List.mem_cons_self),ZCe];exact Zmg l (i+1) fs fun q a=>h q (List.mem_cons_of_mem _ a)
theorem ZsS {d:Dk} (h:OkD d) (names:Int) (keep:List Int):Zco (Zco d names keep) 0 []=Zco d names keep:=by
 have a:=h.dirs (Zcv names d.waits.length);obtain⟨l,b⟩:∃ l,l=ZeF d (Zcv names d.waits.length):=⟨_,rfl⟩;have f:Zco d names keep={ d with files:=Zaw keep l 0 d.files,kept:=l,waits:=[],power:=-1 }:=by rw[b];rfl
 rw[<-b] at a;rw[f]
 have e:Zaw [] l 0 (Zaw keep l 0 d.files)=Zaw keep l 0 d.files:=Zmg l 0 _ fun p c=>by
  obtain⟨i,g⟩:=ZnG keep 0 a.apart ⟨p.1,c⟩ (a.may p c).2;rw[g];exact ZsV (Zkd h.keep _) _
 show({ room:=d.room,files:=Zaw [] l 0 (Zaw keep l 0 d.files),kept:=l,waits:=[],power:=-1 }:Dk)=_;rw[e]
theorem ZjA (keep:List Int) {B:Nat}:∀ (l:Dir) (i:Nat) (fs:List Fl),(∀ x ∈ fs,x.b.length<=B)->∀ x ∈ Zaw keep l i fs,x.b.length<=B
 | [],_,_,h=>h
 | p::l,i,fs,h=>by
  rw[Zaw];refine ZjA keep l (i+1) _ fun x a=>?_
  rcases List.mem_or_eq_of_mem_set a with a | rfl
  ·exact h x a
  ·have c:(fl fs p.2).b.length<=B:=by
    by_cases c:p.2<fs.length
    ·exact h _ (ZeS c)
    ·unfold fl
     rw[List.getD,List.getElem?_eq_none (by omega)]
     exact Nat.zero_le _
   unfold ZmL;show((fl fs p.2).b.take _).length<=B;rw[List.length_take];omega
theorem SzD.crash {d:Dk} {F B:Nat} (h:SzD d F B) (names:Int) (keep:List Int):SzD (Zco d names keep) F B:=
 ⟨by show(Zaw keep _ 0 d.files).length<=F;rw[Zci];exact h.files,ZjA keep _ 0 _ h.bytes⟩
theorem ZcB.szOpen {x:SDk} {b:List Rec} {n:Nat} (h:ZcB x b n) (a:n<=62):SzD x.2 62 90000:=h.sz.more a (by omega)
end Go.Proofs.YtnahjngbneicaaaGreatDoor
