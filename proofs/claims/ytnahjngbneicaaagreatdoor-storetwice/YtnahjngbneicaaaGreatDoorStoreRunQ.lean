import Derived.Test.YtnahjngbneicaaaGreatDoorStoreRunP
import Derived.Test.YtnahjngbneicaaaGreatDoorFilesKeepM
namespace Go.Proofs.YtnahjngbneicaaaGreatDoor
open _root_.Go.Proofs.Tryz
set_option maxRecDepth 100000
theorem Zvm {x:Fl} (h:x.b.length=x.k):Zjv x 0=x:=by
 unfold Zjv
 have e:Zx 0 (x.b.length-x.k)=0:=by
  unfold Zx;rw[if_neg (by decide)]
  simp
 rw[e,Nat.add_zero,<-h,List.take_length,h]
theorem ZyO (fs:List Fl) (f:Nat):fs.set f (fl fs f)=fs:=by
 by_cases a:f<fs.length
 ·have e:fl fs f=fs[f]:=by unfold fl;simp[List.getD,a]
  rw[e,List.set_getElem_self]
 ·rw[List.set_eq_of_length_le (by omega)]
theorem ZiQ:∀ (l:Dir) (i:Nat) (fs:List Fl),(∀ p ∈ l,(fl fs p.2).b.length=(fl fs p.2).k)->Qu [] l i fs=fs
 | [],_,_,_=>rfl
 | p::l,i,fs,h=>by
  have e:Zgl [] i=0:=by unfold Zgl;rfl
  rw[Qu,e,Zvm (h p List.mem_cons_self),ZyO];exact ZiQ l (i+1) fs fun q a=>h q (List.mem_cons_of_mem _ a)
theorem ZpC {d:Dk} (h:OkD d) (names:Int) (keep:List Int):Zl (Zl d names keep) 0 []=Zl d names keep:=by
 have a:=h.dirs (Zx names d.waits.length);obtain⟨l,b⟩:∃ l,l=Zy d (Zx names d.waits.length):=⟨_,rfl⟩;have f:Zl d names keep={ d with files:=Qu keep l 0 d.files,kept:=l,waits:=[],power:=-1 }:=by rw[b];rfl
 rw[<-b] at a;rw[f]
 have e:Qu [] l 0 (Qu keep l 0 d.files)=Qu keep l 0 d.files:=ZiQ l 0 _ fun p c=>by
  obtain⟨i,g⟩:=Zkq keep 0 a.apart ⟨p.1,c⟩ (a.may p c).2;rw[g];exact ZpF (ZgN h.keep _) _
 show({ room:=d.room,files:=Qu [] l 0 (Qu keep l 0 d.files),kept:=l,waits:=[],power:=-1 }:Dk)=_;rw[e]
theorem Zgk (keep:List Int) {B:Nat}:∀ (l:Dir) (i:Nat) (fs:List Fl),(∀ x ∈ fs,x.b.length<=B)->∀ x ∈ Qu keep l i fs,x.b.length<=B
 | [],_,_,h=>h
 | p::l,i,fs,h=>by
  rw[Qu];refine Zgk keep l (i+1) _ fun x a=>?_
  rcases List.mem_or_eq_of_mem_set a with a | rfl
  ·exact h x a
  ·have c:(fl fs p.2).b.length<=B:=by
    by_cases c:p.2<fs.length
    ·exact h _ (ZbE c)
    ·unfold fl
     rw[List.getD,List.getElem?_eq_none (by omega)]
     exact Nat.zero_le _
   unfold Zjv;show((fl fs p.2).b.take _).length<=B;rw[List.length_take];omega
theorem SzD.crash {d:Dk} {F B:Nat} (h:SzD d F B) (names:Int) (keep:List Int):SzD (Zl d names keep) F B:=
 ⟨by show(Qu keep _ 0 d.files).length<=F;rw[Jj];exact h.files,Zgk keep _ 0 _ h.bytes⟩
theorem X5.szOpen {x:SDk} {b:List Rec} {n:Nat} (h:X5 x b n) (a:n<=62):SzD x.2 62 90000:=h.sz.more a (by omega)
end Go.Proofs.YtnahjngbneicaaaGreatDoor
