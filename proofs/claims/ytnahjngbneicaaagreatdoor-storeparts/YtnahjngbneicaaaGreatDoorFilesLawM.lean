import Derived.Test.YtnahjngbneicaaaGreatDoorPack3
namespace Go.Proofs.YtnahjngbneicaaaGreatDoor
set_option maxRecDepth 100000
theorem ZqY (n:Int):Zgj n=true↔0<=n∧n<1048576:=by simp[Zgj]
theorem Zqn {d:Dk} (h:d.power=0) (n:Int) (b:List UInt8):Zaw d n b=(d,11):=by unfold Zaw;rw[if_pos h]
theorem ZyO {d:Dk} (h:d.power=0) (n:Int):Zcv d n=([],11):=by unfold Zcv;rw[if_pos h]
theorem ZyP {d:Dk} (h:d.power=0) (n:Int):ZdX d n=(d,11):=by unfold ZdX;rw[if_pos h]
theorem Zyb {d:Dk} (h:d.power=0) (n m:Int):Ztf d n m=(d,11):=by unfold Ztf;rw[if_pos h]
theorem Zyc {d:Dk} (h:d.power=0) (n:Int):Ztg d n=(d,11):=by unfold Ztg;rw[if_pos h]
theorem Zxg {d:Dk} (h:d.power=0):Zbd d=(d,11):=by unfold Zbd;rw[if_pos h]
theorem ZwK {p:Int} (h:p<0):ZdW p=p:=by unfold ZdW;rw[if_neg (by omega)]
theorem Zqo {d:Dk} (h:OkD d) (n:Int) (b:List UInt8):
 (Zaw d n b).1.room=d.room∧
 ((Zaw d n b).2=0∧(ZcB (Zaw d n b).1:Int)=ZcB d+b.length∧(ZcB d:Int)+b.length<=d.room∨
  (Zaw d n b).2≠0∧(Zaw d n b).1=d∧((Zaw d n b).2=10->(ZcB d:Int)+b.length>d.room)):=by
 unfold Zaw
 by_cases h0:d.power=0
 ·rw[if_pos h0];exact⟨rfl,.inr ⟨by simp,rfl,by simp⟩⟩
 rw[if_neg h0]
 by_cases h1:Zgj n=false
 ·rw[if_pos h1];exact⟨rfl,.inr ⟨by simp,rfl,by simp⟩⟩
 rw[if_neg h1]
 by_cases h2:(ZcB d:Int)+b.length>d.room
 ·rw[if_pos h2];exact⟨rfl,.inr ⟨by simp,rfl,fun _=>h2⟩⟩
 rw[if_neg h2]
 cases e:look (ZbW d) n with
 | some f=>
  refine⟨rfl,.inl ⟨rfl,?_,by omega⟩⟩
  show(ZcB (appendTo d f b):Int)=_
  rw[Zhm h e b]
  omega
 | none=>
  refine⟨rfl,.inl ⟨rfl,?_,by omega⟩⟩
  show(ZcB (appendTo (ZbL d n) d.files.length b):Int)=_
  rw[Zhm (h.fresh (by simpa using h1)) (ZkO h n) b,Zji h e]
  omega
theorem ZsO {d:Dk} (h:d.power=-1) (n:Int) (b:List UInt8):(Zaw d n b).1.power=-1:=by
 unfold Zaw
 have ht:ZdW (-1)=-1:=ZwK (by omega)
 rw[if_neg (by omega)]
 split
 ·exact h
 ·split
  ·exact h
  ·split
   ·show ZdW d.power=-1;rw[h,ht]
   ·show ZdW d.power=-1;rw[h,ht]
end Go.Proofs.YtnahjngbneicaaaGreatDoor
