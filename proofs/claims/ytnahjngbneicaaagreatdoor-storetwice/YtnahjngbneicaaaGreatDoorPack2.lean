import Derived.Test.YtnahjngbneicaaaGreatDoorPack1
import Derived.Shelf.SlMaps.Clone
import Derived.Shelf.SlMaps.Copy
import Derived.Shelf.Sort.Plain
import Derived.Shelf.Slices.In.SortNone
namespace Go.Proofs.YtnahjngbneicaaaGreatDoor
open _root_.Go.Proofs.Tryz
open List (append_assoc cons_append drop_drop drop_left eq_nil_of_length_eq_zero length_append length_cons length_drop length_nil length_take pairwise_cons take_append_drop take_of_length_le)
set_option maxRecDepth 100000
variable {d l:List UInt8} {b k n x:Nat} {i j:Int} {s:St} {a w w':World} {v:Value} {f:Int->Option Nat} {F G:Nat->Prop} {t:TypeId} {cs:Array Value} {xs:List Value}
structure Rec where
 idx:Int
 proc:Int
 seq:Int
 op:Opn
 resp:Int
def Zaj:Rec:=⟨0,0,0,⟨0,0,0⟩,0⟩
def ZaA (r:Rec):Prop:=Zdy r.op∧0<=r.idx∧r.idx<4611686018427387904∧0<=r.seq∧r.seq<4611686018427387904∧0<=r.proc∧r.proc<=64∧-1125899906842624<=r.resp∧r.resp<=1125899906842624
instance (r:Rec):Decidable (ZaA r):=by unfold ZaA;infer_instance
def ZCj (v f:Nat):Prop:=f=1∨f=2∨f=4∨(f=3∧2<=v)∨(f=5∧v=3)
instance (v f:Nat):Decidable (ZCj v f):=by unfold ZCj;infer_instance
def ZBx (r:Rec) (f:Nat):List UInt8:=
 if f=1 then Lib.uvarint r.idx.toNat else if f=2 then Lib.uvarint r.proc.toNat else if f=3 then Lib.uvarint r.seq.toNat
 else if f=4 then ZaX r.op else Lib.uvarint (Lib.zigzag r.resp)
def Zwq (r:Rec) (f:Nat) (l:List UInt8):Rec × Nat:=
 if f=1 then({ r with idx:=((Zab l).1:Int) },(Zab l).2) else if f=2 then({ r with proc:=((Zab l).1:Int) },(Zab l).2)
 else if f=3 then({ r with seq:=((Zab l).1:Int) },(Zab l).2) else if f=4 then({ r with op:=(ZaC l).1 },(ZaC l).2)
 else({ r with resp:=zag (Zah l).1 },(Zah l).2)
set_option linter.unusedVariables false in
def ZAz (v:Nat) (l:List UInt8) (last:Int) (found:Nat) (r:Rec):Except Int (Rec × Nat):=
 if hl:l=[] then .ok (r,found)
 else if hk:(Zab l).2=0∨((Zab l).1:Int)<=last then .error 3
 else if ZCj v (Zab l).1 then
  if(Zwq r (Zab l).1 (l.drop (Zab l).2)).2=0 then .error 3
  else ZAz v (l.drop ((Zab l).2+(Zwq r (Zab l).1 (l.drop (Zab l).2)).2)) (Zab l).1 (found+1) (Zwq r (Zab l).1 (l.drop (Zab l).2)).1
 else if(Zab l).1<16∨v=3 then .error 7
 else if(Zab (l.drop (Zab l).2)).2=0∨l.length<(Zab l).2+(Zab (l.drop (Zab l).2)).2+(Zab (l.drop (Zab l).2)).1 then .error 3
 else ZAz v (l.drop ((Zab l).2+(Zab (l.drop (Zab l).2)).2+(Zab (l.drop (Zab l).2)).1)) (Zab l).1 found r
termination_by l.length
decreasing_by
 all_goals
  have h1:l.length≠0:=by simpa using hl
  have h2:(Zab l).2≠0:=fun e=>hk (.inl e)
  rw[length_drop];omega
def decR (l:List UInt8):Rec × Int:=
 if l=[] then(Zaj,2)
 else if(Zab l).2=0 then(Zaj,3)
 else if(Zab l).1<1∨3<(Zab l).1 then(Zaj,6)
 else match ZAz (Zab l).1 (l.drop (Zab l).2) (-1) 0 Zaj with
  | .error e=>(Zaj,e)
  | .ok (r,found)=>if found≠(Zab l).1+2 then(Zaj,7) else if ZaA r then(r,0) else(Zaj,1)
def ZAA (v:Int):List Nat:=if v=1 then[1,2,4] else if v=2 then[1,2,3,4] else[1,2,3,4,5]
def ZBy (r:Rec):List Nat->List UInt8
 | []=>[]
 | f::fs=>Lib.uvarint f++(ZBx r f++ZBy r fs)
def encR (v:Int) (r:Rec):List UInt8:=Lib.uvarint v.toNat++ZBy r (ZAA v)
theorem ZdY {r:Rec} (h:ZaA r):I64 r.resp:=Zai (by have:=h.2.2.2.2.2.2.2.1;omega) (by have:=h.2.2.2.2.2.2.2.2;omega)
theorem ZbD (h:(Zab l).2≠0):Lib.uvarint (Zab l).1=l.take (Zab l).2:=by
 rcases Zay l with e | e
 ·rw[e] at h;exact absurd rfl h
 ·exact e.2.2.2.symm
theorem ZmN (h:(Zah l).2≠0):Lib.uvarint (Zah l).1=l.take (Zah l).2:=by
 rcases ZbO l with e | e
 ·rw[e] at h;exact absurd rfl h
 ·exact e.2.2.2.symm
def ZtZ (x:Nat):Nat:=if x % 2=1 then x / 2 ^^^ 2197175160 else x / 2
def ZdM:Nat->Nat->Nat
 | 0,x=>x
 | n+1,x=>ZdM n (ZtZ x)
def Zgz (c:Nat):Nat:=ZdM 8 c
def ZgR (x c:Nat):Nat:=Zgz ((x ^^^ c) % 256) ^^^ x / 256
def Zev:Nat->List UInt8->Nat
 | x,[]=>x
 | x,c::r=>Zev (ZgR x c.toNat) r
def Zaz (sum:Nat) (l:List UInt8):Nat:=Zev (sum ^^^ 4294967295) l ^^^ 4294967295
theorem ZyM (a b:Nat):(a ^^^ b) % 2=(a % 2+b % 2) % 2:=by
 have h:=@Nat.xor_mod_two_pow a b 1;simp only [Nat.pow_one] at h;rw[h];rcases Nat.mod_two_eq_zero_or_one a with ha | ha <;> rcases Nat.mod_two_eq_zero_or_one b with hb | hb <;> rw[ha,hb] <;> rfl
theorem ZyN (a b:Nat):(a ^^^ b) / 2=a / 2 ^^^ b / 2:=by
 have h:=@Nat.shiftRight_xor_distrib 1 a b;simpa[Nat.shiftRight_eq_div_pow] using h
theorem Zre (a b p:Nat):(a ^^^ p) ^^^ (b ^^^ p)=a ^^^ b:=by
 rw[Nat.xor_comm b p,<-Nat.xor_assoc,Nat.xor_assoc a p p,Nat.xor_self,Nat.xor_zero]
theorem ZyO (a b:Nat):ZtZ (a ^^^ b)=ZtZ a ^^^ ZtZ b:=by
 unfold ZtZ;rw[ZyM,ZyN];rcases Nat.mod_two_eq_zero_or_one a with ha | ha <;> rcases Nat.mod_two_eq_zero_or_one b with hb | hb <;> simp only [ha,hb]
 ·rfl
 ·simp[Nat.xor_assoc]
 ·simp only [if_true,if_false,Nat.zero_ne_one]
  rw[Nat.xor_assoc,Nat.xor_assoc,Nat.xor_comm (b / 2)]
 ·simp[Zre]
theorem Zpc:∀ (n a b:Nat),ZdM n (a ^^^ b)=ZdM n a ^^^ ZdM n b
 | 0,_,_=>rfl
 | n+1,a,b=>by
  simp only [ZdM];rw[ZyO,Zpc n]
theorem Zpd:∀ (m n x:Nat),ZdM (m+n) x=ZdM n (ZdM m x)
 | 0,n,x=>by rw[Nat.zero_add];rfl
 | m+1,n,x=>by
  rw[Nat.add_right_comm];simp only [ZdM];exact Zpd m n (ZtZ x)
theorem Zwr (x:Nat):ZtZ (2*x)=x:=by
 unfold ZtZ;rw[if_neg (by omega)]
 omega
theorem Zpe:∀ (n x:Nat),ZdM n (2 ^ n*x)=x
 | 0,x=>by simp[ZdM]
 | n+1,x=>by
  simp only [ZdM];rw[Nat.pow_succ,Nat.mul_comm (2 ^ n) 2,Nat.mul_assoc,Zwr];exact Zpe n x
theorem ZAB (b:32<=n) (h:x<2 ^ n):ZtZ x<2 ^ n:=by
 unfold ZtZ;have a:x / 2<2 ^ n:=by omega
 split
 ·refine Nat.xor_lt_two_pow a (Nat.lt_of_lt_of_le (by decide:2197175160<2 ^ 32) (Nat.pow_le_pow_right (by decide) b))
 ·exact a
theorem ZnN:∀ (k:Nat) {n x:Nat},32<=n->x<2 ^ n->ZdM k x<2 ^ n
 | 0,_,_,_,h=>h
 | k+1,_,_,hn,h=>ZnN k hn (ZAB hn h)
theorem ZyP (z n:Nat):z=z % 2 ^ n ^^^ 2 ^ n*(z / 2 ^ n):=by
 apply Nat.eq_of_testBit_eq;intro i;rw[Nat.testBit_xor,Nat.testBit_mod_two_pow,Nat.testBit_two_pow_mul];by_cases h:i<n
 ·have a:¬ n<=i:=by omega
  simp[h,a]
 ·have a:n<=i:=by omega
  simp only [h,a,decide_false,decide_true,Bool.false_and,Bool.true_and,Bool.false_xor,Nat.testBit_div_two_pow];rw[Nat.sub_add_cancel a]
theorem ZnO (x c:Nat) (b:c<256):ZgR x c=ZdM 8 (x ^^^ c):=by
 have e:(x ^^^ c) / 256=x / 256:=by
  have h:=@Nat.shiftRight_xor_distrib 8 x c;simp only [Nat.shiftRight_eq_div_pow] at h;have a:c / 2 ^ 8=0:=by omega
  rw[a,Nat.xor_zero] at h;exact h
 have h:=ZyP (x ^^^ c) 8;unfold ZgR Zgz
 conv=>rhs;rw[h]
 rw[Zpc,Zpe];show _=ZdM 8 ((x ^^^ c) % 256) ^^^ (x ^^^ c) / 256;rw[e]
theorem ZhA:∀ (a b:List UInt8) (x:Nat),Zev x (a++b)=Zev (Zev x a) b
 | [],_,_=>rfl
 | c::r,b,x=>by
  rw[cons_append,Zev,Zev];exact ZhA r b _
theorem Zua {c:Nat} (b:x<4294967296) (a:c<256):ZgR x c<4294967296:=by
 rw[ZnO x c a];have h:x ^^^ c<2 ^ 32:=Nat.xor_lt_two_pow (by omega) (by omega)
 have:=ZnN 8 (Nat.le_refl 32) h;omega
theorem Zks:∀ (l:List UInt8) {x:Nat},x<4294967296->Zev x l<4294967296
 | [],_,h=>h
 | c::r,x,h=>Zks r (Zua h (by have:=c.toNat_lt;omega))
theorem Zws (h:x<4294967296):x ^^^ 4294967295<4294967296:=by
 have:=Nat.xor_lt_two_pow (n:=32) (by omega:x<2 ^ 32) (by decide:4294967295<2 ^ 32)
 omega
theorem Zub {sum:Nat} (l:List UInt8) (h:sum<4294967296):Zaz sum l<4294967296:=Zws (Zks l (Zws h))
theorem Zkt:∀ l:List UInt8,Lib.leNat l<2 ^ (8*l.length)
 | []=>by simp[Lib.leNat]
 | c::r=>by
  have h:=Zkt r;have a:=c.toNat_lt;have e:8*(c::r).length=8*r.length+8:=by simp;omega
  simp only [Lib.leNat];rw[e,Nat.pow_add];omega
def ZbI (l:List UInt8):List UInt8:=Lib.uvarint l.length++l
def Zad (l:List UInt8):List UInt8:=ZbI l++Lib.leBytes 4 (Zaz 0 (ZbI l))
def Zdf (l:List UInt8):Prop:=l.length<10∧∀ j,j<l.length->128<=(l.getD j 0).toNat
instance (l:List UInt8):Decidable (Zdf l):=by unfold Zdf;infer_instance
def ZbR (l:List UInt8):List UInt8 × Nat × Nat:=
 if Zdf l then([],0,2) else
 if(Zab l).2=0 then([],0,3) else
 if 1048576<(Zab l).1 then([],0,5) else
 if l.length<(Zab l).2+4+(Zab l).1 then([],0,2) else
 if Lib.leNat ((l.drop ((Zab l).2+(Zab l).1)).take 4)≠Zaz 0 (l.take ((Zab l).2+(Zab l).1)) then([],0,4) else
 ((l.drop (Zab l).2).take (Zab l).1,(Zab l).2+4+(Zab l).1,0)
theorem Ztc (l:List UInt8):Zaz 0 l<4294967296:=Zub l (by decide)
theorem Zas (l:List UInt8):(Zad l).length=(Lib.uvarint l.length).length+l.length+4:=by
 simp[Zad,ZbI,Lib.leBytes_length];omega
theorem ZBz (h:n<=1048576):(Lib.uvarint n).length<=3:=Lib.uvarint_length 2 n (Nat.lt_of_le_of_lt h (by decide))
theorem Ztd (h:Zdf l):Zab l=(0,0):=by
 have e:Zah l=(0,0):=by
  unfold Zah;rw[ZnH 10 l (fun j _ a=>h.2 j a)]
 unfold Zab;rw[e];rfl
theorem ZmO (x t:List UInt8) (h:x.length<=1048576):Zab (Lib.uvarint x.length++t)=(x.length,(Lib.uvarint x.length).length):=ZaT _ _ (by omega)
theorem Zfl:∀ (l:List UInt8),Lib.leBytes l.length (Lib.leNat l)=l
 | []=>rfl
 | c::r=>by
  have d:=Zfl r;have e:=c.toNat_lt;have b:(c.toNat+256*Lib.leNat r) % 256=c.toNat:=by omega
  have a:(c.toNat+256*Lib.leNat r) / 256=Lib.leNat r:=by omega
  simp only [length_cons,Lib.leNat,Lib.leBytes,b,a,d];simp
theorem Zuc (x t:List UInt8) (h:x.length<=1048576):ZbR (Zad x++t)=(x,(Zad x).length,0):=by
 have c:Zab (Zad x++t)=(x.length,(Lib.uvarint x.length).length):=by
  have e:Zad x++t=Lib.uvarint x.length++(x++Lib.leBytes 4 (Zaz 0 (ZbI x))++t):=by simp[Zad,ZbI]
  rw[e];exact ZmO x _ h
 have j:=Lib.uvarint_pos x.length
 have a:¬ Zdf (Zad x++t):=fun a=>by
  have:=Ztd a;rw[c,Prod.mk.injEq] at this;omega
 have i:(Zad x++t).length=(Lib.uvarint x.length).length+x.length+4+t.length:=by rw[length_append,Zas]
 have b:(ZbI x).length=(Lib.uvarint x.length).length+x.length:=by simp[ZbI]
 have g:(Zad x++t).take ((Lib.uvarint x.length).length+x.length)=ZbI x:=by
  rw[<-b,Zad,append_assoc,List.take_left]
 have d:((Zad x++t).drop ((Lib.uvarint x.length).length+x.length)).take 4=Lib.leBytes 4 (Zaz 0 (ZbI x)):=by
  rw[<-b,Zad,append_assoc,drop_left,List.take_append_of_le_length (by rw[Lib.leBytes_length];exact Nat.le_refl _),take_of_length_le (by rw[Lib.leBytes_length];exact Nat.le_refl _)]
 have f:((Zad x++t).drop (Lib.uvarint x.length).length).take x.length=x:=by
  have e:Zad x++t=Lib.uvarint x.length++(x++(Lib.leBytes 4 (Zaz 0 (ZbI x))++t)):=by simp[Zad,ZbI]
  rw[e,drop_left,List.take_left]
 unfold ZbR;rw[if_neg a];simp only [c];rw[if_neg (by omega),if_neg (by omega),if_neg (by omega),if_neg (by rw[g,d,Lib.leNat_leBytes 4 _ (Ztc _)];simp),f,Zas]
 congr 2
 omega
theorem ZnP (h:(ZbR l).2.2=0):
 (ZbR l).1.length<=1048576∧(ZbR l).2.1=(Zad (ZbR l).1).length∧(ZbR l).2.1<=l.length∧l.take (ZbR l).2.1=Zad (ZbR l).1:=by
 unfold ZbR at h ⊢;by_cases d:Zdf l
 ·rw[if_pos d] at h;simp at h
 rw[if_neg d] at h ⊢;by_cases a:(Zab l).2=0
 ·rw[if_pos a] at h;simp at h
 rw[if_neg a] at h ⊢;by_cases g:1048576<(Zab l).1
 ·rw[if_pos g] at h;simp at h
 rw[if_neg g] at h ⊢;by_cases i:l.length<(Zab l).2+4+(Zab l).1
 ·rw[if_pos i] at h;simp at h
 rw[if_neg i] at h ⊢;by_cases b:Lib.leNat ((l.drop ((Zab l).2+(Zab l).1)).take 4)≠Zaz 0 (l.take ((Zab l).2+(Zab l).1))
 ·rw[if_pos b] at h;simp at h
 rw[if_neg b];clear h;rcases Zay l with q | ⟨w,v,u,c⟩
 ·rw[q] at a;simp at a
 generalize (Zab l).1=n at *;generalize (Zab l).2=k at *;have f:((l.drop k).take n).length=n:=by simp;omega
 have j:(Lib.uvarint n).length=k:=by rw[<-c];simp;omega
 have m:ZbI ((l.drop k).take n)=l.take (k+n):=by
  unfold ZbI;rw[f,<-c,List.take_add]
 have p:(l.drop (k+n)).take 4=Lib.leBytes 4 (Zaz 0 (l.take (k+n))):=by
  have e:=Zfl ((l.drop (k+n)).take 4);have t:((l.drop (k+n)).take 4).length=4:=by simp;omega
  rw[t] at e;rw[<-Decidable.not_not.1 b,e]
 refine⟨by show((l.drop k).take n).length<=_;omega,?_,by show k+4+n<=_;omega,?_⟩
 ·show k+4+n=_
  rw[Zas,f,j];omega
 ·show l.take (k+4+n)=Zad ((l.drop k).take n)
  unfold Zad;rw[m,<-p,show k+4+n=(k+n)+4 by omega,List.take_add]
theorem ZyQ (h:(ZbR l).2.2≠0):(ZbR l).1=[]∧(ZbR l).2.1=0:=by
 unfold ZbR at h ⊢;split
 ·exact⟨rfl,rfl⟩
 split
 ·exact⟨rfl,rfl⟩
 split
 ·exact⟨rfl,rfl⟩
 split
 ·exact⟨rfl,rfl⟩
 split
 ·exact⟨rfl,rfl⟩
 ·rename_i b c a d e
  rw[if_neg b,if_neg c,if_neg a,if_neg d,if_neg e] at h;simp at h
theorem ZeW (h:(ZbR l).2.2=0):5<=(ZbR l).2.1:=by
 obtain⟨_,a,_,_⟩:=ZnP h;rw[a,Zas];have:=Lib.uvarint_pos (ZbR l).1.length;omega
theorem Zwt (l:List UInt8):(ZbR l).2.1<=l.length:=by
 by_cases h:(ZbR l).2.2=0
 ·exact(ZnP h).2.2.1
 ·rw[(ZyQ h).2];omega
theorem ZyR (x:List UInt8) (m:Nat) (h:x.length<=1048576) (g:m<(Zad x).length):ZbR ((Zad x).take m)=([],0,2):=by
 have k:=ZBz h;by_cases n:m<(Lib.uvarint x.length).length
 ·have a:Zdf ((Zad x).take m):=by
   have e:(Zad x).take m=(Lib.uvarint x.length).take m:=by
    rw[Zad,ZbI,append_assoc,List.take_append_of_le_length (by omega)]
   rw[e];refine⟨by simp;omega,fun j d=>?_⟩
   have i:j<m:=by simp at d;omega
   have f:((Lib.uvarint x.length).take m).getD j 0=(Lib.uvarint x.length).getD j 0:=by simp[List.getD,i]
   rw[f];exact Zjb _ _ j zL (by omega)
  unfold ZbR;rw[if_pos a]
 ·have c:((Zad x).take m).length=m:=by simp;omega
  have b:Zab ((Zad x).take m)=(x.length,(Lib.uvarint x.length).length):=by
   have e:(Zad x).take m=Lib.uvarint x.length++(x++Lib.leBytes 4 (Zaz 0 (ZbI x))).take (m-(Lib.uvarint x.length).length):=by
    rw[Zad,ZbI,append_assoc,List.take_append,take_of_length_le (by omega)]
   rw[e];exact ZmO x _ h
  have l:=Lib.uvarint_pos x.length
  have a:¬ Zdf ((Zad x).take m):=fun a=>by
   have:=Ztd a;rw[b,Prod.mk.injEq] at this;omega
  rw[Zas] at g;unfold ZbR;rw[if_neg a];simp only [b,c];rw[if_neg (by omega),if_neg (by omega),if_pos (by omega)]
def ZfR:Nat->List UInt8->List (List UInt8) × Nat × Nat
 | 0,_=>([],0,0)
 | f+1,l=>if l=[] then([],0,0) else if(ZbR l).2.2≠0 then([],0,(ZbR l).2.2) else
  ((ZbR l).1::(ZfR f (l.drop (ZbR l).2.1)).1,(ZbR l).2.1+(ZfR f (l.drop (ZbR l).2.1)).2.1,(ZfR f (l.drop (ZbR l).2.1)).2.2)
def Zao (l:List UInt8):List (List UInt8) × Nat × Nat:=ZfR l.length l
theorem Zku:∀ (f g:Nat) (l:List UInt8),l.length<=f->l.length<=g->ZfR f l=ZfR g l
 | 0,g,l,h,_=>by
  have e:l=[]:=eq_nil_of_length_eq_zero (by omega)
  subst e
  cases g <;> simp[ZfR]
 | f+1,0,l,_,h=>by
  have e:l=[]:=eq_nil_of_length_eq_zero (by omega)
  subst e;simp[ZfR]
 | f+1,g+1,l,hf,hg=>by
  unfold ZfR;by_cases e:l=[]
  ·rw[if_pos e,if_pos e]
  rw[if_neg e,if_neg e];by_cases a:(ZbR l).2.2≠0
  ·rw[if_pos a,if_pos a]
  rw[if_neg a,if_neg a];have b:=ZeW (Decidable.not_not.1 a);rw[Zku f g (l.drop (ZbR l).2.1) (by simp;omega) (by simp;omega)]
theorem ZeX:Zao []=([],0,0):=rfl
theorem Zfm (a:l≠[]) (h:(ZbR l).2.2≠0):Zao l=([],0,(ZbR l).2.2):=by
 unfold Zao
 cases l with
 | nil=>exact absurd rfl a
 | cons c r=>
  rw[length_cons,ZfR,if_neg a,if_pos h]
theorem Zfn (a:l≠[]) (h:(ZbR l).2.2=0):
 Zao l=((ZbR l).1::(Zao (l.drop (ZbR l).2.1)).1,(ZbR l).2.1+(Zao (l.drop (ZbR l).2.1)).2.1,(Zao (l.drop (ZbR l).2.1)).2.2):=by
 have b:=ZeW h;unfold Zao
 cases l with
 | nil=>exact absurd rfl a
 | cons c r=>
  rw[length_cons,ZfR,if_neg a,if_neg (Decidable.not_not.2 h),Zku r.length ((c::r).drop (ZbR (c::r)).2.1).length _ (by simp;omega) zL]
def Zaf (L:List (List UInt8)):List UInt8:=L.flatMap Zad
def Zed:List (List UInt8)->Nat->Nat × Nat
 | [],_=>(0,0)
 | x::L,m=>if(Zad x).length<=m then((Zed L (m-(Zad x).length)).1+1,(Zed L (m-(Zad x).length)).2+(Zad x).length) else(0,0)
theorem Zpf:∀ (L:List (List UInt8)) (m:Nat),(Zed L m).1<=L.length∧(Zed L m).2<=m
 | [],m=>by simp[Zed]
 | x::L,m=>by
  have a:=Zpf L (m-(Zad x).length);unfold Zed;split
  ·simp;omega
  ·simp
theorem ZmP:∀ (L:List (List UInt8)) (m:Nat),(∀ x ∈ L,x.length<=1048576)->m<=(Zaf L).length->
 Zao ((Zaf L).take m)=(L.take (Zed L m).1,(Zed L m).2,if(Zed L m).2=m then 0 else 2)
 | [],m,_,hm=>by
  have e:m=0:=by simp[Zaf] at hm;omega
  subst e;rfl
 | x::L,m,hx,hm=>by
  have f:=hx x (by simp)
  have k:5<=(Zad x).length:=by
   rw[Zas];have:=Lib.uvarint_pos x.length;omega
  have i:Zaf (x::L)=Zad x++Zaf L:=by simp[Zaf]
  rw[i] at hm ⊢;rw[length_append] at hm;by_cases b:(Zad x).length<=m
  ·have c:(Zad x++Zaf L).take m=Zad x++(Zaf L).take (m-(Zad x).length):=by
    rw[List.take_append,take_of_length_le b]
   have g:=ZmP L (m-(Zad x).length) (fun y h=>hx y (by simp[h])) (by omega)
   have a:=Zuc x ((Zaf L).take (m-(Zad x).length)) f
   have d:Zad x++(Zaf L).take (m-(Zad x).length)≠[]:=fun e=>by
    have:=congrArg List.length e;rw[length_append,length_nil] at this;omega
   rw[c,Zfn d (by rw[a]),a]
   simp only [drop_left];have l:=(Zpf L (m-(Zad x).length)).2;rw[g,Zed,if_pos b];simp only [List.take_succ_cons,Prod.mk.injEq,true_and];refine⟨by omega,?_⟩
   by_cases e:(Zed L (m-(Zad x).length)).2=m-(Zad x).length
   ·rw[if_pos e,if_pos (by omega)]
   ·rw[if_neg e,if_neg (by omega)]
  ·have c:(Zad x++Zaf L).take m=(Zad x).take m:=by
    rw[List.take_append_of_le_length (by omega)]
   have a:=ZyR x m f (by omega)
   rw[c,Zed,if_neg b];by_cases j:m=0
   ·subst j
    rfl
   ·have d:(Zad x).take m≠[]:=fun e=>by
     have:=congrArg List.length e;rw[length_take,length_nil] at this;omega
    rw[Zfm d (by rw[a];decide),a]
    simp only [List.take_zero,Prod.mk.injEq,true_and];rw[if_neg (by omega)]
def ZjC (n:Int):Nat:=if 0<=n∧n<=1048576 then(Lib.uvarint n.toNat).length+4+n.toNat else 0
theorem Zpg:∀ (L:List (List UInt8)) (m k:Nat),k<=L.length->(Zaf (L.take k)).length<=m->(k=L.length∨m<(Zaf (L.take (k+1))).length)->Zed L m=(k,(Zaf (L.take k)).length)
 | [],m,k,hk,_,_=>by
  have e:k=0:=by simpa using hk
  subst e;rfl
 | x::L,m,0,_,h1,h2=>by
  have e:(Zaf ((x::L).take 1)).length=(Zad x).length:=by simp[Zaf]
  rcases h2 with h2 | h2
  ·simp at h2
  ·rw[e] at h2
   rw[Zed,if_neg (by omega)]
   rfl
 | x::L,m,k+1,hk,h1,h2=>by
  have a:∀ j,(Zaf ((x::L).take (j+1))).length=(Zad x).length+(Zaf (L.take j)).length:=by
   intro j;simp[Zaf]
  rw[a] at h1 h2
  have b:=Zpg L (m-(Zad x).length) k (by simpa using hk) (by omega) (by
   rcases h2 with h2 | h2
   ·left;simpa using h2
   ·right;omega)
  rw[Zed,if_pos (by omega),b,a]
  simp;omega
theorem Zcc (h:d.length<=1048576):(Zad d).length<=d.length+14:=by
 rw[Zas];have:(Lib.uvarint d.length).length<=10:=Lib.uvarint_length64 (by omega)
 omega
theorem ZfS (A B:List (List UInt8)):Zaf (A++B)=Zaf A++Zaf B:=by
 unfold Zaf;rw[List.flatMap_append]
theorem ZaV (x:List UInt8) (B:List (List UInt8)):Zaf (x::B)=Zad x++Zaf B:=by
 unfold Zaf;rw[List.flatMap_cons]
theorem Zrf (x:List UInt8):5<=(Zad x).length:=by
 rw[Zas];have:=Lib.uvarint_pos x.length;omega
theorem ZdN (L:List (List UInt8)) (h:∀ x ∈ L,x.length<=1048576):Zao (Zaf L)=(L,(Zaf L).length,0):=by
 have e:=ZmP L (Zaf L).length h zL;have a:=Zpg L (Zaf L).length L.length zL (by rw[List.take_length];exact Nat.le_refl _) (.inl rfl)
 rw[List.take_length] at a e;rw[e,a];simp
theorem Zit:∀ (n:Nat) (b:List UInt8),b.length<=n->(Zao b).2.2=0->Zaf (Zao b).1=b∧∀ x ∈ (Zao b).1,x.length<=1048576
 | 0,b,hn,_=>by
  have e:b=[]:=eq_nil_of_length_eq_zero (by omega)
  subst e;rw[ZeX];exact⟨rfl,by simp⟩
 | n+1,b,hn,h=>by
  by_cases e:b=[]
  ·subst e
   rw[ZeX];exact⟨rfl,by simp⟩
  by_cases a:(ZbR b).2.2=0
  ·obtain⟨c,i,k,g⟩:=ZnP a
   have j:=ZeW a;rw[Zfn e a] at h ⊢;obtain⟨f,d⟩:=Zit n (b.drop (ZbR b).2.1) (by rw[length_drop];omega) h
   refine⟨?_,fun x hx=>?_⟩
   ·show Zaf ((ZbR b).1::(Zao (b.drop (ZbR b).2.1)).1)=b
    rw[ZaV,f,<-g,take_append_drop]
   ·rcases List.mem_cons.1 hx with hx | hx
    ·rw[hx];exact c
    ·exact d x hx
  ·rw[Zfm e a] at h
   exact absurd h a
structure Ent where
 proc:Int
 seq:Int
 resp:Int
def ZaP:Ent:=⟨0,0,0⟩
theorem Ent.ext' {a b:Ent} (e:a.proc=b.proc) (d:a.seq=b.seq) (c:a.resp=b.resp):a=b:=by
 cases a
 cases b
 simp_all
instance:DecidableEq Ent:=fun a b=>
 if h:a.proc=b.proc∧a.seq=b.seq∧a.resp=b.resp then .isTrue (Ent.ext' h.1 h.2.1 h.2.2)
 else .isFalse (fun e=>h (by rw[e];exact⟨rfl,rfl,rfl⟩))
structure ZaW where
 idx:Int
 st:St
 tab:List Ent
def Zbl:ZaW:=⟨0,ZfQ,[]⟩
def Zfo (e:Ent):Prop:=0<=e.proc∧e.proc<=64∧0<=e.seq∧e.seq<4611686018427387904∧-1125899906842624<=e.resp∧e.resp<=1125899906842624
instance (e:Ent):Decidable (Zfo e):=by unfold Zfo;infer_instance
def Zdz (t:List Ent) (k:Nat):Prop:=∀ i,i<k->Zfo (t.getD i ZaP)∧(0<i->(t.getD (i-1) ZaP).proc<(t.getD i ZaP).proc)
instance (t:List Ent) (k:Nat):Decidable (Zdz t k):=by unfold Zdz;infer_instance
def ZhB (t:List Ent):Prop:=Zdz t t.length
instance (t:List Ent):Decidable (ZhB t):=by unfold ZhB;infer_instance
theorem Zdz.zero (t:List Ent):Zdz t 0:=fun _ a=>absurd a (Nat.not_lt_zero _)
theorem Zdz.next {t:List Ent}:Zdz t (k+1)↔Zdz t k∧Zfo (t.getD k ZaP)∧(0<k->(t.getD (k-1) ZaP).proc<(t.getD k ZaP).proc):=by
 constructor
 ·intro h
  exact⟨fun i a=>h i (by omega),(h k (by omega)).1,(h k (by omega)).2⟩
 ·rintro⟨h1,h2,h3⟩ i a
  by_cases e:i=k
  ·subst e
   exact⟨h2,h3⟩
  ·exact h1 i (by omega)
theorem Zdz.mono {t:List Ent} {j:Nat} (h:Zdz t k) (a:j<=k):Zdz t j:=fun i b=>h i (by omega)
theorem ZhB.mem {t:List Ent} (h:ZhB t):∀ e ∈ t,Zfo e:=by
 intro e b;obtain⟨i,a,rfl⟩:=List.getElem_of_mem b;have:=(h i a).1;simpa[List.getD,a] using this
def ZgA (s:ZaW):Prop:=(0<=s.idx∧s.idx<4611686018427387904)∧ZcD s.st∧ZhB s.tab
instance (s:ZaW):Decidable (ZgA s):=by unfold ZgA;infer_instance
def ZyS (e:Ent):List UInt8:=Lib.uvarint e.proc.toNat++(Lib.uvarint e.seq.toNat++Lib.uvarint (Lib.zigzag e.resp))
def Zcs (t:List Ent):List UInt8:=t.flatMap ZyS
def ZBA (t:List Ent):List UInt8:=Lib.uvarint t.length++Zcs t
def Zbc (s:ZaW):List UInt8:=Lib.uvarint (ZjP s.st).length++(ZjP s.st++ZBA s.tab)
def Ziu (i:Nat) (w:List UInt8):List UInt8:=115::(Lib.uvarint 3++(Lib.uvarint i++(Lib.uvarint w.length++Lib.leBytes 4 (Zaz 0 w))))
def Zbd (l:List UInt8):List (List UInt8):=if l=[] then[] else l.take 64::Zbd (l.drop 64)
termination_by l.length
decreasing_by
 rename_i h
 have h1:l.length≠0:=by simpa using h
 rw[length_drop];omega
def Zee (s:ZaW):List (List UInt8):=Ziu s.idx.toNat (Zbc s)::Zbd (Zbc s)
def ZyE (s:ZaW):List UInt8:=Zaf (Zee s)
theorem Zba:Zbd []=[]:=by rw[Zbd,if_pos rfl]
theorem Zbx (h:l≠[]):Zbd l=l.take 64::Zbd (l.drop 64):=by rw[Zbd,if_neg h]
theorem Zkv:∀ (n:Nat) (l:List UInt8),l.length<=n->(Zbd l).flatten=l
 | 0,l,h=>by
  have e:l=[]:=eq_nil_of_length_eq_zero (by omega)
  rw[e,Zba];rfl
 | n+1,l,h=>by
  by_cases e:l=[]
  ·rw[e,Zba]
   rfl
  ·have a:l.length≠0:=by simpa using e
   rw[Zbx e,List.flatten_cons,Zkv n (l.drop 64) (by rw[length_drop];omega),take_append_drop]
theorem Ziv:∀ (n:Nat) (l x:List UInt8),l.length<=n->x ∈ Zbd l->x.length<=64∧1<=x.length
 | 0,l,x,h,hx=>by
  have e:l=[]:=eq_nil_of_length_eq_zero (by omega)
  rw[e,Zba] at hx;simp at hx
 | n+1,l,x,h,hx=>by
  by_cases e:l=[]
  ·rw[e,Zba] at hx
   simp at hx
  ·have a:l.length≠0:=by simpa using e
   rw[Zbx e] at hx;rcases List.mem_cons.1 hx with hx | hx
   ·rw[hx,length_take]
    omega
   ·exact Ziv n (l.drop 64) x (by rw[length_drop];omega) hx
def Ziw:List (List UInt8)->Prop
 | []=>True
 | [x]=>1<=x.length∧x.length<=64
 | x::y::t=>x.length=64∧Ziw (y::t)
theorem ZfT:∀ (L:List (List UInt8)),Ziw L->Zbd L.flatten=L
 | [],_=>by rw[List.flatten_nil,Zba]
 | [x],h=>by
  obtain⟨a,b⟩:=h;have e:x≠[]:=fun e=>by rw[e] at a;simp at a
  have f:[x].flatten=x:=by simp
  rw[f,Zbx e,take_of_length_le b,List.drop_eq_nil_of_le b,Zba]
 | x::y::t,h=>by
  obtain⟨a,b⟩:=h
  have e:(x::y::t).flatten≠[]:=fun e=>by
   have:=congrArg List.length e;rw[List.flatten_cons,length_append,length_nil] at this;omega
  have d:((x::y::t).flatten).take 64=x:=by rw[List.flatten_cons,<-a,List.take_left]
  have c:((x::y::t).flatten).drop 64=(y::t).flatten:=by rw[List.flatten_cons,<-a,drop_left]
  rw[Zbx e,d,c,ZfT (y::t) b]
theorem Zjd:∀ (n:Nat) (l:List UInt8),l.length<=n->Ziw (Zbd l)
 | 0,l,h=>by
  have e:l=[]:=eq_nil_of_length_eq_zero (by omega)
  rw[e,Zba];trivial
 | n+1,l,h=>by
  by_cases e:l=[]
  ·rw[e,Zba]
   trivial
  ·have f:l.length≠0:=by simpa using e
   rw[Zbx e];have b:=Zjd n (l.drop 64) (by rw[length_drop];omega)
   by_cases a:l.drop 64=[]
   ·rw[a,Zba]
    have d:(l.take 64).length=min 64 l.length:=length_take;exact⟨by omega,by omega⟩
   ·have c:(l.drop 64).length≠0:=fun e=>a (eq_nil_of_length_eq_zero e)
    rw[length_drop] at c;rw[Zbx a] at b ⊢;exact⟨by rw[length_take];omega,b⟩
def Zeq:Nat->List UInt8->Option (List Ent × List UInt8)
 | 0,b=>some ([],b)
 | n+1,b=>
  let i:=(Zab b).2
  let j:=(Zab (b.drop i)).2
  let k:=(Zah (b.drop (i+j))).2
  if i=0∨j=0∨k=0 then none
  else(Zeq n (b.drop (i+j+k))).map (fun r=>(⟨(Zab b).1,(Zab (b.drop i)).1,zag (Zah (b.drop (i+j))).1⟩::r.1,r.2))
def ZeY (b:List UInt8):Option (List Ent):=
 if(Zab b).2=0∨b.length<(Zab b).1 then none
 else match Zeq (Zab b).1 (b.drop (Zab b).2) with
  | some (t,[])=>some t
  | _=>none
def ZbS (w:List UInt8):ZaW × Int:=
 if(Zab w).2=0∨w.length<(Zab w).2+(Zab w).1 then(Zbl,3)
 else if(Zil ((w.drop (Zab w).2).take (Zab w).1)).2=3 then(Zbl,3)
 else match ZeY (w.drop ((Zab w).2+(Zab w).1)) with
  | none=>(Zbl,3)
  | some t=>(⟨0,(Zil ((w.drop (Zab w).2).take (Zab w).1)).1,t⟩,(Zil ((w.drop (Zab w).2).take (Zab w).1)).2)
def ZbV (d:List UInt8):Nat × Nat × Nat × Int:=
 if d.length<1∨(d.getD 0 0).toNat≠115 then(0,0,0,3)
 else
  let i:=(Zab (d.drop 1)).2
  let j:=(Zab (d.drop (1+i))).2
  let k:=(Zab (d.drop (1+i+j))).2
  if i=0∨j=0∨k=0 then(0,0,0,3)
  else if(Zab (d.drop 1)).1≠3 then(0,0,0,6)
  else if(d.drop (1+i+j+k)).length≠4 then(0,0,0,3)
  else((Zab (d.drop (1+i))).1,(Zab (d.drop (1+i+j))).1,Lib.leNat (d.drop (1+i+j+k)),0)
instance cutOk_dec:∀ L:List (List UInt8),Decidable (Ziw L)
 | []=>.isTrue trivial
 | [_]=>by unfold Ziw;infer_instance
 | _::y::t=>by
  unfold Ziw;exact @instDecidableAnd _ _ _ (cutOk_dec (y::t))
def ZmQ (L:List (List UInt8)):ZaW × Int:=
 match L with
 | []=>(Zbl,16)
 | d::P=>
  if(ZbV d).2.2.2≠0 then(Zbl,(ZbV d).2.2.2)
  else if P.flatten.length≠(ZbV d).2.1 then(Zbl,16)
  else if ¬ Ziw P then(Zbl,3)
  else if Zaz 0 P.flatten≠(ZbV d).2.2.1 then(Zbl,4)
  else if(ZbS P.flatten).2≠0 then(Zbl,(ZbS P.flatten).2)
  else if ZgA ⟨((ZbV d).1:Nat),(ZbS P.flatten).1.st,(ZbS P.flatten).1.tab⟩ then(⟨((ZbV d).1:Nat),(ZbS P.flatten).1.st,(ZbS P.flatten).1.tab⟩,0)
  else(Zbl,1)
def Zrg (b:List UInt8):ZaW × Int:=
 if(Zao b).2.2≠0 then(Zbl,((Zao b).2.2:Nat)) else ZmQ (Zao b).1
def Zix (e:Ent):Bool->List Ent->List Ent
 | d,[]=>if d=true then[] else[e]
 | d,x::t=>(if d=false∧e.proc<x.proc then[e] else[])++((if x.proc=e.proc then[] else[x])++Zix e (d || decide (e.proc<x.proc)) t)
def ZfU (t:List Ent) (e:Ent):List Ent:=Zix e false t
theorem Ziy (e:Ent):∀ t:List Ent,Zix e true t=t.filter (fun x=>decide (x.proc≠e.proc))
 | []=>rfl
 | x::t=>by
  rw[Zix,if_neg (by simp),Bool.true_or,Ziy e t,List.filter_cons]
  by_cases h:x.proc=e.proc <;> simp[h]
theorem Zkw (e:Ent):∀ (t:List Ent) (d:Bool) (x:Ent),x ∈ Zix e d t↔(d=false∧x=e)∨(x ∈ t∧x.proc≠e.proc)
 | [],d,x=>by cases d <;> simp[Zix]
 | y::t,d,x=>by
  rw[Zix,List.mem_append,List.mem_append,Zkw e t,List.mem_cons];by_cases b:d=false∧e.proc<y.proc
  ·have a:y.proc≠e.proc:=by omega
   rw[if_pos b,if_neg a,b.1];have c:decide (e.proc<y.proc)=true:=decide_eq_true b.2;rw[c];simp only [List.mem_singleton,Bool.or_true,Bool.true_eq_false,false_and,false_or,true_and];constructor
   ·rintro(h | h | ⟨h,h'⟩)
    ·exact .inl h
    ·exact .inr ⟨.inl h,by rw[h];exact a⟩
    ·exact .inr ⟨.inr h,h'⟩
   ·rintro(h | ⟨h | h,h'⟩)
    ·exact .inl h
    ·exact .inr (.inl h)
    ·exact .inr (.inr ⟨h,h'⟩)
  ·rw[if_neg b]
   have f:(d || decide (e.proc<y.proc))=false↔d=false:=by
    constructor
    ·intro h
     cases d
     ·rfl
     ·exact h
    ·intro h
     rw[h,Bool.false_or];exact decide_eq_false (fun c=>b ⟨h,c⟩)
   rw[f];by_cases a:y.proc=e.proc
   ·rw[if_pos a]
    simp only [List.not_mem_nil,false_or];constructor
    ·rintro(h | ⟨h,h'⟩)
     ·exact .inl h
     ·exact .inr ⟨.inr h,h'⟩
    ·rintro(h | ⟨h | h,h'⟩)
     ·exact .inl h
     ·exact absurd (by rw[h];exact a) h'
     ·exact .inr ⟨h,h'⟩
   ·rw[if_neg a]
    simp only [List.not_mem_nil,false_or,List.mem_singleton];constructor
    ·rintro(h | h | ⟨h,h'⟩)
     ·exact .inr ⟨.inl h,by rw[h];exact a⟩
     ·exact .inl h
     ·exact .inr ⟨.inr h,h'⟩
    ·rintro(h | ⟨h | h,h'⟩)
     ·exact .inr (.inl h)
     ·exact .inl h
     ·exact .inr (.inr ⟨h,h'⟩)
theorem Zph (t:List Ent) (e x:Ent):x ∈ ZfU t e↔x=e∨(x ∈ t∧x.proc≠e.proc):=by
 unfold ZfU;rw[Zkw];simp
theorem Zpi (e:Ent):∀ (t:List Ent) (d:Bool),(Zix e d t).length<=t.length+(if d=true then 0 else 1)
 | [],d=>by cases d <;> simp[Zix]
 | y::t,d=>by
  have b:=Zpi e t (d || decide (e.proc<y.proc));rw[Zix,length_append,length_append,length_cons];by_cases a:d=false∧e.proc<y.proc
  ·have c:decide (e.proc<y.proc)=true:=decide_eq_true a.2
   rw[a.1,c] at b ⊢;rw[if_pos ⟨rfl,a.2⟩];simp only [Bool.or_true,if_true] at b;split <;> simp <;> omega
  ·rw[if_neg a]
   have f:(if(d || decide (e.proc<y.proc))=true then(0:Nat) else 1)<=(if d=true then 0 else 1):=by
    cases d
    ·have:decide (e.proc<y.proc)=false:=decide_eq_false (fun h=>a ⟨rfl,h⟩)
     rw[this];exact Nat.le_refl _
    ·simp
   split <;> simp <;> omega
theorem Zwu (t:List Ent) (e:Ent):(ZfU t e).length<=t.length+1:=Zpi e t false
def Zkx (t:List Ent):Prop:=t.Pairwise (fun a b=>a.proc<b.proc)
theorem Zky {e:Ent}:∀ {t:List Ent},Zkx t->Zkx (ZfU t e)
 | [],_=>by simp[ZfU,Zix,Zkx]
 | y::t,h=>by
  unfold Zkx at h;rw[pairwise_cons] at h;obtain⟨d,f⟩:=h;unfold ZfU Zkx;rw[Zix,Bool.false_or];by_cases b:e.proc<y.proc
  ·have c:y.proc≠e.proc:=by omega
   rw[if_pos ⟨rfl,b⟩,if_neg c,decide_eq_true b,Ziy];show List.Pairwise _ (e::y::_);rw[pairwise_cons,pairwise_cons];refine⟨fun a ha=>?_,fun a ha=>d a ((List.mem_filter.1 ha).1),f.filter _⟩
   rcases List.mem_cons.1 ha with ha | ha
   ·rw[ha];exact b
   ·have:=d a ((List.mem_filter.1 ha).1)
    omega
  ·rw[if_neg (fun h=>b h.2),decide_eq_false b,List.nil_append]
   have g:Zkx (ZfU t e):=Zky f;by_cases c:y.proc=e.proc
   ·rw[if_pos c,List.nil_append]
    exact g
   ·rw[if_neg c]
    show List.Pairwise _ (y::ZfU t e);rw[pairwise_cons];refine⟨fun a ha=>?_,g⟩
    rcases(Zph t e a).1 ha with ha | ⟨ha,_⟩
    ·rw[ha];omega
    ·exact d a ha
theorem Zdz.lt {t:List Ent} (h:Zdz t k):∀ j i,i<j->j<k->(t.getD i ZaP).proc<(t.getD j ZaP).proc
 | 0,i,hi,_=>absurd hi (Nat.not_lt_zero _)
 | j+1,i,hi,hj=>by
  have a:=(h (j+1) hj).2 (by omega)
  rw[Nat.add_sub_cancel] at a;by_cases e:i=j
  ·rw[e];exact a
  ·have b:=h.lt j i (by omega) (by omega)
   omega
theorem ZhB.rises {t:List Ent} (h:ZhB t):Zkx t:=by
 unfold Zkx;rw[List.pairwise_iff_getElem];intro i j c a b;have:=h.lt j i b a;simpa[List.getD,c,a] using this
def Zaq (key:Int):List Int->Nat
 | a::_::r=>if key<=a then 0 else Zaq key r+2
 | _=>0
def ZdO (key:Int) (l:List Int):Bool:=(Zcp key l).isSome
theorem Zkz (key:Int):∀ (l:List Int),l.length % 2=0->Zaq key l<=l.length∧Zaq key l % 2=0
 | [],_=>⟨Nat.le_refl _,rfl⟩
 | [_],h=>by simp at h
 | a::b::r,h=>by
  have c:=Zkz key r (by simp at h;omega)
  unfold Zaq;split
  ·simp
  ·simp
   omega
theorem ZkA (key:Int):∀ (l:List Int) (k:Nat),l.length % 2=0->k % 2=0->k<=l.length->(∀ j,j<k->j % 2=0->l.getD j 0<key)->Zaq key l=k+Zaq key (l.drop k)
 | [],k,_,_,hk,_=>by
  have:k=0:=by simpa using hk
  subst this;rfl
 | [_],_,h,_,_,_=>by simp at h
 | a::b::r,k,h,hk2,hk,hall=>by
  by_cases c:k=0
  ·subst c
   simp
  ·obtain⟨j,rfl⟩:∃ j,k=j+2:=⟨k-2,by omega⟩
   have e:=hall 0 (by omega) rfl
   have m:a<key:=e
   have d:=ZkA key r j (by simp at h;omega) (by omega) (by simp at hk;omega) (fun i g f=>by
    have:=hall (i+2) (by omega) (by omega)
    exact this)
   conv=>lhs;unfold Zaq
   rw[if_neg (by omega),d]
   show j+Zaq key (r.drop j)+2=j+2+Zaq key (r.drop j);omega
theorem Zrh (key:Int) (l:List Int) (k:Nat) (a:k+1<l.length) (h:key<=l.getD k 0):Zaq key (l.drop k)=0:=by
 rw[Zwj l k a,Zaq,if_pos h]
theorem ZeZ (key least:Int):∀ (l:List Int) (lo:Int),Zat least lo l->ZdO key l=decide (Zaq key l<l.length∧l.getD (Zaq key l) 0=key)∧(ZdO key l=true->Zcp key l=some (l.getD (Zaq key l+1) 0)∧Zaq key l+1<l.length)
 | [],lo,_=>by simp[ZdO,Zcp,Zaq]
 | [_],lo,h=>by simp[Zat] at h
 | a::b::r,lo,h=>by
  have k:=ZdV (least:=least) (key:=key) (l:=r) (lo:=a);unfold Zat at h;have g:=ZeZ key least r a h.2.2.2.2;by_cases f:key<=a
  ·have e:Zaq key (a::b::r)=0:=by unfold Zaq;rw[if_pos f]
   rw[e];by_cases d:a=key
   ·have c:Zcp key (a::b::r)=some b:=by rw[Zcw,if_pos d]
    unfold ZdO;rw[c];simp[d]
   ·have c:Zcp key (a::b::r)=none:=by rw[Zcw,if_neg d,k h.2.2.2.2 f]
    unfold ZdO;rw[c];simp[d]
  ·have e:Zaq key (a::b::r)=Zaq key r+2:=by rw[Zaq,if_neg f]
   have c:Zcp key (a::b::r)=Zcp key r:=by rw[Zcw,if_neg (by omega)]
   have j:ZdO key (a::b::r)=ZdO key r:=by unfold ZdO;rw[c]
   rw[e,c,j];refine⟨?_,fun i=>?_⟩
   ·rw[g.1]
    have m:(a::b::r).getD (Zaq key r+2) 0=r.getD (Zaq key r) 0:=rfl;rw[m];apply decide_eq_decide.2;simp
   ·have:=g.2 i
    refine⟨this.1,?_⟩;simp;omega
theorem Zje (key n least:Int):∀ (l:List Int) (lo:Int),Zat least lo l->ZdO key l=false->ZaO key n false l=l.take (Zaq key l)++([key,n]++l.drop (Zaq key l))
 | [],lo,_,_=>by simp[ZaO,Zaq]
 | [_],lo,h,_=>by simp[Zat] at h
 | a::b::r,lo,h,hm=>by
  rw[ZdW key n least a b r lo h];unfold Zat at h;have e:=Zje key n least r a h.2.2.2.2;unfold ZdO at hm;rw[Zcw] at hm;by_cases c:a=key
  ·rw[if_pos c] at hm
   simp at hm
  ·rw[if_neg c] at hm
   by_cases d:key<a
   ·rw[if_pos d,Zaq,if_pos (by omega)]
    rfl
   ·rw[if_neg d,if_neg (by omega),e hm,Zaq,if_neg (by omega)]
    rfl
theorem Zpj (key n least:Int):∀ (l:List Int) (lo:Int),Zat least lo l->ZdO key l=true->ZaO key n false l=l.set (Zaq key l+1) n
 | [],lo,_,h=>by simp[ZdO,Zcp] at h
 | [_],lo,h,_=>by simp[Zat] at h
 | a::b::r,lo,h,hm=>by
  rw[ZdW key n least a b r lo h];have d:=ZdV (least:=least) (key:=key) (l:=r) (lo:=a);unfold Zat at h;have e:=Zpj key n least r a h.2.2.2.2;unfold ZdO at hm;rw[Zcw] at hm;by_cases c:a=key
  ·rw[if_neg (by omega),if_pos c.symm,Zaq,if_pos (by omega),c]
   rfl
  ·rw[if_neg c] at hm
   by_cases f:key<a
   ·rw[d h.2.2.2.2 (by omega)] at hm
    simp at hm
   ·rw[if_neg f,if_neg (by omega),e hm,Zaq,if_neg (by omega)]
    rfl
theorem ZgD {least key:Int}:∀ {l:List Int} {lo:Int},Zat least lo l->key<=lo->Zbe key l=l
 | [],_,_,_=>rfl
 | [_],_,h,_=>by simp[Zat] at h
 | a::b::r,lo,h,hk=>by
  unfold Zat at h;rw[ZcO,if_pos (by omega),ZgD h.2.2.2.2 (by omega)]
theorem Zjf (key least:Int):∀ (l:List Int) (lo:Int),Zat least lo l->ZdO key l=false->Zbe key l=l
 | [],lo,_,_=>rfl
 | [_],lo,h,_=>by simp[Zat] at h
 | a::b::r,lo,h,hm=>by
  unfold Zat at h;have d:=Zjf key least r a h.2.2.2.2;unfold ZdO at hm;rw[Zcw] at hm;by_cases c:a=key
  ·rw[if_pos c] at hm
   simp at hm
  ·rw[if_neg c] at hm
   rw[ZcO,if_pos c,d hm]
theorem Zjg (key least:Int):∀ (l:List Int) (lo:Int),Zat least lo l->ZdO key l=true->Zbe key l=l.take (Zaq key l)++l.drop (Zaq key l+2)
 | [],lo,_,h=>by simp[ZdO,Zcp] at h
 | [_],lo,h,_=>by simp[Zat] at h
 | a::b::r,lo,h,hm=>by
  have e:=ZdV (least:=least) (key:=key) (l:=r) (lo:=a);unfold Zat at h;have f:=Zjg key least r a h.2.2.2.2;unfold ZdO at hm;rw[Zcw] at hm;rw[ZcO];by_cases c:a=key
  ·rw[if_neg (by omega),Zaq,if_pos (by omega),ZgD h.2.2.2.2 (by omega)]
   rfl
  ·rw[if_neg c] at hm
   rw[if_pos c];by_cases d:key<=a
   ·rw[e h.2.2.2.2 d] at hm
    simp at hm
   ·rw[f hm,Zaq,if_neg d]
    rfl
def Zcd (s:St) (o:Opn):St × Int:=
 if o.a<0∨255<o.a then(s,-1) else
 if o.code≠7∧o.code≠6∧o.code≠5 then(s,0) else
 if o.code=6 then(⟨s.kind,Zbe o.a s.L,s.shut,s.eng⟩,ZtS o.a s.L) else
 if o.code=5 then(if Zdr o.a 0 s.L<0∧s.L.length=128 then(s,-2) else(⟨s.kind,ZaO o.a (ZeG o.b) false s.L,s.shut,s.eng⟩,ZtS o.a s.L)) else
 (s,ZtS o.a s.L)
def Zcx (s:St) (o:Opn):St × Int:=
 if ¬ ZcD s then(s,0) else
 if s.shut=true then(s,-1125899906842624) else
 if o.code=10 then(⟨s.kind,s.L,true,if 0<=o.a∧o.a<=2 then o.a else s.eng⟩,0) else
 if s.kind<=1 then Zhn s o else if s.kind<=3 then Zcr s o else if s.kind=4 then Zcd s o else ZaZ s o
theorem Zjh (s:St) (o:Opn):(Zcd s o).1=(ZfF s o).1:=by
 unfold Zcd ZfF;by_cases b:o.a<0∨255<o.a
 ·rw[if_pos b]
  split
  ·rfl
  ·first | rfl | (rw[if_pos b])
 ·rw[if_neg b,if_neg b]
theorem ZgS (s:St) (o:Opn):(Zcx s o).1=(ZfO s o).1:=by
 unfold Zcx ZfO;split
 ·rfl
 split
 ·rfl
 split
 ·rfl
 split
 ·rfl
 split
 ·rfl
 split
 ·exact Zjh s o
 ·rfl
theorem ZyT (s:St) (o:Opn) (h:s.kind≠4∨s.shut=true∨o.code=10∨o.code=5∨o.code=6∨o.code=7∨(0<=o.a∧o.a<=255)):Zcx s o=ZfO s o:=by
 unfold Zcx ZfO;split
 ·rfl
 split
 ·rfl
 split
 ·rfl
 split
 ·rfl
 split
 ·rfl
 split
 ·rename_i e c b _ _ d
  unfold Zcd ZfF;rcases h with h | h | h | h | h | h | h
  ·exact absurd d h
  ·exact absurd h c
  ·exact absurd h b
  ·rw[if_neg (show ¬ (o.code≠7∧o.code≠6∧o.code≠5) by omega),if_neg (show ¬ (o.code≠7∧o.code≠6∧o.code≠5) by omega)]
  ·rw[if_neg (show ¬ (o.code≠7∧o.code≠6∧o.code≠5) by omega),if_neg (show ¬ (o.code≠7∧o.code≠6∧o.code≠5) by omega)]
  ·rw[if_neg (show ¬ (o.code≠7∧o.code≠6∧o.code≠5) by omega),if_neg (show ¬ (o.code≠7∧o.code≠6∧o.code≠5) by omega)]
  ·rw[if_neg (show ¬ (o.a<0∨255<o.a) by omega),if_neg (show ¬ (o.a<0∨255<o.a) by omega)]
 ·rfl
theorem ZkB (h:¬ ZcD s) (o:Opn):Zcx s o=(s,0):=by
 unfold Zcx;rw[if_pos h]
theorem Zud (h:ZcD s) (a:s.shut=true) (o:Opn):Zcx s o=(s,-1125899906842624):=by
 unfold Zcx;rw[if_neg (fun e=>e h),if_pos a]
theorem ZkC (h:ZcD s) (o:Opn):ZcD (Zcx s o).1:=by rw[ZgS];exact ZyL h o
theorem ZBr (s:St) (o:Opn):(Zcx s o).1.kind=s.kind:=by rw[ZgS];exact Zwm s o
theorem ZAC (h:ZcD s) (o:Opn):(Zcx s o).1.shut=(s.shut || decide (o.code=10)):=by rw[ZgS];exact ZtV h o
def Zwv:St->List Opn->St × List Int
 | s,[]=>(s,[])
 | s,o::r=>((Zwv (Zcx s o).1 r).1,(Zcx s o).2::(Zwv (Zcx s o).1 r).2)
def Zmm (s:ZaW) (r:Rec):ZaW:=⟨s.idx+1,(Zcx s.st r.op).1,ZfU s.tab ⟨r.proc,r.seq,(Zcx s.st r.op).2⟩⟩
def ZaQ:ZaW->List Rec->ZaW × Int
 | s,[]=>(s,0)
 | s,r::l=>if r.idx≠s.idx then(Zbl,15) else if ¬ ZaA r then(Zbl,1) else ZaQ (Zmm s r) l
theorem ZgT:∀ (l:List Rec) (s:ZaW),(ZaQ s l).2=0->(ZaQ s l).1.st=(Zwv s.st (l.map (fun r=>r.op))).1∧(ZaQ s l).1.idx=s.idx+l.length
 | [],s,_=>by simp[ZaQ,Zwv]
 | r::l,s,h=>by
  rw[ZaQ] at h ⊢;by_cases b:r.idx≠s.idx
  ·rw[if_pos b] at h
   exact absurd h (by decide)
  rw[if_neg b] at h ⊢;by_cases a:¬ ZaA r
  ·rw[if_pos a] at h
   exact absurd h (by decide)
  rw[if_neg a] at h ⊢;obtain⟨d,c⟩:=ZgT l (Zmm s r) h;rw[d,c,List.map_cons,Zwv];refine⟨rfl,?_⟩;show s.idx+1+_=_;rw[length_cons];omega
def Zav (l:List Rec) (p:Int):Int:=l.foldl (fun a r=>if r.proc=p then r.seq else a) 0
theorem Zpk (l:List Rec) (r:Rec) (p:Int):Zav (l++[r]) p=if r.proc=p then r.seq else Zav l p:=by
 unfold Zav;rw[List.foldl_append];rfl
theorem ZmR {l:List Rec} (p:Int):(∀ r ∈ l,ZaA r)->0<=Zav l p∧Zav l p<4611686018427387904:=by
 unfold Zav
 suffices h:∀ (l:List Rec) (a:Int),(∀ r ∈ l,ZaA r)->0<=a->a<4611686018427387904->0<=l.foldl (fun a r=>if r.proc=p then r.seq else a) a∧l.foldl (fun a r=>if r.proc=p then r.seq else a) a<4611686018427387904 by
  exact fun i=>h l 0 i (by decide) (by decide)
 intro l
 induction l with
 | nil=>intro a _ b e;exact⟨b,e⟩
 | cons r t g=>
  intro a d b e;rw[List.foldl_cons];have m:=d r (by simp)
  obtain⟨_,_,_,j,k,_⟩:=m;by_cases f:r.proc=p
  ·rw[if_pos f]
   exact g _ (fun s c=>d s (by simp[c])) j k
  ·rw[if_neg f]
   exact g _ (fun s c=>d s (by simp[c])) b e
def ZbJ (pre:List Rec) (r:Rec):List UInt8:=
 Lib.uvarint r.proc.toNat++(Lib.uvarint (Lib.zigzag (r.seq-Zav pre r.proc))++(ZaX r.op++Lib.uvarint (Lib.zigzag r.resp)))
def Zbs (pre:List Rec):List Rec->List UInt8
 | []=>[]
 | r::t=>ZbJ pre r++Zbs (pre++[r]) t
def ZdF (l:List Rec):List UInt8:=Lib.uvarint (l.headD Zaj).idx.toNat++(Lib.uvarint l.length++Zbs [] l)
def Zbb:Int->List Rec->Prop
 | _,[]=>True
 | i,r::t=>r.idx=i∧Zbb (i+1) t
instance chainR_dec:∀ (i:Int) (l:List Rec),Decidable (Zbb i l)
 | _,[]=>.isTrue trivial
 | i,r::t=>by
  unfold Zbb;exact @instDecidableAnd _ _ _ (chainR_dec (i+1) t)
def ZbE (l:List Rec):Prop:=1<=l.length∧l.length<=256∧(∀ r ∈ l,ZaA r)∧Zbb (l.headD Zaj).idx l
instance (l:List Rec):Decidable (ZbE l):=by unfold ZbE;infer_instance
theorem ZkD:∀ (a b c:List Rec),Zbs c (a++b)=Zbs c a++Zbs (c++a) b
 | [],b,c=>by simp[Zbs]
 | r::t,b,c=>by
  have e:c++[r]++t=c++r::t:=by simp
  rw[cons_append,Zbs,ZkD t b,e,Zbs];exact(append_assoc _ _ _).symm
theorem Zue (l:List Rec) (k:Nat) (a:k<l.length):Zbs [] (l.take (k+1))=Zbs [] (l.take k)++ZbJ (l.take k) (l.getD k Zaj):=by
 have e:l.take (k+1)=l.take k++[l.getD k Zaj]:=by
  rw[List.take_add_one];simp[List.getD,a]
 rw[e,ZkD];simp[Zbs]
def ZCf (pre:List Rec) (b:List UInt8):Rec × Nat:=
 let i:=(Zab b).2
 let j:=(Zah (b.drop i)).2
 let k:=(ZaC (b.drop (i+j))).2
 let m:=(Zah (b.drop (i+j+k))).2
 if i=0∨j=0∨k=0∨m=0 then(Zaj,0)
 else(⟨0,(Zab b).1,IntKind.i64.wrap (Zav pre (Zab b).1+zag (Zah (b.drop i)).1),(ZaC (b.drop (i+j))).1,zag (Zah (b.drop (i+j+k))).1⟩,i+j+k+m)
theorem Zri {n:Int} (h:I64 n):IntKind.i64.wrap n=n:=by
 obtain⟨b,a⟩:=h;rw[IntKind.wrap_i64];omega
theorem ZhC {l:List Rec} (a:∀ r ∈ l,ZaA r) {r:Rec} (b:ZaA r):I64 (r.seq-Zav l r.proc):=by
 obtain⟨f,e⟩:=ZmR r.proc a;obtain⟨_,_,_,c,d,_⟩:=b;exact⟨by omega,by omega⟩
theorem ZAD {a:List Rec} (v:∀ r ∈ a,ZaA r) {r:Rec} (c:ZaA r) (t:List UInt8):ZCf a (ZbJ a r++t)=({ r with idx:=0 },(ZbJ a r).length):=by
 have b:=ZhC v c;have d:=ZdY c;obtain⟨w,_,_,y,A,z,B,_⟩:=id c
 have E:ZbJ a r++t=Lib.uvarint r.proc.toNat++(Lib.uvarint (Lib.zigzag (r.seq-Zav a r.proc))++(ZaX r.op++(Lib.uvarint (Lib.zigzag r.resp)++t))):=by
  unfold ZbJ;simp only [append_assoc]
 have e:=ZaT r.proc.toNat (Lib.uvarint (Lib.zigzag (r.seq-Zav a r.proc))++(ZaX r.op++(Lib.uvarint (Lib.zigzag r.resp)++t))) (by omega)
 rw[<-E] at e;have f:(ZbJ a r++t).drop (Lib.uvarint r.proc.toNat).length=Lib.uvarint (Lib.zigzag (r.seq-Zav a r.proc))++(ZaX r.op++(Lib.uvarint (Lib.zigzag r.resp)++t)):=by rw[E,drop_left]
 have m:=ZbN (Lib.zigzag (r.seq-Zav a r.proc)) (ZaX r.op++(Lib.uvarint (Lib.zigzag r.resp)++t)) (ZeV b);have g:(ZbJ a r++t).drop ((Lib.uvarint r.proc.toNat).length+(Lib.uvarint (Lib.zigzag (r.seq-Zav a r.proc))).length)=ZaX r.op++(Lib.uvarint (Lib.zigzag r.resp)++t):=by rw[<-drop_drop,f,drop_left]
 have l:=Zpa r.op w (Lib.uvarint (Lib.zigzag r.resp)++t);have j:(ZbJ a r++t).drop ((Lib.uvarint r.proc.toNat).length+(Lib.uvarint (Lib.zigzag (r.seq-Zav a r.proc))).length+(ZaX r.op).length)=Lib.uvarint (Lib.zigzag r.resp)++t:=by rw[<-drop_drop,g,drop_left]
 have q:=ZbN (Lib.zigzag r.resp) t (ZeV d);have n:=Zhz r.proc.toNat;have p:=Zhz (Lib.zigzag (r.seq-Zav a r.proc));have x:=Zhz (Lib.zigzag r.resp)
 have i:(ZaX r.op).length≠0:=by
  unfold ZaX;have:=Zhz r.op.code.toNat;rw[length_append];omega
 unfold ZCf;simp only [e,f,m,g,l,j,q];rw[if_neg (by rintro(h | h | h | h);exact n h;exact p h;exact i h;exact x h)]
 have u:((r.proc.toNat:Nat):Int)=r.proc:=by omega
 rw[u,ZdU _ b.1 b.2,ZdU _ d.1 d.2];have k:Zav a r.proc+(r.seq-Zav a r.proc)=r.seq:=by omega
 rw[k,Zri ⟨by omega,by omega⟩]
 congr 1
 unfold ZbJ;simp only [length_append];omega
def DecB (b:List UInt8) (l:List Rec) (e:Int):Prop:=(e=0∧ZbE l∧ZdF l=b)∨(e=3∧l=[]∧∀ l',ZbE l'->ZdF l'≠b)
structure Seg where
 kind:Int
 first:Int
 recs:List Rec
def ZhD:Seg:=⟨0,0,[]⟩
def ZkE:Nat->Int->List Rec->List UInt8->List Rec
 | 0,_,pre,_=>pre
 | n+1,i,pre,b=>ZkE n i (pre++[{ (ZCf pre b).1 with idx:=i+pre.length }]) (b.drop (ZCf pre b).2)
def Zpl (b:List UInt8):List Rec:=ZkE (Zab (b.drop (Zab b).2)).1 (Zab b).1 [] (b.drop ((Zab b).2+(Zab (b.drop (Zab b).2)).2))
def ZgU (b:List UInt8):Option (List Rec):=if ZbE (Zpl b)∧ZdF (Zpl b)=b then some (Zpl b) else none
theorem ZkF:∀ (l a:List Rec) (i:Int) (t:List UInt8),(∀ r ∈ a,ZaA r)->(∀ r ∈ l,ZaA r)->Zbb (i+a.length) l->ZkE l.length i a (Zbs a l++t)=a++l
 | [],a,i,t,_,_,_=>by simp[ZkE]
 | r::l,a,i,t,hp,hl,b=>by
  obtain⟨j,b⟩:=b;have d:=hl r (by simp)
  have e:=ZAD hp d (Zbs (a++[r]) l++t);rw[length_cons,ZkE,Zbs,append_assoc,e];have g:({ ({ r with idx:=0 }:Rec) with idx:=i+a.length }:Rec)=r:=by rw[<-j]
  simp only [g,drop_left]
  rw[ZkF l (a++[r]) i t (fun s c=>by
   rcases List.mem_append.1 c with h | h
   ·exact hp s h
   ·rw[List.mem_singleton.1 h];exact d) (fun s c=>hl s (by simp[c])) (by
   have f:i+((a++[r]).length:Int)=i+(a.length:Int)+1:=by simp;omega
   rw[f];exact b)]
  simp
theorem Zuf {l:List Rec} (h:ZbE l):ZaA (l.headD Zaj):=by
 cases l with
 | nil=>exact absurd h.1 (by simp)
 | cons r t=>exact h.2.2.1 r (by simp)
theorem Zug {l:List Rec} (h:ZbE l):Zpl (ZdF l)=l:=by
 have a:=Zuf h;obtain⟨m,i,b,d⟩:=h;obtain⟨_,k,j,_⟩:=a
 have c:Zab (ZdF l)=((l.headD Zaj).idx.toNat,(Lib.uvarint (l.headD Zaj).idx.toNat).length):=by
  unfold ZdF;exact ZaT _ _ (by omega)
 have g:(ZdF l).drop (Lib.uvarint (l.headD Zaj).idx.toNat).length=Lib.uvarint l.length++Zbs [] l:=by
  unfold ZdF;rw[drop_left]
 have f:Zab (Lib.uvarint l.length++Zbs [] l)=(l.length,(Lib.uvarint l.length).length):=ZaT _ _ (by omega)
 unfold Zpl;rw[c];simp only;rw[<-drop_drop,g,f];simp only [drop_left]
 have h:=ZkF l [] ((l.headD Zaj).idx.toNat:Nat) [] (by simp) b (by
  have e:(((l.headD Zaj).idx.toNat:Nat):Int)+(([]:List Rec).length:Int)=(l.headD Zaj).idx:=by rw[length_nil];omega
  rw[e]
  exact d)
 rw[List.append_nil] at h;exact h
theorem Zww {l:List Rec} (h:ZbE l):ZgU (ZdF l)=some l:=by
 unfold ZgU;rw[Zug h,if_pos ⟨h,rfl⟩]
theorem Ziz {b:List UInt8} {l:List Rec} (h:ZgU b=some l):ZbE l∧ZdF l=b:=by
 unfold ZgU at h;split at h
 ·rename_i a
  injection h with h
  rw[<-h];exact a
 ·cases h
set_option linter.unusedVariables false in
def ZAk (v:Nat) (d:List UInt8):Option (List Rec):=
 if hd:d=[] then some []
 else if hk:(Zab d).2=0∨d.length<(Zab d).2+(Zab d).1∨(Zab d).1<1∨(d.getD (Zab d).2 0).toNat≠v then none
 else if(decR ((d.drop (Zab d).2).take (Zab d).1)).2≠0 then none
 else(ZAk v (d.drop ((Zab d).2+(Zab d).1))).map (fun t=>(decR ((d.drop (Zab d).2).take (Zab d).1)).1::t)
termination_by d.length
decreasing_by
 have h1:d.length≠0:=by simpa using hd
 rw[length_drop];omega
def ZBB (v:Nat) (r:Rec):List UInt8:=Lib.uvarint (encR v r).length++encR v r
def ZCk (v:Nat) (l:List Rec):List UInt8:=if v=3 then ZdF l else l.flatMap (ZBB v)
def ZbC (v k f:Nat):List UInt8:=108::(Lib.uvarint v++(Lib.uvarint k++Lib.uvarint f))
def ZBC:Nat->List (List UInt8)->List UInt8
 | _,[]=>[]
 | d,x::xs=>Lib.uvarint d++ZBC (Zad x).length xs
def ZBD (H:List UInt8) (B:List (List UInt8)):List UInt8:=Lib.uvarint B.length++ZBC (Zad H).length B
def Zte (l:List Rec) (first:Int):Prop:=l.length<=4096∧(∀ r ∈ l,ZaA r)∧Zbb first l
instance (l:List Rec) (first:Int):Decidable (Zte l first):=by unfold Zte;infer_instance
def MayG (s:Seg):Prop:=(0<=s.kind∧s.kind<6∧0<=s.first∧s.first<4611686018427387904)∧Zte s.recs s.first
instance (s:Seg):Decidable (MayG s):=by unfold MayG;infer_instance
def Zcy (d:List UInt8):Except Int (Nat × Nat × Nat):=
 let i:=(Zab (d.drop 1)).2
 let j:=(Zab (d.drop (1+i))).2
 let m:=(Zab (d.drop (1+i+j))).2
 if d=[]∨d.getD 0 0≠108 then .error 3
 else if i=0∨j=0∨m=0∨1+i+j+m≠d.length then .error 3
 else if(Zab (d.drop 1)).1<1∨3<(Zab (d.drop 1)).1 then .error 6
 else if 6<=(Zab (d.drop (1+i))).1 then .error 1
 else .ok ((Zab (d.drop 1)).1,(Zab (d.drop (1+i))).1,(Zab (d.drop (1+i+j))).1)
def Ztf (v:Nat) (d:List UInt8) (next:Int):Option (List Rec):=
 match (if v<3 then ZAk v d else ZgU d) with
 | none=>none
 | some l=>if((1<=l.length∧l.length<=16)∧Zte l next)∧ZCk v l=d then some l else none
def Zds (v:Nat) (first:Int):List (List UInt8)->List Rec->Nat->List Rec × Nat × Int
 | [],acc,_=>(acc,0,0)
 | d::ds,acc,last=>
  match Ztf v d (first+acc.length) with
  | none=>(acc,0,3)
  | some r=>if last<16 then(acc,0,3) else if 4096<acc.length+r.length then(acc,0,5)
   else((Zds v first ds (acc++r) r.length).1,(Zds v first ds (acc++r) r.length).2.1+1,(Zds v first ds (acc++r) r.length).2.2)
def ZBE (L:List (List UInt8)):Seg × Int:=
 if L.length<2 then(ZhD,16)
 else match Zcy (L.headD []) with
  | .error e=>(ZhD,e)
  | .ok (v,k,f)=>
   if(Zds v f (L.tail.dropLast) [] 16).2.2≠0 then(ZhD,(Zds v f (L.tail.dropLast) [] 16).2.2)
   else if ZBD (L.headD []) L.tail.dropLast=L.getLastD [] then(⟨k,f,(Zds v f (L.tail.dropLast) [] 16).1⟩,0) else(ZhD,16)
def ZyU (L:List (List UInt8)):Seg × Nat × Bool:=
 if L=[] then(ZhD,0,false)
 else match Zcy (L.headD []) with
  | .error _=>(ZhD,0,false)
  | .ok (v,k,f)=>(⟨k,f,(Zds v f L.tail [] 16).1⟩,(Zaf (L.take (1+(Zds v f L.tail [] 16).2.1))).length,true)
def ZdP (b:List UInt8):Seg × Nat × Bool:=ZyU (Zao b).1
structure Pce where
 name:Int
 first:Int
 stop:Int
def Zce:Pce:=⟨0,0,0⟩
structure Lgb where
 first:Int
 recs:List Rec
 pcs:List Pce
def Lgb.next (b:Lgb):Int:=b.first+b.recs.length
def Lgb.start (b:Lgb) (name first:Int):Lgb:=⟨if b.pcs.length=0 then first else b.first,b.recs,b.pcs++[⟨name,first,first⟩]⟩
def ZbY (l:List Pce) (n:Nat):List Pce:=l.set (l.length-1) ⟨(l.getD (l.length-1) Zce).name,(l.getD (l.length-1) Zce).first,(l.getD (l.length-1) Zce).stop+n⟩
def Lgb.add (b:Lgb) (l:List Rec):Lgb:=⟨b.first,b.recs++l,ZbY b.pcs l.length⟩
def ZbK (left:List Pce) (base:Int):Int:=if left.length=0 then base else(left.getD 0 Zce).first
def Lgb.letGo (b:Lgb) (left:List Pce) (base:Int):Lgb:=⟨ZbK left base,b.recs.drop (ZbK left base-b.first).toNat,left⟩
def Lgb.leads (b:Lgb) (base:ZaW):Prop:=b.pcs.length≠0∧b.first<=base.idx∧base.idx<=b.next∧(ZaQ base (b.recs.drop (base.idx-b.first).toNat)).2=0
instance (b:Lgb) (base:ZaW):Decidable (b.leads base):=by unfold Lgb.leads;infer_instance
def Lgb.behind (b:Lgb) (base:ZaW):Lgb × ZaW:=
 if b.leads base then(b,(ZaQ base (b.recs.drop (base.idx-b.first).toNat)).1) else(⟨base.idx,[],[]⟩,base)
structure Sto where
 log:Lgb
 bases:List ZaW
 now:ZaW
 synced:Int
 cur:Int
 nw:Bool
def Sto.next (s:Sto):Int:=s.log.next
def Sto.base (s:Sto):ZaW:=s.bases.getD (s.bases.length-1) Zbl
abbrev SDk:=Sto × Dk
def Zak (d:Dk):List Int:=(Zbk d).map Prod.fst
def ZaY (l:List Int) (first:Int):List Int:=l.filter fun n=>!(decide (n<first) || decide ((n-first) % 2≠0))
def Zbf (d:Dk) (first:Int):Int:=(ZaY (Zak d) first).getD ((ZaY (Zak d) first).length-1) (first-2)+2
def Zfp (H:List UInt8) (kind:Int):Option Nat:=
 match Zcy H with
 | .ok (v,k,f)=>if v=3∧(k:Int)=kind then some f else none
 | .error _=>none
def Zby (first:Int):List (List UInt8)->List Rec->List Rec
 | [],acc=>acc
 | d::t,acc=>
  match ZgU d with
  | none=>acc
  | some l=>if(l.headD Zaj).idx=first+acc.length then Zby first t (acc++l) else acc
def ZyF (b:List UInt8) (kind:Int):Option (Nat × List Rec):=
 match (Zao b).1 with
 | []=>none
 | H::B=>(Zfp H kind).map fun f=>(f,Zby f B [])
def ZeI:Lgb:=⟨0,[],[]⟩
def logOne (d:Dk) (kind:Int) (b:Lgb) (n:Int):Lgb:=
 match ZyF (Zdc d n).1 kind with
 | none=>b
 | some (f,l)=>if b.pcs.length=0∨(f:Int)=b.next then(b.start n f).add l else b
def Zji (d:Dk) (kind:Int):Lgb:=(ZaY (Zak d) 2).foldl (logOne d kind) ZeI
def ZdG (kind:Int):ZaW:=⟨0,Zdd kind,[]⟩
def Zdi (d:Dk) (kind:Int) (l:List ZaW) (n:Int):List ZaW:=
 if(Zrg (Zdc d n).1).2=0∧(Zrg (Zdc d n).1).1.st.kind=kind then l++[(Zrg (Zdc d n).1).1] else l
def Zbr (d:Dk) (kind:Int):List ZaW:=(ZaY (Zak d) 3).foldl (Zdi d kind) [ZdG kind]
def Zef (l:List ZaW):ZaW:=l.getD (l.length-1) Zbl
def ZjD (d:Dk) (kind:Int):Sto:=
 ⟨((Zji d kind).behind (Zef (Zbr d kind))).1,Zbr d kind,((Zji d kind).behind (Zef (Zbr d kind))).2,((Zji d kind).behind (Zef (Zbr d kind))).1.next,0,false⟩
def ZiA (d:Dk) (kind:Int):Int:=if kind<0∨6<=kind then 1 else if d.power=0 then 11 else 0
def Zbj:List (SDk->SDk × Int)->SDk->SDk × Int
 | [],x=>(x,0)
 | f::t,x=>if(f x).2=0 then Zbj t (f x).1 else f x
def Zar (x:SDk):SDk × Int:=((if(ZaS x.2).2=0 then { x.1 with nw:=false } else x.1,(ZaS x.2).1),(ZaS x.2).2)
def ZaJ (x:SDk):SDk × Int:=if x.1.nw=true then Zar x else(x,0)
def Zbv (f:Dk->Dk × Int) (x:SDk):SDk × Int:=((x.1,(f x.2).1),(f x.2).2)
def ZaD (x:SDk):SDk × Int:=Zbv (fun d=>Zdx d x.1.cur) x
def ZeJ (s:Sto):Sto:={ s with synced:=s.next }
def ZcE (x:SDk):SDk × Int:=
 if x.1.cur=0 then((ZeJ x.1,x.2),0) else
 if(Zbj [ZaD,ZaJ] x).2=0 then((ZeJ (Zbj [ZaD,ZaJ] x).1.1,(Zbj [ZaD,ZaJ] x).1.2),0) else Zbj [ZaD,ZaJ] x
def ZeK (x:SDk):SDk × Int:=if(ZcE x).2=0 then(({ (ZcE x).1.1 with cur:=0 },(ZcE x).1.2),0) else ZcE x
def Zew (s:Sto) (l:List Rec):List UInt8:=if s.cur=0 then Zad (ZbC 3 s.now.st.kind.toNat s.next.toNat)++Zad (ZdF l) else Zad (ZdF l)
def ZfL (s:Sto) (d:Dk):Int:=if s.cur=0 then Zbf d 2 else s.cur
def Zcf (s:Sto) (name:Int) (l:List Rec):Sto:=
 { s with log:=(if s.cur=0 then s.log.start name s.next else s.log).add l,now:=(ZaQ s.now l).1,cur:=name,nw:=if s.cur=0 then true else s.nw }
def Zbz (l:List Rec) (x:SDk):SDk × Int:=
 if ¬ ZbE l then(x,1) else if(l.headD Zaj).idx≠x.1.next then(x,15) else
 if(ZaK x.2 (ZfL x.1 x.2) (Zew x.1 l)).2=0 then((Zcf x.1 (ZfL x.1 x.2) l,(ZaK x.2 (ZfL x.1 x.2) (Zew x.1 l)).1),0)
 else((x.1,(ZaK x.2 (ZfL x.1 x.2) (Zew x.1 l)).1),(ZaK x.2 (ZfL x.1 x.2) (Zew x.1 l)).2)
def ZnQ (x:SDk):SDk × Int:=(x,if ZgA x.1.now then 0 else 1)
def ZcG (x:SDk):SDk × Int:=if 1 ∈ Zak x.2 then Zbv (fun d=>Zam d 1) x else(x,0)
def ZhE (x:SDk):SDk × Int:=Zbv (fun d=>ZaK d 1 (if ZgA x.1.now then ZyE x.1.now else[])) x
def Zeg (x:SDk):SDk × Int:=Zbv (fun d=>Zdg d 1 (Zbf d 3)) x
def ZgV:SDk->SDk × Int:=Zbj [ZcE,ZnQ,ZcG,ZhE,Zbv (fun d=>Zdx d 1),Zeg,Zar]
def Zbn (x:SDk):SDk × Int:=
 if(ZgV x).2=0 then(({ (ZgV x).1.1 with bases:=(ZgV x).1.1.bases++[(ZgV x).1.1.now] },(ZgV x).1.2),0) else ZgV x
def ZnR (s:Sto) (p:Pce):Bool:=decide (p.stop<=s.base.idx) && decide (p.name≠s.cur)
def ZgW (s:Sto):List Pce:=s.log.pcs.filter fun p=>!ZnR s p
def ZnS (s:Sto):List (SDk->SDk × Int):=(s.log.pcs.filter (ZnR s)).map fun p=>Zbv (fun d=>Zam d p.name)
def ZdA (x:SDk):SDk × Int:=
 if(Zbj (ZnS x.1++[Zar]) x).2=0 then(({ (Zbj (ZnS x.1++[Zar]) x).1.1 with log:=x.1.log.letGo (ZgW x.1) x.1.base.idx },(Zbj (ZnS x.1++[Zar]) x).1.2),0)
 else Zbj (ZnS x.1++[Zar]) x
def ZjQ (s:Sto) (a b:Int):List Rec × Int:=
 if a<0∨b<a∨s.next<b then([],12) else if a<s.log.first then([],13) else((s.log.recs.take (b-s.log.first).toNat).drop (a-s.log.first).toNat,0)
theorem ZcS (l:List UInt8) (a b:Nat):(l.drop a).take b++l.drop (a+b)=l.drop a:=by rw[<-drop_drop,take_append_drop]
theorem Zrj {e:Ent} (h:Zfo e):e.proc.toNat<4611686018427387904∧e.seq.toNat<4611686018427387904∧I64 e.resp∧((e.proc.toNat:Nat):Int)=e.proc∧((e.seq.toNat:Nat):Int)=e.seq:=by
 obtain⟨g,b,a,c,d,f⟩:=h;exact⟨by omega,by omega,⟨by omega,by omega⟩,by omega,by omega⟩
theorem ZyV (e:Ent):1<=(ZyS e).length:=by
 unfold ZyS;have:=Zhz e.proc.toNat;rw[length_append];omega
theorem Zwx (t:List Ent):t.length<=(Zcs t).length:=by
 induction t with
 | nil=>simp
 | cons e t a=>
  unfold Zcs at a ⊢;rw[List.flatMap_cons,length_append,length_cons];have:=ZyV e;omega
theorem Zpm {t:List Ent} (h:ZhB t):t.length<=65:=by
 have d:∀ i,i<t.length->(i:Int)<=(t.getD i ZaP).proc:=by
  intro i
  induction i with
  | zero=>
   intro a;exact(h 0 a).1.1
  | succ i c=>
   intro a;have e:=c (by omega)
   have b:=(h (i+1) a).2 (by omega)
   rw[Nat.add_sub_cancel] at b;omega
 by_cases f:t.length=0
 ·omega
 ·have e:=d (t.length-1) (by omega)
  have b:=(h (t.length-1) (by omega)).1.2.1
  omega
theorem ZyW {e:Ent} (h:Zfo e):(ZyS e).length<=30:=by
 obtain⟨f,c,a,_⟩:=Zrj h;have g:=Lib.uvarint_length64 (x:=e.proc.toNat) (by omega)
 have d:=Lib.uvarint_length64 (x:=e.seq.toNat) (by omega)
 have b:=Lib.uvarint_length64 (ZeV a);unfold ZyS;rw[length_append,length_append];omega
theorem Ztg:∀ (t:List Ent),(∀ e ∈ t,Zfo e)->(Zcs t).length<=30*t.length
 | [],_=>by simp[Zcs]
 | e::t,h=>by
  have d:=ZyW (h e (by simp))
  have b:=Ztg t (fun a c=>h a (by simp[c]))
  unfold Zcs at b ⊢;rw[List.flatMap_cons,length_append,length_cons];omega
theorem Zth:∀ (l:List Int),(∀ x ∈ l,I64 x)->(ZcR l).length<=10*l.length
 | [],_=>by simp[ZcR]
 | x::t,h=>by
  have d:=Lib.uvarint_length64 (ZeV (h x (by simp)))
  have c:=Zth t (fun a b=>h a (by simp[b]))
  rw[ZcR,length_append,length_cons];omega
theorem Zwy (h:ZcD s):(ZjP s).length<=2000:=by
 obtain⟨d,b,a⟩:=Zkr h;have c:=Ztb h;have f:=Lib.uvarint_length64 (x:=s.kind.toNat) (by omega)
 have i:=Lib.uvarint_length64 (x:=ZeH s) (by omega)
 have g:=Lib.uvarint_length64 (x:=s.L.length) (by omega)
 have e:=Zth s.L a;unfold ZjP;rw[length_append,length_append,length_append];omega
theorem Zfa {s:ZaW} (h:ZgA s):(Zbc s).length<=5000:=by
 obtain⟨_,b,a⟩:=h;have c:=Zwy b;have d:=Zpm a;have f:=Ztg s.tab a.mem;have g:=Lib.uvarint_length64 (x:=(ZjP s.st).length) (by omega)
 have e:=Lib.uvarint_length64 (x:=s.tab.length) (by omega)
 unfold Zbc ZBA;rw[length_append,length_append,length_append];omega
theorem ZhF {i:Nat} (b:i<4611686018427387904) {w:List UInt8} (a:w.length<4611686018427387904):(Ziu i w).length<=40:=by
 have c:=Lib.uvarint_length64 (x:=3) (by decide)
 have e:=Lib.uvarint_length64 (x:=i) (by omega)
 have d:=Lib.uvarint_length64 (x:=w.length) (by omega)
 unfold Ziu;rw[length_cons,length_append,length_append,length_append,Lib.leBytes_length];omega
theorem Zuh {s:ZaW} (h:ZgA s):∀ x ∈ Zee s,x.length<=1048576:=by
 intro x hx;have a:=Zfa h;obtain⟨⟨c,b⟩,_⟩:=h;unfold Zee at hx;rcases List.mem_cons.1 hx with hx | hx
 ·rw[hx]
  have:=ZhF (i:=s.idx.toNat) (by omega) (w:=Zbc s) (by omega)
  omega
 ·have:=Ziv _ _ x zL hx
  omega
theorem ZgX:∀ (n:Nat) (b:List UInt8) (t:List Ent) (x:List UInt8),Zeq n b=some (t,x)->t.length=n∧b=Zcs t++x
 | 0,b,t,x,h=>by
  simp only [Zeq,Option.some.injEq,Prod.mk.injEq] at h;obtain⟨rfl,rfl⟩:=h;exact⟨rfl,rfl⟩
 | n+1,b,t,x,h=>by
  rw[Zeq] at h;split at h
  ·cases h
  ·rename_i c
   have l:(Zab b).2≠0:=fun e=>c (.inl e)
   have m:(Zab (b.drop (Zab b).2)).2≠0:=fun e=>c (.inr (.inl e))
   have g:(Zah (b.drop ((Zab b).2+(Zab (b.drop (Zab b).2)).2))).2≠0:=fun e=>c (.inr (.inr e))
   rw[Option.map_eq_some_iff] at h;obtain⟨⟨a,x'⟩,u,d⟩:=h;simp only [Prod.mk.injEq] at d;obtain⟨rfl,rfl⟩:=d;obtain⟨v,k⟩:=ZgX n _ a x' u;refine⟨by rw[length_cons,v],?_⟩
   have j:=ZbD l;have f:=ZbD m;have q:=ZmN g
   have E:Zcs (⟨(Zab b).1,(Zab (b.drop (Zab b).2)).1,zag (Zah (b.drop ((Zab b).2+(Zab (b.drop (Zab b).2)).2))).1⟩::a)++x'=Lib.uvarint (Zab b).1++(Lib.uvarint (Zab (b.drop (Zab b).2)).1++(Lib.uvarint (Zah (b.drop ((Zab b).2+(Zab (b.drop (Zab b).2)).2))).1++(Zcs a++x'))):=by
    unfold Zcs;rw[List.flatMap_cons];unfold ZyS;simp only [Int.toNat_natCast,ZeT,append_assoc]
   have p:Lib.uvarint (Zah (b.drop ((Zab b).2+(Zab (b.drop (Zab b).2)).2))).1++(Zcs a++x')=b.drop ((Zab b).2+(Zab (b.drop (Zab b).2)).2):=by
    rw[<-k,q];exact ZcS _ _ _
   have i:Lib.uvarint (Zab (b.drop (Zab b).2)).1++b.drop ((Zab b).2+(Zab (b.drop (Zab b).2)).2)=b.drop (Zab b).2:=by
    rw[f];exact ZcS _ _ _
   rw[E,p,i,j,take_append_drop]
theorem Zpn {b:List UInt8} {t:List Ent} (h:ZeY b=some t):ZBA t=b:=by
 unfold ZeY at h;split at h
 ·cases h
 ·rename_i g
  have d:(Zab b).2≠0:=fun e=>g (.inl e)
  cases hr:Zeq (Zab b).1 (b.drop (Zab b).2) with
  | none=>rw[hr] at h;cases h
  | some p=>
   obtain⟨i,x⟩:=p;rw[hr] at h
   cases x with
   | cons c x=>cases h
   | nil=>
    simp only [Option.some.injEq] at h;subst h;obtain⟨f,a⟩:=ZgX _ _ _ _ hr;rw[List.append_nil] at a;unfold ZBA;rw[f,<-a,ZbD d,take_append_drop]
theorem Zrk {w:List UInt8} (h:(ZbS w).2=0):Zbc ⟨0,(ZbS w).1.st,(ZbS w).1.tab⟩=w:=by
 unfold ZbS at h ⊢;split at h
 ·exact absurd h (by decide)
 ·rename_i a
  rw[if_neg a];have d:(Zab w).2≠0:=fun e=>a (.inl e)
  have g:(Zab w).2+(Zab w).1<=w.length:=by omega
  split at h
  ·exact absurd h (by decide)
  ·rename_i b
   rw[if_neg b]
   cases ht:ZeY (w.drop ((Zab w).2+(Zab w).1)) with
   | none=>rw[ht] at h;exact absurd h (by show ¬ ((3:Int)=0);decide)
   | some t=>
    rw[ht] at h;have f:=ZtY h;have c:=Zpn ht;show Zbc ⟨0,(Zil ((w.drop (Zab w).2).take (Zab w).1)).1,t⟩=w;unfold Zbc;rw[f.2,c,length_take,length_drop,Nat.min_eq_left (by omega),ZbD d,<-drop_drop,take_append_drop,take_append_drop]
theorem Zrl (h:(ZbV d).2.2.2=0) {w:List UInt8} (a:w.length=(ZbV d).2.1) (b:Zaz 0 w=(ZbV d).2.2.1):d=Ziu (ZbV d).1 w∧(ZbV d).1<4611686018427387904:=by
 unfold ZbV at h a b ⊢;split at h
 ·exact absurd h (by decide)
 ·rename_i g
  rw[if_neg g] at a b ⊢;simp only at h a b ⊢;split at h
  ·exact absurd h (by decide)
  ·rename_i f
   rw[if_neg f] at a b ⊢;split at h
   ·exact absurd h (by decide)
   ·rename_i k
    rw[if_neg k] at a b ⊢;split at h
    ·exact absurd h (by decide)
    ·rename_i i
     rw[if_neg i] at a b ⊢;simp only at a b ⊢;have y:(Zab (d.drop 1)).2≠0:=fun e=>f (.inl e)
     have z:(Zab (d.drop (1+(Zab (d.drop 1)).2))).2≠0:=fun e=>f (.inr (.inl e))
     have t:(Zab (d.drop (1+(Zab (d.drop 1)).2+(Zab (d.drop (1+(Zab (d.drop 1)).2))).2))).2≠0:=fun e=>f (.inr (.inr e))
     have l:(Zab (d.drop 1)).1=3:=Decidable.not_not.1 k;have m:(d.drop (1+(Zab (d.drop 1)).2+(Zab (d.drop (1+(Zab (d.drop 1)).2))).2+(Zab (d.drop (1+(Zab (d.drop 1)).2+(Zab (d.drop (1+(Zab (d.drop 1)).2))).2))).2)).length=4:=Decidable.not_not.1 i;have v:=ZbD y;have n:=ZbD z;have B:=ZbD t;have j:=Zfl (d.drop (1+(Zab (d.drop 1)).2+(Zab (d.drop (1+(Zab (d.drop 1)).2))).2+(Zab (d.drop (1+(Zab (d.drop 1)).2+(Zab (d.drop (1+(Zab (d.drop 1)).2))).2))).2));rw[m] at j
     have q:(Zab (d.drop (1+(Zab (d.drop 1)).2))).1<4611686018427387904:=by
      rcases Zay (d.drop (1+(Zab (d.drop 1)).2)) with e | e
      ·rw[e];decide
      ·exact e.1
     refine⟨?_,q⟩;unfold Ziu
     have A:Lib.uvarint w.length++Lib.leBytes 4 (Zaz 0 w)=d.drop (1+(Zab (d.drop 1)).2+(Zab (d.drop (1+(Zab (d.drop 1)).2))).2):=by
      rw[b,j,a,B];exact ZcS _ _ _
     have u:Lib.uvarint (Zab (d.drop (1+(Zab (d.drop 1)).2))).1++d.drop (1+(Zab (d.drop 1)).2+(Zab (d.drop (1+(Zab (d.drop 1)).2))).2)=d.drop (1+(Zab (d.drop 1)).2):=by
      rw[n];exact ZcS _ _ _
     have p:Lib.uvarint 3++d.drop (1+(Zab (d.drop 1)).2)=d.drop 1:=by
      rw[<-l,v];exact ZcS _ _ _
     rw[A,u,p];have C:(d.getD 0 0).toNat=115:=Decidable.not_not.1 (fun e=>g (.inr e))
     have x:¬ d.length<1:=fun e=>g (.inl e)
     cases d with
     | nil=>exact absurd (by decide) x
     | cons c r=>
      have:c=115:=by
       apply UInt8.toNat_inj.1;simpa using C
      rw[this];rfl
theorem Zui {b:List UInt8} (h:(Zrg b).2=0):ZgA (Zrg b).1∧ZyE (Zrg b).1=b:=by
 unfold Zrg at h ⊢;by_cases a:(Zao b).2.2=0
 case neg=>
  rw[if_pos a] at h;exact absurd h (by show((Zao b).2.2:Int)≠0;omega)
 rw[if_neg (Decidable.not_not.2 a)] at h ⊢;obtain⟨l,t⟩:=Zit _ b zL a;generalize (Zao b).1=L at *;unfold ZmQ at h ⊢
 cases L with
 | nil=>exact absurd h (by decide)
 | cons d P=>
  simp only at h ⊢;split at h
  ·rename_i e;exact absurd h e
  rename_i k
  rw[if_neg k];split at h
  ·exact absurd h (by decide)
  rename_i i
  rw[if_neg i];split at h
  ·exact absurd h (by decide)
  rename_i f
  rw[if_neg f];split at h
  ·exact absurd h (by decide)
  rename_i c
  rw[if_neg c];split at h
  ·rename_i e;exact absurd h e
  rename_i j
  rw[if_neg j];split at h
  ·rename_i g
   rw[if_pos g];have m:=Zrl (Decidable.not_not.1 k) (Decidable.not_not.1 i) (Decidable.not_not.1 c);have p:=Zrk (Decidable.not_not.1 j);have q:=ZfT P (Decidable.not_not.1 f);refine⟨g,?_⟩;have n:Zbc ⟨((ZbV d).1:Nat),(ZbS P.flatten).1.st,(ZbS P.flatten).1.tab⟩=P.flatten:=p;unfold ZyE Zee;rw[n,q];show Zaf (Ziu (((ZbV d).1:Nat):Int).toNat P.flatten::P)=b;rw[Int.toNat_natCast,<-m.1];exact l
  ·exact absurd h (by decide)
def Zex:Int->List Pce->Int->Prop
 | i,[],j=>i=j
 | i,p::t,j=>p.first=i∧i<=p.stop∧Zex p.stop t j
theorem ZfV:∀ {l:List Pce} {i j:Int},Zex i l j->i<=j
 | [],_,_,h=>Int.le_of_eq h
 | _::_,_,_,h=>by
  have:=ZfV h.2.2;have:=h.2.1;omega
theorem Zfb:∀ {l:List Pce} {i j:Int},Zex i l j->∀ p ∈ l,i<=p.first∧p.first<=p.stop∧p.stop<=j
 | q::t,i,j,h,p,hp=>by
  obtain⟨c,b,a⟩:=h;rcases List.mem_cons.1 hp with rfl | hp
  ·have:=ZfV a
   omega
  ·have:=Zfb a p hp
   omega
theorem Zdj:∀ {a b:List Pce} {i j:Int},Zex i (a++b) j↔∃ k,Zex i a k∧Zex k b j
 | [],b,i,j=>by
  constructor
  ·intro h
   exact⟨i,rfl,h⟩
  ·rintro⟨k,h1,h2⟩
   have e:i=k:=h1;rw[e];exact h2
 | p::a,b,i,j=>by
  constructor
  ·rintro⟨h1,h2,h3⟩
   obtain⟨k,c,d⟩:=Zdj.1 h3;exact⟨k,⟨h1,h2,c⟩,d⟩
  ·rintro⟨k,⟨h1,h2,c⟩,d⟩
   exact⟨h1,h2,Zdj.2 ⟨k,c,d⟩⟩
theorem ZhG (l:List Pce) (p:Pce) (n:Nat):ZbY (l++[p]) n=l++[⟨p.name,p.first,p.stop+n⟩]:=by
 unfold ZbY;have e:(l++[p]).length-1=l.length:=by simp
 rw[e];have a:(l++[p]).getD l.length Zce=p:=by simp[List.getD]
 rw[a,List.set_append_right _ _ zL];simp
theorem ZcT (l:List Pce) (n:Nat):(ZbY l n).length=l.length:=by simp[ZbY]
theorem ZnT {α:Type} {l:List α} (h:l.length≠0):∃ a x,l=a++[x]:=by
 have b:l≠[]:=fun e=>h (by rw[e];rfl)
 exact⟨l.dropLast,l.getLast b,(List.dropLast_concat_getLast b).symm⟩
theorem Zrm {l:List Pce} (h:Zex i l j) (f:l.length≠0):Zex i (ZbY l n) (j+n):=by
 obtain⟨a,p,rfl⟩:=ZnT f;rw[ZhG,Zdj];obtain⟨k,d,b,g,c⟩:=Zdj.1 h;refine⟨k,d,b,?_,?_⟩
 ·show k<=p.stop+n
  omega
 ·show p.stop+n=j+n
  have e:p.stop=j:=c;rw[e]
theorem Zrn {l:List Pce} (h:Zex i l j) (name:Int):Zex i (l++[⟨name,j,j⟩]) j:=Zdj.2 ⟨j,h,rfl,Int.le_refl _,rfl⟩
theorem ZgE (l:List Pce) (n:Nat):(ZbY l n).map Pce.name=l.map Pce.name:=by
 by_cases h:l.length=0
 ·rw[eq_nil_of_length_eq_zero h]
  rfl
 ·obtain⟨a,p,rfl⟩:=ZnT h
  rw[ZhG];simp
theorem Zti (cur base:Int):∀ (l:List Pce) (i j:Int),Zex i l j->(∀ p ∈ l.dropLast,p.name≠cur)->i<=base->
 (∃ a,a++l.filter (fun p=>!(decide (p.stop<=base) && decide (p.name≠cur)))=l∧(∀ p ∈ a,p.stop<=base∧p.name≠cur))∧ZbK (l.filter (fun p=>!(decide (p.stop<=base) && decide (p.name≠cur)))) base<=base
 | [],i,j,_,_,_=>⟨⟨[],rfl,fun p c=>by cases c⟩,Int.le_refl _⟩
 | p::t,i,j,h,hc,hi=>by
  obtain⟨w,A,d⟩:=h;by_cases b:p.stop<=base∧p.name≠cur
  ·have e:(p::t).filter (fun p=>!(decide (p.stop<=base) && decide (p.name≠cur)))=t.filter (fun p=>!(decide (p.stop<=base) && decide (p.name≠cur))):=by
    rw[List.filter_cons,if_neg (by simp[b.1,b.2])]
   rw[e]
   obtain⟨⟨a,v,m⟩,u⟩:=Zti cur base t p.stop j d (fun q hq=>hc q (by
    cases t with
    | nil=>cases hq
    | cons x t=>rw[List.dropLast_cons_cons];exact List.mem_cons_of_mem _ hq)) b.1
   refine⟨⟨p::a,by rw[cons_append,v],fun q hq=>?_⟩,u⟩
   rcases List.mem_cons.1 hq with rfl | hq
   ·exact b
   ·exact m q hq
  ·have e:(p::t).filter (fun p=>!(decide (p.stop<=base) && decide (p.name≠cur)))=p::t:=by
    rw[List.filter_eq_self];intro q hq;rcases List.mem_cons.1 hq with rfl | hq
    ·simp only [Bool.not_eq_true',Bool.and_eq_false_imp,decide_eq_true_eq,decide_eq_false_iff_not]
     intro g;exact fun f=>b ⟨g,f⟩
    ·have k:t≠[]:=fun e=>by rw[e] at hq;cases hq
     have c:p.name≠cur:=hc p (by
      cases t with
      | nil=>exact absurd rfl k
      | cons x t=>rw[List.dropLast_cons_cons];exact List.mem_cons_self)
     have f:¬ p.stop<=base:=fun n=>b ⟨n,c⟩
     have z:=Zfb d q hq;simp only [Bool.not_eq_true',Bool.and_eq_false_imp,decide_eq_true_eq,decide_eq_false_iff_not];intro y;omega
   rw[e];refine⟨⟨[],rfl,(fun q hq=>by cases hq)⟩,?_⟩
   show(if(p::t).length=0 then base else p.first)<=base
   rw[if_neg (by simp),w]
   exact hi
structure OkG (b:Lgb):Prop where
 f0:0<=b.first
 fits:∀ r ∈ b.recs,ZaA r
 ch:Zex b.first b.pcs b.next
 rc:Zbb b.first b.recs
 top:b.next<=4611686018427387904
theorem Zgq:∀ {a b:List Rec} {i:Int},Zbb i (a++b)↔Zbb i a∧Zbb (i+a.length) b
 | [],b,i=>by simp[Zbb]
 | r::a,b,i=>by
  have e:i+1+(a.length:Int)=i+(((r::a).length:Nat):Int):=by rw[length_cons];omega
  rw[cons_append,<-e];show(r.idx=i∧Zbb (i+1) (a++b))↔(r.idx=i∧Zbb (i+1) a)∧Zbb (i+1+(a.length:Int)) b;rw[Zgq,and_assoc]
theorem Zro {l:List Rec} (h:Zbb i l) (k:Nat) (a:k<=l.length):Zbb (i+k) (l.drop k):=by
 rw[<-take_append_drop k l] at h;have:=(Zgq.1 h).2
 rwa [length_take,Nat.min_eq_left a] at this
theorem Ztj (i:Int) (a:0<=i) (c:i<=4611686018427387904):OkG ⟨i,[],[]⟩:=by
 have e:(⟨i,[],[]⟩:Lgb).next=i:=by simp[Lgb.next]
 exact⟨a,(fun r b=>by cases b),by rw[e];exact rfl,trivial,by rw[e];exact c⟩
theorem Lgb.start_next (b:Lgb) (n f:Int) (h:b.pcs.length=0->b.recs=[]) (hf:b.pcs.length=0∨f=b.next):(b.start n f).next=f:=by
 unfold Lgb.start Lgb.next;by_cases a:b.pcs.length=0
 ·rw[if_pos a,h a]
  simp
 ·rw[if_neg a]
  rcases hf with hf | hf
  ·exact absurd hf a
  ·rw[hf]
   rfl
theorem OkG.empty {b:Lgb} (h:OkG b) (d:b.pcs.length=0):b.recs=[]:=by
 have a:=h.ch;rw[eq_nil_of_length_eq_zero d] at a;have c:b.first=b.next:=a;unfold Lgb.next at c;exact eq_nil_of_length_eq_zero (by omega)
theorem OkG.start {b:Lgb} (h:OkG b) (n f:Int) (k:0<=f) (g:f<=4611686018427387904) (d:b.pcs.length=0∨f=b.next):OkG (b.start n f):=by
 have a:=b.start_next n f h.empty d;by_cases c:b.pcs.length=0
 ·have e:b.start n f=⟨f,[],[⟨n,f,f⟩]⟩:=by
   unfold Lgb.start;rw[if_pos c,h.empty c,eq_nil_of_length_eq_zero c];rfl
  rw[e] at a ⊢;exact⟨k,(fun r i=>by cases i),by rw[a];exact⟨rfl,Int.le_refl _,rfl⟩,trivial,by rw[a];exact g⟩
 ·have j:f=b.next:=d.resolve_left c
  have e:b.start n f=⟨b.first,b.recs,b.pcs++[⟨n,f,f⟩]⟩:=by
   unfold Lgb.start;rw[if_neg c]
  rw[e] at a ⊢;refine⟨h.f0,h.fits,?_,h.rc,by rw[a];exact g⟩
  rw[a,j];exact Zrn h.ch n
theorem Lgb.add_next (b:Lgb) (l:List Rec):(b.add l).next=b.next+l.length:=by
 unfold Lgb.add Lgb.next;simp only [length_append];omega
theorem OkG.add {b:Lgb} (h:OkG b) (l:List Rec) (e:b.pcs.length≠0) (d:∀ r ∈ l,ZaA r) (a:Zbb b.next l) (c:b.next+l.length<=4611686018427387904):OkG (b.add l):=by
 refine⟨h.f0,fun r hr=>?_,?_,?_,by rw[b.add_next];exact c⟩
 ·rcases List.mem_append.1 hr with hr | hr
  ·exact h.fits r hr
  ·exact d r hr
 ·rw[b.add_next]
  exact Zrm h.ch e
 ·exact Zgq.2 ⟨h.rc,a⟩
theorem ZiB:∀ {l:List Rec} {i:Int},Zbb i l->(∀ r ∈ l,ZaA r)->l≠[]->i+l.length<=4611686018427387904
 | [],_,_,_,h=>absurd rfl h
 | [r],i,h,hf,_=>by
  have c:r.idx=i:=h.1;have b:=(hf r List.mem_cons_self).2.2.1;simp only [List.length_singleton];omega
 | r::q::t,i,h,hf,_=>by
  have:=ZiB (l:=q::t) h.2 (fun x a=>hf x (List.mem_cons_of_mem _ a)) (by simp)
  simp only [length_cons] at this ⊢;omega
theorem OkG.letGo {b:Lgb} (h:OkG b) {cur base:Int} (A:∀ p ∈ b.pcs.dropLast,p.name≠cur) (B:b.first<=base) (E:base<=b.next):
 OkG (b.letGo (b.pcs.filter fun p=>!(decide (p.stop<=base) && decide (p.name≠cur))) base)∧(b.letGo (b.pcs.filter fun p=>!(decide (p.stop<=base) && decide (p.name≠cur))) base).first<=base∧
  (b.letGo (b.pcs.filter fun p=>!(decide (p.stop<=base) && decide (p.name≠cur))) base).next=b.next∧b.first<=(b.letGo (b.pcs.filter fun p=>!(decide (p.stop<=base) && decide (p.name≠cur))) base).first:=by
 obtain⟨⟨a,u,v⟩,q⟩:=Zti cur base b.pcs b.first b.next h.ch A B;generalize b.pcs.filter (fun p=>!(decide (p.stop<=base) && decide (p.name≠cur)))=left at u q ⊢
 have i:=h.ch;rw[<-u] at i;obtain⟨k,c,d⟩:=Zdj.1 i;have D:=ZfV c;have C:=ZfV d
 have x:Zex (ZbK left base) left b.next∧b.first<=ZbK left base∧ZbK left base<=b.next:=by
  unfold ZbK
  cases left with
  | nil=>
   rw[if_pos (show([]:List Pce).length=0 from rfl)];have e:k=b.next:=d
   have F:k<=base:=by
    by_cases n:a.length=0
    ·rw[eq_nil_of_length_eq_zero n] at c
     have:b.first=k:=c;omega
    ·obtain⟨a',p,rfl⟩:=ZnT n
     obtain⟨m,_,_,_,z⟩:=Zdj.1 c;have G:p.stop=k:=z;have:=(v p (by simp)).1
     omega
   refine⟨?_,by omega,by omega⟩
   show base=b.next;omega
  | cons p t=>
   rw[if_neg (by simp)]
   show Zex p.first (p::t) b.next∧b.first<=p.first∧p.first<=b.next;obtain⟨j,l,f⟩:=d;exact⟨⟨rfl,by omega,f⟩,by omega,by omega⟩
 obtain⟨j,l,f⟩:=x;have w:(ZbK left base-b.first).toNat<=b.recs.length:=by unfold Lgb.next at f;omega
 have g:(b.letGo left base).next=b.next:=by
  unfold Lgb.letGo Lgb.next;simp only [length_drop];omega
 refine⟨⟨?_,fun r y=>h.fits r (List.mem_of_mem_drop y),?_,?_,by rw[g];exact h.top⟩,q,g,l⟩
 ·show 0<=ZbK left base
  have:=h.f0;omega
 ·rw[g]
  exact j
 ·have:=Zro h.rc (ZbK left base-b.first).toNat w
  have e:b.first+(((ZbK left base-b.first).toNat:Nat):Int)=ZbK left base:=by omega
  rw[e] at this;exact this
open Go.RowKit Go.Shelf
def ZyX:Go.Shelf.Ren:=⟨fun | 5=>145 | 7=>192 | n=>n,fun | 23=>65 | 25=>3 | 3=>115 | 4=>4 | 20=>20 | n=>n,fun | n=>n⟩
theorem layW:Go.Proofs.SlLaysW.n5 prog ZyX:={
 mixed:=by kernel_rfl
 f5:=⟨f145.name,by decide,func145.trans (congrArg some (by kernel_rfl))⟩
 f7:=func192.trans (congrArg some (by kernel_rfl))
 t4:=underlying4
 a4:=Tryz.isAgg4
 z4:=Tryz.sizeOf4
 v4:=Tryz.zeroValue4
 t20:=underlying20
 a20:=Tryz.isAgg20
 z20:=Tryz.sizeOf20
 v20:=Tryz.zeroValue20
 t23:=underlying65
 a23:=Tryz.isAgg65
 z23:=Tryz.sizeOf65
 v23:=Tryz.zeroValue65 }
def ZyY:Go.Shelf.Ren:=⟨fun | 5=>73 | n=>n,fun | 23=>65 | 24=>65 | 26=>3 | 27=>115 | 0=>0 | 4=>4 | n=>n,fun | n=>n⟩
theorem layX:Go.Proofs.SlLaysX.n5 prog ZyY:={
 mixed:=by kernel_rfl
 f5:=⟨f73.name,by decide,func73.trans (congrArg some (by kernel_rfl))⟩
 t0:=underlying0
 a0:=Tryz.isAgg0
 z0:=Tryz.sizeOf0
 v0:=Tryz.zeroValue0
 t4:=underlying4
 a4:=Tryz.isAgg4
 z4:=Tryz.sizeOf4
 v4:=Tryz.zeroValue4
 t23:=underlying65
 a23:=Tryz.isAgg65
 z23:=Tryz.sizeOf65
 v23:=Tryz.zeroValue65
 t24:=underlying65
 a24:=Tryz.isAgg65
 z24:=Tryz.sizeOf65
 v24:=Tryz.zeroValue65
 a26:=Tryz.isAgg3
 z26:=Tryz.sizeOf3
 a27:=Tryz.isAgg115
 z27:=Tryz.sizeOf115 }
def ZyZ:Go.Shelf.Ren:=⟨fun | 189=>67 | 125=>109 | 257=>108 | 128=>155 | 129=>156 | 294=>146 | 295=>147 | 296=>148 | 297=>149 | 298=>150 | 299=>151 | 216=>152 | 300=>153 | 301=>154 | 328=>193 | 329=>194 | 330=>195 | 331=>196 | 332=>197 | 215=>198 | 343=>216 | n=>n,fun | 28=>23 | 3=>3 | 46=>157 | 0=>0 | 51=>145 | 53=>202 | 4=>4 | 183=>194 | 182=>193 | 131=>170 | 5=>5 | 9=>9 | 218=>239 | 222=>208 | 228=>268 | 229=>247 | n=>n,fun | n=>n⟩
theorem ZCl:Go.Proofs.Lays.n189 prog ZyZ:={
 mixed:=by kernel_rfl
 f125:=func109.trans (congrArg some (by kernel_rfl))
 f128:=func155.trans (congrArg some (by kernel_rfl))
 f129:=func156.trans (congrArg some (by kernel_rfl))
 f189:=func67.trans (congrArg some (by kernel_rfl))
 f215:=func198.trans (congrArg some (by kernel_rfl))
 f216:=func152.trans (congrArg some (by kernel_rfl))
 f257:=func108.trans (congrArg some (by kernel_rfl))
 f294:=func146.trans (congrArg some (by kernel_rfl))
 f295:=func147.trans (congrArg some (by kernel_rfl))
 f296:=func148.trans (congrArg some (by kernel_rfl))
 f297:=func149.trans (congrArg some (by kernel_rfl))
 f298:=func150.trans (congrArg some (by kernel_rfl))
 f299:=func151.trans (congrArg some (by kernel_rfl))
 f300:=func153.trans (congrArg some (by kernel_rfl))
 f301:=func154.trans (congrArg some (by kernel_rfl))
 f328:=func193.trans (congrArg some (by kernel_rfl))
 f329:=func194.trans (congrArg some (by kernel_rfl))
 f330:=func195.trans (congrArg some (by kernel_rfl))
 f331:=func196.trans (congrArg some (by kernel_rfl))
 f332:=func197.trans (congrArg some (by kernel_rfl))
 f343:=func216.trans (congrArg some (by kernel_rfl))
 t0:=underlying0
 a0:=Tryz.isAgg0
 z0:=Tryz.sizeOf0
 v0:=Tryz.zeroValue0
 t3:=underlying3
 a3:=Tryz.isAgg3
 z3:=Tryz.sizeOf3
 v3:=Tryz.zeroValue3
 t4:=underlying4
 a4:=Tryz.isAgg4
 z4:=Tryz.sizeOf4
 v4:=Tryz.zeroValue4
 t5:=underlying5
 a5:=Tryz.isAgg5
 z5:=Tryz.sizeOf5
 v5:=Tryz.zeroValue5
 t9:=underlying9
 a9:=Tryz.isAgg9
 z9:=Tryz.sizeOf9
 v9:=Tryz.zeroValue9
 t28:=underlying23
 a28:=Tryz.isAgg23
 z28:=Tryz.sizeOf23
 v28:=Tryz.zeroValue23
 t46:=underlying157
 a46:=Tryz.isAgg157
 z46:=Tryz.sizeOf157
 v46:=Tryz.zeroValue157
 t51:=underlying145
 a51:=Tryz.isAgg145
 z51:=Tryz.sizeOf145
 v51:=Tryz.zeroValue145
 t53:=underlying202
 a53:=Tryz.isAgg202
 z53:=Tryz.sizeOf202
 v53:=Tryz.zeroValue202
 t131:=underlying170
 a131:=Tryz.isAgg170
 z131:=Tryz.sizeOf170
 v131:=Tryz.zeroValue170
 t182:=underlying193
 a182:=Tryz.isAgg193
 z182:=Tryz.sizeOf193
 v182:=Tryz.zeroValue193
 t183:=underlying194
 a183:=Tryz.isAgg194
 z183:=Tryz.sizeOf194
 v183:=Tryz.zeroValue194
 t218:=underlying239
 a218:=Tryz.isAgg239
 z218:=Tryz.sizeOf239
 v218:=Tryz.zeroValue239
 t222:=underlying208
 a222:=Tryz.isAgg208
 z222:=Tryz.sizeOf208
 v222:=Tryz.zeroValue208
 t228:=underlying268
 a228:=Tryz.isAgg268
 z228:=Tryz.sizeOf268
 v228:=Tryz.zeroValue268
 t229:=underlying247
 a229:=Tryz.isAgg247
 z229:=Tryz.sizeOf247
 v229:=Tryz.zeroValue247 }
open Go.RowKit Go.Maps Go.Shelf
open Go.ChangeMaps Go.MapKept
open Go.WideElems (Fit rd rg pl rd_val elemAt)
theorem ZeL:Keyed prog 3:=int_keyed underlying3
theorem Zwz (w:World):(zeroValue 115).run prog w=.ok (.pointer none) w:=by kernel_rfl
theorem Zza {n:Int} (h:I64 n):(Lit.int .i64 n).wf=true:=WalkArith.wf_i64 (by obtain⟨b,a⟩:=h;omega)
def ZdB (v:Value):Option (DataW Unit × List MemPlace):=
 match v with
 | .pointer (some ⟨b,0,none⟩)=>some (.lit (.int .i64 (b:Int)),[])
 | _=>none
theorem Zuj (b:Nat):ZdB (.pointer (some ⟨b,0,none⟩))=some (.lit (.int .i64 (b:Int)),[]):=rfl
theorem ZgY {z:DataW Unit × List MemPlace} (h:ZdB v=some z):∃ b:Nat,v=.pointer (some ⟨b,0,none⟩)∧z=(.lit (.int .i64 (b:Int)),[]):=by
 unfold ZdB at h;split at h
 ·cases h
  exact⟨_,rfl,rfl⟩
 ·cases h
def ZCm (z:DataW Unit):Option Nat->DataW Unit
 | some x=>.lit (.int .i64 (x:Int))
 | none=>z
def ZwA (D:DataW Unit) (f:Int->Option Nat):Prop:=
 ∀ p,I64 p->∀ z,D.atKey (.int .i64 p) z=ZCm z (f p)
def Zct (w:World) (b n:Nat) (f:Int->Option Nat):Prop:=
 ∃ D:DataW Unit,w.ownsMap prog 3 ZdB b n D∧ZwA D f
def Ztk:Option Nat->Value
 | some x=>.pointer (some ⟨x,0,none⟩)
 | none=>.pointer none
theorem ZwA.has {D:DataW Unit} (h:ZwA D f) {p:Int} (a:I64 p):Maps.has D (.int .i64 p)=(f p).isSome:=by
 cases e:f p with
 | none=>
  refine has_false_of_atKey fun z=>?_
  rw[h p a z,e];rfl
 | some x=>
  refine has_true_of_atKey (y:=.lit (.int .i64 (x:Int))) fun z=>?_
  rw[h p a z,e];rfl
theorem Zct.made (w:World):Zct (w.alloc (.map #[] 0)) w.heap.size 0 (fun _=>none):=
 ⟨.map [],World.ownsMap_made _ _ _ _,fun _ _ _=>rfl⟩
theorem Zct.lt (h:Zct w b n f):b<w.heap.size:=by
 obtain⟨D,a,_⟩:=h;exact a.lt
theorem Zct.mono {n':Nat} (h:Zct w b n f) (c:n<=n'):Zct w b n' f:=by
 obtain⟨D,d,a⟩:=h;exact⟨D,d.mono c,a⟩
theorem Zct.keep (h:Zct w b n f) (c:w'.heap[b]?=w.heap[b]?):Zct w' b n f:=by
 obtain⟨D,⟨e,d,g,r⟩,a⟩:=h;exact⟨D,⟨e,d,c.trans g,r⟩,a⟩
theorem Zct.fun {g:Int->Option Nat} (h:Zct w b n f) (e:∀ p,I64 p->f p=g p):Zct w b n g:=by
 obtain⟨D,d,c⟩:=h;exact⟨D,d,fun p a z=>by rw[c p a z,e p a]⟩
theorem Zct.apart (h:Zct w b n f) {cs:Array Value} {t:TypeId} {z:Nat × Nat} {g:Nat} (a:w.heap[g]?=some (.cells cs t z)):g≠b:=by
 obtain⟨D,⟨i,d,c,_⟩,_⟩:=h;intro e;rw[e,c] at a
 cases a
theorem ZwB (h:∀ z:DataW Unit,DataW.lit (.int .i64 (x:Int))=z):False:=by
 have:=h (.map [])
 cases this
theorem Zzb {y:Nat} (h:DataW.lit (H:=Unit) (.int .i64 (x:Int))=.lit (.int .i64 (y:Int))):x=y:=by
 simp only [DataW.lit.injEq,Lit.int.injEq,true_and] at h;omega
theorem Zct.lookC (h:Zct w b n f) {p:Int} (g:I64 p) (c:Bool):(Instr.lookup 65 (.map (some b)) (.int .i64 p) c).run prog w=.ok (if c then .tuple #[Ztk (f p),.bool (f p).isSome] else Ztk (f p)) w:=by
 obtain⟨D,⟨t,u,m,F,_,rfl⟩,j⟩:=h;rcases Maps.fit_look c ZeL underlying65 (Zwz w) m F (keyOf_int_mk underlying3 (Zza g)) with ⟨i,_,d⟩ | ⟨q,y,_,_,i,l,d,_⟩
 ·have e:f p=none:=by
   cases e:f p with
   | none=>rfl
   | some x=>
    refine(ZwB (x:=x) fun z=>?_).elim
    rw[<-d z,j p g z,e];rfl
  rw[i,e];rfl
 ·obtain⟨x,k,rfl⟩:=ZgY l
  have e:f p=some x:=by
   cases e:f p with
   | none=>
    refine(ZwB (x:=x) fun z=>?_).elim
    have a:=d z;rw[j p g z,e] at a;exact a.symm
   | some x'=>
    have a:=d (.map []);rw[j p g,e] at a;rw[Zzb a]
  rw[i,e,k];rfl
theorem Zct.look (h:Zct w b n f) {p:Int} (a:I64 p):(Instr.lookup 65 (.map (some b)) (.int .i64 p) true).run prog w=.ok (.tuple #[Ztk (f p),.bool (f p).isSome]) w:=h.lookC a true
theorem Zct.look1 (h:Zct w b n f) {p:Int} (a:I64 p):(Instr.lookup 65 (.map (some b)) (.int .i64 p) false).run prog w=.ok (Ztk (f p)) w:=h.lookC a false
theorem Zct.put (h:Zct w b n f) {p:Int} (x:Nat) (k:I64 p) (B:n<=10000000):
 ∃ w',(Instr.mapUpdate 65 (.map (some b)) (.int .i64 p) (.pointer (some ⟨x,0,none⟩))).run prog w=.ok () w'∧Zct w' b (n+1) (fun m=>if m=p then some x else f m)∧w.grownBy w' (some b):=by
 obtain⟨D,a,i⟩:=h;have j:IsMap D:=by obtain⟨v,y,A,F,u,g⟩:=a;exact⟨_,g⟩
 obtain⟨w',d,l,c⟩:=a.update ZeL underlying65 (by unfold maxLen;omega) (keyOf_int_mk underlying3 (Zza k)) (Zuj x)
 refine⟨w',d,⟨_,l,fun q t z=>?_⟩,c⟩
 show _=ZCm z (if q=p then some x else f q)
 by_cases e:q=p
 ·rw[if_pos e,e,atKey_put_same j (by first | exact trivial | simp[WideAt.IsKeyLit])]
  rfl
 ·rw[if_neg e,atKey_put_other (by intro h;injection h with _ h;exact e h),i q t z]
theorem Zct.del (h:Zct w b n f) {p:Int} (x:I64 p) (ty:TypeId):
 ∃ w',(Builtin.delete_ #[65,3] ty #[.map (some b),.int .i64 p]).run prog w=.ok (.tuple #[]) w'∧Zct w' b n (fun m=>if m=p then none else f m)∧w.grownBy w' (some b):=by
 obtain⟨D,⟨j,l,a,F,g,rfl⟩,u⟩:=h;obtain⟨d,k,F',c,t,_⟩:=Maps.fit_drop (ty:=ty) ZeL underlying65 a F (keyOf_int_mk underlying3 (Zza x));refine⟨_,k,⟨_,⟨d,l,heap_setBlock_same a _,F',Nat.le_trans c g,rfl⟩,fun q y z=>?_⟩,⟨rfl,rfl,rfl,by simp[setBlock],fun i _ v=>heap_setBlock_other a _ (fun e=>v (by rw[e]))⟩⟩
 rw[t];show((DataW.map ((j.toList.map (rg prog 3 ZdB)).foldr DataW.insert [])).del (.int .i64 p)).atKey (.int .i64 q) z=_;show _=ZCm z (if q=p then none else f q)
 by_cases e:q=p
 ·rw[if_pos e,e,atKey_del_same]
  rfl
 ·rw[if_neg e,atKey_del_other (by intro h;injection h with _ h;exact e h),u q y z]
theorem Zct.clear (h:Zct w b n f) (ty:TypeId):
 ∃ w',(Builtin.clear_ #[65] ty #[.map (some b)]).run prog w=.ok (.tuple #[]) w'∧Zct w' b 0 (fun _=>none)∧w.grownBy w' (some b):=by
 obtain⟨D,⟨j,c,a,F,g,rfl⟩,k⟩:=h;refine⟨setBlock w b (.map #[] c),?_,⟨.map [],⟨#[],c,heap_setBlock_same a _,⟨by simp,stamped_empty c,by simp⟩,Nat.le_refl _,rfl⟩,fun _ _ _=>rfl⟩,⟨rfl,rfl,rfl,by simp[setBlock],fun i _ d=>heap_setBlock_other a _ (fun e=>d (by rw[e]))⟩⟩
 simp[Builtin.clear_,run_underlying underlying65,MapKept.run_getObj_map a,MapKept.run_setObj_map _ a,Result.andThen,setBlock]
theorem Zpo {D:DataW Unit} (c:Maps.CanonK (Maps.KeysOf prog 3) D):Lib.mergeD (.map []) D=D:=by
 refine(merged_eq ZeL.one (left:=fun _=>false) ⟨fun k=>?_,fun k z=>?_⟩ (fun _=>rfl) (c.canon ZeL.one) ⟨[],rfl,List.Pairwise.nil,fun p a=>by cases a⟩ c).symm
 ·show Maps.has D k=(false || (Maps.has D k && true))
  cases Maps.has D k <;> rfl
 ·cases e:Maps.has D k with
  | true=>rfl
  | false=>
   rw[atKey_of_not_has e];rfl
theorem Zuk (h:Zct w b n f):
 Calls prog 145 #[.map (some b)] w fun e w'=>e=.returned (.map (some w.heap.size))∧Zct w' w.heap.size n f∧w'.heap.size=w.heap.size+1∧Below w.heap.size w w':=by
 obtain⟨D,⟨c,a,g,r⟩,d⟩:=h;refine(AnyW.maps_Clone layW b c a w g).mono fun e w' ⟨he,hw⟩=>?_
 subst hw;exact⟨he,⟨D,⟨c,a,(MapKept.heap_alloc w _).1,r⟩,d⟩,by simp,(Below.refl _ w).alloc zL _⟩
theorem Zzc {a bs:Nat} (l:Zct w a 0 (fun _=>none)) (b:Zct w bs n f) (k:a≠bs) (v:n<=10000000):
 Calls prog 73 #[.map (some a),.map (some bs)] w fun e w'=>e=.returned (.tuple #[])∧Zct w' a n f∧w.grownBy w' (some a):=by
 obtain⟨q,h,u⟩:=l;obtain⟨d,c,i⟩:=b
 have t:Maps.size d<=n:=by
  obtain⟨g,j,m,F,b,rfl⟩:=c;rw[size_eq,length_sorted];simpa using b
 have p:q=.map []:=by
  obtain⟨g,j,m,F,b,rfl⟩:=h;have:g=#[]:=by simpa using b
  subst this;rfl
 subst p;refine(AnyX.maps_Copy layX ZeL ZdB a bs 0 n (.map []) d w h c k (by unfold maxLen;omega)).mono fun e w' ⟨he,ho,_,hg⟩=>?_
 rw[Zpo (c.canonK ZeL)] at ho;exact⟨he,⟨d,ho.mono (by omega),i⟩,hg⟩
open Go.RowKit
structure Zap (F:Nat->Prop) (w w':World):Prop where
 os:w'.os=w.os
 tape:w'.tape=w.tape
 output:w'.output=w.output
 size:w.heap.size<=w'.heap.size
 block:∀ k,k<w.heap.size->¬ F k->w'.heap[k]?=w.heap[k]?
theorem Zap.refl (F:Nat->Prop) (w:World):Zap F w w:=⟨rfl,rfl,rfl,Nat.le_refl _,fun _ _ _=>rfl⟩
theorem Zap.trans {b c:World} (h:Zap F a b) (k:Zap G b c) (f:∀ x,x<a.heap.size->G x->F x):Zap F a c:=
 ⟨k.os.trans h.os,k.tape.trans h.tape,k.output.trans h.output,Nat.le_trans h.size k.size,fun i d e=>(k.block i (Nat.lt_of_lt_of_le d h.size) (fun g=>e (f i d g))).trans (h.block i d e)⟩
theorem Zap.mono (h:Zap F w w') (a:∀ k,F k->G k):Zap G w w':=⟨h.os,h.tape,h.output,h.size,fun k b c=>h.block k b fun d=>c (a k d)⟩
theorem Zap.ofGrown {row:Option Nat} (h:w.grownBy w' row) (b:∀ k,row=some k->k<w.heap.size->F k):Zap F w w':=
 ⟨h.os,h.tape,h.output,h.size,fun k a c=>h.block k a fun e=>c (b k e.symm a)⟩
theorem Zap.ofBelow (h:Below w.heap.size w w'):Zap F w w':=⟨h.os,h.tape,h.output,h.size,fun k a _=>h.block k a⟩
theorem Zap.below {B:Nat} (h:Zap F w w') (a:B<=w.heap.size) (c:∀ k,F k->B<=k):Below B w w':=
 ⟨h.os,h.tape,h.output,h.size,fun k b=>h.block k (Nat.lt_of_lt_of_le b a) fun d=>by have:=c k d;omega⟩
theorem Zap.setCell (h:Zap F a w) {b:Nat} (i:Nat) (f:b<a.heap.size->F b) (x:Value):Zap F a (w.setCell ⟨b,i,none⟩ x):=by
 have c:=(Below.refl 0 w).setCell (p:=⟨b,i,none⟩) (Nat.zero_le _) x;refine⟨c.os.trans h.os,c.tape.trans h.tape,c.output.trans h.output,Nat.le_trans h.size c.size,fun k e d=>?_⟩
 rw[Below.heap_setCell _ _ _ _ (show k≠b by rintro rfl;exact d (f e))]
 exact h.block k e d
theorem Zap.alloc (h:Zap F a w) (o:Obj):Zap F a (w.alloc o):=
 h.trans (G:=fun _=>False) (Zap.ofBelow ((Below.refl _ _).alloc zL o)) (fun _ _ b=>b.elim)
theorem Zap.drewN (h:Zap F a w) (n:Nat):Zap F a (w.drewN n):=⟨h.os,h.tape,h.output,h.size,h.block⟩
theorem RdI.only {l:List Int} (h:RdI w v l) {F:Nat->Prop} (u:Zap F w w') (f:∀ k,v.ownBlock=some k->¬ F k):RdI w' v l:=by
 obtain⟨ao,cap,rfl,p,m,t,q,c⟩:=h;refine⟨ao,cap,rfl,p,m,t,q,?_⟩;rcases c with c | ⟨b,d,rfl,n⟩
 ·exact .inl c
 ·refine .inr ⟨b,d,rfl,fun j g=>?_⟩
  have e:=n j g;have i:b<w.heap.size:=World.block_lt_of_cell? w ⟨b,d+j,none⟩ e;rw[World.cell?_of_block (a:=⟨b,d+j,none⟩) (u.block b i (f b rfl))];exact e
theorem RdI.onlyE {l:List Int} (h:RdI w v l) {F:Nat->Prop} (c:Zap F w w') (hv:l=[]∨∀ k,v.ownBlock=some k->¬ F k):RdI w' v l:=by
 rcases hv with rfl | hv
 ·obtain⟨ao,cap,rfl,b,a,e,d,f⟩:=h
  exact⟨ao,cap,rfl,b,a,e,d,.inl rfl⟩
 ·exact h.only c hv
def Bk (t:TypeId) (w:World) (b:Nat) (cs:Array Value):Prop:=w.heap[b]?=some (.cells cs t (0,0))
theorem Bk.lt (h:Bk t w b cs):b<w.heap.size:=(Array.getElem?_eq_some_iff.1 h).1
theorem Bk.keep (h:Bk t w b cs) (a:w'.heap[b]?=w.heap[b]?):Bk t w' b cs:=a.trans h
theorem Bk.cell (h:Bk t w b cs) (j:Nat) {x:Value} (a:cs[j]?=some x):w.cell? ⟨b,j,none⟩=some x∧w.frozen? ⟨b,j,none⟩=false:=
 ⟨(cell_of_row w b j _ _ _ h).trans a,frozen_of_row w b j _ _ h⟩
theorem Bk.set (h:Bk t w b cs) (j:Nat) (x:Value):Bk t (w.setCell ⟨b,j,none⟩ x) b (cs.setIfInBounds j x):=by
 have:=heap_setCell_same w b j _ _ x h;unfold Bk;simpa using this
theorem Bk.other (h:Bk t w b cs) (c j:Nat) (x:Value) (a:b≠c):Bk t (w.setCell ⟨c,j,none⟩ x) b cs:=
 (Below.heap_setCell _ _ _ _ a).trans h
theorem Bk.ne {c:TypeId} {b':Nat} {d:Array Value} (h:Bk t w b cs) (a:Bk c w b' d) (e:t≠c):b≠b':=by
 rintro rfl;unfold Bk at h a;rw[h] at a;simp only [Option.some.injEq,Obj.cells.injEq] at a;exact e a.2.1
theorem Zeh {base:Nat} (h:w.ownsRow base t 1 v n xs) {g:Nat} (a:v.ownBlock=some g):∃ cs,Bk t w g cs:=by
 rcases h.2 with ⟨b,_⟩ | ⟨g',cap,cur,b,_,c,_⟩
 ·rw[b] at a;cases a
 ·rw[b] at a
  obtain rfl:g'=g:=by simpa[Value.ownBlock] using a
  exact⟨cur,c⟩
theorem Zae {base s:Nat} (h:w.ownsRow base t s v n xs) (e:∀ g,v.ownBlock=some g->w'.heap[g]?=w.heap[g]?):w'.ownsRow base t s v n xs:=by
 obtain⟨f,a⟩:=h;refine⟨f,?_⟩;rcases a with a | ⟨g,cap,cur,b,c,d,r⟩
 ·exact .inl a
 ·exact .inr ⟨g,cap,cur,b,c,(e g (by rw[b];rfl)).trans d,r⟩
abbrev ptr (b:Nat):Value:=.pointer (some ⟨b,0,none⟩)
end Go.Proofs.YtnahjngbneicaaaGreatDoor
