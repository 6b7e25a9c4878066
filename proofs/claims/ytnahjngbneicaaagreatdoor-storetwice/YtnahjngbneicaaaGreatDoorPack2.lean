import Derived.Test.YtnahjngbneicaaaGreatDoorPack1
import Derived.Shelf.SlMaps.Clone
import Derived.Shelf.SlMaps.Copy
import Derived.Shelf.Sort.Plain
import Derived.Shelf.Slices.In.SortNone
namespace Go.Proofs.YtnahjngbneicaaaGreatDoor
open _root_.Go.Proofs.Tryz
open List (append_assoc cons_append drop_drop drop_left eq_nil_of_length_eq_zero length_append length_cons length_drop length_nil length_take pairwise_cons take_append_drop take_of_length_le)
set_option maxRecDepth 100000
variable {d l:List UInt8} {b k n x:Nat} {i j:Int} {s:St} {a w w':World} {v:Value} {f:Int->Option Nat} {F G:Nat->Prop} {t:TypeId} {cs:Array Value} {xs:List Value}
structure Rec where
 idx:Int
 proc:Int
 seq:Int
 op:Opn
 resp:Int
def Qi:Rec:=⟨0,0,0,⟨0,0,0⟩,0⟩
def Qw (r:Rec):Prop:=Jg r.op∧0<=r.idx∧r.idx<4611686018427387904∧0<=r.seq∧r.seq<4611686018427387904∧0<=r.proc∧r.proc<=64∧-1125899906842624<=r.resp∧r.resp<=1125899906842624
instance (r:Rec):Decidable (Qw r):=by unfold Qw;infer_instance
def ZyT (v f:Nat):Prop:=f=1∨f=2∨f=4∨(f=3∧2<=v)∨(f=5∧v=3)
instance (v f:Nat):Decidable (ZyT v f):=by unfold ZyT;infer_instance
def Zyh (r:Rec) (f:Nat):List UInt8:=
 if f=1 then Lib.uvarint r.idx.toNat else if f=2 then Lib.uvarint r.proc.toNat else if f=3 then Lib.uvarint r.seq.toNat
 else if f=4 then Xo r.op else Lib.uvarint (Lib.zigzag r.resp)
def Zta (r:Rec) (f:Nat) (l:List UInt8):Rec × Nat:=
 if f=1 then({ r with idx:=((Qb l).1:Int) },(Qb l).2) else if f=2 then({ r with proc:=((Qb l).1:Int) },(Qb l).2)
 else if f=3 then({ r with seq:=((Qb l).1:Int) },(Qb l).2) else if f=4 then({ r with op:=(Q0 l).1 },(Q0 l).2)
 else({ r with resp:=zag (Qd l).1 },(Qd l).2)
set_option linter.unusedVariables false in
def Zxj (v:Nat) (l:List UInt8) (last:Int) (found:Nat) (r:Rec):Except Int (Rec × Nat):=
 if hl:l=[] then .ok (r,found)
 else if hk:(Qb l).2=0∨((Qb l).1:Int)<=last then .error 3
 else if ZyT v (Qb l).1 then
  if(Zta r (Qb l).1 (l.drop (Qb l).2)).2=0 then .error 3
  else Zxj v (l.drop ((Qb l).2+(Zta r (Qb l).1 (l.drop (Qb l).2)).2)) (Qb l).1 (found+1) (Zta r (Qb l).1 (l.drop (Qb l).2)).1
 else if(Qb l).1<16∨v=3 then .error 7
 else if(Qb (l.drop (Qb l).2)).2=0∨l.length<(Qb l).2+(Qb (l.drop (Qb l).2)).2+(Qb (l.drop (Qb l).2)).1 then .error 3
 else Zxj v (l.drop ((Qb l).2+(Qb (l.drop (Qb l).2)).2+(Qb (l.drop (Qb l).2)).1)) (Qb l).1 found r
termination_by l.length
decreasing_by
 all_goals
  have h1:l.length≠0:=by simpa using hl
  have h2:(Qb l).2≠0:=fun e=>hk (.inl e)
  rw[length_drop];omega
def decR (l:List UInt8):Rec × Int:=
 if l=[] then(Qi,2)
 else if(Qb l).2=0 then(Qi,3)
 else if(Qb l).1<1∨3<(Qb l).1 then(Qi,6)
 else match Zxj (Qb l).1 (l.drop (Qb l).2) (-1) 0 Qi with
  | .error e=>(Qi,e)
  | .ok (r,found)=>if found≠(Qb l).1+2 then(Qi,7) else if Qw r then(r,0) else(Qi,1)
def Zxk (v:Int):List Nat:=if v=1 then[1,2,4] else if v=2 then[1,2,3,4] else[1,2,3,4,5]
def Zyi (r:Rec):List Nat->List UInt8
 | []=>[]
 | f::fs=>Lib.uvarint f++(Zyh r f++Zyi r fs)
def encR (v:Int) (r:Rec):List UInt8:=Lib.uvarint v.toNat++Zyi r (Zxk v)
theorem ZaQ {r:Rec} (h:Qw r):I64 r.resp:=Qk (by have:=h.2.2.2.2.2.2.2.1;omega) (by have:=h.2.2.2.2.2.2.2.2;omega)
theorem Zc (h:(Qb l).2≠0):Lib.uvarint (Qb l).1=l.take (Qb l).2:=by
 rcases Q4 l with e | e
 ·rw[e] at h;exact absurd rfl h
 ·exact e.2.2.2.symm
theorem Zjx (h:(Qd l).2≠0):Lib.uvarint (Qd l).1=l.take (Qd l).2:=by
 rcases Zo l with e | e
 ·rw[e] at h;exact absurd rfl h
 ·exact e.2.2.2.symm
def ZqJ (x:Nat):Nat:=if x % 2=1 then x / 2 ^^^ 2197175160 else x / 2
def Jt:Nat->Nat->Nat
 | 0,x=>x
 | n+1,x=>Jt n (ZqJ x)
def Zdj (c:Nat):Nat:=Jt 8 c
def ZdB (x c:Nat):Nat:=Zdj ((x ^^^ c) % 256) ^^^ x / 256
def Zbk:Nat->List UInt8->Nat
 | x,[]=>x
 | x,c::r=>Zbk (ZdB x c.toNat) r
def Q2 (sum:Nat) (l:List UInt8):Nat:=Zbk (sum ^^^ 4294967295) l ^^^ 4294967295
theorem Zvw (a b:Nat):(a ^^^ b) % 2=(a % 2+b % 2) % 2:=by
 have h:=@Nat.xor_mod_two_pow a b 1;simp only [Nat.pow_one] at h;rw[h];rcases Nat.mod_two_eq_zero_or_one a with ha | ha <;> rcases Nat.mod_two_eq_zero_or_one b with hb | hb <;> rw[ha,hb] <;> rfl
theorem Zvx (a b:Nat):(a ^^^ b) / 2=a / 2 ^^^ b / 2:=by
 have h:=@Nat.shiftRight_xor_distrib 1 a b;simpa[Nat.shiftRight_eq_div_pow] using h
theorem ZnO (a b p:Nat):(a ^^^ p) ^^^ (b ^^^ p)=a ^^^ b:=by
 rw[Nat.xor_comm b p,<-Nat.xor_assoc,Nat.xor_assoc a p p,Nat.xor_self,Nat.xor_zero]
theorem Zvy (a b:Nat):ZqJ (a ^^^ b)=ZqJ a ^^^ ZqJ b:=by
 unfold ZqJ;rw[Zvw,Zvx];rcases Nat.mod_two_eq_zero_or_one a with ha | ha <;> rcases Nat.mod_two_eq_zero_or_one b with hb | hb <;> simp only [ha,hb]
 ·rfl
 ·simp[Nat.xor_assoc]
 ·simp only [if_true,if_false,Nat.zero_ne_one]
  rw[Nat.xor_assoc,Nat.xor_assoc,Nat.xor_comm (b / 2)]
 ·simp[ZnO]
theorem ZlM:∀ (n a b:Nat),Jt n (a ^^^ b)=Jt n a ^^^ Jt n b
 | 0,_,_=>rfl
 | n+1,a,b=>by
  simp only [Jt];rw[Zvy,ZlM n]
theorem ZlN:∀ (m n x:Nat),Jt (m+n) x=Jt n (Jt m x)
 | 0,n,x=>by rw[Nat.zero_add];rfl
 | m+1,n,x=>by
  rw[Nat.add_right_comm];simp only [Jt];exact ZlN m n (ZqJ x)
theorem Ztb (x:Nat):ZqJ (2*x)=x:=by
 unfold ZqJ;rw[if_neg (by omega)]
 omega
theorem ZlO:∀ (n x:Nat),Jt n (2 ^ n*x)=x
 | 0,x=>by simp[Jt]
 | n+1,x=>by
  simp only [Jt];rw[Nat.pow_succ,Nat.mul_comm (2 ^ n) 2,Nat.mul_assoc,Ztb];exact ZlO n x
theorem Zxl (b:32<=n) (h:x<2 ^ n):ZqJ x<2 ^ n:=by
 unfold ZqJ;have a:x / 2<2 ^ n:=by omega
 split
 ·refine Nat.xor_lt_two_pow a (Nat.lt_of_lt_of_le (by decide:2197175160<2 ^ 32) (Nat.pow_le_pow_right (by decide) b))
 ·exact a
theorem Zkx:∀ (k:Nat) {n x:Nat},32<=n->x<2 ^ n->Jt k x<2 ^ n
 | 0,_,_,_,h=>h
 | k+1,_,_,hn,h=>Zkx k hn (Zxl hn h)
theorem Zvz (z n:Nat):z=z % 2 ^ n ^^^ 2 ^ n*(z / 2 ^ n):=by
 apply Nat.eq_of_testBit_eq;intro i;rw[Nat.testBit_xor,Nat.testBit_mod_two_pow,Nat.testBit_two_pow_mul];by_cases h:i<n
 ·have a:¬ n<=i:=by omega
  simp[h,a]
 ·have a:n<=i:=by omega
  simp only [h,a,decide_false,decide_true,Bool.false_and,Bool.true_and,Bool.false_xor,Nat.testBit_div_two_pow];rw[Nat.sub_add_cancel a]
theorem Zky (x c:Nat) (b:c<256):ZdB x c=Jt 8 (x ^^^ c):=by
 have e:(x ^^^ c) / 256=x / 256:=by
  have h:=@Nat.shiftRight_xor_distrib 8 x c;simp only [Nat.shiftRight_eq_div_pow] at h;have a:c / 2 ^ 8=0:=by omega
  rw[a,Nat.xor_zero] at h;exact h
 have h:=Zvz (x ^^^ c) 8;unfold ZdB Zdj
 conv=>rhs;rw[h]
 rw[ZlM,ZlO];show _=Jt 8 ((x ^^^ c) % 256) ^^^ (x ^^^ c) / 256;rw[e]
theorem Zek:∀ (a b:List UInt8) (x:Nat),Zbk x (a++b)=Zbk (Zbk x a) b
 | [],_,_=>rfl
 | c::r,b,x=>by
  rw[cons_append,Zbk,Zbk];exact Zek r b _
theorem ZqK {c:Nat} (b:x<4294967296) (a:c<256):ZdB x c<4294967296:=by
 rw[Zky x c a];have h:x ^^^ c<2 ^ 32:=Nat.xor_lt_two_pow (by omega) (by omega)
 have:=Zkx 8 (Nat.le_refl 32) h;omega
theorem Zhc:∀ (l:List UInt8) {x:Nat},x<4294967296->Zbk x l<4294967296
 | [],_,h=>h
 | c::r,x,h=>Zhc r (ZqK h (by have:=c.toNat_lt;omega))
theorem Ztc (h:x<4294967296):x ^^^ 4294967295<4294967296:=by
 have:=Nat.xor_lt_two_pow (n:=32) (by omega:x<2 ^ 32) (by decide:4294967295<2 ^ 32)
 omega
theorem ZqL {sum:Nat} (l:List UInt8) (h:sum<4294967296):Q2 sum l<4294967296:=Ztc (Zhc l (Ztc h))
theorem Zhd:∀ l:List UInt8,Lib.leNat l<2 ^ (8*l.length)
 | []=>by simp[Lib.leNat]
 | c::r=>by
  have h:=Zhd r;have a:=c.toNat_lt;have e:8*(c::r).length=8*r.length+8:=by simp;omega
  simp only [Lib.leNat];rw[e,Nat.pow_add];omega
def Yr (l:List UInt8):List UInt8:=Lib.uvarint l.length++l
def Qe (l:List UInt8):List UInt8:=Yr l++Lib.leBytes 4 (Q2 0 (Yr l))
def Jp (l:List UInt8):Prop:=l.length<10∧∀ j,j<l.length->128<=(l.getD j 0).toNat
instance (l:List UInt8):Decidable (Jp l):=by unfold Jp;infer_instance
def Xp (l:List UInt8):List UInt8 × Nat × Nat:=
 if Jp l then([],0,2) else
 if(Qb l).2=0 then([],0,3) else
 if 1048576<(Qb l).1 then([],0,5) else
 if l.length<(Qb l).2+4+(Qb l).1 then([],0,2) else
 if Lib.leNat ((l.drop ((Qb l).2+(Qb l).1)).take 4)≠Q2 0 (l.take ((Qb l).2+(Qb l).1)) then([],0,4) else
 ((l.drop (Qb l).2).take (Qb l).1,(Qb l).2+4+(Qb l).1,0)
theorem ZpM (l:List UInt8):Q2 0 l<4294967296:=ZqL l (by decide)
theorem Qz (l:List UInt8):(Qe l).length=(Lib.uvarint l.length).length+l.length+4:=by
 simp[Qe,Yr,Lib.leBytes_length];omega
theorem Zyj (h:n<=1048576):(Lib.uvarint n).length<=3:=Lib.uvarint_length 2 n (Nat.lt_of_le_of_lt h (by decide))
theorem ZpN (h:Jp l):Qb l=(0,0):=by
 have e:Qd l=(0,0):=by
  unfold Qd;rw[Zkr 10 l (fun j _ a=>h.2 j a)]
 unfold Qb;rw[e];rfl
theorem Zjy (x t:List UInt8) (h:x.length<=1048576):Qb (Lib.uvarint x.length++t)=(x.length,(Lib.uvarint x.length).length):=X3 _ _ (by omega)
theorem ZbW:∀ (l:List UInt8),Lib.leBytes l.length (Lib.leNat l)=l
 | []=>rfl
 | c::r=>by
  have a:=ZbW r;have e:=c.toNat_lt;have b:(c.toNat+256*Lib.leNat r) % 256=c.toNat:=by omega
  have d:(c.toNat+256*Lib.leNat r) / 256=Lib.leNat r:=by omega
  simp only [length_cons,Lib.leNat,Lib.leBytes,b,d,a];simp
theorem ZqM (x t:List UInt8) (h:x.length<=1048576):Xp (Qe x++t)=(x,(Qe x).length,0):=by
 have c:Qb (Qe x++t)=(x.length,(Lib.uvarint x.length).length):=by
  have e:Qe x++t=Lib.uvarint x.length++(x++Lib.leBytes 4 (Q2 0 (Yr x))++t):=by simp[Qe,Yr]
  rw[e];exact Zjy x _ h
 have j:=Lib.uvarint_pos x.length
 have a:¬ Jp (Qe x++t):=fun a=>by
  have:=ZpN a;rw[c,Prod.mk.injEq] at this;omega
 have i:(Qe x++t).length=(Lib.uvarint x.length).length+x.length+4+t.length:=by rw[length_append,Qz]
 have b:(Yr x).length=(Lib.uvarint x.length).length+x.length:=by simp[Yr]
 have f:(Qe x++t).take ((Lib.uvarint x.length).length+x.length)=Yr x:=by
  rw[<-b,Qe,append_assoc,List.take_left]
 have d:((Qe x++t).drop ((Lib.uvarint x.length).length+x.length)).take 4=Lib.leBytes 4 (Q2 0 (Yr x)):=by
  rw[<-b,Qe,append_assoc,drop_left,List.take_append_of_le_length (by rw[Lib.leBytes_length];exact Nat.le_refl _),take_of_length_le (by rw[Lib.leBytes_length];exact Nat.le_refl _)]
 have g:((Qe x++t).drop (Lib.uvarint x.length).length).take x.length=x:=by
  have e:Qe x++t=Lib.uvarint x.length++(x++(Lib.leBytes 4 (Q2 0 (Yr x))++t)):=by simp[Qe,Yr]
  rw[e,drop_left,List.take_left]
 unfold Xp;rw[if_neg a];simp only [c];rw[if_neg (by omega),if_neg (by omega),if_neg (by omega),if_neg (by rw[f,d,Lib.leNat_leBytes 4 _ (ZpM _)];simp),g,Qz]
 congr 2
 omega
theorem Zkz (h:(Xp l).2.2=0):
 (Xp l).1.length<=1048576∧(Xp l).2.1=(Qe (Xp l).1).length∧(Xp l).2.1<=l.length∧l.take (Xp l).2.1=Qe (Xp l).1:=by
 unfold Xp at h ⊢;by_cases c:Jp l
 ·rw[if_pos c] at h;simp at h
 rw[if_neg c] at h ⊢;by_cases a:(Qb l).2=0
 ·rw[if_pos a] at h;simp at h
 rw[if_neg a] at h ⊢;by_cases i:1048576<(Qb l).1
 ·rw[if_pos i] at h;simp at h
 rw[if_neg i] at h ⊢;by_cases d:l.length<(Qb l).2+4+(Qb l).1
 ·rw[if_pos d] at h;simp at h
 rw[if_neg d] at h ⊢;by_cases b:Lib.leNat ((l.drop ((Qb l).2+(Qb l).1)).take 4)≠Q2 0 (l.take ((Qb l).2+(Qb l).1))
 ·rw[if_pos b] at h;simp at h
 rw[if_neg b];clear h;rcases Q4 l with m | ⟨v,u,w,g⟩
 ·rw[m] at a;simp at a
 generalize (Qb l).1=n at *;generalize (Qb l).2=k at *;have f:((l.drop k).take n).length=n:=by simp;omega
 have j:(Lib.uvarint n).length=k:=by rw[<-g];simp;omega
 have q:Yr ((l.drop k).take n)=l.take (k+n):=by
  unfold Yr;rw[f,<-g,List.take_add]
 have t:(l.drop (k+n)).take 4=Lib.leBytes 4 (Q2 0 (l.take (k+n))):=by
  have e:=ZbW ((l.drop (k+n)).take 4);have p:((l.drop (k+n)).take 4).length=4:=by simp;omega
  rw[p] at e;rw[<-Decidable.not_not.1 b,e]
 refine⟨by show((l.drop k).take n).length<=_;omega,?_,by show k+4+n<=_;omega,?_⟩
 ·show k+4+n=_
  rw[Qz,f,j];omega
 ·show l.take (k+4+n)=Qe ((l.drop k).take n)
  unfold Qe;rw[q,<-t,show k+4+n=(k+n)+4 by omega,List.take_add]
theorem ZvA (h:(Xp l).2.2≠0):(Xp l).1=[]∧(Xp l).2.1=0:=by
 unfold Xp at h ⊢;split
 ·exact⟨rfl,rfl⟩
 split
 ·exact⟨rfl,rfl⟩
 split
 ·exact⟨rfl,rfl⟩
 split
 ·exact⟨rfl,rfl⟩
 split
 ·exact⟨rfl,rfl⟩
 ·rename_i d b a c e
  rw[if_neg d,if_neg b,if_neg a,if_neg c,if_neg e] at h;simp at h
theorem ZbI (h:(Xp l).2.2=0):5<=(Xp l).2.1:=by
 obtain⟨_,a,_,_⟩:=Zkz h;rw[a,Qz];have:=Lib.uvarint_pos (Xp l).1.length;omega
theorem Ztd (l:List UInt8):(Xp l).2.1<=l.length:=by
 by_cases h:(Xp l).2.2=0
 ·exact(Zkz h).2.2.1
 ·rw[(ZvA h).2];omega
theorem ZvB (x:List UInt8) (m:Nat) (h:x.length<=1048576) (g:m<(Qe x).length):Xp ((Qe x).take m)=([],0,2):=by
 have l:=Zyj h;by_cases k:m<(Lib.uvarint x.length).length
 ·have a:Jp ((Qe x).take m):=by
   have e:(Qe x).take m=(Lib.uvarint x.length).take m:=by
    rw[Qe,Yr,append_assoc,List.take_append_of_le_length (by omega)]
   rw[e];refine⟨by simp;omega,fun j f=>?_⟩
   have d:j<m:=by simp at f;omega
   have c:((Lib.uvarint x.length).take m).getD j 0=(Lib.uvarint x.length).getD j 0:=by simp[List.getD,d]
   rw[c];exact ZfL _ _ j zL (by omega)
  unfold Xp;rw[if_pos a]
 ·have i:((Qe x).take m).length=m:=by simp;omega
  have b:Qb ((Qe x).take m)=(x.length,(Lib.uvarint x.length).length):=by
   have e:(Qe x).take m=Lib.uvarint x.length++(x++Lib.leBytes 4 (Q2 0 (Yr x))).take (m-(Lib.uvarint x.length).length):=by
    rw[Qe,Yr,append_assoc,List.take_append,take_of_length_le (by omega)]
   rw[e];exact Zjy x _ h
  have n:=Lib.uvarint_pos x.length
  have a:¬ Jp ((Qe x).take m):=fun a=>by
   have:=ZpN a;rw[b,Prod.mk.injEq] at this;omega
  rw[Qz] at g;unfold Xp;rw[if_neg a];simp only [b,i];rw[if_neg (by omega),if_neg (by omega),if_pos (by omega)]
def ZcB:Nat->List UInt8->List (List UInt8) × Nat × Nat
 | 0,_=>([],0,0)
 | f+1,l=>if l=[] then([],0,0) else if(Xp l).2.2≠0 then([],0,(Xp l).2.2) else
  ((Xp l).1::(ZcB f (l.drop (Xp l).2.1)).1,(Xp l).2.1+(ZcB f (l.drop (Xp l).2.1)).2.1,(ZcB f (l.drop (Xp l).2.1)).2.2)
def Qm (l:List UInt8):List (List UInt8) × Nat × Nat:=ZcB l.length l
theorem Zhe:∀ (f g:Nat) (l:List UInt8),l.length<=f->l.length<=g->ZcB f l=ZcB g l
 | 0,g,l,h,_=>by
  have e:l=[]:=eq_nil_of_length_eq_zero (by omega)
  subst e
  cases g <;> simp[ZcB]
 | f+1,0,l,_,h=>by
  have e:l=[]:=eq_nil_of_length_eq_zero (by omega)
  subst e;simp[ZcB]
 | f+1,g+1,l,hf,hg=>by
  unfold ZcB;by_cases e:l=[]
  ·rw[if_pos e,if_pos e]
  rw[if_neg e,if_neg e];by_cases a:(Xp l).2.2≠0
  ·rw[if_pos a,if_pos a]
  rw[if_neg a,if_neg a];have b:=ZbI (Decidable.not_not.1 a);rw[Zhe f g (l.drop (Xp l).2.1) (by simp;omega) (by simp;omega)]
theorem ZbJ:Qm []=([],0,0):=rfl
theorem ZbX (a:l≠[]) (h:(Xp l).2.2≠0):Qm l=([],0,(Xp l).2.2):=by
 unfold Qm
 cases l with
 | nil=>exact absurd rfl a
 | cons c r=>
  rw[length_cons,ZcB,if_neg a,if_pos h]
theorem ZbY (a:l≠[]) (h:(Xp l).2.2=0):
 Qm l=((Xp l).1::(Qm (l.drop (Xp l).2.1)).1,(Xp l).2.1+(Qm (l.drop (Xp l).2.1)).2.1,(Qm (l.drop (Xp l).2.1)).2.2):=by
 have b:=ZbI h;unfold Qm
 cases l with
 | nil=>exact absurd rfl a
 | cons c r=>
  rw[length_cons,ZcB,if_neg a,if_neg (Decidable.not_not.2 h),Zhe r.length ((c::r).drop (Xp (c::r)).2.1).length _ (by simp;omega) zL]
def Qf (L:List (List UInt8)):List UInt8:=L.flatMap Qe
def ZaU:List (List UInt8)->Nat->Nat × Nat
 | [],_=>(0,0)
 | x::L,m=>if(Qe x).length<=m then((ZaU L (m-(Qe x).length)).1+1,(ZaU L (m-(Qe x).length)).2+(Qe x).length) else(0,0)
theorem ZlP:∀ (L:List (List UInt8)) (m:Nat),(ZaU L m).1<=L.length∧(ZaU L m).2<=m
 | [],m=>by simp[ZaU]
 | x::L,m=>by
  have a:=ZlP L (m-(Qe x).length);unfold ZaU;split
  ·simp;omega
  ·simp
theorem Zjz:∀ (L:List (List UInt8)) (m:Nat),(∀ x ∈ L,x.length<=1048576)->m<=(Qf L).length->
 Qm ((Qf L).take m)=(L.take (ZaU L m).1,(ZaU L m).2,if(ZaU L m).2=m then 0 else 2)
 | [],m,_,hm=>by
  have e:m=0:=by simp[Qf] at hm;omega
  subst e;rfl
 | x::L,m,hx,hm=>by
  have f:=hx x (by simp)
  have l:5<=(Qe x).length:=by
   rw[Qz];have:=Lib.uvarint_pos x.length;omega
  have j:Qf (x::L)=Qe x++Qf L:=by simp[Qf]
  rw[j] at hm ⊢;rw[length_append] at hm;by_cases c:(Qe x).length<=m
  ·have d:(Qe x++Qf L).take m=Qe x++(Qf L).take (m-(Qe x).length):=by
    rw[List.take_append,take_of_length_le c]
   have g:=Zjz L (m-(Qe x).length) (fun y k=>hx y (by simp[k])) (by omega)
   have a:=ZqM x ((Qf L).take (m-(Qe x).length)) f
   have b:Qe x++(Qf L).take (m-(Qe x).length)≠[]:=fun e=>by
    have:=congrArg List.length e;rw[length_append,length_nil] at this;omega
   rw[d,ZbY b (by rw[a]),a]
   simp only [drop_left];have n:=(ZlP L (m-(Qe x).length)).2;rw[g,ZaU,if_pos c];simp only [List.take_succ_cons,Prod.mk.injEq,true_and];refine⟨by omega,?_⟩
   by_cases e:(ZaU L (m-(Qe x).length)).2=m-(Qe x).length
   ·rw[if_pos e,if_pos (by omega)]
   ·rw[if_neg e,if_neg (by omega)]
  ·have d:(Qe x++Qf L).take m=(Qe x).take m:=by
    rw[List.take_append_of_le_length (by omega)]
   have a:=ZvB x m f (by omega)
   rw[d,ZaU,if_neg c];by_cases i:m=0
   ·subst i
    rfl
   ·have b:(Qe x).take m≠[]:=fun e=>by
     have:=congrArg List.length e;rw[length_take,length_nil] at this;omega
    rw[ZbX b (by rw[a];decide),a]
    simp only [List.take_zero,Prod.mk.injEq,true_and];rw[if_neg (by omega)]
def Zgm (n:Int):Nat:=if 0<=n∧n<=1048576 then(Lib.uvarint n.toNat).length+4+n.toNat else 0
theorem ZlQ:∀ (L:List (List UInt8)) (m k:Nat),k<=L.length->(Qf (L.take k)).length<=m->(k=L.length∨m<(Qf (L.take (k+1))).length)->ZaU L m=(k,(Qf (L.take k)).length)
 | [],m,k,hk,_,_=>by
  have e:k=0:=by simpa using hk
  subst e;rfl
 | x::L,m,0,_,h1,h2=>by
  have e:(Qf ((x::L).take 1)).length=(Qe x).length:=by simp[Qf]
  rcases h2 with h2 | h2
  ·simp at h2
  ·rw[e] at h2
   rw[ZaU,if_neg (by omega)]
   rfl
 | x::L,m,k+1,hk,h1,h2=>by
  have a:∀ j,(Qf ((x::L).take (j+1))).length=(Qe x).length+(Qf (L.take j)).length:=by
   intro j;simp[Qf]
  rw[a] at h1 h2
  have b:=ZlQ L (m-(Qe x).length) k (by simpa using hk) (by omega) (by
   rcases h2 with h2 | h2
   ·left;simpa using h2
   ·right;omega)
  rw[ZaU,if_pos (by omega),b,a]
  simp;omega
theorem Jb (h:d.length<=1048576):(Qe d).length<=d.length+14:=by
 rw[Qz];have:(Lib.uvarint d.length).length<=10:=Lib.uvarint_length64 (by omega)
 omega
theorem ZcC (A B:List (List UInt8)):Qf (A++B)=Qf A++Qf B:=by
 unfold Qf;rw[List.flatMap_append]
theorem X4 (x:List UInt8) (B:List (List UInt8)):Qf (x::B)=Qe x++Qf B:=by
 unfold Qf;rw[List.flatMap_cons]
theorem ZnP (x:List UInt8):5<=(Qe x).length:=by
 rw[Qz];have:=Lib.uvarint_pos x.length;omega
theorem ZaH (L:List (List UInt8)) (h:∀ x ∈ L,x.length<=1048576):Qm (Qf L)=(L,(Qf L).length,0):=by
 have e:=Zjz L (Qf L).length h zL;have a:=ZlQ L (Qf L).length L.length zL (by rw[List.take_length];exact Nat.le_refl _) (.inl rfl)
 rw[List.take_length] at a e;rw[e,a];simp
theorem Zfd:∀ (n:Nat) (b:List UInt8),b.length<=n->(Qm b).2.2=0->Qf (Qm b).1=b∧∀ x ∈ (Qm b).1,x.length<=1048576
 | 0,b,hn,_=>by
  have e:b=[]:=eq_nil_of_length_eq_zero (by omega)
  subst e;rw[ZbJ];exact⟨rfl,by simp⟩
 | n+1,b,hn,h=>by
  by_cases e:b=[]
  ·subst e
   rw[ZbJ];exact⟨rfl,by simp⟩
  by_cases a:(Xp b).2.2=0
  ·obtain⟨c,k,i,g⟩:=Zkz a
   have j:=ZbI a;rw[ZbY e a] at h ⊢;obtain⟨f,d⟩:=Zfd n (b.drop (Xp b).2.1) (by rw[length_drop];omega) h
   refine⟨?_,fun x hx=>?_⟩
   ·show Qf ((Xp b).1::(Qm (b.drop (Xp b).2.1)).1)=b
    rw[X4,f,<-g,take_append_drop]
   ·rcases List.mem_cons.1 hx with hx | hx
    ·rw[hx];exact c
    ·exact d x hx
  ·rw[ZbX e a] at h
   exact absurd h a
structure Ent where
 proc:Int
 seq:Int
 resp:Int
def Q8:Ent:=⟨0,0,0⟩
theorem Ent.ext' {a b:Ent} (c:a.proc=b.proc) (d:a.seq=b.seq) (e:a.resp=b.resp):a=b:=by
 cases a
 cases b
 simp_all
instance:DecidableEq Ent:=fun a b=>
 if h:a.proc=b.proc∧a.seq=b.seq∧a.resp=b.resp then .isTrue (Ent.ext' h.1 h.2.1 h.2.2)
 else .isFalse (fun e=>h (by rw[e];exact⟨rfl,rfl,rfl⟩))
structure Qv where
 idx:Int
 st:St
 tab:List Ent
def Xr:Qv:=⟨0,ZcA,[]⟩
def ZbZ (e:Ent):Prop:=0<=e.proc∧e.proc<=64∧0<=e.seq∧e.seq<4611686018427387904∧-1125899906842624<=e.resp∧e.resp<=1125899906842624
instance (e:Ent):Decidable (ZbZ e):=by unfold ZbZ;infer_instance
def Jh (t:List Ent) (k:Nat):Prop:=∀ i,i<k->ZbZ (t.getD i Q8)∧(0<i->(t.getD (i-1) Q8).proc<(t.getD i Q8).proc)
instance (t:List Ent) (k:Nat):Decidable (Jh t k):=by unfold Jh;infer_instance
def Zel (t:List Ent):Prop:=Jh t t.length
instance (t:List Ent):Decidable (Zel t):=by unfold Zel;infer_instance
theorem Jh.zero (t:List Ent):Jh t 0:=fun _ a=>absurd a (Nat.not_lt_zero _)
theorem Jh.next {t:List Ent}:Jh t (k+1)↔Jh t k∧ZbZ (t.getD k Q8)∧(0<k->(t.getD (k-1) Q8).proc<(t.getD k Q8).proc):=by
 constructor
 ·intro h
  exact⟨fun i a=>h i (by omega),(h k (by omega)).1,(h k (by omega)).2⟩
 ·rintro⟨h1,h2,h3⟩ i a
  by_cases e:i=k
  ·subst e
   exact⟨h2,h3⟩
  ·exact h1 i (by omega)
theorem Jh.mono {t:List Ent} {j:Nat} (h:Jh t k) (b:j<=k):Jh t j:=fun i a=>h i (by omega)
theorem Zel.mem {t:List Ent} (h:Zel t):∀ e ∈ t,ZbZ e:=by
 intro e b;obtain⟨i,a,rfl⟩:=List.getElem_of_mem b;have:=(h i a).1;simpa[List.getD,a] using this
def Zdk (s:Qv):Prop:=(0<=s.idx∧s.idx<4611686018427387904)∧X8 s.st∧Zel s.tab
instance (s:Qv):Decidable (Zdk s):=by unfold Zdk;infer_instance
def ZvC (e:Ent):List UInt8:=Lib.uvarint e.proc.toNat++(Lib.uvarint e.seq.toNat++Lib.uvarint (Lib.zigzag e.resp))
def Yz (t:List Ent):List UInt8:=t.flatMap ZvC
def Zyk (t:List Ent):List UInt8:=Lib.uvarint t.length++Yz t
def Xt (s:Qv):List UInt8:=Lib.uvarint (Zgz s.st).length++(Zgz s.st++Zyk s.tab)
def Zfe (i:Nat) (w:List UInt8):List UInt8:=115::(Lib.uvarint 3++(Lib.uvarint i++(Lib.uvarint w.length++Lib.leBytes 4 (Q2 0 w))))
def Xu (l:List UInt8):List (List UInt8):=if l=[] then[] else l.take 64::Xu (l.drop 64)
termination_by l.length
decreasing_by
 rename_i h
 have h1:l.length≠0:=by simpa using h
 rw[length_drop];omega
def ZaV (s:Qv):List (List UInt8):=Zfe s.idx.toNat (Xt s)::Xu (Xt s)
def Zvo (s:Qv):List UInt8:=Qf (ZaV s)
theorem X7:Xu []=[]:=by rw[Xu,if_pos rfl]
theorem Y7 (h:l≠[]):Xu l=l.take 64::Xu (l.drop 64):=by rw[Xu,if_neg h]
theorem Zhf:∀ (n:Nat) (l:List UInt8),l.length<=n->(Xu l).flatten=l
 | 0,l,h=>by
  have e:l=[]:=eq_nil_of_length_eq_zero (by omega)
  rw[e,X7];rfl
 | n+1,l,h=>by
  by_cases e:l=[]
  ·rw[e,X7]
   rfl
  ·have a:l.length≠0:=by simpa using e
   rw[Y7 e,List.flatten_cons,Zhf n (l.drop 64) (by rw[length_drop];omega),take_append_drop]
theorem Zff:∀ (n:Nat) (l x:List UInt8),l.length<=n->x ∈ Xu l->x.length<=64∧1<=x.length
 | 0,l,x,h,hx=>by
  have e:l=[]:=eq_nil_of_length_eq_zero (by omega)
  rw[e,X7] at hx;simp at hx
 | n+1,l,x,h,hx=>by
  by_cases e:l=[]
  ·rw[e,X7] at hx
   simp at hx
  ·have a:l.length≠0:=by simpa using e
   rw[Y7 e] at hx;rcases List.mem_cons.1 hx with hx | hx
   ·rw[hx,length_take]
    omega
   ·exact Zff n (l.drop 64) x (by rw[length_drop];omega) hx
def Zfg:List (List UInt8)->Prop
 | []=>True
 | [x]=>1<=x.length∧x.length<=64
 | x::y::t=>x.length=64∧Zfg (y::t)
theorem ZcD:∀ (L:List (List UInt8)),Zfg L->Xu L.flatten=L
 | [],_=>by rw[List.flatten_nil,X7]
 | [x],h=>by
  obtain⟨a,b⟩:=h;have e:x≠[]:=fun e=>by rw[e] at a;simp at a
  have f:[x].flatten=x:=by simp
  rw[f,Y7 e,take_of_length_le b,List.drop_eq_nil_of_le b,X7]
 | x::y::t,h=>by
  obtain⟨a,b⟩:=h
  have e:(x::y::t).flatten≠[]:=fun e=>by
   have:=congrArg List.length e;rw[List.flatten_cons,length_append,length_nil] at this;omega
  have d:((x::y::t).flatten).take 64=x:=by rw[List.flatten_cons,<-a,List.take_left]
  have c:((x::y::t).flatten).drop 64=(y::t).flatten:=by rw[List.flatten_cons,<-a,drop_left]
  rw[Y7 e,d,c,ZcD (y::t) b]
theorem ZfN:∀ (n:Nat) (l:List UInt8),l.length<=n->Zfg (Xu l)
 | 0,l,h=>by
  have e:l=[]:=eq_nil_of_length_eq_zero (by omega)
  rw[e,X7];trivial
 | n+1,l,h=>by
  by_cases e:l=[]
  ·rw[e,X7]
   trivial
  ·have d:l.length≠0:=by simpa using e
   rw[Y7 e];have b:=ZfN n (l.drop 64) (by rw[length_drop];omega)
   by_cases a:l.drop 64=[]
   ·rw[a,X7]
    have f:(l.take 64).length=min 64 l.length:=length_take;exact⟨by omega,by omega⟩
   ·have c:(l.drop 64).length≠0:=fun e=>a (eq_nil_of_length_eq_zero e)
    rw[length_drop] at c;rw[Y7 a] at b ⊢;exact⟨by rw[length_take];omega,b⟩
def Zbf:Nat->List UInt8->Option (List Ent × List UInt8)
 | 0,b=>some ([],b)
 | n+1,b=>
  let i:=(Qb b).2
  let j:=(Qb (b.drop i)).2
  let k:=(Qd (b.drop (i+j))).2
  if i=0∨j=0∨k=0 then none
  else(Zbf n (b.drop (i+j+k))).map (fun r=>(⟨(Qb b).1,(Qb (b.drop i)).1,zag (Qd (b.drop (i+j))).1⟩::r.1,r.2))
def ZbK (b:List UInt8):Option (List Ent):=
 if(Qb b).2=0∨b.length<(Qb b).1 then none
 else match Zbf (Qb b).1 (b.drop (Qb b).2) with
  | some (t,[])=>some t
  | _=>none
def Yf (w:List UInt8):Qv × Int:=
 if(Qb w).2=0∨w.length<(Qb w).2+(Qb w).1 then(Xr,3)
 else if(ZeV ((w.drop (Qb w).2).take (Qb w).1)).2=3 then(Xr,3)
 else match ZbK (w.drop ((Qb w).2+(Qb w).1)) with
  | none=>(Xr,3)
  | some t=>(⟨0,(ZeV ((w.drop (Qb w).2).take (Qb w).1)).1,t⟩,(ZeV ((w.drop (Qb w).2).take (Qb w).1)).2)
def Yg (d:List UInt8):Nat × Nat × Nat × Int:=
 if d.length<1∨(d.getD 0 0).toNat≠115 then(0,0,0,3)
 else
  let i:=(Qb (d.drop 1)).2
  let j:=(Qb (d.drop (1+i))).2
  let k:=(Qb (d.drop (1+i+j))).2
  if i=0∨j=0∨k=0 then(0,0,0,3)
  else if(Qb (d.drop 1)).1≠3 then(0,0,0,6)
  else if(d.drop (1+i+j+k)).length≠4 then(0,0,0,3)
  else((Qb (d.drop (1+i))).1,(Qb (d.drop (1+i+j))).1,Lib.leNat (d.drop (1+i+j+k)),0)
instance cutOk_dec:∀ L:List (List UInt8),Decidable (Zfg L)
 | []=>.isTrue trivial
 | [_]=>by unfold Zfg;infer_instance
 | _::y::t=>by
  unfold Zfg;exact @instDecidableAnd _ _ _ (cutOk_dec (y::t))
def ZjA (L:List (List UInt8)):Qv × Int:=
 match L with
 | []=>(Xr,16)
 | d::P=>
  if(Yg d).2.2.2≠0 then(Xr,(Yg d).2.2.2)
  else if P.flatten.length≠(Yg d).2.1 then(Xr,16)
  else if ¬ Zfg P then(Xr,3)
  else if Q2 0 P.flatten≠(Yg d).2.2.1 then(Xr,4)
  else if(Yf P.flatten).2≠0 then(Xr,(Yf P.flatten).2)
  else if Zdk ⟨((Yg d).1:Nat),(Yf P.flatten).1.st,(Yf P.flatten).1.tab⟩ then(⟨((Yg d).1:Nat),(Yf P.flatten).1.st,(Yf P.flatten).1.tab⟩,0)
  else(Xr,1)
def ZnQ (b:List UInt8):Qv × Int:=
 if(Qm b).2.2≠0 then(Xr,((Qm b).2.2:Nat)) else ZjA (Qm b).1
def Zfh (e:Ent):Bool->List Ent->List Ent
 | d,[]=>if d=true then[] else[e]
 | d,x::t=>(if d=false∧e.proc<x.proc then[e] else[])++((if x.proc=e.proc then[] else[x])++Zfh e (d || decide (e.proc<x.proc)) t)
def ZcE (t:List Ent) (e:Ent):List Ent:=Zfh e false t
theorem Zfi (e:Ent):∀ t:List Ent,Zfh e true t=t.filter (fun x=>decide (x.proc≠e.proc))
 | []=>rfl
 | x::t=>by
  rw[Zfh,if_neg (by simp),Bool.true_or,Zfi e t,List.filter_cons]
  by_cases h:x.proc=e.proc <;> simp[h]
theorem Zhg (e:Ent):∀ (t:List Ent) (d:Bool) (x:Ent),x ∈ Zfh e d t↔(d=false∧x=e)∨(x ∈ t∧x.proc≠e.proc)
 | [],d,x=>by cases d <;> simp[Zfh]
 | y::t,d,x=>by
  rw[Zfh,List.mem_append,List.mem_append,Zhg e t,List.mem_cons];by_cases b:d=false∧e.proc<y.proc
  ·have a:y.proc≠e.proc:=by omega
   rw[if_pos b,if_neg a,b.1];have c:decide (e.proc<y.proc)=true:=decide_eq_true b.2;rw[c];simp only [List.mem_singleton,Bool.or_true,Bool.true_eq_false,false_and,false_or,true_and];constructor
   ·rintro(h | h | ⟨h,h'⟩)
    ·exact .inl h
    ·exact .inr ⟨.inl h,by rw[h];exact a⟩
    ·exact .inr ⟨.inr h,h'⟩
   ·rintro(h | ⟨h | h,h'⟩)
    ·exact .inl h
    ·exact .inr (.inl h)
    ·exact .inr (.inr ⟨h,h'⟩)
  ·rw[if_neg b]
   have f:(d || decide (e.proc<y.proc))=false↔d=false:=by
    constructor
    ·intro h
     cases d
     ·rfl
     ·exact h
    ·intro h
     rw[h,Bool.false_or];exact decide_eq_false (fun c=>b ⟨h,c⟩)
   rw[f];by_cases a:y.proc=e.proc
   ·rw[if_pos a]
    simp only [List.not_mem_nil,false_or];constructor
    ·rintro(h | ⟨h,h'⟩)
     ·exact .inl h
     ·exact .inr ⟨.inr h,h'⟩
    ·rintro(h | ⟨h | h,h'⟩)
     ·exact .inl h
     ·exact absurd (by rw[h];exact a) h'
     ·exact .inr ⟨h,h'⟩
   ·rw[if_neg a]
    simp only [List.not_mem_nil,false_or,List.mem_singleton];constructor
    ·rintro(h | h | ⟨h,h'⟩)
     ·exact .inr ⟨.inl h,by rw[h];exact a⟩
     ·exact .inl h
     ·exact .inr ⟨.inr h,h'⟩
    ·rintro(h | ⟨h | h,h'⟩)
     ·exact .inr (.inl h)
     ·exact .inl h
     ·exact .inr (.inr ⟨h,h'⟩)
theorem ZlR (t:List Ent) (e x:Ent):x ∈ ZcE t e↔x=e∨(x ∈ t∧x.proc≠e.proc):=by
 unfold ZcE;rw[Zhg];simp
theorem ZlS (e:Ent):∀ (t:List Ent) (d:Bool),(Zfh e d t).length<=t.length+(if d=true then 0 else 1)
 | [],d=>by cases d <;> simp[Zfh]
 | y::t,d=>by
  have b:=ZlS e t (d || decide (e.proc<y.proc));rw[Zfh,length_append,length_append,length_cons];by_cases a:d=false∧e.proc<y.proc
  ·have c:decide (e.proc<y.proc)=true:=decide_eq_true a.2
   rw[a.1,c] at b ⊢;rw[if_pos ⟨rfl,a.2⟩];simp only [Bool.or_true,if_true] at b;split <;> simp <;> omega
  ·rw[if_neg a]
   have f:(if(d || decide (e.proc<y.proc))=true then(0:Nat) else 1)<=(if d=true then 0 else 1):=by
    cases d
    ·have:decide (e.proc<y.proc)=false:=decide_eq_false (fun h=>a ⟨rfl,h⟩)
     rw[this];exact Nat.le_refl _
    ·simp
   split <;> simp <;> omega
theorem Zte (t:List Ent) (e:Ent):(ZcE t e).length<=t.length+1:=ZlS e t false
def Zhh (t:List Ent):Prop:=t.Pairwise (fun a b=>a.proc<b.proc)
theorem Zhi {e:Ent}:∀ {t:List Ent},Zhh t->Zhh (ZcE t e)
 | [],_=>by simp[ZcE,Zfh,Zhh]
 | y::t,h=>by
  unfold Zhh at h;rw[pairwise_cons] at h;obtain⟨d,g⟩:=h;unfold ZcE Zhh;rw[Zfh,Bool.false_or];by_cases b:e.proc<y.proc
  ·have c:y.proc≠e.proc:=by omega
   rw[if_pos ⟨rfl,b⟩,if_neg c,decide_eq_true b,Zfi];show List.Pairwise _ (e::y::_);rw[pairwise_cons,pairwise_cons];refine⟨fun a ha=>?_,fun a ha=>d a ((List.mem_filter.1 ha).1),g.filter _⟩
   rcases List.mem_cons.1 ha with ha | ha
   ·rw[ha];exact b
   ·have:=d a ((List.mem_filter.1 ha).1)
    omega
  ·rw[if_neg (fun h=>b h.2),decide_eq_false b,List.nil_append]
   have f:Zhh (ZcE t e):=Zhi g;by_cases c:y.proc=e.proc
   ·rw[if_pos c,List.nil_append]
    exact f
   ·rw[if_neg c]
    show List.Pairwise _ (y::ZcE t e);rw[pairwise_cons];refine⟨fun a ha=>?_,f⟩
    rcases(ZlR t e a).1 ha with ha | ⟨ha,_⟩
    ·rw[ha];omega
    ·exact d a ha
theorem Jh.lt {t:List Ent} (h:Jh t k):∀ j i,i<j->j<k->(t.getD i Q8).proc<(t.getD j Q8).proc
 | 0,i,hi,_=>absurd hi (Nat.not_lt_zero _)
 | j+1,i,hi,hj=>by
  have a:=(h (j+1) hj).2 (by omega)
  rw[Nat.add_sub_cancel] at a;by_cases e:i=j
  ·rw[e];exact a
  ·have b:=h.lt j i (by omega) (by omega)
   omega
theorem Zel.rises {t:List Ent} (h:Zel t):Zhh t:=by
 unfold Zhh;rw[List.pairwise_iff_getElem];intro i j c a b;have:=h.lt j i b a;simpa[List.getD,c,a] using this
def Qs (key:Int):List Int->Nat
 | a::_::r=>if key<=a then 0 else Qs key r+2
 | _=>0
def Y6 (key:Int) (l:List Int):Bool:=(Xx key l).isSome
theorem Zhj (key:Int):∀ (l:List Int),l.length % 2=0->Qs key l<=l.length∧Qs key l % 2=0
 | [],_=>⟨Nat.le_refl _,rfl⟩
 | [_],h=>by simp at h
 | a::b::r,h=>by
  have c:=Zhj key r (by simp at h;omega)
  unfold Qs;split
  ·simp
  ·simp
   omega
theorem Zhk (key:Int):∀ (l:List Int) (k:Nat),l.length % 2=0->k % 2=0->k<=l.length->(∀ j,j<k->j % 2=0->l.getD j 0<key)->Qs key l=k+Qs key (l.drop k)
 | [],k,_,_,hk,_=>by
  have:k=0:=by simpa using hk
  subst this;rfl
 | [_],_,h,_,_,_=>by simp at h
 | a::b::r,k,h,hk2,hk,hall=>by
  by_cases e:k=0
  ·subst e
   simp
  ·obtain⟨j,rfl⟩:∃ j,k=j+2:=⟨k-2,by omega⟩
   have d:=hall 0 (by omega) rfl
   have f:a<key:=d
   have c:=Zhk key r j (by simp at h;omega) (by omega) (by simp at hk;omega) (fun i g m=>by
    have:=hall (i+2) (by omega) (by omega)
    exact this)
   conv=>lhs;unfold Qs
   rw[if_neg (by omega),c]
   show j+Qs key (r.drop j)+2=j+2+Qs key (r.drop j);omega
theorem ZnR (key:Int) (l:List Int) (k:Nat) (a:k+1<l.length) (h:key<=l.getD k 0):Qs key (l.drop k)=0:=by
 rw[ZsT l k a,Qs,if_pos h]
theorem ZbL (key least:Int):∀ (l:List Int) (lo:Int),Qr least lo l->Y6 key l=decide (Qs key l<l.length∧l.getD (Qs key l) 0=key)∧(Y6 key l=true->Xx key l=some (l.getD (Qs key l+1) 0)∧Qs key l+1<l.length)
 | [],lo,_=>by simp[Y6,Xx,Qs]
 | [_],lo,h=>by simp[Qr] at h
 | a::b::r,lo,h=>by
  have m:=ZaN (least:=least) (key:=key) (l:=r) (lo:=a);unfold Qr at h;have g:=ZbL key least r a h.2.2.2.2;by_cases f:key<=a
  ·have e:Qs key (a::b::r)=0:=by unfold Qs;rw[if_pos f]
   rw[e];by_cases d:a=key
   ·have c:Xx key (a::b::r)=some b:=by rw[Jn,if_pos d]
    unfold Y6;rw[c];simp[d]
   ·have c:Xx key (a::b::r)=none:=by rw[Jn,if_neg d,m h.2.2.2.2 f]
    unfold Y6;rw[c];simp[d]
  ·have e:Qs key (a::b::r)=Qs key r+2:=by rw[Qs,if_neg f]
   have c:Xx key (a::b::r)=Xx key r:=by rw[Jn,if_neg (by omega)]
   have j:Y6 key (a::b::r)=Y6 key r:=by unfold Y6;rw[c]
   rw[e,c,j];refine⟨?_,fun k=>?_⟩
   ·rw[g.1]
    have i:(a::b::r).getD (Qs key r+2) 0=r.getD (Qs key r) 0:=rfl;rw[i];apply decide_eq_decide.2;simp
   ·have:=g.2 k
    refine⟨this.1,?_⟩;simp;omega
theorem ZfO (key n least:Int):∀ (l:List Int) (lo:Int),Qr least lo l->Y6 key l=false->Q5 key n false l=l.take (Qs key l)++([key,n]++l.drop (Qs key l))
 | [],lo,_,_=>by simp[Q5,Qs]
 | [_],lo,h,_=>by simp[Qr] at h
 | a::b::r,lo,h,hm=>by
  rw[ZaO key n least a b r lo h];unfold Qr at h;have e:=ZfO key n least r a h.2.2.2.2;unfold Y6 at hm;rw[Jn] at hm;by_cases d:a=key
  ·rw[if_pos d] at hm
   simp at hm
  ·rw[if_neg d] at hm
   by_cases c:key<a
   ·rw[if_pos c,Qs,if_pos (by omega)]
    rfl
   ·rw[if_neg c,if_neg (by omega),e hm,Qs,if_neg (by omega)]
    rfl
theorem ZlT (key n least:Int):∀ (l:List Int) (lo:Int),Qr least lo l->Y6 key l=true->Q5 key n false l=l.set (Qs key l+1) n
 | [],lo,_,h=>by simp[Y6,Xx] at h
 | [_],lo,h,_=>by simp[Qr] at h
 | a::b::r,lo,h,hm=>by
  rw[ZaO key n least a b r lo h];have f:=ZaN (least:=least) (key:=key) (l:=r) (lo:=a);unfold Qr at h;have d:=ZlT key n least r a h.2.2.2.2;unfold Y6 at hm;rw[Jn] at hm;by_cases c:a=key
  ·rw[if_neg (by omega),if_pos c.symm,Qs,if_pos (by omega),c]
   rfl
  ·rw[if_neg c] at hm
   by_cases e:key<a
   ·rw[f h.2.2.2.2 (by omega)] at hm
    simp at hm
   ·rw[if_neg e,if_neg (by omega),d hm,Qs,if_neg (by omega)]
    rfl
theorem Zdn {least key:Int}:∀ {l:List Int} {lo:Int},Qr least lo l->key<=lo->X9 key l=l
 | [],_,_,_=>rfl
 | [_],_,h,_=>by simp[Qr] at h
 | a::b::r,lo,h,hk=>by
  unfold Qr at h;rw[Zad,if_pos (by omega),Zdn h.2.2.2.2 (by omega)]
theorem ZfP (key least:Int):∀ (l:List Int) (lo:Int),Qr least lo l->Y6 key l=false->X9 key l=l
 | [],lo,_,_=>rfl
 | [_],lo,h,_=>by simp[Qr] at h
 | a::b::r,lo,h,hm=>by
  unfold Qr at h;have d:=ZfP key least r a h.2.2.2.2;unfold Y6 at hm;rw[Jn] at hm;by_cases c:a=key
  ·rw[if_pos c] at hm
   simp at hm
  ·rw[if_neg c] at hm
   rw[Zad,if_pos c,d hm]
theorem ZfQ (key least:Int):∀ (l:List Int) (lo:Int),Qr least lo l->Y6 key l=true->X9 key l=l.take (Qs key l)++l.drop (Qs key l+2)
 | [],lo,_,h=>by simp[Y6,Xx] at h
 | [_],lo,h,_=>by simp[Qr] at h
 | a::b::r,lo,h,hm=>by
  have f:=ZaN (least:=least) (key:=key) (l:=r) (lo:=a);unfold Qr at h;have e:=ZfQ key least r a h.2.2.2.2;unfold Y6 at hm;rw[Jn] at hm;rw[Zad];by_cases d:a=key
  ·rw[if_neg (by omega),Qs,if_pos (by omega),Zdn h.2.2.2.2 (by omega)]
   rfl
  ·rw[if_neg d] at hm
   rw[if_pos d];by_cases c:key<=a
   ·rw[f h.2.2.2.2 c] at hm
    simp at hm
   ·rw[e hm,Qs,if_neg c]
    rfl
def Ze (s:St) (o:Opn):St × Int:=
 if o.a<0∨255<o.a then(s,-1) else
 if o.code≠7∧o.code≠6∧o.code≠5 then(s,0) else
 if o.code=6 then(⟨s.kind,X9 o.a s.L,s.shut,s.eng⟩,ZqC o.a s.L) else
 if o.code=5 then(if Z8 o.a 0 s.L<0∧s.L.length=128 then(s,-2) else(⟨s.kind,Q5 o.a (Zz o.b) false s.L,s.shut,s.eng⟩,ZqC o.a s.L)) else
 (s,ZqC o.a s.L)
def Y9 (s:St) (o:Opn):St × Int:=
 if ¬ X8 s then(s,0) else
 if s.shut=true then(s,-1125899906842624) else
 if o.code=10 then(⟨s.kind,s.L,true,if 0<=o.a∧o.a<=2 then o.a else s.eng⟩,0) else
 if s.kind<=1 then ZdX s o else if s.kind<=3 then Yy s o else if s.kind=4 then Ze s o else Xv s o
theorem ZfR (s:St) (o:Opn):(Ze s o).1=(Zcq s o).1:=by
 unfold Ze Zcq;by_cases b:o.a<0∨255<o.a
 ·rw[if_pos b]
  split
  ·rfl
  ·first | rfl | (rw[if_pos b])
 ·rw[if_neg b,if_neg b]
theorem ZdC (s:St) (o:Opn):(Y9 s o).1=(Zcy s o).1:=by
 unfold Y9 Zcy;split
 ·rfl
 split
 ·rfl
 split
 ·rfl
 split
 ·rfl
 split
 ·rfl
 split
 ·exact ZfR s o
 ·rfl
theorem ZvD (s:St) (o:Opn) (h:s.kind≠4∨s.shut=true∨o.code=10∨o.code=5∨o.code=6∨o.code=7∨(0<=o.a∧o.a<=255)):Y9 s o=Zcy s o:=by
 unfold Y9 Zcy;split
 ·rfl
 split
 ·rfl
 split
 ·rfl
 split
 ·rfl
 split
 ·rfl
 split
 ·rename_i e c d _ _ b
  unfold Ze Zcq;rcases h with h | h | h | h | h | h | h
  ·exact absurd b h
  ·exact absurd h c
  ·exact absurd h d
  ·rw[if_neg (show ¬ (o.code≠7∧o.code≠6∧o.code≠5) by omega),if_neg (show ¬ (o.code≠7∧o.code≠6∧o.code≠5) by omega)]
  ·rw[if_neg (show ¬ (o.code≠7∧o.code≠6∧o.code≠5) by omega),if_neg (show ¬ (o.code≠7∧o.code≠6∧o.code≠5) by omega)]
  ·rw[if_neg (show ¬ (o.code≠7∧o.code≠6∧o.code≠5) by omega),if_neg (show ¬ (o.code≠7∧o.code≠6∧o.code≠5) by omega)]
  ·rw[if_neg (show ¬ (o.a<0∨255<o.a) by omega),if_neg (show ¬ (o.a<0∨255<o.a) by omega)]
 ·rfl
theorem Zhl (h:¬ X8 s) (o:Opn):Y9 s o=(s,0):=by
 unfold Y9;rw[if_pos h]
theorem ZqN (h:X8 s) (a:s.shut=true) (o:Opn):Y9 s o=(s,-1125899906842624):=by
 unfold Y9;rw[if_neg (fun e=>e h),if_pos a]
theorem Zhm (h:X8 s) (o:Opn):X8 (Y9 s o).1:=by rw[ZdC];exact Zvv h o
theorem Zyb (s:St) (o:Opn):(Y9 s o).1.kind=s.kind:=by rw[ZdC];exact ZsW s o
theorem Zxm (h:X8 s) (o:Opn):(Y9 s o).1.shut=(s.shut || decide (o.code=10)):=by rw[ZdC];exact ZqF h o
def Ztf:St->List Opn->St × List Int
 | s,[]=>(s,[])
 | s,o::r=>((Ztf (Y9 s o).1 r).1,(Y9 s o).2::(Ztf (Y9 s o).1 r).2)
def ZiW (s:Qv) (r:Rec):Qv:=⟨s.idx+1,(Y9 s.st r.op).1,ZcE s.tab ⟨r.proc,r.seq,(Y9 s.st r.op).2⟩⟩
def Xa:Qv->List Rec->Qv × Int
 | s,[]=>(s,0)
 | s,r::l=>if r.idx≠s.idx then(Xr,15) else if ¬ Qw r then(Xr,1) else Xa (ZiW s r) l
theorem ZdD:∀ (l:List Rec) (s:Qv),(Xa s l).2=0->(Xa s l).1.st=(Ztf s.st (l.map (fun r=>r.op))).1∧(Xa s l).1.idx=s.idx+l.length
 | [],s,_=>by simp[Xa,Ztf]
 | r::l,s,h=>by
  rw[Xa] at h ⊢;by_cases a:r.idx≠s.idx
  ·rw[if_pos a] at h
   exact absurd h (by decide)
  rw[if_neg a] at h ⊢;by_cases b:¬ Qw r
  ·rw[if_pos b] at h
   exact absurd h (by decide)
  rw[if_neg b] at h ⊢;obtain⟨d,c⟩:=ZdD l (ZiW s r) h;rw[d,c,List.map_cons,Ztf];refine⟨rfl,?_⟩;show s.idx+1+_=_;rw[length_cons];omega
def Qy (l:List Rec) (p:Int):Int:=l.foldl (fun a r=>if r.proc=p then r.seq else a) 0
theorem ZlU (l:List Rec) (r:Rec) (p:Int):Qy (l++[r]) p=if r.proc=p then r.seq else Qy l p:=by
 unfold Qy;rw[List.foldl_append];rfl
theorem ZjB {l:List Rec} (p:Int):(∀ r ∈ l,Qw r)->0<=Qy l p∧Qy l p<4611686018427387904:=by
 unfold Qy
 suffices h:∀ (l:List Rec) (a:Int),(∀ r ∈ l,Qw r)->0<=a->a<4611686018427387904->0<=l.foldl (fun a r=>if r.proc=p then r.seq else a) a∧l.foldl (fun a r=>if r.proc=p then r.seq else a) a<4611686018427387904 by
  exact fun j=>h l 0 j (by decide) (by decide)
 intro l
 induction l with
 | nil=>intro a _ e c;exact⟨e,c⟩
 | cons r t f=>
  intro a b e c;rw[List.foldl_cons];have k:=b r (by simp)
  obtain⟨_,_,_,m,i,_⟩:=k;by_cases g:r.proc=p
  ·rw[if_pos g]
   exact f _ (fun s d=>b s (by simp[d])) m i
  ·rw[if_neg g]
   exact f _ (fun s d=>b s (by simp[d])) e c
def Ys (pre:List Rec) (r:Rec):List UInt8:=
 Lib.uvarint r.proc.toNat++(Lib.uvarint (Lib.zigzag (r.seq-Qy pre r.proc))++(Xo r.op++Lib.uvarint (Lib.zigzag r.resp)))
def Xw (pre:List Rec):List Rec->List UInt8
 | []=>[]
 | r::t=>Ys pre r++Xw (pre++[r]) t
def Y2 (l:List Rec):List UInt8:=Lib.uvarint (l.headD Qi).idx.toNat++(Lib.uvarint l.length++Xw [] l)
def Xq:Int->List Rec->Prop
 | _,[]=>True
 | i,r::t=>r.idx=i∧Xq (i+1) t
instance chainR_dec:∀ (i:Int) (l:List Rec),Decidable (Xq i l)
 | _,[]=>.isTrue trivial
 | i,r::t=>by
  unfold Xq;exact @instDecidableAnd _ _ _ (chainR_dec (i+1) t)
def Yc (l:List Rec):Prop:=1<=l.length∧l.length<=256∧(∀ r ∈ l,Qw r)∧Xq (l.headD Qi).idx l
instance (l:List Rec):Decidable (Yc l):=by unfold Yc;infer_instance
theorem Zhn:∀ (a b c:List Rec),Xw c (a++b)=Xw c a++Xw (c++a) b
 | [],b,c=>by simp[Xw]
 | r::t,b,c=>by
  have e:c++[r]++t=c++r::t:=by simp
  rw[cons_append,Xw,Zhn t b,e,Xw];exact(append_assoc _ _ _).symm
theorem ZqO (l:List Rec) (k:Nat) (a:k<l.length):Xw [] (l.take (k+1))=Xw [] (l.take k)++Ys (l.take k) (l.getD k Qi):=by
 have e:l.take (k+1)=l.take k++[l.getD k Qi]:=by
  rw[List.take_add_one];simp[List.getD,a]
 rw[e,Zhn];simp[Xw]
def ZyP (pre:List Rec) (b:List UInt8):Rec × Nat:=
 let i:=(Qb b).2
 let j:=(Qd (b.drop i)).2
 let k:=(Q0 (b.drop (i+j))).2
 let m:=(Qd (b.drop (i+j+k))).2
 if i=0∨j=0∨k=0∨m=0 then(Qi,0)
 else(⟨0,(Qb b).1,IntKind.i64.wrap (Qy pre (Qb b).1+zag (Qd (b.drop i)).1),(Q0 (b.drop (i+j))).1,zag (Qd (b.drop (i+j+k))).1⟩,i+j+k+m)
theorem ZnS {n:Int} (h:I64 n):IntKind.i64.wrap n=n:=by
 obtain⟨b,a⟩:=h;rw[IntKind.wrap_i64];omega
theorem Zem {l:List Rec} (a:∀ r ∈ l,Qw r) {r:Rec} (b:Qw r):I64 (r.seq-Qy l r.proc):=by
 obtain⟨e,d⟩:=ZjB r.proc a;obtain⟨_,_,_,f,c,_⟩:=b;exact⟨by omega,by omega⟩
theorem Zxn {a:List Rec} (n:∀ r ∈ a,Qw r) {r:Rec} (b:Qw r) (t:List UInt8):ZyP a (Ys a r++t)=({ r with idx:=0 },(Ys a r).length):=by
 have d:=Zem n b;have c:=ZaQ b;obtain⟨v,_,_,A,z,y,B,_⟩:=id b
 have E:Ys a r++t=Lib.uvarint r.proc.toNat++(Lib.uvarint (Lib.zigzag (r.seq-Qy a r.proc))++(Xo r.op++(Lib.uvarint (Lib.zigzag r.resp)++t))):=by
  unfold Ys;simp only [append_assoc]
 have g:=X3 r.proc.toNat (Lib.uvarint (Lib.zigzag (r.seq-Qy a r.proc))++(Xo r.op++(Lib.uvarint (Lib.zigzag r.resp)++t))) (by omega)
 rw[<-E] at g;have e:(Ys a r++t).drop (Lib.uvarint r.proc.toNat).length=Lib.uvarint (Lib.zigzag (r.seq-Qy a r.proc))++(Xo r.op++(Lib.uvarint (Lib.zigzag r.resp)++t)):=by rw[E,drop_left]
 have x:=Zu (Lib.zigzag (r.seq-Qy a r.proc)) (Xo r.op++(Lib.uvarint (Lib.zigzag r.resp)++t)) (ZbH d);have f:(Ys a r++t).drop ((Lib.uvarint r.proc.toNat).length+(Lib.uvarint (Lib.zigzag (r.seq-Qy a r.proc))).length)=Xo r.op++(Lib.uvarint (Lib.zigzag r.resp)++t):=by rw[<-drop_drop,e,drop_left]
 have j:=ZlK r.op v (Lib.uvarint (Lib.zigzag r.resp)++t);have w:(Ys a r++t).drop ((Lib.uvarint r.proc.toNat).length+(Lib.uvarint (Lib.zigzag (r.seq-Qy a r.proc))).length+(Xo r.op).length)=Lib.uvarint (Lib.zigzag r.resp)++t:=by rw[<-drop_drop,f,drop_left]
 have q:=Zu (Lib.zigzag r.resp) t (ZbH c);have i:=Zej r.proc.toNat;have p:=Zej (Lib.zigzag (r.seq-Qy a r.proc));have k:=Zej (Lib.zigzag r.resp)
 have m:(Xo r.op).length≠0:=by
  unfold Xo;have:=Zej r.op.code.toNat;rw[length_append];omega
 unfold ZyP;simp only [g,e,x,f,j,w,q];rw[if_neg (by rintro(h | h | h | h);exact i h;exact p h;exact m h;exact k h)]
 have u:((r.proc.toNat:Nat):Int)=r.proc:=by omega
 rw[u,ZaM _ d.1 d.2,ZaM _ c.1 c.2];have l:Qy a r.proc+(r.seq-Qy a r.proc)=r.seq:=by omega
 rw[l,ZnS ⟨by omega,by omega⟩]
 congr 1
 unfold Ys;simp only [length_append];omega
def DecB (b:List UInt8) (l:List Rec) (e:Int):Prop:=(e=0∧Yc l∧Y2 l=b)∨(e=3∧l=[]∧∀ l',Yc l'->Y2 l'≠b)
structure Seg where
 kind:Int
 first:Int
 recs:List Rec
def Zen:Seg:=⟨0,0,[]⟩
def Zho:Nat->Int->List Rec->List UInt8->List Rec
 | 0,_,pre,_=>pre
 | n+1,i,pre,b=>Zho n i (pre++[{ (ZyP pre b).1 with idx:=i+pre.length }]) (b.drop (ZyP pre b).2)
def ZlV (b:List UInt8):List Rec:=Zho (Qb (b.drop (Qb b).2)).1 (Qb b).1 [] (b.drop ((Qb b).2+(Qb (b.drop (Qb b).2)).2))
def ZdE (b:List UInt8):Option (List Rec):=if Yc (ZlV b)∧Y2 (ZlV b)=b then some (ZlV b) else none
theorem Zhp:∀ (l a:List Rec) (i:Int) (t:List UInt8),(∀ r ∈ a,Qw r)->(∀ r ∈ l,Qw r)->Xq (i+a.length) l->Zho l.length i a (Xw a l++t)=a++l
 | [],a,i,t,_,_,_=>by simp[Zho]
 | r::l,a,i,t,hp,hl,b=>by
  obtain⟨g,b⟩:=b;have d:=hl r (by simp)
  have e:=Zxn hp d (Xw (a++[r]) l++t);rw[length_cons,Zho,Xw,append_assoc,e];have j:({ ({ r with idx:=0 }:Rec) with idx:=i+a.length }:Rec)=r:=by rw[<-g]
  simp only [j,drop_left]
  rw[Zhp l (a++[r]) i t (fun s c=>by
   rcases List.mem_append.1 c with h | h
   ·exact hp s h
   ·rw[List.mem_singleton.1 h];exact d) (fun s c=>hl s (by simp[c])) (by
   have f:i+((a++[r]).length:Int)=i+(a.length:Int)+1:=by simp;omega
   rw[f];exact b)]
  simp
theorem ZqP {l:List Rec} (h:Yc l):Qw (l.headD Qi):=by
 cases l with
 | nil=>exact absurd h.1 (by simp)
 | cons r t=>exact h.2.2.1 r (by simp)
theorem ZqQ {l:List Rec} (h:Yc l):ZlV (Y2 l)=l:=by
 have d:=ZqP h;obtain⟨i,j,f,b⟩:=h;obtain⟨_,m,k,_⟩:=d
 have c:Qb (Y2 l)=((l.headD Qi).idx.toNat,(Lib.uvarint (l.headD Qi).idx.toNat).length):=by
  unfold Y2;exact X3 _ _ (by omega)
 have a:(Y2 l).drop (Lib.uvarint (l.headD Qi).idx.toNat).length=Lib.uvarint l.length++Xw [] l:=by
  unfold Y2;rw[drop_left]
 have g:Qb (Lib.uvarint l.length++Xw [] l)=(l.length,(Lib.uvarint l.length).length):=X3 _ _ (by omega)
 unfold ZlV;rw[c];simp only;rw[<-drop_drop,a,g];simp only [drop_left]
 have h:=Zhp l [] ((l.headD Qi).idx.toNat:Nat) [] (by simp) f (by
  have e:(((l.headD Qi).idx.toNat:Nat):Int)+(([]:List Rec).length:Int)=(l.headD Qi).idx:=by rw[length_nil];omega
  rw[e]
  exact b)
 rw[List.append_nil] at h;exact h
theorem Ztg {l:List Rec} (h:Yc l):ZdE (Y2 l)=some l:=by
 unfold ZdE;rw[ZqQ h,if_pos ⟨h,rfl⟩]
theorem Zfj {b:List UInt8} {l:List Rec} (h:ZdE b=some l):Yc l∧Y2 l=b:=by
 unfold ZdE at h;split at h
 ·rename_i a
  injection h with h
  rw[<-h];exact a
 ·cases h
set_option linter.unusedVariables false in
def ZwU (v:Nat) (d:List UInt8):Option (List Rec):=
 if hd:d=[] then some []
 else if hk:(Qb d).2=0∨d.length<(Qb d).2+(Qb d).1∨(Qb d).1<1∨(d.getD (Qb d).2 0).toNat≠v then none
 else if(decR ((d.drop (Qb d).2).take (Qb d).1)).2≠0 then none
 else(ZwU v (d.drop ((Qb d).2+(Qb d).1))).map (fun t=>(decR ((d.drop (Qb d).2).take (Qb d).1)).1::t)
termination_by d.length
decreasing_by
 have h1:d.length≠0:=by simpa using hd
 rw[length_drop];omega
def Zyl (v:Nat) (r:Rec):List UInt8:=Lib.uvarint (encR v r).length++encR v r
def ZyU (v:Nat) (l:List Rec):List UInt8:=if v=3 then Y2 l else l.flatMap (Zyl v)
def X6 (v k f:Nat):List UInt8:=108::(Lib.uvarint v++(Lib.uvarint k++Lib.uvarint f))
def Zym:Nat->List (List UInt8)->List UInt8
 | _,[]=>[]
 | d,x::xs=>Lib.uvarint d++Zym (Qe x).length xs
def Zyn (H:List UInt8) (B:List (List UInt8)):List UInt8:=Lib.uvarint B.length++Zym (Qe H).length B
def ZpO (l:List Rec) (first:Int):Prop:=l.length<=4096∧(∀ r ∈ l,Qw r)∧Xq first l
instance (l:List Rec) (first:Int):Decidable (ZpO l first):=by unfold ZpO;infer_instance
def MayG (s:Seg):Prop:=(0<=s.kind∧s.kind<6∧0<=s.first∧s.first<4611686018427387904)∧ZpO s.recs s.first
instance (s:Seg):Decidable (MayG s):=by unfold MayG;infer_instance
def Za (d:List UInt8):Except Int (Nat × Nat × Nat):=
 let i:=(Qb (d.drop 1)).2
 let j:=(Qb (d.drop (1+i))).2
 let m:=(Qb (d.drop (1+i+j))).2
 if d=[]∨d.getD 0 0≠108 then .error 3
 else if i=0∨j=0∨m=0∨1+i+j+m≠d.length then .error 3
 else if(Qb (d.drop 1)).1<1∨3<(Qb (d.drop 1)).1 then .error 6
 else if 6<=(Qb (d.drop (1+i))).1 then .error 1
 else .ok ((Qb (d.drop 1)).1,(Qb (d.drop (1+i))).1,(Qb (d.drop (1+i+j))).1)
def ZpP (v:Nat) (d:List UInt8) (next:Int):Option (List Rec):=
 match (if v<3 then ZwU v d else ZdE d) with
 | none=>none
 | some l=>if((1<=l.length∧l.length<=16)∧ZpO l next)∧ZyU v l=d then some l else none
def Z9 (v:Nat) (first:Int):List (List UInt8)->List Rec->Nat->List Rec × Nat × Int
 | [],acc,_=>(acc,0,0)
 | d::ds,acc,last=>
  match ZpP v d (first+acc.length) with
  | none=>(acc,0,3)
  | some r=>if last<16 then(acc,0,3) else if 4096<acc.length+r.length then(acc,0,5)
   else((Z9 v first ds (acc++r) r.length).1,(Z9 v first ds (acc++r) r.length).2.1+1,(Z9 v first ds (acc++r) r.length).2.2)
def Zyo (L:List (List UInt8)):Seg × Int:=
 if L.length<2 then(Zen,16)
 else match Za (L.headD []) with
  | .error e=>(Zen,e)
  | .ok (v,k,f)=>
   if(Z9 v f (L.tail.dropLast) [] 16).2.2≠0 then(Zen,(Z9 v f (L.tail.dropLast) [] 16).2.2)
   else if Zyn (L.headD []) L.tail.dropLast=L.getLastD [] then(⟨k,f,(Z9 v f (L.tail.dropLast) [] 16).1⟩,0) else(Zen,16)
def ZvE (L:List (List UInt8)):Seg × Nat × Bool:=
 if L=[] then(Zen,0,false)
 else match Za (L.headD []) with
  | .error _=>(Zen,0,false)
  | .ok (v,k,f)=>(⟨k,f,(Z9 v f L.tail [] 16).1⟩,(Qf (L.take (1+(Z9 v f L.tail [] 16).2.1))).length,true)
def Ju (b:List UInt8):Seg × Nat × Bool:=ZvE (Qm b).1
structure Pce where
 name:Int
 first:Int
 stop:Int
def Yv:Pce:=⟨0,0,0⟩
structure Lgb where
 first:Int
 recs:List Rec
 pcs:List Pce
def Lgb.next (b:Lgb):Int:=b.first+b.recs.length
def Lgb.start (b:Lgb) (name first:Int):Lgb:=⟨if b.pcs.length=0 then first else b.first,b.recs,b.pcs++[⟨name,first,first⟩]⟩
def Zq (l:List Pce) (n:Nat):List Pce:=l.set (l.length-1) ⟨(l.getD (l.length-1) Yv).name,(l.getD (l.length-1) Yv).first,(l.getD (l.length-1) Yv).stop+n⟩
def Lgb.add (b:Lgb) (l:List Rec):Lgb:=⟨b.first,b.recs++l,Zq b.pcs l.length⟩
def Yt (left:List Pce) (base:Int):Int:=if left.length=0 then base else(left.getD 0 Yv).first
def Lgb.letGo (b:Lgb) (left:List Pce) (base:Int):Lgb:=⟨Yt left base,b.recs.drop (Yt left base-b.first).toNat,left⟩
def Lgb.leads (b:Lgb) (base:Qv):Prop:=b.pcs.length≠0∧b.first<=base.idx∧base.idx<=b.next∧(Xa base (b.recs.drop (base.idx-b.first).toNat)).2=0
instance (b:Lgb) (base:Qv):Decidable (b.leads base):=by unfold Lgb.leads;infer_instance
def Lgb.behind (b:Lgb) (base:Qv):Lgb × Qv:=
 if b.leads base then(b,(Xa base (b.recs.drop (base.idx-b.first).toNat)).1) else(⟨base.idx,[],[]⟩,base)
structure Sto where
 log:Lgb
 bases:List Qv
 now:Qv
 synced:Int
 cur:Int
 nw:Bool
def Sto.next (s:Sto):Int:=s.log.next
def Sto.base (s:Sto):Qv:=s.bases.getD (s.bases.length-1) Xr
abbrev SDk:=Sto × Dk
def Ql (d:Dk):List Int:=(Q6 d).map Prod.fst
def Xg (l:List Int) (first:Int):List Int:=l.filter fun n=>!(decide (n<first) || decide ((n-first) % 2≠0))
def Ya (d:Dk) (first:Int):Int:=(Xg (Ql d) first).getD ((Xg (Ql d) first).length-1) (first-2)+2
def Zca (H:List UInt8) (kind:Int):Option Nat:=
 match Za H with
 | .ok (v,k,f)=>if v=3∧(k:Int)=kind then some f else none
 | .error _=>none
def Ym (first:Int):List (List UInt8)->List Rec->List Rec
 | [],acc=>acc
 | d::t,acc=>
  match ZdE d with
  | none=>acc
  | some l=>if(l.headD Qi).idx=first+acc.length then Ym first t (acc++l) else acc
def Zvp (b:List UInt8) (kind:Int):Option (Nat × List Rec):=
 match (Qm b).1 with
 | []=>none
 | H::B=>(Zca H kind).map fun f=>(f,Ym f B [])
def Zbv:Lgb:=⟨0,[],[]⟩
def logOne (d:Dk) (kind:Int) (b:Lgb) (n:Int):Lgb:=
 match Zvp (Z1 d n).1 kind with
 | none=>b
 | some (f,l)=>if b.pcs.length=0∨(f:Int)=b.next then(b.start n f).add l else b
def ZfS (d:Dk) (kind:Int):Lgb:=(Xg (Ql d) 2).foldl (logOne d kind) Zbv
def ZaC (kind:Int):Qv:=⟨0,Jo kind,[]⟩
def Zao (d:Dk) (kind:Int) (l:List Qv) (n:Int):List Qv:=
 if(ZnQ (Z1 d n).1).2=0∧(ZnQ (Z1 d n).1).1.st.kind=kind then l++[(ZnQ (Z1 d n).1).1] else l
def Yd (d:Dk) (kind:Int):List Qv:=(Xg (Ql d) 3).foldl (Zao d kind) [ZaC kind]
def ZaW (l:List Qv):Qv:=l.getD (l.length-1) Xr
def Zgn (d:Dk) (kind:Int):Sto:=
 ⟨((ZfS d kind).behind (ZaW (Yd d kind))).1,Yd d kind,((ZfS d kind).behind (ZaW (Yd d kind))).2,((ZfS d kind).behind (ZaW (Yd d kind))).1.next,0,false⟩
def Zfk (d:Dk) (kind:Int):Int:=if kind<0∨6<=kind then 1 else if d.power=0 then 11 else 0
def Q3:List (SDk->SDk × Int)->SDk->SDk × Int
 | [],x=>(x,0)
 | f::t,x=>if(f x).2=0 then Q3 t (f x).1 else f x
def Qt (x:SDk):SDk × Int:=((if(Xs x.2).2=0 then { x.1 with nw:=false } else x.1,(Xs x.2).1),(Xs x.2).2)
def Xj (x:SDk):SDk × Int:=if x.1.nw=true then Qt x else(x,0)
def X0 (f:Dk->Dk × Int) (x:SDk):SDk × Int:=((x.1,(f x.2).1),(f x.2).2)
def Xb (x:SDk):SDk × Int:=X0 (fun d=>Jf d x.1.cur) x
def Zbw (s:Sto):Sto:={ s with synced:=s.next }
def Zf (x:SDk):SDk × Int:=
 if x.1.cur=0 then((Zbw x.1,x.2),0) else
 if(Q3 [Xb,Xj] x).2=0 then((Zbw (Q3 [Xb,Xj] x).1.1,(Q3 [Xb,Xj] x).1.2),0) else Q3 [Xb,Xj] x
def Zbx (x:SDk):SDk × Int:=if(Zf x).2=0 then(({ (Zf x).1.1 with cur:=0 },(Zf x).1.2),0) else Zf x
def Zbl (s:Sto) (l:List Rec):List UInt8:=if s.cur=0 then Qe (X6 3 s.now.st.kind.toNat s.next.toNat)++Qe (Y2 l) else Qe (Y2 l)
def Zcw (s:Sto) (d:Dk):Int:=if s.cur=0 then Ya d 2 else s.cur
def Z2 (s:Sto) (name:Int) (l:List Rec):Sto:=
 { s with log:=(if s.cur=0 then s.log.start name s.next else s.log).add l,now:=(Xa s.now l).1,cur:=name,nw:=if s.cur=0 then true else s.nw }
def Yn (l:List Rec) (x:SDk):SDk × Int:=
 if ¬ Yc l then(x,1) else if(l.headD Qi).idx≠x.1.next then(x,15) else
 if(Xe x.2 (Zcw x.1 x.2) (Zbl x.1 l)).2=0 then((Z2 x.1 (Zcw x.1 x.2) l,(Xe x.2 (Zcw x.1 x.2) (Zbl x.1 l)).1),0)
 else((x.1,(Xe x.2 (Zcw x.1 x.2) (Zbl x.1 l)).1),(Xe x.2 (Zcw x.1 x.2) (Zbl x.1 l)).2)
def ZkA (x:SDk):SDk × Int:=(x,if Zdk x.1.now then 0 else 1)
def Z4 (x:SDk):SDk × Int:=if 1 ∈ Ql x.2 then X0 (fun d=>Qp d 1) x else(x,0)
def Zeo (x:SDk):SDk × Int:=X0 (fun d=>Xe d 1 (if Zdk x.1.now then Zvo x.1.now else[])) x
def ZaX (x:SDk):SDk × Int:=X0 (fun d=>Zam d 1 (Ya d 3)) x
def ZdF:SDk->SDk × Int:=Q3 [Zf,ZkA,Z4,Zeo,X0 (fun d=>Jf d 1),ZaX,Qt]
def Yp (x:SDk):SDk × Int:=
 if(ZdF x).2=0 then(({ (ZdF x).1.1 with bases:=(ZdF x).1.1.bases++[(ZdF x).1.1.now] },(ZdF x).1.2),0) else ZdF x
def ZkB (s:Sto) (p:Pce):Bool:=decide (p.stop<=s.base.idx) && decide (p.name≠s.cur)
def ZdG (s:Sto):List Pce:=s.log.pcs.filter fun p=>!ZkB s p
def ZkC (s:Sto):List (SDk->SDk × Int):=(s.log.pcs.filter (ZkB s)).map fun p=>X0 (fun d=>Qp d p.name)
def Zaz (x:SDk):SDk × Int:=
 if(Q3 (ZkC x.1++[Qt]) x).2=0 then(({ (Q3 (ZkC x.1++[Qt]) x).1.1 with log:=x.1.log.letGo (ZdG x.1) x.1.base.idx },(Q3 (ZkC x.1++[Qt]) x).1.2),0)
 else Q3 (ZkC x.1++[Qt]) x
def ZgA (s:Sto) (a b:Int):List Rec × Int:=
 if a<0∨b<a∨s.next<b then([],12) else if a<s.log.first then([],13) else((s.log.recs.take (b-s.log.first).toNat).drop (a-s.log.first).toNat,0)
theorem Zag (l:List UInt8) (a b:Nat):(l.drop a).take b++l.drop (a+b)=l.drop a:=by rw[<-drop_drop,take_append_drop]
theorem ZnT {e:Ent} (h:ZbZ e):e.proc.toNat<4611686018427387904∧e.seq.toNat<4611686018427387904∧I64 e.resp∧((e.proc.toNat:Nat):Int)=e.proc∧((e.seq.toNat:Nat):Int)=e.seq:=by
 obtain⟨b,c,d,a,f,g⟩:=h;exact⟨by omega,by omega,⟨by omega,by omega⟩,by omega,by omega⟩
theorem ZvF (e:Ent):1<=(ZvC e).length:=by
 unfold ZvC;have:=Zej e.proc.toNat;rw[length_append];omega
theorem Zth (t:List Ent):t.length<=(Yz t).length:=by
 induction t with
 | nil=>simp
 | cons e t a=>
  unfold Yz at a ⊢;rw[List.flatMap_cons,length_append,length_cons];have:=ZvF e;omega
theorem ZlW {t:List Ent} (h:Zel t):t.length<=65:=by
 have e:∀ i,i<t.length->(i:Int)<=(t.getD i Q8).proc:=by
  intro i
  induction i with
  | zero=>
   intro a;exact(h 0 a).1.1
  | succ i c=>
   intro a;have d:=c (by omega)
   have b:=(h (i+1) a).2 (by omega)
   rw[Nat.add_sub_cancel] at b;omega
 by_cases f:t.length=0
 ·omega
 ·have d:=e (t.length-1) (by omega)
  have b:=(h (t.length-1) (by omega)).1.2.1
  omega
theorem ZvG {e:Ent} (h:ZbZ e):(ZvC e).length<=30:=by
 obtain⟨g,c,a,_⟩:=ZnT h;have b:=Lib.uvarint_length64 (x:=e.proc.toNat) (by omega)
 have d:=Lib.uvarint_length64 (x:=e.seq.toNat) (by omega)
 have f:=Lib.uvarint_length64 (ZbH a);unfold ZvC;rw[length_append,length_append];omega
theorem ZpQ:∀ (t:List Ent),(∀ e ∈ t,ZbZ e)->(Yz t).length<=30*t.length
 | [],_=>by simp[Yz]
 | e::t,h=>by
  have d:=ZvG (h e (by simp))
  have c:=ZpQ t (fun a b=>h a (by simp[b]))
  unfold Yz at c ⊢;rw[List.flatMap_cons,length_append,length_cons];omega
theorem ZpR:∀ (l:List Int),(∀ x ∈ l,I64 x)->(Zs l).length<=10*l.length
 | [],_=>by simp[Zs]
 | x::t,h=>by
  have c:=Lib.uvarint_length64 (ZbH (h x (by simp)))
  have d:=ZpR t (fun a b=>h a (by simp[b]))
  rw[Zs,length_append,length_cons];omega
theorem Zti (h:X8 s):(Zgz s).length<=2000:=by
 obtain⟨d,g,a⟩:=Zhb h;have b:=ZpL h;have e:=Lib.uvarint_length64 (x:=s.kind.toNat) (by omega)
 have i:=Lib.uvarint_length64 (x:=Zbu s) (by omega)
 have f:=Lib.uvarint_length64 (x:=s.L.length) (by omega)
 have c:=ZpR s.L a;unfold Zgz;rw[length_append,length_append,length_append];omega
theorem ZbM {s:Qv} (h:Zdk s):(Xt s).length<=5000:=by
 obtain⟨_,b,a⟩:=h;have d:=Zti b;have f:=ZlW a;have e:=ZpQ s.tab a.mem;have c:=Lib.uvarint_length64 (x:=(Zgz s.st).length) (by omega)
 have g:=Lib.uvarint_length64 (x:=s.tab.length) (by omega)
 unfold Xt Zyk;rw[length_append,length_append,length_append];omega
theorem Zep {i:Nat} (d:i<4611686018427387904) {w:List UInt8} (e:w.length<4611686018427387904):(Zfe i w).length<=40:=by
 have a:=Lib.uvarint_length64 (x:=3) (by decide)
 have c:=Lib.uvarint_length64 (x:=i) (by omega)
 have b:=Lib.uvarint_length64 (x:=w.length) (by omega)
 unfold Zfe;rw[length_cons,length_append,length_append,length_append,Lib.leBytes_length];omega
theorem ZqR {s:Qv} (h:Zdk s):∀ x ∈ ZaV s,x.length<=1048576:=by
 intro x hx;have b:=ZbM h;obtain⟨⟨c,a⟩,_⟩:=h;unfold ZaV at hx;rcases List.mem_cons.1 hx with hx | hx
 ·rw[hx]
  have:=Zep (i:=s.idx.toNat) (by omega) (w:=Xt s) (by omega)
  omega
 ·have:=Zff _ _ x zL hx
  omega
theorem ZdH:∀ (n:Nat) (b:List UInt8) (t:List Ent) (x:List UInt8),Zbf n b=some (t,x)->t.length=n∧b=Yz t++x
 | 0,b,t,x,h=>by
  simp only [Zbf,Option.some.injEq,Prod.mk.injEq] at h;obtain⟨rfl,rfl⟩:=h;exact⟨rfl,rfl⟩
 | n+1,b,t,x,h=>by
  rw[Zbf] at h;split at h
  ·cases h
  ·rename_i c
   have f:(Qb b).2≠0:=fun e=>c (.inl e)
   have j:(Qb (b.drop (Qb b).2)).2≠0:=fun e=>c (.inr (.inl e))
   have i:(Qd (b.drop ((Qb b).2+(Qb (b.drop (Qb b).2)).2))).2≠0:=fun e=>c (.inr (.inr e))
   rw[Option.map_eq_some_iff] at h;obtain⟨⟨a,x'⟩,p,d⟩:=h;simp only [Prod.mk.injEq] at d;obtain⟨rfl,rfl⟩:=d;obtain⟨v,u⟩:=ZdH n _ a x' p;refine⟨by rw[length_cons,v],?_⟩
   have q:=Zc f;have k:=Zc j;have m:=Zjx i
   have E:Yz (⟨(Qb b).1,(Qb (b.drop (Qb b).2)).1,zag (Qd (b.drop ((Qb b).2+(Qb (b.drop (Qb b).2)).2))).1⟩::a)++x'=Lib.uvarint (Qb b).1++(Lib.uvarint (Qb (b.drop (Qb b).2)).1++(Lib.uvarint (Qd (b.drop ((Qb b).2+(Qb (b.drop (Qb b).2)).2))).1++(Yz a++x'))):=by
    unfold Yz;rw[List.flatMap_cons];unfold ZvC;simp only [Int.toNat_natCast,ZbF,append_assoc]
   have g:Lib.uvarint (Qd (b.drop ((Qb b).2+(Qb (b.drop (Qb b).2)).2))).1++(Yz a++x')=b.drop ((Qb b).2+(Qb (b.drop (Qb b).2)).2):=by
    rw[<-u,m];exact Zag _ _ _
   have l:Lib.uvarint (Qb (b.drop (Qb b).2)).1++b.drop ((Qb b).2+(Qb (b.drop (Qb b).2)).2)=b.drop (Qb b).2:=by
    rw[k];exact Zag _ _ _
   rw[E,g,l,q,take_append_drop]
theorem ZlX {b:List UInt8} {t:List Ent} (h:ZbK b=some t):Zyk t=b:=by
 unfold ZbK at h;split at h
 ·cases h
 ·rename_i d
  have f:(Qb b).2≠0:=fun e=>d (.inl e)
  cases hr:Zbf (Qb b).1 (b.drop (Qb b).2) with
  | none=>rw[hr] at h;cases h
  | some p=>
   obtain⟨i,x⟩:=p;rw[hr] at h
   cases x with
   | cons c x=>cases h
   | nil=>
    simp only [Option.some.injEq] at h;subst h;obtain⟨g,a⟩:=ZdH _ _ _ _ hr;rw[List.append_nil] at a;unfold Zyk;rw[g,<-a,Zc f,take_append_drop]
theorem ZnU {w:List UInt8} (h:(Yf w).2=0):Xt ⟨0,(Yf w).1.st,(Yf w).1.tab⟩=w:=by
 unfold Yf at h ⊢;split at h
 ·exact absurd h (by decide)
 ·rename_i a
  rw[if_neg a];have b:(Qb w).2≠0:=fun e=>a (.inl e)
  have g:(Qb w).2+(Qb w).1<=w.length:=by omega
  split at h
  ·exact absurd h (by decide)
  ·rename_i c
   rw[if_neg c]
   cases ht:ZbK (w.drop ((Qb w).2+(Qb w).1)) with
   | none=>rw[ht] at h;exact absurd h (by show ¬ ((3:Int)=0);decide)
   | some t=>
    rw[ht] at h;have d:=ZqI h;have f:=ZlX ht;show Xt ⟨0,(ZeV ((w.drop (Qb w).2).take (Qb w).1)).1,t⟩=w;unfold Xt;rw[d.2,f,length_take,length_drop,Nat.min_eq_left (by omega),Zc b,<-drop_drop,take_append_drop,take_append_drop]
theorem ZnV (h:(Yg d).2.2.2=0) {w:List UInt8} (b:w.length=(Yg d).2.1) (a:Q2 0 w=(Yg d).2.2.1):d=Zfe (Yg d).1 w∧(Yg d).1<4611686018427387904:=by
 unfold Yg at h b a ⊢;split at h
 ·exact absurd h (by decide)
 ·rename_i g
  rw[if_neg g] at b a ⊢;simp only at h b a ⊢;split at h
  ·exact absurd h (by decide)
  ·rename_i f
   rw[if_neg f] at b a ⊢;split at h
   ·exact absurd h (by decide)
   ·rename_i i
    rw[if_neg i] at b a ⊢;split at h
    ·exact absurd h (by decide)
    ·rename_i j
     rw[if_neg j] at b a ⊢;simp only at b a ⊢;have l:(Qb (d.drop 1)).2≠0:=fun e=>f (.inl e)
     have u:(Qb (d.drop (1+(Qb (d.drop 1)).2))).2≠0:=fun e=>f (.inr (.inl e))
     have q:(Qb (d.drop (1+(Qb (d.drop 1)).2+(Qb (d.drop (1+(Qb (d.drop 1)).2))).2))).2≠0:=fun e=>f (.inr (.inr e))
     have t:(Qb (d.drop 1)).1=3:=Decidable.not_not.1 i;have A:(d.drop (1+(Qb (d.drop 1)).2+(Qb (d.drop (1+(Qb (d.drop 1)).2))).2+(Qb (d.drop (1+(Qb (d.drop 1)).2+(Qb (d.drop (1+(Qb (d.drop 1)).2))).2))).2)).length=4:=Decidable.not_not.1 j;have z:=Zc l;have v:=Zc u;have y:=Zc q;have k:=ZbW (d.drop (1+(Qb (d.drop 1)).2+(Qb (d.drop (1+(Qb (d.drop 1)).2))).2+(Qb (d.drop (1+(Qb (d.drop 1)).2+(Qb (d.drop (1+(Qb (d.drop 1)).2))).2))).2));rw[A] at k
     have C:(Qb (d.drop (1+(Qb (d.drop 1)).2))).1<4611686018427387904:=by
      rcases Q4 (d.drop (1+(Qb (d.drop 1)).2)) with e | e
      ·rw[e];decide
      ·exact e.1
     refine⟨?_,C⟩;unfold Zfe
     have m:Lib.uvarint w.length++Lib.leBytes 4 (Q2 0 w)=d.drop (1+(Qb (d.drop 1)).2+(Qb (d.drop (1+(Qb (d.drop 1)).2))).2):=by
      rw[a,k,b,y];exact Zag _ _ _
     have x:Lib.uvarint (Qb (d.drop (1+(Qb (d.drop 1)).2))).1++d.drop (1+(Qb (d.drop 1)).2+(Qb (d.drop (1+(Qb (d.drop 1)).2))).2)=d.drop (1+(Qb (d.drop 1)).2):=by
      rw[v];exact Zag _ _ _
     have n:Lib.uvarint 3++d.drop (1+(Qb (d.drop 1)).2)=d.drop 1:=by
      rw[<-t,z];exact Zag _ _ _
     rw[m,x,n];have p:(d.getD 0 0).toNat=115:=Decidable.not_not.1 (fun e=>g (.inr e))
     have B:¬ d.length<1:=fun e=>g (.inl e)
     cases d with
     | nil=>exact absurd (by decide) B
     | cons c r=>
      have:c=115:=by
       apply UInt8.toNat_inj.1;simpa using p
      rw[this];rfl
theorem ZqS {b:List UInt8} (h:(ZnQ b).2=0):Zdk (ZnQ b).1∧Zvo (ZnQ b).1=b:=by
 unfold ZnQ at h ⊢;by_cases a:(Qm b).2.2=0
 case neg=>
  rw[if_pos a] at h;exact absurd h (by show((Qm b).2.2:Int)≠0;omega)
 rw[if_neg (Decidable.not_not.2 a)] at h ⊢;obtain⟨l,t⟩:=Zfd _ b zL a;generalize (Qm b).1=L at *;unfold ZjA at h ⊢
 cases L with
 | nil=>exact absurd h (by decide)
 | cons d P=>
  simp only at h ⊢;split at h
  ·rename_i e;exact absurd h e
  rename_i g
  rw[if_neg g];split at h
  ·exact absurd h (by decide)
  rename_i c
  rw[if_neg c];split at h
  ·exact absurd h (by decide)
  rename_i i
  rw[if_neg i];split at h
  ·exact absurd h (by decide)
  rename_i j
  rw[if_neg j];split at h
  ·rename_i e;exact absurd h e
  rename_i f
  rw[if_neg f];split at h
  ·rename_i k
   rw[if_pos k];have m:=ZnV (Decidable.not_not.1 g) (Decidable.not_not.1 c) (Decidable.not_not.1 j);have p:=ZnU (Decidable.not_not.1 f);have q:=ZcD P (Decidable.not_not.1 i);refine⟨k,?_⟩;have n:Xt ⟨((Yg d).1:Nat),(Yf P.flatten).1.st,(Yf P.flatten).1.tab⟩=P.flatten:=p;unfold Zvo ZaV;rw[n,q];show Qf (Zfe (((Yg d).1:Nat):Int).toNat P.flatten::P)=b;rw[Int.toNat_natCast,<-m.1];exact l
  ·exact absurd h (by decide)
def Zbm:Int->List Pce->Int->Prop
 | i,[],j=>i=j
 | i,p::t,j=>p.first=i∧i<=p.stop∧Zbm p.stop t j
theorem ZcF:∀ {l:List Pce} {i j:Int},Zbm i l j->i<=j
 | [],_,_,h=>Int.le_of_eq h
 | _::_,_,_,h=>by
  have:=ZcF h.2.2;have:=h.2.1;omega
theorem ZbN:∀ {l:List Pce} {i j:Int},Zbm i l j->∀ p ∈ l,i<=p.first∧p.first<=p.stop∧p.stop<=j
 | q::t,i,j,h,p,hp=>by
  obtain⟨b,c,a⟩:=h;rcases List.mem_cons.1 hp with rfl | hp
  ·have:=ZcF a
   omega
  ·have:=ZbN a p hp
   omega
theorem Zap:∀ {a b:List Pce} {i j:Int},Zbm i (a++b) j↔∃ k,Zbm i a k∧Zbm k b j
 | [],b,i,j=>by
  constructor
  ·intro h
   exact⟨i,rfl,h⟩
  ·rintro⟨k,h1,h2⟩
   have e:i=k:=h1;rw[e];exact h2
 | p::a,b,i,j=>by
  constructor
  ·rintro⟨h1,h2,h3⟩
   obtain⟨k,c,d⟩:=Zap.1 h3;exact⟨k,⟨h1,h2,c⟩,d⟩
  ·rintro⟨k,⟨h1,h2,c⟩,d⟩
   exact⟨h1,h2,Zap.2 ⟨k,c,d⟩⟩
theorem Zeq (l:List Pce) (p:Pce) (n:Nat):Zq (l++[p]) n=l++[⟨p.name,p.first,p.stop+n⟩]:=by
 unfold Zq;have e:(l++[p]).length-1=l.length:=by simp
 rw[e];have a:(l++[p]).getD l.length Yv=p:=by simp[List.getD]
 rw[a,List.set_append_right _ _ zL];simp
theorem Zah (l:List Pce) (n:Nat):(Zq l n).length=l.length:=by simp[Zq]
theorem ZkD {α:Type} {l:List α} (h:l.length≠0):∃ a x,l=a++[x]:=by
 have b:l≠[]:=fun e=>h (by rw[e];rfl)
 exact⟨l.dropLast,l.getLast b,(List.dropLast_concat_getLast b).symm⟩
theorem ZnW {l:List Pce} (h:Zbm i l j) (f:l.length≠0):Zbm i (Zq l n) (j+n):=by
 obtain⟨a,p,rfl⟩:=ZkD f;rw[Zeq,Zap];obtain⟨k,c,d,g,b⟩:=Zap.1 h;refine⟨k,c,d,?_,?_⟩
 ·show k<=p.stop+n
  omega
 ·show p.stop+n=j+n
  have e:p.stop=j:=b;rw[e]
theorem ZnX {l:List Pce} (h:Zbm i l j) (name:Int):Zbm i (l++[⟨name,j,j⟩]) j:=Zap.2 ⟨j,h,rfl,Int.le_refl _,rfl⟩
theorem Zdo (l:List Pce) (n:Nat):(Zq l n).map Pce.name=l.map Pce.name:=by
 by_cases h:l.length=0
 ·rw[eq_nil_of_length_eq_zero h]
  rfl
 ·obtain⟨a,p,rfl⟩:=ZkD h
  rw[Zeq];simp
theorem ZpS (cur base:Int):∀ (l:List Pce) (i j:Int),Zbm i l j->(∀ p ∈ l.dropLast,p.name≠cur)->i<=base->
 (∃ a,a++l.filter (fun p=>!(decide (p.stop<=base) && decide (p.name≠cur)))=l∧(∀ p ∈ a,p.stop<=base∧p.name≠cur))∧Yt (l.filter (fun p=>!(decide (p.stop<=base) && decide (p.name≠cur)))) base<=base
 | [],i,j,_,_,_=>⟨⟨[],rfl,fun p c=>by cases c⟩,Int.le_refl _⟩
 | p::t,i,j,h,hc,hi=>by
  obtain⟨k,z,f⟩:=h;by_cases b:p.stop<=base∧p.name≠cur
  ·have e:(p::t).filter (fun p=>!(decide (p.stop<=base) && decide (p.name≠cur)))=t.filter (fun p=>!(decide (p.stop<=base) && decide (p.name≠cur))):=by
    rw[List.filter_cons,if_neg (by simp[b.1,b.2])]
   rw[e]
   obtain⟨⟨a,g,u⟩,m⟩:=ZpS cur base t p.stop j f (fun q hq=>hc q (by
    cases t with
    | nil=>cases hq
    | cons x t=>rw[List.dropLast_cons_cons];exact List.mem_cons_of_mem _ hq)) b.1
   refine⟨⟨p::a,by rw[cons_append,g],fun q hq=>?_⟩,m⟩
   rcases List.mem_cons.1 hq with rfl | hq
   ·exact b
   ·exact u q hq
  ·have e:(p::t).filter (fun p=>!(decide (p.stop<=base) && decide (p.name≠cur)))=p::t:=by
    rw[List.filter_eq_self];intro q hq;rcases List.mem_cons.1 hq with rfl | hq
    ·simp only [Bool.not_eq_true',Bool.and_eq_false_imp,decide_eq_true_eq,decide_eq_false_iff_not]
     intro v;exact fun d=>b ⟨v,d⟩
    ·have n:t≠[]:=fun e=>by rw[e] at hq;cases hq
     have c:p.name≠cur:=hc p (by
      cases t with
      | nil=>exact absurd rfl n
      | cons x t=>rw[List.dropLast_cons_cons];exact List.mem_cons_self)
     have d:¬ p.stop<=base:=fun w=>b ⟨w,c⟩
     have A:=ZbN f q hq;simp only [Bool.not_eq_true',Bool.and_eq_false_imp,decide_eq_true_eq,decide_eq_false_iff_not];intro y;omega
   rw[e];refine⟨⟨[],rfl,(fun q hq=>by cases hq)⟩,?_⟩
   show(if(p::t).length=0 then base else p.first)<=base
   rw[if_neg (by simp),k]
   exact hi
structure OkG (b:Lgb):Prop where
 f0:0<=b.first
 fits:∀ r ∈ b.recs,Qw r
 ch:Zbm b.first b.pcs b.next
 rc:Xq b.first b.recs
 top:b.next<=4611686018427387904
theorem Zda:∀ {a b:List Rec} {i:Int},Xq i (a++b)↔Xq i a∧Xq (i+a.length) b
 | [],b,i=>by simp[Xq]
 | r::a,b,i=>by
  have e:i+1+(a.length:Int)=i+(((r::a).length:Nat):Int):=by rw[length_cons];omega
  rw[cons_append,<-e];show(r.idx=i∧Xq (i+1) (a++b))↔(r.idx=i∧Xq (i+1) a)∧Xq (i+1+(a.length:Int)) b;rw[Zda,and_assoc]
theorem ZnY {l:List Rec} (h:Xq i l) (k:Nat) (a:k<=l.length):Xq (i+k) (l.drop k):=by
 rw[<-take_append_drop k l] at h;have:=(Zda.1 h).2
 rwa [length_take,Nat.min_eq_left a] at this
theorem ZpT (i:Int) (c:0<=i) (a:i<=4611686018427387904):OkG ⟨i,[],[]⟩:=by
 have e:(⟨i,[],[]⟩:Lgb).next=i:=by simp[Lgb.next]
 exact⟨c,(fun r b=>by cases b),by rw[e];exact rfl,trivial,by rw[e];exact a⟩
theorem Lgb.start_next (b:Lgb) (n f:Int) (h:b.pcs.length=0->b.recs=[]) (hf:b.pcs.length=0∨f=b.next):(b.start n f).next=f:=by
 unfold Lgb.start Lgb.next;by_cases a:b.pcs.length=0
 ·rw[if_pos a,h a]
  simp
 ·rw[if_neg a]
  rcases hf with hf | hf
  ·exact absurd hf a
  ·rw[hf]
   rfl
theorem OkG.empty {b:Lgb} (h:OkG b) (d:b.pcs.length=0):b.recs=[]:=by
 have a:=h.ch;rw[eq_nil_of_length_eq_zero d] at a;have c:b.first=b.next:=a;unfold Lgb.next at c;exact eq_nil_of_length_eq_zero (by omega)
theorem OkG.start {b:Lgb} (h:OkG b) (n f:Int) (k:0<=f) (d:f<=4611686018427387904) (g:b.pcs.length=0∨f=b.next):OkG (b.start n f):=by
 have a:=b.start_next n f h.empty g;by_cases c:b.pcs.length=0
 ·have e:b.start n f=⟨f,[],[⟨n,f,f⟩]⟩:=by
   unfold Lgb.start;rw[if_pos c,h.empty c,eq_nil_of_length_eq_zero c];rfl
  rw[e] at a ⊢;exact⟨k,(fun r i=>by cases i),by rw[a];exact⟨rfl,Int.le_refl _,rfl⟩,trivial,by rw[a];exact d⟩
 ·have j:f=b.next:=g.resolve_left c
  have e:b.start n f=⟨b.first,b.recs,b.pcs++[⟨n,f,f⟩]⟩:=by
   unfold Lgb.start;rw[if_neg c]
  rw[e] at a ⊢;refine⟨h.f0,h.fits,?_,h.rc,by rw[a];exact d⟩
  rw[a,j];exact ZnX h.ch n
theorem Lgb.add_next (b:Lgb) (l:List Rec):(b.add l).next=b.next+l.length:=by
 unfold Lgb.add Lgb.next;simp only [length_append];omega
theorem OkG.add {b:Lgb} (h:OkG b) (l:List Rec) (c:b.pcs.length≠0) (a:∀ r ∈ l,Qw r) (e:Xq b.next l) (d:b.next+l.length<=4611686018427387904):OkG (b.add l):=by
 refine⟨h.f0,fun r hr=>?_,?_,?_,by rw[b.add_next];exact d⟩
 ·rcases List.mem_append.1 hr with hr | hr
  ·exact h.fits r hr
  ·exact a r hr
 ·rw[b.add_next]
  exact ZnW h.ch c
 ·exact Zda.2 ⟨h.rc,e⟩
theorem Zfl:∀ {l:List Rec} {i:Int},Xq i l->(∀ r ∈ l,Qw r)->l≠[]->i+l.length<=4611686018427387904
 | [],_,_,_,h=>absurd rfl h
 | [r],i,h,hf,_=>by
  have b:r.idx=i:=h.1;have c:=(hf r List.mem_cons_self).2.2.1;simp only [List.length_singleton];omega
 | r::q::t,i,h,hf,_=>by
  have:=Zfl (l:=q::t) h.2 (fun x a=>hf x (List.mem_cons_of_mem _ a)) (by simp)
  simp only [length_cons] at this ⊢;omega
theorem OkG.letGo {b:Lgb} (h:OkG b) {cur base:Int} (w:∀ p ∈ b.pcs.dropLast,p.name≠cur) (x:b.first<=base) (C:base<=b.next):
 OkG (b.letGo (b.pcs.filter fun p=>!(decide (p.stop<=base) && decide (p.name≠cur))) base)∧(b.letGo (b.pcs.filter fun p=>!(decide (p.stop<=base) && decide (p.name≠cur))) base).first<=base∧
  (b.letGo (b.pcs.filter fun p=>!(decide (p.stop<=base) && decide (p.name≠cur))) base).next=b.next∧b.first<=(b.letGo (b.pcs.filter fun p=>!(decide (p.stop<=base) && decide (p.name≠cur))) base).first:=by
 obtain⟨⟨a,j,A⟩,l⟩:=ZpS cur base b.pcs b.first b.next h.ch w x;generalize b.pcs.filter (fun p=>!(decide (p.stop<=base) && decide (p.name≠cur)))=left at j l ⊢
 have u:=h.ch;rw[<-j] at u;obtain⟨k,c,f⟩:=Zap.1 u;have D:=ZcF c;have E:=ZcF f
 have y:Zbm (Yt left base) left b.next∧b.first<=Yt left base∧Yt left base<=b.next:=by
  unfold Yt
  cases left with
  | nil=>
   rw[if_pos (show([]:List Pce).length=0 from rfl)];have e:k=b.next:=f
   have F:k<=base:=by
    by_cases n:a.length=0
    ·rw[eq_nil_of_length_eq_zero n] at c
     have:b.first=k:=c;omega
    ·obtain⟨a',p,rfl⟩:=ZkD n
     obtain⟨m,_,_,_,v⟩:=Zap.1 c;have G:p.stop=k:=v;have:=(A p (by simp)).1
     omega
   refine⟨?_,by omega,by omega⟩
   show base=b.next;omega
  | cons p t=>
   rw[if_neg (by simp)]
   show Zbm p.first (p::t) b.next∧b.first<=p.first∧p.first<=b.next;obtain⟨i,q,d⟩:=f;exact⟨⟨rfl,by omega,d⟩,by omega,by omega⟩
 obtain⟨i,q,d⟩:=y;have B:(Yt left base-b.first).toNat<=b.recs.length:=by unfold Lgb.next at d;omega
 have g:(b.letGo left base).next=b.next:=by
  unfold Lgb.letGo Lgb.next;simp only [length_drop];omega
 refine⟨⟨?_,fun r z=>h.fits r (List.mem_of_mem_drop z),?_,?_,by rw[g];exact h.top⟩,l,g,q⟩
 ·show 0<=Yt left base
  have:=h.f0;omega
 ·rw[g]
  exact i
 ·have:=ZnY h.rc (Yt left base-b.first).toNat B
  have e:b.first+(((Yt left base-b.first).toNat:Nat):Int)=Yt left base:=by omega
  rw[e] at this;exact this
open Go.RowKit Go.Shelf
def ZvH:Go.Shelf.Ren:=⟨fun | 5=>145 | 7=>192 | n=>n,fun | 23=>65 | 25=>3 | 3=>115 | 4=>4 | 20=>20 | n=>n,fun | n=>n⟩
theorem layW:Go.Proofs.SlLaysW.n5 prog ZvH:={
 mixed:=by kernel_rfl
 f5:=⟨f145.name,by decide,func145.trans (congrArg some (by kernel_rfl))⟩
 f7:=func192.trans (congrArg some (by kernel_rfl))
 t4:=underlying4
 a4:=Tryz.isAgg4
 z4:=Tryz.sizeOf4
 v4:=Tryz.zeroValue4
 t20:=underlying20
 a20:=Tryz.isAgg20
 z20:=Tryz.sizeOf20
 v20:=Tryz.zeroValue20
 t23:=underlying65
 a23:=Tryz.isAgg65
 z23:=Tryz.sizeOf65
 v23:=Tryz.zeroValue65 }
def ZvI:Go.Shelf.Ren:=⟨fun | 5=>73 | n=>n,fun | 23=>65 | 24=>65 | 26=>3 | 27=>115 | 0=>0 | 4=>4 | n=>n,fun | n=>n⟩
theorem layX:Go.Proofs.SlLaysX.n5 prog ZvI:={
 mixed:=by kernel_rfl
 f5:=⟨f73.name,by decide,func73.trans (congrArg some (by kernel_rfl))⟩
 t0:=underlying0
 a0:=Tryz.isAgg0
 z0:=Tryz.sizeOf0
 v0:=Tryz.zeroValue0
 t4:=underlying4
 a4:=Tryz.isAgg4
 z4:=Tryz.sizeOf4
 v4:=Tryz.zeroValue4
 t23:=underlying65
 a23:=Tryz.isAgg65
 z23:=Tryz.sizeOf65
 v23:=Tryz.zeroValue65
 t24:=underlying65
 a24:=Tryz.isAgg65
 z24:=Tryz.sizeOf65
 v24:=Tryz.zeroValue65
 a26:=Tryz.isAgg3
 z26:=Tryz.sizeOf3
 a27:=Tryz.isAgg115
 z27:=Tryz.sizeOf115 }
def ZvJ:Go.Shelf.Ren:=⟨fun | 189=>67 | 125=>109 | 257=>108 | 128=>155 | 129=>156 | 294=>146 | 295=>147 | 296=>148 | 297=>149 | 298=>150 | 299=>151 | 216=>152 | 300=>153 | 301=>154 | 328=>193 | 329=>194 | 330=>195 | 331=>196 | 332=>197 | 215=>198 | 343=>216 | n=>n,fun | 28=>23 | 3=>3 | 46=>157 | 0=>0 | 51=>145 | 53=>202 | 4=>4 | 183=>194 | 182=>193 | 131=>170 | 5=>5 | 9=>9 | 218=>239 | 222=>208 | 228=>268 | 229=>247 | n=>n,fun | n=>n⟩
theorem ZyV:Go.Proofs.Lays.n189 prog ZvJ:={
 mixed:=by kernel_rfl
 f125:=func109.trans (congrArg some (by kernel_rfl))
 f128:=func155.trans (congrArg some (by kernel_rfl))
 f129:=func156.trans (congrArg some (by kernel_rfl))
 f189:=func67.trans (congrArg some (by kernel_rfl))
 f215:=func198.trans (congrArg some (by kernel_rfl))
 f216:=func152.trans (congrArg some (by kernel_rfl))
 f257:=func108.trans (congrArg some (by kernel_rfl))
 f294:=func146.trans (congrArg some (by kernel_rfl))
 f295:=func147.trans (congrArg some (by kernel_rfl))
 f296:=func148.trans (congrArg some (by kernel_rfl))
 f297:=func149.trans (congrArg some (by kernel_rfl))
 f298:=func150.trans (congrArg some (by kernel_rfl))
 f299:=func151.trans (congrArg some (by kernel_rfl))
 f300:=func153.trans (congrArg some (by kernel_rfl))
 f301:=func154.trans (congrArg some (by kernel_rfl))
 f328:=func193.trans (congrArg some (by kernel_rfl))
 f329:=func194.trans (congrArg some (by kernel_rfl))
 f330:=func195.trans (congrArg some (by kernel_rfl))
 f331:=func196.trans (congrArg some (by kernel_rfl))
 f332:=func197.trans (congrArg some (by kernel_rfl))
 f343:=func216.trans (congrArg some (by kernel_rfl))
 t0:=underlying0
 a0:=Tryz.isAgg0
 z0:=Tryz.sizeOf0
 v0:=Tryz.zeroValue0
 t3:=underlying3
 a3:=Tryz.isAgg3
 z3:=Tryz.sizeOf3
 v3:=Tryz.zeroValue3
 t4:=underlying4
 a4:=Tryz.isAgg4
 z4:=Tryz.sizeOf4
 v4:=Tryz.zeroValue4
 t5:=underlying5
 a5:=Tryz.isAgg5
 z5:=Tryz.sizeOf5
 v5:=Tryz.zeroValue5
 t9:=underlying9
 a9:=Tryz.isAgg9
 z9:=Tryz.sizeOf9
 v9:=Tryz.zeroValue9
 t28:=underlying23
 a28:=Tryz.isAgg23
 z28:=Tryz.sizeOf23
 v28:=Tryz.zeroValue23
 t46:=underlying157
 a46:=Tryz.isAgg157
 z46:=Tryz.sizeOf157
 v46:=Tryz.zeroValue157
 t51:=underlying145
 a51:=Tryz.isAgg145
 z51:=Tryz.sizeOf145
 v51:=Tryz.zeroValue145
 t53:=underlying202
 a53:=Tryz.isAgg202
 z53:=Tryz.sizeOf202
 v53:=Tryz.zeroValue202
 t131:=underlying170
 a131:=Tryz.isAgg170
 z131:=Tryz.sizeOf170
 v131:=Tryz.zeroValue170
 t182:=underlying193
 a182:=Tryz.isAgg193
 z182:=Tryz.sizeOf193
 v182:=Tryz.zeroValue193
 t183:=underlying194
 a183:=Tryz.isAgg194
 z183:=Tryz.sizeOf194
 v183:=Tryz.zeroValue194
 t218:=underlying239
 a218:=Tryz.isAgg239
 z218:=Tryz.sizeOf239
 v218:=Tryz.zeroValue239
 t222:=underlying208
 a222:=Tryz.isAgg208
 z222:=Tryz.sizeOf208
 v222:=Tryz.zeroValue208
 t228:=underlying268
 a228:=Tryz.isAgg268
 z228:=Tryz.sizeOf268
 v228:=Tryz.zeroValue268
 t229:=underlying247
 a229:=Tryz.isAgg247
 z229:=Tryz.sizeOf247
 v229:=Tryz.zeroValue247 }
open Go.RowKit Go.Maps Go.Shelf
open Go.ChangeMaps Go.MapKept
open Go.WideElems (Fit rd rg pl rd_val elemAt)
theorem Zby:Keyed prog 3:=int_keyed underlying3
theorem Ztj (w:World):(zeroValue 115).run prog w=.ok (.pointer none) w:=by kernel_rfl
theorem ZvK {n:Int} (h:I64 n):(Lit.int .i64 n).wf=true:=WalkArith.wf_i64 (by obtain⟨b,a⟩:=h;omega)
def ZaA (v:Value):Option (DataW Unit × List MemPlace):=
 match v with
 | .pointer (some ⟨b,0,none⟩)=>some (.lit (.int .i64 (b:Int)),[])
 | _=>none
theorem ZqT (b:Nat):ZaA (.pointer (some ⟨b,0,none⟩))=some (.lit (.int .i64 (b:Int)),[]):=rfl
theorem ZdI {z:DataW Unit × List MemPlace} (h:ZaA v=some z):∃ b:Nat,v=.pointer (some ⟨b,0,none⟩)∧z=(.lit (.int .i64 (b:Int)),[]):=by
 unfold ZaA at h;split at h
 ·cases h
  exact⟨_,rfl,rfl⟩
 ·cases h
def ZyW (z:DataW Unit):Option Nat->DataW Unit
 | some x=>.lit (.int .i64 (x:Int))
 | none=>z
def Ztk (D:DataW Unit) (f:Int->Option Nat):Prop:=
 ∀ p,I64 p->∀ z,D.atKey (.int .i64 p) z=ZyW z (f p)
def Xy (w:World) (b n:Nat) (f:Int->Option Nat):Prop:=
 ∃ D:DataW Unit,w.ownsMap prog 3 ZaA b n D∧Ztk D f
def ZpU:Option Nat->Value
 | some x=>.pointer (some ⟨x,0,none⟩)
 | none=>.pointer none
theorem Ztk.has {D:DataW Unit} (h:Ztk D f) {p:Int} (a:I64 p):Maps.has D (.int .i64 p)=(f p).isSome:=by
 cases e:f p with
 | none=>
  refine has_false_of_atKey fun z=>?_
  rw[h p a z,e];rfl
 | some x=>
  refine has_true_of_atKey (y:=.lit (.int .i64 (x:Int))) fun z=>?_
  rw[h p a z,e];rfl
theorem Xy.made (w:World):Xy (w.alloc (.map #[] 0)) w.heap.size 0 (fun _=>none):=
 ⟨.map [],World.ownsMap_made _ _ _ _,fun _ _ _=>rfl⟩
theorem Xy.lt (h:Xy w b n f):b<w.heap.size:=by
 obtain⟨D,a,_⟩:=h;exact a.lt
theorem Xy.mono {n':Nat} (h:Xy w b n f) (c:n<=n'):Xy w b n' f:=by
 obtain⟨D,a,d⟩:=h;exact⟨D,a.mono c,d⟩
theorem Xy.keep (h:Xy w b n f) (e:w'.heap[b]?=w.heap[b]?):Xy w' b n f:=by
 obtain⟨D,⟨c,g,a,r⟩,d⟩:=h;exact⟨D,⟨c,g,e.trans a,r⟩,d⟩
theorem Xy.fun {g:Int->Option Nat} (h:Xy w b n f) (e:∀ p,I64 p->f p=g p):Xy w b n g:=by
 obtain⟨D,c,d⟩:=h;exact⟨D,c,fun p a z=>by rw[d p a z,e p a]⟩
theorem Xy.apart (h:Xy w b n f) {cs:Array Value} {t:TypeId} {z:Nat × Nat} {g:Nat} (a:w.heap[g]?=some (.cells cs t z)):g≠b:=by
 obtain⟨D,⟨d,i,c,_⟩,_⟩:=h;intro e;rw[e,c] at a
 cases a
theorem Ztl (h:∀ z:DataW Unit,DataW.lit (.int .i64 (x:Int))=z):False:=by
 have:=h (.map [])
 cases this
theorem ZvL {y:Nat} (h:DataW.lit (H:=Unit) (.int .i64 (x:Int))=.lit (.int .i64 (y:Int))):x=y:=by
 simp only [DataW.lit.injEq,Lit.int.injEq,true_and] at h;omega
theorem Xy.lookC (h:Xy w b n f) {p:Int} (g:I64 p) (c:Bool):(Instr.lookup 65 (.map (some b)) (.int .i64 p) c).run prog w=.ok (if c then .tuple #[ZpU (f p),.bool (f p).isSome] else ZpU (f p)) w:=by
 obtain⟨D,⟨q,t,k,F,_,rfl⟩,i⟩:=h;rcases Maps.fit_look c Zby underlying65 (Ztj w) k F (keyOf_int_mk underlying3 (ZvK g)) with ⟨j,_,d⟩ | ⟨u,y,_,_,j,m,d,_⟩
 ·have e:f p=none:=by
   cases e:f p with
   | none=>rfl
   | some x=>
    refine(Ztl (x:=x) fun z=>?_).elim
    rw[<-d z,i p g z,e];rfl
  rw[j,e];rfl
 ·obtain⟨x,l,rfl⟩:=ZdI m
  have e:f p=some x:=by
   cases e:f p with
   | none=>
    refine(Ztl (x:=x) fun z=>?_).elim
    have a:=d z;rw[i p g z,e] at a;exact a.symm
   | some x'=>
    have a:=d (.map []);rw[i p g,e] at a;rw[ZvL a]
  rw[j,e,l];rfl
theorem Xy.look (h:Xy w b n f) {p:Int} (a:I64 p):(Instr.lookup 65 (.map (some b)) (.int .i64 p) true).run prog w=.ok (.tuple #[ZpU (f p),.bool (f p).isSome]) w:=h.lookC a true
theorem Xy.look1 (h:Xy w b n f) {p:Int} (a:I64 p):(Instr.lookup 65 (.map (some b)) (.int .i64 p) false).run prog w=.ok (ZpU (f p)) w:=h.lookC a false
theorem Xy.put (h:Xy w b n f) {p:Int} (x:Nat) (t:I64 p) (A:n<=10000000):
 ∃ w',(Instr.mapUpdate 65 (.map (some b)) (.int .i64 p) (.pointer (some ⟨x,0,none⟩))).run prog w=.ok () w'∧Xy w' b (n+1) (fun m=>if m=p then some x else f m)∧w.grownBy w' (some b):=by
 obtain⟨D,a,c⟩:=h;have d:IsMap D:=by obtain⟨v,y,u,F,B,k⟩:=a;exact⟨_,k⟩
 obtain⟨w',j,l,i⟩:=a.update Zby underlying65 (by unfold maxLen;omega) (keyOf_int_mk underlying3 (ZvK t)) (ZqT x)
 refine⟨w',j,⟨_,l,fun q g z=>?_⟩,i⟩
 show _=ZyW z (if q=p then some x else f q)
 by_cases e:q=p
 ·rw[if_pos e,e,atKey_put_same d (by first | exact trivial | simp[WideAt.IsKeyLit])]
  rfl
 ·rw[if_neg e,atKey_put_other (by intro h;injection h with _ h;exact e h),c q g z]
theorem Xy.del (h:Xy w b n f) {p:Int} (x:I64 p) (ty:TypeId):
 ∃ w',(Builtin.delete_ #[65,3] ty #[.map (some b),.int .i64 p]).run prog w=.ok (.tuple #[]) w'∧Xy w' b n (fun m=>if m=p then none else f m)∧w.grownBy w' (some b):=by
 obtain⟨D,⟨d,j,a,F,t,rfl⟩,c⟩:=h;obtain⟨g,v,F',k,y,_⟩:=Maps.fit_drop (ty:=ty) Zby underlying65 a F (keyOf_int_mk underlying3 (ZvK x));refine⟨_,v,⟨_,⟨g,j,heap_setBlock_same a _,F',Nat.le_trans k t,rfl⟩,fun q l z=>?_⟩,⟨rfl,rfl,rfl,by simp[setBlock],fun i _ u=>heap_setBlock_other a _ (fun e=>u (by rw[e]))⟩⟩
 rw[y];show((DataW.map ((d.toList.map (rg prog 3 ZaA)).foldr DataW.insert [])).del (.int .i64 p)).atKey (.int .i64 q) z=_;show _=ZyW z (if q=p then none else f q)
 by_cases e:q=p
 ·rw[if_pos e,e,atKey_del_same]
  rfl
 ·rw[if_neg e,atKey_del_other (by intro h;injection h with _ h;exact e h),c q l z]
theorem Xy.clear (h:Xy w b n f) (ty:TypeId):
 ∃ w',(Builtin.clear_ #[65] ty #[.map (some b)]).run prog w=.ok (.tuple #[]) w'∧Xy w' b 0 (fun _=>none)∧w.grownBy w' (some b):=by
 obtain⟨D,⟨j,c,a,F,k,rfl⟩,g⟩:=h;refine⟨setBlock w b (.map #[] c),?_,⟨.map [],⟨#[],c,heap_setBlock_same a _,⟨by simp,stamped_empty c,by simp⟩,Nat.le_refl _,rfl⟩,fun _ _ _=>rfl⟩,⟨rfl,rfl,rfl,by simp[setBlock],fun i _ d=>heap_setBlock_other a _ (fun e=>d (by rw[e]))⟩⟩
 simp[Builtin.clear_,run_underlying underlying65,MapKept.run_getObj_map a,MapKept.run_setObj_map _ a,Result.andThen,setBlock]
theorem ZlY {D:DataW Unit} (c:Maps.CanonK (Maps.KeysOf prog 3) D):Lib.mergeD (.map []) D=D:=by
 refine(merged_eq Zby.one (left:=fun _=>false) ⟨fun k=>?_,fun k z=>?_⟩ (fun _=>rfl) (c.canon Zby.one) ⟨[],rfl,List.Pairwise.nil,fun p a=>by cases a⟩ c).symm
 ·show Maps.has D k=(false || (Maps.has D k && true))
  cases Maps.has D k <;> rfl
 ·cases e:Maps.has D k with
  | true=>rfl
  | false=>
   rw[atKey_of_not_has e];rfl
theorem ZqU (h:Xy w b n f):
 Calls prog 145 #[.map (some b)] w fun e w'=>e=.returned (.map (some w.heap.size))∧Xy w' w.heap.size n f∧w'.heap.size=w.heap.size+1∧Below w.heap.size w w':=by
 obtain⟨D,⟨a,c,d,r⟩,g⟩:=h;refine(AnyW.maps_Clone layW b a c w d).mono fun e w' ⟨he,hw⟩=>?_
 subst hw;exact⟨he,⟨D,⟨a,c,(MapKept.heap_alloc w _).1,r⟩,g⟩,by simp,(Below.refl _ w).alloc zL _⟩
theorem ZvM {a bs:Nat} (t:Xy w a 0 (fun _=>none)) (b:Xy w bs n f) (l:a≠bs) (x:n<=10000000):
 Calls prog 73 #[.map (some a),.map (some bs)] w fun e w'=>e=.returned (.tuple #[])∧Xy w' a n f∧w.grownBy w' (some a):=by
 obtain⟨q,i,u⟩:=t;obtain⟨c,d,m⟩:=b
 have v:Maps.size c<=n:=by
  obtain⟨g,k,j,F,b,rfl⟩:=d;rw[size_eq,length_sorted];simpa using b
 have p:q=.map []:=by
  obtain⟨g,k,j,F,b,rfl⟩:=i;have:g=#[]:=by simpa using b
  subst this;rfl
 subst p;refine(AnyX.maps_Copy layX Zby ZaA a bs 0 n (.map []) c w i d l (by unfold maxLen;omega)).mono fun e w' ⟨he,ho,_,hg⟩=>?_
 rw[ZlY (d.canonK Zby)] at ho;exact⟨he,⟨c,ho.mono (by omega),m⟩,hg⟩
open Go.RowKit
structure Qj (F:Nat->Prop) (w w':World):Prop where
 os:w'.os=w.os
 tape:w'.tape=w.tape
 output:w'.output=w.output
 size:w.heap.size<=w'.heap.size
 block:∀ k,k<w.heap.size->¬ F k->w'.heap[k]?=w.heap[k]?
theorem Qj.refl (F:Nat->Prop) (w:World):Qj F w w:=⟨rfl,rfl,rfl,Nat.le_refl _,fun _ _ _=>rfl⟩
theorem Qj.trans {b c:World} (h:Qj F a b) (k:Qj G b c) (f:∀ x,x<a.heap.size->G x->F x):Qj F a c:=
 ⟨k.os.trans h.os,k.tape.trans h.tape,k.output.trans h.output,Nat.le_trans h.size k.size,fun i d e=>(k.block i (Nat.lt_of_lt_of_le d h.size) (fun g=>e (f i d g))).trans (h.block i d e)⟩
theorem Qj.mono (h:Qj F w w') (d:∀ k,F k->G k):Qj G w w':=⟨h.os,h.tape,h.output,h.size,fun k c b=>h.block k c fun a=>b (d k a)⟩
theorem Qj.ofGrown {row:Option Nat} (h:w.grownBy w' row) (b:∀ k,row=some k->k<w.heap.size->F k):Qj F w w':=
 ⟨h.os,h.tape,h.output,h.size,fun k a c=>h.block k a fun e=>c (b k e.symm a)⟩
theorem Qj.ofBelow (h:Below w.heap.size w w'):Qj F w w':=⟨h.os,h.tape,h.output,h.size,fun k a _=>h.block k a⟩
theorem Qj.below {B:Nat} (h:Qj F w w') (b:B<=w.heap.size) (d:∀ k,F k->B<=k):Below B w w':=
 ⟨h.os,h.tape,h.output,h.size,fun k c=>h.block k (Nat.lt_of_lt_of_le c b) fun a=>by have:=d k a;omega⟩
theorem Qj.setCell (h:Qj F a w) {b:Nat} (i:Nat) (f:b<a.heap.size->F b) (x:Value):Qj F a (w.setCell ⟨b,i,none⟩ x):=by
 have c:=(Below.refl 0 w).setCell (p:=⟨b,i,none⟩) (Nat.zero_le _) x;refine⟨c.os.trans h.os,c.tape.trans h.tape,c.output.trans h.output,Nat.le_trans h.size c.size,fun k e d=>?_⟩
 rw[Below.heap_setCell _ _ _ _ (show k≠b by rintro rfl;exact d (f e))]
 exact h.block k e d
theorem Qj.alloc (h:Qj F a w) (o:Obj):Qj F a (w.alloc o):=
 h.trans (G:=fun _=>False) (Qj.ofBelow ((Below.refl _ _).alloc zL o)) (fun _ _ b=>b.elim)
theorem Qj.drewN (h:Qj F a w) (n:Nat):Qj F a (w.drewN n):=⟨h.os,h.tape,h.output,h.size,h.block⟩
theorem RdI.only {l:List Int} (h:RdI w v l) {F:Nat->Prop} (t:Qj F w w') (m:∀ k,v.ownBlock=some k->¬ F k):RdI w' v l:=by
 obtain⟨ao,cap,rfl,g,p,n,q,d⟩:=h;refine⟨ao,cap,rfl,g,p,n,q,?_⟩;rcases d with d | ⟨b,c,rfl,u⟩
 ·exact .inl d
 ·refine .inr ⟨b,c,rfl,fun j i=>?_⟩
  have e:=u j i;have f:b<w.heap.size:=World.block_lt_of_cell? w ⟨b,c+j,none⟩ e;rw[World.cell?_of_block (a:=⟨b,c+j,none⟩) (t.block b f (m b rfl))];exact e
theorem RdI.onlyE {l:List Int} (h:RdI w v l) {F:Nat->Prop} (a:Qj F w w') (hv:l=[]∨∀ k,v.ownBlock=some k->¬ F k):RdI w' v l:=by
 rcases hv with rfl | hv
 ·obtain⟨ao,cap,rfl,b,d,c,e,f⟩:=h
  exact⟨ao,cap,rfl,b,d,c,e,.inl rfl⟩
 ·exact h.only a hv
def Bk (t:TypeId) (w:World) (b:Nat) (cs:Array Value):Prop:=w.heap[b]?=some (.cells cs t (0,0))
theorem Bk.lt (h:Bk t w b cs):b<w.heap.size:=(Array.getElem?_eq_some_iff.1 h).1
theorem Bk.keep (h:Bk t w b cs) (a:w'.heap[b]?=w.heap[b]?):Bk t w' b cs:=a.trans h
theorem Bk.cell (h:Bk t w b cs) (j:Nat) {x:Value} (a:cs[j]?=some x):w.cell? ⟨b,j,none⟩=some x∧w.frozen? ⟨b,j,none⟩=false:=
 ⟨(cell_of_row w b j _ _ _ h).trans a,frozen_of_row w b j _ _ h⟩
theorem Bk.set (h:Bk t w b cs) (j:Nat) (x:Value):Bk t (w.setCell ⟨b,j,none⟩ x) b (cs.setIfInBounds j x):=by
 have:=heap_setCell_same w b j _ _ x h;unfold Bk;simpa using this
theorem Bk.other (h:Bk t w b cs) (c j:Nat) (x:Value) (a:b≠c):Bk t (w.setCell ⟨c,j,none⟩ x) b cs:=
 (Below.heap_setCell _ _ _ _ a).trans h
theorem Bk.ne {c:TypeId} {b':Nat} {d:Array Value} (h:Bk t w b cs) (a:Bk c w b' d) (e:t≠c):b≠b':=by
 rintro rfl;unfold Bk at h a;rw[h] at a;simp only [Option.some.injEq,Obj.cells.injEq] at a;exact e a.2.1
theorem J3 {base:Nat} (h:w.ownsRow base t 1 v n xs) {g:Nat} (a:v.ownBlock=some g):∃ cs,Bk t w g cs:=by
 rcases h.2 with ⟨b,_⟩ | ⟨g',cap,cur,b,_,c,_⟩
 ·rw[b] at a;cases a
 ·rw[b] at a
  obtain rfl:g'=g:=by simpa[Value.ownBlock] using a
  exact⟨cur,c⟩
theorem Qh {base s:Nat} (h:w.ownsRow base t s v n xs) (c:∀ g,v.ownBlock=some g->w'.heap[g]?=w.heap[g]?):w'.ownsRow base t s v n xs:=by
 obtain⟨d,a⟩:=h;refine⟨d,?_⟩;rcases a with a | ⟨g,cap,cur,b,f,e,r⟩
 ·exact .inl a
 ·exact .inr ⟨g,cap,cur,b,f,(c g (by rw[b];rfl)).trans e,r⟩
abbrev ptr (b:Nat):Value:=.pointer (some ⟨b,0,none⟩)
end Go.Proofs.YtnahjngbneicaaaGreatDoor
