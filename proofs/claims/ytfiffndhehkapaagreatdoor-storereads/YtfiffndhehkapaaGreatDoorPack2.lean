import Derived.Lib.VarintMem
import Derived.Lib.Endian
import Derived.Test.YtfiffndhehkapaaGreatDoorPack1
import Derived.Shelf.SlMaps.Clone
import Derived.Shelf.SlMaps.Copy
import Derived.Shelf.Sort.Plain
import Derived.Shelf.Slices.In.SortNone
import Derived.Maps.OwnOps
import Derived.Maps.OwnSet
import Derived.Maps.Views
import Derived.Maps.RangeWalk
import Derived.Maps.Ext
namespace Go.Proofs.YtfiffndhehkapaaGreatDoor
set_option maxRecDepth 100000
def Ztm (x:Nat):Nat:=if x % 2=1 then x / 2 ^^^ 2197175160 else x / 2
def ZdF:Nat->Nat->Nat
 | 0,x=>x
 | n+1,x=>ZdF n (Ztm x)
def Zgl (c:Nat):Nat:=ZdF 8 c
def ZgE (x c:Nat):Nat:=Zgl ((x ^^^ c) % 256) ^^^ x / 256
def Zeo:Nat->List UInt8->Nat
 | x,[]=>x
 | x,c::r=>Zeo (ZgE x c.toNat) r
def Zay (sum:Nat) (l:List UInt8):Nat:=Zeo (sum ^^^ 4294967295) l ^^^ 4294967295
theorem ZxS (a b:Nat):(a ^^^ b) % 2=(a % 2+b % 2) % 2:=by
 have h:=@Nat.xor_mod_two_pow a b 1
 simp only [Nat.pow_one] at h
 rw[h]
 rcases Nat.mod_two_eq_zero_or_one a with ha | ha <;> rcases Nat.mod_two_eq_zero_or_one b with hb | hb <;> rw[ha,hb] <;> rfl
theorem ZxT (a b:Nat):(a ^^^ b) / 2=a / 2 ^^^ b / 2:=by
 have h:=@Nat.shiftRight_xor_distrib 1 a b
 simpa[Nat.shiftRight_eq_div_pow] using h
theorem Zqt (a b p:Nat):(a ^^^ p) ^^^ (b ^^^ p)=a ^^^ b:=by
 rw[Nat.xor_comm b p,<-Nat.xor_assoc,Nat.xor_assoc a p p,Nat.xor_self,Nat.xor_zero]
theorem ZxU (a b:Nat):Ztm (a ^^^ b)=Ztm a ^^^ Ztm b:=by
 unfold Ztm
 rw[ZxS,ZxT]
 rcases Nat.mod_two_eq_zero_or_one a with ha | ha <;> rcases Nat.mod_two_eq_zero_or_one b with hb | hb <;> simp only [ha,hb]
 ·rfl
 ·simp[Nat.xor_assoc]
 ·simp only [if_true,if_false,Nat.zero_ne_one]
  rw[Nat.xor_assoc,Nat.xor_assoc,Nat.xor_comm (b / 2)]
 ·simp[Zqt]
theorem ZoC:∀ (n a b:Nat),ZdF n (a ^^^ b)=ZdF n a ^^^ ZdF n b
 | 0,_,_=>rfl
 | n+1,a,b=>by
  simp only [ZdF]
  rw[ZxU,ZoC n]
theorem ZoD:∀ (m n x:Nat),ZdF (m+n) x=ZdF n (ZdF m x)
 | 0,n,x=>by rw[Nat.zero_add];rfl
 | m+1,n,x=>by
  rw[Nat.add_right_comm]
  simp only [ZdF]
  exact ZoD m n (Ztm x)
theorem Zvx (x:Nat):Ztm (2*x)=x:=by
 unfold Ztm
 rw[if_neg (by omega)]
 omega
theorem ZoE:∀ (n x:Nat),ZdF n (2 ^ n*x)=x
 | 0,x=>by simp[ZdF]
 | n+1,x=>by
  simp only [ZdF]
  rw[Nat.pow_succ,Nat.mul_comm (2 ^ n) 2,Nat.mul_assoc,Zvx]
  exact ZoE n x
theorem ZzI {n x:Nat} (hn:32<=n) (h:x<2 ^ n):Ztm x<2 ^ n:=by
 unfold Ztm
 have h2:x / 2<2 ^ n:=by omega
 split
 ·refine Nat.xor_lt_two_pow h2 (Nat.lt_of_lt_of_le (by decide:2197175160<2 ^ 32) (Nat.pow_le_pow_right (by decide) hn))
 ·exact h2
theorem Znm:∀ (k:Nat) {n x:Nat},32<=n->x<2 ^ n->ZdF k x<2 ^ n
 | 0,_,_,_,h=>h
 | k+1,_,_,hn,h=>Znm k hn (ZzI hn h)
theorem ZxV (z n:Nat):z=z % 2 ^ n ^^^ 2 ^ n*(z / 2 ^ n):=by
 apply Nat.eq_of_testBit_eq
 intro i
 rw[Nat.testBit_xor,Nat.testBit_mod_two_pow,Nat.testBit_two_pow_mul]
 by_cases h:i<n
 ·have h2:¬ n<=i:=by omega
  simp[h,h2]
 ·have h2:n<=i:=by omega
  simp only [h,h2,decide_false,decide_true,Bool.false_and,Bool.true_and,Bool.false_xor,Nat.testBit_div_two_pow]
  rw[Nat.sub_add_cancel h2]
theorem Znn (x c:Nat) (hc:c<256):ZgE x c=ZdF 8 (x ^^^ c):=by
 have e:(x ^^^ c) / 256=x / 256:=by
  have h:=@Nat.shiftRight_xor_distrib 8 x c
  simp only [Nat.shiftRight_eq_div_pow] at h
  have h0:c / 2 ^ 8=0:=by omega
  rw[h0,Nat.xor_zero] at h
  exact h
 have h:=ZxV (x ^^^ c) 8
 unfold ZgE Zgl
 conv=>rhs;rw[h]
 rw[ZoC,ZoE]
 show _=ZdF 8 ((x ^^^ c) % 256) ^^^ (x ^^^ c) / 256
 rw[e]
theorem Zhk:∀ (a b:List UInt8) (x:Nat),Zeo x (a++b)=Zeo (Zeo x a) b
 | [],_,_=>rfl
 | c::r,b,x=>by
  rw[List.cons_append,Zeo,Zeo]
  exact Zhk r b _
theorem Ztn {x c:Nat} (hx:x<4294967296) (hc:c<256):ZgE x c<4294967296:=by
 rw[Znn x c hc]
 have h:x ^^^ c<2 ^ 32:=Nat.xor_lt_two_pow (by omega) (by omega)
 have:=Znm 8 (Nat.le_refl 32) h
 omega
theorem ZjQ:∀ (l:List UInt8) {x:Nat},x<4294967296->Zeo x l<4294967296
 | [],_,h=>h
 | c::r,x,h=>ZjQ r (Ztn h (by have:=c.toNat_lt;omega))
theorem Zvy {x:Nat} (h:x<4294967296):x ^^^ 4294967295<4294967296:=by
 have:=Nat.xor_lt_two_pow (n:=32) (by omega:x<2 ^ 32) (by decide:4294967295<2 ^ 32)
 omega
theorem Zto {sum:Nat} (l:List UInt8) (h:sum<4294967296):Zay sum l<4294967296:=Zvy (ZjQ l (Zvy h))
theorem ZjR:∀ l:List UInt8,Lib.leNat l<2 ^ (8*l.length)
 | []=>by simp[Lib.leNat]
 | c::r=>by
  have h:=ZjR r
  have hc:=c.toNat_lt
  have e:8*(c::r).length=8*r.length+8:=by simp;omega
  simp only [Lib.leNat]
  rw[e,Nat.pow_add]
  omega
def ZbG (l:List UInt8):List UInt8:=Lib.uvarint l.length++l
def Zad (l:List UInt8):List UInt8:=ZbG l++Lib.leBytes 4 (Zay 0 (ZbG l))
def ZcX (l:List UInt8):Prop:=l.length<10∧∀ j,j<l.length->128<=(l.getD j 0).toNat
instance (l:List UInt8):Decidable (ZcX l):=by unfold ZcX;infer_instance
def ZbP (l:List UInt8):List UInt8 × Nat × Nat:=
 if ZcX l then([],0,2) else
 if(Zab l).2=0 then([],0,3) else
 if 1048576<(Zab l).1 then([],0,5) else
 if l.length<(Zab l).2+4+(Zab l).1 then([],0,2) else
 if Lib.leNat ((l.drop ((Zab l).2+(Zab l).1)).take 4)≠Zay 0 (l.take ((Zab l).2+(Zab l).1)) then([],0,4) else
 ((l.drop (Zab l).2).take (Zab l).1,(Zab l).2+4+(Zab l).1,0)
theorem Zsr (l:List UInt8):Zay 0 l<4294967296:=Zto l (by decide)
theorem Zar (l:List UInt8):(Zad l).length=(Lib.uvarint l.length).length+l.length+4:=by
 simp[Zad,ZbG,Lib.leBytes_length]
 omega
theorem ZAG {n:Nat} (h:n<=1048576):(Lib.uvarint n).length<=3:=Lib.uvarint_length 2 n (Nat.lt_of_le_of_lt h (by decide))
theorem Zss {l:List UInt8} (h:ZcX l):Zab l=(0,0):=by
 have e:Zah l=(0,0):=by
  unfold Zah
  rw[Zng 10 l (fun j _ hj=>h.2 j hj)]
 unfold Zab
 rw[e]
 rfl
theorem Zml (x t:List UInt8) (h:x.length<=1048576):Zab (Lib.uvarint x.length++t)=(x.length,(Lib.uvarint x.length).length):=ZaQ _ _ (by omega)
theorem Zfa:∀ (l:List UInt8),Lib.leBytes l.length (Lib.leNat l)=l
 | []=>rfl
 | c::r=>by
  have ih:=Zfa r
  have hc:=c.toNat_lt
  have e1:(c.toNat+256*Lib.leNat r) % 256=c.toNat:=by omega
  have e2:(c.toNat+256*Lib.leNat r) / 256=Lib.leNat r:=by omega
  simp only [List.length_cons,Lib.leNat,Lib.leBytes,e1,e2,ih]
  simp
theorem Ztp (x t:List UInt8) (h:x.length<=1048576):ZbP (Zad x++t)=(x,(Zad x).length,0):=by
 have hd:Zab (Zad x++t)=(x.length,(Lib.uvarint x.length).length):=by
  have e:Zad x++t=Lib.uvarint x.length++(x++Lib.leBytes 4 (Zay 0 (ZbG x))++t):=by simp[Zad,ZbG]
  rw[e]
  exact Zml x _ h
 have hp:=Lib.uvarint_pos x.length
 have ho:¬ ZcX (Zad x++t):=fun ho=>by
  have:=Zss ho
  rw[hd,Prod.mk.injEq] at this
  omega
 have hl:(Zad x++t).length=(Lib.uvarint x.length).length+x.length+4+t.length:=by rw[List.length_append,Zar]
 have hh:(ZbG x).length=(Lib.uvarint x.length).length+x.length:=by simp[ZbG]
 have e1:(Zad x++t).take ((Lib.uvarint x.length).length+x.length)=ZbG x:=by
  rw[<-hh,Zad,List.append_assoc,List.take_left]
 have e2:((Zad x++t).drop ((Lib.uvarint x.length).length+x.length)).take 4=Lib.leBytes 4 (Zay 0 (ZbG x)):=by
  rw[<-hh,Zad,List.append_assoc,List.drop_left,List.take_append_of_le_length (by rw[Lib.leBytes_length];exact Nat.le_refl _),List.take_of_length_le (by rw[Lib.leBytes_length];exact Nat.le_refl _)]
 have e3:((Zad x++t).drop (Lib.uvarint x.length).length).take x.length=x:=by
  have e:Zad x++t=Lib.uvarint x.length++(x++(Lib.leBytes 4 (Zay 0 (ZbG x))++t)):=by simp[Zad,ZbG]
  rw[e,List.drop_left,List.take_left]
 unfold ZbP
 rw[if_neg ho]
 simp only [hd]
 rw[if_neg (by omega),if_neg (by omega),if_neg (by omega),if_neg (by rw[e1,e2,Lib.leNat_leBytes 4 _ (Zsr _)];simp),e3,Zar]
 congr 2
 omega
theorem Zno {l:List UInt8} (h:(ZbP l).2.2=0):
 (ZbP l).1.length<=1048576∧(ZbP l).2.1=(Zad (ZbP l).1).length∧(ZbP l).2.1<=l.length∧l.take (ZbP l).2.1=Zad (ZbP l).1:=by
 unfold ZbP at h ⊢
 by_cases c1:ZcX l
 ·rw[if_pos c1] at h;simp at h
 rw[if_neg c1] at h ⊢
 by_cases c2:(Zab l).2=0
 ·rw[if_pos c2] at h;simp at h
 rw[if_neg c2] at h ⊢
 by_cases c3:1048576<(Zab l).1
 ·rw[if_pos c3] at h;simp at h
 rw[if_neg c3] at h ⊢
 by_cases c4:l.length<(Zab l).2+4+(Zab l).1
 ·rw[if_pos c4] at h;simp at h
 rw[if_neg c4] at h ⊢
 by_cases c5:Lib.leNat ((l.drop ((Zab l).2+(Zab l).1)).take 4)≠Zay 0 (l.take ((Zab l).2+(Zab l).1))
 ·rw[if_pos c5] at h;simp at h
 rw[if_neg c5]
 clear h
 rcases Zax l with hc | ⟨h1,h2,h3,h4⟩
 ·rw[hc] at c2;simp at c2
 generalize (Zab l).1=n at *
 generalize (Zab l).2=k at *
 have hx:((l.drop k).take n).length=n:=by simp;omega
 have hk:(Lib.uvarint n).length=k:=by rw[<-h4];simp;omega
 have hhead:ZbG ((l.drop k).take n)=l.take (k+n):=by
  unfold ZbG
  rw[hx,<-h4,List.take_add]
 have htail:(l.drop (k+n)).take 4=Lib.leBytes 4 (Zay 0 (l.take (k+n))):=by
  have e:=Zfa ((l.drop (k+n)).take 4)
  have e4:((l.drop (k+n)).take 4).length=4:=by simp;omega
  rw[e4] at e
  rw[<-Decidable.not_not.1 c5,e]
 refine⟨by show((l.drop k).take n).length<=_;omega,?_,by show k+4+n<=_;omega,?_⟩
 ·show k+4+n=_
  rw[Zar,hx,hk]
  omega
 ·show l.take (k+4+n)=Zad ((l.drop k).take n)
  unfold Zad
  rw[hhead,<-htail,show k+4+n=(k+n)+4 by omega,List.take_add]
theorem ZxW {l:List UInt8} (h:(ZbP l).2.2≠0):(ZbP l).1=[]∧(ZbP l).2.1=0:=by
 unfold ZbP at h ⊢
 split
 ·exact⟨rfl,rfl⟩
 split
 ·exact⟨rfl,rfl⟩
 split
 ·exact⟨rfl,rfl⟩
 split
 ·exact⟨rfl,rfl⟩
 split
 ·exact⟨rfl,rfl⟩
 ·rename_i c1 c2 c3 c4 c5
  rw[if_neg c1,if_neg c2,if_neg c3,if_neg c4,if_neg c5] at h
  simp at h
theorem ZeK {l:List UInt8} (h:(ZbP l).2.2=0):5<=(ZbP l).2.1:=by
 obtain⟨_,h2,_,_⟩:=Zno h
 rw[h2,Zar]
 have:=Lib.uvarint_pos (ZbP l).1.length
 omega
theorem Zvz (l:List UInt8):(ZbP l).2.1<=l.length:=by
 by_cases h:(ZbP l).2.2=0
 ·exact(Zno h).2.2.1
 ·rw[(ZxW h).2];omega
theorem ZxX (x:List UInt8) (m:Nat) (h:x.length<=1048576) (hm:m<(Zad x).length):ZbP ((Zad x).take m)=([],0,2):=by
 have h3:=ZAG h
 by_cases hk:m<(Lib.uvarint x.length).length
 ·have ho:ZcX ((Zad x).take m):=by
   have e:(Zad x).take m=(Lib.uvarint x.length).take m:=by
    rw[Zad,ZbG,List.append_assoc,List.take_append_of_le_length (by omega)]
   rw[e]
   refine⟨by simp;omega,fun j hj=>?_⟩
   have hj':j<m:=by simp at hj;omega
   have e2:((Lib.uvarint x.length).take m).getD j 0=(Lib.uvarint x.length).getD j 0:=by simp[List.getD,hj']
   rw[e2]
   exact ZiF _ _ j zL (by omega)
  unfold ZbP
  rw[if_pos ho]
 ·have hlen:((Zad x).take m).length=m:=by simp;omega
  have hd:Zab ((Zad x).take m)=(x.length,(Lib.uvarint x.length).length):=by
   have e:(Zad x).take m=Lib.uvarint x.length++(x++Lib.leBytes 4 (Zay 0 (ZbG x))).take (m-(Lib.uvarint x.length).length):=by
    rw[Zad,ZbG,List.append_assoc,List.take_append,List.take_of_length_le (by omega)]
   rw[e]
   exact Zml x _ h
  have hp:=Lib.uvarint_pos x.length
  have ho:¬ ZcX ((Zad x).take m):=fun ho=>by
   have:=Zss ho
   rw[hd,Prod.mk.injEq] at this
   omega
  rw[Zar] at hm
  unfold ZbP
  rw[if_neg ho]
  simp only [hd,hlen]
  rw[if_neg (by omega),if_neg (by omega),if_pos (by omega)]
def ZfG:Nat->List UInt8->List (List UInt8) × Nat × Nat
 | 0,_=>([],0,0)
 | f+1,l=>if l=[] then([],0,0) else if(ZbP l).2.2≠0 then([],0,(ZbP l).2.2) else
  ((ZbP l).1::(ZfG f (l.drop (ZbP l).2.1)).1,(ZbP l).2.1+(ZfG f (l.drop (ZbP l).2.1)).2.1,(ZfG f (l.drop (ZbP l).2.1)).2.2)
def Zao (l:List UInt8):List (List UInt8) × Nat × Nat:=ZfG l.length l
theorem ZjS:∀ (f g:Nat) (l:List UInt8),l.length<=f->l.length<=g->ZfG f l=ZfG g l
 | 0,g,l,h,_=>by
  have e:l=[]:=List.eq_nil_of_length_eq_zero (by omega)
  subst e
  cases g <;> simp[ZfG]
 | f+1,0,l,_,h=>by
  have e:l=[]:=List.eq_nil_of_length_eq_zero (by omega)
  subst e
  simp[ZfG]
 | f+1,g+1,l,hf,hg=>by
  unfold ZfG
  by_cases e:l=[]
  ·rw[if_pos e,if_pos e]
  rw[if_neg e,if_neg e]
  by_cases e2:(ZbP l).2.2≠0
  ·rw[if_pos e2,if_pos e2]
  rw[if_neg e2,if_neg e2]
  have h5:=ZeK (Decidable.not_not.1 e2)
  rw[ZjS f g (l.drop (ZbP l).2.1) (by simp;omega) (by simp;omega)]
theorem ZeL:Zao []=([],0,0):=rfl
theorem Zfb {l:List UInt8} (h0:l≠[]) (h:(ZbP l).2.2≠0):Zao l=([],0,(ZbP l).2.2):=by
 unfold Zao
 cases l with
 | nil=>exact absurd rfl h0
 | cons c r=>
  rw[List.length_cons,ZfG,if_neg h0,if_pos h]
theorem Zfc {l:List UInt8} (h0:l≠[]) (h:(ZbP l).2.2=0):
 Zao l=((ZbP l).1::(Zao (l.drop (ZbP l).2.1)).1,(ZbP l).2.1+(Zao (l.drop (ZbP l).2.1)).2.1,(Zao (l.drop (ZbP l).2.1)).2.2):=by
 have h5:=ZeK h
 unfold Zao
 cases l with
 | nil=>exact absurd rfl h0
 | cons c r=>
  rw[List.length_cons,ZfG,if_neg h0,if_neg (Decidable.not_not.2 h),ZjS r.length ((c::r).drop (ZbP (c::r)).2.1).length _ (by simp;omega) zL]
def Zae (L:List (List UInt8)):List UInt8:=L.flatMap Zad
def ZdX:List (List UInt8)->Nat->Nat × Nat
 | [],_=>(0,0)
 | x::L,m=>if(Zad x).length<=m then((ZdX L (m-(Zad x).length)).1+1,(ZdX L (m-(Zad x).length)).2+(Zad x).length) else(0,0)
theorem ZoF:∀ (L:List (List UInt8)) (m:Nat),(ZdX L m).1<=L.length∧(ZdX L m).2<=m
 | [],m=>by simp[ZdX]
 | x::L,m=>by
  have ih:=ZoF L (m-(Zad x).length)
  unfold ZdX
  split
  ·simp;omega
  ·simp
theorem Zmm:∀ (L:List (List UInt8)) (m:Nat),(∀ x ∈ L,x.length<=1048576)->m<=(Zae L).length->
 Zao ((Zae L).take m)=(L.take (ZdX L m).1,(ZdX L m).2,if(ZdX L m).2=m then 0 else 2)
 | [],m,_,hm=>by
  have e:m=0:=by simp[Zae] at hm;omega
  subst e
  rfl
 | x::L,m,hx,hm=>by
  have hx1:=hx x (by simp)
  have hpos:5<=(Zad x).length:=by
   rw[Zar]
   have:=Lib.uvarint_pos x.length
   omega
  have eF:Zae (x::L)=Zad x++Zae L:=by simp[Zae]
  rw[eF] at hm ⊢
  rw[List.length_append] at hm
  by_cases hf:(Zad x).length<=m
  ·have et:(Zad x++Zae L).take m=Zad x++(Zae L).take (m-(Zad x).length):=by
    rw[List.take_append,List.take_of_length_le hf]
   have ih:=Zmm L (m-(Zad x).length) (fun y hy=>hx y (by simp[hy])) (by omega)
   have hd:=Ztp x ((Zae L).take (m-(Zad x).length)) hx1
   have hne:Zad x++(Zae L).take (m-(Zad x).length)≠[]:=fun e=>by
    have:=congrArg List.length e
    rw[List.length_append,List.length_nil] at this
    omega
   rw[et,Zfc hne (by rw[hd]),hd]
   simp only [List.drop_left]
   have hw:=(ZoF L (m-(Zad x).length)).2
   rw[ih,ZdX,if_pos hf]
   simp only [List.take_succ_cons,Prod.mk.injEq,true_and]
   refine⟨by omega,?_⟩
   by_cases e:(ZdX L (m-(Zad x).length)).2=m-(Zad x).length
   ·rw[if_pos e,if_pos (by omega)]
   ·rw[if_neg e,if_neg (by omega)]
  ·have et:(Zad x++Zae L).take m=(Zad x).take m:=by
    rw[List.take_append_of_le_length (by omega)]
   have hd:=ZxX x m hx1 (by omega)
   rw[et,ZdX,if_neg hf]
   by_cases h0:m=0
   ·subst h0
    rfl
   ·have hne:(Zad x).take m≠[]:=fun e=>by
     have:=congrArg List.length e
     rw[List.length_take,List.length_nil] at this
     omega
    rw[Zfb hne (by rw[hd];decide),hd]
    simp only [List.take_zero,Prod.mk.injEq,true_and]
    rw[if_neg (by omega)]
def Zjf (n:Int):Nat:=if 0<=n∧n<=1048576 then(Lib.uvarint n.toNat).length+4+n.toNat else 0
theorem ZoG:∀ (L:List (List UInt8)) (m k:Nat),k<=L.length->(Zae (L.take k)).length<=m->(k=L.length∨m<(Zae (L.take (k+1))).length)->ZdX L m=(k,(Zae (L.take k)).length)
 | [],m,k,hk,_,_=>by
  have e:k=0:=by simpa using hk
  subst e
  rfl
 | x::L,m,0,_,h1,h2=>by
  have e:(Zae ((x::L).take 1)).length=(Zad x).length:=by simp[Zae]
  rcases h2 with h2 | h2
  ·simp at h2
  ·rw[e] at h2
   rw[ZdX,if_neg (by omega)]
   rfl
 | x::L,m,k+1,hk,h1,h2=>by
  have ef:∀ j,(Zae ((x::L).take (j+1))).length=(Zad x).length+(Zae (L.take j)).length:=by
   intro j
   simp[Zae]
  rw[ef] at h1 h2
  have ih:=ZoG L (m-(Zad x).length) k (by simpa using hk) (by omega) (by
   rcases h2 with h2 | h2
   ·left;simpa using h2
   ·right;omega)
  rw[ZdX,if_pos (by omega),ih,ef]
  simp
  omega
theorem Zca {d:List UInt8} (h:d.length<=1048576):(Zad d).length<=d.length+14:=by
 rw[Zar]
 have:(Lib.uvarint d.length).length<=10:=Lib.uvarint_length64 (by omega)
 omega
theorem ZfH (A B:List (List UInt8)):Zae (A++B)=Zae A++Zae B:=by
 unfold Zae
 rw[List.flatMap_append]
theorem ZaS (x:List UInt8) (B:List (List UInt8)):Zae (x::B)=Zad x++Zae B:=by
 unfold Zae
 rw[List.flatMap_cons]
theorem Zqu (x:List UInt8):5<=(Zad x).length:=by
 rw[Zar]
 have:=Lib.uvarint_pos x.length
 omega
theorem ZdG (L:List (List UInt8)) (h:∀ x ∈ L,x.length<=1048576):Zao (Zae L)=(L,(Zae L).length,0):=by
 have e:=Zmm L (Zae L).length h zL
 have hw:=ZoG L (Zae L).length L.length zL (by rw[List.take_length];exact Nat.le_refl _) (.inl rfl)
 rw[List.take_length] at hw e
 rw[e,hw]
 simp
theorem Zic:∀ (n:Nat) (b:List UInt8),b.length<=n->(Zao b).2.2=0->Zae (Zao b).1=b∧∀ x ∈ (Zao b).1,x.length<=1048576
 | 0,b,hn,_=>by
  have e:b=[]:=List.eq_nil_of_length_eq_zero (by omega)
  subst e
  rw[ZeL]
  exact⟨rfl,by simp⟩
 | n+1,b,hn,h=>by
  by_cases e:b=[]
  ·subst e
   rw[ZeL]
   exact⟨rfl,by simp⟩
  by_cases hd:(ZbP b).2.2=0
  ·obtain⟨d1,d2,d3,d4⟩:=Zno hd
   have h5:=ZeK hd
   rw[Zfc e hd] at h ⊢
   obtain⟨i1,i2⟩:=Zic n (b.drop (ZbP b).2.1) (by rw[List.length_drop];omega) h
   refine⟨?_,fun x hx=>?_⟩
   ·show Zae ((ZbP b).1::(Zao (b.drop (ZbP b).2.1)).1)=b
    rw[ZaS,i1,<-d4,List.take_append_drop]
   ·rcases List.mem_cons.1 hx with hx | hx
    ·rw[hx];exact d1
    ·exact i2 x hx
  ·rw[Zfb e hd] at h
   exact absurd h hd
structure Ent where
 proc:Int
 seq:Int
 resp:Int
def ZaV:Ent:=⟨0,0,0⟩
theorem Ent.ext' {a b:Ent} (h1:a.proc=b.proc) (h2:a.seq=b.seq) (h3:a.resp=b.resp):a=b:=by
 cases a
 cases b
 simp_all
instance:DecidableEq Ent:=fun a b=>
 if h:a.proc=b.proc∧a.seq=b.seq∧a.resp=b.resp then .isTrue (Ent.ext' h.1 h.2.1 h.2.2)
 else .isFalse (fun e=>h (by rw[e];exact⟨rfl,rfl,rfl⟩))
structure ZaU where
 idx:Int
 st:St
 tab:List Ent
def Zbi:ZaU:=⟨0,ZfF,[]⟩
def Zfd (e:Ent):Prop:=0<=e.proc∧e.proc<=64∧0<=e.seq∧e.seq<4611686018427387904∧-1125899906842624<=e.resp∧e.resp<=1125899906842624
instance (e:Ent):Decidable (Zfd e):=by unfold Zfd;infer_instance
def Zdu (t:List Ent) (k:Nat):Prop:=∀ i,i<k->Zfd (t.getD i ZaV)∧(0<i->(t.getD (i-1) ZaV).proc<(t.getD i ZaV).proc)
instance (t:List Ent) (k:Nat):Decidable (Zdu t k):=by unfold Zdu;infer_instance
def Zhl (t:List Ent):Prop:=Zdu t t.length
instance (t:List Ent):Decidable (Zhl t):=by unfold Zhl;infer_instance
theorem Zdu.zero (t:List Ent):Zdu t 0:=fun _ hi=>absurd hi (Nat.not_lt_zero _)
theorem Zdu.next {t:List Ent} {k:Nat}:Zdu t (k+1)↔Zdu t k∧Zfd (t.getD k ZaV)∧(0<k->(t.getD (k-1) ZaV).proc<(t.getD k ZaV).proc):=by
 constructor
 ·intro h
  exact⟨fun i hi=>h i (by omega),(h k (by omega)).1,(h k (by omega)).2⟩
 ·rintro⟨h1,h2,h3⟩ i hi
  by_cases e:i=k
  ·subst e
   exact⟨h2,h3⟩
  ·exact h1 i (by omega)
theorem Zdu.mono {t:List Ent} {k j:Nat} (h:Zdu t k) (hj:j<=k):Zdu t j:=fun i hi=>h i (by omega)
theorem Zhl.mem {t:List Ent} (h:Zhl t):∀ e ∈ t,Zfd e:=by
 intro e he
 obtain⟨i,hi,rfl⟩:=List.getElem_of_mem he
 have:=(h i hi).1
 simpa[List.getD,hi] using this
def Zgm (s:ZaU):Prop:=(0<=s.idx∧s.idx<4611686018427387904)∧Zcy s.st∧Zhl s.tab
instance (s:ZaU):Decidable (Zgm s):=by unfold Zgm;infer_instance
def ZxY (e:Ent):List UInt8:=Lib.uvarint e.proc.toNat++(Lib.uvarint e.seq.toNat++Lib.uvarint (Lib.zigzag e.resp))
def Zcp (t:List Ent):List UInt8:=t.flatMap ZxY
def ZAH (t:List Ent):List UInt8:=Lib.uvarint t.length++Zcp t
def Zba (s:ZaU):List UInt8:=Lib.uvarint (Zjp s.st).length++(Zjp s.st++ZAH s.tab)
def Zid (i:Nat) (w:List UInt8):List UInt8:=115::(Lib.uvarint 3++(Lib.uvarint i++(Lib.uvarint w.length++Lib.leBytes 4 (Zay 0 w))))
def Zbb (l:List UInt8):List (List UInt8):=if l=[] then[] else l.take 64::Zbb (l.drop 64)
termination_by l.length
decreasing_by
 rename_i h
 have h1:l.length≠0:=by simpa using h
 rw[List.length_drop]
 omega
def ZdY (s:ZaU):List (List UInt8):=Zid s.idx.toNat (Zba s)::Zbb (Zba s)
def ZxJ (s:ZaU):List UInt8:=Zae (ZdY s)
theorem ZaY:Zbb []=[]:=by rw[Zbb,if_pos rfl]
theorem Zbw {l:List UInt8} (h:l≠[]):Zbb l=l.take 64::Zbb (l.drop 64):=by rw[Zbb,if_neg h]
theorem ZjT:∀ (n:Nat) (l:List UInt8),l.length<=n->(Zbb l).flatten=l
 | 0,l,h=>by
  have e:l=[]:=List.eq_nil_of_length_eq_zero (by omega)
  rw[e,ZaY]
  rfl
 | n+1,l,h=>by
  by_cases e:l=[]
  ·rw[e,ZaY]
   rfl
  ·have h1:l.length≠0:=by simpa using e
   rw[Zbw e,List.flatten_cons,ZjT n (l.drop 64) (by rw[List.length_drop];omega),List.take_append_drop]
theorem Zie:∀ (n:Nat) (l x:List UInt8),l.length<=n->x ∈ Zbb l->x.length<=64∧1<=x.length
 | 0,l,x,h,hx=>by
  have e:l=[]:=List.eq_nil_of_length_eq_zero (by omega)
  rw[e,ZaY] at hx
  simp at hx
 | n+1,l,x,h,hx=>by
  by_cases e:l=[]
  ·rw[e,ZaY] at hx
   simp at hx
  ·have h1:l.length≠0:=by simpa using e
   rw[Zbw e] at hx
   rcases List.mem_cons.1 hx with hx | hx
   ·rw[hx,List.length_take]
    omega
   ·exact Zie n (l.drop 64) x (by rw[List.length_drop];omega) hx
def Zif:List (List UInt8)->Prop
 | []=>True
 | [x]=>1<=x.length∧x.length<=64
 | x::y::t=>x.length=64∧Zif (y::t)
theorem ZfI:∀ (L:List (List UInt8)),Zif L->Zbb L.flatten=L
 | [],_=>by rw[List.flatten_nil,ZaY]
 | [x],h=>by
  obtain⟨h1,h2⟩:=h
  have e:x≠[]:=fun e=>by rw[e] at h1;simp at h1
  have ef:[x].flatten=x:=by simp
  rw[ef,Zbw e,List.take_of_length_le h2,List.drop_eq_nil_of_le h2,ZaY]
 | x::y::t,h=>by
  obtain⟨h1,h2⟩:=h
  have e:(x::y::t).flatten≠[]:=fun e=>by
   have:=congrArg List.length e
   rw[List.flatten_cons,List.length_append,List.length_nil] at this
   omega
  have e1:((x::y::t).flatten).take 64=x:=by rw[List.flatten_cons,<-h1,List.take_left]
  have e2:((x::y::t).flatten).drop 64=(y::t).flatten:=by rw[List.flatten_cons,<-h1,List.drop_left]
  rw[Zbw e,e1,e2,ZfI (y::t) h2]
theorem ZiH:∀ (n:Nat) (l:List UInt8),l.length<=n->Zif (Zbb l)
 | 0,l,h=>by
  have e:l=[]:=List.eq_nil_of_length_eq_zero (by omega)
  rw[e,ZaY]
  trivial
 | n+1,l,h=>by
  by_cases e:l=[]
  ·rw[e,ZaY]
   trivial
  ·have h1:l.length≠0:=by simpa using e
   rw[Zbw e]
   have ih:=ZiH n (l.drop 64) (by rw[List.length_drop];omega)
   by_cases e2:l.drop 64=[]
   ·rw[e2,ZaY]
    have h3:(l.take 64).length=min 64 l.length:=List.length_take
    exact⟨by omega,by omega⟩
   ·have h2:(l.drop 64).length≠0:=fun e=>e2 (List.eq_nil_of_length_eq_zero e)
    rw[List.length_drop] at h2
    rw[Zbw e2] at ih ⊢
    exact⟨by rw[List.length_take];omega,ih⟩
def Zek:Nat->List UInt8->Option (List Ent × List UInt8)
 | 0,b=>some ([],b)
 | n+1,b=>
  let i:=(Zab b).2
  let j:=(Zab (b.drop i)).2
  let k:=(Zah (b.drop (i+j))).2
  if i=0∨j=0∨k=0 then none
  else(Zek n (b.drop (i+j+k))).map (fun r=>(⟨(Zab b).1,(Zab (b.drop i)).1,zag (Zah (b.drop (i+j))).1⟩::r.1,r.2))
def ZeM (b:List UInt8):Option (List Ent):=
 if(Zab b).2=0∨b.length<(Zab b).1 then none
 else match Zek (Zab b).1 (b.drop (Zab b).2) with
  | some (t,[])=>some t
  | _=>none
def ZbQ (w:List UInt8):ZaU × Int:=
 if(Zab w).2=0∨w.length<(Zab w).2+(Zab w).1 then(Zbi,3)
 else if(ZhU ((w.drop (Zab w).2).take (Zab w).1)).2=3 then(Zbi,3)
 else match ZeM (w.drop ((Zab w).2+(Zab w).1)) with
  | none=>(Zbi,3)
  | some t=>(⟨0,(ZhU ((w.drop (Zab w).2).take (Zab w).1)).1,t⟩,(ZhU ((w.drop (Zab w).2).take (Zab w).1)).2)
def ZbT (d:List UInt8):Nat × Nat × Nat × Int:=
 if d.length<1∨(d.getD 0 0).toNat≠115 then(0,0,0,3)
 else
  let i:=(Zab (d.drop 1)).2
  let j:=(Zab (d.drop (1+i))).2
  let k:=(Zab (d.drop (1+i+j))).2
  if i=0∨j=0∨k=0 then(0,0,0,3)
  else if(Zab (d.drop 1)).1≠3 then(0,0,0,6)
  else if(d.drop (1+i+j+k)).length≠4 then(0,0,0,3)
  else((Zab (d.drop (1+i))).1,(Zab (d.drop (1+i+j))).1,Lib.leNat (d.drop (1+i+j+k)),0)
instance cutOk_dec:∀ L:List (List UInt8),Decidable (Zif L)
 | []=>.isTrue trivial
 | [_]=>by unfold Zif;infer_instance
 | _::y::t=>by
  unfold Zif
  exact @instDecidableAnd _ _ _ (cutOk_dec (y::t))
def Zmn (L:List (List UInt8)):ZaU × Int:=
 match L with
 | []=>(Zbi,16)
 | d::P=>
  if(ZbT d).2.2.2≠0 then(Zbi,(ZbT d).2.2.2)
  else if P.flatten.length≠(ZbT d).2.1 then(Zbi,16)
  else if ¬ Zif P then(Zbi,3)
  else if Zay 0 P.flatten≠(ZbT d).2.2.1 then(Zbi,4)
  else if(ZbQ P.flatten).2≠0 then(Zbi,(ZbQ P.flatten).2)
  else if Zgm ⟨((ZbT d).1:Nat),(ZbQ P.flatten).1.st,(ZbQ P.flatten).1.tab⟩ then(⟨((ZbT d).1:Nat),(ZbQ P.flatten).1.st,(ZbQ P.flatten).1.tab⟩,0)
  else(Zbi,1)
def Zqv (b:List UInt8):ZaU × Int:=
 if(Zao b).2.2≠0 then(Zbi,((Zao b).2.2:Nat)) else Zmn (Zao b).1
def Zig (e:Ent):Bool->List Ent->List Ent
 | d,[]=>if d=true then[] else[e]
 | d,x::t=>(if d=false∧e.proc<x.proc then[e] else[])++((if x.proc=e.proc then[] else[x])++Zig e (d || decide (e.proc<x.proc)) t)
def ZfJ (t:List Ent) (e:Ent):List Ent:=Zig e false t
theorem Zih (e:Ent):∀ t:List Ent,Zig e true t=t.filter (fun x=>decide (x.proc≠e.proc))
 | []=>rfl
 | x::t=>by
  rw[Zig,if_neg (by simp),Bool.true_or,Zih e t,List.filter_cons]
  by_cases h:x.proc=e.proc <;> simp[h]
theorem ZjU (e:Ent):∀ (t:List Ent) (d:Bool) (x:Ent),x ∈ Zig e d t↔(d=false∧x=e)∨(x ∈ t∧x.proc≠e.proc)
 | [],d,x=>by cases d <;> simp[Zig]
 | y::t,d,x=>by
  rw[Zig,List.mem_append,List.mem_append,ZjU e t,List.mem_cons]
  by_cases h1:d=false∧e.proc<y.proc
  ·have hy:y.proc≠e.proc:=by omega
   rw[if_pos h1,if_neg hy,h1.1]
   have h2:decide (e.proc<y.proc)=true:=decide_eq_true h1.2
   rw[h2]
   simp only [List.mem_singleton,Bool.or_true,Bool.true_eq_false,false_and,false_or,true_and]
   constructor
   ·rintro(h | h | ⟨h,h'⟩)
    ·exact .inl h
    ·exact .inr ⟨.inl h,by rw[h];exact hy⟩
    ·exact .inr ⟨.inr h,h'⟩
   ·rintro(h | ⟨h | h,h'⟩)
    ·exact .inl h
    ·exact .inr (.inl h)
    ·exact .inr (.inr ⟨h,h'⟩)
  ·rw[if_neg h1]
   have hd:(d || decide (e.proc<y.proc))=false↔d=false:=by
    constructor
    ·intro h
     cases d
     ·rfl
     ·exact h
    ·intro h
     rw[h,Bool.false_or]
     exact decide_eq_false (fun h2=>h1 ⟨h,h2⟩)
   rw[hd]
   by_cases hy:y.proc=e.proc
   ·rw[if_pos hy]
    simp only [List.not_mem_nil,false_or]
    constructor
    ·rintro(h | ⟨h,h'⟩)
     ·exact .inl h
     ·exact .inr ⟨.inr h,h'⟩
    ·rintro(h | ⟨h | h,h'⟩)
     ·exact .inl h
     ·exact absurd (by rw[h];exact hy) h'
     ·exact .inr ⟨h,h'⟩
   ·rw[if_neg hy]
    simp only [List.not_mem_nil,false_or,List.mem_singleton]
    constructor
    ·rintro(h | h | ⟨h,h'⟩)
     ·exact .inr ⟨.inl h,by rw[h];exact hy⟩
     ·exact .inl h
     ·exact .inr ⟨.inr h,h'⟩
    ·rintro(h | ⟨h | h,h'⟩)
     ·exact .inr (.inl h)
     ·exact .inl h
     ·exact .inr (.inr ⟨h,h'⟩)
theorem ZoH (t:List Ent) (e x:Ent):x ∈ ZfJ t e↔x=e∨(x ∈ t∧x.proc≠e.proc):=by
 unfold ZfJ
 rw[ZjU]
 simp
theorem ZoI (e:Ent):∀ (t:List Ent) (d:Bool),(Zig e d t).length<=t.length+(if d=true then 0 else 1)
 | [],d=>by cases d <;> simp[Zig]
 | y::t,d=>by
  have ih:=ZoI e t (d || decide (e.proc<y.proc))
  rw[Zig,List.length_append,List.length_append,List.length_cons]
  by_cases h1:d=false∧e.proc<y.proc
  ·have h2:decide (e.proc<y.proc)=true:=decide_eq_true h1.2
   rw[h1.1,h2] at ih ⊢
   rw[if_pos ⟨rfl,h1.2⟩]
   simp only [Bool.or_true,if_true] at ih
   split <;> simp <;> omega
  ·rw[if_neg h1]
   have hd:(if(d || decide (e.proc<y.proc))=true then(0:Nat) else 1)<=(if d=true then 0 else 1):=by
    cases d
    ·have:decide (e.proc<y.proc)=false:=decide_eq_false (fun h=>h1 ⟨rfl,h⟩)
     rw[this]
     exact Nat.le_refl _
    ·simp
   split <;> simp <;> omega
theorem ZvA (t:List Ent) (e:Ent):(ZfJ t e).length<=t.length+1:=ZoI e t false
def ZjV (t:List Ent):Prop:=t.Pairwise (fun a b=>a.proc<b.proc)
theorem ZjW {e:Ent}:∀ {t:List Ent},ZjV t->ZjV (ZfJ t e)
 | [],_=>by simp[ZfJ,Zig,ZjV]
 | y::t,h=>by
  unfold ZjV at h
  rw[List.pairwise_cons] at h
  obtain⟨h1,h2⟩:=h
  unfold ZfJ ZjV
  rw[Zig,Bool.false_or]
  by_cases hlt:e.proc<y.proc
  ·have hy:y.proc≠e.proc:=by omega
   rw[if_pos ⟨rfl,hlt⟩,if_neg hy,decide_eq_true hlt,Zih]
   show List.Pairwise _ (e::y::_)
   rw[List.pairwise_cons,List.pairwise_cons]
   refine⟨fun a ha=>?_,fun a ha=>h1 a ((List.mem_filter.1 ha).1),h2.filter _⟩
   rcases List.mem_cons.1 ha with ha | ha
   ·rw[ha];exact hlt
   ·have:=h1 a ((List.mem_filter.1 ha).1)
    omega
  ·rw[if_neg (fun h=>hlt h.2),decide_eq_false hlt,List.nil_append]
   have ih:ZjV (ZfJ t e):=ZjW h2
   by_cases hy:y.proc=e.proc
   ·rw[if_pos hy,List.nil_append]
    exact ih
   ·rw[if_neg hy]
    show List.Pairwise _ (y::ZfJ t e)
    rw[List.pairwise_cons]
    refine⟨fun a ha=>?_,ih⟩
    rcases(ZoH t e a).1 ha with ha | ⟨ha,_⟩
    ·rw[ha];omega
    ·exact h1 a ha
theorem Zdu.lt {t:List Ent} {k:Nat} (h:Zdu t k):∀ j i,i<j->j<k->(t.getD i ZaV).proc<(t.getD j ZaV).proc
 | 0,i,hi,_=>absurd hi (Nat.not_lt_zero _)
 | j+1,i,hi,hj=>by
  have h1:=(h (j+1) hj).2 (by omega)
  rw[Nat.add_sub_cancel] at h1
  by_cases e:i=j
  ·rw[e];exact h1
  ·have h2:=h.lt j i (by omega) (by omega)
   omega
theorem Zhl.rises {t:List Ent} (h:Zhl t):ZjV t:=by
 unfold ZjV
 rw[List.pairwise_iff_getElem]
 intro i j hi hj hij
 have:=h.lt j i hij hj
 simpa[List.getD,hi,hj] using this
def Zap (key:Int):List Int->Nat
 | a::_::r=>if key<=a then 0 else Zap key r+2
 | _=>0
def ZdH (key:Int) (l:List Int):Bool:=(Zcm key l).isSome
theorem ZjX (key:Int):∀ (l:List Int),l.length % 2=0->Zap key l<=l.length∧Zap key l % 2=0
 | [],_=>⟨Nat.le_refl _,rfl⟩
 | [_],h=>by simp at h
 | a::b::r,h=>by
  have ih:=ZjX key r (by simp at h;omega)
  unfold Zap
  split
  ·simp
  ·simp
   omega
theorem ZjY (key:Int):∀ (l:List Int) (k:Nat),l.length % 2=0->k % 2=0->k<=l.length->(∀ j,j<k->j % 2=0->l.getD j 0<key)->Zap key l=k+Zap key (l.drop k)
 | [],k,_,_,hk,_=>by
  have:k=0:=by simpa using hk
  subst this
  rfl
 | [_],_,h,_,_,_=>by simp at h
 | a::b::r,k,h,hk2,hk,hall=>by
  by_cases h0:k=0
  ·subst h0
   simp
  ·obtain⟨j,rfl⟩:∃ j,k=j+2:=⟨k-2,by omega⟩
   have h1:=hall 0 (by omega) rfl
   have h1':a<key:=h1
   have ih:=ZjY key r j (by simp at h;omega) (by omega) (by simp at hk;omega) (fun i hi hi2=>by
    have:=hall (i+2) (by omega) (by omega)
    exact this)
   conv=>lhs;unfold Zap
   rw[if_neg (by omega),ih]
   show j+Zap key (r.drop j)+2=j+2+Zap key (r.drop j)
   omega
theorem Zqw (key:Int) (l:List Int) (k:Nat) (hk:k+1<l.length) (h:key<=l.getD k 0):Zap key (l.drop k)=0:=by
 rw[Zvp l k hk,Zap,if_pos h]
theorem ZeN (key least:Int):∀ (l:List Int) (lo:Int),Zat least lo l->ZdH key l=decide (Zap key l<l.length∧l.getD (Zap key l) 0=key)∧(ZdH key l=true->Zcm key l=some (l.getD (Zap key l+1) 0)∧Zap key l+1<l.length)
 | [],lo,_=>by simp[ZdH,Zcm,Zap]
 | [_],lo,h=>by simp[Zat] at h
 | a::b::r,lo,h=>by
  have hg:=ZdP (least:=least) (key:=key) (l:=r) (lo:=a)
  unfold Zat at h
  have ih:=ZeN key least r a h.2.2.2.2
  by_cases h1:key<=a
  ·have e:Zap key (a::b::r)=0:=by unfold Zap;rw[if_pos h1]
   rw[e]
   by_cases h2:a=key
   ·have e2:Zcm key (a::b::r)=some b:=by rw[Zcr,if_pos h2]
    unfold ZdH
    rw[e2]
    simp[h2]
   ·have e2:Zcm key (a::b::r)=none:=by rw[Zcr,if_neg h2,hg h.2.2.2.2 h1]
    unfold ZdH
    rw[e2]
    simp[h2]
  ·have e:Zap key (a::b::r)=Zap key r+2:=by rw[Zap,if_neg h1]
   have e2:Zcm key (a::b::r)=Zcm key r:=by rw[Zcr,if_neg (by omega)]
   have e3:ZdH key (a::b::r)=ZdH key r:=by unfold ZdH;rw[e2]
   rw[e,e2,e3]
   refine⟨?_,fun hh=>?_⟩
   ·rw[ih.1]
    have e4:(a::b::r).getD (Zap key r+2) 0=r.getD (Zap key r) 0:=rfl
    rw[e4]
    apply decide_eq_decide.2
    simp
   ·have:=ih.2 hh
    refine⟨this.1,?_⟩
    simp
    omega
theorem ZiI (key n least:Int):∀ (l:List Int) (lo:Int),Zat least lo l->ZdH key l=false->ZaL key n false l=l.take (Zap key l)++([key,n]++l.drop (Zap key l))
 | [],lo,_,_=>by simp[ZaL,Zap]
 | [_],lo,h,_=>by simp[Zat] at h
 | a::b::r,lo,h,hm=>by
  rw[ZdQ key n least a b r lo h]
  unfold Zat at h
  have ih:=ZiI key n least r a h.2.2.2.2
  unfold ZdH at hm
  rw[Zcr] at hm
  by_cases h2:a=key
  ·rw[if_pos h2] at hm
   simp at hm
  ·rw[if_neg h2] at hm
   by_cases h1:key<a
   ·rw[if_pos h1,Zap,if_pos (by omega)]
    rfl
   ·rw[if_neg h1,if_neg (by omega),ih hm,Zap,if_neg (by omega)]
    rfl
theorem ZoJ (key n least:Int):∀ (l:List Int) (lo:Int),Zat least lo l->ZdH key l=true->ZaL key n false l=l.set (Zap key l+1) n
 | [],lo,_,h=>by simp[ZdH,Zcm] at h
 | [_],lo,h,_=>by simp[Zat] at h
 | a::b::r,lo,h,hm=>by
  rw[ZdQ key n least a b r lo h]
  have hg:=ZdP (least:=least) (key:=key) (l:=r) (lo:=a)
  unfold Zat at h
  have ih:=ZoJ key n least r a h.2.2.2.2
  unfold ZdH at hm
  rw[Zcr] at hm
  by_cases h2:a=key
  ·rw[if_neg (by omega),if_pos h2.symm,Zap,if_pos (by omega),h2]
   rfl
  ·rw[if_neg h2] at hm
   by_cases h1:key<a
   ·rw[hg h.2.2.2.2 (by omega)] at hm
    simp at hm
   ·rw[if_neg h1,if_neg (by omega),ih hm,Zap,if_neg (by omega)]
    rfl
theorem Zgq {least key:Int}:∀ {l:List Int} {lo:Int},Zat least lo l->key<=lo->Zbc key l=l
 | [],_,_,_=>rfl
 | [_],_,h,_=>by simp[Zat] at h
 | a::b::r,lo,h,hk=>by
  unfold Zat at h
  rw[ZcI,if_pos (by omega),Zgq h.2.2.2.2 (by omega)]
theorem ZiJ (key least:Int):∀ (l:List Int) (lo:Int),Zat least lo l->ZdH key l=false->Zbc key l=l
 | [],lo,_,_=>rfl
 | [_],lo,h,_=>by simp[Zat] at h
 | a::b::r,lo,h,hm=>by
  unfold Zat at h
  have ih:=ZiJ key least r a h.2.2.2.2
  unfold ZdH at hm
  rw[Zcr] at hm
  by_cases h2:a=key
  ·rw[if_pos h2] at hm
   simp at hm
  ·rw[if_neg h2] at hm
   rw[ZcI,if_pos h2,ih hm]
theorem ZiK (key least:Int):∀ (l:List Int) (lo:Int),Zat least lo l->ZdH key l=true->Zbc key l=l.take (Zap key l)++l.drop (Zap key l+2)
 | [],lo,_,h=>by simp[ZdH,Zcm] at h
 | [_],lo,h,_=>by simp[Zat] at h
 | a::b::r,lo,h,hm=>by
  have hg:=ZdP (least:=least) (key:=key) (l:=r) (lo:=a)
  unfold Zat at h
  have ih:=ZiK key least r a h.2.2.2.2
  unfold ZdH at hm
  rw[Zcr] at hm
  rw[ZcI]
  by_cases h2:a=key
  ·rw[if_neg (by omega),Zap,if_pos (by omega),Zgq h.2.2.2.2 (by omega)]
   rfl
  ·rw[if_neg h2] at hm
   rw[if_pos h2]
   by_cases h1:key<=a
   ·rw[hg h.2.2.2.2 h1] at hm
    simp at hm
   ·rw[ih hm,Zap,if_neg h1]
    rfl
def Zcb (s:St) (o:Opn):St × Int:=
 if o.a<0∨255<o.a then(s,-1) else
 if o.code≠7∧o.code≠6∧o.code≠5 then(s,0) else
 if o.code=6 then(⟨s.kind,Zbc o.a s.L,s.shut,s.eng⟩,Ztf o.a s.L) else
 if o.code=5 then(if Zdl o.a 0 s.L<0∧s.L.length=128 then(s,-2) else(⟨s.kind,ZaL o.a (Zey o.b) false s.L,s.shut,s.eng⟩,Ztf o.a s.L)) else
 (s,Ztf o.a s.L)
def Zct (s:St) (o:Opn):St × Int:=
 if ¬ Zcy s then(s,0) else
 if s.shut=true then(s,-1125899906842624) else
 if o.code=10 then(⟨s.kind,s.L,true,if 0<=o.a∧o.a<=2 then o.a else s.eng⟩,0) else
 if s.kind<=1 then ZgW s o else if s.kind<=3 then Zco s o else if s.kind=4 then Zcb s o else ZaX s o
theorem ZiL (s:St) (o:Opn):(Zcb s o).1=(Zfs s o).1:=by
 unfold Zcb Zfs
 by_cases h1:o.a<0∨255<o.a
 ·rw[if_pos h1]
  split
  ·rfl
  ·first | rfl | (rw[if_pos h1])
 ·rw[if_neg h1,if_neg h1]
theorem ZgF (s:St) (o:Opn):(Zct s o).1=(ZfD s o).1:=by
 unfold Zct ZfD
 split
 ·rfl
 split
 ·rfl
 split
 ·rfl
 split
 ·rfl
 split
 ·rfl
 split
 ·exact ZiL s o
 ·rfl
theorem ZxZ (s:St) (o:Opn) (h:s.kind≠4∨s.shut=true∨o.code=10∨o.code=5∨o.code=6∨o.code=7∨(0<=o.a∧o.a<=255)):Zct s o=ZfD s o:=by
 unfold Zct ZfD
 split
 ·rfl
 split
 ·rfl
 split
 ·rfl
 split
 ·rfl
 split
 ·rfl
 split
 ·rename_i hm hs hc _ _ hk
  unfold Zcb Zfs
  rcases h with h | h | h | h | h | h | h
  ·exact absurd hk h
  ·exact absurd h hs
  ·exact absurd h hc
  ·rw[if_neg (show ¬ (o.code≠7∧o.code≠6∧o.code≠5) by omega),if_neg (show ¬ (o.code≠7∧o.code≠6∧o.code≠5) by omega)]
  ·rw[if_neg (show ¬ (o.code≠7∧o.code≠6∧o.code≠5) by omega),if_neg (show ¬ (o.code≠7∧o.code≠6∧o.code≠5) by omega)]
  ·rw[if_neg (show ¬ (o.code≠7∧o.code≠6∧o.code≠5) by omega),if_neg (show ¬ (o.code≠7∧o.code≠6∧o.code≠5) by omega)]
  ·rw[if_neg (show ¬ (o.a<0∨255<o.a) by omega),if_neg (show ¬ (o.a<0∨255<o.a) by omega)]
 ·rfl
theorem ZjZ {s:St} (h:¬ Zcy s) (o:Opn):Zct s o=(s,0):=by
 unfold Zct
 rw[if_pos h]
theorem Ztq {s:St} (h:Zcy s) (hs:s.shut=true) (o:Opn):Zct s o=(s,-1125899906842624):=by
 unfold Zct
 rw[if_neg (fun e=>e h),if_pos hs]
theorem Zka {s:St} (h:Zcy s) (o:Opn):Zcy (Zct s o).1:=by rw[ZgF];exact ZxR h o
theorem ZAz (s:St) (o:Opn):(Zct s o).1.kind=s.kind:=by rw[ZgF];exact Zvs s o
theorem ZzJ {s:St} (h:Zcy s) (o:Opn):(Zct s o).1.shut=(s.shut || decide (o.code=10)):=by rw[ZgF];exact Zti h o
def ZvB:St->List Opn->St × List Int
 | s,[]=>(s,[])
 | s,o::r=>((ZvB (Zct s o).1 r).1,(Zct s o).2::(ZvB (Zct s o).1 r).2)
def ZlL (s:ZaU) (r:Rec):ZaU:=⟨s.idx+1,(Zct s.st r.op).1,ZfJ s.tab ⟨r.proc,r.seq,(Zct s.st r.op).2⟩⟩
def ZaN:ZaU->List Rec->ZaU × Int
 | s,[]=>(s,0)
 | s,r::l=>if r.idx≠s.idx then(Zbi,15) else if ¬ Zaz r then(Zbi,1) else ZaN (ZlL s r) l
theorem ZgG:∀ (l:List Rec) (s:ZaU),(ZaN s l).2=0->(ZaN s l).1.st=(ZvB s.st (l.map (fun r=>r.op))).1∧(ZaN s l).1.idx=s.idx+l.length
 | [],s,_=>by simp[ZaN,ZvB]
 | r::l,s,h=>by
  rw[ZaN] at h ⊢
  by_cases h1:r.idx≠s.idx
  ·rw[if_pos h1] at h
   exact absurd h (by decide)
  rw[if_neg h1] at h ⊢
  by_cases h2:¬ Zaz r
  ·rw[if_pos h2] at h
   exact absurd h (by decide)
  rw[if_neg h2] at h ⊢
  obtain⟨i1,i2⟩:=ZgG l (ZlL s r) h
  rw[i1,i2,List.map_cons,ZvB]
  refine⟨rfl,?_⟩
  show s.idx+1+_=_
  rw[List.length_cons]
  omega
def Zav (l:List Rec) (p:Int):Int:=l.foldl (fun a r=>if r.proc=p then r.seq else a) 0
theorem ZoK (l:List Rec) (r:Rec) (p:Int):Zav (l++[r]) p=if r.proc=p then r.seq else Zav l p:=by
 unfold Zav
 rw[List.foldl_append]
 rfl
theorem Zmo {l:List Rec} (p:Int):(∀ r ∈ l,Zaz r)->0<=Zav l p∧Zav l p<4611686018427387904:=by
 unfold Zav
 suffices h:∀ (l:List Rec) (a:Int),(∀ r ∈ l,Zaz r)->0<=a->a<4611686018427387904->0<=l.foldl (fun a r=>if r.proc=p then r.seq else a) a∧l.foldl (fun a r=>if r.proc=p then r.seq else a) a<4611686018427387904 by
  exact fun hl=>h l 0 hl (by decide) (by decide)
 intro l
 induction l with
 | nil=>intro a _ h0 h1;exact⟨h0,h1⟩
 | cons r t ih=>
  intro a hf h0 h1
  rw[List.foldl_cons]
  have hr:=hf r (by simp)
  obtain⟨_,_,_,hs0,hs1,_⟩:=hr
  by_cases hp:r.proc=p
  ·rw[if_pos hp]
   exact ih _ (fun s hs=>hf s (by simp[hs])) hs0 hs1
  ·rw[if_neg hp]
   exact ih _ (fun s hs=>hf s (by simp[hs])) h0 h1
def ZbH (pre:List Rec) (r:Rec):List UInt8:=
 Lib.uvarint r.proc.toNat++(Lib.uvarint (Lib.zigzag (r.seq-Zav pre r.proc))++(ZaT r.op++Lib.uvarint (Lib.zigzag r.resp)))
def Zbq (pre:List Rec):List Rec->List UInt8
 | []=>[]
 | r::t=>ZbH pre r++Zbq (pre++[r]) t
def Zdy (l:List Rec):List UInt8:=Lib.uvarint (l.headD Zaj).idx.toNat++(Lib.uvarint l.length++Zbq [] l)
def ZaZ:Int->List Rec->Prop
 | _,[]=>True
 | i,r::t=>r.idx=i∧ZaZ (i+1) t
instance chainR_dec:∀ (i:Int) (l:List Rec),Decidable (ZaZ i l)
 | _,[]=>.isTrue trivial
 | i,r::t=>by
  unfold ZaZ
  exact @instDecidableAnd _ _ _ (chainR_dec (i+1) t)
def ZbD (l:List Rec):Prop:=1<=l.length∧l.length<=256∧(∀ r ∈ l,Zaz r)∧ZaZ (l.headD Zaj).idx l
instance (l:List Rec):Decidable (ZbD l):=by unfold ZbD;infer_instance
theorem Zkb:∀ (a b pre:List Rec),Zbq pre (a++b)=Zbq pre a++Zbq (pre++a) b
 | [],b,pre=>by simp[Zbq]
 | r::t,b,pre=>by
  have e:pre++[r]++t=pre++r::t:=by simp
  rw[List.cons_append,Zbq,Zkb t b,e,Zbq]
  exact(List.append_assoc _ _ _).symm
theorem Ztr (l:List Rec) (k:Nat) (hk:k<l.length):Zbq [] (l.take (k+1))=Zbq [] (l.take k)++ZbH (l.take k) (l.getD k Zaj):=by
 have e:l.take (k+1)=l.take k++[l.getD k Zaj]:=by
  rw[List.take_add_one]
  simp[List.getD,hk]
 rw[e,Zkb]
 simp[Zbq]
def ZBm (pre:List Rec) (b:List UInt8):Rec × Nat:=
 let i:=(Zab b).2
 let j:=(Zah (b.drop i)).2
 let k:=(ZaB (b.drop (i+j))).2
 let m:=(Zah (b.drop (i+j+k))).2
 if i=0∨j=0∨k=0∨m=0 then(Zaj,0)
 else(⟨0,(Zab b).1,IntKind.i64.wrap (Zav pre (Zab b).1+zag (Zah (b.drop i)).1),(ZaB (b.drop (i+j))).1,zag (Zah (b.drop (i+j+k))).1⟩,i+j+k+m)
theorem Zqx {n:Int} (h:I64 n):IntKind.i64.wrap n=n:=by
 obtain⟨h0,h1⟩:=h
 rw[IntKind.wrap_i64]
 omega
theorem Zhm {l:List Rec} (hl:∀ r ∈ l,Zaz r) {r:Rec} (hr:Zaz r):I64 (r.seq-Zav l r.proc):=by
 obtain⟨h0,h1⟩:=Zmo r.proc hl
 obtain⟨_,_,_,hs0,hs1,_⟩:=hr
 exact⟨by omega,by omega⟩
theorem ZzK {pre:List Rec} (hl:∀ r ∈ pre,Zaz r) {r:Rec} (hr:Zaz r) (t:List UInt8):ZBm pre (ZbH pre r++t)=({ r with idx:=0 },(ZbH pre r).length):=by
 have hd:=Zhm hl hr
 have hresp:=ZdS hr
 obtain⟨ho,_,_,hs0,hs1,hp0,hp1,_⟩:=id hr
 have E:ZbH pre r++t=Lib.uvarint r.proc.toNat++(Lib.uvarint (Lib.zigzag (r.seq-Zav pre r.proc))++(ZaT r.op++(Lib.uvarint (Lib.zigzag r.resp)++t))):=by
  unfold ZbH
  simp only [List.append_assoc]
 have d1:=ZaQ r.proc.toNat (Lib.uvarint (Lib.zigzag (r.seq-Zav pre r.proc))++(ZaT r.op++(Lib.uvarint (Lib.zigzag r.resp)++t))) (by omega)
 rw[<-E] at d1
 have e1:(ZbH pre r++t).drop (Lib.uvarint r.proc.toNat).length=Lib.uvarint (Lib.zigzag (r.seq-Zav pre r.proc))++(ZaT r.op++(Lib.uvarint (Lib.zigzag r.resp)++t)):=by rw[E,List.drop_left]
 have d2:=ZbL (Lib.zigzag (r.seq-Zav pre r.proc)) (ZaT r.op++(Lib.uvarint (Lib.zigzag r.resp)++t)) (ZeJ hd)
 have e2:(ZbH pre r++t).drop ((Lib.uvarint r.proc.toNat).length+(Lib.uvarint (Lib.zigzag (r.seq-Zav pre r.proc))).length)=ZaT r.op++(Lib.uvarint (Lib.zigzag r.resp)++t):=by rw[<-List.drop_drop,e1,List.drop_left]
 have d3:=ZoA r.op ho (Lib.uvarint (Lib.zigzag r.resp)++t)
 have e3:(ZbH pre r++t).drop ((Lib.uvarint r.proc.toNat).length+(Lib.uvarint (Lib.zigzag (r.seq-Zav pre r.proc))).length+(ZaT r.op).length)=Lib.uvarint (Lib.zigzag r.resp)++t:=by rw[<-List.drop_drop,e2,List.drop_left]
 have d4:=ZbL (Lib.zigzag r.resp) t (ZeJ hresp)
 have n1:=Zhj r.proc.toNat
 have n2:=Zhj (Lib.zigzag (r.seq-Zav pre r.proc))
 have n4:=Zhj (Lib.zigzag r.resp)
 have n3:(ZaT r.op).length≠0:=by
  unfold ZaT
  have:=Zhj r.op.code.toNat
  rw[List.length_append]
  omega
 unfold ZBm
 simp only [d1,e1,d2,e2,d3,e3,d4]
 rw[if_neg (by rintro(h | h | h | h);exact n1 h;exact n2 h;exact n3 h;exact n4 h)]
 have hpn:((r.proc.toNat:Nat):Int)=r.proc:=by omega
 rw[hpn,ZdO _ hd.1 hd.2,ZdO _ hresp.1 hresp.2]
 have hw:Zav pre r.proc+(r.seq-Zav pre r.proc)=r.seq:=by omega
 rw[hw,Zqx ⟨by omega,by omega⟩]
 congr 1
 unfold ZbH
 simp only [List.length_append]
 omega
def DecB (b:List UInt8) (l:List Rec) (e:Int):Prop:=(e=0∧ZbD l∧Zdy l=b)∨(e=3∧l=[]∧∀ l',ZbD l'->Zdy l'≠b)
structure Seg where
 kind:Int
 first:Int
 recs:List Rec
def Zhn:Seg:=⟨0,0,[]⟩
def Zkc:Nat->Int->List Rec->List UInt8->List Rec
 | 0,_,pre,_=>pre
 | n+1,i,pre,b=>Zkc n i (pre++[{ (ZBm pre b).1 with idx:=i+pre.length }]) (b.drop (ZBm pre b).2)
def ZoL (b:List UInt8):List Rec:=Zkc (Zab (b.drop (Zab b).2)).1 (Zab b).1 [] (b.drop ((Zab b).2+(Zab (b.drop (Zab b).2)).2))
def ZgH (b:List UInt8):Option (List Rec):=if ZbD (ZoL b)∧Zdy (ZoL b)=b then some (ZoL b) else none
theorem Zkd:∀ (l pre:List Rec) (i:Int) (t:List UInt8),(∀ r ∈ pre,Zaz r)->(∀ r ∈ l,Zaz r)->ZaZ (i+pre.length) l->Zkc l.length i pre (Zbq pre l++t)=pre++l
 | [],pre,i,t,_,_,_=>by simp[Zkc]
 | r::l,pre,i,t,hp,hl,hc=>by
  obtain⟨hi,hc⟩:=hc
  have hr:=hl r (by simp)
  have e:=ZzK hp hr (Zbq (pre++[r]) l++t)
  rw[List.length_cons,Zkc,Zbq,List.append_assoc,e]
  have er:({ ({ r with idx:=0 }:Rec) with idx:=i+pre.length }:Rec)=r:=by rw[<-hi]
  simp only [er,List.drop_left]
  rw[Zkd l (pre++[r]) i t (fun s hs=>by
   rcases List.mem_append.1 hs with h | h
   ·exact hp s h
   ·rw[List.mem_singleton.1 h];exact hr) (fun s hs=>hl s (by simp[hs])) (by
   have e2:i+((pre++[r]).length:Int)=i+(pre.length:Int)+1:=by simp;omega
   rw[e2];exact hc)]
  simp
theorem Zts {l:List Rec} (h:ZbD l):Zaz (l.headD Zaj):=by
 cases l with
 | nil=>exact absurd h.1 (by simp)
 | cons r t=>exact h.2.2.1 r (by simp)
theorem Ztt {l:List Rec} (h:ZbD l):ZoL (Zdy l)=l:=by
 have hh:=Zts h
 obtain⟨h1,h2,h3,h4⟩:=h
 obtain⟨_,i0,i1,_⟩:=hh
 have d1:Zab (Zdy l)=((l.headD Zaj).idx.toNat,(Lib.uvarint (l.headD Zaj).idx.toNat).length):=by
  unfold Zdy
  exact ZaQ _ _ (by omega)
 have e1:(Zdy l).drop (Lib.uvarint (l.headD Zaj).idx.toNat).length=Lib.uvarint l.length++Zbq [] l:=by
  unfold Zdy
  rw[List.drop_left]
 have d2:Zab (Lib.uvarint l.length++Zbq [] l)=(l.length,(Lib.uvarint l.length).length):=ZaQ _ _ (by omega)
 unfold ZoL
 rw[d1]
 simp only
 rw[<-List.drop_drop,e1,d2]
 simp only [List.drop_left]
 have h:=Zkd l [] ((l.headD Zaj).idx.toNat:Nat) [] (by simp) h3 (by
  have e:(((l.headD Zaj).idx.toNat:Nat):Int)+(([]:List Rec).length:Int)=(l.headD Zaj).idx:=by rw[List.length_nil];omega
  rw[e]
  exact h4)
 rw[List.append_nil] at h
 exact h
theorem ZvC {l:List Rec} (h:ZbD l):ZgH (Zdy l)=some l:=by
 unfold ZgH
 rw[Ztt h,if_pos ⟨h,rfl⟩]
theorem Zii {b:List UInt8} {l:List Rec} (h:ZgH b=some l):ZbD l∧Zdy l=b:=by
 unfold ZgH at h
 split at h
 ·rename_i hh
  injection h with h
  rw[<-h]
  exact hh
 ·cases h
set_option linter.unusedVariables false in
def Zzn (v:Nat) (d:List UInt8):Option (List Rec):=
 if hd:d=[] then some []
 else if hk:(Zab d).2=0∨d.length<(Zab d).2+(Zab d).1∨(Zab d).1<1∨(d.getD (Zab d).2 0).toNat≠v then none
 else if(decR ((d.drop (Zab d).2).take (Zab d).1)).2≠0 then none
 else(Zzn v (d.drop ((Zab d).2+(Zab d).1))).map (fun t=>(decR ((d.drop (Zab d).2).take (Zab d).1)).1::t)
termination_by d.length
decreasing_by
 have h1:d.length≠0:=by simpa using hd
 rw[List.length_drop]
 omega
def ZAI (v:Nat) (r:Rec):List UInt8:=Lib.uvarint (encR v r).length++encR v r
def ZBr (v:Nat) (l:List Rec):List UInt8:=if v=3 then Zdy l else l.flatMap (ZAI v)
def ZbB (v k f:Nat):List UInt8:=108::(Lib.uvarint v++(Lib.uvarint k++Lib.uvarint f))
def ZAJ:Nat->List (List UInt8)->List UInt8
 | _,[]=>[]
 | d,x::xs=>Lib.uvarint d++ZAJ (Zad x).length xs
def ZAK (H:List UInt8) (B:List (List UInt8)):List UInt8:=Lib.uvarint B.length++ZAJ (Zad H).length B
def Zst (l:List Rec) (first:Int):Prop:=l.length<=4096∧(∀ r ∈ l,Zaz r)∧ZaZ first l
instance (l:List Rec) (first:Int):Decidable (Zst l first):=by unfold Zst;infer_instance
def MayG (s:Seg):Prop:=(0<=s.kind∧s.kind<6∧0<=s.first∧s.first<4611686018427387904)∧Zst s.recs s.first
instance (s:Seg):Decidable (MayG s):=by unfold MayG;infer_instance
def Zcu (d:List UInt8):Except Int (Nat × Nat × Nat):=
 let i:=(Zab (d.drop 1)).2
 let j:=(Zab (d.drop (1+i))).2
 let m:=(Zab (d.drop (1+i+j))).2
 if d=[]∨d.getD 0 0≠108 then .error 3
 else if i=0∨j=0∨m=0∨1+i+j+m≠d.length then .error 3
 else if(Zab (d.drop 1)).1<1∨3<(Zab (d.drop 1)).1 then .error 6
 else if 6<=(Zab (d.drop (1+i))).1 then .error 1
 else .ok ((Zab (d.drop 1)).1,(Zab (d.drop (1+i))).1,(Zab (d.drop (1+i+j))).1)
def Zsu (v:Nat) (d:List UInt8) (next:Int):Option (List Rec):=
 match (if v<3 then Zzn v d else ZgH d) with
 | none=>none
 | some l=>if((1<=l.length∧l.length<=16)∧Zst l next)∧ZBr v l=d then some l else none
def Zdm (v:Nat) (first:Int):List (List UInt8)->List Rec->Nat->List Rec × Nat × Int
 | [],acc,_=>(acc,0,0)
 | d::ds,acc,last=>
  match Zsu v d (first+acc.length) with
  | none=>(acc,0,3)
  | some r=>if last<16 then(acc,0,3) else if 4096<acc.length+r.length then(acc,0,5)
   else((Zdm v first ds (acc++r) r.length).1,(Zdm v first ds (acc++r) r.length).2.1+1,(Zdm v first ds (acc++r) r.length).2.2)
def ZAL (L:List (List UInt8)):Seg × Int:=
 if L.length<2 then(Zhn,16)
 else match Zcu (L.headD []) with
  | .error e=>(Zhn,e)
  | .ok (v,k,f)=>
   if(Zdm v f (L.tail.dropLast) [] 16).2.2≠0 then(Zhn,(Zdm v f (L.tail.dropLast) [] 16).2.2)
   else if ZAK (L.headD []) L.tail.dropLast=L.getLastD [] then(⟨k,f,(Zdm v f (L.tail.dropLast) [] 16).1⟩,0) else(Zhn,16)
def Zya (L:List (List UInt8)):Seg × Nat × Bool:=
 if L=[] then(Zhn,0,false)
 else match Zcu (L.headD []) with
  | .error _=>(Zhn,0,false)
  | .ok (v,k,f)=>(⟨k,f,(Zdm v f L.tail [] 16).1⟩,(Zae (L.take (1+(Zdm v f L.tail [] 16).2.1))).length,true)
def ZdI (b:List UInt8):Seg × Nat × Bool:=Zya (Zao b).1
structure Pce where
 name:Int
 first:Int
 stop:Int
def Zcc:Pce:=⟨0,0,0⟩
structure Lgb where
 first:Int
 recs:List Rec
 pcs:List Pce
def Lgb.next (b:Lgb):Int:=b.first+b.recs.length
def Lgb.start (b:Lgb) (name first:Int):Lgb:=⟨if b.pcs.length=0 then first else b.first,b.recs,b.pcs++[⟨name,first,first⟩]⟩
def ZbW (l:List Pce) (n:Nat):List Pce:=l.set (l.length-1) ⟨(l.getD (l.length-1) Zcc).name,(l.getD (l.length-1) Zcc).first,(l.getD (l.length-1) Zcc).stop+n⟩
def Lgb.add (b:Lgb) (l:List Rec):Lgb:=⟨b.first,b.recs++l,ZbW b.pcs l.length⟩
def ZbI (left:List Pce) (base:Int):Int:=if left.length=0 then base else(left.getD 0 Zcc).first
def Lgb.letGo (b:Lgb) (left:List Pce) (base:Int):Lgb:=⟨ZbI left base,b.recs.drop (ZbI left base-b.first).toNat,left⟩
def Lgb.leads (b:Lgb) (base:ZaU):Prop:=b.pcs.length≠0∧b.first<=base.idx∧base.idx<=b.next∧(ZaN base (b.recs.drop (base.idx-b.first).toNat)).2=0
instance (b:Lgb) (base:ZaU):Decidable (b.leads base):=by unfold Lgb.leads;infer_instance
def Lgb.behind (b:Lgb) (base:ZaU):Lgb × ZaU:=
 if b.leads base then(b,(ZaN base (b.recs.drop (base.idx-b.first).toNat)).1) else(⟨base.idx,[],[]⟩,base)
structure Sto where
 log:Lgb
 bases:List ZaU
 now:ZaU
 synced:Int
 cur:Int
 nw:Bool
def Sto.next (s:Sto):Int:=s.log.next
def Sto.base (s:Sto):ZaU:=s.bases.getD (s.bases.length-1) Zbi
abbrev SDk:=Sto × Dk
def Zak (d:Dk):List Int:=(Zbo d).map Prod.fst
def ZaW (l:List Int) (first:Int):List Int:=l.filter fun n=>!(decide (n<first) || decide ((n-first) % 2≠0))
def Zbd (d:Dk) (first:Int):Int:=(ZaW (Zak d) first).getD ((ZaW (Zak d) first).length-1) (first-2)+2
def Zfe (H:List UInt8) (kind:Int):Option Nat:=
 match Zcu H with
 | .ok (v,k,f)=>if v=3∧(k:Int)=kind then some f else none
 | .error _=>none
def Zbx (first:Int):List (List UInt8)->List Rec->List Rec
 | [],acc=>acc
 | d::t,acc=>
  match ZgH d with
  | none=>acc
  | some l=>if(l.headD Zaj).idx=first+acc.length then Zbx first t (acc++l) else acc
def ZxK (b:List UInt8) (kind:Int):Option (Nat × List Rec):=
 match (Zao b).1 with
 | []=>none
 | H::B=>(Zfe H kind).map fun f=>(f,Zbx f B [])
def ZeA:Lgb:=⟨0,[],[]⟩
def logOne (d:Dk) (kind:Int) (b:Lgb) (n:Int):Lgb:=
 match ZxK (ZcU d n).1 kind with
 | none=>b
 | some (f,l)=>if b.pcs.length=0∨(f:Int)=b.next then(b.start n f).add l else b
def ZiM (d:Dk) (kind:Int):Lgb:=(ZaW (Zak d) 2).foldl (logOne d kind) ZeA
def Zdz (kind:Int):ZaU:=⟨0,ZcV kind,[]⟩
def Zdb (d:Dk) (kind:Int) (l:List ZaU) (n:Int):List ZaU:=
 if(Zqv (ZcU d n).1).2=0∧(Zqv (ZcU d n).1).1.st.kind=kind then l++[(Zqv (ZcU d n).1).1] else l
def Zbp (d:Dk) (kind:Int):List ZaU:=(ZaW (Zak d) 3).foldl (Zdb d kind) [Zdz kind]
def ZdZ (l:List ZaU):ZaU:=l.getD (l.length-1) Zbi
def Zqy (d:Dk) (kind:Int):Sto:=
 ⟨((ZiM d kind).behind (ZdZ (Zbp d kind))).1,Zbp d kind,((ZiM d kind).behind (ZdZ (Zbp d kind))).2,((ZiM d kind).behind (ZdZ (Zbp d kind))).1.next,0,false⟩
def Znp (d:Dk) (kind:Int):Int:=if kind<0∨6<=kind then 1 else if d.power=0 then 11 else 0
def Zbh:List (SDk->SDk × Int)->SDk->SDk × Int
 | [],x=>(x,0)
 | f::t,x=>if(f x).2=0 then Zbh t (f x).1 else f x
def Zaq (x:SDk):SDk × Int:=((if(ZaP x.2).2=0 then { x.1 with nw:=false } else x.1,(ZaP x.2).1),(ZaP x.2).2)
def ZaH (x:SDk):SDk × Int:=if x.1.nw=true then Zaq x else(x,0)
def Zbu (f:Dk->Dk × Int) (x:SDk):SDk × Int:=((x.1,(f x.2).1),(f x.2).2)
def ZaC (x:SDk):SDk × Int:=Zbu (fun d=>Zds d x.1.cur) x
def ZeB (s:Sto):Sto:={ s with synced:=s.next }
def Zcz (x:SDk):SDk × Int:=
 if x.1.cur=0 then((ZeB x.1,x.2),0) else
 if(Zbh [ZaC,ZaH] x).2=0 then((ZeB (Zbh [ZaC,ZaH] x).1.1,(Zbh [ZaC,ZaH] x).1.2),0) else Zbh [ZaC,ZaH] x
def ZeC (x:SDk):SDk × Int:=if(Zcz x).2=0 then(({ (Zcz x).1.1 with cur:=0 },(Zcz x).1.2),0) else Zcz x
def Zep (s:Sto) (l:List Rec):List UInt8:=if s.cur=0 then Zad (ZbB 3 s.now.st.kind.toNat s.next.toNat)++Zad (Zdy l) else Zad (Zdy l)
def Zfy (s:Sto) (d:Dk):Int:=if s.cur=0 then Zbd d 2 else s.cur
def Zcd (s:Sto) (name:Int) (l:List Rec):Sto:=
 { s with log:=(if s.cur=0 then s.log.start name s.next else s.log).add l,now:=(ZaN s.now l).1,cur:=name,nw:=if s.cur=0 then true else s.nw }
def Zby (l:List Rec) (x:SDk):SDk × Int:=
 if ¬ ZbD l then(x,1) else if(l.headD Zaj).idx≠x.1.next then(x,15) else
 if(ZaI x.2 (Zfy x.1 x.2) (Zep x.1 l)).2=0 then((Zcd x.1 (Zfy x.1 x.2) l,(ZaI x.2 (Zfy x.1 x.2) (Zep x.1 l)).1),0)
 else((x.1,(ZaI x.2 (Zfy x.1 x.2) (Zep x.1 l)).1),(ZaI x.2 (Zfy x.1 x.2) (Zep x.1 l)).2)
def Znq (x:SDk):SDk × Int:=(x,if Zgm x.1.now then 0 else 1)
def ZcA (x:SDk):SDk × Int:=if 1 ∈ Zak x.2 then Zbu (fun d=>Zam d 1) x else(x,0)
def Zho (x:SDk):SDk × Int:=Zbu (fun d=>ZaI d 1 (if Zgm x.1.now then ZxJ x.1.now else[])) x
def Zea (x:SDk):SDk × Int:=Zbu (fun d=>ZcZ d 1 (Zbd d 3)) x
def ZgI:SDk->SDk × Int:=Zbh [Zcz,Znq,ZcA,Zho,Zbu (fun d=>Zds d 1),Zea,Zaq]
def Zbk (x:SDk):SDk × Int:=
 if(ZgI x).2=0 then(({ (ZgI x).1.1 with bases:=(ZgI x).1.1.bases++[(ZgI x).1.1.now] },(ZgI x).1.2),0) else ZgI x
def Znr (s:Sto) (p:Pce):Bool:=decide (p.stop<=s.base.idx) && decide (p.name≠s.cur)
def ZgJ (s:Sto):List Pce:=s.log.pcs.filter fun p=>!Znr s p
def Zns (s:Sto):List (SDk->SDk × Int):=(s.log.pcs.filter (Znr s)).map fun p=>Zbu (fun d=>Zam d p.name)
def Zdv (x:SDk):SDk × Int:=
 if(Zbh (Zns x.1++[Zaq]) x).2=0 then(({ (Zbh (Zns x.1++[Zaq]) x).1.1 with log:=x.1.log.letGo (ZgJ x.1) x.1.base.idx },(Zbh (Zns x.1++[Zaq]) x).1.2),0)
 else Zbh (Zns x.1++[Zaq]) x
def ZbX (s:Sto) (a b:Int):List Rec × Int:=
 if a<0∨b<a∨s.next<b then([],12) else if a<s.log.first then([],13) else((s.log.recs.take (b-s.log.first).toNat).drop (a-s.log.first).toNat,0)
theorem ZcM (l:List UInt8) (a b:Nat):(l.drop a).take b++l.drop (a+b)=l.drop a:=by rw[<-List.drop_drop,List.take_append_drop]
theorem Zqz {e:Ent} (h:Zfd e):e.proc.toNat<4611686018427387904∧e.seq.toNat<4611686018427387904∧I64 e.resp∧((e.proc.toNat:Nat):Int)=e.proc∧((e.seq.toNat:Nat):Int)=e.seq:=by
 obtain⟨h1,h2,h3,h4,h5,h6⟩:=h
 exact⟨by omega,by omega,⟨by omega,by omega⟩,by omega,by omega⟩
theorem Zyb (e:Ent):1<=(ZxY e).length:=by
 unfold ZxY
 have:=Zhj e.proc.toNat
 rw[List.length_append]
 omega
theorem ZvD (t:List Ent):t.length<=(Zcp t).length:=by
 induction t with
 | nil=>simp
 | cons e t ih=>
  unfold Zcp at ih ⊢
  rw[List.flatMap_cons,List.length_append,List.length_cons]
  have:=Zyb e
  omega
theorem ZoM {t:List Ent} (h:Zhl t):t.length<=65:=by
 have hr:∀ i,i<t.length->(i:Int)<=(t.getD i ZaV).proc:=by
  intro i
  induction i with
  | zero=>
   intro hi
   exact(h 0 hi).1.1
  | succ i ih=>
   intro hi
   have h1:=ih (by omega)
   have h2:=(h (i+1) hi).2 (by omega)
   rw[Nat.add_sub_cancel] at h2
   omega
 by_cases h0:t.length=0
 ·omega
 ·have h1:=hr (t.length-1) (by omega)
  have h2:=(h (t.length-1) (by omega)).1.2.1
  omega
theorem Zyc {e:Ent} (h:Zfd e):(ZxY e).length<=30:=by
 obtain⟨a1,a2,a3,_⟩:=Zqz h
 have h1:=Lib.uvarint_length64 (x:=e.proc.toNat) (by omega)
 have h2:=Lib.uvarint_length64 (x:=e.seq.toNat) (by omega)
 have h3:=Lib.uvarint_length64 (ZeJ a3)
 unfold ZxY
 rw[List.length_append,List.length_append]
 omega
theorem Zsv:∀ (t:List Ent),(∀ e ∈ t,Zfd e)->(Zcp t).length<=30*t.length
 | [],_=>by simp[Zcp]
 | e::t,h=>by
  have h1:=Zyc (h e (by simp))
  have h2:=Zsv t (fun a ha=>h a (by simp[ha]))
  unfold Zcp at h2 ⊢
  rw[List.flatMap_cons,List.length_append,List.length_cons]
  omega
theorem Zsw:∀ (l:List Int),(∀ x ∈ l,I64 x)->(ZcL l).length<=10*l.length
 | [],_=>by simp[ZcL]
 | x::t,h=>by
  have h1:=Lib.uvarint_length64 (ZeJ (h x (by simp)))
  have h2:=Zsw t (fun a ha=>h a (by simp[ha]))
  rw[ZcL,List.length_append,List.length_cons]
  omega
theorem ZvE {s:St} (h:Zcy s):(Zjp s).length<=2000:=by
 obtain⟨h1,h2,h3⟩:=ZjP h
 have h4:=Zsq h
 have u1:=Lib.uvarint_length64 (x:=s.kind.toNat) (by omega)
 have u2:=Lib.uvarint_length64 (x:=Zez s) (by omega)
 have u3:=Lib.uvarint_length64 (x:=s.L.length) (by omega)
 have u4:=Zsw s.L h3
 unfold Zjp
 rw[List.length_append,List.length_append,List.length_append]
 omega
theorem ZeO {s:ZaU} (h:Zgm s):(Zba s).length<=5000:=by
 obtain⟨_,h2,h3⟩:=h
 have u1:=ZvE h2
 have u2:=ZoM h3
 have u3:=Zsv s.tab h3.mem
 have u4:=Lib.uvarint_length64 (x:=(Zjp s.st).length) (by omega)
 have u5:=Lib.uvarint_length64 (x:=s.tab.length) (by omega)
 unfold Zba ZAH
 rw[List.length_append,List.length_append,List.length_append]
 omega
theorem Zhp {i:Nat} (hi:i<4611686018427387904) {w:List UInt8} (hw:w.length<4611686018427387904):(Zid i w).length<=40:=by
 have u1:=Lib.uvarint_length64 (x:=3) (by decide)
 have u2:=Lib.uvarint_length64 (x:=i) (by omega)
 have u3:=Lib.uvarint_length64 (x:=w.length) (by omega)
 unfold Zid
 rw[List.length_cons,List.length_append,List.length_append,List.length_append,Lib.leBytes_length]
 omega
theorem Ztu {s:ZaU} (h:Zgm s):∀ x ∈ ZdY s,x.length<=1048576:=by
 intro x hx
 have hl:=ZeO h
 obtain⟨⟨h0,h1⟩,_⟩:=h
 unfold ZdY at hx
 rcases List.mem_cons.1 hx with hx | hx
 ·rw[hx]
  have:=Zhp (i:=s.idx.toNat) (by omega) (w:=Zba s) (by omega)
  omega
 ·have:=Zie _ _ x zL hx
  omega
theorem ZgK:∀ (n:Nat) (b:List UInt8) (t:List Ent) (x:List UInt8),Zek n b=some (t,x)->t.length=n∧b=Zcp t++x
 | 0,b,t,x,h=>by
  simp only [Zek,Option.some.injEq,Prod.mk.injEq] at h
  obtain⟨rfl,rfl⟩:=h
  exact⟨rfl,rfl⟩
 | n+1,b,t,x,h=>by
  rw[Zek] at h
  split at h
  ·cases h
  ·rename_i hne
   have n1:(Zab b).2≠0:=fun e=>hne (.inl e)
   have n2:(Zab (b.drop (Zab b).2)).2≠0:=fun e=>hne (.inr (.inl e))
   have n3:(Zah (b.drop ((Zab b).2+(Zab (b.drop (Zab b).2)).2))).2≠0:=fun e=>hne (.inr (.inr e))
   rw[Option.map_eq_some_iff] at h
   obtain⟨⟨t',x'⟩,hr,he⟩:=h
   simp only [Prod.mk.injEq] at he
   obtain⟨rfl,rfl⟩:=he
   obtain⟨i1,i2⟩:=ZgK n _ t' x' hr
   refine⟨by rw[List.length_cons,i1],?_⟩
   have t1:=ZbC n1
   have t2:=ZbC n2
   have t3:=Zmk n3
   have E:Zcp (⟨(Zab b).1,(Zab (b.drop (Zab b).2)).1,zag (Zah (b.drop ((Zab b).2+(Zab (b.drop (Zab b).2)).2))).1⟩::t')++x'=Lib.uvarint (Zab b).1++(Lib.uvarint (Zab (b.drop (Zab b).2)).1++(Lib.uvarint (Zah (b.drop ((Zab b).2+(Zab (b.drop (Zab b).2)).2))).1++(Zcp t'++x'))):=by
    unfold Zcp
    rw[List.flatMap_cons]
    unfold ZxY
    simp only [Int.toNat_natCast,ZeH,List.append_assoc]
   have g3:Lib.uvarint (Zah (b.drop ((Zab b).2+(Zab (b.drop (Zab b).2)).2))).1++(Zcp t'++x')=b.drop ((Zab b).2+(Zab (b.drop (Zab b).2)).2):=by
    rw[<-i2,t3]
    exact ZcM _ _ _
   have g2:Lib.uvarint (Zab (b.drop (Zab b).2)).1++b.drop ((Zab b).2+(Zab (b.drop (Zab b).2)).2)=b.drop (Zab b).2:=by
    rw[t2]
    exact ZcM _ _ _
   rw[E,g3,g2,t1,List.take_append_drop]
theorem ZoN {b:List UInt8} {t:List Ent} (h:ZeM b=some t):ZAH t=b:=by
 unfold ZeM at h
 split at h
 ·cases h
 ·rename_i hne
  have n1:(Zab b).2≠0:=fun e=>hne (.inl e)
  cases hr:Zek (Zab b).1 (b.drop (Zab b).2) with
  | none=>rw[hr] at h;cases h
  | some p=>
   obtain⟨t',x⟩:=p
   rw[hr] at h
   cases x with
   | cons c x=>cases h
   | nil=>
    simp only [Option.some.injEq] at h
    subst h
    obtain⟨i1,i2⟩:=ZgK _ _ _ _ hr
    rw[List.append_nil] at i2
    unfold ZAH
    rw[i1,<-i2,ZbC n1,List.take_append_drop]
theorem ZqA {w:List UInt8} (h:(ZbQ w).2=0):Zba ⟨0,(ZbQ w).1.st,(ZbQ w).1.tab⟩=w:=by
 unfold ZbQ at h ⊢
 split at h
 ·exact absurd h (by decide)
 ·rename_i hne
  rw[if_neg hne]
  have n1:(Zab w).2≠0:=fun e=>hne (.inl e)
  have n2:(Zab w).2+(Zab w).1<=w.length:=by omega
  split at h
  ·exact absurd h (by decide)
  ·rename_i h3
   rw[if_neg h3]
   cases ht:ZeM (w.drop ((Zab w).2+(Zab w).1)) with
   | none=>rw[ht] at h;exact absurd h (by show ¬ ((3:Int)=0);decide)
   | some t=>
    rw[ht] at h
    have hs:=Ztl h
    have htl:=ZoN ht
    show Zba ⟨0,(ZhU ((w.drop (Zab w).2).take (Zab w).1)).1,t⟩=w
    unfold Zba
    rw[hs.2,htl,List.length_take,List.length_drop,Nat.min_eq_left (by omega),ZbC n1,<-List.drop_drop,List.take_append_drop,List.take_append_drop]
theorem ZqB {d:List UInt8} (h:(ZbT d).2.2.2=0) {w:List UInt8} (hl:w.length=(ZbT d).2.1) (hc:Zay 0 w=(ZbT d).2.2.1):d=Zid (ZbT d).1 w∧(ZbT d).1<4611686018427387904:=by
 unfold ZbT at h hl hc ⊢
 split at h
 ·exact absurd h (by decide)
 ·rename_i h0
  rw[if_neg h0] at hl hc ⊢
  simp only at h hl hc ⊢
  split at h
  ·exact absurd h (by decide)
  ·rename_i h1
   rw[if_neg h1] at hl hc ⊢
   split at h
   ·exact absurd h (by decide)
   ·rename_i h2
    rw[if_neg h2] at hl hc ⊢
    split at h
    ·exact absurd h (by decide)
    ·rename_i h3
     rw[if_neg h3] at hl hc ⊢
     simp only at hl hc ⊢
     have n1:(Zab (d.drop 1)).2≠0:=fun e=>h1 (.inl e)
     have n2:(Zab (d.drop (1+(Zab (d.drop 1)).2))).2≠0:=fun e=>h1 (.inr (.inl e))
     have n3:(Zab (d.drop (1+(Zab (d.drop 1)).2+(Zab (d.drop (1+(Zab (d.drop 1)).2))).2))).2≠0:=fun e=>h1 (.inr (.inr e))
     have hv:(Zab (d.drop 1)).1=3:=Decidable.not_not.1 h2
     have h4:(d.drop (1+(Zab (d.drop 1)).2+(Zab (d.drop (1+(Zab (d.drop 1)).2))).2+(Zab (d.drop (1+(Zab (d.drop 1)).2+(Zab (d.drop (1+(Zab (d.drop 1)).2))).2))).2)).length=4:=Decidable.not_not.1 h3
     have t1:=ZbC n1
     have t2:=ZbC n2
     have t3:=ZbC n3
     have hlb:=Zfa (d.drop (1+(Zab (d.drop 1)).2+(Zab (d.drop (1+(Zab (d.drop 1)).2))).2+(Zab (d.drop (1+(Zab (d.drop 1)).2+(Zab (d.drop (1+(Zab (d.drop 1)).2))).2))).2))
     rw[h4] at hlb
     have hfst:(Zab (d.drop (1+(Zab (d.drop 1)).2))).1<4611686018427387904:=by
      rcases Zax (d.drop (1+(Zab (d.drop 1)).2)) with e | e
      ·rw[e];decide
      ·exact e.1
     refine⟨?_,hfst⟩
     unfold Zid
     have g3:Lib.uvarint w.length++Lib.leBytes 4 (Zay 0 w)=d.drop (1+(Zab (d.drop 1)).2+(Zab (d.drop (1+(Zab (d.drop 1)).2))).2):=by
      rw[hc,hlb,hl,t3]
      exact ZcM _ _ _
     have g2:Lib.uvarint (Zab (d.drop (1+(Zab (d.drop 1)).2))).1++d.drop (1+(Zab (d.drop 1)).2+(Zab (d.drop (1+(Zab (d.drop 1)).2))).2)=d.drop (1+(Zab (d.drop 1)).2):=by
      rw[t2]
      exact ZcM _ _ _
     have g1:Lib.uvarint 3++d.drop (1+(Zab (d.drop 1)).2)=d.drop 1:=by
      rw[<-hv,t1]
      exact ZcM _ _ _
     rw[g3,g2,g1]
     have h00:(d.getD 0 0).toNat=115:=Decidable.not_not.1 (fun e=>h0 (.inr e))
     have h01:¬ d.length<1:=fun e=>h0 (.inl e)
     cases d with
     | nil=>exact absurd (by decide) h01
     | cons c r=>
      have:c=115:=by
       apply UInt8.toNat_inj.1
       simpa using h00
      rw[this]
      rfl
theorem Ztv {b:List UInt8} (h:(Zqv b).2=0):Zgm (Zqv b).1∧ZxJ (Zqv b).1=b:=by
 unfold Zqv at h ⊢
 by_cases hw:(Zao b).2.2=0
 case neg=>
  rw[if_pos hw] at h
  exact absurd h (by show((Zao b).2.2:Int)≠0;omega)
 rw[if_neg (Decidable.not_not.2 hw)] at h ⊢
 obtain⟨hb,hlen⟩:=Zic _ b zL hw
 generalize (Zao b).1=L at *
 unfold Zmn at h ⊢
 cases L with
 | nil=>exact absurd h (by decide)
 | cons d P=>
  simp only at h ⊢
  split at h
  ·rename_i e;exact absurd h e
  rename_i h1
  rw[if_neg h1]
  split at h
  ·exact absurd h (by decide)
  rename_i h2
  rw[if_neg h2]
  split at h
  ·exact absurd h (by decide)
  rename_i h3
  rw[if_neg h3]
  split at h
  ·exact absurd h (by decide)
  rename_i h4
  rw[if_neg h4]
  split at h
  ·rename_i e;exact absurd h e
  rename_i h5
  rw[if_neg h5]
  split at h
  ·rename_i h6
   rw[if_pos h6]
   have hm:=ZqB (Decidable.not_not.1 h1) (Decidable.not_not.1 h2) (Decidable.not_not.1 h4)
   have hr:=ZqA (Decidable.not_not.1 h5)
   have hp:=ZfI P (Decidable.not_not.1 h3)
   refine⟨h6,?_⟩
   have hwn:Zba ⟨((ZbT d).1:Nat),(ZbQ P.flatten).1.st,(ZbQ P.flatten).1.tab⟩=P.flatten:=hr
   unfold ZxJ ZdY
   rw[hwn,hp]
   show Zae (Zid (((ZbT d).1:Nat):Int).toNat P.flatten::P)=b
   rw[Int.toNat_natCast,<-hm.1]
   exact hb
  ·exact absurd h (by decide)
def Zeq:Int->List Pce->Int->Prop
 | i,[],j=>i=j
 | i,p::t,j=>p.first=i∧i<=p.stop∧Zeq p.stop t j
theorem ZfK:∀ {l:List Pce} {i j:Int},Zeq i l j->i<=j
 | [],_,_,h=>Int.le_of_eq h
 | _::_,_,_,h=>by
  have:=ZfK h.2.2
  have:=h.2.1
  omega
theorem ZeP:∀ {l:List Pce} {i j:Int},Zeq i l j->∀ p ∈ l,i<=p.first∧p.first<=p.stop∧p.stop<=j
 | q::t,i,j,h,p,hp=>by
  obtain⟨h1,h2,h3⟩:=h
  rcases List.mem_cons.1 hp with rfl | hp
  ·have:=ZfK h3
   omega
  ·have:=ZeP h3 p hp
   omega
theorem Zdc:∀ {a b:List Pce} {i j:Int},Zeq i (a++b) j↔∃ k,Zeq i a k∧Zeq k b j
 | [],b,i,j=>by
  constructor
  ·intro h
   exact⟨i,rfl,h⟩
  ·rintro⟨k,h1,h2⟩
   have e:i=k:=h1
   rw[e]
   exact h2
 | p::a,b,i,j=>by
  constructor
  ·rintro⟨h1,h2,h3⟩
   obtain⟨k,h4,h5⟩:=Zdc.1 h3
   exact⟨k,⟨h1,h2,h4⟩,h5⟩
  ·rintro⟨k,⟨h1,h2,h4⟩,h5⟩
   exact⟨h1,h2,Zdc.2 ⟨k,h4,h5⟩⟩
theorem Zhq (l:List Pce) (p:Pce) (n:Nat):ZbW (l++[p]) n=l++[⟨p.name,p.first,p.stop+n⟩]:=by
 unfold ZbW
 have e:(l++[p]).length-1=l.length:=by simp
 rw[e]
 have e2:(l++[p]).getD l.length Zcc=p:=by simp[List.getD]
 rw[e2,List.set_append_right _ _ zL]
 simp
theorem ZcN (l:List Pce) (n:Nat):(ZbW l n).length=l.length:=by simp[ZbW]
theorem Znt {α:Type} {l:List α} (h:l.length≠0):∃ a x,l=a++[x]:=by
 have hne:l≠[]:=fun e=>h (by rw[e];rfl)
 exact⟨l.dropLast,l.getLast hne,(List.dropLast_concat_getLast hne).symm⟩
theorem ZqC {l:List Pce} {i j:Int} {n:Nat} (h:Zeq i l j) (h0:l.length≠0):Zeq i (ZbW l n) (j+n):=by
 obtain⟨a,p,rfl⟩:=Znt h0
 rw[Zhq,Zdc]
 obtain⟨k,h1,h2,h3,h4⟩:=Zdc.1 h
 refine⟨k,h1,h2,?_,?_⟩
 ·show k<=p.stop+n
  omega
 ·show p.stop+n=j+n
  have e:p.stop=j:=h4
  rw[e]
theorem ZqD {l:List Pce} {i j:Int} (h:Zeq i l j) (name:Int):Zeq i (l++[⟨name,j,j⟩]) j:=Zdc.2 ⟨j,h,rfl,Int.le_refl _,rfl⟩
theorem Zgr (l:List Pce) (n:Nat):(ZbW l n).map Pce.name=l.map Pce.name:=by
 by_cases h:l.length=0
 ·rw[List.eq_nil_of_length_eq_zero h]
  rfl
 ·obtain⟨a,p,rfl⟩:=Znt h
  rw[Zhq]
  simp
theorem Zsx (cur base:Int):∀ (l:List Pce) (i j:Int),Zeq i l j->(∀ p ∈ l.dropLast,p.name≠cur)->i<=base->
 (∃ a,a++l.filter (fun p=>!(decide (p.stop<=base) && decide (p.name≠cur)))=l∧(∀ p ∈ a,p.stop<=base∧p.name≠cur))∧ZbI (l.filter (fun p=>!(decide (p.stop<=base) && decide (p.name≠cur)))) base<=base
 | [],i,j,_,_,_=>⟨⟨[],rfl,fun p hp=>by cases hp⟩,Int.le_refl _⟩
 | p::t,i,j,h,hc,hi=>by
  obtain⟨h1,h2,h3⟩:=h
  by_cases hg:p.stop<=base∧p.name≠cur
  ·have e:(p::t).filter (fun p=>!(decide (p.stop<=base) && decide (p.name≠cur)))=t.filter (fun p=>!(decide (p.stop<=base) && decide (p.name≠cur))):=by
    rw[List.filter_cons,if_neg (by simp[hg.1,hg.2])]
   rw[e]
   obtain⟨⟨a,ha,hga⟩,hl⟩:=Zsx cur base t p.stop j h3 (fun q hq=>hc q (by
    cases t with
    | nil=>cases hq
    | cons x t=>rw[List.dropLast_cons_cons];exact List.mem_cons_of_mem _ hq)) hg.1
   refine⟨⟨p::a,by rw[List.cons_append,ha],fun q hq=>?_⟩,hl⟩
   rcases List.mem_cons.1 hq with rfl | hq
   ·exact hg
   ·exact hga q hq
  ·have e:(p::t).filter (fun p=>!(decide (p.stop<=base) && decide (p.name≠cur)))=p::t:=by
    rw[List.filter_eq_self]
    intro q hq
    rcases List.mem_cons.1 hq with rfl | hq
    ·simp only [Bool.not_eq_true',Bool.and_eq_false_imp,decide_eq_true_eq,decide_eq_false_iff_not]
     intro h4
     exact fun h5=>hg ⟨h4,h5⟩
    ·have ht:t≠[]:=fun e=>by rw[e] at hq;cases hq
     have hp:p.name≠cur:=hc p (by
      cases t with
      | nil=>exact absurd rfl ht
      | cons x t=>rw[List.dropLast_cons_cons];exact List.mem_cons_self)
     have h5:¬ p.stop<=base:=fun h6=>hg ⟨h6,hp⟩
     have h7:=ZeP h3 q hq
     simp only [Bool.not_eq_true',Bool.and_eq_false_imp,decide_eq_true_eq,decide_eq_false_iff_not]
     intro h8
     omega
   rw[e]
   refine⟨⟨[],rfl,(fun q hq=>by cases hq)⟩,?_⟩
   show(if(p::t).length=0 then base else p.first)<=base
   rw[if_neg (by simp),h1]
   exact hi
structure OkG (b:Lgb):Prop where
 f0:0<=b.first
 fits:∀ r ∈ b.recs,Zaz r
 ch:Zeq b.first b.pcs b.next
 rc:ZaZ b.first b.recs
 top:b.next<=4611686018427387904
theorem Zgc:∀ {a b:List Rec} {i:Int},ZaZ i (a++b)↔ZaZ i a∧ZaZ (i+a.length) b
 | [],b,i=>by simp[ZaZ]
 | r::a,b,i=>by
  have e:i+1+(a.length:Int)=i+(((r::a).length:Nat):Int):=by rw[List.length_cons];omega
  rw[List.cons_append,<-e]
  show(r.idx=i∧ZaZ (i+1) (a++b))↔(r.idx=i∧ZaZ (i+1) a)∧ZaZ (i+1+(a.length:Int)) b
  rw[Zgc,and_assoc]
theorem ZqE {l:List Rec} {i:Int} (h:ZaZ i l) (k:Nat) (hk:k<=l.length):ZaZ (i+k) (l.drop k):=by
 rw[<-List.take_append_drop k l] at h
 have:=(Zgc.1 h).2
 rwa [List.length_take,Nat.min_eq_left hk] at this
theorem Zsy (i:Int) (h0:0<=i) (h1:i<=4611686018427387904):OkG ⟨i,[],[]⟩:=by
 have e:(⟨i,[],[]⟩:Lgb).next=i:=by simp[Lgb.next]
 exact⟨h0,(fun r hr=>by cases hr),by rw[e];exact rfl,trivial,by rw[e];exact h1⟩
theorem Lgb.start_next (b:Lgb) (n f:Int) (h:b.pcs.length=0->b.recs=[]) (hf:b.pcs.length=0∨f=b.next):(b.start n f).next=f:=by
 unfold Lgb.start Lgb.next
 by_cases h0:b.pcs.length=0
 ·rw[if_pos h0,h h0]
  simp
 ·rw[if_neg h0]
  rcases hf with hf | hf
  ·exact absurd hf h0
  ·rw[hf]
   rfl
theorem OkG.empty {b:Lgb} (h:OkG b) (h0:b.pcs.length=0):b.recs=[]:=by
 have h1:=h.ch
 rw[List.eq_nil_of_length_eq_zero h0] at h1
 have h2:b.first=b.next:=h1
 unfold Lgb.next at h2
 exact List.eq_nil_of_length_eq_zero (by omega)
theorem OkG.start {b:Lgb} (h:OkG b) (n f:Int) (h0:0<=f) (h1:f<=4611686018427387904) (hf:b.pcs.length=0∨f=b.next):OkG (b.start n f):=by
 have hn:=b.start_next n f h.empty hf
 by_cases he:b.pcs.length=0
 ·have e:b.start n f=⟨f,[],[⟨n,f,f⟩]⟩:=by
   unfold Lgb.start
   rw[if_pos he,h.empty he,List.eq_nil_of_length_eq_zero he]
   rfl
  rw[e] at hn ⊢
  exact⟨h0,(fun r hr=>by cases hr),by rw[hn];exact⟨rfl,Int.le_refl _,rfl⟩,trivial,by rw[hn];exact h1⟩
 ·have hfn:f=b.next:=hf.resolve_left he
  have e:b.start n f=⟨b.first,b.recs,b.pcs++[⟨n,f,f⟩]⟩:=by
   unfold Lgb.start
   rw[if_neg he]
  rw[e] at hn ⊢
  refine⟨h.f0,h.fits,?_,h.rc,by rw[hn];exact h1⟩
  rw[hn,hfn]
  exact ZqD h.ch n
theorem Lgb.add_next (b:Lgb) (l:List Rec):(b.add l).next=b.next+l.length:=by
 unfold Lgb.add Lgb.next
 simp only [List.length_append]
 omega
theorem OkG.add {b:Lgb} (h:OkG b) (l:List Rec) (h0:b.pcs.length≠0) (hf:∀ r ∈ l,Zaz r) (hc:ZaZ b.next l) (ht:b.next+l.length<=4611686018427387904):OkG (b.add l):=by
 refine⟨h.f0,fun r hr=>?_,?_,?_,by rw[b.add_next];exact ht⟩
 ·rcases List.mem_append.1 hr with hr | hr
  ·exact h.fits r hr
  ·exact hf r hr
 ·rw[b.add_next]
  exact ZqC h.ch h0
 ·exact Zgc.2 ⟨h.rc,hc⟩
theorem Zij:∀ {l:List Rec} {i:Int},ZaZ i l->(∀ r ∈ l,Zaz r)->l≠[]->i+l.length<=4611686018427387904
 | [],_,_,_,h=>absurd rfl h
 | [r],i,h,hf,_=>by
  have h1:r.idx=i:=h.1
  have h2:=(hf r List.mem_cons_self).2.2.1
  simp only [List.length_singleton]
  omega
 | r::q::t,i,h,hf,_=>by
  have:=Zij (l:=q::t) h.2 (fun x hx=>hf x (List.mem_cons_of_mem _ hx)) (by simp)
  simp only [List.length_cons] at this ⊢
  omega
theorem OkG.letGo {b:Lgb} (h:OkG b) {cur base:Int} (hcur:∀ p ∈ b.pcs.dropLast,p.name≠cur) (h1:b.first<=base) (h2:base<=b.next):
 OkG (b.letGo (b.pcs.filter fun p=>!(decide (p.stop<=base) && decide (p.name≠cur))) base)∧(b.letGo (b.pcs.filter fun p=>!(decide (p.stop<=base) && decide (p.name≠cur))) base).first<=base∧
  (b.letGo (b.pcs.filter fun p=>!(decide (p.stop<=base) && decide (p.name≠cur))) base).next=b.next∧b.first<=(b.letGo (b.pcs.filter fun p=>!(decide (p.stop<=base) && decide (p.name≠cur))) base).first:=by
 obtain⟨⟨a,ha,hga⟩,hl⟩:=Zsx cur base b.pcs b.first b.next h.ch hcur h1
 generalize b.pcs.filter (fun p=>!(decide (p.stop<=base) && decide (p.name≠cur)))=left at ha hl ⊢
 have hch:=h.ch
 rw[<-ha] at hch
 obtain⟨k,hk1,hk2⟩:=Zdc.1 hch
 have hlo:=ZfK hk1
 have hhi:=ZfK hk2
 have hat:Zeq (ZbI left base) left b.next∧b.first<=ZbI left base∧ZbI left base<=b.next:=by
  unfold ZbI
  cases left with
  | nil=>
   rw[if_pos (show([]:List Pce).length=0 from rfl)]
   have e:k=b.next:=hk2
   have hkb:k<=base:=by
    by_cases h0:a.length=0
    ·rw[List.eq_nil_of_length_eq_zero h0] at hk1
     have:b.first=k:=hk1
     omega
    ·obtain⟨a',p,rfl⟩:=Znt h0
     obtain⟨m,_,_,_,h5⟩:=Zdc.1 hk1
     have e5:p.stop=k:=h5
     have:=(hga p (by simp)).1
     omega
   refine⟨?_,by omega,by omega⟩
   show base=b.next
   omega
  | cons p t=>
   rw[if_neg (by simp)]
   show Zeq p.first (p::t) b.next∧b.first<=p.first∧p.first<=b.next
   obtain⟨g1,g2,g3⟩:=hk2
   exact⟨⟨rfl,by omega,g3⟩,by omega,by omega⟩
 obtain⟨g1,g2,g3⟩:=hat
 have hlen:(ZbI left base-b.first).toNat<=b.recs.length:=by unfold Lgb.next at g3;omega
 have hnx:(b.letGo left base).next=b.next:=by
  unfold Lgb.letGo Lgb.next
  simp only [List.length_drop]
  omega
 refine⟨⟨?_,fun r hr=>h.fits r (List.mem_of_mem_drop hr),?_,?_,by rw[hnx];exact h.top⟩,hl,hnx,g2⟩
 ·show 0<=ZbI left base
  have:=h.f0
  omega
 ·rw[hnx]
  exact g1
 ·have:=ZqE h.rc (ZbI left base-b.first).toNat hlen
  have e:b.first+(((ZbI left base-b.first).toNat:Nat):Int)=ZbI left base:=by omega
  rw[e] at this
  exact this
open Go.RowKit Go.Shelf
def Zyd:Go.Shelf.Ren:=⟨fun | 5=>146 | 7=>193 | n=>n,fun | 23=>66 | 25=>3 | 3=>116 | 4=>4 | 20=>20 | n=>n,fun | n=>n⟩
theorem layW:Go.Proofs.SlLaysW.n5 Tryz.prog Zyd:={
 mixed:=by kernel_rfl
 f5:=⟨Tryz.f146.name,by decide,Tryz.func146.trans (congrArg some (by kernel_rfl))⟩
 f7:=Tryz.func193.trans (congrArg some (by kernel_rfl))
 t4:=Tryz.underlying4
 a4:=Tryz.isAgg4
 z4:=Tryz.sizeOf4
 v4:=Tryz.zeroValue4
 t20:=Tryz.underlying20
 a20:=Tryz.isAgg20
 z20:=Tryz.sizeOf20
 v20:=Tryz.zeroValue20
 t23:=Tryz.underlying66
 a23:=Tryz.isAgg66
 z23:=Tryz.sizeOf66
 v23:=Tryz.zeroValue66 }
def Zye:Go.Shelf.Ren:=⟨fun | 189=>68 | 125=>110 | 257=>109 | 128=>156 | 129=>157 | 294=>147 | 295=>148 | 296=>149 | 297=>150 | 298=>151 | 299=>152 | 216=>153 | 300=>154 | 301=>155 | 328=>194 | 329=>195 | 330=>196 | 331=>197 | 332=>198 | 215=>199 | 343=>217 | n=>n,fun | 28=>23 | 3=>3 | 46=>158 | 0=>0 | 51=>146 | 53=>203 | 4=>4 | 183=>195 | 182=>194 | 131=>171 | 5=>5 | 9=>9 | 218=>240 | 222=>209 | 228=>269 | 229=>248 | n=>n,fun | n=>n⟩
theorem ZBs:Go.Proofs.Lays.n189 Tryz.prog Zye:={
 mixed:=by kernel_rfl
 f125:=Tryz.func110.trans (congrArg some (by kernel_rfl))
 f128:=Tryz.func156.trans (congrArg some (by kernel_rfl))
 f129:=Tryz.func157.trans (congrArg some (by kernel_rfl))
 f189:=Tryz.func68.trans (congrArg some (by kernel_rfl))
 f215:=Tryz.func199.trans (congrArg some (by kernel_rfl))
 f216:=Tryz.func153.trans (congrArg some (by kernel_rfl))
 f257:=Tryz.func109.trans (congrArg some (by kernel_rfl))
 f294:=Tryz.func147.trans (congrArg some (by kernel_rfl))
 f295:=Tryz.func148.trans (congrArg some (by kernel_rfl))
 f296:=Tryz.func149.trans (congrArg some (by kernel_rfl))
 f297:=Tryz.func150.trans (congrArg some (by kernel_rfl))
 f298:=Tryz.func151.trans (congrArg some (by kernel_rfl))
 f299:=Tryz.func152.trans (congrArg some (by kernel_rfl))
 f300:=Tryz.func154.trans (congrArg some (by kernel_rfl))
 f301:=Tryz.func155.trans (congrArg some (by kernel_rfl))
 f328:=Tryz.func194.trans (congrArg some (by kernel_rfl))
 f329:=Tryz.func195.trans (congrArg some (by kernel_rfl))
 f330:=Tryz.func196.trans (congrArg some (by kernel_rfl))
 f331:=Tryz.func197.trans (congrArg some (by kernel_rfl))
 f332:=Tryz.func198.trans (congrArg some (by kernel_rfl))
 f343:=Tryz.func217.trans (congrArg some (by kernel_rfl))
 t0:=Tryz.underlying0
 a0:=Tryz.isAgg0
 z0:=Tryz.sizeOf0
 v0:=Tryz.zeroValue0
 t3:=Tryz.underlying3
 a3:=Tryz.isAgg3
 z3:=Tryz.sizeOf3
 v3:=Tryz.zeroValue3
 t4:=Tryz.underlying4
 a4:=Tryz.isAgg4
 z4:=Tryz.sizeOf4
 v4:=Tryz.zeroValue4
 t5:=Tryz.underlying5
 a5:=Tryz.isAgg5
 z5:=Tryz.sizeOf5
 v5:=Tryz.zeroValue5
 t9:=Tryz.underlying9
 a9:=Tryz.isAgg9
 z9:=Tryz.sizeOf9
 v9:=Tryz.zeroValue9
 t28:=Tryz.underlying23
 a28:=Tryz.isAgg23
 z28:=Tryz.sizeOf23
 v28:=Tryz.zeroValue23
 t46:=Tryz.underlying158
 a46:=Tryz.isAgg158
 z46:=Tryz.sizeOf158
 v46:=Tryz.zeroValue158
 t51:=Tryz.underlying146
 a51:=Tryz.isAgg146
 z51:=Tryz.sizeOf146
 v51:=Tryz.zeroValue146
 t53:=Tryz.underlying203
 a53:=Tryz.isAgg203
 z53:=Tryz.sizeOf203
 v53:=Tryz.zeroValue203
 t131:=Tryz.underlying171
 a131:=Tryz.isAgg171
 z131:=Tryz.sizeOf171
 v131:=Tryz.zeroValue171
 t182:=Tryz.underlying194
 a182:=Tryz.isAgg194
 z182:=Tryz.sizeOf194
 v182:=Tryz.zeroValue194
 t183:=Tryz.underlying195
 a183:=Tryz.isAgg195
 z183:=Tryz.sizeOf195
 v183:=Tryz.zeroValue195
 t218:=Tryz.underlying240
 a218:=Tryz.isAgg240
 z218:=Tryz.sizeOf240
 v218:=Tryz.zeroValue240
 t222:=Tryz.underlying209
 a222:=Tryz.isAgg209
 z222:=Tryz.sizeOf209
 v222:=Tryz.zeroValue209
 t228:=Tryz.underlying269
 a228:=Tryz.isAgg269
 z228:=Tryz.sizeOf269
 v228:=Tryz.zeroValue269
 t229:=Tryz.underlying248
 a229:=Tryz.isAgg248
 z229:=Tryz.sizeOf248
 v229:=Tryz.zeroValue248 }
open Go.RowKit Go.Maps Go.Shelf
open Go.ChangeMaps Go.MapKept
open Go.WideElems (Fit rd rg pl rd_val elemAt)
theorem Zke:Keyed Tryz.prog 3:=int_keyed Tryz.underlying3
theorem ZzL (w:World):(zeroValue 116).run Tryz.prog w=.ok (.pointer none) w:=by kernel_rfl
theorem ZzM {n:Int} (h:I64 n):(Lit.int .i64 n).wf=true:=WalkArith.wf_i64 (by obtain⟨h0,h1⟩:=h;omega)
def Zeb (v:Value):Option (DataW Unit × List MemPlace):=
 match v with
 | .pointer (some ⟨b,0,none⟩)=>some (.lit (.int .i64 (b:Int)),[])
 | _=>none
theorem Ztw (b:Nat):Zeb (.pointer (some ⟨b,0,none⟩))=some (.lit (.int .i64 (b:Int)),[]):=rfl
theorem Zkf {v:Value} {z:DataW Unit × List MemPlace} (h:Zeb v=some z):∃ b:Nat,v=.pointer (some ⟨b,0,none⟩)∧z=(.lit (.int .i64 (b:Int)),[]):=by
 unfold Zeb at h
 split at h
 ·cases h
  exact⟨_,rfl,rfl⟩
 ·cases h
def ZBt (z:DataW Unit):Option Nat->DataW Unit
 | some x=>.lit (.int .i64 (x:Int))
 | none=>z
def ZvF (D:DataW Unit) (f:Int->Option Nat):Prop:=
 ∀ p,I64 p->∀ z,D.atKey (.int .i64 p) z=ZBt z (f p)
def Zer (w:World) (b n:Nat) (f:Int->Option Nat):Prop:=
 ∃ D:DataW Unit,w.ownsMap Tryz.prog 3 Zeb b n D∧ZvF D f
def Ztx:Option Nat->Value
 | some x=>.pointer (some ⟨x,0,none⟩)
 | none=>.pointer none
theorem ZvF.has {D:DataW Unit} {f:Int->Option Nat} (h:ZvF D f) {p:Int} (hp:I64 p):Maps.has D (.int .i64 p)=(f p).isSome:=by
 cases e:f p with
 | none=>
  refine has_false_of_atKey fun z=>?_
  rw[h p hp z,e]
  rfl
 | some x=>
  refine has_true_of_atKey (y:=.lit (.int .i64 (x:Int))) fun z=>?_
  rw[h p hp z,e]
  rfl
theorem Zer.made (w:World):Zer (w.alloc (.map #[] 0)) w.heap.size 0 (fun _=>none):=
 ⟨.map [],World.ownsMap_made _ _ _ _,fun _ _ _=>rfl⟩
theorem Zer.lt {w:World} {b n:Nat} {f:Int->Option Nat} (h:Zer w b n f):b<w.heap.size:=by
 obtain⟨D,h1,_⟩:=h
 exact h1.lt
theorem Zer.mono {w:World} {b n n':Nat} {f:Int->Option Nat} (h:Zer w b n f) (hn:n<=n'):Zer w b n' f:=by
 obtain⟨D,h1,h2⟩:=h
 exact⟨D,h1.mono hn,h2⟩
theorem Zer.keep {w w':World} {b n:Nat} {f:Int->Option Nat} (h:Zer w b n f) (hk:w'.heap[b]?=w.heap[b]?):Zer w' b n f:=by
 obtain⟨D,⟨es,clock,hb,r⟩,h2⟩:=h
 exact⟨D,⟨es,clock,hk.trans hb,r⟩,h2⟩
theorem Zer.fun {w:World} {b n:Nat} {f g:Int->Option Nat} (h:Zer w b n f) (e:∀ p,I64 p->f p=g p):Zer w b n g:=by
 obtain⟨D,h1,h2⟩:=h
 exact⟨D,h1,fun p hp z=>by rw[h2 p hp z,e p hp]⟩
theorem Zer.apart {w:World} {b n:Nat} {f:Int->Option Nat} (h:Zer w b n f) {cs:Array Value} {t:TypeId} {z:Nat × Nat} {g:Nat} (hg:w.heap[g]?=some (.cells cs t z)):g≠b:=by
 obtain⟨D,⟨es,clock,hb,_⟩,_⟩:=h
 intro e
 rw[e,hb] at hg
 cases hg
theorem Zzo {x:Nat} (h:∀ z:DataW Unit,DataW.lit (.int .i64 (x:Int))=z):False:=by
 have:=h (.map [])
 cases this
theorem Zyf {x y:Nat} (h:DataW.lit (H:=Unit) (.int .i64 (x:Int))=.lit (.int .i64 (y:Int))):x=y:=by
 simp only [DataW.lit.injEq,Lit.int.injEq,true_and] at h
 omega
theorem Zer.lookC {w:World} {b n:Nat} {f:Int->Option Nat} (h:Zer w b n f) {p:Int} (hp:I64 p) (c:Bool):(Instr.lookup 66 (.map (some b)) (.int .i64 p) c).run Tryz.prog w=.ok (if c then .tuple #[Ztx (f p),.bool (f p).isSome] else Ztx (f p)) w:=by
 obtain⟨D,⟨es,clock,hb,F,_,rfl⟩,h2⟩:=h
 rcases Maps.fit_look c Zke Tryz.underlying66 (ZzL w) hb F (keyOf_int_mk Tryz.underlying3 (ZzM hp)) with ⟨hrun,_,hat⟩ | ⟨e0,y,_,_,hrun,hRv,hat,_⟩
 ·have e:f p=none:=by
   cases e:f p with
   | none=>rfl
   | some x=>
    refine(Zzo (x:=x) fun z=>?_).elim
    rw[<-hat z,h2 p hp z,e]
    rfl
  rw[hrun,e]
  rfl
 ·obtain⟨x,hv,rfl⟩:=Zkf hRv
  have e:f p=some x:=by
   cases e:f p with
   | none=>
    refine(Zzo (x:=x) fun z=>?_).elim
    have h3:=hat z
    rw[h2 p hp z,e] at h3
    exact h3.symm
   | some x'=>
    have h3:=hat (.map [])
    rw[h2 p hp,e] at h3
    rw[Zyf h3]
  rw[hrun,e,hv]
  rfl
theorem Zer.look {w:World} {b n:Nat} {f:Int->Option Nat} (h:Zer w b n f) {p:Int} (hp:I64 p):(Instr.lookup 66 (.map (some b)) (.int .i64 p) true).run Tryz.prog w=.ok (.tuple #[Ztx (f p),.bool (f p).isSome]) w:=h.lookC hp true
theorem Zer.put {w:World} {b n:Nat} {f:Int->Option Nat} (h:Zer w b n f) {p:Int} (x:Nat) (hp:I64 p) (hn:n<=10000000):
 ∃ w',(Instr.mapUpdate 66 (.map (some b)) (.int .i64 p) (.pointer (some ⟨x,0,none⟩))).run Tryz.prog w=.ok () w'∧Zer w' b (n+1) (fun m=>if m=p then some x else f m)∧w.grownBy w' (some b):=by
 obtain⟨D,h1,h2⟩:=h
 have hm:IsMap D:=by obtain⟨es,clock,hb,F,hs,hD⟩:=h1;exact⟨_,hD⟩
 obtain⟨w',hrun,ho,hg⟩:=h1.update Zke Tryz.underlying66 (by unfold maxLen;omega) (keyOf_int_mk Tryz.underlying3 (ZzM hp)) (Ztw x)
 refine⟨w',hrun,⟨_,ho,fun q hq z=>?_⟩,hg⟩
 show _=ZBt z (if q=p then some x else f q)
 by_cases e:q=p
 ·rw[if_pos e,e,atKey_put_same hm (by first | exact trivial | simp[WideAt.IsKeyLit])]
  rfl
 ·rw[if_neg e,atKey_put_other (by intro h;injection h with _ h;exact e h),h2 q hq z]
theorem Zer.del {w:World} {b n:Nat} {f:Int->Option Nat} (h:Zer w b n f) {p:Int} (hp:I64 p) (ty:TypeId):
 ∃ w',(Builtin.delete_ #[66,3] ty #[.map (some b),.int .i64 p]).run Tryz.prog w=.ok (.tuple #[]) w'∧Zer w' b n (fun m=>if m=p then none else f m)∧w.grownBy w' (some b):=by
 obtain⟨D,⟨es,clock,hb,F,hs,rfl⟩,h2⟩:=h
 obtain⟨es',hrun,F',hs',hd,_⟩:=Maps.fit_drop (ty:=ty) Zke Tryz.underlying66 hb F (keyOf_int_mk Tryz.underlying3 (ZzM hp))
 refine⟨_,hrun,⟨_,⟨es',clock,heap_setBlock_same hb _,F',Nat.le_trans hs' hs,rfl⟩,fun q hq z=>?_⟩,⟨rfl,rfl,rfl,by simp[setBlock],fun i _ hi=>heap_setBlock_other hb _ (fun e=>hi (by rw[e]))⟩⟩
 rw[hd]
 show((DataW.map ((es.toList.map (rg Tryz.prog 3 Zeb)).foldr DataW.insert [])).del (.int .i64 p)).atKey (.int .i64 q) z=_
 show _=ZBt z (if q=p then none else f q)
 by_cases e:q=p
 ·rw[if_pos e,e,atKey_del_same]
  rfl
 ·rw[if_neg e,atKey_del_other (by intro h;injection h with _ h;exact e h),h2 q hq z]
theorem Zty {w:World} {b n:Nat} {f:Int->Option Nat} (h:Zer w b n f):
 Calls Tryz.prog 146 #[.map (some b)] w fun e w'=>e=.returned (.map (some w.heap.size))∧Zer w' w.heap.size n f∧w'.heap.size=w.heap.size+1∧Below w.heap.size w w':=by
 obtain⟨D,⟨es,clock,hb,r⟩,h2⟩:=h
 refine(AnyW.maps_Clone layW b es clock w hb).mono fun e w' ⟨he,hw⟩=>?_
 subst hw
 exact⟨he,⟨D,⟨es,clock,(MapKept.heap_alloc w _).1,r⟩,h2⟩,by simp,(Below.refl _ w).alloc zL _⟩
end Go.Proofs.YtfiffndhehkapaaGreatDoor
