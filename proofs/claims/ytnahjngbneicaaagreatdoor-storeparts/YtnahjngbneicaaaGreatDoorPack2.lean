import Derived.Lib.VarintMem
import Derived.Lib.Endian
import Derived.Test.YtnahjngbneicaaaGreatDoorPack1
import Derived.Shelf.SlMaps.Clone
import Derived.Shelf.SlMaps.Copy
import Derived.Shelf.Sort.Plain
import Derived.Shelf.Slices.In.SortNone
import Derived.Maps.OwnOps
import Derived.Maps.OwnSet
import Derived.Maps.Views
import Derived.Maps.RangeWalk
import Derived.Maps.Ext
namespace Go.Proofs.YtnahjngbneicaaaGreatDoor
set_option maxRecDepth 100000
def Zrm (x:Nat):Nat:=if x % 2=1 then x / 2 ^^^ 2197175160 else x / 2
def Zde:Nat->Nat->Nat
 | 0,x=>x
 | n+1,x=>Zde n (Zrm x)
def Zfv (c:Nat):Nat:=Zde 8 c
def ZfO (x c:Nat):Nat:=Zfv ((x ^^^ c) % 256) ^^^ x / 256
def ZdM:Nat->List UInt8->Nat
 | x,[]=>x
 | x,c::r=>ZdM (ZfO x c.toNat) r
def ZaH (sum:Nat) (l:List UInt8):Nat:=ZdM (sum ^^^ 4294967295) l ^^^ 4294967295
theorem ZvC (a b:Nat):(a ^^^ b) % 2=(a % 2+b % 2) % 2:=by
 have h:=@Nat.xor_mod_two_pow a b 1
 simp only [Nat.pow_one] at h
 rw[h]
 rcases Nat.mod_two_eq_zero_or_one a with ha | ha <;> rcases Nat.mod_two_eq_zero_or_one b with hb | hb <;> rw[ha,hb] <;> rfl
theorem ZvD (a b:Nat):(a ^^^ b) / 2=a / 2 ^^^ b / 2:=by
 have h:=@Nat.shiftRight_xor_distrib 1 a b
 simpa[Nat.shiftRight_eq_div_pow] using h
theorem ZoN (a b p:Nat):(a ^^^ p) ^^^ (b ^^^ p)=a ^^^ b:=by
 rw[Nat.xor_comm b p,<-Nat.xor_assoc,Nat.xor_assoc a p p,Nat.xor_self,Nat.xor_zero]
theorem ZvE (a b:Nat):Zrm (a ^^^ b)=Zrm a ^^^ Zrm b:=by
 unfold Zrm
 rw[ZvC,ZvD]
 rcases Nat.mod_two_eq_zero_or_one a with ha | ha <;> rcases Nat.mod_two_eq_zero_or_one b with hb | hb <;> simp only [ha,hb]
 ·rfl
 ·simp[Nat.xor_assoc]
 ·simp only [if_true,if_false,Nat.zero_ne_one]
  rw[Nat.xor_assoc,Nat.xor_assoc,Nat.xor_comm (b / 2)]
 ·simp[ZoN]
theorem ZmU:∀ (n a b:Nat),Zde n (a ^^^ b)=Zde n a ^^^ Zde n b
 | 0,_,_=>rfl
 | n+1,a,b=>by
  simp only [Zde]
  rw[ZvE,ZmU n]
theorem ZmV:∀ (m n x:Nat),Zde (m+n) x=Zde n (Zde m x)
 | 0,n,x=>by rw[Nat.zero_add];rfl
 | m+1,n,x=>by
  rw[Nat.add_right_comm]
  simp only [Zde]
  exact ZmV m n (Zrm x)
theorem Ztw (x:Nat):Zrm (2*x)=x:=by
 unfold Zrm
 rw[if_neg (by omega)]
 omega
theorem ZmW:∀ (n x:Nat),Zde n (2 ^ n*x)=x
 | 0,x=>by simp[Zde]
 | n+1,x=>by
  simp only [Zde]
  rw[Nat.pow_succ,Nat.mul_comm (2 ^ n) 2,Nat.mul_assoc,Ztw]
  exact ZmW n x
theorem Zxs {n x:Nat} (hn:32<=n) (h:x<2 ^ n):Zrm x<2 ^ n:=by
 unfold Zrm
 have h2:x / 2<2 ^ n:=by omega
 split
 ·refine Nat.xor_lt_two_pow h2 (Nat.lt_of_lt_of_le (by decide:2197175160<2 ^ 32) (Nat.pow_le_pow_right (by decide) hn))
 ·exact h2
theorem ZlK:∀ (k:Nat) {n x:Nat},32<=n->x<2 ^ n->Zde k x<2 ^ n
 | 0,_,_,_,h=>h
 | k+1,_,_,hn,h=>ZlK k hn (Zxs hn h)
theorem ZvF (z n:Nat):z=z % 2 ^ n ^^^ 2 ^ n*(z / 2 ^ n):=by
 apply Nat.eq_of_testBit_eq
 intro i
 rw[Nat.testBit_xor,Nat.testBit_mod_two_pow,Nat.testBit_two_pow_mul]
 by_cases h:i<n
 ·have h2:¬ n<=i:=by omega
  simp[h,h2]
 ·have h2:n<=i:=by omega
  simp only [h,h2,decide_false,decide_true,Bool.false_and,Bool.true_and,Bool.false_xor,Nat.testBit_div_two_pow]
  rw[Nat.sub_add_cancel h2]
theorem ZlL (x c:Nat) (hc:c<256):ZfO x c=Zde 8 (x ^^^ c):=by
 have e:(x ^^^ c) / 256=x / 256:=by
  have h:=@Nat.shiftRight_xor_distrib 8 x c
  simp only [Nat.shiftRight_eq_div_pow] at h
  have h0:c / 2 ^ 8=0:=by omega
  rw[h0,Nat.xor_zero] at h
  exact h
 have h:=ZvF (x ^^^ c) 8
 unfold ZfO Zfv
 conv=>rhs;rw[h]
 rw[ZmU,ZmW]
 show _=Zde 8 ((x ^^^ c) % 256) ^^^ (x ^^^ c) / 256
 rw[e]
theorem Zgs:∀ (a b:List UInt8) (x:Nat),ZdM x (a++b)=ZdM (ZdM x a) b
 | [],_,_=>rfl
 | c::r,b,x=>by
  rw[List.cons_append,ZdM,ZdM]
  exact Zgs r b _
theorem Zrn {x c:Nat} (hx:x<4294967296) (hc:c<256):ZfO x c<4294967296:=by
 rw[ZlL x c hc]
 have h:x ^^^ c<2 ^ 32:=Nat.xor_lt_two_pow (by omega) (by omega)
 have:=ZlK 8 (Nat.le_refl 32) h
 omega
theorem ZiO:∀ (l:List UInt8) {x:Nat},x<4294967296->ZdM x l<4294967296
 | [],_,h=>h
 | c::r,x,h=>ZiO r (Zrn h (by have:=c.toNat_lt;omega))
theorem Ztx {x:Nat} (h:x<4294967296):x ^^^ 4294967295<4294967296:=by
 have:=Nat.xor_lt_two_pow (n:=32) (by omega:x<2 ^ 32) (by decide:4294967295<2 ^ 32)
 omega
theorem Zro {sum:Nat} (l:List UInt8) (h:sum<4294967296):ZaH sum l<4294967296:=Ztx (ZiO l (Ztx h))
theorem ZiP:∀ l:List UInt8,Lib.leNat l<2 ^ (8*l.length)
 | []=>by simp[Lib.leNat]
 | c::r=>by
  have h:=ZiP r
  have hc:=c.toNat_lt
  have e:8*(c::r).length=8*r.length+8:=by simp;omega
  simp only [Lib.leNat]
  rw[e,Nat.pow_add]
  omega
def Zbr (l:List UInt8):List UInt8:=Lib.uvarint l.length++l
def Zad (l:List UInt8):List UInt8:=Zbr l++Lib.leBytes 4 (ZaH 0 (Zbr l))
def Zcz (l:List UInt8):Prop:=l.length<10∧∀ j,j<l.length->128<=(l.getD j 0).toNat
instance (l:List UInt8):Decidable (Zcz l):=by unfold Zcz;infer_instance
def ZbC (l:List UInt8):List UInt8 × Nat × Nat:=
 if Zcz l then([],0,2) else
 if(Zab l).2=0 then([],0,3) else
 if 1048576<(Zab l).1 then([],0,5) else
 if l.length<(Zab l).2+4+(Zab l).1 then([],0,2) else
 if Lib.leNat ((l.drop ((Zab l).2+(Zab l).1)).take 4)≠ZaH 0 (l.take ((Zab l).2+(Zab l).1)) then([],0,4) else
 ((l.drop (Zab l).2).take (Zab l).1,(Zab l).2+4+(Zab l).1,0)
theorem Zty (l:List UInt8):ZaH 0 l<4294967296:=Zro l (by decide)
theorem Zap (l:List UInt8):(Zad l).length=(Lib.uvarint l.length).length+l.length+4:=by
 simp[Zad,Zbr,Lib.leBytes_length]
 omega
theorem Zys {n:Nat} (h:n<=1048576):(Lib.uvarint n).length<=3:=Lib.uvarint_length 2 n (Nat.lt_of_le_of_lt h (by decide))
theorem ZqF {l:List UInt8} (h:Zcz l):Zab l=(0,0):=by
 have e:Zaf l=(0,0):=by
  unfold Zaf
  rw[ZlE 10 l (fun j _ hj=>h.2 j hj)]
 unfold Zab
 rw[e]
 rfl
theorem ZkR (x t:List UInt8) (h:x.length<=1048576):Zab (Lib.uvarint x.length++t)=(x.length,(Lib.uvarint x.length).length):=ZaL _ _ (by omega)
theorem Zer:∀ (l:List UInt8),Lib.leBytes l.length (Lib.leNat l)=l
 | []=>rfl
 | c::r=>by
  have ih:=Zer r
  have hc:=c.toNat_lt
  have e1:(c.toNat+256*Lib.leNat r) % 256=c.toNat:=by omega
  have e2:(c.toNat+256*Lib.leNat r) / 256=Lib.leNat r:=by omega
  simp only [List.length_cons,Lib.leNat,Lib.leBytes,e1,e2,ih]
  simp
theorem Zrp (x t:List UInt8) (h:x.length<=1048576):ZbC (Zad x++t)=(x,(Zad x).length,0):=by
 have hd:Zab (Zad x++t)=(x.length,(Lib.uvarint x.length).length):=by
  have e:Zad x++t=Lib.uvarint x.length++(x++Lib.leBytes 4 (ZaH 0 (Zbr x))++t):=by simp[Zad,Zbr]
  rw[e]
  exact ZkR x _ h
 have hp:=Lib.uvarint_pos x.length
 have ho:¬ Zcz (Zad x++t):=fun ho=>by
  have:=ZqF ho
  rw[hd,Prod.mk.injEq] at this
  omega
 have hl:(Zad x++t).length=(Lib.uvarint x.length).length+x.length+4+t.length:=by rw[List.length_append,Zap]
 have hh:(Zbr x).length=(Lib.uvarint x.length).length+x.length:=by simp[Zbr]
 have e1:(Zad x++t).take ((Lib.uvarint x.length).length+x.length)=Zbr x:=by
  rw[<-hh,Zad,List.append_assoc,List.take_left]
 have e2:((Zad x++t).drop ((Lib.uvarint x.length).length+x.length)).take 4=Lib.leBytes 4 (ZaH 0 (Zbr x)):=by
  rw[<-hh,Zad,List.append_assoc,List.drop_left,List.take_append_of_le_length (by rw[Lib.leBytes_length];exact Nat.le_refl _),List.take_of_length_le (by rw[Lib.leBytes_length];exact Nat.le_refl _)]
 have e3:((Zad x++t).drop (Lib.uvarint x.length).length).take x.length=x:=by
  have e:Zad x++t=Lib.uvarint x.length++(x++(Lib.leBytes 4 (ZaH 0 (Zbr x))++t)):=by simp[Zad,Zbr]
  rw[e,List.drop_left,List.take_left]
 unfold ZbC
 rw[if_neg ho]
 simp only [hd]
 rw[if_neg (by omega),if_neg (by omega),if_neg (by omega),if_neg (by rw[e1,e2,Lib.leNat_leBytes 4 _ (Zty _)];simp),e3,Zap]
 congr 2
 omega
theorem ZlM {l:List UInt8} (h:(ZbC l).2.2=0):
 (ZbC l).1.length<=1048576∧(ZbC l).2.1=(Zad (ZbC l).1).length∧(ZbC l).2.1<=l.length∧l.take (ZbC l).2.1=Zad (ZbC l).1:=by
 unfold ZbC at h ⊢
 by_cases c1:Zcz l
 ·rw[if_pos c1] at h;simp at h
 rw[if_neg c1] at h ⊢
 by_cases c2:(Zab l).2=0
 ·rw[if_pos c2] at h;simp at h
 rw[if_neg c2] at h ⊢
 by_cases c3:1048576<(Zab l).1
 ·rw[if_pos c3] at h;simp at h
 rw[if_neg c3] at h ⊢
 by_cases c4:l.length<(Zab l).2+4+(Zab l).1
 ·rw[if_pos c4] at h;simp at h
 rw[if_neg c4] at h ⊢
 by_cases c5:Lib.leNat ((l.drop ((Zab l).2+(Zab l).1)).take 4)≠ZaH 0 (l.take ((Zab l).2+(Zab l).1))
 ·rw[if_pos c5] at h;simp at h
 rw[if_neg c5]
 clear h
 rcases Zau l with hc | ⟨h1,h2,h3,h4⟩
 ·rw[hc] at c2;simp at c2
 generalize (Zab l).1=n at *
 generalize (Zab l).2=k at *
 have hx:((l.drop k).take n).length=n:=by simp;omega
 have hk:(Lib.uvarint n).length=k:=by rw[<-h4];simp;omega
 have hhead:Zbr ((l.drop k).take n)=l.take (k+n):=by
  unfold Zbr
  rw[hx,<-h4,List.take_add]
 have htail:(l.drop (k+n)).take 4=Lib.leBytes 4 (ZaH 0 (l.take (k+n))):=by
  have e:=Zer ((l.drop (k+n)).take 4)
  have e4:((l.drop (k+n)).take 4).length=4:=by simp;omega
  rw[e4] at e
  rw[<-Decidable.not_not.1 c5,e]
 refine⟨by show((l.drop k).take n).length<=_;omega,?_,by show k+4+n<=_;omega,?_⟩
 ·show k+4+n=_
  rw[Zap,hx,hk]
  omega
 ·show l.take (k+4+n)=Zad ((l.drop k).take n)
  unfold Zad
  rw[hhead,<-htail,show k+4+n=(k+n)+4 by omega,List.take_add]
theorem ZvG {l:List UInt8} (h:(ZbC l).2.2≠0):(ZbC l).1=[]∧(ZbC l).2.1=0:=by
 unfold ZbC at h ⊢
 split
 ·exact⟨rfl,rfl⟩
 split
 ·exact⟨rfl,rfl⟩
 split
 ·exact⟨rfl,rfl⟩
 split
 ·exact⟨rfl,rfl⟩
 split
 ·exact⟨rfl,rfl⟩
 ·rename_i c1 c2 c3 c4 c5
  rw[if_neg c1,if_neg c2,if_neg c3,if_neg c4,if_neg c5] at h
  simp at h
theorem Zef {l:List UInt8} (h:(ZbC l).2.2=0):5<=(ZbC l).2.1:=by
 obtain⟨_,h2,_,_⟩:=ZlM h
 rw[h2,Zap]
 have:=Lib.uvarint_pos (ZbC l).1.length
 omega
theorem Ztz (l:List UInt8):(ZbC l).2.1<=l.length:=by
 by_cases h:(ZbC l).2.2=0
 ·exact(ZlM h).2.2.1
 ·rw[(ZvG h).2];omega
theorem ZvH (x:List UInt8) (m:Nat) (h:x.length<=1048576) (hm:m<(Zad x).length):ZbC ((Zad x).take m)=([],0,2):=by
 have h3:=Zys h
 by_cases hk:m<(Lib.uvarint x.length).length
 ·have ho:Zcz ((Zad x).take m):=by
   have e:(Zad x).take m=(Lib.uvarint x.length).take m:=by
    rw[Zad,Zbr,List.append_assoc,List.take_append_of_le_length (by omega)]
   rw[e]
   refine⟨by simp;omega,fun j hj=>?_⟩
   have hj':j<m:=by simp at hj;omega
   have e2:((Lib.uvarint x.length).take m).getD j 0=(Lib.uvarint x.length).getD j 0:=by simp[List.getD,hj']
   rw[e2]
   exact ZhL _ _ j zL (by omega)
  unfold ZbC
  rw[if_pos ho]
 ·have hlen:((Zad x).take m).length=m:=by simp;omega
  have hd:Zab ((Zad x).take m)=(x.length,(Lib.uvarint x.length).length):=by
   have e:(Zad x).take m=Lib.uvarint x.length++(x++Lib.leBytes 4 (ZaH 0 (Zbr x))).take (m-(Lib.uvarint x.length).length):=by
    rw[Zad,Zbr,List.append_assoc,List.take_append,List.take_of_length_le (by omega)]
   rw[e]
   exact ZkR x _ h
  have hp:=Lib.uvarint_pos x.length
  have ho:¬ Zcz ((Zad x).take m):=fun ho=>by
   have:=ZqF ho
   rw[hd,Prod.mk.injEq] at this
   omega
  rw[Zap] at hm
  unfold ZbC
  rw[if_neg ho]
  simp only [hd,hlen]
  rw[if_neg (by omega),if_neg (by omega),if_pos (by omega)]
def ZeU:Nat->List UInt8->List (List UInt8) × Nat × Nat
 | 0,_=>([],0,0)
 | f+1,l=>if l=[] then([],0,0) else if(ZbC l).2.2≠0 then([],0,(ZbC l).2.2) else
  ((ZbC l).1::(ZeU f (l.drop (ZbC l).2.1)).1,(ZbC l).2.1+(ZeU f (l.drop (ZbC l).2.1)).2.1,(ZeU f (l.drop (ZbC l).2.1)).2.2)
def Zal (l:List UInt8):List (List UInt8) × Nat × Nat:=ZeU l.length l
theorem ZiQ:∀ (f g:Nat) (l:List UInt8),l.length<=f->l.length<=g->ZeU f l=ZeU g l
 | 0,g,l,h,_=>by
  have e:l=[]:=List.eq_nil_of_length_eq_zero (by omega)
  subst e
  cases g <;> simp[ZeU]
 | f+1,0,l,_,h=>by
  have e:l=[]:=List.eq_nil_of_length_eq_zero (by omega)
  subst e
  simp[ZeU]
 | f+1,g+1,l,hf,hg=>by
  unfold ZeU
  by_cases e:l=[]
  ·rw[if_pos e,if_pos e]
  rw[if_neg e,if_neg e]
  by_cases e2:(ZbC l).2.2≠0
  ·rw[if_pos e2,if_pos e2]
  rw[if_neg e2,if_neg e2]
  have h5:=Zef (Decidable.not_not.1 e2)
  rw[ZiQ f g (l.drop (ZbC l).2.1) (by simp;omega) (by simp;omega)]
theorem Zeg:Zal []=([],0,0):=rfl
theorem Zes {l:List UInt8} (h0:l≠[]) (h:(ZbC l).2.2≠0):Zal l=([],0,(ZbC l).2.2):=by
 unfold Zal
 cases l with
 | nil=>exact absurd rfl h0
 | cons c r=>
  rw[List.length_cons,ZeU,if_neg h0,if_pos h]
theorem Zet {l:List UInt8} (h0:l≠[]) (h:(ZbC l).2.2=0):
 Zal l=((ZbC l).1::(Zal (l.drop (ZbC l).2.1)).1,(ZbC l).2.1+(Zal (l.drop (ZbC l).2.1)).2.1,(Zal (l.drop (ZbC l).2.1)).2.2):=by
 have h5:=Zef h
 unfold Zal
 cases l with
 | nil=>exact absurd rfl h0
 | cons c r=>
  rw[List.length_cons,ZeU,if_neg h0,if_neg (Decidable.not_not.2 h),ZiQ r.length ((c::r).drop (ZbC (c::r)).2.1).length _ (by simp;omega) zL]
def Zag (L:List (List UInt8)):List UInt8:=L.flatMap Zad
def Zdw:List (List UInt8)->Nat->Nat × Nat
 | [],_=>(0,0)
 | x::L,m=>if(Zad x).length<=m then((Zdw L (m-(Zad x).length)).1+1,(Zdw L (m-(Zad x).length)).2+(Zad x).length) else(0,0)
theorem ZmX:∀ (L:List (List UInt8)) (m:Nat),(Zdw L m).1<=L.length∧(Zdw L m).2<=m
 | [],m=>by simp[Zdw]
 | x::L,m=>by
  have ih:=ZmX L (m-(Zad x).length)
  unfold Zdw
  split
  ·simp;omega
  ·simp
theorem ZkS:∀ (L:List (List UInt8)) (m:Nat),(∀ x ∈ L,x.length<=1048576)->m<=(Zag L).length->
 Zal ((Zag L).take m)=(L.take (Zdw L m).1,(Zdw L m).2,if(Zdw L m).2=m then 0 else 2)
 | [],m,_,hm=>by
  have e:m=0:=by simp[Zag] at hm;omega
  subst e
  rfl
 | x::L,m,hx,hm=>by
  have hx1:=hx x (by simp)
  have hpos:5<=(Zad x).length:=by
   rw[Zap]
   have:=Lib.uvarint_pos x.length
   omega
  have eF:Zag (x::L)=Zad x++Zag L:=by simp[Zag]
  rw[eF] at hm ⊢
  rw[List.length_append] at hm
  by_cases hf:(Zad x).length<=m
  ·have et:(Zad x++Zag L).take m=Zad x++(Zag L).take (m-(Zad x).length):=by
    rw[List.take_append,List.take_of_length_le hf]
   have ih:=ZkS L (m-(Zad x).length) (fun y hy=>hx y (by simp[hy])) (by omega)
   have hd:=Zrp x ((Zag L).take (m-(Zad x).length)) hx1
   have hne:Zad x++(Zag L).take (m-(Zad x).length)≠[]:=fun e=>by
    have:=congrArg List.length e
    rw[List.length_append,List.length_nil] at this
    omega
   rw[et,Zet hne (by rw[hd]),hd]
   simp only [List.drop_left]
   have hw:=(ZmX L (m-(Zad x).length)).2
   rw[ih,Zdw,if_pos hf]
   simp only [List.take_succ_cons,Prod.mk.injEq,true_and]
   refine⟨by omega,?_⟩
   by_cases e:(Zdw L (m-(Zad x).length)).2=m-(Zad x).length
   ·rw[if_pos e,if_pos (by omega)]
   ·rw[if_neg e,if_neg (by omega)]
  ·have et:(Zad x++Zag L).take m=(Zad x).take m:=by
    rw[List.take_append_of_le_length (by omega)]
   have hd:=ZvH x m hx1 (by omega)
   rw[et,Zdw,if_neg hf]
   by_cases h0:m=0
   ·subst h0
    rfl
   ·have hne:(Zad x).take m≠[]:=fun e=>by
     have:=congrArg List.length e
     rw[List.length_take,List.length_nil] at this
     omega
    rw[Zes hne (by rw[hd];decide),hd]
    simp only [List.take_zero,Prod.mk.injEq,true_and]
    rw[if_neg (by omega)]
def Zih (n:Int):Nat:=if 0<=n∧n<=1048576 then(Lib.uvarint n.toNat).length+4+n.toNat else 0
theorem ZmY:∀ (L:List (List UInt8)) (m k:Nat),k<=L.length->(Zag (L.take k)).length<=m->(k=L.length∨m<(Zag (L.take (k+1))).length)->Zdw L m=(k,(Zag (L.take k)).length)
 | [],m,k,hk,_,_=>by
  have e:k=0:=by simpa using hk
  subst e
  rfl
 | x::L,m,0,_,h1,h2=>by
  have e:(Zag ((x::L).take 1)).length=(Zad x).length:=by simp[Zag]
  rcases h2 with h2 | h2
  ·simp at h2
  ·rw[e] at h2
   rw[Zdw,if_neg (by omega)]
   rfl
 | x::L,m,k+1,hk,h1,h2=>by
  have ef:∀ j,(Zag ((x::L).take (j+1))).length=(Zad x).length+(Zag (L.take j)).length:=by
   intro j
   simp[Zag]
  rw[ef] at h1 h2
  have ih:=ZmY L (m-(Zad x).length) k (by simpa using hk) (by omega) (by
   rcases h2 with h2 | h2
   ·left;simpa using h2
   ·right;omega)
  rw[Zdw,if_pos (by omega),ih,ef]
  simp
  omega
theorem ZdN {d:List UInt8} (h:d.length<=1048576):(Zad d).length<=d.length+14:=by
 rw[Zap]
 have:(Lib.uvarint d.length).length<=10:=Lib.uvarint_length64 (by omega)
 omega
theorem ZmZ (A B:List (List UInt8)):Zag (A++B)=Zag A++Zag B:=by
 unfold Zag
 rw[List.flatMap_append]
theorem Zcn (x:List UInt8) (B:List (List UInt8)):Zag (x::B)=Zad x++Zag B:=by
 unfold Zag
 rw[List.flatMap_cons]
theorem ZoO (x:List UInt8):5<=(Zad x).length:=by
 rw[Zap]
 have:=Lib.uvarint_pos x.length
 omega
theorem Zdf (L:List (List UInt8)) (h:∀ x ∈ L,x.length<=1048576):Zal (Zag L)=(L,(Zag L).length,0):=by
 have e:=ZkS L (Zag L).length h zL
 have hw:=ZmY L (Zag L).length L.length zL (by rw[List.take_length];exact Nat.le_refl _) (.inl rfl)
 rw[List.take_length] at hw e
 rw[e,hw]
 simp
theorem Zhf:∀ (n:Nat) (b:List UInt8),b.length<=n->(Zal b).2.2=0->Zag (Zal b).1=b∧∀ x ∈ (Zal b).1,x.length<=1048576
 | 0,b,hn,_=>by
  have e:b=[]:=List.eq_nil_of_length_eq_zero (by omega)
  subst e
  rw[Zeg]
  exact⟨rfl,by simp⟩
 | n+1,b,hn,h=>by
  by_cases e:b=[]
  ·subst e
   rw[Zeg]
   exact⟨rfl,by simp⟩
  by_cases hd:(ZbC b).2.2=0
  ·obtain⟨d1,d2,d3,d4⟩:=ZlM hd
   have h5:=Zef hd
   rw[Zet e hd] at h ⊢
   obtain⟨i1,i2⟩:=Zhf n (b.drop (ZbC b).2.1) (by rw[List.length_drop];omega) h
   refine⟨?_,fun x hx=>?_⟩
   ·show Zag ((ZbC b).1::(Zal (b.drop (ZbC b).2.1)).1)=b
    rw[Zcn,i1,<-d4,List.take_append_drop]
   ·rcases List.mem_cons.1 hx with hx | hx
    ·rw[hx];exact d1
    ·exact i2 x hx
  ·rw[Zes e hd] at h
   exact absurd h hd
structure Ent where
 proc:Int
 seq:Int
 resp:Int
def ZaP:Ent:=⟨0,0,0⟩
theorem Ent.ext' {a b:Ent} (h1:a.proc=b.proc) (h2:a.seq=b.seq) (h3:a.resp=b.resp):a=b:=by
 cases a
 cases b
 simp_all
instance:DecidableEq Ent:=fun a b=>
 if h:a.proc=b.proc∧a.seq=b.seq∧a.resp=b.resp then .isTrue (Ent.ext' h.1 h.2.1 h.2.2)
 else .isFalse (fun e=>h (by rw[e];exact⟨rfl,rfl,rfl⟩))
structure ZaX where
 idx:Int
 st:St
 tab:List Ent
def Zbb:ZaX:=⟨0,ZeT,[]⟩
def ZfP (e:Ent):Prop:=0<=e.proc∧e.proc<=64∧0<=e.seq∧e.seq<4611686018427387904∧-1125899906842624<=e.resp∧e.resp<=1125899906842624
instance (e:Ent):Decidable (ZfP e):=by unfold ZfP;infer_instance
def ZcT (t:List Ent) (k:Nat):Prop:=∀ i,i<k->ZfP (t.getD i ZaP)∧(0<i->(t.getD (i-1) ZaP).proc<(t.getD i ZaP).proc)
instance (t:List Ent) (k:Nat):Decidable (ZcT t k):=by unfold ZcT;infer_instance
def Zhg (t:List Ent):Prop:=ZcT t t.length
instance (t:List Ent):Decidable (Zhg t):=by unfold Zhg;infer_instance
theorem ZcT.zero (t:List Ent):ZcT t 0:=fun _ hi=>absurd hi (Nat.not_lt_zero _)
theorem ZcT.next {t:List Ent} {k:Nat}:ZcT t (k+1)↔ZcT t k∧ZfP (t.getD k ZaP)∧(0<k->(t.getD (k-1) ZaP).proc<(t.getD k ZaP).proc):=by
 constructor
 ·intro h
  exact⟨fun i hi=>h i (by omega),(h k (by omega)).1,(h k (by omega)).2⟩
 ·rintro⟨h1,h2,h3⟩ i hi
  by_cases e:i=k
  ·subst e
   exact⟨h2,h3⟩
  ·exact h1 i (by omega)
theorem ZcT.mono {t:List Ent} {k j:Nat} (h:ZcT t k) (hj:j<=k):ZcT t j:=fun i hi=>h i (by omega)
theorem Zhg.mem {t:List Ent} (h:Zhg t):∀ e ∈ t,ZfP e:=by
 intro e he
 obtain⟨i,hi,rfl⟩:=List.getElem_of_mem he
 have:=(h i hi).1
 simpa[List.getD,hi] using this
def Zks (s:ZaX):Prop:=(0<=s.idx∧s.idx<4611686018427387904)∧Zcw s.st∧Zhg s.tab
instance (s:ZaX):Decidable (Zks s):=by unfold Zks;infer_instance
def ZyU (e:Ent):List UInt8:=Lib.uvarint e.proc.toNat++(Lib.uvarint e.seq.toNat++Lib.uvarint (Lib.zigzag e.resp))
def Zna (t:List Ent):List UInt8:=t.flatMap ZyU
def Zzb (t:List Ent):List UInt8:=Lib.uvarint t.length++Zna t
def ZkT (s:ZaX):List UInt8:=Lib.uvarint (ZyZ s.st).length++(ZyZ s.st++Zzb s.tab)
def ZvI (i:Nat) (w:List UInt8):List UInt8:=115::(Lib.uvarint 3++(Lib.uvarint i++(Lib.uvarint w.length++Lib.leBytes 4 (ZaH 0 w))))
def Zbs (l:List UInt8):List (List UInt8):=if l=[] then[] else l.take 64::Zbs (l.drop 64)
termination_by l.length
decreasing_by
 rename_i h
 have h1:l.length≠0:=by simpa using h
 rw[List.length_drop]
 omega
def ZwY (s:ZaX):List (List UInt8):=ZvI s.idx.toNat (ZkT s)::Zbs (ZkT s)
def encN (s:ZaX):List UInt8:=Zag (ZwY s)
theorem Zcd:Zbs []=[]:=by rw[Zbs,if_pos rfl]
theorem ZcD {l:List UInt8} (h:l≠[]):Zbs l=l.take 64::Zbs (l.drop 64):=by rw[Zbs,if_neg h]
theorem ZoP:∀ (n:Nat) (l:List UInt8),l.length<=n->(Zbs l).flatten=l
 | 0,l,h=>by
  have e:l=[]:=List.eq_nil_of_length_eq_zero (by omega)
  rw[e,Zcd]
  rfl
 | n+1,l,h=>by
  by_cases e:l=[]
  ·rw[e,Zcd]
   rfl
  ·have h1:l.length≠0:=by simpa using e
   rw[ZcD e,List.flatten_cons,ZoP n (l.drop 64) (by rw[List.length_drop];omega),List.take_append_drop]
def Zhh:List (List UInt8)->Prop
 | []=>True
 | [x]=>1<=x.length∧x.length<=64
 | x::y::t=>x.length=64∧Zhh (y::t)
theorem ZeV:∀ (L:List (List UInt8)),Zhh L->Zbs L.flatten=L
 | [],_=>by rw[List.flatten_nil,Zcd]
 | [x],h=>by
  obtain⟨h1,h2⟩:=h
  have e:x≠[]:=fun e=>by rw[e] at h1;simp at h1
  have ef:[x].flatten=x:=by simp
  rw[ef,ZcD e,List.take_of_length_le h2,List.drop_eq_nil_of_le h2,Zcd]
 | x::y::t,h=>by
  obtain⟨h1,h2⟩:=h
  have e:(x::y::t).flatten≠[]:=fun e=>by
   have:=congrArg List.length e
   rw[List.flatten_cons,List.length_append,List.length_nil] at this
   omega
  have e1:((x::y::t).flatten).take 64=x:=by rw[List.flatten_cons,<-h1,List.take_left]
  have e2:((x::y::t).flatten).drop 64=(y::t).flatten:=by rw[List.flatten_cons,<-h1,List.drop_left]
  rw[ZcD e,e1,e2,ZeV (y::t) h2]
theorem ZhN:∀ (n:Nat) (l:List UInt8),l.length<=n->Zhh (Zbs l)
 | 0,l,h=>by
  have e:l=[]:=List.eq_nil_of_length_eq_zero (by omega)
  rw[e,Zcd]
  trivial
 | n+1,l,h=>by
  by_cases e:l=[]
  ·rw[e,Zcd]
   trivial
  ·have h1:l.length≠0:=by simpa using e
   rw[ZcD e]
   have ih:=ZhN n (l.drop 64) (by rw[List.length_drop];omega)
   by_cases e2:l.drop 64=[]
   ·rw[e2,Zcd]
    have h3:(l.take 64).length=min 64 l.length:=List.length_take
    exact⟨by omega,by omega⟩
   ·have h2:(l.drop 64).length≠0:=fun e=>e2 (List.eq_nil_of_length_eq_zero e)
    rw[List.length_drop] at h2
    rw[ZcD e2] at ih ⊢
    exact⟨by rw[List.length_take];omega,ih⟩
def ZdI:Nat->List UInt8->Option (List Ent × List UInt8)
 | 0,b=>some ([],b)
 | n+1,b=>
  let i:=(Zab b).2
  let j:=(Zab (b.drop i)).2
  let k:=(Zaf (b.drop (i+j))).2
  if i=0∨j=0∨k=0 then none
  else(ZdI n (b.drop (i+j+k))).map (fun r=>(⟨(Zab b).1,(Zab (b.drop i)).1,zag (Zaf (b.drop (i+j))).1⟩::r.1,r.2))
def Zeh (b:List UInt8):Option (List Ent):=
 if(Zab b).2=0∨b.length<(Zab b).1 then none
 else match ZdI (Zab b).1 (b.drop (Zab b).2) with
  | some (t,[])=>some t
  | _=>none
def ZbD (w:List UInt8):ZaX × Int:=
 if(Zab w).2=0∨w.length<(Zab w).2+(Zab w).1 then(Zbb,3)
 else if(ZgW ((w.drop (Zab w).2).take (Zab w).1)).2=3 then(Zbb,3)
 else match Zeh (w.drop ((Zab w).2+(Zab w).1)) with
  | none=>(Zbb,3)
  | some t=>(⟨0,(ZgW ((w.drop (Zab w).2).take (Zab w).1)).1,t⟩,(ZgW ((w.drop (Zab w).2).take (Zab w).1)).2)
def ZbH (d:List UInt8):Nat × Nat × Nat × Int:=
 if d.length<1∨(d.getD 0 0).toNat≠115 then(0,0,0,3)
 else
  let i:=(Zab (d.drop 1)).2
  let j:=(Zab (d.drop (1+i))).2
  let k:=(Zab (d.drop (1+i+j))).2
  if i=0∨j=0∨k=0 then(0,0,0,3)
  else if(Zab (d.drop 1)).1≠3 then(0,0,0,6)
  else if(d.drop (1+i+j+k)).length≠4 then(0,0,0,3)
  else((Zab (d.drop (1+i))).1,(Zab (d.drop (1+i+j))).1,Lib.leNat (d.drop (1+i+j+k)),0)
instance cutOk_dec:∀ L:List (List UInt8),Decidable (Zhh L)
 | []=>.isTrue trivial
 | [_]=>by unfold Zhh;infer_instance
 | _::y::t=>by
  unfold Zhh
  exact @instDecidableAnd _ _ _ (cutOk_dec (y::t))
def ZkU (L:List (List UInt8)):ZaX × Int:=
 match L with
 | []=>(Zbb,16)
 | d::P=>
  if(ZbH d).2.2.2≠0 then(Zbb,(ZbH d).2.2.2)
  else if P.flatten.length≠(ZbH d).2.1 then(Zbb,16)
  else if ¬ Zhh P then(Zbb,3)
  else if ZaH 0 P.flatten≠(ZbH d).2.2.1 then(Zbb,4)
  else if(ZbD P.flatten).2≠0 then(Zbb,(ZbD P.flatten).2)
  else if Zks ⟨((ZbH d).1:Nat),(ZbD P.flatten).1.st,(ZbD P.flatten).1.tab⟩ then(⟨((ZbH d).1:Nat),(ZbD P.flatten).1.st,(ZbD P.flatten).1.tab⟩,0)
  else(Zbb,1)
def ZoQ (b:List UInt8):ZaX × Int:=
 if(Zal b).2.2≠0 then(Zbb,((Zal b).2.2:Nat)) else ZkU (Zal b).1
def Zhi (e:Ent):Bool->List Ent->List Ent
 | d,[]=>if d=true then[] else[e]
 | d,x::t=>(if d=false∧e.proc<x.proc then[e] else[])++((if x.proc=e.proc then[] else[x])++Zhi e (d || decide (e.proc<x.proc)) t)
def ZeW (t:List Ent) (e:Ent):List Ent:=Zhi e false t
theorem Zhj (e:Ent):∀ t:List Ent,Zhi e true t=t.filter (fun x=>decide (x.proc≠e.proc))
 | []=>rfl
 | x::t=>by
  rw[Zhi,if_neg (by simp),Bool.true_or,Zhj e t,List.filter_cons]
  by_cases h:x.proc=e.proc <;> simp[h]
theorem ZiR (e:Ent):∀ (t:List Ent) (d:Bool) (x:Ent),x ∈ Zhi e d t↔(d=false∧x=e)∨(x ∈ t∧x.proc≠e.proc)
 | [],d,x=>by cases d <;> simp[Zhi]
 | y::t,d,x=>by
  rw[Zhi,List.mem_append,List.mem_append,ZiR e t,List.mem_cons]
  by_cases h1:d=false∧e.proc<y.proc
  ·have hy:y.proc≠e.proc:=by omega
   rw[if_pos h1,if_neg hy,h1.1]
   have h2:decide (e.proc<y.proc)=true:=decide_eq_true h1.2
   rw[h2]
   simp only [List.mem_singleton,Bool.or_true,Bool.true_eq_false,false_and,false_or,true_and]
   constructor
   ·rintro(h | h | ⟨h,h'⟩)
    ·exact .inl h
    ·exact .inr ⟨.inl h,by rw[h];exact hy⟩
    ·exact .inr ⟨.inr h,h'⟩
   ·rintro(h | ⟨h | h,h'⟩)
    ·exact .inl h
    ·exact .inr (.inl h)
    ·exact .inr (.inr ⟨h,h'⟩)
  ·rw[if_neg h1]
   have hd:(d || decide (e.proc<y.proc))=false↔d=false:=by
    constructor
    ·intro h
     cases d
     ·rfl
     ·exact h
    ·intro h
     rw[h,Bool.false_or]
     exact decide_eq_false (fun h2=>h1 ⟨h,h2⟩)
   rw[hd]
   by_cases hy:y.proc=e.proc
   ·rw[if_pos hy]
    simp only [List.not_mem_nil,false_or]
    constructor
    ·rintro(h | ⟨h,h'⟩)
     ·exact .inl h
     ·exact .inr ⟨.inr h,h'⟩
    ·rintro(h | ⟨h | h,h'⟩)
     ·exact .inl h
     ·exact absurd (by rw[h];exact hy) h'
     ·exact .inr ⟨h,h'⟩
   ·rw[if_neg hy]
    simp only [List.not_mem_nil,false_or,List.mem_singleton]
    constructor
    ·rintro(h | h | ⟨h,h'⟩)
     ·exact .inr ⟨.inl h,by rw[h];exact hy⟩
     ·exact .inl h
     ·exact .inr ⟨.inr h,h'⟩
    ·rintro(h | ⟨h | h,h'⟩)
     ·exact .inr (.inl h)
     ·exact .inl h
     ·exact .inr (.inr ⟨h,h'⟩)
theorem Znb (t:List Ent) (e x:Ent):x ∈ ZeW t e↔x=e∨(x ∈ t∧x.proc≠e.proc):=by
 unfold ZeW
 rw[ZiR]
 simp
theorem Znc (e:Ent):∀ (t:List Ent) (d:Bool),(Zhi e d t).length<=t.length+(if d=true then 0 else 1)
 | [],d=>by cases d <;> simp[Zhi]
 | y::t,d=>by
  have ih:=Znc e t (d || decide (e.proc<y.proc))
  rw[Zhi,List.length_append,List.length_append,List.length_cons]
  by_cases h1:d=false∧e.proc<y.proc
  ·have h2:decide (e.proc<y.proc)=true:=decide_eq_true h1.2
   rw[h1.1,h2] at ih ⊢
   rw[if_pos ⟨rfl,h1.2⟩]
   simp only [Bool.or_true,if_true] at ih
   split <;> simp <;> omega
  ·rw[if_neg h1]
   have hd:(if(d || decide (e.proc<y.proc))=true then(0:Nat) else 1)<=(if d=true then 0 else 1):=by
    cases d
    ·have:decide (e.proc<y.proc)=false:=decide_eq_false (fun h=>h1 ⟨rfl,h⟩)
     rw[this]
     exact Nat.le_refl _
    ·simp
   split <;> simp <;> omega
theorem ZtA (t:List Ent) (e:Ent):(ZeW t e).length<=t.length+1:=Znc e t false
def ZiS (t:List Ent):Prop:=t.Pairwise (fun a b=>a.proc<b.proc)
theorem ZiT {e:Ent}:∀ {t:List Ent},ZiS t->ZiS (ZeW t e)
 | [],_=>by simp[ZeW,Zhi,ZiS]
 | y::t,h=>by
  unfold ZiS at h
  rw[List.pairwise_cons] at h
  obtain⟨h1,h2⟩:=h
  unfold ZeW ZiS
  rw[Zhi,Bool.false_or]
  by_cases hlt:e.proc<y.proc
  ·have hy:y.proc≠e.proc:=by omega
   rw[if_pos ⟨rfl,hlt⟩,if_neg hy,decide_eq_true hlt,Zhj]
   show List.Pairwise _ (e::y::_)
   rw[List.pairwise_cons,List.pairwise_cons]
   refine⟨fun a ha=>?_,fun a ha=>h1 a ((List.mem_filter.1 ha).1),h2.filter _⟩
   rcases List.mem_cons.1 ha with ha | ha
   ·rw[ha];exact hlt
   ·have:=h1 a ((List.mem_filter.1 ha).1)
    omega
  ·rw[if_neg (fun h=>hlt h.2),decide_eq_false hlt,List.nil_append]
   have ih:ZiS (ZeW t e):=ZiT h2
   by_cases hy:y.proc=e.proc
   ·rw[if_pos hy,List.nil_append]
    exact ih
   ·rw[if_neg hy]
    show List.Pairwise _ (y::ZeW t e)
    rw[List.pairwise_cons]
    refine⟨fun a ha=>?_,ih⟩
    rcases(Znb t e a).1 ha with ha | ⟨ha,_⟩
    ·rw[ha];omega
    ·exact h1 a ha
theorem ZcT.lt {t:List Ent} {k:Nat} (h:ZcT t k):∀ j i,i<j->j<k->(t.getD i ZaP).proc<(t.getD j ZaP).proc
 | 0,i,hi,_=>absurd hi (Nat.not_lt_zero _)
 | j+1,i,hi,hj=>by
  have h1:=(h (j+1) hj).2 (by omega)
  rw[Nat.add_sub_cancel] at h1
  by_cases e:i=j
  ·rw[e];exact h1
  ·have h2:=h.lt j i (by omega) (by omega)
   omega
theorem Zhg.rises {t:List Ent} (h:Zhg t):ZiS t:=by
 unfold ZiS
 rw[List.pairwise_iff_getElem]
 intro i j hi hj hij
 have:=h.lt j i hij hj
 simpa[List.getD,hi,hj] using this
def Zao (key:Int):List Int->Nat
 | a::_::r=>if key<=a then 0 else Zao key r+2
 | _=>0
def Zdg (key:Int) (l:List Int):Bool:=(ZbU key l).isSome
theorem ZiU (key:Int):∀ (l:List Int),l.length % 2=0->Zao key l<=l.length∧Zao key l % 2=0
 | [],_=>⟨Nat.le_refl _,rfl⟩
 | [_],h=>by simp at h
 | a::b::r,h=>by
  have ih:=ZiU key r (by simp at h;omega)
  unfold Zao
  split
  ·simp
  ·simp
   omega
theorem ZiV (key:Int):∀ (l:List Int) (k:Nat),l.length % 2=0->k % 2=0->k<=l.length->(∀ j,j<k->j % 2=0->l.getD j 0<key)->Zao key l=k+Zao key (l.drop k)
 | [],k,_,_,hk,_=>by
  have:k=0:=by simpa using hk
  subst this
  rfl
 | [_],_,h,_,_,_=>by simp at h
 | a::b::r,k,h,hk2,hk,hall=>by
  by_cases h0:k=0
  ·subst h0
   simp
  ·obtain⟨j,rfl⟩:∃ j,k=j+2:=⟨k-2,by omega⟩
   have h1:=hall 0 (by omega) rfl
   have h1':a<key:=h1
   have ih:=ZiV key r j (by simp at h;omega) (by omega) (by simp at hk;omega) (fun i hi hi2=>by
    have:=hall (i+2) (by omega) (by omega)
    exact this)
   conv=>lhs;unfold Zao
   rw[if_neg (by omega),ih]
   show j+Zao key (r.drop j)+2=j+2+Zao key (r.drop j)
   omega
theorem ZoR (key:Int) (l:List Int) (k:Nat) (hk:k+1<l.length) (h:key<=l.getD k 0):Zao key (l.drop k)=0:=by
 rw[Ztn l k hk,Zao,if_pos h]
theorem Zei (key least:Int):∀ (l:List Int) (lo:Int),Zaq least lo l->Zdg key l=decide (Zao key l<l.length∧l.getD (Zao key l) 0=key)∧(Zdg key l=true->ZbU key l=some (l.getD (Zao key l+1) 0)∧Zao key l+1<l.length)
 | [],lo,_=>by simp[Zdg,ZbU,Zao]
 | [_],lo,h=>by simp[Zaq] at h
 | a::b::r,lo,h=>by
  have hg:=Zdn (least:=least) (key:=key) (l:=r) (lo:=a)
  unfold Zaq at h
  have ih:=Zei key least r a h.2.2.2.2
  by_cases h1:key<=a
  ·have e:Zao key (a::b::r)=0:=by unfold Zao;rw[if_pos h1]
   rw[e]
   by_cases h2:a=key
   ·have e2:ZbU key (a::b::r)=some b:=by rw[ZbZ,if_pos h2]
    unfold Zdg
    rw[e2]
    simp[h2]
   ·have e2:ZbU key (a::b::r)=none:=by rw[ZbZ,if_neg h2,hg h.2.2.2.2 h1]
    unfold Zdg
    rw[e2]
    simp[h2]
  ·have e:Zao key (a::b::r)=Zao key r+2:=by rw[Zao,if_neg h1]
   have e2:ZbU key (a::b::r)=ZbU key r:=by rw[ZbZ,if_neg (by omega)]
   have e3:Zdg key (a::b::r)=Zdg key r:=by unfold Zdg;rw[e2]
   rw[e,e2,e3]
   refine⟨?_,fun hh=>?_⟩
   ·rw[ih.1]
    have e4:(a::b::r).getD (Zao key r+2) 0=r.getD (Zao key r) 0:=rfl
    rw[e4]
    apply decide_eq_decide.2
    simp
   ·have:=ih.2 hh
    refine⟨this.1,?_⟩
    simp
    omega
theorem ZhO (key n least:Int):∀ (l:List Int) (lo:Int),Zaq least lo l->Zdg key l=false->ZaJ key n false l=l.take (Zao key l)++([key,n]++l.drop (Zao key l))
 | [],lo,_,_=>by simp[ZaJ,Zao]
 | [_],lo,h,_=>by simp[Zaq] at h
 | a::b::r,lo,h,hm=>by
  rw[Zdo key n least a b r lo h]
  unfold Zaq at h
  have ih:=ZhO key n least r a h.2.2.2.2
  unfold Zdg at hm
  rw[ZbZ] at hm
  by_cases h2:a=key
  ·rw[if_pos h2] at hm
   simp at hm
  ·rw[if_neg h2] at hm
   by_cases h1:key<a
   ·rw[if_pos h1,Zao,if_pos (by omega)]
    rfl
   ·rw[if_neg h1,if_neg (by omega),ih hm,Zao,if_neg (by omega)]
    rfl
theorem Znd (key n least:Int):∀ (l:List Int) (lo:Int),Zaq least lo l->Zdg key l=true->ZaJ key n false l=l.set (Zao key l+1) n
 | [],lo,_,h=>by simp[Zdg,ZbU] at h
 | [_],lo,h,_=>by simp[Zaq] at h
 | a::b::r,lo,h,hm=>by
  rw[Zdo key n least a b r lo h]
  have hg:=Zdn (least:=least) (key:=key) (l:=r) (lo:=a)
  unfold Zaq at h
  have ih:=Znd key n least r a h.2.2.2.2
  unfold Zdg at hm
  rw[ZbZ] at hm
  by_cases h2:a=key
  ·rw[if_neg (by omega),if_pos h2.symm,Zao,if_pos (by omega),h2]
   rfl
  ·rw[if_neg h2] at hm
   by_cases h1:key<a
   ·rw[hg h.2.2.2.2 (by omega)] at hm
    simp at hm
   ·rw[if_neg h1,if_neg (by omega),ih hm,Zao,if_neg (by omega)]
    rfl
theorem Zfz {least key:Int}:∀ {l:List Int} {lo:Int},Zaq least lo l->key<=lo->ZaU key l=l
 | [],_,_,_=>rfl
 | [_],_,h,_=>by simp[Zaq] at h
 | a::b::r,lo,h,hk=>by
  unfold Zaq at h
  rw[Zck,if_pos (by omega),Zfz h.2.2.2.2 (by omega)]
theorem ZhP (key least:Int):∀ (l:List Int) (lo:Int),Zaq least lo l->Zdg key l=false->ZaU key l=l
 | [],lo,_,_=>rfl
 | [_],lo,h,_=>by simp[Zaq] at h
 | a::b::r,lo,h,hm=>by
  unfold Zaq at h
  have ih:=ZhP key least r a h.2.2.2.2
  unfold Zdg at hm
  rw[ZbZ] at hm
  by_cases h2:a=key
  ·rw[if_pos h2] at hm
   simp at hm
  ·rw[if_neg h2] at hm
   rw[Zck,if_pos h2,ih hm]
theorem ZhQ (key least:Int):∀ (l:List Int) (lo:Int),Zaq least lo l->Zdg key l=true->ZaU key l=l.take (Zao key l)++l.drop (Zao key l+2)
 | [],lo,_,h=>by simp[Zdg,ZbU] at h
 | [_],lo,h,_=>by simp[Zaq] at h
 | a::b::r,lo,h,hm=>by
  have hg:=Zdn (least:=least) (key:=key) (l:=r) (lo:=a)
  unfold Zaq at h
  have ih:=ZhQ key least r a h.2.2.2.2
  unfold Zdg at hm
  rw[ZbZ] at hm
  rw[Zck]
  by_cases h2:a=key
  ·rw[if_neg (by omega),Zao,if_pos (by omega),Zfz h.2.2.2.2 (by omega)]
   rfl
  ·rw[if_neg h2] at hm
   rw[if_pos h2]
   by_cases h1:key<=a
   ·rw[hg h.2.2.2.2 h1] at hm
    simp at hm
   ·rw[ih hm,Zao,if_neg h1]
    rfl
def ZbN (s:St) (o:Opn):St × Int:=
 if o.a<0∨255<o.a then(s,-1) else
 if o.code≠7∧o.code≠6∧o.code≠5 then(s,0) else
 if o.code=6 then(⟨s.kind,ZaU o.a s.L,s.shut,s.eng⟩,Zre o.a s.L) else
 if o.code=5 then(if ZcK o.a 0 s.L<0∧s.L.length=128 then(s,-2) else(⟨s.kind,ZaJ o.a (ZdY o.b) false s.L,s.shut,s.eng⟩,Zre o.a s.L)) else
 (s,Zre o.a s.L)
def Zca (s:St) (o:Opn):St × Int:=
 if ¬ Zcw s then(s,0) else
 if s.shut=true then(s,-1125899906842624) else
 if o.code=10 then(⟨s.kind,s.L,true,if 0<=o.a∧o.a<=2 then o.a else s.eng⟩,0) else
 if s.kind<=1 then Zgg s o else if s.kind<=3 then ZbX s o else if s.kind=4 then ZbN s o else ZaS s o
theorem ZhR (s:St) (o:Opn):(ZbN s o).1=(ZeJ s o).1:=by
 unfold ZbN ZeJ
 by_cases h1:o.a<0∨255<o.a
 ·rw[if_pos h1]
  split
  ·rfl
  ·first | rfl | (rw[if_pos h1])
 ·rw[if_neg h1,if_neg h1]
theorem ZfQ (s:St) (o:Opn):(Zca s o).1=(ZeQ s o).1:=by
 unfold Zca ZeQ
 split
 ·rfl
 split
 ·rfl
 split
 ·rfl
 split
 ·rfl
 split
 ·rfl
 split
 ·exact ZhR s o
 ·rfl
theorem ZvJ (s:St) (o:Opn) (h:s.kind≠4∨s.shut=true∨o.code=10∨o.code=5∨o.code=6∨o.code=7∨(0<=o.a∧o.a<=255)):Zca s o=ZeQ s o:=by
 unfold Zca ZeQ
 split
 ·rfl
 split
 ·rfl
 split
 ·rfl
 split
 ·rfl
 split
 ·rfl
 split
 ·rename_i hm hs hc _ _ hk
  unfold ZbN ZeJ
  rcases h with h | h | h | h | h | h | h
  ·exact absurd hk h
  ·exact absurd h hs
  ·exact absurd h hc
  ·rw[if_neg (show ¬ (o.code≠7∧o.code≠6∧o.code≠5) by omega),if_neg (show ¬ (o.code≠7∧o.code≠6∧o.code≠5) by omega)]
  ·rw[if_neg (show ¬ (o.code≠7∧o.code≠6∧o.code≠5) by omega),if_neg (show ¬ (o.code≠7∧o.code≠6∧o.code≠5) by omega)]
  ·rw[if_neg (show ¬ (o.code≠7∧o.code≠6∧o.code≠5) by omega),if_neg (show ¬ (o.code≠7∧o.code≠6∧o.code≠5) by omega)]
  ·rw[if_neg (show ¬ (o.a<0∨255<o.a) by omega),if_neg (show ¬ (o.a<0∨255<o.a) by omega)]
 ·rfl
theorem ZiW {s:St} (h:¬ Zcw s) (o:Opn):Zca s o=(s,0):=by
 unfold Zca
 rw[if_pos h]
theorem Zrq {s:St} (h:Zcw s) (hs:s.shut=true) (o:Opn):Zca s o=(s,-1125899906842624):=by
 unfold Zca
 rw[if_neg (fun e=>e h),if_pos hs]
theorem ZiX {s:St} (h:Zcw s) (o:Opn):Zcw (Zca s o).1:=by rw[ZfQ];exact ZvA h o
theorem Zyk (s:St) (o:Opn):(Zca s o).1.kind=s.kind:=by rw[ZfQ];exact Ztq s o
theorem Zxt {s:St} (h:Zcw s) (o:Opn):(Zca s o).1.shut=(s.shut || decide (o.code=10)):=by rw[ZfQ];exact Zrh h o
def ZtB:St->List Opn->St × List Int
 | s,[]=>(s,[])
 | s,o::r=>((ZtB (Zca s o).1 r).1,(Zca s o).2::(ZtB (Zca s o).1 r).2)
def Zkt (s:ZaX) (r:Rec):ZaX:=⟨s.idx+1,(Zca s.st r.op).1,ZeW s.tab ⟨r.proc,r.seq,(Zca s.st r.op).2⟩⟩
def ZaG:ZaX->List Rec->ZaX × Int
 | s,[]=>(s,0)
 | s,r::l=>if r.idx≠s.idx then(Zbb,15) else if ¬ ZaF r then(Zbb,1) else ZaG (Zkt s r) l
theorem ZiY:∀ (a b:List Rec) (s:ZaX),ZaG s (a++b)=if(ZaG s a).2=0 then ZaG (ZaG s a).1 b else ZaG s a
 | [],b,s=>by simp[ZaG]
 | r::a,b,s=>by
  rw[List.cons_append,ZaG,ZaG]
  by_cases h1:r.idx≠s.idx
  ·rw[if_pos h1,if_pos h1,if_neg (by simp)]
  ·rw[if_neg h1,if_neg h1]
   by_cases h2:¬ ZaF r
   ·rw[if_pos h2,if_pos h2,if_neg (by simp)]
   ·rw[if_neg h2,if_neg h2]
    exact ZiY a b _
theorem ZfR:∀ (l:List Rec) (s:ZaX),(ZaG s l).2=0->(ZaG s l).1.st=(ZtB s.st (l.map (fun r=>r.op))).1∧(ZaG s l).1.idx=s.idx+l.length
 | [],s,_=>by simp[ZaG,ZtB]
 | r::l,s,h=>by
  rw[ZaG] at h ⊢
  by_cases h1:r.idx≠s.idx
  ·rw[if_pos h1] at h
   exact absurd h (by decide)
  rw[if_neg h1] at h ⊢
  by_cases h2:¬ ZaF r
  ·rw[if_pos h2] at h
   exact absurd h (by decide)
  rw[if_neg h2] at h ⊢
  obtain⟨i1,i2⟩:=ZfR l (Zkt s r) h
  rw[i1,i2,List.map_cons,ZtB]
  refine⟨rfl,?_⟩
  show s.idx+1+_=_
  rw[List.length_cons]
  omega
def Zar (l:List Rec) (p:Int):Int:=l.foldl (fun a r=>if r.proc=p then r.seq else a) 0
theorem Zne (l:List Rec) (r:Rec) (p:Int):Zar (l++[r]) p=if r.proc=p then r.seq else Zar l p:=by
 unfold Zar
 rw[List.foldl_append]
 rfl
theorem ZkV {l:List Rec} (p:Int):(∀ r ∈ l,ZaF r)->0<=Zar l p∧Zar l p<4611686018427387904:=by
 unfold Zar
 suffices h:∀ (l:List Rec) (a:Int),(∀ r ∈ l,ZaF r)->0<=a->a<4611686018427387904->0<=l.foldl (fun a r=>if r.proc=p then r.seq else a) a∧l.foldl (fun a r=>if r.proc=p then r.seq else a) a<4611686018427387904 by
  exact fun hl=>h l 0 hl (by decide) (by decide)
 intro l
 induction l with
 | nil=>intro a _ h0 h1;exact⟨h0,h1⟩
 | cons r t ih=>
  intro a hf h0 h1
  rw[List.foldl_cons]
  have hr:=hf r (by simp)
  obtain⟨_,_,_,hs0,hs1,_⟩:=hr
  by_cases hp:r.proc=p
  ·rw[if_pos hp]
   exact ih _ (fun s hs=>hf s (by simp[hs])) hs0 hs1
  ·rw[if_neg hp]
   exact ih _ (fun s hs=>hf s (by simp[hs])) h0 h1
def Zbt (pre:List Rec) (r:Rec):List UInt8:=
 Lib.uvarint r.proc.toNat++(Lib.uvarint (Lib.zigzag (r.seq-Zar pre r.proc))++(ZaN r.op++Lib.uvarint (Lib.zigzag r.resp)))
def Zbf (pre:List Rec):List Rec->List UInt8
 | []=>[]
 | r::t=>Zbt pre r++Zbf (pre++[r]) t
def ZcU (l:List Rec):List UInt8:=Lib.uvarint (l.headD Zai).idx.toNat++(Lib.uvarint l.length++Zbf [] l)
def ZaO:Int->List Rec->Prop
 | _,[]=>True
 | i,r::t=>r.idx=i∧ZaO (i+1) t
instance chainR_dec:∀ (i:Int) (l:List Rec),Decidable (ZaO i l)
 | _,[]=>.isTrue trivial
 | i,r::t=>by
  unfold ZaO
  exact @instDecidableAnd _ _ _ (chainR_dec (i+1) t)
def ZaY (l:List Rec):Prop:=1<=l.length∧l.length<=256∧(∀ r ∈ l,ZaF r)∧ZaO (l.headD Zai).idx l
instance (l:List Rec):Decidable (ZaY l):=by unfold ZaY;infer_instance
theorem ZiZ:∀ (a b pre:List Rec),Zbf pre (a++b)=Zbf pre a++Zbf (pre++a) b
 | [],b,pre=>by simp[Zbf]
 | r::t,b,pre=>by
  have e:pre++[r]++t=pre++r::t:=by simp
  rw[List.cons_append,Zbf,ZiZ t b,e,Zbf]
  exact(List.append_assoc _ _ _).symm
theorem Zrr (l:List Rec) (k:Nat) (hk:k<l.length):Zbf [] (l.take (k+1))=Zbf [] (l.take k)++Zbt (l.take k) (l.getD k Zai):=by
 have e:l.take (k+1)=l.take k++[l.getD k Zai]:=by
  rw[List.take_add_one]
  simp[List.getD,hk]
 rw[e,ZiZ]
 simp[Zbf]
def ZyV (pre:List Rec) (b:List UInt8):Rec × Nat:=
 let i:=(Zab b).2
 let j:=(Zaf (b.drop i)).2
 let k:=(Zay (b.drop (i+j))).2
 let m:=(Zaf (b.drop (i+j+k))).2
 if i=0∨j=0∨k=0∨m=0 then(Zai,0)
 else(⟨0,(Zab b).1,IntKind.i64.wrap (Zar pre (Zab b).1+zag (Zaf (b.drop i)).1),(Zay (b.drop (i+j))).1,zag (Zaf (b.drop (i+j+k))).1⟩,i+j+k+m)
theorem ZoS {n:Int} (h:I64 n):IntKind.i64.wrap n=n:=by
 obtain⟨h0,h1⟩:=h
 rw[IntKind.wrap_i64]
 omega
theorem Zgt {l:List Rec} (hl:∀ r ∈ l,ZaF r) {r:Rec} (hr:ZaF r):I64 (r.seq-Zar l r.proc):=by
 obtain⟨h0,h1⟩:=ZkV r.proc hl
 obtain⟨_,_,_,hs0,hs1,_⟩:=hr
 exact⟨by omega,by omega⟩
theorem Zxu {pre:List Rec} (hl:∀ r ∈ pre,ZaF r) {r:Rec} (hr:ZaF r) (t:List UInt8):ZyV pre (Zbt pre r++t)=({ r with idx:=0 },(Zbt pre r).length):=by
 have hd:=Zgt hl hr
 have hresp:=Zdq hr
 obtain⟨ho,_,_,hs0,hs1,hp0,hp1,_⟩:=id hr
 have E:Zbt pre r++t=Lib.uvarint r.proc.toNat++(Lib.uvarint (Lib.zigzag (r.seq-Zar pre r.proc))++(ZaN r.op++(Lib.uvarint (Lib.zigzag r.resp)++t))):=by
  unfold Zbt
  simp only [List.append_assoc]
 have d1:=ZaL r.proc.toNat (Lib.uvarint (Lib.zigzag (r.seq-Zar pre r.proc))++(ZaN r.op++(Lib.uvarint (Lib.zigzag r.resp)++t))) (by omega)
 rw[<-E] at d1
 have e1:(Zbt pre r++t).drop (Lib.uvarint r.proc.toNat).length=Lib.uvarint (Lib.zigzag (r.seq-Zar pre r.proc))++(ZaN r.op++(Lib.uvarint (Lib.zigzag r.resp)++t)):=by rw[E,List.drop_left]
 have d2:=Zbx (Lib.zigzag (r.seq-Zar pre r.proc)) (ZaN r.op++(Lib.uvarint (Lib.zigzag r.resp)++t)) (ZeS hd)
 have e2:(Zbt pre r++t).drop ((Lib.uvarint r.proc.toNat).length+(Lib.uvarint (Lib.zigzag (r.seq-Zar pre r.proc))).length)=ZaN r.op++(Lib.uvarint (Lib.zigzag r.resp)++t):=by rw[<-List.drop_drop,e1,List.drop_left]
 have d3:=ZmS r.op ho (Lib.uvarint (Lib.zigzag r.resp)++t)
 have e3:(Zbt pre r++t).drop ((Lib.uvarint r.proc.toNat).length+(Lib.uvarint (Lib.zigzag (r.seq-Zar pre r.proc))).length+(ZaN r.op).length)=Lib.uvarint (Lib.zigzag r.resp)++t:=by rw[<-List.drop_drop,e2,List.drop_left]
 have d4:=Zbx (Lib.zigzag r.resp) t (ZeS hresp)
 have n1:=Zhd r.proc.toNat
 have n2:=Zhd (Lib.zigzag (r.seq-Zar pre r.proc))
 have n4:=Zhd (Lib.zigzag r.resp)
 have n3:(ZaN r.op).length≠0:=by
  unfold ZaN
  have:=Zhd r.op.code.toNat
  rw[List.length_append]
  omega
 unfold ZyV
 simp only [d1,e1,d2,e2,d3,e3,d4]
 rw[if_neg (by rintro(h | h | h | h);exact n1 h;exact n2 h;exact n3 h;exact n4 h)]
 have hpn:((r.proc.toNat:Nat):Int)=r.proc:=by omega
 rw[hpn,Zdm _ hd.1 hd.2,Zdm _ hresp.1 hresp.2]
 have hw:Zar pre r.proc+(r.seq-Zar pre r.proc)=r.seq:=by omega
 rw[hw,ZoS ⟨by omega,by omega⟩]
 congr 1
 unfold Zbt
 simp only [List.length_append]
 omega
def DecB (b:List UInt8) (l:List Rec) (e:Int):Prop:=(e=0∧ZaY l∧ZcU l=b)∨(e=3∧l=[]∧∀ l',ZaY l'->ZcU l'≠b)
structure Seg where
 kind:Int
 first:Int
 recs:List Rec
def Zgu:Seg:=⟨0,0,[]⟩
def Zja:Nat->Int->List Rec->List UInt8->List Rec
 | 0,_,pre,_=>pre
 | n+1,i,pre,b=>Zja n i (pre++[{ (ZyV pre b).1 with idx:=i+pre.length }]) (b.drop (ZyV pre b).2)
def Znf (b:List UInt8):List Rec:=Zja (Zab (b.drop (Zab b).2)).1 (Zab b).1 [] (b.drop ((Zab b).2+(Zab (b.drop (Zab b).2)).2))
def ZfS (b:List UInt8):Option (List Rec):=if ZaY (Znf b)∧ZcU (Znf b)=b then some (Znf b) else none
theorem Zjb:∀ (l pre:List Rec) (i:Int) (t:List UInt8),(∀ r ∈ pre,ZaF r)->(∀ r ∈ l,ZaF r)->ZaO (i+pre.length) l->Zja l.length i pre (Zbf pre l++t)=pre++l
 | [],pre,i,t,_,_,_=>by simp[Zja]
 | r::l,pre,i,t,hp,hl,hc=>by
  obtain⟨hi,hc⟩:=hc
  have hr:=hl r (by simp)
  have e:=Zxu hp hr (Zbf (pre++[r]) l++t)
  rw[List.length_cons,Zja,Zbf,List.append_assoc,e]
  have er:({ ({ r with idx:=0 }:Rec) with idx:=i+pre.length }:Rec)=r:=by rw[<-hi]
  simp only [er,List.drop_left]
  rw[Zjb l (pre++[r]) i t (fun s hs=>by
   rcases List.mem_append.1 hs with h | h
   ·exact hp s h
   ·rw[List.mem_singleton.1 h];exact hr) (fun s hs=>hl s (by simp[hs])) (by
   have e2:i+((pre++[r]).length:Int)=i+(pre.length:Int)+1:=by simp;omega
   rw[e2];exact hc)]
  simp
theorem Zrs {l:List Rec} (h:ZaY l):ZaF (l.headD Zai):=by
 cases l with
 | nil=>exact absurd h.1 (by simp)
 | cons r t=>exact h.2.2.1 r (by simp)
theorem Zrt {l:List Rec} (h:ZaY l):Znf (ZcU l)=l:=by
 have hh:=Zrs h
 obtain⟨h1,h2,h3,h4⟩:=h
 obtain⟨_,i0,i1,_⟩:=hh
 have d1:Zab (ZcU l)=((l.headD Zai).idx.toNat,(Lib.uvarint (l.headD Zai).idx.toNat).length):=by
  unfold ZcU
  exact ZaL _ _ (by omega)
 have e1:(ZcU l).drop (Lib.uvarint (l.headD Zai).idx.toNat).length=Lib.uvarint l.length++Zbf [] l:=by
  unfold ZcU
  rw[List.drop_left]
 have d2:Zab (Lib.uvarint l.length++Zbf [] l)=(l.length,(Lib.uvarint l.length).length):=ZaL _ _ (by omega)
 unfold Znf
 rw[d1]
 simp only
 rw[<-List.drop_drop,e1,d2]
 simp only [List.drop_left]
 have h:=Zjb l [] ((l.headD Zai).idx.toNat:Nat) [] (by simp) h3 (by
  have e:(((l.headD Zai).idx.toNat:Nat):Int)+(([]:List Rec).length:Int)=(l.headD Zai).idx:=by rw[List.length_nil];omega
  rw[e]
  exact h4)
 rw[List.append_nil] at h
 exact h
theorem ZtC {l:List Rec} (h:ZaY l):ZfS (ZcU l)=some l:=by
 unfold ZfS
 rw[Zrt h,if_pos ⟨h,rfl⟩]
theorem Zhk {b:List UInt8} {l:List Rec} (h:ZfS b=some l):ZaY l∧ZcU l=b:=by
 unfold ZfS at h
 split at h
 ·rename_i hh
  injection h with h
  rw[<-h]
  exact hh
 ·cases h
set_option linter.unusedVariables false in
def ZwZ (v:Nat) (d:List UInt8):Option (List Rec):=
 if hd:d=[] then some []
 else if hk:(Zab d).2=0∨d.length<(Zab d).2+(Zab d).1∨(Zab d).1<1∨(d.getD (Zab d).2 0).toNat≠v then none
 else if(decR ((d.drop (Zab d).2).take (Zab d).1)).2≠0 then none
 else(ZwZ v (d.drop ((Zab d).2+(Zab d).1))).map (fun t=>(decR ((d.drop (Zab d).2).take (Zab d).1)).1::t)
termination_by d.length
decreasing_by
 have h1:d.length≠0:=by simpa using hd
 rw[List.length_drop]
 omega
def Zyt (v:Nat) (r:Rec):List UInt8:=Lib.uvarint (encR v r).length++encR v r
def Zzc (v:Nat) (l:List Rec):List UInt8:=if v=3 then ZcU l else l.flatMap (Zyt v)
def Zbk (v k f:Nat):List UInt8:=108::(Lib.uvarint v++(Lib.uvarint k++Lib.uvarint f))
def Zyu:Nat->List (List UInt8)->List UInt8
 | _,[]=>[]
 | d,x::xs=>Lib.uvarint d++Zyu (Zad x).length xs
def Zyv (H:List UInt8) (B:List (List UInt8)):List UInt8:=Lib.uvarint B.length++Zyu (Zad H).length B
def ZqG (l:List Rec) (first:Int):Prop:=l.length<=4096∧(∀ r ∈ l,ZaF r)∧ZaO first l
instance (l:List Rec) (first:Int):Decidable (ZqG l first):=by unfold ZqG;infer_instance
def MayG (s:Seg):Prop:=(0<=s.kind∧s.kind<6∧0<=s.first∧s.first<4611686018427387904)∧ZqG s.recs s.first
instance (s:Seg):Decidable (MayG s):=by unfold MayG;infer_instance
def Zcb (d:List UInt8):Except Int (Nat × Nat × Nat):=
 let i:=(Zab (d.drop 1)).2
 let j:=(Zab (d.drop (1+i))).2
 let m:=(Zab (d.drop (1+i+j))).2
 if d=[]∨d.getD 0 0≠108 then .error 3
 else if i=0∨j=0∨m=0∨1+i+j+m≠d.length then .error 3
 else if(Zab (d.drop 1)).1<1∨3<(Zab (d.drop 1)).1 then .error 6
 else if 6<=(Zab (d.drop (1+i))).1 then .error 1
 else .ok ((Zab (d.drop 1)).1,(Zab (d.drop (1+i))).1,(Zab (d.drop (1+i+j))).1)
def ZqH (v:Nat) (d:List UInt8) (next:Int):Option (List Rec):=
 match (if v<3 then ZwZ v d else ZfS d) with
 | none=>none
 | some l=>if((1<=l.length∧l.length<=16)∧ZqG l next)∧Zzc v l=d then some l else none
def ZcL (v:Nat) (first:Int):List (List UInt8)->List Rec->Nat->List Rec × Nat × Int
 | [],acc,_=>(acc,0,0)
 | d::ds,acc,last=>
  match ZqH v d (first+acc.length) with
  | none=>(acc,0,3)
  | some r=>if last<16 then(acc,0,3) else if 4096<acc.length+r.length then(acc,0,5)
   else((ZcL v first ds (acc++r) r.length).1,(ZcL v first ds (acc++r) r.length).2.1+1,(ZcL v first ds (acc++r) r.length).2.2)
def Zyw (L:List (List UInt8)):Seg × Int:=
 if L.length<2 then(Zgu,16)
 else match Zcb (L.headD []) with
  | .error e=>(Zgu,e)
  | .ok (v,k,f)=>
   if(ZcL v f (L.tail.dropLast) [] 16).2.2≠0 then(Zgu,(ZcL v f (L.tail.dropLast) [] 16).2.2)
   else if Zyv (L.headD []) L.tail.dropLast=L.getLastD [] then(⟨k,f,(ZcL v f (L.tail.dropLast) [] 16).1⟩,0) else(Zgu,16)
def ZvK (L:List (List UInt8)):Seg × Nat × Bool:=
 if L=[] then(Zgu,0,false)
 else match Zcb (L.headD []) with
  | .error _=>(Zgu,0,false)
  | .ok (v,k,f)=>(⟨k,f,(ZcL v f L.tail [] 16).1⟩,(Zag (L.take (1+(ZcL v f L.tail [] 16).2.1))).length,true)
def Zdh (b:List UInt8):Seg × Nat × Bool:=ZvK (Zal b).1
structure Pce where
 name:Int
 first:Int
 stop:Int
def Zhl:Pce:=⟨0,0,0⟩
structure Lgb where
 first:Int
 recs:List Rec
 pcs:List Pce
def Lgb.next (b:Lgb):Int:=b.first+b.recs.length
def Lgb.start (b:Lgb) (name first:Int):Lgb:=⟨if b.pcs.length=0 then first else b.first,b.recs,b.pcs++[⟨name,first,first⟩]⟩
def ZbR (l:List Pce) (n:Nat):List Pce:=l.set (l.length-1) ⟨(l.getD (l.length-1) Zhl).name,(l.getD (l.length-1) Zhl).first,(l.getD (l.length-1) Zhl).stop+n⟩
def Lgb.add (b:Lgb) (l:List Rec):Lgb:=⟨b.first,b.recs++l,ZbR b.pcs l.length⟩
def Lgb.leads (b:Lgb) (base:ZaX):Prop:=b.pcs.length≠0∧b.first<=base.idx∧base.idx<=b.next∧(ZaG base (b.recs.drop (base.idx-b.first).toNat)).2=0
instance (b:Lgb) (base:ZaX):Decidable (b.leads base):=by unfold Lgb.leads;infer_instance
def Lgb.behind (b:Lgb) (base:ZaX):Lgb × ZaX:=
 if b.leads base then(b,(ZaG base (b.recs.drop (base.idx-b.first).toNat)).1) else(⟨base.idx,[],[]⟩,base)
structure Sto where
 log:Lgb
 bases:List ZaX
 now:ZaX
 synced:Int
 cur:Int
 nw:Bool
def Sto.next (s:Sto):Int:=s.log.next
def Sto.base (s:Sto):ZaX:=s.bases.getD (s.bases.length-1) Zbb
abbrev SDk:=Sto × Dk
def Zan (d:Dk):List Int:=(ZbW d).map Prod.fst
def ZaR (l:List Int) (first:Int):List Int:=l.filter fun n=>!(decide (n<first) || decide ((n-first) % 2≠0))
def Zbz (d:Dk) (first:Int):Int:=(ZaR (Zan d) first).getD ((ZaR (Zan d) first).length-1) (first-2)+2
def Zeu (H:List UInt8) (kind:Int):Option Nat:=
 match Zcb H with
 | .ok (v,k,f)=>if v=3∧(k:Int)=kind then some f else none
 | .error _=>none
def Zbl (first:Int):List (List UInt8)->List Rec->List Rec
 | [],acc=>acc
 | d::t,acc=>
  match ZfS d with
  | none=>acc
  | some l=>if(l.headD Zai).idx=first+acc.length then Zbl first t (acc++l) else acc
def Zvv (b:List UInt8) (kind:Int):Option (Nat × List Rec):=
 match (Zal b).1 with
 | []=>none
 | H::B=>(Zeu H kind).map fun f=>(f,Zbl f B [])
def ZdZ:Lgb:=⟨0,[],[]⟩
def logOne (d:Dk) (kind:Int) (b:Lgb) (n:Int):Lgb:=
 match Zvv (Zcv d n).1 kind with
 | none=>b
 | some (f,l)=>if b.pcs.length=0∨(f:Int)=b.next then(b.start n f).add l else b
def ZhS (d:Dk) (kind:Int):Lgb:=(ZaR (Zan d) 2).foldl (logOne d kind) ZdZ
def ZbV (kind:Int):ZaX:=⟨0,Zcx kind,[]⟩
def ZcE (d:Dk) (kind:Int) (l:List ZaX) (n:Int):List ZaX:=
 if(ZoQ (Zcv d n).1).2=0∧(ZoQ (Zcv d n).1).1.st.kind=kind then l++[(ZoQ (Zcv d n).1).1] else l
def Zbe (d:Dk) (kind:Int):List ZaX:=(ZaR (Zan d) 3).foldl (ZcE d kind) [ZbV kind]
def Zdx (l:List ZaX):ZaX:=l.getD (l.length-1) Zbb
def ZoT (d:Dk) (kind:Int):Sto:=
 ⟨((ZhS d kind).behind (Zdx (Zbe d kind))).1,Zbe d kind,((ZhS d kind).behind (Zdx (Zbe d kind))).2,((ZhS d kind).behind (Zdx (Zbe d kind))).1.next,0,false⟩
def Zku (d:Dk) (kind:Int):Int:=if kind<0∨6<=kind then 1 else if d.power=0 then 11 else 0
def ZgX:List (SDk->SDk × Int)->SDk->SDk × Int
 | [],x=>(x,0)
 | f::t,x=>if(f x).2=0 then ZgX t (f x).1 else f x
def Zco (x:SDk):SDk × Int:=((if(Zbd x.2).2=0 then { x.1 with nw:=false } else x.1,(Zbd x.2).1),(Zbd x.2).2)
def Zav (x:SDk):SDk × Int:=if x.1.nw=true then Zco x else(x,0)
def Zxv (f:Dk->Dk × Int) (x:SDk):SDk × Int:=((x.1,(f x.2).1),(f x.2).2)
def Zas (x:SDk):SDk × Int:=Zxv (fun d=>ZdX d x.1.cur) x
def Zdy (s:Sto):Sto:={ s with synced:=s.next }
def Zch (x:SDk):SDk × Int:=
 if x.1.cur=0 then((Zdy x.1,x.2),0) else
 if(ZgX [Zas,Zav] x).2=0 then((Zdy (ZgX [Zas,Zav] x).1.1,(ZgX [Zas,Zav] x).1.2),0) else ZgX [Zas,Zav] x
def Zcc (x:SDk):SDk × Int:=if(Zch x).2=0 then(({ (Zch x).1.1 with cur:=0 },(Zch x).1.2),0) else Zch x
def ZcM (s:Sto) (l:List Rec):List UInt8:=if s.cur=0 then Zad (Zbk 3 s.now.st.kind.toNat s.next.toNat)++Zad (ZcU l) else Zad (ZcU l)
def ZdJ (s:Sto) (d:Dk):Int:=if s.cur=0 then Zbz d 2 else s.cur
def ZbE (s:Sto) (name:Int) (l:List Rec):Sto:=
 { s with log:=(if s.cur=0 then s.log.start name s.next else s.log).add l,now:=(ZaG s.now l).1,cur:=name,nw:=if s.cur=0 then true else s.nw }
def ZaT (l:List Rec) (x:SDk):SDk × Int:=
 if ¬ ZaY l then(x,1) else if(l.headD Zai).idx≠x.1.next then(x,15) else
 if(Zaw x.2 (ZdJ x.1 x.2) (ZcM x.1 l)).2=0 then((ZbE x.1 (ZdJ x.1 x.2) l,(Zaw x.2 (ZdJ x.1 x.2) (ZcM x.1 l)).1),0)
 else((x.1,(Zaw x.2 (ZdJ x.1 x.2) (ZcM x.1 l)).1),(Zaw x.2 (ZdJ x.1 x.2) (ZcM x.1 l)).2)
def ZdO (s:Sto) (a b:Int):List Rec × Int:=
 if a<0∨b<a∨s.next<b then([],12) else if a<s.log.first then([],13) else((s.log.recs.take (b-s.log.first).toNat).drop (a-s.log.first).toNat,0)
theorem Zcp (l:List UInt8) (a b:Nat):(l.drop a).take b++l.drop (a+b)=l.drop a:=by rw[<-List.drop_drop,List.take_append_drop]
theorem ZvL (e:Ent):1<=(ZyU e).length:=by
 unfold ZyU
 have:=Zhd e.proc.toNat
 rw[List.length_append]
 omega
theorem ZtD (t:List Ent):t.length<=(Zna t).length:=by
 induction t with
 | nil=>simp
 | cons e t ih=>
  unfold Zna at ih ⊢
  rw[List.flatMap_cons,List.length_append,List.length_cons]
  have:=ZvL e
  omega
theorem ZfT:∀ (n:Nat) (b:List UInt8) (t:List Ent) (x:List UInt8),ZdI n b=some (t,x)->t.length=n∧b=Zna t++x
 | 0,b,t,x,h=>by
  simp only [ZdI,Option.some.injEq,Prod.mk.injEq] at h
  obtain⟨rfl,rfl⟩:=h
  exact⟨rfl,rfl⟩
 | n+1,b,t,x,h=>by
  rw[ZdI] at h
  split at h
  ·cases h
  ·rename_i hne
   have n1:(Zab b).2≠0:=fun e=>hne (.inl e)
   have n2:(Zab (b.drop (Zab b).2)).2≠0:=fun e=>hne (.inr (.inl e))
   have n3:(Zaf (b.drop ((Zab b).2+(Zab (b.drop (Zab b).2)).2))).2≠0:=fun e=>hne (.inr (.inr e))
   rw[Option.map_eq_some_iff] at h
   obtain⟨⟨t',x'⟩,hr,he⟩:=h
   simp only [Prod.mk.injEq] at he
   obtain⟨rfl,rfl⟩:=he
   obtain⟨i1,i2⟩:=ZfT n _ t' x' hr
   refine⟨by rw[List.length_cons,i1],?_⟩
   have t1:=Zbn n1
   have t2:=Zbn n2
   have t3:=ZkQ n3
   have E:Zna (⟨(Zab b).1,(Zab (b.drop (Zab b).2)).1,zag (Zaf (b.drop ((Zab b).2+(Zab (b.drop (Zab b).2)).2))).1⟩::t')++x'=Lib.uvarint (Zab b).1++(Lib.uvarint (Zab (b.drop (Zab b).2)).1++(Lib.uvarint (Zaf (b.drop ((Zab b).2+(Zab (b.drop (Zab b).2)).2))).1++(Zna t'++x'))):=by
    unfold Zna
    rw[List.flatMap_cons]
    unfold ZyU
    simp only [Int.toNat_natCast,Zed,List.append_assoc]
   have g3:Lib.uvarint (Zaf (b.drop ((Zab b).2+(Zab (b.drop (Zab b).2)).2))).1++(Zna t'++x')=b.drop ((Zab b).2+(Zab (b.drop (Zab b).2)).2):=by
    rw[<-i2,t3]
    exact Zcp _ _ _
   have g2:Lib.uvarint (Zab (b.drop (Zab b).2)).1++b.drop ((Zab b).2+(Zab (b.drop (Zab b).2)).2)=b.drop (Zab b).2:=by
    rw[t2]
    exact Zcp _ _ _
   rw[E,g3,g2,t1,List.take_append_drop]
theorem Zng {b:List UInt8} {t:List Ent} (h:Zeh b=some t):Zzb t=b:=by
 unfold Zeh at h
 split at h
 ·cases h
 ·rename_i hne
  have n1:(Zab b).2≠0:=fun e=>hne (.inl e)
  cases hr:ZdI (Zab b).1 (b.drop (Zab b).2) with
  | none=>rw[hr] at h;cases h
  | some p=>
   obtain⟨t',x⟩:=p
   rw[hr] at h
   cases x with
   | cons c x=>cases h
   | nil=>
    simp only [Option.some.injEq] at h
    subst h
    obtain⟨i1,i2⟩:=ZfT _ _ _ _ hr
    rw[List.append_nil] at i2
    unfold Zzb
    rw[i1,<-i2,Zbn n1,List.take_append_drop]
theorem ZoU {w:List UInt8} (h:(ZbD w).2=0):ZkT ⟨0,(ZbD w).1.st,(ZbD w).1.tab⟩=w:=by
 unfold ZbD at h ⊢
 split at h
 ·exact absurd h (by decide)
 ·rename_i hne
  rw[if_neg hne]
  have n1:(Zab w).2≠0:=fun e=>hne (.inl e)
  have n2:(Zab w).2+(Zab w).1<=w.length:=by omega
  split at h
  ·exact absurd h (by decide)
  ·rename_i h3
   rw[if_neg h3]
   cases ht:Zeh (w.drop ((Zab w).2+(Zab w).1)) with
   | none=>rw[ht] at h;exact absurd h (by show ¬ ((3:Int)=0);decide)
   | some t=>
    rw[ht] at h
    have hs:=Zrl h
    have htl:=Zng ht
    show ZkT ⟨0,(ZgW ((w.drop (Zab w).2).take (Zab w).1)).1,t⟩=w
    unfold ZkT
    rw[hs.2,htl,List.length_take,List.length_drop,Nat.min_eq_left (by omega),Zbn n1,<-List.drop_drop,List.take_append_drop,List.take_append_drop]
theorem ZoV {d:List UInt8} (h:(ZbH d).2.2.2=0) {w:List UInt8} (hl:w.length=(ZbH d).2.1) (hc:ZaH 0 w=(ZbH d).2.2.1):d=ZvI (ZbH d).1 w∧(ZbH d).1<4611686018427387904:=by
 unfold ZbH at h hl hc ⊢
 split at h
 ·exact absurd h (by decide)
 ·rename_i h0
  rw[if_neg h0] at hl hc ⊢
  simp only at h hl hc ⊢
  split at h
  ·exact absurd h (by decide)
  ·rename_i h1
   rw[if_neg h1] at hl hc ⊢
   split at h
   ·exact absurd h (by decide)
   ·rename_i h2
    rw[if_neg h2] at hl hc ⊢
    split at h
    ·exact absurd h (by decide)
    ·rename_i h3
     rw[if_neg h3] at hl hc ⊢
     simp only at hl hc ⊢
     have n1:(Zab (d.drop 1)).2≠0:=fun e=>h1 (.inl e)
     have n2:(Zab (d.drop (1+(Zab (d.drop 1)).2))).2≠0:=fun e=>h1 (.inr (.inl e))
     have n3:(Zab (d.drop (1+(Zab (d.drop 1)).2+(Zab (d.drop (1+(Zab (d.drop 1)).2))).2))).2≠0:=fun e=>h1 (.inr (.inr e))
     have hv:(Zab (d.drop 1)).1=3:=Decidable.not_not.1 h2
     have h4:(d.drop (1+(Zab (d.drop 1)).2+(Zab (d.drop (1+(Zab (d.drop 1)).2))).2+(Zab (d.drop (1+(Zab (d.drop 1)).2+(Zab (d.drop (1+(Zab (d.drop 1)).2))).2))).2)).length=4:=Decidable.not_not.1 h3
     have t1:=Zbn n1
     have t2:=Zbn n2
     have t3:=Zbn n3
     have hlb:=Zer (d.drop (1+(Zab (d.drop 1)).2+(Zab (d.drop (1+(Zab (d.drop 1)).2))).2+(Zab (d.drop (1+(Zab (d.drop 1)).2+(Zab (d.drop (1+(Zab (d.drop 1)).2))).2))).2))
     rw[h4] at hlb
     have hfst:(Zab (d.drop (1+(Zab (d.drop 1)).2))).1<4611686018427387904:=by
      rcases Zau (d.drop (1+(Zab (d.drop 1)).2)) with e | e
      ·rw[e];decide
      ·exact e.1
     refine⟨?_,hfst⟩
     unfold ZvI
     have g3:Lib.uvarint w.length++Lib.leBytes 4 (ZaH 0 w)=d.drop (1+(Zab (d.drop 1)).2+(Zab (d.drop (1+(Zab (d.drop 1)).2))).2):=by
      rw[hc,hlb,hl,t3]
      exact Zcp _ _ _
     have g2:Lib.uvarint (Zab (d.drop (1+(Zab (d.drop 1)).2))).1++d.drop (1+(Zab (d.drop 1)).2+(Zab (d.drop (1+(Zab (d.drop 1)).2))).2)=d.drop (1+(Zab (d.drop 1)).2):=by
      rw[t2]
      exact Zcp _ _ _
     have g1:Lib.uvarint 3++d.drop (1+(Zab (d.drop 1)).2)=d.drop 1:=by
      rw[<-hv,t1]
      exact Zcp _ _ _
     rw[g3,g2,g1]
     have h00:(d.getD 0 0).toNat=115:=Decidable.not_not.1 (fun e=>h0 (.inr e))
     have h01:¬ d.length<1:=fun e=>h0 (.inl e)
     cases d with
     | nil=>exact absurd (by decide) h01
     | cons c r=>
      have:c=115:=by
       apply UInt8.toNat_inj.1
       simpa using h00
      rw[this]
      rfl
theorem Zru {b:List UInt8} (h:(ZoQ b).2=0):Zks (ZoQ b).1∧encN (ZoQ b).1=b:=by
 unfold ZoQ at h ⊢
 by_cases hw:(Zal b).2.2=0
 case neg=>
  rw[if_pos hw] at h
  exact absurd h (by show((Zal b).2.2:Int)≠0;omega)
 rw[if_neg (Decidable.not_not.2 hw)] at h ⊢
 obtain⟨hb,hlen⟩:=Zhf _ b zL hw
 generalize (Zal b).1=L at *
 unfold ZkU at h ⊢
 cases L with
 | nil=>exact absurd h (by decide)
 | cons d P=>
  simp only at h ⊢
  split at h
  ·rename_i e;exact absurd h e
  rename_i h1
  rw[if_neg h1]
  split at h
  ·exact absurd h (by decide)
  rename_i h2
  rw[if_neg h2]
  split at h
  ·exact absurd h (by decide)
  rename_i h3
  rw[if_neg h3]
  split at h
  ·exact absurd h (by decide)
  rename_i h4
  rw[if_neg h4]
  split at h
  ·rename_i e;exact absurd h e
  rename_i h5
  rw[if_neg h5]
  split at h
  ·rename_i h6
   rw[if_pos h6]
   have hm:=ZoV (Decidable.not_not.1 h1) (Decidable.not_not.1 h2) (Decidable.not_not.1 h4)
   have hr:=ZoU (Decidable.not_not.1 h5)
   have hp:=ZeV P (Decidable.not_not.1 h3)
   refine⟨h6,?_⟩
   have hwn:ZkT ⟨((ZbH d).1:Nat),(ZbD P.flatten).1.st,(ZbD P.flatten).1.tab⟩=P.flatten:=hr
   unfold encN ZwY
   rw[hwn,hp]
   show Zag (ZvI (((ZbH d).1:Nat):Int).toNat P.flatten::P)=b
   rw[Int.toNat_natCast,<-hm.1]
   exact hb
  ·exact absurd h (by decide)
def ZeX:Int->List Pce->Int->Prop
 | i,[],j=>i=j
 | i,p::t,j=>p.first=i∧i<=p.stop∧ZeX p.stop t j
theorem Zjc:∀ {l:List Pce} {i j:Int},ZeX i l j->i<=j
 | [],_,_,h=>Int.le_of_eq h
 | _::_,_,_,h=>by
  have:=Zjc h.2.2
  have:=h.2.1
  omega
theorem Zfm:∀ {l:List Pce} {i j:Int},ZeX i l j->∀ p ∈ l,i<=p.first∧p.first<=p.stop∧p.stop<=j
 | q::t,i,j,h,p,hp=>by
  obtain⟨h1,h2,h3⟩:=h
  rcases List.mem_cons.1 hp with rfl | hp
  ·have:=Zjc h3
   omega
  ·have:=Zfm h3 p hp
   omega
theorem Zej:∀ {a b:List Pce} {i j:Int},ZeX i (a++b) j↔∃ k,ZeX i a k∧ZeX k b j
 | [],b,i,j=>by
  constructor
  ·intro h
   exact⟨i,rfl,h⟩
  ·rintro⟨k,h1,h2⟩
   have e:i=k:=h1
   rw[e]
   exact h2
 | p::a,b,i,j=>by
  constructor
  ·rintro⟨h1,h2,h3⟩
   obtain⟨k,h4,h5⟩:=Zej.1 h3
   exact⟨k,⟨h1,h2,h4⟩,h5⟩
  ·rintro⟨k,⟨h1,h2,h4⟩,h5⟩
   exact⟨h1,h2,Zej.2 ⟨k,h4,h5⟩⟩
theorem Zgv (l:List Pce) (p:Pce) (n:Nat):ZbR (l++[p]) n=l++[⟨p.name,p.first,p.stop+n⟩]:=by
 unfold ZbR
 have e:(l++[p]).length-1=l.length:=by simp
 rw[e]
 have e2:(l++[p]).getD l.length Zhl=p:=by simp[List.getD]
 rw[e2,List.set_append_right _ _ zL]
 simp
theorem Zcq (l:List Pce) (n:Nat):(ZbR l n).length=l.length:=by simp[ZbR]
theorem ZoW {α:Type} {l:List α} (h:l.length≠0):∃ a x,l=a++[x]:=by
 have hne:l≠[]:=fun e=>h (by rw[e];rfl)
 exact⟨l.dropLast,l.getLast hne,(List.dropLast_concat_getLast hne).symm⟩
theorem ZoX {l:List Pce} {i j:Int} {n:Nat} (h:ZeX i l j) (h0:l.length≠0):ZeX i (ZbR l n) (j+n):=by
 obtain⟨a,p,rfl⟩:=ZoW h0
 rw[Zgv,Zej]
 obtain⟨k,h1,h2,h3,h4⟩:=Zej.1 h
 refine⟨k,h1,h2,?_,?_⟩
 ·show k<=p.stop+n
  omega
 ·show p.stop+n=j+n
  have e:p.stop=j:=h4
  rw[e]
theorem ZoY {l:List Pce} {i j:Int} (h:ZeX i l j) (name:Int):ZeX i (l++[⟨name,j,j⟩]) j:=Zej.2 ⟨j,h,rfl,Int.le_refl _,rfl⟩
theorem Zkv (l:List Pce) (n:Nat):(ZbR l n).map Pce.name=l.map Pce.name:=by
 by_cases h:l.length=0
 ·rw[List.eq_nil_of_length_eq_zero h]
  rfl
 ·obtain⟨a,p,rfl⟩:=ZoW h
  rw[Zgv]
  simp
structure OkG (b:Lgb):Prop where
 f0:0<=b.first
 fits:∀ r ∈ b.recs,ZaF r
 ch:ZeX b.first b.pcs b.next
 rc:ZaO b.first b.recs
 top:b.next<=4611686018427387904
theorem Zfn:∀ {a b:List Rec} {i:Int},ZaO i (a++b)↔ZaO i a∧ZaO (i+a.length) b
 | [],b,i=>by simp[ZaO]
 | r::a,b,i=>by
  have e:i+1+(a.length:Int)=i+(((r::a).length:Nat):Int):=by rw[List.length_cons];omega
  rw[List.cons_append,<-e]
  show(r.idx=i∧ZaO (i+1) (a++b))↔(r.idx=i∧ZaO (i+1) a)∧ZaO (i+1+(a.length:Int)) b
  rw[Zfn,and_assoc]
theorem ZoZ {l:List Rec} {i:Int} (h:ZaO i l) (k:Nat) (hk:k<=l.length):ZaO (i+k) (l.drop k):=by
 rw[<-List.take_append_drop k l] at h
 have:=(Zfn.1 h).2
 rwa [List.length_take,Nat.min_eq_left hk] at this
theorem ZqI (i:Int) (h0:0<=i) (h1:i<=4611686018427387904):OkG ⟨i,[],[]⟩:=by
 have e:(⟨i,[],[]⟩:Lgb).next=i:=by simp[Lgb.next]
 exact⟨h0,(fun r hr=>by cases hr),by rw[e];exact rfl,trivial,by rw[e];exact h1⟩
theorem Lgb.start_next (b:Lgb) (n f:Int) (h:b.pcs.length=0->b.recs=[]) (hf:b.pcs.length=0∨f=b.next):(b.start n f).next=f:=by
 unfold Lgb.start Lgb.next
 by_cases h0:b.pcs.length=0
 ·rw[if_pos h0,h h0]
  simp
 ·rw[if_neg h0]
  rcases hf with hf | hf
  ·exact absurd hf h0
  ·rw[hf]
   rfl
theorem OkG.empty {b:Lgb} (h:OkG b) (h0:b.pcs.length=0):b.recs=[]:=by
 have h1:=h.ch
 rw[List.eq_nil_of_length_eq_zero h0] at h1
 have h2:b.first=b.next:=h1
 unfold Lgb.next at h2
 exact List.eq_nil_of_length_eq_zero (by omega)
theorem OkG.start {b:Lgb} (h:OkG b) (n f:Int) (h0:0<=f) (h1:f<=4611686018427387904) (hf:b.pcs.length=0∨f=b.next):OkG (b.start n f):=by
 have hn:=b.start_next n f h.empty hf
 by_cases he:b.pcs.length=0
 ·have e:b.start n f=⟨f,[],[⟨n,f,f⟩]⟩:=by
   unfold Lgb.start
   rw[if_pos he,h.empty he,List.eq_nil_of_length_eq_zero he]
   rfl
  rw[e] at hn ⊢
  exact⟨h0,(fun r hr=>by cases hr),by rw[hn];exact⟨rfl,Int.le_refl _,rfl⟩,trivial,by rw[hn];exact h1⟩
 ·have hfn:f=b.next:=hf.resolve_left he
  have e:b.start n f=⟨b.first,b.recs,b.pcs++[⟨n,f,f⟩]⟩:=by
   unfold Lgb.start
   rw[if_neg he]
  rw[e] at hn ⊢
  refine⟨h.f0,h.fits,?_,h.rc,by rw[hn];exact h1⟩
  rw[hn,hfn]
  exact ZoY h.ch n
theorem Lgb.add_next (b:Lgb) (l:List Rec):(b.add l).next=b.next+l.length:=by
 unfold Lgb.add Lgb.next
 simp only [List.length_append]
 omega
theorem OkG.add {b:Lgb} (h:OkG b) (l:List Rec) (h0:b.pcs.length≠0) (hf:∀ r ∈ l,ZaF r) (hc:ZaO b.next l) (ht:b.next+l.length<=4611686018427387904):OkG (b.add l):=by
 refine⟨h.f0,fun r hr=>?_,?_,?_,by rw[b.add_next];exact ht⟩
 ·rcases List.mem_append.1 hr with hr | hr
  ·exact h.fits r hr
  ·exact hf r hr
 ·rw[b.add_next]
  exact ZoX h.ch h0
 ·exact Zfn.2 ⟨h.rc,hc⟩
theorem Zfo:∀ {l:List Rec} {i:Int},ZaO i l->(∀ r ∈ l,ZaF r)->l≠[]->i+l.length<=4611686018427387904
 | [],_,_,_,h=>absurd rfl h
 | [r],i,h,hf,_=>by
  have h1:r.idx=i:=h.1
  have h2:=(hf r List.mem_cons_self).2.2.1
  simp only [List.length_singleton]
  omega
 | r::q::t,i,h,hf,_=>by
  have:=Zfo (l:=q::t) h.2 (fun x hx=>hf x (List.mem_cons_of_mem _ hx)) (by simp)
  simp only [List.length_cons] at this ⊢
  omega
open Go.RowKit Go.Shelf
def ZvM:Go.Shelf.Ren:=⟨fun | 5=>145 | 7=>192 | n=>n,fun | 23=>65 | 25=>3 | 3=>115 | 4=>4 | 20=>20 | n=>n,fun | n=>n⟩
theorem layW:Go.Proofs.SlLaysW.n5 Tryz.prog ZvM:={
 mixed:=by kernel_rfl
 f5:=⟨Tryz.f145.name,by decide,Tryz.func145.trans (congrArg some (by kernel_rfl))⟩
 f7:=Tryz.func192.trans (congrArg some (by kernel_rfl))
 t4:=Tryz.underlying4
 a4:=Tryz.isAgg4
 z4:=Tryz.sizeOf4
 v4:=Tryz.zeroValue4
 t20:=Tryz.underlying20
 a20:=Tryz.isAgg20
 z20:=Tryz.sizeOf20
 v20:=Tryz.zeroValue20
 t23:=Tryz.underlying65
 a23:=Tryz.isAgg65
 z23:=Tryz.sizeOf65
 v23:=Tryz.zeroValue65 }
def ZvN:Go.Shelf.Ren:=⟨fun | 189=>67 | 125=>109 | 257=>108 | 128=>155 | 129=>156 | 294=>146 | 295=>147 | 296=>148 | 297=>149 | 298=>150 | 299=>151 | 216=>152 | 300=>153 | 301=>154 | 328=>193 | 329=>194 | 330=>195 | 331=>196 | 332=>197 | 215=>198 | 343=>216 | n=>n,fun | 28=>23 | 3=>3 | 46=>157 | 0=>0 | 51=>145 | 53=>202 | 4=>4 | 183=>194 | 182=>193 | 131=>170 | 5=>5 | 9=>9 | 218=>239 | 222=>208 | 228=>268 | 229=>247 | n=>n,fun | n=>n⟩
theorem Zzd:Go.Proofs.Lays.n189 Tryz.prog ZvN:={
 mixed:=by kernel_rfl
 f125:=Tryz.func109.trans (congrArg some (by kernel_rfl))
 f128:=Tryz.func155.trans (congrArg some (by kernel_rfl))
 f129:=Tryz.func156.trans (congrArg some (by kernel_rfl))
 f189:=Tryz.func67.trans (congrArg some (by kernel_rfl))
 f215:=Tryz.func198.trans (congrArg some (by kernel_rfl))
 f216:=Tryz.func152.trans (congrArg some (by kernel_rfl))
 f257:=Tryz.func108.trans (congrArg some (by kernel_rfl))
 f294:=Tryz.func146.trans (congrArg some (by kernel_rfl))
 f295:=Tryz.func147.trans (congrArg some (by kernel_rfl))
 f296:=Tryz.func148.trans (congrArg some (by kernel_rfl))
 f297:=Tryz.func149.trans (congrArg some (by kernel_rfl))
 f298:=Tryz.func150.trans (congrArg some (by kernel_rfl))
 f299:=Tryz.func151.trans (congrArg some (by kernel_rfl))
 f300:=Tryz.func153.trans (congrArg some (by kernel_rfl))
 f301:=Tryz.func154.trans (congrArg some (by kernel_rfl))
 f328:=Tryz.func193.trans (congrArg some (by kernel_rfl))
 f329:=Tryz.func194.trans (congrArg some (by kernel_rfl))
 f330:=Tryz.func195.trans (congrArg some (by kernel_rfl))
 f331:=Tryz.func196.trans (congrArg some (by kernel_rfl))
 f332:=Tryz.func197.trans (congrArg some (by kernel_rfl))
 f343:=Tryz.func216.trans (congrArg some (by kernel_rfl))
 t0:=Tryz.underlying0
 a0:=Tryz.isAgg0
 z0:=Tryz.sizeOf0
 v0:=Tryz.zeroValue0
 t3:=Tryz.underlying3
 a3:=Tryz.isAgg3
 z3:=Tryz.sizeOf3
 v3:=Tryz.zeroValue3
 t4:=Tryz.underlying4
 a4:=Tryz.isAgg4
 z4:=Tryz.sizeOf4
 v4:=Tryz.zeroValue4
 t5:=Tryz.underlying5
 a5:=Tryz.isAgg5
 z5:=Tryz.sizeOf5
 v5:=Tryz.zeroValue5
 t9:=Tryz.underlying9
 a9:=Tryz.isAgg9
 z9:=Tryz.sizeOf9
 v9:=Tryz.zeroValue9
 t28:=Tryz.underlying23
 a28:=Tryz.isAgg23
 z28:=Tryz.sizeOf23
 v28:=Tryz.zeroValue23
 t46:=Tryz.underlying157
 a46:=Tryz.isAgg157
 z46:=Tryz.sizeOf157
 v46:=Tryz.zeroValue157
 t51:=Tryz.underlying145
 a51:=Tryz.isAgg145
 z51:=Tryz.sizeOf145
 v51:=Tryz.zeroValue145
 t53:=Tryz.underlying202
 a53:=Tryz.isAgg202
 z53:=Tryz.sizeOf202
 v53:=Tryz.zeroValue202
 t131:=Tryz.underlying170
 a131:=Tryz.isAgg170
 z131:=Tryz.sizeOf170
 v131:=Tryz.zeroValue170
 t182:=Tryz.underlying193
 a182:=Tryz.isAgg193
 z182:=Tryz.sizeOf193
 v182:=Tryz.zeroValue193
 t183:=Tryz.underlying194
 a183:=Tryz.isAgg194
 z183:=Tryz.sizeOf194
 v183:=Tryz.zeroValue194
 t218:=Tryz.underlying239
 a218:=Tryz.isAgg239
 z218:=Tryz.sizeOf239
 v218:=Tryz.zeroValue239
 t222:=Tryz.underlying208
 a222:=Tryz.isAgg208
 z222:=Tryz.sizeOf208
 v222:=Tryz.zeroValue208
 t228:=Tryz.underlying268
 a228:=Tryz.isAgg268
 z228:=Tryz.sizeOf268
 v228:=Tryz.zeroValue268
 t229:=Tryz.underlying247
 a229:=Tryz.isAgg247
 z229:=Tryz.sizeOf247
 v229:=Tryz.zeroValue247 }
open Go.RowKit Go.Maps Go.Shelf
open Go.ChangeMaps Go.MapKept
open Go.WideElems (Fit rd rg pl rd_val elemAt)
theorem Zjd:Keyed Tryz.prog 3:=int_keyed Tryz.underlying3
theorem Zxw (w:World):(zeroValue 115).run Tryz.prog w=.ok (.pointer none) w:=by kernel_rfl
theorem Zxx {n:Int} (h:I64 n):(Lit.int .i64 n).wf=true:=WalkArith.wf_i64 (by obtain⟨h0,h1⟩:=h;omega)
def Zdz (v:Value):Option (DataW Unit × List MemPlace):=
 match v with
 | .pointer (some ⟨b,0,none⟩)=>some (.lit (.int .i64 (b:Int)),[])
 | _=>none
theorem Zrv (b:Nat):Zdz (.pointer (some ⟨b,0,none⟩))=some (.lit (.int .i64 (b:Int)),[]):=rfl
theorem Zje {v:Value} {z:DataW Unit × List MemPlace} (h:Zdz v=some z):∃ b:Nat,v=.pointer (some ⟨b,0,none⟩)∧z=(.lit (.int .i64 (b:Int)),[]):=by
 unfold Zdz at h
 split at h
 ·cases h
  exact⟨_,rfl,rfl⟩
 ·cases h
def Zze (z:DataW Unit):Option Nat->DataW Unit
 | some x=>.lit (.int .i64 (x:Int))
 | none=>z
def ZtE (D:DataW Unit) (f:Int->Option Nat):Prop:=
 ∀ p,I64 p->∀ z,D.atKey (.int .i64 p) z=Zze z (f p)
def ZdP (w:World) (b n:Nat) (f:Int->Option Nat):Prop:=
 ∃ D:DataW Unit,w.ownsMap Tryz.prog 3 Zdz b n D∧ZtE D f
def ZvO:Option Nat->Value
 | some x=>.pointer (some ⟨x,0,none⟩)
 | none=>.pointer none
theorem ZtE.has {D:DataW Unit} {f:Int->Option Nat} (h:ZtE D f) {p:Int} (hp:I64 p):Maps.has D (.int .i64 p)=(f p).isSome:=by
 cases e:f p with
 | none=>
  refine has_false_of_atKey fun z=>?_
  rw[h p hp z,e]
  rfl
 | some x=>
  refine has_true_of_atKey (y:=.lit (.int .i64 (x:Int))) fun z=>?_
  rw[h p hp z,e]
  rfl
theorem ZdP.made (w:World):ZdP (w.alloc (.map #[] 0)) w.heap.size 0 (fun _=>none):=
 ⟨.map [],World.ownsMap_made _ _ _ _,fun _ _ _=>rfl⟩
theorem ZdP.lt {w:World} {b n:Nat} {f:Int->Option Nat} (h:ZdP w b n f):b<w.heap.size:=by
 obtain⟨D,h1,_⟩:=h
 exact h1.lt
theorem ZdP.mono {w:World} {b n n':Nat} {f:Int->Option Nat} (h:ZdP w b n f) (hn:n<=n'):ZdP w b n' f:=by
 obtain⟨D,h1,h2⟩:=h
 exact⟨D,h1.mono hn,h2⟩
theorem ZdP.keep {w w':World} {b n:Nat} {f:Int->Option Nat} (h:ZdP w b n f) (hk:w'.heap[b]?=w.heap[b]?):ZdP w' b n f:=by
 obtain⟨D,⟨es,clock,hb,r⟩,h2⟩:=h
 exact⟨D,⟨es,clock,hk.trans hb,r⟩,h2⟩
theorem ZdP.fun {w:World} {b n:Nat} {f g:Int->Option Nat} (h:ZdP w b n f) (e:∀ p,I64 p->f p=g p):ZdP w b n g:=by
 obtain⟨D,h1,h2⟩:=h
 exact⟨D,h1,fun p hp z=>by rw[h2 p hp z,e p hp]⟩
theorem ZdP.apart {w:World} {b n:Nat} {f:Int->Option Nat} (h:ZdP w b n f) {cs:Array Value} {t:TypeId} {z:Nat × Nat} {g:Nat} (hg:w.heap[g]?=some (.cells cs t z)):g≠b:=by
 obtain⟨D,⟨es,clock,hb,_⟩,_⟩:=h
 intro e
 rw[e,hb] at hg
 cases hg
theorem Zxa {x:Nat} (h:∀ z:DataW Unit,DataW.lit (.int .i64 (x:Int))=z):False:=by
 have:=h (.map [])
 cases this
theorem ZvP {x y:Nat} (h:DataW.lit (H:=Unit) (.int .i64 (x:Int))=.lit (.int .i64 (y:Int))):x=y:=by
 simp only [DataW.lit.injEq,Lit.int.injEq,true_and] at h
 omega
theorem ZdP.lookC {w:World} {b n:Nat} {f:Int->Option Nat} (h:ZdP w b n f) {p:Int} (hp:I64 p) (c:Bool):(Instr.lookup 65 (.map (some b)) (.int .i64 p) c).run Tryz.prog w=.ok (if c then .tuple #[ZvO (f p),.bool (f p).isSome] else ZvO (f p)) w:=by
 obtain⟨D,⟨es,clock,hb,F,_,rfl⟩,h2⟩:=h
 rcases Maps.fit_look c Zjd Tryz.underlying65 (Zxw w) hb F (keyOf_int_mk Tryz.underlying3 (Zxx hp)) with ⟨hrun,_,hat⟩ | ⟨e0,y,_,_,hrun,hRv,hat,_⟩
 ·have e:f p=none:=by
   cases e:f p with
   | none=>rfl
   | some x=>
    refine(Zxa (x:=x) fun z=>?_).elim
    rw[<-hat z,h2 p hp z,e]
    rfl
  rw[hrun,e]
  rfl
 ·obtain⟨x,hv,rfl⟩:=Zje hRv
  have e:f p=some x:=by
   cases e:f p with
   | none=>
    refine(Zxa (x:=x) fun z=>?_).elim
    have h3:=hat z
    rw[h2 p hp z,e] at h3
    exact h3.symm
   | some x'=>
    have h3:=hat (.map [])
    rw[h2 p hp,e] at h3
    rw[ZvP h3]
  rw[hrun,e,hv]
  rfl
theorem ZdP.look {w:World} {b n:Nat} {f:Int->Option Nat} (h:ZdP w b n f) {p:Int} (hp:I64 p):(Instr.lookup 65 (.map (some b)) (.int .i64 p) true).run Tryz.prog w=.ok (.tuple #[ZvO (f p),.bool (f p).isSome]) w:=h.lookC hp true
theorem ZdP.put {w:World} {b n:Nat} {f:Int->Option Nat} (h:ZdP w b n f) {p:Int} (x:Nat) (hp:I64 p) (hn:n<=10000000):
 ∃ w',(Instr.mapUpdate 65 (.map (some b)) (.int .i64 p) (.pointer (some ⟨x,0,none⟩))).run Tryz.prog w=.ok () w'∧ZdP w' b (n+1) (fun m=>if m=p then some x else f m)∧w.grownBy w' (some b):=by
 obtain⟨D,h1,h2⟩:=h
 have hm:IsMap D:=by obtain⟨es,clock,hb,F,hs,hD⟩:=h1;exact⟨_,hD⟩
 obtain⟨w',hrun,ho,hg⟩:=h1.update Zjd Tryz.underlying65 (by unfold maxLen;omega) (keyOf_int_mk Tryz.underlying3 (Zxx hp)) (Zrv x)
 refine⟨w',hrun,⟨_,ho,fun q hq z=>?_⟩,hg⟩
 show _=Zze z (if q=p then some x else f q)
 by_cases e:q=p
 ·rw[if_pos e,e,atKey_put_same hm (by first | exact trivial | simp[WideAt.IsKeyLit])]
  rfl
 ·rw[if_neg e,atKey_put_other (by intro h;injection h with _ h;exact e h),h2 q hq z]
theorem ZdP.del {w:World} {b n:Nat} {f:Int->Option Nat} (h:ZdP w b n f) {p:Int} (hp:I64 p) (ty:TypeId):
 ∃ w',(Builtin.delete_ #[65,3] ty #[.map (some b),.int .i64 p]).run Tryz.prog w=.ok (.tuple #[]) w'∧ZdP w' b n (fun m=>if m=p then none else f m)∧w.grownBy w' (some b):=by
 obtain⟨D,⟨es,clock,hb,F,hs,rfl⟩,h2⟩:=h
 obtain⟨es',hrun,F',hs',hd,_⟩:=Maps.fit_drop (ty:=ty) Zjd Tryz.underlying65 hb F (keyOf_int_mk Tryz.underlying3 (Zxx hp))
 refine⟨_,hrun,⟨_,⟨es',clock,heap_setBlock_same hb _,F',Nat.le_trans hs' hs,rfl⟩,fun q hq z=>?_⟩,⟨rfl,rfl,rfl,by simp[setBlock],fun i _ hi=>heap_setBlock_other hb _ (fun e=>hi (by rw[e]))⟩⟩
 rw[hd]
 show((DataW.map ((es.toList.map (rg Tryz.prog 3 Zdz)).foldr DataW.insert [])).del (.int .i64 p)).atKey (.int .i64 q) z=_
 show _=Zze z (if q=p then none else f q)
 by_cases e:q=p
 ·rw[if_pos e,e,atKey_del_same]
  rfl
 ·rw[if_neg e,atKey_del_other (by intro h;injection h with _ h;exact e h),h2 q hq z]
theorem Zrw {w:World} {b n:Nat} {f:Int->Option Nat} (h:ZdP w b n f):
 Calls Tryz.prog 145 #[.map (some b)] w fun e w'=>e=.returned (.map (some w.heap.size))∧ZdP w' w.heap.size n f∧w'.heap.size=w.heap.size+1∧Below w.heap.size w w':=by
 obtain⟨D,⟨es,clock,hb,r⟩,h2⟩:=h
 refine(AnyW.maps_Clone layW b es clock w hb).mono fun e w' ⟨he,hw⟩=>?_
 subst hw
 exact⟨he,⟨D,⟨es,clock,(MapKept.heap_alloc w _).1,r⟩,h2⟩,by simp,(Below.refl _ w).alloc zL _⟩
open Go.RowKit
structure ZaE (F:Nat->Prop) (w w':World):Prop where
 os:w'.os=w.os
 tape:w'.tape=w.tape
 output:w'.output=w.output
 size:w.heap.size<=w'.heap.size
 block:∀ k,k<w.heap.size->¬ F k->w'.heap[k]?=w.heap[k]?
theorem ZaE.refl (F:Nat->Prop) (w:World):ZaE F w w:=⟨rfl,rfl,rfl,Nat.le_refl _,fun _ _ _=>rfl⟩
theorem ZaE.trans {F G:Nat->Prop} {a b c:World} (h:ZaE F a b) (k:ZaE G b c) (hG:∀ x,x<a.heap.size->G x->F x):ZaE F a c:=
 ⟨k.os.trans h.os,k.tape.trans h.tape,k.output.trans h.output,Nat.le_trans h.size k.size,fun i hi hn=>(k.block i (Nat.lt_of_lt_of_le hi h.size) (fun hg=>hn (hG i hi hg))).trans (h.block i hi hn)⟩
theorem ZaE.mono {F G:Nat->Prop} {w w':World} (h:ZaE F w w') (hG:∀ k,F k->G k):ZaE G w w':=⟨h.os,h.tape,h.output,h.size,fun k hk hn=>h.block k hk fun hf=>hn (hG k hf)⟩
theorem ZaE.ofGrown {F:Nat->Prop} {w w':World} {row:Option Nat} (h:w.grownBy w' row) (hr:∀ k,row=some k->k<w.heap.size->F k):ZaE F w w':=
 ⟨h.os,h.tape,h.output,h.size,fun k hk hn=>h.block k hk fun e=>hn (hr k e.symm hk)⟩
theorem ZaE.ofBelow {F:Nat->Prop} {w w':World} (h:Below w.heap.size w w'):ZaE F w w':=⟨h.os,h.tape,h.output,h.size,fun k hk _=>h.block k hk⟩
theorem ZaE.below {F:Nat->Prop} {w w':World} {B:Nat} (h:ZaE F w w') (hB:B<=w.heap.size) (hF:∀ k,F k->B<=k):Below B w w':=
 ⟨h.os,h.tape,h.output,h.size,fun k hk=>h.block k (Nat.lt_of_lt_of_le hk hB) fun hf=>by have:=hF k hf;omega⟩
theorem ZaE.setCell {F:Nat->Prop} {a w:World} (h:ZaE F a w) {b:Nat} (i:Nat) (hb:b<a.heap.size->F b) (x:Value):ZaE F a (w.setCell ⟨b,i,none⟩ x):=by
 have hb0:=(Below.refl 0 w).setCell (p:=⟨b,i,none⟩) (Nat.zero_le _) x
 refine⟨hb0.os.trans h.os,hb0.tape.trans h.tape,hb0.output.trans h.output,Nat.le_trans h.size hb0.size,fun k hk hn=>?_⟩
 rw[Below.heap_setCell _ _ _ _ (show k≠b by rintro rfl;exact hn (hb hk))]
 exact h.block k hk hn
theorem ZaE.alloc {F:Nat->Prop} {a w:World} (h:ZaE F a w) (o:Obj):ZaE F a (w.alloc o):=
 h.trans (G:=fun _=>False) (ZaE.ofBelow ((Below.refl _ _).alloc zL o)) (fun _ _ hf=>hf.elim)
theorem ZaE.drewN {F:Nat->Prop} {a w:World} (h:ZaE F a w) (n:Nat):ZaE F a (w.drewN n):=⟨h.os,h.tape,h.output,h.size,h.block⟩
def Bk (t:TypeId) (w:World) (b:Nat) (cs:Array Value):Prop:=w.heap[b]?=some (.cells cs t (0,0))
theorem Bk.lt {t:TypeId} {w:World} {b:Nat} {cs:Array Value} (h:Bk t w b cs):b<w.heap.size:=(Array.getElem?_eq_some_iff.1 h).1
theorem Bk.keep {t:TypeId} {w w':World} {b:Nat} {cs:Array Value} (h:Bk t w b cs) (hk:w'.heap[b]?=w.heap[b]?):Bk t w' b cs:=hk.trans h
theorem Bk.cell {t:TypeId} {w:World} {b:Nat} {cs:Array Value} (h:Bk t w b cs) (j:Nat) {x:Value} (hx:cs[j]?=some x):w.cell? ⟨b,j,none⟩=some x∧w.frozen? ⟨b,j,none⟩=false:=
 ⟨(cell_of_row w b j _ _ _ h).trans hx,frozen_of_row w b j _ _ h⟩
theorem Bk.set {t:TypeId} {w:World} {b:Nat} {cs:Array Value} (h:Bk t w b cs) (j:Nat) (x:Value):Bk t (w.setCell ⟨b,j,none⟩ x) b (cs.setIfInBounds j x):=by
 have:=heap_setCell_same w b j _ _ x h
 unfold Bk
 simpa using this
theorem Bk.other {t:TypeId} {w:World} {b:Nat} {cs:Array Value} (h:Bk t w b cs) (c j:Nat) (x:Value) (hne:b≠c):Bk t (w.setCell ⟨c,j,none⟩ x) b cs:=
 (Below.heap_setCell _ _ _ _ hne).trans h
theorem Bk.ne {t t':TypeId} {w:World} {b b':Nat} {cs cs':Array Value} (h:Bk t w b cs) (h':Bk t' w b' cs') (ht:t≠t'):b≠b':=by
 rintro rfl
 unfold Bk at h h'
 rw[h] at h'
 simp only [Option.some.injEq,Obj.cells.injEq] at h'
 exact ht h'.2.1
theorem Zek {w:World} {base n:Nat} {t:TypeId} {v:Value} {xs:List Value} (h:w.ownsRow base t 1 v n xs) {g:Nat} (hg:v.ownBlock=some g):∃ cs,Bk t w g cs:=by
 rcases h.2 with ⟨hv,_⟩ | ⟨g',cap,cur,hv,_,hb,_⟩
 ·rw[hv] at hg;cases hg
 ·rw[hv] at hg
  obtain rfl:g'=g:=by simpa[Value.ownBlock] using hg
  exact⟨cur,hb⟩
theorem Zah {w w':World} {base n s:Nat} {t:TypeId} {v:Value} {xs:List Value} (h:w.ownsRow base t s v n xs) (hk:∀ g,v.ownBlock=some g->w'.heap[g]?=w.heap[g]?):w'.ownsRow base t s v n xs:=by
 obtain⟨h1,h2⟩:=h
 refine⟨h1,?_⟩
 rcases h2 with h2 | ⟨g,cap,cur,hv,hbg,hg,r⟩
 ·exact .inl h2
 ·exact .inr ⟨g,cap,cur,hv,hbg,(hk g (by rw[hv];rfl)).trans hg,r⟩
abbrev ptr (b:Nat):Value:=.pointer (some ⟨b,0,none⟩)
theorem Rd.only {w w':World} {v:Value} {l:List UInt8} (h:Rd w v l) {F:Nat->Prop} (ho:ZaE F w w') (hv:∀ k,v.ownBlock=some k->¬ F k):Rd w' v l:=by
 obtain⟨ao,cap,rfl,h2,h3,hn,h4⟩:=h
 refine⟨ao,cap,rfl,h2,h3,hn,?_⟩
 rcases h4 with h4 | ⟨b,off,rfl,h6⟩
 ·exact .inl h4
 ·refine .inr ⟨b,off,rfl,fun j hj=>?_⟩
  have hc:=h6 j hj
  have hlt:b<w.heap.size:=World.block_lt_of_cell? w ⟨b,off+j,none⟩ hc
  rw[World.cell?_of_block (a:=⟨b,off+j,none⟩) (ho.block b hlt (hv b rfl))]
  exact hc
theorem Bk.neMap {t:TypeId} {w:World} {b m n:Nat} {cs:Array Value} {f:Int->Option Nat} (h:Bk t w b cs) (hm:ZdP w m n f):b≠m:=hm.apart h
theorem Own.shape {w:World} {B:Nat} {v:Value} {l:List UInt8} (h:Own w B v l):∃ ao cap,v=.slice ao l.length cap:=by
 obtain⟨ao,cap,hv,_⟩:=h.rd
 exact⟨ao,cap,hv⟩
structure Zpa (w:World) (b:Nat) (v:Value) (x:Fl):Prop where
 box:Bk 117 w b #[v,.int .i64 (x.k:Int)]
 own:Own w 0 v x.b
theorem Zpa.keep {w w':World} {b:Nat} {v:Value} {x:Fl} (h:Zpa w b v x) (h1:w'.heap[b]?=w.heap[b]?) (h2:∀ g,v.ownBlock=some g->w'.heap[g]?=w.heap[g]?):Zpa w' b v x:=
 ⟨h.box.keep h1,Zah h.own h2⟩
def ChV (F:Nat->Prop) (w:World) (ps:Nat->Nat):Ch->Value->Prop
 | .give n f,v=>∃ b1 b2,v=.func (.func 139) #[] #[ptr b2,ptr b1]∧Bk 3 w b1 #[.int .i64 n]∧Bk 115 w b2 #[ptr (ps f)]∧F b1∧F b2
 | .move n tz f,v=>∃ b1 b2 b3,v=.func (.func 143) #[] #[ptr b3,ptr b2,ptr b1]∧Bk 3 w b1 #[.int .i64 n]∧Bk 3 w b2 #[.int .i64 tz]∧Bk 115 w b3 #[ptr (ps f)]∧F b1∧F b2∧F b3
 | .take n,v=>∃ b1,v=.func (.func 157) #[] #[ptr b1]∧Bk 3 w b1 #[.int .i64 n]∧F b1
def chOf:Ch->Option Nat
 | .give _ f=>some f
 | .move _ _ f=>some f
 | .take _=>none
theorem ChV.keep {F F':Nat->Prop} {w w':World} {ps ps':Nat->Nat} {c:Ch} {v:Value} (h:ChV F w ps c v) (hF:∀ k,F k->F' k) (hp:∀ f,chOf c=some f->ps' f=ps f)
 (hk:∀ k cs,F k->(Bk 3 w k cs∨Bk 115 w k cs)->w'.heap[k]?=w.heap[k]?):ChV F' w' ps' c v:=by
 cases c with
 | give n f=>
  obtain⟨b1,b2,rfl,h1,h2,f1,f2⟩:=h
  exact⟨b1,b2,rfl,h1.keep (hk _ _ f1 (.inl h1)),by rw[hp f rfl];exact h2.keep (hk _ _ f2 (.inr h2)),hF _ f1,hF _ f2⟩
 | move n tz f=>
  obtain⟨b1,b2,b3,rfl,h1,h2,h3,f1,f2,f3⟩:=h
  exact⟨b1,b2,b3,rfl,h1.keep (hk _ _ f1 (.inl h1)),h2.keep (hk _ _ f2 (.inl h2)),by rw[hp f rfl];exact h3.keep (hk _ _ f3 (.inr h3)),hF _ f1,hF _ f2,hF _ f3⟩
 | take n=>
  obtain⟨b1,rfl,h1,f1⟩:=h
  exact⟨b1,rfl,h1.keep (hk _ _ f1 (.inl h1)),hF _ f1⟩
structure Lay where
 now:Nat
 kept:Nat
 wv:Value
 cs:List Value
 ps:Nat->Nat
 vs:Nat->Value
structure Zpb (F:Nat->Prop) (w:World) (L:Lay) (d:Dk) (N:Nat):Prop where
 now:ZdP w L.now N (fun n=>(look (ZbW d) n).map L.ps)
 kept:ZdP w L.kept N (fun n=>(look d.kept n).map L.ps)
 row:w.ownsRow 0 113 1 L.wv L.cs.length L.cs
 many:L.cs.length=d.waits.length
 wait:∀ (i:Nat) c v,d.waits[i]?=some c->L.cs[i]?=some v->ChV F w L.ps c v
 file:∀ i,i<d.files.length->Zpa w (L.ps i) (L.vs i) (fl d.files i)
 psn:∀ i j,i<d.files.length->j<d.files.length->i≠j->L.ps i≠L.ps j
 vsn:∀ i j,i<d.files.length->j<d.files.length->i≠j->∀ g,(L.vs i).ownBlock=some g->(L.vs j).ownBlock≠some g
 nk:L.now≠L.kept
 fn:F L.now
 fk:F L.kept
 fw:∀ g,L.wv.ownBlock=some g->F g
 fp:∀ i,i<d.files.length->F (L.ps i)
 fv:∀ i,i<d.files.length->∀ g,(L.vs i).ownBlock=some g->F g
def Zpc (L:Lay) (d:Dk) (u:Int):Array Value:=#[.int .i64 d.room,.int .i64 u,.map (some L.now),.map (some L.kept),L.wv,.int .i64 d.power]
structure ZaZ (F:Nat->Prop) (w:World) (p:Nat) (L:Lay) (d:Dk) (u:Int) (N:Nat):Prop where
 head:Bk 69 w p (Zpc L d u)
 rest:Zpb F w L d N
 fh:F p
 lt:∀ k,F k->k<w.heap.size
theorem Zpb.keep {F:Nat->Prop} {w w':World} {L:Lay} {d:Dk} {N p:Nat} {cs:Array Value} (h:Zpb F w L d N) (hp:Bk 69 w p cs) (hk:∀ k,F k->k≠p->w'.heap[k]?=w.heap[k]?):Zpb F w' L d N where
 now:=h.now.keep (hk _ h.fn (hp.neMap h.now).symm)
 kept:=h.kept.keep (hk _ h.fk (hp.neMap h.kept).symm)
 row:=Zah h.row fun g hg=>hk g (h.fw g hg) (by obtain⟨cs',hb⟩:=Zek h.row hg;exact hb.ne hp (by decide))
 many:=h.many
 wait:=fun i c v h1 h2=>(h.wait i c v h1 h2).keep (fun _ hf=>hf) (fun _ _=>rfl) (fun k cs' hf hb=>hk k hf (by rcases hb with hb | hb <;> exact hb.ne hp (by decide)))
 file:=fun i hi=>(h.file i hi).keep (hk _ (h.fp i hi) ((h.file i hi).box.ne hp (by decide))) fun g hg=>hk g (h.fv i hi g hg) (by obtain⟨cs',hb⟩:=Zek (h.file i hi).own hg;exact hb.ne hp (by decide))
 psn:=h.psn
 vsn:=h.vsn
 nk:=h.nk
 fn:=h.fn
 fk:=h.fk
 fw:=h.fw
 fp:=h.fp
 fv:=h.fv
theorem Zpb.mono {F:Nat->Prop} {w:World} {L:Lay} {d:Dk} {N N':Nat} (h:Zpb F w L d N) (hN:N<=N'):Zpb F w L d N':=
 ⟨h.now.mono hN,h.kept.mono hN,h.row,h.many,h.wait,h.file,h.psn,h.vsn,h.nk,h.fn,h.fk,h.fw,h.fp,h.fv⟩
theorem ZaZ.setHead {F:Nat->Prop} {w:World} {p:Nat} {L:Lay} {d:Dk} {u:Int} {N:Nat} (h:ZaZ F w p L d u N) (j:Nat) (x:Value) {d':Dk} {u':Int} (hd:d'.files=d.files∧d'.kept=d.kept∧d'.waits=d.waits)
 (he:(Zpc L d u).setIfInBounds j x=Zpc L d' u'):ZaZ F (w.setCell ⟨p,j,none⟩ x) p L d' u' N:=by
 refine⟨by rw[<-he];exact h.head.set j x,?_,h.fh,fun k hk=>?_⟩
 ·have hr:=h.rest.keep h.head (w':=w.setCell ⟨p,j,none⟩ x) (fun k _ hne=>Below.heap_setCell _ _ _ _ hne)
  obtain⟨rm,fs,kp,ws,pw⟩:=d
  obtain⟨rm',fs',kp',ws',pw'⟩:=d'
  obtain⟨rfl,rfl,rfl⟩:=hd
  exact⟨hr.now,hr.kept,hr.row,hr.many,hr.wait,hr.file,hr.psn,hr.vsn,hr.nk,hr.fn,hr.fk,hr.fw,hr.fp,hr.fv⟩
 ·have:=h.lt k hk
  have hs:=((Below.refl 0 w).setCell (p:=⟨p,j,none⟩) (Nat.zero_le _) x).size
  omega
theorem ZaZ.keep {F:Nat->Prop} {w w':World} {p:Nat} {L:Lay} {d:Dk} {u:Int} {N:Nat} (h:ZaZ F w p L d u N) (hk:∀ k,F k->w'.heap[k]?=w.heap[k]?) (hs:w.heap.size<=w'.heap.size):ZaZ F w' p L d u N:=
 ⟨h.head.keep (hk p h.fh),h.rest.keep h.head (fun k hf _=>hk k hf),h.fh,fun k hf=>by have:=h.lt k hf;omega⟩
theorem ZaZ.only {F G:Nat->Prop} {w w':World} {p:Nat} {L:Lay} {d:Dk} {u:Int} {N:Nat} (h:ZaZ F w p L d u N) (ho:ZaE G w w') (hFG:∀ k,F k->¬ G k):ZaZ F w' p L d u N:=
 h.keep (fun k hf=>ho.block k (h.lt k hf) (hFG k hf)) ho.size
theorem ZaZ.cells {F:Nat->Prop} {w:World} {p:Nat} {L:Lay} {d:Dk} {u:Int} {N:Nat} (h:ZaZ F w p L d u N):
 (w.cell? ⟨p,0,none⟩=some (.int .i64 d.room)∧w.cell? ⟨p,1,none⟩=some (.int .i64 u)∧w.cell? ⟨p,2,none⟩=some (.map (some L.now))∧w.cell? ⟨p,3,none⟩=some (.map (some L.kept))∧w.cell? ⟨p,4,none⟩=some L.wv∧w.cell? ⟨p,5,none⟩=some (.int .i64 d.power))∧
 w.frozen? ⟨p,1,none⟩=false∧w.frozen? ⟨p,3,none⟩=false∧w.frozen? ⟨p,4,none⟩=false∧w.frozen? ⟨p,5,none⟩=false:=
 ⟨⟨(h.head.cell 0 rfl).1,(h.head.cell 1 rfl).1,(h.head.cell 2 rfl).1,(h.head.cell 3 rfl).1,(h.head.cell 4 rfl).1,(h.head.cell 5 rfl).1⟩,(h.head.cell 1 rfl).2,(h.head.cell 3 rfl).2,(h.head.cell 4 rfl).2,(h.head.cell 5 rfl).2⟩
theorem ZaZ.setFile {F F':Nat->Prop} {w w':World} {p:Nat} {L:Lay} {d:Dk} {u:Int} {N f:Nat} (h:ZaZ F w p L d u N) (hf:f<d.files.length) {v':Value} {x':Fl}
 (hk:∀ k,F k->k≠L.ps f->(L.vs f).ownBlock≠some k->w'.heap[k]?=w.heap[k]?)
 (hv:Zpa w' (L.ps f) v' x') (hr:v'.ownBlock=(L.vs f).ownBlock∨∀ g,v'.ownBlock=some g->w.heap.size<=g)
 (hF:∀ k,F k->F' k) (hF':∀ g,v'.ownBlock=some g->F' g) (hlt:∀ k,F' k->k<w'.heap.size):
 ZaZ F' w' p { L with vs:=fun i=>if i=f then v' else L.vs i } { d with files:=d.files.set f x' } u N:=by
 have h0:=h.rest
 have hb0:=(h0.file f hf).box
 have hne:∀ {t:TypeId} {k:Nat} {cs:Array Value},Bk t w k cs->F k->t≠117->t≠5->w'.heap[k]?=w.heap[k]?:=fun {t k cs} hb hfk h1 h2=>hk k hfk (hb.ne hb0 h1) fun hg=>by
  obtain⟨cs',hb'⟩:=Zek (h0.file f hf).own hg
  exact(hb.ne hb' h2) rfl
 have hmap:∀ {k n:Nat} {g:Int->Option Nat},ZdP w k n g->F k->w'.heap[k]?=w.heap[k]?:=fun {k n g} hm hfk=>hk k hfk (hb0.neMap hm).symm fun hg=>by
  obtain⟨cs',hb'⟩:=Zek (h0.file f hf).own hg
  exact(hb'.neMap hm) rfl
 have hlen:(d.files.set f x').length=d.files.length:=List.length_set ..
 refine⟨h.head.keep (hne h.head h.fh (by decide) (by decide)),?_,hF _ h.fh,hlt⟩
 refine⟨h0.now.keep (hmap h0.now h0.fn),h0.kept.keep (hmap h0.kept h0.fk),Zah h0.row fun g hg=>?_,h0.many,fun i c v h1 h2=>?_,fun i hi=>?_,fun i j hi hj=>?_,fun i j hi hj hij=>?_,h0.nk,hF _ h0.fn,hF _ h0.fk,fun g hg=>hF g (h0.fw g hg),fun i hi=>hF _ (h0.fp i (by rw[<-hlen];exact hi)),fun i hi=>?_⟩
 ·obtain⟨cs',hb⟩:=Zek h0.row hg
  exact hne hb (h0.fw g hg) (by decide) (by decide)
 ·exact(h0.wait i c v h1 h2).keep hF (fun _ _=>rfl) fun k cs' hfk hb=>by rcases hb with hb | hb <;> exact hne hb hfk (by decide) (by decide)
 ·have hi':i<d.files.length:=by rw[<-hlen];exact hi
  show Zpa w' (L.ps i) (if i=f then v' else L.vs i) (fl (d.files.set f x') i)
  by_cases e:i=f
  ·rw[if_pos e,e,ZiB hf]
   exact hv
  ·rw[if_neg e,ZeP (fun e'=>e e'.symm)]
   refine(h0.file i hi').keep (hk _ (h0.fp i hi') (h0.psn i f hi' hf e) fun hg=>?_) fun g hg=>hk g (h0.fv i hi' g hg) ?_ (fun hg'=>h0.vsn i f hi' hf e g hg hg')
   ·obtain⟨cs',hb'⟩:=Zek (h0.file f hf).own hg
    exact((h0.file i hi').box.ne hb' (by decide)) rfl
   ·obtain⟨cs',hb'⟩:=Zek (h0.file i hi').own hg
    exact hb'.ne hb0 (by decide)
 ·rw[hlen] at hi hj
  exact h0.psn i j hi hj
 ·rw[hlen] at hi hj
  have hold:∀ i,i<d.files.length->i≠f->∀ g,(L.vs i).ownBlock=some g->v'.ownBlock≠some g:=fun i hi hif g hg hg'=>by
   rcases hr with hr | hr
   ·exact h0.vsn i f hi hf hif g hg (by rw[<-hr];exact hg')
   ·have h1:=hr g hg'
    have h2:=h.lt g (h0.fv i hi g hg)
    omega
  show ∀ g,(if i=f then v' else L.vs i).ownBlock=some g->(if j=f then v' else L.vs j).ownBlock≠some g
  intro g
  by_cases e1:i=f
  ·rw[if_pos e1,if_neg (by rw[<-e1];exact Ne.symm hij)]
   exact fun hg hg'=>hold j hj (by rw[<-e1];exact Ne.symm hij) g hg' hg
  ·rw[if_neg e1]
   by_cases e2:j=f
   ·rw[if_pos e2]
    exact hold i hi e1 g
   ·rw[if_neg e2]
    exact h0.vsn i j hi hj hij g
 ·rw[hlen] at hi
  show ∀ g,(if i=f then v' else L.vs i).ownBlock=some g->F' g
  intro g
  by_cases e:i=f
  ·rw[if_pos e]
   exact hF' g
  ·rw[if_neg e]
   exact fun hg=>hF g (h0.fv i hi g hg)
structure Bnd (d:Dk) (N T:Nat):Prop where
 files:d.files.length<=N
 names:d.kept.length+d.waits.length<=N
 bytes:∀ x ∈ d.files,x.b.length<=T
def Dsk (F:Nat->Prop) (w:World) (p:Nat) (d:Dk) (N T:Nat):Prop:=
 ∃ L,ZaZ F w p L d (ZcB d) N∧OkD d∧Bnd d N T∧I64 d.room∧I64 d.power
theorem Dsk.only {F G:Nat->Prop} {w w':World} {p:Nat} {d:Dk} {N T:Nat} (h:Dsk F w p d N T) (ho:ZaE G w w') (hFG:∀ k,F k->¬ G k):Dsk F w' p d N T:=by
 obtain⟨L,h1,h2⟩:=h
 exact⟨L,h1.only ho hFG,h2⟩
theorem Dsk.below {F:Nat->Prop} {w w':World} {p:Nat} {d:Dk} {N T:Nat} (h:Dsk F w p d N T) (hb:Below w.heap.size w w'):Dsk F w' p d N T:=
 h.only (G:=fun _=>False) (ZaE.ofBelow hb) (fun _ _ hf=>hf)
end Go.Proofs.YtnahjngbneicaaaGreatDoor
