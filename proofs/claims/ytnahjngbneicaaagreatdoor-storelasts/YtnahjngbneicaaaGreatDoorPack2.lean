import Derived.Test.YtnahjngbneicaaaGreatDoorPack1
namespace Go.Proofs.YtnahjngbneicaaaGreatDoor
open _root_.Go.Proofs.Tryz
open List (append_assoc append_nil cons_append drop_drop drop_left eq_nil_of_length_eq_zero flatten_cons length_append length_cons length_drop length_nil length_take pairwise_cons take_append_drop take_length take_of_length_le)
set_option maxRecDepth 100000
variable {k n x:Nat} {b d l:List UInt8} {s:St} {i j:Int}
theorem Zbd {n:Int} (h:I64 n):Lib.zigzag n<18446744073709551616:=by
 obtain⟨b,a⟩:=h;unfold Lib.zigzag;split <;> omega
theorem ZoL {u:Nat} (h:u<18446744073709551616):I64 (zag u):=ZtZ u h
theorem Ju (l:List UInt8):(Qb l).2<=l.length:=by
 rcases Xf l with h | h
 ·rw[h];exact Nat.zero_le _
 ·exact h.2.2.1
def X6 (o:Opn):List UInt8:=Lib.uvarint o.code.toNat++(Lib.uvarint (Lib.zigzag o.a)++Lib.uvarint (Lib.zigzag o.b))
def Xc (l:List UInt8):Opn × Nat:=
 if(Qb l).2=0∨(Qe (l.drop (Qb l).2)).2=0∨(Qe (l.drop ((Qb l).2+(Qe (l.drop (Qb l).2)).2))).2=0∨¬ Ge ⟨((Qb l).1:Int),zag (Qe (l.drop (Qb l).2)).1,zag (Qe (l.drop ((Qb l).2+(Qe (l.drop (Qb l).2)).2))).1⟩ then(⟨0,0,0⟩,0)
 else(⟨((Qb l).1:Int),zag (Qe (l.drop (Qb l).2)).1,zag (Qe (l.drop ((Qb l).2+(Qe (l.drop (Qb l).2)).2))).1⟩,(Qb l).2+(Qe (l.drop (Qb l).2)).2+(Qe (l.drop ((Qb l).2+(Qe (l.drop (Qb l).2)).2))).2)
theorem ZaM {o:Opn} (h:Ge o):I64 o.a∧I64 o.b:=by
 obtain⟨_,_,d,e,f,c⟩:=h;exact⟨Qo (by omega) (by omega),Qo (by omega) (by omega)⟩
theorem J2 (u:Nat):(Lib.uvarint u).length≠0:=by have:=Lib.uvarint_pos u;omega
theorem Zmy (o:Opn) (h:Ge o) (t:List UInt8):Xc (X6 o++t)=(o,(X6 o).length):=by
 obtain⟨d,e⟩:=ZaM h;have m:=h.1;have n:=h.2.1
 have k:Qb (X6 o++t)=(o.code.toNat,(Lib.uvarint o.code.toNat).length):=by
  unfold X6;rw[append_assoc];exact Q4 _ _ (by omega)
 have f:(X6 o++t).drop (Lib.uvarint o.code.toNat).length=Lib.uvarint (Lib.zigzag o.a)++(Lib.uvarint (Lib.zigzag o.b)++t):=by
  unfold X6;rw[append_assoc,drop_left,append_assoc]
 have l:=Y8 (Lib.zigzag o.a) (Lib.uvarint (Lib.zigzag o.b)++t) (Zbd d)
 have j:(X6 o++t).drop ((Lib.uvarint o.code.toNat).length+(Lib.uvarint (Lib.zigzag o.a)).length)=Lib.uvarint (Lib.zigzag o.b)++t:=by
  rw[<-drop_drop,f,drop_left]
 have i:=Y8 (Lib.zigzag o.b) t (Zbd e)
 have g:(⟨((o.code.toNat:Nat):Int),zag (Lib.zigzag o.a),zag (Lib.zigzag o.b)⟩:Opn)=o:=by
  rw[Gw _ d.1 d.2,Gw _ e.1 e.2];obtain⟨c,a,b⟩:=o;simp only [Opn.mk.injEq,and_true];simp only at m;omega
 unfold Xc;simp only [k,f,l,j,i];rw[if_neg,g]
 ·simp only [Prod.mk.injEq,true_and]
  unfold X6;simp only [length_append];omega
 ·rw[g]
  rintro(h1 | h1 | h1 | h1)
  ·exact J2 _ h1
  ·exact J2 _ h1
  ·exact J2 _ h1
  ·exact h1 h
theorem ZqE (l:List UInt8):(Xc l).2<=l.length:=by
 unfold Xc;split
 ·exact Nat.zero_le _
 ·have c:=Ju l
  have b:=G0 (l.drop (Qb l).2);have a:=G0 (l.drop ((Qb l).2+(Qe (l.drop (Qb l).2)).2));simp only [length_drop] at b a;show(Qb l).2+_+_<=_;omega
theorem Zrz (h:(Xc l).2=0):(Xc l).1=⟨0,0,0⟩:=by
 unfold Xc at h ⊢;split
 ·rfl
 ·rename_i a
  rw[if_neg a] at h;simp only at h;omega
theorem Zft (l:List UInt8) (i j:Nat):l.take (i+j)=l.take i++(l.drop i).take j:=by
 rw[List.take_add]
theorem Zhv (h:(Xc l).2≠0):Ge (Xc l).1∧X6 (Xc l).1=l.take (Xc l).2:=by
 unfold Xc at h ⊢;by_cases a:(Qb l).2=0∨(Qe (l.drop (Qb l).2)).2=0∨(Qe (l.drop ((Qb l).2+(Qe (l.drop (Qb l).2)).2))).2=0∨¬ Ge ⟨((Qb l).1:Int),zag (Qe (l.drop (Qb l).2)).1,zag (Qe (l.drop ((Qb l).2+(Qe (l.drop (Qb l).2)).2))).1⟩
 ·rw[if_pos a] at h
  exact absurd rfl h
 ·rw[if_neg a]
  have b:(Qb l).2≠0:=fun e=>a (.inl e)
  have d:(Qe (l.drop (Qb l).2)).2≠0:=fun e=>a (.inr (.inl e))
  have c:(Qe (l.drop ((Qb l).2+(Qe (l.drop (Qb l).2)).2))).2≠0:=fun e=>a (.inr (.inr (.inl e)))
  have g:Ge ⟨((Qb l).1:Int),zag (Qe (l.drop (Qb l).2)).1,zag (Qe (l.drop ((Qb l).2+(Qe (l.drop (Qb l).2)).2))).1⟩:=Classical.byContradiction fun e=>a (.inr (.inr (.inr e)))
  refine⟨g,?_⟩
  have i:l.take (Qb l).2=Lib.uvarint (Qb l).1:=by
   rcases Xf l with e | e
   ·rw[e] at b;exact absurd rfl b
   ·exact e.2.2.2
  have j:(l.drop (Qb l).2).take (Qe (l.drop (Qb l).2)).2=Lib.uvarint (Qe (l.drop (Qb l).2)).1:=by
   rcases Jg (l.drop (Qb l).2) with e | e
   ·rw[e] at d;exact absurd rfl d
   ·exact e.2.2.2
  have f:(l.drop ((Qb l).2+(Qe (l.drop (Qb l).2)).2)).take (Qe (l.drop ((Qb l).2+(Qe (l.drop (Qb l).2)).2))).2=Lib.uvarint (Qe (l.drop ((Qb l).2+(Qe (l.drop (Qb l).2)).2))).1:=by
   rcases Jg (l.drop ((Qb l).2+(Qe (l.drop (Qb l).2)).2)) with e | e
   ·rw[e] at c;exact absurd rfl c
   ·exact e.2.2.2
  unfold X6;simp only [ZbI];rw[Zft,Zft,i,j,f,append_assoc];rfl
def Zr:List Int->List UInt8
 | []=>[]
 | x::r=>Lib.uvarint (Lib.zigzag x)++Zr r
def Db (s:St):Nat:=if s.shut=true then s.eng.toNat+1 else 0
def Zeq (s:St):List UInt8:=Lib.uvarint s.kind.toNat++(Lib.uvarint (Db s)++(Lib.uvarint s.L.length++Zr s.L))
def J3:Nat->List UInt8->Option (List Int × Nat)
 | 0,_=>some ([],0)
 | n+1,l=>if(Qe l).2=0 then none else(J3 n (l.drop (Qe l).2)).map fun x=>(zag (Qe l).1::x.1,(Qe l).2+x.2)
def mkS (kind sl:Nat) (xs:List Int):St:=⟨kind,xs,decide (0<sl),if 0<sl then(sl:Int)-1 else 0⟩
def ZcB:St:=⟨0,[],false,0⟩
def ZjE (kind sl many:Nat) (l:List UInt8):St × Int:=
 match J3 many l with
 | none=>(ZcB,3)
 | some (xs,u)=>if u≠l.length then(ZcB,3) else if Yl (mkS kind sl xs) then(mkS kind sl xs,0) else(ZcB,1)
def ZdG (l:List UInt8):St × Int:=
 if(Qb l).2=0∨(Qb (l.drop (Qb l).2)).2=0∨(Qb (l.drop ((Qb l).2+(Qb (l.drop (Qb l).2)).2))).2=0∨3<(Qb (l.drop (Qb l).2)).1∨128<(Qb (l.drop ((Qb l).2+(Qb (l.drop (Qb l).2)).2))).1 then(ZcB,3)
 else ZjE (Qb l).1 (Qb (l.drop (Qb l).2)).1 (Qb (l.drop ((Qb l).2+(Qb (l.drop (Qb l).2)).2))).1 (l.drop ((Qb l).2+(Qb (l.drop (Qb l).2)).2+(Qb (l.drop ((Qb l).2+(Qb (l.drop (Qb l).2)).2))).2))
theorem Zke:∀ (L:List Int) (t:List UInt8),(∀ x ∈ L,I64 x)->J3 L.length (Zr L++t)=some (L,(Zr L).length)
 | [],t,_=>rfl
 | x::r,t,h=>by
  have a:=h x (by simp)
  have c:=Zke r t (fun y b=>h y (by simp[b]))
  have d:=Y8 (Lib.zigzag x) (Zr r++t) (Zbd a);rw[length_cons,Zr,append_assoc,J3,d];simp only;rw[if_neg (J2 _),drop_left,c,Gw x a.1 a.2];simp
theorem ZbX:∀ (n:Nat) (l:List UInt8) (xs:List Int) (u:Nat),J3 n l=some (xs,u)->xs.length=n∧u<=l.length∧Zr xs=l.take u∧∀ x ∈ xs,I64 x
 | 0,l,xs,u,h=>by
  simp only [J3,Option.some.injEq,Prod.mk.injEq] at h;obtain⟨rfl,rfl⟩:=h;exact⟨rfl,Nat.zero_le _,by simp[Zr],fun x hx=>by simp at hx⟩
 | n+1,l,xs,u,h=>by
  rw[J3] at h;by_cases a:(Qe l).2=0
  ·rw[if_pos a] at h;cases h
  ·rw[if_neg a] at h
   obtain⟨⟨i,k⟩,g,b⟩:=Option.map_eq_some_iff.1 h;simp only [Prod.mk.injEq] at b;obtain⟨rfl,rfl⟩:=b;obtain⟨d,c,p,f⟩:=ZbX n _ i k g;rcases Jg l with e | ⟨j,q,t,m⟩
   ·rw[e] at a;exact absurd rfl a
   ·simp only [length_drop] at c
    refine⟨by simp[d],by omega,?_,?_⟩
    ·rw[Zr,ZbI,p,Zft,m]
    ·intro x hx
     rcases List.mem_cons.1 hx with rfl | hx
     ·exact ZoL j
     ·exact f x hx
theorem Zlj (h:Yl s):Db s<=3:=by
 have:=h.1;have:=h.2.1;unfold Db;split <;> omega
theorem Zyy (h:Yl s):mkS s.kind.toNat (Db s) s.L=s:=by
 obtain⟨k,l,a,g⟩:=s;have d:0<=g:=h.1;have c:0<=k:=h.2.2.2.1;have b:a=false->g=0:=h.2.2.1;unfold mkS Db
 cases a with
 | true=>simp;omega
 | false=>
  have:=b rfl;simp;omega
theorem Zer (h:Yl s):s.kind.toNat<4611686018427387904∧s.L.length<=128∧∀ x ∈ s.L,I64 x:=by
 have k:=h.2.2.2.1;have j:=h.2.2.2.2.1;have c:=h.2.2.2.2.2;by_cases e:s.kind=4
 ·rw[e,Zbq] at c
  refine⟨by omega,c.1,fun x d=>?_⟩
  have g:∀ (l:List Int) (lo:Int),-1<=lo->Qu (-1099511627776) lo l->∀ x ∈ l,I64 x:=by
   intro l
   match l with
   | []=>intro _ _ _ x d;simp at d
   | [_]=>intro _ _ h;simp[Qu] at h
   | a::b::r=>exact pairsW a b r
  exact g s.L (-1) (by decide) c.2 x d
 ·by_cases f:s.kind=5
  ·rw[f,ZaK] at c
   exact⟨by omega,c.1,fun x d=>by have:=Zmx (by decide) c.2 x d;exact Qo (by omega) (by omega)⟩
  ·have i:=(Yk e f).1 c
   exact⟨by omega,by omega,fun x d=>by have:=(J6 _).1 i.2.2 x d;exact Qo (by omega) (by omega)⟩
where
 pairsW (a b:Int) (r:List Int):∀ (lo:Int),-1<=lo->Qu (-1099511627776) lo (a::b::r)->∀ x ∈ a::b::r,I64 x:=by
  intro lo hlo h x hx;unfold Qu at h;simp at hx;rcases hx with rfl | rfl | hx
  ·exact Qo (by omega) (by omega)
  ·exact Qo (by omega) (by omega)
  ·match r,hx,h with
   | a2::b2::r2,hx,h=>exact pairsW a2 b2 r2 a (by omega) h.2.2.2.2 x hx
   | [c],_,h=>simp[Qu] at h
theorem ZrA (k s m:Nat) (t:List UInt8) (e:k<4611686018427387904) (i:s<=3) (j:m<=128):ZdG (Lib.uvarint k++(Lib.uvarint s++(Lib.uvarint m++t)))=ZjE k s m t:=by
 have f:=Q4 k (Lib.uvarint s++(Lib.uvarint m++t)) e;have b:(Lib.uvarint k++(Lib.uvarint s++(Lib.uvarint m++t))).drop (Lib.uvarint k).length=Lib.uvarint s++(Lib.uvarint m++t):=drop_left;have g:=Q4 s (Lib.uvarint m++t) (by omega)
 have a:(Lib.uvarint k++(Lib.uvarint s++(Lib.uvarint m++t))).drop ((Lib.uvarint k).length+(Lib.uvarint s).length)=Lib.uvarint m++t:=by rw[<-drop_drop,b,drop_left]
 have d:=Q4 m t (by omega)
 have c:(Lib.uvarint k++(Lib.uvarint s++(Lib.uvarint m++t))).drop ((Lib.uvarint k).length+(Lib.uvarint s).length+(Lib.uvarint m).length)=t:=by rw[<-drop_drop,a,drop_left]
 unfold ZdG;simp only [f,b,g,a,d,c];rw[if_neg];rintro(h | h | h | h | h)
 ·exact J2 _ h
 ·exact J2 _ h
 ·exact J2 _ h
 ·omega
 ·omega
theorem ZwC (h:Yl s):ZdG (Zeq s)=(s,0):=by
 obtain⟨b,c,d⟩:=Zer h;unfold Zeq;rw[ZrA _ _ _ _ b (Zlj h) c];have a:=Zke s.L [] d;rw[append_nil] at a;unfold ZjE;rw[a];simp only;rw[if_neg (by simp),Zyy h,if_pos h]
theorem ZrB (l:List UInt8):(ZdG l).2=0∨((ZdG l).1=ZcB∧((ZdG l).2=3∨(ZdG l).2=1)):=by
 unfold ZdG;split
 ·exact .inr ⟨rfl,.inl rfl⟩
 ·unfold ZjE
  split
  ·exact .inr ⟨rfl,.inl rfl⟩
  ·split
   ·exact .inr ⟨rfl,.inl rfl⟩
   ·split
    ·exact .inl rfl
    ·exact .inr ⟨rfl,.inr rfl⟩
theorem ZrC (h:(ZdG l).2=0):Yl (ZdG l).1∧Zeq (ZdG l).1=l:=by
 unfold ZdG at h ⊢;by_cases b:(Qb l).2=0∨(Qb (l.drop (Qb l).2)).2=0∨(Qb (l.drop ((Qb l).2+(Qb (l.drop (Qb l).2)).2))).2=0∨3<(Qb (l.drop (Qb l).2)).1∨128<(Qb (l.drop ((Qb l).2+(Qb (l.drop (Qb l).2)).2))).1
 ·rw[if_pos b] at h
  cases h
 ·rw[if_neg b] at h ⊢
  have p:(Qb l).2≠0:=fun e=>b (.inl e)
  have g:(Qb (l.drop (Qb l).2)).2≠0:=fun e=>b (.inr (.inl e))
  have f:(Qb (l.drop ((Qb l).2+(Qb (l.drop (Qb l).2)).2))).2≠0:=fun e=>b (.inr (.inr (.inl e)))
  have A:l.take (Qb l).2=Lib.uvarint (Qb l).1:=by
   rcases Xf l with e | e
   ·rw[e] at p;exact absurd rfl p
   ·exact e.2.2.2
  have t:(l.drop (Qb l).2).take (Qb (l.drop (Qb l).2)).2=Lib.uvarint (Qb (l.drop (Qb l).2)).1:=by
   rcases Xf (l.drop (Qb l).2) with e | e
   ·rw[e] at g;exact absurd rfl g
   ·exact e.2.2.2
  have y:(l.drop ((Qb l).2+(Qb (l.drop (Qb l).2)).2)).take (Qb (l.drop ((Qb l).2+(Qb (l.drop (Qb l).2)).2))).2=Lib.uvarint (Qb (l.drop ((Qb l).2+(Qb (l.drop (Qb l).2)).2))).1:=by
   rcases Xf (l.drop ((Qb l).2+(Qb (l.drop (Qb l).2)).2)) with e | e
   ·rw[e] at f;exact absurd rfl f
   ·exact e.2.2.2
  generalize (Qb (l.drop ((Qb l).2+(Qb (l.drop (Qb l).2)).2))).2=k at *;generalize (Qb (l.drop ((Qb l).2+(Qb (l.drop (Qb l).2)).2))).1=D at *;generalize (Qb (l.drop (Qb l).2)).2=j at *;generalize (Qb (l.drop (Qb l).2)).1=a at *;generalize (Qb l).2=i at *;generalize (Qb l).1=kind at *;unfold ZjE at h ⊢
  cases hr:J3 D (l.drop (i+j+k)) with
  | none=>rw[hr] at h;cases h
  | some x=>
   obtain⟨xs,u⟩:=x;rw[hr] at h;simp only at h ⊢;obtain⟨z,F,m,E⟩:=ZbX _ _ _ _ hr;by_cases d:u≠(l.drop (i+j+k)).length
   ·rw[if_pos d] at h;cases h
   ·rw[if_neg d] at h ⊢
    by_cases c:Yl (mkS kind a xs)
    ·rw[if_pos c]
     refine⟨c,?_⟩;have v:u=(l.drop (i+j+k)).length:=Classical.byContradiction d;rw[v,take_length] at m;have C:(mkS kind a xs).kind.toNat=kind:=by simp[mkS]
     have q:Db (mkS kind a xs)=a:=by
      unfold Db mkS;by_cases n:0<a
      ·simp[n];omega
      ·simp[n];omega
     show Lib.uvarint (mkS kind a xs).kind.toNat++(Lib.uvarint (Db (mkS kind a xs))++(Lib.uvarint xs.length++Zr xs))=l;rw[C,q,z,m,<-A,<-t,<-y];have B:l.drop (i+j)=(l.drop i).drop j:=by rw[drop_drop]
     have w:l.drop (i+j+k)=((l.drop i).drop j).drop k:=by rw[drop_drop,drop_drop,Nat.add_assoc]
     rw[B,w,take_append_drop,take_append_drop,take_append_drop]
    ·rw[if_neg c] at h;cases h
structure Rec where
 idx:Int
 proc:Int
 seq:Int
 op:Opn
 resp:Int
def Qi:Rec:=⟨0,0,0,⟨0,0,0⟩,0⟩
def Qz (r:Rec):Prop:=Ge r.op∧0<=r.idx∧r.idx<4611686018427387904∧0<=r.seq∧r.seq<4611686018427387904∧0<=r.proc∧r.proc<=64∧-1125899906842624<=r.resp∧r.resp<=1125899906842624
instance (r:Rec):Decidable (Qz r):=by unfold Qz;infer_instance
def ZAh (v f:Nat):Prop:=f=1∨f=2∨f=4∨(f=3∧2<=v)∨(f=5∧v=3)
instance (v f:Nat):Decidable (ZAh v f):=by unfold ZAh;infer_instance
def Zzw (r:Rec) (f:Nat):List UInt8:=
 if f=1 then Lib.uvarint r.idx.toNat else if f=2 then Lib.uvarint r.proc.toNat else if f=3 then Lib.uvarint r.seq.toNat
 else if f=4 then X6 r.op else Lib.uvarint (Lib.zigzag r.resp)
def Zuh (r:Rec) (f:Nat) (l:List UInt8):Rec × Nat:=
 if f=1 then({ r with idx:=((Qb l).1:Int) },(Qb l).2) else if f=2 then({ r with proc:=((Qb l).1:Int) },(Qb l).2)
 else if f=3 then({ r with seq:=((Qb l).1:Int) },(Qb l).2) else if f=4 then({ r with op:=(Xc l).1 },(Xc l).2)
 else({ r with resp:=zag (Qe l).1 },(Qe l).2)
set_option linter.unusedVariables false in
def Zyz (v:Nat) (l:List UInt8) (last:Int) (found:Nat) (r:Rec):Except Int (Rec × Nat):=
 if hl:l=[] then .ok (r,found)
 else if hk:(Qb l).2=0∨((Qb l).1:Int)<=last then .error 3
 else if ZAh v (Qb l).1 then
  if(Zuh r (Qb l).1 (l.drop (Qb l).2)).2=0 then .error 3
  else Zyz v (l.drop ((Qb l).2+(Zuh r (Qb l).1 (l.drop (Qb l).2)).2)) (Qb l).1 (found+1) (Zuh r (Qb l).1 (l.drop (Qb l).2)).1
 else if(Qb l).1<16∨v=3 then .error 7
 else if(Qb (l.drop (Qb l).2)).2=0∨l.length<(Qb l).2+(Qb (l.drop (Qb l).2)).2+(Qb (l.drop (Qb l).2)).1 then .error 3
 else Zyz v (l.drop ((Qb l).2+(Qb (l.drop (Qb l).2)).2+(Qb (l.drop (Qb l).2)).1)) (Qb l).1 found r
termination_by l.length
decreasing_by
 all_goals
  have h1:l.length≠0:=by simpa using hl
  have h2:(Qb l).2≠0:=fun e=>hk (.inl e)
  rw[length_drop];omega
def decR (l:List UInt8):Rec × Int:=
 if l=[] then(Qi,2)
 else if(Qb l).2=0 then(Qi,3)
 else if(Qb l).1<1∨3<(Qb l).1 then(Qi,6)
 else match Zyz (Qb l).1 (l.drop (Qb l).2) (-1) 0 Qi with
  | .error e=>(Qi,e)
  | .ok (r,found)=>if found≠(Qb l).1+2 then(Qi,7) else if Qz r then(r,0) else(Qi,1)
def ZyA (v:Int):List Nat:=if v=1 then[1,2,4] else if v=2 then[1,2,3,4] else[1,2,3,4,5]
def Zzx (r:Rec):List Nat->List UInt8
 | []=>[]
 | f::fs=>Lib.uvarint f++(Zzw r f++Zzx r fs)
def encR (v:Int) (r:Rec):List UInt8:=Lib.uvarint v.toNat++Zzx r (ZyA v)
theorem ZaX {r:Rec} (h:Qz r):I64 r.resp:=Qo (by have:=h.2.2.2.2.2.2.2.1;omega) (by have:=h.2.2.2.2.2.2.2.2;omega)
theorem Z2 (h:(Qb l).2≠0):Lib.uvarint (Qb l).1=l.take (Qb l).2:=by
 rcases Xf l with e | e
 ·rw[e] at h;exact absurd rfl h
 ·exact e.2.2.2.symm
theorem Zkf (h:(Qe l).2≠0):Lib.uvarint (Qe l).1=l.take (Qe l).2:=by
 rcases Jg l with e | e
 ·rw[e] at h;exact absurd rfl h
 ·exact e.2.2.2.symm
def ZrD (x:Nat):Nat:=if x % 2=1 then x / 2 ^^^ 2197175160 else x / 2
def Gu:Nat->Nat->Nat
 | 0,x=>x
 | n+1,x=>Gu n (ZrD x)
def Zdo (c:Nat):Nat:=Gu 8 c
def ZdH (x c:Nat):Nat:=Zdo ((x ^^^ c) % 256) ^^^ x / 256
def Zbr:Nat->List UInt8->Nat
 | x,[]=>x
 | x,c::r=>Zbr (ZdH x c.toNat) r
def Q2 (sum:Nat) (l:List UInt8):Nat:=Zbr (sum ^^^ 4294967295) l ^^^ 4294967295
theorem ZwD (a b:Nat):(a ^^^ b) % 2=(a % 2+b % 2) % 2:=by
 have h:=@Nat.xor_mod_two_pow a b 1;simp only [Nat.pow_one] at h;rw[h];rcases Nat.mod_two_eq_zero_or_one a with ha | ha <;> rcases Nat.mod_two_eq_zero_or_one b with hb | hb <;> rw[ha,hb] <;> rfl
theorem ZwE (a b:Nat):(a ^^^ b) / 2=a / 2 ^^^ b / 2:=by
 have h:=@Nat.shiftRight_xor_distrib 1 a b;simpa[Nat.shiftRight_eq_div_pow] using h
theorem ZoM (a b p:Nat):(a ^^^ p) ^^^ (b ^^^ p)=a ^^^ b:=by
 rw[Nat.xor_comm b p,<-Nat.xor_assoc,Nat.xor_assoc a p p,Nat.xor_self,Nat.xor_zero]
theorem ZwF (a b:Nat):ZrD (a ^^^ b)=ZrD a ^^^ ZrD b:=by
 unfold ZrD;rw[ZwD,ZwE];rcases Nat.mod_two_eq_zero_or_one a with ha | ha <;> rcases Nat.mod_two_eq_zero_or_one b with hb | hb <;> simp only [ha,hb]
 ·rfl
 ·simp[Nat.xor_assoc]
 ·simp only [if_true,if_false,Nat.zero_ne_one]
  rw[Nat.xor_assoc,Nat.xor_assoc,Nat.xor_comm (b / 2)]
 ·simp[ZoM]
theorem Zmz:∀ (n a b:Nat),Gu n (a ^^^ b)=Gu n a ^^^ Gu n b
 | 0,_,_=>rfl
 | n+1,a,b=>by
  simp only [Gu];rw[ZwF,Zmz n]
theorem ZmA:∀ (m n x:Nat),Gu (m+n) x=Gu n (Gu m x)
 | 0,n,x=>by rw[Nat.zero_add];rfl
 | m+1,n,x=>by
  rw[Nat.add_right_comm];simp only [Gu];exact ZmA m n (ZrD x)
theorem Zui (x:Nat):ZrD (2*x)=x:=by
 unfold ZrD;rw[if_neg (by omega)]
 omega
theorem ZmB:∀ (n x:Nat),Gu n (2 ^ n*x)=x
 | 0,x=>by simp[Gu]
 | n+1,x=>by
  simp only [Gu];rw[Nat.pow_succ,Nat.mul_comm (2 ^ n) 2,Nat.mul_assoc,Zui];exact ZmB n x
theorem ZyB (b:32<=n) (h:x<2 ^ n):ZrD x<2 ^ n:=by
 unfold ZrD;have a:x / 2<2 ^ n:=by omega
 split
 ·refine Nat.xor_lt_two_pow a (Nat.lt_of_lt_of_le (by decide:2197175160<2 ^ 32) (Nat.pow_le_pow_right (by decide) b))
 ·exact a
theorem Zlk:∀ (k:Nat) {n x:Nat},32<=n->x<2 ^ n->Gu k x<2 ^ n
 | 0,_,_,_,h=>h
 | k+1,_,_,hn,h=>Zlk k hn (ZyB hn h)
theorem ZwG (z n:Nat):z=z % 2 ^ n ^^^ 2 ^ n*(z / 2 ^ n):=by
 apply Nat.eq_of_testBit_eq;intro i;rw[Nat.testBit_xor,Nat.testBit_mod_two_pow,Nat.testBit_two_pow_mul];by_cases h:i<n
 ·have a:¬ n<=i:=by omega
  simp[h,a]
 ·have a:n<=i:=by omega
  simp only [h,a,decide_false,decide_true,Bool.false_and,Bool.true_and,Bool.false_xor,Nat.testBit_div_two_pow];rw[Nat.sub_add_cancel a]
theorem Zll (x c:Nat) (b:c<256):ZdH x c=Gu 8 (x ^^^ c):=by
 have e:(x ^^^ c) / 256=x / 256:=by
  have h:=@Nat.shiftRight_xor_distrib 8 x c;simp only [Nat.shiftRight_eq_div_pow] at h;have a:c / 2 ^ 8=0:=by omega
  rw[a,Nat.xor_zero] at h;exact h
 have h:=ZwG (x ^^^ c) 8;unfold ZdH Zdo
 conv=>rhs;rw[h]
 rw[Zmz,ZmB];show _=Gu 8 ((x ^^^ c) % 256) ^^^ (x ^^^ c) / 256;rw[e]
theorem Zes:∀ (a b:List UInt8) (x:Nat),Zbr x (a++b)=Zbr (Zbr x a) b
 | [],_,_=>rfl
 | c::r,b,x=>by
  rw[cons_append,Zbr,Zbr];exact Zes r b _
theorem ZrE {c:Nat} (b:x<4294967296) (a:c<256):ZdH x c<4294967296:=by
 rw[Zll x c a];have h:x ^^^ c<2 ^ 32:=Nat.xor_lt_two_pow (by omega) (by omega)
 have:=Zlk 8 (Nat.le_refl 32) h;omega
theorem Zhw:∀ (l:List UInt8) {x:Nat},x<4294967296->Zbr x l<4294967296
 | [],_,h=>h
 | c::r,x,h=>Zhw r (ZrE h (by have:=c.toNat_lt;omega))
theorem Zuj (h:x<4294967296):x ^^^ 4294967295<4294967296:=by
 have:=Nat.xor_lt_two_pow (n:=32) (by omega:x<2 ^ 32) (by decide:4294967295<2 ^ 32)
 omega
theorem ZrF {sum:Nat} (l:List UInt8) (h:sum<4294967296):Q2 sum l<4294967296:=Zuj (Zhw l (Zuj h))
theorem Zhx:∀ l:List UInt8,Lib.leNat l<2 ^ (8*l.length)
 | []=>by simp[Lib.leNat]
 | c::r=>by
  have h:=Zhx r;have a:=c.toNat_lt;have e:8*(c::r).length=8*r.length+8:=by simp;omega
  simp only [Lib.leNat];rw[e,Nat.pow_add];omega
def Ze (l:List UInt8):List UInt8:=Lib.uvarint l.length++l
def Qd (l:List UInt8):List UInt8:=Ze l++Lib.leBytes 4 (Q2 0 (Ze l))
def Gn (l:List UInt8):Prop:=l.length<10∧∀ j,j<l.length->128<=(l.getD j 0).toNat
instance (l:List UInt8):Decidable (Gn l):=by unfold Gn;infer_instance
def X8 (l:List UInt8):List UInt8 × Nat × Nat:=
 if Gn l then([],0,2) else
 if(Qb l).2=0 then([],0,3) else
 if 1048576<(Qb l).1 then([],0,5) else
 if l.length<(Qb l).2+4+(Qb l).1 then([],0,2) else
 if Lib.leNat ((l.drop ((Qb l).2+(Qb l).1)).take 4)≠Q2 0 (l.take ((Qb l).2+(Qb l).1)) then([],0,4) else
 ((l.drop (Qb l).2).take (Qb l).1,(Qb l).2+4+(Qb l).1,0)
theorem ZmC (l:List UInt8):Q2 0 l<4294967296:=ZrF l (by decide)
theorem Q9 (l:List UInt8):(Qd l).length=(Lib.uvarint l.length).length+l.length+4:=by
 simp[Qd,Ze,Lib.leBytes_length];omega
theorem Zzy (h:n<=1048576):(Lib.uvarint n).length<=3:=Lib.uvarint_length 2 n (Nat.lt_of_le_of_lt h (by decide))
theorem ZqF (h:Gn l):Qb l=(0,0):=by
 have e:Qe l=(0,0):=by
  unfold Qe;rw[Zld 10 l (fun j _ a=>h.2 j a)]
 unfold Qb;rw[e];rfl
theorem Zkg (x t:List UInt8) (h:x.length<=1048576):Qb (Lib.uvarint x.length++t)=(x.length,(Lib.uvarint x.length).length):=Q4 _ _ (by omega)
theorem ZbY:∀ (l:List UInt8),Lib.leBytes l.length (Lib.leNat l)=l
 | []=>rfl
 | c::r=>by
  have b:=ZbY r;have e:=c.toNat_lt;have d:(c.toNat+256*Lib.leNat r) % 256=c.toNat:=by omega
  have a:(c.toNat+256*Lib.leNat r) / 256=Lib.leNat r:=by omega
  simp only [length_cons,Lib.leNat,Lib.leBytes,d,a,b];simp
theorem ZrG (x t:List UInt8) (h:x.length<=1048576):X8 (Qd x++t)=(x,(Qd x).length,0):=by
 have c:Qb (Qd x++t)=(x.length,(Lib.uvarint x.length).length):=by
  have e:Qd x++t=Lib.uvarint x.length++(x++Lib.leBytes 4 (Q2 0 (Ze x))++t):=by simp[Qd,Ze]
  rw[e];exact Zkg x _ h
 have j:=Lib.uvarint_pos x.length
 have a:¬ Gn (Qd x++t):=fun a=>by
  have:=ZqF a;rw[c,Prod.mk.injEq] at this;omega
 have i:(Qd x++t).length=(Lib.uvarint x.length).length+x.length+4+t.length:=by rw[length_append,Q9]
 have b:(Ze x).length=(Lib.uvarint x.length).length+x.length:=by simp[Ze]
 have g:(Qd x++t).take ((Lib.uvarint x.length).length+x.length)=Ze x:=by
  rw[<-b,Qd,append_assoc,List.take_left]
 have f:((Qd x++t).drop ((Lib.uvarint x.length).length+x.length)).take 4=Lib.leBytes 4 (Q2 0 (Ze x)):=by
  rw[<-b,Qd,append_assoc,drop_left,List.take_append_of_le_length (by rw[Lib.leBytes_length];exact Nat.le_refl _),take_of_length_le (by rw[Lib.leBytes_length];exact Nat.le_refl _)]
 have d:((Qd x++t).drop (Lib.uvarint x.length).length).take x.length=x:=by
  have e:Qd x++t=Lib.uvarint x.length++(x++(Lib.leBytes 4 (Q2 0 (Ze x))++t)):=by simp[Qd,Ze]
  rw[e,drop_left,List.take_left]
 unfold X8;rw[if_neg a];simp only [c];rw[if_neg (by omega),if_neg (by omega),if_neg (by omega),if_neg (by rw[g,f,Lib.leNat_leBytes 4 _ (ZmC _)];simp),d,Q9]
 congr 2
 omega
theorem Zlm (h:(X8 l).2.2=0):
 (X8 l).1.length<=1048576∧(X8 l).2.1=(Qd (X8 l).1).length∧(X8 l).2.1<=l.length∧l.take (X8 l).2.1=Qd (X8 l).1:=by
 unfold X8 at h ⊢;by_cases g:Gn l
 ·rw[if_pos g] at h;simp at h
 rw[if_neg g] at h ⊢;by_cases a:(Qb l).2=0
 ·rw[if_pos a] at h;simp at h
 rw[if_neg a] at h ⊢;by_cases f:1048576<(Qb l).1
 ·rw[if_pos f] at h;simp at h
 rw[if_neg f] at h ⊢;by_cases d:l.length<(Qb l).2+4+(Qb l).1
 ·rw[if_pos d] at h;simp at h
 rw[if_neg d] at h ⊢;by_cases b:Lib.leNat ((l.drop ((Qb l).2+(Qb l).1)).take 4)≠Q2 0 (l.take ((Qb l).2+(Qb l).1))
 ·rw[if_pos b] at h;simp at h
 rw[if_neg b];clear h;rcases Xf l with j | ⟨w,u,v,c⟩
 ·rw[j] at a;simp at a
 generalize (Qb l).1=n at *;generalize (Qb l).2=k at *;have i:((l.drop k).take n).length=n:=by simp;omega
 have p:(Lib.uvarint n).length=k:=by rw[<-c];simp;omega
 have m:Ze ((l.drop k).take n)=l.take (k+n):=by
  unfold Ze;rw[i,<-c,List.take_add]
 have t:(l.drop (k+n)).take 4=Lib.leBytes 4 (Q2 0 (l.take (k+n))):=by
  have e:=ZbY ((l.drop (k+n)).take 4);have q:((l.drop (k+n)).take 4).length=4:=by simp;omega
  rw[q] at e;rw[<-Decidable.not_not.1 b,e]
 refine⟨by show((l.drop k).take n).length<=_;omega,?_,by show k+4+n<=_;omega,?_⟩
 ·show k+4+n=_
  rw[Q9,i,p];omega
 ·show l.take (k+4+n)=Qd ((l.drop k).take n)
  unfold Qd;rw[m,<-t,show k+4+n=(k+n)+4 by omega,List.take_add]
theorem ZwH (h:(X8 l).2.2≠0):(X8 l).1=[]∧(X8 l).2.1=0:=by
 unfold X8 at h ⊢;split
 ·exact⟨rfl,rfl⟩
 split
 ·exact⟨rfl,rfl⟩
 split
 ·exact⟨rfl,rfl⟩
 split
 ·exact⟨rfl,rfl⟩
 split
 ·exact⟨rfl,rfl⟩
 ·rename_i b d a c e
  rw[if_neg b,if_neg d,if_neg a,if_neg c,if_neg e] at h;simp at h
theorem ZbK (h:(X8 l).2.2=0):5<=(X8 l).2.1:=by
 obtain⟨_,a,_,_⟩:=Zlm h;rw[a,Q9];have:=Lib.uvarint_pos (X8 l).1.length;omega
theorem Zuk (l:List UInt8):(X8 l).2.1<=l.length:=by
 by_cases h:(X8 l).2.2=0
 ·exact(Zlm h).2.2.1
 ·rw[(ZwH h).2];omega
theorem ZwI (x:List UInt8) (m:Nat) (h:x.length<=1048576) (g:m<(Qd x).length):X8 ((Qd x).take m)=([],0,2):=by
 have l:=Zzy h;by_cases k:m<(Lib.uvarint x.length).length
 ·have a:Gn ((Qd x).take m):=by
   have e:(Qd x).take m=(Lib.uvarint x.length).take m:=by
    rw[Qd,Ze,append_assoc,List.take_append_of_le_length (by omega)]
   rw[e];refine⟨by simp;omega,fun j c=>?_⟩
   have i:j<m:=by simp at c;omega
   have d:((Lib.uvarint x.length).take m).getD j 0=(Lib.uvarint x.length).getD j 0:=by simp[List.getD,i]
   rw[d];exact Zgc _ _ j zL (by omega)
  unfold X8;rw[if_pos a]
 ·have f:((Qd x).take m).length=m:=by simp;omega
  have b:Qb ((Qd x).take m)=(x.length,(Lib.uvarint x.length).length):=by
   have e:(Qd x).take m=Lib.uvarint x.length++(x++Lib.leBytes 4 (Q2 0 (Ze x))).take (m-(Lib.uvarint x.length).length):=by
    rw[Qd,Ze,append_assoc,List.take_append,take_of_length_le (by omega)]
   rw[e];exact Zkg x _ h
  have n:=Lib.uvarint_pos x.length
  have a:¬ Gn ((Qd x).take m):=fun a=>by
   have:=ZqF a;rw[b,Prod.mk.injEq] at this;omega
  rw[Q9] at g;unfold X8;rw[if_neg a];simp only [b,f];rw[if_neg (by omega),if_neg (by omega),if_pos (by omega)]
def ZcC:Nat->List UInt8->List (List UInt8) × Nat × Nat
 | 0,_=>([],0,0)
 | f+1,l=>if l=[] then([],0,0) else if(X8 l).2.2≠0 then([],0,(X8 l).2.2) else
  ((X8 l).1::(ZcC f (l.drop (X8 l).2.1)).1,(X8 l).2.1+(ZcC f (l.drop (X8 l).2.1)).2.1,(ZcC f (l.drop (X8 l).2.1)).2.2)
def Qp (l:List UInt8):List (List UInt8) × Nat × Nat:=ZcC l.length l
theorem Zhy:∀ (f g:Nat) (l:List UInt8),l.length<=f->l.length<=g->ZcC f l=ZcC g l
 | 0,g,l,h,_=>by
  have e:l=[]:=eq_nil_of_length_eq_zero (by omega)
  subst e
  cases g <;> simp[ZcC]
 | f+1,0,l,_,h=>by
  have e:l=[]:=eq_nil_of_length_eq_zero (by omega)
  subst e;simp[ZcC]
 | f+1,g+1,l,hf,hg=>by
  unfold ZcC;by_cases e:l=[]
  ·rw[if_pos e,if_pos e]
  rw[if_neg e,if_neg e];by_cases a:(X8 l).2.2≠0
  ·rw[if_pos a,if_pos a]
  rw[if_neg a,if_neg a];have b:=ZbK (Decidable.not_not.1 a);rw[Zhy f g (l.drop (X8 l).2.1) (by simp;omega) (by simp;omega)]
theorem ZbL:Qp []=([],0,0):=rfl
theorem ZbZ (a:l≠[]) (h:(X8 l).2.2≠0):Qp l=([],0,(X8 l).2.2):=by
 unfold Qp
 cases l with
 | nil=>exact absurd rfl a
 | cons c r=>
  rw[length_cons,ZcC,if_neg a,if_pos h]
theorem Zca (a:l≠[]) (h:(X8 l).2.2=0):
 Qp l=((X8 l).1::(Qp (l.drop (X8 l).2.1)).1,(X8 l).2.1+(Qp (l.drop (X8 l).2.1)).2.1,(Qp (l.drop (X8 l).2.1)).2.2):=by
 have b:=ZbK h;unfold Qp
 cases l with
 | nil=>exact absurd rfl a
 | cons c r=>
  rw[length_cons,ZcC,if_neg a,if_neg (Decidable.not_not.2 h),Zhy r.length ((c::r).drop (X8 (c::r)).2.1).length _ (by simp;omega) zL]
def Qf (L:List (List UInt8)):List UInt8:=L.flatMap Qd
def Zm:List (List UInt8)->Nat->Nat × Nat
 | [],_=>(0,0)
 | x::L,m=>if(Qd x).length<=m then((Zm L (m-(Qd x).length)).1+1,(Zm L (m-(Qd x).length)).2+(Qd x).length) else(0,0)
theorem Zhz:∀ (L:List (List UInt8)) (m:Nat),(Zm L m).1<=L.length∧(Zm L m).2<=m
 | [],m=>by simp[Zm]
 | x::L,m=>by
  have a:=Zhz L (m-(Qd x).length);unfold Zm;split
  ·simp;omega
  ·simp
theorem Zfu:∀ (L:List (List UInt8)) (m:Nat),(∀ x ∈ L,x.length<=1048576)->m<=(Qf L).length->
 Qp ((Qf L).take m)=(L.take (Zm L m).1,(Zm L m).2,if(Zm L m).2=m then 0 else 2)
 | [],m,_,hm=>by
  have e:m=0:=by simp[Qf] at hm;omega
  subst e;rfl
 | x::L,m,hx,hm=>by
  have f:=hx x (by simp)
  have n:5<=(Qd x).length:=by
   rw[Q9];have:=Lib.uvarint_pos x.length;omega
  have i:Qf (x::L)=Qd x++Qf L:=by simp[Qf]
  rw[i] at hm ⊢;rw[length_append] at hm;by_cases b:(Qd x).length<=m
  ·have d:(Qd x++Qf L).take m=Qd x++(Qf L).take (m-(Qd x).length):=by
    rw[List.take_append,take_of_length_le b]
   have j:=Zfu L (m-(Qd x).length) (fun y g=>hx y (by simp[g])) (by omega)
   have a:=ZrG x ((Qf L).take (m-(Qd x).length)) f
   have c:Qd x++(Qf L).take (m-(Qd x).length)≠[]:=fun e=>by
    have:=congrArg List.length e;rw[length_append,length_nil] at this;omega
   rw[d,Zca c (by rw[a]),a]
   simp only [drop_left];have l:=(Zhz L (m-(Qd x).length)).2;rw[j,Zm,if_pos b];simp only [List.take_succ_cons,Prod.mk.injEq,true_and];refine⟨by omega,?_⟩
   by_cases e:(Zm L (m-(Qd x).length)).2=m-(Qd x).length
   ·rw[if_pos e,if_pos (by omega)]
   ·rw[if_neg e,if_neg (by omega)]
  ·have d:(Qd x++Qf L).take m=(Qd x).take m:=by
    rw[List.take_append_of_le_length (by omega)]
   have a:=ZwI x m f (by omega)
   rw[d,Zm,if_neg b];by_cases k:m=0
   ·subst k
    rfl
   ·have c:(Qd x).take m≠[]:=fun e=>by
     have:=congrArg List.length e;rw[length_take,length_nil] at this;omega
    rw[ZbZ c (by rw[a];decide),a]
    simp only [List.take_zero,Prod.mk.injEq,true_and];rw[if_neg (by omega)]
def ZgE (n:Int):Nat:=if 0<=n∧n<=1048576 then(Lib.uvarint n.toNat).length+4+n.toNat else 0
theorem ZmD:∀ (L:List (List UInt8)) (m k:Nat),k<=L.length->(Qf (L.take k)).length<=m->(k=L.length∨m<(Qf (L.take (k+1))).length)->Zm L m=(k,(Qf (L.take k)).length)
 | [],m,k,hk,_,_=>by
  have e:k=0:=by simpa using hk
  subst e;rfl
 | x::L,m,0,_,h1,h2=>by
  have e:(Qf ((x::L).take 1)).length=(Qd x).length:=by simp[Qf]
  rcases h2 with h2 | h2
  ·simp at h2
  ·rw[e] at h2
   rw[Zm,if_neg (by omega)]
   rfl
 | x::L,m,k+1,hk,h1,h2=>by
  have a:∀ j,(Qf ((x::L).take (j+1))).length=(Qd x).length+(Qf (L.take j)).length:=by
   intro j;simp[Qf]
  rw[a] at h1 h2
  have b:=ZmD L (m-(Qd x).length) k (by simpa using hk) (by omega) (by
   rcases h2 with h2 | h2
   ·left;simpa using h2
   ·right;omega)
  rw[Zm,if_pos (by omega),b,a]
  simp;omega
theorem J7 (h:d.length<=1048576):(Qd d).length<=d.length+14:=by
 rw[Q9];have:(Lib.uvarint d.length).length<=10:=Lib.uvarint_length64 (by omega)
 omega
theorem Zax (A B:List (List UInt8)):Qf (A++B)=Qf A++Qf B:=by
 unfold Qf;rw[List.flatMap_append]
theorem Q8 (x:List UInt8) (B:List (List UInt8)):Qf (x::B)=Qd x++Qf B:=by
 unfold Qf;rw[List.flatMap_cons]
theorem ZoN (x:List UInt8):5<=(Qd x).length:=by
 rw[Q9];have:=Lib.uvarint_pos x.length;omega
theorem Zag (L:List (List UInt8)) (h:∀ x ∈ L,x.length<=1048576):Qp (Qf L)=(L,(Qf L).length,0):=by
 have e:=Zfu L (Qf L).length h zL;have a:=ZmD L (Qf L).length L.length zL (by rw[take_length];exact Nat.le_refl _) (.inl rfl)
 rw[take_length] at a e;rw[e,a];simp
theorem Zfv:∀ (n:Nat) (b:List UInt8),b.length<=n->(Qp b).2.2=0->Qf (Qp b).1=b∧∀ x ∈ (Qp b).1,x.length<=1048576
 | 0,b,hn,_=>by
  have e:b=[]:=eq_nil_of_length_eq_zero (by omega)
  subst e;rw[ZbL];exact⟨rfl,by simp⟩
 | n+1,b,hn,h=>by
  by_cases e:b=[]
  ·subst e
   rw[ZbL];exact⟨rfl,by simp⟩
  by_cases a:(X8 b).2.2=0
  ·obtain⟨f,k,i,d⟩:=Zlm a
   have j:=ZbK a;rw[Zca e a] at h ⊢;obtain⟨g,c⟩:=Zfv n (b.drop (X8 b).2.1) (by rw[length_drop];omega) h
   refine⟨?_,fun x hx=>?_⟩
   ·show Qf ((X8 b).1::(Qp (b.drop (X8 b).2.1)).1)=b
    rw[Q8,g,<-d,take_append_drop]
   ·rcases List.mem_cons.1 hx with hx | hx
    ·rw[hx];exact f
    ·exact c x hx
  ·rw[ZbZ e a] at h
   exact absurd h a
structure Ent where
 proc:Int
 seq:Int
 resp:Int
def Xi:Ent:=⟨0,0,0⟩
theorem Ent.ext' {a b:Ent} (c:a.proc=b.proc) (e:a.seq=b.seq) (d:a.resp=b.resp):a=b:=by
 cases a
 cases b
 simp_all
instance:DecidableEq Ent:=fun a b=>
 if h:a.proc=b.proc∧a.seq=b.seq∧a.resp=b.resp then .isTrue (Ent.ext' h.1 h.2.1 h.2.2)
 else .isFalse (fun e=>h (by rw[e];exact⟨rfl,rfl,rfl⟩))
structure Q0 where
 idx:Int
 st:St
 tab:List Ent
def Yb:Q0:=⟨0,ZcB,[]⟩
def Zbm (e:Ent):Prop:=0<=e.proc∧e.proc<=64∧0<=e.seq∧e.seq<4611686018427387904∧-1125899906842624<=e.resp∧e.resp<=1125899906842624
instance (e:Ent):Decidable (Zbm e):=by unfold Zbm;infer_instance
def Gf (t:List Ent) (k:Nat):Prop:=∀ i,i<k->Zbm (t.getD i Xi)∧(0<i->(t.getD (i-1) Xi).proc<(t.getD i Xi).proc)
instance (t:List Ent) (k:Nat):Decidable (Gf t k):=by unfold Gf;infer_instance
def Zet (t:List Ent):Prop:=Gf t t.length
instance (t:List Ent):Decidable (Zet t):=by unfold Zet;infer_instance
theorem Gf.zero (t:List Ent):Gf t 0:=fun _ a=>absurd a (Nat.not_lt_zero _)
theorem Gf.next {t:List Ent}:Gf t (k+1)↔Gf t k∧Zbm (t.getD k Xi)∧(0<k->(t.getD (k-1) Xi).proc<(t.getD k Xi).proc):=by
 constructor
 ·intro h
  exact⟨fun i a=>h i (by omega),(h k (by omega)).1,(h k (by omega)).2⟩
 ·rintro⟨h1,h2,h3⟩ i a
  by_cases e:i=k
  ·subst e
   exact⟨h2,h3⟩
  ·exact h1 i (by omega)
theorem Gf.mono {t:List Ent} {j:Nat} (h:Gf t k) (a:j<=k):Gf t j:=fun i b=>h i (by omega)
theorem Zet.mem {t:List Ent} (h:Zet t):∀ e ∈ t,Zbm e:=by
 intro e b;obtain⟨i,a,rfl⟩:=List.getElem_of_mem b;have:=(h i a).1;simpa[List.getD,a] using this
def Z6 (s:Q0):Prop:=(0<=s.idx∧s.idx<4611686018427387904)∧Yl s.st∧Zet s.tab
instance (s:Q0):Decidable (Z6 s):=by unfold Z6;infer_instance
def ZoG (e:Ent):List UInt8:=Lib.uvarint e.proc.toNat++(Lib.uvarint e.seq.toNat++Lib.uvarint (Lib.zigzag e.resp))
def Yw (t:List Ent):List UInt8:=t.flatMap ZoG
def Zyg (t:List Ent):List UInt8:=Lib.uvarint t.length++Yw t
def Xt (s:Q0):List UInt8:=Lib.uvarint (Zeq s.st).length++(Zeq s.st++Zyg s.tab)
def Zbn (i:Nat) (w:List UInt8):List UInt8:=115::(Lib.uvarint 3++(Lib.uvarint i++(Lib.uvarint w.length++Lib.leBytes 4 (Q2 0 w))))
def Ya (l:List UInt8):List (List UInt8):=if l=[] then[] else l.take 64::Ya (l.drop 64)
termination_by l.length
decreasing_by
 rename_i h
 have h1:l.length≠0:=by simpa using h
 rw[length_drop];omega
def ZaI (s:Q0):List (List UInt8):=Zbn s.idx.toNat (Xt s)::Ya (Xt s)
def ZjA (s:Q0):List UInt8:=Qf (ZaI s)
theorem Yn:Ya []=[]:=by rw[Ya,if_pos rfl]
theorem Zx (h:l≠[]):Ya l=l.take 64::Ya (l.drop 64):=by rw[Ya,if_neg h]
theorem ZdI:∀ (n:Nat) (l:List UInt8),l.length<=n->(Ya l).flatten=l
 | 0,l,h=>by
  have e:l=[]:=eq_nil_of_length_eq_zero (by omega)
  rw[e,Yn];rfl
 | n+1,l,h=>by
  by_cases e:l=[]
  ·rw[e,Yn]
   rfl
  ·have a:l.length≠0:=by simpa using e
   rw[Zx e,flatten_cons,ZdI n (l.drop 64) (by rw[length_drop];omega),take_append_drop]
theorem Zfw:∀ (n:Nat) (l x:List UInt8),l.length<=n->x ∈ Ya l->x.length<=64∧1<=x.length
 | 0,l,x,h,hx=>by
  have e:l=[]:=eq_nil_of_length_eq_zero (by omega)
  rw[e,Yn] at hx;simp at hx
 | n+1,l,x,h,hx=>by
  by_cases e:l=[]
  ·rw[e,Yn] at hx
   simp at hx
  ·have a:l.length≠0:=by simpa using e
   rw[Zx e] at hx;rcases List.mem_cons.1 hx with hx | hx
   ·rw[hx,length_take]
    omega
   ·exact Zfw n (l.drop 64) x (by rw[length_drop];omega) hx
def Zfx:List (List UInt8)->Prop
 | []=>True
 | [x]=>1<=x.length∧x.length<=64
 | x::y::t=>x.length=64∧Zfx (y::t)
theorem ZcD:∀ (L:List (List UInt8)),Zfx L->Ya L.flatten=L
 | [],_=>by rw[List.flatten_nil,Yn]
 | [x],h=>by
  obtain⟨a,b⟩:=h;have e:x≠[]:=fun e=>by rw[e] at a;simp at a
  have c:[x].flatten=x:=by simp
  rw[c,Zx e,take_of_length_le b,List.drop_eq_nil_of_le b,Yn]
 | x::y::t,h=>by
  obtain⟨a,b⟩:=h
  have e:(x::y::t).flatten≠[]:=fun e=>by
   have:=congrArg List.length e;rw[flatten_cons,length_append,length_nil] at this;omega
  have f:((x::y::t).flatten).take 64=x:=by rw[flatten_cons,<-a,List.take_left]
  have d:((x::y::t).flatten).drop 64=(y::t).flatten:=by rw[flatten_cons,<-a,drop_left]
  rw[Zx e,f,d,ZcD (y::t) b]
theorem ZcE:∀ (n:Nat) (l:List UInt8),l.length<=n->Zfx (Ya l)
 | 0,l,h=>by
  have e:l=[]:=eq_nil_of_length_eq_zero (by omega)
  rw[e,Yn];trivial
 | n+1,l,h=>by
  by_cases e:l=[]
  ·rw[e,Yn]
   trivial
  ·have d:l.length≠0:=by simpa using e
   rw[Zx e];have b:=ZcE n (l.drop 64) (by rw[length_drop];omega)
   by_cases a:l.drop 64=[]
   ·rw[a,Yn]
    have f:(l.take 64).length=min 64 l.length:=length_take;exact⟨by omega,by omega⟩
   ·have c:(l.drop 64).length≠0:=fun e=>a (eq_nil_of_length_eq_zero e)
    rw[length_drop] at c;rw[Zx a] at b ⊢;exact⟨by rw[length_take];omega,b⟩
def Jx:Nat->List UInt8->Option (List Ent × List UInt8)
 | 0,b=>some ([],b)
 | n+1,b=>
  let i:=(Qb b).2
  let j:=(Qb (b.drop i)).2
  let k:=(Qe (b.drop (i+j))).2
  if i=0∨j=0∨k=0 then none
  else(Jx n (b.drop (i+j+k))).map (fun r=>(⟨(Qb b).1,(Qb (b.drop i)).1,zag (Qe (b.drop (i+j))).1⟩::r.1,r.2))
def Zbe (b:List UInt8):Option (List Ent):=
 if(Qb b).2=0∨b.length<(Qb b).1 then none
 else match Jx (Qb b).1 (b.drop (Qb b).2) with
  | some (t,[])=>some t
  | _=>none
def Yu (w:List UInt8):Q0 × Int:=
 if(Qb w).2=0∨w.length<(Qb w).2+(Qb w).1 then(Yb,3)
 else if(ZdG ((w.drop (Qb w).2).take (Qb w).1)).2=3 then(Yb,3)
 else match Zbe (w.drop ((Qb w).2+(Qb w).1)) with
  | none=>(Yb,3)
  | some t=>(⟨0,(ZdG ((w.drop (Qb w).2).take (Qb w).1)).1,t⟩,(ZdG ((w.drop (Qb w).2).take (Qb w).1)).2)
def Yx (d:List UInt8):Nat × Nat × Nat × Int:=
 if d.length<1∨(d.getD 0 0).toNat≠115 then(0,0,0,3)
 else
  let i:=(Qb (d.drop 1)).2
  let j:=(Qb (d.drop (1+i))).2
  let k:=(Qb (d.drop (1+i+j))).2
  if i=0∨j=0∨k=0 then(0,0,0,3)
  else if(Qb (d.drop 1)).1≠3 then(0,0,0,6)
  else if(d.drop (1+i+j+k)).length≠4 then(0,0,0,3)
  else((Qb (d.drop (1+i))).1,(Qb (d.drop (1+i+j))).1,Lib.leNat (d.drop (1+i+j+k)),0)
instance cutOk_dec:∀ L:List (List UInt8),Decidable (Zfx L)
 | []=>.isTrue trivial
 | [_]=>by unfold Zfx;infer_instance
 | _::y::t=>by
  unfold Zfx;exact @instDecidableAnd _ _ _ (cutOk_dec (y::t))
def Zge (L:List (List UInt8)):Q0 × Int:=
 match L with
 | []=>(Yb,16)
 | d::P=>
  if(Yx d).2.2.2≠0 then(Yb,(Yx d).2.2.2)
  else if P.flatten.length≠(Yx d).2.1 then(Yb,16)
  else if ¬ Zfx P then(Yb,3)
  else if Q2 0 P.flatten≠(Yx d).2.2.1 then(Yb,4)
  else if(Yu P.flatten).2≠0 then(Yb,(Yu P.flatten).2)
  else if Z6 ⟨((Yx d).1:Nat),(Yu P.flatten).1.st,(Yu P.flatten).1.tab⟩ then(⟨((Yx d).1:Nat),(Yu P.flatten).1.st,(Yu P.flatten).1.tab⟩,0)
  else(Yb,1)
def ZmE (b:List UInt8):Q0 × Int:=
 if(Qp b).2.2≠0 then(Yb,((Qp b).2.2:Nat)) else Zge (Qp b).1
def Zfy (e:Ent):Bool->List Ent->List Ent
 | d,[]=>if d=true then[] else[e]
 | d,x::t=>(if d=false∧e.proc<x.proc then[e] else[])++((if x.proc=e.proc then[] else[x])++Zfy e (d || decide (e.proc<x.proc)) t)
def ZcF (t:List Ent) (e:Ent):List Ent:=Zfy e false t
theorem Zfz (e:Ent):∀ t:List Ent,Zfy e true t=t.filter (fun x=>decide (x.proc≠e.proc))
 | []=>rfl
 | x::t=>by
  rw[Zfy,if_neg (by simp),Bool.true_or,Zfz e t,List.filter_cons]
  by_cases h:x.proc=e.proc <;> simp[h]
theorem ZhA (e:Ent):∀ (t:List Ent) (d:Bool) (x:Ent),x ∈ Zfy e d t↔(d=false∧x=e)∨(x ∈ t∧x.proc≠e.proc)
 | [],d,x=>by cases d <;> simp[Zfy]
 | y::t,d,x=>by
  rw[Zfy,List.mem_append,List.mem_append,ZhA e t,List.mem_cons];by_cases b:d=false∧e.proc<y.proc
  ·have a:y.proc≠e.proc:=by omega
   rw[if_pos b,if_neg a,b.1];have c:decide (e.proc<y.proc)=true:=decide_eq_true b.2;rw[c];simp only [List.mem_singleton,Bool.or_true,Bool.true_eq_false,false_and,false_or,true_and];constructor
   ·rintro(h | h | ⟨h,h'⟩)
    ·exact .inl h
    ·exact .inr ⟨.inl h,by rw[h];exact a⟩
    ·exact .inr ⟨.inr h,h'⟩
   ·rintro(h | ⟨h | h,h'⟩)
    ·exact .inl h
    ·exact .inr (.inl h)
    ·exact .inr (.inr ⟨h,h'⟩)
  ·rw[if_neg b]
   have f:(d || decide (e.proc<y.proc))=false↔d=false:=by
    constructor
    ·intro h
     cases d
     ·rfl
     ·exact h
    ·intro h
     rw[h,Bool.false_or];exact decide_eq_false (fun c=>b ⟨h,c⟩)
   rw[f];by_cases a:y.proc=e.proc
   ·rw[if_pos a]
    simp only [List.not_mem_nil,false_or];constructor
    ·rintro(h | ⟨h,h'⟩)
     ·exact .inl h
     ·exact .inr ⟨.inr h,h'⟩
    ·rintro(h | ⟨h | h,h'⟩)
     ·exact .inl h
     ·exact absurd (by rw[h];exact a) h'
     ·exact .inr ⟨h,h'⟩
   ·rw[if_neg a]
    simp only [List.not_mem_nil,false_or,List.mem_singleton];constructor
    ·rintro(h | h | ⟨h,h'⟩)
     ·exact .inr ⟨.inl h,by rw[h];exact a⟩
     ·exact .inl h
     ·exact .inr ⟨.inr h,h'⟩
    ·rintro(h | ⟨h | h,h'⟩)
     ·exact .inr (.inl h)
     ·exact .inl h
     ·exact .inr (.inr ⟨h,h'⟩)
theorem ZmF (t:List Ent) (e x:Ent):x ∈ ZcF t e↔x=e∨(x ∈ t∧x.proc≠e.proc):=by
 unfold ZcF;rw[ZhA];simp
theorem ZmG (e:Ent):∀ (t:List Ent) (d:Bool),(Zfy e d t).length<=t.length+(if d=true then 0 else 1)
 | [],d=>by cases d <;> simp[Zfy]
 | y::t,d=>by
  have b:=ZmG e t (d || decide (e.proc<y.proc));rw[Zfy,length_append,length_append,length_cons];by_cases a:d=false∧e.proc<y.proc
  ·have c:decide (e.proc<y.proc)=true:=decide_eq_true a.2
   rw[a.1,c] at b ⊢;rw[if_pos ⟨rfl,a.2⟩];simp only [Bool.or_true,if_true] at b;split <;> simp <;> omega
  ·rw[if_neg a]
   have f:(if(d || decide (e.proc<y.proc))=true then(0:Nat) else 1)<=(if d=true then 0 else 1):=by
    cases d
    ·have:decide (e.proc<y.proc)=false:=decide_eq_false (fun h=>a ⟨rfl,h⟩)
     rw[this];exact Nat.le_refl _
    ·simp
   split <;> simp <;> omega
theorem Zul (t:List Ent) (e:Ent):(ZcF t e).length<=t.length+1:=ZmG e t false
def ZhB (t:List Ent):Prop:=t.Pairwise (fun a b=>a.proc<b.proc)
theorem ZhC {e:Ent}:∀ {t:List Ent},ZhB t->ZhB (ZcF t e)
 | [],_=>by simp[ZcF,Zfy,ZhB]
 | y::t,h=>by
  unfold ZhB at h;rw[pairwise_cons] at h;obtain⟨d,f⟩:=h;unfold ZcF ZhB;rw[Zfy,Bool.false_or];by_cases b:e.proc<y.proc
  ·have c:y.proc≠e.proc:=by omega
   rw[if_pos ⟨rfl,b⟩,if_neg c,decide_eq_true b,Zfz];show List.Pairwise _ (e::y::_);rw[pairwise_cons,pairwise_cons];refine⟨fun a ha=>?_,fun a ha=>d a ((List.mem_filter.1 ha).1),f.filter _⟩
   rcases List.mem_cons.1 ha with ha | ha
   ·rw[ha];exact b
   ·have:=d a ((List.mem_filter.1 ha).1)
    omega
  ·rw[if_neg (fun h=>b h.2),decide_eq_false b,List.nil_append]
   have g:ZhB (ZcF t e):=ZhC f;by_cases c:y.proc=e.proc
   ·rw[if_pos c,List.nil_append]
    exact g
   ·rw[if_neg c]
    show List.Pairwise _ (y::ZcF t e);rw[pairwise_cons];refine⟨fun a ha=>?_,g⟩
    rcases(ZmF t e a).1 ha with ha | ⟨ha,_⟩
    ·rw[ha];omega
    ·exact d a ha
theorem Gf.lt {t:List Ent} (h:Gf t k):∀ j i,i<j->j<k->(t.getD i Xi).proc<(t.getD j Xi).proc
 | 0,i,hi,_=>absurd hi (Nat.not_lt_zero _)
 | j+1,i,hi,hj=>by
  have a:=(h (j+1) hj).2 (by omega)
  rw[Nat.add_sub_cancel] at a;by_cases e:i=j
  ·rw[e];exact a
  ·have b:=h.lt j i (by omega) (by omega)
   omega
theorem Zet.rises {t:List Ent} (h:Zet t):ZhB t:=by
 unfold ZhB;rw[List.pairwise_iff_getElem];intro i j b a c;have:=h.lt j i c a;simpa[List.getD,b,a] using this
def Qw (key:Int):List Int->Nat
 | a::_::r=>if key<=a then 0 else Qw key r+2
 | _=>0
def Zw (key:Int) (l:List Int):Bool:=(Yh key l).isSome
theorem ZhD (key:Int):∀ (l:List Int),l.length % 2=0->Qw key l<=l.length∧Qw key l % 2=0
 | [],_=>⟨Nat.le_refl _,rfl⟩
 | [_],h=>by simp at h
 | a::b::r,h=>by
  have c:=ZhD key r (by simp at h;omega)
  unfold Qw;split
  ·simp
  ·simp
   omega
theorem ZhE (key:Int):∀ (l:List Int) (k:Nat),l.length % 2=0->k % 2=0->k<=l.length->(∀ j,j<k->j % 2=0->l.getD j 0<key)->Qw key l=k+Qw key (l.drop k)
 | [],k,_,_,hk,_=>by
  have:k=0:=by simpa using hk
  subst this;rfl
 | [_],_,h,_,_,_=>by simp at h
 | a::b::r,k,h,hk2,hk,hall=>by
  by_cases e:k=0
  ·subst e
   simp
  ·obtain⟨j,rfl⟩:∃ j,k=j+2:=⟨k-2,by omega⟩
   have c:=hall 0 (by omega) rfl
   have f:a<key:=c
   have d:=ZhE key r j (by simp at h;omega) (by omega) (by simp at hk;omega) (fun i m g=>by
    have:=hall (i+2) (by omega) (by omega)
    exact this)
   conv=>lhs;unfold Qw
   rw[if_neg (by omega),d]
   show j+Qw key (r.drop j)+2=j+2+Qw key (r.drop j);omega
theorem ZoO (key:Int) (l:List Int) (k:Nat) (a:k+1<l.length) (h:key<=l.getD k 0):Qw key (l.drop k)=0:=by
 rw[Zua l k a,Qw,if_pos h]
theorem ZbM (key least:Int):∀ (l:List Int) (lo:Int),Qu least lo l->Zw key l=decide (Qw key l<l.length∧l.getD (Qw key l) 0=key)∧(Zw key l=true->Yh key l=some (l.getD (Qw key l+1) 0)∧Qw key l+1<l.length)
 | [],lo,_=>by simp[Zw,Yh,Qw]
 | [_],lo,h=>by simp[Qu] at h
 | a::b::r,lo,h=>by
  have m:=ZaU (least:=least) (key:=key) (l:=r) (lo:=a);unfold Qu at h;have g:=ZbM key least r a h.2.2.2.2;by_cases f:key<=a
  ·have e:Qw key (a::b::r)=0:=by unfold Qw;rw[if_pos f]
   rw[e];by_cases d:a=key
   ·have c:Yh key (a::b::r)=some b:=by rw[Gm,if_pos d]
    unfold Zw;rw[c];simp[d]
   ·have c:Yh key (a::b::r)=none:=by rw[Gm,if_neg d,m h.2.2.2.2 f]
    unfold Zw;rw[c];simp[d]
  ·have e:Qw key (a::b::r)=Qw key r+2:=by rw[Qw,if_neg f]
   have c:Yh key (a::b::r)=Yh key r:=by rw[Gm,if_neg (by omega)]
   have i:Zw key (a::b::r)=Zw key r:=by unfold Zw;rw[c]
   rw[e,c,i];refine⟨?_,fun j=>?_⟩
   ·rw[g.1]
    have k:(a::b::r).getD (Qw key r+2) 0=r.getD (Qw key r) 0:=rfl;rw[k];apply decide_eq_decide.2;simp
   ·have:=g.2 j
    refine⟨this.1,?_⟩;simp;omega
theorem Zgf (key n least:Int):∀ (l:List Int) (lo:Int),Qu least lo l->Zw key l=false->Xg key n false l=l.take (Qw key l)++([key,n]++l.drop (Qw key l))
 | [],lo,_,_=>by simp[Xg,Qw]
 | [_],lo,h,_=>by simp[Qu] at h
 | a::b::r,lo,h,hm=>by
  rw[ZaV key n least a b r lo h];unfold Qu at h;have e:=Zgf key n least r a h.2.2.2.2;unfold Zw at hm;rw[Gm] at hm;by_cases d:a=key
  ·rw[if_pos d] at hm
   simp at hm
  ·rw[if_neg d] at hm
   by_cases c:key<a
   ·rw[if_pos c,Qw,if_pos (by omega)]
    rfl
   ·rw[if_neg c,if_neg (by omega),e hm,Qw,if_neg (by omega)]
    rfl
theorem ZmH (key n least:Int):∀ (l:List Int) (lo:Int),Qu least lo l->Zw key l=true->Xg key n false l=l.set (Qw key l+1) n
 | [],lo,_,h=>by simp[Zw,Yh] at h
 | [_],lo,h,_=>by simp[Qu] at h
 | a::b::r,lo,h,hm=>by
  rw[ZaV key n least a b r lo h];have f:=ZaU (least:=least) (key:=key) (l:=r) (lo:=a);unfold Qu at h;have e:=ZmH key n least r a h.2.2.2.2;unfold Zw at hm;rw[Gm] at hm;by_cases c:a=key
  ·rw[if_neg (by omega),if_pos c.symm,Qw,if_pos (by omega),c]
   rfl
  ·rw[if_neg c] at hm
   by_cases d:key<a
   ·rw[f h.2.2.2.2 (by omega)] at hm
    simp at hm
   ·rw[if_neg d,if_neg (by omega),e hm,Qw,if_neg (by omega)]
    rfl
theorem Zdr {least key:Int}:∀ {l:List Int} {lo:Int},Qu least lo l->key<=lo->Yp key l=l
 | [],_,_,_=>rfl
 | [_],_,h,_=>by simp[Qu] at h
 | a::b::r,lo,h,hk=>by
  unfold Qu at h;rw[Zad,if_pos (by omega),Zdr h.2.2.2.2 (by omega)]
theorem Zgg (key least:Int):∀ (l:List Int) (lo:Int),Qu least lo l->Zw key l=false->Yp key l=l
 | [],lo,_,_=>rfl
 | [_],lo,h,_=>by simp[Qu] at h
 | a::b::r,lo,h,hm=>by
  unfold Qu at h;have d:=Zgg key least r a h.2.2.2.2;unfold Zw at hm;rw[Gm] at hm;by_cases c:a=key
  ·rw[if_pos c] at hm
   simp at hm
  ·rw[if_neg c] at hm
   rw[Zad,if_pos c,d hm]
theorem Zgh (key least:Int):∀ (l:List Int) (lo:Int),Qu least lo l->Zw key l=true->Yp key l=l.take (Qw key l)++l.drop (Qw key l+2)
 | [],lo,_,h=>by simp[Zw,Yh] at h
 | [_],lo,h,_=>by simp[Qu] at h
 | a::b::r,lo,h,hm=>by
  have f:=ZaU (least:=least) (key:=key) (l:=r) (lo:=a);unfold Qu at h;have e:=Zgh key least r a h.2.2.2.2;unfold Zw at hm;rw[Gm] at hm;rw[Zad];by_cases d:a=key
  ·rw[if_neg (by omega),Qw,if_pos (by omega),Zdr h.2.2.2.2 (by omega)]
   rfl
  ·rw[if_neg d] at hm
   rw[if_pos d];by_cases c:key<=a
   ·rw[f h.2.2.2.2 c] at hm
    simp at hm
   ·rw[e hm,Qw,if_neg c]
    rfl
def Z5 (s:St) (o:Opn):St × Int:=
 if o.a<0∨255<o.a then(s,-1) else
 if o.code≠7∧o.code≠6∧o.code≠5 then(s,0) else
 if o.code=6 then(⟨s.kind,Yp o.a s.L,s.shut,s.eng⟩,Zrv o.a s.L) else
 if o.code=5 then(if J1 o.a 0 s.L<0∧s.L.length=128 then(s,-2) else(⟨s.kind,Xg o.a (Jp o.b) false s.L,s.shut,s.eng⟩,Zrv o.a s.L)) else
 (s,Zrv o.a s.L)
def Zz (s:St) (o:Opn):St × Int:=
 if ¬ Yl s then(s,0) else
 if s.shut=true then(s,-1125899906842624) else
 if o.code=10 then(⟨s.kind,s.L,true,if 0<=o.a∧o.a<=2 then o.a else s.eng⟩,0) else
 if s.kind<=1 then Zef s o else if s.kind<=3 then Zq s o else if s.kind=4 then Z5 s o else Yd s o
theorem Zgi (s:St) (o:Opn):(Z5 s o).1=(Zcs s o).1:=by
 unfold Z5 Zcs;by_cases b:o.a<0∨255<o.a
 ·rw[if_pos b]
  split
  ·rfl
  ·first | rfl | (rw[if_pos b])
 ·rw[if_neg b,if_neg b]
theorem ZdJ (s:St) (o:Opn):(Zz s o).1=(Zcz s o).1:=by
 unfold Zz Zcz;split
 ·rfl
 split
 ·rfl
 split
 ·rfl
 split
 ·rfl
 split
 ·rfl
 split
 ·exact Zgi s o
 ·rfl
theorem ZwJ (s:St) (o:Opn) (h:s.kind≠4∨s.shut=true∨o.code=10∨o.code=5∨o.code=6∨o.code=7∨(0<=o.a∧o.a<=255)):Zz s o=Zcz s o:=by
 unfold Zz Zcz;split
 ·rfl
 split
 ·rfl
 split
 ·rfl
 split
 ·rfl
 split
 ·rfl
 split
 ·rename_i e c d _ _ b
  unfold Z5 Zcs;rcases h with h | h | h | h | h | h | h
  ·exact absurd b h
  ·exact absurd h c
  ·exact absurd h d
  ·rw[if_neg (show ¬ (o.code≠7∧o.code≠6∧o.code≠5) by omega),if_neg (show ¬ (o.code≠7∧o.code≠6∧o.code≠5) by omega)]
  ·rw[if_neg (show ¬ (o.code≠7∧o.code≠6∧o.code≠5) by omega),if_neg (show ¬ (o.code≠7∧o.code≠6∧o.code≠5) by omega)]
  ·rw[if_neg (show ¬ (o.code≠7∧o.code≠6∧o.code≠5) by omega),if_neg (show ¬ (o.code≠7∧o.code≠6∧o.code≠5) by omega)]
  ·rw[if_neg (show ¬ (o.a<0∨255<o.a) by omega),if_neg (show ¬ (o.a<0∨255<o.a) by omega)]
 ·rfl
theorem ZhF (h:¬ Yl s) (o:Opn):Zz s o=(s,0):=by
 unfold Zz;rw[if_pos h]
theorem ZrH (h:Yl s) (a:s.shut=true) (o:Opn):Zz s o=(s,-1125899906842624):=by
 unfold Zz;rw[if_neg (fun e=>e h),if_pos a]
theorem ZhG (h:Yl s) (o:Opn):Yl (Zz s o).1:=by rw[ZdJ];exact ZwB h o
theorem ZrI (s:St) (o:Opn):(Zz s o).1.kind=s.kind:=by rw[ZdJ];exact Zud s o
theorem ZyC (h:Yl s) (o:Opn):(Zz s o).1.shut=(s.shut || decide (o.code=10)):=by rw[ZdJ];exact Zry h o
def Zum:St->List Opn->St × List Int
 | s,[]=>(s,[])
 | s,o::r=>((Zum (Zz s o).1 r).1,(Zz s o).2::(Zum (Zz s o).1 r).2)
def ZhH (s:Q0) (r:Rec):Q0:=⟨s.idx+1,(Zz s.st r.op).1,ZcF s.tab ⟨r.proc,r.seq,(Zz s.st r.op).2⟩⟩
def Q3:Q0->List Rec->Q0 × Int
 | s,[]=>(s,0)
 | s,r::l=>if r.idx≠s.idx then(Yb,15) else if ¬ Qz r then(Yb,1) else Q3 (ZhH s r) l
theorem ZmI:∀ (a b:List Rec) (s:Q0),Q3 s (a++b)=if(Q3 s a).2=0 then Q3 (Q3 s a).1 b else Q3 s a
 | [],b,s=>by simp[Q3]
 | r::a,b,s=>by
  rw[cons_append,Q3,Q3];by_cases c:r.idx≠s.idx
  ·rw[if_pos c,if_pos c,if_neg (by simp)]
  ·rw[if_neg c,if_neg c]
   by_cases d:¬ Qz r
   ·rw[if_pos d,if_pos d,if_neg (by simp)]
   ·rw[if_neg d,if_neg d]
    exact ZmI a b _
theorem Zcb:∀ (l:List Rec) (s:Q0),(Q3 s l).2=0->(Q3 s l).1.st=(Zum s.st (l.map (fun r=>r.op))).1∧(Q3 s l).1.idx=s.idx+l.length
 | [],s,_=>by simp[Q3,Zum]
 | r::l,s,h=>by
  rw[Q3] at h ⊢;by_cases a:r.idx≠s.idx
  ·rw[if_pos a] at h
   exact absurd h (by decide)
  rw[if_neg a] at h ⊢;by_cases b:¬ Qz r
  ·rw[if_pos b] at h
   exact absurd h (by decide)
  rw[if_neg b] at h ⊢;obtain⟨d,c⟩:=Zcb l (ZhH s r) h;rw[d,c,List.map_cons,Zum];refine⟨rfl,?_⟩;show s.idx+1+_=_;rw[length_cons];omega
def Q7 (l:List Rec) (p:Int):Int:=l.foldl (fun a r=>if r.proc=p then r.seq else a) 0
theorem ZmJ (l:List Rec) (r:Rec) (p:Int):Q7 (l++[r]) p=if r.proc=p then r.seq else Q7 l p:=by
 unfold Q7;rw[List.foldl_append];rfl
theorem Zkh {l:List Rec} (p:Int):(∀ r ∈ l,Qz r)->0<=Q7 l p∧Q7 l p<4611686018427387904:=by
 unfold Q7
 suffices h:∀ (l:List Rec) (a:Int),(∀ r ∈ l,Qz r)->0<=a->a<4611686018427387904->0<=l.foldl (fun a r=>if r.proc=p then r.seq else a) a∧l.foldl (fun a r=>if r.proc=p then r.seq else a) a<4611686018427387904 by
  exact fun j=>h l 0 j (by decide) (by decide)
 intro l
 induction l with
 | nil=>intro a _ d b;exact⟨d,b⟩
 | cons r t f=>
  intro a e d b;rw[List.foldl_cons];have i:=e r (by simp)
  obtain⟨_,_,_,k,m,_⟩:=i;by_cases g:r.proc=p
  ·rw[if_pos g]
   exact f _ (fun s c=>e s (by simp[c])) k m
  ·rw[if_neg g]
   exact f _ (fun s c=>e s (by simp[c])) d b
def Zf (pre:List Rec) (r:Rec):List UInt8:=
 Lib.uvarint r.proc.toNat++(Lib.uvarint (Lib.zigzag (r.seq-Q7 pre r.proc))++(X6 r.op++Lib.uvarint (Lib.zigzag r.resp)))
def Yg (pre:List Rec):List Rec->List UInt8
 | []=>[]
 | r::t=>Zf pre r++Yg (pre++[r]) t
def X9 (l:List Rec):List UInt8:=Lib.uvarint (l.headD Qi).idx.toNat++(Lib.uvarint l.length++Yg [] l)
def Xl:Int->List Rec->Prop
 | _,[]=>True
 | i,r::t=>r.idx=i∧Xl (i+1) t
instance chainR_dec:∀ (i:Int) (l:List Rec),Decidable (Xl i l)
 | _,[]=>.isTrue trivial
 | i,r::t=>by
  unfold Xl;exact @instDecidableAnd _ _ _ (chainR_dec (i+1) t)
def Yc (l:List Rec):Prop:=1<=l.length∧l.length<=256∧(∀ r ∈ l,Qz r)∧Xl (l.headD Qi).idx l
instance (l:List Rec):Decidable (Yc l):=by unfold Yc;infer_instance
theorem ZhI:∀ (a b c:List Rec),Yg c (a++b)=Yg c a++Yg (c++a) b
 | [],b,c=>by simp[Yg]
 | r::t,b,c=>by
  have e:c++[r]++t=c++r::t:=by simp
  rw[cons_append,Yg,ZhI t b,e,Yg];exact(append_assoc _ _ _).symm
theorem ZrJ (l:List Rec) (k:Nat) (a:k<l.length):Yg [] (l.take (k+1))=Yg [] (l.take k)++Zf (l.take k) (l.getD k Qi):=by
 have e:l.take (k+1)=l.take k++[l.getD k Qi]:=by
  rw[List.take_add_one];simp[List.getD,a]
 rw[e,ZhI];simp[Yg]
def ZAd (pre:List Rec) (b:List UInt8):Rec × Nat:=
 let i:=(Qb b).2
 let j:=(Qe (b.drop i)).2
 let k:=(Xc (b.drop (i+j))).2
 let m:=(Qe (b.drop (i+j+k))).2
 if i=0∨j=0∨k=0∨m=0 then(Qi,0)
 else(⟨0,(Qb b).1,IntKind.i64.wrap (Q7 pre (Qb b).1+zag (Qe (b.drop i)).1),(Xc (b.drop (i+j))).1,zag (Qe (b.drop (i+j+k))).1⟩,i+j+k+m)
theorem ZoP {n:Int} (h:I64 n):IntKind.i64.wrap n=n:=by
 obtain⟨b,a⟩:=h;rw[IntKind.wrap_i64];omega
theorem Zeu {l:List Rec} (b:∀ r ∈ l,Qz r) {r:Rec} (a:Qz r):I64 (r.seq-Q7 l r.proc):=by
 obtain⟨e,c⟩:=Zkh r.proc b;obtain⟨_,_,_,d,f,_⟩:=a;exact⟨by omega,by omega⟩
theorem ZyD {a:List Rec} (l:∀ r ∈ a,Qz r) {r:Rec} (b:Qz r) (t:List UInt8):ZAd a (Zf a r++t)=({ r with idx:=0 },(Zf a r).length):=by
 have c:=Zeu l b;have d:=ZaX b;obtain⟨n,_,_,y,A,z,B,_⟩:=id b
 have E:Zf a r++t=Lib.uvarint r.proc.toNat++(Lib.uvarint (Lib.zigzag (r.seq-Q7 a r.proc))++(X6 r.op++(Lib.uvarint (Lib.zigzag r.resp)++t))):=by
  unfold Zf;simp only [append_assoc]
 have g:=Q4 r.proc.toNat (Lib.uvarint (Lib.zigzag (r.seq-Q7 a r.proc))++(X6 r.op++(Lib.uvarint (Lib.zigzag r.resp)++t))) (by omega)
 rw[<-E] at g;have f:(Zf a r++t).drop (Lib.uvarint r.proc.toNat).length=Lib.uvarint (Lib.zigzag (r.seq-Q7 a r.proc))++(X6 r.op++(Lib.uvarint (Lib.zigzag r.resp)++t)):=by rw[E,drop_left]
 have i:=Y8 (Lib.zigzag (r.seq-Q7 a r.proc)) (X6 r.op++(Lib.uvarint (Lib.zigzag r.resp)++t)) (Zbd c);have e:(Zf a r++t).drop ((Lib.uvarint r.proc.toNat).length+(Lib.uvarint (Lib.zigzag (r.seq-Q7 a r.proc))).length)=X6 r.op++(Lib.uvarint (Lib.zigzag r.resp)++t):=by rw[<-drop_drop,f,drop_left]
 have q:=Zmy r.op n (Lib.uvarint (Lib.zigzag r.resp)++t);have u:(Zf a r++t).drop ((Lib.uvarint r.proc.toNat).length+(Lib.uvarint (Lib.zigzag (r.seq-Q7 a r.proc))).length+(X6 r.op).length)=Lib.uvarint (Lib.zigzag r.resp)++t:=by rw[<-drop_drop,e,drop_left]
 have w:=Y8 (Lib.zigzag r.resp) t (Zbd d);have p:=J2 r.proc.toNat;have j:=J2 (Lib.zigzag (r.seq-Q7 a r.proc));have m:=J2 (Lib.zigzag r.resp)
 have k:(X6 r.op).length≠0:=by
  unfold X6;have:=J2 r.op.code.toNat;rw[length_append];omega
 unfold ZAd;simp only [g,f,i,e,q,u,w];rw[if_neg (by rintro(h | h | h | h);exact p h;exact j h;exact k h;exact m h)]
 have x:((r.proc.toNat:Nat):Int)=r.proc:=by omega
 rw[x,Gw _ c.1 c.2,Gw _ d.1 d.2];have v:Q7 a r.proc+(r.seq-Q7 a r.proc)=r.seq:=by omega
 rw[v,ZoP ⟨by omega,by omega⟩]
 congr 1
 unfold Zf;simp only [length_append];omega
def DecB (b:List UInt8) (l:List Rec) (e:Int):Prop:=(e=0∧Yc l∧X9 l=b)∨(e=3∧l=[]∧∀ l',Yc l'->X9 l'≠b)
structure Seg where
 kind:Int
 first:Int
 recs:List Rec
def Zev:Seg:=⟨0,0,[]⟩
def ZhJ:Nat->Int->List Rec->List UInt8->List Rec
 | 0,_,pre,_=>pre
 | n+1,i,pre,b=>ZhJ n i (pre++[{ (ZAd pre b).1 with idx:=i+pre.length }]) (b.drop (ZAd pre b).2)
def ZmK (b:List UInt8):List Rec:=ZhJ (Qb (b.drop (Qb b).2)).1 (Qb b).1 [] (b.drop ((Qb b).2+(Qb (b.drop (Qb b).2)).2))
def ZdK (b:List UInt8):Option (List Rec):=if Yc (ZmK b)∧X9 (ZmK b)=b then some (ZmK b) else none
theorem ZhK:∀ (l a:List Rec) (i:Int) (t:List UInt8),(∀ r ∈ a,Qz r)->(∀ r ∈ l,Qz r)->Xl (i+a.length) l->ZhJ l.length i a (Yg a l++t)=a++l
 | [],a,i,t,_,_,_=>by simp[ZhJ]
 | r::l,a,i,t,hp,hl,c=>by
  obtain⟨j,c⟩:=c;have d:=hl r (by simp)
  have e:=ZyD hp d (Yg (a++[r]) l++t);rw[length_cons,ZhJ,Yg,append_assoc,e];have g:({ ({ r with idx:=0 }:Rec) with idx:=i+a.length }:Rec)=r:=by rw[<-j]
  simp only [g,drop_left]
  rw[ZhK l (a++[r]) i t (fun s b=>by
   rcases List.mem_append.1 b with h | h
   ·exact hp s h
   ·rw[List.mem_singleton.1 h];exact d) (fun s b=>hl s (by simp[b])) (by
   have f:i+((a++[r]).length:Int)=i+(a.length:Int)+1:=by simp;omega
   rw[f];exact c)]
  simp
theorem ZrK {l:List Rec} (h:Yc l):Qz (l.headD Qi):=by
 cases l with
 | nil=>exact absurd h.1 (by simp)
 | cons r t=>exact h.2.2.1 r (by simp)
theorem ZrL {l:List Rec} (h:Yc l):ZmK (X9 l)=l:=by
 have d:=ZrK h;obtain⟨i,j,b,a⟩:=h;obtain⟨_,m,k,_⟩:=d
 have f:Qb (X9 l)=((l.headD Qi).idx.toNat,(Lib.uvarint (l.headD Qi).idx.toNat).length):=by
  unfold X9;exact Q4 _ _ (by omega)
 have c:(X9 l).drop (Lib.uvarint (l.headD Qi).idx.toNat).length=Lib.uvarint l.length++Yg [] l:=by
  unfold X9;rw[drop_left]
 have g:Qb (Lib.uvarint l.length++Yg [] l)=(l.length,(Lib.uvarint l.length).length):=Q4 _ _ (by omega)
 unfold ZmK;rw[f];simp only;rw[<-drop_drop,c,g];simp only [drop_left]
 have h:=ZhK l [] ((l.headD Qi).idx.toNat:Nat) [] (by simp) b (by
  have e:(((l.headD Qi).idx.toNat:Nat):Int)+(([]:List Rec).length:Int)=(l.headD Qi).idx:=by rw[length_nil];omega
  rw[e]
  exact a)
 rw[append_nil] at h;exact h
theorem ZmL {l:List Rec} (h:Yc l):ZdK (X9 l)=some l:=by
 unfold ZdK;rw[ZrL h,if_pos ⟨h,rfl⟩]
theorem ZfA {l:List Rec} (h:ZdK b=some l):Yc l∧X9 l=b:=by
 unfold ZdK at h;split at h
 ·rename_i a
  injection h with h
  rw[<-h];exact a
 ·cases h
set_option linter.unusedVariables false in
def Zyh (v:Nat) (d:List UInt8):Option (List Rec):=
 if hd:d=[] then some []
 else if hk:(Qb d).2=0∨d.length<(Qb d).2+(Qb d).1∨(Qb d).1<1∨(d.getD (Qb d).2 0).toNat≠v then none
 else if(decR ((d.drop (Qb d).2).take (Qb d).1)).2≠0 then none
 else(Zyh v (d.drop ((Qb d).2+(Qb d).1))).map (fun t=>(decR ((d.drop (Qb d).2).take (Qb d).1)).1::t)
termination_by d.length
decreasing_by
 have h1:d.length≠0:=by simpa using hd
 rw[length_drop];omega
def Zzz (v:Nat) (r:Rec):List UInt8:=Lib.uvarint (encR v r).length++encR v r
def ZAi (v:Nat) (l:List Rec):List UInt8:=if v=3 then X9 l else l.flatMap (Zzz v)
def Xq (v k f:Nat):List UInt8:=108::(Lib.uvarint v++(Lib.uvarint k++Lib.uvarint f))
def ZzA:Nat->List (List UInt8)->List UInt8
 | _,[]=>[]
 | d,x::xs=>Lib.uvarint d++ZzA (Qd x).length xs
def ZzB (H:List UInt8) (B:List (List UInt8)):List UInt8:=Lib.uvarint B.length++ZzA (Qd H).length B
def ZqG (l:List Rec) (first:Int):Prop:=l.length<=4096∧(∀ r ∈ l,Qz r)∧Xl first l
instance (l:List Rec) (first:Int):Decidable (ZqG l first):=by unfold ZqG;infer_instance
def MayG (s:Seg):Prop:=(0<=s.kind∧s.kind<6∧0<=s.first∧s.first<4611686018427387904)∧ZqG s.recs s.first
instance (s:Seg):Decidable (MayG s):=by unfold MayG;infer_instance
def Z0 (d:List UInt8):Except Int (Nat × Nat × Nat):=
 let i:=(Qb (d.drop 1)).2
 let j:=(Qb (d.drop (1+i))).2
 let m:=(Qb (d.drop (1+i+j))).2
 if d=[]∨d.getD 0 0≠108 then .error 3
 else if i=0∨j=0∨m=0∨1+i+j+m≠d.length then .error 3
 else if(Qb (d.drop 1)).1<1∨3<(Qb (d.drop 1)).1 then .error 6
 else if 6<=(Qb (d.drop (1+i))).1 then .error 1
 else .ok ((Qb (d.drop 1)).1,(Qb (d.drop (1+i))).1,(Qb (d.drop (1+i+j))).1)
def ZqH (v:Nat) (d:List UInt8) (next:Int):Option (List Rec):=
 match (if v<3 then Zyh v d else ZdK d) with
 | none=>none
 | some l=>if((1<=l.length∧l.length<=16)∧ZqG l next)∧ZAi v l=d then some l else none
def J4 (v:Nat) (first:Int):List (List UInt8)->List Rec->Nat->List Rec × Nat × Int
 | [],acc,_=>(acc,0,0)
 | d::ds,acc,last=>
  match ZqH v d (first+acc.length) with
  | none=>(acc,0,3)
  | some r=>if last<16 then(acc,0,3) else if 4096<acc.length+r.length then(acc,0,5)
   else((J4 v first ds (acc++r) r.length).1,(J4 v first ds (acc++r) r.length).2.1+1,(J4 v first ds (acc++r) r.length).2.2)
def ZzC (L:List (List UInt8)):Seg × Int:=
 if L.length<2 then(Zev,16)
 else match Z0 (L.headD []) with
  | .error e=>(Zev,e)
  | .ok (v,k,f)=>
   if(J4 v f (L.tail.dropLast) [] 16).2.2≠0 then(Zev,(J4 v f (L.tail.dropLast) [] 16).2.2)
   else if ZzB (L.headD []) L.tail.dropLast=L.getLastD [] then(⟨k,f,(J4 v f (L.tail.dropLast) [] 16).1⟩,0) else(Zev,16)
def ZwK (L:List (List UInt8)):Seg × Nat × Bool:=
 if L=[] then(Zev,0,false)
 else match Z0 (L.headD []) with
  | .error _=>(Zev,0,false)
  | .ok (v,k,f)=>(⟨k,f,(J4 v f L.tail [] 16).1⟩,(Qf (L.take (1+(J4 v f L.tail [] 16).2.1))).length,true)
def Gv (b:List UInt8):Seg × Nat × Bool:=ZwK (Qp b).1
structure Pce where
 name:Int
 first:Int
 stop:Int
def Zj:Pce:=⟨0,0,0⟩
structure Lgb where
 first:Int
 recs:List Rec
 pcs:List Pce
def Lgb.next (b:Lgb):Int:=b.first+b.recs.length
def Lgb.start (b:Lgb) (name first:Int):Lgb:=⟨if b.pcs.length=0 then first else b.first,b.recs,b.pcs++[⟨name,first,first⟩]⟩
def Zc (l:List Pce) (n:Nat):List Pce:=l.set (l.length-1) ⟨(l.getD (l.length-1) Zj).name,(l.getD (l.length-1) Zj).first,(l.getD (l.length-1) Zj).stop+n⟩
def Lgb.add (b:Lgb) (l:List Rec):Lgb:=⟨b.first,b.recs++l,Zc b.pcs l.length⟩
def Zg (left:List Pce) (base:Int):Int:=if left.length=0 then base else(left.getD 0 Zj).first
def Lgb.letGo (b:Lgb) (left:List Pce) (base:Int):Lgb:=⟨Zg left base,b.recs.drop (Zg left base-b.first).toNat,left⟩
def Lgb.leads (b:Lgb) (base:Q0):Prop:=b.pcs.length≠0∧b.first<=base.idx∧base.idx<=b.next∧(Q3 base (b.recs.drop (base.idx-b.first).toNat)).2=0
instance (b:Lgb) (base:Q0):Decidable (b.leads base):=by unfold Lgb.leads;infer_instance
def Lgb.behind (b:Lgb) (base:Q0):Lgb × Q0:=
 if b.leads base then(b,(Q3 base (b.recs.drop (base.idx-b.first).toNat)).1) else(⟨base.idx,[],[]⟩,base)
structure Sto where
 log:Lgb
 bases:List Q0
 now:Q0
 synced:Int
 cur:Int
 nw:Bool
def Sto.next (s:Sto):Int:=s.log.next
def Sto.base (s:Sto):Q0:=s.bases.getD (s.bases.length-1) Yb
abbrev SDk:=Sto × Dk
def Qk (d:Dk):List Int:=(Qm d).map Prod.fst
def Xk (l:List Int) (first:Int):List Int:=l.filter fun n=>!(decide (n<first) || decide ((n-first) % 2≠0))
def Xs (d:Dk) (first:Int):Int:=(Xk (Qk d) first).getD ((Xk (Qk d) first).length-1) (first-2)+2
def ZbB (H:List UInt8) (kind:Int):Option Nat:=
 match Z0 H with
 | .ok (v,k,f)=>if v=3∧(k:Int)=kind then some f else none
 | .error _=>none
def Ys (first:Int):List (List UInt8)->List Rec->List Rec
 | [],acc=>acc
 | d::t,acc=>
  match ZdK d with
  | none=>acc
  | some l=>if(l.headD Qi).idx=first+acc.length then Ys first t (acc++l) else acc
def ZoH (b:List UInt8) (kind:Int):Option (Nat × List Rec):=
 match (Qp b).1 with
 | []=>none
 | H::B=>(ZbB H kind).map fun f=>(f,Ys f B [])
def ZaE:Lgb:=⟨0,[],[]⟩
def logOne (d:Dk) (kind:Int) (b:Lgb) (n:Int):Lgb:=
 match ZoH (Zp d n).1 kind with
 | none=>b
 | some (f,l)=>if b.pcs.length=0∨(f:Int)=b.next then(b.start n f).add l else b
def Jm (d:Dk) (kind:Int):Lgb:=(Xk (Qk d) 2).foldl (logOne d kind) ZaE
def Zn (kind:Int):Q0:=⟨0,J9 kind,[]⟩
def Js (d:Dk) (kind:Int) (l:List Q0) (n:Int):List Q0:=
 if(ZmE (Zp d n).1).2=0∧(ZmE (Zp d n).1).1.st.kind=kind then l++[(ZmE (Zp d n).1).1] else l
def Yi (d:Dk) (kind:Int):List Q0:=(Xk (Qk d) 3).foldl (Js d kind) [Zn kind]
def Gp (l:List Q0):Q0:=l.getD (l.length-1) Yb
def Zew (d:Dk) (kind:Int):Sto:=
 ⟨((Jm d kind).behind (Gp (Yi d kind))).1,Yi d kind,((Jm d kind).behind (Gp (Yi d kind))).2,((Jm d kind).behind (Gp (Yi d kind))).1.next,0,false⟩
def ZfB (d:Dk) (kind:Int):Int:=if kind<0∨6<=kind then 1 else if d.power=0 then 11 else 0
def Qv:List (SDk->SDk × Int)->SDk->SDk × Int
 | [],x=>(x,0)
 | f::t,x=>if(f x).2=0 then Qv t (f x).1 else f x
def Qq (x:SDk):SDk × Int:=((if(Qn x.2).2=0 then { x.1 with nw:=false } else x.1,(Qn x.2).1),(Qn x.2).2)
def Qx (x:SDk):SDk × Int:=if x.1.nw=true then Qq x else(x,0)
def Xm (f:Dk->Dk × Int) (x:SDk):SDk × Int:=((x.1,(f x.2).1),(f x.2).2)
def Q1 (x:SDk):SDk × Int:=Xm (fun d=>X3 d x.1.cur) x
def Ye (s:Sto):Sto:={ s with synced:=s.next }
def Q5 (x:SDk):SDk × Int:=
 if x.1.cur=0 then((Ye x.1,x.2),0) else
 if(Qv [Q1,Qx] x).2=0 then((Ye (Qv [Q1,Qx] x).1.1,(Qv [Q1,Qx] x).1.2),0) else Qv [Q1,Qx] x
def Yf (x:SDk):SDk × Int:=if(Q5 x).2=0 then(({ (Q5 x).1.1 with cur:=0 },(Q5 x).1.2),0) else Q5 x
def Jv (s:Sto) (l:List Rec):List UInt8:=if s.cur=0 then Qd (Xq 3 s.now.st.kind.toNat s.next.toNat)++Qd (X9 l) else Qd (X9 l)
def Jr (s:Sto) (d:Dk):Int:=if s.cur=0 then Xs d 2 else s.cur
def Y3 (s:Sto) (name:Int) (l:List Rec):Sto:=
 { s with log:=(if s.cur=0 then s.log.start name s.next else s.log).add l,now:=(Q3 s.now l).1,cur:=name,nw:=if s.cur=0 then true else s.nw }
def X5 (l:List Rec) (x:SDk):SDk × Int:=
 if ¬ Yc l then(x,1) else if(l.headD Qi).idx≠x.1.next then(x,15) else
 if(Qy x.2 (Jr x.1 x.2) (Jv x.1 l)).2=0 then((Y3 x.1 (Jr x.1 x.2) l,(Qy x.2 (Jr x.1 x.2) (Jv x.1 l)).1),0)
 else((x.1,(Qy x.2 (Jr x.1 x.2) (Jv x.1 l)).1),(Qy x.2 (Jr x.1 x.2) (Jv x.1 l)).2)
def ZcG (x:SDk):SDk × Int:=(x,if Z6 x.1.now then 0 else 1)
def Yy (x:SDk):SDk × Int:=if 1 ∈ Qk x.2 then Xm (fun d=>Qj d 1) x else(x,0)
def ZbN (x:SDk):SDk × Int:=Xm (fun d=>Qy d 1 (if Z6 x.1.now then ZjA x.1.now else[])) x
def Gs (x:SDk):SDk × Int:=Xm (fun d=>Ji d 1 (Xs d 3)) x
def J5:SDk->SDk × Int:=Qv [Q5,ZcG,Yy,ZbN,Xm (fun d=>X3 d 1),Gs,Qq]
def Xp (x:SDk):SDk × Int:=
 if(J5 x).2=0 then(({ (J5 x).1.1 with bases:=(J5 x).1.1.bases++[(J5 x).1.1.now] },(J5 x).1.2),0) else J5 x
def Zex (s:Sto) (p:Pce):Bool:=decide (p.stop<=s.base.idx) && decide (p.name≠s.cur)
def Gg (s:Sto):List Pce:=s.log.pcs.filter fun p=>!Zex s p
def ZfC (s:Sto):List (SDk->SDk × Int):=(s.log.pcs.filter (Zex s)).map fun p=>Xm (fun d=>Qj d p.name)
def Z7 (x:SDk):SDk × Int:=
 if(Qv (ZfC x.1++[Qq]) x).2=0 then(({ (Qv (ZfC x.1++[Qq]) x).1.1 with log:=x.1.log.letGo (Gg x.1) x.1.base.idx },(Qv (ZfC x.1++[Qq]) x).1.2),0)
 else Qv (ZfC x.1++[Qq]) x
def Zbs (s:Sto) (a b:Int):List Rec × Int:=
 if a<0∨b<a∨s.next<b then([],12) else if a<s.log.first then([],13) else((s.log.recs.take (b-s.log.first).toNat).drop (a-s.log.first).toNat,0)
theorem Zah (l:List UInt8) (a b:Nat):(l.drop a).take b++l.drop (a+b)=l.drop a:=by rw[<-drop_drop,take_append_drop]
theorem ZhL {e:Ent} (h:Zbm e):e.proc.toNat<4611686018427387904∧e.seq.toNat<4611686018427387904∧I64 e.resp∧((e.proc.toNat:Nat):Int)=e.proc∧((e.seq.toNat:Nat):Int)=e.seq:=by
 obtain⟨b,f,d,a,c,g⟩:=h;exact⟨by omega,by omega,⟨by omega,by omega⟩,by omega,by omega⟩
theorem ZrM {e:Ent} (h:Zbm e) (n:Nat) (t:List UInt8):Jx (n+1) (ZoG e++t)=(Jx n t).map (fun r=>(e::r.1,r.2)):=by
 obtain⟨f,k,a,l,q⟩:=ZhL h
 have E:ZoG e++t=Lib.uvarint e.proc.toNat++(Lib.uvarint e.seq.toNat++(Lib.uvarint (Lib.zigzag e.resp)++t)):=by
  unfold ZoG;simp only [append_assoc]
 have d:=Q4 e.proc.toNat (Lib.uvarint e.seq.toNat++(Lib.uvarint (Lib.zigzag e.resp)++t)) f;have g:=Q4 e.seq.toNat (Lib.uvarint (Lib.zigzag e.resp)++t) k;have p:=Y8 (Lib.zigzag e.resp) t (Zbd a);have c:(ZoG e++t).drop (Lib.uvarint e.proc.toNat).length=Lib.uvarint e.seq.toNat++(Lib.uvarint (Lib.zigzag e.resp)++t):=by rw[E,drop_left]
 have b:(ZoG e++t).drop ((Lib.uvarint e.proc.toNat).length+(Lib.uvarint e.seq.toNat).length)=Lib.uvarint (Lib.zigzag e.resp)++t:=by rw[<-drop_drop,c,drop_left]
 have u:(ZoG e++t).drop ((Lib.uvarint e.proc.toNat).length+(Lib.uvarint e.seq.toNat).length+(Lib.uvarint (Lib.zigzag e.resp)).length)=t:=by rw[<-drop_drop,b,drop_left]
 rw[<-E] at d;have m:=J2 e.proc.toNat;have i:=J2 e.seq.toNat;have j:=J2 (Lib.zigzag e.resp);rw[Jx];simp only [d,c,g,b,p,u];rw[if_neg (by rintro(h | h | h);exact m h;exact i h;exact j h),Gw _ a.1 a.2,l,q]
theorem ZmM:∀ (t:List Ent) (x:List UInt8),(∀ e ∈ t,Zbm e)->Jx t.length (Yw t++x)=some (t,x)
 | [],x,_=>by simp[Jx,Yw]
 | e::t,x,h=>by
  have E:Yw (e::t)++x=ZoG e++(Yw t++x):=by
   unfold Yw;rw[List.flatMap_cons,append_assoc]
  rw[E,length_cons,ZrM (h e (by simp)),ZmM t x (fun a b=>h a (by simp[b]))]
  rfl
theorem ZwL (e:Ent):1<=(ZoG e).length:=by
 unfold ZoG;have:=J2 e.proc.toNat;rw[length_append];omega
theorem ZmN (t:List Ent):t.length<=(Yw t).length:=by
 induction t with
 | nil=>simp
 | cons e t a=>
  unfold Yw at a ⊢;rw[List.flatMap_cons,length_append,length_cons];have:=ZwL e;omega
theorem ZrN {t:List Ent} (h:∀ e ∈ t,Zbm e) (b:t.length<=1000000):Zbe (Zyg t)=some t:=by
 have d:=Q4 t.length (Yw t) (by omega)
 have a:=ZmM t [] h;rw[append_nil] at a;have c:=J2 t.length;unfold Zbe Zyg;rw[d];simp only [drop_left];rw[if_neg,a];have:=ZmN t;rw[length_append];omega
theorem ZhM {t:List Ent} (h:Zet t):t.length<=65:=by
 have c:∀ i,i<t.length->(i:Int)<=(t.getD i Xi).proc:=by
  intro i
  induction i with
  | zero=>
   intro a;exact(h 0 a).1.1
  | succ i e=>
   intro a;have d:=e (by omega)
   have b:=(h (i+1) a).2 (by omega)
   rw[Nat.add_sub_cancel] at b;omega
 by_cases f:t.length=0
 ·omega
 ·have d:=c (t.length-1) (by omega)
  have b:=(h (t.length-1) (by omega)).1.2.1
  omega
theorem ZwM {e:Ent} (h:Zbm e):(ZoG e).length<=30:=by
 obtain⟨f,g,a,_⟩:=ZhL h;have b:=Lib.uvarint_length64 (x:=e.proc.toNat) (by omega)
 have d:=Lib.uvarint_length64 (x:=e.seq.toNat) (by omega)
 have c:=Lib.uvarint_length64 (Zbd a);unfold ZoG;rw[length_append,length_append];omega
theorem ZqI:∀ (t:List Ent),(∀ e ∈ t,Zbm e)->(Yw t).length<=30*t.length
 | [],_=>by simp[Yw]
 | e::t,h=>by
  have d:=ZwM (h e (by simp))
  have b:=ZqI t (fun a c=>h a (by simp[c]))
  unfold Yw at b ⊢;rw[List.flatMap_cons,length_append,length_cons];omega
theorem ZqJ:∀ (l:List Int),(∀ x ∈ l,I64 x)->(Zr l).length<=10*l.length
 | [],_=>by simp[Zr]
 | x::t,h=>by
  have c:=Lib.uvarint_length64 (Zbd (h x (by simp)))
  have d:=ZqJ t (fun a b=>h a (by simp[b]))
  rw[Zr,length_append,length_cons];omega
theorem ZoQ (h:Yl s):(Zeq s).length<=2000:=by
 obtain⟨d,f,a⟩:=Zer h;have b:=Zlj h;have e:=Lib.uvarint_length64 (x:=s.kind.toNat) (by omega)
 have c:=Lib.uvarint_length64 (x:=Db s) (by omega)
 have i:=Lib.uvarint_length64 (x:=s.L.length) (by omega)
 have g:=ZqJ s.L a;unfold Zeq;rw[length_append,length_append,length_append];omega
theorem Zay {s:Q0} (h:Z6 s):(Xt s).length<=5000:=by
 obtain⟨_,b,a⟩:=h;have d:=ZoQ b;have c:=ZhM a;have g:=ZqI s.tab a.mem;have e:=Lib.uvarint_length64 (x:=(Zeq s.st).length) (by omega)
 have f:=Lib.uvarint_length64 (x:=s.tab.length) (by omega)
 unfold Xt Zyg;rw[length_append,length_append,length_append];omega
theorem ZoR {s:Q0} (h:Z6 s):Yu (Xt s)=(⟨0,s.st,s.tab⟩,0):=by
 have f:=Zay h;obtain⟨_,a,b⟩:=h;have g:=ZoQ a;have d:=Q4 (Zeq s.st).length (Zeq s.st++Zyg s.tab) (by omega)
 have i:=J2 (Zeq s.st).length;have c:=ZrN b.mem (by have:=ZhM b;omega)
 have e:=ZwC a;unfold Yu Xt;rw[d];simp only [drop_left];rw[if_neg (by rw[length_append,length_append];omega),<-drop_drop,drop_left,List.take_left,drop_left,e,if_neg (by show ¬ ((0:Int)=3);decide),c]
theorem ZrO {i:Nat} (m:i<4611686018427387904) {w:List UInt8} (g:w.length<4611686018427387904):Yx (Zbn i w)=(i,w.length,Q2 0 w,0):=by
 have p:=ZmC w;have k:=Q4 3 (Lib.uvarint i++(Lib.uvarint w.length++Lib.leBytes 4 (Q2 0 w))) (by decide)
 have l:=Q4 i (Lib.uvarint w.length++Lib.leBytes 4 (Q2 0 w)) m;have j:=Q4 w.length (Lib.leBytes 4 (Q2 0 w)) g;have n:=J2 3;have d:=J2 i;have e:=J2 w.length;have b:(Zbn i w).drop 1=Lib.uvarint 3++(Lib.uvarint i++(Lib.uvarint w.length++Lib.leBytes 4 (Q2 0 w))):=rfl;have c:(Zbn i w).drop (1+(Lib.uvarint 3).length)=Lib.uvarint i++(Lib.uvarint w.length++Lib.leBytes 4 (Q2 0 w)):=by rw[<-drop_drop,b,drop_left]
 have a:(Zbn i w).drop (1+(Lib.uvarint 3).length+(Lib.uvarint i).length)=Lib.uvarint w.length++Lib.leBytes 4 (Q2 0 w):=by rw[<-drop_drop,c,drop_left]
 have f:(Zbn i w).drop (1+(Lib.uvarint 3).length+(Lib.uvarint i).length+(Lib.uvarint w.length).length)=Lib.leBytes 4 (Q2 0 w):=by rw[<-drop_drop,a,drop_left]
 have q:¬ ((Zbn i w).length<1∨((Zbn i w).getD 0 0).toNat≠115):=by
  unfold Zbn;simp
 unfold Yx;rw[if_neg q];simp only [b,k,c,l,a,j,f];rw[if_neg (by rintro(h | h | h);exact n h;exact d h;exact e h),if_neg (by simp),if_neg (by rw[Lib.leBytes_length];simp),Lib.leNat_leBytes 4 _ p]
theorem Zey {i:Nat} (d:i<4611686018427387904) {w:List UInt8} (b:w.length<4611686018427387904):(Zbn i w).length<=40:=by
 have c:=Lib.uvarint_length64 (x:=3) (by decide)
 have a:=Lib.uvarint_length64 (x:=i) (by omega)
 have e:=Lib.uvarint_length64 (x:=w.length) (by omega)
 unfold Zbn;rw[length_cons,length_append,length_append,length_append,Lib.leBytes_length];omega
theorem Zki {s:Q0} (h:Z6 s):∀ x ∈ ZaI s,x.length<=1048576:=by
 intro x hx;have b:=Zay h;obtain⟨⟨c,a⟩,_⟩:=h;unfold ZaI at hx;rcases List.mem_cons.1 hx with hx | hx
 ·rw[hx]
  have:=Zey (i:=s.idx.toNat) (by omega) (w:=Xt s) (by omega)
  omega
 ·have:=Zfw _ _ x zL hx
  omega
theorem ZwN {s:Q0} (h:Z6 s):ZmE (ZjA s)=(s,0):=by
 have i:=Zay h;have b:=Zag (ZaI s) (Zki h);have e:s.idx.toNat<4611686018427387904:=by have:=h.1;omega
 have c:((s.idx.toNat:Nat):Int)=s.idx:=by have:=h.1;omega
 have f:=ZrO e (w:=Xt s) (by omega)
 have g:=ZdI _ (Xt s) zL;have d:=ZcE _ (Xt s) zL;have a:=ZoR h;unfold ZmE ZjA;rw[b,if_neg (by simp)]
 show Zge (Zbn s.idx.toNat (Xt s)::Ya (Xt s))=_;unfold Zge;simp only [f,g];rw[if_neg (by simp),if_neg (by simp),if_neg (by simpa using d),if_neg (by simp),a,if_neg (by simp)]
 simp only [c];rw[if_pos h]
theorem ZdL:∀ (n:Nat) (b:List UInt8) (t:List Ent) (x:List UInt8),Jx n b=some (t,x)->t.length=n∧b=Yw t++x
 | 0,b,t,x,h=>by
  simp only [Jx,Option.some.injEq,Prod.mk.injEq] at h;obtain⟨rfl,rfl⟩:=h;exact⟨rfl,rfl⟩
 | n+1,b,t,x,h=>by
  rw[Jx] at h;split at h
  ·cases h
  ·rename_i c
   have p:(Qb b).2≠0:=fun e=>c (.inl e)
   have k:(Qb (b.drop (Qb b).2)).2≠0:=fun e=>c (.inr (.inl e))
   have m:(Qe (b.drop ((Qb b).2+(Qb (b.drop (Qb b).2)).2))).2≠0:=fun e=>c (.inr (.inr e))
   rw[Option.map_eq_some_iff] at h;obtain⟨⟨a,x'⟩,f,d⟩:=h;simp only [Prod.mk.injEq] at d;obtain⟨rfl,rfl⟩:=d;obtain⟨j,g⟩:=ZdL n _ a x' f;refine⟨by rw[length_cons,j],?_⟩
   have i:=Z2 p;have u:=Z2 k;have l:=Zkf m
   have E:Yw (⟨(Qb b).1,(Qb (b.drop (Qb b).2)).1,zag (Qe (b.drop ((Qb b).2+(Qb (b.drop (Qb b).2)).2))).1⟩::a)++x'=Lib.uvarint (Qb b).1++(Lib.uvarint (Qb (b.drop (Qb b).2)).1++(Lib.uvarint (Qe (b.drop ((Qb b).2+(Qb (b.drop (Qb b).2)).2))).1++(Yw a++x'))):=by
    unfold Yw;rw[List.flatMap_cons];unfold ZoG;simp only [Int.toNat_natCast,ZbI,append_assoc]
   have q:Lib.uvarint (Qe (b.drop ((Qb b).2+(Qb (b.drop (Qb b).2)).2))).1++(Yw a++x')=b.drop ((Qb b).2+(Qb (b.drop (Qb b).2)).2):=by
    rw[<-g,l];exact Zah _ _ _
   have v:Lib.uvarint (Qb (b.drop (Qb b).2)).1++b.drop ((Qb b).2+(Qb (b.drop (Qb b).2)).2)=b.drop (Qb b).2:=by
    rw[u];exact Zah _ _ _
   rw[E,q,v,i,take_append_drop]
theorem ZmO {t:List Ent} (h:Zbe b=some t):Zyg t=b:=by
 unfold Zbe at h;split at h
 ·cases h
 ·rename_i d
  have f:(Qb b).2≠0:=fun e=>d (.inl e)
  cases hr:Jx (Qb b).1 (b.drop (Qb b).2) with
  | none=>rw[hr] at h;cases h
  | some p=>
   obtain⟨i,x⟩:=p;rw[hr] at h
   cases x with
   | cons c x=>cases h
   | nil=>
    simp only [Option.some.injEq] at h;subst h;obtain⟨g,a⟩:=ZdL _ _ _ _ hr;rw[append_nil] at a;unfold Zyg;rw[g,<-a,Z2 f,take_append_drop]
theorem ZoS {w:List UInt8} (h:(Yu w).2=0):Xt ⟨0,(Yu w).1.st,(Yu w).1.tab⟩=w:=by
 unfold Yu at h ⊢;split at h
 ·exact absurd h (by decide)
 ·rename_i a
  rw[if_neg a];have f:(Qb w).2≠0:=fun e=>a (.inl e)
  have g:(Qb w).2+(Qb w).1<=w.length:=by omega
  split at h
  ·exact absurd h (by decide)
  ·rename_i b
   rw[if_neg b]
   cases ht:Zbe (w.drop ((Qb w).2+(Qb w).1)) with
   | none=>rw[ht] at h;exact absurd h (by show ¬ ((3:Int)=0);decide)
   | some t=>
    rw[ht] at h;have c:=ZrC h;have d:=ZmO ht;show Xt ⟨0,(ZdG ((w.drop (Qb w).2).take (Qb w).1)).1,t⟩=w;unfold Xt;rw[c.2,d,length_take,length_drop,Nat.min_eq_left (by omega),Z2 f,<-drop_drop,take_append_drop,take_append_drop]
theorem ZoT (h:(Yx d).2.2.2=0) {w:List UInt8} (a:w.length=(Yx d).2.1) (b:Q2 0 w=(Yx d).2.2.1):d=Zbn (Yx d).1 w∧(Yx d).1<4611686018427387904:=by
 unfold Yx at h a b ⊢;split at h
 ·exact absurd h (by decide)
 ·rename_i g
  rw[if_neg g] at a b ⊢;simp only at h a b ⊢;split at h
  ·exact absurd h (by decide)
  ·rename_i f
   rw[if_neg f] at a b ⊢;split at h
   ·exact absurd h (by decide)
   ·rename_i j
    rw[if_neg j] at a b ⊢;split at h
    ·exact absurd h (by decide)
    ·rename_i i
     rw[if_neg i] at a b ⊢;simp only at a b ⊢;have y:(Qb (d.drop 1)).2≠0:=fun e=>f (.inl e)
     have p:(Qb (d.drop (1+(Qb (d.drop 1)).2))).2≠0:=fun e=>f (.inr (.inl e))
     have t:(Qb (d.drop (1+(Qb (d.drop 1)).2+(Qb (d.drop (1+(Qb (d.drop 1)).2))).2))).2≠0:=fun e=>f (.inr (.inr e))
     have v:(Qb (d.drop 1)).1=3:=Decidable.not_not.1 j;have l:(d.drop (1+(Qb (d.drop 1)).2+(Qb (d.drop (1+(Qb (d.drop 1)).2))).2+(Qb (d.drop (1+(Qb (d.drop 1)).2+(Qb (d.drop (1+(Qb (d.drop 1)).2))).2))).2)).length=4:=Decidable.not_not.1 i;have m:=Z2 y;have A:=Z2 p;have q:=Z2 t;have k:=ZbY (d.drop (1+(Qb (d.drop 1)).2+(Qb (d.drop (1+(Qb (d.drop 1)).2))).2+(Qb (d.drop (1+(Qb (d.drop 1)).2+(Qb (d.drop (1+(Qb (d.drop 1)).2))).2))).2));rw[l] at k
     have n:(Qb (d.drop (1+(Qb (d.drop 1)).2))).1<4611686018427387904:=by
      rcases Xf (d.drop (1+(Qb (d.drop 1)).2)) with e | e
      ·rw[e];decide
      ·exact e.1
     refine⟨?_,n⟩;unfold Zbn
     have z:Lib.uvarint w.length++Lib.leBytes 4 (Q2 0 w)=d.drop (1+(Qb (d.drop 1)).2+(Qb (d.drop (1+(Qb (d.drop 1)).2))).2):=by
      rw[b,k,a,q];exact Zah _ _ _
     have C:Lib.uvarint (Qb (d.drop (1+(Qb (d.drop 1)).2))).1++d.drop (1+(Qb (d.drop 1)).2+(Qb (d.drop (1+(Qb (d.drop 1)).2))).2)=d.drop (1+(Qb (d.drop 1)).2):=by
      rw[A];exact Zah _ _ _
     have x:Lib.uvarint 3++d.drop (1+(Qb (d.drop 1)).2)=d.drop 1:=by
      rw[<-v,m];exact Zah _ _ _
     rw[z,C,x];have u:(d.getD 0 0).toNat=115:=Decidable.not_not.1 (fun e=>g (.inr e))
     have B:¬ d.length<1:=fun e=>g (.inl e)
     cases d with
     | nil=>exact absurd (by decide) B
     | cons c r=>
      have:c=115:=by
       apply UInt8.toNat_inj.1;simpa using u
      rw[this];rfl
theorem ZrP (h:(ZmE b).2=0):Z6 (ZmE b).1∧ZjA (ZmE b).1=b:=by
 unfold ZmE at h ⊢;by_cases a:(Qp b).2.2=0
 case neg=>
  rw[if_pos a] at h;exact absurd h (by show((Qp b).2.2:Int)≠0;omega)
 rw[if_neg (Decidable.not_not.2 a)] at h ⊢;obtain⟨n,t⟩:=Zfv _ b zL a;generalize (Qp b).1=L at *;unfold Zge at h ⊢
 cases L with
 | nil=>exact absurd h (by decide)
 | cons d P=>
  simp only at h ⊢;split at h
  ·rename_i e;exact absurd h e
  rename_i j
  rw[if_neg j];split at h
  ·exact absurd h (by decide)
  rename_i g
  rw[if_neg g];split at h
  ·exact absurd h (by decide)
  rename_i f
  rw[if_neg f];split at h
  ·exact absurd h (by decide)
  rename_i c
  rw[if_neg c];split at h
  ·rename_i e;exact absurd h e
  rename_i k
  rw[if_neg k];split at h
  ·rename_i i
   rw[if_pos i];have p:=ZoT (Decidable.not_not.1 j) (Decidable.not_not.1 g) (Decidable.not_not.1 c);have l:=ZoS (Decidable.not_not.1 k);have m:=ZcD P (Decidable.not_not.1 f);refine⟨i,?_⟩;have q:Xt ⟨((Yx d).1:Nat),(Yu P.flatten).1.st,(Yu P.flatten).1.tab⟩=P.flatten:=l;unfold ZjA ZaI;rw[q,m];show Qf (Zbn (((Yx d).1:Nat):Int).toNat P.flatten::P)=b;rw[Int.toNat_natCast,<-p.1];exact n
  ·exact absurd h (by decide)
def Ga:Int->List Pce->Int->Prop
 | i,[],j=>i=j
 | i,p::t,j=>p.first=i∧i<=p.stop∧Ga p.stop t j
theorem Zai:∀ {l:List Pce} {i j:Int},Ga i l j->i<=j
 | [],_,_,h=>Int.le_of_eq h
 | _::_,_,_,h=>by
  have:=Zai h.2.2;have:=h.2.1;omega
theorem ZaY:∀ {l:List Pce} {i j:Int},Ga i l j->∀ p ∈ l,i<=p.first∧p.first<=p.stop∧p.stop<=j
 | q::t,i,j,h,p,hp=>by
  obtain⟨b,c,a⟩:=h;rcases List.mem_cons.1 hp with rfl | hp
  ·have:=Zai a
   omega
  ·have:=ZaY a p hp
   omega
theorem Y1:∀ {a b:List Pce} {i j:Int},Ga i (a++b) j↔∃ k,Ga i a k∧Ga k b j
 | [],b,i,j=>by
  constructor
  ·intro h
   exact⟨i,rfl,h⟩
  ·rintro⟨k,h1,h2⟩
   have e:i=k:=h1;rw[e];exact h2
 | p::a,b,i,j=>by
  constructor
  ·rintro⟨h1,h2,h3⟩
   obtain⟨k,c,d⟩:=Y1.1 h3;exact⟨k,⟨h1,h2,c⟩,d⟩
  ·rintro⟨k,⟨h1,h2,c⟩,d⟩
   exact⟨h1,h2,Y1.2 ⟨k,c,d⟩⟩
theorem ZaN (l:List Pce) (p:Pce) (n:Nat):Zc (l++[p]) n=l++[⟨p.name,p.first,p.stop+n⟩]:=by
 unfold Zc;have e:(l++[p]).length-1=l.length:=by simp
 rw[e];have a:(l++[p]).getD l.length Zj=p:=by simp[List.getD]
 rw[a,List.set_append_right _ _ zL];simp
theorem Gc (l:List Pce) (n:Nat):(Zc l n).length=l.length:=by simp[Zc]
theorem ZdM {α:Type} {l:List α} (h:l.length≠0):∃ a x,l=a++[x]:=by
 have b:l≠[]:=fun e=>h (by rw[e];rfl)
 exact⟨l.dropLast,l.getLast b,(List.dropLast_concat_getLast b).symm⟩
theorem ZoU {l:List Pce} (h:Ga i l j) (f:l.length≠0):Ga i (Zc l n) (j+n):=by
 obtain⟨a,p,rfl⟩:=ZdM f;rw[ZaN,Y1];obtain⟨k,c,d,g,b⟩:=Y1.1 h;refine⟨k,c,d,?_,?_⟩
 ·show k<=p.stop+n
  omega
 ·show p.stop+n=j+n
  have e:p.stop=j:=b;rw[e]
theorem ZoV {l:List Pce} (h:Ga i l j) (name:Int):Ga i (l++[⟨name,j,j⟩]) j:=Y1.2 ⟨j,h,rfl,Int.le_refl _,rfl⟩
theorem Zds (l:List Pce) (n:Nat):(Zc l n).map Pce.name=l.map Pce.name:=by
 by_cases h:l.length=0
 ·rw[eq_nil_of_length_eq_zero h]
  rfl
 ·obtain⟨a,p,rfl⟩:=ZdM h
  rw[ZaN];simp
theorem Zln (cur base:Int):∀ (l:List Pce) (i j:Int),Ga i l j->(∀ p ∈ l.dropLast,p.name≠cur)->i<=base->
 (∃ a,a++l.filter (fun p=>!(decide (p.stop<=base) && decide (p.name≠cur)))=l∧(∀ p ∈ a,p.stop<=base∧p.name≠cur))∧Zg (l.filter (fun p=>!(decide (p.stop<=base) && decide (p.name≠cur)))) base<=base
 | [],i,j,_,_,_=>⟨⟨[],rfl,fun p c=>by cases c⟩,Int.le_refl _⟩
 | p::t,i,j,h,hc,hi=>by
  obtain⟨w,z,d⟩:=h;by_cases b:p.stop<=base∧p.name≠cur
  ·have e:(p::t).filter (fun p=>!(decide (p.stop<=base) && decide (p.name≠cur)))=t.filter (fun p=>!(decide (p.stop<=base) && decide (p.name≠cur))):=by
    rw[List.filter_cons,if_neg (by simp[b.1,b.2])]
   rw[e]
   obtain⟨⟨a,n,m⟩,u⟩:=Zln cur base t p.stop j d (fun q hq=>hc q (by
    cases t with
    | nil=>cases hq
    | cons x t=>rw[List.dropLast_cons_cons];exact List.mem_cons_of_mem _ hq)) b.1
   refine⟨⟨p::a,by rw[cons_append,n],fun q hq=>?_⟩,u⟩
   rcases List.mem_cons.1 hq with rfl | hq
   ·exact b
   ·exact m q hq
  ·have e:(p::t).filter (fun p=>!(decide (p.stop<=base) && decide (p.name≠cur)))=p::t:=by
    rw[List.filter_eq_self];intro q hq;rcases List.mem_cons.1 hq with rfl | hq
    ·simp only [Bool.not_eq_true',Bool.and_eq_false_imp,decide_eq_true_eq,decide_eq_false_iff_not]
     intro g;exact fun f=>b ⟨g,f⟩
    ·have k:t≠[]:=fun e=>by rw[e] at hq;cases hq
     have c:p.name≠cur:=hc p (by
      cases t with
      | nil=>exact absurd rfl k
      | cons x t=>rw[List.dropLast_cons_cons];exact List.mem_cons_self)
     have f:¬ p.stop<=base:=fun v=>b ⟨v,c⟩
     have y:=ZaY d q hq;simp only [Bool.not_eq_true',Bool.and_eq_false_imp,decide_eq_true_eq,decide_eq_false_iff_not];intro A;omega
   rw[e];refine⟨⟨[],rfl,(fun q hq=>by cases hq)⟩,?_⟩
   show(if(p::t).length=0 then base else p.first)<=base
   rw[if_neg (by simp),w]
   exact hi
structure OkG (b:Lgb):Prop where
 f0:0<=b.first
 fits:∀ r ∈ b.recs,Qz r
 ch:Ga b.first b.pcs b.next
 rc:Xl b.first b.recs
 top:b.next<=4611686018427387904
theorem Gx:∀ {a b:List Rec} {i:Int},Xl i (a++b)↔Xl i a∧Xl (i+a.length) b
 | [],b,i=>by simp[Xl]
 | r::a,b,i=>by
  have e:i+1+(a.length:Int)=i+(((r::a).length:Nat):Int):=by rw[length_cons];omega
  rw[cons_append,<-e];show(r.idx=i∧Xl (i+1) (a++b))↔(r.idx=i∧Xl (i+1) a)∧Xl (i+1+(a.length:Int)) b;rw[Gx,and_assoc]
theorem ZhN {l:List Rec} (h:Xl i l) (k:Nat) (a:k<=l.length):Xl (i+k) (l.drop k):=by
 rw[<-take_append_drop k l] at h;have:=(Gx.1 h).2
 rwa [length_take,Nat.min_eq_left a] at this
theorem ZqK (i:Int) (c:0<=i) (b:i<=4611686018427387904):OkG ⟨i,[],[]⟩:=by
 have e:(⟨i,[],[]⟩:Lgb).next=i:=by simp[Lgb.next]
 exact⟨c,(fun r a=>by cases a),by rw[e];exact rfl,trivial,by rw[e];exact b⟩
theorem Lgb.start_next (b:Lgb) (n f:Int) (h:b.pcs.length=0->b.recs=[]) (hf:b.pcs.length=0∨f=b.next):(b.start n f).next=f:=by
 unfold Lgb.start Lgb.next;by_cases a:b.pcs.length=0
 ·rw[if_pos a,h a]
  simp
 ·rw[if_neg a]
  rcases hf with hf | hf
  ·exact absurd hf a
  ·rw[hf]
   rfl
theorem OkG.empty {b:Lgb} (h:OkG b) (d:b.pcs.length=0):b.recs=[]:=by
 have a:=h.ch;rw[eq_nil_of_length_eq_zero d] at a;have c:b.first=b.next:=a;unfold Lgb.next at c;exact eq_nil_of_length_eq_zero (by omega)
theorem OkG.start {b:Lgb} (h:OkG b) (n f:Int) (k:0<=f) (d:f<=4611686018427387904) (g:b.pcs.length=0∨f=b.next):OkG (b.start n f):=by
 have a:=b.start_next n f h.empty g;by_cases c:b.pcs.length=0
 ·have e:b.start n f=⟨f,[],[⟨n,f,f⟩]⟩:=by
   unfold Lgb.start;rw[if_pos c,h.empty c,eq_nil_of_length_eq_zero c];rfl
  rw[e] at a ⊢;exact⟨k,(fun r i=>by cases i),by rw[a];exact⟨rfl,Int.le_refl _,rfl⟩,trivial,by rw[a];exact d⟩
 ·have j:f=b.next:=g.resolve_left c
  have e:b.start n f=⟨b.first,b.recs,b.pcs++[⟨n,f,f⟩]⟩:=by
   unfold Lgb.start;rw[if_neg c]
  rw[e] at a ⊢;refine⟨h.f0,h.fits,?_,h.rc,by rw[a];exact d⟩
  rw[a,j];exact ZoV h.ch n
theorem Lgb.add_next (b:Lgb) (l:List Rec):(b.add l).next=b.next+l.length:=by
 unfold Lgb.add Lgb.next;simp only [length_append];omega
theorem OkG.add {b:Lgb} (h:OkG b) (l:List Rec) (d:b.pcs.length≠0) (e:∀ r ∈ l,Qz r) (c:Xl b.next l) (a:b.next+l.length<=4611686018427387904):OkG (b.add l):=by
 refine⟨h.f0,fun r hr=>?_,?_,?_,by rw[b.add_next];exact a⟩
 ·rcases List.mem_append.1 hr with hr | hr
  ·exact h.fits r hr
  ·exact e r hr
 ·rw[b.add_next]
  exact ZoU h.ch d
 ·exact Gx.2 ⟨h.rc,c⟩
theorem Zde:∀ {l:List Rec} {i:Int},Xl i l->(∀ r ∈ l,Qz r)->l≠[]->i+l.length<=4611686018427387904
 | [],_,_,_,h=>absurd rfl h
 | [r],i,h,hf,_=>by
  have b:r.idx=i:=h.1;have c:=(hf r List.mem_cons_self).2.2.1;simp only [List.length_singleton];omega
 | r::q::t,i,h,hf,_=>by
  have:=Zde (l:=q::t) h.2 (fun x a=>hf x (List.mem_cons_of_mem _ a)) (by simp)
  simp only [length_cons] at this ⊢;omega
theorem OkG.letGo {b:Lgb} (h:OkG b) {cur base:Int} (y:∀ p ∈ b.pcs.dropLast,p.name≠cur) (z:b.first<=base) (C:base<=b.next):
 OkG (b.letGo (b.pcs.filter fun p=>!(decide (p.stop<=base) && decide (p.name≠cur))) base)∧(b.letGo (b.pcs.filter fun p=>!(decide (p.stop<=base) && decide (p.name≠cur))) base).first<=base∧
  (b.letGo (b.pcs.filter fun p=>!(decide (p.stop<=base) && decide (p.name≠cur))) base).next=b.next∧b.first<=(b.letGo (b.pcs.filter fun p=>!(decide (p.stop<=base) && decide (p.name≠cur))) base).first:=by
 obtain⟨⟨a,j,w⟩,n⟩:=Zln cur base b.pcs b.first b.next h.ch y z;generalize b.pcs.filter (fun p=>!(decide (p.stop<=base) && decide (p.name≠cur)))=left at j n ⊢
 have l:=h.ch;rw[<-j] at l;obtain⟨k,c,d⟩:=Y1.1 l;have F:=Zai c;have G:=Zai d
 have x:Ga (Zg left base) left b.next∧b.first<=Zg left base∧Zg left base<=b.next:=by
  unfold Zg
  cases left with
  | nil=>
   rw[if_pos (show([]:List Pce).length=0 from rfl)];have e:k=b.next:=d
   have E:k<=base:=by
    by_cases i:a.length=0
    ·rw[eq_nil_of_length_eq_zero i] at c
     have:b.first=k:=c;omega
    ·obtain⟨a',p,rfl⟩:=ZdM i
     obtain⟨m,_,_,_,A⟩:=Y1.1 c;have D:p.stop=k:=A;have:=(w p (by simp)).1
     omega
   refine⟨?_,by omega,by omega⟩
   show base=b.next;omega
  | cons p t=>
   rw[if_neg (by simp)]
   show Ga p.first (p::t) b.next∧b.first<=p.first∧p.first<=b.next;obtain⟨q,u,f⟩:=d;exact⟨⟨rfl,by omega,f⟩,by omega,by omega⟩
 obtain⟨q,u,f⟩:=x;have B:(Zg left base-b.first).toNat<=b.recs.length:=by unfold Lgb.next at f;omega
 have g:(b.letGo left base).next=b.next:=by
  unfold Lgb.letGo Lgb.next;simp only [length_drop];omega
 refine⟨⟨?_,fun r v=>h.fits r (List.mem_of_mem_drop v),?_,?_,by rw[g];exact h.top⟩,n,g,u⟩
 ·show 0<=Zg left base
  have:=h.f0;omega
 ·rw[g]
  exact q
 ·have:=ZhN h.rc (Zg left base-b.first).toNat B
  have e:b.first+(((Zg left base-b.first).toNat:Nat):Int)=Zg left base:=by omega
  rw[e] at this;exact this
end Go.Proofs.YtnahjngbneicaaaGreatDoor
