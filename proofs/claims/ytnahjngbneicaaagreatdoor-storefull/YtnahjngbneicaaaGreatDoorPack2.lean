import Derived.Test.YtnahjngbneicaaaGreatDoorPack1
namespace Go.Proofs.YtnahjngbneicaaaGreatDoor
set_option linter.unusedSimpArgs false
open _root_.Go.Proofs.Tryz
open List (append_assoc append_nil cons_append drop_drop drop_left eq_nil_of_length_eq_zero flatten_cons length_append length_cons length_drop length_nil length_take pairwise_cons take_append_drop take_length take_of_length_le)
set_option maxRecDepth 100000
variable {k n x:Nat} {b d l:List UInt8} {s:St} {i j:Int}
abbrev za3:=@List.mem_filter
abbrev za6:=@List.mem_cons_of_mem
abbrev zbj:=@Int.toNat_natCast
abbrev zbp:=@List.mem_cons_self
abbrev zb1:=@Nat.add_assoc
abbrev zb7:=@Decidable.not_not
abbrev zca:=@Classical.byContradiction
abbrev zcg:=@Nat.not_lt_zero
abbrev zcl:=@List.take_add_one
abbrev zco:=@decide_eq_decide
abbrev zcz:=@Go.Lib.leBytes_length
abbrev zc3:=@List.not_mem_nil
abbrev zdc:=@decide_eq_false_iff_not
abbrev zdk:=@Nat.add_sub_cancel
abbrev zdq:=@List.foldl_append
abbrev zd1:=@List.pairwise_iff_getElem
abbrev zd6:=@List.foldl_cons
abbrev zd9:=@List.filter_eq_self
abbrev zea:=@List.drop_eq_nil_of_le
abbrev zec:=@Nat.xor_lt_two_pow
abbrev zeh:=@Nat.mod_two_eq_zero_or_one
abbrev zei:=@List.map_cons
abbrev zel:=@Nat.pow_le_pow_right
abbrev zen:=@Int.le_refl
abbrev zev:=@List.nil_append
abbrev ze3:=@List.flatMap_cons
abbrev ze4:=@List.set_append_right
abbrev zfu:=@Nat.xor_assoc
abbrev zfy:=@List.take_append
abbrev zgd:=@List.flatMap_append
abbrev zgg:=@true_and
abbrev zgh:=@List.take_left
abbrev zgn:=@List.take_add
abbrev zgt:=@Nat.shiftRight_eq_div_pow
theorem Zbd {n:Int} (h:I64 n):Lib.zigzag n<18446744073709551616:=by
 obtain⟨b,a⟩:=h;unfold Lib.zigzag;split <;> omega
theorem Zpc {u:Nat} (h:u<18446744073709551616):I64 (zag u):=Zut u h
theorem Jy (l:List UInt8):(Qb l).2<=l.length:=by
 rcases Xh l with h | h
 ·rw[h];exact zap _
 ·exact h.2.2.1
def X7 (o:Opn):List UInt8:=Lib.uvarint o.code.toNat++(Lib.uvarint (Lib.zigzag o.a)++Lib.uvarint (Lib.zigzag o.b))
def Xe (l:List UInt8):Opn × Nat:=
 if(Qb l).2=0∨(Qe (l.drop (Qb l).2)).2=0∨(Qe (l.drop ((Qb l).2+(Qe (l.drop (Qb l).2)).2))).2=0∨¬ Gj ⟨((Qb l).1:Int),zag (Qe (l.drop (Qb l).2)).1,zag (Qe (l.drop ((Qb l).2+(Qe (l.drop (Qb l).2)).2))).1⟩ then(⟨0,0,0⟩,0)
 else(⟨((Qb l).1:Int),zag (Qe (l.drop (Qb l).2)).1,zag (Qe (l.drop ((Qb l).2+(Qe (l.drop (Qb l).2)).2))).1⟩,(Qb l).2+(Qe (l.drop (Qb l).2)).2+(Qe (l.drop ((Qb l).2+(Qe (l.drop (Qb l).2)).2))).2)
theorem ZaN {o:Opn} (h:Gj o):I64 o.a∧I64 o.b:=by
 obtain⟨_,_,f,e,d,c⟩:=h;exact⟨Qo (by omega) (by omega),Qo (by omega) (by omega)⟩
theorem J6 (u:Nat):(Lib.uvarint u).length≠0:=by have:=zcu u;omega
theorem ZmQ (o:Opn) (h:Gj o) (t:List UInt8):Xe (X7 o++t)=(o,(X7 o).length):=by
 obtain⟨d,e⟩:=ZaN h;have l:=h.1;have n:=h.2.1
 have k:Qb (X7 o++t)=(o.code.toNat,(Lib.uvarint o.code.toNat).length):=by
  unfold X7;rw[append_assoc];exact Q6 _ _ (by omega)
 have g:(X7 o++t).drop (Lib.uvarint o.code.toNat).length=Lib.uvarint (Lib.zigzag o.a)++(Lib.uvarint (Lib.zigzag o.b)++t):=by
  unfold X7;rw[append_assoc,drop_left,append_assoc]
 have j:=Zb (Lib.zigzag o.a) (Lib.uvarint (Lib.zigzag o.b)++t) (Zbd d)
 have i:(X7 o++t).drop ((Lib.uvarint o.code.toNat).length+(Lib.uvarint (Lib.zigzag o.a)).length)=Lib.uvarint (Lib.zigzag o.b)++t:=by
  rw[<-drop_drop,g,drop_left]
 have m:=Zb (Lib.zigzag o.b) t (Zbd e)
 have f:(⟨((o.code.toNat:Nat):Int),zag (Lib.zigzag o.a),zag (Lib.zigzag o.b)⟩:Opn)=o:=by
  rw[G6 _ d.1 d.2,G6 _ e.1 e.2];obtain⟨c,a,b⟩:=o;simp only [Opn.mk.injEq,ze7];simp only at l;omega
 unfold Xe;simp only [k,g,j,i,m];rw[zaa,f]
 ·simp only [zcj,zgg]
  unfold X7;simp only [length_append];omega
 ·rw[f]
  rintro(h1 | h1 | h1 | h1)
  ·exact J6 _ h1
  ·exact J6 _ h1
  ·exact J6 _ h1
  ·exact h1 h
theorem ZqY (l:List UInt8):(Xe l).2<=l.length:=by
 unfold Xe;split
 ·exact zap _
 ·have c:=Jy l
  have b:=Da (l.drop (Qb l).2);have a:=Da (l.drop ((Qb l).2+(Qe (l.drop (Qb l).2)).2));simp only [length_drop] at b a;show(Qb l).2+_+_<=_;omega
theorem ZrT (h:(Xe l).2=0):(Xe l).1=⟨0,0,0⟩:=by
 unfold Xe at h ⊢;split
 ·rfl
 ·rename_i a
  rw[zaa a] at h;simp only at h;omega
theorem ZfC (l:List UInt8) (i j:Nat):l.take (i+j)=l.take i++(l.drop i).take j:=by
 rw[zgn]
theorem ZhL (h:(Xe l).2≠0):Gj (Xe l).1∧X7 (Xe l).1=l.take (Xe l).2:=by
 unfold Xe at h ⊢;by_cases a:(Qb l).2=0∨(Qe (l.drop (Qb l).2)).2=0∨(Qe (l.drop ((Qb l).2+(Qe (l.drop (Qb l).2)).2))).2=0∨¬ Gj ⟨((Qb l).1:Int),zag (Qe (l.drop (Qb l).2)).1,zag (Qe (l.drop ((Qb l).2+(Qe (l.drop (Qb l).2)).2))).1⟩
 ·rw[zab a] at h
  exact absurd rfl h
 ·rw[zaa a]
  have d:(Qb l).2≠0:=fun e=>a (.inl e)
  have c:(Qe (l.drop (Qb l).2)).2≠0:=fun e=>a (.inr (.inl e))
  have b:(Qe (l.drop ((Qb l).2+(Qe (l.drop (Qb l).2)).2))).2≠0:=fun e=>a (.inr (.inr (.inl e)))
  have f:Gj ⟨((Qb l).1:Int),zag (Qe (l.drop (Qb l).2)).1,zag (Qe (l.drop ((Qb l).2+(Qe (l.drop (Qb l).2)).2))).1⟩:=zca fun e=>a (.inr (.inr (.inr e)))
  refine⟨f,?_⟩
  have g:l.take (Qb l).2=Lib.uvarint (Qb l).1:=by
   rcases Xh l with e | e
   ·rw[e] at d;exact absurd rfl d
   ·exact e.2.2.2
  have j:(l.drop (Qb l).2).take (Qe (l.drop (Qb l).2)).2=Lib.uvarint (Qe (l.drop (Qb l).2)).1:=by
   rcases Jl (l.drop (Qb l).2) with e | e
   ·rw[e] at c;exact absurd rfl c
   ·exact e.2.2.2
  have i:(l.drop ((Qb l).2+(Qe (l.drop (Qb l).2)).2)).take (Qe (l.drop ((Qb l).2+(Qe (l.drop (Qb l).2)).2))).2=Lib.uvarint (Qe (l.drop ((Qb l).2+(Qe (l.drop (Qb l).2)).2))).1:=by
   rcases Jl (l.drop ((Qb l).2+(Qe (l.drop (Qb l).2)).2)) with e | e
   ·rw[e] at b;exact absurd rfl b
   ·exact e.2.2.2
  unfold X7;simp only [ZbJ];rw[ZfC,ZfC,g,j,i,append_assoc];rfl
def Zv:List Int->List UInt8
 | []=>[]
 | x::r=>Lib.uvarint (Lib.zigzag x)++Zv r
def Dg (s:St):Nat:=if s.shut=true then s.eng.toNat+1 else 0
def ZeA (s:St):List UInt8:=Lib.uvarint s.kind.toNat++(Lib.uvarint (Dg s)++(Lib.uvarint s.L.length++Zv s.L))
def J7:Nat->List UInt8->Option (List Int × Nat)
 | 0,_=>some ([],0)
 | n+1,l=>if(Qe l).2=0 then none else(J7 n (l.drop (Qe l).2)).map fun x=>(zag (Qe l).1::x.1,(Qe l).2+x.2)
def mkS (kind sl:Nat) (xs:List Int):St:=⟨kind,xs,decide (0<sl),if 0<sl then(sl:Int)-1 else 0⟩
def ZcA:St:=⟨0,[],false,0⟩
def ZjR (kind sl many:Nat) (l:List UInt8):St × Int:=
 match J7 many l with
 | none=>(ZcA,3)
 | some (xs,u)=>if u≠l.length then(ZcA,3) else if Ym (mkS kind sl xs) then(mkS kind sl xs,0) else(ZcA,1)
def ZdP (l:List UInt8):St × Int:=
 if(Qb l).2=0∨(Qb (l.drop (Qb l).2)).2=0∨(Qb (l.drop ((Qb l).2+(Qb (l.drop (Qb l).2)).2))).2=0∨3<(Qb (l.drop (Qb l).2)).1∨128<(Qb (l.drop ((Qb l).2+(Qb (l.drop (Qb l).2)).2))).1 then(ZcA,3)
 else ZjR (Qb l).1 (Qb (l.drop (Qb l).2)).1 (Qb (l.drop ((Qb l).2+(Qb (l.drop (Qb l).2)).2))).1 (l.drop ((Qb l).2+(Qb (l.drop (Qb l).2)).2+(Qb (l.drop ((Qb l).2+(Qb (l.drop (Qb l).2)).2))).2))
theorem Zks:∀ (L:List Int) (t:List UInt8),(∀ x ∈ L,I64 x)->J7 L.length (Zv L++t)=some (L,(Zv L).length)
 | [],t,_=>rfl
 | x::r,t,h=>by
  have a:=h x (by simp)
  have c:=Zks r t (fun y b=>h y (by simp[b]))
  have d:=Zb (Lib.zigzag x) (Zv r++t) (Zbd a);rw[length_cons,Zv,append_assoc,J7,d];simp only;rw[zaa (J6 _),drop_left,c,G6 x a.1 a.2];simp
theorem ZbW:∀ (n:Nat) (l:List UInt8) (xs:List Int) (u:Nat),J7 n l=some (xs,u)->xs.length=n∧u<=l.length∧Zv xs=l.take u∧∀ x ∈ xs,I64 x
 | 0,l,xs,u,h=>by
  simp only [J7,zb6,zcj] at h;obtain⟨rfl,rfl⟩:=h;exact⟨rfl,zap _,by simp[Zv],fun x hx=>by simp at hx⟩
 | n+1,l,xs,u,h=>by
  rw[J7] at h;by_cases a:(Qe l).2=0
  ·rw[zab a] at h;cases h
  ·rw[zaa a] at h
   obtain⟨⟨m,k⟩,f,b⟩:=Option.map_eq_some_iff.1 h;simp only [zcj] at b;obtain⟨rfl,rfl⟩:=b;obtain⟨p,c,j,i⟩:=ZbW n _ m k f;rcases Jl l with e | ⟨g,q,t,d⟩
   ·rw[e] at a;exact absurd rfl a
   ·simp only [length_drop] at c
    refine⟨by simp[p],by omega,?_,?_⟩
    ·rw[Zv,ZbJ,j,ZfC,d]
    ·intro x hx
     rcases zbd.1 hx with rfl | hx
     ·exact Zpc g
     ·exact i x hx
theorem ZlA (h:Ym s):Dg s<=3:=by
 have:=h.1;have:=h.2.1;unfold Dg;split <;> omega
theorem Zzf (h:Ym s):mkS s.kind.toNat (Dg s) s.L=s:=by
 obtain⟨k,l,a,g⟩:=s;have d:0<=g:=h.1;have c:0<=k:=h.2.2.2.1;have b:a=false->g=0:=h.2.2.1;unfold mkS Dg
 cases a with
 | true=>simp;omega
 | false=>
  have:=b rfl;simp;omega
theorem ZeB (h:Ym s):s.kind.toNat<4611686018427387904∧s.L.length<=128∧∀ x ∈ s.L,I64 x:=by
 have k:=h.2.2.2.1;have j:=h.2.2.2.2.1;have d:=h.2.2.2.2.2;by_cases e:s.kind=4
 ·rw[e,ZaL] at d
  refine⟨by omega,d.1,fun x c=>?_⟩
  have g:∀ (l:List Int) (lo:Int),-1<=lo->Qu (-1099511627776) lo l->∀ x ∈ l,I64 x:=by
   intro l
   match l with
   | []=>intro _ _ _ x c;simp at c
   | [_]=>intro _ _ h;simp[Qu] at h
   | a::b::r=>exact pairsW a b r
  exact g s.L (-1) (by decide) d.2 x c
 ·by_cases f:s.kind=5
  ·rw[f,Zar] at d
   exact⟨by omega,d.1,fun x c=>by have:=ZmP (by decide) d.2 x c;exact Qo (by omega) (by omega)⟩
  ·have i:=(X9 e f).1 d
   exact⟨by omega,by omega,fun x c=>by have:=(J9 _).1 i.2.2 x c;exact Qo (by omega) (by omega)⟩
where
 pairsW (a b:Int) (r:List Int):∀ (lo:Int),-1<=lo->Qu (-1099511627776) lo (a::b::r)->∀ x ∈ a::b::r,I64 x:=by
  intro lo hlo h x hx;unfold Qu at h;simp at hx;rcases hx with rfl | rfl | hx
  ·exact Qo (by omega) (by omega)
  ·exact Qo (by omega) (by omega)
  ·match r,hx,h with
   | a2::b2::r2,hx,h=>exact pairsW a2 b2 r2 a (by omega) h.2.2.2.2 x hx
   | [c],_,h=>simp[Qu] at h
theorem ZrU (k s m:Nat) (t:List UInt8) (e:k<4611686018427387904) (i:s<=3) (j:m<=128):ZdP (Lib.uvarint k++(Lib.uvarint s++(Lib.uvarint m++t)))=ZjR k s m t:=by
 have d:=Q6 k (Lib.uvarint s++(Lib.uvarint m++t)) e;have b:(Lib.uvarint k++(Lib.uvarint s++(Lib.uvarint m++t))).drop (Lib.uvarint k).length=Lib.uvarint s++(Lib.uvarint m++t):=drop_left;have c:=Q6 s (Lib.uvarint m++t) (by omega)
 have a:(Lib.uvarint k++(Lib.uvarint s++(Lib.uvarint m++t))).drop ((Lib.uvarint k).length+(Lib.uvarint s).length)=Lib.uvarint m++t:=by rw[<-drop_drop,b,drop_left]
 have g:=Q6 m t (by omega)
 have f:(Lib.uvarint k++(Lib.uvarint s++(Lib.uvarint m++t))).drop ((Lib.uvarint k).length+(Lib.uvarint s).length+(Lib.uvarint m).length)=t:=by rw[<-drop_drop,a,drop_left]
 unfold ZdP;simp only [d,b,c,a,g,f];rw[zaa];rintro(h | h | h | h | h)
 ·exact J6 _ h
 ·exact J6 _ h
 ·exact J6 _ h
 ·omega
 ·omega
theorem ZwX (h:Ym s):ZdP (ZeA s)=(s,0):=by
 obtain⟨d,c,b⟩:=ZeB h;unfold ZeA;rw[ZrU _ _ _ _ d (ZlA h) c];have a:=Zks s.L [] b;rw[append_nil] at a;unfold ZjR;rw[a];simp only;rw[zaa (by simp),Zzf h,zab h]
theorem ZrV (l:List UInt8):(ZdP l).2=0∨((ZdP l).1=ZcA∧((ZdP l).2=3∨(ZdP l).2=1)):=by
 unfold ZdP;split
 ·exact .inr ⟨rfl,.inl rfl⟩
 ·unfold ZjR
  split
  ·exact .inr ⟨rfl,.inl rfl⟩
  ·split
   ·exact .inr ⟨rfl,.inl rfl⟩
   ·split
    ·exact .inl rfl
    ·exact .inr ⟨rfl,.inr rfl⟩
theorem ZrW (h:(ZdP l).2=0):Ym (ZdP l).1∧ZeA (ZdP l).1=l:=by
 unfold ZdP at h ⊢;by_cases b:(Qb l).2=0∨(Qb (l.drop (Qb l).2)).2=0∨(Qb (l.drop ((Qb l).2+(Qb (l.drop (Qb l).2)).2))).2=0∨3<(Qb (l.drop (Qb l).2)).1∨128<(Qb (l.drop ((Qb l).2+(Qb (l.drop (Qb l).2)).2))).1
 ·rw[zab b] at h
  cases h
 ·rw[zaa b] at h ⊢
  have g:(Qb l).2≠0:=fun e=>b (.inl e)
  have p:(Qb (l.drop (Qb l).2)).2≠0:=fun e=>b (.inr (.inl e))
  have m:(Qb (l.drop ((Qb l).2+(Qb (l.drop (Qb l).2)).2))).2≠0:=fun e=>b (.inr (.inr (.inl e)))
  have y:l.take (Qb l).2=Lib.uvarint (Qb l).1:=by
   rcases Xh l with e | e
   ·rw[e] at g;exact absurd rfl g
   ·exact e.2.2.2
  have w:(l.drop (Qb l).2).take (Qb (l.drop (Qb l).2)).2=Lib.uvarint (Qb (l.drop (Qb l).2)).1:=by
   rcases Xh (l.drop (Qb l).2) with e | e
   ·rw[e] at p;exact absurd rfl p
   ·exact e.2.2.2
  have v:(l.drop ((Qb l).2+(Qb (l.drop (Qb l).2)).2)).take (Qb (l.drop ((Qb l).2+(Qb (l.drop (Qb l).2)).2))).2=Lib.uvarint (Qb (l.drop ((Qb l).2+(Qb (l.drop (Qb l).2)).2))).1:=by
   rcases Xh (l.drop ((Qb l).2+(Qb (l.drop (Qb l).2)).2)) with e | e
   ·rw[e] at m;exact absurd rfl m
   ·exact e.2.2.2
  generalize (Qb (l.drop ((Qb l).2+(Qb (l.drop (Qb l).2)).2))).2=k at *;generalize (Qb (l.drop ((Qb l).2+(Qb (l.drop (Qb l).2)).2))).1=B at *;generalize (Qb (l.drop (Qb l).2)).2=j at *;generalize (Qb (l.drop (Qb l).2)).1=a at *;generalize (Qb l).2=i at *;generalize (Qb l).1=kind at *;unfold ZjR at h ⊢
  cases hr:J7 B (l.drop (i+j+k)) with
  | none=>rw[hr] at h;cases h
  | some x=>
   obtain⟨xs,u⟩:=x;rw[hr] at h;simp only at h ⊢;obtain⟨A,F,f,E⟩:=ZbW _ _ _ _ hr;by_cases c:u≠(l.drop (i+j+k)).length
   ·rw[zab c] at h;cases h
   ·rw[zaa c] at h ⊢
    by_cases d:Ym (mkS kind a xs)
    ·rw[zab d]
     refine⟨d,?_⟩;have z:u=(l.drop (i+j+k)).length:=zca c;rw[z,take_length] at f;have D:(mkS kind a xs).kind.toNat=kind:=by simp[mkS]
     have q:Dg (mkS kind a xs)=a:=by
      unfold Dg mkS;by_cases n:0<a
      ·simp[n];omega
      ·simp[n];omega
     show Lib.uvarint (mkS kind a xs).kind.toNat++(Lib.uvarint (Dg (mkS kind a xs))++(Lib.uvarint xs.length++Zv xs))=l;rw[D,q,A,f,<-y,<-w,<-v];have t:l.drop (i+j)=(l.drop i).drop j:=by rw[drop_drop]
     have C:l.drop (i+j+k)=((l.drop i).drop j).drop k:=by rw[drop_drop,drop_drop,zb1]
     rw[t,C,take_append_drop,take_append_drop,take_append_drop]
    ·rw[zaa d] at h;cases h
structure Rec where
 idx:Int
 proc:Int
 seq:Int
 op:Opn
 resp:Int
def Qj:Rec:=⟨0,0,0,⟨0,0,0⟩,0⟩
def Q1 (r:Rec):Prop:=Gj r.op∧0<=r.idx∧r.idx<4611686018427387904∧0<=r.seq∧r.seq<4611686018427387904∧0<=r.proc∧r.proc<=64∧-1125899906842624<=r.resp∧r.resp<=1125899906842624
instance (r:Rec):Decidable (Q1 r):=by unfold Q1;infer_instance
def ZAN (v f:Nat):Prop:=f=1∨f=2∨f=4∨(f=3∧2<=v)∨(f=5∧v=3)
instance (v f:Nat):Decidable (ZAN v f):=by unfold ZAN;infer_instance
def ZAc (r:Rec) (f:Nat):List UInt8:=
 if f=1 then Lib.uvarint r.idx.toNat else if f=2 then Lib.uvarint r.proc.toNat else if f=3 then Lib.uvarint r.seq.toNat
 else if f=4 then X7 r.op else Lib.uvarint (Lib.zigzag r.resp)
def ZuB (r:Rec) (f:Nat) (l:List UInt8):Rec × Nat:=
 if f=1 then({ r with idx:=((Qb l).1:Int) },(Qb l).2) else if f=2 then({ r with proc:=((Qb l).1:Int) },(Qb l).2)
 else if f=3 then({ r with seq:=((Qb l).1:Int) },(Qb l).2) else if f=4 then({ r with op:=(Xe l).1 },(Xe l).2)
 else({ r with resp:=zag (Qe l).1 },(Qe l).2)
set_option linter.unusedVariables false in
def Zzg (v:Nat) (l:List UInt8) (last:Int) (found:Nat) (r:Rec):Except Int (Rec × Nat):=
 if hl:l=[] then .ok (r,found)
 else if hk:(Qb l).2=0∨((Qb l).1:Int)<=last then .error 3
 else if ZAN v (Qb l).1 then
  if(ZuB r (Qb l).1 (l.drop (Qb l).2)).2=0 then .error 3
  else Zzg v (l.drop ((Qb l).2+(ZuB r (Qb l).1 (l.drop (Qb l).2)).2)) (Qb l).1 (found+1) (ZuB r (Qb l).1 (l.drop (Qb l).2)).1
 else if(Qb l).1<16∨v=3 then .error 7
 else if(Qb (l.drop (Qb l).2)).2=0∨l.length<(Qb l).2+(Qb (l.drop (Qb l).2)).2+(Qb (l.drop (Qb l).2)).1 then .error 3
 else Zzg v (l.drop ((Qb l).2+(Qb (l.drop (Qb l).2)).2+(Qb (l.drop (Qb l).2)).1)) (Qb l).1 found r
termination_by l.length
decreasing_by
 all_goals
  have h1:l.length≠0:=by simpa using hl
  have h2:(Qb l).2≠0:=fun e=>hk (.inl e)
  rw[length_drop];omega
def decR (l:List UInt8):Rec × Int:=
 if l=[] then(Qj,2)
 else if(Qb l).2=0 then(Qj,3)
 else if(Qb l).1<1∨3<(Qb l).1 then(Qj,6)
 else match Zzg (Qb l).1 (l.drop (Qb l).2) (-1) 0 Qj with
  | .error e=>(Qj,e)
  | .ok (r,found)=>if found≠(Qb l).1+2 then(Qj,7) else if Q1 r then(r,0) else(Qj,1)
def Zzh (v:Int):List Nat:=if v=1 then[1,2,4] else if v=2 then[1,2,3,4] else[1,2,3,4,5]
def ZAd (r:Rec):List Nat->List UInt8
 | []=>[]
 | f::fs=>Lib.uvarint f++(ZAc r f++ZAd r fs)
def encR (v:Int) (r:Rec):List UInt8:=Lib.uvarint v.toNat++ZAd r (Zzh v)
theorem ZaX {r:Rec} (h:Q1 r):I64 r.resp:=Qo (by have:=h.2.2.2.2.2.2.2.1;omega) (by have:=h.2.2.2.2.2.2.2.2;omega)
theorem Ja (h:(Qb l).2≠0):Lib.uvarint (Qb l).1=l.take (Qb l).2:=by
 rcases Xh l with e | e
 ·rw[e] at h;exact absurd rfl h
 ·exact e.2.2.2.symm
theorem Zkt (h:(Qe l).2≠0):Lib.uvarint (Qe l).1=l.take (Qe l).2:=by
 rcases Jl l with e | e
 ·rw[e] at h;exact absurd rfl h
 ·exact e.2.2.2.symm
def ZrX (x:Nat):Nat:=if x % 2=1 then x / 2 ^^^ 2197175160 else x / 2
def Gz:Nat->Nat->Nat
 | 0,x=>x
 | n+1,x=>Gz n (ZrX x)
def Zdu (c:Nat):Nat:=Gz 8 c
def ZdQ (x c:Nat):Nat:=Zdu ((x ^^^ c) % 256) ^^^ x / 256
def Zbp:Nat->List UInt8->Nat
 | x,[]=>x
 | x,c::r=>Zbp (ZdQ x c.toNat) r
def Q3 (sum:Nat) (l:List UInt8):Nat:=Zbp (sum ^^^ 4294967295) l ^^^ 4294967295
theorem ZwY (a b:Nat):(a ^^^ b) % 2=(a % 2+b % 2) % 2:=by
 have h:=@Nat.xor_mod_two_pow a b 1;simp only [Nat.pow_one] at h;rw[h];rcases zeh a with ha | ha <;> rcases zeh b with hb | hb <;> rw[ha,hb] <;> rfl
theorem ZwZ (a b:Nat):(a ^^^ b) / 2=a / 2 ^^^ b / 2:=by
 have h:=@Nat.shiftRight_xor_distrib 1 a b;simpa[zgt] using h
theorem Zpd (a b p:Nat):(a ^^^ p) ^^^ (b ^^^ p)=a ^^^ b:=by
 rw[zf3 b p,<-zfu,zfu a p p,Nat.xor_self,Nat.xor_zero]
theorem Zxa (a b:Nat):ZrX (a ^^^ b)=ZrX a ^^^ ZrX b:=by
 unfold ZrX;rw[ZwY,ZwZ];rcases zeh a with ha | ha <;> rcases zeh b with hb | hb <;> simp only [ha,hb]
 ·rfl
 ·simp[zfu]
 ·simp only [zeu,zfv,Nat.zero_ne_one]
  rw[zfu,zfu,zf3 (b / 2)]
 ·simp[Zpd]
theorem ZmR:∀ (n a b:Nat),Gz n (a ^^^ b)=Gz n a ^^^ Gz n b
 | 0,_,_=>rfl
 | n+1,a,b=>by
  simp only [Gz];rw[Zxa,ZmR n]
theorem ZmS:∀ (m n x:Nat),Gz (m+n) x=Gz n (Gz m x)
 | 0,n,x=>by rw[za9];rfl
 | m+1,n,x=>by
  rw[Nat.add_right_comm];simp only [Gz];exact ZmS m n (ZrX x)
theorem ZuC (x:Nat):ZrX (2*x)=x:=by
 unfold ZrX;rw[zaa (by omega)]
 omega
theorem ZmT:∀ (n x:Nat),Gz n (2 ^ n*x)=x
 | 0,x=>by simp[Gz]
 | n+1,x=>by
  simp only [Gz];rw[zff,zfg (2 ^ n) 2,zft,ZuC];exact ZmT n x
theorem Zzi (b:32<=n) (h:x<2 ^ n):ZrX x<2 ^ n:=by
 unfold ZrX;have a:x / 2<2 ^ n:=by omega
 split
 ·refine zec a (zay (by decide:2197175160<2 ^ 32) (zel (by decide) b))
 ·exact a
theorem ZlB:∀ (k:Nat) {n x:Nat},32<=n->x<2 ^ n->Gz k x<2 ^ n
 | 0,_,_,_,h=>h
 | k+1,_,_,hn,h=>ZlB k hn (Zzi hn h)
theorem Zxb (z n:Nat):z=z % 2 ^ n ^^^ 2 ^ n*(z / 2 ^ n):=by
 apply Nat.eq_of_testBit_eq;intro i;rw[Nat.testBit_xor,Nat.testBit_mod_two_pow,Nat.testBit_two_pow_mul];by_cases h:i<n
 ·have a:¬ n<=i:=by omega
  simp[h,a]
 ·have a:n<=i:=by omega
  simp only [h,a,decide_false,decide_true,Bool.false_and,Bool.true_and,Bool.false_xor,Nat.testBit_div_two_pow];rw[Nat.sub_add_cancel a]
theorem ZlC (x c:Nat) (b:c<256):ZdQ x c=Gz 8 (x ^^^ c):=by
 have e:(x ^^^ c) / 256=x / 256:=by
  have h:=@Nat.shiftRight_xor_distrib 8 x c;simp only [zgt] at h;have a:c / 2 ^ 8=0:=by omega
  rw[a,Nat.xor_zero] at h;exact h
 have h:=Zxb (x ^^^ c) 8;unfold ZdQ Zdu
 conv=>rhs;rw[h]
 rw[ZmR,ZmT];show _=Gz 8 ((x ^^^ c) % 256) ^^^ (x ^^^ c) / 256;rw[e]
theorem ZeC:∀ (a b:List UInt8) (x:Nat),Zbp x (a++b)=Zbp (Zbp x a) b
 | [],_,_=>rfl
 | c::r,b,x=>by
  rw[cons_append,Zbp,Zbp];exact ZeC r b _
theorem ZrY {c:Nat} (b:x<4294967296) (a:c<256):ZdQ x c<4294967296:=by
 rw[ZlC x c a];have h:x ^^^ c<2 ^ 32:=zec (by omega) (by omega)
 have:=ZlB 8 (za0 32) h;omega
theorem ZhM:∀ (l:List UInt8) {x:Nat},x<4294967296->Zbp x l<4294967296
 | [],_,h=>h
 | c::r,x,h=>ZhM r (ZrY h (by have:=c.toNat_lt;omega))
theorem ZuD (h:x<4294967296):x ^^^ 4294967295<4294967296:=by
 have:=zec (n:=32) (by omega:x<2 ^ 32) (by decide:4294967295<2 ^ 32)
 omega
theorem ZrZ {sum:Nat} (l:List UInt8) (h:sum<4294967296):Q3 sum l<4294967296:=ZuD (ZhM l (ZuD h))
theorem ZhN:∀ l:List UInt8,Lib.leNat l<2 ^ (8*l.length)
 | []=>by simp[Lib.leNat]
 | c::r=>by
  have h:=ZhN r;have a:=c.toNat_lt;have e:8*(c::r).length=8*r.length+8:=by simp;omega
  simp only [Lib.leNat];rw[e,Nat.pow_add];omega
def Zh (l:List UInt8):List UInt8:=Lib.uvarint l.length++l
def Qd (l:List UInt8):List UInt8:=Zh l++Lib.leBytes 4 (Q3 0 (Zh l))
def Gv (l:List UInt8):Prop:=l.length<10∧∀ j,j<l.length->128<=(l.getD j 0).toNat
instance (l:List UInt8):Decidable (Gv l):=by unfold Gv;infer_instance
def X8 (l:List UInt8):List UInt8 × Nat × Nat:=
 if Gv l then([],0,2) else
 if(Qb l).2=0 then([],0,3) else
 if 1048576<(Qb l).1 then([],0,5) else
 if l.length<(Qb l).2+4+(Qb l).1 then([],0,2) else
 if Lib.leNat ((l.drop ((Qb l).2+(Qb l).1)).take 4)≠Q3 0 (l.take ((Qb l).2+(Qb l).1)) then([],0,4) else
 ((l.drop (Qb l).2).take (Qb l).1,(Qb l).2+4+(Qb l).1,0)
theorem ZmU (l:List UInt8):Q3 0 l<4294967296:=ZrZ l (by decide)
theorem Xa (l:List UInt8):(Qd l).length=(Lib.uvarint l.length).length+l.length+4:=by
 simp[Qd,Zh,zcz];omega
theorem ZAe (h:n<=1048576):(Lib.uvarint n).length<=3:=Lib.uvarint_length 2 n (Nat.lt_of_le_of_lt h (by decide))
theorem ZqZ (h:Gv l):Qb l=(0,0):=by
 have e:Qe l=(0,0):=by
  unfold Qe;rw[Zlu 10 l (fun j _ a=>h.2 j a)]
 unfold Qb;rw[e];rfl
theorem Zku (x t:List UInt8) (h:x.length<=1048576):Qb (Lib.uvarint x.length++t)=(x.length,(Lib.uvarint x.length).length):=Q6 _ _ (by omega)
theorem ZbX:∀ (l:List UInt8),Lib.leBytes l.length (Lib.leNat l)=l
 | []=>rfl
 | c::r=>by
  have b:=ZbX r;have e:=c.toNat_lt;have d:(c.toNat+256*Lib.leNat r) % 256=c.toNat:=by omega
  have a:(c.toNat+256*Lib.leNat r) / 256=Lib.leNat r:=by omega
  simp only [length_cons,Lib.leNat,Lib.leBytes,d,a,b];simp
theorem Zsa (x t:List UInt8) (h:x.length<=1048576):X8 (Qd x++t)=(x,(Qd x).length,0):=by
 have b:Qb (Qd x++t)=(x.length,(Lib.uvarint x.length).length):=by
  have e:Qd x++t=Lib.uvarint x.length++(x++Lib.leBytes 4 (Q3 0 (Zh x))++t):=by simp[Qd,Zh]
  rw[e];exact Zku x _ h
 have j:=zcu x.length
 have a:¬ Gv (Qd x++t):=fun a=>by
  have:=ZqZ a;rw[b,zcj] at this;omega
 have i:(Qd x++t).length=(Lib.uvarint x.length).length+x.length+4+t.length:=by rw[length_append,Xa]
 have c:(Zh x).length=(Lib.uvarint x.length).length+x.length:=by simp[Zh]
 have f:(Qd x++t).take ((Lib.uvarint x.length).length+x.length)=Zh x:=by
  rw[<-c,Qd,append_assoc,zgh]
 have d:((Qd x++t).drop ((Lib.uvarint x.length).length+x.length)).take 4=Lib.leBytes 4 (Q3 0 (Zh x)):=by
  rw[<-c,Qd,append_assoc,drop_left,zce (by rw[zcz];exact za0 _),take_of_length_le (by rw[zcz];exact za0 _)]
 have g:((Qd x++t).drop (Lib.uvarint x.length).length).take x.length=x:=by
  have e:Qd x++t=Lib.uvarint x.length++(x++(Lib.leBytes 4 (Q3 0 (Zh x))++t)):=by simp[Qd,Zh]
  rw[e,drop_left,zgh]
 unfold X8;rw[zaa a];simp only [b];rw[zaa (by omega),zaa (by omega),zaa (by omega),zaa (by rw[f,d,Lib.leNat_leBytes 4 _ (ZmU _)];simp),g,Xa]
 congr 2
 omega
theorem ZlD (h:(X8 l).2.2=0):
 (X8 l).1.length<=1048576∧(X8 l).2.1=(Qd (X8 l).1).length∧(X8 l).2.1<=l.length∧l.take (X8 l).2.1=Qd (X8 l).1:=by
 unfold X8 at h ⊢;by_cases g:Gv l
 ·rw[zab g] at h;simp at h
 rw[zaa g] at h ⊢;by_cases a:(Qb l).2=0
 ·rw[zab a] at h;simp at h
 rw[zaa a] at h ⊢;by_cases d:1048576<(Qb l).1
 ·rw[zab d] at h;simp at h
 rw[zaa d] at h ⊢;by_cases c:l.length<(Qb l).2+4+(Qb l).1
 ·rw[zab c] at h;simp at h
 rw[zaa c] at h ⊢;by_cases b:Lib.leNat ((l.drop ((Qb l).2+(Qb l).1)).take 4)≠Q3 0 (l.take ((Qb l).2+(Qb l).1))
 ·rw[zab b] at h;simp at h
 rw[zaa b];clear h;rcases Xh l with j | ⟨u,w,v,f⟩
 ·rw[j] at a;simp at a
 generalize (Qb l).1=n at *;generalize (Qb l).2=k at *;have i:((l.drop k).take n).length=n:=by simp;omega
 have p:(Lib.uvarint n).length=k:=by rw[<-f];simp;omega
 have q:Zh ((l.drop k).take n)=l.take (k+n):=by
  unfold Zh;rw[i,<-f,zgn]
 have t:(l.drop (k+n)).take 4=Lib.leBytes 4 (Q3 0 (l.take (k+n))):=by
  have e:=ZbX ((l.drop (k+n)).take 4);have m:((l.drop (k+n)).take 4).length=4:=by simp;omega
  rw[m] at e;rw[<-zb7.1 b,e]
 refine⟨by show((l.drop k).take n).length<=_;omega,?_,by show k+4+n<=_;omega,?_⟩
 ·show k+4+n=_
  rw[Xa,i,p];omega
 ·show l.take (k+4+n)=Qd ((l.drop k).take n)
  unfold Qd;rw[q,<-t,show k+4+n=(k+n)+4 by omega,zgn]
theorem Zxc (h:(X8 l).2.2≠0):(X8 l).1=[]∧(X8 l).2.1=0:=by
 unfold X8 at h ⊢;split
 ·exact⟨rfl,rfl⟩
 split
 ·exact⟨rfl,rfl⟩
 split
 ·exact⟨rfl,rfl⟩
 split
 ·exact⟨rfl,rfl⟩
 split
 ·exact⟨rfl,rfl⟩
 ·rename_i a e c b d
  rw[zaa a,zaa e,zaa c,zaa b,zaa d] at h;simp at h
theorem ZbL (h:(X8 l).2.2=0):5<=(X8 l).2.1:=by
 obtain⟨_,a,_,_⟩:=ZlD h;rw[a,Xa];have:=zcu (X8 l).1.length;omega
theorem ZuE (l:List UInt8):(X8 l).2.1<=l.length:=by
 by_cases h:(X8 l).2.2=0
 ·exact(ZlD h).2.2.1
 ·rw[(Zxc h).2];omega
theorem Zxd (x:List UInt8) (m:Nat) (h:x.length<=1048576) (f:m<(Qd x).length):X8 ((Qd x).take m)=([],0,2):=by
 have k:=ZAe h;by_cases l:m<(Lib.uvarint x.length).length
 ·have a:Gv ((Qd x).take m):=by
   have e:(Qd x).take m=(Lib.uvarint x.length).take m:=by
    rw[Qd,Zh,append_assoc,zce (by omega)]
   rw[e];refine⟨by simp;omega,fun j g=>?_⟩
   have c:j<m:=by simp at g;omega
   have d:((Lib.uvarint x.length).take m).getD j 0=(Lib.uvarint x.length).getD j 0:=by simp[List.getD,c]
   rw[d];exact Zgn _ _ j zL (by omega)
  unfold X8;rw[zab a]
 ·have i:((Qd x).take m).length=m:=by simp;omega
  have b:Qb ((Qd x).take m)=(x.length,(Lib.uvarint x.length).length):=by
   have e:(Qd x).take m=Lib.uvarint x.length++(x++Lib.leBytes 4 (Q3 0 (Zh x))).take (m-(Lib.uvarint x.length).length):=by
    rw[Qd,Zh,append_assoc,zfy,take_of_length_le (by omega)]
   rw[e];exact Zku x _ h
  have n:=zcu x.length
  have a:¬ Gv ((Qd x).take m):=fun a=>by
   have:=ZqZ a;rw[b,zcj] at this;omega
  rw[Xa] at f;unfold X8;rw[zaa a];simp only [b,i];rw[zaa (by omega),zaa (by omega),zab (by omega)]
def ZcB:Nat->List UInt8->List (List UInt8) × Nat × Nat
 | 0,_=>([],0,0)
 | f+1,l=>if l=[] then([],0,0) else if(X8 l).2.2≠0 then([],0,(X8 l).2.2) else
  ((X8 l).1::(ZcB f (l.drop (X8 l).2.1)).1,(X8 l).2.1+(ZcB f (l.drop (X8 l).2.1)).2.1,(ZcB f (l.drop (X8 l).2.1)).2.2)
def Qq (l:List UInt8):List (List UInt8) × Nat × Nat:=ZcB l.length l
theorem ZhO:∀ (f g:Nat) (l:List UInt8),l.length<=f->l.length<=g->ZcB f l=ZcB g l
 | 0,g,l,h,_=>by
  have e:l=[]:=eq_nil_of_length_eq_zero (by omega)
  subst e
  cases g <;> simp[ZcB]
 | f+1,0,l,_,h=>by
  have e:l=[]:=eq_nil_of_length_eq_zero (by omega)
  subst e;simp[ZcB]
 | f+1,g+1,l,hf,hg=>by
  unfold ZcB;by_cases e:l=[]
  ·rw[zab e,zab e]
  rw[zaa e,zaa e];by_cases a:(X8 l).2.2≠0
  ·rw[zab a,zab a]
  rw[zaa a,zaa a];have b:=ZbL (zb7.1 a);rw[ZhO f g (l.drop (X8 l).2.1) (by simp;omega) (by simp;omega)]
theorem ZbM:Qq []=([],0,0):=rfl
theorem ZbY (a:l≠[]) (h:(X8 l).2.2≠0):Qq l=([],0,(X8 l).2.2):=by
 unfold Qq
 cases l with
 | nil=>exact absurd rfl a
 | cons c r=>
  rw[length_cons,ZcB,zaa a,zab h]
theorem ZbZ (a:l≠[]) (h:(X8 l).2.2=0):
 Qq l=((X8 l).1::(Qq (l.drop (X8 l).2.1)).1,(X8 l).2.1+(Qq (l.drop (X8 l).2.1)).2.1,(Qq (l.drop (X8 l).2.1)).2.2):=by
 have b:=ZbL h;unfold Qq
 cases l with
 | nil=>exact absurd rfl a
 | cons c r=>
  rw[length_cons,ZcB,zaa a,zaa (zb7.2 h),ZhO r.length ((c::r).drop (X8 (c::r)).2.1).length _ (by simp;omega) zL]
def Qf (L:List (List UInt8)):List UInt8:=L.flatMap Qd
def Zr:List (List UInt8)->Nat->Nat × Nat
 | [],_=>(0,0)
 | x::L,m=>if(Qd x).length<=m then((Zr L (m-(Qd x).length)).1+1,(Zr L (m-(Qd x).length)).2+(Qd x).length) else(0,0)
theorem ZhP:∀ (L:List (List UInt8)) (m:Nat),(Zr L m).1<=L.length∧(Zr L m).2<=m
 | [],m=>by simp[Zr]
 | x::L,m=>by
  have a:=ZhP L (m-(Qd x).length);unfold Zr;split
  ·simp;omega
  ·simp
theorem ZfD:∀ (L:List (List UInt8)) (m:Nat),(∀ x ∈ L,x.length<=1048576)->m<=(Qf L).length->
 Qq ((Qf L).take m)=(L.take (Zr L m).1,(Zr L m).2,if(Zr L m).2=m then 0 else 2)
 | [],m,_,hm=>by
  have e:m=0:=by simp[Qf] at hm;omega
  subst e;rfl
 | x::L,m,hx,hm=>by
  have f:=hx x (by simp)
  have l:5<=(Qd x).length:=by
   rw[Xa];have:=zcu x.length;omega
  have i:Qf (x::L)=Qd x++Qf L:=by simp[Qf]
  rw[i] at hm ⊢;rw[length_append] at hm;by_cases c:(Qd x).length<=m
  ·have d:(Qd x++Qf L).take m=Qd x++(Qf L).take (m-(Qd x).length):=by
    rw[zfy,take_of_length_le c]
   have j:=ZfD L (m-(Qd x).length) (fun y g=>hx y (by simp[g])) (by omega)
   have a:=Zsa x ((Qf L).take (m-(Qd x).length)) f
   have b:Qd x++(Qf L).take (m-(Qd x).length)≠[]:=fun e=>by
    have:=congrArg List.length e;rw[length_append,length_nil] at this;omega
   rw[d,ZbZ b (by rw[a]),a]
   simp only [drop_left];have n:=(ZhP L (m-(Qd x).length)).2;rw[j,Zr,zab c];simp only [zdr,zcj,zgg];refine⟨by omega,?_⟩
   by_cases e:(Zr L (m-(Qd x).length)).2=m-(Qd x).length
   ·rw[zab e,zab (by omega)]
   ·rw[zaa e,zaa (by omega)]
  ·have d:(Qd x++Qf L).take m=(Qd x).take m:=by
    rw[zce (by omega)]
   have a:=Zxd x m f (by omega)
   rw[d,Zr,zaa c];by_cases k:m=0
   ·subst k
    rfl
   ·have b:(Qd x).take m≠[]:=fun e=>by
     have:=congrArg List.length e;rw[length_take,length_nil] at this;omega
    rw[ZbY b (by rw[a];decide),a]
    simp only [List.take_zero,zcj,zgg];rw[zaa (by omega)]
def ZgR (n:Int):Nat:=if 0<=n∧n<=1048576 then(Lib.uvarint n.toNat).length+4+n.toNat else 0
theorem ZmV:∀ (L:List (List UInt8)) (m k:Nat),k<=L.length->(Qf (L.take k)).length<=m->(k=L.length∨m<(Qf (L.take (k+1))).length)->Zr L m=(k,(Qf (L.take k)).length)
 | [],m,k,hk,_,_=>by
  have e:k=0:=by simpa using hk
  subst e;rfl
 | x::L,m,0,_,h1,h2=>by
  have e:(Qf ((x::L).take 1)).length=(Qd x).length:=by simp[Qf]
  rcases h2 with h2 | h2
  ·simp at h2
  ·rw[e] at h2
   rw[Zr,zaa (by omega)]
   rfl
 | x::L,m,k+1,hk,h1,h2=>by
  have a:∀ j,(Qf ((x::L).take (j+1))).length=(Qd x).length+(Qf (L.take j)).length:=by
   intro j;simp[Qf]
  rw[a] at h1 h2
  have b:=ZmV L (m-(Qd x).length) k (by simpa using hk) (by omega) (by
   rcases h2 with h2 | h2
   ·left;simpa using h2
   ·right;omega)
  rw[Zr,zab (by omega),b,a]
  simp;omega
theorem Ga (h:d.length<=1048576):(Qd d).length<=d.length+14:=by
 rw[Xa];have:(Lib.uvarint d.length).length<=10:=za8 (by omega)
 omega
theorem Zay (A B:List (List UInt8)):Qf (A++B)=Qf A++Qf B:=by
 unfold Qf;rw[zgd]
theorem Q9 (x:List UInt8) (B:List (List UInt8)):Qf (x::B)=Qd x++Qf B:=by
 unfold Qf;rw[ze3]
theorem Zpe (x:List UInt8):5<=(Qd x).length:=by
 rw[Xa];have:=zcu x.length;omega
theorem Zag (L:List (List UInt8)) (h:∀ x ∈ L,x.length<=1048576):Qq (Qf L)=(L,(Qf L).length,0):=by
 have e:=ZfD L (Qf L).length h zL;have a:=ZmV L (Qf L).length L.length zL (by rw[take_length];exact za0 _) (.inl rfl)
 rw[take_length] at a e;rw[e,a];simp
theorem ZfE:∀ (n:Nat) (b:List UInt8),b.length<=n->(Qq b).2.2=0->Qf (Qq b).1=b∧∀ x ∈ (Qq b).1,x.length<=1048576
 | 0,b,hn,_=>by
  have e:b=[]:=eq_nil_of_length_eq_zero (by omega)
  subst e;rw[ZbM];exact⟨rfl,by simp⟩
 | n+1,b,hn,h=>by
  by_cases e:b=[]
  ·subst e
   rw[ZbM];exact⟨rfl,by simp⟩
  by_cases a:(X8 b).2.2=0
  ·obtain⟨d,i,j,f⟩:=ZlD a
   have k:=ZbL a;rw[ZbZ e a] at h ⊢;obtain⟨g,c⟩:=ZfE n (b.drop (X8 b).2.1) (by rw[length_drop];omega) h
   refine⟨?_,fun x hx=>?_⟩
   ·show Qf ((X8 b).1::(Qq (b.drop (X8 b).2.1)).1)=b
    rw[Q9,g,<-f,take_append_drop]
   ·rcases zbd.1 hx with hx | hx
    ·rw[hx];exact d
    ·exact c x hx
  ·rw[ZbY e a] at h
   exact absurd h a
structure Ent where
 proc:Int
 seq:Int
 resp:Int
def Xj:Ent:=⟨0,0,0⟩
theorem Ent.ext' {a b:Ent} (e:a.proc=b.proc) (d:a.seq=b.seq) (c:a.resp=b.resp):a=b:=by
 cases a
 cases b
 simp_all
instance:DecidableEq Ent:=fun a b=>
 if h:a.proc=b.proc∧a.seq=b.seq∧a.resp=b.resp then .isTrue (Ent.ext' h.1 h.2.1 h.2.2)
 else .isFalse (fun e=>h (by rw[e];exact⟨rfl,rfl,rfl⟩))
structure Q0 where
 idx:Int
 st:St
 tab:List Ent
def Yf:Q0:=⟨0,ZcA,[]⟩
def Dh (e:Ent):Prop:=0<=e.proc∧e.proc<=64∧0<=e.seq∧e.seq<4611686018427387904∧-1125899906842624<=e.resp∧e.resp<=1125899906842624
instance (e:Ent):Decidable (Dh e):=by unfold Dh;infer_instance
def Gk (t:List Ent) (k:Nat):Prop:=∀ i,i<k->Dh (t.getD i Xj)∧(0<i->(t.getD (i-1) Xj).proc<(t.getD i Xj).proc)
instance (t:List Ent) (k:Nat):Decidable (Gk t k):=by unfold Gk;infer_instance
def Zdv (t:List Ent):Prop:=Gk t t.length
instance (t:List Ent):Decidable (Zdv t):=by unfold Zdv;infer_instance
theorem Gk.zero (t:List Ent):Gk t 0:=fun _ a=>absurd a (zcg _)
theorem Gk.next {t:List Ent}:Gk t (k+1)↔Gk t k∧Dh (t.getD k Xj)∧(0<k->(t.getD (k-1) Xj).proc<(t.getD k Xj).proc):=by
 constructor
 ·intro h
  exact⟨fun i a=>h i (by omega),(h k (by omega)).1,(h k (by omega)).2⟩
 ·rintro⟨h1,h2,h3⟩ i a
  by_cases e:i=k
  ·subst e
   exact⟨h2,h3⟩
  ·exact h1 i (by omega)
theorem Gk.mono {t:List Ent} {j:Nat} (h:Gk t k) (a:j<=k):Gk t j:=fun i b=>h i (by omega)
theorem Zdv.mem {t:List Ent} (h:Zdv t):∀ e ∈ t,Dh e:=by
 intro e b;obtain⟨i,a,rfl⟩:=zds b;have:=(h i a).1;simpa[List.getD,a] using this
def Zs (s:Q0):Prop:=(0<=s.idx∧s.idx<4611686018427387904)∧Ym s.st∧Zdv s.tab
instance (s:Q0):Decidable (Zs s):=by unfold Zs;infer_instance
def ZoY (e:Ent):List UInt8:=Lib.uvarint e.proc.toNat++(Lib.uvarint e.seq.toNat++Lib.uvarint (Lib.zigzag e.resp))
def Y0 (t:List Ent):List UInt8:=t.flatMap ZoY
def ZyN (t:List Ent):List UInt8:=Lib.uvarint t.length++Y0 t
def Xt (s:Q0):List UInt8:=Lib.uvarint (ZeA s.st).length++(ZeA s.st++ZyN s.tab)
def Zbl (i:Nat) (w:List UInt8):List UInt8:=115::(Lib.uvarint 3++(Lib.uvarint i++(Lib.uvarint w.length++Lib.leBytes 4 (Q3 0 w))))
def Yd (l:List UInt8):List (List UInt8):=if l=[] then[] else l.take 64::Yd (l.drop 64)
termination_by l.length
decreasing_by
 rename_i h
 have h1:l.length≠0:=by simpa using h
 rw[length_drop];omega
def ZaJ (s:Q0):List (List UInt8):=Zbl s.idx.toNat (Xt s)::Yd (Xt s)
def ZjN (s:Q0):List UInt8:=Qf (ZaJ s)
theorem Yp:Yd []=[]:=by rw[Yd,zab rfl]
theorem Z5 (h:l≠[]):Yd l=l.take 64::Yd (l.drop 64):=by rw[Yd,zaa h]
theorem ZdR:∀ (n:Nat) (l:List UInt8),l.length<=n->(Yd l).flatten=l
 | 0,l,h=>by
  have e:l=[]:=eq_nil_of_length_eq_zero (by omega)
  rw[e,Yp];rfl
 | n+1,l,h=>by
  by_cases e:l=[]
  ·rw[e,Yp]
   rfl
  ·have a:l.length≠0:=by simpa using e
   rw[Z5 e,flatten_cons,ZdR n (l.drop 64) (by rw[length_drop];omega),take_append_drop]
theorem ZfF:∀ (n:Nat) (l x:List UInt8),l.length<=n->x ∈ Yd l->x.length<=64∧1<=x.length
 | 0,l,x,h,hx=>by
  have e:l=[]:=eq_nil_of_length_eq_zero (by omega)
  rw[e,Yp] at hx;simp at hx
 | n+1,l,x,h,hx=>by
  by_cases e:l=[]
  ·rw[e,Yp] at hx
   simp at hx
  ·have a:l.length≠0:=by simpa using e
   rw[Z5 e] at hx;rcases zbd.1 hx with hx | hx
   ·rw[hx,length_take]
    omega
   ·exact ZfF n (l.drop 64) x (by rw[length_drop];omega) hx
def ZfG:List (List UInt8)->Prop
 | []=>True
 | [x]=>1<=x.length∧x.length<=64
 | x::y::t=>x.length=64∧ZfG (y::t)
theorem ZcC:∀ (L:List (List UInt8)),ZfG L->Yd L.flatten=L
 | [],_=>by rw[List.flatten_nil,Yp]
 | [x],h=>by
  obtain⟨a,b⟩:=h;have e:x≠[]:=fun e=>by rw[e] at a;simp at a
  have f:[x].flatten=x:=by simp
  rw[f,Z5 e,take_of_length_le b,zea b,Yp]
 | x::y::t,h=>by
  obtain⟨a,b⟩:=h
  have e:(x::y::t).flatten≠[]:=fun e=>by
   have:=congrArg List.length e;rw[flatten_cons,length_append,length_nil] at this;omega
  have d:((x::y::t).flatten).take 64=x:=by rw[flatten_cons,<-a,zgh]
  have c:((x::y::t).flatten).drop 64=(y::t).flatten:=by rw[flatten_cons,<-a,drop_left]
  rw[Z5 e,d,c,ZcC (y::t) b]
theorem ZcD:∀ (n:Nat) (l:List UInt8),l.length<=n->ZfG (Yd l)
 | 0,l,h=>by
  have e:l=[]:=eq_nil_of_length_eq_zero (by omega)
  rw[e,Yp];trivial
 | n+1,l,h=>by
  by_cases e:l=[]
  ·rw[e,Yp]
   trivial
  ·have f:l.length≠0:=by simpa using e
   rw[Z5 e];have b:=ZcD n (l.drop 64) (by rw[length_drop];omega)
   by_cases a:l.drop 64=[]
   ·rw[a,Yp]
    have d:(l.take 64).length=min 64 l.length:=length_take;exact⟨by omega,by omega⟩
   ·have c:(l.drop 64).length≠0:=fun e=>a (eq_nil_of_length_eq_zero e)
    rw[length_drop] at c;rw[Z5 a] at b ⊢;exact⟨by rw[length_take];omega,b⟩
def J0:Nat->List UInt8->Option (List Ent × List UInt8)
 | 0,b=>some ([],b)
 | n+1,b=>
  let i:=(Qb b).2
  let j:=(Qb (b.drop i)).2
  let k:=(Qe (b.drop (i+j))).2
  if i=0∨j=0∨k=0 then none
  else(J0 n (b.drop (i+j+k))).map (fun r=>(⟨(Qb b).1,(Qb (b.drop i)).1,zag (Qe (b.drop (i+j))).1⟩::r.1,r.2))
def Zbe (b:List UInt8):Option (List Ent):=
 if(Qb b).2=0∨b.length<(Qb b).1 then none
 else match J0 (Qb b).1 (b.drop (Qb b).2) with
  | some (t,[])=>some t
  | _=>none
def Yw (w:List UInt8):Q0 × Int:=
 if(Qb w).2=0∨w.length<(Qb w).2+(Qb w).1 then(Yf,3)
 else if(ZdP ((w.drop (Qb w).2).take (Qb w).1)).2=3 then(Yf,3)
 else match Zbe (w.drop ((Qb w).2+(Qb w).1)) with
  | none=>(Yf,3)
  | some t=>(⟨0,(ZdP ((w.drop (Qb w).2).take (Qb w).1)).1,t⟩,(ZdP ((w.drop (Qb w).2).take (Qb w).1)).2)
def Y1 (d:List UInt8):Nat × Nat × Nat × Int:=
 if d.length<1∨(d.getD 0 0).toNat≠115 then(0,0,0,3)
 else
  let i:=(Qb (d.drop 1)).2
  let j:=(Qb (d.drop (1+i))).2
  let k:=(Qb (d.drop (1+i+j))).2
  if i=0∨j=0∨k=0 then(0,0,0,3)
  else if(Qb (d.drop 1)).1≠3 then(0,0,0,6)
  else if(d.drop (1+i+j+k)).length≠4 then(0,0,0,3)
  else((Qb (d.drop (1+i))).1,(Qb (d.drop (1+i+j))).1,Lib.leNat (d.drop (1+i+j+k)),0)
instance cutOk_dec:∀ L:List (List UInt8),Decidable (ZfG L)
 | []=>.isTrue trivial
 | [_]=>by unfold ZfG;infer_instance
 | _::y::t=>by
  unfold ZfG;exact @instDecidableAnd _ _ _ (cutOk_dec (y::t))
def Zgp (L:List (List UInt8)):Q0 × Int:=
 match L with
 | []=>(Yf,16)
 | d::P=>
  if(Y1 d).2.2.2≠0 then(Yf,(Y1 d).2.2.2)
  else if P.flatten.length≠(Y1 d).2.1 then(Yf,16)
  else if ¬ ZfG P then(Yf,3)
  else if Q3 0 P.flatten≠(Y1 d).2.2.1 then(Yf,4)
  else if(Yw P.flatten).2≠0 then(Yf,(Yw P.flatten).2)
  else if Zs ⟨((Y1 d).1:Nat),(Yw P.flatten).1.st,(Yw P.flatten).1.tab⟩ then(⟨((Y1 d).1:Nat),(Yw P.flatten).1.st,(Yw P.flatten).1.tab⟩,0)
  else(Yf,1)
def ZmW (b:List UInt8):Q0 × Int:=
 if(Qq b).2.2≠0 then(Yf,((Qq b).2.2:Nat)) else Zgp (Qq b).1
def ZfH (e:Ent):Bool->List Ent->List Ent
 | d,[]=>if d=true then[] else[e]
 | d,x::t=>(if d=false∧e.proc<x.proc then[e] else[])++((if x.proc=e.proc then[] else[x])++ZfH e (d || decide (e.proc<x.proc)) t)
def Zcx (t:List Ent) (e:Ent):List Ent:=ZfH e false t
theorem ZfI (e:Ent):∀ t:List Ent,ZfH e true t=t.filter (fun x=>decide (x.proc≠e.proc))
 | []=>rfl
 | x::t=>by
  rw[ZfH,zaa (by simp),zgw,ZfI e t,zdi]
  by_cases h:x.proc=e.proc <;> simp[h]
theorem ZhQ (e:Ent):∀ (t:List Ent) (d:Bool) (x:Ent),x ∈ ZfH e d t↔(d=false∧x=e)∨(x ∈ t∧x.proc≠e.proc)
 | [],d,x=>by cases d <;> simp[ZfH]
 | y::t,d,x=>by
  rw[ZfH,za2,za2,ZhQ e t,zbd];by_cases b:d=false∧e.proc<y.proc
  ·have a:y.proc≠e.proc:=by omega
   rw[zab b,zaa a,b.1];have c:decide (e.proc<y.proc)=true:=zan b.2;rw[c];simp only [zaw,zgv,Bool.true_eq_false,false_and,false_or,zgg];constructor
   ·rintro(h | h | ⟨h,h'⟩)
    ·exact .inl h
    ·exact .inr ⟨.inl h,by rw[h];exact a⟩
    ·exact .inr ⟨.inr h,h'⟩
   ·rintro(h | ⟨h | h,h'⟩)
    ·exact .inl h
    ·exact .inr (.inl h)
    ·exact .inr (.inr ⟨h,h'⟩)
  ·rw[zaa b]
   have f:(d || decide (e.proc<y.proc))=false↔d=false:=by
    constructor
    ·intro h
     cases d
     ·rfl
     ·exact h
    ·intro h
     rw[h,zfb];exact zai (fun c=>b ⟨h,c⟩)
   rw[f];by_cases a:y.proc=e.proc
   ·rw[zab a]
    simp only [zc3,false_or];constructor
    ·rintro(h | ⟨h,h'⟩)
     ·exact .inl h
     ·exact .inr ⟨.inr h,h'⟩
    ·rintro(h | ⟨h | h,h'⟩)
     ·exact .inl h
     ·exact absurd (by rw[h];exact a) h'
     ·exact .inr ⟨h,h'⟩
   ·rw[zaa a]
    simp only [zc3,false_or,zaw];constructor
    ·rintro(h | h | ⟨h,h'⟩)
     ·exact .inr ⟨.inl h,by rw[h];exact a⟩
     ·exact .inl h
     ·exact .inr ⟨.inr h,h'⟩
    ·rintro(h | ⟨h | h,h'⟩)
     ·exact .inr (.inl h)
     ·exact .inl h
     ·exact .inr (.inr ⟨h,h'⟩)
theorem ZhR (t:List Ent) (e x:Ent):x ∈ Zcx t e↔x=e∨(x ∈ t∧x.proc≠e.proc):=by
 unfold Zcx;rw[ZhQ];simp
theorem ZmX (e:Ent):∀ (t:List Ent) (d:Bool),(ZfH e d t).length<=t.length+(if d=true then 0 else 1)
 | [],d=>by cases d <;> simp[ZfH]
 | y::t,d=>by
  have b:=ZmX e t (d || decide (e.proc<y.proc));rw[ZfH,length_append,length_append,length_cons];by_cases a:d=false∧e.proc<y.proc
  ·have c:decide (e.proc<y.proc)=true:=zan a.2
   rw[a.1,c] at b ⊢;rw[zab ⟨rfl,a.2⟩];simp only [zgv,zeu] at b;split <;> simp <;> omega
  ·rw[zaa a]
   have f:(if(d || decide (e.proc<y.proc))=true then(0:Nat) else 1)<=(if d=true then 0 else 1):=by
    cases d
    ·have:decide (e.proc<y.proc)=false:=zai (fun h=>a ⟨rfl,h⟩)
     rw[this];exact za0 _
    ·simp
   split <;> simp <;> omega
theorem ZuF (t:List Ent) (e:Ent):(Zcx t e).length<=t.length+1:=ZmX e t false
def ZfJ (t:List Ent):Prop:=t.Pairwise (fun a b=>a.proc<b.proc)
theorem ZdS {e:Ent}:∀ {t:List Ent},ZfJ t->ZfJ (Zcx t e)
 | [],_=>by simp[Zcx,ZfH,ZfJ]
 | y::t,h=>by
  unfold ZfJ at h;rw[pairwise_cons] at h;obtain⟨d,g⟩:=h;unfold Zcx ZfJ;rw[ZfH,zfb];by_cases b:e.proc<y.proc
  ·have c:y.proc≠e.proc:=by omega
   rw[zab ⟨rfl,b⟩,zaa c,zan b,ZfI];show List.Pairwise _ (e::y::_);rw[pairwise_cons,pairwise_cons];refine⟨fun a ha=>?_,fun a ha=>d a ((za3.1 ha).1),g.filter _⟩
   rcases zbd.1 ha with ha | ha
   ·rw[ha];exact b
   ·have:=d a ((za3.1 ha).1)
    omega
  ·rw[zaa (fun h=>b h.2),zai b,zev]
   have f:ZfJ (Zcx t e):=ZdS g;by_cases c:y.proc=e.proc
   ·rw[zab c,zev]
    exact f
   ·rw[zaa c]
    show List.Pairwise _ (y::Zcx t e);rw[pairwise_cons];refine⟨fun a ha=>?_,f⟩
    rcases(ZhR t e a).1 ha with ha | ⟨ha,_⟩
    ·rw[ha];omega
    ·exact d a ha
theorem Gk.lt {t:List Ent} (h:Gk t k):∀ j i,i<j->j<k->(t.getD i Xj).proc<(t.getD j Xj).proc
 | 0,i,hi,_=>absurd hi (zcg _)
 | j+1,i,hi,hj=>by
  have a:=(h (j+1) hj).2 (by omega)
  rw[zdk] at a;by_cases e:i=j
  ·rw[e];exact a
  ·have b:=h.lt j i (by omega) (by omega)
   omega
theorem Zdv.rises {t:List Ent} (h:Zdv t):ZfJ t:=by
 unfold ZfJ;rw[zd1];intro i j b a c;have:=h.lt j i c a;simpa[List.getD,b,a] using this
def Qz (key:Int):List Int->Nat
 | a::_::r=>if key<=a then 0 else Qz key r+2
 | _=>0
def Z4 (key:Int) (l:List Int):Bool:=(Yj key l).isSome
theorem ZhS (key:Int):∀ (l:List Int),l.length % 2=0->Qz key l<=l.length∧Qz key l % 2=0
 | [],_=>⟨za0 _,rfl⟩
 | [_],h=>by simp at h
 | a::b::r,h=>by
  have c:=ZhS key r (by simp at h;omega)
  unfold Qz;split
  ·simp
  ·simp
   omega
theorem ZhT (key:Int):∀ (l:List Int) (k:Nat),l.length % 2=0->k % 2=0->k<=l.length->(∀ j,j<k->j % 2=0->l.getD j 0<key)->Qz key l=k+Qz key (l.drop k)
 | [],k,_,_,hk,_=>by
  have:k=0:=by simpa using hk
  subst this;rfl
 | [_],_,h,_,_,_=>by simp at h
 | a::b::r,k,h,hk2,hk,hall=>by
  by_cases d:k=0
  ·subst d
   simp
  ·obtain⟨j,rfl⟩:∃ j,k=j+2:=⟨k-2,by omega⟩
   have e:=hall 0 (by omega) rfl
   have f:a<key:=e
   have c:=ZhT key r j (by simp at h;omega) (by omega) (by simp at hk;omega) (fun i m g=>by
    have:=hall (i+2) (by omega) (by omega)
    exact this)
   conv=>lhs;unfold Qz
   rw[zaa (by omega),c]
   show j+Qz key (r.drop j)+2=j+2+Qz key (r.drop j);omega
theorem Zpf (key:Int) (l:List Int) (k:Nat) (a:k+1<l.length) (h:key<=l.getD k 0):Qz key (l.drop k)=0:=by
 rw[Zuu l k a,Qz,zab h]
theorem ZbN (key least:Int):∀ (l:List Int) (lo:Int),Qu least lo l->Z4 key l=decide (Qz key l<l.length∧l.getD (Qz key l) 0=key)∧(Z4 key l=true->Yj key l=some (l.getD (Qz key l+1) 0)∧Qz key l+1<l.length)
 | [],lo,_=>by simp[Z4,Yj,Qz]
 | [_],lo,h=>by simp[Qu] at h
 | a::b::r,lo,h=>by
  have i:=ZaU (least:=least) (key:=key) (l:=r) (lo:=a);unfold Qu at h;have g:=ZbN key least r a h.2.2.2.2;by_cases f:key<=a
  ·have e:Qz key (a::b::r)=0:=by unfold Qz;rw[zab f]
   rw[e];by_cases d:a=key
   ·have c:Yj key (a::b::r)=some b:=by rw[Gt,zab d]
    unfold Z4;rw[c];simp[d]
   ·have c:Yj key (a::b::r)=none:=by rw[Gt,zaa d,i h.2.2.2.2 f]
    unfold Z4;rw[c];simp[d]
  ·have e:Qz key (a::b::r)=Qz key r+2:=by rw[Qz,zaa f]
   have c:Yj key (a::b::r)=Yj key r:=by rw[Gt,zaa (by omega)]
   have m:Z4 key (a::b::r)=Z4 key r:=by unfold Z4;rw[c]
   rw[e,c,m];refine⟨?_,fun k=>?_⟩
   ·rw[g.1]
    have j:(a::b::r).getD (Qz key r+2) 0=r.getD (Qz key r) 0:=rfl;rw[j];apply zco.2;simp
   ·have:=g.2 k
    refine⟨this.1,?_⟩;simp;omega
theorem Zgq (key n least:Int):∀ (l:List Int) (lo:Int),Qu least lo l->Z4 key l=false->Xi key n false l=l.take (Qz key l)++([key,n]++l.drop (Qz key l))
 | [],lo,_,_=>by simp[Xi,Qz]
 | [_],lo,h,_=>by simp[Qu] at h
 | a::b::r,lo,h,hm=>by
  rw[ZaV key n least a b r lo h];unfold Qu at h;have e:=Zgq key n least r a h.2.2.2.2;unfold Z4 at hm;rw[Gt] at hm;by_cases c:a=key
  ·rw[zab c] at hm
   simp at hm
  ·rw[zaa c] at hm
   by_cases d:key<a
   ·rw[zab d,Qz,zab (by omega)]
    rfl
   ·rw[zaa d,zaa (by omega),e hm,Qz,zaa (by omega)]
    rfl
theorem ZmY (key n least:Int):∀ (l:List Int) (lo:Int),Qu least lo l->Z4 key l=true->Xi key n false l=l.set (Qz key l+1) n
 | [],lo,_,h=>by simp[Z4,Yj] at h
 | [_],lo,h,_=>by simp[Qu] at h
 | a::b::r,lo,h,hm=>by
  rw[ZaV key n least a b r lo h];have d:=ZaU (least:=least) (key:=key) (l:=r) (lo:=a);unfold Qu at h;have e:=ZmY key n least r a h.2.2.2.2;unfold Z4 at hm;rw[Gt] at hm;by_cases c:a=key
  ·rw[zaa (by omega),zab c.symm,Qz,zab (by omega),c]
   rfl
  ·rw[zaa c] at hm
   by_cases f:key<a
   ·rw[d h.2.2.2.2 (by omega)] at hm
    simp at hm
   ·rw[zaa f,zaa (by omega),e hm,Qz,zaa (by omega)]
    rfl
theorem Zdy {least key:Int}:∀ {l:List Int} {lo:Int},Qu least lo l->key<=lo->Yr key l=l
 | [],_,_,_=>rfl
 | [_],_,h,_=>by simp[Qu] at h
 | a::b::r,lo,h,hk=>by
  unfold Qu at h;rw[Zad,zab (by omega),Zdy h.2.2.2.2 (by omega)]
theorem Zgr (key least:Int):∀ (l:List Int) (lo:Int),Qu least lo l->Z4 key l=false->Yr key l=l
 | [],lo,_,_=>rfl
 | [_],lo,h,_=>by simp[Qu] at h
 | a::b::r,lo,h,hm=>by
  unfold Qu at h;have d:=Zgr key least r a h.2.2.2.2;unfold Z4 at hm;rw[Gt] at hm;by_cases c:a=key
  ·rw[zab c] at hm
   simp at hm
  ·rw[zaa c] at hm
   rw[Zad,zab c,d hm]
theorem Zgs (key least:Int):∀ (l:List Int) (lo:Int),Qu least lo l->Z4 key l=true->Yr key l=l.take (Qz key l)++l.drop (Qz key l+2)
 | [],lo,_,h=>by simp[Z4,Yj] at h
 | [_],lo,h,_=>by simp[Qu] at h
 | a::b::r,lo,h,hm=>by
  have e:=ZaU (least:=least) (key:=key) (l:=r) (lo:=a);unfold Qu at h;have f:=Zgs key least r a h.2.2.2.2;unfold Z4 at hm;rw[Gt] at hm;rw[Zad];by_cases c:a=key
  ·rw[zaa (by omega),Qz,zab (by omega),Zdy h.2.2.2.2 (by omega)]
   rfl
  ·rw[zaa c] at hm
   rw[zab c];by_cases d:key<=a
   ·rw[e h.2.2.2.2 d] at hm
    simp at hm
   ·rw[f hm,Qz,zaa d]
    rfl
def Z2 (s:St) (o:Opn):St × Int:=
 if o.a<0∨255<o.a then(s,-1) else
 if o.code≠7∧o.code≠6∧o.code≠5 then(s,0) else
 if o.code=6 then(⟨s.kind,Yr o.a s.L,s.shut,s.eng⟩,ZqU o.a s.L) else
 if o.code=5 then(if J5 o.a 0 s.L<0∧s.L.length=128 then(s,-2) else(⟨s.kind,Xi o.a (Jp o.b) false s.L,s.shut,s.eng⟩,ZqU o.a s.L)) else
 (s,ZqU o.a s.L)
def Zl (s:St) (o:Opn):St × Int:=
 if ¬ Ym s then(s,0) else
 if s.shut=true then(s,-1125899906842624) else
 if o.code=10 then(⟨s.kind,s.L,true,if 0<=o.a∧o.a<=2 then o.a else s.eng⟩,0) else
 if s.kind<=1 then ZdN s o else if s.kind<=3 then Zo s o else if s.kind=4 then Z2 s o else Yh s o
theorem Zgt (s:St) (o:Opn):(Z2 s o).1=(Zcr s o).1:=by
 unfold Z2 Zcr;by_cases b:o.a<0∨255<o.a
 ·rw[zab b]
  split
  ·rfl
  ·first | rfl | (rw[zab b])
 ·rw[zaa b,zaa b]
theorem ZdT (s:St) (o:Opn):(Zl s o).1=(Zcy s o).1:=by
 unfold Zl Zcy;split
 ·rfl
 split
 ·rfl
 split
 ·rfl
 split
 ·rfl
 split
 ·rfl
 split
 ·exact Zgt s o
 ·rfl
theorem Zxe (s:St) (o:Opn) (h:s.kind≠4∨s.shut=true∨o.code=10∨o.code=5∨o.code=6∨o.code=7∨(0<=o.a∧o.a<=255)):Zl s o=Zcy s o:=by
 unfold Zl Zcy;split
 ·rfl
 split
 ·rfl
 split
 ·rfl
 split
 ·rfl
 split
 ·rfl
 split
 ·rename_i e b c _ _ d
  unfold Z2 Zcr;rcases h with h | h | h | h | h | h | h
  ·exact absurd d h
  ·exact absurd h b
  ·exact absurd h c
  ·rw[zaa (show ¬ (o.code≠7∧o.code≠6∧o.code≠5) by omega),zaa (show ¬ (o.code≠7∧o.code≠6∧o.code≠5) by omega)]
  ·rw[zaa (show ¬ (o.code≠7∧o.code≠6∧o.code≠5) by omega),zaa (show ¬ (o.code≠7∧o.code≠6∧o.code≠5) by omega)]
  ·rw[zaa (show ¬ (o.code≠7∧o.code≠6∧o.code≠5) by omega),zaa (show ¬ (o.code≠7∧o.code≠6∧o.code≠5) by omega)]
  ·rw[zaa (show ¬ (o.a<0∨255<o.a) by omega),zaa (show ¬ (o.a<0∨255<o.a) by omega)]
 ·rfl
theorem ZhU (h:¬ Ym s) (o:Opn):Zl s o=(s,0):=by
 unfold Zl;rw[zab h]
theorem Zsb (h:Ym s) (a:s.shut=true) (o:Opn):Zl s o=(s,-1125899906842624):=by
 unfold Zl;rw[zaa (fun e=>e h),zab a]
theorem ZeD (h:Ym s) (o:Opn):Ym (Zl s o).1:=by rw[ZdT];exact ZwW h o
theorem Zsc (s:St) (o:Opn):(Zl s o).1.kind=s.kind:=by rw[ZdT];exact Zux s o
theorem Zzj (h:Ym s) (o:Opn):(Zl s o).1.shut=(s.shut || decide (o.code=10)):=by rw[ZdT];exact ZrS h o
def ZuG:St->List Opn->St × List Int
 | s,[]=>(s,[])
 | s,o::r=>((ZuG (Zl s o).1 r).1,(Zl s o).2::(ZuG (Zl s o).1 r).2)
def ZgS (s:Q0) (r:Rec):Q0:=⟨s.idx+1,(Zl s.st r.op).1,Zcx s.tab ⟨r.proc,r.seq,(Zl s.st r.op).2⟩⟩
def Q4:Q0->List Rec->Q0 × Int
 | s,[]=>(s,0)
 | s,r::l=>if r.idx≠s.idx then(Yf,15) else if ¬ Q1 r then(Yf,1) else Q4 (ZgS s r) l
theorem ZmZ:∀ (a b:List Rec) (s:Q0),Q4 s (a++b)=if(Q4 s a).2=0 then Q4 (Q4 s a).1 b else Q4 s a
 | [],b,s=>by simp[Q4]
 | r::a,b,s=>by
  rw[cons_append,Q4,Q4];by_cases d:r.idx≠s.idx
  ·rw[zab d,zab d,zaa (by simp)]
  ·rw[zaa d,zaa d]
   by_cases c:¬ Q1 r
   ·rw[zab c,zab c,zaa (by simp)]
   ·rw[zaa c,zaa c]
    exact ZmZ a b _
theorem Zca:∀ (l:List Rec) (s:Q0),(Q4 s l).2=0->(Q4 s l).1.st=(ZuG s.st (l.map (fun r=>r.op))).1∧(Q4 s l).1.idx=s.idx+l.length
 | [],s,_=>by simp[Q4,ZuG]
 | r::l,s,h=>by
  rw[Q4] at h ⊢;by_cases b:r.idx≠s.idx
  ·rw[zab b] at h
   exact absurd h (by decide)
  rw[zaa b] at h ⊢;by_cases a:¬ Q1 r
  ·rw[zab a] at h
   exact absurd h (by decide)
  rw[zaa a] at h ⊢;obtain⟨d,c⟩:=Zca l (ZgS s r) h;rw[d,c,zei,ZuG];refine⟨rfl,?_⟩;show s.idx+1+_=_;rw[length_cons];omega
def Q8 (l:List Rec) (p:Int):Int:=l.foldl (fun a r=>if r.proc=p then r.seq else a) 0
theorem Zna (l:List Rec) (r:Rec) (p:Int):Q8 (l++[r]) p=if r.proc=p then r.seq else Q8 l p:=by
 unfold Q8;rw[zdq];rfl
theorem Zkv {l:List Rec} (p:Int):(∀ r ∈ l,Q1 r)->0<=Q8 l p∧Q8 l p<4611686018427387904:=by
 unfold Q8
 suffices h:∀ (l:List Rec) (a:Int),(∀ r ∈ l,Q1 r)->0<=a->a<4611686018427387904->0<=l.foldl (fun a r=>if r.proc=p then r.seq else a) a∧l.foldl (fun a r=>if r.proc=p then r.seq else a) a<4611686018427387904 by
  exact fun k=>h l 0 k (by decide) (by decide)
 intro l
 induction l with
 | nil=>intro a _ d e;exact⟨d,e⟩
 | cons r t f=>
  intro a c d e;rw[zd6];have j:=c r (by simp)
  obtain⟨_,_,_,m,i,_⟩:=j;by_cases g:r.proc=p
  ·rw[zab g]
   exact f _ (fun s b=>c s (by simp[b])) m i
  ·rw[zaa g]
   exact f _ (fun s b=>c s (by simp[b])) d e
def Zi (pre:List Rec) (r:Rec):List UInt8:=
 Lib.uvarint r.proc.toNat++(Lib.uvarint (Lib.zigzag (r.seq-Q8 pre r.proc))++(X7 r.op++Lib.uvarint (Lib.zigzag r.resp)))
def Yl (pre:List Rec):List Rec->List UInt8
 | []=>[]
 | r::t=>Zi pre r++Yl (pre++[r]) t
def Yc (l:List Rec):List UInt8:=Lib.uvarint (l.headD Qj).idx.toNat++(Lib.uvarint l.length++Yl [] l)
def Xn:Int->List Rec->Prop
 | _,[]=>True
 | i,r::t=>r.idx=i∧Xn (i+1) t
instance chainR_dec:∀ (i:Int) (l:List Rec),Decidable (Xn i l)
 | _,[]=>.isTrue trivial
 | i,r::t=>by
  unfold Xn;exact @instDecidableAnd _ _ _ (chainR_dec (i+1) t)
def Yg (l:List Rec):Prop:=1<=l.length∧l.length<=256∧(∀ r ∈ l,Q1 r)∧Xn (l.headD Qj).idx l
instance (l:List Rec):Decidable (Yg l):=by unfold Yg;infer_instance
theorem ZhV:∀ (a b c:List Rec),Yl c (a++b)=Yl c a++Yl (c++a) b
 | [],b,c=>by simp[Yl]
 | r::t,b,c=>by
  have e:c++[r]++t=c++r::t:=by simp
  rw[cons_append,Yl,ZhV t b,e,Yl];exact(append_assoc _ _ _).symm
theorem Zsd (l:List Rec) (k:Nat) (a:k<l.length):Yl [] (l.take (k+1))=Yl [] (l.take k)++Zi (l.take k) (l.getD k Qj):=by
 have e:l.take (k+1)=l.take k++[l.getD k Qj]:=by
  rw[zcl];simp[List.getD,a]
 rw[e,ZhV];simp[Yl]
def ZAJ (pre:List Rec) (b:List UInt8):Rec × Nat:=
 let i:=(Qb b).2
 let j:=(Qe (b.drop i)).2
 let k:=(Xe (b.drop (i+j))).2
 let m:=(Qe (b.drop (i+j+k))).2
 if i=0∨j=0∨k=0∨m=0 then(Qj,0)
 else(⟨0,(Qb b).1,IntKind.i64.wrap (Q8 pre (Qb b).1+zag (Qe (b.drop i)).1),(Xe (b.drop (i+j))).1,zag (Qe (b.drop (i+j+k))).1⟩,i+j+k+m)
theorem Zpg {n:Int} (h:I64 n):IntKind.i64.wrap n=n:=by
 obtain⟨b,a⟩:=h;rw[zbo];omega
theorem ZeE {l:List Rec} (b:∀ r ∈ l,Q1 r) {r:Rec} (a:Q1 r):I64 (r.seq-Q8 l r.proc):=by
 obtain⟨e,f⟩:=Zkv r.proc b;obtain⟨_,_,_,d,c,_⟩:=a;exact⟨by omega,by omega⟩
theorem Zzk {a:List Rec} (w:∀ r ∈ a,Q1 r) {r:Rec} (d:Q1 r) (t:List UInt8):ZAJ a (Zi a r++t)=({ r with idx:=0 },(Zi a r).length):=by
 have b:=ZeE w d;have c:=ZaX d;obtain⟨m,_,_,y,B,z,A,_⟩:=id d
 have E:Zi a r++t=Lib.uvarint r.proc.toNat++(Lib.uvarint (Lib.zigzag (r.seq-Q8 a r.proc))++(X7 r.op++(Lib.uvarint (Lib.zigzag r.resp)++t))):=by
  unfold Zi;simp only [append_assoc]
 have f:=Q6 r.proc.toNat (Lib.uvarint (Lib.zigzag (r.seq-Q8 a r.proc))++(X7 r.op++(Lib.uvarint (Lib.zigzag r.resp)++t))) (by omega)
 rw[<-E] at f;have g:(Zi a r++t).drop (Lib.uvarint r.proc.toNat).length=Lib.uvarint (Lib.zigzag (r.seq-Q8 a r.proc))++(X7 r.op++(Lib.uvarint (Lib.zigzag r.resp)++t)):=by rw[E,drop_left]
 have n:=Zb (Lib.zigzag (r.seq-Q8 a r.proc)) (X7 r.op++(Lib.uvarint (Lib.zigzag r.resp)++t)) (Zbd b);have e:(Zi a r++t).drop ((Lib.uvarint r.proc.toNat).length+(Lib.uvarint (Lib.zigzag (r.seq-Q8 a r.proc))).length)=X7 r.op++(Lib.uvarint (Lib.zigzag r.resp)++t):=by rw[<-drop_drop,g,drop_left]
 have x:=ZmQ r.op m (Lib.uvarint (Lib.zigzag r.resp)++t);have j:(Zi a r++t).drop ((Lib.uvarint r.proc.toNat).length+(Lib.uvarint (Lib.zigzag (r.seq-Q8 a r.proc))).length+(X7 r.op).length)=Lib.uvarint (Lib.zigzag r.resp)++t:=by rw[<-drop_drop,e,drop_left]
 have i:=Zb (Lib.zigzag r.resp) t (Zbd c);have u:=J6 r.proc.toNat;have p:=J6 (Lib.zigzag (r.seq-Q8 a r.proc));have k:=J6 (Lib.zigzag r.resp)
 have q:(X7 r.op).length≠0:=by
  unfold X7;have:=J6 r.op.code.toNat;rw[length_append];omega
 unfold ZAJ;simp only [f,g,n,e,x,j,i];rw[zaa (by rintro(h | h | h | h);exact u h;exact p h;exact q h;exact k h)]
 have v:((r.proc.toNat:Nat):Int)=r.proc:=by omega
 rw[v,G6 _ b.1 b.2,G6 _ c.1 c.2];have l:Q8 a r.proc+(r.seq-Q8 a r.proc)=r.seq:=by omega
 rw[l,Zpg ⟨by omega,by omega⟩]
 congr 1
 unfold Zi;simp only [length_append];omega
def DecB (b:List UInt8) (l:List Rec) (e:Int):Prop:=(e=0∧Yg l∧Yc l=b)∨(e=3∧l=[]∧∀ l',Yg l'->Yc l'≠b)
structure Seg where
 kind:Int
 first:Int
 recs:List Rec
def ZeF:Seg:=⟨0,0,[]⟩
def ZhW:Nat->Int->List Rec->List UInt8->List Rec
 | 0,_,pre,_=>pre
 | n+1,i,pre,b=>ZhW n i (pre++[{ (ZAJ pre b).1 with idx:=i+pre.length }]) (b.drop (ZAJ pre b).2)
def Znb (b:List UInt8):List Rec:=ZhW (Qb (b.drop (Qb b).2)).1 (Qb b).1 [] (b.drop ((Qb b).2+(Qb (b.drop (Qb b).2)).2))
def ZdU (b:List UInt8):Option (List Rec):=if Yg (Znb b)∧Yc (Znb b)=b then some (Znb b) else none
theorem ZhX:∀ (l a:List Rec) (i:Int) (t:List UInt8),(∀ r ∈ a,Q1 r)->(∀ r ∈ l,Q1 r)->Xn (i+a.length) l->ZhW l.length i a (Yl a l++t)=a++l
 | [],a,i,t,_,_,_=>by simp[ZhW]
 | r::l,a,i,t,hp,hl,c=>by
  obtain⟨j,c⟩:=c;have d:=hl r (by simp)
  have e:=Zzk hp d (Yl (a++[r]) l++t);rw[length_cons,ZhW,Yl,append_assoc,e];have g:({ ({ r with idx:=0 }:Rec) with idx:=i+a.length }:Rec)=r:=by rw[<-j]
  simp only [g,drop_left]
  rw[ZhX l (a++[r]) i t (fun s b=>by
   rcases za2.1 b with h | h
   ·exact hp s h
   ·rw[zaw.1 h];exact d) (fun s b=>hl s (by simp[b])) (by
   have f:i+((a++[r]).length:Int)=i+(a.length:Int)+1:=by simp;omega
   rw[f];exact c)]
  simp
theorem Zse {l:List Rec} (h:Yg l):Q1 (l.headD Qj):=by
 cases l with
 | nil=>exact absurd h.1 (by simp)
 | cons r t=>exact h.2.2.1 r (by simp)
theorem Zsf {l:List Rec} (h:Yg l):Znb (Yc l)=l:=by
 have b:=Zse h;obtain⟨k,j,g,c⟩:=h;obtain⟨_,i,m,_⟩:=b
 have d:Qb (Yc l)=((l.headD Qj).idx.toNat,(Lib.uvarint (l.headD Qj).idx.toNat).length):=by
  unfold Yc;exact Q6 _ _ (by omega)
 have f:(Yc l).drop (Lib.uvarint (l.headD Qj).idx.toNat).length=Lib.uvarint l.length++Yl [] l:=by
  unfold Yc;rw[drop_left]
 have a:Qb (Lib.uvarint l.length++Yl [] l)=(l.length,(Lib.uvarint l.length).length):=Q6 _ _ (by omega)
 unfold Znb;rw[d];simp only;rw[<-drop_drop,f,a];simp only [drop_left]
 have h:=ZhX l [] ((l.headD Qj).idx.toNat:Nat) [] (by simp) g (by
  have e:(((l.headD Qj).idx.toNat:Nat):Int)+(([]:List Rec).length:Int)=(l.headD Qj).idx:=by rw[length_nil];omega
  rw[e]
  exact c)
 rw[append_nil] at h;exact h
theorem Znc {l:List Rec} (h:Yg l):ZdU (Yc l)=some l:=by
 unfold ZdU;rw[Zsf h,zab ⟨h,rfl⟩]
theorem ZfK {l:List Rec} (h:ZdU b=some l):Yg l∧Yc l=b:=by
 unfold ZdU at h;split at h
 ·rename_i a
  injection h with h
  rw[<-h];exact a
 ·cases h
set_option linter.unusedVariables false in
def ZyO (v:Nat) (d:List UInt8):Option (List Rec):=
 if hd:d=[] then some []
 else if hk:(Qb d).2=0∨d.length<(Qb d).2+(Qb d).1∨(Qb d).1<1∨(d.getD (Qb d).2 0).toNat≠v then none
 else if(decR ((d.drop (Qb d).2).take (Qb d).1)).2≠0 then none
 else(ZyO v (d.drop ((Qb d).2+(Qb d).1))).map (fun t=>(decR ((d.drop (Qb d).2).take (Qb d).1)).1::t)
termination_by d.length
decreasing_by
 have h1:d.length≠0:=by simpa using hd
 rw[length_drop];omega
def ZAf (v:Nat) (r:Rec):List UInt8:=Lib.uvarint (encR v r).length++encR v r
def ZAO (v:Nat) (l:List Rec):List UInt8:=if v=3 then Yc l else l.flatMap (ZAf v)
def Xq (v k f:Nat):List UInt8:=108::(Lib.uvarint v++(Lib.uvarint k++Lib.uvarint f))
def ZAg:Nat->List (List UInt8)->List UInt8
 | _,[]=>[]
 | d,x::xs=>Lib.uvarint d++ZAg (Qd x).length xs
def ZAh (H:List UInt8) (B:List (List UInt8)):List UInt8:=Lib.uvarint B.length++ZAg (Qd H).length B
def Zra (l:List Rec) (first:Int):Prop:=l.length<=4096∧(∀ r ∈ l,Q1 r)∧Xn first l
instance (l:List Rec) (first:Int):Decidable (Zra l first):=by unfold Zra;infer_instance
def MayG (s:Seg):Prop:=(0<=s.kind∧s.kind<6∧0<=s.first∧s.first<4611686018427387904)∧Zra s.recs s.first
instance (s:Seg):Decidable (MayG s):=by unfold MayG;infer_instance
def Z8 (d:List UInt8):Except Int (Nat × Nat × Nat):=
 let i:=(Qb (d.drop 1)).2
 let j:=(Qb (d.drop (1+i))).2
 let m:=(Qb (d.drop (1+i+j))).2
 if d=[]∨d.getD 0 0≠108 then .error 3
 else if i=0∨j=0∨m=0∨1+i+j+m≠d.length then .error 3
 else if(Qb (d.drop 1)).1<1∨3<(Qb (d.drop 1)).1 then .error 6
 else if 6<=(Qb (d.drop (1+i))).1 then .error 1
 else .ok ((Qb (d.drop 1)).1,(Qb (d.drop (1+i))).1,(Qb (d.drop (1+i+j))).1)
def Zrb (v:Nat) (d:List UInt8) (next:Int):Option (List Rec):=
 match (if v<3 then ZyO v d else ZdU d) with
 | none=>none
 | some l=>if((1<=l.length∧l.length<=16)∧Zra l next)∧ZAO v l=d then some l else none
def J8 (v:Nat) (first:Int):List (List UInt8)->List Rec->Nat->List Rec × Nat × Int
 | [],acc,_=>(acc,0,0)
 | d::ds,acc,last=>
  match Zrb v d (first+acc.length) with
  | none=>(acc,0,3)
  | some r=>if last<16 then(acc,0,3) else if 4096<acc.length+r.length then(acc,0,5)
   else((J8 v first ds (acc++r) r.length).1,(J8 v first ds (acc++r) r.length).2.1+1,(J8 v first ds (acc++r) r.length).2.2)
def ZAi (L:List (List UInt8)):Seg × Int:=
 if L.length<2 then(ZeF,16)
 else match Z8 (L.headD []) with
  | .error e=>(ZeF,e)
  | .ok (v,k,f)=>
   if(J8 v f (L.tail.dropLast) [] 16).2.2≠0 then(ZeF,(J8 v f (L.tail.dropLast) [] 16).2.2)
   else if ZAh (L.headD []) L.tail.dropLast=L.getLastD [] then(⟨k,f,(J8 v f (L.tail.dropLast) [] 16).1⟩,0) else(ZeF,16)
def Zxf (L:List (List UInt8)):Seg × Nat × Bool:=
 if L=[] then(ZeF,0,false)
 else match Z8 (L.headD []) with
  | .error _=>(ZeF,0,false)
  | .ok (v,k,f)=>(⟨k,f,(J8 v f L.tail [] 16).1⟩,(Qf (L.take (1+(J8 v f L.tail [] 16).2.1))).length,true)
def G0 (b:List UInt8):Seg × Nat × Bool:=Zxf (Qq b).1
structure Pce where
 name:Int
 first:Int
 stop:Int
def Zm:Pce:=⟨0,0,0⟩
structure Lgb where
 first:Int
 recs:List Rec
 pcs:List Pce
def Lgb.next (b:Lgb):Int:=b.first+b.recs.length
def Lgb.start (b:Lgb) (name first:Int):Lgb:=⟨if b.pcs.length=0 then first else b.first,b.recs,b.pcs++[⟨name,first,first⟩]⟩
def Ze (l:List Pce) (n:Nat):List Pce:=l.set (l.length-1) ⟨(l.getD (l.length-1) Zm).name,(l.getD (l.length-1) Zm).first,(l.getD (l.length-1) Zm).stop+n⟩
def Lgb.add (b:Lgb) (l:List Rec):Lgb:=⟨b.first,b.recs++l,Ze b.pcs l.length⟩
def Zj (left:List Pce) (base:Int):Int:=if left.length=0 then base else(left.getD 0 Zm).first
def Lgb.letGo (b:Lgb) (left:List Pce) (base:Int):Lgb:=⟨Zj left base,b.recs.drop (Zj left base-b.first).toNat,left⟩
def Lgb.leads (b:Lgb) (base:Q0):Prop:=b.pcs.length≠0∧b.first<=base.idx∧base.idx<=b.next∧(Q4 base (b.recs.drop (base.idx-b.first).toNat)).2=0
instance (b:Lgb) (base:Q0):Decidable (b.leads base):=by unfold Lgb.leads;infer_instance
def Lgb.behind (b:Lgb) (base:Q0):Lgb × Q0:=
 if b.leads base then(b,(Q4 base (b.recs.drop (base.idx-b.first).toNat)).1) else(⟨base.idx,[],[]⟩,base)
structure Sto where
 log:Lgb
 bases:List Q0
 now:Q0
 synced:Int
 cur:Int
 nw:Bool
def Sto.next (s:Sto):Int:=s.log.next
def Sto.base (s:Sto):Q0:=s.bases.getD (s.bases.length-1) Yf
abbrev SDk:=Sto × Dk
def Qk (d:Dk):List Int:=(Qm d).map Prod.fst
def Xm (l:List Int) (first:Int):List Int:=l.filter fun n=>!(decide (n<first) || decide ((n-first) % 2≠0))
def Xs (d:Dk) (first:Int):Int:=(Xm (Qk d) first).getD ((Xm (Qk d) first).length-1) (first-2)+2
def Zbz (H:List UInt8) (kind:Int):Option Nat:=
 match Z8 H with
 | .ok (v,k,f)=>if v=3∧(k:Int)=kind then some f else none
 | .error _=>none
def Yu (first:Int):List (List UInt8)->List Rec->List Rec
 | [],acc=>acc
 | d::t,acc=>
  match ZdU d with
  | none=>acc
  | some l=>if(l.headD Qj).idx=first+acc.length then Yu first t (acc++l) else acc
def ZoZ (b:List UInt8) (kind:Int):Option (Nat × List Rec):=
 match (Qq b).1 with
 | []=>none
 | H::B=>(Zbz H kind).map fun f=>(f,Yu f B [])
def ZaF:Lgb:=⟨0,[],[]⟩
def logOne (d:Dk) (kind:Int) (b:Lgb) (n:Int):Lgb:=
 match ZoZ (Zu d n).1 kind with
 | none=>b
 | some (f,l)=>if b.pcs.length=0∨(f:Int)=b.next then(b.start n f).add l else b
def Jq (d:Dk) (kind:Int):Lgb:=(Xm (Qk d) 2).foldl (logOne d kind) ZaF
def Jd (kind:Int):Q0:=⟨0,Gu kind,[]⟩
def Jv (d:Dk) (kind:Int) (l:List Q0) (n:Int):List Q0:=
 if(ZmW (Zu d n).1).2=0∧(ZmW (Zu d n).1).1.st.kind=kind then l++[(ZmW (Zu d n).1).1] else l
def Ya (d:Dk) (kind:Int):List Q0:=(Xm (Qk d) 3).foldl (Jv d kind) [Jd kind]
def Gc (l:List Q0):Q0:=l.getD (l.length-1) Yf
def ZbA (d:Dk) (kind:Int):Sto:=
 ⟨((Jq d kind).behind (Gc (Ya d kind))).1,Ya d kind,((Jq d kind).behind (Gc (Ya d kind))).2,((Jq d kind).behind (Gc (Ya d kind))).1.next,0,false⟩
def ZgT (d:Dk) (kind:Int):Int:=if kind<0∨6<=kind then 1 else if d.power=0 then 11 else 0
def Qv:List (SDk->SDk × Int)->SDk->SDk × Int
 | [],x=>(x,0)
 | f::t,x=>if(f x).2=0 then Qv t (f x).1 else f x
def Qp (x:SDk):SDk × Int:=((if(Qn x.2).2=0 then { x.1 with nw:=false } else x.1,(Qn x.2).1),(Qn x.2).2)
def Qw (x:SDk):SDk × Int:=if x.1.nw=true then Qp x else(x,0)
def Xo (f:Dk->Dk × Int) (x:SDk):SDk × Int:=((x.1,(f x.2).1),(f x.2).2)
def Q2 (x:SDk):SDk × Int:=Xo (fun d=>Xz d x.1.cur) x
def Yi (s:Sto):Sto:={ s with synced:=s.next }
def Q5 (x:SDk):SDk × Int:=
 if x.1.cur=0 then((Yi x.1,x.2),0) else
 if(Qv [Q2,Qw] x).2=0 then((Yi (Qv [Q2,Qw] x).1.1,(Qv [Q2,Qw] x).1.2),0) else Qv [Q2,Qw] x
def Yb (x:SDk):SDk × Int:=if(Q5 x).2=0 then(({ (Q5 x).1.1 with cur:=0 },(Q5 x).1.2),0) else Q5 x
def Jz (s:Sto) (l:List Rec):List UInt8:=if s.cur=0 then Qd (Xq 3 s.now.st.kind.toNat s.next.toNat)++Qd (Yc l) else Qd (Yc l)
def Ju (s:Sto) (d:Dk):Int:=if s.cur=0 then Xs d 2 else s.cur
def Y7 (s:Sto) (name:Int) (l:List Rec):Sto:=
 { s with log:=(if s.cur=0 then s.log.start name s.next else s.log).add l,now:=(Q4 s.now l).1,cur:=name,nw:=if s.cur=0 then true else s.nw }
def Xc (l:List Rec) (x:SDk):SDk × Int:=
 if ¬ Yg l then(x,1) else if(l.headD Qj).idx≠x.1.next then(x,15) else
 if(Qy x.2 (Ju x.1 x.2) (Jz x.1 l)).2=0 then((Y7 x.1 (Ju x.1 x.2) l,(Qy x.2 (Ju x.1 x.2) (Jz x.1 l)).1),0)
 else((x.1,(Qy x.2 (Ju x.1 x.2) (Jz x.1 l)).1),(Qy x.2 (Ju x.1 x.2) (Jz x.1 l)).2)
def ZcE (x:SDk):SDk × Int:=(x,if Zs x.1.now then 0 else 1)
def Yy (x:SDk):SDk × Int:=if 1 ∈ Qk x.2 then Xo (fun d=>Qi d 1) x else(x,0)
def ZbO (x:SDk):SDk × Int:=Xo (fun d=>Qy d 1 (if Zs x.1.now then ZjN x.1.now else[])) x
def Gx (x:SDk):SDk × Int:=Xo (fun d=>Z1 d 1 (Xs d 3)) x
def J1:SDk->SDk × Int:=Qv [Q5,ZcE,Yy,ZbO,Xo (fun d=>Xz d 1),Gx,Qp]
def Qs (x:SDk):SDk × Int:=
 if(J1 x).2=0 then(({ (J1 x).1.1 with bases:=(J1 x).1.1.bases++[(J1 x).1.1.now] },(J1 x).1.2),0) else J1 x
def ZeG (s:Sto) (p:Pce):Bool:=decide (p.stop<=s.base.idx) && decide (p.name≠s.cur)
def Gl (s:Sto):List Pce:=s.log.pcs.filter fun p=>!ZeG s p
def ZeH (s:Sto):List (SDk->SDk × Int):=(s.log.pcs.filter (ZeG s)).map fun p=>Xo (fun d=>Qi d p.name)
def Zn (x:SDk):SDk × Int:=
 if(Qv (ZeH x.1++[Qp]) x).2=0 then(({ (Qv (ZeH x.1++[Qp]) x).1.1 with log:=x.1.log.letGo (Gl x.1) x.1.base.idx },(Qv (ZeH x.1++[Qp]) x).1.2),0)
 else Qv (ZeH x.1++[Qp]) x
def Zhi (s:Sto) (a b:Int):List Rec × Int:=
 if a<0∨b<a∨s.next<b then([],12) else if a<s.log.first then([],13) else((s.log.recs.take (b-s.log.first).toNat).drop (a-s.log.first).toNat,0)
theorem Zah (l:List UInt8) (a b:Nat):(l.drop a).take b++l.drop (a+b)=l.drop a:=by rw[<-drop_drop,take_append_drop]
theorem ZhY {e:Ent} (h:Dh e):e.proc.toNat<4611686018427387904∧e.seq.toNat<4611686018427387904∧I64 e.resp∧((e.proc.toNat:Nat):Int)=e.proc∧((e.seq.toNat:Nat):Int)=e.seq:=by
 obtain⟨g,f,d,b,a,c⟩:=h;exact⟨by omega,by omega,⟨by omega,by omega⟩,by omega,by omega⟩
theorem Zsg {e:Ent} (h:Dh e) (n:Nat) (t:List UInt8):J0 (n+1) (ZoY e++t)=(J0 n t).map (fun r=>(e::r.1,r.2)):=by
 obtain⟨k,u,a,i,f⟩:=ZhY h
 have E:ZoY e++t=Lib.uvarint e.proc.toNat++(Lib.uvarint e.seq.toNat++(Lib.uvarint (Lib.zigzag e.resp)++t)):=by
  unfold ZoY;simp only [append_assoc]
 have c:=Q6 e.proc.toNat (Lib.uvarint e.seq.toNat++(Lib.uvarint (Lib.zigzag e.resp)++t)) k;have j:=Q6 e.seq.toNat (Lib.uvarint (Lib.zigzag e.resp)++t) u;have p:=Zb (Lib.zigzag e.resp) t (Zbd a);have d:(ZoY e++t).drop (Lib.uvarint e.proc.toNat).length=Lib.uvarint e.seq.toNat++(Lib.uvarint (Lib.zigzag e.resp)++t):=by rw[E,drop_left]
 have b:(ZoY e++t).drop ((Lib.uvarint e.proc.toNat).length+(Lib.uvarint e.seq.toNat).length)=Lib.uvarint (Lib.zigzag e.resp)++t:=by rw[<-drop_drop,d,drop_left]
 have g:(ZoY e++t).drop ((Lib.uvarint e.proc.toNat).length+(Lib.uvarint e.seq.toNat).length+(Lib.uvarint (Lib.zigzag e.resp)).length)=t:=by rw[<-drop_drop,b,drop_left]
 rw[<-E] at c;have q:=J6 e.proc.toNat;have l:=J6 e.seq.toNat;have m:=J6 (Lib.zigzag e.resp);rw[J0];simp only [c,d,j,b,p,g];rw[zaa (by rintro(h | h | h);exact q h;exact l h;exact m h),G6 _ a.1 a.2,i,f]
theorem Znd:∀ (t:List Ent) (x:List UInt8),(∀ e ∈ t,Dh e)->J0 t.length (Y0 t++x)=some (t,x)
 | [],x,_=>by simp[J0,Y0]
 | e::t,x,h=>by
  have E:Y0 (e::t)++x=ZoY e++(Y0 t++x):=by
   unfold Y0;rw[ze3,append_assoc]
  rw[E,length_cons,Zsg (h e (by simp)),Znd t x (fun a b=>h a (by simp[b]))]
  rfl
theorem Zxg (e:Ent):1<=(ZoY e).length:=by
 unfold ZoY;have:=J6 e.proc.toNat;rw[length_append];omega
theorem Zne (t:List Ent):t.length<=(Y0 t).length:=by
 induction t with
 | nil=>simp
 | cons e t a=>
  unfold Y0 at a ⊢;rw[ze3,length_append,length_cons];have:=Zxg e;omega
theorem Zsh {t:List Ent} (h:∀ e ∈ t,Dh e) (b:t.length<=1000000):Zbe (ZyN t)=some t:=by
 have d:=Q6 t.length (Y0 t) (by omega)
 have a:=Znd t [] h;rw[append_nil] at a;have c:=J6 t.length;unfold Zbe ZyN;rw[d];simp only [drop_left];rw[zaa,a];have:=Zne t;rw[length_append];omega
theorem ZhZ {t:List Ent} (h:Zdv t):t.length<=65:=by
 have c:∀ i,i<t.length->(i:Int)<=(t.getD i Xj).proc:=by
  intro i
  induction i with
  | zero=>
   intro a;exact(h 0 a).1.1
  | succ i d=>
   intro a;have e:=d (by omega)
   have b:=(h (i+1) a).2 (by omega)
   rw[zdk] at b;omega
 by_cases f:t.length=0
 ·omega
 ·have e:=c (t.length-1) (by omega)
  have b:=(h (t.length-1) (by omega)).1.2.1
  omega
theorem Zxh {e:Ent} (h:Dh e):(ZoY e).length<=30:=by
 obtain⟨b,d,a,_⟩:=ZhY h;have g:=za8 (x:=e.proc.toNat) (by omega)
 have f:=za8 (x:=e.seq.toNat) (by omega)
 have c:=za8 (Zbd a);unfold ZoY;rw[length_append,length_append];omega
theorem Zrc:∀ (t:List Ent),(∀ e ∈ t,Dh e)->(Y0 t).length<=30*t.length
 | [],_=>by simp[Y0]
 | e::t,h=>by
  have d:=Zxh (h e (by simp))
  have c:=Zrc t (fun a b=>h a (by simp[b]))
  unfold Y0 at c ⊢;rw[ze3,length_append,length_cons];omega
theorem Zrd:∀ (l:List Int),(∀ x ∈ l,I64 x)->(Zv l).length<=10*l.length
 | [],_=>by simp[Zv]
 | x::t,h=>by
  have d:=za8 (Zbd (h x (by simp)))
  have c:=Zrd t (fun a b=>h a (by simp[b]))
  rw[Zv,length_append,length_cons];omega
theorem Zph (h:Ym s):(ZeA s).length<=2000:=by
 obtain⟨i,g,a⟩:=ZeB h;have c:=ZlA h;have d:=za8 (x:=s.kind.toNat) (by omega)
 have e:=za8 (x:=Dg s) (by omega)
 have f:=za8 (x:=s.L.length) (by omega)
 have b:=Zrd s.L a;unfold ZeA;rw[length_append,length_append,length_append];omega
theorem Zaz {s:Q0} (h:Zs s):(Xt s).length<=5000:=by
 obtain⟨_,b,a⟩:=h;have d:=Zph b;have e:=ZhZ a;have f:=Zrc s.tab a.mem;have c:=za8 (x:=(ZeA s.st).length) (by omega)
 have g:=za8 (x:=s.tab.length) (by omega)
 unfold Xt ZyN;rw[length_append,length_append,length_append];omega
theorem Zpi {s:Q0} (h:Zs s):Yw (Xt s)=(⟨0,s.st,s.tab⟩,0):=by
 have g:=Zaz h;obtain⟨_,b,a⟩:=h;have f:=Zph b;have d:=Q6 (ZeA s.st).length (ZeA s.st++ZyN s.tab) (by omega)
 have i:=J6 (ZeA s.st).length;have e:=Zsh a.mem (by have:=ZhZ a;omega)
 have c:=ZwX b;unfold Yw Xt;rw[d];simp only [drop_left];rw[zaa (by rw[length_append,length_append];omega),<-drop_drop,drop_left,zgh,drop_left,c,zaa (by show ¬ ((0:Int)=3);decide),e]
theorem Zsi {i:Nat} (g:i<4611686018427387904) {w:List UInt8} (j:w.length<4611686018427387904):Y1 (Zbl i w)=(i,w.length,Q3 0 w,0):=by
 have f:=ZmU w;have k:=Q6 3 (Lib.uvarint i++(Lib.uvarint w.length++Lib.leBytes 4 (Q3 0 w))) (by decide)
 have d:=Q6 i (Lib.uvarint w.length++Lib.leBytes 4 (Q3 0 w)) g;have q:=Q6 w.length (Lib.leBytes 4 (Q3 0 w)) j;have m:=J6 3;have l:=J6 i;have e:=J6 w.length;have c:(Zbl i w).drop 1=Lib.uvarint 3++(Lib.uvarint i++(Lib.uvarint w.length++Lib.leBytes 4 (Q3 0 w))):=rfl;have b:(Zbl i w).drop (1+(Lib.uvarint 3).length)=Lib.uvarint i++(Lib.uvarint w.length++Lib.leBytes 4 (Q3 0 w)):=by rw[<-drop_drop,c,drop_left]
 have a:(Zbl i w).drop (1+(Lib.uvarint 3).length+(Lib.uvarint i).length)=Lib.uvarint w.length++Lib.leBytes 4 (Q3 0 w):=by rw[<-drop_drop,b,drop_left]
 have n:(Zbl i w).drop (1+(Lib.uvarint 3).length+(Lib.uvarint i).length+(Lib.uvarint w.length).length)=Lib.leBytes 4 (Q3 0 w):=by rw[<-drop_drop,a,drop_left]
 have p:¬ ((Zbl i w).length<1∨((Zbl i w).getD 0 0).toNat≠115):=by
  unfold Zbl;simp
 unfold Y1;rw[zaa p];simp only [c,k,b,d,a,q,n];rw[zaa (by rintro(h | h | h);exact m h;exact l h;exact e h),zaa (by simp),zaa (by rw[zcz];simp),Lib.leNat_leBytes 4 _ f]
theorem ZeI {i:Nat} (e:i<4611686018427387904) {w:List UInt8} (d:w.length<4611686018427387904):(Zbl i w).length<=40:=by
 have a:=za8 (x:=3) (by decide)
 have b:=za8 (x:=i) (by omega)
 have c:=za8 (x:=w.length) (by omega)
 unfold Zbl;rw[length_cons,length_append,length_append,length_append,zcz];omega
theorem Zkw {s:Q0} (h:Zs s):∀ x ∈ ZaJ s,x.length<=1048576:=by
 intro x hx;have a:=Zaz h;obtain⟨⟨b,c⟩,_⟩:=h;unfold ZaJ at hx;rcases zbd.1 hx with hx | hx
 ·rw[hx]
  have:=ZeI (i:=s.idx.toNat) (by omega) (w:=Xt s) (by omega)
  omega
 ·have:=ZfF _ _ x zL hx
  omega
theorem Zxi {s:Q0} (h:Zs s):ZmW (ZjN s)=(s,0):=by
 have i:=Zaz h;have g:=Zag (ZaJ s) (Zkw h);have b:s.idx.toNat<4611686018427387904:=by have:=h.1;omega
 have f:((s.idx.toNat:Nat):Int)=s.idx:=by have:=h.1;omega
 have d:=Zsi b (w:=Xt s) (by omega)
 have e:=ZdR _ (Xt s) zL;have a:=ZcD _ (Xt s) zL;have c:=Zpi h;unfold ZmW ZjN;rw[g,zaa (by simp)]
 show Zgp (Zbl s.idx.toNat (Xt s)::Yd (Xt s))=_;unfold Zgp;simp only [d,e];rw[zaa (by simp),zaa (by simp),zaa (by simpa using a),zaa (by simp),c,zaa (by simp)]
 simp only [f];rw[zab h]
theorem ZdV:∀ (n:Nat) (b:List UInt8) (t:List Ent) (x:List UInt8),J0 n b=some (t,x)->t.length=n∧b=Y0 t++x
 | 0,b,t,x,h=>by
  simp only [J0,zb6,zcj] at h;obtain⟨rfl,rfl⟩:=h;exact⟨rfl,rfl⟩
 | n+1,b,t,x,h=>by
  rw[J0] at h;split at h
  ·cases h
  ·rename_i c
   have u:(Qb b).2≠0:=fun e=>c (.inl e)
   have p:(Qb (b.drop (Qb b).2)).2≠0:=fun e=>c (.inr (.inl e))
   have q:(Qe (b.drop ((Qb b).2+(Qb (b.drop (Qb b).2)).2))).2≠0:=fun e=>c (.inr (.inr e))
   rw[Option.map_eq_some_iff] at h;obtain⟨⟨a,x'⟩,j,d⟩:=h;simp only [zcj] at d;obtain⟨rfl,rfl⟩:=d;obtain⟨v,f⟩:=ZdV n _ a x' j;refine⟨by rw[length_cons,v],?_⟩
   have i:=Ja u;have g:=Ja p;have m:=Zkt q
   have E:Y0 (⟨(Qb b).1,(Qb (b.drop (Qb b).2)).1,zag (Qe (b.drop ((Qb b).2+(Qb (b.drop (Qb b).2)).2))).1⟩::a)++x'=Lib.uvarint (Qb b).1++(Lib.uvarint (Qb (b.drop (Qb b).2)).1++(Lib.uvarint (Qe (b.drop ((Qb b).2+(Qb (b.drop (Qb b).2)).2))).1++(Y0 a++x'))):=by
    unfold Y0;rw[ze3];unfold ZoY;simp only [zbj,ZbJ,append_assoc]
   have l:Lib.uvarint (Qe (b.drop ((Qb b).2+(Qb (b.drop (Qb b).2)).2))).1++(Y0 a++x')=b.drop ((Qb b).2+(Qb (b.drop (Qb b).2)).2):=by
    rw[<-f,m];exact Zah _ _ _
   have k:Lib.uvarint (Qb (b.drop (Qb b).2)).1++b.drop ((Qb b).2+(Qb (b.drop (Qb b).2)).2)=b.drop (Qb b).2:=by
    rw[g];exact Zah _ _ _
   rw[E,l,k,i,take_append_drop]
theorem Znf {t:List Ent} (h:Zbe b=some t):ZyN t=b:=by
 unfold Zbe at h;split at h
 ·cases h
 ·rename_i d
  have f:(Qb b).2≠0:=fun e=>d (.inl e)
  cases hr:J0 (Qb b).1 (b.drop (Qb b).2) with
  | none=>rw[hr] at h;cases h
  | some p=>
   obtain⟨i,x⟩:=p;rw[hr] at h
   cases x with
   | cons c x=>cases h
   | nil=>
    simp only [zb6] at h;subst h;obtain⟨g,a⟩:=ZdV _ _ _ _ hr;rw[append_nil] at a;unfold ZyN;rw[g,<-a,Ja f,take_append_drop]
theorem Zpj {w:List UInt8} (h:(Yw w).2=0):Xt ⟨0,(Yw w).1.st,(Yw w).1.tab⟩=w:=by
 unfold Yw at h ⊢;split at h
 ·exact absurd h (by decide)
 ·rename_i a
  rw[zaa a];have d:(Qb w).2≠0:=fun e=>a (.inl e)
  have g:(Qb w).2+(Qb w).1<=w.length:=by omega
  split at h
  ·exact absurd h (by decide)
  ·rename_i c
   rw[zaa c]
   cases ht:Zbe (w.drop ((Qb w).2+(Qb w).1)) with
   | none=>rw[ht] at h;exact absurd h (by show ¬ ((3:Int)=0);decide)
   | some t=>
    rw[ht] at h;have b:=ZrW h;have f:=Znf ht;show Xt ⟨0,(ZdP ((w.drop (Qb w).2).take (Qb w).1)).1,t⟩=w;unfold Xt;rw[b.2,f,length_take,length_drop,zcy (by omega),Ja d,<-drop_drop,take_append_drop,take_append_drop]
theorem Zpk (h:(Y1 d).2.2.2=0) {w:List UInt8} (b:w.length=(Y1 d).2.1) (a:Q3 0 w=(Y1 d).2.2.1):d=Zbl (Y1 d).1 w∧(Y1 d).1<4611686018427387904:=by
 unfold Y1 at h b a ⊢;split at h
 ·exact absurd h (by decide)
 ·rename_i g
  rw[zaa g] at b a ⊢;simp only at h b a ⊢;split at h
  ·exact absurd h (by decide)
  ·rename_i f
   rw[zaa f] at b a ⊢;split at h
   ·exact absurd h (by decide)
   ·rename_i k
    rw[zaa k] at b a ⊢;split at h
    ·exact absurd h (by decide)
    ·rename_i j
     rw[zaa j] at b a ⊢;simp only at b a ⊢;have B:(Qb (d.drop 1)).2≠0:=fun e=>f (.inl e)
     have x:(Qb (d.drop (1+(Qb (d.drop 1)).2))).2≠0:=fun e=>f (.inr (.inl e))
     have y:(Qb (d.drop (1+(Qb (d.drop 1)).2+(Qb (d.drop (1+(Qb (d.drop 1)).2))).2))).2≠0:=fun e=>f (.inr (.inr e))
     have A:(Qb (d.drop 1)).1=3:=zb7.1 k;have n:(d.drop (1+(Qb (d.drop 1)).2+(Qb (d.drop (1+(Qb (d.drop 1)).2))).2+(Qb (d.drop (1+(Qb (d.drop 1)).2+(Qb (d.drop (1+(Qb (d.drop 1)).2))).2))).2)).length=4:=zb7.1 j;have l:=Ja B;have m:=Ja x;have v:=Ja y;have i:=ZbX (d.drop (1+(Qb (d.drop 1)).2+(Qb (d.drop (1+(Qb (d.drop 1)).2))).2+(Qb (d.drop (1+(Qb (d.drop 1)).2+(Qb (d.drop (1+(Qb (d.drop 1)).2))).2))).2));rw[n] at i
     have C:(Qb (d.drop (1+(Qb (d.drop 1)).2))).1<4611686018427387904:=by
      rcases Xh (d.drop (1+(Qb (d.drop 1)).2)) with e | e
      ·rw[e];decide
      ·exact e.1
     refine⟨?_,C⟩;unfold Zbl
     have t:Lib.uvarint w.length++Lib.leBytes 4 (Q3 0 w)=d.drop (1+(Qb (d.drop 1)).2+(Qb (d.drop (1+(Qb (d.drop 1)).2))).2):=by
      rw[a,i,b,v];exact Zah _ _ _
     have q:Lib.uvarint (Qb (d.drop (1+(Qb (d.drop 1)).2))).1++d.drop (1+(Qb (d.drop 1)).2+(Qb (d.drop (1+(Qb (d.drop 1)).2))).2)=d.drop (1+(Qb (d.drop 1)).2):=by
      rw[m];exact Zah _ _ _
     have u:Lib.uvarint 3++d.drop (1+(Qb (d.drop 1)).2)=d.drop 1:=by
      rw[<-A,l];exact Zah _ _ _
     rw[t,q,u];have p:(d.getD 0 0).toNat=115:=zb7.1 (fun e=>g (.inr e))
     have z:¬ d.length<1:=fun e=>g (.inl e)
     cases d with
     | nil=>exact absurd (by decide) z
     | cons c r=>
      have:c=115:=by
       apply UInt8.toNat_inj.1;simpa using p
      rw[this];rfl
theorem Zsj (h:(ZmW b).2=0):Zs (ZmW b).1∧ZjN (ZmW b).1=b:=by
 unfold ZmW at h ⊢;by_cases a:(Qq b).2.2=0
 case neg=>
  rw[zab a] at h;exact absurd h (by show((Qq b).2.2:Int)≠0;omega)
 rw[zaa (zb7.2 a)] at h ⊢;obtain⟨n,t⟩:=ZfE _ b zL a;generalize (Qq b).1=L at *;unfold Zgp at h ⊢
 cases L with
 | nil=>exact absurd h (by decide)
 | cons d P=>
  simp only at h ⊢;split at h
  ·rename_i e;exact absurd h e
  rename_i f
  rw[zaa f];split at h
  ·exact absurd h (by decide)
  rename_i j
  rw[zaa j];split at h
  ·exact absurd h (by decide)
  rename_i i
  rw[zaa i];split at h
  ·exact absurd h (by decide)
  rename_i c
  rw[zaa c];split at h
  ·rename_i e;exact absurd h e
  rename_i k
  rw[zaa k];split at h
  ·rename_i g
   rw[zab g];have p:=Zpk (zb7.1 f) (zb7.1 j) (zb7.1 c);have m:=Zpj (zb7.1 k);have q:=ZcC P (zb7.1 i);refine⟨g,?_⟩;have l:Xt ⟨((Y1 d).1:Nat),(Yw P.flatten).1.st,(Yw P.flatten).1.tab⟩=P.flatten:=m;unfold ZjN ZaJ;rw[l,q];show Qf (Zbl (((Y1 d).1:Nat):Int).toNat P.flatten::P)=b;rw[zbj,<-p.1];exact n
  ·exact absurd h (by decide)
def Gd:Int->List Pce->Int->Prop
 | i,[],j=>i=j
 | i,p::t,j=>p.first=i∧i<=p.stop∧Gd p.stop t j
theorem Zai:∀ {l:List Pce} {i j:Int},Gd i l j->i<=j
 | [],_,_,h=>Int.le_of_eq h
 | _::_,_,_,h=>by
  have:=Zai h.2.2;have:=h.2.1;omega
theorem ZaY:∀ {l:List Pce} {i j:Int},Gd i l j->∀ p ∈ l,i<=p.first∧p.first<=p.stop∧p.stop<=j
 | q::t,i,j,h,p,hp=>by
  obtain⟨c,b,a⟩:=h;rcases zbd.1 hp with rfl | hp
  ·have:=Zai a
   omega
  ·have:=ZaY a p hp
   omega
theorem Y5:∀ {a b:List Pce} {i j:Int},Gd i (a++b) j↔∃ k,Gd i a k∧Gd k b j
 | [],b,i,j=>by
  constructor
  ·intro h
   exact⟨i,rfl,h⟩
  ·rintro⟨k,h1,h2⟩
   have e:i=k:=h1;rw[e];exact h2
 | p::a,b,i,j=>by
  constructor
  ·rintro⟨h1,h2,h3⟩
   obtain⟨k,c,d⟩:=Y5.1 h3;exact⟨k,⟨h1,h2,c⟩,d⟩
  ·rintro⟨k,⟨h1,h2,c⟩,d⟩
   exact⟨h1,h2,Y5.2 ⟨k,c,d⟩⟩
theorem ZaO (l:List Pce) (p:Pce) (n:Nat):Ze (l++[p]) n=l++[⟨p.name,p.first,p.stop+n⟩]:=by
 unfold Ze;have e:(l++[p]).length-1=l.length:=by simp
 rw[e];have a:(l++[p]).getD l.length Zm=p:=by simp[List.getD]
 rw[a,ze4 _ _ zL];simp
theorem Gf (l:List Pce) (n:Nat):(Ze l n).length=l.length:=by simp[Ze]
theorem ZdW {α:Type} {l:List α} (h:l.length≠0):∃ a x,l=a++[x]:=by
 have b:l≠[]:=fun e=>h (by rw[e];rfl)
 exact⟨l.dropLast,l.getLast b,(List.dropLast_concat_getLast b).symm⟩
theorem Zpl {l:List Pce} (h:Gd i l j) (c:l.length≠0):Gd i (Ze l n) (j+n):=by
 obtain⟨a,p,rfl⟩:=ZdW c;rw[ZaO,Y5];obtain⟨k,f,d,g,b⟩:=Y5.1 h;refine⟨k,f,d,?_,?_⟩
 ·show k<=p.stop+n
  omega
 ·show p.stop+n=j+n
  have e:p.stop=j:=b;rw[e]
theorem Zpm {l:List Pce} (h:Gd i l j) (name:Int):Gd i (l++[⟨name,j,j⟩]) j:=Y5.2 ⟨j,h,rfl,zen _,rfl⟩
theorem Zdz (l:List Pce) (n:Nat):(Ze l n).map Pce.name=l.map Pce.name:=by
 by_cases h:l.length=0
 ·rw[eq_nil_of_length_eq_zero h]
  rfl
 ·obtain⟨a,p,rfl⟩:=ZdW h
  rw[ZaO];simp
theorem ZlE (cur base:Int):∀ (l:List Pce) (i j:Int),Gd i l j->(∀ p ∈ l.dropLast,p.name≠cur)->i<=base->
 (∃ a,a++l.filter (fun p=>!(decide (p.stop<=base) && decide (p.name≠cur)))=l∧(∀ p ∈ a,p.stop<=base∧p.name≠cur))∧Zj (l.filter (fun p=>!(decide (p.stop<=base) && decide (p.name≠cur)))) base<=base
 | [],i,j,_,_,_=>⟨⟨[],rfl,fun p c=>by cases c⟩,zen _⟩
 | p::t,i,j,h,hc,hi=>by
  obtain⟨m,z,f⟩:=h;by_cases b:p.stop<=base∧p.name≠cur
  ·have e:(p::t).filter (fun p=>!(decide (p.stop<=base) && decide (p.name≠cur)))=t.filter (fun p=>!(decide (p.stop<=base) && decide (p.name≠cur))):=by
    rw[zdi,zaa (by simp[b.1,b.2])]
   rw[e]
   obtain⟨⟨a,v,g⟩,w⟩:=ZlE cur base t p.stop j f (fun q hq=>hc q (by
    cases t with
    | nil=>cases hq
    | cons x t=>rw[List.dropLast_cons_cons];exact za6 _ hq)) b.1
   refine⟨⟨p::a,by rw[cons_append,v],fun q hq=>?_⟩,w⟩
   rcases zbd.1 hq with rfl | hq
   ·exact b
   ·exact g q hq
  ·have e:(p::t).filter (fun p=>!(decide (p.stop<=base) && decide (p.name≠cur)))=p::t:=by
    rw[zd9];intro q hq;rcases zbd.1 hq with rfl | hq
    ·simp only [zd7,Bool.and_eq_false_imp,zdp,zdc]
     intro k;exact fun d=>b ⟨k,d⟩
    ·have u:t≠[]:=fun e=>by rw[e] at hq;cases hq
     have c:p.name≠cur:=hc p (by
      cases t with
      | nil=>exact absurd rfl u
      | cons x t=>rw[List.dropLast_cons_cons];exact zbp)
     have d:¬ p.stop<=base:=fun n=>b ⟨n,c⟩
     have A:=ZaY f q hq;simp only [zd7,Bool.and_eq_false_imp,zdp,zdc];intro y;omega
   rw[e];refine⟨⟨[],rfl,(fun q hq=>by cases hq)⟩,?_⟩
   show(if(p::t).length=0 then base else p.first)<=base
   rw[zaa (by simp),m]
   exact hi
structure OkG (b:Lgb):Prop where
 f0:0<=b.first
 fits:∀ r ∈ b.recs,Q1 r
 ch:Gd b.first b.pcs b.next
 rc:Xn b.first b.recs
 top:b.next<=4611686018427387904
theorem G7:∀ {a b:List Rec} {i:Int},Xn i (a++b)↔Xn i a∧Xn (i+a.length) b
 | [],b,i=>by simp[Xn]
 | r::a,b,i=>by
  have e:i+1+(a.length:Int)=i+(((r::a).length:Nat):Int):=by rw[length_cons];omega
  rw[cons_append,<-e];show(r.idx=i∧Xn (i+1) (a++b))↔(r.idx=i∧Xn (i+1) a)∧Xn (i+1+(a.length:Int)) b;rw[G7,and_assoc]
theorem Zia {l:List Rec} (h:Xn i l) (k:Nat) (a:k<=l.length):Xn (i+k) (l.drop k):=by
 rw[<-take_append_drop k l] at h;have:=(G7.1 h).2
 rwa [length_take,zcy a] at this
theorem Zre (i:Int) (b:0<=i) (c:i<=4611686018427387904):OkG ⟨i,[],[]⟩:=by
 have e:(⟨i,[],[]⟩:Lgb).next=i:=by simp[Lgb.next]
 exact⟨b,(fun r a=>by cases a),by rw[e];exact rfl,trivial,by rw[e];exact c⟩
theorem Lgb.start_next (b:Lgb) (n f:Int) (h:b.pcs.length=0->b.recs=[]) (hf:b.pcs.length=0∨f=b.next):(b.start n f).next=f:=by
 unfold Lgb.start Lgb.next;by_cases a:b.pcs.length=0
 ·rw[zab a,h a]
  simp
 ·rw[zaa a]
  rcases hf with hf | hf
  ·exact absurd hf a
  ·rw[hf]
   rfl
theorem OkG.empty {b:Lgb} (h:OkG b) (c:b.pcs.length=0):b.recs=[]:=by
 have a:=h.ch;rw[eq_nil_of_length_eq_zero c] at a;have d:b.first=b.next:=a;unfold Lgb.next at d;exact eq_nil_of_length_eq_zero (by omega)
theorem OkG.start {b:Lgb} (h:OkG b) (n f:Int) (j:0<=f) (d:f<=4611686018427387904) (g:b.pcs.length=0∨f=b.next):OkG (b.start n f):=by
 have a:=b.start_next n f h.empty g;by_cases c:b.pcs.length=0
 ·have e:b.start n f=⟨f,[],[⟨n,f,f⟩]⟩:=by
   unfold Lgb.start;rw[zab c,h.empty c,eq_nil_of_length_eq_zero c];rfl
  rw[e] at a ⊢;exact⟨j,(fun r i=>by cases i),by rw[a];exact⟨rfl,zen _,rfl⟩,trivial,by rw[a];exact d⟩
 ·have k:f=b.next:=g.resolve_left c
  have e:b.start n f=⟨b.first,b.recs,b.pcs++[⟨n,f,f⟩]⟩:=by
   unfold Lgb.start;rw[zaa c]
  rw[e] at a ⊢;refine⟨h.f0,h.fits,?_,h.rc,by rw[a];exact d⟩
  rw[a,k];exact Zpm h.ch n
theorem Lgb.add_next (b:Lgb) (l:List Rec):(b.add l).next=b.next+l.length:=by
 unfold Lgb.add Lgb.next;simp only [length_append];omega
theorem OkG.add {b:Lgb} (h:OkG b) (l:List Rec) (e:b.pcs.length≠0) (c:∀ r ∈ l,Q1 r) (a:Xn b.next l) (d:b.next+l.length<=4611686018427387904):OkG (b.add l):=by
 refine⟨h.f0,fun r hr=>?_,?_,?_,by rw[b.add_next];exact d⟩
 ·rcases za2.1 hr with hr | hr
  ·exact h.fits r hr
  ·exact c r hr
 ·rw[b.add_next]
  exact Zpl h.ch e
 ·exact G7.2 ⟨h.rc,a⟩
theorem Zdi:∀ {l:List Rec} {i:Int},Xn i l->(∀ r ∈ l,Q1 r)->l≠[]->i+l.length<=4611686018427387904
 | [],_,_,_,h=>absurd rfl h
 | [r],i,h,hf,_=>by
  have c:r.idx=i:=h.1;have b:=(hf r zbp).2.2.1;simp only [zcw];omega
 | r::q::t,i,h,hf,_=>by
  have:=Zdi (l:=q::t) h.2 (fun x a=>hf x (za6 _ a)) (by simp)
  simp only [length_cons] at this ⊢;omega
theorem OkG.letGo {b:Lgb} (h:OkG b) {cur base:Int} (v:∀ p ∈ b.pcs.dropLast,p.name≠cur) (z:b.first<=base) (E:base<=b.next):
 OkG (b.letGo (b.pcs.filter fun p=>!(decide (p.stop<=base) && decide (p.name≠cur))) base)∧(b.letGo (b.pcs.filter fun p=>!(decide (p.stop<=base) && decide (p.name≠cur))) base).first<=base∧
  (b.letGo (b.pcs.filter fun p=>!(decide (p.stop<=base) && decide (p.name≠cur))) base).next=b.next∧b.first<=(b.letGo (b.pcs.filter fun p=>!(decide (p.stop<=base) && decide (p.name≠cur))) base).first:=by
 obtain⟨⟨a,l,w⟩,n⟩:=ZlE cur base b.pcs b.first b.next h.ch v z;generalize b.pcs.filter (fun p=>!(decide (p.stop<=base) && decide (p.name≠cur)))=left at l n ⊢
 have u:=h.ch;rw[<-l] at u;obtain⟨k,c,d⟩:=Y5.1 u;have C:=Zai c;have G:=Zai d
 have A:Gd (Zj left base) left b.next∧b.first<=Zj left base∧Zj left base<=b.next:=by
  unfold Zj
  cases left with
  | nil=>
   rw[zab (show([]:List Pce).length=0 from rfl)];have e:k=b.next:=d
   have F:k<=base:=by
    by_cases q:a.length=0
    ·rw[eq_nil_of_length_eq_zero q] at c
     have:b.first=k:=c;omega
    ·obtain⟨a',p,rfl⟩:=ZdW q
     obtain⟨m,_,_,_,x⟩:=Y5.1 c;have D:p.stop=k:=x;have:=(w p (by simp)).1
     omega
   refine⟨?_,by omega,by omega⟩
   show base=b.next;omega
  | cons p t=>
   rw[zaa (by simp)]
   show Gd p.first (p::t) b.next∧b.first<=p.first∧p.first<=b.next;obtain⟨j,i,g⟩:=d;exact⟨⟨rfl,by omega,g⟩,by omega,by omega⟩
 obtain⟨j,i,g⟩:=A;have B:(Zj left base-b.first).toNat<=b.recs.length:=by unfold Lgb.next at g;omega
 have f:(b.letGo left base).next=b.next:=by
  unfold Lgb.letGo Lgb.next;simp only [length_drop];omega
 refine⟨⟨?_,fun r y=>h.fits r (ze8 y),?_,?_,by rw[f];exact h.top⟩,n,f,i⟩
 ·show 0<=Zj left base
  have:=h.f0;omega
 ·rw[f]
  exact j
 ·have:=Zia h.rc (Zj left base-b.first).toNat B
  have e:b.first+(((Zj left base-b.first).toNat:Nat):Int)=Zj left base:=by omega
  rw[e] at this;exact this
end Go.Proofs.YtnahjngbneicaaaGreatDoor
