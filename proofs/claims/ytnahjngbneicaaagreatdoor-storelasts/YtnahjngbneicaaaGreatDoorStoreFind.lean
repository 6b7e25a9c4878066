import Derived.Test.YtnahjngbneicaaaGreatDoorStoreRunQ
namespace Go.Proofs.YtnahjngbneicaaaGreatDoor
open _root_.Go.Proofs.Tryz
open List (flatten_cons length_append length_cons length_take take_append_drop take_succ_cons)
set_option maxRecDepth 100000
variable {all:List Rec} {kind:Int} {i:Nat}
def ZbG (all:List Rec):Prop:=Xl 0 all∧∀ r ∈ all,Qz r
def X7 (kind:Int) (all:List Rec) (j:Nat):Q0:=(Q3 (Zn kind) (all.take j)).1
theorem ZbG.take (h:ZbG all) (j:Nat):Xl 0 (all.take j)∧∀ r ∈ all.take j,Qz r:=by
 have a:=h.1;rw[<-take_append_drop j all] at a;exact⟨(Gx.1 a).1,fun r b=>h.2 r (zbq b)⟩
theorem ZbG.taken (h:ZbG all) (kind:Int) (j:Nat):(Q3 (Zn kind) (all.take j)).2=0:=Zeb _ _ (h.take j).1 (h.take j).2
theorem Zox (h:ZbG all) (kind:Int) {j:Nat} (a:j<=all.length):(X7 kind all j).idx=j:=by
 unfold X7;rw[(Zcb _ _ (h.taken kind j)).2,length_take,zcp a];show(0:Int)+(j:Int)=j;omega
theorem ZkW (h:ZbG all) (kind:Int) {j e:Nat} (c:j<=e):Q3 (X7 kind all j) ((all.take e).drop j)=(X7 kind all e,0):=by
 have a:=ZmI (all.take j) ((all.take e).drop j) (Zn kind)
 have b:all.take j++(all.take e).drop j=all.take e:=by
  have:=take_append_drop j (all.take e);rw[zfc,zcp c] at this;exact this
 rw[b,zab (h.taken kind j)] at a;have d:=h.taken kind e;unfold X7;rw[<-a];exact Prod.ext rfl d
theorem ZbG.mid (h:ZbG all) (i e:Nat) (d:i<=e) (c:e<=all.length):Xl i ((all.take e).drop i)∧∀ r ∈ (all.take e).drop i,Qz r:=by
 have a:=ZhN (h.take e).1 i (by rw[length_take];omega)
 rw[Int.zero_add] at a;exact⟨a,fun r b=>(h.take e).2 r (zex b)⟩
def ZgO (kind:Int) (i:Nat) (B:List (List Rec)):List UInt8:=Qf (Xq 3 kind.toNat i::B.map X9)
theorem Zjq (first:Int):∀ (B:List (List Rec)) (a:List Rec),(∀ l ∈ B,Yc l)->Xl (first+a.length) B.flatten->Ys first (B.map X9) a=a++B.flatten
 | [],a,_,_=>by simp[Ys]
 | l::B,a,hf,hc=>by
  have c:=hf l zbi;rw[flatten_cons] at hc ⊢;obtain⟨b,g⟩:=Gx.1 hc;rw[zd9,ZaC,ZmL c]
  dsimp only
  have f:(l.headD Qi).idx=first+a.length:=by
   match l,c.1,b with
   | r::t,_,b=>exact b.1
  rw[zab f,Zjq first B (a++l) (fun q d=>hf q (za4 _ d)) (by
   rw[length_append];have e:first+((a.length+l.length:Nat):Int)=first+a.length+l.length:=by omega
   rw[e]
   exact g),zcn]
theorem ZtE (b:0<=kind) (c:kind<6) {i:Nat} (a:i<4611686018427387904):ZbB (Xq 3 kind.toNat i) kind=some i:=by
 unfold ZbB;rw[ZfS (by decide) (by decide) (by omega) a]
 dsimp only
 rw[zab ⟨rfl,by omega⟩]
theorem Zab:∀ (B:List (List Rec)) (m:Nat),(B.take m).flatten=B.flatten.take (B.take m).flatten.length
 | [],m=>by simp
 | l::B,0=>by simp
 | l::B,m+1=>by
  rw[take_succ_cons,flatten_cons,flatten_cons,length_append,List.take_length_add_append,<-Zab B m]
theorem ZgB:∀ (L:List (List UInt8)) (c:Nat),(Qf (L.take (Zm L c).1)).length<=c∧((Zm L c).1=L.length∨c<(Qf (L.take ((Zm L c).1+1))).length)
 | [],c=>by simp[Zm,Qf]
 | x::L,c=>by
  rw[Zm];split
  ·rename_i h
   have a:=ZgB L (c-(Qd x).length)
   dsimp only
   rw[take_succ_cons,take_succ_cons,Q8,Q8,length_append,length_append,length_cons];omega
  ·rename_i h
   refine⟨by simp[Qf],.inr ?_⟩
   show c<(Qf ((x::L).take 1)).length;rw[take_succ_cons,Q8,length_append];omega
theorem Zzp (C:0<=kind) (E:kind<6) {i:Nat} (n:i<4611686018427387904) {B:List (List Rec)} (d:∀ l ∈ B,Yc l) (t:Xl i B.flatten) {c:Nat} (D:c<=(ZgO kind i B).length):
 (ZoH ((ZgO kind i B).take c) kind=none∧c<(Qd (Xq 3 kind.toNat i)).length)∨∃ m,m<=B.length∧(ZgO kind i (B.take m)).length<=c∧(m=B.length∨c<(ZgO kind i (B.take (m+1))).length)∧ZoH ((ZgO kind i B).take c) kind=some (i,(B.take m).flatten):=by
 have hx:∀ x ∈ Xq 3 kind.toNat i::B.map X9,x.length<=1048576:=fun x hx=>by
  rcases za6.1 hx with rfl | hx
  ·have:=ZcP (v:=3) (k:=kind.toNat) (f:=i) (by decide) (by omega) n
   omega
  ·obtain⟨l,b,rfl⟩:=zbd.1 hx
   have:=ZiK (d l b);omega
 have p:=Zfu (Xq 3 kind.toNat i::B.map X9) c hx D;have u:ZoH ((ZgO kind i B).take c) kind=Zqb (Qp ((ZgO kind i B).take c)).1 kind:=Zmh _ _
 have w:(Qp ((ZgO kind i B).take c)).1=(Xq 3 kind.toNat i::B.map X9).take (Zm (Xq 3 kind.toNat i::B.map X9) c).1:=by
  unfold ZgO;rw[p]
 rw[u,w];clear u w p;by_cases j:(Qd (Xq 3 kind.toNat i)).length<=c
 case neg=>
  left;refine⟨?_,by omega⟩
  have e:Zm (Xq 3 kind.toNat i::B.map X9) c=(0,0):=by
   rw[Zm,zaa j]
  rw[e];rfl
 right;have z:=Zhz (Xq 3 kind.toNat i::B.map X9) c
 obtain⟨m,y⟩:∃ m,(Zm (Xq 3 kind.toNat i::B.map X9) c).1=m+1:=by
  rw[Zm,zab j];exact⟨_,rfl⟩
 rw[y] at z ⊢
 have F:m<=B.length:=by
  have:=z.1;simp only [length_cons,zcz] at this;omega
 have a:=ZgB (Xq 3 kind.toNat i::B.map X9) c;rw[y] at a
 have g:∀ q,ZgO kind i (B.take q)=Qf ((Xq 3 kind.toNat i::B.map X9).take (q+1)):=fun q=>by
  unfold ZgO;rw[take_succ_cons,zgd]
 refine⟨m,F,?_,?_,?_⟩
 ·rw[g]
  exact a.1
 ·rw[g]
  rcases a.2 with h | h
  ·left
   simp only [length_cons,zcz] at h;omega
  ·exact .inr h
 ·rw[take_succ_cons,<-zgd]
  unfold Zqb
  dsimp only
  rw[ZtE C E n]
  have A:Xl i (B.take m).flatten:=by
   rw[Zab];rw[<-take_append_drop (B.take m).flatten.length B.flatten] at t;exact(Gx.1 t).1
  have:=Zjq i (B.take m) [] (fun l b=>d l (zbq b)) (by simpa using A)
  rw[ze6] at this;show some (i,Ys i ((B.take m).map X9) [])=_;rw[this]
structure Zfn (kind:Int) (all:List Rec) (x:Fl) (i e lo:Nat):Prop where
 ie:i<=e
 ea:e<=all.length
 i62:i<4611686018427387904
 bl:∃ B1 B2:List (List Rec),(∀ l ∈ B1++B2,Yc l)∧(B1++B2).flatten=(all.take e).drop i∧x.b=ZgO kind i (B1++B2)∧(lo<=i∨((ZgO kind i B1).length<=x.k∧lo<=i+B1.flatten.length))
theorem Zwn (A B:List (List Rec)):(ZgO kind i A).length<=(ZgO kind i (A++B)).length:=by
 unfold ZgO;rw[zc0,Q8,Q8,Zax,length_append,length_append,length_append];omega
theorem Zqw {α:Type} (A B:List α) {m:Nat} (h:m<=A.length):(A++B).take m++A.drop m=A:=by
 rw[zb8 h,take_append_drop]
theorem Zfn.cut {x:Fl} {e lo:Nat} (h:Zfn kind all x i e lo) (B:ZbG all) (t:0<=kind) (H:kind<6) {c:Nat} (I:x.k<=c) (l:c<=x.b.length):
 (ZoH (x.b.take c) kind=none∧lo<=i)∨∃ g,i<=g∧g<=e∧lo<=g∧ZoH (x.b.take c) kind=some (i,(all.take g).drop i):=by
 obtain⟨a,d,z,j,A,f⟩:=h.bl;have u:=h.ie;have D:=h.ea;rw[A] at l ⊢;have y:Xl i (a++d).flatten:=by rw[j];exact(B.mid i e u D).1
 rcases Zzp t H h.i62 z y l with ⟨w,v⟩ | ⟨m,M,J,hnx,E⟩
 ·left
  refine⟨w,?_⟩;rcases f with f | ⟨f,-⟩
  ·exact f
  ·have:(Qd (Xq 3 kind.toNat i)).length<=(ZgO kind i a).length:=by
    unfold ZgO;rw[Q8,length_append];omega
   omega
 ·right
  have C:(a++d).flatten.length=e-i:=by rw[j,zce,length_take];omega
  have n:=Zab (a++d) m
  have G:((a++d).take m).flatten.length<=e-i:=by
   rw[<-C];have:=congrArg List.length n;rw[length_take] at this;omega
  refine⟨i+((a++d).take m).flatten.length,by omega,by omega,?_,?_⟩
  ·rcases f with f | ⟨f,L⟩
   ·omega
   ·have F:a.length<=m:=by
     apply zc4;intro v;rcases hnx with hnx | hnx
     ·rw[length_append] at hnx
      omega
     ·have K:(ZgO kind i ((a++d).take (m+1))).length<=(ZgO kind i a).length:=by
       have:=Zwn (kind:=kind) (i:=i) ((a++d).take (m+1)) (a.drop (m+1))
       rwa [Zqw a d (by omega)] at this
      omega
    have p:((a++d).take m)=a++d.take (m-a.length):=by
     rw[zfo];rw[zbc F]
    rw[p,ze5,length_append];omega
  ·rw[E,n,j]
   congr 2
   generalize ((a++d).take m).flatten.length=q at G;rw[length_take,zce,length_take];rw[zfe,zfe,zfc]
   congr 1
   omega
end Go.Proofs.YtnahjngbneicaaaGreatDoor
