import Derived.Test.YtnahjngbneicaaaGreatDoorStoreRunQ
namespace Go.Proofs.YtnahjngbneicaaaGreatDoor
open _root_.Go.Proofs.Tryz
open List (flatten_cons length_append length_cons length_take take_append_drop take_succ_cons)
set_option maxRecDepth 100000
variable {all:List Rec} {kind:Int} {i:Nat}
def ZbG (all:List Rec):Prop:=Xl 0 all∧∀ r ∈ all,Qz r
def X7 (kind:Int) (all:List Rec) (j:Nat):Q0:=(Q3 (Zn kind) (all.take j)).1
theorem ZbG.take (h:ZbG all) (j:Nat):Xl 0 (all.take j)∧∀ r ∈ all.take j,Qz r:=by
 have a:=h.1;rw[<-take_append_drop j all] at a;exact⟨(Gx.1 a).1,fun r b=>h.2 r (List.mem_of_mem_take b)⟩
theorem ZbG.taken (h:ZbG all) (kind:Int) (j:Nat):(Q3 (Zn kind) (all.take j)).2=0:=Zeb _ _ (h.take j).1 (h.take j).2
theorem Zox (h:ZbG all) (kind:Int) {j:Nat} (a:j<=all.length):(X7 kind all j).idx=j:=by
 unfold X7;rw[(Zcb _ _ (h.taken kind j)).2,length_take,Nat.min_eq_left a];show(0:Int)+(j:Int)=j;omega
theorem ZkW (h:ZbG all) (kind:Int) {j e:Nat} (d:j<=e):Q3 (X7 kind all j) ((all.take e).drop j)=(X7 kind all e,0):=by
 have a:=ZmI (all.take j) ((all.take e).drop j) (Zn kind)
 have c:all.take j++(all.take e).drop j=all.take e:=by
  have:=take_append_drop j (all.take e);rw[List.take_take,Nat.min_eq_left d] at this;exact this
 rw[c,if_pos (h.taken kind j)] at a;have b:=h.taken kind e;unfold X7;rw[<-a];exact Prod.ext rfl b
theorem ZbG.mid (h:ZbG all) (i e:Nat) (d:i<=e) (c:e<=all.length):Xl i ((all.take e).drop i)∧∀ r ∈ (all.take e).drop i,Qz r:=by
 have a:=ZhN (h.take e).1 i (by rw[length_take];omega)
 rw[Int.zero_add] at a;exact⟨a,fun r b=>(h.take e).2 r (List.mem_of_mem_drop b)⟩
def ZgO (kind:Int) (i:Nat) (B:List (List Rec)):List UInt8:=Qf (Xq 3 kind.toNat i::B.map X9)
theorem Zjq (first:Int):∀ (B:List (List Rec)) (a:List Rec),(∀ l ∈ B,Yc l)->Xl (first+a.length) B.flatten->Ys first (B.map X9) a=a++B.flatten
 | [],a,_,_=>by simp[Ys]
 | l::B,a,hf,hc=>by
  have c:=hf l List.mem_cons_self;rw[flatten_cons] at hc ⊢;obtain⟨b,d⟩:=Gx.1 hc;rw[List.map_cons,ZaC,ZmL c]
  dsimp only
  have f:(l.headD Qi).idx=first+a.length:=by
   match l,c.1,b with
   | r::t,_,b=>exact b.1
  rw[if_pos f,Zjq first B (a++l) (fun q g=>hf q (List.mem_cons_of_mem _ g)) (by
   rw[length_append];have e:first+((a.length+l.length:Nat):Int)=first+a.length+l.length:=by omega
   rw[e]
   exact d),List.append_assoc]
theorem ZtE (c:0<=kind) (b:kind<6) {i:Nat} (a:i<4611686018427387904):ZbB (Xq 3 kind.toNat i) kind=some i:=by
 unfold ZbB;rw[ZfS (by decide) (by decide) (by omega) a]
 dsimp only
 rw[if_pos ⟨rfl,by omega⟩]
theorem Zab:∀ (B:List (List Rec)) (m:Nat),(B.take m).flatten=B.flatten.take (B.take m).flatten.length
 | [],m=>by simp
 | l::B,0=>by simp
 | l::B,m+1=>by
  rw[take_succ_cons,flatten_cons,flatten_cons,length_append,List.take_length_add_append,<-Zab B m]
theorem ZgB:∀ (L:List (List UInt8)) (c:Nat),(Qf (L.take (Zm L c).1)).length<=c∧((Zm L c).1=L.length∨c<(Qf (L.take ((Zm L c).1+1))).length)
 | [],c=>by simp[Zm,Qf]
 | x::L,c=>by
  rw[Zm];split
  ·rename_i h
   have a:=ZgB L (c-(Qd x).length)
   dsimp only
   rw[take_succ_cons,take_succ_cons,Q8,Q8,length_append,length_append,length_cons];omega
  ·rename_i h
   refine⟨by simp[Qf],.inr ?_⟩
   show c<(Qf ((x::L).take 1)).length;rw[take_succ_cons,Q8,length_append];omega
theorem Zzp (A:0<=kind) (E:kind<6) {i:Nat} (g:i<4611686018427387904) {B:List (List Rec)} (w:∀ l ∈ B,Yc l) (n:Xl i B.flatten) {c:Nat} (F:c<=(ZgO kind i B).length):
 (ZoH ((ZgO kind i B).take c) kind=none∧c<(Qd (Xq 3 kind.toNat i)).length)∨∃ m,m<=B.length∧(ZgO kind i (B.take m)).length<=c∧(m=B.length∨c<(ZgO kind i (B.take (m+1))).length)∧ZoH ((ZgO kind i B).take c) kind=some (i,(B.take m).flatten):=by
 have hx:∀ x ∈ Xq 3 kind.toNat i::B.map X9,x.length<=1048576:=fun x hx=>by
  rcases List.mem_cons.1 hx with rfl | hx
  ·have:=ZcP (v:=3) (k:=kind.toNat) (f:=i) (by decide) (by omega) g
   omega
  ·obtain⟨l,a,rfl⟩:=List.mem_map.1 hx
   have:=ZiK (w l a);omega
 have y:=Zfu (Xq 3 kind.toNat i::B.map X9) c hx F;have z:ZoH ((ZgO kind i B).take c) kind=Zqb (Qp ((ZgO kind i B).take c)).1 kind:=Zmh _ _
 have d:(Qp ((ZgO kind i B).take c)).1=(Xq 3 kind.toNat i::B.map X9).take (Zm (Xq 3 kind.toNat i::B.map X9) c).1:=by
  unfold ZgO;rw[y]
 rw[z,d];clear z d y;by_cases u:(Qd (Xq 3 kind.toNat i)).length<=c
 case neg=>
  left;refine⟨?_,by omega⟩
  have e:Zm (Xq 3 kind.toNat i::B.map X9) c=(0,0):=by
   rw[Zm,if_neg u]
  rw[e];rfl
 right;have t:=Zhz (Xq 3 kind.toNat i::B.map X9) c
 obtain⟨m,p⟩:∃ m,(Zm (Xq 3 kind.toNat i::B.map X9) c).1=m+1:=by
  rw[Zm,if_pos u];exact⟨_,rfl⟩
 rw[p] at t ⊢
 have D:m<=B.length:=by
  have:=t.1;simp only [length_cons,List.length_map] at this;omega
 have b:=ZgB (Xq 3 kind.toNat i::B.map X9) c;rw[p] at b
 have j:∀ q,ZgO kind i (B.take q)=Qf ((Xq 3 kind.toNat i::B.map X9).take (q+1)):=fun q=>by
  unfold ZgO;rw[take_succ_cons,List.map_take]
 refine⟨m,D,?_,?_,?_⟩
 ·rw[j]
  exact b.1
 ·rw[j]
  rcases b.2 with h | h
  ·left
   simp only [length_cons,List.length_map] at h;omega
  ·exact .inr h
 ·rw[take_succ_cons,<-List.map_take]
  unfold Zqb
  dsimp only
  rw[ZtE A E g]
  have C:Xl i (B.take m).flatten:=by
   rw[Zab];rw[<-take_append_drop (B.take m).flatten.length B.flatten] at n;exact(Gx.1 n).1
  have:=Zjq i (B.take m) [] (fun l a=>w l (List.mem_of_mem_take a)) (by simpa using C)
  rw[List.nil_append] at this;show some (i,Ys i ((B.take m).map X9) [])=_;rw[this]
structure Zfn (kind:Int) (all:List Rec) (x:Fl) (i e lo:Nat):Prop where
 ie:i<=e
 ea:e<=all.length
 i62:i<4611686018427387904
 bl:∃ B1 B2:List (List Rec),(∀ l ∈ B1++B2,Yc l)∧(B1++B2).flatten=(all.take e).drop i∧x.b=ZgO kind i (B1++B2)∧(lo<=i∨((ZgO kind i B1).length<=x.k∧lo<=i+B1.flatten.length))
theorem Zwn (A B:List (List Rec)):(ZgO kind i A).length<=(ZgO kind i (A++B)).length:=by
 unfold ZgO;rw[List.map_append,Q8,Q8,Zax,length_append,length_append,length_append];omega
theorem Zqw {α:Type} (A B:List α) {m:Nat} (h:m<=A.length):(A++B).take m++A.drop m=A:=by
 rw[List.take_append_of_le_length h,take_append_drop]
theorem Zfn.cut {x:Fl} {e lo:Nat} (h:Zfn kind all x i e lo) (y:ZbG all) (v:0<=kind) (F:kind<6) {c:Nat} (M:x.k<=c) (l:c<=x.b.length):
 (ZoH (x.b.take c) kind=none∧lo<=i)∨∃ g,i<=g∧g<=e∧lo<=g∧ZoH (x.b.take c) kind=some (i,(all.take g).drop i):=by
 obtain⟨a,d,w,j,A,f⟩:=h.bl;have B:=h.ie;have E:=h.ea;rw[A] at l ⊢;have z:Xl i (a++d).flatten:=by rw[j];exact(y.mid i e B E).1
 rcases Zzp v F h.i62 w z l with ⟨H,D⟩ | ⟨m,K,J,hnx,G⟩
 ·left
  refine⟨H,?_⟩;rcases f with f | ⟨f,-⟩
  ·exact f
  ·have:(Qd (Xq 3 kind.toNat i)).length<=(ZgO kind i a).length:=by
    unfold ZgO;rw[Q8,length_append];omega
   omega
 ·right
  have p:(a++d).flatten.length=e-i:=by rw[j,List.length_drop,length_take];omega
  have n:=Zab (a++d) m
  have t:((a++d).take m).flatten.length<=e-i:=by
   rw[<-p];have:=congrArg List.length n;rw[length_take] at this;omega
  refine⟨i+((a++d).take m).flatten.length,by omega,by omega,?_,?_⟩
  ·rcases f with f | ⟨f,L⟩
   ·omega
   ·have C:a.length<=m:=by
     apply Classical.byContradiction;intro D;rcases hnx with hnx | hnx
     ·rw[length_append] at hnx
      omega
     ·have I:(ZgO kind i ((a++d).take (m+1))).length<=(ZgO kind i a).length:=by
       have:=Zwn (kind:=kind) (i:=i) ((a++d).take (m+1)) (a.drop (m+1))
       rwa [Zqw a d (by omega)] at this
      omega
    have u:((a++d).take m)=a++d.take (m-a.length):=by
     rw[List.take_append];rw[List.take_of_length_le C]
    rw[u,List.flatten_append,length_append];omega
  ·rw[G,n,j]
   congr 2
   generalize ((a++d).take m).flatten.length=q at t;rw[length_take,List.length_drop,length_take];rw[List.drop_take,List.drop_take,List.take_take]
   congr 1
   omega
end Go.Proofs.YtnahjngbneicaaaGreatDoor
