import Derived.Test.YtnahjngbneicaaaGreatDoorStoreRunQ
namespace Go.Proofs.YtnahjngbneicaaaGreatDoor
set_option linter.unusedSimpArgs false
open _root_.Go.Proofs.Tryz
open List (flatten_cons length_append length_cons length_take take_append_drop take_succ_cons)
set_option maxRecDepth 100000
variable {all:List Rec} {kind:Int} {i:Nat}
def ZbG (all:List Rec):Prop:=Xn 0 all∧∀ r ∈ all,Q1 r
def Xv (kind:Int) (all:List Rec) (j:Nat):Q0:=(Q4 (Jd kind) (all.take j)).1
theorem ZbG.take (h:ZbG all) (j:Nat):Xn 0 (all.take j)∧∀ r ∈ all.take j,Q1 r:=by
 have a:=h.1;rw[<-take_append_drop j all] at a;exact⟨(G7.1 a).1,fun r b=>h.2 r (zbz b)⟩
theorem ZbG.taken (h:ZbG all) (kind:Int) (j:Nat):(Q4 (Jd kind) (all.take j)).2=0:=Zek _ _ (h.take j).1 (h.take j).2
theorem Zfo (h:ZbG all) (kind:Int) {j:Nat} (a:j<=all.length):(Xv kind all j).idx=j:=by
 unfold Xv;rw[(Zca _ _ (h.taken kind j)).2,length_take,zcy a];show(0:Int)+(j:Int)=j;omega
theorem Zll (h:ZbG all) (kind:Int) {j e:Nat} (b:j<=e):Q4 (Xv kind all j) ((all.take e).drop j)=(Xv kind all e,0):=by
 have a:=ZmZ (all.take j) ((all.take e).drop j) (Jd kind)
 have c:all.take j++(all.take e).drop j=all.take e:=by
  have:=take_append_drop j (all.take e);rw[zfl,zcy b] at this;exact this
 rw[c,zab (h.taken kind j)] at a;have d:=h.taken kind e;unfold Xv;rw[<-a];exact Prod.ext rfl d
theorem ZbG.mid (h:ZbG all) (i e:Nat) (c:i<=e) (d:e<=all.length):Xn i ((all.take e).drop i)∧∀ r ∈ (all.take e).drop i,Q1 r:=by
 have a:=Zia (h.take e).1 i (by rw[length_take];omega)
 rw[Int.zero_add] at a;exact⟨a,fun r b=>(h.take e).2 r (ze8 b)⟩
def Zhd (kind:Int) (i:Nat) (B:List (List Rec)):List UInt8:=Qf (Xq 3 kind.toNat i::B.map Yc)
theorem Zjz (first:Int):∀ (B:List (List Rec)) (a:List Rec),(∀ l ∈ B,Yg l)->Xn (first+a.length) B.flatten->Yu first (B.map Yc) a=a++B.flatten
 | [],a,_,_=>by simp[Yu]
 | l::B,a,hf,hc=>by
  have c:=hf l zbp;rw[flatten_cons] at hc ⊢;obtain⟨b,g⟩:=G7.1 hc;rw[zei,ZaD,Znc c]
  dsimp only
  have d:(l.headD Qj).idx=first+a.length:=by
   match l,c.1,b with
   | r::t,_,b=>exact b.1
  rw[zab d,Zjz first B (a++l) (fun q f=>hf q (za6 _ f)) (by
   rw[length_append];have e:first+((a.length+l.length:Nat):Int)=first+a.length+l.length:=by omega
   rw[e]
   exact g),zcr]
theorem ZtV (b:0<=kind) (c:kind<6) {i:Nat} (a:i<4611686018427387904):Zbz (Xq 3 kind.toNat i) kind=some i:=by
 unfold Zbz;rw[Zgb (by decide) (by decide) (by omega) a]
 dsimp only
 rw[zab ⟨rfl,by omega⟩]
theorem Zab:∀ (B:List (List Rec)) (m:Nat),(B.take m).flatten=B.flatten.take (B.take m).flatten.length
 | [],m=>by simp
 | l::B,0=>by simp
 | l::B,m+1=>by
  rw[take_succ_cons,flatten_cons,flatten_cons,length_append,List.take_length_add_append,<-Zab B m]
theorem ZgK:∀ (L:List (List UInt8)) (c:Nat),(Qf (L.take (Zr L c).1)).length<=c∧((Zr L c).1=L.length∨c<(Qf (L.take ((Zr L c).1+1))).length)
 | [],c=>by simp[Zr,Qf]
 | x::L,c=>by
  rw[Zr];split
  ·rename_i h
   have a:=ZgK L (c-(Qd x).length)
   dsimp only
   rw[take_succ_cons,take_succ_cons,Q9,Q9,length_append,length_append,length_cons];omega
  ·rename_i h
   refine⟨by simp[Qf],.inr ?_⟩
   show c<(Qf ((x::L).take 1)).length;rw[take_succ_cons,Q9,length_append];omega
theorem ZzS (E:0<=kind) (C:kind<6) {i:Nat} (p:i<4611686018427387904) {B:List (List Rec)} (w:∀ l ∈ B,Yg l) (g:Xn i B.flatten) {c:Nat} (F:c<=(Zhd kind i B).length):
 (ZoZ ((Zhd kind i B).take c) kind=none∧c<(Qd (Xq 3 kind.toNat i)).length)∨∃ m,m<=B.length∧(Zhd kind i (B.take m)).length<=c∧(m=B.length∨c<(Zhd kind i (B.take (m+1))).length)∧ZoZ ((Zhd kind i B).take c) kind=some (i,(B.take m).flatten):=by
 have hx:∀ x ∈ Xq 3 kind.toNat i::B.map Yc,x.length<=1048576:=fun x hx=>by
  rcases zbd.1 hx with rfl | hx
  ·have:=ZcO (v:=3) (k:=kind.toNat) (f:=i) (by decide) (by omega) p
   omega
  ·obtain⟨l,b,rfl⟩:=zbm.1 hx
   have:=ZiX (w l b);omega
 have n:=ZfD (Xq 3 kind.toNat i::B.map Yc) c hx F;have d:ZoZ ((Zhd kind i B).take c) kind=Zqs (Qq ((Zhd kind i B).take c)).1 kind:=Zmz _ _
 have j:(Qq ((Zhd kind i B).take c)).1=(Xq 3 kind.toNat i::B.map Yc).take (Zr (Xq 3 kind.toNat i::B.map Yc) c).1:=by
  unfold Zhd;rw[n]
 rw[d,j];clear d j n;by_cases z:(Qd (Xq 3 kind.toNat i)).length<=c
 case neg=>
  left;refine⟨?_,by omega⟩
  have e:Zr (Xq 3 kind.toNat i::B.map Yc) c=(0,0):=by
   rw[Zr,zaa z]
  rw[e];rfl
 right;have t:=ZhP (Xq 3 kind.toNat i::B.map Yc) c
 obtain⟨m,y⟩:∃ m,(Zr (Xq 3 kind.toNat i::B.map Yc) c).1=m+1:=by
  rw[Zr,zab z];exact⟨_,rfl⟩
 rw[y] at t ⊢
 have D:m<=B.length:=by
  have:=t.1;simp only [length_cons,zda] at this;omega
 have a:=ZgK (Xq 3 kind.toNat i::B.map Yc) c;rw[y] at a
 have u:∀ q,Zhd kind i (B.take q)=Qf ((Xq 3 kind.toNat i::B.map Yc).take (q+1)):=fun q=>by
  unfold Zhd;rw[take_succ_cons,zgo]
 refine⟨m,D,?_,?_,?_⟩
 ·rw[u]
  exact a.1
 ·rw[u]
  rcases a.2 with h | h
  ·left
   simp only [length_cons,zda] at h;omega
  ·exact .inr h
 ·rw[take_succ_cons,<-zgo]
  unfold Zqs
  dsimp only
  rw[ZtV E C p]
  have A:Xn i (B.take m).flatten:=by
   rw[Zab];rw[<-take_append_drop (B.take m).flatten.length B.flatten] at g;exact(G7.1 g).1
  have:=Zjz i (B.take m) [] (fun l b=>w l (zbz b)) (by simpa using A)
  rw[zev] at this;show some (i,Yu i ((B.take m).map Yc) [])=_;rw[this]
structure Zfv (kind:Int) (all:List Rec) (x:Fl) (i e lo:Nat):Prop where
 ie:i<=e
 ea:e<=all.length
 i62:i<4611686018427387904
 bl:∃ B1 B2:List (List Rec),(∀ l ∈ B1++B2,Yg l)∧(B1++B2).flatten=(all.take e).drop i∧x.b=Zhd kind i (B1++B2)∧(lo<=i∨((Zhd kind i B1).length<=x.k∧lo<=i+B1.flatten.length))
theorem ZwB (A B:List (List Rec)):(Zhd kind i A).length<=(Zhd kind i (A++B)).length:=by
 unfold Zhd;rw[zc1,Q9,Q9,Zay,length_append,length_append,length_append];omega
theorem ZqG {α:Type} (A B:List α) {m:Nat} (h:m<=A.length):(A++B).take m++A.drop m=A:=by
 rw[zce h,take_append_drop]
theorem Zfv.cut {x:Fl} {e lo:Nat} (h:Zfv kind all x i e lo) (C:ZbG all) (G:0<=kind) (z:kind<6) {c:Nat} (J:x.k<=c) (l:c<=x.b.length):
 (ZoZ (x.b.take c) kind=none∧lo<=i)∨∃ g,i<=g∧g<=e∧lo<=g∧ZoZ (x.b.take c) kind=some (i,(all.take g).drop i):=by
 obtain⟨a,d,F,j,D,f⟩:=h.bl;have y:=h.ie;have B:=h.ea;rw[D] at l ⊢;have H:Xn i (a++d).flatten:=by rw[j];exact(C.mid i e y B).1
 rcases ZzS G z h.i62 F H l with ⟨v,E⟩ | ⟨m,L,K,hnx,p⟩
 ·left
  refine⟨v,?_⟩;rcases f with f | ⟨f,-⟩
  ·exact f
  ·have:(Qd (Xq 3 kind.toNat i)).length<=(Zhd kind i a).length:=by
    unfold Zhd;rw[Q9,length_append];omega
   omega
 ·right
  have w:(a++d).flatten.length=e-i:=by rw[j,zci,length_take];omega
  have n:=Zab (a++d) m
  have u:((a++d).take m).flatten.length<=e-i:=by
   rw[<-w];have:=congrArg List.length n;rw[length_take] at this;omega
  refine⟨i+((a++d).take m).flatten.length,by omega,by omega,?_,?_⟩
  ·rcases f with f | ⟨f,I⟩
   ·omega
   ·have t:a.length<=m:=by
     apply zca;intro E;rcases hnx with hnx | hnx
     ·rw[length_append] at hnx
      omega
     ·have M:(Zhd kind i ((a++d).take (m+1))).length<=(Zhd kind i a).length:=by
       have:=ZwB (kind:=kind) (i:=i) ((a++d).take (m+1)) (a.drop (m+1))
       rwa [ZqG a d (by omega)] at this
      omega
    have A:((a++d).take m)=a++d.take (m-a.length):=by
     rw[zfy];rw[zbl t]
    rw[A,zfe,length_append];omega
  ·rw[p,n,j]
   congr 2
   generalize ((a++d).take m).flatten.length=q at u;rw[length_take,zci,length_take];rw[zfo,zfo,zfl]
   congr 1
   omega
end Go.Proofs.YtnahjngbneicaaaGreatDoor
