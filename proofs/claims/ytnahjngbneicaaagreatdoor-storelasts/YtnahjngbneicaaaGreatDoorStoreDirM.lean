import Derived.Test.YtnahjngbneicaaaGreatDoorStoreFound
namespace Go.Proofs.YtnahjngbneicaaaGreatDoor
open _root_.Go.Proofs.Tryz
open List (append_assoc append_nil length_append mem_cons_self take_length)
set_option maxRecDepth 100000
variable {l:Dir} {kind:Int} {all:List Rec} {x:Fl} {e i lo:Nat}
theorem Zmn:∀ {a b:Dir},Xa a->Xa b->(∀ p,p ∈ a↔p ∈ b)->a=b
 | [],[],_,_,_=>rfl
 | [],y::b,_,_,h=>by have:=(h y).2 mem_cons_self;cases this
 | x::a,[],_,_,h=>by have:=(h x).1 mem_cons_self;cases this
 | x::a,y::b,ha,hb,h=>by
  unfold Xa at ha hb;rw[List.pairwise_cons] at ha hb
  have d:x=y:=by
   rcases List.mem_cons.1 ((h x).1 mem_cons_self) with e | e
   ·exact e
   ·rcases List.mem_cons.1 ((h y).2 mem_cons_self) with e' | e'
    ·exact e'.symm
    ·have f:=hb.1 x e
     have g:=ha.1 y e';omega
  subst d
  congr 1
  refine Zmn ha.2 hb.2 fun p=>?_
  constructor
  ·intro c
   rcases List.mem_cons.1 ((h p).1 (List.mem_cons_of_mem _ c)) with e | e
   ·subst e
    have:=ha.1 p c;omega
   ·exact e
  ·intro c
   rcases List.mem_cons.1 ((h p).2 (List.mem_cons_of_mem _ c)) with e | e
   ·subst e
    have:=hb.1 p c;omega
   ·exact e
def Zro (n:Int):Bool:=!(decide (n<2) || decide ((n-2) % 2≠0))
def ZtR (n:Int):Bool:=!(decide (n<3) || decide ((n-3) % 2≠0))
theorem Zfh (n:Int):Zro n=true↔2<=n∧n % 2=0:=by
 unfold Zro;simp only [Bool.not_eq_true',Bool.or_eq_false_iff,decide_eq_false_iff_not];constructor
 ·rintro⟨h1,h2⟩
  omega
 ·rintro⟨h1,h2⟩
  exact⟨by omega,by omega⟩
theorem Zfi (n:Int):ZtR n=true↔3<=n∧n % 2=1:=by
 unfold ZtR;simp only [Bool.not_eq_true',Bool.or_eq_false_iff,decide_eq_false_iff_not];constructor
 ·rintro⟨h1,h2⟩
  omega
 ·rintro⟨h1,h2⟩
  exact⟨by omega,by omega⟩
theorem Y9 (h:Xa l) (f:Int × Nat->Bool):Xa (l.filter f):=List.Pairwise.sublist List.filter_sublist h
theorem Jt (h:Xa l) (q:Int->Bool) {n:Int} (a:q n=false) (o:Option Nat):(Yt l n o).filter (fun p=>q p.1)=l.filter (fun p=>q p.1):=by
 refine Zmn (Y9 (Yo h n o) _) (Y9 h _) fun p=>?_
 rw[List.mem_filter,List.mem_filter,Zo];constructor
 ·rintro⟨⟨h1,-⟩ | ⟨h1,-⟩,h2⟩
  ·exact⟨h1,h2⟩
  ·rw[h1,a] at h2
   cases h2
 ·rintro⟨h1,h2⟩
  refine⟨.inl ⟨h1,fun e=>?_⟩,h2⟩
  rw[e,a] at h2
  cases h2
theorem ZcX (h:Xa l) (q:Int->Bool) {n:Int} (g:q n=true) (f:Nat) (c:∀ p ∈ l,q p.1=true->p.1<n):(Yt l n (some f)).filter (fun p=>q p.1)=l.filter (fun p=>q p.1)++[(n,f)]:=by
 refine Zmn (Y9 (Yo h n _) _) ?_ fun p=>?_
 ·unfold Xa
  rw[List.pairwise_append];refine⟨Y9 h _,List.pairwise_singleton _ _,fun a d b e=>?_⟩
  rw[List.mem_singleton.1 e];exact c a (List.mem_filter.1 d).1 (List.mem_filter.1 d).2
 ·rw[List.mem_filter,List.mem_append,List.mem_filter,Zo,List.mem_singleton]
  constructor
  ·rintro⟨⟨h1,-⟩ | ⟨h1,h2⟩,h3⟩
   ·exact .inl ⟨h1,h3⟩
   ·exact .inr (Prod.ext h1 (Option.some.inj h2).symm)
  ·rintro(⟨h1,h2⟩ | rfl)
   ·exact⟨.inl ⟨h1,by have:=c p h1 h2;omega⟩,h2⟩
   ·exact⟨.inr ⟨rfl,rfl⟩,g⟩
theorem ZtG (h:Xa l) (q:Int->Bool) (n:Int):(Yt l n none).filter (fun p=>q p.1)=(l.filter (fun p=>q p.1)).filter (fun p=>decide (p.1≠n)):=by
 refine Zmn (Y9 (Yo h n _) _) (Y9 (Y9 h _) _) fun p=>?_
 rw[List.mem_filter,List.mem_filter,List.mem_filter,Zo];constructor
 ·rintro⟨⟨h1,h2⟩ | ⟨h1,h2⟩,h3⟩
  ·exact⟨⟨h1,h3⟩,decide_eq_true h2⟩
  ·cases h2
 ·rintro⟨⟨h1,h2⟩,h3⟩
  exact⟨.inl ⟨h1,of_decide_eq_true h3⟩,h2⟩
theorem Zwq (h:Xa l) {p:Int × Nat} {t:Dir} (e:l=p::t):l.filter (fun q=>decide (q.1≠p.1))=t:=by
 subst e;unfold Xa at h;rw[List.pairwise_cons] at h;rw[List.filter_cons,if_neg (by simp),List.filter_eq_self]
 intro q a;have:=h.1 q a;exact decide_eq_true (by omega)
theorem Zfn.less {lo':Nat} (h:Zfn kind all x i e lo) (j:lo'<=lo):Zfn kind all x i e lo':=by
 obtain⟨g,b,c,d,f,a⟩:=h.bl;refine⟨h.ie,h.ea,h.i62,g,b,c,d,f,?_⟩;rcases a with a | ⟨a,k⟩
 ·exact .inl (by omega)
 ·exact .inr ⟨a,by omega⟩
theorem Zfn.allMore (h:Zfn kind all x i e lo) (l:List Rec):Zfn kind (all++l) x i e lo:=by
 obtain⟨j,c,d,f,g,b⟩:=h.bl;have a:=h.ea;refine⟨h.ie,by rw[length_append];omega,h.i62,j,c,d,?_,g,b⟩
 rw[f,List.take_append_of_le_length a]
theorem Zfj (kind:Int) (all l:List Rec) {j:Nat} (a:j<=all.length):X7 kind (all++l) j=X7 kind all j:=by
 unfold X7;rw[List.take_append_of_le_length a]
theorem Zrp (kind:Int) (i:Nat) (B:List (List Rec)) (l:List Rec):ZgO kind i (B++[l])=ZgO kind i B++Qd (X9 l):=by
 unfold ZgO;rw[List.map_append,Q8,Q8,Zax,append_assoc]
 congr 2
 simp[Qf]
theorem Zfn.grow {l:List Rec} (h:Zfn kind all x i all.length lo) (e:Yc l):Zfn kind (all++l) ⟨x.b++Qd (X9 l),x.k⟩ i (all++l).length lo:=by
 obtain⟨g,c,d,f,m,a⟩:=h.bl;have j:=h.ie;refine⟨by rw[length_append];omega,Nat.le_refl _,h.i62,g,c++[l],?_,?_,?_,a⟩
 ·intro q hq
  rw[<-append_assoc] at hq;rcases List.mem_append.1 hq with hq | hq
  ·exact d q hq
  ·rw[List.mem_singleton.1 hq];exact e
 ·rw[<-append_assoc,List.flatten_append,f]
  rw[take_length,take_length,List.drop_append_of_le_length j];simp
 ·rw[<-append_assoc,Zrp,m]
theorem Zfn.keep (h:Zfn kind all x i e lo):Zfn kind all ⟨x.b,x.b.length⟩ i e e:=by
 obtain⟨j,f,g,a,c,-⟩:=h.bl;have k:=h.ie;have d:=h.ea;refine⟨k,d,h.i62,j++f,[],by rw[append_nil];exact g,by rw[append_nil];exact a,by rw[append_nil];exact c,.inr ⟨by show _<=x.b.length;rw[c];exact Nat.le_refl _,?_⟩⟩
 rw[a,List.length_drop,List.length_take];omega
theorem ZxY {l:List Rec} (a:Yc l) (c:all.length<4611686018427387904) {lo:Nat} (b:lo<=all.length):Zfn kind (all++l) ⟨Qd (Xq 3 kind.toNat all.length)++Qd (X9 l),0⟩ all.length (all++l).length lo:=by
 refine⟨by rw[length_append];omega,Nat.le_refl _,c,[],[l],?_,?_,?_,.inl b⟩
 ·intro q d
  rw[List.mem_singleton.1 d];exact a
 ·rw[take_length,List.nil_append]
  simp
 ·show _=ZgO kind all.length ([]++[l])
  rw[Zrp]
  congr 1
  simp[ZgO,Qf]
end Go.Proofs.YtnahjngbneicaaaGreatDoor
