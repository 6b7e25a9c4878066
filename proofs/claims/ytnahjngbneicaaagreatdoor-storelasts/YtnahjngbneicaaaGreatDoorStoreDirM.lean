import Derived.Test.YtnahjngbneicaaaGreatDoorStoreFound
namespace Go.Proofs.YtnahjngbneicaaaGreatDoor
open _root_.Go.Proofs.Tryz
open List (append_assoc append_nil length_append mem_cons_self take_length)
set_option maxRecDepth 100000
variable {l:Dir} {kind:Int} {all:List Rec} {x:Fl} {e i lo:Nat}
theorem Zmn:∀ {a b:Dir},Xa a->Xa b->(∀ p,p ∈ a↔p ∈ b)->a=b
 | [],[],_,_,_=>rfl
 | [],y::b,_,_,h=>by have:=(h y).2 mem_cons_self;cases this
 | x::a,[],_,_,h=>by have:=(h x).1 mem_cons_self;cases this
 | x::a,y::b,ha,hb,h=>by
  unfold Xa at ha hb;rw[zb6] at ha hb
  have d:x=y:=by
   rcases za6.1 ((h x).1 mem_cons_self) with e | e
   ·exact e
   ·rcases za6.1 ((h y).2 mem_cons_self) with e' | e'
    ·exact e'.symm
    ·have f:=hb.1 x e
     have g:=ha.1 y e';omega
  subst d
  congr 1
  refine Zmn ha.2 hb.2 fun p=>?_
  constructor
  ·intro c
   rcases za6.1 ((h p).1 (za4 _ c)) with e | e
   ·subst e
    have:=ha.1 p c;omega
   ·exact e
  ·intro c
   rcases za6.1 ((h p).2 (za4 _ c)) with e | e
   ·subst e
    have:=hb.1 p c;omega
   ·exact e
def Zro (n:Int):Bool:=!(decide (n<2) || decide ((n-2) % 2≠0))
def ZtR (n:Int):Bool:=!(decide (n<3) || decide ((n-3) % 2≠0))
theorem Zfh (n:Int):Zro n=true↔2<=n∧n % 2=0:=by
 unfold Zro;simp only [zdw,ze1,zc1];constructor
 ·rintro⟨h1,h2⟩
  omega
 ·rintro⟨h1,h2⟩
  exact⟨by omega,by omega⟩
theorem Zfi (n:Int):ZtR n=true↔3<=n∧n % 2=1:=by
 unfold ZtR;simp only [zdw,ze1,zc1];constructor
 ·rintro⟨h1,h2⟩
  omega
 ·rintro⟨h1,h2⟩
  exact⟨by omega,by omega⟩
theorem Y9 (h:Xa l) (f:Int × Nat->Bool):Xa (l.filter f):=List.Pairwise.sublist zdy h
theorem Jt (h:Xa l) (q:Int->Bool) {n:Int} (a:q n=false) (o:Option Nat):(Yt l n o).filter (fun p=>q p.1)=l.filter (fun p=>q p.1):=by
 refine Zmn (Y9 (Yo h n o) _) (Y9 h _) fun p=>?_
 rw[zax,zax,Zo];constructor
 ·rintro⟨⟨h1,-⟩ | ⟨h1,-⟩,h2⟩
  ·exact⟨h1,h2⟩
  ·rw[h1,a] at h2
   cases h2
 ·rintro⟨h1,h2⟩
  refine⟨.inl ⟨h1,fun e=>?_⟩,h2⟩
  rw[e,a] at h2
  cases h2
theorem ZcX (h:Xa l) (q:Int->Bool) {n:Int} (g:q n=true) (f:Nat) (d:∀ p ∈ l,q p.1=true->p.1<n):(Yt l n (some f)).filter (fun p=>q p.1)=l.filter (fun p=>q p.1)++[(n,f)]:=by
 refine Zmn (Y9 (Yo h n _) _) ?_ fun p=>?_
 ·unfold Xa
  rw[zc2];refine⟨Y9 h _,List.pairwise_singleton _ _,fun a c b e=>?_⟩
  rw[zaq.1 e];exact d a (zax.1 c).1 (zax.1 c).2
 ·rw[zax,zaw,zax,Zo,zaq]
  constructor
  ·rintro⟨⟨h1,-⟩ | ⟨h1,h2⟩,h3⟩
   ·exact .inl ⟨h1,h3⟩
   ·exact .inr (Prod.ext h1 (zak h2).symm)
  ·rintro(⟨h1,h2⟩ | rfl)
   ·exact⟨.inl ⟨h1,by have:=d p h1 h2;omega⟩,h2⟩
   ·exact⟨.inr ⟨rfl,rfl⟩,g⟩
theorem ZtG (h:Xa l) (q:Int->Bool) (n:Int):(Yt l n none).filter (fun p=>q p.1)=(l.filter (fun p=>q p.1)).filter (fun p=>decide (p.1≠n)):=by
 refine Zmn (Y9 (Yo h n _) _) (Y9 (Y9 h _) _) fun p=>?_
 rw[zax,zax,zax,Zo];constructor
 ·rintro⟨⟨h1,h2⟩ | ⟨h1,h2⟩,h3⟩
  ·exact⟨⟨h1,h3⟩,zah h2⟩
  ·cases h2
 ·rintro⟨⟨h1,h2⟩,h3⟩
  exact⟨.inl ⟨h1,zcv h3⟩,h2⟩
theorem Zwq (h:Xa l) {p:Int × Nat} {t:Dir} (e:l=p::t):l.filter (fun q=>decide (q.1≠p.1))=t:=by
 subst e;unfold Xa at h;rw[zb6] at h;rw[zc6,zaa (by simp),zdz]
 intro q a;have:=h.1 q a;exact zah (by omega)
theorem Zfn.less {lo':Nat} (h:Zfn kind all x i e lo) (k:lo'<=lo):Zfn kind all x i e lo':=by
 obtain⟨b,d,f,g,c,a⟩:=h.bl;refine⟨h.ie,h.ea,h.i62,b,d,f,g,c,?_⟩;rcases a with a | ⟨a,j⟩
 ·exact .inl (by omega)
 ·exact .inr ⟨a,by omega⟩
theorem Zfn.allMore (h:Zfn kind all x i e lo) (l:List Rec):Zfn kind (all++l) x i e lo:=by
 obtain⟨a,d,g,j,c,f⟩:=h.bl;have b:=h.ea;refine⟨h.ie,by rw[length_append];omega,h.i62,a,d,g,?_,c,f⟩
 rw[j,zb8 b]
theorem Zfj (kind:Int) (all l:List Rec) {j:Nat} (a:j<=all.length):X7 kind (all++l) j=X7 kind all j:=by
 unfold X7;rw[zb8 a]
theorem Zrp (kind:Int) (i:Nat) (B:List (List Rec)) (l:List Rec):ZgO kind i (B++[l])=ZgO kind i B++Qd (X9 l):=by
 unfold ZgO;rw[zc0,Q8,Q8,Zax,append_assoc]
 congr 2
 simp[Qf]
theorem Zfn.grow {l:List Rec} (h:Zfn kind all x i all.length lo) (m:Yc l):Zfn kind (all++l) ⟨x.b++Qd (X9 l),x.k⟩ i (all++l).length lo:=by
 obtain⟨a,d,g,j,c,e⟩:=h.bl;have f:=h.ie;refine⟨by rw[length_append];omega,zat _,h.i62,a,d++[l],?_,?_,?_,e⟩
 ·intro q hq
  rw[<-append_assoc] at hq;rcases zaw.1 hq with hq | hq
  ·exact g q hq
  ·rw[zaq.1 hq];exact m
 ·rw[<-append_assoc,ze5,j]
  rw[take_length,take_length,zfz f];simp
 ·rw[<-append_assoc,Zrp,c]
theorem Zfn.keep (h:Zfn kind all x i e lo):Zfn kind all ⟨x.b,x.b.length⟩ i e e:=by
 obtain⟨d,g,k,c,a,-⟩:=h.bl;have j:=h.ie;have f:=h.ea;refine⟨j,f,h.i62,d++g,[],by rw[append_nil];exact k,by rw[append_nil];exact c,by rw[append_nil];exact a,.inr ⟨by show _<=x.b.length;rw[a];exact zat _,?_⟩⟩
 rw[c,zce,zbt];omega
theorem ZxY {l:List Rec} (d:Yc l) (b:all.length<4611686018427387904) {lo:Nat} (a:lo<=all.length):Zfn kind (all++l) ⟨Qd (Xq 3 kind.toNat all.length)++Qd (X9 l),0⟩ all.length (all++l).length lo:=by
 refine⟨by rw[length_append];omega,zat _,b,[],[l],?_,?_,?_,.inl a⟩
 ·intro q c
  rw[zaq.1 c];exact d
 ·rw[take_length,ze6]
  simp
 ·show _=ZgO kind all.length ([]++[l])
  rw[Zrp]
  congr 1
  simp[ZgO,Qf]
end Go.Proofs.YtnahjngbneicaaaGreatDoor
