import Derived.Test.YtnahjngbneicaaaGreatDoorStoreFound
namespace Go.Proofs.YtnahjngbneicaaaGreatDoor
set_option linter.unusedSimpArgs false
open _root_.Go.Proofs.Tryz
open List (append_assoc append_nil length_append mem_cons_self take_length)
set_option maxRecDepth 100000
variable {l:Dir} {kind:Int} {all:List Rec} {x:Fl} {e i lo:Nat}
theorem ZmE:∀ {a b:Dir},Xb a->Xb b->(∀ p,p ∈ a↔p ∈ b)->a=b
 | [],[],_,_,_=>rfl
 | [],y::b,_,_,h=>by have:=(h y).2 mem_cons_self;cases this
 | x::a,[],_,_,h=>by have:=(h x).1 mem_cons_self;cases this
 | x::a,y::b,ha,hb,h=>by
  unfold Xb at ha hb;rw[zcd] at ha hb
  have d:x=y:=by
   rcases zbd.1 ((h x).1 mem_cons_self) with e | e
   ·exact e
   ·rcases zbd.1 ((h y).2 mem_cons_self) with e' | e'
    ·exact e'.symm
    ·have g:=hb.1 x e
     have f:=ha.1 y e';omega
  subst d
  congr 1
  refine ZmE ha.2 hb.2 fun p=>?_
  constructor
  ·intro c
   rcases zbd.1 ((h p).1 (za6 _ c)) with e | e
   ·subst e
    have:=ha.1 p c;omega
   ·exact e
  ·intro c
   rcases zbd.1 ((h p).2 (za6 _ c)) with e | e
   ·subst e
    have:=hb.1 p c;omega
   ·exact e
def ZrE (n:Int):Bool:=!(decide (n<2) || decide ((n-2) % 2≠0))
def Zul (n:Int):Bool:=!(decide (n<3) || decide ((n-3) % 2≠0))
theorem Zfp (n:Int):ZrE n=true↔2<=n∧n % 2=0:=by
 unfold ZrE;simp only [zd7,zfa,zdc];constructor
 ·rintro⟨h1,h2⟩
  omega
 ·rintro⟨h1,h2⟩
  exact⟨by omega,by omega⟩
theorem Zfq (n:Int):Zul n=true↔3<=n∧n % 2=1:=by
 unfold Zul;simp only [zd7,zfa,zdc];constructor
 ·rintro⟨h1,h2⟩
  omega
 ·rintro⟨h1,h2⟩
  exact⟨by omega,by omega⟩
theorem Zc (h:Xb l) (f:Int × Nat->Bool):Xb (l.filter f):=List.Pairwise.sublist zd8 h
theorem Jw (h:Xb l) (q:Int->Bool) {n:Int} (a:q n=false) (o:Option Nat):(Yv l n o).filter (fun p=>q p.1)=l.filter (fun p=>q p.1):=by
 refine ZmE (Zc (Yq h n o) _) (Zc h _) fun p=>?_
 rw[za3,za3,Zt];constructor
 ·rintro⟨⟨h1,-⟩ | ⟨h1,-⟩,h2⟩
  ·exact⟨h1,h2⟩
  ·rw[h1,a] at h2
   cases h2
 ·rintro⟨h1,h2⟩
  refine⟨.inl ⟨h1,fun e=>?_⟩,h2⟩
  rw[e,a] at h2
  cases h2
theorem ZcX (h:Xb l) (q:Int->Bool) {n:Int} (g:q n=true) (f:Nat) (d:∀ p ∈ l,q p.1=true->p.1<n):(Yv l n (some f)).filter (fun p=>q p.1)=l.filter (fun p=>q p.1)++[(n,f)]:=by
 refine ZmE (Zc (Yq h n _) _) ?_ fun p=>?_
 ·unfold Xb
  rw[zde];refine⟨Zc h _,List.pairwise_singleton _ _,fun a c b e=>?_⟩
  rw[zaw.1 e];exact d a (za3.1 c).1 (za3.1 c).2
 ·rw[za3,za2,za3,Zt,zaw]
  constructor
  ·rintro⟨⟨h1,-⟩ | ⟨h1,h2⟩,h3⟩
   ·exact .inl ⟨h1,h3⟩
   ·exact .inr (Prod.ext h1 (zaq h2).symm)
  ·rintro(⟨h1,h2⟩ | rfl)
   ·exact⟨.inl ⟨h1,by have:=d p h1 h2;omega⟩,h2⟩
   ·exact⟨.inr ⟨rfl,rfl⟩,g⟩
theorem ZtW (h:Xb l) (q:Int->Bool) (n:Int):(Yv l n none).filter (fun p=>q p.1)=(l.filter (fun p=>q p.1)).filter (fun p=>decide (p.1≠n)):=by
 refine ZmE (Zc (Yq h n _) _) (Zc (Zc h _) _) fun p=>?_
 rw[za3,za3,za3,Zt];constructor
 ·rintro⟨⟨h1,h2⟩ | ⟨h1,h2⟩,h3⟩
  ·exact⟨⟨h1,h3⟩,zan h2⟩
  ·cases h2
 ·rintro⟨⟨h1,h2⟩,h3⟩
  exact⟨.inl ⟨h1,zcm h3⟩,h2⟩
theorem ZwD (h:Xb l) {p:Int × Nat} {t:Dir} (e:l=p::t):l.filter (fun q=>decide (q.1≠p.1))=t:=by
 subst e;unfold Xb at h;rw[zcd] at h;rw[zdi,zaa (by simp),zd9]
 intro q a;have:=h.1 q a;exact zan (by omega)
theorem Zfv.less {lo':Nat} (h:Zfv kind all x i e lo) (k:lo'<=lo):Zfv kind all x i e lo':=by
 obtain⟨b,c,g,f,d,a⟩:=h.bl;refine⟨h.ie,h.ea,h.i62,b,c,g,f,d,?_⟩;rcases a with a | ⟨a,j⟩
 ·exact .inl (by omega)
 ·exact .inr ⟨a,by omega⟩
theorem Zfv.allMore (h:Zfv kind all x i e lo) (l:List Rec):Zfv kind (all++l) x i e lo:=by
 obtain⟨a,c,j,g,f,b⟩:=h.bl;have d:=h.ea;refine⟨h.ie,by rw[length_append];omega,h.i62,a,c,j,?_,f,b⟩
 rw[g,zce d]
theorem Zfr (kind:Int) (all l:List Rec) {j:Nat} (a:j<=all.length):Xv kind (all++l) j=Xv kind all j:=by
 unfold Xv;rw[zce a]
theorem ZrF (kind:Int) (i:Nat) (B:List (List Rec)) (l:List Rec):Zhd kind i (B++[l])=Zhd kind i B++Qd (Yc l):=by
 unfold Zhd;rw[zc1,Q9,Q9,Zay,append_assoc]
 congr 2
 simp[Qf]
theorem Zfv.grow {l:List Rec} (h:Zfv kind all x i all.length lo) (f:Yg l):Zfv kind (all++l) ⟨x.b++Qd (Yc l),x.k⟩ i (all++l).length lo:=by
 obtain⟨a,e,m,c,g,d⟩:=h.bl;have j:=h.ie;refine⟨by rw[length_append];omega,za0 _,h.i62,a,e++[l],?_,?_,?_,d⟩
 ·intro q hq
  rw[<-append_assoc] at hq;rcases za2.1 hq with hq | hq
  ·exact m q hq
  ·rw[zaw.1 hq];exact f
 ·rw[<-append_assoc,zfe,c]
  rw[take_length,take_length,zgc j];simp
 ·rw[<-append_assoc,ZrF,g]
theorem Zfv.keep (h:Zfv kind all x i e lo):Zfv kind all ⟨x.b,x.b.length⟩ i e e:=by
 obtain⟨d,f,k,a,c,-⟩:=h.bl;have j:=h.ie;have g:=h.ea;refine⟨j,g,h.i62,d++f,[],by rw[append_nil];exact k,by rw[append_nil];exact a,by rw[append_nil];exact c,.inr ⟨by show _<=x.b.length;rw[c];exact za0 _,?_⟩⟩
 rw[a,zci,zb5];omega
theorem Zys {l:List Rec} (d:Yg l) (a:all.length<4611686018427387904) {lo:Nat} (b:lo<=all.length):Zfv kind (all++l) ⟨Qd (Xq 3 kind.toNat all.length)++Qd (Yc l),0⟩ all.length (all++l).length lo:=by
 refine⟨by rw[length_append];omega,za0 _,a,[],[l],?_,?_,?_,.inl b⟩
 ·intro q c
  rw[zaw.1 c];exact d
 ·rw[take_length,zev]
  simp
 ·show _=Zhd kind all.length ([]++[l])
  rw[ZrF]
  congr 1
  simp[Zhd,Qf]
end Go.Proofs.YtnahjngbneicaaaGreatDoor
