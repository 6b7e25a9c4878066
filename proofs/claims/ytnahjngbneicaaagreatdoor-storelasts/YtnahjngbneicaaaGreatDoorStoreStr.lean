import Derived.Test.YtnahjngbneicaaaGreatDoorStoreDirM
namespace Go.Proofs.YtnahjngbneicaaaGreatDoor
open _root_.Go.Proofs.Tryz
open List (mem_cons_self)
set_option maxRecDepth 100000
variable {kind:Int} {all:List Rec} {fs:List Fl} {lo lo':Nat} {c:Pce}
def Xz (kind:Int) (all:List Rec) (fs:List Fl) (lo:Nat):Dir->List Pce->Prop
 | [],[]=>True
 | p::E,c::P=>p.1=c.name∧c.first<c.stop∧Zfn kind all (fl fs p.2) c.first.toNat c.stop.toNat (if P=[] then lo else c.stop.toNat)∧Xz kind all fs lo E P
 | _,_=>False
theorem Xz.toC:∀ {E:Dir} {P:List Pce} {a b:Int},Xz kind all fs lo E P->Ga a P b->0<=a->Zjr kind all fs lo E a.toNat b.toNat
 | [],[],a,b,_,hc,_=>by
  have e:a=b:=hc;rw[e];exact rfl
 | [p],[c],a,b,⟨_,_,h3,_⟩,⟨hc1,hc2,hc3⟩,h0=>by
  have e:c.stop=b:=hc3;rw[<-hc1,<-e];rw[if_pos rfl] at h3;exact h3
 | p::q::E,c::c'::P,a,b,⟨_,h2,h3,h4⟩,⟨hc1,hc2,hc3⟩,h0=>by
  rw[if_neg (by simp)] at h3
  have d:=Xz.toC (a:=c.stop) (b:=b) h4 hc3 (by omega)
  rw[<-hc1];exact⟨c.stop.toNat,by omega,h3,d⟩
 | [],_::_,_,_,h,_,_=>h.elim
 | _::_,[],_,_,h,_,_=>h.elim
 | [_],_::_::_,_,_,⟨_,_,_,h⟩,_,_=>h.elim
 | _::_::_,[_],_,_,⟨_,_,_,h⟩,_,_=>h.elim
theorem Xz.nil_iff:∀ {E:Dir} {P:List Pce},Xz kind all fs lo E P->(E=[]↔P=[])
 | [],[],_=>⟨fun _=>rfl,fun _=>rfl⟩
 | p::E,c::P,_=>by simp
 | [],_::_,h=>h.elim
 | _::_,[],h=>h.elim
theorem Xz.init:∀ {E:Dir} {P:List Pce} {p:Int × Nat} {c:Pce} {a b:Int},Xz kind all fs lo (E++[p]) (P++[c])->Ga a (P++[c]) b->(lo':Int)<=c.first->0<=a->Xz kind all fs lo' E P
 | [],[],_,_,_,_,_,_,_,_=>trivial
 | [],x::P,p,c,a,b,h,_,_,_=>by
  cases P with
  | nil=>exact h.2.2.2.elim
  | cons y P=>exact h.2.2.2.elim
 | x::E,[],p,c,a,b,h,_,_,_=>by
  cases E with
  | nil=>exact h.2.2.2.elim
  | cons y E=>exact h.2.2.2.elim
 | x::E,y::P,p,c,a,b,⟨h1,h2,h3,h4⟩,⟨hc1,hc2,hc3⟩,hl,h0=>by
  refine⟨h1,h2,?_,Xz.init h4 hc3 hl (by omega)⟩
  rw[if_neg (by simp)] at h3
  split
  ·rename_i d
   subst d;refine h3.less ?_;have e:c.first=y.stop:=hc3.1;omega
  ·exact h3
theorem Xz.less (b:lo'<=lo):∀ {E:Dir} {P:List Pce},Xz kind all fs lo E P->Xz kind all fs lo' E P
 | [],[],_=>trivial
 | p::E,c::P,⟨h1,h2,h3,h4⟩=>by
  refine⟨h1,h2,?_,Xz.less b h4⟩;split
  ·rename_i a
   rw[if_pos a] at h3;exact h3.less b
  ·rename_i a
   rw[if_neg a] at h3;exact h3
 | [],_::_,h=>h.elim
 | _::_,[],h=>h.elim
structure Zfk (kind:Int) (x:SDk) (all:List Rec) (lo:Nat):Prop where
 al:ZbG all
 now:x.1.now=X7 kind all all.length
 syn:x.1.synced=lo
 lol:lo<=all.length
 seg:Xz kind all x.2.files lo (Xe (Qm x.2)) x.1.log.pcs
 cur0:x.1.cur=0->Xz kind all x.2.files all.length (Xe (Qm x.2)) x.1.log.pcs
 bas:∃ js,Zjs kind all x.2.files (Zdn (Qm x.2)) js∧x.1.base.idx=((js.getLastD 0:Nat):Int)∧js.getLastD 0<=lo
 nw0:x.1.nw=false->x.2.waits=[]
 nw1:x.1.nw=true->∃ f a c,x.1.cur≠0∧x.2.waits=[.give x.1.cur f]∧x.1.log.pcs=a++[c]∧(lo:Int)<=c.first∧Xe (Qm x.2)=Xe x.2.kept++[(x.1.cur,f)]∧Zdn (Qm x.2)=Zdn x.2.kept
theorem Zfk.good {x:SDk} {n:Nat} (h:Zfk kind x all lo) (g:X4 x all n) (lo':Nat) (l:lo'<=all.length) (hlo:lo'<=lo∨x.1.cur=0) (S:lo<=lo'):∀ k,Jl kind all lo' x.2.files (Ym x.2 k):=by
 obtain⟨u,v,L,H⟩:=h.bas;have A:=g.ok.log;have q:=A.f0;have E:x.1.log.next=all.length:=g.len;have b:=A.ch;have G:=g.bas;rw[L] at G;have T:x.1.next=all.length:=g.len
 have y:Xz kind all x.2.files lo' (Xe (Qm x.2)) x.1.log.pcs:=by
  rcases hlo with hlo | hlo
  ·exact h.seg.less hlo
  ·exact(h.cur0 hlo).less l
 have C:Jl kind all lo' x.2.files (Qm x.2):=by
  have j:=y.toC b q;refine⟨_,_,u,j,by rw[E];simp,v,by omega,l,fun d=>?_,fun d=>⟨by omega,by rw[E];simpa using l⟩⟩
  have t:=(y.nil_iff).1 d
  have M:x.1.log.first=x.1.log.next:=by
   rw[t] at b;exact b
  omega
 intro k
 cases hnw:x.1.nw with
 | false=>
  have p:=h.nw0 hnw
  have e:Ym x.2 k=Qm x.2:=by
   unfold Ym Qm;rw[p];simp
  rw[e];exact C
 | true=>
  obtain⟨f,a,c,N,p,B,O,K,I⟩:=h.nw1 hnw;by_cases J:k=0
  case neg=>
   rw[Zyq x.2 (by rw[p];simp;omega)]
   exact C
  rw[J,Zei]
  have F:lo'=lo:=by
   rcases hlo with hlo | hlo
   ·omega
   ·exact absurd hlo N
  rw[F];have D:=h.seg;rw[K,B] at D;rw[B] at b;have z:=D.init (lo':=lo) b O q;obtain⟨m,i,w⟩:=Y1.1 b;have Q:c.first=m:=w.1;have P:=Zai i;have j:=z.toC i q;have R:=Zai w;refine⟨_,_,u,j,by omega,by rw[<-I];exact v,H,h.lol,fun d=>?_,fun d=>⟨by omega,by omega⟩⟩
  have t:=(z.nil_iff).1 d
  have M:x.1.log.first=m:=by
   rw[t] at i;exact i
  omega
def Zfl (kind:Int) (all:List Rec) (fs:List Fl):Dir->List Pce->Prop
 | [],[]=>True
 | p::E,c::P=>p.1=c.name∧c.first<c.stop∧Zfn kind all (fl fs p.2) c.first.toNat c.stop.toNat c.stop.toNat∧Zfl kind all fs E P
 | _,_=>False
def ZAz (kind:Int) (all:List Rec) (fs:List Fl) (lo:Nat) (p:Int × Nat) (c:Pce):Prop:=p.1=c.name∧c.first<c.stop∧Zfn kind all (fl fs p.2) c.first.toNat c.stop.toNat lo
theorem J8 {kind:Int} {all:List Rec} {fs:List Fl} {lo:Nat} {p:Int × Nat} {c:Pce}:∀ {E:Dir} {P:List Pce},Xz kind all fs lo (E++[p]) (P++[c])↔Zfl kind all fs E P∧ZAz kind all fs lo p c
 | [],[]=>by
  constructor
  ·rintro⟨h1,h2,h3,-⟩
   rw[if_pos rfl] at h3;exact⟨trivial,h1,h2,h3⟩
  ·rintro⟨-,h1,h2,h3⟩
   exact⟨h1,h2,by rw[if_pos rfl];exact h3,trivial⟩
 | [],y::P=>by
  constructor
  ·rintro⟨-,-,-,h⟩
   cases P with
   | nil=>exact h.elim
   | cons z P=>exact h.elim
  ·rintro⟨h,-⟩
   exact h.elim
 | x::E,[]=>by
  constructor
  ·rintro⟨-,-,-,h⟩
   cases E with
   | nil=>exact h.elim
   | cons z E=>exact h.elim
  ·rintro⟨h,-⟩
   exact h.elim
 | x::E,y::P=>by
  have b:=J8 (kind:=kind) (all:=all) (fs:=fs) (lo:=lo) (p:=p) (c:=c) (E:=E) (P:=P);constructor
  ·rintro⟨h1,h2,h3,h4⟩
   rw[if_neg (by simp)] at h3
   obtain⟨d,a⟩:=b.1 h4;exact⟨⟨h1,h2,h3,d⟩,a⟩
  ·rintro⟨⟨h1,h2,h3,h4⟩,a⟩
   exact⟨h1,h2,by rw[if_neg (by simp)];exact h3,b.2 ⟨h4,a⟩⟩
theorem Xz.split {a:List Pce}:∀ {E:Dir},Xz kind all fs lo E (a++[c])->∃ b p,E=b++[p]:=fun {E} h=>by
 have d:E.length≠0:=fun e=>by
  have:=(h.nil_iff).1 (List.eq_nil_of_length_eq_zero e);simp at this
 exact ZdM d
theorem Xz.toQ {E:Dir} {P:List Pce} {a b:Int} (h:Xz kind all fs lo E P) (t:Ga a P b) (q:b.toNat<=lo):Zfl kind all fs E P:=by
 by_cases j:P.length=0
 ·rw[List.eq_nil_of_length_eq_zero j] at h ⊢
  rw[(h.nil_iff).2 rfl];exact trivial
 ·obtain⟨d,c,rfl⟩:=ZdM j
  obtain⟨g,p,rfl⟩:=h.split;obtain⟨e,i,f,v⟩:=J8.1 h;obtain⟨m,A,l⟩:=Y1.1 t;have n:c.stop=b:=l.2.2;have k:Zfn kind all (fl fs p.2) c.first.toNat c.stop.toNat c.stop.toNat:=v.less (by rw[n];exact q)
  have:Xz kind all fs c.stop.toNat (g++[p]) (d++[c]):=J8.2 ⟨e,i,f,k⟩;clear h t v A l n q j
  induction g generalizing d with
  | nil=>
   cases d with
   | nil=>exact⟨i,f,k,trivial⟩
   | cons y d=>exact e.elim
  | cons x g w=>
   cases d with
   | nil=>exact e.elim
   | cons y d=>
    obtain⟨B,C,z,u⟩:=e;exact⟨B,C,z,w d u (J8.2 ⟨u,i,f,k⟩)⟩
theorem Zfl.files {a:List Fl}:∀ {E:Dir} {P:List Pce},Zfl kind all fs E P->(∀ p ∈ E,fl a p.2=fl fs p.2)->Zfl kind all a E P
 | [],[],_,_=>trivial
 | p::E,c::P,⟨h1,h2,h3,h4⟩,hf=>⟨h1,h2,by rw[hf p mem_cons_self];exact h3,Zfl.files h4 (fun q b=>hf q (List.mem_cons_of_mem _ b))⟩
 | [],_::_,h,_=>h.elim
 | _::_,[],h,_=>h.elim
theorem Zfl.allMore (l:List Rec):∀ {E:Dir} {P:List Pce},Zfl kind all fs E P->Zfl kind (all++l) fs E P
 | [],[],_=>trivial
 | _::_,_::_,⟨h1,h2,h3,h4⟩=>⟨h1,h2,h3.allMore l,Zfl.allMore l h4⟩
 | [],_::_,h=>h.elim
 | _::_,[],h=>h.elim
theorem Zjs.files {b:List Fl}:∀ {O:Dir} {a:List Nat},Zjs kind all fs O a->(∀ p ∈ O,fl b p.2=fl fs p.2)->Zjs kind all b O a
 | [],[],_,_=>trivial
 | p::O,j::a,⟨h1,h2,h3,h4,h5⟩,hf=>⟨by rw[hf p mem_cons_self];exact h1,by rw[hf p mem_cons_self];exact h2,h3,h4,Zjs.files h5 (fun q c=>hf q (List.mem_cons_of_mem _ c))⟩
 | [],_::_,h,_=>h.elim
 | _::_,[],h,_=>h.elim
end Go.Proofs.YtnahjngbneicaaaGreatDoor
