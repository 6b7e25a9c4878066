import Derived.Test.YtnahjngbneicaaaGreatDoorStoreDirM
namespace Go.Proofs.YtnahjngbneicaaaGreatDoor
set_option linter.unusedSimpArgs false
open _root_.Go.Proofs.Tryz
open List (mem_cons_self)
set_option maxRecDepth 100000
variable {kind:Int} {all:List Rec} {fs:List Fl} {lo lo':Nat} {c:Pce}
def X4 (kind:Int) (all:List Rec) (fs:List Fl) (lo:Nat):Dir->List Pce->Prop
 | [],[]=>True
 | p::E,c::P=>p.1=c.name∧c.first<c.stop∧Zfv kind all (fl fs p.2) c.first.toNat c.stop.toNat (if P=[] then lo else c.stop.toNat)∧X4 kind all fs lo E P
 | _,_=>False
theorem X4.toC:∀ {E:Dir} {P:List Pce} {a b:Int},X4 kind all fs lo E P->Gd a P b->0<=a->ZjA kind all fs lo E a.toNat b.toNat
 | [],[],a,b,_,hc,_=>by
  have e:a=b:=hc;rw[e];exact rfl
 | [p],[c],a,b,⟨_,_,h3,_⟩,⟨hc1,hc2,hc3⟩,h0=>by
  have e:c.stop=b:=hc3;rw[<-hc1,<-e];rw[zab rfl] at h3;exact h3
 | p::q::E,c::c'::P,a,b,⟨_,h2,h3,h4⟩,⟨hc1,hc2,hc3⟩,h0=>by
  rw[zaa (by simp)] at h3
  have d:=X4.toC (a:=c.stop) (b:=b) h4 hc3 (by omega)
  rw[<-hc1];exact⟨c.stop.toNat,by omega,h3,d⟩
 | [],_::_,_,_,h,_,_=>h.elim
 | _::_,[],_,_,h,_,_=>h.elim
 | [_],_::_::_,_,_,⟨_,_,_,h⟩,_,_=>h.elim
 | _::_::_,[_],_,_,⟨_,_,_,h⟩,_,_=>h.elim
theorem X4.nil_iff:∀ {E:Dir} {P:List Pce},X4 kind all fs lo E P->(E=[]↔P=[])
 | [],[],_=>⟨fun _=>rfl,fun _=>rfl⟩
 | p::E,c::P,_=>by simp
 | [],_::_,h=>h.elim
 | _::_,[],h=>h.elim
theorem X4.init:∀ {E:Dir} {P:List Pce} {p:Int × Nat} {c:Pce} {a b:Int},X4 kind all fs lo (E++[p]) (P++[c])->Gd a (P++[c]) b->(lo':Int)<=c.first->0<=a->X4 kind all fs lo' E P
 | [],[],_,_,_,_,_,_,_,_=>trivial
 | [],x::P,p,c,a,b,h,_,_,_=>by
  cases P with
  | nil=>exact h.2.2.2.elim
  | cons y P=>exact h.2.2.2.elim
 | x::E,[],p,c,a,b,h,_,_,_=>by
  cases E with
  | nil=>exact h.2.2.2.elim
  | cons y E=>exact h.2.2.2.elim
 | x::E,y::P,p,c,a,b,⟨h1,h2,h3,h4⟩,⟨hc1,hc2,hc3⟩,hl,h0=>by
  refine⟨h1,h2,?_,X4.init h4 hc3 hl (by omega)⟩
  rw[zaa (by simp)] at h3
  split
  ·rename_i d
   subst d;refine h3.less ?_;have e:c.first=y.stop:=hc3.1;omega
  ·exact h3
theorem X4.less (b:lo'<=lo):∀ {E:Dir} {P:List Pce},X4 kind all fs lo E P->X4 kind all fs lo' E P
 | [],[],_=>trivial
 | p::E,c::P,⟨h1,h2,h3,h4⟩=>by
  refine⟨h1,h2,?_,X4.less b h4⟩;split
  ·rename_i a
   rw[zab a] at h3;exact h3.less b
  ·rename_i a
   rw[zaa a] at h3;exact h3
 | [],_::_,h=>h.elim
 | _::_,[],h=>h.elim
structure Zen (kind:Int) (x:SDk) (all:List Rec) (lo:Nat):Prop where
 al:ZbG all
 now:x.1.now=Xv kind all all.length
 syn:x.1.synced=lo
 lol:lo<=all.length
 seg:X4 kind all x.2.files lo (Xg (Qm x.2)) x.1.log.pcs
 cur0:x.1.cur=0->X4 kind all x.2.files all.length (Xg (Qm x.2)) x.1.log.pcs
 bas:∃ js,ZjB kind all x.2.files (Dj (Qm x.2)) js∧x.1.base.idx=((js.getLastD 0:Nat):Int)∧js.getLastD 0<=lo
 nw0:x.1.nw=false->x.2.waits=[]
 nw1:x.1.nw=true->∃ f a c,x.1.cur≠0∧x.2.waits=[.give x.1.cur f]∧x.1.log.pcs=a++[c]∧(lo:Int)<=c.first∧Xg (Qm x.2)=Xg x.2.kept++[(x.1.cur,f)]∧Dj (Qm x.2)=Dj x.2.kept
theorem Zen.good {x:SDk} {n:Nat} (h:Zen kind x all lo) (g:X0 x all n) (lo':Nat) (t:lo'<=all.length) (hlo:lo'<=lo∨x.1.cur=0) (P:lo<=lo'):∀ k,Jo kind all lo' x.2.files (Yo x.2 k):=by
 obtain⟨w,C,F,L⟩:=h.bas;have B:=g.ok.log;have p:=B.f0;have E:x.1.log.next=all.length:=g.len;have b:=B.ch;have N:=g.bas;rw[F] at N;have Q:x.1.next=all.length:=g.len
 have v:X4 kind all x.2.files lo' (Xg (Qm x.2)) x.1.log.pcs:=by
  rcases hlo with hlo | hlo
  ·exact h.seg.less hlo
  ·exact(h.cur0 hlo).less t
 have y:Jo kind all lo' x.2.files (Qm x.2):=by
  have j:=v.toC b p;refine⟨_,_,w,j,by rw[E];simp,C,by omega,t,fun d=>?_,fun d=>⟨by omega,by rw[E];simpa using t⟩⟩
  have q:=(v.nil_iff).1 d
  have K:x.1.log.first=x.1.log.next:=by
   rw[q] at b;exact b
  omega
 intro k
 cases hnw:x.1.nw with
 | false=>
  have l:=h.nw0 hnw
  have e:Yo x.2 k=Qm x.2:=by
   unfold Yo Qm;rw[l];simp
  rw[e];exact y
 | true=>
  obtain⟨f,a,c,G,l,z,H,O,M⟩:=h.nw1 hnw;by_cases J:k=0
  case neg=>
   rw[ZyY x.2 (by rw[l];simp;omega)]
   exact y
  rw[J,Zes]
  have I:lo'=lo:=by
   rcases hlo with hlo | hlo
   ·omega
   ·exact absurd hlo G
  rw[I];have D:=h.seg;rw[O,z] at D;rw[z] at b;have u:=D.init (lo':=lo) b H p;obtain⟨m,i,A⟩:=Y5.1 b;have S:c.first=m:=A.1;have T:=Zai i;have j:=u.toC i p;have R:=Zai A;refine⟨_,_,w,j,by omega,by rw[<-M];exact C,L,h.lol,fun d=>?_,fun d=>⟨by omega,by omega⟩⟩
  have q:=(u.nil_iff).1 d
  have K:x.1.log.first=m:=by
   rw[q] at i;exact i
  omega
def Zfs (kind:Int) (all:List Rec) (fs:List Fl):Dir->List Pce->Prop
 | [],[]=>True
 | p::E,c::P=>p.1=c.name∧c.first<c.stop∧Zfv kind all (fl fs p.2) c.first.toNat c.stop.toNat c.stop.toNat∧Zfs kind all fs E P
 | _,_=>False
def ZBe (kind:Int) (all:List Rec) (fs:List Fl) (lo:Nat) (p:Int × Nat) (c:Pce):Prop:=p.1=c.name∧c.first<c.stop∧Zfv kind all (fl fs p.2) c.first.toNat c.stop.toNat lo
theorem Gb {kind:Int} {all:List Rec} {fs:List Fl} {lo:Nat} {p:Int × Nat} {c:Pce}:∀ {E:Dir} {P:List Pce},X4 kind all fs lo (E++[p]) (P++[c])↔Zfs kind all fs E P∧ZBe kind all fs lo p c
 | [],[]=>by
  constructor
  ·rintro⟨h1,h2,h3,-⟩
   rw[zab rfl] at h3;exact⟨trivial,h1,h2,h3⟩
  ·rintro⟨-,h1,h2,h3⟩
   exact⟨h1,h2,by rw[zab rfl];exact h3,trivial⟩
 | [],y::P=>by
  constructor
  ·rintro⟨-,-,-,h⟩
   cases P with
   | nil=>exact h.elim
   | cons z P=>exact h.elim
  ·rintro⟨h,-⟩
   exact h.elim
 | x::E,[]=>by
  constructor
  ·rintro⟨-,-,-,h⟩
   cases E with
   | nil=>exact h.elim
   | cons z E=>exact h.elim
  ·rintro⟨h,-⟩
   exact h.elim
 | x::E,y::P=>by
  have b:=Gb (kind:=kind) (all:=all) (fs:=fs) (lo:=lo) (p:=p) (c:=c) (E:=E) (P:=P);constructor
  ·rintro⟨h1,h2,h3,h4⟩
   rw[zaa (by simp)] at h3
   obtain⟨d,a⟩:=b.1 h4;exact⟨⟨h1,h2,h3,d⟩,a⟩
  ·rintro⟨⟨h1,h2,h3,h4⟩,a⟩
   exact⟨h1,h2,by rw[zaa (by simp)];exact h3,b.2 ⟨h4,a⟩⟩
theorem X4.split {a:List Pce}:∀ {E:Dir},X4 kind all fs lo E (a++[c])->∃ d p,E=d++[p]:=fun {E} h=>by
 have b:E.length≠0:=fun e=>by
  have:=(h.nil_iff).1 (zao e);simp at this
 exact ZdW b
theorem X4.toQ {E:Dir} {P:List Pce} {a b:Int} (h:X4 kind all fs lo E P) (l:Gd a P b) (v:b.toNat<=lo):Zfs kind all fs E P:=by
 by_cases i:P.length=0
 ·rw[zao i] at h ⊢
  rw[(h.nil_iff).2 rfl];exact trivial
 ·obtain⟨d,c,rfl⟩:=ZdW i
  obtain⟨k,p,rfl⟩:=h.split;obtain⟨e,g,f,u⟩:=Gb.1 h;obtain⟨m,C,q⟩:=Y5.1 l;have t:c.stop=b:=q.2.2;have j:Zfv kind all (fl fs p.2) c.first.toNat c.stop.toNat c.stop.toNat:=u.less (by rw[t];exact v)
  have:X4 kind all fs c.stop.toNat (k++[p]) (d++[c]):=Gb.2 ⟨e,g,f,j⟩;clear h l u C q t v i
  induction k generalizing d with
  | nil=>
   cases d with
   | nil=>exact⟨g,f,j,trivial⟩
   | cons y d=>exact e.elim
  | cons x k z=>
   cases d with
   | nil=>exact e.elim
   | cons y d=>
    obtain⟨B,A,w,n⟩:=e;exact⟨B,A,w,z d n (Gb.2 ⟨n,g,f,j⟩)⟩
theorem Zfs.files {a:List Fl}:∀ {E:Dir} {P:List Pce},Zfs kind all fs E P->(∀ p ∈ E,fl a p.2=fl fs p.2)->Zfs kind all a E P
 | [],[],_,_=>trivial
 | p::E,c::P,⟨h1,h2,h3,h4⟩,hf=>⟨h1,h2,by rw[hf p mem_cons_self];exact h3,Zfs.files h4 (fun q b=>hf q (za6 _ b))⟩
 | [],_::_,h,_=>h.elim
 | _::_,[],h,_=>h.elim
theorem Zfs.allMore (l:List Rec):∀ {E:Dir} {P:List Pce},Zfs kind all fs E P->Zfs kind (all++l) fs E P
 | [],[],_=>trivial
 | _::_,_::_,⟨h1,h2,h3,h4⟩=>⟨h1,h2,h3.allMore l,Zfs.allMore l h4⟩
 | [],_::_,h=>h.elim
 | _::_,[],h=>h.elim
theorem ZjB.files {b:List Fl}:∀ {O:Dir} {a:List Nat},ZjB kind all fs O a->(∀ p ∈ O,fl b p.2=fl fs p.2)->ZjB kind all b O a
 | [],[],_,_=>trivial
 | p::O,j::a,⟨h1,h2,h3,h4,h5⟩,hf=>⟨by rw[hf p mem_cons_self];exact h1,by rw[hf p mem_cons_self];exact h2,h3,h4,ZjB.files h5 (fun q c=>hf q (za6 _ c))⟩
 | [],_::_,h,_=>h.elim
 | _::_,[],h,_=>h.elim
end Go.Proofs.YtnahjngbneicaaaGreatDoor
