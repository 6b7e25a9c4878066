import Derived.Test.YtnahjngbneicaaaGreatDoorStoreStrN
namespace Go.Proofs.YtnahjngbneicaaaGreatDoor
set_option linter.unusedSimpArgs false
open _root_.Go.Proofs.Tryz
open List (length_append)
set_option maxRecDepth 100000
variable {all l:List Rec} {kind:Int} {fs:List Fl} {f:Nat} {b:List UInt8}
theorem ZbG.more (h:ZbG all) (a:Xn all.length l) (b:∀ r ∈ l,Q1 r):ZbG (all++l):=by
 refine⟨G7.2 ⟨h.1,by rw[Int.zero_add];exact a⟩,fun r hr=>?_⟩
 rcases za2.1 hr with hr | hr
 ·exact h.2 r hr
 ·exact b r hr
theorem ZtY (h:ZbG (all++l)) (kind:Int):(Q4 (Xv kind all all.length) l).1=Xv kind (all++l) (all++l).length:=by
 have a:=Zll h kind (j:=all.length) (e:=(all++l).length) (by rw[length_append];omega)
 rw[zdd,Zfr kind all l zL] at a;have e:(all++l).drop all.length=l:=by simp
 rw[e] at a;rw[a]
theorem ZjB.allMore (l:List Rec):∀ {O:Dir} {a:List Nat},ZjB kind all fs O a->ZjB kind (all++l) fs O a
 | [],[],_=>trivial
 | _::_,j::a,⟨h1,h2,h3,h4,h5⟩=>by
  have e:=Zfr kind all l h3.2;exact⟨h1,by rw[e];exact h2,⟨by rw[e];exact h3.1,by rw[length_append];have:=h3.2;omega⟩,by rw[e];exact h4,ZjB.allMore l h5⟩
 | [],_::_,h=>h.elim
 | _::_,[],h=>h.elim
theorem ZaT {g:Nat} (h:f≠g):fl (Yt fs f b) g=fl fs g:=by
 unfold Yt;exact Jk h _
theorem ZcY (h:f<fs.length):fl (Yt fs f b) f=⟨(fl fs f).b++b,(fl fs f).k⟩:=by
 unfold Yt;exact Zao h _
theorem Zen.append {s:Sto} {d:Dk} {lo n:Nat} (h:Zen kind (s,d) all lo) (B:X0 (s,d) all n) (aw:s.now.st.kind=kind) (l:List Rec):
 Zen kind (Xc l (s,d)).1 (if(Xc l (s,d)).2=0 then all++l else all) lo:=by
 have ag:OkS s:=B.ok;have u:OkD d:=B.okd;unfold Xc;by_cases t:Yg l
 case neg=>
  rw[zab t,zaa (show ¬ (1:Int)=0 by decide)]
  exact h
 rw[zaa (fun v=>v t)]
 by_cases N:(l.headD Qj).idx=s.next
 case neg=>
  rw[zab N,zaa (show ¬ (15:Int)=0 by decide)]
  exact h
 rw[zaa (fun v=>v N)]
 dsimp only
 by_cases j:(Qy d (Ju s d) (Jz s l)).2=0
 case neg=>
  rw[zaa j,zaa j,Zbb j];exact h
 rw[zab j,zab rfl];have E:s.next=all.length:=B.len;have ac:s.log.next=all.length:=B.len;have aq:Xn s.next l:=by rw[<-N];exact t.2.2.2
 have ar:l≠[]:=fun e=>by rw[e] at t;exact absurd t.1 (by decide)
 have aL:=Zdi aq t.2.2.1 ar;have aI:1<=l.length:=t.1;have Y:ZbG (all++l):=h.al.more (by rw[<-E];exact aq) t.2.2.1
 have ab:(Q4 s.now l).1=Xv kind (all++l) (all++l).length:=by
  have:s.now=Xv kind all all.length:=h.now;rw[this];exact ZtY Y kind
 have ao:lo<=(all++l).length:=by rw[length_append];have:=h.lol;omega
 have D:Gd s.log.first s.log.pcs s.log.next:=ag.log.ch;have ad:=Zfm j;by_cases k:s.cur=0
 ·-- another segment
  have aa:Ju s d=Xs d 2:=by unfold Ju;rw[zab k]
  have W:Jz s l=Qd (Xq 3 kind.toNat all.length)++Qd (Yc l):=by
   unfold Jz;rw[zab k,aw,E,zbj]
  have az:s.nw=false:=by
   cases T:s.nw with
   | false=>rfl
   | true=>
    obtain⟨-,-,-,z,-⟩:=h.nw1 T;exact absurd k z
  have ai:d.waits=[]:=h.nw0 az;have af:d.kept=Qm d:=by unfold Qm;rw[ai];rfl
  obtain⟨i,an⟩:=zg7 (Xs d 2);have aF:=Zan (d:=d) 2;have ap:=Zel u 2;rw[<-an] at aF ap;rw[aa,<-an] at j ⊢;rw[W] at j ⊢;have L:ZrE i=true:=(Zfp i).2 ⟨by omega,by omega⟩
  have V:Zul i=false:=by
   cases ho:Zul i with
   | false=>rfl
   | true=>
    have:=(Zfq i).1 ho;omega
  have ak:∀ p ∈ Qm d,ZrE p.1=true->p.1<i:=fun p x he=>by
   have K:=(Zfp p.1).1 he;exact ap p.1 (zbm.2 ⟨p,x,rfl⟩) K.1 (by omega)
  have Z:look (Qm d) i=none:=by
   rw[Zum];intro p x e;have:=ak p x (by rw[e];exact L)
   omega
  obtain⟨b,hb⟩:=zg7 (Qd (Xq 3 kind.toNat all.length)++Qd (Yc l));rw[<-hb] at j ⊢
  have P:(Qy d i b).1={ d with files:=Yt (d.files++[⟨[],0⟩]) d.files.length b,waits:=d.waits++[.give i d.files.length],power:=Ye d.power }:=by
   unfold Qy at j ⊢;rw[zaa ad] at j ⊢;split at j
   ·cases j
   ·rename_i H
    rw[zaa H];split at j
    ·cases j
    ·rename_i M
     rw[zaa M,Z];rfl
  rw[P]
  have aB:fl (Yt (d.files++[⟨[],0⟩]) d.files.length b) d.files.length=⟨b,0⟩:=by
   rw[ZcY (by simp),Zif]
   rfl
  have ae:∀ g,g<d.files.length->fl (Yt (d.files++[⟨[],0⟩]) d.files.length b) g=fl d.files g:=fun g hg=>by
   rw[ZaT (by omega),ZeL hg]
  have I:Qm { d with files:=Yt (d.files++[⟨[],0⟩]) d.files.length b,waits:=d.waits++[.give i d.files.length],power:=Ye d.power }=Yv (Qm d) i (some d.files.length):=by
   show(d.waits++[_]).foldl chD d.kept=_;rw[zdq];rfl
  have y:Xg (Yv (Qm d) i (some d.files.length))=Xg (Qm d)++[(i,d.files.length)]:=ZcX u.dir.rise ZrE L _ ak;have hO:Dj (Yv (Qm d) i (some d.files.length))=Dj (Qm d):=Jw u.dir.rise Zul V _
  have C:(Y7 s i l).log.pcs=s.log.pcs++[⟨i,s.next,s.next+l.length⟩]:=by
   show((if s.cur=0 then s.log.start i s.next else s.log).add l).pcs=_
   rw[zab k];show Ze (s.log.pcs++[⟨i,s.next,s.next⟩]) l.length=_;rw[ZaO]
  have hQ:Zfs kind (all++l) (Yt (d.files++[⟨[],0⟩]) d.files.length b) (Xg (Qm d)) s.log.pcs:=by
   have K:=X4.toQ (h.cur0 k) D (by rw[ac];simp)
   exact(K.files fun p x=>ae p.2 (u.dir.may p (za3.1 x).1).2).allMore l
  have aA:Zfv kind (all++l) ⟨b,0⟩ all.length (all++l).length lo:=by
   rw[hb];exact Zys t (by omega) h.lol
  have R:X4 kind (all++l) (Yt (d.files++[⟨[],0⟩]) d.files.length b) lo (Xg (Qm d)++[(i,d.files.length)]) (s.log.pcs++[⟨i,s.next,s.next+l.length⟩]):=by
   refine Gb.2 ⟨hQ,rfl,by show s.next<s.next+(l.length:Int);omega,?_⟩
   show Zfv kind (all++l) (fl (Yt (d.files++[⟨[],0⟩]) d.files.length b) d.files.length) s.next.toNat (s.next+(l.length:Int)).toNat lo;have e2:s.next.toNat=all.length:=by rw[E];simp
   have O:(s.next+(l.length:Int)).toNat=(all++l).length:=by rw[E,length_append];omega
   rw[aB,e2,O];exact aA
  obtain⟨F,Q,X,U⟩:=h.bas;refine⟨Y,ab,h.syn,ao,?_,fun z=>?_,⟨F,?_,X,U⟩,fun v=>?_,fun _=>⟨d.files.length,s.log.pcs,⟨i,s.next,s.next+l.length⟩,?_,?_,C,?_,?_,?_⟩⟩
  ·show X4 kind (all++l) (Yt (d.files++[⟨[],0⟩]) d.files.length b) lo (Xg (Qm _)) (Y7 s i l).log.pcs
   rw[I,y,C];exact R
  ·have aj:i=0:=z
   omega
  ·show ZjB kind (all++l) (Yt (d.files++[⟨[],0⟩]) d.files.length b) (Dj (Qm _)) F
   rw[I,hO];exact(ZjB.files Q fun p x=>ae p.2 (u.dir.may p (za3.1 x).1).2).allMore l
  ·have w:(if s.cur=0 then true else s.nw)=false:=v
   rw[zab k] at w
   cases w
  ·show i≠0
   omega
  ·show d.waits++[.give i d.files.length]=[.give i d.files.length]
   rw[ai];rfl
  ·show(lo:Int)<=s.next
   have:=h.lol;omega
  ·show Xg (Qm _)=Xg d.kept++[(i,d.files.length)]
   rw[I,y,af]
  ·show Dj (Qm _)=Dj d.kept
   rw[I,hO,af]
 ·-- the current one
  have aa:Ju s d=s.cur:=by unfold Ju;rw[zaa k]
  have W:Jz s l=Qd (Yc l):=by unfold Jz;rw[zaa k]
  rw[aa,W] at j ⊢;obtain⟨a,c,ax,aD⟩:=B.curL k;have A:s.log.pcs=a++[c]:=ax;have ay:c.name=s.cur:=aD;have J:X4 kind all d.files lo (Xg (Qm d)) s.log.pcs:=h.seg;rw[A] at J;obtain⟨E0,p,y⟩:=J.split;rw[y] at J;obtain⟨k1,k2,k3,k4⟩:=Gb.1 J;have G:=ZaI y
  have Z:look (Qm d) s.cur=some p.2:=by
   rw[Y2 u.dir.rise,<-ay,<-k2];exact G.1
  have aH:p.2<d.files.length:=(u.dir.may p G.1).2
  have P:(Qy d s.cur (Qd (Yc l))).1={ d with files:=Yt d.files p.2 (Qd (Yc l)),power:=Ye d.power }:=by
   unfold Qy at j ⊢;rw[zaa ad] at j ⊢;split at j
   ·cases j
   ·rename_i H
    rw[zaa H];split at j
    ·cases j
    ·rename_i M
     rw[zaa M,Z];rfl
  rw[P]
  have am:c.stop=all.length:=by
   rw[A] at D;obtain⟨m,aJ,aG⟩:=Y5.1 D;rw[<-ac];exact aG.2.2
  have aK:0<=c.first:=by
   rw[A] at D;have K:=ZaY D c (by simp)
   have H:=ag.log.f0;omega
  have C:(Y7 s s.cur l).log.pcs=a++[⟨c.name,c.first,c.stop+l.length⟩]:=by
   show((if s.cur=0 then s.log.start s.cur s.next else s.log).add l).pcs=_
   rw[zaa k];show Ze s.log.pcs l.length=_;rw[A,ZaO]
  have hQ:Zfs kind (all++l) (Yt d.files p.2 (Qd (Yc l))) E0 a:=(k1.files fun q S=>ZaT (fun e=>ZgM u.dir.rise u.dir.apart y S e.symm)).allMore l
  have hF:Zfv kind (all++l) (fl (Yt d.files p.2 (Qd (Yc l))) p.2) c.first.toNat (c.stop+(l.length:Int)).toNat lo:=by
   rw[ZcY aH];rw[am,zbj] at k4;have:=k4.grow t;have O:(c.stop+(l.length:Int)).toNat=(all++l).length:=by rw[am,length_append];omega
   rw[O];exact this
  have R:X4 kind (all++l) (Yt d.files p.2 (Qd (Yc l))) lo (Xg (Qm d)) (a++[⟨c.name,c.first,c.stop+l.length⟩]):=by
   rw[y];exact Gb.2 ⟨hQ,k2,by show c.first<c.stop+(l.length:Int);omega,hF⟩
  obtain⟨F,Q,X,U⟩:=h.bas;refine⟨Y,ab,h.syn,ao,?_,fun z=>absurd z k,⟨F,?_,X,U⟩,fun v=>?_,fun v=>?_⟩
  ·show X4 kind (all++l) (Yt d.files p.2 (Qd (Yc l))) lo (Xg (Qm d)) (Y7 s s.cur l).log.pcs
   rw[C];exact R
  ·exact(ZjB.files Q fun q S=>ZaT (fun e=>ZjC u.dir.apart S G.1 G.2 e.symm)).allMore l
  ·have w:(if s.cur=0 then true else s.nw)=false:=v
   rw[zaa k] at w;exact h.nw0 w
  ·have w:(if s.cur=0 then true else s.nw)=true:=v
   rw[zaa k] at w;obtain⟨f,a',c',z,T,au,av,L,V⟩:=h.nw1 w;have aE:s.log.pcs=a'++[c']:=au;have aC:=List.append_inj' (A.symm.trans aE) rfl;have aj:c=c':=zfp aC.2;refine⟨f,a,⟨c.name,c.first,c.stop+l.length⟩,z,T,C,?_,L,V⟩;show(lo:Int)<=c.first;rw[aj];exact av
end Go.Proofs.YtnahjngbneicaaaGreatDoor
