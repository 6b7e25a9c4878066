import Derived.Test.YtnahjngbneicaaaGreatDoorStoreStrN
namespace Go.Proofs.YtnahjngbneicaaaGreatDoor
open _root_.Go.Proofs.Tryz
open List (length_append)
set_option maxRecDepth 100000
variable {all l:List Rec} {kind:Int} {fs:List Fl} {f:Nat} {b:List UInt8}
theorem ZbG.more (h:ZbG all) (a:Xl all.length l) (b:∀ r ∈ l,Qz r):ZbG (all++l):=by
 refine⟨Gx.2 ⟨h.1,by rw[Int.zero_add];exact a⟩,fun r hr=>?_⟩
 rcases zaw.1 hr with hr | hr
 ·exact h.2 r hr
 ·exact b r hr
theorem ZtI (h:ZbG (all++l)) (kind:Int):(Q3 (X7 kind all all.length) l).1=X7 kind (all++l) (all++l).length:=by
 have a:=ZkW h kind (j:=all.length) (e:=(all++l).length) (by rw[length_append];omega)
 rw[zb1,Zfj kind all l zL] at a;have e:(all++l).drop all.length=l:=by simp
 rw[e] at a;rw[a]
theorem Zjs.allMore (l:List Rec):∀ {O:Dir} {a:List Nat},Zjs kind all fs O a->Zjs kind (all++l) fs O a
 | [],[],_=>trivial
 | _::_,j::a,⟨h1,h2,h3,h4,h5⟩=>by
  have e:=Zfj kind all l h3.2;exact⟨h1,by rw[e];exact h2,⟨by rw[e];exact h3.1,by rw[length_append];have:=h3.2;omega⟩,by rw[e];exact h4,Zjs.allMore l h5⟩
 | [],_::_,h=>h.elim
 | _::_,[],h=>h.elim
theorem ZaT {g:Nat} (h:f≠g):fl (Yr fs f b) g=fl fs g:=by
 unfold Yr;exact Jf h _
theorem ZcY (h:f<fs.length):fl (Yr fs f b) f=⟨(fl fs f).b++b,(fl fs f).k⟩:=by
 unfold Yr;exact Zao h _
theorem Zfk.append {s:Sto} {d:Dk} {lo n:Nat} (h:Zfk kind (s,d) all lo) (A:X4 (s,d) all n) (au:s.now.st.kind=kind) (l:List Rec):
 Zfk kind (X5 l (s,d)).1 (if(X5 l (s,d)).2=0 then all++l else all) lo:=by
 have ae:OkS s:=A.ok;have t:OkD d:=A.okd;unfold X5;by_cases u:Yc l
 case neg=>
  rw[zab u,zaa (show ¬ (1:Int)=0 by decide)]
  exact h
 rw[zaa (fun v=>v u)]
 by_cases hx:(l.headD Qi).idx=s.next
 case neg=>
  rw[zab hx,zaa (show ¬ (15:Int)=0 by decide)]
  exact h
 rw[zaa (fun v=>v hx)]
 dsimp only
 by_cases j:(Qy d (Jr s d) (Jv s l)).2=0
 case neg=>
  rw[zaa j,zaa j,ZbQ j];exact h
 rw[zab j,zab rfl];have L:s.next=all.length:=A.len;have an:s.log.next=all.length:=A.len;have ab:Xl s.next l:=by rw[<-hx];exact u.2.2.2
 have aG:l≠[]:=fun e=>by rw[e] at u;exact absurd u.1 (by decide)
 have aH:=Zde ab u.2.2.1 aG;have aI:1<=l.length:=u.1;have P:ZbG (all++l):=h.al.more (by rw[<-L];exact ab) u.2.2.1
 have ai:(Q3 s.now l).1=X7 kind (all++l) (all++l).length:=by
  have:s.now=X7 kind all all.length:=h.now;rw[this];exact ZtI P kind
 have aa:lo<=(all++l).length:=by rw[length_append];have:=h.lol;omega
 have C:Ga s.log.first s.log.pcs s.log.next:=ae.log.ch;have ao:=Zff j;by_cases k:s.cur=0
 ·-- another segment
  have S:Jr s d=Xs d 2:=by unfold Jr;rw[zab k]
  have M:Jv s l=Qd (Xq 3 kind.toNat all.length)++Qd (X9 l):=by
   unfold Jv;rw[zab k,au,L,za9]
  have aD:s.nw=false:=by
   cases X:s.nw with
   | false=>rfl
   | true=>
    obtain⟨-,-,-,z,-⟩:=h.nw1 X;exact absurd k z
  have ag:d.waits=[]:=h.nw0 aD;have aj:d.kept=Qm d:=by unfold Qm;rw[ag];rfl
  obtain⟨i,ap⟩:=zgy (Xs d 2);have ar:=Zan (d:=d) 2;have ad:=Zec t 2;rw[<-ap] at ar ad;rw[S,<-ap] at j ⊢;rw[M] at j ⊢;have E:Zro i=true:=(Zfh i).2 ⟨by omega,by omega⟩
  have R:ZtR i=false:=by
   cases ho:ZtR i with
   | false=>rfl
   | true=>
    have:=(Zfi i).1 ho;omega
  have af:∀ p ∈ Qm d,Zro p.1=true->p.1<i:=fun p x he=>by
   have H:=(Zfh p.1).1 he;exact ad p.1 (zbd.2 ⟨p,x,rfl⟩) H.1 (by omega)
  have N:look (Qm d) i=none:=by
   rw[ZtS];intro p x e;have:=af p x (by rw[e];exact E)
   omega
  obtain⟨b,hb⟩:=zgy (Qd (Xq 3 kind.toNat all.length)++Qd (X9 l));rw[<-hb] at j ⊢
  have V:(Qy d i b).1={ d with files:=Yr (d.files++[⟨[],0⟩]) d.files.length b,waits:=d.waits++[.give i d.files.length],power:=Y5 d.power }:=by
   unfold Qy at j ⊢;rw[zaa ao] at j ⊢;split at j
   ·cases j
   ·rename_i I
    rw[zaa I];split at j
    ·cases j
    ·rename_i U
     rw[zaa U,N];rfl
  rw[V]
  have aq:fl (Yr (d.files++[⟨[],0⟩]) d.files.length b) d.files.length=⟨b,0⟩:=by
   rw[ZcY (by simp),ZhS]
   rfl
  have ac:∀ g,g<d.files.length->fl (Yr (d.files++[⟨[],0⟩]) d.files.length b) g=fl d.files g:=fun g hg=>by
   rw[ZaT (by omega),ZeB hg]
  have G:Qm { d with files:=Yr (d.files++[⟨[],0⟩]) d.files.length b,waits:=d.waits++[.give i d.files.length],power:=Y5 d.power }=Yt (Qm d) i (some d.files.length):=by
   show(d.waits++[_]).foldl chD d.kept=_;rw[zdf];rfl
  have y:Xe (Yt (Qm d) i (some d.files.length))=Xe (Qm d)++[(i,d.files.length)]:=ZcX t.dir.rise Zro E _ af;have hO:Zdn (Yt (Qm d) i (some d.files.length))=Zdn (Qm d):=Jt t.dir.rise ZtR R _
  have D:(Y3 s i l).log.pcs=s.log.pcs++[⟨i,s.next,s.next+l.length⟩]:=by
   show((if s.cur=0 then s.log.start i s.next else s.log).add l).pcs=_
   rw[zab k];show Zc (s.log.pcs++[⟨i,s.next,s.next⟩]) l.length=_;rw[ZaN]
  have T:Zfl kind (all++l) (Yr (d.files++[⟨[],0⟩]) d.files.length b) (Xe (Qm d)) s.log.pcs:=by
   have H:=Xz.toQ (h.cur0 k) C (by rw[an];simp)
   exact(H.files fun p x=>ac p.2 (t.dir.may p (zax.1 x).1).2).allMore l
  have ax:Zfn kind (all++l) ⟨b,0⟩ all.length (all++l).length lo:=by
   rw[hb];exact ZxY u (by omega) h.lol
  have Y:Xz kind (all++l) (Yr (d.files++[⟨[],0⟩]) d.files.length b) lo (Xe (Qm d)++[(i,d.files.length)]) (s.log.pcs++[⟨i,s.next,s.next+l.length⟩]):=by
   refine J8.2 ⟨T,rfl,by show s.next<s.next+(l.length:Int);omega,?_⟩
   show Zfn kind (all++l) (fl (Yr (d.files++[⟨[],0⟩]) d.files.length b) d.files.length) s.next.toNat (s.next+(l.length:Int)).toNat lo;have e2:s.next.toNat=all.length:=by rw[L];simp
   have O:(s.next+(l.length:Int)).toNat=(all++l).length:=by rw[L,length_append];omega
   rw[aq,e2,O];exact ax
  obtain⟨K,Z,W,Q⟩:=h.bas;refine⟨P,ai,h.syn,aa,?_,fun z=>?_,⟨K,?_,W,Q⟩,fun v=>?_,fun _=>⟨d.files.length,s.log.pcs,⟨i,s.next,s.next+l.length⟩,?_,?_,D,?_,?_,?_⟩⟩
  ·show Xz kind (all++l) (Yr (d.files++[⟨[],0⟩]) d.files.length b) lo (Xe (Qm _)) (Y3 s i l).log.pcs
   rw[G,y,D];exact Y
  ·have am:i=0:=z
   omega
  ·show Zjs kind (all++l) (Yr (d.files++[⟨[],0⟩]) d.files.length b) (Zdn (Qm _)) K
   rw[G,hO];exact(Zjs.files Z fun p x=>ac p.2 (t.dir.may p (zax.1 x).1).2).allMore l
  ·have w:(if s.cur=0 then true else s.nw)=false:=v
   rw[zab k] at w
   cases w
  ·show i≠0
   omega
  ·show d.waits++[.give i d.files.length]=[.give i d.files.length]
   rw[ag];rfl
  ·show(lo:Int)<=s.next
   have:=h.lol;omega
  ·show Xe (Qm _)=Xe d.kept++[(i,d.files.length)]
   rw[G,y,aj]
  ·show Zdn (Qm _)=Zdn d.kept
   rw[G,hO,aj]
 ·-- the current one
  have S:Jr s d=s.cur:=by unfold Jr;rw[zaa k]
  have M:Jv s l=Qd (X9 l):=by unfold Jv;rw[zaa k]
  rw[S,M] at j ⊢;obtain⟨a,c,av,az⟩:=A.curL k;have B:s.log.pcs=a++[c]:=av;have aB:c.name=s.cur:=az;have F:Xz kind all d.files lo (Xe (Qm d)) s.log.pcs:=h.seg;rw[B] at F;obtain⟨E0,p,y⟩:=F.split;rw[y] at F;obtain⟨k1,k2,k3,k4⟩:=J8.1 F;have J:=ZaH y
  have N:look (Qm d) s.cur=some p.2:=by
   rw[Zb t.dir.rise,<-aB,<-k2];exact J.1
  have aE:p.2<d.files.length:=(t.dir.may p J.1).2
  have V:(Qy d s.cur (Qd (X9 l))).1={ d with files:=Yr d.files p.2 (Qd (X9 l)),power:=Y5 d.power }:=by
   unfold Qy at j ⊢;rw[zaa ao] at j ⊢;split at j
   ·cases j
   ·rename_i I
    rw[zaa I];split at j
    ·cases j
    ·rename_i U
     rw[zaa U,N];rfl
  rw[V]
  have ak:c.stop=all.length:=by
   rw[B] at C;obtain⟨m,aJ,aC⟩:=Y1.1 C;rw[<-an];exact aC.2.2
  have aK:0<=c.first:=by
   rw[B] at C;have H:=ZaY C c (by simp)
   have I:=ae.log.f0;omega
  have D:(Y3 s s.cur l).log.pcs=a++[⟨c.name,c.first,c.stop+l.length⟩]:=by
   show((if s.cur=0 then s.log.start s.cur s.next else s.log).add l).pcs=_
   rw[zaa k];show Zc s.log.pcs l.length=_;rw[B,ZaN]
  have T:Zfl kind (all++l) (Yr d.files p.2 (Qd (X9 l))) E0 a:=(k1.files fun q hq=>ZaT (fun e=>ZgD t.dir.rise t.dir.apart y hq e.symm)).allMore l
  have hF:Zfn kind (all++l) (fl (Yr d.files p.2 (Qd (X9 l))) p.2) c.first.toNat (c.stop+(l.length:Int)).toNat lo:=by
   rw[ZcY aE];rw[ak,za9] at k4;have:=k4.grow u;have O:(c.stop+(l.length:Int)).toNat=(all++l).length:=by rw[ak,length_append];omega
   rw[O];exact this
  have Y:Xz kind (all++l) (Yr d.files p.2 (Qd (X9 l))) lo (Xe (Qm d)) (a++[⟨c.name,c.first,c.stop+l.length⟩]):=by
   rw[y];exact J8.2 ⟨T,k2,by show c.first<c.stop+(l.length:Int);omega,hF⟩
  obtain⟨K,Z,W,Q⟩:=h.bas;refine⟨P,ai,h.syn,aa,?_,fun z=>absurd z k,⟨K,?_,W,Q⟩,fun v=>?_,fun v=>?_⟩
  ·show Xz kind (all++l) (Yr d.files p.2 (Qd (X9 l))) lo (Xe (Qm d)) (Y3 s s.cur l).log.pcs
   rw[D];exact Y
  ·exact(Zjs.files Z fun q hq=>ZaT (fun e=>Zju t.dir.apart hq J.1 J.2 e.symm)).allMore l
  ·have w:(if s.cur=0 then true else s.nw)=false:=v
   rw[zaa k] at w;exact h.nw0 w
  ·have w:(if s.cur=0 then true else s.nw)=true:=v
   rw[zaa k] at w;obtain⟨f,a',c',z,X,aA,aF,E,R⟩:=h.nw1 w;have ay:s.log.pcs=a'++[c']:=aA;have aw:=List.append_inj' (B.symm.trans ay) rfl;have am:c=c':=zff aw.2;refine⟨f,a,⟨c.name,c.first,c.stop+l.length⟩,z,X,D,?_,E,R⟩;show(lo:Int)<=c.first;rw[am];exact aF
end Go.Proofs.YtnahjngbneicaaaGreatDoor
