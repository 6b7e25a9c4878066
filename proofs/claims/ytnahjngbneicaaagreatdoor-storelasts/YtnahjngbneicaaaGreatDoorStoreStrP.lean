import Derived.Test.YtnahjngbneicaaaGreatDoorStoreStrN
namespace Go.Proofs.YtnahjngbneicaaaGreatDoor
open _root_.Go.Proofs.Tryz
open List (length_append)
set_option maxRecDepth 100000
variable {all l:List Rec} {kind:Int} {fs:List Fl} {f:Nat} {b:List UInt8}
theorem ZbG.more (h:ZbG all) (a:Xl all.length l) (b:∀ r ∈ l,Qz r):ZbG (all++l):=by
 refine⟨Gx.2 ⟨h.1,by rw[Int.zero_add];exact a⟩,fun r hr=>?_⟩
 rcases List.mem_append.1 hr with hr | hr
 ·exact h.2 r hr
 ·exact b r hr
theorem ZtI (h:ZbG (all++l)) (kind:Int):(Q3 (X7 kind all all.length) l).1=X7 kind (all++l) (all++l).length:=by
 have a:=ZkW h kind (j:=all.length) (e:=(all++l).length) (by rw[length_append];omega)
 rw[List.take_length,Zfj kind all l zL] at a;have e:(all++l).drop all.length=l:=by simp
 rw[e] at a;rw[a]
theorem Zjs.allMore (l:List Rec):∀ {O:Dir} {a:List Nat},Zjs kind all fs O a->Zjs kind (all++l) fs O a
 | [],[],_=>trivial
 | _::_,j::a,⟨h1,h2,h3,h4,h5⟩=>by
  have e:=Zfj kind all l h3.2;exact⟨h1,by rw[e];exact h2,⟨by rw[e];exact h3.1,by rw[length_append];have:=h3.2;omega⟩,by rw[e];exact h4,Zjs.allMore l h5⟩
 | [],_::_,h=>h.elim
 | _::_,[],h=>h.elim
theorem ZaT {g:Nat} (h:f≠g):fl (Yr fs f b) g=fl fs g:=by
 unfold Yr;exact Jf h _
theorem ZcY (h:f<fs.length):fl (Yr fs f b) f=⟨(fl fs f).b++b,(fl fs f).k⟩:=by
 unfold Yr;exact Zao h _
theorem Zfk.append {s:Sto} {d:Dk} {lo n:Nat} (h:Zfk kind (s,d) all lo) (B:X4 (s,d) all n) (az:s.now.st.kind=kind) (l:List Rec):
 Zfk kind (X5 l (s,d)).1 (if(X5 l (s,d)).2=0 then all++l else all) lo:=by
 have ag:OkS s:=B.ok;have u:OkD d:=B.okd;unfold X5;by_cases t:Yc l
 case neg=>
  rw[if_pos t,if_neg (show ¬ (1:Int)=0 by decide)]
  exact h
 rw[if_neg (fun v=>v t)]
 by_cases V:(l.headD Qi).idx=s.next
 case neg=>
  rw[if_pos V,if_neg (show ¬ (15:Int)=0 by decide)]
  exact h
 rw[if_neg (fun v=>v V)]
 dsimp only
 by_cases j:(Qy d (Jr s d) (Jv s l)).2=0
 case neg=>
  rw[if_neg j,if_neg j,ZbQ j];exact h
 rw[if_pos j,if_pos rfl];have K:s.next=all.length:=B.len;have ak:s.log.next=all.length:=B.len;have ad:Xl s.next l:=by rw[<-V];exact t.2.2.2
 have ar:l≠[]:=fun e=>by rw[e] at t;exact absurd t.1 (by decide)
 have aL:=Zde ad t.2.2.1 ar;have aJ:1<=l.length:=t.1;have Y:ZbG (all++l):=h.al.more (by rw[<-K];exact ad) t.2.2.1
 have af:(Q3 s.now l).1=X7 kind (all++l) (all++l).length:=by
  have:s.now=X7 kind all all.length:=h.now;rw[this];exact ZtI Y kind
 have aq:lo<=(all++l).length:=by rw[length_append];have:=h.lol;omega
 have D:Ga s.log.first s.log.pcs s.log.next:=ag.log.ch;have ap:=Zff j;by_cases k:s.cur=0
 ·-- another segment
  have Q:Jr s d=Xs d 2:=by unfold Jr;rw[if_pos k]
  have S:Jv s l=Qd (Xq 3 kind.toNat all.length)++Qd (X9 l):=by
   unfold Jv;rw[if_pos k,az,K,Int.toNat_natCast]
  have av:s.nw=false:=by
   cases U:s.nw with
   | false=>rfl
   | true=>
    obtain⟨-,-,-,x,-⟩:=h.nw1 U;exact absurd k x
  have ac:d.waits=[]:=h.nw0 av;have ae:d.kept=Qm d:=by unfold Qm;rw[ac];rfl
  obtain⟨i,an⟩:∃ i,i=Xs d 2:=⟨_,rfl⟩;have aD:=Zan (d:=d) 2;have ao:=Zec u 2;rw[<-an] at aD ao;rw[Q,<-an] at j ⊢;rw[S] at j ⊢;have L:Zro i=true:=(Zfh i).2 ⟨by omega,by omega⟩
  have aa:ZtR i=false:=by
   cases ho:ZtR i with
   | false=>rfl
   | true=>
    have:=(Zfi i).1 ho;omega
  have ai:∀ p ∈ Qm d,Zro p.1=true->p.1<i:=fun p z he=>by
   have H:=(Zfh p.1).1 he;exact ao p.1 (List.mem_map.2 ⟨p,z,rfl⟩) H.1 (by omega)
  have N:look (Qm d) i=none:=by
   rw[ZtS];intro p z e;have:=ai p z (by rw[e];exact L)
   omega
  obtain⟨b,hb⟩:∃ b,b=Qd (Xq 3 kind.toNat all.length)++Qd (X9 l):=⟨_,rfl⟩;rw[<-hb] at j ⊢
  have M:(Qy d i b).1={ d with files:=Yr (d.files++[⟨[],0⟩]) d.files.length b,waits:=d.waits++[.give i d.files.length],power:=Y5 d.power }:=by
   unfold Qy at j ⊢;rw[if_neg ap] at j ⊢;split at j
   ·cases j
   ·rename_i I
    rw[if_neg I];split at j
    ·cases j
    ·rename_i Z
     rw[if_neg Z,N];rfl
  rw[M]
  have aC:fl (Yr (d.files++[⟨[],0⟩]) d.files.length b) d.files.length=⟨b,0⟩:=by
   rw[ZcY (by simp),ZhS]
   rfl
  have ab:∀ g,g<d.files.length->fl (Yr (d.files++[⟨[],0⟩]) d.files.length b) g=fl d.files g:=fun g hg=>by
   rw[ZaT (by omega),ZeB hg]
  have J:Qm { d with files:=Yr (d.files++[⟨[],0⟩]) d.files.length b,waits:=d.waits++[.give i d.files.length],power:=Y5 d.power }=Yt (Qm d) i (some d.files.length):=by
   show(d.waits++[_]).foldl chD d.kept=_;rw[List.foldl_append];rfl
  have y:Xe (Yt (Qm d) i (some d.files.length))=Xe (Qm d)++[(i,d.files.length)]:=ZcX u.dir.rise Zro L _ ai;have hO:Zdn (Yt (Qm d) i (some d.files.length))=Zdn (Qm d):=Jt u.dir.rise ZtR aa _
  have A:(Y3 s i l).log.pcs=s.log.pcs++[⟨i,s.next,s.next+l.length⟩]:=by
   show((if s.cur=0 then s.log.start i s.next else s.log).add l).pcs=_
   rw[if_pos k];show Zc (s.log.pcs++[⟨i,s.next,s.next⟩]) l.length=_;rw[ZaN]
  have O:Zfl kind (all++l) (Yr (d.files++[⟨[],0⟩]) d.files.length b) (Xe (Qm d)) s.log.pcs:=by
   have H:=Xz.toQ (h.cur0 k) D (by rw[ak];simp)
   exact(H.files fun p z=>ab p.2 (u.dir.may p (List.mem_filter.1 z).1).2).allMore l
  have aw:Zfn kind (all++l) ⟨b,0⟩ all.length (all++l).length lo:=by
   rw[hb];exact ZxY t (by omega) h.lol
  have R:Xz kind (all++l) (Yr (d.files++[⟨[],0⟩]) d.files.length b) lo (Xe (Qm d)++[(i,d.files.length)]) (s.log.pcs++[⟨i,s.next,s.next+l.length⟩]):=by
   refine J8.2 ⟨O,rfl,by show s.next<s.next+(l.length:Int);omega,?_⟩
   show Zfn kind (all++l) (fl (Yr (d.files++[⟨[],0⟩]) d.files.length b) d.files.length) s.next.toNat (s.next+(l.length:Int)).toNat lo;have e2:s.next.toNat=all.length:=by rw[K];simp
   have P:(s.next+(l.length:Int)).toNat=(all++l).length:=by rw[K,length_append];omega
   rw[aC,e2,P];exact aw
  obtain⟨G,X,T,W⟩:=h.bas;refine⟨Y,af,h.syn,aq,?_,fun x=>?_,⟨G,?_,T,W⟩,fun v=>?_,fun _=>⟨d.files.length,s.log.pcs,⟨i,s.next,s.next+l.length⟩,?_,?_,A,?_,?_,?_⟩⟩
  ·show Xz kind (all++l) (Yr (d.files++[⟨[],0⟩]) d.files.length b) lo (Xe (Qm _)) (Y3 s i l).log.pcs
   rw[J,y,A];exact R
  ·have am:i=0:=x
   omega
  ·show Zjs kind (all++l) (Yr (d.files++[⟨[],0⟩]) d.files.length b) (Zdn (Qm _)) G
   rw[J,hO];exact(Zjs.files X fun p z=>ab p.2 (u.dir.may p (List.mem_filter.1 z).1).2).allMore l
  ·have w:(if s.cur=0 then true else s.nw)=false:=v
   rw[if_pos k] at w
   cases w
  ·show i≠0
   omega
  ·show d.waits++[.give i d.files.length]=[.give i d.files.length]
   rw[ac];rfl
  ·show(lo:Int)<=s.next
   have:=h.lol;omega
  ·show Xe (Qm _)=Xe d.kept++[(i,d.files.length)]
   rw[J,y,ae]
  ·show Zdn (Qm _)=Zdn d.kept
   rw[J,hO,ae]
 ·-- the current one
  have Q:Jr s d=s.cur:=by unfold Jr;rw[if_neg k]
  have S:Jv s l=Qd (X9 l):=by unfold Jv;rw[if_neg k]
  rw[Q,S] at j ⊢;obtain⟨a,c,ax,aE⟩:=B.curL k;have C:s.log.pcs=a++[c]:=ax;have aH:c.name=s.cur:=aE;have F:Xz kind all d.files lo (Xe (Qm d)) s.log.pcs:=h.seg;rw[C] at F;obtain⟨E0,p,y⟩:=F.split;rw[y] at F;obtain⟨k1,k2,k3,k4⟩:=J8.1 F;have E:=ZaH y
  have N:look (Qm d) s.cur=some p.2:=by
   rw[Zb u.dir.rise,<-aH,<-k2];exact E.1
  have aB:p.2<d.files.length:=(u.dir.may p E.1).2
  have M:(Qy d s.cur (Qd (X9 l))).1={ d with files:=Yr d.files p.2 (Qd (X9 l)),power:=Y5 d.power }:=by
   unfold Qy at j ⊢;rw[if_neg ap] at j ⊢;split at j
   ·cases j
   ·rename_i I
    rw[if_neg I];split at j
    ·cases j
    ·rename_i Z
     rw[if_neg Z,N];rfl
  rw[M]
  have aj:c.stop=all.length:=by
   rw[C] at D;obtain⟨m,aI,aF⟩:=Y1.1 D;rw[<-ak];exact aF.2.2
  have aK:0<=c.first:=by
   rw[C] at D;have H:=ZaY D c (by simp)
   have I:=ag.log.f0;omega
  have A:(Y3 s s.cur l).log.pcs=a++[⟨c.name,c.first,c.stop+l.length⟩]:=by
   show((if s.cur=0 then s.log.start s.cur s.next else s.log).add l).pcs=_
   rw[if_neg k];show Zc s.log.pcs l.length=_;rw[C,ZaN]
  have O:Zfl kind (all++l) (Yr d.files p.2 (Qd (X9 l))) E0 a:=(k1.files fun q hq=>ZaT (fun e=>ZgD u.dir.rise u.dir.apart y hq e.symm)).allMore l
  have hF:Zfn kind (all++l) (fl (Yr d.files p.2 (Qd (X9 l))) p.2) c.first.toNat (c.stop+(l.length:Int)).toNat lo:=by
   rw[ZcY aB];rw[aj,Int.toNat_natCast] at k4;have:=k4.grow t;have P:(c.stop+(l.length:Int)).toNat=(all++l).length:=by rw[aj,length_append];omega
   rw[P];exact this
  have R:Xz kind (all++l) (Yr d.files p.2 (Qd (X9 l))) lo (Xe (Qm d)) (a++[⟨c.name,c.first,c.stop+l.length⟩]):=by
   rw[y];exact J8.2 ⟨O,k2,by show c.first<c.stop+(l.length:Int);omega,hF⟩
  obtain⟨G,X,T,W⟩:=h.bas;refine⟨Y,af,h.syn,aq,?_,fun x=>absurd x k,⟨G,?_,T,W⟩,fun v=>?_,fun v=>?_⟩
  ·show Xz kind (all++l) (Yr d.files p.2 (Qd (X9 l))) lo (Xe (Qm d)) (Y3 s s.cur l).log.pcs
   rw[A];exact R
  ·exact(Zjs.files X fun q hq=>ZaT (fun e=>Zju u.dir.apart hq E.1 E.2 e.symm)).allMore l
  ·have w:(if s.cur=0 then true else s.nw)=false:=v
   rw[if_neg k] at w;exact h.nw0 w
  ·have w:(if s.cur=0 then true else s.nw)=true:=v
   rw[if_neg k] at w;obtain⟨f,a',c',x,U,aA,ay,L,aa⟩:=h.nw1 w;have aG:s.log.pcs=a'++[c']:=aA;have au:=List.append_inj' (C.symm.trans aG) rfl;have am:c=c':=List.head_eq_of_cons_eq au.2;refine⟨f,a,⟨c.name,c.first,c.stop+l.length⟩,x,U,A,?_,L,aa⟩;show(lo:Int)<=c.first;rw[am];exact ay
end Go.Proofs.YtnahjngbneicaaaGreatDoor
