import Derived.Test.YtnahjngbneicaaaGreatDoorStoreStrN
namespace Go.Proofs.YtnahjngbneicaaaGreatDoor
open _root_.Go.Proofs.Tryz
open List (length_append)
set_option maxRecDepth 100000
variable {all l:List Rec} {kind:Int} {fs:List Fl} {f:Nat} {b:List UInt8}
theorem ZbG.more (h:ZbG all) (b:Xl all.length l) (a:∀ r ∈ l,Qz r):ZbG (all++l):=by
 refine⟨Gx.2 ⟨h.1,by rw[Int.zero_add];exact b⟩,fun r hr=>?_⟩
 rcases List.mem_append.1 hr with hr | hr
 ·exact h.2 r hr
 ·exact a r hr
theorem ZtI (h:ZbG (all++l)) (kind:Int):(Q3 (X7 kind all all.length) l).1=X7 kind (all++l) (all++l).length:=by
 have a:=ZkW h kind (j:=all.length) (e:=(all++l).length) (by rw[length_append];omega)
 rw[List.take_length,Zfj kind all l zL] at a;have e:(all++l).drop all.length=l:=by simp
 rw[e] at a;rw[a]
theorem Zjs.allMore (l:List Rec):∀ {O:Dir} {a:List Nat},Zjs kind all fs O a->Zjs kind (all++l) fs O a
 | [],[],_=>trivial
 | _::_,j::a,⟨h1,h2,h3,h4,h5⟩=>by
  have e:=Zfj kind all l h3.2;exact⟨h1,by rw[e];exact h2,⟨by rw[e];exact h3.1,by rw[length_append];have:=h3.2;omega⟩,by rw[e];exact h4,Zjs.allMore l h5⟩
 | [],_::_,h=>h.elim
 | _::_,[],h=>h.elim
theorem ZaT {g:Nat} (h:f≠g):fl (Yr fs f b) g=fl fs g:=by
 unfold Yr;exact Jf h _
theorem ZcY (h:f<fs.length):fl (Yr fs f b) f=⟨(fl fs f).b++b,(fl fs f).k⟩:=by
 unfold Yr;exact Zao h _
theorem Zfk.append {s:Sto} {d:Dk} {lo n:Nat} (h:Zfk kind (s,d) all lo) (D:X4 (s,d) all n) (ar:s.now.st.kind=kind) (l:List Rec):
 Zfk kind (X5 l (s,d)).1 (if(X5 l (s,d)).2=0 then all++l else all) lo:=by
 have ah:OkS s:=D.ok;have t:OkD d:=D.okd;unfold X5;by_cases u:Yc l
 case neg=>
  rw[if_pos u,if_neg (show ¬ (1:Int)=0 by decide)]
  exact h
 rw[if_neg (fun v=>v u)]
 by_cases M:(l.headD Qi).idx=s.next
 case neg=>
  rw[if_pos M,if_neg (show ¬ (15:Int)=0 by decide)]
  exact h
 rw[if_neg (fun v=>v M)]
 dsimp only
 by_cases j:(Qy d (Jr s d) (Jv s l)).2=0
 case neg=>
  rw[if_neg j,if_neg j,ZbQ j];exact h
 rw[if_pos j,if_pos rfl];have L:s.next=all.length:=D.len;have af:s.log.next=all.length:=D.len;have ad:Xl s.next l:=by rw[<-M];exact u.2.2.2
 have aB:l≠[]:=fun e=>by rw[e] at u;exact absurd u.1 (by decide)
 have aG:=Zde ad u.2.2.1 aB;have aJ:1<=l.length:=u.1;have O:ZbG (all++l):=h.al.more (by rw[<-L];exact ad) u.2.2.1
 have aa:(Q3 s.now l).1=X7 kind (all++l) (all++l).length:=by
  have:s.now=X7 kind all all.length:=h.now;rw[this];exact ZtI O kind
 have ao:lo<=(all++l).length:=by rw[length_append];have:=h.lol;omega
 have A:Ga s.log.first s.log.pcs s.log.next:=ah.log.ch;have am:=Zff j;by_cases k:s.cur=0
 ·-- another segment
  have Y:Jr s d=Xs d 2:=by unfold Jr;rw[if_pos k]
  have V:Jv s l=Qd (Xq 3 kind.toNat all.length)++Qd (X9 l):=by
   unfold Jv;rw[if_pos k,ar,L,Int.toNat_natCast]
  have aE:s.nw=false:=by
   cases S:s.nw with
   | false=>rfl
   | true=>
    obtain⟨-,-,-,y,-⟩:=h.nw1 S;exact absurd k y
  have ae:d.waits=[]:=h.nw0 aE;have ag:d.kept=Qm d:=by unfold Qm;rw[ae];rfl
  obtain⟨i,ab⟩:∃ i,i=Xs d 2:=⟨_,rfl⟩;have ap:=Zan (d:=d) 2;have ak:=Zec t 2;rw[<-ab] at ap ak;rw[Y,<-ab] at j ⊢;rw[V] at j ⊢;have F:Zro i=true:=(Zfh i).2 ⟨by omega,by omega⟩
  have R:ZtR i=false:=by
   cases ho:ZtR i with
   | false=>rfl
   | true=>
    have:=(Zfi i).1 ho;omega
  have ai:∀ p ∈ Qm d,Zro p.1=true->p.1<i:=fun p x he=>by
   have G:=(Zfh p.1).1 he;exact ak p.1 (List.mem_map.2 ⟨p,x,rfl⟩) G.1 (by omega)
  have X:look (Qm d) i=none:=by
   rw[ZtS];intro p x e;have:=ai p x (by rw[e];exact F)
   omega
  obtain⟨b,hb⟩:∃ b,b=Qd (Xq 3 kind.toNat all.length)++Qd (X9 l):=⟨_,rfl⟩;rw[<-hb] at j ⊢
  have Z:(Qy d i b).1={ d with files:=Yr (d.files++[⟨[],0⟩]) d.files.length b,waits:=d.waits++[.give i d.files.length],power:=Y5 d.power }:=by
   unfold Qy at j ⊢;rw[if_neg am] at j ⊢;split at j
   ·cases j
   ·rename_i I
    rw[if_neg I];split at j
    ·cases j
    ·rename_i P
     rw[if_neg P,X];rfl
  rw[Z]
  have aA:fl (Yr (d.files++[⟨[],0⟩]) d.files.length b) d.files.length=⟨b,0⟩:=by
   rw[ZcY (by simp),ZhS]
   rfl
  have aj:∀ g,g<d.files.length->fl (Yr (d.files++[⟨[],0⟩]) d.files.length b) g=fl d.files g:=fun g hg=>by
   rw[ZaT (by omega),ZeB hg]
  have K:Qm { d with files:=Yr (d.files++[⟨[],0⟩]) d.files.length b,waits:=d.waits++[.give i d.files.length],power:=Y5 d.power }=Yt (Qm d) i (some d.files.length):=by
   show(d.waits++[_]).foldl chD d.kept=_;rw[List.foldl_append];rfl
  have z:Xe (Yt (Qm d) i (some d.files.length))=Xe (Qm d)++[(i,d.files.length)]:=ZcX t.dir.rise Zro F _ ai;have hO:Zdn (Yt (Qm d) i (some d.files.length))=Zdn (Qm d):=Jt t.dir.rise ZtR R _
  have B:(Y3 s i l).log.pcs=s.log.pcs++[⟨i,s.next,s.next+l.length⟩]:=by
   show((if s.cur=0 then s.log.start i s.next else s.log).add l).pcs=_
   rw[if_pos k];show Zc (s.log.pcs++[⟨i,s.next,s.next⟩]) l.length=_;rw[ZaN]
  have T:Zfl kind (all++l) (Yr (d.files++[⟨[],0⟩]) d.files.length b) (Xe (Qm d)) s.log.pcs:=by
   have G:=Xz.toQ (h.cur0 k) A (by rw[af];simp)
   exact(G.files fun p x=>aj p.2 (t.dir.may p (List.mem_filter.1 x).1).2).allMore l
  have aD:Zfn kind (all++l) ⟨b,0⟩ all.length (all++l).length lo:=by
   rw[hb];exact ZxY u (by omega) h.lol
  have hS:Xz kind (all++l) (Yr (d.files++[⟨[],0⟩]) d.files.length b) lo (Xe (Qm d)++[(i,d.files.length)]) (s.log.pcs++[⟨i,s.next,s.next+l.length⟩]):=by
   refine J8.2 ⟨T,rfl,by show s.next<s.next+(l.length:Int);omega,?_⟩
   show Zfn kind (all++l) (fl (Yr (d.files++[⟨[],0⟩]) d.files.length b) d.files.length) s.next.toNat (s.next+(l.length:Int)).toNat lo;have e2:s.next.toNat=all.length:=by rw[L];simp
   have U:(s.next+(l.length:Int)).toNat=(all++l).length:=by rw[L,length_append];omega
   rw[aA,e2,U];exact aD
  obtain⟨E,Q,N,W⟩:=h.bas;refine⟨O,aa,h.syn,ao,?_,fun y=>?_,⟨E,?_,N,W⟩,fun v=>?_,fun _=>⟨d.files.length,s.log.pcs,⟨i,s.next,s.next+l.length⟩,?_,?_,B,?_,?_,?_⟩⟩
  ·show Xz kind (all++l) (Yr (d.files++[⟨[],0⟩]) d.files.length b) lo (Xe (Qm _)) (Y3 s i l).log.pcs
   rw[K,z,B];exact hS
  ·have ac:i=0:=y
   omega
  ·show Zjs kind (all++l) (Yr (d.files++[⟨[],0⟩]) d.files.length b) (Zdn (Qm _)) E
   rw[K,hO];exact(Zjs.files Q fun p x=>aj p.2 (t.dir.may p (List.mem_filter.1 x).1).2).allMore l
  ·have w:(if s.cur=0 then true else s.nw)=false:=v
   rw[if_pos k] at w
   cases w
  ·show i≠0
   omega
  ·show d.waits++[.give i d.files.length]=[.give i d.files.length]
   rw[ae];rfl
  ·show(lo:Int)<=s.next
   have:=h.lol;omega
  ·show Xe (Qm _)=Xe d.kept++[(i,d.files.length)]
   rw[K,z,ag]
  ·show Zdn (Qm _)=Zdn d.kept
   rw[K,hO,ag]
 ·-- the current one
  have Y:Jr s d=s.cur:=by unfold Jr;rw[if_neg k]
  have V:Jv s l=Qd (X9 l):=by unfold Jv;rw[if_neg k]
  rw[Y,V] at j ⊢;obtain⟨a,c,au,aw⟩:=D.curL k;have C:s.log.pcs=a++[c]:=au;have aF:c.name=s.cur:=aw;have J:Xz kind all d.files lo (Xe (Qm d)) s.log.pcs:=h.seg;rw[C] at J;obtain⟨E0,p,z⟩:=J.split;rw[z] at J;obtain⟨k1,k2,k3,k4⟩:=J8.1 J;have H:=ZaH z
  have X:look (Qm d) s.cur=some p.2:=by
   rw[Zb t.dir.rise,<-aF,<-k2];exact H.1
  have ax:p.2<d.files.length:=(t.dir.may p H.1).2
  have Z:(Qy d s.cur (Qd (X9 l))).1={ d with files:=Yr d.files p.2 (Qd (X9 l)),power:=Y5 d.power }:=by
   unfold Qy at j ⊢;rw[if_neg am] at j ⊢;split at j
   ·cases j
   ·rename_i I
    rw[if_neg I];split at j
    ·cases j
    ·rename_i P
     rw[if_neg P,X];rfl
  rw[Z]
  have an:c.stop=all.length:=by
   rw[C] at A;obtain⟨m,aH,aC⟩:=Y1.1 A;rw[<-af];exact aC.2.2
  have aI:0<=c.first:=by
   rw[C] at A;have G:=ZaY A c (by simp)
   have I:=ah.log.f0;omega
  have B:(Y3 s s.cur l).log.pcs=a++[⟨c.name,c.first,c.stop+l.length⟩]:=by
   show((if s.cur=0 then s.log.start s.cur s.next else s.log).add l).pcs=_
   rw[if_neg k];show Zc s.log.pcs l.length=_;rw[C,ZaN]
  have T:Zfl kind (all++l) (Yr d.files p.2 (Qd (X9 l))) E0 a:=(k1.files fun q hq=>ZaT (fun e=>ZgD t.dir.rise t.dir.apart z hq e.symm)).allMore l
  have hF:Zfn kind (all++l) (fl (Yr d.files p.2 (Qd (X9 l))) p.2) c.first.toNat (c.stop+(l.length:Int)).toNat lo:=by
   rw[ZcY ax];rw[an,Int.toNat_natCast] at k4;have:=k4.grow u;have U:(c.stop+(l.length:Int)).toNat=(all++l).length:=by rw[an,length_append];omega
   rw[U];exact this
  have hS:Xz kind (all++l) (Yr d.files p.2 (Qd (X9 l))) lo (Xe (Qm d)) (a++[⟨c.name,c.first,c.stop+l.length⟩]):=by
   rw[z];exact J8.2 ⟨T,k2,by show c.first<c.stop+(l.length:Int);omega,hF⟩
  obtain⟨E,Q,N,W⟩:=h.bas;refine⟨O,aa,h.syn,ao,?_,fun y=>absurd y k,⟨E,?_,N,W⟩,fun v=>?_,fun v=>?_⟩
  ·show Xz kind (all++l) (Yr d.files p.2 (Qd (X9 l))) lo (Xe (Qm d)) (Y3 s s.cur l).log.pcs
   rw[B];exact hS
  ·exact(Zjs.files Q fun q hq=>ZaT (fun e=>Zju t.dir.apart hq H.1 H.2 e.symm)).allMore l
  ·have w:(if s.cur=0 then true else s.nw)=false:=v
   rw[if_neg k] at w;exact h.nw0 w
  ·have w:(if s.cur=0 then true else s.nw)=true:=v
   rw[if_neg k] at w;obtain⟨f,a',c',y,S,ay,az,F,R⟩:=h.nw1 w;have av:s.log.pcs=a'++[c']:=ay;have aq:=List.append_inj' (C.symm.trans av) rfl;have ac:c=c':=List.head_eq_of_cons_eq aq.2;refine⟨f,a,⟨c.name,c.first,c.stop+l.length⟩,y,S,B,?_,F,R⟩;show(lo:Int)<=c.first;rw[ac];exact az
end Go.Proofs.YtnahjngbneicaaaGreatDoor
