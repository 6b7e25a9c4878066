import Derived.Test.YtnahjngbneicaaaGreatDoorStoreStrC
namespace Go.Proofs.YtnahjngbneicaaaGreatDoor
open _root_.Go.Proofs.Tryz
set_option maxRecDepth 100000
variable {d:Dk} {b:List UInt8} {c:Ch}
theorem Zwr (g:look (Qm d) 1=none) (a:(Qy d 1 b).2=0):(Qy d 1 b).1={ d with files:=Yr (d.files++[⟨[],0⟩]) d.files.length b,waits:=d.waits++[.give 1 d.files.length],power:=Y5 d.power }:=by
 have e:=Zff a;unfold Qy at a ⊢;rw[zaa e] at a ⊢;split at a
 ·cases a
 ·rename_i f
  rw[zaa f];split at a
  ·cases a
  ·rename_i c
   rw[zaa c,g];rfl
theorem ZtK (a:(Qy d 1 b).2≠0):(Qy d 1 b).2=10∨d.power=0:=by
 by_cases e:d.power=0
 ·exact .inr e
 ·left
  unfold Qy at a ⊢;rw[zaa e] at a ⊢;rw[zaa (show ¬ ZdE 1=false by decide)] at a ⊢
  split at a
  ·rename_i c
   rw[zab c]
  ·rename_i c
   split at a <;> exact absurd rfl a
inductive CkR (kind:Int) (all:List Rec) (lo n:Nat) (y:SDk × Int):Prop where
 | done (h0:y.2=0) (h1:OnI kind y.1 all all.length n) (h2:y.1.2.waits=[]) (h3:y.1.1.base=y.1.1.now)
 | full (h0:y.2≠0) (h1:OnI kind y.1 all all.length n) (h2:¬ Z6 y.1.1.now∨y.2=10∨y.1.2.power=0)
 | down (h0:y.2≠0) (h1:OnI kind y.1 all lo n) (h2:y.1.2.power=0)
 | dark (h0:y.2≠0) (h1:ZcZ kind y.1 all all.length)
theorem Zrr (a:d.waits=[c]) (k:Nat):Ym d k=d.kept∨Ym d k=chD d.kept c:=by
 unfold Ym;rw[a]
 match k with
 | 0=>exact .inl rfl
 | k+1=>right;simp
theorem Zyb {e:Ch} (a:d.waits=[c,e]) (k:Nat):Ym d k=d.kept∨Ym d k=chD d.kept c∨Ym d k=chD (chD d.kept c) e:=by
 unfold Ym;rw[a]
 match k with
 | 0=>exact .inl rfl
 | 1=>right;left;rfl
 | k+2=>right;right;simp
theorem OnI.checkpoint {kind:Int} {s:Sto} {all:List Rec} {lo n:Nat} (h:OnI kind (s,d) all lo n) (hr:X4 (s,d) all n) (aW:0<=kind) (ba:kind<6) (hn:n<=1000):CkR kind all lo (n+1) (Xp (s,d)):=by
 have aX:=h.str.sync hr;have ac:=hr.sync;have S:=Zjw (s,d);have aC:=Zhc (s,d);have a7:=Zfa (s,d);have G:(J5 (s,d)).2≠0->Xp (s,d)=J5 (s,d):=fun O=>by unfold Xp;rw[zaa O]
 have aL:(J5 (s,d)).2=0->Xp (s,d)=(({ (J5 (s,d)).1.1 with bases:=(J5 (s,d)).1.1.bases++[(J5 (s,d)).1.1.now] },(J5 (s,d)).1.2),0):=fun O=>by unfold Xp;rw[zab O]
 have l:J5 (s,d)=if(Q5 (s,d)).2=0 then Qv [ZcG,Yy,ZbN,Xm (fun d=>X3 d 1),Gs,Qq] (Q5 (s,d)).1 else Q5 (s,d):=rfl
 generalize J5 (s,d)=M at G aL l a7;rcases aX with ⟨K,w,aw,-⟩ | ⟨K,w,ax⟩
 case inr=>
  rw[zaa K] at l;rw[G (by rw[l];exact K),l]
  refine .down K ⟨w,?_,fun m y=>?_,fun hc=>?_⟩ ax
  ·rw[ZaD S];exact h.one
  ·rw[ZaD S] at y
   have:=h.nam m y;omega
  ·rw[aC.2.1] at hc
   exact h.cz hc
 rw[zab K] at l;have ai:1 ∉ Qk (Q5 (s,d)).1.2:=by rw[ZaD S];exact h.one
 have af:∀ m ∈ Qk (Q5 (s,d)).1.2,m<=2*(n:Int)+1:=by rw[ZaD S];exact h.nam
 generalize (Q5 (s,d)).1=y1 at w aw ac ai af l;obtain⟨i,a⟩:=y1;clear S aC K h hr;have bm:i.nw=false:=aw;have aJ:a.waits=[]:=w.nw0 aw;have aA:OnI kind (i,a) all all.length (n+1):=⟨w,ai,fun m y=>by have:=af m y;omega,fun _=>rfl⟩
 have ae:OkD a:=ac.okd;have V:Qm a=a.kept:=by unfold Qm;rw[aJ];rfl
 have aB:Jl kind all all.length a.files a.kept:=by
  have:=w.good ac all.length zL (.inl zL) zL 0;rw[Zei] at this;exact this
 have z:Xa a.kept:=ae.kept.rise
 have aD:look (Qm a) 1=none:=by
  cases hl:look (Qm a) 1 with
  | none=>rfl
  | some f=>exact absurd ((Y2 ae 1).2 ⟨f,hl⟩) ai
 have ar:i.now=X7 kind all all.length:=w.now
 -- the state
 have en:ZcG (i,a)=((i,a),if Z6 i.now then 0 else 1):=rfl
 rw[Qv,en] at l;by_cases I:Z6 i.now
 case neg=>
  rw[zaa (show ¬ (if Z6 i.now then(0:Int) else 1)=0 by rw[zaa I];decide),zaa I] at l
  rw[G (by rw[l];show(1:Int)≠0;decide),l]
  exact .full (show(1:Int)≠0 by decide) aA (.inl I)
 rw[zab I,zab rfl] at l
 have ec:Yy (i,a)=((i,a),0):=by
  unfold Yy;rw[zaa ai]
 rw[Qv,ec,zab rfl] at l
 have ew:ZbN (i,a)=((i,(Qy a 1 (ZjA i.now)).1),(Qy a 1 (ZjA i.now)).2):=by
  show((i,(Qy a 1 (if Z6 i.now then ZjA i.now else[])).1),(Qy a 1 (if Z6 i.now then ZjA i.now else[])).2)=_
  rw[zab I]
 have R:=ac.write aD;rw[Qv,ew] at l;rw[ew] at R;obtain⟨b,hb⟩:=zgy (ZjA i.now);rw[<-hb] at l R
 dsimp only at l R
 by_cases D:(Qy a 1 b).2=0
 case neg=>
  rw[zaa D,ZbQ D] at l;rw[G (by rw[l];exact D),l]
  exact .full D aA (.inr (ZtK D))
 rw[zab D] at l;have N:=Zwr aD D;obtain⟨F,W⟩:=zgy a.files.length;rw[<-W] at N;obtain⟨H,ad⟩:=zgy (Yr (a.files++[⟨[],0⟩]) F b);have aZ:F<H.length:=by rw[ad,W];unfold Yr;simp
 have bb:fl H F=⟨b,0⟩:=by
  rw[ad,W,ZcY (by simp),ZhS]
  rfl
 have aP:∀ g,g<F->fl H g=fl a.files g:=fun g hg=>by rw[ad,ZaT (by omega),ZeB (by omega)]
 rw[<-ad,aJ] at N;have aj:∀ p ∈ a.kept,p.2<F:=fun p q=>by rw[W];exact(ae.kept.may p q).2
 have aG:Jl kind all all.length H a.kept:=aB.files fun p q=>aP p.2 (aj p q)
 have a9:Jl kind all all.length H (Yt a.kept 1 (some F)):=aG.sorts (Zhe z _) (Zmo z _);obtain⟨v,aH⟩:=zgy ((Qy a 1 b).1);rw[<-aH] at N l R;clear D aH;have B:v.files=H∧v.kept=a.kept∧v.waits=[.give 1 F]:=by rw[N];exact⟨rfl,rfl,rfl⟩
 have a0:OkD v:=R.okd;clear N
 have a2:∀ k,Jl kind all all.length v.files (Ym v k):=fun k=>by
  rw[B.1];rcases Zrr B.2.2 k with e | e
  ·rw[e,B.2.1];exact aG
  ·rw[e,B.2.1];exact a9
 have bd:Qm v=Yt a.kept 1 (some F):=by
  unfold Qm;rw[B.2.1,B.2.2];rfl
 have a6:look (Qm v) 1=some F:=by rw[bd,Zaw z,zab rfl]
 have ap:∀ (s':Sto) (d':Dk) (c:Int),s'.synced=i.synced->c≠0->d'.power=0->(∀ k,Jl kind all all.length d'.files (Ym d' k))->CkR kind all lo (n+1) ((s',d'),c):=fun s' d' c g1 g2 g3 g4=>.dark g2 ⟨w.al,g3,g4,g1.trans w.syn,fun _=>rfl⟩
 -- its file is synced
 have e3:Xm (fun d=>X3 d 1) (i,v)=((i,(X3 v 1).1),(X3 v 1).2):=rfl
 rw[Qv,e3] at l
 dsimp only at l
 by_cases ak:v.power=0
 ·rw[Zok ak,zaa (show ¬ (11:Int)=0 by decide)] at l
  rw[G (by rw[l];show(11:Int)≠0;decide),l]
  exact ap i v 11 rfl (by decide) ak a2
 have am:X3 v 1=({ v with files:=Gd v.files F,power:=Y5 v.power },0):=by
  unfold X3;rw[zaa ak,a6]
 rw[am,zab rfl] at l;obtain⟨t,Z⟩:∃ t:Dk,t={ v with files:=Gd v.files F,power:=Y5 v.power }:=⟨_,rfl⟩
 have ag:OkD t:=by
  have:=a0.sync 1;rw[am] at this;rw[Z];exact this
 rw[<-Z] at l;clear am;obtain⟨x,aq⟩:=zgy (Gd H F);have bc:fl x F=⟨b,b.length⟩:=by rw[aq,ZgC aZ,bb]
 have ao:∀ g,g<F->fl x g=fl a.files g:=fun g hg=>by rw[aq,Zcr (by omega),aP g hg]
 have A:t.files=x∧t.kept=a.kept∧t.waits=[.give 1 F]:=by rw[Z,aq,<-B.1];exact⟨rfl,B.2.1,B.2.2⟩
 clear Z;have Y:Jl kind all all.length x a.kept:=aB.files fun p q=>ao p.2 (aj p q)
 have aM:Jl kind all all.length x (Yt a.kept 1 (some F)):=Y.sorts (Zhe z _) (Zmo z _)
 have az:Qm t=Yt a.kept 1 (some F):=by
  unfold Qm;rw[A.2.1,A.2.2];rfl
 have a5:look (Qm t) 1=some F:=by rw[az,Zaw z,zab rfl]
 -- its name
 have e4:Gs (i,t)=((i,(Ji t 1 (Xs t 3)).1),(Ji t 1 (Xs t 3)).2):=rfl;rw[Qv,e4] at l
 dsimp only at l
 by_cases ay:t.power=0
 ·rw[Zqo ay,zaa (show ¬ (11:Int)=0 by decide)] at l
  rw[G (by rw[l];show(11:Int)≠0;decide),l]
  refine ap i t 11 rfl (by decide) ay fun k=>?_
  rw[A.1];rcases Zrr A.2.2 k with e | e
  ·rw[e,A.2.1];exact Y
  ·rw[e,A.2.1];exact aM
 have aU:=Zan (d:=t) 3;have aE:=Zec ag 3
 have a4:∀ m ∈ Qk t,m<=2*(n:Int)+1:=fun m y=>by
  rw[Y2 ag,az] at y;obtain⟨f,hf⟩:=y;rw[Zaw z] at hf;split at hf
  ·omega
  ·refine af m ((Y2 ae m).2 ⟨f,?_⟩)
   rw[V];exact hf
 have a3:=Zjx (first:=3) a4 (by omega)
 obtain⟨u,aI⟩:=zgy (Xs t 3);rw[<-aI] at aU aE a3 l;clear aI;have a8:ZdE u=true:=(ZxO u).2 ⟨by omega,by omega⟩
 have an:Ji t 1 u=({ t with waits:=t.waits++[.move 1 u F],power:=Y5 t.power },0):=by
  unfold Ji;rw[zaa ay,a5]
  dsimp only
  rw[zaa (show ¬ ZdE u=false by rw[a8];decide),zaa (show ¬ (1:Int)=u by omega)]
 rw[an,zab rfl] at l;obtain⟨j,U⟩:∃ j:Dk,j={ t with waits:=t.waits++[.move 1 u F],power:=Y5 t.power }:=⟨_,rfl⟩
 have bk:OkD j:=by
  have:=ag.rename 1 u;rw[an] at this;rw[U];exact this
 rw[<-U] at l;have C:j.files=x∧j.kept=a.kept∧j.waits=[.give 1 F,.move 1 u F]:=by rw[U,<-A.1];exact⟨rfl,A.2.1,by show t.waits++_=_;rw[A.2.2];rfl⟩
 clear an U;obtain⟨E,av⟩:=zgy (chD (chD a.kept (.give 1 F)) (.move 1 u F));have X:E=Yt (Yt (Yt a.kept 1 (some F)) 1 none) u (some F):=av;have T:Xa (Yt a.kept 1 (some F)):=Yo z _ _;have aR:Xa (Yt (Yt a.kept 1 (some F)) 1 none):=Yo T _ _;have aY:ZtR u=true:=(Zfi u).2 ⟨by omega,by omega⟩
 have be:Zro u=false:=by
  cases hE:Zro u with
  | false=>rfl
  | true=>
   have:=(Zfh u).1 hE;omega
 have aF:Xe E=Xe a.kept:=by
  rw[X,show Xe (Yt (Yt (Yt a.kept 1 (some F)) 1 none) u (some F))=Xe (Yt (Yt a.kept 1 (some F)) 1 none) from Jt aR Zro be _,Zhe T,Zhe z]
 have aK:Zdn E=Zdn a.kept++[(u,F)]:=by
  rw[X,show Zdn (Yt (Yt (Yt a.kept 1 (some F)) 1 none) u (some F))=Zdn (Yt (Yt a.kept 1 (some F)) 1 none)++[(u,F)] from ZcX aR ZtR aY F (fun p q he=>?_),Zmo T,Zmo z]
  have h3:=(Zfi p.1).1 he;refine aE p.1 ((Y2 ag p.1).2 ⟨p.2,?_⟩) h3.1 (by omega)
  rw[az,Zb T];rw[Zo] at q;rcases q with ⟨q,-⟩ | ⟨-,q⟩
  ·exact q
  ·cases q
 have ab:(fl x F).k=(fl x F).b.length∧(fl x F).b=ZjA (X7 kind all all.length):=by
  rw[bc,hb,ar];exact⟨rfl,rfl⟩
 have aO:Z6 (X7 kind all all.length):=by rw[<-ar];exact I
 have aS:=ZkY w.al aW ba all.length;have aT:Jl kind all all.length x E:=Y.base (p:=(u,F)) aF aK ab.1 ab.2 aO aS
 have bg:∀ k,Jl kind all all.length j.files (Ym j k):=fun k=>by
  rw[C.1];rcases Zyb C.2.2 k with e | e | e
  ·rw[e,C.2.1];exact Y
  ·rw[e,C.2.1];exact aM
  ·rw[e,C.2.1,<-av];exact aT
 have bj:Qm j=E:=by
  unfold Qm;rw[C.2.1,C.2.2,av]
  rfl
 -- all names are kept
 have J:=Zdm Qq (i,j);have e6:Qq (i,j)=((if(Qn j).2=0 then { i with nw:=false } else i,(Qn j).1),(Qn j).2):=rfl
 by_cases au:j.power=0
 ·rw[e6,ZcV au] at J
  have L:M=((i,j),11):=by
   rw[l];exact Prod.ext J.1 J.2
  rw[G (by rw[L];show(11:Int)≠0;decide),L]
  exact ap i j 11 rfl (by decide) au bg
 have aV:Qn j=({ j with kept:=Qm j,waits:=[],power:=Y5 j.power },0):=by
  unfold Qn;rw[zaa au]
 rw[e6,aV] at J
 have L:M=(({ i with nw:=false },{ j with kept:=Qm j,waits:=[],power:=Y5 j.power }),0):=by
  rw[l];exact Prod.ext J.1 J.2
 rw[aL (by rw[L]),L]
 dsimp only
 have aa:Qm ({ j with kept:=Qm j,waits:=[],power:=Y5 j.power }:Dk)=E:=bj
 have aN:({ i with nw:=false,bases:=i.bases++[i.now] }:Sto).base=i.now:=Zjn i.bases i.now
 obtain⟨js,bf,bn,bl⟩:=w.bas;have a1:∀ p ∈ Xe a.kept,p.2<F:=fun p q=>aj p (zax.1 q).1
 have bi:Xz kind all x all.length (Xe a.kept) i.log.pcs:=by
  have Q:Xz kind all a.files all.length (Xe (Qm a)) i.log.pcs:=w.seg;rw[V] at Q;exact Q.files fun p q=>ao p.2 (a1 p q)
 have aQ:Xz kind all j.files all.length (Xe (Qm ({ j with kept:=Qm j,waits:=[],power:=Y5 j.power }:Dk))) i.log.pcs:=by
  rw[aa,aF,C.1];exact bi
 refine .done rfl ⟨⟨w.al,w.now,w.syn,zat _,aQ,fun _=>aQ,⟨js++[all.length],?_,?_,?_⟩,fun _=>rfl,fun O=>by cases O⟩,fun y=>?_,fun m y=>?_,fun _=>rfl⟩ rfl aN
 ·show Zjs kind all j.files (Zdn (Qm ({ j with kept:=Qm j,waits:=[],power:=Y5 j.power }:Dk))) (js++[all.length])
  rw[aa,aK,C.1];refine Zjv ab.1 ab.2 ⟨aO,zat _⟩ aS ?_;have Q:Zjs kind all a.files (Zdn (Qm a)) js:=bf;rw[V] at Q;exact Zjs.files Q fun p q=>ao p.2 (aj p (zax.1 q).1)
 ·show({ i with nw:=false,bases:=i.bases++[i.now] }:Sto).base.idx=_
  rw[aN,ZbT,ar];exact Zox w.al kind zL
 ·rw[ZbT]
  exact zat _
 ·have P:1 ∈ (Qm ({ j with kept:=Qm j,waits:=[],power:=Y5 j.power }:Dk)).map Prod.fst:=y
  rw[aa,X] at P;obtain⟨p,q,ax⟩:=zbd.1 P;rw[Zo,Zo] at q;rcases q with ⟨⟨-,q⟩ | ⟨-,q⟩,-⟩ | ⟨q,-⟩
  ·exact q ax
  ·cases q
  ·omega
 ·have P:m ∈ (Qm ({ j with kept:=Qm j,waits:=[],power:=Y5 j.power }:Dk)).map Prod.fst:=y
  rw[aa,X] at P;obtain⟨p,q,rfl⟩:=zbd.1 P;rw[Zo,Zo,Zo] at q;rcases q with ⟨⟨⟨q,-⟩ | ⟨q,-⟩,-⟩ | ⟨-,q⟩,-⟩ | ⟨q,-⟩
  ·have:p.1 ∈ Qk a:=zbd.2 ⟨p,by rw[V];exact q,rfl⟩
   have:=af p.1 this;omega
  ·omega
  ·cases q
  ·omega
end Go.Proofs.YtnahjngbneicaaaGreatDoor
