import Derived.Test.YtnahjngbneicaaaGreatDoorStoreStrC
namespace Go.Proofs.YtnahjngbneicaaaGreatDoor
set_option linter.unusedSimpArgs false
open _root_.Go.Proofs.Tryz
set_option maxRecDepth 100000
variable {d:Dk} {b:List UInt8} {c:Ch}
theorem ZwE (e:look (Qm d) 1=none) (a:(Qy d 1 b).2=0):(Qy d 1 b).1={ d with files:=Yt (d.files++[⟨[],0⟩]) d.files.length b,waits:=d.waits++[.give 1 d.files.length],power:=Ye d.power }:=by
 have f:=Zfm a;unfold Qy at a ⊢;rw[zaa f] at a ⊢;split at a
 ·cases a
 ·rename_i g
  rw[zaa g];split at a
  ·cases a
  ·rename_i c
   rw[zaa c,e];rfl
theorem Zua (a:(Qy d 1 b).2≠0):(Qy d 1 b).2=10∨d.power=0:=by
 by_cases e:d.power=0
 ·exact .inr e
 ·left
  unfold Qy at a ⊢;rw[zaa e] at a ⊢;rw[zaa (show ¬ ZdM 1=false by decide)] at a ⊢
  split at a
  ·rename_i c
   rw[zab c]
  ·rename_i c
   split at a <;> exact absurd rfl a
inductive CkR (kind:Int) (all:List Rec) (lo n:Nat) (y:SDk × Int):Prop where
 | done (h0:y.2=0) (h1:OnI kind y.1 all all.length n) (h2:y.1.2.waits=[]) (h3:y.1.1.base=y.1.1.now)
 | full (h0:y.2≠0) (h1:OnI kind y.1 all all.length n) (h2:¬ Zs y.1.1.now∨y.2=10∨y.1.2.power=0)
 | down (h0:y.2≠0) (h1:OnI kind y.1 all lo n) (h2:y.1.2.power=0)
 | dark (h0:y.2≠0) (h1:ZcZ kind y.1 all all.length)
theorem ZrH (a:d.waits=[c]) (k:Nat):Yo d k=d.kept∨Yo d k=chD d.kept c:=by
 unfold Yo;rw[a]
 match k with
 | 0=>exact .inl rfl
 | k+1=>right;simp
theorem Zyv {e:Ch} (a:d.waits=[c,e]) (k:Nat):Yo d k=d.kept∨Yo d k=chD d.kept c∨Yo d k=chD (chD d.kept c) e:=by
 unfold Yo;rw[a]
 match k with
 | 0=>exact .inl rfl
 | 1=>right;left;rfl
 | k+2=>right;right;simp
theorem OnI.checkpoint {kind:Int} {s:Sto} {all:List Rec} {lo n:Nat} (h:OnI kind (s,d) all lo n) (hr:X0 (s,d) all n) (a8:0<=kind) (aW:kind<6) (hn:n<=1000):CkR kind all lo (n+1) (Qs (s,d)):=by
 have be:=h.str.sync hr;have ac:=hr.sync;have Q:=ZjE (s,d);have aE:=Zhs (s,d);have ba:=ZcU (s,d);have G:(J1 (s,d)).2≠0->Qs (s,d)=J1 (s,d):=fun P=>by unfold Qs;rw[zaa P]
 have az:(J1 (s,d)).2=0->Qs (s,d)=(({ (J1 (s,d)).1.1 with bases:=(J1 (s,d)).1.1.bases++[(J1 (s,d)).1.1.now] },(J1 (s,d)).1.2),0):=fun P=>by unfold Qs;rw[zab P]
 have l:J1 (s,d)=if(Q5 (s,d)).2=0 then Qv [ZcE,Yy,ZbO,Xo (fun d=>Xz d 1),Gx,Qp] (Q5 (s,d)).1 else Q5 (s,d):=rfl
 generalize J1 (s,d)=M at G az l ba;rcases be with ⟨J,w,ao,-⟩ | ⟨J,w,aq⟩
 case inr=>
  rw[zaa J] at l;rw[G (by rw[l];exact J),l]
  refine .down J ⟨w,?_,fun m y=>?_,fun hc=>?_⟩ aq
  ·rw[ZaE Q];exact h.one
  ·rw[ZaE Q] at y
   have:=h.nam m y;omega
  ·rw[aE.2.1] at hc
   exact h.cz hc
 rw[zab J] at l;have aa:1 ∉ Qk (Q5 (s,d)).1.2:=by rw[ZaE Q];exact h.one
 have ab:∀ m ∈ Qk (Q5 (s,d)).1.2,m<=2*(n:Int)+1:=by rw[ZaE Q];exact h.nam
 generalize (Q5 (s,d)).1=y1 at w ao ac aa ab l;obtain⟨i,a⟩:=y1;clear Q aE J h hr;have bj:i.nw=false:=ao;have aJ:a.waits=[]:=w.nw0 ao;have aL:OnI kind (i,a) all all.length (n+1):=⟨w,aa,fun m y=>by have:=ab m y;omega,fun _=>rfl⟩
 have ae:OkD a:=ac.okd;have hL:Qm a=a.kept:=by unfold Qm;rw[aJ];rfl
 have aK:Jo kind all all.length a.files a.kept:=by
  have:=w.good ac all.length zL (.inl zL) zL 0;rw[Zes] at this;exact this
 have z:Xb a.kept:=ae.kept.rise
 have aO:look (Qm a) 1=none:=by
  cases hl:look (Qm a) 1 with
  | none=>rfl
  | some f=>exact absurd ((Y6 ae 1).2 ⟨f,hl⟩) aa
 have ak:i.now=Xv kind all all.length:=w.now
 -- the state
 have en:ZcE (i,a)=((i,a),if Zs i.now then 0 else 1):=rfl
 rw[Qv,en] at l;by_cases I:Zs i.now
 case neg=>
  rw[zaa (show ¬ (if Zs i.now then(0:Int) else 1)=0 by rw[zaa I];decide),zaa I] at l
  rw[G (by rw[l];show(1:Int)≠0;decide),l]
  exact .full (show(1:Int)≠0 by decide) aL (.inl I)
 rw[zab I,zab rfl] at l
 have ec:Yy (i,a)=((i,a),0):=by
  unfold Yy;rw[zaa aa]
 rw[Qv,ec,zab rfl] at l
 have ew:ZbO (i,a)=((i,(Qy a 1 (ZjN i.now)).1),(Qy a 1 (ZjN i.now)).2):=by
  show((i,(Qy a 1 (if Zs i.now then ZjN i.now else[])).1),(Qy a 1 (if Zs i.now then ZjN i.now else[])).2)=_
  rw[zab I]
 have O:=ac.write aO;rw[Qv,ew] at l;rw[ew] at O;obtain⟨b,hb⟩:=zg7 (ZjN i.now);rw[<-hb] at l O
 dsimp only at l O
 by_cases E:(Qy a 1 b).2=0
 case neg=>
  rw[zaa E,Zbb E] at l;rw[G (by rw[l];exact E),l]
  exact .full E aL (.inr (Zua E))
 rw[zab E] at l;have N:=ZwE aO E;obtain⟨F,X⟩:=zg7 a.files.length;rw[<-X] at N;obtain⟨H,af⟩:=zg7 (Yt (a.files++[⟨[],0⟩]) F b);have a6:F<H.length:=by rw[af,X];unfold Yt;simp
 have aV:fl H F=⟨b,0⟩:=by
  rw[af,X,ZcY (by simp),Zif]
  rfl
 have aF:∀ g,g<F->fl H g=fl a.files g:=fun g hg=>by rw[af,ZaT (by omega),ZeL (by omega)]
 rw[<-af,aJ] at N;have U:∀ p ∈ a.kept,p.2<F:=fun p q=>by rw[X];exact(ae.kept.may p q).2
 have aH:Jo kind all all.length H a.kept:=aK.files fun p q=>aF p.2 (U p q)
 have aY:Jo kind all all.length H (Yv a.kept 1 (some F)):=aH.sorts (Zhu z _) (ZmF z _);obtain⟨v,aM⟩:=zg7 ((Qy a 1 b).1);rw[<-aM] at N l O;clear E aM;have A:v.files=H∧v.kept=a.kept∧v.waits=[.give 1 F]:=by rw[N];exact⟨rfl,rfl,rfl⟩
 have aZ:OkD v:=O.okd;clear N
 have bc:∀ k,Jo kind all all.length v.files (Yo v k):=fun k=>by
  rw[A.1];rcases ZrH A.2.2 k with e | e
  ·rw[e,A.2.1];exact aH
  ·rw[e,A.2.1];exact aY
 have a2:Qm v=Yv a.kept 1 (some F):=by
  unfold Qm;rw[A.2.1,A.2.2];rfl
 have a9:look (Qm v) 1=some F:=by rw[a2,Zax z,zab rfl]
 have ar:∀ (s':Sto) (d':Dk) (c:Int),s'.synced=i.synced->c≠0->d'.power=0->(∀ k,Jo kind all all.length d'.files (Yo d' k))->CkR kind all lo (n+1) ((s',d'),c):=fun s' d' c g1 g2 g3 g4=>.dark g2 ⟨w.al,g3,g4,g1.trans w.syn,fun _=>rfl⟩
 -- its file is synced
 have e3:Xo (fun d=>Xz d 1) (i,v)=((i,(Xz v 1).1),(Xz v 1).2):=rfl
 rw[Qv,e3] at l
 dsimp only at l
 by_cases av:v.power=0
 ·rw[ZoD av,zaa (show ¬ (11:Int)=0 by decide)] at l
  rw[G (by rw[l];show(11:Int)≠0;decide),l]
  exact ar i v 11 rfl (by decide) av bc
 have au:Xz v 1=({ v with files:=Gi v.files F,power:=Ye v.power },0):=by
  unfold Xz;rw[zaa av,a9]
 rw[au,zab rfl] at l;obtain⟨t,W⟩:∃ t:Dk,t={ v with files:=Gi v.files F,power:=Ye v.power }:=⟨_,rfl⟩
 have ad:OkD t:=by
  have:=aZ.sync 1;rw[au] at this;rw[W];exact this
 rw[<-W] at l;clear au;obtain⟨x,am⟩:=zg7 (Gi H F);have bf:fl x F=⟨b,b.length⟩:=by rw[am,ZgL a6,aV]
 have aj:∀ g,g<F->fl x g=fl a.files g:=fun g hg=>by rw[am,Zcq (by omega),aF g hg]
 have C:t.files=x∧t.kept=a.kept∧t.waits=[.give 1 F]:=by rw[W,am,<-A.1];exact⟨rfl,A.2.1,A.2.2⟩
 clear W;have ai:Jo kind all all.length x a.kept:=aK.files fun p q=>aj p.2 (U p q)
 have aN:Jo kind all all.length x (Yv a.kept 1 (some F)):=ai.sorts (Zhu z _) (ZmF z _)
 have ay:Qm t=Yv a.kept 1 (some F):=by
  unfold Qm;rw[C.2.1,C.2.2];rfl
 have bb:look (Qm t) 1=some F:=by rw[ay,Zax z,zab rfl]
 -- its name
 have e4:Gx (i,t)=((i,(Z1 t 1 (Xs t 3)).1),(Z1 t 1 (Xs t 3)).2):=rfl;rw[Qv,e4] at l
 dsimp only at l
 by_cases aw:t.power=0
 ·rw[ZqA aw,zaa (show ¬ (11:Int)=0 by decide)] at l
  rw[G (by rw[l];show(11:Int)≠0;decide),l]
  refine ar i t 11 rfl (by decide) aw fun k=>?_
  rw[C.1];rcases ZrH C.2.2 k with e | e
  ·rw[e,C.2.1];exact ai
  ·rw[e,C.2.1];exact aN
 have a7:=Zan (d:=t) 3;have aQ:=Zel ad 3
 have a3:∀ m ∈ Qk t,m<=2*(n:Int)+1:=fun m y=>by
  rw[Y6 ad,ay] at y;obtain⟨f,hf⟩:=y;rw[Zax z] at hf;split at hf
  ·omega
  ·refine ab m ((Y6 ae m).2 ⟨f,?_⟩)
   rw[hL];exact hf
 have aX:=ZjF (first:=3) a3 (by omega)
 obtain⟨u,aG⟩:=zg7 (Xs t 3);rw[<-aG] at a7 aQ aX l;clear aG;have a0:ZdM u=true:=(Zym u).2 ⟨by omega,by omega⟩
 have an:Z1 t 1 u=({ t with waits:=t.waits++[.move 1 u F],power:=Ye t.power },0):=by
  unfold Z1;rw[zaa aw,bb]
  dsimp only
  rw[zaa (show ¬ ZdM u=false by rw[a0];decide),zaa (show ¬ (1:Int)=u by omega)]
 rw[an,zab rfl] at l;obtain⟨j,Z⟩:∃ j:Dk,j={ t with waits:=t.waits++[.move 1 u F],power:=Ye t.power }:=⟨_,rfl⟩
 have bk:OkD j:=by
  have:=ad.rename 1 u;rw[an] at this;rw[Z];exact this
 rw[<-Z] at l;have B:j.files=x∧j.kept=a.kept∧j.waits=[.give 1 F,.move 1 u F]:=by rw[Z,<-C.1];exact⟨rfl,C.2.1,by show t.waits++_=_;rw[C.2.2];rfl⟩
 clear an Z;obtain⟨D,ax⟩:=zg7 (chD (chD a.kept (.give 1 F)) (.move 1 u F));have Y:D=Yv (Yv (Yv a.kept 1 (some F)) 1 none) u (some F):=ax;have T:Xb (Yv a.kept 1 (some F)):=Yq z _ _;have aP:Xb (Yv (Yv a.kept 1 (some F)) 1 none):=Yq T _ _;have aT:Zul u=true:=(Zfq u).2 ⟨by omega,by omega⟩
 have a4:ZrE u=false:=by
  cases hE:ZrE u with
  | false=>rfl
  | true=>
   have:=(Zfp u).1 hE;omega
 have aA:Xg D=Xg a.kept:=by
  rw[Y,show Xg (Yv (Yv (Yv a.kept 1 (some F)) 1 none) u (some F))=Xg (Yv (Yv a.kept 1 (some F)) 1 none) from Jw aP ZrE a4 _,Zhu T,Zhu z]
 have aB:Dj D=Dj a.kept++[(u,F)]:=by
  rw[Y,show Dj (Yv (Yv (Yv a.kept 1 (some F)) 1 none) u (some F))=Dj (Yv (Yv a.kept 1 (some F)) 1 none)++[(u,F)] from ZcX aP Zul aT F (fun p q he=>?_),ZmF T,ZmF z]
  have h3:=(Zfq p.1).1 he;refine aQ p.1 ((Y6 ad p.1).2 ⟨p.2,?_⟩) h3.1 (by omega)
  rw[ay,Y2 T];rw[Zt] at q;rcases q with ⟨q,-⟩ | ⟨-,q⟩
  ·exact q
  ·cases q
 have ag:(fl x F).k=(fl x F).b.length∧(fl x F).b=ZjN (Xv kind all all.length):=by
  rw[bf,hb,ak];exact⟨rfl,rfl⟩
 have aR:Zs (Xv kind all all.length):=by rw[<-ak];exact I
 have aI:=Zlo w.al a8 aW all.length;have bi:Jo kind all all.length x D:=ai.base (p:=(u,F)) aA aB ag.1 ag.2 aR aI
 have a5:∀ k,Jo kind all all.length j.files (Yo j k):=fun k=>by
  rw[B.1];rcases Zyv B.2.2 k with e | e | e
  ·rw[e,B.2.1];exact ai
  ·rw[e,B.2.1];exact aN
  ·rw[e,B.2.1,<-ax];exact bi
 have aU:Qm j=D:=by
  unfold Qm;rw[B.2.1,B.2.2,ax]
  rfl
 -- all names are kept
 have K:=Zds Qp (i,j);have e6:Qp (i,j)=((if(Qn j).2=0 then { i with nw:=false } else i,(Qn j).1),(Qn j).2):=rfl
 by_cases ap:j.power=0
 ·rw[e6,ZcV ap] at K
  have L:M=((i,j),11):=by
   rw[l];exact Prod.ext K.1 K.2
  rw[G (by rw[L];show(11:Int)≠0;decide),L]
  exact ar i j 11 rfl (by decide) ap a5
 have bg:Qn j=({ j with kept:=Qm j,waits:=[],power:=Ye j.power },0):=by
  unfold Qn;rw[zaa ap]
 rw[e6,bg] at K
 have L:M=(({ i with nw:=false },{ j with kept:=Qm j,waits:=[],power:=Ye j.power }),0):=by
  rw[l];exact Prod.ext K.1 K.2
 rw[az (by rw[L]),L]
 dsimp only
 have V:Qm ({ j with kept:=Qm j,waits:=[],power:=Ye j.power }:Dk)=D:=aU
 have aC:({ i with nw:=false,bases:=i.bases++[i.now] }:Sto).base=i.now:=Zjx i.bases i.now
 obtain⟨js,a1,bm,bl⟩:=w.bas;have bd:∀ p ∈ Xg a.kept,p.2<F:=fun p q=>U p (za3.1 q).1
 have aS:X4 kind all x all.length (Xg a.kept) i.log.pcs:=by
  have R:X4 kind all a.files all.length (Xg (Qm a)) i.log.pcs:=w.seg;rw[hL] at R;exact R.files fun p q=>aj p.2 (bd p q)
 have aD:X4 kind all j.files all.length (Xg (Qm ({ j with kept:=Qm j,waits:=[],power:=Ye j.power }:Dk))) i.log.pcs:=by
  rw[V,aA,B.1];exact aS
 refine .done rfl ⟨⟨w.al,w.now,w.syn,za0 _,aD,fun _=>aD,⟨js++[all.length],?_,?_,?_⟩,fun _=>rfl,fun P=>by cases P⟩,fun y=>?_,fun m y=>?_,fun _=>rfl⟩ rfl aC
 ·show ZjB kind all j.files (Dj (Qm ({ j with kept:=Qm j,waits:=[],power:=Ye j.power }:Dk))) (js++[all.length])
  rw[V,aB,B.1];refine ZjD ag.1 ag.2 ⟨aR,za0 _⟩ aI ?_;have R:ZjB kind all a.files (Dj (Qm a)) js:=a1;rw[hL] at R;exact ZjB.files R fun p q=>aj p.2 (U p (za3.1 q).1)
 ·show({ i with nw:=false,bases:=i.bases++[i.now] }:Sto).base.idx=_
  rw[aC,ZbT,ak];exact Zfo w.al kind zL
 ·rw[ZbT]
  exact za0 _
 ·have S:1 ∈ (Qm ({ j with kept:=Qm j,waits:=[],power:=Ye j.power }:Dk)).map Prod.fst:=y
  rw[V,Y] at S;obtain⟨p,q,aq⟩:=zbm.1 S;rw[Zt,Zt] at q;rcases q with ⟨⟨-,q⟩ | ⟨-,q⟩,-⟩ | ⟨q,-⟩
  ·exact q aq
  ·cases q
  ·omega
 ·have S:m ∈ (Qm ({ j with kept:=Qm j,waits:=[],power:=Ye j.power }:Dk)).map Prod.fst:=y
  rw[V,Y] at S;obtain⟨p,q,rfl⟩:=zbm.1 S;rw[Zt,Zt,Zt] at q;rcases q with ⟨⟨⟨q,-⟩ | ⟨q,-⟩,-⟩ | ⟨-,q⟩,-⟩ | ⟨q,-⟩
  ·have:p.1 ∈ Qk a:=zbm.2 ⟨p,by rw[hL];exact q,rfl⟩
   have:=ab p.1 this;omega
  ·omega
  ·cases q
  ·omega
end Go.Proofs.YtnahjngbneicaaaGreatDoor
