import Derived.Test.YtnahjngbneicaaaGreatDoorStoreStrC
namespace Go.Proofs.YtnahjngbneicaaaGreatDoor
open _root_.Go.Proofs.Tryz
set_option maxRecDepth 100000
variable {d:Dk} {b:List UInt8} {c:Ch}
theorem Zwr (c:look (Qm d) 1=none) (a:(Qy d 1 b).2=0):(Qy d 1 b).1={ d with files:=Yr (d.files++[⟨[],0⟩]) d.files.length b,waits:=d.waits++[.give 1 d.files.length],power:=Y5 d.power }:=by
 have g:=Zff a;unfold Qy at a ⊢;rw[if_neg g] at a ⊢;split at a
 ·cases a
 ·rename_i f
  rw[if_neg f];split at a
  ·cases a
  ·rename_i e
   rw[if_neg e,c];rfl
theorem ZtK (a:(Qy d 1 b).2≠0):(Qy d 1 b).2=10∨d.power=0:=by
 by_cases e:d.power=0
 ·exact .inr e
 ·left
  unfold Qy at a ⊢;rw[if_neg e] at a ⊢;rw[if_neg (show ¬ ZdE 1=false by decide)] at a ⊢
  split at a
  ·rename_i c
   rw[if_pos c]
  ·rename_i c
   split at a <;> exact absurd rfl a
inductive CkR (kind:Int) (all:List Rec) (lo n:Nat) (y:SDk × Int):Prop where
 | done (h0:y.2=0) (h1:OnI kind y.1 all all.length n) (h2:y.1.2.waits=[]) (h3:y.1.1.base=y.1.1.now)
 | full (h0:y.2≠0) (h1:OnI kind y.1 all all.length n) (h2:¬ Z6 y.1.1.now∨y.2=10∨y.1.2.power=0)
 | down (h0:y.2≠0) (h1:OnI kind y.1 all lo n) (h2:y.1.2.power=0)
 | dark (h0:y.2≠0) (h1:ZcZ kind y.1 all all.length)
theorem Zrr (a:d.waits=[c]) (k:Nat):Ym d k=d.kept∨Ym d k=chD d.kept c:=by
 unfold Ym;rw[a]
 match k with
 | 0=>exact .inl rfl
 | k+1=>right;simp
theorem Zyb {e:Ch} (a:d.waits=[c,e]) (k:Nat):Ym d k=d.kept∨Ym d k=chD d.kept c∨Ym d k=chD (chD d.kept c) e:=by
 unfold Ym;rw[a]
 match k with
 | 0=>exact .inl rfl
 | 1=>right;left;rfl
 | k+2=>right;right;simp
theorem OnI.checkpoint {kind:Int} {s:Sto} {all:List Rec} {lo n:Nat} (h:OnI kind (s,d) all lo n) (hr:X4 (s,d) all n) (a2:0<=kind) (a6:kind<6) (hn:n<=1000):CkR kind all lo (n+1) (Xp (s,d)):=by
 have aY:=h.str.sync hr;have ae:=hr.sync;have N:=Zjw (s,d);have aF:=Zhc (s,d);have a1:=Zfa (s,d);have H:(J5 (s,d)).2≠0->Xp (s,d)=J5 (s,d):=fun R=>by unfold Xp;rw[if_neg R]
 have aH:(J5 (s,d)).2=0->Xp (s,d)=(({ (J5 (s,d)).1.1 with bases:=(J5 (s,d)).1.1.bases++[(J5 (s,d)).1.1.now] },(J5 (s,d)).1.2),0):=fun R=>by unfold Xp;rw[if_pos R]
 have l:J5 (s,d)=if(Q5 (s,d)).2=0 then Qv [ZcG,Yy,ZbN,Xm (fun d=>X3 d 1),Gs,Qq] (Q5 (s,d)).1 else Q5 (s,d):=rfl
 generalize J5 (s,d)=M at H aH l a1;rcases aY with ⟨K,w,ai,-⟩ | ⟨K,w,ak⟩
 case inr=>
  rw[if_neg K] at l;rw[H (by rw[l];exact K),l]
  refine .down K ⟨w,?_,fun m x=>?_,fun hc=>?_⟩ ak
  ·rw[ZaD N];exact h.one
  ·rw[ZaD N] at x
   have:=h.nam m x;omega
  ·rw[aF.2.1] at hc
   exact h.cz hc
 rw[if_pos K] at l;have V:1 ∉ Qk (Q5 (s,d)).1.2:=by rw[ZaD N];exact h.one
 have ac:∀ m ∈ Qk (Q5 (s,d)).1.2,m<=2*(n:Int)+1:=by rw[ZaD N];exact h.nam
 generalize (Q5 (s,d)).1=y1 at w ai ae V ac l;obtain⟨i,a⟩:=y1;clear N aF K h hr;have bi:i.nw=false:=ai;have aD:a.waits=[]:=w.nw0 ai;have aK:OnI kind (i,a) all all.length (n+1):=⟨w,V,fun m x=>by have:=ac m x;omega,fun _=>rfl⟩
 have ab:OkD a:=ae.okd;have hL:Qm a=a.kept:=by unfold Qm;rw[aD];rfl
 have az:Jl kind all all.length a.files a.kept:=by
  have:=w.good ae all.length zL (.inl zL) zL 0;rw[Zei] at this;exact this
 have z:Xa a.kept:=ab.kept.rise
 have aB:look (Qm a) 1=none:=by
  cases hl:look (Qm a) 1 with
  | none=>rfl
  | some f=>exact absurd ((Y2 ab 1).2 ⟨f,hl⟩) V
 have aq:i.now=X7 kind all all.length:=w.now
 -- the state
 have en:ZcG (i,a)=((i,a),if Z6 i.now then 0 else 1):=rfl
 rw[Qv,en] at l;by_cases J:Z6 i.now
 case neg=>
  rw[if_neg (show ¬ (if Z6 i.now then(0:Int) else 1)=0 by rw[if_neg J];decide),if_neg J] at l
  rw[H (by rw[l];show(1:Int)≠0;decide),l]
  exact .full (show(1:Int)≠0 by decide) aK (.inl J)
 rw[if_pos J,if_pos rfl] at l
 have ec:Yy (i,a)=((i,a),0):=by
  unfold Yy;rw[if_neg V]
 rw[Qv,ec,if_pos rfl] at l
 have ew:ZbN (i,a)=((i,(Qy a 1 (ZjA i.now)).1),(Qy a 1 (ZjA i.now)).2):=by
  show((i,(Qy a 1 (if Z6 i.now then ZjA i.now else[])).1),(Qy a 1 (if Z6 i.now then ZjA i.now else[])).2)=_
  rw[if_pos J]
 have S:=ae.write aB;rw[Qv,ew] at l;rw[ew] at S;obtain⟨b,hb⟩:∃ b,b=ZjA i.now:=⟨_,rfl⟩;rw[<-hb] at l S
 dsimp only at l S
 by_cases D:(Qy a 1 b).2=0
 case neg=>
  rw[if_neg D,ZbQ D] at l;rw[H (by rw[l];exact D),l]
  exact .full D aK (.inr (ZtK D))
 rw[if_pos D] at l;have O:=Zwr aB D;obtain⟨F,hF⟩:∃ F,F=a.files.length:=⟨_,rfl⟩;rw[<-hF] at O;obtain⟨G,W⟩:∃ fs,fs=Yr (a.files++[⟨[],0⟩]) F b:=⟨_,rfl⟩;have aZ:F<G.length:=by rw[W,hF];unfold Yr;simp
 have bb:fl G F=⟨b,0⟩:=by
  rw[W,hF,ZcY (by simp),ZhS]
  rfl
 have aC:∀ g,g<F->fl G g=fl a.files g:=fun g hg=>by rw[W,ZaT (by omega),ZeB (by omega)]
 rw[<-W,aD] at O;have Y:∀ p ∈ a.kept,p.2<F:=fun p q=>by rw[hF];exact(ab.kept.may p q).2
 have ay:Jl kind all all.length G a.kept:=az.files fun p q=>aC p.2 (Y p q)
 have be:Jl kind all all.length G (Yt a.kept 1 (some F)):=ay.sorts (Zhe z _) (Zmo z _);obtain⟨v,aP⟩:∃ v,v=(Qy a 1 b).1:=⟨_,rfl⟩;rw[<-aP] at O l S;clear D aP;have A:v.files=G∧v.kept=a.kept∧v.waits=[.give 1 F]:=by rw[O];exact⟨rfl,rfl,rfl⟩
 have ba:OkD v:=S.okd;clear O
 have bg:∀ k,Jl kind all all.length v.files (Ym v k):=fun k=>by
  rw[A.1];rcases Zrr A.2.2 k with e | e
  ·rw[e,A.2.1];exact ay
  ·rw[e,A.2.1];exact be
 have a3:Qm v=Yt a.kept 1 (some F):=by
  unfold Qm;rw[A.2.1,A.2.2];rfl
 have a9:look (Qm v) 1=some F:=by rw[a3,Zaw z,if_pos rfl]
 have au:∀ (s':Sto) (d':Dk) (c:Int),s'.synced=i.synced->c≠0->d'.power=0->(∀ k,Jl kind all all.length d'.files (Ym d' k))->CkR kind all lo (n+1) ((s',d'),c):=fun s' d' c g1 g2 g3 g4=>.dark g2 ⟨w.al,g3,g4,g1.trans w.syn,fun _=>rfl⟩
 -- its file is synced
 have e3:Xm (fun d=>X3 d 1) (i,v)=((i,(X3 v 1).1),(X3 v 1).2):=rfl
 rw[Qv,e3] at l
 dsimp only at l
 by_cases aw:v.power=0
 ·rw[Zok aw,if_neg (show ¬ (11:Int)=0 by decide)] at l
  rw[H (by rw[l];show(11:Int)≠0;decide),l]
  exact au i v 11 rfl (by decide) aw bg
 have aj:X3 v 1=({ v with files:=Gd v.files F,power:=Y5 v.power },0):=by
  unfold X3;rw[if_neg aw,a9]
 rw[aj,if_pos rfl] at l;obtain⟨t,ad⟩:∃ t:Dk,t={ v with files:=Gd v.files F,power:=Y5 v.power }:=⟨_,rfl⟩
 have Z:OkD t:=by
  have:=ba.sync 1;rw[aj] at this;rw[ad];exact this
 rw[<-ad] at l;clear aj;obtain⟨y,av⟩:∃ fs,fs=Gd G F:=⟨_,rfl⟩;have a8:fl y F=⟨b,b.length⟩:=by rw[av,ZgC aZ,bb]
 have an:∀ g,g<F->fl y g=fl a.files g:=fun g hg=>by rw[av,Zcr (by omega),aC g hg]
 have B:t.files=y∧t.kept=a.kept∧t.waits=[.give 1 F]:=by rw[ad,av,<-A.1];exact⟨rfl,A.2.1,A.2.2⟩
 clear ad;have af:Jl kind all all.length y a.kept:=az.files fun p q=>an p.2 (Y p q)
 have aL:Jl kind all all.length y (Yt a.kept 1 (some F)):=af.sorts (Zhe z _) (Zmo z _)
 have ax:Qm t=Yt a.kept 1 (some F):=by
  unfold Qm;rw[B.2.1,B.2.2];rfl
 have bd:look (Qm t) 1=some F:=by rw[ax,Zaw z,if_pos rfl]
 -- its name
 have e4:Gs (i,t)=((i,(Ji t 1 (Xs t 3)).1),(Ji t 1 (Xs t 3)).2):=rfl;rw[Qv,e4] at l
 dsimp only at l
 by_cases ar:t.power=0
 ·rw[Zqo ar,if_neg (show ¬ (11:Int)=0 by decide)] at l
  rw[H (by rw[l];show(11:Int)≠0;decide),l]
  refine au i t 11 rfl (by decide) ar fun k=>?_
  rw[B.1];rcases Zrr B.2.2 k with e | e
  ·rw[e,B.2.1];exact af
  ·rw[e,B.2.1];exact aL
 have a4:=Zan (d:=t) 3;have aM:=Zec Z 3
 have aT:∀ m ∈ Qk t,m<=2*(n:Int)+1:=fun m x=>by
  rw[Y2 Z,ax] at x;obtain⟨f,hf⟩:=x;rw[Zaw z] at hf;split at hf
  ·omega
  ·refine ac m ((Y2 ab m).2 ⟨f,?_⟩)
   rw[hL];exact hf
 have a5:=Zjx (first:=3) aT (by omega)
 obtain⟨u,aJ⟩:∃ u,u=Xs t 3:=⟨_,rfl⟩;rw[<-aJ] at a4 aM a5 l;clear aJ;have aX:ZdE u=true:=(ZxO u).2 ⟨by omega,by omega⟩
 have ap:Ji t 1 u=({ t with waits:=t.waits++[.move 1 u F],power:=Y5 t.power },0):=by
  unfold Ji;rw[if_neg ar,bd]
  dsimp only
  rw[if_neg (show ¬ ZdE u=false by rw[aX];decide),if_neg (show ¬ (1:Int)=u by omega)]
 rw[ap,if_pos rfl] at l;obtain⟨j,T⟩:∃ j:Dk,j={ t with waits:=t.waits++[.move 1 u F],power:=Y5 t.power }:=⟨_,rfl⟩
 have bl:OkD j:=by
  have:=Z.rename 1 u;rw[ap] at this;rw[T];exact this
 rw[<-T] at l;have C:j.files=y∧j.kept=a.kept∧j.waits=[.give 1 F,.move 1 u F]:=by rw[T,<-B.1];exact⟨rfl,B.2.1,by show t.waits++_=_;rw[B.2.2];rfl⟩
 clear ap T;obtain⟨E,am⟩:∃ E,E=chD (chD a.kept (.give 1 F)) (.move 1 u F):=⟨_,rfl⟩;have ag:E=Yt (Yt (Yt a.kept 1 (some F)) 1 none) u (some F):=am;have X:Xa (Yt a.kept 1 (some F)):=Yo z _ _;have aI:Xa (Yt (Yt a.kept 1 (some F)) 1 none):=Yo X _ _;have aS:ZtR u=true:=(Zfi u).2 ⟨by omega,by omega⟩
 have aW:Zro u=false:=by
  cases hE:Zro u with
  | false=>rfl
  | true=>
   have:=(Zfh u).1 hE;omega
 have aG:Xe E=Xe a.kept:=by
  rw[ag,show Xe (Yt (Yt (Yt a.kept 1 (some F)) 1 none) u (some F))=Xe (Yt (Yt a.kept 1 (some F)) 1 none) from Jt aI Zro aW _,Zhe X,Zhe z]
 have aQ:Zdn E=Zdn a.kept++[(u,F)]:=by
  rw[ag,show Zdn (Yt (Yt (Yt a.kept 1 (some F)) 1 none) u (some F))=Zdn (Yt (Yt a.kept 1 (some F)) 1 none)++[(u,F)] from ZcX aI ZtR aS F (fun p q he=>?_),Zmo X,Zmo z]
  have h3:=(Zfi p.1).1 he;refine aM p.1 ((Y2 Z p.1).2 ⟨p.2,?_⟩) h3.1 (by omega)
  rw[ax,Zb X];rw[Zo] at q;rcases q with ⟨q,-⟩ | ⟨-,q⟩
  ·exact q
  ·cases q
 have U:(fl y F).k=(fl y F).b.length∧(fl y F).b=ZjA (X7 kind all all.length):=by
  rw[a8,hb,aq];exact⟨rfl,rfl⟩
 have aO:Z6 (X7 kind all all.length):=by rw[<-aq];exact J
 have aA:=ZkY w.al a2 a6 all.length;have bc:Jl kind all all.length y E:=af.base (p:=(u,F)) aG aQ U.1 U.2 aO aA
 have aU:∀ k,Jl kind all all.length j.files (Ym j k):=fun k=>by
  rw[C.1];rcases Zyb C.2.2 k with e | e | e
  ·rw[e,C.2.1];exact af
  ·rw[e,C.2.1];exact aL
  ·rw[e,C.2.1,<-am];exact bc
 have aV:Qm j=E:=by
  unfold Qm;rw[C.2.1,C.2.2,am]
  rfl
 -- all names are kept
 have I:=Zdm Qq (i,j);have e6:Qq (i,j)=((if(Qn j).2=0 then { i with nw:=false } else i,(Qn j).1),(Qn j).2):=rfl
 by_cases ao:j.power=0
 ·rw[e6,ZcV ao] at I
  have P:M=((i,j),11):=by
   rw[l];exact Prod.ext I.1 I.2
  rw[H (by rw[P];show(11:Int)≠0;decide),P]
  exact au i j 11 rfl (by decide) ao aU
 have a0:Qn j=({ j with kept:=Qm j,waits:=[],power:=Y5 j.power },0):=by
  unfold Qn;rw[if_neg ao]
 rw[e6,a0] at I
 have P:M=(({ i with nw:=false },{ j with kept:=Qm j,waits:=[],power:=Y5 j.power }),0):=by
  rw[l];exact Prod.ext I.1 I.2
 rw[aH (by rw[P]),P]
 dsimp only
 have aa:Qm ({ j with kept:=Qm j,waits:=[],power:=Y5 j.power }:Dk)=E:=aV
 have aE:({ i with nw:=false,bases:=i.bases++[i.now] }:Sto).base=i.now:=Zjn i.bases i.now
 obtain⟨js,a7,bj,bk⟩:=w.bas;have aR:∀ p ∈ Xe a.kept,p.2<F:=fun p q=>Y p (List.mem_filter.1 q).1
 have bf:Xz kind all y all.length (Xe a.kept) i.log.pcs:=by
  have L:Xz kind all a.files all.length (Xe (Qm a)) i.log.pcs:=w.seg;rw[hL] at L;exact L.files fun p q=>an p.2 (aR p q)
 have aN:Xz kind all j.files all.length (Xe (Qm ({ j with kept:=Qm j,waits:=[],power:=Y5 j.power }:Dk))) i.log.pcs:=by
  rw[aa,aG,C.1];exact bf
 refine .done rfl ⟨⟨w.al,w.now,w.syn,Nat.le_refl _,aN,fun _=>aN,⟨js++[all.length],?_,?_,?_⟩,fun _=>rfl,fun R=>by cases R⟩,fun x=>?_,fun m x=>?_,fun _=>rfl⟩ rfl aE
 ·show Zjs kind all j.files (Zdn (Qm ({ j with kept:=Qm j,waits:=[],power:=Y5 j.power }:Dk))) (js++[all.length])
  rw[aa,aQ,C.1];refine Zjv U.1 U.2 ⟨aO,Nat.le_refl _⟩ aA ?_;have L:Zjs kind all a.files (Zdn (Qm a)) js:=a7;rw[hL] at L;exact Zjs.files L fun p q=>an p.2 (Y p (List.mem_filter.1 q).1)
 ·show({ i with nw:=false,bases:=i.bases++[i.now] }:Sto).base.idx=_
  rw[aE,ZbT,aq];exact Zox w.al kind zL
 ·rw[ZbT]
  exact Nat.le_refl _
 ·have Q:1 ∈ (Qm ({ j with kept:=Qm j,waits:=[],power:=Y5 j.power }:Dk)).map Prod.fst:=x
  rw[aa,ag] at Q;obtain⟨p,q,ak⟩:=List.mem_map.1 Q;rw[Zo,Zo] at q;rcases q with ⟨⟨-,q⟩ | ⟨-,q⟩,-⟩ | ⟨q,-⟩
  ·exact q ak
  ·cases q
  ·omega
 ·have Q:m ∈ (Qm ({ j with kept:=Qm j,waits:=[],power:=Y5 j.power }:Dk)).map Prod.fst:=x
  rw[aa,ag] at Q;obtain⟨p,q,rfl⟩:=List.mem_map.1 Q;rw[Zo,Zo,Zo] at q;rcases q with ⟨⟨⟨q,-⟩ | ⟨q,-⟩,-⟩ | ⟨-,q⟩,-⟩ | ⟨q,-⟩
  ·have:p.1 ∈ Qk a:=List.mem_map.2 ⟨p,by rw[hL];exact q,rfl⟩
   have:=ac p.1 this;omega
  ·omega
  ·cases q
  ·omega
end Go.Proofs.YtnahjngbneicaaaGreatDoor
