import Derived.Test.YtnahjngbneicaaaGreatDoorStoreStrC
namespace Go.Proofs.YtnahjngbneicaaaGreatDoor
open _root_.Go.Proofs.Tryz
set_option maxRecDepth 100000
variable {d:Dk} {b:List UInt8} {c:Ch}
theorem Zwr (g:look (Qm d) 1=none) (a:(Qy d 1 b).2=0):(Qy d 1 b).1={ d with files:=Yr (d.files++[⟨[],0⟩]) d.files.length b,waits:=d.waits++[.give 1 d.files.length],power:=Y5 d.power }:=by
 have e:=Zff a;unfold Qy at a ⊢;rw[if_neg e] at a ⊢;split at a
 ·cases a
 ·rename_i c
  rw[if_neg c];split at a
  ·cases a
  ·rename_i f
   rw[if_neg f,g];rfl
theorem ZtK (a:(Qy d 1 b).2≠0):(Qy d 1 b).2=10∨d.power=0:=by
 by_cases e:d.power=0
 ·exact .inr e
 ·left
  unfold Qy at a ⊢;rw[if_neg e] at a ⊢;rw[if_neg (show ¬ ZdE 1=false by decide)] at a ⊢
  split at a
  ·rename_i c
   rw[if_pos c]
  ·rename_i c
   split at a <;> exact absurd rfl a
inductive CkR (kind:Int) (all:List Rec) (lo n:Nat) (y:SDk × Int):Prop where
 | done (h0:y.2=0) (h1:OnI kind y.1 all all.length n) (h2:y.1.2.waits=[]) (h3:y.1.1.base=y.1.1.now)
 | full (h0:y.2≠0) (h1:OnI kind y.1 all all.length n) (h2:¬ Z6 y.1.1.now∨y.2=10∨y.1.2.power=0)
 | down (h0:y.2≠0) (h1:OnI kind y.1 all lo n) (h2:y.1.2.power=0)
 | dark (h0:y.2≠0) (h1:ZcZ kind y.1 all all.length)
theorem Zrr (a:d.waits=[c]) (k:Nat):Ym d k=d.kept∨Ym d k=chD d.kept c:=by
 unfold Ym;rw[a]
 match k with
 | 0=>exact .inl rfl
 | k+1=>right;simp
theorem Zyb {e:Ch} (a:d.waits=[c,e]) (k:Nat):Ym d k=d.kept∨Ym d k=chD d.kept c∨Ym d k=chD (chD d.kept c) e:=by
 unfold Ym;rw[a]
 match k with
 | 0=>exact .inl rfl
 | 1=>right;left;rfl
 | k+2=>right;right;simp
theorem OnI.checkpoint {kind:Int} {s:Sto} {all:List Rec} {lo n:Nat} (h:OnI kind (s,d) all lo n) (hr:X4 (s,d) all n) (a1:0<=kind) (aT:kind<6) (hn:n<=1000):CkR kind all lo (n+1) (Xp (s,d)):=by
 have bd:=h.str.sync hr;have ah:=hr.sync;have O:=Zjw (s,d);have aN:=Zhc (s,d);have aX:=Zfa (s,d);have H:(J5 (s,d)).2≠0->Xp (s,d)=J5 (s,d):=fun N=>by unfold Xp;rw[if_neg N]
 have aI:(J5 (s,d)).2=0->Xp (s,d)=(({ (J5 (s,d)).1.1 with bases:=(J5 (s,d)).1.1.bases++[(J5 (s,d)).1.1.now] },(J5 (s,d)).1.2),0):=fun N=>by unfold Xp;rw[if_pos N]
 have l:J5 (s,d)=if(Q5 (s,d)).2=0 then Qv [ZcG,Yy,ZbN,Xm (fun d=>X3 d 1),Gs,Qq] (Q5 (s,d)).1 else Q5 (s,d):=rfl
 generalize J5 (s,d)=M at H aI l aX;rcases bd with ⟨I,w,ak,-⟩ | ⟨I,w,aq⟩
 case inr=>
  rw[if_neg I] at l;rw[H (by rw[l];exact I),l]
  refine .down I ⟨w,?_,fun m y=>?_,fun hc=>?_⟩ aq
  ·rw[ZaD O];exact h.one
  ·rw[ZaD O] at y
   have:=h.nam m y;omega
  ·rw[aN.2.1] at hc
   exact h.cz hc
 rw[if_pos I] at l;have ac:1 ∉ Qk (Q5 (s,d)).1.2:=by rw[ZaD O];exact h.one
 have ad:∀ m ∈ Qk (Q5 (s,d)).1.2,m<=2*(n:Int)+1:=by rw[ZaD O];exact h.nam
 generalize (Q5 (s,d)).1=y1 at w ak ah ac ad l;obtain⟨i,a⟩:=y1;clear O aN I h hr;have bk:i.nw=false:=ak;have aB:a.waits=[]:=w.nw0 ak;have aG:OnI kind (i,a) all all.length (n+1):=⟨w,ac,fun m y=>by have:=ad m y;omega,fun _=>rfl⟩
 have U:OkD a:=ah.okd;have X:Qm a=a.kept:=by unfold Qm;rw[aB];rfl
 have aE:Jl kind all all.length a.files a.kept:=by
  have:=w.good ah all.length zL (.inl zL) zL 0;rw[Zei] at this;exact this
 have z:Xa a.kept:=U.kept.rise
 have aL:look (Qm a) 1=none:=by
  cases hl:look (Qm a) 1 with
  | none=>rfl
  | some f=>exact absurd ((Y2 U 1).2 ⟨f,hl⟩) ac
 have ai:i.now=X7 kind all all.length:=w.now
 -- the state
 have en:ZcG (i,a)=((i,a),if Z6 i.now then 0 else 1):=rfl
 rw[Qv,en] at l;by_cases K:Z6 i.now
 case neg=>
  rw[if_neg (show ¬ (if Z6 i.now then(0:Int) else 1)=0 by rw[if_neg K];decide),if_neg K] at l
  rw[H (by rw[l];show(1:Int)≠0;decide),l]
  exact .full (show(1:Int)≠0 by decide) aG (.inl K)
 rw[if_pos K,if_pos rfl] at l
 have ec:Yy (i,a)=((i,a),0):=by
  unfold Yy;rw[if_neg ac]
 rw[Qv,ec,if_pos rfl] at l
 have ew:ZbN (i,a)=((i,(Qy a 1 (ZjA i.now)).1),(Qy a 1 (ZjA i.now)).2):=by
  show((i,(Qy a 1 (if Z6 i.now then ZjA i.now else[])).1),(Qy a 1 (if Z6 i.now then ZjA i.now else[])).2)=_
  rw[if_pos K]
 have S:=ah.write aL;rw[Qv,ew] at l;rw[ew] at S;obtain⟨b,hb⟩:∃ b,b=ZjA i.now:=⟨_,rfl⟩;rw[<-hb] at l S
 dsimp only at l S
 by_cases D:(Qy a 1 b).2=0
 case neg=>
  rw[if_neg D,ZbQ D] at l;rw[H (by rw[l];exact D),l]
  exact .full D aG (.inr (ZtK D))
 rw[if_pos D] at l;have P:=Zwr aL D;obtain⟨F,hF⟩:∃ F,F=a.files.length:=⟨_,rfl⟩;rw[<-hF] at P;obtain⟨G,ag⟩:∃ fs,fs=Yr (a.files++[⟨[],0⟩]) F b:=⟨_,rfl⟩;have a3:F<G.length:=by rw[ag,hF];unfold Yr;simp
 have bb:fl G F=⟨b,0⟩:=by
  rw[ag,hF,ZcY (by simp),ZhS]
  rfl
 have aM:∀ g,g<F->fl G g=fl a.files g:=fun g hg=>by rw[ag,ZaT (by omega),ZeB (by omega)]
 rw[<-ag,aB] at P;have T:∀ p ∈ a.kept,p.2<F:=fun p q=>by rw[hF];exact(U.kept.may p q).2
 have aF:Jl kind all all.length G a.kept:=aE.files fun p q=>aM p.2 (T p q)
 have ba:Jl kind all all.length G (Yt a.kept 1 (some F)):=aF.sorts (Zhe z _) (Zmo z _);obtain⟨v,ay⟩:∃ v,v=(Qy a 1 b).1:=⟨_,rfl⟩;rw[<-ay] at P l S;clear D ay;have C:v.files=G∧v.kept=a.kept∧v.waits=[.give 1 F]:=by rw[P];exact⟨rfl,rfl,rfl⟩
 have a5:OkD v:=S.okd;clear P
 have bc:∀ k,Jl kind all all.length v.files (Ym v k):=fun k=>by
  rw[C.1];rcases Zrr C.2.2 k with e | e
  ·rw[e,C.2.1];exact aF
  ·rw[e,C.2.1];exact ba
 have be:Qm v=Yt a.kept 1 (some F):=by
  unfold Qm;rw[C.2.1,C.2.2];rfl
 have aW:look (Qm v) 1=some F:=by rw[be,Zaw z,if_pos rfl]
 have av:∀ (s':Sto) (d':Dk) (c:Int),s'.synced=i.synced->c≠0->d'.power=0->(∀ k,Jl kind all all.length d'.files (Ym d' k))->CkR kind all lo (n+1) ((s',d'),c):=fun s' d' c g1 g2 g3 g4=>.dark g2 ⟨w.al,g3,g4,g1.trans w.syn,fun _=>rfl⟩
 -- its file is synced
 have e3:Xm (fun d=>X3 d 1) (i,v)=((i,(X3 v 1).1),(X3 v 1).2):=rfl
 rw[Qv,e3] at l
 dsimp only at l
 by_cases ao:v.power=0
 ·rw[Zok ao,if_neg (show ¬ (11:Int)=0 by decide)] at l
  rw[H (by rw[l];show(11:Int)≠0;decide),l]
  exact av i v 11 rfl (by decide) ao bc
 have ar:X3 v 1=({ v with files:=Gd v.files F,power:=Y5 v.power },0):=by
  unfold X3;rw[if_neg ao,aW]
 rw[ar,if_pos rfl] at l;obtain⟨t,Z⟩:∃ t:Dk,t={ v with files:=Gd v.files F,power:=Y5 v.power }:=⟨_,rfl⟩
 have V:OkD t:=by
  have:=a5.sync 1;rw[ar] at this;rw[Z];exact this
 rw[<-Z] at l;clear ar;obtain⟨x,aj⟩:∃ fs,fs=Gd G F:=⟨_,rfl⟩;have bg:fl x F=⟨b,b.length⟩:=by rw[aj,ZgC a3,bb]
 have an:∀ g,g<F->fl x g=fl a.files g:=fun g hg=>by rw[aj,Zcr (by omega),aM g hg]
 have B:t.files=x∧t.kept=a.kept∧t.waits=[.give 1 F]:=by rw[Z,aj,<-C.1];exact⟨rfl,C.2.1,C.2.2⟩
 clear Z;have Y:Jl kind all all.length x a.kept:=aE.files fun p q=>an p.2 (T p q)
 have aO:Jl kind all all.length x (Yt a.kept 1 (some F)):=Y.sorts (Zhe z _) (Zmo z _)
 have au:Qm t=Yt a.kept 1 (some F):=by
  unfold Qm;rw[B.2.1,B.2.2];rfl
 have aR:look (Qm t) 1=some F:=by rw[au,Zaw z,if_pos rfl]
 -- its name
 have e4:Gs (i,t)=((i,(Ji t 1 (Xs t 3)).1),(Ji t 1 (Xs t 3)).2):=rfl;rw[Qv,e4] at l
 dsimp only at l
 by_cases ap:t.power=0
 ·rw[Zqo ap,if_neg (show ¬ (11:Int)=0 by decide)] at l
  rw[H (by rw[l];show(11:Int)≠0;decide),l]
  refine av i t 11 rfl (by decide) ap fun k=>?_
  rw[B.1];rcases Zrr B.2.2 k with e | e
  ·rw[e,B.2.1];exact Y
  ·rw[e,B.2.1];exact aO
 have aV:=Zan (d:=t) 3;have aK:=Zec V 3
 have a9:∀ m ∈ Qk t,m<=2*(n:Int)+1:=fun m y=>by
  rw[Y2 V,au] at y;obtain⟨f,hf⟩:=y;rw[Zaw z] at hf;split at hf
  ·omega
  ·refine ad m ((Y2 U m).2 ⟨f,?_⟩)
   rw[X];exact hf
 have a7:=Zjx (first:=3) a9 (by omega)
 obtain⟨u,aP⟩:∃ u,u=Xs t 3:=⟨_,rfl⟩;rw[<-aP] at aV aK a7 l;clear aP;have a2:ZdE u=true:=(ZxO u).2 ⟨by omega,by omega⟩
 have ax:Ji t 1 u=({ t with waits:=t.waits++[.move 1 u F],power:=Y5 t.power },0):=by
  unfold Ji;rw[if_neg ap,aR]
  dsimp only
  rw[if_neg (show ¬ ZdE u=false by rw[a2];decide),if_neg (show ¬ (1:Int)=u by omega)]
 rw[ax,if_pos rfl] at l;obtain⟨j,aa⟩:∃ j:Dk,j={ t with waits:=t.waits++[.move 1 u F],power:=Y5 t.power }:=⟨_,rfl⟩
 have bj:OkD j:=by
  have:=V.rename 1 u;rw[ax] at this;rw[aa];exact this
 rw[<-aa] at l;have A:j.files=x∧j.kept=a.kept∧j.waits=[.give 1 F,.move 1 u F]:=by rw[aa,<-B.1];exact⟨rfl,B.2.1,by show t.waits++_=_;rw[B.2.2];rfl⟩
 clear ax aa;obtain⟨E,aw⟩:∃ E,E=chD (chD a.kept (.give 1 F)) (.move 1 u F):=⟨_,rfl⟩;have ae:E=Yt (Yt (Yt a.kept 1 (some F)) 1 none) u (some F):=aw;have af:Xa (Yt a.kept 1 (some F)):=Yo z _ _;have aJ:Xa (Yt (Yt a.kept 1 (some F)) 1 none):=Yo af _ _;have a0:ZtR u=true:=(Zfi u).2 ⟨by omega,by omega⟩
 have aZ:Zro u=false:=by
  cases hE:Zro u with
  | false=>rfl
  | true=>
   have:=(Zfh u).1 hE;omega
 have aQ:Xe E=Xe a.kept:=by
  rw[ae,show Xe (Yt (Yt (Yt a.kept 1 (some F)) 1 none) u (some F))=Xe (Yt (Yt a.kept 1 (some F)) 1 none) from Jt aJ Zro aZ _,Zhe af,Zhe z]
 have aA:Zdn E=Zdn a.kept++[(u,F)]:=by
  rw[ae,show Zdn (Yt (Yt (Yt a.kept 1 (some F)) 1 none) u (some F))=Zdn (Yt (Yt a.kept 1 (some F)) 1 none)++[(u,F)] from ZcX aJ ZtR a0 F (fun p q he=>?_),Zmo af,Zmo z]
  have h3:=(Zfi p.1).1 he;refine aK p.1 ((Y2 V p.1).2 ⟨p.2,?_⟩) h3.1 (by omega)
  rw[au,Zb af];rw[Zo] at q;rcases q with ⟨q,-⟩ | ⟨-,q⟩
  ·exact q
  ·cases q
 have ab:(fl x F).k=(fl x F).b.length∧(fl x F).b=ZjA (X7 kind all all.length):=by
  rw[bg,hb,ai];exact⟨rfl,rfl⟩
 have aD:Z6 (X7 kind all all.length):=by rw[<-ai];exact K
 have aC:=ZkY w.al a1 aT all.length;have a8:Jl kind all all.length x E:=Y.base (p:=(u,F)) aQ aA ab.1 ab.2 aD aC
 have a6:∀ k,Jl kind all all.length j.files (Ym j k):=fun k=>by
  rw[A.1];rcases Zyb A.2.2 k with e | e | e
  ·rw[e,A.2.1];exact Y
  ·rw[e,A.2.1];exact aO
  ·rw[e,A.2.1,<-aw];exact a8
 have bf:Qm j=E:=by
  unfold Qm;rw[A.2.1,A.2.2,aw]
  rfl
 -- all names are kept
 have J:=Zdm Qq (i,j);have e6:Qq (i,j)=((if(Qn j).2=0 then { i with nw:=false } else i,(Qn j).1),(Qn j).2):=rfl
 by_cases am:j.power=0
 ·rw[e6,ZcV am] at J
  have L:M=((i,j),11):=by
   rw[l];exact Prod.ext J.1 J.2
  rw[H (by rw[L];show(11:Int)≠0;decide),L]
  exact av i j 11 rfl (by decide) am a6
 have aS:Qn j=({ j with kept:=Qm j,waits:=[],power:=Y5 j.power },0):=by
  unfold Qn;rw[if_neg am]
 rw[e6,aS] at J
 have L:M=(({ i with nw:=false },{ j with kept:=Qm j,waits:=[],power:=Y5 j.power }),0):=by
  rw[l];exact Prod.ext J.1 J.2
 rw[aI (by rw[L]),L]
 dsimp only
 have W:Qm ({ j with kept:=Qm j,waits:=[],power:=Y5 j.power }:Dk)=E:=bf
 have az:({ i with nw:=false,bases:=i.bases++[i.now] }:Sto).base=i.now:=Zjn i.bases i.now
 obtain⟨js,aU,bh,bi⟩:=w.bas;have aY:∀ p ∈ Xe a.kept,p.2<F:=fun p q=>T p (List.mem_filter.1 q).1
 have a4:Xz kind all x all.length (Xe a.kept) i.log.pcs:=by
  have Q:Xz kind all a.files all.length (Xe (Qm a)) i.log.pcs:=w.seg;rw[X] at Q;exact Q.files fun p q=>an p.2 (aY p q)
 have aH:Xz kind all j.files all.length (Xe (Qm ({ j with kept:=Qm j,waits:=[],power:=Y5 j.power }:Dk))) i.log.pcs:=by
  rw[W,aQ,A.1];exact a4
 refine .done rfl ⟨⟨w.al,w.now,w.syn,Nat.le_refl _,aH,fun _=>aH,⟨js++[all.length],?_,?_,?_⟩,fun _=>rfl,fun N=>by cases N⟩,fun y=>?_,fun m y=>?_,fun _=>rfl⟩ rfl az
 ·show Zjs kind all j.files (Zdn (Qm ({ j with kept:=Qm j,waits:=[],power:=Y5 j.power }:Dk))) (js++[all.length])
  rw[W,aA,A.1];refine Zjv ab.1 ab.2 ⟨aD,Nat.le_refl _⟩ aC ?_;have Q:Zjs kind all a.files (Zdn (Qm a)) js:=aU;rw[X] at Q;exact Zjs.files Q fun p q=>an p.2 (T p (List.mem_filter.1 q).1)
 ·show({ i with nw:=false,bases:=i.bases++[i.now] }:Sto).base.idx=_
  rw[az,ZbT,ai];exact Zox w.al kind zL
 ·rw[ZbT]
  exact Nat.le_refl _
 ·have R:1 ∈ (Qm ({ j with kept:=Qm j,waits:=[],power:=Y5 j.power }:Dk)).map Prod.fst:=y
  rw[W,ae] at R;obtain⟨p,q,aq⟩:=List.mem_map.1 R;rw[Zo,Zo] at q;rcases q with ⟨⟨-,q⟩ | ⟨-,q⟩,-⟩ | ⟨q,-⟩
  ·exact q aq
  ·cases q
  ·omega
 ·have R:m ∈ (Qm ({ j with kept:=Qm j,waits:=[],power:=Y5 j.power }:Dk)).map Prod.fst:=y
  rw[W,ae] at R;obtain⟨p,q,rfl⟩:=List.mem_map.1 R;rw[Zo,Zo,Zo] at q;rcases q with ⟨⟨⟨q,-⟩ | ⟨q,-⟩,-⟩ | ⟨-,q⟩,-⟩ | ⟨q,-⟩
  ·have:p.1 ∈ Qk a:=List.mem_map.2 ⟨p,by rw[X];exact q,rfl⟩
   have:=ad p.1 this;omega
  ·omega
  ·cases q
  ·omega
end Go.Proofs.YtnahjngbneicaaaGreatDoor
