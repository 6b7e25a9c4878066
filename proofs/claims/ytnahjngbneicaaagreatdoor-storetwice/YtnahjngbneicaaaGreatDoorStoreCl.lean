import Derived.Test.YtnahjngbneicaaaGreatDoorStoreCk
namespace Go.Proofs.YtnahjngbneicaaaGreatDoor
open _root_.Go.Proofs.Tryz
set_option maxRecDepth 100000
open Go.RowKit
variable {R Rb i p:Nat} {n:ZaW} {K:Nat->Prop} {W:World}
def ZfJ:List (SDk->SDk × Int):=[ZcE,ZnQ,ZcG,ZhE,Zbv (fun d=>Zdx d 1),Zeg,Zar]
theorem Zjw (x:SDk):(Zar x).1.1.now=x.1.now∧(Zar x).1.1.bases=x.1.bases∧(Zar x).1.1.log=x.1.log:=by
 unfold Zar;split <;> exact⟨rfl,rfl,rfl⟩
theorem ZlR (x:SDk):(ZcE x).1.1.now=x.1.now∧(ZcE x).1.1.bases=x.1.bases∧(ZcE x).1.1.log=x.1.log:=by
 unfold ZcE;split
 ·exact⟨rfl,rfl,rfl⟩
 ·have h:=Zor x
  split
  ·rcases h with h | h
   ·show(ZeJ (Zbj [ZaD,ZaJ] x).1.1).now=_∧_
    rw[h];exact⟨rfl,rfl,rfl⟩
   ·show(ZeJ (Zbj [ZaD,ZaJ] x).1.1).now=_∧_
    rw[h];exact⟨rfl,rfl,rfl⟩
  ·rcases h with h | h
   ·rw[h];exact⟨rfl,rfl,rfl⟩
   ·rw[h];exact⟨rfl,rfl,rfl⟩
theorem Znv (x:SDk):(ZcG x).1.1.now=x.1.now∧(ZcG x).1.1.bases=x.1.bases∧(ZcG x).1.1.log=x.1.log:=by
 unfold ZcG;split <;> exact⟨rfl,rfl,rfl⟩
theorem Zyd (i:Nat) (x:SDk):(ZfJ.getD i Zhj x).1.1.now=x.1.now∧(ZfJ.getD i Zhj x).1.1.bases=x.1.bases∧(ZfJ.getD i Zhj x).1.1.log=x.1.log:=by
 match i with
 | 0=>exact ZlR x
 | 1=>exact⟨rfl,rfl,rfl⟩
 | 2=>exact Znv x
 | 3=>exact⟨rfl,rfl,rfl⟩
 | 4=>exact⟨rfl,rfl,rfl⟩
 | 5=>exact⟨rfl,rfl,rfl⟩
 | 6=>exact Zjw x
 | n+7=>exact⟨rfl,rfl,rfl⟩
theorem Zye {gs:List (SDk->SDk × Int)} (h:∀ g ∈ gs,∀ x,(g x).1.1.now=x.1.now∧(g x).1.1.bases=x.1.bases∧(g x).1.1.log=x.1.log):∀ x,(Zbj gs x).1.1.now=x.1.now∧(Zbj gs x).1.1.bases=x.1.bases∧(Zbj gs x).1.1.log=x.1.log:=by
 induction gs with
 | nil=>exact fun x=>⟨rfl,rfl,rfl⟩
 | cons g gs f=>
  intro x;have a:=h g List.mem_cons_self x;unfold Zbj;split
  ·obtain⟨d,c,b⟩:=f (fun g' e=>h g' (List.mem_cons_of_mem _ e)) (g x).1
   exact⟨d.trans a.1,c.trans a.2.1,b.trans a.2.2⟩
  ·exact a
theorem Znw:∀ g ∈ ZfJ,∀ x,(g x).1.1.now=x.1.now∧(g x).1.1.bases=x.1.bases∧(g x).1.1.log=x.1.log:=by
 intro g a x;obtain⟨i,b,rfl⟩:=List.mem_iff_getElem.1 a;have:=Zyd i x
 rwa [show ZfJ.getD i Zhj=ZfJ[i] by simp[List.getD,b]] at this
theorem Zyf (i:Nat) (x:SDk):(Zbj (ZfJ.take i) x).1.1.now=x.1.now∧(Zbj (ZfJ.take i) x).1.1.bases=x.1.bases∧(Zbj (ZfJ.take i) x).1.1.log=x.1.log:=Zye (fun g a=>Znw g (List.mem_of_mem_take a)) x
theorem ZlS (x:SDk):(ZgV x).1.1.now=x.1.now∧(ZgV x).1.1.bases=x.1.bases∧(ZgV x).1.1.log=x.1.log:=Zye Znw x
def Zig (p R Rb:Nat) (i:Nat):Stp:=
 match i with
 | 0=>⟨27,#[ptr p],#[]⟩
 | 1=>⟨55,#[],#[.pointer (some ⟨R,0,none⟩),.pointer (some ⟨Rb,0,none⟩)]⟩
 | 2=>⟨63,#[ptr p],#[]⟩
 | 3=>⟨57,#[],#[.pointer (some ⟨R,0,none⟩),.pointer (some ⟨Rb,0,none⟩)]⟩
 | 4=>⟨58,#[],#[.pointer (some ⟨R,0,none⟩)]⟩
 | 5=>⟨60,#[],#[.pointer (some ⟨R,0,none⟩)]⟩
 | _=>⟨64,#[ptr p],#[]⟩
def ZBV (p R Rb:Nat):Array Value:=#[(Zig p R Rb 0).val,(Zig p R Rb 1).val,(Zig p R Rb 2).val,(Zig p R Rb 3).val,(Zig p R Rb 4).val,(Zig p R Rb 5).val,(Zig p R Rb 6).val]
def XC (R Rb p:Nat) (n:ZaW) (i:Nat) (K:Nat->Prop) (W:World):Prop:=
 ∃ v,Bk 53 W Rb #[v]∧K Rb∧K R∧Bk 28 W R #[ptr p]∧(2<=i->Rd W v (Zda n)∧(Zda n=[]∨∀ k,v.ownBlock=some k->K k))
theorem XC.keep {j:Nat} {W':World} (h:XC R Rb p n i K W) (b:2<=j->2<=i) (d:Zap (fun k=>¬ K k) W W'):XC R Rb p n j K W':=by
 obtain⟨v,m,l,g,f,e⟩:=h;exact⟨v,m.keep (d.block _ m.lt (fun a=>a l)),l,g,f.keep (d.block _ f.lt (fun a=>a g)),fun c=>⟨(e (b c)).1.keepK (e (b c)).2 d,(e (b c)).2⟩⟩
theorem XC.cell (h:XC R Rb p n i K W):W.cell? ⟨R,0,none⟩=some (ptr p):=by
 obtain⟨v,e,c,b,a,d⟩:=h;exact(a.cell 0 rfl).1
set_option maxHeartbeats 1000000 in
theorem ZzT {K0 K2:Nat->Prop} {pd Y:Nat} {s:Sto} {d:Dk} {N T:Nat} (w:World) (M:K0 Y) (U:∀ k,K0 k->K2 k) (Q:¬ K0 Rb) (F:Bk 153 w Y (ZBV p R Rb)) (P:∀ k,K2 k->k<w.heap.size) (D:SD K2 w pd p s d N T) (C:XC R Rb p s.now 0 K2 w) (x:ZrZ s) (hN:N<=900000) (X:T<=90000000):
 Calls prog 62 #[.slice (some ⟨Y,0,none⟩) 7 7] w fun e w'=>ZvD K0 K2 pd p (ZgV (s,d)) (N+28) (T+560000) (fun _ _=>True) w e w':=by
 refine Zyb (K0:=K0) (K2:=K2) Y 7 (Zig p R Rb) ZfJ (s,d) N T 4 80000 w (XC R Rb p s.now) (by decide) M (ZBV p R Rb) F ?_ P D C ?_ ?_
 ·intro i q
  match i,q with
  | 0,_=>rfl
  | 1,_=>rfl
  | 2,_=>rfl
  | 3,_=>rfl
  | 4,_=>rfl
  | 5,_=>rfl
  | 6,_=>rfl
 ·intro i q g W J b g3 O f a
  have l:∀ k,K0 k->g k:=fun k hk=>J k (U k hk)
  have n:=(Zyf i (s,d)).1;have B:i=0->ZrZ (Zbj (ZfJ.take i) (s,d)).1.1:=fun e=>by rw[e];exact x
  generalize (Zbj (ZfJ.take i) (s,d)).1=y at f n B ⊢;obtain⟨s',d'⟩:=y
  dsimp only at f n B
  generalize s.now=Z at n a ⊢;clear O D C F x;have I:i=0∨i=1∨i=2∨i=3∨i=4∨i=5∨i=6:=by have:i<7:=q;omega
  rcases I with rfl | rfl | rfl | rfl | rfl | rfl | rfl
  ·show Calls prog 27 #[ptr p] W fun e w'=>ZvD K0 g pd p (ZcE (s',d')) _ _ _ W e w'
   refine Calls.mono (ZhU W f b (B rfl)) ?_;intro e w' h;exact h.seqD b l (by omega) (by omega) fun c=>a.keep (by omega) c
  ·show Calls prog 55 #[.pointer (some ⟨R,0,none⟩),.pointer (some ⟨Rb,0,none⟩)] W fun e w'=>ZvD K0 g pd p (ZnQ (s',d')) _ _ _ W e w'
   obtain⟨v,m,t,u,j,z⟩:=id a;refine Calls.mono (Zsz (R:=R) (Rb:=Rb) W f a.cell m t) ?_;rintro e w' ⟨rfl,v',K,G,S,L,A⟩;rw[n] at G
   have V:R≠Rb:=fun e=>by
    rw[e] at j;exact j.ne m (by decide) rfl
   refine⟨rfl,_,fun k hk=>.inl hk,fun k hk=>?_,A.mono (fun k hk x=>Q (by rw[<-hk];exact x)),L.mono (by omega) (by omega),fun _=>⟨v',K,.inl t,.inl u,j.keep (A.block _ j.lt V),fun _=>⟨G,.inr fun k hk=>.inr (S k hk)⟩⟩⟩
   rcases hk with hk | hk
   ·exact Nat.lt_of_lt_of_le (b k hk) A.size
   ·exact hk.2
  ·show Calls prog 63 #[ptr p] W fun e w'=>ZvD K0 g pd p (ZcG (s',d')) _ _ _ W e w'
   refine Calls.mono (Zvb W f b (by omega) (by omega)) ?_
   intro e w' h;exact h.seqD b l (by omega) (by omega) fun c=>a.keep (by omega) c
  ·show Calls prog 57 #[.pointer (some ⟨R,0,none⟩),.pointer (some ⟨Rb,0,none⟩)] W fun e w'=>ZvD K0 g pd p (ZhE (s',d')) _ _ _ W e w'
   obtain⟨v,m,t,u,j,z⟩:=id a;obtain⟨H,E⟩:=z (by decide)
   rw[<-n] at H E;refine Calls.mono (ZvF (R:=R) (Rb:=Rb) W f b a.cell m H E (by omega) (by omega)) ?_
   intro e w' h;exact h.seqD b l (by omega) (by omega) fun c=>a.keep (by omega) c
  ·show Calls prog 58 #[.pointer (some ⟨R,0,none⟩)] W fun e w'=>ZvD K0 g pd p (Zbv (fun d=>Zdx d 1) (s',d')) _ _ _ W e w'
   refine Calls.mono (Zsf (R:=R) W f b a.cell) ?_;intro e w' h;exact h.seqD b l (by omega) (by omega) fun c=>a.keep (by omega) c
  ·show Calls prog 60 #[.pointer (some ⟨R,0,none⟩)] W fun e w'=>ZvD K0 g pd p (Zeg (s',d')) _ _ _ W e w'
   obtain⟨v,m,t,u,j,z⟩:=id a;refine Calls.mono (Zsg (R:=R) W f b a.cell u (by omega) (by omega)) ?_
   intro e w' h;exact h.seqD b l (by omega) (by omega) fun c=>a.keep (by omega) c
  ·show Calls prog 64 #[ptr p] W fun e w'=>ZvD K0 g pd p (Zar (s',d')) _ _ _ W e w'
   refine Calls.mono (Zgc W f b) ?_;intro e w' h;exact h.seqD b l (by omega) (by omega) fun c=>a.keep (by omega) c
 ·intro i q
  match i,q with
  | 0,_=>exact enters_of func27 (by kernel_rfl) rfl
  | 1,_=>exact enters_of func55 (by kernel_rfl) rfl
  | 2,_=>exact enters_of func63 (by kernel_rfl) rfl
  | 3,_=>exact enters_of func57 (by kernel_rfl) rfl
  | 4,_=>exact enters_of func58 (by kernel_rfl) rfl
  | 5,_=>exact enters_of func60 (by kernel_rfl) rfl
  | 6,_=>exact enters_of func64 (by kernel_rfl) rfl
end Go.Proofs.YtnahjngbneicaaaGreatDoor
