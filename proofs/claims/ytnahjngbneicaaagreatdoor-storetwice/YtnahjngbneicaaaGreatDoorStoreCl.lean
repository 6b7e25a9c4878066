import Derived.Test.YtnahjngbneicaaaGreatDoorStoreCk
namespace Go.Proofs.YtnahjngbneicaaaGreatDoor
open _root_.Go.Proofs.Tryz
set_option maxRecDepth 100000
open Go.RowKit
variable {R Rb i p:Nat} {n:Qv} {K:Nat->Prop} {W:World}
def Zcu:List (SDk->SDk × Int):=[Zf,ZkA,Z4,Zeo,X0 (fun d=>Jf d 1),ZaX,Qt]
theorem Zgg (x:SDk):(Qt x).1.1.now=x.1.now∧(Qt x).1.1.bases=x.1.bases∧(Qt x).1.1.log=x.1.log:=by
 unfold Qt;split <;> exact⟨rfl,rfl,rfl⟩
theorem ZiB (x:SDk):(Zf x).1.1.now=x.1.now∧(Zf x).1.1.bases=x.1.bases∧(Zf x).1.1.log=x.1.log:=by
 unfold Zf;split
 ·exact⟨rfl,rfl,rfl⟩
 ·have h:=Zlb x
  split
  ·rcases h with h | h
   ·show(Zbw (Q3 [Xb,Xj] x).1.1).now=_∧_
    rw[h];exact⟨rfl,rfl,rfl⟩
   ·show(Zbw (Q3 [Xb,Xj] x).1.1).now=_∧_
    rw[h];exact⟨rfl,rfl,rfl⟩
  ·rcases h with h | h
   ·rw[h];exact⟨rfl,rfl,rfl⟩
   ·rw[h];exact⟨rfl,rfl,rfl⟩
theorem Zkf (x:SDk):(Z4 x).1.1.now=x.1.now∧(Z4 x).1.1.bases=x.1.bases∧(Z4 x).1.1.log=x.1.log:=by
 unfold Z4;split <;> exact⟨rfl,rfl,rfl⟩
theorem ZuN (i:Nat) (x:SDk):(Zcu.getD i ZdT x).1.1.now=x.1.now∧(Zcu.getD i ZdT x).1.1.bases=x.1.bases∧(Zcu.getD i ZdT x).1.1.log=x.1.log:=by
 match i with
 | 0=>exact ZiB x
 | 1=>exact⟨rfl,rfl,rfl⟩
 | 2=>exact Zkf x
 | 3=>exact⟨rfl,rfl,rfl⟩
 | 4=>exact⟨rfl,rfl,rfl⟩
 | 5=>exact⟨rfl,rfl,rfl⟩
 | 6=>exact Zgg x
 | n+7=>exact⟨rfl,rfl,rfl⟩
theorem ZuO {gs:List (SDk->SDk × Int)} (h:∀ g ∈ gs,∀ x,(g x).1.1.now=x.1.now∧(g x).1.1.bases=x.1.bases∧(g x).1.1.log=x.1.log):∀ x,(Q3 gs x).1.1.now=x.1.now∧(Q3 gs x).1.1.bases=x.1.bases∧(Q3 gs x).1.1.log=x.1.log:=by
 induction gs with
 | nil=>exact fun x=>⟨rfl,rfl,rfl⟩
 | cons g gs c=>
  intro x;have a:=h g List.mem_cons_self x;unfold Q3;split
  ·obtain⟨f,d,b⟩:=c (fun g' e=>h g' (List.mem_cons_of_mem _ e)) (g x).1
   exact⟨f.trans a.1,d.trans a.2.1,b.trans a.2.2⟩
  ·exact a
theorem Zkg:∀ g ∈ Zcu,∀ x,(g x).1.1.now=x.1.now∧(g x).1.1.bases=x.1.bases∧(g x).1.1.log=x.1.log:=by
 intro g b x;obtain⟨i,a,rfl⟩:=List.mem_iff_getElem.1 b;have:=ZuN i x
 rwa [show Zcu.getD i ZdT=Zcu[i] by simp[List.getD,a]] at this
theorem ZuP (i:Nat) (x:SDk):(Q3 (Zcu.take i) x).1.1.now=x.1.now∧(Q3 (Zcu.take i) x).1.1.bases=x.1.bases∧(Q3 (Zcu.take i) x).1.1.log=x.1.log:=ZuO (fun g a=>Zkg g (List.mem_of_mem_take a)) x
theorem ZiC (x:SDk):(ZdF x).1.1.now=x.1.now∧(ZdF x).1.1.bases=x.1.bases∧(ZdF x).1.1.log=x.1.log:=ZuO Zkg x
def ZeQ (p R Rb:Nat) (i:Nat):Stp:=
 match i with
 | 0=>⟨27,#[ptr p],#[]⟩
 | 1=>⟨55,#[],#[.pointer (some ⟨R,0,none⟩),.pointer (some ⟨Rb,0,none⟩)]⟩
 | 2=>⟨63,#[ptr p],#[]⟩
 | 3=>⟨57,#[],#[.pointer (some ⟨R,0,none⟩),.pointer (some ⟨Rb,0,none⟩)]⟩
 | 4=>⟨58,#[],#[.pointer (some ⟨R,0,none⟩)]⟩
 | 5=>⟨60,#[],#[.pointer (some ⟨R,0,none⟩)]⟩
 | _=>⟨64,#[ptr p],#[]⟩
def ZyF (p R Rb:Nat):Array Value:=#[(ZeQ p R Rb 0).val,(ZeQ p R Rb 1).val,(ZeQ p R Rb 2).val,(ZeQ p R Rb 3).val,(ZeQ p R Rb 4).val,(ZeQ p R Rb 5).val,(ZeQ p R Rb 6).val]
def XC (R Rb p:Nat) (n:Qv) (i:Nat) (K:Nat->Prop) (W:World):Prop:=
 ∃ v,Bk 53 W Rb #[v]∧K Rb∧K R∧Bk 28 W R #[ptr p]∧(2<=i->Rd W v (Jd n)∧(Jd n=[]∨∀ k,v.ownBlock=some k->K k))
theorem XC.keep {j:Nat} {W':World} (h:XC R Rb p n i K W) (d:2<=j->2<=i) (e:Qj (fun k=>¬ K k) W W'):XC R Rb p n j K W':=by
 obtain⟨v,g,f,l,m,b⟩:=h;exact⟨v,g.keep (e.block _ g.lt (fun c=>c f)),f,l,m.keep (e.block _ m.lt (fun c=>c l)),fun a=>⟨(b (d a)).1.keepK (b (d a)).2 e,(b (d a)).2⟩⟩
theorem XC.cell (h:XC R Rb p n i K W):W.cell? ⟨R,0,none⟩=some (ptr p):=by
 obtain⟨v,c,d,e,a,b⟩:=h;exact(a.cell 0 rfl).1
set_option maxHeartbeats 1000000 in
theorem ZwD {K0 K2:Nat->Prop} {pd Y:Nat} {s:Sto} {d:Dk} {N T:Nat} (w:World) (L:K0 Y) (M:∀ k,K0 k->K2 k) (O:¬ K0 Rb) (H:Bk 153 w Y (ZyF p R Rb)) (V:∀ k,K2 k->k<w.heap.size) (E:SD K2 w pd p s d N T) (F:XC R Rb p s.now 0 K2 w) (x:ZoJ s) (Z:N<=900000) (hT:T<=90000000):
 Calls prog 62 #[.slice (some ⟨Y,0,none⟩) 7 7] w fun e w'=>Zsn K0 K2 pd p (ZdF (s,d)) (N+28) (T+560000) (fun _ _=>True) w e w':=by
 refine ZuL (K0:=K0) (K2:=K2) Y 7 (ZeQ p R Rb) Zcu (s,d) N T 4 80000 w (XC R Rb p s.now) (by decide) L (ZyF p R Rb) H ?_ V E F ?_ ?_
 ·intro i n
  match i,n with
  | 0,_=>rfl
  | 1,_=>rfl
  | 2,_=>rfl
  | 3,_=>rfl
  | 4,_=>rfl
  | 5,_=>rfl
  | 6,_=>rfl
 ·intro i n g W I b X S f a
  have j:∀ k,K0 k->g k:=fun k hk=>I k (M k hk)
  have q:=(ZuP i (s,d)).1;have A:i=0->ZoJ (Q3 (Zcu.take i) (s,d)).1.1:=fun e=>by rw[e];exact x
  generalize (Q3 (Zcu.take i) (s,d)).1=y at f q A ⊢;obtain⟨s',d'⟩:=y
  dsimp only at f q A
  generalize s.now=nn at q a ⊢;clear S E F H x;have P:i=0∨i=1∨i=2∨i=3∨i=4∨i=5∨i=6:=by have:i<7:=n;omega
  rcases P with rfl | rfl | rfl | rfl | rfl | rfl | rfl
  ·show Calls prog 27 #[ptr p] W fun e w'=>Zsn K0 g pd p (Zf (s',d')) _ _ _ W e w'
   refine Calls.mono (ZeE W f b (A rfl)) ?_;intro e w' h;exact h.seqD b j (by omega) (by omega) fun c=>a.keep (by omega) c
  ·show Calls prog 55 #[.pointer (some ⟨R,0,none⟩),.pointer (some ⟨Rb,0,none⟩)] W fun e w'=>Zsn K0 g pd p (ZkA (s',d')) _ _ _ W e w'
   obtain⟨v,m,t,u,l,B⟩:=id a;refine Calls.mono (Zpj (R:=R) (Rb:=Rb) W f a.cell m t) ?_;rintro e w' ⟨rfl,v',J,G,U,Q,z⟩;rw[q] at G
   have K:R≠Rb:=fun e=>by
    rw[e] at l;exact l.ne m (by decide) rfl
   refine⟨rfl,_,fun k hk=>.inl hk,fun k hk=>?_,z.mono (fun k hk x=>O (by rw[<-hk];exact x)),Q.mono (by omega) (by omega),fun _=>⟨v',J,.inl t,.inl u,l.keep (z.block _ l.lt K),fun _=>⟨G,.inr fun k hk=>.inr (U k hk)⟩⟩⟩
   rcases hk with hk | hk
   ·exact Nat.lt_of_lt_of_le (b k hk) z.size
   ·exact hk.2
  ·show Calls prog 63 #[ptr p] W fun e w'=>Zsn K0 g pd p (Z4 (s',d')) _ _ _ W e w'
   refine Calls.mono (ZrL W f b (by omega) (by omega)) ?_
   intro e w' h;exact h.seqD b j (by omega) (by omega) fun c=>a.keep (by omega) c
  ·show Calls prog 57 #[.pointer (some ⟨R,0,none⟩),.pointer (some ⟨Rb,0,none⟩)] W fun e w'=>Zsn K0 g pd p (Zeo (s',d')) _ _ _ W e w'
   obtain⟨v,m,t,u,l,B⟩:=id a;obtain⟨D,C⟩:=B (by decide)
   rw[<-q] at D C;refine Calls.mono (Zsp (R:=R) (Rb:=Rb) W f b a.cell m D C (by omega) (by omega)) ?_
   intro e w' h;exact h.seqD b j (by omega) (by omega) fun c=>a.keep (by omega) c
  ·show Calls prog 58 #[.pointer (some ⟨R,0,none⟩)] W fun e w'=>Zsn K0 g pd p (X0 (fun d=>Jf d 1) (s',d')) _ _ _ W e w'
   refine Calls.mono (ZoP (R:=R) W f b a.cell) ?_;intro e w' h;exact h.seqD b j (by omega) (by omega) fun c=>a.keep (by omega) c
  ·show Calls prog 60 #[.pointer (some ⟨R,0,none⟩)] W fun e w'=>Zsn K0 g pd p (ZaX (s',d')) _ _ _ W e w'
   obtain⟨v,m,t,u,l,B⟩:=id a;refine Calls.mono (ZoQ (R:=R) W f b a.cell u (by omega) (by omega)) ?_
   intro e w' h;exact h.seqD b j (by omega) (by omega) fun c=>a.keep (by omega) c
  ·show Calls prog 64 #[ptr p] W fun e w'=>Zsn K0 g pd p (Qt (s',d')) _ _ _ W e w'
   refine Calls.mono (ZcM W f b) ?_;intro e w' h;exact h.seqD b j (by omega) (by omega) fun c=>a.keep (by omega) c
 ·intro i n
  match i,n with
  | 0,_=>exact enters_of func27 (by kernel_rfl) rfl
  | 1,_=>exact enters_of func55 (by kernel_rfl) rfl
  | 2,_=>exact enters_of func63 (by kernel_rfl) rfl
  | 3,_=>exact enters_of func57 (by kernel_rfl) rfl
  | 4,_=>exact enters_of func58 (by kernel_rfl) rfl
  | 5,_=>exact enters_of func60 (by kernel_rfl) rfl
  | 6,_=>exact enters_of func64 (by kernel_rfl) rfl
end Go.Proofs.YtnahjngbneicaaaGreatDoor
