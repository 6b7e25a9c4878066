import Derived.Test.YtfiffndhehkapaaGreatDoorStoreCk
namespace Go.Proofs.YtfiffndhehkapaaGreatDoor
set_option maxRecDepth 100000
open Go.RowKit
def Zfw:List (SDk->SDk × Int):=[Zcz,Znq,ZcA,Zho,Zbu (fun d=>Zds d 1),Zea,Zaq]
theorem Zjb (x:SDk):(Zaq x).1.1.now=x.1.now∧(Zaq x).1.1.bases=x.1.bases∧(Zaq x).1.1.log=x.1.log:=by
 unfold Zaq
 split <;> exact⟨rfl,rfl,rfl⟩
theorem Zlq (x:SDk):(Zcz x).1.1.now=x.1.now∧(Zcz x).1.1.bases=x.1.bases∧(Zcz x).1.1.log=x.1.log:=by
 unfold Zcz
 split
 ·exact⟨rfl,rfl,rfl⟩
 ·have h:=ZnQ x
  split
  ·rcases h with h | h
   ·show(ZeB (Zbh [ZaC,ZaH] x).1.1).now=_∧_
    rw[h];exact⟨rfl,rfl,rfl⟩
   ·show(ZeB (Zbh [ZaC,ZaH] x).1.1).now=_∧_
    rw[h];exact⟨rfl,rfl,rfl⟩
  ·rcases h with h | h
   ·rw[h];exact⟨rfl,rfl,rfl⟩
   ·rw[h];exact⟨rfl,rfl,rfl⟩
theorem ZmT (x:SDk):(ZcA x).1.1.now=x.1.now∧(ZcA x).1.1.bases=x.1.bases∧(ZcA x).1.1.log=x.1.log:=by
 unfold ZcA
 split <;> exact⟨rfl,rfl,rfl⟩
theorem Zxf (i:Nat) (x:SDk):(Zfw.getD i ZgS x).1.1.now=x.1.now∧(Zfw.getD i ZgS x).1.1.bases=x.1.bases∧(Zfw.getD i ZgS x).1.1.log=x.1.log:=by
 match i with
 | 0=>exact Zlq x
 | 1=>exact⟨rfl,rfl,rfl⟩
 | 2=>exact ZmT x
 | 3=>exact⟨rfl,rfl,rfl⟩
 | 4=>exact⟨rfl,rfl,rfl⟩
 | 5=>exact⟨rfl,rfl,rfl⟩
 | 6=>exact Zjb x
 | n+7=>exact⟨rfl,rfl,rfl⟩
theorem Zxg {gs:List (SDk->SDk × Int)} (h:∀ g ∈ gs,∀ x,(g x).1.1.now=x.1.now∧(g x).1.1.bases=x.1.bases∧(g x).1.1.log=x.1.log):∀ x,(Zbh gs x).1.1.now=x.1.now∧(Zbh gs x).1.1.bases=x.1.bases∧(Zbh gs x).1.1.log=x.1.log:=by
 induction gs with
 | nil=>exact fun x=>⟨rfl,rfl,rfl⟩
 | cons g gs ih=>
  intro x
  have h1:=h g List.mem_cons_self x
  unfold Zbh
  split
  ·obtain⟨i1,i2,i3⟩:=ih (fun g' hg=>h g' (List.mem_cons_of_mem _ hg)) (g x).1
   exact⟨i1.trans h1.1,i2.trans h1.2.1,i3.trans h1.2.2⟩
  ·exact h1
theorem ZmU:∀ g ∈ Zfw,∀ x,(g x).1.1.now=x.1.now∧(g x).1.1.bases=x.1.bases∧(g x).1.1.log=x.1.log:=by
 intro g hg x
 obtain⟨i,hi,rfl⟩:=List.mem_iff_getElem.1 hg
 have:=Zxf i x
 rwa [show Zfw.getD i ZgS=Zfw[i] by simp[List.getD,hi]] at this
theorem Zxh (i:Nat) (x:SDk):(Zbh (Zfw.take i) x).1.1.now=x.1.now∧(Zbh (Zfw.take i) x).1.1.bases=x.1.bases∧(Zbh (Zfw.take i) x).1.1.log=x.1.log:=Zxg (fun g hg=>ZmU g (List.mem_of_mem_take hg)) x
theorem Zlr (x:SDk):(ZgI x).1.1.now=x.1.now∧(ZgI x).1.1.bases=x.1.bases∧(ZgI x).1.1.log=x.1.log:=Zxg ZmU x
def ZhQ (p R Rb:Nat) (i:Nat):Stp:=
 match i with
 | 0=>⟨28,#[ptr p],#[]⟩
 | 1=>⟨56,#[],#[.pointer (some ⟨R,0,none⟩),.pointer (some ⟨Rb,0,none⟩)]⟩
 | 2=>⟨64,#[ptr p],#[]⟩
 | 3=>⟨58,#[],#[.pointer (some ⟨R,0,none⟩),.pointer (some ⟨Rb,0,none⟩)]⟩
 | 4=>⟨59,#[],#[.pointer (some ⟨R,0,none⟩)]⟩
 | 5=>⟨61,#[],#[.pointer (some ⟨R,0,none⟩)]⟩
 | _=>⟨65,#[ptr p],#[]⟩
def ZBd (p R Rb:Nat):Array Value:=#[(ZhQ p R Rb 0).val,(ZhQ p R Rb 1).val,(ZhQ p R Rb 2).val,(ZhQ p R Rb 3).val,(ZhQ p R Rb 4).val,(ZhQ p R Rb 5).val,(ZhQ p R Rb 6).val]
def XC (R Rb p:Nat) (n:ZaU) (i:Nat) (K:Nat->Prop) (W:World):Prop:=
 ∃ v,Bk 53 W Rb #[v]∧K Rb∧K R∧Bk 28 W R #[ptr p]∧(2<=i->Rd W v (ZcS n)∧(ZcS n=[]∨∀ k,v.ownBlock=some k->K k))
theorem XC.keep {R Rb p:Nat} {n:ZaU} {i j:Nat} {K:Nat->Prop} {W W':World} (h:XC R Rb p n i K W) (hij:2<=j->2<=i) (ho:Zas (fun k=>¬ K k) W W'):XC R Rb p n j K W':=by
 obtain⟨v,h1,h2,h3,h4,h5⟩:=h
 exact⟨v,h1.keep (ho.block _ h1.lt (fun hh=>hh h2)),h2,h3,h4.keep (ho.block _ h4.lt (fun hh=>hh h3)),fun hj=>⟨(h5 (hij hj)).1.keepK (h5 (hij hj)).2 ho,(h5 (hij hj)).2⟩⟩
theorem XC.cell {R Rb p:Nat} {n:ZaU} {i:Nat} {K:Nat->Prop} {W:World} (h:XC R Rb p n i K W):W.cell? ⟨R,0,none⟩=some (ptr p):=by
 obtain⟨v,h1,h2,h3,h4,h5⟩:=h
 exact(h4.cell 0 rfl).1
set_option maxHeartbeats 1000000 in
theorem ZyV {K0 K2:Nat->Prop} {pd p R Rb Y:Nat} {s:Sto} {d:Dk} {N T:Nat} (w:World) (hY:K0 Y) (h02:∀ k,K0 k->K2 k) (h0b:¬ K0 Rb) (hrow:Bk 154 w Y (ZBd p R Rb)) (hK2:∀ k,K2 k->k<w.heap.size) (hs:SD K2 w pd p s d N T) (hX:XC R Rb p s.now 0 K2 w) (hn:Zrp s) (hN:N<=900000) (hT:T<=90000000):
 Calls Tryz.prog 63 #[.slice (some ⟨Y,0,none⟩) 7 7] w fun e w'=>ZuL K0 K2 pd p (ZgI (s,d)) (N+28) (T+560000) (fun _ _=>True) w e w':=by
 refine Zxd (K0:=K0) (K2:=K2) Y 7 (ZhQ p R Rb) Zfw (s,d) N T 4 80000 w (XC R Rb p s.now) (by decide) hY (ZBd p R Rb) hrow ?_ hK2 hs hX ?_ ?_
 ·intro i hi
  match i,hi with
  | 0,_=>rfl
  | 1,_=>rfl
  | 2,_=>rfl
  | 3,_=>rfl
  | 4,_=>rfl
  | 5,_=>rfl
  | 6,_=>rfl
 ·intro i hi Kc W g1 g2 g3 hz g4 g5
  have h0c:∀ k,K0 k->Kc k:=fun k hk=>g1 k (h02 k hk)
  have hnow:=(Zxh i (s,d)).1
  have hn0:i=0->Zrp (Zbh (Zfw.take i) (s,d)).1.1:=fun e=>by rw[e];exact hn
  generalize (Zbh (Zfw.take i) (s,d)).1=y at g4 hnow hn0 ⊢
  obtain⟨s',d'⟩:=y
  dsimp only at g4 hnow hn0
  generalize s.now=nn at hnow g5 ⊢
  clear hz hs hX hrow hn
  have hi7:i=0∨i=1∨i=2∨i=3∨i=4∨i=5∨i=6:=by have:i<7:=hi;omega
  rcases hi7 with rfl | rfl | rfl | rfl | rfl | rfl | rfl
  ·show Calls Tryz.prog 28 #[ptr p] W fun e w'=>ZuL K0 Kc pd p (Zcz (s',d')) _ _ _ W e w'
   refine Calls.mono (ZhE W g4 g2 (hn0 rfl)) ?_
   intro e w' h
   exact h.seqD g2 h0c (by omega) (by omega) fun ho=>g5.keep (by omega) ho
  ·show Calls Tryz.prog 56 #[.pointer (some ⟨R,0,none⟩),.pointer (some ⟨Rb,0,none⟩)] W fun e w'=>ZuL K0 Kc pd p (Znq (s',d')) _ _ _ W e w'
   obtain⟨v,k1,k2,k3,k4,k5⟩:=id g5
   refine Calls.mono (ZrQ (R:=R) (Rb:=Rb) W g4 g5.cell k1 k2) ?_
   rintro e w' ⟨rfl,v',j1,j2,j3,j4,j5⟩
   rw[hnow] at j2
   have hne:R≠Rb:=fun e=>by
    rw[e] at k4
    exact k4.ne k1 (by decide) rfl
   refine⟨rfl,_,fun k hk=>.inl hk,fun k hk=>?_,j5.mono (fun k hk hn=>h0b (by rw[<-hk];exact hn)),j4.mono (by omega) (by omega),fun _=>⟨v',j1,.inl k2,.inl k3,k4.keep (j5.block _ k4.lt hne),fun _=>⟨j2,.inr fun k hk=>.inr (j3 k hk)⟩⟩⟩
   rcases hk with hk | hk
   ·exact Nat.lt_of_lt_of_le (g2 k hk) j5.size
   ·exact hk.2
  ·show Calls Tryz.prog 64 #[ptr p] W fun e w'=>ZuL K0 Kc pd p (ZcA (s',d')) _ _ _ W e w'
   refine Calls.mono (Zuj W g4 g2 (by omega) (by omega)) ?_
   intro e w' h
   exact h.seqD g2 h0c (by omega) (by omega) fun ho=>g5.keep (by omega) ho
  ·show Calls Tryz.prog 58 #[.pointer (some ⟨R,0,none⟩),.pointer (some ⟨Rb,0,none⟩)] W fun e w'=>ZuL K0 Kc pd p (Zho (s',d')) _ _ _ W e w'
   obtain⟨v,k1,k2,k3,k4,k5⟩:=id g5
   obtain⟨m1,m2⟩:=k5 (by decide)
   rw[<-hnow] at m1 m2
   refine Calls.mono (ZuN (R:=R) (Rb:=Rb) W g4 g2 g5.cell k1 m1 m2 (by omega) (by omega)) ?_
   intro e w' h
   exact h.seqD g2 h0c (by omega) (by omega) fun ho=>g5.keep (by omega) ho
  ·show Calls Tryz.prog 59 #[.pointer (some ⟨R,0,none⟩)] W fun e w'=>ZuL K0 Kc pd p (Zbu (fun d=>Zds d 1) (s',d')) _ _ _ W e w'
   refine Calls.mono (Zrw (R:=R) W g4 g2 g5.cell) ?_
   intro e w' h
   exact h.seqD g2 h0c (by omega) (by omega) fun ho=>g5.keep (by omega) ho
  ·show Calls Tryz.prog 61 #[.pointer (some ⟨R,0,none⟩)] W fun e w'=>ZuL K0 Kc pd p (Zea (s',d')) _ _ _ W e w'
   obtain⟨v,k1,k2,k3,k4,k5⟩:=id g5
   refine Calls.mono (Zrx (R:=R) W g4 g2 g5.cell k3 (by omega) (by omega)) ?_
   intro e w' h
   exact h.seqD g2 h0c (by omega) (by omega) fun ho=>g5.keep (by omega) ho
  ·show Calls Tryz.prog 65 #[ptr p] W fun e w'=>ZuL K0 Kc pd p (Zaq (s',d')) _ _ _ W e w'
   refine Calls.mono (ZfP W g4 g2) ?_
   intro e w' h
   exact h.seqD g2 h0c (by omega) (by omega) fun ho=>g5.keep (by omega) ho
 ·intro i hi
  match i,hi with
  | 0,_=>exact enters_of Tryz.func28 (by kernel_rfl) rfl
  | 1,_=>exact enters_of Tryz.func56 (by kernel_rfl) rfl
  | 2,_=>exact enters_of Tryz.func64 (by kernel_rfl) rfl
  | 3,_=>exact enters_of Tryz.func58 (by kernel_rfl) rfl
  | 4,_=>exact enters_of Tryz.func59 (by kernel_rfl) rfl
  | 5,_=>exact enters_of Tryz.func61 (by kernel_rfl) rfl
  | 6,_=>exact enters_of Tryz.func65 (by kernel_rfl) rfl
end Go.Proofs.YtfiffndhehkapaaGreatDoor
