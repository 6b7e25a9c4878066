import Derived.Test.YtfiffndhehkapaaGreatDoorPack7
import Derived.Test.YtfiffndhehkapaaGreatDoorPack6
import Derived.Lib.AppendZerosOnto
import Derived.Lib.LazyBuf
import Derived.Deep.WholeRow
import Derived.Test.YtfiffndhehkapaaGreatDoorPack5
import Derived.Test.YtfiffndhehkapaaGreatDoorPack4
import Derived.Test.YtfiffndhehkapaaGreatDoorPack1
import Derived.Deep.RegionHeld
import Derived.Deep.RegionHeld2
import Derived.BigQuiet
import Derived.Test.YtfiffndhehkapaaGreatDoorPack3
namespace Go.Proofs.YtfiffndhehkapaaGreatDoor
set_option maxHeartbeats 40000000
set_option maxRecDepth 100000
open Go.RowKit
theorem ZeU.from {K K2:Nat->Prop} {w W:World} {pd p:Nat} {r:SDk × Int} {N T N' T':Nat} {e:Ending} {w':World} (h:ZeU K2 W pd p r N T e w') (hK:∀ k,K k->K2 k) (ho:Zas (fun k=>¬ K k) w W) (hN:N<=N') (hT:T<=T'):ZeU K w pd p r N' T' e w':=
 ⟨h.1,(h.2.1.less hK).mono hN hT,ho.trans (h.2.2.mono (fun k hk hn=>hk (hK k hn))) (fun _ _ h=>h)⟩
theorem SD.step {K:Nat->Prop} {w:World} {pd p:Nat} {s:Sto} {d:Dk} {N T N' T':Nat} {f:Nat} {args:Array Value} (g:Dk->Dk × Int) (h:SD K w pd p s d N T) (hK:∀ k,K k->k<w.heap.size)
 (hc:∀ F,Dsk F w pd d N T->(∀ k,F k->¬ K k)->Calls Tryz.prog f args w fun e w'=>ZiO F w pd (g d).1 (g d).2 N' T' e w'):Calls Tryz.prog f args w fun e w'=>ZeU K w pd p (Zbu g (s,d)) N' T' e w':=
 h.disk hK hc
theorem Zpo {K:Nat->Prop} {pd p R:Nat} {s:Sto} {d:Dk} {N T:Nat} (w:World) (h:SD K w pd p s d N T) (hK:∀ k,K k->k<w.heap.size) (hR:w.cell? ⟨R,0,none⟩=some (ptr p)) (hcu:I64 s.cur):
 Calls Tryz.prog 66 #[.pointer (some ⟨R,0,none⟩)] w fun e w'=>ZeU K w pd p (ZaC (s,d)) (N+2) T e w':=by
 have HC:=ZZ ((h.below (Below.refl _ _).drew).step (fun d=>Zds d s.cur) hK (fun F hF _=>ZsA s.cur hcu _ hF))
 obtain⟨⟨c0,-,c12,-⟩,-⟩:=h.cells
 have HO:Hid (Zas (fun k=>¬ K k) w w.drew):=ZZ (Zas.ofBelow (Below.refl _ _).drew)
 obtain⟨r,hr⟩:∃ r,r=ZaC (s,d):=⟨_,rfl⟩
 have e1:Zbu (fun d=>Zds d s.cur) (s,d)=r:=hr.symm
 rw[e1] at HC
 rw[<-hr]
 generalize s.cur=cu at *
 clear h hK hcu e1 hr
 go_enter Tryz.func66,Tryz.ntmps66
 go_upto_region 1 with fail
 go_region_with(first | (go_at_call 60;refine HC.out.mono ?_;rintro e W1 ⟨rfl,hs1,ho1⟩;have HS1:=ZZ (And.intro hs1 ho1);clear hs1 ho1))
 all_goals
  go_wp2
  go_ret
  exact⟨rfl,HS1.out.1,HO.out.trans HS1.out.2 (fun _ _ h=>h)⟩
theorem ZnQ (x:SDk):(Zbh [ZaC,ZaH] x).1.1=x.1∨(Zbh [ZaC,ZaH] x).1.1={ x.1 with nw:=false }:=by
 unfold Zbh Zbh
 split
 ·split
  ·unfold Zbh ZaH Zaq
   split
   ·dsimp only
    split
    ·exact .inr rfl
    ·exact .inl rfl
   ·exact .inl rfl
  ·unfold ZaH Zaq
   split
   ·dsimp only
    split
    ·exact .inr rfl
    ·exact .inl rfl
   ·exact .inl rfl
 ·exact .inl rfl
theorem Zrp.nw {s:Sto} (h:Zrp s) (b:Bool):Zrp { s with nw:=b }:=⟨h.f0,h.f1,h.sy,h.cu⟩
theorem SD.synced {K:Nat->Prop} {w:World} {pd p:Nat} {s:Sto} {d:Dk} {N T:Nat} (h:SD K w pd p s d N T) (hK:∀ k,K k->k<w.heap.size):
 SD K (w.setCell ⟨p,11,none⟩ (.int .i64 s.next)) pd p (ZeB s) d N T∧Zas (fun k=>¬ K k) w (w.setCell ⟨p,11,none⟩ (.int .i64 s.next)):=
 h.setHead hK 11 _ rfl rfl rfl (fun _=>rfl)
theorem SD.next {K:Nat->Prop} {w:World} {pd p:Nat} {s:Sto} {d:Dk} {N T:Nat} (h:SD K w pd p s d N T) (hn:Zrp s):
 Calls Tryz.prog 15 #[ptr p] w fun e w'=>e=.returned (.int .i64 s.next)∧Below w.heap.size w w':=by
 obtain⟨F,M,I,L,h1,h2,-⟩:=h
 exact ZkK w h2 hn
theorem ZhE {K:Nat->Prop} {pd p:Nat} {s:Sto} {d:Dk} {N T:Nat} (w:World) (h:SD K w pd p s d N T) (hK:∀ k,K k->k<w.heap.size) (hn:Zrp s):
 Calls Tryz.prog 28 #[ptr p] w fun e w'=>ZeU K w pd p (Zcz (s,d)) (N+4) T e w':=by
 obtain⟨W0,hW0⟩:∃ W0,W0=w.alloc (.cells #[ptr p] 28):=⟨_,rfl⟩
 have HB0:Hid (Below w.heap.size w W0):=ZZ (by rw[hW0];exact ZcY _ _)
 have HX:Hid (Bk 28 W0 w.heap.size #[ptr p]):=ZZ (by rw[hW0];exact heap_alloc_new w _)
 obtain⟨K1,hK1⟩:∃ K1:Nat->Prop,K1=fun k=>K k∨(w.heap.size<=k∧k<W0.heap.size):=⟨_,rfl⟩
 have HS0:Hid (SD K1 W0 pd p s d N T):=ZZ (by rw[hK1];exact h.fresh HB0.out)
 have HKL:Hid (∀ k,K1 k->k<W0.heap.size):=ZZ (by
  rw[hK1]
  intro k hk
  rcases hk with hk | hk
  ·exact Nat.lt_of_lt_of_le (hK k hk) HB0.out.size
  ·exact hk.2)
 have HKK:Hid (∀ k,K k->K1 k):=ZZ (by rw[hK1];exact fun k hk=>.inl hk)
 have HKR:Hid (K1 w.heap.size):=ZZ (by rw[hK1];exact .inr ⟨Nat.le_refl _,HX.out.lt⟩)
 have HO0:Hid (Zas (fun k=>¬ K k) w W0):=ZZ (Zas.ofBelow HB0.out)
 have HRC:Hid (∀ W,Zas (fun k=>¬ K1 k) W0 W->W.cell? ⟨w.heap.size,0,none⟩=some (ptr p)):=ZZ (fun W ho=>((HX.out.keep (ho.block _ HX.out.lt (fun hn=>hn HKR.out))).cell 0 rfl).1)
 have HNS:=ZZ hn
 have r0:=HRC.out W0 (Zas.refl _ _)
 obtain⟨⟨-,-,c12,-⟩,-⟩:=HS0.out.cells
 obtain⟨res,hres⟩:∃ res,res=Zcz (s,d):=⟨_,rfl⟩
 have HRES:=ZZ hres
 rw[<-hres]
 clear h hK hK1 hres
 by_cases hc:s.cur=0
 ·have hcb:(s.cur != 0)=false:=by rw[hc];rfl
  have HR:Hid (res=((ZeB s,d),0)):=ZZ (by rw[HRES.out];unfold Zcz;rw[if_pos hc])
  have HNX:Hid (∀ W,Below W0.heap.size W0 W->Calls Tryz.prog 15 #[ptr p] W fun e w'=>e=.returned (.int .i64 s.next)∧Below W0.heap.size W0 w'):=ZZ (fun W hW=>((HS0.out.below hW).next HNS.out).mono (by
   rintro e w' ⟨rfl,hb⟩
   exact⟨rfl,hW.trans (hb.mono hW.size)⟩))
  have HKP:Hid (∀ W,Below W0.heap.size W0 W->W.cell? ⟨w.heap.size,0,none⟩=some (ptr p)∧W.cell? ⟨p,11,none⟩=some (.int .i64 s.synced)∧W.frozen? ⟨p,11,none⟩=false):=ZZ (fun W hW=>by
   obtain⟨⟨-,c11,-⟩,fz⟩:=(HS0.out.below hW).cells
   exact⟨HRC.out W (Zas.ofBelow hW),c11,fz 11⟩)
  have HSD:Hid (Below W0.heap.size W0 W0.drew):=ZZ (Below.refl _ _).drew
  have HFI:Hid (∀ W,Below W0.heap.size W0 W->ZeU K w pd p res (N+4) T (.returned (.int .i64 0)) (W.setCell ⟨p,11,none⟩ (.int .i64 s.next))):=ZZ (fun W hW=>by
   rw[HR.out]
   have h2:=(HS0.out.below hW).synced (fun k hk=>Nat.lt_of_lt_of_le (HKL.out k hk) hW.size)
   exact ZeU.from (K2:=K1) (W:=W) ⟨rfl,h2.1,h2.2⟩ HKK.out (HO0.out.trans (Zas.ofBelow (F:=fun _=>False) hW) (fun _ _ h=>h.elim)) (by omega) zL)
  generalize s.next=nx at *
  generalize s.cur=cu at *
  clear hc HR HRES hn
  go_enter Tryz.func28,Tryz.ntmps28
  go_upto_region 1 with fail
  rw[<-hW0]
  clear hW0
  go_upto_region 6 with fail
  go_region_with(first | (go_at_call 15;refine(HNX.out _ (by first | exact HSD.out | exact Below.refl _ _)).mono ?_;rintro e W1 ⟨rfl,hb1⟩;have HB1:=ZZ hb1;obtain⟨q0,q11,qf⟩:=HKP.out W1 hb1;clear hb1))
  all_goals
   go_wp2
   go_ret
   exact HFI.out _ HB1.out
 ·have hcb:(s.cur != 0)=true:=by rw[bne_iff_ne];exact hc
  obtain⟨R0,hR0⟩:∃ R0,R0=Zbh [ZaC,ZaH] (s,d):=⟨_,rfl⟩
  have HR:Hid (res=if R0.2=0 then((ZeB R0.1.1,R0.1.2),0) else R0):=ZZ (by rw[HRES.out,hR0];unfold Zcz;rw[if_neg hc])
  have HN0:Hid (Zrp R0.1.1):=ZZ (by
   rcases ZnQ (s,d) with hh | hh
   ·rw[hR0,hh];exact HNS.out
   ·rw[hR0,hh];exact HNS.out.nw false)
  obtain⟨W1,hW1⟩:∃ W1,W1=W0.alloc (.cells #[.func (.func 66) #[] #[.pointer (some ⟨w.heap.size,0,none⟩)],.func (.func 67) #[ptr p] #[]] 154):=⟨_,rfl⟩
  have HB1:Hid (Below W0.heap.size W0 W1):=ZZ (by rw[hW1];exact ZcY _ _)
  have HY:Hid (Bk 154 W1 W0.heap.size #[.func (.func 66) #[] #[.pointer (some ⟨w.heap.size,0,none⟩)],.func (.func 67) #[ptr p] #[]]):=ZZ (by rw[hW1];exact heap_alloc_new W0 _)
  obtain⟨K2,hK2⟩:∃ K2:Nat->Prop,K2=fun k=>K1 k∨(W0.heap.size<=k∧k<W1.heap.size):=⟨_,rfl⟩
  have HS1:Hid (SD K2 W1 pd p s d N T):=ZZ (by rw[hK2];exact HS0.out.fresh HB1.out)
  have HKL2:Hid (∀ k,K2 k->k<W1.heap.size):=ZZ (by
   rw[hK2]
   intro k hk
   rcases hk with hk | hk
   ·exact Nat.lt_of_lt_of_le (HKL.out k hk) HB1.out.size
   ·exact hk.2)
  have HK12:Hid (∀ k,K1 k->K2 k):=ZZ (by rw[hK2];exact fun k hk=>.inl hk)
  have HK2Y:Hid (K2 W0.heap.size):=ZZ (by rw[hK2];exact .inr ⟨Nat.le_refl _,HY.out.lt⟩)
  have HSTEPS:Hid (Calls Tryz.prog 63 #[.slice (some ⟨W0.heap.size,0,none⟩) 2 2] W1 fun e w'=>∃ c:Int,e=.returned (.int .i64 c)∧(c=0->SD K2 w' pd p R0.1.1 R0.1.2 (N+4) T∧R0.2=0∧Zas (fun k=>¬ K2 k) W1 w')∧(c≠0->SD K2 w' pd p R0.1.1 R0.1.2 (N+4) T∧R0.2=c∧Zas (fun k=>¬ K2 k) W1 w')):=ZZ (by
   have hs:=Zpn W0.heap.size 0 2 2 (fun i=>if i=0 then⟨66,#[],#[.pointer (some ⟨w.heap.size,0,none⟩)]⟩ else⟨67,#[ptr p],#[]⟩) W1
    (fun i W=>Zas (fun k=>¬ K2 k) W1 W∧(i=0->SD K2 W pd p s d N T)∧(i=1->(ZaC (s,d)).2=0∧SD K2 W pd p (ZaC (s,d)).1.1 (ZaC (s,d)).1.2 (N+2) T)∧(i=2->R0.2=0∧SD K2 W pd p R0.1.1 R0.1.2 (N+4) T))
    (fun c W=>SD K2 W pd p R0.1.1 R0.1.2 (N+4) T∧R0.2=c∧Zas (fun k=>¬ K2 k) W1 W) (by decide)
    (fun i W hi hP=>by
     have hb:=HY.out.keep (hP.1.block _ HY.out.lt (fun hn=>hn HK2Y.out))
     match i,hi with
     | 0,_=>exact(hb.cell 0 rfl).1
     | 1,_=>exact(hb.cell 1 rfl).1)
    (fun i W hi hP=>by
     have hKW:∀ k,K2 k->k<W.heap.size:=fun k hk=>Nat.lt_of_lt_of_le (HKL2.out k hk) hP.1.size
     match i,hi with
     | 0,_=>
      refine(Zpo (R:=w.heap.size) W (hP.2.1 rfl) hKW (HRC.out W ((Zas.ofBelow HB1.out).trans (hP.1.mono (fun k hk hn=>hk (HK12.out k hn))) (fun _ _ h=>h))) HNS.out.cu).mono ?_
      rintro e w' ⟨rfl,h2,h3⟩
      refine⟨_,rfl,fun hz=>⟨hP.1.trans h3 (fun _ _ h=>h),fun h=>absurd h (by decide),fun _=>⟨hz,h2⟩,fun h=>absurd h (by decide)⟩,fun hz=>?_⟩
      have e1:R0=ZaC (s,d):=by rw[hR0];unfold Zbh;rw[if_neg hz]
      rw[e1]
      exact⟨h2.mono (by omega) zL,rfl,hP.1.trans h3 (fun _ _ h=>h)⟩
     | 1,_=>
      obtain⟨hz0,hs1⟩:=hP.2.2.1 rfl
      refine(ZnP W hs1 hKW).mono ?_
      rintro e w' ⟨rfl,h2,h3⟩
      have e2:ZaH ((ZaC (s,d)).1.1,(ZaC (s,d)).1.2)=ZaH (ZaC (s,d)).1:=rfl
      rw[e2] at h2 ⊢
      have e1:(ZaH (ZaC (s,d)).1).1=R0.1∧(ZaH (ZaC (s,d)).1).2=R0.2:=by
       rw[hR0]
       unfold Zbh
       rw[if_pos hz0]
       unfold Zbh
       split
       ·rename_i hz
        exact⟨rfl,hz⟩
       ·exact⟨rfl,rfl⟩
      rw[e1.1] at h2
      exact⟨_,rfl,fun hz=>⟨hP.1.trans h3 (fun _ _ h=>h),fun h=>absurd h (by decide),fun h=>absurd h (by decide),fun _=>⟨by rw[<-e1.2];exact hz,h2⟩⟩,fun hz=>⟨h2,e1.2.symm,hP.1.trans h3 (fun _ _ h=>h)⟩⟩)
    (fun i hi=>by
     match i,hi with
     | 0,_=>exact enters_of Tryz.func66 (by kernel_rfl) rfl
     | 1,_=>exact enters_of Tryz.func67 (by kernel_rfl) rfl)
    ⟨Zas.refl _ _,fun _=>HS1.out,fun h=>absurd h (by decide),fun h=>absurd h (by decide)⟩
   refine hs.mono ?_
   rintro e w' ⟨c,rfl,g1,g2⟩
   refine⟨c,rfl,fun hz=>?_,g2⟩
   obtain⟨h1,-,-,h4⟩:=g1 hz
   exact⟨(h4 rfl).2,(h4 rfl).1,h1⟩)
  have HO1:Hid (Zas (fun k=>¬ K k) w W1):=ZZ (HO0.out.trans (Zas.ofBelow (F:=fun _=>False) HB1.out) (fun _ _ h=>h.elim))
  have HKK2:Hid (∀ k,K k->K2 k):=ZZ (fun k hk=>HK12.out k (HKK.out k hk))
  have HRC2:Hid (∀ W,Zas (fun k=>¬ K2 k) W1 W->W.cell? ⟨w.heap.size,0,none⟩=some (ptr p)):=ZZ (fun W ho=>HRC.out W ((Zas.ofBelow HB1.out).trans (ho.mono (fun k hk hn=>hk (HK12.out k hn))) (fun _ _ h=>h)))
  have HWW:=ZZ hW1
  have HS0':=HS0
  generalize s.cur=cu at *
  clear hc hR0 hK2 hn hW1
  go_enter Tryz.func28,Tryz.ntmps28
  go_upto_region 1 with fail
  rw[<-hW0]
  clear hW0
  go_wp2_with(go_at_call 63;rw[<-HWW.out];refine HSTEPS.out.mono ?_)
  rintro e W2 ⟨c,rfl,hc0,hc1⟩
  clear HWW r0 c12
  by_cases hc:c=0
  ·subst hc
   obtain⟨hs2,hz,ho2⟩:=hc0 rfl
   have HR2:Hid (res=((ZeB R0.1.1,R0.1.2),0)):=ZZ (by rw[HR.out,if_pos hz])
   have HKW:Hid (∀ k,K2 k->k<W2.heap.size):=ZZ (fun k hk=>Nat.lt_of_lt_of_le (HKL2.out k hk) ho2.size)
   have HS2:=ZZ hs2
   have HO2:=ZZ ho2
   have HNX:Hid (∀ W,Below W2.heap.size W2 W->Calls Tryz.prog 15 #[ptr p] W fun e w'=>e=.returned (.int .i64 R0.1.1.next)∧Below W2.heap.size W2 w'):=ZZ (fun W hW=>((HS2.out.below hW).next HN0.out).mono (by
    rintro e w' ⟨rfl,hb⟩
    exact⟨rfl,hW.trans (hb.mono hW.size)⟩))
   have HKP:Hid (∀ W,Below W2.heap.size W2 W->W.cell? ⟨w.heap.size,0,none⟩=some (ptr p)∧W.cell? ⟨p,11,none⟩=some (.int .i64 R0.1.1.synced)∧W.frozen? ⟨p,11,none⟩=false):=ZZ (fun W hW=>by
    obtain⟨⟨-,c11,-⟩,fz⟩:=(HS2.out.below hW).cells
    exact⟨HRC2.out W (HO2.out.trans (Zas.ofBelow (F:=fun _=>False) hW) (fun _ _ h=>h.elim)),c11,fz 11⟩)
   have HSD:Hid (Below W2.heap.size W2 W2.drew):=ZZ (Below.refl _ _).drew
   have HFI:Hid (∀ W,Below W2.heap.size W2 W->ZeU K w pd p res (N+4) T (.returned (.int .i64 0)) (W.setCell ⟨p,11,none⟩ (.int .i64 R0.1.1.next))):=ZZ (fun W hW=>by
    rw[HR2.out]
    have h2:=(HS2.out.below hW).synced (fun k hk=>Nat.lt_of_lt_of_le (HKW.out k hk) hW.size)
    exact ZeU.from (K2:=K2) (W:=W) ⟨rfl,h2.1,h2.2⟩ HKK2.out ((HO1.out.trans (HO2.out.mono (fun k hk hn=>hk (HKK2.out k hn))) (fun _ _ h=>h)).trans (Zas.ofBelow (F:=fun _=>False) hW) (fun _ _ h=>h.elim)) (by omega) zL)
   obtain⟨q0,q11,qf⟩:=HKP.out W2 (Below.refl _ _)
   generalize R0.1.1.next=nx at *
   generalize R0.1.1.synced=sy at *
   clear hc0 hc1 hs2 hz ho2 HR HRES
   go_upto_region 6 with fail
   go_region_with(first | (go_at_call 15;refine(HNX.out _ (by first | exact HSD.out | exact Below.refl _ _)).mono ?_;rintro e W3 ⟨rfl,hb3⟩;have HB3:=ZZ hb3;obtain⟨x0,x11,xf⟩:=HKP.out W3 hb3;clear hb3))
   all_goals
    go_wp2
    go_ret
    exact HFI.out _ HB3.out
  ·obtain⟨hs2,hz,ho2⟩:=hc1 hc
   have HFI:Hid (ZeU K w pd p res (N+4) T (.returned (.int .i64 c)) W2):=ZZ (by
    rw[HR.out,if_neg (by rw[hz];exact hc)]
    exact ZeU.from (K2:=K2) (W:=W1) ⟨by rw[hz],hs2,ho2⟩ HKK2.out HO1.out zL zL)
   have hcb2:(c != 0)=true:=by rw[bne_iff_ne];exact hc
   clear hc0 hc1 hs2 hz ho2 HR HRES hc
   go_wp2
   go_ret
   exact HFI.out
theorem Own.empty {w:World} {B:Nat} {X:Obj} {cur:Array Value} {N:Nat} (hN:w.heap.size=N) (hX:X=.cells cur 5 (0,0)) (hB:B<=N) (cap:Nat) (hm:cap<=maxLen) (hs:cur.size=cap):Own (w.alloc X) B (.slice (some ⟨N,0,none⟩) 0 cap) []:=by
 subst hN hX
 have h:=World.ownsRow_made (e:=5) (size:=1) (base:=B) w cur cap hB hm (by omega)
 exact h
theorem ZsJ (n:Nat) (w:World) (hn:n<=1000000):
 Calls Tryz.prog 183 #[.slice none 0 0,.int .i64 (n:Int)] w fun e w'=>∃ v',e=.returned v'∧Own w' w.heap.size v' []∧Below w.heap.size w w':=by
 obtain⟨i0,hi,hz0,hz1,hz2⟩:=info_parts Zni
 by_cases h0:n=0
 ·subst h0
  go_enter Tryz.func183,Tryz.ntmps183
  go_wp2
  go_ret
  exact⟨_,rfl,Own.nil _ _,Below.refl _ _⟩
 ·have hrz:∀ ty,(Builtin.append_ #[53,3] ty #[.slice none 0 0,.int .i64 (n:Int)]).run Tryz.prog w =
   .ok (.slice (some ⟨w.heap.size,0,none⟩) n (grownCap w n 0 5)) (w.drew.alloc (.cells (#[]++Builtin.zeroCells #[.int .u8 0] n++Builtin.zeroCells #[.int .u8 0] (grownCap w n 0 5-n)) 5)):=fun ty=>by
   have h:=Lib.run_append_grow_zeros (P:=Tryz.prog) w 53 3 ty 5 i0 (.int .u8 0) .i64 .i64 Tryz.underlying53 Tryz.underlying3 hi hz0 none 0 0 [] (run_firstCells_none w.drew i0.size 0 0 0) n (by omega) (by omega) (by omega) (by omega) (by rw[hz2];omega)
    (by rw[Nat.zero_add];exact growslice_fits (by omega) (by rw[hz2];omega))
   rw[Nat.zero_add] at h
   exact h
  have hGn:n<=grownCap w n 0 5:=grownCap_ge w _ _ _
  have hGm:=grownCap_le_maxLen w n 0 5 (by unfold maxLen;omega)
  generalize grownCap w n 0 5=G at *
  have hG63:G<=9223372036854775807:=by
   unfold maxLen at hGm
   omega
  have hZ:(#[]++Builtin.zeroCells #[Value.int .u8 0] n++Builtin.zeroCells #[Value.int .u8 0] (G-n)).size=G:=by
   simp[Builtin.zeroCells]
   omega
  generalize (#[]++Builtin.zeroCells #[Value.int .u8 0] n++Builtin.zeroCells #[Value.int .u8 0] (G-n))=Z at *
  have hpos:(0:Int)<(n:Int):=by omega
  have HO:Hid (Own (w.drew.alloc (.cells Z 5)) w.heap.size (.slice (some ⟨w.heap.size,0,none⟩) 0 G) []):=ZZ (Own.empty rfl rfl zL G hGm hZ)
  have HB:Hid (Below w.heap.size w (w.drew.alloc (.cells Z 5))):=ZZ (((Below.refl _ _).drew).alloc zL _)
  clear hZ hGm
  go_enter Tryz.func183,Tryz.ntmps183
  go_wp2_with(at_builtin;refine Lib.wpList_append_run _ rfl _ _ _ _ rfl _ _ rfl rfl _ _ (hrz _) ?_)
  all_goals (go_ret;exact⟨_,rfl,HO.out,HB.out⟩)
theorem Zpp (L:List (List UInt8)) (k:Nat) (hk:k<L.length):(L.take (k+1)).flatten=(L.take k).flatten++L.getD k []:=by
 have e:L.take (k+1)=L.take k++[L.getD k []]:=by
  rw[List.take_add_one]
  simp[List.getD,hk]
 rw[e,List.flatten_append]
 simp
theorem ZzZ (L:List (List UInt8)) (k:Nat):((L.take k).flatten).length<=L.flatten.length:=by
 have e:L.flatten=(L.take k).flatten++(L.drop k).flatten:=by rw[<-List.flatten_append,List.take_append_drop]
 rw[e,List.length_append]
 omega
def ZnR (L:List (List UInt8)) (k:Nat):Nat:=(L.take k).flatten.length
def Zwx (L:List (List UInt8)) (k:Nat):List UInt8:=(L.take k).flatten
theorem Zpq (L:List (List UInt8)) (k:Nat) (hk:k<L.length):Zwx L (k+1)=Zwx L k++L.getD k []:=Zpp L k hk
theorem Zpr (L:List (List UInt8)) (k:Nat) (hk:k<L.length):(ZnR L (k+1):Int)=(ZnR L k:Int)+((L.getD k []).length:Int):=by
 unfold ZnR
 rw[Zpp L k hk,List.length_append]
 omega
theorem Zwy (L:List (List UInt8)) (k:Nat):ZnR L k<=L.flatten.length:=ZzZ L k
theorem ZsK (L:List (List UInt8)) (k:Nat):(Zwx L k).length=ZnR L k:=rfl
theorem ZsL (L:List (List UInt8)) (k:Nat) (hk:L.length<=k):Zwx L k=L.flatten:=by
 unfold Zwx
 rw[List.take_of_length_le hk]
theorem Zgh (v:Value) (L:List (List UInt8)) (w:World) (hr:RdL w v L) (hlim:L.flatten.length<=1000000) (hn:L.length<=1000):
 Calls Tryz.prog 132 #[v] w fun e w'=>∃ v',e=.returned v'∧Own w' w.heap.size v' L.flatten∧Below w.heap.size w w':=by
 have HG:=ZZ (fun n W h=>ZsJ n W h)
 have HRL:=ZZ hr
 have HLE:Hid (∀ k,ZnR L k<=1000000):=fun k=>Nat.le_trans (Zwy L k) hlim
 have HFN:=ZZ (Zpr L)
 have HFS:=ZZ (Zpq L)
 have HFA:=ZZ (ZsL L)
 have HFL:=ZZ (ZsK L)
 obtain⟨F,hF⟩:∃ F,F=L.flatten:=⟨_,rfl⟩
 rw[<-hF]
 rw[<-hF] at HFA
 obtain⟨ao,cap,rfl,-,-,-,hao⟩:=hr
 have HAO:=ZZ hao
 clear hao hF hlim
 go_enter Tryz.func132,Tryz.ntmps132
 go_wp2
 go_loopw[3,11] (fun vs vi wr=>∃ (k:Nat),vs=.int .i64 (ZnR L k:Int)∧vi=.int .i64 (k:Int)∧k<=L.length∧wr=w) (fun _ vi _=>L.length-(intOf vi).toNat)
 case atStart=>exact⟨0,rfl,rfl,Nat.zero_le _,rfl⟩
 case round=>
  obtain⟨k,rfl,rfl,hk,hwr⟩:=hrel
  have hwr2:=hwr.symm
  subst hwr2
  clear hwr
  by_cases hlt:k<L.length
  ·rcases HAO.out with h0 | ⟨c,off,rfl,hc⟩
   ·rw[h0] at hlt;simp at hlt
   obtain⟨x,hx,hrx⟩:=hc k hlt
   have h1:=HLE.out (k+1)
   have h2:=HFN.out k hlt
   obtain⟨ax,cx,rfl,-⟩:=hrx
   have h3:¬ ((ZnR L k:Int)+((L.getD k []).length:Int)<0):=by omega
   have h4:(ZnR L k:Int)+((L.getD k []).length:Int)<=1000000:=by omega
   have H2:=ZZ h2
   clear hc h1 h2
   generalize ZnR L k=A at *
   generalize (L.getD k []).length=D at *
   go_wp2
   go_roundw
   case rel=>exact⟨k+1,by rw[H2.out],by go_num,by omega,trivial⟩
   case measure=>simp[intOf];omega
  ·have HGG:=ZZ (HG.out (ZnR L k) w (HLE.out k))
   generalize ZnR L k=A at *
   go_wp2_with fail
   refine HGG.out.mono ?_
   rintro e W1 ⟨v1,rfl,ho1,hb1⟩
   have HO1:=ZZ ho1
   have HB1:=ZZ hb1
   clear ho1 hb1 hk hlt
   go_wp2
   go_loopw[6,27] (fun vo vi w2=>∃ (j:Nat),vi=.int .i64 (j:Int)∧j<=L.length∧Hid (Own w2 w.heap.size vo (Zwx L j))∧Hid (Below w.heap.size w w2)) (fun _ vi _=>L.length-(intOf vi).toNat)
   case atStart=>exact⟨0,rfl,Nat.zero_le _,HO1,HB1⟩
   case round=>
    clear HO1 HB1
    obtain⟨j,rfl,hj,HO2,HB2⟩:=hrel
    by_cases hjl:j<L.length
    ·rcases HAO.out with h0 | ⟨c,off,rfl,hc⟩
     ·rw[h0] at hjl;simp at hjl
     obtain⟨x,hx0,hrx⟩:=hc j hjl
     have hx:=(HB2.out.cell (World.block_lt_of_cell? _ _ hx0)).trans hx0
     have HRX:=ZZ (hrx.below HB2.out zL)
     obtain⟨ax,cx,rfl,-⟩:=hrx
     have HLL:Hid ((Zwx L j).length+(L.getD j []).length<=70368744177664):=ZZ (by
      have h1:=HLE.out (j+1)
      have h2:=HFN.out j hjl
      rw[HFL.out]
      omega)
     have HSZ:=ZZ HB2.out.size
     have HN:=ZZ (HFS.out j hjl)
     clear hc hx0
     generalize L.getD j []=D at *
     generalize Zwx L j=P at *
     go_wp2_with(at_builtin;refine ZaD _ rfl _ _ rfl w.heap.size _ P rfl HO2.out _ D rfl HRX.out HLL.out HSZ.out ?_)
     intro v3 W3 ho3 hb3
     rw[<-HN.out] at ho3
     have HO3:=ZZ ho3
     have HB3:=ZZ (HB2.out.trans hb3)
     clear ho3 hb3
     go_wp2
     go_roundw
     case rel=>exact⟨j+1,by go_num,by omega,HO3,HB3⟩
     case measure=>simp[intOf];omega
    ·have HE:=ZZ (HFA.out j (by omega))
     rw[HE.out] at HO2
     go_wp2
     go_ret
     exact⟨_,rfl,HO2.out,HB2.out⟩
theorem RdL.built (W:World) (N:Nat) (hN:N=W.heap.size) (vs:Array Value) (L:List (List UInt8)) (hl:L.length<=1000) (h:∀ j,j<L.length->∃ x,vs[j]?=some x∧Rd W x (L.getD j [])):
 RdL (W.alloc (.cells vs 53)) (.slice (some ⟨N,0,none⟩) L.length L.length) L:=by
 subst hN
 refine⟨some ⟨W.heap.size,0,none⟩,L.length,rfl,Nat.le_refl _,by unfold maxLen;omega,fun e=>(by cases e),.inr ⟨W.heap.size,0,rfl,fun j hj=>?_⟩⟩
 obtain⟨x,hx,hr⟩:=h j hj
 refine⟨x,?_,hr.below ((Below.refl _ _).alloc zL _) zL⟩
 rw[Nat.zero_add,cell_of_row _ W.heap.size j vs 53 (0,0) (heap_alloc_new W _)]
 exact hx
theorem Zwz (W:World) (N:Nat) (hN:N=W.heap.size) (v0 v1 v2 v3:Value) (l0 l1 l2 l3:List UInt8) (h0:Rd W v0 l0) (h1:Rd W v1 l1) (h2:Rd W v2 l2) (h3:Rd W v3 l3) (hlim:l0.length+l1.length+l2.length+l3.length<=1000000):
 Calls Tryz.prog 132 #[.slice (some ⟨N,0,none⟩) 4 4] (W.alloc (.cells #[v0,v1,v2,v3] 53)) fun e w'=>∃ v',e=.returned v'∧Own w' W.heap.size v' (l0++(l1++(l2++l3)))∧Below W.heap.size W w':=by
 have hr:=RdL.built W N hN #[v0,v1,v2,v3] [l0,l1,l2,l3] (by simp) (fun j hj=>by
  match j,hj with
  | 0,_=>exact⟨v0,rfl,h0⟩
  | 1,_=>exact⟨v1,rfl,h1⟩
  | 2,_=>exact⟨v2,rfl,h2⟩
  | 3,_=>exact⟨v3,rfl,h3⟩)
 have ef:[l0,l1,l2,l3].flatten=l0++(l1++(l2++l3)):=by simp
 refine(Zgh _ _ _ hr (by rw[ef];simp only [List.length_append];omega) (by simp)).mono ?_
 rintro e w' ⟨v',rfl,ho,hb⟩
 rw[ef] at ho
 exact⟨v',rfl,ho.mono (by simp),((Below.refl _ _).alloc zL _).trans (hb.mono (by simp))⟩
theorem ZwA (W:World) (N:Nat) (hN:N=W.heap.size) (v0 v1 v2:Value) (l0 l1 l2:List UInt8) (h0:Rd W v0 l0) (h1:Rd W v1 l1) (h2:Rd W v2 l2) (hlim:l0.length+l1.length+l2.length<=1000000):
 Calls Tryz.prog 132 #[.slice (some ⟨N,0,none⟩) 3 3] (W.alloc (.cells #[v0,v1,v2] 53)) fun e w'=>∃ v',e=.returned v'∧Own w' W.heap.size v' (l0++(l1++l2))∧Below W.heap.size W w':=by
 have hr:=RdL.built W N hN #[v0,v1,v2] [l0,l1,l2] (by simp) (fun j hj=>by
  match j,hj with
  | 0,_=>exact⟨v0,rfl,h0⟩
  | 1,_=>exact⟨v1,rfl,h1⟩
  | 2,_=>exact⟨v2,rfl,h2⟩)
 have ef:[l0,l1,l2].flatten=l0++(l1++l2):=by simp
 refine(Zgh _ _ _ hr (by rw[ef];simp only [List.length_append];omega) (by simp)).mono ?_
 rintro e w' ⟨v',rfl,ho,hb⟩
 rw[ef] at ho
 exact⟨v',rfl,ho.mono (by simp),((Below.refl _ _).alloc zL _).trans (hb.mono (by simp))⟩
theorem Zue (v:Value) (l:List UInt8) (w:World) (hr:Rd w v l) (hlim:l.length<=1000000):
 Calls Tryz.prog 215 #[v] w fun e w'=>∃ v',e=.returned v'∧Own w' w.heap.size v' l∧Below w.heap.size w w':=by
 have HR:=ZZ hr
 obtain⟨ao,cap,rfl,hlc,-,hn,-⟩:=hr
 cases ao with
 | none=>
  obtain rfl:cap=0:=hn rfl
  obtain rfl:l=[]:=List.eq_nil_of_length_eq_zero (by omega)
  clear hn hlc
  have hnil:∀ w,(binOp .eql 53 (.slice none 0 0) (.slice none 0 0)).run Tryz.prog w=.ok (.bool true) w:=fun w=>run_eql_slice_nil w _ _ none 0 0 Tryz.underlying53
  go_enter Tryz.func215,Tryz.ntmps215
  go_wp2
  go_ret
  exact⟨_,rfl,Own.nil _ _,Below.refl _ _⟩
 | some a=>
  clear hn
  have hnil:∀ w,(binOp .eql 53 (.slice (some a) l.length cap) (.slice none 0 0)).run Tryz.prog w=.ok (.bool false) w:=fun w=>run_eql_slice_nil w _ _ (some a) _ _ Tryz.underlying53
  have HB0:Hid (∀ X,Below w.heap.size w (w.alloc X)):=fun X=>(Below.refl _ _).alloc zL X
  have HO0:Hid (Own (w.alloc (.cells #[] 5)) w.heap.size (.slice (some ⟨w.heap.size,0,none⟩) 0 0) []):=ZZ (Own.empty rfl rfl zL 0 (Nat.zero_le _) rfl)
  go_enter Tryz.func215,Tryz.ntmps215
  go_wp2_with(at_builtin;refine ZaD _ rfl _ _ rfl w.heap.size _ [] rfl HO0.out _ l rfl (HR.out.below (HB0.out _) zL) (by simp;omega) (by simp) ?_)
  intro v1 W1 ho1 hb1
  have HO1:=ZZ ho1
  have HB1:=ZZ ((HB0.out _).trans hb1)
  clear ho1 hb1
  go_wp2
  go_ret
  exact⟨_,rfl,HO1.out,HB1.out⟩
def ZaJ:Array Value:=((List.range 256).map fun c=>Value.int .u32 ((Zgl c:Nat):Int)).toArray
def ZbV:Array Value:=(List.replicate 256 (Value.int .u32 0)).toArray
theorem Zjw:(Tryz.prog.info? 267).map (fun i=>(i.zero,i.size))=some (some (.agg ZbV),256):=by kernel_rfl
theorem Zck:ZaJ.size=256:=by simp[ZaJ]
theorem ZfQ:ZbV.size=256:=by
 unfold ZbV
 rw[List.size_toArray,List.length_replicate]
theorem ZiT:ZaJ.all (·.oneCell')=true:=by
 rw[Array.all_eq_true]
 intro i hi
 simp[ZaJ,Value.oneCell']
theorem ZkP (k:Nat) (h:k<256):ZaJ[k]?=some (.int .u32 ((Zgl k:Nat):Int)):=by
 simp[ZaJ,h]
theorem ZwB (w:World):(Instr.storeAt 267 (.pointer (some ⟨w.heap.size,0,none⟩)) (.agg ZaJ)).run Tryz.prog (w.alloc (.cells ZbV 267))=.ok () (w.alloc (.cells ZaJ 267)):=
 run_storeAt_new w 267 ZbV ZaJ (by rw[Zck];exact(zero_of_info Zjw).2) (by rw[Zck,ZfQ]) ZiT
def Zyz (w:World) (b:Nat):Prop:=∀ k,k<256->w.cell? ⟨b,k,none⟩=some (.int .u32 ((Zgl k:Nat):Int))
theorem Zyz.made (w:World):Zyz (w.alloc (.cells ZaJ 267)) w.heap.size:=by
 intro k hk
 rw[cell_of_row _ w.heap.size k ZaJ 267 (0,0) (heap_alloc_last w _)]
 exact ZkP k hk
theorem ZkQ (w:World) {ops:Array Oper} {rest:List Oper} {o:Oper} {a:Act} {Q:Exit->Act->World->Prop} (hgd:o.guard=none) (x y:Operand) (ho:o.op=.store 267 x y)
 (hx:a.eval x=.pointer (some ⟨w.heap.size,0,none⟩)) (hy:a.eval y=.agg ZaJ)
 (h:∀ w',Below w.heap.size w w'->Zyz w' w.heap.size->wpList Tryz.prog ops Q rest (a.put o.dst undef) w'):wpList Tryz.prog ops Q (o::rest) a (w.alloc (.cells ZbV 267)):=
 wpList_plain hgd fun _ hK=>by
  have hrun:=ZwB w
  unfold Oper.wp execOp
  simp only [ho,hx,hy,hrun,Sem.run_bind,Sem.run_pure,Result.andThen_ok]
  exact hK _ _ (h _ ((Below.refl _ _).alloc zL _) (Zyz.made w))
def ZkR (k:Nat):Array Value:=((List.range 256).map fun c=>if c<k then Value.int .u32 ((Zgl c:Nat):Int) else Value.int .u32 0).toArray
theorem ZeS (k:Nat):(ZkR k).size=256:=by simp[ZkR]
theorem ZfR (k i:Nat) (h:i<256):(ZkR k)[i]?=some (if i<k then Value.int .u32 ((Zgl i:Nat):Int) else Value.int .u32 0):=by
 simp[ZkR,h]
theorem Zuf:ZkR 0=ZbV:=by
 apply Array.ext_getElem?
 intro i
 by_cases h:i<256
 ·rw[ZfR 0 i h]
  unfold ZbV
  rw[List.getElem?_toArray,List.getElem?_replicate_of_lt h]
  simp
 ·rw[Array.getElem?_eq_none (by rw[ZeS];omega),Array.getElem?_eq_none (by rw[ZfQ];omega)]
theorem Zug:ZkR 256=ZaJ:=by
 apply Array.ext_getElem?
 intro i
 by_cases h:i<256
 ·rw[ZfR 256 i h,if_pos h,ZkP i h]
 ·rw[Array.getElem?_eq_none (by rw[ZeS];omega),Array.getElem?_eq_none (by rw[Zck];omega)]
theorem ZwC (k:Nat) (hk:k<256):(ZkR k).setIfInBounds k (Value.int .u32 ((Zgl k:Nat):Int))=ZkR (k+1):=by
 apply Array.ext_getElem?
 intro i
 rw[Array.getElem?_setIfInBounds]
 by_cases h:i<256
 ·rw[ZfR (k+1) i h,ZfR k i h,ZeS]
  by_cases hi:k=i
  ·subst hi
   simp[hk]
  ·rw[if_neg hi]
   have e:(i<k+1)=(i<k):=by
    apply propext
    omega
   simp only [e]
 ·have hi:¬ k=i:=by omega
  rw[if_neg hi,Array.getElem?_eq_none (by rw[ZeS];omega),Array.getElem?_eq_none (by rw[ZeS];omega)]
theorem ZnS {C:Array Value} (h:C.size=256):(Tryz.prog.info? 267).map (·.size)=some C.size:=by
 rw[h]
 exact(zero_of_info Zjw).2
theorem ZkS (w:World) {ops:Array Oper} {rest:List Oper} {o:Oper} {a:Act} {Q:Exit->Act->World->Prop} (hgd:o.guard=none) (x:Operand) (ho:o.op=.load 267 x)
 (g:Nat) (C:Array Value) (fr:Nat × Nat) (hx:a.eval x=.pointer (some ⟨g,0,none⟩)) (hg:w.heap[g]?=some (.cells C 267 fr)) (hC:C.size=256)
 (h:wpList Tryz.prog ops Q rest (a.put o.dst (.agg C)) w):wpList Tryz.prog ops Q (o::rest) a w:=
 wpList_plain hgd fun _ hK=>by
  have hrun:=run_loadVar_row (P:=Tryz.prog) w g 267 267 C fr _ hg Tryz.underlying267 rfl (ZnS hC)
  unfold Oper.wp execOp
  simp only [ho,hx,Instr.loadAt,Instr.sureAddr,Sem.run_bind,Sem.run_pure,Result.andThen_ok,hrun]
  exact hK _ _ h
theorem Zjh (w:World) {ops:Array Oper} {rest:List Oper} {o:Oper} {a:Act} {Q:Exit->Act->World->Prop} (hgd:o.guard=none) (x y:Operand) (ho:o.op=.store 267 x y)
 (g:Nat) (C D:Array Value) (hx:a.eval x=.pointer (some ⟨g,0,none⟩)) (hy:a.eval y=.agg D) (hg:w.heap[g]?=some (.cells C 267 (0,0))) (hC:C.size=256) (hD:D.size=256) (h1:D.all (·.oneCell')=true)
 (h:wpList Tryz.prog ops Q rest (a.put o.dst undef) (w.setRow g D)):wpList Tryz.prog ops Q (o::rest) a w:=
 wpList_plain hgd fun _ hK=>by
  have hrun:=run_storeVar_row (P:=Tryz.prog) w g 267 267 C D hg (ZnS hD) (by rw[hC,hD]) h1
  unfold Oper.wp execOp
  simp only [ho,hx,hy,Instr.storeAt,Instr.sureAddr,Sem.run_bind,Sem.run_pure,Result.andThen_ok,hrun]
  exact hK _ _ h
theorem Zps {fn:Func} {p:Tmp} {ty:TypeId} (h:fn.results=#[.cell p ty]) (tmps:Array Value) (P:Program) (w:World):
 (results fn tmps).run P w=((asAddr (tmps.getD p undef)).run P w).andThen fun a w₁=>(loadVar ty a).run P w₁:=by
 simp only [results,h]
 simp[Sem.run_bind,Result.andThen]
theorem ZwD (k:Nat) (hk:k<256) (w:World):Calls Tryz.prog 226 #[.int .u32 (k:Int)] w fun e w'=>e=.returned (.int .u32 (Zgl k:Nat))∧w'=w:=by
 have HK:=ZZ hk
 clear hk
 go_enter Tryz.func226,Tryz.ntmps226
 go_wp2
 go_loop [0,4] (fun x j=>∃ m:Nat,m<=8∧j=.int .i64 (m:Int)∧x=.int .u32 (ZdF m k:Nat)) (fun _ j=>8-(intOf j).toNat)
 case atStart=>exact⟨0,Nat.zero_le _,rfl,rfl⟩
 case round=>
  obtain⟨m,hm,rfl,rfl⟩:=hrel
  by_cases hm8:m<8
  ·have HS:=ZZ (Zub m k)
   have hbt:ZdF m k<4294967296:=Zwn m (by have:=HK.out;omega)
   generalize ZdF m k=y at *
   obtain⟨Y,hY⟩:∃ Y:Int,Y=(y:Int):=⟨_,rfl⟩
   rw[<-hY]
   have hY0:0<=Y:=by omega
   have hY1:Y<4294967296:=by omega
   have HY:=ZZ hY
   have HBT:=ZZ hbt
   clear hY hbt
   by_cases ho:Y % 2=1
   ·have hob:(Y % 2 == 1)=true:=beq_iff_eq.2 ho
    have HO:=ZZ ho
    clear ho
    go_wp2
    go_round
    case rel=>
     have e:=HY.out
     have eo:=HO.out
     refine⟨m+1,by omega,by go_num,?_⟩
     have e2:Y / 2=((y / 2:Nat):Int):=by omega
     have e3:(2197175160:Int)=((2197175160:Nat):Int):=rfl
     have ht:Ztm y=y / 2 ^^^ 2197175160:=if_pos (by omega)
     rw[HS.out,ht,e2,e3,Zrm _ _ (by have:=HBT.out;omega) (by decide)]
    case measure=>simp[intOf];omega
   ·have hob:(Y % 2 == 1)=false:=beq_eq_false_iff_ne.2 ho
    have HO:=ZZ ho
    clear ho
    go_wp2
    go_round
    case rel=>
     have e:=HY.out
     have eo:=HO.out
     refine⟨m+1,by omega,by go_num,?_⟩
     have e2:Y / 2=((y / 2:Nat):Int):=by omega
     have ht:Ztm y=y / 2:=if_neg (by omega)
     rw[HS.out,ht,e2]
    case measure=>simp[intOf];omega
  ·have HE:Hid (ZdF m k=Zgl k):=by
    have e:m=8:=by omega
    rw[e]
    exact rfl
   generalize ZdF m k=y at *
   go_wp2
   go_ret
   refine⟨ZeX ?_,rfl⟩
   rw[HE.out]
theorem ZwE (w:World):Calls Tryz.prog 216 #[] w fun e w'=>e=.returned (.agg ZaJ)∧Below w.heap.size w w':=by
 have hz:=(zero_of_info Zjw).1
 have HC:Hid (∀ (k:Nat) (w:World),k<256->Calls Tryz.prog 226 #[.int .u32 (k:Int)] w fun e w'=>e=.returned (.int .u32 (Zgl k:Nat))∧w'=w):=fun k w hk=>ZwD k hk w
 go_enter Tryz.func216,Tryz.ntmps216
 go_wp2
 go_loopw[3] (fun i wr=>∃ k:Nat,k<=256∧i=.int .i64 (k:Int)∧Hid (wr.heap[w.heap.size+1]?=some (.cells (ZkR k) 267 (0,0)))∧Hid (wr.heap[w.heap.size]?=some (.cells ZbV 267 (0,0)))∧Hid (Below w.heap.size w wr)) (fun i _=>256-(intOf i).toNat)
 case atStart=>
  have e1:((w.alloc (.cells ZbV 267)).alloc (.cells ZbV 267)).heap[w.heap.size+1]?=some (.cells (ZkR 0) 267 (0,0)):=by
   rw[Zuf]
   have h:=heap_alloc_last (w.alloc (.cells ZbV 267)) (.cells ZbV 267)
   have hs:(w.alloc (.cells ZbV 267)).heap.size=w.heap.size+1:=by simp
   rw[hs] at h
   exact h
  have e0:((w.alloc (.cells ZbV 267)).alloc (.cells ZbV 267)).heap[w.heap.size]?=some (.cells ZbV 267 (0,0)):=
   (Below.heap_alloc _ _ w.heap.size (by simp)).trans (heap_alloc_last w _)
  exact⟨0,Nat.zero_le _,rfl,e1,e0,((Below.refl _ _).alloc zL _).alloc (by simp) _⟩
 case round=>
  obtain⟨k,hk,rfl,h1,h0,hb⟩:=hrel
  by_cases hlt:k<256
  ·have hcell:wr.cell? ⟨w.heap.size+1,k,none⟩=some (.int .u32 0):=by
    rw[cell_of_row wr _ k _ _ _ h1.out,ZfR k k hlt]
    simp
   have hfr:wr.frozen? ⟨w.heap.size+1,k,none⟩=false:=frozen_of_row wr _ k _ _ h1.out
   have HST:Hid ((wr.setCell ⟨w.heap.size+1,k,none⟩ (.int .u32 ((Zgl k:Nat):Int))).heap[w.heap.size+1]?=some (.cells (ZkR (k+1)) 267 (0,0))):=by
    have h:=heap_setCell_same wr (w.heap.size+1) k _ _ (.int .u32 ((Zgl k:Nat):Int)) h1.out
    rw[ZwC k hlt] at h
    exact h
   go_wp2_with fail
   refine(HC.out k wr hlt).mono ?_
   rintro e w2 ⟨rfl,rfl⟩
   go_wp2
   go_roundw
   case rel=>exact⟨k+1,by omega,by go_num,HST,(Below.heap_setCell _ _ _ _ (by show w.heap.size≠w.heap.size+1;omega)).trans h0.out,hb.out.setCell (by show w.heap.size<=w.heap.size+1;omega) _⟩
   case measure=>simp[intOf];omega
  ·have h1':wr.heap[w.heap.size+1]?=some (.cells ZaJ 267 (0,0)):=by
    have e:k=256:=by omega
    rw[<-Zug,<-e]
    exact h1.out
   have H1:=ZZ h1'
   have HRES:Hid ((loadVar 267 ⟨w.heap.size,0,none⟩).run Tryz.prog (wr.setRow w.heap.size ZaJ)=.ok (.agg ZaJ) (wr.setRow w.heap.size ZaJ)):=
    run_loadVar_row (P:=Tryz.prog) _ _ 267 267 ZaJ (0,0) _ (setRow_heap wr _ _ ZaJ _ _ h0.out) Tryz.underlying267 rfl (ZnS Zck)
   have HB:Hid (Below w.heap.size w (wr.setRow w.heap.size ZaJ)):=
    ⟨hb.out.os,hb.out.tape,hb.out.output,by have:=hb.out.size;simp[World.setRow];omega,fun j hj=>(setRow_other wr _ j _ (by omega)).trans (hb.out.block j hj)⟩
   clear h1' h1
   go_wp2_with(first
    | refine ZkS _ rfl _ rfl (w.heap.size+1) ZaJ (0,0) rfl H1.out Zck ?_
    | refine Zjh _ rfl _ _ rfl w.heap.size ZbV ZaJ rfl rfl h0.out ZfQ Zck ZiT ?_)
   refine bodyPost_ret (v:=.agg ZaJ) ?_ rfl ⟨rfl,HB.out⟩
   have h:=HRES.out
   rw[Zps Tryz.results216]
   have e:(asAddr (.pointer (some ⟨w.heap.size,0,none⟩))).run Tryz.prog (wr.setRow w.heap.size ZaJ)=.ok ⟨w.heap.size,0,none⟩ (wr.setRow w.heap.size ZaJ):=by simp[asAddr]
   simp only [Act.put,List.setIfInBounds_toArray,List.set_cons_succ,List.set_cons_zero]
   show((asAddr (.pointer (some ⟨w.heap.size,0,none⟩))).run Tryz.prog (wr.setRow w.heap.size ZaJ)).andThen _=_
   rw[e]
   simp only [Result.andThen]
   rw[h]
theorem ZyA (s:Nat) (v:Value) (l:List UInt8) (w:World) (hr:Rd w v l) (hs:s<4294967296):
 Calls Tryz.prog 188 #[.int .u32 (s:Int),v] w fun e w'=>e=.returned (.int .u32 (Zay s l:Nat))∧Below w.heap.size w w':=by
 have HR:=ZZ hr
 obtain⟨ao,cap,rfl,hlc,hcm,hn0,hao⟩:=hr
 clear hn0
 have HAO:=ZZ hao
 clear hao
 have hml:(l.length:Int)<=9223372036854775807:=by unfold maxLen at hcm;omega
 have HN:=ZZ (Zwo s hs)
 have HL:Hid (∀ k,Zeo (s ^^^ 4294967295) (l.take k)<4294967296):=fun k=>ZjQ _ (Zvy hs)
 have HE:Hid (Zay s l=Zeo (s ^^^ 4294967295) l ^^^ 4294967295):=rfl
 have HT:=ZZ (fun w=>ZwE w)
 have hz:=(zero_of_info Zjw).1
 generalize s ^^^ 4294967295=x0 at *
 clear hs
 go_enter Tryz.func188,Tryz.ntmps188
 go_wp2_with fail
 refine(HT.out _).mono ?_
 rintro e w2 ⟨rfl,hb⟩
 have HB2:=ZZ hb
 clear hb HT
 go_wp2_with(refine ZkQ _ rfl _ _ rfl rfl rfl ?_)
 intro w3 hb3 ht3
 have HB3:=ZZ (HB2.out.trans (hb3.mono HB2.out.size))
 have HT3:=ZZ ht3
 clear hb3 ht3 hz
 go_wp2
 go_loop [6,14] (fun x i=>∃ k:Nat,k<=l.length∧i=.int .i64 k∧x=.int .u32 (Zeo x0 (l.take k):Nat)) (fun _ i=>l.length-(intOf i).toNat)
 case atStart=>
  refine⟨0,Nat.zero_le _,rfl,?_⟩
  rw[HN.out]
  rfl
 case round=>
  obtain⟨k,hk,rfl,rfl⟩:=hrel
  have hy:=HL.out k
  by_cases hlt:k<l.length
  ·have HS:=ZZ (Zrn l x0 k hlt)
   rcases HAO.out with hao | ⟨b,off,rfl,_⟩
   ·subst hao;simp at hlt
   have hck:=(HR.out.below HB3.out zL).at k hlt
   have hc256:(l.getD k 0).toNat<256:=UInt8.toNat_lt _
   generalize Zeo x0 (l.take k)=y at *
   generalize (l.getD k 0).toNat=c at *
   have hlb:=ZzX y c hc256
   have hbx:bits .xor .u8 ((y:Int) % 256) (c:Int)=((y % 256 ^^^ c:Nat):Int):=by
    have e:(y:Int) % 256=((y % 256:Nat):Int):=by omega
    rw[e]
    exact ZAP _ _ (by omega) hc256
   have HF:Hid (bits .xor .u32 ((Zgl (y % 256 ^^^ c):Nat):Int) ((y:Int) / 256)=((ZgE y c:Nat):Int)):=by
    have e:(y:Int) / 256=((y / 256:Nat):Int):=by omega
    rw[e,Zrm _ _ (Zyx _ hlb) (by omega)]
    unfold ZgE
    rw[Zyw y c hc256]
    exact rfl
   have htc:=HT3.out (y % 256 ^^^ c) hlb
   generalize hm:y % 256 ^^^ c=m at *
   have HM:=ZZ hm
   clear hm
   have hmi:(m:Int)<256:=by omega
   obtain⟨E,hE⟩:∃ E:Int,E=((Zgl m:Nat):Int):=⟨_,rfl⟩
   rw[<-hE] at htc HF
   clear hE
   go_wp2
   go_round
   case rel=>exact⟨k+1,by omega,by go_num,by rw[HS.out,<-HF.out]⟩
   case measure=>simp[intOf];omega
  ·go_wp2
   go_ret
   refine⟨ZeX ?_,HB3.out⟩
   rw[HE.out,Zwo _ hy,List.take_of_length_le (by omega)]
theorem ZnT (v:Value) (l:List UInt8) (w:World) (hr:Rd w v l):
 Calls Tryz.prog 137 #[v] w fun e w'=>e=.returned (.int .u32 (Zay 0 l:Nat))∧Below w.heap.size w w':=by
 have HC:Hid (Calls Tryz.prog 188 #[.int .u32 0,v] w fun e w'=>e=.returned (.int .u32 (Zay 0 l:Nat))∧Below w.heap.size w w'):=ZyA 0 v l w hr (by decide)
 generalize Zay 0 l=m at *
 clear hr
 go_enter Tryz.func137,Tryz.ntmps137
 go_wp2_with fail
 refine HC.out.mono ?_
 rintro e w' ⟨rfl,hb⟩
 have HB:=ZZ hb
 clear hb HC
 go_wp2
 go_ret
 exact⟨rfl,HB.out⟩
def Zji (v:Value) (l:List UInt8) (xs:List Value) (L:List (List UInt8)):Prop:=
 xs.length=L.length∧∀ j,j<L.length->∃ x,xs[j]?=some x∧x.oneCell'=true∧∀ W,Rd W v l->Rd W x (L.getD j [])
theorem Zji.nil (v:Value) (l:List UInt8):Zji v l [] []:=⟨rfl,fun j hj=>absurd hj (by simp)⟩
theorem Zji.snoc {v:Value} {l:List UInt8} {xs:List Value} {L:List (List UInt8)} (h:Zji v l xs L) {x:Value} {d:List UInt8} (h1:x.oneCell'=true) (h2:∀ W,Rd W v l->Rd W x d):Zji v l (xs++[x]) (L++[d]):=by
 refine⟨by simp[h.1],fun j hj=>?_⟩
 rw[List.length_append,List.length_singleton] at hj
 by_cases hl:j<L.length
 ·obtain⟨y,e1,e2,e3⟩:=h.2 j hl
  refine⟨y,by rw[List.getElem?_append_left (by rw[h.1];exact hl)];exact e1,e2,?_⟩
  have e:(L++[d]).getD j []=L.getD j []:=by simp[List.getD,List.getElem?_append_left hl]
  rw[e]
  exact e3
 ·have e0:j=L.length:=by omega
  subst e0
  refine⟨x,by rw[List.getElem?_append_right (by rw[h.1];omega),h.1];simp,h1,?_⟩
  have e:(L++[d]).getD L.length []=d:=by simp[List.getD]
  rw[e]
  exact h2
theorem Zji.one {v:Value} {l:List UInt8} {xs:List Value} {L:List (List UInt8)} (h:Zji v l xs L):∀ u ∈ xs,u.oneCell'=true:=fun u hu=>by
 obtain⟨j,hj,rfl⟩:=List.getElem_of_mem hu
 obtain⟨x,hx,ho,-⟩:=h.2 j (by rw[<-h.1];exact hj)
 rw[List.getElem?_eq_getElem hj] at hx
 obtain rfl:=Option.some.inj hx
 exact ho
theorem ZwF:(Tryz.prog.info? 53).map (fun i=>(i.zero,i.size,i.bytes))=some (some (.slice none 0 0),1,24):=by kernel_rfl
theorem ZkT (w:World) (ty:TypeId) (B:Nat) (v:Value) (n:Nat) (xs:List Value) (h:w.ownsRow B 53 1 v n xs) (a:Addr) (m cap:Nat) (ys:List Value) (hm:ys.length=m) (hc:∀ j u,ys[j]?=some u->w.cell? (a.add j)=some u) (hy:∀ u ∈ ys,u.oneCell'=true) (hlim:n+m<=1000000) (hbase:B<=w.heap.size):
 ∃ v' w',(Builtin.append_ #[145,145] ty #[v,.slice (some a) m cap]).run Tryz.prog w=.ok v' w'∧w'.ownsRow B 53 1 v' (n+m) (xs++ys)∧Below B w w':=by
 obtain⟨i0,hi,hz0,hz1,hz2⟩:=info_parts ZwF
 obtain⟨v',w',hrun,ho,hgr,_⟩:=run_append_own (P:=Tryz.prog) w B 145 ty 53 i0 (.slice none 0 0) 1 24 Tryz.underlying145 hi hz0 hz1 hz2 rfl (by decide) v n xs h
  a m cap ys (by rw[hm,Nat.mul_one]) hc hy (by unfold maxLen;omega) (by omega) hbase
 exact⟨v',w',hrun,ho,(Below.refl _ _).grown hgr hbase (fun k hk=>(World.ownsRow.lt h k hk).1)⟩
theorem ZcQ (w:World) {ops:Array Oper} {rest:List Oper} {o:Oper} {a:Act} {Q:Exit->Act->World->Prop} (hgd:o.guard=none) (s x:Operand)
 (ho:o.op=.call { callee:=.builtin .append,args:=#[s,x],argTypes:=#[145,145] })
 (B:Nat) (v:Value) (n:Nat) (xs:List Value) (hs:a.eval s=v) (hown:w.ownsRow B 53 1 v n xs) (d:Addr) (m cap:Nat) (ys:List Value) (hx:a.eval x=.slice (some d) m cap) (hm:ys.length=m) (hc:∀ j u,ys[j]?=some u->w.cell? (d.add j)=some u) (hy:∀ u ∈ ys,u.oneCell'=true)
 (hlim:n+m<=1000000) (hbase:B<=w.heap.size)
 (h:∀ v' w',w'.ownsRow B 53 1 v' (n+m) (xs++ys)->Below B w w'->wpList Tryz.prog ops Q rest (a.put o.dst v') w'):wpList Tryz.prog ops Q (o::rest) a w:=
 wpList_plain hgd fun _ hK=>by
  obtain⟨v',w',hrun,h2,h3⟩:=ZkT w o.type B v n xs hown d m cap ys hm hc hy hlim hbase
  unfold Oper.wp execOp
  simp only [ho,resolve,invoke,builtin,Sem.run_bind,Sem.run_pure,Result.andThen_ok,List.map_toArray,List.map_cons,List.map_nil,hs,hx,hrun]
  exact hK _ _ (h v' w' h2 h3)
theorem ZyB (ao:Option Addr) (l:List UInt8) (cap:Nat) (hlc:l.length<=cap) (i j:Nat) (hij:i<=j) (hj:j<=l.length):
 ∃ xa xn xc,(∀ W,(Instr.sliceAt 53 (.slice ao l.length cap) (some (.int .i64 (i:Int))) (some (.int .i64 (j:Int))) (some (.int .i64 (j:Int)))).run Tryz.prog W=.ok (.slice xa xn xc) W)∧∀ W,Rd W (.slice ao l.length cap) l->Rd W (.slice xa xn xc) ((l.drop i).take (j-i)):=by
 have hsl:∃ xa xn xc,sliced ao i j j 1=.slice xa xn xc:=by
  unfold sliced
  exact⟨_,_,_,rfl⟩
 obtain⟨xa,xn,xc,hsl⟩:=hsl
 refine⟨xa,xn,xc,fun W=>?_,fun W h=>?_⟩
 ·rw[run_sliceAt_slice W 53 _ _ _ _ ZaE,run_slice_lhm W 53 ao l.length cap ZaE .i64 .i64 .i64 (i:Int) (j:Int) (j:Int) (by omega) (by omega) (by omega) (by omega),ZbS,Zfg]
  simp only [Int.toNat_natCast]
  rw[<-hsl]
  rfl
 ·rw[<-hsl]
  exact h.mid i j j hij hj zL (by omega)
theorem ZkU (w:World) (x:Obj):w.heap.size<=(w.alloc x).heap.size:=((Below.refl w.heap.size w).alloc zL x).size
theorem Zpt (w:World) (v:Value):∀ j u,[v][j]?=some u->(w.alloc (.cells #[v] 53)).cell? ((⟨w.heap.size,0,none⟩:Addr).add j)=some u:=fun j u hj=>by
 rw[Addr.add_lit,Nat.zero_add,cell_of_row _ w.heap.size j _ 53 (0,0) (heap_alloc_new w _)]
 rw[<-List.getElem?_toArray] at hj
 exact hj
def ZAa (w:World) (v:Value) (l:List UInt8) (L:List (List UInt8)) (e:Ending) (w':World):Prop:=
 ∃ v' xs,e=.returned v'∧w'.ownsRow w.heap.size 53 1 v' L.length xs∧Zji v l xs L∧Below w.heap.size w w'
theorem ZmI (v:Value) (l:List UInt8) (w:World) (hr:Rd w v l) (hlim:l.length<=100000):
 Calls Tryz.prog 103 #[v] w fun e w'=>ZAa w v l (Zbb l) e w':=by
 obtain⟨ao,cap,rfl,hlc,hcm,-⟩:=hr
 have HCV:=ZZ (fun i j=>ZyB ao l cap hlc i j)
 have HPD:Hid (∀ A,A<l.length->Zbb (l.drop A)=(l.drop A).take 64::Zbb (l.drop (A+64))):=ZZ (fun A h=>ZqQ h)
 have HP0:Hid (Zbb l=[]++Zbb (l.drop 0)):=ZZ (by simp)
 have HPN:Hid (∀ A,l.length<=A->Zbb (l.drop A)=[]):=ZZ (fun A h=>by rw[List.drop_eq_nil_of_le h,ZaY])
 have HTK:Hid (∀ A,l.length<=A+64->(l.drop A).take (l.length-A)=(l.drop A).take 64):=ZZ (fun A h=>by
  rw[List.take_of_length_le (by rw[List.length_drop];omega),List.take_of_length_le (by rw[List.length_drop];omega)])
 obtain⟨PL,hPL⟩:∃ PL,PL=Zbb l:=⟨_,rfl⟩
 rw[<-hPL] at HP0 ⊢
 clear hPL hcm
 go_enter Tryz.func103,Tryz.ntmps103
 go_wp2
 go_loopw[3,4] (fun vo va wr=>∃ (A:Nat) (P:List (List UInt8)) (xs:List Value),va=.int .i64 (A:Int)∧P.length<=A∧A<=l.length+64∧Hid (wr.ownsRow w.heap.size 53 1 vo P.length xs)∧Hid (Zji (.slice ao l.length cap) l xs P)∧Hid (PL=P++Zbb (l.drop A))∧Hid (Below w.heap.size w wr)) (fun _ va _=>l.length+64-(intOf va).toNat)
 case atStart=>exact⟨0,[],[],rfl,Nat.le_refl _,by omega,ZZ (World.ownsRow_nil w w.heap.size 53 1),ZZ (Zji.nil _ _),HP0,Below.refl _ _⟩
 case round=>
  clear HP0
  obtain⟨A,P,xs,rfl,hPA,hA,hO,hV,hE,hB⟩:=hrel
  by_cases hlt:A<l.length
  case neg=>
   have hni:¬ (A:Int)<(l.length:Int):=by omega
   have HF:Hid (PL=P):=ZZ (by rw[hE.out,HPN.out A (by omega),List.append_nil])
   go_wp2
   go_ret
   rw[HF.out]
   exact⟨_,xs,rfl,hO.out,hV.out,hB.out⟩
  have hli:(A:Int)<(l.length:Int):=by omega
  have HPA:=ZZ (HPD.out A hlt)
  by_cases h:A+64<=l.length
  ·obtain⟨xa,xn,xc,hcut,hv⟩:=HCV.out A (A+64) (by omega) h
   have e1:((A+64:Nat):Int)=(A:Int)+64:=by omega
   have e2:A+64-A=64:=by omega
   rw[e1] at hcut
   rw[e2] at hv
   have HV:=ZZ hv
   have hmn:(A:Int)+64<=(l.length:Int):=by omega
   have hmi:min ((A:Int)+64) (l.length:Int)=(A:Int)+64:=by omega
   have hmn2:¬ (l.length:Int)<(A:Int)+64:=by omega
   have HSA:Hid (w.heap.size<=(wr.alloc (.cells #[.slice xa xn xc] 53)).heap.size):=ZZ (Nat.le_trans hB.out.size (ZkU wr _))
   have HOA:Hid ((wr.alloc (.cells #[.slice xa xn xc] 53)).ownsRow w.heap.size 53 1 _ P.length xs):=ZZ (World.ownsRow.alloc hO.out _)
   have HCA:=ZZ (Zpt wr (.slice xa xn xc))
   have HYA:Hid (∀ u ∈ [Value.slice xa xn xc],u.oneCell'=true):=ZZ (fun u hu=>by rw[List.mem_singleton.1 hu];rfl)
   have hPl:P.length+1<=1000000:=by omega
   clear hv e1 e2 HPD HCV HPN HTK h
   go_wp2_with(at_builtin;refine ZcQ _ rfl _ _ rfl w.heap.size _ P.length xs rfl HOA.out ⟨wr.heap.size,0,none⟩ 1 1 [.slice xa xn xc] rfl rfl HCA.out HYA.out hPl HSA.out ?_)
   intro v1 W1 ho1 hb1
   have HO1:=ZZ ho1
   have HB1:=ZZ ((hB.out.alloc hB.out.size _).trans hb1)
   clear ho1 hb1
   go_wp2
   go_roundw
   case rel=>exact⟨A+64,P++[(l.drop A).take 64],xs++[.slice xa xn xc],by go_num,by simp;omega,by omega,ZZ (by rw[List.length_append,List.length_singleton];exact HO1.out),ZZ (hV.out.snoc rfl HV.out),ZZ (by rw[hE.out,HPA.out,List.append_assoc];rfl),HB1⟩
   case measure=>simp[intOf];omega
  ·obtain⟨xa,xn,xc,hcut,hv⟩:=HCV.out A l.length (by omega) zL
   rw[HTK.out A (by omega)] at hv
   have HV:=ZZ hv
   have hmn:(l.length:Int)<(A:Int)+64:=by omega
   have hmi:min ((A:Int)+64) (l.length:Int)=(l.length:Int):=by omega
   have hmn2:¬ (A:Int)+64<=(l.length:Int):=by omega
   have HSA:Hid (w.heap.size<=(wr.alloc (.cells #[.slice xa xn xc] 53)).heap.size):=ZZ (Nat.le_trans hB.out.size (ZkU wr _))
   have HOA:Hid ((wr.alloc (.cells #[.slice xa xn xc] 53)).ownsRow w.heap.size 53 1 _ P.length xs):=ZZ (World.ownsRow.alloc hO.out _)
   have HCA:=ZZ (Zpt wr (.slice xa xn xc))
   have HYA:Hid (∀ u ∈ [Value.slice xa xn xc],u.oneCell'=true):=ZZ (fun u hu=>by rw[List.mem_singleton.1 hu];rfl)
   have hPl:P.length+1<=1000000:=by omega
   clear hv HPD HCV HPN HTK h
   go_wp2_with(at_builtin;refine ZcQ _ rfl _ _ rfl w.heap.size _ P.length xs rfl HOA.out ⟨wr.heap.size,0,none⟩ 1 1 [.slice xa xn xc] rfl rfl HCA.out HYA.out hPl HSA.out ?_)
   intro v1 W1 ho1 hb1
   have HO1:=ZZ ho1
   have HB1:=ZZ ((hB.out.alloc hB.out.size _).trans hb1)
   clear ho1 hb1
   go_wp2
   go_roundw
   case rel=>exact⟨A+64,P++[(l.drop A).take 64],xs++[.slice xa xn xc],by go_num,by simp;omega,by omega,ZZ (by rw[List.length_append,List.length_singleton];exact HO1.out),ZZ (hV.out.snoc rfl HV.out),ZZ (by rw[hE.out,HPA.out,List.append_assoc];rfl),HB1⟩
   case measure=>simp[intOf];omega
theorem ZlU (i:Int) (v:Value) (l:List UInt8) (w:World) (hr:Rd w v l):
 Calls Tryz.prog 101 #[.int .i64 i,v] w fun e w'=>e=.returned (.agg #[.int .i64 i,.int .i64 (l.length:Int),.int .u32 ((Zay 0 l:Nat):Int)])∧Below w.heap.size w w':=by
 have HB0:Hid (∀ X,Below w.heap.size w (w.alloc X)):=fun X=>(Below.refl _ _).alloc zL X
 have HS:=ZZ (fun W (h:Below w.heap.size w W)=>ZnT v l W (hr.below h zL))
 obtain⟨ao,cap,rfl,-⟩:=hr
 generalize Zay 0 l=m at *
 obtain⟨M,hM⟩:∃ M:Int,M=(m:Int):=⟨_,rfl⟩
 rw[<-hM] at HS ⊢
 clear hM
 have HX:Hid (∀ cs,(w.alloc (.cells cs 148)).heap[w.heap.size]?=some (.cells cs 148 (0,0))):=fun cs=>heap_alloc_new w _
 go_enter Tryz.func101,Tryz.ntmps101
 go_wp2_with fail
 refine(HS.out _ (HB0.out _)).mono ?_
 rintro x W1 ⟨rfl,hb1⟩
 have HB1:=ZZ ((HB0.out _).trans (hb1.mono (HB0.out _).size))
 have hx:=(hb1.block w.heap.size (by simp)).trans (HX.out _)
 have z0:=cell_of_row W1 w.heap.size 0 _ _ _ hx
 have z1:=cell_of_row W1 w.heap.size 1 _ _ _ hx
 have z2:=cell_of_row W1 w.heap.size 2 _ _ _ hx
 have f0:=frozen_of_row W1 w.heap.size 0 _ _ hx
 have f1:=frozen_of_row W1 w.heap.size 1 _ _ hx
 have f2:=frozen_of_row W1 w.heap.size 2 _ _ hx
 clear hb1 hx
 go_wp2
 refine bodyPost_ret (v:=.agg #[.int .i64 i,.int .i64 (l.length:Int),.int .u32 M]) (by simp[results,Tryz.results101,go_sem,z0,z1,z2]) rfl ?_
 exact⟨rfl,((HB1.out.setCell zL _).setCell zL _).setCell zL _⟩
theorem Zpu:∀ (A B:List Int),ZcL (A++B)=ZcL A++ZcL B
 | [],_=>rfl
 | x::r,B=>by rw[List.cons_append,ZcL,Zpu r B,ZcL,List.append_assoc]
theorem ZiU:∀ (L:List Int),(∀ x ∈ L,I64 x)->(ZcL L).length<=10*L.length
 | [],_=>by simp[ZcL]
 | x::r,h=>by
  have ih:=ZiU r (fun y hy=>h y (by simp[hy]))
  have hx:=ZxL (h x (by simp))
  rw[ZcL,List.length_append,List.length_cons]
  omega
theorem Zuh (L:List Int) (k:Nat) (hk:k<L.length):ZcL (L.take (k+1))=ZcL (L.take k)++Lib.uvarint (Lib.zigzag (L.getD k 0)):=by
 have e:L.take (k+1)=L.take k++[L.getD k 0]:=by
  rw[List.take_add_one]
  simp[List.getD,hk]
 rw[e,Zpu]
 simp[ZcL]
def ZwG (s:St):List UInt8:=(Lib.uvarint s.kind.toNat++Lib.uvarint (Zez s))++Lib.uvarint s.L.length
theorem ZwH (s:St):Zjp s=ZwG s++ZcL s.L:=by
 unfold Zjp ZwG
 simp[List.append_assoc]
theorem ZyC (shut:Bool) (g:Int) (h:0<=g):(if shut=true then g+1 else 0)=((Zez ⟨0,[],shut,g⟩:Nat):Int):=by
 unfold Zez
 cases shut
 ·rfl
 ·simp
  omega
theorem Zpv (k:Int) (l:List Int) (shut:Bool) (g:Int):Zez ⟨k,l,shut,g⟩=Zez ⟨0,[],shut,g⟩:=rfl
def ZBx (w:World) (s:St) (e:Ending) (w':World):Prop:=
 ∃ v',e=.returned (.tuple #[v',.int .i64 (if Zcy s then 0 else 1)])∧Rd w' v' (if Zcy s then Zjp s else[])∧Below w.heap.size w w'
theorem ZlV (kind:Int) (ao:Option Addr) (n cap:Nat) (shut:Bool) (g:Int) (w:World) (h0:0<=g) (h1:g<=2):
 Calls Tryz.prog 191 #[.agg #[.int .i64 kind,.slice ao n cap,.bool shut,.int .i64 g]] w fun e w'=>e=.returned (.int .i64 ((Zez ⟨0,[],shut,g⟩:Nat):Int))∧Below w.heap.size w w':=by
 have HB0:Hid (∀ X,Below w.heap.size w (w.alloc X)):=fun X=>(Below.refl _ _).alloc zL X
 have HS:=ZZ (ZyC shut g h0)
 generalize Zez ⟨0,[],shut,g⟩=m at *
 cases shut
 ·go_enter Tryz.func191,Tryz.ntmps191
  go_wp2
  go_ret
  refine⟨?_,HB0.out _⟩
  rw[<-HS.out]
  rfl
 ·go_enter Tryz.func191,Tryz.ntmps191
  go_wp2
  go_ret
  refine⟨?_,HB0.out _⟩
  rw[<-HS.out]
  rfl
theorem ZkV (v:Value) (s:St) (w:World) (hs:StV w v s) (hlim:s.L.length<=1000):
 Calls Tryz.prog 142 #[v] w fun e w'=>ZBx w s e w':=by
 obtain⟨vl,rfl,hr,hki,hei⟩:=hs
 obtain⟨kind,l,shut,g⟩:=s
 simp only at hr hki hei hlim ⊢
 have HMAY:Hid (∀ W,Below w.heap.size w W->Calls Tryz.prog 83 #[.agg #[.int .i64 kind,vl,.bool shut,.int .i64 g]] W fun e w'=>e=.returned (.bool (decide (Zcy ⟨kind,l,shut,g⟩)))∧Below W.heap.size W w'):=fun W h=>ZnK _ ⟨kind,l,shut,g⟩ W ⟨vl,rfl,hr.below h zL,hki,hei⟩
 have HB0:Hid (∀ X,Below w.heap.size w (w.alloc X)):=fun X=>(Below.refl _ _).alloc zL X
 have HRD:=ZZ hr
 obtain⟨ao,cap,rfl,-,-,-,hi,hao⟩:=hr
 have HAO:=ZZ hao
 clear hao hki hei
 unfold ZBx
 by_cases hm:Zcy ⟨kind,l,shut,g⟩
 ·simp only [if_pos hm]
  have HT:=ZZ (decide_eq_true hm)
  have hk0:0<=kind:=hm.2.2.2.1
  have hk6:kind<6:=hm.2.2.2.2.1
  have hg0:0<=g:=hm.1
  have hg2:g<=2:=hm.2.1
  have hsl:=Zsq hm
  rw[Zpv] at hsl
  have HI:=ZZ hi
  have u1:=Zdx (n:=kind.toNat) (by omega)
  have u2:=Zdx (n:=Zez ⟨0,[],shut,g⟩) (by omega)
  have u3:=Zdx (n:=l.length) (by omega)
  have HPut:Hid (∀ (n:Int),0<=n->n<4611686018427387904->∀ W,Calls Tryz.prog 133 #[.slice none 0 0,.int .i64 n] W fun e w'=>∃ v',e=.returned v'∧Own w' W.heap.size v' (Lib.uvarint n.toNat)∧Below W.heap.size W w'):=fun n h0 h1 W=>by
   have h:=ZeD (.slice none 0 0) [] n W (Rd.nil W) (by simp)
   rw[Zcf h0 h1,List.nil_append] at h
   exact h
  have HP1:=ZZ (HPut.out kind hk0 (by omega))
  have HP2:=ZZ (HPut.out ((Zez ⟨0,[],shut,g⟩:Nat):Int) (by omega) (by omega))
  have HP3:=ZZ (HPut.out (l.length:Int) (by omega) (by omega))
  rw[Int.toNat_natCast] at HP2 HP3
  have HSN:=ZZ (fun W=>ZlV kind ao l.length cap shut g W hg0 hg2)
  have HPS:Hid (∀ x,I64 x->∀ W,Calls Tryz.prog 143 #[.slice none 0 0,.int .i64 x] W fun e w'=>∃ v',e=.returned v'∧Own w' W.heap.size v' (Lib.uvarint (Lib.zigzag x))∧Below W.heap.size W w'):=fun x hx W=>by
   have h:=Zci (.slice none 0 0) [] x W (Rd.nil W) (by simp) hx.1 hx.2
   rw[List.nil_append] at h
   exact h
  have HES:Hid (Zjp ⟨kind,l,shut,g⟩=(Lib.uvarint kind.toNat++(Lib.uvarint (Zez ⟨0,[],shut,g⟩)++Lib.uvarint l.length))++ZcL l):=by
   refine ZZ ?_
   rw[ZwH]
   unfold ZwG
   rw[Zpv]
   simp only [List.append_assoc]
  have HNL:Hid (∀ k,(ZcL (l.take k)).length<=10*1000):=fun k=>by
   have h1:=ZiU (l.take k) (fun x hx=>hi x (List.mem_of_mem_take hx))
   have h2:(l.take k).length<=l.length:=by simp;omega
   omega
  have HCC:Hid (∀ W N v0 v1 v2,N=W.heap.size->Rd W v0 (Lib.uvarint kind.toNat)->Rd W v1 (Lib.uvarint (Zez ⟨0,[],shut,g⟩))->Rd W v2 (Lib.uvarint l.length)->Calls Tryz.prog 132 #[.slice (some ⟨N,0,none⟩) 3 3] (W.alloc (.cells #[v0,v1,v2] 53)) fun e w'=>∃ v',e=.returned v'∧Own w' W.heap.size v' (Lib.uvarint kind.toNat++(Lib.uvarint (Zez ⟨0,[],shut,g⟩)++Lib.uvarint l.length))∧Below W.heap.size W w'):=fun W N v0 v1 v2 hN h0 h1 h2=>ZwA W N hN v0 v1 v2 _ _ _ h0 h1 h2 (by omega)
  rw[HES.out]
  have hHl:(Lib.uvarint kind.toNat++(Lib.uvarint (Zez ⟨0,[],shut,g⟩)++Lib.uvarint l.length)).length<=30:=by
   simp only [List.length_append]
   omega
  clear hm hi HES HPut u1 u2 u3
  generalize Zez ⟨0,[],shut,g⟩=m at *
  generalize Lib.uvarint kind.toNat=A at *
  generalize Lib.uvarint m=B at *
  generalize Lib.uvarint l.length=C at *
  generalize A++(B++C)=H at *
  go_enter Tryz.func142,Tryz.ntmps142
  go_wp2_with fail
  refine(HMAY.out _ (HB0.out _)).mono ?_
  rintro e W1 ⟨rfl,hb1⟩
  rw[HT.out]
  have hx1:Bx W1 w.heap.size _:=(hb1.block w.heap.size (by simp)).trans (heap_alloc_new w _)
  have HX1:=ZZ hx1
  have HB1:=ZZ ((HB0.out _).trans (hb1.mono (HB0.out _).size))
  obtain⟨p0,-⟩:=hx1.cell 0
  obtain⟨p1,-⟩:=hx1.cell 1
  obtain⟨p2,-⟩:=hx1.cell 2
  obtain⟨p3,-⟩:=hx1.cell 3
  clear hb1 hx1
  go_wp2
  go_region_held(fun w'=>w'.cell? ⟨w.heap.size,0,none⟩=some (.int .i64 kind)∧w'.cell? ⟨w.heap.size,1,none⟩=some (.slice ao l.length cap)∧w'.cell? ⟨w.heap.size,2,none⟩=some (.bool shut)∧w'.cell? ⟨w.heap.size,3,none⟩=some (.int .i64 g)) (go_keep)
   (first
    | (go_at_call_of 133 (Value.int .i64 kind);refine(HP1.out _).mono ?_;rintro e W2 ⟨v2,rfl,ho2,hb2⟩;have hx2:=HX1.out.below (((Below.refl _ _).drew).trans hb2) zL;have HX2:=ZZ hx2;have HB2:=ZZ (HB1.out.trans ((((Below.refl _ _).drew).trans hb2).mono HB1.out.size));obtain⟨a2,c2,rfl,-⟩:=ho2.rd;have HO2:=ZZ ho2.rd;obtain⟨q0,-⟩:=hx2.cell 0;obtain⟨q1,-⟩:=hx2.cell 1;obtain⟨q2,-⟩:=hx2.cell 2;obtain⟨q3,-⟩:=hx2.cell 3;clear ho2 hb2 hx2)
    | (go_at_call 191;refine(HSN.out _).mono ?_;rintro e W3 ⟨rfl,hb3⟩;have hx3:=HX2.out.below hb3 zL;have HX3:=ZZ hx3;have HB3:=ZZ (HB2.out.trans (hb3.mono HB2.out.size));have HO23:=ZZ (HO2.out.below hb3 zL);obtain⟨r0,-⟩:=hx3.cell 0;obtain⟨r1,-⟩:=hx3.cell 1;obtain⟨r2,-⟩:=hx3.cell 2;obtain⟨r3,-⟩:=hx3.cell 3;clear hb3 hx3)
    | (go_at_call_of 133 (Value.int .i64 (m:Int));refine(HP2.out _).mono ?_;rintro e W4 ⟨v4,rfl,ho4,hb4⟩;have hx4:=HX3.out.below hb4 zL;have HX4:=ZZ hx4;have HB4:=ZZ (HB3.out.trans (hb4.mono HB3.out.size));have HO24:=ZZ (HO23.out.below hb4 zL);obtain⟨a4,c4,rfl,-⟩:=ho4.rd;have HO4:=ZZ ho4.rd;obtain⟨s0,-⟩:=hx4.cell 0;obtain⟨s1,-⟩:=hx4.cell 1;obtain⟨s2,-⟩:=hx4.cell 2;obtain⟨s3,-⟩:=hx4.cell 3;clear ho4 hb4 hx4)
    | (go_at_call_of 133 (Value.int .i64 (l.length:Int));refine(HP3.out _).mono ?_;rintro e W5 ⟨v5,rfl,ho5,hb5⟩;have hx5:=HX4.out.below hb5 zL;have HX5:=ZZ hx5;have HB5:=ZZ (HB4.out.trans (hb5.mono HB4.out.size));have HO25:=ZZ (HO24.out.below hb5 zL);have HO45:=ZZ (HO4.out.below hb5 zL);obtain⟨a5,c5,rfl,-⟩:=ho5.rd;have HO5:=ZZ ho5.rd;obtain⟨t0,-⟩:=hx5.cell 0;obtain⟨t1,-⟩:=hx5.cell 1;obtain⟨t2,-⟩:=hx5.cell 2;obtain⟨t3,-⟩:=hx5.cell 3;clear ho5 hb5 hx5)
    | (go_at_call 132;refine(HCC.out W5 W5.heap.size _ _ _ rfl HO25.out HO45.out HO5.out).mono ?_;rintro e W6 ⟨v6,rfl,ho6,hb6⟩;have hx6:=HX5.out.below hb6 zL;have HX6:=ZZ hx6;have HO6:=ZZ (ho6.mono HB5.out.size);have HB6:=ZZ (HB5.out.trans (hb6.mono HB5.out.size));obtain⟨y0,-⟩:=hx6.cell 0;obtain⟨y1,-⟩:=hx6.cell 1;obtain⟨y2,-⟩:=hx6.cell 2;obtain⟨y3,-⟩:=hx6.cell 3;clear ho6 hb6 hx6))
  clear p0 p1 p2 p3 q0 q1 q2 q3 r0 r1 r2 r3 s0 s1 s2 s3 t0 t1 t2 t3 HX1 HX2 HX3 HX4 HX5 HB1 HB2 HB3 HB4 HB5 HO2 HO23 HO24 HO25 HO4 HO45 HO5 HP1 HP2 HP3 HSN HCC HMAY
  go_wp2
  go_loopw[4,25] (fun vo i wr=>∃ k:Nat,i=.int .i64 k∧k<=l.length∧Hid (Own wr w.heap.size vo (H++ZcL (l.take k)))∧Hid (Below w.heap.size w wr)) (fun _ i _=>l.length-(intOf i).toNat)
  case atStart=>exact⟨0,rfl,Nat.zero_le _,by simpa[ZcL] using HO6,HB6⟩
  case round=>
   clear y0 y1 y2 y3 HX6 HO6 HB6
   obtain⟨k,rfl,hk,hown,hbel⟩:=hrel
   by_cases hlt:k<l.length
   ·rcases HAO.out with h0 | ⟨c,off,rfl,hc⟩
    ·rw[h0] at hlt;simp at hlt
    have hck:wr.cell? ⟨c,off+k,none⟩=some (.int .i64 (l.getD k 0)):=(hbel.out.cell (World.block_lt_of_cell? w ⟨c,off+k,none⟩ (hc k hlt))).trans (hc k hlt)
    have HIK:Hid (I64 (l.getD k 0)):=ZxN HI.out k
    have HPK:=ZZ (HPS.out (l.getD k 0) HIK.out)
    have HLK:Hid ((H++ZcL (l.take k)).length+(Lib.uvarint (Lib.zigzag (l.getD k 0))).length<=70368744177664):=by
     refine ZZ ?_
     have:=HNL.out k
     have:=ZxL HIK.out
     rw[List.length_append]
     omega
    have HSN:Hid ((H++ZcL (l.take k))++Lib.uvarint (Lib.zigzag (l.getD k 0))=H++ZcL (l.take (k+1))):=by
     refine ZZ ?_
     rw[Zuh l k hlt,List.append_assoc]
    clear hc
    generalize l.getD k 0=y at *
    generalize H++ZcL (l.take k)=P at *
    generalize Lib.uvarint (Lib.zigzag y)=D at *
    go_wp2_with fail
    refine(HPK.out _).mono ?_
    rintro e W7 ⟨v7,rfl,ho7,hb7⟩
    have HO7:=ZZ ho7.rd
    have HOW:=ZZ (hown.out.below hb7 zL)
    have HB7:=ZZ (hbel.out.trans (hb7.mono hbel.out.size))
    have HSZ:=ZZ HB7.out.size
    clear ho7 hb7
    go_wp2_with(at_builtin;refine ZaD _ rfl _ _ rfl w.heap.size _ P rfl HOW.out _ D rfl HO7.out HLK.out HSZ.out ?_)
    intro v8 W8 ho8 hb8
    rw[HSN.out] at ho8
    have HO8:=ZZ ho8
    have HB8:=ZZ (HB7.out.trans hb8)
    clear ho8 hb8
    go_wp2
    go_roundw
    case rel=>exact⟨k+1,by go_num,by omega,HO8,HB8⟩
    case measure=>simp[intOf];omega
   ·have hke:l.take k=l:=List.take_of_length_le (by omega)
    rw[hke] at hown
    clear hke
    go_wp2
    go_ret2
    exact⟨_,rfl,hown.out.rd,hbel.out⟩
 ·simp only [if_neg hm]
  have HT:=ZZ (decide_eq_false hm)
  clear hm
  go_enter Tryz.func142,Tryz.ntmps142
  go_wp2_with fail
  refine(HMAY.out _ (HB0.out _)).mono ?_
  rintro e W1 ⟨rfl,hb1⟩
  rw[HT.out]
  have HB1:=ZZ ((HB0.out _).trans (hb1.mono (HB0.out _).size))
  clear hb1
  go_wp2
  go_ret2
  exact⟨_,rfl,Rd.nil _,HB1.out⟩
def ZAb (i n m:Nat):List UInt8:=115::(Lib.uvarint 3++(Lib.uvarint i++(Lib.uvarint n++Lib.leBytes 4 m)))
theorem ZyD (i:Nat) (l:List UInt8):ZAb i l.length (Zay 0 l)=Zid i l:=rfl
theorem ZwI (W:World) (N:Nat) (hN:N=W.heap.size):Rd (W.alloc (.cells #[.int .u8 115] 5)) (.slice (some ⟨N,0,none⟩) 1 1) [115]:=by
 subst hN
 refine⟨some ⟨W.heap.size,0,none⟩,1,rfl,Nat.le_refl _,by unfold maxLen;omega,(fun h=>by cases h),.inr ⟨W.heap.size,0,rfl,fun j hj=>?_⟩⟩
 have e:j=0:=by simpa using hj
 subst e
 rw[cell_of_row _ W.heap.size _ _ 5 (0,0) (heap_alloc_new W _)]
 rfl
theorem ZAY (W:World) (N:Nat) (hN:N=W.heap.size):Rd (W.alloc (.cells #[.int .u8 115] 5)).drew (.slice (some ⟨N,0,none⟩) 1 1) [115]:=
 (ZwI W N hN).below (((Below.refl _ _)).drew) zL
theorem ZAc (W:World) (N:Nat) (hN:N=W.heap.size) (v0 v1 v2 v3 v4:Value) (l0 l1 l2 l3 l4:List UInt8) (h0:Rd W v0 l0) (h1:Rd W v1 l1) (h2:Rd W v2 l2) (h3:Rd W v3 l3) (h4:Rd W v4 l4) (hlim:l0.length+l1.length+l2.length+l3.length+l4.length<=1000000):
 Calls Tryz.prog 132 #[.slice (some ⟨N,0,none⟩) 5 5] (W.alloc (.cells #[v0,v1,v2,v3,v4] 53)) fun e w'=>∃ v',e=.returned v'∧Own w' W.heap.size v' (l0++(l1++(l2++(l3++l4))))∧Below W.heap.size W w':=by
 have hr:=RdL.built W N hN #[v0,v1,v2,v3,v4] [l0,l1,l2,l3,l4] (by simp) (fun j hj=>by
  match j,hj with
  | 0,_=>exact⟨v0,rfl,h0⟩
  | 1,_=>exact⟨v1,rfl,h1⟩
  | 2,_=>exact⟨v2,rfl,h2⟩
  | 3,_=>exact⟨v3,rfl,h3⟩
  | 4,_=>exact⟨v4,rfl,h4⟩)
 refine(Zgh _ _ _ hr (by simp;omega) (by simp)).mono ?_
 rintro e w' ⟨v',rfl,ho,hb⟩
 have ef:[l0,l1,l2,l3,l4].flatten=l0++(l1++(l2++(l3++l4))):=by simp
 rw[ef] at ho
 exact⟨v',rfl,ho.mono (by simp),((Below.refl _ _).alloc zL _).trans (hb.mono (by simp))⟩
def Bm (w:World) (b:Nat) (x y z:Value):Prop:=w.heap[b]?=some (.cells #[x,y,z] 148 (0,0))
theorem Bm.lt {w:World} {b:Nat} {x y z:Value} (h:Bm w b x y z):b<w.heap.size:=(Array.getElem?_eq_some_iff.1 h).1
theorem Bm.below {w w':World} {b B:Nat} {x y z:Value} (h:Bm w b x y z) (hb:Below B w w') (hB:w.heap.size<=B):Bm w' b x y z:=(hb.block b (by have:=h.lt;omega)).trans h
theorem Bm.cells {w:World} {b:Nat} {x y z:Value} (h:Bm w b x y z):w.cell? ⟨b,0,none⟩=some x∧w.cell? ⟨b,1,none⟩=some y∧w.cell? ⟨b,2,none⟩=some z:=
 ⟨cell_of_row w b 0 _ _ _ h,cell_of_row w b 1 _ _ _ h,cell_of_row w b 2 _ _ _ h⟩
theorem ZyE (i n:Int) (m:Nat) (w:World) (hi:0<=i∧i<4611686018427387904) (hn:0<=n∧n<4611686018427387904) (hm:m<4294967296):
 Calls Tryz.prog 102 #[.agg #[.int .i64 i,.int .i64 n,.int .u32 (m:Int)]] w fun e w'=>∃ v',e=.returned v'∧Own w' w.heap.size v' (ZAb i.toNat n.toNat m)∧Below w.heap.size w w':=by
 have HPU:Hid (∀ k W,0<=k->k<4611686018427387904->Calls Tryz.prog 133 #[.slice none 0 0,.int .i64 k] W fun e w'=>∃ v',e=.returned v'∧Own w' W.heap.size v' (Lib.uvarint k.toNat)∧Below W.heap.size W w'):=ZZ (fun k W h0 h1=>by
  have h:=ZeD (.slice none 0 0) [] k W (Rd.nil W) (by simp)
  rw[Zcf h0 h1,List.nil_append] at h
  exact h)
 have HP1:=ZZ (fun W=>HPU.out 3 W (by omega) (by omega))
 have HP2:=ZZ (fun W=>HPU.out i W hi.1 hi.2)
 have HP3:=ZZ (fun W=>HPU.out n W hn.1 hn.2)
 have HFX:=ZZ (fun W=>Zko m W hm)
 have q1:(Lib.uvarint (3:Int).toNat).length<=10:=Zdx (by decide)
 have q2:(Lib.uvarint i.toNat).length<=10:=Zdx (by omega)
 have q3:(Lib.uvarint n.toNat).length<=10:=Zdx (by omega)
 have q4:(Lib.leBytes 4 m).length<=10:=by rw[Lib.leBytes_length];decide
 have HE:Hid (ZAb i.toNat n.toNat m=[115]++(Lib.uvarint (3:Int).toNat++(Lib.uvarint i.toNat++(Lib.uvarint n.toNat++Lib.leBytes 4 m)))):=ZZ rfl
 rw[HE.out]
 have HCC:=ZZ (fun W N v0 v1 v2 v3 v4 hN h0 h1 h2 h3 h4=>ZAc W N hN v0 v1 v2 v3 v4 [115] (Lib.uvarint (3:Int).toNat) (Lib.uvarint i.toNat) (Lib.uvarint n.toNat) (Lib.leBytes 4 m) h0 h1 h2 h3 h4 (by simp only [List.length_singleton];omega))
 generalize Lib.uvarint (3:Int).toNat=L1 at *
 generalize Lib.uvarint i.toNat=L2 at *
 generalize Lib.uvarint n.toNat=L3 at *
 generalize Lib.leBytes 4 m=L4 at *
 generalize [115]++(L1++(L2++(L3++L4)))=LL at *
 obtain⟨M,hM⟩:∃ M:Int,M=(m:Int):=⟨_,rfl⟩
 rw[<-hM] at HFX ⊢
 clear hM HE HPU q1 q2 q3 q4 hi hn hm
 obtain⟨W0,hW0⟩:∃ W0,W0=w.alloc (.cells #[.int .i64 i,.int .i64 n,.int .u32 M] 148):=⟨_,rfl⟩
 have HB0:Hid (Below w.heap.size w W0):=ZZ (by rw[hW0];exact(Below.refl _ _).alloc zL _)
 have HX0:Hid (Bm W0 w.heap.size (.int .i64 i) (.int .i64 n) (.int .u32 M)):=ZZ (by rw[hW0];exact heap_alloc_new w _)
 have HK:Hid (∀ W,Below W0.heap.size W0 W->W.cell? ⟨w.heap.size,0,none⟩=some (.int .i64 i)∧W.cell? ⟨w.heap.size,1,none⟩=some (.int .i64 n)∧W.cell? ⟨w.heap.size,2,none⟩=some (.int .u32 M)):=ZZ (fun W h=>(HX0.out.below h zL).cells)
 have HZ:Hid (∀ W X,Below W0.heap.size W0 W->Below W0.heap.size W0 (W.alloc X)):=ZZ (fun W X h=>h.alloc h.size X)
 have HZd:Hid (∀ W,Below W0.heap.size W0 W->Below W0.heap.size W0 W.drew):=ZZ (fun W h=>h.drew)
 have HS0:Hid (Below W0.heap.size W0 W0.drew):=ZZ ((Below.refl _ _).drew)
 have HS0a:Hid (Below W0.heap.size W0 (W0.alloc (.cells #[.int .u8 115] 5)).drew):=ZZ (((Below.refl _ _).alloc zL _).drew)
 go_enter Tryz.func102,Tryz.ntmps102
 go_upto_region 1 with fail
 rw[<-hW0]
 clear hW0
 have HEP:Hid (∀ args w,(callFunc 133 args).run Tryz.prog w=.ok (.enter 133 args) w):=ZZ (enters_of Tryz.func133 (by kernel_rfl) rfl)
 have HEF:Hid (∀ args w,(callFunc 136 args).run Tryz.prog w=.ok (.enter 136 args) w):=ZZ (enters_of Tryz.func136 (by kernel_rfl) rfl)
 have HEC:Hid (∀ args w,(callFunc 132 args).run Tryz.prog w=.ok (.enter 132 args) w):=ZZ (enters_of Tryz.func132 (by kernel_rfl) rfl)
 go_region_held2(fun w'=>w'.cell? ⟨w.heap.size,0,none⟩=some (.int .i64 i)∧w'.cell? ⟨w.heap.size,1,none⟩=some (.int .i64 n)∧w'.cell? ⟨w.heap.size,2,none⟩=some (.int .u32 M))
  (first | (with_reducible exact HK.out _ HS0.out) | (with_reducible exact HK.out _ HS0a.out) | (with_reducible exact HK.out _ hbk5) | (with_reducible exact HK.out _ hbk4) | (with_reducible exact HK.out _ hbk3) | (with_reducible exact HK.out _ hbk2) | (with_reducible exact HK.out _ hbk1) | (with_reducible exact HK.out _ (HZ.out _ _ hbk4)) | (with_reducible exact HK.out _ (HZ.out _ _ hbk3)) | (with_reducible exact HK.out _ (HZ.out _ _ hbk2)) | (with_reducible exact HK.out _ (HZ.out _ _ hbk1)) | (with_reducible exact HK.out _ (HZ.out _ _ (HZ.out _ _ hbk4))))
  (first
   | ((with_reducible refine Zbn 133 _ _ rfl rfl #[.slice none 0 0,.int .i64 3] (by simp[Act.eval]) HEP.out (HP1.out W0.drew) ?_);rintro v1 W1 ⟨ho1,hb1⟩;have hbk1:Below W0.heap.size W0 W1:=HS0.out.trans (hb1.mono HS0.out.size);obtain⟨a1,c1,hv,-⟩:=ho1.rd;subst hv;have HO1:=ZZ ho1.rd;clear ho1 hb1)
   | ((with_reducible refine Zbn 133 _ _ rfl rfl #[.slice none 0 0,.int .i64 3] (by simp[Act.eval]) HEP.out (HP1.out (W0.alloc (.cells #[.int .u8 115] 5)).drew) ?_);rintro v1 W1 ⟨ho1,hb1⟩;have hbk1:Below W0.heap.size W0 W1:=HS0a.out.trans (hb1.mono HS0a.out.size);have HM1:=ZZ ((ZAY W0 _ rfl).below hb1 zL);obtain⟨a1,c1,hv,-⟩:=ho1.rd;subst hv;have HO1:=ZZ ho1.rd;clear ho1 hb1)
   | (have hmm:=HM1.out;(with_reducible refine Zbn 133 _ _ rfl rfl #[.slice none 0 0,.int .i64 i] (by simp[Act.eval]) HEP.out (HP2.out W1) ?_);rintro v2 W2 ⟨ho2,hb2⟩;have hst:Below W1.heap.size W1 W2:=hb2;have hbk2:Below W0.heap.size W0 W2:=hbk1.trans (hst.mono hbk1.size);have HM2:=ZZ (hmm.below hst zL);clear hmm;have HO1_2:=ZZ (HO1.out.below hst zL);clear hst;obtain⟨a2,c2,hv,-⟩:=ho2.rd;subst hv;have HO2:=ZZ ho2.rd;clear ho2 hb2)
   | ((with_reducible refine Zbn 133 _ _ rfl rfl #[.slice none 0 0,.int .i64 i] (by simp[Act.eval]) HEP.out (HP2.out W1) ?_);rintro v2 W2 ⟨ho2,hb2⟩;have hst:Below W1.heap.size W1 W2:=hb2;have hbk2:Below W0.heap.size W0 W2:=hbk1.trans (hst.mono hbk1.size);have HO1_2:=ZZ (HO1.out.below hst zL);clear hst;obtain⟨a2,c2,hv,-⟩:=ho2.rd;subst hv;have HO2:=ZZ ho2.rd;clear ho2 hb2)
   | ((with_reducible refine Zbn 133 _ _ rfl rfl #[.slice none 0 0,.int .i64 i] (by simp[Act.eval]) HEP.out (HP2.out (W1.alloc (.cells #[.int .u8 115] 5))) ?_);rintro v2 W2 ⟨ho2,hb2⟩;have hst:Below W1.heap.size W1 W2:=((Below.refl _ _).alloc zL _).trans (hb2.mono (by simp));have hbk2:Below W0.heap.size W0 W2:=hbk1.trans (hst.mono hbk1.size);have HM2:=ZZ ((ZwI W1 _ rfl).below hb2 zL);have HO1_2:=ZZ (HO1.out.below hst zL);clear hst;obtain⟨a2,c2,hv,-⟩:=ho2.rd;subst hv;have HO2:=ZZ ho2.rd;clear ho2 hb2)
   | (have hmm:=HM2.out;(with_reducible refine Zbn 133 _ _ rfl rfl #[.slice none 0 0,.int .i64 n] (by simp[Act.eval]) HEP.out (HP3.out W2) ?_);rintro v3 W3 ⟨ho3,hb3⟩;have hst:Below W2.heap.size W2 W3:=hb3;have hbk3:Below W0.heap.size W0 W3:=hbk2.trans (hst.mono hbk2.size);have HM3:=ZZ (hmm.below hst zL);clear hmm;have HO1_3:=ZZ (HO1_2.out.below hst zL);have HO2_3:=ZZ (HO2.out.below hst zL);clear hst;obtain⟨a3,c3,hv,-⟩:=ho3.rd;subst hv;have HO3:=ZZ ho3.rd;clear ho3 hb3)
   | ((with_reducible refine Zbn 133 _ _ rfl rfl #[.slice none 0 0,.int .i64 n] (by simp[Act.eval]) HEP.out (HP3.out W2) ?_);rintro v3 W3 ⟨ho3,hb3⟩;have hst:Below W2.heap.size W2 W3:=hb3;have hbk3:Below W0.heap.size W0 W3:=hbk2.trans (hst.mono hbk2.size);have HO1_3:=ZZ (HO1_2.out.below hst zL);have HO2_3:=ZZ (HO2.out.below hst zL);clear hst;obtain⟨a3,c3,hv,-⟩:=ho3.rd;subst hv;have HO3:=ZZ ho3.rd;clear ho3 hb3)
   | ((with_reducible refine Zbn 133 _ _ rfl rfl #[.slice none 0 0,.int .i64 n] (by simp[Act.eval]) HEP.out (HP3.out (W2.alloc (.cells #[.int .u8 115] 5))) ?_);rintro v3 W3 ⟨ho3,hb3⟩;have hst:Below W2.heap.size W2 W3:=((Below.refl _ _).alloc zL _).trans (hb3.mono (by simp));have hbk3:Below W0.heap.size W0 W3:=hbk2.trans (hst.mono hbk2.size);have HM3:=ZZ ((ZwI W2 _ rfl).below hb3 zL);have HO1_3:=ZZ (HO1_2.out.below hst zL);have HO2_3:=ZZ (HO2.out.below hst zL);clear hst;obtain⟨a3,c3,hv,-⟩:=ho3.rd;subst hv;have HO3:=ZZ ho3.rd;clear ho3 hb3)
   | (have hmm:=HM3.out;(with_reducible refine Zbn 136 _ _ rfl rfl #[.int .u32 M] (by simp[Act.eval]) HEF.out (HFX.out W3) ?_);rintro v4 W4 ⟨ho4,hb4⟩;have hst:Below W3.heap.size W3 W4:=hb4;have hbk4:Below W0.heap.size W0 W4:=hbk3.trans (hst.mono hbk3.size);have HM4:=ZZ (hmm.below hst zL);clear hmm;have HO1_4:=ZZ (HO1_3.out.below hst zL);have HO2_4:=ZZ (HO2_3.out.below hst zL);have HO3_4:=ZZ (HO3.out.below hst zL);clear hst;obtain⟨a4,c4,hv,-⟩:=ho4.rd;subst hv;have HO4:=ZZ ho4.rd;clear ho4 hb4)
   | ((with_reducible refine Zbn 136 _ _ rfl rfl #[.int .u32 M] (by simp[Act.eval]) HEF.out (HFX.out W3) ?_);rintro v4 W4 ⟨ho4,hb4⟩;have hst:Below W3.heap.size W3 W4:=hb4;have hbk4:Below W0.heap.size W0 W4:=hbk3.trans (hst.mono hbk3.size);have HO1_4:=ZZ (HO1_3.out.below hst zL);have HO2_4:=ZZ (HO2_3.out.below hst zL);have HO3_4:=ZZ (HO3.out.below hst zL);clear hst;obtain⟨a4,c4,hv,-⟩:=ho4.rd;subst hv;have HO4:=ZZ ho4.rd;clear ho4 hb4)
   | ((with_reducible refine Zbn 136 _ _ rfl rfl #[.int .u32 M] (by simp[Act.eval]) HEF.out (HFX.out (W3.alloc (.cells #[.int .u8 115] 5))) ?_);rintro v4 W4 ⟨ho4,hb4⟩;have hst:Below W3.heap.size W3 W4:=((Below.refl _ _).alloc zL _).trans (hb4.mono (by simp));have hbk4:Below W0.heap.size W0 W4:=hbk3.trans (hst.mono hbk3.size);have HM4:=ZZ ((ZwI W3 _ rfl).below hb4 zL);have HO1_4:=ZZ (HO1_3.out.below hst zL);have HO2_4:=ZZ (HO2_3.out.below hst zL);have HO3_4:=ZZ (HO3.out.below hst zL);clear hst;obtain⟨a4,c4,hv,-⟩:=ho4.rd;subst hv;have HO4:=ZZ ho4.rd;clear ho4 hb4)
   | (have hmm:=HM4.out;(with_reducible refine Zbn 132 _ _ rfl rfl #[.slice (some ⟨W4.heap.size,0,none⟩) 5 5] (by simp[Act.eval]) HEC.out (HCC.out W4 W4.heap.size _ _ _ _ _ rfl hmm HO1_4.out HO2_4.out HO3_4.out HO4.out) ?_);rintro v5 W5 ⟨ho5,hb5⟩;have hbk5:Below W0.heap.size W0 W5:=hbk4.trans (hb5.mono hbk4.size);have HO5:=ZZ (ho5.mono (Nat.le_trans HB0.out.size hbk4.size));clear ho5 hb5 hmm)
   | (refine Zbn 132 _ _ rfl rfl #[.slice (some ⟨W4.heap.size+1,0,none⟩) 5 5] (by simp[Act.eval]) HEC.out (HCC.out (W4.alloc (.cells #[.int .u8 115] 5)) (W4.heap.size+1) _ _ _ _ _ (by simp) (ZwI W4 _ rfl) (HO1_4.out.below ((Below.refl _ _).alloc zL _) zL) (HO2_4.out.below ((Below.refl _ _).alloc zL _) zL) (HO3_4.out.below ((Below.refl _ _).alloc zL _) zL) (HO4.out.below ((Below.refl _ _).alloc zL _) zL)) ?_;rintro v5 W5 ⟨ho5,hb5⟩;have hbk5:Below W0.heap.size W0 W5:=(HZ.out _ _ hbk4).trans (hb5.mono (HZ.out _ _ hbk4).size);have HO5:=ZZ (ho5.mono (Nat.le_trans HB0.out.size (HZ.out _ _ hbk4).size));clear ho5 hb5))
 all_goals
  go_wp2
  go_ret
  exact⟨_,rfl,HO5.out,HB0.out.trans (hbk5.mono HB0.out.size)⟩
theorem Zrr (t:List Ent) (q:Nat) (hq:q<t.length):Zcp (t.take (q+1))=Zcp (t.take q)++ZxY (t.getD q ZaV):=by
 have e1:t.take (q+1)=t.take q++[t.getD q ZaV]:=by
  rw[List.take_add_one,List.getElem?_eq_getElem hq]
  simp[List.getD,hq]
 rw[e1]
 unfold Zcp
 rw[List.flatMap_append]
 simp
theorem ZnU (t:List Ent) (q:Nat):(Zcp (t.take q)).length<=(Zcp t).length:=by
 have h:Zcp t=Zcp (t.take q)++Zcp (t.drop q):=by
  unfold Zcp
  rw[<-List.flatMap_append,List.take_append_drop]
 rw[h,List.length_append]
 omega
theorem Zrs (v:Value) (s:ZaU) (w:World) (hs:SnV w v s) (hm:Zgm s):
 Calls Tryz.prog 100 #[v] w fun e w'=>∃ v',e=.returned v'∧Own w' w.heap.size v' (Zba s)∧Below w.heap.size w w':=by
 obtain⟨vl,vt,rfl,hl,hk,he,ht,hi⟩:=hs
 have hms:=ZjP hm.2.1
 have htl:=ZoM hm.2.2
 have hwl:=ZeO hm
 have hel:=ZvE hm.2.1
 have HES:=ZZ (fun W (h:Below w.heap.size w W)=>ZkV (.agg #[.int .i64 s.st.kind,vl,.bool s.st.shut,.int .i64 s.st.eng]) s.st W ⟨vl,rfl,hl.below h zL,hk,he⟩ (by omega))
 unfold ZBx at HES
 rw[if_pos hm.2.1,if_pos hm.2.1] at HES
 have HEO:Hid (∀ q,q<s.tab.length->Zfd (s.tab.getD q ZaV)):=ZZ (fun q hq=>(hm.2.2 q hq).1)
 have HPN:Hid (∀ v1 l k W,Rd W v1 l->l.length<=10000->0<=k->k<4611686018427387904->Calls Tryz.prog 133 #[v1,.int .i64 k] W fun e w'=>∃ v',e=.returned v'∧Own w' W.heap.size v' (l++Lib.uvarint k.toNat)∧Below W.heap.size W w'):=ZZ (fun v1 l k W h hl h0 h1=>by
  have h:=ZeD v1 l k W h (by omega)
  rw[Zcf h0 h1] at h
  exact h)
 have HPS:Hid (∀ v1 l k W,Rd W v1 l->l.length<=10000->I64 k->Calls Tryz.prog 143 #[v1,.int .i64 k] W fun e w'=>∃ v',e=.returned v'∧Own w' W.heap.size v' (l++Lib.uvarint (Lib.zigzag k))∧Below W.heap.size W w'):=ZZ (fun v1 l k W h hl hk=>Zci v1 l k W h (by omega) hk.1 hk.2)
 have HSN:Hid (∀ q,q<s.tab.length->Zcp (s.tab.take (q+1))=Zcp (s.tab.take q)++ZxY (s.tab.getD q ZaV)):=ZZ (fun q hq=>Zrr _ q hq)
 have HTL:Hid (∀ q,(Zcp (s.tab.take q)).length<=(Zcp s.tab).length):=ZZ (fun q=>ZnU _ q)
 have HW:Hid (Zba s=(Lib.uvarint (Zjp s.st).length++(Zjp s.st++Lib.uvarint s.tab.length))++Zcp s.tab):=ZZ (by
  unfold Zba ZAH
  simp only [List.append_assoc])
 have HWL:Hid ((Lib.uvarint (Zjp s.st).length++(Zjp s.st++Lib.uvarint s.tab.length)).length+(Zcp s.tab).length<=5000):=ZZ (by
  rw[HW.out,List.length_append] at hwl
  exact hwl)
 rw[HW.out]
 have u1:(Lib.uvarint (Zjp s.st).length).length<=10:=Zdx (by omega)
 have u3:(Lib.uvarint s.tab.length).length<=10:=Zdx (by omega)
 have HP1:Hid (∀ W,Calls Tryz.prog 133 #[.slice none 0 0,.int .i64 ((Zjp s.st).length:Int)] W fun e w'=>∃ v',e=.returned v'∧Own w' W.heap.size v' (Lib.uvarint (Zjp s.st).length)∧Below W.heap.size W w'):=ZZ (fun W=>by
  have h:=HPN.out (.slice none 0 0) [] ((Zjp s.st).length:Int) W (Rd.nil W) (by simp) (by omega) (by omega)
  rw[List.nil_append,Int.toNat_natCast] at h
  exact h)
 have HP3:Hid (∀ W,Calls Tryz.prog 133 #[.slice none 0 0,.int .i64 (s.tab.length:Int)] W fun e w'=>∃ v',e=.returned v'∧Own w' W.heap.size v' (Lib.uvarint s.tab.length)∧Below W.heap.size W w'):=ZZ (fun W=>by
  have h:=HPN.out (.slice none 0 0) [] (s.tab.length:Int) W (Rd.nil W) (by simp) (by omega) (by omega)
  rw[List.nil_append,Int.toNat_natCast] at h
  exact h)
 have HCC:Hid (∀ W N v0 v1 v2,N=W.heap.size->Rd W v0 (Lib.uvarint (Zjp s.st).length)->Rd W v1 (Zjp s.st)->Rd W v2 (Lib.uvarint s.tab.length)->Calls Tryz.prog 132 #[.slice (some ⟨N,0,none⟩) 3 3] (W.alloc (.cells #[v0,v1,v2] 53)) fun e w'=>∃ v',e=.returned v'∧Own w' W.heap.size v' (Lib.uvarint (Zjp s.st).length++(Zjp s.st++Lib.uvarint s.tab.length))∧Below W.heap.size W w'):=ZZ (fun W N v0 v1 v2 hN h0 h1 h2=>ZwA W N hN v0 v1 v2 _ _ _ h0 h1 h2 (by omega))
 obtain⟨ta,tc,htv,-,-,-,-,hta⟩:=ht
 subst htv
 have HTA:=ZZ hta
 obtain⟨la,lc,hlv,-⟩:=hl
 subst hlv
 obtain⟨idx,⟨kind,L,shut,eng⟩,tab⟩:=s
 dsimp only at *
 clear hk he hi hm hms hwl hel u1 u3 HW hta
 have htl':(tab.length:Int)<=65:=by omega
 clear htl
 generalize Zjp ⟨kind,L,shut,eng⟩=ES at *
 generalize Lib.uvarint ES.length=U1 at *
 generalize Lib.uvarint tab.length=U3 at *
 generalize U1++(ES++U3)=H at *
 obtain⟨W0,hW0⟩:∃ W0,W0=w.alloc (.cells #[.int .i64 idx,.int .i64 kind,.slice la L.length lc,.bool shut,.int .i64 eng,.slice ta tab.length tc] 41):=⟨_,rfl⟩
 have HB0:Hid (Below w.heap.size w W0):=ZZ (by rw[hW0];exact(Below.refl _ _).alloc zL _)
 have HX0:Hid (Bn W0 w.heap.size #[.int .i64 idx,.int .i64 kind,.slice la L.length lc,.bool shut,.int .i64 eng,.slice ta tab.length tc]):=ZZ (by rw[hW0];exact heap_alloc_new w _)
 obtain⟨p1,-⟩:=HX0.out.cell 1
 obtain⟨p2,-⟩:=HX0.out.cell 2
 obtain⟨p3,-⟩:=HX0.out.cell 3
 obtain⟨p4,-⟩:=HX0.out.cell 4
 go_enter Tryz.func100,Tryz.ntmps100
 go_upto_region 1 with fail
 rw[<-hW0]
 clear hW0
 go_wp2_with fail
 refine(HES.out _ HB0.out).mono ?_
 rintro e W1 ⟨v1,rfl,hr1,hb1⟩
 have HX1:=ZZ (HX0.out.below hb1 zL)
 have HB1:=ZZ (HB0.out.trans (hb1.mono HB0.out.size))
 have HR1:=ZZ hr1
 obtain⟨a1,c1,hv1,-⟩:=hr1
 subst hv1
 obtain⟨q5,-⟩:=HX1.out.cell 5
 clear hb1 HES HX0 HB0 p1 p2 p3 p4
 go_upto_region 2 with fail
 go_cut[5] (fun vo wc=>Hid (Own wc w.heap.size vo H)∧Hid (Bn wc w.heap.size #[.int .i64 idx,.int .i64 kind,.slice la L.length lc,.bool shut,.int .i64 eng,.slice ta tab.length tc])∧Hid (Below w.heap.size w wc))
 case first=>
  go_region_held(fun w'=>w'.cell? ⟨w.heap.size,5,none⟩=some (.slice ta tab.length tc)) (go_keep)
   (first
    | (go_at_call_of 133 (Value.int .i64 (ES.length:Int));refine(HP1.out _).mono ?_;rintro e W2 ⟨v2,rfl,ho2,hb2⟩;have hst2:Below W1.heap.size W1 W2:=((Below.refl _ _).drew).trans hb2;have hx2:=HX1.out.below hst2 zL;have HX2:=ZZ hx2;have HB2:=ZZ (HB1.out.trans (hst2.mono HB1.out.size));have HR12:=ZZ (HR1.out.below hst2 zL);obtain⟨a2,c2,rfl,-⟩:=ho2.rd;have HO2:=ZZ ho2.rd;obtain⟨r5,-⟩:=hx2.cell 5;clear ho2 hb2 hx2 hst2)
    | (go_at_call_of 133 (Value.int .i64 (tab.length:Int));refine(HP3.out _).mono ?_;rintro e W3 ⟨v3,rfl,ho3,hb3⟩;have hx3:=HX2.out.below hb3 zL;have HX3:=ZZ hx3;have HB3:=ZZ (HB2.out.trans (hb3.mono HB2.out.size));have HR13:=ZZ (HR12.out.below hb3 zL);have HO23:=ZZ (HO2.out.below hb3 zL);obtain⟨a3,c3,rfl,-⟩:=ho3.rd;have HO3:=ZZ ho3.rd;obtain⟨s5,-⟩:=hx3.cell 5;clear ho3 hb3 hx3)
    | (go_at_call 132;refine(HCC.out W3 W3.heap.size _ _ _ rfl HO23.out HR13.out HO3.out).mono ?_;rintro e W4 ⟨v4,rfl,ho4,hb4⟩;have hx4:=HX3.out.below hb4 zL;have HX4:=ZZ hx4;have HB4:=ZZ (HB3.out.trans (hb4.mono HB3.out.size));have HO4:=ZZ (ho4.mono HB3.out.size);obtain⟨t5,-⟩:=hx4.cell 5;clear ho4 hb4 hx4))
  all_goals
   go_wp2_with fail
   go_meet
   exact⟨HO4,HX4,HB4⟩
 case rest=>
  obtain⟨WC,rfl⟩:∃ W,W=wc:=⟨_,rfl⟩
  obtain⟨HO,HX,HB⟩:=hcut
  obtain⟨q5',-⟩:=HX.out.cell 5
  clear HX1 HB1 HR1 q5 HP1 HP3 HCC
  go_wp2
  go_loopw[5,27] (fun vo vi wr=>∃ q:Nat,vi=.int .i64 (q:Int)∧q<=tab.length∧Hid (Own wr w.heap.size vo (H++Zcp (tab.take q)))∧Hid (Below w.heap.size w wr)) (fun _ vi _=>tab.length-(intOf vi).toNat)
  case atStart=>exact⟨0,rfl,Nat.zero_le _,by simpa[Zcp] using HO,HB⟩
  case round=>
   clear HO HX HB q5'
   obtain⟨q,rfl,hq,hO,hB⟩:=hrel
   by_cases hlt:q<tab.length
   case neg=>
    obtain rfl:q=tab.length:=by omega
    rw[List.take_length] at hO
    go_wp2
    go_ret
    exact⟨_,rfl,hO.out,hB.out⟩
   have hqi:(q:Int)<(tab.length:Int):=by omega
   rcases HTA.out with h0 | ⟨c,off,rfl,hc⟩
   ·rw[h0] at hlt;simp at hlt
   obtain⟨c0,c1,c2⟩:=(hc q hlt).keep (hB.out.block c (hc q hlt).lt)
   have HEQ:=ZZ (HEO.out q hlt)
   have HSQ:=ZZ (HSN.out q hlt)
   have HTQ:Hid ((H++Zcp (tab.take q)).length<=5000):=ZZ (by
    have h1:=HTL.out q
    have h2:=HWL.out
    rw[List.length_append]
    omega)
   obtain⟨e,he⟩:∃ e,e=tab.getD q ZaV:=⟨_,rfl⟩
   rw[<-he] at c0 c1 c2 HEQ HSQ
   clear he hc HEO HSN HTL HTA HWL
   obtain⟨ep,es,er⟩:=e
   have HEN:Hid (ZxY ⟨ep,es,er⟩=Lib.uvarint ep.toNat++(Lib.uvarint es.toNat++Lib.uvarint (Lib.zigzag er))):=ZZ rfl
   rw[HEN.out,<-List.append_assoc] at HSQ
   have HSE:Hid (H++Zcp (tab.take (q+1))=(((H++Zcp (tab.take q))++Lib.uvarint ep.toNat)++Lib.uvarint es.toNat)++Lib.uvarint (Lib.zigzag er)):=ZZ (by
    rw[HSQ.out]
    simp only [List.append_assoc])
   have HBD:Hid ((0<=ep∧ep<4611686018427387904)∧(0<=es∧es<4611686018427387904)∧I64 er):=ZZ (by
    obtain⟨h1,h2,h3,h4,h5,h6⟩:=HEQ.out
    dsimp only at h1 h2 h3 h4 h5 h6
    exact⟨⟨h1,by omega⟩,⟨h3,h4⟩,⟨by omega,by omega⟩⟩)
   have u1:(Lib.uvarint ep.toNat).length<=10:=Zdx (by have:=HBD.out;omega)
   have u2:(Lib.uvarint es.toNat).length<=10:=Zdx (by have:=HBD.out;omega)
   dsimp only at c0 c1 c2
   generalize H++Zcp (tab.take q)=P at *
   have HQ1:=ZZ (fun v1 W h=>HPN.out v1 P ep W h (by have:=HTQ.out;omega) HBD.out.1.1 HBD.out.1.2)
   have HQ2:=ZZ (fun v1 W h=>HPN.out v1 (P++Lib.uvarint ep.toNat) es W h (by have:=HTQ.out;rw[List.length_append];omega) HBD.out.2.1.1 HBD.out.2.1.2)
   have HQ3:=ZZ (fun v1 W h=>HPS.out v1 ((P++Lib.uvarint ep.toNat)++Lib.uvarint es.toNat) er W h (by have:=HTQ.out;rw[List.length_append,List.length_append];omega) HBD.out.2.2)
   rw[<-HSE.out] at HQ3
   clear HPN HPS HSQ HEN HSE HTQ u1 u2 HBD HEQ
   generalize P++Lib.uvarint ep.toNat=P1 at *
   generalize P1++Lib.uvarint es.toNat=P2 at *
   obtain⟨P3,hP3⟩:∃ P3,P3=H++Zcp (tab.take (q+1)):=⟨_,rfl⟩
   rw[<-hP3] at HQ3
   have HP3:=ZZ hP3
   clear hP3
   go_upto_region 6 with fail
   obtain⟨W5,hW5⟩:∃ W5,W5=wr.alloc (.cells #[.int .i64 ep,.int .i64 es,.int .i64 er] 86):=⟨_,rfl⟩
   have HB5:Hid (Below wr.heap.size wr W5):=ZZ (by rw[hW5];exact(Below.refl _ _).alloc zL _)
   have HE5:Hid (Be W5 wr.heap.size #[.int .i64 ep,.int .i64 es,.int .i64 er]):=ZZ (by rw[hW5];exact heap_alloc_new wr _)
   rw[<-hW5]
   clear hW5 c0 c1 c2
   obtain⟨QB,hQB⟩:∃ QB,QB=wr.heap.size:=⟨_,rfl⟩
   rw[<-hQB] at HE5 ⊢
   clear hQB
   have HR5:=ZZ (hO.out.rd.below HB5.out zL)
   have HBW5:=ZZ (hB.out.trans (HB5.out.mono hB.out.size))
   obtain⟨va,vc,hvo⟩:∃ a c,u5=.slice a P.length c:=by obtain⟨a,c,h,-⟩:=HR5.out;exact⟨a,c,h⟩
   subst hvo
   obtain⟨x0,-⟩:=HE5.out.cell 0
   obtain⟨x1,-⟩:=HE5.out.cell 1
   clear hO hB HB5
   go_region_held(fun w'=>w'.cell? ⟨QB,0,none⟩=some (.int .i64 ep)∧w'.cell? ⟨QB,1,none⟩=some (.int .i64 es)) (go_keep)
    (first
     | (go_at_call_of 133 (Value.int .i64 ep);refine(HQ1.out _ _ (HR5.out.below ((Below.refl _ _).drew) zL)).mono ?_;rintro e W6 ⟨v6,rfl,ho6,hb6⟩;have hst6:Below W5.heap.size W5 W6:=((Below.refl _ _).drew).trans hb6;have hx6:=HE5.out.below hst6 zL;have HE6:=ZZ hx6;have HB6:=ZZ (HBW5.out.trans (hst6.mono HBW5.out.size));obtain⟨a6,c6,rfl,-⟩:=ho6.rd;have HO6:=ZZ ho6.rd;obtain⟨y0,-⟩:=hx6.cell 0;obtain⟨y1,-⟩:=hx6.cell 1;clear ho6 hb6 hx6 hst6)
     | (go_at_call_of 133 (Value.int .i64 es);refine(HQ2.out _ _ HO6.out).mono ?_;rintro e W7 ⟨v7,rfl,ho7,hb7⟩;have hx7:=HE6.out.below hb7 zL;have HE7:=ZZ hx7;have HB7:=ZZ (HB6.out.trans (hb7.mono HB6.out.size));obtain⟨a7,c7,rfl,-⟩:=ho7.rd;have HO7:=ZZ ho7.rd;obtain⟨z0,-⟩:=hx7.cell 0;obtain⟨z1,-⟩:=hx7.cell 1;obtain⟨z2,-⟩:=hx7.cell 2;clear ho7 hb7 hx7))
   all_goals
    go_wp2_with fail
    refine(HQ3.out _ _ HO7.out).mono ?_
    rintro e W8 ⟨v8,rfl,ho8,hb8⟩
    have HB8:=ZZ (HB7.out.trans (hb8.mono HB7.out.size))
    have HO8:=ZZ (ho8.mono HB7.out.size)
    clear ho8 hb8
    go_wp2
    go_roundw
    case rel=>exact⟨q+1,by go_num,by omega,ZZ (by rw[<-HP3.out];exact HO8.out),HB8⟩
    case measure=>simp[intOf];omega
theorem Zpw (e:Ent) (w:World):
 Calls Tryz.prog 190 #[ZtO e] w fun x w'=>x=.returned (.bool (decide (Zfd e)))∧Below w.heap.size w w':=by
 have HF:=ZZ (fun W=>Zkz ⟨0,e.proc,e.seq,⟨0,0,0⟩,e.resp⟩ W)
 have hd:decide (Zaz ⟨0,e.proc,e.seq,⟨0,0,0⟩,e.resp⟩)=decide (Zfd e):=decide_eq_decide.2 (ZvY e)
 rw[hd] at HF
 clear hd
 generalize decide (Zfd e)=D at *
 obtain⟨p,s,r⟩:=e
 unfold ZtO ZtR at *
 dsimp only at *
 have HB0:Hid (∀ X,Below w.heap.size w (w.alloc X)):=fun X=>(Below.refl _ _).alloc zL X
 go_enter Tryz.func190,Tryz.ntmps190
 go_wp2_with fail
 refine(HF.out _).mono ?_
 rintro x W1 ⟨rfl,hb1⟩
 have HB1:=ZZ ((HB0.out _).trans (hb1.mono (HB0.out _).size))
 clear hb1
 go_wp2
 go_ret
 exact⟨rfl,HB1.out⟩
theorem Zpx (v:Value) (t:List Ent) (w:World) (hr:RdE w v t):
 Calls Tryz.prog 141 #[v] w fun x w'=>x=.returned (.bool (decide (Zhl t)))∧Below w.heap.size w w':=by
 obtain⟨va,vc,rfl,hlc,hcm,-,hw,hao⟩:=hr
 have HAO:=ZZ hao
 have hml:(t.length:Int)<=9223372036854775807:=by unfold maxLen at hcm;omega
 obtain⟨D,hD⟩:∃ D,D=decide (Zhl t):=⟨_,rfl⟩
 rw[<-hD]
 have HD1:Hid (Zdu t t.length->D=true):=ZZ (fun h=>by rw[hD];exact decide_eq_true h)
 have HD0:Hid (∀ k,k<t.length->¬ Zdu t (k+1)->D=false):=ZZ (fun k hk h=>by rw[hD];exact decide_eq_false (fun h2=>h (Zdu.mono h2 hk)))
 have HM:=ZZ (fun e W=>Zpw e W)
 have HL0:Hid (Zkq t 0=0):=ZZ rfl
 have HL1:Hid (∀ k,Zkq t (k+1)=(t.getD k ZaV).proc+1):=ZZ (fun k=>rfl)
 have HN:Hid (∀ k,Zdu t (k+1)↔Zdu t k∧Zfd (t.getD k ZaV)∧Zkq t k<=(t.getD k ZaV).proc):=ZZ (fun k=>ZqR)
 clear hD hcm hlc hao hw
 go_enter Tryz.func141,Tryz.ntmps141
 go_wp2
 go_loopw[3,8] (fun vl vi wr=>∃ (k:Nat) (ls:Int),vi=.int .i64 (k:Int)∧vl=.int .i64 ls∧k<=t.length∧Hid (ls=Zkq t k)∧Hid (Zdu t k)∧Hid (Below w.heap.size w wr)) (fun _ vi _=>t.length-(intOf vi).toNat)
 case atStart=>exact⟨0,0,rfl,rfl,Nat.zero_le _,ZZ HL0.out.symm,ZZ (Zdu.zero t),Below.refl _ _⟩
 case round=>
  obtain⟨k,ls,rfl,rfl,hk,hLS,hT,hB⟩:=hrel
  by_cases hlt:k<t.length
  case neg=>
   obtain rfl:k=t.length:=by omega
   have HT:=ZZ (HD1.out hT.out)
   go_wp2
   go_ret
   rw[HT.out]
   exact⟨rfl,hB.out⟩
  have hki:(k:Int)<(t.length:Int):=by omega
  rcases HAO.out with h0 | ⟨c,off,rfl,hc⟩
  ·rw[h0] at hlt;simp at hlt
  obtain⟨c0,c1,c2⟩:=(hc k hlt).keep (hB.out.block c (hc k hlt).lt)
  have HNK:=ZZ (HN.out k)
  have HDK:=ZZ (HD0.out k hlt)
  have HL1K:=ZZ (HL1.out k)
  have HMK:=ZZ (fun W=>HM.out (t.getD k ZaV) W)
  rw[<-hLS.out] at HNK
  obtain⟨e,he⟩:∃ e,e=t.getD k ZaV:=⟨_,rfl⟩
  rw[<-he] at c0 c1 c2 HNK HL1K HMK
  clear he hc HM HN HD0 HD1 HL1 HL0 HAO
  obtain⟨dk,hdk⟩:∃ dk,dk=decide (Zfd e):=⟨_,rfl⟩
  rw[<-hdk] at HMK
  have HDD:=ZZ hdk
  have HB2:Hid (∀ X,Below w.heap.size w (wr.alloc X)):=ZZ (fun X=>hB.out.alloc hB.out.size X)
  have HX:Hid (∀ cs,Be (wr.alloc (.cells cs 86)) wr.heap.size cs):=ZZ (fun cs=>heap_alloc_new wr _)
  clear hdk
  unfold ZtO at HMK
  have HPB:Hid (dk=true->0<=e.proc∧e.proc<=64):=ZZ (fun h=>by
   have:Zfd e:=of_decide_eq_true (HDD.out.symm.trans h)
   exact⟨this.1,this.2.1⟩)
  by_cases hls:e.proc<ls
  ·have HF:=ZZ (HDK.out (fun h=>by have:=(HNK.out.1 h).2.2;omega))
   obtain⟨p,s,r⟩:=e
   dsimp only at *
   clear HNK HDK HMK HDD
   go_wp2
   go_ret
   rw[HF.out]
   exact⟨rfl,HB2.out _⟩
  ·have hnl:ls<=e.proc:=by omega
   have HNK2:Hid (dk=true->Zdu t (k+1)):=ZZ (fun h=>HNK.out.2 ⟨hT.out,of_decide_eq_true (HDD.out.symm.trans h),hnl⟩)
   have HNF:Hid (dk=false->D=false):=ZZ (fun h=>HDK.out (fun h2=>by
    have h3:=(HNK.out.1 h2).2.1
    have h4:dk=true:=HDD.out.trans (decide_eq_true h3)
    rw[h] at h4
    cases h4))
   obtain⟨p,s,r⟩:=e
   dsimp only at *
   clear HNK HDK HDD
   go_wp2_with fail
   refine(HMK.out _).mono ?_
   rintro x W1 ⟨rfl,hb1⟩
   have HB3:=ZZ ((HB2.out _).trans (hb1.mono (HB2.out _).size))
   have HX3:=ZZ ((HX.out _).below hb1 zL)
   obtain⟨q0,f0⟩:=HX3.out.cell 0
   clear hb1 HMK
   cases dk with
   | false=>
    have HF:=ZZ (HNF.out rfl)
    go_wp2
    go_ret
    rw[HF.out]
    exact⟨rfl,HB3.out⟩
   | true=>
    obtain⟨hp0,hp1⟩:=HPB.out rfl
    have hT2:=ZZ (HNK2.out rfl)
    go_wp2
    go_roundw
    case rel=>exact⟨k+1,p+1,by go_num,by go_num,by omega,ZZ HL1K.out.symm,hT2,HB3⟩
    case measure=>simp[intOf];omega
theorem ZsM (v:Value) (s:ZaU) (w:World) (hs:SnV w v s):
 Calls Tryz.prog 99 #[v] w fun e w'=>e=.returned (.bool (decide (Zgm s)))∧Below w.heap.size w w':=by
 obtain⟨vl,vt,rfl,hl,hk,he,ht,hi⟩:=hs
 have HB0:Hid (∀ X,Below w.heap.size w (w.alloc X)):=fun X=>(Below.refl _ _).alloc zL X
 have HX:Hid (∀ cs,Bn (w.alloc (.cells cs 41)) w.heap.size cs):=ZZ (fun cs=>heap_alloc_new w _)
 have HM:=ZZ (fun W (h:Below w.heap.size w W)=>ZnK (.agg #[.int .i64 s.st.kind,vl,.bool s.st.shut,.int .i64 s.st.eng]) s.st W ⟨vl,rfl,hl.below h zL,hk,he⟩)
 have HT:=ZZ (fun W (h:Below w.heap.size w W)=>Zpx vt s.tab W (ht.below h zL))
 obtain⟨la,lc,hvl,-⟩:=hl
 obtain⟨ta,tc,hvt⟩:=ht.shape
 subst hvl hvt
 clear ht
 obtain⟨D,hD⟩:∃ D,D=decide (Zgm s):=⟨_,rfl⟩
 rw[<-hD]
 have HD:Hid (D=decide (Zgm s)):=ZZ hD
 have HU:Hid (Zgm s↔(0<=s.idx∧s.idx<4611686018427387904)∧Zcy s.st∧Zhl s.tab):=ZZ Iff.rfl
 obtain⟨m,hm⟩:∃ m,m=decide (Zcy s.st):=⟨_,rfl⟩
 obtain⟨n,hn⟩:∃ n,n=decide (Zhl s.tab):=⟨_,rfl⟩
 rw[<-hm] at HM
 rw[<-hn] at HT
 have HMM:=ZZ hm
 have HNN:=ZZ hn
 clear hD hm hn hk he hi
 obtain⟨idx,⟨kind,L,shut,eng⟩,tab⟩:=s
 dsimp only at *
 by_cases h0:0<=idx
 case neg=>
  have HF:Hid (D=false):=ZZ (by rw[HD.out];exact decide_eq_false (fun h=>h0 (HU.out.1 h).1.1))
  go_enter Tryz.func99,Tryz.ntmps99
  go_wp2
  go_ret
  rw[HF.out]
  exact⟨rfl,HB0.out _⟩
 by_cases h1:idx<4611686018427387904
 case neg=>
  have HF:Hid (D=false):=ZZ (by rw[HD.out];exact decide_eq_false (fun h=>h1 (HU.out.1 h).1.2))
  go_enter Tryz.func99,Tryz.ntmps99
  go_wp2
  go_ret
  rw[HF.out]
  exact⟨rfl,HB0.out _⟩
 have HDD:Hid (D=(m && n)):=ZZ (by
  rw[HD.out,HMM.out,HNN.out,<-Bool.decide_and]
  exact decide_eq_decide.2 (HU.out.trans ⟨fun h=>h.2,fun h=>⟨⟨h0,h1⟩,h⟩⟩))
 clear HD HU HMM HNN
 go_enter Tryz.func99,Tryz.ntmps99
 go_wp2_with fail
 refine(HM.out _ (HB0.out _)).mono ?_
 rintro x W1 ⟨rfl,hb1⟩
 have HB1:=ZZ ((HB0.out _).trans (hb1.mono (HB0.out _).size))
 have HX1:=ZZ ((HX.out _).below hb1 zL)
 obtain⟨q5,f5⟩:=HX1.out.cell 5
 clear hb1 HM
 cases m with
 | false=>
  go_wp2
  go_ret
  rw[HDD.out]
  exact⟨rfl,HB1.out⟩
 | true=>
  go_wp2_with fail
  refine(HT.out _ HB1.out).mono ?_
  rintro x W2 ⟨rfl,hb2⟩
  have HB2:=ZZ (HB1.out.trans (hb2.mono HB1.out.size))
  clear hb2 HT
  go_wp2
  go_ret
  rw[HDD.out]
  exact⟨rfl,HB2.out⟩
def ZsN (w:World) (s:ZaU) (e:Ending) (w':World):Prop:=
 ∃ v',e=.returned (.tuple #[v',.int .i64 (if Zgm s then 0 else 1)])∧Own w' w.heap.size v' (if Zgm s then ZxJ s else[])∧Below w.heap.size w w'
theorem Zdd:∀ (n:Nat) (l:List UInt8),l.length<=n->(Zae (Zbb l)).length<=15*l.length
 | 0,l,h=>by
  have e:l=[]:=List.eq_nil_of_length_eq_zero (by omega)
  rw[e,ZaY]
  simp[Zae]
 | n+1,l,h=>by
  by_cases e:l=[]
  ·rw[e,ZaY]
   simp[Zae]
  ·have h1:l.length≠0:=by simpa using e
   have ih:=Zdd n (l.drop 64) (by rw[List.length_drop];omega)
   have h2:=Zca (d:=l.take 64) (by rw[List.length_take];omega)
   rw[Zbw e,ZaS,List.length_append]
   rw[List.length_drop] at ih
   rw[List.length_take] at h2
   omega
theorem ZyF {s:ZaU} (h:Zgm s):(ZxJ s).length<=80000:=by
 have hl:=ZeO h
 have hi:s.idx.toNat<4611686018427387904:=by have:=h.1;omega
 have h1:=Zhp hi (w:=Zba s) (by omega)
 have h2:=Zca (d:=Zid s.idx.toNat (Zba s)) (by omega)
 have h3:=Zdd _ (Zba s) zL
 unfold ZxJ ZdY
 rw[ZaS,List.length_append]
 omega
end Go.Proofs.YtfiffndhehkapaaGreatDoor
