import Derived.Test.YtnahjngbneicaaaGreatDoorPack9
import Derived.Test.YtnahjngbneicaaaGreatDoorPack3
import Derived.Test.YtnahjngbneicaaaGreatDoorPack4
import Derived.Test.YtnahjngbneicaaaGreatDoorPack1
import Derived.Test.YtnahjngbneicaaaGreatDoorPack5
import Derived.Test.YtnahjngbneicaaaGreatDoorPack2
import Derived.Deep.QuietTactic
import Derived.BigQuiet
import Derived.Test.YtnahjngbneicaaaGreatDoorPack6
import Derived.Deep.RegionHeld
namespace Go.Proofs.YtnahjngbneicaaaGreatDoor
set_option maxHeartbeats 8000000
set_option maxRecDepth 100000
open Go.RowKit
theorem ZeD {K:Nat->Prop} {pd p:Nat} {s:Sto} {d:Dk} {N T:Nat} (vl:Value) (l:List Rec) (w:World) (h:SD K w pd p s d N T) (hK:∀ k,K k->k<w.heap.size) (hok:OkS s) (hr:RdR w vl l) (hvl:l=[]∨∀ k,vl.ownBlock=some k->K k)
 (hpl:s.log.pcs.length<=500000) (hrl:s.log.recs.length<=5000000) (hN:N<=900000) (hT:T<=900000000):
 Calls Tryz.prog 22 #[ptr p,vl] w fun e w'=>ZjF K w pd p (ZaT l (s,d)) (N+2) (T+30000) e w':=by
 have HFT:=ZZ (Zec vl l w hr)
 have HS:=ZZ h
 have HK:=ZZ hK
 have HNX:Hid (∀ W,Below w.heap.size w W->Calls Tryz.prog 14 #[ptr p] W fun e w'=>e=.returned (.int .i64 s.next)∧Below w.heap.size w w'):=ZZ (fun W hW=>((HS.out.below hW).next hok.num).mono (by
  rintro e w' ⟨rfl,hb⟩
  exact⟨rfl,hW.trans (hb.mono hW.size)⟩))
 obtain⟨res,hres⟩:∃ res,res=ZaT l (s,d):=⟨_,rfl⟩
 rw[<-hres]
 have HRES:=ZZ hres
 have HSM:Hid (∀ W c,Below w.heap.size w W->ZjF K w pd p ((s,d),c) (N+2) (T+30000) (.returned (.int .i64 c)) W):=ZZ (fun W c hW=>⟨rfl,(HS.out.below hW).mono (by omega) (by omega),ZaE.ofBelow hW⟩)
 by_cases hf:ZaY l
 case neg=>
  rw[decide_eq_false hf] at HFT
  have HR:Hid (res=((s,d),1)):=ZZ (by rw[HRES.out];unfold ZaT;rw[if_pos hf])
  obtain⟨ra,rc,rfl,-⟩:=hr
  clear h hK hok hvl hres hf
  go_enter Tryz.func22,Tryz.ntmps22
  go_wp2_with fail
  refine HFT.out.mono ?_
  rintro e W1 ⟨rfl,hb1⟩
  have HB1:=ZZ hb1
  clear hb1
  go_wp2
  go_ret
  rw[HR.out]
  exact HSM.out W1 1 HB1.out
 rw[decide_eq_true hf] at HFT
 have HRD:=ZZ hr
 have HVL:=ZZ hvl
 have hl1:1<=l.length:=hf.1
 have hl2:l.length<=256:=hf.2.1
 obtain⟨ra,rc,rfl,hlc,hcm,-,hrok,hrc⟩:=hr
 rcases hrc with h0 | ⟨b,off,rfl,hcell⟩
 ·rw[h0] at hl1;simp at hl1
 have hix:l.getD 0 Zai=l.headD Zai:=by cases l <;> rfl
 have HIX:Hid (∀ W,Below w.heap.size w W->W.cell? ⟨b,off,none⟩=some (.int .i64 (l.headD Zai).idx)):=ZZ (fun W hW=>by
  have hc:=(hcell 0 (by omega)).keep (hW.block b (hcell 0 (by omega)).lt)
  have h1:=hc.1
  rw[hix,Nat.zero_mul,Nat.add_zero] at h1
  exact h1)
 have HSD:Hid (∀ W,Below w.heap.size w W->Below w.heap.size w W.drew):=ZZ (fun W hW=>hW.drew)
 by_cases hx:(l.headD Zai).idx=s.next
 case neg=>
  have HR:Hid (res=((s,d),15)):=ZZ (by rw[HRES.out];unfold ZaT;rw[if_neg (fun hh=>hh hf),if_pos hx])
  have hxb:((l.headD Zai).idx != s.next)=true:=by rw[bne_iff_ne];exact hx
  have hli:(0:Int)<(l.length:Int):=by omega
  generalize s.next=nx at *
  generalize (l.headD Zai).idx=ix at *
  clear h hK hok hvl hres hf hcell hix hrok hx
  go_enter Tryz.func22,Tryz.ntmps22
  go_wp2_with fail
  refine HFT.out.mono ?_
  rintro e W1 ⟨rfl,hb1⟩
  have HB1:=ZZ hb1
  have HSD1:=ZZ (HSD.out W1 hb1)
  clear hb1
  go_upto_region 3 with fail
  go_cut[12] (fun v wc=>v=.bool true∧Hid (Below w.heap.size w wc))
  case first=>
   go_region_held(fun W=>W.cell? ⟨b,off,none⟩=some (.int .i64 ix))
    (first | (with_reducible exact HIX.out _ HSD1.out) | (with_reducible exact HIX.out _ HB2.out))
    (first | (go_at_call 14;refine(HNX.out _ HSD1.out).mono ?_;rintro e W2 ⟨rfl,hb2⟩;have HB2:=ZZ hb2;clear hb2))
   all_goals
    go_wp2_with fail
    go_meet
    exact⟨by first | rfl | (rw[hxb]),HB2⟩
  case rest=>
   obtain⟨rfl,HB⟩:=hcut
   go_wp2
   go_ret
   rw[HR.out]
   exact HSM.out _ 15 HB.out
 have hxb:((l.headD Zai).idx != s.next)=false:=by rw[hx];simp
 have hfh:ZaF (l.headD Zai):=by
  rw[<-hix]
  rw[show l.getD 0 Zai=l[0]'(by omega) by simp[List.getD,show 0<l.length by omega]]
  exact hf.2.2.1 _ (List.getElem_mem _)
 have hnx0:0<=s.next:=by rw[<-hx];exact hfh.2.1
 have hnx1:s.next<4611686018427387904:=by rw[<-hx];exact hfh.2.2.1
 have hkd:0<=s.now.st.kind∧s.now.st.kind<6:=⟨hok.now.1.2.2.2.1,hok.now.1.2.2.2.2.1⟩
 have hBl:=Zsr hf hkd hnx1
 obtain⟨nm,hnm⟩:∃ nm,nm=ZdJ s d:=⟨_,rfl⟩
 obtain⟨BA,hBA⟩:∃ BA,BA=ZcM s l:=⟨_,rfl⟩
 obtain⟨⟨D,c⟩,hD⟩:∃ r,r=Zaw d nm BA:=⟨_,rfl⟩
 have hnmi:I64 nm:=by
  rw[hnm]
  unfold ZdJ
  split
  ·obtain⟨F,M,I,L,⟨L1,g1,g2,-⟩,-⟩:=h
   exact Zia g2 2 (by decide) (by decide)
  ·exact hok.cu
 have HR0:Hid (res=if c=0 then((ZbE s nm l,D),0) else((s,D),c)):=ZZ (by
  rw[HRES.out]
  unfold ZaT
  rw[if_neg (fun hh=>hh hf),if_neg (fun hh=>hh hx)]
  dsimp only
  rw[<-hnm,<-hBA,<-hD])
 have HBF:Hid (∀ W,Below w.heap.size w W->Calls Tryz.prog 49 #[.slice (some ⟨b,off,none⟩) l.length rc] W fun e w'=>∃ v',e=.returned v'∧Own w' w.heap.size v' (Zad (ZcU l))∧Below w.heap.size w w'):=ZZ (fun W hW=>(ZkG _ l W (HRD.out.below hW zL) hf (by have:=Zof hf;omega)).mono (by
  rintro e w' ⟨v',rfl,ho,hb⟩
  exact⟨v',rfl,ho.mono hW.size,hW.trans (hb.mono hW.size)⟩))
 have HCE:Hid (∀ W,Below w.heap.size w W->W.cell? ⟨p,0,none⟩=some (ptr pd)∧W.cell? ⟨p,12,none⟩=some (.int .i64 s.cur)):=ZZ (fun W hW=>by
  obtain⟨⟨c0,-,c12,-⟩,-⟩:=(HS.out.below hW).cells
  exact⟨c0,c12⟩)
 have HAP:Hid (∀ vB W,Own W w.heap.size vB BA->Below w.heap.size w W->Calls Tryz.prog 52 #[ptr pd,.int .i64 nm,vB] W fun e w'=>e=.returned (.int .i64 c)∧SD K w' pd p s D (N+2) (T+30000)∧ZaE (fun k=>¬ K k) w w'):=ZZ (fun vB W ho hW=>by
  refine((HS.out.fresh hW).disk (c:=c) (d':=D) (N':=N+2) (T':=T+30000) (fun k hk=>?_) (fun F hF hFK=>?_)).mono ?_
  ·rcases hk with hk | hk
   ·exact Nat.lt_of_lt_of_le (HK.out k hk) hW.size
   ·exact hk.2
  ·have:=Zrx nm hnmi vB BA W hF ho.rd (.inr fun k hk hf=>hFK k hf (.inr ⟨(World.ownsRow.lt ho k hk).1,(World.ownsRow.lt ho k hk).2⟩)) (by omega) (by omega) (by rw[hBA];omega)
   rw[<-hD] at this
   refine this.mono ?_
   rintro e w' ⟨g0,F',g1,g2⟩
   exact⟨g0,F',g1.mono zL (by rw[hBA];omega),g2⟩
  ·rintro e w' ⟨he,hs,ho2⟩
   exact⟨he,hs.less (fun k hk=>.inl hk),(ZaE.ofBelow hW).trans (ho2.mono (fun k hk hn=>hk (.inl hn))) (fun _ _ hh=>hh)⟩)
 have HRK:Hid (∀ W,ZaE (fun k=>¬ K k) w W->RdR W (.slice (some ⟨b,off,none⟩) l.length rc) l∧∀ k,K k->k<W.heap.size):=ZZ (fun W ho=>⟨HRD.out.keepK HVL.out ho,fun k hk=>Nat.lt_of_lt_of_le (HK.out k hk) ho.size⟩)
 have HOK:=ZZ hok
 have HLM:=ZZ (And.intro hpl hrl)
 have HLL:=ZZ (And.intro hl1 hl2)
 have hli:(0:Int)<(l.length:Int):=by omega
 have hli2:(l.length:Int)<=256:=by omega
 by_cases hcu:s.cur=0
 ·have hcb:(s.cur == 0)=true:=by rw[hcu];rfl
  have HNM:Hid (nm=Zbz d 2):=ZZ (by rw[hnm];unfold ZdJ;rw[if_pos hcu])
  have HBA:Hid (BA=Zad (Zbk 3 s.now.st.kind.toNat s.next.toNat)++Zad (ZcU l)):=ZZ (by rw[hBA];unfold ZcM;rw[if_pos hcu])
  have HLB:Hid ((Zad (Zbk 3 s.now.st.kind.toNat s.next.toNat)).length+(Zad (ZcU l)).length<=70368744177664):=ZZ (by
   rw[<-List.length_append,<-HBA.out,hBA]
   omega)
  have HNN:Hid (∀ W,Below w.heap.size w W->Calls Tryz.prog 50 #[ptr p,.int .i64 2] W fun e w'=>e=.returned (.int .i64 nm)∧Below w.heap.size w w'∧Below W.heap.size W w'):=ZZ (fun W hW=>by
   obtain⟨F,M,I,L,h1,h2,-⟩:=HS.out.below hW
   rw[HNM.out]
   refine(ZnI 2 W h2 h1 (by omega) (by decide) (by decide)).mono ?_
   rintro e w' ⟨rfl,hb⟩
   exact⟨rfl,hW.trans (hb.mono hW.size),hb⟩)
  have HHF:Hid (∀ W,Below w.heap.size w W->Calls Tryz.prog 51 #[ptr p] W fun e w'=>∃ v',e=.returned v'∧Own w' w.heap.size v' (Zad (Zbk 3 s.now.st.kind.toNat s.next.toNat))∧Below w.heap.size w w'∧Below W.heap.size W w'):=ZZ (fun W hW=>by
   obtain⟨F,M,I,L,h1,h2,-⟩:=HS.out.below hW
   refine(Zmu W h2 hok.num hkd hnx1 hnx0).mono ?_
   rintro e w' ⟨v',rfl,ho,hb⟩
   exact⟨v',rfl,ho.mono hW.size,hW.trans (hb.mono hW.size),hb⟩)
  have HFIN:Hid (∀ W,SD K W pd p { s with log:=(s.log.start nm s.next).add l,now:=(ZaG s.now l).1,cur:=nm,nw:=true } D (N+2) (T+30000)->ZaE (fun k=>¬ K k) w W->c=0->ZjF K w pd p res (N+2) (T+30000) (.returned (.int .i64 0)) W):=ZZ (fun W hs ho hc=>by
   rw[HR0.out,if_pos hc]
   refine⟨rfl,?_,ho⟩
   have e1:ZbE s nm l={ s with log:=(s.log.start nm s.next).add l,now:=(ZaG s.now l).1,cur:=nm,nw:=true }:=by unfold ZbE;rw[if_pos hcu,if_pos hcu]
   rw[e1]
   exact hs)
  have HERR:Hid (∀ W,SD K W pd p s D (N+2) (T+30000)->ZaE (fun k=>¬ K k) w W->c≠0->ZjF K w pd p res (N+2) (T+30000) (.returned (.int .i64 c)) W):=ZZ (fun W hs ho hc=>by
   rw[HR0.out,if_neg hc]
   exact⟨rfl,hs,ho⟩)
  have HPC:Hid (s.cur≠0->s.log.pcs.length≠0):=ZZ hok.cur
  have HCU:=ZZ hcu
  obtain⟨nx,hnx⟩:∃ nx,nx=s.next:=⟨_,rfl⟩
  obtain⟨ix,hixx⟩:∃ ix,ix=(l.headD Zai).idx:=⟨_,rfl⟩
  rw[<-hnx] at HNX hxb
  rw[<-hixx] at HIX hxb
  have HNE:=ZZ hnx
  obtain⟨cu,hcu2⟩:∃ cu,cu=s.cur:=⟨_,rfl⟩
  rw[<-hcu2] at HCE hcb
  have HCU2:=ZZ hcu2
  clear hcu2
  clear h hK hok hvl hres hf hcell hix hrok hx hnx hixx hD hBA hnm hcu HRES HR0 hfh hBl hnmi hkd hnx0 hnx1 hpl hrl hlc hcm hl1 hl2 HSM
  go_enter Tryz.func22,Tryz.ntmps22
  go_wp2_with fail
  refine HFT.out.mono ?_
  rintro e W1 ⟨rfl,hb1⟩
  have HB1:=ZZ hb1
  have HSD1:=ZZ (HSD.out W1 hb1)
  clear hb1
  go_upto_region 3 with fail
  go_cut[12] (fun v wc=>v=.bool false∧Hid (Below w.heap.size w wc))
  case first=>
   go_region_held(fun W=>W.cell? ⟨b,off,none⟩=some (.int .i64 ix))
    (first | (with_reducible exact HIX.out _ HSD1.out) | (with_reducible exact HIX.out _ HB2.out))
    (first | (go_at_call 14;refine(HNX.out _ HSD1.out).mono ?_;rintro e W2 ⟨rfl,hb2⟩;have HB2:=ZZ hb2;clear hb2))
   all_goals
    go_wp2_with fail
    go_meet
    exact⟨by first | rfl | (rw[hxb]),HB2⟩
  case rest=>
  obtain⟨W2,rfl⟩:∃ W,W=wc:=⟨_,rfl⟩
  obtain⟨rfl,HB2⟩:=hcut
  have HSD2:=ZZ (HSD.out W2 HB2.out)
  go_upto_region 5 with fail
  go_cut[5,6] (fun v5 v6 wc=>v5=.int .i64 cu∧(∃ a n c,v6=.slice a n c)∧Hid (Own wc w.heap.size v6 (Zad (ZcU l)))∧Hid (Below w.heap.size w wc))
  case first=>
   go_region_held(fun W=>W.cell? ⟨p,12,none⟩=some (.int .i64 cu))
    (first | (with_reducible exact(HCE.out _ HSD2.out).2) | (with_reducible exact(HCE.out _ HB3.out).2))
    (first | (go_at_call 49;refine(HBF.out _ HSD2.out).mono ?_;rintro e W3 ⟨v3,rfl,ho3,hb3⟩;have HO3:=ZZ ho3;have HB3:=ZZ hb3;obtain⟨z1,z2,z3,hz⟩:∃ a n c,v3=Value.slice a n c:=(by obtain⟨a,c,hh⟩:=ho3.shape;exact⟨a,_,c,hh⟩);subst hz;clear ho3 hb3))
   all_goals
    go_wp2_with fail
    go_meet
    exact⟨rfl,⟨_,_,_,rfl⟩,HO3,HB3⟩
  case rest=>
  obtain⟨W3,rfl⟩:∃ W,W=wc:=⟨_,rfl⟩
  obtain⟨rfl,⟨z1,z2,z3,rfl⟩,HO3,HB3⟩:=hcut
  obtain⟨q0,q12⟩:=HCE.out W3 HB3.out
  go_wp2_with fail
  refine(HNN.out W3 HB3.out).mono ?_
  rintro e W4 ⟨rfl,hb4,hb34⟩
  have HB4:=ZZ hb4
  have HB34:=ZZ hb34
  clear hb34
  have HO4:Hid (Own W4 w.heap.size (.slice z1 z2 z3) (Zad (ZcU l))):=ZZ (HO3.out.below (show Below W3.heap.size W3 W4 from HB34.out) zL)
  clear hb4 q0 q12
  go_wp2_with fail
  refine(HHF.out W4 HB4.out).mono ?_
  rintro e W5 ⟨v5,rfl,ho5,hb5,hb45⟩
  have HB5:=ZZ hb5
  have HB45:=ZZ hb45
  clear hb45
  have HO5:=ZZ ho5
  have HR5:Hid (Rd W5 (.slice z1 z2 z3) (Zad (ZcU l))):=ZZ (HO4.out.rd.below (show Below W4.heap.size W4 W5 from HB45.out) zL)
  have HSZ5:Hid (w.heap.size<=W5.heap.size):=ZZ hb5.size
  obtain⟨y1,y2,y3,hy⟩:∃ a n c,v5=Value.slice a n c:=by
   obtain⟨a,c,hh⟩:=ho5.shape
   exact⟨a,_,c,hh⟩
  subst hy
  clear ho5 hb5
  go_wp2_with(at_builtin;refine ZaK _ rfl _ _ rfl w.heap.size _ _ rfl HO5.out _ (Zad (ZcU l)) rfl HR5.out HLB.out HSZ5.out ?_)
  intro v6 W6 ho6 hb6
  rw[<-HBA.out] at ho6
  have HO6:=ZZ ho6
  have HB6:Hid (Below w.heap.size w W6):=ZZ (HB5.out.trans hb6)
  obtain⟨x1,x2,x3,hxx⟩:∃ a n c,v6=Value.slice a n c:=by
   obtain⟨a,c,hh⟩:=ho6.shape
   exact⟨a,_,c,hh⟩
  subst hxx
  obtain⟨q0,q12⟩:=HCE.out W6 HB6.out
  clear ho6 hb6
  go_wp2_with fail
  refine(HAP.out _ W6 HO6.out HB6.out).mono ?_
  rintro e W7 ⟨rfl,hs7,ho7⟩
  have HS7:=ZZ hs7
  have HO7:=ZZ ho7
  obtain⟨⟨-,-,k12,k13⟩,kf⟩:=hs7.cells
  clear hs7 ho7 q0 q12
  by_cases hc:c=0
  case neg=>
   have hcb2:(c != 0)=true:=by rw[bne_iff_ne];exact hc
   have HE:=ZZ (HERR.out W7 HS7.out HO7.out hc)
   clear hc kf k12 k13
   go_wp2
   go_ret
   exact HE.out
  have HC0:=ZZ hc
  subst hc
  rw[<-HCU2.out] at k12
  have HN7:=ZZ (HS7.out.next HOK.out.num)
  rw[<-HNE.out] at HN7
  have HBG:Hid (∀ W,Below W7.heap.size W7 W->Calls Tryz.prog 53 #[.pointer (some ⟨p,1,none⟩),.int .i64 nm,.int .i64 nx] W fun e w'=>e=.returned (.tuple #[])∧SD K w' pd p { s with log:=s.log.start nm s.next } D (N+2) (T+30000)∧ZaE (fun k=>¬ K k) w w'):=ZZ (fun W hW=>by
   have hb:=(HS7.out.below hW).begin (fun k hk=>Nat.lt_of_lt_of_le ((HRK.out W7 HO7.out).2 k hk) hW.size) nm nx (by have:=HLM.out.1;omega)
   rw[HNE.out] at hb ⊢
   refine hb.mono ?_
   rintro e w' ⟨he,h2,h3⟩
   exact⟨he,h2,(HO7.out.trans (ZaE.ofBelow (F:=fun _=>False) hW) (fun _ _ h=>h.elim)).trans h3 (fun _ _ h=>h)⟩)
  have HSD7:Hid (Below W7.heap.size W7 W7.drew):=ZZ (Below.refl _ _).drew
  have HNX7:Hid (∀ W,Below W7.heap.size W7 W->Calls Tryz.prog 14 #[ptr p] W fun e w'=>e=.returned (.int .i64 nx)∧Below W7.heap.size W7 w'):=ZZ (fun W hW=>by
   rw[HNE.out]
   refine((HS7.out.below hW).next HOK.out.num).mono ?_
   rintro e w' ⟨rfl,hb⟩
   exact⟨rfl,hW.trans (hb.mono hW.size)⟩)
  go_upto_region 12 with fail
  go_cut[] (fun wc=>Hid (SD K wc pd p { s with log:=s.log.start nm s.next } D (N+2) (T+30000)∧ZaE (fun k=>¬ K k) w wc))
  case first=>
   go_region_with
    (first
     | (go_at_call 14;refine(HNX7.out _ (by first | exact HSD7.out | exact Below.refl _ _)).mono ?_;rintro e W8 ⟨rfl,hb8⟩;have HB8:=ZZ hb8;clear hb8)
     | (go_at_call 53;refine(HBG.out W8 HB8.out).mono ?_;rintro e W9 ⟨rfl,hs9,ho9⟩;have HS9:=ZZ (And.intro hs9 ho9);clear hs9 ho9))
   all_goals
    go_wp2_with fail
    go_meet
    exact HS9
  case rest=>
  obtain⟨W9,rfl⟩:∃ W,W=wc:=⟨_,rfl⟩
  have HS9:=hcut
  clear hcut kf k12 k13
  obtain⟨⟨-,-,k12,k13⟩,kf⟩:=HS9.out.1.cells
  have f12:=kf 12
  have f13:=kf 13
  have HS10:=ZZ (((HS9.out.1.setHead (s':={ s with log:=s.log.start nm s.next,cur:=nm }) (HRK.out W9 HS9.out.2).2 12 (.int .i64 nm) rfl rfl rfl (fun _=>rfl))))
  have HS11:=ZZ (HS10.out.1.setHead (s':={ s with log:=s.log.start nm s.next,cur:=nm,nw:=true }) (fun k hk=>by have:=(HRK.out W9 HS9.out.2).2 k hk;simpa using this) 13 (.bool true) rfl rfl rfl (fun _=>rfl))
  obtain⟨WA,hWA⟩:∃ WA,WA=(W9.setCell ⟨p,12,none⟩ (.int .i64 nm)).setCell ⟨p,13,none⟩ (.bool true):=⟨_,rfl⟩
  have HSA:Hid (SD K WA pd p { s with log:=s.log.start nm s.next,cur:=nm,nw:=true } D (N+2) (T+30000)∧ZaE (fun k=>¬ K k) w WA):=ZZ (by rw[hWA];exact⟨HS11.out.1,(HS9.out.2.trans HS10.out.2 (fun _ _ h=>h)).trans HS11.out.2 (fun _ _ h=>h)⟩)
  have hcur9:({ s with log:=s.log.start nm s.next }:Sto).cur=cu:=HCU2.out.symm
  rw[hcur9] at k12
  have hnw9:({ s with log:=s.log.start nm s.next }:Sto).nw=s.nw:=rfl
  rw[hnw9] at k13
  clear hcur9 hnw9 kf
  go_upto_region 14 with fail
  rw[<-hWA]
  clear hWA k12 k13 f12 f13 HS9 HS10 HS11
  have HAD:=ZZ (HSA.out.1.add (HRK.out WA HSA.out.2).2 _ l (HRK.out WA HSA.out.2).1 (by simp[Lgb.start]) (by have:=HLM.out.1;simp[Lgb.start];omega) (by have:=HLM.out.2;have:=HLL.out.2;show s.log.recs.length+l.length<=_;omega) (fun q hq=>by
   have hok2:=HOK.out.log.start nm s.next (by have:=HOK.out.log.f0;have:=Zjc HOK.out.log.ch;show 0<=s.log.next;omega) HOK.out.log.top (.inr rfl)
   have:=Zfm hok2.ch q hq
   have:=hok2.f0
   have:=hok2.top
   omega))
  go_wp2_with fail
  refine HAD.out.mono ?_
  rintro e WB ⟨rfl,hsB,hoB⟩
  have HSB:Hid (SD K WB pd p { s with log:=(s.log.start nm s.next).add l,cur:=nm,nw:=true } D (N+2) (T+30000)):=ZZ hsB
  have HOB:Hid (ZaE (fun k=>¬ K k) w WB):=ZZ (HSA.out.2.trans hoB (fun _ _ h=>h))
  clear hsB hoB HAD
  obtain⟨la,ln,lc,ta,tn,tc,⟨c5,c6,c7,c8,c9,c10⟩,hTK⟩:=HSB.out.takes (HRK.out WB HOB.out).2 HOK.out.now _ l (HRK.out WB HOB.out).1 (by have:=HLL.out.2;omega)
  have HTK:=ZZ hTK
  clear hTK
  dsimp only at c5 c6 c8 c9 HTK
  go_wp2_with fail
  refine HTK.out.mono ?_
  rintro e WC ⟨xa,xn,xc,ua,un,uc,rfl,⟨e5,e6,e7,e8,e9,e10⟩,fz,hsC,hoC⟩
  have HFF:=ZZ (HFIN.out _ hsC (HOB.out.trans hoC (fun _ _ h=>h)) (by first | rfl | trivial))
  have f5:=fz 5
  have f6:=fz 6
  have f7:=fz 7
  have f8:=fz 8
  have f9:=fz 9
  have f10:=fz 10
  clear hsC hoC fz c5 c6 c7 c8 c9 c10 HTK
  generalize ZaG s.now l=tk at *
  go_wp2
  go_ret
  exact HFF.out
 ·have hcb:(s.cur == 0)=false:=beq_eq_false_iff_ne.2 hcu
  have HNM:Hid (nm=s.cur):=ZZ (by rw[hnm];unfold ZdJ;rw[if_neg hcu])
  have HBA:Hid (BA=Zad (ZcU l)):=ZZ (by rw[hBA];unfold ZcM;rw[if_neg hcu])
  rw[<-HBA.out] at HBF
  rw[<-HNM.out] at HCE
  have HFIN:Hid (∀ W,SD K W pd p { s with log:=s.log.add l,now:=(ZaG s.now l).1 } D (N+2) (T+30000)->ZaE (fun k=>¬ K k) w W->c=0->ZjF K w pd p res (N+2) (T+30000) (.returned (.int .i64 0)) W):=ZZ (fun W hs ho hc=>by
   rw[HR0.out,if_pos hc]
   refine⟨rfl,?_,ho⟩
   have e1:ZbE s nm l={ s with log:=s.log.add l,now:=(ZaG s.now l).1 }:=by unfold ZbE;rw[if_neg hcu,if_neg hcu,HNM.out]
   rw[e1]
   exact hs)
  rw[<-HNM.out] at hcb
  have HERR:Hid (∀ W,SD K W pd p s D (N+2) (T+30000)->ZaE (fun k=>¬ K k) w W->c≠0->ZjF K w pd p res (N+2) (T+30000) (.returned (.int .i64 c)) W):=ZZ (fun W hs ho hc=>by
   rw[HR0.out,if_neg hc]
   exact⟨rfl,hs,ho⟩)
  have HPC:Hid (s.cur≠0->s.log.pcs.length≠0):=ZZ hok.cur
  have HCU:=ZZ hcu
  obtain⟨nx,hnx⟩:∃ nx,nx=s.next:=⟨_,rfl⟩
  obtain⟨ix,hixx⟩:∃ ix,ix=(l.headD Zai).idx:=⟨_,rfl⟩
  rw[<-hnx] at HNX hxb
  rw[<-hixx] at HIX hxb
  have HNE:=ZZ hnx
  obtain⟨cu,hcu2⟩:∃ cu,cu=nm:=⟨_,rfl⟩
  have HCV:Hid (s.cur=cu):=ZZ (by rw[hcu2,HNM.out])
  rw[<-hcu2] at HCE hcb HAP
  clear hcu2
  clear h hK hok hvl hres hf hcell hix hrok hx hnx hixx hD hBA hnm hcu HRES HR0 hfh hBl hnmi hkd hnx0 hnx1 hpl hrl hlc hcm hl1 hl2 HSM
  go_enter Tryz.func22,Tryz.ntmps22
  go_wp2_with fail
  refine HFT.out.mono ?_
  rintro e W1 ⟨rfl,hb1⟩
  have HB1:=ZZ hb1
  have HSD1:=ZZ (HSD.out W1 hb1)
  clear hb1
  go_upto_region 3 with fail
  go_cut[12] (fun v wc=>v=.bool false∧Hid (Below w.heap.size w wc))
  case first=>
   go_region_held(fun W=>W.cell? ⟨b,off,none⟩=some (.int .i64 ix))
    (first | (with_reducible exact HIX.out _ HSD1.out) | (with_reducible exact HIX.out _ HB2.out))
    (first | (go_at_call 14;refine(HNX.out _ HSD1.out).mono ?_;rintro e W2 ⟨rfl,hb2⟩;have HB2:=ZZ hb2;clear hb2))
   all_goals
    go_wp2_with fail
    go_meet
    exact⟨by first | rfl | (rw[hxb]),HB2⟩
  case rest=>
  obtain⟨W2,rfl⟩:∃ W,W=wc:=⟨_,rfl⟩
  obtain⟨rfl,HB2⟩:=hcut
  have HSD2:=ZZ (HSD.out W2 HB2.out)
  go_upto_region 5 with fail
  go_cut[5,6] (fun v5 v6 wc=>v5=.int .i64 cu∧(∃ a n c,v6=.slice a n c)∧Hid (Own wc w.heap.size v6 BA)∧Hid (Below w.heap.size w wc))
  case first=>
   go_region_held(fun W=>W.cell? ⟨p,12,none⟩=some (.int .i64 cu))
    (first | (with_reducible exact(HCE.out _ HSD2.out).2) | (with_reducible exact(HCE.out _ HB3.out).2))
    (first | (go_at_call 49;refine(HBF.out _ HSD2.out).mono ?_;rintro e W3 ⟨v3,rfl,ho3,hb3⟩;have HO3:=ZZ ho3;have HB3:=ZZ hb3;obtain⟨z1,z2,z3,hz⟩:∃ a n c,v3=Value.slice a n c:=(by obtain⟨a,c,hh⟩:=ho3.shape;exact⟨a,_,c,hh⟩);subst hz;clear ho3 hb3))
   all_goals
    go_wp2_with fail
    go_meet
    exact⟨rfl,⟨_,_,_,rfl⟩,HO3,HB3⟩
  case rest=>
  obtain⟨W3,rfl⟩:∃ W,W=wc:=⟨_,rfl⟩
  obtain⟨rfl,⟨z1,z2,z3,rfl⟩,HO3,HB3⟩:=hcut
  obtain⟨q0,q12⟩:=HCE.out W3 HB3.out
  go_wp2_with fail
  refine(HAP.out _ W3 HO3.out HB3.out).mono ?_
  rintro e W7 ⟨rfl,hs7,ho7⟩
  have HS7:=ZZ hs7
  have HO7:=ZZ ho7
  obtain⟨⟨-,-,k12,k13⟩,kf⟩:=hs7.cells
  clear hs7 ho7 q0 q12
  by_cases hc:c=0
  case neg=>
   have hcb2:(c != 0)=true:=by rw[bne_iff_ne];exact hc
   have HE:=ZZ (HERR.out W7 HS7.out HO7.out hc)
   clear hc kf k12 k13
   go_wp2
   go_ret
   exact HE.out
  have HC0:=ZZ hc
  subst hc
  obtain⟨WA,rfl⟩:∃ W,W=W7:=⟨_,rfl⟩
  have HSA:=ZZ (And.intro HS7.out HO7.out)
  have HAD:=ZZ (HSA.out.1.add (HRK.out WA HSA.out.2).2 _ l (HRK.out WA HSA.out.2).1 (HPC.out HCU.out) (by have:=HLM.out.1;omega) (by have:=HLM.out.2;have:=HLL.out.2;omega) (fun q hq=>by
   have:=Zfm HOK.out.log.ch q hq
   have:=HOK.out.log.f0
   have:=HOK.out.log.top
   omega))
  clear kf k13
  have hk12:s.cur=cu:=HCV.out
  rw[hk12] at k12
  clear hk12
  go_wp2_with fail
  refine HAD.out.mono ?_
  rintro e WB ⟨rfl,hsB,hoB⟩
  have HSB:Hid (SD K WB pd p { s with log:=s.log.add l } D (N+2) (T+30000)):=ZZ hsB
  have HOB:Hid (ZaE (fun k=>¬ K k) w WB):=ZZ (HSA.out.2.trans hoB (fun _ _ h=>h))
  clear hsB hoB HAD
  obtain⟨la,ln,lc,ta,tn,tc,⟨c5,c6,c7,c8,c9,c10⟩,hTK⟩:=HSB.out.takes (HRK.out WB HOB.out).2 HOK.out.now _ l (HRK.out WB HOB.out).1 (by have:=HLL.out.2;omega)
  have HTK:=ZZ hTK
  clear hTK
  dsimp only at c5 c6 c8 c9 HTK
  go_wp2_with fail
  refine HTK.out.mono ?_
  rintro e WC ⟨xa,xn,xc,ua,un,uc,rfl,⟨e5,e6,e7,e8,e9,e10⟩,fz,hsC,hoC⟩
  have HFF:=ZZ (HFIN.out _ hsC (HOB.out.trans hoC (fun _ _ h=>h)) (by first | rfl | trivial))
  have f5:=fz 5
  have f6:=fz 6
  have f7:=fz 7
  have f8:=fz 8
  have f9:=fz 9
  have f10:=fz 10
  clear hsC hoC fz c5 c6 c7 c8 c9 c10 HTK
  generalize ZaG s.now l=tk at *
  go_wp2
  go_ret
  exact HFF.out
def Bb (w:World) (b:Nat) (v:Value):Prop:=w.heap[b]?=some (.cells #[v] 53 (0,0))
theorem Bb.lt {w:World} {b:Nat} {v:Value} (h:Bb w b v):b<w.heap.size:=(Array.getElem?_eq_some_iff.1 h).1
theorem Bb.cell {w:World} {b:Nat} {v:Value} (h:Bb w b v):w.cell? ⟨b,0,none⟩=some v∧w.frozen? ⟨b,0,none⟩=false:=
 ⟨(cell_of_row w b 0 _ _ _ h).trans rfl,frozen_of_row w b 0 _ _ h⟩
theorem Bb.set {w:World} {b:Nat} {v:Value} (h:Bb w b v) (x:Value):Bb (w.setCell ⟨b,0,none⟩ x) b x:=by
 have:=heap_setCell_same w b 0 _ _ x h
 unfold Bb
 simpa using this
theorem Rd.setBox {w:World} {v x:Value} {m:List UInt8} (h:Rd w v m) {b:Nat} {ao:Option Addr} {n cap:Nat} (hb:w.cell? ⟨b,0,none⟩=some (.slice ao n cap)):Rd (w.setCell ⟨b,0,none⟩ x) v m:=by
 obtain⟨va,vc,h1,h2,h3,hn,h4⟩:=h
 refine⟨va,vc,h1,h2,h3,hn,?_⟩
 rcases h4 with h4 | ⟨c,off,h5,h6⟩
 ·exact .inl h4
 ·refine .inr ⟨c,off,h5,fun j hj=>?_⟩
  have hc:=h6 j hj
  rw[World.cell?_setCell_other w ⟨b,0,none⟩ ⟨c,off+j,none⟩ x (fun e=>by
   rw[e,hc] at hb
   cases hb)]
  exact hc
def behind (d:Nat) (m:List UInt8):List UInt8:=if d=0 then[] else m.drop d
theorem ZjU (ao:Option Addr) (n cap:Nat) (w:World):
 Calls Tryz.prog 200 #[.slice ao n cap] w fun e w'=>e=.returned (.tuple #[.func (.func 218) #[] #[.pointer (some ⟨w.heap.size,0,none⟩)],.func (.func 219) #[] #[.pointer (some ⟨w.heap.size,0,none⟩)]])∧w'=w.alloc (.cells #[.slice ao n cap] 53):=by
 have hmf:∀ (fn:Fn) (first cap:Array Value) (w:World),(Instr.makeFunc fn first cap).run Tryz.prog w=.ok (.func fn first cap) w:=fun _ _ _ _=>rfl
 go_enter Tryz.func200,Tryz.ntmps200
 go_wp2
 go_ret2
 exact⟨rfl,rfl⟩
theorem ZqU (b:Nat) (ao:Option Addr) (n cap:Nat) (w:World) (hc:w.cell? ⟨b,0,none⟩=some (.slice ao n cap)):
 Calls Tryz.prog 219 #[.pointer (some ⟨b,0,none⟩)] w fun e w'=>e=.returned (.int .i64 (n:Int))∧w'=w:=by
 go_enter Tryz.func219,Tryz.ntmps219
 go_wp2
 go_ret
 exact⟨rfl,rfl⟩
theorem ZqV (x:Int) (d:Nat) (b:Nat) (v:Value) (m:List UInt8) (w:World) (hb:Bb w b v) (hr:Rd w v m) (hd:d<=m.length) (hx:d=0->x=0)
 (hF:Calls Tryz.prog 168 #[v] w fun e w'=>e=.returned (.tuple #[.int .i64 x,.int .i64 (d:Nat)])∧w'=w):
 Calls Tryz.prog 218 #[.func (.func 168) #[] #[],.pointer (some ⟨b,0,none⟩)] w fun e w'=>∃ v',e=.returned (.tuple #[.int .i64 x,.bool (decide (d≠0))])∧Bb w' b v'∧Rd w' v' (behind d m)∧But b b w w':=by
 have HF:=ZZ hF
 have HB:=ZZ hb
 have HR:=ZZ hr
 obtain⟨ao,cap,rfl,-⟩:=hr
 obtain⟨c0,f0⟩:=hb.cell
 by_cases h0:d=0
 ·subst h0
  obtain rfl:=hx rfl
  clear hF hb hx
  go_enter Tryz.func218,Tryz.ntmps218
  go_wp2_with fail
  refine HF.out.mono ?_
  rintro e w' ⟨rfl,rfl⟩
  go_wp2
  go_ret2
  exact⟨_,rfl,HB.out.set _,Rd.nil _,(But.refl _ _ _).set _ _ (.inl rfl) _⟩
 ·have hne:((d:Int) == 0)=false:=beq_eq_false_iff_ne.2 (by omega)
  have HC:=ZZ (Zjm w _ m HR.out .i64 (d:Int) (by omega) (by omega))
  have HE:Hid (behind d m=m.drop d):=if_neg h0
  have HD:Hid (decide (d≠0)=true):=decide_eq_true h0
  rw[Int.toNat_natCast] at HC
  clear hF hb hx h0
  go_enter Tryz.func218,Tryz.ntmps218
  go_wp2_with fail
  refine HF.out.mono ?_
  rintro e w' ⟨rfl,rfl⟩
  go_wp2_with(refine Zhn _ rfl _ _ _ _ rfl _ HC.out ?_)
  intro v1 hr1
  have HR1:=ZZ hr1
  obtain⟨a1,n1,rfl,-⟩:=hr1
  generalize hM:m.drop d=M at *
  go_wp2
  go_ret2
  refine⟨_,by rw[HD.out];rfl,HB.out.set _,?_,(But.refl _ _ _).set _ _ (.inl rfl) _⟩
  rw[HE.out]
  exact HR1.out.setBox c0
theorem ZjV (x:Int) (d:Nat) (b:Nat) (v:Value) (m:List UInt8) (w:World) (hb:Bb w b v) (hr:Rd w v m) (hd:d<=m.length) (hx:d=0->x=0)
 (hF:Calls Tryz.prog 201 #[v] w fun e w'=>e=.returned (.tuple #[.int .i64 x,.int .i64 (d:Nat)])∧w'=w):
 Calls Tryz.prog 218 #[.func (.func 201) #[] #[],.pointer (some ⟨b,0,none⟩)] w fun e w'=>∃ v',e=.returned (.tuple #[.int .i64 x,.bool (decide (d≠0))])∧Bb w' b v'∧Rd w' v' (behind d m)∧But b b w w':=by
 have HF:=ZZ hF
 have HB:=ZZ hb
 have HR:=ZZ hr
 obtain⟨ao,cap,rfl,-⟩:=hr
 obtain⟨c0,f0⟩:=hb.cell
 by_cases h0:d=0
 ·subst h0
  obtain rfl:=hx rfl
  clear hF hb hx
  go_enter Tryz.func218,Tryz.ntmps218
  go_wp2_with fail
  refine HF.out.mono ?_
  rintro e w' ⟨rfl,rfl⟩
  go_wp2
  go_ret2
  exact⟨_,rfl,HB.out.set _,Rd.nil _,(But.refl _ _ _).set _ _ (.inl rfl) _⟩
 ·have hne:((d:Int) == 0)=false:=beq_eq_false_iff_ne.2 (by omega)
  have HC:=ZZ (Zjm w _ m HR.out .i64 (d:Int) (by omega) (by omega))
  have HE:Hid (behind d m=m.drop d):=if_neg h0
  have HD:Hid (decide (d≠0)=true):=decide_eq_true h0
  rw[Int.toNat_natCast] at HC
  clear hF hb hx h0
  go_enter Tryz.func218,Tryz.ntmps218
  go_wp2_with fail
  refine HF.out.mono ?_
  rintro e w' ⟨rfl,rfl⟩
  go_wp2_with(refine Zhn _ rfl _ _ _ _ rfl _ HC.out ?_)
  intro v1 hr1
  have HR1:=ZZ hr1
  obtain⟨a1,n1,rfl,-⟩:=hr1
  generalize hM:m.drop d=M at *
  go_wp2
  go_ret2
  refine⟨_,by rw[HD.out];rfl,HB.out.set _,?_,(But.refl _ _ _).set _ _ (.inl rfl) _⟩
  rw[HE.out]
  exact HR1.out.setBox c0
def Zfg (X W:World):Prop:=W.heap=X.heap∧W.os=X.os∧W.tape=X.tape∧W.output=X.output
theorem Zfg.refl (X:World):Zfg X X:=⟨rfl,rfl,rfl,rfl⟩
theorem Zfg.drew {X W:World} (h:Zfg X W):Zfg X W.drew:=h
theorem Zfg.set {X W:World} (h:Zfg X W) (a:Addr) (v:Value):Zfg (X.setCell a v) (W.setCell a v):=by
 obtain⟨h1,h2,h3,h4⟩:=h
 refine⟨?_,h2,h3,h4⟩
 simp only [World.setCell,h1]
theorem Zfg.below {X W:World} (h:Zfg X W) (B:Nat):Below B X W:=⟨h.2.1,h.2.2.1,h.2.2.2,by rw[h.1];exact Nat.le_refl _,fun k _=>by rw[h.1]⟩
theorem Zfg.cell {X W:World} (h:Zfg X W) (a:Addr):W.cell? a=X.cell? a:=by simp only [World.cell?,h.1]
theorem Zfg.froz {X W:World} (h:Zfg X W) (a:Addr):W.frozen? a=X.frozen? a:=by simp only [World.frozen?,h.1]
def ZkH (w:World) (p:Nat × Nat):Prop:=(∃ x:Int,w.cell? ⟨p.1,p.2,none⟩=some (.int .i64 x))∧w.frozen? ⟨p.1,p.2,none⟩=false
theorem ZkH.set {w:World} {p:Nat × Nat} (h:ZkH w p) (p':Nat × Nat) (n:Int):ZkH (w.setCell ⟨p'.1,p'.2,none⟩ (.int .i64 n)) p:=by
 obtain⟨⟨x,h1⟩,h2⟩:=h
 refine⟨?_,by rw[World.frozen?_setCell];exact h2⟩
 by_cases e:(⟨p'.1,p'.2,none⟩:Addr)=⟨p.1,p.2,none⟩
 ·rw[e]
  exact⟨n,World.cell?_setCell_same _ _ _ h1⟩
 ·exact⟨x,by rw[World.cell?_setCell_other _ _ _ _ (fun h=>e h)];exact h1⟩
theorem Rd.setNum {w:World} {v:Value} {m:List UInt8} (h:Rd w v m) {p:Nat × Nat} (hp:ZkH w p) (x:Value):Rd (w.setCell ⟨p.1,p.2,none⟩ x) v m:=by
 obtain⟨va,vc,h1,h2,h3,hn,h4⟩:=h
 refine⟨va,vc,h1,h2,h3,hn,?_⟩
 rcases h4 with h4 | ⟨c,off,h5,h6⟩
 ·exact .inl h4
 ·refine .inr ⟨c,off,h5,fun j hj=>?_⟩
  have hc:=h6 j hj
  rw[World.cell?_setCell_other w ⟨p.1,p.2,none⟩ ⟨c,off+j,none⟩ x (fun e=>by
   obtain⟨⟨y,hy⟩,-⟩:=hp
   rw[e,hc] at hy
   cases hy)]
  exact hc
def ZbK (w:World):List (Nat × Nat)->List Nat->World
 | p::ps,n::ns=>ZbK (w.setCell ⟨p.1,p.2,none⟩ (.int .i64 (n:Int))) ps ns
 | _,_=>w
theorem Zlr:∀ (w:World) (ps:List (Nat × Nat)) (ns:List Nat) (p:Nat × Nat) (n:Nat),ps.length=ns.length->ZbK w (ps++[p]) (ns++[n])=(ZbK w ps ns).setCell ⟨p.1,p.2,none⟩ (.int .i64 (n:Int))
 | w,[],[],p,n,_=>rfl
 | w,q::ps,m::ns,p,n,h=>by
  rw[List.cons_append,List.cons_append,ZbK,Zlr _ ps ns p n (by simpa using h),ZbK]
theorem Zog:∀ (w:World) (ps:List (Nat × Nat)) (ns:List Nat) {p:Nat × Nat},ZkH w p->ZkH (ZbK w ps ns) p
 | w,[],_,p,h=>by cases ‹List Nat› <;> exact h
 | w,q::ps,[],p,h=>h
 | w,q::ps,m::ns,p,h=>by
  rw[ZbK]
  exact Zog _ ps ns (h.set q m)
theorem ZdC:∀ (w:World) (ps:List (Nat × Nat)) (ns:List Nat) (k:Nat),(∀ p ∈ ps,p.1≠k)->(ZbK w ps ns).heap[k]?=w.heap[k]?
 | w,[],ns,k,_=>by cases ns <;> rfl
 | w,q::ps,[],k,_=>rfl
 | w,q::ps,m::ns,k,h=>by
  rw[ZbK,ZdC _ ps ns k (fun p hp=>h p (by simp[hp]))]
  exact Below.heap_setCell _ _ _ _ (fun e=>h q (by simp) e.symm)
theorem ZdD:∀ (w:World) (ps:List (Nat × Nat)) (ns:List Nat) (B:Nat) (w0:World),(∀ p ∈ ps,B<=p.1)->Below B w0 w->Below B w0 (ZbK w ps ns)
 | w,[],ns,B,w0,_,h=>by cases ns <;> exact h
 | w,q::ps,[],B,w0,_,h=>h
 | w,q::ps,m::ns,B,w0,hp,h=>by
  rw[ZbK]
  exact ZdD _ ps ns B w0 (fun p h=>hp p (by simp[h])) (h.setCell (hp q (by simp)) _)
def Zzm (w:World) (v:Value) (b:List UInt8) (ps:List (Nat × Nat)) (r:Option (List Nat × List UInt8)) (e:Ending) (w':World):Prop:=
 ∃ (v':Value) (l:List UInt8) (ns:List Nat),e=.returned (.tuple #[v',.bool r.isSome])∧(∀ W,Rd W v b->Rd W v' l)∧(r=none->l=[])∧(∀ x,r=some x->x=(ns,l))∧(∀ n ∈ ns,n<4611686018427387904)∧ns.length<=ps.length∧Zfg (ZbK w (ps.take ns.length) ns) w'
theorem ZqW:∀ (w:World) (ps:List (Nat × Nat)) (ns:List Nat) {v:Value} {m:List UInt8},(∀ p ∈ ps,ZkH w p)->Rd w v m->Rd (ZbK w ps ns) v m
 | w,[],ns,v,m,_,h=>by cases ns <;> exact h
 | w,q::ps,[],v,m,_,h=>h
 | w,q::ps,k::ns,v,m,hp,h=>by
  rw[ZbK]
  exact ZqW _ ps ns (fun p hh=>(hp p (by simp[hh])).set q k) (h.setNum (hp q (by simp)) _)
theorem Zix (ao:Option Addr) (l:List UInt8) (cap:Nat) (hlc:l.length<=cap) (d:Nat) (hd:d<=l.length):
 ∃ xa xc,(∀ W,(Instr.sliceAt 53 (.slice ao l.length cap) (some (.int .i64 (d:Int))) none none).run Tryz.prog W=.ok (.slice xa (l.drop d).length xc) W)∧∀ W,Rd W (.slice ao l.length cap) l->Rd W (.slice xa (l.drop d).length xc) (l.drop d):=by
 have hsl:∃ xa xc,sliced ao d l.length cap 1=.slice xa (l.length-d) xc:=by
  unfold sliced
  exact⟨_,_,rfl⟩
 obtain⟨xa,xc,hsl⟩:=hsl
 refine⟨xa,xc,fun W=>?_,fun W h=>?_⟩
 ·rw[run_sliceAt_slice W 53 _ _ _ _ ZaA,run_slice_l W 53 ao l.length cap ZaA .i64 (d:Int) (by omega) (by omega),ZbG,Zev,List.length_drop,<-hsl]
  rfl
 ·rw[List.length_drop,<-hsl]
  have h2:=h.mid d l.length cap hd zL hlc zL
  rw[List.take_of_length_le (by simp)] at h2
  exact h2
theorem Zss {n:Nat} {b:List UInt8} (h:(Zab b).2≠0):ZbY (n+1) b=(ZbY n (b.drop (Zab b).2)).map (fun r=>((Zab b).1::r.1,r.2)):=by rw[ZbY,if_neg h]
theorem Zst {n:Nat} {b:List UInt8} (h:(Zab b).2=0):ZbY (n+1) b=none:=by rw[ZbY,if_pos h]
theorem ZcH (N:Nat) (ps:List (Nat × Nat)) (v:Value) (b:List UInt8) (w:World) (hr:Rd w v b) (hps:∀ p ∈ ps,ZkH w p∧p.1≠N) (hlim:ps.length<=100)
 (hN:w.heap[N]?=some (.cells (ps.map (fun p=>Value.pointer (some ⟨p.1,p.2,none⟩))).toArray 208 (0,0))) (k:Nat) (hk:k=ps.length):
 Calls Tryz.prog 160 #[v,.slice (some ⟨N,0,none⟩) k k] w fun e w'=>Zzm w v b ps (ZbY ps.length b) e w':=by
 subst hk
 have HPS:=ZZ hps
 have HN:Hid (∀ q,q<ps.length->w.cell? ⟨N,q,none⟩=some (.pointer (some ⟨(ps.getD q (0,0)).1,(ps.getD q (0,0)).2,none⟩))):=ZZ (fun q hq=>by
  rw[cell_of_row w N q _ _ _ hN]
  simp[List.getD,hq])
 have HNS:Hid (∀ ns,(ZbK w (ps.take (List.length ns)) ns).heap[N]?=w.heap[N]?):=ZZ (fun ns=>ZdC w _ ns N (fun p hp=>(hps p (List.mem_of_mem_take hp)).2))
 have HG:=ZZ (fun v1 l W h=>ZeZ v1 l W h)
 have HR:Hid (∀ ns,Rd (ZbK w (ps.take (List.length ns)) ns) v b):=ZZ (fun ns=>ZqW w _ ns (fun p hp=>(hps p (List.mem_of_mem_take hp)).1) hr)
 obtain⟨va,vc,hv⟩:∃ a c,v=.slice a b.length c:=by obtain⟨a,c,h,-⟩:=hr;exact⟨a,c,h⟩
 subst hv
 obtain⟨GL,hGL⟩:∃ GL,GL=ZbY ps.length b:=⟨_,rfl⟩
 rw[<-hGL]
 have HGL0:Hid (GL=(ZbY (ps.length-0) b).map (fun r=>([]++r.1,r.2))):=ZZ (by
  rw[hGL,Nat.sub_zero]
  cases ZbY ps.length b <;> rfl)
 clear hGL hps hr hN
 have hpi:(ps.length:Int)<=100:=by omega
 go_enter Tryz.func160,Tryz.ntmps160
 go_wp2
 go_loopw[0,12] (fun vb vi wr=>∃ (q:Nat) (ns:List Nat) (b':List UInt8) (a:Option Addr) (c:Nat),vi=.int .i64 (q:Int)∧vb=.slice a b'.length c∧q<=ps.length∧ns.length=q∧Hid (∀ W,Rd W (.slice va b.length vc) b->Rd W (.slice a b'.length c) b')∧Hid (Zfg (ZbK w (ps.take ns.length) ns) wr)∧Hid (∀ n ∈ ns,n<4611686018427387904)∧Hid (GL=(ZbY (ps.length-q) b').map (fun r=>(ns++r.1,r.2)))) (fun _ vi _=>ps.length-(intOf vi).toNat)
 case atStart=>exact⟨0,[],b,va,vc,rfl,rfl,Nat.zero_le _,rfl,ZZ (fun W h=>h),ZZ (by rw[List.length_nil,List.take_zero];exact Zfg.refl w),ZZ (fun n h=>by simp at h),HGL0⟩
 case round=>
  clear HGL0
  obtain⟨q,ns,b',a,c,rfl,rfl,hq,hns,hV,hA,hNs,hGL⟩:=hrel
  have hR:Hid (Rd wr (.slice a b'.length c) b'):=ZZ (hV.out wr ((HR.out ns).below (hA.out.below (ZbK w (ps.take ns.length) ns).heap.size) zL))
  have HNQ:=ZZ hns
  by_cases hlt:q<ps.length
  case neg=>
   obtain rfl:q=ps.length:=by omega
   have HF:Hid (GL=some (ns,b')):=ZZ (by
    rw[hGL.out,Nat.sub_self]
    simp[ZbY])
   clear hns
   go_wp2
   go_ret2
   rw[HF.out]
   exact⟨_,b',ns,rfl,hV.out,(fun h=>by cases h),(fun x h=>by injection h with h;exact h.symm),hNs.out,by rw[HNQ.out];exact Nat.le_refl _,hA.out⟩
  have hqi:(q:Int)<(ps.length:Int):=by omega
  have hsub:ps.length-q=(ps.length-(q+1))+1:=by omega
  have hcN:wr.cell? ⟨N,q,none⟩=some (.pointer (some ⟨(ps.getD q (0,0)).1,(ps.getD q (0,0)).2,none⟩)):=by
   rw[hA.out.cell]
   exact(World.cell?_of_block (a:=⟨N,q,none⟩) (HNS.out ns)).trans (HN.out q hlt)
  have hmem:ps.getD q (0,0) ∈ ps:=by
   rw[show ps.getD q (0,0)=ps[q] by simp[List.getD,hlt]]
   exact List.getElem_mem hlt
  have hnw:ZkH (ZbK w (ps.take ns.length) ns) (ps.getD q (0,0)):=Zog w _ ns (HPS.out _ hmem).1
  have hnr:ZkH wr (ps.getD q (0,0)):=⟨by
   obtain⟨x,hx⟩:=hnw.1
   exact⟨x,by rw[hA.out.cell];exact hx⟩,by rw[hA.out.froz];exact hnw.2⟩
  have HSN:Hid (∀ n:Nat,ZbK w (ps.take (ns++[n]).length) (ns++[n])=(ZbK w (ps.take ns.length) ns).setCell ⟨(ps.getD q (0,0)).1,(ps.getD q (0,0)).2,none⟩ (.int .i64 (n:Int))):=ZZ (fun n=>by
   have e1:ps.take (ns++[n]).length=ps.take ns.length++[ps.getD q (0,0)]:=by
    rw[List.length_append,List.length_singleton,HNQ.out,List.take_add_one,List.getElem?_eq_getElem hlt]
    simp[List.getD,hlt]
   rw[e1,Zlr w _ ns _ n (by rw[List.length_take,HNQ.out];omega)])
  have HNR:=ZZ hnr
  obtain⟨⟨x0,hx0⟩,hf0⟩:=hnr
  clear hmem hnw HN HNS HPS hns
  generalize ps.getD q (0,0)=p at *
  obtain⟨pb,po⟩:=p
  dsimp only at hcN hx0 hf0 HSN
  have HGQ:=ZZ (HG.out _ b' wr hR.out)
  have hdl:=ZbQ b'
  have hdn:(Zab b').1<4611686018427387904:=by
   rcases Zau b' with h | h
   ·rw[h];decide
   ·exact h.1
  have HST:=ZZ (Zss (n:=ps.length-(q+1)) (b:=b'))
  have HSO:=ZZ (Zst (n:=ps.length-(q+1)) (b:=b'))
  rw[<-hsub] at HST HSO
  have HCF:=ZZ (fun d hd=>Zix a b' c (by obtain⟨a',c',h,h2,-⟩:=hR.out;simp only [Value.slice.injEq] at h;omega) d hd)
  generalize (Zab b').2=d at *
  generalize (Zab b').1=n at *
  clear HG
  by_cases hd:d=0
  ·subst hd
   have HF:Hid (GL=none):=ZZ (by rw[hGL.out,HSO.out rfl];rfl)
   go_wp2_with fail
   refine HGQ.out.mono ?_
   rintro e W1 ⟨rfl,hw1⟩
   rw[hw1]
   clear hw1 W1
   go_wp2
   go_ret2
   rw[HF.out]
   exact⟨_,[],ns,rfl,(fun W _=>Rd.nil W),(fun _=>rfl),(fun x h=>by cases h),hNs.out,by rw[HNQ.out];omega,hA.out⟩
  ·have hde:((d:Int) == 0)=false:=beq_eq_false_iff_ne.2 (by omega)
   obtain⟨xa,xc,hcut,hcr⟩:=HCF.out d hdl
   have HCR:=ZZ hcr
   have HF:Hid (GL=(ZbY (ps.length-(q+1)) (b'.drop d)).map (fun r=>((ns++[n])++r.1,r.2))):=ZZ (by
    rw[hGL.out,HST.out hd]
    cases ZbY (ps.length-(q+1)) (b'.drop d) with
    | none=>rfl
    | some r=>simp)
   clear hcr HST HSO hGL hd HCF
   generalize b'.drop d=b2 at *
   go_wp2_with fail
   refine HGQ.out.mono ?_
   rintro e W1 ⟨rfl,hw1⟩
   rw[hw1]
   clear hw1 W1
   go_wp2
   go_region
   all_goals
    go_wp2
    go_roundw
    case rel=>exact⟨q+1,ns++[n],b2,xa,xc,by go_num,rfl,by omega,by rw[List.length_append,List.length_singleton,HNQ.out],ZZ (fun W h=>HCR.out W (hV.out W h)),ZZ (by rw[HSN.out];exact hA.out.drew.set _ _),ZZ (fun m hm=>by
     rcases List.mem_append.1 hm with h | h
     ·exact hNs.out m h
     ·rw[List.mem_singleton.1 h];exact hdn),HF⟩
    case measure=>simp[intOf];omega
def ZkI (b:List UInt8):Option (Ent × List UInt8):=
 match ZbY 2 b with
 | none=>none
 | some (ns,l)=>if(Zaf l).2=0 then none else some (⟨((ns.getD 0 0:Nat):Int),((ns.getD 1 0:Nat):Int),zag (Zaf l).1⟩,l.drop (Zaf l).2)
theorem ZgO (b:List UInt8):ZbY 1 b=if(Zab b).2=0 then none else some ([(Zab b).1],b.drop (Zab b).2):=rfl
theorem ZjW (b:List UInt8):ZbY 2 b=if(Zab b).2=0 then none else if(Zab (b.drop (Zab b).2)).2=0 then none else some ([(Zab b).1,(Zab (b.drop (Zab b).2)).1],(b.drop (Zab b).2).drop (Zab (b.drop (Zab b).2)).2):=by
 rw[ZbY]
 split
 ·rfl
 ·rw[ZgO]
  split <;> rfl
theorem ZpX (n:Nat) (b:List UInt8):ZdI (n+1) b=(ZkI b).bind (fun y=>(ZdI n y.2).map (fun r=>(y.1::r.1,r.2))):=by
 have h:ZdI (n+1) b=if(Zab b).2=0∨(Zab (b.drop (Zab b).2)).2=0∨(Zaf (b.drop ((Zab b).2+(Zab (b.drop (Zab b).2)).2))).2=0 then none
  else(ZdI n (b.drop ((Zab b).2+(Zab (b.drop (Zab b).2)).2+(Zaf (b.drop ((Zab b).2+(Zab (b.drop (Zab b).2)).2))).2))).map (fun r=>(⟨(Zab b).1,(Zab (b.drop (Zab b).2)).1,zag (Zaf (b.drop ((Zab b).2+(Zab (b.drop (Zab b).2)).2))).1⟩::r.1,r.2)):=rfl
 rw[h]
 unfold ZkI
 rw[ZjW]
 by_cases h1:(Zab b).2=0
 ·rw[if_pos (.inl h1),if_pos h1]
  rfl
 rw[if_neg h1]
 by_cases h2:(Zab (b.drop (Zab b).2)).2=0
 ·rw[if_pos (.inr (.inl h2)),if_pos h2]
  rfl
 rw[if_neg h2]
 simp only [List.drop_drop]
 by_cases h3:(Zaf (b.drop ((Zab b).2+(Zab (b.drop (Zab b).2)).2))).2=0
 ·rw[if_pos (.inr (.inr h3)),if_pos h3]
  rfl
 ·rw[if_neg (by omega),if_neg h3]
  rfl
def Zzn (w:World) (v:Value) (b:List UInt8) (e:Ending) (w':World):Prop:=
 ∃ (x:Ent) (v':Value) (l:List UInt8),e=.returned (.tuple #[ZrG x,v',.bool (ZkI b).isSome])∧ZlY x∧(∀ W,Rd W v b->Rd W v' l)∧(∀ y,ZkI b=some y->y=(x,l))∧Below w.heap.size w w'
theorem Zsu:Zaf []=(0,0):=by decide
theorem ZxV {W:World} {R:Nat} (h:Be W R #[.int .i64 0,.int .i64 0,.int .i64 0]) (ns:List Nat) (hn:ns.length<=2) (hns:∀ n ∈ ns,n<4611686018427387904):
 ∃ x y:Int,Be (ZbK W ([(R,0),(R,1)].take ns.length) ns) R #[.int .i64 x,.int .i64 y,.int .i64 0]∧I64 x∧I64 y∧(ns.length=2->x=((ns.getD 0 0:Nat):Int)∧y=((ns.getD 1 0:Nat):Int)):=by
 have i0:I64 0:=Zaj (by decide) (by decide)
 match ns,hn,hns with
 | [],_,_=>exact⟨0,0,h,i0,i0,fun h=>absurd h (by simp)⟩
 | [n],_,hns=>
  have:=hns n (by simp)
  refine⟨(n:Int),0,?_,⟨by omega,by omega⟩,i0,fun h=>absurd h (by simp)⟩
  have h2:=heap_setCell_same W R 0 _ _ (.int .i64 (n:Int)) h
  exact h2
 | [n,m],_,hns=>
  have h1:=hns n (by simp)
  have h2:=hns m (by simp)
  refine⟨(n:Int),(m:Int),?_,⟨by omega,by omega⟩,⟨by omega,by omega⟩,fun _=>⟨rfl,rfl⟩⟩
  have h3:=heap_setCell_same W R 0 _ _ (.int .i64 (n:Int)) h
  exact heap_setCell_same _ R 1 _ _ (.int .i64 (m:Int)) h3
theorem ZjX (w:World) (x y z:Obj):((((w.alloc x).alloc y).alloc z).heap[w.heap.size]?=some x∧(((w.alloc x).alloc y).alloc z).heap[w.heap.size+1]?=some y∧(((w.alloc x).alloc y).alloc z).heap[w.heap.size+2]?=some z):=by
 refine⟨?_,?_,?_⟩
 ·exact((Below.heap_alloc _ _ _ (by simp;omega)).trans (Below.heap_alloc _ _ _ (by simp))).trans (heap_alloc_new w x)
 ·refine(Below.heap_alloc _ _ _ (by simp)).trans ?_
  have:=heap_alloc_new (w.alloc x) y
  simpa using this
 ·have:=heap_alloc_new ((w.alloc x).alloc y) z
  simpa using this
theorem Be.set {w:World} {b:Nat} {cs:Array Value} (h:Be w b cs) (j:Nat) (x:Value):Be (w.setCell ⟨b,j,none⟩ x) b (cs.setIfInBounds j x):=by
 have:=heap_setCell_same w b j _ _ x h
 unfold Be
 simpa using this
theorem Be.other {w:World} {b c:Nat} {cs:Array Value} (h:Be w b cs) (j:Nat) (x:Value) (hne:b≠c):Be (w.setCell ⟨c,j,none⟩ x) b cs:=(Below.heap_setCell _ _ _ _ hne).trans h
theorem Zwt {C:Nat} {w0 w:World} (h:Below C w0 w) (R:Nat) (hR:C<=R) (x0 x1 x2:Value):Below C w0 (((w.setCell ⟨R,0,none⟩ x0).setCell ⟨R,1,none⟩ x1).setCell ⟨R,2,none⟩ x2):=
 ((h.setCell hR _).setCell hR _).setCell hR _
theorem Zoh (v:Value) (b:List UInt8) (w:World) (hr:Rd w v b):
 Calls Tryz.prog 202 #[v] w fun e w'=>Zzn w v b e w':=by
 obtain⟨W0,hW0⟩:∃ W0,W0=((w.alloc (.cells #[.int .i64 0,.int .i64 0,.int .i64 0] 85)).alloc (.cells #[.int .i64 0,.int .i64 0,.int .i64 0] 85)).alloc (.cells #[.pointer (some ⟨w.heap.size+1,0,none⟩),.pointer (some ⟨w.heap.size+1,1,none⟩)] 208):=⟨_,rfl⟩
 have h3:=ZjX w (.cells #[.int .i64 0,.int .i64 0,.int .i64 0] 85) (.cells #[.int .i64 0,.int .i64 0,.int .i64 0] 85) (.cells #[.pointer (some ⟨w.heap.size+1,0,none⟩),.pointer (some ⟨w.heap.size+1,1,none⟩)] 208)
 rw[<-hW0] at h3
 obtain⟨hA,hB,hC⟩:=h3
 have HB0:Hid (Below w.heap.size w W0):=ZZ (by rw[hW0];exact(((Below.refl _ _).alloc zL _).alloc (by simp) _).alloc (by simp;omega) _)
 have hEA:Be W0 w.heap.size #[.int .i64 0,.int .i64 0,.int .i64 0]:=hA
 have hEB:Be W0 (w.heap.size+1) #[.int .i64 0,.int .i64 0,.int .i64 0]:=hB
 have HEA:=ZZ hEA
 have HGN:=ZZ (ZcH (w.heap.size+1+1) [(w.heap.size+1,0),(w.heap.size+1,1)] v b W0 (hr.below HB0.out zL) (fun p hp=>by
  simp only [List.mem_cons,List.not_mem_nil,or_false] at hp
  rcases hp with rfl | rfl
  ·exact⟨⟨⟨0,(hEB.cell 0).1⟩,(hEB.cell 0).2⟩,by simp⟩
  ·exact⟨⟨⟨0,(hEB.cell 1).1⟩,(hEB.cell 1).2⟩,by simp⟩) (by simp) hC 2 rfl)
 have HBX:=ZZ (fun ns=>ZxV hEB ns)
 have HSB:Hid (∀ ns,Below w.heap.size w (ZbK W0 ([(w.heap.size+1,0),(w.heap.size+1,1)].take (List.length ns)) ns)):=ZZ (fun ns=>ZdD W0 _ ns _ w (fun p hp=>by
  have:=List.mem_of_mem_take hp
  simp only [List.mem_cons,List.not_mem_nil,or_false] at this
  rcases this with rfl | rfl <;> simp) HB0.out)
 have HSA:Hid (∀ ns,Be (ZbK W0 ([(w.heap.size+1,0),(w.heap.size+1,1)].take (List.length ns)) ns) w.heap.size #[.int .i64 0,.int .i64 0,.int .i64 0]):=ZZ (fun ns=>(ZdC W0 _ ns _ (fun p hp=>by
  have:=List.mem_of_mem_take hp
  simp only [List.mem_cons,List.not_mem_nil,or_false] at this
  rcases this with rfl | rfl <;> simp)).trans hEA)
 have HG:=ZZ (fun v1 l W h=>Zcr v1 l W h)
 have HST:Hid (ZkI b=match ZbY [(w.heap.size+1,0),(w.heap.size+1,1)].length b with | none=>none | some (ns,l)=>if(Zaf l).2=0 then none else some (⟨((ns.getD 0 0:Nat):Int),((ns.getD 1 0:Nat):Int),zag (Zaf l).1⟩,l.drop (Zaf l).2)):=ZZ rfl
 have HLN:Hid (∀ ns l,ZbY [(w.heap.size+1,0),(w.heap.size+1,1)].length b=some (ns,l)->ns.length=2):=ZZ (fun ns l h=>by
  have h2:ZbY 2 b=some (ns,l):=h
  rw[ZjW] at h2
  split at h2
  ·cases h2
  split at h2
  ·cases h2
  injection h2 with h2
  injection h2 with h2 _
  rw[<-h2]
  rfl)
 unfold Zzn
 obtain⟨S1,hS1⟩:∃ S1,S1=ZkI b:=⟨_,rfl⟩
 rw[<-hS1] at HST ⊢
 obtain⟨ok,hok⟩:∃ ok,ok=S1.isSome:=⟨_,rfl⟩
 rw[<-hok]
 have HOKS:=ZZ hok
 clear hok
 generalize ZbY [(w.heap.size+1,0),(w.heap.size+1,1)].length b=GL at *
 have HRW:=ZZ hr
 obtain⟨va,vc,hv⟩:∃ a c,v=.slice a b.length c:=by obtain⟨a,c,h,-⟩:=hr;exact⟨a,c,h⟩
 subst hv
 clear hr hA hB hC hEA hEB hS1
 go_enter Tryz.func202,Tryz.ntmps202
 go_wp2_with fail
 rw[<-hW0]
 refine HGN.out.mono ?_
 rintro e W1 ⟨v1,l,ns,rfl,hr1,hn1,hs1,hlt1,hle1,hal1⟩
 obtain⟨x,y,hbx,hxi,hyi,hxy⟩:=HBX.out ns hle1 hlt1
 have HE1:Hid (Be W1 (w.heap.size+1) #[.int .i64 x,.int .i64 y,.int .i64 0]):=ZZ (hbx.below (hal1.below (ZbK W0 ([(w.heap.size+1,0),(w.heap.size+1,1)].take ns.length) ns).heap.size) zL)
 have HA1:Hid (Be W1 w.heap.size #[.int .i64 0,.int .i64 0,.int .i64 0]):=ZZ ((HSA.out ns).below (hal1.below (ZbK W0 ([(w.heap.size+1,0),(w.heap.size+1,1)].take ns.length) ns).heap.size) zL)
 have HB1:Hid (Below w.heap.size w W1):=ZZ ((HSB.out ns).trans (hal1.below _))
 have HR1:=ZZ (hr1 W1 (HRW.out.below HB1.out zL))
 have HV1:=ZZ hr1
 obtain⟨a1,c1,hv1⟩:∃ a c,v1=.slice a l.length c:=by obtain⟨a,c,h,-⟩:=HR1.out;exact⟨a,c,h⟩
 subst hv1
 have hcap:l.length<=c1:=by
  obtain⟨a',c',h,h2,-⟩:=HR1.out
  simp only [Value.slice.injEq] at h
  omega
 have HGQ:=ZZ (HG.out _ l W1 HR1.out)
 have hkl:=Zci l
 have hZI:I64 (zag (Zaf l).1):=ZoM (ZlF l)
 obtain⟨xa,xc,hcut,hcr⟩:=Zix a1 l c1 hcap (Zaf l).2 hkl
 have HCR:=ZZ (fun W h=>hcr W (HV1.out W h))
 have HOK:Hid (S1.isSome=decide (0<(Zaf l).2)):=ZZ (by
  rw[HST.out]
  cases GL with
  | none=>rw[hn1 rfl,Zsu];rfl
  | some p=>
   have:=hs1 p rfl
   subst this
   dsimp only
   by_cases h:(Zaf l).2=0
   ·rw[if_pos h,h];rfl
   ·rw[if_neg h,decide_eq_true (by omega)];rfl)
 have HSO:Hid (∀ z,S1=some z->z=(⟨x,y,zag (Zaf l).1⟩,l.drop (Zaf l).2)):=ZZ (fun z hz=>by
  rw[HST.out] at hz
  cases GL with
  | none=>cases hz
  | some p=>
   have:=hs1 p rfl
   subst this
   obtain⟨h1,h2⟩:=hxy (HLN.out ns l rfl)
   dsimp only at hz
   split at hz
   ·cases hz
   ·injection hz with hz
    rw[<-hz,h1,h2])
 have HXI:Hid (ZlY ⟨x,y,zag (Zaf l).1⟩):=ZZ ⟨hxi,hyi,hZI⟩
 clear hr1 hn1 hs1 hlt1 hle1 hal1 hbx hxy HST HLN HSB HSA HBX HGN HG hcr hcap HB0 HEA hW0 hxi hyi hZI
 generalize zag (Zaf l).1=z at *
 generalize (Zaf l).2=k at *
 generalize l.drop k=l2 at *
 have hk1:S1.isSome=decide ((0:Int)<(k:Int)):=by rw[HOK.out];exact decide_eq_decide.2 (by omega)
 rw[<-HOKS.out] at hk1
 have HK1:Hid (decide (0<k)=ok):=ZZ (by rw[HOKS.out,HOK.out])
 clear HOKS hk1 HOK
 go_wp2_with fail
 refine HGQ.out.mono ?_
 rintro e W2 ⟨rfl,hw2⟩
 rw[hw2]
 clear hw2 W2 HGQ
 have HE2:Hid (Be (W1.setCell ⟨w.heap.size+1,2,none⟩ (.int .i64 z)) (w.heap.size+1) #[.int .i64 x,.int .i64 y,.int .i64 z]):=ZZ (HE1.out.set 2 _)
 have HA2:Hid (Be (W1.setCell ⟨w.heap.size+1,2,none⟩ (.int .i64 z)) w.heap.size #[.int .i64 0,.int .i64 0,.int .i64 0]):=ZZ (HA1.out.other 2 _ (by omega))
 obtain⟨e2,f2⟩:=HE1.out.cell 2
 have HB2:Hid (Below w.heap.size w (W1.setCell ⟨w.heap.size+1,2,none⟩ (.int .i64 z))):=ZZ (HB1.out.setCell (Nat.le_succ _) _)
 go_upto_region 5 with fail
 obtain⟨W3,hW3⟩:∃ W3,W3=W1.setCell ⟨w.heap.size+1,2,none⟩ (.int .i64 z):=⟨_,rfl⟩
 rw[<-hW3] at HE2 HA2 HB2 ⊢
 clear hW3 e2 f2 HE1 HA1 HB1 HR1
 obtain⟨x0,g0⟩:=HE2.out.cell 0
 obtain⟨x1,g1⟩:=HE2.out.cell 1
 obtain⟨x2,g2⟩:=HE2.out.cell 2
 obtain⟨y0,m0⟩:=HA2.out.cell 0
 obtain⟨y1,m1⟩:=HA2.out.cell 1
 obtain⟨y2,m2⟩:=HA2.out.cell 2
 have hne1:¬ (w.heap.size=w.heap.size+1):=by omega
 have hne2:¬ (w.heap.size+1=w.heap.size):=by omega
 have hbs:=Zwt HB2.out.drew w.heap.size zL (.int .i64 x) (.int .i64 y) (.int .i64 z)
 have HBS:=ZZ hbs
 clear hbs HB2 HA2 HE2
 go_region
 all_goals
  go_wp2
  refine bodyPost_ret (v:=.tuple #[.agg #[.int .i64 x,.int .i64 y,.int .i64 z],.slice xa l2.length xc,.bool ok]) (by simp[results,Tryz.results202,go_sem,y0,y1,y2,HK1.out]) rfl ?_
  exact⟨⟨x,y,z⟩,_,l2,rfl,HXI.out,HCR.out,HSO.out,HBS.out⟩
def ZxW (w:World) (TL:Option (List Ent)) (e:Ending) (w':World):Prop:=
 ∃ vt t,e=.returned (.tuple #[vt,.bool TL.isSome])∧Zbh w' w.heap.size vt t∧(∀ e ∈ t,ZlY e)∧(∀ t',TL=some t'->t=t')∧Below w.heap.size w w'
def ZyK (v6 v7:Value):Nat:=
 match v7 with
 | .bool true=>(match v6 with
  | .slice _ n _=>n+1
  | _=>0)
 | _=>0
theorem Zsv {b:List UInt8} {y:Ent × List UInt8} (h:ZkI b=some y):y.2.length+1<=b.length:=by
 unfold ZkI at h
 rw[ZjW] at h
 split at h
 ·cases h
 ·rename_i ns l hg
  split at hg
  ·cases hg
  ·rename_i h1
   split at hg
   ·cases hg
   ·injection hg with hg
    injection hg with _ hl
    split at h
    ·cases h
    ·rename_i h3
     injection h with h
     rw[<-h]
     have h4:=Zci l
     show(l.drop _).length+1<=_
     rw[List.length_drop]
     have h5:l.length<=b.length:=by
      rw[<-hl,List.length_drop,List.length_drop]
      omega
     omega
theorem Zwu (w:World) (x y:Obj):((w.alloc x).alloc y).heap[w.heap.size]?=some x∧((w.alloc x).alloc y).heap[w.heap.size+1]?=some y:=by
 refine⟨(Below.heap_alloc _ _ _ (by simp)).trans (heap_alloc_new w x),?_⟩
 have:=heap_alloc_new (w.alloc x) y
 simpa using this
theorem ZjY {b:List UInt8} {ns:List Nat} {l:List UInt8} (h:ZbY 1 b=some (ns,l)):(Zab b).2≠0∧ns=[(Zab b).1]∧l=b.drop (Zab b).2:=by
 rw[ZgO] at h
 split at h
 ·cases h
 ·rename_i h1
  injection h with h
  injection h with h2 h3
  exact⟨h1,h2.symm,h3.symm⟩
theorem ZjZ {b:List UInt8} (h:ZbY 1 b=none):(Zab b).2=0:=by
 rw[ZgO] at h
 split at h
 ·assumption
 ·cases h
theorem Zbh.butD {w w':World} {B R T:Nat} {v:Value} {l:List Ent} (h:Zbh w B v l) (hb:But R T w w') (hn':∀ b,v.ownBlock=some b->b≠R∧b≠T):Zbh w' B v l:=by
 rcases h.row with ⟨rfl,rfl⟩ | ⟨g,cap,cur,rfl,hBg,hlt,hg,hn,hm,hs,hc⟩
 ·exact Zbh.nil _ _
 ·have:=hn' g rfl
  exact Zbh.ofRow rfl hBg ((hb.block g hlt this.1 this.2).trans hg) hn hm hs hc
theorem Zmw (v:Value) (b:List UInt8) (w:World) (hr:Rd w v b) (hlim:b.length<=100000):
 Calls Tryz.prog 165 #[v] w fun e w'=>ZxW w (Zeh b) e w':=by
 obtain⟨W0,hW0⟩:∃ W0,W0=(w.alloc (.cells #[.int .i64 0] 3)).alloc (.cells #[.pointer (some ⟨w.heap.size,0,none⟩)] 208):=⟨_,rfl⟩
 have h2:=Zwu w (.cells #[.int .i64 0] 3) (.cells #[.pointer (some ⟨w.heap.size,0,none⟩)] 208)
 rw[<-hW0] at h2
 obtain⟨hA,hC⟩:=h2
 have HB0:Hid (Below w.heap.size w W0):=ZZ (by rw[hW0];exact((Below.refl _ _).alloc zL _).alloc (by simp) _)
 have HGN:=ZZ (ZcH (w.heap.size+1) [(w.heap.size,0)] v b W0 (hr.below HB0.out zL) (fun p hp=>by
  rw[List.mem_singleton.1 hp]
  exact⟨⟨⟨0,cell_of_row W0 w.heap.size 0 _ _ _ hA⟩,frozen_of_row W0 w.heap.size 0 _ _ hA⟩,by simp⟩) (by simp) hC 1 rfl)
 have HSA:Hid (∀ n:Nat,(W0.setCell ⟨w.heap.size,0,none⟩ (.int .i64 (n:Int))).cell? ⟨w.heap.size,0,none⟩=some (.int .i64 (n:Int))):=ZZ (fun n=>World.cell?_setCell_same _ _ _ (cell_of_row W0 w.heap.size 0 _ _ _ hA))
 have HSB:Hid (∀ ns,Below w.heap.size w (ZbK W0 ([(w.heap.size,0)].take (List.length ns)) ns)):=ZZ (fun ns=>ZdD W0 _ ns _ w (fun p hp=>by
  have:=List.mem_of_mem_take hp
  rw[List.mem_singleton.1 this]
  exact Nat.le_refl _) HB0.out)
 have HGE:=ZZ (fun v1 l W h=>Zoh v1 l W h)
 have HTP:=ZZ (Zns (b:=b))
 have HTN:Hid ((Zab b).2=0->Zeh b=none):=ZZ (fun h=>by unfold Zeh;rw[if_pos (.inl h)])
 have HG1:=ZZ (fun ns l h=>ZjY (b:=b) (ns:=ns) (l:=l) h)
 have HG0:=ZZ (fun h=>ZjZ (b:=b) h)
 have hd:=ZbQ b
 have hdn:(Zab b).1<4611686018427387904:=by
  rcases Zau b with h | h
  ·rw[h];decide
  ·exact h.1
 have HLEN:Hid ([(w.heap.size,0)].length=1):=ZZ rfl
 rw[HLEN.out] at HGN
 generalize ZbY 1 b=GL at *
 obtain⟨TL,hTL⟩:∃ TL,TL=Zeh b:=⟨_,rfl⟩
 rw[<-hTL] at HTP HTN ⊢
 clear hTL
 have HRW:=ZZ hr
 obtain⟨va,vc,hv⟩:∃ a c,v=.slice a b.length c:=by obtain⟨a,c,h,-⟩:=hr;exact⟨a,c,h⟩
 subst hv
 clear hr hA hC HLEN
 go_enter Tryz.func165,Tryz.ntmps165
 go_wp2_with fail
 rw[<-hW0]
 refine HGN.out.mono ?_
 rintro e W1 ⟨v1,l,ns,rfl,hr1,hn1,hs1,hlt1,hle1,hal1⟩
 have HB1:Hid (Below w.heap.size w W1):=ZZ ((HSB.out ns).trans (hal1.below _))
 have HV1:=ZZ hr1
 obtain⟨a1,c1,hv1⟩:∃ a c,v1=.slice a l.length c:=by obtain⟨a,c,h,-⟩:=hr1 W1 (HRW.out.below HB1.out zL);exact⟨a,c,h⟩
 subst hv1
 clear HGN HSB HB0 hW0
 cases GL with
 | none=>
  have HF:=ZZ (HTN.out (HG0.out rfl))
  have hl0:=hn1 rfl
  subst hl0
  clear hn1 hs1 hlt1 hle1 hal1 HTP HTN HG0 HG1
  show _
  go_wp2
  go_loopw[4,6,7] (fun v4 v6 v7 wr=>v4=.slice none 0 0∧v7=.bool false∧Hid (Below w.heap.size w wr)) (fun _ v6 v7 _=>ZyK v6 v7)
  case atStart=>exact⟨rfl,rfl,HB1⟩
  case round=>
   obtain⟨rfl,rfl,hB⟩:=hrel
   go_wp2
   go_ret2
   rw[HF.out]
   exact⟨_,[],rfl,Zbh.nil _ _,(fun r h=>by simp at h),(fun t h=>by cases h),hB.out⟩
 | some gp=>
  have:=hs1 gp rfl
  subst this
  obtain⟨g1,g2,g3⟩:=HG1.out _ _ rfl
  subst g2
  have HFT:=ZZ (HTP.out g1)
  rw[<-g3] at HFT
  have hll:l.length<=b.length:=by rw[g3,List.length_drop];omega
  have hcell:W1.cell? ⟨w.heap.size,0,none⟩=some (.int .i64 ((Zab b).1:Int)):=by
   rw[hal1.cell]
   exact HSA.out _
  have HCELL:=ZZ hcell
  have hlt0:w.heap.size<W1.heap.size:=World.block_lt_of_cell? W1 ⟨w.heap.size,0,none⟩ hcell
  generalize (Zab b).1=many at *
  clear hn1 hs1 hlt1 hle1 hal1 HTP HTN HG0 HG1 g1 g3 hd HSA hcell
  obtain⟨RE,hRE⟩:∃ RE,RE=ZdI many l:=⟨_,rfl⟩
  rw[<-hRE] at HFT
  have HRE0:Hid (RE=(ZdI (many-0) l).map (fun r=>([]++r.1,r.2))):=ZZ (by
   rw[hRE,Nat.sub_zero]
   cases ZdI many l <;> rfl)
  clear hRE
  go_wp2
  go_loopw[4,6,7] (fun v4 v6 v7 wr=>∃ (t:List Ent) (l2:List UInt8) (a2:Option Addr) (c2:Nat) (th:Bool),v6=.slice a2 l2.length c2∧v7=.bool th∧t.length<=b.length+1∧Hid (th=true->t.length+l2.length<=b.length∧t.length<=many)∧Hid (Zbh wr W1.heap.size v4 t)∧Hid (∀ e ∈ t,ZlY e)∧Hid (∀ W,Rd W (.slice va b.length vc) b->Rd W (.slice a2 l2.length c2) l2)∧Hid (th=true->RE=(ZdI (many-t.length) l2).map (fun r=>(t++r.1,r.2)))∧Hid (th=false->RE=none)∧Hid (Below W1.heap.size W1 wr)) (fun _ v6 v7 _=>ZyK v6 v7)
  case atStart=>exact⟨[],l,a1,c1,true,rfl,rfl,by simp,ZZ (fun _=>⟨by simp;omega,Nat.zero_le _⟩),ZZ (Zbh.nil _ _),ZZ (fun e h=>by simp at h),HV1,ZZ (fun _=>HRE0.out),ZZ (fun h=>by cases h),Below.refl _ _⟩
  case round=>
   clear HRE0 HV1
   obtain⟨t,l2,a2,c2,th,rfl,rfl,hlen,hL,hO,hI,hV,hT,hN,hB⟩:=hrel
   have hR:Hid (Rd wr (.slice a2 l2.length c2) l2):=ZZ (hV.out wr ((HRW.out.below HB1.out zL).below hB.out zL))
   obtain⟨oa,oc,hov⟩:=hO.out.shape
   subst hov
   have hcw:wr.cell? ⟨w.heap.size,0,none⟩=some (.int .i64 (many:Int)):=(hB.out.cell (p:=⟨w.heap.size,0,none⟩) hlt0).trans HCELL.out
   cases th with
   | false=>
    have HF:Hid (TL=none):=ZZ (by rw[HFT.out,hN.out rfl];rfl)
    go_wp2
    go_ret2
    rw[HF.out]
    exact⟨_,t,rfl,hO.out.mono HB1.out.size,hI.out,(fun t h=>by cases h),HB1.out.trans (hB.out.mono HB1.out.size)⟩
   | true=>
    obtain⟨hlen2,htm⟩:=hL.out rfl
    by_cases hlt:t.length<many
    case neg=>
     have hni:¬ (t.length:Int)<(many:Int):=by omega
     have HT2:Hid (RE=some (t,l2)):=ZZ (by
      rw[hT.out rfl,show many-t.length=0 by omega]
      simp[ZdI])
     have HTL:Hid (TL=if l2=[] then some t else none):=ZZ (by rw[HFT.out,HT2.out];rfl)
     by_cases hl2:l2.length=0
     ·have HF:Hid (TL=some t):=ZZ (by rw[HTL.out,if_pos (List.eq_nil_of_length_eq_zero hl2)])
      have hbe:((l2.length:Int) == 0)=true:=by rw[beq_iff_eq];omega
      clear hl2
      go_wp2
      go_ret2
      rw[HF.out]
      exact⟨_,t,rfl,hO.out.mono HB1.out.size,hI.out,(fun t' h=>by injection h),HB1.out.trans (hB.out.mono HB1.out.size)⟩
     ·have HF:Hid (TL=none):=ZZ (by
       rw[HTL.out,if_neg (fun e=>hl2 (by rw[e];rfl))])
      have hbe:((l2.length:Int) == 0)=false:=beq_eq_false_iff_ne.2 (by omega)
      clear hl2
      go_wp2
      go_ret2
      rw[HF.out]
      exact⟨_,t,rfl,hO.out.mono HB1.out.size,hI.out,(fun t' h=>by cases h),HB1.out.trans (hB.out.mono HB1.out.size)⟩
    have hti:(t.length:Int)<(many:Int):=by omega
    have hsub:many-t.length=(many-(t.length+1))+1:=by omega
    have HT1:Hid (RE=((ZkI l2).bind (fun y=>(ZdI (many-(t.length+1)) y.2).map (fun r=>(y.1::r.1,r.2)))).map (fun r=>(t++r.1,r.2))):=ZZ (by
     rw[hT.out rfl,hsub,ZpX])
    have HLS:=ZZ (fun y h=>Zsv (b:=l2) (y:=y) h)
    have HGQ:=ZZ (HGE.out _ l2 (wr.alloc (.cells #[.int .i64 0,.int .i64 0,.int .i64 0] 85)) (hR.out.below ((Below.refl _ _).alloc zL _) zL))
    have HBA:Hid (Below W1.heap.size W1 (wr.alloc (.cells #[.int .i64 0,.int .i64 0,.int .i64 0] 85))):=ZZ (hB.out.alloc hB.out.size _)
    have HEA:Hid (Be (wr.alloc (.cells #[.int .i64 0,.int .i64 0,.int .i64 0] 85)) wr.heap.size #[.int .i64 0,.int .i64 0,.int .i64 0]):=ZZ (heap_alloc_new wr _)
    have HOA:Hid (Zbh (wr.alloc (.cells #[.int .i64 0,.int .i64 0,.int .i64 0] 85)) W1.heap.size (.slice oa t.length oc) t):=ZZ (hO.out.below ((Below.refl _ _).alloc zL _) zL)
    have HOB:Hid (∀ k,(Value.slice oa t.length oc).ownBlock=some k->k<wr.heap.size):=ZZ (fun k hk=>(World.ownsRow.lt hO.out k hk).2)
    obtain⟨SS,hSS⟩:∃ SS,SS=ZkI l2:=⟨_,rfl⟩
    unfold Zzn at HGQ
    rw[<-hSS] at HT1 HLS HGQ
    have hszr:=hB.out.size
    clear hSS hT hN hL hR hO hB hsub
    go_wp2_with fail
    refine HGQ.out.mono ?_
    rintro e W2 ⟨x,v2,l3,rfl,hxi,hr2,hs2,hb2⟩
    have HE2:=ZZ (HEA.out.below hb2 zL)
    have HB2:=ZZ (HBA.out.trans (hb2.mono HBA.out.size))
    have HO2:=ZZ (HOA.out.below hb2 zL)
    have HXI:=ZZ hxi
    have HV2:=ZZ (fun W h=>hr2 W (hV.out W h))
    obtain⟨a3,c3,hv2⟩:∃ a c,v2=.slice a l3.length c:=by obtain⟨a,c,h,-⟩:=HV2.out W1 (HRW.out.below HB1.out zL);exact⟨a,c,h⟩
    subst hv2
    obtain⟨xp,xq,xr⟩:=x
    obtain⟨e0,f0⟩:=HE2.out.cell 0
    obtain⟨e1,f1⟩:=HE2.out.cell 1
    obtain⟨e2,f2⟩:=HE2.out.cell 2
    obtain⟨QB,hQB⟩:∃ QB,QB=wr.heap.size:=⟨_,rfl⟩
    rw[<-hQB] at HE2 HOB e0 e1 e2 f0 f1 f2 hszr ⊢
    clear hQB
    obtain⟨W3,hW3⟩:∃ W3,W3=((W2.setCell ⟨QB,0,none⟩ (.int .i64 xp)).setCell ⟨QB,1,none⟩ (.int .i64 xq)).setCell ⟨QB,2,none⟩ (.int .i64 xr):=⟨_,rfl⟩
    have HE3:Hid (Be W3 QB #[.int .i64 xp,.int .i64 xq,.int .i64 xr]):=ZZ (by rw[hW3];exact((HE2.out.set 0 _).set 1 _).set 2 _)
    have HBT:Hid (But QB QB W2 W3):=ZZ (by rw[hW3];exact(((But.refl _ _ _).set _ _ (.inl rfl) _).set _ _ (.inl rfl) _).set _ _ (.inl rfl) _)
    have HO3:Hid (Zbh W3 W1.heap.size (.slice oa t.length oc) t):=ZZ (HO2.out.butD HBT.out (fun k hk=>by have:=HOB.out k hk;omega))
    have HB3:=ZZ (Zcm HB2.out HBT.out HB2.out.size hszr hszr)
    have hs3:W1.heap.size<=W3.heap.size:=HB3.out.size
    unfold ZrG
    dsimp only
    go_upto_region 7 with fail
    rw[<-hW3]
    obtain⟨x0,-⟩:=HE3.out.cell 0
    obtain⟨x1,-⟩:=HE3.out.cell 1
    obtain⟨x2,-⟩:=HE3.out.cell 2
    clear hW3 e0 e1 e2 f0 f1 f2 hxi hr2 hb2 HE2 HB2 HO2 HGQ HBA HEA HOA HOB HBT
    go_wp2_with(at_builtin;refine Zho _ rfl _ _ rfl W1.heap.size _ t rfl HO3.out ⟨xp,xq,xr⟩ rfl (by omega) hs3 ?_)
    intro v5 W5 ho5 hb5
    have HO5:=ZZ ho5
    have HB5:=ZZ (HB3.out.trans hb5)
    have HI5:Hid (∀ e ∈ t++[(⟨xp,xq,xr⟩:Ent)],ZlY e):=ZZ (fun e he=>by
     rcases List.mem_append.1 he with h | h
     ·exact hI.out e h
     ·rw[List.mem_singleton.1 h];exact HXI.out)
    clear ho5 hb5
    cases SS with
    | none=>
     have HF:Hid (RE=none):=ZZ (by rw[HT1.out];rfl)
     go_wp2
     go_roundw
     case rel=>exact⟨t++[⟨xp,xq,xr⟩],l3,a3,c3,false,rfl,rfl,by simp;omega,ZZ (fun h=>by cases h),HO5,HI5,HV2,ZZ (fun h=>by cases h),ZZ (fun _=>HF.out),HB5⟩
     case measure=>show 0<l2.length+1;omega
    | some y=>
     have hy:=hs2 y rfl
     subst hy
     have hless:=HLS.out _ rfl
     dsimp only at hless
     have HF:Hid (RE=(ZdI (many-(t++[(⟨xp,xq,xr⟩:Ent)]).length) l3).map (fun r=>((t++[⟨xp,xq,xr⟩])++r.1,r.2))):=ZZ (by
      rw[HT1.out,List.length_append,List.length_singleton,Option.bind_some]
      cases ZdI (many-(t.length+1)) l3 with
      | none=>rfl
      | some r=>simp)
     go_wp2
     go_roundw
     case rel=>exact⟨t++[⟨xp,xq,xr⟩],l3,a3,c3,true,rfl,rfl,by simp;omega,ZZ (fun _=>⟨by simp;omega,by simp;omega⟩),HO5,HI5,HV2,ZZ (fun _=>HF.out),ZZ (fun h=>by cases h),HB5⟩
     case measure=>show l3.length+1<l2.length+1;omega
theorem ZdE:Zaf []=(0,0):=by
 rcases Zby [] with h | h
 ·exact h
 ·have h1:=h.2.1
  have h2:=h.2.2.1
  simp at h2
  omega
theorem Zfh:Zab []=(0,0):=by
 rcases Zau [] with h | h
 ·exact h
 ·have h1:=h.2.1
  have h2:=h.2.2.1
  simp at h2
  omega
theorem Zls {l:List UInt8} (h:(Zab l).2=0):(Zab l).1=0:=by
 rcases Zau l with e | e
 ·rw[e]
 ·omega
theorem Zlt {l:List UInt8} (h:(Zaf l).2=0):zag (Zaf l).1=0:=by
 rcases Zby l with e | e
 ·rw[e];rfl
 ·omega
theorem Zka (l:List UInt8):behind 0 l=[]:=rfl
theorem ZaW {d:Nat} (h:d≠0) (l:List UInt8):behind d l=l.drop d:=if_neg h
theorem ZbF (d:Nat) (l:List UInt8):(behind d l).length<=l.length:=by
 unfold behind
 split
 ·simp
 ·simp
theorem Zoi (l:List UInt8):
 ((Zaf (behind (Zaf (behind (Zab l).2 l)).2 (behind (Zab l).2 l))).2=0->Zay l=(⟨0,0,0⟩,0))∧
 ((Zaf (behind (Zaf (behind (Zab l).2 l)).2 (behind (Zab l).2 l))).2≠0->Zay l=if ZcS ⟨((Zab l).1:Int),zag (Zaf (behind (Zab l).2 l)).1,zag (Zaf (behind (Zaf (behind (Zab l).2 l)).2 (behind (Zab l).2 l))).1⟩ then(⟨((Zab l).1:Int),zag (Zaf (behind (Zab l).2 l)).1,zag (Zaf (behind (Zaf (behind (Zab l).2 l)).2 (behind (Zab l).2 l))).1⟩,l.length-(behind (Zaf (behind (Zaf (behind (Zab l).2 l)).2 (behind (Zab l).2 l))).2 (behind (Zaf (behind (Zab l).2 l)).2 (behind (Zab l).2 l))).length) else(⟨0,0,0⟩,0)):=by
 by_cases hi:(Zab l).2=0
 ·have e:behind (Zab l).2 l=[]:=by rw[hi];rfl
  rw[e,ZdE]
  simp only [Zka,ZdE,ne_eq,not_true_eq_false,false_imp_iff,and_true,true_imp_iff]
  unfold Zay
  rw[if_pos (.inl hi)]
 ·have e:behind (Zab l).2 l=l.drop (Zab l).2:=ZaW hi l
  rw[e]
  by_cases hj:(Zaf (l.drop (Zab l).2)).2=0
  ·have e2:behind (Zaf (l.drop (Zab l).2)).2 (l.drop (Zab l).2)=[]:=by rw[hj];rfl
   rw[e2,ZdE]
   simp only [ne_eq,not_true_eq_false,false_imp_iff,and_true,true_imp_iff]
   unfold Zay
   rw[if_pos (.inr (.inl hj))]
  ·have e2:behind (Zaf (l.drop (Zab l).2)).2 (l.drop (Zab l).2)=l.drop ((Zab l).2+(Zaf (l.drop (Zab l).2)).2):=by rw[ZaW hj,List.drop_drop]
   rw[e2]
   refine⟨fun hk=>?_,fun hk=>?_⟩
   ·unfold Zay
    rw[if_pos (.inr (.inr (.inl hk)))]
   ·have h1:=ZbQ l
    have h2:=Zci (l.drop (Zab l).2)
    have h3:=Zci (l.drop ((Zab l).2+(Zaf (l.drop (Zab l).2)).2))
    simp only [List.length_drop] at h2 h3
    rw[ZaW hk,List.drop_drop,List.length_drop]
    unfold Zay
    generalize (Zaf (l.drop ((Zab l).2+(Zaf (l.drop (Zab l).2)).2))).2=k at *
    generalize zag (Zaf (l.drop ((Zab l).2+(Zaf (l.drop (Zab l).2)).2))).1=y at *
    generalize (Zaf (l.drop (Zab l).2)).2=j at *
    generalize zag (Zaf (l.drop (Zab l).2)).1=x at *
    generalize (Zab l).2=i at *
    generalize (Zab l).1=c at *
    by_cases hf:ZcS ⟨(c:Int),x,y⟩
    ·rw[if_neg (by rintro(h | h | h | h);exact hi h;exact hj h;exact hk h;exact h hf),if_pos hf]
     congr 1
     omega
    ·rw[if_pos (.inr (.inr (.inr hf))),if_neg hf]
structure GIn (w W:World) (c a b:Int) (vb:Value) (m:List UInt8):Prop where
 res:Bo W w.heap.size #[.int .i64 0,.int .i64 0,.int .i64 0]
 box:Bo W (w.heap.size+1) #[.int .i64 c,.int .i64 a,.int .i64 b]
 cap:Bb W (w.heap.size+1+1) vb
 rd:Rd W vb m
 below:Below w.heap.size w W
theorem GIn.next {w W W':World} {c a b:Int} {vb v':Value} {m m':List UInt8} (h:GIn w W c a b vb m) (hb:But (w.heap.size+1+1) (w.heap.size+1+1) W W') (hc:Bb W' (w.heap.size+1+1) v') (hr:Rd W' v' m'):GIn w W' c a b v' m':=by
 have hl:=h.cap.lt
 exact⟨(hb.block _ (by omega) (by omega) (by omega)).trans h.res,(hb.block _ (by omega) (by omega) (by omega)).trans h.box,hc,hr,Zcm h.below hb (by omega) (by omega) (by omega)⟩
theorem Rd.setInt {w:World} {v x:Value} {m:List UInt8} (h:Rd w v m) {b j:Nat} {n:Int} (hb:w.cell? ⟨b,j,none⟩=some (.int .i64 n)):Rd (w.setCell ⟨b,j,none⟩ x) v m:=by
 obtain⟨va,vc,h1,h2,h3,hn,h4⟩:=h
 refine⟨va,vc,h1,h2,h3,hn,?_⟩
 rcases h4 with h4 | ⟨c,off,h5,h6⟩
 ·exact .inl h4
 ·refine .inr ⟨c,off,h5,fun k hk=>?_⟩
  have hc:=h6 k hk
  rw[World.cell?_setCell_other w ⟨b,j,none⟩ ⟨c,off+k,none⟩ x (fun e=>by
   rw[e,hc] at hb
   simp at hb)]
  exact hc
theorem GIn.store {w W:World} {c a b c' a' b':Int} {vb:Value} {m:List UInt8} (h:GIn w W c a b vb m) (j:Nat) (x:Int) {n:Int} (hn:(#[Value.int .i64 c,.int .i64 a,.int .i64 b]:Array Value)[j]?=some (.int .i64 n)) (he:(#[Value.int .i64 c,.int .i64 a,.int .i64 b]:Array Value).setIfInBounds j (.int .i64 x)=#[.int .i64 c',.int .i64 a',.int .i64 b']):
 GIn w (W.setCell ⟨w.heap.size+1,j,none⟩ (.int .i64 x)) c' a' b' vb m:=by
 have hl:=h.cap.lt
 refine⟨(Below.heap_setCell _ _ _ _ (by show w.heap.size≠w.heap.size+1;omega)).trans h.res,?_,(Below.heap_setCell _ _ _ _ (by show w.heap.size+1+1≠w.heap.size+1;omega)).trans h.cap,h.rd.setInt (((h.box.cell j).1).trans hn),h.below.setCell (by show w.heap.size<=w.heap.size+1;omega) _⟩
 have:=heap_setCell_same W (w.heap.size+1) j _ _ (.int .i64 x) h.box
 unfold Bo
 rw[<-he]
 simpa using this
theorem GIn.more {w W W':World} {c a b:Int} {vb:Value} {m:List UInt8} (h:GIn w W c a b vb m) (hb:Below W.heap.size W W'):GIn w W' c a b vb m:=by
 have hl:=h.cap.lt
 exact⟨(hb.block _ (by omega)).trans h.res,(hb.block _ (by omega)).trans h.box,(hb.block _ (by omega)).trans h.cap,h.rd.below hb zL,h.below.trans (hb.mono h.below.size)⟩
theorem Zfr (W:World) (b:Nat) (x0 x1 x2:Value) (c i:Nat) (h:b≠c):(((W.setCell ⟨b,0,none⟩ x0).setCell ⟨b,1,none⟩ x1).setCell ⟨b,2,none⟩ x2).drew.cell? ⟨c,i,none⟩=W.cell? ⟨c,i,none⟩:=by
 show(((W.setCell ⟨b,0,none⟩ x0).setCell ⟨b,1,none⟩ x1).setCell ⟨b,2,none⟩ x2).cell? ⟨c,i,none⟩=_
 rw[World.cell?_setCell_far _ _ _ _ h,World.cell?_setCell_far _ _ _ _ h,World.cell?_setCell_far _ _ _ _ h]
theorem ZuR (v:Value) (l:List UInt8) (w:World) (hr:Rd w v l) (hlim:l.length<=1000000):
 Calls Tryz.prog 209 #[v] w fun e w'=>Zug w l e w':=by
 obtain⟨va,vc,rfl⟩:∃ va vc,v=.slice va l.length vc:=by
  obtain⟨va,vc,rfl,_⟩:=hr
  exact⟨va,vc,rfl⟩
 have HR:=ZZ hr
 clear hr
 have HN1:Hid (∀ W vb,Bb W (w.heap.size+1+1) vb->Rd W vb l->Calls Tryz.prog 218 #[.func (.func 168) #[] #[],.pointer (some ⟨w.heap.size+1+1,0,none⟩)] W fun e w'=>∃ v',e=.returned (.tuple #[.int .i64 ((Zab l).1:Nat),.bool (decide ((Zab l).2≠0))])∧Bb w' (w.heap.size+1+1) v'∧Rd w' v' (behind (Zab l).2 l)∧But (w.heap.size+1+1) (w.heap.size+1+1) W w'):=fun W vb h1 h2=>ZqV _ _ _ _ _ W h1 h2 (ZbQ l) (fun h=>by rw[Zls h];rfl) (ZeZ vb l W h2)
 have HNS:Hid (∀ m W vb,Bb W (w.heap.size+1+1) vb->Rd W vb m->Calls Tryz.prog 218 #[.func (.func 201) #[] #[],.pointer (some ⟨w.heap.size+1+1,0,none⟩)] W fun e w'=>∃ v',e=.returned (.tuple #[.int .i64 (zag (Zaf m).1),.bool (decide ((Zaf m).2≠0))])∧Bb w' (w.heap.size+1+1) v'∧Rd w' v' (behind (Zaf m).2 m)∧But (w.heap.size+1+1) (w.heap.size+1+1) W w'):=fun m W vb h1 h2=>ZjV _ _ _ _ _ W h1 h2 (Zci m) Zlt (Zcr vb m W h2)
 have HG:=ZZ (Zoi l)
 have HLE1:=ZZ (ZbF (Zab l).2 l)
 obtain⟨m1,hm1⟩:∃ m1,m1=behind (Zab l).2 l:=⟨_,rfl⟩
 rw[<-hm1] at HG HN1 HLE1
 have HS1:=ZZ (HNS.out m1)
 have HLE2:=ZZ (ZbF (Zaf m1).2 m1)
 obtain⟨m2,hm2⟩:∃ m2,m2=behind (Zaf m1).2 m1:=⟨_,rfl⟩
 rw[<-hm2] at HG HS1 HLE2
 have HS2:=ZZ (HNS.out m2)
 have HLE3:=ZZ (ZbF (Zaf m2).2 m2)
 obtain⟨m3,hm3⟩:∃ m3,m3=behind (Zaf m2).2 m2:=⟨_,rfl⟩
 rw[<-hm3] at HG HS2 HLE3
 have hl3:m3.length<=l.length:=Nat.le_trans HLE3.out (Nat.le_trans HLE2.out HLE1.out)
 clear hm1 hm2 hm3 HNS HLE1 HLE2 HLE3
 unfold Zug
 generalize Zay l=R at *
 generalize (Zab l).1=c at *
 generalize (Zab l).2=i at *
 generalize zag (Zaf m1).1=x at *
 generalize (Zaf m1).2=j at *
 generalize zag (Zaf m2).1=y at *
 generalize (Zaf m2).2=k at *
 obtain⟨C,hC⟩:∃ C:Int,C=(c:Int):=⟨_,rfl⟩
 rw[<-hC] at HN1 HG
 have HF:Hid (∀ W,Calls Tryz.prog 80 #[.agg #[.int .i64 C,.int .i64 x,.int .i64 y]] W fun e w'=>e=.returned (.bool (decide (ZcS ⟨C,x,y⟩)))∧Below W.heap.size W w'):=fun W=>Zmh ⟨C,x,y⟩ W
 have HNU:=ZZ (fun W=>ZjU va l.length vc W)
 have HST:Hid (∀ W X Y,X=.cells #[.int .i64 0,.int .i64 0,.int .i64 0] 52->Y=.cells #[.int .i64 0,.int .i64 0,.int .i64 0] 52->W=((w.alloc X).alloc Y).alloc (.cells #[.slice va l.length vc] 53)->GIn w W 0 0 0 (.slice va l.length vc) l):=fun W X Y hX hY hW=>by
  subst hX hY hW
  have b1:Below w.heap.size w (((w.alloc (.cells #[.int .i64 0,.int .i64 0,.int .i64 0] 52)).alloc (.cells #[.int .i64 0,.int .i64 0,.int .i64 0] 52)).alloc (.cells #[.slice va l.length vc] 53)):=(((Below.refl _ _).alloc zL _).alloc (by simp) _).alloc (by simp;omega) _
  refine⟨?_,?_,?_,HR.out.below b1 zL,b1⟩
  ·exact(Below.heap_alloc _ _ _ (by simp;omega)).trans ((Below.heap_alloc _ _ _ (by simp)).trans (heap_alloc_new w _))
  ·exact(Below.heap_alloc _ _ _ (by simp)).trans (Zpq w _ _)
  ·have h:=heap_alloc_new ((w.alloc (.cells #[.int .i64 0,.int .i64 0,.int .i64 0] 52)).alloc (.cells #[.int .i64 0,.int .i64 0,.int .i64 0] 52)) (.cells #[.slice va l.length vc] 53)
   have e:((w.alloc (.cells #[.int .i64 0,.int .i64 0,.int .i64 0] 52)).alloc (.cells #[.int .i64 0,.int .i64 0,.int .i64 0] 52)).heap.size=w.heap.size+1+1:=by simp
   rw[e] at h
   exact h
 clear hC
 go_enter Tryz.func209,Tryz.ntmps209
 go_wp2_with fail
 refine(HNU.out _).mono ?_
 rintro e W1 ⟨rfl,hw1⟩
 have G1:=ZZ (HST.out W1 _ _ rfl rfl hw1)
 clear hw1 HST HNU
 go_wp2_with fail
 refine(HN1.out _ _ G1.out.cap G1.out.rd).mono ?_
 rintro e W2 ⟨v2,rfl,hb2,hr2,hk2⟩
 have G2:=ZZ (G1.out.next hk2 hb2 hr2)
 obtain⟨p0,f0⟩:=G2.out.box.cell 0
 clear hb2 hr2 hk2 G1 HN1
 have HT2:=ZZ (G2.out.store (c':=C) (a':=0) (b':=0) 0 C rfl rfl)
 go_wp2_with fail
 refine(HS1.out _ _ HT2.out.cap HT2.out.rd).mono ?_
 rintro e W3 ⟨v3,rfl,hb3,hr3,hk3⟩
 have G3:=ZZ (HT2.out.next hk3 hb3 hr3)
 obtain⟨p1,f1⟩:=G3.out.box.cell 1
 clear hb3 hr3 hk3 G2 HT2 HS1 p0 f0
 have HT3:=ZZ (G3.out.store (c':=C) (a':=x) (b':=0) 1 x rfl rfl)
 go_wp2_with fail
 refine(HS2.out _ _ HT3.out.cap HT3.out.rd).mono ?_
 rintro e W4 ⟨v4,rfl,hb4,hr4,hk4⟩
 have G4:=ZZ (HT3.out.next hk4 hb4 hr4)
 obtain⟨p2,f2⟩:=G4.out.box.cell 2
 clear hb4 hr4 hk4 G3 HT3 HS2 p1 f1
 have HT4:=ZZ (G4.out.store (c':=C) (a':=x) (b':=y) 2 y rfl rfl)
 by_cases hk:k=0
 ·have HN:Hid (R=(⟨0,0,0⟩,0)):=HG.out.1 hk
  rw[decide_eq_false (fun h=>h hk)]
  obtain⟨r0,g0⟩:=HT4.out.res.cell 0
  obtain⟨r1,g1⟩:=HT4.out.res.cell 1
  obtain⟨r2,g2⟩:=HT4.out.res.cell 2
  have HBL:=ZZ HT4.out.below
  clear hk G4
  go_wp2
  refine bodyPost_ret (v:=.tuple #[.agg #[.int .i64 0,.int .i64 0,.int .i64 0],.int .i64 0]) (by simp[results,Tryz.results209,go_sem,r0,r1,r2]) rfl ?_
  rw[HN.out]
  exact⟨rfl,((HBL.out.setCell zL _).setCell zL _).setCell zL _⟩
 ·have HN:=ZZ (HG.out.2 hk)
  rw[decide_eq_true hk]
  obtain⟨q0,-⟩:=HT4.out.box.cell 0
  obtain⟨q1,-⟩:=HT4.out.box.cell 1
  obtain⟨q2,-⟩:=HT4.out.box.cell 2
  clear hk HG
  go_wp2_with fail
  refine(HF.out _).mono ?_
  rintro e W5 ⟨rfl,hb5⟩
  have G5:=ZZ (HT4.out.more hb5)
  clear hb5 HT4 G4 q0 q1 q2 p2 f2
  obtain⟨r0,g0⟩:=G5.out.res.cell 0
  obtain⟨r1,g1⟩:=G5.out.res.cell 1
  obtain⟨r2,g2⟩:=G5.out.res.cell 2
  have HBL:=ZZ G5.out.below
  by_cases hf:ZcS ⟨C,x,y⟩
  ·rw[decide_eq_true hf]
   rw[if_pos hf] at HN
   obtain⟨q0,-⟩:=G5.out.box.cell 0
   obtain⟨q1,-⟩:=G5.out.box.cell 1
   obtain⟨q2,-⟩:=G5.out.box.cell 2
   have hc:=G5.out.cap.cell.1
   obtain⟨a4,c4,rfl,-⟩:=G5.out.rd
   have HL:=ZZ (fun W h=>ZqU (w.heap.size+1+1) a4 m3.length c4 W h)
   have hsub:IntKind.i64.wrap ((l.length:Int)-(m3.length:Int))=((l.length-m3.length:Nat):Int):=by rw[IntKind.wrap_i64];omega
   have HSB:=ZZ hsub
   have HK1:=ZZ (⟨q0,q1,q2,hc⟩:W5.drew.cell? ⟨w.heap.size+1,0,none⟩=some (.int .i64 C)∧W5.drew.cell? ⟨w.heap.size+1,1,none⟩=some (.int .i64 x)∧W5.drew.cell? ⟨w.heap.size+1,2,none⟩=some (.int .i64 y)∧W5.drew.cell? ⟨w.heap.size+1+1,0,none⟩=some (.slice a4 m3.length c4))
   have HK2:=ZZ (⟨(Zfr W5 w.heap.size (.int .i64 C) (.int .i64 x) (.int .i64 y) _ _ (by omega)).trans q0,(Zfr W5 w.heap.size (.int .i64 C) (.int .i64 x) (.int .i64 y) _ _ (by omega)).trans q1,(Zfr W5 w.heap.size (.int .i64 C) (.int .i64 x) (.int .i64 y) _ _ (by omega)).trans q2,(Zfr W5 w.heap.size (.int .i64 C) (.int .i64 x) (.int .i64 y) (w.heap.size+1+1) 0 (by omega)).trans hc⟩:_∧_∧_∧_)
   clear hf G5 hsub HF
   go_wp2
   go_region_held(fun w'=>w'.cell? ⟨w.heap.size+1,0,none⟩=some (.int .i64 C)∧w'.cell? ⟨w.heap.size+1,1,none⟩=some (.int .i64 x)∧w'.cell? ⟨w.heap.size+1,2,none⟩=some (.int .i64 y)∧w'.cell? ⟨w.heap.size+1+1,0,none⟩=some (.slice a4 m3.length c4)) (first | exact HK1.out | exact HK2.out)
    (first
     | (go_at_call 219;refine(HL.out _ (by first | exact HK1.out.2.2.2 | exact HK2.out.2.2.2)).mono ?_;rintro e w' ⟨rfl,rfl⟩))
   all_goals
    go_wp2
    refine bodyPost_ret (v:=.tuple #[.agg #[.int .i64 C,.int .i64 x,.int .i64 y],.int .i64 (IntKind.i64.wrap ((l.length:Int)-(m3.length:Int)))]) (by simp[results,Tryz.results209,go_sem,r0,r1,r2]) rfl ?_
    rw[HN.out,HSB.out]
    exact⟨rfl,((((HBL.out.setCell zL _).setCell zL _).setCell zL _)).drew⟩
  ·rw[decide_eq_false hf]
   rw[if_neg hf] at HN
   clear hf G5
   go_wp2
   refine bodyPost_ret (v:=.tuple #[.agg #[.int .i64 0,.int .i64 0,.int .i64 0],.int .i64 0]) (by simp[results,Tryz.results209,go_sem,r0,r1,r2]) rfl ?_
   rw[HN.out]
   exact⟨rfl,((HBL.out.setCell zL _).setCell zL _).setCell zL _⟩
def ZcI (w:World) (r:St × Int) (e:Ending) (w':World):Prop:=
 ∃ vl,e=.returned (.tuple #[.agg #[.int .i64 r.1.kind,vl,.bool r.1.shut,.int .i64 r.1.eng],.int .i64 r.2])∧RdI w' vl r.1.L∧I64 r.1.kind∧I64 r.1.eng∧(∀ b,vl.ownBlock=some b->w.heap.size<=b)∧Below w.heap.size w w'
theorem ZcI.zero {w w':World} (n:Int) (hb:Below w.heap.size w w'):ZcI w (ZeT,n) (.returned (.tuple #[.agg #[.int .i64 0,.slice none 0 0,.bool false,.int .i64 0],.int .i64 n])) w':=
 ⟨_,rfl,RdI.nil _,(Zaj (by decide) (by decide):I64 0),(Zaj (by decide) (by decide):I64 0),fun b hb=>by simp[Value.ownBlock] at hb,hb⟩
theorem Zfi:∀ (a b:Nat) (l:List UInt8),Zdd (a+b) l=(Zdd a l).bind fun x=>(Zdd b (l.drop x.2)).map fun y=>(x.1++y.1,x.2+y.2)
 | 0,b,l=>by
  rw[Nat.zero_add,Zdd]
  simp
 | a+1,b,l=>by
  rw[Nat.add_right_comm,Zdd,Zdd,Zfi a b]
  by_cases h:(Zaf l).2=0
  ·rw[if_pos h,if_pos h]
   rfl
  ·rw[if_neg h,if_neg h]
   cases Zdd a (l.drop (Zaf l).2) with
   | none=>rfl
   | some x=>
    obtain⟨xs,u⟩:=x
    simp only [Option.bind_some,Option.map_some,List.drop_drop]
    cases Zdd b (l.drop ((Zaf l).2+u)) with
    | none=>rfl
    | some y=>simp[Nat.add_assoc]
theorem Zoj (l:List UInt8):Zdd 1 l=if(Zaf l).2=0 then none else some ([zag (Zaf l).1],(Zaf l).2):=by
 rw[Zdd]
 split
 ·rfl
 ·rfl
theorem Zsw {k:Nat} {l:List UInt8} {xs:List Int} {u:Nat} (h:Zdd k l=some (xs,u)) (h0:(Zaf (l.drop u)).2≠0):Zdd (k+1) l=some (xs++[zag (Zaf (l.drop u)).1],u+(Zaf (l.drop u)).2):=by
 rw[Zfi,h]
 simp only [Option.bind_some]
 rw[Zoj,if_neg h0]
 rfl
theorem Zsx {k m:Nat} {l:List UInt8} {xs:List Int} {u:Nat} (h:Zdd k l=some (xs,u)) (h0:(Zaf (l.drop u)).2=0) (hm:k<m):Zdd m l=none:=by
 obtain⟨d,rfl⟩:∃ d,m=k+1+d:=⟨m-(k+1),by omega⟩
 rw[Zfi,Zfi k 1,h]
 simp only [Option.bind_some]
 rw[Zoj,if_pos h0]
 rfl
theorem ZpY (l:List UInt8):
 ((Zab (behind (Zab (behind (Zab l).2 l)).2 (behind (Zab l).2 l))).2=0∨3<(Zab (behind (Zab l).2 l)).1∨128<(Zab (behind (Zab (behind (Zab l).2 l)).2 (behind (Zab l).2 l))).1->ZgW l=(ZeT,3))∧
 (¬ ((Zab (behind (Zab (behind (Zab l).2 l)).2 (behind (Zab l).2 l))).2=0∨3<(Zab (behind (Zab l).2 l)).1∨128<(Zab (behind (Zab (behind (Zab l).2 l)).2 (behind (Zab l).2 l))).1)->
  ZgW l=ZmT (Zab l).1 (Zab (behind (Zab l).2 l)).1 (Zab (behind (Zab (behind (Zab l).2 l)).2 (behind (Zab l).2 l))).1 (behind (Zab (behind (Zab (behind (Zab l).2 l)).2 (behind (Zab l).2 l))).2 (behind (Zab (behind (Zab l).2 l)).2 (behind (Zab l).2 l)))):=by
 by_cases hi:(Zab l).2=0
 ·have e:behind (Zab l).2 l=[]:=by rw[hi];rfl
  rw[e,Zfh]
  simp only [Zka,Zfh]
  refine⟨fun _=>?_,fun h=>absurd (Or.inl trivial) h⟩
  unfold ZgW
  rw[if_pos (.inl hi)]
 ·have e:behind (Zab l).2 l=l.drop (Zab l).2:=ZaW hi l
  rw[e]
  by_cases hj:(Zab (l.drop (Zab l).2)).2=0
  ·have e2:behind (Zab (l.drop (Zab l).2)).2 (l.drop (Zab l).2)=[]:=by rw[hj];rfl
   rw[e2,Zfh]
   refine⟨fun _=>?_,fun h=>absurd (Or.inl rfl) h⟩
   unfold ZgW
   rw[if_pos (.inr (.inl hj))]
  ·have e2:behind (Zab (l.drop (Zab l).2)).2 (l.drop (Zab l).2)=l.drop ((Zab l).2+(Zab (l.drop (Zab l).2)).2):=by rw[ZaW hj,List.drop_drop]
   rw[e2]
   refine⟨fun hb=>?_,fun hb=>?_⟩
   ·unfold ZgW
    rw[if_pos (.inr (.inr hb))]
   ·have hk:(Zab (l.drop ((Zab l).2+(Zab (l.drop (Zab l).2)).2))).2≠0:=fun h=>hb (.inl h)
    unfold ZgW
    rw[if_neg (by rintro(h | h | h);exact hi h;exact hj h;exact hb h),ZaW hk,List.drop_drop]
structure SIn (w W:World) (kd:Int) (vl:Value) (sh:Bool) (g:Int) (vb:Value) (m:List UInt8):Prop where
 res:Bx W w.heap.size #[.int .i64 0,.slice none 0 0,.bool false,.int .i64 0]
 box:Bx W (w.heap.size+1) #[.int .i64 kd,vl,.bool sh,.int .i64 g]
 cap:Bb W (w.heap.size+1+1) vb
 rd:Rd W vb m
 below:Below w.heap.size w W
theorem SIn.next {w W W':World} {kd g:Int} {sh:Bool} {vl vb v':Value} {m m':List UInt8} (h:SIn w W kd vl sh g vb m) (hb:But (w.heap.size+1+1) (w.heap.size+1+1) W W') (hc:Bb W' (w.heap.size+1+1) v') (hr:Rd W' v' m'):SIn w W' kd vl sh g v' m':=by
 have hl:=h.cap.lt
 exact⟨(hb.block _ (by omega) (by omega) (by omega)).trans h.res,(hb.block _ (by omega) (by omega) (by omega)).trans h.box,hc,hr,Zcm h.below hb (by omega) (by omega) (by omega)⟩
theorem SIn.more {w W W':World} {kd g:Int} {sh:Bool} {vl vb:Value} {m:List UInt8} (h:SIn w W kd vl sh g vb m) (hb:Below W.heap.size W W'):SIn w W' kd vl sh g vb m:=by
 have hl:=h.cap.lt
 exact⟨(hb.block _ (by omega)).trans h.res,(hb.block _ (by omega)).trans h.box,(hb.block _ (by omega)).trans h.cap,h.rd.below hb zL,h.below.trans (hb.mono h.below.size)⟩
theorem Rd.setElse {w:World} {v x y:Value} {m:List UInt8} (h:Rd w v m) {b j:Nat} (hb:w.cell? ⟨b,j,none⟩=some y) (hy:∀ n,y≠.int .u8 n):Rd (w.setCell ⟨b,j,none⟩ x) v m:=by
 obtain⟨va,vc,h1,h2,h3,hn,h4⟩:=h
 refine⟨va,vc,h1,h2,h3,hn,?_⟩
 rcases h4 with h4 | ⟨c,off,h5,h6⟩
 ·exact .inl h4
 ·refine .inr ⟨c,off,h5,fun k hk=>?_⟩
  have hc:=h6 k hk
  rw[World.cell?_setCell_other w ⟨b,j,none⟩ ⟨c,off+k,none⟩ x (fun e=>by
   rw[e,hc] at hb
   exact hy _ (Option.some.inj hb).symm)]
  exact hc
theorem SIn.store {w W:World} {kd g kd' g':Int} {sh sh':Bool} {vl vl' vb:Value} {m:List UInt8} (h:SIn w W kd vl sh g vb m) (j:Nat) (x y:Value) (hn:(#[Value.int .i64 kd,vl,.bool sh,.int .i64 g]:Array Value)[j]?=some y) (hy:∀ n,y≠.int .u8 n) (he:(#[Value.int .i64 kd,vl,.bool sh,.int .i64 g]:Array Value).setIfInBounds j x=#[.int .i64 kd',vl',.bool sh',.int .i64 g']):
 SIn w (W.setCell ⟨w.heap.size+1,j,none⟩ x) kd' vl' sh' g' vb m:=by
 have hl:=h.cap.lt
 refine⟨(Below.heap_setCell _ _ _ _ (by show w.heap.size≠w.heap.size+1;omega)).trans h.res,?_,(Below.heap_setCell _ _ _ _ (by show w.heap.size+1+1≠w.heap.size+1;omega)).trans h.cap,h.rd.setElse (((h.box.cell j).1).trans hn) hy,h.below.setCell (by show w.heap.size<=w.heap.size+1;omega) _⟩
 have:=heap_setCell_same W (w.heap.size+1) j _ _ x h.box
 unfold Bx
 rw[<-he]
 simpa using this
structure DIn (w W:World) (kd g:Int) (sh:Bool) (R:List UInt8) (cnt G k:Nat) (vb:Value) (m:List UInt8) (ys:List Int) (th:Bool):Prop where
 sin:SIn w W kd (.slice (some ⟨G,0,none⟩) cnt cnt) sh g vb m
 row:W.heap[G]?=some (.cells (Zak ys).toArray 3 (0,0))
 len:ys.length=cnt
 far:w.heap.size+1+1<G
 st:(th=true∧∃ u,Zdd k R=some (ys.take k,u)∧m=R.drop u)∨(th=false∧Zdd k R=none∧m=[])
theorem Zsy {k:Nat} {R:List UInt8} (h:Zdd k R=none):Zdd (k+1) R=none:=by
 rw[Zfi,h]
 rfl
theorem Zwv (ys:List Int) (k:Nat) (x:Int) (hk:k<ys.length):(ys.set k x).take (k+1)=ys.take k++[x]:=by
 rw[List.take_add_one,List.take_set_of_le zL]
 simp[hk]
theorem DIn.step {w W W':World} {kd g:Int} {sh:Bool} {R:List UInt8} {cnt G k:Nat} {vb v':Value} {m:List UInt8} {ys:List Int} {th:Bool} (h:DIn w W kd g sh R cnt G k vb m ys th) (hk:k<cnt) (hb:But (w.heap.size+1+1) (w.heap.size+1+1) W W') (hc:Bb W' (w.heap.size+1+1) v') (hr:Rd W' v' (behind (Zaf m).2 m)):
 DIn w (W'.setCell ⟨G,k,none⟩ (.int .i64 (zag (Zaf m).1))) kd g sh R cnt G (k+1) v' (behind (Zaf m).2 m) (ys.set k (zag (Zaf m).1)) (decide ((Zaf m).2≠0)):=by
 have hf:=h.far
 have hG:G<W.heap.size:=(Array.getElem?_eq_some_iff.1 h.row).1
 have hrow':W'.heap[G]?=some (.cells (Zak ys).toArray 3 (0,0)):=(hb.block G hG (by omega) (by omega)).trans h.row
 have hS:=h.sin.next hb hc hr
 have hck:W'.cell? ⟨G,k,none⟩=some (.int .i64 (ys.getD k 0)):=by
  rw[cell_of_row W' G k _ _ _ hrow']
  have:=Zbi ys k (by have:=h.len;omega)
  simpa using this
 refine⟨⟨?_,?_,?_,hS.rd.setElse hck (fun n e=>by simp at e),hS.below.setCell (by show w.heap.size<=G;omega) _⟩,?_,by rw[List.length_set];exact h.len,hf,?_⟩
 ·exact(Below.heap_setCell _ _ _ _ (by show w.heap.size≠G;omega)).trans hS.res
 ·exact(Below.heap_setCell _ _ _ _ (by show w.heap.size+1≠G;omega)).trans hS.box
 ·exact(Below.heap_setCell _ _ _ _ (by show w.heap.size+1+1≠G;omega)).trans hS.cap
 ·rw[heap_setCell_same W' G k _ _ _ hrow']
  congr 2
  unfold Zak
  apply Array.ext'
  simp[List.map_set]
 ·have hl:=h.len
  rcases h.st with ⟨rfl,u,h1,rfl⟩ | ⟨rfl,h1,rfl⟩
  ·by_cases hd:(Zaf (R.drop u)).2=0
   ·right
    refine⟨decide_eq_false (fun h=>h hd),Zsx h1 hd (by omega),?_⟩
    rw[hd]
    rfl
   ·left
    refine⟨decide_eq_true hd,u+(Zaf (R.drop u)).2,?_,?_⟩
    ·rw[Zsw h1 hd,Zwv ys k _ (by omega)]
    ·rw[ZaW hd,List.drop_drop]
  ·right
   rw[ZdE]
   exact⟨rfl,Zsy h1,rfl⟩
theorem DIn.own {w W:World} {kd g:Int} {sh:Bool} {R:List UInt8} {cnt G k:Nat} {vb:Value} {m:List UInt8} {ys:List Int} {th:Bool} (h:DIn w W kd g sh R cnt G k vb m ys th) (hc:cnt<=maxLen):Zax W (w.heap.size+1+1+1) (.slice (some ⟨G,0,none⟩) cnt cnt) ys:=by
 have hl:=h.len
 have hf:=h.far
 refine⟨by rw[Zba,Nat.mul_one],.inr ⟨G,cnt,(Zak ys).toArray,by rw[hl],by omega,h.row,by omega,hc,?_,?_⟩⟩
 ·simp[Zba,hl]
 ·rw[List.take_of_length_le]
  simp[Zba]
theorem Zmx (w:World) (n:Nat) (hn:n<=1000000):(Instr.makeSlice 23 (.int .i64 (n:Int)) (.int .i64 (n:Int))).run Tryz.prog w=.ok (.slice (some ⟨w.heap.size,0,none⟩) n n) (w.alloc (.cells (Zak (List.replicate n 0)).toArray 3)):=by
 obtain⟨i0,hi,hz0,hz1,hz2⟩:=info_parts ZlH
 have h:=run_make (P:=Tryz.prog) w 23 3 i0 (.int .i64 0) Tryz.underlying23 hi hz0 .i64 .i64 (n:Int) (n:Int) (by omega) (Int.le_refl _) (by rw[hz2];omega) (by omega)
 rw[Int.toNat_natCast,hz1,Nat.mul_one] at h
 rw[h]
 congr 3
 apply Array.ext'
 show(madeCells #[Value.int .i64 0] n).toList=_
 rw[toList_madeCells_one]
 simp[Zak]
theorem But.ofDrew {R T:Nat} {w w':World} (h:But R T w.drew w'):But R T w w':=⟨h.os,h.tape,h.output,h.size,h.block⟩
theorem DIn.start {w W:World} {kd g:Int} {sh:Bool} {vb:Value} {R:List UInt8} (h:SIn w W kd (.slice none 0 0) sh g vb R) (many:Nat):
 DIn w ((W.alloc (.cells (Zak (List.replicate many 0)).toArray 3)).setCell ⟨w.heap.size+1,1,none⟩ (.slice (some ⟨W.heap.size,0,none⟩) many many)) kd g sh R many W.heap.size 0 vb R (List.replicate many 0) true:=by
 have hl:=h.cap.lt
 have h1:=h.more ((Below.refl _ _).alloc zL (.cells (Zak (List.replicate many 0)).toArray 3))
 refine⟨h1.store 1 _ _ rfl (fun n e=>by simp at e) rfl,?_,by simp,hl,.inl ⟨rfl,0,rfl,by simp⟩⟩
 exact(Below.heap_setCell _ _ _ _ (by show W.heap.size≠w.heap.size+1;omega)).trans (heap_alloc_new W _)
theorem DIn.spot {w W W':World} {kd g:Int} {sh:Bool} {R:List UInt8} {cnt G k:Nat} {vb:Value} {m:List UInt8} {ys:List Int} {th:Bool} (h:DIn w W kd g sh R cnt G k vb m ys th) (hk:k<cnt) (hb:But (w.heap.size+1+1) (w.heap.size+1+1) W W'):
 W'.cell? ⟨G,k,none⟩=some (.int .i64 (ys.getD k 0))∧W'.frozen? ⟨G,k,none⟩=false:=by
 have hf:=h.far
 have hG:G<W.heap.size:=(Array.getElem?_eq_some_iff.1 h.row).1
 have hrow':W'.heap[G]?=some (.cells (Zak ys).toArray 3 (0,0)):=(hb.block G hG (by omega) (by omega)).trans h.row
 refine⟨?_,frozen_of_row W' G k _ _ hrow'⟩
 rw[cell_of_row W' G k _ _ _ hrow']
 have:=Zbi ys k (by have:=h.len;omega)
 simpa using this
theorem Zkb (v:Value) (l:List UInt8) (w:World) (hr:Rd w v l) (_hlim:l.length<=1000000):
 Calls Tryz.prog 164 #[v] w fun e w'=>ZcI w (ZgW l) e w':=by
 obtain⟨va,vc,rfl⟩:∃ va vc,v=.slice va l.length vc:=by
  obtain⟨va,vc,rfl,_⟩:=hr
  exact⟨va,vc,rfl⟩
 have HR:=ZZ hr
 clear hr
 have HNG:Hid (∀ m W vb,Bb W (w.heap.size+1+1) vb->Rd W vb m->Calls Tryz.prog 218 #[.func (.func 168) #[] #[],.pointer (some ⟨w.heap.size+1+1,0,none⟩)] W fun e w'=>∃ v',e=.returned (.tuple #[.int .i64 ((Zab m).1:Nat),.bool (decide ((Zab m).2≠0))])∧Bb w' (w.heap.size+1+1) v'∧Rd w' v' (behind (Zab m).2 m)∧But (w.heap.size+1+1) (w.heap.size+1+1) W w'):=fun m W vb h1 h2=>ZqV _ _ _ _ _ W h1 h2 (ZbQ m) (fun h=>by rw[Zls h];rfl) (ZeZ vb m W h2)
 have HNS:Hid (∀ m W vb,Bb W (w.heap.size+1+1) vb->Rd W vb m->Calls Tryz.prog 218 #[.func (.func 201) #[] #[],.pointer (some ⟨w.heap.size+1+1,0,none⟩)] W fun e w'=>∃ v',e=.returned (.tuple #[.int .i64 (zag (Zaf m).1),.bool (decide ((Zaf m).2≠0))])∧Bb w' (w.heap.size+1+1) v'∧Rd w' v' (behind (Zaf m).2 m)∧But (w.heap.size+1+1) (w.heap.size+1+1) W w'):=fun m W vb h1 h2=>ZjV _ _ _ _ _ W h1 h2 (Zci m) Zlt (Zcr vb m W h2)
 have HG:=ZZ (ZpY l)
 have HN1:=ZZ (HNG.out l)
 have c1:(Zab l).1<4611686018427387904:=by
  rcases Zau l with h | h
  ·rw[h];decide
  ·exact h.1
 obtain⟨m1,hm1⟩:∃ m1,m1=behind (Zab l).2 l:=⟨_,rfl⟩
 rw[<-hm1] at HG HN1
 have HN2:=ZZ (HNG.out m1)
 obtain⟨m2,hm2⟩:∃ m2,m2=behind (Zab m1).2 m1:=⟨_,rfl⟩
 rw[<-hm2] at HG HN2
 have HN3:=ZZ (HNG.out m2)
 obtain⟨R,hm3⟩:∃ m3,m3=behind (Zab m2).2 m2:=⟨_,rfl⟩
 rw[<-hm3] at HG HN3
 clear hm1 hm2 hm3 HNG
 generalize ZgW l=D at *
 generalize (Zab l).1=kd at *
 generalize (Zab l).2=i at *
 generalize (Zab m1).1=sl at *
 generalize (Zab m1).2=j at *
 generalize (Zab m2).1=many at *
 generalize (Zab m2).2=k at *
 have HNU:=ZZ (fun W=>ZjU va l.length vc W)
 have HST:Hid (∀ W X Y,X=.cells #[.int .i64 0,.slice none 0 0,.bool false,.int .i64 0] 38->Y=.cells #[.int .i64 0,.slice none 0 0,.bool false,.int .i64 0] 38->W=((w.alloc X).alloc Y).alloc (.cells #[.slice va l.length vc] 53)->SIn w W 0 (.slice none 0 0) false 0 (.slice va l.length vc) l):=fun W X Y hX hY hW=>by
  subst hX hY hW
  have b1:Below w.heap.size w (((w.alloc (.cells #[.int .i64 0,.slice none 0 0,.bool false,.int .i64 0] 38)).alloc (.cells #[.int .i64 0,.slice none 0 0,.bool false,.int .i64 0] 38)).alloc (.cells #[.slice va l.length vc] 53)):=(((Below.refl _ _).alloc zL _).alloc (by simp) _).alloc (by simp;omega) _
  refine⟨?_,?_,?_,HR.out.below b1 zL,b1⟩
  ·exact(Below.heap_alloc _ _ _ (by simp;omega)).trans ((Below.heap_alloc _ _ _ (by simp)).trans (heap_alloc_new w _))
  ·exact(Below.heap_alloc _ _ _ (by simp)).trans (Zpq w _ _)
  ·have h:=heap_alloc_new ((w.alloc (.cells #[.int .i64 0,.slice none 0 0,.bool false,.int .i64 0] 38)).alloc (.cells #[.int .i64 0,.slice none 0 0,.bool false,.int .i64 0] 38)) (.cells #[.slice va l.length vc] 53)
   have e:((w.alloc (.cells #[.int .i64 0,.slice none 0 0,.bool false,.int .i64 0] 38)).alloc (.cells #[.int .i64 0,.slice none 0 0,.bool false,.int .i64 0] 38)).heap.size=w.heap.size+1+1:=by simp
   rw[e] at h
   exact h
 go_enter Tryz.func164,Tryz.ntmps164
 go_wp2_with fail
 refine(HNU.out _).mono ?_
 rintro e W1 ⟨rfl,hw1⟩
 have G1:=ZZ (HST.out W1 _ _ rfl rfl hw1)
 clear hw1 HST HNU
 go_wp2_with fail
 refine(HN1.out _ _ G1.out.cap G1.out.rd).mono ?_
 rintro e W2 ⟨v2,rfl,hb2,hr2,hk2⟩
 have G2:=ZZ (G1.out.next hk2 hb2 hr2)
 obtain⟨p0,f0⟩:=G2.out.box.cell 0
 clear hb2 hr2 hk2 G1 HN1
 have HT2:=ZZ (G2.out.store (kd':=(kd:Int)) (vl':=.slice none 0 0) (sh':=false) (g':=0) 0 (.int .i64 (kd:Int)) _ rfl (fun n e=>by simp at e) rfl)
 go_wp2_with fail
 refine(HN2.out _ _ HT2.out.cap HT2.out.rd).mono ?_
 rintro e W3 ⟨v3,rfl,hb3,hr3,hk3⟩
 have G3:=ZZ (HT2.out.next hk3 hb3 hr3)
 clear hb3 hr3 hk3 G2 HT2 HN2 p0 f0
 go_wp2_with fail
 refine(HN3.out _ _ G3.out.cap G3.out.rd).mono ?_
 rintro e W4 ⟨v4,rfl,hb4,hr4,hk4⟩
 have G4:=ZZ (G3.out.next hk4 hb4 hr4)
 clear hb4 hr4 hk4 G3 HN3
 by_cases hbad:k=0∨3<sl∨128<many
 ·have HN:Hid (D=(ZeT,3)):=HG.out.1 hbad
  obtain⟨r0,g0⟩:=G4.out.res.cell 0
  obtain⟨r1,g1⟩:=G4.out.res.cell 1
  obtain⟨r2,g2⟩:=G4.out.res.cell 2
  obtain⟨r3,g3⟩:=G4.out.res.cell 3
  have HBL:=ZZ G4.out.below
  by_cases hk:k=0
  ·rw[decide_eq_false (fun h=>h hk)]
   clear hk hbad G4
   go_wp2
   refine bodyPost_ret (v:=.tuple #[.agg #[.int .i64 0,.slice none 0 0,.bool false,.int .i64 0],.int .i64 3]) (by simp[results,Tryz.results164,go_sem,r0,r1,r2,r3]) rfl ?_
   rw[HN.out]
   exact ZcI.zero 3 (Zcl HBL.out w.heap.size zL _ _ _ _)
  ·rw[decide_eq_true hk]
   by_cases h3:3<sl
   ·have h3':(3:Int)<(sl:Int):=by omega
    clear hk hbad G4 h3
    go_wp2
    refine bodyPost_ret (v:=.tuple #[.agg #[.int .i64 0,.slice none 0 0,.bool false,.int .i64 0],.int .i64 3]) (by simp[results,Tryz.results164,go_sem,r0,r1,r2,r3]) rfl ?_
    rw[HN.out]
    exact ZcI.zero 3 (Zcl HBL.out w.heap.size zL _ _ _ _)
   ·have h3':¬ (3:Int)<(sl:Int):=by omega
    have h4:(128:Int)<(many:Int):=by
     rcases hbad with h | h | h
     ·exact absurd h hk
     ·exact absurd h h3
     ·omega
    clear hk hbad G4 h3
    go_wp2
    refine bodyPost_ret (v:=.tuple #[.agg #[.int .i64 0,.slice none 0 0,.bool false,.int .i64 0],.int .i64 3]) (by simp[results,Tryz.results164,go_sem,r0,r1,r2,r3]) rfl ?_
    rw[HN.out]
    exact ZcI.zero 3 (Zcl HBL.out w.heap.size zL _ _ _ _)
 ·have HN:Hid (D=ZmT kd sl many R):=HG.out.2 hbad
  have hk:k≠0:=fun h=>hbad (.inl h)
  have h3:¬ (3:Int)<(sl:Int):=fun h=>hbad (.inr (.inl (by omega)))
  have h4:¬ (128:Int)<(many:Int):=fun h=>hbad (.inr (.inr (by omega)))
  rw[decide_eq_true hk]
  obtain⟨p1,f1⟩:=G4.out.box.cell 1
  obtain⟨p2,f2⟩:=G4.out.box.cell 2
  obtain⟨p3,f3⟩:=G4.out.box.cell 3
  clear hbad hk HG
  have hsl:sl=0∨sl=1∨sl=2∨sl=3:=by omega
  go_upto_region 8 with fail
  go_cut[] (fun wc=>∃ (sh:Bool) (g:Int),Hid (∀ xs,mkS kd sl xs=⟨kd,xs,sh,g⟩)∧Hid (I64 g)∧Hid (SIn w wc kd (.slice none 0 0) sh g v4 R))
  case first=>
   rcases hsl with rfl | rfl | rfl | rfl
   ·go_wp2
    go_meet
    exact⟨false,0,ZZ (fun xs=>by simp[mkS]),ZZ (Zaj (by omega) (by omega)),ZZ ((G4.out.store 2 (.bool false) _ rfl (fun n e=>by simp at e) rfl).store 3 (.int .i64 0) _ rfl (fun n e=>by simp at e) rfl)⟩
   ·go_wp2
    go_meet
    exact⟨true,0,ZZ (fun xs=>by simp[mkS]),ZZ (Zaj (by omega) (by omega)),ZZ ((G4.out.store 2 (.bool true) _ rfl (fun n e=>by simp at e) rfl).store 3 (.int .i64 0) _ rfl (fun n e=>by simp at e) rfl)⟩
   ·go_wp2
    go_meet
    exact⟨true,1,ZZ (fun xs=>by simp[mkS]),ZZ (Zaj (by omega) (by omega)),ZZ ((G4.out.store 2 (.bool true) _ rfl (fun n e=>by simp at e) rfl).store 3 (.int .i64 1) _ rfl (fun n e=>by simp at e) rfl)⟩
   ·go_wp2
    go_meet
    exact⟨true,2,ZZ (fun xs=>by simp[mkS]),ZZ (Zaj (by omega) (by omega)),ZZ ((G4.out.store 2 (.bool true) _ rfl (fun n e=>by simp at e) rfl).store 3 (.int .i64 2) _ rfl (fun n e=>by simp at e) rfl)⟩
  case rest=>
   obtain⟨sh,g,HMK,HGI,GS⟩:=hcut
   clear hsl p1 f1 p2 f2 p3 f3 G4
   have HDS:=ZZ (DIn.start GS.out many)
   obtain⟨a1,e1⟩:=(GS.out.more ((Below.refl _ _).alloc zL (.cells (Zak (List.replicate many 0)).toArray 3))).box.cell 1
   have hmk:=fun W=>Zmx W many (by omega)
   have HKI:Hid (I64 (kd:Int)):=⟨by omega,by omega⟩
   have hmm:many<=128:=by omega
   have HML:Hid (many<=maxLen):=ZZ (by unfold maxLen;omega)
   generalize (Zak (List.replicate many 0)).toArray=Z at *
   go_upto_region 10 with fail
   generalize ((wc.alloc (.cells Z 3)).setCell ⟨w.heap.size+1,1,none⟩ (.slice (some ⟨wc.heap.size,0,none⟩) many many))=W6 at *
   clear hmk a1 e1 GS
   generalize wc.heap.size=G at *
   obtain⟨b1,-⟩:=HDS.out.sin.box.cell 1
   go_wp2
   go_loopw[10,57] (fun th ix wr=>∃ (q:Nat) (vb:Value) (m:List UInt8) (ys:List Int) (t:Bool),th=.bool t∧ix=.int .i64 (q:Int)∧q<=many∧Hid (DIn w wr kd g sh R many G q vb m ys t)) (fun _ ix _=>many-(intOf ix).toNat)
   case atStart=>exact⟨0,_,_,_,true,rfl,rfl,Nat.zero_le _,HDS⟩
   case round=>
    clear HDS b1
    obtain⟨q,vb,m,ys,t,rfl,rfl,hq,hd⟩:=hrel
    by_cases hlt:q<many
    ·have hqi:(q:Int)<(many:Int):=by omega
     obtain⟨b1,-⟩:=hd.out.sin.box.cell 1
     have hfar:=hd.out.far
     have HK0:Hid (wr.drew.cell? ⟨w.heap.size+1,1,none⟩=some (.slice (some ⟨G,0,none⟩) many many)):=b1
     have HNX:=ZZ (HNS.out m wr.drew vb hd.out.sin.cap hd.out.sin.rd)
     have HSTEP:=ZZ (fun W' v' hb hc hr=>hd.out.step (W':=W') (v':=v') hlt hb hc hr)
     have HSPOT:=ZZ (fun W' hb=>hd.out.spot (W':=W') hlt hb)
     have HBOX:=ZZ (fun W' v' hb hc hr=>(((hd.out.sin.next (W':=W') (v':=v') (m':=behind (Zaf m).2 m) hb hc hr).box).cell 1).1)
     generalize zag (Zaf m).1=x at *
     generalize behind (Zaf m).2 m=m' at *
     generalize decide ((Zaf m).2≠0)=t' at *
     go_wp2
     go_region_held(fun w'=>w'.cell? ⟨w.heap.size+1,1,none⟩=some (.slice (some ⟨G,0,none⟩) many many)) (first | exact HK0.out | exact HK1.out | exact HK2.out)
      (first
       | (go_at_call 218;refine HNX.out.mono ?_;rintro e W7 ⟨v7,rfl,hb7,hr7,hk7⟩;have hk7':=hk7.ofDrew;have HK1:Hid (W7.cell? ⟨w.heap.size+1,1,none⟩=some (.slice (some ⟨G,0,none⟩) many many)):=HBOX.out W7 v7 hk7' hb7 hr7;obtain⟨k0,k1⟩:=HSPOT.out W7 hk7';have HK2:Hid ((W7.setCell ⟨G,q,none⟩ (.int .i64 x)).cell? ⟨w.heap.size+1,1,none⟩=some (.slice (some ⟨G,0,none⟩) many many)):=ZZ ((World.cell?_setCell_far W7 _ _ _ (by show G≠w.heap.size+1;omega)).trans HK1.out);have HD7:=ZZ (HSTEP.out W7 v7 hk7' hb7 hr7);clear hb7 hr7 hk7 hk7'))
     clear HK0 HK1 HK2 HNX HSTEP HSPOT HBOX k0 k1 b1 hfar hd
     go_wp2
     go_roundw
     case rel=>exact⟨q+1,_,_,_,_,rfl,by go_num,by omega,HD7⟩
     case measure=>simp[intOf];omega
    ·have hqe:q=many:=by omega
     have hqi:¬ (q:Int)<(many:Int):=by omega
     have hlen:=hd.out.len
     have HOW:=ZZ (hd.out.own HML.out)
     obtain⟨r0,f0⟩:=hd.out.sin.res.cell 0
     obtain⟨r1,f1⟩:=hd.out.sin.res.cell 1
     obtain⟨r2,f2⟩:=hd.out.sin.res.cell 2
     obtain⟨r3,f3⟩:=hd.out.sin.res.cell 3
     have HBL:=ZZ hd.out.sin.below
     rcases hd.out.st with ⟨rfl,u,hrd,hmu⟩ | ⟨rfl,hrd,hmu⟩
     ·have hu:=(Zeq _ _ _ _ hrd).2.1
      have hml:m.length=R.length-u:=by rw[hmu,List.length_drop]
      have hye:ys.take q=ys:=List.take_of_length_le (by omega)
      rw[hye,hqe] at hrd
      have HRL:=ZZ hrd
      have hc:=hd.out.sin.cap.cell.1
      obtain⟨a4,c4,rfl,-⟩:=hd.out.sin.rd
      have HL:=ZZ (fun W h=>ZqU (w.heap.size+1+1) a4 m.length c4 W h)
      clear hrd hye hmu
      by_cases hend:u=R.length
      ·have hm0:m.length=0:=by omega
       rw[hm0] at hc HL
       have HDE:Hid (D=if Zcw ⟨kd,ys,sh,g⟩ then((⟨kd,ys,sh,g⟩:St),0) else(ZeT,1)):=by
        refine ZZ ?_
        rw[HN.out]
        unfold ZmT
        rw[HRL.out]
        simp only
        rw[if_neg (by omega),HMK.out]
       have HIX:=ZZ (Zeq _ _ _ _ HRL.out).2.2.2
       have HRX:=ZZ (HOW.out.rd HIX.out)
       have q0:=(hd.out.sin.box.cell 0).1
       have q1:=(hd.out.sin.box.cell 1).1
       have q2:=(hd.out.sin.box.cell 2).1
       have q3:=(hd.out.sin.box.cell 3).1
       have HM2:Hid (Calls Tryz.prog 82 #[.agg #[.int .i64 kd,.slice (some ⟨G,0,none⟩) many many,.bool sh,.int .i64 g]] wr fun e w'=>e=.returned (.bool (decide (Zcw ⟨kd,ys,sh,g⟩)))∧Below wr.heap.size wr w'):=ZpA _ ⟨kd,ys,sh,g⟩ _ ⟨_,rfl,HRX.out,HKI.out,HGI.out⟩
       clear hend hml hm0 hlen HN HMK
       go_wp2_with fail
       refine(HL.out _ hc).mono ?_
       rintro e W8 ⟨rfl,rfl⟩
       go_wp2_with fail
       refine HM2.out.mono ?_
       rintro e W7 ⟨rfl,hb7⟩
       have HS7:=ZZ (hd.out.sin.more hb7)
       have HOW7:=ZZ (HOW.out.below hb7 zL)
       clear hb7 r0 r1 r2 r3 f0 f1 f2 f3 q0 q1 q2 q3 hc HM2 HL
       obtain⟨r0,f0⟩:=HS7.out.res.cell 0
       obtain⟨r1,f1⟩:=HS7.out.res.cell 1
       obtain⟨r2,f2⟩:=HS7.out.res.cell 2
       obtain⟨r3,f3⟩:=HS7.out.res.cell 3
       have q0:=(HS7.out.box.cell 0).1
       have q1:=(HS7.out.box.cell 1).1
       have q2:=(HS7.out.box.cell 2).1
       have q3:=(HS7.out.box.cell 3).1
       by_cases hm:Zcw ⟨kd,ys,sh,g⟩
       ·rw[decide_eq_true hm]
        have HF:Hid (D=((⟨kd,ys,sh,g⟩:St),0)):=HDE.out.trans (if_pos hm)
        clear hm HDE
        go_wp2
        refine bodyPost_ret (v:=.tuple #[.agg #[.int .i64 kd,.slice (some ⟨G,0,none⟩) many many,.bool sh,.int .i64 g],.int .i64 0]) (by simp[results,Tryz.results164,go_sem,r0,r1,r2,r3]) rfl ?_
        rw[HF.out]
        refine⟨_,rfl,(HOW7.out.four w.heap.size (by omega) _ _ _ _).rd HIX.out,HKI.out,HGI.out,fun b hb=>?_,Zcl HS7.out.below w.heap.size zL _ _ _ _⟩
        have:=HOW7.out.fresh b hb
        omega
       ·rw[decide_eq_false hm]
        have HF:Hid (D=(ZeT,1)):=HDE.out.trans (if_neg hm)
        clear hm HDE
        go_wp2
        refine bodyPost_ret (v:=.tuple #[.agg #[.int .i64 0,.slice none 0 0,.bool false,.int .i64 0],.int .i64 1]) (by simp[results,Tryz.results164,go_sem,r0,r1,r2,r3]) rfl ?_
        rw[HF.out]
        exact ZcI.zero 1 (Zcl HS7.out.below w.heap.size zL _ _ _ _)
      ·have hm0:(0:Int)<(m.length:Int):=by omega
       have HF:Hid (D=(ZeT,3)):=by
        refine ZZ ?_
        rw[HN.out]
        unfold ZmT
        rw[HRL.out]
        simp only
        rw[if_pos hend]
       clear hend hml hlen HN
       go_wp2_with fail
       refine(HL.out _ hc).mono ?_
       rintro e W8 ⟨rfl,rfl⟩
       go_wp2
       refine bodyPost_ret (v:=.tuple #[.agg #[.int .i64 0,.slice none 0 0,.bool false,.int .i64 0],.int .i64 3]) (by simp[results,Tryz.results164,go_sem,r0,r1,r2,r3]) rfl ?_
       rw[HF.out]
       exact ZcI.zero 3 (Zcl HBL.out w.heap.size zL _ _ _ _)
     ·rw[hqe] at hrd
      have HF:Hid (D=(ZeT,3)):=by
       refine ZZ ?_
       rw[HN.out]
       unfold ZmT
       rw[hrd]
      clear hrd hmu hd
      go_wp2
      refine bodyPost_ret (v:=.tuple #[.agg #[.int .i64 0,.slice none 0 0,.bool false,.int .i64 0],.int .i64 3]) (by simp[results,Tryz.results164,go_sem,r0,r1,r2,r3]) rfl ?_
      rw[HF.out]
      exact ZcI.zero 3 (Zcl HBL.out w.heap.size zL _ _ _ _)
end Go.Proofs.YtnahjngbneicaaaGreatDoor
