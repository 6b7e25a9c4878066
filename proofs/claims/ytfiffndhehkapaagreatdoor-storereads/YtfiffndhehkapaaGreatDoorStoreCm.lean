import Derived.Test.YtfiffndhehkapaaGreatDoorStoreCl
namespace Go.Proofs.YtfiffndhehkapaaGreatDoor
set_option maxRecDepth 100000
open Go.RowKit
theorem Zmf {ops:Array Oper} {o:Oper} {a:Act} {w:World} {K:Act->World->Prop} {Q:Exit->Act->World->Prop} {E:Prop}
 (hg:o.guard=none) (s x:Operand) (hop:o.op=Op.call { callee:=Callee.builtin Builtin.append,args:=#[s,x],argTypes:=#[75,75] })
 (v:Value) (l:List (ZaU × Value × Value)) (hs:a.eval s=v) (c:ZaU × Value × Value) (W0:World) (hw0:w=W0.alloc (.cells (snC c) 41)) (h:W0.ownsRow 0 41 6 v l.length (ZaK l)) (hc:SlX c) (hx:a.eval x=.slice (some ⟨W0.heap.size,0,none⟩) 1 1) (hlim:l.length<=10000000)
 (hK:∀ v' w',w'.ownsRow 0 41 6 v' (l++[c]).length (ZaK (l++[c]))->(W0.alloc (.cells (snC c) 41)).grownBy w' v.ownBlock->(v'.ownBlock=v.ownBlock∨v'.ownBlock=some (W0.heap.size+1))->K (a.put o.dst v') w'):
 if Region.wanted o (yielded ops a.tmps)=true then Oper.wp Tryz.prog o a w K Q else E:=by
 have hw:Region.wanted o (yielded ops a.tmps)=true:=by simp[Region.wanted,hg]
 rw[if_pos hw]
 subst hw0
 obtain⟨v',w',hrun,h2,h3,h4⟩:=ZhO W0 o.type v l h c hc hlim
 unfold Oper.wp execOp
 simp only [hop,resolve,invoke,builtin,Sem.run_bind,Sem.run_pure,Result.andThen_ok,List.map_toArray,List.map_cons,List.map_nil,hs,hx,hrun]
 exact hK v' w' h2 h3 h4
theorem ZeF.addBase {M I:Nat->Prop} {w W:World} {p pd:Nat} {L:ZhA} {s:Sto} {bv':Value} (h:ZeF M I w p pd L s) (hr:W.ownsRow 0 41 6 bv' (L.bs++[L.nx s]).length (ZaK (L.bs++[L.nx s]))) (hg:(w.alloc (.cells (snC (L.nx s)) 41)).grownBy W L.bv.ownBlock) (hv:bv'.ownBlock=L.bv.ownBlock∨bv'.ownBlock=some (w.heap.size+1)):
 ZeF (fun k=>M k∨bv'.ownBlock=some k) I (W.setCell ⟨p,4,none⟩ bv') p pd { L with bv:=bv',bs:=L.bs++[L.nx s] } { s with bases:=s.bases++[s.now] }∧Zas M w (W.setCell ⟨p,4,none⟩ bv')∧(W.cell? ⟨p,4,none⟩=some L.bv∧W.frozen? ⟨p,4,none⟩=false)∧∀ k,bv'.ownBlock=some k->M k∨w.heap.size<=k:=by
 have hbl:∀ g,L.bv.ownBlock=some g->g≠p:=fun g hg e=>by
  obtain⟨cs,hb⟩:=ZaO h.bases hg
  rw[e] at hb
  exact hb.ne h.head (by decide) rfl
 have hsz:(w.alloc (.cells (snC (L.nx s)) 41)).heap.size=w.heap.size+1:=by simp
 have hgb:∀ k,k<w.heap.size->L.bv.ownBlock≠some k->W.heap[k]?=w.heap[k]?:=fun k hk hn=>by
  rw[hg.block k (by rw[hsz];omega) (fun e=>hn e.symm)]
  exact Below.heap_alloc _ _ _ (by omega)
 have hgs:w.heap.size+1<=W.heap.size:=by have:=hg.size;rw[hsz] at this;exact this
 have hMb:∀ k,bv'.ownBlock=some k->M k∨w.heap.size<=k:=fun k hk=>by
  rcases hv with hv | hv
  ·exact .inl (h.mb k (by rw[<-hv];exact hk))
  ·rw[hv] at hk
   have:=Option.some.inj hk
   exact .inr (by omega)
 have hpW:W.heap[p]?=w.heap[p]?:=hgb p (h.ltM p h.mh) (fun e=>hbl p e rfl)
 have hhead:=h.head.keep hpW
 have hset:∀ k,k≠p->(W.setCell ⟨p,4,none⟩ bv').heap[k]?=W.heap[k]?:=fun k hk=>Below.heap_setCell _ _ _ _ hk
 have hs2:(W.setCell ⟨p,4,none⟩ bv').heap.size=W.heap.size:=Zso _ _ _ _
 have hkeep:∀ k,k<w.heap.size->k≠p->L.bv.ownBlock≠some k->(W.setCell ⟨p,4,none⟩ bv').heap[k]?=w.heap[k]?:=fun k h1 h2 h3=>by rw[hset k h2,hgb k h1 h3]
 have hIk:∀ k,I k->(W.setCell ⟨p,4,none⟩ bv').heap[k]?=w.heap[k]?:=fun k hk=>hkeep k (h.ltI k hk) (fun e=>h.dis p h.mh (by rw[<-e];exact hk)) (fun e=>h.dis k (h.mb k e) hk)
 have hbv':∀ k,bv'.ownBlock=some k->k≠p:=fun k hk e=>by
  rcases hv with hv | hv
  ·exact hbl k (by rw[<-hv];exact hk) e
  ·rw[hv] at hk
   have:=Option.some.inj hk
   have:=h.ltM p h.mh
   omega
 have hne:∀ {t:TypeId} {v:Value} {n sz:Nat} {xs:List Value},w.ownsRow 0 t sz v n xs->t≠77->t≠41->(W.setCell ⟨p,4,none⟩ bv').ownsRow 0 t sz v n xs:=fun hrow ht1 ht2=>Zaf hrow fun g hg=>by
  obtain⟨cs,hb⟩:=ZaO hrow hg
  refine hkeep g hb.lt (hb.ne h.head ht1) (fun e=>?_)
  obtain⟨cs2,hb2⟩:=ZaO h.bases e
  exact hb.ne hb2 ht2 rfl
 refine⟨⟨hhead.set 4 bv',hne h.recs (by decide) (by decide),hne h.pcs (by decide) (by decide),Zaf hr fun g hg=>hset g (hbv' g hg),?_,h.now.keep h.inow hIk,fun x hx=>?_,.inl h.mh,fun g hg=>.inl (h.mr g hg),fun g hg=>.inl (h.mp g hg),fun g hg=>.inr hg,h.inow,fun x hx=>?_,fun k hk=>?_,fun k hk=>?_,fun k hk hi=>?_⟩,?_,⟨(hhead.cell 4 rfl).1,(hhead.cell 4 rfl).2⟩,hMb⟩
 ·rw[List.map_append,h.bsEq];rfl
 ·rcases List.mem_append.1 hx with hx | hx
  ·exact(h.base x hx).keep (h.ibase x hx) hIk
  ·rw[List.mem_singleton.1 hx];exact h.now.keep h.inow hIk
 ·rcases List.mem_append.1 hx with hx | hx
  ·exact h.ibase x hx
  ·rw[List.mem_singleton.1 hx];exact h.inow
 ·rw[hs2]
  rcases hk with hk | hk
  ·have:=h.ltM k hk;omega
  ·exact(World.ownsRow.lt hr k hk).2
 ·rw[hs2]
  have:=h.ltI k hk
  omega
 ·rcases hk with hk | hk
  ·exact h.dis k hk hi
  ·rcases hMb k hk with h1 | h1
   ·exact h.dis k h1 hi
   ·have:=h.ltI k hi
    omega
 ·have ha:Zas M w (w.alloc (.cells (snC (L.nx s)) 41)):=Zas.ofBelow (ZcY _ _)
  have hb:Zas M (w.alloc (.cells (snC (L.nx s)) 41)) W:=⟨hg.os,hg.tape,hg.output,hg.size,fun k hk hn=>hg.block k hk (fun e=>hn (h.mb k e.symm))⟩
  exact((ha.trans hb (fun _ _ h=>h)).trans (((Zas.refl M W).setCell 4 (fun _=>h.mh) bv')) (fun _ _ h=>h))
set_option maxHeartbeats 4000000 in
theorem ZlC {K:Nat->Prop} {pd p:Nat} {s:Sto} {d:Dk} {N T:Nat} (w:World) (h:SD K w pd p s d N T) (hK:∀ k,K k->k<w.heap.size) (hn:Zrp s) (hbl:s.bases.length<=1000000) (hN:N<=900000) (hT:T<=90000000):
 Calls Tryz.prog 25 #[ptr p] w fun e w'=>ZeU K w pd p (Zbk (s,d)) (N+28) (T+560000) e w':=by
 obtain⟨W0,hW0⟩:∃ W0,W0=(w.alloc (.cells #[ptr p] 28)).alloc (.cells #[.slice none 0 0] 53):=⟨_,rfl⟩
 have hs0:W0.heap.size=w.heap.size+2:=by rw[hW0];simp
 obtain⟨W1,hW1⟩:∃ W1,W1=W0.alloc (.cells (ZBd p w.heap.size (w.heap.size+1)) 154):=⟨_,rfl⟩
 have hs1:W1.heap.size=w.heap.size+3:=by rw[hW1];simp[hs0]
 have HB1:Hid (Below w.heap.size w W1):=ZZ (by rw[hW1,hW0];exact(((Below.refl _ _).alloc zL _).alloc (by simp) _).alloc (by simp;omega) _)
 have HR:Hid (Bk 28 W1 w.heap.size #[ptr p]):=ZZ (by
  rw[hW1,hW0]
  exact(Below.heap_alloc _ _ _ (by simp;omega)).trans ((Below.heap_alloc _ _ _ (by simp)).trans (heap_alloc_new w _)))
 have HRB:Hid (Bk 53 W1 (w.heap.size+1) #[.slice none 0 0]):=ZZ (by
  rw[hW1,hW0]
  exact(Below.heap_alloc _ _ _ (by simp)).trans (Zkx w _ _))
 have HY:Hid (Bk 154 W1 (w.heap.size+2) (ZBd p w.heap.size (w.heap.size+1))):=ZZ (by
  rw[hW1,<-hs0]
  exact heap_alloc_new W0 _)
 obtain⟨res,hres⟩:∃ res,res=ZgI (s,d):=⟨_,rfl⟩
 have hmn:=Zlr (s,d)
 rw[<-hres] at hmn
 have HST:Hid (Calls Tryz.prog 63 #[.slice (some ⟨W0.heap.size,0,none⟩) 7 7] W1 fun e w'=>e=.returned (.int .i64 res.2)∧SD K w' pd p res.1.1 res.1.2 (N+28) (T+560000)∧Zas (fun k=>¬ K k) w w'∧Bk 28 w' w.heap.size #[ptr p]):=ZZ (by
  have hm:=ZyV (K0:=fun k=>(K k∨k=w.heap.size)∨k=w.heap.size+2) (K2:=fun k=>K k∨(w.heap.size<=k∧k<W1.heap.size)) (R:=w.heap.size) (Rb:=w.heap.size+1) (Y:=w.heap.size+2) W1 (.inr rfl) (fun k hk=>by
   rcases hk with (hk | hk) | hk
   ·exact .inl hk
   ·exact .inr (by omega)
   ·exact .inr (by omega)) (fun hk=>by
   rcases hk with (hk | hk) | hk
   ·have:=hK _ hk;omega
   ·omega
   ·omega) HY.out (fun k hk=>by
   rcases hk with hk | hk
   ·have:=hK k hk;omega
   ·exact hk.2) (h.fresh HB1.out) ⟨_,HRB.out,.inr (by omega),.inr (by omega),HR.out,fun hh=>absurd hh (by decide)⟩ hn hN hT
  rw[<-hres] at hm
  rw[hs0]
  refine hm.mono ?_
  rintro e w' ⟨rfl,Kd,k1,k2,k3,k4,-⟩
  refine⟨rfl,k4.less (fun k hk=>k1 k (.inl hk)),(Zas.ofBelow HB1.out).trans (k3.mono (fun k hk hn=>hk (.inl (.inl hn)))) (fun _ _ h=>h),HR.out.keep (k3.block _ HR.out.lt (fun hh=>hh (.inl (.inr rfl))))⟩)
 have HCK:Hid (Zbk (s,d)=if res.2=0 then(({ res.1.1 with bases:=res.1.1.bases++[res.1.1.now] },res.1.2),0) else res):=ZZ (by rw[hres];rfl)
 have HBN:Hid (res.1.1.bases.length<=1000000):=ZZ (by rw[hmn.2.1];exact hbl)
 obtain⟨CK,hCK⟩:∃ CK,CK=Zbk (s,d):=⟨_,rfl⟩
 rw[<-hCK] at HCK ⊢
 have HKW:=ZZ hK
 simp only [ZBd,ZhQ,Stp.val] at hW1
 have HWW:=ZZ hW1
 clear h hn hbl hres hmn hCK hK HY HRB HR HB1
 go_enter Tryz.func25,Tryz.ntmps25
 go_upto_region 2 with fail
 rw[<-hW0]
 have r0:W0.cell? ⟨w.heap.size,0,none⟩=some (ptr p):=by
  have hb:Bk 28 W0 w.heap.size #[ptr p]:=by
   rw[hW0]
   exact(Below.heap_alloc _ _ _ (by simp)).trans (heap_alloc_new w _)
  exact(hb.cell 0 rfl).1
 clear hW0 hW1 hs0 hs1
 go_wp2_with fail
 rw[<-HWW.out]
 refine HST.out.mono ?_
 rintro e W2 ⟨rfl,hs2,ho2,hr2⟩
 have HS2:=ZZ hs2
 have HO2:=ZZ ho2
 have HR2:=ZZ hr2
 obtain⟨r2,-⟩:=hr2.cell 0 rfl
 clear HWW HST hs2 ho2 hr2 r0
 obtain⟨⟨s',d'⟩,c⟩:=res
 dsimp only at HS2 HCK HBN
 by_cases hc:c=0
 case neg=>
  have HFI:Hid (ZeU K w pd p CK (N+28) (T+560000) (.returned (.int .i64 c)) W2):=ZZ (by
   rw[HCK.out,if_neg hc]
   exact⟨rfl,HS2.out,HO2.out⟩)
  have hcb:(c != 0)=true:=by rw[bne_iff_ne];exact hc
  clear hc HCK HS2 HO2
  go_wp2
  go_ret
  exact HFI.out
 subst hc
 rw[if_pos rfl] at HCK
 obtain⟨F,M,I,L,g1,g2,g3,g4,g5,g6,g7⟩:=HS2.out
 have HL:=ZZ g2
 obtain⟨-,-,-,-,c4,⟨c5,c6,c7,c8,c9,c10⟩,-⟩:=g2.cs
 obtain⟨ba,bc,hbv⟩:=ZbU g2.bases
 obtain⟨la,ln,lc,ta,tn,tc,hvl,hvt⟩:=g2.now.shape
 have hvl':L.nl=.slice la ln lc:=hvl
 have hvt':L.nt=.slice ta tn tc:=hvt
 have HSC:Hid (snC (L.nx s')=#[.int .i64 s'.now.idx,.int .i64 s'.now.st.kind,.slice la ln lc,.bool s'.now.st.shut,.int .i64 s'.now.st.eng,.slice ta tn tc]):=ZZ (by unfold snC ZhA.nx;rw[hvl',hvt'])
 have HSL:Hid (SlX (L.nx s')):=ZZ ⟨la,ln,lc,ta,tn,tc,hvl,hvt⟩
 have HNB:Hid (L.bs.length<=10000000):=ZZ (by
  have h1:=HBN.out
  rw[<-g2.bsEq,List.length_map] at h1
  omega)
 have HFI:Hid (∀ v' W,W.ownsRow 0 41 6 v' (L.bs++[L.nx s']).length (ZaK (L.bs++[L.nx s']))->(W2.drew.alloc (.cells (snC (L.nx s')) 41)).grownBy W L.bv.ownBlock->(v'.ownBlock=L.bv.ownBlock∨v'.ownBlock=some (W2.drew.heap.size+1))->
  ZeU K w pd p CK (N+28) (T+560000) (.returned (.int .i64 0)) (W.setCell ⟨p,4,none⟩ v')∧W.cell? ⟨p,4,none⟩=some L.bv∧W.frozen? ⟨p,4,none⟩=false∧W.cell? ⟨w.heap.size,0,none⟩=some (ptr p)):=ZZ (fun v' W hr hg hv=>by
  have hbd:Below W2.heap.size W2 W2.drew:=(Below.refl _ _).drew
  obtain⟨k1,k2,⟨k3,k4⟩,k5⟩:=(g2.below hbd).addBase hr hg hv
  have hKW:∀ k,K k->k<W2.drew.heap.size:=fun k hk=>Nat.lt_of_lt_of_le (HKW.out k hk) (Nat.le_trans HO2.out.size hbd.size)
  obtain⟨m1,m2⟩:=SD.own hKW (g1.below hbd) g3 g4 g5 g6 g7 k2 k1 (fun k hk=>by
   rcases hk with hk | hk
   ·exact .inl hk
   ·exact k5 k hk) (fun k hk=>.inl hk)
  refine⟨?_,k3,k4,?_⟩
  ·rw[HCK.out]
   exact⟨rfl,m1,(HO2.out.trans (Zas.ofBelow (F:=fun _=>False) hbd) (fun _ _ h=>h.elim)).trans m2 (fun _ _ h=>h)⟩
  ·have h2:L.bv.ownBlock≠some w.heap.size:=fun e=>by
    obtain⟨cs,hb⟩:=ZaO g2.bases e
    exact hb.ne HR2.out (by decide) rfl
   have h3:W.heap[w.heap.size]?=W2.heap[w.heap.size]?:=by
    rw[hg.block _ (by simp;have:=HR2.out.lt;omega) (fun e=>h2 e.symm)]
    exact Below.heap_alloc W2 _ _ HR2.out.lt
   exact((HR2.out.keep h3).cell 0 rfl).1)
 rw[hbv] at c4
 rw[hvl'] at c7
 rw[hvt'] at c10
 have HBR:Hid (W2.drew.ownsRow 0 41 6 (.slice ba L.bs.length bc) L.bs.length (ZaK L.bs)):=ZZ (by
  have h1:=(g2.below (Below.refl _ W2).drew).bases
  rw[hbv] at h1
  exact h1)
 rw[hbv] at HFI
 generalize s'.now.idx=n0 at *
 generalize s'.now.st.kind=n1 at *
 generalize s'.now.st.shut=n2 at *
 generalize s'.now.st.eng=n3 at *
 have q4:(W2.alloc (.cells #[.int .i64 n0,.int .i64 n1,.slice la ln lc,.bool n2,.int .i64 n3,.slice ta tn tc] 41)).cell? ⟨p,4,none⟩=some (.slice ba L.bs.length bc):=(World.cell?_of_block (a:=⟨p,4,none⟩) (Below.heap_alloc W2 _ p (g2.ltM p g2.mh))).trans c4
 have q0:(W2.alloc (.cells #[.int .i64 n0,.int .i64 n1,.slice la ln lc,.bool n2,.int .i64 n3,.slice ta tn tc] 41)).cell? ⟨w.heap.size,0,none⟩=some (ptr p):=(World.cell?_of_block (a:=⟨w.heap.size,0,none⟩) (Below.heap_alloc W2 _ _ HR2.out.lt)).trans r2
 clear g1 g2 g3 g4 g5 g6 g7 hvl hvt hvl' hvt' hbv HCK HS2 HO2 HL
 go_upto_region 9 with fail
 go_region_law(refine Zmf (by rfl) _ _ (by rfl) (.slice ba L.bs.length bc) L.bs (by rfl) (L.nx s') W2.drew (by rw[HSC.out];rfl) HBR.out HSL.out (by rfl) HNB.out ?_;intro v9 W9 ho9 hg9 hv9;obtain⟨hA,t1,t2,t3⟩:=HFI.out v9 W9 ho9 hg9 hv9;have HA9:=ZZ hA;obtain⟨z1,z3,z2,hz⟩:∃ a n c,v9=Value.slice a n c:=(by obtain⟨a,c,h⟩:=ZbU ho9;exact⟨_,_,_,h⟩);subst hz;clear hA ho9 hg9 hv9)
 all_goals
  go_wp2
  go_ret
  exact HA9.out
end Go.Proofs.YtfiffndhehkapaaGreatDoor
