import Derived.Test.YtfiffndhehkapaaGreatDoorStoreT
namespace Go.Proofs.YtfiffndhehkapaaGreatDoor
set_option maxHeartbeats 1000000
set_option maxRecDepth 100000
open Go.RowKit
theorem Zjy:∀ (a b:List (SDk->SDk × Int)) (x:SDk),Zbh (a++b) x=if(Zbh a x).2=0 then Zbh b (Zbh a x).1 else Zbh a x
 | [],b,x=>by simp[Zbh]
 | f::a,b,x=>by
  rw[List.cons_append,Zbh,Zbh]
  by_cases h:(f x).2=0
  ·rw[if_pos h,if_pos h]
   exact Zjy a b _
  ·rw[if_neg h,if_neg h,if_neg h]
def ZgS (y:SDk):SDk × Int:=(y,0)
theorem ZsU (g:SDk->SDk × Int) (y:SDk):(Zbh [g] y).1=(g y).1∧(Zbh [g] y).2=(g y).2:=by
 unfold Zbh
 split
 ·rename_i h
  exact⟨rfl,h.symm⟩
 ·exact⟨rfl,rfl⟩
theorem ZsV {α:Type} {l:List α} {i:Nat} (hi:i<l.length) (z:α):l.take (i+1)=l.take i++[l.getD i z]:=by
 rw[List.take_succ_eq_append_getElem hi]
 congr 2
 simp[List.getD,hi]
theorem ZpQ (gs:List (SDk->SDk × Int)) (x:SDk) (i:Nat) (hi:i<gs.length) (h0:(Zbh (gs.take i) x).2=0):
 (Zbh (gs.take (i+1)) x).1=(gs.getD i ZgS (Zbh (gs.take i) x).1).1∧(Zbh (gs.take (i+1)) x).2=(gs.getD i ZgS (Zbh (gs.take i) x).1).2:=by
 rw[ZsV hi ZgS,Zjy,if_pos h0]
 exact ZsU _ _
theorem Zxc (gs:List (SDk->SDk × Int)) (x:SDk) (i:Nat) (hi:i<gs.length) (h0:(Zbh (gs.take i) x).2=0) (h1:(gs.getD i ZgS (Zbh (gs.take i) x).1).2≠0):
 (Zbh gs x).1=(gs.getD i ZgS (Zbh (gs.take i) x).1).1∧(Zbh gs x).2=(gs.getD i ZgS (Zbh (gs.take i) x).1).2:=by
 have h2:=ZpQ gs x i hi h0
 have h3:Zbh gs x=Zbh (gs.take (i+1)) x:=by
  have h4:=Zjy (gs.take (i+1)) (gs.drop (i+1)) x
  rw[List.take_append_drop,if_neg (by rw[h2.2];exact h1)] at h4
  exact h4
 rw[h3]
 exact h2
def ZuL (K0 Kc:Nat->Prop) (pd p:Nat) (r:SDk × Int) (N T:Nat) (X:(Nat->Prop)->World->Prop) (W:World) (e:Ending) (w':World):Prop:=
 e=.returned (.int .i64 r.2)∧∃ Kd:Nat->Prop,(∀ k,Kc k->Kd k)∧(∀ k,Kd k->k<w'.heap.size)∧Zas (fun k=>¬ K0 k) W w'∧SD Kd w' pd p r.1.1 r.1.2 N T∧(r.2=0->X Kd w')
theorem Zxd {K0 K2:Nat->Prop} {pd p:Nat} (b cap:Nat) (fs:Nat->Stp) (gs:List (SDk->SDk × Int)) (x:SDk) (N T cN cT:Nat) (w:World) (X:Nat->(Nat->Prop)->World->Prop) (hn:gs.length<=1000000)
 (hY:K0 b) (cs:Array Value) (hrow:Bk 154 w b cs) (hcs:∀ i,i<gs.length->cs[i]?=some (fs i).val)
 (hK2:∀ k,K2 k->k<w.heap.size) (hs:SD K2 w pd p x.1 x.2 N T) (hX:X 0 K2 w)
 (hstep:∀ i,i<gs.length->∀ (Kc:Nat->Prop) W,(∀ k,K2 k->Kc k)->(∀ k,Kc k->k<W.heap.size)->Zas (fun k=>¬ K0 k) w W->(Zbh (gs.take i) x).2=0->SD Kc W pd p (Zbh (gs.take i) x).1.1 (Zbh (gs.take i) x).1.2 (N+cN*i) (T+cT*i)->X i Kc W->
  Calls Tryz.prog (fs i).g ((fs i).bd++(fs i).cp) W fun e w'=>ZuL K0 Kc pd p (gs.getD i ZgS (Zbh (gs.take i) x).1) (N+cN*i+cN) (T+cT*i+cT) (X (i+1)) W e w')
 (hent:∀ i,i<gs.length->∀ args W,(callFunc (fs i).g args).run Tryz.prog W=.ok (.enter (fs i).g args) W):
 Calls Tryz.prog 63 #[.slice (some ⟨b,0,none⟩) gs.length cap] w fun e w'=>ZuL K0 K2 pd p (Zbh gs x) (N+cN*gs.length) (T+cT*gs.length) (fun _ _=>True) w e w':=by
 refine(Zpn b 0 cap gs.length fs w
  (fun i W=>(Zbh (gs.take i) x).2=0∧∃ Kc:Nat->Prop,(∀ k,K2 k->Kc k)∧(∀ k,Kc k->k<W.heap.size)∧Zas (fun k=>¬ K0 k) w W∧SD Kc W pd p (Zbh (gs.take i) x).1.1 (Zbh (gs.take i) x).1.2 (N+cN*i) (T+cT*i)∧X i Kc W)
  (fun c W=>(Zbh gs x).2=c∧∃ Kc:Nat->Prop,(∀ k,K2 k->Kc k)∧(∀ k,Kc k->k<W.heap.size)∧Zas (fun k=>¬ K0 k) w W∧SD Kc W pd p (Zbh gs x).1.1 (Zbh gs x).1.2 (N+cN*gs.length) (T+cT*gs.length)) hn ?_ ?_ hent ?_).mono ?_
 ·rintro i W hi ⟨-,Kc,-,-,ho,-⟩
  rw[Nat.zero_add]
  exact((hrow.keep (ho.block b hrow.lt (fun hh=>hh hY))).cell i (hcs i hi)).1
 ·rintro i W hi ⟨h0,Kc,g1,g2,g3,g4,g5⟩
  refine(hstep i hi Kc W g1 g2 g3 h0 g4 g5).mono ?_
  rintro e w' ⟨rfl,Kd,k1,k2,k3,k4,k5⟩
  refine⟨_,rfl,fun hz=>?_,fun hz=>?_⟩
  ·obtain⟨e1,e2⟩:=ZpQ gs x i hi h0
   refine⟨by rw[e2];exact hz,Kd,fun k hk=>k1 k (g1 k hk),k2,g3.trans k3 (fun _ _ h=>h),?_,k5 hz⟩
   rw[e1,Nat.mul_succ,Nat.mul_succ,<-Nat.add_assoc,<-Nat.add_assoc]
   exact k4
  ·obtain⟨e1,e2⟩:=Zxc gs x i hi h0 hz
   refine⟨e2,Kd,fun k hk=>k1 k (g1 k hk),k2,g3.trans k3 (fun _ _ h=>h),?_⟩
   rw[e1]
   refine k4.mono ?_ ?_
   ·have:=Nat.mul_le_mul_left cN (show i+1<=gs.length from hi)
    rw[Nat.mul_succ] at this
    omega
   ·have:=Nat.mul_le_mul_left cT (show i+1<=gs.length from hi)
    rw[Nat.mul_succ] at this
    omega
 ·exact⟨rfl,K2,fun _ h=>h,hK2,Zas.refl _ _,by rw[Nat.mul_zero,Nat.mul_zero];exact hs,hX⟩
 ·rintro e w' ⟨c,rfl,h0,h1⟩
  by_cases hc:c=0
  ·obtain⟨hz,Kc,g1,g2,g3,g4,-⟩:=h0 hc
   rw[List.take_length] at hz g4
   exact⟨by rw[hz,hc],Kc,g1,g2,g3,g4,fun _=>trivial⟩
  ·obtain⟨hz,Kc,g1,g2,g3,g4⟩:=h1 hc
   exact⟨by rw[hz],Kc,g1,g2,g3,g4,fun _=>trivial⟩
theorem ZeU.seqD {K0 Kc:Nat->Prop} {W:World} {pd p:Nat} {r:SDk × Int} {N T N' T':Nat} {X:(Nat->Prop)->World->Prop} {e:Ending} {w':World} (h:ZeU Kc W pd p r N T e w') (hK:∀ k,Kc k->k<W.heap.size) (h0:∀ k,K0 k->Kc k) (hN:N<=N') (hT:T<=T') (hX:Zas (fun k=>¬ Kc k) W w'->X Kc w'):ZuL K0 Kc pd p r N' T' X W e w':=by
 obtain⟨rfl,h2,h3⟩:=h
 exact⟨rfl,Kc,fun _ h=>h,fun k hk=>Nat.lt_of_lt_of_le (hK k hk) h3.size,h3.mono (fun k hk hn=>hk (h0 k hn)),h2.mono hN hT,fun _=>hX h3⟩
theorem Rd.keepK {w w':World} {v:Value} {l:List UInt8} {K:Nat->Prop} (h:Rd w v l) (hv:l=[]∨∀ k,v.ownBlock=some k->K k) (ho:Zas (fun k=>¬ K k) w w'):Rd w' v l:=by
 rcases hv with rfl | hv
 ·obtain⟨ao,cap,rfl,h2,h3,hn,h4⟩:=h
  exact⟨ao,cap,rfl,h2,h3,hn,.inl rfl⟩
 ·exact h.only ho fun k hk hg=>hg (hv k hk)
def ZcS (n:ZaU):List UInt8:=if Zgm n then ZxJ n else[]
theorem ZuM (n:ZaU):(ZcS n).length<=80000:=by
 unfold ZcS
 split
 ·rename_i h
  unfold ZxJ ZdY
  rw[ZaS,List.length_append]
  have h1:=ZeO h
  have h2:=Zhp (i:=n.idx.toNat) (by have:=h.1;omega) (w:=Zba n) (by omega)
  have h3:=Zca (d:=Zid n.idx.toNat (Zba n)) (by omega)
  have h4:=Zdd _ (Zba n) zL
  omega
 ·exact Nat.zero_le _
theorem ZrQ {K:Nat->Prop} {pd p R Rb:Nat} {s:Sto} {d:Dk} {N T:Nat} {v0:Value} (w:World) (h:SD K w pd p s d N T) (hR:w.cell? ⟨R,0,none⟩=some (ptr p)) (hb:Bk 53 w Rb #[v0]) (hRb:K Rb):
 Calls Tryz.prog 56 #[.pointer (some ⟨R,0,none⟩),.pointer (some ⟨Rb,0,none⟩)] w fun e w'=>e=.returned (.int .i64 (if Zgm s.now then 0 else 1))∧∃ v',Bk 53 w' Rb #[v']∧Rd w' v' (ZcS s.now)∧(∀ k,v'.ownBlock=some k->w.heap.size<=k∧k<w'.heap.size)∧
  SD (fun k=>K k∨(w.heap.size<=k∧k<w'.heap.size)) w' pd p s d N T∧Zas (fun k=>k=Rb) w w':=by
 have HS:=ZZ h
 have HB:=ZZ hb
 have HRB:=ZZ hRb
 obtain⟨F,M,I,L,h1,h2,-⟩:=h
 have HEN:=ZZ (Zru (snV (L.nx s)) s.now w h2.now.snV)
 obtain⟨c0,-,-,-,-,⟨c5,c6,c7,c8,c9,c10⟩,-⟩:=h2.cs
 obtain⟨la,ln,lc,ta,tn,tc,hvl,hvt⟩:=h2.now.shape
 have hvl':L.nl=.slice la ln lc:=hvl
 have hvt':L.nt=.slice ta tn tc:=hvt
 have HSN:Hid (snV (L.nx s)=.agg #[.int .i64 s.now.idx,.int .i64 s.now.st.kind,.slice la ln lc,.bool s.now.st.shut,.int .i64 s.now.st.eng,.slice ta tn tc]):=ZZ (by unfold snV snC ZhA.nx;rw[hvl',hvt'])
 rw[HSN.out] at HEN
 rw[hvl'] at c7
 rw[hvt'] at c10
 obtain⟨cd,hcd⟩:∃ cd:Int,cd=if Zgm s.now then 0 else 1:=⟨_,rfl⟩
 have HEN2:Hid (Calls Tryz.prog 57 #[.agg #[.int .i64 s.now.idx,.int .i64 s.now.st.kind,.slice la ln lc,.bool s.now.st.shut,.int .i64 s.now.st.eng,.slice ta tn tc]] w fun e w'=>∃ v',e=.returned (.tuple #[v',.int .i64 cd])∧Own w' w.heap.size v' (ZcS s.now)∧Below w.heap.size w w'):=ZZ (by rw[hcd];exact HEN.out)
 rw[<-hcd]
 have HBC:Hid (ZcS s.now=ZcS s.now):=ZZ rfl
 generalize ZcS s.now=BC at *
 generalize s.now.idx=n0 at *
 generalize s.now.st.kind=n1 at *
 generalize s.now.st.shut=n2 at *
 generalize s.now.st.eng=n3 at *
 obtain⟨b0,f0⟩:=hb.cell 0 rfl
 clear h1 h2 hvl hvt hvl' hvt' HSN HEN hcd HBC hb hRb
 go_enter Tryz.func56,Tryz.ntmps56
 go_wp2_with fail
 refine HEN2.out.mono ?_
 rintro e W1 ⟨v',rfl,ho,hbl⟩
 have HBL:=ZZ hbl
 have HOW:=ZZ ho
 have HB1:=ZZ (HB.out.keep (hbl.block _ HB.out.lt))
 obtain⟨va,vc,hv,-⟩:=ho.rd
 generalize hvn:BC.length=vn at hv
 clear hvn
 subst hv
 obtain⟨b1,f1⟩:=HB1.out.cell 0 rfl
 have HFI:Hid (∃ v',Bk 53 (W1.setCell ⟨Rb,0,none⟩ (.slice va vn vc)) Rb #[v']∧Rd (W1.setCell ⟨Rb,0,none⟩ (.slice va vn vc)) v' BC∧(∀ k,v'.ownBlock=some k->w.heap.size<=k∧k<(W1.setCell ⟨Rb,0,none⟩ (.slice va vn vc)).heap.size)∧
  SD (fun k=>K k∨(w.heap.size<=k∧k<(W1.setCell ⟨Rb,0,none⟩ (.slice va vn vc)).heap.size)) (W1.setCell ⟨Rb,0,none⟩ (.slice va vn vc)) pd p s d N T∧Zas (fun k=>k=Rb) w (W1.setCell ⟨Rb,0,none⟩ (.slice va vn vc))):=ZZ (by
  have hsz:(W1.setCell ⟨Rb,0,none⟩ (.slice va vn vc)).heap.size=W1.heap.size:=Zso _ _ _ _
  have hbk:=World.ownsRow.lt HOW.out
  have hlt:=HB.out.lt
  have ho1:Zas (fun k=>k=Rb) W1 (W1.setCell ⟨Rb,0,none⟩ (.slice va vn vc)):=(Zas.refl (fun k=>k=Rb) W1).setCell (b:=Rb) 0 (fun _=>rfl) _
  refine⟨_,HB1.out.set 0 _,?_,fun k hk=>by rw[hsz];exact hbk k hk,?_,(Zas.ofBelow HBL.out).trans ho1 (fun _ _ h=>h)⟩
  ·exact HOW.out.rd.only ho1 fun k hk e=>by
    have:=hbk k hk
    omega
  ·rw[hsz]
   exact(HS.out.fresh HBL.out).onlyK (ho1.mono (fun k hk=>by rw[hk];exact .inl HRB.out)))
 clear ho hbl
 go_wp2
 go_ret
 exact⟨rfl,HFI.out⟩
theorem ZuN {K:Nat->Prop} {pd p R Rb:Nat} {s:Sto} {d:Dk} {N T:Nat} {v:Value} (w:World) (h:SD K w pd p s d N T) (hK:∀ k,K k->k<w.heap.size) (hR:w.cell? ⟨R,0,none⟩=some (ptr p)) (hb:Bk 53 w Rb #[v]) (hr:Rd w v (ZcS s.now)) (hv:ZcS s.now=[]∨∀ k,v.ownBlock=some k->K k) (hN:N<=1000000) (hT:T<=1000000000):
 Calls Tryz.prog 58 #[.pointer (some ⟨R,0,none⟩),.pointer (some ⟨Rb,0,none⟩)] w fun e w'=>ZeU K w pd p (Zho (s,d)) (N+2) (T+80000) e w':=by
 have HC:Hid (∀ W,Below w.heap.size w W->Calls Tryz.prog 53 #[ptr pd,.int .i64 1,v] W fun e w'=>ZeU K W pd p (Zho (s,d)) (N+2) (T+80000) e w'):=ZZ (fun W hW=>(h.below hW).step (fun d=>ZaI d 1 (ZcS s.now)) (fun k hk=>Nat.lt_of_lt_of_le (hK k hk) hW.size) (fun F hF hFK=>by
  have hl:=ZuM s.now
  refine(Zmp 1 ⟨by decide,by decide⟩ v (ZcS s.now) W hF (hr.below hW zL) (hv.imp id fun h k hk hf=>hFK k hf (h k hk)) hN hT (by omega)).mono ?_
  rintro e w' ⟨g0,F',g1,g2⟩
  exact⟨g0,F',g1.mono zL (by omega),g2⟩))
 obtain⟨⟨c0,-⟩,-⟩:=h.cells
 have HSD:Hid (Below w.heap.size w w.drew):=ZZ (Below.refl _ _).drew
 obtain⟨b0,-⟩:=hb.cell 0 rfl
 obtain⟨va,vc,hv',-⟩:=id hr
 generalize hvn:(ZcS s.now).length=vn at hv'
 obtain⟨r,hr9⟩:∃ r,r=Zho (s,d):=⟨_,rfl⟩
 rw[<-hr9] at HC ⊢
 subst hv'
 clear h hK hr9 hr hv hb hvn
 go_enter Tryz.func58,Tryz.ntmps58
 go_upto_region 1 with fail
 go_region_with(first | (go_at_call 53;refine(HC.out _ HSD.out).mono ?_;rintro e W1 ⟨rfl,hs1,ho1⟩;have HS1:=ZZ (And.intro hs1 ho1);clear hs1 ho1))
 all_goals
  go_wp2
  go_ret
  exact⟨rfl,HS1.out.1,(Zas.ofBelow HSD.out).trans HS1.out.2 (fun _ _ h=>h)⟩
end Go.Proofs.YtfiffndhehkapaaGreatDoor
