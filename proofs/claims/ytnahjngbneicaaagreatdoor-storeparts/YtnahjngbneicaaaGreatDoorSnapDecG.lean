import Derived.Test.YtnahjngbneicaaaGreatDoorPack11
import Derived.Test.YtnahjngbneicaaaGreatDoorSnapDecF
import Derived.Test.YtnahjngbneicaaaGreatDoorPack8
namespace Go.Proofs.YtnahjngbneicaaaGreatDoor
set_option maxRecDepth 100000
open Go.RowKit
theorem ZwA (b off:Nat) (L:List (List UInt8)) (cap:Nat) (hlc:L.length<=cap) (h1:1<=L.length):
 ∃ xa xc,(∀ W,(Instr.sliceAt 144 (.slice (some ⟨b,off,none⟩) L.length cap) (some (.int .i64 1)) none none).run Tryz.prog W=.ok (.slice xa (L.length-1) xc) W)∧∀ W,RdL W (.slice (some ⟨b,off,none⟩) L.length cap) L->RdL W (.slice xa (L.length-1) xc) (L.drop 1):=by
 by_cases hc:cap=1
 ·refine⟨some ⟨b,off,none⟩,cap-1,fun W=>?_,fun W h=>?_⟩
  ·have hL:L.length=1:=by omega
   simp[go_sem,hL,hc]
  ·have hL:L.drop 1=[]:=List.drop_eq_nil_of_le (by omega)
   obtain⟨ao',cap',hv,k1,k2,k3,k4⟩:=h
   simp only [Value.slice.injEq] at hv
   obtain⟨rfl,-,rfl⟩:=hv
   exact⟨_,_,by rw[List.length_drop],by rw[List.length_drop];omega,by omega,(fun e=>by cases e),.inl hL⟩
 ·refine⟨some ⟨b,off+1,none⟩,cap-1,fun W=>?_,fun W h=>?_⟩
  ·have h2:(1:Int)<=(L.length:Int):=by omega
   simp[go_sem,hc,h2]
  ·obtain⟨ao',cap',hv,k1,k2,k3,k4⟩:=h
   simp only [Value.slice.injEq] at hv
   obtain⟨rfl,-,rfl⟩:=hv
   refine⟨_,_,by rw[List.length_drop],by rw[List.length_drop];omega,by omega,(fun e=>by cases e),?_⟩
   rcases k4 with k4 | ⟨b',off',k5,k6⟩
   ·rw[k4] at h1
    simp at h1
   ·injection k5 with k5
    injection k5 with k5 k7 _
    subst k5 k7
    refine .inr ⟨b,off+1,rfl,fun j hj=>?_⟩
    rw[List.length_drop] at hj
    obtain⟨x,hx,hxr⟩:=k6 (j+1) (by omega)
    refine⟨x,by rw[show off+1+j=off+(j+1) by omega];exact hx,?_⟩
    have e:(L.drop 1).getD j []=L.getD (j+1) []:=by simp[List.getD]
    rw[e]
    exact hxr
theorem ZsB:ZkU []=(Zbb,16):=rfl
theorem Zqa (d:List UInt8) (P:List (List UInt8)):ZkU (d::P)=if(ZbH d).2.2.2≠0 then(Zbb,(ZbH d).2.2.2) else if Zmz P (ZbH d).2.1 (ZbH d).2.2.1≠0 then(Zbb,Zmz P (ZbH d).2.1 (ZbH d).2.2.1)
 else if(ZbD P.flatten).2≠0 then(Zbb,(ZbD P.flatten).2) else if Zks ⟨((ZbH d).1:Nat),(ZbD P.flatten).1.st,(ZbD P.flatten).1.tab⟩ then(⟨((ZbH d).1:Nat),(ZbD P.flatten).1.st,(ZbD P.flatten).1.tab⟩,0) else(Zbb,1):=by
 unfold Zmz
 rw[ZkU]
 by_cases h0:(ZbH d).2.2.2≠0
 ·rw[if_pos h0,if_pos h0]
 rw[if_neg h0,if_neg h0]
 by_cases h1:P.flatten.length≠(ZbH d).2.1
 ·rw[if_pos h1,if_pos h1,if_pos (by decide)]
 rw[if_neg h1,if_neg h1]
 by_cases h2:¬ Zhh P
 ·rw[if_pos h2,if_pos h2,if_pos (by decide)]
 rw[if_neg h2,if_neg h2]
 by_cases h3:ZaH 0 P.flatten≠(ZbH d).2.2.1
 ·rw[if_pos h3,if_pos h3,if_pos (by decide)]
 rw[if_neg h3,if_neg h3,if_neg (show ¬ ((0:Int)≠0) by decide)]
theorem ZgQ:∀ L:List (List UInt8),L.flatten.length+L.length<=(Zag L).length
 | []=>by simp[Zag]
 | x::t=>by
  have ih:=ZgQ t
  have:=Zap x
  rw[Zcn,List.length_append,List.flatten_cons,List.length_append,List.length_cons]
  omega
set_option maxHeartbeats 4000000 in
theorem Zqb (v:Value) (b:List UInt8) (w:World) (hr:Rd w v b) (hlim:b.length<=100000):
 Calls Tryz.prog 76 #[v] w fun e w'=>Zey w (ZoQ b) e w':=by
 obtain⟨W0,hW0⟩:∃ W0,W0=w.alloc (.cells #[.int .i64 0,.int .i64 0,.slice none 0 0,.bool false,.int .i64 0,.slice none 0 0] 41):=⟨_,rfl⟩
 have HB0:Hid (Below w.heap.size w W0):=ZZ (by rw[hW0];exact(Below.refl _ _).alloc zL _)
 have HX0:Hid (Bn W0 w.heap.size #[.int .i64 0,.int .i64 0,.slice none 0 0,.bool false,.int .i64 0,.slice none 0 0]):=ZZ (by rw[hW0];exact heap_alloc_new w _)
 have HAL:=ZZ (ZxR v b W0 (hr.below HB0.out zL) (by omega))
 obtain⟨va,vc,hv⟩:∃ a c,v=.slice a b.length c:=by obtain⟨a,c,h,-⟩:=hr;exact⟨a,c,h⟩
 subst hv
 obtain⟨DN,hDN⟩:∃ DN,DN=ZoQ b:=⟨_,rfl⟩
 rw[<-hDN]
 by_cases hw:(Zal b).2.2=0
 case neg=>
  have HD:Hid (DN=(Zbb,(((Zal b).2.2:Nat):Int))):=ZZ (by rw[hDN];unfold ZoQ;rw[if_pos hw])
  have ha:Zxe b=([],(Zal b).2.2):=by unfold Zxe;rw[if_neg hw]
  rw[ha] at HAL
  dsimp only at HAL
  generalize (Zal b).2.2=er at *
  have her:((er:Int) != 0)=true:=by rw[bne_iff_ne];omega
  obtain⟨E,hE⟩:∃ E:Int,E=(er:Int):=⟨_,rfl⟩
  rw[<-hE] at HAL HD her
  clear ha hDN hw hE hr
  go_enter Tryz.func76,Tryz.ntmps76
  go_wp2_with fail
  rw[<-hW0]
  refine HAL.out.mono ?_
  rintro e W1 ⟨v1,rfl,hr1,hb1⟩
  have HX1:=ZZ (HX0.out.below hb1 zL)
  have HB1:=ZZ (HB0.out.trans (hb1.mono HB0.out.size))
  obtain⟨z0,y0⟩:=HX1.out.cell 0
  obtain⟨z1,y1⟩:=HX1.out.cell 1
  obtain⟨z2,y2⟩:=HX1.out.cell 2
  obtain⟨z3,y3⟩:=HX1.out.cell 3
  obtain⟨z4,y4⟩:=HX1.out.cell 4
  obtain⟨z5,y5⟩:=HX1.out.cell 5
  clear hb1 hr1
  go_wp2
  refine bodyPost_ret (v:=.tuple #[.agg #[.int .i64 0,.int .i64 0,.slice none 0 0,.bool false,.int .i64 0,.slice none 0 0],.int .i64 E]) (by simp[results,Tryz.results76,go_sem,z0,z1,z2,z3,z4,z5]) rfl ?_
  rw[HD.out]
  exact Zey.zero _ (ZdB HB1.out _ zL _ _ _ _ _ _)
 have HD:Hid (DN=ZkU (Zal b).1):=ZZ (by rw[hDN];unfold ZoQ;rw[if_neg (fun h=>h hw)])
 have ha:Zxe b=((Zal b).1,0):=by unfold Zxe;rw[if_pos hw]
 have hfl:=ZgQ (Zal b).1
 rw[(Zhf b.length b zL hw).1] at hfl
 rw[ha] at HAL
 dsimp only at HAL
 generalize (Zal b).1=LS at *
 clear ha hDN hw hr
 cases LS with
 | nil=>
  rw[ZsB] at HD
  go_enter Tryz.func76,Tryz.ntmps76
  go_wp2_with fail
  rw[<-hW0]
  refine HAL.out.mono ?_
  rintro e W1 ⟨v1,rfl,hr1,hb1⟩
  obtain⟨a1,c1,hv1⟩:∃ a c,v1=.slice a 0 c:=by obtain⟨a,c,h,-⟩:=hr1;exact⟨a,c,h⟩
  subst hv1
  have HX1:=ZZ (HX0.out.below hb1 zL)
  have HB1:=ZZ (HB0.out.trans (hb1.mono HB0.out.size))
  obtain⟨z0,y0⟩:=HX1.out.cell 0
  obtain⟨z1,y1⟩:=HX1.out.cell 1
  obtain⟨z2,y2⟩:=HX1.out.cell 2
  obtain⟨z3,y3⟩:=HX1.out.cell 3
  obtain⟨z4,y4⟩:=HX1.out.cell 4
  obtain⟨z5,y5⟩:=HX1.out.cell 5
  clear hb1 hr1
  go_wp2
  refine bodyPost_ret (v:=.tuple #[.agg #[.int .i64 0,.int .i64 0,.slice none 0 0,.bool false,.int .i64 0,.slice none 0 0],.int .i64 16]) (by simp[results,Tryz.results76,go_sem,z0,z1,z2,z3,z4,z5]) rfl ?_
  rw[HD.out]
  exact Zey.zero _ (ZdB HB1.out _ zL _ _ _ _ _ _)
 | cons d P=>
  rw[Zqa] at HD
  have hPf:P.flatten.length<=100000:=by rw[List.flatten_cons,List.length_append,List.length_cons] at hfl;omega
  have hPl:P.length<=100000:=by rw[List.flatten_cons,List.length_append,List.length_cons] at hfl;omega
  have HLP:Hid ((d::P).length=P.length+1):=ZZ rfl
  have HRM:=ZZ (fun v1 W h=>Zim v1 d W h)
  have HJN:=ZZ (fun i n c vp W h=>Zwz i n c vp P W h hPf hPl)
  have HRW:=ZZ (fun v1 W h=>Zmy v1 P.flatten W h hPf)
  have HMI:Hid (I64 ((ZbH d).1:Nat)):=ZZ (by
   have:(ZbH d).1<4611686018427387904:=by
    unfold ZbH
    split
    ·decide
    dsimp only
    split
    ·decide
    split
    ·decide
    split
    ·decide
    rcases Zau (d.drop (1+(Zab (d.drop 1)).2)) with h | h
    ·rw[h];exact(by decide:(0:Nat)<4611686018427387904)
    ·exact h.1
   exact⟨by omega,by omega⟩)
  unfold ZyL at HRM
  have HZR:Hid (∀ (W:World) (n:Int),Below w.heap.size w W->DN=(Zbb,n)->Zey w DN (.returned (.tuple #[.agg #[.int .i64 0,.int .i64 0,.slice none 0 0,.bool false,.int .i64 0,.slice none 0 0],.int .i64 n])) ((((((W.setCell ⟨w.heap.size,0,none⟩ (.int .i64 0)).setCell ⟨w.heap.size,1,none⟩ (.int .i64 0)).setCell ⟨w.heap.size,2,none⟩ (.slice none 0 0)).setCell ⟨w.heap.size,3,none⟩ (.bool false)).setCell ⟨w.heap.size,4,none⟩ (.int .i64 0)).setCell ⟨w.heap.size,5,none⟩ (.slice none 0 0))):=ZZ (fun W n h e=>by
   rw[e]
   exact Zey.zero _ (ZdB h _ zL _ _ _ _ _ _))
  clear hfl
  generalize ZbH d=RM at *
  obtain⟨mi,mn,mc,me⟩:=RM
  dsimp only at HD HRM HMI
  have HCR:=ZZ (fun rb ro c h=>ZwA rb ro (d::P) c h (by simp))
  have hpi:(P.length:Int)<=100000:=by omega
  go_enter Tryz.func76,Tryz.ntmps76
  go_wp2_with fail
  rw[<-hW0]
  refine HAL.out.mono ?_
  rintro e W1 ⟨v1,rfl,hr1,hb1⟩
  have HX1:=ZZ (HX0.out.below hb1 zL)
  have HB1:=ZZ (HB0.out.trans (hb1.mono HB0.out.size))
  have HR1:=ZZ hr1
  obtain⟨a1,c1,hv1,hlc1,-,-,hao1⟩:=hr1
  subst hv1
  rcases hao1 with h0 | ⟨rb,ro,rfl,hc⟩
  ·cases h0
  obtain⟨x0,hx0,hxr⟩:=hc 0 (by simp)
  have hx0':W1.cell? ⟨rb,ro,none⟩=some x0:=hx0
  have hxr':Rd W1 x0 d:=hxr
  have HXR:=ZZ hxr'
  obtain⟨xa,xc,hxv⟩:∃ a c,x0=.slice a d.length c:=by obtain⟨a,c,h,-⟩:=hxr';exact⟨a,c,h⟩
  subst hxv
  obtain⟨ra,rc,hcr,hcv⟩:=HCR.out rb ro c1 hlc1
  rw[HLP.out,Nat.add_sub_cancel] at hcr
  have HCV:=ZZ (fun W h=>hcv W h)
  rw[HLP.out,Nat.add_sub_cancel,List.drop_one,List.tail_cons] at HCV
  rw[HLP.out] at HR1 ⊢
  have he0:((P.length:Int)+1 == 0)=false:=beq_eq_false_iff_ne.2 (by omega)
  have hp0:(0:Int)<(P.length:Int)+1:=by omega
  clear hb1 hc hx0 hxr hcv HAL hlc1 HCR hxr' hW0 HX0 HB0
  go_wp2_with fail
  refine(HRM.out _ _ HXR.out).mono ?_
  rintro e W2 ⟨rfl,hb2⟩
  obtain⟨W3,hW3⟩:∃ W3,W3=W2.alloc (.cells #[.int .i64 (mi:Int),.int .i64 (mn:Int),.int .u32 (mc:Int)] 147):=⟨_,rfl⟩
  have HB23:Hid (Below W2.heap.size W2 W3):=ZZ (by rw[hW3];exact(Below.refl _ _).alloc zL _)
  have HM3:Hid (Bq W3 W2.heap.size #[.int .i64 (mi:Int),.int .i64 (mn:Int),.int .u32 (mc:Int)]):=ZZ (by rw[hW3];exact heap_alloc_new W2 _)
  have HX3:=ZZ ((HX1.out.below hb2 zL).below HB23.out zL)
  have HB3:=ZZ ((HB1.out.trans (hb2.mono HB1.out.size)).trans (HB23.out.mono (Nat.le_trans HB1.out.size hb2.size)))
  have HR3:=ZZ ((HR1.out.below hb2 zL).below HB23.out zL)
  go_upto_region 7 with fail
  rw[<-hW3]
  obtain⟨QM,hQM⟩:∃ QM,QM=W2.heap.size:=⟨_,rfl⟩
  rw[<-hQM] at HM3 ⊢
  clear hW3 hQM hb2 hx0' HX1 HB1 HR1 HRM HXR HB23
  by_cases hme:me=0
  case neg=>
   have hme':(me != 0)=true:=by rw[bne_iff_ne];exact hme
   have HF:Hid (DN=(Zbb,me)):=ZZ (by rw[HD.out,if_pos hme])
   obtain⟨z0,y0⟩:=HX3.out.cell 0
   obtain⟨z1,y1⟩:=HX3.out.cell 1
   obtain⟨z2,y2⟩:=HX3.out.cell 2
   obtain⟨z3,y3⟩:=HX3.out.cell 3
   obtain⟨z4,y4⟩:=HX3.out.cell 4
   obtain⟨z5,y5⟩:=HX3.out.cell 5
   clear hme
   go_wp2
   refine bodyPost_ret (v:=.tuple #[.agg #[.int .i64 0,.int .i64 0,.slice none 0 0,.bool false,.int .i64 0,.slice none 0 0],.int .i64 me]) (by simp[results,Tryz.results76,go_sem,z0,z1,z2,z3,z4,z5]) rfl ?_
   exact HZR.out _ _ HB3.out HF.out
  have hme':(me != 0)=false:=by rw[bne_eq_false_iff_eq];exact hme
  have HD2:Hid (DN=if Zmz P mn mc≠0 then(Zbb,Zmz P mn mc) else if(ZbD P.flatten).2≠0 then(Zbb,(ZbD P.flatten).2) else if Zks ⟨(mi:Nat),(ZbD P.flatten).1.st,(ZbD P.flatten).1.tab⟩ then(⟨(mi:Nat),(ZbD P.flatten).1.st,(ZbD P.flatten).1.tab⟩,0) else(Zbb,1)):=ZZ (by rw[HD.out,if_neg (fun h=>h hme)])
  have HJQ:=ZZ (fun W h=>HJN.out (mi:Int) mn mc (.slice ra P.length rc) W h)
  obtain⟨je,hje⟩:∃ je,je=Zmz P mn mc:=⟨_,rfl⟩
  rw[<-hje] at HD2 HJQ
  unfold Joined at HJQ
  clear hme hje HD HJN
  generalize P.flatten=FL at *
  obtain⟨RL,hRL⟩:∃ RL,RL=if je=0 then FL else[]:=⟨_,rfl⟩
  rw[<-hRL] at HJQ
  have HRL:=ZZ hRL
  clear hRL
  have HKA:Hid (∀ W,Below W3.heap.size W3 W->W.cell? ⟨QM,0,none⟩=some (.int .i64 (mi:Int))∧W.cell? ⟨QM,1,none⟩=some (.int .i64 (mn:Int))∧W.cell? ⟨QM,2,none⟩=some (.int .u32 (mc:Int))):=ZZ (fun W h=>by
   have hx:=HM3.out.below h zL
   exact⟨(hx.cell 0).1,(hx.cell 1).1,(hx.cell 2).1⟩)
  have HBD:Hid (Below W3.heap.size W3 W3.drew):=ZZ ((Below.refl _ _).drew)
  go_upto_region 9 with fail
  go_cut[5,7] (fun x5 x7 wc=>∃ a c,x5=.int .i64 je∧x7=.slice a RL.length c∧Hid (Rd wc (.slice a RL.length c) RL)∧Hid (Below W3.heap.size W3 wc))
  case first=>
   go_region_held(fun w'=>w'.cell? ⟨QM,0,none⟩=some (.int .i64 (mi:Int))∧w'.cell? ⟨QM,1,none⟩=some (.int .i64 (mn:Int))∧w'.cell? ⟨QM,2,none⟩=some (.int .u32 (mc:Int))) (first | (with_reducible exact HKA.out _ HBD.out) | (with_reducible exact HKA.out _ hbk4))
    (first
     | (go_at_call 116;refine(HJQ.out W3.drew (HCV.out _ (HR3.out.below HBD.out zL))).mono ?_;rintro e W4 ⟨v4,rfl,hr4,hb4⟩;have hbk4:Below W3.heap.size W3 W4:=HBD.out.trans hb4;have HR4:=ZZ hr4;obtain⟨a4,c4,hv4⟩:∃ a c,v4=.slice a RL.length c:=(by obtain⟨a,c,h,-⟩:=hr4;exact⟨a,c,h⟩);subst hv4;clear hr4 hb4))
   all_goals
    go_wp2_with fail
    go_meet
    exact⟨a4,c4,rfl,rfl,HR4,ZZ hbk4⟩
  case rest=>
   obtain⟨WC,rfl⟩:∃ W,W=wc:=⟨_,rfl⟩
   obtain⟨a4,c4,rfl,rfl,HR4,HB4⟩:=hcut
   have HX4:=ZZ (HX3.out.below HB4.out zL)
   have HM4:=ZZ (HM3.out.below HB4.out zL)
   have HBW4:=ZZ (HB3.out.trans (HB4.out.mono HB3.out.size))
   clear HX3 HM3 HB3 HR3 HB4 HKA HBD HJQ HCV hcr
   by_cases hj0:je=0
   case neg=>
    have hj':(je != 0)=true:=by rw[bne_iff_ne];exact hj0
    have HF:Hid (DN=(Zbb,je)):=ZZ (by rw[HD2.out,if_pos hj0])
    obtain⟨z0,y0⟩:=HX4.out.cell 0
    obtain⟨z1,y1⟩:=HX4.out.cell 1
    obtain⟨z2,y2⟩:=HX4.out.cell 2
    obtain⟨z3,y3⟩:=HX4.out.cell 3
    obtain⟨z4,y4⟩:=HX4.out.cell 4
    obtain⟨z5,y5⟩:=HX4.out.cell 5
    clear hj0
    go_wp2
    refine bodyPost_ret (v:=.tuple #[.agg #[.int .i64 0,.int .i64 0,.slice none 0 0,.bool false,.int .i64 0,.slice none 0 0],.int .i64 je]) (by simp[results,Tryz.results76,go_sem,z0,z1,z2,z3,z4,z5]) rfl ?_
    exact HZR.out _ _ HBW4.out HF.out
   have hj':(je != 0)=false:=by rw[bne_eq_false_iff_eq];exact hj0
   have hRF:RL=FL:=by rw[HRL.out,if_pos hj0]
   subst hRF
   have HD3:Hid (DN=if(ZbD RL).2≠0 then(Zbb,(ZbD RL).2) else if Zks ⟨(mi:Nat),(ZbD RL).1.st,(ZbD RL).1.tab⟩ then(⟨(mi:Nat),(ZbD RL).1.st,(ZbD RL).1.tab⟩,0) else(Zbb,1)):=ZZ (by rw[HD2.out,if_neg (fun h=>h hj0)])
   have HRQ:=ZZ (HRW.out _ _ HR4.out)
   clear hj0 HD2 HRW
   go_wp2_with fail
   refine HRQ.out.mono ?_
   rintro e W5 ⟨vl,vt,S,t,ok,rfl,hl5,hk5,he5,ht5,hf5,hg5,hn5,hs5,hb5⟩
   obtain⟨la,lc,hlv⟩:∃ a c,vl=.slice a S.L.length c:=by obtain⟨a,c,h,-⟩:=hl5;exact⟨a,c,h⟩
   obtain⟨ta,tc,htv⟩:=ht5.shape
   subst hlv htv
   obtain⟨W6,hW6⟩:∃ W6,W6=W5.alloc (.cells #[.int .i64 S.kind,.slice la S.L.length lc,.bool S.shut,.int .i64 S.eng] 38):=⟨_,rfl⟩
   have HB56:Hid (Below W5.heap.size W5 W6):=ZZ (by rw[hW6];exact(Below.refl _ _).alloc zL _)
   have HS6:Hid (Bx W6 W5.heap.size #[.int .i64 S.kind,.slice la S.L.length lc,.bool S.shut,.int .i64 S.eng]):=ZZ (by rw[hW6];exact heap_alloc_new W5 _)
   have HX6:=ZZ ((HX4.out.below hb5 zL).below HB56.out zL)
   have HM6:=ZZ ((HM4.out.below hb5 zL).below HB56.out zL)
   have HBW5:=ZZ (HBW4.out.trans (hb5.mono HBW4.out.size))
   have HBW6:=ZZ (HBW5.out.trans (HB56.out.mono HBW5.out.size))
   have HL6:=ZZ (hl5.below HB56.out zL)
   have HT6:=ZZ (ht5.below HB56.out zL)
   have HKE:=ZZ (And.intro hk5 he5)
   have HFR:Hid ((∀ k,(Value.slice la S.L.length lc).ownBlock=some k->w.heap.size<k)∧(∀ k,(Value.slice ta t.length tc).ownBlock=some k->w.heap.size<k)):=ZZ ⟨fun k hk=>by have h1:=hf5 k hk;have h2:=HX4.out.lt;omega,fun k hk=>by have h1:=hg5 k hk;have h2:=HX4.out.lt;omega⟩
   have HN5:=ZZ hn5
   have HS5:=ZZ hs5
   go_upto_region 13 with fail
   rw[<-hW6]
   obtain⟨QS,hQS⟩:∃ QS,QS=W5.heap.size:=⟨_,rfl⟩
   rw[<-hQS] at HS6 ⊢
   clear hW6 hQS hl5 hk5 he5 ht5 hf5 hg5 hn5 hs5 hb5 HX4 HM4 HBW4 HRQ HR4 HB56 HBW5
   cases ok with
   | false=>
    have h3:=HN5.out rfl
    have HF:Hid (DN=(Zbb,3)):=ZZ (by rw[HD3.out,if_pos (by rw[h3];decide),h3])
    obtain⟨z0,y0⟩:=HX6.out.cell 0
    obtain⟨z1,y1⟩:=HX6.out.cell 1
    obtain⟨z2,y2⟩:=HX6.out.cell 2
    obtain⟨z3,y3⟩:=HX6.out.cell 3
    obtain⟨z4,y4⟩:=HX6.out.cell 4
    obtain⟨z5,y5⟩:=HX6.out.cell 5
    clear h3
    go_wp2
    refine bodyPost_ret (v:=.tuple #[.agg #[.int .i64 0,.int .i64 0,.slice none 0 0,.bool false,.int .i64 0,.slice none 0 0],.int .i64 3]) (by simp[results,Tryz.results76,go_sem,z0,z1,z2,z3,z4,z5]) rfl ?_
    exact HZR.out _ _ HBW6.out HF.out
   | true=>
    obtain⟨er,hrn,her⟩:=HS5.out rfl
    rw[hrn] at HD3
    dsimp only at HD3
    have HF:Hid (DN=if Zks ⟨(mi:Nat),S,t⟩ then(⟨(mi:Nat),S,t⟩,0) else(Zbb,1)):=ZZ (by
     rcases her with h | ⟨h,h2⟩
     ·rw[HD3.out,if_neg (fun h'=>h' h)]
     ·rw[HD3.out,if_pos (by rw[h];decide),h,h2,if_neg (Zub _ _)])
    have HMY:=ZZ (fun W (h:Below W6.heap.size W6 W)=>Zwo (.agg #[.int .i64 ((mi:Nat):Int),.int .i64 S.kind,.slice la S.L.length lc,.bool S.shut,.int .i64 S.eng,.slice ta t.length tc]) ⟨(mi:Nat),S,t⟩ W ⟨_,_,rfl,HL6.out.below h zL,HKE.out.1,HKE.out.2,HT6.out.below h zL,HMI.out⟩)
    obtain⟨m0,-⟩:=HM6.out.cell 0
    obtain⟨s0,-⟩:=HS6.out.cell 0
    obtain⟨s1,-⟩:=HS6.out.cell 1
    obtain⟨s2,-⟩:=HS6.out.cell 2
    obtain⟨s3,-⟩:=HS6.out.cell 3
    have HA7:Hid (∀ X,Below W6.heap.size W6 (W6.alloc X)):=ZZ (fun X=>(Below.refl _ _).alloc zL X)
    have HQ7:Hid (∀ cs,Bn (W6.alloc (.cells cs 41)) W6.heap.size cs):=ZZ (fun cs=>heap_alloc_new W6 _)
    obtain⟨my,hmy⟩:∃ my,my=decide (Zks ⟨((mi:Nat):Int),S,t⟩):=⟨_,rfl⟩
    rw[<-hmy] at HMY
    have HMM:=ZZ hmy
    clear hrn her HS5 HN5 HD3 hmy
    go_wp2_with fail
    refine(HMY.out _ (HA7.out _)).mono ?_
    rintro e W8 ⟨rfl,hb8⟩
    have HX8:=ZZ ((HX6.out.below (HA7.out _) zL).below hb8 zL)
    have HQ8:=ZZ ((HQ7.out _).below hb8 zL)
    have HB68:=ZZ ((HA7.out _).trans (hb8.mono (HA7.out _).size))
    have HBW8:=ZZ (HBW6.out.trans (HB68.out.mono HBW6.out.size))
    have HL8:=ZZ (HL6.out.below HB68.out zL)
    have HT8:=ZZ (HT6.out.below HB68.out zL)
    obtain⟨z0,y0⟩:=HX8.out.cell 0
    obtain⟨z1,y1⟩:=HX8.out.cell 1
    obtain⟨z2,y2⟩:=HX8.out.cell 2
    obtain⟨z3,y3⟩:=HX8.out.cell 3
    obtain⟨z4,y4⟩:=HX8.out.cell 4
    obtain⟨z5,y5⟩:=HX8.out.cell 5
    clear hb8 HMY m0 s0 s1 s2 s3 HX6 HA7 HQ7 HB68
    cases my with
    | false=>
     have HF2:Hid (DN=(Zbb,1)):=ZZ (by rw[HF.out,if_neg (of_decide_eq_false HMM.out.symm)])
     go_wp2
     refine bodyPost_ret (v:=.tuple #[.agg #[.int .i64 0,.int .i64 0,.slice none 0 0,.bool false,.int .i64 0,.slice none 0 0],.int .i64 1]) (by simp[results,Tryz.results76,go_sem,z0,z1,z2,z3,z4,z5]) rfl ?_
     exact HZR.out _ _ HBW8.out HF2.out
    | true=>
     have HF2:Hid (DN=(⟨((mi:Nat):Int),S,t⟩,0)):=ZZ (by rw[HF.out,if_pos (of_decide_eq_true HMM.out.symm)])
     obtain⟨q0,-⟩:=HQ8.out.cell 0
     obtain⟨q1,-⟩:=HQ8.out.cell 1
     obtain⟨q2,-⟩:=HQ8.out.cell 2
     obtain⟨q3,-⟩:=HQ8.out.cell 3
     obtain⟨q4,-⟩:=HQ8.out.cell 4
     obtain⟨q5,-⟩:=HQ8.out.cell 5
     go_wp2
     refine bodyPost_ret (v:=.tuple #[.agg #[.int .i64 (mi:Int),.int .i64 S.kind,.slice la S.L.length lc,.bool S.shut,.int .i64 S.eng,.slice ta t.length tc],.int .i64 0]) (by simp[results,Tryz.results76,go_sem,z0,z1,z2,z3,z4,z5]) rfl ?_
     rw[HF2.out]
     have hbt:=ZqL W8 w.heap.size (.int .i64 (mi:Int)) (.int .i64 S.kind) (.slice la S.L.length lc) (.bool S.shut) (.int .i64 S.eng) (.slice ta t.length tc)
     exact⟨_,_,rfl,HL8.out.but hbt (.inr fun k hk=>by have:=HFR.out.1 k hk;omega),HKE.out.1,HKE.out.2,HT8.out.but hbt (.inr fun k hk=>by have:=HFR.out.2 k hk;omega),HMI.out,(fun k hk=>Nat.le_of_lt (HFR.out.1 k hk)),(fun k hk=>Nat.le_of_lt (HFR.out.2 k hk)),ZgA HBW8.out _ zL _ _ _ _ _ _⟩
end Go.Proofs.YtnahjngbneicaaaGreatDoor
