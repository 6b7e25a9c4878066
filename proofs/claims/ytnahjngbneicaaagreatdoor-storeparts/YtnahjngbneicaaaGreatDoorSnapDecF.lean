import Derived.Test.YtnahjngbneicaaaGreatDoorPack8
import Derived.Test.YtnahjngbneicaaaGreatDoorPack11
import Derived.Deep.RegionHeld
namespace Go.Proofs.YtnahjngbneicaaaGreatDoor
set_option maxHeartbeats 4000000
set_option maxRecDepth 100000
open Go.RowKit
theorem Zkc (va vb:Value) (a b:List UInt8) (w:World) (ha:Rd w va a) (hb:Rd w vb b):
 Calls Tryz.prog 163 #[va,vb] w fun e w'=>e=.returned (.bool (decide (a=b)))∧w'=w:=by
 have ca:=ha.str
 have cb:=hb.str
 have hse:((bs a).toList == (bs b).toList)=decide (a=b):=by
  rw[Zzh]
  by_cases h:a=b
  ·rw[h,decide_eq_true rfl];exact beq_self_eq_true b
  ·rw[decide_eq_false h,beq_eq_false_iff_ne];exact h
 generalize decide (a=b)=D at *
 clear ha hb
 go_enter Tryz.func163,Tryz.ntmps163
 go_wp2
 go_ret
 exact⟨rfl,rfl⟩
theorem Zol {A B:List (List UInt8)} {k:Nat} (hA:k<A.length) (hB:k<B.length) (h:A.take k=B.take k) (h2:A.getD k []=B.getD k []):A.take (k+1)=B.take (k+1):=by
 rw[List.take_add_one,List.take_add_one,h]
 congr 1
 simp only [List.getD,List.getElem?_eq_getElem hA,List.getElem?_eq_getElem hB,Option.getD_some] at h2 ⊢
 rw[h2]
theorem ZkJ (va vb:Value) (A B:List (List UInt8)) (w:World) (ha:RdL w va A) (hb:RdL w vb B):
 Calls Tryz.prog 162 #[va,vb,.func (.func 163) #[] #[]] w fun e w'=>e=.returned (.bool (decide (A=B)))∧w'=w:=by
 obtain⟨aa,ac,rfl,hla,hcm,-,haa⟩:=ha
 obtain⟨ba,bc,rfl,-,-,-,hab⟩:=hb
 have HAA:=ZZ haa
 have HAB:=ZZ hab
 have HEQ:=ZZ (fun x y a b h1 h2=>Zkc x y a b w h1 h2)
 obtain⟨D,hD⟩:∃ D,D=decide (A=B):=⟨_,rfl⟩
 rw[<-hD]
 have HD1:Hid (A=B->D=true):=fun h=>by rw[hD];exact decide_eq_true h
 have HD0:Hid (¬ A=B->D=false):=fun h=>by rw[hD];exact decide_eq_false h
 have hml:(A.length:Int)<=9223372036854775807:=by unfold maxLen at hcm;omega
 clear hD haa hab hcm hla
 by_cases hlen:A.length=B.length
 case neg=>
  have hne:((A.length:Int) != (B.length:Int))=true:=by rw[bne_iff_ne];omega
  have HE:=ZZ (HD0.out (fun h=>hlen (by rw[h])))
  clear hlen
  go_enter Tryz.func162,Tryz.ntmps162
  go_wp2
  go_ret
  rw[HE.out]
  exact⟨rfl,rfl⟩
 have hne:((A.length:Int) != (B.length:Int))=false:=by rw[bne_eq_false_iff_eq];omega
 have HLEN:=ZZ hlen
 have HDT:Hid (A.take A.length=B.take A.length->D=true):=ZZ (fun h=>HD1.out (by
  rw[List.take_length,HLEN.out,List.take_length] at h
  exact h))
 have HDF:Hid (∀ k,k<A.length->A.getD k []≠B.getD k []->D=false):=ZZ (fun k hk h=>HD0.out (fun hs=>h (by rw[hs])))
 clear hlen HD1 HD0
 go_enter Tryz.func162,Tryz.ntmps162
 go_wp2
 go_loopw[17] (fun vi wr=>∃ k:Nat,vi=.int .i64 (k:Int)∧k<=A.length∧Hid (A.take k=B.take k)∧wr=w) (fun vi _=>A.length-(intOf vi).toNat)
 case atStart=>exact⟨0,rfl,Nat.zero_le _,rfl,rfl⟩
 case round=>
  obtain⟨k,rfl,hk,hP,rfl⟩:=hrel
  by_cases hlt:k<A.length
  case neg=>
   obtain rfl:k=A.length:=by omega
   have HT:=ZZ (HDT.out hP.out)
   go_wp2
   go_ret
   rw[HT.out]
   exact⟨rfl,rfl⟩
  have hlb:k<B.length:=by have:=HLEN.out;omega
  rcases HAA.out with h0 | ⟨c,off,rfl,hc⟩
  ·rw[h0] at hlt;simp at hlt
  rcases HAB.out with h0 | ⟨c',off',rfl,hc'⟩
  ·rw[h0] at hlb;simp at hlb
  obtain⟨x,hx,hxr⟩:=hc k hlt
  obtain⟨y,hy,hyr⟩:=hc' k hlb
  have hki:(k:Int)<(A.length:Int):=by omega
  have hkj:(k:Int)<(B.length:Int):=by omega
  have HNE:=ZZ (HDF.out k hlt)
  have HPN:Hid (A.getD k []=B.getD k []->A.take (k+1)=B.take (k+1)):=ZZ (fun h=>Zol hlt hlb hP.out h)
  have HQ:=ZZ (HEQ.out x y _ _ hxr hyr)
  obtain⟨xa,xc,hxv⟩:∃ a c,x=.slice a (A.getD k []).length c:=by obtain⟨a,c,h,-⟩:=hxr;exact⟨a,c,h⟩
  obtain⟨ya,yc,hyv⟩:∃ a c,y=.slice a (B.getD k []).length c:=by obtain⟨a,c,h,-⟩:=hyr;exact⟨a,c,h⟩
  subst hxv hyv
  clear hc hc' hxr hyr HDT HDF HAA HAB HEQ
  generalize A.getD k []=X at *
  generalize B.getD k []=Y at *
  by_cases hxy:X=Y
  ·have HP1:=ZZ (HPN.out hxy)
   have HD:Hid (decide (X=Y)=true):=decide_eq_true hxy
   rw[HD.out] at HQ
   clear HNE HPN hxy
   go_wp2_with fail
   refine HQ.out.mono ?_
   rintro e W1 ⟨rfl,hw1⟩
   rw[hw1]
   clear hw1 W1
   go_wp2
   go_roundw
   case rel=>exact⟨k+1,by go_num,by omega,HP1,trivial⟩
   case measure=>simp[intOf];omega
  ·have HDD:=ZZ (HNE.out hxy)
   have HD:Hid (decide (X=Y)=false):=decide_eq_false hxy
   rw[HD.out] at HQ
   clear HNE HPN hxy
   go_wp2_with fail
   refine HQ.out.mono ?_
   rintro e W1 ⟨rfl,hw1⟩
   rw[hw1]
   clear hw1 W1
   go_wp2
   go_ret
   rw[HDD.out]
   exact⟨rfl,rfl⟩
theorem ZpZ (v:Value) (L:List (List UInt8)) (w:World) (hr:RdL w v L) (hlim:L.flatten.length<=1000000) (hn:L.length<=100000):
 Calls Tryz.prog 131 #[v] w fun e w'=>∃ v',e=.returned v'∧Own w' w.heap.size v' L.flatten∧Below w.heap.size w w':=by
 have HG:=ZZ (fun n W h=>ZqO n W h)
 have HRL:=ZZ hr
 have HLE:Hid (∀ k,Zmo L k<=1000000):=fun k=>Nat.le_trans (ZuB L k) hlim
 have HFN:=ZZ (ZnS L)
 have HFS:=ZZ (ZnR L)
 have HFA:=ZZ (ZqQ L)
 have HFL:=ZZ (ZqP L)
 obtain⟨F,hF⟩:∃ F,F=L.flatten:=⟨_,rfl⟩
 rw[<-hF]
 rw[<-hF] at HFA
 obtain⟨ao,cap,rfl,-,-,-,hao⟩:=hr
 have HAO:=ZZ hao
 clear hao hF hlim
 go_enter Tryz.func131,Tryz.ntmps131
 go_wp2
 go_loopw[3,11] (fun vs vi wr=>∃ (k:Nat),vs=.int .i64 (Zmo L k:Int)∧vi=.int .i64 (k:Int)∧k<=L.length∧wr=w) (fun _ vi _=>L.length-(intOf vi).toNat)
 case atStart=>exact⟨0,rfl,rfl,Nat.zero_le _,rfl⟩
 case round=>
  obtain⟨k,rfl,rfl,hk,hwr⟩:=hrel
  have hwr2:=hwr.symm
  subst hwr2
  clear hwr
  by_cases hlt:k<L.length
  ·rcases HAO.out with h0 | ⟨c,off,rfl,hc⟩
   ·rw[h0] at hlt;simp at hlt
   obtain⟨x,hx,hrx⟩:=hc k hlt
   have h1:=HLE.out (k+1)
   have h2:=HFN.out k hlt
   obtain⟨ax,cx,rfl,-⟩:=hrx
   have h3:¬ ((Zmo L k:Int)+((L.getD k []).length:Int)<0):=by omega
   have h4:(Zmo L k:Int)+((L.getD k []).length:Int)<=1000000:=by omega
   have H2:=ZZ h2
   clear hc h1 h2
   generalize Zmo L k=A at *
   generalize (L.getD k []).length=D at *
   go_wp2
   go_roundw
   case rel=>exact⟨k+1,by rw[H2.out],by go_num,by omega,trivial⟩
   case measure=>simp[intOf];omega
  ·have HGG:=ZZ (HG.out (Zmo L k) w (HLE.out k))
   generalize Zmo L k=A at *
   go_wp2_with fail
   refine HGG.out.mono ?_
   rintro e W1 ⟨v1,rfl,ho1,hb1⟩
   have HO1:=ZZ ho1
   have HB1:=ZZ hb1
   clear ho1 hb1 hk hlt
   go_wp2
   go_loopw[6,27] (fun vo vi w2=>∃ (j:Nat),vi=.int .i64 (j:Int)∧j<=L.length∧Hid (Own w2 w.heap.size vo (ZuA L j))∧Hid (Below w.heap.size w w2)) (fun _ vi _=>L.length-(intOf vi).toNat)
   case atStart=>exact⟨0,rfl,Nat.zero_le _,HO1,HB1⟩
   case round=>
    clear HO1 HB1
    obtain⟨j,rfl,hj,HO2,HB2⟩:=hrel
    by_cases hjl:j<L.length
    ·rcases HAO.out with h0 | ⟨c,off,rfl,hc⟩
     ·rw[h0] at hjl;simp at hjl
     obtain⟨x,hx0,hrx⟩:=hc j hjl
     have hx:=(HB2.out.cell (World.block_lt_of_cell? _ _ hx0)).trans hx0
     have HRX:=ZZ (hrx.below HB2.out zL)
     obtain⟨ax,cx,rfl,-⟩:=hrx
     have HLL:Hid ((ZuA L j).length+(L.getD j []).length<=70368744177664):=ZZ (by
      have h1:=HLE.out (j+1)
      have h2:=HFN.out j hjl
      rw[HFL.out]
      omega)
     have HSZ:=ZZ HB2.out.size
     have HN:=ZZ (HFS.out j hjl)
     clear hc hx0
     generalize L.getD j []=D at *
     generalize ZuA L j=P at *
     go_wp2_with(at_builtin;refine ZaK _ rfl _ _ rfl w.heap.size _ P rfl HO2.out _ D rfl HRX.out HLL.out HSZ.out ?_)
     intro v3 W3 ho3 hb3
     rw[<-HN.out] at ho3
     have HO3:=ZZ ho3
     have HB3:=ZZ (HB2.out.trans hb3)
     clear ho3 hb3
     go_wp2
     go_roundw
     case rel=>exact⟨j+1,by go_num,by omega,HO3,HB3⟩
     case measure=>simp[intOf];omega
    ·have HE:=ZZ (HFA.out j (by omega))
     rw[HE.out] at HO2
     go_wp2
     go_ret
     exact⟨_,rfl,HO2.out,HB2.out⟩
def Zmz (P:List (List UInt8)) (n c:Nat):Int:=if P.flatten.length≠n then 16 else if ¬ Zhh P then 3 else if ZaH 0 P.flatten≠c then 4 else 0
def Joined (w:World) (F:List UInt8) (er:Int) (e:Ending) (w':World):Prop:=
 ∃ v',e=.returned (.tuple #[v',.int .i64 er])∧Rd w' v' (if er=0 then F else[])∧Below w.heap.size w w'
theorem ZkD.rdl {w':World} {v v':Value} {l:List UInt8} {xs:List Value} {L:List (List UInt8)} {B:Nat} (h:ZkD v l xs L) (ho:w'.ownsRow B 53 1 v' L.length xs) (hr:Rd w' v l):RdL w' v' L:=by
 rcases ho.2 with ⟨hv,hn⟩ | ⟨g,cap,cur,hv,hb,hg,hnc,hcm,hcs,htake⟩
 ·have e:L=[]:=List.eq_nil_of_length_eq_zero hn
  subst e
  rw[hv]
  exact RdL.nil _
 ·refine⟨some ⟨g,0,none⟩,cap,hv,hnc,hcm,(fun e=>by cases e),.inr ⟨g,0,rfl,fun j hj=>?_⟩⟩
  obtain⟨x,h1,-,h3⟩:=h.2 j hj
  refine⟨x,?_,h3 w' hr⟩
  have:=World.ownsRow.cells ho (g:=g) (by rw[hv];rfl) j x h1
  rw[Addr.add_lit] at this
  exact this
theorem Zwz (i:Int) (n c:Nat) (vp:Value) (P:List (List UInt8)) (w:World) (hp:RdL w vp P) (hlim:P.flatten.length<=100000) (hlim2:P.length<=100000):
 Calls Tryz.prog 116 #[.agg #[.int .i64 i,.int .i64 (n:Int),.int .u32 (c:Int)],vp] w fun e w'=>Joined w P.flatten (Zmz P n c) e w':=by
 have HB0:Hid (Below w.heap.size w (w.alloc (.cells #[.int .i64 i,.int .i64 (n:Int),.int .u32 (c:Int)] 147))):=ZZ ((Below.refl _ _).alloc zL _)
 have HX0:Hid (Bq (w.alloc (.cells #[.int .i64 i,.int .i64 (n:Int),.int .u32 (c:Int)] 147)) w.heap.size #[.int .i64 i,.int .i64 (n:Int),.int .u32 (c:Int)]):=ZZ (heap_alloc_new w _)
 have HCC:=ZZ (fun W (h:Below w.heap.size w W)=>ZpZ vp P W (hp.below h zL) (by omega) hlim2)
 have HCH:=ZZ (fun v1 W h=>Zse v1 P.flatten W h hlim)
 have HEF:=ZZ (fun vb W h1 h2=>ZkJ vp vb P (Zbs P.flatten) W h1 h2)
 have HSM:=ZZ (fun v1 W h=>ZpM v1 P.flatten W h)
 have HP:=ZZ hp
 have hdc:decide (P=Zbs P.flatten)=decide (Zhh P):=decide_eq_decide.2 (ZtZ P).symm
 rw[hdc] at HEF
 have HJ:Hid (Zmz P n c=if P.flatten.length≠n then 16 else if ¬ Zhh P then 3 else if ZaH 0 P.flatten≠c then 4 else 0):=ZZ rfl
 obtain⟨pa,pc,hpv⟩:∃ a c,vp=.slice a P.length c:=by obtain⟨a,c,h,-⟩:=hp;exact⟨a,c,h⟩
 subst hpv
 obtain⟨er,her⟩:∃ er,er=Zmz P n c:=⟨_,rfl⟩
 rw[<-her] at HJ ⊢
 obtain⟨co,hco⟩:∃ co,co=decide (Zhh P):=⟨_,rfl⟩
 rw[<-hco] at HEF
 have HCO:=ZZ hco
 clear her hp hdc hco
 obtain⟨FL,hFL⟩:∃ FL,FL=P.flatten:=⟨_,rfl⟩
 rw[<-hFL] at HCC HCH HEF HSM HJ hlim ⊢
 have HPC:Hid (Zbs FL=Zbs FL):=ZZ rfl
 clear hFL
 generalize Zbs FL=PF at *
 generalize ZaH 0 FL=cr at *
 obtain⟨ni,hni⟩:∃ ni:Int,ni=(n:Int):=⟨_,rfl⟩
 obtain⟨ci,hci⟩:∃ ci:Int,ci=(c:Int):=⟨_,rfl⟩
 obtain⟨cri,hcri⟩:∃ cri:Int,cri=(cr:Int):=⟨_,rfl⟩
 rw[<-hni,<-hci] at HB0 HX0 ⊢
 rw[<-hcri] at HSM
 have HNI:=ZZ hni
 have HCI:=ZZ hci
 have HCR:=ZZ hcri
 clear hni hci hcri
 go_enter Tryz.func116,Tryz.ntmps116
 go_wp2_with fail
 refine(HCC.out _ HB0.out).mono ?_
 rintro e W1 ⟨v1,rfl,ho1,hb1⟩
 have HB1:=ZZ (HB0.out.trans (hb1.mono HB0.out.size))
 have HX1:=ZZ (HX0.out.below hb1 zL)
 have HR1:=ZZ ho1.rd
 obtain⟨a1,c1,hv1⟩:∃ a c,v1=.slice a FL.length c:=by obtain⟨a,c,h,-⟩:=ho1.rd;exact⟨a,c,h⟩
 subst hv1
 obtain⟨p1,-⟩:=HX1.out.cell 1
 clear ho1 hb1 HCC HB0 HX0
 by_cases hl:FL.length=n
 case neg=>
  have HE:Hid (er=16):=ZZ (by rw[HJ.out,if_pos hl])
  have hl':((FL.length:Int) != ni)=true:=by rw[bne_iff_ne,HNI.out];omega
  clear hl HJ
  go_wp2
  go_ret2
  rw[HE.out]
  exact⟨_,rfl,Rd.nil _,HB1.out⟩
 have hl':((FL.length:Int) != ni)=false:=by rw[bne_eq_false_iff_eq,HNI.out];omega
 have HL:=ZZ hl
 clear hl
 go_wp2_with fail
 refine(HCH.out _ _ HR1.out).mono ?_
 rintro e W2 ⟨v2,xs,rfl,ho2,hv2,hb2⟩
 have HB2:=ZZ (HB1.out.trans (hb2.mono HB1.out.size))
 have HX2:=ZZ (HX1.out.below hb2 zL)
 have HR2:=ZZ (HR1.out.below hb2 zL)
 have HL2:=ZZ (hv2.rdl ho2 HR2.out)
 obtain⟨a2,c2,hvv⟩:∃ a c,v2=.slice a PF.length c:=by obtain⟨a,c,h,-⟩:=HL2.out;exact⟨a,c,h⟩
 subst hvv
 clear ho2 hb2 hv2 p1 HCH HX1 HR1 HB1
 go_wp2_with fail
 refine(HEF.out _ _ (HP.out.below HB2.out zL) HL2.out).mono ?_
 rintro e W3 ⟨rfl,hw3⟩
 rw[hw3]
 clear hw3 W3 HEF
 cases co with
 | false=>
  have HE:Hid (er=3):=ZZ (by rw[HJ.out,if_neg (fun h=>h HL.out),if_pos (of_decide_eq_false HCO.out.symm)])
  clear HJ
  go_wp2
  go_ret2
  rw[HE.out]
  exact⟨_,rfl,Rd.nil _,HB2.out⟩
 | true=>
  have HE:Hid (er=if cr≠c then 4 else 0):=ZZ (by rw[HJ.out,if_neg (fun h=>h HL.out),if_neg (fun h=>h (of_decide_eq_true HCO.out.symm))])
  have HSQ:=ZZ (HSM.out _ W2.drew (HR2.out.below ((Below.refl _ _).drew) zL))
  obtain⟨q2,-⟩:=HX2.out.cell 2
  go_upto_region 6 with fail
  go_cut[21] (fun x wc=>x=.bool (decide (cri≠ci))∧Hid (Rd wc (.slice a1 FL.length c1) FL)∧Hid (Below w.heap.size w wc))
  case first=>
   by_cases hcc:cri=ci
   ·have h1:(cri != ci)=false:=by rw[bne_eq_false_iff_eq];exact hcc
    have h2:decide (cri≠ci)=false:=decide_eq_false (fun h=>h hcc)
    have H2:=ZZ h2
    clear hcc h2
    go_region_held(fun w'=>w'.cell? ⟨w.heap.size,2,none⟩=some (.int .u32 ci)) (go_keep)
     (first
      | (go_at_call 136;refine HSQ.out.mono ?_;rintro e W3 ⟨rfl,hb3⟩;have hst:Below W2.heap.size W2 W3:=((Below.refl _ _).drew).trans hb3;have HB3:=ZZ (HB2.out.trans (hst.mono HB2.out.size));have HR3:=ZZ (HR2.out.below hst zL);obtain⟨r2,-⟩:=(HX2.out.below hst zL).cell 2;clear hb3 hst))
    all_goals
     go_wp2_with fail
     go_meet
     exact⟨by rw[H2.out],HR3,HB3⟩
   ·have h1:(cri != ci)=true:=by rw[bne_iff_ne];exact hcc
    have h2:decide (cri≠ci)=true:=decide_eq_true hcc
    have H2:=ZZ h2
    clear hcc h2
    go_region_held(fun w'=>w'.cell? ⟨w.heap.size,2,none⟩=some (.int .u32 ci)) (go_keep)
     (first
      | (go_at_call 136;refine HSQ.out.mono ?_;rintro e W3 ⟨rfl,hb3⟩;have hst:Below W2.heap.size W2 W3:=((Below.refl _ _).drew).trans hb3;have HB3:=ZZ (HB2.out.trans (hst.mono HB2.out.size));have HR3:=ZZ (HR2.out.below hst zL);obtain⟨r2,-⟩:=(HX2.out.below hst zL).cell 2;clear hb3 hst))
    all_goals
     go_wp2_with fail
     go_meet
     exact⟨by rw[H2.out],HR3,HB3⟩
  case rest=>
   obtain⟨WC,rfl⟩:∃ W,W=wc:=⟨_,rfl⟩
   obtain⟨rfl,HRC,HBC⟩:=hcut
   by_cases hcc:cr=c
   ·have HF:Hid (er=0):=ZZ (by rw[HE.out,if_neg (by omega)])
    have h2:decide (cri≠ci)=false:=decide_eq_false (by have:=HCI.out;have:=HCR.out;omega)
    rw[h2]
    clear h2 hcc HJ HE
    go_wp2
    go_ret2
    rw[HF.out]
    exact⟨_,rfl,HRC.out,HBC.out⟩
   ·have HF:Hid (er=4):=ZZ (by rw[HE.out,if_pos hcc])
    have h2:decide (cri≠ci)=true:=decide_eq_true (by have:=HCI.out;have:=HCR.out;omega)
    rw[h2]
    clear h2 hcc HJ HE
    go_wp2
    go_ret2
    rw[HF.out]
    exact⟨_,rfl,Rd.nil _,HBC.out⟩
end Go.Proofs.YtnahjngbneicaaaGreatDoor
