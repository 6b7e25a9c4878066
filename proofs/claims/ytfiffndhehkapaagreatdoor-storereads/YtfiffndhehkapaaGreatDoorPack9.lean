import Derived.Test.YtfiffndhehkapaaGreatDoorPack7
import Derived.Test.YtfiffndhehkapaaGreatDoorPack8
import Derived.Lib.LazyBuf
import Derived.Test.YtfiffndhehkapaaGreatDoorPack5
import Derived.Deep.RegionHeld
import Derived.Test.YtfiffndhehkapaaGreatDoorPack4
import Derived.Test.YtfiffndhehkapaaGreatDoorPack2
import Derived.Test.YtfiffndhehkapaaGreatDoorPack6
import Derived.Deep.QuietTactic
import Derived.BigQuiet
namespace Go.Proofs.YtfiffndhehkapaaGreatDoor
set_option maxHeartbeats 4000000
set_option maxRecDepth 100000
open Go.RowKit
theorem ZsO (n:Int) (w:World) (h0:-9223372036854775808<=n) (h1:n<=9223372036854775807):
 Calls Tryz.prog 135 #[.int .i64 n] w fun e w'=>e=.returned (.int .i64 (Zjf n:Nat))∧Below w.heap.size w w':=by
 by_cases h:0<=n∧n<=1048576
 ·obtain⟨h2,h3⟩:=h
  have HE:Hid (Zjf n=(Lib.uvarint n.toNat).length+4+n.toNat):=if_pos ⟨h2,h3⟩
  have HP:Hid (∀ w,Calls Tryz.prog 133 #[.slice none 0 0,.int .i64 n] w fun e w'=>∃ ao cap,e=.returned (.slice ao (Lib.uvarint n.toNat).length cap)∧Below w.heap.size w w'):=by
   intro w
   refine(ZeD (.slice none 0 0) [] n w (Rd.nil _) (by simp)).mono ?_
   have e:ZtI [] n=Lib.uvarint n.toNat:=if_pos ⟨by omega,by omega⟩
   rintro e' w' ⟨v',rfl,ho,hb⟩
   rw[e] at ho
   obtain⟨ao,cap,rfl,_⟩:=ho.rd
   exact⟨ao,cap,rfl,hb⟩
  have hl3:(Lib.uvarint n.toNat).length<=3:=ZAG (by omega)
  generalize (Lib.uvarint n.toNat).length=q at *
  go_enter Tryz.func135,Tryz.ntmps135
  go_wp2_with fail
  refine(HP.out _).mono ?_
  rintro e w1 ⟨ao,cap,rfl,hb1⟩
  have HB1:=ZZ hb1
  clear hb1 HP
  go_wp2
  go_ret
  refine⟨ZeX ?_,HB1.out⟩
  rw[HE.out]
  omega
 ·have HE:Hid (Zjf n=0):=if_neg h
  by_cases h2:n<0
  ·clear h
   go_enter Tryz.func135,Tryz.ntmps135
   go_wp2
   go_ret
   exact⟨ZeX (by rw[HE.out];rfl),Below.refl _ _⟩
  ·have h3:1048576<n:=by omega
   clear h
   go_enter Tryz.func135,Tryz.ntmps135
   go_wp2
   go_ret
   exact⟨ZeX (by rw[HE.out];rfl),Below.refl _ _⟩
theorem ZAd (v:Value) (l:List UInt8) (w:World) (hr:Rd w v l):
 Calls Tryz.prog 218 #[v] w fun e w'=>e=.returned (.bool (decide (ZcX l)))∧w'=w:=by
 obtain⟨ao,cap,rfl,hlc,hcm,hn0,hao⟩:=hr
 clear hn0
 have hml:(l.length:Int)<=9223372036854775807:=by unfold maxLen at hcm;omega
 by_cases h10:(l.length:Int)<10
 ·go_enter Tryz.func218,Tryz.ntmps218
  go_wp2
  go_loop [10] (fun i=>∃ k:Nat,i=.int .i64 k∧k<=l.length∧Hid (∀ j,j<k->128<=(l.getD j 0).toNat)) (fun i=>l.length-(intOf i).toNat)
  case atStart=>exact⟨0,rfl,by omega,fun j hj=>by omega⟩
  case round=>
   obtain⟨k,rfl,hkl,hall⟩:=hrel
   by_cases hlt:k<l.length
   ·rcases hao with hao | ⟨b,off,rfl,hc⟩
    ·subst hao;simp at hlt
    ·have hck:=hc k hlt
     clear hc
     obtain⟨y,hy⟩:∃ y,y=(l.getD k 0).toNat:=⟨_,rfl⟩
     rw[<-hy] at hck
     have HY:Hid (y=(l.getD k 0).toNat):=hy
     clear hy
     by_cases hyb:(y:Int)<128
     ·go_wp2
      go_ret
      refine⟨Zhc ?_,rfl⟩
      symm
      refine decide_eq_false fun ho=>?_
      have:=ho.2 k hlt
      rw[<-HY.out] at this
      omega
     ·go_wp2
      go_round
      case rel=>
       refine⟨k+1,by go_num,by omega,fun j hj=>?_⟩
       by_cases e:j=k
       ·rw[e,<-HY.out];omega
       ·exact hall.out j (by omega)
      case measure=>simp[intOf];omega
   ·go_wp2
    go_ret
    refine⟨Zhc ?_,rfl⟩
    symm
    exact decide_eq_true ⟨by omega,fun j hj=>hall.out j (by omega)⟩
 ·go_enter Tryz.func218,Tryz.ntmps218
  go_wp2
  go_ret
  refine⟨Zhc ?_,rfl⟩
  symm
  exact decide_eq_false fun ho=>by have:=ho.1;omega
theorem Own.made0 (w:World) (B:Nat) (hB:B<=w.heap.size):Own (w.alloc (.cells #[] 5)) B (.slice (some ⟨w.heap.size,0,none⟩) 0 0) []:=
 ⟨rfl,.inr ⟨w.heap.size,0,#[],rfl,hB,heap_alloc_new w _,Nat.le_refl _,Nat.zero_le _,rfl,rfl⟩⟩
theorem ZwJ (v:Value) (l:List UInt8) (w:World) (hr:Rd w v l) (hlim:l.length<=70368744177664):
 Calls Tryz.prog 114 #[v] w fun e w'=>∃ v',e=.returned v'∧Own w' w.heap.size v' l∧Below w.heap.size w w':=by
 have HR:=ZZ hr
 obtain⟨ao,cap,rfl,hlc,hcm,hn0,hao⟩:=hr
 cases ao with
 | none=>
  have hc:=hn0 rfl
  have hl:l=[]:=List.eq_nil_of_length_eq_zero (by omega)
  subst hl
  subst hc
  clear hao hn0
  have hnil:∀ w,(binOp .eql 53 (.slice none 0 0) (.slice none 0 0)).run Tryz.prog w=.ok (.bool true) w:=fun w=>run_eql_slice_nil w _ _ none 0 0 Tryz.underlying53
  go_enter Tryz.func114,Tryz.ntmps114
  go_wp2
  go_ret
  exact⟨_,rfl,Own.nil _ _,Below.refl _ _⟩
 | some ad=>
  clear hao hn0 hlc hcm
  have hnil:∀ w,(binOp .eql 53 (.slice (some ad) l.length cap) (.slice none 0 0)).run Tryz.prog w=.ok (.bool false) w:=fun w=>run_eql_slice_nil w _ _ (some ad) _ _ Tryz.underlying53
  have HO:=ZZ (Own.made0 w w.heap.size zL)
  have HB:=ZZ ((Below.refl w.heap.size w).alloc zL (.cells #[] 5))
  have HR1:=ZZ (HR.out.below HB.out zL)
  have HS:Hid (w.heap.size<=(w.alloc (.cells #[] 5)).heap.size):=HB.out.size
  go_enter Tryz.func114,Tryz.ntmps114
  go_wp2_with(at_builtin;refine ZaD _ rfl _ _ rfl w.heap.size _ [] rfl HO.out _ l rfl HR1.out (by simp;omega) HS.out ?_)
  intro v4 w4 ho4 hb4
  have HO4:=ZZ ho4
  have HB4:=ZZ (HB.out.trans hb4)
  clear ho4 hb4
  go_wp2
  go_ret
  exact⟨v4,rfl,HO4.out,HB4.out⟩
theorem Zgi (v:Value) (l:List UInt8) (w:World) (hr:Rd w v l):
 Calls Tryz.prog 92 #[v] w fun e w'=>∃ v',e=.returned (.tuple #[v',.int .i64 ((Zzs l).2:Nat)])∧Own w' w.heap.size v' (Zzs l).1∧Below w.heap.size w w':=by
 have HR:=ZZ hr
 obtain⟨i0,hi,hz0,hz1,hz2⟩:=info_parts Zni
 obtain⟨ao,cap,rfl,hlc,hcm,hn0,hao⟩:=hr
 clear hn0 hao
 have hml:(l.length:Int)<=9223372036854775807:=by unfold maxLen at hcm;omega
 by_cases h:(l.length:Int)<=1048576
 ·have HE:Hid (Zzs l=(ZbG l++Lib.leBytes 4 (Zay 0 (ZbG l)),0)):=if_pos (by omega)
  have HP:Hid (∀ w,Calls Tryz.prog 133 #[.slice none 0 0,.int .i64 (l.length:Int)] w fun e w'=>∃ v',e=.returned v'∧Own w' w.heap.size v' (Lib.uvarint l.length)∧Below w.heap.size w w'):=by
   intro w
   have:=ZeD (.slice none 0 0) [] (l.length:Int) w (Rd.nil _) (by simp)
   have e:ZtI [] (l.length:Int)=Lib.uvarint l.length:=if_pos ⟨by omega,by omega⟩
   rwa [e] at this
  have HZ:Hid (∀ w,Calls Tryz.prog 135 #[.int .i64 (l.length:Int)] w fun e w'=>e=.returned (.int .i64 (Zjf (l.length:Int):Nat))∧Below w.heap.size w w'):=fun w=>ZsO _ w (by omega) (by omega)
  have HS:Hid (∀ v w,Rd w v (ZbG l)->Calls Tryz.prog 137 #[v] w fun e w'=>e=.returned (.int .u32 (Zay 0 (ZbG l):Nat))∧Below w.heap.size w w'):=fun v w h=>ZnT v _ w h
  have HF:Hid (∀ w,Calls Tryz.prog 136 #[.int .u32 (Zay 0 (ZbG l):Nat)] w fun e w'=>∃ v',e=.returned v'∧Own w' w.heap.size v' (Lib.leBytes 4 (Zay 0 (ZbG l)))∧Below w.heap.size w w'):=fun w=>Zko _ w (Zsr _)
  have HH:Hid (ZbG l=Lib.uvarint l.length++l):=rfl
  have HL4:Hid ((Lib.leBytes 4 (Zay 0 (ZbG l))).length=4):=Lib.leBytes_length 4 _
  have HL3:Hid ((Lib.uvarint l.length).length<=3):=ZAG (by omega)
  have hsz:Zjf (l.length:Int)<=2000000:=by
   have e:Zjf (l.length:Int)=(Lib.uvarint l.length).length+4+l.length:=if_pos ⟨by omega,h⟩
   have:=HL3.out
   rw[e]
   omega
  generalize Zjf (l.length:Int)=z at *
  generalize Zay 0 (ZbG l)=s at *
  obtain⟨S,hS⟩:∃ S:Int,S=(s:Int):=⟨_,rfl⟩
  rw[<-hS] at HF HS
  clear hS
  generalize Lib.leBytes 4 s=q at *
  generalize Lib.uvarint l.length=u at *
  generalize ZbG l=hd at *
  have hh:=HH.out
  subst hh
  clear HH
  go_enter Tryz.func92,Tryz.ntmps92
  go_wp2_with fail
  refine(HZ.out _).mono ?_
  rintro e w1 ⟨rfl,hb1⟩
  have HB1:=ZZ hb1
  have hs1:=hb1.size
  clear hb1 HZ
  go_wp2_with(at_make;refine wpList_make_own _ rfl _ _ 53 rfl w.heap.size 5 i0 (.int .u8 0) 1 Tryz.underlying53 hi hz0 hz1 _ _ _ z rfl rfl (by omega) (by rw[hz2];omega) (by unfold maxLen;omega) hs1 ?_)
  intro w2 hown hgrow
  have HO2:Hid (Own w2 w.heap.size (.slice (some ⟨w1.heap.size,0,none⟩) 0 z) []):=hown
  have HB2:=ZZ (HB1.out.grown hgrow hs1 (fun k hk=>by cases hk))
  have hs2:=HB2.out.size
  clear hown hgrow
  go_wp2_with fail
  refine(HP.out _).mono ?_
  rintro e w3 ⟨v3,rfl,ho3,hb3⟩
  have HB3:=ZZ (HB2.out.trans (hb3.mono hs2))
  have HR3:=ZZ ho3.rd
  have HO3:=ZZ (HO2.out.below hb3 zL)
  have hs3:=HB3.out.size
  clear ho3 hb3 HP
  go_wp2_with(at_builtin;refine ZaD _ rfl _ _ rfl w.heap.size _ [] rfl HO3.out _ u rfl HR3.out (by have:=HL3.out;simp;omega) hs3 ?_)
  intro v4 w4 ho4 hb4
  have HB4:=ZZ (HB3.out.trans hb4)
  have HO4:Hid (Own w4 w.heap.size v4 u):=ho4
  have hs4:=HB4.out.size
  clear ho4 hb4
  go_wp2_with(at_builtin;refine ZaD _ rfl _ _ rfl w.heap.size _ u rfl HO4.out _ l rfl (HR.out.below HB4.out zL) (by have:=HL3.out;omega) hs4 ?_)
  intro v5 w5 ho5 hb5
  have HB5:=ZZ (HB4.out.trans hb5)
  have HO5:Hid (Own w5 w.heap.size v5 (u++l)):=ho5
  have hs5:=HB5.out.size
  clear ho5 hb5
  go_wp2_with fail
  refine(HS.out _ _ HO5.out.rd).mono ?_
  rintro e w6 ⟨rfl,hb6⟩
  have HB6:=ZZ (HB5.out.trans (hb6.mono hs5))
  have HO6:=ZZ (HO5.out.below hb6 zL)
  have hs6:=HB6.out.size
  clear hb6 HS
  go_wp2_with fail
  refine(HF.out _).mono ?_
  rintro e w7 ⟨v7,rfl,ho7,hb7⟩
  have HB7:=ZZ (HB6.out.trans (hb7.mono hs6))
  have HR7:=ZZ ho7.rd
  have HO7:=ZZ (HO6.out.below hb7 zL)
  have hs7:=HB7.out.size
  clear ho7 hb7 HF
  go_wp2_with(at_builtin;refine ZaD _ rfl _ _ rfl w.heap.size _ (u++l) rfl HO7.out _ q rfl HR7.out (by have:=HL3.out;have:=HL4.out;simp;omega) hs7 ?_)
  intro v8 w8 ho8 hb8
  have HB8:=ZZ (HB7.out.trans hb8)
  have HO8:=ZZ ho8
  clear ho8 hb8
  go_wp2
  go_ret2
  exact⟨v8,by rw[HE.out];rfl,by rw[HE.out];show Own _ _ _ (u++l++q);rw[List.append_assoc];exact HO8.out,HB8.out⟩
 ·have HE:Hid (Zzs l=([],5)):=if_neg (by omega)
  go_enter Tryz.func92,Tryz.ntmps92
  go_wp2
  go_ret2
  exact⟨_,by rw[HE.out];rfl,by rw[HE.out];exact Own.nil _ _,Below.refl _ _⟩
theorem ZnV {w w':World} {B B':Nat} {e:TypeId} {k:Nat} {v:Value} {n:Nat} {xs:List Value} (h:w.ownsRow B e k v n xs) (hb:Below B' w w') (hB:w.heap.size<=B'):w'.ownsRow B e k v n xs:=by
 obtain⟨h1,h2⟩:=h
 refine⟨h1,?_⟩
 rcases h2 with h2 | ⟨g,cap,cur,hv,hbg,hg,r⟩
 ·exact .inl h2
 ·have hlt:g<w.heap.size:=(Array.getElem?_eq_some_iff.1 hg).1
  exact .inr ⟨g,cap,cur,hv,hbg,by rw[hb.block g (by omega)];exact hg,r⟩
theorem ZnW (P:List (List UInt8)) (q:Nat) (hq:q<P.length):Zae (P.take (q+1))=Zae (P.take q)++Zad (P.getD q []):=by
 have e1:P.take (q+1)=P.take q++[P.getD q []]:=by
  rw[List.take_add_one,List.getElem?_eq_getElem hq]
  simp[List.getD,hq]
 rw[e1,ZfH,ZaS]
 simp[Zae]
theorem Zft (P:List (List UInt8)) (q:Nat):(Zae (P.take q)).length<=(Zae P).length:=by
 have h:Zae P=Zae (P.take q)++Zae (P.drop q):=by rw[<-ZfH,List.take_append_drop]
 rw[h,List.length_append]
 omega
theorem Zrt (s:ZaU):ZdY s=Zid s.idx.toNat (Zba s)::Zbb (Zba s):=rfl
theorem ZwK (s:ZaU):Zba s≠[]:=by
 unfold Zba
 intro h
 have h2:=(List.append_eq_nil_iff.1 h).1
 have h3:=congrArg List.length h2
 have:=Zhj (Zjp s.st).length
 rw[List.length_nil] at h3
 omega
theorem Zru (v:Value) (s:ZaU) (w:World) (hs:SnV w v s):
 Calls Tryz.prog 57 #[v] w fun e w'=>ZsN w s e w':=by
 have HSV:=ZZ hs
 obtain⟨vl,vt,rfl,hl,hk,he,ht,hi⟩:=hs
 obtain⟨la,lc,hlv,-⟩:=id hl
 obtain⟨ta,tc,htv⟩:=ht.shape
 subst hlv htv
 have HMY:=ZZ (fun W (h:Below w.heap.size w W)=>ZsM _ s W (HSV.out.below h zL))
 obtain⟨W0,hW0⟩:∃ W0,W0=w.alloc (.cells #[.int .i64 s.idx,.int .i64 s.st.kind,.slice la s.st.L.length lc,.bool s.st.shut,.int .i64 s.st.eng,.slice ta s.tab.length tc] 41):=⟨_,rfl⟩
 have HB0:Hid (Below w.heap.size w W0):=ZZ (by rw[hW0];exact(Below.refl _ _).alloc zL _)
 have HX0:Hid (Bn W0 w.heap.size #[.int .i64 s.idx,.int .i64 s.st.kind,.slice la s.st.L.length lc,.bool s.st.shut,.int .i64 s.st.eng,.slice ta s.tab.length tc]):=ZZ (by rw[hW0];exact heap_alloc_new w _)
 obtain⟨p0,-⟩:=HX0.out.cell 0
 obtain⟨p1,-⟩:=HX0.out.cell 1
 obtain⟨p2,-⟩:=HX0.out.cell 2
 obtain⟨p3,-⟩:=HX0.out.cell 3
 obtain⟨p4,-⟩:=HX0.out.cell 4
 obtain⟨p5,-⟩:=HX0.out.cell 5
 unfold ZsN
 clear hl hk he ht hi
 by_cases hm:Zgm s
 case neg=>
  rw[if_neg hm,if_neg hm]
  rw[decide_eq_false hm] at HMY
  clear hm
  go_enter Tryz.func57,Tryz.ntmps57
  go_upto_region 1 with fail
  rw[<-hW0]
  clear hW0
  go_wp2_with fail
  refine(HMY.out _ HB0.out).mono ?_
  rintro x W1 ⟨rfl,hb1⟩
  have HB1:=ZZ (HB0.out.trans (hb1.mono HB0.out.size))
  clear hb1
  go_wp2
  go_ret2
  exact⟨_,rfl,Own.nil _ _,HB1.out⟩
 rw[if_pos hm,if_pos hm]
 rw[decide_eq_true hm] at HMY
 have HWO:=ZZ (fun W (h:Below w.heap.size w W)=>Zrs _ s W (HSV.out.below h zL) hm)
 have hwl:=ZeO hm
 have hidx:=hm.1
 have HMO:=ZZ (fun v1 W h=>ZlU s.idx v1 (Zba s) W h)
 have HDA:=ZZ (fun W=>ZyE s.idx ((Zba s).length:Int) (Zay 0 (Zba s)) W hidx ⟨by omega,by omega⟩ (Zsr _))
 rw[Int.toNat_natCast,ZyD] at HDA
 have HCH:=ZZ (fun v1 W h=>ZmI v1 (Zba s) W h (by omega))
 have HPC:Hid (ZdY s=Zid s.idx.toNat (Zba s)::Zbb (Zba s)):=ZZ (Zrt s)
 have HPL:Hid (∀ x ∈ ZdY s,x.length<=1048576):=ZZ (Ztu hm)
 have HEN:Hid ((Zae (ZdY s)).length<=80000):=ZZ (ZyF hm)
 have HEQ:Hid (ZxJ s=Zae (ZdY s)):=ZZ rfl
 rw[HEQ.out]
 have HNE:Hid (0<(Zbb (Zba s)).length∧(Zbb (Zba s)).length<=5000):=ZZ (by
  constructor
  ·rw[Zbw (ZwK s)]
   simp
  ·have h1:=Zft (ZdY s) (ZdY s).length
   have h2:∀ (L:List (List UInt8)),(∀ x ∈ L,1<=x.length)->L.length<=L.flatten.length:=fun L hL=>by
    induction L with
    | nil=>simp
    | cons x t ih=>
     have h3:=hL x (by simp)
     have h4:=ih (fun y hy=>hL y (by simp[hy]))
     rw[List.length_cons,List.flatten_cons,List.length_append]
     omega
   have h3:=h2 (Zbb (Zba s)) (fun x hx=>(Zie _ _ x zL hx).2)
   rw[ZjT _ _ zL] at h3
   omega)
 generalize Zba s=WH at *
 generalize Zid s.idx.toNat WH=MN at *
 generalize Zbb WH=PW at *
 generalize Zay 0 WH=CR at *
 obtain⟨PT,hPT⟩:∃ PT,PT=ZdY s:=⟨_,rfl⟩
 rw[<-hPT] at HPC HPL HEN ⊢
 clear hPT HEQ hm
 obtain⟨CI,hCI⟩:∃ CI:Int,CI=(CR:Int):=⟨_,rfl⟩
 rw[<-hCI] at HMO HDA
 clear hCI HSV
 go_enter Tryz.func57,Tryz.ntmps57
 go_upto_region 1 with fail
 rw[<-hW0]
 clear hW0
 go_wp2_with fail
 refine(HMY.out _ HB0.out).mono ?_
 rintro x W1 ⟨rfl,hb1⟩
 have HB1:=ZZ (HB0.out.trans (hb1.mono HB0.out.size))
 have HX1:=ZZ (HX0.out.below hb1 zL)
 clear hb1 HMY p0 p1 p2 p3 p4 p5 HX0 HB0
 obtain⟨p0,-⟩:=HX1.out.cell 0
 obtain⟨p1,-⟩:=HX1.out.cell 1
 obtain⟨p2,-⟩:=HX1.out.cell 2
 obtain⟨p3,-⟩:=HX1.out.cell 3
 obtain⟨p4,-⟩:=HX1.out.cell 4
 obtain⟨p5,-⟩:=HX1.out.cell 5
 go_wp2_with fail
 refine(HWO.out _ HB1.out).mono ?_
 rintro x W2 ⟨v2,rfl,ho2,hb2⟩
 have HB2:=ZZ (HB1.out.trans (hb2.mono HB1.out.size))
 have HX2:=ZZ (HX1.out.below hb2 zL)
 have HO2:=ZZ ho2.rd
 obtain⟨a2,c2,hv2⟩:∃ a c,v2=.slice a WH.length c:=by obtain⟨a,c,h,-⟩:=ho2.rd;exact⟨a,c,h⟩
 subst hv2
 clear ho2 hb2 HWO p0 p1 p2 p3 p4 p5 HX1 HB1
 obtain⟨p0,-⟩:=HX2.out.cell 0
 go_wp2_with fail
 refine(HMO.out _ _ HO2.out).mono ?_
 rintro x W3 ⟨rfl,hb3⟩
 have HB3:=ZZ (HB2.out.trans (hb3.mono HB2.out.size))
 have HO3:=ZZ (HO2.out.below hb3 zL)
 clear hb3 HMO HX2 p0 HB2 HO2
 go_wp2_with fail
 refine(HDA.out _).mono ?_
 rintro x W4 ⟨v4,rfl,ho4,hb4⟩
 have HB4:=ZZ (HB3.out.trans (hb4.mono HB3.out.size))
 have HW4:=ZZ (HO3.out.below hb4 zL)
 have HM4:=ZZ ho4.rd
 obtain⟨a4,c4,hv4⟩:∃ a c,v4=.slice a MN.length c:=by obtain⟨a,c,h,-⟩:=ho4.rd;exact⟨a,c,h⟩
 subst hv4
 clear ho4 hb4 HDA HB3 HO3
 have HA5:Hid (Below W4.heap.size W4 (W4.alloc (.cells #[.slice a4 MN.length c4] 53))):=ZZ ((Below.refl _ _).alloc zL _)
 have HO5:Hid ((W4.alloc (.cells #[.slice a4 MN.length c4] 53)).ownsRow W4.heap.size 53 1 (.slice (some ⟨W4.heap.size,0,none⟩) 1 1) 1 [.slice a4 MN.length c4]):=ZZ (World.ownsRow_lit W4 #[.slice a4 MN.length c4] 1 zL (by unfold maxLen;omega) rfl)
 go_wp2_with fail
 refine(HCH.out _ _ (HW4.out.below HA5.out zL)).mono ?_
 rintro x W6 ⟨v6,xs,rfl,ho6,hv6,hb6⟩
 have HB6:=ZZ (HA5.out.trans (hb6.mono HA5.out.size))
 have HO6:=ZZ (ZnV HO5.out hb6 zL)
 have HV6:=ZZ hv6
 have HS6:=ZZ ho6
 clear hb6 hv6 HO5 HA5 HCH
 rcases ho6.2 with ⟨-,hn⟩ | ⟨g6,cap6,cur6,hv6,-⟩
 ·have:=HNE.out
  omega
 subst hv6
 clear ho6
 have hsz6:=HB6.out.size
 have HNE':=HNE.out
 go_wp2_with(at_builtin;refine ZcQ _ rfl _ _ rfl W4.heap.size _ 1 [.slice a4 MN.length c4] rfl HO6.out _ PW.length cap6 xs rfl HV6.out.1 (World.ownsRow.cells HS6.out rfl) HV6.out.one (by omega) hsz6 ?_)
 intro v7 W7 ho7 hb7
 have HB7:=ZZ (HB6.out.trans hb7)
 have HBW7:=ZZ (HB4.out.trans (HB7.out.mono HB4.out.size))
 have HM7:=ZZ (HM4.out.below HB7.out zL)
 have HW7:=ZZ (HW4.out.below HB7.out zL)
 have HS7:=ZZ ho7
 have hPTl:PT.length=1+PW.length:=by rw[HPC.out,List.length_cons];omega
 have hPTi:(PT.length:Int)<=100000:=by omega
 have HROW:Hid (∀ q,q<PT.length->∃ x,([Value.slice a4 MN.length c4]++xs)[q]?=some x∧Rd W7 x (PT.getD q [])):=ZZ (fun q hq=>by
  cases q with
  | zero=>
   refine⟨_,rfl,?_⟩
   rw[HPC.out]
   exact HM7.out
  | succ q=>
   obtain⟨x,h1,h2,h3⟩:=HV6.out.2 q (by omega)
   refine⟨x,by simpa using h1,?_⟩
   rw[HPC.out]
   exact h3 W7 HW7.out)
 rcases ho7.2 with ⟨-,hn⟩ | ⟨g7,cap7,cur7,hv7,-⟩
 ·omega
 subst hv7
 rw[<-hPTl] at HS7
 clear ho7 hb7 HM7 HW7 HO6 HV6 HM4 HW4 HB6 HB7 HNE HNE' hsz6 HS6
 have HFN:Hid (∀ q,q<PT.length->Zae (PT.take (q+1))=Zae (PT.take q)++Zad (PT.getD q [])):=ZZ (fun q hq=>ZnW PT q hq)
 have HFL:Hid (∀ q,(Zae (PT.take q)).length<=80000):=ZZ (fun q=>Nat.le_trans (Zft PT q) HEN.out)
 have HPG:Hid (∀ q,q<PT.length->(PT.getD q []).length<=1048576):=ZZ (fun q hq=>HPL.out _ (by rw[show PT.getD q []=PT[q] by simp[List.getD,hq]];exact List.getElem_mem hq))
 rw[<-hPTl]
 clear hPTl HPC HPL hwl hidx HEN
 go_wp2
 go_loopw[6,27] (fun vo vi wr=>∃ q:Nat,vi=.int .i64 (q:Int)∧q<=PT.length∧Hid (Own wr W7.heap.size vo (Zae (PT.take q)))∧Hid (Below W7.heap.size W7 wr)) (fun _ vi _=>PT.length-(intOf vi).toNat)
 case atStart=>exact⟨0,rfl,Nat.zero_le _,ZZ (Own.nil _ _),Below.refl _ _⟩
 case round=>
  obtain⟨q,rfl,hq,hO,hB⟩:=hrel
  by_cases hlt:q<PT.length
  case neg=>
   obtain rfl:q=PT.length:=by omega
   rw[List.take_length] at hO
   go_wp2
   go_ret2
   exact⟨_,rfl,hO.out.mono HBW7.out.size,HBW7.out.trans (hB.out.mono HBW7.out.size)⟩
  have hqi:(q:Int)<(PT.length:Int):=by omega
  obtain⟨x,hx1,hx2⟩:=HROW.out q hlt
  have hc7:=World.ownsRow.cells HS7.out (g:=g7) rfl q x hx1
  rw[Addr.add_lit] at hc7
  have hcq:wr.cell? ⟨g7,0+q,none⟩=some x:=(hB.out.cell (World.block_lt_of_cell? W7 ⟨g7,0+q,none⟩ hc7)).trans hc7
  rw[Nat.zero_add] at hcq
  have HRX:=ZZ (hx2.below hB.out zL)
  have HEF:Hid (Zzs (PT.getD q [])=(Zad (PT.getD q []),0)):=ZZ (by
   unfold Zzs
   rw[if_pos (HPG.out q hlt)])
  have HFQ:=ZZ (HFN.out q hlt)
  have HLQ:=ZZ (HFL.out q)
  have HLN:=ZZ (HFL.out (q+1))
  have HEC:=ZZ (Zgi x (PT.getD q []) wr HRX.out)
  rw[HEF.out] at HEC
  rw[HFQ.out] at HLN
  dsimp only at HEC
  obtain⟨xa,xc,hxv⟩:∃ a c,x=.slice a (PT.getD q []).length c:=by obtain⟨a,c,h,-⟩:=hx2;exact⟨a,c,h⟩
  subst hxv
  clear hx1 hx2 hc7 HEF HRX
  generalize Zad (PT.getD q [])=F at *
  generalize PT.getD q []=D at *
  obtain⟨G,hG⟩:∃ G,G=Zae (PT.take q):=⟨_,rfl⟩
  rw[<-hG] at hO HFQ HLQ HLN
  clear hG
  go_wp2_with fail
  refine HEC.out.mono ?_
  rintro e W8 ⟨v8,rfl,ho8,hb8⟩
  have HO8:=ZZ ho8.rd
  have HOW:=ZZ (hO.out.below hb8 zL)
  have HB8:=ZZ (hB.out.trans (hb8.mono hB.out.size))
  have HSZ:=ZZ HB8.out.size
  have HLT:Hid (G.length+F.length<=70368744177664):=ZZ (by have:=HLN.out;rw[List.length_append] at this;omega)
  clear ho8 hb8 HEC hO hB hcq
  go_wp2_with(at_builtin;refine ZaD _ rfl _ _ rfl W7.heap.size _ G rfl HOW.out _ F rfl HO8.out HLT.out HSZ.out ?_)
  intro v9 W9 ho9 hb9
  have HO9:=ZZ ho9
  have HB9:=ZZ (HB8.out.trans hb9)
  clear ho9 hb9 HOW
  go_wp2
  go_roundw
  case rel=>exact⟨q+1,by go_num,by omega,ZZ (by rw[HFQ.out];exact HO9.out),HB9⟩
  case measure=>simp[intOf];omega
theorem Zrv {K:Nat->Prop} {pd p:Nat} {s:Sto} {d:Dk} {N T:Nat} (w:World) (h:SD K w pd p s d N T) (hK:∀ k,K k->k<w.heap.size) (hn:Zrp s):
 Calls Tryz.prog 27 #[ptr p] w fun e w'=>ZeU K w pd p (ZeC (s,d)) (N+4) T e w':=by
 have HC:=ZZ (ZhE w h hK hn)
 unfold ZeC
 obtain⟨r,hr⟩:∃ r,r=Zcz (s,d):=⟨_,rfl⟩
 rw[<-hr] at HC ⊢
 have HK:=ZZ hK
 obtain⟨R,hR⟩:∃ R,R=if r.2=0 then(({ r.1.1 with cur:=0 },r.1.2),(0:Int)) else r:=⟨_,rfl⟩
 rw[<-hR]
 have HR:=ZZ hR
 clear h hK hr hR hn
 obtain⟨⟨s1,d1⟩,c⟩:=r
 dsimp only at HR
 unfold ZeU at HC
 dsimp only at HC
 go_enter Tryz.func27,Tryz.ntmps27
 go_wp2_with fail
 refine HC.out.mono ?_
 rintro e W1 ⟨rfl,hs1,ho1⟩
 have HS1:=ZZ hs1
 have HO1:=ZZ ho1
 have HKW:Hid (∀ k,K k->k<W1.heap.size):=ZZ (fun k hk=>Nat.lt_of_lt_of_le (HK.out k hk) ho1.size)
 obtain⟨⟨-,-,c12,-⟩,fz⟩:=hs1.cells
 have f12:=fz 12
 clear hs1 ho1 HC fz
 by_cases hc:c=0
 ·subst hc
  rw[if_pos rfl] at HR
  have HF:=ZZ (HS1.out.setHead (s':={ s1 with cur:=0 }) HKW.out 12 (.int .i64 0) rfl rfl rfl (fun _=>rfl))
  generalize s1.cur=cu at *
  go_wp2
  go_ret
  rw[HR.out]
  exact⟨rfl,HF.out.1,HO1.out.trans HF.out.2 (fun _ _ h=>h)⟩
 ·rw[if_neg hc] at HR
  have hcb:(c != 0)=true:=by rw[bne_iff_ne];exact hc
  clear hc
  go_wp2
  go_ret
  rw[HR.out]
  exact⟨rfl,HS1.out,HO1.out⟩
theorem ZwL {l:List Int} {x:Int} {k:Nat} (hk:k<l.length) (he:l.getD k 0=x):x ∈ l:=by
 rw[<-he]
 exact ZkI hk
theorem Zui (v:Value) (l:List Int) (x:Int) (w:World) (hr:RdI w v l):
 Calls Tryz.prog 145 #[v,.int .i64 x] w fun e w'=>(∃ k:Int,e=.returned (.int .i64 k)∧((0<=k∧x ∈ l)∨(k=-1∧x ∉ l)))∧w'=w:=by
 obtain⟨ao,cap,rfl,hlc,hcm,-,-,hao⟩:=hr
 have hml:(l.length:Int)<=9223372036854775807:=by unfold maxLen at hcm;omega
 have HAO:=ZZ hao
 clear hao hcm hlc
 go_enter Tryz.func145,Tryz.ntmps145
 go_wp2
 go_loop [8] (fun i=>∃ k:Nat,i=.int .i64 k∧k<=l.length∧Hid (∀ j,j<k->l.getD j 0≠x)) (fun i=>l.length-(intOf i).toNat)
 case atStart=>exact⟨0,rfl,Nat.zero_le _,fun j hj=>by omega⟩
 case round=>
  obtain⟨k,rfl,hk,hall⟩:=hrel
  by_cases hlt:k<l.length
  ·rcases HAO.out with h0 | ⟨g,off,rfl,hc⟩
   ·rw[h0] at hlt;simp at hlt
   have hck:=hc k hlt
   clear hc
   have HLT:=ZZ hlt
   obtain⟨y,hy⟩:∃ y,y=l.getD k 0:=⟨_,rfl⟩
   rw[<-hy] at hck
   have HY:=ZZ hy
   clear hy
   by_cases hin:x=y
   ·subst hin
    go_wp2
    go_ret
    exact⟨⟨(k:Int),rfl,.inl ⟨by omega,ZwL HLT.out HY.out.symm⟩⟩,rfl⟩
   ·have hne:(x == y)=false:=beq_eq_false_iff_ne.2 hin
    have HN:=ZZ hin
    clear hin
    go_wp2
    go_round
    case rel=>
     refine⟨k+1,by go_num,by omega,fun j hj=>?_⟩
     by_cases e:j=k
     ·rw[e,<-HY.out];exact fun h=>HN.out h.symm
     ·exact hall.out j (by omega)
    case measure=>simp[intOf];omega
  ·have HN:Hid (x ∉ l):=ZZ (fun hm=>by
    obtain⟨j,hj,e⟩:=List.getElem_of_mem hm
    exact hall.out j (by omega) (by simp[List.getD,hj,e]))
   go_wp2
   go_ret
   exact⟨⟨-1,rfl,.inr ⟨rfl,HN.out⟩⟩,rfl⟩
theorem ZnX (v:Value) (l:List Int) (x:Int) (w:World) (hr:RdI w v l):
 Calls Tryz.prog 107 #[v,.int .i64 x] w fun e w'=>e=.returned (.bool (decide (x ∈ l)))∧w'=w:=by
 have HI:=ZZ (Zui v l x w hr)
 obtain⟨ao,cap,rfl,-⟩:=hr
 obtain⟨b,hb⟩:∃ b,b=decide (x ∈ l):=⟨_,rfl⟩
 rw[<-hb]
 have HB:=ZZ hb
 clear hb
 go_enter Tryz.func107,Tryz.ntmps107
 go_wp2_with fail
 refine HI.out.mono ?_
 rintro e W1 ⟨⟨k,rfl,hk⟩,rfl⟩
 clear HI
 rcases hk with ⟨h0,hm⟩ | ⟨rfl,hm⟩
 ·rw[decide_eq_true hm] at HB
  clear hm
  go_wp2
  go_ret
  rw[HB.out]
  exact⟨rfl,rfl⟩
 ·rw[decide_eq_false hm] at HB
  clear hm
  go_wp2
  go_ret
  rw[HB.out]
  exact⟨rfl,rfl⟩
theorem Zuj {K:Nat->Prop} {pd p:Nat} {s:Sto} {d:Dk} {N T:Nat} (w:World) (h:SD K w pd p s d N T) (hK:∀ k,K k->k<w.heap.size) (hN:N<=1000000) (hT:T<=1000000000):
 Calls Tryz.prog 64 #[ptr p] w fun e w'=>ZeU K w pd p (ZcA (s,d)) (N+2) T e w':=by
 obtain⟨⟨c0,-⟩,-⟩:=h.cells
 have HNM:Hid (Calls Tryz.prog 29 #[ptr pd] w fun e w'=>∃ v,e=.returned v∧ZaA w' w.heap.size v (Zak d)∧Below w.heap.size w w'):=ZZ (by
  obtain⟨F,M,I,L,⟨L1,g1,g2,-⟩,-⟩:=h
  exact Zkm w g1 g2 hN)
 have HI:Hid (∀ n ∈ Zak d,I64 n):=ZZ (by
  obtain⟨F,M,I,L,⟨L1,g1,g2,-⟩,-⟩:=h
  intro n hn
  have:=Zed g2 n hn
  exact⟨by omega,by omega⟩)
 have HS:=ZZ h
 have HK:=ZZ hK
 have HRM:Hid (∀ W,Below w.heap.size w W->Calls Tryz.prog 70 #[ptr pd,.int .i64 1] W fun e w'=>ZeU K W pd p (Zbu (fun d=>Zam d 1) (s,d)) (N+2) T e w'):=ZZ (fun W hW=>(HS.out.below hW).step (fun d=>Zam d 1) (fun k hk=>Nat.lt_of_lt_of_le (HK.out k hk) hW.size) (fun F hF _=>Zmq 1 ⟨by decide,by decide⟩ _ hF hN hT))
 obtain⟨R,hR⟩:∃ R,R=ZcA (s,d):=⟨_,rfl⟩
 rw[<-hR]
 have HR:=ZZ hR
 clear h hK hR
 go_enter Tryz.func64,Tryz.ntmps64
 go_wp2_with fail
 refine HNM.out.mono ?_
 rintro e W1 ⟨v1,rfl,ho1,hb1⟩
 have HB1:=ZZ hb1
 have HCT:=ZZ (ZnX v1 (Zak d) 1 W1 (ho1.rd HI.out))
 obtain⟨a1,n1,c1,hv1⟩:∃ a n c,v1=.slice a n c:=by
  obtain⟨a,c,hh⟩:=ho1.shape
  exact⟨a,_,c,hh⟩
 subst hv1
 have HOB:Hid (Zas (fun k=>¬ K k) w W1):=ZZ (Zas.ofBelow hb1)
 obtain⟨⟨d0,-⟩,-⟩:=(HS.out.below hb1).cells
 clear ho1 hb1 HNM c0
 by_cases hm:1 ∈ Zak d
 ·rw[decide_eq_true hm] at HCT
  have HR2:Hid (R=Zbu (fun d=>Zam d 1) (s,d)):=ZZ (by rw[HR.out];unfold ZcA;rw[if_pos hm])
  have HRM1:=ZZ (HRM.out W1 HB1.out)
  rw[<-HR2.out] at HRM1
  clear hm HR HRM
  go_wp2_with fail
  refine HCT.out.mono ?_
  rintro e W2 ⟨rfl,rfl⟩
  go_wp2_with fail
  refine HRM1.out.mono ?_
  rintro e W3 ⟨rfl,hs3,ho3⟩
  have HS3:=ZZ (And.intro hs3 ho3)
  clear hs3 ho3
  go_wp2
  go_ret
  exact⟨rfl,HS3.out.1,HOB.out.trans HS3.out.2 (fun _ _ h=>h)⟩
 ·rw[decide_eq_false hm] at HCT
  have HR2:Hid (R=((s,d),0)):=ZZ (by rw[HR.out];unfold ZcA;rw[if_neg hm])
  clear hm HR HRM
  go_wp2_with fail
  refine HCT.out.mono ?_
  rintro e W2 ⟨rfl,rfl⟩
  go_wp2
  go_ret
  rw[HR2.out]
  exact⟨rfl,(HS.out.below HB1.out).mono (by omega) zL,HOB.out⟩
theorem Zrw {K:Nat->Prop} {pd p R:Nat} {s:Sto} {d:Dk} {N T:Nat} (w:World) (h:SD K w pd p s d N T) (hK:∀ k,K k->k<w.heap.size) (hR:w.cell? ⟨R,0,none⟩=some (ptr p)):
 Calls Tryz.prog 59 #[.pointer (some ⟨R,0,none⟩)] w fun e w'=>ZeU K w pd p (Zbu (fun d=>Zds d 1) (s,d)) (N+2) T e w':=by
 have HC:=ZZ (h.step (fun d=>Zds d 1) hK (fun F hF _=>ZsA 1 ⟨by decide,by decide⟩ _ hF))
 obtain⟨⟨c0,-⟩,-⟩:=h.cells
 obtain⟨r,hr⟩:∃ r,r=Zbu (fun d=>Zds d 1) (s,d):=⟨_,rfl⟩
 rw[<-hr] at HC ⊢
 clear h hK hr
 go_enter Tryz.func59,Tryz.ntmps59
 go_wp2_with fail
 refine HC.out.mono ?_
 rintro e W1 ⟨rfl,hs1,ho1⟩
 have HS1:=ZZ (And.intro hs1 ho1)
 clear hs1 ho1
 go_wp2
 go_ret
 exact⟨rfl,HS1.out⟩
theorem Zrx {K:Nat->Prop} {pd p R:Nat} {s:Sto} {d:Dk} {N T:Nat} (w:World) (h:SD K w pd p s d N T) (hK:∀ k,K k->k<w.heap.size) (hR:w.cell? ⟨R,0,none⟩=some (ptr p)) (hRK:K R) (hN:N<=1000000) (hT:T<=1000000000):
 Calls Tryz.prog 61 #[.pointer (some ⟨R,0,none⟩)] w fun e w'=>ZeU K w pd p (Zea (s,d)) (N+2) T e w':=by
 have HS:=ZZ h
 have HK:=ZZ hK
 have HRK:=ZZ hRK
 have HNN:Hid (∀ W,Below w.heap.size w W->Calls Tryz.prog 51 #[ptr p,.int .i64 3] W fun e w'=>e=.returned (.int .i64 (Zbd d 3))∧Below w.heap.size w w'):=ZZ (fun W hW=>by
  obtain⟨F,M,I,L,h1,h2,-⟩:=HS.out.below hW
  refine(ZiR 3 W h2 h1 hN (by decide) (by decide)).mono ?_
  rintro e w' ⟨rfl,hb⟩
  exact⟨rfl,hW.trans (hb.mono hW.size)⟩)
 have HNI:Hid (I64 (Zbd d 3)):=ZZ (by
  obtain⟨F,M,I,L,⟨L1,g1,g2,-⟩,-⟩:=h
  have hb:∀ n ∈ ZaW (Zak d) 3,0<=n∧n<1048576:=fun n hn=>Zed g2 n (List.mem_filter.1 hn).1
  unfold Zbd
  generalize ZaW (Zak d) 3=l at hb ⊢
  by_cases h0:l.length=0
  ·rw[List.eq_nil_of_length_eq_zero h0]
   exact⟨by decide,by decide⟩
  ·have e:l.getD (l.length-1) (3-2)=l[l.length-1]'(by omega):=by simp[List.getD,show l.length-1<l.length by omega]
   have:=hb _ (List.getElem_mem (show l.length-1<l.length by omega))
   rw[e]
   exact⟨by omega,by omega⟩)
 have HRN:Hid (∀ W,Below w.heap.size w W->Calls Tryz.prog 62 #[ptr pd,.int .i64 1,.int .i64 (Zbd d 3)] W fun e w'=>ZeU K W pd p (Zea (s,d)) (N+2) T e w'):=ZZ (fun W hW=>(HS.out.below hW).step (fun d=>ZcZ d 1 (Zbd d 3)) (fun k hk=>Nat.lt_of_lt_of_le (HK.out k hk) hW.size) (fun F hF _=>ZtG 1 (Zbd d 3) ⟨by decide,by decide⟩ HNI.out _ hF hN hT))
 have HKP:Hid (∀ W,Below w.heap.size w W->W.cell? ⟨R,0,none⟩=some (ptr p)∧W.cell? ⟨p,0,none⟩=some (ptr pd)):=ZZ (fun W hW=>by
  obtain⟨⟨d0,-⟩,-⟩:=(HS.out.below hW).cells
  exact⟨(hW.cell (p:=⟨R,0,none⟩) (HK.out R HRK.out)).trans hR,d0⟩)
 have HKQ:Hid (∀ W W' (r:SDk × Int),Below w.heap.size w W->SD K W' pd p r.1.1 r.1.2 (N+2) T->Zas (fun k=>¬ K k) W W'->W'.cell? ⟨R,0,none⟩=some (ptr p)∧W'.cell? ⟨p,0,none⟩=some (ptr pd)):=ZZ (fun W W' (r:SDk × Int) hW hs ho=>by
  obtain⟨⟨d0,-⟩,-⟩:=hs.cells
  exact⟨(World.cell?_of_block (a:=⟨R,0,none⟩) (ho.block R (Nat.lt_of_lt_of_le (HK.out R HRK.out) hW.size) (fun hn=>hn HRK.out))).trans (HKP.out W hW).1,d0⟩)
 have HSD:Hid (Below w.heap.size w w.drew):=ZZ (Below.refl _ _).drew
 obtain⟨c9,c0⟩:=HKP.out w (Below.refl _ _)
 obtain⟨r,hr⟩:∃ r,r=Zea (s,d):=⟨_,rfl⟩
 rw[<-hr] at HRN ⊢
 generalize Zbd d 3=nn at *
 clear h hK hr hR hRK HNI
 go_enter Tryz.func61,Tryz.ntmps61
 go_upto_region 1 with fail
 go_region_held(fun W=>W.cell? ⟨R,0,none⟩=some (ptr p)∧W.cell? ⟨p,0,none⟩=some (ptr pd))
  (first | (with_reducible exact HKP.out _ HSD.out) | (with_reducible exact HKP.out _ HB1.out) | (with_reducible exact HK2.out))
  (first
   | (go_at_call 51;refine(HNN.out _ HSD.out).mono ?_;rintro e W1 ⟨rfl,hb1⟩;have HB1:=ZZ hb1;clear hb1)
   | (go_at_call 62;refine(HRN.out W1 HB1.out).mono ?_;rintro e W2 ⟨rfl,hs2,ho2⟩;have HS2:=ZZ (And.intro hs2 ho2);have HK2:=ZZ (HKQ.out W1 W2 r HB1.out hs2 ho2);clear hs2 ho2))
 all_goals
  go_wp2
  go_ret
  exact⟨rfl,HS2.out.1,(Zas.ofBelow HB1.out).trans HS2.out.2 (fun _ _ h=>h)⟩
theorem Zit {l:List Rec} {q:Nat} (h:q<l.length):l.take (q+1)=l.take q++[l.getD q Zaj]:=by
 rw[List.take_add_one]
 simp[List.getD,h]
theorem Zpy:∀ (l:List Rec) (i:Int) (j:Nat),ZaZ i l->j<l.length->(l.getD j Zaj).idx=i+j
 | r::t,i,0,h,_=>by
  have:=h.1
  simp[List.getD,this]
 | r::t,i,j+1,h,hj=>by
  have:=Zpy t (i+1) j h.2 (by simpa using hj)
  simp only [List.getD,List.getElem?_cons_succ] at this ⊢
  rw[this]
  omega
theorem Ziu:∀ (l:List Rec) (i:Int) (r:Rec),ZaZ i (l++[r])↔ZaZ i l∧r.idx=i+l.length
 | [],i,r=>by simp[ZaZ]
 | s::t,i,r=>by
  rw[List.cons_append,ZaZ,ZaZ,Ziu t (i+1) r,List.length_cons,and_assoc]
  constructor
  ·rintro⟨h1,h2,h3⟩
   exact⟨h1,h2,by omega⟩
  ·rintro⟨h1,h2,h3⟩
   exact⟨h1,h2,by omega⟩
theorem ZmJ:∀ (l:List Rec) (i:Int) (k:Nat),ZaZ i l->ZaZ i (l.take k)
 | _,_,0,_=>by simp[ZaZ]
 | [],_,k+1,_=>by simp[ZaZ]
 | r::t,i,k+1,h=>by
  rw[List.take_succ_cons]
  exact⟨h.1,ZmJ t (i+1) k h.2⟩
def ZlW (l:List Rec) (k:Nat):Prop:=(∀ r ∈ l.take k,Zaz r)∧ZaZ (l.headD Zaj).idx (l.take k)
theorem Zuk (l:List Rec):ZlW l 0:=⟨fun r h=>by simp at h,by simp[ZaZ]⟩
theorem Zul {l:List Rec} {k:Nat} (hk:k<l.length):ZlW l (k+1)↔ZlW l k∧Zaz (l.getD k Zaj)∧(l.getD k Zaj).idx=(l.headD Zaj).idx+k:=by
 unfold ZlW
 rw[Zit hk,Ziu]
 have hl:(l.take k).length=k:=by simp;omega
 rw[hl]
 constructor
 ·rintro⟨h1,h2,h3⟩
  exact⟨⟨fun r hr=>h1 r (by simp[hr]),h2⟩,h1 _ (by simp),h3⟩
 ·rintro⟨⟨h1,h2⟩,h3,h4⟩
  refine⟨fun r hr=>?_,h2,h4⟩
  rcases List.mem_append.1 hr with h | h
  ·exact h1 r h
  ·simp only [List.mem_singleton] at h
   rw[h]
   exact h3
theorem ZwM {l:List Rec} (h:ZlW l l.length) (h1:1<=l.length) (h2:l.length<=256):ZbD l:=by
 unfold ZlW at h
 rw[List.take_length] at h
 exact⟨h1,h2,h.1,h.2⟩
theorem ZbD.part {l:List Rec} (h:ZbD l) (k:Nat):ZlW l k:=⟨fun r hr=>h.2.2.1 r (List.mem_of_mem_take hr),ZmJ l _ k h.2.2.2⟩
theorem ZiV {o:Opn} (h:Zdt o):(ZaT o).length<=30:=by
 have h1:=ZxL (ZdD h).1
 have h2:=ZxL (ZdD h).2
 have hc0:0<=o.code:=h.1
 have hc1:o.code<=10:=h.2.1
 have h3:=Zdx (n:=o.code.toNat) (by omega)
 unfold ZaT
 rw[List.length_append,List.length_append]
 omega
theorem ZmK {pre:List Rec} (hp:∀ r ∈ pre,Zaz r) {r:Rec} (hr:Zaz r):(ZbH pre r).length<=60:=by
 have hd:=Zhm hp hr
 have hresp:=ZdS hr
 have h4:=ZiV hr.1
 obtain⟨_,_,_,_,_,hp0,hp1,_⟩:=hr
 have h1:=Zdx (n:=r.proc.toNat) (by omega)
 have h2:=ZxL hd
 have h3:=ZxL hresp
 unfold ZbH
 simp only [List.length_append]
 omega
theorem Zpz:∀ (l pre:List Rec),(∀ r ∈ pre,Zaz r)->(∀ r ∈ l,Zaz r)->(Zbq pre l).length<=60*l.length
 | [],_,_,_=>by simp[Zbq]
 | r::t,pre,hp,hl=>by
  have h1:=ZmK hp (hl r (by simp))
  have h2:=Zpz t (pre++[r]) (fun s hs=>by
   rcases List.mem_append.1 hs with h | h
   ·exact hp s h
   ·simp at h;rw[h];exact hl r (by simp)) (fun s hs=>hl s (by simp[hs]))
  rw[Zbq,List.length_append,List.length_cons]
  omega
def ZnY (w:World) (l:List Rec) (e:Ending) (w':World):Prop:=
 ∃ v',e=.returned (.tuple #[v',.int .i64 (if ZbD l then 0 else 1)])∧Own w' w.heap.size v' (if ZbD l then Zdy l else[])∧Below w.heap.size w w'
theorem Below.allocs {a w:World} (h:Below a.heap.size a w) (X:Obj):Below a.heap.size a (w.alloc X):=h.alloc h.size X
theorem ZyG {n:Nat} (h:n<128):Lib.uvarint n=[n.toUInt8]:=Lib.uvarint_small h
theorem ZmL {v k f:Nat} (h1:1<=v) (h3:v<=3) (hk:k<6) (hf:f<4611686018427387904):Zcu (ZbB v k f)=.ok (v,k,f):=by
 have q1:=Lib.uvarint_pos v
 have q2:=Lib.uvarint_pos k
 have q3:=Lib.uvarint_pos f
 have d1:Zab ((ZbB v k f).drop 1)=(v,(Lib.uvarint v).length):=by
  unfold ZbB
  rw[List.drop_succ_cons,List.drop_zero]
  exact ZaQ _ _ (by omega)
 have e2:(ZbB v k f).drop (1+(Lib.uvarint v).length)=Lib.uvarint k++Lib.uvarint f:=by
  unfold ZbB
  rw[Nat.add_comm,List.drop_succ_cons,List.drop_left]
 have d2:Zab ((ZbB v k f).drop (1+(Lib.uvarint v).length))=(k,(Lib.uvarint k).length):=by
  rw[e2]
  exact ZaQ _ _ (by omega)
 have e3:(ZbB v k f).drop (1+(Lib.uvarint v).length+(Lib.uvarint k).length)=Lib.uvarint f:=by
  rw[<-List.drop_drop,e2,List.drop_left]
 have d3:Zab ((ZbB v k f).drop (1+(Lib.uvarint v).length+(Lib.uvarint k).length))=(f,(Lib.uvarint f).length):=by
  rw[e3]
  have:=ZaQ f [] hf
  rw[List.append_nil] at this
  exact this
 have hl:(ZbB v k f).length=1+(Lib.uvarint v).length+(Lib.uvarint k).length+(Lib.uvarint f).length:=by
  unfold ZbB
  simp only [List.length_cons,List.length_append]
  omega
 unfold Zcu
 simp only [d1,d2,d3]
 rw[if_neg (by rintro(h | h);exact absurd h (by unfold ZbB;simp);exact h rfl),if_neg (by omega),if_neg (by omega),if_neg (by omega)]
theorem ZhF {v k f:Nat} (h3:v<=3) (hk:k<6) (hf:f<4611686018427387904):(ZbB v k f).length<=40:=by
 have q1:(Lib.uvarint v).length<=10:=Lib.uvarint_length64 (by omega)
 have q2:(Lib.uvarint k).length<=10:=Lib.uvarint_length64 (by omega)
 have q3:(Lib.uvarint f).length<=10:=Lib.uvarint_length64 (by omega)
 unfold ZbB
 simp only [List.length_cons,List.length_append]
 omega
theorem Zry {pre:List Rec} (hp:∀ r ∈ pre,Zaz r) {r:Rec} (hr:Zaz r):(ZbH pre r).length<=60:=by
 have hd:=Zhm hp hr
 have hresp:=ZdS hr
 obtain⟨g1,_,_,_,_,hp0,hp1,_⟩:=hr
 have q1:(Lib.uvarint r.proc.toNat).length<=10:=Lib.uvarint_length64 (by omega)
 have q2:(Lib.uvarint (Lib.zigzag (r.seq-Zav pre r.proc))).length<=10:=Lib.uvarint_length64 (ZeJ hd)
 have q4:(Lib.uvarint r.op.code.toNat).length<=10:=Lib.uvarint_length64 (by have:=g1.1;have:=g1.2.1;omega)
 have q5:(Lib.uvarint (Lib.zigzag r.op.a)).length<=10:=Lib.uvarint_length64 (ZeJ (ZdD g1).1)
 have q6:(Lib.uvarint (Lib.zigzag r.op.b)).length<=10:=Lib.uvarint_length64 (ZeJ (ZdD g1).2)
 have q7:(Lib.uvarint (Lib.zigzag r.resp)).length<=10:=Lib.uvarint_length64 (ZeJ hresp)
 unfold ZbH ZaT
 simp only [List.length_append]
 omega
theorem Ziv:∀ (l pre:List Rec),(∀ r ∈ pre,Zaz r)->(∀ r ∈ l,Zaz r)->(Zbq pre l).length<=60*l.length
 | [],_,_,_=>by simp[Zbq]
 | r::t,pre,hp,hl=>by
  have hr:=hl r (by simp)
  have h1:=Zry hp hr
  have h2:=Ziv t (pre++[r]) (fun s hs=>by
   rcases List.mem_append.1 hs with h | h
   ·exact hp s h
   ·rw[List.mem_singleton.1 h];exact hr) (fun s hs=>hl s (by simp[hs]))
  rw[Zbq,List.length_append,List.length_cons]
  omega
theorem Zfn {d:List UInt8} {v k f:Nat} (h:Zcu d=.ok (v,k,f)):d=ZbB v k f∧1<=v∧v<=3∧k<6∧f<4611686018427387904:=by
 unfold Zcu at h
 simp only at h
 split at h
 ·cases h
 rename_i g1
 split at h
 ·cases h
 rename_i g2
 split at h
 ·cases h
 rename_i g3
 split at h
 ·cases h
 rename_i g4
 simp only [Except.ok.injEq,Prod.mk.injEq] at h
 obtain⟨hv,hk,hf⟩:=h
 have t1:=ZbC (l:=d.drop 1) (by omega)
 have t2:=ZbC (l:=d.drop (1+(Zab (d.drop 1)).2)) (by omega)
 have t3:=ZbC (l:=d.drop (1+(Zab (d.drop 1)).2+(Zab (d.drop (1+(Zab (d.drop 1)).2))).2)) (by omega)
 have hf62:f<4611686018427387904:=by
  rw[<-hf]
  rcases Zax (d.drop (1+(Zab (d.drop 1)).2+(Zab (d.drop (1+(Zab (d.drop 1)).2))).2)) with h | h
  ·rw[h];decide
  ·exact h.1
 rw[hv] at t1 g3
 rw[hk] at t2 g4
 rw[hf] at t3
 generalize (Zab (d.drop 1)).2=i at *
 generalize (Zab (d.drop (1+i))).2=j at *
 generalize (Zab (d.drop (1+i+j))).2=m at *
 refine⟨?_,by omega,by omega,by omega,hf62⟩
 cases d with
 | nil=>exact absurd (.inl rfl) g1
 | cons c t=>
  have hc:c=108:=by
   have:=fun h=>g1 (.inr h)
   simpa using Decidable.not_not.1 this
  have x1:(c::t).drop 1=t:=rfl
  have x2:(c::t).drop (1+i)=t.drop i:=by rw[Nat.add_comm,List.drop_succ_cons]
  have x3:(c::t).drop (1+i+j)=(t.drop i).drop j:=by rw[<-List.drop_drop,x2]
  rw[x1] at t1
  rw[x2] at t2
  rw[x3] at t3
  have hm:m=((t.drop i).drop j).length:=by
   have:1+i+j+m=(c::t).length:=Decidable.not_not.1 (fun h=>g2 (.inr (.inr (.inr h))))
   rw[List.length_cons] at this
   rw[List.length_drop,List.length_drop]
   omega
  rw[hm,List.take_length] at t3
  unfold ZbB
  rw[hc,t1,t2,t3,List.take_append_drop,List.take_append_drop]
def ZiW (k f:Int):Prop:=0<=k∧k<6∧0<=f∧f<4611686018427387904
instance (k f:Int):Decidable (ZiW k f):=by unfold ZiW;infer_instance
def Zcg (v k f:Int):Int:=if 1<=v∧v<=3 then(if ZiW k f then 0 else 1) else 6
def Zjj (v k f:Int):List UInt8:=if 1<=v∧v<=3 then(if ZiW k f then Zad (ZbB v.toNat k.toNat f.toNat) else[]) else[]
def ZsP (w:World) (v k f:Int) (e:Ending) (w':World):Prop:=
 ∃ v',e=.returned (.tuple #[v',.int .i64 (Zcg v k f)])∧Own w' w.heap.size v' (Zjj v k f)∧Below w.heap.size w w'
theorem Rd.byte (w:World) (c:UInt8):Rd (w.alloc (.cells #[.int .u8 c.toNat] 5)) (.slice (some ⟨w.heap.size,0,none⟩) 1 1) [c]:=by
 refine⟨some ⟨w.heap.size,0,none⟩,1,rfl,Nat.le_refl _,by unfold maxLen;omega,(fun h=>by cases h),.inr ⟨w.heap.size,0,rfl,fun j hj=>?_⟩⟩
 have e:j=0:=by simpa using hj
 subst e
 rw[cell_of_row _ w.heap.size 0 _ 5 (0,0) (heap_alloc_new w _)]
 rfl
theorem ZnZ {l:List UInt8} (h:l.length<=1048576):Zzs l=(Zad l,0):=by
 unfold Zzs
 rw[if_pos h]
theorem Zum {L:List (List UInt8)} {q:Nat} (h:q<L.length):L.take (q+1)=L.take q++[L.getD q []]:=by
 rw[List.take_add_one]
 simp[List.getD,h]
theorem RdL.at {w:World} {ao:Option Addr} {n cap:Nat} {L:List (List UInt8)} (h:RdL w (.slice ao n cap) L) (k:Nat) (hk:k<L.length):
 ∃ b off x,ao=some ⟨b,off,none⟩∧(∀ W,Below w.heap.size w W->W.cell? ⟨b,off+k,none⟩=some x)∧∀ W,Below w.heap.size w W->Rd W x (L.getD k []):=by
 obtain⟨ao',cap',e,_,_,_,hao⟩:=h
 simp only [Value.slice.injEq] at e
 obtain⟨rfl,_,rfl⟩:=e
 rcases hao with h0 | ⟨b,off,hab,hc⟩
 ·rw[h0] at hk;simp at hk
 ·obtain⟨x,hx,hxr⟩:=hc k hk
  have hlt:b<w.heap.size:=World.block_lt_of_cell? w ⟨b,off+k,none⟩ hx
  exact⟨b,off,x,hab,fun W hb=>(hb.cell (p:=⟨b,off+k,none⟩) hlt).trans hx,fun W hb=>hxr.below hb zL⟩
theorem Zfu:∀ (L:List (List UInt8)) (k:Nat),(L.take k).flatten.length<=L.flatten.length
 | [],k=>by simp
 | x::L,0=>by simp
 | x::L,k+1=>by
  have:=Zfu L k
  rw[List.take_succ_cons,List.flatten_cons,List.flatten_cons,List.length_append,List.length_append]
  omega
theorem ZsQ {L:List (List UInt8)} {q:Nat} (h:q<L.length):L.getD q [] ∈ L:=by
 have e:L.getD q []=L[q]:=by simp[List.getD,h]
 rw[e]
 exact List.getElem_mem h
theorem Zgv (B:List (List UInt8)):(B.map Zad).flatten=Zae B:=by
 unfold Zae
 rw[List.flatMap_def]
theorem ZyH (l:List UInt8):(Zab l).1<4611686018427387904:=by
 rcases Zax l with h | h
 ·rw[h];decide
 ·exact h.1
theorem ZyI (W:World) (ao:Option Addr) (cap:Nat) (l:List UInt8) (hr:Rd W (.slice ao l.length cap) l) (n:Nat) (hn:n<=l.length):Rd W (.slice (if cap=n then ao else Option.map (fun x=>x.add n) ao) (l.length-n) (cap-n)) (l.drop n):=by
 have hlc:l.length<=cap:=by
  obtain⟨a,c,e,h,-⟩:=hr
  simp only [Value.slice.injEq] at e
  omega
 have h:=hr.mid n l.length cap (by omega) (by omega) (by omega) (by omega)
 rw[List.take_of_length_le (by rw[List.length_drop];omega)] at h
 simpa[sliced] using h
theorem Zrz (W:World) (ao:Option Addr) (l:List UInt8) (cap:Nat) (_hlc:l.length<=cap) (i:Int) (n:Nat) (hi:i=(n:Int)) (hn:n<=l.length):
 (Instr.sliceAt 53 (.slice ao l.length cap) (some (.int .i64 i)) none none).run Tryz.prog W=.ok (sliced ao n l.length cap 1) W:=by
 subst hi
 rw[run_sliceAt_slice W 53 _ _ _ _ ZaE,run_slice_l W 53 ao l.length cap ZaE .i64 (n:Int) (by omega) (by omega),ZbS,Zfg]
 rfl
def ZdK (w:World) (b:List UInt8) (e:Ending) (w':World):Prop:=
 ∃ (vl:Value) (l:List Rec) (n:Int),e=.returned (.tuple #[vl,.int .i64 n])∧RdR w' vl l∧DecB b l n∧Below w.heap.size w w'
theorem ZdK.none {w w':World} {b:List UInt8} (h:∀ l',ZbD l'->Zdy l'≠b) (hb:Below w.heap.size w w'):ZdK w b (.returned (.tuple #[.slice none 0 0,.int .i64 3])) w':=
 ⟨_,[],3,rfl,RdR.nil _,.inr ⟨rfl,rfl,h⟩,hb⟩
theorem Zun {l:List Rec} (h:ZbD l):Zaz (l.headD Zaj):=by
 obtain⟨h1,_,hf,_⟩:=h
 match l,h1 with
 | r::u,_=>exact hf r (by simp)
theorem ZrA {l:List Rec} (h:ZbD l) {b:List UInt8} (hb:Zdy l=b):
 ((Zab b).1:Int)=(l.headD Zaj).idx∧(Zab b).2≠0∧(Zab (b.drop (Zab b).2)).1=l.length∧(Zab (b.drop (Zab b).2)).2≠0∧b.drop ((Zab b).2+(Zab (b.drop (Zab b).2)).2)=Zbq [] l:=by
 obtain⟨_,i0,i1,_⟩:=Zun h
 have h2:=h.2.1
 subst hb
 have d1:Zab (Zdy l)=((l.headD Zaj).idx.toNat,(Lib.uvarint (l.headD Zaj).idx.toNat).length):=ZaQ _ _ (by omega)
 have e1:(Zdy l).drop (Lib.uvarint (l.headD Zaj).idx.toNat).length=Lib.uvarint l.length++Zbq [] l:=by
  unfold Zdy
  rw[List.drop_left]
 have d2:=ZaQ l.length (Zbq [] l) (by omega)
 rw[d1]
 simp only
 rw[e1,d2]
 refine⟨by omega,Zhj _,rfl,Zhj _,?_⟩
 rw[<-List.drop_drop,e1,List.drop_left]
theorem Zzu (w:World) (ao:Option Addr) (l:List UInt8) (cap:Nat) (hr:Rd w (.slice ao l.length cap) l) (n:Nat) (hn:n<=l.length):
 ∃ a c,Rd w (.slice a (l.drop n).length c) (l.drop n)∧∀ i:Int,i=(n:Int)->∀ W,(Instr.sliceAt 53 (.slice ao l.length cap) (some (.int .i64 i)) none none).run Tryz.prog W=.ok (.slice a (l.drop n).length c) W:=by
 have h:=ZyI w ao cap l hr n hn
 have hlc:l.length<=cap:=by
  obtain⟨a,c,e,h,-⟩:=hr
  simp only [Value.slice.injEq] at e
  omega
 refine⟨_,_,by rw[List.length_drop];exact h,fun i hi W=>?_⟩
 rw[Zrz W ao l cap hlc i n hi hn,List.length_drop]
 simp[sliced]
theorem ZmM {d:List UInt8} (h:d=[]∨d.getD 0 0≠108):Zcu d=.error 3:=by
 unfold Zcu
 rw[if_pos h]
theorem Zuo {d:List UInt8} (h:¬ (d=[]∨d.getD 0 0≠108)) {v i k j f m:Nat} (h1:Zab (d.drop 1)=(v,i)) (h2:Zab (d.drop (1+i))=(k,j)) (h3:Zab (d.drop (1+i+j))=(f,m)):
 Zcu d=if i=0∨j=0∨m=0∨1+i+j+m≠d.length then .error 3 else if v<1∨3<v then .error 6 else if 6<=k then .error 1 else .ok (v,k,f):=by
 unfold Zcu
 rw[if_neg h,h1]
 simp only
 rw[h2]
 simp only
 rw[h3]
theorem ZdL {r:Rec} (h:Zaz r):ZfA r:=by
 have hresp:=ZdS h
 obtain⟨g1,g2,g3,g4,g5,g6,g7,_,_⟩:=h
 have hab:=ZdD g1
 exact⟨⟨by omega,by omega⟩,⟨by omega,by omega⟩,⟨by omega,by omega⟩,⟨⟨by have:=g1.1;omega,by have:=g1.2.1;omega⟩,hab.1,hab.2⟩,hresp⟩
def ZrB (L:List (List UInt8)) (v k f:Nat):Seg × Nat × Int:=(⟨k,f,(Zdm v f L.tail [] 16).1⟩,1+(Zdm v f L.tail [] 16).2.1,(Zdm v f L.tail [] 16).2.2)
theorem Zbm.set {w:World} {C:Nat} {v:Value} {l:List Rec} (h:Zbm w C v l) (R i:Nat) (hR:R<C) (x:Value):Zbm (w.setCell ⟨R,i,none⟩ x) C v l:=ownsRow_setCell_below h hR x
theorem ZbE {C:Nat} {w0 w:World} (h:Below C w0 w) (R:Nat) (hR:C<=R) (x0 x1 x2:Value):Below C w0 (((w.setCell ⟨R,0,none⟩ x0).setCell ⟨R,1,none⟩ x1).setCell ⟨R,2,none⟩ x2):=
 ((h.setCell hR _).setCell hR _).setCell hR _
theorem Zup (v:Nat) (first:Int) (d:List UInt8) (ds:List (List UInt8)) (acc:List Rec) (last:Nat):
 Zdm v first (d::ds) acc last=match Zsu v d (first+acc.length) with
  | none=>(acc,0,3)
  | some r=>if last<16 then(acc,0,3) else if 4096<acc.length+r.length then(acc,0,5)
   else((Zdm v first ds (acc++r) r.length).1,(Zdm v first ds (acc++r) r.length).2.1+1,(Zdm v first ds (acc++r) r.length).2.2):=by
 rw[Zdm]
 cases Zsu v d (first+acc.length) <;> rfl
theorem drop_one {L:List (List UInt8)} {j:Nat} (hj:j<L.length):L.drop j=L.getD j []::L.drop (j+1):=by
 rw[List.drop_eq_getElem_cons hj]
 simp[List.getD,hj]
theorem Zfo:∀ (n:Nat) (b:List UInt8),b.length<=n->Zae (Zao b).1=b.take (Zao b).2.1∧∀ x ∈ (Zao b).1,x.length<=1048576
 | 0,b,hn=>by
  have e:b=[]:=List.eq_nil_of_length_eq_zero (by omega)
  subst e
  rw[ZeL]
  exact⟨rfl,by simp⟩
 | n+1,b,hn=>by
  by_cases e:b=[]
  ·subst e
   rw[ZeL]
   exact⟨rfl,by simp⟩
  by_cases hd:(ZbP b).2.2=0
  ·obtain⟨d1,d2,d3,d4⟩:=Zno hd
   have h5:=ZeK hd
   rw[Zfc e hd]
   obtain⟨i1,i2⟩:=Zfo n (b.drop (ZbP b).2.1) (by rw[List.length_drop];omega)
   refine⟨?_,fun x hx=>?_⟩
   ·show Zae ((ZbP b).1::(Zao (b.drop (ZbP b).2.1)).1)=b.take ((ZbP b).2.1+(Zao (b.drop (ZbP b).2.1)).2.1)
    rw[ZaS,i1,<-d4,List.take_add]
   ·rcases List.mem_cons.1 hx with hx | hx
    ·rw[hx];exact d1
    ·exact i2 x hx
  ·rw[Zfb e hd]
   exact⟨rfl,by simp⟩
theorem ZiX:∀ (L:List (List UInt8)) (x:List UInt8),x ∈ L->x.length+5<=(Zae L).length
 | y::L,x,hx=>by
  rw[ZaS,List.length_append]
  rcases List.mem_cons.1 hx with h | h
  ·rw[h,Zar]
   have:=Lib.uvarint_pos y.length
   omega
  ·have:=ZiX L x h
   omega
theorem ZhG:∀ (L:List (List UInt8)),5*L.length<=(Zae L).length
 | []=>by simp
 | y::L=>by
  have:=ZhG L
  have:=Zqu y
  rw[ZaS,List.length_append,List.length_cons]
  omega
theorem ZhH (b:List UInt8):(∀ x ∈ (Zao b).1,x.length<=1048576∧x.length<=b.length)∧5*(Zao b).1.length<=b.length:=by
 obtain⟨h1,h2⟩:=Zfo _ b zL
 have h3:(Zae (Zao b).1).length<=b.length:=by
  rw[h1,List.length_take]
  omega
 refine⟨fun x hx=>⟨h2 x hx,?_⟩,?_⟩
 ·have:=ZiX _ x hx
  omega
 ·have:=ZhG (Zao b).1
  omega
theorem ZwN {L:List (List UInt8)} (h:2<=L.length):(L.take (L.length-1)).headD []=L.headD []∧(L.take (L.length-1)).tail=L.tail.dropLast∧L.getLastD []=L.getD (L.length-1) []∧L.headD []=(L.take (L.length-1)).getD 0 []:=by
 match L,h with
 | x::y::t,_=>
  refine⟨rfl,?_,?_,rfl⟩
  ·show((x::y::t).take (t.length+1)).tail=(y::t).dropLast
   rw[List.take_succ_cons,List.tail_cons,List.dropLast_eq_take,List.length_cons]
   rfl
  ·rw[List.getLastD_eq_getLast?,List.getLast?_eq_getElem?]
   simp[List.getD]
theorem ZAB {L:List (List UInt8)} (h2:2<=L.length):ZAL L=match Zcu ((L.take (L.length-1)).headD []) with
 | .error e=>(Zhn,e)
 | .ok (v,k,f)=>if(ZrB (L.take (L.length-1)) v k f).2.2≠0 then(Zhn,(ZrB (L.take (L.length-1)) v k f).2.2)
  else if ZAK ((L.take (L.length-1)).headD []) (L.take (L.length-1)).tail=L.getD (L.length-1) [] then((ZrB (L.take (L.length-1)) v k f).1,0) else(Zhn,16):=by
 obtain⟨e1,e2,e3,_⟩:=ZwN h2
 unfold ZAL ZrB
 rw[if_neg (by omega),e1,e2,e3]
 cases Zcu (L.headD []) <;> rfl
theorem ZwO (w:World) (ao:Option Addr) (L:List (List UInt8)) (m cap:Nat) (hm:m=L.length) (hr:RdL w (.slice ao m cap) L) (n:Nat) (hn:n<=L.length):
 ∃ a c,RdL w (.slice a (L.drop n).length c) (L.drop n)∧∀ i:Int,i=(n:Int)->∀ W,(Instr.sliceAt 145 (.slice ao m cap) (some (.int .i64 i)) none none).run Tryz.prog W=.ok (.slice a (L.drop n).length c) W:=by
 subst hm
 have hlc:L.length<=cap:=by
  obtain⟨a,c,e,h,-⟩:=hr
  simp only [Value.slice.injEq] at e
  omega
 have h:=hr.mid n L.length cap hn zL hlc zL
 rw[List.take_of_length_le (by rw[List.length_drop];omega)] at h
 unfold sliced at h
 refine⟨_,_,by rw[List.length_drop];exact h,fun i hi W=>?_⟩
 subst hi
 rw[run_sliceAt_slice W 145 _ _ _ _ Zgg,run_slice_l W 145 ao L.length cap Zgg .i64 (n:Int) (by omega) (by omega),ZkD,ZmC,List.length_drop]
 rfl
theorem Zuq (w:World) (ao:Option Addr) (L:List (List UInt8)) (m cap:Nat) (hm:m=L.length) (hr:RdL w (.slice ao m cap) L) (n:Nat) (hn:n<=L.length):
 RdL w (.slice ao n cap) (L.take n)∧∀ i:Int,i=(n:Int)->∀ W,(Instr.sliceAt 145 (.slice ao m cap) none (some (.int .i64 i)) none).run Tryz.prog W=.ok (.slice ao n cap) W:=by
 subst hm
 have hlc:L.length<=cap:=by
  obtain⟨a,c,e,h,-⟩:=hr
  simp only [Value.slice.injEq] at e
  omega
 refine⟨hr.front n hn,fun i hi W=>?_⟩
 subst hi
 rw[run_sliceAt_slice W 145 _ _ _ _ Zgg,run_slice_h W 145 ao L.length cap Zgg .i64 (n:Int) (by omega) (by omega),ZkD,ZmC]
 show Result.ok (sliced ao 0 n cap 1) W=_
 unfold sliced
 have e:(if cap=0 then ao else ao.map (·.add (0*1)))=ao:=by
  split
  ·rfl
  ·cases ao <;> simp[Addr.add]
 rw[e,Nat.sub_zero,Nat.sub_zero]
theorem ZyJ {d:List UInt8} {x:Int} (h:Zcu d=.error x):x≠0:=by
 intro hx
 rw[hx] at h
 unfold Zcu at h
 simp only at h
 repeat' split at h
 all_goals simp at h
def ZdU (w:World) (b:List UInt8) (e:Ending) (w':World):Prop:=
 ∃ vl,e=.returned (.tuple #[.agg #[.int .i64 (ZdI b).1.kind,.int .i64 (ZdI b).1.first,vl],.int .i64 ((ZdI b).2.1:Nat),.bool (ZdI b).2.2])∧RdR w' vl (ZdI b).1.recs∧Below w.heap.size w w'
theorem ZdU.fail {w w':World} {b:List UInt8} (h:ZdI b=(Zhn,0,false)) (hb:Below w.heap.size w w'):ZdU w b (.returned (.tuple #[.agg #[.int .i64 0,.int .i64 0,.slice none 0 0],.int .i64 0,.bool false])) w':=by
 refine⟨.slice none 0 0,?_,?_,hb⟩
 ·rw[h]
  rfl
 ·rw[h]
  exact RdR.nil _
theorem ZkW (v:Nat) (first:Int):∀ (B:List (List UInt8)) (acc:List Rec) (last:Nat),(Zdm v first B acc last).2.1<=B.length
 | [],acc,last=>by rw[Zdm];simp
 | d::ds,acc,last=>by
  rw[Zup,List.length_cons]
  cases Zsu v d (first+acc.length) with
  | none=>simp
  | some r=>
   simp only
   split
   ·simp
   split
   ·simp
   have ih:=ZkW v first ds (acc++r) r.length
   simp only
   omega
theorem ZhI (L:List (List UInt8)) (c:Nat):(Zae (L.take c)).length<=(Zae L).length:=by
 have h:=Zfu (L.map Zad) c
 rw[Zgv,<-List.map_take,Zgv] at h
 exact h
theorem Zur {b:List UInt8} (h:(Zao b).1≠[]):ZdI b=match Zcu ((Zao b).1.headD []) with
 | .error _=>(Zhn,0,false)
 | .ok (v,k,f)=>((ZrB (Zao b).1 v k f).1,(Zae ((Zao b).1.take (ZrB (Zao b).1 v k f).2.1)).length,true):=by
 unfold ZdI Zya
 rw[if_neg h]
 cases Zcu ((Zao b).1.headD []) <;> rfl
theorem Rd.drewN {w:World} {v:Value} {l:List UInt8} (h:Rd w v l) (n:Nat):Rd (w.drewN n) v l:=h.below (ZaM (Below.refl _ w) n) zL
theorem ZBy (w:World) (v:Value) (l:List UInt8) (hr:Rd w v l) (K N:Int) (k n:Nat) (hk:K=k) (hn:N=n) (h:k+n+4<=l.length):
 ∃ v1 v2 v3,(∀ q,(Instr.sliceAt 53 v none (some (.int .i64 (K+N))) (some (.int .i64 (K+N)))).run Tryz.prog (w.drewN q)=.ok v1 (w.drewN q))∧
  (∀ q,(Instr.sliceAt 53 v (some (.int .i64 K)) (some (.int .i64 (K+N))) (some (.int .i64 (K+N)))).run Tryz.prog (w.drewN q)=.ok v2 (w.drewN q))∧
  (∀ q,(Instr.sliceAt 53 v (some (.int .i64 (K+N))) (some (.int .i64 (K+N+4))) (some (.int .i64 (K+N+4)))).run Tryz.prog (w.drewN q)=.ok v3 (w.drewN q))∧
  Rd w v1 (l.take (k+n))∧Rd w v2 ((l.drop k).take n)∧Rd w v3 ((l.drop (k+n)).take 4):=by
 have h0:=hr
 obtain⟨ao,cap,rfl,hlc,_⟩:=hr
 have e1:(K+N).toNat=k+n:=by omega
 have e2:K.toNat=k:=by omega
 have e3:(K+N+4).toNat=k+n+4:=by omega
 refine⟨sliced ao 0 (k+n) (k+n) 1,sliced ao k (k+n) (k+n) 1,sliced ao (k+n) (k+n+4) (k+n+4) 1,?_,?_,?_,?_,?_,?_⟩
 ·intro q
  rw[run_sliceAt_slice _ 53 _ _ _ _ ZaE,run_slice_hm _ 53 ao l.length cap ZaE .i64 .i64 (K+N) (K+N) (by omega) (by omega) (by omega),ZbS,Zfg,e1]
  rfl
 ·intro q
  rw[run_sliceAt_slice _ 53 _ _ _ _ ZaE,run_slice_lhm _ 53 ao l.length cap ZaE .i64 .i64 .i64 K (K+N) (K+N) (by omega) (by omega) (by omega) (by omega),ZbS,Zfg,e1,e2]
  rfl
 ·intro q
  rw[run_sliceAt_slice _ 53 _ _ _ _ ZaE,run_slice_lhm _ 53 ao l.length cap ZaE .i64 .i64 .i64 (K+N) (K+N+4) (K+N+4) (by omega) (by omega) (by omega) (by omega),ZbS,Zfg,e1,e3]
  rfl
 ·have:=h0.mid 0 (k+n) (k+n) (by omega) (by omega) (by omega) (by omega)
  simpa using this
 ·have:=h0.mid k (k+n) (k+n) (by omega) (by omega) (by omega) (by omega)
  rwa [show k+n-k=n by omega] at this
 ·have:=h0.mid (k+n) (k+n+4) (k+n+4) (by omega) (by omega) (by omega) (by omega)
  rwa [show k+n+4-(k+n)=4 by omega] at this
theorem ZgP {ops:Array Oper} {C:World->Prop} {Q:Act->Prop} {rest:List Oper} {o:Oper} {a:Act} {w:World} (hg:o.guard=none) (x:Operand) (lo hi mx:Option Operand)
 (ho:o.op=.slice 53 x lo hi mx) (hC:∀ w',C w'->∃ q,w'=w.drewN q) (v:Value)
 (hrun:∀ q,(Instr.sliceAt 53 (a.eval x) (lo.map a.eval) (hi.map a.eval) (mx.map a.eval)).run Tryz.prog (w.drewN q)=.ok v (w.drewN q))
 (h:wpQuiet Tryz.prog ops C Q rest (a.put o.dst v)):wpQuiet Tryz.prog ops C Q (o::rest) a:=
 wpQuiet_step fun _ hK=>by
  rw[if_pos (by simp[Region.wanted,hg])]
  refine⟨v,fun w' hw'=>?_,hK _ h⟩
  obtain⟨q,rfl⟩:=hC w' hw'
  unfold Oper.quietAt execOp
  simp only [ho,hrun,Sem.run_bind,Sem.run_pure,Result.andThen_ok,Oper.quietUpon,and_self]
theorem Zus (v:Value) (l:List UInt8) (w:World) (hr:Rd w v l):
 Calls Tryz.prog 200 #[v] w fun e w'=>ZgO w l e w':=by
 have HR:=ZZ hr
 have HO:=ZZ (ZAd v l w hr)
 have HG:=ZZ (ZfM v l w hr)
 obtain⟨ao,cap,rfl,hlc,hcm,hn0,hao⟩:=hr
 clear hn0 hao
 have hml:(l.length:Int)<=9223372036854775807:=by unfold maxLen at hcm;omega
 have HLC:=ZZ hlc
 have HCM:=ZZ hcm
 clear hlc hcm
 by_cases c1:ZcX l
 ·have HE:=ZZ (ZAQ c1)
  have HD:Hid (decide (ZcX l)=true):=decide_eq_true c1
  rw[HD.out] at HO
  clear c1 HG
  go_enter Tryz.func200,Tryz.ntmps200
  go_wp2_with fail
  refine HO.out.mono ?_
  rintro e w1 ⟨rfl,rfl⟩
  clear HO
  go_wp2
  go_ret3
  exact ZgO.refused HE.out
 have HD:Hid (decide (ZcX l)=false):=decide_eq_false c1
 rw[HD.out] at HO
 have C1:=ZZ c1
 clear c1
 have hg1:=Zax l
 obtain⟨n,hn⟩:∃ n,n=(Zab l).1:=⟨_,rfl⟩
 obtain⟨k,hk⟩:∃ k,k=(Zab l).2:=⟨_,rfl⟩
 rw[<-hn,<-hk] at hg1 HG
 have HN:=ZZ hn
 have HK:=ZZ hk
 have hk9:=Zuc l
 have hbd:(n:Int)<4611686018427387904∧(k:Int)<=l.length∧(k:Int)<=9:=by
  rw[<-hk] at hk9
  rcases hg1 with h | h
  ·have h1:n=0:=by rw[hn,h]
   have h2:k=0:=by rw[hk,h]
   omega
  ·omega
 clear hk9
 obtain⟨N,hNn⟩:∃ N:Int,N=(n:Int):=⟨_,rfl⟩
 obtain⟨K,hKk⟩:∃ K:Int,K=(k:Int):=⟨_,rfl⟩
 rw[<-hNn,<-hKk] at hbd HG
 obtain⟨hn62,hkl,hk9⟩:=hbd
 have hN0:0<=N:=by omega
 have hK0:0<=K:=by omega
 have HNN:=ZZ hNn
 have HKK:=ZZ hKk
 clear hNn hKk
 clear hg1 hn hk
 by_cases c2:K=0
 ·have HE:=ZZ (ZAR C1.out (by rw[<-HK.out];have:=HKK.out;omega))
  subst c2
  go_enter Tryz.func200,Tryz.ntmps200
  go_wp2_with fail
  refine HO.out.mono ?_
  rintro e w1 ⟨rfl,rfl⟩
  clear HO
  go_wp2_with fail
  refine HG.out.mono ?_
  rintro e w1 ⟨rfl,rfl⟩
  clear HG
  go_wp2
  go_ret3
  exact ZgO.refused HE.out
 have ez:(K == 0)=false:=beq_eq_false_iff_ne.2 c2
 have hk1:1<=K:=by omega
 have C2:=ZZ (show(Zab l).2≠0 by rw[<-HK.out];have:=HKK.out;omega)
 clear c2
 by_cases c3:1048576<N
 ·have HE:=ZZ (ZAS C1.out C2.out (by rw[<-HN.out];have:=HNN.out;omega))
  go_enter Tryz.func200,Tryz.ntmps200
  go_wp2_with fail
  refine HO.out.mono ?_
  rintro e w1 ⟨rfl,rfl⟩
  clear HO
  go_wp2_with fail
  refine HG.out.mono ?_
  rintro e w1 ⟨rfl,rfl⟩
  clear HG
  go_wp2
  go_ret3
  exact ZgO.refused HE.out
 have C3:=ZZ (show ¬ 1048576<(Zab l).1 by rw[<-HN.out];have:=HNN.out;omega)
 by_cases c4:(l.length:Int)<K+N+4
 ·have HE:=ZZ (ZAT C1.out C2.out C3.out (by rw[<-HN.out,<-HK.out];have:=HNN.out;have:=HKK.out;omega))
  go_enter Tryz.func200,Tryz.ntmps200
  go_wp2_with fail
  refine HO.out.mono ?_
  rintro e w1 ⟨rfl,rfl⟩
  clear HO
  go_wp2_with fail
  refine HG.out.mono ?_
  rintro e w1 ⟨rfl,rfl⟩
  clear HG
  go_wp2
  go_ret3
  exact ZgO.refused HE.out
 have C4:=ZZ (show ¬ l.length<(Zab l).2+4+(Zab l).1 by rw[<-HN.out,<-HK.out];have:=HNN.out;have:=HKK.out;omega)
 have HS:Hid (∀ v w,Rd w v (l.take (k+n))->Calls Tryz.prog 137 #[v] w fun e w'=>e=.returned (.int .u32 (Zay 0 (l.take (k+n)):Nat))∧Below w.heap.size w w'):=fun v w h=>ZnT v _ w h
 have HF:Hid (∀ v w,Rd w v ((l.drop (k+n)).take 4)->Calls Tryz.prog 162 #[v] w fun e w'=>e=.returned (.int .u64 (Lib.leNat ((l.drop (k+n)).take 4):Nat))∧w'=w):=by
  intro v w h
  have:=ZoV v _ w h
  rwa [List.take_of_length_le (by simp;omega)] at this
 have HE5:Hid (Lib.leNat ((l.drop (k+n)).take 4)≠Zay 0 (l.take (k+n))->ZbP l=([],0,4)):=fun h=>by
  rw[HN.out,HK.out] at h
  exact ZAU C1.out C2.out C3.out C4.out h
 have HE6:Hid (Lib.leNat ((l.drop (k+n)).take 4)=Zay 0 (l.take (k+n))->ZbP l=((l.drop k).take n,k+4+n,0)):=fun h=>by
  rw[HN.out,HK.out] at h ⊢
  exact ZAV C1.out C2.out C3.out C4.out h
 have hs:=Zsr (l.take (k+n))
 have hq:Lib.leNat ((l.drop (k+n)).take 4)<4294967296:=by
  have h1:=ZjR ((l.drop (k+n)).take 4)
  have e4:((l.drop (k+n)).take 4).length=4:=by have:=HNN.out;have:=HKK.out;simp;omega
  rw[e4] at h1
  exact h1
 generalize Zay 0 (l.take (k+n))=s at *
 generalize Lib.leNat ((l.drop (k+n)).take 4)=q at *
 obtain⟨S,hS⟩:∃ S:Int,S=(s:Int):=⟨_,rfl⟩
 obtain⟨T,hT⟩:∃ T:Int,T=(q:Int):=⟨_,rfl⟩
 rw[<-hS] at HS
 rw[<-hT] at HF
 have hS0:0<=S:=by omega
 have hS1:S<4294967296:=by omega
 have HSS:=ZZ hS
 have HTT:=ZZ hT
 obtain⟨v1,v2,v3,hc1,hc2,hc3,hr1,hr2,hr3⟩:=ZBy w _ l HR.out K N k n HKK.out HNN.out (by have:=HNN.out;have:=HKK.out;omega)
 have HV1:=ZZ hr1
 have HV2:=ZZ hr2
 have HV3:=ZZ hr3
 have HC1:=ZZ hc1
 have HC2:=ZZ hc2
 have HC3:=ZZ hc3
 clear hr1 hr2 hr3 hc1 hc2 hc3
 clear hS hT hs hq
 go_enter Tryz.func200,Tryz.ntmps200
 go_wp2_with fail
 refine HO.out.mono ?_
 rintro e w1 ⟨rfl,rfl⟩
 clear HO
 go_wp2_with fail
 refine HG.out.mono ?_
 rintro e w1 ⟨rfl,rfl⟩
 clear HG
 go_wp2
 refine wp_region_quiet_lit (by kernel_rfl) (by kernel_rfl) ?_
 repeat (go_big_quiet_step (fail))
 refine ZgP rfl _ _ _ _ rfl (fun _ h=>h) v1 HC1.out ?_
 simp only [Act.put,List.setIfInBounds_toArray,List.set_cons_succ,List.set_cons_zero]
 repeat (go_big_quiet_step (fail))
 refine ZgP rfl _ _ _ _ rfl (fun _ h=>h) v2 HC2.out ?_
 simp only [Act.put,List.setIfInBounds_toArray,List.set_cons_succ,List.set_cons_zero]
 repeat (go_big_quiet_step (fail))
 refine ZgP rfl _ _ _ _ rfl (fun _ h=>h) v3 HC3.out ?_
 simp only [Act.put,List.setIfInBounds_toArray,List.set_cons_succ,List.set_cons_zero]
 repeat (go_big_quiet_step (fail))
 refine wpQuiet_nil ?_
 rintro _ ⟨nq,rfl⟩
 have HBQ:=ZZ (ZaM (Below.refl w1.heap.size w1) nq)
 have HQ1:=ZZ (HV1.out.drewN nq)
 have HQ2:=ZZ (HV2.out.drewN nq)
 have HQ3:=ZZ (HV3.out.drewN nq)
 clear HV1 HV2 HV3 HC1 HC2 HC3
 go_wp2_with fail
 refine(HF.out _ _ HQ3.out).mono ?_
 rintro e w2 ⟨rfl,rfl⟩
 clear HF HQ3
 go_wp2_with fail
 refine(HS.out _ _ HQ1.out).mono ?_
 rintro e w2 ⟨rfl,hb2⟩
 have HB2:=ZZ (HBQ.out.trans hb2)
 have HQ4:=ZZ (HQ2.out.below hb2 zL)
 clear HS HQ1 HQ2 hb2 HBQ
 by_cases c5:T=S
 ·have hne:(T != S)=false:=by rw[bne_eq_false_iff_eq];exact c5
  have HE:=ZZ (HE6.out (by have:=HSS.out;have:=HTT.out;omega))
  clear c5 HE5 HE6
  have HLL:=ZZ (show((l.drop k).take n).length<=1048576 by have:=HNN.out;simp;omega)
  have HC:=ZZ (ZwJ _ _ w2 HQ4.out (by have:=HLL.out;omega))
  generalize (l.drop k).take n=x at *
  go_wp2_with fail
  refine HC.out.mono ?_
  rintro e w4 ⟨v4,rfl,ho4,hb4⟩
  have hs2:=HB2.out.size
  have HO4:=ZZ (ho4.mono hs2)
  have HB4:=ZZ (HB2.out.trans (hb4.mono hs2))
  clear ho4 hb4 HC
  go_wp2
  go_ret3
  refine⟨v4,?_,by rw[HE.out];exact HO4.out,HB4.out⟩
  rw[HE.out]
  exact Zyy (by show K+N+4=((k+4+n:Nat):Int);have:=HNN.out;have:=HKK.out;omega) rfl
 ·have hne:(T != S)=true:=by rw[bne_iff_ne];exact c5
  have HE:=ZZ (HE5.out (by have:=HSS.out;have:=HTT.out;omega))
  clear c5 HE5 HE6
  go_wp2
  go_ret3
  refine⟨.slice none 0 0,?_,?_,HB2.out⟩
  ·rw[HE.out];rfl
  ·rw[HE.out];exact Own.nil _ _
theorem ZpA (v:Value) (l:List UInt8) (w:World) (hr:Rd w v l) (hlim:l.length<=1000000):
 Calls Tryz.prog 160 #[v] w fun e w'=>∃ v',e=.returned (.tuple #[v',.int .i64 ((Zao l).2.1:Nat),.int .i64 ((Zao l).2.2:Nat)])∧ZkB w' w.heap.size v' (Zao l).1∧Below w.heap.size w w':=by
 have HR:=ZZ hr
 obtain⟨ao,cap,rfl,hlc,hcm,hn0,hao⟩:=hr
 clear hn0 hao hlc hcm
 have HD:=ZZ (fun v k w h=>Zus v (l.drop k) w h)
 go_enter Tryz.func160,Tryz.ntmps160
 go_wp2
 go_loopw[5,6] (fun vl at' wr=>∃ (A:Nat) (L:List (List UInt8)),at'=.int .i64 (A:Int)∧Hid (Zwp l A L)∧Hid (ZkB wr w.heap.size vl L)∧Hid (Below w.heap.size w wr)) (fun _ at' _=>l.length-(intOf at').toNat)
 case atStart=>exact⟨0,[],rfl,Zwp.start l,ZkB.nil _ _,Below.refl _ _⟩
 case round=>
  obtain⟨A,L,rfl,hu,ho,hb⟩:=hrel
  have hAl:=hu.out.2.2
  by_cases hlt:A<l.length
  ·have HC:Hid (∃ v',(Instr.sliceAt 53 (.slice ao l.length cap) (some (.int .i64 (A:Int))) none none).run Tryz.prog wr=.ok v' wr∧Rd wr v' (l.drop A)):=by
    have:=Zkp wr _ l (HR.out.below hb.out zL) .i64 (A:Int) (by omega) (by omega)
    rwa [Int.toNat_natCast] at this
   have hsw:=hb.out.size
   go_wp2_with(refine Zik _ rfl _ _ _ _ rfl _ HC.out ?_)
   intro v1 hr1
   have HV1:=ZZ hr1
   clear hr1 HC
   go_wp2_with fail
   refine(HD.out _ A _ HV1.out).mono ?_
   rintro e w2 ⟨v2,rfl,ho2,hb2⟩
   have HO2:=ZZ (ho2.mono hsw)
   have HL2:=ZZ (ho.out.below hb2 zL)
   have HB2:=ZZ (hb.out.trans (hb2.mono hsw))
   have hs2:=HB2.out.size
   clear ho2 hb2 HV1
   have H5:=ZZ (fun h=>ZeK (l:=l.drop A) h)
   have hle:=Zvz (l.drop A)
   rw[List.length_drop] at hle
   by_cases he:(ZbP (l.drop A)).2.2=0
   ·have HU:=ZZ (hu.out.step hlt he)
    have h5:=H5.out he
    have hLl:=hu.out.2.1
    rw[he]
    generalize (ZbP (l.drop A)).2.1=m at *
    generalize (ZbP (l.drop A)).1=x at *
    clear he H5
    obtain⟨a2,c2,rfl,_⟩:=HO2.out.rd
    go_wp2_with(at_builtin;refine Zhy _ rfl _ _ rfl w.heap.size _ L rfl HL2.out _ x rfl HO2.out (by omega) hs2 ?_)
    intro v3 w3 ho3 hb3
    have HO3:=ZZ ho3
    have HB3:=ZZ (HB2.out.trans hb3)
    clear ho3 hb3
    go_wp2
    go_roundw
    case rel=>exact⟨A+m,L++[x],by go_num,HU,HO3,HB3⟩
    case measure=>simp[intOf];omega
   ·have HE:=ZZ (hu.out.stop hlt he)
    clear H5
    generalize (ZbP (l.drop A)).2.2=c at *
    have hne:((c:Int) != 0)=true:=by rw[bne_iff_ne];omega
    clear he
    go_wp2
    go_ret3
    refine⟨_,?_,by rw[HE.out];exact HL2.out,HB2.out⟩
    rw[HE.out]
    rfl
  ·have HE:=ZZ (hu.out.whole hlt)
   go_wp2
   go_ret3
   refine⟨_,?_,by rw[HE.out];exact ho.out,hb.out⟩
   rw[HE.out]
   rfl
theorem ZAe (v:Value) (l:List UInt8) (w:World) (hr:Rd w v l) (hlim:l.length<=1000000):
 Calls Tryz.prog 115 #[v] w fun e w'=>∃ v',e=.returned (.tuple #[v',.int .i64 ((Zzt l).2:Nat)])∧RdL w' v' (Zzt l).1∧Below w.heap.size w w':=by
 have HW:=ZZ (ZpA v l w hr hlim)
 clear hr
 go_enter Tryz.func115,Tryz.ntmps115
 go_wp2_with fail
 refine HW.out.mono ?_
 rintro e w2 ⟨v2,rfl,ho2,hb2⟩
 have HO2:=ZZ ho2
 have HB2:=ZZ hb2
 clear ho2 hb2 HW
 by_cases he:(Zao l).2.2=0
 ·have HE:Hid (Zzt l=((Zao l).1,0)):=if_pos he
  rw[he]
  clear he
  generalize (Zao l).2.1=m at *
  go_wp2
  go_ret2
  refine⟨_,?_,by rw[HE.out];exact HO2.out.rd,HB2.out⟩
  rw[HE.out]
  rfl
 ·have HE:Hid (Zzt l=([],(Zao l).2.2)):=if_neg he
  generalize (Zao l).2.1=m at *
  generalize (Zao l).2.2=c at *
  have hne:((c:Int) != 0)=true:=by rw[bne_iff_ne];omega
  clear he
  go_wp2
  go_ret2
  refine⟨_,?_,by rw[HE.out];exact RdL.nil _,HB2.out⟩
  rw[HE.out]
  rfl
end Go.Proofs.YtfiffndhehkapaaGreatDoor
