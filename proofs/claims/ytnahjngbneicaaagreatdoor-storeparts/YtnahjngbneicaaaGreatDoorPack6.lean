import Derived.Test.YtnahjngbneicaaaGreatDoorPack5
import Derived.Test.YtnahjngbneicaaaGreatDoorPack4
import Derived.Test.YtnahjngbneicaaaGreatDoorPack1
import Derived.Test.YtnahjngbneicaaaGreatDoorPack3
import Derived.ChangeSlices
import Derived.Deep.Slices
import Derived.WideShapes
import Derived.Test.YtnahjngbneicaaaGreatDoorPack2
import Derived.Deep.DeepCutAuto
import Derived.Deep.RegionHeld
namespace Go.Proofs.YtnahjngbneicaaaGreatDoor
set_option maxHeartbeats 4000000
set_option maxRecDepth 100000
open Go.RowKit
theorem Zpy (v:Value) (l:List Int) (a b:Nat) (w:World) (hr:RdI w v l) (ha:w.cell? ⟨a,0,none⟩=some (.int .i64 (-1099511627776))) (hb:w.cell? ⟨b,0,none⟩=some (.int .i64 1099511627776)):
 Calls Tryz.prog 171 #[v,.func (.func 170) #[] #[.pointer (some ⟨a,0,none⟩),.pointer (some ⟨b,0,none⟩)]] w fun e w'=>e=.returned (.bool (decide (l.length<=64∧Zcj l)))∧w'=w:=by
 have HI:=Zac (fun n=>ZfB n _ _ a b w ha hb)
 obtain⟨ao,cap,rfl,-,-,-,-,hao⟩:=hr
 have HAO:=Zac hao
 clear hao ha hb
 obtain⟨R,hR⟩:∃ R,R=decide (l.length<=64∧Zcj l):=⟨_,rfl⟩
 rw[<-hR]
 have HR:=Zac hR
 clear hR
 by_cases h64:l.length<=64
 ·have hq:¬ (64<(l.length:Int)):=by omega
  go_enter Tryz.func171,Tryz.ntmps171
  go_wp2
  go_loop [12] (fun i=>∃ k:Nat,i=.int .i64 k∧k<=l.length∧Hid (∀ j,j<k->-1099511627776<=l.getD j 0∧l.getD j 0<=1099511627776)) (fun i=>l.length-(intOf i).toNat)
  case atStart=>exact⟨0,rfl,Nat.zero_le _,fun j hj=>by omega⟩
  case round=>
   obtain⟨k,rfl,hk,hall⟩:=hrel
   by_cases hlt:k<l.length
   ·rcases HAO.out with h0 | ⟨g,off,rfl,hc⟩
    ·rw[h0] at hlt;simp at hlt
    have hck:=hc k hlt
    clear hc
    obtain⟨y,hy⟩:∃ y,y=l.getD k 0:=⟨_,rfl⟩
    rw[<-hy] at hck
    have HY:=Zac hy
    clear hy
    by_cases hin:-1099511627776<=y∧y<=1099511627776
    ·have HD:=Zac (decide_eq_true hin)
     have HN:=Zac hin
     clear hin
     go_wp2_with(first | (go_at_call 170;refine(HI.out _).mono ?_;rintro e w2 ⟨rfl,rfl⟩;rw[HD.out]))
     go_round
     case rel=>
      refine⟨k+1,by go_num,by omega,fun j hj=>?_⟩
      by_cases e:j=k
      ·rw[e,<-HY.out];exact HN.out
      ·exact hall.out j (by omega)
     case measure=>simp[intOf];omega
    ·have HD:=Zac (decide_eq_false hin)
     have HN:=Zac hin
     clear hin
     go_wp2_with(first | (go_at_call 170;refine(HI.out _).mono ?_;rintro e w2 ⟨rfl,rfl⟩;rw[HD.out]))
     go_ret
     refine⟨ZbJ (HR.out.trans (decide_eq_false fun h=>HN.out ?_)).symm,rfl⟩
     rw[HY.out]
     exact h.2 k hlt
   ·go_wp2
    go_ret
    exact⟨ZbJ (HR.out.trans (decide_eq_true ⟨h64,fun j hj=>hall.out j (by omega)⟩)).symm,rfl⟩
 ·have hq:64<(l.length:Int):=by omega
  have HD:Hid (decide (l.length<=64∧Zcj l)=false):=decide_eq_false (fun h=>h64 h.1)
  go_enter Tryz.func171,Tryz.ntmps171
  go_wp2
  go_ret
  exact⟨ZbJ (HR.out.trans HD.out).symm,rfl⟩
def Zhw (l:List Int) (k:Nat):Int:=if k=0 then 0 else l.getD (k-2) 0+1
theorem ZnA {lo:Int} {l:List Int} {k:Nat} (hk:k % 2=0) (hall:∀ j,j<k->j % 2=0->ZiE lo l j):ZiE lo l k↔(Zhw l k<=l.getD k 0∧l.getD k 0<=255)∧lo<=l.getD (k+1) 0∧l.getD (k+1) 0<=1099511627776:=by
 unfold ZiE Zhw
 by_cases h0:k=0
 ·subst h0
  simp
  omega
 ·rw[if_neg h0]
  have hp:=(hall (k-2) (by omega) (by omega)).1
  constructor
  ·rintro⟨h1,h2,h3,h4,h5⟩
   exact⟨⟨by have:=h3 (by omega);omega,h2⟩,h4,h5⟩
  ·rintro⟨⟨h1,h2⟩,h4,h5⟩
   exact⟨by omega,h2,fun _=>by omega,h4,h5⟩
theorem ZnB (v:Value) (l:List Int) (lo:Int) (a b:Nat) (w:World) (hr:RdI w v l) (ha:w.cell? ⟨a,0,none⟩=some (.int .i64 lo)) (hb:w.cell? ⟨b,0,none⟩=some (.int .i64 1099511627776)):
 Calls Tryz.prog 172 #[v,.func (.func 170) #[] #[.pointer (some ⟨a,0,none⟩),.pointer (some ⟨b,0,none⟩)]] w fun e w'=>e=.returned (.bool (decide (ZcC lo l)))∧Below w.heap.size w w':=by
 have HI:Hid (∀ n W,Below w.heap.size w W->Calls Tryz.prog 170 #[.int .i64 n,.pointer (some ⟨a,0,none⟩),.pointer (some ⟨b,0,none⟩)] W fun e w'=>e=.returned (.bool (decide (lo<=n∧n<=1099511627776)))∧w'=W):=fun n W h=>
  ZfB n _ _ a b W ((h.cell (World.block_lt_of_cell? w ⟨a,0,none⟩ ha)).trans ha) ((h.cell (World.block_lt_of_cell? w ⟨b,0,none⟩ hb)).trans hb)
 have HS:=Zac (fun n l2 h2 a2 b2 W p1 p2=>ZfB n l2 h2 a2 b2 W p1 p2)
 have HW:=Zac (fun p q W=>Zcg p q W)
 obtain⟨ao,cap,rfl,-,-,-,-,hao⟩:=hr
 have HAO:=Zac hao
 clear hao ha hb
 obtain⟨R,hR⟩:∃ R,R=decide (ZcC lo l):=⟨_,rfl⟩
 rw[<-hR]
 have HR:=Zac hR
 clear hR
 by_cases he:l.length % 2=0
 ·by_cases h128:l.length<=128
  ·have hq1:(((l.length:Int).tmod 2) != 0)=false:=by rw[bne_eq_false_iff_eq,Int.tmod_eq_emod_of_nonneg (by omega)];omega
   have hq:¬ (128<(l.length:Int)):=by omega
   go_enter Tryz.func172,Tryz.ntmps172
   go_wp2
   go_loopw[5,6] (fun y i wr=>∃ k:Nat,y=.int .i64 (Zhw l k)∧i=.int .i64 k∧k<=l.length∧k % 2=0∧Hid (∀ j,j<k->j % 2=0->ZiE lo l j)∧Hid (Below w.heap.size w wr)) (fun _ i _=>l.length-(intOf i).toNat)
   case atStart=>exact⟨0,rfl,rfl,Nat.zero_le _,rfl,fun j hj=>by omega,Below.refl _ _⟩
   case round=>
    obtain⟨k,rfl,rfl,hk,hk2,hall,hbel⟩:=hrel
    by_cases hlt:k<l.length
    ·rcases HAO.out with h0 | ⟨g,off,rfl,hc⟩
     ·rw[h0] at hlt;simp at hlt
     have hlt1:k+1<l.length:=by omega
     have HC0:Hid (∀ W,Below w.heap.size w W->W.cell? ⟨g,off+k,none⟩=some (.int .i64 (l.getD k 0))):=fun W h=>(h.cell (World.block_lt_of_cell? w ⟨g,off+k,none⟩ (hc k hlt))).trans (hc k hlt)
     have HC1:Hid (∀ W,Below w.heap.size w W->W.cell? ⟨g,off+(k+1),none⟩=some (.int .i64 (l.getD (k+1) 0))):=fun W h=>(h.cell (World.block_lt_of_cell? w ⟨g,off+(k+1),none⟩ (hc (k+1) hlt1))).trans (hc (k+1) hlt1)
     clear hc
     have HP:=Zac (ZnA (lo:=lo) hk2 hall.out)
     have HLS:Hid (Zhw l (k+2)=l.getD k 0+1):=by
      unfold Zhw
      rw[if_neg (by omega)]
      exact rfl
     generalize Zhw l k=ls at *
     obtain⟨y,hy⟩:∃ y,y=l.getD k 0:=⟨_,rfl⟩
     obtain⟨z,hz⟩:∃ z,z=l.getD (k+1) 0:=⟨_,rfl⟩
     rw[<-hy] at HC0 HP HLS
     rw[<-hz] at HC1 HP
     have HEY:=Zac hy
     clear hy hz
     by_cases hy:ls<=y∧y<=255
     ·have HD1:=Zac (decide_eq_true hy)
      have HY:=Zac hy
      by_cases hz:lo<=z∧z<=1099511627776
      ·have HD2:=Zac (decide_eq_true hz)
       have HZ:=Zac hz
       have hy255:=hy.2
       have hy0:0<=y:=by rw[HEY.out];exact(HP.out.2 ⟨HY.out,HZ.out⟩).1
       clear hy hz
       go_wp2_with fail
       refine(HW.out _ _ _).mono ?_
       rintro e W1 ⟨a2,b2,rfl,hc1,hc2,hb1⟩
       have HB1:=Zac (hbel.out.trans (hb1.mono hbel.out.size))
       have hg0:=HC0.out _ HB1.out
       have hg1:=HC1.out _ HB1.out
       clear hb1
       go_wp2_with fail
       refine(HS.out _ _ _ _ _ _ hc1 hc2).mono ?_
       rintro e W2 ⟨rfl,rfl⟩
       rw[HD1.out]
       go_wp2_with fail
       refine(HI.out _ _ HB1.out).mono ?_
       rintro e W3 ⟨rfl,rfl⟩
       rw[HD2.out]
       go_wp2
       go_roundw
       case rel=>
        refine⟨k+2,by rw[HLS.out],by go_num,by omega,by omega,fun j hj hj2=>?_,HB1⟩
        by_cases e:j=k
        ·rw[e];exact HP.out.2 ⟨HY.out,HZ.out⟩
        ·exact hall.out j (by omega) hj2
       case measure=>simp[intOf];omega
      ·have HD2:=Zac (decide_eq_false hz)
       have HZ:=Zac hz
       clear hy hz
       go_wp2_with fail
       refine(HW.out _ _ _).mono ?_
       rintro e W1 ⟨a2,b2,rfl,hc1,hc2,hb1⟩
       have HB1:=Zac (hbel.out.trans (hb1.mono hbel.out.size))
       have hg0:=HC0.out _ HB1.out
       have hg1:=HC1.out _ HB1.out
       clear hb1
       go_wp2_with fail
       refine(HS.out _ _ _ _ _ _ hc1 hc2).mono ?_
       rintro e W2 ⟨rfl,rfl⟩
       rw[HD1.out]
       go_wp2_with fail
       refine(HI.out _ _ HB1.out).mono ?_
       rintro e W3 ⟨rfl,rfl⟩
       rw[HD2.out]
       go_wp2
       go_ret
       exact⟨ZbJ (HR.out.trans (decide_eq_false fun h=>HZ.out (HP.out.1 (h.2.2 k hlt hk2)).2)).symm,HB1.out⟩
     ·have HD1:=Zac (decide_eq_false hy)
      have HY:=Zac hy
      clear hy
      go_wp2_with fail
      refine(HW.out _ _ _).mono ?_
      rintro e W1 ⟨a2,b2,rfl,hc1,hc2,hb1⟩
      have HB1:=Zac (hbel.out.trans (hb1.mono hbel.out.size))
      have hg0:=HC0.out _ HB1.out
      have hg1:=HC1.out _ HB1.out
      clear hb1
      go_wp2_with fail
      refine(HS.out _ _ _ _ _ _ hc1 hc2).mono ?_
      rintro e W2 ⟨rfl,rfl⟩
      rw[HD1.out]
      go_wp2
      go_ret
      exact⟨ZbJ (HR.out.trans (decide_eq_false fun h=>HY.out (HP.out.1 (h.2.2 k hlt hk2)).1)).symm,HB1.out⟩
    ·go_wp2
     go_ret
     exact⟨ZbJ (HR.out.trans (decide_eq_true ⟨he,h128,fun j hj hj2=>hall.out j (by omega) hj2⟩)).symm,hbel.out⟩
  ·have hq1:(((l.length:Int).tmod 2) != 0)=false:=by rw[bne_eq_false_iff_eq,Int.tmod_eq_emod_of_nonneg (by omega)];omega
   have hq:128<(l.length:Int):=by omega
   have HD:Hid (decide (ZcC lo l)=false):=decide_eq_false (fun h=>h128 h.2.1)
   go_enter Tryz.func172,Tryz.ntmps172
   go_wp2
   go_ret
   exact⟨ZbJ (HR.out.trans HD.out).symm,Below.refl _ _⟩
 ·have hq1:(((l.length:Int).tmod 2) != 0)=true:=by rw[bne_iff_ne,Int.tmod_eq_emod_of_nonneg (by omega)];omega
  have HD:Hid (decide (ZcC lo l)=false):=decide_eq_false (fun h=>he h.1)
  go_enter Tryz.func172,Tryz.ntmps172
  go_wp2
  go_ret
  exact⟨ZbJ (HR.out.trans HD.out).symm,Below.refl _ _⟩
theorem Zwd {kind:Int} (hk:kind=0∨kind=1) (l:List Int):(0<=kind∧kind<6∧Zbq kind l)↔l.length=1∧-1099511627776<=l.getD 0 0∧l.getD 0 0<=1099511627776:=by
 rw[ZaM (by omega) (by omega)]
 constructor
 ·rintro⟨_,_,_,h1,h2⟩
  exact⟨h1 (by omega),h2 0 (by have:=h1 (by omega);omega)⟩
 ·rintro⟨h1,h2⟩
  refine⟨by omega,by omega,by omega,fun _=>h1,fun j hj=>?_⟩
  have e:j=0:=by omega
  rw[e]
  exact h2
theorem Zun {kind:Int} (hk:kind=2∨kind=3) (l:List Int):(0<=kind∧kind<6∧Zbq kind l)↔l.length<=64∧Zcj l:=by
 rw[ZaM (by omega) (by omega)]
 constructor
 ·rintro⟨_,_,h1,_,h2⟩
  exact⟨h1,h2⟩
 ·rintro⟨h1,h2⟩
  exact⟨by omega,by omega,h1,fun h=>by omega,h2⟩
theorem ZrP (l:List Int):(0<=(4:Int)∧(4:Int)<6∧Zbq 4 l)↔ZcC (-1099511627776) l:=by
 unfold Zbq
 rw[if_pos rfl]
 exact⟨fun h=>h.2.2,fun h=>⟨by decide,by decide,h⟩⟩
theorem Zpz (l:List Int):(0<=(5:Int)∧(5:Int)<6∧Zbq 5 l)↔ZcC 0 l:=by
 unfold Zbq
 rw[if_neg (by decide),if_pos rfl]
 exact⟨fun h=>h.2.2,fun h=>⟨by decide,by decide,h⟩⟩
theorem ZkA (kind:Int) (v:Value) (l:List Int) (w:World) (hr:RdI w v l):
 Calls Tryz.prog 122 #[.int .i64 kind,v] w fun e w'=>e=.returned (.bool (decide (0<=kind∧kind<6∧Zbq kind l)))∧Below w.heap.size w w':=by
 have HW:=Zac (fun p q W=>Zcg p q W)
 have HRD:Hid (∀ W,Below w.heap.size w W->RdI W v l):=fun W h=>hr.below h zL
 obtain⟨R,hR⟩:∃ R,R=decide (0<=kind∧kind<6∧Zbq kind l):=⟨_,rfl⟩
 rw[<-hR]
 have HR:=Zac hR
 clear hR
 by_cases h01:kind=0∨kind=1
 ·have HN:=Zac (Zwd h01 l)
  have hx:((kind == 0)=true)∨((kind == 0)=false∧(kind == 1)=true):=by
   rcases h01 with rfl | rfl
   ·exact .inl rfl
   ·exact .inr ⟨rfl,rfl⟩
  have HS:=Zac (fun n l2 h2 a2 b2 W p1 p2=>ZfB n l2 h2 a2 b2 W p1 p2)
  obtain⟨ao,cap,rfl,-,-,-,-,hao⟩:=hr
  have HAO:=Zac hao
  clear hao h01 HRD
  by_cases hl:l.length=1
  ·rcases HAO.out with h0 | ⟨g,off,rfl,hc⟩
   ·rw[h0] at hl;simp at hl
   have HC0:Hid (∀ W,Below w.heap.size w W->W.cell? ⟨g,off,none⟩=some (.int .i64 (l.getD 0 0))):=fun W h=>(h.cell (World.block_lt_of_cell? w ⟨g,off,none⟩ (hc 0 (by omega)))).trans (hc 0 (by omega))
   clear hc HAO
   have HL:=Zac hl
   rw[hl]
   clear hl
   obtain⟨y,hy⟩:∃ y,y=l.getD 0 0:=⟨_,rfl⟩
   rw[<-hy] at HC0 HN
   clear hy
   rcases hx with hx | ⟨hx,hx'⟩
   all_goals
    go_enter Tryz.func122,Tryz.ntmps122
    go_wp2_with fail
    refine(HW.out _ _ _).mono ?_
    rintro e W1 ⟨a2,b2,rfl,hc1,hc2,hb1⟩
    have HB1:=Zac hb1
    have hg0:=HC0.out _ hb1
    clear hb1
    go_wp2_with fail
    refine(HS.out _ _ _ _ _ _ hc1 hc2).mono ?_
    rintro e W2 ⟨rfl,rfl⟩
    go_wp2
    go_ret
    refine⟨ZbJ ?_,HB1.out⟩
    rw[HR.out,<-Bool.decide_and]
    exact decide_eq_decide.2 ⟨fun h=>HN.out.2 ⟨HL.out,h⟩,fun h=>(HN.out.1 h).2⟩
  ·have hq:((l.length:Int) == 1)=false:=beq_eq_false_iff_ne.2 (by omega)
   have HD:Hid (decide (0<=kind∧kind<6∧Zbq kind l)=false):=decide_eq_false (fun h=>hl (HN.out.1 h).1)
   clear hl
   rcases hx with hx | ⟨hx,hx'⟩
   all_goals
    go_enter Tryz.func122,Tryz.ntmps122
    go_wp2_with fail
    refine(HW.out _ _ _).mono ?_
    rintro e W1 ⟨a2,b2,rfl,hc1,hc2,hb1⟩
    have HB1:=Zac hb1
    clear hb1
    go_wp2
    go_ret
    exact⟨ZbJ (HR.out.trans HD.out).symm,HB1.out⟩
 ·have e0:(kind == 0)=false:=beq_eq_false_iff_ne.2 (by omega)
  have e1:(kind == 1)=false:=beq_eq_false_iff_ne.2 (by omega)
  by_cases h23:kind=2∨kind=3
  ·have HN:=Zac (Zun h23 l)
   have hx:((kind == 2)=true)∨((kind == 2)=false∧(kind == 3)=true):=by
    rcases h23 with rfl | rfl
    ·exact .inl rfl
    ·exact .inr ⟨rfl,rfl⟩
   have HS:=Zac (fun a2 b2 W p1 p2 p3=>Zpy v l a2 b2 W p1 p2 p3)
   clear h01 h23 hr
   rcases hx with hx | ⟨hx,hx'⟩
   all_goals
    go_enter Tryz.func122,Tryz.ntmps122
    go_wp2_with fail
    refine(HW.out _ _ _).mono ?_
    rintro e W1 ⟨a2,b2,rfl,hc1,hc2,hb1⟩
    have HB1:=Zac hb1
    clear hb1
    go_wp2_with fail
    refine(HS.out _ _ _ (HRD.out _ HB1.out) hc1 hc2).mono ?_
    rintro e W2 ⟨rfl,rfl⟩
    go_wp2
    go_ret
    refine⟨ZbJ ?_,HB1.out⟩
    rw[HR.out,<-Bool.decide_and]
    exact decide_eq_decide.2 HN.out.symm
  ·have e2:(kind == 2)=false:=beq_eq_false_iff_ne.2 (by omega)
   have e3:(kind == 3)=false:=beq_eq_false_iff_ne.2 (by omega)
   have HS:=Zac (fun lo a2 b2 W p1 p2 p3=>ZnB v l lo a2 b2 W p1 p2 p3)
   clear h01 h23 hr
   by_cases h4:kind=4
   ·have e4:(kind == 4)=true:=beq_iff_eq.2 h4
    have HN:Hid (ZcC (-1099511627776) l↔(0<=kind∧kind<6∧Zbq kind l)):=by rw[h4];exact(ZrP l).symm
    clear h4
    go_enter Tryz.func122,Tryz.ntmps122
    go_wp2_with fail
    refine(HW.out _ _ _).mono ?_
    rintro e W1 ⟨a2,b2,rfl,hc1,hc2,hb1⟩
    have HB1:=Zac hb1
    clear hb1
    go_wp2_with fail
    refine(HS.out _ _ _ _ (HRD.out _ HB1.out) hc1 hc2).mono ?_
    rintro e W2 ⟨rfl,hb2⟩
    have HB2:=Zac (HB1.out.trans (hb2.mono HB1.out.size))
    clear hb2
    go_wp2
    go_ret
    refine⟨ZbJ ?_,HB2.out⟩
    rw[HR.out]
    exact decide_eq_decide.2 HN.out
   ·have e4:(kind == 4)=false:=beq_eq_false_iff_ne.2 h4
    by_cases h5:kind=5
    ·have e5:(kind == 5)=true:=beq_iff_eq.2 h5
     have HN:Hid (ZcC 0 l↔(0<=kind∧kind<6∧Zbq kind l)):=by rw[h5];exact(Zpz l).symm
     clear h4 h5
     go_enter Tryz.func122,Tryz.ntmps122
     go_wp2_with fail
     refine(HW.out _ _ _).mono ?_
     rintro e W1 ⟨a1,b1,rfl,_,_,hb1⟩
     have HB1:=Zac hb1
     clear hb1
     go_wp2_with fail
     refine(HW.out _ _ _).mono ?_
     rintro e W2 ⟨a2,b2,rfl,hc1,hc2,hb2⟩
     have HB2:=Zac (HB1.out.trans (hb2.mono HB1.out.size))
     clear hb2
     go_wp2_with fail
     refine(HS.out _ _ _ _ (HRD.out _ HB2.out) hc1 hc2).mono ?_
     rintro e W3 ⟨rfl,hb3⟩
     have HB3:=Zac (HB2.out.trans (hb3.mono HB2.out.size))
     clear hb3
     go_wp2
     go_ret
     refine⟨ZbJ ?_,HB3.out⟩
     rw[HR.out]
     exact decide_eq_decide.2 HN.out
    ·have e5:(kind == 5)=false:=beq_eq_false_iff_ne.2 h5
     have HD:Hid (decide (0<=kind∧kind<6∧Zbq kind l)=false):=decide_eq_false (fun h=>by
      have n0:kind≠0:=beq_eq_false_iff_ne.1 e0
      have n1:kind≠1:=beq_eq_false_iff_ne.1 e1
      have n2:kind≠2:=beq_eq_false_iff_ne.1 e2
      have n3:kind≠3:=beq_eq_false_iff_ne.1 e3
      omega)
     clear h4 h5
     go_enter Tryz.func122,Tryz.ntmps122
     go_wp2_with fail
     refine(HW.out _ _ _).mono ?_
     rintro e W1 ⟨a1,b1,rfl,_,_,hb1⟩
     have HB1:=Zac hb1
     clear hb1
     go_wp2
     go_ret
     exact⟨ZbJ (HR.out.trans HD.out).symm,HB1.out⟩
theorem Zuo (kind:Int) (l:List Int) (shut:Bool) (g:Int):Zcw ⟨kind,l,shut,g⟩↔(shut=false->g=0)∧(0<=g∧g<=2)∧(0<=kind∧kind<6∧Zbq kind l):=
 ⟨fun h=>⟨h.2.2.1,⟨h.1,h.2.1⟩,h.2.2.2.1,h.2.2.2.2.1,h.2.2.2.2.2⟩,fun h=>⟨h.2.1.1,h.2.1.2,h.1,h.2.2.1,h.2.2.2.1,h.2.2.2.2⟩⟩
theorem ZpA (v:Value) (s:St) (w:World) (hs:StV w v s):
 Calls Tryz.prog 82 #[v] w fun e w'=>e=.returned (.bool (decide (Zcw s)))∧Below w.heap.size w w':=by
 obtain⟨vl,rfl,hr,-,-⟩:=hs
 obtain⟨kind,l,shut,g⟩:=s
 simp only at hr ⊢
 have HW:=Zac (fun p q W=>Zcg p q W)
 have HS:=Zac (fun n l2 h2 a2 b2 W p1 p2=>ZfB n l2 h2 a2 b2 W p1 p2)
 have HMN:Hid (∀ W,Below w.heap.size w W->Calls Tryz.prog 122 #[.int .i64 kind,vl] W fun e w'=>e=.returned (.bool (decide (0<=kind∧kind<6∧Zbq kind l)))∧Below W.heap.size W w'):=fun W h=>ZkA kind vl l W (hr.below h zL)
 have HM:=Zac (Zuo kind l shut g)
 obtain⟨R,hR⟩:∃ R,R=decide (Zcw ⟨kind,l,shut,g⟩):=⟨_,rfl⟩
 rw[<-hR]
 have HR:=Zac hR
 have HBA:Hid (∀ x,Below w.heap.size w (w.alloc x)):=fun x=>(Below.refl _ _).alloc zL x
 clear hR hr
 by_cases hbad:shut=false∧g≠0
 ·obtain⟨rfl,hg⟩:=hbad
  have hq:(g != 0)=true:=bne_iff_ne.2 hg
  have HD:Hid (decide (Zcw ⟨kind,l,false,g⟩)=false):=decide_eq_false (fun h=>hg ((HM.out.1 h).1 rfl))
  clear hg
  go_enter Tryz.func82,Tryz.ntmps82
  go_wp2
  go_ret
  exact⟨ZbJ (HR.out.trans HD.out).symm,HBA.out _⟩
 ·have hx:((g != 0)=false)∨((g != 0)=true∧shut=true):=by
   by_cases h0:g=0
   ·exact .inl (bne_eq_false_iff_eq.2 h0)
   ·cases shut
    ·exact absurd ⟨rfl,h0⟩ hbad
    ·exact .inr ⟨bne_iff_ne.2 h0,rfl⟩
  have HB:Hid (shut=false->g=0):=fun h=>by
   by_cases h0:g=0
   ·exact h0
   ·exact absurd ⟨h,h0⟩ hbad
  clear hbad
  by_cases hin:0<=g∧g<=2
  ·have HN:=Zac (decide_eq_true hin)
   have HI:=Zac hin
   clear hin
   have HF:Hid (decide (0<=kind∧kind<6∧Zbq kind l)=R):=by
    rw[HR.out]
    exact decide_eq_decide.2 ⟨fun h=>HM.out.2 ⟨HB.out,HI.out,h⟩,fun h=>(HM.out.1 h).2.2⟩
   rcases hx with hx | ⟨hx,rfl⟩
   all_goals
    go_enter Tryz.func82,Tryz.ntmps82
    go_wp2_with fail
    refine(HW.out _ _ _).mono ?_
    rintro e W1 ⟨a1,b1,rfl,hc1,hc2,hb1⟩
    have hbx:=(hb1.block w.heap.size (by simp)).trans (heap_alloc_new w _)
    have q0:=cell_of_row W1 w.heap.size 0 _ _ _ hbx
    have q1:=cell_of_row W1 w.heap.size 1 _ _ _ hbx
    have q3:=cell_of_row W1 w.heap.size 3 _ _ _ hbx
    have HB1:=Zac ((HBA.out _).trans (hb1.mono (HBA.out _).size))
    clear hb1 hbx
    go_wp2_with fail
    refine(HS.out _ _ _ _ _ _ hc1 hc2).mono ?_
    rintro e W2 ⟨rfl,rfl⟩
    rw[HN.out]
    go_wp2_with fail
    refine(HMN.out _ HB1.out).mono ?_
    rintro e W3 ⟨rfl,hb3⟩
    rw[HF.out]
    have HB3:=Zac (HB1.out.trans (hb3.mono HB1.out.size))
    clear hb3
    go_wp2
    go_ret
    exact⟨rfl,HB3.out⟩
  ·have HN:=Zac (decide_eq_false hin)
   have HF:Hid (R=false):=HR.out.trans (decide_eq_false fun h=>hin (HM.out.1 h).2.1)
   clear hin
   rcases hx with hx | ⟨hx,rfl⟩
   all_goals
    go_enter Tryz.func82,Tryz.ntmps82
    go_wp2_with fail
    refine(HW.out _ _ _).mono ?_
    rintro e W1 ⟨a1,b1,rfl,hc1,hc2,hb1⟩
    have hbx:=(hb1.block w.heap.size (by simp)).trans (heap_alloc_new w _)
    have q3:=cell_of_row W1 w.heap.size 3 _ _ _ hbx
    have HB1:=Zac ((HBA.out _).trans (hb1.mono (HBA.out _).size))
    clear hb1 hbx
    go_wp2_with fail
    refine(HS.out _ _ _ _ _ _ hc1 hc2).mono ?_
    rintro e W2 ⟨rfl,rfl⟩
    rw[HN.out]
    go_wp2
    go_ret
    exact⟨ZbJ HF.out.symm,HB1.out⟩
theorem Zmh (o:Opn) (w:World):
 Calls Tryz.prog 80 #[opV o] w fun e w'=>e=.returned (.bool (decide (ZcS o)))∧Below w.heap.size w w':=by
 obtain⟨code,a,b⟩:=o
 have HW:=Zac (fun p q W=>Zcg p q W)
 have HS:=Zac (fun n l2 h2 a2 b2 W p1 p2=>ZfB n l2 h2 a2 b2 W p1 p2)
 have HM:Hid (ZcS ⟨code,a,b⟩↔(0<=code∧code<=10)∧(-1099511627776<=a∧a<=1099511627776)∧(-1099511627776<=b∧b<=1099511627776)):=
  ⟨fun h=>⟨⟨h.1,h.2.1⟩,⟨h.2.2.1,h.2.2.2.1⟩,h.2.2.2.2⟩,fun h=>⟨h.1.1,h.1.2,h.2.1.1,h.2.1.2,h.2.2⟩⟩
 obtain⟨R,hR⟩:∃ R,R=decide (ZcS ⟨code,a,b⟩):=⟨_,rfl⟩
 rw[<-hR]
 have HR:=Zac hR
 have HBA:Hid (∀ x,Below w.heap.size w (w.alloc x)):=fun x=>(Below.refl _ _).alloc zL x
 clear hR
 have go:∀ t1 t2 t3,Hid (decide (0<=code∧code<=10)=t1)->Hid (decide (-1099511627776<=a∧a<=1099511627776)=t2)->Hid (decide (-1099511627776<=b∧b<=1099511627776)=t3)->Hid ((t1 && t2 && t3)=R)->
  Calls Tryz.prog 80 #[.agg #[.int .i64 code,.int .i64 a,.int .i64 b]] w fun e w'=>e=.returned (.bool R)∧Below w.heap.size w w':=by
  intro t1 t2 t3 H1 H2 H3 HF
  go_enter Tryz.func80,Tryz.ntmps80
  go_wp2_with fail
  refine(HW.out _ _ _).mono ?_
  rintro e W1 ⟨a1,b1,rfl,hc1,hc2,hb1⟩
  have HB1:=Zac ((HBA.out _).trans (hb1.mono (HBA.out _).size))
  have HX1:=Zac ((hb1.block w.heap.size (by simp)).trans (heap_alloc_new w _))
  have HC1:=Zac hc1
  have HC2:=Zac hc2
  clear hb1 hc1 hc2
  go_wp2_with fail
  refine(HW.out _ _ _).mono ?_
  rintro e W2 ⟨a2,b2,rfl,hd1,hd2,hb2⟩
  have hx:=(hb2.block w.heap.size (Array.getElem?_eq_some_iff.1 HX1.out).1).trans HX1.out
  have q0:=cell_of_row W2 w.heap.size 0 _ _ _ hx
  have q1:=cell_of_row W2 w.heap.size 1 _ _ _ hx
  have q2:=cell_of_row W2 w.heap.size 2 _ _ _ hx
  have hc1:=(hb2.cell (World.block_lt_of_cell? W1 ⟨a1,0,none⟩ HC1.out)).trans HC1.out
  have hc2:=(hb2.cell (World.block_lt_of_cell? W1 ⟨b1,0,none⟩ HC2.out)).trans HC2.out
  have HB2:=Zac (HB1.out.trans (hb2.mono HB1.out.size))
  have HC1':=Zac hc1
  have HC2':=Zac hc2
  have HD1':=Zac hd1
  have HD2':=Zac hd2
  clear hb2 hx HX1 HC1 HC2 hc1 hc2 hd1 hd2
  go_wp2_with fail
  refine(HS.out _ _ _ _ _ _ HC1'.out HC2'.out).mono ?_
  rintro e W3 ⟨rfl,rfl⟩
  rw[H1.out]
  cases t1
  ·go_wp2
   go_ret
   exact⟨ZbJ (by rw[<-HF.out];rfl),HB2.out⟩
  ·go_wp2_with fail
   refine(HS.out _ _ _ _ _ _ HD1'.out HD2'.out).mono ?_
   rintro e W3 ⟨rfl,rfl⟩
   rw[H2.out]
   cases t2
   ·go_wp2
    go_ret
    exact⟨ZbJ (by rw[<-HF.out];rfl),HB2.out⟩
   ·go_wp2_with fail
    refine(HS.out _ _ _ _ _ _ HD1'.out HD2'.out).mono ?_
    rintro e W3 ⟨rfl,rfl⟩
    rw[H3.out]
    go_wp2
    go_ret
    exact⟨ZbJ (by rw[<-HF.out];rfl),HB2.out⟩
 refine go _ _ _ rfl rfl rfl (Zac ?_)
 rw[HR.out,<-Bool.decide_and,<-Bool.decide_and]
 exact decide_eq_decide.2 ⟨fun h=>HM.out.2 ⟨h.1.1,h.1.2,h.2⟩,fun h=>⟨⟨(HM.out.1 h).1,(HM.out.1 h).2.1⟩,(HM.out.1 h).2.2⟩⟩
theorem Zwe (v:Value) (s:St) (w:World) (hs:StV w v s) (hlim:s.L.length<=1000000):
 Calls Tryz.prog 81 #[v] w fun e w'=>∃ vl',e=.returned (.agg #[.int .i64 s.kind,vl',.bool s.shut,.int .i64 s.eng])∧Zax w' w.heap.size vl' s.L∧Below w.heap.size w w':=by
 obtain⟨vl,rfl,hr,-,-⟩:=hs
 obtain⟨kind,l,shut,g⟩:=s
 simp only at hr hlim ⊢
 have HC:Hid (∀ W,Below w.heap.size w W->Calls Tryz.prog 39 #[vl] W fun e w'=>∃ v',e=.returned v'∧Zax w' W.heap.size v' l∧Below W.heap.size W w'):=fun W h=>Zhq vl l W (hr.below h zL) hlim
 have HBA:Hid (∀ x y,Below w.heap.size w ((w.alloc x).alloc y)):=fun x y=>((Below.refl _ _).alloc zL x).alloc (by simp) y
 clear hr hlim
 go_enter Tryz.func81,Tryz.ntmps81
 go_wp2_with fail
 refine(HC.out _ (HBA.out _ _)).mono ?_
 rintro e W1 ⟨v1,rfl,ho,hb1⟩
 have hbx:ZoL W1 w.heap.size _ _:=(ZoL.made w _ _).below hb1 (by simp)
 have q0:=(hbx.s 0).1
 have q1:=(hbx.s 1).1
 have q2:=(hbx.s 2).1
 have q3:=(hbx.s 3).1
 have f1:=(hbx.s 1).2
 have r0:=(hbx.r 0).1
 have r1:=(hbx.r 1).1
 have r2:=(hbx.r 2).1
 have r3:=(hbx.r 3).1
 have s0:=(hbx.r 0).2
 have s1:=(hbx.r 1).2
 have s2:=(hbx.r 2).2
 have s3:=(hbx.r 3).2
 have HB1:=Zac ((HBA.out _ _).trans (hb1.mono (HBA.out _ _).size))
 have ho2:Zax W1 (w.heap.size+1+1) v1 l:=by
  have e:∀ x y,((w.alloc x).alloc y).heap.size=w.heap.size+1+1:=fun x y=>by simp
  rwa [e] at ho
 have HO:=Zac ho2
 obtain⟨ao,cap,rfl⟩:=ho2.shape
 clear hb1 hbx ho ho2
 go_wp2
 refine bodyPost_ret (v:=.agg #[.int .i64 kind,.slice ao l.length cap,.bool shut,.int .i64 g]) (by simp[results,Tryz.results81,go_sem,r0,r1,r2,r3]) rfl ?_
 exact⟨_,rfl,(HO.out.five w.heap.size (w.heap.size+1) (by omega) (by omega) _ _ _ _ _).mono (by omega),Ztr HB1.out w.heap.size (w.heap.size+1) zL (by omega) _ _ _ _ _⟩
open Go.RowKit Go.ChangeShapes
theorem Zmi:Tryz.prog.cellsOf 52=3:=by kernel_rfl
section
variable {H:Type} {enc:TypeId × Value->H} {w:World} {base fuel:Nat} {held:Bool}
theorem ZgD {cs:List Value} {x:DataW H × List MemPlace} (h:DataW.trod enc Tryz.prog w base (fun _=>true) held fuel 52 cs=some x):
 ∃ (o:Opn),cs=[.int .i64 o.code,.int .i64 o.a,.int .i64 o.b]∧Zxo o:=by
 obtain⟨xs,n,_,_,hl,hxl,hf⟩:=DataW.trod_struct Tryz.underlying52 h
 rw[Zmi] at hl
 match xs,hxl,cs,hl with
 | [y0,y1,y2],_,[c0,c1,c2],_=>
  have g0:=hf 0 _ rfl
  have g1:=hf 1 _ rfl
  have g2:=hf 2 _ rfl
  simp[Zjj] at g0 g1 g2
  obtain⟨k,hk,_,wk⟩:=DataW.trod_int Tryz.underlying3 g0
  obtain⟨a,ha,_,wa⟩:=DataW.trod_int Tryz.underlying3 g1
  obtain⟨b,hb,_,wb⟩:=DataW.trod_int Tryz.underlying3 g2
  simp only [List.cons.injEq,and_true] at hk ha hb
  subst hk ha hb
  exact⟨⟨k,a,b⟩,rfl,ZbO wk,ZbO wa,ZbO wb⟩
end
theorem Zup {s:St} (h:Zcw s):∀ x ∈ s.L,I64 x:=by
 have h0:=h.2.2.2.1
 have h6:=h.2.2.2.2.1
 have hn:=h.2.2.2.2.2
 by_cases h4:s.kind=4
 ·rw[h4,ZdL] at hn
  exact ZcR (by decide) (by decide) hn.2
 ·by_cases h5:s.kind=5
  ·rw[h5,Zda] at hn
   exact ZcR (by decide) (by decide) hn.2
  ·have hb:=(ZbM _).1 ((ZaM h4 h5).1 hn).2.2
   intro x hx
   have:=hb x hx
   exact Zaj (by omega) (by omega)
theorem ZpB {s:St} (h:Zcw s):s.L.length<=128:=by
 have h0:=h.2.2.2.1
 have h6:=h.2.2.2.2.1
 have hn:=h.2.2.2.2.2
 by_cases h4:s.kind=4
 ·rw[h4,ZdL] at hn
  exact hn.1
 ·by_cases h5:s.kind=5
  ·rw[h5,Zda] at hn
   exact hn.1
  ·have:=((ZaM h4 h5).1 hn).1
   omega
theorem ZrQ {s:St} (h:Zcw s) (hs:s.shut=false) (o:Opn) (hc:o.code=10):Zca s o=(⟨s.kind,s.L,true,if 0<=o.a∧o.a<=2 then o.a else s.eng⟩,0):=by
 unfold Zca
 rw[if_neg (fun e=>e h),if_neg (by simp[hs]),if_pos hc]
theorem Zlf {s:St} (h:Zcw s) (hs:s.shut=false) (o:Opn) (hc:o.code≠10):Zca s o=if s.kind<=1 then Zgg s o else if s.kind<=3 then ZbX s o else if s.kind=4 then ZbN s o else ZaS s o:=by
 unfold Zca
 rw[if_neg (fun e=>e h),if_neg (by simp[hs]),if_neg hc]
theorem ZpC (s:St) (o:Opn):(ZbN s o).1.kind=s.kind∧(ZbN s o).1.shut=s.shut∧(ZbN s o).1.eng=s.eng:=by
 rw[ZhR]
 exact Zhb s o
theorem ZpD {r:St × Int} {k g:Int} {s:Bool} (h:r.1.kind=k∧r.1.shut=s∧r.1.eng=g):r=(⟨k,r.1.L,s,g⟩,r.2):=by
 obtain⟨⟨k1,l1,s1,g1⟩,n1⟩:=r
 obtain⟨h1,h2,h3⟩:=h
 simp only at h1 h2 h3
 rw[h1,h2,h3]
theorem ZxH (s:St) (v:Value) (o:Opn) (B:Nat) (w:World) (ho:Zax w B v s.L) (hB:B<=w.heap.size) (hm:Zcw s):
 Calls Tryz.prog 83 #[.agg #[.int .i64 s.kind,v,.bool s.shut,.int .i64 s.eng],opV o] w fun e w'=>Did B w v (Zca s o) e w':=by
 obtain⟨kind,l,shut,g⟩:=s
 cases shut with
 | true=>
  rw[Zrq hm rfl]
  exact Zpv kind g l v o B w ho
 | false=>
  have h0:0<=kind:=hm.2.2.2.1
  have h6:kind<6:=hm.2.2.2.2.1
  have hn:=hm.2.2.2.2.2
  obtain⟨code,a,b⟩:=o
  by_cases hc:code=10
  ·rw[ZrQ hm rfl _ hc]
   subst hc
   exact Zpw kind g a b l v B w ho
  ·rw[Zlf hm rfl _ hc]
   by_cases k1:kind<=1
   ·rw[if_pos k1]
    obtain⟨h1,h2,h3⟩:=ZyX hm k1
    exact ZrO kind g (by omega) l v ⟨code,a,b⟩ hc B w ho h1 h2 h3
   ·rw[if_neg k1]
    by_cases k3:kind<=3
    ·rw[if_pos k3,ZpD (ZiJ ⟨kind,l,false,g⟩ ⟨code,a,b⟩)]
     exact Zpx kind g (by omega) l _ _ v code a b hc B w ho (fun W h1 h2=>Zwa kind (by omega) v l ⟨code,a,b⟩ false g B W h1 h2 (Zup hm) (ZyY hm k3)) hB
    ·rw[if_neg k3]
     by_cases k4:kind=4
     ·rw[if_pos k4,ZpD (ZpC ⟨kind,l,false,g⟩ ⟨code,a,b⟩)]
      subst k4
      have hn':=(ZdL l).1 hn
      exact Znz 4 g rfl l _ _ v code a b hc B w ho (fun W h1 h2=>ZrN v l ⟨code,a,b⟩ false g B W h1 h2 hn'.2 hn'.1) hB
     ·rw[if_neg k4,ZpD (ZfN ⟨kind,l,false,g⟩ ⟨code,a,b⟩)]
      have k5:kind=5:=by omega
      subst k5
      have hn':=(Zda l).1 hn
      exact Zmg 5 g rfl l _ _ v code a b hc B w ho (fun W h1 h2=>Zpu v l ⟨code,a,b⟩ false g B W h1 h2 hn'.2 hn'.1) hB
theorem Zwf (v:Value) (s:St) (o:Opn) (w:World) (hs:StV w v s) (hlim:s.L.length<=1000000):
 Calls Tryz.prog 42 #[v,opV o] w fun e w'=>Zhc w (lval v) s.L (Zca s o) e w':=by
 obtain⟨vl,rfl,hr,hki,hei⟩:=hs
 rw[ZqC]
 obtain⟨kind,l,shut,g⟩:=s
 simp only at hr hki hei hlim ⊢
 have HI:=Zac hr.i64
 have HOWN:Hid (∀ W,Below w.heap.size w W->Calls Tryz.prog 81 #[.agg #[.int .i64 kind,vl,.bool shut,.int .i64 g]] W fun e w'=>∃ vl',e=.returned (.agg #[.int .i64 kind,vl',.bool shut,.int .i64 g])∧Zax w' W.heap.size vl' l∧Below W.heap.size W w'):=fun W h=>Zwe _ ⟨kind,l,shut,g⟩ W ⟨vl,rfl,hr.below h zL,hki,hei⟩ hlim
 have HMAY:Hid (∀ v1 W,RdI W v1 l->Calls Tryz.prog 82 #[.agg #[.int .i64 kind,v1,.bool shut,.int .i64 g]] W fun e w'=>e=.returned (.bool (decide (Zcw ⟨kind,l,shut,g⟩)))∧Below W.heap.size W w'):=fun v1 W h=>ZpA _ ⟨kind,l,shut,g⟩ W ⟨v1,rfl,h,hki,hei⟩
 have HB3:Hid (∀ x y z,Below w.heap.size w (((w.alloc x).alloc y).alloc z)):=fun x y z=>(Zbm w x y z).1
 have HZ3:Hid (∀ x y z,(((w.alloc x).alloc y).alloc z).heap.size=w.heap.size+1+1+1):=fun x y z=>ZyW w x y z
 have HKI:=Zac hki
 have HEI:=Zac hei
 obtain⟨code,a,b⟩:=o
 clear hr hki hei hlim
 show Calls Tryz.prog _ #[_,.agg #[.int .i64 code,.int .i64 a,.int .i64 b]] w _
 by_cases hm:Zcw ⟨kind,l,shut,g⟩
 ·have HMT:=Zac (decide_eq_true hm)
  have HACT:Hid (∀ v1 B W,Zax W B v1 l->B<=W.heap.size->Calls Tryz.prog 83 #[.agg #[.int .i64 kind,v1,.bool shut,.int .i64 g],.agg #[.int .i64 code,.int .i64 a,.int .i64 b]] W fun e w'=>Did B W v1 (Zca ⟨kind,l,shut,g⟩ ⟨code,a,b⟩) e w'):=fun v1 B W h1 h2=>ZxH ⟨kind,l,shut,g⟩ v1 ⟨code,a,b⟩ B W h1 h2 hm
  have hm':=ZiX hm ⟨code,a,b⟩
  have HI':=Zac (Zup hm')
  have HKI':Hid (I64 (Zca ⟨kind,l,shut,g⟩ ⟨code,a,b⟩).1.kind):=Zaj (by have:=hm'.2.2.2.1;omega) (by have:=hm'.2.2.2.2.1;omega)
  have HEI':Hid (I64 (Zca ⟨kind,l,shut,g⟩ ⟨code,a,b⟩).1.eng):=Zaj (by have:=hm'.1;omega) (by have:=hm'.2.1;omega)
  obtain⟨⟨⟨k',L',s',g'⟩,n'⟩,hr'⟩:∃ r,r=Zca ⟨kind,l,shut,g⟩ ⟨code,a,b⟩:=⟨_,rfl⟩
  rw[<-hr'] at HACT HI' HKI' HEI' ⊢
  clear hm hm' hr'
  go_enter Tryz.func42,Tryz.ntmps42
  go_wp2_with fail
  refine(HOWN.out _ (HB3.out _ _ _)).mono ?_
  rintro e W1 ⟨v1,rfl,ho1,hb1⟩
  rw[HZ3.out] at ho1
  have HX1:=Zac ((Zdv.made w _ _ _).below hb1 (by simp))
  have HB1:=Zac ((HB3.out _ _ _).trans (hb1.mono (HB3.out _ _ _).size))
  have HO1:=Zac ho1
  have hs1:=hb1.size
  rw[HZ3.out] at hs1
  obtain⟨ao,cap,rfl⟩:=ho1.shape
  clear hb1 ho1
  go_wp2_with fail
  refine(HMAY.out _ _ ((HO1.out.alloc _).rd HI.out)).mono ?_
  rintro e W2 ⟨rfl,hb2⟩
  rw[HMT.out]
  have HB2:=Zac ((HB1.out.alloc HB1.out.size _).trans (hb2.mono (by have:=HB1.out.size;simp;omega)))
  have HO2:=Zac ((HO1.out.alloc _).below hb2 zL)
  have hs2:=hb2.size
  have hx:=(HX1.out.below ((Below.refl W1.heap.size W1).alloc zL _) (by omega)).below hb2 (by simp;omega)
  have hbx:=(hb2.block W1.heap.size (by simp)).trans (heap_alloc_new W1 _)
  have HX2:=Zac hx
  obtain⟨p0,-⟩:=hx.o 0
  obtain⟨p1,-⟩:=hx.o 1
  obtain⟨p2,-⟩:=hx.o 2
  have q0:=cell_of_row W2 W1.heap.size 0 _ _ _ hbx
  have q1:=cell_of_row W2 W1.heap.size 1 _ _ _ hbx
  have q2:=cell_of_row W2 W1.heap.size 2 _ _ _ hbx
  have q3:=cell_of_row W2 W1.heap.size 3 _ _ _ hbx
  have hB2:w.heap.size+1+1+1<=W2.heap.size:=by simp at hs2;omega
  clear hb2 hx hbx HX1
  go_wp2_with fail
  refine(HACT.out _ _ _ HO2.out hB2).mono ?_
  rintro e W3 ⟨v3,rfl,ho3,hm3⟩
  have hb3:=hm3.below HO2.out hB2
  have hx:=HX2.out.below hb3 zL
  obtain⟨r0,t0⟩:=hx.r 0
  obtain⟨r1,t1⟩:=hx.r 1
  obtain⟨r2,t2⟩:=hx.r 2
  obtain⟨r3,t3⟩:=hx.r 3
  have HB3':=Zac (HB2.out.trans (hb3.mono (by omega)))
  have HO3:=Zac ho3
  obtain⟨ao3,cap3,rfl⟩:=ho3.shape
  clear hb3 hm3 hx ho3
  go_wp2
  refine bodyPost_ret (v:=.tuple #[.agg #[.int .i64 k',.slice ao3 L'.length cap3,.bool s',.int .i64 g'],.int .i64 n']) (by simp[results,Tryz.results42,go_sem,r0,r1,r2,r3]) rfl ?_
  refine Zhc.fresh ((HO3.out.four (w.heap.size+1+1) (by omega) _ _ _ _).rd HI'.out) HKI'.out HEI'.out n' (fun b hb=>?_) (Zcl HB3'.out (w.heap.size+1+1) (by omega) _ _ _ _)
  have:=HO3.out.fresh b hb
  omega
 ·have HMT:=Zac (decide_eq_false hm)
  have HR:=Zac (ZiW hm ⟨code,a,b⟩)
  rw[HR.out]
  clear hm
  go_enter Tryz.func42,Tryz.ntmps42
  go_wp2_with fail
  refine(HOWN.out _ (HB3.out _ _ _)).mono ?_
  rintro e W1 ⟨v1,rfl,ho1,hb1⟩
  rw[HZ3.out] at ho1
  have HX1:=Zac ((Zdv.made w _ _ _).below hb1 (by simp))
  have HB1:=Zac ((HB3.out _ _ _).trans (hb1.mono (HB3.out _ _ _).size))
  have HO1:=Zac ho1
  have hs1:=hb1.size
  rw[HZ3.out] at hs1
  obtain⟨ao,cap,rfl⟩:=ho1.shape
  clear hb1 ho1
  go_wp2_with fail
  refine(HMAY.out _ _ ((HO1.out.alloc _).rd HI.out)).mono ?_
  rintro e W2 ⟨rfl,hb2⟩
  rw[HMT.out]
  have HB2:=Zac ((HB1.out.alloc HB1.out.size _).trans (hb2.mono (by have:=HB1.out.size;simp;omega)))
  have HO2:=Zac ((HO1.out.alloc _).below hb2 zL)
  have hx:=(HX1.out.below ((Below.refl W1.heap.size W1).alloc zL _) (by omega)).below hb2 (by simp;omega)
  have hbx:=(hb2.block W1.heap.size (by simp)).trans (heap_alloc_new W1 _)
  obtain⟨r0,t0⟩:=hx.r 0
  obtain⟨r1,t1⟩:=hx.r 1
  obtain⟨r2,t2⟩:=hx.r 2
  obtain⟨r3,t3⟩:=hx.r 3
  have q0:=cell_of_row W2 W1.heap.size 0 _ _ _ hbx
  have q1:=cell_of_row W2 W1.heap.size 1 _ _ _ hbx
  have q2:=cell_of_row W2 W1.heap.size 2 _ _ _ hbx
  have q3:=cell_of_row W2 W1.heap.size 3 _ _ _ hbx
  clear hb2 hx hbx HX1
  go_wp2
  refine bodyPost_ret (v:=.tuple #[.agg #[.int .i64 kind,.slice ao l.length cap,.bool shut,.int .i64 g],.int .i64 0]) (by simp[results,Tryz.results42,go_sem,r0,r1,r2,r3]) rfl ?_
  refine Zhc.fresh ((HO2.out.four (w.heap.size+1+1) (by omega) _ _ _ _).rd HI.out) HKI.out HEI.out 0 (fun b hb=>?_) (Zcl HB2.out (w.heap.size+1+1) (by omega) _ _ _ _)
  have:=HO2.out.fresh b hb
  omega
theorem ZrR (s:St) (o:Opn):I64 (Zca s o).2:=by
 by_cases h:s.kind≠4∨s.shut=true∨o.code=10∨o.code=5∨o.code=6∨o.code=7∨(0<=o.a∧o.a<=255)
 ·rw[ZvJ s o h]
  exact Ztt s o
 ·by_cases hm:Zcw s
  ·have hk:s.kind=4:=by
    by_cases hk:s.kind=4
    ·exact hk
    ·exact absurd (.inl hk) h
   have hs:s.shut=false:=by
    cases hs:s.shut
    ·rfl
    ·exact absurd (.inr (.inl hs)) h
   have hc:o.code≠10:=fun e=>h (.inr (.inr (.inl e)))
   have ha:¬ (0<=o.a∧o.a<=255):=fun e=>h (.inr (.inr (.inr (.inr (.inr (.inr e))))))
   rw[Zlf hm hs o hc,if_neg (by omega),if_neg (by omega),if_pos hk]
   unfold ZbN
   rw[if_pos (by omega)]
   exact(Zaj (by decide) (by decide):I64 (-1))
  ·rw[ZiW hm]
   exact(Zaj (by decide) (by decide):I64 0)
theorem ZxI (n a b:Int) (B:Bool) (hB:B=decide (a<=n∧n<=b)) (w:World):
 Calls Tryz.prog 79 #[.int .i64 n,.int .i64 a,.int .i64 b] w fun e w'=>e=.returned (.bool B)∧w'=w:=by
 have HE:=ZZ hB
 clear hB
 by_cases h1:a<=n
 ·by_cases h2:n<=b
  ·have HT:Hid (true=B):=ZZ (by rw[HE.out,decide_eq_true ⟨h1,h2⟩])
   clear HE
   go_enter Tryz.func79,Tryz.ntmps79
   go_wp2
   go_ret
   exact⟨ZbJ HT.out,rfl⟩
  ·have HT:Hid (false=B):=ZZ (by rw[HE.out,decide_eq_false fun h=>h2 h.2])
   clear HE
   go_enter Tryz.func79,Tryz.ntmps79
   go_wp2
   go_ret
   exact⟨ZbJ HT.out,rfl⟩
 ·have HT:Hid (false=B):=ZZ (by rw[HE.out,decide_eq_false fun h=>h1 h.1])
  clear HE
  go_enter Tryz.func79,Tryz.ntmps79
  go_wp2
  go_ret
  exact⟨ZbJ HT.out,rfl⟩
theorem ZpE (r:Rec):ZaF r↔(0<=r.idx∧r.idx<=4611686018427387903)∧(0<=r.proc∧r.proc<=64)∧(0<=r.seq∧r.seq<=4611686018427387903)∧ZcS r.op∧(-1125899906842624<=r.resp∧r.resp<=1125899906842624):=by
 unfold ZaF
 constructor
 ·rintro⟨h1,h2,h3,h4,h5,h6,h7,h8,h9⟩
  exact⟨⟨h2,by omega⟩,⟨h6,h7⟩,⟨h4,by omega⟩,h1,h8,h9⟩
 ·rintro⟨⟨h2,h3⟩,⟨h6,h7⟩,⟨h4,h5⟩,h1,h8,h9⟩
  exact⟨h1,h2,by omega,h4,by omega,h6,h7,h8,h9⟩
theorem Zju (r:Rec) (w:World):
 Calls Tryz.prog 41 #[ZrL r] w fun e w'=>e=.returned (.bool (decide (ZaF r)))∧Below w.heap.size w w':=by
 obtain⟨B,hB⟩:∃ B,B=decide (ZaF r):=⟨_,rfl⟩
 rw[<-hB]
 have HP:=ZZ (ZpE r)
 have HF0:=ZZ (fun W=>Zmh r.op W)
 have HB:=ZZ hB
 clear hB
 obtain⟨idx,proc,seq,⟨code,a,b⟩,resp⟩:=r
 show Calls Tryz.prog _ #[.agg #[.int .i64 idx,.int .i64 proc,.int .i64 seq,.int .i64 code,.int .i64 a,.int .i64 b,.int .i64 resp]] w _
 have HB0:Hid (∀ X,Below w.heap.size w (w.alloc X)):=fun X=>(Below.refl _ _).alloc zL X
 have X1:Hid (∀ cs,Br (w.alloc (.cells cs 62)) w.heap.size cs):=fun cs=>heap_alloc_new w _
 have HF:Hid (∀ W,Calls Tryz.prog 80 #[.agg #[.int .i64 code,.int .i64 a,.int .i64 b]] W fun e w'=>e=.returned (.bool (decide (ZcS ⟨code,a,b⟩)))∧Below W.heap.size W w'):=HF0.out
 clear HF0
 have HW:=ZZ (fun n a b B hB W=>ZxI n a b B hB W)
 by_cases h1:0<=idx∧idx<=4611686018427387903
 case neg=>
  have HT:Hid (false=B):=ZZ (by rw[HB.out,decide_eq_false fun h=>h1 (HP.out.1 h).1])
  have HD:=ZZ (decide_eq_false h1).symm
  clear HB HP h1 HF
  go_enter Tryz.func41,Tryz.ntmps41
  go_wp2_with fail
  refine(HW.out _ _ _ _ HD.out _).mono ?_
  rintro e W1 ⟨rfl,rfl⟩
  go_wp2
  go_ret
  exact⟨ZbJ HT.out,HB0.out _⟩
 have HD1:=ZZ (decide_eq_true h1).symm
 by_cases h2:0<=proc∧proc<=64
 case neg=>
  have HT:Hid (false=B):=ZZ (by rw[HB.out,decide_eq_false fun h=>h2 (HP.out.1 h).2.1])
  have HD2:=ZZ (decide_eq_false h2).symm
  clear HB HP h1 h2 HF
  go_enter Tryz.func41,Tryz.ntmps41
  go_wp2_with fail
  refine(HW.out _ _ _ _ HD1.out _).mono ?_
  rintro e W1 ⟨rfl,rfl⟩
  go_wp2_with fail
  refine(HW.out _ _ _ _ HD2.out _).mono ?_
  rintro e W1 ⟨rfl,rfl⟩
  go_wp2
  go_ret
  exact⟨ZbJ HT.out,HB0.out _⟩
 have HD2:=ZZ (decide_eq_true h2).symm
 by_cases h3:0<=seq∧seq<=4611686018427387903
 case neg=>
  have HT:Hid (false=B):=ZZ (by rw[HB.out,decide_eq_false fun h=>h3 (HP.out.1 h).2.2.1])
  have HD3:=ZZ (decide_eq_false h3).symm
  clear HB HP h1 h2 h3 HF
  go_enter Tryz.func41,Tryz.ntmps41
  go_wp2_with fail
  refine(HW.out _ _ _ _ HD1.out _).mono ?_
  rintro e W1 ⟨rfl,rfl⟩
  go_wp2_with fail
  refine(HW.out _ _ _ _ HD2.out _).mono ?_
  rintro e W1 ⟨rfl,rfl⟩
  go_wp2_with fail
  refine(HW.out _ _ _ _ HD3.out _).mono ?_
  rintro e W1 ⟨rfl,rfl⟩
  go_wp2
  go_ret
  exact⟨ZbJ HT.out,HB0.out _⟩
 have HD3:=ZZ (decide_eq_true h3).symm
 by_cases h4:ZcS ⟨code,a,b⟩
 case neg=>
  have HT:Hid (false=B):=ZZ (by rw[HB.out,decide_eq_false fun h=>h4 (HP.out.1 h).2.2.2.1])
  rw[decide_eq_false h4] at HF
  clear HB HP h1 h2 h3 h4
  go_enter Tryz.func41,Tryz.ntmps41
  go_wp2_with fail
  refine(HW.out _ _ _ _ HD1.out _).mono ?_
  rintro e W1 ⟨rfl,rfl⟩
  go_wp2_with fail
  refine(HW.out _ _ _ _ HD2.out _).mono ?_
  rintro e W1 ⟨rfl,rfl⟩
  go_wp2_with fail
  refine(HW.out _ _ _ _ HD3.out _).mono ?_
  rintro e W1 ⟨rfl,rfl⟩
  go_wp2_with fail
  refine(HF.out _).mono ?_
  rintro e W2 ⟨rfl,hb2⟩
  have HB2:=ZZ ((HB0.out _).trans (hb2.mono (HB0.out _).size))
  clear hb2
  go_wp2
  go_ret
  exact⟨ZbJ HT.out,HB2.out⟩
 rw[decide_eq_true h4] at HF
 by_cases h5:-1125899906842624<=resp∧resp<=1125899906842624
 case neg=>
  have HT:Hid (false=B):=ZZ (by rw[HB.out,decide_eq_false fun h=>h5 (HP.out.1 h).2.2.2.2])
  have HD5:=ZZ (decide_eq_false h5).symm
  clear HB HP h1 h2 h3 h4 h5
  go_enter Tryz.func41,Tryz.ntmps41
  go_wp2_with fail
  refine(HW.out _ _ _ _ HD1.out _).mono ?_
  rintro e W1 ⟨rfl,rfl⟩
  go_wp2_with fail
  refine(HW.out _ _ _ _ HD2.out _).mono ?_
  rintro e W1 ⟨rfl,rfl⟩
  go_wp2_with fail
  refine(HW.out _ _ _ _ HD3.out _).mono ?_
  rintro e W1 ⟨rfl,rfl⟩
  go_wp2_with fail
  refine(HF.out _).mono ?_
  rintro e W2 ⟨rfl,hb2⟩
  have hx2:=(X1.out _).below hb2 zL
  have HB2:=ZZ ((HB0.out _).trans (hb2.mono (HB0.out _).size))
  obtain⟨q6,-⟩:=hx2.cell 6
  clear hb2 hx2
  go_wp2_with fail
  refine(HW.out _ _ _ _ HD5.out _).mono ?_
  rintro e W3 ⟨rfl,rfl⟩
  go_wp2
  go_ret
  exact⟨ZbJ HT.out,HB2.out⟩
 have HT:Hid (true=B):=ZZ (by rw[HB.out,decide_eq_true (HP.out.2 ⟨h1,h2,h3,h4,h5⟩)])
 have HD5:=ZZ (decide_eq_true h5).symm
 clear HB HP h1 h2 h3 h4 h5
 go_enter Tryz.func41,Tryz.ntmps41
 go_wp2_with fail
 refine(HW.out _ _ _ _ HD1.out _).mono ?_
 rintro e W1 ⟨rfl,rfl⟩
 go_wp2_with fail
 refine(HW.out _ _ _ _ HD2.out _).mono ?_
 rintro e W1 ⟨rfl,rfl⟩
 go_wp2_with fail
 refine(HW.out _ _ _ _ HD3.out _).mono ?_
 rintro e W1 ⟨rfl,rfl⟩
 go_wp2_with fail
 refine(HF.out _).mono ?_
 rintro e W2 ⟨rfl,hb2⟩
 have hx2:=(X1.out _).below hb2 zL
 have HB2:=ZZ ((HB0.out _).trans (hb2.mono (HB0.out _).size))
 obtain⟨q6,-⟩:=hx2.cell 6
 clear hb2 hx2
 go_wp2_with fail
 refine(HW.out _ _ _ _ HD5.out _).mono ?_
 rintro e W3 ⟨rfl,rfl⟩
 go_wp2
 go_ret
 exact⟨ZbJ HT.out,HB2.out⟩
def Zjv (w:World) (vl0 vt0:Value) (l:List Rec) (r:ZaX × Int) (e:Ending) (w':World):Prop:=
 ∃ vl vt,e=.returned (.tuple #[.agg #[.int .i64 r.1.idx,.int .i64 r.1.st.kind,vl,.bool r.1.st.shut,.int .i64 r.1.st.eng,vt],.int .i64 r.2])∧RdI w' vl r.1.st.L∧I64 r.1.st.kind∧I64 r.1.st.eng∧RdE w' vt r.1.tab∧I64 r.1.idx∧
  (vl=vl0∨∀ b,vl.ownBlock=some b->w.heap.size<=b)∧((l=[]∧vt=vt0)∨Zbh w' w.heap.size vt r.1.tab)∧Below w.heap.size w w'
def ZnC (w:World) (S:ZaX) (wr:World):Prop:=
 ∃ la lc ta tc,Bn wr w.heap.size #[.int .i64 S.idx,.int .i64 S.st.kind,.slice la S.st.L.length lc,.bool S.st.shut,.int .i64 S.st.eng,.slice ta S.tab.length tc]∧
  Bn wr (w.heap.size+1) #[.int .i64 0,.int .i64 0,.slice none 0 0,.bool false,.int .i64 0,.slice none 0 0]∧
  RdI wr (.slice la S.st.L.length lc) S.st.L∧(∀ b,(Value.slice la S.st.L.length lc).ownBlock=some b->w.heap.size+2<=b)∧
  Zbh wr (w.heap.size+2) (.slice ta S.tab.length tc) S.tab∧(∀ e ∈ S.tab,ZlY e)∧I64 S.idx∧I64 S.st.kind∧I64 S.st.eng∧Below w.heap.size w wr
theorem Zax.freshI {w:World} {B:Nat} {v:Value} {l:List Int} (h:Zax w B v l):∀ b,v.ownBlock=some b->B<=b:=fun b hb=>(World.ownsRow.lt h b hb).1
theorem Zbh.butN {w w':World} {B R T:Nat} {v:Value} {l:List Ent} (h:Zbh w B v l) (hb:But R T w w') (hn':∀ b,v.ownBlock=some b->b≠R∧b≠T):Zbh w' B v l:=by
 rcases h.row with ⟨rfl,rfl⟩ | ⟨g,cap,cur,rfl,hBg,hlt,hg,hn,hm,hs,hc⟩
 ·exact Zbh.nil _ _
 ·have:=hn' g rfl
  exact Zbh.ofRow rfl hBg ((hb.block g hlt this.1 this.2).trans hg) hn hm hs hc
theorem Zbh.but {w w':World} {B R T:Nat} {v:Value} {l:List Ent} (h:Zbh w B v l) (hb:But R T w w') (hR:R<B) (hT:T<B):Zbh w' B v l:=
 h.butN hb (fun b hb=>by have:=h.fresh b hb;omega)
theorem Zjw {w W:World} {idx kind eng:Int} {shut:Bool} {x2 x5:Value} {L:List Int} {tab:List Ent} {a1 a2:Option Addr} {c1 c2:Nat}
 (hX:Bn W w.heap.size #[.int .i64 idx,.int .i64 kind,x2,.bool shut,.int .i64 eng,x5]) (hY:Bn W (w.heap.size+1) #[.int .i64 0,.int .i64 0,.slice none 0 0,.bool false,.int .i64 0,.slice none 0 0])
 (hl:Zax W (w.heap.size+2) (.slice a1 L.length c1) L) (hli:∀ n ∈ L,I64 n) (hE:Zbh W (w.heap.size+2) (.slice a2 tab.length c2) tab) (hEI:∀ e ∈ tab,ZlY e) (hi:I64 idx) (hk:I64 kind) (he:I64 eng) (hB:Below w.heap.size w W):
 ZnC w ⟨idx,⟨kind,L,shut,eng⟩,tab⟩ ((W.setCell ⟨w.heap.size,2,none⟩ (.slice a1 L.length c1)).setCell ⟨w.heap.size,5,none⟩ (.slice a2 tab.length c2)):=by
 have hb:But w.heap.size w.heap.size W ((W.setCell ⟨w.heap.size,2,none⟩ (.slice a1 L.length c1)).setCell ⟨w.heap.size,5,none⟩ (.slice a2 tab.length c2)):=((But.refl _ _ _).set _ _ (.inl rfl) _).set _ _ (.inl rfl) _
 refine⟨a1,c1,a2,c2,(hX.set 2 _).set 5 _,(hY.other 2 _ (by omega)).other 5 _ (by omega),(hl.rd hli).but hb (.inr fun b h=>?_),hl.freshI,hE.but hb (by omega) (by omega),hEI,hi,hk,he,Zcm hB hb (by have:=hX.lt;omega) zL zL⟩
 have:=hl.freshI b h
 omega
theorem Zuq {s:St} (o:Opn) (h:s.L.length<=1000):(Zca s o).1.L.length<=1000:=by
 by_cases hm:Zcw s
 ·have:=(Ztu (ZiX hm o)).2.1
  omega
 ·rw[ZiW hm]
  exact h
theorem ZrS {s:ZaX} {l:List Rec} {q:Nat} (hq:q<l.length):ZaG s (l.drop q)=if(l.getD q Zai).idx≠s.idx then(Zbb,15) else if ¬ ZaF (l.getD q Zai) then(Zbb,1) else ZaG (Zkt s (l.getD q Zai)) (l.drop (q+1)):=by
 have e:l.drop q=l.getD q Zai::l.drop (q+1):=by
  rw[List.drop_eq_getElem_cons hq]
  simp[List.getD,hq]
 rw[e,ZaG]
def Zhx (W:World) (R Q:Nat) (k:Int) (v:Value) (sh:Bool) (g n:Int):World:=
 ((((W.setCell ⟨R,1,none⟩ (.int .i64 k)).setCell ⟨R,2,none⟩ v).setCell ⟨R,3,none⟩ (.bool sh)).setCell ⟨R,4,none⟩ (.int .i64 g)).setCell ⟨Q,6,none⟩ (.int .i64 n)
theorem Br.other {w:World} {b c:Nat} {cs:Array Value} (h:Br w b cs) (j:Nat) (x:Value) (hne:b≠c):Br (w.setCell ⟨c,j,none⟩ x) b cs:=(Below.heap_setCell _ _ _ _ hne).trans h
theorem ZpF (W:World) (R Q:Nat) (k:Int) (v:Value) (sh:Bool) (g n:Int):But R Q W (Zhx W R Q k v sh g n):=
 (((((But.refl R Q W).set _ _ (.inl rfl) _).set _ _ (.inl rfl) _).set _ _ (.inl rfl) _).set _ _ (.inl rfl) _).set _ _ (.inr rfl) _
theorem ZrT {W:World} {R Q:Nat} (hne:R≠Q) {x0 x1 x2 x3 x4 x5:Value} (h:Bn W R #[x0,x1,x2,x3,x4,x5]) (k:Int) (v:Value) (sh:Bool) (g n:Int):Bn (Zhx W R Q k v sh g n) R #[x0,.int .i64 k,v,.bool sh,.int .i64 g,x5]:=
 ((((h.set 1 _).set 2 _).set 3 _).set 4 _).other 6 _ hne
theorem ZrU {W:World} {R Q:Nat} (hne:Q≠R) {x0 x1 x2 x3 x4 x5 x6:Value} (h:Br W Q #[x0,x1,x2,x3,x4,x5,x6]) (k:Int) (v:Value) (sh:Bool) (g n:Int):Br (Zhx W R Q k v sh g n) Q #[x0,x1,x2,x3,x4,x5,.int .i64 n]:=
 ((((h.other 1 _ hne).other 2 _ hne).other 3 _ hne).other 4 _ hne).set 6 _
theorem ZpG {W:World} {R Q C:Nat} (h1:C≠R) (h2:C≠Q) {cs:Array Value} (h:Bn W C cs) (k:Int) (v:Value) (sh:Bool) (g n:Int):Bn (Zhx W R Q k v sh g n) C cs:=
 ((((h.other 1 _ h1).other 2 _ h1).other 3 _ h1).other 4 _ h1).other 6 _ h2
theorem ZpH {w W:World} {idx kind eng:Int} {shut:Bool} {x5:Value} {L:List Int} {tab:List Ent} {a1 a2:Option Addr} {c1 c2:Nat}
 (hX:Bn W w.heap.size #[.int .i64 idx,.int .i64 kind,.slice a1 L.length c1,.bool shut,.int .i64 eng,x5]) (hY:Bn W (w.heap.size+1) #[.int .i64 0,.int .i64 0,.slice none 0 0,.bool false,.int .i64 0,.slice none 0 0])
 (hl:RdI W (.slice a1 L.length c1) L) (hlf:∀ b,(Value.slice a1 L.length c1).ownBlock=some b->w.heap.size+2<=b) (hE:Zbh W (w.heap.size+2) (.slice a2 tab.length c2) tab) (hEI:∀ e ∈ tab,ZlY e) (hi:I64 (idx+1)) (hk:I64 kind) (he:I64 eng) (hB:Below w.heap.size w W):
 ZnC w ⟨idx+1,⟨kind,L,shut,eng⟩,tab⟩ ((W.setCell ⟨w.heap.size,5,none⟩ (.slice a2 tab.length c2)).setCell ⟨w.heap.size,0,none⟩ (.int .i64 (idx+1))):=by
 have hb:But w.heap.size w.heap.size W ((W.setCell ⟨w.heap.size,5,none⟩ (.slice a2 tab.length c2)).setCell ⟨w.heap.size,0,none⟩ (.int .i64 (idx+1))):=((But.refl _ _ _).set _ _ (.inl rfl) _).set _ _ (.inl rfl) _
 refine⟨a1,c1,a2,c2,(hX.set 5 _).set 0 _,(hY.other 5 _ (by omega)).other 0 _ (by omega),hl.but hb (.inr fun b h=>?_),hlf,hE.but hb (by omega) (by omega),hEI,hi,hk,he,Zcm hB hb (by have:=hX.lt;omega) zL zL⟩
 have:=hlf b h
 omega
theorem Zjv.zero {w w':World} (vl0 vt0:Value) (l:List Rec) (n:Int) (hb:Below w.heap.size w w'):Zjv w vl0 vt0 l (Zbb,n) (.returned (.tuple #[.agg #[.int .i64 0,.int .i64 0,.slice none 0 0,.bool false,.int .i64 0,.slice none 0 0],.int .i64 n])) w':=
 ⟨_,_,rfl,RdI.nil _,(Zaj (by decide) (by decide):I64 0),(Zaj (by decide) (by decide):I64 0),RdE.nil _,(Zaj (by decide) (by decide):I64 0),.inr (fun b hb=>by simp[Value.ownBlock] at hb),.inr (Zbh.nil _ _),hb⟩
theorem ZnD {P:ZaX->Prop} (hPn:∀ S r,P S->ZaF r->P (Zkt S r)) (hPb:∀ S,P S->S.tab.length<=1500) (idx kind:Int) (vl:Value) (shut:Bool) (eng:Int) (vt:Value) (s:ZaX) (vr:Value) (l:List Rec) (w:World) (hs:SnV w (.agg #[.int .i64 idx,.int .i64 kind,vl,.bool shut,.int .i64 eng,vt]) s) (hr:RdR w vr l) (hlim:s.st.L.length<=1000) (hlim2:s.tab.length<=1000) (hlim3:l.length<=1000000000) (hPs:P s):
 Calls Tryz.prog 15 #[.agg #[.int .i64 idx,.int .i64 kind,vl,.bool shut,.int .i64 eng,vt],vr] w fun e w'=>Zjv w vl vt l (ZaG s l) e w':=by
 obtain⟨vl',vt',heq,hl,hk,he,ht,hi⟩:=hs
 injection heq with heq
 injection heq with heq
 simp only [List.cons.injEq,Value.int.injEq,Value.bool.injEq,and_true,true_and] at heq
 obtain⟨rfl,rfl,rfl,rfl,rfl,rfl⟩:=heq
 obtain⟨la,lc,hvl,-⟩:=id hl
 obtain⟨ta,tc,hvt⟩:=ht.shape
 subst hvl hvt
 obtain⟨ra,rc,rfl,hrl,hrm,-,hrok,hrao⟩:=hr
 have HPN:=ZZ hPn
 have HPB:=ZZ hPb
 clear hPn hPb
 have HRA:=ZZ hrao
 have HROK:=ZZ hrok
 obtain⟨idx,⟨kind,L,shut,eng⟩,tab⟩:=s
 dsimp only at *
 have HPS:=ZZ hPs
 clear hPs
 obtain⟨TT,hTT⟩:∃ TT,TT=ZaG ⟨idx,⟨kind,L,shut,eng⟩,tab⟩ l:=⟨_,rfl⟩
 rw[<-hTT]
 have HTT:=ZZ hTT
 have HTK:Hid (∀ (S:ZaX) (q:Nat),q<l.length->ZaG S (l.drop q)=if(l.getD q Zai).idx≠S.idx then(Zbb,15) else if ¬ ZaF (l.getD q Zai) then(Zbb,1) else ZaG (Zkt S (l.getD q Zai)) (l.drop (q+1))):=ZZ (fun S q hq=>ZrS hq)
 clear hTT hrao hrok hrl hrm
 have HCI:=ZZ (fun W (h:Below w.heap.size w W)=>Zhq _ L W (hl.below h zL) (by omega))
 have HCE:=ZZ (fun W (h:Below w.heap.size w W)=>Zhr _ tab W (ht.below h zL) (by omega))
 have HLI:=ZZ hl.i64
 have hTI:∀ e ∈ tab,ZlY e:=ht.choose_spec.choose_spec.2.2.2.2.1
 have HTI:=ZZ hTI
 have HB0:Hid (∀ X Y,Below w.heap.size w ((w.alloc X).alloc Y)):=fun X Y=>((Below.refl _ _).alloc zL X).alloc (by simp) Y
 have HX0:Hid (∀ cs ds,Bn ((w.alloc (.cells cs 41)).alloc (.cells ds 41)) w.heap.size cs):=fun cs ds=>(Below.heap_alloc _ _ _ (by simp)).trans (heap_alloc_new w _)
 have HY0:Hid (∀ cs ds,Bn ((w.alloc (.cells cs 41)).alloc (.cells ds 41)) (w.heap.size+1) ds):=fun cs ds=>Zhs w _ _
 clear hl ht hTI
 go_enter Tryz.func15,Tryz.ntmps15
 go_upto_region 1 with fail
 obtain⟨W0,hW0⟩:∃ W0,W0=(w.alloc (.cells #[.int .i64 idx,.int .i64 kind,.slice la L.length lc,.bool shut,.int .i64 eng,.slice ta tab.length tc] 41)).alloc (.cells #[.int .i64 0,.int .i64 0,.slice none 0 0,.bool false,.int .i64 0,.slice none 0 0] 41):=⟨_,rfl⟩
 have HBW:Hid (Below w.heap.size w W0):=ZZ (by rw[hW0];exact HB0.out _ _)
 have HXW:Hid (Bn W0 w.heap.size #[.int .i64 idx,.int .i64 kind,.slice la L.length lc,.bool shut,.int .i64 eng,.slice ta tab.length tc]):=ZZ (by rw[hW0];exact HX0.out _ _)
 have HYW:Hid (Bn W0 (w.heap.size+1) #[.int .i64 0,.int .i64 0,.slice none 0 0,.bool false,.int .i64 0,.slice none 0 0]):=ZZ (by rw[hW0];exact HY0.out _ _)
 have hs0:W0.heap.size=w.heap.size+2:=by rw[hW0];simp
 rw[<-hW0]
 clear hW0 HB0 HX0 HY0
 obtain⟨p2,g2⟩:=HXW.out.cell 2
 obtain⟨p5,g5⟩:=HXW.out.cell 5
 go_cut[] (fun wc=>Hid (ZnC w ⟨idx,⟨kind,L,shut,eng⟩,tab⟩ wc))
 case first=>
  go_region_with
   (first
    | (go_at_call 39;refine(HCI.out _ (by first | exact HBW.out.drew | exact HBW.out)).mono ?_;rintro e W1 ⟨v1,rfl,ho1,hb1⟩;have hbk1:Below W0.heap.size W0 W1:=(by first | exact((Below.refl _ _).drew).trans hb1 | exact hb1);have HO1:=ZZ ho1;have HB1:=ZZ hbk1;obtain⟨a1,c1,hv1⟩:∃ a c,v1=.slice a L.length c:=(by obtain⟨a,c,h,-⟩:=ho1.rd HLI.out;exact⟨a,c,h⟩);subst hv1;obtain⟨q2,k2⟩:=(HXW.out.below hbk1 zL).cell 2;obtain⟨q5,k5⟩:=(HXW.out.below hbk1 zL).cell 5;clear ho1 hb1 hbk1)
    | (go_at_call 40;refine(HCE.out _ (HBW.out.trans (HB1.out.mono HBW.out.size))).mono ?_;rintro e W2 ⟨v2,rfl,ho2,hb2⟩;have HO2:=ZZ ho2;have HB2:=ZZ (HB1.out.trans (hb2.mono HB1.out.size));have HO12:=ZZ (HO1.out.below hb2 zL);obtain⟨a2,c2,hv2⟩:=ho2.shape;subst hv2;obtain⟨r2,j2⟩:=(HXW.out.below HB2.out zL).cell 2;obtain⟨r5,j5⟩:=(HXW.out.below HB2.out zL).cell 5;clear ho2 hb2))
  all_goals
   go_wp2_with fail
   go_meet
   exact ZZ (Zjw (HXW.out.below HB2.out zL) (HYW.out.below HB2.out zL) (HO12.out.mono (by first | omega | (show w.heap.size+2<=W0.heap.size;omega))) HLI.out (HO2.out.mono (by have:=HB1.out.size;omega)) HTI.out hi hk he (HBW.out.trans (HB2.out.mono HBW.out.size)))
 case rest=>
  have HT0:=hcut
  clear hcut HBW HXW HYW hs0 p2 g2 p5 g5 HCI HCE HLI HTI W0 hk he hi
  go_wp2
  go_loopw[20] (fun vi wr=>∃ (q:Nat) (S:ZaX),vi=.int .i64 (q:Int)∧q<=l.length∧Hid (ZnC w S wr)∧Hid (TT=ZaG S (l.drop q))∧Hid (S.st.L.length<=1000)∧Hid (P S)) (fun vi _=>l.length-(intOf vi).toNat)
  case atStart=>exact⟨0,_,rfl,Nat.zero_le _,HT0,HTT,ZZ hlim,HPS⟩
  case round=>
   clear HT0 HTT hlim hlim2 HPS
   obtain⟨q,S,rfl,hq,hT,hTS,hSL,hST⟩:=hrel
   obtain⟨sa,sc,ea,ec,hX,hY,hL,hLf,hE,hEI,hi,hk,he,hB⟩:=hT.out
   clear hT
   have HX:=ZZ hX
   have HY:=ZZ hY
   have HL:=ZZ hL
   have HLF:=ZZ hLf
   have HE:=ZZ hE
   have HEI:=ZZ hEI
   have HIK:=ZZ (And.intro hi (And.intro hk he))
   have HB:=ZZ hB
   have HLT:=ZZ hY.lt
   obtain⟨p0,g0⟩:=hX.cell 0
   obtain⟨p1,g1⟩:=hX.cell 1
   obtain⟨p2,g2⟩:=hX.cell 2
   obtain⟨p3,g3⟩:=hX.cell 3
   obtain⟨p4,g4⟩:=hX.cell 4
   obtain⟨p5,g5⟩:=hX.cell 5
   obtain⟨z0,y0⟩:=hY.cell 0
   obtain⟨z1,y1⟩:=hY.cell 1
   obtain⟨z2,y2⟩:=hY.cell 2
   obtain⟨z3,y3⟩:=hY.cell 3
   obtain⟨z4,y4⟩:=hY.cell 4
   obtain⟨z5,y5⟩:=hY.cell 5
   clear hX hY hL hLf hE hEI hi hk he hB
   by_cases hlt:q<l.length
   case neg=>
    obtain rfl:q=l.length:=by omega
    have HF:Hid (TT=(S,0)):=ZZ (by rw[hTS.out,List.drop_length];rfl)
    clear hTS
    have hne1:¬ (w.heap.size=w.heap.size+1):=by omega
    go_wp2
    refine bodyPost_ret (v:=.tuple #[.agg #[.int .i64 S.idx,.int .i64 S.st.kind,.slice sa S.st.L.length sc,.bool S.st.shut,.int .i64 S.st.eng,.slice ea S.tab.length ec],.int .i64 0]) (by simp[results,Tryz.results15,go_sem,z0,z1,z2,z3,z4,z5]) rfl ?_
    rw[HF.out]
    have hbt:=ZqL wr (w.heap.size+1) (.int .i64 S.idx) (.int .i64 S.st.kind) (.slice sa S.st.L.length sc) (.bool S.st.shut) (.int .i64 S.st.eng) (.slice ea S.tab.length ec)
    exact⟨_,_,rfl,HL.out.but hbt (.inr fun b h=>by have:=HLF.out b h;omega),HIK.out.2.1,HIK.out.2.2,(HE.out.rd HEI.out).but hbt (.inr fun b h=>by have:=HE.out.fresh b h;omega),HIK.out.1,.inr (fun b h=>by have:=HLF.out b h;omega),.inr ((HE.out.but hbt (by omega) (by omega)).mono (by omega)),ZgA HB.out _ (by omega) _ _ _ _ _ _⟩
   have hqi:(q:Int)<(l.length:Int):=by omega
   rcases HRA.out with h0 | ⟨c,off,rfl,hc⟩
   ·rw[h0] at hlt;simp at hlt
   obtain⟨c0,c1,c2,c3,c4,c5,c6⟩:=(hc q hlt).keep (HB.out.block c (hc q hlt).lt)
   have HTQ:=ZZ (HTK.out S q hlt)
   rw[<-hTS.out] at HTQ
   have HFR:=ZZ (fun W=>Zju (l.getD q Zai) W)
   have HRO:Hid (Zfw (l.getD q Zai)):=ZZ (HROK.out _ (by rw[show l.getD q Zai=l[q] by simp[List.getD,hlt]];exact List.getElem_mem hlt))
   obtain⟨r,hr⟩:∃ r,r=l.getD q Zai:=⟨_,rfl⟩
   rw[<-hr] at HTQ HFR HRO c0 c1 c2 c3 c4 c5 c6
   clear hr hc HTK HRA HROK hTS
   obtain⟨bf,hbf⟩:∃ bf,bf=decide (ZaF r):=⟨_,rfl⟩
   rw[<-hbf] at HFR
   have HBF:=ZZ hbf
   clear hbf
   have hsz:=HLT.out
   clear p0 p1 p2 p3 p4 p5 g0 g1 g2 g3 g4 g5 z0 z1 z2 z3 z4 z5 y0 y1 y2 y3 y4 y5
   go_upto_region 5 with fail
   obtain⟨W0,hW0⟩:∃ W0,W0=wr.alloc (.cells (ZdG r) 62):=⟨_,rfl⟩
   have HB0:Hid (Below wr.heap.size wr W0):=ZZ (by rw[hW0];exact(Below.refl _ _).alloc zL _)
   have HR0:Hid (Br W0 wr.heap.size (ZdG r)):=ZZ (by rw[hW0];exact heap_alloc_new wr _)
   unfold ZdG at hW0
   rw[<-hW0]
   clear hW0 c0 c1 c2 c3 c4 c5 c6
   unfold ZdG at HR0
   unfold ZrL at HFR
   obtain⟨QB,hQB⟩:∃ QB,QB=wr.heap.size:=⟨_,rfl⟩
   have HX0:=ZZ (HX.out.below HB0.out zL)
   have HY0:=ZZ (HY.out.below HB0.out zL)
   have HBW0:=ZZ (HB.out.trans (HB0.out.mono HB.out.size))
   rw[<-hQB] at HR0 ⊢
   obtain⟨p0,g0⟩:=HX0.out.cell 0
   obtain⟨k0,-⟩:=HR0.out.cell 0
   obtain⟨k1,-⟩:=HR0.out.cell 1
   obtain⟨k2,-⟩:=HR0.out.cell 2
   obtain⟨k3,-⟩:=HR0.out.cell 3
   obtain⟨k4,-⟩:=HR0.out.cell 4
   obtain⟨k5,-⟩:=HR0.out.cell 5
   obtain⟨k6,-⟩:=HR0.out.cell 6
   by_cases hix:r.idx=S.idx
   case neg=>
    have HF:Hid (TT=(Zbb,15)):=ZZ (by rw[HTQ.out,if_pos hix])
    have hix':(r.idx != S.idx)=true:=by rw[bne_iff_ne];exact hix
    obtain⟨z0,y0⟩:=HY0.out.cell 0
    obtain⟨z1,y1⟩:=HY0.out.cell 1
    obtain⟨z2,y2⟩:=HY0.out.cell 2
    obtain⟨z3,y3⟩:=HY0.out.cell 3
    obtain⟨z4,y4⟩:=HY0.out.cell 4
    obtain⟨z5,y5⟩:=HY0.out.cell 5
    clear hix HTQ hQB
    go_wp2
    refine bodyPost_ret (v:=.tuple #[.agg #[.int .i64 0,.int .i64 0,.slice none 0 0,.bool false,.int .i64 0,.slice none 0 0],.int .i64 15]) (by simp[results,Tryz.results15,go_sem,z0,z1,z2,z3,z4,z5]) rfl ?_
    rw[HF.out]
    exact Zjv.zero _ _ _ _ (ZdB HBW0.out _ (by omega) _ _ _ _ _ _)
   have hix':(r.idx != S.idx)=false:=by rw[bne_eq_false_iff_eq];exact hix
   have HIX:=ZZ hix
   have HQB:=ZZ hQB
   clear hix hQB
   go_wp2_with fail
   refine(HFR.out _).mono ?_
   rintro x W1 ⟨rfl,hb1⟩
   have HB1:=ZZ (HB0.out.trans (hb1.mono HB0.out.size))
   have HBW1:=ZZ (HBW0.out.trans (hb1.mono HBW0.out.size))
   have HX1:=ZZ (HX0.out.below hb1 zL)
   have HY1:=ZZ (HY0.out.below hb1 zL)
   have HR1:=ZZ (HR0.out.below hb1 zL)
   clear hb1 HB0 HBW0 HX0 HY0 HR0 HFR p0 g0 k0 k1 k2 k3 k4 k5 k6
   cases bf with
   | false=>
    have HF:Hid (TT=(Zbb,1)):=ZZ (by rw[HTQ.out,if_neg (by rw[HIX.out];simp),if_pos (of_decide_eq_false HBF.out.symm)])
    obtain⟨z0,y0⟩:=HY1.out.cell 0
    obtain⟨z1,y1⟩:=HY1.out.cell 1
    obtain⟨z2,y2⟩:=HY1.out.cell 2
    obtain⟨z3,y3⟩:=HY1.out.cell 3
    obtain⟨z4,y4⟩:=HY1.out.cell 4
    obtain⟨z5,y5⟩:=HY1.out.cell 5
    clear HTQ
    go_wp2
    refine bodyPost_ret (v:=.tuple #[.agg #[.int .i64 0,.int .i64 0,.slice none 0 0,.bool false,.int .i64 0,.slice none 0 0],.int .i64 1]) (by simp[results,Tryz.results15,go_sem,z0,z1,z2,z3,z4,z5]) rfl ?_
    rw[HF.out]
    exact Zjv.zero _ _ _ _ (ZdB HBW1.out _ (by omega) _ _ _ _ _ _)
   | true=>
    have HFT:Hid (ZaF r):=ZZ (of_decide_eq_true HBF.out.symm)
    have HF:Hid (TT=ZaG (Zkt S r) (l.drop (q+1))):=ZZ (by rw[HTQ.out,if_neg (by rw[HIX.out];simp),if_neg (fun h=>h HFT.out)])
    have HSTEP:=ZZ (Zwf (.agg #[.int .i64 S.st.kind,.slice sa S.st.L.length sc,.bool S.st.shut,.int .i64 S.st.eng]) S.st r.op W1 ⟨_,rfl,HL.out.below HB1.out zL,HIK.out.2.1,HIK.out.2.2⟩ (by have:=hSL.out;omega))
    rw[ZqC] at HSTEP
    have HSF:=ZZ (Zuq r.op hSL.out)
    have HSR:=ZZ (ZrR S.st r.op)
    have HNX:Hid (Zkt S r=⟨S.idx+1,(Zca S.st r.op).1,ZeW S.tab ⟨r.proc,r.seq,(Zca S.st r.op).2⟩⟩):=ZZ rfl
    have HNT:=ZZ (ZtA S.tab ⟨r.proc,r.seq,(Zca S.st r.op).2⟩)
    obtain⟨so,hso⟩:∃ so,so=Zca S.st r.op:=⟨_,rfl⟩
    rw[<-hso] at HSTEP HSF HSR HNX HNT
    clear hso HTQ HBF
    obtain⟨⟨k',L',sh',g'⟩,n'⟩:=so
    dsimp only at HSTEP HSF HSR HNX HNT
    unfold opV at HSTEP
    unfold Zhc at HSTEP
    dsimp only at HSTEP
    obtain⟨p1,g1⟩:=HX1.out.cell 1
    obtain⟨p2,g2⟩:=HX1.out.cell 2
    obtain⟨p3,g3⟩:=HX1.out.cell 3
    obtain⟨p4,g4⟩:=HX1.out.cell 4
    obtain⟨k3,-⟩:=HR1.out.cell 3
    obtain⟨k4,-⟩:=HR1.out.cell 4
    obtain⟨k5,-⟩:=HR1.out.cell 5
    go_wp2_with fail
    refine HSTEP.out.mono ?_
    rintro x W2 ⟨v2,rfl,hl2,hk2,he2,hf2,hb2⟩
    clear HSTEP p1 g1 p2 g2 p3 g3 p4 g4 k3 k4 k5
    have HX2:=ZZ (HX1.out.below hb2 zL)
    have HY2:=ZZ (HY1.out.below hb2 zL)
    have HR2:=ZZ (HR1.out.below hb2 zL)
    have HBW2:=ZZ (HBW1.out.trans (hb2.mono HBW1.out.size))
    have HE2:=ZZ ((HE.out.below HB1.out zL).below hb2 zL)
    obtain⟨a2,n2,hv2⟩:∃ a c,v2=.slice a L'.length c:=by obtain⟨a,c,h,-⟩:=hl2;exact⟨a,c,h⟩
    subst hv2
    have hQs:QB<W1.heap.size:=HR1.out.lt
    have HFB:Hid (L'=[]∨∀ b,(Value.slice a2 L'.length n2).ownBlock=some b->b≠w.heap.size∧b≠QB):=ZZ (by
     rcases hf2 with ⟨h1,h2⟩ | h
     ·rw[h1,h2]
      rcases HL.out.old with h3 | h3
      ·exact .inl h3
      ·exact .inr fun b hb=>by
        have h4:=h3 b hb
        have h5:=HLF.out b hb
        have h6:=HQB.out
        omega
     ·exact .inr fun b hb=>by
       have h4:=h b hb
       have h5:=HY1.out.lt
       omega)
    have HFF:Hid (∀ b,(Value.slice a2 L'.length n2).ownBlock=some b->w.heap.size+2<=b):=ZZ (fun b hb=>by
     rcases hf2 with ⟨h1,h2⟩ | h
     ·rw[h1] at hb
      exact HLF.out b hb
     ·have h4:=h b hb
      have h5:=HY1.out.lt
      omega)
    have HEB:Hid (∀ b,(Value.slice ea S.tab.length ec).ownBlock=some b->b≠w.heap.size∧b≠QB):=ZZ (fun b hb=>by
     have h1:=World.ownsRow.lt HE.out b hb
     have h2:=HQB.out
     omega)
    have hne:w.heap.size≠QB:=by have:=HQB.out;omega
    have hne2:QB≠w.heap.size:=fun h=>hne h.symm
    have hne3:w.heap.size+1≠QB:=by have:=HQB.out;omega
    have HL2:=ZZ hl2
    have HKE:=ZZ (And.intro hk2 he2)
    clear hl2 hk2 he2 hf2 hb2
    obtain⟨W4,hW4⟩:∃ W4,W4=Zhx W2 w.heap.size QB k' (.slice a2 L'.length n2) sh' g' n':=⟨_,rfl⟩
    have HX4:Hid (Bn W4 w.heap.size #[.int .i64 S.idx,.int .i64 k',.slice a2 L'.length n2,.bool sh',.int .i64 g',.slice ea S.tab.length ec]):=ZZ (by rw[hW4];exact ZrT hne HX2.out _ _ _ _ _)
    have HR4:Hid (Br W4 QB #[.int .i64 r.idx,.int .i64 r.proc,.int .i64 r.seq,.int .i64 r.op.code,.int .i64 r.op.a,.int .i64 r.op.b,.int .i64 n']):=ZZ (by rw[hW4];exact ZrU hne2 HR2.out _ _ _ _ _)
    have HY4:Hid (Bn W4 (w.heap.size+1) #[.int .i64 0,.int .i64 0,.slice none 0 0,.bool false,.int .i64 0,.slice none 0 0]):=ZZ (by rw[hW4];exact ZpG (by omega) hne3 HY2.out _ _ _ _ _)
    have HBT:Hid (But w.heap.size QB W2 W4):=ZZ (by rw[hW4];exact ZpF _ _ _ _ _ _ _ _)
    have HL4:=ZZ (HL2.out.but HBT.out HFB.out)
    have HE4:=ZZ (HE2.out.butN HBT.out HEB.out)
    have HBW4:=ZZ (Zcm HBW2.out HBT.out HBW2.out.size zL (by have:=HQB.out;omega))
    have HNOTE:=ZZ (Zuj (.slice ea S.tab.length ec) S.tab ⟨r.idx,r.proc,r.seq,r.op,n'⟩ W4 (HE4.out.rd HEI.out) ⟨HRO.out.1,HRO.out.2.1,HRO.out.2.2.1,HRO.out.2.2.2.1,HSR.out⟩ (by have:=HPB.out _ hST.out;omega))
    unfold ZrL at HNOTE
    dsimp only at HNOTE
    have hW4':=hW4
    unfold Zhx at hW4'
    have s1:=(HX2.out.cell 1)
    have s2:=(HX2.out.cell 2)
    have s3:=(HX2.out.cell 3)
    have s4:=(HX2.out.cell 4)
    have s5:=(HX2.out.cell 5)
    obtain⟨s1,u1⟩:=s1
    obtain⟨s2,u2⟩:=s2
    obtain⟨s3,u3⟩:=s3
    obtain⟨s4,u4⟩:=s4
    obtain⟨s5,u5⟩:=s5
    obtain⟨t0,m0⟩:=HR2.out.cell 0
    obtain⟨t1,m1⟩:=HR2.out.cell 1
    obtain⟨t2,m2⟩:=HR2.out.cell 2
    obtain⟨t3,m3⟩:=HR2.out.cell 3
    obtain⟨t4,m4⟩:=HR2.out.cell 4
    obtain⟨t5,m5⟩:=HR2.out.cell 5
    obtain⟨t6,m6⟩:=HR2.out.cell 6
    clear hW4
    go_wp2_with fail
    rw[<-hW4']
    refine HNOTE.out.mono ?_
    rintro x W5 ⟨v5,rfl,ho5,hb5⟩
    clear hW4' s1 s2 s3 s4 s5 u1 u2 u3 u4 u5 t0 t1 t2 t3 t4 t5 t6 m0 m1 m2 m3 m4 m5 m6 HNOTE
    have HX5:=ZZ (HX4.out.below hb5 zL)
    have HY5:=ZZ (HY4.out.below hb5 zL)
    have HL5:=ZZ (HL4.out.below hb5 zL)
    have HBW5:=ZZ (HBW4.out.trans (hb5.mono HBW4.out.size))
    have HE5:=ZZ (ho5.mono (B':=w.heap.size+2) (by have:=HY4.out.lt;omega))
    obtain⟨a5,c5,hv5⟩:=ho5.shape
    subst hv5
    have HEI5:Hid (∀ e ∈ ZeW S.tab ⟨r.proc,r.seq,n'⟩,ZlY e):=ZZ (fun e he=>by
     unfold ZeW at he
     rcases(ZiR _ _ _ _).1 he with ⟨-,h⟩ | ⟨h,-⟩
     ·rw[h]
      exact⟨HRO.out.2.1,HRO.out.2.2.1,HSR.out⟩
     ·exact HEI.out e h)
    have HI5:Hid (I64 (S.idx+1)):=ZZ (by
     have h1:=HFT.out
     unfold ZaF at h1
     have h2:=HIX.out
     exact⟨by omega,by omega⟩)
    have hw5:IntKind.i64.wrap (S.idx+1)=S.idx+1:=by
     have:=HI5.out
     rw[IntKind.wrap_i64]
     obtain⟨h1,h2⟩:=this
     omega
    obtain⟨p0,g0⟩:=HX5.out.cell 0
    obtain⟨p5,g5⟩:=HX5.out.cell 5
    clear ho5 hb5
    have hb0:-9223372036854775808<=S.idx+1∧S.idx+1<=9223372036854775807:=HI5.out
    obtain⟨hb0,hb1⟩:=hb0
    go_wp2
    go_roundw
    case rel=>
     exact⟨q+1,Zkt S r,by go_num,by omega,ZZ (by rw[HNX.out];exact ZpH HX5.out HY5.out HL5.out HFF.out HE5.out HEI5.out HI5.out HKE.out.1 HKE.out.2 HBW5.out),HF,ZZ (by rw[HNX.out];exact HSF.out),ZZ (HPN.out _ _ hST.out HFT.out)⟩
    case measure=>simp[intOf];omega
def RdL (w:World) (v:Value) (L:List (List UInt8)):Prop:=
 ∃ ao cap,v=.slice ao L.length cap∧L.length<=cap∧cap<=maxLen∧(ao=none->cap=0)∧
  (L=[]∨∃ b off,ao=some ⟨b,off,none⟩∧∀ j,j<L.length->∃ x,w.cell? ⟨b,off+j,none⟩=some x∧Rd w x (L.getD j []))
def Zjx (w:World) (B:Nat) (v:Value) (L:List (List UInt8)):Prop:=
 ∃ xs:List Value,w.ownsRow B 53 1 v L.length xs∧∀ j,j<L.length->∃ x,xs[j]?=some x∧Own w B x (L.getD j [])
theorem RdL.nil (w:World):RdL w (.slice none 0 0) []:=⟨none,0,rfl,Nat.le_refl _,Nat.zero_le _,fun _=>rfl,.inl rfl⟩
theorem Zjx.nil (w:World) (B:Nat):Zjx w B (.slice none 0 0) []:=⟨[],World.ownsRow_nil w B 53 1,fun j hj=>by simp at hj⟩
theorem RdL.below {w w':World} {v:Value} {L:List (List UInt8)} (h:RdL w v L) {B:Nat} (hb:Below B w w') (hB:w.heap.size<=B):RdL w' v L:=by
 obtain⟨ao,cap,h1,h2,h3,hn,h4⟩:=h
 refine⟨ao,cap,h1,h2,h3,hn,?_⟩
 rcases h4 with h4 | ⟨b,off,h5,h6⟩
 ·exact .inl h4
 ·refine .inr ⟨b,off,h5,fun j hj=>?_⟩
  obtain⟨x,hc,hr⟩:=h6 j hj
  have hlt:b<w.heap.size:=World.block_lt_of_cell? w ⟨b,off+j,none⟩ hc
  refine⟨x,?_,hr.below hb hB⟩
  rw[hb.cell (p:=⟨b,off+j,none⟩) (by exact Nat.lt_of_lt_of_le hlt hB)]
  exact hc
theorem RdL.front {w:World} {ao:Option Addr} {n cap:Nat} {L:List (List UInt8)} (h:RdL w (.slice ao n cap) L) (k:Nat) (hk:k<=L.length):RdL w (.slice ao k cap) (L.take k):=by
 obtain⟨ao',cap',hv,h1,h2,h3,h4⟩:=h
 simp only [Value.slice.injEq] at hv
 obtain⟨rfl,_,rfl⟩:=hv
 have hlen:(L.take k).length=k:=by simp;omega
 refine⟨ao,cap,by rw[hlen],by omega,h2,h3,?_⟩
 rcases h4 with h4 | ⟨b,off,h5,h6⟩
 ·exact .inl (by rw[h4];simp)
 ·refine .inr ⟨b,off,h5,fun j hj=>?_⟩
  have hj2:j<k:=by omega
  obtain⟨x,hc,hr⟩:=h6 j (by omega)
  refine⟨x,hc,?_⟩
  have e:(L.take k).getD j []=L.getD j []:=by simp[List.getD,hj2]
  rw[e]
  exact hr
theorem Zjx.rd {w:World} {B:Nat} {v:Value} {L:List (List UInt8)} (h:Zjx w B v L):RdL w v L:=by
 obtain⟨xs,h1,h2⟩:=h
 rcases h1.2 with ⟨hv,hn⟩ | ⟨g,cap,cur,hv,hb,hg,hnc,hcm,hcs,htake⟩
 ·exact⟨none,0,by rw[hv,hn],by omega,Nat.zero_le _,fun _=>rfl,.inl (List.eq_nil_of_length_eq_zero hn)⟩
 ·refine⟨some ⟨g,0,none⟩,cap,hv,hnc,hcm,(fun e=>by cases e),.inr ⟨g,0,rfl,fun j hj=>?_⟩⟩
  obtain⟨x,hx,ho⟩:=h2 j hj
  have:=World.ownsRow.cells h1 (g:=g) (by rw[hv];rfl) j _ hx
  rw[Addr.add_lit] at this
  exact⟨x,this,ho.rd⟩
theorem Zjx.mono {w:World} {B B':Nat} {v:Value} {L:List (List UInt8)} (h:Zjx w B v L) (hB:B'<=B):Zjx w B' v L:=by
 obtain⟨xs,⟨h1,h2⟩,h3⟩:=h
 refine⟨xs,⟨h1,?_⟩,fun j hj=>?_⟩
 ·rcases h2 with h2 | ⟨g,cap,cur,hv,hb,r⟩
  ·exact .inl h2
  ·exact .inr ⟨g,cap,cur,hv,by omega,r⟩
 ·obtain⟨x,hx,ho⟩:=h3 j hj
  exact⟨x,hx,ho.mono hB⟩
theorem Zjx.below {w w':World} {B B':Nat} {v:Value} {L:List (List UInt8)} (h:Zjx w B v L) (hb:Below B' w w') (hB:w.heap.size<=B'):Zjx w' B v L:=by
 obtain⟨xs,⟨h1,h2⟩,h3⟩:=h
 refine⟨xs,⟨h1,?_⟩,fun j hj=>?_⟩
 ·rcases h2 with h2 | ⟨g,cap,cur,hv,hbg,hg,r⟩
  ·exact .inl h2
  ·have hlt:g<w.heap.size:=(Array.getElem?_eq_some_iff.1 hg).1
   exact .inr ⟨g,cap,cur,hv,hbg,by rw[hb.block g (by omega)];exact hg,r⟩
 ·obtain⟨x,hx,ho⟩:=h3 j hj
  exact⟨x,hx,ho.below hb hB⟩
theorem Zlg:(Tryz.prog.info? 53).map (fun i=>(i.zero,i.size,i.bytes))=some (some (.slice none 0 0),1,24):=by kernel_rfl
theorem ZnE {w:World} {B B':Nat} {v x:Value} {n:Nat} {xs:List Value} {l:List UInt8} (h1:w.ownsRow B 53 1 v n xs) (h2:Own w B' x l):x.ownBlock=none∨x.ownBlock≠v.ownBlock:=by
 rcases h2.2 with ⟨hv,_⟩ | ⟨g,cap,cur,hv,_,hg,_⟩
 ·exact .inl (by rw[hv];rfl)
 ·right
  rcases h1.2 with ⟨hv',_⟩ | ⟨g',cap',cur',hv',_,hg',_⟩
  ·rw[hv,hv']
   exact fun e=>by cases e
  ·rw[hv,hv']
   intro e
   have e':g=g':=by simpa[Value.ownBlock] using e
   rw[e',hg'] at hg
   have h3:(53:Nat)=5:=by
    injection hg with hg
    injection hg
   exact absurd h3 (by decide)
theorem Zjy (w:World) (ty:TypeId) (B:Nat) (v:Value) (L:List (List UInt8)) (h:Zjx w B v L) (x:Value) (d:List UInt8) (hx:Own w B x d) (hlim:L.length<=1000000) (hbase:B<=w.heap.size):
 ∃ v' w',(Builtin.append_ #[144,144] ty #[v,.slice (some ⟨w.heap.size,0,none⟩) 1 1]).run Tryz.prog (w.alloc (.cells #[x] 53))=.ok v' w'∧Zjx w' B v' (L++[d])∧Below B w w':=by
 obtain⟨i0,hi,hz0,hz1,hz2⟩:=info_parts Zlg
 obtain⟨xs,h1,h3⟩:=h
 have hx1:x.oneCell'=true:=by
  rcases hx.2 with ⟨hv,_⟩ | ⟨g,cap,cur,hv,_⟩ <;> rw[hv] <;> rfl
 obtain⟨v',w',hrun,ho,hg,_⟩:=run_append_own (P:=Tryz.prog) (w.alloc (.cells #[x] 53)) B 144 ty 53 i0 (.slice none 0 0) 1 24 Tryz.underlying144 hi hz0 hz1 hz2 rfl (by decide) v L.length xs (h1.alloc _)
  ⟨w.heap.size,0,none⟩ 1 1 [x] rfl (fun j u hj=>by
   match j,hj with
   | 0,hj=>simp at hj;subst hj;simp[Addr.add]) (fun u hu=>by simp at hu;subst hu;exact hx1) (by unfold maxLen;omega) (by omega) (by simp;omega)
 have hl:xs.length=L.length:=by rw[h1.1,Nat.mul_one]
 refine⟨v',w',hrun,⟨xs++[x],by rw[List.length_append];exact ho,fun j hj=>?_⟩,?_⟩
 ·by_cases hj':j<L.length
  ·obtain⟨y,hy,hoy⟩:=h3 j hj'
   refine⟨y,by rw[List.getElem?_append_left (by omega)];exact hy,?_⟩
   have e:(L++[d]).getD j []=L.getD j []:=by simp[List.getD,List.getElem?_append_left hj']
   rw[e]
   exact World.ownsRow.kept (World.ownsRow.alloc hoy _) hg (ZnE h1 hoy)
  ·have ej:j=L.length:=by simp at hj;omega
   subst ej
   refine⟨x,by rw[List.getElem?_append_right (by omega),hl];simp,?_⟩
   have e:(L++[d]).getD L.length []=d:=by simp[List.getD]
   rw[e]
   exact World.ownsRow.kept (World.ownsRow.alloc hx _) hg (ZnE h1 hx)
 ·exact((Below.refl _ _).alloc hbase _).grown hg (by simp;omega) (fun k hk=>(World.ownsRow.lt h1 k hk).1)
theorem ZgE (w:World) {ops:Array Oper} {rest:List Oper} {o:Oper} {a:Act} {Q:Exit->Act->World->Prop} (hgd:o.guard=none) (s x:Operand)
 (ho:o.op=.call { callee:=.builtin .append,args:=#[s,x],argTypes:=#[144,144] })
 (B:Nat) (v:Value) (L:List (List UInt8)) (hs:a.eval s=v) (hown:Zjx w B v L) (y:Value) (d:List UInt8) (hx:a.eval x=.slice (some ⟨w.heap.size,0,none⟩) 1 1) (hy:Own w B y d)
 (hlim:L.length<=1000000) (hbase:B<=w.heap.size)
 (h:∀ v' w',Zjx w' B v' (L++[d])->Below B w w'->wpList Tryz.prog ops Q rest (a.put o.dst v') w'):wpList Tryz.prog ops Q (o::rest) a (w.alloc (.cells #[y] 53)):=
 wpList_plain hgd fun _ hK=>by
  obtain⟨v',w',hrun,h2,h3⟩:=Zjy w o.type B v L hown y d hy hlim hbase
  unfold Oper.wp execOp
  simp only [ho,resolve,invoke,builtin,Sem.run_bind,Sem.run_pure,Result.andThen_ok,List.map_toArray,List.map_cons,List.map_nil,hs,hx,hrun]
  exact hK _ _ (h v' w' h2 h3)
theorem ZpI (a b:Nat) (ha:a<4294967296) (hb:b<4294967296):bits .xor .u32 (a:Int) (b:Int)=((a ^^^ b:Nat):Int):=by
 have hx:a ^^^ b<2 ^ 32:=Nat.xor_lt_two_pow (by omega) (by omega)
 have h1:(BitVec.ofInt 32 (a:Int)).toNat=a:=by
  rw[BitVec.ofInt_natCast,BitVec.toNat_ofNat];exact Nat.mod_eq_of_lt (by omega)
 have h2:(BitVec.ofInt 32 (b:Int)).toNat=b:=by
  rw[BitVec.ofInt_natCast,BitVec.toNat_ofNat];exact Nat.mod_eq_of_lt (by omega)
 show IntKind.u32.wrap ((BitVec.ofInt 32 (a:Int) ^^^ BitVec.ofInt 32 (b:Int)).toNat:Int)=_
 rw[BitVec.toNat_xor,h1,h2,IntKind.wrap_u32]
 omega
theorem ZyA (a b:Nat) (ha:a<256) (hb:b<256):bits .xor .u8 (a:Int) (b:Int)=((a ^^^ b:Nat):Int):=by
 have hx:a ^^^ b<2 ^ 8:=Nat.xor_lt_two_pow (by omega) (by omega)
 have h1:(BitVec.ofInt 8 (a:Int)).toNat=a:=by
  rw[BitVec.ofInt_natCast,BitVec.toNat_ofNat];exact Nat.mod_eq_of_lt (by omega)
 have h2:(BitVec.ofInt 8 (b:Int)).toNat=b:=by
  rw[BitVec.ofInt_natCast,BitVec.toNat_ofNat];exact Nat.mod_eq_of_lt (by omega)
 show IntKind.u8.wrap ((BitVec.ofInt 8 (a:Int) ^^^ BitVec.ofInt 8 (b:Int)).toNat:Int)=_
 rw[BitVec.toNat_xor,h1,h2,IntKind.wrap_u8]
 omega
theorem ZrV (k x:Nat):Zde (k+1) x=Zrm (Zde k x):=by
 rw[ZmV k 1]
 rfl
theorem Zur (k:Nat) {x:Nat} (h:x<4294967296):Zde k x<4294967296:=by
 have:=ZlK k (Nat.le_refl 32) (by omega:x<2 ^ 32)
 omega
theorem ZpJ (l:List UInt8) (x k:Nat) (h:k<l.length):ZdM x (l.take (k+1))=ZfO (ZdM x (l.take k)) (l.getD k 0).toNat:=by
 rw[ZiC l k h,Zgs]
 rfl
theorem Zwg (x c:Nat) (hc:c<256):(x ^^^ c) % 256=x % 256 ^^^ c:=by
 have h:=@Nat.xor_mod_two_pow x c 8
 have e:c % 2 ^ 8=c:=Nat.mod_eq_of_lt (by omega)
 rw[e] at h
 exact h
theorem ZxJ (x c:Nat) (hc:c<256):x % 256 ^^^ c<256:=by
 have:x % 256 ^^^ c<2 ^ 8:=Nat.xor_lt_two_pow (by omega) (by omega)
 omega
theorem Zwh (c:Nat) (h:c<256):Zfv c<4294967296:=Zur 8 (by omega)
theorem Zus (s:Nat) (h:s<4294967296):bits .xor .u32 IntKind.u32.max (s:Int)=((s ^^^ 4294967295:Nat):Int):=by
 have e:IntKind.u32.max=((4294967295:Nat):Int):=by decide
 rw[e,ZpI _ _ (by decide) h,Nat.xor_comm]
def Zym (l:List UInt8):List UInt8 × Nat:=if l.length<=1048576 then(Zad l,0) else([],5)
theorem Zwi {v:Value} {k k':IntKind} {a b c d:Int} (h:a=b) (h':c=d):Ending.returned (.tuple #[v,.int k a,.int k' c])=.returned (.tuple #[v,.int k b,.int k' d]):=by rw[h,h']
theorem ZyB {l:List UInt8} (h:Zcz l):ZbC l=([],0,2):=by unfold ZbC;rw[if_pos h]
theorem ZyC {l:List UInt8} (h:¬ Zcz l) (h2:(Zab l).2=0):ZbC l=([],0,3):=by unfold ZbC;rw[if_neg h,if_pos h2]
theorem ZyD {l:List UInt8} (h:¬ Zcz l) (h2:(Zab l).2≠0) (h3:1048576<(Zab l).1):ZbC l=([],0,5):=by unfold ZbC;rw[if_neg h,if_neg h2,if_pos h3]
theorem ZyE {l:List UInt8} (h:¬ Zcz l) (h2:(Zab l).2≠0) (h3:¬ 1048576<(Zab l).1) (h4:l.length<(Zab l).2+4+(Zab l).1):ZbC l=([],0,2):=by
 unfold ZbC;rw[if_neg h,if_neg h2,if_neg h3,if_pos h4]
theorem ZyF {l:List UInt8} (h:¬ Zcz l) (h2:(Zab l).2≠0) (h3:¬ 1048576<(Zab l).1) (h4:¬ l.length<(Zab l).2+4+(Zab l).1)
 (h5:Lib.leNat ((l.drop ((Zab l).2+(Zab l).1)).take 4)≠ZaH 0 (l.take ((Zab l).2+(Zab l).1))):ZbC l=([],0,4):=by
 unfold ZbC;rw[if_neg h,if_neg h2,if_neg h3,if_neg h4,if_pos h5]
theorem ZyG {l:List UInt8} (h:¬ Zcz l) (h2:(Zab l).2≠0) (h3:¬ 1048576<(Zab l).1) (h4:¬ l.length<(Zab l).2+4+(Zab l).1)
 (h5:Lib.leNat ((l.drop ((Zab l).2+(Zab l).1)).take 4)=ZaH 0 (l.take ((Zab l).2+(Zab l).1))):ZbC l=((l.drop (Zab l).2).take (Zab l).1,(Zab l).2+4+(Zab l).1,0):=by
 unfold ZbC;rw[if_neg h,if_neg h2,if_neg h3,if_neg h4,if_neg (by rw[h5];simp)]
theorem ZrW (l:List UInt8):(Zab l).2<=9:=by
 rcases Zau l with h | ⟨h1,h2,h3,h4⟩
 ·rw[h];decide
 ·have h5:(Lib.uvarint (Zab l).1).length<=9:=Lib.uvarint_length 8 _ (Nat.lt_of_lt_of_le h1 (by decide))
  rw[<-h4,List.length_take] at h5
  omega
def ZfZ (w:World) (l:List UInt8) (e:Ending) (w':World):Prop:=
 ∃ v',e=.returned (.tuple #[v',.int .i64 ((ZbC l).2.1:Nat),.int .i64 ((ZbC l).2.2:Nat)])∧Own w' w.heap.size v' (ZbC l).1∧Below w.heap.size w w'
theorem ZfZ.refused {w:World} {l:List UInt8} {c:Nat} (h:ZbC l=([],0,c)):ZfZ w l (.returned (.tuple #[.slice none 0 0,.int .i64 0,.int .i64 (c:Int)])) w:=by
 refine⟨.slice none 0 0,?_,?_,Below.refl _ _⟩
 ·rw[h];rfl
 ·rw[h];exact Own.nil _ _
def Zut (l:List UInt8) (A:Nat) (L:List (List UInt8)):Prop:=
 Zal l=(L++(Zal (l.drop A)).1,A+(Zal (l.drop A)).2.1,(Zal (l.drop A)).2.2)∧5*L.length<=A∧A<=l.length
theorem Zut.start (l:List UInt8):Zut l 0 []:=⟨by simp,by simp,by omega⟩
theorem Zut.stop {l:List UInt8} {A:Nat} {L:List (List UInt8)} (h:Zut l A L) (hA:A<l.length) (he:(ZbC (l.drop A)).2.2≠0):Zal l=(L,A,(ZbC (l.drop A)).2.2):=by
 have hne:l.drop A≠[]:=fun e=>by
  have:=congrArg List.length e
  rw[List.length_drop,List.length_nil] at this
  omega
 rw[h.1,Zes hne he]
 simp
theorem Zut.whole {l:List UInt8} {A:Nat} {L:List (List UInt8)} (h:Zut l A L) (hA:¬ A<l.length):Zal l=(L,A,0):=by
 have e:l.drop A=[]:=List.drop_of_length_le (by omega)
 rw[h.1,e,Zeg]
 simp
theorem Zut.step {l:List UInt8} {A:Nat} {L:List (List UInt8)} (h:Zut l A L) (hA:A<l.length) (he:(ZbC (l.drop A)).2.2=0):Zut l (A+(ZbC (l.drop A)).2.1) (L++[(ZbC (l.drop A)).1]):=by
 have hne:l.drop A≠[]:=fun e=>by
  have:=congrArg List.length e
  rw[List.length_drop,List.length_nil] at this
  omega
 have h5:=Zef he
 have hle:=Ztz (l.drop A)
 rw[List.length_drop] at hle
 refine⟨?_,?_,by omega⟩
 ·rw[h.1,Zet hne he,List.drop_drop]
  simp[Nat.add_assoc]
 ·have:=h.2.1
  simp
  omega
def Zxe (l:List UInt8):List (List UInt8) × Nat:=if(Zal l).2.2=0 then((Zal l).1,0) else([],(Zal l).2.2)
theorem ZkB (w:World) (ty:TypeId) (B:Nat) (v:Value) (l0:List UInt8) (hown:Own w B v l0) (vx:Value) (l:List UInt8) (hr:Rd w vx l)
 (hlim:l0.length+l.length<=70368744177664) (hbase:B<=w.heap.size):
 ∃ v' w',(Builtin.append_ #[53,53] ty #[v,vx]).run Tryz.prog w=.ok v' w'∧Own w' B v' (l0++l)∧w.grownBy w' v.ownBlock:=by
 obtain⟨i0,hi,hz0,hz1,hz2⟩:=info_parts ZlG
 obtain⟨ao,cap,rfl,hlc,hcm,hn0,hao⟩:=hr
 cases ao with
 | none=>
  have hc:=hn0 rfl
  subst hc
  have hl:l=[]:=List.eq_nil_of_length_eq_zero (by omega)
  subst hl
  have hrun:=run_append_owned_none (P:=Tryz.prog) w B 53 ty 5 i0 1 Tryz.underlying53 hi v l0.length (Lib.byteCells l0) hown
  exact⟨v,w,hrun,by rw[List.append_nil];exact hown,⟨rfl,rfl,rfl,Nat.le_refl _,fun _ _ _=>rfl⟩⟩
 | some a=>
  obtain⟨v',w',hrun,ho,hg,_⟩:=run_append_own (P:=Tryz.prog) w B 53 ty 5 i0 (.int .u8 0) 1 1 Tryz.underlying53 hi hz0 hz1 hz2 rfl (by decide) v l0.length (Lib.byteCells l0) hown a l.length cap (Lib.byteCells l)
   (by rw[Zbg,Nat.mul_one]) (Rd.cells hao a rfl) (ZcZ l) (by unfold maxLen;omega) (by omega) hbase
  exact⟨v',w',hrun,Own.mk' ho (by simp) (by simp[Lib.byteCells]),hg⟩
theorem Zhy (w:World) {ops:Array Oper} {rest:List Oper} {o:Oper} {a:Act} {Q:Exit->Act->World->Prop} (hgd:o.guard=none) (s x:Operand)
 (ho:o.op=.call { callee:=.builtin .append,args:=#[s,x],argTypes:=#[53,53] })
 (B:Nat) (v:Value) (l0:List UInt8) (hs:a.eval s=v) (hown:Own w B v l0) (vx:Value) (l:List UInt8) (hx:a.eval x=vx) (hr:Rd w vx l)
 (hlim:l0.length+l.length<=70368744177664) (hbase:B<=w.heap.size)
 (h:∀ v' w',Own w' B v' (l0++l)->w.grownBy w' v.ownBlock->wpList Tryz.prog ops Q rest (a.put o.dst v') w'):wpList Tryz.prog ops Q (o::rest) a w:=
 wpList_plain hgd fun _ hK=>by
  obtain⟨v',w',hrun,h2,h3⟩:=ZkB w o.type B v l0 hown vx l hr hlim hbase
  unfold Oper.wp execOp
  simp only [ho,resolve,invoke,builtin,Sem.run_bind,Sem.run_pure,Result.andThen_ok,List.map_toArray,List.map_cons,List.map_nil,hs,hx,hrun]
  exact hK _ _ (h v' w' h2 h3)
open Go.RowKit Go.ChangeShapes
theorem Zjz:Tryz.prog.elem 144=53:=by kernel_rfl
theorem Zlh (w:World):(sizeOf 53).run Tryz.prog w=.ok 1 w:=by
 obtain⟨i0,hi,_,hz1,_⟩:=info_parts Zlg
 simp[sizeOf,typeInfo,hi,hz1]
theorem Zfq:Tryz.prog.underlying 144=some (.slice (Tryz.prog.elem 144)):=by rw[Zjz];exact Tryz.underlying144
theorem RdR.mid {w:World} {ao:Option Addr} {n cap:Nat} {l:List Rec} (h:RdR w (.slice ao n cap) l) (i j m:Nat) (hij:i<=j) (hj:j<=l.length) (hm:j<=m) (hmc:m<=cap):RdR w (sliced ao i j m 7) ((l.drop i).take (j-i)):=by
 obtain⟨ao',cap',hv,h1,h2,h3,hi,h4⟩:=h
 simp only [Value.slice.injEq] at hv
 obtain⟨rfl,rfl,rfl⟩:=hv
 have hlen:((l.drop i).take (j-i)).length=j-i:=by simp;omega
 have hi':∀ n ∈ (l.drop i).take (j-i),Zfw n:=fun n hn=>hi n (List.mem_of_mem_drop (List.mem_of_mem_take hn))
 unfold sliced
 by_cases hmi:m=i
 ·rw[if_pos hmi]
  have e:j-i=0:=by omega
  refine⟨ao,m-i,by rw[hlen],by omega,by omega,fun hn=>by have:=h3 hn;omega,hi',.inl ?_⟩
  rw[e]
  simp
 ·rw[if_neg hmi]
  refine⟨ao.map (·.add (i*7)),m-i,by rw[hlen],by omega,by omega,fun hn=>?_,hi',?_⟩
  ·have hn':ao=none:=by simpa using hn
   have:=h3 hn'
   omega
  ·rcases h4 with h4 | ⟨b,off,h5,h6⟩
   ·exact .inl (by rw[h4];simp)
   ·refine .inr ⟨b,off+i*7,?_,fun k hk=>?_⟩
    ·rw[h5,Option.map_some,Addr.add_lit]
    ·rw[hlen] at hk
     have h7:=h6 (i+k) (by omega)
     have e1:off+i*7+k*7=off+(i+k)*7:=by omega
     have e2:((l.drop i).take (j-i)).getD k Zai=l.getD (i+k) Zai:=by simp[List.getD,hk]
     rw[e1,e2]
     exact h7
theorem RdL.mid {w:World} {ao:Option Addr} {n cap:Nat} {l:List (List UInt8)} (h:RdL w (.slice ao n cap) l) (i j m:Nat) (hij:i<=j) (hj:j<=l.length) (hm:j<=m) (hmc:m<=cap):RdL w (sliced ao i j m 1) ((l.drop i).take (j-i)):=by
 obtain⟨ao',cap',hv,h1,h2,h3,h4⟩:=h
 simp only [Value.slice.injEq] at hv
 obtain⟨rfl,rfl,rfl⟩:=hv
 have hlen:((l.drop i).take (j-i)).length=j-i:=by simp;omega
 unfold sliced
 by_cases hmi:m=i
 ·rw[if_pos hmi]
  have e:j-i=0:=by omega
  refine⟨ao,m-i,by rw[hlen],by omega,by omega,fun hn=>by have:=h3 hn;omega,.inl ?_⟩
  rw[e]
  simp
 ·rw[if_neg hmi]
  refine⟨ao.map (·.add (i*1)),m-i,by rw[hlen],by omega,by omega,fun hn=>?_,?_⟩
  ·have hn':ao=none:=by simpa using hn
   have:=h3 hn'
   omega
  ·rcases h4 with h4 | ⟨b,off,h5,h6⟩
   ·exact .inl (by rw[h4];simp)
   ·refine .inr ⟨b,off+i,?_,fun k hk=>?_⟩
    ·rw[h5,Nat.mul_one,Option.map_some,Addr.add_lit]
    ·rw[hlen] at hk
     obtain⟨x,hx,hxr⟩:=h6 (i+k) (by omega)
     refine⟨x,by rw[Nat.add_assoc];exact hx,?_⟩
     have e2:((l.drop i).take (j-i)).getD k []=l.getD (i+k) []:=by simp[List.getD,hk]
     rw[e2]
     exact hxr
theorem RdR.cells {w:World} {ao:Option Addr} {l:List Rec} (h:l=[]∨∃ b off,ao=some ⟨b,off,none⟩∧∀ j,j<l.length->Zky w b (off+j*7) (l.getD j Zai)) (a:Addr) (ha:ao=some a):
 ∀ j u,(Zam l)[j]?=some u->w.cell? (a.add j)=some u:=by
 intro j u hu
 rcases h with h | ⟨b,off,h5,h6⟩
 ·rw[h] at hu
  simp[Zam] at hu
 ·rw[h5] at ha
  injection ha with ha
  subst ha
  have hj:j<(Zam l).length:=(List.getElem?_eq_some_iff.1 hu).1
  rw[Zbc] at hj
  have hdiv:j=j / 7*7+j % 7:=by omega
  have hg:=ZdR l (j / 7) (j % 7) (by omega) (by omega)
  rw[<-hdiv,hu] at hg
  obtain⟨c0,c1,c2,c3,c4,c5,c6⟩:=h6 (j / 7) (by omega)
  have e:∀ k,k<7->off+(j / 7*7+k)=off+j / 7*7+k:=fun k _=>by omega
  rw[Addr.add_lit,hdiv,e (j % 7) (by omega)]
  have hk:j % 7=0∨j % 7=1∨j % 7=2∨j % 7=3∨j % 7=4∨j % 7=5∨j % 7=6:=by omega
  rcases hk with hk | hk | hk | hk | hk | hk | hk
  all_goals
   rw[hk] at hg ⊢
   rw[hg]
   first | exact c0 | exact c1 | exact c2 | exact c3 | exact c4 | exact c5 | exact c6
theorem ZjA (w:World) (ty:TypeId) (B:Nat) (v:Value) (l0:List Rec) (hown:Zbp w B v l0) (vx:Value) (l:List Rec) (hr:RdR w vx l)
 (hlim:l0.length+l.length<=1000000) (hbase:B<=w.heap.size):
 ∃ v' w',(Builtin.append_ #[29,29] ty #[v,vx]).run Tryz.prog w=.ok v' w'∧Zbp w' B v' (l0++l)∧Below B w w':=by
 obtain⟨i0,hi,hz0,hz1,hz2⟩:=info_parts Zfp
 obtain⟨ao,cap,rfl,hlc,hcm,hn0,_,hao⟩:=hr
 cases ao with
 | none=>
  have hc:=hn0 rfl
  subst hc
  have hl:l=[]:=List.eq_nil_of_length_eq_zero (by omega)
  subst hl
  have hrun:=run_append_owned_none (P:=Tryz.prog) w B 29 ty 62 i0 7 Tryz.underlying29 hi v l0.length (Zam l0) hown
  exact⟨v,w,hrun,by rw[List.append_nil];exact hown,Below.refl _ _⟩
 | some a=>
  obtain⟨v',w',hrun,ho,hg,_⟩:=run_append_own (P:=Tryz.prog) w B 29 ty 62 i0 _ 7 56 Tryz.underlying29 hi hz0 hz1 hz2 rfl (by decide) v l0.length (Zam l0) hown a l.length cap (Zam l)
   (Zbc l) (RdR.cells hao a rfl) (ZdS l) (by unfold maxLen;omega) (by omega) hbase
  refine⟨v',w',hrun,?_,?_⟩
  ·unfold Zbp
   rw[List.length_append,ZcQ]
   exact ho
  ·exact(Below.refl _ _).grown hg hbase (fun k hk=>(World.ownsRow.lt hown k hk).1)
theorem ZgF (w:World) {ops:Array Oper} {rest:List Oper} {o:Oper} {a:Act} {Q:Exit->Act->World->Prop} (hgd:o.guard=none) (s x:Operand)
 (ho:o.op=.call { callee:=.builtin .append,args:=#[s,x],argTypes:=#[29,29] })
 (B:Nat) (v:Value) (l0:List Rec) (hs:a.eval s=v) (hown:Zbp w B v l0) (vx:Value) (l:List Rec) (hx:a.eval x=vx) (hr:RdR w vx l)
 (hlim:l0.length+l.length<=1000000) (hbase:B<=w.heap.size)
 (h:∀ v' w',Zbp w' B v' (l0++l)->Below B w w'->wpList Tryz.prog ops Q rest (a.put o.dst v') w'):wpList Tryz.prog ops Q (o::rest) a w:=
 wpList_plain hgd fun _ hK=>by
  obtain⟨v',w',hrun,h2,h3⟩:=ZjA w o.type B v l0 hown vx l hr hlim hbase
  unfold Oper.wp execOp
  simp only [ho,resolve,invoke,builtin,Sem.run_bind,Sem.run_pure,Result.andThen_ok,List.map_toArray,List.map_cons,List.map_nil,hs,hx,hrun]
  exact hK _ _ (h v' w' h2 h3)
def Bsg (w:World) (b:Nat) (cs:Array Value):Prop:=w.heap[b]?=some (.cells cs 217 (0,0))
theorem Bsg.lt {w:World} {b:Nat} {cs:Array Value} (h:Bsg w b cs):b<w.heap.size:=(Array.getElem?_eq_some_iff.1 h).1
theorem Bsg.below {w w':World} {b B:Nat} {cs:Array Value} (h:Bsg w b cs) (hb:Below B w w') (hB:w.heap.size<=B):Bsg w' b cs:=(hb.block b (by have:=h.lt;omega)).trans h
theorem Bsg.cell {w:World} {b:Nat} {cs:Array Value} (h:Bsg w b cs) (j:Nat):w.cell? ⟨b,j,none⟩=cs[j]?∧w.frozen? ⟨b,j,none⟩=false:=⟨cell_of_row w b j _ _ _ h,frozen_of_row w b j _ _ h⟩
def pcC (p:Pce):Array Value:=#[.int .i64 p.name,.int .i64 p.first,.int .i64 p.stop]
def ZaB:List Pce->List Value
 | []=>[]
 | c::l=>(pcC c).toList++ZaB l
theorem Zea:∀ l:List Pce,(ZaB l).length=l.length*3
 | []=>rfl
 | c::l=>by
  rw[ZaB,List.length_append,Zea l,List.length_cons]
  show 3+_=_
  omega
theorem ZjB:∀ a b:List Pce,ZaB (a++b)=ZaB a++ZaB b
 | [],_=>rfl
 | c::l,b=>by rw[List.cons_append,ZaB,ZjB l b,ZaB,List.append_assoc]
theorem ZjC:∀ (l:List Pce) (j k:Nat),j<l.length->k<3->(ZaB l)[j*3+k]?=(pcC (l.getD j Zhl))[k]?
 | c::l,0,k,_,hk=>by
  rw[ZaB,Nat.zero_mul,Nat.zero_add,List.getElem?_append_left (by show k<3;exact hk)]
  simp
 | c::l,j+1,k,hj,hk=>by
  have e:(j+1)*3+k=(pcC c).toList.length+(j*3+k):=by show _=3+_;omega
  rw[ZaB,e,List.getElem?_append_right (by omega),Nat.add_sub_cancel_left,ZjC l j k (by simpa using hj) hk]
  rfl
theorem ZpK (l:List Pce):∀ u ∈ ZaB l,u.oneCell'=true:=by
 induction l with
 | nil=>intro u hu;cases hu
 | cons c l ih=>
  intro u hu
  rw[ZaB] at hu
  rcases List.mem_append.1 hu with h | h
  ·simp[pcC] at h
   rcases h with rfl | rfl | rfl <;> rfl
  ·exact ih u h
def snC (x:ZaX × Value × Value):Array Value:=#[.int .i64 x.1.idx,.int .i64 x.1.st.kind,x.2.1,.bool x.1.st.shut,.int .i64 x.1.st.eng,x.2.2]
def snV (x:ZaX × Value × Value):Value:=.agg (snC x)
def ZaQ:List (ZaX × Value × Value)->List Value
 | []=>[]
 | c::l=>(snC c).toList++ZaQ l
theorem ZfC:∀ l:List (ZaX × Value × Value),(ZaQ l).length=l.length*6
 | []=>rfl
 | c::l=>by
  rw[ZaQ,List.length_append,ZfC l,List.length_cons]
  show 6+_=_
  omega
theorem ZjD:∀ a b:List (ZaX × Value × Value),ZaQ (a++b)=ZaQ a++ZaQ b
 | [],_=>rfl
 | c::l,b=>by rw[List.cons_append,ZaQ,ZjD l b,ZaQ,List.append_assoc]
theorem ZjE:∀ (l:List (ZaX × Value × Value)) (j k:Nat) (hj:j<l.length),k<6->(ZaQ l)[j*6+k]?=(snC l[j])[k]?
 | c::l,0,k,_,hk=>by
  rw[ZaQ,Nat.zero_mul,Nat.zero_add,List.getElem?_append_left (by show k<6;exact hk)]
  simp
 | c::l,j+1,k,hj,hk=>by
  have e:(j+1)*6+k=(snC c).toList.length+(j*6+k):=by show _=6+_;omega
  rw[ZaQ,e,List.getElem?_append_right (by omega),Nat.add_sub_cancel_left,ZjE l j k (by simpa using hj) hk]
  rfl
structure SnR (w:World) (x:ZaX × Value × Value):Prop where
 l:RdI w x.2.1 x.1.st.L
 t:RdE w x.2.2 x.1.tab
 k:I64 x.1.st.kind
 e:I64 x.1.st.eng
 i:I64 x.1.idx
theorem SnR.snV {w:World} {x:ZaX × Value × Value} (h:SnR w x):SnV w (snV x) x.1:=⟨x.2.1,x.2.2,rfl,h.l,h.k,h.e,h.t,h.i⟩
theorem SnR.below {w w':World} {x:ZaX × Value × Value} (h:SnR w x) {B:Nat} (hb:Below B w w') (hB:w.heap.size<=B):SnR w' x:=⟨h.l.below hb hB,h.t.below hb hB,h.k,h.e,h.i⟩
def ZmJ (I:Nat->Prop) (x:ZaX × Value × Value):Prop:=(x.1.st.L=[]∨∀ g,x.2.1.ownBlock=some g->I g)∧(x.1.tab=[]∨∀ g,x.2.2.ownBlock=some g->I g)
theorem ZmJ.mono {I J:Nat->Prop} {x:ZaX × Value × Value} (h:ZmJ I x) (hI:∀ k,I k->J k):ZmJ J x:=by
 obtain⟨h1,h2⟩:=h
 exact⟨h1.imp id fun h g hg=>hI g (h g hg),h2.imp id fun h g hg=>hI g (h g hg)⟩
theorem RdE.keepS {w w':World} {v:Value} {l:List Ent} (h:RdE w v l) (hk:l=[]∨∀ g,v.ownBlock=some g->w'.heap[g]?=w.heap[g]?):RdE w' v l:=by
 obtain⟨ao,cap,rfl,h2,h3,hn,hw,h4⟩:=h
 refine⟨ao,cap,rfl,h2,h3,hn,hw,?_⟩
 rcases h4 with h4 | ⟨b,off,rfl,h6⟩
 ·exact .inl h4
 ·rcases hk with hk | hk
  ·exact .inl hk
  ·exact .inr ⟨b,off,rfl,fun j hj=>(h6 j hj).keep (hk b rfl)⟩
theorem RdI.keepS {w w':World} {v:Value} {l:List Int} (h:RdI w v l) (hk:l=[]∨∀ g,v.ownBlock=some g->w'.heap[g]?=w.heap[g]?):RdI w' v l:=by
 obtain⟨ao,cap,rfl,h2,h3,hn,hw,h4⟩:=h
 refine⟨ao,cap,rfl,h2,h3,hn,hw,?_⟩
 rcases h4 with h4 | ⟨b,off,rfl,h6⟩
 ·exact .inl h4
 ·rcases hk with hk | hk
  ·exact .inl hk
  ·exact .inr ⟨b,off,rfl,fun j hj=>(World.cell?_of_block (a:=⟨b,off+j,none⟩) (hk b rfl)).trans (h6 j hj)⟩
theorem SnR.keep {w w':World} {I:Nat->Prop} {x:ZaX × Value × Value} (h:SnR w x) (hi:ZmJ I x) (hk:∀ g,I g->w'.heap[g]?=w.heap[g]?):SnR w' x:=
 ⟨h.l.keepS (hi.1.imp id fun h g hg=>hk g (h g hg)),h.t.keepS (hi.2.imp id fun h g hg=>hk g (h g hg)),h.k,h.e,h.i⟩
structure Zhz where
 rv:Value
 pv:Value
 bv:Value
 nl:Value
 nt:Value
 bs:List (ZaX × Value × Value)
def Zhz.nx (L:Zhz) (s:Sto):ZaX × Value × Value:=(s.now,L.nl,L.nt)
def stC (pd:Nat) (L:Zhz) (s:Sto):Array Value:=
 #[ptr pd,.int .i64 s.log.first,L.rv,L.pv,L.bv,.int .i64 s.now.idx,.int .i64 s.now.st.kind,L.nl,.bool s.now.st.shut,.int .i64 s.now.st.eng,L.nt,.int .i64 s.synced,.int .i64 s.cur,.bool s.nw]
structure ZeO (M I:Nat->Prop) (w:World) (p pd:Nat) (L:Zhz) (s:Sto):Prop where
 head:Bk 76 w p (stC pd L s)
 recs:Zbp w 0 L.rv s.log.recs
 pcs:w.ownsRow 0 108 3 L.pv s.log.pcs.length (ZaB s.log.pcs)
 bases:w.ownsRow 0 41 6 L.bv L.bs.length (ZaQ L.bs)
 bsEq:L.bs.map Prod.fst=s.bases
 now:SnR w (L.nx s)
 base:∀ x ∈ L.bs,SnR w x
 mh:M p
 mr:∀ g,L.rv.ownBlock=some g->M g
 mp:∀ g,L.pv.ownBlock=some g->M g
 mb:∀ g,L.bv.ownBlock=some g->M g
 inow:ZmJ I (L.nx s)
 ibase:∀ x ∈ L.bs,ZmJ I x
 ltM:∀ k,M k->k<w.heap.size
 ltI:∀ k,I k->k<w.heap.size
 dis:∀ k,M k->¬ I k
theorem ZeO.keep {M I:Nat->Prop} {w w':World} {p pd:Nat} {L:Zhz} {s:Sto} (h:ZeO M I w p pd L s) (hk:∀ k,(M k∨I k)->w'.heap[k]?=w.heap[k]?) (hs:w.heap.size<=w'.heap.size):ZeO M I w' p pd L s:=
 ⟨h.head.keep (hk p (.inl h.mh)),Zah h.recs fun g hg=>hk g (.inl (h.mr g hg)),Zah h.pcs fun g hg=>hk g (.inl (h.mp g hg)),Zah h.bases fun g hg=>hk g (.inl (h.mb g hg)),h.bsEq,
  h.now.keep h.inow fun g hg=>hk g (.inr hg),fun x hx=>(h.base x hx).keep (h.ibase x hx) fun g hg=>hk g (.inr hg),h.mh,h.mr,h.mp,h.mb,h.inow,h.ibase,fun k hm=>Nat.lt_of_lt_of_le (h.ltM k hm) hs,fun k hm=>Nat.lt_of_lt_of_le (h.ltI k hm) hs,h.dis⟩
theorem ZeO.only {M I G:Nat->Prop} {w w':World} {p pd:Nat} {L:Zhz} {s:Sto} (h:ZeO M I w p pd L s) (ho:ZaE G w w') (hM:∀ k,M k->¬ G k) (hI:∀ k,I k->¬ G k):ZeO M I w' p pd L s:=
 h.keep (fun k hk=>by
  rcases hk with hk | hk
  ·exact ho.block k (h.ltM k hk) (hM k hk)
  ·exact ho.block k (h.ltI k hk) (hI k hk)) ho.size
theorem ZeO.below {M I:Nat->Prop} {w w':World} {p pd:Nat} {L:Zhz} {s:Sto} (h:ZeO M I w p pd L s) (hb:Below w.heap.size w w'):ZeO M I w' p pd L s:=
 h.keep (fun k hk=>hb.block k (by
  rcases hk with hk | hk
  ·exact h.ltM k hk
  ·exact h.ltI k hk)) hb.size
theorem ZeO.cs {M I:Nat->Prop} {w:World} {p pd:Nat} {L:Zhz} {s:Sto} (h:ZeO M I w p pd L s):
 w.cell? ⟨p,0,none⟩=some (ptr pd)∧w.cell? ⟨p,1,none⟩=some (.int .i64 s.log.first)∧w.cell? ⟨p,2,none⟩=some L.rv∧w.cell? ⟨p,3,none⟩=some L.pv∧w.cell? ⟨p,4,none⟩=some L.bv∧
 (w.cell? ⟨p,5,none⟩=some (.int .i64 s.now.idx)∧w.cell? ⟨p,6,none⟩=some (.int .i64 s.now.st.kind)∧w.cell? ⟨p,7,none⟩=some L.nl∧w.cell? ⟨p,8,none⟩=some (.bool s.now.st.shut)∧w.cell? ⟨p,9,none⟩=some (.int .i64 s.now.st.eng)∧w.cell? ⟨p,10,none⟩=some L.nt)∧
 w.cell? ⟨p,11,none⟩=some (.int .i64 s.synced)∧w.cell? ⟨p,12,none⟩=some (.int .i64 s.cur)∧w.cell? ⟨p,13,none⟩=some (.bool s.nw):=
 ⟨(h.head.cell 0 rfl).1,(h.head.cell 1 rfl).1,(h.head.cell 2 rfl).1,(h.head.cell 3 rfl).1,(h.head.cell 4 rfl).1,⟨(h.head.cell 5 rfl).1,(h.head.cell 6 rfl).1,(h.head.cell 7 rfl).1,(h.head.cell 8 rfl).1,(h.head.cell 9 rfl).1,(h.head.cell 10 rfl).1⟩,(h.head.cell 11 rfl).1,(h.head.cell 12 rfl).1,(h.head.cell 13 rfl).1⟩
theorem ZeO.fz {M I:Nat->Prop} {w:World} {p pd:Nat} {L:Zhz} {s:Sto} (h:ZeO M I w p pd L s) (j:Nat):w.frozen? ⟨p,j,none⟩=false:=frozen_of_row w p j _ _ h.head
def SD (K:Nat->Prop) (w:World) (pd p:Nat) (s:Sto) (d:Dk) (N T:Nat):Prop:=
 ∃ F M I L,Dsk F w pd d N T∧ZeO M I w p pd L s∧(∀ k,F k->¬ K k)∧(∀ k,M k->¬ K k)∧(∀ k,I k->¬ K k)∧(∀ k,F k->¬ M k)∧(∀ k,F k->¬ I k)
def ZjF (K:Nat->Prop) (w:World) (pd p:Nat) (r:SDk × Int) (N T:Nat) (e:Ending) (w':World):Prop:=
 e=.returned (.int .i64 r.2)∧SD K w' pd p r.1.1 r.1.2 N T∧ZaE (fun k=>¬ K k) w w'
theorem SD.below {K:Nat->Prop} {w w':World} {pd p:Nat} {s:Sto} {d:Dk} {N T:Nat} (h:SD K w pd p s d N T) (hb:Below w.heap.size w w'):SD K w' pd p s d N T:=by
 obtain⟨F,M,I,L,h1,h2,h3⟩:=h
 exact⟨F,M,I,L,h1.below hb,h2.below hb,h3⟩
theorem SD.mono {K:Nat->Prop} {w:World} {pd p:Nat} {s:Sto} {d:Dk} {N T N' T':Nat} (h:SD K w pd p s d N T) (hN:N<=N') (hT:T<=T'):SD K w pd p s d N' T':=by
 obtain⟨F,M,I,L,h1,h2,h3⟩:=h
 exact⟨F,M,I,L,h1.mono hN hT,h2,h3⟩
theorem SD.less {K K':Nat->Prop} {w:World} {pd p:Nat} {s:Sto} {d:Dk} {N T:Nat} (h:SD K w pd p s d N T) (hK:∀ k,K' k->K k):SD K' w pd p s d N T:=by
 obtain⟨F,M,I,L,h1,h2,h3,h4,h5,h6⟩:=h
 exact⟨F,M,I,L,h1,h2,fun k hk hh=>h3 k hk (hK k hh),fun k hk hh=>h4 k hk (hK k hh),fun k hk hh=>h5 k hk (hK k hh),h6⟩
theorem SD.fresh {K:Nat->Prop} {w w':World} {pd p:Nat} {s:Sto} {d:Dk} {N T:Nat} (h:SD K w pd p s d N T) (hb:Below w.heap.size w w'):SD (fun k=>K k∨(w.heap.size<=k∧k<w'.heap.size)) w' pd p s d N T:=by
 obtain⟨F,M,I,L,h1,h2,h3,h4,h5,h6⟩:=h
 refine⟨F,M,I,L,h1.below hb,h2.below hb,fun k hk hh=>?_,fun k hk hh=>?_,fun k hk hh=>?_,h6⟩
 ·rcases hh with hh | hh
  ·exact h3 k hk hh
  ·have:=h1.ltF k hk
   omega
 ·rcases hh with hh | hh
  ·exact h4 k hk hh
  ·have:=h2.ltM k hk
   omega
 ·rcases hh with hh | hh
  ·exact h5 k hk hh
  ·have:=h2.ltI k hk
   omega
theorem SD.disk {K:Nat->Prop} {w:World} {pd p:Nat} {s:Sto} {d d':Dk} {N T N' T':Nat} {f:Nat} {args:Array Value} {c:Int} (h:SD K w pd p s d N T) (hK:∀ k,K k->k<w.heap.size)
 (hc:∀ F,Dsk F w pd d N T->(∀ k,F k->¬ K k)->Calls Tryz.prog f args w fun e w'=>ZlR F w pd d' c N' T' e w'):Calls Tryz.prog f args w fun e w'=>e=.returned (.int .i64 c)∧SD K w' pd p s d' N' T'∧ZaE (fun k=>¬ K k) w w':=by
 obtain⟨F,M,I,L,h1,h2,h3,h4,h5,h6,h7⟩:=h
 refine(hc F h1 h3).mono ?_
 rintro e w' ⟨he,F',hd,ho,hF⟩
 refine⟨he,⟨F',M,I,L,hd,h2.only ho (fun k hk hf=>h6 k hf hk) (fun k hk hf=>h7 k hf hk),fun k hk hh=>?_,h4,h5,fun k hk hh=>?_,fun k hk hh=>?_⟩,ho.mono h3⟩
 ·rcases hF k hk with hx | hx
  ·exact h3 k hx hh
  ·have:=hK k hh
   omega
 ·rcases hF k hk with hx | hx
  ·exact h6 k hx hh
  ·have:=h2.ltM k hh
   omega
 ·rcases hF k hk with hx | hx
  ·exact h7 k hx hh
  ·have:=h2.ltI k hh
   omega
theorem SD.own {K F M I M' I':Nat->Prop} {w w':World} {pd p:Nat} {s':Sto} {d:Dk} {N T:Nat} {L':Zhz} (hK:∀ k,K k->k<w.heap.size) (h1:Dsk F w pd d N T) (h3:∀ k,F k->¬ K k) (h4:∀ k,M k->¬ K k) (h5:∀ k,I k->¬ K k) (h6:∀ k,F k->¬ M k) (h7:∀ k,F k->¬ I k)
 (ho:ZaE M w w') (hs:ZeO M' I' w' p pd L' s') (hM:∀ k,M' k->M k∨w.heap.size<=k) (hI:∀ k,I' k->I k∨w.heap.size<=k):SD K w' pd p s' d N T∧ZaE (fun k=>¬ K k) w w':=by
 refine⟨⟨F,M',I',L',h1.only ho h6,hs,h3,fun k hk hh=>?_,fun k hk hh=>?_,fun k hk hh=>?_,fun k hk hh=>?_⟩,ho.mono h4⟩
 ·rcases hM k hk with hx | hx
  ·exact h4 k hx hh
  ·have:=hK k hh
   omega
 ·rcases hI k hk with hx | hx
  ·exact h5 k hx hh
  ·have:=hK k hh
   omega
 ·rcases hM k hh with hx | hx
  ·exact h6 k hk hx
  ·have:=h1.ltF k hk
   omega
 ·rcases hI k hh with hx | hx
  ·exact h7 k hk hx
  ·have:=h1.ltF k hk
   omega
end Go.Proofs.YtnahjngbneicaaaGreatDoor
