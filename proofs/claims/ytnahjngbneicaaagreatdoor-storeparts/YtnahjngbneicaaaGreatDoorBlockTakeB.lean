import Derived.Test.YtnahjngbneicaaaGreatDoorBlockTake
import Derived.BigRegion
namespace Go.Proofs.YtnahjngbneicaaaGreatDoor
set_option maxHeartbeats 2000000
set_option maxRecDepth 100000
open Go.RowKit
theorem Zgb (x:Int) (d:Nat) (v:Value) (m:List UInt8) (w:World) (hr:Rd w v m) (hd:d<=m.length)
 (hF:Calls Tryz.prog 168 #[v] w fun e w'=>e=.returned (.tuple #[.int .i64 x,.int .i64 (d:Nat)])∧w'=w):
 Calls Tryz.prog 167 #[v,.func (.func 168) #[] #[]] w fun e w'=>∃ v',e=.returned (.tuple #[.int .i64 x,v',.bool (decide (d≠0))])∧Rd w' v' (behind d m)∧Below w.heap.size w w':=by
 have HF:=ZZ hF
 have HR:=ZZ hr
 obtain⟨ao,cap,rfl,-⟩:=hr
 by_cases h0:d=0
 ·subst h0
  clear hF
  go_enter Tryz.func167,Tryz.ntmps167
  go_wp2_with fail
  refine HF.out.mono ?_
  rintro e w' ⟨rfl,rfl⟩
  go_wp2
  refine bodyPost_ret (v:=.tuple #[.int .i64 x,.slice none 0 0,.bool false]) (by simp[results,Tryz.results167,go_sem]) rfl ?_
  exact⟨_,rfl,Rd.nil _,Below.refl _ _⟩
 ·have hne:((d:Int) == 0)=false:=beq_eq_false_iff_ne.2 (by omega)
  have HE:Hid (behind d m=m.drop d):=if_neg h0
  have HD:Hid (decide (d≠0)=true):=decide_eq_true h0
  obtain⟨a1,c1,hcut,hr1⟩:=ZeF HR.out d hd
  have HR1:=ZZ hr1
  clear hF h0 hr1
  generalize m.drop d=M at *
  go_enter Tryz.func167,Tryz.ntmps167
  go_wp2_with fail
  refine HF.out.mono ?_
  rintro e w' ⟨rfl,rfl⟩
  go_wp2
  refine wp_region_quiet_lit (by kernel_rfl) (by kernel_rfl) ?_
  repeat (go_big_quiet_step (fail))
  refine wpQuiet_nil ?_
  rintro _ ⟨nq,rfl⟩
  go_wp2
  refine bodyPost_ret (v:=.tuple #[.int .i64 x,.slice a1 M.length c1,.bool true]) (by simp[results,Tryz.results167,go_sem]) rfl ?_
  refine⟨_,by rw[HD.out],?_,Zaz (Below.refl _ _) _⟩
  rw[HE.out]
  exact HR1.out.below (Zaz (Below.refl _ _) _) zL
theorem ZfF (x:Int) (d:Nat) (v:Value) (m:List UInt8) (w:World) (hr:Rd w v m) (hd:d<=m.length)
 (hF:Calls Tryz.prog 201 #[v] w fun e w'=>e=.returned (.tuple #[.int .i64 x,.int .i64 (d:Nat)])∧w'=w):
 Calls Tryz.prog 167 #[v,.func (.func 201) #[] #[]] w fun e w'=>∃ v',e=.returned (.tuple #[.int .i64 x,v',.bool (decide (d≠0))])∧Rd w' v' (behind d m)∧Below w.heap.size w w':=by
 have HF:=ZZ hF
 have HR:=ZZ hr
 obtain⟨ao,cap,rfl,-⟩:=hr
 by_cases h0:d=0
 ·subst h0
  clear hF
  go_enter Tryz.func167,Tryz.ntmps167
  go_wp2_with fail
  refine HF.out.mono ?_
  rintro e w' ⟨rfl,rfl⟩
  go_wp2
  refine bodyPost_ret (v:=.tuple #[.int .i64 x,.slice none 0 0,.bool false]) (by simp[results,Tryz.results167,go_sem]) rfl ?_
  exact⟨_,rfl,Rd.nil _,Below.refl _ _⟩
 ·have hne:((d:Int) == 0)=false:=beq_eq_false_iff_ne.2 (by omega)
  have HE:Hid (behind d m=m.drop d):=if_neg h0
  have HD:Hid (decide (d≠0)=true):=decide_eq_true h0
  obtain⟨a1,c1,hcut,hr1⟩:=ZeF HR.out d hd
  have HR1:=ZZ hr1
  clear hF h0 hr1
  generalize m.drop d=M at *
  go_enter Tryz.func167,Tryz.ntmps167
  go_wp2_with fail
  refine HF.out.mono ?_
  rintro e w' ⟨rfl,rfl⟩
  go_wp2
  refine wp_region_quiet_lit (by kernel_rfl) (by kernel_rfl) ?_
  repeat (go_big_quiet_step (fail))
  refine wpQuiet_nil ?_
  rintro _ ⟨nq,rfl⟩
  go_wp2
  refine bodyPost_ret (v:=.tuple #[.int .i64 x,.slice a1 M.length c1,.bool true]) (by simp[results,Tryz.results167,go_sem]) rfl ?_
  refine⟨_,by rw[HD.out],?_,Zaz (Below.refl _ _) _⟩
  rw[HE.out]
  exact HR1.out.below (Zaz (Below.refl _ _) _) zL
theorem Bo.set {w:World} {b:Nat} {cs:Array Value} (h:Bo w b cs) (j:Nat) (x:Value):Bo (w.setCell ⟨b,j,none⟩ x) b (cs.setIfInBounds j x):=by
 have:=heap_setCell_same w b j _ _ x h
 unfold Bo
 simpa using this
theorem Bo.three {w:World} {b:Nat} {a0 a1 a2:Value} (h:Bo w b #[a0,a1,a2]) (x y z:Value):Bo (((w.setCell ⟨b,0,none⟩ x).setCell ⟨b,1,none⟩ y).setCell ⟨b,2,none⟩ z) b #[x,y,z]:=by
 have h3:=((h.set 0 x).set 1 y).set 2 z
 exact h3
theorem ZsF (v:Value) (m:List UInt8) (w:World) (hr:Rd w v m) (hlim:m.length<=1000000):
 Calls Tryz.prog 208 #[v,.func (.func 209) #[] #[]] w fun e w'=>∃ v',e=.returned (.tuple #[opV (Zay m).1,v',.bool (decide ((Zay m).2≠0))])∧Rd w' v' (behind (Zay m).2 m)∧Below w.heap.size w w':=by
 have HF:=ZZ (fun W h=>ZuR v m W h hlim)
 unfold Zug at HF
 have HR:=ZZ hr
 have hle:=ZqE m
 obtain⟨ao,cap,rfl,-⟩:=hr
 have HB0:Hid (∀ X,Below w.heap.size w (w.alloc X)):=fun X=>(Below.refl _ _).alloc zL X
 generalize (Zay m).2=d at *
 generalize (Zay m).1=o at *
 have X1:Hid (∀ cs,Bo (w.alloc (.cells cs 52)) w.heap.size cs):=fun cs=>heap_alloc_new w _
 unfold opV at *
 obtain⟨code,a,b⟩:=o
 dsimp only at *
 by_cases h0:d=0
 ·subst h0
  go_enter Tryz.func208,Tryz.ntmps208
  go_wp2_with fail
  refine(HF.out _ (HR.out.below (HB0.out _) zL)).mono ?_
  rintro e W1 ⟨rfl,hb1⟩
  have hx1:Bo W1 w.heap.size _:=(X1.out _).below hb1 zL
  obtain⟨p0,f0⟩:=hx1.cell 0
  obtain⟨p1,f1⟩:=hx1.cell 1
  obtain⟨p2,f2⟩:=hx1.cell 2
  have HB1:=ZZ ((HB0.out _).trans (hb1.mono (HB0.out _).size))
  have hlt:=hx1.lt
  have hne1:W1.heap.size≠w.heap.size:=by omega
  have hne2:w.heap.size≠W1.heap.size:=by omega
  have HX1:=ZZ hx1
  clear hb1 hx1
  go_wp2
  have hx2:Bo ((((W1.setCell ⟨w.heap.size,0,none⟩ (.int .i64 code)).setCell ⟨w.heap.size,1,none⟩ (.int .i64 a)).setCell ⟨w.heap.size,2,none⟩ (.int .i64 b)).alloc (.cells #[.int .i64 code,.int .i64 a,.int .i64 b] 52)) w.heap.size #[.int .i64 code,.int .i64 a,.int .i64 b]:=(HX1.out.three _ _ _).below ((Below.refl _ _).alloc zL _) zL
  have r0:=(hx2.cell 0).1
  have r1:=(hx2.cell 1).1
  have r2:=(hx2.cell 2).1
  have HB2:=ZZ (((HB1.out.setCell (p:=⟨w.heap.size,0,none⟩) zL (.int .i64 code)).setCell (p:=⟨w.heap.size,1,none⟩) zL (.int .i64 a)).setCell (p:=⟨w.heap.size,2,none⟩) zL (.int .i64 b))
  clear hx2
  refine bodyPost_ret (v:=.tuple #[.agg #[.int .i64 code,.int .i64 a,.int .i64 b],.slice none 0 0,.bool false]) (by simp[results,Tryz.results208,go_sem,r0,r1,r2]) rfl ?_
  exact⟨_,rfl,Rd.nil _,HB2.out.alloc HB2.out.size _⟩
 ·have hne:((d:Int) == 0)=false:=beq_eq_false_iff_ne.2 (by omega)
  have HE:Hid (behind d m=m.drop d):=if_neg h0
  have HD:Hid (decide (d≠0)=true):=decide_eq_true h0
  obtain⟨a1,c1,hcut,hr1⟩:=ZeF HR.out d hle
  have HR1:=ZZ hr1
  clear h0 hr1
  generalize m.drop d=M at *
  go_enter Tryz.func208,Tryz.ntmps208
  go_wp2_with fail
  refine(HF.out _ (HR.out.below (HB0.out _) zL)).mono ?_
  rintro e W1 ⟨rfl,hb1⟩
  have hx1:Bo W1 w.heap.size _:=(X1.out _).below hb1 zL
  obtain⟨p0,f0⟩:=hx1.cell 0
  obtain⟨p1,f1⟩:=hx1.cell 1
  obtain⟨p2,f2⟩:=hx1.cell 2
  have HB1:=ZZ ((HB0.out _).trans (hb1.mono (HB0.out _).size))
  have hlt:=hx1.lt
  have hne1:W1.heap.size≠w.heap.size:=by omega
  have hne2:w.heap.size≠W1.heap.size:=by omega
  have HX1:=ZZ hx1
  clear hb1 hx1
  go_wp2
  go_region
  all_goals
   go_wp2
   have hx2:Bo ((((W1.setCell ⟨w.heap.size,0,none⟩ (.int .i64 code)).setCell ⟨w.heap.size,1,none⟩ (.int .i64 a)).setCell ⟨w.heap.size,2,none⟩ (.int .i64 b)).alloc (.cells #[.int .i64 code,.int .i64 a,.int .i64 b] 52)).drew w.heap.size #[.int .i64 code,.int .i64 a,.int .i64 b]:=(HX1.out.three _ _ _).below (((Below.refl _ _).alloc zL _).drew) zL
   have r0:=(hx2.cell 0).1
   have r1:=(hx2.cell 1).1
   have r2:=(hx2.cell 2).1
   have HB2:=ZZ (((HB1.out.setCell (p:=⟨w.heap.size,0,none⟩) zL (.int .i64 code)).setCell (p:=⟨w.heap.size,1,none⟩) zL (.int .i64 a)).setCell (p:=⟨w.heap.size,2,none⟩) zL (.int .i64 b))
   clear hx2
   refine bodyPost_ret (v:=.tuple #[.agg #[.int .i64 code,.int .i64 a,.int .i64 b],.slice a1 M.length c1,.bool true]) (by simp[results,Tryz.results208,go_sem,r0,r1,r2]) rfl ?_
   refine⟨_,by rw[HD.out],?_,(HB2.out.alloc HB2.out.size _).drew⟩
   rw[HE.out]
   exact HR1.out.below (HB2.out.alloc HB2.out.size _).drew zL
end Go.Proofs.YtnahjngbneicaaaGreatDoor
